import PyProof.Rows.All
import Wide.All
import OpenK.AllK
import Wide.FinOn
import Lean
import PyProof.EqAt
import PyProof.EqKinds
import PyProof.TupleCall
import PyProof.NeKinds
import PyProof.DictWalks
import PyProof.DictItems
import PyProof.CollectWalk
import KE.KDictList
import PyProof.AutoSeq1
import PyProof.Rows.Range3
import KE.KUnpack
import PyProof.MeetsSeq2
import PyProof.ZipIter
import KE.KRevSl
import PyProof.MeetsSeq
import PyProof.EnumMake
import PyProof.EnumFor
import PyProof.EnumStmt
import PyProof.MinMaxWalk
import PyProof.WalkInts
import PyProof.SumAny
import KE.KRevIter
import PyProof.Rows.FactsT2
import PyProof.IsiH_list
import PyProof.AttrMiss
import KE.KDictOf
import PyProof.ListRange
import KE.KDictLaws
import KE.KSortTup
import KE.KItemsList
import PyProof.ExcArgs
import KE.KSortKey
import PySem.Challenge.RW_deskround_k39_whole_minutes_turned
set_option bootstrap.genMatcherCode false
set_option genSizeOf false
noncomputable section
open List renaming length_map -> B9, getElem?_eq_getElem -> Ca, getD_eq_getElem?_getD -> Cb, getElem?_eq_some_iff -> Cc, getElem?_map -> Cd, mem_of_getElem? -> Ce, range -> Cf, mem_map -> Ci, length_append -> Ck, mem_singleton -> Cm, map_append -> Cn, map_cons -> Co, length_singleton -> Cp, mem_iff_getElem -> Cq, mem_cons -> Cr, size_toArray -> Cs, nodup_iff_pairwise_ne -> Cu, map_congr_left -> Cv, replicate -> Cw, mem_cons_of_mem -> Cz, mem_append_left -> CA, map_map -> CB, mem_append -> CC, mem_range -> CD, length_cons -> CF, mem_filter -> CG, getElem?_append_left -> CI, mem_append_right -> CJ, getElem_mem -> CL, mem_cons_self -> CM, getElem?_append_right -> CN, length_range -> CP, all_eq_true -> CS, length_filter_le -> CT, getElem?_eq_none -> CU, length_take -> CW, not_mem_nil -> CY, filter_eq_self -> CZ, take_length -> C0, find?_cons -> C1, lookup_cons -> C3, nodup_cons -> C5, getElem_map -> C7, filter_append -> C9, range_succ -> Dc, filter_cons_of_neg -> Dd, pairwise_iff_getElem -> De, replicate_succ -> Di, getElem?_range -> Dj, pairwise_map -> Dk, length_eq_zero_iff -> Dm, take_of_length_le -> Do, take_add_one -> Dp, eq_nil_of_length_eq_zero -> Dq, mem_iff_getElem? -> Dr, filter_cons_of_pos -> Dt, append_nil -> Dv, length_set -> Dw, getElem_inj -> Dx, length_drop -> Dy, ext_getElem -> DB, take_zero -> DD, pairwise_singleton -> DE, getElem?_set_self -> DH, filter_cons -> DI, findIdx?_eq_some_iff_getElem -> DJ, flatten_cons -> DL, nodup_append -> DM, getElem_take -> DN, getElem?_set_ne -> DO, findIdx_lt_length_of_exists -> DQ, getElem_range -> DR, not_of_lt_findIdx -> DT, count_cons -> DV, dropLast_concat_getLast -> DX, append_assoc -> DZ, ext_getElem? -> Ea, nodup_nil -> Eb, mem_of_mem_take -> Ec, map_nil -> Ed, toArray -> Ee, filterMap_cons -> Eh, any_cons -> Ei, map_take -> Ej, filter_map -> Ek, mem_filterMap -> Em, drop_of_length_le -> Er, any_eq_true -> Es, filter -> Et, length_dropLast -> Ew, of_mem_zip -> Ex, count_pos_iff -> Ez, getElem?_take -> EA, length_eraseIdx_of_lt -> EC, findIdx?_eq_none_iff -> ED, foldl_cons -> EF, take_take -> EH
open Nat renaming le_refl -> Cg, ne_of_lt -> Cy, lt_of_lt_of_le -> CH, zero_le -> CK, le_trans -> CO, sub_succ_lt_self -> C2, lt_succ_of_lt -> C8, le_of_lt -> Da, le_of_not_lt -> Dg, le_antisymm -> Ds, sub_self -> Du, lt_succ_self -> DA, lt_irrefl -> DC, min_eq_left -> DF, min_eq_right -> Ef, le_add_right -> Eg, not_lt -> El, lt_of_le_of_lt -> En, ne_of_gt -> Eo, lt_trichotomy -> Ep, add_le_add_left -> Ey
open Option renaming map_eq_some_iff -> Cj, isSome_iff_exists -> Dh, map_some -> DG
open Bool renaming false_ne_true -> Ct, and_eq_true -> C6, false_eq_true -> Df, not_eq_true -> Dz, eq_iff_iff -> DU, false_and -> EG
open Array renaming length_toList -> CQ, getElem?_eq_getElem -> C4, getElem?_toList -> DY, getElem_toList -> Eu, toList_push -> EE
open Int renaming toNat_natCast -> CV, emod_nonneg -> DK, emod_lt_of_pos -> DS, fdiv_eq_ediv_of_nonneg -> EB
set_option Elab.async false
set_option linter.all false
set_option maxRecDepth 100000
namespace L2
open PySem PySem.Spec PyProof.Rows
abbrev bw := Sum Int Str
def lG : bw -> Value -> Bool
 | .inl k, v => Value.isInt k v
 | .inr x, v => Value.isStrOf x v
def AR (w : World) : bw -> Int
 | .inl k => hashInt k
 | .inr x => hashStr w x
theorem bB : ∀ {k : bw} {v : Value}, lG k v = true -> (∃ i t, k = Sum.inl i /\ v = Value.int i t) \/ (∃ x t, k = Sum.inr x /\ v = Value.str x t)
 | .inl i, v, h => by
  obtain ⟨t, e⟩ := Value.isInt_shape (k := i) (v := v) h
  exact .inl ⟨i, t, rfl, e⟩
 | .inr x, v, h => by
  obtain ⟨t, e⟩ := Value.isStrOf_shape (x := x) (v := v) h
  exact .inr ⟨x, t, rfl, e⟩
theorem rW (i : Int) (t : Tok) : lG (.inl i) (.int i t) = true := by simp [lG, Value.isInt]
theorem rX (x : Str) (t : Tok) : lG (.inr x) (.str x t) = true := by simp [lG, Value.isStrOf]
theorem yk (a b : Int) : decide ((Sum.inl a : bw) = Sum.inl b) = (a == b) := by
 by_cases e : a = b
 ·subst e; simp
 ·have h : ¬ (Sum.inl a : bw) = Sum.inl b := fun q => e (Sum.inl.inj q)
  rw [decide_eq_false h]
  exact (beq_eq_false_iff_ne.mpr e).symm
theorem ym (a b : Str) : decide ((Sum.inr a : bw) = Sum.inr b) = decide (a = b) := by
 by_cases e : a = b
 ·subst e; simp
 ·have h : ¬ (Sum.inr a : bw) = Sum.inr b := fun q => e (Sum.inr.inj q)
  rw [decide_eq_false h, decide_eq_false e]
theorem yn (a : Int) (b : Str) : decide ((Sum.inl a : bw) = Sum.inr b) = false := decide_eq_false (fun q => nomatch q)
theorem yo (a : Str) (b : Int) : decide ((Sum.inr a : bw) = Sum.inl b) = false := decide_eq_false (fun q => nomatch q)
def aH (prog : Program) (w : World) : PySem.KeyKind prog w bw where
 is := lG
 hash := AR w
 inj := fun v a b ha hb => by
  rcases bB ha with ⟨i, t, rfl, rfl⟩ | ⟨x, t, rfl, rfl⟩
  ·rcases bB hb with ⟨j, u, rfl, e⟩ | ⟨y, u, rfl, e⟩
   ·injection e with e1 _; rw [e1]
   ·exact nomatch e
  ·rcases bB hb with ⟨j, u, rfl, e⟩ | ⟨y, u, rfl, e⟩
   ·exact nomatch e
   ·injection e with e1 _; rw [e1]
 byValue := fun k v h => by
  rcases bB h with ⟨i, t, rfl, rfl⟩ | ⟨x, t, rfl, rfl⟩ <;> rfl
 pyHash := fun hv h => by
  rcases bB hv with ⟨i, t, rfl, rfl⟩ | ⟨x, t, rfl, rfl⟩
  ·exact wpAny_pyHash_int h
  ·exact wpAny_pyHash_str h
 eqBool := fun hu hv h => by
  rcases bB hu with ⟨i, t, rfl, rfl⟩ | ⟨x, t, rfl, rfl⟩
  ·rcases bB hv with ⟨j, u, rfl, rfl⟩ | ⟨y, u, rfl, rfl⟩
   ·rw [yk] at h; exact wpAny_eqBool_int h
   ·rw [yn] at h; exact SeqAt.EqAt.int_str i t y u _ _ _ _ h
  ·rcases bB hv with ⟨j, u, rfl, rfl⟩ | ⟨y, u, rfl, rfl⟩
   ·rw [yo] at h; exact SeqAt.EqAt.str_int x t j u _ _ _ _ h
   ·rw [ym] at h; exact wpAny_eqBool_str h
 «strs» := fun k x t v h => by
  rcases bB h with ⟨i, u, rfl, e⟩ | ⟨y, u, rfl, e⟩
  ·exact nomatch e
  ·injection e with e1 _
   subst e1
   cases v <;> rfl
theorem oi (prog : Program) (w : World) (i : Int) (t : Tok) : (aH prog w).is (.inl i) (.int i t) = true := rW i t
theorem oj (prog : Program) (w : World) (x : Str) (t : Tok) : (aH prog w).is (.inr x) (.str x t) = true := rX x t
inductive V where
 | non | bl (b : Bool) | int (i : Int) | str (x : Str) | byt (b : Array UInt8) | flt (b : UInt64) | ref (a : Addr) | ty (n : String)
 deriving DecidableEq
def RelV : V -> Value -> Prop
 | .non, u => u = Value.none
 | .bl b, u => u = Value.bool b
 | .int i, u => ∃ t, u = Value.int i t
 | .str x, u => ∃ t, u = Value.str x t
 | .byt b, u => ∃ t, u = Value.bytes b t
 | .flt b, u => ∃ t, u = Value.float b t
 | .ref a, u => u = Value.ref a
 | .ty n, u => u = Value.type n
abbrev Vals : List V -> List Value -> Prop := Paired RelV
theorem Vals.length {xs : List V} {us : List Value} (r : Vals xs us) : xs.length = us.length := Paired.length r
theorem Vals.get : ∀ {xs : List V} {us : List Value} {i : Nat} {x : V}, Vals xs us -> xs[i]? = some x -> ∃ u, us[i]? = some u /\ RelV x u := by
 intro xs us i x h
 induction h generalizing i with
 | nil => intro e; simp at e
 | cons r t ih =>
  intro e
  cases i with
  | zero => cases e; exact ⟨_, rfl, r⟩
  | succ i => exact ih e
theorem Vals.set {x : V} {u : Value} (r : RelV x u) : ∀ {xs : List V} {us : List Value} (i : Nat), Vals xs us -> Vals (xs.set i x) (us.set i u) := by
 intro xs us i h
 induction h generalizing i with
 | nil => exact .nil
 | cons q t ih =>
  cases i with
  | zero => exact .cons r t
  | succ i => exact .cons q (ih i)
theorem Vals.append : ∀ {xs ys : List V} {us ws : List Value}, Vals xs us -> Vals ys ws -> Vals (xs ++ ys) (us ++ ws) := by
 intro xs ys us ws h s
 induction h with
 | nil => exact s
 | cons r t ih => exact .cons r ih
theorem Vals.take : ∀ {xs : List V} {us : List Value} (n : Nat), Vals xs us -> Vals (xs.take n) (us.take n) := by
 intro xs us n h
 induction h generalizing n with
 | nil => cases n <;> exact .nil
 | cons r t ih =>
  cases n with
  | zero => exact .nil
  | succ n => exact .cons r (ih n)
theorem Vals.drop : ∀ {xs : List V} {us : List Value} (n : Nat), Vals xs us -> Vals (xs.drop n) (us.drop n) := by
 intro xs us n h
 induction h generalizing n with
 | nil => cases n <;> exact .nil
 | cons r t ih =>
  cases n with
  | zero => exact .cons r t
  | succ n => exact ih n
def RelO : Option V -> Option Value -> Prop
 | some v, some u => RelV v u
 | none, none => True
 | _, _ => False
def KV {κ : Type} : List (κ × V) -> List (κ × Value) -> Prop := Paired fun (p : κ × V) (q : κ × Value) => p.1 = q.1 /\ RelV p.2 q.2
def kV : bw -> V
 | .inl i => .int i
 | .inr x => .str x
inductive HO where
 | lst (xs : List V)
 | tup (xs : List V)
 | dK (kvs : List (bw × V)) | dT (kvs : List (List bw × V))
 | set (S : Int -> Bool) (n : Nat)
 | ins (C dx : Addr) (fs : List (Str × V))
 | own (x : Addr)
 | xd (fs : List (Str × V))
 | met (f x : Addr)
 | rng (lo hi : Int)
 | frz (o : Obj) (u : HO)
 | tbl (ps : Array Value)
 | ext (φ : Heap -> Prop)
abbrev Hp := Addr -> Option HO
def az (H : Hp) (a : Addr) (o : HO) : Hp := fun b => if b = a then some o else H b
theorem ab {H : Hp} {a : Addr} {o : HO} : az H a o a = some o := by unfold az; rw [if_pos rfl]
theorem ah {H : Hp} {a b : Addr} {o : HO} (h : b ≠ a) : az H a o b = H b := by unfold az; rw [if_neg h]
theorem jx {H : Hp} {a : Addr} {o u : HO} : az (az H a o) a u = az H a u := by
 funext b; unfold az; split <;> rfl
theorem zy {H : Hp} {a b : Addr} {o u : HO} (h : H a = some o) (h' : H b = some u) (d : o ≠ u) : a ≠ b := by
 intro e; subst e; rw [h] at h'; exact d (Option.some.inj h')
theorem ak {H : Hp} {a b : Addr} {o : HO} (h : H a = some o) (h' : H b = none) : a ≠ b := by
 intro e; subst e; rw [h] at h'; cases h'
section
variable (P : Program) (w : World)
def ObjOk (H : Hp) (h : Heap) (a : Addr) : HO -> Prop
 | .lst xs => xs.length <= sizeLine /\ ∃ (its : List Value) (n : Nat), Vals xs its /\ h.get? a = some { cls := .type "list", data := .seq its.toArray n }
 | .tup xs => xs.length <= sizeLine /\ ∃ its : List Value, Vals xs its /\ IsTup h a its.toArray
 | .dK kvs => kvs.length <= sizeLine /\ (a == sysModules) = false /\ ∃ vs, KV kvs vs /\ h.DictOf (aH P w) a vs
 | .dT kvs => kvs.length <= sizeLine /\ (a == sysModules) = false /\ ∃ xs : List (List bw × Addr × Value),
  Paired (fun (p : List bw × V) (q : List bw × Addr × Value) => p.1 = q.1 /\ H q.2.1 = some (.tup (p.1.map kV)) /\ RelV p.2 q.2.2) kvs xs /\
  ∃ o es ep, h.get? a = some o /\ o.ExactDict /\ o.data = .dict es ep /\ es.toList = xs.map (entryOfKey (tupleKind (aH P w))) /\ (xs.map (·.1)).Nodup
 | .set S n => h.SetOf (intKind P w) a S n
 | .ins C dx fs => H dx = some (.own a) /\ fs.length <= 1000 /\ dx ≠ a /\ h.get? a = some (PySem.W.instObj C dx) /\
  ∃ mA, h.Ns1 dx mA /\ (∀ f, RelO (fs.lookup f) (mA f)) /\ PySem.Within mA (fs.map (·.1))
 | .own _ => ∃ o, h.get? a = some o
 | .xd fs => ∃ mA, h.Ns1 a mA /\ ∀ f, RelO (fs.lookup f) (mA f)
 | .rng lo hi => ∃ t u v, h.get? a = some { cls := .type "range", data := .fields #[.int lo t, .int hi u, .int 1 v] }
 | .frz o u => h.get? a = some o /\ ObjOk H h a u
 | .tbl ps => h.get? a = some { cls := .none, data := .fields ps }
 | .met f x => h.get? a = some (PySem.W.methodObj (.ref f) (.ref x))
 | .ext φ => φ h /\ (∃ o, h.get? a = some o) /\ ∀ h1 h2 : Heap, φ h1 -> (∀ o, h1.get? a = some o -> h2.get? a = some o) -> φ h2
def HOk (H : Hp) (h : Heap) : Prop := ∀ a o, H a = some o -> ObjOk P w H h a o
end
section
variable {P : Program} {w : World} {H H' : Hp} {h h' : Heap} {a : Addr} {o : HO}
theorem ObjOk.lt (x : ObjOk P w H h a o) : a < h.objs.size := by
 cases o with
 | lst xs => obtain ⟨_, _, _, _, e⟩ := x; exact Heap.lt_size e
 | tup xs => obtain ⟨_, _, _, p⟩ := x; exact p.lt
 | dK kvs => obtain ⟨_, _, _, _, o, _, _, e, _⟩ := x; exact Heap.lt_size e
 | dT kvs => obtain ⟨_, _, _, _, o, _, _, e, _⟩ := x; exact Heap.lt_size e
 | set S n => obtain ⟨o, _, _, _, e, _⟩ := x; exact Heap.lt_size e
 | ins C dx fs => obtain ⟨_, _, _, e, _⟩ := x; exact Heap.lt_size e
 | own y => obtain ⟨_, e⟩ := x; exact Heap.lt_size e
 | xd fs => obtain ⟨_, ⟨_, _, _, e, _⟩, _⟩ := x; exact Heap.lt_size e
 | rng lo hi => obtain ⟨_, _, _, e⟩ := x; exact Heap.lt_size e
 | frz ob u => obtain ⟨e, _⟩ := x; exact Heap.lt_size e
 | tbl ps => exact Heap.lt_size (show h.get? a = some _ from x)
 | met f y => exact Heap.lt_size (show h.get? a = some _ from x)
 | ext φ => obtain ⟨_, ⟨_, e⟩, _⟩ := x; exact Heap.lt_size e
theorem Paired.mapP {α β : Type} {F G : α -> β -> Prop} : ∀ {l₁ : List α} {l₂ : List β}, Paired F l₁ l₂ -> (∀ a b, F a b -> G a b) -> Paired G l₁ l₂ := by
 intro l₁ l₂ h f
 induction h with
 | nil => exact .nil
 | cons r t ih => exact .cons (f _ _ r) ih
theorem ObjOk.stay (x : ObjOk P w H h a o) (k : ∀ b u, (b = a \/ H b = some (.own a)) -> h.get? b = some u -> h'.get? b = some u)
  (ho : ∀ b, H b = some (.own a) -> H' b = some (.own a)) (ht : ∀ b xs, H b = some (.tup xs) -> H' b = some (.tup xs)) : ObjOk P w H' h' a o := by
 induction o with
 | lst xs => obtain ⟨z, its, n, r, e⟩ := x; exact ⟨z, its, n, r, k _ _ (.inl rfl) e⟩
 | tup xs => obtain ⟨z, its, r, ob, e, c⟩ := x; exact ⟨z, its, r, ob, k _ _ (.inl rfl) e, c⟩
 | dK kvs => obtain ⟨z, y, vs, r, ob, es, ep, e, c⟩ := x; exact ⟨z, y, vs, r, ob, es, ep, k _ _ (.inl rfl) e, c⟩
 | dT kvs =>
  obtain ⟨z, y, xs, r, ob, es, ep, e, c⟩ := x
  exact ⟨z, y, xs, Paired.mapP r fun p q z => ⟨z.1, ht _ _ z.2.1, z.2.2⟩, ob, es, ep, k _ _ (.inl rfl) e, c⟩
 | set S n => obtain ⟨ob, es, ep, t, e, c⟩ := x; exact ⟨ob, es, ep, t, k _ _ (.inl rfl) e, c⟩
 | ins C dx fs =>
  obtain ⟨d, z, ne, e, mA, ⟨od, es, ep, e2, c⟩, r⟩ := x
  exact ⟨ho _ d, z, ne, k _ _ (.inl rfl) e, mA, ⟨od, es, ep, k _ _ (.inr d) e2, c⟩, r⟩
 | own y => obtain ⟨ob, e⟩ := x; exact ⟨ob, k _ _ (.inl rfl) e⟩
 | xd fs => obtain ⟨mA, ⟨od, es, ep, e, c⟩, r⟩ := x; exact ⟨mA, ⟨od, es, ep, k _ _ (.inl rfl) e, c⟩, r⟩
 | rng lo hi => obtain ⟨t, u, v, e⟩ := x; exact ⟨t, u, v, k _ _ (.inl rfl) e⟩
 | frz ob u ih => obtain ⟨e, q⟩ := x; exact ⟨k _ _ (.inl rfl) e, ih q⟩
 | tbl ps =>
  have e : h.get? a = some { cls := .none, data := .fields ps } := x
  show h'.get? a = some { cls := .none, data := .fields ps }
  exact k a _ (.inl rfl) e
 | met f y =>
  have e : h.get? a = some (PySem.W.methodObj (.ref f) (.ref y)) := x
  show h'.get? a = some (PySem.W.methodObj (.ref f) (.ref y))
  exact k a _ (.inl rfl) e
 | ext φ => obtain ⟨p, ⟨o, e⟩, st⟩ := x; exact ⟨st _ _ p fun o q => k _ _ (.inl rfl) q, ⟨o, k _ _ (.inl rfl) e⟩, st⟩
theorem HOk.lt (x : HOk P w H h) (e : H a = some o) : a < h.objs.size := (x a o e).lt
theorem HOk.fresh (x : HOk P w H h) (e : h.objs.size <= a) : H a = none := by
 cases q : H a with
 | none => rfl
 | some u => exact absurd (CH (x.lt q) e) (DC _)
theorem HOk.kept (x : HOk P w H h) (k : ∀ b u, h.get? b = some u -> h'.get? b = some u) : HOk P w H h' := fun a o e =>
 (x a o e).stay (fun b u _ q => k b u q) (fun _ q => q) fun _ _ q => q
theorem HOk.laid (x : HOk P w H h) (k : ∀ b u, h.get? b = some u -> h'.get? b = some u) (hp : h.objs.size <= a) (new : ObjOk P w (az H a o) h' a o) : HOk P w (az H a o) h' := fun b u e => by
 have hn := x.fresh hp
 by_cases hb : b = a
 ·subst hb; rw [ab] at e; cases e; exact new
 ·rw [ah hb] at e
  exact (x b u e).stay (fun c v _ q => k c v q) (fun c q => by rw [ah (ak q hn)]; exact q) fun c xs q => by rw [ah (ak q hn)]; exact q
end
def Rd (H : Hp) (a : Addr) (u : HO) : Prop := H a = some u \/ ∃ o, H a = some (.frz o u)
theorem Rd.ok {P : Program} {w : World} {H : Hp} {h : Heap} {a : Addr} {u : HO} (r : Rd H a u) (x : HOk P w H h) : ObjOk P w H h a u := by
 rcases r with r | ⟨o, r⟩
 ·exact x a u r
 ·obtain ⟨_, q⟩ := x a _ r
  exact q
def zq : Option HO -> Prop
 | some (.lst _) => True
 | some (.dK _) => True
 | some (.dT _) => True
 | some (.set _ _) => True
 | some (.ins _ _ _) => True
 | some (.ext _) => True
 | _ => False
section
variable {P : Program} {w : World} {H : Hp} {h h' : Heap} {x e : Addr} {o' : HO}
theorem HOk.write (ok : HOk P w H h) (mu : zq (H x)) (he : e = x \/ H e = some (.own x)) (k : ∀ b u, b ≠ e -> h.get? b = some u -> h'.get? b = some u) (heo : ∃ u, h'.get? e = some u)
  (new : ObjOk P w (az H x o') h' x o') : HOk P w (az H x o') h' := fun b u q => by
 have nown : ∀ c y, H c = some (.own y) -> c ≠ x := fun c y r z => by subst z; rw [r] at mu; exact mu
 have ntup : ∀ c xs, H c = some (.tup xs) -> c ≠ x := fun c xs r z => by subst z; rw [r] at mu; exact mu
 by_cases hb : b = x
 ·subst hb; rw [ab] at q; cases q; exact new
 ·rw [ah hb] at q
  by_cases hbe : b = e
  ·have q' : H b = some (.own x) := by
    rcases he with z | z
    ·exact absurd (hbe.trans z) hb
    ·rw [hbe]; exact z
   rw [q] at q'; cases q'
   obtain ⟨v, hv⟩ := heo
   exact ⟨v, by rw [hbe]; exact hv⟩
  ·refine (ok b u q).stay (fun c v hc r => k c v ?_ r) (fun c r => by rw [ah (nown c b r)]; exact r) fun c xs r => by rw [ah (ntup c xs r)]; exact r
   rcases hc with rfl | hc
   ·exact hbe
   ·rintro rfl
    rcases he with z | z
    ·exact nown c b hc z
    ·rw [hc] at z; cases z; exact hb rfl
end
structure Un (fs ex : List Addr) (H H' : Hp) (h h' : Heap) : Prop where
 keep : ∀ b o, h.get? b = some o -> H b = none -> b ∉ fs -> b ∉ ex -> h'.get? b = some o
 slot : ∀ b o, h.get? b = some o -> H b = none -> b ∈ fs -> b ∉ ex -> ∃ sl, h'.get? b = some { o with slots := sl }
 free : ∀ b o, h.get? b = some o -> H b = none -> b ∉ ex -> H' b = none
 there : ∀ b o, h.get? b = some o -> b ∉ ex -> ∃ o', h'.get? b = some o'
 tups : ∀ b xs, H b = some (.tup xs) -> H' b = some (.tup xs)
 frzs : ∀ b o u, H b = some (.frz o u) -> H' b = some (.frz o u)
 tbls : ∀ b ps, H b = some (.tbl ps) -> ∃ more, H' b = some (.tbl (ps ++ more))
section
variable {fs fs' ex ex' : List Addr} {H H1 H2 : Hp} {h h1 h2 h' : Heap} {a x e : Addr} {o : HO}
theorem Un.any (u : Un fs ex H H1 h h1) {b : Addr} {ob : Obj} (q : h.get? b = some ob) (n : H b = none) (hx : b ∉ ex) : ∃ sl, h1.get? b = some { ob with slots := sl } := by
 by_cases hb : b ∈ fs
 ·exact u.slot b ob q n hb hx
 ·exact ⟨ob.slots, u.keep b ob q n hb hx⟩
theorem Un.trans (a : Un fs ex H H1 h h1) (b : Un fs ex H1 H2 h1 h2) : Un fs ex H H2 h h2 where
 keep := fun c ob q n hc hx => b.keep c ob (a.keep c ob q n hc hx) (a.free c ob q n hx) hc hx
 slot := fun c ob q n hc hx => by
  obtain ⟨sl, e1⟩ := a.slot c ob q n hc hx
  obtain ⟨sl', e2⟩ := b.slot c _ e1 (a.free c ob q n hx) hc hx
  exact ⟨sl', e2⟩
 free := fun c ob q n hx => by
  obtain ⟨o', e1⟩ := a.there c ob q hx
  exact b.free c o' e1 (a.free c ob q n hx) hx
 there := fun c ob q hx => by
  obtain ⟨o', e1⟩ := a.there c ob q hx
  exact b.there c o' e1 hx
 tups := fun c xs q => b.tups c xs (a.tups c xs q)
 frzs := fun c ob xs q => b.frzs c ob xs (a.frzs c ob xs q)
 tbls := fun c ps q => by
  obtain ⟨m1, e1⟩ := a.tbls c ps q
  obtain ⟨m2, e2⟩ := b.tbls c _ e1
  exact ⟨m1 ++ m2, by rw [e2, Array.append_assoc]⟩
theorem Un.kept (k : ∀ b u, h.get? b = some u -> h'.get? b = some u) : Un fs ex H H h h' :=
 ⟨fun b ob q _ _ _ => k b ob q, fun b ob q _ _ _ => ⟨ob.slots, k b ob q⟩, fun _ _ _ n _ => n, fun b ob q _ => ⟨ob, k b ob q⟩, fun _ _ q => q, fun _ _ _ q => q, fun _ ps q => ⟨#[], by rw [q]; simp⟩⟩
theorem Un.refl : Un fs ex H H h h := Un.kept fun _ _ q => q
theorem Un.laid (k : ∀ b u, h.get? b = some u -> h'.get? b = some u) (hp : h.objs.size <= a) (hn : H a = none) : Un fs ex H (az H a o) h h' where
 keep := fun b u q _ _ _ => k b u q
 slot := fun b u q _ _ _ => ⟨u.slots, k b u q⟩
 free := fun b u q n _ => by rw [ah (Cy (CH (Heap.lt_size q) hp))]; exact n
 there := fun b u q _ => ⟨u, k b u q⟩
 tups := fun b xs q => by rw [ah (ak q hn)]; exact q
 frzs := fun b u xs q => by rw [ah (ak q hn)]; exact q
 tbls := fun b ps q => ⟨#[], by rw [ah (ak q hn), q]; simp⟩
theorem Un.write (mu : zq (H x)) (he : e = x \/ H e = some (.own x)) (k : ∀ b u, b ≠ e -> h.get? b = some u -> h'.get? b = some u) (heo : ∃ u, h'.get? e = some u) : Un fs ex H (az H x o) h h' := by
 have hx : ∀ b, H b = none -> b ≠ x := fun b n z => by subst z; rw [n] at mu; exact mu
 have hb : ∀ b, H b = none -> b ≠ e := fun b n z => by
  subst z
  rcases he with r | r
  ·exact hx b n r
  ·rw [n] at r; cases r
 have hm : ∀ b u, H b = some u -> ¬ zq (some u) -> b ≠ x := fun b u q nm z => by subst z; rw [q] at mu; exact nm mu
 refine ⟨fun b u q n _ _ => k b u (hb b n) q, fun b u q n _ _ => ⟨u.slots, k b u (hb b n) q⟩, fun b u q n _ => by rw [ah (hx b n)]; exact n, fun b u q _ => ?_,
  fun b xs q => by rw [ah (hm b _ q fun z => z)]; exact q, fun b u xs q => by rw [ah (hm b _ q fun z => z)]; exact q, fun b ps q => ⟨#[], by rw [ah (hm b _ q fun z => z), q]; simp⟩⟩
 by_cases hbe : b = e
 ·subst hbe; exact heo
 ·exact ⟨u, k b u hbe q⟩
end
def AF (h : Heap) (H : Hp) : List Addr := (Cf h.objs.size).filter fun a => (H a).isSome
def mI (h : Heap) (H : Hp) : Heap := PySem.W.hideAll h (AF h H)
theorem rY (h : Heap) (H : Hp) : (mI h H).objs.size = h.objs.size := PySem.W.hideAll_size _ _
theorem ub {h : Heap} {H : Hp} {b : Addr} {o : Obj} (e : h.get? b = some o) (n : H b = none) : (mI h H).get? b = some o :=
 PySem.W.hideAll_get _ e fun hm => by
  have q : (H b).isSome = true := (CG.mp hm).2
  rw [n] at q; simp at q
theorem v8 {h : Heap} {H : Hp} {b : Addr} {o : Obj} (e : (mI h H).get? b = some o) : h.get? b = some o /\ H b = none := by
 have e' : h.get? b = some o := PySem.W.of_hideAll (AF h H) e
 refine ⟨e', ?_⟩
 cases q : H b with
 | none => rfl
 | some x =>
  have hm : b ∈ AF h H := CG.mpr ⟨CD.mpr (Heap.lt_size e'), by simp [q]⟩
  have z : (mI h H).get? b = none := PySem.W.hideAll_none (AF h H) hm
  rw [z] at e; cases e
def v9 (g h : Heap) (L : Addr) : List (Addr × Obj) := (Cf h.objs.size).filterMap fun a => if a = L \/ (g.get? a).isSome = true then none else (h.get? a).map fun o => (a, o)
def cW (g h : Heap) (L d : Addr) : List (Addr × Obj) := (v9 g h L).filter fun p => decide (p.1 ≠ d)
structure Mod (K : PySem.W.Frag) (mg : Str -> Option Value) (base : Heap) : Prop where
 kin : K.In base
 glob : base.Ns mainGlobals mg
 blt : ∃ mb, base.Ns builtinsNs mb /\ ∀ x : Str, x ≠ "__name__" -> mb x = bootBuiltins x
 nolimit : base.NoLimit
structure Cx where
 prog : Program
 w : World
 K : PySem.W.Frag
 mg : Str -> Option Value
 base : Heap
 A : Around
 N : List Str
 s₀ : Shared
 H₀ : Hp
 env : Env
 outer : List Env
 stack : List Env
 ex : List Addr
 fn : Str -> Bool
 calm : Bool
 pn : List (Addr × Obj)
 xe : Value -> Shared -> Prop
def gj (l : List Env) : List Addr := l.filterMap (·.frame)
abbrev Cx.fs (X : Cx) : List Addr := gj X.outer
def AG (sc : Scope) (x : Str) : Prop := sc.names.lookup x = some .local \/ sc.names.lookup x = some .cell \/ sc.names.lookup x = some .free
def zz (sc : Scope) (x : Str) : Prop := sc.names.lookup x = some .local \/ sc.names.lookup x = some .cell
def AS (env : Env) (h : Heap) (m : Str -> Option Value) (x : Str) (u : Value) : Prop :=
 (env.kindOf x = some .local /\ m x = some u) \/ ((env.kindOf x = some .cell \/ env.kindOf x = some .free) /\ ∃ c, env.cells.lookup x = some c /\ h.IsCell c (some u))
structure Cx.Ok (X : Cx) : Prop where
 mod : Mod X.K X.mg X.base
 kind : X.env.scope.kind = .function
 glob : X.env.globals = mainGlobals
 blt : X.env.builtins = builtinsNs
 above : X.s₀.heap.objs.size <= X.env.locals
 inj : ∀ x y c, X.env.cells.lookup x = some c -> X.env.cells.lookup y = some c -> x = y
 has : ∀ x, (X.env.kindOf x = some .cell \/ X.env.kindOf x = some .free) -> ∃ c, X.env.cells.lookup x = some c
 cab : ∀ x c, X.fn x = true -> X.env.cells.lookup x = some c -> X.s₀.heap.objs.size <= c
 hd : X.calm = true -> X.A.handled = none
 frames : X.A.frames = some X.stack
 stk : X.stack = X.outer \/ (X.stack = X.env :: X.outer /\ X.env.frame = some X.env.locals)
 exf : ∀ b ∈ X.ex, b ≠ X.env.locals /\ ∀ x c, X.env.cells.lookup x = some c -> c ≠ b
 bs : ∀ b o, X.base.get? b = some o -> X.s₀.heap.get? b = some o /\ X.H₀ b = none
 bsz : X.base.objs.size <= X.s₀.heap.objs.size
 noex : ∀ b o, X.base.get? b = some o -> b ∉ X.ex
 exfs : ∀ b ∈ X.ex, b ∉ X.fs
 funs : X.s₀.heap.FunFrames X.base X.outer
 frf : ∀ b ∈ X.fs, X.H₀ b = none
structure Inv (X : Cx) (pins : List (Addr × Obj)) (σ : List (Option V)) (H : Hp) (s : Shared) : Prop where
 ok : X.Ok
 os : s.os = X.s₀.os
 bare : AllBare s.gens
 base : Un X.fs X.ex X.H₀ H X.s₀.heap s.heap
 loc : ∃ m, s.heap.Ns X.env.locals m /\ ∀ (i : Nat) (x : Str) (v : V), X.N[i]? = some x -> σ[i]? = some (some v) -> AG X.env.scope x -> ∃ u, RelV v u /\ AS X.env s.heap m x u
 cell : ∀ x c, X.env.cells.lookup x = some c -> ∃ v, s.heap.IsCell c v
 free : H X.env.locals = none
 freeC : ∀ x c, X.env.cells.lookup x = some c -> H c = none
 pin : ∀ p ∈ X.pn ++ pins, s.heap.get? p.1 = some p.2 /\ H p.1 = none /\ p.1 ≠ X.env.locals /\ p.1 ∉ X.fs /\ ∀ v, p.2.data ≠ .cell v
 hok : HOk X.prog X.w H s.heap
 len : σ.length = X.N.length
section
variable {X : Cx} {pins : List (Addr × Obj)} {σ : List (Option V)} {H H' : Hp} {s : Shared} {h' : Heap}
theorem Cx.Ok.nofr (ok : X.Ok) {b : Addr} {o : Obj} (e : X.base.get? b = some o) : b ∉ X.fs := fun hb => by
 have := (ok.funs.mem hb).1
 rw [e] at this; cases this
theorem Inv.bs (I : Inv X pins σ H s) : ∀ b o, X.base.get? b = some o -> s.heap.get? b = some o /\ H b = none := fun b o e =>
 ⟨I.base.keep b o (I.ok.bs b o e).1 (I.ok.bs b o e).2 (I.ok.nofr e) (I.ok.noex b o e), I.base.free b o (I.ok.bs b o e).1 (I.ok.bs b o e).2 (I.ok.noex b o e)⟩
theorem Inv.bk (I : Inv X pins σ H s) : ∀ b o, X.base.get? b = some o -> s.heap.get? b = some o := fun b o e => (I.bs b o e).1
theorem Inv.mod (I : Inv X pins σ H s) : Mod X.K X.mg X.base := I.ok.mod
theorem Inv.kIn (I : Inv X pins σ H s) : X.K.In s.heap := I.ok.mod.kin.keeps I.bk
theorem Inv.fr (I : Inv X pins σ H s) : ∃ m, Fr X.base X.env.locals s.heap m :=
 let ⟨m, hn, _⟩ := I.loc
 ⟨m, hn, I.bk, CO I.ok.bsz I.ok.above⟩
theorem Inv.lt (I : Inv X pins σ H s) : X.env.locals < s.heap.objs.size := let ⟨_, hn, _⟩ := I.loc; hn.lt
theorem Inv.sz (I : Inv X pins σ H s) : X.s₀.heap.objs.size <= s.heap.objs.size := CO I.ok.above (Da I.lt)
theorem Inv.nofs (I : Inv X pins σ H s) {a : Addr} (h : s.heap.objs.size <= a) : a ∉ X.fs := fun hb => by
 obtain ⟨_, o, ho, _⟩ := I.ok.funs.mem hb
 exact absurd (CH (Heap.lt_size ho) (CO I.sz h)) (DC _)
theorem Inv.cne (I : Inv X pins σ H s) : ∀ x c, X.env.cells.lookup x = some c -> c ≠ X.env.locals := fun x c e z => by
 obtain ⟨v, o, ho, hd⟩ := I.cell x c e
 obtain ⟨m, ⟨o', es, ep, ho', hd', _⟩, _⟩ := I.loc
 rw [z, ho'] at ho; cases ho; rw [hd'] at hd; cases hd
theorem Inv.funs (I : Inv X pins σ H s) : s.heap.FunFrames X.base X.outer := by
 have all : ∀ (l : List Env), (∀ b ∈ gj l, b ∈ X.fs) -> X.s₀.heap.FunFrames X.base l -> s.heap.FunFrames X.base l := by
  intro l
  induction l with
  | nil => intro _ _; trivial
  | cons env r ih =>
   intro hs hl
   obtain ⟨hk, ⟨L, o, hf, hn, ho, hd⟩, hr⟩ := hl
   have hL : L ∈ X.fs := hs L (by unfold gj; rw [Eh, hf]; exact CM)
   obtain ⟨sl, e⟩ := I.base.slot L o ho (I.ok.frf L hL) hL fun z => I.ok.exfs L z hL
   exact ⟨hk, ⟨L, _, hf, hn, e, hd⟩, ih (fun b hb => hs b (by unfold gj; rw [Eh, hf]; exact Cz _ hb)) hr⟩
 exact all X.outer (fun _ hb => hb) I.ok.funs
theorem Inv.stack (I : Inv X pins σ H s) : s.heap.FunFrames X.base X.stack := by
 rcases I.ok.stk with e | ⟨e, hf⟩
 ·rw [e]; exact I.funs
 ·rw [e]
  obtain ⟨m, hn, _⟩ := I.loc
  refine .cons (by rw [I.ok.kind]; decide) hf hn ?_ I.funs
  exact Heap.get?_none_of_le (CO I.ok.bsz I.ok.above)
theorem Inv.stkSub (I : Inv X pins σ H s) : ∀ b ∈ gj X.stack, b ∈ X.env.locals :: X.fs := fun b hb => by
 rcases I.ok.stk with e | ⟨e, hf⟩
 ·rw [e] at hb; exact Cz _ hb
 ·rw [e] at hb
  unfold gj at hb
  rw [Eh, hf] at hb
  exact hb
theorem Inv.stkFree (I : Inv X pins σ H s) : ∀ b ∈ gj X.stack, H b = none := fun b hb => by
 rcases Cr.mp (I.stkSub b hb) with e | hb
 ·rw [e]; exact I.free
 ·obtain ⟨_, o, ho, _⟩ := I.ok.funs.mem hb
  exact I.base.free b o ho (I.ok.frf b hb) fun z => I.ok.exfs b z hb
theorem Inv.step {g' : Array GenState} {t' : Nat} {d' : Drawn} {ch : List Addr} (I : Inv X pins σ H s)
  (hch : ∀ b ∈ ch, (b ∈ X.ex \/ X.s₀.heap.objs.size <= b) /\ b ≠ X.env.locals /\ (∀ x c, X.env.cells.lookup x = some c -> c ≠ b) /\ ∀ p ∈ X.pn ++ pins, p.1 ≠ b)
  (keep : ∀ b o, b ≠ X.env.locals -> b ∉ X.fs -> b ∉ ch -> s.heap.get? b = some o -> H b = none -> h'.get? b = some o)
  (slot : ∀ b o, b ≠ X.env.locals -> b ∈ X.fs -> b ∉ ch -> s.heap.get? b = some o -> H b = none -> ∃ sl, h'.get? b = some { o with slots := sl }) (free : ∀ b o, b ∉ ch -> s.heap.get? b = some o -> H b = none -> H' b = none)
  (there : ∀ b o, b ∉ ch -> s.heap.get? b = some o -> ∃ o', h'.get? b = some o')
  (tups : ∀ b xs, H b = some (.tup xs) -> H' b = some (.tup xs)) (frzs : ∀ b o u, H b = some (.frz o u) -> H' b = some (.frz o u)) (tbls : ∀ b ps, H b = some (.tbl ps) -> ∃ more, H' b = some (.tbl (ps ++ more)))
  (ns : ∀ m, s.heap.Ns X.env.locals m -> h'.Ns X.env.locals m) (hok : HOk X.prog X.w H' h') (hg : AllBare g') :
  Inv X pins σ H' { s with heap := h', gens := g', drawn := d', toks := t' } := by
 have neL : ∀ b o, X.s₀.heap.get? b = some o -> b ≠ X.env.locals := fun b o e => Cy (CH (Heap.lt_size e) I.ok.above)
 have neC : ∀ b o, X.s₀.heap.get? b = some o -> b ∉ X.ex -> b ∉ ch := fun b o e hx hb => by
  rcases (hch b hb).1 with z | z
  ·exact hx z
  ·exact absurd (CH (Heap.lt_size e) z) (DC _)
 have cellK : ∀ x c, X.env.cells.lookup x = some c -> ∀ v, s.heap.IsCell c v -> h'.IsCell c v := fun x c e v ⟨o, ho, hd⟩ => by
  have nch : c ∉ ch := fun z => (hch c z).2.2.1 x c e rfl
  by_cases hc : c ∈ X.fs
  ·obtain ⟨sl, q⟩ := slot c o (I.cne x c e) hc nch ho (I.freeC x c e)
   exact ⟨_, q, hd⟩
  ·exact ⟨o, keep c o (I.cne x c e) hc nch ho (I.freeC x c e), hd⟩
 refine ⟨I.ok, I.os, hg, ⟨fun b o e n hb hx => ?_, fun b o e n hb hx => ?_, fun b o e n hx => ?_, fun b o e hx => ?_, fun b xs e => tups b xs (I.base.tups b xs e), fun b o xs e => frzs b o xs (I.base.frzs b o xs e), fun b ps e => ?_⟩, ?_, fun x c e => ?_, ?_, fun x c e => ?_, fun p hp => ?_, hok, I.len⟩
 ·exact keep b o (neL b o e) hb (neC b o e hx) (I.base.keep b o e n hb hx) (I.base.free b o e n hx)
 ·obtain ⟨sl, e1⟩ := I.base.slot b o e n hb hx
  obtain ⟨sl', e2⟩ := slot b _ (neL b o e) hb (neC b o e hx) e1 (I.base.free b o e n hx)
  exact ⟨sl', e2⟩
 ·obtain ⟨o', e1⟩ := I.base.there b o e hx
  exact free b o' (neC b o e hx) e1 (I.base.free b o e n hx)
 ·obtain ⟨o', e1⟩ := I.base.there b o e hx
  exact there b o' (neC b o e hx) e1
 ·obtain ⟨m1, e1⟩ := I.base.tbls b ps e
  obtain ⟨m2, e2⟩ := tbls b _ e1
  exact ⟨m1 ++ m2, by rw [e2, Array.append_assoc]⟩
 ·obtain ⟨m, hn, hl⟩ := I.loc
  refine ⟨m, ns m hn, fun i x v e1 e2 e3 => ?_⟩
  obtain ⟨u, r, l⟩ := hl i x v e1 e2 e3
  refine ⟨u, r, ?_⟩
  rcases l with l | ⟨k, c, e, z⟩
  ·exact .inl l
  ·exact .inr ⟨k, c, e, cellK x c e _ z⟩
 ·obtain ⟨v, z⟩ := I.cell x c e
  exact ⟨v, cellK x c e v z⟩
 ·obtain ⟨m, ⟨o, _, _, ho, _⟩, _⟩ := I.loc
  exact free _ o (fun z => (hch _ z).2.1 rfl) ho I.free
 ·obtain ⟨v, o, ho, hd⟩ := I.cell x c e
  exact free c o (fun z => (hch c z).2.2.1 x c e rfl) ho (I.freeC x c e)
 ·obtain ⟨e, n, ne, nf, d⟩ := I.pin p hp
  have nch : p.1 ∉ ch := fun z => (hch p.1 z).2.2.2 p hp rfl
  exact ⟨keep p.1 p.2 ne nf nch e n, free p.1 p.2 nch e n, ne, nf, d⟩
theorem Inv.un {t' : Nat} (I : Inv X pins σ H s) (u : Un X.fs [] H H' s.heap h') (hok : HOk X.prog X.w H' h') : Inv X pins σ H' { s with heap := h', toks := t' } := by
 obtain ⟨m, ⟨o, es, ep, ho, r⟩, _⟩ := id I.loc
 obtain ⟨sl, hL⟩ := u.any ho I.free (by simp)
 exact I.step (g' := s.gens) (d' := s.drawn) (ch := []) (fun _ z => nomatch z) (fun b o _ hb _ e n => u.keep b o e n hb (by simp)) (fun b o _ hb _ e n => u.slot b o e n hb (by simp)) (fun b o _ e n => u.free b o e n (by simp)) (fun b o _ e => u.there b o e (by simp)) u.tups u.frzs u.tbls (fun m' hm => by
  obtain ⟨o', es', ep', ho', r'⟩ := hm
  rw [ho] at ho'; cases ho'
  exact ⟨_, es', ep', hL, r'⟩) hok I.bare
theorem Inv.call {g' : Array GenState} {t' : Nat} {d' : Drawn} {ch : List Addr} (I : Inv X pins σ H s) (u : Un (gj X.stack) ch H H' s.heap h') (hok : HOk X.prog X.w H' h') (hg : AllBare g')
  (hch : ∀ b ∈ ch, (b ∈ X.ex \/ X.s₀.heap.objs.size <= b) /\ b ≠ X.env.locals /\ (∀ x c, X.env.cells.lookup x = some c -> c ≠ b) /\ ∀ p ∈ X.pn ++ pins, p.1 ≠ b) :
  Inv X pins σ H' { s with heap := h', gens := g', drawn := d', toks := t' } := by
 obtain ⟨m, ⟨o, es, ep, ho, r⟩, _⟩ := id I.loc
 obtain ⟨sl, hL⟩ := u.any ho I.free fun z => (hch _ z).2.1 rfl
 exact I.step (ch := ch) hch (fun b o hL hb hc e n => u.keep b o e n (fun z => (Cr.mp (I.stkSub b z)).elim hL hb) hc) (fun b o _ _ hc e n => u.any e n hc) (fun b o hc e n => u.free b o e n hc) (fun b o hc e => u.there b o e hc) u.tups u.frzs u.tbls (fun m' hm => by
  obtain ⟨o', es', ep', ho', r'⟩ := hm
  rw [ho] at ho'; cases ho'
  exact ⟨_, es', ep', hL, r'⟩) hok hg
theorem Inv.turned {t' : Nat} {it : Addr} (I : Inv X pins σ H s) (k : ∀ b o, b ≠ it -> s.heap.get? b = some o -> h'.get? b = some o) (hn : H it = none) (hL : it ≠ X.env.locals)
  (h1 : it ∈ X.ex \/ X.s₀.heap.objs.size <= it) (h2 : ∀ x c, X.env.cells.lookup x = some c -> c ≠ it) (h3 : ∀ p ∈ X.pn ++ pins, p.1 ≠ it) : Inv X pins σ H { s with heap := h', toks := t' } := by
 have nit : ∀ b u, H b = some u -> b ≠ it := fun b u e z => by rw [z, hn] at e; cases e
 refine I.step (g' := s.gens) (d' := s.drawn) (ch := [it]) (fun b hb => ?_) (fun b o _ _ hc e _ => k b o (fun z => hc (by simp [z])) e) (fun b o _ _ hc e _ => ⟨o.slots, k b o (fun z => hc (by simp [z])) e⟩) (fun _ _ _ _ n => n)
  (fun b o hc e => ⟨o, k b o (fun z => hc (by simp [z])) e⟩) (fun _ _ e => e) (fun _ _ _ e => e) (fun b ps e => ⟨#[], by rw [e]; simp⟩) (fun m hm => ?_) (fun b u e => ?_) I.bare
 ·have e : b = it := by simpa using hb
  subst e
  exact ⟨h1, hL, h2, h3⟩
 ·obtain ⟨o, es, ep, ho, r⟩ := hm
  exact ⟨o, es, ep, k _ o (Ne.symm hL) ho, r⟩
 ·refine (I.hok b u e).stay (fun c v hc q => k c v ?_ q) (fun _ q => q) fun _ _ q => q
  rcases hc with z | z
  ·rw [z]; exact nit b u e
  ·exact nit c _ z
theorem Inv.tok (I : Inv X pins σ H s) (t : Nat) : Inv X pins σ H { s with toks := t } := I.un (h' := s.heap) (t' := t) Un.refl I.hok
theorem Inv.kept {t' : Nat} (I : Inv X pins σ H s) (k : ∀ b u, s.heap.get? b = some u -> h'.get? b = some u) : Inv X pins σ H { s with heap := h', toks := t' } := I.un (Un.kept k) (I.hok.kept k)
theorem Inv.laid {a : Addr} {o : HO} {t' : Nat} (I : Inv X pins σ H s) (k : ∀ b u, s.heap.get? b = some u -> h'.get? b = some u) (hp : s.heap.objs.size <= a) (new : ObjOk X.prog X.w (az H a o) h' a o) :
 Inv X pins σ (az H a o) { s with heap := h', toks := t' } := I.un (Un.laid k hp (I.hok.fresh hp)) (I.hok.laid k hp new)
theorem Inv.write {x e : Addr} {o : HO} {t' : Nat} (I : Inv X pins σ H s) (mu : zq (H x)) (he : e = x \/ H e = some (.own x)) (k : ∀ b u, b ≠ e -> s.heap.get? b = some u -> h'.get? b = some u) (heo : ∃ u, h'.get? e = some u)
 (new : ObjOk X.prog X.w (az H x o) h' x o) : Inv X pins σ (az H x o) { s with heap := h', toks := t' } := I.un (Un.write mu he k heo) (I.hok.write mu he k heo new)
theorem Inv.weak {σ' : List (Option V)} (I : Inv X pins σ H s) (hl : σ'.length = σ.length) (w : ∀ (i : Nat) v, σ'[i]? = some (some v) -> σ[i]? = some (some v)) : Inv X pins σ' H s :=
 ⟨I.ok, I.os, I.bare, I.base, let ⟨m, hn, hl'⟩ := I.loc; ⟨m, hn, fun i x v e1 e2 e3 => hl' i x v e1 (w i v e2) e3⟩, I.cell, I.free, I.freeC, I.pin, I.hok, hl.trans I.len⟩
theorem Inv.pins_of {pins' : List (Addr × Obj)} (I : Inv X pins σ H s) (h : ∀ p ∈ pins', s.heap.get? p.1 = some p.2 /\ H p.1 = none /\ p.1 ≠ X.env.locals /\ p.1 ∉ X.fs /\ ∀ v, p.2.data ≠ .cell v) : Inv X pins' σ H s :=
 ⟨I.ok, I.os, I.bare, I.base, I.loc, I.cell, I.free, I.freeC, fun p hp => (CC.mp hp).elim (fun z => I.pin p (CA _ z)) (h p), I.hok, I.len⟩
theorem om {N : List Str} (hN : N.Nodup) {i j : Nat} {x : Str} (a : N[i]? = some x) (b : N[j]? = some x) : i = j := by
 obtain ⟨h1, e1⟩ := Cc.mp a
 obtain ⟨h2, e2⟩ := Cc.mp b
 exact (Dx hN).mp (e1.trans e2.symm)
theorem lH {M : Model} {A : Around} {E : Value -> Shared -> Prop} {i : Nat} {x : Str} {v : V} {u : Value} {Q : Unit -> Shared -> Prop} (I : Inv X pins σ H s) (hN : X.N.Nodup) (hi : X.N[i]? = some x) (hx : zz X.env.scope x) (r : RelV v u)
  (h : ∀ s', Inv X pins (σ.set i (some v)) H s' -> (∃ a, Heap.SameBut a s.heap s'.heap /\ (a = X.env.locals \/ X.env.cells.lookup x = some a)) -> Q () s') (hf : X.fn x = true \/ X.env.scope.names.lookup x = some .local := by first | exact .inl rfl | exact .inr rfl | assumption) : wpAny M A (storeName X.env x u) Q E s := by
 obtain ⟨m, hn, hl⟩ := id I.loc
 have hcls : (X.env.scope.kind == .class || (X.env.scope.kind == .module && X.env.locals != X.env.globals)) = false := by rw [I.ok.kind]; rfl
 have hiσ : i < σ.length := by rw [I.len]; exact (Cc.mp hi).1
 have cne := I.cne
 have tracked : ∀ {a : Addr} {h' : Heap}, (∃ o, s.heap.get? a = some o /\ H a = none) -> Heap.SameBut a s.heap h' -> HOk X.prog X.w H h' := fun {a h'} ha hs b ob e => by
  obtain ⟨_, _, hfree⟩ := ha
  refine (I.hok b ob e).stay (fun c w' hc q => (hs.2 c ?_).trans q) (fun _ q => q) fun _ _ q => q
  rintro rfl
  rcases hc with rfl | hc
  ·rw [hfree] at e; cases e
  ·rw [hfree] at hc; cases hc
 rcases hx with hk | hk
 ·refine wpAny_storeName_local hk hn (fun h' hn' hs => ?_) hcls
  obtain ⟨oL, _, _, hoL, _⟩ := id hn
  refine h _ ⟨I.ok, I.os, I.bare, ⟨fun b o e n hb hx => ?_, fun b o e n hb hx => ?_, I.base.free, fun b o e hx => ?_, I.base.tups, I.base.frzs, I.base.tbls⟩, ⟨_, hn', fun j y v' e1 e2 e3 => ?_⟩, fun y c e => ?_, I.free, I.freeC, fun p hp => ?_, tracked ⟨oL, hoL, I.free⟩ hs, by simpa using I.len⟩ ⟨_, hs, .inl rfl⟩
  ·exact (hs.2 b (Cy (CH (Heap.lt_size e) I.ok.above))).trans (I.base.keep b o e n hb hx)
  ·obtain ⟨sl, e1⟩ := I.base.slot b o e n hb hx
   exact ⟨sl, (hs.2 b (Cy (CH (Heap.lt_size e) I.ok.above))).trans e1⟩
  ·obtain ⟨o', e1⟩ := I.base.there b o e hx
   exact ⟨o', (hs.2 b (Cy (CH (Heap.lt_size e) I.ok.above))).trans e1⟩
  ·by_cases hj : j = i
   ·subst hj
    rw [hi] at e1; cases e1
    rw [DH hiσ] at e2
    cases e2
    exact ⟨u, r, .inl ⟨hk, by simp⟩⟩
   ·rw [DO (Ne.symm hj)] at e2
    obtain ⟨u', r', q⟩ := hl j y v' e1 e2 e3
    refine ⟨u', r', ?_⟩
    rcases q with ⟨k, e⟩ | ⟨k, c, e, z⟩
    ·refine .inl ⟨k, ?_⟩
     have : y ≠ x := fun e => hj (om hN e1 (e ▸ hi))
     simp [this, e]
    ·exact .inr ⟨k, c, e, z.sameBut hs (cne y c e)⟩
  ·obtain ⟨w', z⟩ := I.cell y c e
   exact ⟨w', z.sameBut hs (cne y c e)⟩
  ·obtain ⟨e, n, ne, nf, d⟩ := I.pin p hp
   exact ⟨(hs.2 p.1 ne).trans e, n, ne, nf, d⟩
 ·have hfn : X.fn x = true := by
   rcases hf with z | z
   ·exact z
   ·rw [z] at hk; cases hk
  obtain ⟨c, hc⟩ := I.ok.has x (.inl hk)
  obtain ⟨w', z⟩ := I.cell x c hc
  refine wpAny_storeName_cell I.ok.kind hk hc z (fun h' hc' hs => ?_)
  obtain ⟨oc, hoc, hocd⟩ := id z
  refine h { s with heap := h' } ⟨I.ok, I.os, I.bare, ⟨fun b o e n hb hx => ?_, fun b o e n hb hx => ?_, I.base.free, fun b o e hx => ?_, I.base.tups, I.base.frzs, I.base.tbls⟩, ⟨m, hn.sameBut hs (Ne.symm (cne x c hc)), fun j y v' e1 e2 e3 => ?_⟩, fun y c' e => ?_, I.free, I.freeC, fun p hp => ?_, tracked ⟨oc, hoc, I.freeC x c hc⟩ hs, by simpa using I.len⟩ ⟨c, hs, .inr hc⟩
  ·exact (hs.2 b (Cy (CH (Heap.lt_size e) (I.ok.cab x c hfn hc)))).trans (I.base.keep b o e n hb hx)
  ·obtain ⟨sl, e1⟩ := I.base.slot b o e n hb hx
   exact ⟨sl, (hs.2 b (Cy (CH (Heap.lt_size e) (I.ok.cab x c hfn hc)))).trans e1⟩
  ·obtain ⟨o', e1⟩ := I.base.there b o e hx
   exact ⟨o', (hs.2 b (Cy (CH (Heap.lt_size e) (I.ok.cab x c hfn hc)))).trans e1⟩
  ·by_cases hj : j = i
   ·subst hj
    rw [hi] at e1; cases e1
    rw [DH hiσ] at e2
    cases e2
    exact ⟨u, r, .inr ⟨.inl hk, c, hc, hc'⟩⟩
   ·rw [DO (Ne.symm hj)] at e2
    obtain ⟨u', r', q⟩ := hl j y v' e1 e2 e3
    refine ⟨u', r', ?_⟩
    rcases q with q | ⟨k, c', e, z'⟩
    ·exact .inl q
    ·refine .inr ⟨k, c', e, z'.sameBut hs ?_⟩
     rintro rfl
     exact hj (om hN e1 (I.ok.inj _ _ _ e hc ▸ hi))
  ·by_cases hcc : c' = c
   ·subst hcc; exact ⟨_, hc'⟩
   ·obtain ⟨w2, z2⟩ := I.cell y c' e
    exact ⟨w2, z2.sameBut hs hcc⟩
  ·obtain ⟨e, n, ne, nf, d⟩ := I.pin p hp
   refine ⟨(hs.2 p.1 ?_).trans e, n, ne, nf, d⟩
   intro q
   rw [q, hoc] at e
   have q' : oc = p.2 := Option.some.inj e
   exact d w' (by rw [<- q']; exact hocd)
theorem oo {M : Model} {A : Around} {E : Value -> Shared -> Prop} {i : Nat} {x : Str} {v : V} {u : Value} {Q : Unit -> Shared -> Prop} (I : Inv X pins σ H s) (hN : X.N.Nodup) (hi : X.N[i]? = some x) (hx : zz X.env.scope x) (r : RelV v u)
  (h : ∀ s', Inv X pins (σ.set i (some v)) H s' -> Q () s') (hf : X.fn x = true \/ X.env.scope.names.lookup x = some .local := by first | exact .inl rfl | exact .inr rfl | assumption) : wpAny M A (storeName X.env x u) Q E s :=
 lH I hN hi hx r (fun s' I' _ => h s' I') hf
theorem Inv.call' {s' : Shared} {ch : List Addr} (I : Inv X pins σ H s) (ho : s'.os = s.os) (u : Un (gj X.stack) ch H H' s.heap s'.heap) (hok : HOk X.prog X.w H' s'.heap) (hg : AllBare s'.gens)
  (hch : ∀ b ∈ ch, (b ∈ X.ex \/ X.s₀.heap.objs.size <= b) /\ b ≠ X.env.locals /\ (∀ x c, X.env.cells.lookup x = some c -> c ≠ b) /\ ∀ p ∈ X.pn ++ pins, p.1 ≠ b) : Inv X pins σ H' s' := by
 obtain ⟨h', g', d', t', o'⟩ := s'
 have e : o' = s.os := ho
 subst e
 exact I.call (g' := g') (t' := t') (d' := d') u hok hg hch
end
abbrev XK := Value -> Option Addr -> Hp -> Prop
abbrev St := List (Option V)
abbrev VK := V -> Hp -> Prop
abbrev TE := St -> Hp -> VK -> Prop
abbrev TT := St -> Hp -> (Bool -> Hp -> Prop) -> Prop
abbrev TA := St -> Hp -> (List V -> Hp -> Prop) -> Prop
structure Ends where
 nx : St -> Hp -> Prop
 rt : VK
 bk : St -> Hp -> Prop := fun _ _ => False
 ct : St -> Hp -> Prop := fun _ _ => False
abbrev TS := Ends -> St -> Hp -> Prop
def EP (X : Cx) (pins : List (Addr × Obj)) (σ : St) (Q : VK) (u : Value) (s' : Shared) : Prop := ∃ v H', Inv X pins σ H' s' /\ RelV v u /\ Q v H'
def TP (X : Cx) (pins : List (Addr × Obj)) (σ : St) (Q : Bool -> Hp -> Prop) (b : Bool) (s' : Shared) : Prop := ∃ H', Inv X pins σ H' s' /\ Q b H'
def AP (X : Cx) (pins : List (Addr × Obj)) (σ : St) (Q : List V -> Hp -> Prop) (us : List Value) (s' : Shared) : Prop := ∃ vs H', Inv X pins σ H' s' /\ Vals vs us /\ Q vs H'
def SP (X : Cx) (pins : List (Addr × Obj)) (D : Ends) (f : Flow) (s' : Shared) : Prop :=
 match f with
 | .next => ∃ σ' H', Inv X pins σ' H' s' /\ D.nx σ' H'
 | .brk => ∃ σ' H', Inv X pins σ' H' s' /\ D.bk σ' H'
 | .cont => ∃ σ' H', Inv X pins σ' H' s' /\ D.ct σ' H'
 | .ret u => ∃ v σ' H', Inv X pins σ' H' s' /\ RelV v u /\ D.rt v H'
def PE (X : Cx) (e : Expr) (t : TE) : Prop :=
 ∀ (pins : List (Addr × Obj)) (s : Shared) (σ : St) (H : Hp) (Q : VK), Inv X pins σ H s -> t σ H Q -> wpAny (model X.prog X.w) X.A (eval e X.env) (EP X pins σ Q) X.xe s
def PT (X : Cx) (e : Expr) (t : TT) : Prop :=
 ∀ (pins : List (Addr × Obj)) (s : Shared) (σ : St) (H : Hp) (Q : Bool -> Hp -> Prop), Inv X pins σ H s -> t σ H Q -> wpAny (model X.prog X.w) X.A (isTrue e X.env (eval e X.env)) (TP X pins σ Q) X.xe s
def PW (X : Cx) (e : Expr) (t : TT) : Prop :=
 ∀ (whole : Sem Value) (pins : List (Addr × Obj)) (s : Shared) (σ : St) (H : Hp) (Q : Bool -> Hp -> Prop), Inv X pins σ H s -> t σ H Q -> wpAny (model X.prog X.w) X.A (isTrue e X.env whole) (TP X pins σ Q) X.xe s
theorem PW.pt {X : Cx} {e : Expr} {t : TT} (h : PW X e t) : PT X e t := h _
def PA (X : Cx) (es : List Expr) (t : TA) : Prop :=
 ∀ (pos : Pos) (pins : List (Addr × Obj)) (s : Shared) (σ : St) (H : Hp) (Q : List V -> Hp -> Prop), Inv X pins σ H s -> t σ H Q -> wpAny (model X.prog X.w) X.A (spliced (backTo pos (starEach es X.env))) (AP X pins σ Q) X.xe s
def PS (X : Cx) (st : Stmt) (t : TS) : Prop :=
 ∀ (pins : List (Addr × Obj)) (s : Shared) (σ : St) (H : Hp) (D : Ends), Inv X pins σ H s -> t D σ H -> wpAny (model X.prog X.w) X.A (exec st X.env) (SP X pins D) X.xe s
def PSs (X : Cx) (st : List Stmt) (t : TS) : Prop :=
 ∀ (pins : List (Addr × Obj)) (s : Shared) (σ : St) (H : Hp) (D : Ends), Inv X pins σ H s -> t D σ H -> wpAny (model X.prog X.w) X.A (execs st X.env) (SP X pins D) X.xe s
theorem bC {α : Type} {t : Sem α} {Q Q' : α -> Shared -> Prop} {M : Model} {A : Around} {E : Value -> Shared -> Prop} {s : Shared} (h : wpAny M A t Q E s) (hQ : ∀ a s, Q a s -> Q' a s) : wpAny M A t Q' E s := wpAny_mono h hQ fun _ _ x => x
section
variable {X : Cx}
theorem B7 {a b : Expr} {ta tb : TE} (ha : PE X a ta) (hb : PE X b tb) {pins : List (Addr × Obj)} {s : Shared} {σ : St} {H : Hp} {R : V -> V -> Hp -> Prop} (I : Inv X pins σ H s) (h : ta σ H fun x H1 => tb σ H1 fun y H2 => R x y H2)
  {α : Type} {Q : α -> Shared -> Prop} {f : Value -> Value -> Sem α}
  (hf : ∀ v u s2 x y H2, Inv X pins σ H2 s2 -> RelV x v -> RelV y u -> R x y H2 -> wpAny (model X.prog X.w) X.A (f v u) Q X.xe s2) :
  wpAny (model X.prog X.w) X.A (eval a X.env) (fun v s₁ => wpAny (model X.prog X.w) X.A (eval b X.env) (fun u s₂ => wpAny (model X.prog X.w) X.A (f v u) Q X.xe s₂) X.xe s₁) X.xe s := by
 refine bC (ha pins s σ H _ I h) fun v s1 hq__ => ?_
 obtain ⟨x, H1, I1, r1, q1⟩ := hq__
 refine bC (hb pins s1 σ H1 _ I1 q1) fun u s2 hq__ => ?_
 obtain ⟨y, H2, I2, r2, q2⟩ := hq__
 exact hf v u s2 x y H2 I2 r1 r2 q2
def zA (i : Nat) : TE := fun σ H Q => ∃ v, σ[i]? = some (some v) /\ Q v H
def tC (v : V) : TE := fun _ H Q => Q v H
theorem yp {i : Nat} {x : Str} {pos : Pos} (hN : X.N[i]? = some x) (hv : AG X.env.scope x) (hd : (x == ("__debug__" : Str)) = false := by decide) (hcd : (x == ("__classdict__" : Str)) = false := by decide) : PE X (.Name x pos) (zA i) := by
 intro pins s σ H Q I h
 obtain ⟨v, e, h⟩ := h
 obtain ⟨m, hn, hl⟩ := I.loc
 obtain ⟨u, r, l⟩ := hl i x v hN e hv
 have fin : EP X pins σ Q u s := ⟨v, H, I, r, h⟩
 rcases l with ⟨hk, hm⟩ | ⟨hk, c, hc, hcell⟩
 ·exact wpAny_Name (wpAny_loadName_local I.ok.kind hk hn hm fin) hd
 ·rcases hk with hk | hk
  ·exact wpAny_Name (wpAny_loadName_cell I.ok.kind hk hc hcell fin) hd
  ·exact wpAny_Name (wpAny_loadName_free I.ok.kind hk hc hcell fin hcd) hd
theorem ag {i j pos} : PE X (.Constant (.int i) j pos) (tC (.int i)) := fun _ _ _ H _ I h => wpAny_Constant_int ⟨.int i, H, I.tok _, ⟨_, rfl⟩, h⟩
theorem e6 {b j pos} : PE X (.Constant (.bool b) j pos) (tC (.bl b)) := fun _ _ _ H _ I h => Constant_bool ⟨.bl b, H, I, rfl, h⟩
theorem bV {j pos} : PE X (.Constant .none j pos) (tC .non) := fun _ _ _ H _ I h => Constant_none ⟨.non, H, I, rfl, h⟩
theorem aY {x j pos} : PE X (.Constant (.str x) j pos) (tC (.str x)) := fun _ _ _ H _ I h => Calls.Constant_str ⟨.str x, H, I.tok _, ⟨_, rfl⟩, h⟩
def Gl (X : Cx) (x : Str) : Prop := X.env.kindOf x = some .globalImplicit
theorem wa {E : Value -> Shared -> Prop} {pins : List (Addr × Obj)} {s : Shared} {σ : St} {H : Hp} {x : Str} {u : Value} {pos : Pos} {Q : Value -> Shared -> Prop} (I : Inv X pins σ H s) (hg : Gl X x) (hm : X.mg x = some u) (h : Q u s)
  (hd : (x == ("__debug__" : Str)) = false := by decide) : wpAny (model X.prog X.w) X.A (eval (.Name x pos) X.env) Q E s :=
 Calls.Name_function_global I.ok.kind hg (Calls.loadGlobal_global (by rw [I.ok.glob]; exact I.mod.glob.keeps I.bk) hm h) hd
theorem e8 {E : Value -> Shared -> Prop} {pins : List (Addr × Obj)} {s : Shared} {σ : St} {H : Hp} {x : Str} {u : Value} {pos : Pos} {Q : Value -> Shared -> Prop} (I : Inv X pins σ H s) (hg : Gl X x) (hm : X.mg x = none) (hv : bootBuiltins x = some u) (h : Q u s)
  (hn : x ≠ "__name__" := by decide) (hd : (x == ("__debug__" : Str)) = false := by decide) : wpAny (model X.prog X.w) X.A (eval (.Name x pos) X.env) Q E s := by
 obtain ⟨mb, h1, h2⟩ := I.mod.blt
 exact Calls.Name_function_global I.ok.kind hg (Calls.loadGlobal_builtin (by rw [I.ok.glob]; exact I.mod.glob.keeps I.bk) hm (by rw [I.ok.blt]; exact h1.keeps I.bk) ((h2 x hn).trans hv) h) hd
theorem jy {x : Str} {v : V} {u : Value} {pos : Pos} (hg : Gl X x) (hm : X.mg x = none) (hv : bootBuiltins x = some u) (r : RelV v u) (hn : x ≠ "__name__" := by decide) (hd : (x == ("__debug__" : Str)) = false := by decide) : PE X (.Name x pos) (tC v) :=
 fun _ _ _ H _ I h => e8 I hg hm hv ⟨v, H, I, r, h⟩ hn hd
variable {a b : Expr} {ta tb : TE} {pos : Pos}
def PC (X : Cx) (op : CmpOp) (a b : Expr) (t : TE) : Prop :=
 ∀ (pins : List (Addr × Obj)) (s : Shared) (σ : St) (H : Hp) (Q : VK), Inv X pins σ H s -> t σ H Q ->
  wpAny (model X.prog X.w) X.A (eval a X.env) (fun v s₁ => wpAny (model X.prog X.w) X.A (eval b X.env) (fun u s₂ => wpAny (model X.prog X.w) X.A (compareOp op v u) (EP X pins σ Q) X.xe s₂) X.xe s₁) X.xe s
theorem uc (b : Expr) {op : CmpOp} (h : op ≠ .In) (h2 : op ≠ .NotIn) : behindInMarks op b = false := by
 have e1 : (op == CmpOp.In) = false := by cases op <;> first | rfl | exact absurd rfl h
 have e2 : (op == CmpOp.NotIn) = false := by cases op <;> first | rfl | exact absurd rfl h2
 cases b <;> simp [behindInMarks, e1, e2]
def tB (t : TE) : TT := fun σ H Q => t σ H fun x H1 => ∃ c, x = .bl c /\ Q c H1
theorem mJ {op : CmpOp} {t : TE} (h : PC X op a b t) (h1 : behindInMarks op b = false := by first | exact uc _ (by decide) (by decide) | rfl) : PT X (.Compare a [op] [b] pos) (tB t) := by
 intro pins s σ H Q I hw
 refine wpAny_isTrue_Compare1 (bC (h pins s σ H _ I hw) fun v s1 h1 => bC h1 fun u s2 h2 => bC h2 fun c s3 ⟨x, H1, I1, r1, q1⟩ => ?_) h1
 obtain ⟨d, rfl, q⟩ := q1
 cases r1
 exact wpAny_truthy_bool ⟨H1, I1, q⟩
theorem cL {e : Expr} {t : TE} (h : PE X e t) (he : ∀ whole, isTrue e X.env whole = (do let v <- whole; standAt e.pos; holding [v] (truthy v)) := by intro _; rfl) : PT X e (tB t) := by
 intro pins s σ H Q I hw
 refine isTrue_plain (bC (h pins s σ H _ I hw) fun v s1 ⟨x, H1, I1, r1, q1⟩ => ?_) (he _)
 obtain ⟨d, rfl, q⟩ := q1
 cases r1
 exact wpAny_truthy_bool ⟨H1, I1, q⟩
variable {tA tB' : TT} {cW : List Expr}
def AU (t u : TT) : TT := fun σ H Q => t σ H fun c H1 => if c = true then u σ H1 Q else Q false H1
def AV (t u : TT) : TT := fun σ H Q => t σ H fun c H1 => if c = true then Q true H1 else u σ H1 Q
def AW (t : TT) : TT := fun σ H Q => t σ H fun c H1 => Q (!c) H1
theorem fM (ha : PT X a tA) : PW X (.BoolOp .And [a] pos) tA := by
 intro wh pins s σ H Q I h
 refine isTrue_and (bC (ha pins s σ H Q I h) fun c s1 e => ?_)
 cases c with
 | true => exact isTrue_and_nil e
 | false => exact e
theorem dJ (ha : PT X a tA) : PW X (.BoolOp .Or [a] pos) tA := by
 intro wh pins s σ H Q I h
 refine isTrue_or (bC (ha pins s σ H Q I h) fun c s1 e => ?_)
 cases c with
 | false => exact isTrue_or_nil e
 | true => exact e
theorem e9 (ha : PT X a tA) (hb : PW X (.BoolOp .And (b :: cW) pos) tB') : PW X (.BoolOp .And (a :: b :: cW) pos) (AU tA tB') := by
 intro wh pins s σ H Q I h
 refine isTrue_and (bC (ha pins s σ H _ I h) fun c s1 hq__ => ?_)
 obtain ⟨H1, I1, q1⟩ := hq__
 cases c with
 | true => exact hb wh pins s1 σ H1 Q I1 q1
 | false => exact ⟨H1, I1, q1⟩
theorem fW (ha : PT X a tA) (hb : PW X (.BoolOp .Or (b :: cW) pos) tB') : PW X (.BoolOp .Or (a :: b :: cW) pos) (AV tA tB') := by
 intro wh pins s σ H Q I h
 refine isTrue_or (bC (ha pins s σ H _ I h) fun c s1 hq__ => ?_)
 obtain ⟨H1, I1, q1⟩ := hq__
 cases c with
 | true => exact ⟨H1, I1, q1⟩
 | false => exact hb wh pins s1 σ H1 Q I1 q1
theorem ir (ha : PT X a tA) : PT X (.UnaryOp .Not a pos) (AW tA) := by
 intro pins s σ H Q I h
 exact isTrue_not (ha pins s σ H (fun c H1 => Q (!c) H1) I h)
def zB (ta tb : TE) : TE := fun σ H Q => ta σ H fun x H1 => ∃ c, x = .bl c /\ if c = true then tb σ H1 Q else Q (.bl false) H1
def AX (ta tb : TE) : TE := fun σ H Q => ta σ H fun x H1 => ∃ c, x = .bl c /\ if c = true then Q (.bl true) H1 else tb σ H1 Q
def zC (ta : TE) : TE := fun σ H Q => ta σ H fun x H1 => ∃ c, x = .bl c /\ Q (.bl (!c)) H1
theorem jJ {op} {t : TE} (h : PE X a t) : PE X (.BoolOp op [a] pos) t := fun pins s σ H Q I hw => BoolOp_one (h pins s σ H Q I hw)
theorem mK (ha : PE X a ta) (hb : PE X (.BoolOp .And (b :: cW) pos) tb) : PE X (.BoolOp .And (a :: b :: cW) pos) (zB ta tb) := by
 intro pins s σ H Q I h
 refine BoolOp_and (bC (ha pins s σ H _ I h) fun v s1 hq__ => ?_)
 obtain ⟨x, H1, I1, r1, q1⟩ := hq__
 obtain ⟨c, rfl, q1⟩ := q1
 cases r1
 refine wpAny_truthy_bool ?_
 cases c with
 | true => exact hb pins s1 σ H1 Q I1 q1
 | false => exact ⟨.bl false, H1, I1, rfl, q1⟩
theorem zD (ha : PE X a ta) (hb : PE X (.BoolOp .Or (b :: cW) pos) tb) : PE X (.BoolOp .Or (a :: b :: cW) pos) (AX ta tb) := by
 intro pins s σ H Q I h
 refine BoolOp_or (bC (ha pins s σ H _ I h) fun v s1 hq__ => ?_)
 obtain ⟨x, H1, I1, r1, q1⟩ := hq__
 obtain ⟨c, rfl, q1⟩ := q1
 cases r1
 refine wpAny_truthy_bool ?_
 cases c with
 | false => exact hb pins s1 σ H1 Q I1 q1
 | true => exact ⟨.bl true, H1, I1, rfl, q1⟩
theorem yq (ha : PE X a ta) : PE X (.UnaryOp .Not a pos) (zC ta) := by
 intro pins s σ H Q I h
 refine UnaryOp_ (bC (ha pins s σ H _ I h) fun v s1 hq__ => ?_)
 obtain ⟨x, H1, I1, r1, q1⟩ := hq__
 obtain ⟨c, rfl, q1⟩ := q1
 cases r1
 exact not_of (wpAny_truthy_bool ⟨.bl (!c), H1, I1, rfl, q1⟩)
end
def SqL (K : PySem.W.Frag) (H : Hp) (a : Addr) (xs : List V) : Prop :=
 Rd H a (.lst xs) \/
  ∃ (o : Obj) (its : Array Value) (n : Nat), K.lookup a = some o /\ o.cls = .type "list" /\ o.dict = none /\ o.data = .seq its n /\ its.size <= sizeLine /\ Vals xs its.toList
def SqT (K : PySem.W.Frag) (H : Hp) (a : Addr) (xs : List V) : Prop :=
 Rd H a (.tup xs) \/
  ∃ (o : Obj) (its : Array Value) (n : Nat), K.lookup a = some o /\ o.cls = .type "tuple" /\ o.data = .seq its n /\ its.size <= sizeLine /\ Vals xs its.toList
def AY : Value -> Option V
 | .none => some .non
 | .bool b => some (.bl b)
 | .int i _ => some (.int i)
 | .str x _ => some (.str x)
 | .bytes b _ => some (.byt b)
 | .float b _ => some (.flt b)
 | .ref a => some (.ref a)
 | .type n => some (.ty n)
 | _ => none
theorem RelV.abs {x : V} {u : Value} (r : RelV x u) : AY u = some x := by
 cases x with
 | non => cases r; rfl
 | bl _ => cases r; rfl
 | int _ => obtain ⟨t, rfl⟩ := r; rfl
 | str _ => obtain ⟨t, rfl⟩ := r; rfl
 | byt _ => obtain ⟨t, rfl⟩ := r; rfl
 | flt _ => obtain ⟨t, rfl⟩ := r; rfl
 | ref _ => cases r; rfl
 | ty _ => cases r; rfl
theorem RelV.inj {x y : V} {u : Value} (r : RelV x u) (q : RelV y u) : x = y := Option.some.inj (r.abs.symm.trans q.abs)
theorem Vals.inj : ∀ {xs ys : List V} {us : List Value}, Vals xs us -> Vals ys us -> xs = ys := by
 intro xs ys us h
 induction h generalizing ys with
 | nil => intro h'; cases h'; rfl
 | cons r t ih =>
  intro h'
  cases h' with
  | cons r' t' => rw [r.inj r', ih t']
section
variable {X : Cx} {pins : List (Addr × Obj)} {σ : St} {H : Hp} {s : Shared} {a : Addr} {xs ys : List V}
theorem SqL.of {K : PySem.W.Frag} (h : H a = some (.lst xs)) : SqL K H a xs := .inl (.inl h)
theorem SqT.of {K : PySem.W.Frag} (h : H a = some (.tup xs)) : SqT K H a xs := .inl (.inl h)
theorem Inv.list (I : Inv X pins σ H s) (h : SqL X.K H a xs) : ∃ its : List Value, Vals xs its /\ PlainL s.heap a its.toArray /\ xs.length <= sizeLine := by
 rcases h with h | ⟨o, its, n, hk, hc, hd, hs, hz, r⟩
 ·obtain ⟨z, its, n, r, e⟩ := h.ok I.hok
  exact ⟨its, r, ⟨_, n, e, rfl, rfl, rfl⟩, z⟩
 ·refine ⟨its.toList, r, ⟨o, n, I.kIn a o hk, hc, hd, by simpa using hs⟩, ?_⟩
  have e := r.length
  simp only [CQ] at e
  omega
theorem Inv.tuple (I : Inv X pins σ H s) (h : SqT X.K H a xs) : ∃ its : List Value, Vals xs its /\ IsTup s.heap a its.toArray /\ xs.length <= sizeLine := by
 rcases h with h | ⟨o, its, n, hk, hc, hs, hz, r⟩
 ·obtain ⟨z, its, r, p⟩ := h.ok I.hok
  exact ⟨its, r, p, z⟩
 ·refine ⟨its.toList, r, ⟨o, I.kIn a o hk, hc, n, by simpa using hs⟩, ?_⟩
  have e := r.length
  simp only [CQ] at e
  omega
theorem Inv.list_inj (I : Inv X pins σ H s) (h : SqL X.K H a xs) (h' : SqL X.K H a ys) : xs = ys := by
 obtain ⟨its, r, ⟨o, n, e, _, _, d⟩, _⟩ := I.list h
 obtain ⟨its', r', ⟨o', n', e', _, _, d'⟩, _⟩ := I.list h'
 rw [e] at e'; cases e'
 rw [d] at d'
 injection d' with d1 _
 have : its = its' := by simpa using congrArg Array.toList d1
 subst this
 exact r.inj r'
theorem Inv.tuple_inj (I : Inv X pins σ H s) (h : SqT X.K H a xs) (h' : SqT X.K H a ys) : xs = ys := by
 obtain ⟨its, r, ⟨o, e, _, n, d⟩, _⟩ := I.tuple h
 obtain ⟨its', r', ⟨o', e', _, n', d'⟩, _⟩ := I.tuple h'
 rw [e] at e'; cases e'
 rw [d] at d'
 injection d' with d1 _
 have : its = its' := by simpa using congrArg Array.toList d1
 subst this
 exact r.inj r'
end
abbrev Cx.wish (X : Cx) (E : Value -> Shared -> Prop) : Cx := { X with xe := E }
abbrev Cx.nox (X : Cx) : Cx := X.wish fun _ _ => False
theorem Cx.Ok.wish {X : Cx} (ok : X.Ok) (E : Value -> Shared -> Prop) : (X.wish E).Ok :=
 ⟨ok.mod, ok.kind, ok.glob, ok.blt, ok.above, ok.inj, ok.has, ok.cab, ok.hd, ok.frames, ok.stk, ok.exf, ok.bs, ok.bsz, ok.noex, ok.exfs, ok.funs, ok.frf⟩
theorem Cx.Ok.unwish {X : Cx} {E : Value -> Shared -> Prop} (ok : (X.wish E).Ok) : X.Ok :=
 ⟨ok.mod, ok.kind, ok.glob, ok.blt, ok.above, ok.inj, ok.has, ok.cab, ok.hd, ok.frames, ok.stk, ok.exf, ok.bs, ok.bsz, ok.noex, ok.exfs, ok.funs, ok.frf⟩
section
variable {X : Cx} {pins : List (Addr × Obj)} {σ : St} {H : Hp} {s : Shared} {E : Value -> Shared -> Prop}
theorem Inv.wish (I : Inv X pins σ H s) (E : Value -> Shared -> Prop) : Inv (X.wish E) pins σ H s := ⟨I.ok.wish E, I.os, I.bare, I.base, I.loc, I.cell, I.free, I.freeC, I.pin, I.hok, I.len⟩
theorem Inv.unwish (I : Inv (X.wish E) pins σ H s) : Inv X pins σ H s := ⟨I.ok.unwish, I.os, I.bare, I.base, I.loc, I.cell, I.free, I.freeC, I.pin, I.hok, I.len⟩
theorem SP.unwish {D : Ends} {f : Flow} {s' : Shared} (h : SP (X.wish E) pins D f s') : SP X pins D f s' := by
 cases f with
 | next => obtain ⟨σ', H', I, q⟩ := h; exact ⟨σ', H', I.unwish, q⟩
 | brk => obtain ⟨σ', H', I, q⟩ := h; exact ⟨σ', H', I.unwish, q⟩
 | cont => obtain ⟨σ', H', I, q⟩ := h; exact ⟨σ', H', I.unwish, q⟩
 | ret u => obtain ⟨v, σ', H', I, r, q⟩ := h; exact ⟨v, σ', H', I.unwish, r, q⟩
theorem PSs.nox {st : List Stmt} {t : TS} (h : PSs X.nox st t) : PSs X st t := fun pins s σ H D I hw =>
 wpAny_mono (h pins s σ H D (I.wish _) hw) (fun _ _ q => q.unwish) fun _ _ z => False.elim z
end
section
variable {X : Cx} {st : Stmt} {cW : List Stmt} {t u : TS} {e : Expr} {te : TE} {pos : Pos}
def zE : TS := fun D σ H => D.nx σ H
def wb (t u : TS) : TS := fun D σ H => t { D with nx := u D } σ H
theorem aD : PSs X [] zE := fun _ _ σ H _ I h => wpAny_execs_nil ⟨σ, H, I, h⟩
theorem af (h1 : PS X st t) (h2 : PSs X cW u) : PSs X (st :: cW) (wb t u) := by
 intro pins s σ H D I h
 refine wpAny_execs_cons (bC (h1 pins s σ H { D with nx := u D } I h) fun f s1 q => ?_)
 cases f with
 | next =>
  obtain ⟨σ', H', I', q⟩ := q
  exact h2 pins s1 σ' H' D I' q
 | ret v => exact q
 | brk => exact q
 | cont => exact q
theorem aj (h1 : PS X st t) : PSs X [st] t := by
 intro pins s σ H D I h
 refine wpAny_execs_cons (bC (h1 pins s σ H D I h) fun f s1 q => ?_)
 cases f with
 | next => exact wpAny_execs_nil q
 | ret v => exact q
 | brk => exact q
 | cont => exact q
theorem Inv.quiet {pins : List (Addr × Obj)} {σ : St} {H : Hp} {s : Shared} (I : Inv X pins σ H s) : interactive X.env = false := by simp [interactive, I.ok.kind]
def zF (te : TE) : TS := fun D σ H => te σ H fun _ H1 => D.nx σ H1
theorem bR (he : PE X e te) (hs : swapsWith e none pos.line X.env = pure false := by rfl) : PS X (.Expr e pos) (zF te) := by
 intro pins s σ H D I h
 exact wpAny_Expr_any (bC (he pins s σ H _ I h) fun v s1 ⟨x, H1, I1, r1, q1⟩ => ⟨σ, H1, I1, q1⟩) I.quiet hs
def AZ (te : TE) : TS := fun D σ H => te σ H D.rt
theorem aw (he : PE X e te) : PS X (.Return (some e) pos) (AZ te) := by
 intro pins s σ H D I h
 exact wpAny_Return_some (bC (he pins s σ H _ I h) fun v s1 ⟨x, H1, I1, r1, q1⟩ => ⟨x, σ, H1, I1, r1, q1⟩)
def zG : TS := fun D _ H => D.rt .non H
theorem wc : PS X (.Return none pos) zG := fun _ _ σ H _ I h => wpAny_Return_none ⟨.non, σ, H, I, rfl, h⟩
def we (c : TT) (t u : TS) : TS := fun D σ H => c σ H fun b H1 => if b = true then t D σ H1 else u D σ H1
theorem aW {c : Expr} {a b : List Stmt} {tc : TT} (hc : PT X c tc) (ha : PSs X a t) (hb : PSs X b u) : PS X (.If c a b pos) (we tc t u) := by
 intro pins s σ H D I h
 refine wpAny_If (bC (hc pins s σ H _ I h) fun d s1 hq__ => ?_)
 obtain ⟨H1, I1, q1⟩ := hq__
 cases d with
 | true => exact ha pins s1 σ H1 D I1 q1
 | false => exact hb pins s1 σ H1 D I1 q1
end
abbrev TG := V -> St -> Hp -> (St -> Hp -> Prop) -> Prop
abbrev xS := List V -> St -> Hp -> (St -> Hp -> Prop) -> Prop
def PG (X : Cx) (target : Expr) (t : TG) : Prop :=
 ∀ (pins : List (Addr × Obj)) (s : Shared) (σ : St) (H : Hp) (v : V) (u : Value) (Q : St -> Hp -> Prop), Inv X pins σ H s -> RelV v u -> t v σ H Q ->
  wpAny (model X.prog X.w) X.A (assign target X.env u) (fun _ s' => ∃ σ' H', Inv X pins σ' H' s' /\ Q σ' H') X.xe s
def zr (X : Cx) (ts : List Expr) (t : xS) : Prop :=
 ∀ (pins : List (Addr × Obj)) (s : Shared) (σ : St) (H : Hp) (vs : List V) (us : List Value) (Q : St -> Hp -> Prop), Inv X pins σ H s -> Vals vs us -> t vs σ H Q ->
  wpAny (model X.prog X.w) X.A (assignInOrder ((assignEach ts X.env).map (·.2)) us) (fun _ s' => ∃ σ' H', Inv X pins σ' H' s' /\ Q σ' H') X.xe s
abbrev ud := V -> V -> V -> Hp -> (Hp -> Prop) -> Prop
def yr (X : Cx) (t : ud) : Prop :=
 ∀ (pins : List (Addr × Obj)) (s : Shared) (σ : St) (H : Hp) (o i v : V) (ov iv u : Value) (Q : Hp -> Prop), Inv X pins σ H s -> RelV o ov -> RelV i iv -> RelV v u -> t o i v H Q ->
  wpAny (model X.prog X.w) X.A (setItem ov iv u) (fun _ s' => ∃ H', Inv X pins σ H' s' /\ Q H') X.xe s
abbrev AH := V -> V -> Hp -> VK -> Prop
def BD (X : Cx) (op : Operator) (t : AH) : Prop :=
 ∀ (pins : List (Addr × Obj)) (s : Shared) (σ : St) (H : Hp) (x y : V) (v u : Value) (Q : VK), Inv X pins σ H s -> RelV x v -> RelV y u -> t x y H Q ->
  wpAny (model X.prog X.w) X.A (inplaceOp op v u) (EP X pins σ Q) X.xe s
section
variable {X : Cx} {pos : Pos}
def bS (i : Nat) : TG := fun v σ H Q => Q (σ.set i (some v)) H
theorem ao {i : Nat} {x : Str} (hN : X.N.Nodup) (hi : X.N[i]? = some x) (hx : zz X.env.scope x) (hf : X.fn x = true \/ X.env.scope.names.lookup x = some .local := by first | exact .inl rfl | exact .inr rfl | assumption) : PG X (.Name x pos) (bS i) := by
 intro pins s σ H v u Q I r h
 exact wpAny_assign_Name (oo I hN hi hx r (fun s' I' => ⟨_, H, I', h⟩) hf)
def ue : xS := fun vs σ H Q => vs = [] /\ Q σ H
def gH (t : TG) (u : xS) : xS := fun vs σ H Q => ∃ v r, vs = v :: r /\ t v σ H fun σ' H' => u r σ' H' Q
theorem cG : zr X [] ue := by
 intro pins s σ H vs us Q I r h
 obtain ⟨e, h⟩ := h
 subst e
 cases r
 exact assignInOrder_nil ⟨σ, H, I, h⟩
theorem aM {e : Expr} {es : List Expr} {t : TG} {u : xS} (h1 : PG X e t) (h2 : zr X es u)
  (hs : (assignEach (e :: es) X.env).map (·.2) = assign e X.env :: (assignEach es X.env).map (·.2) := by rfl) : zr X (e :: es) (gH t u) := by
 intro pins s σ H vs us Q I r h
 obtain ⟨v, vr, e1, h⟩ := h
 subst e1
 cases r with
 | cons r rr =>
  rw [hs]
  refine assignInOrder_cons (bC (h1 pins s σ H _ _ _ I r h) fun _ s1 hq__ => ?_)
  obtain ⟨σ1, H1, I1, q1⟩ := hq__
  exact h2 pins s1 σ1 H1 _ _ Q I1 rr q1
def rZ (K : PySem.W.Frag) (n : Nat) (t : xS) : TG := fun v σ H Q => ∃ a xs, v = .ref a /\ SqT K H a xs /\ xs.length = n /\ t xs σ H Q
theorem yt {es : List Expr} {k : Nat} {t : xS} {n : Nat} (hc : X.calm = true) (h : zr X es t)
  (hn : (assignEach es X.env).length = n := by rfl) (hst : (assignEach es X.env).findIdx? (·.1) = none := by rfl) : PG X (.Tuple es k pos) (rZ X.K n t) := by
 intro pins s σ H v u Q I r hw
 obtain ⟨a, xs, e1, hq, hl, hw⟩ := hw
 subst e1
 cases r
 obtain ⟨its, rv, ht, hz⟩ := I.tuple hq
 refine assign_Tuple_tuple (I.ok.hd hc) ht (by simp [hn, <- hl, rv.length]) hst fun h' hx => ?_
 have I1 : Inv X pins σ H { s with heap := h' } := I.kept (t' := s.toks) fun b o e => hx b o (Cy (Heap.lt_size e)) e
 exact h pins _ σ H xs _ Q I1 (by simpa using rv) hw
def A0 (to ti : TE) (t : ud) : TG := fun v σ H Q => to σ H fun o H1 => ti σ H1 fun i H2 => t o i v H2 fun H3 => Q σ H3
theorem mL {o i : Expr} {to ti : TE} {t : ud} (ho : PE X o to) (hi : PE X i ti) (hs : yr X t)
  (ha : ∀ v, assign (.Subscript o i pos) X.env v = (do
   let ov <- holding [v] (eval o X.env)
   let iv <- holding [v, ov] (eval i X.env)
   standAt pos
   holding [v, ov, iv] (setItem ov iv v)
   release [v, ov, iv] []) := by intro _; rfl) : PG X (.Subscript o i pos) (A0 to ti t) := by
 intro pins s σ H v u Q I r h
 rw [ha]
 refine wpAny_bind (wpAny_holding (bC (ho pins s σ H _ I h) fun ov s1 hq__ => ?_))
 obtain ⟨x, H1, I1, r1, q1⟩ := hq__
 refine wpAny_bind (wpAny_holding (bC (hi pins s1 σ H1 _ I1 q1) fun iv s2 hq__ => ?_))
 obtain ⟨y, H2, I2, r2, q2⟩ := hq__
 refine wpAny_bind (wpAny_standAt (wpAny_bind (wpAny_holding (bC (hs pins s2 σ H2 x y v ov iv u _ I2 r1 r2 r q2) fun _ s3 hq__ => ?_))))
 obtain ⟨H3, I3, q3⟩ := hq__
 exact wpAny_release ⟨σ, H3, I3, q3⟩
def yu (te : TE) (g : TG) : TS := fun D σ H => te σ H fun x H1 => g x σ H1 D.nx
theorem ff {tg e : Expr} {te : TE} {g : TG} (he : PE X e te) (hg : PG X tg g) (hs : swapsWithSole [tg] e pos.line X.env = pure false := by rfl) (hw : swappedStores [tg] e X.env = pure none := by rfl)
  (h1 : (assignEach [tg] X.env).map (·.2) = [assign tg X.env] := by rfl) : PS X (.Assign [tg] e pos) (yu te g) := by
 intro pins s σ H D I h
 refine wpAny_Assign_stores (bC (he pins s σ H _ I h) fun v s1 ⟨x, H1, I1, r1, q1⟩ => ?_) hs hw
 rw [h1]
 exact bC (hg pins s1 σ H1 x v _ I1 r1 q1) fun _ s2 q => q
theorem ar {i : Nat} {x : Str} {e : Expr} {te : TE} {pos' : Pos} (hN : X.N.Nodup) (hi : X.N[i]? = some x) (hx : zz X.env.scope x) (he : PE X e te) (hs : swapsWith e (some (.Name x pos')) pos.line X.env = pure false := by rfl) (hf : X.fn x = true \/ X.env.scope.names.lookup x = some .local := by first | exact .inl rfl | exact .inr rfl | assumption) :
  PS X (.Assign [.Name x pos'] e pos) (yu te (bS i)) := by
 intro pins s σ H D I h
 refine wpAny_Assign_Name (bC (he pins s σ H _ I h) fun v s1 ⟨y, H1, I1, r1, q1⟩ => ?_) hs
 exact oo I1 hN hi hx r1 (fun s2 I2 => ⟨_, H1, I2, q1⟩) hf
def zH (to ti te : TE) (tget : V -> V -> Hp -> VK -> Prop) (tip : AH) (tset : ud) : TS := fun D σ H => to σ H fun o H1 => ti σ H1 fun i H2 => tget o i H2 fun x H3 => te σ H3 fun y H4 => tip x y H4 fun z H5 => tset o i z H5 fun H6 => D.nx σ H6
def zI (X : Cx) (t : V -> V -> Hp -> VK -> Prop) : Prop :=
 ∀ (pins : List (Addr × Obj)) (s : Shared) (σ : St) (H : Hp) (o i : V) (ov iv : Value) (Q : VK), Inv X pins σ H s -> RelV o ov -> RelV i iv -> t o i H Q ->
  wpAny (model X.prog X.w) X.A (getItem ov iv) (EP X pins σ Q) X.xe s
theorem wg {o i e : Expr} {to ti te : TE} {tget : V -> V -> Hp -> VK -> Prop} {tip : AH} {tset : ud} {op : Operator} {tpos : Pos} (ho : PE X o to) (hi : PE X i ti) (hg : zI X tget) (he : PE X e te) (hp : BD X op tip) (hs : yr X tset)
  (ha : ∀ ov iv new, augStore i ov iv new = (do holding [new, ov, iv] (setItem ov iv new); release [new, ov, iv] []; pure .next) := by intros; rfl) : PS X (.AugAssign (.Subscript o i tpos) op e pos) (zH to ti te tget tip tset) := by
 intro pins s σ H D I h
 refine wpAny_AugAssign_SubscriptAny (bC (ho pins s σ H _ I h) fun ov s1 ⟨x1, H1, I1, r1, q1⟩ => ?_) ha
 refine bC (hi pins s1 σ H1 _ I1 q1) fun iv s2 hq__ => ?_
 obtain ⟨x2, H2, I2, r2, q2⟩ := hq__
 refine bC (hg pins s2 σ H2 x1 x2 ov iv _ I2 r1 r2 q2) fun old s3 hq__ => ?_
 obtain ⟨x3, H3, I3, r3, q3⟩ := hq__
 refine bC (he pins s3 σ H3 _ I3 q3) fun v s4 hq__ => ?_
 obtain ⟨x4, H4, I4, r4, q4⟩ := hq__
 refine bC (hp pins s4 σ H4 x3 x4 old v _ I4 r3 r4 q4) fun new s5 hq__ => ?_
 obtain ⟨x5, H5, I5, r5, q5⟩ := hq__
 exact bC (hs pins s5 σ H5 x1 x2 x5 ov iv new _ I5 r1 r2 r5 q5) fun _ s6 ⟨H6, I6, q6⟩ => ⟨σ, H6, I6, q6⟩
def BO (f : Int -> Int -> Int) : AH := fun x y H Q => ∃ i j, x = .int i /\ y = .int j /\ Q (.int (f i j)) H
theorem yw : BD X .Add (BO fun i j => i + j) := by
 intro pins s σ H x y v u Q I r1 r2 h
 obtain ⟨i, j, e1, e2, q⟩ := h
 subst e1; subst e2
 obtain ⟨t, rfl⟩ := r1
 obtain ⟨t', rfl⟩ := r2
 exact iadd_int ⟨.int _, H, I.tok _, ⟨_, rfl⟩, q⟩
end
section
variable {X : Cx} {pos : Pos}
def yx (c : TT) (tb : TS) : TS := fun D σ H => ∃ W : Nat -> St -> Hp -> Prop, (∃ m, W m σ H) /\ ∀ m σ H, W m σ H ->
 c σ H fun b H1 => if b = true then ∃ N : St -> Hp -> Prop, (∀ σ' H', N σ' H' -> ∃ m', m' < m /\ W m' σ' H') /\ tb { D with nx := N, ct := N, bk := D.nx } σ H1 else D.nx σ H1
theorem oq {c : Expr} {body : List Stmt} {tc : TT} {tb : TS} (hp : PassesOwn (model X.prog X.w) X.A X.env X.xe) (hc : PT X c tc) (hb : PSs X body tb) : PS X (.While c body [] pos) (yx tc tb) := by
 intro pins s σ H D I h
 obtain ⟨W, ⟨m0, w0⟩, turn⟩ := h
 refine wpAny_While (codeAny_whileLoop (fun n s' => ∃ σ' H', Inv X pins σ' H' s' /\ W n σ' H') ?_ m0 ⟨σ, H, I, w0⟩)
 rintro n s1 ⟨σ1, H1, I1, w1⟩
 refine wpAny_passesOwn hp (bC (hc pins s1 σ1 H1 _ I1 (turn n σ1 H1 w1)) fun b s2 hq__ => ?_)
 obtain ⟨H2, I2, q2⟩ := hq__
 cases b with
 | true =>
  obtain ⟨N, hN, q2⟩ := q2
  rw [if_pos rfl]
  refine wpAny_passesOwn hp (bC (hb pins s2 σ1 H2 _ I2 q2) fun f s3 q3 => ?_)
  cases f with
  | next =>
   obtain ⟨σ3, H3, I3, n3⟩ := q3
   obtain ⟨m', hm, w3⟩ := hN σ3 H3 n3
   exact ⟨m', hm, σ3, H3, I3, w3⟩
  | cont =>
   obtain ⟨σ3, H3, I3, n3⟩ := q3
   obtain ⟨m', hm, w3⟩ := hN σ3 H3 n3
   exact ⟨m', hm, σ3, H3, I3, w3⟩
  | brk => exact q3
  | ret v => exact q3
 | false =>
  rw [if_neg Ct]
  exact wpAny_execs_nil ⟨σ1, H2, I2, q2⟩
end
structure It where
 go : Nat -> Hp -> Prop
 yld : Nat -> Hp -> V -> Hp -> Prop
 stop : Nat -> Hp -> Prop
def mM (X : Cx) (pins : List (Addr × Obj)) (H : Hp) (b : Addr) : Prop :=
 H b = none /\ b ≠ X.env.locals /\ b ∉ X.fs /\ (b ∈ X.ex \/ X.s₀.heap.objs.size <= b) /\ (∀ x c, X.env.cells.lookup x = some c -> c ≠ b) /\ ∀ p ∈ X.pn ++ pins, p.1 ≠ b
theorem Inv.fpOk {X : Cx} {pins : List (Addr × Obj)} {σ : St} {H H' : Hp} {s : Shared} {b : Addr} (I : Inv X pins σ H s) (hb : s.heap.objs.size <= b) (hn : H' b = none) : mM X pins H' b := by
 refine ⟨hn, Eo (CH I.lt hb), I.nofs hb, .inr (CO I.sz hb), fun x c e z => ?_, fun p hp z => ?_⟩
 ·obtain ⟨v, q⟩ := I.cell x c e
  exact absurd (CH q.lt (by rw [z]; exact hb)) (DC _)
 ·exact absurd (CH (Heap.lt_size (I.pin p hp).1) (by rw [z]; exact hb)) (DC _)
structure Turn (P : Program) (w : World) (K : PySem.W.Frag) (tg : Expr) (J : It) (fp : List Addr) (it : Addr) (tn : Nat -> Heap -> Prop) : Prop where
 mem : it ∈ fp
 obj : ∀ i h, tn i h -> ∀ b ∈ fp, ∃ o, h.get? b = some o /\ ∀ v, o.data ≠ .cell v
 keep : ∀ i h h', tn i h -> (∀ b ∈ fp, ∀ o, h.get? b = some o -> h'.get? b = some o) -> tn i h'
 item : ∀ (X : Cx), X.prog = P -> X.w = w -> X.K = K -> X.calm = true -> ∀ (i : Nat) (pins : List (Addr × Obj)) (s : Shared) (σ : St) (H : Hp) (E : Value -> Shared -> Prop), Inv X pins σ H s -> (∀ b ∈ fp, mM X pins H b) -> tn i s.heap -> J.go i H ->
  wpAny (model P w) X.A (pyNext (.ref it)) (fun r s1 => ∃ u, r = some u /\
   wpAny (model P w) X.A (letOwnedTupleGo tg (.ref it) u) (fun _ s2 => ∃ x H', Inv X pins σ H' s2 /\ RelV x u /\ J.yld i H x H' /\ tn (i + 1) s2.heap /\ ∀ b ∈ fp, H' b = none) E s1) E s
 done : ∀ (X : Cx), X.prog = P -> X.w = w -> X.K = K -> X.calm = true -> ∀ (i : Nat) (pins : List (Addr × Obj)) (s : Shared) (σ : St) (H : Hp) (E : Value -> Shared -> Prop), Inv X pins σ H s -> (∀ b ∈ fp, mM X pins H b) -> tn i s.heap -> J.stop i H ->
  wpAny (model P w) X.A (pyNext (.ref it)) (fun r s1 => r = none /\ Inv X pins σ H s1) E s
 self : ∀ (A : Around) (i : Nat) (s : Shared) (Q : Value -> Shared -> Prop) (E : Value -> Shared -> Prop), tn i s.heap -> Q (.ref it) s -> wpAny (model P w) A (pyIter (.ref it)) Q E s
abbrev TI := St -> Hp -> (It -> Hp -> Prop) -> Prop
def BE (X : Cx) (pins : List (Addr × Obj)) (σ : St) (tg : Expr) (R : It -> Hp -> Prop) (itv : Value) (s2 : Shared) : Prop :=
 ∃ (it : Addr) (fp : List Addr) (tn : Nat -> Heap -> Prop) (J : It) (H' : Hp), itv = .ref it /\ Inv X pins σ H' s2 /\ Turn X.prog X.w X.K tg J fp it tn /\ tn 0 s2.heap /\ (∀ b ∈ fp, mM X pins H' b) /\ R J H'
def PI (X : Cx) (tg iter : Expr) (wi : TI) : Prop :=
 ∀ (pins : List (Addr × Obj)) (s : Shared) (σ : St) (H : Hp) (R : It -> Hp -> Prop), Inv X pins σ H s -> wi σ H R ->
  wpAny (model X.prog X.w) X.A (eval iter X.env) (fun v s1 => wpAny (model X.prog X.w) X.A (pyIter v) (BE X pins σ tg R) X.xe s1) X.xe s
theorem lI {M : Model} {A : Around} {E : Value -> Shared -> Prop} {s : Shared} {tg : Expr} {it : Addr} {u : Value} {o : Obj} {n : String} {vs : Array Value} {Q : Unit -> Shared -> Prop} (ho : s.heap.get? it = some o) (hc : o.cls = .type n) (hd : o.data = .fields vs)
    (hn : ["enumerate", "zip", "dict_itemiterator", "dict_reverseitemiterator", "odict_iterator", "itertools.zip_longest", "itertools.pairwise"].contains n = false) (hQ : Q () s) : wpAny M A (letOwnedTupleGo tg (.ref it) u) Q E s := by
  unfold letOwnedTupleGo
  cases tg <;> first
    | exact wpAny_pure hQ
    | (cases u <;> first
        | exact wpAny_pure hQ
        | (refine wpAny_bind (wpAny_load ho ?_)
           rw [hc, hd]
           show wpAny M A (if (["enumerate", "zip", "dict_itemiterator", "dict_reverseitemiterator", "odict_iterator", "itertools.zip_longest", "itertools.pairwise"].contains n && vs[0]? == some (rawInt _)) = true then _ else _) Q E s
           rw [if_neg (by intro h; rw [hn, EG] at h; cases h)]
           exact wpAny_pure hQ))
def ou (K : PySem.W.Frag) (a : Addr) : It :=
 ⟨fun i H => ∃ xs x, SqL K H a xs /\ xs[i]? = some x, fun i H x H' => H' = H /\ ∀ xs, SqL K H a xs -> xs[i]? = some x, fun i H => ∃ xs, SqL K H a xs /\ xs.length <= i⟩
def xT (K : PySem.W.Frag) (a : Addr) : It :=
 ⟨fun i H => ∃ xs x, SqT K H a xs /\ xs[i]? = some x, fun i H x H' => H' = H /\ ∀ xs, SqT K H a xs -> xs[i]? = some x, fun i H => ∃ xs, SqT K H a xs /\ xs.length <= i⟩
def pQ (lo : Int) (n : Nat) : It := ⟨fun i _ => i < n, fun i H x H' => H' = H /\ x = .int (lo + i), fun i _ => n <= i⟩
theorem lJ {P : Program} {w : World} {K : PySem.W.Frag} {tg : Expr} (a it : Addr) : Turn P w K tg (ou K a) [it] it (fun i h => h.IsListIter it a i) where
 mem := by simp
 obj := fun i h st b hb => by
  have e : b = it := by simpa using hb
  subst e
  obtain ⟨o, e, c, d⟩ := st
  exact ⟨o, e, fun v z => by rw [d] at z; cases z⟩
 keep := fun i h h' st k => st.at fun o e => k it (by simp) o e
 item := by
  intro X hP hw hK hc i pins s σ H E I hf st hg
  subst hP hw hK
  obtain ⟨xs, x, hq, hx⟩ := hg
  obtain ⟨its, rv, p, hz⟩ := I.list hq
  obtain ⟨u, hu, ru⟩ := rv.get hx
  obtain ⟨f0, f1, f2, f3, f4, f5⟩ := hf it (by simp)
  refine wpAny_pyNext_list_item st p.isList (x := u) (by simpa using hu) fun h' st' sb => ?_
  have I1 : Inv X pins σ H { s with heap := h' } := I.turned (t' := s.toks) (fun b o hb e => (sb.2 b hb).trans e) f0 f1 f3 f4 f5
  obtain ⟨o, e, c, d⟩ := id st'
  exact ⟨u, rfl, lI (s := { s with heap := h' }) e c d (by decide) ⟨x, H, I1, ru, ⟨rfl, fun ys hy => by rw [I.list_inj hy hq]; exact hx⟩, st', fun b hb => (hf b hb).1⟩⟩
 done := by
  intro X hP hw hK hc i pins s σ H E I hf st hg
  subst hP hw hK
  obtain ⟨xs, hq, hx⟩ := hg
  obtain ⟨its, rv, p, hz⟩ := I.list hq
  obtain ⟨f0, f1, f2, f3, f4, f5⟩ := hf it (by simp)
  have hl := rv.length
  exact wpAny_pyNext_list_end (I.ok.hd hc) st p.isList (by simp; omega) fun h' eb => ⟨rfl, I.turned (t' := s.toks) (fun b o hb e => eb b o hb e) f0 f1 f3 f4 f5⟩
 self := fun _ _ _ _ _ st h => wpAny_pyIter_listiter st h
theorem jK {P : Program} {w : World} {K : PySem.W.Frag} {tg : Expr} (a it : Addr) : Turn P w K tg (xT K a) [it] it (fun i h => h.IsTupleIter it a i) where
 mem := by simp
 obj := fun i h st b hb => by
  have e : b = it := by simpa using hb
  subst e
  obtain ⟨o, e, c, d⟩ := st
  exact ⟨o, e, fun v z => by rw [d] at z; cases z⟩
 keep := fun i h h' st k => st.at fun o e => k it (by simp) o e
 item := by
  intro X hP hw hK hc i pins s σ H E I hf st hg
  subst hP hw hK
  obtain ⟨xs, x, hq, hx⟩ := hg
  obtain ⟨its, rv, p, hz⟩ := I.tuple hq
  obtain ⟨u, hu, ru⟩ := rv.get hx
  obtain ⟨f0, f1, f2, f3, f4, f5⟩ := hf it (by simp)
  refine wpAny_pyNext_tuple_item st (show s.heap.IsTuple a its.toArray from p) (x := u) (by simpa using hu) fun h' st' sb => ?_
  have I1 : Inv X pins σ H { s with heap := h' } := I.turned (t' := s.toks) (fun b o hb e => (sb.2 b hb).trans e) f0 f1 f3 f4 f5
  obtain ⟨o, e, c, d⟩ := id st'
  exact ⟨u, rfl, lI (s := { s with heap := h' }) e c d (by decide) ⟨x, H, I1, ru, ⟨rfl, fun ys hy => by rw [I.tuple_inj hy hq]; exact hx⟩, st', fun b hb => (hf b hb).1⟩⟩
 done := by
  intro X hP hw hK hc i pins s σ H E I hf st hg
  subst hP hw hK
  obtain ⟨xs, hq, hx⟩ := hg
  obtain ⟨its, rv, p, hz⟩ := I.tuple hq
  obtain ⟨f0, f1, f2, f3, f4, f5⟩ := hf it (by simp)
  have hl := rv.length
  exact wpAny_pyNext_tuple_end (I.ok.hd hc) st (show s.heap.IsTuple a its.toArray from p) (by simp; omega) fun h' eb => ⟨rfl, I.turned (t' := s.toks) (fun b o hb e => eb b o hb e) f0 f1 f3 f4 f5⟩
 self := fun _ _ _ _ _ st h => wpAny_pyIter_tupleiter st h
theorem pU {P : Program} {w : World} {K : PySem.W.Frag} {tg : Expr} (it : Addr) (lo : Int) (n : Nat) : Turn P w K tg (pQ lo n) [it] it (fun i h => IsRangeIter h it (lo + (i : Nat) * 1) ((n : Int) - (i : Nat)) 1) where
 mem := by simp
 obj := fun i h st b hb => by
  have e : b = it := by simpa using hb
  subst e
  exact ⟨_, st, fun v z => by
   have z' : Data.fields _ = Data.cell v := z
   cases z'⟩
 keep := fun i h h' st k => k it (by simp) _ st
 item := by
  intro X hP hw hK hc i pins s σ H E I hf st hg
  subst hP hw hK
  obtain ⟨f0, f1, f2, f3, f4, f5⟩ := hf it (by simp)
  have W := Walks.range (prog := X.prog) (w := X.w) (I.ok.hd hc) it lo 1 n
  refine W.item i s _ _ hg st fun v h' tk hv st' kk => ?_
  obtain ⟨t, rfl⟩ := hv
  have I1 : Inv X pins σ H { s with heap := h', toks := tk } := I.turned (fun b o hb e => kk b o (by simpa using hb) e) f0 f1 f3 f4 f5
  refine ⟨_, rfl, lI (s := { s with heap := h', toks := tk }) (n := "range_iterator") st' rfl rfl (by decide) ⟨.int (lo + i), H, I1, ⟨t, ?_⟩, ⟨rfl, rfl⟩, st', fun b hb => (hf b hb).1⟩⟩
  rw [Int.mul_one]
 done := by
  intro X hP hw hK hc i pins s σ H E I hf st hg
  subst hP hw hK
  obtain ⟨f0, f1, f2, f3, f4, f5⟩ := hf it (by simp)
  exact wpAny_pyNext_range_end (I.ok.hd hc) st (by have : n <= i := hg; omega) fun h' eb => ⟨rfl, I.turned (t' := s.toks) (fun b o hb e => eb b o hb e) f0 f1 f3 f4 f5⟩
 self := fun _ _ _ _ _ st h => wpAny_pyIter_rangeiter st h
section
variable {X : Cx} {tg : Expr}
def xU (K : PySem.W.Frag) (tl : TE) : TI := fun σ H R => tl σ H fun x H1 => ∃ a, x = .ref a /\ (∃ xs, SqL K H1 a xs) /\ R (ou K a) H1
def zJ (K : PySem.W.Frag) (tl : TE) : TI := fun σ H R => tl σ H fun x H1 => ∃ a, x = .ref a /\ (∃ xs, SqT K H1 a xs) /\ R (xT K a) H1
theorem wj {l : Expr} {tl : TE} (hl : PE X l tl) : PI X tg l (xU X.K tl) := by
 intro pins s σ H R I h
 refine bC (hl pins s σ H _ I h) fun v s1 hq__ => ?_
 obtain ⟨x, H1, I1, r1, q1⟩ := hq__
 obtain ⟨a, e, ⟨xs, hq⟩, q⟩ := q1
 subst e
 cases r1
 obtain ⟨its, rv, p, hz⟩ := I1.list hq
 refine wpAny_pyIter_list p.isList ?_
 refine ⟨s1.heap.objs.size, [s1.heap.objs.size], _, _, H1, rfl, I1.kept (t' := s1.toks) fun b o e => Heap.get?_push_of_some _ e, lJ a _, ⟨_, Heap.get?_push_size _ rfl, rfl, rfl⟩, fun b hb => ?_, q⟩
 have e : b = s1.heap.objs.size := by simpa using hb
 subst e
 exact I1.fpOk (Cg _) (I1.hok.fresh (Cg _))
theorem yz {l : Expr} {tl : TE} (hl : PE X l tl) : PI X tg l (zJ X.K tl) := by
 intro pins s σ H R I h
 refine bC (hl pins s σ H _ I h) fun v s1 hq__ => ?_
 obtain ⟨x, H1, I1, r1, q1⟩ := hq__
 obtain ⟨a, e, ⟨xs, hq⟩, q⟩ := q1
 subst e
 cases r1
 obtain ⟨its, rv, p, hz⟩ := I1.tuple hq
 refine wpAny_pyIter_tuple (show s1.heap.IsTuple a its.toArray from p) ?_
 refine ⟨s1.heap.objs.size, [s1.heap.objs.size], _, _, H1, rfl, I1.kept (t' := s1.toks) fun b o e => Heap.get?_push_of_some _ e, jK a _, ⟨_, Heap.get?_push_size _ rfl, rfl, rfl⟩, fun b hb => ?_, q⟩
 have e : b = s1.heap.objs.size := by simpa using hb
 subst e
 exact I1.fpOk (Cg _) (I1.hok.fresh (Cg _))
theorem ox {pins : List (Addr × Obj)} {σ : St} {H : Hp} {s : Shared} {R : It -> Hp -> Prop} {E : Value -> Shared -> Prop} {lo hi : Int} {t u v : Tok} {tk : Nat} (I : Inv X pins σ H s) (h1 : -(2 ^ 62) <= lo) (h2 : lo < 2 ^ 62) (h3 : -(2 ^ 62) <= hi) (h4 : hi < 2 ^ 62)
  (q : R (pQ lo (hi - lo).toNat) H) : wpAny (model X.prog X.w) X.A (pyIter (.ref s.heap.objs.size)) (BE X pins σ tg R) E { s with heap := s.heap.push { cls := .type "range", data := .fields #[.int lo t, .int hi u, .int 1 v] }, toks := tk } := by
 refine wpAny_pyIter_range (IsRange.new ..) (small_one h1 h2 h3 h4) ?_
 have I1 : Inv X pins σ H { s with heap := s.heap.push { cls := .type "range", data := .fields #[.int lo t, .int hi u, .int 1 v] }, toks := tk } := I.kept fun b o e => Heap.get?_push_of_some _ e
 refine ⟨(s.heap.push { cls := .type "range", data := .fields #[.int lo t, .int hi u, .int 1 v] }).objs.size, [(s.heap.push { cls := .type "range", data := .fields #[.int lo t, .int hi u, .int 1 v] }).objs.size], _, _, H, rfl,
  I1.kept (t' := tk) fun b o e => Heap.get?_push_of_some _ e, pU _ lo (hi - lo).toNat, ?_, fun b hb => ?_, q⟩
 ·have e1 : lo + ((0 : Nat) : Int) * 1 = lo := by simp
  have e2 : (((hi - lo).toNat : Nat) : Int) - ((0 : Nat) : Int) = Builtin.Range.rangeSize lo hi 1 := by rw [rangeSize_one]; split <;> omega
  show IsRangeIter _ _ (lo + ((0 : Nat) : Int) * 1) ((((hi - lo).toNat : Nat) : Int) - ((0 : Nat) : Int)) 1
  rw [e1, e2]
  exact Heap.get?_push_size _ rfl
 ·have e : b = (s.heap.push { cls := .type "range", data := .fields #[.int lo t, .int hi u, .int 1 v] }).objs.size := by simpa using hb
  subst e
  exact I1.fpOk (Cg _) (I1.hok.fresh (Cg _))
def zK (ta : TA) : TI := fun σ H R => ta σ H fun vs H1 => ∃ j : Int, vs = [.int j] /\ -(2 ^ 62) <= j /\ j < 2 ^ 62 /\ R (pQ 0 j.toNat) H1
def zL (ta : TA) : TI := fun σ H R => ta σ H fun vs H1 => ∃ i j : Int, vs = [.int i, .int j] /\ (-(2 ^ 62) <= i /\ i < 2 ^ 62 /\ -(2 ^ 62) <= j /\ j < 2 ^ 62) /\ R (pQ i (j - i).toNat) H1
theorem bp {a : Expr} {ta : TA} {p pos : Pos} (hg : Gl X "range") (hm : X.mg "range" = none) (ha : PA X [a] ta) (hs : starEach [a] X.env = [(false, eval a X.env)] := by rfl) : PI X tg (.Call (.Name "range" p) [a] [] pos) (zK ta) := by
 intro pins s σ H R I h
 refine Call_ (e8 I hg hm boot_range (PyProof.Rows.callWith_type1 (bC (ha pos pins s σ H _ I h) fun us s1 ⟨vs, H1, I1, r1, q1⟩ => ?_) hs rfl))
 obtain ⟨j, e, q1, q2, q⟩ := q1
 subst e
 cases r1 with
 | cons r rr =>
  cases rr
  obtain ⟨t, rfl⟩ := r
  exact call_range_1 (ox I1 (by omega) (by omega) q1 q2 (by simpa using q))
theorem r8 {a b : Expr} {ta : TA} {p pos : Pos} (hg : Gl X "range") (hm : X.mg "range" = none) (ha : PA X [a, b] ta) (hs : starEach [a, b] X.env = [(false, eval a X.env), (false, eval b X.env)] := by rfl) (hs2 : starEach [b] X.env = [(false, eval b X.env)] := by rfl) :
  PI X tg (.Call (.Name "range" p) [a, b] [] pos) (zL ta) := by
 intro pins s σ H R I h
 refine Call_ (e8 I hg hm boot_range (PyProof.Rows.callWith_type1 (bC (ha pos pins s σ H _ I h) fun us s1 ⟨vs, H1, I1, r1, q1⟩ => ?_) (by rw [hs, hs2]) (by rw [hs2]; rfl)))
 obtain ⟨i, j, e, ⟨q1, q2, q3, q4⟩, q⟩ := q1
 subst e
 cases r1 with
 | cons r rr =>
  cases rr with
  | cons r' rr =>
   cases rr
   obtain ⟨t, rfl⟩ := r
   obtain ⟨t', rfl⟩ := r'
   exact call_range_2 (ox I1 q1 q2 q3 q4 q)
def A1 (wi : TI) (g : TG) (tb : TS) : TS := fun D σ H => wi σ H fun J H1 => ∃ W : Nat -> Nat -> St -> Hp -> Prop, (∃ m, W 0 m σ H1) /\ ∀ i m σ H, W i m σ H ->
 (J.stop i H /\ D.nx σ H) \/ (J.go i H /\ ∃ N : St -> Hp -> Prop, (∀ σ' H', N σ' H' -> ∃ m', m' < m /\ W (i + 1) m' σ' H') /\ ∀ x H', J.yld i H x H' -> g x σ H' fun σ2 H2 => tb { D with nx := N, ct := N, bk := D.nx } σ2 H2)
def jL (fp : List Addr) (h : Heap) : List (Addr × Obj) := fp.filterMap fun b => (h.get? b).map fun o => (b, o)
theorem eB {fp : List Addr} {h : Heap} {b : Addr} {o : Obj} (hb : b ∈ fp) (e : h.get? b = some o) : (b, o) ∈ jL fp h := Em.mpr ⟨b, hb, by rw [e]; rfl⟩
theorem r9 {fp : List Addr} {h : Heap} {p : Addr × Obj} (hp : p ∈ jL fp h) : p.1 ∈ fp /\ h.get? p.1 = some p.2 := by
 obtain ⟨b, hb, e⟩ := Em.mp hp
 cases q : h.get? b with
 | none => rw [q] at e; cases e
 | some o =>
  rw [q] at e
  have e' : (b, o) = p := Option.some.inj e
  subst e'
  exact ⟨hb, q⟩
theorem Inv.pinned {pins : List (Addr × Obj)} {σ : St} {H : Hp} {s : Shared} {fp : List Addr} (I : Inv X pins σ H s) (hf : ∀ b ∈ fp, mM X pins H b) (ho : ∀ b ∈ fp, ∃ o, s.heap.get? b = some o /\ ∀ v, o.data ≠ .cell v) : Inv X (pins ++ jL fp s.heap) σ H s :=
 I.pins_of fun p hp => (CC.mp hp).elim (fun z => I.pin p (CJ _ z)) fun z => by
  obtain ⟨hb, e⟩ := r9 z
  obtain ⟨f0, f1, f2, _⟩ := hf p.1 hb
  obtain ⟨o, e', d⟩ := ho p.1 hb
  rw [e] at e'; cases e'
  exact ⟨e, f0, f1, f2, d⟩
theorem Inv.unpinned {pins pl : List (Addr × Obj)} {σ : St} {H : Hp} {s : Shared} (I : Inv X (pins ++ pl) σ H s) : Inv X pins σ H s := I.pins_of fun p hp => I.pin p (CJ _ (CA _ hp))
theorem bc {iter : Expr} {body : List Stmt} {wi : TI} {g : TG} {tb : TS} {pos : Pos} (hp : PassesOwn (model X.prog X.w) X.A X.env X.xe) (hc : X.calm = true) (hi : PI X tg iter wi) (hg : PG X tg g) (hb : PSs X body tb)
  (hs : ∀ x, foldedSetIterable iter X.env x = pure x := by intro _; rfl) : PS X (.For tg iter body [] pos) (A1 wi g tb) := by
 intro pins s σ H D I h
 refine wpAny_For (bC (hi pins s σ H _ I h) fun v s1 h1 => bC h1 fun itv s2 h2 => ?_) hs
 obtain ⟨it, fp, tn, J, H2, e, I2, T, st2, f2, W, ⟨m0, w0⟩, turn⟩ := h2
 subst e
 have stat : ∀ {H' : Hp}, (∀ b ∈ fp, H' b = none) -> ∀ b ∈ fp, mM X pins H' b := fun hn b hb => ⟨hn b hb, (f2 b hb).2⟩
 refine codeAny_forLoop_any (fun n s' => ∃ i σ' H', Inv X pins σ' H' s' /\ tn i s'.heap /\ (∀ b ∈ fp, H' b = none) /\ W i n σ' H') ?_ m0 ⟨0, σ, H2, I2, st2, fun b hb => (f2 b hb).1, w0⟩
 rintro n s3 ⟨i, σ3, H3, I3, st3, fr3, w3⟩
 rcases turn i n σ3 H3 w3 with ⟨stop, qn⟩ | ⟨go, N, hN, step⟩
 ·refine wpAny_passesOwn hp (bC (T.done X rfl rfl rfl hc i pins s3 σ3 H3 X.xe I3 (stat fr3) st3 stop) fun r s4 hq__ => ?_)
  obtain ⟨hr, I4⟩ := hq__
  subst hr
  exact wpAny_execs_nil ⟨σ3, H3, I4, qn⟩
 ·refine wpAny_passesOwn hp (bC (T.item X rfl rfl rfl hc i pins s3 σ3 H3 X.xe I3 (stat fr3) st3 go) fun r s4 hq__ => ?_)
  obtain ⟨u, hr, h4⟩ := hq__
  subst hr
  refine wpAny_passesOwn hp (bC h4 fun _ s5 hq__ => ?_)
  obtain ⟨x, H5, I5, r5, y5, st5, fr5⟩ := hq__
  have I5' := I5.pinned (stat fr5) (T.obj _ _ st5)
  refine wpAny_passesOwn hp (bC (hg _ s5 σ3 H5 x u _ I5' r5 (step x H5 y5)) fun _ s6 hq__ => ?_)
  obtain ⟨σ6, H6, I6, q6⟩ := hq__
  refine wpAny_passesOwn hp (bC (hb _ s6 σ6 H6 _ I6 q6) fun f s7 q7 => ?_)
  have again : ∀ {σ7 : St} {H7 : Hp}, Inv X (pins ++ jL fp s5.heap) σ7 H7 s7 -> N σ7 H7 -> ∃ m, m < n /\ ∃ i σ' H', Inv X pins σ' H' s7 /\ tn i s7.heap /\ (∀ b ∈ fp, H' b = none) /\ W i m σ' H' := fun {σ7 H7} I7 n7 => by
   obtain ⟨m', hm, w7⟩ := hN σ7 H7 n7
   refine ⟨m', hm, i + 1, σ7, H7, I7.unpinned, T.keep _ _ _ st5 fun b hb o e => (I7.pin (b, o) (CJ _ (CJ _ (eB hb e)))).1, fun b hb => ?_, w7⟩
   obtain ⟨o, e, d⟩ := T.obj _ _ st5 b hb
   exact (I7.pin (b, o) (CJ _ (CJ _ (eB hb e)))).2.1
  cases f with
  | next => obtain ⟨σ7, H7, I7, n7⟩ := q7; exact again I7 n7
  | cont => obtain ⟨σ7, H7, I7, n7⟩ := q7; exact again I7 n7
  | brk => obtain ⟨σ7, H7, I7, q7⟩ := q7; exact ⟨σ7, H7, I7.unpinned, q7⟩
  | ret v => obtain ⟨x7, σ7, H7, I7, r7, q7⟩ := q7; exact ⟨x7, σ7, H7, I7.unpinned, r7, q7⟩
end
theorem bK {K : PySem.W.Frag} {a : Addr} {xs : List V} {g : TG} {tb : TS} {D : Ends} {σ : St} {H : Hp} (Pv : Nat -> St -> Hp -> Prop) (h0 : Pv 0 σ H) (hl : ∀ i σ H, i <= xs.length -> Pv i σ H -> SqL K H a xs)
  (hs : ∀ i x σ H, xs[i]? = some x -> Pv i σ H -> g x σ H fun σ2 H2 => tb { D with nx := Pv (i + 1), ct := Pv (i + 1), bk := D.nx } σ2 H2) (hd : ∀ σ H, Pv xs.length σ H -> D.nx σ H) :
  ∃ W : Nat -> Nat -> St -> Hp -> Prop, (∃ m, W 0 m σ H) /\ ∀ i m σ H, W i m σ H ->
   ((ou K a).stop i H /\ D.nx σ H) \/ ((ou K a).go i H /\ ∃ N : St -> Hp -> Prop, (∀ σ' H', N σ' H' -> ∃ m', m' < m /\ W (i + 1) m' σ' H') /\ ∀ x H', (ou K a).yld i H x H' -> g x σ H' fun σ2 H2 => tb { D with nx := N, ct := N, bk := D.nx } σ2 H2) := by
 refine ⟨fun i m σ H => m = xs.length - i /\ i <= xs.length /\ Pv i σ H, ⟨xs.length, by simp, CK _, h0⟩, ?_⟩
 rintro i m σ H ⟨rfl, hi, p⟩
 have q := hl i σ H hi p
 by_cases hlt : i < xs.length
 ·refine .inr ⟨⟨xs, xs[i], q, by simp [hlt]⟩, Pv (i + 1), fun σ' H' p' => ⟨xs.length - (i + 1), C2 _ _ hlt, rfl, hlt, p'⟩, fun x H' y => ?_⟩
  obtain ⟨e, y⟩ := y
  subst e
  exact hs i x σ _ (y xs q) p
 ·have e : i = xs.length := Ds hi (Dg hlt)
  subst e
  exact .inl ⟨⟨xs, q, Cg _⟩, hd σ H p⟩
theorem wk {K : PySem.W.Frag} {a : Addr} {xs : List V} {g : TG} {tb : TS} {D : Ends} {σ : St} {H : Hp} (Pv : Nat -> St -> Hp -> Prop) (h0 : Pv 0 σ H) (hl : ∀ i σ H, i <= xs.length -> Pv i σ H -> SqT K H a xs)
  (hs : ∀ i x σ H, xs[i]? = some x -> Pv i σ H -> g x σ H fun σ2 H2 => tb { D with nx := Pv (i + 1), ct := Pv (i + 1), bk := D.nx } σ2 H2) (hd : ∀ σ H, Pv xs.length σ H -> D.nx σ H) :
  ∃ W : Nat -> Nat -> St -> Hp -> Prop, (∃ m, W 0 m σ H) /\ ∀ i m σ H, W i m σ H ->
   ((xT K a).stop i H /\ D.nx σ H) \/ ((xT K a).go i H /\ ∃ N : St -> Hp -> Prop, (∀ σ' H', N σ' H' -> ∃ m', m' < m /\ W (i + 1) m' σ' H') /\ ∀ x H', (xT K a).yld i H x H' -> g x σ H' fun σ2 H2 => tb { D with nx := N, ct := N, bk := D.nx } σ2 H2) := by
 refine ⟨fun i m σ H => m = xs.length - i /\ i <= xs.length /\ Pv i σ H, ⟨xs.length, by simp, CK _, h0⟩, ?_⟩
 rintro i m σ H ⟨rfl, hi, p⟩
 have q := hl i σ H hi p
 by_cases hlt : i < xs.length
 ·refine .inr ⟨⟨xs, xs[i], q, by simp [hlt]⟩, Pv (i + 1), fun σ' H' p' => ⟨xs.length - (i + 1), C2 _ _ hlt, rfl, hlt, p'⟩, fun x H' y => ?_⟩
  obtain ⟨e, y⟩ := y
  subst e
  exact hs i x σ _ (y xs q) p
 ·have e : i = xs.length := Ds hi (Dg hlt)
  subst e
  exact .inl ⟨⟨xs, q, Cg _⟩, hd σ H p⟩
theorem cz {lo : Int} {n : Nat} {g : TG} {tb : TS} {D : Ends} {σ : St} {H : Hp} (Pv : Nat -> St -> Hp -> Prop) (h0 : Pv 0 σ H)
  (hs : ∀ i σ H, i < n -> Pv i σ H -> g (.int (lo + i)) σ H fun σ2 H2 => tb { D with nx := Pv (i + 1), ct := Pv (i + 1), bk := D.nx } σ2 H2) (hd : ∀ σ H, Pv n σ H -> D.nx σ H) :
  ∃ W : Nat -> Nat -> St -> Hp -> Prop, (∃ m, W 0 m σ H) /\ ∀ i m σ H, W i m σ H ->
   ((pQ lo n).stop i H /\ D.nx σ H) \/ ((pQ lo n).go i H /\ ∃ N : St -> Hp -> Prop, (∀ σ' H', N σ' H' -> ∃ m', m' < m /\ W (i + 1) m' σ' H') /\ ∀ x H', (pQ lo n).yld i H x H' -> g x σ H' fun σ2 H2 => tb { D with nx := N, ct := N, bk := D.nx } σ2 H2) := by
 refine ⟨fun i m σ H => m = n - i /\ i <= n /\ Pv i σ H, ⟨n, by simp, CK _, h0⟩, ?_⟩
 rintro i m σ H ⟨rfl, hi, p⟩
 by_cases hlt : i < n
 ·refine .inr ⟨hlt, Pv (i + 1), fun σ' H' p' => ⟨n - (i + 1), C2 _ _ hlt, rfl, hlt, p'⟩, fun x H' y => ?_⟩
  obtain ⟨e, y⟩ := y
  subst e y
  exact hs i σ _ hlt p
 ·have e : i = n := Ds hi (Dg hlt)
  subst e
  exact .inl ⟨Cg _, hd σ H p⟩
abbrev R2 := V -> V -> Hp -> VK -> Prop
def gI (X : Cx) (f : Value -> Value -> Sem Value) (r : R2) : Prop :=
 ∀ (pins : List (Addr × Obj)) (s : Shared) (σ : St) (H : Hp) (x y : V) (v u : Value) (Q : VK), Inv X pins σ H s -> RelV x v -> RelV y u -> r x y H Q ->
  wpAny (model X.prog X.w) X.A (f v u) (EP X pins σ Q) X.xe s
def AI (X : Cx) (f : Value -> Sem Value) (r : V -> Hp -> VK -> Prop) : Prop :=
 ∀ (pins : List (Addr × Obj)) (s : Shared) (σ : St) (H : Hp) (x : V) (v : Value) (Q : VK), Inv X pins σ H s -> RelV x v -> r x H Q ->
  wpAny (model X.prog X.w) X.A (f v) (EP X pins σ Q) X.xe s
def cH (X : Cx) (f : Value) (r : List V -> Hp -> VK -> Prop) : Prop :=
 ∀ (pins : List (Addr × Obj)) (s : Shared) (σ : St) (H : Hp) (xs : List V) (us : List Value) (Q : VK), Inv X pins σ H s -> Vals xs us -> r xs H Q ->
  wpAny (model X.prog X.w) X.A (call f us) (EP X pins σ Q) X.xe s
def A3 (X : Cx) (r : V -> Hp -> (Bool -> Hp -> Prop) -> Prop) : Prop :=
 ∀ (pins : List (Addr × Obj)) (s : Shared) (σ : St) (H : Hp) (x : V) (v : Value) (Q : Bool -> Hp -> Prop), Inv X pins σ H s -> RelV x v -> r x H Q ->
  wpAny (model X.prog X.w) X.A (truthy v) (TP X pins σ Q) X.xe s
def AJ (r : R2) (ta tb : TE) : TE := fun σ H Q => ta σ H fun x H1 => tb σ H1 fun y H2 => r x y H2 Q
def BP (r : V -> Hp -> VK -> Prop) (ta : TE) : TE := fun σ H Q => ta σ H fun x H1 => r x H1 Q
def rI (C : Int -> Int -> Prop) (g : Int -> Int -> V) : R2 := fun x y H Q => ∃ i j, x = .int i /\ y = .int j /\ C i j /\ Q (g i j) H
def xV (g : Int -> Int -> V) : R2 := fun x y H Q => ∃ i j, x = .int i /\ y = .int j /\ Q (g i j) H
def rU (g : Int -> V) : V -> Hp -> VK -> Prop := fun x H Q => ∃ i, x = .int i /\ Q (g i) H
section
variable {X : Cx} {a b c : Expr} {ta tb tc : TE} {pos : Pos}
theorem yA (ha : PE X a ta) (hb : PE X b tb) {pins : List (Addr × Obj)} {s : Shared} {σ : St} {H : Hp} {R : V -> V -> Hp -> Prop} (I : Inv X pins σ H s)
  (h : ta σ H fun x H1 => tb σ H1 fun y H2 => R x y H2) {Q : Value -> Shared -> Prop} {f : Value -> Value -> Sem Value}
  (hf : ∀ v u s2 x y H2, Inv X pins σ H2 s2 -> RelV x v -> RelV y u -> R x y H2 -> wpAny (model X.prog X.w) X.A (f v u) Q X.xe s2) :
  wpAny (model X.prog X.w) X.A (eval a X.env) (fun v s₁ => wpAny (model X.prog X.w) X.A (eval b X.env) (fun u s₂ => wpAny (model X.prog X.w) X.A (f v u) Q X.xe s₂) X.xe s₁) X.xe s := by
 refine bC (ha pins s σ H _ I h) fun v s1 hq__ => ?_
 obtain ⟨x, H1, I1, r1, q1⟩ := hq__
 refine bC (hb pins s1 σ H1 _ I1 q1) fun u s2 hq__ => ?_
 obtain ⟨y, H2, I2, r2, q2⟩ := hq__
 exact hf v u s2 x y H2 I2 r1 r2 q2
theorem ay {op : Operator} {r : R2} (ho : gI X (binaryOp op) r) (ha : PE X a ta) (hb : PE X b tb) : PE X (.BinOp a op b pos) (AJ r ta tb) := by
 intro pins s σ H Q I h
 exact wpAny_BinOp (yA ha hb I h fun v u s2 x y H2 I2 rx ry q => ho pins s2 σ H2 x y v u Q I2 rx ry q)
theorem oy {op : UnaryOp} {r : V -> Hp -> VK -> Prop} (ho : AI X (unaryOp op) r) (ha : PE X a ta) : PE X (.UnaryOp op a pos) (BP r ta) := by
 intro pins s σ H Q I h
 exact UnaryOp_ (bC (ha pins s σ H _ I h) fun v s1 ⟨x, H1, I1, r1, q1⟩ => ho pins s1 σ H1 x v Q I1 r1 q1)
theorem zM {f : Value -> Value -> Sem Value} {C : Int -> Int -> Prop} {g : Int -> Int -> Int}
  (rule : ∀ (i j : Int) (t u : Tok) (s : Shared) (Q : Value -> Shared -> Prop) (E : Value -> Shared -> Prop), C i j -> Q (.int (g i j) s.toks) { s with toks := s.toks + 1 } -> wpAny (model X.prog X.w) X.A (f (.int i t) (.int j u)) Q E s) :
  gI X f (rI C fun i j => .int (g i j)) := by
 intro pins s σ H x y v u Q I rx ry h
 obtain ⟨i, j, rfl, rfl, hc, q⟩ := h
 obtain ⟨t, rfl⟩ := rx
 obtain ⟨t', rfl⟩ := ry
 exact rule i j t t' s _ _ hc ⟨.int (g i j), H, I.tok _, ⟨_, rfl⟩, q⟩
theorem zN {f : Value -> Value -> Sem Value} {g : Int -> Int -> Int}
  (rule : ∀ (i j : Int) (t u : Tok) (s : Shared) (Q : Value -> Shared -> Prop) (E : Value -> Shared -> Prop), Q (.int (g i j) s.toks) { s with toks := s.toks + 1 } -> wpAny (model X.prog X.w) X.A (f (.int i t) (.int j u)) Q E s) :
  gI X f (xV fun i j => .int (g i j)) := by
 intro pins s σ H x y v u Q I rx ry h
 obtain ⟨i, j, rfl, rfl, q⟩ := h
 obtain ⟨t, rfl⟩ := rx
 obtain ⟨t', rfl⟩ := ry
 exact rule i j t t' s _ _ ⟨.int (g i j), H, I.tok _, ⟨_, rfl⟩, q⟩
theorem wm {f : Value -> Value -> Sem Value} {g : Int -> Int -> Bool}
  (rule : ∀ (i j : Int) (t u : Tok) (s : Shared) (Q : Value -> Shared -> Prop) (E : Value -> Shared -> Prop), Q (.bool (g i j)) s -> wpAny (model X.prog X.w) X.A (f (.int i t) (.int j u)) Q E s) :
  gI X f (xV fun i j => .bl (g i j)) := by
 intro pins s σ H x y v u Q I rx ry h
 obtain ⟨i, j, rfl, rfl, q⟩ := h
 obtain ⟨t, rfl⟩ := rx
 obtain ⟨t', rfl⟩ := ry
 exact rule i j t t' s _ _ ⟨.bl (g i j), H, I, rfl, q⟩
def mN (i j : Int) : Prop := 0 < j /\ j < 1073741824
def zO (i j : Int) : Prop := 0 <= j /\ j <= 1000000 /\ i.natAbs < 2 ^ 64
def CMul (i j : Int) : Prop := (-(2 ^ 64) < i /\ i < 2 ^ 64) \/ (-(2 ^ 64) < j /\ j < 2 ^ 64)
theorem CMul.ok {i j : Int} (h : CMul i j) : IntMulOk i j := by
 rcases h with ⟨h1, h2⟩ | ⟨h1, h2⟩
 ·exact .of_left (intBits_le_64 h1 h2)
 ·exact .of_right (intBits_le_64 h1 h2)
theorem pV (k : Nat) : (0 : Int) <= 2 ^ k := by
 rw [two_pow_cast]
 exact Int.natCast_nonneg _
theorem aU : gI X (binaryOp .Add) (xV fun i j => .int (i + j)) := zN fun _ _ _ _ _ _ _ q => add_int q
theorem jM : gI X (binaryOp .Sub) (xV fun i j => .int (i - j)) := zN fun _ _ _ _ _ _ _ q => sub_int q
theorem eD : gI X (binaryOp .Mult) (rI CMul fun i j => .int (i * j)) := zM fun _ _ _ _ _ _ _ hc q => mul_int q hc.ok
theorem cO : gI X (binaryOp .FloorDiv) (rI mN fun i j => .int (i / j)) := zM fun i j _ _ _ _ _ hc q => by
 have h1 : (0 : Int) < j := hc.1
 have h2 : j < 1073741824 := hc.2
 exact floordiv_int (by omega) (by rw [EB i (by omega)]; exact q) (.inl (PyProof.noPylong_small (by omega)))
theorem bG : gI X (binaryOp .Mod) (rI (fun _ j => 0 < j) fun i j => .int (i % j)) := zM fun i j _ _ _ _ _ hc q => by
 have h1 : (0 : Int) < j := hc
 exact mod_int' (by omega) (by rw [Int.fmod_eq_emod_of_nonneg i (by omega)]; exact q)
theorem jN : gI X (binaryOp .Pow) (rI zO fun i j => .int (i ^ j.toNat)) := zM fun _ _ _ _ _ _ _ hc q => pow_int_small hc.1 hc.2.1 hc.2.2 q
theorem yB : gI X (binaryOp .RShift) (rI (fun _ j => 0 <= j) fun i j => .int (i / 2 ^ j.toNat)) := zM fun i j _ _ _ _ _ hc q =>
 rshift_int hc (by rw [EB i (pV _)]; exact q)
theorem BQ {f : Value -> Sem Value} {g : Int -> Int}
  (rule : ∀ (i : Int) (t : Tok) (s : Shared) (Q : Value -> Shared -> Prop) (E : Value -> Shared -> Prop), Q (.int (g i) s.toks) { s with toks := s.toks + 1 } -> wpAny (model X.prog X.w) X.A (f (.int i t)) Q E s) :
  AI X f (rU fun i => .int (g i)) := by
 intro pins s σ H x v Q I rx h
 obtain ⟨i, rfl, q⟩ := h
 obtain ⟨t, rfl⟩ := rx
 exact rule i t s _ _ ⟨.int (g i), H, I.tok _, ⟨_, rfl⟩, q⟩
theorem jO : AI X (unaryOp .USub) (rU fun i => .int (-i)) := BQ fun _ _ _ _ _ q => neg_int q
end
def zP : V -> V -> Bool
 | .non, .non => true | .non, .int _ => true | .int _, .non => true | .non, .bl _ => true | .bl _, .non => true | .non, .str _ => true | .str _, .non => true
 | .int _, .int _ => true | .bl _, .bl _ => true | .str _, .str _ => true | .byt _, .byt _ => true
 | .int _, .str _ => true | .str _, .int _ => true | .bl _, .str _ => true | .str _, .bl _ => true
 | _, _ => false
def BR : R2 := fun x y H Q => zP x y = true /\ Q (.bl (decide (x = y))) H
def BS : R2 := fun x y H Q => zP x y = true /\ Q (.bl (!decide (x = y))) H
theorem qU {i j : Int} : decide (V.int i = V.int j) = (i == j) := by
 rw [DU]
 simp
theorem uf {i j : Bool} : decide (V.bl i = V.bl j) = (i == j) := by
 rw [DU]
 simp
theorem qV {i j : Str} : decide (V.str i = V.str j) = (i == j) := by
 rw [DU]
 simp
theorem qW {i j : Array UInt8} : decide (V.byt i = V.byt j) = (i.toList == j.toList) := by
 rw [DU]
 cases i
 cases j
 simp
section
variable {X : Cx} {a b c : Expr} {ta tb tc : TE} {pos : Pos}
theorem aN {pins : List (Addr × Obj)} {σ : St} {H : Hp} {s : Shared} {Q : VK} {k k' : Bool} (I : Inv X pins σ H s) (q : Q (.bl k) H) (e : k = k') : EP X pins σ Q (.bool k') s := by
 subst e
 exact ⟨.bl k, H, I, rfl, q⟩
theorem b6 : gI X (compareOp .Eq) BR := by
 intro pins s σ H x y v u Q I rx ry h
 obtain ⟨hs, q⟩ := h
 cases x with
 | non =>
  cases rx
  cases y with
  | non => cases ry; exact PySem.EqNone.eq_none_none (aN I q (by simp))
  | bl j => cases ry; exact PySem.EqNone.eq_none_bool (aN I q (by simp))
  | int j => obtain ⟨t', rfl⟩ := ry; exact PySem.EqNone.eq_none_int (aN I q (by simp))
  | str j => obtain ⟨t', rfl⟩ := ry; exact PySem.EqNone.eq_none_str (aN I q (by simp))
  | _ => exact absurd (show false = true from hs) Ct
 | bl i =>
  cases rx
  cases y with
  | non => cases ry; exact PySem.EqNone.eq_bool_none (aN I q (by simp))
  | bl j => cases ry; exact eq_bool (aN I q uf)
  | str j => obtain ⟨t', rfl⟩ := ry; exact PySem.EqMixed.eq_bool_str (aN I q (by simp))
  | _ => exact absurd (show false = true from hs) Ct
 | int i =>
  obtain ⟨t, rfl⟩ := rx
  cases y with
  | non => cases ry; exact PySem.EqNone.eq_int_none (aN I q (by simp))
  | int j => obtain ⟨t', rfl⟩ := ry; exact eq_int (aN I q qU)
  | str j => obtain ⟨t', rfl⟩ := ry; exact PySem.EqMixed.eq_int_str (aN I q (by simp))
  | _ => exact absurd (show false = true from hs) Ct
 | str i =>
  obtain ⟨t, rfl⟩ := rx
  cases y with
  | non => cases ry; exact PySem.EqNone.eq_str_none (aN I q (by simp))
  | bl j => cases ry; exact PySem.EqMixed.eq_str_bool (aN I q (by simp))
  | int j => obtain ⟨t', rfl⟩ := ry; exact PySem.EqMixed.eq_str_int (aN I q (by simp))
  | str j => obtain ⟨t', rfl⟩ := ry; exact eq_str (aN I q qV)
  | _ => exact absurd (show false = true from hs) Ct
 | byt i =>
  obtain ⟨t, rfl⟩ := rx
  cases y with
  | byt j => obtain ⟨t', rfl⟩ := ry; exact PySem.W.eq_bytes (aN I q qW)
  | _ => exact absurd (show false = true from hs) Ct
 | _ => cases y <;> exact absurd (show false = true from hs) Ct
theorem qX : gI X (compareOp .NotEq) BS := by
 intro pins s σ H x y v u Q I rx ry h
 obtain ⟨hs, q⟩ := h
 cases x with
 | non =>
  cases rx
  cases y with
  | non => cases ry; exact PySem.EqNone.ne_none_none (aN I q (by simp))
  | bl j => cases ry; exact PySem.EqNone.ne_none_bool (aN I q (by simp))
  | int j => obtain ⟨t', rfl⟩ := ry; exact PySem.EqNone.ne_none_int (aN I q (by simp))
  | str j => obtain ⟨t', rfl⟩ := ry; exact PySem.EqNone.ne_none_str (aN I q (by simp))
  | _ => exact absurd (show false = true from hs) Ct
 | bl i =>
  cases rx
  cases y with
  | non => cases ry; exact PySem.EqNone.ne_bool_none (aN I q (by simp))
  | bl j => cases ry; exact ne_bool (aN I q (congrArg not uf))
  | str j => obtain ⟨t', rfl⟩ := ry; exact PySem.EqMixed.ne_bool_str (aN I q (by simp))
  | _ => exact absurd (show false = true from hs) Ct
 | int i =>
  obtain ⟨t, rfl⟩ := rx
  cases y with
  | non => cases ry; exact PySem.EqNone.ne_int_none (aN I q (by simp))
  | int j => obtain ⟨t', rfl⟩ := ry; exact ne_int (aN I q (congrArg not qU))
  | str j => obtain ⟨t', rfl⟩ := ry; exact PySem.EqMixed.ne_int_str (aN I q (by simp))
  | _ => exact absurd (show false = true from hs) Ct
 | str i =>
  obtain ⟨t, rfl⟩ := rx
  cases y with
  | non => cases ry; exact PySem.EqNone.ne_str_none (aN I q (by simp))
  | bl j => cases ry; exact PySem.EqMixed.ne_str_bool (aN I q (by simp))
  | int j => obtain ⟨t', rfl⟩ := ry; exact PySem.EqMixed.ne_str_int (aN I q (by simp))
  | str j => obtain ⟨t', rfl⟩ := ry; exact ne_str (aN I q (congrArg not qV))
  | _ => exact absurd (show false = true from hs) Ct
 | byt i =>
  obtain ⟨t, rfl⟩ := rx
  cases y with
  | byt j => obtain ⟨t', rfl⟩ := ry; exact PySem.W.ne_bytes (aN I q (congrArg not qW))
  | _ => exact absurd (show false = true from hs) Ct
 | _ => cases y <;> exact absurd (show false = true from hs) Ct
theorem oz : gI X (compareOp .Lt) (xV fun i j => .bl (decide (i < j))) := wm fun _ _ _ _ _ _ _ q => lt_int q
theorem xW : gI X (compareOp .LtE) (xV fun i j => .bl (decide (i <= j))) := wm fun _ _ _ _ _ _ _ q => le_int q
theorem xX : gI X (compareOp .Gt) (xV fun i j => .bl (decide (j < i))) := wm fun _ _ _ _ _ _ _ q => gt_int q
theorem qY : gI X (compareOp .GtE) (xV fun i j => .bl (decide (j <= i))) := wm fun _ _ _ _ _ _ _ q => ge_int q
theorem iu : gI X (compareOp .Is) (fun x y H Q => y = .non /\ Q (.bl (decide (x = .non))) H) := by
 intro pins s σ H x y v u Q I rx ry h
 obtain ⟨rfl, q⟩ := h
 cases ry
 refine is_none_gen (aN I q ?_)
 cases x <;> first
  | (cases rx; rfl)
  | (obtain ⟨t, rfl⟩ := rx; rfl)
theorem dA : gI X (compareOp .IsNot) (fun x y H Q => y = .non /\ Q (.bl (!decide (x = .non))) H) := by
 intro pins s σ H x y v u Q I rx ry h
 obtain ⟨rfl, q⟩ := h
 cases ry
 refine isnot_none_gen (aN I q ?_)
 cases x <;> first
  | (cases rx; rfl)
  | (obtain ⟨t, rfl⟩ := rx; rfl)
theorem aB (b : Expr) {op : CmpOp} (h : op ≠ .In := by decide) (h2 : op ≠ .NotIn := by decide) : behindInMarks op b = false := by
 have e1 : (op == CmpOp.In) = false := by cases op <;> first | rfl | exact absurd rfl h
 have e2 : (op == CmpOp.NotIn) = false := by cases op <;> first | rfl | exact absurd rfl h2
 cases b <;> simp [behindInMarks, e1, e2]
theorem cm {op : CmpOp} {r : R2} (ho : gI X (compareOp op) r) (ha : PE X a ta) (hb : PE X b tb) (hm : behindInMarks op b = false) : PE X (.Compare a [op] [b] pos) (AJ r ta tb) := by
 intro pins s σ H Q I h
 exact wpAny_Compare1 (yA ha hb I h fun v u s2 x y H2 I2 rx ry q => ho pins s2 σ H2 x y v u Q I2 rx ry q) hm
def zQ (t : TE) : TT := fun σ H Q => t σ H fun x H' => ∃ k, x = .bl k /\ Q k H'
theorem aA {op : CmpOp} {r : R2} (ho : gI X (compareOp op) r) (ha : PE X a ta) (hb : PE X b tb) (hm : behindInMarks op b = false) : PT X (.Compare a [op] [b] pos) (zQ (AJ r ta tb)) := by
 intro pins s σ H Q I h
 refine wpAny_isTrue_Compare1 (bC (ha pins s σ H _ I h) fun v s1 h1 => ?_) hm
 obtain ⟨x, H1, I1, r1, q1⟩ := h1
 refine bC (hb pins s1 σ H1 _ I1 q1) fun u s2 h2 => ?_
 obtain ⟨y, H2, I2, r2, q2⟩ := h2
 refine bC (ho pins s2 σ H2 x y v u _ I2 r1 r2 q2) fun c s3 h3 => ?_
 obtain ⟨z, H3, I3, r3, k, e, q3⟩ := h3
 subst e
 cases r3
 exact wpAny_truthy_bool ⟨H3, I3, q3⟩
def A4 (K : PySem.W.Frag) (x : V) (H : Hp) (k : Bool) : Prop :=
 match x with
 | .non => k = false
 | .bl b => k = b
 | .int i => k = (i != 0)
 | .str y => y.length <= sizeLine /\ k = ((y.length : Int) != 0)
 | .byt y => y.size <= sizeLine /\ k = ((y.size : Int) != 0)
 | .ref p => (∃ xs, SqL K H p xs /\ k = !xs.isEmpty) \/ (∃ xs, SqT K H p xs /\ k = !xs.isEmpty) \/ ∃ kvs, H p = some (.dK kvs) /\ k = !kvs.isEmpty
 | _ => False
theorem pW {κ : Type} {kvs : List (κ × V)} {vs : List (κ × Value)} (r : KV kvs vs) : (!vs.isEmpty) = !kvs.isEmpty := by
 cases r <;> rfl
theorem jP {xs : List V} {its : List Value} (r : Vals xs its) : (!its.toArray.isEmpty) = !xs.isEmpty := by
 cases r <;> simp
theorem iw : (sizeLine : Nat) < 2 ^ 63 := by rw [sizeLine_eq]; decide
theorem A5 : A3 X (fun x H Q => ∃ k, A4 X.K x H k /\ Q k H) := by
 intro pins s σ H x v Q I rx h
 obtain ⟨k, e, q⟩ := h
 have hl := iw
 have hs : sizeLine = 16777216 := sizeLine_eq
 cases x with
 | non =>
  cases rx
  have e' : k = false := e
  subst e'
  exact truthy_none ⟨H, I, q⟩
 | bl b =>
  cases rx
  have e' : k = b := e
  subst e'
  exact wpAny_truthy_bool ⟨H, I, q⟩
 | int i =>
  obtain ⟨t, rfl⟩ := rx
  have e' : k = (i != 0) := e
  subst e'
  exact PySem.P.truthy_int ⟨H, I, q⟩
 | str y =>
  obtain ⟨t, rfl⟩ := rx
  obtain ⟨hy, e'⟩ : y.length <= sizeLine /\ k = ((y.length : Int) != 0) := e
  subst e'
  exact PySem.P.truthy_str (by omega) ⟨H, I.tok _, q⟩
 | byt y =>
  obtain ⟨t, rfl⟩ := rx
  obtain ⟨hy, e'⟩ : y.size <= sizeLine /\ k = ((y.size : Int) != 0) := e
  subst e'
  exact PySem.W.truthy_bytes (by omega) ⟨H, I.tok _, q⟩
 | ref p =>
  cases rx
  have e' : (∃ xs, SqL X.K H p xs /\ k = !xs.isEmpty) \/ (∃ xs, SqT X.K H p xs /\ k = !xs.isEmpty) \/ ∃ kvs, H p = some (.dK kvs) /\ k = !kvs.isEmpty := e
  rcases e' with ⟨xs, hx, e'⟩ | ⟨xs, hx, e'⟩ | ⟨kvs, hx, e'⟩
  ·subst e'
   obtain ⟨its, r, pl, hz⟩ := I.list hx
   have hlen := r.length
   exact wpAny_truthy_list pl.isList (by simp only [Cs]; omega) ⟨H, I.tok _, by rw [jP r]; exact q⟩
  ·subst e'
   obtain ⟨its, r, pl, hz⟩ := I.tuple hx
   have hlen := r.length
   exact truthy_tuple pl (by simp only [Cs]; omega) ⟨H, I.tok _, by rw [jP r]; exact q⟩
  ·subst e'
   obtain ⟨hz, hS, vs, r, m⟩ : kvs.length <= sizeLine /\ (p == sysModules) = false /\ ∃ vs, KV kvs vs /\ s.heap.DictOf (aH X.prog X.w) p vs := I.hok p _ hx
   have hlen : kvs.length = vs.length := Paired.length r
   exact wpAny_truthy_dict hS m (by omega) ⟨H, I.tok _, by rw [pW r]; exact q⟩
 | _ => exact (show False from e).elim
theorem fg {x : V} {us : List Value} (r : Vals [x] us) : ∃ u, us = [u] /\ RelV x u := by
 cases r with
 | cons r1 r2 => cases r2; exact ⟨_, rfl, r1⟩
theorem ug {x y : V} {us : List Value} (r : Vals [x, y] us) : ∃ u w', us = [u, w'] /\ RelV x u /\ RelV y w' := by
 cases r with
 | cons r1 r2 =>
  cases r2 with
  | cons r3 r4 => cases r4; exact ⟨_, _, rfl, r1, r3⟩
theorem sd (hc : X.calm = true) : cH X (.builtin "min") (fun xs H Q => ∃ i j, xs = [.int i, .int j] /\ Q (.int (if j < i then j else i)) H) := by
 intro pins s σ H xs us Q I r h
 obtain ⟨i, j, rfl, q⟩ := h
 obtain ⟨u, w', rfl, ⟨t, rfl⟩, ⟨t', rfl⟩⟩ := ug r
 refine min_two_ints (I.ok.hd hc) fun h' tk k => ⟨_, H, I.kept k, ?_, q⟩
 by_cases hj : j < i
 ·rw [if_pos hj, if_pos hj]; exact ⟨_, rfl⟩
 ·rw [if_neg hj, if_neg hj]; exact ⟨_, rfl⟩
def zR (K : PySem.W.Frag) (x : V) (H : Hp) (n : Nat) : Prop :=
 match x with
 | .str y => y.length <= sizeLine /\ n = y.length
 | .byt y => y.size <= sizeLine /\ n = y.size
 | .ref p => (∃ xs, SqL K H p xs /\ n = xs.length) \/ ∃ xs, SqT K H p xs /\ n = xs.length
 | _ => False
theorem uh : cH X (.builtin "len") (fun xs H Q => ∃ x n, xs = [x] /\ zR X.K x H n /\ Q (.int n) H) := by
 intro pins s σ H xs us Q I r h
 obtain ⟨x, n, rfl, e, q⟩ := h
 obtain ⟨u, rfl, rx⟩ := fg r
 have hl := iw
 have hs : sizeLine = 16777216 := sizeLine_eq
 cases x with
 | str y =>
  obtain ⟨t, rfl⟩ := rx
  obtain ⟨hy, e'⟩ : y.length <= sizeLine /\ n = y.length := e
  subst e'
  exact len_str (by omega) ⟨.int _, H, I.tok _, ⟨_, rfl⟩, q⟩
 | byt y =>
  obtain ⟨t, rfl⟩ := rx
  obtain ⟨hy, e'⟩ : y.size <= sizeLine /\ n = y.size := e
  subst e'
  exact PySem.W.len_bytes (by omega) ⟨.int _, H, I.tok _, ⟨_, rfl⟩, q⟩
 | ref p =>
  cases rx
  have e' : (∃ xs, SqL X.K H p xs /\ n = xs.length) \/ ∃ xs, SqT X.K H p xs /\ n = xs.length := e
  rcases e' with ⟨xs, hx, e'⟩ | ⟨xs, hx, e'⟩
  ·subst e'
   obtain ⟨its, r', pl, hz⟩ := I.list hx
   have hlen := r'.length
   exact Calls.call_len_list pl.isList (by simp only [Cs]; omega) ⟨.int xs.length, H, I.tok _, ⟨_, by simp only [Cs]; rw [hlen]⟩, q⟩
  ·subst e'
   obtain ⟨its, r', pl, hz⟩ := I.tuple hx
   have hlen := r'.length
   exact len_tuple pl (by simp only [Cs]; omega) ⟨.int xs.length, H, I.tok _, ⟨_, by simp only [Cs]; rw [hlen]⟩, q⟩
 | _ => exact (show False from e).elim
end
structure ObjM (h : Heap) (x dx C : Addr) (mA : Str -> Option Value) : Prop where
 obj : h.get? x = some (PySem.W.instObj C dx)
 ns : h.Ns1 dx mA
 ne : dx ≠ x
theorem se {h : Heap} {dx : Addr} {mA : Str -> Option Value} (n : h.Ns1 dx mA) : ∃ od, h.get? dx = some od /\ ∀ name, PySem.W.lookIn name od = some (mA name) := by
 obtain ⟨o, es, ep, ho, hd, hk, _, hm⟩ := n
 refine ⟨o, ho, fun name => ?_⟩
 have e := hm name
 unfold nsFind findBy at e
 rw [<- Array.find?_toList] at e
 unfold PySem.W.lookIn
 rw [hd]
 dsimp only
 split
 ·rename_i y q
  rw [q] at e
  exact congrArg some e
 ·rename_i q
  rw [q] at e
  have a : es.toList.any (·.refKey) = false := by
   rw [List.any_eq_false]
   intro y hy
   obtain ⟨z, t, hkey⟩ := hk y (Array.mem_toList_iff.mp hy)
   simp [DictEntry.refKey, hkey]
  have a' : ¬ es.toList.any (·.refKey) = true := by rw [a]; exact Ct
  rw [if_neg a']
  exact congrArg some e
theorem ObjM.look {h : Heap} {x dx C : Addr} {mA : Str -> Option Value} (I : ObjM h x dx C mA) : ∃ od, PySem.W.InstAt h x (PySem.W.instObj C dx) C (some od) /\ ∀ name, PySem.W.lookIn name od = some (mA name) :=
 let ⟨od, ho, hl⟩ := se I.ns
 ⟨od, ⟨I.obj, rfl, rfl, ho⟩, hl⟩
section
variable {prog : Program} {w : World} {A : Around} {E : Value -> Shared -> Prop} {s : Shared} {K : PySem.W.Frag} {x dx C f : Addr} {mA : Str -> Option Value} {name : Str} {v : Value}
end
theorem RelO.some_of {v : V} {o : Option Value} (r : RelO (some v) o) : ∃ u, o = some u /\ RelV v u := by
 cases o with
 | none => exact (show False from r).elim
 | some u => exact ⟨u, rfl, r⟩
section
variable {P : Program} {w : World} {H H' : Hp} {h h' : Heap} {a C dx : Addr} {fs fs' : List (Str × V)}
theorem wq (hok : HOk P w H h) (e : H a = some (.ins C dx fs)) : ∃ mA, ObjM h a dx C mA /\ (∀ f, RelO (fs.lookup f) (mA f)) /\ PySem.Within mA (fs.map (·.1)) /\ fs.length <= 1000 /\ H dx = some (.own a) := by
 obtain ⟨d, z, ne, ob, mA, n, r, q⟩ := (show ObjOk P w H h a (.ins C dx fs) from hok a _ e)
 exact ⟨mA, ⟨ob, n, ne⟩, r, q, z, d⟩
end
structure Cls (K : PySem.W.Frag) (C : Addr) : Prop where
 pg : PySem.W.plainGet K C Str.empty = true
 hd : PySem.W.hasDictIn K C = true
 po : PySem.W.plainOver K C = true
 sa : PySem.W.findIn K (.ref C) "__setattr__" = some (some (.builtin "object.__setattr__"))
theorem Cls.get {K : PySem.W.Frag} {C : Addr} (c : Cls K C) (f : Str) : PySem.W.plainGet K C f = true := c.pg
section
variable {X : Cx} {pins : List (Addr × Obj)} {σ : St} {H : Hp} {s : Shared} {a C dx : Addr} {fs : List (Str × V)} {f : Str} {v : V} {A : Around} {E : Value -> Shared -> Prop}
end
def zS (X : Cx) (op : Operator) (rd : V -> V -> Hp -> VK -> Prop) : Prop :=
 ∀ (pins : List (Addr × Obj)) (s : Shared) (σ : St) (H : Hp) (x y : V) (u v : Value) (Q : VK), Inv X pins σ H s -> RelV x u -> RelV y v -> rd x y H Q -> wpAny (model X.prog X.w) X.A (inplaceOp op u v) (EP X pins σ Q) X.xe s
section
variable {X : Cx} {o e value : Expr} {f : Str} {pos pos' tpos : Pos} {ta tv : TE}
def A6 : V -> V -> Hp -> VK -> Prop := fun x y H Q => ∃ i j, x = .int i /\ y = .int j /\ Q (.int (i + j)) H
theorem yC : zS X .Add A6 := by
 rintro pins s σ H x y u v Q I rx ry ⟨i, j, rfl, rfl, q⟩
 obtain ⟨t, rfl⟩ := (show ∃ t, u = Value.int i t from rx)
 obtain ⟨t', rfl⟩ := (show ∃ t', v = Value.int j t' from ry)
 exact PyProof.Rows.iadd_int ⟨.int (i + j), H, I.tok _, ⟨_, rfl⟩, q⟩
end
section
variable {X : Cx} {pins : List (Addr × Obj)} {σ : St} {H : Hp} {s : Shared} {A : Around} {E : Value -> Shared -> Prop} {Q : Value -> Shared -> Prop} {c : Value} {b : Bool}
inductive TyOf (K : PySem.W.Frag) (H : Hp) : V -> Value -> Prop where
 | non : TyOf K H .non (.type "NoneType")
 | bl (x : Bool) : TyOf K H (.bl x) (.type "bool")
 | int (i : Int) : TyOf K H (.int i) (.type "int")
 | str (x : Str) : TyOf K H (.str x) (.type "str")
 | flt (x : UInt64) : TyOf K H (.flt x) (.type "float")
 | lst {a : Addr} {xs : List V} (e : H a = some (.lst xs)) : TyOf K H (.ref a) (.type "list")
 | frz {a : Addr} {o : Obj} {xs : List V} (e : H a = some (.frz o (.lst xs))) : TyOf K H (.ref a) (.type "list")
 | tup {a : Addr} {xs : List V} (e : H a = some (.tup xs)) : TyOf K H (.ref a) (.type "tuple")
 | dK {a : Addr} {kvs : List (bw × V)} (e : H a = some (.dK kvs)) : TyOf K H (.ref a) (.type "dict")
 | dT {a : Addr} {kvs : List (List bw × V)} (e : H a = some (.dT kvs)) : TyOf K H (.ref a) (.type "dict")
 | ins {a C dx : Addr} {fs : List (Str × V)} (e : H a = some (.ins C dx fs)) (cl : Cls K C) (ha : PySem.W.findIn K (.ref C) "__class__" = some (some (.builtin "object.__class__")))
  (hn : PySem.W.specialIn K (.builtin "object.__class__") "__get__" = some (some (.builtin "getset_descriptor.__get__"))) (htk : PySem.W.takesIn K (.builtin "object.__class__") = some true)
  (hm : PySem.W.mroIn K C (.type "object") = some true) : TyOf K H (.ref a) (.ref C)
theorem sg {x : V} {u t : Value} (I : Inv X pins σ H s) (rx : RelV x u) (ty : TyOf X.K H x t) (e : PySem.W.kitOne X.K t c = some b) (h : ∀ tk, Q (.bool b) { s with toks := tk }) :
  wpAny (model X.prog X.w) A (call (.builtin "isinstance") [u, c]) Q E s := by
 cases ty with
 | non => cases (show u = Value.none from rx); exact PySem.W.kia_one PySem.W.kitx_none I.kIn True.intro e (fun z => nomatch z) h
 | bl y => cases (show u = Value.bool y from rx); exact PySem.W.kia_one PySem.W.kitx_bool I.kIn True.intro e (fun z => nomatch z) h
 | int i => obtain ⟨t, q⟩ := (show ∃ t, u = Value.int i t from rx); cases q; exact PySem.W.kia_one PySem.W.kitx_int I.kIn True.intro e (fun z => nomatch z) h
 | str y => obtain ⟨t, q⟩ := (show ∃ t, u = Value.str y t from rx); cases q; exact PySem.W.kia_one PySem.W.kitx_str I.kIn True.intro e (fun z => nomatch z) h
 | flt y => obtain ⟨t, q⟩ := (show ∃ t, u = Value.float y t from rx); cases q; exact PySem.W.kia_one PySem.W.kitx_float I.kIn True.intro e (fun z => nomatch z) h
 | @lst a xs ea =>
  cases (show u = Value.ref a from rx)
  obtain ⟨_, _, n, _, h1⟩ := (show ObjOk X.prog X.w H s.heap a (.lst xs) from I.hok a _ ea)
  exact PySem.W.kia_one PySem.W.kitx_list I.kIn ⟨_, h1, rfl⟩ e (fun z => nomatch z) h
 | @frz a ob xs ea =>
  cases (show u = Value.ref a from rx)
  obtain ⟨_, _, _, n, _, h1⟩ := (show ObjOk X.prog X.w H s.heap a (.frz ob (.lst xs)) from I.hok a _ ea)
  exact PySem.W.kia_one PySem.W.kitx_list I.kIn ⟨_, h1, rfl⟩ e (fun z => nomatch z) h
 | @tup a xs ea =>
  cases (show u = Value.ref a from rx)
  obtain ⟨_, _, _, p⟩ := (show ObjOk X.prog X.w H s.heap a (.tup xs) from I.hok a _ ea)
  obtain ⟨o, h1, h2, _⟩ := p
  exact PySem.W.kia_one PySem.W.kitx_tuple I.kIn ⟨o, h1, h2⟩ e (fun z => nomatch z) h
 | @dK a kvs ea =>
  cases (show u = Value.ref a from rx)
  obtain ⟨_, _, vs, _, p⟩ := (show ObjOk X.prog X.w H s.heap a (.dK kvs) from I.hok a _ ea)
  obtain ⟨o, es, ep, h1, h2, _⟩ := p
  exact PySem.W.kia_one PySem.W.kitx_dict I.kIn ⟨o, h1, h2.1⟩ e (fun z => nomatch z) h
 | @dT a kvs ea =>
  cases (show u = Value.ref a from rx)
  obtain ⟨_, _, xs, _, o, es, ep, h1, h2, _⟩ := (show ObjOk X.prog X.w H s.heap a (.dT kvs) from I.hok a _ ea)
  exact PySem.W.kia_one PySem.W.kitx_dict I.kIn ⟨o, h1, h2.1⟩ e (fun z => nomatch z) h
 | @ins a C dx fs ea cl ha hn htk hm =>
  cases (show u = Value.ref a from rx)
  obtain ⟨mA, O, _⟩ := wq I.hok ea
  obtain ⟨od, J, _⟩ := O.look
  exact PySem.W.kia_one (PySem.W.kitx_own (cl.get _) cl.hd ha hn htk hm) I.kIn J e (fun z => nomatch z) h
end
structure Room (k : Nat) (A : Around) : Prop where
 hd : A.handled = none
 dp : A.depth + 3 * k + 5 < recursionLimit
 un : A.units + 16 * k + 200 < cLine
theorem Room.mono {j k : Nat} {A : Around} (r : Room k A) (h : j <= k) : Room j A := ⟨r.hd, En (Nat.add_le_add_right (Ey (Nat.mul_le_mul_left 3 h) _) 5) r.dp, En (Nat.add_le_add_right (Ey (Nat.mul_le_mul_left 16 h) _) 200) r.un⟩
theorem Room.deeper {k : Nat} {A : Around} (r : Room (k + 1) A) (env : Env) : Room k (A.deeper env) :=
 ⟨r.hd, by have := r.dp; show A.depth + 1 + 3 * k + 5 < _; omega, by have := r.un; show A.units + 3 + 16 * k + 200 < _; omega⟩
theorem Room.depth {k : Nat} {A : Around} (r : Room k A) : A.depth < recursionLimit := by have := r.dp; omega
theorem Room.units {k : Nat} {A : Around} (r : Room k A) : A.units + 64 < cLine := by have := r.un; omega
def A7 : TA := fun _ H Q => Q [] H
def zT (ta : TE) (tr : TA) : TA := fun σ H Q => ta σ H fun x H1 => tr σ H1 fun xs H2 => Q (x :: xs) H2
section
variable {X : Cx} {e : Expr} {es : List Expr} {te : TE} {t : TA} {pos : Pos}
theorem ae : PA X [] A7 := fun _ _ _ _ H Q I h => Calls.spliced_nil ⟨[], H, I, .nil, h⟩
theorem aa (ha : PE X e te) (hr : PA X es t) (hs : starEach (e :: es) X.env = (false, eval e X.env) :: starEach es X.env := by rfl) : PA X (e :: es) (zT te t) := by
 intro pos pins s σ H Q I h
 rw [hs]
 show wpAny _ _ (spliced ((false, eval e X.env) :: backTo pos (starEach es X.env))) _ _ s
 refine Calls.spliced_cons (bC (ha pins s σ H _ I h) fun u s1 hq__ => ?_)
 obtain ⟨x, H1, I1, r1, q1⟩ := hq__
 exact bC (hr pos pins s1 σ H1 _ I1 q1) fun us s2 ⟨xs, H2, I2, r2, q2⟩ => ⟨x :: xs, H2, I2, .cons r1 r2, q2⟩
def A8 (t : TA) : TE := fun σ H Q => t σ H fun xs H1 => xs.length <= sizeLine /\ ∀ p, H1 p = none -> Q (.ref p) (az H1 p (.tup xs))
def A9 (t : TA) : TE := fun σ H Q => t σ H fun xs H1 => xs.length <= sizeLine /\ ∀ p, H1 p = none -> Q (.ref p) (az H1 p (.lst xs))
theorem aE {x1} (h : PA X es t) : PE X (.Tuple es x1 pos) (A8 t) := by
 intro pins s σ H Q I hq
 refine wpAny_Tuple_spliced (bC (h pos pins s σ H _ I hq) fun us s1 ⟨xs, H1, I1, r, z, q⟩ => ⟨by rw [<- r.length]; exact z, ?_⟩)
 have hf : H1 s1.heap.objs.size = none := I1.hok.fresh (Cg _)
 refine ⟨.ref s1.heap.objs.size, az H1 s1.heap.objs.size (.tup xs), I1.laid (t' := s1.toks) (fun b u e => Heap.get?_push_of_some _ e) (Cg _) ?_, rfl, q _ hf⟩
 exact ⟨z, us, r, ⟨_, Heap.get?_push_size _ rfl, rfl, _, rfl⟩⟩
theorem aL (h : PA X es t) : PE X (.List es pos) (A9 t) := by
 intro pins s σ H Q I hq
 refine wpAny_List_spliced (bC (h pos pins s σ H _ I hq) fun us s1 ⟨xs, H1, I1, r, z, q⟩ => ⟨by rw [<- r.length]; exact z, ?_⟩)
 have hf : H1 s1.heap.objs.size = none := I1.hok.fresh (Cg _)
 refine ⟨.ref s1.heap.objs.size, az H1 s1.heap.objs.size (.lst xs), I1.laid (t' := s1.toks) (fun b u e => Heap.get?_push_of_some _ e) (Cg _) ?_, rfl, q _ hf⟩
 exact ⟨z, us, 0, r, Heap.get?_push_size _ rfl⟩
end
abbrev Sp := List V -> Hp -> VK -> XK -> Prop
abbrev t9 := List Env -> Hp -> Shared -> XK -> Value -> Shared -> Prop
structure Env0 (P : Program) (w : World) (K : PySem.W.Frag) (mg : Str -> Option Value) (base : Heap) (A : Around) (outer : List Env) (s : Shared) (H : Hp) : Prop where
 frames : A.frames = some outer
 mod : Mod K mg base
 bs : ∀ b o, base.get? b = some o -> s.heap.get? b = some o /\ H b = none
 bsz : base.objs.size <= s.heap.objs.size
 funs : s.heap.FunFrames base outer
 frf : ∀ b ∈ gj outer, H b = none
 hok : HOk P w H s.heap
 bare : AllBare s.gens
def CE (outer : List Env) (P : Program) (w : World) (H : Hp) (s : Shared) (Q : VK) (u : Value) (s' : Shared) : Prop :=
 ∃ v H', s'.os = s.os /\ AllBare s'.gens /\ Un (gj outer) [] H H' s.heap s'.heap /\ HOk P w H' s'.heap /\ RelV v u /\ Q v H'
def CR (CX : t9) (outer : List Env) (P : Program) (w : World) (H : Hp) (s : Shared) (Q : VK) (E : XK) (r : Result) (s' : Shared) : Prop :=
 match r with
 | .ok (.ret u) => CE outer P w H s Q u s'
 | .ok _ => False
 | .error e => CX outer H s E e s'
structure FnOk (P : Program) (w : World) (K : PySem.W.Frag) (mg : Str -> Option Value) (base : Heap) (CX : t9) (k : Nat) (f : Addr) (fd : FuncData) (ps : List Str) (sp : Sp) : Prop where
 len : ∀ vs H Q E, sp vs H Q E -> vs.length = ps.length
 run : ∀ (A : Around) (outer : List Env) (s : Shared) (H : Hp) (args : Args) (us : List Value) (vs : List V) (Q : VK) (E : XK), Room k A -> Env0 P w K mg base A outer s H -> BindsTo s fd args (ps.zip us) -> Vals vs us -> sp vs H Q E ->
  codeAny (model P w) A (.call (.ref f) args) (CR CX outer P w H s Q E) s
section
variable {X : Cx} {pins : List (Addr × Obj)} {σ : St} {H : Hp} {s s' : Shared}
theorem Inv.env0 (I : Inv X pins σ H s) : Env0 X.prog X.w X.K X.mg X.base X.A X.stack s H :=
 ⟨I.ok.frames, I.ok.mod, I.bs, CO I.ok.bsz I.sz, I.stack, I.stkFree, I.hok, I.bare⟩
theorem Inv.after {Q : VK} {u : Value} (I : Inv X pins σ H s) (h : CE X.stack X.prog X.w H s Q u s') : EP X pins σ Q u s' := by
 obtain ⟨v, H', os, bare, un, hok, r, q⟩ := h
 obtain ⟨hh, g, d, t, os'⟩ := s'
 obtain rfl : os' = s.os := os
 exact ⟨v, H', I.call (h' := hh) (g' := g) (d' := d) (t' := t) (ch := []) un hok bare (fun b z => absurd z (by simp)), r, q⟩
end
def xY (sp : Sp) (dvs : List V) (E : XK) (t : TA) : TE := fun σ H Q => t σ H fun vs H1 => sp (vs ++ dvs) H1 Q E
def Binds (K : PySem.W.Frag) (fd : FuncData) (ps : List Str) (ds : List Value) : Prop :=
 ∀ (s : Shared) (us : List Value), K.In s.heap -> (us ++ ds).length = ps.length -> BindsTo s fd ⟨us, []⟩ (ps.zip (us ++ ds))
theorem Binds.all {K : PySem.W.Frag} {fd : FuncData} {ps : List Str} (h : ∀ us : List Value, us.length = ps.length -> bindArgs fd ⟨us, []⟩ = pure (ps.zip us)) : Binds K fd ps [] := fun s us _ hl => by
 rw [Dv] at hl ⊢
 exact .of_eq (h us hl)
def pX (CX : t9) (X : Cx) (E : XK) : Prop := ∀ (pins : List (Addr × Obj)) (σ : St) (H : Hp) (s : Shared) (e : Value) (s' : Shared), Inv X pins σ H s -> CX X.stack H s E e s' -> X.xe e s'
section
variable {X : Cx} {CX : t9} {k : Nat} {f C : Addr} {fd : FuncData} {ps : List Str} {sp : Sp} {dvs : List V} {ds : List Value} {E : XK} {x m : Str} {p pos apos : Pos} {e o : Expr} {es : List Expr} {ta : TE} {t : TA}
theorem yD {pins : List (Addr × Obj)} {σ : St} {H : Hp} {s : Shared} {Q : VK} {us : List Value} {vs : List V} (F : FnOk X.prog X.w X.K X.mg X.base CX k f fd ps sp) (hr : Room k X.A) (hb : Binds X.K fd ps ds) (hd : Vals dvs ds) (hx : pX CX X E)
  (I : Inv X pins σ H s) (r : Vals vs us) (h : sp (vs ++ dvs) H Q E) : wpAny (model X.prog X.w) X.A (call (.ref f) us) (EP X pins σ Q) X.xe s := by
 have r2 : Vals (vs ++ dvs) (us ++ ds) := r.append hd
 have hl : (us ++ ds).length = ps.length := by rw [<- r2.length]; exact F.len _ _ _ _ h
 refine wpAny_call (codeAny_mono (F.run X.A X.stack s H ⟨us, []⟩ (us ++ ds) (vs ++ dvs) Q E hr I.env0 (hb s us I.kIn hl) r2 h) fun r s' hq => ?_)
 cases r with
 | error e => exact hx pins σ H s e s' I hq
 | ok fl =>
  cases fl with
  | ret u => exact I.after hq
  | next => exact False.elim hq
  | brk => exact False.elim hq
  | cont => exact False.elim hq
theorem wu (F : FnOk X.prog X.w X.K X.mg X.base CX k f fd ps sp) (hr : Room k X.A) (hg : Gl X x) (hm : X.mg x = some (.ref f)) (hk : PySem.W.keepIn X.K (.ref f) = true) (hb : Binds X.K fd ps ds) (hd : Vals dvs ds) (hx : pX CX X E)
  (ha : PA X (e :: es) t) (hdb : (x == ("__debug__" : Str)) = false := by decide) (he : starEach (e :: es) X.env = (false, eval e X.env) :: starEach es X.env := by rfl) (hpl : (backTo pos (starEach es X.env)).any (·.1) = false := by rfl) :
  PE X (.Call (.Name x p) (e :: es) [] pos) (xY sp dvs E t) := by
 intro pins s σ H Q I h
 refine wpAny_Call_Name_kw (wa I hg hm ?_ hdb)
 refine PySem.W.callWith_K (h₀ := X.base) I.ok.mod.kin hk (bC (ha pos pins s σ H _ I h) fun us s1 ⟨vs, H1, I1, r, q⟩ => ⟨I1.kIn, ?_⟩) he hpl
 exact yD F hr hb hd hx I1 r q
end
section
variable {X : Cx} {CX : t9} {k : Nat} {f C : Addr} {fd : FuncData} {ps ks : List Str} {sp : Sp} {E : XK} {x m : Str} {p pos apos kpos : Pos} {e o : Expr} {es : List Expr} {kws : List Keyword} {te ta : TE} {t tk : TA} {nm : Option Str}
variable {g : List Value -> List Value -> List Value} {gV : List V -> List V -> List V}
end
structure FnScope (N P : List Str) (sc : Scope) : Prop where
 kind : sc.kind = .function
 co : sc.isCoroutine = false
 gen : sc.isGenerator = false
 nd : N.Nodup
 pre : N.take P.length = P
 par : ∀ x ∈ P, sc.names.lookup x = some .local \/ sc.names.lookup x = some .cell
 nofree : ∀ y ∈ sc.names, y.2 ≠ .free
theorem lK {kindOf : Str -> Option NameKind} {x : Str} : ∀ {binds : List (Str × Value)} {m : Str -> Option Value}, (∀ v, (x, v) ∉ binds) -> bindL kindOf binds m x = m x
 | [], _, _ => rfl
 | (n, v) :: r, m, h => by
  unfold bindL
  rw [lK fun w hw => h w (Cz _ hw)]
  split
  ·have : x ≠ n := by rintro rfl; exact h v CM
   simp [this]
  ·rfl
theorem lL {kindOf : Str -> Option NameKind} {x : Str} : ∀ {binds : List (Str × Value)} {m : Str -> Option Value}, (∀ v, (x, v) ∉ binds) -> bindC kindOf binds m x = m x
 | [], _, _ => rfl
 | (n, v) :: r, m, h => by
  unfold bindC
  rw [lL fun w hw => h w (Cz _ hw)]
  split
  ·rfl
  ·have : x ≠ n := by rintro rfl; exact h v CM
   simp [this]
theorem si {kindOf : Str -> Option NameKind} {x : Str} {v : Value} : ∀ {P : List Str} {vs : List Value} {i : Nat} {m : Str -> Option Value}, P.Nodup -> P[i]? = some x -> vs[i]? = some v -> kindOf x = some .local ->
  bindL kindOf (P.zip vs) m x = some v := by
 intro P
 induction P with
 | nil => intro vs i m _ h; cases h
 | cons p P ih =>
  intro vs i m nd h1 h2 hk
  cases vs with
  | nil => cases h2
  | cons w vs =>
   show bindL kindOf ((p, w) :: P.zip vs) m x = _
   unfold bindL
   cases i with
   | zero =>
    cases h1; cases h2
    rw [lK fun v hv => (C5.mp nd).1 (Ex hv).1, if_pos hk]
    simp
   | succ i => exact ih (C5.mp nd).2 h1 h2 hk
theorem sj {kindOf : Str -> Option NameKind} {x : Str} {v : Value} : ∀ {P : List Str} {vs : List Value} {i : Nat} {m : Str -> Option Value}, P.Nodup -> P[i]? = some x -> vs[i]? = some v -> kindOf x ≠ some .local ->
  bindC kindOf (P.zip vs) m x = some v := by
 intro P
 induction P with
 | nil => intro vs i m _ h; cases h
 | cons p P ih =>
  intro vs i m nd h1 h2 hk
  cases vs with
  | nil => cases h2
  | cons w vs =>
   show bindC kindOf ((p, w) :: P.zip vs) m x = _
   unfold bindC
   cases i with
   | zero =>
    cases h1; cases h2
    rw [lL fun v hv => (C5.mp nd).1 (Ex hv).1, if_neg hk]
    simp
   | succ i => exact ih (C5.mp nd).2 h1 h2 hk
def iY (N : List Str) (vs : List V) : St := vs.map some ++ Cw (N.length - vs.length) none
def oA (CX : t9) (P : Program) (w : World) (K : PySem.W.Frag) (mg : Str -> Option Value) (base : Heap) (N : List Str) (qual : Str) (scope : Scope) (f : Addr) (cd : Value) (A : Around) (outer : List Env) (s : Shared) (H : Hp) (E : XK) : Cx where
 prog := P
 w := w
 K := K
 mg := mg
 base := base
 A := A.deeper (envOfC qual scope s.heap.objs.size f cd)
 N := N
 s₀ := s
 H₀ := H
 env := envOfC qual scope s.heap.objs.size f cd
 outer := outer
 stack := envOfC qual scope s.heap.objs.size f cd :: outer
 ex := []
 calm := true
 fn := fun _ => true
 pn := []
 xe := fun e s' => wpAny (model P w) (A.deeper (envOfC qual scope s.heap.objs.size f cd)) (leaving (envOfC qual scope s.heap.objs.size f cd) e) (fun _ s'' => CX outer H s E e s'') (fun e' s'' => CX outer H s E e' s'') s'
theorem oB {sc : Scope} {n : Nat} {x : Str} (h : sc.names.lookup x = some .cell) : ∃ c, (cellsFrom n sc.names []).lookup x = some c := by
 have q := PySem.W.cellsFrom_some sc.names n [] (.inl h)
 exact Dh.mp q
theorem so {CX : t9} {P : Program} {w : World} {K : PySem.W.Frag} {mg : Str -> Option Value} {base : Heap} {N ps : List Str} {qual : Str} {scope : Scope} {f : Addr} {cd : Value} {A : Around} {outer : List Env} {s s1 : Shared} {H : Hp} {E : XK} {us : List Value} {vs : List V}
  (S : FnScope N ps scope) (hd : A.handled = none) (e0 : Env0 P w K mg base A outer s H) (hl : vs.length = ps.length) (r : Vals vs us)
  (x : InCallC s s.heap.objs.size (bindL (envOfC qual scope s.heap.objs.size f cd).kindOf (ps.zip us) fun _ => none) (cellsFrom (s.heap.objs.size + 1) scope.names []) (bindC (envOfC qual scope s.heap.objs.size f cd).kindOf (ps.zip us) fun _ => none) s1) :
  Inv (oA CX P w K mg base N qual scope f cd A outer s H E) [] (iY N vs) H s1 := by
 have hpl : ps.length <= N.length := by have := congrArg List.length S.pre; rw [CW] at this; omega
 obtain ⟨h1, tk, rfl, hk⟩ := x.done
 have noA : ∀ b : Addr, b ∉ (oA CX P w K mg base N qual scope f cd A outer s H E).ex := fun b z => absurd (show b ∈ ([] : List Addr) from z) (by simp)
 refine ⟨⟨e0.mod, S.kind, rfl, rfl, Cg _, fun y z c h1 h2 => ?_, fun y hy => ?_, fun y c _ h => ?_, fun _ => hd, Around.frames_deeper e0.frames, .inr ⟨rfl, rfl⟩, fun b z => absurd z (noA b), e0.bs, e0.bsz, fun b _ _ => noA b, fun b z => absurd z (noA b), e0.funs, e0.frf⟩,
  rfl, e0.bare, Un.kept hk, ⟨_, x.toInCall.ns, fun i y v h1 h2 h3 => ?_⟩, fun y c h => ⟨_, x.cell y c h⟩, e0.hok.fresh (Cg _), fun y c h => ?_, fun p hp => absurd (show p ∈ ([] : List (Addr × Obj)) from hp) (by simp), e0.hok.kept hk, ?_⟩
 ·exact name_of_addr x.apart (PySem.mem_of_lookup h1) (PySem.mem_of_lookup h2)
 ·have hy : scope.names.lookup y = some .cell \/ scope.names.lookup y = some .free := hy
  rcases hy with hy | hy
  ·exact oB hy
  ·exact absurd rfl (S.nofree _ (PySem.mem_of_lookup hy))
 ·exact Da (x.above y c (PySem.mem_of_lookup h))
 ·have hi : i < vs.length := by
   unfold iY at h2
   by_cases hi : i < vs.length
   ·exact hi
   ·rw [CN (by simpa using hi)] at h2
    rw [List.getElem?_replicate] at h2
    split at h2 <;> cases h2
  have ha : vs[i]? = some v := by
   unfold iY at h2
   rw [CI (by simpa using hi), Cd] at h2
   cases e : vs[i]? with
   | none => rw [e] at h2; cases h2
   | some a => rw [e] at h2; cases h2; rfl
  obtain ⟨u, hu, rv⟩ := r.get ha
  have hp : ps[i]? = some y := by
   rw [<- S.pre, List.getElem?_take_of_lt (by omega)]; exact h1
  have ndP : ps.Nodup := by rw [<- S.pre]; exact S.nd.sublist (List.take_sublist _ _)
  refine ⟨u, rv, ?_⟩
  rcases S.par y (Ce hp) with k | k
  ·exact .inl ⟨k, si ndP hp hu k⟩
  ·obtain ⟨c, e⟩ := oB (n := s.heap.objs.size + 1) k
   refine .inr ⟨.inl k, c, e, ?_⟩
   have q := x.cell y c e
   rw [sj ndP hp hu (by show scope.names.lookup y ≠ _; rw [k]; decide)] at q
   exact q
 ·exact e0.hok.fresh (Da (x.above y c (PySem.mem_of_lookup h)))
 ·unfold iY
  show _ = N.length
  rw [Ck, B9, List.length_replicate]
  omega
theorem zU {CX : t9} {P : Program} {w : World} {K : PySem.W.Frag} {mg : Str -> Option Value} {base : Heap} {k : Nat} {f : Addr} {name qual : Str} {params : Arguments} {body : List Stmt} {scope : Scope} {dV kV doc pm cdv ct oc : Value} {an od : Option Addr}
  {osl : Array (Option Value)} {N ps : List Str} {sp : Sp} (lk : K.lookup f = some ⟨oc, od, .func (PySem.W.fnOf name qual params body scope dV kV doc pm an cdv ct), osl⟩) (hcd : PySem.W.codeIn K cdv qual = true) (S : FnScope N ps scope)
  (len : ∀ vs H Q E, sp vs H Q E -> vs.length = ps.length)
  (hbody : ∀ (A : Around) (outer : List Env) (s : Shared) (H : Hp) (vs : List V) (Q : VK) (E : XK), Room k (A.deeper (envOfC qual scope s.heap.objs.size f cdv)) -> sp vs H Q E ->
   ∃ t, PSs (oA CX P w K mg base N qual scope f cdv A outer s H E) body t /\ t { nx := fun _ H' => Q .non H', rt := Q } (iY N vs) H) :
  FnOk P w K mg base CX (k + 1) f (PySem.W.fnOf name qual params body scope dV kV doc pm an cdv ct) ps sp := by
 refine ⟨len, fun A outer s H args us vs Q E hr e0 hb r hsp => ?_⟩
 have hl := len _ _ _ _ hsp
 have KX : K.In s.heap := e0.mod.kin.keeps fun b o e => (e0.bs b o e).1
 have lim : s.heap.NoLimit := e0.mod.nolimit.keeps fun b o e => (e0.bs b o e).1
 have hkind : ∀ y ∈ ps.zip us, scope.names.lookup y.1 = some .local \/ (scope.names.lookup y.1 = some .cell /\ ((cellsFrom (s.heap.objs.size + 1) scope.names []).lookup y.1).isSome = true) := fun ⟨n, v⟩ hy => by
  rcases S.par n (Ex hy).1 with q | q
  ·exact .inl q
  ·exact .inr ⟨q, PySem.W.cellsFrom_some _ _ _ (.inl q)⟩
 refine codeAny_call_function hr.depth (KX _ _ lk) rfl S.co S.gen rfl (PySem.W.codeRec_of KX hcd) (hb _ _ _ _ ?_)
 refine wpAny_newFunctionEnv_cells S.kind hkind fun env he s1 x => ?_
 subst he
 refine ⟨lim.keeps x.toInCall.keep, codeAny_func ?_⟩
 obtain ⟨t, ht, hq⟩ := hbody A outer s H vs Q E (hr.deeper _) hsp
 have I : Inv (oA CX P w K mg base N qual scope f cdv A outer s H E) [] (iY N vs) H s1 := so S hr.hd e0 hl r x
 refine wpAny_mono (ht [] s1 (iY N vs) H _ I hq) (fun fl s' hs => ?_) fun e s' hs => hs
 have fin : ∀ {σ' : St} {H' : Hp} {v : V} {u : Value}, Inv (oA CX P w K mg base N qual scope f cdv A outer s H E) [] σ' H' s' -> RelV v u -> Q v H' -> CE outer P w H s Q u s' :=
  fun {σ' H' v u} J rv q => ⟨v, H', J.os, J.bare, J.base, J.hok, rv, q⟩
 cases fl with
 | ret u =>
  obtain ⟨v, σ', H', J, rv, q⟩ := hs
  exact fin J rv q
 | next =>
  obtain ⟨σ', H', J, q⟩ := hs
  exact fin (v := V.non) (u := Value.none) J rfl q
 | brk =>
  obtain ⟨_, _, _, q⟩ := hs
  exact False.elim q
 | cont =>
  obtain ⟨_, _, _, q⟩ := hs
  exact False.elim q
section
variable {X : Cx} {x : Str} {p pos : Pos} {e : Expr} {es : List Expr} {t : TA} {id T : String} {r : List V -> Hp -> VK -> Prop}
def BF (r : List V -> Hp -> VK -> Prop) (t : TA) : TE := fun σ H Q => t σ H fun vs H1 => r vs H1 Q
theorem av (hc : cH X (.builtin id) r) (hg : Gl X x) (hm : X.mg x = none) (hv : bootBuiltins x = some (.builtin id)) (ha : PA X (e :: es) t) (hn : x ≠ "__name__" := by decide) (hdb : (x == ("__debug__" : Str)) = false := by decide)
  (he : starEach (e :: es) X.env = (false, eval e X.env) :: starEach es X.env := by rfl) (hpl : (backTo pos (starEach es X.env)).any (·.1) = false := by rfl) : PE X (.Call (.Name x p) (e :: es) [] pos) (BF r t) := by
 intro pins s σ H Q I h
 refine wpAny_Call_Name_kw (e8 I hg hm hv ?_ hn hdb)
 exact PyProof.Rows.callWith_builtin1 (bC (ha pos pins s σ H _ I h) fun us s1 ⟨vs, H1, I1, r1, q1⟩ => hc pins s1 σ H1 vs us Q I1 r1 q1) he hpl
theorem bq (hc : cH X (.type T) r) (hg : Gl X x) (hm : X.mg x = none) (hv : bootBuiltins x = some (.type T)) (ha : PA X (e :: es) t) (hn : x ≠ "__name__" := by decide) (hdb : (x == ("__debug__" : Str)) = false := by decide)
  (he : starEach (e :: es) X.env = (false, eval e X.env) :: starEach es X.env := by rfl) (hpl : (backTo pos (starEach es X.env)).any (·.1) = false := by rfl) : PE X (.Call (.Name x p) (e :: es) [] pos) (BF r t) := by
 intro pins s σ H Q I h
 refine wpAny_Call_Name_kw (e8 I hg hm hv ?_ hn hdb)
 exact PyProof.Rows.callWith_type1 (bC (ha pos pins s σ H _ I h) fun us s1 ⟨vs, H1, I1, r1, q1⟩ => hc pins s1 σ H1 vs us Q I1 r1 q1) he hpl
end
end L2
namespace HT
open PySem PyProof.Rows
def xZ : List Int -> List Int -> Bool
 | [], [] => false
 | [], _ :: _ => true
 | _ :: _, [] => false
 | x :: xs, y :: ys => if x = y then xZ xs ys else decide (x < y)
section
open PySem.SeqAt
open PySem.AutoSeq1 (wpAny_loadPart')
open PySem.MeetsSeq PySem.MeetsSeq2 PySem.MeetsSeq3
end
section
variable {prog : Program} {w : World} {A : Around} {E : Value -> Shared -> Prop} {s : Shared}
def pY (n d : Nat) : Option Int -> Nat
 | none => d
 | some v => if v < 0 then (v + (n : Int)).toNat else min v.toNat n
theorem oC (n d : Nat) : pY n d none = d := rfl
theorem jz (n d k : Nat) : pY n d (some (k : Int)) = min k n := by
 show (if (k : Int) < 0 then ((k : Int) + (n : Int)).toNat else min (k : Int).toNat n) = min k n
 rw [if_neg (by omega), CV]
theorem wx (v : Int) (n d : Nat) : (if v < 0 then max (v + (n : Int)) 0 else min v (n : Int)) = ((pY n d (some v) : Nat) : Int) := by
 show _ = (((if v < 0 then (v + (n : Int)).toNat else min v.toNat n) : Nat) : Int)
 by_cases hv : v < 0
 ·rw [if_pos hv, if_pos hv, Int.ofNat_toNat]
 ·rw [if_neg hv, if_neg hv]
  obtain ⟨k, rfl⟩ := Int.eq_ofNat_of_zero_le (Int.not_lt.mp hv)
  show min (k : Int) (n : Int) = ((min k n : Nat) : Int)
  rcases Nat.le_total k n with h | h
  ·rw [DF h, Int.min_eq_left (Int.ofNat_le.mpr h)]
  ·rw [Ef h, Int.min_eq_right (Int.ofNat_le.mpr h)]
end
end HT
namespace L2
open PySem PySem.Spec PyProof.Rows
abbrev TO := St -> Hp -> (Option Int -> Hp -> Prop) -> Prop
def PO (X : Cx) (e : Option Expr) (t : TO) : Prop :=
 ∀ (pins : List (Addr × Obj)) (s : Shared) (σ : St) (H : Hp) (Q : Option Int -> Hp -> Prop), Inv X pins σ H s -> t σ H Q ->
  wpAny (model X.prog X.w) X.A (evalPart e X.env) (fun u s' => ∃ o H', Inv X pins σ H' s' /\ IsPart u o /\ Q o H') X.xe s
def wy : TO := fun _ H Q => Q none H
def zV (t : TE) : TO := fun σ H Q => t σ H fun x H1 => ∃ i, x = .int i /\ Q (some i) H1
theorem jQ {ns : List Int} : ∀ {us : List Value}, Vals (ns.map V.int) us -> IntsAre us ns := by
 induction ns with
 | nil => intro us r; rw [Ed] at r; cases r; exact .nil
 | cons n ns ih =>
  intro us r
  rw [Co] at r
  cases r with
  | cons r1 r2 =>
   obtain ⟨t, e⟩ := r1
   subst e
   exact .cons n t (ih r2)
section
variable {X : Cx} {e : Expr} {te : TE} {lo hi : Option Expr} {tl th : TO} {pos p2 : Pos}
theorem gJ : PO X none wy := by
 intro pins s σ H Q I h
 rw [evalPart_none]
 exact wpAny_pure ⟨none, H, I, .none, h⟩
theorem eE (h : PE X e te) : PO X (some e) (zV te) := by
 intro pins s σ H Q I hw
 rw [evalPart_some]
 refine bC (h pins s σ H _ I hw) fun u s1 hq__ => ?_
 obtain ⟨x, H1, I1, r1, q1⟩ := hq__
 obtain ⟨i, rfl, q⟩ := q1
 obtain ⟨t, rfl⟩ := r1
 exact ⟨some i, H1, I1, .int i t, q⟩
def AK (X : Cx) (r : V -> Option Int -> Option Int -> Hp -> VK -> Prop) : Prop :=
 ∀ (pins : List (Addr × Obj)) (s : Shared) (σ : St) (H : Hp) (x : V) (v vl vu : Value) (lo hi : Option Int) (sl : Addr) (Q : VK), Inv X pins σ H s -> RelV x v -> s.heap.IsSliceOf sl vl vu .none -> IsPart vl lo -> IsPart vu hi -> r x lo hi H Q ->
  ∃ T id, typeLookup (.type T) "__getitem__" = pure (some (.builtin id)) /\ s.TypeIs v T /\ wpAny (model X.prog X.w) X.A (getItem v (.ref sl)) (EP X pins σ Q) X.xe s
def BU (r : V -> Option Int -> Option Int -> Hp -> VK -> Prop) (te : TE) (tl th : TO) : TE := fun σ H Q => te σ H fun x H1 => tl σ H1 fun l H2 => th σ H2 fun u H3 => r x l u H3 Q
theorem dR {r : V -> Option Int -> Option Int -> Hp -> VK -> Prop} (hr : AK X r) (he : PE X e te) (hl : PO X lo tl) (hu : PO X hi th) : PE X (.Subscript e (.Slice lo hi none p2) pos) (BU r te tl th) := by
 intro pins s σ H Q I h
 refine Subscript_ (bC (he pins s σ H _ I h) fun v s1 h1 => ?_)
 obtain ⟨x, H1, I1, r1, q1⟩ := h1
 refine wpAny_Slice (bC (hl pins s1 σ H1 _ I1 q1) fun vl s2 h2 => ?_)
 obtain ⟨l, H2, I2, pl, q2⟩ := h2
 refine bC (hu pins s2 σ H2 _ I2 q2) fun vu s3 h3 => ?_
 obtain ⟨u, H3, I3, pu, q3⟩ := h3
 rw [evalPart_none]
 refine wpAny_pure ?_
 have I4 : Inv X pins σ H3 { s3 with heap := s3.heap.push { cls := .type "slice", data := .fields #[vl, vu, .none] } } := I3.kept (t' := s3.toks) fun b ob q => Heap.get?_push_of_some _ q
 obtain ⟨T, id, hT, ht, hg⟩ := hr pins { s3 with heap := s3.heap.push { cls := .type "slice", data := .fields #[vl, vu, .none] } } σ H3 x v vl vu l u s3.heap.objs.size Q I4 r1 (Heap.IsSliceOf.new ..) pl pu q3
 show wpAny (model X.prog X.w) X.A (subscriptTail e (.Slice lo hi none p2) v (.ref s3.heap.objs.size)) (EP X pins σ Q) X.xe { s3 with heap := s3.heap.push { cls := .type "slice", data := .fields #[vl, vu, .none] } }
 exact tail_any (ops := [.ref s3.heap.objs.size, v]) ht hT hg (by with_unfolding_all rfl)
def fV (xs : List V) (lo hi : Option Int) : List V := (xs.drop (HT.pY xs.length 0 lo)).take (HT.pY xs.length xs.length hi - HT.pY xs.length 0 lo)
theorem oD (xs : List V) (lo hi : Option Int) : (fV xs lo hi).length <= xs.length := by
 unfold fV
 rw [CW, Dy]
 exact CO (Nat.min_le_right _ _) (Nat.sub_le _ _)
end
def v7 (n : Nat) (i : Int) : Option Nat := if 0 <= i then (if i < n then some i.toNat else none) else if -(n : Int) <= i then some (i + n).toNat else none
def lM {α : Type} (xs : List α) (i : Int) : Option α := (v7 xs.length i).bind fun j => xs[j]?
theorem qZ {n : Nat} {i : Int} {j : Nat} (h : v7 n i = some j) : seqIndex? i n = some j /\ j < n /\ -(n : Int) <= i /\ i < n := by
 unfold v7 at h
 by_cases h0 : 0 <= i
 ·rw [if_pos h0] at h
  by_cases h1 : i < n
  ·rw [if_pos h1] at h
   have e : i.toNat = j := Option.some.inj h
   exact ⟨by rw [seqIndex_of h0 h1, e], by omega, by omega, h1⟩
  ·rw [if_neg h1] at h; cases h
 ·rw [if_neg h0] at h
  by_cases h1 : -(n : Int) <= i
  ·rw [if_pos h1] at h
   have e : (i + n).toNat = j := Option.some.inj h
   exact ⟨by rw [seqIndex_neg (by omega) h1, e], by omega, h1, by omega⟩
  ·rw [if_neg h1] at h; cases h
theorem mO {α : Type} {xs : List α} {i : Int} {v : α} (h : lM xs i = some v) : ∃ j, seqIndex? i xs.length = some j /\ xs[j]? = some v /\ j < xs.length /\ -(xs.length : Int) <= i /\ i < xs.length := by
 unfold lM at h
 cases e : v7 xs.length i with
 | none => rw [e] at h; cases h
 | some j =>
  rw [e] at h
  obtain ⟨h1, h2, h3, h4⟩ := qZ e
  exact ⟨j, h1, h, h2, h3, h4⟩
theorem aX {α : Type} {xs : List α} {j : Nat} {v : α} (h : xs[j]? = some v) : lM xs (j : Int) = some v := by
 have hj : j < xs.length := (Cc.mp h).1
 have e : v7 xs.length (j : Int) = some j := by
  unfold v7
  rw [if_pos (by omega), if_pos (by omega)]; simp
 unfold lM; rw [e]; exact h
def wz (b : Expr) : Prop := ∀ o i, subscripted b false o i = operate [o, i] (getItem o i)
def zt (X : Cx) (r : R2) : Prop :=
 ∀ (value slice : Expr) (pins : List (Addr × Obj)) (s : Shared) (σ : St) (H : Hp) (x y : V) (v u : Value) (Q : VK), Inv X pins σ H s -> RelV x v -> RelV y u -> r x y H Q ->
  subscripted slice false v u = operate [v, u] (getItem v u) -> wpAny (model X.prog X.w) X.A (subscriptTail value slice v u) (EP X pins σ Q) X.xe s
def AL (X : Cx) (id : String) (r : V -> List V -> Hp -> VK -> Prop) : Prop :=
 ∀ (pins : List (Addr × Obj)) (s : Shared) (σ : St) (H : Hp) (x : V) (xs : List V) (v : Value) (us : List Value) (Q : VK), Inv X pins σ H s -> RelV x v -> Vals xs us -> r x xs H Q ->
  wpAny (model X.prog X.w) X.A (call (.builtin id) (v :: us)) (EP X pins σ Q) X.xe s
section
variable {X : Cx} {a b : Expr} {ta tb : TE} {pos : Pos}
theorem ax {r : R2} (hr : zt X r) (ha : PE X a ta) (hb : PE X b tb) (hs : wz b) : PE X (.Subscript a b pos) (AJ r ta tb) := by
 intro pins s σ H Q I h
 exact Subscript_ (yA ha hb I h fun v u s2 x y H2 I2 rx ry q => hr a b pins s2 σ H2 x y v u Q I2 rx ry q (hs _ _))
def zW (K : PySem.W.Frag) : R2 := fun x y H Q => ∃ p xs i v, x = .ref p /\ y = .int i /\ SqL K H p xs /\ lM xs i = some v /\ Q v H
def zX (K : PySem.W.Frag) : R2 := fun x y H Q => ∃ p xs i v, x = .ref p /\ y = .int i /\ SqT K H p xs /\ lM xs i = some v /\ Q v H
theorem wA : zt X (zW X.K) := by
 intro value slice pins s σ H x y v u Q I rx ry h hs
 obtain ⟨p, xs, i, z, rfl, rfl, hq, he, q⟩ := h
 cases rx
 obtain ⟨t, rfl⟩ := ry
 obtain ⟨its, r, pl, hz⟩ := I.list hq
 obtain ⟨j, h1, h2, h3, h4, h5⟩ := mO he
 obtain ⟨w, ew, rw'⟩ := r.get h2
 have hl := r.length
 have hn := iw
 have fin : EP X pins σ Q w s := ⟨z, H, I, rw', q⟩
 by_cases h0 : 0 <= i
 ·have hj : i.toNat = j := by
   rw [seqIndex_of h0 h5] at h1
   exact Option.some.inj h1
  exact item_listR pl.isList h0 (by omega) (by rw [hj]; simpa using ew) fin hs
 ·have hj : (i + (its.toArray.size : Int)).toNat = j := by
   rw [seqIndex_neg (by omega) h4] at h1
   rw [Cs, <- hl]
   exact Option.some.inj h1
  exact subscriptTail_builtinR (x := w) pl.isList.typeIs slot_list_getitem.lookup
   (wpAny_getItem_list_neg (Q := fun r s' => r = w /\ EP X pins σ Q r s') pl.isList (by omega) (by rw [Cs] <;> omega) (by omega) (by rw [hj]; simpa using ew) ⟨rfl, fin⟩) hs
theorem yE : zt X (zX X.K) := by
 intro value slice pins s σ H x y v u Q I rx ry h hs
 obtain ⟨p, xs, i, z, rfl, rfl, hq, he, q⟩ := h
 cases rx
 obtain ⟨t, rfl⟩ := ry
 obtain ⟨its, r, pl, hz⟩ := I.tuple hq
 obtain ⟨j, h1, h2, h3, h4, h5⟩ := mO he
 obtain ⟨w, ew, rw'⟩ := r.get h2
 have hl := r.length
 have hn := iw
 have fin : EP X pins σ Q w s := ⟨z, H, I, rw', q⟩
 exact subscriptTail_builtinR (x := w) pl.typeIs slot_tuple_getitem.lookup
  (getItem_tuple (j := j) (Q := fun r s' => r = w /\ EP X pins σ Q r s') pl (by omega) (by omega) (by rw [Cs, <- hl]; exact h1) (by simpa using ew) ⟨rfl, fin⟩) hs
theorem pZ (its : List Value) (n j : Nat) (u : Value) : Obj.mapSeq (·.setIfInBounds j u) { cls := .type "list", data := .seq its.toArray n } = { cls := .type "list", data := .seq (its.set j u).toArray n } := by
 simp [Obj.mapSeq]
theorem Inv.lst {pins : List (Addr × Obj)} {σ : St} {H : Hp} {s : Shared} {p : Addr} {xs : List V} (I : Inv X pins σ H s) (h : H p = some (.lst xs)) :
  ∃ (its : List Value) (n : Nat), Vals xs its /\ s.heap.get? p = some { cls := .type "list", data := .seq its.toArray n } /\ xs.length <= sizeLine := by
 obtain ⟨z, its, n, r, e⟩ := I.hok p _ h
 exact ⟨its, n, r, e, z⟩
theorem Inv.lstUpd {pins : List (Addr × Obj)} {σ : St} {H : Hp} {s : Shared} {p : Addr} {xs ys : List V} {its its' : List Value} {n n' : Nat} {f : Obj -> Obj} (I : Inv X pins σ H s) (h : H p = some (.lst xs))
  (ho : s.heap.get? p = some { cls := .type "list", data := .seq its.toArray n }) (hf : f { cls := .type "list", data := .seq its.toArray n } = { cls := .type "list", data := .seq its'.toArray n' }) (r : Vals ys its') (hz : ys.length <= sizeLine) (t : Nat) :
  Inv X pins σ (az H p (.lst ys)) { s with heap := s.heap.update p f, toks := t } := by
 have e : (s.heap.update p f).get? p = some { cls := .type "list", data := .seq its'.toArray n' } := by
  rw [Heap.get?_update_self f ho (by rw [hf] <;> rfl), hf]
 refine I.write (x := p) (e := p) (by rw [h]; trivial) (.inl rfl) (fun b u hb q => (Heap.get?_update_other _ _ (Ne.symm hb)).trans q) ⟨_, e⟩ ?_
 exact ⟨hz, its', n', r, e⟩
def zY : V -> V -> V -> Hp -> (Hp -> Prop) -> Prop := fun o i v H Q => ∃ p xs k j, o = .ref p /\ i = .int k /\ H p = some (.lst xs) /\ v7 xs.length k = some j /\ Q (az H p (.lst (xs.set j v)))
theorem fh : yr X zY := by
 intro pins s σ H o i v ov iv u Q I ro ri rv h
 obtain ⟨p, xs, k, j, rfl, rfl, hp, hj, q⟩ := h
 cases ro
 obtain ⟨t, rfl⟩ := ri
 obtain ⟨its, n, r, ho, hz⟩ := I.lst hp
 obtain ⟨h1, h2, h3, h4⟩ := qZ hj
 have hl := r.length
 have hn := iw
 have I' : Inv X pins σ (az H p (.lst (xs.set j v))) { s with heap := s.heap.update p (Obj.mapSeq (·.setIfInBounds j u)) } :=
  I.lstUpd hp ho (pZ its n j u) (r.set rv j) (by rw [Dw]; exact hz) s.toks
 by_cases h0 : 0 <= k
 ·have hk : k.toNat = j := by
   rw [seqIndex_of h0 h4] at h1
   exact Option.some.inj h1
  exact PySem.W.ki_setAt ho h0 (by omega) (by rw [Cs, <- hl]; exact h4) (by rw [hk]; exact ⟨_, I', q⟩)
 ·have hk : (k + (its.toArray.size : Int)).toNat = j := by
   rw [seqIndex_neg (by omega) h3] at h1
   rw [Cs, <- hl]
   exact Option.some.inj h1
  exact PySem.W.ki_setBack ho (by omega) (by rw [Cs, <- hl]; exact h3) (by omega) (by rw [hk]; exact ⟨_, I', q⟩)
theorem mP (lo hi : Option Int) (n : Nat) : (sliceBounds lo hi none n).1 = ((HT.pY n 0 lo : Nat) : Int) /\ (sliceBounds lo hi none n).2.1 = ((HT.pY n n hi : Nat) : Int) /\ (sliceBounds lo hi none n).2.2 = 1 := by
 have one : ∀ (i : Int) (d : Nat), max 0 (min (if i < 0 then i + (n : Int) else i) (n : Int)) = ((HT.pY n d (some i) : Nat) : Int) := fun i d => by
  rw [<- HT.wx]
  by_cases h : i < 0
  ·rw [if_pos h, if_pos h, Int.min_eq_left (by omega), Int.max_comm]
  ·rw [if_neg h, if_neg h, Int.max_eq_right (Int.le_min.mpr ⟨Int.not_lt.mp h, Int.natCast_nonneg n⟩)]
 refine ⟨?_, ?_, rfl⟩
 ·cases lo with
  | none => rfl
  | some i => exact one i 0
 ·cases hi with
  | none => rfl
  | some i => exact one i n
theorem k5 (its : List Value) (lo hi : Option Int) : slicePick its.toArray lo hi none = ((its.drop (HT.pY its.length 0 lo)).take (HT.pY its.length its.length hi - HT.pY its.length 0 lo)).toArray := by
 obtain ⟨h1, h2, h3⟩ := mP lo hi its.toArray.size
 unfold slicePick
 rw [h1, h2, h3]
 simp only [sliceRange_one, pick_run, Cs] <;> rfl
def zZ (K : PySem.W.Frag) : V -> Option Int -> Option Int -> Hp -> VK -> Prop := fun x lo hi H Q => ∃ a xs, x = .ref a /\ SqL K H a xs /\ ∀ p, H p = none -> Q (.ref p) (az H p (.lst (fV xs lo hi)))
theorem wB : AK X (zZ X.K) := by
 intro pins s σ H x v vl vu lo hi sl Q I rx hs pl pu h
 obtain ⟨a, xs, rfl, hx, q⟩ := h
 cases rx
 obtain ⟨its, r, ht, hz⟩ := I.list hx
 have hlen := r.length
 refine ⟨"list", _, slot_list_getitem.lookup, ht.isList.typeIs, ?_⟩
 refine wpAny_getItem_list_slice ht.isList hs pl pu .none (by simp) ?_ (by rw [Cs] <;> omega)
 rw [k5, <- hlen]
 refine ⟨.ref s.heap.objs.size, _, I.laid (t' := s.toks) (o := .lst (fV xs lo hi)) (fun b ob q => Heap.get?_push_of_some _ q) (Cg _) ?_, rfl, q _ (I.hok.fresh (Cg _))⟩
 exact ⟨CO (oD xs lo hi) hz, _, 0, (r.drop (HT.pY xs.length 0 lo)).take (HT.pY xs.length xs.length hi - HT.pY xs.length 0 lo), Heap.get?_push_size _ rfl⟩
def cK : V -> Bool
 | .non => true
 | .bl _ => true
 | .int _ => true
 | .str _ => true
 | _ => false
def mQ : V -> V -> Bool
 | .non, .non => true
 | .bl a, .bl b => a == b
 | .bl a, .int b => (if a then 1 else 0) == b
 | .int a, .bl b => a == (if b then 1 else 0)
 | .int a, .int b => a == b
 | .str a, .str b => a == b
 | _, _ => false
theorem ui {A : Around} {s : Shared} {y x : V} {u v : Value} (ry : RelV y u) (rx : RelV x v) (fy : cK y = true) (fx : cK x = true) : SeqAt.EqAt A s u v (mQ y x) := by
 cases y with
 | non =>
  cases ry
  cases x with
  | non => cases rx; exact SeqAt.EqAt.same _
  | bl b => cases rx; exact SeqAt.EqAt.none_bool b
  | int b => obtain ⟨t, rfl⟩ := rx; exact SeqAt.EqAt.none_int b t
  | str b => obtain ⟨t, rfl⟩ := rx; exact SeqAt.EqAt.none_str b t
  | _ => exact absurd (show false = true from fx) Ct
 | bl a =>
  cases ry
  cases x with
  | non => cases rx; exact SeqAt.EqAt.bool_none a
  | bl b => cases rx; exact SeqAt.EqAt.bool_bool a b
  | int b => obtain ⟨t, rfl⟩ := rx; exact SeqAt.EqAt.bool_int a b t
  | str b => obtain ⟨t, rfl⟩ := rx; exact SeqAt.EqAt.bool_str a b t
  | _ => exact absurd (show false = true from fx) Ct
 | int a =>
  obtain ⟨t', rfl⟩ := ry
  cases x with
  | non => cases rx; exact SeqAt.EqAt.int_none a t'
  | bl b => cases rx; exact SeqAt.EqAt.int_bool a t' b
  | int b => obtain ⟨t, rfl⟩ := rx; exact SeqAt.EqAt.int_int a t' b t
  | str b => obtain ⟨t, rfl⟩ := rx; exact SeqAt.EqAt.int_str a t' b t
  | _ => exact absurd (show false = true from fx) Ct
 | str a =>
  obtain ⟨t', rfl⟩ := ry
  cases x with
  | non => cases rx; exact SeqAt.EqAt.str_none a t'
  | bl b => cases rx; exact SeqAt.EqAt.str_bool a t' b
  | int b => obtain ⟨t, rfl⟩ := rx; exact SeqAt.EqAt.str_int a t' b t
  | str b => obtain ⟨t, rfl⟩ := rx; exact SeqAt.EqAt.str_str a t' b t
  | _ => exact absurd (show false = true from fx) Ct
 | _ => exact absurd (show false = true from fy) Ct
def uj (x : V) (u : Value) : Bool := match u with
 | .none => mQ .non x
 | .bool b => mQ (.bl b) x
 | .int i _ => mQ (.int i) x
 | .str z _ => mQ (.str z) x
 | _ => false
theorem qc {x y : V} {u : Value} (r : RelV y u) (f : cK y = true) : uj x u = mQ y x := by
 cases y with
 | non => cases r; rfl
 | bl b => cases r; rfl
 | int i => obtain ⟨t, rfl⟩ := r; rfl
 | str z => obtain ⟨t, rfl⟩ := r; rfl
 | _ => exact absurd (show false = true from f) Ct
theorem rb {x : V} : ∀ {xs : List V} {us : List Value}, Vals xs us -> xs.all cK = true -> us.any (uj x) = xs.any fun y => mQ y x := by
 intro xs us h
 induction h with
 | nil => intro _; rfl
 | cons r t ih =>
  intro f
  rw [List.all_cons, C6] at f
  rw [Ei, Ei, qc r f.1, ih f.2]
theorem jR {A : Around} {s : Shared} {x : V} {v : Value} (rx : RelV x v) (fx : cK x = true) : ∀ {xs : List V} {us : List Value}, Vals xs us -> xs.all cK = true -> ∀ u ∈ us, SeqAt.EqAt A s u v (uj x u) := by
 intro xs us h
 induction h with
 | nil => intro _ u hu; cases hu
 | cons r t ih =>
  intro f u' hu
  rw [List.all_cons, C6] at f
  rcases Cr.mp hu with rfl | hu
  ·rw [qc r f.1]; exact ui r rx f.1 fx
  ·exact ih f.2 u' hu
def yF (x : V) (xs : List V) : Bool := xs.any fun y => mQ y x
def BG (K : PySem.W.Frag) (neg : Bool) : R2 := fun x y H Q => ∃ p xs, y = .ref p /\ (SqL K H p xs \/ SqT K H p xs) /\ cK x = true /\ xs.all cK = true /\ Q (.bl (if neg then !yF x xs else yF x xs)) H
theorem mR : gI X (compareOp .NotIn) (BG X.K true) := by
 intro pins s σ H x y v u Q I rx ry h
 obtain ⟨p, xs, rfl, hq, fx, fs, q⟩ := h
 cases ry
 rcases hq with hq | hq
 ·obtain ⟨its, r, pl, hz⟩ := I.list hq
  refine SeqAt.notIn_listAt (uj x) pl.isList (fun w hw => jR rx fx r fs w (by simpa using hw)) ⟨.bl _, H, I, rfl, ?_⟩
  rw [show its.toArray.any (uj x) = its.any (uj x) by simp, rb r fs]
  exact q
 ·obtain ⟨its, r, pl, hz⟩ := I.tuple hq
  refine SeqAt.notIn_tupleAt (uj x) pl (fun w hw => jR rx fx r fs w (by simpa using hw)) ⟨.bl _, H, I, rfl, ?_⟩
  rw [show its.toArray.any (uj x) = its.any (uj x) by simp, rb r fs]
  exact q
theorem mS : cH X (.type "list") (fun xs H Q => ∃ p ys, xs = [.ref p] /\ (SqL X.K H p ys \/ SqT X.K H p ys) /\ ∀ l, H l = none -> Q (.ref l) (az H l (.lst ys))) := by
 intro pins s σ H xs us Q I r h
 obtain ⟨p, ys, rfl, hq, q⟩ := h
 obtain ⟨u, rfl, rx⟩ := fg r
 cases rx
 have fin : ∀ (its : List Value), Vals ys its -> ys.length <= sizeLine -> ∀ (h' : Heap) (c' : Nat), (∀ b o', s.heap.get? b = some o' -> h'.get? b = some o') ->
   h'.get? s.heap.objs.size = some { cls := .type "list", dict := none, data := .seq its.toArray c', slots := #[] } -> EP X pins σ Q (.ref s.heap.objs.size) { s with heap := h' } := fun its r' hz h' c' kp e =>
  ⟨.ref s.heap.objs.size, _, I.laid (t' := s.toks) kp (Cg _) (show ObjOk X.prog X.w _ h' _ (.lst ys) from ⟨hz, its, c', r', e⟩), rfl, q _ (I.hok.fresh (Cg _))⟩
 rcases hq with hq | hq
 ·obtain ⟨its, r', pl, hz⟩ := I.list hq
  have hlen := r'.length
  obtain ⟨o, ho, hc, n, hd⟩ := pl.isList
  exact call_list_seq p (.inl rfl) ho hc hd (fun h' c' kp e => fin its r' hz h' c' kp e) (by simp only [Cs] <;> omega)
 ·obtain ⟨its, r', pl, hz⟩ := I.tuple hq
  have hlen := r'.length
  obtain ⟨o, ho, hc, n, hd⟩ := pl
  exact call_list_seq p (.inr rfl) ho hc hd (fun h' c' kp e => fin its r' hz h' c' kp e) (by simp only [Cs] <;> omega)
theorem fX : cH X (.type "tuple") (fun xs H Q => ∃ p ys, xs = [.ref p] /\ ((SqL X.K H p ys /\ ∀ l, H l = none -> Q (.ref l) (az H l (.tup ys))) \/ (SqT X.K H p ys /\ Q (.ref p) H))) := by
 intro pins s σ H xs us Q I r h
 obtain ⟨p, ys, rfl, h⟩ := h
 obtain ⟨u, rfl, rx⟩ := fg r
 cases rx
 rcases h with ⟨hq, q⟩ | ⟨hq, q⟩
 ·obtain ⟨its, r', pl, hz⟩ := I.list hq
  have hlen := r'.length
  refine call_tuple_list pl.isList (fun h' kp => ?_) (by simp only [Cs] <;> omega)
  have I1 : Inv X pins σ H { s with heap := h' } := I.kept (t' := s.toks) kp
  have I2 : Inv X pins σ (az H h'.objs.size (.tup ys)) { s with heap := h'.push { cls := .type "tuple", data := .seq its.toArray } } :=
   I1.laid (t' := s.toks) (fun b o e => Heap.get?_push_of_some _ e) (Cg _) (show ObjOk X.prog X.w _ _ _ (.tup ys) from ⟨hz, its, r', IsTup.new _ _⟩)
  exact ⟨.ref h'.objs.size, _, I2, rfl, q _ (I1.hok.fresh (Cg _))⟩
 ·obtain ⟨its, r', pl, hz⟩ := I.tuple hq
  exact call_tuple_same pl ⟨.ref p, H, I, rfl, q⟩
def Ba (K : PySem.W.Frag) (T : String) (x : V) (H : Hp) : Prop := match x with
 | .str _ => T = "str"
 | .int _ => T = "int"
 | .ref p => (T = "list" /\ ∃ xs, SqL K H p xs) \/ (T = "tuple" /\ ∃ o, K.lookup p = some o /\ o.cls = .type "tuple" /\ o.dict = none) \/
  (T = "dict" /\ ((∃ kvs, H p = some (.dK kvs)) \/ ∃ kvs, H p = some (.dT kvs))) \/ (T = "set" /\ ∃ S n, H p = some (.set S n))
 | _ => False
theorem uk {pins : List (Addr × Obj)} {σ : St} {H : Hp} {s : Shared} {T : String} {x : V} {v : Value} (I : Inv X pins σ H s) (r : RelV x v) (ty : Ba X.K T x H) :
  s.TypeIs v T /\ ∀ a, v = .ref a -> ∃ ob, s.heap.get? a = some ob /\ ob.dict = none := by
 cases x with
 | str z =>
  obtain ⟨t, rfl⟩ := r
  cases (show T = "str" from ty)
  exact ⟨typeIs_str s z t, fun _ e => nomatch e⟩
 | int i =>
  obtain ⟨t, rfl⟩ := r
  cases (show T = "int" from ty)
  exact ⟨typeIs_int s i t, fun _ e => nomatch e⟩
 | ref p =>
  cases r
  rcases ty with ⟨rfl, xs, hq⟩ | ⟨rfl, o, hk, hc, hd⟩ | ⟨rfl, hk⟩ | ⟨rfl, S, n, hk⟩
  ·obtain ⟨its, _, pl, _⟩ := I.list hq
   refine ⟨pl.isList.typeIs, fun a e => ?_⟩
   cases e
   obtain ⟨o, n, e, c, hd, _⟩ := pl
   exact ⟨o, e, hd⟩
  ·refine ⟨⟨o, I.kIn p o hk, hc⟩, fun a e => ?_⟩
   cases e
   exact ⟨o, I.kIn _ o hk, hd⟩
  ·have z : ∃ o, s.heap.get? p = some o /\ o.ExactDict := by
    rcases hk with ⟨kvs, hk⟩ | ⟨kvs, hk⟩
    ·obtain ⟨_, _, _, _, o, _, _, e, ex, _⟩ := I.hok p _ hk
     exact ⟨o, e, ex⟩
    ·obtain ⟨_, _, _, _, o, _, _, e, ex, _⟩ := I.hok p _ hk
     exact ⟨o, e, ex⟩
   obtain ⟨o, e, ex⟩ := z
   refine ⟨⟨o, e, ex.1⟩, fun a e2 => ?_⟩
   cases e2
   exact ⟨o, e, ex.2.1⟩
  ·obtain ⟨o, _, _, _, e, ex, _⟩ := I.hok p _ hk
   refine ⟨⟨o, e, ex.1⟩, fun a e2 => ?_⟩
   cases e2
   exact ⟨o, e, ex.2.1⟩
 | _ => exact False.elim ty
def Bb (K : PySem.W.Frag) (T : String) (r : V -> List V -> Hp -> VK -> Prop) (to : TE) : TE := fun σ H Q => to σ H fun x H1 => Ba K T x H1 /\ r x [] H1 Q
def BV (K : PySem.W.Frag) (T : String) (r : V -> List V -> Hp -> VK -> Prop) (to : TE) (t : TA) : TE := fun σ H Q => to σ H fun x H1 => Ba K T x H1 /\ t σ H1 fun xs H2 => r x xs H2 Q
variable {o e : Expr} {es : List Expr} {to : TE} {t : TA} {name : Str} {apos cpos : Pos} {T id : String} {r : V -> List V -> Hp -> VK -> Prop}
theorem um (pa : PlainAttrs T) (slot : Slot T name id) (hty : typeOf (.builtin id) = pure (.type "method_descriptor")) (hm : AL X id r) (ho : PE X o to)
  (hbase : attributeBase o name X.env (eval o X.env) = eval o X.env := by rfl) (hline : (apos.endLine == cpos.line) = true := by rfl) : PE X (.Call (.Attribute o name apos) [] [] cpos) (Bb X.K T r to) := by
 intro pins s σ H Q I h
 refine wpAny_Call_method0_late hbase hline (bC (ho pins s σ H _ I h) fun v s1 hq__ => ?_)
 obtain ⟨x, H1, I1, r1, ty, q1⟩ := hq__
 obtain ⟨h1, h2⟩ := uk I1 r1 ty
 exact ⟨T, id, pa, slot, hty, h1, h2, Calls.callWith_builtin rfl (PySem.evalArgs_none (hm pins s1 σ H1 x [] v [] Q I1 r1 .nil q1))⟩
theorem dS (pa : PlainAttrs T) (slot : Slot T name id) (hty : typeOf (.builtin id) = pure (.type "method_descriptor")) (hm : AL X id r) (ho : PE X o to) (ha : PA X (e :: es) t)
  (hbase : attributeBase o name X.env (eval o X.env) = eval o X.env := by rfl)
  (hfew : ((backTo cpos (starEach (e :: es) X.env)).all (fun x => !x.1) && (backToKw cpos (keywordEach [] X.env)).all (fun x => x.1.isSome)
   && decide ((e :: es).length + ([] : List Keyword).length + (if ([] : List Keyword).isEmpty then 0 else 1) < 30)) = true := by rfl)
  (hline : (apos.endLine == cpos.line) = true := by rfl) (hs : starEach (e :: es) X.env = (false, eval e X.env) :: starEach es X.env := by rfl) (hplain : (backTo cpos (starEach es X.env)).any (·.1) = false := by rfl) :
  PE X (.Call (.Attribute o name apos) (e :: es) [] cpos) (BV X.K T r to t) := by
 intro pins s σ H Q I h
 refine wpAny_Call_method_late hbase hfew hline rfl (bC (ho pins s σ H _ I h) fun v s1 hq__ => ?_)
 obtain ⟨x, H1, I1, r1, ty, q1⟩ := hq__
 obtain ⟨h1, h2⟩ := uk I1 r1 ty
 refine ⟨T, id, pa, slot, hty, h1, h2, ?_⟩
 have hA := ha cpos pins s1 σ H1 _ I1 q1
 rw [hs] at hA ⊢
 refine Calls.callWith_builtin (by show (false || (backTo cpos (starEach es X.env)).any (·.1)) = false; rw [hplain] <;> rfl) (Calls.evalArgs_plain ?_)
 exact bC hA fun us s2 ⟨vs, H2, I2, r2, q2⟩ => hm pins s2 σ H2 x vs v us Q I2 r1 r2 q2
end
def Bc (X : Cx) (id : String) (r : V -> List V -> Hp -> VK -> Prop) : Prop :=
 ∀ (pins : List (Addr × Obj)) (s : Shared) (σ : St) (H : Hp) (x : V) (xs : List V) (v : Value) (us : List Value) (Q : VK), Inv X pins σ H s -> RelV x v -> Vals xs us -> r x xs H Q ->
  wpAny (model X.prog X.w) X.A (call (.builtin id) (v :: us)) (EP X pins σ Q) X.xe s
theorem Vals.one : ∀ {x : V} {us : List Value}, Vals [x] us -> ∃ u, us = [u] /\ RelV x u := by
 intro x us h
 cases h with
 | cons r t => cases t; exact ⟨_, rfl, r⟩
theorem Vals.zero : ∀ {us : List Value}, Vals [] us -> us = []
 | _, .nil => rfl
theorem Vals.rep {xs : List V} {us : List Value} (h : Vals xs us) : ∀ k : Nat, Vals (Cw k xs).flatten (Cw k us).flatten
 | 0 => .nil
 | k + 1 => by
  rw [Di, Di, DL, DL]
  exact Vals.append h (Vals.rep h k)
theorem sC (its : List Value) (k : Nat) (acc : List Value) : List.foldl (fun x1 x2 => x1 ++ x2) acc.toArray (Cw k its.toArray) = (acc ++ (Cw k its).flatten).toArray := by
 induction k generalizing acc with
 | zero => simp
 | succ k ih =>
  have e : acc.toArray ++ its.toArray = (acc ++ its).toArray := by simp
  have e2 : (acc ++ its) ++ (Cw k its).flatten = acc ++ (Cw (k + 1) its).flatten := by
   rw [Di, DL, DZ]
  rw [<- e2, <- ih (acc ++ its), <- e, Di, EF]
section
variable {X : Cx} {pins : List (Addr × Obj)} {σ : St} {H : Hp} {s : Shared} {l b : Addr} {xs ys zs : List V}
theorem Inv.lset {its its' : List Value} {n : Nat} {f : Array Value -> Array Value} {t' : Nat} (I : Inv X pins σ H s) (hH : H l = some (.lst xs))
  (e : s.heap.get? l = some { cls := .type "list", data := .seq its.toArray n }) (hf : f its.toArray = its'.toArray) (hv : Vals ys its') (hz : ys.length <= sizeLine) :
  Inv X pins σ (az H l (.lst ys)) { s with heap := s.heap.update l (Obj.mapSeq f), toks := t' } := by
 have q := PySem.IsL.update e f
 rw [hf] at q
 refine I.write (x := l) (e := l) (by rw [hH]; exact trivial) (.inl rfl) (fun b' u hb hu => (Heap.get?_update_other s.heap (Obj.mapSeq f) (Ne.symm hb)).trans hu) ⟨_, q⟩ ?_
 exact ⟨hz, its', _, hv, q⟩
theorem Inv.lnew {its : List Value} {t' : Nat} (I : Inv X pins σ H s) (hv : Vals ys its) (hz : ys.length <= sizeLine) :
  Inv X pins σ (az H s.heap.objs.size (.lst ys)) { s with heap := s.heap.push { cls := .type "list", data := .seq its.toArray }, toks := t' } :=
 I.laid (fun _ _ q => Heap.get?_push_of_some _ q) (Cg _) ⟨hz, its, 0, hv, Heap.get?_push_size _ rfl⟩
theorem Inv.fresh (I : Inv X pins σ H s) : H s.heap.objs.size = none := I.hok.fresh (Cg _)
theorem Inv.lstM (I : Inv X pins σ H s) (hH : H l = some (.lst xs)) : xs.length <= sizeLine /\ ∃ (its : List Value) (n : Nat), Vals xs its /\ xs.length = its.length /\ s.heap.get? l = some { cls := .type "list", data := .seq its.toArray n } := by
 obtain ⟨z, its, n, r, e⟩ := I.hok l _ hH
 exact ⟨z, its, n, r, r.length, e⟩
theorem oE {n : Nat} (h : n <= sizeLine) : Builtin.List.listTooLong n = false := by
 unfold Builtin.List.listTooLong
 exact decide_eq_false (by omega)
end
section
variable {X : Cx}
def wC : V -> List V -> Hp -> VK -> Prop := fun x vs H Q => ∃ l xs y, x = .ref l /\ vs = [y] /\ H l = some (.lst xs) /\ xs.length < sizeLine /\ Q .non (az H l (.lst (xs ++ [y])))
theorem bI : Bc X "list.append" wC := by
 intro pins s σ H x vs v us Q I rx rv h
 obtain ⟨l, xs, y, rfl, rfl, hH, hz, q⟩ := h
 cases rx
 obtain ⟨u, rfl, ru⟩ := rv.one
 obtain ⟨z, its, n, r, hl, e⟩ := I.lstM hH
 refine call_meets F.slot_list_append ⟨_, e, rfl⟩ F.entry_list_append (F.args_list_append_2 _ _) (PySem.list_append l its.toArray n u (by rw [Cs]; omega)) ⟨e, ?_⟩
 refine ⟨.non, _, I.lset (its' := its ++ [u]) hH e (by simp) (r.append (.cons ru .nil)) ?_, rfl, q⟩
 rw [Ck, Cp]
 omega
def wD : V -> List V -> Hp -> VK -> Prop := fun x vs H Q => ∃ l b xs zs, x = .ref l /\ vs = [.ref b] /\ H l = some (.lst xs) /\ H b = some (.lst zs) /\ xs.length + zs.length <= sizeLine /\ Q .non (az H l (.lst (xs ++ zs)))
theorem zu : Bc X "list.extend" wD := by
 intro pins s σ H x vs v us Q I rx rv h
 obtain ⟨l, b, xs, zs, rfl, rfl, hH, hB, hz, q⟩ := h
 cases rx
 obtain ⟨u, rfl, ru⟩ := rv.one
 cases ru
 obtain ⟨z, its, n, r, hl, e⟩ := I.lstM hH
 obtain ⟨z2, its2, n2, r2, hl2, e2⟩ := I.lstM hB
 have hsz : its.toArray.size + its2.toArray.size <= sizeLine := by rw [Cs, Cs]; omega
 have hlong : ¬ (!its.toArray.isEmpty && Builtin.List.listTooLong (its.toArray.size + its2.toArray.size)) = true := by
  rw [oE hsz, Bool.and_false]
  exact Ct
 refine call_meets F.slot_list_extend ⟨_, e, rfl⟩ F.entry_list_extend (F.args_list_extend_2 _ _)
  (AutoSeq1.list_extend_list_list_0 l its.toArray n b its2.toArray n2 hlong (by rw [Cs]; omega) (by omega)) ⟨e, e2, ?_⟩
 refine ⟨.non, _, I.lset (its' := its ++ its2) hH e (by simp) (r.append r2) ?_, rfl, q⟩
 rw [Ck]
 omega
def Bd : R2 := fun x y H Q => ∃ l b xs zs, x = .ref l /\ y = .ref b /\ H l = some (.lst xs) /\ H b = some (.lst zs) /\ xs.length + zs.length <= sizeLine /\ ∀ p, H p = none -> Q (.ref p) (az H p (.lst (xs ++ zs)))
theorem mT : gI X (binaryOp .Add) Bd := by
 intro pins s σ H x y v u Q I rx ry h
 obtain ⟨l, b, xs, zs, rfl, rfl, hH, hB, hz, q⟩ := h
 cases rx
 cases ry
 obtain ⟨z, its, n, r, hl, e⟩ := I.lstM hH
 obtain ⟨z2, its2, n2, r2, hl2, e2⟩ := I.lstM hB
 refine PySem.P.add_list e e2 ?_ (by rw [Cs, Cs]; omega)
 have ea : its.toArray ++ its2.toArray = (its ++ its2).toArray := by simp
 rw [ea]
 exact ⟨.ref _, _, I.lnew (t' := s.toks) (r.append r2) (by rw [Ck]; omega), rfl, q _ I.fresh⟩
def Be : R2 := fun x y H Q => ∃ l k xs, x = .ref l /\ y = .int k /\ H l = some (.lst xs) /\ -(2 ^ 63) <= k /\ k < 2 ^ 63 /\ xs.length * k.toNat <= sizeLine /\
 ∀ p, H p = none -> Q (.ref p) (az H p (.lst (Cw k.toNat xs).flatten))
theorem wF {α : Type} (xs : List α) (k : Nat) : (Cw k xs).flatten.length = k * xs.length := by
 induction k with
 | zero => simp
 | succ k ih => rw [Di, DL, Ck, ih, Nat.succ_mul, Nat.add_comm]
theorem qd : gI X (binaryOp .Mult) Be := by
 intro pins s σ H x y v u Q I rx ry h
 obtain ⟨l, k, xs, rfl, rfl, hH, h1, h2, hz, q⟩ := h
 cases rx
 obtain ⟨t, rfl⟩ := ry
 obtain ⟨z, its, n, r, hl, e⟩ := I.lstM hH
 have hlen : its.toArray.size * k.toNat <= sizeLine := by rw [Cs, <- hl]; exact hz
 have hcap : ¬ its.toArray.size * k.toNat > (2 ^ 63 - 1) / 8 := by
  have : (sizeLine : Nat) <= (2 ^ 63 - 1) / 8 := by decide
  omega
 have hfit : ¬ (!Builtin.List.listFitsIndex k) = true := by
  rw [fitsIndex_both h1 h2]
  exact Ct
 have hlong : ¬ Builtin.List.listTooLong (its.toArray.size * k.toNat) = true := by
  rw [oE hlen]
  exact Ct
 have hnew : List.foldl (fun x1 x2 => x1 ++ x2) #[] (Cw (if its.toArray.isEmpty = true then 0 else k.toNat) its.toArray) = (Cw k.toNat its).flatten.toArray := by
  have f0 : ∀ m : Nat, List.foldl (fun x1 x2 => x1 ++ x2) #[] (Cw m its.toArray) = (Cw m its).flatten.toArray := fun m => by
   have := sC its m []
   rw [List.nil_append] at this
   exact this
  rw [f0]
  cases its with
  | nil => simp
  | cons a r' => rw [if_neg (by simp)]
 refine wpAny_binaryOp_repeat_ref (T := "list") (U := "int") (by decide) ⟨_, e, rfl⟩ (fun s' => typeIs_int s' k t) noFill_list_mul F.fills_int_mul F.slot_int_rmul repeat_list F.slot_int_index.lookup
  (call_meets F.slot_int_rmul (typeIs_int s k t) F.entry_int_rmul (F.args_int_rmul_2 _ _) (int___rmul___int_list k t l its.toArray n)
   ⟨e, rfl, ⟨_, e, rfl⟩, call_meets F.slot_list_mul ⟨_, e, rfl⟩ F.entry_list_mul (F.args_list_mul_2 _ _) (AutoListH.list___mul___list_int_3 l its.toArray n k t hfit hcap hlong) ⟨e, ?_⟩⟩)
 rw [hnew]
 exact ⟨.ref _, _, I.lnew (t' := s.toks) (r.rep k.toNat) (by rw [wF, Nat.mul_comm]; exact hz), rfl, q _ I.fresh⟩
end
section
variable {prog : Program} {w : World} {A : Around} {E : Value -> Shared -> Prop} {s : Shared}
end
section
variable {X : Cx}
end
section
variable {κ : Type} [DecidableEq κ]
def a8 (kvs : List (κ × V)) (k : κ) : Option V := (kvs.find? fun kv => decide (kv.1 = k)).map (·.2)
def b3 (kvs : List (κ × V)) (k : κ) (v : V) : List (κ × V) :=
 if (kvs.any fun kv => decide (kv.1 = k)) = true then kvs.map (fun kv => if kv.1 = k then (kv.1, v) else kv) else kvs ++ [(k, v)]
theorem bL {p : κ × V} {r : List (κ × V)} {k : κ} (e : p.1 = k) : a8 (p :: r) k = some p.2 := by simp [a8, C1, e]
theorem bM {p : κ × V} {r : List (κ × V)} {k : κ} (e : ¬ p.1 = k) : a8 (p :: r) k = a8 r k := by simp [a8, C1, e]
theorem b9 (k : κ) (kvs : List (κ × V)) : (kvs.any fun kv => decide (kv.1 = k)) = (a8 kvs k).isSome := by
 induction kvs with
 | nil => rfl
 | cons p r ih =>
  rw [Ei]
  by_cases e : p.1 = k
  ·simp only [bL e, decide_eq_true e, Bool.true_or, Option.isSome_some]
  ·rw [bM e, decide_eq_false e, Bool.false_or]; exact ih
theorem uo (k j : κ) (y : V) (kvs : List (κ × V)) : a8 (kvs.map fun kv => if kv.1 = k then (kv.1, y) else kv) j = (a8 kvs j).map fun x => if j = k then y else x := by
 induction kvs with
 | nil => rfl
 | cons p r ih =>
  rw [Co]
  by_cases h : p.1 = k
  ·rw [if_pos h]
   by_cases e : p.1 = j
   ·rw [bL (p := (p.1, y)) e, bL e, DG, if_pos (e.symm.trans h)]
   ·rw [bM (p := (p.1, y)) e, bM e, ih]
  ·rw [if_neg h]
   by_cases e : p.1 = j
   ·rw [bL (p := p) e, bL e, DG, if_neg (fun z => h (e.trans z))]
   ·rw [bM (p := p) e, bM e, ih]
theorem sD (k j : κ) (y : V) : ∀ kvs : List (κ × V), a8 kvs k = none -> a8 (kvs ++ [(k, y)]) j = if j = k then some y else a8 kvs j := by
 intro kvs
 induction kvs with
 | nil =>
  intro _
  by_cases e : k = j
  ·rw [if_pos e.symm]; exact bL (p := (k, y)) e
  ·rw [if_neg (fun z => e z.symm)]; exact bM (p := (k, y)) e
 | cons p r ih =>
  intro hn
  rw [List.cons_append]
  have hk : ¬ p.1 = k := fun z => by rw [bL z] at hn; cases hn
  rw [bM hk] at hn
  have ih := ih hn
  by_cases e : p.1 = j
  ·rw [bL e, bL e, if_neg (fun z => hk (e.trans z))]
  ·rw [bM e, bM e, ih]
theorem jS (kvs : List (κ × V)) (k j : κ) (y : V) : a8 (b3 kvs k y) j = if j = k then some y else a8 kvs j := by
 unfold b3
 by_cases a : (kvs.any fun kv => decide (kv.1 = k)) = true
 ·rw [if_pos a, uo]
  rw [b9] at a
  by_cases e : j = k
  ·obtain ⟨x, hx⟩ := Dh.mp a
   rw [if_pos e, e, hx, DG, if_pos rfl]
  ·rw [if_neg e]
   cases a8 kvs j with
   | none => rfl
   | some x => rw [DG, if_neg e]
 ·rw [if_neg a]
  refine sD k j y kvs ?_
  rw [b9] at a
  cases q : a8 kvs k with
  | none => rfl
  | some x => rw [q] at a; exact (a rfl).elim
theorem dB (kvs : List (κ × V)) (k : κ) (v : V) : (b3 kvs k v).length <= kvs.length + 1 := by
 unfold b3
 split
 ·rw [B9]; omega
 ·rw [Ck, CF, List.length_nil]; omega
theorem ur {kvs : List (κ × V)} {k : κ} (v : V) (h : a8 kvs k = none) : b3 kvs k v = kvs ++ [(k, v)] := by
 unfold b3
 rw [b9, h]
 exact if_neg (by decide)
theorem RelO.isSome_eq {o : Option V} {u : Option Value} (r : RelO o u) : o.isSome = u.isSome := by
 cases o with
 | none => cases u with
  | none => rfl
  | some _ => exact (show False from r).elim
 | some _ => cases u with
  | none => exact (show False from r).elim
  | some _ => rfl
theorem RelO.getD {o : Option V} {u : Option Value} {d : V} {d' : Value} (r : RelO o u) (rd : RelV d d') : RelV (o.getD d) (u.getD d') := by
 cases o with
 | none => cases u with
  | none => exact rd
  | some _ => exact (show False from r).elim
 | some _ => cases u with
  | none => exact (show False from r).elim
  | some _ => exact r
theorem KV.val {kvs : List (κ × V)} {vs : List (κ × Value)} (r : KV kvs vs) (k : κ) : RelO (a8 kvs k) (valueAt vs k) := by
 unfold KV at r
 induction r with
 | nil => exact True.intro
 | @cons p q ps qs h t ih =>
  obtain ⟨h1, h2⟩ := h
  by_cases e : p.1 = k
  ·have e' : q.1 = k := h1.symm.trans e
   have b : valueAt (q :: qs) k = some q.2 := by simp [valueAt, C1, e']
   rw [bL e, b]; exact h2
  ·have e' : ¬ q.1 = k := fun z => e (h1.trans z)
   have b : valueAt (q :: qs) k = valueAt qs k := by simp [valueAt, C1, e']
   rw [bM e, b]; exact ih
theorem KV.any {kvs : List (κ × V)} {vs : List (κ × Value)} (r : KV kvs vs) (k : κ) : (kvs.any fun kv => decide (kv.1 = k)) = vs.any fun kv => decide (kv.1 = k) := by
 unfold KV at r
 induction r with
 | nil => rfl
 | cons h t ih => rw [Ei, Ei, ih, h.1]
theorem KV.repl {kvs : List (κ × V)} {vs : List (κ × Value)} (r : KV kvs vs) (k : κ) {y : V} {u : Value} (ry : RelV y u) :
  KV (kvs.map fun kv => if kv.1 = k then (kv.1, y) else kv) (vs.map fun kv => if kv.1 = k then (kv.1, u) else kv) := by
 unfold KV at r ⊢
 induction r with
 | nil => exact .nil
 | @cons p q ps qs h t ih =>
  rw [Co, Co]
  refine .cons ?_ ih
  obtain ⟨h1, h2⟩ := h
  by_cases e : p.1 = k
  ·rw [if_pos e, if_pos (h1.symm.trans e)]; exact ⟨h1, ry⟩
  ·rw [if_neg e, if_neg (fun z => e (h1.trans z))]; exact ⟨h1, h2⟩
theorem KV.put {kvs : List (κ × V)} {vs : List (κ × Value)} (r : KV kvs vs) (k : κ) {y : V} {u : Value} (ry : RelV y u) : KV (b3 kvs k y) (stored vs k u) := by
 unfold b3 stored
 rw [r.any k]
 by_cases e : (vs.any fun kv => decide (kv.1 = k)) = true
 ·rw [if_pos e, if_pos e]; exact r.repl k ry
 ·rw [if_neg e, if_neg e]; exact Paired.snoc r ⟨rfl, ry⟩
theorem KV.length {kvs : List (κ × V)} {vs : List (κ × Value)} (r : KV kvs vs) : kvs.length = vs.length := Paired.length r
end
theorem iZ {P : Program} {w : World} {k : bw} {u : Value} (r : RelV (kV k) u) : (aH P w).is k u = true := by
 cases k with
 | inl i => obtain ⟨t, e⟩ := (show ∃ t, u = Value.int i t from r); subst e; exact oi P w i t
 | inr x => obtain ⟨t, e⟩ := (show ∃ t, u = Value.str x t from r); subst e; exact oj P w x t
theorem sE {P : Program} {w : World} {ks : List bw} {us : List Value} (r : Vals (ks.map kV) us) : ItemsAre (aH P w) ks us := by
 induction ks generalizing us with
 | nil => cases r; exact .nil
 | cons k ks ih =>
  cases r with
  | cons h t => exact .cons (iZ h) (ih t)
abbrev KT (H : Hp) : List (List bw × V) -> List (List bw × Addr × Value) -> Prop := Paired fun p q => p.1 = q.1 /\ H q.2.1 = some (.tup (p.1.map kV)) /\ RelV p.2 q.2.2
theorem KT.val {H : Hp} {kvs : List (List bw × V)} {xs : List (List bw × Addr × Value)} (r : KT H kvs xs) (k : List bw) : RelO (a8 kvs k) ((atKey xs k).map (·.2)) := by
 induction r with
 | nil => exact True.intro
 | @cons p q ps qs h t ih =>
  obtain ⟨h1, _, h2⟩ := h
  by_cases e : p.1 = k
  ·have e' : q.1 = k := h1.symm.trans e
   have b : atKey (q :: qs) k = some q.2 := by simp [atKey, C1, e']
   rw [bL e, b]; exact h2
  ·have e' : ¬ q.1 = k := fun z => e (h1.trans z)
   have b : atKey (q :: qs) k = atKey qs k := by simp [atKey, C1, e']
   rw [bM e, b]; exact ih
theorem KT.repl {H : Hp} {kvs : List (List bw × V)} {xs : List (List bw × Addr × Value)} (r : KT H kvs xs) (k : List bw) {y : V} {u : Value} (ry : RelV y u) :
  KT H (kvs.map fun kv => if kv.1 = k then (kv.1, y) else kv) (xs.map (putAt k u)) := by
 induction r with
 | nil => exact .nil
 | @cons p q ps qs h t ih =>
  rw [Co, Co]
  refine .cons ?_ ih
  obtain ⟨h1, h2, h3⟩ := h
  unfold putAt
  by_cases e : p.1 = k
  ·rw [if_pos e, if_pos (h1.symm.trans e)]; exact ⟨h1, h2, ry⟩
  ·rw [if_neg e, if_neg (fun z => e (h1.trans z))]; exact ⟨h1, h2, h3⟩
theorem KT.put {H : Hp} {kvs : List (List bw × V)} {xs : List (List bw × Addr × Value)} (r : KT H kvs xs) (k : List bw) {b : Addr} {y : V} {u : Value} (hb : H b = some (.tup (k.map kV))) (ry : RelV y u) :
  KT H (b3 kvs k y) (storedH xs k b u) := by
 have e : (kvs.any fun kv => decide (kv.1 = k)) = (atKey xs k).isSome := by
  rw [b9, (r.val k).isSome_eq, Option.isSome_map]
 unfold b3 storedH
 rw [e]
 by_cases q : (atKey xs k).isSome = true
 ·rw [if_pos q, if_pos q]; exact r.repl k ry
 ·rw [if_neg q, if_neg q]; exact Paired.snoc r ⟨rfl, hb, ry⟩
theorem KT.keeps {H H' : Hp} {kvs : List (List bw × V)} {xs : List (List bw × Addr × Value)} (r : KT H kvs xs) (ht : ∀ b ys, H b = some (.tup ys) -> H' b = some (.tup ys)) : KT H' kvs xs :=
 Paired.mapP r fun _ _ z => ⟨z.1, ht _ _ z.2.1, z.2.2⟩
section
variable {P : Program} {w : World} {H : Hp} {h : Heap} {a : Addr}
theorem x6 {u : HO} (ok : HOk P w H h) (e : Rd H a u) : ObjOk P w H h a u := e.ok ok
theorem jT {kvs : List (bw × V)} (ok : HOk P w H h) (e : Rd H a (.dK kvs)) : kvs.length <= sizeLine /\ (a == sysModules) = false /\ ∃ vs, KV kvs vs /\ h.DictOf (aH P w) a vs :=
 show ObjOk P w H h a (.dK kvs) from x6 ok e
theorem jU {kvs : List (bw × V)} (ok : HOk P w H h) (e : H a = some (.dK kvs)) : kvs.length <= sizeLine /\ (a == sysModules) = false /\ ∃ vs, KV kvs vs /\ h.DictOf (aH P w) a vs := jT ok (.inl e)
theorem iy {ks : List bw} (ok : HOk P w H h) (e : H a = some (.tup (ks.map kV))) : (tupleKind (aH P w)).is h ks a := by
 obtain ⟨_, its, r, o, h1, h2, n, h3⟩ := (show ObjOk P w H h a (.tup (ks.map kV)) from ok a _ e)
 exact ⟨o, its.toArray, n, h1, h2, h3, by simpa using sE r⟩
theorem jV {kvs : List (List bw × V)} (ok : HOk P w H h) (e : Rd H a (.dT kvs)) : kvs.length <= sizeLine /\ (a == sysModules) = false /\
  ∃ xs, KT H kvs xs /\ h.DictOfH (tupleKind (aH P w)) a xs := by
 obtain ⟨z, y, xs, r, o, es, ep, h1, h2, h3, h4, h5⟩ := (show ObjOk P w H h a (.dT kvs) from x6 ok e)
 refine ⟨z, y, xs, r, o, es, ep, h1, h2, h3, h4, fun x hx => ?_, h5⟩
 have all : ∀ {l : List (List bw × V)} {m : List (List bw × Addr × Value)}, KT H l m -> ∀ x ∈ m, (tupleKind (aH P w)).is h x.1 x.2.1 := by
  intro l m q
  induction q with
  | nil => intro x hx; exact nomatch hx
  | @cons p q ps qs hq t ih =>
   intro x hx
   rcases Cr.mp hx with e | hx
   ·subst e
    exact iy ok (by rw [<- hq.1]; exact hq.2.1)
   ·exact ih x hx
 exact all r x hx
theorem Aa {kvs : List (List bw × V)} (ok : HOk P w H h) (e : H a = some (.dT kvs)) : kvs.length <= sizeLine /\ (a == sysModules) = false /\
 ∃ xs, KT H kvs xs /\ h.DictOfH (tupleKind (aH P w)) a xs := jV ok (.inl e)
end
def DGet (H : Hp) (a : Addr) (y : V) (r : Option V) : Prop :=
 (∃ kvs k, Rd H a (.dK kvs) /\ y = kV k /\ r = a8 kvs k) \/ ∃ kvs k b, Rd H a (.dT kvs) /\ y = .ref b /\ H b = some (.tup (k.map kV)) /\ r = a8 kvs k
def DPut (H : Hp) (a : Addr) (y v : V) (H' : Hp) : Prop :=
 (∃ kvs k, H a = some (.dK kvs) /\ y = kV k /\ kvs.length < sizeLine /\ H' = az H a (.dK (b3 kvs k v))) \/
 ∃ kvs k b, H a = some (.dT kvs) /\ y = .ref b /\ H b = some (.tup (k.map kV)) /\ kvs.length < sizeLine /\ H' = az H a (.dT (b3 kvs k v))
theorem DGet.k {H : Hp} {a : Addr} {kvs : List (bw × V)} {k : bw} (e : H a = some (.dK kvs)) : DGet H a (kV k) (a8 kvs k) := .inl ⟨kvs, k, .inl e, rfl, rfl⟩
theorem DPut.k {H : Hp} {a : Addr} {kvs : List (bw × V)} {k : bw} {v : V} (e : H a = some (.dK kvs)) (hl : kvs.length < sizeLine) : DPut H a (kV k) v (az H a (.dK (b3 kvs k v))) := .inl ⟨kvs, k, e, rfl, hl, rfl⟩
section
variable {X : Cx} {pins : List (Addr × Obj)} {σ : St} {H : Hp} {s : Shared} {a : Addr} {y v : V} {u r : Value} {o : Option V} {A : Around} {E : Value -> Shared -> Prop}
theorem Inv.big (I : Inv X pins σ H s) : sysModules < s.heap.objs.size := by
 have h : mainGlobals < s.heap.objs.size := (I.mod.glob.keeps I.bk).lt
 exact Nat.lt_trans (by decide) h
theorem lN {Q : Value -> Shared -> Prop} (hu : A.units + 1 < cLine) (I : Inv X pins σ H s) (g : DGet H a y (some v)) (ry : RelV y u) (h : ∀ w' s', Inv X pins σ H s' -> RelV v w' -> Q w' s') :
  wpAny (model X.prog X.w) A (getItem (.ref a) u) Q E s := by
 rcases g with ⟨kvs, k, e, ey, l⟩ | ⟨kvs, k, b, e, ey, eb, l⟩
 ·subst ey
  obtain ⟨z, hd, vs, rel, dd⟩ := jT I.hok e
  obtain ⟨w', hw, rw'⟩ := RelO.some_of (v := v) (o := valueAt vs k) (by rw [l]; exact rel.val k)
  exact wpAny_getItem_of (iZ ry) dd.mapOf hw (h w' _ (I.tok _) rw')
 ·subst ey
  cases (show u = Value.ref b from ry)
  obtain ⟨z, hd, xs, rel, dd⟩ := jV I.hok e
  obtain ⟨w', hw, rw'⟩ := RelO.some_of (v := v) (o := (atKey xs k).map (·.2)) (by rw [l]; exact rel.val k)
  obtain ⟨p, hp, hp2⟩ := Cj.mp hw
  refine wpAny_getItem_heap (tupleKind_room_in1 hu) (iy I.hok eb) dd hp ?_
  rw [hp2]
  exact h w' _ (I.tok _) rw'
theorem Bf {Q : Value -> Shared -> Prop} (hu : A.units + 1 < cLine) (I : Inv X pins σ H s) (g : DGet H a y o) (ry : RelV y u) (h : ∀ s', Inv X pins σ H s' -> Q (.bool o.isSome) s') :
  wpAny (model X.prog X.w) A (compareOp .In u (.ref a)) Q E s := by
 rcases g with ⟨kvs, k, e, ey, l⟩ | ⟨kvs, k, b, e, ey, eb, l⟩
 ·subst ey
  obtain ⟨z, hd, vs, rel, dd⟩ := jT I.hok e
  refine wpAny_in_of (iZ ry) hd dd.mapOf ?_
  rw [<- (rel.val k).isSome_eq, <- l]
  exact h _ (I.tok _)
 ·subst ey
  cases (show u = Value.ref b from ry)
  obtain ⟨z, hd, xs, rel, dd⟩ := jV I.hok e
  refine wpAny_in_heap (tupleKind_room_in1 hu) (iy I.hok eb) hd dd ?_
  have q := (rel.val k).isSome_eq
  rw [Option.isSome_map] at q
  rw [<- q, <- l]
  exact h _ (I.tok _)
theorem wG {Q : Value -> Shared -> Prop} (hu : A.units + 1 < cLine) (I : Inv X pins σ H s) (g : DGet H a y o) (ry : RelV y u) (h : ∀ s', Inv X pins σ H s' -> Q (.bool (!o.isSome)) s') :
  wpAny (model X.prog X.w) A (compareOp .NotIn u (.ref a)) Q E s := by
 rcases g with ⟨kvs, k, e, ey, l⟩ | ⟨kvs, k, b, e, ey, eb, l⟩
 ·subst ey
  obtain ⟨z, hd, vs, rel, dd⟩ := jT I.hok e
  refine wpAny_notIn_of (iZ ry) hd dd.mapOf ?_
  rw [<- (rel.val k).isSome_eq, <- l]
  exact h _ (I.tok _)
 ·subst ey
  cases (show u = Value.ref b from ry)
  obtain ⟨z, hd, xs, rel, dd⟩ := jV I.hok e
  refine wpAny_notIn_heap (tupleKind_room_in1 hu) (iy I.hok eb) hd dd ?_
  have q := (rel.val k).isSome_eq
  rw [Option.isSome_map] at q
  rw [<- q, <- l]
  exact h _ (I.tok _)
theorem mU {h' : Heap} {t' : Nat} {ob : HO} (I : Inv X pins σ H s) (mu : zq (H a)) (hs : Heap.SameBut a s.heap h') (he : ∃ q, h'.get? a = some q) (new : ObjOk X.prog X.w (az H a ob) h' a ob) :
  Inv X pins σ (az H a ob) { s with heap := h', toks := t' } :=
 I.write (x := a) (e := a) mu (.inl rfl) (fun b q hb z => (hs.2 b hb).trans z) he new
theorem qe {P : Program} {w : World} {H' : Hp} {h' : Heap} {kvs : List (bw × V)} {vs : List (bw × Value)} (z : kvs.length <= sizeLine) (hd : (a == sysModules) = false) (rel : KV kvs vs) (dd : h'.DictOf (aH P w) a vs) :
 ObjOk P w H' h' a (.dK kvs) := ⟨z, hd, vs, rel, dd⟩
theorem lO {H' : Hp} {Q : Unit -> Shared -> Prop} (hu : A.units + 1 < cLine) (I : Inv X pins σ H s) (g : DPut H a y v H') (ry : RelV y u) (rv : RelV v r) (h : ∀ s', Inv X pins σ H' s' -> Q () s') :
  wpAny (model X.prog X.w) A (setItem (.ref a) u r) Q E s := by
 rcases g with ⟨kvs, k, e, ey, l, eH⟩ | ⟨kvs, k, b, e, ey, eb, l, eH⟩
 ·subst ey eH
  obtain ⟨z, hd, vs, rel, dd⟩ := jU I.hok e
  have hz : vs.length <= sizeLine := by rw [<- rel.length]; exact z
  have hl : (b3 kvs k v).length <= sizeLine := by have := dB kvs k v; omega
  refine wpAny_setItem_pairs (hsz := hz) (iZ ry) dd fun h' dd' hs => h _ ?_
  have he : ∃ q, h'.get? a = some q := let ⟨q, _, _, hq, _⟩ := dd'; ⟨q, hq⟩
  exact mU I (by rw [e]; exact True.intro) hs he (qe hl hd (rel.put k rv) dd')
 ·subst ey eH
  cases (show u = Value.ref b from ry)
  obtain ⟨z, hd, xs, rel, dd⟩ := Aa I.hok e
  have hz : xs.length <= sizeLine := by rw [<- Paired.length rel]; exact z
  have hl : (b3 kvs k v).length <= sizeLine := by have := dB kvs k v; omega
  refine wpAny_setItem_heap (hsz := hz) (tupleKind_room_in1 hu) (iy I.hok eb) dd fun h' dd' hs => h _ ?_
  obtain ⟨q, es, ep, hq, h2, h3, h4, _, h5⟩ := dd'
  refine mU I (by rw [e]; exact True.intro) hs ⟨q, hq⟩ ⟨hl, hd, _, (rel.put k eb rv).keeps fun c ys ec => ?_, q, es, ep, hq, h2, h3, h4, h5⟩
  rw [ah (zy ec e (fun z => nomatch z))]
  exact ec
end
section
variable {X : Cx} {pins : List (Addr × Obj)} {σ : St} {H : Hp} {s : Shared} {a : Addr} {kvs : List (bw × V)} {k : bw} {u : Value} {A : Around} {E : Value -> Shared -> Prop}
end
def Ab (i : Expr) : Prop := ∀ ov iv, subscripted i false ov iv = operate [ov, iv] (getItem ov iv)
theorem wH {prog : Program} {w : World} {A : Around} {E : Value -> Shared -> Prop} {s : Shared} {env : Env} {value slice : Expr} {pos : Pos} {T id : String} {Q : Value -> Shared -> Prop}
  (hl : typeLookup (.type T) "__getitem__" = pure (some (.builtin id))) (hs : Ab slice)
  (h : wpAny (model prog w) A (eval value env) (fun o s₁ => wpAny (model prog w) A (eval slice env) (fun i s₂ => s₂.TypeIs o T /\ wpAny (model prog w) A (getItem o i) Q E s₂) E s₁) E s) :
  wpAny (model prog w) A (eval (.Subscript value slice pos) env) Q E s := by
 refine Subscript_ (wpAny_mono h (fun o s₁ h₁ => wpAny_mono h₁ (fun i s₂ h₂ => ?_) fun _ _ x => x) fun _ _ x => x)
 obtain ⟨hT, h₂⟩ := h₂
 unfold subscriptTail
 refine wpAny_bind ?_
 rw [getitemInPython_of_ne hT.not_modules]
 refine wpAny_bind (wpAny_specialOf hT hl ?_)
 have fin : wpAny (model prog w) A (subscripted slice false o i) (fun r s₃ => wpAny (model prog w) A (letTemporaryGo value o r >>= fun _ => pure r) Q E s₃) E s₂ := by
  rw [hs o i]
  exact wpAny_operating (wpAny_mono h₂ (fun r s₃ h₃ => wpAny_bind (wpAny_letTemporaryGo (wpAny_pure h₃))) fun _ _ x => x)
 first
  | exact wpAny_pure (wpAny_bind fin)
  | exact wpAny_bind (wpAny_pure (wpAny_bind fin))
  | exact wpAny_bind fin
theorem oF {X : Cx} {pins : List (Addr × Obj)} {σ : St} {H : Hp} {s : Shared} {a : Addr} {y : V} {o : Option V} (I : Inv X pins σ H s) (g : DGet H a y o) : s.TypeIs (.ref a) "dict" := by
 rcases g with ⟨kvs, k, e, _, _⟩ | ⟨kvs, k, b, e, _, _, _⟩
 ·obtain ⟨_, _, vs, _, dd⟩ := jT I.hok e
  exact dd.typeIs
 ·obtain ⟨_, _, xs, _, dd⟩ := jV I.hok e
  exact dd.typeIs
def Ac (td ty : TE) : TE := fun σ H Q => td σ H fun x H1 => ty σ H1 fun y H2 => ∃ a v, x = .ref a /\ DGet H2 a y (some v) /\ Q v H2
def Bg (ty td : TE) : TE := fun σ H Q => ty σ H fun y H1 => td σ H1 fun x H2 => ∃ a o, x = .ref a /\ DGet H2 a y o /\ Q (.bl o.isSome) H2
def wI (ty td : TE) : TE := fun σ H Q => ty σ H fun y H1 => td σ H1 fun x H2 => ∃ a o, x = .ref a /\ DGet H2 a y o /\ Q (.bl (!o.isSome)) H2
def Ad (td ty tv : TE) : TS := fun D σ H => tv σ H fun v H1 => td σ H1 fun x H2 => ty σ H2 fun y H3 => ∃ a H4, x = .ref a /\ DPut H3 a y v H4 /\ D.nx σ H4
def Ae (td ty tv : TE) (rd : V -> V -> Hp -> VK -> Prop) : TS := fun D σ H => td σ H fun x H1 => ty σ H1 fun y H2 => ∃ a v, x = .ref a /\ DGet H2 a y (some v) /\
 tv σ H2 fun y2 H3 => rd v y2 H3 fun z H4 => ∃ H5, DPut H4 a y z H5 /\ D.nx σ H5
section
variable {X : Cx} {o i e value : Expr} {pos pos' tpos : Pos} {td ty tv : TE}
theorem fN (hu : X.A.units + 1 < cLine) (ho : PE X o td) (hi : PE X i ty) (hs : Ab i) : PE X (.Subscript o i pos) (Ac td ty) := by
 intro pins s σ H Q I h
 refine wH PySem.F.slot_dict_getitem.lookup hs (bC (ho pins s σ H _ I h) fun u s1 h1 => ?_)
 obtain ⟨x, H1, I1, rx, q1⟩ := h1
 refine bC (hi pins s1 σ H1 _ I1 q1) fun iv s2 h2 => ?_
 obtain ⟨y, H2, I2, ry, a, v, ex, g, q2⟩ := h2
 subst ex
 obtain rfl : u = Value.ref a := rx
 exact ⟨oF I2 g, lN hu I2 g ry fun w' s3 I3 rw' => ⟨v, H2, I3, rw', q2⟩⟩
theorem yG (hu : X.A.units + 1 < cLine) (hi : PE X i ty) (ho : PE X o td) : PC X .In i o (Bg ty td) := by
 intro pins s σ H Q I h
 refine bC (hi pins s σ H _ I h) fun iv s1 ⟨y, H1, I1, ry, q1⟩ => bC (ho pins s1 σ H1 _ I1 q1) fun u s2 hq__ => ?_
 obtain ⟨x, H2, I2, rx, a, ov, ex, g, q2⟩ := hq__
 subst ex
 obtain rfl : u = Value.ref a := rx
 exact Bf hu I2 g ry fun s3 I3 => ⟨.bl ov.isSome, H2, I3, rfl, q2⟩
theorem iz (hu : X.A.units + 1 < cLine) (hi : PE X i ty) (ho : PE X o td) : PC X .NotIn i o (wI ty td) := by
 intro pins s σ H Q I h
 refine bC (hi pins s σ H _ I h) fun iv s1 h1 => ?_
 obtain ⟨y, H1, I1, ry, q1⟩ := h1
 refine bC (ho pins s1 σ H1 _ I1 q1) fun u s2 h2 => ?_
 obtain ⟨x, H2, I2, rx, a, ov, ex, g, q2⟩ := h2
 subst ex
 obtain rfl : u = Value.ref a := rx
 exact wG hu I2 g ry fun s3 I3 => ⟨.bl (!ov.isSome), H2, I3, rfl, q2⟩
theorem mV (hu : X.A.units + 1 < cLine) (ho : PE X o td) (hi : PE X i ty) (hv : PE X value tv) (hs : swapsWith value (some (.Subscript o i pos')) pos.line X.env = pure false) :
  PS X (.Assign [.Subscript o i pos'] value pos) (Ad td ty tv) := by
 intro pins s σ H D I h
 refine wpAny_Assign_Subscript (bC (hv pins s σ H _ I h) fun r s1 h1 => ?_) hs
 obtain ⟨v, H1, I1, rv, q1⟩ := h1
 refine bC (ho pins s1 σ H1 _ I1 q1) fun u s2 h2 => ?_
 obtain ⟨x, H2, I2, rx, q2⟩ := h2
 refine bC (hi pins s2 σ H2 _ I2 q2) fun iv s3 h3 => ?_
 obtain ⟨y, H3, I3, ry, a, H4, ex, g, q3⟩ := h3
 subst ex
 obtain rfl : u = Value.ref a := rx
 exact lO hu I3 g ry rv fun s4 I4 => ⟨σ, H4, I4, q3⟩
theorem wJ {op : Operator} {rd : V -> V -> Hp -> VK -> Prop} (hu : X.A.units + 1 < cLine) (ho : PE X o td) (hi : PE X i ty) (hv : PE X value tv) (hop : zS X op rd)
  (ha : ∀ ov iv new, augStore i ov iv new = (do holding [new, ov, iv] (setItem ov iv new); release [new, ov, iv] []; pure .next)) : PS X (.AugAssign (.Subscript o i tpos) op value pos) (Ae td ty tv rd) := by
 intro pins s σ H D I h
 refine wpAny_AugAssign_SubscriptAny (bC (ho pins s σ H _ I h) fun u s1 ⟨x, H1, I1, rx, q1⟩ => bC (hi pins s1 σ H1 _ I1 q1) fun iv s2 ⟨y, H2, I2, ry, a, v, ex, g, q2⟩ => ?_) ha
 subst ex
 obtain rfl : u = Value.ref a := rx
 refine lN hu I2 g ry fun w' s3 I3 rw' => bC (hv pins s3 σ H2 _ I3 q2) fun w2 s4 ⟨y2, H3, I4, ry2, q3⟩ => bC (hop pins s4 σ H3 v y2 w' w2 _ I4 rw' ry2 q3) fun w3 s5 hq__ => ?_
 obtain ⟨z, H4, I5, rz, H5, g5, q4⟩ := hq__
 exact lO hu I5 g5 ry rz fun s6 I6 => ⟨σ, H5, I6, q4⟩
end
theorem uu {P : Program} {w : World} {H : Hp} (h : Heap) (hb : sysModules < h.objs.size) : ObjOk P w H (h.push { cls := .type "dict", data := .dict #[] }) h.objs.size (.dK []) :=
 ⟨CK _, beq_eq_false_iff_ne.mpr (Ne.symm (Cy hb)), [], .nil, Heap.DictOf.new h⟩
def yH : TE := fun _ H Q => ∀ p, H p = none -> Q (.ref p) (az H p (.dK []))
section
variable {X : Cx} {pos : Pos}
theorem gL : PE X (.Dict [] [] pos) yH := fun pins s σ H Q I h =>
 wpAny_Dict_empty ⟨.ref s.heap.objs.size, _, I.laid (a := s.heap.objs.size) (o := .dK []) (t' := s.toks) (fun _ _ q => Heap.get?_push_of_some _ q) (Cg _) (uu s.heap I.big), rfl, h _ (I.hok.fresh (Cg _))⟩
end
structure M2 (X : Cx) (o : Expr) (m : Str) (apos : Pos) (e f : Expr) (cpos : Pos) : Prop where
 base : attributeBase o m X.env (eval o X.env) = eval o X.env
 few : ((backTo cpos (starEach [e, f] X.env)).all (fun x => !x.1) && (backToKw cpos (keywordEach [] X.env)).all (fun x => x.1.isSome)
  && decide (([e, f] : List Expr).length + ([] : List Keyword).length + (if ([] : List Keyword).isEmpty then 0 else 1) < 30)) = true
 line : (apos.endLine == cpos.line) = true
 trees : backTo cpos (starEach [e, f] X.env) = [(false, eval e X.env), (false, eval f X.env)]
def BH (H : Hp) (a : Addr) : Prop := (∃ kvs, Rd H a (.dK kvs)) \/ ∃ kvs, Rd H a (.dT kvs)
theorem yI {X : Cx} {pins : List (Addr × Obj)} {σ : St} {H : Hp} {s : Shared} {a : Addr} (I : Inv X pins σ H s) (d : BH H a) :
  s.TypeIs (.ref a) "dict" /\ (∀ b, Value.ref a = .ref b -> ∃ ob, s.heap.get? b = some ob /\ ob.dict = none) /\ (a == sysModules) = false := by
 rcases d with ⟨kvs, e⟩ | ⟨kvs, e⟩
 ·obtain ⟨_, hd, vs, _, dd⟩ := jT I.hok e
  refine ⟨dd.typeIs, fun b q => ?_, hd⟩
  cases q
  obtain ⟨ob, _, _, h1, h2, _⟩ := dd
  exact ⟨ob, h1, h2.2.1⟩
 ·obtain ⟨_, hd, xs, _, dd⟩ := jV I.hok e
  refine ⟨dd.typeIs, fun b q => ?_, hd⟩
  cases q
  obtain ⟨ob, _, _, h1, h2, _⟩ := dd
  exact ⟨ob, h1, h2.2.1⟩
section
variable {X : Cx} {pins : List (Addr × Obj)} {σ : St} {H : Hp} {s : Shared} {a : Addr} {y d : V} {u r : Value} {o : Option V} {A : Around} {E : Value -> Shared -> Prop}
theorem yJ {Q : Value -> Shared -> Prop} (hu : A.units + 1 < cLine) (I : Inv X pins σ H s) (g : DGet H a y o) (ry : RelV y u) (rd : RelV d r) (h : ∀ w' s', Inv X pins σ H s' -> RelV (o.getD d) w' -> Q w' s') :
  wpAny (model X.prog X.w) A (call (.builtin "dict.get") [.ref a, u, r]) Q E s := by
 rcases g with ⟨kvs, k, e, ey, l⟩ | ⟨kvs, k, b, e, ey, eb, l⟩
 ·subst ey
  obtain ⟨z, hd, vs, rel, dd⟩ := jT I.hok e
  refine call_meetsIn PySem.F.slot_dict_get dd.typeIs PySem.F.entry_dict_get (PySem.F.args_dict_get_3 _ _ _) (meets_dict_get_default (aH X.prog X.w) a (iZ ry) hd r) ⟨_, dd.mapOf, h _ _ (I.tok _) ?_⟩
  rw [l]
  exact (rel.val k).getD rd
 ·subst ey
  cases (show u = Value.ref b from ry)
  obtain ⟨z, hd, xs, rel, dd⟩ := jV I.hok e
  refine call_meetsIn PySem.F.slot_dict_get dd.typeIs PySem.F.entry_dict_get (PySem.F.args_dict_get_3 _ _ _) (meetsH_dict_get_default (tupleKind (aH X.prog X.w)) a b hd r) ⟨tupleKind_room_in1 hu, k, xs, iy I.hok eb, dd, h _ _ (I.tok _) ?_⟩
  rw [l]
  exact (rel.val k).getD rd
end
def yK (td ty tx : TE) : TE := fun σ H Q => td σ H fun x H1 => ∃ a, x = .ref a /\ BH H1 a /\ ty σ H1 fun y H2 => tx σ H2 fun z H3 => ∃ o, DGet H3 a y o /\ Q (o.getD z) H3
section
variable {X : Cx} {o e f : Expr} {apos cpos : Pos} {td ty tx : TE}
theorem uv (hu : X.A.units + 1 < cLine) (ho : PE X o td) (he : PE X e ty) (hf : PE X f tx) (m : M2 X o "get" apos e f cpos) : PE X (.Call (.Attribute o "get" apos) [e, f] [] cpos) (yK td ty tx) := by
 intro pins s σ H Q I h
 refine wpAny_Call_method m.base m.few m.line PySem.F.plainAttrs_dict PySem.F.slot_dict_get PySem.F.type_dict_get (bC (ho pins s σ H _ I h) fun u s1 hq__ => ?_)
 obtain ⟨x, H1, I1, rx, a, ex, d, q1⟩ := hq__
 subst ex
 obtain rfl : u = Value.ref a := rx
 obtain ⟨t1, t2, _⟩ := yI I1 d
 refine ⟨t1, t2, ?_⟩
 rw [m.trees]
 refine Calls.callWith_builtin rfl (Calls.evalArgs_plain (Calls.spliced_cons (bC (he pins s1 σ H1 _ I1 q1) fun iv s2 ⟨y, H2, I2, ry, q2⟩ =>
  Calls.spliced_cons (bC (hf pins s2 σ H2 _ I2 q2) fun fv s3 ⟨z, H3, I3, rz, ov, g, q3⟩ => Calls.spliced_nil ?_))))
 exact yJ hu I3 g ry rz fun w' s4 I4 rw' => ⟨_, H3, I4, rw', q3⟩
end
section
variable {X : Cx} {pins : List (Addr × Obj)} {σ : St} {H : Hp} {s : Shared} {a : Addr} {kvs : List (bw × V)} {A : Around} {E : Value -> Shared -> Prop}
end
section
variable {X : Cx} {pins : List (Addr × Obj)} {σ : St} {H : Hp} {s : Shared} {a : Addr} {y : V} {u : Value} {A : Around} {E : Value -> Shared -> Prop}
end
end L2
namespace Att
open PySem PySem.W PySem.Calls PyProof.Rows
theorem jn {P : Params} {h : Heap} : ∀ (ns : List Int) (vs : List Value), WellAll P h vs (ns.map WData.int) -> IntsAre vs ns := by
 intro ns
 induction ns with
 | nil =>
  intro vs w
  rw [Ed] at w
  cases w
  exact .nil
 | cons n ns ih =>
  intro vs w
  rw [Co] at w
  cases w with
  | cons a b =>
   cases a
   exact .cons _ _ (ih _ b)
theorem sF {l : OpenLaw} {n : Nat} (hn : l.most = some n) {P : Params} {h : Heap} {args : List WData} {vals : List Value}
  (hpre : l.row.toRowW.claim.pre args = true) (hwl : WellAll P h vals args) :
  ∃ a vs ns, vals = [Value.ref a] /\ args = [WData.list (ns.map WData.int)] /\ h.get? a = some { cls := .type "list", data := .seq vs.toArray } /\ IntsAre vs ns /\ ns.length <= n := by
 have hsh : WShape.hasAll [] args [.list .int] = true := (pre_splitW hpre).1
 have hc : l.pre.holds [] { args := args } = true := (pre_splitW hpre).2
 obtain ⟨d, r, rfl, h1, h2⟩ := hasAllW_cons hsh
 obtain rfl := hasAllW_nil h2
 obtain ⟨xs, rfl, h3⟩ := hasW_list h1
 obtain ⟨ns, rfl⟩ := items_int h3
 have hlen : ns.length <= n := by
  unfold OpenLaw.pre at hc
  have h4 : (WTm.not (.lt (.lit (.int (n : Int))) (.len (.arg 0)))).holds [] { args := [.list (ns.map .int)] } = true := by
   have h4 := (holds_andW hc).1
   rw [hn] at h4
   exact h4
  have h5 := condW_of h4 (w_not (w_lt w_lit (w_len_list (w_arg rfl))))
  rw [B9] at h5
  refine Dg fun q => ?_
  have q' : (n : Int) < ((ns.length : Nat) : Int) := by omega
  first
   | (rw [decide_eq_true q'] at h5; exact absurd h5 (by decide))
   | (simp at h5; omega)
 cases hwl with
 | cons w1 w2 =>
  cases w2
  cases w1 with
  | list ho hall => exact ⟨_, _, ns, rfl, rfl, ho, jn ns _ hall, hlen⟩
theorem sG (l : OpenLaw) (args : List WData) : l.row.toRowW.claim.post args (.bool true) args = true :=
 postW_of (r := l.row.toRowW) (X := (true == true))
  (show WShape.has [] (.bool true) .bool = true by first | rfl | decide | simp [WShape.has, WShape.arms, WShape.armsAll])
  (show (WTm.eq .res (.lit (.bool true))).value [] { args := args, res := some (.bool true), after := args } = some (.bool (true == true)) from w_eq_bool (w_res rfl) w_lit) rfl
theorem oG {l : OpenLaw} {n : Nat} {q : Program} {loose : List Str} {XP : (Str -> Option Value) -> Heap -> Prop} {YP : World -> Heap -> Prop} {d : DefRec}
  (hn : l.most = some n) (hdf : d.params.defaults = [])
  (call : ∀ (w : World) (s₀ s₁ : Shared) (mg mb : Str -> Option Value) (fa : Addr) (o : Obj) (pm cd doc : Value) (a : Addr) (vs : List Value) (ns : List Int),
   Ground q loose [] XP w s₀ mg mb s₁.heap -> YP w s₁.heap ->
   s₁.heap.get? fa = some o -> o.data = .func (docDef d.name d.params d.body d.scope pm cd doc) -> s₁.heap.CodeRec cd d.name -> mg d.name = some (.ref fa) ->
   s₁.heap.get? a = some { cls := .type "list", data := .seq vs.toArray } -> IntsAre vs ns -> ns.length <= n -> s₁.gens = #[] ->
   codeAny (model l.prog w) callerA (.call (.ref fa) ⟨[.ref a], []⟩) (fun r s' => r = .ok (.ret (.bool true)) /\ OldK s₁.heap s'.heap /\ s'.os = s₁.os /\ AllBare s'.gens) s₁) :
  WalkO q loose XP YP l.row.toRowW d [] (fun f vs => PySem.call f vs) := by
 intro w s₀ s₁ mg mb G Y fa o pm cd doc dV kV ho hd hcd hD hmg hg args vals as hpre hlay hrd hwl hlo
 obtain rfl : dV = .none := Dflts.none hD hdf
 obtain rfl : kV = .none := Dflts.noKw hD
 obtain ⟨a, vs, ns, rfl, rfl, hobj, hints, hlen⟩ := sF hn hpre hwl
 refine enter_call (codeAny_mono (call w s₀ s₁ mg mb fa o pm cd doc a vs ns G Y ho (fd_plain hd) hcd hmg hobj hints hlen hg) fun r s' hq => ?_)
 obtain ⟨rfl, h2, h3, h4⟩ := hq
 exact ⟨.inl ⟨.bool true, .bool true, [], rfl, fun _ => rfl, .bool true, sG l _, fun _ => ⟨List.Pairwise.nil, fun _ hm => (nomatch hm)⟩⟩, h2, h3, h4⟩
section
variable {prog : Program} {w : World} {A : Around} {E : Value -> Shared -> Prop} {s : Shared} {K : Frag}
end
end Att
namespace L2
open PySem PySem.Spec PyProof.Rows
theorem iA : ∀ {vs : List Value} {ns : List Int}, IntsAre vs ns -> Vals (ns.map V.int) vs := by
 intro vs ns h
 induction h with
 | nil => exact .nil
 | cons n t h ih => exact .cons ⟨t, rfl⟩ ih
def yL (H : Hp) : Prop := ∀ b, H b = none \/ ∃ o xs, H b = some (.frz o (.lst xs))
theorem uw {P : Program} {w : World} {K : PySem.W.Frag} {mg mb : Str -> Option Value} {CX : t9} {k : Nat} {fa a : Addr} {fd : FuncData} {x : Str} {sp : Sp} {s₁ : Shared} {vs : List Value} {ns : List Int}
  (KX : K.In s₁.heap) (hns : s₁.heap.Ns mainGlobals mg) (hb : s₁.heap.Ns builtinsNs mb) (hbb : ∀ x : Str, x ≠ "__name__" -> mb x = bootBuiltins x) (hlim : s₁.heap.NoLimit) (hg : s₁.gens = #[])
  (ha : s₁.heap.get? a = some { cls := .type "list", data := .seq vs.toArray }) (hi : IntsAre vs ns) (hl : ns.length <= sizeLine) (hr : Room k callerA)
  (F : ∀ base : Heap, K.In base -> base.Ns mainGlobals mg -> FnOk P w K mg base CX k fa fd [x] sp) (hbind : ∀ (s : Shared) (u : Value), BindsTo s fd ⟨[u], []⟩ [(x, u)])
  (hsp : ∀ H : Hp, yL H -> SqL K H a (ns.map V.int) -> sp [.ref a] H (fun v _ => v = .bl true) fun _ _ _ => False)
  (hCX : ∀ H e s', CX [] H s₁ (fun _ _ _ => False) e s' -> False) :
  codeAny (model P w) callerA (.call (.ref fa) ⟨[.ref a], []⟩) (fun r s' => r = .ok (.ret (.bool true)) /\ OldK s₁.heap s'.heap /\ s'.os = s₁.os /\ AllBare s'.gens) s₁ := by
 have rv := iA hi
 have lenV := hi.length
 have core : ∀ H : Hp, yL H -> SqL K H a (ns.map V.int) -> HOk P w H s₁.heap -> (∀ b, H b ≠ none -> b = a) -> (H a ≠ none -> K.lookup a = none) ->
   codeAny (model P w) callerA (.call (.ref fa) ⟨[.ref a], []⟩) (fun r s' => r = .ok (.ret (.bool true)) /\ OldK s₁.heap s'.heap /\ s'.os = s₁.os /\ AllBare s'.gens) s₁ := by
  intro H hO hS hok hA hK
  have base_of : ∀ {b : Addr} {o : Obj}, s₁.heap.get? b = some o -> H b = none -> (mI s₁.heap H).get? b = some o := fun e n => ub e n
  have noA : ∀ {b : Addr} {o : Obj} {es : Array DictEntry} {ep : Nat}, s₁.heap.get? b = some o -> o.data = .dict es ep -> H b = none := fun {b o es ep} e d => by
   cases q : H b with
   | none => rfl
   | some u =>
    have e' : b = a := hA b (by rw [q]; simp)
    subst e'
    rw [ha] at e; cases e
    have d' : Data.seq vs.toArray _ = Data.dict es ep := d
    cases d'
  have nsK : ∀ {b : Addr} {m : Str -> Option Value}, s₁.heap.Ns b m -> (mI s₁.heap H).Ns b m := fun {b m} ⟨o, es, ep, e, d, r⟩ => ⟨o, es, ep, base_of e (noA e d), d, r⟩
  have hKb : K.In (mI s₁.heap H) := fun b o e => base_of (KX b o e) (by
   cases q : H b with
   | none => rfl
   | some u =>
    have e' : b = a := hA b (by rw [q]; simp)
    subst e'
    rw [hK (by rw [q]; simp)] at e; cases e)
  have hM : Mod K mg (mI s₁.heap H) := ⟨hKb, nsK hns, ⟨mb, nsK hb, hbb⟩, let ⟨mc, h1, h2⟩ := hlim; ⟨mc, nsK h1, h2⟩⟩
  have e0 : Env0 P w K mg (mI s₁.heap H) callerA [] s₁ H := ⟨rfl, hM, fun b o e => v8 e, Nat.le_of_eq (rY _ _), trivial, fun b hb => absurd (show b ∈ ([] : List Addr) from hb) (by simp), hok, .of_eq hg⟩
  refine codeAny_mono ((F _ hKb (nsK hns)).run callerA [] s₁ H ⟨[.ref a], []⟩ [.ref a] [.ref a] _ _ hr e0 (hbind s₁ (.ref a)) (.cons rfl .nil) (hsp H hO hS)) fun r s' h => ?_
  cases r with
  | error e => exact (hCX H e s' h).elim
  | ok fl =>
   cases fl with
   | next => exact False.elim h
   | brk => exact False.elim h
   | cont => exact False.elim h
   | ret u =>
    obtain ⟨v, H', os, bare, un, hok', r', q⟩ := h
    have q' : v = .bl true := q
    subst q'
    obtain rfl : u = Value.bool true := r'
    refine ⟨rfl, OldK.of_keep fun b o e => ?_, os, bare⟩
    cases q : H b with
    | none => exact un.keep b o e q (by intro z; exact absurd (show b ∈ ([] : List Addr) from z) (by simp)) (by simp)
    | some u =>
     rcases hO b with z | ⟨ob, xs, z⟩
     ·rw [q] at z; cases z
     ·have z2 := un.frzs b ob _ z
      obtain ⟨e1, _⟩ := hok b _ z
      obtain ⟨e2, _⟩ := hok' b _ z2
      rw [e] at e1; cases e1
      exact e2
 cases hk : K.lookup a with
 | some o =>
  have e := KX a o hk
  rw [ha] at e
  cases e
  refine core (fun _ => none) (fun _ => .inl rfl) (.inr ⟨_, vs.toArray, _, hk, rfl, rfl, rfl, by rw [Cs, lenV]; exact hl, by simpa using rv⟩) (fun b u z => by have z' : (none : Option HO) = some u := z; cases z') (fun b z => absurd rfl z) fun z => absurd rfl z
 | none =>
  refine core (fun b => if b = a then some (.frz { cls := .type "list", data := .seq vs.toArray } (.lst (ns.map V.int))) else none) (fun b => ?_) (.inl (.inr ⟨{ cls := .type "list", data := .seq vs.toArray }, if_pos rfl⟩)) (fun b u z => ?_) (fun b z => ?_) fun _ => hk
  ·by_cases hb : b = a
   ·exact .inr ⟨_, _, if_pos hb⟩
   ·exact .inl (if_neg hb)
  ·by_cases hb : b = a
   ·have z' := (if_pos hb).symm.trans z
    cases z'
    subst hb
    exact ⟨ha, by rw [B9]; exact hl, vs, _, rv, ha⟩
   ·have z' := (if_neg hb).symm.trans z
    cases z'
  ·by_cases hb : b = a
   ·exact hb
   ·exact absurd (if_neg hb) z
abbrev B8 {K : PySem.W.Frag} {h : Heap} (_ : K.In h) : PySem.W.Frag := K
theorem wK {l : PySem.W.OpenLaw} {n k : Nat} {q : Program} {loose : List Str} {XP : (Str -> Option Value) -> Heap -> Prop} {YP : World -> Heap -> Prop} {d : DefRec} {K : Params -> PySem.W.Frag} {CX : World -> t9} {sp : World -> Sp} {x : Str}
  (hn : l.most = some n) (hn2 : n <= sizeLine) (hdf : d.params.defaults = []) (hr : Room k callerA)
  (hY : ∀ (w : World) (h : Heap), YP w h -> (K w.params).In h)
  (F : ∀ (w : World) (mg : Str -> Option Value) (fa : Addr) (h : Heap), (K w.params).In h -> h.Ns mainGlobals mg -> mg d.name = some (.ref fa) ->
   ∃ fd : FuncData, (∀ (s : Shared) (u : Value), BindsTo s fd ⟨[u], []⟩ [(x, u)]) /\
    ∀ base : Heap, (K w.params).In base -> base.Ns mainGlobals mg -> FnOk l.prog w (K w.params) mg base (CX w) k fa fd [x] (sp w))
  (hsp : ∀ (w : World) (H : Hp) (a : Addr) (ns : List Int), ns.length <= n -> yL H -> SqL (K w.params) H a (ns.map V.int) -> sp w [.ref a] H (fun v _ => v = .bl true) fun _ _ _ => False)
  (hCX : ∀ (w : World) (H : Hp) (s : Shared) (e : Value) (s' : Shared), CX w [] H s (fun _ _ _ => False) e s' -> False) :
  PySem.W.WalkO q loose XP YP l.row.toRowW d [] (fun f vs => PySem.call f vs) := by
 refine Att.oG hn hdf fun w s₀ s₁ mg mb fa o pm cd doc a vs ns G Y ho hd hcd hmg hobj hints hlen hg => ?_
 have KX := hY w _ Y
 obtain ⟨fd, hb, hF⟩ := F w mg fa _ KX G.T.g hmg
 exact uw KX G.T.g G.T.b G.T.builtins G.T.nolimit hg hobj hints (CO hlen hn2) hr hF hb (fun H hO hS => hsp w H a ns hlen hO hS) fun H e s' => hCX w H s₁ e s'
def eF (s : Stmt) : Arguments := match s with
 | .FunctionDef _ a _ _ _ _ _ _ _ _ => a
 | _ => { posonlyargs := [], args := [], vararg := none, kwonlyargs := [], kw_defaults := [], kwarg := none, defaults := [] }
def dC (s : Stmt) : List Stmt := match s with
 | .FunctionDef _ _ b _ _ _ _ _ _ _ => b
 | _ => []
def aq (s : Stmt) : Scope := match s with
 | .FunctionDef _ _ _ _ _ _ sc _ _ _ => sc
 | _ => { kind := .function, names := [], isGenerator := false, isCoroutine := false }
abbrev aZ : t9 := fun _ _ _ _ _ _ => False
abbrev E0 : XK := fun _ _ _ => False
theorem Af {X : Cx} : pX aZ X E0 := fun _ _ _ _ _ _ _ h => h.elim
structure Fun (K : PySem.W.Frag) (x qual : Str) (st : Stmt) (f : Addr) (fd : FuncData) : Prop where
 ex : ∃ (oc : Value) (od : Option Addr) (kV doc pm : Value) (an : Option Addr) (cdv ct : Value) (osl : Array (Option Value)),
  fd = PySem.W.fnOf x qual (eF st) (dC st) (aq st) .none kV doc pm an cdv ct /\ K.lookup f = some ⟨oc, od, .func fd, osl⟩ /\ PySem.W.codeIn K cdv qual = true
 kp : PySem.W.keepIn K (.ref f) = true
section
variable {P : Program} {w : World} {K : PySem.W.Frag} {mg : Str -> Option Value} {base : Heap}
theorem Fun.ok {x qual : Str} {st : Stmt} {f : Addr} {fd : FuncData} {N ps : List Str} {k : Nat} {sp : Sp} (F : Fun K x qual st f fd) (S : FnScope N ps (aq st)) (len : ∀ vs H Q E, sp vs H Q E -> vs.length = ps.length)
  (hbody : ∀ (cdv : Value) (A : Around) (outer : List Env) (s : Shared) (H : Hp) (vs : List V) (Q : VK) (E : XK), Room k (A.deeper (envOfC qual (aq st) s.heap.objs.size f cdv)) -> sp vs H Q E ->
   ∃ t, PSs (oA aZ P w K mg base N qual (aq st) f cdv A outer s H E).nox (dC st) t /\ t { nx := fun _ H' => Q .non H', rt := Q } (iY N vs) H) : FnOk P w K mg base aZ (k + 1) f fd ps sp := by
 obtain ⟨oc, od, kV, doc, pm, an, cdv, ct, osl, rfl, lk, hcd⟩ := F.ex
 refine zU lk hcd S len fun A outer s H vs Q E hr hsp => ?_
 obtain ⟨t, h, q⟩ := hbody cdv A outer s H vs Q E hr hsp
 exact ⟨t, h.nox, q⟩
theorem Fun.binds {x qual : Str} {st : Stmt} {f : Addr} {fd : FuncData} {ps : List Str} (F : Fun K x qual st f fd)
  (h : ∀ (kV doc pm : Value) (an : Option Addr) (cdv ct : Value) (us : List Value), us.length = ps.length -> bindArgs (PySem.W.fnOf x qual (eF st) (dC st) (aq st) .none kV doc pm an cdv ct) ⟨us, []⟩ = pure (ps.zip us)) : Binds K fd ps [] := by
 obtain ⟨oc, od, kV, doc, pm, an, cdv, ct, osl, rfl, lk, hcd⟩ := F.ex
 exact .all (h kV doc pm an cdv ct)
theorem yM {x qual : Str} {st : Stmt} {f : Addr} {oc : Value} {od an : Option Addr} {osl : Array (Option Value)} {kV doc pm cdv ct : Value} (l : K.lookup f = some ⟨oc, od, .func (PySem.W.fnOf x qual (eF st) (dC st) (aq st) .none kV doc pm an cdv ct), osl⟩)
 (c : PySem.W.codeIn K cdv qual = true) (k : PySem.W.keepIn K (.ref f) = true) : Fun K x qual st f (PySem.W.fnOf x qual (eF st) (dC st) (aq st) .none kV doc pm an cdv ct) := ⟨⟨oc, od, kV, doc, pm, an, cdv, ct, osl, rfl, l, c⟩, k⟩
end
theorem aV {A : Around} {k : Nat} (hr : Room k A) : A.units + 1 < cLine := En (Ey (by decide : 1 <= 64) _) hr.units
theorem lP {n : Nat} (h : n <= 1000) : n < sizeLine := En h (by decide)
section
variable {X : Cx}
theorem pv (i : Nat) {x : Str} {pos : Pos} (hN : X.N[i]? = some x := by rfl) (hv : AG X.env.scope x := by first | exact Or.inl rfl | exact Or.inr (Or.inl rfl) | exact Or.inr (Or.inr rfl)) (hd : (x == ("__debug__" : Str)) = false := by decide)
 (hcd : (x == ("__classdict__" : Str)) = false := by decide) : PE X (.Name x pos) (zA i) := yp hN hv hd hcd
end
theorem bz {A B : Prop} (h : B) : if false = true then A else B := by
 rw [if_neg Ct]
 exact h
theorem bH {A B : Prop} (h : A) : if true = true then A else B := by
 rw [if_pos rfl]
 exact h
def Same (H H' : Hp) : Prop := ∀ b o, H b = some o -> H' b = some o
theorem Same.refl (H : Hp) : Same H H := fun _ _ h => h
theorem Same.trans {H H1 H2 : Hp} (a : Same H H1) (b : Same H1 H2) : Same H H2 := fun c o h => b c o (a c o h)
theorem Same.free {H H' : Hp} (e : Same H H') {l : Addr} (h : H' l = Option.none) : H l = Option.none := by
 cases q : H l with
 | none => rfl
 | some o =>
  rw [e l o q] at h
  cases h
theorem Same.seq {K : PySem.W.Frag} {H H' : Hp} {a : Addr} {xs : List V} (e : Same H H') (h : SqL K H a xs) : SqL K H' a xs := by
 rcases h with (h | ⟨o, h⟩) | h
 ·exact .inl (.inl (e _ _ h))
 ·exact .inl (.inr ⟨o, e _ _ h⟩)
 ·exact .inr h
section
variable {κ : Type} [DecidableEq κ]
theorem uy {kvs : List (κ × V)} {k : κ} (h : a8 kvs k = none) : ¬ k ∈ kvs.map (·.1) := by
 intro m
 obtain ⟨p, hp, e⟩ := Ci.mp m
 have q : (kvs.any fun kv => decide (kv.1 = k)) = true := Es.mpr ⟨p, hp, decide_eq_true e⟩
 rw [b9, h] at q
 exact absurd q (by simp)
theorem eG {l : List κ} {k : κ} (h : l.Nodup) (n : ¬ k ∈ l) : (l ++ [k]).Nodup := DM.mpr ⟨h, DE _ _, fun a ha b hb e => n (by rw [<- Cm.mp hb, <- e]; exact ha)⟩
theorem wL {kvs : List (κ × V)} {k : κ} (v : V) (hn : (kvs.map (·.1)).Nodup) (h : a8 kvs k = none) : ((b3 kvs k v).map (·.1)).Nodup := by
 rw [ur v h, Cn]
 exact eG hn (uy h)
end
structure BA where
 cl : List (Str × Addr)
 C : Addr
 s₀ : Shared
 H₀ : Hp
 ex : List Addr
abbrev k7 (X : Cx) (sc : Scope) (N : List Str) (b : BA) : Cx :=
 { prog := X.prog, w := X.w, K := X.K, mg := X.mg, base := X.base, A := X.A, N := N, s₀ := b.s₀, H₀ := b.H₀, env := compEnvC sc b.cl b.C X.env, outer := X.stack, stack := X.stack, ex := b.ex, fn := fun _ => false, calm := X.calm, pn := [], xe := fun _ _ => False }
def bT (env : Env) : List (Str × Addr) -> List (Str × NameKind) -> List (Str × Addr)
 | acc, [] => acc
 | acc, (n, k) :: r => bT env (if k == .free then (match env.cells.lookup n with | some c => (n, c) :: acc | none => acc) else acc) r
theorem uz (env : Env) : ∀ (l : List (Str × NameKind)) (acc : List (Str × Addr)), (∀ y ∈ l, y.2 = .free -> ∃ c, env.cells.lookup y.1 = some c) ->
  (forIn l acc (fun (x : Str × NameKind) (cs : List (Str × Addr)) => (match x with
   | (name, kind) => if (kind == .free) = true then (do let a <- cellOf env name; pure (ForInStep.yield ((name, a) :: cs))) else pure (ForInStep.yield cs) : Sem (ForInStep (List (Str × Addr)))))) = (pure (bT env acc l) : Sem (List (Str × Addr))) := by
 intro l
 induction l with
 | nil => intro acc _; rfl
 | cons nk r ih =>
  obtain ⟨n, k⟩ := nk
  intro acc h
  have hr : ∀ y ∈ r, y.2 = .free -> ∃ c, env.cells.lookup y.1 = some c := fun y hy => h y (Cz _ hy)
  rw [List.forIn_cons]
  by_cases hk : k = .free
  ·subst hk
   obtain ⟨c, hc⟩ := h (n, .free) CM rfl
   have hc' : env.cells.lookup n = some c := hc
   simp only [beq_self_eq_true, if_true, bT, hc']
   have e : cellOf env n = pure c := by unfold cellOf; rw [hc']
   rw [e, pure_bind, pure_bind]
   exact ih _ hr
  ·have hb : (k == NameKind.free) = false := by simpa using hk
   simp only [hb, Df, if_false, bT]
   rw [pure_bind]
   exact ih _ hr
theorem wM {env : Env} {sc : Scope} (h : ∀ y ∈ sc.names, y.2 = .free -> ∃ c, env.cells.lookup y.1 = some c) : closureFor sc env = pure (bT env [] sc.names) := by
 unfold closureFor
 exact (congrArg (fun m => m >>= fun cs => pure cs) (uz env sc.names [] h)).trans (pure_bind _ _)
theorem cM {env : Env} : ∀ (l : List (Str × NameKind)) (acc : List (Str × Addr)), (∀ x c, acc.lookup x = some c -> env.cells.lookup x = some c) ->
  ∀ x c, (bT env acc l).lookup x = some c -> env.cells.lookup x = some c := by
 intro l
 induction l with
 | nil => intro acc h x c e; exact h x c e
 | cons nk r ih =>
  obtain ⟨n, k⟩ := nk
  intro acc h x c e
  refine ih _ (fun y d q => ?_) x c e
  by_cases hk : (k == NameKind.free) = true
  ·rw [if_pos hk] at q
   cases hl : env.cells.lookup n with
   | none => rw [hl] at q; exact h y d q
   | some a =>
    rw [hl] at q
    simp only [C3] at q
    by_cases hy : (y == n) = true
    ·rw [hy] at q
     have e1 : y = n := by simpa using hy
     subst e1
     cases q
     exact hl
    ·rw [Dz] at hy
     rw [hy] at q
     exact h y d q
  ·rw [if_neg hk] at q
   exact h y d q
theorem lQ {env : Env} : ∀ (l : List (Str × NameKind)) (acc : List (Str × Addr)) (x : Str), (acc.lookup x).isSome = true -> ((bT env acc l).lookup x).isSome = true
 | [], acc, x, h => h
 | (n, k) :: r, acc, x, h => by
  refine lQ r _ x ?_
  by_cases hk : (k == NameKind.free) = true
  ·rw [if_pos hk]
   cases env.cells.lookup n with
   | none => exact h
   | some a =>
    show (List.lookup x ((n, a) :: acc)).isSome = true
    rw [C3]
    by_cases hy : (x == n) = true
    ·rw [hy]; rfl
    ·rw [Dz] at hy
     rw [hy]; exact h
  ·rw [if_neg hk]; exact h
theorem lR {env : Env} (l : List (Str × NameKind)) (acc : List (Str × Addr)) (x : Str) (h : (x, NameKind.free) ∈ l) (q : ∃ c, env.cells.lookup x = some c) : ((bT env acc l).lookup x).isSome = true := by
 obtain ⟨c, hc⟩ := q
 induction l generalizing acc with
 | nil => cases h
 | cons p r ih =>
  rcases Cr.mp h with e | h
  ·subst e
   refine lQ r _ x ?_
   rw [if_pos (beq_self_eq_true _), hc]
   show (List.lookup x ((x, c) :: acc)).isSome = true
   rw [C3, beq_self_eq_true]; rfl
  ·exact ih _ h
theorem jW {env : Env} : ∀ (l : List (Str × NameKind)) (x : Str) (k : NameKind), (∀ y ∈ l, y.2 ≠ .cell) -> k = .cell \/ k = .free ->
  (l.map fun (n, k) => if (k == NameKind.free && env.scope.kind == .function && env.kindOf n == some .cell) then (n, NameKind.cell) else (n, k)).lookup x = some k -> (x, NameKind.free) ∈ l := by
 intro l
 induction l with
 | nil => intro _ _ _ _ h; simp at h
 | cons nk r ih =>
  obtain ⟨n, k'⟩ := nk
  intro x k hc hk h
  rw [Co] at h
  by_cases hx : (x == n) = true
  ·have e1 : x = n := by simpa using hx
   subst e1
   by_cases hf : k' = .free
   ·subst hf; exact CM
   ·exfalso
    have hb : (k' == NameKind.free) = false := by simpa using hf
    simp only [hb, EG, Df, if_false, C3, beq_self_eq_true] at h
    have e2 : k' = k := Option.some.inj h
    rcases hk with z | z
    ·exact hc (x, k') CM (e2.trans z)
    ·exact hf (e2.trans z)
  ·rw [Dz] at hx
   refine Cz _ (ih x k (fun y hy => hc y (Cz _ hy)) hk ?_)
   by_cases hq : (k' == NameKind.free && env.scope.kind == .function && env.kindOf n == some .cell) = true
   ·simp only [hq, if_true, C3, hx] at h; exact h
   ·rw [Dz] at hq
    simp only [hq, Df, if_false, C3, hx] at h; exact h
theorem k8 {env : Env} : ∀ (l : List (Str × NameKind)) (x : Str), l.lookup x = some .free ->
  ∃ k, (k = NameKind.cell \/ k = NameKind.free) /\ (l.map fun (n, k) => if (k == NameKind.free && env.scope.kind == .function && env.kindOf n == some .cell) then (n, NameKind.cell) else (n, k)).lookup x = some k := by
 intro l
 induction l with
 | nil => intro _ h; simp at h
 | cons nk r ih =>
  obtain ⟨n, k'⟩ := nk
  intro x h
  rw [Co]
  by_cases hx : (x == n) = true
  ·simp only [C3, hx] at h
   have e2 : k' = .free := Option.some.inj h
   subst e2
   by_cases hq : (NameKind.free == NameKind.free && env.scope.kind == .function && env.kindOf n == some .cell) = true
   ·exact ⟨.cell, .inl rfl, by simp only [hq, if_true, C3, hx]⟩
   ·rw [Dz] at hq
    exact ⟨.free, .inr rfl, by simp only [hq, Df, if_false, C3, hx]⟩
  ·rw [Dz] at hx
   simp only [C3, hx] at h
   obtain ⟨k, hk, e⟩ := ih x h
   refine ⟨k, hk, ?_⟩
   by_cases hq : (k' == NameKind.free && env.scope.kind == .function && env.kindOf n == some .cell) = true
   ·simp only [hq, if_true, C3, hx]; exact e
   ·rw [Dz] at hq
    simp only [hq, Df, if_false, C3, hx]; exact e
theorem oH {l : List (Str × NameKind)} {x : Str} {k : NameKind} : l.lookup x = some k -> (x, k) ∈ l := by
 induction l with
 | nil => intro h; simp at h
 | cons p r ih =>
  intro h
  obtain ⟨n, k'⟩ := p
  by_cases hx : (x == n) = true
  ·simp only [C3, hx] at h
   have e1 : x = n := by simpa using hx
   subst e1
   cases h
   exact CM
  ·rw [Dz] at hx
   simp only [C3, hx] at h
   exact Cz _ (ih h)
section
variable {prog : Program} {w : World} {A : Around} {E : Value -> Shared -> Prop} {R : Result -> Shared -> Prop} {s : Shared}
abbrev x9 : Value -> Shared -> Prop := fun _ _ => False
theorem qf {elt target iter : Expr} {ifs : List Expr} {scope : Scope} {pos : Pos} {it acc : Value} {env : Env} (J : Nat -> Shared -> Prop)
  (turn : ∀ n s, J n s -> wpAny (model prog w) A (pyNext it) (fun r s₁ => (r = none /\ R (.ok .next) s₁) \/ ∃ v, r = some v /\
   wpAny (model prog w) A (letOwnedTupleGo target it v) (fun _ s₁' => wpAny (model prog w) A (assign target env v) (fun _ s₂ =>
    wpAny (model prog w) A (forIn ifs true fun c r => if r = true then do let ok <- isTrue c env (eval c env); pure (ForInStep.yield ok) else pure (ForInStep.yield r)) (fun ok s₃ =>
     (ok = true -> wpAny (model prog w) A (eval elt env) (fun x s₄ => wpAny (model prog w) A (call (.builtin "list.append") [acc, x]) (fun _ s₅ => ∃ m, m < n /\ J m s₅) x9 s₄) x9 s₃) /\
     (ok = false -> ∃ m, m < n /\ J m s₃)) x9 s₂) x9 s₁') x9 s₁) x9 s)
  (n : Nat) (h : J n s) : codeAny (model prog w) A (.compLoop (.ListComp elt [⟨target, iter, ifs, 0⟩] scope pos) 0 it acc env) R s := by
 refine codeAny_loop (M := model prog w) (A := A) rfl J (fun n s hJ => ?_) n h
 refine wpAny_noted (m := compTurn (.ListComp elt [⟨target, iter, ifs, 0⟩] scope pos) 0 it acc env) ?_
 rw [compTurn_list]
 refine wpAny_bind (wpAny_standAt (wpAny_bind (wpAny_mono (turn n s hJ) (fun r s₁ q => ?_) fun _ _ z => z.elim)))
 rcases q with ⟨e, q⟩ | ⟨v, e, q⟩
 ·subst e
  exact wpAny_pure q
 ·subst e
  refine wpAny_bind (wpAny_mono q (fun _ s₂ q => ?_) fun _ _ z => z.elim)
  refine wpAny_bind (wpAny_mono q (fun _ s₃ q => ?_) fun _ _ z => z.elim)
  refine wpAny_bind (wpAny_mono q (fun ok s₄ q => ?_) fun _ _ z => z.elim)
  cases ok with
  | false => exact wpAny_pure ⟨rfl, q.2 rfl⟩
  | true =>
   refine wpAny_bind (wpAny_bind (wpAny_mono (q.1 rfl) (fun x s₅ q => ?_) fun _ _ z => z.elim))
   exact wpAny_bind (wpAny_mono q (fun _ s₆ q => wpAny_pure (wpAny_pure ⟨rfl, q⟩)) fun _ _ z => z.elim)
end
def zv (X : Cx) (ifs : List Expr) (t : TT) : Prop :=
 ∀ (pins : List (Addr × Obj)) (s : Shared) (σ : St) (H : Hp) (Q : Bool -> Hp -> Prop), Inv X pins σ H s -> t σ H Q ->
  wpAny (model X.prog X.w) X.A (forIn ifs true fun c r => if r = true then do let ok <- isTrue c X.env (eval c X.env); pure (ForInStep.yield ok) else pure (ForInStep.yield r)) (TP X pins σ Q) X.xe s
def eI : TT := fun _ H Q => Q true H
theorem a9 {X : Cx} : zv X [] eI := fun _ _ _ H _ I h => wpAny_tests_nil ⟨H, I, h⟩
theorem fO {X : Cx} {c : Expr} {t : TT} (h : PT X c t) : zv X [c] t := fun pins s σ H Q I hw => wpAny_tests_one (h pins s σ H Q I hw)
def bX (σ : St) (js : List (Option Nat)) : St := js.map fun j => j.bind fun i => (σ[i]?).join
def wN (σ σ' : St) : Prop := σ'.length = σ.length /\ ∀ (i : Nat) v, σ[i]? = some (some v) -> σ'[i]? = some (some v)
def cg (J : It) (H1 : Hp) (js : List (Option Nat)) (g : TG) (tc : TT) (te : TE) (σ : St) (Q : VK) : Prop := ∀ acc, H1 acc = none ->
 ∃ W : Nat -> Nat -> List V -> Hp -> Prop, (∃ m, W 0 m [] (az H1 acc (.lst []))) /\ ∀ i m ys H, W i m ys H ->
  (J.stop i H /\ Q (.ref acc) H) \/ (J.go i H /\ ∃ N : List V -> Hp -> Prop, (∀ ys' H', N ys' H' -> ∃ m', m' < m /\ W (i + 1) m' ys' H') /\
   ∀ x H', J.yld i H x H' -> g x (bX σ js) H' fun σ2 H2 => wN (bX σ js) σ2 /\ tc σ2 H2 fun b H3 =>
    (b = true -> te σ2 H3 fun y H4 => H4 acc = some (.lst ys) /\ ys.length < sizeLine /\ N (ys ++ [y]) (az H4 acc (.lst (ys ++ [y])))) /\ (b = false -> N ys H3))
def uA (wi : TI) (js : List (Option Nat)) (g : TG) (tc : TT) (te : TE) : TE := fun σ H Q => wi σ H fun J H1 => cg J H1 js g tc te σ Q
theorem Un.but {fs ex : List Addr} {H H1 : Hp} {h h1 h2 : Heap} (u : Un fs ex H H1 h h1) (k : ∀ b o, h.get? b = some o -> ∀ o', h1.get? b = some o' -> h2.get? b = some o') : Un fs ex H H1 h h2 where
 keep := fun b o e n h1 h2 => k b o e _ (u.keep b o e n h1 h2)
 slot := fun b o e n h1 h2 => let ⟨sl, q⟩ := u.slot b o e n h1 h2; ⟨sl, k b o e _ q⟩
 free := u.free
 there := fun b o e hx => let ⟨o', q⟩ := u.there b o e hx; ⟨o', k b o e _ q⟩
 tups := u.tups
 frzs := u.frzs
 tbls := u.tbls
theorem zw {P : Program} {w : World} {H : Hp} {h h' : Heap} {C : Addr} (ok : HOk P w H h) (hn : H C = none) (k : ∀ b o, b ≠ C -> h.get? b = some o -> h'.get? b = some o) : HOk P w H h' := fun b o e => by
 refine (ok b o e).stay (fun c u hc q => k c u ?_ q) (fun _ q => q) fun _ _ q => q
 rintro rfl
 rcases hc with z | z
 ·rw [z] at hn; rw [hn] at e; cases e
 ·rw [hn] at z; cases z
theorem cj {α β : Type} {F : α -> β -> Prop} : ∀ {l : List α} {r : List β} {i : Nat} {b : β}, Paired F l r -> r[i]? = some b -> ∃ a, l[i]? = some a /\ F a b := by
 intro l r i b h
 induction h generalizing i with
 | nil => intro e; simp at e
 | cons r t ih =>
  intro e
  cases i with
  | zero => cases e; exact ⟨_, rfl, r⟩
  | succ i => exact ih e
theorem yN {X : Cx} {pins : List (Addr × Obj)} {σ : St} {H : Hp} {s : Shared} {sc : Scope} {N : List Str} {fp : List Addr} (I : Inv X pins σ H s) (hk : sc.kind = .function)
  (hcell : ∀ y ∈ sc.names, y.2 ≠ .cell) (hcl : ∀ y ∈ sc.names, y.2 = .free -> ∃ c, X.env.cells.lookup y.1 = some c) (f : ∀ b ∈ fp, mM X pins H b) (fl : ∀ b ∈ fp, b < s.heap.objs.size) :
  (k7 X sc N ⟨bT X.env [] sc.names, s.heap.objs.size, s, H, fp⟩).Ok where
 mod := I.ok.mod
 kind := hk
 glob := I.ok.glob
 blt := I.ok.blt
 above := Cg _
 inj := fun x y c e1 e2 => I.ok.inj x y c (cM _ [] (fun _ _ z => by simp at z) x c e1) (cM _ [] (fun _ _ z => by simp at z) y c e2)
 has := fun x hx => by
  have m : (x, NameKind.free) ∈ sc.names := by
   rcases hx with z | z
   ·exact jW (env := X.env) sc.names x _ hcell (.inl rfl) z
   ·exact jW (env := X.env) sc.names x _ hcell (.inr rfl) z
  exact Dh.mp (lR sc.names [] x m (hcl _ m rfl))
 cab := fun _ _ z => by cases z
 hd := I.ok.hd
 frames := I.ok.frames
 stk := .inl rfl
 exf := fun b hb => ⟨Cy (fl b hb), fun x c e => (f b hb).2.2.2.2.1 x c (cM _ [] (fun _ _ z => by simp at z) x c e)⟩
 bs := I.bs
 bsz := CO I.ok.bsz I.sz
 noex := fun b o e hb => by
  rcases (f b hb).2.2.2.1 with z | z
  ·exact I.ok.noex b o e z
  ·exact absurd (CH (Heap.lt_size (I.ok.bs b o e).1) z) (DC _)
 exfs := fun b hb hs => by
  rcases Cr.mp (I.stkSub b hs) with z | z
  ·exact (f b hb).2.1 z
  ·exact (f b hb).2.2.1 z
 funs := I.stack
 frf := I.stkFree
theorem wO {X : Cx} {pins : List (Addr × Obj)} {σ : St} {H : Hp} {s s4 : Shared} {sc : Scope} {N : List Str} {js : List (Option Nat)} {fp : List Addr} {m : Str -> Option Value} (I : Inv X pins σ H s)
  (ok : (k7 X sc N ⟨bT X.env [] sc.names, s.heap.objs.size, s, H, fp⟩).Ok) (hfree : ∀ y ∈ sc.names, y.2 = .free -> X.env.kindOf y.1 = some .cell \/ X.env.kindOf y.1 = some .free)
  (hN : Paired (fun (j : Option Nat) n => ∀ i, j = some i -> X.N[i]? = some n /\ sc.names.lookup n = some .free) js N)
  (ho : s4.os = s.os) (hg : s4.gens = s.gens) (ns : s4.heap.Ns s.heap.objs.size m) (kp : ∀ b u, s.heap.get? b = some u -> s4.heap.get? b = some u) :
  Inv (k7 X sc N ⟨bT X.env [] sc.names, s.heap.objs.size, s, H, fp⟩) [] (bX σ js) H s4 where
 ok := ok
 os := ho
 bare := by rw [hg]; exact I.bare
 base := Un.kept kp
 loc := by
  refine ⟨m, ns, fun i x v e1 e2 e3 => ?_⟩
  have e1' : N[i]? = some x := e1
  obtain ⟨j, ej, fj⟩ := cj hN e1'
  unfold bX at e2
  rw [Cd, ej] at e2
  cases j with
  | none => cases e2
  | some k =>
   obtain ⟨a1, a2⟩ := fj k rfl
   have e2' : (σ[k]?).join = some v := Option.some.inj e2
   have e4 : σ[k]? = some (some v) := by
    cases z : σ[k]? with
    | none => rw [z] at e2'; cases e2'
    | some y => rw [z] at e2'; exact congrArg some e2'
   have mem := oH a2
   have kn := hfree _ mem rfl
   have vis : AG X.env.scope x := .inr kn
   obtain ⟨m', hn', hl'⟩ := I.loc
   obtain ⟨u, ru, lk⟩ := hl' k x v a1 e4 vis
   refine ⟨u, ru, .inr ⟨?_, ?_⟩⟩
   ·obtain ⟨k', hk', e⟩ := k8 (env := X.env) sc.names x a2
    rcases hk' with z | z
    ·subst z; exact .inl e
    ·subst z; exact .inr e
   ·rcases lk with ⟨z, _⟩ | ⟨_, c, hc, hcl⟩
    ·rcases kn with q | q
     ·have q' : X.env.kindOf x = some .cell := q
      rw [z] at q'; cases q'
     ·have q' : X.env.kindOf x = some .free := q
      rw [z] at q'; cases q'
    ·obtain ⟨c', e'⟩ := Dh.mp (lR (env := X.env) sc.names [] x mem ⟨c, hc⟩)
     have e2 := cM sc.names [] (fun _ _ z => by simp at z) x c' e'
     rw [hc] at e2
     cases e2
     obtain ⟨o, h1, h2⟩ := hcl
     exact ⟨c, e', o, kp c o h1, h2⟩
 cell := fun x c e => by
  obtain ⟨v, o, h1, h2⟩ := I.cell x c (cM _ [] (fun _ _ z => by simp at z) x c e)
  exact ⟨v, o, kp c o h1, h2⟩
 free := I.hok.fresh (Cg _)
 freeC := fun x c e => I.freeC x c (cM _ [] (fun _ _ z => by simp at z) x c e)
 pin := fun p hp => by cases hp
 hok := I.hok.kept kp
 len := by
  unfold bX
  rw [B9]
  exact Paired.length hN
set_option maxHeartbeats 4000000 in
theorem jX {X : Cx} {cpos : Pos} {use : Option (Value -> Sem Unit)} {R : Value -> Shared -> Prop} {pins : List (Addr × Obj)} {s : Shared} {σ : St} {H : Hp} {Q : VK} {elt iter tg : Expr} {ifs : List Expr} {sc : Scope} {pos : Pos} {wi : TI} {g : TG} {tc : TT} {te : TE} (N : List Str) (js : List (Option Nat))
  (hcalm : X.calm = true) (hi : PI X tg iter wi) (hg : ∀ b, PG (k7 X sc N b) tg g) (hc : ∀ b, zv (k7 X sc N b) ifs tc) (he : ∀ b, PE (k7 X sc N b) elt te)
  (hN : Paired (fun (j : Option Nat) n => ∀ i, j = some i -> X.N[i]? = some n /\ sc.names.lookup n = some .free) js N)
  (hk : sc.kind = .function)
  (hcell : (sc.names.all fun y => y.2 != .cell) = true)
  (hfree : (sc.names.all fun y => y.2 != .free || (X.env.scope.names.lookup y.1 == some .cell || X.env.scope.names.lookup y.1 == some .free)) = true)
  (hnames : (sc.names.all fun y => y.2 != .local || sc.names.lookup y.1 == some .local) = true)
  (hs : ∀ x, foldedSetIterable iter X.env x = pure x) (I : Inv X pins σ H s) (h : uA wi js g tc te σ H Q)
  (fin0 : ∀ (l C : Addr) (s' : Shared) (H' : Hp) (m : Str -> Option Value), Inv X pins σ H' s' -> s'.heap.Ns C m -> H' C = none -> X.env.locals ≠ C -> X.s₀.heap.objs.size <= C -> (∀ x c, X.env.cells.lookup x = some c -> c ≠ C) -> (∀ p ∈ X.pn ++ pins, p.1 ≠ C) -> Q (.ref l) H' -> compPost (model X.prog X.w) X.A X.xe use R (.ref l) C (.ok .next) s') :
  wpAny (model X.prog X.w) X.A (comprehension (.ListComp elt [⟨tg, iter, ifs, 0⟩] sc pos) sc X.env cpos (newList []) false (eval iter X.env) use) R X.xe s := by
 have hcell' : ∀ y ∈ sc.names, y.2 ≠ .cell := fun y hy => by simpa using CS.mp hcell y hy
 have hfree' : ∀ y ∈ sc.names, y.2 = .free -> X.env.kindOf y.1 = some .cell \/ X.env.kindOf y.1 = some .free := fun y hy e => by
  have q := CS.mp hfree y hy
  rw [e] at q
  have q' : X.env.scope.names.lookup y.1 = some .cell \/ X.env.scope.names.lookup y.1 = some .free := by simpa using q
  exact q'
 have hnames' : ∀ y ∈ sc.names, y.2 = .local -> sc.names.lookup y.1 = some .local := fun y hy e => by
  have q := CS.mp hnames y hy
  rw [e] at q
  simpa using q
 have hcl : ∀ y ∈ sc.names, y.2 = .free -> ∃ c, X.env.cells.lookup y.1 = some c := fun y hy e => I.ok.has y.1 (hfree' y hy e)
 refine wpAny_comprehension_free (use := use) (g := ⟨tg, iter, ifs, 0⟩) (gs := []) rfl hs (wM hcl) hk hnames' ?_
 refine bC (hi pins s σ H _ I h) fun v s1 h1 => bC h1 fun itv s2 h2 => ?_
 obtain ⟨it, fp, tn, J, H2, e, I2, T, st2, f2, q⟩ := h2
 subst e
 obtain ⟨W, ⟨m0, w0⟩, step⟩ := q _ I2.fresh
 refine wpAny_newObj_type (wpAny_newFunctionEnv hcell' (by intro y hy; simp at hy) (fun h₁ hns hsb => ?_) hk)
 dsimp only at hns hsb ⊢
 have I3 : Inv X pins σ (az H2 s2.heap.objs.size (.lst [])) { s2 with heap := s2.heap.push { cls := .type "list", data := .seq ([] : List Value).toArray }, toks := s2.toks } := I2.lnew .nil (CK _)
 generalize hs3 : ({ s2 with heap := s2.heap.push { cls := .type "list", data := .seq ([] : List Value).toArray }, toks := s2.toks } : Shared) = s3 at I3
 generalize hH3 : az H2 s2.heap.objs.size (.lst []) = H3 at I3 w0
 have es3 : s3.heap = s2.heap.push { cls := .type "list", data := .seq ([] : List Value).toArray } := by rw [<- hs3]
 have hC : (s2.heap.push { cls := .type "list", data := .seq ([] : List Value).toArray }).objs.size = s3.heap.objs.size := by rw [es3]
 have f3 : ∀ b ∈ fp, mM X pins H3 b := fun b hb => ⟨by rw [<- hH3, ah (Cy (by obtain ⟨o, e, _⟩ := T.obj _ _ st2 b hb; exact Heap.lt_size e))]; exact (f2 b hb).1, (f2 b hb).2⟩
 have fl3 : ∀ b ∈ fp, b < s3.heap.objs.size := fun b hb => by
  obtain ⟨o, e, _⟩ := T.obj _ _ st2 b hb
  rw [es3, Heap.size_push]
  exact C8 (Heap.lt_size e)
 have ok := yN (N := N) (sc := sc) (fp := fp) I3 hk hcell' hcl f3 fl3
 have k23 : ∀ b u, s2.heap.get? b = some u -> s3.heap.get? b = some u := fun b u e => by rw [es3]; exact Heap.get?_push_of_some _ e
 have k34 : ∀ b u, s3.heap.get? b = some u -> h₁.get? b = some u := fun b u e => by
  rw [hC] at hsb
  refine (hsb.2 b (Cy (Heap.lt_size e))).trans (Heap.get?_push_of_some _ ?_)
  rw [<- es3]; exact e
 have I4 := wO (s4 := { s2 with heap := h₁, toks := s2.toks + ([] : List (Str × Value)).length }) (js := js) I3 ok hfree' hN (by rw [<- hs3]) (by rw [<- hs3]) (by rw [<- hC]; exact hns) k34
 have st4 : tn 0 h₁ := T.keep _ _ _ st2 fun b _ o e => k34 b o (k23 b o e)
 generalize hs4 : ({ s2 with heap := h₁, toks := s2.toks + ([] : List (Str × Value)).length } : Shared) = s4 at I4
 have eh4 : s4.heap = h₁ := by rw [<- hs4]
 rw [hC]
 generalize hB : (⟨bT X.env [] sc.names, s3.heap.objs.size, s3, H3, fp⟩ : BA) = B at ok I4
 have eC : B.C = s3.heap.objs.size := by rw [<- hB]
 have stat : ∀ {H' : Hp}, (∀ b ∈ fp, H' b = none) -> ∀ b ∈ fp, mM (k7 X sc N B) [] H' b := fun hn b hb => by
  refine ⟨hn b hb, ?_, fun z => ?_, .inl (by rw [<- hB]; exact hb), fun x c e => (ok.exf b (by rw [<- hB]; exact hb)).2 x c e, fun p hp => by cases hp⟩
  ·exact (ok.exf b (by rw [<- hB]; exact hb)).1
  ·exact ok.exfs b (by rw [<- hB]; exact hb) z
 have fin : ∀ {s' : Shared} {H' : Hp} {σ' : St}, Inv (k7 X sc N B) [] σ' H' s' -> Q (.ref s2.heap.objs.size) H' ->
   compPost (model X.prog X.w) X.A X.xe use R (.ref s2.heap.objs.size) s3.heap.objs.size (.ok .next) s' := fun {s' H' σ'} I' q' => by
  obtain ⟨m, hm, _⟩ := id I'.loc
  have hm' : s'.heap.Ns s3.heap.objs.size m := by rw [<- eC]; exact hm
  have u1 : Un (gj X.stack) fp H2 H3 s2.heap s3.heap := by rw [<- hH3]; exact Un.laid k23 (Cg _) I2.fresh
  have u2 : Un (gj X.stack) fp H3 H' s3.heap s'.heap := by
   have z := I'.base
   rw [<- hB] at z
   exact z
  have fr' : H' s3.heap.objs.size = none := by rw [<- eC]; exact I'.free
  have os' : s'.os = s2.os := by
   have z := I'.os
   rw [<- hB] at z
   rw [z, <- hs3]
  have Io : Inv X pins σ H' s' := I2.call' (s' := s') (ch := fp) os' (u1.trans u2) I'.hok I'.bare fun b hb => ⟨(f2 b hb).2.2.2.1, (f2 b hb).2.1, (f2 b hb).2.2.2.2.1, (f2 b hb).2.2.2.2.2⟩
  have ltC : s2.heap.objs.size < s3.heap.objs.size := by rw [es3, Heap.size_push]; exact DA _
  have cC : ∀ x c, X.env.cells.lookup x = some c -> c ≠ s3.heap.objs.size := fun x c e z => by
   obtain ⟨v, q⟩ := I2.cell x c e
   exact absurd q.lt (by rw [z]; exact El.mpr (Da ltC))
  exact fin0 _ _ s' H' m Io hm' fr' (Cy (Nat.lt_trans I2.lt ltC)) (CO I2.sz (Da ltC)) cC (fun p hp z => absurd (Heap.lt_size (I2.pin p hp).1) (by rw [z]; exact El.mpr (Da ltC))) q'
 have loop : codeAny (model X.prog X.w) X.A (.compLoop (.ListComp elt [⟨tg, iter, ifs, 0⟩] sc pos) 0 (.ref it) (.ref s2.heap.objs.size) (k7 X sc N B).env)
   (compPost (model X.prog X.w) X.A X.xe use R (.ref s2.heap.objs.size) s3.heap.objs.size) s4 := by
  refine qf (fun n s' => ∃ i ys σ' H', Inv (k7 X sc N B) [] σ' H' s' /\ wN (bX σ js) σ' /\ tn i s'.heap /\ (∀ b ∈ fp, H' b = none) /\ W i n ys H') ?_ m0
   ⟨0, [], bX σ js, H3, I4, ⟨rfl, fun _ _ z => z⟩, by rw [eh4]; exact st4, fun b hb => (f3 b hb).1, w0⟩
  rintro n s5 ⟨i, ys, σ5, H5, I5', kp5, st5, fr5, w5⟩
  have I5 : Inv (k7 X sc N B) [] (bX σ js) H5 s5 := I5'.weak kp5.1.symm kp5.2
  rcases step i n ys H5 w5 with ⟨stop, qn⟩ | ⟨go, N', hN', turn⟩
  ·refine bC (T.done (k7 X sc N B) rfl rfl rfl hcalm i [] s5 _ H5 x9 I5 (stat fr5) st5 stop) fun r s6 ⟨hr, I6⟩ => .inl ⟨hr, fin I6 qn⟩
  ·refine bC (T.item (k7 X sc N B) rfl rfl rfl hcalm i [] s5 _ H5 x9 I5 (stat fr5) st5 go) fun r s6 ⟨u, hr, h6⟩ => .inr ⟨u, hr, ?_⟩
   refine bC h6 fun _ s7 hq__ => ?_
   obtain ⟨x, H7, I7, r7, y7, st7, fr7⟩ := hq__
   have I7' := I7.pinned (stat fr7) (T.obj _ _ st7)
   have back : ∀ {σ8 : St} {H8 : Hp} {s8 : Shared}, Inv (k7 X sc N B) ([] ++ jL fp s7.heap) σ8 H8 s8 -> tn (i + 1) s8.heap /\ ∀ b ∈ fp, H8 b = none := fun {σ8 H8 s8} I8 => by
    refine ⟨T.keep _ _ _ st7 fun b hb o e => (I8.pin (b, o) (CJ _ (CJ _ (eB hb e)))).1, fun b hb => ?_⟩
    obtain ⟨o, e, d⟩ := T.obj _ _ st7 b hb
    exact (I8.pin (b, o) (CJ _ (CJ _ (eB hb e)))).2.1
   refine bC (hg B _ s7 _ H7 x u _ I7' r7 (turn x H7 y7)) fun _ s8 hq__ => ?_
   obtain ⟨σ8, H8, I8, kp8, q8⟩ := hq__
   refine bC (hc B _ s8 σ8 H8 _ I8 q8) fun ok s9 ⟨H9, I9, q9⟩ => ⟨fun e => ?_, fun e => ?_⟩
   ·refine bC (he B _ s9 σ8 H9 _ I9 (q9.1 e)) fun yv s10 hq__ => ?_
    obtain ⟨y, H10, I10, r10, q10⟩ := hq__
    obtain ⟨e10, l10, n10⟩ := q10
    refine bC (bI _ s10 σ8 H10 (.ref s2.heap.objs.size) [y] _ _ (fun _ H' => N' (ys ++ [y]) H') I10 rfl (.cons r10 .nil) ⟨_, ys, y, rfl, rfl, e10, l10, n10⟩) fun _ s11 hq__ => ?_
    obtain ⟨_, H11, I11, _, q11⟩ := hq__
    obtain ⟨m', hm, w11⟩ := hN' _ _ q11
    obtain ⟨st11, fr11⟩ := back I11
    exact ⟨m', hm, i + 1, ys ++ [y], σ8, H11, I11.unpinned, kp8, st11, fr11, w11⟩
   ·obtain ⟨m', hm, w11⟩ := hN' _ _ (q9.2 e)
    obtain ⟨st11, fr11⟩ := back I9
    exact ⟨m', hm, i + 1, ys, σ8, H9, I9.unpinned, kp8, st11, fr11, w11⟩
 have env_eq : (k7 X sc N B).env = compEnvC sc (bT X.env [] sc.names) s3.heap.objs.size X.env := by rw [<- hB]
 rw [env_eq] at loop
 have st4' : tn 0 s4.heap := by rw [eh4]; exact st4
 exact codeAny_compStart_list loop (T.self X.A 0 _ _ _ st4' loop)
theorem aO {X : Cx} {elt iter tg : Expr} {ifs : List Expr} {sc : Scope} {pos : Pos} {wi : TI} {g : TG} {tc : TT} {te : TE} (N : List Str) (js : List (Option Nat))
  (hcalm : X.calm = true) (hi : PI X tg iter wi) (hg : ∀ b, PG (k7 X sc N b) tg g) (hc : ∀ b, zv (k7 X sc N b) ifs tc) (he : ∀ b, PE (k7 X sc N b) elt te)
  (hN : Paired (fun (j : Option Nat) n => ∀ i, j = some i -> X.N[i]? = some n /\ sc.names.lookup n = some .free) js N)
  (hk : sc.kind = .function := by rfl)
  (hcell : (sc.names.all fun y => y.2 != .cell) = true := by rfl)
  (hfree : (sc.names.all fun y => y.2 != .free || (X.env.scope.names.lookup y.1 == some .cell || X.env.scope.names.lookup y.1 == some .free)) = true := by rfl)
  (hnames : (sc.names.all fun y => y.2 != .local || sc.names.lookup y.1 == some .local) = true := by rfl)
  (hs : ∀ x, foldedSetIterable iter X.env x = pure x := by intro _; rfl) : PE X (.ListComp elt [⟨tg, iter, ifs, 0⟩] sc pos) (uA wi js g tc te) := by
 intro pins s σ H Q I h
 rw [eval_ListComp]
 exact jX (use := none) N js hcalm hi hg hc he hN hk hcell hfree hnames hs I h fun l C s' H' m Io hm fr lC sz cC pC q' => ⟨m, hm, fun h' sb' => ⟨.ref l, H', Io.turned (t' := s'.toks) (it := C) (fun b o hb e => (sb'.2 b hb).trans e) fr lC.symm (.inr sz) cC pC, rfl, q'⟩⟩
theorem fP {X : Cx} {i₀ : Nat} {y₀ : Str} {py spos : Pos} {elt iter tg : Expr} {ifs : List Expr} {sc : Scope} {pos : Pos} {wi : TI} {g : TG} {tc : TT} {te : TE} (hN₀ : X.N.Nodup) (hi₀ : X.N[i₀]? = some y₀) (hx₀ : zz X.env.scope y₀) (N : List Str) (js : List (Option Nat))
  (hcalm : X.calm = true) (hi : PI X tg iter wi) (hg : ∀ b, PG (k7 X sc N b) tg g) (hc : ∀ b, zv (k7 X sc N b) ifs tc) (he : ∀ b, PE (k7 X sc N b) elt te)
  (hN : Paired (fun (j : Option Nat) n => ∀ i, j = some i -> X.N[i]? = some n /\ sc.names.lookup n = some .free) js N)
  (hk : sc.kind = .function := by rfl)
  (hcell : (sc.names.all fun y => y.2 != .cell) = true := by rfl)
  (hfree : (sc.names.all fun y => y.2 != .free || (X.env.scope.names.lookup y.1 == some .cell || X.env.scope.names.lookup y.1 == some .free)) = true := by rfl)
  (hnames : (sc.names.all fun y => y.2 != .local || sc.names.lookup y.1 == some .local) = true := by rfl)
  (hs : ∀ x, foldedSetIterable iter X.env x = pure x := by intro _; rfl) (hsw : swapsWith (.ListComp elt [⟨tg, iter, ifs, 0⟩] sc pos) (some (.Name y₀ py)) spos.line X.env = pure true := by rfl)
  (hf₀ : X.fn y₀ = true \/ X.env.scope.names.lookup y₀ = some .local := by first | exact .inl rfl | exact .inr rfl | assumption) : PS X (.Assign [.Name y₀ py] (.ListComp elt [⟨tg, iter, ifs, 0⟩] sc pos) spos) (yu (uA wi js g tc te) (bS i₀)) := by
 intro pins s σ H D I h
 rw [exec_Assign_Name_used _ _ _ _ hsw]
 refine wpAny_bind (wpAny_standAt (wpAny_bind ?_))
 show wpAny _ X.A (do let _ <- comprehension (.ListComp elt [⟨tg, iter, ifs, 0⟩] sc pos) sc X.env _ (newList []) false (eval iter X.env) (some (assign (.Name y₀ py) X.env))) _ _ s
 refine wpAny_bind (wpAny_mono (jX (use := some (assign (.Name y₀ py) X.env)) (R := fun _ s' => SP X pins D .next s') (Q := fun x H1 => D.nx (σ.set i₀ (some x)) H1) N js hcalm hi hg hc he hN hk hcell hfree hnames hs I h fun l C s' H' m Io hm fr lC sz cC pC q' => ?_) (fun _ s' hq => wpAny_pure (wpAny_pure hq)) fun _ _ e => e)
 show wpAny (model X.prog X.w) X.A (assign (.Name y₀ py) X.env (.ref l)) _ X.xe s'
 refine wpAny_assign_Name (lH Io hN₀ hi₀ hx₀ (v := .ref l) rfl (fun s'' I'' ⟨a, sb, ha⟩ => ?_) hf₀)
 have haC : C ≠ a := by
  rcases ha with z | z
  ·rw [z]; exact lC.symm
  ·exact (cC _ _ z).symm
 exact ⟨m, hm.sameBut sb haC, fun h' sb' => ⟨_, H', I''.turned (t' := s''.toks) (it := C) (fun b o hb e => (sb'.2 b hb).trans e) fr lC.symm (.inr sz) cC pC, q'⟩⟩
section
variable {X : Cx} {p : Pos}
theorem yO (h : X.mg "int" = none) (hg : Gl X "int" := by rfl) : PE X (.Name "int" p) (tC (.ty "int")) := jy hg h PyProof.Rows.boot_int rfl
theorem wQ (h : X.mg "bool" = none) (hg : Gl X "bool" := by rfl) : PE X (.Name "bool" p) (tC (.ty "bool")) := jy hg h PyProof.Rows.boot_bool rfl
theorem wR (h : X.mg "list" = none) (hg : Gl X "list" := by rfl) : PE X (.Name "list" p) (tC (.ty "list")) := jy hg h PyProof.Rows.boot_list rfl
theorem uB (h : X.mg "tuple" = none) (hg : Gl X "tuple" := by rfl) : PE X (.Name "tuple" p) (tC (.ty "tuple")) := jy hg h PyProof.Rows.boot_tuple rfl
theorem uC : cH X (.builtin "isinstance") (fun xs H Q => ∃ x Y t b, xs = [x, .ty Y] /\ TyOf X.K H x t /\ PySem.W.kitOne X.K t (.type Y) = some b /\ Q (.bl b) H) := by
 intro pins s σ H xs us Q I r h
 obtain ⟨x, Y, t, b, e, ty, ko, q⟩ := h
 subst e
 obtain ⟨u, w', e, rx, ry⟩ := ug r
 subst e
 cases ry
 exact sg I rx ty ko fun tk => ⟨.bl b, H, I.tok _, rfl, q⟩
end
structure Def (K : PySem.W.Frag) (mg : Str -> Option Value) (x : Str) (st : Stmt) (ps : List Str) (f : Addr) (fd : FuncData) : Prop where
 fn : Fun K x x st f fd
 bd : Binds K fd ps []
 at' : mg x = some (.ref f)
section
variable {X : Cx} {k : Nat} {x : Str} {st : Stmt} {ps : List Str} {f : Addr} {fd : FuncData} {sp : Sp} {e : Expr} {es : List Expr} {t : TA} {p pos : Pos}
theorem pc (D : Def X.K X.mg x st ps f fd) (F : FnOk X.prog X.w X.K X.mg X.base aZ k f fd ps sp) (hr : Room k X.A) (ha : PA X (e :: es) t) (hg : Gl X x := by rfl) (hdb : (x == ("__debug__" : Str)) = false := by decide)
  (he : starEach (e :: es) X.env = (false, eval e X.env) :: starEach es X.env := by rfl) (hpl : (backTo pos (starEach es X.env)).any (·.1) = false := by rfl) : PE X (.Call (.Name x p) (e :: es) [] pos) (xY sp [] E0 t) :=
 wu F hr hg D.at' D.fn.kp D.bd .nil Af ha hdb he hpl
end
theorem Same.new {H : Hp} {a : Addr} {o : HO} (h : H a = none) : Same H (az H a o) := fun b u e => by rw [ah (ak e h)]; exact e
theorem Same.put {H H' : Hp} {a : Addr} {o : HO} (s : Same H H') (h : H a = none) : Same H (az H' a o) := fun b u e => by rw [ah (ak e h)]; exact s b u e
theorem Same.to {H H' : Hp} {a : Addr} {o : HO} (s : Same H H') (h : H' a = none) : Same H (az H' a o) := s.trans (Same.new h)
inductive DEq (K : PySem.W.Frag) (H : Hp) : Nat -> V -> V -> Bool -> Prop
 | flat {d : Nat} {x y : V} (fx : cK x = true) (fy : cK y = true) : DEq K H d x y (mQ x y)
 | lst {d : Nat} {a b : Addr} {xs ys : List V} {e : Nat -> Bool} (h1 : SqL K H a xs) (h2 : SqL K H b ys) (hl : xs.length = ys.length)
  (he : ∀ (j : Nat) x y, xs[j]? = some x -> ys[j]? = some y -> DEq K H d x y (e j)) : DEq K H (d + 1) (.ref a) (.ref b) ((Cf xs.length).all e)
 | len {d : Nat} {a b : Addr} {xs ys : List V} (h1 : SqL K H a xs) (h2 : SqL K H b ys) (hl : xs.length ≠ ys.length) : DEq K H (d + 1) (.ref a) (.ref b) false
 | tup {d : Nat} {a b : Addr} {xs ys : List V} {e : Nat -> Bool} (h1 : SqT K H a xs) (h2 : SqT K H b ys)
  (he : ∀ (j : Nat) x y, xs[j]? = some x -> ys[j]? = some y -> DEq K H d x y (e j)) : DEq K H (d + 1) (.ref a) (.ref b) ((Cf (min xs.length ys.length)).all e && xs.length == ys.length)
theorem oI : ∀ {x : V}, cK x = true -> mQ x x = true
 | .non, _ => rfl
 | .bl b, _ => by cases b <;> rfl
 | .int i, _ => by simp [mQ]
 | .str y, _ => by simp [mQ]
theorem DEq.self {X : Cx} {pins : List (Addr × Obj)} {σ : St} {H : Hp} {s : Shared} (I : Inv X pins σ H s) {d : Nat} {x y : V} {b : Bool} (h : DEq X.K H d x y b) : x = y -> b = true := by
 induction h with
 | flat fx fy => intro e; subst e; exact oI fx
 | @lst d a b xs ys e h1 h2 hl he ih =>
  intro z
  cases z
  have q := I.list_inj h1 h2
  subst q
  rw [CS]
  intro j hj
  have hj' : j < xs.length := CD.mp hj
  exact ih j _ _ (Ca hj') (Ca hj') rfl
 | len h1 h2 hl =>
  intro z
  cases z
  have q := I.list_inj h1 h2
  exact absurd (congrArg List.length q) hl
 | @tup d a b xs ys e h1 h2 he ih =>
  intro z
  cases z
  have q := I.tuple_inj h1 h2
  subst q
  rw [C6, CS]
  refine ⟨fun j hj => ?_, by simp⟩
  have hj' : j < xs.length := by have := CD.mp hj; omega
  exact ih j _ _ (Ca hj') (Ca hj') rfl
theorem Vals.at {xs : List V} {us : List Value} (r : Vals xs us) {j : Nat} (h : j < us.toArray.size) : ∃ x, xs[j]? = some x /\ RelV x us.toArray[j] := by
 have hl := r.length
 have h' : j < xs.length := by simpa [hl] using h
 obtain ⟨u, e, ru⟩ := r.get (Ca h')
 refine ⟨_, Ca h', ?_⟩
 have h2 : j < us.length := by simpa using h
 rw [Ca h2] at e
 have e2 : us[j] = u := Option.some.inj e
 simpa [e2] using ru
theorem DEq.at {X : Cx} {pins : List (Addr × Obj)} {σ : St} {H : Hp} {s : Shared} (I : Inv X pins σ H s) {d : Nat} {x y : V} {b : Bool} (h : DEq X.K H d x y b) :
  ∀ {A : Around} {u v : Value}, A.units + d < cLine -> RelV x u -> RelV y v -> SeqAt.EqAt A s u v b := by
 induction h with
 | flat fx fy => intro A u v hu rx ry; exact ui rx ry fx fy
 | @lst d a b xs ys e h1 h2 hl he ih =>
  intro A u v hu rx ry
  cases rx; cases ry
  by_cases hab : a = b
  ·have z : (Cf xs.length).all e = true := (DEq.lst h1 h2 hl he).self I (by rw [hab])
   rw [z, hab]
   exact SeqAt.EqAt.same _
  ·obtain ⟨its, r, pl, _⟩ := I.list h1
   obtain ⟨its2, r2, pl2, _⟩ := I.list h2
   have l1 := r.length
   have l2 := r2.length
   have q := SeqAt.RcAt.lists (A := A) (e := e) pl.isList pl2.isList (by simp; omega) (by omega) fun j j1 j2 => by
    obtain ⟨x, ex, rx⟩ := r.at j1
    obtain ⟨y, ey, ry⟩ := r2.at j2
    exact ih j x y ex ey (by show A.units + 1 + d < cLine; omega) rx ry
   refine SeqAt.EqAt.of_refs hab ?_
   simpa [l1] using q
 | @len d a b xs ys h1 h2 hl =>
  intro A u v hu rx ry
  cases rx; cases ry
  have hab : a ≠ b := by
   rintro rfl
   exact hl (congrArg List.length (I.list_inj h1 h2))
  obtain ⟨its, r, pl, _⟩ := I.list h1
  obtain ⟨its2, r2, pl2, _⟩ := I.list h2
  have l1 := r.length
  have l2 := r2.length
  exact SeqAt.EqAt.of_refs hab (SeqAt.RcAt.lists_lengths pl.isList pl2.isList (by simp; omega) (by omega))
 | @tup d a b xs ys e h1 h2 he ih =>
  intro A u v hu rx ry
  cases rx; cases ry
  by_cases hab : a = b
  ·have z := (DEq.tup h1 h2 he).self I (by rw [hab])
   rw [z, hab]
   exact SeqAt.EqAt.same _
  ·obtain ⟨its, r, pl, _⟩ := I.tuple h1
   obtain ⟨its2, r2, pl2, _⟩ := I.tuple h2
   have l1 := r.length
   have l2 := r2.length
   have q := SeqAt.RcAt.tuples (A := A) (e := e) (show s.heap.IsTuple a its.toArray from pl) (show s.heap.IsTuple b its2.toArray from pl2) (by omega) fun j j1 j2 => by
    obtain ⟨x, ex, rx⟩ := r.at j1
    obtain ⟨y, ey, ry⟩ := r2.at j2
    exact ih j x y ex ey (by show A.units + 1 + d < cLine; omega) rx ry
   refine SeqAt.EqAt.of_refs hab ?_
   simpa [l1, l2] using q
section
variable {X : Cx}
def Ag (K : PySem.W.Frag) : R2 := fun x y H Q => ∃ d b, DEq K H d x y b /\ d < 64 /\ cK x = false /\ Q (.bl b) H
theorem yP (hu : X.A.units + 64 < cLine) : gI X (compareOp .Eq) (Ag X.K) := by
 intro pins s σ H x y v u Q I rx ry h
 obtain ⟨d, b, dq, hd, fl, q⟩ := h
 cases dq with
 | flat fx fy => rw [fx] at fl; cases fl
 | @lst d a b xs ys e h1 h2 hl he =>
  cases rx; cases ry
  obtain ⟨its, r, pl, _⟩ := I.list h1
  obtain ⟨its2, r2, pl2, _⟩ := I.list h2
  have l1 := r.length
  have l2 := r2.length
  refine SeqAt.eq_listAt (e := e) pl.isList pl2.isList (by simp; omega) (by omega) (fun j j1 j2 => ?_) ?_
  ·obtain ⟨x, ex, rx⟩ := r.at j1
   obtain ⟨y, ey, ry⟩ := r2.at j2
   exact (he j x y ex ey).at I (by show X.A.units + 1 + d < cLine; omega) rx ry
  ·refine ⟨.bl _, H, I, rfl, ?_⟩
   simpa [<- l1] using q
 | @len d a b xs ys h1 h2 hl =>
  cases rx; cases ry
  obtain ⟨its, r, pl, _⟩ := I.list h1
  obtain ⟨its2, r2, pl2, _⟩ := I.list h2
  have l1 := r.length
  have l2 := r2.length
  exact SeqAt.eq_list_lengthsAt pl.isList pl2.isList (by simp; omega) (by omega) ⟨.bl _, H, I, rfl, q⟩
 | @tup d a b xs ys e h1 h2 he =>
  cases rx; cases ry
  obtain ⟨its, r, pl, _⟩ := I.tuple h1
  obtain ⟨its2, r2, pl2, _⟩ := I.tuple h2
  have l1 := r.length
  have l2 := r2.length
  refine SeqAt.eq_tupleAt (e := e) (show s.heap.IsTuple a its.toArray from pl) (show s.heap.IsTuple b its2.toArray from pl2) (by omega) (fun j j1 j2 => ?_) ?_
  ·obtain ⟨x, ex, rx⟩ := r.at j1
   obtain ⟨y, ey, ry⟩ := r2.at j2
   exact (he j x y ex ey).at I (by show X.A.units + 1 + d < cLine; omega) rx ry
  ·refine ⟨.bl _, H, I, rfl, ?_⟩
   simpa [<- l1, <- l2] using q
theorem oJ : cH X (.builtin "sorted") (fun xs H Q => ∃ (p : Addr) (ns : List Int), xs = [.ref p] /\ SqL X.K H p (ns.map V.int) /\ ns.length < 64 /\
  ∀ l (ms : List Int), H l = none -> ms.Perm ns -> ms.Pairwise (· <= ·) -> Q (.ref l) (az H l (.lst (ms.map V.int)))) := by
 intro pins s σ H xs us Q I r h
 obtain ⟨p, ns, e, hq, h64, q⟩ := h
 subst e
 obtain ⟨u, e, rx⟩ := fg r
 subst e
 cases rx
 obtain ⟨its, rv, pl, hz⟩ := I.list hq
 have hl := rv.length
 rw [B9] at hl
 refine sorted_ints (vs := its) (ns := ns) pl.isList (jQ rv) (by omega) fun out ns' a1 a2 a3 => ?_
 obtain ⟨ep, e⟩ := sortedAll_at s.heap its out
 have hn : s.heap.objs.size <= s.heap.objs.size + 1 := Nat.le_succ _
 refine ⟨.ref (s.heap.objs.size + 1), _, I.laid (t' := s.toks) (fun b o eb => sortedAll_old eb) hn (show ObjOk X.prog X.w _ _ _ (.lst (ns'.map V.int)) from ⟨?_, out.toList, ep, iA a1, ?_⟩), rfl, q _ ns' (I.hok.fresh hn) a2 a3⟩
 ·rw [B9, a2.length_eq]; exact Da (lP (by omega))
 ·simpa [seqObj] using e
end
def SameBut (acc : Addr) (H H' : Hp) : Prop := ∀ b o, b ≠ acc -> H b = some o -> H' b = some o
theorem Same.but {acc : Addr} {H H' : Hp} (s : Same H H') : SameBut acc H H' := fun b o _ e => s b o e
theorem SameBut.upd {acc : Addr} {H : Hp} {o : HO} : SameBut acc H (az H acc o) := fun b u n e => by rw [ah n]; exact e
theorem wU {n : Nat} (h : n <= 1000) : n <= sizeLine := Da (lP h)
theorem bY {n : Nat} (h : Nat.ble n 1000 = true := by rfl) : n <= sizeLine := wU (Nat.le_of_ble_eq_true h)
theorem i4 {n : Nat} (h : n < 100000) : n < sizeLine := by rw [sizeLine_eq]; omega
theorem uD {x : Option V} {σ : St} : wN (none :: σ) (x :: σ) := ⟨rfl, fun i v e => by
 cases i with
 | zero => cases e
 | succ i => exact e⟩
theorem iB {J : It} {H1 : Hp} {js : List (Option Nat)} {σ : St} {tc : TT} {te : TE} {Q : VK} (n : Nat) (item : Nat -> V) (p : Nat -> Bool) (P : Addr -> Nat -> V -> Hp -> Prop) (hn : n < 100000)
  (mono : ∀ acc i v H H', P acc i v H -> SameBut acc H H' -> P acc i v H')
  (hgo : ∀ i H, i < n -> Same H1 H -> J.go i H) (hst : ∀ H, Same H1 H -> J.stop n H) (hy : ∀ i H x H', i < n -> Same H1 H -> J.yld i H x H' -> H' = H /\ x = item i)
  (hc : ∀ i, i < n -> ∀ H2 R, Same H1 H2 -> R (p i) H2 -> tc (some (item i) :: bX σ js) H2 R)
  (he : ∀ acc i, i < n -> p i = true -> ∀ H2 R, Same H1 H2 -> H1 acc = none -> H2 acc ≠ none -> (∀ v H3, Same H2 H3 -> P acc i v H3 -> R v H3) -> te (some (item i) :: bX σ js) H2 R)
  (hQ : ∀ acc vs H', Same H1 H' -> H1 acc = none -> H' acc = some (.lst vs) -> Paired (fun i v => P acc i v H') ((Cf n).filter p) vs -> Q (.ref acc) H') :
  cg J H1 (none :: js) (bS 0) tc te σ Q := by
 intro acc hacc
 refine ⟨fun i m ys H => m = n - i /\ i <= n /\ Same H1 H /\ H acc = some (.lst ys) /\ Paired (fun k v => P acc k v H) ((Cf i).filter p) ys, ⟨n, by simp, CK _, Same.new hacc, ab, .nil⟩, ?_⟩
 rintro i m ys H ⟨rfl, hi, s1, ha, hp⟩
 by_cases hlt : i < n
 ·refine .inr ⟨hgo i H hlt s1, fun ys' H' => i < n /\ Same H1 H' /\ H' acc = some (.lst ys') /\ Paired (fun k v => P acc k v H') ((Cf (i + 1)).filter p) ys', fun ys' H' ⟨z, a, b, c⟩ => ⟨n - (i + 1), C2 _ _ hlt, rfl, hlt, a, b, c⟩, fun x H' y => ?_⟩
  obtain ⟨rfl, rfl⟩ := hy i H x H' hlt s1 y
  refine ⟨uD, hc i hlt _ _ s1 ⟨fun hb => ?_, fun hb => ?_⟩⟩
  ·refine he acc i hlt hb _ _ s1 hacc (by rw [ha]; simp) fun v H3 s3 pv => ?_
   have hlen : ys.length <= i := by
    rw [<- Paired.length hp]
    exact CO (CT _ _) (by simp)
   refine ⟨s3 _ _ ha, i4 (by omega), hlt, (s1.trans s3).put hacc, ab, ?_⟩
   rw [Dc, C9]
   have e : Et p [i] = [i] := by simp [hb]
   rw [e]
   refine Paired.snoc (Paired.mapP hp fun k v q => ?_) ?_
   ·exact mono acc k v _ _ (mono acc k v _ _ q s3.but) SameBut.upd
   ·exact mono acc i v _ _ pv SameBut.upd
  ·refine ⟨hlt, s1, ha, ?_⟩
   rw [Dc, C9]
   have e : Et p [i] = [] := by simp [hb]
   rw [e, Dv]
   exact hp
 ·have e : i = n := Ds hi (Dg hlt)
  subst e
  exact .inl ⟨hst H s1, hQ acc ys H s1 hacc ha hp⟩
theorem cw {α β : Type} {f : α -> β} : ∀ {l : List α} {r : List β}, Paired (fun a b => b = f a) l r -> r = l.map f := by
 intro l r h
 induction h with
 | nil => rfl
 | cons h t ih => rw [h, ih]; rfl
section
variable {K : PySem.W.Frag} {H1 : Hp} {js : List (Option Nat)} {σ : St} {tc : TT} {te : TE} {Q : VK}
theorem qg {lo : Int} {n : Nat} (f : Nat -> V) (hn : n < 100000)
  (he : ∀ i : Nat, i < n -> ∀ H2 R, Same H1 H2 -> (∀ H3, Same H2 H3 -> R (f i) H3) -> te (some (.int (lo + i)) :: bX σ js) H2 R)
  (hQ : ∀ acc H', Same H1 H' -> H1 acc = none -> H' acc = some (.lst ((Cf n).map f)) -> Q (.ref acc) H') : cg (pQ lo n) H1 (none :: js) (bS 0) eI te σ Q :=
 iB (J := pQ lo n) (H1 := H1) (js := js) (σ := σ) (tc := eI) (te := te) (Q := Q) n (fun i => .int (lo + i)) (fun _ => true) (fun _ i v _ => v = f i) hn (fun _ _ _ _ _ h _ => h)
  (fun _ _ h _ => h) (fun _ _ => Cg _) (fun _ _ _ _ _ _ y => y) (fun _ _ _ _ _ h => h) (fun _ i hi _ H2 R s _ _ k => he i hi H2 R s fun H3 s3 => k _ H3 s3 rfl)
  fun acc vs H' s n' e p => hQ acc H' s n' (by rw [e, cw p, CZ.mpr (fun _ _ => rfl)])
theorem sH {a : Addr} {xs : List V} (p : Nat -> Bool) (P : Addr -> Nat -> V -> Hp -> Prop) (hl : SqL K H1 a xs) (hn : xs.length < 100000)
  (mono : ∀ acc i v H H', P acc i v H -> SameBut acc H H' -> P acc i v H')
  (hc : ∀ (i : Nat) x, xs[i]? = some x -> ∀ H2 R, Same H1 H2 -> R (p i) H2 -> tc (some x :: bX σ js) H2 R)
  (he : ∀ acc (i : Nat) x, xs[i]? = some x -> p i = true -> ∀ H2 R, Same H1 H2 -> H1 acc = none -> H2 acc ≠ none -> (∀ v H3, Same H2 H3 -> P acc i v H3 -> R v H3) -> te (some x :: bX σ js) H2 R)
  (hQ : ∀ acc vs H', Same H1 H' -> H1 acc = none -> H' acc = some (.lst vs) -> Paired (fun i v => P acc i v H') ((Cf xs.length).filter p) vs -> Q (.ref acc) H') : cg (ou K a) H1 (none :: js) (bS 0) tc te σ Q :=
 iB (J := ou K a) (H1 := H1) (js := js) (σ := σ) (tc := tc) (te := te) (Q := Q) xs.length (fun i => xs.getD i .non) p P hn mono
  (fun i H h s => ⟨xs, xs[i], s.seq hl, by simp [h]⟩) (fun H s => ⟨xs, s.seq hl, Cg _⟩)
  (fun i H x H' h s y => ⟨y.1, by have e := y.2 xs (s.seq hl); simp [e]⟩)
  (fun i h H2 R s k => hc i _ (by simp [h]) H2 R s k) (fun acc i h hp H2 R s n1 n2 k => he acc i _ (by simp [h]) hp H2 R s n1 n2 k) hQ
end
section
variable {X : Cx} {tg l : Expr} {tl : TE} {es : List Expr} {k n : Nat} {t : xS} {pos : Pos} {a : Expr} {ta : TE}
theorem c7 (K : PySem.W.Frag) (h : X.K = K := by rfl) : zt X (zW K) := by subst h; exact wA
theorem dz (K : PySem.W.Frag) (h : X.K = K := by rfl) : zt X (zX K) := by subst h; exact yE
theorem zx (K : PySem.W.Frag) (h : X.K = K := by rfl) : AK X (zZ K) := by subst h; exact wB
theorem wV (K : PySem.W.Frag) (h : X.K = K := by rfl) : gI X (compareOp .NotIn) (BG K true) := by subst h; exact mR
theorem BI (K : PySem.W.Frag) (hu : X.A.units + 64 < cLine) (h : X.K = K := by rfl) : gI X (compareOp .Eq) (Ag K) := by subst h; exact yP hu
theorem bZ (K : PySem.W.Frag) (h : X.K = K := by rfl) : cH X (.builtin "len") (fun xs H Q => ∃ x n, xs = [x] /\ zR K x H n /\ Q (.int n) H) := by subst h; exact uh
theorem wW (K : PySem.W.Frag) (h : X.K = K := by rfl) : cH X (.builtin "isinstance") (fun xs H Q => ∃ x Y t b, xs = [x, .ty Y] /\ TyOf K H x t /\ PySem.W.kitOne K t (.type Y) = some b /\ Q (.bl b) H) := by subst h; exact uC
theorem wX (K : PySem.W.Frag) (h : X.K = K := by rfl) : cH X (.builtin "sorted") (fun xs H Q => ∃ (p : Addr) (ns : List Int), xs = [.ref p] /\ SqL K H p (ns.map V.int) /\ ns.length < 64 /\
 ∀ l (ms : List Int), H l = none -> ms.Perm ns -> ms.Pairwise (· <= ·) -> Q (.ref l) (az H l (.lst (ms.map V.int)))) := by subst h; exact oJ
theorem oK (K : PySem.W.Frag) (h : X.K = K := by rfl) : cH X (.type "list") (fun xs H Q => ∃ p ys, xs = [.ref p] /\ (SqL K H p ys \/ SqT K H p ys) /\ ∀ l, H l = none -> Q (.ref l) (az H l (.lst ys))) := by subst h; exact mS
theorem iq (K : PySem.W.Frag) (hl : PE X l tl) (h : X.K = K := by rfl) : PI X tg l (xU K tl) := by subst h; exact wj hl
theorem BJ (K : PySem.W.Frag) (hl : PE X l tl) (h : X.K = K := by rfl) : PI X tg l (zJ K tl) := by subst h; exact yz hl
theorem uE (K : PySem.W.Frag) (hc : X.calm = true) (hg : zr X es t) (h : X.K = K := by rfl) (hn : (assignEach es X.env).length = n := by rfl) (hst : (assignEach es X.env).findIdx? (·.1) = none := by rfl) : PG X (.Tuple es k pos) (rZ K n t) := by
 subst h; exact yt hc hg hn hst
end
theorem aP {X : Cx} {N : List Str} (h : N.Nodup) (e : X.N = N := by rfl) : X.N.Nodup := by rw [e]; exact h
theorem uF (xs : List V) (k : Nat) : fV xs none (some (k : Int)) = xs.take k := by
 unfold fV
 rw [HT.jz, HT.oC, List.drop_zero, Nat.sub_zero]
 by_cases h : k <= xs.length
 ·rw [DF h]
 ·rw [Ef (by omega), Do (Cg _), Do (by omega)]
theorem jY (xs : List V) (k : Nat) : fV xs (some (k : Int)) none = xs.drop k := by
 unfold fV
 rw [HT.jz, HT.oC]
 by_cases h : k <= xs.length
 ·rw [DF h, Do (by rw [Dy]; omega)]
 ·rw [Ef (by omega), Du, DD, Er (by omega)]
theorem wY (xs : List V) (i j : Nat) : fV xs (some (i : Int)) (some (j : Int)) = (xs.drop i).take (j - i) := by
 unfold fV
 rw [HT.jz, HT.jz]
 by_cases h : i <= xs.length
 ·rw [DF h]
  by_cases h2 : j <= xs.length
  ·rw [DF h2]
  ·rw [Ef (by omega), Do (by rw [Dy]; omega), Do (by rw [Dy]; omega)]
 ·have e : min i xs.length = xs.length := Ef (by omega)
  rw [e, Er (Cg _), Er (l := xs) (i := i) (by omega), List.take_nil, List.take_nil]
section
variable {K : PySem.W.Frag} {H : Hp} {a b : Addr}
theorem uG {xs : List V} (h1 : SqL K H a xs) (h2 : SqL K H b xs) (hf : ∀ x ∈ xs, cK x = true) : DEq K H 1 (.ref a) (.ref b) true := by
 have q := DEq.lst (d := 0) (e := fun _ => true) h1 h2 rfl fun j x y ex ey => by
  rw [ex] at ey
  cases ey
  have f := hf x (Ce ex)
  have e := DEq.flat (K := K) (H := H) (d := 0) f f
  rw [oI f] at e
  exact e
 have e : ((Cf xs.length).all fun _ => true) = true := CS.mpr fun _ _ => rfl
 rw [e] at q
 exact q
theorem jA {xs : List V} (h1 : SqL K H a xs) (h2 : SqL K H b []) : DEq K H 1 (.ref a) (.ref b) xs.isEmpty := by
 cases xs with
 | nil => exact uG h1 h2 fun x hx => by cases hx
 | cons x r => exact DEq.len h1 h2 (by simp)
end
theorem BW {b : Bool} {A B : Prop} (h1 : b = true -> A) (h2 : b = false -> B) : if b = true then A else B := by
 cases b with
 | true => exact bH (h1 rfl)
 | false => exact bz (h2 rfl)
theorem wZ {i j : Int} {A B : Prop} (h1 : i = j -> A) (h2 : i ≠ j -> B) : if decide (V.int i = V.int j) = true then A else B := by
 by_cases h : i = j
 ·rw [if_pos (by simp [h])]; exact h1 h
 ·rw [if_neg (by simp [h])]; exact h2 h
theorem Bh {i j : Int} {A B : Prop} (h1 : i ≠ j -> A) (h2 : i = j -> B) : if (!decide (V.int i = V.int j)) = true then A else B := by
 by_cases h : i = j
 ·rw [if_neg (by simp [h])]; exact h2 h
 ·rw [if_pos (by simp [h])]; exact h1 h
theorem Ah {c : Prop} [Decidable c] {A B : Prop} (h1 : c -> A) (h2 : ¬ c -> B) : if decide c = true then A else B := by
 by_cases h : c
 ·rw [if_pos (decide_eq_true h)]; exact h1 h
 ·rw [if_neg (by simp [h])]; exact h2 h
def Bi (t u : TS) : TS := fun D σ H => ∃ P : L2.St -> Hp -> Prop, t { D with nx := P } σ H /\ ∀ σ' H', P σ' H' -> u D σ' H'
theorem w4 {X : Cx} {st : Stmt} {cW : List Stmt} {t u : TS} (h1 : PS X st t) (h2 : PSs X cW u) : PSs X (st :: cW) (Bi t u) := by
 intro pins s σ H D I h
 obtain ⟨P, ht, hu⟩ := h
 refine wpAny_execs_cons (bC (h1 pins s σ H { D with nx := P } I ht) fun f s1 q => ?_)
 cases f with
 | next =>
  obtain ⟨σ', H', I', q⟩ := q
  exact h2 pins s1 σ' H' D I' (hu σ' H' q)
 | ret v => exact q
 | brk => exact q
 | cont => exact q
section
variable {X : Cx} {tg l : Expr} {tl : TE}
end
section
variable {X : Cx} {es : List Expr} {t : TA}
end
theorem Inv.view {X : Cx} {pins : List (Addr × Obj)} {σ : L2.St} {H : Hp} {s : Shared} {a : Addr} {o : HO} (I : Inv X pins σ H s) (mu : zq (H a)) (new : ObjOk X.prog X.w (az H a o) s.heap a o) : Inv X pins σ (az H a o) s := by
 have hex : ∃ u, s.heap.get? a = some u := by
  cases q : H a with
  | none => rw [q] at mu; exact mu.elim
  | some u =>
   have lt := I.hok.lt q
   have := I.hok a u q
   rw [q] at mu
   cases u with
   | lst xs => obtain ⟨_, _, _, _, e⟩ := this; exact ⟨_, e⟩
   | dK kvs => obtain ⟨_, _, _, _, o, _, _, e, _⟩ := this; exact ⟨_, e⟩
   | dT kvs => obtain ⟨_, _, _, _, o, _, _, e, _⟩ := this; exact ⟨_, e⟩
   | set S n => obtain ⟨o, _, _, _, e, _⟩ := this; exact ⟨_, e⟩
   | ins C dx fs => obtain ⟨_, _, _, e, _⟩ := this; exact ⟨_, e⟩
   | ext φ => obtain ⟨_, e, _⟩ := this; exact e
   | _ => exact mu.elim
 exact I.write (h' := s.heap) (x := a) (e := a) (t' := s.toks) mu (.inl rfl) (fun _ _ _ e => e) hex new
theorem cS : entryFor table "dict_itemiterator.__iter__" = some Builtin.«dict_keyiterator.__iter__» :=
 entryFor_alias (id' := "dict_keyiterator.__iter__") (by kernel_rfl) rfl (by decide +kernel) (by kernel_rfl)
def DW (P : Program) (w : World) (d : Addr) (vs : List (bw × Value)) (ep : Nat) : Heap -> Prop := fun h => h.DictAt (aH P w) d vs ep
theorem DW.ok {P : Program} {w : World} {H : Hp} {h : Heap} {d : Addr} {vs : List (bw × Value)} {ep : Nat} (x : h.DictAt (aH P w) d vs ep) : ObjOk P w H h d (.ext (DW P w d vs ep)) :=
 ⟨x, by obtain ⟨o, _, e, _⟩ := x; exact ⟨o, e⟩, fun _ _ y k => y.at' k⟩
theorem mW {P : Program} {w : World} {k : bw} {u : Value} (h : (aH P w).is k u = true) : RelV (kV k) u := by
 rcases bB (k := k) (v := u) h with ⟨i, t, e1, e2⟩ | ⟨x, t, e1, e2⟩
 ·subst e1 e2; exact ⟨t, rfl⟩
 ·subst e1 e2; exact ⟨t, rfl⟩
def ya (φ : Heap -> Prop) (d : Addr) (kvs : List (bw × V)) : It :=
 ⟨fun i H => H d = some (.ext φ) /\ i < kvs.length, fun i H x H' => H' = H /\ ∃ k v, kvs[i]? = some (k, v) /\ x = kV k, fun i H => H d = some (.ext φ) /\ kvs.length <= i⟩
def Ai (φ : Heap -> Prop) (d : Addr) (kvs : List (bw × V)) : It :=
 ⟨fun i H => H d = some (.ext φ) /\ i < kvs.length, fun i H x H' => ∃ p k v, H p = none /\ kvs[i]? = some (k, v) /\ x = .ref p /\ H' = az H p (.tup [kV k, v]), fun i H => H d = some (.ext φ) /\ kvs.length <= i⟩
theorem yb {kvs : List (bw × V)} {vs : List (bw × Value)} (r : KV kvs vs) {i : Nat} (h : i < kvs.length) : ∃ k v u, kvs[i]? = some (k, v) /\ vs[i]? = some (k, u) /\ RelV v u := by
 have hl := r.length
 obtain ⟨a, ha, f⟩ := cj (i := i) (b := vs[i]) r (Ca (by omega))
 refine ⟨a.1, a.2, vs[i].2, ha, ?_, f.2⟩
 rw [Ca (by omega), f.1]
theorem lU {P : Program} {w : World} {K : PySem.W.Frag} {tg : Expr} (d it : Addr) {kvs : List (bw × V)} {vs : List (bw × Value)} {ep : Nat} (r : KV kvs vs) :
  Turn P w K tg (ya (DW P w d vs ep) d kvs) [it] it (fun i h => h.IsKeyIter it d i vs.length ep) where
 mem := by simp
 obj := fun i h st b hb => by
  have e : b = it := by simpa using hb
  subst e
  obtain ⟨o, e, c, d⟩ := st
  exact ⟨o, e, fun v z => by rw [d] at z; cases z⟩
 keep := fun i h h' st k => st.at fun o e => k it (by simp) o e
 item := by
  intro X hP hw hK hc i pins s σ H E I hf st hg
  subst hP hw hK
  obtain ⟨hd, hi⟩ := hg
  obtain ⟨dm, _⟩ := (show ObjOk X.prog X.w H s.heap d (.ext (DW X.prog X.w d vs ep)) from I.hok d _ hd)
  obtain ⟨k, v, u, e1, e2, _⟩ := yb r hi
  obtain ⟨f0, f1, f2, f3, f4, f5⟩ := hf it (by simp)
  refine wpAny_pyNext_dict_item st dm e2 fun key h' hkey st' sb => ?_
  have I1 : Inv X pins σ H { s with heap := h' } := I.turned (t' := s.toks) (fun b o hb e => (sb.2 b hb).trans e) f0 f1 f3 f4 f5
  obtain ⟨o, e, c, d'⟩ := id st'
  exact ⟨key, rfl, lI (s := { s with heap := h' }) e c d' (by decide) ⟨kV k, H, I1, mW hkey, ⟨rfl, k, v, e1, rfl⟩, st', fun b hb => (hf b hb).1⟩⟩
 done := by
  intro X hP hw hK hc i pins s σ H E I hf st hg
  subst hP hw hK
  obtain ⟨hd, hi⟩ := hg
  obtain ⟨dm, _⟩ := (show ObjOk X.prog X.w H s.heap d (.ext (DW X.prog X.w d vs ep)) from I.hok d _ hd)
  obtain ⟨f0, f1, f2, f3, f4, f5⟩ := hf it (by simp)
  have hl := r.length
  exact wpAny_pyNext_dict_end (I.ok.hd hc) st dm (CU (by omega)) fun h' eb => ⟨rfl, I.turned (t' := s.toks) (fun b o hb e => eb b o hb e) f0 f1 f3 f4 f5⟩
 self := fun _ _ _ _ _ st h => wpAny_pyIter_keyiter st h
theorem qh {P : Program} {w : World} {K : PySem.W.Frag} {es : List Expr} {k1 : Nat} {pos : Pos} (d it : Addr) {kvs : List (bw × V)} {vs : List (bw × Value)} {ep : Nat} (r : KV kvs vs) :
  Turn P w K (.Tuple es k1 pos) (Ai (DW P w d vs ep) d kvs) [it] it (fun i h => ∃ ok ov, IsItemIter h it d i vs.length ep ok ov) where
 mem := by simp
 obj := fun i h st b hb => by
  have e : b = it := by simpa using hb
  subst e
  obtain ⟨_, _, e⟩ := st
  exact ⟨_, e, fun v z => by
   have z' : Data.fields _ = Data.cell v := z
   cases z'⟩
 keep := fun i h h' st k => let ⟨a, b, e⟩ := st; ⟨a, b, k it (by simp) _ e⟩
 item := by
  intro X hP hw hK hc i pins s σ H E I hf st hg
  subst hP hw hK
  obtain ⟨hd, hi⟩ := hg
  obtain ⟨ok, ov, st⟩ := st
  obtain ⟨dm, _⟩ := (show ObjOk X.prog X.w H s.heap d (.ext (DW X.prog X.w d vs ep)) from I.hok d _ hd)
  obtain ⟨k, v, u, e1, e2, rv⟩ := yb r hi
  obtain ⟨f0, f1, f2, f3, f4, f5⟩ := hf it (by simp)
  refine wpAny_pyNext_items_item st dm e2 fun key h' hkey st' tu hz kp => ?_
  refine ⟨_, rfl, wpAny_letOwnedTupleGo_items st' fun h2 st2 sb => ?_⟩
  have hne : s.heap.objs.size ≠ it := fun z => absurd (Heap.lt_size st) (by rw [<- z]; exact DC _)
  have I1 : Inv X pins σ H { s with heap := h2 } := I.turned (t' := s.toks) (fun b o hb e => (sb.2 b hb).trans (kp b o hb e)) f0 f1 f3 f4 f5
  have fr : H s.heap.objs.size = none := I.fresh
  have e3 : h2.get? s.heap.objs.size = some { cls := .type "tuple", data := .seq #[key, u] } := (sb.2 _ hne).trans tu
  have I2 : Inv X pins σ (az H s.heap.objs.size (.tup [kV k, v])) { s with heap := h2 } := by
   have un : Un (gj X.stack) [it] H (az H s.heap.objs.size (.tup [kV k, v])) s.heap h2 := {
    keep := fun b o q _ _ hx => (sb.2 b (by simpa using hx)).trans (kp b o (by simpa using hx) q)
    slot := fun b o q _ _ hx => ⟨o.slots, (sb.2 b (by simpa using hx)).trans (kp b o (by simpa using hx) q)⟩
    free := fun b o q n hx => by rw [ah (Cy (Heap.lt_size q))]; exact n
    there := fun b o q hx => ⟨o, (sb.2 b (by simpa using hx)).trans (kp b o (by simpa using hx) q)⟩
    tups := fun b xs q => by rw [ah (ak q fr)]; exact q
    frzs := fun b o xs q => by rw [ah (ak q fr)]; exact q
    tbls := fun b ps q => ⟨#[], by rw [ah (ak q fr), q]; simp⟩ }
   refine I.call' (s' := { s with heap := h2 }) (ch := [it]) rfl un (fun b o e => ?_) I.bare (fun b hb => ?_)
   ·by_cases hb : b = s.heap.objs.size
    ·subst hb
     rw [ab] at e
     cases e
     refine ⟨bY, [key, u], .cons (mW hkey) (.cons rv .nil), _, e3, rfl, _, rfl⟩
    ·rw [ah hb] at e
     refine (I1.hok b o e).stay (fun _ _ _ q => q) (fun c q => by rw [ah (ak q fr)]; exact q) fun c xs q => by rw [ah (ak q fr)]; exact q
   ·have e : b = it := by simpa using hb
    subst e
    exact ⟨f3, f1, f4, f5⟩
  exact ⟨.ref s.heap.objs.size, _, I2, rfl, ⟨_, k, v, fr, e1, rfl, rfl⟩, ⟨key, u, st2⟩, fun b hb => by
   have e : b = it := by simpa using hb
   subst e
   rw [ah hne.symm]; exact f0⟩
 done := by
  intro X hP hw hK hc i pins s σ H E I hf st hg
  subst hP hw hK
  obtain ⟨hd, hi⟩ := hg
  obtain ⟨ok, ov, st⟩ := st
  obtain ⟨dm, _⟩ := (show ObjOk X.prog X.w H s.heap d (.ext (DW X.prog X.w d vs ep)) from I.hok d _ hd)
  obtain ⟨f0, f1, f2, f3, f4, f5⟩ := hf it (by simp)
  have hl := r.length
  exact wpAny_pyNext_items_end (I.ok.hd hc) st dm (CU (by omega)) fun h' eb => ⟨rfl, I.turned (t' := s.toks) (fun b o hb e => eb b o hb e) f0 f1 f3 f4 f5⟩
 self := fun A i s Q E st h => by
  obtain ⟨ok, ov, st⟩ := st
  have hT : s.TypeIs (.ref it) "dict_itemiterator" := ⟨_, st, rfl⟩
  refine wpAny_pyIter_slot hT F.slot_dict_itemiterator_iter (wpAny_call_entry F.slot_dict_itemiterator_iter hT cS ?_ (F.args_dict_itemiterator_iter_1 _))
  show wpAny _ _ (ret (.ref it)) _ _ s
  exact wpAny_pure ⟨_, rfl, "dict_itemiterator", _, hT, F.slot_dict_itemiterator_next.lookup, h⟩
section
variable {X : Cx} {tg l : Expr} {tl : TE}
def Aj (tl : TE) : TI := fun σ H R => tl σ H fun x H1 => ∃ d kvs, x = .ref d /\ H1 d = some (.dK kvs) /\ ∀ φ, R (ya φ d kvs) (az H1 d (.ext φ))
theorem w6 (hl : PE X l tl) : PI X tg l (Aj tl) := by
 intro pins s σ H R I h
 refine bC (hl pins s σ H _ I h) fun v s1 hq__ => ?_
 obtain ⟨x, H1, I1, r1, q1⟩ := hq__
 obtain ⟨d, kvs, e, hd, q⟩ := q1
 subst e
 cases r1
 obtain ⟨hz, hm, vs, r, dd⟩ := jU I1.hok hd
 obtain ⟨ep, da⟩ := dd.dictAt
 have I2 : Inv X pins σ (az H1 d (.ext (DW X.prog X.w d vs ep))) s1 := I1.view (by rw [hd]; trivial) (DW.ok da)
 refine wpAny_pyIter_dict hm da ?_
 refine ⟨s1.heap.objs.size, [s1.heap.objs.size], _, _, _, rfl, I2.kept (t' := s1.toks) fun b o e => Heap.get?_push_of_some _ e, lU d _ r, ⟨_, Heap.get?_push_size _ rfl, rfl, rfl⟩, fun b hb => ?_, q _⟩
 have e : b = s1.heap.objs.size := by simpa using hb
 subst e
 exact I2.fpOk (Cg _) (I2.hok.fresh (Cg _))
def VW (v d : Addr) : Heap -> Prop := fun h => h.IsItemsView v d
theorem oM : AL X "dict.items" (fun x xs H Q => ∃ d kvs, x = .ref d /\ xs = [] /\ H d = some (.dK kvs) /\ ∀ v, H v = none -> Q (.ref v) (az H v (.ext (VW v d)))) := by
 intro pins s σ H x xs v us Q I rx rv h
 obtain ⟨d, kvs, e, e2, hd, q⟩ := h
 subst e e2
 cases rx
 have hus := rv.zero
 subst hus
 obtain ⟨hz, hm, vs, r, dd⟩ := jU I.hok hd
 refine call_meetsIn PySem.F.slot_dict_items dd.typeIs PySem.F.entry_dict_items (PySem.F.args_dict_items_1 _) (meets_dict_items (aH X.prog X.w) d hm) ⟨⟨vs, dd⟩, ?_⟩
 refine ⟨.ref s.heap.objs.size, _, I.laid (t' := s.toks) (fun b o e => Heap.get?_push_of_some _ e) (Cg _) ?_, rfl, q _ I.fresh⟩
 exact ⟨⟨_, Heap.get?_push_size _ rfl, rfl, rfl⟩, ⟨_, Heap.get?_push_size _ rfl⟩, fun h1 h2 ⟨o, e, c⟩ k => ⟨o, k o e, c⟩⟩
def yQ (tl : TE) : TI := fun σ H R => tl σ H fun x H1 => ∃ v d kvs, x = .ref v /\ H1 v = some (.ext (VW v d)) /\ H1 d = some (.dK kvs) /\ ∀ φ, R (Ai φ d kvs) (az H1 d (.ext φ))
theorem uH {es : List Expr} {k1 : Nat} {pos : Pos} (hl : PE X l tl) : PI X (.Tuple es k1 pos) l (yQ tl) := by
 intro pins s σ H R I h
 refine bC (hl pins s σ H _ I h) fun v s1 hq__ => ?_
 obtain ⟨x, H1, I1, r1, q1⟩ := hq__
 obtain ⟨v, d, kvs, e, hv, hd, q⟩ := q1
 subst e
 cases r1
 obtain ⟨hz, hm, vs, r, dd⟩ := jU I1.hok hd
 obtain ⟨ep, da⟩ := dd.dictAt
 obtain ⟨vw, _⟩ := (show ObjOk X.prog X.w H1 s1.heap v (.ext (VW v d)) from I1.hok v _ hv)
 have I2 : Inv X pins σ (az H1 d (.ext (DW X.prog X.w d vs ep))) s1 := I1.view (by rw [hd]; trivial) (DW.ok da)
 refine wpAny_pyIter_items vw da ?_
 refine ⟨s1.heap.objs.size, [s1.heap.objs.size], _, _, _, rfl, I2.kept (t' := s1.toks) fun b o e => Heap.get?_push_of_some _ e, qh d _ r, ⟨.none, .none, Heap.get?_push_size _ rfl⟩, fun b hb => ?_, q _⟩
 have e : b = s1.heap.objs.size := by simpa using hb
 subst e
 exact I2.fpOk (Cg _) (I2.hok.fresh (Cg _))
theorem sI {φ : Heap -> Prop} {d : Addr} {kvs : List (bw × V)} {g : TG} {tb : TS} {D : Ends} {σ : L2.St} {H : Hp} (Pv : Nat -> L2.St -> Hp -> Prop) (h0 : Pv 0 σ H) (hw : ∀ i σ H, i <= kvs.length -> Pv i σ H -> H d = some (.ext φ))
  (hs : ∀ i k v σ H p, kvs[i]? = some (k, v) -> Pv i σ H -> H p = none -> g (.ref p) σ (az H p (.tup [kV k, v])) fun σ2 H2 => tb { D with nx := Pv (i + 1), ct := Pv (i + 1), bk := D.nx } σ2 H2) (hd : ∀ σ H, Pv kvs.length σ H -> D.nx σ H) :
  ∃ W : Nat -> Nat -> L2.St -> Hp -> Prop, (∃ m, W 0 m σ H) /\ ∀ i m σ H, W i m σ H ->
   ((Ai φ d kvs).stop i H /\ D.nx σ H) \/ ((Ai φ d kvs).go i H /\ ∃ N : L2.St -> Hp -> Prop, (∀ σ' H', N σ' H' -> ∃ m', m' < m /\ W (i + 1) m' σ' H') /\ ∀ v H', (Ai φ d kvs).yld i H v H' -> g v σ H' fun σ2 H2 => tb { D with nx := N, ct := N, bk := D.nx } σ2 H2) := by
 refine ⟨fun i m σ H => m = kvs.length - i /\ i <= kvs.length /\ Pv i σ H, ⟨kvs.length, by simp, CK _, h0⟩, ?_⟩
 rintro i m σ H ⟨rfl, hi, p⟩
 by_cases hlt : i < kvs.length
 ·refine .inr ⟨⟨hw i σ H hi p, hlt⟩, Pv (i + 1), fun σ' H' p' => ⟨kvs.length - (i + 1), C2 _ _ hlt, rfl, hlt, p'⟩, fun v H' y => ?_⟩
  obtain ⟨q, k, v', hn, e, e2, e3⟩ := y
  subst e2 e3
  exact hs i k v' σ H q e p hn
 ·have e : i = kvs.length := Ds hi (Dg hlt)
  subst e
  exact .inl ⟨⟨hw _ σ H hi p, Cg _⟩, hd σ H p⟩
end
theorem sJ {H1 : Hp} {js : List (Option Nat)} {σ : L2.St} {te : TE} {Q : VK} {φ : Heap -> Prop} {d : Addr} {kvs : List (bw × V)} (f : bw -> V) (hn : kvs.length < 100000) (hd : H1 d = some (.ext φ))
  (he : ∀ (i : Nat) k v, kvs[i]? = some (k, v) -> ∀ H2 R, Same H1 H2 -> (∀ H3, Same H2 H3 -> R (f k) H3) -> te (some (kV k) :: bX σ js) H2 R)
  (hQ : ∀ acc H', Same H1 H' -> H1 acc = none -> H' acc = some (.lst (kvs.map fun p => f p.1)) -> Q (.ref acc) H') : cg (ya φ d kvs) H1 (none :: js) (bS 0) eI te σ Q :=
 iB (J := ya φ d kvs) (H1 := H1) (js := js) (σ := σ) (tc := eI) (te := te) (Q := Q) kvs.length (fun i => ((kvs[i]?).map fun p => kV p.1).getD .non) (fun _ => true) (fun _ i v _ => v = ((kvs[i]?).map fun p => f p.1).getD .non) hn (fun _ _ _ _ _ h _ => h)
  (fun _ H h s => ⟨s _ _ hd, h⟩) (fun H s => ⟨s _ _ hd, Cg _⟩)
  (fun i H x H' h s y => ⟨y.1, by obtain ⟨_, k, v, e, ex⟩ := y; rw [e, ex]; rfl⟩)
  (fun _ _ _ _ _ h => h)
  (fun _ i hi _ H2 R s _ _ k => by
   have e : kvs[i]? = some (kvs[i].1, kvs[i].2) := Ca hi
   rw [e]
   exact he i _ _ e H2 R s fun H3 s3 => k _ H3 s3 (by rw [e]; rfl))
  fun acc vs H' s n' e p => hQ acc H' s n' (by
   rw [e, cw p, CZ.mpr (fun _ _ => rfl)]
   congr 1; congr 1
   apply Ea
   intro i
   rw [Cd, Cd]
   by_cases hi : i < kvs.length
   ·rw [Dj hi, DG, Ca hi]; rfl
   ·rw [CU (by simp; omega), CU (by omega)]; rfl)
end L2
namespace L2
abbrev HK := List (bw × V)
def rf (kvs : HK) (q : Nat) : Nat := (kvs.map (·.2)).count (V.int q)
def sL (p : Prop) [Decidable p] : Nat := if p then 1 else 0
def eY (as : List Int) : HK := as.map fun b => (Sum.inl b, V.bl true)
theorem mX (p q : Nat) : (V.int (p : Int) == V.int (q : Int)) = decide (q = p) := by
 by_cases h : q = p
 ·subst h; simp
 ·have : ¬ (V.int (p : Int) = V.int (q : Int)) := fun e => h (by injection e with e; omega)
  simp [h, this]
theorem w8 {kvs : HK} {k : bw} {p q : Nat} (h : a8 kvs k = none) : rf (b3 kvs k (.int p)) q = rf kvs q + sL (q = p) := by
 have a : ¬ (kvs.any fun kv => decide (kv.1 = k)) = true := by rw [b9, h]; simp
 unfold rf b3 sL
 rw [if_neg a, Cn, List.count_append]
 simp only [Co, Ed, DV, List.count_nil, mX]
 by_cases e : q = p <;> simp [e]
theorem qi {k : bw} {y : V} {kvs : HK} (h : ¬ k ∈ kvs.map (·.1)) : (kvs.map fun kv => if kv.1 = k then (kv.1, y) else kv) = kvs := by
 induction kvs with
 | nil => rfl
 | cons p r ih =>
  rw [Co, Cr] at h
  rw [Co, if_neg (fun e => h (.inl e.symm)), ih (fun m => h (.inr m))]
theorem w9 : ∀ {kvs : HK} {k : bw} {p p0 q : Nat}, (kvs.map (·.1)).Nodup -> a8 kvs k = some (.int p0) -> rf (b3 kvs k (.int p)) q + sL (q = p0) = rf kvs q + sL (q = p) := by
 intro kvs k p p0 q nd h
 have a : (kvs.any fun kv => decide (kv.1 = k)) = true := by rw [b9, h]; rfl
 unfold b3
 rw [if_pos a]
 clear a
 induction kvs with
 | nil => cases h
 | cons e r ih =>
  have nd' : (e.1 :: r.map (·.1)).Nodup := nd
  obtain ⟨n1, n2⟩ := C5.mp nd'
  by_cases ek : e.1 = k
  ·rw [bL ek] at h
   have hv : e.2 = V.int p0 := Option.some.inj h
   rw [Co, if_pos ek, qi (by rw [<- ek]; exact n1)]
   unfold rf sL
   rw [Co, Co, DV, DV, hv, mX, mX]
   simp only [decide_eq_true_eq]
   omega
  ·rw [bM ek] at h
   have := ih n2 h
   rw [Co, if_neg ek]
   unfold rf sL at *
   rw [Co, Co, DV, DV]
   omega
theorem uI {kvs : HK} {k : bw} {v : V} (nd : (kvs.map (·.1)).Nodup) : ((b3 kvs k v).map (·.1)).Nodup := by
 cases h : a8 kvs k with
 | none => exact wL v nd h
 | some x =>
  have a : (kvs.any fun kv => decide (kv.1 = k)) = true := by rw [b9, h]; rfl
  unfold b3
  rw [if_pos a, CB]
  have e : ((fun x : bw × V => x.1) ∘ fun kv : bw × V => if kv.1 = k then (kv.1, v) else kv) = fun x => x.1 := by
   funext x
   show (if x.1 = k then (x.1, v) else x).1 = x.1
   split <;> rfl
  rw [e]; exact nd
theorem xa {kvs : HK} {k : bw} {v : V} {e : bw × V} (h : e ∈ b3 kvs k v) : e = (k, v) \/ e ∈ kvs := by
 unfold b3 at h
 split at h
 ·obtain ⟨x, hx, ex⟩ := Ci.mp h
  by_cases c : x.1 = k
  ·rw [if_pos c] at ex
   left; rw [<- ex, c]
  ·rw [if_neg c] at ex
   right; rw [<- ex]; exact hx
 ·rcases CC.mp h with m | m
  ·exact .inr m
  ·exact .inl (Cm.mp m)
theorem gM {kvs : HK} {k : bw} {v : V} (h : a8 kvs k = some v) : (k, v) ∈ kvs := by
 unfold a8 at h
 obtain ⟨x, hx, e⟩ := Cj.mp h
 have := List.find?_some hx
 have e1 : x.1 = k := of_decide_eq_true this
 have := List.mem_of_find?_eq_some hx
 rw [<- e1, <- e]; exact this
theorem i5 {kvs : HK} {k : bw} {v : V} (nd : (kvs.map (·.1)).Nodup) (m : (k, v) ∈ kvs) : a8 kvs k = some v := by
 induction kvs with
 | nil => cases m
 | cons e r ih =>
  obtain ⟨n1, n2⟩ := C5.mp (show (e.1 :: r.map (·.1)).Nodup from nd)
  rcases Cr.mp m with h | h
  ·subst h; exact bL rfl
  ·have : ¬ e.1 = k := fun z => n1 (by rw [z]; exact Ci.mpr ⟨_, h, rfl⟩)
   rw [bM this]; exact ih n2 h
theorem oN (as : List Int) (b : Int) : a8 (eY as) (Sum.inl b) = if b ∈ as then some (V.bl true) else none := by
 induction as with
 | nil => rfl
 | cons a r ih =>
  show a8 ((Sum.inl a, V.bl true) :: eY r) _ = _
  by_cases e : a = b
  ·subst e; rw [bL rfl]; simp
  ·rw [bM (fun z => e (Sum.inl.inj z)), ih]
   have : ¬ b = a := fun z => e z.symm
   simp [this]
theorem uJ {as : List Int} {b : Int} (h : ¬ b ∈ as) : b3 (eY as) (Sum.inl b) (V.bl true) = eY (as ++ [b]) := by
 have a : ¬ ((eY as).any fun kv => decide (kv.1 = Sum.inl b)) = true := by rw [b9, oN, if_neg h]; simp
 unfold b3
 rw [if_neg a]
 unfold eY
 rw [Cn]; rfl
def Good (ps : List (List Int)) (kvs : HK) : Prop := ∀ e ∈ kvs, ∃ (b : Int) (q : Nat) (p : List Int), e = (Sum.inl b, V.int q) /\ ps[q]? = some p /\ b ∈ p
theorem Good.put {ps : List (List Int)} {kvs : HK} (g : Good ps kvs) {b : Int} {q : Nat} {p : List Int} (h : ps[q]? = some p) (hb : b ∈ p) : Good ps (b3 kvs (Sum.inl b) (.int q)) := fun e he => by
 rcases xa he with z | z
 ·exact ⟨b, q, p, z, h, hb⟩
 ·exact g e z
theorem Good.val {ps : List (List Int)} {kvs : HK} (g : Good ps kvs) {b : Int} {v : V} (h : a8 kvs (Sum.inl b) = some v) : ∃ (q : Nat) (p : List Int), v = .int q /\ ps[q]? = some p /\ b ∈ p := by
 obtain ⟨b', q, p, e, h1, h2⟩ := g _ (gM h)
 injection e with e1 e2
 cases e1
 exact ⟨q, p, e2, h1, h2⟩
def BK (ps : List (List Int)) (kvs : HK) (as as' : List Int) : Prop := ∀ b ∈ as', b ∉ as -> ∃ (q : Nat) (p : List Int), a8 kvs (Sum.inl b) = some (.int q) /\ ps[q]? = some p /\ ∀ c ∈ p, c ∈ as'
structure Sett (ps : List (List Int)) (U : List Int) (pl : Nat) (kvs : HK) (as : List Int) (ok : Bool) (kvs' : HK) (as' : List Int) : Prop where
 grow : ∀ b ∈ as, b ∈ as'
 nd : as'.Nodup
 sub : ∀ b ∈ as', b ∈ U
 no : ok = false -> kvs' = kvs /\ (∀ p, ps[pl]? = some p -> ∀ b ∈ p, b ∈ as') /\ BK ps kvs as as'
 yes : ok = true -> (kvs'.map (·.1)).Nodup /\ Good ps kvs' /\ (∀ q, rf kvs' q = rf kvs q + sL (q = pl)) /\ (∀ b ∈ as, a8 kvs' (Sum.inl b) = a8 kvs (Sum.inl b)) /\ kvs'.length <= kvs.length + U.length
structure SLoop (ps : List (List Int)) (U : List Int) (p : List Int) (kvs : HK) (as : List Int) (i : Nat) (ai : List Int) : Prop where
 grow : ∀ b ∈ as, b ∈ ai
 nd : ai.Nodup
 sub : ∀ b ∈ ai, b ∈ U
 past : ∀ b ∈ p.take i, b ∈ ai
 clo : BK ps kvs as ai
theorem fY {p : List Int} {i : Nat} {b c : Int} (h : p[i]? = some b) (hc : c ∈ p.take (i + 1)) : c ∈ p.take i \/ c = b := by
 rw [Dp, h] at hc
 rcases CC.mp hc with z | z
 ·exact .inl z
 ·exact .inr (by simpa using z)
theorem SLoop.skip {ps : List (List Int)} {U p : List Int} {kvs : HK} {as ai : List Int} {i : Nat} {b : Int} (s : SLoop ps U p kvs as i ai) (h : p[i]? = some b) (hb : b ∈ ai) : SLoop ps U p kvs as (i + 1) ai :=
 ⟨s.grow, s.nd, s.sub, fun c hc => (fY h hc).elim (s.past c) (fun e => e ▸ hb), s.clo⟩
theorem SLoop.miss {ps : List (List Int)} {U p : List Int} {kvs : HK} {as ai : List Int} {i q : Nat} {b : Int} {kvs2 : HK} {as2 : List Int} (s : SLoop ps U p kvs as i ai) (h : p[i]? = some b) (hb : b ∉ ai) (hq : a8 kvs (Sum.inl b) = some (.int q)) (hl : q < ps.length)
  (r : Sett ps U q kvs (ai ++ [b]) false kvs2 as2) : kvs2 = kvs /\ SLoop ps U p kvs as (i + 1) as2 := by
 obtain ⟨e, h1, h2⟩ := r.no rfl
 have g : ∀ c ∈ ai, c ∈ as2 := fun c hc => r.grow c (CA _ hc)
 have gb : b ∈ as2 := r.grow b (by simp)
 refine ⟨e, fun c hc => g c (s.grow c hc), r.nd, r.sub, fun c hc => (fY h hc).elim (fun z => g c (s.past c z)) (fun e => e ▸ gb), fun c hc hn => ?_⟩
 by_cases c1 : c ∈ ai
 ·obtain ⟨q', p', a1, a2, a3⟩ := s.clo c c1 hn
  exact ⟨q', p', a1, a2, fun d hd => g d (a3 d hd)⟩
 ·by_cases c2 : c = b
  ·subst c2
   exact ⟨q, ps[q], hq, Ca hl, h1 _ (Ca hl)⟩
  ·exact h2 c hc (by simp [c1, c2])
theorem SLoop.free {ps : List (List Int)} {U p : List Int} {kvs : HK} {as ai : List Int} {i pl : Nat} {b : Int} (s : SLoop ps U p kvs as i ai) (hp : ps[pl]? = some p) (hU : ∀ b ∈ p, b ∈ U) (h : p[i]? = some b) (hb : b ∉ ai) (hq : a8 kvs (Sum.inl b) = none)
  (nd : (kvs.map (·.1)).Nodup) (g : Good ps kvs) : Sett ps U pl kvs as true (b3 kvs (Sum.inl b) (.int pl)) (ai ++ [b]) where
 grow := fun c hc => CA _ (s.grow c hc)
 nd := eG s.nd hb
 sub := fun c hc => (CC.mp hc).elim (s.sub c) fun z => by rw [Cm.mp z]; exact hU b (Ce h)
 no := fun e => by cases e
 yes := fun _ => ⟨uI nd, g.put hp (Ce h), fun q => w8 hq, fun c hc => by
  rw [jS, if_neg (fun e => hb (by cases e; exact s.grow _ hc))], by
  have h1 := dB kvs (Sum.inl b) (V.int (pl : Int))
  have h2 : 0 < U.length := List.length_pos_of_mem (hU b (Ce h))
  omega⟩
theorem SLoop.turn {ps : List (List Int)} {U p : List Int} {kvs : HK} {as ai : List Int} {i pl q : Nat} {b : Int} {kvs2 : HK} {as2 : List Int} (s : SLoop ps U p kvs as i ai) (hp : ps[pl]? = some p) (h : p[i]? = some b) (hb : b ∉ ai)
  (hq : a8 kvs (Sum.inl b) = some (.int q)) (r : Sett ps U q kvs (ai ++ [b]) true kvs2 as2) : Sett ps U pl kvs as true (b3 kvs2 (Sum.inl b) (.int pl)) as2 := by
 obtain ⟨n2, g2, c2, v2, l2⟩ := r.yes rfl
 have hb2 : a8 kvs2 (Sum.inl b) = some (.int q) := (v2 b (by simp)).trans hq
 refine ⟨fun c hc => r.grow c (CA _ (s.grow c hc)), r.nd, r.sub, (fun e => by cases e), fun _ => ⟨uI n2, g2.put hp (Ce h), fun t => ?_, fun c hc => ?_, ?_⟩⟩
 ·have h1 := w9 (p := pl) (q := t) n2 hb2
  have h2 := c2 t
  omega
 ·rw [jS, if_neg (fun e => hb (by cases e; exact s.grow _ hc)), v2 c (CA _ (s.grow c hc))]
 ·have a : (kvs2.any fun kv => decide (kv.1 = Sum.inl b)) = true := by rw [b9, hb2]; rfl
  unfold b3
  rw [if_pos a, B9]; exact l2
theorem SLoop.done {ps : List (List Int)} {U p : List Int} {kvs : HK} {as ai : List Int} {pl : Nat} (s : SLoop ps U p kvs as p.length ai) (hp : ps[pl]? = some p) : Sett ps U pl kvs as false kvs ai :=
 ⟨s.grow, s.nd, s.sub, fun _ => ⟨rfl, fun p' e b hb => by
  rw [hp] at e; cases e
  exact s.past b (by rw [C0]; exact hb), s.clo⟩, fun e => by cases e⟩
theorem xb {U ai as : List Int} {b : Int} (hU : b ∈ U) (hb : b ∉ ai) (g : ∀ c ∈ as, c ∈ ai) : (U.filter fun c => decide (c ∉ ai ++ [b])).length < (U.filter fun c => decide (c ∉ as)).length := by
 induction U with
 | nil => cases hU
 | cons u r ih =>
  have le : ∀ l : List Int, (l.filter fun c => decide (c ∉ ai ++ [b])).length <= (l.filter fun c => decide (c ∉ as)).length := fun l => by
   induction l with
   | nil => exact Cg _
   | cons x t ih =>
    by_cases hx : x ∈ as
    ·rw [Dd (by simp [g x hx]), Dd (by simp [hx])]; exact ih
    ·rw [Dt (p := fun c => decide (c ∉ as)) (by simp [hx])]
     by_cases hy : x ∈ ai ++ [b]
     ·rw [Dd (by simp only [decide_eq_true_eq]; exact fun z => z hy), CF]; omega
     ·rw [Dt (by simp only [decide_eq_true_eq]; exact hy), CF, CF]; omega
  have hbs : b ∉ as := fun z => hb (g b z)
  by_cases e : u = b
  ·subst e
   rw [Dd (by simp), Dt (p := fun c => decide (c ∉ as)) (by simp [hbs]), CF]
   have := le r
   omega
  ·have hr : b ∈ r := (Cr.mp hU).resolve_left fun z => e z.symm
   have := ih hr
   by_cases hx : u ∈ as
   ·rw [Dd (by simp [g u hx]), Dd (by simp [hx])]; exact this
   ·rw [Dt (p := fun c => decide (c ∉ as)) (by simp [hx])]
    by_cases hy : u ∈ ai ++ [b]
    ·rw [Dd (by simp only [decide_eq_true_eq]; exact fun z => z hy), CF]; omega
    ·rw [Dt (by simp only [decide_eq_true_eq]; exact hy), CF, CF]; omega
structure Deal (ps : List (List Int)) (hs : List Int) : Prop where
 len : hs.length = ps.length
 of : ∀ k (h1 : k < hs.length) (h2 : k < ps.length), hs[k] ∈ ps[k]
 nd : hs.Nodup
structure Short (ps : List (List Int)) (ms : List Nat) : Prop where
 up : ms.Pairwise (· < ·)
 few : ∃ X : List Int, X.length < ms.length /\ ∀ q ∈ ms, ∃ p, ps[q]? = some p /\ ∀ c ∈ p, c ∈ X
structure Held (ps : List (List Int)) (kvs : HK) (n : Nat) : Prop where
 nd : (kvs.map (·.1)).Nodup
 good : Good ps kvs
 one : ∀ q, rf kvs q = sL (q < n)
theorem Held.start {ps : List (List Int)} : Held ps [] 0 := ⟨Eb, fun _ h => (by cases h), fun q => by unfold rf sL; simp⟩
theorem Held.next {ps : List (List Int)} {U : List Int} {kvs kvs' : HK} {n : Nat} {as' : List Int} (h : Held ps kvs n) (r : Sett ps U n kvs [] true kvs' as') : Held ps kvs' (n + 1) := by
 obtain ⟨a, b, c, _⟩ := r.yes rfl
 refine ⟨a, b, fun q => ?_⟩
 rw [c q, h.one q]
 unfold sL
 by_cases h1 : q < n
 ·rw [if_pos h1, if_neg (by omega), if_pos (by omega)]
 ·by_cases h2 : q = n
  ·rw [if_neg h1, if_pos h2, if_pos (by omega)]
  ·rw [if_neg h1, if_neg h2, if_neg (by omega)]
theorem jZ {α : Type} [DecidableEq α] {l : List α} (h : ∀ a, l.count a <= 1) : l.Nodup := by
 induction l with
 | nil => exact Eb
 | cons x r ih =>
  refine C5.mpr ⟨fun m => ?_, ih fun a => ?_⟩
  ·have q := h x
   have h2 := Ez.mpr m
   rw [List.count_cons_self] at q
   exact absurd h2 (Nat.not_lt_of_le (Nat.le_of_succ_le_succ q))
  ·have q := h a
   rw [DV] at q
   exact CO (Eg _ _) q
theorem Held.vals {ps : List (List Int)} {kvs : HK} {n : Nat} (h : Held ps kvs n) : (kvs.map (·.2)).Nodup := jZ fun a => by
 by_cases m : a ∈ kvs.map (·.2)
 ·obtain ⟨e, he, ea⟩ := Ci.mp m
  obtain ⟨b, q, p, e1, _⟩ := h.good e he
  have ea' : a = V.int q := by rw [<- ea, e1]
  have := h.one q
  unfold rf sL at this
  rw [ea', this]
  split <;> omega
 ·rw [List.count_eq_zero_of_not_mem m]; omega
theorem Held.lt {ps : List (List Int)} {kvs : HK} {n : Nat} (h : Held ps kvs n) {k : bw} {q : Nat} (m : (k, V.int q) ∈ kvs) : q < n := by
 have h1 : V.int (q : Int) ∈ kvs.map (·.2) := Ci.mpr ⟨_, m, rfl⟩
 have h2 := Ez.mpr h1
 have := h.one q
 unfold rf sL at this
 rw [this] at h2
 split at h2
 ·assumption
 ·omega
theorem Held.mem {ps : List (List Int)} {kvs : HK} {n q : Nat} (h : Held ps kvs n) (hq : q < n) : ∃ (b : Int) (p : List Int), (Sum.inl b, V.int q) ∈ kvs /\ ps[q]? = some p /\ b ∈ p := by
 have := h.one q
 unfold rf sL at this
 rw [if_pos hq] at this
 have h1 : V.int (q : Int) ∈ kvs.map (·.2) := Ez.mp (by omega)
 obtain ⟨e, he, ea⟩ := Ci.mp h1
 obtain ⟨b, q', p, e1, e2, e3⟩ := h.good e he
 subst e1
 have : q' = q := by
  have z : V.int (q' : Int) = V.int q := ea
  injection z with z
  omega
 subst this
 exact ⟨b, p, he, e2, e3⟩
theorem Held.key {ps : List (List Int)} {kvs : HK} {n q q' : Nat} {b : Int} (h : Held ps kvs n) (h1 : (Sum.inl b, V.int q) ∈ kvs) (h2 : (Sum.inl b, V.int q') ∈ kvs) : q = q' := by
 have a := i5 h.nd h1
 have c := i5 h.nd h2
 rw [a] at c
 have c := Option.some.inj c
 injection c with c
 omega
theorem Held.inj {ps : List (List Int)} {kvs : HK} {n q : Nat} {k k' : bw} (h : Held ps kvs n) (h1 : (k, V.int q) ∈ kvs) (h2 : (k', V.int q) ∈ kvs) : k = k' := by
 obtain ⟨i, hi, ei⟩ := Cq.mp h1
 obtain ⟨j, hj, ej⟩ := Cq.mp h2
 have nd := h.vals
 have e : (kvs.map (·.2))[i]'(by simpa using hi) = (kvs.map (·.2))[j]'(by simpa using hj) := by simp [ei, ej]
 have := (Dx nd).mp e
 subst this
 rw [ei] at ej
 exact congrArg Prod.fst ej
theorem Held.deal {ps : List (List Int)} {kvs : HK} {hs : List Int} (h : Held ps kvs ps.length) (hl : hs.length = ps.length) (e : ∀ b (q : Nat), (Sum.inl b, V.int q) ∈ kvs -> hs[q]? = some b) : Deal ps hs := by
 refine ⟨hl, fun k h1 h2 => ?_, ?_⟩
 ·obtain ⟨b, p, m, e2, e3⟩ := h.mem h2
  have := e b k m
  rw [Ca h1] at this
  rw [Option.some.inj this]
  rw [Ca h2] at e2
  rw [Option.some.inj e2]; exact e3
 ·rw [Cu, De]
  intro i j hi hj hij z
  obtain ⟨b, _, m, _, _⟩ := h.mem (q := i) (by omega)
  obtain ⟨c, _, m', _, _⟩ := h.mem (q := j) (by omega)
  have e1 := e b i m
  have e2 := e c j m'
  rw [Ca hi] at e1
  rw [Ca hj] at e2
  have e1 := Option.some.inj e1
  have e2 := Option.some.inj e2
  have : b = c := by rw [<- e1, <- e2]; exact z
  subst this
  have := h.key m m'
  omega
def hold (kvs : HK) (b : Int) : Int := match a8 kvs (Sum.inl b) with
 | some (.int i) => i
 | _ => 0
theorem gN {kvs : HK} {b i : Int} (h : a8 kvs (Sum.inl b) = some (.int i)) : hold kvs b = i := by unfold hold; rw [h]
theorem Held.short {ps : List (List Int)} {U : List Int} {kvs kvs' : HK} {n : Nat} {as' : List Int} {ms : List Int} (h : Held ps kvs n) (hn : n < ps.length) (r : Sett ps U n kvs [] false kvs' as') (hp : ms.Perm ((n : Int) :: as'.map (hold kvs))) (hs : ms.Pairwise (· <= ·)) :
  ∃ qs : List Nat, ms = qs.map Int.ofNat /\ Short ps qs := by
 obtain ⟨_, h1, h2⟩ := r.no rfl
 have hv : ∀ b ∈ as', ∃ (q : Nat) (p : List Int), a8 kvs (Sum.inl b) = some (.int q) /\ ps[q]? = some p /\ ∀ c ∈ p, c ∈ as' := fun b hb => h2 b hb (by simp)
 have nd0 : ((n : Int) :: as'.map (hold kvs)).Nodup := by
  refine C5.mpr ⟨fun m => ?_, ?_⟩
  ·obtain ⟨b, hb, e⟩ := Ci.mp m
   obtain ⟨q, p, a1, _⟩ := hv b hb
   rw [gN a1] at e
   have := h.lt (gM a1)
   omega
  ·rw [Cu, Dk]
   refine List.Pairwise.imp_of_mem (R := (· ≠ ·)) ?_ (Cu.mp r.nd)
   intro b c hb hc hne z
   obtain ⟨q, p, a1, _⟩ := hv b hb
   obtain ⟨q', p', a2, _⟩ := hv c hc
   rw [gN a1, gN a2] at z
   have : q = q' := by omega
   subst this
   have := h.inj (gM a1) (gM a2)
   exact hne (Sum.inl.inj this)
 have ndm : ms.Nodup := hp.nodup_iff.mpr nd0
 have nn : ∀ m ∈ ms, ∃ q : Nat, m = Int.ofNat q /\ ∃ p, ps[q]? = some p /\ ∀ c ∈ p, c ∈ as' := fun m hm => by
  rcases Cr.mp (hp.mem_iff.mp hm) with e | e
  ·exact ⟨n, e, ps[n], Ca hn, h1 _ (Ca hn)⟩
  ·obtain ⟨b, hb, e⟩ := Ci.mp e
   obtain ⟨q, p, a1, a2, a3⟩ := hv b hb
   rw [gN a1] at e
   exact ⟨q, e.symm, p, a2, a3⟩
 refine ⟨ms.map Int.toNat, ?_, ?_, as', ?_, fun q hq => ?_⟩
 ·rw [CB]
  have : ∀ m ∈ ms, (Int.ofNat ∘ Int.toNat) m = m := fun m hm => by
   obtain ⟨q, e, _⟩ := nn m hm
   rw [e]; rfl
  exact ((Cv this).trans (List.map_id _)).symm
 ·rw [Dk]
  have both : ms.Pairwise fun a b => a <= b /\ a ≠ b := hs.and (Cu.mp ndm)
  refine List.Pairwise.imp_of_mem ?_ both
  intro a b ha hb ⟨h1, h2⟩
  obtain ⟨q, e, _⟩ := nn a ha
  obtain ⟨q', e', _⟩ := nn b hb
  subst e e'
  have : (q : Int) <= q' := h1
  have h3 : (q : Int) ≠ q' := h2
  show q < q'
  omega
 ·rw [B9, hp.length_eq, CF, B9]; omega
 ·obtain ⟨m, hm, e⟩ := Ci.mp hq
  obtain ⟨q', e', z⟩ := nn m hm
  subst e'
  have : q = q' := by rw [<- e]; rfl
  subst this
  exact z
end L2
namespace L2
open PySem PySem.Spec PyProof.Rows
def SameX (ex : List Addr) (H H' : Hp) : Prop := ∀ b o, b ∉ ex -> H b = some o -> H' b = some o
theorem SameX.refl {ex : List Addr} {H : Hp} : SameX ex H H := fun _ _ _ h => h
theorem SameX.trans {ex : List Addr} {H H1 H2 : Hp} (a : SameX ex H H1) (b : SameX ex H1 H2) : SameX ex H H2 := fun c o n h => b c o n (a c o n h)
theorem SameX.upd {ex : List Addr} {H : Hp} {a : Addr} {o : HO} (h : a ∈ ex) : SameX ex H (az H a o) := fun b u n e => by rw [ah (fun z : b = a => n (by rw [z]; exact h))]; exact e
theorem Same.x {ex : List Addr} {H H' : Hp} (s : Same H H') : SameX ex H H' := fun b o _ h => s b o h
def uK (H : Hp) (a : Addr) : Prop := ∃ kvs, H a = some (.dK kvs)
theorem SameX.seq {K : PySem.W.Frag} {ex : List Addr} {H H' : Hp} {a : Addr} {xs : List V} (s : SameX ex H H') (hx : ∀ x ∈ ex, uK H x) (h : SqL K H a xs) : SqL K H' a xs := by
 have ne : ∀ u, H a = some u -> (∀ kvs, u ≠ .dK kvs) -> a ∉ ex := fun u e n m => by
  obtain ⟨kvs, q⟩ := hx a m
  rw [e] at q
  exact n kvs (Option.some.inj q)
 rcases h with (h | ⟨o, h⟩) | h
 ·exact .inl (.inl (s _ _ (ne _ h (fun _ z => by cases z)) h))
 ·exact .inl (.inr ⟨o, s _ _ (ne _ h (fun _ z => by cases z)) h⟩)
 ·exact .inr h
def PoolsL (K : PySem.W.Frag) (H : Hp) (rs : List Addr) (ps : List (List Int)) : Prop := Paired (fun r p => SqL K H r (p.map V.int)) rs ps
theorem PoolsL.mono {K : PySem.W.Frag} {ex : List Addr} {H H' : Hp} {rs : List Addr} {ps : List (List Int)} (h : PoolsL K H rs ps) (s : SameX ex H H') (hx : ∀ x ∈ ex, uK H x) : PoolsL K H' rs ps := Paired.mapP h fun _ _ q => s.seq hx q
theorem PoolsL.same {K : PySem.W.Frag} {H H' : Hp} {rs : List Addr} {ps : List (List Int)} (h : PoolsL K H rs ps) (s : Same H H') : PoolsL K H' rs ps := Paired.mapP h fun _ _ q => s.seq q
theorem PoolsL.at {K : PySem.W.Frag} {H : Hp} {rs : List Addr} {ps : List (List Int)} (h : PoolsL K H rs ps) {i : Nat} {p : List Int} (e : ps[i]? = some p) : ∃ r, rs[i]? = some r /\ SqL K H r (p.map V.int) := cj (F := fun (r : Addr) (p : List Int) => SqL K H r (p.map V.int)) h e
theorem PoolsL.len {K : PySem.W.Frag} {H : Hp} {rs : List Addr} {ps : List (List Int)} (h : PoolsL K H rs ps) : rs.length = ps.length := Paired.length h
theorem dU {α β : Type} {F : α -> β -> Prop} : ∀ {l : List α} {r : List β}, l.length = r.length -> (∀ (i : Nat) a b, l[i]? = some a -> r[i]? = some b -> F a b) -> Paired F l r := by
 intro l
 induction l with
 | nil =>
  intro r h f
  cases r with
  | nil => exact .nil
  | cons b r => cases h
 | cons a l ih =>
  intro r h f
  cases r with
  | nil => cases h
  | cons b r => exact .cons (f 0 a b rfl rfl) (ih (Nat.succ.inj h) fun i x y e1 e2 => f (i + 1) x y e1 e2)
theorem rg {ps : List (List Int)} {U : List Int} {kvs : HK} (hU : ∀ p ∈ ps, ∀ b ∈ p, b ∈ U) (g : Good ps kvs) (nd : (kvs.map (·.1)).Nodup) : kvs.length <= U.length := by
 have h : (kvs.map (·.1)).length <= (U.map (Sum.inl : Int -> bw)).length := nd.length_le_of_subset fun k hk => by
  obtain ⟨e, he, ek⟩ := Ci.mp hk
  obtain ⟨b, q, p, e1, e2, e3⟩ := g e he
  rw [<- ek, e1]
  exact Ci.mpr ⟨b, hU p (Ce e2) b e3, rfl⟩
 simpa using h
theorem mY (b : Int) (bs : List Int) : yF (.int b) (bs.map V.int) = decide (b ∈ bs) := by
 unfold yF
 induction bs with
 | nil => rfl
 | cons c r ih =>
  rw [Co, Ei, ih]
  by_cases h : c = b
  ·subst h; simp [mQ]
  ·have h' : ¬ b = c := fun z => h z.symm
   simp [mQ, h, h']
theorem j0 (bs : List Int) : (bs.map V.int).all cK = true := by
 rw [CS]
 intro x hx
 obtain ⟨i, _, e⟩ := Ci.mp hx
 rw [<- e]; rfl
theorem oO {G : Nat -> Addr -> Prop} : ∀ {l : List Nat} {vs : List V}, Paired (fun i v => ∃ r, v = .ref r /\ G i r) l vs -> ∃ rs : List Addr, vs = rs.map V.ref /\ Paired G l rs := by
 intro l vs h
 induction h with
 | nil => exact ⟨[], rfl, .nil⟩
 | cons q t ih =>
  obtain ⟨r, e, g⟩ := q
  obtain ⟨rs, e2, p⟩ := ih
  exact ⟨r :: rs, by rw [e, e2]; rfl, .cons g p⟩
theorem j3 {K : PySem.W.Frag} {H1 : Hp} {js : List (Option Nat)} {σ : L2.St} {te : TE} {Q : VK} {a : Addr} {xs : List V} (f : Nat -> List V) (hl : SqL K H1 a xs) (hn : xs.length < 100000)
  (he : ∀ (i : Nat) x, xs[i]? = some x -> ∀ H2 R, Same H1 H2 -> (∀ r H3, Same H2 H3 -> H2 r = none -> H3 r = some (.lst (f i)) -> R (.ref r) H3) -> te (some x :: bX σ js) H2 R)
  (hQ : ∀ acc (rs : List Addr) H', Same H1 H' -> H1 acc = none -> H' acc = some (.lst (rs.map V.ref)) -> rs.length = xs.length -> (∀ (i : Nat) r, rs[i]? = some r -> H' r = some (.lst (f i)) /\ H1 r = none) -> (∀ r ∈ rs, r ≠ acc) -> Q (.ref acc) H') :
  cg (ou K a) H1 (none :: js) (bS 0) eI te σ Q :=
 sH (K := K) (H1 := H1) (js := js) (σ := σ) (tc := eI) (te := te) (Q := Q) (a := a) (xs := xs) (fun _ => true) (fun acc i v H => ∃ r, v = .ref r /\ r ≠ acc /\ H1 r = none /\ H r = some (.lst (f i))) hl hn
  (fun acc i v H H' ⟨r, e, n, h0, h⟩ s => ⟨r, e, n, h0, s r _ n h⟩) (fun _ _ _ _ _ _ h => h)
  (fun acc i x hx _ H2 R s n1 n2 k => he i x hx H2 R s fun r H3 s3 nr h3 => k _ H3 s3 ⟨r, rfl, fun z => n2 (by rw [<- z]; exact nr), s.free nr, h3⟩)
  fun acc vs H' s n' e p => by
   rw [CZ.mpr (fun _ _ => rfl)] at p
   obtain ⟨rs, e2, p2⟩ := oO p
   have ln : rs.length = xs.length := by rw [<- Paired.length p2, CP]
   have all : ∀ (i : Nat) r, rs[i]? = some r -> r ≠ acc /\ H1 r = none /\ H' r = some (.lst (f i)) := fun i r hi => by
    obtain ⟨j, hj, g⟩ := cj p2 hi
    have lt : i < xs.length := by rw [<- ln]; exact (Cc.mp hi).1
    rw [Dj lt] at hj
    cases hj
    exact g
   refine hQ acc rs H' s n' (by rw [e, e2]) ln (fun i r hi => ⟨(all i r hi).2.2, (all i r hi).2.1⟩) fun r hr => ?_
   obtain ⟨i, hi, ei⟩ := Cq.mp hr
   exact (all i r (by rw [Ca hi, ei])).1
abbrev k9 (xs : List Nat) : Prop := xs.Pairwise (· < ·)
structure CutAt (xs : Array Nat) (j p : Nat) : Prop where
 le : p <= xs.size
 lo : ∀ i (h : i < xs.size), i < p -> xs[i] < j
 hi : ∀ i (h : i < xs.size), p <= i -> j <= xs[i]
theorem gO {xs : Array Nat} (r : k9 xs.toList) {i k : Nat} (hi : i < xs.size) (hk : k < xs.size) (h : i < k) : xs[i] < xs[k] := by
 have := De.mp r i k (by simpa using hi) (by simpa using hk) h
 simpa using this
theorem uL {xs : Array Nat} (r : k9 xs.toList) (j : Nat) : ∀ (f lo hi : Nat), hi - lo <= f -> lo <= hi -> hi <= xs.size -> (∀ i (h : i < xs.size), i < lo -> xs[i] < j) -> (∀ i (h : i < xs.size), hi <= i -> j <= xs[i]) -> CutAt xs j (SetTable.below.go xs j f lo hi) := by
 intro f
 induction f with
 | zero =>
  intro lo hi hf hl hs h1 h2
  have e : hi = lo := by omega
  subst e
  exact ⟨hs, h1, h2⟩
 | succ f ih =>
  intro lo hi hf hl hs h1 h2
  unfold SetTable.below.go
  by_cases hlt : lo < hi
  ·rw [if_pos hlt]
   have hm : (lo + hi) / 2 < xs.size := by omega
   have eg : xs.getD ((lo + hi) / 2) j = xs[(lo + hi) / 2] := by simp [hm]
   dsimp only
   rw [eg]
   by_cases hc : xs[(lo + hi) / 2] < j
   ·rw [if_pos hc]
    refine ih _ _ (by omega) (by omega) hs (fun i h hi' => ?_) h2
    by_cases e : i = (lo + hi) / 2
    ·subst e; exact hc
    ·exact Nat.lt_trans (gO r h hm (by omega)) hc
   ·rw [if_neg hc]
    refine ih _ _ (by omega) (by omega) (by omega) h1 fun i h hi' => ?_
    by_cases e : i = (lo + hi) / 2
    ·subst e; omega
    ·have := gO r hm h (by omega)
     omega
  ·rw [if_neg hlt]
   have e : hi = lo := by omega
   subst e
   exact ⟨hs, h1, h2⟩
theorem lV {xs : Array Nat} (r : k9 xs.toList) (j : Nat) : CutAt xs j (SetTable.below xs j) :=
 uL r j xs.size 0 xs.size (by omega) (CK _) (Cg _) (fun i _ h => by omega) fun i h h' => by omega
theorem CutAt.unique {xs : Array Nat} {j p q : Nat} (a : CutAt xs j p) (b : CutAt xs j q) : p = q := by
 rcases Ep p q with h | h | h
 ·have hp : p < xs.size := CH h b.le
  have := b.lo p hp h
  have := a.hi p hp (Cg _)
  omega
 ·exact h
 ·have hq : q < xs.size := CH h a.le
  have := a.lo q hq h
  have := b.hi q hq (Cg _)
  omega
theorem oP {xs : Array Nat} {j : Nat} (r : k9 xs.toList) (hn : xs[SetTable.below xs j]? ≠ some j) : k9 (SetTable.insertAt xs (SetTable.below xs j) j).toList := by
 have c := lV r j
 generalize SetTable.below xs j = p at hn c
 have e : (SetTable.insertAt xs p j).toList = xs.toList.take p ++ j :: xs.toList.drop p := by
  unfold SetTable.insertAt
  simp [Array.toList_append, EE, List.extract_eq_take_drop]
  exact Do (by simp)
 rw [e]
 refine List.pairwise_append.mpr ⟨r.sublist (List.take_sublist _ _), List.pairwise_cons.mpr ⟨fun x hx => ?_, r.sublist (List.drop_sublist _ _)⟩, fun x hx y hy => ?_⟩
 ·obtain ⟨i, hi, ei⟩ := Cq.mp hx
  rw [Dy, CQ] at hi
  rw [List.getElem_drop, Eu] at ei
  have h1 := c.hi (p + i) (by omega) (by omega)
  rw [ei] at h1
  by_cases z : x = j
  ·exfalso
   have hp : p < xs.size := by omega
   have h2 := c.hi p hp (Cg _)
   have h3 : xs[p] <= xs[p + i] := by
    by_cases i0 : i = 0
    ·subst i0; exact Cg _
    ·exact Da (gO r hp (by omega) (by omega))
   have h4 : xs[p] = j := by rw [ei, z] at h3; omega
   exact hn (by rw [C4 hp, h4])
  ·omega
 ·obtain ⟨i, hi, ei⟩ := Cq.mp hx
  rw [CW, CQ] at hi
  rw [DN, Eu] at ei
  have h1 := c.lo i (by omega) (by omega)
  rw [ei] at h1
  rcases Cr.mp hy with z | z
  ·omega
  ·obtain ⟨k, hk, ek⟩ := Cq.mp z
   rw [Dy, CQ] at hk
   rw [List.getElem_drop, Eu] at ek
   have h2 := c.hi (p + k) (by omega) (by omega)
   omega
theorem lW {t : SetTable} {j : Nat} (h : t.slot j = .empty \/ t.slot j = .dummy) : t.place[SetTable.below t.place j]? ≠ some j := by
 intro z
 have e : t.slot j = .live (SetTable.below t.place j) := by
  unfold SetTable.slot
  dsimp only
  rw [z]
  simp
 rw [e] at h
 rcases h with h | h <;> cases h
theorem qj {t : SetTable} {hh : Nat -> Int} {h : Int} : ∀ (f : Nat) (p : SetTable.Probe) (j : Nat) (d : Option Nat), (∀ x, p.dummy = some x -> t.slot x = .dummy) -> SetTable.probe.go t hh h f p = some (.empty j d) -> t.slot j = .empty /\ ∀ x, d = some x -> t.slot x = .dummy := by
 intro f
 induction f with
 | zero => intro p j d _ e; unfold SetTable.probe.go at e; cases e
 | succ f ih =>
  intro p j d hp e
  unfold SetTable.probe.go at e
  have adv : ∀ q : SetTable.Probe, (t.advance q).dummy = q.dummy := fun q => by
   unfold SetTable.advance
   split <;> rfl
  cases hs : t.slot p.j with
  | empty =>
   rw [hs] at e
   cases e
   exact ⟨hs, hp⟩
  | dummy =>
   rw [hs] at e
   refine ih _ j d (fun x hx => ?_) e
   rw [adv] at hx
   cases hx
   exact hs
  | live i =>
   rw [hs] at e
   dsimp only at e
   split at e
   ·cases e
   ·refine ih _ j d (fun x hx => ?_) e
    rw [adv] at hx
    exact hp x hx
theorem lg {t : SetTable} {h : Int} {j : Nat} {b : Bool} (e : t.freeSlot h = some (j, b)) : t.place[SetTable.below t.place j]? ≠ some j := by
 unfold SetTable.freeSlot at e
 split at e
 ·rename_i j' d hm
  have := qj (t := t) (h := h) _ _ j' d (fun x hx => by cases hx) hm
  have e' := Option.some.inj e
  cases d with
  | none =>
   have : j' = j := by have := congrArg Prod.fst e'; simpa using this
   subst this
   exact lW (.inl this.1)
  | some x =>
   have hx : x = j := by have := congrArg Prod.fst e'; simpa using this
   subst hx
   exact lW (.inr (this.2 x rfl))
 ·cases e
structure TabK (led : Bool) (t : SetTable) : Prop where
 led : t.led = led
 rise : t.plain = true -> k9 t.place.toList
theorem dD {led : Bool} {t : SetTable} (h : t.led = led) (n : Nat) : TabK led (t.standIn n) := ⟨h, fun z => by cases z⟩
theorem ll {led : Bool} {t : SetTable} (h : TabK led t) (n : Nat) : TabK led (t.orStandIn n) := by
 unfold SetTable.orStandIn
 split
 ·exact h
 ·exact dD h.led n
theorem qk {led : Bool} {t : SetTable} (h : TabK led t) (es : Array (Int × Value)) (hh : Int) (x : Value) : TabK led (layNew t es hh x).2.1 := by
 unfold layNew
 cases e : t.freeSlot hh with
 | none => exact dD h.led _
 | some q =>
  obtain ⟨j, b⟩ := q
  refine ll (t := (t.put j).1) ⟨h.led, fun z => ?_⟩ _
  exact oP (h.rise z) (lg e)
theorem sM {mask finger moves : Nat} {led plain : Bool} {hs : Array Int} {t : SetTable} {o : Array Nat} (e : SetTable.laid mask finger moves led plain hs = some (t, o)) : t.led = led /\ k9 t.place.toList := by
 unfold SetTable.laid at e
 obtain ⟨ow, _, e2⟩ := Option.bind_eq_some_iff.mp e
 have e2 := Option.some.inj e2
 have ht := congrArg Prod.fst e2
 dsimp only at ht
 rw [<- ht]
 refine ⟨rfl, ?_⟩
 show List.Pairwise (fun a b => a < b) (List.map (fun x : Nat × Nat => x.1) _)
 rw [Dk]
 refine List.pairwise_filterMap.mpr ?_
 refine List.Pairwise.imp ?_ List.pairwise_lt_range
 intro a b hab x hx y hy
 obtain ⟨u, _, eu⟩ := Cj.mp hx
 obtain ⟨v, _, ev⟩ := Cj.mp hy
 rw [<- eu, <- ev]
 exact hab
theorem mZ {led : Bool} {t : SetTable} (h : TabK led t) (es : Array (Int × Value)) (n : Nat) : TabK led (relayAll t es n).2.1 := by
 unfold relayAll
 cases e : t.relaid (es.map (·.1)) n with
 | none => exact dD h.led _
 | some q =>
  obtain ⟨t', o⟩ := q
  dsimp only
  split
  ·have := sM e
   exact ⟨this.1.trans h.led, fun _ => this.2⟩
  ·exact dD h.led _
abbrev cy (w : World) : Bool := w.params.followText "set-order"
def Ents (es : List (Int × Value)) (ks : List Int) : Prop := Paired (fun (e : Int × Value) (k : Int) => ∃ t, e = (hashInt k, Value.int k t)) es ks
structure SetIn (w : World) (o : Obj) (es : Array (Int × Value)) (ep : Nat) (t : SetTable) (ks : List Int) : Prop where
 ex : o.ExactSet
 da : o.data = .set es ep t
 en : Ents es.toList ks
 nd : ks.Nodup
 sz : ks.length < 4000
 ft : t.fits es.size = true
 tb : TabK (!cy w) t
def SX (w : World) (a : Addr) (ms : List Int) : Heap -> Prop := fun h => ∃ o es ep t ks, h.get? a = some o /\ SetIn w o es ep t ks /\ ks.Perm ms
theorem SX.at {w : World} {a : Addr} {ms : List Int} {h h' : Heap} (x : SX w a ms h) (k : ∀ o, h.get? a = some o -> h'.get? a = some o) : SX w a ms h' := by
 obtain ⟨o, es, ep, t, ks, e, r⟩ := x
 exact ⟨o, es, ep, t, ks, k o e, r⟩
theorem SX.lt {w : World} {a : Addr} {ms : List Int} {h : Heap} (x : SX w a ms h) : a < h.objs.size := by
 obtain ⟨o, es, ep, t, ks, e, r⟩ := x
 exact Heap.lt_size e
theorem SX.perm {w : World} {a : Addr} {ms ns : List Int} {h : Heap} (x : SX w a ms h) (p : ms.Perm ns) : SX w a ns h := by
 obtain ⟨o, es, ep, t, ks, e, r, q⟩ := x
 exact ⟨o, es, ep, t, ks, e, r, q.trans p⟩
theorem Ents.mem : ∀ {es : List (Int × Value)} {ks : List Int}, Ents es ks -> ∀ {e : Int × Value}, e ∈ es -> ∃ k t, k ∈ ks /\ e = (hashInt k, Value.int k t) := by
 intro es ks h e
 unfold Ents at h
 induction h with
 | nil => intro h; cases h
 | cons q r ih =>
  intro h
  obtain ⟨t, q⟩ := q
  rcases Cr.mp h with z | z
  ·exact ⟨_, t, CM, z.trans q⟩
  ·obtain ⟨k, t, m, q⟩ := ih z
   exact ⟨k, t, Cz _ m, q⟩
theorem Ents.elems {P : Program} {w : World} {es : List (Int × Value)} {ks : List Int} (h : Ents es ks) : ElemsOf (intKind P w) es := fun e he => by
 obtain ⟨k, t, _, q⟩ := h.mem he
 subst q
 exact ⟨⟨k, intKind_is P w k t, rfl⟩, rfl⟩
theorem Ents.len {es : List (Int × Value)} {ks : List Int} (h : Ents es ks) : es.length = ks.length := Paired.length h
theorem Ents.perm {es es' : List (Int × Value)} (p : es'.Perm es) : ∀ {ks : List Int}, Ents es ks -> ∃ ks', Ents es' ks' /\ ks'.Perm ks := by
 induction p with
 | nil => intro ks h; cases h; exact ⟨[], .nil, .nil⟩
 | cons x _ ih =>
  intro ks h
  cases h with
  | cons q r =>
   obtain ⟨ks', a, b⟩ := ih r
   exact ⟨_ :: ks', .cons q a, b.cons _⟩
 | swap x y l =>
  intro ks h
  cases h with
  | cons q r =>
   cases r with
   | cons q' r => exact ⟨_ :: _ :: _, .cons q' (.cons q r), .swap _ _ _⟩
 | trans _ _ ih1 ih2 =>
  intro ks h
  obtain ⟨k2, a, b⟩ := ih2 h
  obtain ⟨k3, c, d⟩ := ih1 a
  exact ⟨k3, c, d.trans b⟩
theorem lX (k j : Int) (t : Tok) : Value.isInt k (.int j t) = decide (k = j) := by
 by_cases h : k = j
 ·subst h; simp [Value.isInt]
 ·simp [Value.isInt, h]
  exact fun z => h z.symm
theorem Ents.find {P : Program} {w : World} {k : Int} : ∀ {es : List (Int × Value)} {ks : List Int}, Ents es ks -> (es.findIdx? (fun e => (intKind P w).is k e.2)).isSome = decide (k ∈ ks) := by
 intro es ks h
 unfold Ents at h
 induction h with
 | nil => rfl
 | @cons a j es ks q r ih =>
  obtain ⟨t, q⟩ := q
  subst q
  rw [List.findIdx?_cons]
  have e : (intKind P w).is k (hashInt j, Value.int j t).2 = decide (k = j) := lX k j t
  rw [e]
  by_cases h : k = j
  ·subst h; simp
  ·simp [h, ih]
section
variable {P : Program} {w : World} {A : Around} {E : Value -> Shared -> Prop} {s : Shared} {a : Addr} {ms ks : List Int} {o : Obj} {es : Array (Int × Value)} {ep : Nat} {t : SetTable}
theorem SetIn.bound (h : SetIn w o es ep t ks) : es.size < scanBound := by
 have : es.size = ks.length := by rw [<- h.en.len, CQ]
 have := h.sz
 have e : scanBound = 4096 := rfl
 omega
theorem SetIn.size (h : SetIn w o es ep t ks) : es.size = ks.length := by rw [<- h.en.len, CQ]
theorem qm {es' : Array (Int × Value)} {t' : SetTable} {ks' : List Int} (ho : s.heap.get? a = some o) (h : SetIn w o es ep t ks) (en : Ents es'.toList ks') (nd : ks'.Nodup) (sz : ks'.length < 4000) (ft : t'.fits es'.size = true) (tb : TabK (!cy w) t') :
  ∃ o', (s.heap.update a (Obj.putSet es' t')).get? a = some o' /\ SetIn w o' es' (ep + 1) t' ks' := by
 have g := Heap.get?_update_self (Obj.putSet es' t') ho (by rw [putSet_of es' t' h.da]; rfl)
 rw [putSet_of es' t' h.da] at g
 exact ⟨_, g, ⟨h.ex, rfl, en, nd, sz, ft, tb⟩⟩
theorem rh {g : Bool -> Sem Unit} {Q : Unit -> Shared -> Prop} (hg : ∀ b, g b = match b with | true => rule "set.scan.the-table-gave-way" | false => pure ()) (b : Bool) {s : Shared} (h : Q () s) : wpAny (model P w) A (g b) Q E s := by
 rw [hg b]
 cases b with
 | true => exact wpAny_rule h
 | false => exact wpAny_pure h
theorem yR {x : Int} {tk : Tok} {Q : Bool -> Shared -> Prop} (ho : s.heap.get? a = some o) (hs : SetIn w o es ep t ks) (hl : ks.length + 1 < 4000)
  (h1 : x ∈ ks -> Q false s) (h2 : x ∉ ks -> ∀ h', Heap.SameBut a s.heap h' -> SX w a (ks ++ [x]) h' -> Q true { s with heap := h' }) : wpAny (model P w) A (setAddHashed a (.int x tk) (hashInt x)) Q E s := by
 have hel := hs.en.elems (P := P) (w := w)
 have hky : (intKind P w).is x (.int x tk) = true := intKind_is P w x tk
 unfold setAddHashed setAddHashedIn
 refine wpAny_holding (wpAny_bind (wpAny_setState_of ho hs.da hs.ft ?_))
 dsimp only
 rw [byScan_of (knd := intKind P w) rfl hs.bound hel, if_pos rfl]
 refine wpAny_bind ?_
 unfold setAddByScan
 refine wpAny_bind (wpAny_rule (wpAny_bind (wpAny_setScan_of (knd := intKind P w) (k := x) hky ho hs.da hs.ft hel ?_)))
 have fd := hs.en.find (P := P) (w := w) (k := x)
 cases hr : List.findIdx? (fun e => (intKind P w).is x e.2) es.toList with
 | some j =>
  rw [hr] at fd
  exact wpAny_pure (wpAny_pure (h1 (of_decide_eq_true fd.symm)))
 | none =>
  rw [hr] at fd
  have hx : x ∉ ks := of_decide_eq_false fd.symm
  have p1 := layNew_perm t es (hashInt x) (Value.int x tk)
  have f1 := layNew_fits t es (hashInt x) (Value.int x tk)
  have t1 := qk hs.tb es (hashInt x) (Value.int x tk)
  generalize layNew t es (hashInt x) (Value.int x tk) = L at p1 f1 t1 ⊢
  obtain ⟨e1, u1, wasD, gave⟩ := L
  dsimp only at p1 f1 t1 ⊢
  rw [EE] at p1
  obtain ⟨k1, n1, q1⟩ := Ents.perm p1 (ks := ks ++ [x]) (Paired.snoc hs.en ⟨tk, rfl⟩)
  have nd1 : k1.Nodup := q1.nodup_iff.mpr (eG hs.nd hx)
  have l1 : k1.length < 4000 := by rw [q1.length_eq, Ck, Cp]; exact hl
  have b1 : e1.size <= sizeLine := by
   have : e1.size = k1.length := by rw [<- n1.len, CQ]
   exact CO (by omega) (Da (i4 (n := 99999) (by omega)))
  refine wpAny_bind (rh (fun b => by cases b <;> rfl) gave ?_)
  have tail : ∀ u2 : SetTable, u2.fits e1.size = true -> TabK (!cy w) u2 -> ∀ R : Option Bool -> Shared -> Prop, (∀ h', Heap.SameBut a s.heap h' -> SX w a (ks ++ [x]) h' -> R (some true) { s with heap := h' }) -> ∀ g : Bool -> Sem Unit, (∀ b, g b = match b with | true => rule "set.scan.the-table-gave-way" | false => pure ()) ->
    wpAny (model P w) A (do
     storeSet a e1 u2
     if (!wasD && u2.tooFull) = true then
      let (es, t, gave) := relayAll u2 e1 (SetTable.grown e1.size)
      g gave
      storeSet a es t
     return some true) R E s := by
   intro u2 f2 t2 R hR g hg
   refine wpAny_bind (wpAny_storeSet_of ho hs.da ?_ b1)
   obtain ⟨o', ho', hs'⟩ := qm (s := s) ho hs n1 nd1 l1 f2 t2
   have sb1 := Heap.SameBut.update s.heap a (Obj.putSet e1 u2)
   by_cases hc : (!wasD && u2.tooFull) = true
   ·rw [if_pos hc]
    have p3 := relayAll_perm u2 e1 (SetTable.grown e1.size)
    have f3 := relayAll_fits u2 e1 (SetTable.grown e1.size)
    have t3 := mZ t2 e1 (SetTable.grown e1.size)
    generalize relayAll u2 e1 (SetTable.grown e1.size) = L at p3 f3 t3 ⊢
    obtain ⟨e3, u3, gave3⟩ := L
    dsimp only at p3 f3 t3 ⊢
    obtain ⟨k3, n3, q3⟩ := Ents.perm p3 n1
    have z3 : e3.size = e1.size := by rw [<- CQ, p3.length_eq, CQ]
    refine wpAny_bind (rh hg gave3 ?_)
    refine wpAny_bind (wpAny_storeSet_of ho' hs'.da ?_ (by rw [z3]; exact b1))
    obtain ⟨o3, ho3, hs3⟩ := qm (s := { s with heap := s.heap.update a (Obj.putSet e1 u2) }) ho' hs' n3 (q3.nodup_iff.mpr nd1) (by rw [q3.length_eq]; exact l1) f3 t3
    exact wpAny_pure (hR _ (sb1.trans (Heap.SameBut.update _ a _)) ⟨o3, e3, _, u3, k3, ho3, hs3, q3.trans q1⟩)
   ·rw [if_neg hc]
    exact wpAny_pure (hR _ sb1 ⟨o', e1, _, u2, k1, ho', hs', q1⟩)
  by_cases hp : u1.plain = true
  ·rw [if_pos hp]
   refine wpAny_bind ?_
   rw [hashByValue_scannable 8 (x := Value.int x tk) rfl]
   refine wpAny_pure ?_
   refine tail u1 f1 t1 _ (fun h' sb sx => ?_) _ (fun b => by cases b <;> rfl)
   exact wpAny_pure (h2 hx h' sb sx)
  ·rw [if_neg hp]
   refine wpAny_bind (wpAny_pure ?_)
   refine tail u1 f1 t1 _ (fun h' sb sx => ?_) _ (fun b => by cases b <;> rfl)
   exact wpAny_pure (h2 hx h' sb sx)
end
theorem bN : Slot "set_iterator" "__next__" "set_iterator.__next__" := .of (owner := "set_iterator") (n := "__next__") (by rw [typeLookup_type, builtinLookup_eq_fast]; kernel_rfl) (by decide +kernel) (by decide +kernel) (by decide +kernel) (.inl (by decide +kernel)) (by rw [isSubtype_type]; kernel_rfl)
theorem fZ : entryFor table "set_iterator.__next__" = some Builtin.«set_iterator.__next__» := entryFor_of_tree (by kernel_rfl)
theorem gP (a : Value) : argsOk "set_iterator.__next__" ⟨[a], []⟩ := by unfold argsOk; kernel_rfl
theorem gQ : Slot "set_iterator" "__iter__" "set_iterator.__iter__" := .of (owner := "set_iterator") (n := "__iter__") (by rw [typeLookup_type, builtinLookup_eq_fast]; kernel_rfl) (by decide +kernel) (by decide +kernel) (by decide +kernel) (.inl (by decide +kernel)) (by rw [isSubtype_type]; kernel_rfl)
theorem lu : entryFor table "set_iterator.__iter__" = some Builtin.«dict_keyiterator.__iter__» := entryFor_alias (id' := "dict_keyiterator.__iter__") (by kernel_rfl) rfl (by decide +kernel) (by kernel_rfl)
theorem m3 (a : Value) : argsOk "set_iterator.__iter__" ⟨[a], []⟩ := by unfold argsOk; kernel_rfl
theorem j4 : entryFor table "set.__iter__" = some Builtin.«frozenset.__iter__» := entryFor_alias (id' := "frozenset.__iter__") (by kernel_rfl) rfl (by decide +kernel) (by kernel_rfl)
theorem j5 {α : Type} {l : List α} {i : Nat} {x : α} (h : l[i]? = some x) : l.Perm (x :: l.eraseIdx i) := by
 induction l generalizing i with
 | nil => simp at h
 | cons y r ih =>
  cases i with
  | zero => simp at h; subst h; simp
  | succ i =>
   simp at h
   exact ((ih h).cons y).trans (.swap _ _ _)
theorem xc {α : Type} (next : Nat -> Nat) (f k : Nat) (left : List α) (out : Array α) (h : left.length = f) : (pickOrder.go next f k left out).toList.Perm (out.toList ++ left) := by
 induction f generalizing k left out with
 | zero =>
  have : left = [] := Dm.mp h
  subst this
  unfold pickOrder.go
  simp
 | succ f ih =>
  unfold pickOrder.go
  have hp : 0 < left.length := by omega
  have hl := Nat.mod_lt (next k) hp
  rw [Ca hl]
  dsimp only
  refine (ih (k + 1) _ _ (by rw [EC hl]; omega)).trans ?_
  rw [EE, DZ]
  exact (j5 (Ca hl)).symm.append_left _
theorem iC {α : Type} (next : Nat -> Nat) (xs : Array α) : (pickOrder next xs).toList.Perm xs.toList := by
 have := xc next xs.size 0 xs.toList #[] (by simp)
 unfold pickOrder
 simpa using this
section
variable {M : Model} {A : Around} {E : Value -> Shared -> Prop} {s : Shared}
theorem qo {src : Source} {n : Nat} {Q : Nat -> Shared -> Prop} (hn : n ≠ 0) (h : ∀ i d, i < n -> Q i { s with drawn := d }) : wpAny M A (choose src n) Q E s := fun Γ p _ => by
 show Sem.wp M Γ (.choose src n .pure) _ _ p s
 rw [Sem.wp_choose]
 exact ⟨hn, h _ _ (Nat.mod_lt _ (Nat.pos_of_ne_zero hn))⟩
theorem qp {α : Type} : ∀ (n : Nat) (xs : List α) (s : Shared) (Q : List α -> Shared -> Prop), xs.length = n -> (∀ ys d, ys.Perm xs -> Q ys { s with drawn := d }) -> wpAny M A (drawOrder n xs) Q E s := by
 intro n
 induction n with
 | zero =>
  intro xs s Q hl h
  have : xs = [] := Dm.mp hl
  subst this
  unfold drawOrder
  exact wpAny_pure (h [] s.drawn (.refl _))
 | succ n ih =>
  intro xs s Q hl h
  cases xs with
  | nil => cases hl
  | cons x r =>
   unfold drawOrder
   refine wpAny_bind (qo (by simp) fun i d hi => ?_)
   rw [Ca hi]
   dsimp only
   refine wpAny_bind (ih _ _ _ (by rw [EC hi, hl]; rfl) fun ys d' hp => wpAny_pure ?_)
   exact h _ d' ((hp.cons _).trans (j5 (Ca hi)).symm)
end
abbrev jo (h : Heap) (I : Addr) (first : Value) (i : Nat) (S : Addr) (n ep : Nat) : Prop :=
 h.get? I = some { cls := .type "set_iterator", dict := none, data := .fields #[first, .int i 0, .ref S, .int n 0, .int ep 0], slots := #[] }
section
variable {P : Program} {w : World} {A : Around} {E : Value -> Shared -> Prop} {s : Shared} {I S : Addr} {ks : List Int} {o : Obj} {es : Array (Int × Value)} {ep i : Nat} {t : SetTable} {first : Value}
theorem rj {Q : Value -> Shared -> Prop} {n : Nat} (hit : jo s.heap I first i S n ep) (h : Q (.ref I) s) : wpAny (model P w) A (pyIter (.ref I)) Q E s := by
 have hT : s.TypeIs (.ref I) "set_iterator" := ⟨_, hit, rfl⟩
 refine wpAny_pyIter_slot hT gQ (wpAny_call_entry gQ hT lu ?_ (m3 _))
 show wpAny _ _ (ret (.ref I)) _ _ s
 exact wpAny_pure ⟨_, rfl, "set_iterator", _, hT, bN.lookup, h⟩
theorem lY {A' : Around} {R : Fin -> Shared -> Prop} {Q : Option Value -> Shared -> Prop} (hh : A'.handled = none) (h : ∀ h', (∀ b o, s.heap.get? b = some o -> h'.get? b = some o) -> Q none { s with heap := h' }) :
  wpAny (model P w) A' (do let e <- newExc (.type "StopIteration") []; raiseNew e) R (fun e s' => wpAny (model P w) A (do let b <- isInstance e (.type "StopIteration"); if b = true then pure none else throw e) Q E s') s := by
 refine wpAny_bind ?_
 simp only [newExc, newTuple]
 refine wpAny_bind (wpAny_newObj_type ?_ (by size_fits))
 refine wpAny_bind (m := firstArgMember _ _) (wpAny_of_eq (a := Value.none) (by first | rfl | (simp only [firstArgMember]; rfl)) ?_)
 refine wpAny_newObj_type ?_ (by size_fits)
 simp only [raiseNew]
 refine wpAny_bind (wpAny_handled ?_)
 rw [hh]
 refine wpAny_bind (wpAny_pure (wpAny_throw ?_))
 refine wpAny_bind (wpAny_isInstance (T := "StopIteration") (b := true) ⟨_, Heap.get?_push_size _ rfl, rfl⟩ isSubtype_stop ?_)
 exact wpAny_pure (h _ fun b o e => Heap.get?_push_of_some _ (Heap.get?_push_of_some _ e))
theorem rq {Q : Option Value -> Shared -> Prop} {slot : Nat} (hh : A.handled = none) (hit : jo s.heap I (.int slot 0) i S es.size ep) (ho : s.heap.get? S = some o) (hs : SetIn w o es ep t ks) (r : Option (Value × Nat))
  (hr : ∀ (A' : Around) (E' : Value -> Shared -> Prop) (R : Option (Value × Nat) -> Shared -> Prop), R r s -> wpAny (model P w) A' (setNext S slot i ep) R E' s)
  (h1 : ∀ x nx h', r = some (x, nx) -> jo h' I (.int nx 0) (i + 1) S es.size ep -> Heap.SameBut I s.heap h' -> Q (some x) { s with heap := h' })
  (h2 : ∀ h', r = none -> (∀ b o, b ≠ I -> s.heap.get? b = some o -> h'.get? b = some o) -> Q none { s with heap := h' }) : wpAny (model P w) A (pyNext (.ref I)) Q E s := by
 have hT : s.TypeIs (.ref I) "set_iterator" := ⟨_, hit, rfl⟩
 unfold pyNext
 refine wpAny_bind (wpAny_attempt (wpAny_callSpecial?_slot (name := Str.ofString "__next__") hT bN (wpAny_call_entry bN hT fZ ?_ (gP _))))
 unfold Builtin.«set_iterator.__next__»
 refine wpAny_bind (wpAny_pure ?_)
 refine wpAny_bind (wpAny_fieldsOf hit rfl ?_)
 dsimp only
 refine wpAny_bind (wpAny_setEntries_of ho hs.da hs.ft ?_)
 rw [if_neg (by simp)]
 refine wpAny_bind (hr _ _ _ ?_)
 cases r with
 | none =>
  dsimp only
  refine wpAny_bind (wpAny_setField hit rfl (by simp) ?_)
  exact lY (A := A) (show A.in1.handled = none from hh) fun h' k => h2 h' rfl fun b o hb e => k b o ((Heap.get?_update_other _ _ (Ne.symm hb)).trans e)
 | some q =>
  obtain ⟨x, nx⟩ := q
  dsimp only
  refine wpAny_bind (wpAny_setField_rec hit (by simp) fun ha ea sa => ?_)
  refine wpAny_bind (wpAny_setField_rec ea (by simp) fun hb eb sb => wpAny_pure ⟨x, rfl, wpAny_pure (h1 x nx hb rfl ?_ (sa.trans sb))⟩)
  have e : ((i + 1 : Nat) : Int) = (i : Int) + 1 := by omega
  unfold jo
  rw [e]
  simpa [rawInt] using eb
theorem gc {Q : Option Value -> Shared -> Prop} {T : Addr} {ps : List Nat} {m : Nat} (hh : A.handled = none) (hit : jo s.heap I (.ref T) i S es.size ep) (hT2 : s.heap.get? T = some { cls := .type "tuple", data := .seq (ps.map fun (p : Nat) => rawInt p).toArray m })
  (ho : s.heap.get? S = some o) (hs : SetIn w o es ep t ks) (hp : ∀ p ∈ ps, p < es.size)
  (h1 : ∀ p h', ps[i]? = some p -> jo h' I (.ref T) (i + 1) S es.size ep -> Heap.SameBut I s.heap h' -> Q (es[p]?.map (·.2)) { s with heap := h' })
  (h2 : ∀ h', ps[i]? = none -> (∀ b o, b ≠ I -> s.heap.get? b = some o -> h'.get? b = some o) -> Q none { s with heap := h' }) : wpAny (model P w) A (pyNext (.ref I)) Q E s := by
 have hT : s.TypeIs (.ref I) "set_iterator" := ⟨_, hit, rfl⟩
 unfold pyNext
 refine wpAny_bind (wpAny_attempt (wpAny_callSpecial?_slot (name := Str.ofString "__next__") hT bN (wpAny_call_entry bN hT fZ ?_ (gP _))))
 unfold Builtin.«set_iterator.__next__»
 refine wpAny_bind (wpAny_pure ?_)
 refine wpAny_bind (wpAny_fieldsOf hit rfl ?_)
 dsimp only
 refine wpAny_bind (wpAny_setEntries_of ho hs.da hs.ft ?_)
 rw [if_neg (by simp)]
 refine wpAny_bind (wpAny_seqItems hT2 rfl ?_)
 dsimp only
 have eq : (ps.map fun (p : Nat) => rawInt p).toArray[(i : Int).toNat]? = (ps[i]?).map fun (p : Nat) => rawInt p := by
  rw [CV, List.getElem?_toArray, Cd]
 rw [eq]
 cases hpi : ps[i]? with
 | none =>
  dsimp only [Option.map_none]
  refine wpAny_bind (wpAny_setField_rec hit (by simp) fun ha ea sa => ?_)
  refine wpAny_bind (wpAny_setField ea rfl (by simp) ?_)
  refine lY (A := A) (show A.in1.handled = none from hh) fun h' k => h2 h' hpi fun b o hb e => k b o ?_
  exact (Heap.get?_update_other _ _ (Ne.symm hb)).trans ((sa.2 b hb).trans e)
 | some p =>
  have hlt : p < es.size := hp p (Ce hpi)
  have key := h1 p
  rw [C4 hlt] at key
  dsimp only [DG, rawInt]
  unfold setNextDrawn
  refine wpAny_bind (wpAny_bind (wpAny_setState_of ho hs.da hs.ft ?_))
  dsimp only
  rw [if_neg (by simp), CV, C4 hlt]
  refine wpAny_pure ?_
  refine wpAny_bind (wpAny_setField_rec hit (by simp) fun ha ea sa => wpAny_pure ⟨_, rfl, wpAny_pure (key ha hpi ?_ sa)⟩)
  have e : ((i + 1 : Nat) : Int) = (i : Int) + 1 := by omega
  unfold jo
  rw [e]
  simpa [rawInt] using ea
end
section
variable {P : Program} {w : World} {A : Around} {E : Value -> Shared -> Prop} {s : Shared} {I S : Addr} {ks : List Int} {o : Obj} {es : Array (Int × Value)} {ep i : Nat} {t : SetTable}
def SetAt (w : World) (S : Addr) (es : Array (Int × Value)) (ep : Nat) (t : SetTable) (ks : List Int) (h : Heap) : Prop := ∃ o, h.get? S = some o /\ SetIn w o es ep t ks
theorem SetAt.at {h h' : Heap} (x : SetAt w S es ep t ks h) (k : ∀ o, h.get? S = some o -> h'.get? S = some o) : SetAt w S es ep t ks h' := let ⟨o, e, r⟩ := x; ⟨o, k o e, r⟩
abbrev AM (vs : List Int) : Nat -> Value -> Prop := fun i v => ∃ t, v = .int (vs.getD i 0) t
theorem rB {l : List (Int × Value)} {vs : List Int} (h : Ents l vs) {i : Nat} {e : Int × Value} (hi : l[i]? = some e) : ∃ tk, e.2 = Value.int (vs.getD i 0) tk := by
 have hl : i < vs.length := by rw [<- h.len]; exact (Cc.mp hi).1
 obtain ⟨a, ha, q⟩ := cj h (Ca hl)
 rw [hi] at ha
 cases ha
 obtain ⟨tk, q⟩ := q
 exact ⟨tk, by rw [q]; simp [hl]⟩
theorem j6 (hh : A.handled = none) (hne : S ≠ I) (ord : List (Int × Value)) (vs : List Int) (f : Nat -> Nat) (hv : Ents ord vs) (hl : ord.length = es.size)
  (hr : ∀ (i : Nat) (s : Shared), i <= es.size -> SetAt w S es ep t ks s.heap -> ∀ (A' : Around) (E' : Value -> Shared -> Prop) (R : Option (Value × Nat) -> Shared -> Prop), R ((ord[i]?).map fun e => (e.2, f (i + 1))) s -> wpAny (model P w) A' (setNext S (f i) i ep) R E' s) :
  Walks P w A I [I, S] [I] es.size (AM vs) (fun i h => jo h I (.int (f i) 0) i S es.size ep /\ SetAt w S es ep t ks h) where
 sub := fun b hb => by simp at hb; simp [hb]
 frame := fun i h h' st k => ⟨k I (by simp) _ st.1, st.2.at fun o e => k S (by simp) o e⟩
 item := fun i s Q E hi st hQ => by
  obtain ⟨o, ho, hs⟩ := id st.2
  obtain ⟨e, he⟩ : ∃ e, ord[i]? = some e := ⟨_, Ca (by omega)⟩
  refine rq hh st.1 ho hs _ (hr i s (by omega) st.2) (fun x nx h' e2 it' sb => ?_) fun h' e2 _ => by rw [he] at e2; cases e2
  rw [he] at e2
  have e3 := Option.some.inj e2
  have hx : e.2 = x := congrArg Prod.fst e3
  have hn : f (i + 1) = nx := congrArg Prod.snd e3
  subst hx hn
  exact hQ _ h' s.toks (rB hv he) ⟨it', st.2.at fun o e => (sb.2 S hne).trans e⟩ fun b o hb e => (sb.2 b (by simpa using hb)).trans e
 done := fun s Q E st hQ => by
  obtain ⟨o, ho, hs⟩ := id st.2
  have he : ord[es.size]? = none := CU (by omega)
  refine rq hh st.1 ho hs _ (hr _ s (Cg _) st.2) (fun x nx h' e2 it' sb => by rw [he] at e2; cases e2) fun h' _ k => ?_
  exact hQ h' s.toks fun b o hb e => k b o (by simpa using hb) e
 self := fun i s Q E st h => rj st.1 h
theorem yS {n : Nat} (h : n <= 5000) : n <= sizeLine := CO h (Da (i4 (n := 5000) (by omega)))
theorem yT (ps : List Nat) (hp : ∀ p ∈ ps, p < es.size) : ps.filterMap (es[·]?) = ps.map fun q => es.getD q (0, .none) := by
 induction ps with
 | nil => rfl
 | cons q r ih =>
  have hq := hp q (by simp)
  rw [Eh, C4 hq]
  dsimp only
  rw [ih (fun x hx => hp x (Cz _ hx)), Co]
  simp [hq]
theorem oQ {T : Addr} (hh : A.handled = none) (hne : S ≠ I) (hT : T ≠ I) (ps : List Nat) (vs : List Int) (hv : Ents (ps.filterMap (es[·]?)) vs) (hp : ∀ p ∈ ps, p < es.size) (hl : ps.length = es.size) :
  Walks P w A I [I, S, T] [I] es.size (AM vs) (fun i h => jo h I (.ref T) i S es.size ep /\ SetAt w S es ep t ks h /\ h.get? T = some { cls := .type "tuple", data := .seq (ps.map fun (p : Nat) => rawInt p).toArray }) where
 sub := fun b hb => by simp at hb; simp [hb]
 frame := fun i h h' st k => ⟨k I (by simp) _ st.1, st.2.1.at fun o e => k S (by simp) o e, k T (by simp) _ st.2.2⟩
 item := fun i s Q E hi st hQ => by
  obtain ⟨o, ho, hs⟩ := id st.2.1
  refine gc hh st.1 st.2.2 ho hs hp (fun p h' e2 it' sb => ?_) fun h' e2 _ => ?_
  ·have hlt := hp p (Ce e2)
   rw [C4 hlt]
   have e4 : (ps.filterMap (es[·]?))[i]? = some es[p] := by
    have := yT ps hp
    rw [this, Cd, e2]
    simp [hlt]
   exact hQ _ h' s.toks (rB hv e4) ⟨it', st.2.1.at fun o e => (sb.2 S hne).trans e, (sb.2 T hT).trans st.2.2⟩ fun b o hb e => (sb.2 b (by simpa using hb)).trans e
  ·rw [Ca (by omega)] at e2
   cases e2
 done := fun s Q E st hQ => by
  obtain ⟨o, ho, hs⟩ := id st.2.1
  refine gc hh st.1 st.2.2 ho hs hp (fun p h' e2 it' sb => ?_) fun h' _ k => ?_
  ·rw [CU (by omega)] at e2
   cases e2
  ·exact hQ h' s.toks fun b o hb e => k b o (by simpa using hb) e
 self := fun i s Q E st h => rj st.1 h
theorem qr {l : List Nat} (h : l.length <= 1) : k9 l := by
 match l, h with
 | [], _ => exact .nil
 | [x], _ => exact DE _ _
def iD (t : SetTable) : Nat -> Nat
 | 0 => 0
 | i + 1 => t.place.getD i 0 + 1
theorem uM {t : SetTable} (r : k9 t.place.toList) {i : Nat} (hi : i <= t.place.size) : SetTable.below t.place (iD t i) = i := by
 refine (lV r _).unique ⟨hi, fun k hk hlt => ?_, fun k hk hge => ?_⟩
 ·cases i with
  | zero => omega
  | succ i =>
   have hi' : i < t.place.size := by omega
   have e : t.place.getD i 0 = t.place[i] := by simp [hi']
   show t.place[k] < t.place.getD i 0 + 1
   rw [e]
   by_cases z : k = i
   ·subst z; omega
   ·have := gO r hk hi' (by omega)
    omega
 ·cases i with
  | zero => exact CK _
  | succ i =>
   have hi' : i < t.place.size := by omega
   have e : t.place.getD i 0 = t.place[i] := by simp [hi']
   show t.place.getD i 0 + 1 <= t.place[k]
   rw [e]
   exact gO r hi' hk (by omega)
theorem sN (h : t.fits es.size = true) : t.place.size = es.size := by
 simp only [SetTable.fits, C6, beq_iff_eq, decide_eq_true_eq] at h
 exact h.1
theorem gR {Q : Array (Int × Value) -> Shared -> Prop} (bt : cy w = true) (ho : s.heap.get? S = some o) (hs : SetIn w o es ep t ks) (h : Q (pickOrder (w.params.setOrder S ep) es) s) : wpAny (model P w) A (setWalk S) Q E s := by
 unfold setWalk setsByText
 refine wpAny_bind (wpAny_setState_of ho hs.da hs.ft ?_)
 dsimp only
 refine wpAny_bind (wpAny_bind (wpAny_askSetting (wpAny_pure ?_)))
 have bt' : (model P w).w.params.followText "set-order" = true := bt
 rw [bt', if_pos rfl]
 exact wpAny_bind (wpAny_askSetting (wpAny_pure h))
theorem sO {slot : Nat} {Q : Option (Value × Nat) -> Shared -> Prop} (bt : cy w = true) (ho : s.heap.get? S = some o) (hs : SetIn w o es ep t ks)
  (h : Q (((pickOrder (w.params.setOrder S ep) es).toList[i]?).map fun e => (e.2, slot)) s) : wpAny (model P w) A (setNext S slot i ep) Q E s := by
 unfold setNext
 refine wpAny_bind (wpAny_setState_of ho hs.da hs.ft ?_)
 dsimp only
 refine wpAny_bind ?_
 unfold setsByText
 refine wpAny_bind (wpAny_askSetting (wpAny_pure ?_))
 have bt' : (model P w).w.params.followText "set-order" = true := bt
 rw [bt', if_pos rfl, if_neg (by simp)]
 refine wpAny_bind (gR bt ho hs (wpAny_pure ?_))
 rw [<- DY]
 exact h
theorem qt {Q : Option (Value × Nat) -> Shared -> Prop} (bt : cy w = false) (ho : s.heap.get? S = some o) (hs : SetIn w o es ep t ks) (hd : (!t.plain && decide (es.size > 1)) = false) (hi : i <= es.size)
  (h : Q ((es.toList[i]?).map fun e => (e.2, iD t (i + 1))) s) : wpAny (model P w) A (setNext S (iD t i) i ep) Q E s := by
 have zs := sN hs.ft
 have r : k9 t.place.toList := by
  by_cases hp : t.plain = true
  ·exact hs.tb.rise hp
  ·refine qr ?_
   have : t.plain = false := by simpa using hp
   rw [this] at hd
   simp at hd
   rw [CQ, zs]; exact hd
 have ld : t.led = true := by rw [hs.tb.led, bt]; rfl
 unfold setNext
 refine wpAny_bind (wpAny_setState_of ho hs.da hs.ft ?_)
 dsimp only
 refine wpAny_bind ?_
 unfold setsByText
 refine wpAny_bind (wpAny_askSetting (wpAny_pure ?_))
 have bt' : (model P w).w.params.followText "set-order" = false := bt
 rw [bt', if_neg Ct]
 show wpAny _ _ (if (!t.plain && decide (es.size > 1)) = true then _ else _) _ _ _
 rw [hd, if_neg Ct]
 show wpAny _ _ ((if (!t.led && !es.isEmpty) = true then unsupported "set:maker-not-led" else pure ()) >>= fun _ => pure _) _ _ _
 rw [ld]
 refine wpAny_bind (wpAny_pure (wpAny_pure ?_))
 rw [uM r (by omega)]
 by_cases hlt : i < es.size
 ·have hp : i < t.place.size := by omega
  rw [C4 hlt, C4 hp]
  rw [DY, C4 hlt] at h
  have e : iD t (i + 1) = t.place[i] + 1 := by
   show t.place.getD i 0 + 1 = _
   simp [hp]
  rw [e] at h
  exact h
 ·rw [Array.getElem?_eq_none (by omega)]
  rw [DY, Array.getElem?_eq_none (by omega)] at h
  exact h
theorem uN {Q : Value -> Shared -> Prop} (hS : SetAt w S es ep t ks s.heap)
  (h : ∀ (I : Addr) (fp : List Addr) (vs : List Int) (St : Nat -> Heap -> Prop) (s' : Shared), vs.Perm ks -> (∀ A' : Around, A'.handled = none -> Walks P w A' I fp [I] es.size (AM vs) St) -> St 0 s'.heap -> (∀ b ∈ fp, b < s'.heap.objs.size /\ (b = S \/ s.heap.objs.size <= b)) -> s.heap.objs.size <= I ->
   (∀ b o, s.heap.get? b = some o -> s'.heap.get? b = some o) -> s'.os = s.os -> s'.gens = s.gens -> Q (.ref I) s') : wpAny (model P w) A (pyIter (.ref S)) Q E s := by
 obtain ⟨o, ho, hs⟩ := id hS
 have hT : s.TypeIs (.ref S) "set" := ⟨o, ho, hs.ex.1⟩
 have hSl : S < s.heap.objs.size := Heap.lt_size ho
 refine wpAny_pyIter_slot hT F.slot_set_iter (wpAny_call_entry F.slot_set_iter hT j4 ?_ (F.args_set_iter_1 _))
 unfold Builtin.«frozenset.__iter__»
 refine wpAny_bind (wpAny_bind (wpAny_pure (wpAny_pure ?_)))
 unfold Builtin.Frozenset.sizeOf
 refine wpAny_bind (wpAny_bind (wpAny_setEntries_of ho hs.da hs.ft (wpAny_pure ?_)))
 refine wpAny_bind (wpAny_bind (wpAny_setState_of ho hs.da hs.ft ?_))
 dsimp only
 unfold setsByText
 refine wpAny_bind (wpAny_bind (wpAny_askSetting (wpAny_pure (wpAny_pure ?_))))
 show wpAny _ _ (if (!cy w && (!t.plain && decide (es.size > 1))) = true then (drawOrder es.size (Cf es.size) >>= fun l => newTuple (l.map fun (i : Nat) => rawInt i) >>= fun first => _) else (pure (rawInt 0) >>= fun first => _)) _ _ _
 cases bt : cy w with
 | true =>
  simp only [Bool.not_true, EG, Df, if_false]
  refine wpAny_bind (wpAny_pure ?_)
  refine wpAny_bind (wpAny_setEpoch_of ho hs.da hs.ft ?_)
  refine wpAny_bind (wpAny_newObj_type (wpAny_pure ⟨_, rfl, "set_iterator", _, ⟨_, Heap.get?_push_size _ rfl, rfl⟩, bN.lookup, ?_⟩))
  obtain ⟨vs, hv, hp⟩ := Ents.perm (iC (w.params.setOrder S ep) es) hs.en
  refine h s.heap.objs.size [s.heap.objs.size, S] vs (fun i h => jo h s.heap.objs.size (.int 0 0) i S es.size ep /\ SetAt w S es ep t ks h) _ hp (fun A' hA' => j6 (f := fun _ => 0) hA' (Cy hSl) _ vs hv ?_ (fun i s' hi st A2 E2 R hR => ?_))
   ⟨Heap.get?_push_size _ rfl, hS.at fun o e => Heap.get?_push_of_some _ e⟩ (fun b hb => ?_) (Cg _) (fun b o e => Heap.get?_push_of_some _ e) rfl rfl
  ·have := (iC (w.params.setOrder S ep) es).length_eq
   rw [this, CQ]
  ·obtain ⟨o', ho', hs'⟩ := st
   exact sO bt ho' hs' hR
  ·rw [Heap.size_push]
   simp only [Cr, CY, or_false] at hb
   rcases hb with e | e
   ·rw [e]; exact ⟨DA _, .inr (Cg _)⟩
   ·rw [e]; exact ⟨C8 hSl, .inl rfl⟩
 | false =>
  simp only [Bool.not_false, Bool.true_and]
  cases hd : (!t.plain && decide (es.size > 1)) with
  | false =>
   simp only [Df, if_false]
   refine wpAny_bind (wpAny_pure ?_)
   refine wpAny_bind (wpAny_setEpoch_of ho hs.da hs.ft ?_)
   refine wpAny_bind (wpAny_newObj_type (wpAny_pure ⟨_, rfl, "set_iterator", _, ⟨_, Heap.get?_push_size _ rfl, rfl⟩, bN.lookup, ?_⟩))
   refine h s.heap.objs.size [s.heap.objs.size, S] ks (fun i h => jo h s.heap.objs.size (.int (iD t i) 0) i S es.size ep /\ SetAt w S es ep t ks h) _ (.refl _) (fun A' hA' => j6 (f := iD t) hA' (Cy hSl) es.toList ks hs.en (by simp) (fun i s' hi st A2 E2 R hR => ?_))
    ⟨Heap.get?_push_size _ rfl, hS.at fun o e => Heap.get?_push_of_some _ e⟩ (fun b hb => ?_) (Cg _) (fun b o e => Heap.get?_push_of_some _ e) rfl rfl
   ·obtain ⟨o', ho', hs'⟩ := st
    exact qt bt ho' hs' hd hi hR
   ·rw [Heap.size_push]
    simp only [Cr, CY, or_false] at hb
    rcases hb with e | e
    ·rw [e]; exact ⟨DA _, .inr (Cg _)⟩
    ·rw [e]; exact ⟨C8 hSl, .inl rfl⟩
  | true =>
   simp only [if_true]
   refine wpAny_bind (qp es.size (Cf es.size) s _ (by simp) fun ps d hp => ?_)
   have hlen : ps.length = es.size := by rw [hp.length_eq, CP]
   have zb := hs.bound
   have eb : scanBound = 4096 := rfl
   refine wpAny_bind (wpAny_newTuple ?_ (by rw [B9, hlen]; exact yS (by omega)))
   refine wpAny_bind (wpAny_setEpoch_of (Heap.get?_push_of_some _ ho) hs.da hs.ft ?_)
   refine wpAny_bind (wpAny_newObj_type (wpAny_pure ⟨_, rfl, "set_iterator", _, ⟨_, Heap.get?_push_size _ rfl, rfl⟩, bN.lookup, ?_⟩))
   have hpl : ∀ p ∈ ps, p < es.size := fun p m => CD.mp (hp.mem_iff.mp m)
   have pe : (ps.filterMap (es[·]?)).Perm es.toList := by
    have := hp.filterMap (es[·]?)
    rw [filterMap_getElem?_range] at this
    exact this
   obtain ⟨vs, hv, hq⟩ := Ents.perm pe hs.en
   have sz1 : ∀ ob : Obj, (s.heap.push ob).objs.size = s.heap.objs.size + 1 := fun ob => Heap.size_push _ _
   have key := h (s.heap.objs.size + 1) [s.heap.objs.size + 1, S, s.heap.objs.size] vs (fun i h => jo h (s.heap.objs.size + 1) (.ref s.heap.objs.size) i S es.size ep /\ SetAt w S es ep t ks h /\ h.get? s.heap.objs.size = some { cls := .type "tuple", data := .seq (ps.map fun (p : Nat) => rawInt p).toArray })
    { s with heap := (s.heap.push { cls := .type "tuple", data := .seq (ps.map fun (p : Nat) => rawInt p).toArray }).push { cls := .type "set_iterator", data := .fields #[.ref s.heap.objs.size, .int 0 0, .ref S, .int es.size 0, .int ep 0] }, drawn := d } hq (fun A' hA' => oQ (t := t) (ep := ep) (ks := ks) (T := s.heap.objs.size) hA' (Cy (C8 hSl)) (Cy (DA _)) ps vs hv hpl hlen)
    ⟨?it, hS.at fun o e => Heap.get?_push_of_some _ (Heap.get?_push_of_some _ e), Heap.get?_push_of_some _ (Heap.get?_push_size _ rfl)⟩ (fun b hb => ?fp) (Nat.le_succ _) (fun b o e => Heap.get?_push_of_some _ (Heap.get?_push_of_some _ e)) rfl rfl
   case it =>
    have := Heap.get?_push_size (s.heap.push { cls := .type "tuple", data := .seq (ps.map fun (p : Nat) => rawInt p).toArray }) (o := { cls := .type "set_iterator", data := .fields #[.ref s.heap.objs.size, .int 0 0, .ref S, .int es.size 0, .int ep 0] }) rfl
    rw [sz1] at this
    exact this
   case fp =>
    show b < ((s.heap.push _).push _).objs.size /\ _
    rw [Heap.size_push, Heap.size_push]
    simp only [Cr, CY, or_false] at hb
    rcases hb with e | e | e
    ·rw [e]; exact ⟨DA _, .inr (Nat.le_succ _)⟩
    ·rw [e]; exact ⟨C8 (C8 hSl), .inl rfl⟩
    ·rw [e]; exact ⟨C8 (DA _), .inr (Cg _)⟩
   rw [<- sz1 { cls := .type "tuple", data := .seq (ps.map fun (p : Nat) => rawInt p).toArray }] at key
   exact key
end
section
variable {P : Program} {w : World} {A : Around} {E : Value -> Shared -> Prop} {s : Shared} {S : Addr} {ks ms : List Int} {o : Obj} {es : Array (Int × Value)} {ep i : Nat} {t : SetTable}
theorem uO {Q : Bool -> Shared -> Prop} (hT : s.TypeIs (.ref S) "set") (h : Q false s) : wpAny (model P w) A (Builtin.List.listLengthHint (.ref S)) Q E s := by
 unfold Builtin.List.listLengthHint
 refine wpAny_bind (wpAny_specialOf hT PySem.F.slot_set_len.lookup ?_)
 generalize hid : ("set.__len__" : String) = id0
 wp_delta
 rw [show splitId id0 = some ("set", "__len__") from by subst hid; decide +kernel]
 subst hid
 refine wpAny_bind (wpAny_isInstance (T := "set") (b := true) hT (by rw [isSubtype_type]; kernel_rfl) ?_)
 refine wpAny_ite_split (fun hab => absurd hab (by decide)) (fun _ => ?_)
 refine wpAny_ite_split (fun _ => ?_) (fun hab => absurd (by decide +kernel) hab)
 exact wpAny_bind (wpAny_typeOf hT (wpAny_pure h))
theorem qu {vs : List Int} {acc : Array Value} {n : Nat} (h : ItemsOf (AM vs) acc n) (hn : vs.length = n) : IntsAre acc.toList vs := by
 have all : ∀ (l : List Value) (vs : List Int), l.length = vs.length -> (∀ (j : Nat) v, l[j]? = some v -> ∃ t, v = Value.int (vs.getD j 0) t) -> IntsAre l vs := by
  intro l
  induction l with
  | nil =>
   intro vs hl _
   have : vs = [] := Dm.mp (by simpa using hl.symm)
   subst this
   exact .nil
  | cons x r ih =>
   intro vs hl hv
   cases vs with
   | nil => simp at hl
   | cons v vs =>
    obtain ⟨t, e⟩ := hv 0 x rfl
    have e : x = Value.int v t := e
    subst e
    exact .cons v t (ih vs (by simpa using hl) fun j y hj => hv (j + 1) y (by simpa using hj))
 exact all acc.toList vs (by rw [CQ, h.1, hn]) fun j v hj => h.2 j v (by rw [<- DY]; exact hj)
theorem oR {Q : List Value -> Shared -> Prop} (hh : A.handled = none) (hS : SetAt w S es ep t ks s.heap)
  (h : ∀ (vs : List Int) (l : List Value) (s' : Shared), vs.Perm ks -> IntsAre l vs -> (∀ b o, s.heap.get? b = some o -> s'.heap.get? b = some o) -> s'.os = s.os -> s'.gens = s.gens -> s.heap.objs.size <= s'.heap.objs.size -> Q l s') : wpAny (model P w) A (collect (.ref S)) Q E s := by
 obtain ⟨o, ho, hs⟩ := id hS
 have hSl : S < s.heap.objs.size := Heap.lt_size ho
 have hne : s.heap.objs.size ≠ S := Eo hSl
 unfold collect
 refine wpAny_bind (wpAny_runValue (codeAny_builtin PySem.F.entry_proto_collect ?_))
 rw [Around.under_plainId PySem.F.plain_proto_collect _]
 show wpAny _ A.in1 (newList [] >>= fun l => again (.builtin "list.__iadd__" ⟨[l, .ref S], []⟩)) _ _ s
 refine wpAny_bind (wpAny_newObj_type ?_)
 refine wpAny_pure ⟨plainId_quiet PySem.F.plain_list_iadd _, codeAny_builtin PySem.F.entry_list_iadd ?_⟩
 rw [Around.under_plainId PySem.F.plain_list_iadd _]
 generalize hs1 : ({ s with heap := s.heap.push { cls := .type "list", data := .seq ([] : List Value).toArray } } : Shared) = s1
 have e1 : s1.heap = s.heap.push { cls := .type "list", data := .seq ([] : List Value).toArray } := by rw [<- hs1]
 have k1 : ∀ b o, s.heap.get? b = some o -> s1.heap.get? b = some o := fun b o e => by rw [e1]; exact Heap.get?_push_of_some _ e
 have hL1 : s1.heap.get? s.heap.objs.size = some { cls := .type "list", data := .seq ([] : List Value).toArray } := by rw [e1]; exact Heap.get?_push_size _ rfl
 have hS1 : SetAt w S es ep t ks s1.heap := hS.at (k1 S)
 have hT : ∀ s2 : Shared, (∀ b o, s1.heap.get? b = some o -> s2.heap.get? b = some o) -> s2.TypeIs (.ref S) "set" := fun s2 k => ⟨o, k _ _ (k1 _ _ ho), hs.ex.1⟩
 show wpAny _ A.in1 (Builtin.List.listExtendWith (.ref s.heap.objs.size) (.ref S) (.ref s.heap.objs.size)) _ _ _
 unfold Builtin.List.listExtendWith
 refine wpAny_bind (wpAny_typeOf (hT s1 fun _ _ e => e) ?_)
 have g1 : Builtin.List.listSameRef (.ref s.heap.objs.size) (.ref S) = false := by simp [Builtin.List.listSameRef, hne]
 have g2 : (Value.type "set" == Value.type "list") = false := by decide
 have g3 : (Value.type "set" == Value.type "tuple") = false := by decide
 simp only [g1, g2, g3, Bool.or_false, Df, if_false]
 refine wpAny_bind (uN hS1 fun I fp vs St s2 hp W st hfp hI k2 os2 gs2 => ?_)
 refine wpAny_bind (wpAny_holding (uO (hT s2 k2) ?_))
 show wpAny _ A.in1 (rule "list.extend.makes-room" >>= fun _ => Builtin.List.listTouch (.ref s.heap.objs.size) >>= fun _ =>
  again (.builtin "list.extend.loop" ⟨[.ref s.heap.objs.size, .ref I, .ref s.heap.objs.size], []⟩)) _ _ _
 refine wpAny_bind (wpAny_rule (wpAny_bind ?_))
 have hL2 := k2 _ _ hL1
 have lt1 : s.heap.objs.size < s1.heap.objs.size := by rw [e1, Heap.size_push]; exact DA _
 show wpAny _ A.in1 (updateSeq s.heap.objs.size (·.push .none) >>= fun _ => updateSeq s.heap.objs.size (·.pop)) _ _ _
 refine wpAny_bind (wpAny_updateSeq hL2 rfl ?_)
 have hL3 := Heap.get?_update_self (Obj.mapSeq (·.push Value.none)) hL2 rfl
 refine wpAny_updateSeq hL3 rfl ?_
 have hL4 := Heap.get?_update_self (Obj.mapSeq (·.pop)) hL3 rfl
 have W1 := W A.in1 (show A.handled = none from hh)
 have hSf : s.heap.objs.size ∉ fp := fun m => by
  rcases (hfp _ m).2 with z | z
  ·exact hne z
  ·exact absurd lt1 (El.mpr z)
 have zb := hs.bound
 have eb : scanBound = 4096 := rfl
 have oth : ∀ b o, b ≠ s.heap.objs.size -> s2.heap.get? b = some o -> ((s2.heap.update s.heap.objs.size (Obj.mapSeq (·.push Value.none))).update s.heap.objs.size (Obj.mapSeq (·.pop))).get? b = some o :=
  fun b o hb e => (Heap.get?_update_other _ _ (Ne.symm hb)).trans ((Heap.get?_update_other _ _ (Ne.symm hb)).trans e)
 refine wpAny_pure ⟨plainId_quiet PySem.F.plain_extend_loop _, codeAny_extend_loopS W1.toS (yS (by omega)) _ hSf _ es.size 0 _ _ _ rfl (CK _) (W1.frame 0 _ _ st fun b hb o e => oth b o (fun z => hSf (z ▸ hb)) e) hL4 (ItemsOf.nil _) fun s3 acc c hm hL5 hacc => ?_⟩
 show wpAny _ A (load s.heap.objs.size >>= _) _ _ s3
 refine wpAny_bind (wpAny_load hL5 ?_)
 refine wpAny_pure (h vs acc.toList s3 hp (qu hacc (by rw [hp.length_eq, hs.size])) (fun b o e => ?_) ?_ ?_ (Da (Heap.lt_size hL5)))
 ·have hb : b ≠ s.heap.objs.size := Cy (Heap.lt_size e)
  have e2 := k2 _ _ (k1 _ _ e)
  refine hm.heap b o (fun m => ?_) (oth b o hb e2)
  rcases Cr.mp m with z | z
  ·exact hb z
  ·have z : b = I := Cm.mp z
   exact absurd (Heap.lt_size (k1 _ _ e)) (by rw [z]; exact El.mpr hI)
 ·have e2 : s3.os = s2.os := hm.os
  rw [e2, os2, <- hs1]
 ·have e2 : s3.gens = s2.gens := hm.gens
  rw [e2, gs2, <- hs1]
end
section
variable {P : Program} {w : World} {A : Around} {E : Value -> Shared -> Prop} {s : Shared} {S : Addr} {ks ms : List Int} {o : Obj} {es : Array (Int × Value)} {ep i : Nat} {t : SetTable}
theorem ly {Q : Value -> Shared -> Prop} (hh : A.handled = none) (hS : SetAt w S es ep t ks s.heap) (h64 : ks.length < 64)
  (h : ∀ (L : Addr) (out : Array Value) (ns : List Int) (e : Nat) (s' : Shared), IntsAre out.toList ns -> ns.Perm ks -> ns.Pairwise (· <= ·) -> s'.heap.get? L = some (seqObj "list" out e) -> s.heap.objs.size <= L -> (∀ b o, s.heap.get? b = some o -> s'.heap.get? b = some o) -> s'.os = s.os -> s'.gens = s.gens -> Q (.ref L) s') :
  wpAny (model P w) A (call (.builtin "sorted") [.ref S]) Q E s := by
 refine Calls.call_function_entry kind_sorted plain_sorted entry_sorted (args_sorted1 _) ?_
 unfold Builtin.«sorted»
 refine wpAny_bind (m := checkCount "sorted" 1 1 _) (wpAny_pure ?_)
 refine wpAny_bind (oR (show A.in1.handled = none from hh) hS fun vs l s1 hp hI k1 os1 gs1 le1 => ?_)
 have hl : l.length = vs.length := IntsAre.length hI
 have hv : vs.length = ks.length := hp.length_eq
 refine wpAny_bind (wpAny_newList ?_ (yS (by omega)))
 have hoL : (s1.heap.push (seqObj "list" l.toArray 0)).get? s1.heap.objs.size = some (seqObj "list" l.toArray 0) := Heap.get?_push_size _ rfl
 refine wpAny_bind (wpAny_holding (wpAny_call_entry slot_list_sort ⟨_, hoL, rfl⟩ entry_list_sort (list_sort_tree (ns := vs) hoL hI (by omega) fun out ns' a1 a2 a3 => ⟨_, rfl, ?_⟩) (args_list_sort _)))
 refine wpAny_pure ⟨_, rfl, ?_⟩
 obtain ⟨e, he⟩ := sortedHeap_at (out := out) hoL
 have kp : ∀ b o, s.heap.get? b = some o -> (sortedHeap (s1.heap.push (seqObj "list" l.toArray 0)) s1.heap.objs.size l out).get? b = some o := fun b o eb => by
  have e1 := k1 b o eb
  have lt := Heap.lt_size e1
  rw [sortedHeap_old (Cy lt) (by rw [Heap.size_push]; exact C8 lt)]
  exact Heap.get?_push_of_some _ e1
 exact h s1.heap.objs.size out ns' e { s1 with heap := sortedHeap (s1.heap.push (seqObj "list" l.toArray 0)) s1.heap.objs.size l out } a1 (a2.trans hp) a3 he le1 kp os1 gs1
theorem qv {Q : Value -> Shared -> Prop} (hS : SetAt w S es ep t ks s.heap) (h : ∀ tk n, Q (.int ks.length tk) { s with toks := n }) : wpAny (model P w) A (call (.builtin "len") [.ref S]) Q E s := by
 obtain ⟨o, ho, hs⟩ := hS
 have zb := hs.bound
 have eb : scanBound = 4096 := rfl
 have e := hs.size
 refine call_len_set ho hs.ex hs.da hs.ft (by omega) ?_
 rw [e]
 exact h _ _
def cI (acc : List Int) (x : Int) : List Int := if x ∈ acc then acc else acc ++ [x]
def dd (ns : List Int) : List Int := ns.foldl cI []
theorem fQ (ns : List Int) (x : Int) : dd (ns ++ [x]) = cI (dd ns) x := by unfold dd; rw [List.foldl_append]; rfl
theorem sP {acc : List Int} {x y : Int} : y ∈ cI acc x <-> y ∈ acc \/ y = x := by
 unfold cI
 split
 ·rename_i h
  exact ⟨.inl, fun z => z.elim id fun e => e ▸ h⟩
 ·simp
theorem oS : ∀ (ns acc : List Int) (y : Int), y ∈ ns.foldl cI acc <-> y ∈ acc \/ y ∈ ns
 | [], acc, y => by simp
 | x :: r, acc, y => by
  rw [EF, oS r, sP, Cr, or_assoc]
theorem bD {ns : List Int} {y : Int} : y ∈ dd ns <-> y ∈ ns := by unfold dd; rw [oS]; simp
theorem rC : ∀ (ns acc : List Int), acc.Nodup -> (ns.foldl cI acc).Nodup
 | [], acc, h => h
 | x :: r, acc, h => by
  rw [EF]
  refine rC r _ ?_
  unfold cI
  split
  ·exact h
  ·rename_i hx; exact eG h hx
theorem lZ (ns : List Int) : (dd ns).Nodup := rC ns [] Eb
theorem dM (ns : List Int) : (dd ns).length <= ns.length := (lZ ns).length_le_of_subset fun _ h => bD.mp h
theorem uP {x : Int} {tk : Tok} {Q : Bool -> Shared -> Prop} (hS : SX w S ms s.heap) (hl : ms.length + 1 < 4000)
  (h : ∀ b h', Heap.SameBut S s.heap h' -> SX w S (cI ms x) h' -> Q b { s with heap := h' }) : wpAny (model P w) A (setAddHashed S (.int x tk) (hashInt x)) Q E s := by
 obtain ⟨o, es, ep, t, ks, ho, hs, hp⟩ := hS
 refine yR ho hs (by rw [hp.length_eq]; exact hl) (fun hx => ?_) fun hx h' sb sx => ?_
 ·have e : cI ms x = ms := if_pos (hp.mem_iff.mp hx)
  have := h false s.heap (Heap.SameBut.refl _ _) (by rw [e]; exact ⟨o, es, ep, t, ks, ho, hs, hp⟩)
  exact this
 ·have e : cI ms x = ms ++ [x] := if_neg fun z => hx (hp.mem_iff.mpr z)
  exact h true h' sb (by rw [e]; exact sx.perm (hp.append_right _))
theorem uQ {I l : Addr} {items : Array Value} {ns : List Int} {R : Result -> Shared -> Prop} (hh : A.handled = none) (hne : l ≠ I) (hSI : S ≠ I) (hSl : S ≠ l) (hi : IntsAre items.toList ns) (hb : ns.length + 1 < 4000) :
  ∀ (k i : Nat) (s : Shared), items.size - i = k -> i <= items.size -> s.heap.IsListIter I l i -> s.heap.IsList l items -> SX w S (dd (ns.take i)) s.heap ->
   (∀ s', (∀ b o, b ≠ S -> b ≠ I -> s.heap.get? b = some o -> s'.heap.get? b = some o) -> s'.os = s.os -> s'.gens = s.gens -> s'.drawn = s.drawn -> SX w S (dd ns) s'.heap -> R (.ok (.ret .none)) s') ->
   codeAny (model P w) A (.builtin "set.update.loop" ⟨[.ref S, .ref I], []⟩) R s := by
 have hsz : items.size = ns.length := by rw [<- CQ]; exact IntsAre.length hi
 intro k
 induction k with
 | zero =>
  intro i s hk hil it hl hS hR
  have e : i = items.size := by omega
  subst e
  refine codeAny_builtin PyProof.Rows.F.entry_set_update_loop ?_
  rw [Around.under_plainId PyProof.Rows.F.plain_set_update_loop _]
  show wpAny _ A.in1 (pyNext (.ref I) >>= _) _ _ s
  refine wpAny_bind (wpAny_pyNext_list_end (show A.in1.handled = none from hh) it hl (by simp) fun h' eb => ?_)
  show wpAny _ A.in1 (ret Value.none) _ _ _
  refine wpAny_pure (hR _ (fun b o _ hb e => eb b o hb e) rfl rfl rfl ?_)
  rw [Do (by omega)] at hS
  exact hS.at fun o e => eb S o hSI e
 | succ k ih =>
  intro i s hk hil it hl hS hR
  have hlt : i < items.size := by omega
  have hin : i < ns.length := by omega
  obtain ⟨tk, hv⟩ := IntsAre.int_at hi i items[i] (by simp [hlt])
  have egd : ns.getD i 0 = ns[i] := by simp [hin]
  rw [egd] at hv
  refine codeAny_builtin PyProof.Rows.F.entry_set_update_loop ?_
  rw [Around.under_plainId PyProof.Rows.F.plain_set_update_loop _]
  show wpAny _ A.in1 (pyNext (.ref I) >>= _) _ _ s
  refine wpAny_bind (wpAny_pyNext_list_item it hl (x := items[i]) (by simp [hlt]) fun h1 it1 sb1 => ?_)
  rw [hv]
  show wpAny _ A.in1 (holding [Value.int ns[i] tk] (setAdd S (.int ns[i] tk)) >>= _) _ _ _
  refine wpAny_bind (wpAny_holding ?_)
  unfold setAdd
  refine wpAny_holding (wpAny_bind ((intKind P w).pyHash (k := ns[i]) (intKind_is _ _ _ _) ?_))
  have hS1 : SX w S (dd (ns.take i)) h1 := hS.at fun o e => (sb1.2 S hSI).trans e
  have dl := dM (ns.take i)
  rw [CW] at dl
  refine uP (s := { s with heap := h1, toks := s.toks + 1 }) hS1 (by omega) fun b h2 sb2 sx => ?_
  have e2 : cI (dd (ns.take i)) ns[i] = dd (ns.take (i + 1)) := by rw [List.take_succ_eq_append_getElem hin, fQ]
  rw [e2] at sx
  have hl1 : h1.IsList l items := by obtain ⟨o, e, r⟩ := hl; exact ⟨o, (sb1.2 l hne).trans e, r⟩
  refine wpAny_pure ⟨plainId_quiet PyProof.Rows.F.plain_set_update_loop _, ih (i + 1) _ (by omega) hlt ?_ ?_ sx fun s' kp os' gs' ds' sx' => ?_⟩
  ·obtain ⟨o, e, r⟩ := it1
   exact ⟨o, (sb2.2 I hSI.symm).trans e, r⟩
  ·obtain ⟨o, e, r⟩ := hl1
   exact ⟨o, (sb2.2 l hSl.symm).trans e, r⟩
  ·exact hR s' (fun b o h1' h2' e => kp b o h1' h2' ((sb2.2 b h1').trans ((sb1.2 b h2').trans e))) os' gs' ds' sx'
end
end L2
set_option maxHeartbeats 3000000
namespace L2
open PySem PySem.Spec PyProof.Rows
section
variable {P : Program} {w : World} {A : Around} {E : Value -> Shared -> Prop} {s : Shared} {S : Addr} {ks ms : List Int}
def bJ (w : World) : Obj := { cls := .type "set", dict := none, data := .set #[] 0 (.fresh 0 0 (!cy w)) }
theorem l7 {h : Heap} {a : Addr} (e : h.get? a = some (bJ w)) : SX w a [] h :=
 ⟨_, #[], 0, _, [], e, ⟨⟨rfl, rfl, rfl⟩, rfl, .nil, Eb, by decide, rfl, ⟨rfl, fun _ => .nil⟩⟩, .refl _⟩
theorem xf (a : Value) {Q : Value -> Shared -> Prop} (h : Q (.ref s.heap.objs.size) { s with heap := s.heap.push (bJ w) }) :
  codeAny (model P w) A (.call (.builtin "set.__new__") ⟨[.type "set", a], []⟩) (wants Q E) s := by
 refine codeAny_of_tree ?_
 show wpAny _ A.in1 (do checkBuiltinCall "set.__new__" ⟨[.type "set", a], []⟩; again (.builtin "set.__new__" ⟨[.type "set", a], []⟩)) _ _ s
 refine wpAny_bind (wpAny_of_eq (PySem.F.newCall_set_1 a) (wpAny_pure ⟨plainId_quiet PySem.F.plain_set_new _, codeAny_builtin PySem.F.entry_set_new ?_⟩))
 rw [Around.under_plainId PySem.F.plain_set_new _]
 unfold Builtin.«set.__new__» Builtin.Frozenset.newClass
 have hsub := sub_set_self
 obtain ⟨hp, g, d, tk, os⟩ := s
 dsimp only
 wp_walk
 refine wpAny_askSetting (wpAny_pure ?_)
 dsimp only
 simp only [newObj]
 exact wpAny_bind (wpAny_alloc (wpAny_pure (wpAny_pure h)))
theorem uR {l : Addr} {items : Array Value} {ns : List Int} {R : Result -> Shared -> Prop} (hh : A.handled = none) (ho : s.heap.get? S = some (bJ w)) (hl : s.heap.IsList l items) (hne : S ≠ l) (hi : IntsAre items.toList ns) (hb : ns.length + 1 < 4000)
  (hR : ∀ s', (∀ b o, b ≠ S -> s.heap.get? b = some o -> s'.heap.get? b = some o) -> s'.os = s.os -> s'.gens = s.gens -> SX w S (dd ns) s'.heap -> R (.ok (.ret .none)) s') :
  wpAny (model P w) A.in1 (Builtin.«set.__init__» ⟨[.ref S, .ref l], []⟩)
   (fun fin s' => match fin with | .done f => R (.ok f) s' | .again c' => c'.quiet = true /\ codeAny (model P w) A c' R s') (fun e s' => R (.error e) s') s := by
 obtain ⟨ol, hol, hcl, nl, hdl⟩ := id hl
 have hT : s.TypeIs (.ref S) "set" := ⟨_, ho, rfl⟩
 have hTl : s.TypeIs (.ref l) "list" := ⟨_, hol, hcl⟩
 have q1 := PySem.F.sub_list_set
 have q2 := PySem.F.sub_list_frozenset
 unfold Builtin.«set.__init__» noKeywords
 generalize hPI : Builtin.Frozenset.updateFrom = UF
 obtain ⟨hp, g, d, tk, os⟩ := s
 unfold bJ at ho
 wp_walk
 subst hPI
 unfold Builtin.Frozenset.updateFrom Builtin.Frozenset.isAnySet
 refine wpAny_bind ?_
 show wpAny _ _ (isInstance (.ref l) (.type "set") >>= fun b => _) _ _ _
 refine wpAny_bind (wpAny_isInstance hTl q1 ?_)
 show wpAny _ _ (isInstance (.ref l) (.type "frozenset")) _ _ _
 refine wpAny_isInstance hTl q2 ?_
 rw [if_neg Ct]
 refine wpAny_bind (wpAny_typeOf hTl ?_)
 rw [if_neg (by decide)]
 refine wpAny_bind (wpAny_pyIter_list hl ?_)
 refine wpAny_bind (wpAny_runValue ?_)
 have hSh : S < hp.objs.size := Heap.lt_size ho
 have hlh : l < hp.objs.size := Heap.lt_size hol
 refine uQ (show A.in1.handled = none from hh) (Cy hlh) (Cy hSh) hne hi hb (items.size - 0) 0 _ rfl (CK _) ⟨_, Heap.get?_push_size _ rfl, rfl, rfl⟩ ?_ ?_ fun s' kp os' gs' ds' sx => ?_
 ·exact ⟨ol, Heap.get?_push_of_some _ hol, hcl, nl, hdl⟩
 ·rw [DD]
  exact l7 (Heap.get?_push_of_some _ ho)
 ·refine wpAny_pure (wpAny_pure (hR s' (fun b o hbS e => kp b o hbS (Cy (Heap.lt_size e)) (Heap.get?_push_of_some _ e)) os' gs' sx))
theorem oT {l : Addr} {items : Array Value} {ns : List Int} {Q : Value -> Shared -> Prop} (hh : A.handled = none) (hl : s.heap.IsList l items) (hi : IntsAre items.toList ns) (hb : ns.length + 1 < 4000)
  (h : ∀ s', SX w s.heap.objs.size (dd ns) s'.heap -> (∀ b o, s.heap.get? b = some o -> s'.heap.get? b = some o) -> s'.os = s.os -> s'.gens = s.gens -> Q (.ref s.heap.objs.size) s') : wpAny (model P w) A (call (.type "set") [.ref l]) Q E s := by
 obtain ⟨c, tl, hmro⟩ := PySem.F.called_set.mro
 have hmade := PySem.F.called_set.made
 have hsub := PySem.F.called_set.sub
 have n1 := PySem.F.called_set.notType
 have n2 := PySem.F.called_set.canCreate
 have hct := PySem.F.typeCall_set_1 (.ref l)
 refine wpAny_call (codeAny_of_tree ?_)
 show wpAny _ _ (callAny (.type "set") _) _ _ _
 refine wpAny_pure ⟨Code.quiet_builtin _ (by decide +kernel), codeAny_builtin PySem.F.entry_type_call ?_⟩
 rw [Around.under_plain (weight_type_call_type "set" [.ref l] []) rfl]
 repeat (any_goals (first | assumption | wp_step))
 refine codeAny_mono (xf (E := E) (Q := fun v s1 => v = .ref s.heap.objs.size /\ s1 = { s with heap := s.heap.push (bJ w) }) (.ref l) ⟨rfl, rfl⟩) fun r s1 hr => ?_
 cases r with
 | error e => exact hr
 | ok fl =>
  cases fl with
  | ret v =>
   obtain ⟨e1, e2⟩ := hr
   subst e1 e2
   have hS : (s.heap.push (bJ w)).get? s.heap.objs.size = some (bJ w) := Heap.get?_push_size _ rfl
   have hT : Shared.TypeIs { s with heap := s.heap.push (bJ w) } (.ref s.heap.objs.size) "set" := ⟨_, hS, rfl⟩
   have hlu := PySem.F.called_set.init.lookup
   have hbd := PySem.F.called_set.init.bind (.ref s.heap.objs.size)
   repeat (any_goals (first | assumption | wp_step))
   refine codeAny_mono (codeAny_call_builtin (R := wants (fun r s2 => r = .none /\ Q (.ref s.heap.objs.size) s2) E) PySem.F.called_set.init.plain PySem.F.entry_set_init (check_set_init_1 hT ?_)) fun r2 s2 hr2 => ?_
   ·obtain ⟨ol, hol, hcl⟩ := id hl
    refine uR (A := A.in1) (show A.in1.handled = none from hh) hS ⟨ol, Heap.get?_push_of_some _ hol, hcl⟩ (Eo (Heap.lt_size hol)) hi hb fun s' kp os' gs' sx => ⟨rfl, h s' sx (fun b o e => kp b o (Cy (Heap.lt_size e)) (Heap.get?_push_of_some _ e)) os' gs'⟩
   ·cases r2 with
    | error e => exact hr2
    | ok fl2 =>
     cases fl2 with
     | ret v2 =>
      obtain ⟨e1, hq⟩ := hr2
      subst e1
      repeat (any_goals (first | assumption | wp_step))
     | _ => exact hr2.elim
  | _ => exact hr.elim
end
theorem SX.ok {P : Program} {w : World} {H : Hp} {h : Heap} {a : Addr} {ms : List Int} (x : SX w a ms h) : ObjOk P w H h a (.ext (SX w a ms)) :=
 ⟨x, by obtain ⟨o, _, _, _, _, e, _⟩ := x; exact ⟨o, e⟩, fun _ _ y k => y.at k⟩
section
variable {X : Cx}
theorem Inv.new' {pins : List (Addr × Obj)} {σ : L2.St} {H : Hp} {s s' : Shared} {a : Addr} {o : HO} (I : Inv X pins σ H s) (k : ∀ b u, s.heap.get? b = some u -> s'.heap.get? b = some u) (hp : s.heap.objs.size <= a) (hos : s'.os = s.os) (hgs : s'.gens = s.gens)
  (new : ObjOk X.prog X.w (az H a o) s'.heap a o) : Inv X pins σ (az H a o) s' :=
 I.call' (ch := []) hos (Un.laid k hp (I.hok.fresh hp)) (I.hok.laid k hp new) (by rw [hgs]; exact I.bare) fun b hb => by cases hb
theorem j7 {w : World} {a : Addr} {ms : List Int} {h : Heap} (x : SX w a ms h) : ∃ es ep t ks, SetAt w a es ep t ks h /\ ks.Perm ms := by
 obtain ⟨o, es, ep, t, ks, e, r, p⟩ := x
 exact ⟨es, ep, t, ks, ⟨o, e, r⟩, p⟩
theorem xg (w : World) (K : PySem.W.Frag) (hc : X.calm = true := by rfl) (hw : X.w = w := by rfl) (hK : X.K = K := by rfl) : cH X (.type "set") (fun xs H Q => ∃ p ns, xs = [.ref p] /\ SqL K H p (ns.map V.int) /\ ns.length < 3000 /\
  ∀ a, H a = none -> Q (.ref a) (az H a (.ext (SX w a (dd ns))))) := by
 subst hw hK
 intro pins s σ H xs us Q I r h
 obtain ⟨p, ns, e, hq, hl, q⟩ := h
 subst e
 obtain ⟨u, e, rx⟩ := fg r
 subst e
 cases rx
 obtain ⟨its, rv, pl, hz⟩ := I.list hq
 refine oT (ns := ns) (I.ok.hd hc) pl.isList (by simpa using jQ rv) (by omega) fun s' sx kp os' gs' => ?_
 exact ⟨.ref s.heap.objs.size, _, I.new' kp (Cg _) os' gs' sx.ok, rfl, q _ I.fresh⟩
theorem uS (w : World) (hc : X.calm = true := by rfl) (hw : X.w = w := by rfl) : cH X (.builtin "sorted") (fun xs H Q => ∃ p ms, xs = [.ref p] /\ H p = some (.ext (SX w p ms)) /\ ms.length < 64 /\
  ∀ l (ks : List Int), H l = none -> ks.Perm ms -> ks.Pairwise (· <= ·) -> Q (.ref l) (az H l (.lst (ks.map V.int)))) := by
 subst hw
 intro pins s σ H xs us Q I r h
 obtain ⟨p, ms, e, hp, hl, q⟩ := h
 subst e
 obtain ⟨u, e, rx⟩ := fg r
 subst e
 cases rx
 obtain ⟨sx, _⟩ := (show ObjOk X.prog X.w H s.heap p (.ext (SX X.w p ms)) from I.hok p _ hp)
 obtain ⟨es, ep, t, ks, sa, pm⟩ := j7 sx
 refine ly (I.ok.hd hc) sa (by rw [pm.length_eq]; exact hl) fun L out ns e s' hI hpm hs he le kp os' gs' => ?_
 refine ⟨.ref L, _, I.new' kp le os' gs' (show ObjOk X.prog X.w _ _ _ (.lst (ns.map V.int)) from ⟨?_, out.toList, e, iA hI, ?_⟩), rfl, q _ ns (I.hok.fresh le) (hpm.trans pm) hs⟩
 ·rw [B9, hpm.length_eq, pm.length_eq]; exact wU (by omega)
 ·simpa [seqObj] using he
theorem yc (w : World) (hw : X.w = w := by rfl) : cH X (.builtin "len") (fun xs H Q => ∃ p ms, xs = [.ref p] /\ H p = some (.ext (SX w p ms)) /\ Q (.int ms.length) H) := by
 subst hw
 intro pins s σ H xs us Q I r h
 obtain ⟨p, ms, e, hp, q⟩ := h
 subst e
 obtain ⟨u, e, rx⟩ := fg r
 subst e
 cases rx
 obtain ⟨sx, _⟩ := (show ObjOk X.prog X.w H s.heap p (.ext (SX X.w p ms)) from I.hok p _ hp)
 obtain ⟨es, ep, t, ks, sa, pm⟩ := j7 sx
 refine qv sa fun tk n => ⟨.int ms.length, H, I.tok n, ⟨tk, ?_⟩, q⟩
 rw [pm.length_eq]
end
end L2
namespace L2
end L2
namespace L2
open PySem PySem.Spec PyProof.Rows
def uT (lo st : Int) (n : Nat) : It := ⟨fun i _ => i < n, fun i H x H' => H' = H /\ x = .int (lo + i * st), fun i _ => n <= i⟩
theorem sQ {P : Program} {w : World} {K : PySem.W.Frag} {tg : Expr} (it : Addr) (lo st : Int) (n : Nat) : Turn P w K tg (uT lo st n) [it] it (fun i h => IsRangeIter h it (lo + (i : Nat) * st) ((n : Int) - (i : Nat)) st) where
 mem := by simp
 obj := fun i h sta b hb => by
  have e : b = it := by simpa using hb
  subst e
  exact ⟨_, sta, fun v z => by
   have z' : Data.fields _ = Data.cell v := z
   cases z'⟩
 keep := fun i h h' sta k => k it (by simp) _ sta
 item := by
  intro X hP hw hK hc i pins s σ H E I hf sta hg
  subst hP hw hK
  obtain ⟨f0, f1, f2, f3, f4, f5⟩ := hf it (by simp)
  refine (Walks.range (prog := X.prog) (w := X.w) (I.ok.hd hc) it lo st n).item i s _ _ hg sta fun v h' tk hv sta' kk => ?_
  obtain ⟨t, rfl⟩ := hv
  have I1 : Inv X pins σ H { s with heap := h', toks := tk } := I.turned (fun b o hb e => kk b o (by simpa using hb) e) f0 f1 f3 f4 f5
  exact ⟨_, rfl, lI (s := { s with heap := h', toks := tk }) (n := "range_iterator") sta' rfl rfl (by decide) ⟨.int (lo + i * st), H, I1, ⟨t, rfl⟩, ⟨rfl, rfl⟩, sta', fun b hb => (hf b hb).1⟩⟩
 done := by
  intro X hP hw hK hc i pins s σ H E I hf sta hg
  subst hP hw hK
  obtain ⟨f0, f1, f2, f3, f4, f5⟩ := hf it (by simp)
  exact wpAny_pyNext_range_end (I.ok.hd hc) sta (by have : n <= i := hg; omega) fun h' eb => ⟨rfl, I.turned (t' := s.toks) (fun b o hb e => eb b o hb e) f0 f1 f3 f4 f5⟩
 self := fun _ _ _ _ _ sta h => wpAny_pyIter_rangeiter sta h
section
variable {X : Cx} {tg : Expr}
theorem uU {lo st : Int} {n : Nat} {g : TG} {tb : TS} {D : Ends} {σ : L2.St} {H : Hp} (Pv : Nat -> L2.St -> Hp -> Prop) (h0 : Pv 0 σ H)
  (hs : ∀ i σ H, i < n -> Pv i σ H -> g (.int (lo + i * st)) σ H fun σ2 H2 => tb { D with nx := Pv (i + 1), ct := Pv (i + 1), bk := D.nx } σ2 H2) (hd : ∀ σ H, Pv n σ H -> D.nx σ H) :
  ∃ W : Nat -> Nat -> L2.St -> Hp -> Prop, (∃ m, W 0 m σ H) /\ ∀ i m σ H, W i m σ H ->
   ((uT lo st n).stop i H /\ D.nx σ H) \/ ((uT lo st n).go i H /\ ∃ N : L2.St -> Hp -> Prop, (∀ σ' H', N σ' H' -> ∃ m', m' < m /\ W (i + 1) m' σ' H') /\ ∀ x H', (uT lo st n).yld i H x H' -> g x σ H' fun σ2 H2 => tb { D with nx := N, ct := N, bk := D.nx } σ2 H2) := by
 refine ⟨fun i m σ H => m = n - i /\ i <= n /\ Pv i σ H, ⟨n, by simp, CK _, h0⟩, ?_⟩
 rintro i m σ H ⟨rfl, hi, p⟩
 by_cases hlt : i < n
 ·refine .inr ⟨hlt, Pv (i + 1), fun σ' H' p' => ⟨n - (i + 1), C2 _ _ hlt, rfl, hlt, p'⟩, fun x H' y => ?_⟩
  obtain ⟨e, y⟩ := y
  subst e y
  exact hs i σ _ hlt p
 ·have e : i = n := Ds hi (Dg hlt)
  subst e
  exact .inl ⟨Cg _, hd σ H p⟩
end
section
variable {X : Cx} {pos : Pos}
end
theorem aC {hs : List Int} {k : Nat} (h : k < hs.length) : hs.getD k 0 = hs[k] := by simp [h]
theorem iE {hs : List (List Int)} {k : Nat} (h : k < hs.length) : hs.getD k [] = hs[k] := by simp [h]
def lp (mask : Nat) : Nat -> Nat × Nat -> Nat × Nat
 | 0, x => x
 | n + 1, x => lp mask n (SetTable.leap mask x.1 x.2)
section
variable {P : Program} {w : World} {A : Around} {E : Value -> Shared -> Prop} {s : Shared} {S : Addr} {ks ms : List Int} {es : Array (Int × Value)} {ep : Nat} {t : SetTable}
theorem yU {n : Nat} (h : n < 5000) : n <= sizeLine := Da (i4 (by omega))
theorem SetAt.store {es' : Array (Int × Value)} {t' : SetTable} {ks' : List Int} {Q : Unit -> Shared -> Prop} (hS : SetAt w S es ep t ks s.heap) (en : Ents es'.toList ks') (nd : ks'.Nodup) (sz : ks'.length < 4000) (ft : t'.fits es'.size = true) (tb : TabK (!cy w) t')
  (h : ∀ h', Heap.SameBut S s.heap h' -> SetAt w S es' (ep + 1) t' ks' h' -> Q () { s with heap := h' }) : wpAny (model P w) A (storeSet S es' t') Q E s := by
 obtain ⟨o, ho, hs⟩ := hS
 have z : es'.size = ks'.length := by rw [<- en.len, CQ]
 refine wpAny_storeSet_of ho hs.da (h _ (Heap.SameBut.update ..) ?_) (by rw [z]; exact yU (by omega))
 obtain ⟨o', ho', hs'⟩ := qm (s := s) ho hs en nd sz ft tb
 exact ⟨o', ho', hs'⟩
theorem SetAt.state {Q : Array (Int × Value) × Nat × SetTable -> Shared -> Prop} (hS : SetAt w S es ep t ks s.heap) (h : Q (es, ep, t) s) : wpAny (model P w) A (setState S) Q E s := by
 obtain ⟨o, ho, hs⟩ := hS
 exact wpAny_setState_of ho hs.da hs.ft h
theorem SetAt.epoch {Q : Nat -> Shared -> Prop} (hS : SetAt w S es ep t ks s.heap) (h : Q ep s) : wpAny (model P w) A (setEpoch S) Q E s := by
 unfold setEpoch
 exact wpAny_bind (hS.state (wpAny_pure h))
theorem SetAt.entries {Q : Array (Int × Value) -> Shared -> Prop} (hS : SetAt w S es ep t ks s.heap) (h : Q es s) : wpAny (model P w) A (setEntries S) Q E s := by
 unfold setEntries
 exact wpAny_bind (hS.state (wpAny_pure h))
theorem SetAt.en (hS : SetAt w S es ep t ks s.heap) : Ents es.toList ks := let ⟨_, _, hs⟩ := hS; hs.en
theorem SetAt.nd (hS : SetAt w S es ep t ks s.heap) : ks.Nodup := let ⟨_, _, hs⟩ := hS; hs.nd
theorem SetAt.ft (hS : SetAt w S es ep t ks s.heap) : t.fits es.size = true := let ⟨_, _, hs⟩ := hS; hs.ft
theorem SetAt.tb (hS : SetAt w S es ep t ks s.heap) : TabK (!cy w) t := let ⟨_, _, hs⟩ := hS; hs.tb
theorem SetAt.lt4 (hS : SetAt w S es ep t ks s.heap) : ks.length < 4000 := let ⟨_, _, hs⟩ := hS; hs.sz
theorem SetAt.sx (hS : SetAt w S es ep t ks s.heap) (p : ks.Perm ms) : SX w S ms s.heap := let ⟨o, e, r⟩ := hS; ⟨o, es, ep, t, ks, e, r, p⟩
theorem SetAt.find {x : Int} {tk : Tok} {Q : Option Nat -> Shared -> Prop} (hS : SetAt w S es ep t ks s.heap) (h1 : ∀ i, ks[i]? = some x -> Q (some i) s) (h2 : x ∉ ks -> Q none s) : wpAny (model P w) A (setFind S (.int x tk) (hashInt x)) Q E s := by
 obtain ⟨o, ho, hs⟩ := hS
 have hel := hs.en.elems (P := P) (w := w)
 have hky : (intKind P w).is x (.int x tk) = true := intKind_is P w x tk
 unfold setFind setFindIn
 refine wpAny_bind (wpAny_setState_of ho hs.da hs.ft ?_)
 dsimp only
 rw [byScan_of (knd := intKind P w) rfl hs.bound hel, if_pos rfl]
 refine wpAny_bind (wpAny_rule ?_)
 refine wpAny_bind (wpAny_setScan_of (knd := intKind P w) (k := x) hky ho hs.da hs.ft hel ?_)
 have fd := hs.en.find (P := P) (w := w) (k := x)
 cases hr : List.findIdx? (fun e => (intKind P w).is x e.2) es.toList with
 | some j =>
  refine wpAny_pure ?_
  rw [Nat.zero_add]
  refine h1 j ?_
  obtain ⟨hj, p1, _⟩ := DJ.mp hr
  have hjk : j < ks.length := by rw [<- hs.en.len]; exact hj
  have gk := Ca hjk
  obtain ⟨e', g, tk', q⟩ := cj hs.en gk
  rw [Ca hj] at g
  have g := Option.some.inj g
  rw [g, q] at p1
  have : x = ks[j] := by
   have z : (intKind P w).is x (hashInt ks[j], Value.int ks[j] tk').2 = decide (x = ks[j]) := lX x ks[j] tk'
   rw [z] at p1
   exact of_decide_eq_true p1
  rw [gk, this]
 | none =>
  rw [hr] at fd
  exact wpAny_pure (h2 (of_decide_eq_false fd.symm))
end
section
variable {P : Program} {w : World} {A : Around} {E : Value -> Shared -> Prop} {s : Shared} {S : Addr} {ks ms : List Int} {es : Array (Int × Value)} {ep : Nat} {t : SetTable}
theorem uV {Q : Bool -> Shared -> Prop} (sets : List Addr) (ho : ∀ a ∈ sets, ∃ ms, SX w a ms s.heap) (h : Q true s) : wpAny (model P w) A (setsQuiet sets) Q E s := by
 unfold setsQuiet
 refine wpAny_bind (wpAny_forIn_list _ (fun cW b s' => (∀ a ∈ cW, a ∈ sets) /\ b.1 = none /\ s' = s) _ ?_ ?_ sets _ ⟨fun _ h => h, rfl, rfl⟩)
 ·rintro a cW b s' ⟨hm, hb, rfl⟩
  obtain ⟨ms, sx⟩ := ho a (hm a CM)
  obtain ⟨es, ep, t, ks, sa, pm⟩ := j7 sx
  refine wpAny_bind (sa.entries ?_)
  refine wpAny_bind (PySem.MeetsSeq2.wpAny_forIn_array _ (fun cW b s'' => (∀ a ∈ cW, a ∈ es.toList) /\ b.1 = none /\ s'' = s') _ ?_ ?_ es _ ⟨fun _ h => h, rfl, rfl⟩)
  ·rintro x cW b s' ⟨hm, hb, rfl⟩
   obtain ⟨k, tk, _, e⟩ := Ents.mem (es := es.toList) sa.en (hm x CM)
   subst e
   refine wpAny_pure ⟨fun a h => hm a (Cz _ h), rfl, rfl⟩
  ·rintro ⟨b1, b2⟩ s'' ⟨_, hb', rfl⟩
   dsimp only at hb'
   subst hb'
   exact wpAny_pure ⟨fun a h => hm a (Cz _ h), rfl, rfl⟩
 ·rintro ⟨b1, b2⟩ s' ⟨_, hb, rfl⟩
  dsimp only at hb
  subst hb
  exact wpAny_pure h
theorem m4 {Q : Bool -> Shared -> Prop} (h : Q (cy w) s) : wpAny (model P w) A setsByText Q E s := by
 unfold setsByText
 exact wpAny_bind (wpAny_askSetting (wpAny_pure h))
theorem SetAt.walk {others : List Addr} {f : Option Addr} {Q : Array (Int × Value) -> Shared -> Prop} (hS : SetAt w S es ep t ks s.heap) (ho : ∀ a ∈ others, ∃ ms, SX w a ms s.heap) (hf : ∀ a, f = some a -> a ≠ S /\ SX w a ms s.heap)
  (h : ∀ xs h', xs.toList.Perm es.toList -> (∀ b o, f ≠ some b -> s.heap.get? b = some o -> h'.get? b = some o) -> (∀ a, f = some a -> SX w a ms h') -> Q xs { s with heap := h' }) : wpAny (model P w) A (setWalkUnseen S others f) Q E s := by
 have hS' := hS
 obtain ⟨o, hoo, hs⟩ := hS
 unfold setWalkUnseen
 refine wpAny_bind (hS'.state ?_)
 dsimp only
 refine wpAny_bind (m4 ?_)
 have done : ∀ xs : Array (Int × Value), xs.toList.Perm es.toList -> Q xs s := fun xs p => h xs s.heap p (fun _ _ _ e => e) fun a e => (hf a e).2
 by_cases hc : (cy w || t.led && t.plain || decide (es.size <= 1)) = true
 ·rw [if_pos hc]
  by_cases bt : cy w = true
  ·exact gR bt hoo hs (done _ (iC _ _))
  ·unfold setWalk
   have bt0 : cy w = false := by simpa using bt
   have ld : t.led = true := by rw [hs.tb.led, bt0]; rfl
   refine wpAny_bind (hS'.state ?_)
   dsimp only
   refine wpAny_bind (m4 ?_)
   rw [bt0, if_neg Ct]
   rw [bt0, ld] at hc
   show wpAny _ _ (if (!t.plain && decide (es.size > 1)) = true then _ else _) _ _ _
   rw [if_neg (by cases hp : t.plain with | true => simp | false => (rw [hp] at hc; simp at hc ⊢; omega))]
   refine wpAny_bind ?_
   show wpAny _ _ (if (!t.led && decide (es.size > 1)) = true then unsupported "set:maker-not-led" else pure ()) _ _ _
   rw [if_neg (by rw [ld]; simp)]
   exact wpAny_pure (wpAny_pure (done _ (.refl _)))
 ·rw [if_neg hc]
  refine wpAny_bind (uV _ (fun a ha => ?_) ?_)
  ·rcases Cr.mp ha with e | e
   ·subst e; exact ⟨ks, hS'.sx (.refl _)⟩
   ·exact ho a e
  rw [if_neg (by simp)]
  refine wpAny_bind (wpAny_rule ?_)
  cases f with
  | none => exact wpAny_pure (done _ (.refl _))
  | some a =>
   obtain ⟨hne, sx⟩ := hf a rfl
   obtain ⟨ef, epf, tf, kf, sf, pf⟩ := j7 sx
   refine wpAny_bind (sf.state ?_)
   dsimp only
   by_cases hm : (tf.led && !t.led || tf.plain && !t.plain) = true
   ·rw [if_pos hm]
    refine wpAny_bind (sf.store (t' := { tf with led := tf.led && t.led, plain := tf.plain && t.plain }) sf.en sf.nd sf.lt4 sf.ft ⟨by show (tf.led && t.led) = _; rw [sf.tb.led, hs.tb.led]; simp, fun z => sf.tb.rise (by have z : (tf.plain && t.plain) = true := z; simp at z; exact z.1)⟩ fun h' sb st => ?_)
    exact wpAny_pure (h es h' (.refl _) (fun b o n e => (sb.2 b fun z => n (by rw [z])).trans e) fun a' e => by cases e; exact st.sx (s := { s with heap := h' }) pf)
   ·rw [if_neg hm]
    exact wpAny_pure (done _ (.refl _))
end
section
variable {P : Program} {w : World} {A : Around} {E : Value -> Shared -> Prop} {s : Shared} {S T : Addr} {ks ms ns : List Int} {es : Array (Int × Value)} {ep : Nat} {t : SetTable}
theorem SX.ty (h : SX w S ms s.heap) : s.TypeIs (.ref S) "set" := let ⟨o, _, _, _, _, e, r, _⟩ := h; ⟨o, e, r.ex.1⟩
theorem iF {Q : Bool -> Shared -> Prop} (hT : s.TypeIs (.ref S) "set") (h : Q true s) : wpAny (model P w) A (Builtin.Frozenset.isAnySet (.ref S)) Q E s := by
 unfold Builtin.Frozenset.isAnySet
 show wpAny _ _ (isInstance (.ref S) (.type "set") >>= fun b => _) _ _ _
 refine wpAny_bind (wpAny_isInstance hT sub_set_self ?_)
 exact wpAny_pure h
theorem sR {Q : Value -> Shared -> Prop} (hT : s.TypeIs (.ref S) "set") (h : Q (.type "set") s) : wpAny (model P w) A (Builtin.Frozenset.baseOf S) Q E s := by
 unfold Builtin.Frozenset.baseOf
 refine wpAny_bind (wpAny_isInstance hT sub_set_self ?_)
 exact wpAny_pure h
theorem sS {Q : Value -> Shared -> Prop} (h : Q (.ref s.heap.objs.size) { s with heap := s.heap.push (bJ w) }) : wpAny (model P w) A (newSet (.type "set")) Q E s := by
 unfold newSet
 refine wpAny_bind (m4 ?_)
 dsimp only
 simp only [newObj]
 exact wpAny_bind (wpAny_alloc (wpAny_pure h))
theorem l8 {Q : Nat -> Shared -> Prop} (hS : SetAt w S es ep t ks s.heap) (h : Q es.size s) : wpAny (model P w) A (Builtin.Frozenset.sizeOf S) Q E s := by
 unfold Builtin.Frozenset.sizeOf
 exact wpAny_bind (hS.entries (wpAny_pure h))
theorem rD {id : String} {Q : Unit -> Shared -> Prop} (hS : SetAt w S es ep t ks s.heap) (h : Q () s) : wpAny (model P w) A (Builtin.Frozenset.unchanged id S ep) Q E s := by
 unfold Builtin.Frozenset.unchanged
 refine wpAny_bind (hS.epoch ?_)
 rw [if_neg (by simp)]
 exact wpAny_pure h
theorem sT {r : Addr} {xs : Array (Int × Value)} {kx k0 : List Int} {f : (Int × Value) -> PUnit -> Sem (ForInStep PUnit)} {G : Heap -> Prop} {Q : PUnit -> Shared -> Prop} (keep : Int -> Bool) (en : Ents xs.toList kx) (nd : kx.Nodup) (dj : ∀ k ∈ kx, k ∉ k0) (hl : kx.length + k0.length + 1 < 4000)
  (hG : ∀ h h', G h -> Heap.SameBut r h h' -> G h')
  (hf : ∀ k tk (s' : Shared) (Q' : ForInStep PUnit -> Shared -> Prop) kr, k ∈ kx -> G s'.heap -> SX w r kr s'.heap -> kr.length + 1 < 4000 -> (keep k = true -> ∀ h', Heap.SameBut r s'.heap h' -> SX w r (cI kr k) h' -> Q' (.yield ⟨⟩) { s' with heap := h' }) -> (keep k = false -> Q' (.yield ⟨⟩) s') -> wpAny (model P w) A (f (hashInt k, .int k tk) ⟨⟩) Q' E s')
  (g : G s.heap) (sx : SX w r k0 s.heap)
  (h : ∀ h', Heap.SameBut r s.heap h' -> SX w r (k0 ++ kx.filter keep) h' -> Q ⟨⟩ { s with heap := h' }) : wpAny (model P w) A (forIn xs ⟨⟩ f) Q E s := by
 refine PySem.MeetsSeq2.wpAny_forIn_array f (fun cW _ s' => ∃ kr h', Ents cW kr /\ kr <:+ kx /\ s' = { s with heap := h' } /\ Heap.SameBut r s.heap h' /\ SX w r (k0 ++ (kx.take (kx.length - kr.length)).filter keep) h' /\ G h') _ ?_ ?_ xs ⟨⟩ ⟨kx, s.heap, en, List.suffix_refl _, rfl, Heap.SameBut.refl _ _, by rw [Du, DD]; simpa using sx, g⟩
 ·rintro x cW b s' ⟨kr, h1, er, sf, rfl, sb, sx1, g1⟩
  cases er with
  | @cons _ k _ kr' q er' =>
   obtain ⟨tk, rfl⟩ := q
   obtain ⟨pre, ep⟩ := sf
   have hk : k ∈ kx := by rw [<- ep]; simp
   have e1 : kx.length - (k :: kr').length = pre.length := by rw [<- ep]; simp
   have e2 : kx.length - kr'.length = pre.length + 1 := by rw [<- ep]; simp; omega
   have t1 : kx.take pre.length = pre := by rw [<- ep]; simp
   have t2 : kx.take (pre.length + 1) = pre ++ [k] := by
    have : kx = (pre ++ [k]) ++ kr' := by rw [<- ep]; simp
    rw [this]
    have : pre.length + 1 = (pre ++ [k]).length := by simp
    rw [this, List.take_left]
   rw [e1, t1] at sx1
   have kn : k ∉ pre := by
    rw [<- ep, DM] at nd
    exact fun m => nd.2.2 k m k (by simp) rfl
   have fl : (pre.filter keep).length <= kx.length := CO (CT ..) (by rw [<- ep]; simp)
   have sfx : kr' <:+ kx := ⟨pre ++ [k], by rw [<- ep]; simp⟩
   refine hf k tk _ _ _ hk g1 sx1 (by rw [Ck]; omega) (fun hp h2 sb2 sx2 => ?_) fun hp => ?_
   ·refine ⟨kr', h2, er', sfx, rfl, sb.trans sb2, ?_, hG _ _ g1 sb2⟩
    have ed : cI (k0 ++ pre.filter keep) k = k0 ++ (pre ++ [k]).filter keep := by
     have : k ∉ k0 ++ pre.filter keep := fun m => by
      rcases CC.mp m with m | m
      ·exact dj k hk m
      ·exact kn (CG.mp m).1
     unfold cI
     rw [if_neg this, C9, DZ]
     simp [hp]
    rw [e2, t2, <- ed]
    exact sx2
   ·refine ⟨kr', h1, er', sfx, rfl, sb, ?_, g1⟩
    rw [e2, t2, C9]
    simpa [hp] using sx1
 ·rintro b s' ⟨kr, h1, er, sf, rfl, sb, sx1, g1⟩
  cases er
  refine h h1 sb ?_
  rw [List.length_nil, Nat.sub_zero, C0] at sx1
  exact sx1
end
section
variable {P : Program} {w : World} {A : Around} {E : Value -> Shared -> Prop} {s : Shared} {S T : Addr} {ks ms ns : List Int} {es : Array (Int × Value)} {ep : Nat} {t : SetTable}
theorem rE {a r : Addr} {h h' : Heap} (n : a ≠ r) (sb : Heap.SameBut r h h') : ∀ o, h.get? a = some o -> h'.get? a = some o := fun o e => (sb.2 a n).trans e
theorem uW {id : String} {W0 K0 r : Addr} {ew : Array (Int × Value)} {epw : Nat} {tw : SetTable} {kw : List Int} {ka : List Int} {xs : Array (Int × Value)} {kx : List Int} {Q : PUnit -> Shared -> Prop}
  (hW : SetAt w W0 ew epw tw kw s.heap) (hK : SX w K0 ka s.heap) (n1 : W0 ≠ r) (n2 : K0 ≠ r) (en : Ents xs.toList kx) (nd : kx.Nodup) (hl : kx.length + 1 < 4000) (sx : SX w r [] s.heap) (c : Bool -> Bool)
  {f : (Int × Value) -> PUnit -> Sem (ForInStep PUnit)}
  (hf : ∀ x, f x ⟨⟩ = (do
   holding [x.2] do
    let q <- setFind K0 x.2 x.1
    if c q.isSome = true then
     let _ <- setAddHashed r x.2 x.1
   Builtin.Frozenset.unchanged id W0 epw
   pure (.yield ⟨⟩)))
  (h : ∀ h', Heap.SameBut r s.heap h' -> SX w r (kx.filter fun k => c (decide (k ∈ ka))) h' -> Q ⟨⟩ { s with heap := h' }) : wpAny (model P w) A (forIn xs ⟨⟩ f) Q E s := by
 refine sT (k0 := []) (G := fun h => SetAt w W0 ew epw tw kw h /\ SX w K0 ka h) (fun k => c (decide (k ∈ ka))) en nd (fun _ _ h => by cases h) (by simpa using hl) (fun h h' g sb => ⟨g.1.at (rE n1 sb), g.2.at (rE n2 sb)⟩) ?_ ⟨hW, hK⟩ sx (fun h' sb sx' => h h' sb (by simpa using sx'))
 intro k tk s' Q' kr hk ⟨gW, gK⟩ sxr hlen q1 q2
 rw [hf]
 dsimp only
 obtain ⟨ek, epk, tk', kk, sk, pk⟩ := j7 gK
 have fin : ∀ d : Bool, (decide (k ∈ ka) = d) -> wpAny (model P w) A (if c d = true then (do let _ <- setAddHashed r (.int k tk) (hashInt k); pure PUnit.unit) else pure PUnit.unit) (fun _ s2 => wpAny (model P w) A (do Builtin.Frozenset.unchanged id W0 epw; pure (ForInStep.yield PUnit.unit)) Q' E s2) E s' := fun d hc => by
  by_cases hcb : c d = true
  ·rw [if_pos hcb]
   refine wpAny_bind (uP sxr hlen fun _ h' sb sx' => wpAny_pure ?_)
   refine wpAny_bind (rD (s := { s' with heap := h' }) (gW.at (rE n1 sb)) (wpAny_pure ?_))
   exact q1 (by rw [hc]; exact hcb) h' sb sx'
  ·rw [if_neg hcb]
   refine wpAny_pure ?_
   refine wpAny_bind (rD gW (wpAny_pure ?_))
   exact q2 (by rw [hc]; simpa using hcb)
 refine wpAny_bind (wpAny_holding (wpAny_bind (sk.find (fun i hi => ?_) fun hn => ?_)))
 ·exact fin true (decide_eq_true (pk.mem_iff.mp (Ce hi)))
 ·exact fin false (decide_eq_false fun m => hn (pk.mem_iff.mpr m))
theorem uX {id : String} {Q : Value -> Shared -> Prop} (hS : SX w S ms s.heap) (hT : SX w T ns s.heap) (hne : S ≠ T) (hl1 : ms.length < 3000) (hl2 : ns.length < 3000)
  (h : ∀ h' ks, (∀ b o, s.heap.get? b = some o -> h'.get? b = some o) -> SX w s.heap.objs.size ks h' -> ks.Nodup -> (∀ x, x ∈ ks <-> x ∈ ms /\ x ∈ ns) -> Q (.ref s.heap.objs.size) { s with heap := h' }) : wpAny (model P w) A (Builtin.Frozenset.intersection id S (.ref T)) Q E s := by
 unfold Builtin.Frozenset.intersection
 rw [if_neg (by simp; exact fun z => hne z.symm)]
 refine wpAny_bind (sR hS.ty (wpAny_bind (sS ?_)))
 have lS := hS.lt
 have lT := hT.lt
 have kp : ∀ b o, s.heap.get? b = some o -> (s.heap.push (bJ w)).get? b = some o := fun b o e => Heap.get?_push_of_some _ e
 have hS1 := hS.at (kp S)
 have hT1 := hT.at (kp T)
 have hR1 : SX w s.heap.objs.size [] (s.heap.push (bJ w)) := l7 (Heap.get?_push_size _ rfl)
 generalize hr : s.heap.objs.size = r at *
 generalize hh1 : s.heap.push (bJ w) = h1 at *
 refine wpAny_bind (wpAny_pure ?_)
 have ne1 : S ≠ r := Cy lS
 have ne2 : T ≠ r := Cy lT
 have aS := j7 hS1
 have aT := j7 hT1
 obtain ⟨eS, epS, tS, kS, aS, pS⟩ := aS
 obtain ⟨eT, epT, tT, kT, aT, pT⟩ := aT
 refine wpAny_bind (wpAny_holding (wpAny_bind (iF (s := { s with heap := h1 }) hT1.ty ?_)))
 rw [if_pos rfl]
 refine wpAny_bind (wpAny_pure ?_)
 refine wpAny_bind (l8 (s := { s with heap := h1 }) aT (wpAny_bind (l8 (s := { s with heap := h1 }) aS ?_)))
 have core : ∀ (W0 K0 : Addr) (ew : Array (Int × Value)) (epw : Nat) (tw : SetTable) (kw ka : List Int), SetAt w W0 ew epw tw kw h1 -> SX w K0 ka h1 -> W0 ≠ r -> K0 ≠ r -> kw.length < 3000 -> (∀ x, x ∈ kw /\ x ∈ ka <-> x ∈ ms /\ x ∈ ns) ->
   wpAny (model P w) A (do
    let was <- setEpoch W0
    let l <- setWalkUnseen W0 [K0, r] (some r)
    forIn l PUnit.unit fun x __s => match x with
     | (h, x) => do
      holding [x] do
       let q <- setFind K0 x h
       if q.isSome = true then do
        let _ <- setAddHashed r x h
        pure ()
       else pure ()
      Builtin.Frozenset.unchanged id W0 was
      pure (ForInStep.yield PUnit.unit)
    pure ()) (fun _ s' => wpAny (model P w) A (pure (Value.ref r)) Q E s') E { s with heap := h1 } := by
  intro W0 K0 ew epw tw kw ka hW hK n1 n2 hlw hm
  refine wpAny_bind (SetAt.epoch (s := { s with heap := h1 }) hW ?_)
  refine wpAny_bind (SetAt.walk (s := { s with heap := h1 }) (ms := []) hW (fun a ha => ?_) (fun a e => ?_) fun xs h2 px k2 f2 => ?_)
  ·simp only [Cr, CY, or_false] at ha
   rcases ha with e | e <;> subst e
   ·exact ⟨_, hK⟩
   ·exact ⟨_, hR1⟩
  ·cases e; exact ⟨Ne.symm n1, hR1⟩
  have k2' : ∀ b o, b ≠ r -> h1.get? b = some o -> h2.get? b = some o := fun b o n e => k2 b o (fun z => n (Option.some.inj z).symm) e
  obtain ⟨kx, nx, qx⟩ := Ents.perm px (SetAt.en (s := { s with heap := h1 }) hW)
  have ndw := SetAt.nd (s := { s with heap := h1 }) hW
  have ndx : kx.Nodup := qx.nodup_iff.mpr ndw
  refine wpAny_bind (uW (s := { s with heap := h2 }) (hW.at fun o e => k2' W0 o n1 e) (hK.at fun o e => k2' K0 o n2 e) n1 n2 nx ndx (by rw [qx.length_eq]; omega) (f2 r rfl) (fun b => b) (fun x => rfl) fun h3 sb sx => wpAny_pure (wpAny_pure ?_))
  refine h h3 _ (fun b o e => ?_) sx (ndx.filter _) fun x => ?_
  ·have nb : b ≠ r := by rw [<- hr]; exact Cy (Heap.lt_size e)
   exact rE nb sb o (k2' b o nb (kp b o e))
  ·rw [CG, qx.mem_iff, <- hm x]
   simp
 by_cases hc : eT.size > eS.size
 ·rw [if_pos hc]
  exact core S T eS epS tS kS ns aS hT1 ne1 ne2 (by rw [pS.length_eq]; exact hl1) fun x => by rw [pS.mem_iff]
 ·rw [if_neg hc]
  exact core T S eT epT tT kT ms aT hS1 ne2 ne1 (by rw [pT.length_eq]; exact hl2) fun x => by rw [pT.mem_iff]; exact And.comm
end
section
variable {P : Program} {w : World} {A : Around} {E : Value -> Shared -> Prop} {s : Shared} {S T r : Addr} {ks ms ns : List Int} {es : Array (Int × Value)} {ep : Nat} {t : SetTable}
end
section
variable {P : Program} {w : World} {A : Around} {E : Value -> Shared -> Prop} {s : Shared} {S T r : Addr} {ks kr ms ns : List Int} {es er : Array (Int × Value)} {ep epr : Nat} {t tr : SetTable}
end
section
variable {P : Program} {w : World} {A : Around} {E : Value -> Shared -> Prop} {s : Shared} {S T r : Addr} {ks kr ms ns : List Int} {es er : Array (Int × Value)} {ep epr : Nat} {t tr : SetTable}
end
section
variable {P : Program} {w : World} {A : Around} {E : Value -> Shared -> Prop} {s : Shared} {S T r : Addr} {ks kr ms ns : List Int} {es er : Array (Int × Value)} {ep epr : Nat} {t tr : SetTable}
end
theorem eJ : Slot "set" "__and__" "set.__and__" := .of (owner := "set") (n := "__and__") (by rw [typeLookup_type, builtinLookup_eq_fast]; kernel_rfl) (by decide +kernel) (by decide +kernel) (by decide +kernel) (.inl (by decide +kernel)) (by rw [isSubtype_type]; kernel_rfl)
theorem lz : entryFor table "set.__and__" = some Builtin.«frozenset.__and__» := entryFor_alias (id' := "frozenset.__and__") (by kernel_rfl) rfl (by decide +kernel) (by kernel_rfl)
theorem m5 (a b : Value) : argsOk "set.__and__" ⟨[a, b], []⟩ := by unfold argsOk; kernel_rfl
theorem m7 : fillsNumberSlot (.type "set") "and" = pure true := fillsNumberSlot_of eJ.lookup (by decide +kernel) (r := some (.builtin "set.__rand__")) (by rw [typeLookup_type, builtinLookup_eq_fast]; kernel_rfl)
section
variable {X : Cx}
def Ak (w : World) (rel : Int -> List Int -> List Int -> Prop) : R2 := fun x y H Q => ∃ a b ms ns, x = .ref a /\ y = .ref b /\ a ≠ b /\ H a = some (.ext (SX w a ms)) /\ H b = some (.ext (SX w b ns)) /\ ms.length < 64 /\ ns.length < 64 /\
 ∀ c ks, H c = none -> ks.Nodup -> (∀ x, x ∈ ks <-> rel x ms ns) -> Q (.ref c) (az H c (.ext (SX w c ks)))
theorem xh (w : World) (hw : X.w = w := by rfl) : gI X (binaryOp .BitAnd) (Ak w fun x ms ns => x ∈ ms /\ x ∈ ns) := by
 subst hw
 intro pins s σ H x y v u Q I rx ry h
 obtain ⟨a, b, ms, ns, rfl, rfl, hne, ha, hb, l1, l2, q⟩ := h
 cases rx
 cases ry
 obtain ⟨sa, _⟩ := (show ObjOk X.prog X.w H s.heap a (.ext (SX X.w a ms)) from I.hok a _ ha)
 obtain ⟨sb, _⟩ := (show ObjOk X.prog X.w H s.heap b (.ext (SX X.w b ns)) from I.hok b _ hb)
 refine wpAny_binaryOp_same sa.ty sb.ty m7 eJ (wpAny_call_entry eJ sa.ty lz ?_ (m5 _ _))
 show wpAny _ _ (Builtin.Frozenset.slot1 "__and__" ⟨[.ref a, .ref b], []⟩ >>= _) _ _ s
 refine wpAny_bind (wpAny_pure ?_)
 refine wpAny_bind ?_
 show wpAny _ _ (Builtin.Frozenset.isAnySet (.ref a) >>= fun c => _) _ _ _
 refine wpAny_bind (iF sa.ty ?_)
 show wpAny _ _ (Builtin.Frozenset.isAnySet (.ref b)) _ _ _
 refine iF sb.ty ?_
 rw [if_neg (by simp)]
 refine wpAny_bind (wpAny_pure ?_)
 refine wpAny_bind (uX sa sb hne (by omega) (by omega) fun h' ks kp sx nd m => wpAny_pure ⟨_, rfl, by simp, ?_⟩)
 exact ⟨.ref s.heap.objs.size, _, I.new' (s' := { s with heap := h' }) kp (Cg _) rfl rfl sx.ok, rfl, q _ ks I.fresh nd m⟩
end
def AN (K : PySem.W.Frag) (a b : Addr) : It :=
  ⟨fun i H => ∃ xs ys x y, SqL K H a xs /\ SqL K H b ys /\ xs[i]? = some x /\ ys[i]? = some y,
   fun i H v H' => ∃ p x y, H p = none /\ (∀ xs, SqL K H a xs -> xs[i]? = some x) /\ (∀ ys, SqL K H b ys -> ys[i]? = some y) /\ v = .ref p /\ H' = az H p (.tup [x, y]),
   fun i H => ∃ xs ys, SqL K H a xs /\ SqL K H b ys /\ xs.length <= i⟩
theorem uY {fs ex : List Addr} {H : Hp} {h h' : Heap} (k : ∀ b o, b ∉ ex -> h.get? b = some o -> h'.get? b = some o) : Un fs ex H H h h' where
 keep := fun b o q _ _ hx => k b o hx q
 slot := fun b o q _ _ hx => ⟨o.slots, k b o hx q⟩
 free := fun _ _ _ n _ => n
 there := fun b o q hx => ⟨o, k b o hx q⟩
 tups := fun _ _ q => q
 frzs := fun _ _ _ q => q
 tbls := fun b ps q => ⟨#[], by rw [q]; simp⟩
theorem uZ {P : Program} {w : World} {K : PySem.W.Frag} {es : List Expr} {k1 : Nat} {pos : Pos} (z TI TO i1 i2 l1 l2 : Addr) (D : ZipApart z TI TO i1 i2 l1 l2) :
  Turn P w K (.Tuple es k1 pos) (AN K l1 l2) [z, TI, TO, i1, i2] z (fun i h => IsZip h z TI TO .none /\ IsPair h TI (.ref i1) (.ref i2) /\ (∃ a b, IsPair h TO a b) /\ h.IsListIter i1 l1 i /\ h.IsListIter i2 l2 i) where
 mem := by simp
 obj := fun i h st b hb => by
  obtain ⟨hz, hTI, ⟨a, c, hTO⟩, ⟨o1, e1, c1, d1⟩, ⟨o2, e2, c2, d2⟩⟩ := st
  simp only [Cr, CY, or_false] at hb
  rcases hb with e | e | e | e | e <;> subst e
  ·exact ⟨_, hz, fun v y => by have y' : Data.fields _ = Data.cell v := y; cases y'⟩
  ·exact ⟨_, hTI, fun v y => by have y' : Data.seq _ _ = Data.cell v := y; cases y'⟩
  ·exact ⟨_, hTO, fun v y => by have y' : Data.seq _ _ = Data.cell v := y; cases y'⟩
  ·exact ⟨o1, e1, fun v y => by rw [d1] at y; cases y⟩
  ·exact ⟨o2, e2, fun v y => by rw [d2] at y; cases y⟩
 keep := fun i h h' st k => by
  obtain ⟨hz, hTI, ⟨a, c, hTO⟩, h1, h2⟩ := st
  exact ⟨k z (by simp) _ hz, k TI (by simp) _ hTI, ⟨a, c, k TO (by simp) _ hTO⟩, h1.at fun o e => k i1 (by simp) o e, h2.at fun o e => k i2 (by simp) o e⟩
 item := by
  intro X hP hw hK hc i pins s σ H E I hf st hg
  subst hP hw hK
  obtain ⟨xs, ys, x, y, hq1, hq2, hx, hy⟩ := hg
  obtain ⟨its1, rv1, p1, _⟩ := I.list hq1
  obtain ⟨its2, rv2, p2, _⟩ := I.list hq2
  obtain ⟨u, hu, ru⟩ := rv1.get hx
  obtain ⟨v, hv, rv⟩ := rv2.get hy
  obtain ⟨hz, hTI, ⟨a, c, hTO⟩, h1, h2⟩ := st
  refine wpAny_pyNext_zip_item D hz hTI hTO h1 h2 p1.isList p2.isList (x := u) (y := v) (by simpa using hu) (by simpa using hv) fun h' a1 a2 a3 a4 a5 a6 kp => ?_
  refine ⟨_, rfl, wpAny_letOwnedTupleGo_zip a1 fun h2' z2 sb => ?_⟩
  have lt : ∀ {c o}, s.heap.get? c = some o -> s.heap.objs.size ≠ c := fun e => Eo (Heap.lt_size e)
  have kp2 : ∀ b o, b ∉ [z, TI, TO, i1, i2] -> s.heap.get? b = some o -> h2'.get? b = some o := fun b o hb e => by
   simp only [Cr, CY, or_false, not_or] at hb
   exact (sb.2 b hb.1).trans (kp b o hb.1 hb.2.2.1 hb.2.2.2.1 hb.2.2.2.2 e)
  have nz := lt hz
  have nTI := lt hTI
  have nTO := lt hTO
  have n1 : s.heap.objs.size ≠ i1 := by obtain ⟨_, e, _⟩ := h1; exact lt e
  have n2 : s.heap.objs.size ≠ i2 := by obtain ⟨_, e, _⟩ := h2; exact lt e
  have fr : H s.heap.objs.size = none := I.fresh
  have e3 : h2'.get? s.heap.objs.size = some { cls := .type "tuple", data := .seq #[u, v] } := (sb.2 _ nz).trans a5
  have hch : ∀ b ∈ [z, TI, TO, i1, i2], (b ∈ X.ex \/ X.s₀.heap.objs.size <= b) /\ b ≠ X.env.locals /\ (∀ x c, X.env.cells.lookup x = some c -> c ≠ b) /\ ∀ p ∈ X.pn ++ pins, p.1 ≠ b := fun b hb => by
   obtain ⟨f0, f1, f2, f3, f4, f5⟩ := hf b hb
   exact ⟨f3, f1, f4, f5⟩
  have off : ∀ b o, H b = some o -> b ∉ [z, TI, TO, i1, i2] := fun b o e m => by rw [(hf b m).1] at e; cases e
  have hok1 : HOk X.prog X.w H h2' := fun b o e => (I.hok b o e).stay (fun c oc hc q => kp2 c oc (by rcases hc with y | y; exact (by rw [y]; exact off b o e); exact off c _ y) q) (fun _ q => q) fun _ _ q => q
  have I2 : Inv X pins σ (az H s.heap.objs.size (.tup [x, y])) { s with heap := h2' } := by
   have un : Un (gj X.stack) [z, TI, TO, i1, i2] H (az H s.heap.objs.size (.tup [x, y])) s.heap h2' := {
    keep := fun b o q _ _ hx => kp2 b o hx q
    slot := fun b o q _ _ hx => ⟨o.slots, kp2 b o hx q⟩
    free := fun b o q n hx => by rw [ah (Cy (Heap.lt_size q))]; exact n
    there := fun b o q hx => ⟨o, kp2 b o hx q⟩
    tups := fun b xs q => by rw [ah (ak q fr)]; exact q
    frzs := fun b o xs q => by rw [ah (ak q fr)]; exact q
    tbls := fun b ps q => ⟨#[], by rw [ah (ak q fr), q]; simp⟩ }
   refine I.call' (s' := { s with heap := h2' }) (ch := [z, TI, TO, i1, i2]) rfl un (fun b o e => ?_) I.bare hch
   by_cases hb : b = s.heap.objs.size
   ·subst hb
    rw [ab] at e
    cases e
    refine ⟨bY, [u, v], .cons ru (.cons rv .nil), _, e3, rfl, _, rfl⟩
   ·rw [ah hb] at e
    refine (hok1 b o e).stay (fun _ _ _ q => q) (fun c q => by rw [ah (ak q fr)]; exact q) fun c xs q => by rw [ah (ak q fr)]; exact q
  refine ⟨.ref s.heap.objs.size, _, I2, rfl, ⟨_, x, y, fr, fun xs' h => by rw [I.list_inj h hq1]; exact hx, fun ys' h => by rw [I.list_inj h hq2]; exact hy, rfl, rfl⟩, ⟨z2, ?_, ⟨u, v, ?_⟩, ?_, ?_⟩, fun b hb => ?_⟩
  ·exact (sb.2 TI D.TIz).trans (kp TI _ D.TIz D.TITO D.TIi1 D.TIi2 hTI)
  ·exact (sb.2 TO D.TOz).trans a2
  ·exact a3.at fun o e => (sb.2 i1 D.i1z).trans e
  ·exact a4.at fun o e => (sb.2 i2 D.i2z).trans e
  ·have hne : b ≠ s.heap.objs.size := fun q => by
    subst q
    simp only [Cr, CY, or_false] at hb
    rcases hb with e | e | e | e | e
    ·exact nz e
    ·exact nTI e
    ·exact nTO e
    ·exact n1 e
    ·exact n2 e
   rw [ah hne]; exact (hf b hb).1
 done := by
  intro X hP hw hK hc i pins s σ H E I hf st hg
  subst hP hw hK
  obtain ⟨xs, ys, hq1, hq2, hx⟩ := hg
  obtain ⟨its1, rv1, p1, _⟩ := I.list hq1
  obtain ⟨its2, rv2, p2, _⟩ := I.list hq2
  obtain ⟨hz, hTI, ⟨a, c, hTO⟩, h1, h2⟩ := st
  have hl := rv1.length
  have off : ∀ b o, H b = some o -> b ∉ [z, TI, TO, i1, i2] := fun b o e m => by rw [(hf b m).1] at e; cases e
  refine wpAny_pyNext_zip_end (I.ok.hd hc) D hz hTI hTO h1 h2 p1.isList p2.isList (.inl (by simp; omega)) fun h' kp => ⟨rfl, ?_⟩
  have kp2 : ∀ b o, b ∉ [z, TI, TO, i1, i2] -> s.heap.get? b = some o -> h'.get? b = some o := fun b o hb e => by
   simp only [Cr, CY, or_false, not_or] at hb
   exact kp b o hb.1 hb.2.2.1 hb.2.2.2.1 hb.2.2.2.2 e
  refine I.call' (s' := { s with heap := h' }) (ch := [z, TI, TO, i1, i2]) rfl (uY kp2) (fun b o e => (I.hok b o e).stay (fun c oc hc q => kp2 c oc (by rcases hc with y | y; exact (by rw [y]; exact off b o e); exact off c _ y) q) (fun _ q => q) fun _ _ q => q) I.bare fun b hb => ?_
  obtain ⟨f0, f1, f2, f3, f4, f5⟩ := hf b hb
  exact ⟨f3, f1, f4, f5⟩
 self := fun _ _ _ _ _ st h => wpAny_pyIter_zip st.1 h
theorem sU (n l1 l2 : Nat) (t1 : l1 < n) (t2 : l2 < n) : ZipApart (n + 4) (n + 2) (n + 3) n (n + 1) l1 l2 := by
 constructor <;> first | exact Cy (by omega) | exact Eo (by omega)
section
variable {X : Cx}
def Bj (K : PySem.W.Frag) (ta : TA) : TI := fun σ H R => ta σ H fun vs H1 => ∃ a b xs ys, vs = [.ref a, .ref b] /\ SqL K H1 a xs /\ SqL K H1 b ys /\ R (AN K a b) H1
theorem u4 {a b : Expr} {ta : TA} {p pos tp : Pos} {es : List Expr} {k1 : Nat} (K : PySem.W.Frag) (hg : Gl X "zip") (hm : X.mg "zip" = none) (ha : PA X [a, b] ta) (hK : X.K = K := by rfl) (hs : starEach [a, b] X.env = [(false, eval a X.env), (false, eval b X.env)] := by rfl) (hs2 : starEach [b] X.env = [(false, eval b X.env)] := by rfl) :
  PI X (.Tuple es k1 tp) (.Call (.Name "zip" p) [a, b] [] pos) (Bj K ta) := by
 subst hK
 intro pins s σ H R I h
 refine Call_ (e8 I hg hm boot_zip (PyProof.Rows.callWith_type1 (bC (ha pos pins s σ H _ I h) fun us s1 ⟨vs, H1, I1, r1, q1⟩ => ?_) (by rw [hs, hs2]) (by rw [hs2]; rfl)))
 obtain ⟨l1, l2, xs, ys, e, hq1, hq2, q⟩ := q1
 subst e
 cases r1 with
 | cons r rr =>
  cases rr with
  | cons r' rr =>
   cases rr
   cases r
   cases r'
   obtain ⟨its1, rv1, p1, _⟩ := I1.list hq1
   obtain ⟨its2, rv2, p2, _⟩ := I1.list hq2
   have t1 : l1 < s1.heap.objs.size := by obtain ⟨o, e, _⟩ := p1.isList; exact Heap.lt_size e
   have t2 : l2 < s1.heap.objs.size := by obtain ⟨o, e, _⟩ := p2.isList; exact Heap.lt_size e
   refine call_zip_2 p1.isList p2.isList fun h' hz hTI hTO h1 h2 hsz kp => ?_
   refine wpAny_pyIter_zip hz ?_
   have D := sU s1.heap.objs.size l1 l2 t1 t2
   have I2 : Inv X pins σ H1 { s1 with heap := h' } := I1.kept (t' := s1.toks) kp
   refine ⟨_, [s1.heap.objs.size + 4, s1.heap.objs.size + 2, s1.heap.objs.size + 3, s1.heap.objs.size, s1.heap.objs.size + 1], _, _, H1, rfl, I2, uZ _ _ _ _ _ _ _ D, ⟨hz, hTI, ⟨_, _, hTO⟩, h1, h2⟩, fun b hb => ?_, q⟩
   have le : s1.heap.objs.size <= b := by
    simp only [Cr, CY, or_false] at hb
    rcases hb with e | e | e | e | e <;> subst e
    ·exact Eg _ _
    ·exact Eg _ _
    ·exact Eg _ _
    ·exact Cg _
    ·exact Eg _ _
   exact I1.fpOk le (I1.hok.fresh le)
end
section
variable {X : Cx}
end
section
variable {X : Cx}
end
section
variable {X : Cx}
end
section
variable {X : Cx}
end
section
open PySem.AutoSeq1 (wpAny_loadPart')
open PySem.MeetsSeq PySem.MeetsSeq2 PySem.MeetsSeq3
end
section
variable {X : Cx}
end
theorem c8 {J : It} {H1 : Hp} {js : List (Option Nat)} {σ : L2.St} {tc : TT} {te : TE} {Q : VK} (n : Nat) (item : Nat -> V) (p : Nat -> Bool) (P : Addr -> Nat -> V -> Hp -> Prop) (hn : n < 100000)
  (mono : ∀ acc i v H H', P acc i v H -> SameBut acc H H' -> P acc i v H')
  (hgo : ∀ i H, i < n -> Same H1 H -> J.go i H) (hst : ∀ H, Same H1 H -> J.stop n H) (hy : ∀ i H x H', i < n -> Same H1 H -> J.yld i H x H' -> H' = H /\ x = item i)
  (hc : ∀ i, i < n -> ∀ H2 R, Same H1 H2 -> (∀ H3, Same H2 H3 -> R (p i) H3) -> tc (some (item i) :: bX σ js) H2 R)
  (he : ∀ acc i, i < n -> p i = true -> ∀ H2 R, Same H1 H2 -> H1 acc = none -> H2 acc ≠ none -> (∀ v H3, Same H2 H3 -> P acc i v H3 -> R v H3) -> te (some (item i) :: bX σ js) H2 R)
  (hQ : ∀ acc vs H', Same H1 H' -> H1 acc = none -> H' acc = some (.lst vs) -> Paired (fun i v => P acc i v H') ((Cf n).filter p) vs -> Q (.ref acc) H') :
  cg J H1 (none :: js) (bS 0) tc te σ Q := by
 intro acc hacc
 refine ⟨fun i m ys H => m = n - i /\ i <= n /\ Same H1 H /\ H acc = some (.lst ys) /\ Paired (fun k v => P acc k v H) ((Cf i).filter p) ys, ⟨n, by simp, CK _, Same.new hacc, ab, .nil⟩, ?_⟩
 rintro i m ys H ⟨rfl, hi, s1, ha, hp⟩
 by_cases hlt : i < n
 ·refine .inr ⟨hgo i H hlt s1, fun ys' H' => i < n /\ Same H1 H' /\ H' acc = some (.lst ys') /\ Paired (fun k v => P acc k v H') ((Cf (i + 1)).filter p) ys', fun ys' H' ⟨z, a, b, c⟩ => ⟨n - (i + 1), C2 _ _ hlt, rfl, hlt, a, b, c⟩, fun x H' y => ?_⟩
  obtain ⟨rfl, rfl⟩ := hy i H x H' hlt s1 y
  refine ⟨uD, hc i hlt _ _ s1 fun H2 s2 => ⟨fun hb => ?_, fun hb => ?_⟩⟩
  ·have ha2 := s2 _ _ ha
   refine he acc i hlt hb _ _ (s1.trans s2) hacc (by rw [ha2]; simp) fun v H3 s3 pv => ?_
   have hlen : ys.length <= i := by
    rw [<- Paired.length hp]
    exact CO (CT _ _) (by simp)
   refine ⟨s3 _ _ ha2, i4 (by omega), hlt, ((s1.trans s2).trans s3).put hacc, ab, ?_⟩
   rw [Dc, C9]
   have e : Et p [i] = [i] := by simp [hb]
   rw [e]
   refine Paired.snoc (Paired.mapP hp fun k v q => ?_) ?_
   ·exact mono acc k v _ _ (mono acc k v _ _ q (s2.trans s3).but) SameBut.upd
   ·exact mono acc i v _ _ pv SameBut.upd
  ·refine ⟨hlt, s1.trans s2, s2 _ _ ha, ?_⟩
   rw [Dc, C9]
   have e : Et p [i] = [] := by simp [hb]
   rw [e, Dv]
   exact Paired.mapP hp fun k v q => mono acc k v _ _ q s2.but
 ·have e : i = n := Ds hi (Dg hlt)
  subst e
  exact .inl ⟨hst H s1, hQ acc ys H s1 hacc ha hp⟩
theorem iG {H1 : Hp} {js : List (Option Nat)} {σ : L2.St} {tc : TT} {te : TE} {Q : VK} {n : Nat} (p : Nat -> Bool) (hn : n < 100000)
  (hc : ∀ i : Nat, i < n -> ∀ H2 R, Same H1 H2 -> (∀ H3, Same H2 H3 -> R (p i) H3) -> tc (some (.int (0 + (i : Int))) :: bX σ js) H2 R)
  (he : ∀ i : Nat, i < n -> ∀ H2 R, R (.int ((i : Nat) : Int)) H2 -> te (some (.int (0 + (i : Int))) :: bX σ js) H2 R)
  (hQ : ∀ acc H', Same H1 H' -> H1 acc = none -> H' acc = some (.lst (((Cf n).filter p).map fun (i : Nat) => V.int (i : Int))) -> Q (.ref acc) H') : cg (pQ 0 n) H1 (none :: js) (bS 0) tc te σ Q :=
 c8 (J := pQ 0 n) (H1 := H1) (js := js) (σ := σ) (tc := tc) (te := te) (Q := Q) n (fun i => .int (0 + (i : Int))) p (fun _ i v _ => v = V.int (i : Int)) hn (fun _ _ _ _ _ h _ => h)
  (fun _ _ h _ => h) (fun _ _ => Cg _) (fun _ _ _ _ _ _ y => y) hc (fun _ i hi _ H2 R s _ _ k => he i hi H2 R (k _ H2 (Same.refl _) rfl))
  fun acc vs H' s n' e p => hQ acc H' s n' (by rw [e, cw p])
theorem Same.seqT {K : PySem.W.Frag} {H H' : Hp} {a : Addr} {xs : List V} (e : Same H H') (h : SqT K H a xs) : SqT K H' a xs := by
 rcases h with (h | ⟨o, h⟩) | h
 ·exact .inl (.inl (e _ _ h))
 ·exact .inl (.inr ⟨o, e _ _ h⟩)
 ·exact .inr h
theorem oU {K : PySem.W.Frag} {H1 : Hp} {js : List (Option Nat)} {σ : L2.St} {tc : TT} {te : TE} {Q : VK} {a : Addr} {xs : List V} (p : Nat -> Bool) (f : Nat -> V) (hl : SqT K H1 a xs) (hn : xs.length < 100000)
  (hc : ∀ (i : Nat) x, xs[i]? = some x -> ∀ H2 R, Same H1 H2 -> (∀ H3, Same H2 H3 -> R (p i) H3) -> tc (some x :: bX σ js) H2 R)
  (he : ∀ (i : Nat) x, xs[i]? = some x -> p i = true -> ∀ H2 R, Same H1 H2 -> (∀ H3, Same H2 H3 -> R (f i) H3) -> te (some x :: bX σ js) H2 R)
  (hQ : ∀ acc H', Same H1 H' -> H1 acc = none -> H' acc = some (.lst (((Cf xs.length).filter p).map f)) -> Q (.ref acc) H') : cg (xT K a) H1 (none :: js) (bS 0) tc te σ Q :=
 c8 (J := xT K a) (H1 := H1) (js := js) (σ := σ) (tc := tc) (te := te) (Q := Q) xs.length (fun i => xs.getD i .non) p (fun _ i v _ => v = f i) hn (fun _ _ _ _ _ h _ => h)
  (fun i H h s => ⟨xs, xs[i], Same.seqT s hl, by simp [h]⟩) (fun H s => ⟨xs, Same.seqT s hl, Cg _⟩)
  (fun i H x H' h s y => ⟨y.1, by have e := y.2 xs (Same.seqT s hl); simp [e]⟩)
  (fun i h H2 R s k => hc i _ (by simp [h]) H2 R s k) (fun acc i h hp H2 R s n1 n2 k => he i _ (by simp [h]) hp H2 R s fun H3 s3 => k _ H3 s3 rfl)
  fun acc vs H' s n' e p => hQ acc H' s n' (by rw [e, cw p])
def i6 (f : Nat -> Int) (st : List Nat) : Nat := (dd (st.map f)).length
theorem oW (f : Nat -> Int) (st : List Nat) (i : Nat) : i6 f (st ++ [i]) = if f i ∈ st.map f then i6 f st else i6 f st + 1 := by
 unfold i6
 rw [Cn, Co, Ed, fQ]
 unfold cI
 by_cases h : f i ∈ st.map f
 ·rw [if_pos h, if_pos (bD.mpr h)]
 ·rw [if_neg h, if_neg fun z => h (bD.mp z), Ck, Cp]
theorem cN {K : PySem.W.Frag} {H1 : Hp} {js : List (Option Nat)} {σ : L2.St} {tc : TT} {te : TE} {Q : VK} {a : Addr} {xs : List V} (p : Nat -> Bool) (f : Nat -> V) (hl : SqL K H1 a xs) (hn : xs.length < 100000)
  (hc : ∀ (i : Nat) x, xs[i]? = some x -> ∀ H2 R, Same H1 H2 -> (∀ H3, Same H2 H3 -> R (p i) H3) -> tc (some x :: bX σ js) H2 R)
  (he : ∀ (i : Nat) x, xs[i]? = some x -> p i = true -> ∀ H2 R, Same H1 H2 -> (∀ H3, Same H2 H3 -> R (f i) H3) -> te (some x :: bX σ js) H2 R)
  (hQ : ∀ acc H', Same H1 H' -> H1 acc = none -> H' acc = some (.lst (((Cf xs.length).filter p).map f)) -> Q (.ref acc) H') : cg (ou K a) H1 (none :: js) (bS 0) tc te σ Q :=
 c8 (J := ou K a) (H1 := H1) (js := js) (σ := σ) (tc := tc) (te := te) (Q := Q) xs.length (fun i => xs.getD i .non) p (fun _ i v _ => v = f i) hn (fun _ _ _ _ _ h _ => h)
  (fun i H h s => ⟨xs, xs[i], s.seq hl, by simp [h]⟩) (fun H s => ⟨xs, s.seq hl, Cg _⟩)
  (fun i H x H' h s y => ⟨y.1, by have e := y.2 xs (s.seq hl); simp [e]⟩)
  (fun i h H2 R s k => hc i _ (by simp [h]) H2 R s k) (fun acc i h hp H2 R s n1 n2 k => he i _ (by simp [h]) hp H2 R s fun H3 s3 => k _ H3 s3 rfl)
  fun acc vs H' s n' e p => hQ acc H' s n' (by rw [e, cw p])
theorem Bk {α : Type} {st : List Nat} {g : Nat -> Bool} {F : Nat -> α} : (((Cf st.length).filter fun j => g (st.getD j 0)).map fun j => F (st.getD j 0)) = (st.filter g).map F := by
 have e0 : st = (Cf st.length).map fun i => st.getD i 0 := by
  apply DB
  ·simp
  ·intro i h1 h2; simp [h1]
 conv => rhs; rw [e0]
 rw [Ek, CB]
 rfl
def brk (f : Nat -> Int) (n : Nat) (wd : Str) (k : Int) (st : List Nat) : Bool :=
 if wd = "most" then decide (k < ((i6 f (st.filter fun i => decide (i < n)) : Nat) : Int)) else decide (((i6 f (st.filter fun i => decide (i < n)) : Nat) : Int) + (st.length : Int) - ((st.filter fun i => decide (i < n)).length : Int) < k)
def fx (hs : List Int) (x : Int) : Nat := hs.findIdx fun y => decide (y = x)
theorem j8 {hs : List Int} {x : Int} (h : x ∈ hs) : hs[fx hs x]? = some x := by
 have hl : fx hs x < hs.length := DQ ⟨x, h, by simp⟩
 have := List.findIdx_getElem (xs := hs) (p := fun y => decide (y = x)) (w := hl)
 rw [Ca hl]
 exact congrArg some (of_decide_eq_true this)
theorem yd {hs : List Int} {x : Int} {m : Nat} (h : m < fx hs x) : hs[m]? ≠ some x := fun z => by
 obtain ⟨hm, e⟩ := Cc.mp z
 have := DT h
 rw [e] at this
 simp at this
theorem Al {hs : List Int} {k : Nat} (h : k < hs.length) : fx hs (hs.getD k 0) <= k := by
 refine Decidable.byContradiction fun z => yd (by omega : k < fx hs (hs.getD k 0)) ?_
 rw [aC h, Ca h]
def qw (hs : List Int) (k : Nat) : Nat := (dd (hs.take (fx hs (hs.getD k 0)))).length
def gS (hs : List Int) : List Nat := (Cf hs.length).map (qw hs)
theorem fR {hs : List Int} : (gS hs).length = hs.length := by unfold gS; simp
theorem m9 {hs : List Int} {k : Nat} (h : k < hs.length) : (gS hs)[k]? = some (qw hs k) := by
 unfold gS
 rw [Cd, Dj h]; rfl
theorem i7 {H1 : Hp} {js : List (Option Nat)} {σ : L2.St} {te : TE} {Q : VK} {n : Nat} (f : Nat -> List V) (hn : n < 100000)
  (he : ∀ i : Nat, i < n -> ∀ H2 R, Same H1 H2 -> (∀ r H3, Same H2 H3 -> H2 r = none -> H3 r = some (.lst (f i)) -> R (.ref r) H3) -> te (some (.int (0 + (i : Int))) :: bX σ js) H2 R)
  (hQ : ∀ acc (rs : List Addr) H', Same H1 H' -> H1 acc = none -> H' acc = some (.lst (rs.map V.ref)) -> rs.length = n -> (∀ (i : Nat) r, rs[i]? = some r -> H' r = some (.lst (f i)) /\ H1 r = none) -> (∀ r ∈ rs, r ≠ acc) -> Q (.ref acc) H') :
  cg (pQ 0 n) H1 (none :: js) (bS 0) eI te σ Q :=
 c8 (J := pQ 0 n) (H1 := H1) (js := js) (σ := σ) (tc := eI) (te := te) (Q := Q) n (fun i => .int (0 + (i : Int))) (fun _ => true) (fun acc i v H => ∃ r, v = .ref r /\ r ≠ acc /\ H1 r = none /\ H r = some (.lst (f i))) hn
  (fun acc i v H H' ⟨r, e, n, h0, h⟩ s => ⟨r, e, n, h0, s r _ n h⟩) (fun _ _ h _ => h) (fun _ _ => Cg _) (fun _ _ _ _ _ _ y => y) (fun _ _ _ _ _ h => h _ (Same.refl _))
  (fun acc i hi _ H2 R s n1 n2 k => he i hi H2 R s fun r H3 s3 nr h3 => k _ H3 s3 ⟨r, rfl, fun z => n2 (by rw [<- z]; exact nr), s.free nr, h3⟩)
  fun acc vs H' s n' e p => by
   rw [CZ.mpr (fun _ _ => rfl)] at p
   have hl : vs.length = n := by rw [<- Paired.length p, CP]
   have all : ∀ (i : Nat) v, vs[i]? = some v -> ∃ r, v = .ref r /\ r ≠ acc /\ H1 r = none /\ H' r = some (.lst (f i)) := fun i v hv => by
    obtain ⟨k, hk, q⟩ := cj p hv
    have hi : i < n := by rw [<- hl]; exact (Cc.mp hv).1
    rw [Dj hi] at hk
    cases hk
    exact q
   have ex : ∃ rs : List Addr, vs = rs.map V.ref := by
    refine ⟨vs.map fun v => match v with | .ref r => r | _ => 0, ?_⟩
    rw [CB]
    apply DB
    ·simp
    ·intro i h1 h2
     obtain ⟨r, er, _⟩ := all i vs[i] (Ca h1)
     rw [C7]
     show vs[i] = V.ref (match vs[i] with | .ref r => r | _ => 0)
     rw [er]
   obtain ⟨rs, rfl⟩ := ex
   rw [B9] at hl
   refine hQ acc rs H' s n' e hl (fun i r hr => ?_) fun r hr => ?_
   ·obtain ⟨r', er, _, h1, h2⟩ := all i (.ref r) (by rw [Cd, hr]; rfl)
    cases er
    exact ⟨h2, h1⟩
   ·obtain ⟨i, hi, ei⟩ := Cq.mp hr
    obtain ⟨r', er, h0, _⟩ := all i (.ref r) (by rw [Cd, Ca hi, ei]; rfl)
    cases er
    exact h0
theorem u5 {l r : List Int} {b : Int} (h : b ∈ l) : fx (l ++ r) b = fx l b := by
 have hl : fx l b < l.length := DQ ⟨b, h, by simp⟩
 unfold fx at *
 rw [List.findIdx_append, if_pos hl]
theorem yV {l : List Int} {b : Int} (h : b ∉ l) : fx (l ++ [b]) b = l.length := by
 have hl : ¬ fx l b < l.length := fun z => by
  have := List.findIdx_getElem (xs := l) (p := fun y => decide (y = b)) (w := z)
  exact h (by rw [<- of_decide_eq_true this]; exact CL _)
 unfold fx at *
 rw [List.findIdx_append, if_neg hl]
 simp [List.findIdx_cons]
theorem gT {l : List Int} {b : Int} (h : b ∈ l) : fx l b < l.length := DQ ⟨b, h, by simp⟩
theorem u6 {P : List Int -> Prop} (h0 : P []) (hs : ∀ l x, P l -> P (l ++ [x])) (l : List Int) : P l := by
 have : ∀ n, ∀ l : List Int, l.length = n -> P l := fun n => by
  induction n with
  | zero => intro l h; rw [Dm.mp h]; exact h0
  | succ n ih =>
   intro l h
   have e : l = l.dropLast ++ [l.getLast (by intro z; rw [z] at h; simp at h)] := (DX _).symm
   rw [e]
   exact hs _ _ (ih _ (by rw [Ew]; omega))
 exact this _ l rfl
section
variable {X : Cx}
end
def ua (hs : List Int) (b : Int) : Nat := (dd (hs.take (fx hs b))).length
theorem jB (hs : List Int) : gS hs = hs.map (ua hs) := by
 apply DB
 ·rw [fR, B9]
 ·intro i h1 h2
  rw [fR] at h1
  have := m9 h1
  rw [Ca (by rw [fR]; exact h1)] at this
  rw [Option.some.inj this, C7]
  unfold qw ua
  rw [aC h1]
theorem u7 {hs : List Int} {a b : Int} (ha : a ∈ hs) (h : fx hs a < fx hs b) : ua hs a < ua hs b := by
 have na : a ∉ hs.take (fx hs a) := fun m => by
  obtain ⟨i, hi, e⟩ := Cq.mp m
  rw [CW] at hi
  rw [DN] at e
  exact yd (show i < fx hs a by omega) (by rw [Ca (by omega), e])
 have ma : a ∈ hs.take (fx hs b) := by
  have hl := gT ha
  have e := j8 ha
  rw [Ca hl] at e
  rw [Cq]
  exact ⟨fx hs a, by rw [CW]; omega, by rw [DN]; exact Option.some.inj e⟩
 have nd : (dd (hs.take (fx hs a)) ++ [a]).Nodup := eG (lZ _) fun z => na (bD.mp z)
 have := nd.length_le_of_subset (l₂ := dd (hs.take (fx hs b))) fun x hx => by
  rcases CC.mp hx with z | z
  ·refine bD.mpr ?_
   have hx' := bD.mp z
   have : hs.take (fx hs a) = (hs.take (fx hs b)).take (fx hs a) := by rw [EH, DF (by omega)]
   rw [this] at hx'
   exact Ec hx'
  ·rw [Cm.mp z]; exact bD.mpr ma
 rw [Ck, Cp] at this
 exact this
theorem rF {hs : List Int} {a b : Int} (ha : a ∈ hs) (hb : b ∈ hs) (h : ua hs a = ua hs b) : a = b := by
 rcases Ep (fx hs a) (fx hs b) with z | z | z
 ·have := u7 ha z; omega
 ·have e1 := j8 ha
  have e2 := j8 hb
  rw [z, e2] at e1
  exact (Option.some.inj e1).symm
 ·have := u7 hb z; omega
theorem qy {g : Int -> Int} (l : List Int) : (∀ x ∈ l, ∀ y ∈ l, g x = g y -> x = y) -> (dd (l.map g)).length = (dd l).length := by
 refine u6 (P := fun l => (∀ x ∈ l, ∀ y ∈ l, g x = g y -> x = y) -> (dd (l.map g)).length = (dd l).length) (fun _ => rfl) (fun l x ih hi => ?_) l
 have ih := ih fun a ha b hb => hi a (CA _ ha) b (CA _ hb)
 rw [Cn, Co, Ed, fQ, fQ]
 unfold cI
 by_cases hx : x ∈ l
 ·rw [if_pos (bD.mpr (Ci.mpr ⟨x, hx, rfl⟩)), if_pos (bD.mpr hx), ih]
 ·have hg : g x ∉ l.map g := fun m => by
   obtain ⟨y, hy, e⟩ := Ci.mp m
   have := hi y (CA _ hy) x (by simp) e
   exact hx (by rw [<- this]; exact hy)
  rw [if_neg fun z => hg (bD.mp z), if_neg fun z => hx (bD.mp z), Ck, Ck, ih]
  rfl
theorem u9 (hs : List Int) : (dd ((gS hs).map fun (i : Nat) => (i : Int))).length = (dd hs).length := by
 have e : (gS hs).map (fun (i : Nat) => (i : Int)) = hs.map fun b => ((ua hs b : Nat) : Int) := by rw [jB, CB]; rfl
 rw [e]
 exact qy hs fun x hx y hy h => rF hx hy (by omega)
theorem j9 {hs : List Int} {k : Nat} (h : k <= hs.length) : gS (hs.take k) = (gS hs).take k := by
 rw [jB, jB, <- Ej]
 apply Cv
 intro b hb
 have e : fx (hs.take k) b = fx hs b := by
  have := u5 (r := hs.drop k) hb
  rw [List.take_append_drop] at this
  exact this.symm
 unfold ua
 rw [e, EH, DF]
 have := gT hb
 rw [CW] at this
 omega
theorem yW {hs : List Int} {k : Nat} (h : k < hs.length) : qw hs k <= (dd (hs.take k)).length := by
 unfold qw
 refine (lZ _).length_le_of_subset fun x hx => bD.mpr ?_
 have hx := bD.mp hx
 have fl := Al h
 have : hs.take (fx hs (hs.getD k 0)) = (hs.take k).take (fx hs (hs.getD k 0)) := by rw [EH, DF fl]
 rw [this] at hx
 exact Ec hx
section
variable {X : Cx} {tg l : Expr} {tl : TE}
def Bm (K : PySem.W.Frag) (tl : TE) : TI := fun σ H R => tl σ H fun x H1 => ∃ a, x = .ref a /\ ((∃ xs, SqL K H1 a xs) /\ R (ou K a) H1 \/ (∃ xs, SqT K H1 a xs) /\ R (xT K a) H1)
theorem BX (K : PySem.W.Frag) (hl : PE X l tl) (h : X.K = K := by rfl) : PI X tg l (Bm K tl) := by
 subst h
 intro pins s σ H R I h
 refine bC (hl pins s σ H _ I h) fun v s1 hq__ => ?_
 obtain ⟨x, H1, I1, r1, q1⟩ := hq__
 obtain ⟨a, e, q1⟩ := q1
 subst e
 cases r1
 rcases q1 with ⟨⟨xs, hq⟩, q⟩ | ⟨⟨xs, hq⟩, q⟩
 ·obtain ⟨its, rv, p, hz⟩ := I1.list hq
  refine wpAny_pyIter_list p.isList ?_
  refine ⟨s1.heap.objs.size, [s1.heap.objs.size], _, _, H1, rfl, I1.kept (t' := s1.toks) fun b o e => Heap.get?_push_of_some _ e, lJ a _, ⟨_, Heap.get?_push_size _ rfl, rfl, rfl⟩, fun b hb => ?_, q⟩
  have e : b = s1.heap.objs.size := by simpa using hb
  subst e
  exact I1.fpOk (Cg _) (I1.hok.fresh (Cg _))
 ·obtain ⟨its, rv, p, hz⟩ := I1.tuple hq
  refine wpAny_pyIter_tuple (show s1.heap.IsTuple a its.toArray from p) ?_
  refine ⟨s1.heap.objs.size, [s1.heap.objs.size], _, _, H1, rfl, I1.kept (t' := s1.toks) fun b o e => Heap.get?_push_of_some _ e, jK a _, ⟨_, Heap.get?_push_size _ rfl, rfl, rfl⟩, fun b hb => ?_, q⟩
  have e : b = s1.heap.objs.size := by simpa using hb
  subst e
  exact I1.fpOk (Cg _) (I1.hok.fresh (Cg _))
end
theorem gn {st : List Nat} {j : Nat} {x : V} (hx : (st.map fun (i : Nat) => V.int (i : Int))[j]? = some x) : ∃ d : Nat, st[j]? = some d /\ x = V.int (d : Int) /\ st.getD j 0 = d := by
 rw [Cd] at hx
 obtain ⟨b, h1, h2⟩ := Cj.mp hx
 exact ⟨b, h1, h2.symm, by rw [Cb, h1]; rfl⟩
theorem yX {d n : Nat} : decide (d < n) = decide ((d : Int) < (n : Int)) := by
 by_cases z : d < n
 ·rw [decide_eq_true z, decide_eq_true (by omega)]
 ·rw [decide_eq_false z, decide_eq_false (by omega)]
theorem va {hs : List Int} {st : List Nat} : ((Cf (st.map fun (i : Nat) => V.int (i : Int)).length).filter fun _ => true).map (fun j => V.int (hs.getD (st.getD j 0) 0)) = (st.map fun i => hs.getD i 0).map V.int := by
 rw [CZ.mpr (fun _ _ => rfl), B9]
 apply DB
 ·simp
 ·intro j h1 h2
  simp only [B9, CP] at h1
  have : st.getD j 0 = st[j] := by simp only [Cb, Ca h1, Option.getD_some]
  simp only [C7, DR, this]
section
variable {X : Cx}
end
theorem kc {J : It} {H1 : Hp} {js : List (Option Nat)} {σ : L2.St} {te : TE} {Q : VK} (n : Nat) (item : Nat -> V) (P : Addr -> List V -> Hp -> Prop) (hn : n < 100000)
  (mono : ∀ acc ys H H', P acc ys H -> SameBut acc H H' -> P acc ys H') (h0 : ∀ acc H, P acc [] H)
  (hgo : ∀ i H, i < n -> Same H1 H -> J.go i H) (hst : ∀ H, Same H1 H -> J.stop n H) (hy : ∀ i H x H', i < n -> Same H1 H -> J.yld i H x H' -> H' = H /\ x = item i)
  (he : ∀ acc i ys H2 R, i < n -> Same H1 H2 -> H1 acc = none -> H2 acc = some (.lst ys) -> ys.length = i -> P acc ys H2 -> (∀ v H3, Same H2 H3 -> P acc (ys ++ [v]) H3 -> R v H3) -> te (some (item i) :: bX σ js) H2 R)
  (hQ : ∀ acc ys H', Same H1 H' -> H1 acc = none -> H' acc = some (.lst ys) -> ys.length = n -> P acc ys H' -> Q (.ref acc) H') :
  cg J H1 (none :: js) (bS 0) eI te σ Q := by
 intro acc hacc
 refine ⟨fun i m ys H => m = n - i /\ i <= n /\ Same H1 H /\ H acc = some (.lst ys) /\ ys.length = i /\ P acc ys H, ⟨n, by simp, CK _, Same.new hacc, ab, rfl, h0 _ _⟩, ?_⟩
 rintro i m ys H ⟨rfl, hi, s1, ha, hl, hp⟩
 by_cases hlt : i < n
 ·refine .inr ⟨hgo i H hlt s1, fun ys' H' => i < n /\ Same H1 H' /\ H' acc = some (.lst ys') /\ ys'.length = i + 1 /\ P acc ys' H', fun ys' H' ⟨z, a, b, c, d⟩ => ⟨n - (i + 1), C2 _ _ hlt, rfl, hlt, a, b, c, d⟩, fun x H' y => ?_⟩
  obtain ⟨rfl, rfl⟩ := hy i H x H' hlt s1 y
  refine ⟨uD, ⟨fun _ => ?_, fun hb => by cases hb⟩⟩
  refine he acc i ys _ _ hlt s1 hacc ha hl hp fun v H3 s3 pv => ?_
  refine ⟨s3 _ _ ha, i4 (by omega), hlt, (s1.trans s3).put hacc, ab, by rw [Ck, Cp, hl], ?_⟩
  exact mono acc _ _ _ pv SameBut.upd
 ·have e : i = n := Ds hi (Dg hlt)
  subst e
  exact .inl ⟨hst H s1, hQ acc ys H s1 hacc ha hl hp⟩
theorem l9 {K : PySem.W.Frag} {H1 : Hp} {js : List (Option Nat)} {σ : L2.St} {te : TE} {Q : VK} {a : Addr} {xs : List V} (P : Addr -> List V -> Hp -> Prop) (hl : SqL K H1 a xs) (hn : xs.length < 100000)
  (mono : ∀ acc ys H H', P acc ys H -> SameBut acc H H' -> P acc ys H') (h0 : ∀ acc H, P acc [] H)
  (he : ∀ acc (i : Nat) x ys H2 R, xs[i]? = some x -> Same H1 H2 -> H1 acc = none -> H2 acc = some (.lst ys) -> ys.length = i -> P acc ys H2 -> (∀ v H3, Same H2 H3 -> P acc (ys ++ [v]) H3 -> R v H3) -> te (some x :: bX σ js) H2 R)
  (hQ : ∀ acc ys H', Same H1 H' -> H1 acc = none -> H' acc = some (.lst ys) -> ys.length = xs.length -> P acc ys H' -> Q (.ref acc) H') :
  cg (ou K a) H1 (none :: js) (bS 0) eI te σ Q :=
 kc (J := ou K a) (H1 := H1) (js := js) (σ := σ) (te := te) (Q := Q) xs.length (fun i => xs.getD i .non) P hn mono h0
  (fun i H h s => ⟨xs, xs[i], s.seq hl, by simp [h]⟩) (fun H s => ⟨xs, s.seq hl, Cg _⟩)
  (fun i H x H' h s y => ⟨y.1, by have e := y.2 xs (s.seq hl); simp [e]⟩)
  (fun acc i ys H2 R h s n1 n2 ln p k => he acc i _ ys H2 R (by simp [h]) s n1 n2 ln p k) hQ
theorem sV {H1 : Hp} {js : List (Option Nat)} {σ : L2.St} {te : TE} {Q : VK} {n : Nat} (P : Addr -> List V -> Hp -> Prop) (hn : n < 100000)
  (mono : ∀ acc ys H H', P acc ys H -> SameBut acc H H' -> P acc ys H') (h0 : ∀ acc H, P acc [] H)
  (he : ∀ acc (i : Nat) ys H2 R, i < n -> Same H1 H2 -> H1 acc = none -> H2 acc = some (.lst ys) -> ys.length = i -> P acc ys H2 -> (∀ v H3, Same H2 H3 -> P acc (ys ++ [v]) H3 -> R v H3) -> te (some (.int (0 + (i : Int))) :: bX σ js) H2 R)
  (hQ : ∀ acc ys H', Same H1 H' -> H1 acc = none -> H' acc = some (.lst ys) -> ys.length = n -> P acc ys H' -> Q (.ref acc) H') :
  cg (pQ 0 n) H1 (none :: js) (bS 0) eI te σ Q :=
 kc (J := pQ 0 n) (H1 := H1) (js := js) (σ := σ) (te := te) (Q := Q) n (fun i => .int (0 + (i : Int))) P hn mono h0
  (fun _ _ h _ => h) (fun _ _ => Cg _) (fun _ _ _ _ _ _ y => y) he hQ
theorem kd {i j : Int} : decide (i = j) = decide (V.int i = V.int j) := by
 by_cases z : i = j
 ·simp [z]
 ·simp [z]
theorem br {ns : List Int} {j : Nat} (h : j < ns.length) : lM (ns.map V.int) (j : Int) = some (.int (ns.getD j 0)) := aX (by simp [h])
def RowsL (H : Hp) (rs : List Addr) (ps : List (List Int)) : Prop := Paired (fun r p => H r = some (.lst (p.map V.int))) rs ps
theorem RowsL.pools {K : PySem.W.Frag} {H : Hp} {rs : List Addr} {ps : List (List Int)} (h : RowsL H rs ps) : PoolsL K H rs ps := Paired.mapP h fun _ _ q => SqL.of q
theorem RowsL.of {H : Hp} {rs : List Addr} {ps : List (List Int)} (hl : rs.length = ps.length) (h : ∀ (i : Nat) r p, rs[i]? = some r -> ps[i]? = some p -> H r = some (.lst (p.map V.int))) : RowsL H rs ps := dU hl h
structure TieT (H : Hp) (x : Addr × Addr × Str × Int × List Nat) : Prop where
 tp : H x.1 = some (.tup [.str x.2.2.1, .int x.2.2.2.1, .ref x.2.1])
 ts : H x.2.1 = some (.tup (x.2.2.2.2.map fun (i : Nat) => V.int (i : Int)))
 wd : x.2.2.1 = "most" \/ x.2.2.1 = "least"
 sl : x.2.2.2.2.length <= 6
theorem TieT.same {H H' : Hp} {x : Addr × Addr × Str × Int × List Nat} (h : TieT H x) (s : Same H H') : TieT H' x := ⟨s _ _ h.tp, s _ _ h.ts, h.wd, h.sl⟩
theorem TieT.put {H : Hp} {x : Addr × Addr × Str × Int × List Nat} {r : Addr} {xs ys : List V} (h : TieT H x) (hr : H r = some (.lst xs)) : TieT (az H r (.lst ys)) x := by
 have n1 : x.1 ≠ r := fun z => by have := h.tp; rw [z, hr] at this; cases this
 have n2 : x.2.1 ≠ r := fun z => by have := h.ts; rw [z, hr] at this; cases this
 exact ⟨by rw [ah n1]; exact h.tp, by rw [ah n2]; exact h.ts, h.wd, h.sl⟩
structure TieG (n : Nat) (x : Addr × Addr × Str × Int × List Nat) : Prop where
 k1 : 1 <= x.2.2.2.1
 k6 : x.2.2.2.1 <= 6
 ne : x.2.2.2.2 ≠ []
 lt : ∀ i ∈ x.2.2.2.2, i < n
 up : x.2.2.2.2.Pairwise (· < ·)
structure Ties (K : PySem.W.Frag) (H : Hp) (b : Addr) (ts : List (Addr × Addr × Str × Int × List Nat)) (n : Nat) : Prop where
 ls : SqL K H b (ts.map fun x => V.ref x.1)
 ea : ∀ x ∈ ts, TieT H x
 ln : ts.length <= n
def jq (f : Nat -> Int) (n : Nat) (ts : List (Addr × Addr × Str × Int × List Nat)) : Option Nat := ts.findIdx? fun x => brk f n x.2.2.1 x.2.2.2.1 x.2.2.2.2
def Am : Option Nat -> V
 | none => .non
 | some i => .int ((i : Nat) : Int)
structure Drawn (H : Hp) (l m L T : Addr) (ms : List Int) (rs : List Addr) (ps : List (List Int)) (ts : List (Addr × Addr × Str × Int × List Nat)) (top : Nat) : Prop where
 hl : H l = some (.lst [.ref m, .ref L, .ref T])
 hm : H m = some (.lst (ms.map V.int))
 hL : H L = some (.lst (rs.map V.ref))
 hT : H T = some (.lst (ts.map fun x => V.ref x.1))
 rows : RowsL H rs ps
 mup : ms.Pairwise (· < ·)
 mne : ms ≠ []
 m8 : ms.length <= 8
 mb : ∀ b ∈ ms, 1 <= b /\ b <= 10 ^ 18
 pup : ∀ p ∈ ps, p.Pairwise (· < ·)
 psub : ∀ p ∈ ps, ∀ b ∈ p, b ∈ ms
 p1 : 1 <= ps.length
 ptop : ps.length <= top
 p6 : ps.length <= 6
 tea : ∀ x ∈ ts, TieT H x
 tg : ∀ x ∈ ts, TieG ps.length x
 t12 : ts.length <= 12
theorem ye {l r : List Int} (h : ∀ x ∈ l, x ∈ r) : (dd l).length <= (dd r).length := (lZ l).length_le_of_subset fun x hx => bD.mpr (h x (bD.mp hx))
theorem xi {f : Nat -> Int} {A st : List Nat} (h : ∀ i ∈ A, i ∈ st) : i6 f A <= i6 f st := ye fun x hx => by
 obtain ⟨i, hi, e⟩ := Ci.mp hx
 exact Ci.mpr ⟨i, h i hi, e⟩
theorem sW {P : List Nat -> Prop} (h0 : P []) (hs : ∀ l x, P l -> P (l ++ [x])) (l : List Nat) : P l := by
 have : ∀ n (l : List Nat), l.length = n -> P l := by
  intro n
  induction n with
  | zero => intro l e; rw [Dm.mp e]; exact h0
  | succ n ih =>
   intro l e
   have hne : l ≠ [] := fun z => by rw [z] at e; simp at e
   rw [<- DX hne]
   exact hs _ _ (ih _ (by rw [Ew, e]; rfl))
 exact this _ l rfl
theorem ni {f g : Nat -> Int} (A : List Nat) : (∀ i ∈ A, ∀ j ∈ A, f i = f j <-> g i = g j) -> i6 f A = i6 g A := by
 refine sW (P := fun A => (∀ i ∈ A, ∀ j ∈ A, f i = f j <-> g i = g j) -> i6 f A = i6 g A) (fun _ => rfl) (fun l x ih h => ?_) A
 have ih' := ih fun i hi j hj => h i (CA _ hi) j (CA _ hj)
 rw [oW, oW, ih']
 have e : f x ∈ l.map f <-> g x ∈ l.map g := by
  constructor
  ·intro m
   obtain ⟨i, hi, e⟩ := Ci.mp m
   exact Ci.mpr ⟨i, hi, (h i (CA _ hi) x (by simp)).mp e⟩
  ·intro m
   obtain ⟨i, hi, e⟩ := Ci.mp m
   exact Ci.mpr ⟨i, hi, (h i (CA _ hi) x (by simp)).mpr e⟩
 by_cases z : f x ∈ l.map f
 ·rw [if_pos z, if_pos (e.mp z)]
 ·rw [if_neg z, if_neg fun y => z (e.mpr y)]
theorem vb {st : List Nat} {p : Nat -> Bool} : (st.filter p).length + (st.filter fun i => !p i).length = st.length := by
 induction st with
 | nil => rfl
 | cons x r ih =>
  by_cases h : p x = true
  ·simp [h]; omega
  ·have h' : p x = false := by simpa using h
   simp [h']; omega
theorem xj {f : Nat -> Int} {st : List Nat} {p : Nat -> Bool} : i6 f st + (st.filter p).length <= i6 f (st.filter p) + st.length := by
 have := (lZ (st.map f)).length_le_of_subset (l₂ := dd ((st.filter p).map f) ++ (st.filter fun i => !p i).map f) fun x hx => by
  obtain ⟨i, hi, e⟩ := Ci.mp (bD.mp hx)
  by_cases h : p i = true
  ·exact CA _ (bD.mpr (Ci.mpr ⟨i, CG.mpr ⟨hi, h⟩, e⟩))
  ·exact CJ _ (Ci.mpr ⟨i, CG.mpr ⟨hi, by simpa using h⟩, e⟩)
 rw [Ck, B9] at this
 have := vb (st := st) (p := p)
 unfold i6
 omega
def kp (f : Nat -> Int) (wd : Str) (k : Int) (st : List Nat) : Bool := if wd = "most" then decide (((i6 f st : Nat) : Int) <= k) else decide (k <= ((i6 f st : Nat) : Int))
theorem xk {f g : Nat -> Int} {n : Nat} {wd : Str} {k : Int} {st : List Nat} (h : ∀ i, i < n -> ∀ j, j < n -> (f i = f j <-> g i = g j)) : brk f n wd k st = brk g n wd k st := by
 unfold brk
 have e : i6 f (st.filter fun i => decide (i < n)) = i6 g (st.filter fun i => decide (i < n)) := ni _ fun i hi j hj => h i (of_decide_eq_true (CG.mp hi).2) j (of_decide_eq_true (CG.mp hj).2)
 rw [e]
theorem nq {hs : List Int} {i : Nat} (h : i < hs.length) : ((gS hs).map fun (i : Nat) => (i : Int)).getD i 0 = (ua hs (hs.getD i 0) : Int) := by
 rw [jB, CB]
 simp [h, Cb]
theorem ke {hs : List Int} {i j : Nat} (hi : i < hs.length) (hj : j < hs.length) : ((gS hs).map fun (i : Nat) => (i : Int)).getD i 0 = ((gS hs).map fun (i : Nat) => (i : Int)).getD j 0 <-> hs.getD i 0 = hs.getD j 0 := by
 rw [nq hi, nq hj]
 constructor
 ·intro h
  exact rF (by rw [aC hi]; exact CL hi) (by rw [aC hj]; exact CL hj) (by omega)
 ·intro h; rw [h]
theorem yY {f : Nat -> Int} {n : Nat} {wd : Str} {k : Int} {st : List Nat} (h : brk f n wd k st = true) : kp f wd k st = false := by
 unfold brk at h
 unfold kp
 by_cases z : wd = "most"
 ·rw [if_pos z] at h ⊢
  have h := of_decide_eq_true h
  have := xi (f := f) (A := st.filter fun i => decide (i < n)) (st := st) fun i hi => (CG.mp hi).1
  exact decide_eq_false (by omega)
 ·rw [if_neg z] at h ⊢
  have h := of_decide_eq_true h
  have := xj (f := f) (st := st) (p := fun i => decide (i < n))
  exact decide_eq_false (by omega)
theorem sX {f : Nat -> Int} {n : Nat} {wd : Str} {k : Int} {st : List Nat} (h : ∀ i ∈ st, i < n) : brk f n wd k st = !kp f wd k st := by
 have e : st.filter (fun i => decide (i < n)) = st := CZ.mpr fun i hi => decide_eq_true (h i hi)
 unfold brk kp
 rw [e]
 by_cases z : wd = "most"
 ·rw [if_pos z, if_pos z]
  by_cases y : k < (i6 f st : Int)
  ·rw [decide_eq_true y, decide_eq_false (by omega)]; rfl
  ·rw [decide_eq_false y, decide_eq_true (by omega)]; rfl
 ·rw [if_neg z, if_neg z]
  by_cases y : k <= (i6 f st : Int)
  ·rw [decide_eq_false (by omega), decide_eq_true y]; rfl
  ·rw [decide_eq_true (by omega), decide_eq_false y]; rfl
theorem yZ {f g : Nat -> Int} {n : Nat} {wd : Str} {k : Int} {st : List Nat} (hl : ∀ i ∈ st, i < n) (h : ∀ i, i < n -> ∀ j, j < n -> (f i = f j <-> g i = g j)) : kp f wd k st = kp g wd k st := by
 unfold kp
 rw [ni st fun i hi j hj => h i (hl i hi) j (hl j hj)]
theorem xl {hs os : List Int} (hl : hs.length = os.length) (h : ∀ i, i < hs.length -> ∀ j, j < hs.length -> (hs.getD i 0 = hs.getD j 0 <-> os.getD i 0 = os.getD j 0)) {k : Nat} (hk : k < hs.length) : qw hs k = qw os k := by
 have hk' : k < os.length := by omega
 have mh : hs.getD k 0 ∈ hs := by rw [aC hk]; exact CL hk
 have mo : os.getD k 0 ∈ os := by rw [aC hk']; exact CL hk'
 have ef : fx hs (hs.getD k 0) = fx os (os.getD k 0) := by
  have a1 := gT mh
  have a2 := gT mo
  have b1 := j8 mh
  have b2 := j8 mo
  have c1 : hs.getD (fx hs (hs.getD k 0)) 0 = hs.getD k 0 := by rw [Cb, b1]; rfl
  have c2 : os.getD (fx os (os.getD k 0)) 0 = os.getD k 0 := by rw [Cb, b2]; rfl
  have d1 := (h _ a1 _ hk).mp c1
  have d2 := (h _ (by omega) _ hk).mpr c2
  have g1 : ∀ m, m < fx os (os.getD k 0) -> os.getD m 0 ≠ os.getD k 0 := fun m hm e => by
   have := DT hm
   rw [aC (by omega : m < os.length)] at e
   simp at this
   exact this (by rw [e, Cb])
  have g2 : ∀ m, m < fx hs (hs.getD k 0) -> hs.getD m 0 ≠ hs.getD k 0 := fun m hm e => by
   have := DT hm
   rw [aC (by omega : m < hs.length)] at e
   simp at this
   exact this (by rw [e, Cb])
  rcases Ep (fx hs (hs.getD k 0)) (fx os (os.getD k 0)) with y | y | y
  ·exact absurd d1 (g1 _ y)
  ·exact y
  ·exact absurd d2 (g2 _ y)
 have el : ∀ n, n <= hs.length -> (dd (hs.take n)).length = (dd (os.take n)).length := fun n hn => by
  have e1 : ∀ (l : List Int), n <= l.length -> l.take n = (Cf n).map fun i => l.getD i 0 := fun l hl' => by
   apply DB
   ·simp; omega
   ·intro i h1 h2
    simp only [CW] at h1
    have : i < l.length := by omega
    simp [this]
  have u := ni (f := fun i => hs.getD i 0) (g := fun i => os.getD i 0) (Cf n) fun i hi j hj => h i (by have := CD.mp hi; omega) j (by have := CD.mp hj; omega)
  unfold i6 at u
  rw [<- e1 hs hn, <- e1 os (by omega)] at u
  exact u
 unfold qw
 rw [<- ef]
 exact el _ (Da (gT mh))
theorem qz {hs os : List Int} (hl : hs.length = os.length) : gS hs = gS os <-> ∀ i, i < hs.length -> ∀ j, j < i -> (hs.getD i 0 = hs.getD j 0 <-> os.getD i 0 = os.getD j 0) := by
 constructor
 ·intro e i hi j hj
  rw [<- ke hi (by omega), <- ke (hs := os) (by omega) (by omega), e]
 ·intro h
  have h' : ∀ i, i < hs.length -> ∀ j, j < hs.length -> (hs.getD i 0 = hs.getD j 0 <-> os.getD i 0 = os.getD j 0) := fun i hi j hj => by
   rcases Ep i j with y | y | y
   ·have := h j hj i y
    exact ⟨fun e => (this.mp e.symm).symm, fun e => (this.mpr e.symm).symm⟩
   ·subst y; simp
   ·exact h i hi j y
  unfold gS
  rw [<- hl]
  exact Cv fun k hk => xl hl h' (CD.mp hk)
theorem oX (l : List Int) (x : Int) : (dd (l ++ [x])).length = if x ∈ l then (dd l).length else (dd l).length + 1 := by
 rw [fQ]
 unfold cI
 by_cases h : x ∈ l
 ·rw [if_pos h, if_pos (bD.mpr h)]
 ·rw [if_neg h, if_neg fun z => h (bD.mp z), Ck, Cp]
def bU (p : List Int) : Prop := p = (gS p).map fun (i : Nat) => (i : Int)
theorem y0 {hs : List Int} {k : Nat} (h : k < hs.length) : qw hs k < (dd hs).length := by
 unfold qw
 have m : hs.getD k 0 ∈ hs := by rw [aC h]; exact CL h
 have a := gT m
 have nm : hs.getD k 0 ∉ hs.take (fx hs (hs.getD k 0)) := fun z => by
  obtain ⟨i, hi, e⟩ := Cq.mp z
  rw [CW] at hi
  have := DT (show i < fx hs (hs.getD k 0) by omega)
  rw [DN] at e
  simp at this
  exact this (by rw [e, Cb])
 have e := oX (hs.take (fx hs (hs.getD k 0))) (hs.getD k 0)
 rw [if_neg nm] at e
 have := ye (l := hs.take (fx hs (hs.getD k 0)) ++ [hs.getD k 0]) (r := hs) fun x hx => by
  rcases CC.mp hx with z | z
  ·exact Ec z
  ·rw [Cm.mp z]; exact m
 omega
theorem vc (p : List Int) (x : Int) : gS (p ++ [x]) = gS p ++ [if x ∈ p then ua p x else (dd p).length] := by
 have h1 : (gS (p ++ [x])).take p.length = gS p := by
  rw [<- j9 (by simp), List.take_left']; rfl
 have h2 : (gS (p ++ [x]))[p.length]? = some (qw (p ++ [x]) p.length) := m9 (by simp)
 have e : gS (p ++ [x]) = (gS (p ++ [x])).take p.length ++ [qw (p ++ [x]) p.length] := by
  have hlen : (gS (p ++ [x])).length = p.length + 1 := by rw [fR]; simp
  conv => lhs; rw [<- List.take_append_drop p.length (gS (p ++ [x]))]
  congr 1
  apply Ea
  intro i
  rw [List.getElem?_drop]
  cases i with
  | zero => rw [Nat.add_zero, h2]; rfl
  | succ i =>
   rw [CU (by omega)]
   simp
 rw [e, h1]
 congr 2
 have eg : (p ++ [x]).getD p.length 0 = x := by simp [Cb]
 unfold qw
 rw [eg]
 by_cases z : x ∈ p
 ·rw [if_pos z, u5 z]
  unfold ua
  rw [List.take_append_of_le_length (Da (gT z))]
 ·rw [if_neg z, yV z, List.take_left']; rfl
theorem sY {p : List Int} (c : bU p) {j : Nat} (h : (j : Int) ∈ p) : ua p (j : Int) = j := by
 obtain ⟨i, hi, e⟩ := Cq.mp h
 have g := nq hi
 rw [<- c, aC hi, e] at g
 omega
theorem cZ {p : List Int} (c : bU p) {x : Int} (h : x ∈ p) : ∃ j : Nat, x = (j : Int) /\ j < (dd p).length := by
 rw [c] at h
 obtain ⟨j, hj, e⟩ := Ci.mp h
 obtain ⟨i, hi, e2⟩ := Cq.mp hj
 rw [fR] at hi
 have g := m9 hi
 rw [Ca (by rw [fR]; exact hi), e2] at g
 have := y0 hi
 refine ⟨j, e.symm, ?_⟩
 have : j = qw p i := Option.some.inj g
 omega
theorem c4 {p : List Int} (c : bU p) {j : Nat} (h : j < (dd p).length) : (j : Int) ∈ p := by
 refine Decidable.byContradiction fun n => ?_
 have := (lZ p).length_le_of_subset (l₂ := ((Cf (dd p).length).filter fun i => decide (i ≠ j)).map fun (i : Nat) => (i : Int)) fun x hx => by
  have hx := bD.mp hx
  obtain ⟨i, e, hi⟩ := cZ c hx
  refine Ci.mpr ⟨i, CG.mpr ⟨CD.mpr hi, decide_eq_true fun z => n ?_⟩, e.symm⟩
  rw [<- z, <- e]; exact hx
 rw [B9] at this
 have lt : ((Cf (dd p).length).filter fun i => decide (i ≠ j)).length < (Cf (dd p).length).length := by
  refine Nat.lt_of_le_of_ne (CT _ _) fun z => ?_
  have := List.length_filter_eq_length_iff.mp z j (CD.mpr h)
  simp at this
 rw [CP] at lt
 omega
theorem iH : bU [] := rfl
theorem gq {p : List Int} (c : bU p) {j : Nat} (h : j <= (dd p).length) : bU (p ++ [(j : Int)]) := by
 unfold bU
 rw [vc, Cn, <- c]
 congr 1
 by_cases z : (j : Int) ∈ p
 ·rw [if_pos z, sY c z]; rfl
 ·rw [if_neg z]
  have : ¬ j < (dd p).length := fun y => z (c4 c y)
  have : j = (dd p).length := by omega
  rw [this]; rfl
def cF (p : List Int) (b : Nat) : List Nat := (Cf p.length).filter fun i => decide (p.getD i 0 = (b : Int))
theorem de {p : List Int} {b i : Nat} : i ∈ cF p b <-> i < p.length /\ p.getD i 0 = (b : Int) := by
 unfold cF
 rw [CG, CD, decide_eq_true_iff]
theorem cX {p : List Int} (c : bU p) {b : Nat} (h : b < (dd p).length) : cF p b ≠ [] := by
 obtain ⟨i, hi, e⟩ := Cq.mp (c4 c h)
 intro z
 have : i ∈ cF p b := de.mpr ⟨hi, by rw [aC hi, e]⟩
 rw [z] at this
 cases this
def dW (st : List Nat) (may : List (List Int)) : List Int := (may.getD (st.getD 0 0) []).filter fun x => st.all fun s => decide (x ∈ may.getD s [])
def gU (may : List (List Int)) (p : List Int) (b : Nat) : List Int := dW (cF p b) may
def dE (may : List (List Int)) (p : List Int) : List (List Int) := (Cf (dd p).length).map (gU may p)
theorem cA {may : List (List Int)} {p : List Int} : (dE may p).length = (dd p).length := by unfold dE; simp
theorem dX {may : List (List Int)} {p : List Int} {b : Nat} (h : b < (dd p).length) : (dE may p)[b]? = some (gU may p b) := by
 unfold dE
 rw [Cd, Dj h]; rfl
theorem fS {st : List Nat} {may : List (List Int)} {x : Int} (h : st ≠ []) : x ∈ dW st may <-> ∀ s ∈ st, x ∈ may.getD s [] := by
 unfold dW
 rw [CG, CS]
 constructor
 ·intro ⟨_, a⟩ s hs
  exact of_decide_eq_true (a s hs)
 ·intro a
  refine ⟨a _ ?_, fun s hs => decide_eq_true (a s hs)⟩
  cases st with
  | nil => exact absurd rfl h
  | cons s r => simp
theorem fT {may : List (List Int)} {p : List Int} {b : Nat} {x : Int} (c : bU p) (h : b < (dd p).length) : x ∈ gU may p b <-> ∀ i, i < p.length -> p.getD i 0 = (b : Int) -> x ∈ may.getD i [] := by
 unfold gU
 rw [fS (cX c h)]
 exact ⟨fun a i h1 h2 => a i (de.mpr ⟨h1, h2⟩), fun a s hs => a s (de.mp hs).1 (de.mp hs).2⟩
theorem oY {st : List Nat} {may : List (List Int)} (h : ∀ p ∈ may, p.Pairwise (· < ·)) : (dW st may).Pairwise (· < ·) := by
 unfold dW
 refine List.Pairwise.filter _ ?_
 by_cases z : st.getD 0 0 < may.length
 ·have : may.getD (st.getD 0 0) [] = may[st.getD 0 0] := by rw [Cb, Ca z]; rfl
  rw [this]
  exact h _ (CL z)
 ·have : may.getD (st.getD 0 0) [] = [] := by rw [Cb, CU (by omega)]; rfl
  rw [this]; exact List.Pairwise.nil
abbrev oZ := Str × Int × List Nat
structure IsPlan (may : List (List Int)) (ts : List oZ) (hs : List Int) : Prop where
 len : hs.length = may.length
 of : ∀ i, i < hs.length -> hs.getD i 0 ∈ may.getD i []
 kp : ∀ t ∈ ts, kp (fun i => hs.getD i 0) t.1 t.2.1 t.2.2 = true
def Beg (p hs : List Int) : Prop := p.length <= hs.length /\ ((gS hs).map fun (i : Nat) => (i : Int)).take p.length = p
theorem Beg.at {p hs : List Int} (b : Beg p hs) {i : Nat} (h : i < p.length) : ((gS hs).map fun (i : Nat) => (i : Int)).getD i 0 = p.getD i 0 := by
 rw [<- congrArg (fun l => List.getD l i 0) b.2]
 simp [Cb, EA, h]
theorem Beg.same {p hs : List Int} (b : Beg p hs) {i j : Nat} (hi : i < p.length) (hj : j < p.length) : p.getD i 0 = p.getD j 0 <-> hs.getD i 0 = hs.getD j 0 := by
 rw [<- b.at hi, <- b.at hj]
 exact ke (CH hi b.1) (CH hj b.1)
theorem Beg.canon {p hs : List Int} (b : Beg p hs) : bU p := by
 have e : gS p = (gS hs).take p.length := by
  rw [<- j9 b.1]
  refine (qz (by rw [CW]; have := b.1; omega)).mpr fun i hi j hj => ?_
  have e1 : (hs.take p.length).getD i 0 = hs.getD i 0 := by simp [Cb, EA, hi]
  have e2 : (hs.take p.length).getD j 0 = hs.getD j 0 := by simp [Cb, EA, (by omega : j < p.length)]
  rw [e1, e2]
  exact b.same hi (by omega)
 unfold bU
 rw [e, Ej]
 exact b.2.symm
theorem Beg.brk {p hs : List Int} (b : Beg p hs) {wd : Str} {k : Int} {st : List Nat} (h : brk (fun i => p.getD i 0) p.length wd k st = true) : L2.kp (fun i => hs.getD i 0) wd k st = false := by
 refine yY (n := p.length) ?_
 rw [<- h]
 exact xk fun i hi j hj => (b.same hi hj).symm
theorem Beg.short {may : List (List Int)} {p hs : List Int} (b : Beg p hs) (of : ∀ i, i < hs.length -> hs.getD i 0 ∈ may.getD i []) {ms : List Nat} (s : Short (dE may p) ms) : False := by
 obtain ⟨X, hX, hq⟩ := s.few
 have c := b.canon
 have nd : ms.Nodup := s.up.imp fun h => Cy h
 have lt : ∀ q ∈ ms, q < (dd p).length := fun q m => by
  obtain ⟨r, e, _⟩ := hq q m
  have := (Cc.mp e).1
  rw [cA] at this
  exact this
 have fs : ∀ q ∈ ms, ∃ i, i < p.length /\ p.getD i 0 = (q : Int) := fun q m => by
  obtain ⟨i, hi, e⟩ := Cq.mp (c4 c (lt q m))
  exact ⟨i, hi, by rw [aC hi, e]⟩
 let f : Nat -> Int := fun q => hs.getD (fx p (q : Int)) 0
 have fa : ∀ q ∈ ms, fx p (q : Int) < p.length /\ p.getD (fx p (q : Int)) 0 = (q : Int) := fun q m => by
  have := c4 c (lt q m)
  refine ⟨gT this, ?_⟩
  rw [Cb, j8 this]; rfl
 have nd2 : (ms.map f).Nodup := by
  rw [Cu, Dk]
  refine List.Pairwise.imp_of_mem ?_ (Cu.mp nd)
  intro q r hq hr hne e
  obtain ⟨a1, a2⟩ := fa q hq
  obtain ⟨b1, b2⟩ := fa r hr
  have := (b.same a1 b1).mpr e
  rw [a2, b2] at this
  omega
 have := nd2.length_le_of_subset (l₂ := X) fun x hx => by
  obtain ⟨q, m, e⟩ := Ci.mp hx
  obtain ⟨r, er, hr⟩ := hq q m
  rw [dX (lt q m)] at er
  cases er
  refine hr x ((fT c (lt q m)).mpr fun i hi ei => ?_)
  obtain ⟨a1, a2⟩ := fa q m
  have : p.getD (fx p (q : Int)) 0 = p.getD i 0 := by rw [a2, ei]
  have := (b.same a1 hi).mp this
  have h2 := of i (CH hi b.1)
  rw [<- this] at h2
  rw [<- e]
  exact h2
 rw [B9] at this
 omega
theorem Beg.next {p hs : List Int} (b : Beg p hs) (h : p.length < hs.length) : ∃ j : Nat, j <= (dd p).length /\ Beg (p ++ [(j : Int)]) hs := by
 have c := b.canon
 have nl := yW (hs := hs) (k := p.length) h
 have e : (dd (hs.take p.length)).length = (dd p).length := by
  have h2 := u9 (hs.take p.length)
  rw [j9 (by omega), Ej, b.2] at h2
  exact h2.symm
 refine ⟨qw hs p.length, by omega, by simp; omega, ?_⟩
 rw [Ck, Cp, Dp, b.2]
 congr 1
 rw [Cd, m9 h]; rfl
theorem Beg.nil (hs : List Int) : Beg [] hs := ⟨CK _, rfl⟩
theorem nu {may : List (List Int)} {ts : List oZ} {p ds : List Int} (c : bU p) (hl : p.length = may.length) (d : Deal (dE may p) ds) (lt : ∀ t ∈ ts, ∀ i ∈ t.2.2, i < p.length) (nb : ∀ t ∈ ts, brk (fun i => p.getD i 0) p.length t.1 t.2.1 t.2.2 = false) :
  IsPlan may ts (p.map fun x => ds.getD x.toNat 0) := by
 have dl : ds.length = (dd p).length := by rw [d.len, cA]
 have key : ∀ i, i < p.length -> ∃ b : Nat, p.getD i 0 = (b : Int) /\ b < (dd p).length /\ (p.map fun x => ds.getD x.toNat 0).getD i 0 = ds.getD b 0 := fun i hi => by
  obtain ⟨b, e, hb⟩ := cZ c (x := p.getD i 0) (by rw [aC hi]; exact CL hi)
  refine ⟨b, e, hb, ?_⟩
  have : (p.map fun x => ds.getD x.toNat 0).getD i 0 = ds.getD (p.getD i 0).toNat 0 := by simp [Cb, hi]
  rw [this, e, CV]
 refine ⟨by rw [B9, hl], fun i hi => ?_, fun t ht => ?_⟩
 ·rw [B9] at hi
  obtain ⟨b, e, hb, e2⟩ := key i hi
  rw [e2]
  have h1 : b < ds.length := by omega
  have h2 : b < (dE may p).length := by rw [cA]; exact hb
  have := d.of b h1 h2
  have e3 : (dE may p)[b] = gU may p b := by
   have := dX (may := may) hb
   rw [Ca h2] at this
   exact Option.some.inj this
  rw [e3] at this
  rw [aC h1]
  exact (fT c hb).mp this i hi e
 ·have h := nb t ht
  rw [sX (lt t ht)] at h
  have h : L2.kp (fun i => p.getD i 0) t.1 t.2.1 t.2.2 = true := by simpa using h
  rw [<- h]
  refine yZ (lt t ht) fun i hi j hj => ?_
  obtain ⟨b, e, hb, e2⟩ := key i hi
  obtain ⟨b', e', hb', e2'⟩ := key j hj
  show (p.map fun x => ds.getD x.toNat 0).getD i 0 = (p.map fun x => ds.getD x.toNat 0).getD j 0 <-> p.getD i 0 = p.getD j 0
  rw [e2, e2', e, e', aC (by omega : b < ds.length), aC (by omega : b' < ds.length), Dx d.nd]
  omega
inductive Pap where
 | tie (j : Nat)
 | short (bs : List Nat)
 | split (ps : List Pap)
inductive Shows (may : List (List Int)) (ts : List oZ) : List Int -> Pap -> Prop where
 | tie {p : List Int} {j : Nat} {t : oZ} (h : ts[j]? = some t) (b : brk (fun i => p.getD i 0) p.length t.1 t.2.1 t.2.2 = true) : Shows may ts p (.tie j)
 | short {p : List Int} {bs : List Nat} (s : Short (dE may p) bs) : Shows may ts p (.short bs)
 | split {p : List Int} {ps : List Pap} (hl : p.length < may.length) (hn : ps.length = (dd p).length + 1) (h : ∀ (j : Nat) (q : Pap), ps[j]? = some q -> Shows may ts (p ++ [(j : Int)]) q) : Shows may ts p (.split ps)
theorem Shows.none {may : List (List Int)} {ts : List oZ} {p : List Int} {q : Pap} (s : Shows may ts p q) : ∀ hs, Beg p hs -> ¬ IsPlan may ts hs := by
 induction s with
 | tie h b =>
  intro hs g pl
  have := pl.kp _ (Ce h)
  rw [g.brk b] at this
  cases this
 | short s =>
  intro hs g pl
  exact g.short pl.of s
 | @split p ps hl hn h ih =>
  intro hs g pl
  obtain ⟨j, hj, g2⟩ := g.next (by rw [pl.len]; exact hl)
  have hj' : j < ps.length := by omega
  exact ih j ps[j] (Ca hj') hs g2 pl
theorem Shows.noplan {may : List (List Int)} {ts : List oZ} {q : Pap} (s : Shows may ts [] q) {hs : List Int} : ¬ IsPlan may ts hs := s.none hs (Beg.nil hs)
theorem y4 : ∀ {l r : List Int}, l.Pairwise (· < ·) -> r.Pairwise (· < ·) -> (∀ x, x ∈ l <-> x ∈ r) -> l = r := by
 intro l
 induction l with
 | nil =>
  intro r _ _ h
  cases r with
  | nil => rfl
  | cons b r => have := (h b).mpr CM; cases this
 | cons a l ih =>
  intro r hl hr h
  cases r with
  | nil => have := (h a).mp CM; cases this
  | cons b r =>
   rw [List.pairwise_cons] at hl hr
   have e : a = b := by
    rcases Cr.mp ((h a).mp CM) with z | z
    ·exact z
    ·rcases Cr.mp ((h b).mpr CM) with y | y
     ·exact y.symm
     ·exact absurd (Int.lt_trans (hr.1 a z) (hl.1 b y)) (Int.lt_irrefl _)
   subst e
   rw [ih hl.2 hr.2 fun x => ?_]
   constructor
   ·intro hx
    rcases Cr.mp ((h x).mp (Cz _ hx)) with z | z
    ·exact absurd (hl.1 x hx) (by rw [z]; exact Int.lt_irrefl _)
    ·exact z
   ·intro hx
    rcases Cr.mp ((h x).mpr (Cz _ hx)) with z | z
    ·exact absurd (hr.1 x hx) (by rw [z]; exact Int.lt_irrefl _)
    ·exact z
def BY (way : Nat) (x : Int) (F S : List Int) : Prop := if way = 0 then x ∈ F /\ x ∈ S else if way = 1 then x ∈ F \/ x ∈ S else x ∈ F /\ x ∉ S
theorem xm {ks : List Int} (h : ks.Pairwise (· <= ·)) (nd : ks.Nodup) : ks.Pairwise (· < ·) :=
 (h.and (Cu.mp nd)).imp fun ⟨a, b⟩ => by omega
def An (H H' : Hp) (l : Addr) (way : Nat) (F S ks : List Int) : Prop := Same H H' /\ H l = none /\ H' l = some (.lst (ks.map V.int)) /\ ks.Pairwise (· < ·) /\ ∀ x, x ∈ ks <-> BY way x F S
structure Both (K : PySem.W.Frag) (H : Hp) (a b : Addr) (F S U : List Int) : Prop where
 fa : SqL K H a (F.map V.int)
 sb : SqL K H b (S.map V.int)
 pf : F.Pairwise (· < ·)
 ps : S.Pairwise (· < ·)
 fu : ∀ x ∈ F, x ∈ U
 su : ∀ x ∈ S, x ∈ U
 ul : U.length <= 60
theorem rG {F : List Int} (h : F.Pairwise (· < ·)) : F.Nodup := h.imp fun h => Int.ne_of_lt h
theorem Both.l1 {K : PySem.W.Frag} {H : Hp} {a b : Addr} {F S U : List Int} (h : Both K H a b F S U) : F.length <= 60 := CO ((rG h.pf).length_le_of_subset h.fu) h.ul
theorem Both.l2 {K : PySem.W.Frag} {H : Hp} {a b : Addr} {F S U : List Int} (h : Both K H a b F S U) : S.length <= 60 := CO ((rG h.ps).length_le_of_subset h.su) h.ul
def BZ (K : PySem.W.Frag) (way : Nat) : Sp := fun vs H Q _ => ∃ (a b : Addr) (F S U : List Int), vs = [.ref a, .ref b] /\ Both K H a b F S U /\ ∀ l ks H', An H H' l way F S ks -> Q (.ref l) H'
structure May (K : PySem.W.Frag) (H : Hp) (a : Addr) (rs : List Addr) (may : List (List Int)) (U : List Int) : Prop where
 ls : SqL K H a (rs.map V.ref)
 po : PoolsL K H rs may
 up : ∀ p ∈ may, p.Pairwise (· < ·)
 sub : ∀ p ∈ may, ∀ b ∈ p, b ∈ U
 m6 : may.length <= 6
 u20 : U.length <= 26
theorem May.same {K : PySem.W.Frag} {H H' : Hp} {a : Addr} {rs : List Addr} {may : List (List Int)} {U : List Int} (m : May K H a rs may U) (s : Same H H') : May K H' a rs may U := ⟨s.seq m.ls, m.po.same s, m.up, m.sub, m.m6, m.u20⟩
theorem May.rows {K : PySem.W.Frag} {H : Hp} {a : Addr} {rs : List Addr} {may : List (List Int)} {U : List Int} (m : May K H a rs may U) {i : Nat} (h : i < may.length) : ∃ r, rs[i]? = some r /\ SqL K H r ((may.getD i []).map V.int) /\ (may.getD i []).Pairwise (· < ·) /\ ∀ b ∈ may.getD i [], b ∈ U := by
 have e : may.getD i [] = may[i] := iE h
 obtain ⟨r, e1, e2⟩ := m.po.at (Ca h)
 rw [e]
 exact ⟨r, e1, e2, m.up _ (CL h), m.sub _ (CL h)⟩
theorem qA {st : List Nat} {may : List (List Int)} {s : Nat} (h : st ≠ []) (x : Int) : x ∈ dW (st ++ [s]) may <-> x ∈ dW st may /\ x ∈ may.getD s [] := by
 rw [fS (by simp), fS h]
 constructor
 ·exact fun a => ⟨fun t ht => a t (CA _ ht), a s (by simp)⟩
 ·rintro ⟨a, b⟩ t ht
  rcases CC.mp ht with z | z
  ·exact a t z
  ·rw [Cm.mp z]; exact b
theorem tj {may : List (List Int)} {s : Nat} : dW [s] may = may.getD s [] := by
 unfold dW
 show (may.getD s []).filter _ = _
 refine CZ.mpr fun x hx => ?_
 simp only [List.all_cons, List.all_nil, Bool.and_true]
 exact decide_eq_true hx
theorem iI {st : List Int} {j : Nat} {x : V} (hx : (st.map V.int)[j]? = some x) : ∃ d : Int, st[j]? = some d /\ x = V.int d /\ st.getD j 0 = d := by
 rw [Cd] at hx
 obtain ⟨b, h1, h2⟩ := Cj.mp hx
 exact ⟨b, h1, h2.symm, by rw [Cb, h1]; rfl⟩
theorem yf {x y : Option V} {σ : St} : wN (none :: none :: σ) (x :: y :: σ) := ⟨rfl, fun i v e => by
 cases i with
 | zero => cases e
 | succ i =>
  cases i with
  | zero => cases e
  | succ i => exact e⟩
theorem vd {K : PySem.W.Frag} {H1 : Hp} {js : List (Option Nat)} {σ : L2.St} {te : TE} {Q : VK} {a b : Addr} {xs ys : List V} (P : Addr -> List V -> Hp -> Prop) (hl : xs.length = ys.length) (h1 : SqL K H1 a xs) (h2 : SqL K H1 b ys) (hn : xs.length < 100000)
  (mono : ∀ acc ys H H', P acc ys H -> SameBut acc H H' -> P acc ys H') (h0 : ∀ acc H, P acc [] H)
  (he : ∀ acc (i : Nat) x y zs H2 R, xs[i]? = some x -> ys[i]? = some y -> Same H1 H2 -> H1 acc = none -> H2 acc = some (.lst zs) -> zs.length = i -> P acc zs H2 -> (∀ v H3, Same H2 H3 -> P acc (zs ++ [v]) H3 -> R v H3) -> te (some x :: some y :: bX σ js) H2 R)
  (hQ : ∀ acc zs H', Same H1 H' -> H1 acc = none -> H' acc = some (.lst zs) -> zs.length = xs.length -> P acc zs H' -> Q (.ref acc) H') :
  cg (AN K a b) H1 (none :: none :: js) (rZ K 2 (gH (bS 0) (gH (bS 1) ue))) eI te σ Q := by
 intro acc hacc
 refine ⟨fun i m zs H => m = xs.length - i /\ i <= xs.length /\ Same H1 H /\ H acc = some (.lst zs) /\ zs.length = i /\ P acc zs H, ⟨xs.length, by simp, CK _, Same.new hacc, ab, rfl, h0 _ _⟩, ?_⟩
 rintro i m zs H ⟨rfl, hi, s1, ha, hz, hp⟩
 have w1 := s1.seq h1
 have w2 := s1.seq h2
 by_cases hlt : i < xs.length
 ·have hlt2 : i < ys.length := by omega
  refine .inr ⟨⟨xs, ys, xs[i], ys[i], w1, w2, Ca hlt, Ca hlt2⟩, fun zs' H' => i < xs.length /\ Same H1 H' /\ H' acc = some (.lst zs') /\ zs'.length = i + 1 /\ P acc zs' H', fun zs' H' ⟨z, a, b, c, d⟩ => ⟨xs.length - (i + 1), C2 _ _ hlt, rfl, hlt, a, b, c, d⟩, fun v H' y => ?_⟩
  obtain ⟨q, x, y, hq, e1, e2, e3, e4⟩ := y
  subst e3 e4
  have sq := Same.new (o := .tup [x, y]) hq
  refine ⟨q, [x, y], rfl, SqT.of ab, rfl, x, [y], rfl, y, [], rfl, rfl, yf, fun _ => ?_, fun hb => by cases hb⟩
  refine he acc i x y zs _ _ (e1 xs w1) (e2 ys w2) (s1.trans sq) hacc (sq _ _ ha) hz (mono _ _ _ _ hp sq.but) fun v H3 s3 pv => ?_
  have s13 := (s1.trans sq).trans s3
  refine ⟨s3 _ _ (sq _ _ ha), i4 (by omega), hlt, s13.put hacc, ab, by rw [Ck, Cp, hz], ?_⟩
  exact mono acc _ _ _ pv SameBut.upd
 ·have e : i = xs.length := Ds hi (Dg hlt)
  subst e
  exact .inl ⟨⟨xs, ys, w1, w2, Cg _⟩, hQ acc zs H s1 hacc ha hz hp⟩
theorem md {K : PySem.W.Frag} {H1 : Hp} {js : List (Option Nat)} {σ : L2.St} {te : TE} {Q : VK} {a b : Addr} {xs ys : List V} (f : Nat -> V) (hl : xs.length = ys.length) (h1 : SqL K H1 a xs) (h2 : SqL K H1 b ys) (hn : xs.length < 100000)
  (he : ∀ (i : Nat) x y H2 R, xs[i]? = some x -> ys[i]? = some y -> Same H1 H2 -> (∀ H3, Same H2 H3 -> R (f i) H3) -> te (some x :: some y :: bX σ js) H2 R)
  (hQ : ∀ acc H', Same H1 H' -> H1 acc = none -> H' acc = some (.lst ((Cf xs.length).map f)) -> Q (.ref acc) H') :
  cg (AN K a b) H1 (none :: none :: js) (rZ K 2 (gH (bS 0) (gH (bS 1) ue))) eI te σ Q :=
 vd (fun _ zs _ => zs = (Cf zs.length).map f) hl h1 h2 hn (fun _ _ _ _ h _ => h) (fun _ _ => rfl)
  (fun acc i x y zs H2 R ex ey s _ _ hz hp k => he i x y H2 R ex ey s fun H3 s3 => k _ H3 s3 (by
   rw [Ck, Cp, Dc, Cn, <- hp, hz]; rfl))
  fun acc zs H' s n e hz hp => hQ acc H' s n (by rw [e, <- hz, <- hp])
def hV : Option Int -> V
 | none => .non
 | some b => .int b
theorem kg {h : Option Int} : decide (hV h = V.non) = h.isNone := by cases h <;> rfl
def bW (x : Addr × Addr × Str × Int × List Nat) : oZ := x.2.2
def yg (hs : List Int) (x : Addr × Addr × Str × Int × List Nat) : Bool := kp (fun i => hs.getD i 0) x.2.2.1 x.2.2.2.1 x.2.2.2.2
def nA (may : List (List Int)) (ts : List (Addr × Addr × Str × Int × List Nat)) (hs : List Int) : Bool :=
 decide (hs.length = may.length) && ((Cf hs.length).all fun i => decide (hs.getD i 0 ∈ may.getD i [])) && ts.all (yg hs)
theorem o4 {may : List (List Int)} {ts : List (Addr × Addr × Str × Int × List Nat)} {hs : List Int} : nA may ts hs = true <-> IsPlan may (ts.map bW) hs := by
 unfold nA
 rw [C6, C6, CS, CS, decide_eq_true_iff]
 constructor
 ·rintro ⟨⟨a, b⟩, c⟩
  refine ⟨a, fun i hi => of_decide_eq_true (b i (CD.mpr hi)), fun t ht => ?_⟩
  obtain ⟨x, hx, e⟩ := Ci.mp ht
  rw [<- e]
  exact c x hx
 ·intro p
  exact ⟨⟨p.len, fun i hi => decide_eq_true (p.of i (CD.mp hi))⟩, fun x hx => p.kp _ (Ci.mpr ⟨x, hx, rfl⟩)⟩
theorem ve {α β : Type} {ts : List α} {f : α -> β} {g : Nat -> β} (h : ∀ (i : Nat) x, ts[i]? = some x -> g i = f x) : (Cf ts.length).map g = ts.map f := by
 apply Ea
 intro i
 rw [Cd, Cd]
 by_cases l : i < ts.length
 ·rw [Dj l, Ca l]
  show some (g i) = some (f ts[i])
  rw [h i _ (Ca l)]
 ·rw [CU (by simp; omega), CU (by omega)]; rfl
inductive PapAt (H : Hp) : V -> Pap -> Prop where
 | tie {t : Addr} {j : Nat} (ht : H t = some (.tup [.str "tie", .int ((j : Nat) : Int)])) : PapAt H (.ref t) (.tie j)
 | short {t l : Addr} {bs : List Nat} (ht : H t = some (.tup [.str "short", .ref l])) (hl : H l = some (.lst (bs.map fun (i : Nat) => V.int (i : Int)))) : PapAt H (.ref t) (.short bs)
 | split {t l : Addr} {vs : List V} {ps : List Pap} (ht : H t = some (.tup [.str "split", .ref l])) (hl : H l = some (.lst vs)) (hn : vs.length = ps.length) (h : ∀ (i : Nat) v q, vs[i]? = some v -> ps[i]? = some q -> PapAt H v q) : PapAt H (.ref t) (.split ps)
theorem PapAt.same {H H' : Hp} {v : V} {q : Pap} (p : PapAt H v q) (s : Same H H') : PapAt H' v q := by
 induction p with
 | tie ht => exact .tie (s _ _ ht)
 | short ht hl => exact .short (s _ _ ht) (s _ _ hl)
 | split ht hl hn h ih => exact .split (s _ _ ht) (s _ _ hl) hn fun i v q e1 e2 => ih i v q e1 e2
def nw (H H' : Hp) : Hp := fun a => match H a with
 | none => H' a
 | some _ => none
theorem jC {H H' : Hp} {a : Addr} {o : HO} (h : nw H H' a = some o) : H a = none /\ H' a = some o := by
 unfold nw at h
 cases e : H a with
 | none => rw [e] at h; exact ⟨rfl, h⟩
 | some x => rw [e] at h; cases h
theorem gX {H H' : Hp} {a : Addr} {o : HO} (h1 : H a = none) (h2 : H' a = some o) : nw H H' a = some o := by
 unfold nw
 rw [h1]; exact h2
theorem Ao {H Hc H' Hx : Hp} (s : ∀ a, Hc a = none -> H a = none) (k : ∀ a o, Hc a = none -> H' a = some o -> Hx a = some o) : Same (nw Hc H') (nw H Hx) := fun b o e => by
 obtain ⟨e1, e2⟩ := jC e
 exact gX (s b e1) (k b o e1 e2)
def yh (H H' : Hp) (t : Addr) (may : List (List Int)) (ts : List oZ) (p : List Int) : Prop :=
 (∃ (l : Addr) (hs : List Int), H' t = some (.tup [.str "plan", .ref l]) /\ H' l = some (.lst (hs.map V.int)) /\ H l = none /\ IsPlan may ts hs) \/
 ∃ (v : V) (q : Pap), H' t = some (.tup [.str "none", v]) /\ PapAt (nw H H') v q /\ Shows may ts p q
theorem me {f : Nat -> Int} {n j : Nat} {ts : List (Addr × Addr × Str × Int × List Nat)} (h : jq f n ts = some j) : ∃ x, ts[j]? = some x /\ brk f n x.2.2.1 x.2.2.2.1 x.2.2.2.2 = true := by
 unfold jq at h
 rw [DJ] at h
 obtain ⟨hj, e, _⟩ := h
 exact ⟨_, Ca hj, e⟩
theorem iJ {f : Nat -> Int} {n : Nat} {ts : List (Addr × Addr × Str × Int × List Nat)} (h : jq f n ts = none) : ∀ x ∈ ts, brk f n x.2.2.1 x.2.2.2.1 x.2.2.2.2 = false := fun x hx => by
 unfold jq at h
 rw [ED] at h
 simpa using h x hx
theorem tD {may : List (List Int)} {p : List Int} {U : List Int} (c : bU p) (hl : p.length <= may.length) (h : ∀ q ∈ may, ∀ b ∈ q, b ∈ U) : ∀ q ∈ dE may p, ∀ b ∈ q, b ∈ U := fun q hq b hb => by
 obtain ⟨i, hi, e⟩ := Cq.mp hq
 have hi2 := hi
 rw [cA] at hi2
 have g := dX (may := may) hi2
 rw [Ca hi, e] at g
 cases g
 obtain ⟨j, hj, ej⟩ := Cq.mp (c4 c hi2)
 have := (fT c hi2).mp hb j hj (by rw [aC hj, ej])
 have hj2 : j < may.length := by omega
 rw [iE hj2] at this
 exact h _ (CL hj2) b this
theorem kh {o : Option Nat} : decide (Am o = V.non) = o.isNone := by cases o <;> rfl
def vf (c : Addr) (H : Hp) : Hp := fun a => if a = c then none else H a
theorem mf {c a : Addr} {H : Hp} {o : HO} (h : vf c H a = some o) : a ≠ c /\ H a = some o := by
 unfold vf at h
 by_cases z : a = c
 ·rw [if_pos z] at h; cases h
 ·rw [if_neg z] at h; exact ⟨z, h⟩
theorem rH {c a : Addr} {H : Hp} {o : HO} (n : a ≠ c) (h : H a = some o) : vf c H a = some o := by
 unfold vf
 rw [if_neg n]; exact h
section
variable {X : Cx}
end
inductive GPap where
 | tie (j : Int)
 | short (bs : List Int)
 | split (ps : List GPap)
instance : Inhabited GPap := ⟨.tie 0⟩
theorem iK (n : Nat) : -(2 ^ 62) <= ((n : Nat) : Int) := by omega
theorem qB (c : Int) {n : Nat} (h : 0 < n) : ∃ m : Nat, m < n /\ c % ((n : Nat) : Int) = ((m : Nat) : Int) := by
 have w1 := DK c (show ((n : Nat) : Int) ≠ 0 by omega)
 have w2 := DS c (show (0 : Int) < ((n : Nat) : Int) by omega)
 exact ⟨(c % ((n : Nat) : Int)).toNat, by omega, by omega⟩
theorem Bn {α : Type} {us : List α} (hl : us.length = 1) : ∃ a, us = [a] := by
 match us, hl with
 | [a], _ => exact ⟨a, rfl⟩
theorem AO {α : Type} {us : List α} (hl : us.length = 2) : ∃ a b, us = [a, b] := by
 match us, hl with
 | [a, b], _ => exact ⟨a, b, rfl⟩
theorem B0 {α : Type} {us : List α} (hl : us.length = 3) : ∃ a b c, us = [a, b, c] := by
 match us, hl with
 | [a, b, c], _ => exact ⟨a, b, c, rfl⟩
theorem B1 {α : Type} {us : List α} (hl : us.length = 4) : ∃ a b c d, us = [a, b, c, d] := by
 match us, hl with
 | [a, b, c, d], _ => exact ⟨a, b, c, d, rfl⟩
theorem B2 {α : Type} {us : List α} (hl : us.length = 5) : ∃ a b c d e, us = [a, b, c, d, e] := by
 match us, hl with
 | [a, b, c, d, e], _ => exact ⟨a, b, c, d, e, rfl⟩
theorem i8 (ns : List Int) : ∀ k, k <= ns.length -> preSum (fun i => ns.getD i 0) k = (ns.take k).sum
 | 0, _ => by simp [preSum]
 | k + 1, h => by
  have ih := i8 ns k (by omega)
  have h2 : k < ns.length := by omega
  rw [preSum, ih, Dp, List.sum_append, Cb, Ca h2]
  simp
theorem Moved.eq_heap {wr : List Addr} {s s' : Shared} (m : Moved wr (fun a b => b = a) s s') : s' = { s with heap := s'.heap, toks := s'.toks } := by
 obtain ⟨h, g, d, t, os⟩ := s
 obtain ⟨h', g', d', t', os'⟩ := s'
 obtain ⟨_, e1, e2, e3, _⟩ := m
 simp only at e1 e2 e3
 subst e1 e2 e3
 rfl
section
variable {X : Cx}
theorem Ap (K : PySem.W.Frag) (hc : X.calm = true := by rfl) (h : X.K = K := by rfl) : cH X (.builtin "sum") (fun xs H Q => ∃ (p : Addr) (ns : List Int), xs = [.ref p] /\ SqL K H p (ns.map V.int) /\ Q (.int ns.sum) H) := by
 subst h
 intro pins s σ H xs us Q I r h
 obtain ⟨p, ns, e, hq, q⟩ := h
 subst e
 obtain ⟨u, e, rx⟩ := fg r
 subst e
 cases rx
 obtain ⟨its, rv, pl, hz⟩ := I.list hq
 have hl := rv.length
 rw [B9] at hl
 refine call_sum_walkAnyS (wpAny_pyIter_list pl.isList ?_)
 have hlt : p < s.heap.objs.size := by
  obtain ⟨o, ho, _⟩ := pl.isList
  exact Heap.lt_size ho
 have hval : ∀ (i : Nat) (v : Value), its.toArray[i]? = some v -> ∃ t, v = .int (ns.getD i 0) t := fun i v hi => by
  have hi' : its[i]? = some v := by simpa using hi
  have h2 : i < ns.length := by rw [hl]; exact (Cc.mp hi').1
  obtain ⟨u, eu, ru⟩ := rv.get (i := i) (x := .int ns[i]) (by simp [h2])
  rw [hi'] at eu
  cases eu
  obtain ⟨t, e⟩ := ru
  exact ⟨t, by rw [e]; simp [h2]⟩
 refine ⟨s.heap.objs.size, _, _, _, _, _, _, fun i => ns.getD i 0, rfl, (Walks.list (A := X.A.in1) (show X.A.in1.handled = none from I.ok.hd hc) _ p (Cy hlt) its.toArray).toS, ?_, ?_, hval, ?_⟩
 ·refine ⟨⟨_, Heap.get?_push_size _ rfl, rfl, rfl⟩, ?_⟩
  obtain ⟨o, ho, z⟩ := pl.isList
  exact ⟨o, Heap.get?_push_of_some _ ho, z⟩
 ·intro b hb
  show b < (s.heap.push _).objs.size
  rw [Heap.size_push]
  simp only [Cr, CY, or_false] at hb
  rcases hb with z | z <;> subst z
  ·exact DA _
  ·exact C8 hlt
 ·intro s' t' hm
  rw [Moved.eq_heap hm]
  have hs : its.toArray.size = ns.length := by rw [Cs]; omega
  refine ⟨.int _, H, I.kept (fun b o e => hm.heap b o ?_ (Heap.get?_push_of_some _ e)), ⟨t', rfl⟩, ?_⟩
  ·have := Heap.lt_size e
   intro z
   rw [Cm] at z
   exact absurd this (by rw [z]; exact DC _)
  ·rw [hs, i8 ns _ (Cg _), C0]
   exact q
end
def xn (K : PySem.W.Frag) (a : Addr) (n : Nat) : It :=
 ⟨fun i H => i < n /\ ∃ xs, SqL K H a xs /\ xs.length = n, fun i H x H' => H' = H /\ ∀ xs, SqL K H a xs -> xs[n - 1 - i]? = some x, fun i _ => n <= i⟩
theorem vg {P : Program} {w : World} {K : PySem.W.Frag} {tg : Expr} (a it : Addr) (n : Nat) : Turn P w K tg (xn K a n) [it] it (fun i h => i <= n /\ h.IsRevIter it a ((n : Int) - 1 - (i : Int))) where
 mem := by simp
 obj := fun i h st b hb => by
  have e : b = it := by simpa using hb
  subst e
  obtain ⟨_, o, e, c, d⟩ := st
  exact ⟨o, e, fun v z => by rw [d] at z; cases z⟩
 keep := fun i h h' st k => ⟨st.1, st.2.at fun o e => k it (by simp) o e⟩
 item := by
  intro X hP hw hK hc i pins s σ H E I hf st hg
  subst hP hw hK
  obtain ⟨hi, xs, hq, hn⟩ := hg
  obtain ⟨its, rv, p, hz⟩ := I.list hq
  have hx : xs[n - 1 - i]? = some (xs[n - 1 - i]'(by omega)) := Ca (by omega)
  obtain ⟨u, hu, ru⟩ := rv.get hx
  obtain ⟨f0, f1, f2, f3, f4, f5⟩ := hf it (by simp)
  obtain ⟨_, st⟩ := st
  have e : (n : Int) - 1 - (i : Int) = ((n - 1 - i : Nat) : Int) := by omega
  rw [e] at st
  refine wpAny_pyNext_rev_item st p.isList (x := u) (by simpa using hu) fun h' st' sb => ?_
  have e2 : ((n - 1 - i : Nat) : Int) - 1 = (n : Int) - 1 - ((i + 1 : Nat) : Int) := by omega
  rw [e2] at st'
  have I1 : Inv X pins σ H { s with heap := h' } := I.turned (t' := s.toks) (fun b o hb e => (sb.2 b hb).trans e) f0 f1 f3 f4 f5
  obtain ⟨o, e, c, d⟩ := id st'
  exact ⟨u, rfl, lI (s := { s with heap := h' }) e c d (by decide) ⟨_, H, I1, ru, ⟨rfl, fun ys hy => by rw [I.list_inj hy hq]; exact hx⟩, ⟨hi, st'⟩, fun b hb => (hf b hb).1⟩⟩
 done := by
  intro X hP hw hK hc i pins s σ H E I hf st hg
  subst hP hw hK
  obtain ⟨f0, f1, f2, f3, f4, f5⟩ := hf it (by simp)
  obtain ⟨hi, st⟩ := st
  have hg : n <= i := hg
  have e : (n : Int) - 1 - (i : Int) = -1 := by omega
  rw [e] at st
  exact wpAny_pyNext_rev_end (I.ok.hd hc) st fun h' eb => ⟨rfl, I.turned (t' := s.toks) (fun b o hb e => eb b o hb e) f0 f1 f3 f4 f5⟩
 self := fun _ _ _ _ _ st h => wpAny_pyIter_revIter st.2 h
section
variable {X : Cx}
def Bo (K : PySem.W.Frag) (ta : TA) : TI := fun σ H R => ta σ H fun vs H1 => ∃ a xs, vs = [.ref a] /\ SqL K H1 a xs /\ R (xn K a xs.length) H1
theorem y6 {a tg : Expr} {ta : TA} {p pos : Pos} (K : PySem.W.Frag) (hg : Gl X "reversed") (hm : X.mg "reversed" = none) (ha : PA X [a] ta) (hK : X.K = K := by rfl) (hs : starEach [a] X.env = [(false, eval a X.env)] := by rfl) :
  PI X tg (.Call (.Name "reversed" p) [a] [] pos) (Bo K ta) := by
 subst hK
 intro pins s σ H R I h
 refine Call_ (e8 I hg hm boot_reversed (PyProof.Rows.callWith_type1 (bC (ha pos pins s σ H _ I h) fun us s1 ⟨vs, H1, I1, r1, q1⟩ => ?_) (by rw [hs]; rfl) (by rfl)))
 obtain ⟨l1, xs, e, hq1, q⟩ := q1
 subst e
 cases r1 with
 | cons r rr =>
  cases rr
  cases r
  obtain ⟨its1, rv1, p1, _⟩ := I1.list hq1
  have hl := rv1.length
  refine call_reversed_list p1.isList ?_
  have hit : (s1.heap.push (revObj l1 ((its1.toArray.size : Int) - 1))).IsRevIter s1.heap.objs.size l1 ((its1.toArray.size : Int) - 1) := ⟨_, Heap.get?_push_size _ rfl, rfl, rfl⟩
  refine wpAny_pyIter_revIter hit ?_
  have I2 : Inv X pins σ H1 { s1 with heap := s1.heap.push (revObj l1 ((its1.toArray.size : Int) - 1)) } := I1.kept (t' := s1.toks) fun b o e => Heap.get?_push_of_some _ e
  refine ⟨_, [s1.heap.objs.size], _, _, H1, rfl, I2, vg l1 _ xs.length, ⟨CK _, ?_⟩, fun b hb => ?_, q⟩
  ·have e : (xs.length : Int) - 1 - ((0 : Nat) : Int) = (its1.toArray.size : Int) - 1 := by rw [Cs]; omega
   rw [e]; exact hit
  ·have e : b = s1.heap.objs.size := by simpa using hb
   subst e
   exact I1.fpOk (Cg _) (I1.hok.fresh (Cg _))
end
theorem nB : typeLookup (.type "list") "keys" = pure none := by rw [typeLookup_type, builtinLookup_eq_fast]; kernel_rfl
theorem o5 : typeLookup (.type "list") "__getattr__" = pure none := by rw [typeLookup_type, builtinLookup_eq_fast]; kernel_rfl
section
variable {prog : Program} {w : World} {A : Around} {E : Value -> Shared -> Prop} {h : Heap} {g : Array GenState} {d : PySem.Drawn} {t : Nat} {os : OsState} {a : Addr} {o : Obj}
theorem jt {tk : Tok} {its : Array Value} {n : Nat} {sl : Array (Option Value)} {Q : Fin -> Shared -> Prop} (hh : A.handled = none) (hx : h.get? a = some { cls := .type "list", dict := none, data := .seq its n, slots := sl })
   (hq : ∀ h' tk e, Heap.NewAttrErr h h' e (.ref a) "keys" -> E (.ref e) ⟨h', g, d, tk, os⟩) :
    wpAny (model prog w) A (Builtin.«object.__getattribute__» ⟨[.ref a, .str "keys" tk], []⟩) Q E ⟨h, g, d, t, os⟩ := by
  have hT : (⟨h, g, d, t, os⟩ : Shared).TypeIs (.ref a) "list" := ⟨_, hx, rfl⟩
  have f4 := nB
  repeat (any_goals (first | assumption | wp_step))
  exact wpAny_raiseAttrError hh hq (attrMsg_fits (by decide +kernel) (by size_fits))
theorem ki {its : Array Value} {n : Nat} {sl : Array (Option Value)} {Q : Option Value -> Shared -> Prop} (hh : A.handled = none) (hx : h.get? a = some { cls := .type "list", dict := none, data := .seq its n, slots := sl })
   (hq : ∀ h' tk, (∀ b o, h.get? b = some o -> h'.get? b = some o) -> Q none ⟨h', g, d, tk, os⟩) :
    wpAny (model prog w) A (getAttr? (.ref a) "keys") Q E ⟨h, g, d, t, os⟩ := by
  have hT : ∀ t, (⟨h, g, d, t, os⟩ : Shared).TypeIs (.ref a) "list" := fun _ => ⟨_, hx, rfl⟩
  have f1 := sub_AttributeError
  have f2 := F.slot_list_getattribute.lookup
  have f3 := F.slot_list_getattribute.bind (.ref a)
  have f5 := o5
  unfold getAttr? getAttrBy? getAttrBy
  repeat (any_goals (first | assumption | apply hT | wp_step))
  refine codeAny_call_builtin F.slot_list_getattribute.plain F.entry_list_ga (F.slot_list_getattribute.check _ _ _ _ _ _ _ _ (hT _) (F.args_list_getattribute_2 _ _) (jt hh hx fun h' tk' e ne => ?_))
  obtain ⟨t', u', he⟩ := ne.there
  show wpAny _ _ (getattributeRaised _ _ _ _ _ _ _) _ _ _
  unfold getattributeRaised
  repeat (any_goals (first | assumption | wp_step))
  exact hq _ _ ne.keeps
end
theorem eV : entryFor table "dict.update.loop" = some Builtin.«dict.update.loop» := entryFor_of_tree (by kernel_rfl)
theorem cq : plainId "dict.update.loop" = true := by decide +kernel
theorem nC {α : Type} [DecidableEq α] {vs : List (α × Value)} {k : α} {v : Value} (h : ∀ q ∈ vs, q.1 ≠ k) : stored vs k v = vs ++ [(k, v)] := by
 unfold stored
 rw [if_neg]
 intro z
 obtain ⟨q, hq, e⟩ := Es.mp z
 exact h q hq (of_decide_eq_true e)
theorem qC {α : Type} {vs : List (α × Value)} (nd : (vs.map (·.1)).Nodup) {i : Nat} {k : α} {v : Value} (h : vs[i]? = some (k, v)) : ∀ q ∈ vs.take i, q.1 ≠ k := by
 intro q hq e
 obtain ⟨j, ej⟩ := Dr.mp hq
 have hj := (Cc.mp ej).1
 rw [CW] at hj
 have hji : j < i := by omega
 rw [List.getElem?_take_of_lt hji] at ej
 have hi := (Cc.mp h).1
 have e1 : (vs.map (·.1))[j]? = some k := by rw [Cd, ej]; simp [e]
 have e2 : (vs.map (·.1))[i]? = some k := by rw [Cd, h]; rfl
 obtain ⟨l1, x1⟩ := Cc.mp e1
 obtain ⟨l2, x2⟩ := Cc.mp e2
 exact De.mp nd j i l1 l2 hji (x1.trans x2.symm)
section
variable {P : Program} {w : World} {A : Around} {R : Result -> Shared -> Prop} {p d I : Addr} {its : List Value} {vs : List (bw × Value)} {h0 : Heap}
theorem tE (hh : A.handled = none) (hp : h0.IsList p its.toArray) (hd : h0.objs.size <= d) (hI : h0.objs.size <= I) (hne : d ≠ I) (nd : (vs.map (·.1)).Nodup) (hz : vs.length <= sizeLine) (hl : its.length = vs.length)
  (hat : ∀ (i : Nat) u, its[i]? = some u -> ∃ a k key v, u = .ref a /\ h0.IsTuple a #[key, v] /\ (aH P w).is k key = true /\ vs[i]? = some (k, v)) :
  ∀ (m i : Nat) (s : Shared), vs.length - i = m -> i <= vs.length -> (∀ b o, h0.get? b = some o -> s.heap.get? b = some o) -> s.heap.IsListIter I p i -> s.heap.DictOf (aH P w) d (vs.take i) ->
  (∀ h' tk, (∀ b o, h0.get? b = some o -> h'.get? b = some o) -> h'.DictOf (aH P w) d vs -> R (.ok (.ret .none)) { s with heap := h', toks := tk }) ->
  codeAny (model P w) A (.builtin "dict.update.loop" ⟨[.ref d, .ref I, rawInt (i : Int), .none], []⟩) R s := by
 have lp : p < h0.objs.size := let ⟨_, e, _⟩ := hp; Heap.lt_size e
 intro m
 induction m with
 | zero =>
  intro i s hm hi kp it dk hR
  have hin : i = vs.length := by omega
  subst hin
  refine codeAny_builtin eV ?_
  rw [Around.under_plainId cq _]
  show wpAny _ A.in1 (pyNext (.ref I) >>= _) _ _ s
  have hp' : s.heap.IsList p its.toArray := let ⟨o, e, r⟩ := hp; ⟨o, kp _ _ e, r⟩
  refine wpAny_bind (wpAny_pyNext_list_end (show A.in1.handled = none from hh) it hp' (by simp [hl]) fun h' eb => ?_)
  show wpAny _ A.in1 (Builtin.Dict.addKeywords d [] >>= fun _ => ret Value.none) _ _ _
  refine wpAny_bind (wpAny_pure (wpAny_pure ?_))
  refine hR h' s.toks (fun b o e => eb b o (fun z => ?_) (kp b o e)) ?_
  ·have := Heap.lt_size e
   rw [z] at this
   exact absurd this (El.mpr hI)
  ·rw [C0] at dk
   exact dk.at fun o e => eb d o hne e
 | succ m ih =>
  intro i s hm hi kp it dk hR
  have hlt : i < vs.length := by omega
  have hx : its[i]? = some (its[i]'(by omega)) := Ca (by omega)
  obtain ⟨a, k, key, v, eu, ht, hk, hv⟩ := hat i _ hx
  rw [eu] at hx
  refine codeAny_builtin eV ?_
  rw [Around.under_plainId cq _]
  show wpAny _ A.in1 (pyNext (.ref I) >>= _) _ _ s
  have hp' : s.heap.IsList p its.toArray := let ⟨o, e, r⟩ := hp; ⟨o, kp _ _ e, r⟩
  refine wpAny_bind (wpAny_pyNext_list_item it hp' (x := .ref a) (by simpa using hx) fun h' it' sb => ?_)
  obtain ⟨ot, eot, ct, nt, dt⟩ := ht
  have la : a ≠ I := fun z => by
   have := Heap.lt_size eot
   rw [z] at this
   exact absurd this (El.mpr hI)
  have eot' : h'.get? a = some ot := (sb.2 a la).trans (kp _ _ eot)
  refine wpAny_bind (wpAny_holding ?_)
  refine wpAny_bind (wpAny_tryCatch ?_)
  unfold Builtin.Dict.pairItems
  refine wpAny_bind (wpAny_typeOf (T := "tuple") ⟨ot, eot', ct⟩ ?_)
  rw [if_pos (by decide)]
  refine wpAny_bind (wpAny_seqItems (s := { s with heap := h' }) eot' dt (wpAny_pure ?_))
  show wpAny _ A.in1 (holding [key, v] (dictSet d key v)) _ _ _
  refine wpAny_holding ?_
  have dk' : h'.DictOf (aH P w) d (vs.take i) := dk.at fun o e => (sb.2 d hne).trans e
  refine wpAny_dictSet_pairs (s := { s with heap := h' }) hk dk' (fun h2 dk2 sb2 => ?_) (by rw [CW]; omega)
  rw [nC (qC nd hv)] at dk2
  have et : vs.take i ++ [(k, v)] = vs.take (i + 1) := by rw [Dp, hv]; rfl
  rw [et] at dk2
  refine wpAny_pure ⟨plainId_quiet cq _, ?_⟩
  refine ih (i + 1) _ (by omega) hlt (fun b o e => ?_) (it'.at fun o e => (sb2.2 I (Ne.symm hne)).trans e) dk2 fun h3 tk kp3 dk3 => hR h3 tk kp3 dk3
  have lb := Heap.lt_size e
  exact (sb2.2 b (fun z => by rw [z] at lb; exact absurd lb (El.mpr hd))).trans ((sb.2 b (fun z => by rw [z] at lb; exact absurd lb (El.mpr hI))).trans (kp b o e))
end
section
variable {X : Cx}
theorem vh (K : PySem.W.Frag) (hc : X.calm = true := by rfl) (hK : X.K = K := by rfl) : cH X (.type "dict") (fun xs H Q => ∃ (p : Addr) (ps : List Addr) (kvs : List (bw × V)), xs = [.ref p] /\ SqL K H p (ps.map V.ref) /\ ps.length = kvs.length /\ (kvs.map (·.1)).Nodup /\
  (∀ (i : Nat) a, ps[i]? = some a -> ∃ k v, kvs[i]? = some (k, v) /\ SqT K H a [kV k, v]) /\ ∀ l, H l = none -> Q (.ref l) (az H l (.dK kvs))) := by
 subst hK
 intro pins s σ H xs us Q I r h
 obtain ⟨p, ps, kvs, e, hq, hn, nd, hat, q⟩ := h
 subst e
 obtain ⟨u, e, rx⟩ := fg r
 subst e
 cases rx
 obtain ⟨its, rv, pl, hz⟩ := I.list hq
 have hl := rv.length
 rw [B9] at hl hz
 have hnd : X.A.handled = none := I.ok.hd hc
 have raw : ∃ vs : List (bw × Value), KV kvs vs /\ ∀ (i : Nat) u, its[i]? = some u -> ∃ a k key v, u = .ref a /\ s.heap.IsTuple a #[key, v] /\ (aH X.prog X.w).is k key = true /\ vs[i]? = some (k, v) := by
  have key : ∀ (kvs : List (bw × V)) (ps : List Addr), ps.length = kvs.length -> (∀ (i : Nat) a, ps[i]? = some a -> ∃ k v, kvs[i]? = some (k, v) /\ SqT X.K H a [kV k, v]) ->
    ∃ vs : List (bw × Value), KV kvs vs /\ ∀ (i : Nat) a, ps[i]? = some a -> ∃ k key v, s.heap.IsTuple a #[key, v] /\ (aH X.prog X.w).is k key = true /\ vs[i]? = some (k, v) := by
   intro kvs
   induction kvs with
   | nil =>
    intro ps hn _
    exact ⟨[], .nil, fun i a z => by rw [Dm.mp hn] at z; cases z⟩
   | cons kv kvs ih =>
    intro ps hn hat
    obtain ⟨a, ps, rfl⟩ : ∃ a qs, ps = a :: qs := by
     cases ps with
     | nil => simp at hn
     | cons a qs => exact ⟨a, qs, rfl⟩
    obtain ⟨k, v, e, ht⟩ := hat 0 a rfl
    cases e
    obtain ⟨vs, rel, hr⟩ := ih ps (by simpa using hn) fun i b hb => hat (i + 1) b hb
    obtain ⟨its, rv, pt, _⟩ := I.tuple ht
    obtain ⟨u1, u2, rfl, r1, r2⟩ := ug rv
    refine ⟨(k, u2) :: vs, .cons ⟨rfl, r2⟩ rel, fun i b hb => ?_⟩
    cases i with
    | zero => cases hb; exact ⟨k, u1, u2, pt, iZ r1, rfl⟩
    | succ i => exact hr i b hb
  obtain ⟨vs, rel, hr⟩ := key kvs ps hn hat
  refine ⟨vs, rel, fun i u hu => ?_⟩
  have hi : i < ps.length := by rw [hl]; exact (Cc.mp hu).1
  obtain ⟨u', eu, ru⟩ := rv.get (i := i) (x := .ref ps[i]) (by simp [hi])
  rw [hu] at eu
  cases eu
  cases (show u = Value.ref ps[i] from ru)
  obtain ⟨k, key, v, a1, a2, a3⟩ := hr i ps[i] (Ca hi)
  exact ⟨_, k, key, v, rfl, a1, a2, a3⟩
 obtain ⟨vs, rel, hraw⟩ := raw
 have lv : kvs.length = vs.length := rel.length
 have ek : kvs.map (·.1) = vs.map (·.1) := by
  clear hraw hat lv nd hn q
  induction rel with
  | nil => rfl
  | cons h _ ih => rw [Co, Co, ih, h.1]
 refine callType_codes (Q₁ := fun obj s₁ => obj = .ref s.heap.objs.size /\ s₁ = { s with heap := s.heap.push { cls := .type "dict", data := .dict #[] } }) F.kt_called_dict (F.kt_typeCall_dict_1 _) F.entry_dict_init (kt_code_dict_new _ ⟨rfl, rfl⟩) ?_
 rintro obj s₁ ⟨rfl, rfl⟩
 have hnew : (s.heap.push { cls := .type "dict", data := .dict #[] }).DictOf (aH X.prog X.w) s.heap.objs.size [] := Heap.DictOf.new s.heap
 refine ⟨hnew.typeIs, F.args_dict_init_2 _ _, ?_⟩
 unfold Builtin.«dict.__init__»
 refine wpAny_bind ?_
 unfold Builtin.Dict.selfAndRest
 refine wpAny_bind (wpAny_notOrdered_dict hnew.typeIs ?_)
 show wpAny _ _ (pure (s.heap.objs.size, [Value.ref p])) _ _ _
 refine wpAny_pure ?_
 show wpAny _ _ (Builtin.Dict.updateFrom "dict.__init__" s.heap.objs.size (.ref p) [] .none) _ _ _
 unfold Builtin.Dict.updateFrom
 obtain ⟨o, n, ho, c1, c2, c3⟩ := pl
 have ho' : (s.heap.push { cls := .type "dict", data := .dict #[] }).get? p = some o := Heap.get?_push_of_some _ ho
 refine wpAny_bind (wpAny_typeOf (T := "list") ⟨o, ho', c1⟩ ?_)
 rw [if_pos (by decide)]
 obtain ⟨oc, od, oda, osl⟩ := o
 simp only at c1 c2 c3
 subst c1 c2 c3
 refine wpAny_bind (ki hnd ho' fun h2 tk kp2 => ?_)
 have hlst : h2.IsList p its.toArray := ⟨_, kp2 _ _ ho', rfl, n, rfl⟩
 show wpAny _ _ (rule _ >>= _) _ _ _
 refine wpAny_bind (wpAny_rule ?_)
 refine wpAny_bind (wpAny_pyIter_list (s := { s with heap := h2, toks := tk }) hlst ?_)
 refine wpAny_pure ⟨plainId_quiet cq _, ?_⟩
 have lt : s.heap.objs.size < h2.objs.size := by
  have := Heap.lt_size (kp2 s.heap.objs.size _ (Heap.get?_push_size _ rfl))
  exact this
 refine tE (P := X.prog) (w := X.w) (h0 := s.heap) (vs := vs) (its := its) (A := X.A.in1) (show X.A.in1.handled = none from hnd) ⟨_, ho, rfl, n, rfl⟩ (Cg _) (Da lt) (Cy lt) (by rw [<- ek]; exact nd) (by omega) (by omega) hraw _ 0 _ rfl (CK _) (fun b o e => ?_) ?_ ?_ fun h' tk' kp' dk' => ?_
 ·exact Heap.get?_push_of_some _ (kp2 _ _ (Heap.get?_push_of_some _ e))
 ·exact ⟨_, Heap.get?_push_size _ rfl, rfl, rfl⟩
 ·rw [DD]
  exact hnew.at fun o e => Heap.get?_push_of_some _ (kp2 _ _ e)
 ·refine ⟨rfl, .ref s.heap.objs.size, _, I.laid (t' := tk') kp' (Cg _) (qe (by omega) (beq_false_of_ne (Eo I.big)) rel dk'), rfl, q _ (I.hok.fresh (Cg _))⟩
end
def b7 (H : Hp) (a : Addr) (x : Int × Int) : Prop := H a = some (.tup [.int x.1, .int x.2])
def TupsL (H : Hp) (ps : List Addr) (row : List (Int × Int)) : Prop := Paired (b7 H) ps row
def RowAt (H : Hp) (r : Addr) (row : List (Int × Int)) : Prop := ∃ ps : List Addr, H r = some (.lst (ps.map V.ref)) /\ TupsL H ps row
def BillL (H : Hp) (rs : List Addr) (rows : List (List (Int × Int))) : Prop := Paired (RowAt H) rs rows
theorem b4 {α β : Type} {F : α -> β -> Prop} {l : List α} {r : List β} {i : Nat} {a : α} (h : Paired F l r) (e : l[i]? = some a) : ∃ b, r[i]? = some b /\ F a b := by
 induction h generalizing i with
 | nil => cases e
 | cons x t ih =>
  cases i with
  | zero => cases e; exact ⟨_, rfl, x⟩
  | succ i => exact ih e
theorem TupsL.same {H H' : Hp} {ps : List Addr} {row : List (Int × Int)} (h : TupsL H ps row) (s : Same H H') : TupsL H' ps row := Paired.mapP h fun _ _ q => s _ _ q
theorem TupsL.len {H : Hp} {ps : List Addr} {row : List (Int × Int)} (h : TupsL H ps row) : ps.length = row.length := Paired.length h
theorem RowAt.same {H H' : Hp} {r : Addr} {row : List (Int × Int)} (h : RowAt H r row) (s : Same H H') : RowAt H' r row := let ⟨ps, a, b⟩ := h; ⟨ps, s _ _ a, b.same s⟩
theorem BillL.same {H H' : Hp} {rs : List Addr} {rows : List (List (Int × Int))} (h : BillL H rs rows) (s : Same H H') : BillL H' rs rows := Paired.mapP h fun _ _ q => q.same s
theorem BillL.len {H : Hp} {rs : List Addr} {rows : List (List (Int × Int))} (h : BillL H rs rows) : rs.length = rows.length := Paired.length h
theorem BillL.at {H : Hp} {rs : List Addr} {rows : List (List (Int × Int))} (h : BillL H rs rows) {i : Nat} {row : List (Int × Int)} (e : rows[i]? = some row) : ∃ r, rs[i]? = some r /\ RowAt H r row := cj h e
theorem BillL.get {H : Hp} {rs : List Addr} {rows : List (List (Int × Int))} (h : BillL H rs rows) {i : Nat} {r : Addr} (e : rs[i]? = some r) : ∃ row, rows[i]? = some row /\ RowAt H r row := b4 h e
theorem kj {K : PySem.W.Frag} {H1 : Hp} {js : List (Option Nat)} {σ : L2.St} {tc : TT} {te : TE} {Q : VK} {r : Addr} {ps : List Addr} {row : List (Int × Int)} (p : Nat -> Bool) (P : Addr -> Nat -> V -> Hp -> Prop)
  (hr : SqL K H1 r (ps.map V.ref)) (ht : TupsL H1 ps row) (hn : row.length < 100000)
  (mono : ∀ acc i v H H', P acc i v H -> SameBut acc H H' -> P acc i v H')
  (hc : ∀ (i : Nat) x, row[i]? = some x -> ∀ H2 R, Same H1 H2 -> (∀ H3, Same H2 H3 -> R (p i) H3) -> tc (some (.int x.1) :: some (.int x.2) :: bX σ js) H2 R)
  (he : ∀ acc (i : Nat) x, row[i]? = some x -> p i = true -> ∀ H2 R, Same H1 H2 -> H1 acc = none -> H2 acc ≠ none -> (∀ v H3, Same H2 H3 -> P acc i v H3 -> R v H3) -> te (some (.int x.1) :: some (.int x.2) :: bX σ js) H2 R)
  (hQ : ∀ acc vs H', Same H1 H' -> H1 acc = none -> H' acc = some (.lst vs) -> Paired (fun i v => P acc i v H') ((Cf row.length).filter p) vs -> Q (.ref acc) H') :
  cg (ou K r) H1 (none :: none :: js) (rZ K 2 (gH (bS 0) (gH (bS 1) ue))) tc te σ Q := by
 have hl := ht.len
 intro acc hacc
 refine ⟨fun i m ys H => m = row.length - i /\ i <= row.length /\ Same H1 H /\ H acc = some (.lst ys) /\ Paired (fun k v => P acc k v H) ((Cf i).filter p) ys, ⟨row.length, by simp, CK _, Same.new hacc, ab, .nil⟩, ?_⟩
 rintro i m ys H ⟨rfl, hi, s1, ha, hp⟩
 by_cases hlt : i < row.length
 ·have hps : i < ps.length := by omega
  have ex : row[i]? = some row[i] := Ca hlt
  refine .inr ⟨⟨_, .ref ps[i], s1.seq hr, by simp [hps]⟩, fun ys' H' => i < row.length /\ Same H1 H' /\ H' acc = some (.lst ys') /\ Paired (fun k v => P acc k v H') ((Cf (i + 1)).filter p) ys', fun ys' H' ⟨z, a, b, c⟩ => ⟨row.length - (i + 1), C2 _ _ hlt, rfl, hlt, a, b, c⟩, fun x H' y => ?_⟩
  obtain ⟨rfl, y⟩ := y
  have y := y _ (s1.seq hr)
  rw [Cd] at y
  obtain ⟨a, ea, rfl⟩ := Cj.mp y
  obtain ⟨x', ex', ft⟩ := b4 ht ea
  rw [ex] at ex'
  cases ex'
  refine ⟨a, _, rfl, SqT.of (s1 _ _ ft), rfl, _, _, rfl, _, _, rfl, rfl, yf, hc i _ ex _ _ s1 fun H2 s2 => ⟨fun hb => ?_, fun hb => ?_⟩⟩
  ·have ha2 := s2 _ _ ha
   refine he acc i _ ex hb _ _ (s1.trans s2) hacc (by rw [ha2]; simp) fun v H3 s3 pv => ?_
   have hlen : ys.length <= i := by
    rw [<- Paired.length hp]
    exact CO (CT _ _) (by simp)
   refine ⟨s3 _ _ ha2, i4 (by omega), hlt, ((s1.trans s2).trans s3).put hacc, ab, ?_⟩
   rw [Dc, C9]
   have e : Et p [i] = [i] := by simp [hb]
   rw [e]
   refine Paired.snoc (Paired.mapP hp fun k v q => ?_) ?_
   ·exact mono acc k v _ _ (mono acc k v _ _ q (s2.trans s3).but) SameBut.upd
   ·exact mono acc i v _ _ pv SameBut.upd
  ·refine ⟨hlt, s1.trans s2, s2 _ _ ha, ?_⟩
   rw [Dc, C9]
   have e : Et p [i] = [] := by simp [hb]
   rw [e, Dv]
   exact Paired.mapP hp fun k v q => mono acc k v _ _ q s2.but
 ·have e : i = row.length := by omega
  subst e
  exact .inl ⟨⟨_, s1.seq hr, by rw [B9]; omega⟩, hQ acc ys H s1 hacc ha hp⟩
theorem jD {α β : Type} {f : Nat -> β} {g : α -> β} {l : List α} (h : ∀ (i : Nat) x, l[i]? = some x -> f i = g x) : (Cf l.length).map f = l.map g := by
 apply DB
 ·simp
 ·intro i h1 h2
  simp only [C7, DR]
  exact h i _ (Ca (by simpa using h2))
theorem i9 {K : PySem.W.Frag} {H1 : Hp} {js : List (Option Nat)} {σ : L2.St} {te : TE} {Q : VK} {r : Addr} {row : List (Int × Int)} (f : Int × Int -> V)
  (hr : RowAt H1 r row) (hn : row.length < 100000)
  (he : ∀ (i : Nat) x, row[i]? = some x -> ∀ H2 R, Same H1 H2 -> (∀ H3, Same H2 H3 -> R (f x) H3) -> te (some (.int x.1) :: some (.int x.2) :: bX σ js) H2 R)
  (hQ : ∀ acc H', Same H1 H' -> H1 acc = none -> H' acc = some (.lst (row.map f)) -> Q (.ref acc) H') :
  cg (ou K r) H1 (none :: none :: js) (rZ K 2 (gH (bS 0) (gH (bS 1) ue))) eI te σ Q := by
 obtain ⟨ps, h1, h2⟩ := hr
 refine kj (ps := ps) (row := row) (fun _ => true) (fun _ i v _ => v = f (row.getD i (0, 0))) (SqL.of h1) h2 hn (fun _ _ _ _ _ h _ => h) (fun _ _ _ _ _ _ k => k _ (Same.refl _)) (fun acc i x ex _ H2 R s _ _ k => he i x ex H2 R s fun H3 s3 => k _ H3 s3 ?_) fun acc vs H' s n e p => ?_
 ·rw [Cb, ex]; rfl
 ·refine hQ acc H' s n ?_
  rw [e, cw p, CZ.mpr (fun _ _ => rfl)]
  rw [jD (g := f) fun i x hx => by rw [Cb, hx]; rfl]
def og (row : List (Int × Int)) : List (bw × V) := row.map fun x => (Sum.inl x.1, V.int x.2)
def aK (row : List (Int × Int)) (b : Int) : Option Int := (row.find? fun x => x.1 == b).map (·.2)
theorem qD {row : List (Int × Int)} (h : (row.map (·.1)).Nodup) : ((og row).map (·.1)).Nodup := by
 unfold og
 rw [CB]
 have e : row.map ((fun x : bw × V => x.1) ∘ fun x : Int × Int => ((Sum.inl x.1 : bw), V.int x.2)) = (row.map (·.1)).map (Sum.inl : Int -> bw) := by rw [CB]; rfl
 rw [e]
 exact List.Pairwise.map _ (fun a b n z => n (by injection z)) h
theorem fk (b : Int) : ∀ row : List (Int × Int), a8 (og row) (Sum.inl b) = (aK row b).map V.int
 | [] => rfl
 | x :: row => by
  have ih := fk b row
  unfold og aK a8 at *
  rw [Co, C1, C1]
  by_cases z : x.1 = b
  ·have z1 : (x.1 == b) = true := by simpa using z
   have z2 : decide ((Sum.inl x.1 : bw) = Sum.inl b) = true := by rw [z]; simp
   simp only [z1, z2, DG]
  ·have z1 : (x.1 == b) = false := by simpa using z
   have z2 : decide ((Sum.inl x.1 : bw) = Sum.inl b) = false := decide_eq_false fun y => z (by injection y)
   simp only [z1, z2]
   exact ih
theorem TupsL.kv {K : PySem.W.Frag} {H : Hp} {ps : List Addr} {row : List (Int × Int)} (h : TupsL H ps row) (i : Nat) (a : Addr) (e : ps[i]? = some a) : ∃ k v, (og row)[i]? = some (k, v) /\ SqT K H a [kV k, v] := by
 obtain ⟨x, hx, t⟩ := b4 h e
 exact ⟨Sum.inl x.1, V.int x.2, by unfold og; rw [Cd, hx]; rfl, SqT.of t⟩
theorem dY {row : List (Int × Int)} (nd : (row.map (·.1)).Nodup) {x : Int × Int} (h : x ∈ row) : aK row x.1 = some x.2 := by
 induction row with
 | nil => cases h
 | cons y row ih =>
  rw [Co, C5] at nd
  unfold aK
  rw [C1]
  rcases Cr.mp h with e | h
  ·subst e; simp
  ·have z : (y.1 == x.1) = false := by
    refine beq_false_of_ne fun e => nd.1 ?_
    rw [e]
    exact Ci.mpr ⟨x, h, rfl⟩
   rw [z]
   exact ih nd.2 h
theorem dZ {row : List (Int × Int)} {b c : Int} (h : aK row b = some c) : (b, c) ∈ row := by
 unfold aK at h
 obtain ⟨x, hx, e⟩ := Cj.mp h
 have e1 := List.find?_some hx
 have e2 := List.mem_of_find?_eq_some hx
 have e3 : x.1 = b := by simpa using e1
 rw [<- e3, <- e]
 exact e2
theorem cB {row : List (Int × Int)} {b : Int} : aK row b = none <-> b ∉ row.map (·.1) := by
 unfold aK
 rw [Option.map_eq_none_iff, List.find?_eq_none]
 constructor
 ·intro h z
  obtain ⟨x, hx, e⟩ := Ci.mp z
  exact h x hx (by simp [e])
 ·intro h x hx z
  exact h (Ci.mpr ⟨x, hx, by simpa using z⟩)
theorem gY {n j : Nat} (h : j < n) : v7 n (j : Int) = some j := by
 unfold v7
 rw [if_pos (by omega), if_pos (by omega), CV]
theorem gZ (L : List Int) (c : Int) {n : Nat} (e : L.length = n) (h : 0 < n) : ∃ d, lM (L.map V.int) (c % (n : Int)) = some (.int d) /\ d ∈ L := by
 obtain ⟨m, hm, em⟩ := qB c h
 rw [em]
 have hl : m < L.length := by omega
 exact ⟨L[m], aX (by simp [hl]), CL hl⟩
theorem vi {K : PySem.W.Frag} {H1 : Hp} {js : List (Option Nat)} {σ : L2.St} {te : TE} {Q : VK} {a : Addr} {ns : List Int} (f : Int -> V) (hl : SqL K H1 a (ns.map V.int)) (hn : ns.length < 100000)
  (he : ∀ (i : Nat) x, ns[i]? = some x -> ∀ H2 R, Same H1 H2 -> (∀ H3, Same H2 H3 -> R (f x) H3) -> te (some (.int x) :: bX σ js) H2 R)
  (hQ : ∀ acc H', Same H1 H' -> H1 acc = none -> H' acc = some (.lst (ns.reverse.map f)) -> Q (.ref acc) H') : cg (xn K a (ns.map V.int).length) H1 (none :: js) (bS 0) eI te σ Q := by
 have ln : (ns.map V.int).length = ns.length := B9 ..
 rw [ln]
 refine c8 (J := xn K a ns.length) (H1 := H1) (js := js) (σ := σ) (tc := eI) (te := te) (Q := Q) ns.length (fun i => .int (ns.getD (ns.length - 1 - i) 0)) (fun _ => true) (fun _ i v _ => v = f (ns.getD (ns.length - 1 - i) 0)) hn (fun _ _ _ _ _ h _ => h)
  (fun i H h s => ⟨h, _, s.seq hl, ln⟩) (fun H s => Cg _)
  (fun i H x H' h s y => ⟨y.1, ?_⟩)
  (fun i h H2 R s k => k _ (Same.refl _)) (fun acc i h hp H2 R s n1 n2 k => ?_)
  fun acc vs H' s n' e p => hQ acc H' s n' ?_
 ·have e := y.2 _ (s.seq hl)
  rw [Cd] at e
  obtain ⟨z, hz, rfl⟩ := Cj.mp e
  rw [Cb, hz]; rfl
 ·have hx : ns[ns.length - 1 - i]? = some (ns.getD (ns.length - 1 - i) 0) := by rw [Cb, Ca (by omega)]; rfl
  exact he _ _ hx H2 R s fun H3 s3 => k _ H3 s3 rfl
 ·rw [e, cw p, CZ.mpr (fun _ _ => rfl)]
  congr 2
  apply DB
  ·simp
  ·intro i h1 h2
   simp only [B9, CP] at h1
   simp only [C7, DR, List.getElem_reverse]
   rw [Cb, Ca (by omega)]; rfl
theorem y8 {ns : List Int} (c : Int) (h : ns.Pairwise (· < ·)) : ((ns.reverse.map fun x => c - x) : List Int).Pairwise (· < ·) := by
 refine List.Pairwise.map _ (fun a b (z : b < a) => by show c - a < c - b; omega) ?_
 exact List.pairwise_reverse.mpr h
structure RowOk (bs : List Int) (tp : Int) (row : List (Int × Int)) : Prop where
 up : (row.map (·.1)).Pairwise (· < ·)
 inn : ∀ x ∈ row, x.1 ∈ bs /\ 0 <= x.2 /\ x.2 < tp
 len : row.length <= bs.length
theorem RowAt.but {H : Hp} {r l : Addr} {row : List (Int × Int)} {xs : List V} {o : HO} (h : RowAt H r row) (hl : H l = some (.lst xs)) (ne : r ≠ l) : RowAt (az H l o) r row := by
 obtain ⟨ps, a, b⟩ := h
 exact ⟨ps, by rw [ah ne]; exact a, Paired.mapP b fun a x q => by
  show az H l o a = _
  rw [ah (fun z => by rw [b7, z, hl] at q; cases q)]; exact q⟩
theorem TupsL.but {H : Hp} {l : Addr} {ps : List Addr} {row : List (Int × Int)} {xs : List V} {o : HO} (h : TupsL H ps row) (hl : H l = some (.lst xs)) : TupsL (az H l o) ps row :=
 Paired.mapP h fun a x q => by
  show az H l o a = _
  rw [ah (fun z => by rw [b7, z, hl] at q; cases q)]; exact q
theorem BillL.but {H : Hp} {l : Addr} {rs : List Addr} {rows : List (List (Int × Int))} {xs : List V} {o : HO} (h : BillL H rs rows) (hl : H l = some (.lst xs)) (ne : l ∉ rs) : BillL (az H l o) rs rows := by
 refine dU h.len fun i r row e1 e2 => ?_
 obtain ⟨row', e3, q⟩ := h.get e1
 rw [e2] at e3
 cases e3
 exact q.but hl fun z => ne (z ▸ Ce e1)
theorem rJ {l : List Int} {x : Int} (h : l.Pairwise (· < ·)) (hx : ∀ y ∈ l, y < x) : (l ++ [x]).Pairwise (· < ·) :=
 List.pairwise_append.mpr ⟨h, DE .., fun a ha b hb => by rw [Cm.mp hb]; exact hx a ha⟩
theorem xo {bs : List Int} (h : bs.Pairwise (· < ·)) {i : Nat} {x : Int} (hx : bs[i]? = some x) : ∀ y ∈ bs.take i, y < x := by
 intro y hy
 obtain ⟨hi, ex⟩ := Cc.mp hx
 obtain ⟨j, hj, ej⟩ := Cq.mp hy
 rw [CW] at hj
 rw [DN] at ej
 rw [<- ej, <- ex]
 exact De.mp h j i _ _ (by omega)
theorem cu {α β : Type} {F : α -> β -> Prop} {l : List α} {r : List β} (h : Paired F l r) {a : α} {b : β} (q : F a b) : Paired F (l ++ [a]) (r ++ [b]) := Paired.snoc h q
theorem BillL.parts {H : Hp} {rs : List Addr} {rows : List (List (Int × Int))} (h : BillL H rs rows) : ∃ pss : List (List Addr), pss.length = rs.length /\ ∀ (i : Nat) r, rs[i]? = some r -> ∃ ps row, pss[i]? = some ps /\ rows[i]? = some row /\ H r = some (.lst (ps.map V.ref)) /\ TupsL H ps row := by
 induction h with
 | nil => exact ⟨[], rfl, fun i r z => by cases z⟩
 | cons h _ ih =>
  obtain ⟨pss, l, f⟩ := ih
  obtain ⟨ps, a, b⟩ := h
  refine ⟨ps :: pss, by rw [CF, CF, l], fun i r e => ?_⟩
  cases i with
  | zero => cases e; exact ⟨ps, _, rfl, rfl, a, b⟩
  | succ i => exact f i r e
theorem km {K : PySem.W.Frag} {H1 : Hp} {js : List (Option Nat)} {σ : L2.St} {te : TE} {Q : VK} {b : Addr} {rs : List Addr} {rows : List (List (Int × Int))} (hb : H1 b = some (.lst (rs.map V.ref))) (bl : BillL H1 rs rows) (hn : rows.length < 100000)
  (he : ∀ r (xs : List V) H2 R, H2 r = some (.lst xs) -> (∀ l H3, Same H2 H3 -> H2 l = none -> H3 l = some (.lst xs) -> R (.ref l) H3) -> te (some (.ref r) :: bX σ js) H2 R)
  (hQ : ∀ acc ls H', Same H1 H' -> H1 acc = none -> H' acc = some (.lst (ls.map V.ref)) -> BillL H' ls rows -> (∀ r ∈ ls, H1 r = none /\ r ≠ acc) -> ls.Nodup -> Q (.ref acc) H') :
  cg (ou K b) H1 (none :: js) (bS 0) eI te σ Q := by
 obtain ⟨pss, lp, fp⟩ := bl.parts
 have ln := bl.len
 refine kc (J := ou K b) (H1 := H1) (js := js) (σ := σ) (te := te) (Q := Q) rs.length (fun i => (rs.map V.ref).getD i .non) (fun acc ys H => ∃ ls : List Addr, ys = ls.map V.ref /\ ls.Nodup /\ (∀ r ∈ ls, H1 r = none /\ r ≠ acc) /\ ∀ (i : Nat) l, ls[i]? = some l -> H l = some (.lst ((pss.getD i []).map V.ref))) (by omega)
  ?_ (fun acc H => ⟨[], rfl, .nil, (fun _ z => by cases z), fun i l z => by cases z⟩)
  (fun i H h s => ⟨_, .ref rs[i], s.seq (SqL.of hb), by simp [h]⟩) (fun H s => ⟨_, s.seq (SqL.of hb), by simp⟩) ?_ ?_ ?_
 ·rintro acc ys H H' ⟨ls, e, nd, n, f⟩ s
  exact ⟨ls, e, nd, n, fun i l z => s l _ (n l (Ce z)).2 (f i l z)⟩
 ·intro i H x H' h s y
  refine ⟨y.1, ?_⟩
  have e := y.2 _ (s.seq (SqL.of hb))
  rw [Cb, e]; rfl
 ·rintro acc i ys H2 R hi s n1 n2 ln2 ⟨ls, rfl, nd, n, f⟩ k
  have er : rs[i]? = some rs[i] := Ca hi
  obtain ⟨ps, row, e1, e2, e3, e4⟩ := fp i _ er
  have eg : (rs.map V.ref).getD i .non = .ref rs[i] := by rw [Cb, Cd, er]; rfl
  rw [B9] at ln2
  show te (some ((rs.map V.ref).getD i .non) :: bX σ js) H2 R
  rw [eg]
  refine he _ _ H2 R (s _ _ e3) fun l H3 s3 nl hl => k (.ref l) H3 s3 ⟨ls ++ [l], by rw [Cn]; rfl, ?_, fun r hr => ?_, fun j l' z => ?_⟩
  ·refine DM.mpr ⟨nd, by simp, fun x hx y hy z => ?_⟩
   rw [Cm.mp hy] at z
   subst z
   obtain ⟨j, hj, ej⟩ := Cq.mp hx
   have := f j x (by rw [Ca hj, ej])
   rw [this] at nl
   cases nl
  ·rcases CC.mp hr with z | z
   ·exact n r z
   ·rw [Cm.mp z]
    exact ⟨s.free nl, fun z => by rw [z, n2] at nl; cases nl⟩
  ·by_cases hj : j < ls.length
   ·rw [CI hj] at z
    exact s3 _ _ (f j l' z)
   ·have hj' := (Cc.mp z).1
    rw [Ck, Cp] at hj'
    have ej : j = ls.length := by omega
    subst ej
    rw [CN (Cg _), Du] at z
    cases z
    rw [ln2, Cb, e1]
    exact hl
 ·rintro acc ys H' s n1 n2 l2 ⟨ls, rfl, nd, n, f⟩
  rw [B9] at l2
  refine hQ acc ls H' s n1 n2 (dU (by omega) fun i l row z1 z2 => ?_) n nd
  have hi : i < rs.length := by rw [<- l2]; exact (Cc.mp z1).1
  obtain ⟨ps, row', e1, e2, e3, e4⟩ := fp i _ (Ca hi)
  rw [z2] at e2
  cases e2
  have g := f i l z1
  rw [Cb, e1] at g
  exact ⟨ps, g, e4.same s⟩
def bE (rows : List (List (Int × Int))) (hands : List Int) (i : Nat) : Int := (aK (rows.getD i []) (hands.getD i 0)).getD 0
def aI (rows : List (List (Int × Int))) (hands : List Int) : Int := ((Cf rows.length).map (bE rows hands)).sum
def iL (row r2 : List (Int × Int)) : List (Int × Int) := (row.filter fun x => (aK r2 x.1).isSome).map fun x => (x.1, x.2 + (aK r2 x.1).getD 0)
def au (row : List (Int × Int)) : List Int := row.map (·.1)
def g4 (rows : List (List (Int × Int))) : List Nat -> List (Int × Int)
 | [] => []
 | s :: st => st.foldl (fun acc j => iL acc (rows.getD j [])) (rows.getD s [])
def ju (rows : List (List (Int × Int))) : List Nat -> List Int
 | [] => []
 | s :: st => st.foldl (fun acc j => acc.filter fun b => decide (b ∈ au (rows.getD j []))) (au (rows.getD s []))
def iM (rows : List (List (Int × Int))) (st : List Nat) (b : Int) : Int := (st.map fun s => (aK (rows.getD s []) b).getD 0).sum
def bF (rows : List (List (Int × Int))) (p : List Int) : List (List (Int × Int)) := (Cf (dd p).length).map fun b => g4 rows (cF p b)
theorem iN {rows : List (List (Int × Int))} {st : List Nat} (h : st ≠ []) (s : Nat) : g4 rows (st ++ [s]) = iL (g4 rows st) (rows.getD s []) := by
 cases st with
 | nil => exact absurd rfl h
 | cons a r => show ((r ++ [s]).foldl _ _) = _; rw [List.foldl_append]; rfl
theorem iO {rows : List (List (Int × Int))} {st : List Nat} (h : st ≠ []) (s : Nat) : ju rows (st ++ [s]) = (ju rows st).filter fun b => decide (b ∈ au (rows.getD s [])) := by
 cases st with
 | nil => exact absurd rfl h
 | cons a r => show ((r ++ [s]).foldl _ _) = _; rw [List.foldl_append]; rfl
theorem tF {rows : List (List (Int × Int))} {st : List Nat} (s : Nat) (b : Int) : iM rows (st ++ [s]) b = iM rows st b + (aK (rows.getD s []) b).getD 0 := by
 unfold iM
 rw [Cn, List.sum_append]
 simp
theorem ja {row : List (Int × Int)} {b : Int} : (aK row b).isSome = decide (b ∈ au row) := by
 cases e : aK row b with
 | none => exact (decide_eq_false (show b ∉ au row from cB.mp e)).symm
 | some c => exact (decide_eq_true (show b ∈ au row from Ci.mpr ⟨_, dZ e, rfl⟩)).symm
theorem vj {row : List (Int × Int)} (nd : (au row).Nodup) : row = (au row).map fun b => (b, (aK row b).getD 0) := by
 unfold au
 rw [CB]
 conv => lhs; rw [<- List.map_id row]
 apply Cv
 intro x hx
 show x = (x.1, (aK row x.1).getD 0)
 rw [dY nd hx]; rfl
theorem jE {α : Type} {P : List α -> Prop} (h1 : ∀ a, P [a]) (h2 : ∀ l a, l ≠ [] -> P l -> P (l ++ [a])) : ∀ l, l ≠ [] -> P l := by
 intro l
 have key : ∀ (n : Nat) (l : List α), l.length = n -> l ≠ [] -> P l := by
  intro n
  induction n with
  | zero => intro l e h; exact absurd (Dm.mp e) h
  | succ n ih =>
   intro l e h
   have e1 := DX h
   by_cases z : l.dropLast = []
   ·rw [z] at e1
    rw [<- e1]
    exact h1 _
   ·rw [<- e1]
    exact h2 _ _ z (ih _ (by rw [Ew]; omega) z)
 exact key _ l rfl
theorem nD {rows : List (List (Int × Int))} (nd : ∀ row ∈ rows, (au row).Nodup) : ∀ st, st ≠ [] -> g4 rows st = (ju rows st).map fun b => (b, iM rows st b) := by
 refine jE (fun s => ?_) (fun st s hne ih => ?_)
 ·show rows.getD s [] = (au (rows.getD s [])).map _
  have hn : (au (rows.getD s [])).Nodup := by
   rw [Cb]
   cases e : rows[s]? with
   | none => exact .nil
   | some row => exact nd row (Ce e)
  conv => lhs; rw [vj hn]
  apply Cv
  intro b _
  unfold iM
  simp
 ·rw [iN hne, iO hne, ih]
  unfold iL
  rw [Ek, CB]
  have e1 : (fun x : Int × Int => (aK (rows.getD s []) x.1).isSome) ∘ (fun b => (b, iM rows st b)) = fun b => decide (b ∈ au (rows.getD s [])) := by
   funext b
   exact ja
  rw [e1]
  apply Cv
  intro b _
  show (b, iM rows st b + _) = _
  rw [tF]
theorem vk {rows : List (List (Int × Int))} : ∀ st, st ≠ [] -> ∀ b, b ∈ ju rows st <-> ∀ s ∈ st, b ∈ au (rows.getD s []) := by
 refine jE (fun s b => ?_) (fun st s hne ih b => ?_)
 ·show b ∈ au (rows.getD s []) <-> _
  simp
 ·rw [iO hne, CG, ih b, decide_eq_true_iff]
  constructor
  ·rintro ⟨h1, h2⟩ x hx
   rcases CC.mp hx with z | z
   ·exact h1 x z
   ·rw [Cm.mp z]; exact h2
  ·intro h
   exact ⟨fun x hx => h x (CA _ hx), h s (CJ _ (by simp))⟩
theorem Aq {α β : Type} {l : List α} {d : α} {g : α -> Bool} {F : α -> β} : (((Cf l.length).filter fun j => g (l.getD j d)).map fun j => F (l.getD j d)) = (l.filter g).map F := by
 have e0 : l = (Cf l.length).map fun i => l.getD i d := by
  conv => lhs; rw [<- List.map_id l]
  exact (jD fun i x hx => by rw [Cb, hx]; rfl).symm
 conv => rhs; rw [e0]
 rw [Ek, CB]
 rfl
theorem rK {H : Hp} {g : Nat -> Int × Int} : ∀ {is : List Nat} {vs : List V}, Paired (fun i v => ∃ t, v = .ref t /\ b7 H t (g i)) is vs -> ∃ ps : List Addr, vs = ps.map V.ref /\ TupsL H ps (is.map g)
 | _, _, .nil => ⟨[], rfl, .nil⟩
 | _, _, .cons ⟨t, e, h⟩ r => by
  obtain ⟨ps, e2, h2⟩ := rK r
  exact ⟨t :: ps, by rw [e, e2]; rfl, .cons h h2⟩
theorem qE (row r2 : List (Int × Int)) : (iL row r2).length <= row.length := by
 unfold iL
 rw [B9]
 exact CT _ _
theorem vm {rows : List (List (Int × Int))} {n : Nat} (h : ∀ row ∈ rows, row.length <= n) : ∀ st, (g4 rows st).length <= n := by
 have base : ∀ s, (rows.getD s []).length <= n := fun s => by
  rw [Cb]
  cases e : rows[s]? with
  | none => exact CK _
  | some row => exact h row (Ce e)
 intro st
 by_cases z : st = []
 ·rw [z]; exact CK _
 ·exact jE (P := fun st => (g4 rows st).length <= n) base (fun st s hne ih => by rw [iN hne]; exact CO (qE _ _) ih) st z
def RowN (acc : Addr) (H : Hp) (r : Addr) (row : List (Int × Int)) : Prop := r ≠ acc /\ ∃ ps : List Addr, H r = some (.lst (ps.map V.ref)) /\ (∀ a ∈ ps, a ≠ acc) /\ TupsL H ps row
theorem RowN.mono {acc : Addr} {H H' : Hp} {r : Addr} {row : List (Int × Int)} (h : RowN acc H r row) (s : SameBut acc H H') : RowN acc H' r row := by
 obtain ⟨n, ps, a, b, c⟩ := h
 refine ⟨n, ps, s _ _ n a, b, dU (Paired.length c) fun i x y e1 e2 => ?_⟩
 obtain ⟨y', e3, q⟩ := b4 c e1
 rw [e2] at e3
 cases e3
 exact s _ _ (b x (Ce e1)) q
theorem RowN.at {acc : Addr} {H : Hp} {r : Addr} {row : List (Int × Int)} (h : RowN acc H r row) : RowAt H r row := let ⟨_, ps, a, _, c⟩ := h; ⟨ps, a, c⟩
theorem RowAt.n {acc : Addr} {H : Hp} {r : Addr} {row : List (Int × Int)} {xs : List V} (h : RowAt H r row) (n : r ≠ acc) (ha : H acc = some (.lst xs)) : RowN acc H r row := by
 obtain ⟨ps, a, c⟩ := h
 refine ⟨n, ps, a, fun x hx z => ?_, c⟩
 obtain ⟨i, hi, ei⟩ := Cq.mp hx
 obtain ⟨y, _, q⟩ := b4 c (Ca hi)
 rw [b7, ei, z, ha] at q
 cases q
theorem qF {H1 : Hp} {js : List (Option Nat)} {σ : L2.St} {te : TE} {Q : VK} {n : Nat} (f : Nat -> List (Int × Int)) (hn : n < 100000)
  (he : ∀ i : Nat, i < n -> ∀ H2 R, Same H1 H2 -> (∀ r H3, Same H2 H3 -> H2 r = none -> RowAt H3 r (f i) -> R (.ref r) H3) -> te (some (.int (0 + (i : Int))) :: bX σ js) H2 R)
  (hQ : ∀ acc ls H', Same H1 H' -> H1 acc = none -> H' acc = some (.lst (ls.map V.ref)) -> BillL H' ls ((Cf n).map f) -> (∀ r ∈ ls, H1 r = none /\ r ≠ acc) -> Q (.ref acc) H') : cg (pQ 0 n) H1 (none :: js) (bS 0) eI te σ Q := by
 refine sV (fun acc ys H => ∃ ls : List Addr, ys = ls.map V.ref /\ ∀ (i : Nat) r, ls[i]? = some r -> H1 r = none /\ RowN acc H r (f i)) hn (fun acc ys H H' ⟨ls, e, h⟩ s => ⟨ls, e, fun i r z => ⟨(h i r z).1, (h i r z).2.mono s⟩⟩) (fun acc H => ⟨[], rfl, fun i r z => by cases z⟩) ?_ ?_
 ·rintro acc i ys H2 R hi s n1 n2 ln ⟨ls, rfl, h⟩ k
  rw [B9] at ln
  refine he i hi H2 R s fun r H3 s3 nr hr => k (.ref r) H3 s3 ⟨ls ++ [r], by rw [Cn]; rfl, fun j r' z => ?_⟩
  have n3 := s3 _ _ n2
  by_cases hj : j < ls.length
  ·rw [CI hj] at z
   exact ⟨(h j r' z).1, (h j r' z).2.mono s3.but⟩
  ·have hj' := (Cc.mp z).1
   rw [Ck, Cp] at hj'
   have ej : j = ls.length := by omega
   subst ej
   rw [CN (Cg _), Du] at z
   cases z
   rw [ln]
   exact ⟨s.free nr, hr.n (fun z => by rw [z, n2] at nr; cases nr) n3⟩
 ·rintro acc ys H' s n1 n2 ln ⟨ls, rfl, h⟩
  rw [B9] at ln
  refine hQ acc ls H' s n1 n2 (dU (by rw [B9, CP]; exact ln) fun i r row e1 e2 => ?_) fun r hr => ?_
  ·rw [Cd] at e2
   obtain ⟨j, e3, e4⟩ := Cj.mp e2
   have hj := (Cc.mp e3)
   obtain ⟨hj1, hj2⟩ := hj
   rw [DR] at hj2
   subst hj2
   subst e4
   exact (h i r e1).2.at
  ·obtain ⟨i, hi, ei⟩ := Cq.mp hr
   have := h i r (by rw [Ca hi, ei])
   exact ⟨this.1, this.2.1⟩
section
variable {X : Cx}
end
abbrev bQ := List (List (Int × Int))
def du (ds : List (Int × Int)) (b : Int) : Int := (aK ds b).getD 0
def hA (hs : List (Option Int)) (j : Nat) : Option Int := hs.getD j none
def pA (ps : List Int) (j : Nat) : Int := ps.getD j 0
def rA (rows : bQ) (j : Nat) : List (Int × Int) := rows.getD j []
def rL (rows : bQ) (ps : List Int) (ds : List (Int × Int)) (j : Nat) (b : Int) : Prop := ∃ c, aK (rA rows j) b = some c /\ pA ps j - du ds b = c
structure PInv (rows : bQ) (hs : List (Option Int)) (ps : List Int) (ds : List (Int × Int)) : Prop where
 lh : hs.length = rows.length
 lp : ps.length = rows.length
 tight : ∀ j b, hA hs j = some b -> rL rows ps ds j b
 inj : ∀ j k b, hA hs j = some b -> hA hs k = some b -> j = k
 feas : ∀ j, ∀ x ∈ rA rows j, pA ps j - du ds x.1 <= x.2
 dnn : ∀ x ∈ ds, 0 <= x.2
 dnd : (ds.map (·.1)).Nodup
 held : ∀ x ∈ ds, ∃ j, hA hs j = some x.1
theorem vn {hs : List (Option Int)} {j : Nat} {b : Int} (h : hA hs j = some b) : j < hs.length := by
 unfold hA at h
 rw [Cb] at h
 cases e : hs[j]? with
 | none => rw [e] at h; cases h
 | some v => exact (Cc.mp e).1
theorem Ar {ds : List (Int × Int)} (h : ∀ x ∈ ds, 0 <= x.2) (b : Int) : 0 <= du ds b := by
 unfold du
 cases e : aK ds b with
 | none => exact Int.le_refl _
 | some d => exact h _ (dZ e)
structure PTree (rows : bQ) (hs : List (Option Int)) (ps : List Int) (ds : List (Int × Int)) (i : Nat) (R : List Nat) (A : List (Int × Nat)) : Prop where
 root : R[0]? = some i
 free : hA hs i = none
 len : R.length = A.length + 1
 hold : ∀ (t : Nat) x, A[t]? = some x -> ∃ j, R[t + 1]? = some j /\ hA hs j = some x.1
 ask : ∀ (t : Nat) x, A[t]? = some x -> (∃ u, u <= t /\ R[u]? = some x.2) /\ rL rows ps ds x.2 x.1
 nd : (A.map (·.1)).Nodup
 lt : ∀ j ∈ R, j < rows.length
 keys : ∀ x ∈ A, x.1 ∈ ds.map (·.1)
theorem PTree.iff {rows : bQ} {hs : List (Option Int)} {ps : List Int} {ds : List (Int × Int)} {i : Nat} {R : List Nat} {A : List (Int × Nat)} (I : PInv rows hs ps ds) (T : PTree rows hs ps ds i R A) {j : Nat} {b : Int} (h : hA hs j = some b) : j ∈ R <-> b ∈ A.map (·.1) := by
 constructor
 ·intro m
  obtain ⟨t, ht⟩ := Dr.mp m
  cases t with
  | zero =>
   rw [T.root] at ht
   cases ht
   rw [T.free] at h
   cases h
  | succ t =>
   have hl := (Cc.mp ht).1
   have hA' : t < A.length := by have := T.len; omega
   obtain ⟨j', e1, e2⟩ := T.hold t A[t] (Ca hA')
   rw [ht] at e1
   cases e1
   rw [h] at e2
   exact Ci.mpr ⟨A[t], CL hA', (Option.some.inj e2).symm⟩
 ·intro m
  obtain ⟨x, hx, e⟩ := Ci.mp m
  obtain ⟨t, ht⟩ := Dr.mp hx
  obtain ⟨j', e1, e2⟩ := T.hold t x ht
  rw [e] at e2
  rw [I.inj j j' b h e2]
  exact Ce e1
theorem PTree.rnd {rows : bQ} {hs : List (Option Int)} {ps : List Int} {ds : List (Int × Int)} {i : Nat} {R : List Nat} {A : List (Int × Nat)} (T : PTree rows hs ps ds i R A) : R.Nodup := by
 rw [Cu, De]
 intro a b ha hb hab e
 have tl := T.len
 obtain ⟨t, rfl⟩ : ∃ t, b = t + 1 := ⟨b - 1, by omega⟩
 obtain ⟨j, e1, e2⟩ := T.hold t _ (Ca (show t < A.length by omega))
 rw [Ca hb] at e1
 have e1 := Option.some.inj e1
 cases a with
 | zero =>
  have r := T.root
  rw [Ca ha] at r
  have r := Option.some.inj r
  have : hA hs i = some A[t].1 := by rw [<- r, e, e1]; exact e2
  rw [T.free] at this
  cases this
 | succ a =>
  obtain ⟨j2, f1, f2⟩ := T.hold a _ (Ca (show a < A.length by omega))
  rw [Ca ha] at f1
  have f1 := Option.some.inj f1
  have ej : j2 = j := by rw [<- f1, <- e1, e]
  rw [ej, e2] at f2
  have f2 := Option.some.inj f2
  have n1 := T.nd
  rw [Cu, De] at n1
  exact n1 a t (by rw [B9]; omega) (by rw [B9]; omega) (by omega) (by rw [C7, C7]; exact f2.symm)
structure Raised (R : List Nat) (A : List (Int × Nat)) (g : Int) (ps : List Int) (ds : List (Int × Int)) (ps' : List Int) (ds' : List (Int × Int)) : Prop where
 lp : ps'.length = ps.length
 pr : ∀ j, pA ps' j = pA ps j + if j ∈ R then g else 0
 ky : ds'.map (·.1) = ds.map (·.1)
 nn : (∀ x ∈ ds, 0 <= x.2) -> ∀ x ∈ ds', 0 <= x.2
 dr : ∀ b, du ds' b = du ds b + if b ∈ A.map (·.1) then g else 0
theorem vo {rows : bQ} {hs : List (Option Int)} {ps ps' : List Int} {ds ds' : List (Int × Int)} {i : Nat} {R : List Nat} {A : List (Int × Nat)} {g : Int} (I : PInv rows hs ps ds) (T : PTree rows hs ps ds i R A) (g0 : 0 <= g)
  (hmin : ∀ q ∈ R, ∀ x ∈ rA rows q, x.1 ∉ A.map (·.1) -> g <= x.2 + du ds x.1 - pA ps q) (W : Raised R A g ps ds ps' ds') : PInv rows hs ps' ds' /\ PTree rows hs ps' ds' i R A := by
 have tg : ∀ j b, (j ∈ R <-> b ∈ A.map (·.1)) -> rL rows ps ds j b -> rL rows ps' ds' j b := fun j b e ⟨c, h1, h2⟩ => ⟨c, h1, by
  rw [W.pr, W.dr]
  by_cases z : j ∈ R
  ·rw [if_pos z, if_pos (e.mp z)]; omega
  ·rw [if_neg z, if_neg fun y => z (e.mpr y)]; omega⟩
 refine ⟨⟨I.lh, by rw [W.lp]; exact I.lp, fun j b h => tg j b (T.iff I h) (I.tight j b h), I.inj, fun j x hx => ?_, W.nn I.dnn, by rw [W.ky]; exact I.dnd, fun x hx => ?_⟩, ⟨T.root, T.free, T.len, T.hold, fun t x hx => ⟨(T.ask t x hx).1, tg _ _ ?_ (T.ask t x hx).2⟩, T.nd, T.lt, fun x hx => by rw [W.ky]; exact T.keys x hx⟩⟩
 ·rw [W.pr, W.dr]
  have f := I.feas j x hx
  by_cases z : j ∈ R
  ·rw [if_pos z]
   by_cases y : x.1 ∈ A.map (·.1)
   ·rw [if_pos y]; omega
   ·rw [if_neg y]
    have := hmin j z x hx y
    omega
  ·rw [if_neg z]
   split <;> omega
 ·have : x.1 ∈ ds.map (·.1) := by rw [<- W.ky]; exact Ci.mpr ⟨x, hx, rfl⟩
  obtain ⟨y, hy, e⟩ := Ci.mp this
  rw [<- e]
  exact I.held y hy
 ·obtain ⟨u, _, hu⟩ := (T.ask t x hx).1
  exact ⟨fun _ => Ci.mpr ⟨x, Ce hx, rfl⟩, fun _ => Ce hu⟩
theorem tH {rows : bQ} {hs : List (Option Int)} {ps : List Int} {ds ds' : List (Int × Int)} {i h q : Nat} {b : Int} {R : List Nat} {A : List (Int × Nat)} (I : PInv rows hs ps ds) (T : PTree rows hs ps ds i R A) (hq : q ∈ R) (hb : b ∉ A.map (·.1)) (tg : rL rows ps ds q b) (hh : hA hs h = some b)
  (e : ds' = if b ∈ ds.map (·.1) then ds else ds ++ [(b, 0)]) : PInv rows hs ps ds' /\ PTree rows hs ps ds' i (R ++ [h]) (A ++ [(b, q)]) := by
 have ed : ∀ c, du ds' c = du ds c := fun c => by
  rw [e]
  split
  ·rfl
  ·rename_i n
   unfold du aK
   rw [List.find?_append]
   cases z : ds.find? fun x => x.1 == c with
   | some x => rfl
   | none =>
    rw [Option.none_or, List.find?_singleton]
    split <;> rfl
 have ek : ∀ c, c ∈ ds.map (·.1) -> c ∈ ds'.map (·.1) := fun c hc => by
  rw [e]
  split
  ·exact hc
  ·rw [Cn]; exact CA _ hc
 have eb : b ∈ ds'.map (·.1) := by
  rw [e]
  split
  ·assumption
  ·rw [Cn]; exact CJ _ (by simp)
 have tg' : ∀ j c, rL rows ps ds j c -> rL rows ps ds' j c := fun j c ⟨x, h1, h2⟩ => ⟨x, h1, by rw [ed]; exact h2⟩
 have em : ∀ x ∈ ds', x ∈ ds \/ x = (b, 0) := fun x hx => by
  rw [e] at hx
  split at hx
  ·exact .inl hx
  ·rcases CC.mp hx with z | z
   ·exact .inl z
   ·exact .inr (Cm.mp z)
 have tl := T.len
 obtain ⟨uq, hu⟩ := Dr.mp hq
 have huq := (Cc.mp hu).1
 refine ⟨⟨I.lh, I.lp, fun j c hc => tg' j c (I.tight j c hc), I.inj, fun j x hx => by rw [ed]; exact I.feas j x hx, fun x hx => ?_, ?_, fun x hx => ?_⟩, ⟨?_, T.free, by rw [Ck, Ck, tl]; rfl, fun t x hx => ?_, fun t x hx => ?_, ?_, fun j hj => ?_, fun x hx => ?_⟩⟩
 ·rcases em x hx with z | z
  ·exact I.dnn x z
  ·rw [z]; exact Int.le_refl _
 ·rw [e]
  split
  ·exact I.dnd
  ·rename_i n
   rw [Cn]
   exact DM.mpr ⟨I.dnd, by simp, fun x hx y hy z => by rw [List.map_singleton, Cm] at hy; rw [z, hy] at hx; exact n hx⟩
 ·rcases em x hx with z | z
  ·exact I.held x z
  ·rw [z]; exact ⟨h, hh⟩
 ·rw [CI (by omega)]; exact T.root
 ·by_cases z : t < A.length
  ·rw [CI z] at hx
   obtain ⟨j, e1, e2⟩ := T.hold t x hx
   exact ⟨j, by rw [CI (by omega)]; exact e1, e2⟩
  ·have ht := (Cc.mp hx).1
   rw [Ck, Cp] at ht
   have et : t = A.length := by omega
   subst et
   rw [CN (Cg _), Du] at hx
   cases hx
   exact ⟨h, by rw [CN (by omega), show A.length + 1 - R.length = 0 by omega]; rfl, hh⟩
 ·by_cases z : t < A.length
  ·rw [CI z] at hx
   obtain ⟨⟨u, ul, hu'⟩, tgx⟩ := T.ask t x hx
   exact ⟨⟨u, ul, by rw [CI (by omega)]; exact hu'⟩, tg' _ _ tgx⟩
  ·have ht := (Cc.mp hx).1
   rw [Ck, Cp] at ht
   have et : t = A.length := by omega
   subst et
   rw [CN (Cg _), Du] at hx
   cases hx
   exact ⟨⟨uq, by omega, by rw [CI huq]; exact hu⟩, tg' _ _ tg⟩
 ·rw [Cn]
  exact DM.mpr ⟨T.nd, by simp, fun x hx y hy z => by rw [List.map_singleton, Cm] at hy; rw [z, hy] at hx; exact hb hx⟩
 ·rcases CC.mp hj with z | z
  ·exact T.lt j z
  ·rw [Cm.mp z, <- I.lh]; exact vn hh
 ·rcases CC.mp hx with z | z
  ·exact ek _ (T.keys x z)
  ·rw [Cm.mp z]; exact eb
theorem qG {rows : bQ} {hs : List (Option Int)} {ps : List Int} {ds : List (Int × Int)} {i : Nat} {R : List Nat} {A : List (Int × Nat)} {rep : List Int} (T : PTree rows hs ps ds i R A) (rl : rep.length = rows.length) (rn : rep.Nodup) (rin : ∀ (j : Nat) b, rep[j]? = some b -> b ∈ au (rA rows j)) :
  ∃ q ∈ R, ∃ x ∈ rA rows q, x.1 ∉ A.map (·.1) := by
 refine Decidable.byContradiction fun n => ?_
 have all : ∀ q ∈ R, ∀ x ∈ rA rows q, x.1 ∈ A.map (·.1) := fun q hq x hx => Decidable.byContradiction fun z => n ⟨q, hq, x, hx, z⟩
 have nd : (R.map fun j => rep.getD j 0).Nodup := by
  have rnd := T.rnd
  rw [Cu, Dk]
  rw [Cu] at rnd
  refine List.Pairwise.imp_of_mem ?_ rnd
  intro a b ha hb hne e
  have la : a < rep.length := by rw [rl]; exact T.lt a ha
  have lb : b < rep.length := by rw [rl]; exact T.lt b hb
  rw [aC la, aC lb] at e
  exact hne ((Dx rn).mp e)
 have := nd.length_le_of_subset (l₂ := A.map (·.1)) fun b hb => by
  obtain ⟨j, hj, e⟩ := Ci.mp hb
  have lj : j < rep.length := by rw [rl]; exact T.lt j hj
  rw [aC lj] at e
  obtain ⟨x, hx, ex⟩ := Ci.mp (rin j rep[j] (Ca lj))
  rw [<- e, <- ex]
  exact all j hj x hx
 rw [B9, B9] at this
 have := T.len
 omega
structure POn (rows : bQ) (hs0 hs : List (Option Int)) (ps : List Int) (ds : List (Int × Int)) (i : Nat) (R : List Nat) (A : List (Int × Nat)) (b0 b : Int) (t : Nat) : Prop where
 lh : hs.length = rows.length
 tight : ∀ j c, hA hs j = some c -> rL rows ps ds j c
 inj : ∀ j k c, hA hs j = some c -> hA hs k = some c -> j = k
 out : ∀ j, hA hs j ≠ some b
 has : ∀ c, ((∃ j, hA hs j = some c) \/ c = b) <-> ((∃ j, hA hs0 j = some c) \/ c = b0)
 dom : ∀ j, hA hs j = none <-> hA hs0 j = none
 at' : ∃ q, A[t]? = some (b, q)
 low : ∀ u, u <= t -> ∀ j, R[u]? = some j -> hA hs j = hA hs0 j
structure PTop (rows : bQ) (hs : List (Option Int)) (ps : List Int) (ds : List (Int × Int)) (i : Nat) (R : List Nat) (A : List (Int × Nat)) : Prop where
 root : R[0]? = some i
 free : hA hs i = none
 rnd : R.Nodup
 lt : ∀ j ∈ R, j < rows.length
 hold : ∀ (t : Nat) x, A[t]? = some x -> t + 1 < A.length -> ∃ j, R[t + 1]? = some j /\ hA hs j = some x.1
 ask : ∀ (t : Nat) x, A[t]? = some x -> (∃ u, u <= t /\ R[u]? = some x.2) /\ rL rows ps ds x.2 x.1
 len : R.length = A.length
theorem cT {hs : List (Option Int)} {q j : Nat} {v : Option Int} (h : q < hs.length) : hA (hs.set q v) j = if j = q then v else hA hs j := by
 unfold hA
 rw [Cb, Cb, List.getElem?_set]
 by_cases z : q = j
 ·subst z
  rw [if_pos rfl, if_pos h, if_pos rfl]; rfl
 ·rw [if_neg z, if_neg fun y => z y.symm]
theorem tI {rows : bQ} {hs0 hs : List (Option Int)} {ps : List Int} {ds : List (Int × Int)} {i : Nat} {R : List Nat} {A : List (Int × Nat)} {b0 b : Int} {t q : Nat} (T : PTop rows hs0 ps ds i R A) (O : POn rows hs0 hs ps ds i R A b0 b t) (hq : A[t]? = some (b, q)) :
  q < hs.length /\ (match hA hs q with
   | some c => ∃ u, u < t /\ POn rows hs0 (hs.set q (some b)) ps ds i R A b0 c u
   | none => q = i /\ (∀ j c, hA (hs.set q (some b)) j = some c -> rL rows ps ds j c) /\ (∀ j k c, hA (hs.set q (some b)) j = some c -> hA (hs.set q (some b)) k = some c -> j = k) /\
     (∀ c, (∃ j, hA (hs.set q (some b)) j = some c) <-> ((∃ j, hA hs0 j = some c) \/ c = b0)) /\ ∀ j, hA (hs.set q (some b)) j = none <-> (hA hs0 j = none /\ j ≠ i)) := by
 obtain ⟨⟨u, ul, hu⟩, tg⟩ := T.ask t _ hq
 have hqR := Ce hu
 have ql : q < hs.length := by rw [O.lh]; exact T.lt q hqR
 have eq0 : hA hs q = hA hs0 q := O.low u ul q hu
 have tight' : ∀ j c, hA (hs.set q (some b)) j = some c -> rL rows ps ds j c := fun j c h => by
  rw [cT ql] at h
  split at h
  ·rename_i z; cases h; rw [z]; exact tg
  ·exact O.tight j c h
 have inj' : ∀ j k c, hA (hs.set q (some b)) j = some c -> hA (hs.set q (some b)) k = some c -> j = k := fun j k c h1 h2 => by
  rw [cT ql] at h1 h2
  split at h1
  ·rename_i z1
   split at h2
   ·rename_i z2; rw [z1, z2]
   ·cases h1; exact absurd h2 (O.out k)
  ·split at h2
   ·cases h2; exact absurd h1 (O.out j)
   ·exact O.inj j k c h1 h2
 refine ⟨ql, ?_⟩
 cases e : hA hs q with
 | none =>
  rw [e] at eq0
  have hqi : q = i := by
   cases u with
   | zero => rw [T.root] at hu; exact (Option.some.inj hu).symm
   | succ u =>
    have hl := (Cc.mp hu).1
    have tl := T.len
    have htl := (Cc.mp hq).1
    obtain ⟨j, e1, e2⟩ := T.hold u _ (Ca (show u < A.length by omega)) (by omega)
    rw [hu] at e1
    cases e1
    rw [<- eq0] at e2
    cases e2
  refine ⟨hqi, tight', inj', fun c => ?_, fun j => ?_⟩
  ·rw [<- O.has c]
   constructor
   ·rintro ⟨j, h⟩
    rw [cT ql] at h
    split at h
    ·cases h; exact .inr rfl
    ·exact .inl ⟨j, h⟩
   ·rintro (⟨j, h⟩ | h)
    ·have nj : j ≠ q := fun z => by rw [z, e] at h; cases h
     exact ⟨j, by rw [cT ql, if_neg nj]; exact h⟩
    ·exact ⟨q, by rw [cT ql, if_pos rfl, h]⟩
  ·rw [cT ql]
   split
   ·rename_i z; constructor
    ·intro h; cases h
    ·intro h; exact absurd (z.trans hqi) h.2
   ·rename_i z
    rw [O.dom j]
    exact ⟨fun h => ⟨h, fun y => z (y.trans hqi.symm)⟩, fun h => h.1⟩
 | some c =>
  rw [e] at eq0
  have u0 : u ≠ 0 := fun z => by
   rw [z, T.root] at hu
   have ei : i = q := Option.some.inj hu
   rw [<- ei, T.free] at eq0
   cases eq0
  obtain ⟨u', rfl⟩ : ∃ u', u = u' + 1 := ⟨u - 1, by omega⟩
  have hl := (Cc.mp hu).1
  have tl := T.len
  obtain ⟨j, e1, e2⟩ := T.hold u' _ (Ca (show u' < A.length by omega)) (by omega)
  rw [hu] at e1
  cases e1
  rw [<- eq0] at e2
  have ec := Option.some.inj e2
  refine ⟨u', by omega, ?_⟩
  refine { lh := by rw [Dw]; exact O.lh, tight := tight', inj := inj', out := fun j h => ?_, has := fun x => ?_, dom := fun j => ?_, at' := ⟨A[u'].2, by rw [Ca (show u' < A.length by omega), ec]⟩, low := fun w hw j hj => ?_ }
  ·rw [cT ql] at h
   split at h
   ·have hb : b = c := Option.some.inj h
    exact O.out q (by rw [hb]; exact e)
   ·rename_i z
    exact z (O.inj j q c h e)
  ·rw [<- O.has x]
   constructor
   ·rintro (⟨j, h⟩ | h)
    ·rw [cT ql] at h
     split at h
     ·cases h; exact .inr rfl
     ·exact .inl ⟨j, h⟩
    ·rw [h]; exact .inl ⟨q, e⟩
   ·rintro (⟨j, h⟩ | h)
    ·by_cases z : j = q
     ·rw [z, e] at h; exact .inr (Option.some.inj h).symm
     ·exact .inl ⟨j, by rw [cT ql, if_neg z]; exact h⟩
    ·exact .inl ⟨q, by rw [cT ql, if_pos rfl, h]⟩
  ·rw [cT ql]
   split
   ·rename_i z
    rw [z, <- eq0]
    constructor
    ·intro h; cases h
    ·intro h; cases h
   ·exact O.dom j
  ·have nj : j ≠ q := fun z => by
    have hw' := (Cc.mp hj).1
    have x1 : R[w] = R[u' + 1] := by
     have y1 := (Cc.mp hj).2
     have y2 := (Cc.mp hu).2
     rw [y1, y2, z]
    have := (Dx T.rnd).mp x1
    omega
   rw [cT ql, if_neg nj]
   exact O.low w (by omega) j hj
theorem vp {hs : List Int} {k d : Int} (nd : hs.Nodup) (h : k ∈ hs) : (hs.map fun b => if b = k then d else 0).sum = d := by
 induction hs with
 | nil => cases h
 | cons a r ih =>
  rw [C5] at nd
  rw [Co, List.sum_cons]
  by_cases z : a = k
  ·subst z
   rw [if_pos rfl]
   have : (r.map fun b => if b = a then d else 0).sum = 0 := by
    have e : r.map (fun b => if b = a then d else 0) = r.map fun _ => (0 : Int) := Cv fun b hb => if_neg fun (y : b = a) => nd.1 (by rw [<- y]; exact hb)
    rw [e]
    clear ih e nd h
    induction r with
    | nil => rfl
    | cons x r ih => rw [Co, List.sum_cons, ih]; rfl
   rw [this]; omega
  ·rw [if_neg z]
   rcases Cr.mp h with y | y
   ·exact absurd y.symm z
   ·rw [ih nd.2 y]; omega
theorem vq {hs : List Int} (nd : hs.Nodup) : ∀ {ds : List (Int × Int)}, (ds.map (·.1)).Nodup -> (∀ x ∈ ds, x.1 ∈ hs) -> (hs.map (du ds)).sum = (ds.map (·.2)).sum := by
 intro ds
 induction ds with
 | nil =>
  intro _ h
  clear nd h
  induction hs with
  | nil => rfl
  | cons a r ih => rw [Co, List.sum_cons, ih]; rfl
 | cons x ds ih =>
  intro n1 h
  rw [Co, C5] at n1
  rw [Co, List.sum_cons, <- ih n1.2 fun y hy => h y (Cz _ hy)]
  have e : hs.map (du (x :: ds)) = hs.map fun b => (if b = x.1 then x.2 else 0) + du ds b := by
   apply Cv
   intro b _
   unfold du aK
   rw [C1]
   by_cases z : b = x.1
   ·have z1 : (x.1 == b) = true := by simp [z]
    have z2 : aK ds b = none := cB.mpr (by rw [z]; exact n1.1)
    unfold aK at z2
    rw [z1, if_pos z, z2]
    show x.2 = x.2 + 0
    omega
   ·have z1 : (x.1 == b) = false := beq_false_of_ne fun y => z y.symm
    rw [z1, if_neg z, Int.zero_add]
  rw [e]
  have s : ∀ (l : List Int) (f g : Int -> Int), (l.map fun b => f b + g b).sum = (l.map f).sum + (l.map g).sum := by
   intro l f g
   induction l with
   | nil => rfl
   | cons a r ih => rw [Co, Co, Co, List.sum_cons, List.sum_cons, List.sum_cons, ih]; omega
  rw [s, vp nd (h x CM)]
section
variable {X : Cx}
def B3 (t t' : TS) : TS := fun D σ H => t D σ H \/ t' D σ H
theorem Au {st : Stmt} {t t' : TS} (h : PS X st t) (h' : PS X st t') : PS X st (B3 t t') := fun pins s σ H D I q => by
 rcases q with q | q
 ·exact h pins s σ H D I q
 ·exact h' pins s σ H D I q
def Av (K : PySem.W.Frag) : V -> V -> Hp -> VK -> Prop := fun x y H Q => ∃ p xs i v, x = .ref p /\ y = .int i /\ 0 <= i /\ SqL K H p xs /\ lM xs i = some v /\ Q v H
theorem vt (K : PySem.W.Frag) (hK : X.K = K := by rfl) : zI X (Av K) := by
 subst hK
 intro pins s σ H x y v u Q I rx ry h
 obtain ⟨p, xs, i, z, rfl, rfl, h0, hq, he, q⟩ := h
 cases rx
 obtain ⟨t, rfl⟩ := ry
 obtain ⟨its, r, pl, hz⟩ := I.list hq
 obtain ⟨j, h1, h2, h3, h4, h5⟩ := mO he
 obtain ⟨w, ew, rw'⟩ := r.get h2
 have hl := r.length
 have hn := iw
 have hj : i.toNat = j := by
  rw [seqIndex_of h0 h5] at h1
  exact Option.some.inj h1
 exact PySem.wpAny_getItem_list pl.isList h0 (by omega) (by rw [hj]; simpa using ew) ⟨z, H, I, rw', q⟩
def xp : V -> List V -> Hp -> VK -> Prop := fun x vs H Q => ∃ (l : Addr) (xs : List V) (c : V) (j : Nat) (y : V), x = .ref l /\ vs = [c] /\ cK c = true /\ xs.all cK = true /\ H l = some (.lst xs) /\ xs[j]? = some y /\ mQ y c = true /\
 (∀ m z, m < j -> xs[m]? = some z -> mQ z c = false) /\ xs.length < 100000 /\ Q (.int ((j : Nat) : Int)) H
theorem tJ : Bc X "list.index" xp := by
 intro pins s σ H x vs v us Q I rx rv h
 obtain ⟨l, xs, c, j, y, rfl, rfl, fc, fx, hH, hj, hy, hno, hz, q⟩ := h
 cases rx
 obtain ⟨u, e1, ru⟩ := fg rv
 subst e1
 obtain ⟨z, its, n, r, hl, e⟩ := I.lstM hH
 have fxs : ∀ i x, xs[i]? = some x -> cK x = true := fun i x hi => CS.mp fx x (Ce hi)
 have at' : ∀ {i : Nat} (hi : i < its.toArray.size), ∃ x, xs[i]? = some x /\ uj c its.toArray[i] = mQ x c := fun {i} hi => by
  have hi' : i < its.length := by simpa using hi
  obtain ⟨x, hx, rx⟩ := cj r (Ca hi')
  refine ⟨x, hx, ?_⟩
  have : its.toArray[i] = its[i] := by simp
  rw [this]
  exact qc rx (fxs i x hx)
 have hjl := (Cc.mp hj).1
 have hji : j < its.toArray.size := by rw [Cs]; omega
 refine call_meets PySem.F.slot_list_index ⟨_, e, rfl⟩ PySem.F.entry_list_index (PySem.F.args_list_index_2 _ _) (MeetsSeq.list_index l its.toArray n u (uj c) (fun y hy prog w A E s Q h => ?_) j hji (by omega) ?_ fun m hm hlt => ?_) ⟨e, ?_⟩
 ·exact jR (A := A) (s := s) ru fc r fx y (by simpa using hy) prog w E Q h
 ·obtain ⟨x, hx, ex⟩ := at' hji
  rw [hj] at hx
  cases hx
  rw [ex]; exact hy
 ·obtain ⟨x, hx, ex⟩ := at' hm
  rw [ex]
  exact hno m x hlt hx
 ·exact ⟨.int ((j : Nat) : Int), H, I.tok _, ⟨_, rfl⟩, q⟩
def xq : V -> List V -> Hp -> VK -> Prop := fun x vs H Q => ∃ (d : Addr) (kvs : List (bw × V)) (k : bw) (v : V), x = .ref d /\ vs = [kV k, v] /\ H d = some (.dK kvs) /\ kvs.length < sizeLine /\
 (∀ y, a8 kvs k = some y -> Q y H) /\ (a8 kvs k = none -> Q v (az H d (.dK (b3 kvs k v))))
theorem lA : AL X "dict.setdefault" xq := by
 intro pins s σ H x vs v us Q I rx rv h
 obtain ⟨d, kvs, k, y, rfl, rfl, hd, hl, q1, q2⟩ := h
 cases rx
 cases rv with
 | cons rk rv =>
 cases rv with
 | cons ry rv =>
 cases rv
 rename_i u1 u2
 obtain ⟨z, hm, ws, rel, dd⟩ := jU I.hok hd
 refine call_meetsIn PySem.F.slot_dict_setdefault dd.typeIs PySem.F.entry_dict_setdefault (PySem.F.args_dict_setdefault_3 _ _ _) (kt_meets_setdefault (aH X.prog X.w) d (iZ rk) hm u2) ⟨ws, dd, by rw [<- rel.length]; exact z, fun v' hv' => ?_, fun hn h' dd' hs => ?_⟩
 ·have rr := rel.val k
  rw [hv'] at rr
  cases e : a8 kvs k with
  | none => rw [e] at rr; cases rr
  | some w' =>
   rw [e] at rr
   exact ⟨w', H, I.tok _, rr, q1 w' e⟩
 ·have e : a8 kvs k = none := by
   have rr := rel.val k
   rw [hn] at rr
   cases e : a8 kvs k with
   | none => rfl
   | some w' => rw [e] at rr; cases rr
  have he : ∃ q, h'.get? d = some q := let ⟨q, _, _, hq, _⟩ := dd'; ⟨q, hq⟩
  have hl' : (b3 kvs k y).length <= sizeLine := by have := dB kvs k y; omega
  exact ⟨y, _, mU I (by rw [hd]; exact True.intro) hs he (qe hl' hm (rel.put k ry) dd'), ry, q2 e⟩
def yi (P : Program) (w : World) (φ : Heap -> Prop) (d : Addr) (kvs : List (bw × V)) : Prop := ∀ H h, φ h -> ObjOk P w H h d (.dK kvs)
def y9 (B : (Heap -> Prop) -> Addr -> List (bw × V) -> Prop) (tl : TE) : TI := fun σ H R => tl σ H fun x H1 => ∃ d kvs, x = .ref d /\ H1 d = some (.dK kvs) /\ ∀ φ, B φ d kvs -> R (ya φ d kvs) (az H1 d (.ext φ))
theorem vx {tg l : Expr} {tl : TE} (hl : PE X l tl) : PI X tg l (y9 (yi X.prog X.w) tl) := by
 intro pins s σ H R I h
 refine bC (hl pins s σ H _ I h) fun v s1 hq__ => ?_
 obtain ⟨x, H1, I1, r1, q1⟩ := hq__
 obtain ⟨d, kvs, e, hd, q⟩ := q1
 subst e
 cases r1
 obtain ⟨hz, hm, vs, r, dd⟩ := jU I1.hok hd
 obtain ⟨ep, da⟩ := dd.dictAt
 have I2 : Inv X pins σ (az H1 d (.ext (DW X.prog X.w d vs ep))) s1 := I1.view (by rw [hd]; trivial) (DW.ok da)
 refine wpAny_pyIter_dict hm da ?_
 refine ⟨s1.heap.objs.size, [s1.heap.objs.size], _, _, _, rfl, I2.kept (t' := s1.toks) fun b o e => Heap.get?_push_of_some _ e, lU d _ r, ⟨_, Heap.get?_push_size _ rfl, rfl, rfl⟩, fun b hb => ?_, q _ fun H h x => ⟨hz, hm, vs, r, x.dictOf⟩⟩
 have e : b = s1.heap.objs.size := by simpa using hb
 subst e
 exact I2.fpOk (Cg _) (I2.hok.fresh (Cg _))
def Aw (B : (Heap -> Prop) -> Addr -> List (bw × V) -> Prop) (D : Ends) : Ends := { D with nx := fun σ' H' => ∃ d kvs φ, B φ d kvs /\ H' d = some (.ext φ) /\ D.nx σ' (az H' d (.dK kvs)) }
def Ax (B : (Heap -> Prop) -> Addr -> List (bw × V) -> Prop) (t : TS) : TS := fun D σ H => t (Aw B D) σ H
theorem xt {st : Stmt} {t : TS} (h : PS X st t) : PS X st (Ax (yi X.prog X.w) t) := fun pins s σ H D I q =>
 bC (h pins s σ H _ I q) fun f s1 z => by
  cases f with
  | next =>
   obtain ⟨σ1, H1, I1, d, kvs, φ, b, e, n⟩ := z
   exact ⟨σ1, _, I1.view (by rw [e]; trivial) (b _ _ (I1.hok d _ e).1), n⟩
  | brk => exact z
  | cont => exact z
  | ret u => exact z
end
theorem vy {φ : Heap -> Prop} {d : Addr} {kvs : List (bw × V)} {g : TG} {tb : TS} {D : Ends} {σ : L2.St} {H : Hp} (Pv : Nat -> L2.St -> Hp -> Prop) (h0 : Pv 0 σ H) (hw : ∀ i σ H, i <= kvs.length -> Pv i σ H -> H d = some (.ext φ))
  (hs : ∀ i k v σ H, kvs[i]? = some (k, v) -> Pv i σ H -> g (kV k) σ H fun σ2 H2 => tb { D with nx := Pv (i + 1), ct := Pv (i + 1), bk := D.nx } σ2 H2) (hd : ∀ σ H, Pv kvs.length σ H -> D.nx σ H) :
  ∃ W : Nat -> Nat -> L2.St -> Hp -> Prop, (∃ m, W 0 m σ H) /\ ∀ i m σ H, W i m σ H ->
   ((ya φ d kvs).stop i H /\ D.nx σ H) \/ ((ya φ d kvs).go i H /\ ∃ N : L2.St -> Hp -> Prop, (∀ σ' H', N σ' H' -> ∃ m', m' < m /\ W (i + 1) m' σ' H') /\ ∀ v H', (ya φ d kvs).yld i H v H' -> g v σ H' fun σ2 H2 => tb { D with nx := N, ct := N, bk := D.nx } σ2 H2) := by
 refine ⟨fun i m σ H => m = kvs.length - i /\ i <= kvs.length /\ Pv i σ H, ⟨kvs.length, by simp, CK _, h0⟩, ?_⟩
 rintro i m σ H ⟨rfl, hi, p⟩
 by_cases hlt : i < kvs.length
 ·refine .inr ⟨⟨hw i σ H hi p, hlt⟩, Pv (i + 1), fun σ' H' p' => ⟨kvs.length - (i + 1), C2 _ _ hlt, rfl, hlt, p'⟩, fun v H' y => ?_⟩
  obtain ⟨e3, k, v', e, e2⟩ := y
  subst e2 e3
  exact hs i k v' σ _ e p
 ·have e : i = kvs.length := Ds hi (Dg hlt)
  subst e
  exact .inl ⟨⟨hw _ σ H hi p, Cg _⟩, hd σ H p⟩
def aG (ds : List (Int × Int)) : List (bw × V) := ds.map fun x => (Sum.inl x.1, V.int x.2)
theorem cQ (ds : List (Int × Int)) (b : Int) : a8 (aG ds) (Sum.inl b) = (aK ds b).map V.int := by
 induction ds with
 | nil => rfl
 | cons x ds ih =>
  unfold a8 aK aG at *
  rw [Co, C1, C1]
  by_cases z : x.1 = b
  ·have z1 : (x.1 == b) = true := by simp [z]
   have z2 : decide ((Sum.inl x.1 : bw) = Sum.inl b) = true := by simp [z]
   simp only [z1, z2]
   rfl
  ·have z1 : (x.1 == b) = false := beq_false_of_ne z
   have z2 : decide ((Sum.inl x.1 : bw) = Sum.inl b) = false := by simp [z]
   simp only [z1, z2]
   exact ih
def g6 (ds : List (Int × Int)) (b d : Int) : List (Int × Int) := if b ∈ ds.map (·.1) then ds.map fun x => if x.1 = b then (b, d) else x else ds ++ [(b, d)]
theorem g7 (ds : List (Int × Int)) (b d : Int) : b3 (aG ds) (Sum.inl b) (.int d) = aG (g6 ds b d) := by
 unfold b3 g6
 have e : ((aG ds).any fun kv => decide (kv.1 = Sum.inl b)) = decide (b ∈ ds.map (·.1)) := by
  rw [DU, Es, decide_eq_true_iff]
  unfold aG
  constructor
  ·rintro ⟨x, hx, e⟩
   obtain ⟨y, hy, rfl⟩ := Ci.mp hx
   have := Sum.inl.inj (of_decide_eq_true e)
   exact Ci.mpr ⟨y, hy, this⟩
  ·intro h
   obtain ⟨y, hy, e⟩ := Ci.mp h
   exact ⟨(Sum.inl y.1, V.int y.2), Ci.mpr ⟨y, hy, rfl⟩, by simp [e]⟩
 rw [e]
 by_cases z : b ∈ ds.map (·.1)
 ·rw [if_pos (by simpa using z), if_pos z]
  unfold aG
  rw [CB, CB]
  apply Cv
  intro x _
  show (if (Sum.inl x.1 : bw) = Sum.inl b then _ else _) = _
  by_cases y : x.1 = b
  ·rw [if_pos (by rw [y])]
   show (Sum.inl x.1, V.int d) = (fun x : Int × Int => ((Sum.inl x.1 : bw), V.int x.2)) (if x.1 = b then (b, d) else x)
   rw [if_pos y, y]
  ·rw [if_neg (fun h => y (Sum.inl.inj h))]
   show _ = (fun x : Int × Int => ((Sum.inl x.1 : bw), V.int x.2)) (if x.1 = b then (b, d) else x)
   rw [if_neg y]
 ·rw [if_neg (by simpa using z), if_neg z]
  unfold aG
  rw [Cn]; rfl
theorem mj {ds : List (Int × Int)} {b d : Int} (h : b ∈ ds.map (·.1)) : (g6 ds b d).map (·.1) = ds.map (·.1) := by
 unfold g6
 rw [if_pos h, CB]
 apply Cv
 intro x _
 show (if x.1 = b then (b, d) else x).1 = x.1
 split
 ·rename_i e; exact e.symm
 ·rfl
theorem tK (ds : List (Int × Int)) (b d c : Int) : aK (g6 ds b d) c = if c = b then some d else aK ds c := by
 have h := jS (aG ds) (Sum.inl b : bw) (Sum.inl c) (.int d)
 rw [g7, cQ, cQ] at h
 by_cases z : c = b
 ·rw [if_pos (by rw [z])] at h
  rw [if_pos z]
  obtain ⟨v, e1, e2⟩ := Cj.mp h
  cases e2
  exact e1
 ·rw [if_neg (fun y => z (Sum.inl.inj y))] at h
  rw [if_neg z]
  cases e : aK ds c with
  | none => rw [e] at h; exact Option.map_eq_none_iff.mp h
  | some v =>
   rw [e] at h
   obtain ⟨v', e1, e2⟩ := Cj.mp h
   cases e2
   exact e1
theorem vz {ds : List (Int × Int)} {b d : Int} {x : Int × Int} (h : x ∈ g6 ds b d) : x ∈ ds \/ x = (b, d) := by
 unfold g6 at h
 split at h
 ·obtain ⟨y, hy, e⟩ := Ci.mp h
  split at e
  ·exact .inr e.symm
  ·rw [<- e]; exact .inl hy
 ·rcases CC.mp h with z | z
  ·exact .inl z
  ·exact .inr (Cm.mp z)
theorem o7 {ds : List (Int × Int)} {b : Int} (h : b ∈ ds.map (·.1)) : aK ds b = some (du ds b) := by
 unfold du
 cases e : aK ds b with
 | none => exact absurd h (cB.mp e)
 | some d => rfl
structure RaD (Ks : List Int) (g : Int) (ds ds' : List (Int × Int)) : Prop where
 ky : ds'.map (·.1) = ds.map (·.1)
 nn : (∀ x ∈ ds, 0 <= x.2) -> ∀ x ∈ ds', 0 <= x.2
 dr : ∀ b, du ds' b = du ds b + if b ∈ Ks then g else 0
theorem RaD.start {g : Int} {ds : List (Int × Int)} : RaD [] g ds ds := ⟨rfl, fun h => h, fun b => by simp⟩
theorem RaD.step {Ks : List Int} {g b : Int} {ds ds' : List (Int × Int)} (r : RaD Ks g ds ds') (g0 : 0 <= g) (hb : b ∉ Ks) (hk : b ∈ ds.map (·.1)) : RaD (Ks ++ [b]) g ds (g6 ds' b (du ds' b + g)) := by
 have hk' : b ∈ ds'.map (·.1) := by rw [r.ky]; exact hk
 refine ⟨by rw [mj hk', r.ky], fun h x hx => ?_, fun c => ?_⟩
 ·rcases vz hx with z | z
  ·exact r.nn h x z
  ·rw [z]
   have := Ar (r.nn h) b
   show 0 <= du ds' b + g
   omega
 ·have e : du (g6 ds' b (du ds' b + g)) c = if c = b then du ds' b + g else du ds' c := by
   show (aK (g6 ds' b (du ds' b + g)) c).getD 0 = _
   rw [tK]
   split <;> rfl
  rw [e, r.dr c]
  by_cases z : c = b
  ·subst z
   rw [if_pos rfl, r.dr, if_neg hb, if_pos (by simp)]
   omega
  ·rw [if_neg z]
   have : c ∈ Ks ++ [b] <-> c ∈ Ks := by simp [z]
   by_cases y : c ∈ Ks
   ·rw [if_pos y, if_pos (this.mpr y)]
   ·rw [if_neg y, if_neg fun h => y (this.mp h)]
structure RaP (R : List Nat) (g : Int) (ps ps' : List Int) : Prop where
 lp : ps'.length = ps.length
 pr : ∀ j, pA ps' j = pA ps j + if j ∈ R then g else 0
theorem RaP.start {g : Int} {ps : List Int} : RaP [] g ps ps := ⟨rfl, fun b => by simp⟩
theorem zc {ps : List Int} {q j : Nat} {v : Int} (h : q < ps.length) : pA (ps.set q v) j = if j = q then v else pA ps j := by
 unfold pA
 rw [Cb, Cb, List.getElem?_set]
 by_cases z : q = j
 ·subst z
  rw [if_pos rfl, if_pos h, if_pos rfl]; rfl
 ·rw [if_neg z, if_neg fun y => z y.symm]
theorem RaP.step {R : List Nat} {g : Int} {q : Nat} {ps ps' : List Int} (r : RaP R g ps ps') (hq : q ∉ R) (hl : q < ps.length) : RaP (R ++ [q]) g ps (ps'.set q (pA ps' q + g)) := by
 refine ⟨by rw [Dw, r.lp], fun c => ?_⟩
 rw [zc (by rw [r.lp]; exact hl), r.pr c]
 by_cases z : c = q
 ·subst z
  rw [if_pos rfl, r.pr, if_neg hq, if_pos (by simp)]
  omega
 ·rw [if_neg z]
  have : c ∈ R ++ [q] <-> c ∈ R := by simp [z]
  by_cases y : c ∈ R
  ·rw [if_pos y, if_pos (this.mpr y)]
  ·rw [if_neg y, if_neg fun h => y (this.mp h)]
theorem tL {R : List Nat} {A : List (Int × Nat)} {g : Int} {ps ps' : List Int} {ds ds' : List (Int × Int)} (p : RaP R g ps ps') (d : RaD (A.map (·.1)) g ds ds') : Raised R A g ps ds ps' ds' := ⟨p.lp, p.pr, d.ky, d.nn, d.dr⟩
theorem nE {H : Hp} {a : Addr} {o : HO} (h : H a = some o) : az H a o = H := by
 funext b
 by_cases z : b = a
 ·rw [z, ab, h]
 ·rw [ah z]
theorem vA {H : Hp} {a b : Addr} {o u : HO} (h : a ≠ b) : az (az H b u) a o = az (az H a o) b u := by
 funext c
 by_cases z : c = a
 ·subst z; rw [ab, ah h, ab]
 ·rw [ah z]
  by_cases y : c = b
  ·subst y; rw [ab, ab]
  ·rw [ah y, ah y, ah z]
theorem cD {α : Type} {l : List α} {i : Nat} {x : α} (h : l[i]? = some x) : l.take (i + 1) = l.take i ++ [x] := by
 rw [Dp, h]; rfl
theorem kq {α : Type} {l : List α} {i : Nat} {x : α} (nd : l.Nodup) (h : l[i]? = some x) : x ∉ l.take i := by
 intro m
 obtain ⟨j, hj, e⟩ := Cq.mp m
 have hi := (Cc.mp h).1
 have ex := (Cc.mp h).2
 rw [CW] at hj
 rw [DN] at e
 have := (Dx nd).mp (e.trans ex.symm)
 omega
def o8 (ps : List Int) (ds : List (Int × Int)) (As : List Int) (q : Nat) (row : List (Int × Int)) : List (Int × Int × Nat) := (row.filter fun x => decide (x.1 ∉ As)).map fun x => (x.2 + du ds x.1 - pA ps q, x.1, q)
def vB (rows : bQ) (ps : List Int) (ds : List (Int × Int)) (As : List Int) (R : List Nat) : List (Int × Int × Nat) := R.flatMap fun q => o8 ps ds As q (rA rows q)
structure Near (L : List (Int × Int × Nat)) (f : Option (Int × Int × Nat)) : Prop where
 no : f = none -> L = []
 yes : ∀ t, f = some t -> t ∈ L /\ ∀ u ∈ L, t.1 <= u.1
theorem Near.start : Near [] none := ⟨fun _ => rfl, fun _ h => by cases h⟩
theorem Near.put {L : List (Int × Int × Nat)} {f : Option (Int × Int × Nat)} {u : Int × Int × Nat} (n : Near L f) (h : ∀ t, f = some t -> u.1 < t.1) : Near (L ++ [u]) (some u) := by
 refine ⟨fun h => (by cases h), fun t e => ?_⟩
 cases e
 refine ⟨by simp, fun v hv => ?_⟩
 rcases CC.mp hv with z | z
 ·cases ef : f with
  | none => rw [n.no ef] at z; cases z
  | some t =>
   have := h t ef
   have := (n.yes t ef).2 v z
   omega
 ·rw [Cm.mp z]; exact Int.le_refl _
theorem Near.keep {L : List (Int × Int × Nat)} {t u : Int × Int × Nat} (n : Near L (some t)) (h : ¬ u.1 < t.1) : Near (L ++ [u]) (some t) := by
 refine ⟨fun h => (by cases h), fun t' e => ?_⟩
 cases e
 refine ⟨CA _ (n.yes t rfl).1, fun v hv => ?_⟩
 rcases CC.mp hv with z | z
 ·exact (n.yes t rfl).2 v z
 ·rw [Cm.mp z]; omega
theorem iP {ps : List Int} {ds : List (Int × Int)} {As : List Int} {q : Nat} {row : List (Int × Int)} {k : Nat} {x : Int × Int} (h : row[k]? = some x) :
  o8 ps ds As q (row.take (k + 1)) = o8 ps ds As q (row.take k) ++ if x.1 ∈ As then [] else [(x.2 + du ds x.1 - pA ps q, x.1, q)] := by
 unfold o8
 rw [cD h, C9, Cn]
 congr 1
 by_cases z : x.1 ∈ As
 ·rw [if_pos z, Dd (by simpa using z)]; rfl
 ·rw [if_neg z, Dt (by simpa using z)]; rfl
theorem vC {rows : bQ} {ps : List Int} {ds : List (Int × Int)} {As : List Int} {R : List Nat} {i q : Nat} (h : R[i]? = some q) : vB rows ps ds As (R.take (i + 1)) = vB rows ps ds As (R.take i) ++ o8 ps ds As q (rA rows q) := by
 unfold vB
 rw [cD h, List.flatMap_append]
 congr 1
 rw [List.flatMap_cons, List.flatMap_nil, Dv]
theorem nF {rows : bQ} {ps : List Int} {ds : List (Int × Int)} {As : List Int} {R : List Nat} {u : Int × Int × Nat} : u ∈ vB rows ps ds As R <-> ∃ q ∈ R, ∃ x ∈ rA rows q, x.1 ∉ As /\ u = (x.2 + du ds x.1 - pA ps q, x.1, q) := by
 unfold vB o8
 rw [List.mem_flatMap]
 constructor
 ·rintro ⟨q, hq, h⟩
  obtain ⟨x, hx, e⟩ := Ci.mp h
  obtain ⟨h1, h2⟩ := CG.mp hx
  exact ⟨q, hq, x, h1, of_decide_eq_true h2, e.symm⟩
 ·rintro ⟨q, hq, x, hx, hn, e⟩
  exact ⟨q, hq, Ci.mpr ⟨x, CG.mpr ⟨hx, decide_eq_true hn⟩, e.symm⟩⟩
def rM (H0 H : Hp) (f : Option (Int × Int × Nat)) (v : V) : Prop := match f with
 | none => v = .non
 | some t => ∃ p, v = .ref p /\ H0 p = none /\ H p = some (.tup [.int t.1, .int t.2.1, .int (t.2.2 : Int)])
theorem xu (as : List (Int × Int)) (b : Int) : (a8 (aG as) (Sum.inl b)).isSome = decide (b ∈ as.map (·.1)) := by
 rw [cQ, Option.isSome_map, ja]; rfl
def oV : Option Int -> V
 | none => .non
 | some b => .int b
structure Handed (rows : bQ) (hs0 : List (Option Int)) (ps : List Int) (ds : List (Int × Int)) (i : Nat) (b0 : Int) (hs : List (Option Int)) : Prop where
 lh : hs.length = rows.length
 tight : ∀ j c, hA hs j = some c -> rL rows ps ds j c
 inj : ∀ j k c, hA hs j = some c -> hA hs k = some c -> j = k
 has : ∀ c, (∃ j, hA hs j = some c) <-> ((∃ j, hA hs0 j = some c) \/ c = b0)
 dom : ∀ j, hA hs j = none <-> (hA hs0 j = none /\ j ≠ i)
def iQ (A : List (Int × Nat)) : List (Int × Int) := A.map fun x => (x.1, (x.2 : Int))
theorem ee (A : List (Int × Nat)) : (iQ A).map (·.1) = A.map (·.1) := by unfold iQ; rw [CB]; rfl
theorem vD {A : List (Int × Nat)} {t : Nat} {b : Int} {q : Nat} (nd : (A.map (·.1)).Nodup) (h : A[t]? = some (b, q)) : aK (iQ A) b = some (q : Int) := by
 have := dY (row := iQ A) (by rw [ee]; exact nd) (x := (b, (q : Int))) (Ci.mpr ⟨(b, q), Ce h, rfl⟩)
 exact this
theorem Ay {hs : List (Option Int)} {q : Nat} (h : q < hs.length) : lM (hs.map oV) (q : Int) = some (oV (hA hs q)) := by
 refine aX ?_
 rw [Cd, Ca h]
 unfold hA
 rw [Cb, Ca h]; rfl
theorem nG (hs : List (Option Int)) : (hs.map oV).all cK = true := by
 rw [CS]
 intro x hx
 obtain ⟨y, _, rfl⟩ := Ci.mp hx
 cases y <;> rfl
theorem o9 {o : Option Int} {b : Int} : mQ (oV o) (.int b) = decide (o = some b) := by
 cases o with
 | none => rfl
 | some c => show (c == b) = _; rw [DU]; simp
theorem vE {hs : List (Option Int)} {j : Nat} {o : Option Int} (h : hs[j]? = some o) : hA hs j = o := by
 unfold hA; rw [Cb, h]; rfl
theorem qH {hs : List (Option Int)} {j : Nat} {b : Int} (h : hA hs j = some b) : hs[j]? = some (some b) := by
 have l := vn h
 unfold hA at h
 rw [Cb, Ca l] at h
 rw [Ca l]
 exact congrArg some h
theorem yj {hs : List (Option Int)} {b : Int} : yF (.int b) (hs.map oV) = true <-> ∃ j, hA hs j = some b := by
 unfold yF
 rw [Es]
 constructor
 ·rintro ⟨v, hv, e⟩
  obtain ⟨o, ho, rfl⟩ := Ci.mp hv
  rw [o9] at e
  obtain ⟨j, hj⟩ := Dr.mp ho
  exact ⟨j, by rw [vE hj]; exact of_decide_eq_true e⟩
 ·rintro ⟨j, h⟩
  exact ⟨oV (some b), Ci.mpr ⟨some b, Ce (qH h), rfl⟩, by rw [o9]; simp⟩
theorem PTree.top {rows : bQ} {hs : List (Option Int)} {ps : List Int} {ds : List (Int × Int)} {i q : Nat} {b : Int} {R : List Nat} {A : List (Int × Nat)} (T : PTree rows hs ps ds i R A) (hq : q ∈ R) (tg : rL rows ps ds q b) : PTop rows hs ps ds i R (A ++ [(b, q)]) := by
 have tl := T.len
 obtain ⟨uq, hu⟩ := Dr.mp hq
 have huq := (Cc.mp hu).1
 refine ⟨T.root, T.free, T.rnd, T.lt, fun t x hx hl => ?_, fun t x hx => ?_, by rw [Ck, tl]; rfl⟩
 ·rw [Ck, Cp] at hl
  rw [CI (by omega)] at hx
  exact T.hold t x hx
 ·by_cases z : t < A.length
  ·rw [CI z] at hx
   exact T.ask t x hx
  ·have ht := (Cc.mp hx).1
   rw [Ck, Cp] at ht
   have et : t = A.length := by omega
   subst et
   rw [CN (Cg _), Du] at hx
   cases hx
   exact ⟨⟨uq, by omega, hu⟩, tg⟩
theorem POn.first {rows : bQ} {hs : List (Option Int)} {ps : List Int} {ds : List (Int × Int)} {i q : Nat} {b : Int} {R : List Nat} {A : List (Int × Nat)} (I : PInv rows hs ps ds) (hn : ∀ j, hA hs j ≠ some b) : POn rows hs hs ps ds i R (A ++ [(b, q)]) b b A.length :=
 ⟨I.lh, I.tight, I.inj, hn, fun _ => Iff.rfl, fun _ => Iff.rfl, ⟨q, by rw [CN (Cg _), Du]; rfl⟩, fun _ _ _ _ => rfl⟩
theorem PInv.handed {rows : bQ} {hs hs' : List (Option Int)} {ps : List Int} {ds : List (Int × Int)} {i : Nat} {b : Int} (I : PInv rows hs ps ds) (h : Handed rows hs ps ds i b hs') : PInv rows hs' ps ds :=
 ⟨h.lh, I.lp, h.tight, h.inj, I.feas, I.dnn, I.dnd, fun x hx => (h.has x.1).mpr (.inl (I.held x hx))⟩
theorem PTree.start {rows : bQ} {hs : List (Option Int)} {ps : List Int} {ds : List (Int × Int)} {i : Nat} (h : hA hs i = none) (hi : i < rows.length) : PTree rows hs ps ds i [i] [] :=
 ⟨rfl, h, rfl, fun t x hx => by simp at hx, fun t x hx => by simp at hx, .nil, fun j hj => by rw [Cm.mp hj]; exact hi, fun x hx => by cases hx⟩
theorem PTree.le {rows : bQ} {hs : List (Option Int)} {ps : List Int} {ds : List (Int × Int)} {i : Nat} {R : List Nat} {A : List (Int × Nat)} (T : PTree rows hs ps ds i R A) : R.length <= rows.length := by
 have := T.rnd.length_le_of_subset (l₂ := Cf rows.length) fun j hj => CD.mpr (T.lt j hj)
 rwa [CP] at this
theorem nH {α : Type} (l : List (Option α)) : (l.filterMap id).length <= l.length := List.length_filterMap_le _ _
theorem PInv.dlen {rows : bQ} {hs : List (Option Int)} {ps : List Int} {ds : List (Int × Int)} (I : PInv rows hs ps ds) : ds.length <= rows.length := by
 have := I.dnd.length_le_of_subset (l₂ := hs.filterMap id) fun b hb => by
  obtain ⟨x, hx, e⟩ := Ci.mp hb
  obtain ⟨j, hj⟩ := I.held x hx
  rw [<- e]
  exact Em.mpr ⟨some x.1, Ce (qH hj), rfl⟩
 have h2 := nH hs
 rw [B9] at this
 rw [<- I.lh]
 omega
theorem xv {A : List (Int × Nat)} {b : Int} {q : Nat} (h : b ∉ A.map (·.1)) : b3 (aG (iQ A)) (Sum.inl b) (.int (q : Int)) = aG (iQ (A ++ [(b, q)])) := by
 rw [g7]
 unfold g6
 rw [ee, if_neg h]
 unfold iQ
 rw [Cn]; rfl
theorem tM {rows : bQ} {hs : List (Option Int)} {ps : List Int} {ds : List (Int × Int)} {i : Nat} {R : List Nat} {A : List (Int × Nat)} {g b : Int} {q : Nat} (I : PInv rows hs ps ds) (T : PTree rows hs ps ds i R A) (rn : ∀ row ∈ rows, (row.map (·.1)).Nodup)
  (n : Near (vB rows ps ds (A.map (·.1)) R) (some (g, b, q))) : q ∈ R /\ b ∉ A.map (·.1) /\ 0 <= g /\ (∀ p ∈ R, ∀ x ∈ rA rows p, x.1 ∉ A.map (·.1) -> g <= x.2 + du ds x.1 - pA ps p) /\
   ∀ ps' ds', Raised R A g ps ds ps' ds' -> rL rows ps' ds' q b := by
 obtain ⟨m, mn⟩ := n.yes _ rfl
 obtain ⟨p, hp, x, hx, hn, e⟩ := nF.mp m
 cases e
 have f := I.feas q x hx
 refine ⟨hp, hn, by omega, fun p' hp' y hy hny => mn _ (nF.mpr ⟨p', hp', y, hy, hny, rfl⟩), fun ps' ds' W => ⟨x.2, dY ?_ hx, ?_⟩⟩
 ·have ql := T.lt q hp
  refine rn _ ?_
  unfold rA
  rw [Cb, Ca ql]
  exact CL ql
 ·rw [W.pr, W.dr, if_pos hp, if_neg hn]; omega
end L2
namespace L2
open PySem PySem.Spec PyProof.Rows PySem.W
def nI {α : Type} (n : Nat) (lt : Nat -> Nat -> Bool) : KasT α -> Option α
 | .ret a => some a
 | .ask i j k => if decide (i < n) && decide (j < n) && !(i == j) then nI n lt (k (lt i j)) else none
theorem mm {α : Type} {cmp : Nat -> Nat -> (Bool -> Shared -> Prop) -> Shared -> Prop} {n : Nat} {lt : Nat -> Nat -> Bool} {s : Shared} (hc : ∀ i j C, i < n -> j < n -> i ≠ j -> C (lt i j) s -> cmp i j C s) {Q : α -> Shared -> Prop} {a : α} :
  ∀ (t : KasT α), nI n lt t = some a -> Q a s -> t.kasWp cmp Q s
 | .ret b, h, q => by cases h; exact q
 | .ask i j k, h, q => by
  unfold nI at h
  split at h
  ·rename_i hh
   rw [C6, C6] at hh
   obtain ⟨⟨h1, h2⟩, h3⟩ := hh
   exact hc i j _ (of_decide_eq_true h1) (of_decide_eq_true h2) (by simpa using h3) (mm hc _ h q)
  ·cases h
def AQ (n : Nat) (l : List Nat) : Bool := match nI n (fun i j => decide (l.getD i 0 < l.getD j 0)) (kas_sort n) with
 | some p => (p.toList.map fun i => l.getD i 0) == Cf n && p.toList.all (fun i => decide (i < n)) && p.toList.length == n
 | none => false
def chkAll (n : Nat) : Nat -> List Nat -> Bool
 | 0, acc => AQ n acc
 | f + 1, acc => (Cf n).all fun x => acc.contains x || chkAll n f (acc ++ [x])
theorem mq {n : Nat} : ∀ (f : Nat) (acc ext : List Nat), chkAll n f acc = true -> ext.length = f -> (acc ++ ext).Nodup -> (∀ x ∈ ext, x < n) -> AQ n (acc ++ ext) = true
 | 0, acc, ext, h, hl, nd, hx => by
  have : ext = [] := Dq hl
  subst this
  rw [Dv]; exact h
 | f + 1, acc, ext, h, hl, nd, hx => by
  obtain ⟨x, r, rfl⟩ : ∃ x r, ext = x :: r := by
   cases ext with
   | nil => simp at hl
   | cons x r => exact ⟨x, r, rfl⟩
  unfold chkAll at h
  rw [CS] at h
  have h1 := h x (CD.mpr (hx x (by simp)))
  rw [Bool.or_eq_true] at h1
  rcases h1 with z | z
  ·rw [DM] at nd
   exact absurd rfl (nd.2.2 x (by simpa using z) x (by simp))
  ·have := mq f (acc ++ [x]) r z (by simpa using hl) (by simpa using nd) fun y hy => hx y (by simp [hy])
   simpa using this
theorem Bp : chkAll 2 2 [] = true := by decide +kernel
theorem Bq : chkAll 3 3 [] = true := by decide +kernel
theorem Br : chkAll 4 4 [] = true := by decide +kernel
theorem Bs : chkAll 5 5 [] = true := by decide +kernel
theorem Bt : chkAll 6 6 [] = true := by decide +kernel
theorem xw {n : Nat} {l : List Nat} (h2 : 2 <= n) (h6 : n <= 6) (hl : l.length = n) (nd : l.Nodup) (hx : ∀ x ∈ l, x < n) : AQ n l = true := by
 have : chkAll n n [] = true := by
  obtain h | h | h | h | h : n = 2 \/ n = 3 \/ n = 4 \/ n = 5 \/ n = 6 := by omega
  ·rw [h]; exact Bp
  ·rw [h]; exact Bq
  ·rw [h]; exact Br
  ·rw [h]; exact Bs
  ·rw [h]; exact Bt
 have := mq n [] l this hl (by simpa using nd) hx
 simpa using this
theorem ku {α : Type} {n : Nat} {f g : Nat -> Nat -> Bool} (h : ∀ i j, i < n -> j < n -> f i j = g i j) : ∀ t : KasT α, nI n f t = nI n g t
 | .ret a => rfl
 | .ask i j k => by
  unfold nI
  by_cases z : (decide (i < n) && decide (j < n) && !(i == j)) = true
  ·rw [if_pos z, if_pos z]
   rw [C6, C6] at z
   rw [h i j (of_decide_eq_true z.1.1) (of_decide_eq_true z.1.2)]
   exact ku h _
  ·rw [if_neg z, if_neg z]
def eZ (ks : List Int) (x : Int) : Nat := (ks.filter fun y => decide (y < x)).length
theorem jF {ks : List Int} {x y : Int} (h : x < y) (hx : x ∈ ks) : eZ ks x < eZ ks y := by
 unfold eZ
 induction ks with
 | nil => cases hx
 | cons a r ih =>
  have le : ∀ (r : List Int), (r.filter fun z => decide (z < x)).length <= (r.filter fun z => decide (z < y)).length := by
   intro r
   induction r with
   | nil => exact Cg _
   | cons b r ih =>
    rw [DI, DI]
    by_cases z : b < x
    ·rw [if_pos (decide_eq_true z), if_pos (decide_eq_true (by omega))]
     simp only [CF]; omega
    ·rw [if_neg (by simpa using z)]
     split <;> (try simp only [CF]) <;> omega
  rw [DI, DI]
  rcases Cr.mp hx with e | e
  ·subst e
   rw [if_neg (by simp), if_pos (decide_eq_true h)]
   have := le r
   simp only [CF]; omega
  ·have := ih e
   by_cases z : a < x
   ·rw [if_pos (decide_eq_true z), if_pos (decide_eq_true (by omega))]
    simp only [CF]; omega
   ·rw [if_neg (by simpa using z)]
    split <;> (try simp only [CF]) <;> omega
theorem Az {ks : List Int} {x : Int} (hx : x ∈ ks) : eZ ks x < ks.length := by
 unfold eZ
 induction ks with
 | nil => cases hx
 | cons a r ih =>
  rw [DI]
  rcases Cr.mp hx with e | e
  ·subst e
   rw [if_neg (by simp)]
   have := CT (fun y => decide (y < x)) r
   simp only [CF]; omega
  ·have := ih e
   split <;> (try simp only [CF]) <;> omega
theorem vF {ks : List Int} {x y : Int} (hx : x ∈ ks) (hy : y ∈ ks) : eZ ks x < eZ ks y <-> x < y := by
 constructor
 ·intro h
  rcases Int.lt_trichotomy x y with z | z | z
  ·exact z
  ·subst z; omega
  ·have := jF z hy; omega
 ·exact fun h => jF h hx
theorem vG {ks : List Int} (nd : ks.Nodup) (h2 : 2 <= ks.length) (h6 : ks.length <= 6) :
  ∃ p : Array Nat, nI ks.length (fun i j => decide (ks.getD i 0 < ks.getD j 0)) (kas_sort ks.length) = some p /\ p.toList.Perm (Cf ks.length) /\ (p.toList.map fun i => ks.getD i 0).Pairwise (· < ·) := by
 have mem : ∀ i, i < ks.length -> ks.getD i 0 ∈ ks := fun i hi => by rw [aC hi]; exact CL hi
 have gl : ∀ i, i < ks.length -> (ks.map (eZ ks)).getD i 0 = eZ ks (ks.getD i 0) := fun i hi => by
  rw [aC hi, Cb, Cd, Ca hi]; rfl
 have ndr : (ks.map (eZ ks)).Nodup := by
  rw [Cu, Dk]
  rw [Cu] at nd
  refine List.Pairwise.imp_of_mem ?_ nd
  intro a b ha hb hne e
  rcases Int.lt_trichotomy a b with z | z | z
  ·have := jF z ha; omega
  ·exact hne z
  ·have := jF z hb; omega
 have c := xw (n := ks.length) (l := ks.map (eZ ks)) h2 h6 (B9 ..) ndr fun x hx => by
  obtain ⟨y, hy, rfl⟩ := Ci.mp hx
  exact Az hy
 unfold AQ at c
 have e := ku (n := ks.length) (f := fun i j => decide (ks.getD i 0 < ks.getD j 0)) (g := fun i j => decide ((ks.map (eZ ks)).getD i 0 < (ks.map (eZ ks)).getD j 0)) (fun i j hi hj => by
  rw [gl i hi, gl j hj]
  exact decide_eq_decide.mpr (vF (mem i hi) (mem j hj)).symm) (kas_sort ks.length)
 rw [e]
 cases hr : nI ks.length (fun i j => decide ((ks.map (eZ ks)).getD i 0 < (ks.map (eZ ks)).getD j 0)) (kas_sort ks.length) with
 | none => rw [hr] at c; cases c
 | some p =>
  rw [hr] at c
  dsimp only at c
  rw [C6, C6] at c
  obtain ⟨⟨c1, c2⟩, c3⟩ := c
  have c1 : (p.toList.map fun i => (ks.map (eZ ks)).getD i 0) = Cf ks.length := by simpa using c1
  have c2 : ∀ i ∈ p.toList, i < ks.length := fun i hi => of_decide_eq_true (CS.mp c2 i hi)
  have c3 : p.toList.length = ks.length := by simpa using c3
  have pnd : p.toList.Nodup := by
   have h : (p.toList.map fun i => (ks.map (eZ ks)).getD i 0).Nodup := by rw [c1]; exact List.nodup_range
   rw [Cu, Dk] at h
   rw [Cu]
   exact h.imp fun h e => h (by rw [e])
  refine ⟨p, rfl, ?_, ?_⟩
  ·rw [List.perm_ext_iff_of_nodup pnd List.nodup_range]
   intro a
   refine ⟨fun h => CD.mpr (c2 a h), fun h => Decidable.byContradiction fun hn => ?_⟩
   have := (C5.mpr ⟨hn, pnd⟩).length_le_of_subset (l₂ := Cf ks.length) fun b hb => by
    rcases Cr.mp hb with z | z
    ·rw [z]; exact h
    ·exact CD.mpr (c2 b z)
   rw [CF, CP] at this
   omega
  ·have pw : (p.toList.map fun i => (ks.map (eZ ks)).getD i 0).Pairwise (· < ·) := by rw [c1]; exact List.pairwise_lt_range
   rw [Dk] at pw ⊢
   refine List.Pairwise.imp_of_mem ?_ pw
   intro i j hi hj h
   rw [gl i (c2 i hi), gl j (c2 j hj)] at h
   exact (vF (mem i (c2 i hi)) (mem j (c2 j hj))).mp h
def g8 (h : Heap) (as : List Addr) (ks : List Int) : Prop := as.length = ks.length /\ ∀ (i : Nat) a k, as[i]? = some a -> ks[i]? = some k -> ∃ t x n, h.get? a = some { cls := .type "tuple", data := .seq #[.int k t, x] n }
section
variable {prog : Program} {w : World} {A : Around} {E : Value -> Shared -> Prop} {s : Shared}
theorem kA {h : Heap} : ∀ {as : List Addr} {ks : List Int}, g8 h as ks -> ∃ fs : List Value, KatTups h (as.map Value.ref) fs /\ fs.length = as.length /\ ∀ v ∈ fs, ∃ k t, v = Value.int k t
 | [], [], _ => ⟨[], .nil, rfl, fun _ h => by cases h⟩
 | [], _ :: _, ⟨h, _⟩ => by simp at h
 | _ :: _, [], ⟨h, _⟩ => by simp at h
 | a :: as, k :: ks, ⟨hl, h⟩ => by
  obtain ⟨t, x, n, e⟩ := h 0 a k rfl rfl
  obtain ⟨fs, f1, f2, f3⟩ := kA (as := as) (ks := ks) ⟨by simpa using hl, fun i b c hb hc => h (i + 1) b c (by simpa using hb) (by simpa using hc)⟩
  refine ⟨.int k t :: fs, .cons e rfl rfl rfl f1, by simp [f2], fun v hv => ?_⟩
  rcases Cr.mp hv with z | z
  ·exact ⟨k, t, z⟩
  ·exact f3 v z
theorem tN {as : List Addr} {ks : List Int} (hp : g8 s.heap as ks) (nd : ks.Nodup) {i j : Nat} {C : Bool -> Shared -> Prop} (hi : i < ks.length) (hj : j < ks.length) (hij : i ≠ j) (h : C (decide (ks.getD i 0 < ks.getD j 0)) s) :
  kas_ask prog w A (tuples' true) (as.map Value.ref) i j C s := by
 have la := hp.1
 have hi' : i < as.length := by omega
 have hj' : j < as.length := by omega
 obtain ⟨t1, x1, n1, e1⟩ := hp.2 i as[i] ks[i] (Ca hi') (Ca hi)
 obtain ⟨t2, x2, n2, e2⟩ := hp.2 j as[j] ks[j] (Ca hj') (Ca hj)
 unfold kas_ask
 have g1 : (as.map Value.ref).getD i Value.none = .ref as[i] := by rw [Cb, Cd, Ca hi']; rfl
 have g2 : (as.map Value.ref).getD j Value.none = .ref as[j] := by rw [Cb, Cd, Ca hj']; rfl
 rw [g1, g2]
 rw [aC hi, aC hj] at h
 have ne : ks[i] ≠ ks[j] := fun z => hij ((Dx nd).mp z)
 refine kat_lt e1 rfl e2 rfl (kat_cons (wpAny_eqBool_int ?_))
 rw [show (ks[i] == ks[j]) = false from beq_false_of_ne ne]
 exact kat_no (oneLt_int h)
theorem kC {a : Addr} {as : List Addr} {ks : List Int} {n : Nat} {P : Fin -> Shared -> Prop} (ho : s.heap.get? a = some (seqObj "list" (as.map Value.ref).toArray n)) (hp : g8 s.heap as ks) (hna : a ∉ as) (nd : ks.Nodup) (h6 : ks.length <= 6)
  (h : ∀ q : List Nat, q.Perm (Cf ks.length) -> (q.map fun i => ks.getD i 0).Pairwise (· < ·) -> P (.done (.ret .none)) { s with heap := sortedHeap s.heap a (as.map Value.ref) (Ee (q.map fun i => (as.map Value.ref).getD i Value.none)) }) :
  wpAny (model prog w) A (Builtin.«list.sort» ⟨[.ref a], []⟩) P E s := by
 have la := hp.1
 generalize hvs : as.map Value.ref = vs at ho h
 have lv : vs.length = ks.length := by rw [<- hvs, B9, la]
 rw [list_sort_plain]
 have ha : a < s.heap.objs.size := Heap.lt_size ho
 refine wpAny_bind (listItems_at ho rfl ?_)
 refine wpAny_bind (listUpdate_at ho rfl ?_ (by rw [Cs, sizeLine_eq]; omega) (CK _))
 obtain ⟨e1, ho1⟩ : ∃ e1, (s.heap.update a (Obj.mapSeq fun _ => #[])).get? a = some (seqObj "list" #[] e1) := ⟨_, get?_update_seq ho (fun _ => #[])⟩
 refine wpAny_bind (seqEpoch_at ho1 rfl ?_)
 refine wpAny_bind (wpAny_newTuple ?_ (by show vs.length <= _; rw [sizeLine_eq]; omega))
 refine wpAny_bind (wpAny_newList ?_ (CK _))
 refine wpAny_holding ?_
 have ho6 : (((s.heap.update a (Obj.mapSeq fun _ => #[])).push (seqObj "tuple" vs.toArray 0)).push (seqObj "list" #[] 0)).get? a = some (seqObj "list" #[] e1) := by
  rw [Heap.get?_push_ne _ _ _ (by rw [size_push', Heap.size_update]; exact Cy (C8 ha)), Heap.get?_push_ne _ _ _ (by rw [Heap.size_update]; exact Cy ha)]
  exact ho1
 have hp' : g8 (((s.heap.update a (Obj.mapSeq fun _ => #[])).push (seqObj "tuple" vs.toArray 0)).push (seqObj "list" #[] 0)) as ks := ⟨la, fun i b k hb hk => by
  obtain ⟨t, x, m, e⟩ := hp.2 i b k hb hk
  have hne : b ≠ a := fun z => hna (by rw [<- z]; exact Ce hb)
  have hlt := Heap.lt_size e
  refine ⟨t, x, m, ?_⟩
  rw [Heap.get?_push_ne _ _ _ (by rw [size_push', Heap.size_update]; exact Cy (C8 hlt)), Heap.get?_push_ne _ _ _ (by rw [Heap.size_update]; exact Cy hlt), Heap.get?_update_ne _ _ _ _ hne]
  exact e⟩
 show wpAny (model prog w) A _ P E { s with heap := ((s.heap.update a (Obj.mapSeq fun _ => #[])).push (seqObj "tuple" vs.toArray 0)).push (seqObj "list" #[] 0) }
 dsimp only
 have hsz : vs.toArray.size = vs.length := by simp
 by_cases h2 : vs.toArray.size < 2
 ·rw [if_pos h2, if_pos h2]
  refine wpAny_bind (wpAny_pure ?_)
  rw [StateT.run_pure]
  refine wpAny_bind (wpAny_pure ?_)
  dsimp only
  have eo : (arrOf (SortSt.mk' general' (vs.toArray.zip vs.toArray) #[] 7 none)).map (·.2) = Ee ((Cf ks.length).map fun i => vs.getD i Value.none) := by
   have := kat_snds (ks := vs) (vs := vs) rfl (st := SortSt.mk' general' (vs.toArray.zip vs.toArray) #[] 7 none) (p := Ee (Cf ks.length)) (by
    have e := kas_range (vs.toArray.zip vs.toArray)
    rw [show (vs.toArray.zip vs.toArray).size = ks.length by simp [lv]] at e
    exact e.symm)
   exact this
  rw [eo]
  refine wpAny_bind (seqEpoch_at ho6 rfl ?_)
  refine wpAny_bind (listUpdate_at ho6 rfl ?_ (CK _) (by rw [Cs, B9, CP, sizeLine_eq]; omega))
  simp only [bne_self_eq_false, Df, if_false]
  refine wpAny_pure (h _ (List.Perm.refl _) ?_)
  have l1 : ks.length <= 1 := by omega
  rw [Dk]
  match hk : ks.length, l1 with
  | 0, _ => exact .nil
  | 1, _ => exact DE _ _
 ·rw [if_neg h2, if_neg h2]
  obtain ⟨fs, f1, f2, f3⟩ := kA hp'
  rw [hvs] at f1
  refine wpAny_bind (kat_kind (T := .type "int") f1 (by omega) (fun v hv => by obtain ⟨k, t, rfl⟩ := f3 v hv; exact Looks.of_pure rfl) rfl ?_)
  obtain ⟨q, r1, r2, r3⟩ := vG nd (by omega) h6
  have go : (kas_sort vs.length).kasWp (kas_ask prog w A (tuples' (Value.type "int" != Value.type "tuple")) vs) (fun p s' => p = q /\ s' = { s with heap := ((s.heap.update a (Obj.mapSeq fun _ => #[])).push (seqObj "tuple" vs.toArray 0)).push (seqObj "list" #[] 0) }) { s with heap := ((s.heap.update a (Obj.mapSeq fun _ => #[])).push (seqObj "tuple" vs.toArray 0)).push (seqObj "list" #[] 0) } := by
   rw [lv]
   refine mm (n := ks.length) (lt := fun i j => decide (ks.getD i 0 < ks.getD j 0)) (fun i j C hi hj hij hC => ?_) _ r1 ⟨rfl, rfl⟩
   rw [<- hvs]
   rw [<- hvs] at hp' hC
   exact tN (s := { s with heap := _ }) hp' nd hi hj hij hC
  refine wpAny_bind (wpAny_mono (kat_run (Q := fun st' s' => (arrOf st').map (·.2) = Ee (q.toList.map fun i => vs.getD i Value.none) /\ failedOf st' = none /\ s' = { s with heap := ((s.heap.update a (Obj.mapSeq fun _ => #[])).push (seqObj "tuple" vs.toArray 0)).push (seqObj "list" #[] 0) })
   (ks := vs) rfl (by omega) (by omega) (fun p st' s' a1 a2 a3 a4 => ⟨by rw [kat_snds rfl a2, a4.1], a3, a4.2⟩) go) ?_ fun _ _ e => e)
  rintro ⟨⟨⟩, st'⟩ s' ⟨e1', e2', rfl⟩
  dsimp only at e1' e2' ⊢
  rw [e1', e2']
  refine wpAny_bind (seqEpoch_at ho6 rfl ?_)
  refine wpAny_bind (listUpdate_at ho6 rfl ?_ (CK _) (by rw [Cs, B9, r2.length_eq, CP, sizeLine_eq]; omega))
  simp only [bne_self_eq_false, Df, if_false]
  exact wpAny_pure (h q.toList r2 r3)
end
theorem ObjOk.get {P : Program} {w : World} {H : Hp} {h : Heap} {a : Addr} {o : HO} (x : ObjOk P w H h a o) : ∃ u, h.get? a = some u := by
 cases o with
 | lst xs => obtain ⟨_, _, _, _, e⟩ := x; exact ⟨_, e⟩
 | tup xs => obtain ⟨_, _, _, o, e, _⟩ := x; exact ⟨_, e⟩
 | dK kvs => obtain ⟨_, _, _, _, o, _, _, e, _⟩ := x; exact ⟨_, e⟩
 | dT kvs => obtain ⟨_, _, _, _, o, _, _, e, _⟩ := x; exact ⟨_, e⟩
 | set S n => obtain ⟨o, _, _, _, e, _⟩ := x; exact ⟨_, e⟩
 | ins C dx fs => obtain ⟨_, _, _, e, _⟩ := x; exact ⟨_, e⟩
 | own y => obtain ⟨_, e⟩ := x; exact ⟨_, e⟩
 | xd fs => obtain ⟨_, ⟨_, _, _, e, _⟩, _⟩ := x; exact ⟨_, e⟩
 | rng lo hi => obtain ⟨_, _, _, e⟩ := x; exact ⟨_, e⟩
 | frz ob u => obtain ⟨e, _⟩ := x; exact ⟨_, e⟩
 | tbl ps => exact ⟨_, show h.get? a = some _ from x⟩
 | met f y => exact ⟨_, show h.get? a = some _ from x⟩
 | ext φ => obtain ⟨_, ⟨_, e⟩, _⟩ := x; exact ⟨_, e⟩
theorem Inv.many {X : Cx} {pins : List (Addr × Obj)} {σ : L2.St} {H H' : Hp} {s : Shared} {h' : Heap} {t' : Nat} (I : Inv X pins σ H s) (k : ∀ b u, s.heap.get? b = some u -> h'.get? b = some u) (old : ∀ b u, s.heap.get? b = some u -> H' b = H b)
  (new : ∀ a o, s.heap.get? a = none -> H' a = some o -> ObjOk X.prog X.w H' h' a o) : Inv X pins σ H' { s with heap := h', toks := t' } := by
 have lo : ∀ b o, H b = some o -> H' b = some o := fun b o e => by obtain ⟨u, hu⟩ := (I.hok b o e).get; rw [old b u hu]; exact e
 refine I.un ⟨fun b u q _ _ _ => k b u q, fun b u q _ _ _ => ⟨u.slots, k b u q⟩, fun b u q n _ => by rw [old b u q]; exact n, fun b u q _ => ⟨u, k b u q⟩, fun b xs q => lo b _ q, fun b u xs q => lo b _ q, fun b ps q => ⟨#[], by rw [lo b _ q]; simp⟩⟩ fun b u e => ?_
 cases hb : s.heap.get? b with
 | some ob =>
  rw [old b ob hb] at e
  exact (I.hok b u e).stay (fun c v _ q => k c v q) (fun c q => lo c _ q) fun c xs q => lo c _ q
 | none => exact new b u hb e
def nJ (H : Hp) (as : List Addr) (ds : List (Int × Int)) : Hp := fun b => match (as.zip ds).find? (fun x => x.1 == b) with
 | some x => some (.tup [.int x.2.1, .int x.2.2])
 | none => H b
theorem kD {H : Hp} {as : List Addr} {ds : List (Int × Int)} {b : Addr} (h : b ∉ as) : nJ H as ds b = H b := by
 unfold nJ
 have : (as.zip ds).find? (fun x => x.1 == b) = none := by
  rw [List.find?_eq_none]
  rintro ⟨x, y⟩ hx e
  have : x = b := by simpa using e
  exact h (by rw [<- this]; exact (Ex hx).1)
 rw [this]
theorem nK {H : Hp} : ∀ {as : List Addr} {ds : List (Int × Int)} {i : Nat} {a : Addr} {d : Int × Int}, as.Nodup -> as[i]? = some a -> ds[i]? = some d -> nJ H as ds a = some (.tup [.int d.1, .int d.2])
 | [], _, i, a, d, _, h, _ => by simp at h
 | _ :: _, [], i, a, d, _, _, h => by simp at h
 | x :: as, y :: ds, 0, a, d, _, h1, h2 => by
  simp at h1 h2
  subst h1 h2
  unfold nJ
  rw [List.zip_cons_cons, C1]
  simp
 | x :: as, y :: ds, i + 1, a, d, nd, h1, h2 => by
  rw [C5] at nd
  have h1' : as[i]? = some a := by simpa using h1
  have ne : x ≠ a := fun z => nd.1 (by rw [z]; exact Ce h1')
  have ih := nK (H := H) (as := as) (ds := ds) (i := i) nd.2 h1' (by simpa using h2)
  unfold nJ at ih ⊢
  rw [List.zip_cons_cons, C1]
  have e : (x == a) = false := by simpa using ne
  simp only [e]
  exact ih
theorem vH {H : Hp} {as : List Addr} {ds : List (Int × Int)} {b : Addr} {o : HO} (hl : as.length = ds.length) (nd : as.Nodup) (h : b ∈ as) (e : nJ H as ds b = some o) : ∃ (i : Nat) (d : Int × Int), as[i]? = some b /\ ds[i]? = some d /\ o = .tup [.int d.1, .int d.2] := by
 obtain ⟨i, hi⟩ := Dr.mp h
 have il := (Cc.mp hi).1
 have hd : ds[i]? = some (ds[i]'(by omega)) := Ca (by omega)
 refine ⟨i, _, hi, hd, ?_⟩
 rw [nK nd hi hd] at e
 exact (Option.some.inj e).symm
theorem xx {P : Program} {w : World} {ds : List (Int × Int)} {vs : List (bw × Value)} (r : KV (aG ds) vs) {i : Nat} {d : Int × Int} (h : ds[i]? = some d) : ∃ t, vs[i]? = some (Sum.inl d.1, .int d.2 t) := by
 have hh : (aG ds)[i]? = some (Sum.inl d.1, V.int d.2) := by unfold aG; rw [Cd, h]; rfl
 obtain ⟨b, hb, e1, e2⟩ := b4 r hh
 obtain ⟨t, e2⟩ := e2
 refine ⟨t, ?_⟩
 rw [hb]
 obtain ⟨k, v⟩ := b
 cases e1
 cases e2
 rfl
section
variable {X : Cx}
theorem vI (hc : X.calm = true := by rfl) : cH X (.builtin "sorted") (fun xs H Q => ∃ (v d : Addr) (ds : List (Int × Int)), xs = [.ref v] /\ H v = some (.ext (VW v d)) /\ H d = some (.dK (aG ds)) /\ (ds.map (·.1)).Nodup /\ ds.length <= 6 /\
  ∀ l (es : List (Int × Int)) H', es.Perm ds -> (es.map (·.1)).Pairwise (· < ·) -> Same H H' -> H l = none -> RowAt H' l es -> Q (.ref l) H') := by
 intro pins s σ H xs us Q I r h
 obtain ⟨v, d, ds, e, hv, hd, nd, h6, q⟩ := h
 subst e
 obtain ⟨u, e, rx⟩ := fg r
 subst e
 cases rx
 obtain ⟨hz, hm, vs, rk, dd⟩ := jU I.hok hd
 obtain ⟨ep, da⟩ := dd.dictAt
 obtain ⟨vw, _⟩ := (show ObjOk X.prog X.w H s.heap v (.ext (VW v d)) from I.hok v _ hv)
 have lv : vs.length = ds.length := by rw [<- rk.length]; unfold aG; rw [B9]
 refine Calls.call_function_entry kind_sorted plain_sorted entry_sorted (args_sorted1 _) ?_
 unfold Builtin.«sorted»
 refine wpAny_bind (m := checkCount "sorted" 1 1 _) (wpAny_pure ?_)
 refine wpAny_bind (kdx_collect (A := X.A.in1) (knd := aH X.prog X.w) (kvs := vs) (ep := ep) (show X.A.in1.handled = none from I.ok.hd hc) vw da (by rw [lv, sizeLine_eq]; omega) fun h1 tk as k1 la g1 => ?_)
 refine wpAny_bind (wpAny_newList ?_ (by rw [B9, la, lv, sizeLine_eq]; omega))
 have hoL : (h1.push (seqObj "list" (as.map Value.ref).toArray 0)).get? h1.objs.size = some (seqObj "list" (as.map Value.ref).toArray 0) := Heap.get?_push_size _ rfl
 have lt1 : ∀ a ∈ as, a < h1.objs.size := fun a ha => g1.there ha
 have ge1 : ∀ a ∈ as, s.heap.objs.size <= a := fun a ha => Da (g1.above a ha)
 have and' : as.Nodup := by
  rw [Cu]
  exact g1.rise.imp fun h => Cy h
 have pr : ∀ (i : Nat) a x, as[i]? = some a -> ds[i]? = some x -> ∃ t t', h1.get? a = some { cls := .type "tuple", data := .seq #[.int x.1 t, .int x.2 t'] } := fun i a x ha hx => by
  obtain ⟨key, k, y, e1, e2, e3⟩ := g1.pairs i a ha
  obtain ⟨t', e4⟩ := xx (P := X.prog) (w := X.w) rk hx
  rw [e4] at e1
  cases e1
  obtain ⟨t, e5⟩ := (show ∃ t, key = Value.int x.1 t from mW e2)
  rw [e5] at e3
  exact ⟨t, t', e3⟩
 have pa : g8 (h1.push (seqObj "list" (as.map Value.ref).toArray 0)) as (ds.map (·.1)) := ⟨by rw [la, lv, B9], fun i a k ha hk => by
  rw [Cd] at hk
  obtain ⟨x, hx, rfl⟩ := Cj.mp hk
  obtain ⟨t, t', e⟩ := pr i a x ha hx
  exact ⟨t, _, _, Heap.get?_push_of_some _ e⟩⟩
 refine wpAny_bind (wpAny_holding (wpAny_call_entry slot_list_sort ⟨_, hoL, rfl⟩ entry_list_sort (kC (ks := ds.map (·.1)) hoL pa (fun m => absurd (lt1 _ m) (DC _)) nd (by rw [B9]; exact h6) fun p hp hs => ⟨_, rfl, ?_⟩) (args_list_sort _)))
 refine wpAny_pure ⟨_, rfl, ?_⟩
 rw [B9] at hp
 obtain ⟨e, he⟩ := sortedHeap_at (out := Ee (p.map fun i => (as.map Value.ref).getD i Value.none)) hoL
 have k2 : ∀ b o, h1.get? b = some o -> (sortedHeap (h1.push (seqObj "list" (as.map Value.ref).toArray 0)) h1.objs.size (as.map Value.ref) (Ee (p.map fun i => (as.map Value.ref).getD i Value.none))).get? b = some o := fun b o eb => by
  have lt := Heap.lt_size eb
  rw [sortedHeap_old (Cy lt) (by rw [Heap.size_push]; exact C8 lt)]
  exact Heap.get?_push_of_some _ eb
 have plt : ∀ i ∈ p, i < ds.length := fun i hi => CD.mp (hp.mem_iff.mp hi)
 have oldne : ∀ b o, s.heap.get? b = some o -> b ≠ h1.objs.size /\ b ∉ as := fun b o eb => ⟨Cy (Heap.lt_size (k1 b o eb)), fun m => absurd (ge1 b m) (Nat.not_le_of_lt (Heap.lt_size eb))⟩
 have hl2 : as.length = ds.length := by rw [la, lv]
 have nL : H h1.objs.size = none := by
  cases z : H h1.objs.size with
  | none => rfl
  | some o =>
   obtain ⟨u, hu⟩ := (I.hok _ o z).get
   exact absurd rfl (oldne _ u hu).1
 have nas : ∀ a ∈ as, H a = none := fun a ha => by
  cases z : H a with
  | none => rfl
  | some o =>
   obtain ⟨u, hu⟩ := (I.hok _ o z).get
   exact absurd ha (oldne _ u hu).2
 have Las : ∀ a ∈ as, a ≠ h1.objs.size := fun a ha => Cy (lt1 a ha)
 have I2 : Inv X pins σ (az (nJ H as ds) h1.objs.size (.lst ((p.map fun i => as.getD i 0).map V.ref))) { s with heap := sortedHeap (h1.push (seqObj "list" (as.map Value.ref).toArray 0)) h1.objs.size (as.map Value.ref) (Ee (p.map fun i => (as.map Value.ref).getD i Value.none)), toks := tk } := by
  refine I.many (fun b u eb => k2 b u (k1 b u eb)) (fun b u eb => ?_) fun a o ha ea => ?_
  ·obtain ⟨z1, z2⟩ := oldne b u eb
   rw [ah z1, kD z2]
  ·by_cases za : a = h1.objs.size
   ·subst za
    rw [ab] at ea
    cases ea
    refine ⟨?_, p.map fun i => (as.map Value.ref).getD i Value.none, e, ?_, by simpa [seqObj] using he⟩
    ·rw [B9, B9, hp.length_eq, CP, sizeLine_eq]; omega
    ·rw [CB]
     have : ∀ (q : List Nat), (∀ i ∈ q, i < as.length) -> Vals (q.map (V.ref ∘ fun i => as.getD i 0)) (q.map fun i => (as.map Value.ref).getD i Value.none) := by
      intro q
      induction q with
      | nil => intro _; exact .nil
      | cons i q ih =>
       intro hq
       have hi := hq i (by simp)
       refine .cons ?_ (ih fun j hj => hq j (by simp [hj]))
       show (as.map Value.ref).getD i Value.none = Value.ref (as.getD i 0)
       rw [Cb, Cd, Ca hi, Cb, Ca hi]; rfl
     exact this p fun i hi => by rw [hl2]; exact plt i hi
   ·rw [ah za] at ea
    by_cases zm : a ∈ as
    ·obtain ⟨i, x, hi, hx, eo⟩ := vH hl2 and' zm ea
     subst eo
     obtain ⟨t, t', e⟩ := pr i a x hi hx
     exact ⟨by rw [sizeLine_eq]; show 2 <= _; omega, [.int x.1 t, .int x.2 t'], .cons ⟨t, rfl⟩ (.cons ⟨t', rfl⟩ .nil), _, k2 _ _ e, rfl, _, rfl⟩
    ·rw [kD zm] at ea
     obtain ⟨u, hu⟩ := (I.hok a o ea).get
     rw [ha] at hu
     cases hu
 refine ⟨.ref h1.objs.size, _, I2, rfl, ?_⟩
 refine q h1.objs.size (p.map fun i => ds.getD i (0, 0)) _ ?_ ?_ ?_ nL ⟨p.map fun i => as.getD i 0, ab, ?_⟩
 ·have h1 : (p.map fun i => ds.getD i (0, 0)).Perm ((Cf ds.length).map fun i => ds.getD i (0, 0)) := hp.map _
  have h2 : (Cf ds.length).map (fun i => ds.getD i (0, 0)) = ds := by
   apply Ea
   intro i
   rw [Cd]
   by_cases hi : i < ds.length
   ·rw [Dj hi, Ca hi, DG, Cb, Ca hi]; rfl
   ·rw [CU (by rw [CP]; omega), CU (by omega)]; rfl
  rw [h2] at h1
  exact h1
 ·have e2 : (p.map fun i => ds.getD i (0, 0)).map (·.1) = p.map fun i => (ds.map (·.1)).getD i 0 := by
   rw [CB]
   apply Cv
   intro i hi
   have hi := plt i hi
   show (ds.getD i (0, 0)).1 = _
   rw [Cb, Ca hi, Cb, Cd, Ca hi]; rfl
  rw [e2]
  exact hs
 ·intro b o eb
  obtain ⟨u, hu⟩ := (I.hok b o eb).get
  obtain ⟨z1, z2⟩ := oldne b u hu
  rw [ah z1, kD z2]
  exact eb
 ·have : ∀ (q : List Nat), (∀ i ∈ q, i < ds.length) -> TupsL (az (nJ H as ds) h1.objs.size (.lst ((p.map fun i => as.getD i 0).map V.ref))) (q.map fun i => as.getD i 0) (q.map fun i => ds.getD i (0, 0)) := by
   intro q
   induction q with
   | nil => intro _; exact .nil
   | cons i q ih =>
    intro hq
    have hi := hq i (by simp)
    have hi' : i < as.length := by rw [hl2]; exact hi
    refine .cons ?_ (ih fun j hj => hq j (by simp [hj]))
    show az (nJ H as ds) h1.objs.size (.lst ((p.map fun i => as.getD i 0).map V.ref)) (as.getD i 0) = some (.tup [.int (ds.getD i (0, 0)).1, .int (ds.getD i (0, 0)).2])
    have ea : as.getD i 0 = as[i] := by rw [Cb, Ca hi']; rfl
    have ed : ds.getD i (0, 0) = ds[i] := by rw [Cb, Ca hi]; rfl
    rw [ea, ed, ah (Las _ (CL hi'))]
    exact nK and' (Ca hi') (Ca hi)
  exact this p plt
end
theorem PInv.start {rows : bQ} (c0 : ∀ row ∈ rows, ∀ x ∈ row, 0 <= x.2) : PInv rows (Cw rows.length none) (Cw rows.length 0) [] := by
 have h0 : ∀ j, hA (Cw rows.length none) j = none := fun j => by
  unfold hA
  rw [Cb, List.getElem?_replicate]
  split <;> rfl
 have p0 : ∀ j, pA (Cw rows.length 0) j = 0 := fun j => by
  unfold pA
  rw [Cb, List.getElem?_replicate]
  split <;> rfl
 refine ⟨List.length_replicate, List.length_replicate, (fun j b h => by rw [h0] at h; cases h), (fun j k b h => by rw [h0] at h; cases h), fun j x hx => ?_, (fun _ h => by cases h), .nil, fun _ h => by cases h⟩
 rw [p0]
 have : rA rows j ∈ rows \/ rA rows j = [] := by
  unfold rA
  rw [Cb]
  cases e : rows[j]? with
  | none => exact .inr rfl
  | some r => exact .inl (Ce e)
 rcases this with z | z
 ·have := c0 _ z x hx
  show (0 : Int) - 0 <= x.2
  omega
 ·rw [z] at hx; cases hx
theorem vJ {hs : List (Option Int)} (h : ∀ j, j < hs.length -> hA hs j ≠ none) : ∃ ns : List Int, hs = ns.map some := by
 induction hs with
 | nil => exact ⟨[], rfl⟩
 | cons a r ih =>
  obtain ⟨ns, e⟩ := ih fun j hj z => h (j + 1) (by rw [CF]; omega) (by unfold hA at z ⊢; rw [Cb] at z ⊢; rw [List.getElem?_cons_succ]; exact z)
  have h0 := h 0 (by rw [CF]; omega)
  cases a with
  | none => exact absurd rfl h0
  | some b => exact ⟨b :: ns, by rw [e]; rfl⟩
theorem xy (ns : List Int) : (ns.map some).map oV = ns.map V.int := by rw [CB]; rfl
theorem g9 {ns : List Int} {j : Nat} (h : j < ns.length) : hA (ns.map some) j = some ns[j] := by
 refine vE ?_
 rw [Cd, Ca h]; rfl
structure Priced (rows : bQ) (hs : List Int) (tot : Int) (ps : List Int) (es : List (Int × Int)) : Prop where
 inv : ∃ ds, PInv rows (hs.map some) ps ds /\ es.Perm ds
 up : (es.map (·.1)).Pairwise (· < ·)
 tot : tot = aI rows hs
theorem PInv.deal {rows : bQ} {hs ps : List Int} {ds : List (Int × Int)} (I : PInv rows (hs.map some) ps ds) : Deal (rows.map au) hs := by
 have lh := I.lh
 rw [B9] at lh
 refine ⟨by rw [B9, lh], fun k h1 h2 => ?_, ?_⟩
 ·rw [B9] at h2
  obtain ⟨c, hc, _⟩ := I.tight k hs[k] (g9 h1)
  have e : rA rows k = rows[k] := by unfold rA; rw [Cb, Ca h2]; rfl
  rw [e] at hc
  rw [C7]
  exact Ci.mpr ⟨_, dZ hc, rfl⟩
 ·rw [Cu, De]
  intro i j hi hj hij e
  have := I.inj i j hs[i] (g9 hi) (by rw [g9 hj, e])
  omega
theorem pb {α : Type} (x : α) (n : Nat) : (Cw n [x]).flatten = Cw n x := by
 induction n with
 | zero => rfl
 | succ n ih => rw [Di, DL, ih, Di]; rfl
section
variable {prog : Program} {w : World} {A : Around} {E : Value -> Shared -> Prop} {s : Shared}
end
section
variable {X : Cx}
end
def lB : bQ -> List Int -> Int
 | r :: rs, h :: hs => (aK r h).getD 0 + lB rs hs
 | _, _ => 0
inductive DP : bQ -> List Int -> Prop
 | nil : DP [] []
 | cons {r : List (Int × Int)} {h : Int} {rs : bQ} {hs : List Int} : h ∈ au r -> DP rs hs -> DP (r :: rs) (h :: hs)
theorem DP.len {rows : bQ} {hs : List Int} (h : DP rows hs) : hs.length = rows.length := by
 induction h with
 | nil => rfl
 | cons _ _ ih => rw [CF, CF, ih]
theorem fU {rows : bQ} : ∀ {hs : List Int}, hs.length = rows.length -> aI rows hs = lB rows hs := by
 induction rows with
 | nil => intro hs h; rfl
 | cons r rs ih =>
  intro hs h
  cases hs with
  | nil => cases h
  | cons b hs =>
   have h' : hs.length = rs.length := by simpa using h
   have e : aI (r :: rs) (b :: hs) = bE (r :: rs) (b :: hs) 0 + aI rs hs := by
    unfold aI
    rw [CF, List.range_succ_eq_map, Co, List.sum_cons, CB]
    rfl
   rw [e, ih h']
   rfl
theorem pd {rows : bQ} {hs : List Int} : Deal (rows.map au) hs <-> DP rows hs /\ hs.Nodup := by
 constructor
 ·intro d
  refine ⟨?_, d.nd⟩
  have len := d.len
  have of := d.of
  clear d
  rw [B9] at len
  induction rows generalizing hs with
  | nil =>
   cases hs with
   | nil => exact .nil
   | cons _ _ => cases len
  | cons r rs ih =>
   cases hs with
   | nil => cases len
   | cons b hs =>
    refine .cons (of 0 (Nat.succ_pos _) (Nat.succ_pos _)) (ih (by simpa using len) fun k h1 h2 => ?_)
    exact of (k + 1) (Nat.succ_lt_succ h1) (Nat.succ_lt_succ h2)
 ·rintro ⟨d, nd⟩
  refine ⟨by rw [B9]; exact d.len, ?_, nd⟩
  clear nd
  induction d with
  | nil => intro k h1; cases h1
  | cons hm _ ih =>
   intro k h1 h2
   cases k with
   | zero => exact hm
   | succ k => exact ih k (Nat.lt_of_succ_lt_succ h1) (Nat.lt_of_succ_lt_succ h2)
theorem xA {f : Int -> Int} {rows : bQ} {hs : List Int} (d : DP rows hs) : ∀ {ps : List Int}, ps.length = rows.length -> (∀ j, ∀ x ∈ rA rows j, pA ps j - f x.1 <= x.2) -> ps.sum - (hs.map f).sum <= lB rows hs := by
 induction d with
 | nil =>
  intro ps lp _
  have : ps = [] := Dq lp
  rw [this]
  exact Int.le_refl _
 | @cons r h rs hs hm _ ih =>
  intro ps lp fe
  cases ps with
  | nil => cases lp
  | cons p ps =>
   have h1 := ih (ps := ps) (by simpa using lp) fun j x hx => fe (j + 1) x hx
   rw [List.sum_cons, Co, List.sum_cons]
   show _ <= _ + _
   cases e : aK r h with
   | none => exact absurd hm (cB.mp e)
   | some c =>
    have h2 : p - f h <= c := fe 0 (h, c) (dZ e)
    show _ <= c + _
    omega
theorem tO {f : Int -> Int} {rows : bQ} : ∀ {hs ps : List Int}, hs.length = rows.length -> ps.length = rows.length -> (∀ j b, hs[j]? = some b -> ∃ c, aK (rA rows j) b = some c /\ pA ps j - f b = c) -> lB rows hs = ps.sum - (hs.map f).sum := by
 induction rows with
 | nil =>
  intro hs ps lh lp _
  have : ps = [] := Dq lp
  have : hs = [] := Dq lh
  subst this
  subst ps
  rfl
 | cons r rs ih =>
  intro hs ps lh lp ti
  cases hs with
  | nil => cases lh
  | cons h hs =>
   cases ps with
   | nil => cases lp
   | cons p ps =>
    have h1 := ih (hs := hs) (ps := ps) (by simpa using lh) (by simpa using lp) fun j b hb => ti (j + 1) b hb
    obtain ⟨c, hc, e⟩ := ti 0 h rfl
    have hc : aK r h = some c := hc
    have e : p - f h = c := e
    rw [List.sum_cons, Co, List.sum_cons]
    show (aK r h).getD 0 + _ = _
    rw [hc, h1]
    show c + _ = _
    omega
theorem xB {hs : List Int} {k d : Int} (h : k ∉ hs) : (hs.map fun b => if b = k then d else 0).sum = 0 := by
 induction hs with
 | nil => rfl
 | cons a r ih =>
  rw [Cr, not_or] at h
  rw [Co, List.sum_cons, ih h.2, if_neg fun z => h.1 z.symm]
  rfl
theorem xC {x : Int × Int} {ds : List (Int × Int)} (n : x.1 ∉ ds.map (·.1)) (b : Int) : du (x :: ds) b = (if b = x.1 then x.2 else 0) + du ds b := by
 unfold du aK
 rw [C1]
 by_cases z : b = x.1
 ·have z1 : (x.1 == b) = true := by simp [z]
  have z2 : aK ds b = none := cB.mpr (by rw [z]; exact n)
  unfold aK at z2
  rw [z1, if_pos z, z2]
  show x.2 = x.2 + 0
  omega
 ·have z1 : (x.1 == b) = false := beq_false_of_ne fun y => z y.symm
  rw [z1, if_neg z, Int.zero_add]
theorem xD (l : List Int) (f g : Int -> Int) : (l.map fun b => f b + g b).sum = (l.map f).sum + (l.map g).sum := by
 induction l with
 | nil => rfl
 | cons a r ih => rw [Co, Co, Co, List.sum_cons, List.sum_cons, List.sum_cons, ih]; omega
theorem xE {hs : List Int} (nd : hs.Nodup) : ∀ {ds : List (Int × Int)}, (ds.map (·.1)).Nodup -> (∀ x ∈ ds, 0 <= x.2) -> (hs.map (du ds)).sum <= (ds.map (·.2)).sum := by
 intro ds
 induction ds with
 | nil =>
  intro _ _
  clear nd
  induction hs with
  | nil => exact Int.le_refl _
  | cons a r ih =>
   rw [Co, List.sum_cons]
   show 0 + _ <= _
   rw [Int.zero_add]
   exact ih
 | cons x ds ih =>
  intro n1 h
  rw [Co, C5] at n1
  have i1 := ih n1.2 fun y hy => h y (Cz _ hy)
  have x0 := h x CM
  have e : hs.map (du (x :: ds)) = hs.map fun b => (if b = x.1 then x.2 else 0) + du ds b := Cv fun b _ => xC n1.1 b
  rw [Co, List.sum_cons, e, xD hs (fun b => if b = x.1 then x.2 else 0) (du ds)]
  by_cases z : x.1 ∈ hs
  ·have := vp (d := x.2) nd z
   omega
  ·have := xB (d := x.2) z
   omega
theorem PInv.sum {rows : bQ} {hs ps : List Int} {ds : List (Int × Int)} (I : PInv rows (hs.map some) ps ds) : lB rows hs = ps.sum - (ds.map (·.2)).sum := by
 have lh := I.lh
 rw [B9] at lh
 have hAs : ∀ (j : Nat) (b : Int), hs[j]? = some b -> hA (hs.map some) j = some b := fun j b e => by
  obtain ⟨hj, e'⟩ := Cc.mp e
  rw [g9 hj, e']
 have h1 := tO (f := du ds) (rows := rows) (hs := hs) (ps := ps) lh I.lp fun j b e => I.tight j b (hAs j b e)
 have h2 : (hs.map (du ds)).sum = (ds.map (·.2)).sum := vq I.deal.nd I.dnd fun x hx => by
  obtain ⟨j, hj⟩ := I.held x hx
  unfold hA at hj
  rw [Cb, Cd] at hj
  cases e : hs[j]? with
  | none => rw [e] at hj; cases hj
  | some v => rw [e] at hj; cases hj; exact Ce e
 rw [h1, h2]
def AA (rows : bQ) : Option Int -> Prop
 | none => ∀ hs, DP rows hs -> ¬ hs.Nodup
 | some t => (∃ hs, DP rows hs /\ hs.Nodup /\ lB rows hs = t) /\ ∀ hs, DP rows hs -> hs.Nodup -> t <= lB rows hs
theorem Priced.best {rows : bQ} {hs ps : List Int} {tot : Int} {es : List (Int × Int)} (p : Priced rows hs tot ps es) : AA rows (some tot) := by
 obtain ⟨ds, I, pm⟩ := p.inv
 have hd := pd.mp I.deal
 have e : lB rows hs = tot := by rw [p.tot, fU hd.1.len]
 refine ⟨⟨hs, hd.1, hd.2, e⟩, fun hs' d nd => ?_⟩
 have h1 := xA d I.lp I.feas
 have h2 := xE nd I.dnd I.dnn
 have h3 := I.sum
 omega
def dG (more : Int) (row : List (Int × Int)) : List (Int × Int) := row.map fun x => (x.1, x.2 + more)
theorem iR {more : Int} {row : List (Int × Int)} : au (dG more row) = au row := by unfold au dG; rw [CB]; rfl
theorem tP {more : Int} {row : List (Int × Int)} {b : Int} : aK (dG more row) b = (aK row b).map (· + more) := by
 unfold aK dG
 rw [List.find?_map]
 show Option.map _ (Option.map _ (row.find? fun x => x.1 == b)) = _
 rw [Option.map_map, Option.map_map]
 rfl
theorem Bu {a b : Int} : decide (V.int a = V.int b) = decide (a = b) := by simp
section
variable {X : Cx}
end
section
variable {α : Type} [DecidableEq α]
end
section
variable {α : Type} [DecidableEq α]
end
section
variable {α : Type}
end
section
variable {prog : Program} {w : World} {A : Around} {E : Value -> Shared -> Prop} {s : Shared} {T : String} {r d : Addr} {n : Nat} {P : Nat -> Value -> Prop} {OK : Heap -> Prop}
end
section
variable {X : Cx}
end
theorem kE {α β : Type} {F G : α -> β -> Prop} : ∀ {l : List α} {r : List β}, Paired F l r -> (∀ a ∈ l, ∀ b, F a b -> G a b) -> Paired G l r
 | _, _, .nil, _ => .nil
 | _, _, .cons h t, f => .cons (f _ CM _ h) (kE t fun a ha => f a (Cz _ ha))
end L2
namespace L2
open PySem PySem.Spec PyProof.Rows
theorem ObjOk.has {P : Program} {w : World} {H : Hp} {h : Heap} {a : Addr} : ∀ {o : HO}, ObjOk P w H h a o -> ∃ ob, h.get? a = some ob := by
 intro o x
 cases o with
 | lst xs => obtain ⟨_, _, _, _, e⟩ := x; exact ⟨_, e⟩
 | tup xs => obtain ⟨_, _, _, ob, e, _⟩ := x; exact ⟨_, e⟩
 | dK kvs => obtain ⟨_, _, _, _, ob, _, _, e, _⟩ := x; exact ⟨_, e⟩
 | dT kvs => obtain ⟨_, _, _, _, ob, _, _, e, _⟩ := x; exact ⟨_, e⟩
 | set S n => obtain ⟨ob, _, _, _, e, _⟩ := x; exact ⟨_, e⟩
 | ins C dx fs => obtain ⟨_, _, _, e, _⟩ := x; exact ⟨_, e⟩
 | own y => exact x
 | xd fs => obtain ⟨_, ⟨ob, _, _, e, _⟩, _⟩ := x; exact ⟨_, e⟩
 | rng lo hi => obtain ⟨_, _, _, e⟩ := x; exact ⟨_, e⟩
 | frz ob u => obtain ⟨e, _⟩ := x; exact ⟨_, e⟩
 | tbl ps => exact ⟨_, x⟩
 | met f y => exact ⟨_, x⟩
 | ext φ => exact x.2.1
theorem HOk.stays {P : Program} {w : World} {H : Hp} {h h' : Heap} (ok : HOk P w H h) (k : ∀ b u, (H b).isSome = true -> h.get? b = some u -> h'.get? b = some u) : HOk P w H h' := fun a o q =>
  (ok a o q).stay (fun b u hb e => k b u (by rcases hb with rfl | hb; · rw [q]; rfl
                                             · rw [hb]; rfl) e) (fun _ z => z) fun _ _ z => z
structure Flies (P : Program) (w : World) (outer : List Env) (H H' : Hp) (s : Shared) (ea C : Addr) (a0 : Value) (B : Heap) (s' : Shared) : Prop where
 os : s'.os = s.os
 bare : AllBare s'.gens
 un : Un (gj outer) [] H H' s.heap s'.heap
 hok : HOk P w H' s'.heap
 fl : Heap.FlyingW B outer ea (.ref C) a0 s'.heap
 new : s.heap.get? ea = none
 free : H' ea = none
 cov : ∀ b o, s'.heap.get? b = some o -> b ∉ gj outer -> ((s.heap.get? b).isSome = true \/ (H' b).isSome = true) -> B.get? b = some o
def BL (P : Program) (w : World) : t9 := fun outer H s E e s' => ∃ (ea C : Addr) (a0 : Value) (B : Heap) (H' : Hp), e = .ref ea /\ E (.ref C) none H' /\ Flies P w outer H H' s ea C a0 B s'
section
variable {P : Program} {w : World} {K : PySem.W.Frag} {mg : Str -> Option Value} {base : Heap}
end
section
variable {P : Program} {w : World} {K : PySem.W.Frag} {mg : Str -> Option Value} {base : Heap} {N : List Str} {qual : Str} {scope : Scope} {f : Addr} {cd : Value} {A : Around} {outer : List Env} {s₀ : Shared} {H₀ : Hp} {E : XK}
theorem Bv {pins : List (Addr × Obj)} {σ : St} {H : Hp} {s : Shared} {h' : Heap} {e C : Addr} {vs : List Value} (I : Inv (oA (BL P w) P w K mg base N qual scope f cd A outer s₀ H₀ E) pins σ H s) (hx : Heap.MadeExcOf s.heap h' e (.ref C) vs)
  (h : E (.ref C) none H) : (oA (BL P w) P w K mg base N qual scope f cd A outer s₀ H₀ E).xe (.ref e) { s with heap := h' } := by
 have st : gj (envOfC qual scope s₀.heap.objs.size f cd :: outer) = s₀.heap.objs.size :: gj outer := rfl
 have hin : ∀ env ∈ (envOfC qual scope s₀.heap.objs.size f cd :: outer), ∀ a, env.frame = some a -> a ∈ gj (envOfC qual scope s₀.heap.objs.size f cd :: outer) := fun env he a ha => Em.mpr ⟨env, he, ha⟩
 have fr : s.heap.FunFrames base (envOfC qual scope s₀.heap.objs.size f cd :: outer) := I.stack
 have fr' := PySem.W.funFrames_hide fr hin
 refine wpAny_leaves_madeW (s := { s with heap := h' }) I.ok.frames rfl (fun b o q => PySem.W.of_hideAll _ q) fr' hx fun h2 t fl tu bt up => ?_
 have up2 : s.heap.UpToSlots h2 := (Heap.UpToSlots.of_keeps hx.keeps).trans up
 have kB : ∀ b o, s.heap.get? b = some o -> b ∉ gj (envOfC qual scope s₀.heap.objs.size f cd :: outer) -> (PySem.W.hideAll s.heap (gj (envOfC qual scope s₀.heap.objs.size f cd :: outer))).get? b = some o := fun b o q n => PySem.W.hideAll_get _ q n
 have kp : ∀ b o, s.heap.get? b = some o -> b ∉ gj (envOfC qual scope s₀.heap.objs.size f cd :: outer) -> h2.get? b = some o := fun b o q n => fl.1 b o (kB b o q n)
 have old : ∀ b o, s₀.heap.get? b = some o -> b ∉ gj outer -> b ∉ gj (envOfC qual scope s₀.heap.objs.size f cd :: outer) := fun b o q n z => by
  rw [st] at z
  rcases Cr.mp z with z | z
  ·rw [z] at q; exact DC _ (Heap.lt_size q)
  ·exact n z
 have tr : ∀ b, (H b).isSome = true -> b ∉ gj (envOfC qual scope s₀.heap.objs.size f cd :: outer) := fun b q z => by rw [I.stkFree b z] at q; cases q
 have un0 : Un (gj outer) [] H₀ H s₀.heap s.heap := I.base
 have slots : ∀ b o, s.heap.get? b = some o -> b ∈ gj outer -> ∃ sl, h2.get? b = some { o with slots := sl } := fun b o q m => by
  obtain ⟨_, o', q', nf⟩ := fr.mem (show b ∈ gj (envOfC qual scope s₀.heap.objs.size f cd :: outer) by rw [st]; exact Cz _ m)
  rw [q] at q'; cases q'
  exact up2 b o q nf
 refine ⟨e, C, .ref t, _, H, rfl, h, I.os, I.bare, ⟨fun b o q n nf _ => kp b o (un0.keep b o q n nf (by simp)) (old b o q nf), fun b o q n m _ => ?_, fun b o q n _ => un0.free b o q n (by simp), fun b o q _ => ?_, un0.tups, un0.frzs, un0.tbls⟩,
  I.hok.stays fun b u q e => kp b u e (tr b q), fl, ?_, ?_, fun b o q n z => ?_⟩
 ·obtain ⟨sl, q1⟩ := un0.slot b o q n m (by simp)
  obtain ⟨sl2, q2⟩ := slots b _ q1 m
  exact ⟨sl2, q2⟩
 ·obtain ⟨o1, q1⟩ := un0.there b o q (by simp)
  by_cases m : b ∈ gj outer
  ·obtain ⟨sl, q2⟩ := slots b _ q1 m
   exact ⟨_, q2⟩
  ·exact ⟨o1, kp b o1 q1 (old b o q m)⟩
 ·cases q : s₀.heap.get? e with
  | none => rfl
  | some o =>
   obtain ⟨o1, q1⟩ := un0.there e o q (by simp)
   rw [hx.new] at q1; cases q1
 ·cases q : H e with
  | none => rfl
  | some o =>
   obtain ⟨o1, q1⟩ := (I.hok e o q).has
   rw [hx.new] at q1; cases q1
 ·have nb : b ∉ gj (envOfC qual scope s₀.heap.objs.size f cd :: outer) /\ ∃ o1, s.heap.get? b = some o1 := by
   rcases z with z | z
   ·obtain ⟨o0, q0⟩ := Dh.mp z
    obtain ⟨o1, q1⟩ := un0.there b o0 q0 (by simp)
    exact ⟨old b o0 q0 n, o1, q1⟩
   ·obtain ⟨o0, q0⟩ := Dh.mp z
    obtain ⟨o1, q1⟩ := (I.hok b o0 q0).has
    exact ⟨tr b z, o1, q1⟩
  obtain ⟨n1, o1, q1⟩ := nb
  have q2 := kp b o1 q1 n1
  have q : h2.get? b = some o := q
  rw [q] at q2; cases q2
  exact kB b _ q1 n1
end
section
variable {X : Cx} {pins : List (Addr × Obj)} {σ : St} {H H' : Hp} {s s' : Shared} {ea C : Addr} {a0 : Value} {B h2 : Heap}
end
section
variable {X : Cx} {k : Nat} {f C : Addr} {fd : FuncData} {ps : List Str} {sp : Sp} {x y : Str} {st : Stmt} {p cpos epos np hpos pos : Pos} {e : Expr} {es : List Expr} {t : TA} {b₀ : Stmt} {suite : List Stmt}
end
section
variable {X : Cx} {k i : Nat} {f C : Addr} {fd : FuncData} {ps : List Str} {sp : Sp} {x y n : Str} {st : Stmt} {p cpos epos np hpos pos : Pos} {e : Expr} {es : List Expr} {t : TA} {b₀ : Stmt} {suite : List Stmt} {ts : TS} {c : Value}
end
section
open PySem.W PySem.Builtin.ObjectAttr PySem.Builtin PySem.Builtin.Getset_descriptor
variable {K : Frag} {x D : Addr}
variable {prog : Program} {w : World} {A : Around} {s : Shared} {E : Value -> Shared -> Prop}
end
section
variable {X : Cx} {k : Nat} {f : Addr} {fd : FuncData} {ps : List Str} {sp : Sp} {x : Str} {p pos : Pos} {e : Expr} {es : List Expr} {t : TA} {st : Stmt}
end
abbrev Bw := List (Int × Int)
section
variable {es : Bw} {cn k : Nat} {row : List Int}
end
section
variable {es : Bw} {cn : Nat} {S : List Int}
end
section
variable {es : Bw} {cn : Nat} {r : List Int}
end
end L2
namespace L2
open PySem PySem.Spec PyProof.Rows PySem.W
def hE : Nat -> List (List Nat)
 | 0 => [[]]
 | n + 1 => hE n ++ (hE n).map fun l => l ++ [n]
theorem vK (n : Nat) : (hE n).length = 2 ^ n := by
 induction n with
 | zero => rfl
 | succ n ih => show (hE n ++ _).length = _; rw [Ck, B9, ih, Nat.pow_succ]; omega
theorem xF {α : Type} {l : List α} {i : Nat} {x d : α} (h : l[i]? = some x) : l.getD i d = x := by rw [Cb, h]; rfl
section
variable {s : Shared} {A : Around} {w : World} {prog : Program} {E : Value -> Shared -> Prop}
end
theorem rN (n : Nat) : ∀ l ∈ hE n, ∀ x ∈ l, x < n := by
 induction n with
 | zero => intro l hl x hx; rw [Cm.mp hl] at hx; cases hx
 | succ n ih =>
  intro l hl x hx
  rcases CC.mp hl with z | z
  ·have := ih l z x hx; omega
  ·obtain ⟨l', h1, rfl⟩ := Ci.mp z
   rcases CC.mp hx with y | y
   ·have := ih l' h1 x y; omega
   ·rw [Cm.mp y]; omega
def gr (st : List Int) (l : List Nat) : List Int := l.map fun k => st.getD k 0
section
variable {X : Cx}
end
section
variable {X : Cx} {pins : List (Addr × Obj)} {σ : St} {H : Hp} {s : Shared} {h' : Heap}
end
section
variable {X : Cx} {a : Expr} {ta : TA} {p1 p2 kpos pos : Pos}
end
end L2
namespace L2
open PySem PySem.Spec PyProof.Rows
theorem tQ (st : List Int) (l : List Nat) (j : Nat) : gr st (l ++ [j]) = gr st l ++ [st.getD j 0] := by unfold gr; rw [Cn]; rfl
end L2
namespace L2
open PySem PySem.Spec PyProof.Rows PySem.W
abbrev SD := Array Nat × Array (Nat × Nat × Nat) × Nat
section
variable {prog : Program} {w : World} {E : Value -> Shared -> Prop} {A : Around} {κ : SortKind} {it : Array Keyed} {s : Shared} {n : Nat} {lt : Nat -> Nat -> Bool}
end
section
variable (n : Nat) (lt : Nat -> Nat -> Bool) (left : Bool) (k : Nat) (q : Array Nat) (base hint mx : Nat)
end
section
variable {prog : Program} {w : World} {E : Value -> Shared -> Prop} {A : Around} {κ : SortKind} {it : Array Keyed} {s : Shared} {n : Nat} {lt : Nat -> Nat -> Bool} {left : Bool} {k : Nat} {q : Array Nat} {base hint mx : Nat}
end
section
variable {prog : Program} {w : World} {E : Value -> Shared -> Prop} {A : Around} {κ : SortKind} {it : Array Keyed} {s : Shared} {n : Nat} {lt : Nat -> Nat -> Bool}
end
section
variable {prog : Program} {w : World} {E : Value -> Shared -> Prop} {A : Around} {κ : SortKind} {it : Array Keyed} {s : Shared} {n : Nat} {lt : Nat -> Nat -> Bool} {qa qb : Array Nat} {mg : Nat}
end
def putAt {α : Type} (off : Nat) (m : Array α) (p : Array α) : Array α := m.toList.zipIdx.foldl (fun a x => a.setIfInBounds (off + x.2) x.1) p
section
variable {prog : Program} {w : World} {E : Value -> Shared -> Prop} {A : Around} {κ : SortKind} {it : Array Keyed} {s : Shared} {n : Nat} {lt : Nat -> Nat -> Bool}
end
section
variable (n : Nat) (lt : Nat -> Nat -> Bool) (lo nrem : Nat)
end
section
variable {prog : Program} {w : World} {E : Value -> Shared -> Prop} {A : Around} {κ : SortKind} {it : Array Keyed} {s : Shared} {n : Nat} {lt : Nat -> Nat -> Bool} {lo nrem : Nat}
end
section
variable (n : Nat) (lt : Nat -> Nat -> Bool) (size mr : Nat)
end
section
variable {prog : Program} {w : World} {E : Value -> Shared -> Prop} {A : Around} {κ : SortKind} {it : Array Keyed} {s : Shared} {n : Nat} {lt : Nat -> Nat -> Bool}
end
set_option synthInstance.maxSize 4096 in
set_option synthInstance.maxHeartbeats 200000 in
instance dSD : DecidableEq (Nat × SD) := instDecidableEqProd (α := Nat) (β := Array Nat × Array (Nat × Nat × Nat) × Nat)
def B4 : List Nat := [0, 1, 3, 7, 15, 31, 63, 47, 23, 55, 39, 11, 27, 59, 43, 19, 51, 35, 5, 13, 29, 61, 45, 21, 53, 37, 9, 25, 57, 41, 17, 49, 33, 2, 6, 14, 30, 62, 46, 22, 54, 38, 10, 26, 58, 42, 18, 50, 34, 4, 12, 28, 60, 44, 20, 52, 36, 8, 24, 56, 40, 16, 48, 32]
def B5 : List Nat := [0, 1, 33, 49, 57, 61, 63, 2, 18, 26, 30, 32, 34, 42, 46, 48, 50, 54, 56, 58, 60, 62, 3, 11, 15, 17, 19, 23, 25, 27, 29, 31, 35, 39, 41, 43, 45, 47, 51, 53, 55, 59, 4, 8, 10, 12, 14, 16, 20, 22, 24, 28, 36, 38, 40, 44, 52, 5, 7, 9, 13, 21, 37, 6]
theorem kF {α : Type} (vs : List α) (d : α) : (Cf vs.length).map (fun i => vs.getD i d) = vs := by
 apply DB
 ·simp
 ·intro i h1 h2
  rw [C7, DR, Cb, Ca h2]; rfl
section
variable {prog : Program} {w : World} {E : Value -> Shared -> Prop} {A : Around} {κ : SortKind} {s : Shared} {n : Nat} {lt : Nat -> Nat -> Bool} {q : List Nat} {ks vs : List Value}
end
section
variable {X : Cx}
end
section
variable {X : Cx} {pins : List (Addr × Obj)} {σ : St} {H : Hp} {s : Shared} {h' : Heap}
end
section
variable {X : Cx}
end
section
variable {X : Cx} {E : Value -> Shared -> Prop} {f : Value} {r : V -> Hp -> VK -> Prop} {kS D : Addr} {e1 : Nat} {pins : List (Addr × Obj)} {σ : St}
end
section
variable {X : Cx} {pins : List (Addr × Obj)} {σ : St} {H : Hp} {s : Shared} {r : V -> Hp -> VK -> Prop} {C : List V -> Hp -> Nat -> (Nat -> Nat -> Bool) -> Prop}
end
section
variable {X : Cx} {a : Expr} {ta : TA} {p1 p2 kpos pos : Pos}
def BM (a b : List Int) : Bool := if a.length = b.length then HT.xZ a b else decide (a.length < b.length)
end
section
variable {X : Cx} {a : Expr} {ta : TA} {p1 p2 kpos pos : Pos}
end
section
variable {n : Nat} {lt : Nat -> Nat -> Bool}
end
def qS : Nat -> List Nat
 | 0 => [0]
 | 1 => [0, 1]
 | 2 => [0, 1, 3, 2]
 | 3 => [0, 1, 3, 7, 5, 2, 6, 4]
 | 4 => [0, 1, 3, 7, 15, 11, 5, 13, 9, 2, 6, 14, 10, 4, 12, 8]
 | 5 => [0, 1, 3, 7, 15, 31, 23, 11, 27, 19, 5, 13, 29, 21, 9, 25, 17, 2, 6, 14, 30, 22, 10, 26, 18, 4, 12, 28, 20, 8, 24, 16]
 | _ => B4
def qK : Nat -> List Nat
 | 0 => [0]
 | 1 => [0, 1]
 | 2 => [0, 1, 3, 2]
 | 3 => [0, 1, 5, 7, 2, 4, 6, 3]
 | 4 => [0, 1, 9, 13, 15, 2, 6, 8, 10, 12, 14, 3, 5, 7, 11, 4]
 | 5 => [0, 1, 17, 25, 29, 31, 2, 10, 14, 16, 18, 22, 24, 26, 28, 30, 3, 7, 9, 11, 13, 15, 19, 21, 23, 27, 4, 6, 8, 12, 20, 5]
 | _ => B5
def Bx (n : Nat) : List Nat := (qK n).map fun i => (qS n).getD i 0
theorem AB {P : Nat -> Prop} (h0 : P 0) (h1 : P 1) (h2 : P 2) (h3 : P 3) (h4 : P 4) (h5 : P 5) (h6 : P 6) : ∀ n, n <= 6 -> P n
 | 0, _ => h0 | 1, _ => h1 | 2, _ => h2 | 3, _ => h3 | 4, _ => h4 | 5, _ => h5 | 6, _ => h6
 | n + 7, h => absurd h (by omega)
theorem vL : ∀ n, n <= 6 -> (Bx n).Perm (Cf (2 ^ n)) := fun n h => List.isPerm_iff.mp (AB (P := fun n => (Bx n).isPerm (Cf (2 ^ n)) = true) (by decide +kernel) (by decide +kernel) (by decide +kernel) (by decide +kernel) (by decide +kernel) (by decide +kernel) (by decide +kernel) n h)
def By (st : List Int) : List (List Int) := (Bx st.length).map fun i => gr st ((hE st.length).getD i [])
theorem vM {st : List Int} (h6 : st.length <= 6) : (By st).Perm ((hE st.length).map (gr st)) := by
 have := (vL _ h6).map fun i => gr st ((hE st.length).getD i [])
 have e : (Cf (2 ^ st.length)).map (fun i => gr st ((hE st.length).getD i [])) = (hE st.length).map (gr st) := by
  have p := kF (hE st.length) []
  rw [vK] at p
  conv => rhs; rw [<- p]
  rw [CB]
  rfl
 rw [e] at this
 exact this
theorem ph {α : Type} (l : List α) (d : α) (P : α -> Bool) : ((Cf l.length).filter fun i => P (l.getD i d)).map (fun i => l.getD i d) = l.filter P := by
 conv => rhs; rw [<- kF l d]
 rw [Ek]
 rfl
theorem cP {α : Type} {l : List α} {i : Nat} {d : α} (h : i < l.length) : l[i]? = some (l.getD i d) := by
 rw [Cb, Ca h]; rfl
def AC (st : List Int) : List (List Int) := (hE st.length).map (gr st)
theorem pj {st : List Int} {x : Int} {l : List Nat} (h : ∀ k ∈ l, k < st.length) : gr (st ++ [x]) l = gr st l := by
 unfold gr
 refine Cv fun k hk => ?_
 rw [Cb, Cb, CI (h k hk)]
theorem vN (st : List Int) (x : Int) : AC (st ++ [x]) = AC st ++ (AC st).map fun l => l ++ [x] := by
 unfold AC
 rw [Ck, Cp]
 show (hE st.length ++ (hE st.length).map fun l => l ++ [st.length]).map (gr (st ++ [x])) = _
 rw [Cn]
 refine congr (congrArg _ ?_) ?_
 ·exact Cv fun l hl => pj (rN _ l hl)
 ·rw [CB, CB]
  refine Cv fun l hl => ?_
  show gr (st ++ [x]) (l ++ [st.length]) = gr st l ++ [x]
  rw [tQ, pj (rN _ l hl), Cb, CN (Cg _), Du]
  rfl
def zd (l g : List Int) : List Int := l.filter fun x => !decide (x ∈ g)
def ze (may : List (List Int)) (g : List Int) : List (List Int) := may.map fun l => zd l g
theorem nM {l g : List Int} {x : Int} : x ∈ zd l g <-> x ∈ l /\ x ∉ g := by unfold zd; rw [CG]; simp
theorem zf {l g : List Int} (h : l.Pairwise (· < ·)) : (zd l g).Pairwise (· < ·) := List.Pairwise.filter _ h
theorem rO {may : List (List Int)} {g : List Int} : (ze may g).length = may.length := B9 _
theorem qI {may : List (List Int)} {g : List Int} {i : Nat} : (ze may g).getD i [] = zd (may.getD i []) g := by
 unfold ze
 rw [Cb, Cd, Cb]
 cases may[i]? <;> rfl
theorem rP {may : List (List Int)} {ts : List oZ} {g hs : List Int} : IsPlan (ze may g) ts hs <-> IsPlan may ts hs /\ ∀ x ∈ hs, x ∉ g := by
 constructor
 ·intro p
  have l := p.len
  rw [rO] at l
  refine ⟨⟨l, fun i hi => ?_, p.kp⟩, fun x hx => ?_⟩
  ·have := p.of i hi
   rw [qI, nM] at this
   exact this.1
  ·obtain ⟨i, hi, rfl⟩ := Cq.mp hx
   have := p.of i hi
   rw [qI, nM, aC hi] at this
   exact this.2
 ·rintro ⟨p, h⟩
  refine ⟨by rw [rO]; exact p.len, fun i hi => ?_, p.kp⟩
  rw [qI, nM]
  exact ⟨p.of i hi, h _ (by rw [aC hi]; exact CL hi)⟩
structure AllOf (may : List (List Int)) (U : List Int) : Prop where
 up : U.Pairwise (· < ·)
 mem : ∀ x, x ∈ U <-> ∃ p ∈ may, x ∈ p
theorem AllOf.sub {may : List (List Int)} {U : List Int} (a : AllOf may U) : ∀ p ∈ may, ∀ b ∈ p, b ∈ U := fun p hp b hb => (a.mem b).mpr ⟨p, hp, hb⟩
theorem vO {may : List (List Int)} {ts : List oZ} {hs U : List Int} (p : IsPlan may ts hs) (a : AllOf may U) : ∀ x ∈ hs, x ∈ U := fun x hx => by
 obtain ⟨i, hi, rfl⟩ := Cq.mp hx
 have := p.of i hi
 rw [aC hi] at this
 have hl := p.len
 rw [iE (by omega)] at this
 exact a.sub _ (CL (by omega)) _ this
theorem mv (P : Int -> Bool) : ∀ (n : Nat) (U : List Int), U.length = n -> U.filter P ∈ AC U
 | 0, U, h => by rw [Dq h]; exact Cm.mpr rfl
 | n + 1, U, h => by
  rcases List.eq_nil_or_concat U with rfl | ⟨V, x, rfl⟩
  ·cases h
  ·rw [List.concat_eq_append] at h ⊢
   rw [Ck, Cp] at h
   have ih := mv P n V (by omega)
   rw [vN, C9, DI, List.filter_nil]
   by_cases c : P x = true
   ·rw [if_pos c]; exact CJ _ (Ci.mpr ⟨_, ih, rfl⟩)
   ·rw [if_neg c, Dv]; exact CA _ ih
theorem tR {U : List Int} (h6 : U.length <= 6) (P : Int -> Bool) : U.filter P ∈ By U := (vM h6).mem_iff.mpr (mv P _ U rfl)
theorem BN {may : List (List Int)} {ts : List oZ} {U g : List Int} {Ps : List (List Int)} (A : AllOf may U) (h6 : U.length <= 6) (pn : ∀ hs ∈ Ps, IsPlan may ts hs) (fw : ∀ s ∈ By U, BM s g = true -> ∃ hs ∈ Ps, ∀ x ∈ hs, x ∉ s) {S : List Int} (no : ∀ hs, ¬ IsPlan (ze may S) ts hs) : g.length <= S.length := by
 refine Decidable.byContradiction fun z => ?_
 have m := tR h6 (fun x => decide (x ∈ S))
 have le : (U.filter fun x => decide (x ∈ S)).length <= S.length := ((rG A.up).sublist List.filter_sublist).length_le_of_subset fun x hx => of_decide_eq_true (CG.mp hx).2
 obtain ⟨hs, hm, hd⟩ := fw _ m (by unfold BM; rw [if_neg (by omega)]; exact decide_eq_true (by omega))
 refine no hs (rP.mpr ⟨pn hs hm, fun x hx hS => hd x hx (CG.mpr ⟨vO (pn hs hm) A x hx, decide_eq_true hS⟩)⟩)
end L2
namespace L2
open PySem PySem.Spec PyProof.Rows
section
variable {X : Cx} {tg : Expr}
def zg (ta : TA) : TI := fun σ H R => ta σ H fun vs H1 => ∃ i j k : Int, vs = [.int i, .int j, .int k] /\ 0 <= i /\ i < 2 ^ 60 /\ -(2 ^ 60) < j /\ j < 2 ^ 60 /\ 0 < k /\ k < 1073741824 /\ R (uT i k (if i < j then (j - i - 1) / k + 1 else 0).toNat) H1
theorem qJ {a b c : Expr} {ta : TA} {p pos : Pos} (hg : Gl X "range") (hm : X.mg "range" = none) (ha : PA X [a, b, c] ta) (hs : starEach [a, b, c] X.env = [(false, eval a X.env), (false, eval b X.env), (false, eval c X.env)] := by rfl)
  (hs2 : starEach [b, c] X.env = [(false, eval b X.env), (false, eval c X.env)] := by rfl) : PI X tg (.Call (.Name "range" p) [a, b, c] [] pos) (zg ta) := by
 intro pins s σ H R I h
 refine Call_ (e8 I hg hm boot_range (PyProof.Rows.callWith_type1 (bC (ha pos pins s σ H _ I h) fun us s1 ⟨vs, H1, I1, r1, q1⟩ => ?_) (by rw [hs, hs2]) (by rw [hs2]; rfl)))
 obtain ⟨i, j, k, e, h1, h2, h3, h4, h5, h6, q⟩ := q1
 subst e
 cases r1 with
 | cons r rr =>
  cases rr with
  | cons r' rr =>
   cases rr with
   | cons r'' rr =>
    cases rr
    obtain ⟨t, rfl⟩ := r
    obtain ⟨t', rfl⟩ := r'
    obtain ⟨t'', rfl⟩ := r''
    have hfit : ∀ z : Int, -(2 ^ 62) <= z -> z < 2 ^ 62 -> Builtin.Range.rangeFitsLong z = true := fun z a b => by
     unfold Builtin.Range.rangeFitsLong
     rw [C6, decide_eq_true_eq, decide_eq_true_eq]
     omega
    have hsz : Builtin.Range.rangeSize i j k = (if i < j then (j - i - 1) / k + 1 else 0) := by
     unfold Builtin.Range.rangeSize
     rw [if_pos h5]
    have hnn : 0 <= (if i < j then (j - i - 1) / k + 1 else 0) := by
     split
     ·have := Int.ediv_nonneg (a := j - i - 1) (b := k) (by omega) (by omega); omega
     ·omega
    have hle : (if i < j then (j - i - 1) / k + 1 else 0) < 2 ^ 62 := by
     split
     ·have := Int.ediv_le_self (a := j - i - 1) k (by omega); omega
     ·omega
    have hsm : Builtin.Range.small i j k = true := by
     unfold Builtin.Range.small
     rw [hsz, hfit i (by omega) (by omega), hfit j (by omega) (by omega), hfit k (by omega) (by omega), hfit _ (by omega) hle, if_pos h5, hfit (j + (k - 1)) (by omega) (by omega)]
     simp
    refine call_range_3 (by omega) ?_ (Or.inl (PyProof.noPylong_small (by omega)))
    refine wpAny_pyIter_range (IsRange.new ..) hsm ?_
    generalize hs9 : ({ s1 with heap := s1.heap.push { cls := .type "range", data := .fields #[.int i t, .int j t', .int k t''] }, toks := s1.toks } : Shared) = s2
    have I2 : Inv X pins σ H1 s2 := by rw [<- hs9]; exact I1.kept fun b o e => Heap.get?_push_of_some _ e
    refine ⟨s2.heap.objs.size, [s2.heap.objs.size], _, _, H1, rfl, I2.kept (t' := s2.toks) fun b o e => Heap.get?_push_of_some _ e, sQ _ i k (if i < j then (j - i - 1) / k + 1 else 0).toNat, ?_, fun b hb => ?_, q⟩
    ·have e1 : i + ((0 : Nat) : Int) * k = i := by simp
     have e2 : (((if i < j then (j - i - 1) / k + 1 else 0).toNat : Nat) : Int) - ((0 : Nat) : Int) = Builtin.Range.rangeSize i j k := by rw [hsz]; omega
     rw [e1, e2]
     exact Heap.get?_push_size _ rfl
    ·have e : b = s2.heap.objs.size := by simpa using hb
     subst e
     exact I2.fpOk (Cg _) (I2.hok.fresh (Cg _))
end
abbrev bO := List (List (Int × Int))
def bx (rows : bO) : List (List Int) := rows.map au
def AD (row : List (Int × Int)) (g : List Int) : List (Int × Int) := row.filter fun x => !decide (x.1 ∈ g)
def mw (rows : bO) (g : List Int) : bO := rows.map fun row => AD row g
theorem jG (row : List (Int × Int)) (g : List Int) : au (AD row g) = zd (au row) g := by
 unfold au AD zd
 rw [Ek]
 rfl
theorem xG (rows : bO) (g : List Int) : bx (mw rows g) = ze (bx rows) g := by
 unfold bx mw ze
 rw [CB, CB]
 exact Cv fun row _ => jG row g
theorem cJ (rows : bO) : (bx rows).length = rows.length := B9 _
structure BillOk (rows : bO) (bs : List Int) : Prop where
 up : ∀ row ∈ rows, (au row).Pairwise (· < ·)
 inn : ∀ row ∈ rows, ∀ x ∈ row, x.1 ∈ bs
 len : ∀ row ∈ rows, row.length <= bs.length
 bu : bs.Pairwise (· < ·)
 pos : ∀ b ∈ bs, 1 <= b
theorem pz {H : Hp} : ∀ {ps : List Addr} {row : List (Int × Int)} (P : Int × Int -> Bool), TupsL H ps row -> ∃ qs : List Addr, ((Cf ps.length).filter fun i => P (row.getD i (0, 0))).map (fun i => V.ref (ps.getD i 0)) = qs.map V.ref /\ TupsL H qs (row.filter P) := by
 intro ps row P tp
 have la : ps.length = row.length := Paired.length tp
 refine ⟨((Cf ps.length).filter fun i => P (row.getD i (0, 0))).map fun i => ps.getD i 0, by rw [CB]; rfl, ?_⟩
 have key : ∀ q : List Nat, (∀ i ∈ q, i < row.length) -> TupsL H (q.map fun i => ps.getD i 0) (q.map fun i => row.getD i (0, 0)) := by
  intro q
  induction q with
  | nil => exact fun _ => .nil
  | cons i q ih =>
   intro h
   obtain ⟨a, e1, e2⟩ := cj tp (cP (d := (0, 0)) (h i CM))
   exact .cons (by show b7 H (ps.getD i 0) _; rw [xF e1]; exact e2) (ih fun j hj => h j (Cz _ hj))
 have := key ((Cf ps.length).filter fun i => P (row.getD i (0, 0))) fun i hi => by
  have := CD.mp (CG.mp hi).1
  omega
 rw [la, ph] at this
 rw [la]
 exact this
section
variable {X : Cx} {k i : Nat} {f C : Addr} {fd : FuncData} {ps : List Str} {sp : Sp} {x y nm : Str} {st : Stmt} {p cpos epos np hpos pos xpos : Pos} {e : Expr} {es : List Expr} {t : TA} {b₀ : Stmt} {suite : List Stmt} {ts : TS} {c : Value}
end
end L2
namespace L2
open PySem PySem.Spec PyProof.Rows PySem.W
theorem my (B : Nat) (x : Int) (k : Nat) (hk : k < B) : ((Cf B).map fun b => if k = b then x else 0).sum = x := by
 induction B with
 | zero => omega
 | succ B ih =>
  rw [Dc, Cn, List.sum_append]
  simp only [Co, Ed, List.sum_cons, List.sum_nil]
  by_cases c : k < B
  ·rw [ih c, if_neg (by omega)]; omega
  ·have e : k = B := by omega
   have z : ((Cf B).map fun b => if k = b then x else 0) = (Cf B).map fun _ => (0 : Int) := Cv fun b hb => if_neg (by have := CD.mp hb; omega)
   have z2 : ((Cf B).map fun _ => (0 : Int)).sum = 0 := by
    clear z ih hk c e
    induction B with
    | zero => rfl
    | succ B ih => rw [Dc, Cn, List.sum_append, ih]; rfl
   rw [z, z2, if_pos e]; omega
theorem pB {α : Type} (l : List α) (f g : α -> Int) : (l.map fun b => f b + g b).sum = (l.map f).sum + (l.map g).sum := by
 induction l with
 | nil => rfl
 | cons a l ih => simp only [Co, List.sum_cons, ih]; omega
theorem kG (B : Nat) (g : Nat -> Nat) (f : Nat -> Int) : ∀ m, (∀ i, i < m -> g i < B) -> ((Cf B).map fun b => (((Cf m).filter fun i => decide (g i = b)).map f).sum).sum = ((Cf m).map f).sum
 | 0, _ => by
  have : ((Cf B).map fun b => (((Cf 0).filter fun i => decide (g i = b)).map f).sum) = (Cf B).map fun _ => (0 : Int) := rfl
  rw [this]
  clear this
  induction B with
  | zero => rfl
  | succ B ih => rw [Dc, Cn, List.sum_append, ih fun i h => absurd h (Nat.not_lt_zero _)]; rfl
 | m + 1, h => by
  have ih := kG B g f m fun i hi => h i (by omega)
  rw [Dc, Cn, List.sum_append, <- ih]
  have e : ((Cf B).map fun b => (((Cf m ++ [m]).filter fun i => decide (g i = b)).map f).sum) = (Cf B).map fun b => (((Cf m).filter fun i => decide (g i = b)).map f).sum + if g m = b then f m else 0 := by
   refine Cv fun b _ => ?_
   rw [C9, Cn, List.sum_append, DI, List.filter_nil]
   by_cases c : g m = b
   ·rw [if_pos (decide_eq_true c), if_pos c]; simp
   ·rw [if_neg (by rw [decide_eq_false c]; exact Ct), if_neg c]; rfl
  rw [e, pB, my B (f m) (g m) (h m (by omega))]
  simp
theorem xH {p : List Int} (c : bU p) (f : Nat -> Int) : ((Cf (dd p).length).map fun b => ((cF p b).map f).sum).sum = ((Cf p.length).map f).sum := by
 have key : ∀ i, i < p.length -> ∃ b : Nat, p.getD i 0 = (b : Int) /\ b < (dd p).length := fun i hi => by
  obtain ⟨b, e, hb⟩ := cZ c (x := p.getD i 0) (by rw [aC hi]; exact CL hi)
  exact ⟨b, e, hb⟩
 have e : ∀ b, cF p b = (Cf p.length).filter fun i => decide ((p.getD i 0).toNat = b) := fun b => by
  unfold cF
  refine List.filter_congr fun i hi => ?_
  obtain ⟨b', e1, _⟩ := key i (CD.mp hi)
  rw [e1, CV]
  exact decide_eq_decide.mpr ⟨fun h => by omega, fun h => by omega⟩
 have e2 : ((Cf (dd p).length).map fun b => ((cF p b).map f).sum) = (Cf (dd p).length).map fun b => (((Cf p.length).filter fun i => decide ((p.getD i 0).toNat = b)).map f).sum := Cv fun b _ => by rw [e b]
 rw [e2]
 refine kG _ (fun i => (p.getD i 0).toNat) f p.length fun i hi => ?_
 obtain ⟨b', e1, hb⟩ := key i hi
 rw [e1, CV]
 exact hb
theorem vP {rows : bO} (nd : ∀ row ∈ rows, (au row).Nodup) {st : List Nat} (hs : st ≠ []) {b : Int} (hb : b ∈ ju rows st) : aK (g4 rows st) b = some (iM rows st b) := by
 rw [nD nd st hs]
 generalize ju rows st = ks at hb
 unfold aK
 induction ks with
 | nil => cases hb
 | cons k ks ih =>
  rw [Co, C1]
  by_cases e : k = b
  ·subst e
   simp
  ·rcases Cr.mp hb with z | z
   ·exact absurd z.symm e
   ·have : ((k, iM rows st k).1 == b) = false := by simpa using e
    rw [this]
    exact ih z
theorem kH {rows : bO} (nd : ∀ row ∈ rows, (au row).Nodup) {st : List Nat} (hs : st ≠ []) : au (g4 rows st) = ju rows st := by
 rw [nD nd st hs]
 unfold au
 rw [CB]
 exact List.map_id _
theorem aJ (rows : bO) (p : List Int) : (bF rows p).length = (dd p).length := by unfold bF; rw [B9, CP]
theorem pD {rows : bO} {p : List Int} {b : Nat} (h : b < (dd p).length) : (bF rows p).getD b [] = g4 rows (cF p b) := by
 unfold bF
 rw [Cb, Cd, Dj h]; rfl
theorem gu {rows : bO} (nd : ∀ row ∈ rows, (au row).Nodup) {p : List Int} (c : bU p) : ∀ b, b < (dd p).length -> ∀ x, x ∈ au ((bF rows p).getD b []) <-> x ∈ gU (bx rows) p b := fun b hb x => by
 rw [pD hb, kH nd (cX c hb)]
 unfold gU
 rw [vk _ (cX c hb), fS (cX c hb)]
 have e : ∀ s, (bx rows).getD s [] = au (rows.getD s []) := fun s => by
  unfold bx
  rw [Cb, Cd, Cb]
  cases rows[s]? <;> rfl
 simp only [e]
theorem kI {rows : bO} (nd : ∀ row ∈ rows, (au row).Nodup) {p ds : List Int} (c : bU p) (hl : ds.length = (dd p).length) (inn : ∀ b, b < (dd p).length -> ds.getD b 0 ∈ au ((bF rows p).getD b [])) :
  lB (bF rows p) ds = ((Cf p.length).map fun s => (aK (rows.getD s []) (ds.getD (p.getD s 0).toNat 0)).getD 0).sum := by
 rw [<- fU (by rw [aJ]; exact hl), <- xH c]
 unfold aI
 rw [aJ]
 refine congrArg List.sum (Cv fun b hb => ?_)
 have hb := CD.mp hb
 have m := inn b hb
 unfold bE
 rw [pD hb] at m ⊢
 rw [kH nd (cX c hb)] at m
 rw [vP nd (cX c hb) m]
 show iM rows (cF p b) (ds.getD b 0) = _
 unfold iM
 refine congrArg List.sum (Cv fun s hs => ?_)
 rw [(de.mp hs).2, CV]
theorem fm (f : Nat -> Int) (nn : ∀ i, 0 <= f i) : ∀ (m n : Nat), m <= n -> ((Cf m).map f).sum <= ((Cf n).map f).sum
 | m, 0, h => by
  have : m = 0 := by omega
  subst this; exact Int.le_refl _
 | m, n + 1, h => by
  by_cases e : m = n + 1
  ·subst e; exact Int.le_refl _
  ·have ih := fm f nn m n (by omega)
   rw [Dc, Cn, List.sum_append]
   have := nn n
   simp only [Co, Ed, List.sum_cons, List.sum_nil]
   omega
theorem xI {row : List (Int × Int)} (h : ∀ x ∈ row, 0 <= x.2) (b : Int) : 0 <= (aK row b).getD 0 := by
 cases e : aK row b with
 | none => exact Int.le_refl _
 | some c => exact h _ (dZ e)
theorem nN {rows : bO} (h : ∀ row ∈ rows, ∀ x ∈ row, 0 <= x.2) (s : Nat) (b : Int) : 0 <= (aK (rows.getD s []) b).getD 0 := by
 refine xI (fun x hx => ?_) b
 rw [Cb] at hx
 cases e : rows[s]? with
 | none => rw [e] at hx; cases hx
 | some row => rw [e] at hx; exact h row (Ce e) x hx
theorem mz {rows : bO} {ts : List oZ} (nd : ∀ row ∈ rows, (au row).Nodup) (nn : ∀ row ∈ rows, ∀ x ∈ row, 0 <= x.2) {p hs : List Int} (b : Beg p hs) (ip : IsPlan (bx rows) ts hs) {t : Int} (be : AA (bF rows p) (some t)) : t <= aI rows hs := by
 have c := b.canon
 have hl := ip.len
 rw [cJ] at hl
 have hin : ∀ k, k < (dd p).length -> fx p (k : Int) < p.length /\ p.getD (fx p (k : Int)) 0 = (k : Int) := fun k hk => by
  have := c4 c hk
  refine ⟨gT this, ?_⟩
  rw [Cb, j8 this]; rfl
 have at' : ∀ k, k < (dd p).length -> ((Cf (dd p).length).map fun (k : Nat) => hs.getD (fx p (k : Int)) 0).getD k 0 = hs.getD (fx p (k : Int)) 0 := fun k hk => by
  rw [Cb, Cd, Dj hk]; rfl
 have dl : ((Cf (dd p).length).map fun (k : Nat) => hs.getD (fx p (k : Int)) 0).length = (dd p).length := by rw [B9, CP]
 have inn : ∀ k, k < (dd p).length -> ((Cf (dd p).length).map fun (k : Nat) => hs.getD (fx p (k : Int)) 0).getD k 0 ∈ au ((bF rows p).getD k []) := fun k hk => by
  rw [at' k hk, gu nd c k hk, fT c hk]
  intro i hi ei
  obtain ⟨a1, a2⟩ := hin k hk
  have := (b.same a1 hi).mp (by rw [a2, ei])
  rw [this]
  exact ip.of i (CH hi b.1)
 have nd2 : ((Cf (dd p).length).map fun (k : Nat) => hs.getD (fx p (k : Int)) 0).Nodup := by
  rw [Cu, Dk]
  refine List.Pairwise.imp_of_mem ?_ (Cu.mp List.nodup_range)
  intro k r hk hr hne e
  obtain ⟨a1, a2⟩ := hin k (CD.mp hk)
  obtain ⟨b1, b2⟩ := hin r (CD.mp hr)
  have := (b.same a1 b1).mpr e
  rw [a2, b2] at this
  omega
 have cs := kI nd c dl inn
 generalize ((Cf (dd p).length).map fun (k : Nat) => hs.getD (fx p (k : Int)) 0) = ds at at' dl inn nd2 cs
 have dp : DP (bF rows p) ds := by
  refine (pd.mp (⟨by rw [B9, aJ]; exact dl, fun k h1 h2 => ?_, nd2⟩ : Deal ((bF rows p).map au) ds)).1
  have hk : k < (dd p).length := by omega
  have := inn k hk
  rw [aC h1] at this
  rw [C7]
  have e : (bF rows p).getD k [] = (bF rows p)[k]'(by rw [aJ]; exact hk) := xF (Ca (by rw [aJ]; exact hk))
  rw [e] at this
  exact this
 have low := be.2 ds dp nd2
 rw [cs] at low
 refine Int.le_trans low ?_
 have e3 : ((Cf p.length).map fun s => (aK (rows.getD s []) (ds.getD (p.getD s 0).toNat 0)).getD 0) = (Cf p.length).map (bE rows hs) := by
  refine Cv fun s hs' => ?_
  have hs' := CD.mp hs'
  unfold bE
  obtain ⟨k, e, hk⟩ := cZ c (x := p.getD s 0) (by rw [aC hs']; exact CL hs')
  rw [e, CV, at' k hk]
  obtain ⟨a1, a2⟩ := hin k hk
  rw [(b.same a1 hs').mp (by rw [a2, e])]
 rw [e3]
 unfold aI
 exact fm _ (fun i => nN nn i _) _ _ (by have := b.1; omega)
theorem jb {rows : bO} (nd : ∀ row ∈ rows, (au row).Nodup) {p ds : List Int} (c : bU p) (hl : p.length = rows.length) (d : Deal ((bF rows p).map au) ds) : aI rows (p.map fun x => ds.getD x.toNat 0) = lB (bF rows p) ds := by
 have dl := d.len
 rw [B9, aJ] at dl
 rw [kI nd c dl fun b hb => ?_]
 ·unfold aI
  rw [<- hl]
  refine congrArg List.sum (Cv fun s hs => ?_)
  have hs := CD.mp hs
  unfold bE
  have e : (p.map fun x => ds.getD x.toNat 0).getD s 0 = ds.getD (p.getD s 0).toNat 0 := by simp [Cb, hs]
  rw [e]
 ·have h1 : b < ds.length := by omega
  have h2 : b < ((bF rows p).map au).length := by rw [B9, aJ]; exact hb
  have := d.of b h1 h2
  rw [C7] at this
  rw [aC h1, xF (d := []) (Ca (show b < (bF rows p).length by rw [aJ]; exact hb))]
  exact this
structure QB (rows : bO) (U : List Int) : Prop where
 r6 : rows.length <= 6
 ok : ∀ row ∈ rows, row.length <= 20 /\ (au row).Nodup
 up : ∀ row ∈ rows, (au row).Pairwise (· < ·)
 nn : ∀ row ∈ rows, ∀ x ∈ row, 0 <= x.2
 sub : ∀ row ∈ rows, ∀ x ∈ row, x.1 ∈ U
 u26 : U.length <= 26
theorem QB.nd {rows : bO} {U : List Int} (h : QB rows U) : ∀ row ∈ rows, (au row).Nodup := fun row hr => (h.ok row hr).2
theorem xJ {rows : bO} {U : List Int} (h : QB rows U) : ∀ st, st ≠ [] -> (ju rows st).Nodup /\ (ju rows st).length <= 20 /\ ∀ b ∈ ju rows st, b ∈ U := by
 refine jE (fun s => ?_) (fun st s hne ih => ?_)
 ·show (au (rows.getD s [])).Nodup /\ (au (rows.getD s [])).length <= 20 /\ ∀ b ∈ au (rows.getD s []), b ∈ U
  rw [Cb]
  cases e : rows[s]? with
  | none => exact ⟨Eb, CK _, fun _ z => by cases z⟩
  | some row =>
   have m := Ce e
   refine ⟨(h.ok row m).2, ?_, fun b hb => ?_⟩
   ·show (row.map (·.1)).length <= 20
    rw [B9]; exact (h.ok row m).1
   ·obtain ⟨x, hx, rfl⟩ := Ci.mp hb
    exact h.sub row m x hx
 ·rw [iO hne]
  exact ⟨ih.1.sublist List.filter_sublist, CO (CT _ _) ih.2.1, fun b hb => ih.2.2 b (CG.mp hb).1⟩
theorem rQ {rows : bO} {U : List Int} (h : QB rows U) {p : List Int} (c : bU p) : ∀ row ∈ bF rows p, (row.map (·.1)).Nodup /\ row.length <= 20 /\ ∀ x ∈ row, 0 <= x.2 /\ x.1 ∈ U := fun row hr => by
 obtain ⟨b, hb, rfl⟩ := Ci.mp hr
 have hb := CD.mp hb
 have ne := cX c hb
 obtain ⟨k1, k2, k3⟩ := xJ h _ ne
 have ek : (g4 rows (cF p b)).map (·.1) = ju rows (cF p b) := kH h.nd ne
 refine ⟨by rw [ek]; exact k1, ?_, fun x hx => ?_⟩
 ·rw [<- B9 (f := fun x : Int × Int => x.1), ek]; exact k2
 ·have m : x.1 ∈ ju rows (cF p b) := by rw [<- ek]; exact Ci.mpr ⟨x, hx, rfl⟩
  refine ⟨?_, k3 _ m⟩
  rw [nD h.nd _ ne] at hx
  obtain ⟨y, _, rfl⟩ := Ci.mp hx
  show 0 <= iM rows (cF p b) y
  unfold iM
  generalize cF p b = st
  induction st with
  | nil => exact Int.le_refl _
  | cons s st ih =>
   rw [Co, List.sum_cons]
   have := nN h.nn s y
   omega
theorem qL {rows : bO} (nd : ∀ row ∈ rows, (au row).Nodup) {p : List Int} (c : bU p) {qs : List Nat} (s : Short ((bF rows p).map au) qs) : Short (dE (bx rows) p) qs := by
 obtain ⟨X, hX, hq⟩ := s.few
 refine ⟨s.up, X, hX, fun q m => ?_⟩
 obtain ⟨r, e, hr⟩ := hq q m
 have hl := (Cc.mp e).1
 rw [B9, aJ] at hl
 refine ⟨_, dX hl, fun x hx => hr x ?_⟩
 have := (gu nd c q hl x).mpr hx
 have e2 : (bF rows p)[q]? = some ((bF rows p).getD q []) := cP (by rw [aJ]; exact hl)
 rw [Cd, e2] at e
 cases e
 exact this
theorem mB {rows : bO} (nd : ∀ row ∈ rows, (au row).Nodup) {p ds : List Int} (c : bU p) (d : Deal ((bF rows p).map au) ds) : Deal (dE (bx rows) p) ds := by
 have dl := d.len
 rw [B9, aJ] at dl
 refine ⟨by rw [cA]; exact dl, fun k h1 h2 => ?_, d.nd⟩
 have hk : k < (dd p).length := by omega
 have h3 : k < ((bF rows p).map au).length := by rw [B9, aJ]; exact hk
 have := d.of k h1 h3
 rw [C7] at this
 have e : (bF rows p).getD k [] = (bF rows p)[k]'(by rw [aJ]; exact hk) := xF (Ca (by rw [aJ]; exact hk))
 rw [<- e, gu nd c k hk] at this
 have e2 := dX (may := bx rows) hk
 rw [Ca h2] at e2
 rw [Option.some.inj e2]
 exact this
theorem jH {rows : bO} {ts : List oZ} {hs : List Int} (ip : IsPlan (bx rows) ts hs) : ∀ (i : Nat) row h, rows[i]? = some row -> hs[i]? = some h -> h ∈ row.map (·.1) := fun i row h e1 e2 => by
 have := ip.of i (Cc.mp e2).1
 rw [xF e2] at this
 have e : (bx rows).getD i [] = au row := by
  unfold bx
  rw [Cb, Cd, e1]; rfl
 rw [e] at this
 exact this
def rR (rows : bO) (a : Nat) (more : Int) : bO := rows.set a (dG more (rows.getD a []))
theorem xK {rows : bO} {a : Nat} {more : Int} (h : a < rows.length) : bx (rR rows a more) = bx rows := by
 unfold bx rR
 rw [List.map_set, iR]
 apply Ea
 intro i
 by_cases e : a = i
 ·subst e
  rw [DH (by rw [B9]; exact h), Cd, Ca h, Cb, Ca h]; rfl
 ·rw [DO e]
theorem xM {rows : bO} {a : Nat} {more : Int} {hs : List Int} {ts : List oZ} (h : a < rows.length) (ip : IsPlan (bx rows) ts hs) : aI (rR rows a more) hs = aI rows hs + more := by
 have hl := ip.len
 rw [cJ] at hl
 unfold aI
 have l : (rR rows a more).length = rows.length := by unfold rR; rw [Dw]
 rw [l]
 have e : (Cf rows.length).map (bE (rR rows a more) hs) = (Cf rows.length).map fun i => bE rows hs i + if a = i then more else 0 := by
  refine Cv fun i hi => ?_
  have hi := CD.mp hi
  unfold bE rR
  by_cases z : a = i
  ·subst z
   rw [if_pos rfl, Cb, DH h]
   show (aK (dG more (rows.getD a [])) (hs.getD a 0)).getD 0 = _
   rw [tP]
   have m := jH ip a (rows.getD a []) (hs.getD a 0) (cP h) (cP (by omega))
   cases e : aK (rows.getD a []) (hs.getD a 0) with
   | none => exact absurd m (cB.mp e)
   | some c => rfl
  ·rw [if_neg z, Cb, DO z, <- Cb]; omega
 rw [e, pB, my _ more a h]
theorem zh {rows : bO} {U : List Int} {a : Nat} {more : Int} (h : QB rows U) (ha : a < rows.length) (m : 0 <= more) : QB (rR rows a more) U := by
 have mem : ∀ row ∈ rR rows a more, row ∈ rows \/ row = dG more (rows.getD a []) := fun row hr => (List.mem_or_eq_of_mem_set hr)
 have ra : rows.getD a [] ∈ rows := Ce (cP ha)
 refine ⟨by unfold rR; rw [Dw]; exact h.r6, fun row hr => ?_, fun row hr => ?_, fun row hr x hx => ?_, fun row hr x hx => ?_, h.u26⟩ <;> rcases mem row hr with z | rfl
 ·exact h.ok row z
 ·rw [iR]
  refine ⟨?_, (h.ok _ ra).2⟩
  unfold dG
  rw [B9]; exact (h.ok _ ra).1
 ·exact h.up row z
 ·rw [iR]; exact h.up _ ra
 ·exact h.nn row z x hx
 ·obtain ⟨y, hy, rfl⟩ := Ci.mp hx
  have := h.nn _ ra y hy
  show 0 <= y.2 + more
  omega
 ·exact h.sub row z x hx
 ·obtain ⟨y, hy, rfl⟩ := Ci.mp hx
  exact h.sub _ ra y hy
theorem QB.wo {rows : bO} {U : List Int} (h : QB rows U) (g : List Int) : QB (mw rows g) U := by
 refine ⟨by unfold mw; rw [B9]; exact h.r6, fun r hr => ?_, fun r hr => ?_, fun r hr x hx => ?_, fun r hr x hx => ?_, h.u26⟩ <;> obtain ⟨row, hrow, rfl⟩ := Ci.mp hr
 ·refine ⟨CO (CT _ _) (h.ok row hrow).1, ?_⟩
  rw [jG]; exact (h.ok row hrow).2.sublist List.filter_sublist
 ·rw [jG]; exact zf (h.up row hrow)
 ·exact h.nn row hrow x (CG.mp hx).1
 ·exact h.sub row hrow x (CG.mp hx).1
theorem zj {rows : bO} {g hs : List Int} {ts : List oZ} (nd : ∀ row ∈ rows, (au row).Nodup) (ip : IsPlan (bx (mw rows g)) ts hs) : aI (mw rows g) hs = aI rows hs := by
 have hl := ip.len
 rw [cJ] at hl
 have l : (mw rows g).length = rows.length := B9 _
 unfold aI
 rw [l]
 refine congrArg List.sum (Cv fun i hi => ?_)
 have hi := CD.mp hi
 unfold bE
 have e1 : (mw rows g)[i]? = some (AD (rows.getD i []) g) := by unfold mw; rw [Cd, cP (d := []) hi]; rfl
 have m := jH ip i _ (hs.getD i 0) e1 (cP (by omega))
 rw [xF e1]
 obtain ⟨x, hx, ex⟩ := Ci.mp m
 have xr : x ∈ rows.getD i [] := (CG.mp hx).1
 have nd1 := nd _ (Ce (cP (d := []) hi))
 rw [<- ex, dY nd1 xr, dY (by have := jG (rows.getD i []) g; unfold au at this; rw [this]; exact nd1.sublist List.filter_sublist) hx]
theorem vQ {rows : bO} {hs : List Int} (nn : ∀ row ∈ rows, ∀ x ∈ row, 0 <= x.2) : 0 <= aI rows hs := by
 unfold aI
 have := fm (bE rows hs) (fun i => nN nn i _) 0 rows.length (CK _)
 exact this
theorem vR {rows : bO} {hs : List Int} {h c : Int} {i : Nat} (hl : hs.length = i) (hc : aK (rows.getD i []) h = some c) : ((Cf (i + 1)).map (bE rows (hs ++ [h]))).sum = ((Cf i).map (bE rows hs)).sum + c := by
 rw [Dc, Cn, List.sum_append]
 have e1 : (Cf i).map (bE rows (hs ++ [h])) = (Cf i).map (bE rows hs) := Cv fun j hj => by
  have hj := CD.mp hj
  unfold bE
  rw [Cb (l := hs ++ [h]), CI (by omega), <- Cb]
 have e2 : bE rows (hs ++ [h]) i = c := by
  unfold bE
  rw [Cb (l := hs ++ [h]), CN (by omega), hl, Du]
  show (aK (rows.getD i []) h).getD 0 = c
  rw [hc]; rfl
 rw [e1]
 simp [e2]
theorem kJ {α β : Type} {F : α -> β -> Prop} : ∀ {l : List α} {r : List β} (i : Nat) {a : α} {b : β}, Paired F l r -> F a b -> Paired F (l.set i a) (r.set i b)
 | _, _, _, _, _, .nil, _ => .nil
 | _, _, 0, _, _, .cons _ t, q => .cons q t
 | _, _, i + 1, _, _, .cons h t, q => .cons h (kJ i t q)
end L2
set_option maxHeartbeats 4000000
namespace My
seal L2.PE L2.PA L2.PS L2.PSs L2.PT L2.PW L2.PI L2.PG L2.zr L2.zv L2.PO L2.gI L2.cH L2.zt L2.AK L2.AI
open PySem L2 PyProof.Rows
local macro_rules | `(tactic| walk_at "go") => `(tactic| repeat (first | refine ⟨_, rfl, ?_⟩ | refine ⟨_, _, rfl, rfl, (show (0 : Int) < _ by decide), ?_⟩ | refine ⟨_, _, rfl, rfl, (show mN _ _ from ⟨by decide, by decide⟩), ?_⟩ | refine ⟨_, _, rfl, rfl, (show zO _ _ from ⟨by decide, by decide, by decide⟩), ?_⟩ | refine ⟨_, _, rfl, rfl, (show CMul _ _ from .inl ⟨by decide, by decide⟩), ?_⟩ | refine ⟨_, _, rfl, rfl, (show CMul _ _ from .inr ⟨by decide, by decide⟩), ?_⟩ | refine ⟨_, _, rfl, rfl, ?_⟩ | refine ⟨rfl, ?_⟩))
def top (i : Nat) : Stmt := PySem.Challenge.pw_deskround_k39_whole_minutes_turned.main.body.getD i (.Pass ⟨0, 0, 0, 0⟩)
abbrev kK : Stmt := top 1
abbrev nO : Stmt := top 3
abbrev nP : Stmt := top 4
abbrev kL : Stmt := top 6
abbrev df : Stmt := top 7
abbrev kM : Stmt := top 8
abbrev gv : Stmt := top 10
abbrev iS : Stmt := top 11
abbrev kN : Stmt := top 13
abbrev eK : Stmt := top 14
abbrev qM : Stmt := top 15
abbrev iT : Stmt := top 16
abbrev nQ : Stmt := top 17
abbrev qN : Stmt := top 19
abbrev kO : Stmt := top 20
abbrev dg : Stmt := top 21
abbrev gw : Stmt := top 22
abbrev qO : Stmt := top 24
abbrev fo : Stmt := top 25
abbrev nR : Stmt := top 27
abbrev nT : Stmt := top 28
abbrev cU : Stmt := top 29
abbrev fq : Stmt := top 30
abbrev iU : Stmt := top 31
abbrev nU : Stmt := top 33
abbrev gx : Stmt := top 34
abbrev iV : Stmt := top 35
abbrev gy : Stmt := top 37
abbrev dN : Stmt := top 38
abbrev fz : Stmt := top 39
abbrev eL : Stmt := top 40
abbrev gA : Stmt := top 41
abbrev gB : Stmt := top 42
abbrev gC : Stmt := top 43
abbrev fA : Stmt := top 44
abbrev gD : Stmt := top 45
abbrev gE : Stmt := top 46
abbrev fB : Stmt := top 47
abbrev eM : Stmt := top 48
abbrev dO : Stmt := top 49
abbrev fC : Stmt := top 50
abbrev fD : Stmt := top 51
abbrev vS : Stmt := top 52
structure Txt (mg : Str -> Option Value) : Prop where
 z_bool : mg "bool" = none
 z_dict : mg "dict" = none
 z_int : mg "int" = none
 z_isinstance : mg "isinstance" = none
 z_len : mg "len" = none
 z_list : mg "list" = none
 z_min : mg "min" = none
 z_range : mg "range" = none
 z_reversed : mg "reversed" = none
 z_set : mg "set" = none
 z_sorted : mg "sorted" = none
 z_sum : mg "sum" = none
 z_tuple : mg "tuple" = none
 z_zip : mg "zip" = none
structure Dfs (K : PySem.W.Frag) (mg : Str -> Option Value) (aF : Nat -> Addr) (dF : Nat -> FuncData) : Prop where
 common : Def K mg "common" kK ["one", "other"] (aF 0) (dF 0)
 width : Def K mg "width" nO ["pattern"] (aF 1) (dF 1)
 grown : Def K mg "grown" nP ["pattern"] (aF 2) (dF 2)
 breaks : Def K mg "breaks" kL ["pattern", "tie"] (aF 3) (dF 3)
 first_broken : Def K mg "first_broken" df ["pattern", "ties"] (aF 4) (dF 4)
 unlike : Def K mg "unlike" kM ["row", "steps"] (aF 5) (dF 5)
 pools_of : Def K mg "pools_of" gv ["pattern", "may"] (aF 6) (dF 6)
 pool_of : Def K mg "pool_of" iS ["block", "pattern", "may"] (aF 7) (dF 7)
 may_of : Def K mg "may_of" kN ["bill"] (aF 8) (dF 8)
 minutes_of : Def K mg "minutes_of" eK ["bill", "hands"] (aF 9) (dF 9)
 sums : Def K mg "sums" qM ["pattern", "bill"] (aF 10) (dF 10)
 sums_of : Def K mg "sums_of" iT ["block", "pattern", "bill"] (aF 11) (dF 11)
 added : Def K mg "added" nQ ["pairs", "minutes"] (aF 12) (dF 12)
 deal : Def K mg "deal" qN ["pools"] (aF 13) (dF 13)
 settle : Def K mg "settle" kO ["pools", "holders", "place", "asked"] (aF 14) (dF 14)
 short_places : Def K mg "short_places" dg ["holders", "place", "asked"] (aF 15) (dF 15)
 hands_of : Def K mg "hands_of" gw ["holders", "count"] (aF 16) (dF 16)
 plan : Def K mg "plan" qO ["may", "ties"] (aF 17) (dF 17)
 plan_from : Def K mg "plan_from" fo ["pattern", "may", "ties"] (aF 18) (dF 18)
 cheap : Def K mg "cheap" nR ["pools"] (aF 19) (dF 19)
 serve : Def K mg "serve" nT ["pools", "hands", "prices", "dues", "place"] (aF 20) (dF 20)
 nearest_badge : Def K mg "nearest_badge" cU ["pools", "prices", "dues", "reached", "askers"] (aF 21) (dF 21)
 raise_all : Def K mg "raise_all" fq ["numbers", "keys", "gap"] (aF 22) (dF 22)
 hand_on : Def K mg "hand_on" iU ["hands", "askers", "badge"] (aF 23) (dF 23)
 quick : Def K mg "quick" nU ["bill", "ties"] (aF 24) (dF 24)
 quickest : Def K mg "quickest" gx ["pattern", "bill", "ties", "known"] (aF 25) (dF 25)
 bearing : Def K mg "bearing" iV ["pattern", "bill", "ties", "bound"] (aF 26) (dF 26)
 law_cell : Def K mg "_law_cell" gy ["script", "k"] (aF 27) (dF 27)
 law_entries : Def K mg "_law_entries" dN ["script", "size"] (aF 28) (dF 28)
 law_whole : Def K mg "_law_whole" fz ["found"] (aF 29) (dF 29)
 law_badges : Def K mg "_law_badges" eL ["cells", "gap", "high"] (aF 30) (dF 30)
 law_bill : Def K mg "_law_bill" gA ["cells", "badges", "dense", "top", "count"] (aF 31) (dF 31)
 law_ties : Def K mg "_law_ties" gB ["cells", "count"] (aF 32) (dF 32)
 law_case : Def K mg "_law_case" gC ["script", "sizes", "tops"] (aF 33) (dF 33)
 law_keeps : Def K mg "_law_keeps" fA ["hands", "tie"] (aF 34) (dF 34)
 law_plan : Def K mg "_law_plan" gD ["hands", "bill", "ties"] (aF 35) (dF 35)
 law_told : Def K mg "_law_told" gE ["bill", "ties"] (aF 36) (dF 36)
 law_drawn : Def K mg "_law_drawn" fB ["bill", "cell"] (aF 37) (dF 37)
 law_longer : Def K mg "_law_longer" eM ["bill", "at", "more"] (aF 38) (dF 38)
 law_without : Def K mg "_law_without" dO ["bill", "badge"] (aF 39) (dF 39)
 law_badge : Def K mg "_law_badge" fC ["bill", "cell"] (aF 40) (dF 40)
 law_later : Def K mg "_law_later" fD ["again", "total", "same"] (aF 41) (dF 41)
 law : Def K mg "law" vS ["script"] (aF 42) (dF 42)
section
variable {P : Program} {w : World} {K : PySem.W.Frag} {mg : Str -> Option Value} {base : Heap} {aF : Nat -> Addr} {dF : Nat -> FuncData}
def mC (K : PySem.W.Frag) : Sp := BZ K 0
theorem tU : FnScope ["one", "other"] ["one", "other"] (aq kK) := ⟨rfl, rfl, rfl, by decide +kernel, rfl, by decide +kernel, by decide +kernel⟩
theorem tV (D : Dfs K mg aF dF) (T : Txt mg) : FnOk P w K mg base aZ 1 (aF 0) (dF 0) ["one", "other"] (mC K) := by
 refine D.common.fn.ok tU (fun vs H Q E h => ?_) (fun cdv A outer s H vs Q E hr h => ?_)
 ·obtain ⟨a, b, F, S, U, rfl, _⟩ := h; rfl
 ·have hu := aV hr
  obtain ⟨a, b, F, S, U, rfl, bo, q⟩ := h
  refine ⟨_, (aj (aw (av (uS w) (by rfl) T.z_sorted boot_sorted (aa (ay (xh w) (bq (xg w K) (by rfl) T.z_set PyProof.Rows.boot_set (aa (pv 0) ae)) (bq (xg w K) (by rfl) T.z_set PyProof.Rows.boot_set (aa (pv 1) ae))) ae)))), ?_⟩
  have h1 := bo.l1
  have h2 := bo.l2
  refine ⟨_, rfl, a, F, rfl, bo.fa, by omega, fun s1 n1 => ⟨_, rfl, b, S, rfl, (Same.new n1).seq bo.sb, by omega, fun s2 n2 => ?_⟩⟩
  have d1 := dM F
  have d2 := dM S
  have n12 : s1 ≠ s2 := fun z => by rw [<- z, ab] at n2; cases n2
  refine ⟨s1, s2, dd F, dd S, rfl, rfl, n12, by rw [ah n12]; exact ab, ab, by omega, by omega, fun c ks nc nd hm => ?_⟩
  have lk : ks.length <= F.length := nd.length_le_of_subset fun x hx => bD.mp ((hm x).mp hx).1
  refine ⟨c, ks, rfl, ab, by omega, fun l ms nl pm sr => ?_⟩
  refine q l ms _ ⟨(((Same.new n1).to n2).to nc).to nl, (((Same.new n1).to (o := .ext (SX w s2 (dd S))) n2).to (o := .ext (SX w c ks)) nc).free nl, ab, xm sr (pm.nodup_iff.mpr nd), fun x => ?_⟩
  rw [pm.mem_iff, hm x]
  dsimp only
  rw [bD, bD]
  exact Iff.rfl
def hZ (K : PySem.W.Frag) : Sp := fun vs H Q _ => ∃ (a : Addr) (ps : List Int), vs = [.ref a] /\ SqL K H a (ps.map V.int) /\ ps.length <= 6 /\ ∀ H', Same H H' -> Q (.int (((dd ps).length : Nat) : Int)) H'
theorem vT : FnScope ["pattern"] ["pattern"] (aq nO) := ⟨rfl, rfl, rfl, by decide +kernel, rfl, by decide +kernel, by decide +kernel⟩
theorem kP (D : Dfs K mg aF dF) (T : Txt mg) : FnOk P w K mg base aZ 1 (aF 1) (dF 1) ["pattern"] (hZ K) := by
 refine D.width.fn.ok vT (fun vs H Q E h => ?_) (fun cdv A outer s H vs Q E hr h => ?_)
 ·obtain ⟨a, ps, rfl, _⟩ := h; rfl
 ·have hu := aV hr
  obtain ⟨a, ps, rfl, ha, h6, q⟩ := h
  refine ⟨_, (aj (aw (av (yc w) (by rfl) T.z_len boot_len (aa (bq (xg w K) (by rfl) T.z_set PyProof.Rows.boot_set (aa (pv 0) ae)) ae)))), ?_⟩
  exact ⟨_, rfl, a, ps, rfl, ha, by omega, fun S nS => ⟨S, _, rfl, ab, q _ (Same.new nS)⟩⟩
def h8 (K : PySem.W.Frag) : Sp := fun vs H Q _ => ∃ (a : Addr) (ps : List Int), vs = [.ref a] /\ H a = some (.lst (ps.map V.int)) /\ ps.length <= 6 /\
 ∀ l (rs : List Addr) H', Same H H' -> H l = none -> H' l = some (.lst (rs.map V.ref)) -> rs.length = (dd ps).length + 1 -> (∀ (i : Nat) r, rs[i]? = some r -> H' r = some (.lst ((ps ++ [(i : Int)]).map V.int)) /\ H r = none) -> Q (.ref l) H'
theorem vU : FnScope ["pattern"] ["pattern"] (aq nP) := ⟨rfl, rfl, rfl, by decide +kernel, rfl, by decide +kernel, by decide +kernel⟩
theorem kQ (D : Dfs K mg aF dF) (T : Txt mg) : FnOk P w K mg base aZ 2 (aF 2) (dF 2) ["pattern"] (h8 K) := by
 have Gwidth : FnOk P w K mg base aZ 1 (aF 1) (dF 1) ["pattern"] (hZ K) := kP D T
 refine D.grown.fn.ok vU (fun vs H Q E h => ?_) (fun cdv A outer s H vs Q E hr h => ?_)
 ·obtain ⟨a, ps, rfl, _⟩ := h; rfl
 ·have hu := aV hr
  obtain ⟨a, ps, rfl, ha, h6, q⟩ := h
  refine ⟨_, (aj (aw (aO ["number", "pattern"] [none, some 0] rfl (bp rfl T.z_range (aa (ay aU (pc D.width Gwidth (hr.mono (by decide)) (aa (pv 0) ae)) ag) ae)) (fun _ => ao (i := 0) (aP (N := ["number", "pattern"]) (by decide +kernel)) rfl (Or.inl rfl)) (fun _ => a9) (fun _ => (ay mT (pv 1) (aL (aa (pv 0) ae)))) ((.cons (fun _ e => by cases e) (.cons (fun _ e => by cases e; exact ⟨rfl, rfl⟩) .nil)))))), ?_⟩
  refine ⟨_, rfl, a, ps, rfl, SqL.of ha, h6, fun H1 s1 => ?_⟩
  have dl := dM ps
  refine ⟨_, _, rfl, rfl, _, rfl, iK _, by omega, ?_⟩
  have e0 : (((dd ps).length : Int) + 1).toNat = (dd ps).length + 1 := by omega
  rw [e0]
  refine i7 (n := (dd ps).length + 1) (fun i => (ps ++ [(i : Int)]).map V.int) (by omega) (fun i hi H2 R s2 k => ?_) fun acc rs H2 s2 nacc hacc hrs hall hne => ?_
  ·have ei : (0 : Int) + (i : Int) = ((i : Nat) : Int) := by omega
   rw [ei]
   refine ⟨_, rfl, _, rfl, bY, fun p np => ?_⟩
   have ha2 := (s1.trans s2) _ _ ha
   refine ⟨a, p, _, _, rfl, rfl, Same.new np _ _ ha2, ab, by rw [B9]; exact wU (by simp; omega), fun r nr => ?_⟩
   have e : ps.map V.int ++ [V.int ((i : Nat) : Int)] = (ps ++ [(i : Int)]).map V.int := by rw [Cn]; rfl
   rw [e]
   exact k r _ ((Same.new np).to nr) ((Same.new np).free nr) ab
  ·exact q acc rs H2 (s1.trans s2) (s1.free nacc) hacc hrs fun i r hr => ⟨(hall i r hr).1, s1.free (hall i r hr).2⟩
def mD (K : PySem.W.Frag) : Sp := fun vs H Q _ => ∃ (a t : Addr) (hs : List Int) (st : List Nat), vs = [.ref a, .ref t] /\ SqL K H a (hs.map V.int) /\ (SqL K H t (st.map fun (i : Nat) => V.int (i : Int)) \/ SqT K H t (st.map fun (i : Nat) => V.int (i : Int))) /\ (∀ i ∈ st, i < hs.length) /\ st.length <= 6 /\
 ∀ H', Same H H' -> Q (.int ((i6 (fun i => hs.getD i 0) st : Nat) : Int)) H'
theorem tW : FnScope ["row", "steps"] ["row", "steps"] (aq kM) := ⟨rfl, rfl, rfl, by decide +kernel, rfl, by decide +kernel, by decide +kernel⟩
theorem tX (D : Dfs K mg aF dF) (T : Txt mg) : FnOk P w K mg base aZ 1 (aF 5) (dF 5) ["row", "steps"] (mD K) := by
 refine D.unlike.fn.ok tW (fun vs H Q E h => ?_) (fun cdv A outer s H vs Q E hr h => ?_)
 ·obtain ⟨a, t, hs, st, rfl, _⟩ := h; rfl
 ·have hu := aV hr
  obtain ⟨a, t, hs, st, rfl, ha, ht, hlt, h6, q⟩ := h
  refine ⟨_, (aj (aw (av (yc w) (by rfl) T.z_len boot_len (aa (bq (xg w K) (by rfl) T.z_set PyProof.Rows.boot_set (aa (aO ["step", "row"] [none, some 0] rfl (BX K (pv 1)) (fun _ => ao (i := 0) (aP (N := ["step", "row"]) (by decide +kernel)) rfl (Or.inl rfl)) (fun _ => a9) (fun _ => (ax (c7 K) (pv 1) (pv 0) (fun _ _ => rfl))) ((.cons (fun _ e => by cases e) (.cons (fun _ e => by cases e; exact ⟨rfl, rfl⟩) .nil)))) ae)) ae)))), ?_⟩
  have fin : ∀ acc H2, Same H H2 -> H2 acc = some (.lst ((st.map fun i => hs.getD i 0).map V.int)) -> ∀ S, H2 S = none -> Q (.int ((i6 (fun i => hs.getD i 0) st : Nat) : Int)) (az H2 S (.ext (SX w S (dd (st.map fun i => hs.getD i 0))))) := fun acc H2 s2 _ S nS => q _ (s2.to nS)
  refine ⟨_, rfl, t, rfl, ?_⟩
  rcases ht with ht | ht
  ·refine .inl ⟨⟨_, ht⟩, cN (xs := st.map fun (i : Nat) => V.int (i : Int)) (fun _ => true) (fun j => .int (hs.getD (st.getD j 0) 0)) ht (by rw [B9]; omega) (fun _ _ _ _ _ _ k => k _ (Same.refl _)) (fun j x hx _ H2 R s2 k => ?_) fun acc H2 s2 nacc hacc => ?_⟩
   ·obtain ⟨d, hd, rfl, ed⟩ := gn hx
    rw [ed] at k
    exact ⟨_, rfl, _, rfl, a, _, _, _, rfl, rfl, s2.seq ha, br (hlt d (Ce hd)), k _ (Same.refl _)⟩
   rw [va] at hacc
   exact ⟨acc, st.map fun i => hs.getD i 0, rfl, SqL.of hacc, by rw [B9]; omega, fun S nS => ⟨S, _, rfl, ab, fin acc H2 s2 hacc S nS⟩⟩
  ·refine .inr ⟨⟨_, ht⟩, oU (xs := st.map fun (i : Nat) => V.int (i : Int)) (fun _ => true) (fun j => .int (hs.getD (st.getD j 0) 0)) ht (by rw [B9]; omega) (fun _ _ _ _ _ _ k => k _ (Same.refl _)) (fun j x hx _ H2 R s2 k => ?_) fun acc H2 s2 nacc hacc => ?_⟩
   ·obtain ⟨d, hd, rfl, ed⟩ := gn hx
    rw [ed] at k
    exact ⟨_, rfl, _, rfl, a, _, _, _, rfl, rfl, s2.seq ha, br (hlt d (Ce hd)), k _ (Same.refl _)⟩
   rw [va] at hacc
   exact ⟨acc, st.map fun i => hs.getD i 0, rfl, SqL.of hacc, by rw [B9]; omega, fun S nS => ⟨S, _, rfl, ab, fin acc H2 s2 hacc S nS⟩⟩
def mE (K : PySem.W.Frag) : Sp := fun vs H Q _ => ∃ (a tp t : Addr) (hs : List Int) (st : List Nat) (wd : Str) (k : Int), vs = [.ref a, .ref tp] /\ SqL K H a (hs.map V.int) /\ SqT K H tp [.str wd, .int k, .ref t] /\ SqT K H t (st.map fun (i : Nat) => V.int (i : Int)) /\ (wd = "most" \/ wd = "least") /\ st.length <= 6 /\
 ∀ H', Same H H' -> Q (.bl (brk (fun i => hs.getD i 0) hs.length wd k st)) H'
theorem iW : FnScope ["pattern", "tie", "steps", "numbers_there"] ["pattern", "tie"] (aq kL) := ⟨rfl, rfl, rfl, by decide +kernel, rfl, by decide +kernel, by decide +kernel⟩
theorem tY (D : Dfs K mg aF dF) (T : Txt mg) : FnOk P w K mg base aZ 2 (aF 3) (dF 3) ["pattern", "tie"] (mE K) := by
 have Gunlike : FnOk P w K mg base aZ 1 (aF 5) (dF 5) ["row", "steps"] (mD K) := tX D T
 refine D.breaks.fn.ok iW (fun vs H Q E h => ?_) (fun cdv A outer s H vs Q E hr h => ?_)
 ·obtain ⟨a, tp, t, hs, st, wd, k, rfl, _⟩ := h; rfl
 ·have hu := aV hr
  obtain ⟨a, tp, t, hs, st, wd, k, rfl, ha, htp, ht, hwd, h6, q⟩ := h
  refine ⟨_, (af (fP (i₀ := 2) iW.nd rfl (Or.inl rfl) ["step", "pattern"] [none, some 0] rfl (BJ K (ax (dz K) (pv 1) ag (fun _ _ => rfl))) (fun _ => ao (i := 0) (aP (N := ["step", "pattern"]) (by decide +kernel)) rfl (Or.inl rfl)) (fun _ => fO (aA oz (pv 0) (av (bZ K) (by rfl) T.z_len boot_len (aa (pv 1) ae)) (aB _))) (fun _ => (pv 0)) ((.cons (fun _ e => by cases e) (.cons (fun _ e => by cases e; exact ⟨rfl, rfl⟩) .nil))))
   (af (ar (i := 3) iW.nd rfl (Or.inl rfl) (pc D.unlike Gunlike (hr.mono (by decide)) (aa (pv 0) (aa (pv 2) ae))))
   (af (aW (aA b6 (ax (dz K) (pv 1) ag (fun _ _ => rfl)) aY (aB _))
    (aj (aw (cm xX (pv 3) (ax (dz K) (pv 1) ag (fun _ _ => rfl)) (aB _))))
    aD)
   (aj (aw (cm oz (ay jM (ay aU (pv 3) (av (bZ K) (by rfl) T.z_len boot_len (aa (ax (dz K) (pv 1) ag (fun _ _ => rfl)) ae))) (av (bZ K) (by rfl) T.z_len boot_len (aa (pv 2) ae))) (ax (dz K) (pv 1) ag (fun _ _ => rfl)) (aB _))))))), ?_⟩
  refine ⟨_, rfl, tp, _, _, _, rfl, rfl, htp, rfl, t, rfl, ⟨_, ht⟩, ?_⟩
  refine oU (xs := st.map fun (i : Nat) => V.int (i : Int)) (fun j => decide (st.getD j 0 < hs.length)) (fun j => .int ((st.getD j 0 : Nat) : Int)) ht (by rw [B9]; omega) (fun j x hx H2 R s2 k => ?_) (fun j x hx hp H2 R s2 k => ?_) fun acc H2 s2 nacc hacc => ?_
  ·obtain ⟨d, hd, rfl, ed⟩ := gn hx
   rw [ed] at k
   refine ⟨_, rfl, _, rfl, _, _, rfl, .inl ⟨_, s2.seq ha, rfl⟩, _, _, rfl, rfl, _, rfl, ?_⟩
   have kk := k H2 (Same.refl _)
   rw [yX] at kk
   rw [B9]
   exact kk
  ·obtain ⟨d, hd, rfl, ed⟩ := gn hx
   rw [ed] at k
   exact ⟨_, rfl, k _ (Same.refl _)⟩
  rw [B9, Bk (g := fun i => decide (i < hs.length)) (F := fun (i : Nat) => V.int (i : Int))] at hacc
  have fl : (st.filter fun i => decide (i < hs.length)).length <= st.length := CT ..
  refine ⟨_, rfl, _, rfl, a, acc, hs, st.filter fun i => decide (i < hs.length), rfl, s2.seq ha, .inl (SqL.of hacc), (fun i hi => of_decide_eq_true (CG.mp hi).2), by omega, fun H3 s23 => ?_⟩
  have s3 := s2.trans s23
  have hacc3 := s23 _ _ hacc
  have q3 := q H3 s3
  refine ⟨_, rfl, tp, _, _, _, rfl, rfl, Same.seqT s3 htp, rfl, rfl, _, rfl, ?_⟩
  unfold brk at q3
  rcases hwd with e | e <;> subst e
  ·refine bH ?_
   rw [if_pos rfl] at q3
   exact ⟨_, rfl, _, rfl, tp, _, _, _, rfl, rfl, Same.seqT s3 htp, rfl, _, _, rfl, rfl, q3⟩
  ·rw [decide_eq_false (by decide)]
   refine bz ?_
   rw [if_neg (by decide)] at q3
   refine ⟨_, rfl, _, rfl, tp, _, _, _, rfl, rfl, Same.seqT s3 htp, rfl, _, _, rfl, .inr ⟨_, Same.seqT s3 ht, rfl⟩, _, _, rfl, rfl, _, rfl, _, _, rfl, .inl ⟨_, SqL.of hacc3, rfl⟩, _, _, rfl, rfl, _, rfl, tp, _, _, _, rfl, rfl, Same.seqT s3 htp, rfl, _, _, rfl, rfl, ?_⟩
   rw [B9, B9]
   exact q3
def cv (K : PySem.W.Frag) : Sp := fun vs H Q _ => ∃ (a b : Addr) (hs : List Int) (ts : List (Addr × Addr × Str × Int × List Nat)), vs = [.ref a, .ref b] /\ SqL K H a (hs.map V.int) /\ Ties K H b ts 100 /\ ∀ H', Same H H' -> Q (Am (jq (fun i => hs.getD i 0) hs.length ts)) H'
theorem eW : FnScope ["pattern", "ties", "place"] ["pattern", "ties"] (aq df) := ⟨rfl, rfl, rfl, by decide +kernel, rfl, by decide +kernel, by decide +kernel⟩
theorem cV (D : Dfs K mg aF dF) (T : Txt mg) : FnOk P w K mg base aZ 3 (aF 4) (dF 4) ["pattern", "ties"] (cv K) := by
 have Gbreaks : FnOk P w K mg base aZ 2 (aF 3) (dF 3) ["pattern", "tie"] (mE K) := tY D T
 refine D.first_broken.fn.ok eW (fun vs H Q E h => ?_) (fun cdv A outer s H vs Q E hr h => ?_)
 ·obtain ⟨a, b, hs, ts, rfl, _⟩ := h; rfl
 ·have hu := aV hr
  obtain ⟨a, b, hs, ts, rfl, ha, tt, q⟩ := h
  refine ⟨_, (af (bc PassesOwn.never rfl (bp rfl T.z_range (aa (av (bZ K) (by rfl) T.z_len boot_len (aa (pv 1) ae)) ae)) (ao (i := 2) eW.nd rfl (Or.inl rfl))
    (aj (aW (cL (pc D.breaks Gbreaks (hr.mono (by decide)) (aa (pv 0) (aa (ax (c7 K) (pv 1) (pv 2) (fun _ _ => rfl)) ae))))
     (aj (aw (pv 2)))
     aD)))
   (aj (aw bV))), ?_⟩
  have ln := tt.ln
  have sl : (ts.map fun x => V.ref x.1).length = ts.length := by rw [B9]
  refine ⟨_, rfl, _, _, rfl, .inl ⟨_, tt.ls, rfl⟩, _, rfl, iK _, by omega, ?_⟩
  have e0 : (((ts.map fun x => V.ref x.1).length : Nat) : Int).toNat = ts.length := by omega
  rw [e0]
  refine cz (n := ts.length) (fun i σ H1 => ∃ x : Option V, σ = [some (.ref a), some (.ref b), x] /\ Same H H1 /\ ∀ j, j < i -> ∀ x, ts[j]? = some x -> brk (fun i => hs.getD i 0) hs.length x.2.2.1 x.2.2.2.1 x.2.2.2.2 = false) ⟨none, rfl, Same.refl _, fun j h => by omega⟩ ?_ ?_
  ·rintro i σ H1 hi ⟨x, rfl, s1, no⟩
   have ei : (0 : Int) + (i : Int) = ((i : Nat) : Int) := by omega
   rw [ei]
   have gi : ts[i]? = some ts[i] := Ca hi
   have te := tt.ea _ (CL hi)
   refine ⟨_, rfl, _, rfl, _, rfl, b, _, _, _, rfl, rfl, s1.seq tt.ls, aX (by rw [Cd, gi]; rfl), a, ts[i].1, ts[i].2.1, hs, ts[i].2.2.2.2, ts[i].2.2.1, ts[i].2.2.2.1, rfl, s1.seq ha, SqT.of (s1 _ _ te.tp), SqT.of (s1 _ _ te.ts), te.wd, te.sl, fun H2 s2 => ⟨_, rfl, ?_⟩⟩
   refine BW (fun hb => ?_) fun hb => ?_
   ·have e : jq (fun i => hs.getD i 0) hs.length ts = some i := by
     unfold jq
     rw [DJ]
     exact ⟨hi, hb, fun j hj => by
      have := no j hj _ (Ca (by omega))
      simpa using this⟩
    have qq := q H2 (s1.trans s2)
    rw [e] at qq
    exact ⟨_, rfl, qq⟩
   ·refine ⟨_, rfl, s1.trans s2, fun j hj x hx => ?_⟩
    by_cases z : j = i
    ·subst z
     rw [gi] at hx
     cases hx
     exact hb
    ·exact no j (by omega) x hx
  ·rintro σ H1 ⟨x, rfl, s1, no⟩
   have e : jq (fun i => hs.getD i 0) hs.length ts = none := by
    unfold jq
    rw [ED]
    intro x hx
    obtain ⟨j, hj, ej⟩ := Cq.mp hx
    exact no j hj x (by rw [Ca hj, ej])
   have qq := q H1 s1
   rw [e] at qq
   exact qq
def kR (K : PySem.W.Frag) : Sp := fun vs H Q _ => ∃ (b : Nat) (pa ma : Addr) (p : List Int) (rs : List Addr) (may : List (List Int)) (U : List Int), vs = [.int ((b : Nat) : Int), .ref pa, .ref ma] /\ SqL K H pa (p.map V.int) /\ May K H ma rs may U /\ bU p /\ b < (dd p).length /\ p.length <= may.length /\
 ∀ l H', Same H H' -> H l = none -> H' l = some (.lst ((gU may p b).map V.int)) -> Q (.ref l) H'
theorem di : FnScope ["block", "pattern", "may", "steps", "step", "pool"] ["block", "pattern", "may"] (aq iS) := ⟨rfl, rfl, rfl, by decide +kernel, rfl, by decide +kernel, by decide +kernel⟩
theorem qP (D : Dfs K mg aF dF) (T : Txt mg) : FnOk P w K mg base aZ 2 (aF 7) (dF 7) ["block", "pattern", "may"] (kR K) := by
 have Gcommon : FnOk P w K mg base aZ 1 (aF 0) (dF 0) ["one", "other"] (mC K) := tV D T
 refine D.pool_of.fn.ok di (fun vs H Q E h => ?_) (fun cdv A outer s H vs Q E hr h => ?_)
 ·obtain ⟨b, pa, ma, p, rs, may, U, rfl, _⟩ := h; rfl
 ·have hu := aV hr
  obtain ⟨b, pa, ma, p, rs, may, U, rfl, hp, hm, c, hb, hl, q⟩ := h
  refine ⟨_, (af (fP (i₀ := 3) di.nd rfl (Or.inl rfl) ["step", "pattern", "block"] [none, some 1, some 0] rfl (bp rfl T.z_range (aa (av (bZ K) (by rfl) T.z_len boot_len (aa (pv 1) ae)) ae)) (fun _ => ao (i := 0) (aP (N := ["step", "pattern", "block"]) (by decide +kernel)) rfl (Or.inl rfl)) (fun _ => fO (aA b6 (ax (c7 K) (pv 1) (pv 0) (fun _ _ => rfl)) (pv 2) (aB _))) (fun _ => (pv 0)) ((.cons (fun _ e => by cases e) (.cons (fun _ e => by cases e; exact ⟨rfl, rfl⟩) (.cons (fun _ e => by cases e; exact ⟨rfl, rfl⟩) .nil)))))
   (af (ar (i := 5) di.nd rfl (Or.inl rfl) (bq (oK K) (by rfl) T.z_list boot_list (aa (ax (c7 K) (pv 2) (ax (c7 K) (pv 3) ag (fun _ _ => rfl)) (fun _ _ => rfl)) ae)))
   (af (bc PassesOwn.never rfl (iq K (dR (zx K) (pv 3) (eE ag) gJ)) (ao (i := 4) di.nd rfl (Or.inl rfl))
    (aj (ar (i := 5) di.nd rfl (Or.inl rfl) (pc D.common Gcommon (hr.mono (by decide)) (aa (pv 5) (aa (ax (c7 K) (pv 2) (pv 4) (fun _ _ => rfl)) ae))))))
   (aj (aw (pv 5)))))), ?_⟩
  have m6 := hm.m6
  refine ⟨_, rfl, _, _, rfl, .inl ⟨_, hp, rfl⟩, _, rfl, iK _, by rw [B9]; omega, ?_⟩
  have e0 : (((p.map V.int).length : Nat) : Int).toNat = p.length := by rw [B9]; omega
  rw [e0]
  refine iG (n := p.length) (fun i => decide (p.getD i 0 = (b : Int))) (by omega) (fun i hi H3 R s3 k => ?_) (fun i hi H3 R k => ?_) fun sl H3 s3 nsl hsl => ?_
  ·have ei : (0 : Int) + (i : Int) = ((i : Nat) : Int) := by omega
   rw [ei]
   have kk := k H3 (Same.refl _)
   rw [kd] at kk
   exact ⟨_, rfl, _, rfl, pa, _, _, _, rfl, rfl, s3.seq hp, br hi, _, rfl, rfl, _, rfl, kk⟩
  ·have ei : (0 : Int) + (i : Int) = ((i : Nat) : Int) := by omega
   rw [ei]
   exact ⟨_, rfl, k⟩
  have sne : cF p b ≠ [] := cX c hb
  have slt : ∀ i ∈ cF p b, i < may.length := fun i hi => by have := (de.mp hi).1; omega
  have hsl : H3 sl = some (.lst ((cF p b).map fun (i : Nat) => V.int (i : Int))) := hsl
  have q2 : ∀ l H', Same H3 H' -> H3 l = none -> H' l = some (.lst ((dW (cF p b) may).map V.int)) -> Q (.ref l) H' := fun l H' s n e => q l H' (s3.trans s) (s3.free n) e
  have s6 : (cF p b).length <= 6 := by
   have := CT (fun i => decide (p.getD i 0 = (b : Int))) (Cf p.length)
   rw [CP] at this
   show ((Cf p.length).filter fun i => decide (p.getD i 0 = (b : Int))).length <= 6
   omega
  have hm3 := hm.same s3
  clear q
  generalize cF p b = st at hsl sne slt q2 s6
  obtain ⟨s0, sr, rfl⟩ := List.exists_cons_of_ne_nil sne
  obtain ⟨r0, hr0, hq0, up0, sub0⟩ := hm3.rows (slt s0 (by simp))
  refine ⟨_, rfl, _, rfl, sl, _, _, _, rfl, rfl, SqL.of hsl, aX (j := 0) (v := V.int (s0 : Int)) rfl, ma, _, _, _, rfl, rfl, hm3.ls, aX (by rw [Cd, hr0]; rfl), r0, _, rfl, .inl hq0, fun l nl => ?_⟩
  have cf : fV (((s0 :: sr).map fun (i : Nat) => V.int (i : Int))) (some (1 : Int)) none = sr.map fun (i : Nat) => V.int (i : Int) := jY _ 1
  refine ⟨_, rfl, _, rfl, sl, _, rfl, SqL.of (Same.new nl _ _ hsl), fun cc ncc => ?_⟩
  have s34 := (Same.new (o := .lst ((may.getD s0 []).map V.int)) nl).to (o := .lst (sr.map fun (i : Nat) => V.int (i : Int))) ncc
  have ncl : l ≠ cc := fun z => by rw [<- z, ab] at ncc; cases ncc
  have hl4 : az (az H3 l (.lst ((may.getD s0 []).map V.int))) cc (.lst (sr.map fun (i : Nat) => V.int (i : Int))) l = some (.lst ((may.getD s0 []).map V.int)) := by rw [ah ncl]; exact ab
  have hcc4 : az (az H3 l (.lst ((may.getD s0 []).map V.int))) cc (.lst (sr.map fun (i : Nat) => V.int (i : Int))) cc = some (.lst (sr.map fun (i : Nat) => V.int (i : Int))) := ab
  rw [cf]
  generalize az (az H3 l (.lst ((may.getD s0 []).map V.int))) cc (.lst (sr.map fun (i : Nat) => V.int (i : Int))) = H4 at s34 hl4 hcc4
  refine ⟨cc, rfl, ⟨_, SqL.of hcc4⟩, ?_⟩
  refine bK (K := K) (a := cc) (xs := sr.map fun (i : Nat) => V.int (i : Int)) (fun i σ H5 => ∃ (po : Addr) (x : Option V), σ = [some (.int ((b : Nat) : Int)), some (.ref pa), some (.ref ma), some (.ref sl), x, some (.ref po)] /\ Same H4 H5 /\ H3 po = none /\ H5 po = some (.lst ((dW (s0 :: sr.take i) may).map V.int)))
   ⟨l, none, rfl, Same.refl _, nl, by rw [DD, tj]; exact hl4⟩ (fun i σ H5 _ hq__ => by obtain ⟨_, _, _, s, _⟩ := hq__; exact s.seq (SqL.of hcc4)) ?_ ?_
  ·rintro i y σ H5 hi ⟨po, x, rfl, s5, npo, hpo⟩
   obtain ⟨d, hd, rfl, _⟩ := gn hi
   have hdl := slt d (Cz _ (Ce hd))
   have hm5 := hm3.same (s34.trans s5)
   obtain ⟨r1, hr1, hq1, up1, sub1⟩ := hm5.rows hdl
   refine ⟨_, rfl, _, rfl, _, rfl, ma, _, _, _, rfl, rfl, hm5.ls, aX (by rw [Cd, hr1]; rfl), po, r1, dW (s0 :: sr.take i) may, may.getD d [], U, rfl, ⟨SqL.of hpo, hq1, oY hm.up, up1, fun x hx => sub0 x ((CG.mp hx).1), sub1, by have := hm.u20; omega⟩, fun l2 ks H6 ⟨t1, t2, t3, t4, t5⟩ => ?_⟩
   refine ⟨l2, _, rfl, s5.trans t1, (s34.trans s5).free t2, ?_⟩
   have et : sr.take (i + 1) = sr.take i ++ [d] := by rw [Dp, hd]; rfl
   have ek : ks = dW (s0 :: sr.take (i + 1)) may := by
    refine y4 t4 (oY hm.up) fun x => ?_
    rw [t5 x, et, <- List.cons_append, qA (by simp)]
    exact Iff.rfl
   rw [<- ek]
   exact t3
  ·rintro σ H5 ⟨po, x, rfl, s5, npo, hpo⟩
   rw [B9, C0] at hpo
   exact ⟨_, rfl, q2 po H5 (s34.trans s5) npo hpo⟩
def jc (K : PySem.W.Frag) : Sp := fun vs H Q _ => ∃ (pa ma : Addr) (p : List Int) (rs : List Addr) (may : List (List Int)) (U : List Int), vs = [.ref pa, .ref ma] /\ SqL K H pa (p.map V.int) /\ May K H ma rs may U /\ bU p /\ p.length <= may.length /\
 ∀ l (ls : List Addr) H', Same H H' -> H l = none -> H' l = some (.lst (ls.map V.ref)) -> RowsL H' ls (dE may p) -> (∀ r ∈ ls, H r = none) -> Q (.ref l) H'
theorem pE : FnScope ["pattern", "may"] ["pattern", "may"] (aq gv) := ⟨rfl, rfl, rfl, by decide +kernel, rfl, by decide +kernel, by decide +kernel⟩
theorem pF (D : Dfs K mg aF dF) (T : Txt mg) : FnOk P w K mg base aZ 3 (aF 6) (dF 6) ["pattern", "may"] (jc K) := by
 have Gwidth : FnOk P w K mg base aZ 1 (aF 1) (dF 1) ["pattern"] (hZ K) := kP D T
 have Gpool_of : FnOk P w K mg base aZ 2 (aF 7) (dF 7) ["block", "pattern", "may"] (kR K) := qP D T
 refine D.pools_of.fn.ok pE (fun vs H Q E h => ?_) (fun cdv A outer s H vs Q E hr h => ?_)
 ·obtain ⟨pa, ma, p, rs, may, U, rfl, _⟩ := h; rfl
 ·have hu := aV hr
  obtain ⟨pa, ma, p, rs, may, U, rfl, hp, hm, c, hl, q⟩ := h
  refine ⟨_, (aj (aw (aO ["block", "pattern", "may"] [none, some 0, some 1] rfl (bp rfl T.z_range (aa (pc D.width Gwidth (hr.mono (by decide)) (aa (pv 0) ae)) ae)) (fun _ => ao (i := 0) (aP (N := ["block", "pattern", "may"]) (by decide +kernel)) rfl (Or.inl rfl)) (fun _ => a9) (fun _ => (pc D.pool_of Gpool_of (hr.mono (by decide)) (aa (pv 0) (aa (pv 1) (aa (pv 2) ae))))) ((.cons (fun _ e => by cases e) (.cons (fun _ e => by cases e; exact ⟨rfl, rfl⟩) (.cons (fun _ e => by cases e; exact ⟨rfl, rfl⟩) .nil))))))), ?_⟩
  have m6 := hm.m6
  have dl := dM p
  refine ⟨_, rfl, pa, p, rfl, hp, by omega, fun H1 s1 => ?_⟩
  refine ⟨_, rfl, iK _, by omega, ?_⟩
  rw [CV]
  refine i7 (n := (dd p).length) (fun i => (gU may p i).map V.int) (by omega) (fun i hi H2 R s2 k => ?_) fun acc ls H2 s2 nacc hacc hrs hall hne => ?_
  ·have ei : (0 : Int) + (i : Int) = ((i : Nat) : Int) := by omega
   rw [ei]
   have s12 := s1.trans s2
   exact ⟨_, rfl, _, rfl, _, rfl, i, pa, ma, p, rs, may, U, rfl, s12.seq hp, hm.same s12, c, hi, hl, fun r H3 s3 nr hr => k r H3 s3 nr hr⟩
  ·refine q acc ls H2 (s1.trans s2) (s1.free nacc) hacc (RowsL.of (by rw [hrs, cA]) fun i r p' e1 e2 => ?_) fun r hr => ?_
   ·have hi : i < (dd p).length := by rw [<- hrs]; exact (Cc.mp e1).1
    rw [dX hi] at e2
    cases e2
    exact (hall i r e1).1
   ·obtain ⟨i, hi, ei⟩ := Cq.mp hr
    exact s1.free (hall i r (by rw [Ca hi, ei])).2
def mF (K : PySem.W.Frag) : Sp := fun vs H Q _ => ∃ (b : Addr) (rs : List Addr) (rows : List (List (Int × Int))), vs = [.ref b] /\ H b = some (.lst (rs.map V.ref)) /\ BillL H rs rows /\ rows.length <= 6 /\ (∀ row ∈ rows, row.length <= 20) /\
 ∀ l (ls : List Addr) H', Same H H' -> H l = none -> H' l = some (.lst (ls.map V.ref)) -> RowsL H' ls (rows.map fun row => row.map (·.1)) -> (∀ r ∈ ls, H r = none) -> Q (.ref l) H'
theorem tZ : FnScope ["bill"] ["bill"] (aq kN) := ⟨rfl, rfl, rfl, by decide +kernel, rfl, by decide +kernel, by decide +kernel⟩
theorem t7 (D : Dfs K mg aF dF) (T : Txt mg) : FnOk P w K mg base aZ 1 (aF 8) (dF 8) ["bill"] (mF K) := by
 refine D.may_of.fn.ok tZ (fun vs H Q E h => ?_) (fun cdv A outer s H vs Q E hr h => ?_)
 ·obtain ⟨b, rs, rows, rfl, _⟩ := h; rfl
 ·have hu := aV hr
  obtain ⟨b, rs, rows, rfl, hb, bl, r6, r20, q⟩ := h
  refine ⟨_, (aj (aw (aO ["pairs"] [none] rfl (iq K (pv 0)) (fun _ => ao (i := 0) (aP (N := ["pairs"]) (by decide +kernel)) rfl (Or.inl rfl)) (fun _ => a9) (fun _ => (aO ["badge", "minutes"] [none, none] rfl (iq K (pv 0)) (fun _ => uE K (n := 2) rfl (aM (ao (i := 0) (aP (N := ["badge", "minutes"]) (by decide +kernel)) rfl (Or.inl rfl)) (aM (ao (i := 1) (aP (N := ["badge", "minutes"]) (by decide +kernel)) rfl (Or.inl rfl)) cG))) (fun _ => a9) (fun _ => (pv 0)) ((.cons (fun _ e => by cases e) (.cons (fun _ e => by cases e) .nil))))) ((.cons (fun _ e => by cases e) .nil))))), ?_⟩
  refine ⟨_, rfl, b, rfl, ⟨_, SqL.of hb⟩, ?_⟩
  have ln := bl.len
  refine j3 (xs := rs.map V.ref) (fun i => (rows.getD i []).map fun x => V.int x.1) (SqL.of hb) (by rw [B9]; omega) (fun i x hx H2 R s2 k => ?_) fun acc ls H2 s2 nacc hacc hls hall hne => ?_
  ·rw [Cd] at hx
   obtain ⟨r, hr, rfl⟩ := Cj.mp hx
   obtain ⟨row, hrow, ra⟩ := (bl.same s2).get hr
   have eg : rows.getD i [] = row := by rw [Cb, hrow]; rfl
   rw [eg] at k
   have r2 := r20 row (Ce hrow)
   refine ⟨_, rfl, r, rfl, ⟨_, SqL.of ra.choose_spec.1⟩, ?_⟩
   exact i9 (fun x => V.int x.1) ra (by omega) (fun j x hx H3 R s3 k3 => ⟨_, rfl, k3 H3 (Same.refl _)⟩) fun acc2 H3 s3 n3 h3 => k acc2 H3 s3 n3 h3
  ·rw [B9] at hls
   refine q acc ls H2 s2 nacc hacc (RowsL.of (by rw [B9]; omega) fun i r p e1 e2 => ?_) fun r hr => ?_
   ·rw [Cd] at e2
    obtain ⟨row, hrow, rfl⟩ := Cj.mp e2
    have := (hall i r e1).1
    rw [Cb, hrow] at this
    rw [this, CB]; rfl
   ·obtain ⟨i, hi, ei⟩ := Cq.mp hr
    exact (hall i r (by rw [Ca hi, ei])).2
def dP (K : PySem.W.Frag) : Sp := fun vs H Q _ => ∃ (b ha : Addr) (rs : List Addr) (rows : List (List (Int × Int))) (hands : List Int), vs = [.ref b, .ref ha] /\ H b = some (.lst (rs.map V.ref)) /\ BillL H rs rows /\ rows.length <= 6 /\ (∀ row ∈ rows, (row.map (·.1)).Nodup) /\ SqL K H ha (hands.map V.int) /\ hands.length = rows.length /\
 (∀ (i : Nat) row h, rows[i]? = some row -> hands[i]? = some h -> h ∈ row.map (·.1)) /\ ∀ H', Same H H' -> Q (.int (aI rows hands)) H'
theorem lD : FnScope ["bill", "hands"] ["bill", "hands"] (aq eK) := ⟨rfl, rfl, rfl, by decide +kernel, rfl, by decide +kernel, by decide +kernel⟩
theorem gd (D : Dfs K mg aF dF) (T : Txt mg) : FnOk P w K mg base aZ 1 (aF 9) (dF 9) ["bill", "hands"] (dP K) := by
 refine D.minutes_of.fn.ok lD (fun vs H Q E h => ?_) (fun cdv A outer s H vs Q E hr h => ?_)
 ·obtain ⟨b, ha, rs, rows, hands, rfl, _⟩ := h; rfl
 ·have hu := aV hr
  obtain ⟨b, ha, rs, rows, hands, rfl, hb, bl, r6, nd, hh, hl, hin, q⟩ := h
  refine ⟨_, (aj (aw (av (Ap K) (by rfl) T.z_sum boot_sum (aa (aO ["pairs", "hand"] [none, none] rfl (u4 K rfl T.z_zip (aa (pv 0) (aa (pv 1) ae))) (fun _ => uE K (n := 2) rfl (aM (ao (i := 0) (aP (N := ["pairs", "hand"]) (by decide +kernel)) rfl (Or.inl rfl)) (aM (ao (i := 1) (aP (N := ["pairs", "hand"]) (by decide +kernel)) rfl (Or.inl rfl)) cG))) (fun _ => a9) (fun _ => (fN hu (bq (vh K) (by rfl) T.z_dict PyProof.Rows.boot_dict (aa (pv 0) ae)) (pv 1) (fun _ _ => rfl))) ((.cons (fun _ e => by cases e) (.cons (fun _ e => by cases e) .nil)))) ae)))), ?_⟩
  have ln := bl.len
  refine ⟨_, rfl, _, rfl, b, ha, _, _, rfl, SqL.of hb, hh, ?_⟩
  refine md (xs := rs.map V.ref) (ys := hands.map V.int) (fun j => .int (bE rows hands j)) (by rw [B9, B9]; omega) (SqL.of hb) hh (by rw [B9]; omega) (fun j x y H2 R hx hy s2 k => ?_) fun acc H2 s2 nacc hacc => ?_
  ·rw [Cd] at hx
   obtain ⟨r, hr, rfl⟩ := Cj.mp hx
   obtain ⟨d, hd, rfl, ed⟩ := iI hy
   obtain ⟨row, hrow, ps, hps, tps⟩ := (bl.same s2).get hr
   have hm := hin j row d hrow hd
   obtain ⟨c, hc⟩ : ∃ c, aK row d = some c := by
    cases e : aK row d with
    | none => exact absurd hm (cB.mp e)
    | some c => exact ⟨c, rfl⟩
   have em : bE rows hands j = c := by
    unfold bE
    rw [Cb, Cb, hrow, hd]
    show (aK row d).getD 0 = c
    rw [hc]; rfl
   rw [em] at k
   refine ⟨_, rfl, r, ps, og row, rfl, SqL.of hps, by unfold og; rw [B9, tps.len], qD (nd row (Ce hrow)), tps.kv, fun l nl => ?_⟩
   refine ⟨_, rfl, l, .int c, rfl, ?_, k _ (Same.new nl)⟩
   have g := DGet.k (k := Sum.inl d) (show az H2 l (.dK (og row)) l = some (.dK (og row)) from ab)
   rw [fk, hc] at g
   exact g
  ·have e1 : (Cf (rs.map V.ref).length).map (fun j => V.int (bE rows hands j)) = ((Cf rows.length).map (bE rows hands)).map V.int := by rw [B9, ln, CB]; rfl
   rw [e1] at hacc
   exact ⟨acc, _, rfl, SqL.of hacc, q H2 s2⟩
def pG (K : PySem.W.Frag) : Sp := fun vs H Q _ => ∃ (pa d : Addr) (row r2 : List (Int × Int)), vs = [.ref pa, .ref d] /\ RowAt H pa row /\ H d = some (.dK (og r2)) /\ row.length <= 1000 /\
 ∀ l H', Same H H' -> H l = none -> RowAt H' l (iL row r2) -> Q (.ref l) H'
theorem vV : FnScope ["pairs", "minutes"] ["pairs", "minutes"] (aq nQ) := ⟨rfl, rfl, rfl, by decide +kernel, rfl, by decide +kernel, by decide +kernel⟩
theorem vW (D : Dfs K mg aF dF) (T : Txt mg) : FnOk P w K mg base aZ 1 (aF 12) (dF 12) ["pairs", "minutes"] (pG K) := by
 refine D.added.fn.ok vV (fun vs H Q E h => ?_) (fun cdv A outer s H vs Q E hr h => ?_)
 ·obtain ⟨pa, d, row, r2, rfl, _⟩ := h; rfl
 ·have hu := aV hr
  obtain ⟨pa, d, row, r2, rfl, hr, hd, hl, q⟩ := h
  refine ⟨_, (aj (aw (aO ["badge", "cost", "minutes"] [none, none, some 1] rfl (iq K (pv 0)) (fun _ => uE K (n := 2) rfl (aM (ao (i := 0) (aP (N := ["badge", "cost", "minutes"]) (by decide +kernel)) rfl (Or.inl rfl)) (aM (ao (i := 1) (aP (N := ["badge", "cost", "minutes"]) (by decide +kernel)) rfl (Or.inl rfl)) cG))) (fun _ => fO (mJ (yG hu (pv 0) (pv 2)))) (fun _ => (aE (aa (pv 0) (aa (ay aU (pv 1) (fN hu (pv 2) (pv 0) (fun _ _ => rfl))) ae)))) ((.cons (fun _ e => by cases e) (.cons (fun _ e => by cases e) (.cons (fun _ e => by cases e; exact ⟨rfl, rfl⟩) .nil))))))), ?_⟩
  obtain ⟨ps, h1, h2⟩ := hr
  refine ⟨_, rfl, pa, rfl, ⟨_, SqL.of h1⟩, ?_⟩
  refine kj (ps := ps) (row := row) (fun i => (aK r2 (row.getD i (0, 0)).1).isSome) (fun acc i v H => ∃ t, v = .ref t /\ t ≠ acc /\ b7 H t ((row.getD i (0, 0)).1, (row.getD i (0, 0)).2 + (aK r2 (row.getD i (0, 0)).1).getD 0)) (SqL.of h1) h2 (by omega) (fun acc i v H H' ⟨t, e, n, h⟩ s => ⟨t, e, n, s _ _ n h⟩) (fun i x hx H2 R s2 k => ?_) (fun acc i x hx hp H2 R s2 n1 n2 k => ?_) fun acc vs H2 s2 nacc hacc hpr => ?_
  ·have eg : row.getD i (0, 0) = x := by rw [Cb, hx]; rfl
   rw [eg] at k
   have g := DGet.k (k := Sum.inl x.1) (s2 _ _ hd)
   rw [fk] at g
   have ei : ((aK r2 x.1).map V.int).isSome = (aK r2 x.1).isSome := Option.isSome_map
   have kk := k H2 (Same.refl _)
   rw [<- ei] at kk
   exact ⟨_, rfl, _, rfl, d, _, rfl, g, _, rfl, kk⟩
  ·have eg : row.getD i (0, 0) = x := by rw [Cb, hx]; rfl
   rw [eg] at k hp
   have g := DGet.k (k := Sum.inl x.1) (s2 _ _ hd)
   rw [fk] at g
   obtain ⟨c, hc⟩ := Dh.mp hp
   rw [hc] at g k
   refine ⟨_, rfl, _, rfl, _, rfl, _, rfl, d, .int c, rfl, g, _, _, rfl, rfl, bY, fun t nt => k _ _ (Same.new nt) ⟨t, rfl, fun z => n2 (by rw [<- z]; exact nt), ab⟩⟩
  ·have hpr2 : Paired (fun (i : Nat) (v : V) => ∃ t, v = V.ref t /\ b7 H2 t ((row.getD i (0, 0)).1, (row.getD i (0, 0)).2 + (aK r2 (row.getD i (0, 0)).1).getD 0)) _ _ := Paired.mapP hpr fun i v ⟨t, e, _, h⟩ => ⟨t, e, h⟩
   obtain ⟨qs, e1, e2⟩ := rK hpr2
   rw [Aq (g := fun x => (aK r2 x.1).isSome) (F := fun x => (x.1, x.2 + (aK r2 x.1).getD 0)) (d := (0, 0))] at e2
   exact q acc H2 s2 nacc ⟨qs, by rw [hacc, e1], e2⟩
def kU (K : PySem.W.Frag) : Sp := fun vs H Q _ => ∃ (b : Nat) (pa ba : Addr) (p : List Int) (rs : List Addr) (rows : List (List (Int × Int))), vs = [.int ((b : Nat) : Int), .ref pa, .ref ba] /\ SqL K H pa (p.map V.int) /\ H ba = some (.lst (rs.map V.ref)) /\ BillL H rs rows /\ bU p /\ b < (dd p).length /\ p.length <= rows.length /\ rows.length <= 6 /\ (∀ row ∈ rows, row.length <= 20 /\ (au row).Nodup) /\
 ∀ l H', Same H H' -> H l = none -> RowAt H' l (g4 rows (cF p b)) -> Q (.ref l) H'
theorem dv : FnScope ["block", "pattern", "bill", "steps", "step", "pairs"] ["block", "pattern", "bill"] (aq iT) := ⟨rfl, rfl, rfl, by decide +kernel, rfl, by decide +kernel, by decide +kernel⟩
theorem qQ (D : Dfs K mg aF dF) (T : Txt mg) : FnOk P w K mg base aZ 2 (aF 11) (dF 11) ["block", "pattern", "bill"] (kU K) := by
 have Gadded : FnOk P w K mg base aZ 1 (aF 12) (dF 12) ["pairs", "minutes"] (pG K) := vW D T
 refine D.sums_of.fn.ok dv (fun vs H Q E h => ?_) (fun cdv A outer s H vs Q E hr h => ?_)
 ·obtain ⟨b, pa, ba, p, rs, rows, rfl, _⟩ := h; rfl
 ·have hu := aV hr
  obtain ⟨b, pa, ba, p, rs, rows, rfl, hp, hba, bl, c, hb, hl, r6, ok, q⟩ := h
  refine ⟨_, (af (fP (i₀ := 3) dv.nd rfl (Or.inl rfl) ["step", "pattern", "block"] [none, some 1, some 0] rfl (bp rfl T.z_range (aa (av (bZ K) (by rfl) T.z_len boot_len (aa (pv 1) ae)) ae)) (fun _ => ao (i := 0) (aP (N := ["step", "pattern", "block"]) (by decide +kernel)) rfl (Or.inl rfl)) (fun _ => fO (aA b6 (ax (c7 K) (pv 1) (pv 0) (fun _ _ => rfl)) (pv 2) (aB _))) (fun _ => (pv 0)) ((.cons (fun _ e => by cases e) (.cons (fun _ e => by cases e; exact ⟨rfl, rfl⟩) (.cons (fun _ e => by cases e; exact ⟨rfl, rfl⟩) .nil)))))
   (af (ar (i := 5) dv.nd rfl (Or.inl rfl) (bq (oK K) (by rfl) T.z_list boot_list (aa (ax (c7 K) (pv 2) (ax (c7 K) (pv 3) ag (fun _ _ => rfl)) (fun _ _ => rfl)) ae)))
   (af (bc PassesOwn.never rfl (iq K (dR (zx K) (pv 3) (eE ag) gJ)) (ao (i := 4) dv.nd rfl (Or.inl rfl))
    (aj (ar (i := 5) dv.nd rfl (Or.inl rfl) (pc D.added Gadded (hr.mono (by decide)) (aa (pv 5) (aa (bq (vh K) (by rfl) T.z_dict PyProof.Rows.boot_dict (aa (ax (c7 K) (pv 2) (pv 4) (fun _ _ => rfl)) ae)) ae))))))
   (aj (aw (pv 5)))))), ?_⟩
  refine ⟨_, rfl, _, _, rfl, .inl ⟨_, hp, rfl⟩, _, rfl, iK _, by rw [B9]; omega, ?_⟩
  have e0 : (((p.map V.int).length : Nat) : Int).toNat = p.length := by rw [B9]; omega
  rw [e0]
  refine iG (n := p.length) (fun i => decide (p.getD i 0 = (b : Int))) (by omega) (fun i hi H3 R s3 k => ?_) (fun i hi H3 R k => ?_) fun sl H3 s3 nsl hsl => ?_
  ·have ei : (0 : Int) + (i : Int) = ((i : Nat) : Int) := by omega
   rw [ei]
   have kk := k H3 (Same.refl _)
   rw [kd] at kk
   exact ⟨_, rfl, _, rfl, pa, _, _, _, rfl, rfl, s3.seq hp, br hi, _, rfl, rfl, _, rfl, kk⟩
  ·have ei : (0 : Int) + (i : Int) = ((i : Nat) : Int) := by omega
   rw [ei]
   exact ⟨_, rfl, k⟩
  have sne : cF p b ≠ [] := cX c hb
  have slt : ∀ i ∈ cF p b, i < rows.length := fun i hi => by have := (de.mp hi).1; omega
  have hsl : H3 sl = some (.lst ((cF p b).map fun (i : Nat) => V.int (i : Int))) := hsl
  have q2 : ∀ l H', Same H3 H' -> H3 l = none -> RowAt H' l (g4 rows (cF p b)) -> Q (.ref l) H' := fun l H' s n e => q l H' (s3.trans s) (s3.free n) e
  have hba3 := s3 _ _ hba
  have bl3 := bl.same s3
  clear q
  generalize cF p b = st at hsl sne slt q2
  obtain ⟨s0, sr, rfl⟩ := List.exists_cons_of_ne_nil sne
  have at_row : ∀ i, i < rows.length -> rows[i]? = some (rows.getD i []) := fun i hi => by rw [Cb, Ca hi]; rfl
  obtain ⟨r0, hr0, ps0, hps0, tps0⟩ := bl3.at (at_row s0 (slt s0 (by simp)))
  refine ⟨_, rfl, _, rfl, sl, _, _, _, rfl, rfl, SqL.of hsl, aX (j := 0) (v := V.int (s0 : Int)) rfl, ba, _, _, _, rfl, rfl, SqL.of hba3, aX (by rw [Cd, hr0]; rfl), r0, _, rfl, .inl (SqL.of hps0), fun l nl => ?_⟩
  have cf : fV (((s0 :: sr).map fun (i : Nat) => V.int (i : Int))) (some (1 : Int)) none = sr.map fun (i : Nat) => V.int (i : Int) := jY _ 1
  refine ⟨_, rfl, _, rfl, sl, _, rfl, SqL.of (Same.new nl _ _ hsl), fun cc ncc => ?_⟩
  have s34 := (Same.new (o := .lst (ps0.map V.ref)) nl).to (o := .lst (sr.map fun (i : Nat) => V.int (i : Int))) ncc
  have ncl : l ≠ cc := fun z => by rw [<- z, ab] at ncc; cases ncc
  have hl4 : az (az H3 l (.lst (ps0.map V.ref))) cc (.lst (sr.map fun (i : Nat) => V.int (i : Int))) l = some (.lst (ps0.map V.ref)) := by rw [ah ncl]; exact ab
  have hcc4 : az (az H3 l (.lst (ps0.map V.ref))) cc (.lst (sr.map fun (i : Nat) => V.int (i : Int))) cc = some (.lst (sr.map fun (i : Nat) => V.int (i : Int))) := ab
  rw [cf]
  generalize az (az H3 l (.lst (ps0.map V.ref))) cc (.lst (sr.map fun (i : Nat) => V.int (i : Int))) = H4 at s34 hl4 hcc4
  refine ⟨cc, rfl, ⟨_, SqL.of hcc4⟩, ?_⟩
  refine bK (K := K) (a := cc) (xs := sr.map fun (i : Nat) => V.int (i : Int)) (fun i σ H5 => ∃ (po : Addr) (x : Option V), σ = [some (.int ((b : Nat) : Int)), some (.ref pa), some (.ref ba), some (.ref sl), x, some (.ref po)] /\ Same H4 H5 /\ H3 po = none /\ RowAt H5 po (g4 rows (s0 :: sr.take i)))
   ⟨l, none, rfl, Same.refl _, nl, ⟨ps0, hl4, by rw [DD]; exact tps0.same s34⟩⟩ (fun i σ H5 _ hq__ => by obtain ⟨_, _, _, s, _⟩ := hq__; exact s.seq (SqL.of hcc4)) ?_ ?_
  ·rintro i y σ H5 hi ⟨po, x, rfl, s5, npo, hpo⟩
   obtain ⟨d, hd, rfl, _⟩ := gn hi
   have hdl := slt d (Cz _ (Ce hd))
   have s35 := s34.trans s5
   have hrw := at_row d hdl
   obtain ⟨r1, hr1, ps1, hps1, tps1⟩ := (bl3.same s35).at hrw
   have okd := ok _ (Ce hrw)
   refine ⟨_, rfl, _, rfl, _, rfl, ba, _, _, _, rfl, rfl, SqL.of (s35 _ _ hba3), aX (by rw [Cd, hr1]; rfl), r1, ps1, og (rows.getD d []), rfl, SqL.of hps1, by unfold og; rw [B9, tps1.len], qD okd.2, tps1.kv, fun dd nd => ?_⟩
   have s6 := Same.new (o := .dK (og (rows.getD d []))) nd
   refine ⟨po, dd, _, rows.getD d [], rfl, hpo.same s6, ab, CO (vm (fun row h => (ok row h).1) _) (by decide), fun l2 H6 t1 t2 t3 => ?_⟩
   refine ⟨l2, _, rfl, s5.trans (s6.trans t1), s35.free (s6.free t2), ?_⟩
   have et : sr.take (i + 1) = sr.take i ++ [d] := by rw [Dp, hd]; rfl
   rw [et, <- List.cons_append, iN (by simp)]
   exact t3
  ·rintro σ H5 ⟨po, x, rfl, s5, npo, hpo⟩
   rw [B9, C0] at hpo
   exact ⟨_, rfl, q2 po H5 (s34.trans s5) npo hpo⟩
def nV (K : PySem.W.Frag) : Sp := fun vs H Q _ => ∃ (pa ba : Addr) (p : List Int) (rs : List Addr) (rows : List (List (Int × Int))), vs = [.ref pa, .ref ba] /\ SqL K H pa (p.map V.int) /\ H ba = some (.lst (rs.map V.ref)) /\ BillL H rs rows /\ bU p /\ p.length <= rows.length /\ rows.length <= 6 /\ (∀ row ∈ rows, row.length <= 20 /\ (au row).Nodup) /\
 ∀ l ls H', Same H H' -> H l = none -> H' l = some (.lst (ls.map V.ref)) -> BillL H' ls (bF rows p) -> (∀ r ∈ ls, H r = none /\ r ≠ l) -> Q (.ref l) H'
theorem xN : FnScope ["pattern", "bill"] ["pattern", "bill"] (aq qM) := ⟨rfl, rfl, rfl, by decide +kernel, rfl, by decide +kernel, by decide +kernel⟩
theorem rS (D : Dfs K mg aF dF) (T : Txt mg) : FnOk P w K mg base aZ 3 (aF 10) (dF 10) ["pattern", "bill"] (nV K) := by
 have Gwidth : FnOk P w K mg base aZ 1 (aF 1) (dF 1) ["pattern"] (hZ K) := kP D T
 have Gsums_of : FnOk P w K mg base aZ 2 (aF 11) (dF 11) ["block", "pattern", "bill"] (kU K) := qQ D T
 refine D.sums.fn.ok xN (fun vs H Q E h => ?_) (fun cdv A outer s H vs Q E hr h => ?_)
 ·obtain ⟨pa, ba, p, rs, rows, rfl, _⟩ := h; rfl
 ·have hu := aV hr
  obtain ⟨pa, ba, p, rs, rows, rfl, hp, hba, bl, c, hl, r6, ok, q⟩ := h
  refine ⟨_, (aj (aw (aO ["block", "pattern", "bill"] [none, some 0, some 1] rfl (bp rfl T.z_range (aa (pc D.width Gwidth (hr.mono (by decide)) (aa (pv 0) ae)) ae)) (fun _ => ao (i := 0) (aP (N := ["block", "pattern", "bill"]) (by decide +kernel)) rfl (Or.inl rfl)) (fun _ => a9) (fun _ => (pc D.sums_of Gsums_of (hr.mono (by decide)) (aa (pv 0) (aa (pv 1) (aa (pv 2) ae))))) ((.cons (fun _ e => by cases e) (.cons (fun _ e => by cases e; exact ⟨rfl, rfl⟩) (.cons (fun _ e => by cases e; exact ⟨rfl, rfl⟩) .nil))))))), ?_⟩
  have dl := dM p
  refine ⟨_, rfl, pa, p, rfl, hp, by omega, fun H1 s1 => ⟨_, rfl, iK _, by omega, ?_⟩⟩
  rw [CV]
  refine qF (n := (dd p).length) (fun b => g4 rows (cF p b)) (by omega) (fun i hi H2 R s2 k => ?_) fun acc ls H2 s2 nacc hacc bls nls => ?_
  ·have ei : (0 : Int) + (i : Int) = ((i : Nat) : Int) := by omega
   rw [ei]
   have s12 := s1.trans s2
   exact ⟨_, rfl, _, rfl, _, rfl, i, pa, ba, p, rs, rows, rfl, s12.seq hp, s12 _ _ hba, bl.same s12, c, hi, hl, r6, ok, fun l H3 s3 nl hl => k l H3 s3 nl hl⟩
  ·exact q acc ls H2 (s1.trans s2) (s1.free nacc) hacc bls fun r hr => ⟨s1.free (nls r hr).1, (nls r hr).2⟩
def gF (K : PySem.W.Frag) (n : Nat) : Sp := fun vs H Q _ => ∃ (a hd ad : Addr) (rs : List Addr) (ps : List (List Int)) (U : List Int) (pl : Nat) (kvs : HK) (as : List Int), vs = [.ref a, .ref hd, .int pl, .ref ad] /\
 SqL K H a (rs.map V.ref) /\ PoolsL K H rs ps /\ pl < ps.length /\ (∀ p ∈ ps, ∀ b ∈ p, b ∈ U) /\ U.length <= 60 /\ H hd = some (.dK kvs) /\ H ad = some (.dK (eY as)) /\ hd ≠ ad /\
 (kvs.map (·.1)).Nodup /\ Good ps kvs /\ as.Nodup /\ (∀ b ∈ as, b ∈ U) /\ (U.filter fun c => decide (c ∉ as)).length < n /\
 ∀ ok kvs' as' H', Sett ps U pl kvs as ok kvs' as' -> SameX [hd, ad] H H' -> H' hd = some (.dK kvs') -> H' ad = some (.dK (eY as')) -> Q (.bl ok) H'
def mG (K : PySem.W.Frag) : Sp := gF K 28
theorem mH : FnScope ["pools", "holders", "place", "asked", "badge"] ["pools", "holders", "place", "asked"] (aq kO) := ⟨rfl, rfl, rfl, by decide +kernel, rfl, by decide +kernel, by decide +kernel⟩
theorem t8 (D : Dfs K mg aF dF) (T : Txt mg) : FnOk P w K mg base aZ 28 (aF 14) (dF 14) ["pools", "holders", "place", "asked"] (mG K) := by
 have all : ∀ n, FnOk P w K mg base aZ n (aF 14) (dF 14) ["pools", "holders", "place", "asked"] (gF K n) := by
  intro n
  induction n with
  | zero =>
   have no : ∀ vs H Q E, ¬ gF K 0 vs H Q E := fun vs H Q E h => by
    obtain ⟨a, hd, ad, rs, ps, U, pl, kvs, as, _, _, _, _, _, _, _, _, _, _, _, _, _, h, _⟩ := h
    omega
   exact ⟨fun vs H Q E h => absurd h (no vs H Q E), fun A outer s H args us vs Q E _ _ _ _ h => absurd h (no vs H Q E)⟩
  | succ n Gsettle =>
   refine D.settle.fn.ok mH (fun vs H Q E h => ?_) (fun cdv A outer s H vs Q E hr h => ?_)
   ·obtain ⟨a, hd, ad, rs, ps, U, pl, kvs, as, rfl, _⟩ := h; rfl
   have hu : A.units + 3 + 1 < cLine := by have := hr.un; show A.units + 3 + 1 < cLine; simp only [Around.deeper] at this; omega
   obtain ⟨a, hd, ad, rs, ps, U, pl, kvs, as, rfl, hS, hP, hpl, hU, hU60, hH, hA, hne, nd, g, nda, hsub, hleft, q⟩ := h
   refine ⟨_, (af (bc PassesOwn.never rfl (iq K (ax (c7 K) (pv 0) (pv 2) (fun _ _ => rfl))) (ao (i := 4) mH.nd rfl (Or.inl rfl))
    (aj (aW (mJ (iz hu (pv 4) (pv 3)))
     (af (mV hu (pv 3) (pv 4) e6 rfl)
     (aj (aW (PW.pt (fW (mJ (iz hu (pv 4) (pv 1))) (dJ (cL (pc D.settle Gsettle hr (aa (pv 0) (aa (pv 1) (aa (fN hu (pv 1) (pv 4) (fun _ _ => rfl)) (aa (pv 3) ae)))))))))
      (af (mV hu (pv 1) (pv 4) (pv 2) rfl)
      (aj (aw e6)))
      aD)))
     aD)))
   (aj (aw e6))), ?_⟩
   have hp : ps[pl]? = some ps[pl] := Ca hpl
   generalize ps[pl] = p at hp
   obtain ⟨r, hr1, hr2⟩ := hP.at hp
   have dk0 : ∀ x ∈ [hd, ad], uK H x := fun x hx => by
    simp only [Cr, CY, or_false] at hx
    rcases hx with e | e <;> subst e
    ·exact ⟨_, hH⟩
    ·exact ⟨_, hA⟩
   refine ⟨_, rfl, _, rfl, a, _, _, _, rfl, rfl, hS, aX (by rw [Cd, hr1]; rfl), r, rfl, ⟨_, hr2⟩, ?_⟩
   refine bK (K := K) (a := r) (xs := p.map V.int) (fun i σ H1 => ∃ ai v, σ = [some (.ref a), some (.ref hd), some (.int pl), some (.ref ad), v] /\ SLoop ps U p kvs as i ai /\ SameX [hd, ad] H H1 /\ H1 hd = some (.dK kvs) /\ H1 ad = some (.dK (eY ai)))
    ⟨as, none, rfl, ⟨fun _ h => h, nda, hsub, fun _ h => by simp at h, fun b hb hn => absurd hb hn⟩, SameX.refl, hH, hA⟩ (fun i σ H1 _ hq__ => by obtain ⟨_, _, _, _, s1, _⟩ := hq__; exact s1.seq dk0 hr2) ?_ ?_
   ·rintro i y σ H1 hi ⟨ai, v, rfl, sl, s1, hH1, hA1⟩
    obtain ⟨b, hb, rfl⟩ : ∃ b, p[i]? = some b /\ y = V.int b := by
     rw [Cd] at hi
     obtain ⟨b, h1, h2⟩ := Cj.mp hi
     exact ⟨b, h1, h2.symm⟩
    have hbU : b ∈ U := hU p (Ce hp) b (Ce hb)
    have al : ai.length <= U.length := sl.nd.length_le_of_subset sl.sub
    have dk1 : ∀ x ∈ [hd, ad], uK H1 x := fun x hx => by
     simp only [Cr, CY, or_false] at hx
     rcases hx with e | e <;> subst e
     ·exact ⟨_, hH1⟩
     ·exact ⟨_, hA1⟩
    refine ⟨_, rfl, _, rfl, ad, _, rfl, DGet.k (k := Sum.inl b) hA1, _, rfl, ?_⟩
    rw [oN]
    by_cases hba : b ∈ ai
    ·rw [if_pos hba]
     exact bz ⟨ai, _, rfl, sl.skip hb hba, s1, hH1, hA1⟩
    rw [if_neg hba]
    refine bH ?_
    refine ⟨_, rfl, _, rfl, ad, _, rfl, DPut.k (k := Sum.inl b) hA1 (i4 (by unfold eY; rw [B9]; omega)), ?_⟩
    rw [uJ hba]
    have hH2 : az H1 ad (.dK (eY (ai ++ [b]))) hd = some (.dK kvs) := by rw [ah hne]; exact hH1
    have s2 : SameX [hd, ad] H (az H1 ad (.dK (eY (ai ++ [b])))) := s1.trans (SameX.upd (by simp))
    have dk2 : ∀ x ∈ [hd, ad], uK (az H1 ad (.dK (eY (ai ++ [b])))) x := fun x hx => by
     simp only [Cr, CY, or_false] at hx
     rcases hx with e | e <;> subst e
     ·exact ⟨_, hH2⟩
     ·exact ⟨_, ab⟩
    have kl := rg hU g nd
    refine ⟨_, rfl, _, rfl, hd, _, rfl, DGet.k (k := Sum.inl b) hH2, _, rfl, ?_⟩
    cases hv : a8 kvs (Sum.inl b) with
    | none =>
     refine bH (bH ?_)
     refine ⟨_, rfl, _, rfl, _, rfl, hd, _, rfl, DPut.k (k := Sum.inl b) hH2 (i4 (by omega)), ?_⟩
     refine q true _ (ai ++ [b]) _ (sl.free hp (hU p (Ce hp)) hb hba hv nd g) (s2.trans (SameX.upd (by simp))) ab ?_
     rw [ah hne.symm]; exact ab
    | some vv =>
     obtain ⟨t, pt, rfl, ht, _⟩ := g.val hv
     have htl : t < ps.length := (Cc.mp ht).1
     refine bz ?_
     refine ⟨_, rfl, _, rfl, _, rfl, _, rfl, hd, _, rfl, (by rw [<- hv]; exact DGet.k (k := Sum.inl b) hH2), _, rfl, ?_⟩
     refine ⟨a, hd, ad, rs, ps, U, t, kvs, ai ++ [b], rfl, s2.seq dk0 hS, hP.mono s2 dk0, htl, hU, hU60, hH2, ab, hne, nd, g, eG sl.nd hba, ?_, ?_, ?_⟩
     ·intro c hc
      rcases CC.mp hc with z | z
      ·exact sl.sub c z
      ·rw [Cm.mp z]; exact hbU
     ·have := xb hbU hba sl.grow
      omega
     intro ok kvs2 as2 H3 st s3 hH3 hA3
     refine ⟨ok, rfl, ?_⟩
     cases ok with
     | false =>
      obtain ⟨e, sl2⟩ := sl.miss hb hba hv htl st
      subst e
      exact bz ⟨as2, _, rfl, sl2, s2.trans s3, hH3, hA3⟩
     | true =>
      obtain ⟨n2, g2, _⟩ := st.yes rfl
      have kl2 := rg hU g2 n2
      refine bH ?_
      refine ⟨_, rfl, _, rfl, _, rfl, hd, _, rfl, DPut.k (k := Sum.inl b) hH3 (i4 (by omega)), ?_⟩
      refine q true _ as2 _ (sl.turn hp hb hba hv st) ((s2.trans s3).trans (SameX.upd (by simp))) ab ?_
      rw [ah hne.symm]; exact hA3
   ·rintro σ H1 ⟨ai, v, rfl, sl, s1, hH1, hA1⟩
    rw [B9] at sl
    exact q false kvs ai H1 (sl.done hp) s1 hH1 hA1
 exact all 28
def eX (K : PySem.W.Frag) : Sp := fun vs H Q _ => ∃ (hd ad : Addr) (pl : Nat) (kvs : HK) (as : List Int), vs = [.ref hd, .int pl, .ref ad] /\ H hd = some (.dK kvs) /\ H ad = some (.dK (eY as)) /\ hd ≠ ad /\ as.length <= 60 /\
 (∀ b ∈ as, ∃ i : Int, a8 kvs (Sum.inl b) = some (.int i)) /\
 ∀ l (ms : List Int) H', SameX [ad] H H' -> H l = none -> H' l = some (.lst (ms.map V.int)) -> ms.Perm ((pl : Int) :: as.map (hold kvs)) -> ms.Pairwise (· <= ·) -> Q (.ref l) H'
theorem jv : FnScope ["holders", "place", "asked"] ["holders", "place", "asked"] (aq dg) := ⟨rfl, rfl, rfl, by decide +kernel, rfl, by decide +kernel, by decide +kernel⟩
theorem jw (D : Dfs K mg aF dF) (T : Txt mg) : FnOk P w K mg base aZ 1 (aF 15) (dF 15) ["holders", "place", "asked"] (eX K) := by
 refine D.short_places.fn.ok jv (fun vs H Q E h => ?_) (fun cdv A outer s H vs Q E hr h => ?_)
 ·obtain ⟨hd, ad, pl, kvs, as, rfl, _⟩ := h; rfl
 ·have hu := aV hr
  obtain ⟨hd, ad, pl, kvs, as, rfl, hH, hA, hne, h60, hv, q⟩ := h
  refine ⟨_, (aj (aw (av (wX K) (by rfl) T.z_sorted boot_sorted (aa (ay mT (aL (aa (pv 1) ae)) (aO ["badge", "holders"] [none, some 0] rfl (w6 (pv 2)) (fun _ => ao (i := 0) (aP (N := ["badge", "holders"]) (by decide +kernel)) rfl (Or.inl rfl)) (fun _ => a9) (fun _ => (fN hu (pv 1) (pv 0) (fun _ _ => rfl))) ((.cons (fun _ e => by cases e) (.cons (fun _ e => by cases e; exact ⟨rfl, rfl⟩) .nil))))) ae)))), ?_⟩
  refine ⟨_, rfl, bY, fun l1 n1 => ?_⟩
  have nl1 : ad ≠ l1 := ak hA n1
  refine ⟨_, rfl, ad, _, rfl, by rw [ah nl1]; exact hA, fun φ => ?_⟩
  have hH1 : az (az H l1 (.lst [.int pl])) ad (.ext φ) hd = some (.dK kvs) := by rw [ah hne, ah (ak hH n1)]; exact hH
  refine sJ (kvs := eY as) (fun k => match k with | .inl b => .int (hold kvs b) | .inr _ => .non) (by unfold eY; rw [B9]; omega) ab (fun i k v hi H2 R s2 kk => ?_) fun acc H2 s2 na hacc => ?_
  ·obtain ⟨b, hb, e⟩ : ∃ b, b ∈ as /\ (Sum.inl b, V.bl true) = (k, v) := by
    have m := Ce hi
    obtain ⟨b, hb, e⟩ := Ci.mp m
    exact ⟨b, hb, e⟩
   cases e
   obtain ⟨z, hz⟩ := hv b hb
   refine ⟨_, rfl, _, rfl, hd, _, rfl, (by rw [<- hz]; exact DGet.k (k := Sum.inl b) (s2 _ _ hH1)), ?_⟩
   have e := gN hz
   rw [<- e]
   exact kk H2 (Same.refl _)
  have e1 : (eY as).map (fun p => match p.1 with | Sum.inl b => V.int (hold kvs b) | Sum.inr _ => V.non) = (as.map (hold kvs)).map V.int := by
   unfold eY
   rw [CB, CB]; rfl
  have hacc' : H2 acc = some (.lst ((as.map (hold kvs)).map V.int)) := hacc.trans (congrArg (fun z => some (HO.lst z)) e1)
  have hl2 : H2 l1 = some (.lst [.int pl]) := s2 _ _ (by rw [ah nl1.symm]; exact ab)
  refine ⟨l1, acc, _, _, rfl, rfl, hl2, hacc', by rw [B9, B9]; exact wU (by show 1 + _ <= 1000; omega), fun l3 n3 => ?_⟩
  refine ⟨l3, (pl : Int) :: as.map (hold kvs), rfl, SqL.of ab, by rw [CF, B9]; omega, fun l4 ms n4 hp hs => ?_⟩
  have sA : SameX [ad] H H2 := fun b o hb e => s2 b o (by rw [ah (by simpa using hb), ah (ak e n1)]; exact e)
  have n4' : H l4 = none := by
   cases z : H l4 with
   | none => rfl
   | some o =>
    by_cases hb : l4 = ad
    ·have : az H2 l3 (.lst (V.int (pl : Int) :: (as.map (hold kvs)).map V.int)) ad = none := hb ▸ n4
     rw [ah (ak (s2 _ _ ab) n3), s2 _ _ ab] at this
     cases this
    ·have z2 := sA l4 o (by simpa using hb) z
     have : az H2 l3 (.lst (V.int (pl : Int) :: (as.map (hold kvs)).map V.int)) l4 = none := n4
     rw [ah (ak z2 n3), z2] at this
     cases this
  refine q l4 ms _ ?_ n4' ab hp hs
  exact sA.trans (Same.x ((Same.new n3).to n4))
def jd (K : PySem.W.Frag) : Sp := fun vs H Q _ => ∃ (hd : Addr) (ps : List (List Int)) (kvs : HK), vs = [.ref hd, .int ps.length] /\ H hd = some (.dK kvs) /\ ps.length <= 60 /\ Held ps kvs ps.length /\
 ∀ l (hs : List Int) H', SameX [hd] H H' -> H l = none -> H' l = some (.lst (hs.map V.int)) -> Deal ps hs -> Q (.ref l) H'
theorem dH : FnScope ["holders", "count", "hands", "badge", "place"] ["holders", "count"] (aq gw) := ⟨rfl, rfl, rfl, by decide +kernel, rfl, by decide +kernel, by decide +kernel⟩
theorem pH (D : Dfs K mg aF dF) (T : Txt mg) : FnOk P w K mg base aZ 1 (aF 16) (dF 16) ["holders", "count"] (jd K) := by
 refine D.hands_of.fn.ok dH (fun vs H Q E h => ?_) (fun cdv A outer s H vs Q E hr h => ?_)
 ·obtain ⟨hd, ps, kvs, rfl, _⟩ := h; rfl
 ·have hu := aV hr
  obtain ⟨hd, ps, kvs, rfl, hH, h60, he, q⟩ := h
  refine ⟨_, (af (ar (i := 2) dH.nd rfl (Or.inl rfl) (ay qd (aL (aa ag ae)) (pv 1)))
   (af (bc PassesOwn.never rfl (uH (um PySem.F.plainAttrs_dict PySem.F.slot_dict_items PySem.F.type_dict_items oM (pv 0))) (uE K rfl (aM (ao (i := 3) dH.nd rfl (Or.inl rfl)) (aM (ao (i := 4) dH.nd rfl (Or.inl rfl)) cG)))
    (aj (ff (pv 3) (mL (pv 2) (pv 4) fh))))
   (aj (aw (pv 2))))), ?_⟩
  refine ⟨bY, fun l0 n0 => ⟨_, rfl, l0, _, _, rfl, rfl, ab, by omega, by omega, by show 1 * _ <= _; exact wU (by omega), fun l nl => ?_⟩⟩
  have el : (Cw ((ps.length : Int)).toNat [V.int 0]).flatten = (Cw ps.length (0 : Int)).map V.int := by
   have : ((ps.length : Int)).toNat = ps.length := by omega
   rw [this]
   generalize ps.length = m
   induction m with
   | zero => rfl
   | succ m ih => rw [Di, DL, ih, Di]; rfl
  rw [el]
  have nhd0 : hd ≠ l0 := ak hH n0
  have nhd : hd ≠ l := ak (show az H l0 (.lst [.int 0]) hd = some _ by rw [ah nhd0]; exact hH) nl
  have nl' : H l = none := by
   cases z : H l with
   | none => rfl
   | some o =>
    rw [ah (ak z n0), z] at nl
    cases nl
  have hH1 : az (az H l0 (.lst [.int 0])) l (.lst ((Cw ps.length (0 : Int)).map V.int)) hd = some (.dK kvs) := by rw [ah nhd, ah nhd0]; exact hH
  refine ⟨_, rfl, .inr (.inr (.inl ⟨rfl, .inl ⟨_, hH1⟩⟩)), hd, kvs, rfl, rfl, hH1, fun v nv => ?_⟩
  have nvd : hd ≠ v := ak hH1 nv
  have nvl : l ≠ v := ak ab nv
  refine ⟨v, hd, kvs, rfl, ab, by rw [ah nvd]; exact hH1, fun φ => ?_⟩
  refine sI (fun i σ H1 => ∃ (hs : List Int) (x y : Option V), σ = [some (.ref hd), some (.int ps.length), some (.ref l), x, y] /\ SameX [hd] H H1 /\ H1 hd = some (.ext φ) /\ H1 l = some (.lst (hs.map V.int)) /\ hs.length = ps.length /\
    ∀ j (b : Int) (t : Nat), j < i -> kvs[j]? = some (Sum.inl b, V.int t) -> hs[t]? = some b) ⟨Cw ps.length 0, none, none, rfl, ?_, ab, ?_, by rw [List.length_replicate], fun j b t h => by omega⟩ (fun i σ H1 _ hq__ => by obtain ⟨_, _, _, _, _, h, _⟩ := hq__; exact h) ?_ ?_
  ·intro b o hb e
   have h1 : b ≠ hd := by simpa using hb
   rw [ah h1, ah (ak (show az (az H l0 _) l _ b = some o by rw [ah (ak e nl'), ah (ak e n0)]; exact e) nv), ah (ak e nl'), ah (ak e n0)]; exact e
  ·rw [ah nhd.symm, ah nvl]; exact ab
  ·rintro i k v' σ H1 p hi ⟨hs, x, y, rfl, s1, hx1, hl1, hlen, hin⟩ np
   obtain ⟨b, t, pl, e, e2, e3⟩ := he.good _ (Ce hi)
   cases e
   have ht : t < ps.length := (Cc.mp e2).1
   have npl : l ≠ p := ak hl1 np
   refine ⟨p, _, rfl, SqT.of ab, rfl, _, _, rfl, _, _, rfl, rfl, ?_⟩
   refine ⟨_, rfl, _, rfl, _, rfl, l, _, _, t, rfl, rfl, by rw [ah npl]; exact hl1, ?_, ?_⟩
   ·unfold v7
    rw [if_pos (by omega), if_pos (by rw [B9]; omega)]
    congr 1
   refine ⟨hs.set t b, _, _, rfl, ?_, ?_, ?_, by rw [Dw]; exact hlen, fun j b' t' hj hj' => ?_⟩
   ·intro c o hc e
    rw [ah (ak e nl'), ah (ak (s1 c o hc e) np)]; exact s1 c o hc e
   ·rw [ah nhd, ah (ak hx1 np)]; exact hx1
   ·rw [ab]; congr 1; congr 1
    rw [List.map_set]; rfl
   ·by_cases hji : j = i
    ·subst hji
     rw [hi] at hj'
     have z := Option.some.inj hj'
     injection z with z1 z2
     have z1 := Sum.inl.inj z1
     injection z2 with z2
     have : t = t' := by omega
     subst this z1
     rw [DH (by omega)]
    ·have h1 := hin j b' t' (by omega) hj'
     have : t ≠ t' := fun z => by
      subst z
      have nd := he.vals
      have l1 : j < kvs.length := (Cc.mp hj').1
      have l2 : i < kvs.length := (Cc.mp hi).1
      rw [Ca l1] at hj'
      rw [Ca l2] at hi
      have e1 : (kvs.map (·.2))[j]'(by simpa using l1) = (kvs.map (·.2))[i]'(by simpa using l2) := by simp [Option.some.inj hj', Option.some.inj hi]
      exact hji ((Dx nd).mp e1)
     rw [DO this]; exact h1
  ·rintro σ H1 ⟨hs, x, y, rfl, s1, hx1, hl1, hlen, hin⟩
   refine ⟨_, rfl, q l hs H1 s1 nl' hl1 (he.deal hlen fun b t m => ?_)⟩
   obtain ⟨j, hj, ej⟩ := Cq.mp m
   exact hin j b t hj (by rw [Ca hj, ej])
def Bz (H : Hp) (t : Addr) (ps : List (List Int)) : Prop := (∃ (l : Addr) (hs : List Int), H t = some (.tup [.str "dealt", .ref l]) /\ H l = some (.lst (hs.map V.int)) /\ Deal ps hs) \/
 ∃ (l : Addr) (qs : List Nat), H t = some (.tup [.str "short", .ref l]) /\ H l = some (.lst (qs.map fun (q : Nat) => V.int (q : Int))) /\ Short ps qs
def B6 (H H' : Hp) (t : Addr) : Prop := H t = none /\ ∀ s l, H' t = some (.tup [.str s, .ref l]) -> H l = none
def nW (K : PySem.W.Frag) : Sp := fun vs H Q _ => ∃ (a : Addr) (rs : List Addr) (ps : List (List Int)) (U : List Int), vs = [.ref a] /\ SqL K H a (rs.map V.ref) /\ PoolsL K H rs ps /\ ps.length <= 6 /\ (∀ p ∈ ps, ∀ b ∈ p, b ∈ U) /\ U.length <= 26 /\
 ∀ t H', Same H H' -> B6 H H' t -> Bz H' t ps -> Q (.ref t) H'
theorem jI : FnScope ["pools", "holders", "place", "asked"] ["pools"] (aq qN) := ⟨rfl, rfl, rfl, by decide +kernel, rfl, by decide +kernel, by decide +kernel⟩
theorem rT (D : Dfs K mg aF dF) (T : Txt mg) : FnOk P w K mg base aZ 29 (aF 13) (dF 13) ["pools"] (nW K) := by
 have Gsettle : FnOk P w K mg base aZ 28 (aF 14) (dF 14) ["pools", "holders", "place", "asked"] (mG K) := t8 D T
 have Gshort_places : FnOk P w K mg base aZ 1 (aF 15) (dF 15) ["holders", "place", "asked"] (eX K) := jw D T
 have Ghands_of : FnOk P w K mg base aZ 1 (aF 16) (dF 16) ["holders", "count"] (jd K) := pH D T
 refine D.deal.fn.ok jI (fun vs H Q E h => ?_) (fun cdv A outer s H vs Q E hr h => ?_)
 ·obtain ⟨a, rs, ps, U, rfl, _⟩ := h; rfl
 ·have hu := aV hr
  obtain ⟨a, rs, ps, U, rfl, hS, hP, h6, hU, hU26, q⟩ := h
  refine ⟨_, (af (ar (i := 1) jI.nd rfl (Or.inl rfl) gL)
   (af (bc PassesOwn.never rfl (bp rfl T.z_range (aa (av (bZ K) (by rfl) T.z_len boot_len (aa (pv 0) ae)) ae)) (ao (i := 2) jI.nd rfl (Or.inl rfl))
    (af (ar (i := 3) jI.nd rfl (Or.inl rfl) gL)
    (aj (aW (ir (cL (pc D.settle Gsettle (hr.mono (by decide)) (aa (pv 0) (aa (pv 1) (aa (pv 2) (aa (pv 3) ae)))))))
     (aj (aw (aE (aa aY (aa (pc D.short_places Gshort_places (hr.mono (by decide)) (aa (pv 1) (aa (pv 2) (aa (pv 3) ae)))) ae)))))
     aD))))
   (aj (aw (aE (aa aY (aa (pc D.hands_of Ghands_of (hr.mono (by decide)) (aa (pv 1) (aa (av (bZ K) (by rfl) T.z_len boot_len (aa (pv 0) ae)) ae))) ae))))))), ?_⟩
  intro hd nh
  have hl : rs.length = ps.length := Paired.length hP
  refine ⟨_, rfl, _, _, rfl, .inl ⟨_, (Same.new nh).seq hS, rfl⟩, _, rfl, iK _, by rw [B9]; omega, ?_⟩
  rw [B9, hl]
  have e0 : ((ps.length : Int)).toNat = ps.length := by omega
  rw [e0]
  refine cz (n := ps.length) (fun i σ H1 => ∃ (kvs : HK) (x y : Option V), σ = [some (.ref a), some (.ref hd), x, y] /\ Same H H1 /\ H1 hd = some (.dK kvs) /\ Held ps kvs i) ⟨[], none, none, rfl, Same.new nh, ab, Held.start⟩ ?_ ?_
  ·rintro i σ H1 hi ⟨kvs, x, y, rfl, s1, hH1, he⟩
   intro ad na
   have hne : hd ≠ ad := ak hH1 na
   have na' : H ad = none := s1.free na
   refine ⟨_, rfl, _, rfl, _, rfl, _, rfl, ?_⟩
   have ei : (0 : Int) + (i : Int) = (i : Int) := by omega
   rw [ei]
   have s2 : Same H (az H1 ad (.dK [])) := s1.to na
   have hH2 : az H1 ad (.dK []) hd = some (.dK kvs) := by rw [ah hne]; exact hH1
   refine ⟨a, hd, ad, rs, ps, U, i, kvs, [], rfl, s2.seq hS, hP.same s2, hi, hU, by omega, hH2, ab, hne, he.nd, he.good, Eb, (fun _ h => by cases h), ?_, ?_⟩
   ·have := CT (fun c => decide (c ∉ ([] : List Int))) U
    omega
   intro ok kvs' as' H3 st s3 hH3 hA3
   have fr : ∀ b o, H b = some o -> b ∉ [hd, ad] := fun b o e m => by
    simp only [Cr, CY, or_false] at m
    rcases m with z | z
    ·rw [z, nh] at e; cases e
    ·rw [z, na'] at e; cases e
   have s4 : Same H H3 := fun b o e => s3 b o (fr b o e) (s2 b o e)
   refine ⟨ok, rfl, ?_⟩
   cases ok with
   | true => exact bz ⟨kvs', _, _, rfl, s4, hH3, he.next st⟩
   | false =>
    obtain ⟨e, h1, h2⟩ := st.no rfl
    subst e
    refine bH ?_
    refine ⟨_, rfl, _, rfl, _, rfl, ?_⟩
    have al : as'.length <= U.length := st.nd.length_le_of_subset st.sub
    refine ⟨hd, ad, i, kvs', as', rfl, hH3, hA3, hne, by omega, fun b hb => ?_, fun l ms H4 s5 nl hl4 hp hs => ?_⟩
    ·obtain ⟨t, _, e, _⟩ := h2 b hb (by simp)
     exact ⟨t, e⟩
    obtain ⟨qs, eq, sh⟩ := he.short hi st hp hs
    have s6 : Same H H4 := fun b o e => s5 b o (fun m => fr b o e (Cz _ m)) (s4 b o e)
    refine ⟨bY, fun t nt => q t _ (s6.to nt) ⟨s6.free nt, fun s l' e => ?_⟩ (.inr ⟨l, qs, ab, ?_, sh⟩)⟩
    ·rw [ab] at e
     cases e
     exact s4.free nl
    ·rw [ah (ak hl4 nt), hl4, eq, CB]; rfl
  ·rintro σ H1 ⟨kvs, x, y, rfl, s1, hH1, he⟩
   refine ⟨_, rfl, _, rfl, _, _, rfl, .inl ⟨_, s1.seq hS, rfl⟩, ?_⟩
   rw [B9, hl]
   refine ⟨hd, ps, kvs, rfl, hH1, by omega, he, fun l hs H2 s2 nl hl2 dl => ?_⟩
   have s6 : Same H H2 := fun b o e => s2 b o (fun m => by
    rw [Cm.mp m, nh] at e
    cases e) (s1 b o e)
   refine ⟨bY, fun t nt => q t _ (s6.to nt) ⟨s6.free nt, fun s l' e => ?_⟩ (.inl ⟨l, hs, ab, ?_, dl⟩)⟩
   ·rw [ab] at e
    cases e
    exact s1.free nl
   ·rw [ah (ak hl2 nt)]; exact hl2
def dQ (K : PySem.W.Frag) (m : Nat) : Sp := fun vs H Q _ => ∃ (pa ma ta : Addr) (p : List Int) (rs : List Addr) (may : List (List Int)) (U : List Int) (ts : List (Addr × Addr × Str × Int × List Nat)), vs = [.ref pa, .ref ma, .ref ta] /\ H pa = some (.lst (p.map V.int)) /\ May K H ma rs may U /\ Ties K H ta ts 100 /\ (∀ x ∈ ts, TieG may.length x) /\ bU p /\ p.length <= may.length /\ may.length < p.length + m /\
 ∀ t H', Same H H' -> yh H H' t may (ts.map bW) p -> Q (.ref t) H'
def h9 (K : PySem.W.Frag) : Sp := dQ K 7
theorem b5 : FnScope ["pattern", "may", "ties", "broken", "dealt", "papers", "longer", "told"] ["pattern", "may", "ties"] (aq fo) := ⟨rfl, rfl, rfl, by decide +kernel, rfl, by decide +kernel, by decide +kernel⟩
theorem nX (D : Dfs K mg aF dF) (T : Txt mg) : FnOk P w K mg base aZ 37 (aF 18) (dF 18) ["pattern", "may", "ties"] (h9 K) := by
 have Ggrown : FnOk P w K mg base aZ 2 (aF 2) (dF 2) ["pattern"] (h8 K) := kQ D T
 have Gfirst_broken : FnOk P w K mg base aZ 3 (aF 4) (dF 4) ["pattern", "ties"] (cv K) := cV D T
 have Gpools_of : FnOk P w K mg base aZ 3 (aF 6) (dF 6) ["pattern", "may"] (jc K) := pF D T
 have Gdeal : FnOk P w K mg base aZ 29 (aF 13) (dF 13) ["pools"] (nW K) := rT D T
 have all : ∀ n, FnOk P w K mg base aZ (30 + n) (aF 18) (dF 18) ["pattern", "may", "ties"] (dQ K n) := by
  intro n
  induction n with
  | zero =>
   have no : ∀ vs H Q E, ¬ dQ K 0 vs H Q E := fun vs H Q E h => by
    obtain ⟨pa, ma, ta, p, rs, may, U, ts, _, _, _, _, _, _, h1, h2, _⟩ := h
    omega
   exact ⟨fun vs H Q E h => absurd h (no vs H Q E), fun A outer s H args us vs Q E _ _ _ _ h => absurd h (no vs H Q E)⟩
  | succ n Gplan_from =>
   refine D.plan_from.fn.ok b5 (fun vs H Q E h => ?_) (fun cdv A outer s H vs Q E hr h => ?_)
   ·obtain ⟨pa, ma, ta, p, rs, may, U, ts, rfl, _⟩ := h; rfl
   obtain ⟨pa, ma, ta, p, rs, may, U, ts, rfl, hpa, hm, tt, tg, c, hl, hlm, q⟩ := h
   have rk : Nat.add 30 n = 30 + n := rfl
   refine ⟨_, (af (ar (i := 3) b5.nd rfl (Or.inl rfl) (pc D.first_broken Gfirst_broken (hr.mono (by have := rk; omega)) (aa (pv 0) (aa (pv 2) ae))))
   (af (aW (aA dA (pv 3) bV (aB _))
    (aj (aw (aE (aa aY (aa (aE (aa aY (aa (pv 3) ae))) ae)))))
    aD)
   (af (ar (i := 4) b5.nd rfl (Or.inr rfl) (pc D.deal Gdeal (hr.mono (by have := rk; omega)) (aa (pc D.pools_of Gpools_of (hr.mono (by have := rk; omega)) (aa (pv 0) (aa (pv 1) ae))) ae)))
   (af (aW (aA b6 (ax (dz K) (pv 4) ag (fun _ _ => rfl)) aY (aB _))
    (aj (aw (aE (aa aY (aa (aE (aa aY (aa (ax (dz K) (pv 4) ag (fun _ _ => rfl)) ae))) ae)))))
    aD)
   (af (aW (aA b6 (av (bZ K) (by rfl) T.z_len boot_len (aa (pv 0) ae)) (av (bZ K) (by rfl) T.z_len boot_len (aa (pv 1) ae)) (aB _))
    (aj (aw (aE (aa aY (aa (aO ["block", "dealt"] [none, some 4] rfl (iq K (pv 0)) (fun _ => ao (i := 0) (aP (N := ["block", "dealt"]) (by decide +kernel)) rfl (Or.inl rfl)) (fun _ => a9) (fun _ => (ax (c7 K) (ax (dz K) (pv 1) ag (fun _ _ => rfl)) (pv 0) (fun _ _ => rfl))) ((.cons (fun _ e => by cases e) (.cons (fun _ e => by cases e; exact ⟨rfl, rfl⟩) .nil)))) ae)))))
    aD)
   (af (ar (i := 5) b5.nd rfl (Or.inl rfl) (aL ae))
   (af (bc PassesOwn.never rfl (iq K (pc D.grown Ggrown (hr.mono (by have := rk; omega)) (aa (pv 0) ae))) (ao (i := 6) b5.nd rfl (Or.inl rfl))
    (af (ar (i := 7) b5.nd rfl (Or.inl rfl) (pc D.plan_from Gplan_from hr (aa (pv 6) (aa (pv 1) (aa (pv 2) ae)))))
    (af (aW (aA b6 (ax (dz K) (pv 7) ag (fun _ _ => rfl)) aY (aB _))
     (aj (aw (pv 7)))
     aD)
    (aj (bR (dS PySem.F.plainAttrs_list PySem.F.slot_list_append PySem.F.type_list_append bI (pv 5) (aa (ax (dz K) (pv 7) ag (fun _ _ => rfl)) ae)))))))
   (aj (aw (aE (aa aY (aa (aE (aa aY (aa (pv 5) ae))) ae)))))))))))), ?_⟩
   have m6 := hm.m6
   have dl := dM p
   refine ⟨_, rfl, _, rfl, pa, ta, p, ts, rfl, SqL.of hpa, tt, fun H1 s1 => ?_⟩
   refine ⟨_, rfl, rfl, _, rfl, ?_⟩
   rw [kh]
   cases hf : jq (fun i => p.getD i 0) p.length ts with
   | some j =>
    refine bH ⟨_, rfl, bY, fun t1 n1 => ⟨bY, fun t2 n2 => ?_⟩⟩
    obtain ⟨x, hx, hb⟩ := me hf
    have n12 : t1 ≠ t2 := fun z => by rw [<- z, ab] at n2; cases n2
    refine q t2 _ ((s1.to n1).to n2) (.inr ⟨.ref t1, .tie j, ab, .tie (gX (s1.free n1) (by rw [ah n12]; exact ab)), .tie (t := bW x) (by rw [Cd, hx]; rfl) hb⟩)
   | none =>
    have nb := iJ hf
    refine bz ?_
    have hm1 := hm.same s1
    refine ⟨_, rfl, _, rfl, pa, ma, p, rs, may, U, rfl, SqL.of (s1 _ _ hpa), hm1, c, hl, fun po ls H2 s2 npo hpo R2 fr2 => ⟨po, ls, dE may p, U, rfl, SqL.of hpo, R2.pools, by rw [cA]; omega, tD c hl hm.sub, hm.u20, fun t H3 s3 nwt td => ?_⟩⟩
    have s03 := (s1.trans s2).trans s3
    have hpa3 := s03 _ _ hpa
    have hm3 := hm.same s03
    rcases td with ⟨dlA, ds, ht, hdl, dl'⟩ | ⟨sl, qs, ht, hsl, sh⟩
    ·refine ⟨_, rfl, t, _, _, _, rfl, rfl, SqT.of ht, rfl, rfl, _, rfl, ?_⟩
     rw [decide_eq_false (by decide)]
     refine bz ?_
     refine ⟨_, rfl, _, _, rfl, .inl ⟨_, SqL.of hpa3, rfl⟩, _, rfl, _, _, rfl, .inl ⟨_, hm3.ls, rfl⟩, rfl, _, rfl, wZ (fun e => ?_) fun ne => ?_⟩
     ·rw [B9, B9, hm.po.len] at e
      have e : p.length = may.length := by omega
      refine ⟨_, rfl, pa, rfl, ⟨_, SqL.of hpa3⟩, ?_⟩
      have dsl : ds.length = (dd p).length := by rw [dl'.len, cA]
      refine cN (xs := p.map V.int) (fun _ => true) (fun j => .int (ds.getD (p.getD j 0).toNat 0)) (SqL.of hpa3) (by rw [B9]; omega) (fun _ _ _ _ _ _ k => k _ (Same.refl _)) (fun j x hx _ H4 R s4 k => ?_) fun acc H4 s4 nacc hacc => ?_
      ·obtain ⟨d, hd, rfl, ed⟩ := iI hx
       obtain ⟨b, eb, hb⟩ := cZ c (Ce hd)
       rw [ed] at k
       subst eb
       rw [CV] at k
       exact ⟨_, rfl, t, _, _, _, rfl, rfl, SqT.of (s4 _ _ ht), rfl, _, rfl, dlA, _, _, _, rfl, rfl, SqL.of (s4 _ _ hdl), br (by omega), k _ (Same.refl _)⟩
      rw [CZ.mpr (fun _ _ => rfl), B9] at hacc
      have e2 : (Cf p.length).map (fun j => V.int (ds.getD (p.getD j 0).toNat 0)) = (p.map fun x => ds.getD x.toNat 0).map V.int := by
       rw [CB]
       exact ve fun i x hx => by rw [Cb (l := p), hx]; rfl
      rw [e2] at hacc
      refine ⟨bY, fun t2 n2 => ?_⟩
      refine q t2 _ ((s03.trans s4).to n2) (.inl ⟨acc, _, ab, Same.new n2 _ _ hacc, s03.free nacc, nu c e dl' (fun x hx => ?_) fun x hx => ?_⟩)
      ·obtain ⟨y, hy, ey⟩ := Ci.mp hx
       rw [<- ey, e]
       exact (tg y hy).lt
      ·obtain ⟨y, hy, ey⟩ := Ci.mp hx
       rw [<- ey]
       exact nb y hy
     ·rw [B9, B9, hm.po.len] at ne
      have lt : p.length < may.length := by omega
      refine ⟨bY, fun pl npl => ?_⟩
      have s34 := Same.new (o := .lst []) npl
      have hpl4 : az H3 pl (.lst []) pl = some (.lst []) := ab
      generalize az H3 pl (.lst []) = H4 at s34 hpl4
      have s04 := s03.trans s34
      have npl0 : H pl = none := s03.free npl
      refine ⟨_, rfl, pa, p, rfl, s04 _ _ hpa, by omega, fun gl gs H5 s45 ngl hgl hgs gall => ⟨gl, rfl, ⟨_, SqL.of hgl⟩, ?_⟩⟩
      have glp : gl ≠ pl := fun z => by rw [z, hpl4] at ngl; cases ngl
      have gsp : ∀ (i : Nat) r, gs[i]? = some r -> r ≠ pl := fun i r hr z => by have := (gall i r hr).2; rw [z, hpl4] at this; cases this
      refine bK (K := K) (a := gl) (xs := gs.map V.ref) (fun i σ Hx => ∃ (vs : List V) (ps : List Pap) (x y : Option V), σ = [some (.ref pa), some (.ref ma), some (.ref ta), some .non, some (.ref t), some (.ref pl), x, y] /\ SameBut pl H5 Hx /\ Hx pl = some (.lst vs) /\ vs.length = i /\ ps.length = i /\ ∀ (k : Nat) v q, vs[k]? = some v -> ps[k]? = some q -> PapAt (vf pl (nw H Hx)) v q /\ Shows may (ts.map bW) (p ++ [(k : Int)]) q)
       ⟨[], [], none, none, rfl, fun _ _ _ h => h, s45 _ _ hpl4, rfl, rfl, fun k v q h => by simp at h⟩ (fun i σ Hx _ hq__ => by obtain ⟨_, _, _, _, _, sb, _⟩ := hq__; exact SqL.of (sb _ _ glp hgl)) ?_ ?_
      ·rintro i y σ Hx hi ⟨vs, ps, x, y', rfl, sb, hpl, vl, psl, al⟩
       rw [Cd] at hi
       obtain ⟨r, hr', rfl⟩ := Cj.mp hi
       have il : i < (dd p).length + 1 := by rw [<- hgs]; exact (Cc.mp hr').1
       have hrx := sb _ _ (gsp i r hr') (gall i r hr').1
       have s0x : Same H Hx := fun b o e => sb _ _ (fun z => by rw [z, npl0] at e; cases e) ((s04.trans s45) _ _ e)
       have cx := gq c (j := i) (by omega)
       refine ⟨_, rfl, _, rfl, _, rfl, r, ma, ta, p ++ [(i : Int)], rs, may, U, ts, rfl, hrx, hm.same s0x, ⟨s0x.seq tt.ls, fun x hx => (tt.ea x hx).same s0x, tt.ln⟩, tg, cx, by simp; omega, by simp; omega, fun t2 H6 s6 td2 => ?_⟩
       have s06 := s0x.trans s6
       rcases td2 with ⟨l2, hs2, ht2, hl2, nl2, ip⟩ | ⟨v, qq, ht2, pq, sq⟩
       ·refine ⟨_, rfl, t2, _, _, _, rfl, rfl, SqT.of ht2, rfl, rfl, _, rfl, bH ?_⟩
        exact ⟨_, rfl, q t2 H6 s06 (.inl ⟨l2, hs2, ht2, hl2, s0x.free nl2, ip⟩)⟩
       ·refine ⟨_, rfl, t2, _, _, _, rfl, rfl, SqT.of ht2, rfl, rfl, _, rfl, ?_⟩
        rw [decide_eq_false (by decide)]
        refine bz ?_
        have hpl6 := s6 _ _ hpl
        refine ⟨_, rfl, .inl ⟨rfl, _, SqL.of hpl6⟩, _, rfl, t2, _, _, _, rfl, rfl, SqT.of ht2, rfl, pl, _, _, rfl, rfl, hpl6, i4 (by omega), ?_⟩
        refine ⟨vs ++ [v], ps ++ [qq], _, _, rfl, fun b o nb' e => ?_, ab, by simp [vl], by simp [psl], fun k v' q' e1 e2 => ?_⟩
        ·rw [ah nb']
         exact s6 _ _ (sb _ _ nb' e)
        ·by_cases z : k < i
         ·rw [CI (by omega)] at e1 e2
          obtain ⟨g1, g2⟩ := al k v' q' e1 e2
          refine ⟨g1.same fun b o e => ?_, g2⟩
          obtain ⟨zb, e⟩ := mf e
          obtain ⟨u1, u2⟩ := jC e
          exact rH zb (gX u1 (by rw [ah zb]; exact s6 _ _ u2))
         ·have zi : k = i := by
           have := (Cc.mp e1).1
           rw [Ck, Cp] at this
           omega
          subst zi
          rw [CN (by omega), vl, Du] at e1
          rw [CN (by omega), psl, Du] at e2
          cases e1
          cases e2
          refine ⟨pq.same fun b o e => ?_, sq⟩
          obtain ⟨u1, u2⟩ := jC e
          have zb : b ≠ pl := fun z => by rw [z, hpl] at u1; cases u1
          exact rH zb (gX (s0x.free u1) (by rw [ah zb]; exact u2))
      ·rintro σ Hx ⟨vs, ps, x, y', rfl, sb, hpl, vl, psl, al⟩
       rw [B9, hgs] at vl psl
       have s0x : Same H Hx := fun b o e => sb _ _ (fun z => by rw [z, npl0] at e; cases e) ((s04.trans s45) _ _ e)
       refine ⟨_, rfl, bY, fun t1 n1 => ⟨bY, fun t2 n2 => ?_⟩⟩
       have n12 : t1 ≠ t2 := fun z => by rw [<- z, ab] at n2; cases n2
       have npl1 : pl ≠ t1 := ak hpl n1
       have sx2 := (Same.new (o := .tup [.str "split", .ref pl]) n1).to (o := .tup [.str "none", .ref t1]) n2
       refine q t2 _ (s0x.trans sx2) (.inr ⟨.ref t1, .split ps, ab, .split (gX (s0x.free n1) (by rw [ah n12]; exact ab)) (gX npl0 (sx2 _ _ hpl)) (by omega) fun k v' q' e1 e2 => ?_, .split lt psl fun j q' e => ?_⟩)
       ·refine (al k v' q' e1 e2).1.same fun b o e => ?_
        obtain ⟨zb, e⟩ := mf e
        obtain ⟨u1, u2⟩ := jC e
        exact gX u1 (sx2 _ _ u2)
       ·have hj : j < vs.length := by have := (Cc.mp e).1; omega
        exact (al j _ q' (Ca hj) e).2
    ·refine ⟨_, rfl, t, _, _, _, rfl, rfl, SqT.of ht, rfl, rfl, _, rfl, bH ?_⟩
     refine ⟨_, rfl, t, _, _, _, rfl, rfl, SqT.of ht, rfl, bY, fun t1 n1 => ⟨bY, fun t2 n2 => ?_⟩⟩
     have n12 : t1 ≠ t2 := fun z => by rw [<- z, ab] at n2; cases n2
     have nsl : H sl = none := (s1.trans s2).free (nwt.2 _ _ ht)
     have sx2 := (Same.new (o := .tup [.str "short", .ref sl]) n1).to (o := .tup [.str "none", .ref t1]) n2
     exact q t2 _ (s03.trans sx2) (.inr ⟨.ref t1, .short qs, ab, .short (gX (s03.free n1) (by rw [ah n12]; exact ab)) (gX nsl (sx2 _ _ hsl)), .short sh⟩)
 exact all 7
def rV (K : PySem.W.Frag) : Sp := fun vs H Q _ => ∃ (ma ta : Addr) (rs : List Addr) (may : List (List Int)) (U : List Int) (ts : List (Addr × Addr × Str × Int × List Nat)), vs = [.ref ma, .ref ta] /\ May K H ma rs may U /\ Ties K H ta ts 100 /\ (∀ x ∈ ts, TieG may.length x) /\ ∀ t H', Same H H' -> yh H H' t may (ts.map bW) [] -> Q (.ref t) H'
theorem xO : FnScope ["may", "ties"] ["may", "ties"] (aq qO) := ⟨rfl, rfl, rfl, by decide +kernel, rfl, by decide +kernel, by decide +kernel⟩
theorem xP (D : Dfs K mg aF dF) (T : Txt mg) : FnOk P w K mg base aZ 38 (aF 17) (dF 17) ["may", "ties"] (rV K) := by
 have Gplan_from : FnOk P w K mg base aZ 37 (aF 18) (dF 18) ["pattern", "may", "ties"] (h9 K) := nX D T
 refine D.plan.fn.ok xO (fun vs H Q E h => ?_) (fun cdv A outer s H vs Q E hr h => ?_)
 ·obtain ⟨ma, ta, rs, may, U, ts, rfl, _⟩ := h; rfl
 ·have hu := aV hr
  obtain ⟨ma, ta, rs, may, U, ts, rfl, hm, tt, tg, q⟩ := h
  refine ⟨_, (aj (aw (pc D.plan_from Gplan_from (hr.mono (by decide)) (aa (aL ae) (aa (pv 0) (aa (pv 1) ae)))))), ?_⟩
  have m6 := hm.m6
  refine ⟨bY, fun pa npa => ?_⟩
  have s1 := Same.new (o := .lst []) npa
  refine ⟨_, rfl, _, rfl, pa, ma, ta, [], rs, may, U, ts, rfl, ab, hm.same s1, ⟨s1.seq tt.ls, fun x hx => (tt.ea x hx).same s1, tt.ln⟩, tg, iH, CK _, by simp; omega, fun t H' s td => ?_⟩
  refine q t H' (s1.trans s) ?_
  rcases td with ⟨l, hs, a1, a2, a3, a4⟩ | ⟨v, qq, a1, a2, a3⟩
  ·exact .inl ⟨l, hs, a1, a2, s1.free a3, a4⟩
  ·exact .inr ⟨v, qq, a1, a2.same (Ao (fun a e => s1.free e) fun a o _ e => e), a3⟩
def eA (K : PySem.W.Frag) : Sp := fun vs H Q _ => ∃ (a pa da ra ka : Addr) (rs : List Addr) (rows : bQ) (ps : List Int) (ds as : List (Int × Int)) (R : List Nat), vs = [.ref a, .ref pa, .ref da, .ref ra, .ref ka] /\ SqL K H a (rs.map V.ref) /\ BillL H rs rows /\ H pa = some (.lst (ps.map V.int)) /\ H da = some (.dK (aG ds)) /\ H ra = some (.lst (R.map fun (q : Nat) => V.int (q : Int))) /\ H ka = some (.dK (aG as)) /\ ps.length = rows.length /\ (∀ q ∈ R, q < rows.length) /\
 ∀ f v H', Near (vB rows ps ds (as.map (·.1)) R) f -> Same H H' -> rM H H' f v -> Q v H'
theorem a7 : FnScope ["pools", "prices", "dues", "reached", "askers", "found", "place", "badge", "cost", "gap"] ["pools", "prices", "dues", "reached", "askers"] (aq cU) := ⟨rfl, rfl, rfl, by decide +kernel, rfl, by decide +kernel, by decide +kernel⟩
theorem iX (D : Dfs K mg aF dF) (T : Txt mg) : FnOk P w K mg base aZ 1 (aF 21) (dF 21) ["pools", "prices", "dues", "reached", "askers"] (eA K) := by
 refine D.nearest_badge.fn.ok a7 (fun vs H Q E h => ?_) (fun cdv A outer s H vs Q E hr h => ?_)
 ·obtain ⟨a, pa, da, ra, ka, rs, rows, ps, ds, as, R, rfl, _⟩ := h; rfl
 ·have hu := aV hr
  obtain ⟨a, pa, da, ra, ka, rs, rows, ps, ds, as, R, rfl, hS, hB, hp, hd, hr, hk, lp, lt, q⟩ := h
  refine ⟨_, (af (ar (i := 5) a7.nd rfl (Or.inl rfl) bV)
   (af (bc PassesOwn.never rfl (iq K (pv 3)) (ao (i := 6) a7.nd rfl (Or.inl rfl))
    (aj (bc PassesOwn.never rfl (iq K (ax (c7 K) (pv 0) (pv 6) (fun _ _ => rfl))) (uE K rfl (aM (ao (i := 7) a7.nd rfl (Or.inl rfl)) (aM (ao (i := 8) a7.nd rfl (Or.inl rfl)) cG)))
     (af (ar (i := 9) a7.nd rfl (Or.inl rfl) (ay jM (ay aU (pv 8) (uv hu (pv 2) (pv 7) ag ⟨rfl, rfl, rfl, rfl⟩)) (ax (c7 K) (pv 1) (pv 6) (fun _ _ => rfl))))
     (aj (aW (PW.pt (e9 (mJ (iz hu (pv 7) (pv 4))) (fM (PW.pt (fW (aA iu (pv 5) bV (aB _)) (dJ (aA oz (pv 9) (ax (dz K) (pv 5) ag (fun _ _ => rfl)) (aB _))))))))
      (aj (ar (i := 5) a7.nd rfl (Or.inl rfl) (aE (aa (pv 9) (aa (pv 7) (aa (pv 6) ae))))))
      aD))))))
   (aj (aw (pv 5))))), ?_⟩
  refine ⟨_, rfl, ra, rfl, ⟨_, SqL.of hr⟩, ?_⟩
  refine bK (K := K) (a := ra) (xs := R.map fun (q : Nat) => V.int (q : Int)) (fun i σ H1 => ∃ f v x1 x2 x3 x4, σ = [some (.ref a), some (.ref pa), some (.ref da), some (.ref ra), some (.ref ka), some v, x1, x2, x3, x4] /\ Same H H1 /\ Near (vB rows ps ds (as.map (·.1)) (R.take i)) f /\ rM H H1 f v)
   ⟨none, .non, none, none, none, none, rfl, Same.refl _, Near.start, rfl⟩ (fun i σ H1 _ hq__ => by obtain ⟨_, _, _, _, _, _, _, s, _⟩ := hq__; exact s.seq (SqL.of hr)) ?_ ?_
  ·rintro i v σ H1 hi ⟨f, v, x1, x2, x3, x4, rfl, s1, n1, fd1⟩
   rw [Cd] at hi
   obtain ⟨k, hk1, rfl⟩ := Cj.mp hi
   have kl := lt k (Ce hk1)
   have hrow : rows[k]? = some (rA rows k) := by unfold rA; rw [Cb, Ca kl]; rfl
   obtain ⟨r, hr1, pt, hpt, tps⟩ := (hB.same s1).at hrow
   refine ⟨_, rfl, _, rfl, a, _, _, _, rfl, rfl, s1.seq hS, aX (by rw [Cd, hr1]; rfl), r, rfl, ⟨_, SqL.of hpt⟩, ?_⟩
   rw [vC hk1]
   refine bK (K := K) (a := r) (xs := pt.map V.ref) (fun j σ H2 => ∃ f v x2 x3 x4, σ = [some (.ref a), some (.ref pa), some (.ref da), some (.ref ra), some (.ref ka), some v, some (.int (k : Int)), x2, x3, x4] /\ Same H1 H2 /\ Near (vB rows ps ds (as.map (·.1)) (R.take i) ++ o8 ps ds (as.map (·.1)) k ((rA rows k).take j)) f /\ rM H H2 f v)
    ⟨f, v, x2, x3, x4, rfl, Same.refl _, by rw [DD]; show Near (_ ++ []) f; rw [Dv]; exact n1, fd1⟩ (fun i σ H2 _ hq__ => by obtain ⟨_, _, _, _, _, _, s, _⟩ := hq__; exact s.seq (SqL.of hpt)) ?_ ?_
   ·rintro j v σ H2 hj ⟨f, v, x2, x3, x4, rfl, s2, n2, fd2⟩
    rw [Cd] at hj
    obtain ⟨t, ht, rfl⟩ := Cj.mp hj
    obtain ⟨x, hx, px⟩ := b4 tps ht
    have s02 := s1.trans s2
    have px2 : H2 t = some (.tup [.int x.1, .int x.2]) := s2 _ _ px
    have hgd := DGet.k (k := Sum.inl x.1) (s02 _ _ hd)
    rw [cQ] at hgd
    have hgk := DGet.k (k := Sum.inl x.1) (s02 _ _ hk)
    have ev : ((aK ds x.1).map V.int).getD (V.int 0) = V.int (du ds x.1) := by unfold du; cases aK ds x.1 <;> rfl
    refine ⟨t, _, rfl, SqT.of px2, rfl, _, _, rfl, _, _, rfl, rfl, ?_⟩
    refine ⟨_, rfl, _, rfl, da, rfl, .inl ⟨_, .inl (s02 _ _ hd)⟩, _, rfl, _, hgd, ?_⟩
    rw [ev]
    refine ⟨_, _, rfl, rfl, _, rfl, _, rfl, pa, _, _, _, rfl, rfl, SqL.of (s02 _ _ hp), br (by omega), _, _, rfl, rfl, ?_⟩
    refine ⟨_, rfl, _, rfl, ka, _, rfl, hgk, _, rfl, ?_⟩
    rw [xu]
    by_cases hm : x.1 ∈ as.map (·.1)
    ·rw [decide_eq_true hm]
     refine bz (bz ⟨f, v, _, _, _, rfl, s2, ?_, fd2⟩)
     rw [iP hx, if_pos hm, Dv]
     exact n2
    rw [decide_eq_false hm]
    refine bH ?_
    have put : (∀ t, f = some t -> x.2 + du ds x.1 - pA ps k < t.1) -> ∀ p, H2 p = none -> ∃ f v x2 x3 x4, [some (.ref a), some (.ref pa), some (.ref da), some (.ref ra), some (.ref ka), some (.ref p), some (.int (k : Int)), some (.int x.1), some (.int x.2), some (.int (x.2 + du ds x.1 - pA ps k))] = [some (V.ref a), some (.ref pa), some (.ref da), some (.ref ra), some (.ref ka), some v, some (.int (k : Int)), x2, x3, x4] /\ Same H1 (az H2 p (.tup [.int (x.2 + du ds x.1 - pA ps k), .int x.1, .int (k : Int)])) /\
      Near (vB rows ps ds (as.map (·.1)) (R.take i) ++ o8 ps ds (as.map (·.1)) k ((rA rows k).take (j + 1))) f /\ rM H (az H2 p (.tup [.int (x.2 + du ds x.1 - pA ps k), .int x.1, .int (k : Int)])) f v := fun hlt p np =>
     ⟨some (x.2 + du ds x.1 - pA ps k, x.1, k), .ref p, _, _, _, rfl, s2.to np, by
      rw [iP hx, if_neg hm, <- DZ]
      exact n2.put hlt, p, rfl, s02.free np, ab⟩
    refine ⟨_, rfl, rfl, _, rfl, ?_⟩
    cases f with
    | none =>
     have ev2 : v = .non := fd2
     subst ev2
     refine bH (bH ?_)
     refine ⟨_, rfl, _, rfl, _, rfl, bY, fun p np => put (fun _ h => by cases h) p np⟩
    | some t0 =>
     obtain ⟨p0, ep, np0, hp0⟩ := fd2
     subst ep
     refine bz ?_
     refine ⟨_, rfl, _, rfl, p0, _, _, _, rfl, rfl, SqT.of hp0, aX (j := 0) rfl, _, _, rfl, rfl, _, rfl, Ah (fun hlt => ?_) fun hlt => ?_⟩
     ·refine ⟨_, rfl, _, rfl, _, rfl, bY, fun p np => put (fun t h => ?_) p np⟩
      cases h
      exact hlt
     ·refine ⟨some t0, _, _, _, _, rfl, s2, ?_, p0, rfl, np0, hp0⟩
      rw [iP hx, if_neg hm, <- DZ]
      exact n2.keep hlt
   ·rintro σ H2 ⟨f, v, x2, x3, x4, rfl, s2, n2, fd2⟩
    have el : (pt.map V.ref).length = (rA rows k).length := by rw [B9]; exact Paired.length tps
    rw [el, C0] at n2
    exact ⟨f, v, _, _, _, _, rfl, s1.trans s2, n2, fd2⟩
  ·rintro σ H1 ⟨f, v, x1, x2, x3, x4, rfl, s1, n1, fd1⟩
   rw [B9, C0] at n1
   exact ⟨_, rfl, q f v H1 n1 s1 fd1⟩
def ia (K : PySem.W.Frag) : Sp := fun vs H Q _ => ∃ (x y : Addr) (g : Int), vs = [.ref x, .ref y, .int g] /\ ((∃ (ps : List Int) (R : List Nat), H x = some (.lst (ps.map V.int)) /\ H y = some (.lst (R.map fun (q : Nat) => V.int (q : Int))) /\ x ≠ y /\ R.Nodup /\ (∀ q ∈ R, q < ps.length) /\ ∀ ps', RaP R g ps ps' -> Q .non (az H x (.lst (ps'.map V.int)))) \/
 ∃ (ds as : List (Int × Int)), H x = some (.dK (aG ds)) /\ H y = some (.dK (aG as)) /\ x ≠ y /\ (as.map (·.1)).Nodup /\ (∀ b ∈ as.map (·.1), b ∈ ds.map (·.1)) /\ 0 <= g /\ ds.length <= 1000 /\ ∀ ds', RaD (as.map (·.1)) g ds ds' -> Q .non (az H x (.dK (aG ds'))))
theorem eN : FnScope ["numbers", "keys", "gap", "key"] ["numbers", "keys", "gap"] (aq fq) := ⟨rfl, rfl, rfl, by decide +kernel, rfl, by decide +kernel, by decide +kernel⟩
theorem nY (D : Dfs K mg aF dF) (T : Txt mg) : FnOk P w K mg base aZ 1 (aF 22) (dF 22) ["numbers", "keys", "gap"] (ia K) := by
 refine D.raise_all.fn.ok eN (fun vs H Q E h => ?_) (fun cdv A outer s H vs Q E hr h => ?_)
 ·obtain ⟨x, y, g, rfl, _⟩ := h; rfl
 ·have hu := aV hr
  obtain ⟨x, y, g, rfl, h⟩ := h
  refine ⟨_, (aj (Au (bc PassesOwn.never rfl (iq K (pv 1)) (ao (i := 3) eN.nd rfl (Or.inl rfl)) (aj (wg (pv 0) (pv 3) (vt K) (pv 2) yw fh)))
   (xt (bc PassesOwn.never rfl (vx (pv 1)) (ao (i := 3) eN.nd rfl (Or.inl rfl)) (aj (wJ hu (pv 0) (pv 3) (pv 2) yC (fun _ _ _ => rfl))))))), ?_⟩
  rcases h with ⟨ps, R, hx, hy, hne, nd, lt, q⟩ | ⟨ds, as, hx, hy, hne, nd, sub, g0, hz, q⟩
  ·refine .inl ⟨_, rfl, y, rfl, ⟨_, SqL.of hy⟩, ?_⟩
   refine bK (K := K) (a := y) (xs := R.map fun (q : Nat) => V.int (q : Int)) (fun i σ H1 => ∃ v ps', σ = [some (.ref x), some (.ref y), some (.int g), v] /\ RaP (R.take i) g ps ps' /\ H1 = az H x (.lst (ps'.map V.int)))
    ⟨none, ps, rfl, by rw [DD]; exact RaP.start, (nE hx).symm⟩ (fun i σ H1 _ hq__ => by obtain ⟨_, _, _, _, e⟩ := hq__; exact by rw [e]; exact SqL.of (by rw [ah hne.symm]; exact hy)) ?_ ?_
   ·rintro i v σ H1 hi ⟨v0, ps', rfl, r, rfl⟩
    rw [Cd] at hi
    obtain ⟨k, hk, rfl⟩ := Cj.mp hi
    have kl : k < ps'.length := by rw [r.lp]; exact lt k (Ce hk)
    refine ⟨_, rfl, _, rfl, x, ps'.map V.int, _, .int (pA ps' k), rfl, rfl, by omega, SqL.of ab, ?_, _, rfl, _, _, rfl, rfl, x, _, _, k, rfl, rfl, ab, gY (by rw [B9]; exact kl), ?_⟩
    ·exact br kl
    ·refine ⟨_, ps'.set k (pA ps' k + g), rfl, ?_, by rw [jx, List.map_set]⟩
     rw [cD hk]
     exact r.step (kq nd hk) (by rw [<- r.lp]; exact kl)
   ·rintro σ H1 ⟨v0, ps', rfl, r, rfl⟩
    rw [B9, C0] at r
    exact q ps' r
  ·refine .inr ⟨_, rfl, y, _, rfl, hy, fun φ hφ => ?_⟩
   refine vy (φ := φ) (d := y) (kvs := aG as) (fun i σ H1 => ∃ v ds', σ = [some (.ref x), some (.ref y), some (.int g), v] /\ RaD ((as.map (·.1)).take i) g ds ds' /\ ds'.length = ds.length /\ H1 = az (az H y (.ext φ)) x (.dK (aG ds')))
    ⟨none, ds, rfl, by rw [DD]; exact RaD.start, rfl, (nE (by rw [ah hne]; exact hx)).symm⟩ (fun i σ H1 _ hq__ => by obtain ⟨_, _, _, _, _, e⟩ := hq__; exact by rw [e, ah hne.symm]; exact ab) ?_ ?_
   ·rintro i k v σ H1 hi ⟨v0, ds', rfl, r, ld, rfl⟩
    unfold aG at hi
    rw [Cd] at hi
    obtain ⟨p, hp, e⟩ := Cj.mp hi
    cases e
    have hk : (as.map (·.1))[i]? = some p.1 := by rw [Cd, hp]; rfl
    have hb : p.1 ∈ ds.map (·.1) := sub _ (Ce hk)
    have hb' : p.1 ∈ ds'.map (·.1) := by rw [r.ky]; exact hb
    refine ⟨_, rfl, _, rfl, x, .int (du ds' p.1), rfl, ?_, _, rfl, _, _, rfl, rfl, _, DPut.k (k := Sum.inl p.1) ab (i4 (by unfold aG; rw [B9]; omega)), ?_⟩
    ·have := DGet.k (k := Sum.inl p.1) (show az (az H y (.ext φ)) x (.dK (aG ds')) x = some (.dK (aG ds')) from ab)
     rw [cQ, o7 hb'] at this
     exact this
    ·refine ⟨_, g6 ds' p.1 (du ds' p.1 + g), rfl, ?_, ?_, by rw [jx, g7]⟩
     ·rw [cD hk]
      exact r.step g0 (kq nd hk) hb
     ·have := congrArg List.length (mj (d := du ds' p.1 + g) hb')
      rw [B9, B9] at this
      omega
   ·rintro σ H1 ⟨v0, ds', rfl, r, ld, rfl⟩
    rw [show (aG as).length = (as.map (·.1)).length by unfold aG; rw [B9, B9], C0] at r
    refine ⟨y, _, φ, hφ, by rw [ah hne.symm]; exact ab, ?_⟩
    rw [vA hne, jx, nE (show az H x (.dK (aG ds')) y = some (.dK (aG as)) by rw [ah hne.symm]; exact hy)]
    exact q ds' r
def kW (K : PySem.W.Frag) : Sp := fun vs H Q _ => ∃ (ha ka : Addr) (rows : bQ) (hs0 : List (Option Int)) (ps : List Int) (ds : List (Int × Int)) (i t : Nat) (R : List Nat) (A : List (Int × Nat)) (b0 : Int), vs = [.ref ha, .ref ka, .int b0] /\ H ha = some (.lst (hs0.map oV)) /\ H ka = some (.dK (aG (iQ A))) /\ ha ≠ ka /\ (A.map (·.1)).Nodup /\ PTop rows hs0 ps ds i R A /\ POn rows hs0 hs0 ps ds i R A b0 b0 t /\
 ∀ hs, Handed rows hs0 ps ds i b0 hs -> Q .non (az H ha (.lst (hs.map oV)))
theorem eO : FnScope ["hands", "askers", "badge", "place", "given"] ["hands", "askers", "badge"] (aq iU) := ⟨rfl, rfl, rfl, by decide +kernel, rfl, by decide +kernel, by decide +kernel⟩
theorem qR (D : Dfs K mg aF dF) (T : Txt mg) : FnOk P w K mg base aZ 1 (aF 23) (dF 23) ["hands", "askers", "badge"] (kW K) := by
 refine D.hand_on.fn.ok eO (fun vs H Q E h => ?_) (fun cdv A outer s H vs Q E hr h => ?_)
 ·obtain ⟨ha, ka, rows, hs0, ps, ds, i, t, R, A, b0, rfl, _⟩ := h; rfl
 ·have hu := aV hr
  obtain ⟨ha, ka, rows, hs0, ps, ds, i, t, R, A, b0, rfl, hh, hk, hne, nd, T, O, q⟩ := h
  refine ⟨_, (aj (oq PassesOwn.never (aA dA (pv 2) bV (aB _))
    (af (ar (i := 3) eO.nd rfl (Or.inl rfl) (fN hu (pv 1) (pv 2) (fun _ _ => rfl)))
    (af (ar (i := 4) eO.nd rfl (Or.inl rfl) (ax (c7 K) (pv 0) (pv 3) (fun _ _ => rfl)))
    (af (ff (pv 2) (mL (pv 0) (pv 3) fh))
    (aj (ar (i := 2) eO.nd rfl (Or.inl rfl) (pv 4)))))))), ?_⟩
  refine ⟨fun m σ H1 => ∃ hs v x3 x4, σ = [some (.ref ha), some (.ref ka), some v, x3, x4] /\ H1 = az H ha (.lst (hs.map oV)) /\ ((∃ b t, v = .int b /\ m = t + 1 /\ POn rows hs0 hs ps ds i R A b0 b t) \/ (v = .non /\ Handed rows hs0 ps ds i b0 hs)), ⟨t + 1, hs0, _, none, none, rfl, (nE hh).symm, .inl ⟨b0, t, rfl, rfl, O⟩⟩, ?_⟩
  rintro m σ H1 ⟨hs, v, x3, x4, rfl, rfl, h⟩
  rcases h with ⟨b, t, rfl, rfl, O⟩ | ⟨rfl, hd⟩
  ·obtain ⟨p, hp⟩ := O.at'
   obtain ⟨pl, st⟩ := tI T O hp
   refine ⟨_, rfl, rfl, _, rfl, bH ?_⟩
   refine ⟨fun σ' H' => ∃ m', m' < t + 1 /\ ∃ hs v x3 x4, σ' = [some (.ref ha), some (.ref ka), some v, x3, x4] /\ H' = az H ha (.lst (hs.map oV)) /\ ((∃ b t, v = .int b /\ m' = t + 1 /\ POn rows hs0 hs ps ds i R A b0 b t) \/ (v = .non /\ Handed rows hs0 ps ds i b0 hs)), fun σ' H' h => h, ?_⟩
   have hgk := DGet.k (k := Sum.inl b) (show az H ha (.lst (hs.map oV)) ka = some (.dK (aG (iQ A))) by rw [ah hne.symm]; exact hk)
   rw [cQ, vD nd hp] at hgk
   refine ⟨_, rfl, _, rfl, ka, _, rfl, hgk, ?_⟩
   refine ⟨_, rfl, _, rfl, ha, _, _, _, rfl, rfl, SqL.of ab, Ay pl, ?_⟩
   refine ⟨_, rfl, _, rfl, _, rfl, ha, _, _, p, rfl, rfl, ab, gY (by rw [B9]; exact pl), ?_⟩
   refine ⟨_, rfl, ?_⟩
   have eu : az (az H ha (.lst (hs.map oV))) ha (.lst ((hs.map oV).set p (.int b))) = az H ha (.lst ((hs.set p (some b)).map oV)) := by
    rw [jx, List.map_set]; rfl
   rw [eu]
   cases e : hA hs p with
   | none =>
    rw [e] at st
    obtain ⟨_, h1, h2, h3, h4⟩ := st
    exact ⟨0, by omega, hs.set p (some b), .non, _, _, rfl, rfl, .inr ⟨rfl, by rw [Dw]; exact O.lh, h1, h2, h3, h4⟩⟩
   | some c =>
    rw [e] at st
    obtain ⟨u, hu, O2⟩ := st
    exact ⟨u + 1, by omega, hs.set p (some b), .int c, _, _, rfl, rfl, .inl ⟨c, u, rfl, rfl, O2⟩⟩
  ·refine ⟨_, rfl, rfl, _, rfl, bz ?_⟩
   exact q hs hd
structure Reps (rows : bQ) (rep : List Int) : Prop where
 len : rep.length = rows.length
 nd : rep.Nodup
 mem : ∀ (j : Nat) b, rep[j]? = some b -> b ∈ au (rA rows j)
def pI (K : PySem.W.Frag) : Sp := fun vs H Q _ => ∃ (H0 : Hp) (a ha pa da : Addr) (rs : List Addr) (rows : bQ) (hs : List (Option Int)) (ps : List Int) (ds : List (Int × Int)) (i : Nat) (rep : List Int), vs = [.ref a, .ref ha, .ref pa, .ref da, .int (i : Int)] /\ Same H0 H /\ H0 ha = none /\ H0 pa = none /\ H0 da = none /\ SqL K H0 a (rs.map V.ref) /\ BillL H0 rs rows /\ rows.length <= 60 /\ (∀ row ∈ rows, (row.map (·.1)).Nodup) /\ Reps rows rep /\
 H ha = some (.lst (hs.map oV)) /\ H pa = some (.lst (ps.map V.int)) /\ H da = some (.dK (aG ds)) /\ ha ≠ pa /\ PInv rows hs ps ds /\ hA hs i = none /\ i < rows.length /\
 ∀ hs' ps' ds' H', Same H0 H' -> H' ha = some (.lst (hs'.map oV)) -> H' pa = some (.lst (ps'.map V.int)) -> H' da = some (.dK (aG ds')) -> PInv rows hs' ps' ds' -> (∀ j, hA hs' j = none <-> (hA hs j = none /\ j ≠ i)) -> Q .non H'
theorem fE : FnScope ["pools", "hands", "prices", "dues", "place", "reached", "askers", "nearest", "badge"] ["pools", "hands", "prices", "dues", "place"] (aq nT) := ⟨rfl, rfl, rfl, by decide +kernel, rfl, by decide +kernel, by decide +kernel⟩
theorem vX (D : Dfs K mg aF dF) (T : Txt mg) : FnOk P w K mg base aZ 2 (aF 20) (dF 20) ["pools", "hands", "prices", "dues", "place"] (pI K) := by
 have Gnearest_badge : FnOk P w K mg base aZ 1 (aF 21) (dF 21) ["pools", "prices", "dues", "reached", "askers"] (eA K) := iX D T
 have Graise_all : FnOk P w K mg base aZ 1 (aF 22) (dF 22) ["numbers", "keys", "gap"] (ia K) := nY D T
 have Ghand_on : FnOk P w K mg base aZ 1 (aF 23) (dF 23) ["hands", "askers", "badge"] (kW K) := qR D T
 refine D.serve.fn.ok fE (fun vs H Q E h => ?_) (fun cdv A outer s H vs Q E hr h => ?_)
 ·obtain ⟨H0, a, ha, pa, da, rs, rows, hs, ps, ds, i, rep, rfl, _⟩ := h; rfl
 ·have hu := aV hr
  obtain ⟨H0, a, ha, pa, da, rs, rows, hs, ps, ds, i, rep, rfl, s0, na, np, nda, hS, hB, r60, rn, rp, hh, hp, hd, hap, I, fr, il, q⟩ := h
  refine ⟨_, (af (ar (i := 5) fE.nd rfl (Or.inl rfl) (aL (aa (pv 4) ae)))
   (af (ar (i := 6) fE.nd rfl (Or.inl rfl) gL)
   (aj (oq PassesOwn.never (cL e6)
    (af (ar (i := 7) fE.nd rfl (Or.inl rfl) (pc D.nearest_badge Gnearest_badge (hr.mono (by decide)) (aa (pv 0) (aa (pv 2) (aa (pv 3) (aa (pv 5) (aa (pv 6) ae)))))))
    (af (bR (pc D.raise_all Graise_all (hr.mono (by decide)) (aa (pv 2) (aa (pv 5) (aa (ax (dz K) (pv 7) ag (fun _ _ => rfl)) ae)))))
    (af (bR (pc D.raise_all Graise_all (hr.mono (by decide)) (aa (pv 3) (aa (pv 6) (aa (ax (dz K) (pv 7) ag (fun _ _ => rfl)) ae)))))
    (af (ar (i := 8) fE.nd rfl (Or.inl rfl) (ax (dz K) (pv 7) ag (fun _ _ => rfl)))
    (af (mV hu (pv 6) (pv 8) (ax (dz K) (pv 7) ag (fun _ _ => rfl)) rfl)
    (af (aW (aA (wV K) (pv 8) (pv 1) (by with_unfolding_all rfl))
     (af (bR (pc D.hand_on Ghand_on (hr.mono (by decide)) (aa (pv 1) (aa (pv 6) (aa (pv 8) ae)))))
     (aj wc))
     aD)
    (af (bR (dS PySem.F.plainAttrs_dict PySem.F.slot_dict_setdefault PySem.F.type_dict_setdefault lA (pv 3) (aa (pv 8) (aa ag ae))))
    (aj (bR (dS PySem.F.plainAttrs_list PySem.F.slot_list_append PySem.F.type_list_append bI (pv 5) (aa (dS PySem.F.plainAttrs_list PySem.F.slot_list_index PySem.F.type_list_index tJ (pv 1) (aa (pv 8) ae)) ae))))))))))))))), ?_⟩
  have nad : ha ≠ da := fun e => by rw [e, hd] at hh; cases hh
  have npd : pa ≠ da := fun e => by rw [e, hd] at hp; cases hp
  refine ⟨_, rfl, bY, fun ra nra => ?_⟩
  intro ka nka
  have n0ra : H0 ra = none := s0.free nra
  have s1 : Same H0 (az H ra (.lst [.int (i : Int)])) := s0.to nra
  have n0ka : H0 ka = none := s1.free nka
  have ne1 : ha ≠ ra := ak hh nra
  have ne2 : pa ≠ ra := ak hp nra
  have ne3 : da ≠ ra := ak hd nra
  have ne4 : ra ≠ ka := ak ab nka
  have ne5 : ha ≠ ka := ak (show az H ra (.lst [.int (i : Int)]) ha = some _ by rw [ah ne1]; exact hh) nka
  have ne6 : pa ≠ ka := ak (show az H ra (.lst [.int (i : Int)]) pa = some _ by rw [ah ne2]; exact hp) nka
  have ne7 : da ≠ ka := ak (show az H ra (.lst [.int (i : Int)]) da = some _ by rw [ah ne3]; exact hd) nka
  refine ⟨fun m σ H1 => ∃ ps ds R A x7 x8, σ = [some (.ref a), some (.ref ha), some (.ref pa), some (.ref da), some (.int (i : Int)), some (.ref ra), some (.ref ka), x7, x8] /\ m = rows.length + 1 - R.length /\ Same H0 H1 /\ H1 ha = some (.lst (hs.map oV)) /\ H1 pa = some (.lst (ps.map V.int)) /\ H1 da = some (.dK (aG ds)) /\ H1 ra = some (.lst (R.map fun (q : Nat) => V.int (q : Int))) /\ H1 ka = some (.dK (aG (iQ A))) /\ PInv rows hs ps ds /\ PTree rows hs ps ds i R A,
   ⟨_, ps, ds, [i], [], none, none, rfl, rfl, s1.to nka, by rw [ah ne5, ah ne1]; exact hh, by rw [ah ne6, ah ne2]; exact hp, by rw [ah ne7, ah ne3]; exact hd, by rw [ah ne4]; exact ab, ab, I, PTree.start fr il⟩, ?_⟩
  rintro m σ H1 ⟨ps, ds, R, A, x7, x8, rfl, rfl, s1, hh, hp, hd, hr, hk, I, T⟩
  refine ⟨_, rfl, bH ?_⟩
  refine ⟨fun σ' H' => ∃ m', m' < rows.length + 1 - R.length /\ ∃ ps ds R A x7 x8, σ' = [some (.ref a), some (.ref ha), some (.ref pa), some (.ref da), some (.int (i : Int)), some (.ref ra), some (.ref ka), x7, x8] /\ m' = rows.length + 1 - R.length /\ Same H0 H' /\ H' ha = some (.lst (hs.map oV)) /\ H' pa = some (.lst (ps.map V.int)) /\ H' da = some (.dK (aG ds)) /\ H' ra = some (.lst (R.map fun (q : Nat) => V.int (q : Int))) /\ H' ka = some (.dK (aG (iQ A))) /\ PInv rows hs ps ds /\ PTree rows hs ps ds i R A, fun σ' H' h => h, ?_⟩
  refine ⟨_, rfl, _, rfl, _, rfl, _, rfl, _, rfl, ?_⟩
  refine ⟨a, pa, da, ra, ka, rs, rows, ps, ds, iQ A, R, rfl, s1.seq hS, hB.same s1, hp, hd, hr, hk, I.lp, T.lt, fun f v H2 nr s12 fd => ?_⟩
  rw [ee] at nr
  have s2 := s1.trans s12
  have hh := s12 _ _ hh
  have hp := s12 _ _ hp
  have hd := s12 _ _ hd
  have hr := s12 _ _ hr
  have hk := s12 _ _ hk
  clear s12 s1
  cases f with
  | none =>
   obtain ⟨p', hp', x, hx, hn⟩ := qG T rp.len rp.nd rp.mem
   have : (x.2 + du ds x.1 - pA ps p', x.1, p') ∈ vB rows ps ds (A.map (·.1)) R := nF.mpr ⟨p', hp', x, hx, hn, rfl⟩
   rw [nr.no rfl] at this
   cases this
  | some fnd =>
  obtain ⟨g, b, p⟩ := fnd
  obtain ⟨t, rfl, nt, ht⟩ := fd
  obtain ⟨pR, bA, g0, mn, tgt⟩ := tM I T rn nr
  have tp : t ≠ pa := fun e => by rw [e, hp] at ht; cases ht
  have td : t ≠ da := fun e => by rw [e, hd] at ht; cases ht
  have tk : t ≠ ka := fun e => by rw [e, hk] at ht; cases ht
  refine ⟨_, rfl, _, rfl, _, rfl, t, _, _, _, rfl, rfl, SqT.of ht, aX (j := 0) rfl, ?_⟩
  refine ⟨pa, ra, g, rfl, .inl ⟨ps, R, hp, hr, ne2, T.rnd, fun q hq => by rw [I.lp]; exact T.lt q hq, fun ps' rps => ?_⟩⟩
  have s3 : Same H0 (az H2 pa (.lst (ps'.map V.int))) := s2.put np
  have hh : az H2 pa (.lst (ps'.map V.int)) ha = some (.lst (hs.map oV)) := by rw [ah hap]; exact hh
  have hd : az H2 pa (.lst (ps'.map V.int)) da = some (.dK (aG ds)) := by rw [ah npd.symm]; exact hd
  have hr : az H2 pa (.lst (ps'.map V.int)) ra = some (.lst (R.map fun (q : Nat) => V.int (q : Int))) := by rw [ah ne2.symm]; exact hr
  have hk : az H2 pa (.lst (ps'.map V.int)) ka = some (.dK (aG (iQ A))) := by rw [ah ne6.symm]; exact hk
  have ht : az H2 pa (.lst (ps'.map V.int)) t = some (.tup [.int g, .int b, .int (p : Int)]) := by rw [ah tp]; exact ht
  have hp : az H2 pa (.lst (ps'.map V.int)) pa = some (.lst (ps'.map V.int)) := ab
  generalize az H2 pa (.lst (ps'.map V.int)) = H3 at s3 hh hd hr hk ht hp
  refine ⟨_, rfl, _, rfl, _, rfl, t, _, _, _, rfl, rfl, SqT.of ht, aX (j := 0) rfl, ?_⟩
  have dl := I.dlen
  refine ⟨da, ka, g, rfl, .inr ⟨ds, iQ A, hd, hk, ne7, by rw [ee]; exact T.nd, fun c hc => ?_, g0, by omega, fun ds' rds => ?_⟩⟩
  ·rw [ee] at hc
   obtain ⟨x, hx, e⟩ := Ci.mp hc
   rw [<- e]
   exact T.keys x hx
  rw [ee] at rds
  have W := tL rps rds
  obtain ⟨I, T⟩ := vo I T g0 mn W
  have tg := tgt ps' ds' W
  clear tgt mn nr W rds rps
  have s4 : Same H0 (az H3 da (.dK (aG ds'))) := s3.put nda
  have hh : az H3 da (.dK (aG ds')) ha = some (.lst (hs.map oV)) := by rw [ah nad]; exact hh
  have hr : az H3 da (.dK (aG ds')) ra = some (.lst (R.map fun (q : Nat) => V.int (q : Int))) := by rw [ah ne3.symm]; exact hr
  have hk : az H3 da (.dK (aG ds')) ka = some (.dK (aG (iQ A))) := by rw [ah ne7.symm]; exact hk
  have ht : az H3 da (.dK (aG ds')) t = some (.tup [.int g, .int b, .int (p : Int)]) := by rw [ah td]; exact ht
  have hp : az H3 da (.dK (aG ds')) pa = some (.lst (ps'.map V.int)) := by rw [ah npd]; exact hp
  have hd : az H3 da (.dK (aG ds')) da = some (.dK (aG ds')) := ab
  generalize az H3 da (.dK (aG ds')) = H4 at s4 hh hd hr hk ht hp
  have dl := I.dlen
  have tl := T.len
  have tle := T.le
  refine ⟨_, rfl, t, _, _, _, rfl, rfl, SqT.of ht, aX (j := 1) rfl, ?_⟩
  refine ⟨_, rfl, t, _, _, _, rfl, rfl, SqT.of ht, aX (j := 2) rfl, _, rfl, _, rfl, ka, _, rfl, DPut.k (k := Sum.inl b) hk (i4 (by unfold aG iQ; rw [B9, B9]; omega)), ?_⟩
  rw [xv bA]
  have s5 : Same H0 (az H4 ka (.dK (aG (iQ (A ++ [(b, p)]))))) := s4.put n0ka
  have hh : az H4 ka (.dK (aG (iQ (A ++ [(b, p)])))) ha = some (.lst (hs.map oV)) := by rw [ah ne5]; exact hh
  have hr : az H4 ka (.dK (aG (iQ (A ++ [(b, p)])))) ra = some (.lst (R.map fun (q : Nat) => V.int (q : Int))) := by rw [ah ne4]; exact hr
  have hp : az H4 ka (.dK (aG (iQ (A ++ [(b, p)])))) pa = some (.lst (ps'.map V.int)) := by rw [ah ne6]; exact hp
  have hd : az H4 ka (.dK (aG (iQ (A ++ [(b, p)])))) da = some (.dK (aG ds')) := by rw [ah ne7]; exact hd
  have hk : az H4 ka (.dK (aG (iQ (A ++ [(b, p)])))) ka = some (.dK (aG (iQ (A ++ [(b, p)])))) := ab
  generalize az H4 ka (.dK (aG (iQ (A ++ [(b, p)])))) = H5 at s5 hh hd hr hk hp
  have nd' : ((A ++ [(b, p)]).map (·.1)).Nodup := by
   rw [Cn]
   exact eG T.nd bA
  refine ⟨_, rfl, _, rfl, ha, _, rfl, .inl (SqL.of hh), rfl, nG hs, _, rfl, ?_⟩
  rw [if_pos rfl]
  by_cases hin : ∃ j, hA hs j = some b
  ·rw [yj.mpr hin]
   refine bz ?_
   obtain ⟨j, hj⟩ := hin
   have jl := vn hj
   have recu : ∀ (ds'' : List (Int × Int)) (H6 : Hp), ds'' = (if b ∈ ds'.map (·.1) then ds' else ds' ++ [(b, 0)]) -> Same H0 H6 -> H6 ha = some (.lst (hs.map oV)) -> H6 pa = some (.lst (ps'.map V.int)) -> H6 da = some (.dK (aG ds'')) -> H6 ra = some (.lst ((R ++ [j]).map fun (q : Nat) => V.int (q : Int))) -> H6 ka = some (.dK (aG (iQ (A ++ [(b, p)])))) ->
     ∃ m', m' < rows.length + 1 - R.length /\ ∃ ps ds R A x7 x8, [some (V.ref a), some (.ref ha), some (.ref pa), some (.ref da), some (.int (i : Int)), some (.ref ra), some (.ref ka), some (.ref t), some (.int b)] = [some (.ref a), some (.ref ha), some (.ref pa), some (.ref da), some (.int (i : Int)), some (.ref ra), some (.ref ka), x7, x8] /\ m' = rows.length + 1 - R.length /\ Same H0 H6 /\ H6 ha = some (.lst (hs.map oV)) /\ H6 pa = some (.lst (ps.map V.int)) /\ H6 da = some (.dK (aG ds)) /\ H6 ra = some (.lst (R.map fun (q : Nat) => V.int (q : Int))) /\ H6 ka = some (.dK (aG (iQ A))) /\ PInv rows hs ps ds /\ PTree rows hs ps ds i R A := fun ds'' H6 e s h1 h2 h3 h4 h5 => by
    obtain ⟨I2, T2⟩ := tH I T pR bA tg hj e
    exact ⟨_, by rw [Ck, Cp]; omega, ps', ds'', R ++ [j], A ++ [(b, p)], _, _, rfl, rfl, s, h1, h2, h3, h4, h5, I2, T2⟩
   have hj' : (hs.map oV)[j]? = some (oV (some b)) := by rw [Cd, qH hj]; rfl
   have first : ∀ m z, m < j -> (hs.map oV)[m]? = some z -> mQ z (.int b) = false := fun m z hm hz => by
    rw [Cd] at hz
    obtain ⟨o, ho, rfl⟩ := Cj.mp hz
    rw [o9]
    refine decide_eq_false fun e => ?_
    have := I.inj m j b (by rw [vE ho]; exact e) hj
    omega
   have lh := I.lh
   refine ⟨_, rfl, .inr (.inr (.inl ⟨rfl, .inl ⟨_, hd⟩⟩)), _, rfl, da, aG ds', Sum.inl b, .int 0, rfl, rfl, hd, i4 (by unfold aG; rw [B9]; omega), fun y hy => ?_, fun hn => ?_⟩
   ·have kin : b ∈ ds'.map (·.1) := Decidable.byContradiction fun z => by
     rw [cQ, cB.mpr z] at hy
     cases hy
    refine ⟨_, rfl, .inl ⟨rfl, _, SqL.of hr⟩, _, rfl, .inl ⟨rfl, _, SqL.of hh⟩, _, rfl, ?_⟩
    refine ⟨ha, hs.map oV, .int b, j, _, rfl, rfl, rfl, nG hs, hh, hj', (by rw [o9]; simp), first, by rw [B9]; omega, ra, _, _, rfl, rfl, hr, i4 (by rw [B9]; omega), ?_⟩
    exact recu ds' (az H5 ra (.lst ((R.map fun (q : Nat) => V.int (q : Int)) ++ [.int (j : Int)]))) (by rw [if_pos kin]) (s5.put n0ra) (by rw [ah ne1]; exact hh) (by rw [ah ne2]; exact hp) (by rw [ah ne3]; exact hd) (by rw [ab, Cn]; rfl) (by rw [ah ne4.symm]; exact hk)
   ·have kin : b ∉ ds'.map (·.1) := fun z => by
     rw [cQ, o7 z] at hn
     cases hn
    rw [g7]
    have e0 : g6 ds' b 0 = ds' ++ [(b, 0)] := by unfold g6; rw [if_neg kin]
    rw [e0]
    have s6 : Same H0 (az H5 da (.dK (aG (ds' ++ [(b, 0)])))) := s5.put nda
    have hh : az H5 da (.dK (aG (ds' ++ [(b, 0)]))) ha = some (.lst (hs.map oV)) := by rw [ah nad]; exact hh
    have hr : az H5 da (.dK (aG (ds' ++ [(b, 0)]))) ra = some (.lst (R.map fun (q : Nat) => V.int (q : Int))) := by rw [ah ne3.symm]; exact hr
    have hp : az H5 da (.dK (aG (ds' ++ [(b, 0)]))) pa = some (.lst (ps'.map V.int)) := by rw [ah npd]; exact hp
    have hk : az H5 da (.dK (aG (ds' ++ [(b, 0)]))) ka = some (.dK (aG (iQ (A ++ [(b, p)])))) := by rw [ah ne7.symm]; exact hk
    have hd : az H5 da (.dK (aG (ds' ++ [(b, 0)]))) da = some (.dK (aG (ds' ++ [(b, 0)]))) := ab
    generalize az H5 da (.dK (aG (ds' ++ [(b, 0)]))) = H6 at s6 hh hd hr hk hp
    refine ⟨_, rfl, .inl ⟨rfl, _, SqL.of hr⟩, _, rfl, .inl ⟨rfl, _, SqL.of hh⟩, _, rfl, ?_⟩
    refine ⟨ha, hs.map oV, .int b, j, _, rfl, rfl, rfl, nG hs, hh, hj', (by rw [o9]; simp), first, by rw [B9]; omega, ra, _, _, rfl, rfl, hr, i4 (by rw [B9]; omega), ?_⟩
    exact recu (ds' ++ [(b, 0)]) (az H6 ra (.lst ((R.map fun (q : Nat) => V.int (q : Int)) ++ [.int (j : Int)]))) (by rw [if_neg kin]) (s6.put n0ra) (by rw [ah ne1]; exact hh) (by rw [ah ne2]; exact hp) (by rw [ah ne3]; exact hd) (by rw [ab, Cn]; rfl) (by rw [ah ne4.symm]; exact hk)
  ·have e : yF (.int b) (hs.map oV) = false := Bool.eq_false_iff.mpr fun z => hin (yj.mp z)
   rw [e]
   refine bH ?_
   refine ⟨_, rfl, _, rfl, _, rfl, ?_⟩
   refine ⟨ha, ka, rows, hs, ps', ds', i, A.length, R, A ++ [(b, p)], b, rfl, hh, hk, ne5, nd', T.top pR tg, POn.first I fun j h => hin ⟨j, h⟩, fun hs' hd' => ?_⟩
   exact q hs' ps' ds' _ (s5.put na) ab (by rw [ah hap.symm]; exact hp) (by rw [ah nad.symm]; exact hd) (I.handed hd') hd'.dom
def zk (H H' : Hp) (t : Addr) (rows : bQ) : Prop := (∃ (l : Addr) (qs : List Nat), H' t = some (.tup [.str "short", .ref l]) /\ H l = none /\ H' l = some (.lst (qs.map fun (q : Nat) => V.int (q : Int))) /\ Short (rows.map au) qs) \/
 ∃ (lh lp ld : Addr) (hs ps : List Int) (tot : Int) (es : List (Int × Int)), H' t = some (.tup [.str "dealt", .ref lh, .int tot, .ref lp, .ref ld]) /\ H lh = none /\ H lp = none /\ H ld = none /\ H' lh = some (.lst (hs.map V.int)) /\ H' lp = some (.lst (ps.map V.int)) /\ RowAt H' ld es /\ Priced rows hs tot ps es
def kX (K : PySem.W.Frag) : Sp := fun vs H Q _ => ∃ (a : Addr) (rs : List Addr) (rows : bQ) (U : List Int), vs = [.ref a] /\ H a = some (.lst (rs.map V.ref)) /\ BillL H rs rows /\ rows.length <= 6 /\ (∀ row ∈ rows, (row.map (·.1)).Nodup /\ row.length <= 20 /\ ∀ x ∈ row, 0 <= x.2 /\ x.1 ∈ U) /\ U.length <= 26 /\
 ∀ t H', Same H H' -> H t = none -> zk H H' t rows -> Q (.ref t) H'
theorem dw : FnScope ["pools", "dealt", "hands", "prices", "dues", "place", "total"] ["pools"] (aq nR) := ⟨rfl, rfl, rfl, by decide +kernel, rfl, by decide +kernel, by decide +kernel⟩
theorem pJ (D : Dfs K mg aF dF) (T : Txt mg) : FnOk P w K mg base aZ 30 (aF 19) (dF 19) ["pools"] (kX K) := by
 have Gdeal : FnOk P w K mg base aZ 29 (aF 13) (dF 13) ["pools"] (nW K) := rT D T
 have Gserve : FnOk P w K mg base aZ 2 (aF 20) (dF 20) ["pools", "hands", "prices", "dues", "place"] (pI K) := vX D T
 refine D.cheap.fn.ok dw (fun vs H Q E h => ?_) (fun cdv A outer s H vs Q E hr h => ?_)
 ·obtain ⟨a, rs, rows, U, rfl, _⟩ := h; rfl
 ·have hu := aV hr
  obtain ⟨a, rs, rows, U, rfl, hb, bl, r6, ok, u26, q⟩ := h
  refine ⟨_, (af (ar (i := 1) dw.nd rfl (Or.inl rfl) (pc D.deal Gdeal (hr.mono (by decide)) (aa (aO ["pool"] [none] rfl (iq K (pv 0)) (fun _ => ao (i := 0) (aP (N := ["pool"]) (by decide +kernel)) rfl (Or.inl rfl)) (fun _ => a9) (fun _ => (aO ["badge", "cost"] [none, none] rfl (iq K (pv 0)) (fun _ => uE K (n := 2) rfl (aM (ao (i := 0) (aP (N := ["badge", "cost"]) (by decide +kernel)) rfl (Or.inl rfl)) (aM (ao (i := 1) (aP (N := ["badge", "cost"]) (by decide +kernel)) rfl (Or.inl rfl)) cG))) (fun _ => a9) (fun _ => (pv 0)) ((.cons (fun _ e => by cases e) (.cons (fun _ e => by cases e) .nil))))) ((.cons (fun _ e => by cases e) .nil))) ae)))
   (af (aW (aA b6 (ax (dz K) (pv 1) ag (fun _ _ => rfl)) aY (aB _))
    (aj (aw (pv 1)))
    aD)
   (af (ar (i := 2) dw.nd rfl (Or.inl rfl) (ay qd (aL (aa bV ae)) (av (bZ K) (by rfl) T.z_len boot_len (aa (pv 0) ae))))
   (af (ar (i := 3) dw.nd rfl (Or.inl rfl) (ay qd (aL (aa ag ae)) (av (bZ K) (by rfl) T.z_len boot_len (aa (pv 0) ae))))
   (af (ar (i := 4) dw.nd rfl (Or.inl rfl) gL)
   (af (bc PassesOwn.never rfl (bp rfl T.z_range (aa (av (bZ K) (by rfl) T.z_len boot_len (aa (pv 0) ae)) ae)) (ao (i := 5) dw.nd rfl (Or.inl rfl))
    (aj (bR (pc D.serve Gserve (hr.mono (by decide)) (aa (pv 0) (aa (pv 2) (aa (pv 3) (aa (pv 4) (aa (pv 5) ae)))))))))
   (af (ar (i := 6) dw.nd rfl (Or.inl rfl) (av (Ap K) (by rfl) T.z_sum boot_sum (aa (aO ["pool", "hand"] [none, none] rfl (u4 K rfl T.z_zip (aa (pv 0) (aa (pv 2) ae))) (fun _ => uE K (n := 2) rfl (aM (ao (i := 0) (aP (N := ["pool", "hand"]) (by decide +kernel)) rfl (Or.inl rfl)) (aM (ao (i := 1) (aP (N := ["pool", "hand"]) (by decide +kernel)) rfl (Or.inl rfl)) cG))) (fun _ => a9) (fun _ => (fN hu (bq (vh K) (by rfl) T.z_dict PyProof.Rows.boot_dict (aa (pv 0) ae)) (pv 1) (fun _ _ => rfl))) ((.cons (fun _ e => by cases e) (.cons (fun _ e => by cases e) .nil)))) ae)))
   (aj (aw (aE (aa aY (aa (pv 2) (aa (pv 6) (aa (pv 3) (aa (av vI (by rfl) T.z_sorted boot_sorted (aa (um PySem.F.plainAttrs_dict PySem.F.slot_dict_items PySem.F.type_dict_items oM (pv 4)) ae)) ae))))))))))))))), ?_⟩
  refine ⟨_, rfl, a, rfl, ⟨_, SqL.of hb⟩, ?_⟩
  have ln := bl.len
  refine j3 (xs := rs.map V.ref) (fun i => (rows.getD i []).map fun x => V.int x.1) (SqL.of hb) (by rw [B9]; omega) (fun i x hx H2 R s2 k => ?_) fun acc ls H2 s2 nacc hacc hls hall hne => ?_
  ·rw [Cd] at hx
   obtain ⟨r, hr, rfl⟩ := Cj.mp hx
   obtain ⟨row, hrow, ra⟩ := (bl.same s2).get hr
   have eg : rows.getD i [] = row := by rw [Cb, hrow]; rfl
   rw [eg] at k
   have r2 := (ok row (Ce hrow)).2.1
   refine ⟨_, rfl, r, rfl, ⟨_, SqL.of ra.choose_spec.1⟩, ?_⟩
   exact i9 (fun x => V.int x.1) ra (by omega) (fun j x hx H3 R s3 k3 => ⟨_, rfl, k3 H3 (Same.refl _)⟩) fun acc2 H3 s3 n3 h3 => k acc2 H3 s3 n3 h3
  rw [B9] at hls
  have rl : RowsL H2 ls (rows.map au) := RowsL.of (by rw [B9]; omega) fun i r p e1 e2 => by
   rw [Cd] at e2
   obtain ⟨row, hrow, rfl⟩ := Cj.mp e2
   have := (hall i r e1).1
   rw [Cb, hrow] at this
   rw [this]
   unfold au
   rw [CB]; rfl
  refine ⟨acc, ls, rows.map au, U, rfl, SqL.of hacc, rl.pools, by rw [B9]; exact r6, fun p hp b hbp => ?_, u26, fun t H3 s3 nw told => ?_⟩
  ·obtain ⟨row, hrow, rfl⟩ := Ci.mp hp
   obtain ⟨x, hx, rfl⟩ := Ci.mp hbp
   exact ((ok row hrow).2.2 x hx).2
  have s03 := s2.trans s3
  rcases told with ⟨l, hs0, ht, hl, dl⟩ | ⟨l, qs, ht, hl, sh⟩
  rotate_left
  ·refine ⟨_, rfl, t, _, _, _, rfl, rfl, SqT.of ht, rfl, rfl, _, rfl, bH ?_⟩
   exact ⟨_, rfl, q t H3 s03 (s2.free nw.1) (.inl ⟨l, qs, ht, s2.free (nw.2 _ _ ht), hl, sh⟩)⟩
  ·refine ⟨_, rfl, t, _, _, _, rfl, rfl, SqT.of ht, rfl, rfl, _, rfl, bz ?_⟩
   have hb3 := s03 _ _ hb
   have bl3 := bl.same s03
   refine ⟨bY, fun l0 n0 => ⟨_, rfl, _, _, rfl, .inl ⟨_, (Same.new n0).seq (SqL.of hb3), rfl⟩, l0, _, _, rfl, rfl, ab, by omega, by rw [B9]; omega, by rw [B9]; show 1 * _ <= _; exact wU (by omega), fun ha nha => ?_⟩⟩
   rw [B9, show ((rs.length : Nat) : Int).toNat = rows.length by omega, pb]
   have s4 := Same.new (o := .lst [.non]) n0
   have nha3 : H3 ha = none := s4.free nha
   have s5 : Same H3 (az (az H3 l0 (.lst [.non])) ha (.lst (Cw rows.length .non))) := s4.to nha
   have hh5 : az (az H3 l0 (.lst [.non])) ha (.lst (Cw rows.length .non)) ha = some (.lst (Cw rows.length .non)) := ab
   generalize az (az H3 l0 (.lst [.non])) ha (.lst (Cw rows.length .non)) = H5 at s5 hh5
   refine ⟨bY, fun l1 n1 => ⟨_, rfl, _, _, rfl, .inl ⟨_, (s5.to n1).seq (SqL.of hb3), rfl⟩, l1, _, _, rfl, rfl, ab, by omega, by rw [B9]; omega, by rw [B9]; show 1 * _ <= _; exact wU (by omega), fun pa npa => ?_⟩⟩
   rw [B9, show ((rs.length : Nat) : Int).toNat = rows.length by omega, pb]
   have s6 : Same H5 (az H5 l1 (.lst [.int 0])) := Same.new n1
   have hap : ha ≠ pa := ak (s6 _ _ hh5) npa
   have npa3 : H3 pa = none := (s5.trans s6).free npa
   have s7 : Same H3 (az (az H5 l1 (.lst [.int 0])) pa (.lst (Cw rows.length (.int 0)))) := (s5.trans s6).to npa
   have hh7 : az (az H5 l1 (.lst [.int 0])) pa (.lst (Cw rows.length (.int 0))) ha = some (.lst (Cw rows.length .non)) := by rw [ah hap]; exact s6 _ _ hh5
   have hp7 : az (az H5 l1 (.lst [.int 0])) pa (.lst (Cw rows.length (.int 0))) pa = some (.lst (Cw rows.length (.int 0))) := ab
   generalize az (az H5 l1 (.lst [.int 0])) pa (.lst (Cw rows.length (.int 0))) = H7 at s7 hh7 hp7
   intro da nda
   have nda3 : H3 da = none := s7.free nda
   have s8 : Same H7 (az H7 da (.dK [])) := Same.new nda
   refine ⟨_, rfl, _, _, rfl, .inl ⟨_, (s7.trans s8).seq (SqL.of hb3), rfl⟩, _, rfl, iK _, by rw [B9]; omega, ?_⟩
   rw [B9, show ((rs.length : Nat) : Int).toNat = rows.length by omega]
   have rp : Reps rows hs0 := ⟨by rw [dl.len, B9], dl.nd, fun j b hj => by
    have jl := (Cc.mp hj).1
    have jr : j < rows.length := by have := dl.len; rw [B9] at this; omega
    have := dl.of j jl (by rw [B9]; exact jr)
    rw [C7] at this
    have e : rA rows j = rows[j] := by unfold rA; rw [Cb, Ca jr]; rfl
    rw [e, <- (Cc.mp hj).2]
    exact this⟩
   refine cz (n := rows.length) (fun i σ Hx => ∃ hs ps ds x5, σ = [some (.ref a), some (.ref t), some (.ref ha), some (.ref pa), some (.ref da), x5, none] /\ Same H3 Hx /\ Hx ha = some (.lst (hs.map oV)) /\ Hx pa = some (.lst (ps.map V.int)) /\ Hx da = some (.dK (aG ds)) /\ PInv rows hs ps ds /\ ∀ j, j < rows.length -> (hA hs j = none <-> i <= j))
    ⟨Cw rows.length none, Cw rows.length 0, [], none, rfl, s7.trans s8, by rw [s8 _ _ hh7, List.map_replicate]; rfl, by rw [s8 _ _ hp7, List.map_replicate], ab, PInv.start fun row hrow x hx => ((ok row hrow).2.2 x hx).1, fun j hj => ⟨fun _ => CK _, fun _ => by unfold hA; rw [Cb, List.getElem?_replicate]; split <;> rfl⟩⟩ ?_ ?_
   ·rintro i σ Hx hi ⟨hs, ps, ds, x5, rfl, sx, hhx, hpx, hdx, I, dom⟩
    have ei : (0 : Int) + (i : Int) = (i : Int) := by omega
    rw [ei]
    refine ⟨_, rfl, _, rfl, _, rfl, _, rfl, _, rfl, ?_⟩
    refine ⟨H3, a, ha, pa, da, rs, rows, hs, ps, ds, i, hs0, rfl, sx, nha3, npa3, nda3, SqL.of hb3, bl3, by omega, fun row hrow => (ok row hrow).1, rp, hhx, hpx, hdx, hap, I, (dom i hi).mpr (Cg _), hi, fun hs' ps' ds' H' s' h1 h2 h3 I' dm => ?_⟩
    refine ⟨hs', ps', ds', _, rfl, s', h1, h2, h3, I', fun j hj => ?_⟩
    rw [dm j, dom j hj]
    omega
   ·rintro σ Hx ⟨hs, ps, ds, x5, rfl, sx, hhx, hpx, hdx, I, dom⟩
    obtain ⟨ns, rfl⟩ := vJ (hs := hs) fun j hj z => by
     have jl : j < rows.length := by rw [<- I.lh]; exact hj
     have := (dom j jl).mp z
     omega
    rw [xy] at hhx
    have lns : ns.length = rows.length := by have := I.lh; rw [B9] at this; exact this
    have dl2 := I.deal
    have blx := bl3.same sx
    have hbx := sx _ _ hb3
    refine ⟨_, rfl, _, rfl, a, ha, _, _, rfl, SqL.of hbx, SqL.of hhx, ?_⟩
    refine md (xs := rs.map V.ref) (ys := ns.map V.int) (fun j => .int (bE rows ns j)) (by rw [B9, B9]; omega) (SqL.of hbx) (SqL.of hhx) (by rw [B9]; omega) (fun j x y H2 R hx hy s2 k => ?_) fun acc H9 s9 nacc hacc => ?_
    ·rw [Cd] at hx
     obtain ⟨r, hr, rfl⟩ := Cj.mp hx
     obtain ⟨d, hd, rfl, ed⟩ := iI hy
     obtain ⟨row, hrow, ps, hps, tps⟩ := (blx.same s2).get hr
     have jl := (Cc.mp hd).1
     have jr := (Cc.mp hrow).1
     obtain ⟨c, hc, _⟩ := I.tight j ns[j] (g9 jl)
     have e1 : rA rows j = row := by unfold rA; rw [Cb, hrow]; rfl
     have e2 : ns[j] = d := (Cc.mp hd).2
     rw [e1, e2] at hc
     have em : bE rows ns j = c := by
      unfold bE
      rw [Cb, Cb, hrow, hd]
      show (aK row d).getD 0 = c
      rw [hc]; rfl
     rw [em] at k
     refine ⟨_, rfl, r, ps, og row, rfl, SqL.of hps, by unfold og; rw [B9, tps.len], qD (ok row (Ce hrow)).1, tps.kv, fun l nl => ?_⟩
     refine ⟨_, rfl, l, .int c, rfl, ?_, k _ (Same.new nl)⟩
     have g := DGet.k (k := Sum.inl d) (show az H2 l (.dK (og row)) l = some (.dK (og row)) from ab)
     rw [fk, hc] at g
     exact g
    ·have e1 : (Cf (rs.map V.ref).length).map (fun j => V.int (bE rows ns j)) = ((Cf rows.length).map (bE rows ns)).map V.int := by rw [B9, ln, CB]; rfl
     rw [e1] at hacc
     refine ⟨acc, _, rfl, SqL.of hacc, ?_⟩
     have hd9 := s9 _ _ hdx
     refine ⟨_, rfl, _, rfl, _, rfl, _, rfl, .inr (.inr (.inl ⟨rfl, .inl ⟨_, hd9⟩⟩)), da, aG ds, rfl, rfl, hd9, fun v nv => ?_⟩
     refine ⟨v, da, ds, rfl, ab, by rw [ah (ak hd9 nv)]; exact hd9, I.dnd, by have := I.dlen; omega, fun ld es H10 pm up s10 nld ra => ?_⟩
     refine ⟨bY, fun t2 nt2 => ?_⟩
     have sv : Same H9 (az H9 v (.ext (VW v da))) := Same.new nv
     have s910 := sv.trans s10
     have s11 : Same H9 (az H10 t2 (.tup [.str "dealt", .ref ha, .int ((Cf rows.length).map (bE rows ns)).sum, .ref pa, .ref ld])) := s910.to nt2
     have s0x := s03.trans sx
     have s09 := s0x.trans s9
     refine q t2 _ (s09.trans s11) ((s09.trans s910).free nt2) (.inr ⟨ha, pa, ld, ns, ps, _, es, ab, s03.free nha3, s03.free npa3, (s09.trans sv).free nld, s11 _ _ (s9 _ _ hhx), s11 _ _ (s9 _ _ hpx), ra.same (Same.new nt2), ⟨⟨ds, I, pm⟩, up, rfl⟩⟩)
def eP (K : PySem.W.Frag) (m : Nat) : Sp := fun vs H Q _ => ∃ (pa b ta ka : Addr) (p : List Int) (rs : List Addr) (rows : bO) (U : List Int) (ts : List (Addr × Addr × Str × Int × List Nat)) (hs0 : List Int), vs = [.ref pa, .ref b, .ref ta, .ref ka] /\ H pa = some (.lst (p.map V.int)) /\ H b = some (.lst (rs.map V.ref)) /\ BillL H rs rows /\ QB rows U /\ Ties K H ta ts 100 /\ (∀ x ∈ ts, TieG rows.length x) /\ bU p /\ p.length <= rows.length /\ rows.length < p.length + m /\ H ka = some (.lst (hs0.map V.int)) /\ IsPlan (bx rows) (ts.map bW) hs0 /\
 ∀ k hs H', Same H H' -> (k = ka \/ H k = none) -> H' k = some (.lst (hs.map V.int)) -> IsPlan (bx rows) (ts.map bW) hs -> aI rows hs <= aI rows hs0 -> (∀ hs', IsPlan (bx rows) (ts.map bW) hs' -> Beg p hs' -> aI rows hs <= aI rows hs') -> Q (.ref k) H'
def je (K : PySem.W.Frag) : Sp := eP K 7
theorem dI : FnScope ["pattern", "bill", "ties", "known", "dealt", "longer"] ["pattern", "bill", "ties", "known"] (aq gx) := ⟨rfl, rfl, rfl, by decide +kernel, rfl, by decide +kernel, by decide +kernel⟩
theorem pK (D : Dfs K mg aF dF) (T : Txt mg) : FnOk P w K mg base aZ 57 (aF 25) (dF 25) ["pattern", "bill", "ties", "known"] (je K) := by
 have Ggrown : FnOk P w K mg base aZ 2 (aF 2) (dF 2) ["pattern"] (h8 K) := kQ D T
 have Gfirst_broken : FnOk P w K mg base aZ 3 (aF 4) (dF 4) ["pattern", "ties"] (cv K) := cV D T
 have Gminutes_of : FnOk P w K mg base aZ 1 (aF 9) (dF 9) ["bill", "hands"] (dP K) := gd D T
 have Gsums : FnOk P w K mg base aZ 3 (aF 10) (dF 10) ["pattern", "bill"] (nV K) := rS D T
 have Gcheap : FnOk P w K mg base aZ 30 (aF 19) (dF 19) ["pools"] (kX K) := pJ D T
 have all : ∀ n, FnOk P w K mg base aZ (50 + n) (aF 25) (dF 25) ["pattern", "bill", "ties", "known"] (eP K n) := by
  intro n
  induction n with
  | zero =>
   have no : ∀ vs H Q E, ¬ eP K 0 vs H Q E := fun vs H Q E h => by
    obtain ⟨pa, b, ta, ka, p, rs, rows, U, ts, hs0, _, _, _, _, _, _, _, _, h1, h2, _⟩ := h
    omega
   exact ⟨fun vs H Q E h => absurd h (no vs H Q E), fun A outer s H args us vs Q E _ _ _ _ h => absurd h (no vs H Q E)⟩
  | succ n Gquickest =>
   refine D.quickest.fn.ok dI (fun vs H Q E h => ?_) (fun cdv A outer s H vs Q E hr h => ?_)
   ·obtain ⟨pa, b, ta, ka, p, rs, rows, U, ts, hs0, rfl, _⟩ := h; rfl
   obtain ⟨pa, b, ta, ka, p, rs, rows, U, ts, hs0, rfl, hpa, hb, bl, qb, tt, tg, c, hl, hlm, hka, ip0, q⟩ := h
   have rk : Nat.add 50 n = 50 + n := rfl
   refine ⟨_, (af (aW (aA dA (pc D.first_broken Gfirst_broken (hr.mono (by have := rk; omega)) (aa (pv 0) (aa (pv 2) ae))) bV (aB _))
    (aj (aw (pv 3)))
    aD)
   (af (ar (i := 4) dI.nd rfl (Or.inr rfl) (pc D.cheap Gcheap (hr.mono (by have := rk; omega)) (aa (pc D.sums Gsums (hr.mono (by have := rk; omega)) (aa (pv 0) (aa (pv 1) ae))) ae)))
   (af (aW (PW.pt (fW (aA b6 (ax (dz K) (pv 4) ag (fun _ _ => rfl)) aY (aB _)) (dJ (aA qY (ax (dz K) (pv 4) ag (fun _ _ => rfl)) (pc D.minutes_of Gminutes_of (hr.mono (by have := rk; omega)) (aa (pv 1) (aa (pv 3) ae))) (aB _)))))
    (aj (aw (pv 3)))
    aD)
   (af (aW (aA b6 (av (bZ K) (by rfl) T.z_len boot_len (aa (pv 0) ae)) (av (bZ K) (by rfl) T.z_len boot_len (aa (pv 1) ae)) (aB _))
    (aj (aw (aO ["block", "dealt"] [none, some 4] rfl (iq K (pv 0)) (fun _ => ao (i := 0) (aP (N := ["block", "dealt"]) (by decide +kernel)) rfl (Or.inl rfl)) (fun _ => a9) (fun _ => (ax (c7 K) (ax (dz K) (pv 1) ag (fun _ _ => rfl)) (pv 0) (fun _ _ => rfl))) ((.cons (fun _ e => by cases e) (.cons (fun _ e => by cases e; exact ⟨rfl, rfl⟩) .nil))))))
    aD)
   (af (bc PassesOwn.never rfl (iq K (pc D.grown Ggrown (hr.mono (by have := rk; omega)) (aa (pv 0) ae))) (ao (i := 5) dI.nd rfl (Or.inl rfl))
    (aj (ar (i := 3) dI.nd rfl (Or.inl rfl) (pc D.quickest Gquickest hr (aa (pv 5) (aa (pv 1) (aa (pv 2) (aa (pv 3) ae))))))))
   (aj (aw (pv 3)))))))), ?_⟩
   have r6 := qb.r6
   have dl := dM p
   have rl : rs.length = rows.length := bl.len
   have mbl := cJ rows
   refine ⟨_, rfl, _, rfl, pa, ta, p, ts, rfl, SqL.of hpa, tt, fun H1 s1 => ?_⟩
   refine ⟨rfl, ?_⟩
   rw [kh]
   cases hf : jq (fun i => p.getD i 0) p.length ts with
   | some j =>
    obtain ⟨x, hx, hbk⟩ := me hf
    refine ⟨_, rfl, bH ⟨_, rfl, q ka hs0 H1 s1 (.inl rfl) (s1 _ _ hka) ip0 (Int.le_refl _) fun hs' ip' bg => ?_⟩⟩
    have k1 := ip'.kp (bW x) (Ci.mpr ⟨x, Ce hx, rfl⟩)
    have k2 := bg.brk hbk
    exact absurd (k1.symm.trans k2) (by decide)
   | none =>
    have nb := iJ hf
    refine ⟨_, rfl, bz ?_⟩
    refine ⟨_, rfl, _, rfl, pa, b, p, rs, rows, rfl, SqL.of (s1 _ _ hpa), s1 _ _ hb, bl.same s1, c, hl, r6, qb.ok, fun sl ls H2 s2 nsl hsl bls fr2 => ⟨sl, ls, bF rows p, U, rfl, hsl, bls, by rw [aJ]; omega, rQ qb c, qb.u26, fun t H3 s3 nt ct => ?_⟩⟩
    have s03 := (s1.trans s2).trans s3
    have hka3 := s03 _ _ hka
    rcases ct with ⟨lq, qs, ht, nlq, hlq, sh⟩ | ⟨lh, lp, ld, ds, ps, tot, es, ht, nlh, nlp, nld, hlh, hlp, hld, pr⟩
    ·refine ⟨_, rfl, t, _, _, _, rfl, rfl, SqT.of ht, rfl, rfl, _, rfl, bH ?_⟩
     refine bH ⟨_, rfl, q ka hs0 H3 s03 (.inl rfl) hka3 ip0 (Int.le_refl _) fun hs' ip' bg => ?_⟩
     exact (bg.short ip'.of (qL qb.nd c sh)).elim
    ·have be := pr.best
     refine ⟨_, rfl, t, _, _, _, rfl, rfl, SqT.of ht, rfl, rfl, _, rfl, ?_⟩
     rw [decide_eq_false (by decide)]
     refine bz ?_
     have hlen := ip0.len
     refine ⟨_, rfl, t, _, _, _, rfl, rfl, SqT.of ht, rfl, _, rfl, _, rfl, b, ka, rs, rows, hs0, rfl, s03 _ _ hb, bl.same s03, r6, qb.nd, SqL.of hka3, by omega, jH ip0, fun H4 s4 => ⟨_, _, rfl, rfl, _, rfl, Ah (fun ge => ?_) fun ge => ?_⟩⟩
     ·exact ⟨_, rfl, q ka hs0 H4 (s03.trans s4) (.inl rfl) (s4 _ _ hka3) ip0 (Int.le_refl _) fun hs' ip' bg => Int.le_trans ge (mz qb.nd qb.nn bg ip' be)⟩
     ·have s04 := s03.trans s4
      have hpa4 := s04 _ _ hpa
      have deal : Deal ((bF rows p).map au) ds := by
       obtain ⟨dd', I, _⟩ := pr.inv
       exact I.deal
      have dsl : ds.length = (dd p).length := by rw [deal.len, B9, aJ]
      refine ⟨_, rfl, _, p.length, rfl, .inl ⟨_, SqL.of hpa4, by rw [B9]⟩, _, rfl, _, rows.length, rfl, .inl ⟨_, SqL.of (s04 _ _ hb), by rw [B9, rl]⟩, rfl, _, rfl, wZ (fun e => ?_) fun ne => ?_⟩
      ·have e : p.length = rows.length := by omega
       refine ⟨_, rfl, pa, rfl, ⟨_, SqL.of hpa4⟩, ?_⟩
       refine cN (xs := p.map V.int) (fun _ => true) (fun j => .int (ds.getD (p.getD j 0).toNat 0)) (SqL.of hpa4) (by rw [B9]; omega) (fun _ _ _ _ _ _ k => k _ (Same.refl _)) (fun j x hx _ H5 R s5 k => ?_) fun acc H5 s5 nacc hacc => ?_
       ·obtain ⟨d, hd, rfl, ed⟩ := iI hx
        obtain ⟨bb, eb, hbb⟩ := cZ c (Ce hd)
        rw [ed] at k
        subst eb
        rw [CV] at k
        exact ⟨_, rfl, t, _, _, _, rfl, rfl, SqT.of (s5 _ _ (s4 _ _ ht)), rfl, _, rfl, lh, _, _, _, rfl, rfl, SqL.of (s5 _ _ (s4 _ _ hlh)), br (by omega), k _ (Same.refl _)⟩
       rw [CZ.mpr (fun _ _ => rfl), B9] at hacc
       have e2 : (Cf p.length).map (fun j => V.int (ds.getD (p.getD j 0).toNat 0)) = (p.map fun x => ds.getD x.toNat 0).map V.int := by
        rw [CB]
        exact ve fun i x hx => by rw [Cb (l := p), hx]; rfl
       rw [e2] at hacc
       have tot' : aI rows (p.map fun x => ds.getD x.toNat 0) = tot := by
        rw [jb qb.nd c e deal, pr.tot, fU (by rw [aJ]; exact dsl)]
       refine q acc _ H5 (s04.trans s5) (.inr (s04.free nacc)) hacc (nu c (by omega) (mB qb.nd c deal) (fun x hx => ?_) fun x hx => ?_) (by rw [tot']; omega) fun hs' ip' bg => by rw [tot']; exact mz qb.nd qb.nn bg ip' be
       ·obtain ⟨y, hy, ey⟩ := Ci.mp hx
        rw [<- ey, e]
        exact (tg y hy).lt
       ·obtain ⟨y, hy, ey⟩ := Ci.mp hx
        rw [<- ey]
        exact nb y hy
      ·have lt : p.length < rows.length := by omega
       refine ⟨_, rfl, pa, p, rfl, hpa4, by omega, fun gl gs H5 s5 ngl hgl hgs gall => ⟨gl, rfl, ⟨_, SqL.of hgl⟩, ?_⟩⟩
       refine bK (K := K) (a := gl) (xs := gs.map V.ref) (fun i σ Hx => ∃ (k : Addr) (hs : List Int) (x : Option V), σ = [some (.ref pa), some (.ref b), some (.ref ta), some (.ref k), some (.ref t), x] /\ Same H5 Hx /\ (k = ka \/ H k = none) /\ Hx k = some (.lst (hs.map V.int)) /\ IsPlan (bx rows) (ts.map bW) hs /\ aI rows hs <= aI rows hs0 /\ ∀ j : Nat, j < i -> ∀ hs', IsPlan (bx rows) (ts.map bW) hs' -> Beg (p ++ [(j : Int)]) hs' -> aI rows hs <= aI rows hs') ⟨ka, hs0, none, rfl, Same.refl _, .inl rfl, s5 _ _ (s4 _ _ hka3), ip0, Int.le_refl _, fun j hj => absurd hj (Nat.not_lt_zero _)⟩ (fun i σ Hx _ hq__ => by obtain ⟨_, _, _, _, s, _⟩ := hq__; exact SqL.of (s _ _ hgl)) ?_ ?_
       ·rintro i v σ Hx hi ⟨k, hs, x, rfl, sx, nk, hk, ip, le, al⟩
        rw [Cd] at hi
        obtain ⟨r, hr', rfl⟩ := Cj.mp hi
        have il : i < (dd p).length + 1 := by rw [<- hgs]; exact (Cc.mp hr').1
        have s0x := (s04.trans s5).trans sx
        have cx := gq c (j := i) (by omega)
        refine ⟨_, rfl, _, rfl, _, rfl, _, rfl, r, b, ta, k, p ++ [(i : Int)], rs, rows, U, ts, hs, rfl, sx _ _ (gall i r hr').1, s0x _ _ hb, bl.same s0x, qb, ⟨s0x.seq tt.ls, fun x hx => (tt.ea x hx).same s0x, tt.ln⟩, tg, cx, by simp; omega, by simp; omega, hk, ip, fun k2 hs2 H6 s6 nk2 hk2 ip2 le2 al2 => ?_⟩
        refine ⟨k2, hs2, _, rfl, sx.trans s6, ?_, hk2, ip2, Int.le_trans le2 le, fun j hj hs' ip' bg => ?_⟩
        ·rcases nk2 with rfl | z
         ·exact nk
         ·exact .inr (s0x.free z)
        ·by_cases z : j < i
         ·exact Int.le_trans le2 (al j z hs' ip' bg)
         ·have : j = i := by omega
          subst this
          exact al2 hs' ip' bg
       ·rintro σ Hx ⟨k, hs, x, rfl, sx, nk, hk, ip, le, al⟩
        rw [B9, hgs] at al
        refine ⟨_, rfl, q k hs Hx ((s04.trans s5).trans sx) nk hk ip le fun hs' ip' bg => ?_⟩
        obtain ⟨j, hj, bg2⟩ := bg.next (by rw [ip'.len]; omega)
        exact al j (by omega) hs' ip' bg2
 exact all 7
def fF (K : PySem.W.Frag) (m : Nat) : Sp := fun vs H Q _ => ∃ (pa b ta : Addr) (bd : Int) (p : List Int) (rs : List Addr) (rows : bO) (U : List Int) (ts : List (Addr × Addr × Str × Int × List Nat)), vs = [.ref pa, .ref b, .ref ta, .int bd] /\ H pa = some (.lst (p.map V.int)) /\ H b = some (.lst (rs.map V.ref)) /\ BillL H rs rows /\ QB rows U /\ Ties K H ta ts 100 /\ (∀ x ∈ ts, TieG rows.length x) /\ bU p /\ p.length <= rows.length /\ rows.length < p.length + m /\ (∀ hs', IsPlan (bx rows) (ts.map bW) hs' -> bd <= aI rows hs') /\
 ∀ t H', Same H H' -> Q (.ref t) H'
def kY (K : PySem.W.Frag) : Sp := fF K 7
theorem gG : FnScope ["pattern", "bill", "ties", "bound", "broken", "dealt"] ["pattern", "bill", "ties", "bound"] (aq iV) := ⟨rfl, rfl, rfl, by decide +kernel, rfl, by decide +kernel, by decide +kernel⟩
theorem qT (D : Dfs K mg aF dF) (T : Txt mg) : FnOk P w K mg base aZ 57 (aF 26) (dF 26) ["pattern", "bill", "ties", "bound"] (kY K) := by
 have Ggrown : FnOk P w K mg base aZ 2 (aF 2) (dF 2) ["pattern"] (h8 K) := kQ D T
 have Gfirst_broken : FnOk P w K mg base aZ 3 (aF 4) (dF 4) ["pattern", "ties"] (cv K) := cV D T
 have Gsums : FnOk P w K mg base aZ 3 (aF 10) (dF 10) ["pattern", "bill"] (nV K) := rS D T
 have Gcheap : FnOk P w K mg base aZ 30 (aF 19) (dF 19) ["pools"] (kX K) := pJ D T
 have all : ∀ n, FnOk P w K mg base aZ (50 + n) (aF 26) (dF 26) ["pattern", "bill", "ties", "bound"] (fF K n) := by
  intro n
  induction n with
  | zero =>
   have no : ∀ vs H Q E, ¬ fF K 0 vs H Q E := fun vs H Q E h => by
    obtain ⟨pa, b, ta, bd, p, rs, rows, U, ts, _, _, _, _, _, _, _, _, h1, h2, _⟩ := h
    omega
   exact ⟨fun vs H Q E h => absurd h (no vs H Q E), fun A outer s H args us vs Q E _ _ _ _ h => absurd h (no vs H Q E)⟩
  | succ n Gbearing =>
   refine D.bearing.fn.ok gG (fun vs H Q E h => ?_) (fun cdv A outer s H vs Q E hr h => ?_)
   ·obtain ⟨pa, b, ta, bd, p, rs, rows, U, ts, rfl, _⟩ := h; rfl
   obtain ⟨pa, b, ta, bd, p, rs, rows, U, ts, rfl, hpa, hb, bl, qb, tt, tg, c, hl, hlm, low, q⟩ := h
   have rk : Nat.add 50 n = 50 + n := rfl
   refine ⟨_, (af (ar (i := 4) gG.nd rfl (Or.inl rfl) (pc D.first_broken Gfirst_broken (hr.mono (by have := rk; omega)) (aa (pv 0) (aa (pv 2) ae))))
   (af (aW (aA dA (pv 4) bV (aB _))
    (aj (aw (aE (aa aY (aa (pv 4) ae)))))
    aD)
   (af (ar (i := 5) gG.nd rfl (Or.inl rfl) (pc D.cheap Gcheap (hr.mono (by have := rk; omega)) (aa (pc D.sums Gsums (hr.mono (by have := rk; omega)) (aa (pv 0) (aa (pv 1) ae))) ae)))
   (af (aW (aA b6 (ax (dz K) (pv 5) ag (fun _ _ => rfl)) aY (aB _))
    (aj (aw (aE (aa aY (aa (ax (dz K) (pv 5) ag (fun _ _ => rfl)) ae)))))
    aD)
   (af (aW (aA qY (ax (dz K) (pv 5) ag (fun _ _ => rfl)) (pv 3) (aB _))
    (aj (aw (aE (aa aY (aa (ax (dz K) (pv 5) ag (fun _ _ => rfl)) (aa (ax (dz K) (pv 5) ag (fun _ _ => rfl)) ae))))))
    aD)
   (aj (aw (aE (aa aY (aa (aO ["longer", "bill", "ties", "bound"] [none, some 1, some 2, some 3] rfl (iq K (pc D.grown Ggrown (hr.mono (by have := rk; omega)) (aa (pv 0) ae))) (fun _ => ao (i := 0) (aP (N := ["longer", "bill", "ties", "bound"]) (by decide +kernel)) rfl (Or.inl rfl)) (fun _ => a9) (fun _ => (pc D.bearing Gbearing hr (aa (pv 0) (aa (pv 1) (aa (pv 2) (aa (pv 3) ae)))))) ((.cons (fun _ e => by cases e) (.cons (fun _ e => by cases e; exact ⟨rfl, rfl⟩) (.cons (fun _ e => by cases e; exact ⟨rfl, rfl⟩) (.cons (fun _ e => by cases e; exact ⟨rfl, rfl⟩) .nil)))))) ae)))))))))), ?_⟩
   have r6 := qb.r6
   have dl := dM p
   have mbl := cJ rows
   refine ⟨_, rfl, _, rfl, pa, ta, p, ts, rfl, SqL.of hpa, tt, fun H1 s1 => ?_⟩
   refine ⟨_, rfl, rfl, ?_⟩
   rw [kh]
   cases hf : jq (fun i => p.getD i 0) p.length ts with
   | some j => exact ⟨_, rfl, bH ⟨_, rfl, bY, fun t nt => q t _ (s1.to nt)⟩⟩
   | none =>
    have nb := iJ hf
    refine ⟨_, rfl, bz ?_⟩
    refine ⟨_, rfl, _, rfl, pa, b, p, rs, rows, rfl, SqL.of (s1 _ _ hpa), s1 _ _ hb, bl.same s1, c, hl, r6, qb.ok, fun sl ls H2 s2 nsl hsl bls fr2 => ⟨sl, ls, bF rows p, U, rfl, hsl, bls, by rw [aJ]; omega, rQ qb c, qb.u26, fun t H3 s3 nt ct => ?_⟩⟩
    have s03 := (s1.trans s2).trans s3
    rcases ct with ⟨lq, qs, ht, nlq, hlq, sh⟩ | ⟨lh, lp, ld, ds, ps, tot, es, ht, nlh, nlp, nld, hlh, hlp, hld, pr⟩
    ·refine ⟨_, rfl, t, _, _, _, rfl, rfl, SqT.of ht, rfl, rfl, _, rfl, bH ?_⟩
     exact ⟨_, rfl, t, _, _, _, rfl, rfl, SqT.of ht, rfl, bY, fun t2 nt2 => q t2 _ (s03.to nt2)⟩
    ·refine ⟨_, rfl, t, _, _, _, rfl, rfl, SqT.of ht, rfl, rfl, _, rfl, ?_⟩
     rw [decide_eq_false (by decide)]
     refine bz ?_
     refine ⟨_, rfl, t, _, _, _, rfl, rfl, SqT.of ht, rfl, _, rfl, _, _, rfl, rfl, _, rfl, Ah (fun ge => ?_) fun ge => ?_⟩
     ·exact ⟨_, rfl, t, _, _, _, rfl, rfl, SqT.of ht, rfl, _, rfl, t, _, _, _, rfl, rfl, SqT.of ht, rfl, bY, fun t2 nt2 => q t2 _ (s03.to nt2)⟩
     ·have deal : Deal ((bF rows p).map au) ds := by
       obtain ⟨dd', I, _⟩ := pr.inv
       exact I.deal
      have dsl : ds.length = (dd p).length := by rw [deal.len, B9, aJ]
      have lt : p.length < rows.length := by
       refine Decidable.byContradiction fun z => ?_
       have e : p.length = rows.length := by omega
       have tot' : aI rows (p.map fun x => ds.getD x.toNat 0) = tot := by
        rw [jb qb.nd c e deal, pr.tot, fU (by rw [aJ]; exact dsl)]
       have := low _ (nu (ts := ts.map bW) c (by omega) (mB qb.nd c deal) (fun x hx => by
        obtain ⟨y, hy, ey⟩ := Ci.mp hx
        rw [<- ey, e]
        exact (tg y hy).lt) fun x hx => by
        obtain ⟨y, hy, ey⟩ := Ci.mp hx
        rw [<- ey]
        exact nb y hy)
       rw [tot'] at this
       exact ge this
      refine ⟨_, rfl, pa, p, rfl, s03 _ _ hpa, by omega, fun gl gs H5 s5 ngl hgl hgs gall => ⟨gl, rfl, ⟨_, SqL.of hgl⟩, ?_⟩⟩
      refine l9 (xs := gs.map V.ref) (fun _ _ _ => True) (SqL.of hgl) (by rw [B9]; omega) (fun _ _ _ _ _ _ => trivial) (fun _ _ => trivial) (fun acc i x ys H6 R hx s6 nacc hacc yl _ k => ?_) fun acc ys H6 s6 nacc hacc yl _ => ⟨bY, fun t2 nt2 => q t2 _ (((s03.trans s5).trans s6).to nt2)⟩
      rw [Cd] at hx
      obtain ⟨r, hr', rfl⟩ := Cj.mp hx
      have il : i < (dd p).length + 1 := by rw [<- hgs]; exact (Cc.mp hr').1
      have s0x := (s03.trans s5).trans s6
      exact ⟨_, rfl, _, rfl, _, rfl, _, rfl, r, b, ta, bd, p ++ [(i : Int)], rs, rows, U, ts, rfl, s6 _ _ (gall i r hr').1, s0x _ _ hb, bl.same s0x, qb, ⟨s0x.seq tt.ls, fun x hx => (tt.ea x hx).same s0x, tt.ln⟩, tg, gq c (j := i) (by omega), by simp; omega, by simp; omega, low, fun t2 H7 s7 => k _ H7 s7 trivial⟩
 exact all 7
def AE (H H' : Hp) (t : Addr) (rows : bO) (ts : List oZ) : Prop :=
 (∃ v, H' t = some (.tup [.str "none", v]) /\ ∀ hs, ¬ IsPlan (bx rows) ts hs) \/
 ∃ (l : Addr) (hs : List Int) (v : V), H' t = some (.tup [.str "plan", .ref l, .int (aI rows hs), v]) /\ H l = none /\ H' l = some (.lst (hs.map V.int)) /\ IsPlan (bx rows) ts hs /\ ∀ hs', IsPlan (bx rows) ts hs' -> aI rows hs <= aI rows hs'
def pL (K : PySem.W.Frag) : Sp := fun vs H Q _ => ∃ (b ta : Addr) (rs : List Addr) (rows : bO) (U : List Int) (ts : List (Addr × Addr × Str × Int × List Nat)), vs = [.ref b, .ref ta] /\ H b = some (.lst (rs.map V.ref)) /\ BillL H rs rows /\ QB rows U /\ Ties K H ta ts 100 /\ (∀ x ∈ ts, TieG rows.length x) /\ ∀ t H', Same H H' -> AE H H' t rows (ts.map bW) -> Q (.ref t) H'
theorem ib : FnScope ["bill", "ties", "told", "hands", "total"] ["bill", "ties"] (aq nU) := ⟨rfl, rfl, rfl, by decide +kernel, rfl, by decide +kernel, by decide +kernel⟩
theorem vY (D : Dfs K mg aF dF) (T : Txt mg) : FnOk P w K mg base aZ 58 (aF 24) (dF 24) ["bill", "ties"] (pL K) := by
 have Gmay_of : FnOk P w K mg base aZ 1 (aF 8) (dF 8) ["bill"] (mF K) := t7 D T
 have Gminutes_of : FnOk P w K mg base aZ 1 (aF 9) (dF 9) ["bill", "hands"] (dP K) := gd D T
 have Gplan : FnOk P w K mg base aZ 38 (aF 17) (dF 17) ["may", "ties"] (rV K) := xP D T
 have Gquickest : FnOk P w K mg base aZ 57 (aF 25) (dF 25) ["pattern", "bill", "ties", "known"] (je K) := pK D T
 have Gbearing : FnOk P w K mg base aZ 57 (aF 26) (dF 26) ["pattern", "bill", "ties", "bound"] (kY K) := qT D T
 refine D.quick.fn.ok ib (fun vs H Q E h => ?_) (fun cdv A outer s H vs Q E hr h => ?_)
 ·obtain ⟨b, ta, rs, rows, U, ts, rfl, _⟩ := h; rfl
 ·have hu := aV hr
  obtain ⟨b, ta, rs, rows, U, ts, rfl, hb, bl, qb, tt, tg, q⟩ := h
  refine ⟨_, (af (ar (i := 2) ib.nd rfl (Or.inl rfl) (pc D.plan Gplan (hr.mono (by decide)) (aa (pc D.may_of Gmay_of (hr.mono (by decide)) (aa (pv 0) ae)) (aa (pv 1) ae))))
   (af (aW (aA b6 (ax (dz K) (pv 2) ag (fun _ _ => rfl)) aY (aB _))
    (aj (aw (pv 2)))
    aD)
   (af (ar (i := 3) ib.nd rfl (Or.inl rfl) (pc D.quickest Gquickest (hr.mono (by decide)) (aa (aL ae) (aa (pv 0) (aa (pv 1) (aa (ax (dz K) (pv 2) ag (fun _ _ => rfl)) ae))))))
   (af (ar (i := 4) ib.nd rfl (Or.inl rfl) (pc D.minutes_of Gminutes_of (hr.mono (by decide)) (aa (pv 0) (aa (pv 3) ae))))
   (aj (aw (aE (aa aY (aa (pv 3) (aa (pv 4) (aa (pc D.bearing Gbearing (hr.mono (by decide)) (aa (aL ae) (aa (pv 0) (aa (pv 1) (aa (pv 4) ae))))) ae))))))))))), ?_⟩
  have r6 := qb.r6
  have mbl := cJ rows
  refine ⟨_, rfl, b, rs, rows, rfl, hb, bl, r6, fun row hr => (qb.ok row hr).1, fun l ls H1 s1 nl hl rm fr => ?_⟩
  have tOk : ∀ Hx, Same H Hx -> Ties K Hx ta ts 100 := fun Hx sx => ⟨sx.seq tt.ls, fun x hx => (tt.ea x hx).same sx, tt.ln⟩
  have rm : RowsL H1 ls (bx rows) := rm
  have mup : ∀ p ∈ bx rows, p.Pairwise (· < ·) := fun p hp => by
   obtain ⟨row, hr, rfl⟩ := Ci.mp hp
   exact qb.up row hr
  have msub : ∀ p ∈ bx rows, ∀ z ∈ p, z ∈ U := fun p hp z hz => by
   obtain ⟨row, hr, rfl⟩ := Ci.mp hp
   obtain ⟨x, hx, rfl⟩ := Ci.mp hz
   exact qb.sub row hr x hx
  refine ⟨_, rfl, l, ta, ls, bx rows, U, ts, rfl, ⟨SqL.of hl, rm.pools, mup, msub, by omega, qb.u26⟩, tOk H1 s1, (fun x hx => by rw [mbl]; exact tg x hx), fun t H2 s2 td => ?_⟩
  have s02 := s1.trans s2
  rcases td with ⟨lp, hs0, ht, hlp, nlp, ip0⟩ | ⟨v, pp, ht, _, sh⟩
  ·refine ⟨_, rfl, t, _, _, _, rfl, rfl, SqT.of ht, rfl, rfl, _, rfl, ?_⟩
   rw [decide_eq_false (by decide)]
   refine bz ⟨bY, fun e0 ne0 => ?_⟩
   have s3 := Same.new (o := .lst []) ne0
   have he0 : az H2 e0 (.lst []) e0 = some (.lst []) := ab
   generalize az H2 e0 (.lst []) = H3 at s3 he0
   have s03 := s02.trans s3
   refine ⟨_, rfl, _, rfl, _, rfl, t, _, _, _, rfl, rfl, SqT.of (s3 _ _ ht), rfl, e0, b, ta, lp, [], rs, rows, U, ts, hs0, rfl, he0, s03 _ _ hb, bl.same s03, qb, tOk _ s03, tg, iH, CK _, by simp; omega, s3 _ _ hlp, ip0, fun k hs H4 s4 nk hk ip le al => ?_⟩
   have s04 := s03.trans s4
   have hlen := ip.len
   refine ⟨_, rfl, _, rfl, b, k, rs, rows, hs, rfl, s04 _ _ hb, bl.same s04, r6, qb.nd, SqL.of hk, by omega, jH ip, fun H5 s5 => ?_⟩
   have s05 := s04.trans s5
   have low : ∀ hs', IsPlan (bx rows) (ts.map bW) hs' -> aI rows hs <= aI rows hs' := fun hs' ip' => al hs' ip' (Beg.nil hs')
   refine ⟨_, rfl, _, rfl, bY, fun e1 ne1 => ?_⟩
   have s6 := Same.new (o := .lst []) ne1
   have he1 : az H5 e1 (.lst []) e1 = some (.lst []) := ab
   generalize az H5 e1 (.lst []) = H6 at s6 he1
   have s06 := s05.trans s6
   refine ⟨_, rfl, _, rfl, _, rfl, e1, b, ta, aI rows hs, [], rs, rows, U, ts, rfl, he1, s06 _ _ hb, bl.same s06, qb, tOk _ s06, tg, iH, CK _, by simp; omega, low, fun pt H7 s7 => ⟨bY, fun t2 nt2 => ?_⟩⟩
   have s8 := Same.new (o := .tup [.str "plan", .ref k, .int (aI rows hs), .ref pt]) nt2
   have s48 := ((s5.trans s6).trans s7).trans s8
   refine q t2 _ (s04.trans s48) (.inr ⟨k, hs, .ref pt, ab, ?_, s48 _ _ hk, ip, low⟩)
   rcases nk with rfl | z
   ·exact s1.free nlp
   ·exact s03.free z
  ·exact ⟨_, rfl, t, _, _, _, rfl, rfl, SqT.of ht, rfl, rfl, _, rfl, bH ⟨_, rfl, q t H2 s02 (.inl ⟨v, ht, fun hs => sh.noplan⟩)⟩⟩
def fG (K : PySem.W.Frag) : Sp := fun vs H Q _ => ∃ (a : Addr) (ns : List Int) (k : Nat), vs = [.ref a, .int ((k : Nat) : Int)] /\ SqL K H a (ns.map V.int) /\ Q (.int (ns.getD k 0)) H
theorem pM : FnScope ["script", "k"] ["script", "k"] (aq gy) := ⟨rfl, rfl, rfl, by decide +kernel, rfl, by decide +kernel, by decide +kernel⟩
theorem jf (D : Dfs K mg aF dF) (T : Txt mg) : FnOk P w K mg base aZ 1 (aF 27) (dF 27) ["script", "k"] (fG K) := by
 refine D.law_cell.fn.ok pM (fun vs H Q E h => ?_) (fun cdv A outer s H vs Q E hr h => ?_)
 ·obtain ⟨a, ns, k, rfl, _⟩ := h; rfl
 ·have hu := aV hr
  obtain ⟨a, ns, k, rfl, hS, q⟩ := h
  refine ⟨_, (af (aW (aA oz (pv 1) (av (bZ K) (by rfl) T.z_len boot_len (aa (pv 0) ae)) (aB _))
    (aj (aw (ax (c7 K) (pv 0) (pv 1) (fun _ _ => rfl))))
    aD)
   (aj (aw ag))), ?_⟩
  refine ⟨_, rfl, _, rfl, _, _, rfl, .inl ⟨_, hS, rfl⟩, _, _, rfl, rfl, _, rfl, Ah (fun h => ?_) fun h => ?_⟩
  ·rw [B9] at h
   exact ⟨_, rfl, _, rfl, a, _, _, _, rfl, rfl, hS, br (by omega), q⟩
  ·rw [B9] at h
   have e : ns.getD k 0 = 0 := by rw [Cb, CU (by omega)]; rfl
   rw [e] at q
   exact q
def fH (K : PySem.W.Frag) : Sp := fun vs H Q _ => ∃ (a : Addr) (ns : List Int) (sz : Nat), vs = [.ref a, .int ((sz : Nat) : Int)] /\ SqL K H a (ns.map V.int) /\ ns.length <= 200 /\ 0 < sz /\ sz <= 1000 /\ ∀ l (cs : List Int) H', Same H H' -> H l = none -> H' l = some (.lst (cs.map V.int)) -> cs.length = sz -> Q (.ref l) H'
theorem xQ (c : Int) : 0 <= c % 2147483647 /\ c % 2147483647 < 2147483647 := ⟨DK c (by decide), DS c (by decide)⟩
theorem bf : FnScope ["script", "size", "mixed", "cell", "found", "k"] ["script", "size"] (aq dN) := ⟨rfl, rfl, rfl, by decide +kernel, rfl, by decide +kernel, by decide +kernel⟩
theorem kZ (D : Dfs K mg aF dF) (T : Txt mg) : FnOk P w K mg base aZ 1 (aF 28) (dF 28) ["script", "size"] (fH K) := by
 refine D.law_entries.fn.ok bf (fun vs H Q E h => ?_) (fun cdv A outer s H vs Q E hr h => ?_)
 ·obtain ⟨a, ns, sz, rfl, _⟩ := h; rfl
 ·have hu := aV hr
  obtain ⟨a, ns, sz, rfl, hS, hl, sz0, sz1, q⟩ := h
  refine ⟨_, (af (ar (i := 2) bf.nd rfl (Or.inl rfl) ag)
   (af (bc PassesOwn.never rfl (iq K (dR (zx K) (pv 0) gJ (eE ag))) (ao (i := 3) bf.nd rfl (Or.inl rfl))
    (aj (ar (i := 2) bf.nd rfl (Or.inl rfl) (ay bG (ay aU (ay eD (pv 2) ag) (pv 3)) ag))))
   (af (ar (i := 4) bf.nd rfl (Or.inl rfl) (aL ae))
   (af (bc PassesOwn.never rfl (bp rfl T.z_range (aa (pv 1) ae)) (ao (i := 5) bf.nd rfl (Or.inl rfl))
    (af (ar (i := 2) bf.nd rfl (Or.inl rfl) (ay bG (ay aU (ay aU (ay aU (ay eD (pv 2) (pv 2)) (ay eD ag (pv 2))) (pv 5)) ag) ag))
    (aj (bR (dS PySem.F.plainAttrs_list PySem.F.slot_list_append PySem.F.type_list_append bI (pv 4) (aa (pv 2) ae))))))
   (af (bc PassesOwn.never rfl (r8 rfl T.z_range (aa ag (aa (av (bZ K) (by rfl) T.z_len boot_len (aa (pv 0) ae)) ae))) (ao (i := 5) bf.nd rfl (Or.inl rfl))
    (aj (ff (ax (c7 K) (pv 0) (pv 5) (fun _ _ => rfl)) (mL (pv 4) (ay bG (ay jM (pv 5) ag) (pv 1)) fh))))
   (aj (aw (pv 4)))))))), ?_⟩
  refine ⟨_, rfl, _, rfl, a, _, rfl, hS, fun c nc => ?_⟩
  have ecut : fV (ns.map V.int) none (some 4) = (ns.take 4).map V.int := by rw [Ej]; exact uF _ 4
  rw [ecut]
  have s1 := Same.new (o := .lst ((ns.take 4).map V.int)) nc
  have hc1 : az H c (.lst ((ns.take 4).map V.int)) c = some (.lst ((ns.take 4).map V.int)) := ab
  generalize az H c (.lst ((ns.take 4).map V.int)) = H1 at s1 hc1
  refine ⟨c, rfl, ⟨_, SqL.of hc1⟩, ?_⟩
  refine bK (K := K) (a := c) (xs := (ns.take 4).map V.int) (fun i σ Hx => ∃ (m : Int) (y : Option V), σ = [some (.ref a), some (.int sz), some (.int m), y, none, none] /\ Same H1 Hx /\ 0 <= m /\ m < 2147483647) ⟨1, none, rfl, Same.refl _, by decide, by decide⟩ (fun i σ Hx _ hq__ => by obtain ⟨_, _, _, s, _⟩ := hq__; exact s.seq (SqL.of hc1)) ?_ ?_
  ·rintro i y σ Hx hi ⟨m, y', rfl, sx, m0, m1⟩
   obtain ⟨d, hd, rfl, ed⟩ := iI hi
   exact ⟨_, rfl, _, _, rfl, rfl, .inl ⟨by omega, by omega⟩, _, rfl, _, _, rfl, rfl, _, _, rfl, rfl, (show (0 : Int) < 2147483647 by decide), _, _, rfl, sx, (xQ _).1, (xQ _).2⟩
  rintro σ H2 ⟨m, y', rfl, s12, m0, m1⟩
  refine ⟨bY, fun l nl => ?_⟩
  refine ⟨_, rfl, _, rfl, iK _, by omega, ?_⟩
  have e0 : ((sz : Int)).toNat = sz := by omega
  rw [e0]
  have s02 := s1.trans s12
  have nl0 := s02.free nl
  refine cz (n := sz) (fun i σ Hx => ∃ (m : Int) (x : Option V) (cs : List Int), σ = [some (.ref a), some (.int sz), some (.int m), y', some (.ref l), x] /\ Same H Hx /\ Hx l = some (.lst (cs.map V.int)) /\ cs.length = i /\ 0 <= m /\ m < 2147483647) ⟨m, none, [], rfl, s02.to nl, ab, rfl, m0, m1⟩ ?_ ?_
  ·rintro i σ Hx hi ⟨m, x, cs, rfl, sx, hlx, lc, m0, m1⟩
   refine ⟨_, rfl, _, rfl, _, _, rfl, rfl, .inl ⟨by omega, by omega⟩, _, rfl, _, _, rfl, rfl, .inl ⟨by decide, by decide⟩, _, _, rfl, rfl, _, rfl, _, _, rfl, rfl, _, _, rfl, rfl, _, _, rfl, rfl, (show (0 : Int) < 2147483647 by decide), ?_⟩
   refine ⟨_, rfl, .inl ⟨rfl, _, SqL.of hlx⟩, _, rfl, l, _, _, rfl, rfl, hlx, i4 (by rw [B9]; omega), ?_⟩
   exact ⟨_, _, cs ++ [_], rfl, sx.put nl0, by rw [ab, Cn]; rfl, by rw [Ck, Cp, lc], (xQ _).1, (xQ _).2⟩
  rintro σ H3 ⟨m, x, cs, rfl, s3, hl3, lc, _, _⟩
  refine ⟨_, rfl, _, _, rfl, .inl ⟨_, s3.seq hS, rfl⟩, _, _, rfl, ⟨by decide, by decide, by omega, by rw [B9]; omega⟩, ?_⟩
  rw [B9]
  refine cz (n := ((ns.length : Int) - 4).toNat) (fun i σ Hx => ∃ (x : Option V) (cs : List Int), σ = [some (.ref a), some (.int sz), some (.int m), y', some (.ref l), x] /\ Same H Hx /\ Hx l = some (.lst (cs.map V.int)) /\ cs.length = sz) ⟨_, cs, rfl, s3, hl3, lc⟩ ?_ ?_
  ·rintro i σ Hx hi ⟨x, cs, rfl, sx, hlx, lc⟩
   have e1 : (4 : Int) + (i : Int) = ((4 + i : Nat) : Int) := by omega
   obtain ⟨n, hn, en⟩ := qB ((4 : Int) + (i : Int) - 4) sz0
   have hi4 : 4 + i < ns.length := by omega
   refine ⟨_, rfl, _, rfl, a, _, _, _, rfl, rfl, sx.seq hS, (by rw [e1]; exact br hi4), _, rfl, _, rfl, _, _, rfl, rfl, _, rfl, _, _, rfl, rfl, (show (0 : Int) < (sz : Int) by omega), l, _, _, n, rfl, rfl, hlx, (by rw [en]; exact gY (by rw [B9]; omega)), ?_⟩
   exact ⟨_, cs.set n _, rfl, sx.put nl0, by rw [ab, List.map_set], by rw [Dw, lc]⟩
  rintro σ H4 ⟨x, cs, rfl, s4, hl4, lc⟩
  exact ⟨_, rfl, q l cs H4 s4 nl0 hl4 lc⟩
def eQ (K : PySem.W.Frag) : Sp := fun vs H Q _ => ∃ (i : Int), vs = [.int i] /\ Q (.bl true) H
theorem nZ : FnScope ["found"] ["found"] (aq fz) := ⟨rfl, rfl, rfl, by decide +kernel, rfl, by decide +kernel, by decide +kernel⟩
theorem ic (D : Dfs K mg aF dF) (T : Txt mg) : FnOk P w K mg base aZ 1 (aF 29) (dF 29) ["found"] (eQ K) := by
 refine D.law_whole.fn.ok nZ (fun vs H Q E h => ?_) (fun cdv A outer s H vs Q E hr h => ?_)
 ·obtain ⟨i, rfl, _⟩ := h; rfl
 ·have hu := aV hr
  obtain ⟨i, rfl, q⟩ := h
  refine ⟨_, (aj (aw (mK (av (wW K) (by rfl) T.z_isinstance boot_isinstance (aa (pv 0) (aa (yO T.z_int) ae))) (jJ (yq (av (wW K) (by rfl) T.z_isinstance boot_isinstance (aa (pv 0) (aa (wQ T.z_bool) ae)))))))), ?_⟩
  exact ⟨_, rfl, _, _, _, true, rfl, .int _, rfl, _, rfl, bH ⟨_, rfl, _, _, _, false, rfl, .int _, rfl, _, rfl, q⟩⟩
def gf (K : PySem.W.Frag) : Sp := fun vs H Q _ => ∃ (a : Addr) (cs : List Int) (gap hi : Int), vs = [.ref a, .int gap, .int hi] /\ SqL K H a (cs.map V.int) /\ cs.length <= 20 /\ 0 < gap /\ gap <= 50000000000000000 /\ ∀ l (bs : List Int) H', Same H H' -> H l = none -> H' l = some (.lst (bs.map V.int)) -> bs.length = cs.length -> bs.Pairwise (· < ·) -> (∀ b ∈ bs, 1 <= b /\ b <= 10 ^ 18) -> Q (.ref l) H'
theorem ck : FnScope ["cells", "gap", "high", "found", "badge", "cell"] ["cells", "gap", "high"] (aq eL) := ⟨rfl, rfl, rfl, by decide +kernel, rfl, by decide +kernel, by decide +kernel⟩
theorem lE (D : Dfs K mg aF dF) (T : Txt mg) : FnOk P w K mg base aZ 1 (aF 30) (dF 30) ["cells", "gap", "high"] (gf K) := by
 refine D.law_badges.fn.ok ck (fun vs H Q E h => ?_) (fun cdv A outer s H vs Q E hr h => ?_)
 ·obtain ⟨a, cs, gap, hi, rfl, _⟩ := h; rfl
 ·have hu := aV hr
  obtain ⟨a, cs, gap, hi, rfl, hS, hl, g0, g1, q⟩ := h
  refine ⟨_, (af (ar (i := 3) ck.nd rfl (Or.inl rfl) (aL ae))
   (af (ar (i := 4) ck.nd rfl (Or.inl rfl) ag)
   (af (bc PassesOwn.never rfl (iq K (pv 0)) (ao (i := 5) ck.nd rfl (Or.inl rfl))
    (af (ar (i := 4) ck.nd rfl (Or.inl rfl) (ay aU (ay aU (pv 4) ag) (ay bG (pv 5) (pv 1))))
    (aj (bR (dS PySem.F.plainAttrs_list PySem.F.slot_list_append PySem.F.type_list_append bI (pv 3) (aa (pv 4) ae))))))
   (af (aW (aA b6 (pv 2) ag (aB _))
    (aj (aw (aO ["one"] [none] rfl (y6 K rfl T.z_reversed (aa (pv 3) ae)) (fun _ => ao (i := 0) (aP (N := ["one"]) (by decide +kernel)) rfl (Or.inl rfl)) (fun _ => a9) (fun _ => (ay jM (ay aU (ay jN ag ag) ag) (pv 0))) ((.cons (fun _ e => by cases e) .nil)))))
    aD)
   (aj (aw (pv 3))))))), ?_⟩
  refine ⟨bY, fun l nl => ?_⟩
  refine ⟨_, rfl, a, rfl, ⟨_, (Same.new nl).seq hS⟩, ?_⟩
  refine bK (K := K) (a := a) (xs := cs.map V.int) (fun i σ Hx => ∃ (b : Int) (y : Option V) (bs : List Int), σ = [some (.ref a), some (.int gap), some (.int hi), some (.ref l), some (.int b), y] /\ Same H Hx /\ Hx l = some (.lst (bs.map V.int)) /\ bs.length = i /\ bs.Pairwise (· < ·) /\ (∀ x ∈ bs, 1 <= x /\ x <= b) /\ 0 <= b /\ b <= (i : Int) * gap) ⟨0, none, [], rfl, Same.new nl, ab, rfl, .nil, (fun _ z => by cases z), Int.le_refl _, by simp⟩ (fun i σ Hx _ hq__ => by obtain ⟨_, _, _, _, s, _⟩ := hq__; exact s.seq hS) ?_ ?_
  ·rintro i y σ Hx hix ⟨b, y', bs, rfl, sx, hlx, lb, up, hb, b0, b1⟩
   obtain ⟨d, hd, rfl, ed⟩ := iI hix
   have w1 := DK d (show gap ≠ 0 by omega)
   have w2 := DS d g0
   have hi' := (Cc.mp hd).1
   refine ⟨_, rfl, _, _, rfl, rfl, _, rfl, _, rfl, _, _, rfl, rfl, g0, _, _, rfl, rfl, ?_⟩
   refine ⟨_, rfl, .inl ⟨rfl, _, SqL.of hlx⟩, _, rfl, l, _, _, rfl, rfl, hlx, i4 (by rw [B9]; omega), ?_⟩
   have em : ((i + 1 : Nat) : Int) * gap = (i : Int) * gap + gap := by rw [Int.natCast_add, Int.add_mul]; simp
   refine ⟨_, _, bs ++ [b + 1 + d % gap], rfl, sx.put nl, by rw [ab, Cn]; rfl, by rw [Ck, Cp, lb], rJ up (fun x hx => by have := hb x hx; omega), fun x hx => ?_, by omega, by omega⟩
   rcases CC.mp hx with z | z
   ·have := hb x z; omega
   ·rw [Cm.mp z]; omega
  rintro σ H1 ⟨b, y', bs, rfl, s1, hl1, lb, up, hb, b0, b1⟩
  rw [B9] at lb b1
  have b18 : b <= 1000000000000000000 := by
   have h1 : (cs.length : Int) * gap <= 20 * gap := Int.mul_le_mul_of_nonneg_right (by omega) (by omega)
   omega
  refine ⟨_, rfl, rfl, _, rfl, wZ (fun e => ?_) fun ne => ?_⟩
  ·refine ⟨_, rfl, l, _, rfl, SqL.of hl1, ?_⟩
   refine vi (fun x => .int (10 ^ 18 + 1 - x)) (SqL.of hl1) (by omega) (fun i x hx H2 R s2 k => ?_) fun acc H2 s2 nacc hacc => ?_
   ·walk_at "go"
    exact k H2 (Same.refl _)
   ·have em : bs.reverse.map (fun x => V.int (10 ^ 18 + 1 - x)) = (bs.reverse.map fun x => (10 ^ 18 + 1 - x : Int)).map V.int := by rw [CB]; rfl
    rw [em] at hacc
    refine q acc _ H2 (s1.trans s2) (s1.free nacc) hacc (by rw [B9, List.length_reverse, lb]) (y8 _ up) fun x hx => ?_
    obtain ⟨z, hz, rfl⟩ := Ci.mp hx
    have := hb z (List.mem_reverse.mp hz)
    omega
  ·refine ⟨_, rfl, q l bs H1 s1 nl hl1 lb up fun x hx => ?_⟩
   have := hb x hx
   omega
def jg (K : PySem.W.Frag) : Sp := fun vs H Q _ => ∃ (a b : Addr) (cs bs : List Int) (dn tp : Int) (cn : Nat), vs = [.ref a, .ref b, .int dn, .int tp, .int ((cn : Nat) : Int)] /\ SqL K H a (cs.map V.int) /\ SqL K H b (bs.map V.int) /\ bs.Pairwise (· < ·) /\ 0 < tp /\ cn <= 6 /\ bs.length <= 20 /\ cn * bs.length <= cs.length /\
 ∀ l rs rows H', Same H H' -> H l = none -> H' l = some (.lst (rs.map V.ref)) -> BillL H' rs rows -> rows.length = cn -> (∀ r ∈ rs, H r = none) -> (∀ row ∈ rows, RowOk bs tp row) -> Q (.ref l) H'
theorem cE : FnScope ["cells", "badges", "dense", "top", "count", "bill", "k", "pairs", "i", "cell"] ["cells", "badges", "dense", "top", "count"] (aq gA) := ⟨rfl, rfl, rfl, by decide +kernel, rfl, by decide +kernel, by decide +kernel⟩
theorem pN (D : Dfs K mg aF dF) (T : Txt mg) : FnOk P w K mg base aZ 1 (aF 31) (dF 31) ["cells", "badges", "dense", "top", "count"] (jg K) := by
 refine D.law_bill.fn.ok cE (fun vs H Q E h => ?_) (fun cdv A outer s H vs Q E hr h => ?_)
 ·obtain ⟨a, b, cs, bs, dn, tp, cn, rfl, _⟩ := h; rfl
 ·have hu := aV hr
  obtain ⟨a, b, cs, bs, dn, tp, cn, rfl, hA, hB, up, tp0, c6, b20, cb, q⟩ := h
  refine ⟨_, (af (ar (i := 5) cE.nd rfl (Or.inl rfl) (aL ae))
   (af (bc PassesOwn.never rfl (bp rfl T.z_range (aa (pv 4) ae)) (ao (i := 6) cE.nd rfl (Or.inl rfl))
    (af (ar (i := 7) cE.nd rfl (Or.inl rfl) (aL ae))
    (af (bc PassesOwn.never rfl (bp rfl T.z_range (aa (av (bZ K) (by rfl) T.z_len boot_len (aa (pv 1) ae)) ae)) (ao (i := 8) cE.nd rfl (Or.inl rfl))
     (af (ar (i := 9) cE.nd rfl (Or.inl rfl) (ax (c7 K) (pv 0) (ay aU (ay eD (pv 6) (av (bZ K) (by rfl) T.z_len boot_len (aa (pv 1) ae))) (pv 8)) (fun _ _ => rfl)))
     (aj (aW (aA xW (ay bG (pv 9) ag) (pv 2) (aB _))
      (aj (bR (dS PySem.F.plainAttrs_list PySem.F.slot_list_append PySem.F.type_list_append bI (pv 7) (aa (aE (aa (ax (c7 K) (pv 1) (pv 8) (fun _ _ => rfl)) (aa (ay bG (ay cO (pv 9) ag) (pv 3)) ae))) ae))))
      aD))))
    (aj (bR (dS PySem.F.plainAttrs_list PySem.F.slot_list_append PySem.F.type_list_append bI (pv 5) (aa (pv 7) ae)))))))
   (aj (aw (pv 5))))), ?_⟩
  refine ⟨bY, fun l nl => ?_⟩
  refine ⟨_, rfl, _, rfl, iK _, by omega, ?_⟩
  rw [CV]
  refine cz (n := cn) (fun k σ Hx => ∃ (x1 x2 x3 x4 : Option V) (rs : List Addr) (rows : List (List (Int × Int))), σ = [some (.ref a), some (.ref b), some (.int dn), some (.int tp), some (.int cn), some (.ref l), x1, x2, x3, x4] /\ Same H Hx /\ Hx l = some (.lst (rs.map V.ref)) /\ BillL Hx rs rows /\ rows.length = k /\ (∀ r ∈ rs, H r = none /\ r ≠ l) /\ ∀ row ∈ rows, RowOk bs tp row) ⟨none, none, none, none, [], [], rfl, Same.new nl, ab, .nil, rfl, (fun _ z => by cases z), fun _ z => by cases z⟩ ?_ ?_
  ·rintro k σ Hk hk ⟨x1, x2, x3, x4, rs, rows, rfl, sk, hlk, bk, lr, nr, ok⟩
   refine ⟨bY, fun p np => ?_⟩
   have hlp : l ≠ p := ak hlk np
   have skp := Same.new (o := .lst []) np
   refine ⟨_, rfl, _, _, rfl, .inl ⟨_, (sk.trans skp).seq hB, rfl⟩, _, rfl, iK _, by rw [B9]; omega, ?_⟩
   have e0 : (((bs.map V.int).length : Nat) : Int).toNat = bs.length := by rw [B9]; omega
   rw [e0]
   refine cz (n := bs.length) (fun i σ Hx => ∃ (x3 x4 : Option V) (ps : List Addr) (row : List (Int × Int)), σ = [some (.ref a), some (.ref b), some (.int dn), some (.int tp), some (.int cn), some (.ref l), some (.int (0 + (k : Int))), some (.ref p), x3, x4] /\ Same Hk Hx /\ Hx p = some (.lst (ps.map V.ref)) /\ TupsL Hx ps row /\ (row.map (·.1)).Pairwise (· < ·) /\ (∀ x ∈ row, x.1 ∈ bs.take i /\ 0 <= x.2 /\ x.2 < tp) /\ row.length <= i) ⟨x3, x4, [], [], rfl, skp, ab, .nil, .nil, (fun _ z => by cases z), CK _⟩ ?_ ?_
   ·rintro i σ Hx hi ⟨x3, x4, ps, row, rfl, sx, hpx, tx, ux, ix, lx⟩
    have s0x := sk.trans sx
    have hki : k * bs.length + i < cs.length := by
     have h1 : k * bs.length + bs.length <= cn * bs.length := by
      have := Nat.mul_le_mul_right bs.length (show k + 1 <= cn from hk)
      rw [Nat.add_mul, Nat.one_mul] at this
      exact this
     omega
    have kb : k * bs.length <= 120 := Nat.mul_le_mul (show k <= 6 by omega) b20
    have ei : ((0 : Int) + (k : Int)) * ((bs.map V.int).length : Int) + (0 + (i : Int)) = ((k * bs.length + i : Nat) : Int) := by rw [B9, Int.natCast_add, Int.natCast_mul, Int.zero_add, Int.zero_add]
    have hbi : bs[i]? = some bs[i] := Ca hi
    refine ⟨_, rfl, _, rfl, _, rfl, _, _, rfl, .inl ⟨_, s0x.seq hB, rfl⟩, _, _, rfl, rfl, .inl ⟨by omega, by omega⟩, _, rfl, _, _, rfl, rfl, a, _, _, _, rfl, rfl, s0x.seq hA, (by rw [ei]; exact br hki), ?_⟩
    refine ⟨_, rfl, _, _, rfl, rfl, (show (0 : Int) < 5 by decide), _, rfl, _, _, rfl, rfl, _, rfl, Ah (fun le => ?_) fun _ => ?_⟩
    ·refine ⟨_, rfl, .inl ⟨rfl, _, SqL.of hpx⟩, _, rfl, _, rfl, b, _, _, _, rfl, rfl, s0x.seq hB, (by rw [show (0 : Int) + (i : Int) = ((i : Nat) : Int) by omega]; exact br hi), _, rfl, _, _, rfl, rfl, (show mN _ 5 from ⟨by decide, by decide⟩), _, rfl, _, _, rfl, rfl, tp0, bY, fun t nt => ?_⟩
     have hpt : p ≠ t := ak hpx nt
     have stx := Same.new (o := .tup [.int (bs.getD i 0), .int (cs.getD (k * bs.length + i) 0 / 5 % tp)]) nt
     have hpx' := stx _ _ hpx
     refine ⟨p, _, _, rfl, rfl, hpx', i4 (by rw [B9, tx.len]; omega), ?_⟩
     have w1 := DK (cs.getD (k * bs.length + i) 0 / 5) (show tp ≠ 0 by omega)
     have w2 := DS (cs.getD (k * bs.length + i) 0 / 5) tp0
     have eg : bs.getD i 0 = bs[i] := by rw [Cb, hbi]; rfl
     refine ⟨_, _, ps ++ [t], row ++ [(bs.getD i 0, cs.getD (k * bs.length + i) 0 / 5 % tp)], rfl, (sx.trans stx).put np, by rw [ab, Cn]; rfl, TupsL.but (cu (tx.same stx) (show b7 _ t (bs.getD i 0, cs.getD (k * bs.length + i) 0 / 5 % tp) from ab)) hpx', ?_, ?_, by rw [Ck, Cp]; omega⟩
     ·rw [Cn]
      refine rJ ux fun y hy => ?_
      obtain ⟨x, hx, rfl⟩ := Ci.mp hy
      show x.1 < bs.getD i 0
      rw [eg]
      exact xo up hbi _ (ix x hx).1
     ·intro x hx
      rw [Dp, hbi]
      rcases CC.mp hx with z | z
      ·exact ⟨CA _ (ix x z).1, (ix x z).2⟩
      ·rw [Cm.mp z]
       exact ⟨CJ _ (by rw [eg]; simp), w1, w2⟩
    ·refine ⟨_, _, ps, row, rfl, sx, hpx, tx, ux, fun x hx => ⟨?_, (ix x hx).2⟩, by omega⟩
     rw [Dp]
     exact CA _ (ix x hx).1
   rintro σ H2 ⟨x3, x4, ps, row, rfl, s2, hp2, t2, u2, i2, l2⟩
   rw [C0] at i2
   have hl2 := s2 _ _ hlk
   refine ⟨_, rfl, .inl ⟨rfl, _, SqL.of hl2⟩, _, rfl, l, _, _, rfl, rfl, hl2, i4 (by rw [B9, bk.len]; omega), ?_⟩
   have nrl : l ∉ rs := fun z => (nr l z).2 rfl
   refine ⟨_, _, _, _, rs ++ [p], rows ++ [row], rfl, (sk.trans s2).put nl, by rw [ab, Cn]; rfl, ?_, by rw [Ck, Cp, lr], ?_, ?_⟩
   ·exact cu ((bk.same s2).but hl2 nrl) (RowAt.but ⟨ps, hp2, t2⟩ hl2 fun z => hlp z.symm)
   ·intro r hr
    rcases CC.mp hr with z | z
    ·exact nr r z
    ·rw [Cm.mp z]; exact ⟨sk.free np, fun z => hlp z.symm⟩
   ·intro x hx
    rcases CC.mp hx with z | z
    ·exact ok x z
    ·rw [Cm.mp z]; exact ⟨u2, i2, l2⟩
  rintro σ H2 ⟨x1, x2, x3, x4, rs, rows, rfl, s2, hl2, b2, lr, nr, ok⟩
  exact ⟨_, rfl, q l rs rows H2 s2 nl hl2 b2 lr (fun r hr => (nr r hr).1) ok⟩
theorem xR (c : Int) : ∃ d : Int, lM [V.int 2, V.int 3, V.int 6] (c % 3) = some (.int d) /\ 0 < d /\ d <= 6 := by
 rcases (show c % 3 = 0 \/ c % 3 = 1 \/ c % 3 = 2 by omega) with e | e | e
 ·rw [e]; exact ⟨2, rfl, by decide, by decide⟩
 ·rw [e]; exact ⟨3, rfl, by decide, by decide⟩
 ·rw [e]; exact ⟨6, rfl, by decide, by decide⟩
def fI (K : PySem.W.Frag) : Sp := fun vs H Q _ => ∃ (c : Addr) (cs : List Int) (cn : Nat), vs = [.ref c, .int (cn : Int)] /\ SqL K H c (cs.map V.int) /\ cs.length <= 200 /\ 1 <= cn /\ cn <= 6 /\ ∀ (l : Addr) (ts : List (Addr × Addr × Str × Int × List Nat)) (H' : Hp), Same H H' -> H l = none -> H' l = some (.lst (ts.map fun x => V.ref x.1)) -> (∀ x ∈ ts, TieT H' x /\ TieG cn x) -> ts.length = cs.length / 3 -> Q (.ref l) H'
theorem cR : FnScope ["cells", "count", "ties", "k", "steps"] ["cells", "count"] (aq gB) := ⟨rfl, rfl, rfl, by decide +kernel, rfl, by decide +kernel, by decide +kernel⟩
theorem jh (D : Dfs K mg aF dF) (T : Txt mg) : FnOk P w K mg base aZ 1 (aF 32) (dF 32) ["cells", "count"] (fI K) := by
 refine D.law_ties.fn.ok cR (fun vs H Q E h => ?_) (fun cdv A outer s H vs Q E hr h => ?_)
 ·obtain ⟨c, cs, cn, rfl, _⟩ := h; rfl
 ·have hu := aV hr
  obtain ⟨c, cs, cn, rfl, hc, c200, c1, c6, q⟩ := h
  refine ⟨_, (af (ar (i := 2) cR.nd rfl (Or.inl rfl) (aL ae))
   (af (bc PassesOwn.never rfl (qJ rfl T.z_range (aa ag (aa (ay jM (av (bZ K) (by rfl) T.z_len boot_len (aa (pv 0) ae)) ag) (aa ag ae)))) (ao (i := 3) cR.nd rfl (Or.inr rfl))
    (af (fP (i₀ := 4) cR.nd rfl (Or.inl rfl) ["step", "cells", "k"] [none, some 0, some 3] rfl (bp rfl T.z_range (aa (pv 1) ae)) (fun _ => ao (i := 0) (aP (N := ["step", "cells", "k"]) (by decide +kernel)) rfl (Or.inl rfl)) (fun _ => fO (aA b6 (ay bG (ay yB (ax (c7 K) (pv 1) (pv 2) (fun _ _ => rfl)) (pv 0)) ag) ag (aB _))) (fun _ => (pv 0)) ((.cons (fun _ e => by cases e) (.cons (fun _ e => by cases e; exact ⟨rfl, rfl⟩) (.cons (fun _ e => by cases e; exact ⟨rfl, rfl⟩) .nil)))))
    (w4 (aW (aA (BI K hr.units) (pv 4) (aL ae) (aB _))
     (aj (ar (i := 4) cR.nd rfl (Or.inl rfl) (aL (aa (ay bG (ax (c7 K) (pv 0) (ay aU (pv 3) ag) (fun _ _ => rfl)) (pv 1)) ae))))
     aD)
    (aj (aW (aA b6 (ay bG (ay cO (ax (c7 K) (pv 0) (ay aU (pv 3) ag) (fun _ _ => rfl)) ag) ag) ag (aB _))
     (aj (bR (dS PySem.F.plainAttrs_list PySem.F.slot_list_append PySem.F.type_list_append bI (pv 2) (aa (aE (aa aY (aa (av (sd rfl) (by rfl) T.z_min boot_min (aa ag (aa (ay aU ag (ay bG (ax (c7 K) (pv 0) (ay aU (pv 3) ag) (fun _ _ => rfl)) (ay aU (av (bZ K) (by rfl) T.z_len boot_len (aa (pv 4) ae)) ag))) ae))) (aa (bq fX (by rfl) T.z_tuple boot_tuple (aa (pv 4) ae)) ae)))) ae))))
     (aj (bR (dS PySem.F.plainAttrs_list PySem.F.slot_list_append PySem.F.type_list_append bI (pv 2) (aa (aE (aa aY (aa (ay aU ag (ay bG (ax (c7 K) (pv 0) (ay aU (pv 3) ag) (fun _ _ => rfl)) (ax (c7 K) (aL (aa ag (aa ag (aa ag ae)))) (ay bG (ay cO (ax (c7 K) (pv 0) (ay aU (pv 3) ag) (fun _ _ => rfl)) ag) ag) (fun _ _ => rfl)))) (aa (bq fX (by rfl) T.z_tuple boot_tuple (aa (pv 4) ae)) ae)))) ae)))))))))
   (aj (aw (pv 2))))), ?_⟩
  refine ⟨bY, fun l nl => ?_⟩
  have sn := Same.new (o := .lst []) nl
  refine ⟨_, rfl, _, cs.length, rfl, .inl ⟨_, sn.seq hc, by rw [B9]⟩, _, _, rfl, rfl, 0, (cs.length : Int) - 2, 3, rfl, by decide, by decide, by omega, by omega, by decide, by decide, ?_⟩
  obtain ⟨n, en, hn⟩ : ∃ n : Nat, (if (0 : Int) < (cs.length : Int) - 2 then ((cs.length : Int) - 2 - 0 - 1) / 3 + 1 else 0).toNat = n /\ n = cs.length / 3 := ⟨_, rfl, by split <;> omega⟩
  rw [en]
  refine uU (n := n) (fun i σ Hx => ∃ (x y : Option V) (ts : List (Addr × Addr × Str × Int × List Nat)), σ = [some (.ref c), some (.int (cn : Int)), some (.ref l), x, y] /\ Same H Hx /\ Hx l = some (.lst (ts.map fun x => V.ref x.1)) /\ (∀ x ∈ ts, TieT Hx x /\ TieG cn x) /\ ts.length = i) ⟨none, none, [], rfl, sn, ab, (fun _ z => by cases z), rfl⟩ ?_ ?_
  ·rintro i σ Hx hi ⟨x, y, ts, rfl, sx, hl, tt, tl⟩
   have i3 : 3 * i + 2 < cs.length := by omega
   have ek : (0 : Int) + (i : Int) * 3 = ((3 * i : Nat) : Int) := by omega
   rw [ek]
   have a0 : lM (cs.map V.int) ((3 * i : Nat) : Int) = some (.int (cs.getD (3 * i) 0)) := br (by omega)
   have a1 : lM (cs.map V.int) (((3 * i : Nat) : Int) + 1) = some (.int (cs.getD (3 * i + 1) 0)) := br (j := 3 * i + 1) (by omega)
   have a2 : lM (cs.map V.int) (((3 * i : Nat) : Int) + 2) = some (.int (cs.getD (3 * i + 2) 0)) := br (j := 3 * i + 2) i3
   generalize cs.getD (3 * i) 0 = d0 at a0
   generalize cs.getD (3 * i + 1) 0 = d1 at a1
   generalize cs.getD (3 * i + 2) 0 = d2 at a2
   refine ⟨_, rfl, _, rfl, iK _, by omega, ?_⟩
   rw [CV]
   refine iG (n := cn) (fun j => decide (d0 / 2 ^ j % 2 = 1)) (by omega) (fun j hj H3 R s3 k => ?_) (fun j hj H3 R k => ?_) fun sl H3 s3 nsl hsl => ?_
   ·have ei : (0 : Int) + (j : Int) = ((j : Nat) : Int) := by omega
    rw [ei]
    have kk : ∀ H4, Same H3 H4 -> R (decide (d0 / 2 ^ j % 2 = 1)) H4 := k
    refine ⟨_, rfl, _, rfl, c, _, _, _, rfl, rfl, (sx.trans s3).seq hc, a0, _, rfl, _, _, rfl, rfl, (show (0 : Int) <= (j : Int) by omega), _, _, rfl, rfl, (show (0 : Int) < 2 by decide), rfl, _, rfl, ?_⟩
    have z := kk H3 (Same.refl _)
    rw [<- Bu] at z
    exact z
   ·have ei : (0 : Int) + (j : Int) = ((j : Nat) : Int) := by omega
    rw [ei]
    exact ⟨_, rfl, k⟩
   have hst : ∀ j ∈ ((Cf cn).filter fun j => decide (d0 / 2 ^ j % 2 = 1)), j < cn := fun j hj => CD.mp (CG.mp hj).1
   have hup : ((Cf cn).filter fun j => decide (d0 / 2 ^ j % 2 = 1)).Pairwise (· < ·) := List.Pairwise.filter _ List.pairwise_lt_range
   have hle : ((Cf cn).filter fun j => decide (d0 / 2 ^ j % 2 = 1)).length <= 6 := CO (CT _ _) (by rw [CP]; exact c6)
   generalize (Cf cn).filter (fun j => decide (d0 / 2 ^ j % 2 = 1)) = st at hsl hst hup hle
   refine ⟨fun σ H5 => ∃ (sl' : Addr) (st : List Nat), σ = [some (.ref c), some (.int (cn : Int)), some (.ref l), some (.int ((3 * i : Nat) : Int)), some (.ref sl')] /\ Same Hx H5 /\ H5 sl' = some (.lst (st.map fun (i : Nat) => V.int (i : Int))) /\ st ≠ [] /\ (∀ i ∈ st, i < cn) /\ st.Pairwise (· < ·) /\ st.length <= 6, ?_, ?_⟩
   ·refine ⟨_, rfl, bY, fun p np => ?_⟩
    have s4 := Same.new (o := .lst []) np
    have s04 := s3.trans s4
    cases hs : st with
    | nil =>
     rw [hs] at hsl
     refine ⟨1, true, jA (SqL.of (s4 _ _ hsl)) (SqL.of ab), by decide, rfl, _, rfl, bH ?_⟩
     obtain ⟨m, hm, em⟩ := qB d1 (n := cn) (by omega)
     refine ⟨_, rfl, _, rfl, _, _, rfl, rfl, c, _, _, _, rfl, rfl, (sx.trans s04).seq hc, a1, _, rfl, _, _, rfl, rfl, (show (0 : Int) < ((cn : Nat) : Int) by omega), bY, fun l2 nl2 => ?_⟩
     refine ⟨l2, [m], rfl, s04.to nl2, ?_, by simp, fun i hi => by rw [Cm.mp hi]; exact hm, DE _ _, by simp⟩
     rw [ab]
     dsimp only
     rw [em]
     rfl
    | cons j r =>
     rw [hs] at hsl
     refine ⟨1, false, jA (SqL.of (s4 _ _ hsl)) (SqL.of ab), by decide, rfl, _, rfl, bz ?_⟩
     rw [hs] at hst hup hle
     exact ⟨sl, j :: r, rfl, s04, s4 _ _ hsl, by simp, hst, hup, hle⟩
   ·rintro σ H5 ⟨sl', st, rfl, s5, hsl, sne, slt, sup, sle⟩
    have s05 := sx.trans s5
    have hl5 := s5 _ _ hl
    have tt5 : ∀ x ∈ ts, TieT H5 x /\ TieG cn x := fun x hx => ⟨(tt x hx).1.same s5, (tt x hx).2⟩
    have fin : ∀ (wd : Str) (k : Int) (t tp : Addr) (H6 : Hp), (wd = "most" \/ wd = "least") -> 1 <= k -> k <= 6 -> Same H5 H6 -> H6 t = none -> az H6 t (.tup (st.map fun (i : Nat) => V.int (i : Int))) tp = none -> ∀ H7, H7 = az (az H6 t (.tup (st.map fun (i : Nat) => V.int (i : Int)))) tp (.tup [.str wd, .int k, .ref t]) ->
      Same H5 H7 /\ TieT H7 (tp, t, wd, k, st) /\ TieG cn (tp, t, wd, k, st) := fun wd k t tp H6 hw k1 k6 s6 nt ntp H7 e7 => by
     have ntt : t ≠ tp := fun z => by rw [<- z, ab] at ntp; cases ntp
     subst e7
     exact ⟨(s6.to nt).to ntp, ⟨ab, by show az _ tp _ t = _; rw [ah ntt]; exact ab, hw, sle⟩, ⟨k1, k6, sne, slt, sup⟩⟩
    have put : ∀ (z : Addr × Addr × Str × Int × List Nat) (H7 : Hp), Same H5 H7 -> TieT H7 z -> TieG cn z -> ∃ (x y : Option V) (ts' : List (Addr × Addr × Str × Int × List Nat)), [some (V.ref c), some (.int (cn : Int)), some (.ref l), some (.int ((3 * i : Nat) : Int)), some (.ref sl')] = [some (.ref c), some (.int (cn : Int)), some (.ref l), x, y] /\ Same H (az H7 l (.lst (ts.map (fun x => V.ref x.1) ++ [V.ref z.1]))) /\ az H7 l (.lst (ts.map (fun x => V.ref x.1) ++ [V.ref z.1])) l = some (.lst (ts'.map fun x => V.ref x.1)) /\ (∀ x ∈ ts', TieT (az H7 l (.lst (ts.map (fun x => V.ref x.1) ++ [V.ref z.1]))) x /\ TieG cn x) /\ ts'.length = i + 1 := fun z H7 s7 tz gz =>
     ⟨_, _, ts ++ [z], rfl, (s05.trans s7).put nl, by rw [ab, Cn]; rfl, fun x hx => by
      have h7 := s7 _ _ hl5
      rcases CC.mp hx with y | y
      ·exact ⟨((tt5 x y).1.same s7).put h7, (tt5 x y).2⟩
      ·rw [Cm.mp y]; exact ⟨tz.put h7, gz⟩, by rw [Ck, Cp, tl]⟩
    have tl100 : ts.length < 100000 := by omega
    refine ⟨_, rfl, _, rfl, _, _, rfl, rfl, c, _, _, _, rfl, rfl, s05.seq hc, a1, _, _, rfl, rfl, (show mN _ 6 from ⟨by decide, by decide⟩), _, _, rfl, rfl, (show (0 : Int) < 2 by decide), rfl, _, rfl, wZ (fun _ => ?_) fun _ => ?_⟩
    ·have k0 := DK d2 (show (st.length : Int) + 1 ≠ 0 by omega)
     refine ⟨_, rfl, .inl ⟨rfl, _, SqL.of hl5⟩, _, rfl, _, rfl, _, _, rfl, rfl, c, _, _, _, rfl, rfl, s05.seq hc, a2, _, rfl, _, st.length, rfl, .inl ⟨_, SqL.of hsl, by rw [B9]⟩, _, _, rfl, rfl, _, _, rfl, rfl, (show (0 : Int) < (st.length : Int) + 1 by omega), _, _, rfl, rfl, _, _, rfl, _, rfl, sl', _, rfl, .inl ⟨SqL.of hsl, fun t nt => ⟨bY, fun tp ntp => ?_⟩⟩⟩
     obtain ⟨s7, tz, gz⟩ := fin "least" (if 1 + d2 % ((st.length : Int) + 1) < 6 then 1 + d2 % ((st.length : Int) + 1) else 6) t tp H5 (.inr rfl) (by split <;> omega) (by split <;> omega) (Same.refl _) nt ntp _ rfl
     have h7 := s7 _ _ hl5
     exact ⟨l, _, _, rfl, rfl, h7, i4 (by rw [B9]; exact tl100), put _ _ s7 tz gz⟩
    ·obtain ⟨dm, hdm, m0, m6⟩ := xR (d2 / 6)
     have k1 := DK d2 (show dm ≠ 0 by omega)
     have k2 := DS d2 m0
     refine ⟨_, rfl, .inl ⟨rfl, _, SqL.of hl5⟩, _, rfl, _, rfl, _, _, rfl, rfl, c, _, _, _, rfl, rfl, s05.seq hc, a2, bY, fun pa npa => ?_⟩
     have s6 := Same.new (o := .lst [V.int 2, V.int 3, V.int 6]) npa
     refine ⟨_, rfl, _, rfl, _, _, rfl, rfl, c, _, _, _, rfl, rfl, (s05.trans s6).seq hc, a2, _, _, rfl, rfl, (show mN _ 6 from ⟨by decide, by decide⟩), _, _, rfl, rfl, (show (0 : Int) < 3 by decide), pa, _, _, _, rfl, rfl, SqL.of ab, hdm, _, _, rfl, rfl, m0, _, _, rfl, rfl, _, rfl, sl', _, rfl, .inl ⟨SqL.of (s6 _ _ hsl), fun t nt => ⟨bY, fun tp ntp => ?_⟩⟩⟩
     obtain ⟨s7, tz, gz⟩ := fin "most" _ t tp _ (.inl rfl) (show (1 : Int) <= 1 + d2 % dm by omega) (by omega) s6 nt ntp _ rfl
     have h7 := s7 _ _ hl5
     exact ⟨l, _, _, rfl, rfl, h7, i4 (by rw [B9]; exact tl100), put _ _ s7 tz gz⟩
  ·rintro σ Hx ⟨x, y, ts, rfl, sx, hl, tt, tl⟩
   exact ⟨_, rfl, q l ts Hx sx nl hl tt (by omega)⟩
def ji (K : PySem.W.Frag) : Sp := fun vs H Q _ => ∃ (a sa ta : Addr) (ns : List Int) (sz : List (Int × Int)) (tl : List Int), vs = [.ref a, .ref sa, .ref ta] /\ SqL K H a (ns.map V.int) /\ ns.length <= 63 /\ RowAt H sa sz /\ 0 < sz.length /\ (∀ x ∈ sz, 1 <= x.1 /\ x.1 <= 6 /\ 1 <= x.2 /\ x.2 <= 20) /\ SqL K H ta (tl.map V.int) /\ 0 < tl.length /\ (∀ x ∈ tl, 0 < x) /\
 ∀ (t l y : Addr) (rs : List Addr) (rows : bO) (bs : List Int) (ts : List (Addr × Addr × Str × Int × List Nat)) (tp : Int) (H' : Hp), Same H H' -> H t = none -> H' t = some (.tup [.ref l, .ref y]) -> H l = none -> H' l = some (.lst (rs.map V.ref)) -> BillL H' rs rows -> (∀ r ∈ rs, H r = none) -> (∃ x ∈ sz, (rows.length : Int) = x.1 /\ (bs.length : Int) = x.2) -> BillOk rows bs -> (∀ row ∈ rows, RowOk bs tp row) -> tp ∈ tl -> H y = none -> H' y = some (.lst (ts.map fun x => V.ref x.1)) -> (∀ x ∈ ts, TieT H' x /\ TieG rows.length x) -> ts.length <= 12 -> Q (.ref t) H'
theorem bj : FnScope ["script", "sizes", "tops", "head", "count", "many", "bonds", "here", "cells", "gap", "badges", "dense", "top"] ["script", "sizes", "tops"] (aq gC) := ⟨rfl, rfl, rfl, by decide +kernel, rfl, by decide +kernel, by decide +kernel⟩
theorem pO (D : Dfs K mg aF dF) (T : Txt mg) : FnOk P w K mg base aZ 2 (aF 33) (dF 33) ["script", "sizes", "tops"] (ji K) := by
 have Glaw_cell : FnOk P w K mg base aZ 1 (aF 27) (dF 27) ["script", "k"] (fG K) := jf D T
 have Glaw_entries : FnOk P w K mg base aZ 1 (aF 28) (dF 28) ["script", "size"] (fH K) := kZ D T
 have Glaw_badges : FnOk P w K mg base aZ 1 (aF 30) (dF 30) ["cells", "gap", "high"] (gf K) := lE D T
 have Glaw_bill : FnOk P w K mg base aZ 1 (aF 31) (dF 31) ["cells", "badges", "dense", "top", "count"] (jg K) := pN D T
 have Glaw_ties : FnOk P w K mg base aZ 1 (aF 32) (dF 32) ["cells", "count"] (fI K) := jh D T
 refine D.law_case.fn.ok bj (fun vs H Q E h => ?_) (fun cdv A outer s H vs Q E hr h => ?_)
 ·obtain ⟨a, sa, ta, ns, sz, tl, rfl, _⟩ := h; rfl
 ·have hu := aV hr
  obtain ⟨a, sa, ta, ns, sz, tl, rfl, hS, hl, hsz, szp, szo, htl, tlp, tlo, q⟩ := h
  refine ⟨_, (af (fP (i₀ := 3) bj.nd rfl (Or.inl rfl) ["k", "script"] [none, some 0] rfl (bp rfl T.z_range (aa ag ae)) (fun _ => ao (i := 0) (aP (N := ["k", "script"]) (by decide +kernel)) rfl (Or.inl rfl)) (fun _ => a9) (fun _ => (pc D.law_cell Glaw_cell (hr.mono (by decide)) (aa (pv 1) (aa (pv 0) ae)))) ((.cons (fun _ e => by cases e) (.cons (fun _ e => by cases e; exact ⟨rfl, rfl⟩) .nil))))
   (af (ff (ax (c7 K) (pv 1) (ay bG (ax (c7 K) (pv 3) ag (fun _ _ => rfl)) (av (bZ K) (by rfl) T.z_len boot_len (aa (pv 1) ae))) (fun _ _ => rfl)) (uE K rfl (aM (ao (i := 4) bj.nd rfl (Or.inl rfl)) (aM (ao (i := 5) bj.nd rfl (Or.inl rfl)) cG))))
   (af (ar (i := 6) bj.nd rfl (Or.inl rfl) (ax (c7 K) (aL (aa ag (aa ag (aa ag (aa ag (aa ag (aa ag (aa ag (aa ag ae))))))))) (ay bG (ax (c7 K) (pv 3) ag (fun _ _ => rfl)) ag) (fun _ _ => rfl)))
   (af (ar (i := 7) bj.nd rfl (Or.inl rfl) (ay eD (pv 4) (pv 5)))
   (af (ar (i := 8) bj.nd rfl (Or.inl rfl) (pc D.law_entries Glaw_entries (hr.mono (by decide)) (aa (pv 0) (aa (ay aU (ay aU (pv 7) (pv 5)) (ay eD ag (pv 6))) ae))))
   (af (ar (i := 9) bj.nd rfl (Or.inl rfl) (ax (c7 K) (aL (aa ag (aa ag (aa ag (aa (ay eD ag (ay jN ag ag)) ae))))) (ay bG (ax (c7 K) (pv 3) ag (fun _ _ => rfl)) ag) (fun _ _ => rfl)))
   (af (ar (i := 10) bj.nd rfl (Or.inl rfl) (pc D.law_badges Glaw_badges (hr.mono (by decide)) (aa (dR (zx K) (pv 8) (eE (pv 7)) (eE (ay aU (pv 7) (pv 5)))) (aa (pv 9) (aa (ay bG (ay cO (ax (c7 K) (pv 3) ag (fun _ _ => rfl)) ag) ag) ae)))))
   (af (ar (i := 11) bj.nd rfl (Or.inl rfl) (ax (c7 K) (aL (aa ag (aa ag (aa ag (aa ag (aa ag ae)))))) (ay bG (ay cO (ax (c7 K) (pv 3) ag (fun _ _ => rfl)) ag) ag) (fun _ _ => rfl)))
   (af (ar (i := 12) bj.nd rfl (Or.inl rfl) (ax (c7 K) (pv 2) (ay bG (ay cO (ax (c7 K) (pv 3) ag (fun _ _ => rfl)) ag) (av (bZ K) (by rfl) T.z_len boot_len (aa (pv 2) ae))) (fun _ _ => rfl)))
   (aj (aw (aE (aa (pc D.law_bill Glaw_bill (hr.mono (by decide)) (aa (pv 8) (aa (pv 10) (aa (pv 11) (aa (pv 12) (aa (pv 4) ae)))))) (aa (pc D.law_ties Glaw_ties (hr.mono (by decide)) (aa (dR (zx K) (pv 8) (eE (ay aU (pv 7) (pv 5))) gJ) (aa (pv 4) ae))) ae)))))))))))))), ?_⟩
  refine ⟨_, rfl, by decide, by decide, ?_⟩
  refine qg (n := 4) (fun k => .int (ns.getD k 0)) (by decide) (fun i hi H2 R s2 k => ?_) fun hd H1 s1 nhd hhd => ?_
  ·have ei : (0 : Int) + (i : Int) = ((i : Nat) : Int) := by omega
   rw [ei]
   exact ⟨_, rfl, _, rfl, a, ns, i, rfl, s2.seq hS, k H2 (Same.refl _)⟩
  have hg : ∀ j : Nat, j < 4 -> lM ((Cf 4).map fun k => V.int (ns.getD k 0)) (j : Int) = some (.int (ns.getD j 0)) := fun j hj => aX (by simp [hj])
  have g0 : lM ((Cf 4).map fun k => V.int (ns.getD k 0)) 0 = some (.int (ns.getD 0 0)) := hg 0 (by decide)
  have g1 : lM ((Cf 4).map fun k => V.int (ns.getD k 0)) 1 = some (.int (ns.getD 1 0)) := hg 1 (by decide)
  have g2 : lM ((Cf 4).map fun k => V.int (ns.getD k 0)) 2 = some (.int (ns.getD 2 0)) := hg 2 (by decide)
  generalize (Cf 4).map (fun k => V.int (ns.getD k 0)) = hL at hhd g0 g1 g2
  generalize ns.getD 0 0 = d0 at g0
  generalize ns.getD 1 0 = d1 at g1
  generalize ns.getD 2 0 = d2 at g2
  clear hg
  obtain ⟨ss, hss, tss⟩ := hsz.same s1
  have ssl : ss.length = sz.length := tss.len
  obtain ⟨im, him, eim⟩ := qB d0 szp
  obtain ⟨sp, hsp⟩ : ∃ sp, ss[im]? = some sp := ⟨_, Ca (by omega)⟩
  obtain ⟨z, hz, ez⟩ := b4 tss hsp
  have zm := Ce hz
  obtain ⟨z1, z2, z3, z4⟩ := szo z zm
  have hat : lM (ss.map V.ref) (d0 % (sz.length : Int)) = some (.ref sp) := by
   rw [eim]
   exact aX (by rw [Cd, hsp]; rfl)
  refine ⟨_, rfl, _, rfl, hd, _, _, _, rfl, rfl, SqL.of hhd, g0, _, rfl, _, sz.length, rfl, .inl ⟨_, SqL.of hss, by rw [B9, ssl]⟩, _, _, rfl, rfl, (show (0 : Int) < (sz.length : Int) by omega), sa, _, _, _, rfl, rfl, SqL.of hss, hat, sp, _, rfl, SqT.of ez, rfl, _, _, rfl, _, _, rfl, rfl, ?_⟩
  obtain ⟨cn, ec⟩ : ∃ cn : Nat, z.1 = (cn : Int) := ⟨z.1.toNat, by omega⟩
  obtain ⟨mn, em⟩ : ∃ mn : Nat, z.2 = (mn : Int) := ⟨z.2.toNat, by omega⟩
  rw [ec, em]
  have c1 : 1 <= cn := by omega
  have c6 : cn <= 6 := by omega
  have m20 : mn <= 20 := by omega
  refine ⟨bY, fun p np => ?_⟩
  obtain ⟨bd, hbd, bm⟩ := gZ [0, 1, 2, 3, 1, 2, 4, 12] d1 (n := 8) rfl (by decide)
  have sp1 := Same.new (o := .lst [.int 0, .int 1, .int 2, .int 3, .int 1, .int 2, .int 4, .int 12]) np
  have s01 := s1.trans sp1
  have hhd1 := sp1 _ _ hhd
  refine ⟨_, rfl, hd, _, _, _, rfl, rfl, SqL.of hhd1, g1, _, _, rfl, rfl, (show (0 : Int) < 8 by decide), p, _, _, _, rfl, rfl, SqL.of ab, hbd, ?_⟩
  generalize az H1 p (.lst [.int 0, .int 1, .int 2, .int 3, .int 1, .int 2, .int 4, .int 12]) = H2 at s01 hhd1
  obtain ⟨bn, eb, b12⟩ : ∃ bn : Nat, bd = (bn : Int) /\ bn <= 12 := by
   simp only [Cr, CY, or_false] at bm
   exact ⟨bd.toNat, by omega, by omega⟩
  subst eb
  refine ⟨_, rfl, _, rfl, _, _, rfl, rfl, .inl ⟨by omega, by omega⟩, ?_⟩
  have h120 : cn * mn <= 120 := Nat.mul_le_mul c6 m20
  have eh : (cn : Int) * (mn : Int) = ((cn * mn : Nat) : Int) := (Int.natCast_mul ..).symm
  dsimp only
  rw [eh]
  have ecm : cn * mn <= cn * mn := Cg _
  generalize hrE : cn * mn = hr' at h120 ecm
  refine ⟨_, rfl, _, rfl, _, rfl, _, _, rfl, rfl, _, rfl, _, _, rfl, rfl, (show CMul 3 _ from .inl ⟨by decide, by decide⟩), _, _, rfl, rfl, a, ns, hr' + mn + 3 * bn, (by show [V.ref a, V.int ((hr' : Int) + mn + 3 * bn)] = _; rw [show ((hr' + mn + 3 * bn : Nat) : Int) = (hr' : Int) + mn + 3 * bn by omega]), s01.seq hS, by omega, by omega, by omega, fun cl cs H3 s3 ncl hcl lcs => ?_⟩
  have s03 := s01.trans s3
  have hhd3 := s3 _ _ hhd1
  walk_at "go"
  refine ⟨bY, fun p2 np2 => ?_⟩
  obtain ⟨gp, hgp, gm⟩ := gZ [1, 3, 40, 5 * 10 ^ 16] d2 (n := 4) rfl (by decide)
  have sp2 := Same.new (o := .lst [.int 1, .int 3, .int 40, .int (5 * 10 ^ 16)]) np2
  have hhd4 := sp2 _ _ hhd3
  refine ⟨_, rfl, hd, _, _, _, rfl, rfl, SqL.of hhd4, g2, _, _, rfl, rfl, (show (0 : Int) < 4 by decide), p2, _, _, _, rfl, rfl, SqL.of ab, hgp, ?_⟩
  clear sp2 hhd4
  generalize hE4 : az H3 p2 _ = H4
  have sp2 : Same H3 H4 := hE4 ▸ Same.new np2
  have hhd4 := sp2 _ _ hhd3
  have hcl4 := sp2 _ _ hcl
  have s04 := s03.trans sp2
  have gpb : 0 < gp /\ gp <= 50000000000000000 := by
   simp only [Cr, CY, or_false] at gm
   omega
  refine ⟨_, rfl, _, rfl, _, rfl, _, rfl, _, rfl, _, _, rfl, rfl, _, rfl, cl, _, rfl, SqL.of hcl4, fun c5 nc5 => ?_⟩
  have ecut : fV (cs.map V.int) (some (hr' : Int)) (some ((hr' : Int) + (mn : Int))) = ((cs.drop hr').take mn).map V.int := by
   rw [show (hr' : Int) + (mn : Int) = ((hr' + mn : Nat) : Int) by omega, wY, Nat.add_sub_cancel_left, Ej, List.map_drop]
  rw [ecut]
  have lcut : ((cs.drop hr').take mn).length = mn := by rw [CW, Dy]; omega
  have sp5 := Same.new (o := .lst (((cs.drop hr').take mn).map V.int)) nc5
  have hhd5 := sp5 _ _ hhd4
  have hcl5 := sp5 _ _ hcl4
  have s05 := s04.trans sp5
  have hc5 : az H4 c5 (.lst (((cs.drop hr').take mn).map V.int)) c5 = some (.lst (((cs.drop hr').take mn).map V.int)) := ab
  generalize az H4 c5 (.lst (((cs.drop hr').take mn).map V.int)) = H5 at hhd5 hcl5 s05 hc5
  generalize (cs.drop hr').take mn = cs' at lcut hc5
  refine ⟨_, rfl, _, rfl, hd, _, _, _, rfl, rfl, SqL.of hhd5, g2, _, _, rfl, rfl, (show mN _ 4 from ⟨by decide, by decide⟩), _, _, rfl, rfl, (show (0 : Int) < 2 by decide), c5, cs', gp, _, rfl, SqL.of hc5, by omega, gpb.1, gpb.2, fun bdg bs H6 s6 nbd hbd6 lbs up b18 => ?_⟩
  rw [lcut] at lbs
  have s06 := s05.trans s6
  have hhd6 := s6 _ _ hhd5
  have hcl6 := s6 _ _ hcl5
  refine ⟨bY, fun p7 np7 => ?_⟩
  obtain ⟨dn, hdn, _⟩ := gZ [3, 4, 1, 2, 4] (d2 / 8) (n := 5) rfl (by decide)
  have sp7 := Same.new (o := .lst [.int 3, .int 4, .int 1, .int 2, .int 4]) np7
  have hhd7 := sp7 _ _ hhd6
  have hcl7 := sp7 _ _ hcl6
  have hbd7 := sp7 _ _ hbd6
  have s07 := s06.trans sp7
  refine ⟨_, rfl, hd, _, _, _, rfl, rfl, SqL.of hhd7, g2, _, _, rfl, rfl, (show mN _ 8 from ⟨by decide, by decide⟩), _, _, rfl, rfl, (show (0 : Int) < 5 by decide), p7, _, _, _, rfl, rfl, SqL.of ab, hdn, ?_⟩
  generalize az H6 p7 (.lst [.int 3, .int 4, .int 1, .int 2, .int 4]) = H7 at hhd7 hcl7 hbd7 s07
  obtain ⟨tp, htp, tm⟩ := gZ tl (d1 / 8) (n := tl.length) rfl tlp
  refine ⟨_, rfl, _, rfl, hd, _, _, _, rfl, rfl, SqL.of hhd7, g1, _, _, rfl, rfl, (show mN _ 8 from ⟨by decide, by decide⟩), _, rfl, _, tl.length, rfl, .inl ⟨_, s07.seq htl, by rw [B9]⟩, _, _, rfl, rfl, (show (0 : Int) < (tl.length : Int) by omega), ta, _, _, _, rfl, rfl, s07.seq htl, htp, ?_⟩
  have lcs' : cn * bs.length <= cs.length := by rw [lbs, hrE]; omega
  refine ⟨_, rfl, _, rfl, _, rfl, _, rfl, _, rfl, cl, bdg, cs, bs, dn, tp, cn, rfl, SqL.of hcl7, SqL.of hbd7, up, tlo tp tm, c6, by omega, lcs', fun l rs rows H8 s8 nl hl8 bl8 lr nr ok => ?_⟩
  have hcl8 := s8 _ _ hcl7
  have s08 := s07.trans s8
  refine ⟨_, rfl, _, rfl, _, rfl, _, _, rfl, rfl, _, rfl, cl, _, rfl, SqL.of hcl8, fun c9 nc9 => ?_⟩
  have ecut9 : fV (cs.map V.int) (some ((hr' : Int) + (mn : Int))) none = (cs.drop (hr' + mn)).map V.int := by
   rw [show (hr' : Int) + (mn : Int) = ((hr' + mn : Nat) : Int) by omega, jY, List.map_drop]
  rw [ecut9]
  have lcut9 : (cs.drop (hr' + mn)).length = 3 * bn := by rw [Dy]; omega
  have s9 := Same.new (o := .lst ((cs.drop (hr' + mn)).map V.int)) nc9
  have hc9 : az H8 c9 (.lst ((cs.drop (hr' + mn)).map V.int)) c9 = some (.lst ((cs.drop (hr' + mn)).map V.int)) := ab
  generalize az H8 c9 (.lst ((cs.drop (hr' + mn)).map V.int)) = H9 at s9 hc9
  refine ⟨_, rfl, c9, cs.drop (hr' + mn), cn, rfl, SqL.of hc9, by omega, c1, c6, fun y ts H10 s10 ny hy tt tl3 => ⟨bY, fun t nt => ?_⟩⟩
  have s1011 := Same.new (o := .tup [.ref l, .ref y]) nt
  have s811 := (s9.trans s10).trans s1011
  refine q t l y rs rows bs ts tp _ (s08.trans s811) ((s08.trans (s9.trans s10)).free nt) ab (s07.free nl) (s811 _ _ hl8) (bl8.same s811) (fun r hr => s07.free (nr r hr)) ⟨z, zm, by rw [ec, lr], by rw [em, lbs]⟩ ⟨fun row hr => (ok row hr).up, fun row hr x hx => ((ok row hr).inn x hx).1, fun row hr => (ok row hr).len, up, fun b hb => (b18 b hb).1⟩ ok tm ((s08.trans s9).free ny) (s1011 _ _ hy) (fun x hx => ⟨(tt x hx).1.same s1011, by rw [lr]; exact (tt x hx).2⟩) (by omega)
def eR (K : PySem.W.Frag) : Sp := fun vs H Q _ => ∃ (a : Addr) (hs : List Int) (x : Addr × Addr × Str × Int × List Nat), vs = [.ref a, .ref x.1] /\ SqL K H a (hs.map V.int) /\ TieT H x /\ (∀ i ∈ x.2.2.2.2, i < hs.length) /\ ∀ H', Same H H' -> Q (.bl (yg hs x)) H'
theorem eU : FnScope ["hands", "tie", "met", "step"] ["hands", "tie"] (aq fA) := ⟨rfl, rfl, rfl, by decide +kernel, rfl, by decide +kernel, by decide +kernel⟩
theorem ie (D : Dfs K mg aF dF) (T : Txt mg) : FnOk P w K mg base aZ 1 (aF 34) (dF 34) ["hands", "tie"] (eR K) := by
 refine D.law_keeps.fn.ok eU (fun vs H Q E h => ?_) (fun cdv A outer s H vs Q E hr h => ?_)
 ·obtain ⟨a, hs, x, rfl, _⟩ := h; rfl
 ·have hu := aV hr
  obtain ⟨a, hs, x, rfl, ha, te, hlt, q⟩ := h
  refine ⟨_, (af (ar (i := 2) eU.nd rfl (Or.inl rfl) (aL ae))
   (af (bc PassesOwn.never rfl (BJ K (ax (dz K) (pv 1) ag (fun _ _ => rfl))) (ao (i := 3) eU.nd rfl (Or.inl rfl))
    (aj (aW (aA (wV K) (ax (c7 K) (pv 0) (pv 3) (fun _ _ => rfl)) (pv 2) (by with_unfolding_all rfl))
     (aj (bR (dS PySem.F.plainAttrs_list PySem.F.slot_list_append PySem.F.type_list_append bI (pv 2) (aa (ax (c7 K) (pv 0) (pv 3) (fun _ _ => rfl)) ae))))
     aD)))
   (af (aW (aA b6 (ax (dz K) (pv 1) ag (fun _ _ => rfl)) aY (aB _))
    (aj (aw (cm xW (av (bZ K) (by rfl) T.z_len boot_len (aa (pv 2) ae)) (ax (dz K) (pv 1) ag (fun _ _ => rfl)) (aB _))))
    aD)
   (aj (aw (cm qY (av (bZ K) (by rfl) T.z_len boot_len (aa (pv 2) ae)) (ax (dz K) (pv 1) ag (fun _ _ => rfl)) (aB _))))))), ?_⟩
  obtain ⟨tp, t, wd, k, st⟩ := x
  have htp := te.tp
  have ht := te.ts
  have hwd := te.wd
  have h6 := te.sl
  dsimp only at htp ht hwd hlt h6 q
  refine ⟨bY, fun m nm => ?_⟩
  have s1 := Same.new (o := .lst []) nm
  refine ⟨_, rfl, tp, _, _, _, rfl, rfl, SqT.of (s1 _ _ htp), rfl, t, rfl, ⟨_, SqT.of (s1 _ _ ht)⟩, ?_⟩
  refine wk (K := K) (a := t) (xs := st.map fun (i : Nat) => V.int (i : Int)) (fun i σ Hx => ∃ (x : Option V), σ = [some (.ref a), some (.ref tp), some (.ref m), x] /\ Same H Hx /\ Hx m = some (.lst ((dd ((st.take i).map fun i => hs.getD i 0)).map V.int))) ⟨none, rfl, s1, ab⟩ (fun i σ Hx _ hq__ => by obtain ⟨_, _, s, _⟩ := hq__; exact SqT.of (s _ _ ht)) ?_ ?_
  ·rintro i v σ Hx hi ⟨x, rfl, sx, hm⟩
   obtain ⟨d, hd, rfl, ed⟩ := gn hi
   have hdl := hlt d (Ce hd)
   have il := (Cc.mp hd).1
   have es : dd ((st.take (i + 1)).map fun i => hs.getD i 0) = cI (dd ((st.take i).map fun i => hs.getD i 0)) (hs.getD d 0) := by
    rw [cD hd, Cn]
    exact fQ _ _
   have dl := dM ((st.take i).map fun i => hs.getD i 0)
   rw [B9, CW] at dl
   rw [es]
   generalize dd ((st.take i).map fun i => hs.getD i 0) = ms at hm dl
   refine ⟨_, rfl, _, rfl, a, _, _, _, rfl, rfl, sx.seq ha, br hdl, _, rfl, m, _, rfl, .inl (SqL.of hm), rfl, j0 _, ?_⟩
   rw [if_pos rfl, mY]
   unfold cI
   refine ⟨_, rfl, ?_⟩
   by_cases z : hs.getD d 0 ∈ ms
   ·rw [decide_eq_true z, if_pos z]
    exact bz ⟨_, rfl, sx, hm⟩
   ·rw [decide_eq_false z, if_neg z]
    refine bH ⟨_, rfl, .inl ⟨rfl, _, SqL.of hm⟩, _, rfl, _, rfl, a, _, _, _, rfl, rfl, sx.seq ha, br hdl, m, _, _, rfl, rfl, hm, i4 (by rw [B9]; omega), ?_⟩
    exact ⟨_, rfl, sx.put nm, by rw [ab, Cn]; rfl⟩
  ·rintro σ Hx ⟨x, rfl, sx, hm⟩
   rw [B9, C0] at hm
   have q3 : Q (.bl (kp (fun i => hs.getD i 0) wd k st)) Hx := q Hx sx
   refine ⟨_, rfl, tp, _, _, _, rfl, rfl, SqT.of (sx _ _ htp), rfl, rfl, _, rfl, ?_⟩
   unfold kp at q3
   rcases hwd with e | e <;> subst e
   ·refine bH ?_
    rw [if_pos rfl] at q3
    exact ⟨_, rfl, _, i6 (fun i => hs.getD i 0) st, rfl, .inl ⟨_, SqL.of hm, by rw [B9]; rfl⟩, _, rfl, tp, _, _, _, rfl, rfl, SqT.of (sx _ _ htp), rfl, _, _, rfl, rfl, q3⟩
   ·rw [decide_eq_false (by decide)]
    refine bz ?_
    rw [if_neg (by decide)] at q3
    exact ⟨_, rfl, _, i6 (fun i => hs.getD i 0) st, rfl, .inl ⟨_, SqL.of hm, by rw [B9]; rfl⟩, _, rfl, tp, _, _, _, rfl, rfl, SqT.of (sx _ _ htp), rfl, _, _, rfl, rfl, q3⟩
def fJ (K : PySem.W.Frag) : Sp := fun vs H Q _ => ∃ (ha b ta : Addr) (rs : List Addr) (rows : bO) (ts : List (Addr × Addr × Str × Int × List Nat)) (hs : List Int), vs = [.ref ha, .ref b, .ref ta] /\ H ha = some (.lst (hs.map V.int)) /\ SqL K H b (rs.map V.ref) /\ BillL H rs rows /\ rows.length <= 6 /\ (∀ row ∈ rows, row.length <= 20) /\ Ties K H ta ts 100 /\ (∀ x ∈ ts, TieG rows.length x) /\ ∀ H', Same H H' -> Q (.bl (nA (bx rows) ts hs)) H'
theorem fK : FnScope ["hands", "bill", "ties", "k", "tie"] ["hands", "bill", "ties"] (aq gD) := ⟨rfl, rfl, rfl, by decide +kernel, rfl, by decide +kernel, by decide +kernel⟩
theorem jj (D : Dfs K mg aF dF) (T : Txt mg) : FnOk P w K mg base aZ 2 (aF 35) (dF 35) ["hands", "bill", "ties"] (fJ K) := by
 have Glaw_whole : FnOk P w K mg base aZ 1 (aF 29) (dF 29) ["found"] (eQ K) := ic D T
 have Glaw_keeps : FnOk P w K mg base aZ 1 (aF 34) (dF 34) ["hands", "tie"] (eR K) := ie D T
 refine D.law_plan.fn.ok fK (fun vs H Q E h => ?_) (fun cdv A outer s H vs Q E hr h => ?_)
 ·obtain ⟨ha, b, ta, rs, rows, ts, hs, rfl, _⟩ := h; rfl
 ·have hu := aV hr
  obtain ⟨ha, b, ta, rs, rows, ts, hs, rfl, hh, hb, bl, r6, r20, tt, tg, q⟩ := h
  refine ⟨_, (af (aW (PW.pt (fW (ir (cL (av (wW K) (by rfl) T.z_isinstance boot_isinstance (aa (pv 0) (aa (wR T.z_list) ae))))) (dJ (aA qX (av (bZ K) (by rfl) T.z_len boot_len (aa (pv 0) ae)) (av (bZ K) (by rfl) T.z_len boot_len (aa (pv 1) ae)) (aB _)))))
    (aj (aw e6))
    aD)
   (af (bc PassesOwn.never rfl (bp rfl T.z_range (aa (av (bZ K) (by rfl) T.z_len boot_len (aa (pv 1) ae)) ae)) (ao (i := 3) fK.nd rfl (Or.inl rfl))
    (aj (aW (PW.pt (fW (ir (cL (pc D.law_whole Glaw_whole (hr.mono (by decide)) (aa (ax (c7 K) (pv 0) (pv 3) (fun _ _ => rfl)) ae)))) (dJ (aA (wV K) (ax (c7 K) (pv 0) (pv 3) (fun _ _ => rfl)) (aO ["pair"] [none] rfl (iq K (ax (c7 K) (pv 1) (pv 3) (fun _ _ => rfl))) (fun _ => ao (i := 0) (aP (N := ["pair"]) (by decide +kernel)) rfl (Or.inl rfl)) (fun _ => a9) (fun _ => (ax (dz K) (pv 0) ag (fun _ _ => rfl))) ((.cons (fun _ e => by cases e) .nil))) (by with_unfolding_all rfl)))))
     (aj (aw e6))
     aD)))
   (af (bc PassesOwn.never rfl (iq K (pv 2)) (ao (i := 4) fK.nd rfl (Or.inl rfl))
    (aj (aW (ir (cL (pc D.law_keeps Glaw_keeps (hr.mono (by decide)) (aa (pv 0) (aa (pv 4) ae)))))
     (aj (aw e6))
     aD)))
   (aj (aw e6))))), ?_⟩
  have rl : rs.length = rows.length := bl.len
  have mbl := cJ rows
  have no : ∀ H', Same H H' -> nA (bx rows) ts hs = false -> Q (.bl false) H' := fun H' s e => by
   have qq := q H' s
   rw [e] at qq
   exact qq
  refine ⟨_, rfl, _, _, _, true, rfl, .lst hh, rfl, _, rfl, bz ?_⟩
  refine ⟨_, rfl, _, hs.length, rfl, .inl ⟨_, SqL.of hh, by rw [B9]⟩, _, rfl, _, rows.length, rfl, .inl ⟨_, hb, by rw [B9, rl]⟩, rfl, _, rfl, Bh (fun h => ?_) fun h => ?_⟩
  ·refine no H (Same.refl _) ?_
   unfold nA
   rw [decide_eq_false (by omega)]; rfl
  have hl : hs.length = rows.length := by omega
  have gk : ∀ i, i < rows.length -> (bx rows).getD i [] = au (rows.getD i []) := fun i hi => by
   unfold bx
   rw [Cb, Cd, Cb, Ca hi]; rfl
  refine ⟨_, rfl, _, rows.length, rfl, .inl ⟨_, hb, by rw [B9, rl]⟩, _, rfl, iK _, by omega, ?_⟩
  rw [CV]
  refine cz (n := rows.length) (fun i σ Hx => ∃ x : Option V, σ = [some (.ref ha), some (.ref b), some (.ref ta), x, none] /\ Same H Hx /\ ∀ j, j < i -> hs.getD j 0 ∈ (bx rows).getD j []) ⟨none, rfl, Same.refl _, fun _ z => by omega⟩ ?_ ?_
  ·rintro i σ Hx hi ⟨x, rfl, sx, al⟩
   have ei : (0 : Int) + (i : Int) = ((i : Nat) : Int) := by omega
   rw [ei]
   have hrow : rows[i]? = some (rows.getD i []) := cP hi
   obtain ⟨r, er, ps, hps, tps⟩ := (bl.same sx).at hrow
   have ptl := tps.len
   have rw20 := r20 _ (Ce hrow)
   have gki := gk i hi
   generalize rows.getD i [] = row at tps ptl rw20 gki
   refine ⟨_, rfl, _, rfl, ha, _, _, _, rfl, rfl, SqL.of (sx _ _ hh), br (by omega), _, rfl, _, rfl, bz ?_⟩
   refine ⟨_, rfl, _, rfl, ha, _, _, _, rfl, rfl, SqL.of (sx _ _ hh), br (by omega), _, rfl, _, rfl, b, _, _, _, rfl, rfl, sx.seq hb, aX (by rw [Cd, er]; rfl), r, rfl, ⟨_, SqL.of hps⟩, ?_⟩
   refine cN (xs := ps.map V.ref) (fun _ => true) (fun j => .int (row.getD j (0, 0)).1) (SqL.of hps) (by rw [B9]; omega) (fun _ _ _ _ _ _ k => k _ (Same.refl _)) (fun j x hx _ H2 R s2 k => ?_) fun nw H2 s2 nnw hnw => ?_
   ·rw [Cd] at hx
    obtain ⟨t, et, rfl⟩ := Cj.mp hx
    obtain ⟨x, ex, tx⟩ := b4 tps et
    rw [Cb, ex] at k
    exact ⟨_, rfl, t, _, _, _, rfl, rfl, SqT.of (s2 _ _ tx), rfl, k H2 (Same.refl _)⟩
   rw [CZ.mpr (fun _ _ => rfl), B9, ptl, jD (g := fun x => V.int x.1) fun i x hx => by rw [Cb, hx]; rfl] at hnw
   have hnw : H2 nw = some (.lst ((au row).map V.int)) := by rw [hnw]; unfold au; rw [CB]; rfl
   refine ⟨nw, _, rfl, .inl (SqL.of hnw), rfl, j0 _, ?_⟩
   rw [if_pos rfl, mY]
   refine ⟨_, rfl, ?_⟩
   by_cases hin : hs.getD i 0 ∈ au row
   ·rw [decide_eq_true hin]
    refine bz ⟨_, rfl, sx.trans s2, fun j hj => ?_⟩
    by_cases z : j = i
    ·subst z; rw [gki]; exact hin
    ·exact al j (by omega)
   ·rw [decide_eq_false hin]
    refine bH (no H2 (sx.trans s2) ?_)
    unfold nA
    have : ((Cf hs.length).all fun i => decide (hs.getD i 0 ∈ (bx rows).getD i [])) = false := by
     rw [Bool.eq_false_iff]
     intro z
     have := CS.mp z i (CD.mpr (by omega))
     rw [gki, decide_eq_false hin] at this
     cases this
    rw [this, Bool.and_false]; rfl
  rintro σ Hx ⟨x, rfl, sx, al⟩
  have ea : ((Cf hs.length).all fun i => decide (hs.getD i 0 ∈ (bx rows).getD i [])) = true := CS.mpr fun i hi => decide_eq_true (al i (by have := CD.mp hi; omega))
  have ef : nA (bx rows) ts hs = ts.all (yg hs) := by
   unfold nA
   rw [ea, decide_eq_true (by omega)]; rfl
  refine ⟨_, rfl, ta, rfl, ⟨_, sx.seq tt.ls⟩, ?_⟩
  refine bK (K := K) (a := ta) (xs := ts.map fun x => V.ref x.1) (fun i σ Hy => ∃ y : Option V, σ = [some (.ref ha), some (.ref b), some (.ref ta), x, y] /\ Same H Hy /\ ∀ t ∈ ts.take i, yg hs t = true) ⟨none, rfl, sx, fun _ z => by cases z⟩ (fun i σ Hy _ hq__ => by obtain ⟨_, _, s, _⟩ := hq__; exact s.seq tt.ls) ?_ ?_
  ·rintro i v σ Hy hi ⟨y, rfl, sy, al2⟩
   rw [Cd] at hi
   obtain ⟨z, hz, rfl⟩ := Cj.mp hi
   have zm := Ce hz
   refine ⟨_, rfl, _, rfl, ha, hs, z, rfl, SqL.of (sy _ _ hh), (tt.ea z zm).same sy, (fun i hi => by rw [hl]; exact (tg z zm).lt i hi), fun H3 s3 => ⟨_, rfl, ?_⟩⟩
   cases kz : yg hs z with
   | false =>
    refine bH (no H3 (sy.trans s3) ?_)
    rw [ef, Bool.eq_false_iff]
    intro w
    have := CS.mp w z zm
    rw [kz] at this
    cases this
   | true =>
    refine bz ⟨_, rfl, sy.trans s3, fun t' ht' => ?_⟩
    rw [cD hz] at ht'
    rcases CC.mp ht' with w | w
    ·exact al2 t' w
    ·rw [Cm.mp w]; exact kz
  ·rintro σ Hy ⟨y, rfl, sy, al2⟩
   rw [B9, C0] at al2
   have qq := q Hy sy
   rw [ef, CS.mpr al2] at qq
   exact qq
theorem vZ {t u : TT} {σ : L2.St} {H : Hp} {Q : Bool -> Hp -> Prop} (h : ∀ R : Bool -> Hp -> Prop, (∀ H', Same H H' -> R false H') -> AV t u σ H R) (q : ∀ H', Same H H' -> Q false H') : AV t u σ H Q := h Q q
def LT (rows : bO) (ts : List oZ) (o : Option Int) (hs : List Int) : Prop := (o = none /\ hs = [] /\ ∀ h, ¬ IsPlan (bx rows) ts h) \/ (o = some (aI rows hs) /\ IsPlan (bx rows) ts hs /\ ∀ h, IsPlan (bx rows) ts h -> aI rows hs <= aI rows h)
def jk (K : PySem.W.Frag) : Sp := fun vs H Q _ => ∃ (b y : Addr) (rs : List Addr) (rows : bO) (U : List Int) (ts : List (Addr × Addr × Str × Int × List Nat)), vs = [.ref b, .ref y] /\ H b = some (.lst (rs.map V.ref)) /\ BillL H rs rows /\ QB rows U /\ H y = some (.lst (ts.map fun x => V.ref x.1)) /\ (∀ x ∈ ts, TieT H x /\ TieG rows.length x) /\ ts.length <= 12 /\
 ∀ t l (o : Option Int) (hs : List Int) H', Same H H' -> H' t = some (.tup [hV o, .ref l]) -> H' l = some (.lst (hs.map V.int)) -> LT rows (ts.map bW) o hs -> Q (.ref t) H'
theorem jm : FnScope ["bill", "ties", "found"] ["bill", "ties"] (aq gE) := ⟨rfl, rfl, rfl, by decide +kernel, rfl, by decide +kernel, by decide +kernel⟩
theorem pP (D : Dfs K mg aF dF) (T : Txt mg) : FnOk P w K mg base aZ 59 (aF 36) (dF 36) ["bill", "ties"] (jk K) := by
 have Gquick : FnOk P w K mg base aZ 58 (aF 24) (dF 24) ["bill", "ties"] (pL K) := vY D T
 have Glaw_whole : FnOk P w K mg base aZ 1 (aF 29) (dF 29) ["found"] (eQ K) := ic D T
 have Glaw_plan : FnOk P w K mg base aZ 2 (aF 35) (dF 35) ["hands", "bill", "ties"] (fJ K) := jj D T
 refine D.law_told.fn.ok jm (fun vs H Q E h => ?_) (fun cdv A outer s H vs Q E hr h => ?_)
 ·obtain ⟨b, y, rs, rows, U, ts, rfl, _⟩ := h; rfl
 ·have hu := aV hr
  obtain ⟨b, y, rs, rows, U, ts, rfl, hb, bl, qb, hy, tt, t12, q⟩ := h
  refine ⟨_, (af (ar (i := 2) jm.nd rfl (Or.inl rfl) (pc D.quick Gquick (hr.mono (by decide)) (aa (aO ["pairs"] [none] rfl (iq K (pv 0)) (fun _ => ao (i := 0) (aP (N := ["pairs"]) (by decide +kernel)) rfl (Or.inl rfl)) (fun _ => a9) (fun _ => (bq (oK K) (by rfl) T.z_list boot_list (aa (pv 0) ae))) ((.cons (fun _ e => by cases e) .nil))) (aa (bq (oK K) (by rfl) T.z_list boot_list (aa (pv 1) ae)) ae))))
   (af (aW (PW.pt (fW (ir (cL (av (wW K) (by rfl) T.z_isinstance boot_isinstance (aa (pv 2) (aa (uB T.z_tuple) ae))))) (dJ (aA oz (av (bZ K) (by rfl) T.z_len boot_len (aa (pv 2) ae)) ag (aB _)))))
    (aj (aw (aE (aa (oy jO ag) (aa (aL ae) ae)))))
    aD)
   (af (aW (PW.pt (e9 (aA b6 (ax (dz K) (pv 2) ag (fun _ _ => rfl)) aY (aB _)) (fM (aA b6 (av (bZ K) (by rfl) T.z_len boot_len (aa (pv 2) ae)) ag (aB _)))))
    (aj (aw (aE (aa bV (aa (aL ae) ae)))))
    aD)
   (af (aW (PW.pt (e9 (aA b6 (ax (dz K) (pv 2) ag (fun _ _ => rfl)) aY (aB _)) (e9 (aA b6 (av (bZ K) (by rfl) T.z_len boot_len (aa (pv 2) ae)) ag (aB _)) (e9 (cL (pc D.law_whole Glaw_whole (hr.mono (by decide)) (aa (ax (dz K) (pv 2) ag (fun _ _ => rfl)) ae))) (fM (cL (pc D.law_plan Glaw_plan (hr.mono (by decide)) (aa (ax (dz K) (pv 2) ag (fun _ _ => rfl)) (aa (pv 0) (aa (pv 1) ae))))))))))
    (aj (aw (aE (aa (ax (dz K) (pv 2) ag (fun _ _ => rfl)) (aa (ax (dz K) (pv 2) ag (fun _ _ => rfl)) ae)))))
    aD)
   (aj (aw (aE (aa (oy jO ag) (aa (aL ae) ae))))))))), ?_⟩
  have r6 := qb.r6
  have r20 : ∀ row ∈ rows, row.length <= 20 := fun row hr => (qb.ok row hr).1
  refine ⟨_, rfl, b, rfl, ⟨_, SqL.of hb⟩, ?_⟩
  refine km hb bl (by omega) (fun r xs H2 R hr2 k => ⟨_, rfl, r, _, rfl, .inl (SqL.of hr2), fun l nl => k l _ (Same.new nl) nl ab⟩) fun hn ls H1 s1 nhn hhn bh nls ndl => ?_
  refine ⟨_, rfl, y, _, rfl, .inl (SqL.of (s1 _ _ hy)), fun y2 ny2 => ?_⟩
  have s2 := Same.new (o := .lst (ts.map fun x => V.ref x.1)) ny2
  have hy2 : az H1 y2 (.lst (ts.map fun x => V.ref x.1)) y2 = some (.lst (ts.map fun x => V.ref x.1)) := ab
  generalize az H1 y2 (.lst (ts.map fun x => V.ref x.1)) = H2 at s2 hy2
  have s02 := s1.trans s2
  have tOk : ∀ Hx yy, Same H Hx -> Hx yy = some (.lst (ts.map fun x => V.ref x.1)) -> Ties K Hx yy ts 100 := fun Hx yy sx hyy => ⟨SqL.of hyy, fun x hx => (tt x hx).1.same sx, by omega⟩
  refine ⟨hn, y2, ls, rows, U, ts, rfl, s2 _ _ hhn, bh.same s2, qb, tOk _ _ s02 hy2, fun x hx => (tt x hx).2, fun t H3 s3 td => ?_⟩
  have s03 := s02.trans s3
  rcases td with ⟨v, ht, no⟩ | ⟨l, hs, v, ht, nl, hl, ip, low⟩
  ·refine ⟨_, rfl, _, _, _, true, rfl, .tup ht, rfl, _, rfl, bz ?_⟩
   refine ⟨_, rfl, _, 2, rfl, .inr ⟨_, SqT.of ht, rfl⟩, _, _, rfl, rfl, _, rfl, bz ?_⟩
   refine ⟨_, rfl, t, _, _, _, rfl, rfl, SqT.of ht, rfl, rfl, _, rfl, bH ?_⟩
   refine ⟨_, rfl, _, 2, rfl, .inr ⟨_, SqT.of ht, rfl⟩, rfl, _, rfl, bH ⟨bY, fun e0 ne0 => ⟨bY, fun t2 nt2 => ?_⟩⟩⟩
   have n12 : e0 ≠ t2 := fun z => by rw [<- z, ab] at nt2; cases nt2
   exact q t2 e0 none [] _ ((s03.to ne0).to nt2) ab (by rw [ah n12]; exact ab) (.inl ⟨rfl, rfl, no⟩)
  ·refine ⟨_, rfl, _, _, _, true, rfl, .tup ht, rfl, _, rfl, bz ?_⟩
   refine ⟨_, rfl, _, 4, rfl, .inr ⟨_, SqT.of ht, rfl⟩, _, _, rfl, rfl, _, rfl, bz ?_⟩
   refine ⟨_, rfl, t, _, _, _, rfl, rfl, SqT.of ht, rfl, rfl, _, rfl, ?_⟩
   rw [decide_eq_false (by decide)]
   refine bz (bz ?_)
   refine ⟨_, rfl, t, _, _, _, rfl, rfl, SqT.of ht, rfl, rfl, _, rfl, bH ?_⟩
   refine ⟨_, rfl, _, 4, rfl, .inr ⟨_, SqT.of ht, rfl⟩, rfl, _, rfl, bH ?_⟩
   refine ⟨_, rfl, t, _, _, _, rfl, rfl, SqT.of ht, rfl, _, rfl, _, rfl, bH ?_⟩
   refine ⟨_, rfl, t, _, _, _, rfl, rfl, SqT.of ht, rfl, _, rfl, _, rfl, l, b, y, rs, rows, ts, hs, rfl, hl, SqL.of (s03 _ _ hb), bl.same s03, r6, r20, tOk _ _ s03 (s03 _ _ hy), fun x hx => (tt x hx).2, fun H4 s4 => ⟨_, rfl, ?_⟩⟩
   rw [o4.mpr ip]
   refine bH ⟨_, rfl, t, _, _, _, rfl, rfl, SqT.of (s4 _ _ ht), rfl, _, rfl, t, _, _, _, rfl, rfl, SqT.of (s4 _ _ ht), rfl, bY, fun t2 nt2 => ?_⟩
   have s5 := Same.new (o := .tup [.int (aI rows hs), .ref l]) nt2
   exact q t2 l (some (aI rows hs)) hs _ ((s03.trans s4).trans s5) ab (s5 _ _ (s4 _ _ hl)) (.inr ⟨rfl, ip, low⟩)
def ig (K : PySem.W.Frag) : Sp := fun vs H Q _ => ∃ (b : Addr) (ce : Int) (rs : List Addr) (rows : bO) (U : List Int), vs = [.ref b, .int ce] /\ H b = some (.lst (rs.map V.ref)) /\ BillL H rs rows /\ QB rows U /\ ∀ t l (hs : List Int) (tt : Int) H', Same H H' -> H' t = some (.tup [.ref l, .int tt]) -> H' l = some (.lst (hs.map V.int)) -> (hs.length = rows.length -> 0 < rows.length -> tt = aI rows hs) -> Q (.ref t) H'
theorem bP : FnScope ["bill", "cell", "hands", "total", "rest", "pairs", "pair"] ["bill", "cell"] (aq fB) := ⟨rfl, rfl, rfl, by decide +kernel, rfl, by decide +kernel, by decide +kernel⟩
theorem n5 (D : Dfs K mg aF dF) (T : Txt mg) : FnOk P w K mg base aZ 1 (aF 37) (dF 37) ["bill", "cell"] (ig K) := by
 refine D.law_drawn.fn.ok bP (fun vs H Q E h => ?_) (fun cdv A outer s H vs Q E hr h => ?_)
 ·obtain ⟨b, ce, rs, rows, U, rfl, _⟩ := h; rfl
 ·have hu := aV hr
  obtain ⟨b, ce, rs, rows, U, rfl, hb, bl, qb, q⟩ := h
  refine ⟨_, (af (ar (i := 2) bP.nd rfl (Or.inl rfl) (aL ae))
   (af (ar (i := 3) bP.nd rfl (Or.inl rfl) ag)
   (af (ar (i := 4) bP.nd rfl (Or.inl rfl) (pv 1))
   (af (bc PassesOwn.never rfl (iq K (pv 0)) (ao (i := 5) bP.nd rfl (Or.inl rfl))
    (af (aW (aA (BI K hr.units) (pv 5) (aL ae) (aB _))
     (aj (aw (aE (aa (aL ae) (aa ag ae)))))
     aD)
    (af (ar (i := 6) bP.nd rfl (Or.inl rfl) (ax (c7 K) (pv 5) (ay bG (pv 4) (av (bZ K) (by rfl) T.z_len boot_len (aa (pv 5) ae))) (fun _ _ => rfl)))
    (af (ar (i := 4) bP.nd rfl (Or.inl rfl) (ay cO (pv 4) (av (bZ K) (by rfl) T.z_len boot_len (aa (pv 5) ae))))
    (af (bR (dS PySem.F.plainAttrs_list PySem.F.slot_list_append PySem.F.type_list_append bI (pv 2) (aa (ax (dz K) (pv 6) ag (fun _ _ => rfl)) ae)))
    (aj (ar (i := 3) bP.nd rfl (Or.inl rfl) (ay aU (pv 3) (ax (dz K) (pv 6) ag (fun _ _ => rfl))))))))))
   (aj (aw (aE (aa (pv 2) (aa (pv 3) ae))))))))), ?_⟩
  have r6 := qb.r6
  have rl : rs.length = rows.length := bl.len
  refine ⟨bY, fun l nl => ?_⟩
  have sn := Same.new (o := .lst []) nl
  refine ⟨_, rfl, _, rfl, b, rfl, ⟨_, SqL.of (sn _ _ hb)⟩, ?_⟩
  refine bK (K := K) (a := b) (xs := rs.map V.ref) (fun i σ Hx => ∃ (hs : List Int) (re : Int) (x y : Option V), σ = [some (.ref b), some (.int ce), some (.ref l), some (.int (((Cf i).map (bE rows hs)).sum)), some (.int re), x, y] /\ Same H Hx /\ Hx l = some (.lst (hs.map V.int)) /\ hs.length = i) ⟨[], ce, none, none, rfl, sn, ab, rfl⟩ (fun i σ Hx _ hq__ => by obtain ⟨_, _, _, _, _, s, _⟩ := hq__; exact SqL.of (s _ _ hb)) ?_ ?_
  ·rintro i v σ Hx hi ⟨hs, re, x, y, rfl, sx, hlx, hil⟩
   rw [Cd] at hi
   obtain ⟨r, hr', rfl⟩ := Cj.mp hi
   have ilt := (Cc.mp hr').1
   obtain ⟨row, hrow, ps, hps, tps⟩ := (bl.same sx).get hr'
   have ptl := tps.len
   have rm := Ce hrow
   have rw20 := (qb.ok row rm).1
   refine ⟨_, rfl, bY, fun e0 ne0 => ?_⟩
   have s1 := Same.new (o := .lst []) ne0
   cases hp0 : ps with
   | nil =>
    rw [hp0] at hps
    refine ⟨1, true, jA (SqL.of (s1 _ _ hps)) (SqL.of ab), by decide, rfl, _, rfl, bH ⟨bY, fun e1 ne1 => ⟨bY, fun t2 nt2 => ?_⟩⟩⟩
    have n12 : e1 ≠ t2 := fun z => by rw [<- z, ab] at nt2; cases nt2
    exact q t2 e1 [] 0 _ (((sx.trans s1).to ne1).to nt2) ab (by rw [ah n12]; exact ab) fun z z2 => by simp at z; omega
   | cons p0 pr =>
    have hps' := hps
    rw [hp0] at hps'
    refine ⟨1, false, jA (SqL.of (s1 _ _ hps')) (SqL.of ab), by decide, rfl, _, rfl, bz ?_⟩
    have sx1 := sx.trans s1
    have hps1 := s1 _ _ hps
    have hlx1 := s1 _ _ hlx
    have tps1 := tps.same s1
    generalize az Hx e0 (.lst []) = H1 at s1 sx1 hps1 hlx1 tps1
    have ppos : 0 < ps.length := by rw [hp0]; simp
    obtain ⟨m, hm, em⟩ := qB re ppos
    obtain ⟨tp, htp⟩ : ∃ tp, ps[m]? = some tp := ⟨_, Ca hm⟩
    obtain ⟨x0, hx0, ex0⟩ := b4 tps1 htp
    have hat : lM (ps.map V.ref) (re % (ps.length : Int)) = some (.ref tp) := by rw [em]; exact aX (by rw [Cd, htp]; rfl)
    have lk : aK (rows.getD i []) x0.1 = some x0.2 := by rw [xF hrow]; exact dY (qb.ok row rm).2 (Ce hx0)
    refine ⟨_, rfl, _, rfl, _, rfl, _, ps.length, rfl, .inl ⟨_, SqL.of hps1, by rw [B9]⟩, _, _, rfl, rfl, (show (0 : Int) < (ps.length : Int) by omega), r, _, _, _, rfl, rfl, SqL.of hps1, hat, ?_⟩
    refine ⟨_, rfl, _, rfl, _, ps.length, rfl, .inl ⟨_, SqL.of hps1, by rw [B9]⟩, _, _, rfl, rfl, (show mN _ _ from ⟨by omega, by omega⟩), ?_⟩
    refine ⟨_, rfl, .inl ⟨rfl, _, SqL.of hlx1⟩, _, rfl, tp, _, _, _, rfl, rfl, SqT.of ex0, rfl, l, _, _, rfl, rfl, hlx1, i4 (by rw [B9]; omega), ?_⟩
    have Bn : az H1 l (.lst (hs.map V.int ++ [V.int x0.1])) tp = some (.tup [.int x0.1, .int x0.2]) := by
     rw [ah (fun z => by
      have e : H1 tp = some (.tup [.int x0.1, .int x0.2]) := ex0
      rw [z, hlx1] at e; cases e)]
     exact ex0
    refine ⟨_, rfl, _, rfl, tp, _, _, _, rfl, rfl, SqT.of Bn, rfl, _, _, rfl, rfl, ?_⟩
    refine ⟨hs ++ [x0.1], re / (ps.length : Int), some (.ref r), some (.ref tp), ?_, sx1.put nl, by rw [ab, Cn]; rfl, by rw [Ck, Cp, hil]⟩
    rw [vR hil lk]
    rfl
  ·rintro σ Hx ⟨hs, re, x, y, rfl, sx, hlx, hil⟩
   rw [B9, rl] at hil
   refine ⟨_, rfl, _, rfl, bY, fun t2 nt2 => ?_⟩
   have s1 := Same.new (o := .tup [.ref l, .int (((Cf (rs.map V.ref).length).map (bE rows hs)).sum)]) nt2
   refine q t2 l hs _ _ (sx.trans s1) ab (s1 _ _ hlx) fun _ _ => ?_
   unfold aI
   rw [B9, rl]
def gg (K : PySem.W.Frag) : Sp := fun vs H Q _ => ∃ (b : Addr) (at' : Nat) (more : Int) (rs : List Addr) (rows : bO) (U : List Int), vs = [.ref b, .int ((at' : Nat) : Int), .int more] /\ H b = some (.lst (rs.map V.ref)) /\ BillL H rs rows /\ QB rows U /\ at' < rows.length /\ ∀ l (ls : List Addr) H', Same H H' -> H' l = some (.lst (ls.map V.ref)) -> BillL H' ls (rR rows at' more) -> Q (.ref l) H'
theorem gh : FnScope ["bill", "at", "more", "found"] ["bill", "at", "more"] (aq eM) := ⟨rfl, rfl, rfl, by decide +kernel, rfl, by decide +kernel, by decide +kernel⟩
theorem lF (D : Dfs K mg aF dF) (T : Txt mg) : FnOk P w K mg base aZ 1 (aF 38) (dF 38) ["bill", "at", "more"] (gg K) := by
 refine D.law_longer.fn.ok gh (fun vs H Q E h => ?_) (fun cdv A outer s H vs Q E hr h => ?_)
 ·obtain ⟨b, at', more, rs, rows, U, rfl, _⟩ := h; rfl
 ·have hu := aV hr
  obtain ⟨b, at', more, rs, rows, U, rfl, hb, bl, qb, hat, q⟩ := h
  refine ⟨_, (af (fP (i₀ := 3) gh.nd rfl (Or.inl rfl) ["pairs"] [none] rfl (iq K (pv 0)) (fun _ => ao (i := 0) (aP (N := ["pairs"]) (by decide +kernel)) rfl (Or.inl rfl)) (fun _ => a9) (fun _ => (bq (oK K) (by rfl) T.z_list boot_list (aa (pv 0) ae))) ((.cons (fun _ e => by cases e) .nil)))
   (af (ff (aO ["pair", "more"] [none, some 2] rfl (iq K (ax (c7 K) (pv 3) (pv 1) (fun _ _ => rfl))) (fun _ => ao (i := 0) (aP (N := ["pair", "more"]) (by decide +kernel)) rfl (Or.inl rfl)) (fun _ => a9) (fun _ => (aE (aa (ax (dz K) (pv 0) ag (fun _ _ => rfl)) (aa (ay aU (ax (dz K) (pv 0) ag (fun _ _ => rfl)) (pv 1)) ae)))) ((.cons (fun _ e => by cases e) (.cons (fun _ e => by cases e; exact ⟨rfl, rfl⟩) .nil)))) (mL (pv 3) (pv 1) fh))
   (aj (aw (pv 3))))), ?_⟩
  have r6 := qb.r6
  refine ⟨_, rfl, b, rfl, ⟨_, SqL.of hb⟩, ?_⟩
  refine km hb bl (by omega) (fun r xs H2 R hr2 k => ⟨_, rfl, r, _, rfl, .inl (SqL.of hr2), fun l nl => k l _ (Same.new nl) nl ab⟩) fun hn ls H1 s1 nhn hhn bh nls ndl => ?_
  have lsl : ls.length = rows.length := bh.len
  have hrow : rows[at']? = some (rows.getD at' []) := cP hat
  have dlk : (dG more (rows.getD at' [])).length = (rows.getD at' []).length := B9 _
  have rw20 := (qb.ok _ (Ce hrow)).1
  obtain ⟨r, er, ps, hps, tps⟩ := bh.at hrow
  have ptl := tps.len
  refine ⟨_, rfl, _, rfl, hn, _, _, _, rfl, rfl, SqL.of hhn, aX (by rw [Cd, er]; rfl), r, rfl, ⟨_, SqL.of hps⟩, ?_⟩
  refine l9 (xs := ps.map V.ref) (fun acc ys Hy => ∃ qs : List Addr, ys = qs.map V.ref /\ TupsL Hy qs ((dG more (rows.getD at' [])).take ys.length) /\ ∀ z ∈ qs, z ≠ acc) (SqL.of hps) (by rw [B9]; omega)
   (fun acc ys H H' ⟨qs, e, tq, ne⟩ sb => ⟨qs, e, kE tq fun z hz x h => sb z _ (ne z hz) h, ne⟩) (fun _ _ => ⟨[], rfl, .nil, fun _ z => by cases z⟩) (fun acc i x ys H2 R hx s2 nacc hacc yl ⟨qs, e, tq, ne⟩ k => ?_) fun acc ys H2 s2 nacc hacc yl ⟨qs, e, tq, ne⟩ => ?_
  ·rw [Cd] at hx
   obtain ⟨t, et, rfl⟩ := Cj.mp hx
   obtain ⟨x0, hx0, ex0⟩ := b4 tps et
   have AO := s2 _ _ ex0
   refine ⟨_, rfl, t, _, _, _, rfl, rfl, SqT.of AO, rfl, _, rfl, t, _, _, _, rfl, rfl, SqT.of AO, rfl, _, rfl, _, _, rfl, rfl, bY, fun tp ntp => ?_⟩
   have s3 := Same.new (o := .tup [.int x0.1, .int (x0.2 + more)]) ntp
   have hd : (dG more (rows.getD at' []))[i]? = some (x0.1, x0.2 + more) := by unfold dG; rw [Cd, hx0]; rfl
   refine k (.ref tp) _ s3 ⟨qs ++ [tp], by rw [e, Cn]; rfl, ?_, fun z hz => ?_⟩
   ·rw [Ck, Cp, yl, cD hd]
    rw [yl] at tq
    exact cu (tq.same s3) (show b7 _ tp (x0.1, x0.2 + more) from ab)
   ·rcases CC.mp hz with w | w
    ·exact ne z w
    ·rw [Cm.mp w]
     intro y
     rw [y, hacc] at ntp
     cases ntp
  ·subst e
   have full : (dG more (rows.getD at' [])).take (qs.map V.ref).length = dG more (rows.getD at' []) := by rw [yl, B9, ptl, <- dlk, C0]
   rw [full] at tq
   have hh2 := s2 _ _ hhn
   have nah : acc ≠ hn := fun z => by rw [z, hhn] at nacc; cases nacc
   refine ⟨_, rfl, _, rfl, hn, _, _, at', rfl, rfl, hh2, gY (by rw [B9]; omega), ?_⟩
   have hset : (ls.map V.ref).set at' (V.ref acc) = (ls.set at' acc).map V.ref := (List.map_set ..).symm
   rw [hset]
   refine ⟨_, rfl, q hn (ls.set at' acc) _ ((s1.trans s2).put nhn) ab ?_⟩
   refine kJ at' ((bh.same s2).but hh2 fun z => (nls hn z).2 rfl) (RowAt.but ⟨qs, hacc, tq⟩ hh2 nah)
def fL (K : PySem.W.Frag) : Sp := fun vs H Q _ => ∃ (b : Addr) (g : Int) (rs : List Addr) (rows : bO), vs = [.ref b, .int g] /\ SqL K H b (rs.map V.ref) /\ BillL H rs rows /\ rows.length <= 6 /\ (∀ row ∈ rows, row.length <= 20) /\ ∀ (l : Addr) (ms : List Addr) (H' : Hp), Same H H' -> H l = none -> H' l = some (.lst (ms.map V.ref)) -> BillL H' ms (mw rows [g]) -> Q (.ref l) H'
theorem dy : FnScope ["bill", "badge", "found", "pairs"] ["bill", "badge"] (aq dO) := ⟨rfl, rfl, rfl, by decide +kernel, rfl, by decide +kernel, by decide +kernel⟩
theorem k4 (D : Dfs K mg aF dF) (T : Txt mg) : FnOk P w K mg base aZ 1 (aF 39) (dF 39) ["bill", "badge"] (fL K) := by
 refine D.law_without.fn.ok dy (fun vs H Q E h => ?_) (fun cdv A outer s H vs Q E hr h => ?_)
 ·obtain ⟨b, g, rs, rows, rfl, _⟩ := h; rfl
 ·have hu := aV hr
  obtain ⟨b, g, rs, rows, rfl, hb, bl, r6, r20, q⟩ := h
  refine ⟨_, (af (ar (i := 2) dy.nd rfl (Or.inl rfl) (aL ae))
   (af (bc PassesOwn.never rfl (iq K (pv 0)) (ao (i := 3) dy.nd rfl (Or.inl rfl))
    (aj (bR (dS PySem.F.plainAttrs_list PySem.F.slot_list_append PySem.F.type_list_append bI (pv 2) (aa (aO ["pair", "badge"] [none, some 1] rfl (iq K (pv 3)) (fun _ => ao (i := 0) (aP (N := ["pair", "badge"]) (by decide +kernel)) rfl (Or.inl rfl)) (fun _ => fO (aA qX (ax (dz K) (pv 0) ag (fun _ _ => rfl)) (pv 1) (aB _))) (fun _ => (pv 0)) ((.cons (fun _ e => by cases e) (.cons (fun _ e => by cases e; exact ⟨rfl, rfl⟩) .nil)))) ae)))))
   (aj (aw (pv 2))))), ?_⟩
  have rl : rs.length = rows.length := bl.len
  refine ⟨bY, fun l nl => ?_⟩
  have sn := Same.new (o := .lst []) nl
  refine ⟨_, rfl, b, rfl, ⟨_, sn.seq hb⟩, ?_⟩
  refine bK (K := K) (a := b) (xs := rs.map V.ref) (fun i σ Hx => ∃ (x : Option V) (ms : List Addr), σ = [some (.ref b), some (.int g), some (.ref l), x] /\ Same H Hx /\ Hx l = some (.lst (ms.map V.ref)) /\ BillL Hx ms ((mw rows [g]).take i) /\ l ∉ ms /\ ms.length = i) ⟨none, [], rfl, sn, ab, .nil, (fun z => by cases z), rfl⟩ (fun i σ Hx _ hq__ => by obtain ⟨_, _, _, s, _⟩ := hq__; exact s.seq hb) ?_ ?_
  ·rintro i v σ Hx hi ⟨x, ms, rfl, sx, hl, bm, lm, ml⟩
   rw [Cd] at hi
   obtain ⟨r, hr', rfl⟩ := Cj.mp hi
   have hil := (Cc.mp hr').1
   obtain ⟨row, hrow, ps, hps, tps⟩ := (bl.same sx).get hr'
   have ptl := tps.len
   have rw20 := r20 row (Ce hrow)
   refine ⟨_, rfl, .inl ⟨rfl, _, SqL.of hl⟩, _, rfl, r, rfl, ⟨_, SqL.of hps⟩, ?_⟩
   refine cN (xs := ps.map V.ref) (fun j => !decide ((row.getD j (0, 0)).1 ∈ [g])) (fun j => .ref (ps.getD j 0)) (SqL.of hps) (by rw [B9]; omega) (fun j x hx H2 R s2 k => ?_) (fun j x hx _ H2 R s2 k => ?_) fun nw H2 s2 nnw hnw => ?_
   ·rw [Cd] at hx
    obtain ⟨t, et, rfl⟩ := Cj.mp hx
    obtain ⟨x, ex, tx⟩ := b4 tps et
    have kk : ∀ H3, Same H2 H3 -> R (!decide ((row.getD j (0, 0)).1 ∈ [g])) H3 := k
    rw [xF ex] at kk
    refine ⟨_, rfl, t, _, _, _, rfl, rfl, SqT.of (s2 _ _ tx), rfl, _, rfl, rfl, ?_⟩
    have z := kk H2 (Same.refl _)
    rw [show decide (x.1 ∈ [g]) = decide (V.int x.1 = V.int g) by rw [<- kd]; exact decide_eq_decide.mpr Cm] at z
    exact ⟨_, rfl, z⟩
   ·rw [Cd] at hx
    obtain ⟨t, et, rfl⟩ := Cj.mp hx
    have kk : R (.ref (ps.getD j 0)) H2 := k H2 (Same.refl _)
    rw [xF et] at kk
    exact ⟨_, rfl, kk⟩
   obtain ⟨qs, eq, tq⟩ := pz (fun x => !decide (x.1 ∈ [g])) (tps.same s2)
   rw [B9, eq] at hnw
   have hl2 := s2 _ _ hl
   have s02 := sx.trans s2
   have nwl : nw ≠ l := fun z => by rw [z, hl] at nnw; cases nnw
   refine ⟨l, _, _, rfl, rfl, hl2, i4 (by rw [B9]; omega), ?_⟩
   have hmr : (mw rows [g])[i]? = some (AD row [g]) := by unfold mw; rw [Cd, hrow]; rfl
   refine ⟨_, ms ++ [nw], rfl, s02.put nl, by rw [ab, Cn]; rfl, ?_, fun z => ?_, by rw [Ck, Cp, ml]⟩
   ·rw [cD hmr]
    exact cu ((bm.same s2).but hl2 lm) (RowAt.but ⟨qs, hnw, tq⟩ hl2 nwl)
   ·rcases CC.mp z with y | y
    ·exact lm y
    ·exact nwl (Cm.mp y).symm
  ·rintro σ Hx ⟨x, ms, rfl, sx, hl, bm, lm, ml⟩
   have wl : (mw rows [g]).length = rows.length := B9 _
   rw [B9, rl, <- wl, C0] at bm
   exact ⟨_, rfl, q l ms Hx sx nl hl bm⟩
def ij (K : PySem.W.Frag) : Sp := fun vs H Q _ => ∃ (b : Addr) (ce : Int) (rs : List Addr) (rows : bO) (U : List Int), vs = [.ref b, .int ce] /\ H b = some (.lst (rs.map V.ref)) /\ BillL H rs rows /\ QB rows U /\ ∀ (g : Int) H', Same H H' -> Q (.int g) H'
theorem cY : FnScope ["bill", "cell", "met", "pairs"] ["bill", "cell"] (aq fC) := ⟨rfl, rfl, rfl, by decide +kernel, rfl, by decide +kernel, by decide +kernel⟩
theorem n6 (D : Dfs K mg aF dF) (T : Txt mg) : FnOk P w K mg base aZ 1 (aF 40) (dF 40) ["bill", "cell"] (ij K) := by
 refine D.law_badge.fn.ok cY (fun vs H Q E h => ?_) (fun cdv A outer s H vs Q E hr h => ?_)
 ·obtain ⟨b, ce, rs, rows, U, rfl, _⟩ := h; rfl
 ·have hu := aV hr
  obtain ⟨b, ce, rs, rows, U, rfl, hb, bl, qb, q⟩ := h
  refine ⟨_, (af (ar (i := 2) cY.nd rfl (Or.inl rfl) (aL (aa ag ae)))
   (af (bc PassesOwn.never rfl (iq K (pv 0)) (ao (i := 3) cY.nd rfl (Or.inl rfl))
    (aj (ar (i := 2) cY.nd rfl (Or.inl rfl) (ay mT (pv 2) (aO ["pair"] [none] rfl (iq K (pv 3)) (fun _ => ao (i := 0) (aP (N := ["pair"]) (by decide +kernel)) rfl (Or.inl rfl)) (fun _ => a9) (fun _ => (ax (dz K) (pv 0) ag (fun _ _ => rfl))) ((.cons (fun _ e => by cases e) .nil)))))))
   (aj (aw (ax (c7 K) (pv 2) (ay bG (pv 1) (av (bZ K) (by rfl) T.z_len boot_len (aa (pv 2) ae))) (fun _ _ => rfl)))))), ?_⟩
  have r6 := qb.r6
  have rl : rs.length = rows.length := bl.len
  refine ⟨bY, fun l0 n0 => ?_⟩
  have sn := Same.new (o := .lst [V.int 0]) n0
  refine ⟨_, rfl, b, rfl, ⟨_, SqL.of (sn _ _ hb)⟩, ?_⟩
  refine bK (K := K) (a := b) (xs := rs.map V.ref) (fun i σ Hx => ∃ (x : Option V) (l : Addr) (ms : List Int), σ = [some (.ref b), some (.int ce), some (.ref l), x] /\ Same H Hx /\ Hx l = some (.lst (ms.map V.int)) /\ 0 < ms.length /\ ms.length <= 1 + 20 * i) ⟨none, l0, [0], rfl, sn, ab, by simp, by simp⟩ (fun i σ Hx _ hq__ => by obtain ⟨_, _, _, _, s, _⟩ := hq__; exact SqL.of (s _ _ hb)) ?_ ?_
  ·rintro i v σ Hx hi ⟨x, l, ms, rfl, sx, hl, m0, ml⟩
   rw [Cd] at hi
   obtain ⟨r, hr', rfl⟩ := Cj.mp hi
   have hil := (Cc.mp hr').1
   obtain ⟨row, hrow, ps, hps, tps⟩ := (bl.same sx).get hr'
   have ptl := tps.len
   have rw20 := (qb.ok row (Ce hrow)).1
   refine ⟨_, rfl, _, rfl, r, rfl, ⟨_, SqL.of hps⟩, ?_⟩
   refine cN (xs := ps.map V.ref) (fun _ => true) (fun j => .int (row.getD j (0, 0)).1) (SqL.of hps) (by rw [B9]; omega) (fun _ _ _ _ _ _ k => k _ (Same.refl _)) (fun j x hx _ H2 R s2 k => ?_) fun nw H2 s2 nnw hnw => ?_
   ·rw [Cd] at hx
    obtain ⟨t, et, rfl⟩ := Cj.mp hx
    obtain ⟨x, ex, tx⟩ := b4 tps et
    rw [Cb, ex] at k
    exact ⟨_, rfl, t, _, _, _, rfl, rfl, SqT.of (s2 _ _ tx), rfl, k H2 (Same.refl _)⟩
   rw [CZ.mpr (fun _ _ => rfl), B9, ptl, jD (g := fun x => V.int x.1) fun i x hx => by rw [Cb, hx]; rfl] at hnw
   have hnw : H2 nw = some (.lst ((au row).map V.int)) := by rw [hnw]; unfold au; rw [CB]; rfl
   have kl : (au row).length = row.length := B9 _
   refine ⟨l, nw, _, _, rfl, rfl, s2 _ _ hl, hnw, wU (by rw [B9, B9]; omega), fun c nc => ?_⟩
   exact ⟨_, c, ms ++ au row, rfl, (sx.trans s2).to nc, by rw [ab, Cn], by rw [Ck]; omega, by rw [Ck]; omega⟩
  ·rintro σ Hx ⟨x, l, ms, rfl, sx, hl, m0, ml⟩
   obtain ⟨m, hm, em⟩ := qB ce m0
   exact ⟨_, rfl, _, rfl, _, rfl, _, ms.length, rfl, .inl ⟨_, SqL.of hl, by rw [B9]⟩, _, _, rfl, rfl, (show (0 : Int) < (ms.length : Int) by omega), l, _, _, _, rfl, rfl, SqL.of hl, (by rw [em]; exact br hm), q _ Hx sx⟩
def ik (K : PySem.W.Frag) : Sp := fun vs H Q _ => ∃ (o t : Option Int) (sm : Bool), vs = [hV o, hV t, .bl sm] /\ (t = none -> o = none) /\ (∀ z, t = some z -> sm = true -> o = some z) /\ (∀ z, t = some z -> ∀ y, o = some y -> z <= y) /\ Q (.bl true) H
theorem n8 : FnScope ["again", "total", "same"] ["again", "total", "same"] (aq fD) := ⟨rfl, rfl, rfl, by decide +kernel, rfl, by decide +kernel, by decide +kernel⟩
theorem n9 (D : Dfs K mg aF dF) (T : Txt mg) : FnOk P w K mg base aZ 1 (aF 41) (dF 41) ["again", "total", "same"] (ik K) := by
 refine D.law_later.fn.ok n8 (fun vs H Q E h => ?_) (fun cdv A outer s H vs Q E hr h => ?_)
 ·obtain ⟨o, t, sm, rfl, _⟩ := h; rfl
 ·have hu := aV hr
  obtain ⟨o, t, sm, rfl, h1, h2, h3, q⟩ := h
  refine ⟨_, (af (aW (aA iu (pv 1) bV (aB _))
    (aj (aw (cm iu (pv 0) bV (aB _))))
    aD)
   (af (aW (cL (pv 2))
    (aj (aw (mK (cm dA (pv 0) bV (aB _)) (jJ (cm b6 (pv 0) (pv 1) (aB _))))))
    aD)
   (aj (aw (zD (cm iu (pv 0) bV (aB _)) (jJ (cm qY (pv 0) (pv 1) (aB _)))))))), ?_⟩
  refine ⟨_, rfl, rfl, ?_⟩
  rw [kg]
  cases t with
  | none =>
   refine ⟨_, rfl, bH ⟨_, rfl, rfl, ?_⟩⟩
   rw [kg, h1 rfl]
   exact q
  | some z =>
   refine ⟨_, rfl, bz ⟨_, rfl, _, rfl, ?_⟩⟩
   cases sm with
   | true =>
    rw [h2 z rfl rfl]
    exact bH ⟨_, rfl, rfl, _, rfl, bH ⟨_, rfl, _, rfl, rfl, by
     show Q (V.bl (decide (V.int z = V.int z))) H
     rw [decide_eq_true rfl]; exact q⟩⟩
   | false =>
    cases o with
    | none => exact bz ⟨_, rfl, rfl, _, rfl, bH q⟩
    | some y =>
     refine bz ⟨_, rfl, rfl, _, rfl, bz ⟨_, rfl, _, rfl, _, _, rfl, rfl, ?_⟩⟩
     have := h3 z rfl y rfl
     show Q (V.bl (decide (z <= y))) H
     rw [decide_eq_true this]; exact q
def oa (K : PySem.W.Frag) : Sp := fun vs H Q _ => ∃ (a : Addr) (ns : List Int), vs = [.ref a] /\ SqL K H a (ns.map V.int) /\ ns.length <= 63 /\ ∀ H', Q (.bl true) H'
theorem b8 : FnScope ["script", "sizes", "bill", "ties", "cell", "total", "hands", "drawn", "minutes", "more", "longer", "badge", "fewer", "tie", "tied"] ["script"] (aq vS) := ⟨rfl, rfl, rfl, by decide +kernel, rfl, by decide +kernel, by decide +kernel⟩
theorem zl (D : Dfs K mg aF dF) (T : Txt mg) : FnOk P w K mg base aZ 60 (aF 42) (dF 42) ["script"] (oa K) := by
 have Glaw_cell : FnOk P w K mg base aZ 1 (aF 27) (dF 27) ["script", "k"] (fG K) := jf D T
 have Glaw_ties : FnOk P w K mg base aZ 1 (aF 32) (dF 32) ["cells", "count"] (fI K) := jh D T
 have Glaw_case : FnOk P w K mg base aZ 2 (aF 33) (dF 33) ["script", "sizes", "tops"] (ji K) := pO D T
 have Glaw_keeps : FnOk P w K mg base aZ 1 (aF 34) (dF 34) ["hands", "tie"] (eR K) := ie D T
 have Glaw_plan : FnOk P w K mg base aZ 2 (aF 35) (dF 35) ["hands", "bill", "ties"] (fJ K) := jj D T
 have Glaw_told : FnOk P w K mg base aZ 59 (aF 36) (dF 36) ["bill", "ties"] (jk K) := pP D T
 have Glaw_drawn : FnOk P w K mg base aZ 1 (aF 37) (dF 37) ["bill", "cell"] (ig K) := n5 D T
 have Glaw_longer : FnOk P w K mg base aZ 1 (aF 38) (dF 38) ["bill", "at", "more"] (gg K) := lF D T
 have Glaw_without : FnOk P w K mg base aZ 1 (aF 39) (dF 39) ["bill", "badge"] (fL K) := k4 D T
 have Glaw_badge : FnOk P w K mg base aZ 1 (aF 40) (dF 40) ["bill", "cell"] (ij K) := n6 D T
 have Glaw_later : FnOk P w K mg base aZ 1 (aF 41) (dF 41) ["again", "total", "same"] (ik K) := n9 D T
 refine D.law.fn.ok b8 (fun vs H Q E h => ?_) (fun cdv A outer s H vs Q E hr h => ?_)
 ·obtain ⟨a, ns, rfl, _⟩ := h; rfl
 ·have hu := aV hr
  obtain ⟨a, ns, rfl, hS, hl, q⟩ := h
  refine ⟨_, (af (ar (i := 1) b8.nd rfl (Or.inl rfl) (aL (aa (aE (aa ag (aa ag ae))) (aa (aE (aa ag (aa ag ae))) (aa (aE (aa ag (aa ag ae))) (aa (aE (aa ag (aa ag ae))) (aa (aE (aa ag (aa ag ae))) (aa (aE (aa ag (aa ag ae))) (aa (aE (aa ag (aa ag ae))) (aa (aE (aa ag (aa ag ae))) (aa (aE (aa ag (aa ag ae))) (aa (aE (aa ag (aa ag ae))) (aa (aE (aa ag (aa ag ae))) (aa (aE (aa ag (aa ag ae))) ae))))))))))))))
   (af (ff (pc D.law_case Glaw_case (hr.mono (by decide)) (aa (pv 0) (aa (pv 1) (aa (aL (aa (ay aU (ay eD ag (ay jN ag ag)) ag) (aa ag (aa ag (aa (ay aU (ay jN ag ag) ag) ae))))) ae)))) (uE K rfl (aM (ao (i := 2) b8.nd rfl (Or.inl rfl)) (aM (ao (i := 3) b8.nd rfl (Or.inl rfl)) cG))))
   (af (ar (i := 3) b8.nd rfl (Or.inl rfl) (dR (zx K) (pv 3) gJ (eE ag)))
   (af (ar (i := 4) b8.nd rfl (Or.inl rfl) (pc D.law_cell Glaw_cell (hr.mono (by decide)) (aa (pv 0) (aa ag ae))))
   (af (ff (pc D.law_told Glaw_told (hr.mono (by decide)) (aa (pv 2) (aa (pv 3) ae))) (uE K rfl (aM (ao (i := 5) b8.nd rfl (Or.inl rfl)) (aM (ao (i := 6) b8.nd rfl (Or.inl rfl)) cG))))
   (af (ff (pc D.law_drawn Glaw_drawn (hr.mono (by decide)) (aa (pv 2) (aa (pv 4) ae))) (uE K rfl (aM (ao (i := 7) b8.nd rfl (Or.inl rfl)) (aM (ao (i := 8) b8.nd rfl (Or.inl rfl)) cG))))
   (af (aW (PW.pt (fW (aA b6 (pv 5) (oy jO ag) (aB _)) (dJ (PW.pt (e9 (cL (pc D.law_plan Glaw_plan (hr.mono (by decide)) (aa (pv 7) (aa (pv 2) (aa (pv 3) ae))))) (fM (PW.pt (fW (aA iu (pv 5) bV (aB _)) (dJ (aA xX (pv 5) (pv 8) (aB _)))))))))))
    (aj (aw e6))
    aD)
   (af (ar (i := 9) b8.nd rfl (Or.inl rfl) (ay bG (pc D.law_cell Glaw_cell (hr.mono (by decide)) (aa (pv 0) (aa ag ae))) (ay aU (ay eD ag (ay jN ag ag)) ag)))
   (af (ar (i := 10) b8.nd rfl (Or.inl rfl) (ax (dz K) (pc D.law_told Glaw_told (hr.mono (by decide)) (aa (pc D.law_longer Glaw_longer (hr.mono (by decide)) (aa (pv 2) (aa (ay bG (pv 4) (av (bZ K) (by rfl) T.z_len boot_len (aa (pv 2) ae))) (aa (pv 9) ae)))) (aa (pv 3) ae))) ag (fun _ _ => rfl)))
   (af (aW (PW.pt (fW (PW.pt (e9 (aA iu (pv 5) bV (aB _)) (fM (aA dA (pv 10) bV (aB _))))) (dJ (PW.pt (e9 (aA dA (pv 5) bV (aB _)) (fM (aA qX (pv 10) (ay aU (pv 5) (pv 9)) (aB _))))))))
    (aj (aw e6))
    aD)
   (af (ar (i := 11) b8.nd rfl (Or.inl rfl) (pc D.law_badge Glaw_badge (hr.mono (by decide)) (aa (pv 2) (aa (ay cO (pv 4) ag) ae))))
   (af (ar (i := 12) b8.nd rfl (Or.inl rfl) (ax (dz K) (pc D.law_told Glaw_told (hr.mono (by decide)) (aa (pc D.law_without Glaw_without (hr.mono (by decide)) (aa (pv 2) (aa (pv 11) ae))) (aa (pv 3) ae))) ag (fun _ _ => rfl)))
   (af (aW (PW.pt (fW (aA b6 (pv 12) (oy jO ag) (aB _)) (dJ (ir (cL (pc D.law_later Glaw_later (hr.mono (by decide)) (aa (pv 12) (aa (pv 5) (aa (cm (wV K) (pv 11) (pv 6) (by with_unfolding_all rfl)) ae)))))))))
    (aj (aw e6))
    aD)
   (af (ar (i := 13) b8.nd rfl (Or.inl rfl) (ax (c7 K) (pc D.law_ties Glaw_ties (hr.mono (by decide)) (aa (aL (aa (pv 4) (aa (ay cO (pv 4) ag) (aa (ay cO (pv 4) ag) ae)))) (aa (av (bZ K) (by rfl) T.z_len boot_len (aa (pv 2) ae)) ae))) ag (fun _ _ => rfl)))
   (af (ar (i := 14) b8.nd rfl (Or.inl rfl) (ax (dz K) (pc D.law_told Glaw_told (hr.mono (by decide)) (aa (pv 2) (aa (ay mT (pv 3) (aL (aa (pv 13) ae))) ae))) ag (fun _ _ => rfl)))
   (aj (aw (mK (cm qX (pv 14) (oy jO ag) (aB _)) (jJ (pc D.law_later Glaw_later (hr.mono (by decide)) (aa (pv 14) (aa (pv 5) (aa (mK (cm dA (pv 5) bV (aB _)) (jJ (pc D.law_keeps Glaw_keeps (hr.mono (by decide)) (aa (pv 6) (aa (pv 13) ae))))) ae))))))))))))))))))))))), ?_⟩
  refine ⟨bY, fun p0 np0 => ?_⟩
  have sz0 := Same.new (o := .tup [.int 3, .int 3]) np0
  have hz0 : az H p0 (.tup [.int 3, .int 3]) p0 = some (.tup [.int 3, .int 3]) := ab
  have sY0 := sz0
  generalize az H p0 (.tup [.int 3, .int 3]) = HZ0 at sz0 hz0 sY0
  refine ⟨bY, fun p1 np1 => ?_⟩
  have sz1 := Same.new (o := .tup [.int 2, .int 6]) np1
  have hz1 : az HZ0 p1 (.tup [.int 2, .int 6]) p1 = some (.tup [.int 2, .int 6]) := ab
  have sY1 := sY0.trans sz1
  generalize az HZ0 p1 (.tup [.int 2, .int 6]) = HZ1 at sz1 hz1 sY1
  refine ⟨bY, fun p2 np2 => ?_⟩
  have sz2 := Same.new (o := .tup [.int 4, .int 4]) np2
  have hz2 : az HZ1 p2 (.tup [.int 4, .int 4]) p2 = some (.tup [.int 4, .int 4]) := ab
  have sY2 := sY1.trans sz2
  generalize az HZ1 p2 (.tup [.int 4, .int 4]) = HZ2 at sz2 hz2 sY2
  refine ⟨bY, fun p3 np3 => ?_⟩
  have sz3 := Same.new (o := .tup [.int 3, .int 5]) np3
  have hz3 : az HZ2 p3 (.tup [.int 3, .int 5]) p3 = some (.tup [.int 3, .int 5]) := ab
  have sY3 := sY2.trans sz3
  generalize az HZ2 p3 (.tup [.int 3, .int 5]) = HZ3 at sz3 hz3 sY3
  refine ⟨bY, fun p4 np4 => ?_⟩
  have sz4 := Same.new (o := .tup [.int 4, .int 5]) np4
  have hz4 : az HZ3 p4 (.tup [.int 4, .int 5]) p4 = some (.tup [.int 4, .int 5]) := ab
  have sY4 := sY3.trans sz4
  generalize az HZ3 p4 (.tup [.int 4, .int 5]) = HZ4 at sz4 hz4 sY4
  refine ⟨bY, fun p5 np5 => ?_⟩
  have sz5 := Same.new (o := .tup [.int 1, .int 1]) np5
  have hz5 : az HZ4 p5 (.tup [.int 1, .int 1]) p5 = some (.tup [.int 1, .int 1]) := ab
  have sY5 := sY4.trans sz5
  generalize az HZ4 p5 (.tup [.int 1, .int 1]) = HZ5 at sz5 hz5 sY5
  refine ⟨bY, fun p6 np6 => ?_⟩
  have sz6 := Same.new (o := .tup [.int 2, .int 2]) np6
  have hz6 : az HZ5 p6 (.tup [.int 2, .int 2]) p6 = some (.tup [.int 2, .int 2]) := ab
  have sY6 := sY5.trans sz6
  generalize az HZ5 p6 (.tup [.int 2, .int 2]) = HZ6 at sz6 hz6 sY6
  refine ⟨bY, fun p7 np7 => ?_⟩
  have sz7 := Same.new (o := .tup [.int 5, .int 3]) np7
  have hz7 : az HZ6 p7 (.tup [.int 5, .int 3]) p7 = some (.tup [.int 5, .int 3]) := ab
  have sY7 := sY6.trans sz7
  generalize az HZ6 p7 (.tup [.int 5, .int 3]) = HZ7 at sz7 hz7 sY7
  refine ⟨bY, fun p8 np8 => ?_⟩
  have sz8 := Same.new (o := .tup [.int 3, .int 12]) np8
  have hz8 : az HZ7 p8 (.tup [.int 3, .int 12]) p8 = some (.tup [.int 3, .int 12]) := ab
  have sY8 := sY7.trans sz8
  generalize az HZ7 p8 (.tup [.int 3, .int 12]) = HZ8 at sz8 hz8 sY8
  refine ⟨bY, fun p9 np9 => ?_⟩
  have sz9 := Same.new (o := .tup [.int 2, .int 20]) np9
  have hz9 : az HZ8 p9 (.tup [.int 2, .int 20]) p9 = some (.tup [.int 2, .int 20]) := ab
  have sY9 := sY8.trans sz9
  generalize az HZ8 p9 (.tup [.int 2, .int 20]) = HZ9 at sz9 hz9 sY9
  refine ⟨bY, fun p10 np10 => ?_⟩
  have sz10 := Same.new (o := .tup [.int 6, .int 2]) np10
  have hz10 : az HZ9 p10 (.tup [.int 6, .int 2]) p10 = some (.tup [.int 6, .int 2]) := ab
  have sY10 := sY9.trans sz10
  generalize az HZ9 p10 (.tup [.int 6, .int 2]) = HZ10 at sz10 hz10 sY10
  refine ⟨bY, fun p11 np11 => ?_⟩
  have sz11 := Same.new (o := .tup [.int 4, .int 2]) np11
  have hz11 : az HZ10 p11 (.tup [.int 4, .int 2]) p11 = some (.tup [.int 4, .int 2]) := ab
  have sY11 := sY10.trans sz11
  generalize az HZ10 p11 (.tup [.int 4, .int 2]) = HZ11 at sz11 hz11 sY11
  refine ⟨bY, fun sa nsa => ?_⟩
  have szL := Same.new (o := .lst [.ref p0, .ref p1, .ref p2, .ref p3, .ref p4, .ref p5, .ref p6, .ref p7, .ref p8, .ref p9, .ref p10, .ref p11]) nsa
  have hsa : az HZ11 sa (.lst [.ref p0, .ref p1, .ref p2, .ref p3, .ref p4, .ref p5, .ref p6, .ref p7, .ref p8, .ref p9, .ref p10, .ref p11]) sa = some (.lst ([p0, p1, p2, p3, p4, p5, p6, p7, p8, p9, p10, p11].map V.ref)) := ab
  have sZ := sY11.trans szL
  generalize az HZ11 sa (.lst [.ref p0, .ref p1, .ref p2, .ref p3, .ref p4, .ref p5, .ref p6, .ref p7, .ref p8, .ref p9, .ref p10, .ref p11]) = HZ at szL hsa sZ
  have rsz : RowAt HZ sa [(3, 3), (2, 6), (4, 4), (3, 5), (4, 5), (1, 1), (2, 2), (5, 3), (3, 12), (2, 20), (6, 2), (4, 2)] := ⟨_, hsa, (.cons (show b7 HZ p0 (3, 3) from (szL _ _ (sz11 _ _ (sz10 _ _ (sz9 _ _ (sz8 _ _ (sz7 _ _ (sz6 _ _ (sz5 _ _ (sz4 _ _ (sz3 _ _ (sz2 _ _ (sz1 _ _ hz0))))))))))))) (.cons (show b7 HZ p1 (2, 6) from (szL _ _ (sz11 _ _ (sz10 _ _ (sz9 _ _ (sz8 _ _ (sz7 _ _ (sz6 _ _ (sz5 _ _ (sz4 _ _ (sz3 _ _ (sz2 _ _ hz1)))))))))))) (.cons (show b7 HZ p2 (4, 4) from (szL _ _ (sz11 _ _ (sz10 _ _ (sz9 _ _ (sz8 _ _ (sz7 _ _ (sz6 _ _ (sz5 _ _ (sz4 _ _ (sz3 _ _ hz2))))))))))) (.cons (show b7 HZ p3 (3, 5) from (szL _ _ (sz11 _ _ (sz10 _ _ (sz9 _ _ (sz8 _ _ (sz7 _ _ (sz6 _ _ (sz5 _ _ (sz4 _ _ hz3)))))))))) (.cons (show b7 HZ p4 (4, 5) from (szL _ _ (sz11 _ _ (sz10 _ _ (sz9 _ _ (sz8 _ _ (sz7 _ _ (sz6 _ _ (sz5 _ _ hz4))))))))) (.cons (show b7 HZ p5 (1, 1) from (szL _ _ (sz11 _ _ (sz10 _ _ (sz9 _ _ (sz8 _ _ (sz7 _ _ (sz6 _ _ hz5)))))))) (.cons (show b7 HZ p6 (2, 2) from (szL _ _ (sz11 _ _ (sz10 _ _ (sz9 _ _ (sz8 _ _ (sz7 _ _ hz6))))))) (.cons (show b7 HZ p7 (5, 3) from (szL _ _ (sz11 _ _ (sz10 _ _ (sz9 _ _ (sz8 _ _ hz7)))))) (.cons (show b7 HZ p8 (3, 12) from (szL _ _ (sz11 _ _ (sz10 _ _ (sz9 _ _ hz8))))) (.cons (show b7 HZ p9 (2, 20) from (szL _ _ (sz11 _ _ (sz10 _ _ hz9)))) (.cons (show b7 HZ p10 (6, 2) from (szL _ _ (sz11 _ _ hz10))) (.cons (show b7 HZ p11 (4, 2) from (szL _ _ hz11)) .nil))))))))))))⟩
  clear hz0 sz0 hz1 sz1 hz2 sz2 hz3 sz3 hz4 sz4 hz5 sz5 hz6 sz6 hz7 sz7 hz8 sz8 hz9 sz9 hz10 sz10 hz11 sz11 szL hsa
  refine ⟨_, rfl, _, rfl, ?_⟩
  walk_at "go"
  refine ⟨bY, fun ta nta => ?_⟩
  refine ⟨a, sa, ta, ns, _, [5 * 10 ^ 17 + 1, 5, 2, 10 ^ 9 + 7], rfl, (sZ.trans (Same.new nta)).seq hS, hl, rsz.same (Same.new nta), by decide, by decide, SqL.of ab, by decide, by decide, fun t l y rs rows bs ts tp H1 s1 nt ht nl hl1 bl1 fr1 hex bo rok tpm ny hy tt t12 => ?_⟩
  have s01 := (sZ.trans (Same.new nta)).trans s1
  have bnd : 1 <= rows.length /\ rows.length <= 6 /\ bs.length <= 20 := by
   obtain ⟨x, hx, e1, e2⟩ := hex
   have := (show ∀ x ∈ ([(3, 3), (2, 6), (4, 4), (3, 5), (4, 5), (1, 1), (2, 2), (5, 3), (3, 12), (2, 20), (6, 2), (4, 2)] : List (Int × Int)), 1 <= x.1 /\ x.1 <= 6 /\ x.2 <= 20 by decide) x hx
   omega
  obtain ⟨r1, r6, b20⟩ := bnd
  have r20 : ∀ row ∈ rows, row.length <= 20 := fun row hr => CO (bo.len row hr) b20
  have qb : QB rows bs := ⟨r6, fun row hr => ⟨r20 row hr, rG (bo.up row hr)⟩, bo.up, fun row hr x hx => ((rok row hr).inn x hx).2.1, bo.inn, by omega⟩
  refine ⟨t, _, rfl, SqT.of ht, rfl, _, _, rfl, _, _, rfl, rfl, ?_⟩
  refine ⟨_, rfl, _, rfl, y, _, rfl, SqL.of hy, fun y2 ny2 => ?_⟩
  have ecut : fV (ts.map fun x => V.ref x.1) none (some 11) = (ts.take 11).map fun x => V.ref x.1 := by rw [Ej]; exact uF _ 11
  rw [ecut]
  have s2 := Same.new (o := .lst ((ts.take 11).map fun x => V.ref x.1)) ny2
  have hy2 : az H1 y2 (.lst ((ts.take 11).map fun x => V.ref x.1)) y2 = some (.lst ((ts.take 11).map fun x => V.ref x.1)) := ab
  have tt2 : ∀ x ∈ ts.take 11, TieT H1 x /\ TieG rows.length x := fun x hx => tt x (Ec hx)
  have t11 : (ts.take 11).length <= 11 := by rw [CW]; omega
  generalize az H1 y2 (.lst ((ts.take 11).map fun x => V.ref x.1)) = H2 at s2 hy2
  generalize ts.take 11 = tk at hy2 tt2 t11
  have s02 := s01.trans s2
  have hl2 := s2 _ _ hl1
  have bl2 := bl1.same s2
  have tt2 : ∀ x ∈ tk, TieT H2 x /\ TieG rows.length x := fun x hx => ⟨(tt2 x hx).1.same s2, (tt2 x hx).2⟩
  have tOk : ∀ Hx, Same H2 Hx -> Ties K Hx y2 tk 100 := fun Hx sx => ⟨SqL.of (sx _ _ hy2), fun x hx => (tt2 x hx).1.same sx, by omega⟩
  have tG : ∀ x ∈ tk, TieG rows.length x := fun x hx => (tt2 x hx).2
  have t6 : ∀ Hx, Same H2 Hx -> ∀ x ∈ tk, TieT Hx x /\ TieG rows.length x := fun Hx sx x hx => ⟨(tt2 x hx).1.same sx, (tt2 x hx).2⟩
  refine ⟨_, rfl, a, ns, 3, rfl, s02.seq hS, ?_⟩
  generalize ns.getD 3 0 = ce
  clear s1 s2 hl1 bl1 tt hy ecut rsz
  refine ⟨_, rfl, _, rfl, l, y2, rs, rows, bs, tk, rfl, hl2, bl2, qb, hy2, tt2, by omega, fun t3 l3 o hs H3 s3 ht3 hl3 lt => ?_⟩
  refine ⟨t3, _, rfl, SqT.of ht3, rfl, _, _, rfl, _, _, rfl, rfl, ?_⟩
  refine ⟨_, rfl, _, rfl, l, ce, rs, rows, bs, rfl, s3 _ _ hl2, bl2.same s3, qb, fun t4 l4 dh mi H4 s4 ht4 hl4 hmi => ?_⟩
  refine ⟨t4, _, rfl, SqT.of ht4, rfl, _, _, rfl, _, _, rfl, rfl, ?_⟩
  have s24 := s3.trans s4
  have nm1 : ∀ (o' : Option Int) (hs' : List Int) (rows' : bO), QB rows' bs -> LT rows' (tk.map bW) o' hs' -> decide (hV o' = V.int (-1)) = false := fun o' hs' rows' qb' lt' => by
   rcases lt' with ⟨rfl, _, _⟩ | ⟨rfl, _, _⟩
   ·rfl
   ·have := vQ (hs := hs') qb'.nn
    exact decide_eq_false fun z => by injection z; omega
  dsimp only [wb, we]
  refine vZ (fun R r => ?_) ?_
  ·refine ⟨_, rfl, _, rfl, by cases o <;> rfl, _, rfl, ?_⟩
   have n1 : decide (hV o = (fun i => V.int (-i)) 1) = false := nm1 o hs rows qb lt
   rw [n1]
   refine bz ?_
   refine ⟨_, rfl, _, rfl, _, rfl, l4, l, y2, rs, rows, tk, dh, rfl, hl4, SqL.of (s24 _ _ hl2), bl2.same s24, r6, r20, tOk _ s24, tG, fun H5 s5 => ⟨_, rfl, ?_⟩⟩
   cases fb : nA (bx rows) tk dh with
   | false => exact bz (r H5 s5)
   | true =>
    have ipd := o4.mp fb
    rcases lt with ⟨_, _, no⟩ | ⟨rfl, ip, low⟩
    ·exact absurd ipd (no dh)
    ·have hd := ipd.len
     rw [cJ] at hd
     have em := hmi hd (by omega)
     have := low dh ipd
     refine bH ⟨_, rfl, rfl, _, rfl, bz ⟨_, rfl, _, rfl, _, _, rfl, rfl, _, rfl, ?_⟩⟩
     rw [decide_eq_false (by omega)]
     exact r H5 s5
  intro H5 s5
  refine bz ?_
  have s25 := s24.trans s5
  refine ⟨_, rfl, a, ns, 2, rfl, (s02.trans s25).seq hS, ?_⟩
  generalize ns.getD 2 0 = c2
  walk_at "go"
  have rl : rs.length = rows.length := bl2.len
  obtain ⟨at', hat, em⟩ := qB ce (n := rows.length) (by omega)
  have mo0 : 0 <= c2 % (5 * 10 ^ Int.toNat 17 + 1) := DK _ (by decide)
  have lgl : (rR rows at' (c2 % (5 * 10 ^ Int.toNat 17 + 1))).length = rows.length := by unfold rR; rw [Dw]
  refine ⟨_, rows.length, rfl, .inl ⟨_, SqL.of (s25 _ _ hl2), by rw [B9, rl]⟩, _, _, rfl, rfl, (show (0 : Int) < (rows.length : Int) by omega), _, rfl, l, at', c2 % (5 * 10 ^ Int.toNat 17 + 1), rs, rows, bs, (by show [V.ref l, V.int (ce % (rows.length : Int)), _] = _; rw [em]), s25 _ _ hl2, bl2.same s25, qb, hat, fun l5 ls5 H6 s6 hl5 bl5 => ?_⟩
  have s26 := s25.trans s6
  have qb5 := zh (more := c2 % (5 * 10 ^ Int.toNat 17 + 1)) qb hat mo0
  have may5 := xK (more := c2 % (5 * 10 ^ Int.toNat 17 + 1)) hat
  have min5 : ∀ h, IsPlan (bx rows) (tk.map bW) h -> aI (rR rows at' (c2 % (5 * 10 ^ Int.toNat 17 + 1))) h = aI rows h + c2 % (5 * 10 ^ Int.toNat 17 + 1) := fun h ip => xM hat ip
  refine ⟨_, rfl, l5, y2, ls5, _, bs, tk, rfl, hl5, bl5, qb5, s26 _ _ hy2, fun x hx => ⟨(tt2 x hx).1.same s26, by rw [lgl]; exact tG x hx⟩, by omega, fun t6 l6 o6 hs6 H7 s7 ht6 hl6 lt6 => ?_⟩
  refine ⟨t6, _, _, _, rfl, rfl, SqT.of ht6, rfl, ?_⟩
  have rel6 : (o = none -> o6 = none) /\ ∀ z, o = some z -> o6 = some (z + c2 % (5 * 10 ^ Int.toNat 17 + 1)) := by
   unfold LT at lt6
   rw [may5] at lt6
   rcases lt with ⟨rfl, _, no⟩ | ⟨rfl, ip, low⟩
   ·refine ⟨fun _ => ?_, (fun z e => by cases e)⟩
    rcases lt6 with ⟨e, _, _⟩ | ⟨_, ip6, _⟩
    ·exact e
    ·exact absurd ip6 (no _)
   ·refine ⟨(fun e => by cases e), fun z e => ?_⟩
    cases e
    rcases lt6 with ⟨_, _, no6⟩ | ⟨e, ip6, low6⟩
    ·exact absurd ip (no6 _)
    ·rw [e]
     have a1 := low6 hs ip
     have a2 := low hs6 ip6
     rw [min5 hs ip, min5 hs6 ip6] at a1
     rw [min5 hs6 ip6]
     congr 1
     omega
  have s27 := s26.trans s7
  dsimp only [wb, we]
  refine vZ (fun R r => ?_) ?_
  ·refine ⟨_, rfl, rfl, ?_⟩
   rw [kg]
   cases o with
   | none =>
    refine ⟨_, rfl, bH ⟨_, rfl, rfl, ?_⟩⟩
    rw [kg, rel6.1 rfl]
    refine ⟨_, rfl, bz ⟨_, rfl, rfl, _, rfl, bz (r H7 (Same.refl _))⟩⟩
   | some z =>
    refine ⟨_, rfl, bz (bz ⟨_, rfl, rfl, _, rfl, bH ⟨_, rfl, _, rfl, _, rfl, _, _, rfl, rfl, ?_⟩⟩)⟩
    rw [rel6.2 z rfl]
    refine ⟨rfl, _, rfl, ?_⟩
    have rr := r H7 (Same.refl _)
    rw [<- show (!decide (V.int (z + c2 % (5 * 10 ^ Int.toNat 17 + 1)) = V.int (z + c2 % (5 * 10 ^ Int.toNat 17 + 1)))) = false by rw [decide_eq_true rfl]; rfl] at rr
    exact rr
  intro H8 s8
  refine bz ?_
  have s28 := s27.trans s8
  generalize hσ : List.set _ 10 (some (hV o6)) = σ0
  obtain ⟨mo, hσ⟩ : ∃ mo : Int, σ0 = [some (.ref a), some (.ref sa), some (.ref l), some (.ref y2), some (.int ce), some (hV o), some (.ref l3), some (.ref l4), some (.int mi), some (.int mo), some (hV o6), none, none, none, none] := ⟨_, hσ.symm⟩
  subst hσ
  have hl38 : H8 l3 = some (.lst (hs.map V.int)) := (((s4.trans s5).trans s6).trans (s7.trans s8)) _ _ hl3
  clear s24 s25 s26 s27 s3 s4 s5 s6 s7 s8 ht3 hl3 ht4 hl4 ht6 hl6 lt6 rel6 bl5 hl5
  refine ⟨_, rfl, _, rfl, _, _, rfl, rfl, ⟨by decide, by decide⟩, l, ce / 5, rs, rows, bs, rfl, s28 _ _ hl2, bl2.same s28, qb, fun g H9 s9 => ?_⟩
  have s29 := s28.trans s9
  refine ⟨_, rfl, _, rfl, l, g, rs, rows, rfl, SqL.of (s29 _ _ hl2), bl2.same s29, r6, r20, fun lw ms H10 s10 nlw hlw blw => ?_⟩
  have s2a := s29.trans s10
  have wl : (mw rows [g]).length = rows.length := B9 _
  refine ⟨_, rfl, lw, y2, ms, mw rows [g], bs, tk, rfl, hlw, blw, qb.wo [g], s2a _ _ hy2, fun x hx => ⟨(tt2 x hx).1.same s2a, by rw [wl]; exact tG x hx⟩, by omega, fun t11 l11 o11 hs11 H11 s11 ht11 hl11 lt11 => ?_⟩
  refine ⟨t11, _, _, _, rfl, rfl, SqT.of ht11, rfl, ?_⟩
  have s2b := s2a.trans s11
  have n11 := nm1 o11 hs11 (mw rows [g]) (qb.wo [g]) lt11
  have wop : ∀ h, IsPlan (bx (mw rows [g])) (tk.map bW) h <-> IsPlan (bx rows) (tk.map bW) h /\ ∀ x ∈ h, x ∉ [g] := fun h => by rw [xG]; exact rP
  have wom : ∀ h, IsPlan (bx (mw rows [g])) (tk.map bW) h -> aI (mw rows [g]) h = aI rows h := fun h ip => zj (fun row hr => (qb.ok row hr).2) ip
  have f1 : o = none -> o11 = none := fun e => by
   rcases lt with ⟨_, _, no⟩ | ⟨e', _, _⟩
   ·rcases lt11 with ⟨e1, _, _⟩ | ⟨_, ip, _⟩
    ·exact e1
    ·exact absurd ((wop _).mp ip).1 (no _)
   ·rw [e] at e'; cases e'
  have f3 : ∀ z, o = some z -> ∀ y, o11 = some y -> z <= y := fun z e y e1 => by
   rcases lt with ⟨e', _, _⟩ | ⟨e', _, low⟩
   ·rw [e] at e'; cases e'
   ·rcases lt11 with ⟨e2, _, _⟩ | ⟨e2, ip, _⟩
    ·rw [e1] at e2; cases e2
    ·rw [e] at e'; rw [e1] at e2
     injection e' with e'; injection e2 with e2
     rw [e', e2, wom _ ip]
     exact low _ ((wop _).mp ip).1
  have f2 : ∀ z, o = some z -> (!decide (g ∈ hs)) = true -> o11 = some z := fun z e ng => by
   rcases lt with ⟨e', _, _⟩ | ⟨e', ip0, low⟩
   ·rw [e] at e'; cases e'
   ·have ipw := (wop hs).mpr ⟨ip0, fun x hx z => by
     rw [Cm.mp z] at hx
     rw [decide_eq_true hx] at ng; cases ng⟩
    rcases lt11 with ⟨_, _, no⟩ | ⟨e2, ip, low1⟩
    ·exact absurd ipw (no _)
    ·rw [e] at e'
     injection e' with e'
     rw [e2, e']
     have a1 := low1 hs ipw
     have a2 := low hs11 ((wop _).mp ip).1
     rw [wom _ ipw, wom _ ip] at a1
     rw [wom _ ip]
     congr 1
     omega
  have hl3b : H11 l3 = some (.lst (hs.map V.int)) := ((s9.trans s10).trans s11) _ _ hl38
  clear lt11 wop wom ht11 hl11 hlw blw nlw s10 s9 s11 s2a s29
  dsimp only [wb, we]
  refine vZ (fun R r => ?_) ?_
  ·refine ⟨_, rfl, _, rfl, by cases o11 <;> rfl, _, rfl, ?_⟩
   have n1 : decide (hV o11 = (fun i => V.int (-i)) 1) = false := n11
   rw [n1]
   refine bz ?_
   refine ⟨_, rfl, _, rfl, _, rfl, _, rfl, l3, _, rfl, .inl (SqL.of hl3b), rfl, j0 hs, ?_⟩
   refine ⟨o11, o, !decide (g ∈ hs), by rw [mY]; rfl, f1, f2, f3, ?_⟩
   exact ⟨_, rfl, r _ (Same.refl _)⟩
  intro H12 s12
  refine bz ?_
  have s2c := s2b.trans s12
  have hl3c := s12 _ _ hl3b
  clear s2b s12 hl3b f1 f2 f3 n11
  refine ⟨_, rfl, _, rfl, _, _, rfl, rfl, ⟨by decide, by decide⟩, _, rfl, _, _, rfl, rfl, ⟨by decide, by decide⟩, bY, fun c3 nc3 => ?_⟩
  have sc3 := Same.new (o := .lst [V.int ce, V.int (ce / 64), V.int (ce / 768)]) nc3
  refine ⟨_, rfl, _, rows.length, rfl, .inl ⟨_, SqL.of (sc3 _ _ (s2c _ _ hl2)), by rw [B9, rl]⟩, ?_⟩
  refine ⟨c3, [ce, ce / 64, ce / 768], rows.length, rfl, SqL.of ab, (show 3 <= 200 by decide), r1, r6, fun lt2 tz H13 s13 nlt hlt ttz ltz => ?_⟩
  have s2d := s2c.trans (sc3.trans s13)
  have hl3d := s13 _ _ (sc3 _ _ hl3c)
  obtain ⟨te, rfl⟩ : ∃ te, tz = [te] := List.length_eq_one_iff.mp (by simpa using ltz)
  refine ⟨lt2, _, _, .ref te.1, rfl, rfl, SqL.of hlt, rfl, ?_⟩
  have tte := ttz te (Cm.mpr rfl)
  refine ⟨_, rfl, _, rfl, _, rfl, bY, fun l1 nl1 => ?_⟩
  have sl1 := Same.new (o := .lst [V.ref te.1]) nl1
  refine ⟨y2, l1, _, _, rfl, rfl, sl1 _ _ (s2d _ _ hy2), ab, wU (by simp; omega), fun y3 ny3 => ?_⟩
  have sy3 := Same.new (o := .lst ((tk.map fun x => V.ref x.1) ++ [V.ref te.1])) ny3
  have hy3 : az (az H13 l1 (.lst [V.ref te.1])) y3 (.lst ((tk.map fun x => V.ref x.1) ++ [V.ref te.1])) y3 = some (.lst ((tk ++ [te]).map fun x => V.ref x.1)) := by rw [ab, Cn]; rfl
  have sde := sl1.trans sy3
  generalize az (az H13 l1 (.lst [V.ref te.1])) y3 (.lst ((tk.map fun x => V.ref x.1) ++ [V.ref te.1])) = H14 at sy3 hy3 sde ⊢
  have s2e := s2d.trans sde
  have hl3e := sde _ _ hl3d
  have tte := And.intro (tte.1.same sde) tte.2
  refine ⟨l, y3, rs, rows, bs, tk ++ [te], rfl, s2e _ _ hl2, bl2.same s2e, qb, hy3, fun x hx => ?_, by rw [Ck, Cp]; omega, fun t15 l15 o15 hs15 H15 s15 ht15 hl15 lt15 => ?_⟩
  ·rcases CC.mp hx with z | z
   ·exact ⟨(tt2 x z).1.same s2e, tG x z⟩
   ·rw [Cm.mp z]; exact tte
  refine ⟨t15, _, _, _, rfl, rfl, SqT.of ht15, rfl, ?_⟩
  have n15 : decide (hV o15 = V.int (-1)) = false := by
   rcases lt15 with ⟨e, _, _⟩ | ⟨e, _, _⟩
   ·rw [e]; rfl
   ·have := vQ (hs := hs15) qb.nn
    rw [e]
    exact decide_eq_false fun z => by injection z; omega
  have tp : ∀ h, IsPlan (bx rows) ((tk ++ [te]).map bW) h <-> IsPlan (bx rows) (tk.map bW) h /\ yg h te = true := fun h => by
   rw [Cn]
   refine ⟨fun ip => ⟨⟨ip.len, ip.of, fun t ht => ip.kp t (CA _ ht)⟩, ip.kp (bW te) (CJ _ (Cm.mpr rfl))⟩, fun ⟨ip, k⟩ => ⟨ip.len, ip.of, fun t ht => ?_⟩⟩
   rcases CC.mp ht with z | z
   ·exact ip.kp t z
   ·rw [Cm.mp z]; exact k
  have g1 : o = none -> o15 = none := fun e => by
   rcases lt with ⟨_, _, no⟩ | ⟨e', _, _⟩
   ·rcases lt15 with ⟨e1, _, _⟩ | ⟨_, ip, _⟩
    ·exact e1
    ·exact absurd ((tp _).mp ip).1 (no _)
   ·rw [e] at e'; cases e'
  have g3 : ∀ z, o = some z -> ∀ y, o15 = some y -> z <= y := fun z e y e1 => by
   rcases lt with ⟨e', _, _⟩ | ⟨e', _, low⟩
   ·rw [e] at e'; cases e'
   ·rcases lt15 with ⟨e2, _, _⟩ | ⟨e2, ip, _⟩
    ·rw [e1] at e2; cases e2
    ·rw [e] at e'; rw [e1] at e2
     injection e' with e'; injection e2 with e2
     rw [e', e2]
     exact low _ ((tp _).mp ip).1
  have g2 : ∀ z, o = some z -> yg hs te = true -> o15 = some z := fun z e ng => by
   rcases lt with ⟨e', _, _⟩ | ⟨e', ip0, low⟩
   ·rw [e] at e'; cases e'
   ·have ipw := (tp hs).mpr ⟨ip0, ng⟩
    rcases lt15 with ⟨_, _, no⟩ | ⟨e2, ip, low1⟩
    ·exact absurd ipw (no _)
    ·rw [e] at e'
     injection e' with e'
     rw [e2, e']
     have a1 := low1 hs ipw
     have a2 := low hs15 ((tp _).mp ip).1
     congr 1
     omega
  refine ⟨_, rfl, _, rfl, by cases o15 <;> rfl, _, rfl, ?_⟩
  rw [show decide (hV o15 = (fun i => V.int (-i)) 1) = false from n15]
  refine bH ⟨_, rfl, _, rfl, _, rfl, rfl, _, rfl, ?_⟩
  rw [kg]
  cases o with
  | none =>
   refine bz ?_
   refine ⟨o15, none, false, rfl, g1, (fun z e => by cases e), (fun z e => by cases e), q _⟩
  | some z =>
   refine bH ⟨_, rfl, _, rfl, l3, hs, te, rfl, SqL.of (s15 _ _ hl3e), tte.1.same s15, fun i hi => ?_, fun H16 s16 => ?_⟩
   ·rcases lt with ⟨e', _, _⟩ | ⟨_, ip0, _⟩
    ·cases e'
    ·rw [ip0.len, cJ]
     exact tte.2.lt i hi
   ·exact ⟨o15, some z, yg hs te, rfl, g1, g2, g3, q _⟩
end
def Fd (K : PySem.W.Frag) (nm : Str) (st : Stmt) (f : Addr) : Prop := ∃ (od an : Option Addr) (sl : Array (Option Value)) (oc kV dc pm cd ct : Value), PySem.W.nsIn K mainGlobals nm = some (some (.ref f)) /\ K.lookup f = some ⟨oc, od, .func (PySem.W.fnOf nm nm (eF st) (dC st) (aq st) .none kV dc pm an cd ct), sl⟩ /\ PySem.W.codeIn K cd nm = true /\ PySem.W.keepIn K (.ref f) = true
theorem aQ {K : PySem.W.Frag} {nm : Str} {st : Stmt} {f : Addr} {h : Heap} {mg : Str -> Option Value} {ps : List Str} (X : K.In h) (G : h.Ns mainGlobals mg) (q : Fd K nm st f) (hb : ∀ (kV dc pm : Value) (an : Option Addr) (cd ct : Value) (us : List Value), us.length = ps.length -> bindArgs (PySem.W.fnOf nm nm (eF st) (dC st) (aq st) .none kV dc pm an cd ct) ⟨us, []⟩ = pure (ps.zip us)) : ∃ fd, Def K mg nm st ps f fd /\ ∀ (s : Shared) (us : List Value), us.length = ps.length -> BindsTo s fd ⟨us, []⟩ (ps.zip us) := by
 obtain ⟨od, an, sl, oc, kV, dc, pm, cd, ct, a, l, c, k⟩ := q
 have F := yM (st := st) l c k
 exact ⟨_, ⟨F, F.binds hb, PySem.W.mg_of X G a⟩, fun s us hl => .of_eq (hb kV dc pm an cd ct us hl)⟩
theorem zo {F : List Value -> Prop} {x0 : Str} (h : ∀ v0, F [v0]) : ∀ us : List Value, us.length = [x0].length -> F us := fun us hl => by obtain ⟨_, rfl⟩ := Bn hl; exact h _
theorem oe {F : List Value -> Prop} {x0 x1 : Str} (h : ∀ v0 v1, F [v0, v1]) : ∀ us : List Value, us.length = [x0, x1].length -> F us := fun us hl => by obtain ⟨_, _, rfl⟩ := AO hl; exact h _ _
theorem v5 {F : List Value -> Prop} {x0 x1 x2 : Str} (h : ∀ v0 v1 v2, F [v0, v1, v2]) : ∀ us : List Value, us.length = [x0, x1, x2].length -> F us := fun us hl => by obtain ⟨_, _, _, rfl⟩ := B0 hl; exact h _ _ _
theorem BB {F : List Value -> Prop} {x0 x1 x2 x3 : Str} (h : ∀ v0 v1 v2 v3, F [v0, v1, v2, v3]) : ∀ us : List Value, us.length = [x0, x1, x2, x3].length -> F us := fun us hl => by obtain ⟨_, _, _, _, rfl⟩ := B1 hl; exact h _ _ _ _
theorem BC {F : List Value -> Prop} {x0 x1 x2 x3 x4 : Str} (h : ∀ v0 v1 v2 v3 v4, F [v0, v1, v2, v3, v4]) : ∀ us : List Value, us.length = [x0, x1, x2, x3, x4].length -> F us := fun us hl => by obtain ⟨_, _, _, _, _, rfl⟩ := B2 hl; exact h _ _ _ _ _
theorem aR {K : PySem.W.Frag} {nm : Str} {st : Stmt} {f : Addr} {od an : Option Addr} {sl : Array (Option Value)} {oc kV dc pm cd ct : Value} (a : PySem.W.nsIn K mainGlobals nm = some (some (.ref f))) (l : K.lookup f = some ⟨oc, od, .func (PySem.W.fnOf nm nm (eF st) (dC st) (aq st) .none kV dc pm an cd ct), sl⟩) (c : PySem.W.codeIn K cd nm = true) (k : PySem.W.keepIn K (.ref f) = true) : Fd K nm st f := ⟨od, an, sl, oc, kV, dc, pm, cd, ct, a, l, c, k⟩
theorem zp {l : PySem.W.OpenLaw} {w : World} {K : PySem.W.Frag} {h : Heap} {mg : Str -> Option Value} {fa fl f0 f1 f2 f3 f4 f5 f6 f7 f8 f9 f10 f11 f12 f13 f14 f15 f16 f17 f18 f19 f20 f21 f22 f23 f24 f25 f26 f27 f28 f29 f30 f31 f32 f33 f34 f35 f36 f37 f38 f39 f40 f41 : Addr} (X : K.In h) (G : h.Ns mainGlobals mg) (hfa : mg "law" = some (.ref fa))
  (q0 : Fd K "common" kK f0)
  (q1 : Fd K "width" nO f1)
  (q2 : Fd K "grown" nP f2)
  (q3 : Fd K "breaks" kL f3)
  (q4 : Fd K "first_broken" df f4)
  (q5 : Fd K "unlike" kM f5)
  (q6 : Fd K "pools_of" gv f6)
  (q7 : Fd K "pool_of" iS f7)
  (q8 : Fd K "may_of" kN f8)
  (q9 : Fd K "minutes_of" eK f9)
  (q10 : Fd K "sums" qM f10)
  (q11 : Fd K "sums_of" iT f11)
  (q12 : Fd K "added" nQ f12)
  (q13 : Fd K "deal" qN f13)
  (q14 : Fd K "settle" kO f14)
  (q15 : Fd K "short_places" dg f15)
  (q16 : Fd K "hands_of" gw f16)
  (q17 : Fd K "plan" qO f17)
  (q18 : Fd K "plan_from" fo f18)
  (q19 : Fd K "cheap" nR f19)
  (q20 : Fd K "serve" nT f20)
  (q21 : Fd K "nearest_badge" cU f21)
  (q22 : Fd K "raise_all" fq f22)
  (q23 : Fd K "hand_on" iU f23)
  (q24 : Fd K "quick" nU f24)
  (q25 : Fd K "quickest" gx f25)
  (q26 : Fd K "bearing" iV f26)
  (q27 : Fd K "_law_cell" gy f27)
  (q28 : Fd K "_law_entries" dN f28)
  (q29 : Fd K "_law_whole" fz f29)
  (q30 : Fd K "_law_badges" eL f30)
  (q31 : Fd K "_law_bill" gA f31)
  (q32 : Fd K "_law_ties" gB f32)
  (q33 : Fd K "_law_case" gC f33)
  (q34 : Fd K "_law_keeps" fA f34)
  (q35 : Fd K "_law_plan" gD f35)
  (q36 : Fd K "_law_told" gE f36)
  (q37 : Fd K "_law_drawn" fB f37)
  (q38 : Fd K "_law_longer" eM f38)
  (q39 : Fd K "_law_without" dO f39)
  (q40 : Fd K "_law_badge" fC f40)
  (q41 : Fd K "_law_later" fD f41)
  (q42 : Fd K "law" vS fl)
  (z0 : PySem.W.nsIn K mainGlobals "bool" = some none)
  (z1 : PySem.W.nsIn K mainGlobals "dict" = some none)
  (z2 : PySem.W.nsIn K mainGlobals "int" = some none)
  (z3 : PySem.W.nsIn K mainGlobals "isinstance" = some none)
  (z4 : PySem.W.nsIn K mainGlobals "len" = some none)
  (z5 : PySem.W.nsIn K mainGlobals "list" = some none)
  (z6 : PySem.W.nsIn K mainGlobals "min" = some none)
  (z7 : PySem.W.nsIn K mainGlobals "range" = some none)
  (z8 : PySem.W.nsIn K mainGlobals "reversed" = some none)
  (z9 : PySem.W.nsIn K mainGlobals "set" = some none)
  (z10 : PySem.W.nsIn K mainGlobals "sorted" = some none)
  (z11 : PySem.W.nsIn K mainGlobals "sum" = some none)
  (z12 : PySem.W.nsIn K mainGlobals "tuple" = some none)
  (z13 : PySem.W.nsIn K mainGlobals "zip" = some none)
  : ∃ fd : FuncData, (∀ (s : Shared) (v : Value), BindsTo s fd ⟨[v], []⟩ [("script", v)]) /\ ∀ base : Heap, K.In base -> base.Ns mainGlobals mg -> FnOk l.prog w K mg base aZ 60 fa fd ["script"] (oa K) := by
 obtain ⟨dl, Dl, Bl⟩ := aQ (ps := ["script"]) X G q42 (fun _ _ _ _ _ _ => zo fun _ => rfl)
 have e := hfa.symm.trans Dl.at'
 cases e
 have T : Txt mg := ⟨PySem.W.mg_none_of X G z0, PySem.W.mg_none_of X G z1, PySem.W.mg_none_of X G z2, PySem.W.mg_none_of X G z3, PySem.W.mg_none_of X G z4, PySem.W.mg_none_of X G z5, PySem.W.mg_none_of X G z6, PySem.W.mg_none_of X G z7, PySem.W.mg_none_of X G z8, PySem.W.mg_none_of X G z9, PySem.W.mg_none_of X G z10, PySem.W.mg_none_of X G z11, PySem.W.mg_none_of X G z12, PySem.W.mg_none_of X G z13⟩
 obtain ⟨d0, D0, -⟩ := aQ (ps := ["one", "other"]) X G q0 (fun _ _ _ _ _ _ => oe fun _ _ => rfl)
 obtain ⟨d1, D1, -⟩ := aQ (ps := ["pattern"]) X G q1 (fun _ _ _ _ _ _ => zo fun _ => rfl)
 obtain ⟨d2, D2, -⟩ := aQ (ps := ["pattern"]) X G q2 (fun _ _ _ _ _ _ => zo fun _ => rfl)
 obtain ⟨d3, D3, -⟩ := aQ (ps := ["pattern", "tie"]) X G q3 (fun _ _ _ _ _ _ => oe fun _ _ => rfl)
 obtain ⟨d4, D4, -⟩ := aQ (ps := ["pattern", "ties"]) X G q4 (fun _ _ _ _ _ _ => oe fun _ _ => rfl)
 obtain ⟨d5, D5, -⟩ := aQ (ps := ["row", "steps"]) X G q5 (fun _ _ _ _ _ _ => oe fun _ _ => rfl)
 obtain ⟨d6, D6, -⟩ := aQ (ps := ["pattern", "may"]) X G q6 (fun _ _ _ _ _ _ => oe fun _ _ => rfl)
 obtain ⟨d7, D7, -⟩ := aQ (ps := ["block", "pattern", "may"]) X G q7 (fun _ _ _ _ _ _ => v5 fun _ _ _ => rfl)
 obtain ⟨d8, D8, -⟩ := aQ (ps := ["bill"]) X G q8 (fun _ _ _ _ _ _ => zo fun _ => rfl)
 obtain ⟨d9, D9, -⟩ := aQ (ps := ["bill", "hands"]) X G q9 (fun _ _ _ _ _ _ => oe fun _ _ => rfl)
 obtain ⟨d10, D10, -⟩ := aQ (ps := ["pattern", "bill"]) X G q10 (fun _ _ _ _ _ _ => oe fun _ _ => rfl)
 obtain ⟨d11, D11, -⟩ := aQ (ps := ["block", "pattern", "bill"]) X G q11 (fun _ _ _ _ _ _ => v5 fun _ _ _ => rfl)
 obtain ⟨d12, D12, -⟩ := aQ (ps := ["pairs", "minutes"]) X G q12 (fun _ _ _ _ _ _ => oe fun _ _ => rfl)
 obtain ⟨d13, D13, -⟩ := aQ (ps := ["pools"]) X G q13 (fun _ _ _ _ _ _ => zo fun _ => rfl)
 obtain ⟨d14, D14, -⟩ := aQ (ps := ["pools", "holders", "place", "asked"]) X G q14 (fun _ _ _ _ _ _ => BB fun _ _ _ _ => rfl)
 obtain ⟨d15, D15, -⟩ := aQ (ps := ["holders", "place", "asked"]) X G q15 (fun _ _ _ _ _ _ => v5 fun _ _ _ => rfl)
 obtain ⟨d16, D16, -⟩ := aQ (ps := ["holders", "count"]) X G q16 (fun _ _ _ _ _ _ => oe fun _ _ => rfl)
 obtain ⟨d17, D17, -⟩ := aQ (ps := ["may", "ties"]) X G q17 (fun _ _ _ _ _ _ => oe fun _ _ => rfl)
 obtain ⟨d18, D18, -⟩ := aQ (ps := ["pattern", "may", "ties"]) X G q18 (fun _ _ _ _ _ _ => v5 fun _ _ _ => rfl)
 obtain ⟨d19, D19, -⟩ := aQ (ps := ["pools"]) X G q19 (fun _ _ _ _ _ _ => zo fun _ => rfl)
 obtain ⟨d20, D20, -⟩ := aQ (ps := ["pools", "hands", "prices", "dues", "place"]) X G q20 (fun _ _ _ _ _ _ => BC fun _ _ _ _ _ => rfl)
 obtain ⟨d21, D21, -⟩ := aQ (ps := ["pools", "prices", "dues", "reached", "askers"]) X G q21 (fun _ _ _ _ _ _ => BC fun _ _ _ _ _ => rfl)
 obtain ⟨d22, D22, -⟩ := aQ (ps := ["numbers", "keys", "gap"]) X G q22 (fun _ _ _ _ _ _ => v5 fun _ _ _ => rfl)
 obtain ⟨d23, D23, -⟩ := aQ (ps := ["hands", "askers", "badge"]) X G q23 (fun _ _ _ _ _ _ => v5 fun _ _ _ => rfl)
 obtain ⟨d24, D24, -⟩ := aQ (ps := ["bill", "ties"]) X G q24 (fun _ _ _ _ _ _ => oe fun _ _ => rfl)
 obtain ⟨d25, D25, -⟩ := aQ (ps := ["pattern", "bill", "ties", "known"]) X G q25 (fun _ _ _ _ _ _ => BB fun _ _ _ _ => rfl)
 obtain ⟨d26, D26, -⟩ := aQ (ps := ["pattern", "bill", "ties", "bound"]) X G q26 (fun _ _ _ _ _ _ => BB fun _ _ _ _ => rfl)
 obtain ⟨d27, D27, -⟩ := aQ (ps := ["script", "k"]) X G q27 (fun _ _ _ _ _ _ => oe fun _ _ => rfl)
 obtain ⟨d28, D28, -⟩ := aQ (ps := ["script", "size"]) X G q28 (fun _ _ _ _ _ _ => oe fun _ _ => rfl)
 obtain ⟨d29, D29, -⟩ := aQ (ps := ["found"]) X G q29 (fun _ _ _ _ _ _ => zo fun _ => rfl)
 obtain ⟨d30, D30, -⟩ := aQ (ps := ["cells", "gap", "high"]) X G q30 (fun _ _ _ _ _ _ => v5 fun _ _ _ => rfl)
 obtain ⟨d31, D31, -⟩ := aQ (ps := ["cells", "badges", "dense", "top", "count"]) X G q31 (fun _ _ _ _ _ _ => BC fun _ _ _ _ _ => rfl)
 obtain ⟨d32, D32, -⟩ := aQ (ps := ["cells", "count"]) X G q32 (fun _ _ _ _ _ _ => oe fun _ _ => rfl)
 obtain ⟨d33, D33, -⟩ := aQ (ps := ["script", "sizes", "tops"]) X G q33 (fun _ _ _ _ _ _ => v5 fun _ _ _ => rfl)
 obtain ⟨d34, D34, -⟩ := aQ (ps := ["hands", "tie"]) X G q34 (fun _ _ _ _ _ _ => oe fun _ _ => rfl)
 obtain ⟨d35, D35, -⟩ := aQ (ps := ["hands", "bill", "ties"]) X G q35 (fun _ _ _ _ _ _ => v5 fun _ _ _ => rfl)
 obtain ⟨d36, D36, -⟩ := aQ (ps := ["bill", "ties"]) X G q36 (fun _ _ _ _ _ _ => oe fun _ _ => rfl)
 obtain ⟨d37, D37, -⟩ := aQ (ps := ["bill", "cell"]) X G q37 (fun _ _ _ _ _ _ => oe fun _ _ => rfl)
 obtain ⟨d38, D38, -⟩ := aQ (ps := ["bill", "at", "more"]) X G q38 (fun _ _ _ _ _ _ => v5 fun _ _ _ => rfl)
 obtain ⟨d39, D39, -⟩ := aQ (ps := ["bill", "badge"]) X G q39 (fun _ _ _ _ _ _ => oe fun _ _ => rfl)
 obtain ⟨d40, D40, -⟩ := aQ (ps := ["bill", "cell"]) X G q40 (fun _ _ _ _ _ _ => oe fun _ _ => rfl)
 obtain ⟨d41, D41, -⟩ := aQ (ps := ["again", "total", "same"]) X G q41 (fun _ _ _ _ _ _ => v5 fun _ _ _ => rfl)
 exact ⟨dl, fun s v => Bl s [v] rfl, fun base _ _ => zl (aF := fun i => List.getD [f0, f1, f2, f3, f4, f5, f6, f7, f8, f9, f10, f11, f12, f13, f14, f15, f16, f17, f18, f19, f20, f21, f22, f23, f24, f25, f26, f27, f28, f29, f30, f31, f32, f33, f34, f35, f36, f37, f38, f39, f40, f41, fa] i fa) (dF := fun i => List.getD [d0, d1, d2, d3, d4, d5, d6, d7, d8, d9, d10, d11, d12, d13, d14, d15, d16, d17, d18, d19, d20, d21, d22, d23, d24, d25, d26, d27, d28, d29, d30, d31, d32, d33, d34, d35, d36, d37, d38, d39, d40, d41, dl] i dl) ⟨D0, D1, D2, D3, D4, D5, D6, D7, D8, D9, D10, D11, D12, D13, D14, D15, D16, D17, D18, D19, D20, D21, D22, D23, D24, D25, D26, D27, D28, D29, D30, D31, D32, D33, D34, D35, D36, D37, D38, D39, D40, D41, Dl⟩ T⟩
theorem walk {l : PySem.W.OpenLaw} {q : Program} {loose : List Str} {XP : (Str -> Option Value) -> Heap -> Prop} {YP : World -> Heap -> Prop} {d : DefRec} {K : Params -> PySem.W.Frag} (hn : l.most = some 63) (hdf : d.params.defaults = [])
  (hY : ∀ (w : World) (h : Heap), YP w h -> (K w.params).In h)
  (F : ∀ (w : World) (mg : Str -> Option Value) (fa : Addr) (h : Heap), (K w.params).In h -> h.Ns mainGlobals mg -> mg d.name = some (.ref fa) ->
   ∃ fd : FuncData, (∀ (s : Shared) (u : Value), BindsTo s fd ⟨[u], []⟩ [("script", u)]) /\ ∀ base : Heap, (K w.params).In base -> base.Ns mainGlobals mg -> FnOk l.prog w (K w.params) mg base aZ 60 fa fd ["script"] (oa (K w.params))) :
  PySem.W.WalkO q loose XP YP l.row.toRowW d [] (fun f vs => PySem.call f vs) :=
 L2.wK (n := 63) (k := 60) (x := "script") (CX := fun _ => aZ) (sp := fun w => oa (K w.params)) hn (by decide) hdf ⟨rfl, by decide, by decide⟩ hY F (fun _ _ a ns hl _ hS => ⟨a, ns, rfl, hS, hl, fun _ => rfl⟩) fun _ _ _ _ _ z => z
end My
theorem PySem.W.Fast.tw10089192799578125037 : True := trivial
theorem PySem.W.Fast.tw10298339005544719583 : True := trivial
theorem PySem.W.Fast.tw10545344469080044353 : True := trivial
theorem PySem.W.Fast.tw10647720561691931795 : True := trivial
theorem PySem.W.Fast.tw10667571666119053286 : True := trivial
theorem PySem.W.Fast.tw1067671045596950822 : True := trivial
theorem PySem.W.Fast.tw10759602848037945631 : True := trivial
theorem PySem.W.Fast.tw10771914606401244025 : True := trivial
theorem PySem.W.Fast.tw10893566660201019627 : True := trivial
theorem PySem.W.Fast.tw1105045468775007574 : True := trivial
theorem PySem.W.Fast.tw11114588898060934356 : True := trivial
theorem PySem.W.Fast.tw11117754533663665353 : True := trivial
theorem PySem.W.Fast.tw11662411278278656154 : True := trivial
theorem PySem.W.Fast.tw11726936706964944019 : True := trivial
theorem PySem.W.Fast.tw11844160552103638690 : True := trivial
theorem PySem.W.Fast.tw12188170114626340912 : True := trivial
theorem PySem.W.Fast.tw12298305161033191488 : True := trivial
theorem PySem.W.Fast.tw12470924390301728718 : True := trivial
theorem PySem.W.Fast.tw12513175988886936059 : True := trivial
theorem PySem.W.Fast.tw12545237708257074539 : True := trivial
theorem PySem.W.Fast.tw12646557121130219889 : True := trivial
theorem PySem.W.Fast.tw12702089172064146845 : True := trivial
theorem PySem.W.Fast.tw12775439871137005627 : True := trivial
theorem PySem.W.Fast.tw12984920245876586844 : True := trivial
theorem PySem.W.Fast.tw13006728574463377382 : True := trivial
theorem PySem.W.Fast.tw13050724191472506608 : True := trivial
theorem PySem.W.Fast.tw13198752252304441708 : True := trivial
theorem PySem.W.Fast.tw13233462055025843102 : True := trivial
theorem PySem.W.Fast.tw13306599713773134680 : True := trivial
theorem PySem.W.Fast.tw13370298525837591182 : True := trivial
theorem PySem.W.Fast.tw14086448727897017875 : True := trivial
theorem PySem.W.Fast.tw14086723019269391005 : True := trivial
theorem PySem.W.Fast.tw14179627321493000779 : True := trivial
theorem PySem.W.Fast.tw14239819960958601905 : True := trivial
theorem PySem.W.Fast.tw14300773682119241482 : True := trivial
theorem PySem.W.Fast.tw14307985777922707281 : True := trivial
theorem PySem.W.Fast.tw14333648135571000752 : True := trivial
theorem PySem.W.Fast.tw14481421176960895390 : True := trivial
theorem PySem.W.Fast.tw14526750726984357098 : True := trivial
theorem PySem.W.Fast.tw14716529510314106696 : True := trivial
theorem PySem.W.Fast.tw14837196570536448416 : True := trivial
theorem PySem.W.Fast.tw14869177248543542380 : True := trivial
theorem PySem.W.Fast.tw14924823293852590505 : True := trivial
theorem PySem.W.Fast.tw15018436406554880815 : True := trivial
theorem PySem.W.Fast.tw15275100508166555115 : True := trivial
theorem PySem.W.Fast.tw15414393855165816126 : True := trivial
theorem PySem.W.Fast.tw15507581517549068492 : True := trivial
theorem PySem.W.Fast.tw1586965136009869442 : True := trivial
theorem PySem.W.Fast.tw15887229363166668026 : True := trivial
theorem PySem.W.Fast.tw16203633531276066948 : True := trivial
theorem PySem.W.Fast.tw16220940409626751317 : True := trivial
theorem PySem.W.Fast.tw16229398063083119583 : True := trivial
theorem PySem.W.Fast.tw16325422490532632788 : True := trivial
theorem PySem.W.Fast.tw16334637606134325979 : True := trivial
theorem PySem.W.Fast.tw16411613213427283721 : True := trivial
theorem PySem.W.Fast.tw16499235842035485725 : True := trivial
theorem PySem.W.Fast.tw16531151969493438857 : True := trivial
theorem PySem.W.Fast.tw16595087588225379112 : True := trivial
theorem PySem.W.Fast.tw1669644309770430559 : True := trivial
theorem PySem.W.Fast.tw16919087049663078384 : True := trivial
theorem PySem.W.Fast.tw17053697761649607511 : True := trivial
theorem PySem.W.Fast.tw17058146729252737985 : True := trivial
theorem PySem.W.Fast.tw17137572191945873286 : True := trivial
theorem PySem.W.Fast.tw17226915908686198947 : True := trivial
theorem PySem.W.Fast.tw17356339982810283271 : True := trivial
theorem PySem.W.Fast.tw17658298143173856676 : True := trivial
theorem PySem.W.Fast.tw17710441007989743116 : True := trivial
theorem PySem.W.Fast.tw17721389329096667723 : True := trivial
theorem PySem.W.Fast.tw17750293396341081701 : True := trivial
theorem PySem.W.Fast.tw17773801508979485193 : True := trivial
theorem PySem.W.Fast.tw17791748484017494343 : True := trivial
theorem PySem.W.Fast.tw17930389951946395478 : True := trivial
theorem PySem.W.Fast.tw18036201551534018251 : True := trivial
theorem PySem.W.Fast.tw18266334547911092631 : True := trivial
theorem PySem.W.Fast.tw18272200003708886608 : True := trivial
theorem PySem.W.Fast.tw18438560880775816222 : True := trivial
theorem PySem.W.Fast.tw1920404526952005413 : True := trivial
theorem PySem.W.Fast.tw20757972446864574 : True := trivial
theorem PySem.W.Fast.tw2118040309951832649 : True := trivial
theorem PySem.W.Fast.tw2169224589481834685 : True := trivial
theorem PySem.W.Fast.tw2225015794021834474 : True := trivial
theorem PySem.W.Fast.tw2503942356284673958 : True := trivial
theorem PySem.W.Fast.tw2589087435604773648 : True := trivial
theorem PySem.W.Fast.tw2621227740673765486 : True := trivial
theorem PySem.W.Fast.tw2641202840589704417 : True := trivial
theorem PySem.W.Fast.tw2676377318938245834 : True := trivial
theorem PySem.W.Fast.tw2698621766031792651 : True := trivial
theorem PySem.W.Fast.tw2729134803214267991 : True := trivial
theorem PySem.W.Fast.tw2781649079735639654 : True := trivial
theorem PySem.W.Fast.tw2912221979844292636 : True := trivial
theorem PySem.W.Fast.tw2942259403017720761 : True := trivial
theorem PySem.W.Fast.tw304961720284777783 : True := trivial
theorem PySem.W.Fast.tw3060005768406909574 : True := trivial
theorem PySem.W.Fast.tw3068312036858663917 : True := trivial
theorem PySem.W.Fast.tw3101947327130124615 : True := trivial
theorem PySem.W.Fast.tw315612125245571671 : True := trivial
theorem PySem.W.Fast.tw3300184198483462936 : True := trivial
theorem PySem.W.Fast.tw3386470067610450145 : True := trivial
theorem PySem.W.Fast.tw3504472741259246318 : True := trivial
theorem PySem.W.Fast.tw3682697285039980850 : True := trivial
theorem PySem.W.Fast.tw3816542613761017395 : True := trivial
theorem PySem.W.Fast.tw3927389846000664753 : True := trivial
theorem PySem.W.Fast.tw395101897710107516 : True := trivial
theorem PySem.W.Fast.tw3960985996817571411 : True := trivial
theorem PySem.W.Fast.tw3996839361947774512 : True := trivial
theorem PySem.W.Fast.tw4301100767634098749 : True := trivial
theorem PySem.W.Fast.tw4415933613875242422 : True := trivial
theorem PySem.W.Fast.tw456329257003459445 : True := trivial
theorem PySem.W.Fast.tw4730885929421177147 : True := trivial
theorem PySem.W.Fast.tw4743069963327488060 : True := trivial
theorem PySem.W.Fast.tw522876615051555802 : True := trivial
theorem PySem.W.Fast.tw5259223711659529611 : True := trivial
theorem PySem.W.Fast.tw5294860629651203461 : True := trivial
theorem PySem.W.Fast.tw5330061973787809219 : True := trivial
theorem PySem.W.Fast.tw5399921452943198488 : True := trivial
theorem PySem.W.Fast.tw5532668545082183435 : True := trivial
theorem PySem.W.Fast.tw568487143376446382 : True := trivial
theorem PySem.W.Fast.tw571462882595179374 : True := trivial
theorem PySem.W.Fast.tw5849694115355553346 : True := trivial
theorem PySem.W.Fast.tw5853768177053683113 : True := trivial
theorem PySem.W.Fast.tw6007531737839273833 : True := trivial
theorem PySem.W.Fast.tw6070218432861132490 : True := trivial
theorem PySem.W.Fast.tw6071843278468855992 : True := trivial
theorem PySem.W.Fast.tw6335261962693196399 : True := trivial
theorem PySem.W.Fast.tw634615172377071351 : True := trivial
theorem PySem.W.Fast.tw6420044845055443170 : True := trivial
theorem PySem.W.Fast.tw6424611855554346722 : True := trivial
theorem PySem.W.Fast.tw6496637722347766578 : True := trivial
theorem PySem.W.Fast.tw6501557209950503479 : True := trivial
theorem PySem.W.Fast.tw6620016030256458020 : True := trivial
theorem PySem.W.Fast.tw6679293370069588460 : True := trivial
theorem PySem.W.Fast.tw6702789820252405225 : True := trivial
theorem PySem.W.Fast.tw6979147650396860856 : True := trivial
theorem PySem.W.Fast.tw698082894280258781 : True := trivial
theorem PySem.W.Fast.tw7092080235956581786 : True := trivial
theorem PySem.W.Fast.tw715398996802772053 : True := trivial
theorem PySem.W.Fast.tw7285670084739261082 : True := trivial
theorem PySem.W.Fast.tw7299575459359731293 : True := trivial
theorem PySem.W.Fast.tw7305590981557759652 : True := trivial
theorem PySem.W.Fast.tw7398925340668382257 : True := trivial
theorem PySem.W.Fast.tw7857494240942352885 : True := trivial
theorem PySem.W.Fast.tw7863388364525186742 : True := trivial
theorem PySem.W.Fast.tw7882505622923469930 : True := trivial
theorem PySem.W.Fast.tw8014465098409985804 : True := trivial
theorem PySem.W.Fast.tw8063614513267080448 : True := trivial
theorem PySem.W.Fast.tw806421400557022423 : True := trivial
theorem PySem.W.Fast.tw8073555853422026052 : True := trivial
theorem PySem.W.Fast.tw8169741112118689498 : True := trivial
theorem PySem.W.Fast.tw8177920913655547929 : True := trivial
theorem PySem.W.Fast.tw8248486326748290554 : True := trivial
theorem PySem.W.Fast.tw8280656723972597046 : True := trivial
theorem PySem.W.Fast.tw8369849747547384168 : True := trivial
theorem PySem.W.Fast.tw8403395525175503580 : True := trivial
theorem PySem.W.Fast.tw8623829166645988476 : True := trivial
theorem PySem.W.Fast.tw8627430313689127792 : True := trivial
theorem PySem.W.Fast.tw8699153910207991027 : True := trivial
theorem PySem.W.Fast.tw9036809893138392900 : True := trivial
theorem PySem.W.Fast.tw9046692954912024108 : True := trivial
theorem PySem.W.Fast.tw9085561907287134947 : True := trivial
theorem PySem.W.Fast.tw9145646241967532491 : True := trivial
theorem PySem.W.Fast.tw9156591017180408846 : True := trivial
theorem PySem.W.Fast.tw940189686600663962 : True := trivial
theorem PySem.W.Fast.tw9406119904093193895 : True := trivial
theorem PySem.W.Fast.tw9549658773233250711 : True := trivial
theorem PySem.W.Fast.tw9581009772389759709 : True := trivial
theorem PySem.W.Fast.tw9653931857166650008 : True := trivial
theorem PySem.W.Fast.tw9773358148091374866 : True := trivial
theorem PySem.W.Fast.tw9913169976736788628 : True := trivial
open PySem PySem.W PyProof.Rows
set_option maxRecDepth 100000 in
set_option maxHeartbeats 0 in
theorem PySem.Challenge.cw_deskround_k39_whole_minutes_turned_holds : PySem.Challenge.rw_deskround_k39_whole_minutes_turned.Holds := by
 w_on; o_law; k_head; (case hw => w_witness2)
 k_fill
 refine My.walk (l := PySem.Challenge.rw_deskround_k39_whole_minutes_turned) rfl rfl (fun w h Y => PySem.W.kIn_of Y) ?F
 case F =>
  intro w mg fa h KX G hmg
  refine' My.zp KX G hmg ?q0 ?q1 ?q2 ?q3 ?q4 ?q5 ?q6 ?q7 ?q8 ?q9 ?q10 ?q11 ?q12 ?q13 ?q14 ?q15 ?q16 ?q17 ?q18 ?q19 ?q20 ?q21 ?q22 ?q23 ?q24 ?q25 ?q26 ?q27 ?q28 ?q29 ?q30 ?q31 ?q32 ?q33 ?q34 ?q35 ?q36 ?q37 ?q38 ?q39 ?q40 ?q41 ?q42 ?z0 ?z1 ?z2 ?z3 ?z4 ?z5 ?z6 ?z7 ?z8 ?z9 ?z10 ?z11 ?z12 ?z13
  (case q0 => refine' My.aR ?a ?l ?c ?k; (case a => k_is); (case l => k_is); (case c => k_is); (case k => k_is))
  (case q1 => refine' My.aR ?a ?l ?c ?k; (case a => k_is); (case l => k_is); (case c => k_is); (case k => k_is))
  (case q2 => refine' My.aR ?a ?l ?c ?k; (case a => k_is); (case l => k_is); (case c => k_is); (case k => k_is))
  (case q3 => refine' My.aR ?a ?l ?c ?k; (case a => k_is); (case l => k_is); (case c => k_is); (case k => k_is))
  (case q4 => refine' My.aR ?a ?l ?c ?k; (case a => k_is); (case l => k_is); (case c => k_is); (case k => k_is))
  (case q5 => refine' My.aR ?a ?l ?c ?k; (case a => k_is); (case l => k_is); (case c => k_is); (case k => k_is))
  (case q6 => refine' My.aR ?a ?l ?c ?k; (case a => k_is); (case l => k_is); (case c => k_is); (case k => k_is))
  (case q7 => refine' My.aR ?a ?l ?c ?k; (case a => k_is); (case l => k_is); (case c => k_is); (case k => k_is))
  (case q8 => refine' My.aR ?a ?l ?c ?k; (case a => k_is); (case l => k_is); (case c => k_is); (case k => k_is))
  (case q9 => refine' My.aR ?a ?l ?c ?k; (case a => k_is); (case l => k_is); (case c => k_is); (case k => k_is))
  (case q10 => refine' My.aR ?a ?l ?c ?k; (case a => k_is); (case l => k_is); (case c => k_is); (case k => k_is))
  (case q11 => refine' My.aR ?a ?l ?c ?k; (case a => k_is); (case l => k_is); (case c => k_is); (case k => k_is))
  (case q12 => refine' My.aR ?a ?l ?c ?k; (case a => k_is); (case l => k_is); (case c => k_is); (case k => k_is))
  (case q13 => refine' My.aR ?a ?l ?c ?k; (case a => k_is); (case l => k_is); (case c => k_is); (case k => k_is))
  (case q14 => refine' My.aR ?a ?l ?c ?k; (case a => k_is); (case l => k_is); (case c => k_is); (case k => k_is))
  (case q15 => refine' My.aR ?a ?l ?c ?k; (case a => k_is); (case l => k_is); (case c => k_is); (case k => k_is))
  (case q16 => refine' My.aR ?a ?l ?c ?k; (case a => k_is); (case l => k_is); (case c => k_is); (case k => k_is))
  (case q17 => refine' My.aR ?a ?l ?c ?k; (case a => k_is); (case l => k_is); (case c => k_is); (case k => k_is))
  (case q18 => refine' My.aR ?a ?l ?c ?k; (case a => k_is); (case l => k_is); (case c => k_is); (case k => k_is))
  (case q19 => refine' My.aR ?a ?l ?c ?k; (case a => k_is); (case l => k_is); (case c => k_is); (case k => k_is))
  (case q20 => refine' My.aR ?a ?l ?c ?k; (case a => k_is); (case l => k_is); (case c => k_is); (case k => k_is))
  (case q21 => refine' My.aR ?a ?l ?c ?k; (case a => k_is); (case l => k_is); (case c => k_is); (case k => k_is))
  (case q22 => refine' My.aR ?a ?l ?c ?k; (case a => k_is); (case l => k_is); (case c => k_is); (case k => k_is))
  (case q23 => refine' My.aR ?a ?l ?c ?k; (case a => k_is); (case l => k_is); (case c => k_is); (case k => k_is))
  (case q24 => refine' My.aR ?a ?l ?c ?k; (case a => k_is); (case l => k_is); (case c => k_is); (case k => k_is))
  (case q25 => refine' My.aR ?a ?l ?c ?k; (case a => k_is); (case l => k_is); (case c => k_is); (case k => k_is))
  (case q26 => refine' My.aR ?a ?l ?c ?k; (case a => k_is); (case l => k_is); (case c => k_is); (case k => k_is))
  (case q27 => refine' My.aR ?a ?l ?c ?k; (case a => k_is); (case l => k_is); (case c => k_is); (case k => k_is))
  (case q28 => refine' My.aR ?a ?l ?c ?k; (case a => k_is); (case l => k_is); (case c => k_is); (case k => k_is))
  (case q29 => refine' My.aR ?a ?l ?c ?k; (case a => k_is); (case l => k_is); (case c => k_is); (case k => k_is))
  (case q30 => refine' My.aR ?a ?l ?c ?k; (case a => k_is); (case l => k_is); (case c => k_is); (case k => k_is))
  (case q31 => refine' My.aR ?a ?l ?c ?k; (case a => k_is); (case l => k_is); (case c => k_is); (case k => k_is))
  (case q32 => refine' My.aR ?a ?l ?c ?k; (case a => k_is); (case l => k_is); (case c => k_is); (case k => k_is))
  (case q33 => refine' My.aR ?a ?l ?c ?k; (case a => k_is); (case l => k_is); (case c => k_is); (case k => k_is))
  (case q34 => refine' My.aR ?a ?l ?c ?k; (case a => k_is); (case l => k_is); (case c => k_is); (case k => k_is))
  (case q35 => refine' My.aR ?a ?l ?c ?k; (case a => k_is); (case l => k_is); (case c => k_is); (case k => k_is))
  (case q36 => refine' My.aR ?a ?l ?c ?k; (case a => k_is); (case l => k_is); (case c => k_is); (case k => k_is))
  (case q37 => refine' My.aR ?a ?l ?c ?k; (case a => k_is); (case l => k_is); (case c => k_is); (case k => k_is))
  (case q38 => refine' My.aR ?a ?l ?c ?k; (case a => k_is); (case l => k_is); (case c => k_is); (case k => k_is))
  (case q39 => refine' My.aR ?a ?l ?c ?k; (case a => k_is); (case l => k_is); (case c => k_is); (case k => k_is))
  (case q40 => refine' My.aR ?a ?l ?c ?k; (case a => k_is); (case l => k_is); (case c => k_is); (case k => k_is))
  (case q41 => refine' My.aR ?a ?l ?c ?k; (case a => k_is); (case l => k_is); (case c => k_is); (case k => k_is))
  (case q42 => refine' My.aR ?a ?l ?c ?k; (case a => k_is); (case l => k_is); (case c => k_is); (case k => k_is))
  (case z0 => k_is); (case z1 => k_is); (case z2 => k_is); (case z3 => k_is); (case z4 => k_is); (case z5 => k_is); (case z6 => k_is); (case z7 => k_is); (case z8 => k_is); (case z9 => k_is); (case z10 => k_is); (case z11 => k_is); (case z12 => k_is); (case z13 => k_is)
end
