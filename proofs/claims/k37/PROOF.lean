import PyProof.Rows.All
import Wide.All
import OpenK.AllK
import Wide.FinOn
import Lean
import PyProof.EqAt
import PyProof.EqKinds
import PyProof.TupleCall
import PyProof.NeKinds
import PyProof.DictWalks
import PyProof.DictItems
import PyProof.CollectWalk
import KE.KDictList
import PyProof.AutoSeq1
import PyProof.Rows.Range3
import KE.KUnpack
import PyProof.MeetsSeq2
import PyProof.ZipIter
import KE.KRevSl
import PyProof.MeetsSeq
import PyProof.EnumMake
import PyProof.EnumFor
import PyProof.EnumStmt
import PyProof.MinMaxWalk
import PyProof.WalkInts
import PyProof.SumAny
import KE.KRevIter
import PyProof.Rows.FactsT2
import PyProof.IsiH_list
import PyProof.AttrMiss
import KE.KDictOf
import PyProof.ListRange
import KE.KDictLaws
import KE.KSortTup
import KE.KItemsList
import PyProof.ExcArgs
import KE.KSortKey
import PySem.Challenge.RW_deskround_k37_plan_or_paper
set_option bootstrap.genMatcherCode false
set_option genSizeOf false
noncomputable section
open List renaming getElem?_eq_getElem -> B3, length_map -> B4, getD_eq_getElem?_getD -> B5, getElem?_eq_some_iff -> B6, getElem?_map -> B7, mem_of_getElem? -> B8, range -> B9, mem_map -> Cb, length_append -> Cd, map_cons -> Ce, map_append -> Cf, mem_singleton -> Cg, size_toArray -> Ci, mem_iff_getElem -> Ck, mem_cons -> Cm, length_singleton -> Cn, nodup_iff_pairwise_ne -> Co, replicate -> Cq, mem_append_left -> Cr, map_congr_left -> Cs, mem_cons_of_mem -> Ct, map_map -> Cu, length_cons -> Cv, mem_append -> Cw, getElem_mem -> CA, mem_range -> CB, getElem?_append_left -> CC, mem_filter -> CD, mem_append_right -> CF, length_range -> CH, getElem?_append_right -> CI, mem_cons_self -> CK, length_filter_le -> CM, getElem?_eq_none -> CN, length_take -> CO, not_mem_nil -> CP, filter_eq_self -> CQ, find?_cons -> CS, filter_append -> CT, lookup_cons -> CV, take_length -> CW, pairwise_iff_getElem -> CY, nodup_cons -> C0, range_succ -> C1, getElem_map -> C2, all_eq_true -> C5, filter_cons_of_neg -> C6, filter_cons -> Da, replicate_succ -> Dd, getElem?_range -> De, pairwise_map -> Df, length_eq_zero_iff -> Dg, append_nil -> Dh, take_of_length_le -> Di, take_add_one -> Dj, eq_nil_of_length_eq_zero -> Dk, mem_iff_getElem? -> Dm, filter_cons_of_pos -> Dp, getElem_inj -> Dq, length_drop -> Dr, ext_getElem -> Du, take_zero -> Dx, pairwise_singleton -> Dy, findIdx?_eq_some_iff_getElem -> DC, flatten_cons -> DD, nodup_append -> DE, getElem_take -> DF, findIdx_lt_length_of_exists -> DG, getElem_range -> DH, not_of_lt_findIdx -> DJ, length_set -> DL, count_cons -> DM, dropLast_concat_getLast -> DO, append_assoc -> DQ, nodup_nil -> DR, length_dropLast -> DS, map_nil -> DT, toArray -> DU, filterMap_cons -> DY, any_cons -> DZ, mem_filterMap -> Eb, ext_getElem? -> Ee, getElem?_set_self -> Eg, drop_of_length_le -> Eh, any_eq_true -> Ei, map_take -> Ej, filter -> Ek, getElem?_set_ne -> El, mem_of_mem_take -> En, of_mem_zip -> Eo, filter_nil -> Ep, count_pos_iff -> Es, getElem?_take -> Et, length_eraseIdx_of_lt -> Ew, findIdx?_eq_none_iff -> Ex, foldl_cons -> Ez, filter_map -> EA, take_take -> EC
open Nat renaming le_refl -> Ca, ne_of_lt -> Cp, lt_of_lt_of_le -> Cy, zero_le -> Cz, le_trans -> CJ, sub_succ_lt_self -> CU, lt_succ_of_lt -> C3, le_of_lt -> C4, le_of_not_lt -> C8, le_antisymm -> Do, lt_succ_self -> Dt, sub_self -> Dv, lt_irrefl -> Dw, min_eq_left -> Dz, min_eq_right -> DV, le_add_right -> DX, not_lt -> Ea, lt_of_le_of_lt -> Ec, ne_of_gt -> Ed, lt_trichotomy -> Ef, add_le_add_left -> Er
open Option renaming map_eq_some_iff -> Cc, isSome_iff_exists -> Dc, map_some -> DA
open Bool renaming false_ne_true -> Cj, false_eq_true -> C7, and_eq_true -> C9, not_eq_true -> Ds, eq_iff_iff -> DK, false_and -> EB
open Int renaming toNat_natCast -> CG, emod_lt_of_pos -> DI, emod_nonneg -> DN, fdiv_eq_ediv_of_nonneg -> Eu
open Array renaming length_toList -> CL, getElem?_eq_getElem -> CZ, getElem?_toList -> DB, getElem_toList -> Em, toList_push -> Ey
set_option Elab.async false
set_option linter.all false
set_option maxRecDepth 100000
namespace L2
open PySem PySem.Spec PyProof.Rows
abbrev bq := Sum Int Str
def ll : bq -> Value -> Bool
 | .inl k, v => Value.isInt k v
 | .inr x, v => Value.isStrOf x v
def AH (w : World) : bq -> Int
 | .inl k => hashInt k
 | .inr x => hashStr w x
theorem bB : ∀ {k : bq} {v : Value}, ll k v = true -> (∃ i t, k = Sum.inl i /\ v = Value.int i t) \/ (∃ x t, k = Sum.inr x /\ v = Value.str x t)
 | .inl i, v, h => by
  obtain ⟨t, e⟩ := Value.isInt_shape (k := i) (v := v) h
  exact .inl ⟨i, t, rfl, e⟩
 | .inr x, v, h => by
  obtain ⟨t, e⟩ := Value.isStrOf_shape (x := x) (v := v) h
  exact .inr ⟨x, t, rfl, e⟩
theorem rK (i : Int) (t : Tok) : ll (.inl i) (.int i t) = true := by simp [ll, Value.isInt]
theorem rL (x : Str) (t : Tok) : ll (.inr x) (.str x t) = true := by simp [ll, Value.isStrOf]
theorem x9 (a b : Int) : decide ((Sum.inl a : bq) = Sum.inl b) = (a == b) := by
 by_cases e : a = b
 ·subst e; simp
 ·have h : ¬ (Sum.inl a : bq) = Sum.inl b := fun q => e (Sum.inl.inj q)
  rw [decide_eq_false h]
  exact (beq_eq_false_iff_ne.mpr e).symm
theorem ya (a b : Str) : decide ((Sum.inr a : bq) = Sum.inr b) = decide (a = b) := by
 by_cases e : a = b
 ·subst e; simp
 ·have h : ¬ (Sum.inr a : bq) = Sum.inr b := fun q => e (Sum.inr.inj q)
  rw [decide_eq_false h, decide_eq_false e]
theorem yb (a : Int) (b : Str) : decide ((Sum.inl a : bq) = Sum.inr b) = false := decide_eq_false (fun q => nomatch q)
theorem yc (a : Str) (b : Int) : decide ((Sum.inr a : bq) = Sum.inl b) = false := decide_eq_false (fun q => nomatch q)
def aG (prog : Program) (w : World) : PySem.KeyKind prog w bq where
 is := ll
 hash := AH w
 inj := fun v a b ha hb => by
  rcases bB ha with ⟨i, t, rfl, rfl⟩ | ⟨x, t, rfl, rfl⟩
  ·rcases bB hb with ⟨j, u, rfl, e⟩ | ⟨y, u, rfl, e⟩
   ·injection e with e1 _; rw [e1]
   ·exact nomatch e
  ·rcases bB hb with ⟨j, u, rfl, e⟩ | ⟨y, u, rfl, e⟩
   ·exact nomatch e
   ·injection e with e1 _; rw [e1]
 byValue := fun k v h => by
  rcases bB h with ⟨i, t, rfl, rfl⟩ | ⟨x, t, rfl, rfl⟩ <;> rfl
 pyHash := fun hv h => by
  rcases bB hv with ⟨i, t, rfl, rfl⟩ | ⟨x, t, rfl, rfl⟩
  ·exact wpAny_pyHash_int h
  ·exact wpAny_pyHash_str h
 eqBool := fun hu hv h => by
  rcases bB hu with ⟨i, t, rfl, rfl⟩ | ⟨x, t, rfl, rfl⟩
  ·rcases bB hv with ⟨j, u, rfl, rfl⟩ | ⟨y, u, rfl, rfl⟩
   ·rw [x9] at h; exact wpAny_eqBool_int h
   ·rw [yb] at h; exact SeqAt.EqAt.int_str i t y u _ _ _ _ h
  ·rcases bB hv with ⟨j, u, rfl, rfl⟩ | ⟨y, u, rfl, rfl⟩
   ·rw [yc] at h; exact SeqAt.EqAt.str_int x t j u _ _ _ _ h
   ·rw [ya] at h; exact wpAny_eqBool_str h
 «strs» := fun k x t v h => by
  rcases bB h with ⟨i, u, rfl, e⟩ | ⟨y, u, rfl, e⟩
  ·exact nomatch e
  ·injection e with e1 _
   subst e1
   cases v <;> rfl
theorem nI (prog : Program) (w : World) (i : Int) (t : Tok) : (aG prog w).is (.inl i) (.int i t) = true := rK i t
theorem nJ (prog : Program) (w : World) (x : Str) (t : Tok) : (aG prog w).is (.inr x) (.str x t) = true := rL x t
inductive V where
 | non | bl (b : Bool) | int (i : Int) | str (x : Str) | byt (b : Array UInt8) | flt (b : UInt64) | ref (a : Addr) | ty (n : String)
 deriving DecidableEq
def RelV : V -> Value -> Prop
 | .non, u => u = Value.none
 | .bl b, u => u = Value.bool b
 | .int i, u => ∃ t, u = Value.int i t
 | .str x, u => ∃ t, u = Value.str x t
 | .byt b, u => ∃ t, u = Value.bytes b t
 | .flt b, u => ∃ t, u = Value.float b t
 | .ref a, u => u = Value.ref a
 | .ty n, u => u = Value.type n
abbrev Vals : List V -> List Value -> Prop := Paired RelV
theorem Vals.length {xs : List V} {us : List Value} (r : Vals xs us) : xs.length = us.length := Paired.length r
theorem Vals.get : ∀ {xs : List V} {us : List Value} {i : Nat} {x : V}, Vals xs us -> xs[i]? = some x -> ∃ u, us[i]? = some u /\ RelV x u := by
 intro xs us i x h
 induction h generalizing i with
 | nil => intro e; simp at e
 | cons r t ih =>
  intro e
  cases i with
  | zero => cases e; exact ⟨_, rfl, r⟩
  | succ i => exact ih e
theorem Vals.set {x : V} {u : Value} (r : RelV x u) : ∀ {xs : List V} {us : List Value} (i : Nat), Vals xs us -> Vals (xs.set i x) (us.set i u) := by
 intro xs us i h
 induction h generalizing i with
 | nil => exact .nil
 | cons q t ih =>
  cases i with
  | zero => exact .cons r t
  | succ i => exact .cons q (ih i)
theorem Vals.append : ∀ {xs ys : List V} {us ws : List Value}, Vals xs us -> Vals ys ws -> Vals (xs ++ ys) (us ++ ws) := by
 intro xs ys us ws h s
 induction h with
 | nil => exact s
 | cons r t ih => exact .cons r ih
theorem Vals.take : ∀ {xs : List V} {us : List Value} (n : Nat), Vals xs us -> Vals (xs.take n) (us.take n) := by
 intro xs us n h
 induction h generalizing n with
 | nil => cases n <;> exact .nil
 | cons r t ih =>
  cases n with
  | zero => exact .nil
  | succ n => exact .cons r (ih n)
theorem Vals.drop : ∀ {xs : List V} {us : List Value} (n : Nat), Vals xs us -> Vals (xs.drop n) (us.drop n) := by
 intro xs us n h
 induction h generalizing n with
 | nil => cases n <;> exact .nil
 | cons r t ih =>
  cases n with
  | zero => exact .cons r t
  | succ n => exact ih n
def RelO : Option V -> Option Value -> Prop
 | some v, some u => RelV v u
 | none, none => True
 | _, _ => False
def KV {κ : Type} : List (κ × V) -> List (κ × Value) -> Prop := Paired fun (p : κ × V) (q : κ × Value) => p.1 = q.1 /\ RelV p.2 q.2
def kV : bq -> V
 | .inl i => .int i
 | .inr x => .str x
inductive HO where
 | lst (xs : List V)
 | tup (xs : List V)
 | dK (kvs : List (bq × V)) | dT (kvs : List (List bq × V))
 | set (S : Int -> Bool) (n : Nat)
 | ins (C dx : Addr) (fs : List (Str × V))
 | own (x : Addr)
 | xd (fs : List (Str × V))
 | met (f x : Addr)
 | rng (lo hi : Int)
 | frz (o : Obj) (u : HO)
 | tbl (ps : Array Value)
 | ext (φ : Heap -> Prop)
abbrev Hp := Addr -> Option HO
def ay (H : Hp) (a : Addr) (o : HO) : Hp := fun b => if b = a then some o else H b
theorem ab {H : Hp} {a : Addr} {o : HO} : ay H a o a = some o := by unfold ay; rw [if_pos rfl]
theorem aj {H : Hp} {a b : Addr} {o : HO} (h : b ≠ a) : ay H a o b = H b := by unfold ay; rw [if_neg h]
theorem jq {H : Hp} {a : Addr} {o u : HO} : ay (ay H a o) a u = ay H a u := by
 funext b; unfold ay; split <;> rfl
theorem zj {H : Hp} {a b : Addr} {o u : HO} (h : H a = some o) (h' : H b = some u) (d : o ≠ u) : a ≠ b := by
 intro e; subst e; rw [h] at h'; exact d (Option.some.inj h')
theorem ak {H : Hp} {a b : Addr} {o : HO} (h : H a = some o) (h' : H b = none) : a ≠ b := by
 intro e; subst e; rw [h] at h'; cases h'
section
variable (P : Program) (w : World)
def ObjOk (H : Hp) (h : Heap) (a : Addr) : HO -> Prop
 | .lst xs => xs.length <= sizeLine /\ ∃ (its : List Value) (n : Nat), Vals xs its /\ h.get? a = some { cls := .type "list", data := .seq its.toArray n }
 | .tup xs => xs.length <= sizeLine /\ ∃ its : List Value, Vals xs its /\ IsTup h a its.toArray
 | .dK kvs => kvs.length <= sizeLine /\ (a == sysModules) = false /\ ∃ vs, KV kvs vs /\ h.DictOf (aG P w) a vs
 | .dT kvs => kvs.length <= sizeLine /\ (a == sysModules) = false /\ ∃ xs : List (List bq × Addr × Value),
  Paired (fun (p : List bq × V) (q : List bq × Addr × Value) => p.1 = q.1 /\ H q.2.1 = some (.tup (p.1.map kV)) /\ RelV p.2 q.2.2) kvs xs /\
  ∃ o es ep, h.get? a = some o /\ o.ExactDict /\ o.data = .dict es ep /\ es.toList = xs.map (entryOfKey (tupleKind (aG P w))) /\ (xs.map (·.1)).Nodup
 | .set S n => h.SetOf (intKind P w) a S n
 | .ins C dx fs => H dx = some (.own a) /\ fs.length <= 1000 /\ dx ≠ a /\ h.get? a = some (PySem.W.instObj C dx) /\
  ∃ mA, h.Ns1 dx mA /\ (∀ f, RelO (fs.lookup f) (mA f)) /\ PySem.Within mA (fs.map (·.1))
 | .own _ => ∃ o, h.get? a = some o
 | .xd fs => ∃ mA, h.Ns1 a mA /\ ∀ f, RelO (fs.lookup f) (mA f)
 | .rng lo hi => ∃ t u v, h.get? a = some { cls := .type "range", data := .fields #[.int lo t, .int hi u, .int 1 v] }
 | .frz o u => h.get? a = some o /\ ObjOk H h a u
 | .tbl ps => h.get? a = some { cls := .none, data := .fields ps }
 | .met f x => h.get? a = some (PySem.W.methodObj (.ref f) (.ref x))
 | .ext φ => φ h /\ (∃ o, h.get? a = some o) /\ ∀ h1 h2 : Heap, φ h1 -> (∀ o, h1.get? a = some o -> h2.get? a = some o) -> φ h2
def HOk (H : Hp) (h : Heap) : Prop := ∀ a o, H a = some o -> ObjOk P w H h a o
end
section
variable {P : Program} {w : World} {H H' : Hp} {h h' : Heap} {a : Addr} {o : HO}
theorem ObjOk.lt (x : ObjOk P w H h a o) : a < h.objs.size := by
 cases o with
 | lst xs => obtain ⟨_, _, _, _, e⟩ := x; exact Heap.lt_size e
 | tup xs => obtain ⟨_, _, _, p⟩ := x; exact p.lt
 | dK kvs => obtain ⟨_, _, _, _, o, _, _, e, _⟩ := x; exact Heap.lt_size e
 | dT kvs => obtain ⟨_, _, _, _, o, _, _, e, _⟩ := x; exact Heap.lt_size e
 | set S n => obtain ⟨o, _, _, _, e, _⟩ := x; exact Heap.lt_size e
 | ins C dx fs => obtain ⟨_, _, _, e, _⟩ := x; exact Heap.lt_size e
 | own y => obtain ⟨_, e⟩ := x; exact Heap.lt_size e
 | xd fs => obtain ⟨_, ⟨_, _, _, e, _⟩, _⟩ := x; exact Heap.lt_size e
 | rng lo hi => obtain ⟨_, _, _, e⟩ := x; exact Heap.lt_size e
 | frz ob u => obtain ⟨e, _⟩ := x; exact Heap.lt_size e
 | tbl ps => exact Heap.lt_size (show h.get? a = some _ from x)
 | met f y => exact Heap.lt_size (show h.get? a = some _ from x)
 | ext φ => obtain ⟨_, ⟨_, e⟩, _⟩ := x; exact Heap.lt_size e
theorem Paired.mapP {α β : Type} {F G : α -> β -> Prop} : ∀ {l₁ : List α} {l₂ : List β}, Paired F l₁ l₂ -> (∀ a b, F a b -> G a b) -> Paired G l₁ l₂ := by
 intro l₁ l₂ h f
 induction h with
 | nil => exact .nil
 | cons r t ih => exact .cons (f _ _ r) ih
theorem ObjOk.stay (x : ObjOk P w H h a o) (k : ∀ b u, (b = a \/ H b = some (.own a)) -> h.get? b = some u -> h'.get? b = some u)
  (ho : ∀ b, H b = some (.own a) -> H' b = some (.own a)) (ht : ∀ b xs, H b = some (.tup xs) -> H' b = some (.tup xs)) : ObjOk P w H' h' a o := by
 induction o with
 | lst xs => obtain ⟨z, its, n, r, e⟩ := x; exact ⟨z, its, n, r, k _ _ (.inl rfl) e⟩
 | tup xs => obtain ⟨z, its, r, ob, e, c⟩ := x; exact ⟨z, its, r, ob, k _ _ (.inl rfl) e, c⟩
 | dK kvs => obtain ⟨z, y, vs, r, ob, es, ep, e, c⟩ := x; exact ⟨z, y, vs, r, ob, es, ep, k _ _ (.inl rfl) e, c⟩
 | dT kvs =>
  obtain ⟨z, y, xs, r, ob, es, ep, e, c⟩ := x
  exact ⟨z, y, xs, Paired.mapP r fun p q z => ⟨z.1, ht _ _ z.2.1, z.2.2⟩, ob, es, ep, k _ _ (.inl rfl) e, c⟩
 | set S n => obtain ⟨ob, es, ep, t, e, c⟩ := x; exact ⟨ob, es, ep, t, k _ _ (.inl rfl) e, c⟩
 | ins C dx fs =>
  obtain ⟨d, z, ne, e, mA, ⟨od, es, ep, e2, c⟩, r⟩ := x
  exact ⟨ho _ d, z, ne, k _ _ (.inl rfl) e, mA, ⟨od, es, ep, k _ _ (.inr d) e2, c⟩, r⟩
 | own y => obtain ⟨ob, e⟩ := x; exact ⟨ob, k _ _ (.inl rfl) e⟩
 | xd fs => obtain ⟨mA, ⟨od, es, ep, e, c⟩, r⟩ := x; exact ⟨mA, ⟨od, es, ep, k _ _ (.inl rfl) e, c⟩, r⟩
 | rng lo hi => obtain ⟨t, u, v, e⟩ := x; exact ⟨t, u, v, k _ _ (.inl rfl) e⟩
 | frz ob u ih => obtain ⟨e, q⟩ := x; exact ⟨k _ _ (.inl rfl) e, ih q⟩
 | tbl ps =>
  have e : h.get? a = some { cls := .none, data := .fields ps } := x
  show h'.get? a = some { cls := .none, data := .fields ps }
  exact k a _ (.inl rfl) e
 | met f y =>
  have e : h.get? a = some (PySem.W.methodObj (.ref f) (.ref y)) := x
  show h'.get? a = some (PySem.W.methodObj (.ref f) (.ref y))
  exact k a _ (.inl rfl) e
 | ext φ => obtain ⟨p, ⟨o, e⟩, st⟩ := x; exact ⟨st _ _ p fun o q => k _ _ (.inl rfl) q, ⟨o, k _ _ (.inl rfl) e⟩, st⟩
theorem HOk.lt (x : HOk P w H h) (e : H a = some o) : a < h.objs.size := (x a o e).lt
theorem HOk.fresh (x : HOk P w H h) (e : h.objs.size <= a) : H a = none := by
 cases q : H a with
 | none => rfl
 | some u => exact absurd (Cy (x.lt q) e) (Dw _)
theorem HOk.kept (x : HOk P w H h) (k : ∀ b u, h.get? b = some u -> h'.get? b = some u) : HOk P w H h' := fun a o e =>
 (x a o e).stay (fun b u _ q => k b u q) (fun _ q => q) fun _ _ q => q
theorem HOk.laid (x : HOk P w H h) (k : ∀ b u, h.get? b = some u -> h'.get? b = some u) (hp : h.objs.size <= a) (new : ObjOk P w (ay H a o) h' a o) : HOk P w (ay H a o) h' := fun b u e => by
 have hn := x.fresh hp
 by_cases hb : b = a
 ·subst hb; rw [ab] at e; cases e; exact new
 ·rw [aj hb] at e
  exact (x b u e).stay (fun c v _ q => k c v q) (fun c q => by rw [aj (ak q hn)]; exact q) fun c xs q => by rw [aj (ak q hn)]; exact q
end
def Rd (H : Hp) (a : Addr) (u : HO) : Prop := H a = some u \/ ∃ o, H a = some (.frz o u)
theorem Rd.ok {P : Program} {w : World} {H : Hp} {h : Heap} {a : Addr} {u : HO} (r : Rd H a u) (x : HOk P w H h) : ObjOk P w H h a u := by
 rcases r with r | ⟨o, r⟩
 ·exact x a u r
 ·obtain ⟨_, q⟩ := x a _ r
  exact q
def zc : Option HO -> Prop
 | some (.lst _) => True
 | some (.dK _) => True
 | some (.dT _) => True
 | some (.set _ _) => True
 | some (.ins _ _ _) => True
 | some (.ext _) => True
 | _ => False
section
variable {P : Program} {w : World} {H : Hp} {h h' : Heap} {x e : Addr} {o' : HO}
theorem HOk.write (ok : HOk P w H h) (mu : zc (H x)) (he : e = x \/ H e = some (.own x)) (k : ∀ b u, b ≠ e -> h.get? b = some u -> h'.get? b = some u) (heo : ∃ u, h'.get? e = some u)
  (new : ObjOk P w (ay H x o') h' x o') : HOk P w (ay H x o') h' := fun b u q => by
 have nown : ∀ c y, H c = some (.own y) -> c ≠ x := fun c y r z => by subst z; rw [r] at mu; exact mu
 have ntup : ∀ c xs, H c = some (.tup xs) -> c ≠ x := fun c xs r z => by subst z; rw [r] at mu; exact mu
 by_cases hb : b = x
 ·subst hb; rw [ab] at q; cases q; exact new
 ·rw [aj hb] at q
  by_cases hbe : b = e
  ·have q' : H b = some (.own x) := by
    rcases he with z | z
    ·exact absurd (hbe.trans z) hb
    ·rw [hbe]; exact z
   rw [q] at q'; cases q'
   obtain ⟨v, hv⟩ := heo
   exact ⟨v, by rw [hbe]; exact hv⟩
  ·refine (ok b u q).stay (fun c v hc r => k c v ?_ r) (fun c r => by rw [aj (nown c b r)]; exact r) fun c xs r => by rw [aj (ntup c xs r)]; exact r
   rcases hc with rfl | hc
   ·exact hbe
   ·rintro rfl
    rcases he with z | z
    ·exact nown c b hc z
    ·rw [hc] at z; cases z; exact hb rfl
end
structure Un (fs ex : List Addr) (H H' : Hp) (h h' : Heap) : Prop where
 keep : ∀ b o, h.get? b = some o -> H b = none -> b ∉ fs -> b ∉ ex -> h'.get? b = some o
 slot : ∀ b o, h.get? b = some o -> H b = none -> b ∈ fs -> b ∉ ex -> ∃ sl, h'.get? b = some { o with slots := sl }
 free : ∀ b o, h.get? b = some o -> H b = none -> b ∉ ex -> H' b = none
 there : ∀ b o, h.get? b = some o -> b ∉ ex -> ∃ o', h'.get? b = some o'
 tups : ∀ b xs, H b = some (.tup xs) -> H' b = some (.tup xs)
 frzs : ∀ b o u, H b = some (.frz o u) -> H' b = some (.frz o u)
 tbls : ∀ b ps, H b = some (.tbl ps) -> ∃ more, H' b = some (.tbl (ps ++ more))
section
variable {fs fs' ex ex' : List Addr} {H H1 H2 : Hp} {h h1 h2 h' : Heap} {a x e : Addr} {o : HO}
theorem Un.any (u : Un fs ex H H1 h h1) {b : Addr} {ob : Obj} (q : h.get? b = some ob) (n : H b = none) (hx : b ∉ ex) : ∃ sl, h1.get? b = some { ob with slots := sl } := by
 by_cases hb : b ∈ fs
 ·exact u.slot b ob q n hb hx
 ·exact ⟨ob.slots, u.keep b ob q n hb hx⟩
theorem Un.trans (a : Un fs ex H H1 h h1) (b : Un fs ex H1 H2 h1 h2) : Un fs ex H H2 h h2 where
 keep := fun c ob q n hc hx => b.keep c ob (a.keep c ob q n hc hx) (a.free c ob q n hx) hc hx
 slot := fun c ob q n hc hx => by
  obtain ⟨sl, e1⟩ := a.slot c ob q n hc hx
  obtain ⟨sl', e2⟩ := b.slot c _ e1 (a.free c ob q n hx) hc hx
  exact ⟨sl', e2⟩
 free := fun c ob q n hx => by
  obtain ⟨o', e1⟩ := a.there c ob q hx
  exact b.free c o' e1 (a.free c ob q n hx) hx
 there := fun c ob q hx => by
  obtain ⟨o', e1⟩ := a.there c ob q hx
  exact b.there c o' e1 hx
 tups := fun c xs q => b.tups c xs (a.tups c xs q)
 frzs := fun c ob xs q => b.frzs c ob xs (a.frzs c ob xs q)
 tbls := fun c ps q => by
  obtain ⟨m1, e1⟩ := a.tbls c ps q
  obtain ⟨m2, e2⟩ := b.tbls c _ e1
  exact ⟨m1 ++ m2, by rw [e2, Array.append_assoc]⟩
theorem Un.kept (k : ∀ b u, h.get? b = some u -> h'.get? b = some u) : Un fs ex H H h h' :=
 ⟨fun b ob q _ _ _ => k b ob q, fun b ob q _ _ _ => ⟨ob.slots, k b ob q⟩, fun _ _ _ n _ => n, fun b ob q _ => ⟨ob, k b ob q⟩, fun _ _ q => q, fun _ _ _ q => q, fun _ ps q => ⟨#[], by rw [q]; simp⟩⟩
theorem Un.refl : Un fs ex H H h h := Un.kept fun _ _ q => q
theorem Un.laid (k : ∀ b u, h.get? b = some u -> h'.get? b = some u) (hp : h.objs.size <= a) (hn : H a = none) : Un fs ex H (ay H a o) h h' where
 keep := fun b u q _ _ _ => k b u q
 slot := fun b u q _ _ _ => ⟨u.slots, k b u q⟩
 free := fun b u q n _ => by rw [aj (Cp (Cy (Heap.lt_size q) hp))]; exact n
 there := fun b u q _ => ⟨u, k b u q⟩
 tups := fun b xs q => by rw [aj (ak q hn)]; exact q
 frzs := fun b u xs q => by rw [aj (ak q hn)]; exact q
 tbls := fun b ps q => ⟨#[], by rw [aj (ak q hn), q]; simp⟩
theorem Un.write (mu : zc (H x)) (he : e = x \/ H e = some (.own x)) (k : ∀ b u, b ≠ e -> h.get? b = some u -> h'.get? b = some u) (heo : ∃ u, h'.get? e = some u) : Un fs ex H (ay H x o) h h' := by
 have hx : ∀ b, H b = none -> b ≠ x := fun b n z => by subst z; rw [n] at mu; exact mu
 have hb : ∀ b, H b = none -> b ≠ e := fun b n z => by
  subst z
  rcases he with r | r
  ·exact hx b n r
  ·rw [n] at r; cases r
 have hm : ∀ b u, H b = some u -> ¬ zc (some u) -> b ≠ x := fun b u q nm z => by subst z; rw [q] at mu; exact nm mu
 refine ⟨fun b u q n _ _ => k b u (hb b n) q, fun b u q n _ _ => ⟨u.slots, k b u (hb b n) q⟩, fun b u q n _ => by rw [aj (hx b n)]; exact n, fun b u q _ => ?_,
  fun b xs q => by rw [aj (hm b _ q fun z => z)]; exact q, fun b u xs q => by rw [aj (hm b _ q fun z => z)]; exact q, fun b ps q => ⟨#[], by rw [aj (hm b _ q fun z => z), q]; simp⟩⟩
 by_cases hbe : b = e
 ·subst hbe; exact heo
 ·exact ⟨u, k b u hbe q⟩
end
def Ar (h : Heap) (H : Hp) : List Addr := (B9 h.objs.size).filter fun a => (H a).isSome
def mf (h : Heap) (H : Hp) : Heap := PySem.W.hideAll h (Ar h H)
theorem rM (h : Heap) (H : Hp) : (mf h H).objs.size = h.objs.size := PySem.W.hideAll_size _ _
theorem t6 {h : Heap} {H : Hp} {b : Addr} {o : Obj} (e : h.get? b = some o) (n : H b = none) : (mf h H).get? b = some o :=
 PySem.W.hideAll_get _ e fun hm => by
  have q : (H b).isSome = true := (CD.mp hm).2
  rw [n] at q; simp at q
theorem vW {h : Heap} {H : Hp} {b : Addr} {o : Obj} (e : (mf h H).get? b = some o) : h.get? b = some o /\ H b = none := by
 have e' : h.get? b = some o := PySem.W.of_hideAll (Ar h H) e
 refine ⟨e', ?_⟩
 cases q : H b with
 | none => rfl
 | some x =>
  have hm : b ∈ Ar h H := CD.mpr ⟨CB.mpr (Heap.lt_size e'), by simp [q]⟩
  have z : (mf h H).get? b = none := PySem.W.hideAll_none (Ar h H) hm
  rw [z] at e; cases e
def vX (g h : Heap) (L : Addr) : List (Addr × Obj) := (B9 h.objs.size).filterMap fun a => if a = L \/ (g.get? a).isSome = true then none else (h.get? a).map fun o => (a, o)
def dC (g h : Heap) (L d : Addr) : List (Addr × Obj) := (vX g h L).filter fun p => decide (p.1 ≠ d)
structure Mod (K : PySem.W.Frag) (mg : Str -> Option Value) (base : Heap) : Prop where
 kin : K.In base
 glob : base.Ns mainGlobals mg
 blt : ∃ mb, base.Ns builtinsNs mb /\ ∀ x : Str, x ≠ "__name__" -> mb x = bootBuiltins x
 nolimit : base.NoLimit
structure Cx where
 prog : Program
 w : World
 K : PySem.W.Frag
 mg : Str -> Option Value
 base : Heap
 A : Around
 N : List Str
 s₀ : Shared
 H₀ : Hp
 env : Env
 outer : List Env
 stack : List Env
 ex : List Addr
 fn : Str -> Bool
 calm : Bool
 pn : List (Addr × Obj)
 xe : Value -> Shared -> Prop
def gg (l : List Env) : List Addr := l.filterMap (·.frame)
abbrev Cx.fs (X : Cx) : List Addr := gg X.outer
def Au (sc : Scope) (x : Str) : Prop := sc.names.lookup x = some .local \/ sc.names.lookup x = some .cell \/ sc.names.lookup x = some .free
def zk (sc : Scope) (x : Str) : Prop := sc.names.lookup x = some .local \/ sc.names.lookup x = some .cell
def AI (env : Env) (h : Heap) (m : Str -> Option Value) (x : Str) (u : Value) : Prop :=
 (env.kindOf x = some .local /\ m x = some u) \/ ((env.kindOf x = some .cell \/ env.kindOf x = some .free) /\ ∃ c, env.cells.lookup x = some c /\ h.IsCell c (some u))
structure Cx.Ok (X : Cx) : Prop where
 mod : Mod X.K X.mg X.base
 kind : X.env.scope.kind = .function
 glob : X.env.globals = mainGlobals
 blt : X.env.builtins = builtinsNs
 above : X.s₀.heap.objs.size <= X.env.locals
 inj : ∀ x y c, X.env.cells.lookup x = some c -> X.env.cells.lookup y = some c -> x = y
 has : ∀ x, (X.env.kindOf x = some .cell \/ X.env.kindOf x = some .free) -> ∃ c, X.env.cells.lookup x = some c
 cab : ∀ x c, X.fn x = true -> X.env.cells.lookup x = some c -> X.s₀.heap.objs.size <= c
 hd : X.calm = true -> X.A.handled = none
 frames : X.A.frames = some X.stack
 stk : X.stack = X.outer \/ (X.stack = X.env :: X.outer /\ X.env.frame = some X.env.locals)
 exf : ∀ b ∈ X.ex, b ≠ X.env.locals /\ ∀ x c, X.env.cells.lookup x = some c -> c ≠ b
 bs : ∀ b o, X.base.get? b = some o -> X.s₀.heap.get? b = some o /\ X.H₀ b = none
 bsz : X.base.objs.size <= X.s₀.heap.objs.size
 noex : ∀ b o, X.base.get? b = some o -> b ∉ X.ex
 exfs : ∀ b ∈ X.ex, b ∉ X.fs
 funs : X.s₀.heap.FunFrames X.base X.outer
 frf : ∀ b ∈ X.fs, X.H₀ b = none
structure Inv (X : Cx) (pins : List (Addr × Obj)) (σ : List (Option V)) (H : Hp) (s : Shared) : Prop where
 ok : X.Ok
 os : s.os = X.s₀.os
 bare : AllBare s.gens
 base : Un X.fs X.ex X.H₀ H X.s₀.heap s.heap
 loc : ∃ m, s.heap.Ns X.env.locals m /\ ∀ (i : Nat) (x : Str) (v : V), X.N[i]? = some x -> σ[i]? = some (some v) -> Au X.env.scope x -> ∃ u, RelV v u /\ AI X.env s.heap m x u
 cell : ∀ x c, X.env.cells.lookup x = some c -> ∃ v, s.heap.IsCell c v
 free : H X.env.locals = none
 freeC : ∀ x c, X.env.cells.lookup x = some c -> H c = none
 pin : ∀ p ∈ X.pn ++ pins, s.heap.get? p.1 = some p.2 /\ H p.1 = none /\ p.1 ≠ X.env.locals /\ p.1 ∉ X.fs /\ ∀ v, p.2.data ≠ .cell v
 hok : HOk X.prog X.w H s.heap
 len : σ.length = X.N.length
section
variable {X : Cx} {pins : List (Addr × Obj)} {σ : List (Option V)} {H H' : Hp} {s : Shared} {h' : Heap}
theorem Cx.Ok.nofr (ok : X.Ok) {b : Addr} {o : Obj} (e : X.base.get? b = some o) : b ∉ X.fs := fun hb => by
 have := (ok.funs.mem hb).1
 rw [e] at this; cases this
theorem Inv.bs (I : Inv X pins σ H s) : ∀ b o, X.base.get? b = some o -> s.heap.get? b = some o /\ H b = none := fun b o e =>
 ⟨I.base.keep b o (I.ok.bs b o e).1 (I.ok.bs b o e).2 (I.ok.nofr e) (I.ok.noex b o e), I.base.free b o (I.ok.bs b o e).1 (I.ok.bs b o e).2 (I.ok.noex b o e)⟩
theorem Inv.bk (I : Inv X pins σ H s) : ∀ b o, X.base.get? b = some o -> s.heap.get? b = some o := fun b o e => (I.bs b o e).1
theorem Inv.mod (I : Inv X pins σ H s) : Mod X.K X.mg X.base := I.ok.mod
theorem Inv.kIn (I : Inv X pins σ H s) : X.K.In s.heap := I.ok.mod.kin.keeps I.bk
theorem Inv.fr (I : Inv X pins σ H s) : ∃ m, Fr X.base X.env.locals s.heap m :=
 let ⟨m, hn, _⟩ := I.loc
 ⟨m, hn, I.bk, CJ I.ok.bsz I.ok.above⟩
theorem Inv.lt (I : Inv X pins σ H s) : X.env.locals < s.heap.objs.size := let ⟨_, hn, _⟩ := I.loc; hn.lt
theorem Inv.sz (I : Inv X pins σ H s) : X.s₀.heap.objs.size <= s.heap.objs.size := CJ I.ok.above (C4 I.lt)
theorem Inv.nofs (I : Inv X pins σ H s) {a : Addr} (h : s.heap.objs.size <= a) : a ∉ X.fs := fun hb => by
 obtain ⟨_, o, ho, _⟩ := I.ok.funs.mem hb
 exact absurd (Cy (Heap.lt_size ho) (CJ I.sz h)) (Dw _)
theorem Inv.cne (I : Inv X pins σ H s) : ∀ x c, X.env.cells.lookup x = some c -> c ≠ X.env.locals := fun x c e z => by
 obtain ⟨v, o, ho, hd⟩ := I.cell x c e
 obtain ⟨m, ⟨o', es, ep, ho', hd', _⟩, _⟩ := I.loc
 rw [z, ho'] at ho; cases ho; rw [hd'] at hd; cases hd
theorem Inv.funs (I : Inv X pins σ H s) : s.heap.FunFrames X.base X.outer := by
 have all : ∀ (l : List Env), (∀ b ∈ gg l, b ∈ X.fs) -> X.s₀.heap.FunFrames X.base l -> s.heap.FunFrames X.base l := by
  intro l
  induction l with
  | nil => intro _ _; trivial
  | cons env r ih =>
   intro hs hl
   obtain ⟨hk, ⟨L, o, hf, hn, ho, hd⟩, hr⟩ := hl
   have hL : L ∈ X.fs := hs L (by unfold gg; rw [DY, hf]; exact CK)
   obtain ⟨sl, e⟩ := I.base.slot L o ho (I.ok.frf L hL) hL fun z => I.ok.exfs L z hL
   exact ⟨hk, ⟨L, _, hf, hn, e, hd⟩, ih (fun b hb => hs b (by unfold gg; rw [DY, hf]; exact Ct _ hb)) hr⟩
 exact all X.outer (fun _ hb => hb) I.ok.funs
theorem Inv.stack (I : Inv X pins σ H s) : s.heap.FunFrames X.base X.stack := by
 rcases I.ok.stk with e | ⟨e, hf⟩
 ·rw [e]; exact I.funs
 ·rw [e]
  obtain ⟨m, hn, _⟩ := I.loc
  refine .cons (by rw [I.ok.kind]; decide) hf hn ?_ I.funs
  exact Heap.get?_none_of_le (CJ I.ok.bsz I.ok.above)
theorem Inv.stkSub (I : Inv X pins σ H s) : ∀ b ∈ gg X.stack, b ∈ X.env.locals :: X.fs := fun b hb => by
 rcases I.ok.stk with e | ⟨e, hf⟩
 ·rw [e] at hb; exact Ct _ hb
 ·rw [e] at hb
  unfold gg at hb
  rw [DY, hf] at hb
  exact hb
theorem Inv.stkFree (I : Inv X pins σ H s) : ∀ b ∈ gg X.stack, H b = none := fun b hb => by
 rcases Cm.mp (I.stkSub b hb) with e | hb
 ·rw [e]; exact I.free
 ·obtain ⟨_, o, ho, _⟩ := I.ok.funs.mem hb
  exact I.base.free b o ho (I.ok.frf b hb) fun z => I.ok.exfs b z hb
theorem Inv.step {g' : Array GenState} {t' : Nat} {d' : Drawn} {ch : List Addr} (I : Inv X pins σ H s)
  (hch : ∀ b ∈ ch, (b ∈ X.ex \/ X.s₀.heap.objs.size <= b) /\ b ≠ X.env.locals /\ (∀ x c, X.env.cells.lookup x = some c -> c ≠ b) /\ ∀ p ∈ X.pn ++ pins, p.1 ≠ b)
  (keep : ∀ b o, b ≠ X.env.locals -> b ∉ X.fs -> b ∉ ch -> s.heap.get? b = some o -> H b = none -> h'.get? b = some o)
  (slot : ∀ b o, b ≠ X.env.locals -> b ∈ X.fs -> b ∉ ch -> s.heap.get? b = some o -> H b = none -> ∃ sl, h'.get? b = some { o with slots := sl }) (free : ∀ b o, b ∉ ch -> s.heap.get? b = some o -> H b = none -> H' b = none)
  (there : ∀ b o, b ∉ ch -> s.heap.get? b = some o -> ∃ o', h'.get? b = some o')
  (tups : ∀ b xs, H b = some (.tup xs) -> H' b = some (.tup xs)) (frzs : ∀ b o u, H b = some (.frz o u) -> H' b = some (.frz o u)) (tbls : ∀ b ps, H b = some (.tbl ps) -> ∃ more, H' b = some (.tbl (ps ++ more)))
  (ns : ∀ m, s.heap.Ns X.env.locals m -> h'.Ns X.env.locals m) (hok : HOk X.prog X.w H' h') (hg : AllBare g') :
  Inv X pins σ H' { s with heap := h', gens := g', drawn := d', toks := t' } := by
 have neL : ∀ b o, X.s₀.heap.get? b = some o -> b ≠ X.env.locals := fun b o e => Cp (Cy (Heap.lt_size e) I.ok.above)
 have neC : ∀ b o, X.s₀.heap.get? b = some o -> b ∉ X.ex -> b ∉ ch := fun b o e hx hb => by
  rcases (hch b hb).1 with z | z
  ·exact hx z
  ·exact absurd (Cy (Heap.lt_size e) z) (Dw _)
 have cellK : ∀ x c, X.env.cells.lookup x = some c -> ∀ v, s.heap.IsCell c v -> h'.IsCell c v := fun x c e v ⟨o, ho, hd⟩ => by
  have nch : c ∉ ch := fun z => (hch c z).2.2.1 x c e rfl
  by_cases hc : c ∈ X.fs
  ·obtain ⟨sl, q⟩ := slot c o (I.cne x c e) hc nch ho (I.freeC x c e)
   exact ⟨_, q, hd⟩
  ·exact ⟨o, keep c o (I.cne x c e) hc nch ho (I.freeC x c e), hd⟩
 refine ⟨I.ok, I.os, hg, ⟨fun b o e n hb hx => ?_, fun b o e n hb hx => ?_, fun b o e n hx => ?_, fun b o e hx => ?_, fun b xs e => tups b xs (I.base.tups b xs e), fun b o xs e => frzs b o xs (I.base.frzs b o xs e), fun b ps e => ?_⟩, ?_, fun x c e => ?_, ?_, fun x c e => ?_, fun p hp => ?_, hok, I.len⟩
 ·exact keep b o (neL b o e) hb (neC b o e hx) (I.base.keep b o e n hb hx) (I.base.free b o e n hx)
 ·obtain ⟨sl, e1⟩ := I.base.slot b o e n hb hx
  obtain ⟨sl', e2⟩ := slot b _ (neL b o e) hb (neC b o e hx) e1 (I.base.free b o e n hx)
  exact ⟨sl', e2⟩
 ·obtain ⟨o', e1⟩ := I.base.there b o e hx
  exact free b o' (neC b o e hx) e1 (I.base.free b o e n hx)
 ·obtain ⟨o', e1⟩ := I.base.there b o e hx
  exact there b o' (neC b o e hx) e1
 ·obtain ⟨m1, e1⟩ := I.base.tbls b ps e
  obtain ⟨m2, e2⟩ := tbls b _ e1
  exact ⟨m1 ++ m2, by rw [e2, Array.append_assoc]⟩
 ·obtain ⟨m, hn, hl⟩ := I.loc
  refine ⟨m, ns m hn, fun i x v e1 e2 e3 => ?_⟩
  obtain ⟨u, r, l⟩ := hl i x v e1 e2 e3
  refine ⟨u, r, ?_⟩
  rcases l with l | ⟨k, c, e, z⟩
  ·exact .inl l
  ·exact .inr ⟨k, c, e, cellK x c e _ z⟩
 ·obtain ⟨v, z⟩ := I.cell x c e
  exact ⟨v, cellK x c e v z⟩
 ·obtain ⟨m, ⟨o, _, _, ho, _⟩, _⟩ := I.loc
  exact free _ o (fun z => (hch _ z).2.1 rfl) ho I.free
 ·obtain ⟨v, o, ho, hd⟩ := I.cell x c e
  exact free c o (fun z => (hch c z).2.2.1 x c e rfl) ho (I.freeC x c e)
 ·obtain ⟨e, n, ne, nf, d⟩ := I.pin p hp
  have nch : p.1 ∉ ch := fun z => (hch p.1 z).2.2.2 p hp rfl
  exact ⟨keep p.1 p.2 ne nf nch e n, free p.1 p.2 nch e n, ne, nf, d⟩
theorem Inv.un {t' : Nat} (I : Inv X pins σ H s) (u : Un X.fs [] H H' s.heap h') (hok : HOk X.prog X.w H' h') : Inv X pins σ H' { s with heap := h', toks := t' } := by
 obtain ⟨m, ⟨o, es, ep, ho, r⟩, _⟩ := id I.loc
 obtain ⟨sl, hL⟩ := u.any ho I.free (by simp)
 exact I.step (g' := s.gens) (d' := s.drawn) (ch := []) (fun _ z => nomatch z) (fun b o _ hb _ e n => u.keep b o e n hb (by simp)) (fun b o _ hb _ e n => u.slot b o e n hb (by simp)) (fun b o _ e n => u.free b o e n (by simp)) (fun b o _ e => u.there b o e (by simp)) u.tups u.frzs u.tbls (fun m' hm => by
  obtain ⟨o', es', ep', ho', r'⟩ := hm
  rw [ho] at ho'; cases ho'
  exact ⟨_, es', ep', hL, r'⟩) hok I.bare
theorem Inv.call {g' : Array GenState} {t' : Nat} {d' : Drawn} {ch : List Addr} (I : Inv X pins σ H s) (u : Un (gg X.stack) ch H H' s.heap h') (hok : HOk X.prog X.w H' h') (hg : AllBare g')
  (hch : ∀ b ∈ ch, (b ∈ X.ex \/ X.s₀.heap.objs.size <= b) /\ b ≠ X.env.locals /\ (∀ x c, X.env.cells.lookup x = some c -> c ≠ b) /\ ∀ p ∈ X.pn ++ pins, p.1 ≠ b) :
  Inv X pins σ H' { s with heap := h', gens := g', drawn := d', toks := t' } := by
 obtain ⟨m, ⟨o, es, ep, ho, r⟩, _⟩ := id I.loc
 obtain ⟨sl, hL⟩ := u.any ho I.free fun z => (hch _ z).2.1 rfl
 exact I.step (ch := ch) hch (fun b o hL hb hc e n => u.keep b o e n (fun z => (Cm.mp (I.stkSub b z)).elim hL hb) hc) (fun b o _ _ hc e n => u.any e n hc) (fun b o hc e n => u.free b o e n hc) (fun b o hc e => u.there b o e hc) u.tups u.frzs u.tbls (fun m' hm => by
  obtain ⟨o', es', ep', ho', r'⟩ := hm
  rw [ho] at ho'; cases ho'
  exact ⟨_, es', ep', hL, r'⟩) hok hg
theorem Inv.turned {t' : Nat} {it : Addr} (I : Inv X pins σ H s) (k : ∀ b o, b ≠ it -> s.heap.get? b = some o -> h'.get? b = some o) (hn : H it = none) (hL : it ≠ X.env.locals)
  (h1 : it ∈ X.ex \/ X.s₀.heap.objs.size <= it) (h2 : ∀ x c, X.env.cells.lookup x = some c -> c ≠ it) (h3 : ∀ p ∈ X.pn ++ pins, p.1 ≠ it) : Inv X pins σ H { s with heap := h', toks := t' } := by
 have nit : ∀ b u, H b = some u -> b ≠ it := fun b u e z => by rw [z, hn] at e; cases e
 refine I.step (g' := s.gens) (d' := s.drawn) (ch := [it]) (fun b hb => ?_) (fun b o _ _ hc e _ => k b o (fun z => hc (by simp [z])) e) (fun b o _ _ hc e _ => ⟨o.slots, k b o (fun z => hc (by simp [z])) e⟩) (fun _ _ _ _ n => n)
  (fun b o hc e => ⟨o, k b o (fun z => hc (by simp [z])) e⟩) (fun _ _ e => e) (fun _ _ _ e => e) (fun b ps e => ⟨#[], by rw [e]; simp⟩) (fun m hm => ?_) (fun b u e => ?_) I.bare
 ·have e : b = it := by simpa using hb
  subst e
  exact ⟨h1, hL, h2, h3⟩
 ·obtain ⟨o, es, ep, ho, r⟩ := hm
  exact ⟨o, es, ep, k _ o (Ne.symm hL) ho, r⟩
 ·refine (I.hok b u e).stay (fun c v hc q => k c v ?_ q) (fun _ q => q) fun _ _ q => q
  rcases hc with z | z
  ·rw [z]; exact nit b u e
  ·exact nit c _ z
theorem Inv.tok (I : Inv X pins σ H s) (t : Nat) : Inv X pins σ H { s with toks := t } := I.un (h' := s.heap) (t' := t) Un.refl I.hok
theorem Inv.kept {t' : Nat} (I : Inv X pins σ H s) (k : ∀ b u, s.heap.get? b = some u -> h'.get? b = some u) : Inv X pins σ H { s with heap := h', toks := t' } := I.un (Un.kept k) (I.hok.kept k)
theorem Inv.laid {a : Addr} {o : HO} {t' : Nat} (I : Inv X pins σ H s) (k : ∀ b u, s.heap.get? b = some u -> h'.get? b = some u) (hp : s.heap.objs.size <= a) (new : ObjOk X.prog X.w (ay H a o) h' a o) :
 Inv X pins σ (ay H a o) { s with heap := h', toks := t' } := I.un (Un.laid k hp (I.hok.fresh hp)) (I.hok.laid k hp new)
theorem Inv.write {x e : Addr} {o : HO} {t' : Nat} (I : Inv X pins σ H s) (mu : zc (H x)) (he : e = x \/ H e = some (.own x)) (k : ∀ b u, b ≠ e -> s.heap.get? b = some u -> h'.get? b = some u) (heo : ∃ u, h'.get? e = some u)
 (new : ObjOk X.prog X.w (ay H x o) h' x o) : Inv X pins σ (ay H x o) { s with heap := h', toks := t' } := I.un (Un.write mu he k heo) (I.hok.write mu he k heo new)
theorem Inv.weak {σ' : List (Option V)} (I : Inv X pins σ H s) (hl : σ'.length = σ.length) (w : ∀ (i : Nat) v, σ'[i]? = some (some v) -> σ[i]? = some (some v)) : Inv X pins σ' H s :=
 ⟨I.ok, I.os, I.bare, I.base, let ⟨m, hn, hl'⟩ := I.loc; ⟨m, hn, fun i x v e1 e2 e3 => hl' i x v e1 (w i v e2) e3⟩, I.cell, I.free, I.freeC, I.pin, I.hok, hl.trans I.len⟩
theorem Inv.pins_of {pins' : List (Addr × Obj)} (I : Inv X pins σ H s) (h : ∀ p ∈ pins', s.heap.get? p.1 = some p.2 /\ H p.1 = none /\ p.1 ≠ X.env.locals /\ p.1 ∉ X.fs /\ ∀ v, p.2.data ≠ .cell v) : Inv X pins' σ H s :=
 ⟨I.ok, I.os, I.bare, I.base, I.loc, I.cell, I.free, I.freeC, fun p hp => (Cw.mp hp).elim (fun z => I.pin p (Cr _ z)) (h p), I.hok, I.len⟩
theorem nK {N : List Str} (hN : N.Nodup) {i j : Nat} {x : Str} (a : N[i]? = some x) (b : N[j]? = some x) : i = j := by
 obtain ⟨h1, e1⟩ := B6.mp a
 obtain ⟨h2, e2⟩ := B6.mp b
 exact (Dq hN).mp (e1.trans e2.symm)
theorem lu {M : Model} {A : Around} {E : Value -> Shared -> Prop} {i : Nat} {x : Str} {v : V} {u : Value} {Q : Unit -> Shared -> Prop} (I : Inv X pins σ H s) (hN : X.N.Nodup) (hi : X.N[i]? = some x) (hx : zk X.env.scope x) (r : RelV v u)
  (h : ∀ s', Inv X pins (σ.set i (some v)) H s' -> (∃ a, Heap.SameBut a s.heap s'.heap /\ (a = X.env.locals \/ X.env.cells.lookup x = some a)) -> Q () s') (hf : X.fn x = true \/ X.env.scope.names.lookup x = some .local := by first | exact .inl rfl | exact .inr rfl | assumption) : wpAny M A (storeName X.env x u) Q E s := by
 obtain ⟨m, hn, hl⟩ := id I.loc
 have hcls : (X.env.scope.kind == .class || (X.env.scope.kind == .module && X.env.locals != X.env.globals)) = false := by rw [I.ok.kind]; rfl
 have hiσ : i < σ.length := by rw [I.len]; exact (B6.mp hi).1
 have cne := I.cne
 have tracked : ∀ {a : Addr} {h' : Heap}, (∃ o, s.heap.get? a = some o /\ H a = none) -> Heap.SameBut a s.heap h' -> HOk X.prog X.w H h' := fun {a h'} ha hs b ob e => by
  obtain ⟨_, _, hfree⟩ := ha
  refine (I.hok b ob e).stay (fun c w' hc q => (hs.2 c ?_).trans q) (fun _ q => q) fun _ _ q => q
  rintro rfl
  rcases hc with rfl | hc
  ·rw [hfree] at e; cases e
  ·rw [hfree] at hc; cases hc
 rcases hx with hk | hk
 ·refine wpAny_storeName_local hk hn (fun h' hn' hs => ?_) hcls
  obtain ⟨oL, _, _, hoL, _⟩ := id hn
  refine h _ ⟨I.ok, I.os, I.bare, ⟨fun b o e n hb hx => ?_, fun b o e n hb hx => ?_, I.base.free, fun b o e hx => ?_, I.base.tups, I.base.frzs, I.base.tbls⟩, ⟨_, hn', fun j y v' e1 e2 e3 => ?_⟩, fun y c e => ?_, I.free, I.freeC, fun p hp => ?_, tracked ⟨oL, hoL, I.free⟩ hs, by simpa using I.len⟩ ⟨_, hs, .inl rfl⟩
  ·exact (hs.2 b (Cp (Cy (Heap.lt_size e) I.ok.above))).trans (I.base.keep b o e n hb hx)
  ·obtain ⟨sl, e1⟩ := I.base.slot b o e n hb hx
   exact ⟨sl, (hs.2 b (Cp (Cy (Heap.lt_size e) I.ok.above))).trans e1⟩
  ·obtain ⟨o', e1⟩ := I.base.there b o e hx
   exact ⟨o', (hs.2 b (Cp (Cy (Heap.lt_size e) I.ok.above))).trans e1⟩
  ·by_cases hj : j = i
   ·subst hj
    rw [hi] at e1; cases e1
    rw [Eg hiσ] at e2
    cases e2
    exact ⟨u, r, .inl ⟨hk, by simp⟩⟩
   ·rw [El (Ne.symm hj)] at e2
    obtain ⟨u', r', q⟩ := hl j y v' e1 e2 e3
    refine ⟨u', r', ?_⟩
    rcases q with ⟨k, e⟩ | ⟨k, c, e, z⟩
    ·refine .inl ⟨k, ?_⟩
     have : y ≠ x := fun e => hj (nK hN e1 (e ▸ hi))
     simp [this, e]
    ·exact .inr ⟨k, c, e, z.sameBut hs (cne y c e)⟩
  ·obtain ⟨w', z⟩ := I.cell y c e
   exact ⟨w', z.sameBut hs (cne y c e)⟩
  ·obtain ⟨e, n, ne, nf, d⟩ := I.pin p hp
   exact ⟨(hs.2 p.1 ne).trans e, n, ne, nf, d⟩
 ·have hfn : X.fn x = true := by
   rcases hf with z | z
   ·exact z
   ·rw [z] at hk; cases hk
  obtain ⟨c, hc⟩ := I.ok.has x (.inl hk)
  obtain ⟨w', z⟩ := I.cell x c hc
  refine wpAny_storeName_cell I.ok.kind hk hc z (fun h' hc' hs => ?_)
  obtain ⟨oc, hoc, hocd⟩ := id z
  refine h { s with heap := h' } ⟨I.ok, I.os, I.bare, ⟨fun b o e n hb hx => ?_, fun b o e n hb hx => ?_, I.base.free, fun b o e hx => ?_, I.base.tups, I.base.frzs, I.base.tbls⟩, ⟨m, hn.sameBut hs (Ne.symm (cne x c hc)), fun j y v' e1 e2 e3 => ?_⟩, fun y c' e => ?_, I.free, I.freeC, fun p hp => ?_, tracked ⟨oc, hoc, I.freeC x c hc⟩ hs, by simpa using I.len⟩ ⟨c, hs, .inr hc⟩
  ·exact (hs.2 b (Cp (Cy (Heap.lt_size e) (I.ok.cab x c hfn hc)))).trans (I.base.keep b o e n hb hx)
  ·obtain ⟨sl, e1⟩ := I.base.slot b o e n hb hx
   exact ⟨sl, (hs.2 b (Cp (Cy (Heap.lt_size e) (I.ok.cab x c hfn hc)))).trans e1⟩
  ·obtain ⟨o', e1⟩ := I.base.there b o e hx
   exact ⟨o', (hs.2 b (Cp (Cy (Heap.lt_size e) (I.ok.cab x c hfn hc)))).trans e1⟩
  ·by_cases hj : j = i
   ·subst hj
    rw [hi] at e1; cases e1
    rw [Eg hiσ] at e2
    cases e2
    exact ⟨u, r, .inr ⟨.inl hk, c, hc, hc'⟩⟩
   ·rw [El (Ne.symm hj)] at e2
    obtain ⟨u', r', q⟩ := hl j y v' e1 e2 e3
    refine ⟨u', r', ?_⟩
    rcases q with q | ⟨k, c', e, z'⟩
    ·exact .inl q
    ·refine .inr ⟨k, c', e, z'.sameBut hs ?_⟩
     rintro rfl
     exact hj (nK hN e1 (I.ok.inj _ _ _ e hc ▸ hi))
  ·by_cases hcc : c' = c
   ·subst hcc; exact ⟨_, hc'⟩
   ·obtain ⟨w2, z2⟩ := I.cell y c' e
    exact ⟨w2, z2.sameBut hs hcc⟩
  ·obtain ⟨e, n, ne, nf, d⟩ := I.pin p hp
   refine ⟨(hs.2 p.1 ?_).trans e, n, ne, nf, d⟩
   intro q
   rw [q, hoc] at e
   have q' : oc = p.2 := Option.some.inj e
   exact d w' (by rw [<- q']; exact hocd)
theorem nM {M : Model} {A : Around} {E : Value -> Shared -> Prop} {i : Nat} {x : Str} {v : V} {u : Value} {Q : Unit -> Shared -> Prop} (I : Inv X pins σ H s) (hN : X.N.Nodup) (hi : X.N[i]? = some x) (hx : zk X.env.scope x) (r : RelV v u)
  (h : ∀ s', Inv X pins (σ.set i (some v)) H s' -> Q () s') (hf : X.fn x = true \/ X.env.scope.names.lookup x = some .local := by first | exact .inl rfl | exact .inr rfl | assumption) : wpAny M A (storeName X.env x u) Q E s :=
 lu I hN hi hx r (fun s' I' _ => h s' I') hf
theorem Inv.call' {s' : Shared} {ch : List Addr} (I : Inv X pins σ H s) (ho : s'.os = s.os) (u : Un (gg X.stack) ch H H' s.heap s'.heap) (hok : HOk X.prog X.w H' s'.heap) (hg : AllBare s'.gens)
  (hch : ∀ b ∈ ch, (b ∈ X.ex \/ X.s₀.heap.objs.size <= b) /\ b ≠ X.env.locals /\ (∀ x c, X.env.cells.lookup x = some c -> c ≠ b) /\ ∀ p ∈ X.pn ++ pins, p.1 ≠ b) : Inv X pins σ H' s' := by
 obtain ⟨h', g', d', t', o'⟩ := s'
 have e : o' = s.os := ho
 subst e
 exact I.call (g' := g') (t' := t') (d' := d') u hok hg hch
end
abbrev XK := Value -> Option Addr -> Hp -> Prop
abbrev St := List (Option V)
abbrev VK := V -> Hp -> Prop
abbrev TE := St -> Hp -> VK -> Prop
abbrev TT := St -> Hp -> (Bool -> Hp -> Prop) -> Prop
abbrev TA := St -> Hp -> (List V -> Hp -> Prop) -> Prop
structure Ends where
 nx : St -> Hp -> Prop
 rt : VK
 bk : St -> Hp -> Prop := fun _ _ => False
 ct : St -> Hp -> Prop := fun _ _ => False
abbrev TS := Ends -> St -> Hp -> Prop
def EP (X : Cx) (pins : List (Addr × Obj)) (σ : St) (Q : VK) (u : Value) (s' : Shared) : Prop := ∃ v H', Inv X pins σ H' s' /\ RelV v u /\ Q v H'
def TP (X : Cx) (pins : List (Addr × Obj)) (σ : St) (Q : Bool -> Hp -> Prop) (b : Bool) (s' : Shared) : Prop := ∃ H', Inv X pins σ H' s' /\ Q b H'
def AP (X : Cx) (pins : List (Addr × Obj)) (σ : St) (Q : List V -> Hp -> Prop) (us : List Value) (s' : Shared) : Prop := ∃ vs H', Inv X pins σ H' s' /\ Vals vs us /\ Q vs H'
def SP (X : Cx) (pins : List (Addr × Obj)) (D : Ends) (f : Flow) (s' : Shared) : Prop :=
 match f with
 | .next => ∃ σ' H', Inv X pins σ' H' s' /\ D.nx σ' H'
 | .brk => ∃ σ' H', Inv X pins σ' H' s' /\ D.bk σ' H'
 | .cont => ∃ σ' H', Inv X pins σ' H' s' /\ D.ct σ' H'
 | .ret u => ∃ v σ' H', Inv X pins σ' H' s' /\ RelV v u /\ D.rt v H'
def PE (X : Cx) (e : Expr) (t : TE) : Prop :=
 ∀ (pins : List (Addr × Obj)) (s : Shared) (σ : St) (H : Hp) (Q : VK), Inv X pins σ H s -> t σ H Q -> wpAny (model X.prog X.w) X.A (eval e X.env) (EP X pins σ Q) X.xe s
def PT (X : Cx) (e : Expr) (t : TT) : Prop :=
 ∀ (pins : List (Addr × Obj)) (s : Shared) (σ : St) (H : Hp) (Q : Bool -> Hp -> Prop), Inv X pins σ H s -> t σ H Q -> wpAny (model X.prog X.w) X.A (isTrue e X.env (eval e X.env)) (TP X pins σ Q) X.xe s
def PW (X : Cx) (e : Expr) (t : TT) : Prop :=
 ∀ (whole : Sem Value) (pins : List (Addr × Obj)) (s : Shared) (σ : St) (H : Hp) (Q : Bool -> Hp -> Prop), Inv X pins σ H s -> t σ H Q -> wpAny (model X.prog X.w) X.A (isTrue e X.env whole) (TP X pins σ Q) X.xe s
theorem PW.pt {X : Cx} {e : Expr} {t : TT} (h : PW X e t) : PT X e t := h _
def PA (X : Cx) (es : List Expr) (t : TA) : Prop :=
 ∀ (pos : Pos) (pins : List (Addr × Obj)) (s : Shared) (σ : St) (H : Hp) (Q : List V -> Hp -> Prop), Inv X pins σ H s -> t σ H Q -> wpAny (model X.prog X.w) X.A (spliced (backTo pos (starEach es X.env))) (AP X pins σ Q) X.xe s
def PS (X : Cx) (st : Stmt) (t : TS) : Prop :=
 ∀ (pins : List (Addr × Obj)) (s : Shared) (σ : St) (H : Hp) (D : Ends), Inv X pins σ H s -> t D σ H -> wpAny (model X.prog X.w) X.A (exec st X.env) (SP X pins D) X.xe s
def PSs (X : Cx) (st : List Stmt) (t : TS) : Prop :=
 ∀ (pins : List (Addr × Obj)) (s : Shared) (σ : St) (H : Hp) (D : Ends), Inv X pins σ H s -> t D σ H -> wpAny (model X.prog X.w) X.A (execs st X.env) (SP X pins D) X.xe s
theorem br {α : Type} {t : Sem α} {Q Q' : α -> Shared -> Prop} {M : Model} {A : Around} {E : Value -> Shared -> Prop} {s : Shared} (h : wpAny M A t Q E s) (hQ : ∀ a s, Q a s -> Q' a s) : wpAny M A t Q' E s := wpAny_mono h hQ fun _ _ x => x
section
variable {X : Cx}
theorem B1 {a b : Expr} {ta tb : TE} (ha : PE X a ta) (hb : PE X b tb) {pins : List (Addr × Obj)} {s : Shared} {σ : St} {H : Hp} {R : V -> V -> Hp -> Prop} (I : Inv X pins σ H s) (h : ta σ H fun x H1 => tb σ H1 fun y H2 => R x y H2)
  {α : Type} {Q : α -> Shared -> Prop} {f : Value -> Value -> Sem α}
  (hf : ∀ v u s2 x y H2, Inv X pins σ H2 s2 -> RelV x v -> RelV y u -> R x y H2 -> wpAny (model X.prog X.w) X.A (f v u) Q X.xe s2) :
  wpAny (model X.prog X.w) X.A (eval a X.env) (fun v s₁ => wpAny (model X.prog X.w) X.A (eval b X.env) (fun u s₂ => wpAny (model X.prog X.w) X.A (f v u) Q X.xe s₂) X.xe s₁) X.xe s := by
 refine br (ha pins s σ H _ I h) fun v s1 hq__ => ?_
 obtain ⟨x, H1, I1, r1, q1⟩ := hq__
 refine br (hb pins s1 σ H1 _ I1 q1) fun u s2 hq__ => ?_
 obtain ⟨y, H2, I2, r2, q2⟩ := hq__
 exact hf v u s2 x y H2 I2 r1 r2 q2
def zl (i : Nat) : TE := fun σ H Q => ∃ v, σ[i]? = some (some v) /\ Q v H
def tC (v : V) : TE := fun _ H Q => Q v H
theorem yd {i : Nat} {x : Str} {pos : Pos} (hN : X.N[i]? = some x) (hv : Au X.env.scope x) (hd : (x == ("__debug__" : Str)) = false := by decide) (hcd : (x == ("__classdict__" : Str)) = false := by decide) : PE X (.Name x pos) (zl i) := by
 intro pins s σ H Q I h
 obtain ⟨v, e, h⟩ := h
 obtain ⟨m, hn, hl⟩ := I.loc
 obtain ⟨u, r, l⟩ := hl i x v hN e hv
 have fin : EP X pins σ Q u s := ⟨v, H, I, r, h⟩
 rcases l with ⟨hk, hm⟩ | ⟨hk, c, hc, hcell⟩
 ·exact wpAny_Name (wpAny_loadName_local I.ok.kind hk hn hm fin) hd
 ·rcases hk with hk | hk
  ·exact wpAny_Name (wpAny_loadName_cell I.ok.kind hk hc hcell fin) hd
  ·exact wpAny_Name (wpAny_loadName_free I.ok.kind hk hc hcell fin hcd) hd
theorem ag {i j pos} : PE X (.Constant (.int i) j pos) (tC (.int i)) := fun _ _ _ H _ I h => wpAny_Constant_int ⟨.int i, H, I.tok _, ⟨_, rfl⟩, h⟩
theorem cI {b j pos} : PE X (.Constant (.bool b) j pos) (tC (.bl b)) := fun _ _ _ H _ I h => Constant_bool ⟨.bl b, H, I, rfl, h⟩
theorem dN {j pos} : PE X (.Constant .none j pos) (tC .non) := fun _ _ _ H _ I h => Constant_none ⟨.non, H, I, rfl, h⟩
theorem aL {x j pos} : PE X (.Constant (.str x) j pos) (tC (.str x)) := fun _ _ _ H _ I h => Calls.Constant_str ⟨.str x, H, I.tok _, ⟨_, rfl⟩, h⟩
def Gl (X : Cx) (x : Str) : Prop := X.env.kindOf x = some .globalImplicit
theorem vY {E : Value -> Shared -> Prop} {pins : List (Addr × Obj)} {s : Shared} {σ : St} {H : Hp} {x : Str} {u : Value} {pos : Pos} {Q : Value -> Shared -> Prop} (I : Inv X pins σ H s) (hg : Gl X x) (hm : X.mg x = some u) (h : Q u s)
  (hd : (x == ("__debug__" : Str)) = false := by decide) : wpAny (model X.prog X.w) X.A (eval (.Name x pos) X.env) Q E s :=
 Calls.Name_function_global I.ok.kind hg (Calls.loadGlobal_global (by rw [I.ok.glob]; exact I.mod.glob.keeps I.bk) hm h) hd
theorem fk {E : Value -> Shared -> Prop} {pins : List (Addr × Obj)} {s : Shared} {σ : St} {H : Hp} {x : Str} {u : Value} {pos : Pos} {Q : Value -> Shared -> Prop} (I : Inv X pins σ H s) (hg : Gl X x) (hm : X.mg x = none) (hv : bootBuiltins x = some u) (h : Q u s)
  (hn : x ≠ "__name__" := by decide) (hd : (x == ("__debug__" : Str)) = false := by decide) : wpAny (model X.prog X.w) X.A (eval (.Name x pos) X.env) Q E s := by
 obtain ⟨mb, h1, h2⟩ := I.mod.blt
 exact Calls.Name_function_global I.ok.kind hg (Calls.loadGlobal_builtin (by rw [I.ok.glob]; exact I.mod.glob.keeps I.bk) hm (by rw [I.ok.blt]; exact h1.keeps I.bk) ((h2 x hn).trans hv) h) hd
theorem jt {x : Str} {v : V} {u : Value} {pos : Pos} (hg : Gl X x) (hm : X.mg x = none) (hv : bootBuiltins x = some u) (r : RelV v u) (hn : x ≠ "__name__" := by decide) (hd : (x == ("__debug__" : Str)) = false := by decide) : PE X (.Name x pos) (tC v) :=
 fun _ _ _ H _ I h => fk I hg hm hv ⟨v, H, I, r, h⟩ hn hd
variable {a b : Expr} {ta tb : TE} {pos : Pos}
def PC (X : Cx) (op : CmpOp) (a b : Expr) (t : TE) : Prop :=
 ∀ (pins : List (Addr × Obj)) (s : Shared) (σ : St) (H : Hp) (Q : VK), Inv X pins σ H s -> t σ H Q ->
  wpAny (model X.prog X.w) X.A (eval a X.env) (fun v s₁ => wpAny (model X.prog X.w) X.A (eval b X.env) (fun u s₂ => wpAny (model X.prog X.w) X.A (compareOp op v u) (EP X pins σ Q) X.xe s₂) X.xe s₁) X.xe s
theorem t7 (b : Expr) {op : CmpOp} (h : op ≠ .In) (h2 : op ≠ .NotIn) : behindInMarks op b = false := by
 have e1 : (op == CmpOp.In) = false := by cases op <;> first | rfl | exact absurd rfl h
 have e2 : (op == CmpOp.NotIn) = false := by cases op <;> first | rfl | exact absurd rfl h2
 cases b <;> simp [behindInMarks, e1, e2]
def tB (t : TE) : TT := fun σ H Q => t σ H fun x H1 => ∃ c, x = .bl c /\ Q c H1
theorem mi {op : CmpOp} {t : TE} (h : PC X op a b t) (h1 : behindInMarks op b = false := by first | exact t7 _ (by decide) (by decide) | rfl) : PT X (.Compare a [op] [b] pos) (tB t) := by
 intro pins s σ H Q I hw
 refine wpAny_isTrue_Compare1 (br (h pins s σ H _ I hw) fun v s1 h1 => br h1 fun u s2 h2 => br h2 fun c s3 ⟨x, H1, I1, r1, q1⟩ => ?_) h1
 obtain ⟨d, rfl, q⟩ := q1
 cases r1
 exact wpAny_truthy_bool ⟨H1, I1, q⟩
theorem b4 {e : Expr} {t : TE} (h : PE X e t) (he : ∀ whole, isTrue e X.env whole = (do let v <- whole; standAt e.pos; holding [v] (truthy v)) := by intro _; rfl) : PT X e (tB t) := by
 intro pins s σ H Q I hw
 refine isTrue_plain (br (h pins s σ H _ I hw) fun v s1 ⟨x, H1, I1, r1, q1⟩ => ?_) (he _)
 obtain ⟨d, rfl, q⟩ := q1
 cases r1
 exact wpAny_truthy_bool ⟨H1, I1, q⟩
variable {tA tB' : TT} {dC : List Expr}
def AJ (t u : TT) : TT := fun σ H Q => t σ H fun c H1 => if c = true then u σ H1 Q else Q false H1
def BD (t u : TT) : TT := fun σ H Q => t σ H fun c H1 => if c = true then Q true H1 else u σ H1 Q
def AK (t : TT) : TT := fun σ H Q => t σ H fun c H1 => Q (!c) H1
theorem vZ (ha : PT X a tA) : PW X (.BoolOp .And [a] pos) tA := by
 intro wh pins s σ H Q I h
 refine isTrue_and (br (ha pins s σ H Q I h) fun c s1 e => ?_)
 cases c with
 | true => exact isTrue_and_nil e
 | false => exact e
theorem de (ha : PT X a tA) : PW X (.BoolOp .Or [a] pos) tA := by
 intro wh pins s σ H Q I h
 refine isTrue_or (br (ha pins s σ H Q I h) fun c s1 e => ?_)
 cases c with
 | false => exact isTrue_or_nil e
 | true => exact e
theorem ye (ha : PT X a tA) (hb : PW X (.BoolOp .And (b :: dC) pos) tB') : PW X (.BoolOp .And (a :: b :: dC) pos) (AJ tA tB') := by
 intro wh pins s σ H Q I h
 refine isTrue_and (br (ha pins s σ H _ I h) fun c s1 hq__ => ?_)
 obtain ⟨H1, I1, q1⟩ := hq__
 cases c with
 | true => exact hb wh pins s1 σ H1 Q I1 q1
 | false => exact ⟨H1, I1, q1⟩
theorem dD (ha : PT X a tA) (hb : PW X (.BoolOp .Or (b :: dC) pos) tB') : PW X (.BoolOp .Or (a :: b :: dC) pos) (BD tA tB') := by
 intro wh pins s σ H Q I h
 refine isTrue_or (br (ha pins s σ H _ I h) fun c s1 hq__ => ?_)
 obtain ⟨H1, I1, q1⟩ := hq__
 cases c with
 | true => exact ⟨H1, I1, q1⟩
 | false => exact hb wh pins s1 σ H1 Q I1 q1
theorem cw (ha : PT X a tA) : PT X (.UnaryOp .Not a pos) (AK tA) := by
 intro pins s σ H Q I h
 exact isTrue_not (ha pins s σ H (fun c H1 => Q (!c) H1) I h)
def zo (ta tb : TE) : TE := fun σ H Q => ta σ H fun x H1 => ∃ c, x = .bl c /\ if c = true then tb σ H1 Q else Q (.bl false) H1
def zp (ta : TE) : TE := fun σ H Q => ta σ H fun x H1 => ∃ c, x = .bl c /\ Q (.bl (!c)) H1
theorem pb {op} {t : TE} (h : PE X a t) : PE X (.BoolOp op [a] pos) t := fun pins s σ H Q I hw => BoolOp_one (h pins s σ H Q I hw)
theorem pd (ha : PE X a ta) (hb : PE X (.BoolOp .And (b :: dC) pos) tb) : PE X (.BoolOp .And (a :: b :: dC) pos) (zo ta tb) := by
 intro pins s σ H Q I h
 refine BoolOp_and (br (ha pins s σ H _ I h) fun v s1 hq__ => ?_)
 obtain ⟨x, H1, I1, r1, q1⟩ := hq__
 obtain ⟨c, rfl, q1⟩ := q1
 cases r1
 refine wpAny_truthy_bool ?_
 cases c with
 | true => exact hb pins s1 σ H1 Q I1 q1
 | false => exact ⟨.bl false, H1, I1, rfl, q1⟩
theorem yf (ha : PE X a ta) : PE X (.UnaryOp .Not a pos) (zp ta) := by
 intro pins s σ H Q I h
 refine UnaryOp_ (br (ha pins s σ H _ I h) fun v s1 hq__ => ?_)
 obtain ⟨x, H1, I1, r1, q1⟩ := hq__
 obtain ⟨c, rfl, q1⟩ := q1
 cases r1
 exact not_of (wpAny_truthy_bool ⟨.bl (!c), H1, I1, rfl, q1⟩)
end
def SqL (K : PySem.W.Frag) (H : Hp) (a : Addr) (xs : List V) : Prop :=
 Rd H a (.lst xs) \/
  ∃ (o : Obj) (its : Array Value) (n : Nat), K.lookup a = some o /\ o.cls = .type "list" /\ o.dict = none /\ o.data = .seq its n /\ its.size <= sizeLine /\ Vals xs its.toList
def SqT (K : PySem.W.Frag) (H : Hp) (a : Addr) (xs : List V) : Prop :=
 Rd H a (.tup xs) \/
  ∃ (o : Obj) (its : Array Value) (n : Nat), K.lookup a = some o /\ o.cls = .type "tuple" /\ o.data = .seq its n /\ its.size <= sizeLine /\ Vals xs its.toList
def AL : Value -> Option V
 | .none => some .non
 | .bool b => some (.bl b)
 | .int i _ => some (.int i)
 | .str x _ => some (.str x)
 | .bytes b _ => some (.byt b)
 | .float b _ => some (.flt b)
 | .ref a => some (.ref a)
 | .type n => some (.ty n)
 | _ => none
theorem RelV.abs {x : V} {u : Value} (r : RelV x u) : AL u = some x := by
 cases x with
 | non => cases r; rfl
 | bl _ => cases r; rfl
 | int _ => obtain ⟨t, rfl⟩ := r; rfl
 | str _ => obtain ⟨t, rfl⟩ := r; rfl
 | byt _ => obtain ⟨t, rfl⟩ := r; rfl
 | flt _ => obtain ⟨t, rfl⟩ := r; rfl
 | ref _ => cases r; rfl
 | ty _ => cases r; rfl
theorem RelV.inj {x y : V} {u : Value} (r : RelV x u) (q : RelV y u) : x = y := Option.some.inj (r.abs.symm.trans q.abs)
theorem Vals.inj : ∀ {xs ys : List V} {us : List Value}, Vals xs us -> Vals ys us -> xs = ys := by
 intro xs ys us h
 induction h generalizing ys with
 | nil => intro h'; cases h'; rfl
 | cons r t ih =>
  intro h'
  cases h' with
  | cons r' t' => rw [r.inj r', ih t']
section
variable {X : Cx} {pins : List (Addr × Obj)} {σ : St} {H : Hp} {s : Shared} {a : Addr} {xs ys : List V}
theorem SqL.of {K : PySem.W.Frag} (h : H a = some (.lst xs)) : SqL K H a xs := .inl (.inl h)
theorem SqT.of {K : PySem.W.Frag} (h : H a = some (.tup xs)) : SqT K H a xs := .inl (.inl h)
theorem Inv.list (I : Inv X pins σ H s) (h : SqL X.K H a xs) : ∃ its : List Value, Vals xs its /\ PlainL s.heap a its.toArray /\ xs.length <= sizeLine := by
 rcases h with h | ⟨o, its, n, hk, hc, hd, hs, hz, r⟩
 ·obtain ⟨z, its, n, r, e⟩ := h.ok I.hok
  exact ⟨its, r, ⟨_, n, e, rfl, rfl, rfl⟩, z⟩
 ·refine ⟨its.toList, r, ⟨o, n, I.kIn a o hk, hc, hd, by simpa using hs⟩, ?_⟩
  have e := r.length
  simp only [CL] at e
  omega
theorem Inv.tuple (I : Inv X pins σ H s) (h : SqT X.K H a xs) : ∃ its : List Value, Vals xs its /\ IsTup s.heap a its.toArray /\ xs.length <= sizeLine := by
 rcases h with h | ⟨o, its, n, hk, hc, hs, hz, r⟩
 ·obtain ⟨z, its, r, p⟩ := h.ok I.hok
  exact ⟨its, r, p, z⟩
 ·refine ⟨its.toList, r, ⟨o, I.kIn a o hk, hc, n, by simpa using hs⟩, ?_⟩
  have e := r.length
  simp only [CL] at e
  omega
theorem Inv.list_inj (I : Inv X pins σ H s) (h : SqL X.K H a xs) (h' : SqL X.K H a ys) : xs = ys := by
 obtain ⟨its, r, ⟨o, n, e, _, _, d⟩, _⟩ := I.list h
 obtain ⟨its', r', ⟨o', n', e', _, _, d'⟩, _⟩ := I.list h'
 rw [e] at e'; cases e'
 rw [d] at d'
 injection d' with d1 _
 have : its = its' := by simpa using congrArg Array.toList d1
 subst this
 exact r.inj r'
theorem Inv.tuple_inj (I : Inv X pins σ H s) (h : SqT X.K H a xs) (h' : SqT X.K H a ys) : xs = ys := by
 obtain ⟨its, r, ⟨o, e, _, n, d⟩, _⟩ := I.tuple h
 obtain ⟨its', r', ⟨o', e', _, n', d'⟩, _⟩ := I.tuple h'
 rw [e] at e'; cases e'
 rw [d] at d'
 injection d' with d1 _
 have : its = its' := by simpa using congrArg Array.toList d1
 subst this
 exact r.inj r'
end
abbrev Cx.wish (X : Cx) (E : Value -> Shared -> Prop) : Cx := { X with xe := E }
abbrev Cx.nox (X : Cx) : Cx := X.wish fun _ _ => False
theorem Cx.Ok.wish {X : Cx} (ok : X.Ok) (E : Value -> Shared -> Prop) : (X.wish E).Ok :=
 ⟨ok.mod, ok.kind, ok.glob, ok.blt, ok.above, ok.inj, ok.has, ok.cab, ok.hd, ok.frames, ok.stk, ok.exf, ok.bs, ok.bsz, ok.noex, ok.exfs, ok.funs, ok.frf⟩
theorem Cx.Ok.unwish {X : Cx} {E : Value -> Shared -> Prop} (ok : (X.wish E).Ok) : X.Ok :=
 ⟨ok.mod, ok.kind, ok.glob, ok.blt, ok.above, ok.inj, ok.has, ok.cab, ok.hd, ok.frames, ok.stk, ok.exf, ok.bs, ok.bsz, ok.noex, ok.exfs, ok.funs, ok.frf⟩
section
variable {X : Cx} {pins : List (Addr × Obj)} {σ : St} {H : Hp} {s : Shared} {E : Value -> Shared -> Prop}
theorem Inv.wish (I : Inv X pins σ H s) (E : Value -> Shared -> Prop) : Inv (X.wish E) pins σ H s := ⟨I.ok.wish E, I.os, I.bare, I.base, I.loc, I.cell, I.free, I.freeC, I.pin, I.hok, I.len⟩
theorem Inv.unwish (I : Inv (X.wish E) pins σ H s) : Inv X pins σ H s := ⟨I.ok.unwish, I.os, I.bare, I.base, I.loc, I.cell, I.free, I.freeC, I.pin, I.hok, I.len⟩
theorem SP.unwish {D : Ends} {f : Flow} {s' : Shared} (h : SP (X.wish E) pins D f s') : SP X pins D f s' := by
 cases f with
 | next => obtain ⟨σ', H', I, q⟩ := h; exact ⟨σ', H', I.unwish, q⟩
 | brk => obtain ⟨σ', H', I, q⟩ := h; exact ⟨σ', H', I.unwish, q⟩
 | cont => obtain ⟨σ', H', I, q⟩ := h; exact ⟨σ', H', I.unwish, q⟩
 | ret u => obtain ⟨v, σ', H', I, r, q⟩ := h; exact ⟨v, σ', H', I.unwish, r, q⟩
theorem PSs.nox {st : List Stmt} {t : TS} (h : PSs X.nox st t) : PSs X st t := fun pins s σ H D I hw =>
 wpAny_mono (h pins s σ H D (I.wish _) hw) (fun _ _ q => q.unwish) fun _ _ z => False.elim z
end
section
variable {X : Cx} {st : Stmt} {dC : List Stmt} {t u : TS} {e : Expr} {te : TE} {pos : Pos}
def zq : TS := fun D σ H => D.nx σ H
def AM (t u : TS) : TS := fun D σ H => t { D with nx := u D } σ H
theorem aB : PSs X [] zq := fun _ _ σ H _ I h => wpAny_execs_nil ⟨σ, H, I, h⟩
theorem af (h1 : PS X st t) (h2 : PSs X dC u) : PSs X (st :: dC) (AM t u) := by
 intro pins s σ H D I h
 refine wpAny_execs_cons (br (h1 pins s σ H { D with nx := u D } I h) fun f s1 q => ?_)
 cases f with
 | next =>
  obtain ⟨σ', H', I', q⟩ := q
  exact h2 pins s1 σ' H' D I' q
 | ret v => exact q
 | brk => exact q
 | cont => exact q
theorem ah (h1 : PS X st t) : PSs X [st] t := by
 intro pins s σ H D I h
 refine wpAny_execs_cons (br (h1 pins s σ H D I h) fun f s1 q => ?_)
 cases f with
 | next => exact wpAny_execs_nil q
 | ret v => exact q
 | brk => exact q
 | cont => exact q
theorem Inv.quiet {pins : List (Addr × Obj)} {σ : St} {H : Hp} {s : Shared} (I : Inv X pins σ H s) : interactive X.env = false := by simp [interactive, I.ok.kind]
def zr (te : TE) : TS := fun D σ H => te σ H fun _ H1 => D.nx σ H1
theorem bH (he : PE X e te) (hs : swapsWith e none pos.line X.env = pure false := by rfl) : PS X (.Expr e pos) (zr te) := by
 intro pins s σ H D I h
 exact wpAny_Expr_any (br (he pins s σ H _ I h) fun v s1 ⟨x, H1, I1, r1, q1⟩ => ⟨σ, H1, I1, q1⟩) I.quiet hs
def AN (te : TE) : TS := fun D σ H => te σ H D.rt
theorem av (he : PE X e te) : PS X (.Return (some e) pos) (AN te) := by
 intro pins s σ H D I h
 exact wpAny_Return_some (br (he pins s σ H _ I h) fun v s1 ⟨x, H1, I1, r1, q1⟩ => ⟨x, σ, H1, I1, r1, q1⟩)
def zt : TS := fun D _ H => D.rt .non H
theorem v5 : PS X (.Return none pos) zt := fun _ _ σ H _ I h => wpAny_Return_none ⟨.non, σ, H, I, rfl, h⟩
def AO (c : TT) (t u : TS) : TS := fun D σ H => c σ H fun b H1 => if b = true then t D σ H1 else u D σ H1
theorem aI {c : Expr} {a b : List Stmt} {tc : TT} (hc : PT X c tc) (ha : PSs X a t) (hb : PSs X b u) : PS X (.If c a b pos) (AO tc t u) := by
 intro pins s σ H D I h
 refine wpAny_If (br (hc pins s σ H _ I h) fun d s1 hq__ => ?_)
 obtain ⟨H1, I1, q1⟩ := hq__
 cases d with
 | true => exact ha pins s1 σ H1 D I1 q1
 | false => exact hb pins s1 σ H1 D I1 q1
end
abbrev TG := V -> St -> Hp -> (St -> Hp -> Prop) -> Prop
abbrev xF := List V -> St -> Hp -> (St -> Hp -> Prop) -> Prop
def PG (X : Cx) (target : Expr) (t : TG) : Prop :=
 ∀ (pins : List (Addr × Obj)) (s : Shared) (σ : St) (H : Hp) (v : V) (u : Value) (Q : St -> Hp -> Prop), Inv X pins σ H s -> RelV v u -> t v σ H Q ->
  wpAny (model X.prog X.w) X.A (assign target X.env u) (fun _ s' => ∃ σ' H', Inv X pins σ' H' s' /\ Q σ' H') X.xe s
def zd (X : Cx) (ts : List Expr) (t : xF) : Prop :=
 ∀ (pins : List (Addr × Obj)) (s : Shared) (σ : St) (H : Hp) (vs : List V) (us : List Value) (Q : St -> Hp -> Prop), Inv X pins σ H s -> Vals vs us -> t vs σ H Q ->
  wpAny (model X.prog X.w) X.A (assignInOrder ((assignEach ts X.env).map (·.2)) us) (fun _ s' => ∃ σ' H', Inv X pins σ' H' s' /\ Q σ' H') X.xe s
abbrev t8 := V -> V -> V -> Hp -> (Hp -> Prop) -> Prop
def yg (X : Cx) (t : t8) : Prop :=
 ∀ (pins : List (Addr × Obj)) (s : Shared) (σ : St) (H : Hp) (o i v : V) (ov iv u : Value) (Q : Hp -> Prop), Inv X pins σ H s -> RelV o ov -> RelV i iv -> RelV v u -> t o i v H Q ->
  wpAny (model X.prog X.w) X.A (setItem ov iv u) (fun _ s' => ∃ H', Inv X pins σ H' s' /\ Q H') X.xe s
abbrev Av := V -> V -> Hp -> VK -> Prop
def Bs (X : Cx) (op : Operator) (t : Av) : Prop :=
 ∀ (pins : List (Addr × Obj)) (s : Shared) (σ : St) (H : Hp) (x y : V) (v u : Value) (Q : VK), Inv X pins σ H s -> RelV x v -> RelV y u -> t x y H Q ->
  wpAny (model X.prog X.w) X.A (inplaceOp op v u) (EP X pins σ Q) X.xe s
section
variable {X : Cx} {pos : Pos}
def bN (i : Nat) : TG := fun v σ H Q => Q (σ.set i (some v)) H
theorem aq {i : Nat} {x : Str} (hN : X.N.Nodup) (hi : X.N[i]? = some x) (hx : zk X.env.scope x) (hf : X.fn x = true \/ X.env.scope.names.lookup x = some .local := by first | exact .inl rfl | exact .inr rfl | assumption) : PG X (.Name x pos) (bN i) := by
 intro pins s σ H v u Q I r h
 exact wpAny_assign_Name (nM I hN hi hx r (fun s' I' => ⟨_, H, I', h⟩) hf)
def t9 : xF := fun vs σ H Q => vs = [] /\ Q σ H
def gJ (t : TG) (u : xF) : xF := fun vs σ H Q => ∃ v r, vs = v :: r /\ t v σ H fun σ' H' => u r σ' H' Q
theorem cX : zd X [] t9 := by
 intro pins s σ H vs us Q I r h
 obtain ⟨e, h⟩ := h
 subst e
 cases r
 exact assignInOrder_nil ⟨σ, H, I, h⟩
theorem a7 {e : Expr} {es : List Expr} {t : TG} {u : xF} (h1 : PG X e t) (h2 : zd X es u)
  (hs : (assignEach (e :: es) X.env).map (·.2) = assign e X.env :: (assignEach es X.env).map (·.2) := by rfl) : zd X (e :: es) (gJ t u) := by
 intro pins s σ H vs us Q I r h
 obtain ⟨v, vr, e1, h⟩ := h
 subst e1
 cases r with
 | cons r rr =>
  rw [hs]
  refine assignInOrder_cons (br (h1 pins s σ H _ _ _ I r h) fun _ s1 hq__ => ?_)
  obtain ⟨σ1, H1, I1, q1⟩ := hq__
  exact h2 pins s1 σ1 H1 _ _ Q I1 rr q1
def rN (K : PySem.W.Frag) (n : Nat) (t : xF) : TG := fun v σ H Q => ∃ a xs, v = .ref a /\ SqT K H a xs /\ xs.length = n /\ t xs σ H Q
theorem yh {es : List Expr} {k : Nat} {t : xF} {n : Nat} (hc : X.calm = true) (h : zd X es t)
  (hn : (assignEach es X.env).length = n := by rfl) (hst : (assignEach es X.env).findIdx? (·.1) = none := by rfl) : PG X (.Tuple es k pos) (rN X.K n t) := by
 intro pins s σ H v u Q I r hw
 obtain ⟨a, xs, e1, hq, hl, hw⟩ := hw
 subst e1
 cases r
 obtain ⟨its, rv, ht, hz⟩ := I.tuple hq
 refine assign_Tuple_tuple (I.ok.hd hc) ht (by simp [hn, <- hl, rv.length]) hst fun h' hx => ?_
 have I1 : Inv X pins σ H { s with heap := h' } := I.kept (t' := s.toks) fun b o e => hx b o (Cp (Heap.lt_size e)) e
 exact h pins _ σ H xs _ Q I1 (by simpa using rv) hw
def AQ (to ti : TE) (t : t8) : TG := fun v σ H Q => to σ H fun o H1 => ti σ H1 fun i H2 => t o i v H2 fun H3 => Q σ H3
theorem ph {o i : Expr} {to ti : TE} {t : t8} (ho : PE X o to) (hi : PE X i ti) (hs : yg X t)
  (ha : ∀ v, assign (.Subscript o i pos) X.env v = (do
   let ov <- holding [v] (eval o X.env)
   let iv <- holding [v, ov] (eval i X.env)
   standAt pos
   holding [v, ov, iv] (setItem ov iv v)
   release [v, ov, iv] []) := by intro _; rfl) : PG X (.Subscript o i pos) (AQ to ti t) := by
 intro pins s σ H v u Q I r h
 rw [ha]
 refine wpAny_bind (wpAny_holding (br (ho pins s σ H _ I h) fun ov s1 hq__ => ?_))
 obtain ⟨x, H1, I1, r1, q1⟩ := hq__
 refine wpAny_bind (wpAny_holding (br (hi pins s1 σ H1 _ I1 q1) fun iv s2 hq__ => ?_))
 obtain ⟨y, H2, I2, r2, q2⟩ := hq__
 refine wpAny_bind (wpAny_standAt (wpAny_bind (wpAny_holding (br (hs pins s2 σ H2 x y v ov iv u _ I2 r1 r2 r q2) fun _ s3 hq__ => ?_))))
 obtain ⟨H3, I3, q3⟩ := hq__
 exact wpAny_release ⟨σ, H3, I3, q3⟩
def yi (te : TE) (g : TG) : TS := fun D σ H => te σ H fun x H1 => g x σ H1 D.nx
theorem jF {tg e : Expr} {te : TE} {g : TG} (he : PE X e te) (hg : PG X tg g) (hs : swapsWithSole [tg] e pos.line X.env = pure false := by rfl) (hw : swappedStores [tg] e X.env = pure none := by rfl)
  (h1 : (assignEach [tg] X.env).map (·.2) = [assign tg X.env] := by rfl) : PS X (.Assign [tg] e pos) (yi te g) := by
 intro pins s σ H D I h
 refine wpAny_Assign_stores (br (he pins s σ H _ I h) fun v s1 ⟨x, H1, I1, r1, q1⟩ => ?_) hs hw
 rw [h1]
 exact br (hg pins s1 σ H1 x v _ I1 r1 q1) fun _ s2 q => q
theorem ax {i : Nat} {x : Str} {e : Expr} {te : TE} {pos' : Pos} (hN : X.N.Nodup) (hi : X.N[i]? = some x) (hx : zk X.env.scope x) (he : PE X e te) (hs : swapsWith e (some (.Name x pos')) pos.line X.env = pure false := by rfl) (hf : X.fn x = true \/ X.env.scope.names.lookup x = some .local := by first | exact .inl rfl | exact .inr rfl | assumption) :
  PS X (.Assign [.Name x pos'] e pos) (yi te (bN i)) := by
 intro pins s σ H D I h
 refine wpAny_Assign_Name (br (he pins s σ H _ I h) fun v s1 ⟨y, H1, I1, r1, q1⟩ => ?_) hs
 exact nM I1 hN hi hx r1 (fun s2 I2 => ⟨_, H1, I2, q1⟩) hf
def zu (to ti te : TE) (tget : V -> V -> Hp -> VK -> Prop) (tip : Av) (tset : t8) : TS := fun D σ H => to σ H fun o H1 => ti σ H1 fun i H2 => tget o i H2 fun x H3 => te σ H3 fun y H4 => tip x y H4 fun z H5 => tset o i z H5 fun H6 => D.nx σ H6
def zv (X : Cx) (t : V -> V -> Hp -> VK -> Prop) : Prop :=
 ∀ (pins : List (Addr × Obj)) (s : Shared) (σ : St) (H : Hp) (o i : V) (ov iv : Value) (Q : VK), Inv X pins σ H s -> RelV o ov -> RelV i iv -> t o i H Q ->
  wpAny (model X.prog X.w) X.A (getItem ov iv) (EP X pins σ Q) X.xe s
theorem v7 {o i e : Expr} {to ti te : TE} {tget : V -> V -> Hp -> VK -> Prop} {tip : Av} {tset : t8} {op : Operator} {tpos : Pos} (ho : PE X o to) (hi : PE X i ti) (hg : zv X tget) (he : PE X e te) (hp : Bs X op tip) (hs : yg X tset)
  (ha : ∀ ov iv new, augStore i ov iv new = (do holding [new, ov, iv] (setItem ov iv new); release [new, ov, iv] []; pure .next) := by intros; rfl) : PS X (.AugAssign (.Subscript o i tpos) op e pos) (zu to ti te tget tip tset) := by
 intro pins s σ H D I h
 refine wpAny_AugAssign_SubscriptAny (br (ho pins s σ H _ I h) fun ov s1 ⟨x1, H1, I1, r1, q1⟩ => ?_) ha
 refine br (hi pins s1 σ H1 _ I1 q1) fun iv s2 hq__ => ?_
 obtain ⟨x2, H2, I2, r2, q2⟩ := hq__
 refine br (hg pins s2 σ H2 x1 x2 ov iv _ I2 r1 r2 q2) fun old s3 hq__ => ?_
 obtain ⟨x3, H3, I3, r3, q3⟩ := hq__
 refine br (he pins s3 σ H3 _ I3 q3) fun v s4 hq__ => ?_
 obtain ⟨x4, H4, I4, r4, q4⟩ := hq__
 refine br (hp pins s4 σ H4 x3 x4 old v _ I4 r3 r4 q4) fun new s5 hq__ => ?_
 obtain ⟨x5, H5, I5, r5, q5⟩ := hq__
 exact br (hs pins s5 σ H5 x1 x2 x5 ov iv new _ I5 r1 r2 r5 q5) fun _ s6 ⟨H6, I6, q6⟩ => ⟨σ, H6, I6, q6⟩
def BE (f : Int -> Int -> Int) : Av := fun x y H Q => ∃ i j, x = .int i /\ y = .int j /\ Q (.int (f i j)) H
theorem yj : Bs X .Add (BE fun i j => i + j) := by
 intro pins s σ H x y v u Q I r1 r2 h
 obtain ⟨i, j, e1, e2, q⟩ := h
 subst e1; subst e2
 obtain ⟨t, rfl⟩ := r1
 obtain ⟨t', rfl⟩ := r2
 exact iadd_int ⟨.int _, H, I.tok _, ⟨_, rfl⟩, q⟩
end
section
variable {X : Cx} {pos : Pos}
def yk (c : TT) (tb : TS) : TS := fun D σ H => ∃ W : Nat -> St -> Hp -> Prop, (∃ m, W m σ H) /\ ∀ m σ H, W m σ H ->
 c σ H fun b H1 => if b = true then ∃ N : St -> Hp -> Prop, (∀ σ' H', N σ' H' -> ∃ m', m' < m /\ W m' σ' H') /\ tb { D with nx := N, ct := N, bk := D.nx } σ H1 else D.nx σ H1
theorem nN {c : Expr} {body : List Stmt} {tc : TT} {tb : TS} (hp : PassesOwn (model X.prog X.w) X.A X.env X.xe) (hc : PT X c tc) (hb : PSs X body tb) : PS X (.While c body [] pos) (yk tc tb) := by
 intro pins s σ H D I h
 obtain ⟨W, ⟨m0, w0⟩, turn⟩ := h
 refine wpAny_While (codeAny_whileLoop (fun n s' => ∃ σ' H', Inv X pins σ' H' s' /\ W n σ' H') ?_ m0 ⟨σ, H, I, w0⟩)
 rintro n s1 ⟨σ1, H1, I1, w1⟩
 refine wpAny_passesOwn hp (br (hc pins s1 σ1 H1 _ I1 (turn n σ1 H1 w1)) fun b s2 hq__ => ?_)
 obtain ⟨H2, I2, q2⟩ := hq__
 cases b with
 | true =>
  obtain ⟨N, hN, q2⟩ := q2
  rw [if_pos rfl]
  refine wpAny_passesOwn hp (br (hb pins s2 σ1 H2 _ I2 q2) fun f s3 q3 => ?_)
  cases f with
  | next =>
   obtain ⟨σ3, H3, I3, n3⟩ := q3
   obtain ⟨m', hm, w3⟩ := hN σ3 H3 n3
   exact ⟨m', hm, σ3, H3, I3, w3⟩
  | cont =>
   obtain ⟨σ3, H3, I3, n3⟩ := q3
   obtain ⟨m', hm, w3⟩ := hN σ3 H3 n3
   exact ⟨m', hm, σ3, H3, I3, w3⟩
  | brk => exact q3
  | ret v => exact q3
 | false =>
  rw [if_neg Cj]
  exact wpAny_execs_nil ⟨σ1, H2, I2, q2⟩
end
structure It where
 go : Nat -> Hp -> Prop
 yld : Nat -> Hp -> V -> Hp -> Prop
 stop : Nat -> Hp -> Prop
def mj (X : Cx) (pins : List (Addr × Obj)) (H : Hp) (b : Addr) : Prop :=
 H b = none /\ b ≠ X.env.locals /\ b ∉ X.fs /\ (b ∈ X.ex \/ X.s₀.heap.objs.size <= b) /\ (∀ x c, X.env.cells.lookup x = some c -> c ≠ b) /\ ∀ p ∈ X.pn ++ pins, p.1 ≠ b
theorem Inv.fpOk {X : Cx} {pins : List (Addr × Obj)} {σ : St} {H H' : Hp} {s : Shared} {b : Addr} (I : Inv X pins σ H s) (hb : s.heap.objs.size <= b) (hn : H' b = none) : mj X pins H' b := by
 refine ⟨hn, Ed (Cy I.lt hb), I.nofs hb, .inr (CJ I.sz hb), fun x c e z => ?_, fun p hp z => ?_⟩
 ·obtain ⟨v, q⟩ := I.cell x c e
  exact absurd (Cy q.lt (by rw [z]; exact hb)) (Dw _)
 ·exact absurd (Cy (Heap.lt_size (I.pin p hp).1) (by rw [z]; exact hb)) (Dw _)
structure Turn (P : Program) (w : World) (K : PySem.W.Frag) (tg : Expr) (J : It) (fp : List Addr) (it : Addr) (tn : Nat -> Heap -> Prop) : Prop where
 mem : it ∈ fp
 obj : ∀ i h, tn i h -> ∀ b ∈ fp, ∃ o, h.get? b = some o /\ ∀ v, o.data ≠ .cell v
 keep : ∀ i h h', tn i h -> (∀ b ∈ fp, ∀ o, h.get? b = some o -> h'.get? b = some o) -> tn i h'
 item : ∀ (X : Cx), X.prog = P -> X.w = w -> X.K = K -> X.calm = true -> ∀ (i : Nat) (pins : List (Addr × Obj)) (s : Shared) (σ : St) (H : Hp) (E : Value -> Shared -> Prop), Inv X pins σ H s -> (∀ b ∈ fp, mj X pins H b) -> tn i s.heap -> J.go i H ->
  wpAny (model P w) X.A (pyNext (.ref it)) (fun r s1 => ∃ u, r = some u /\
   wpAny (model P w) X.A (letOwnedTupleGo tg (.ref it) u) (fun _ s2 => ∃ x H', Inv X pins σ H' s2 /\ RelV x u /\ J.yld i H x H' /\ tn (i + 1) s2.heap /\ ∀ b ∈ fp, H' b = none) E s1) E s
 done : ∀ (X : Cx), X.prog = P -> X.w = w -> X.K = K -> X.calm = true -> ∀ (i : Nat) (pins : List (Addr × Obj)) (s : Shared) (σ : St) (H : Hp) (E : Value -> Shared -> Prop), Inv X pins σ H s -> (∀ b ∈ fp, mj X pins H b) -> tn i s.heap -> J.stop i H ->
  wpAny (model P w) X.A (pyNext (.ref it)) (fun r s1 => r = none /\ Inv X pins σ H s1) E s
 self : ∀ (A : Around) (i : Nat) (s : Shared) (Q : Value -> Shared -> Prop) (E : Value -> Shared -> Prop), tn i s.heap -> Q (.ref it) s -> wpAny (model P w) A (pyIter (.ref it)) Q E s
abbrev TI := St -> Hp -> (It -> Hp -> Prop) -> Prop
def Bt (X : Cx) (pins : List (Addr × Obj)) (σ : St) (tg : Expr) (R : It -> Hp -> Prop) (itv : Value) (s2 : Shared) : Prop :=
 ∃ (it : Addr) (fp : List Addr) (tn : Nat -> Heap -> Prop) (J : It) (H' : Hp), itv = .ref it /\ Inv X pins σ H' s2 /\ Turn X.prog X.w X.K tg J fp it tn /\ tn 0 s2.heap /\ (∀ b ∈ fp, mj X pins H' b) /\ R J H'
def PI (X : Cx) (tg iter : Expr) (wi : TI) : Prop :=
 ∀ (pins : List (Addr × Obj)) (s : Shared) (σ : St) (H : Hp) (R : It -> Hp -> Prop), Inv X pins σ H s -> wi σ H R ->
  wpAny (model X.prog X.w) X.A (eval iter X.env) (fun v s1 => wpAny (model X.prog X.w) X.A (pyIter v) (Bt X pins σ tg R) X.xe s1) X.xe s
theorem ly {M : Model} {A : Around} {E : Value -> Shared -> Prop} {s : Shared} {tg : Expr} {it : Addr} {u : Value} {o : Obj} {n : String} {vs : Array Value} {Q : Unit -> Shared -> Prop} (ho : s.heap.get? it = some o) (hc : o.cls = .type n) (hd : o.data = .fields vs)
    (hn : ["enumerate", "zip", "dict_itemiterator", "dict_reverseitemiterator", "odict_iterator", "itertools.zip_longest", "itertools.pairwise"].contains n = false) (hQ : Q () s) : wpAny M A (letOwnedTupleGo tg (.ref it) u) Q E s := by
  unfold letOwnedTupleGo
  cases tg <;> first
    | exact wpAny_pure hQ
    | (cases u <;> first
        | exact wpAny_pure hQ
        | (refine wpAny_bind (wpAny_load ho ?_)
           rw [hc, hd]
           show wpAny M A (if (["enumerate", "zip", "dict_itemiterator", "dict_reverseitemiterator", "odict_iterator", "itertools.zip_longest", "itertools.pairwise"].contains n && vs[0]? == some (rawInt _)) = true then _ else _) Q E s
           rw [if_neg (by intro h; rw [hn, EB] at h; cases h)]
           exact wpAny_pure hQ))
def nO (K : PySem.W.Frag) (a : Addr) : It :=
 ⟨fun i H => ∃ xs x, SqL K H a xs /\ xs[i]? = some x, fun i H x H' => H' = H /\ ∀ xs, SqL K H a xs -> xs[i]? = some x, fun i H => ∃ xs, SqL K H a xs /\ xs.length <= i⟩
def xG (K : PySem.W.Frag) (a : Addr) : It :=
 ⟨fun i H => ∃ xs x, SqT K H a xs /\ xs[i]? = some x, fun i H x H' => H' = H /\ ∀ xs, SqT K H a xs -> xs[i]? = some x, fun i H => ∃ xs, SqT K H a xs /\ xs.length <= i⟩
def o8 (lo : Int) (n : Nat) : It := ⟨fun i _ => i < n, fun i H x H' => H' = H /\ x = .int (lo + i), fun i _ => n <= i⟩
theorem lz {P : Program} {w : World} {K : PySem.W.Frag} {tg : Expr} (a it : Addr) : Turn P w K tg (nO K a) [it] it (fun i h => h.IsListIter it a i) where
 mem := by simp
 obj := fun i h st b hb => by
  have e : b = it := by simpa using hb
  subst e
  obtain ⟨o, e, c, d⟩ := st
  exact ⟨o, e, fun v z => by rw [d] at z; cases z⟩
 keep := fun i h h' st k => st.at fun o e => k it (by simp) o e
 item := by
  intro X hP hw hK hc i pins s σ H E I hf st hg
  subst hP hw hK
  obtain ⟨xs, x, hq, hx⟩ := hg
  obtain ⟨its, rv, p, hz⟩ := I.list hq
  obtain ⟨u, hu, ru⟩ := rv.get hx
  obtain ⟨f0, f1, f2, f3, f4, f5⟩ := hf it (by simp)
  refine wpAny_pyNext_list_item st p.isList (x := u) (by simpa using hu) fun h' st' sb => ?_
  have I1 : Inv X pins σ H { s with heap := h' } := I.turned (t' := s.toks) (fun b o hb e => (sb.2 b hb).trans e) f0 f1 f3 f4 f5
  obtain ⟨o, e, c, d⟩ := id st'
  exact ⟨u, rfl, ly (s := { s with heap := h' }) e c d (by decide) ⟨x, H, I1, ru, ⟨rfl, fun ys hy => by rw [I.list_inj hy hq]; exact hx⟩, st', fun b hb => (hf b hb).1⟩⟩
 done := by
  intro X hP hw hK hc i pins s σ H E I hf st hg
  subst hP hw hK
  obtain ⟨xs, hq, hx⟩ := hg
  obtain ⟨its, rv, p, hz⟩ := I.list hq
  obtain ⟨f0, f1, f2, f3, f4, f5⟩ := hf it (by simp)
  have hl := rv.length
  exact wpAny_pyNext_list_end (I.ok.hd hc) st p.isList (by simp; omega) fun h' eb => ⟨rfl, I.turned (t' := s.toks) (fun b o hb e => eb b o hb e) f0 f1 f3 f4 f5⟩
 self := fun _ _ _ _ _ st h => wpAny_pyIter_listiter st h
theorem jG {P : Program} {w : World} {K : PySem.W.Frag} {tg : Expr} (a it : Addr) : Turn P w K tg (xG K a) [it] it (fun i h => h.IsTupleIter it a i) where
 mem := by simp
 obj := fun i h st b hb => by
  have e : b = it := by simpa using hb
  subst e
  obtain ⟨o, e, c, d⟩ := st
  exact ⟨o, e, fun v z => by rw [d] at z; cases z⟩
 keep := fun i h h' st k => st.at fun o e => k it (by simp) o e
 item := by
  intro X hP hw hK hc i pins s σ H E I hf st hg
  subst hP hw hK
  obtain ⟨xs, x, hq, hx⟩ := hg
  obtain ⟨its, rv, p, hz⟩ := I.tuple hq
  obtain ⟨u, hu, ru⟩ := rv.get hx
  obtain ⟨f0, f1, f2, f3, f4, f5⟩ := hf it (by simp)
  refine wpAny_pyNext_tuple_item st (show s.heap.IsTuple a its.toArray from p) (x := u) (by simpa using hu) fun h' st' sb => ?_
  have I1 : Inv X pins σ H { s with heap := h' } := I.turned (t' := s.toks) (fun b o hb e => (sb.2 b hb).trans e) f0 f1 f3 f4 f5
  obtain ⟨o, e, c, d⟩ := id st'
  exact ⟨u, rfl, ly (s := { s with heap := h' }) e c d (by decide) ⟨x, H, I1, ru, ⟨rfl, fun ys hy => by rw [I.tuple_inj hy hq]; exact hx⟩, st', fun b hb => (hf b hb).1⟩⟩
 done := by
  intro X hP hw hK hc i pins s σ H E I hf st hg
  subst hP hw hK
  obtain ⟨xs, hq, hx⟩ := hg
  obtain ⟨its, rv, p, hz⟩ := I.tuple hq
  obtain ⟨f0, f1, f2, f3, f4, f5⟩ := hf it (by simp)
  have hl := rv.length
  exact wpAny_pyNext_tuple_end (I.ok.hd hc) st (show s.heap.IsTuple a its.toArray from p) (by simp; omega) fun h' eb => ⟨rfl, I.turned (t' := s.toks) (fun b o hb e => eb b o hb e) f0 f1 f3 f4 f5⟩
 self := fun _ _ _ _ _ st h => wpAny_pyIter_tupleiter st h
theorem pj {P : Program} {w : World} {K : PySem.W.Frag} {tg : Expr} (it : Addr) (lo : Int) (n : Nat) : Turn P w K tg (o8 lo n) [it] it (fun i h => IsRangeIter h it (lo + (i : Nat) * 1) ((n : Int) - (i : Nat)) 1) where
 mem := by simp
 obj := fun i h st b hb => by
  have e : b = it := by simpa using hb
  subst e
  exact ⟨_, st, fun v z => by
   have z' : Data.fields _ = Data.cell v := z
   cases z'⟩
 keep := fun i h h' st k => k it (by simp) _ st
 item := by
  intro X hP hw hK hc i pins s σ H E I hf st hg
  subst hP hw hK
  obtain ⟨f0, f1, f2, f3, f4, f5⟩ := hf it (by simp)
  have W := Walks.range (prog := X.prog) (w := X.w) (I.ok.hd hc) it lo 1 n
  refine W.item i s _ _ hg st fun v h' tk hv st' kk => ?_
  obtain ⟨t, rfl⟩ := hv
  have I1 : Inv X pins σ H { s with heap := h', toks := tk } := I.turned (fun b o hb e => kk b o (by simpa using hb) e) f0 f1 f3 f4 f5
  refine ⟨_, rfl, ly (s := { s with heap := h', toks := tk }) (n := "range_iterator") st' rfl rfl (by decide) ⟨.int (lo + i), H, I1, ⟨t, ?_⟩, ⟨rfl, rfl⟩, st', fun b hb => (hf b hb).1⟩⟩
  rw [Int.mul_one]
 done := by
  intro X hP hw hK hc i pins s σ H E I hf st hg
  subst hP hw hK
  obtain ⟨f0, f1, f2, f3, f4, f5⟩ := hf it (by simp)
  exact wpAny_pyNext_range_end (I.ok.hd hc) st (by have : n <= i := hg; omega) fun h' eb => ⟨rfl, I.turned (t' := s.toks) (fun b o hb e => eb b o hb e) f0 f1 f3 f4 f5⟩
 self := fun _ _ _ _ _ st h => wpAny_pyIter_rangeiter st h
section
variable {X : Cx} {tg : Expr}
def xH (K : PySem.W.Frag) (tl : TE) : TI := fun σ H R => tl σ H fun x H1 => ∃ a, x = .ref a /\ (∃ xs, SqL K H1 a xs) /\ R (nO K a) H1
def zw (K : PySem.W.Frag) (tl : TE) : TI := fun σ H R => tl σ H fun x H1 => ∃ a, x = .ref a /\ (∃ xs, SqT K H1 a xs) /\ R (xG K a) H1
theorem v8 {l : Expr} {tl : TE} (hl : PE X l tl) : PI X tg l (xH X.K tl) := by
 intro pins s σ H R I h
 refine br (hl pins s σ H _ I h) fun v s1 hq__ => ?_
 obtain ⟨x, H1, I1, r1, q1⟩ := hq__
 obtain ⟨a, e, ⟨xs, hq⟩, q⟩ := q1
 subst e
 cases r1
 obtain ⟨its, rv, p, hz⟩ := I1.list hq
 refine wpAny_pyIter_list p.isList ?_
 refine ⟨s1.heap.objs.size, [s1.heap.objs.size], _, _, H1, rfl, I1.kept (t' := s1.toks) fun b o e => Heap.get?_push_of_some _ e, lz a _, ⟨_, Heap.get?_push_size _ rfl, rfl, rfl⟩, fun b hb => ?_, q⟩
 have e : b = s1.heap.objs.size := by simpa using hb
 subst e
 exact I1.fpOk (Ca _) (I1.hok.fresh (Ca _))
theorem ym {l : Expr} {tl : TE} (hl : PE X l tl) : PI X tg l (zw X.K tl) := by
 intro pins s σ H R I h
 refine br (hl pins s σ H _ I h) fun v s1 hq__ => ?_
 obtain ⟨x, H1, I1, r1, q1⟩ := hq__
 obtain ⟨a, e, ⟨xs, hq⟩, q⟩ := q1
 subst e
 cases r1
 obtain ⟨its, rv, p, hz⟩ := I1.tuple hq
 refine wpAny_pyIter_tuple (show s1.heap.IsTuple a its.toArray from p) ?_
 refine ⟨s1.heap.objs.size, [s1.heap.objs.size], _, _, H1, rfl, I1.kept (t' := s1.toks) fun b o e => Heap.get?_push_of_some _ e, jG a _, ⟨_, Heap.get?_push_size _ rfl, rfl, rfl⟩, fun b hb => ?_, q⟩
 have e : b = s1.heap.objs.size := by simpa using hb
 subst e
 exact I1.fpOk (Ca _) (I1.hok.fresh (Ca _))
theorem nP {pins : List (Addr × Obj)} {σ : St} {H : Hp} {s : Shared} {R : It -> Hp -> Prop} {E : Value -> Shared -> Prop} {lo hi : Int} {t u v : Tok} {tk : Nat} (I : Inv X pins σ H s) (h1 : -(2 ^ 62) <= lo) (h2 : lo < 2 ^ 62) (h3 : -(2 ^ 62) <= hi) (h4 : hi < 2 ^ 62)
  (q : R (o8 lo (hi - lo).toNat) H) : wpAny (model X.prog X.w) X.A (pyIter (.ref s.heap.objs.size)) (Bt X pins σ tg R) E { s with heap := s.heap.push { cls := .type "range", data := .fields #[.int lo t, .int hi u, .int 1 v] }, toks := tk } := by
 refine wpAny_pyIter_range (IsRange.new ..) (small_one h1 h2 h3 h4) ?_
 have I1 : Inv X pins σ H { s with heap := s.heap.push { cls := .type "range", data := .fields #[.int lo t, .int hi u, .int 1 v] }, toks := tk } := I.kept fun b o e => Heap.get?_push_of_some _ e
 refine ⟨(s.heap.push { cls := .type "range", data := .fields #[.int lo t, .int hi u, .int 1 v] }).objs.size, [(s.heap.push { cls := .type "range", data := .fields #[.int lo t, .int hi u, .int 1 v] }).objs.size], _, _, H, rfl,
  I1.kept (t' := tk) fun b o e => Heap.get?_push_of_some _ e, pj _ lo (hi - lo).toNat, ?_, fun b hb => ?_, q⟩
 ·have e1 : lo + ((0 : Nat) : Int) * 1 = lo := by simp
  have e2 : (((hi - lo).toNat : Nat) : Int) - ((0 : Nat) : Int) = Builtin.Range.rangeSize lo hi 1 := by rw [rangeSize_one]; split <;> omega
  show IsRangeIter _ _ (lo + ((0 : Nat) : Int) * 1) ((((hi - lo).toNat : Nat) : Int) - ((0 : Nat) : Int)) 1
  rw [e1, e2]
  exact Heap.get?_push_size _ rfl
 ·have e : b = (s.heap.push { cls := .type "range", data := .fields #[.int lo t, .int hi u, .int 1 v] }).objs.size := by simpa using hb
  subst e
  exact I1.fpOk (Ca _) (I1.hok.fresh (Ca _))
def zx (ta : TA) : TI := fun σ H R => ta σ H fun vs H1 => ∃ j : Int, vs = [.int j] /\ -(2 ^ 62) <= j /\ j < 2 ^ 62 /\ R (o8 0 j.toNat) H1
def zy (ta : TA) : TI := fun σ H R => ta σ H fun vs H1 => ∃ i j : Int, vs = [.int i, .int j] /\ (-(2 ^ 62) <= i /\ i < 2 ^ 62 /\ -(2 ^ 62) <= j /\ j < 2 ^ 62) /\ R (o8 i (j - i).toNat) H1
theorem aQ {a : Expr} {ta : TA} {p pos : Pos} (hg : Gl X "range") (hm : X.mg "range" = none) (ha : PA X [a] ta) (hs : starEach [a] X.env = [(false, eval a X.env)] := by rfl) : PI X tg (.Call (.Name "range" p) [a] [] pos) (zx ta) := by
 intro pins s σ H R I h
 refine Call_ (fk I hg hm boot_range (PyProof.Rows.callWith_type1 (br (ha pos pins s σ H _ I h) fun us s1 ⟨vs, H1, I1, r1, q1⟩ => ?_) hs rfl))
 obtain ⟨j, e, q1, q2, q⟩ := q1
 subst e
 cases r1 with
 | cons r rr =>
  cases rr
  obtain ⟨t, rfl⟩ := r
  exact call_range_1 (nP I1 (by omega) (by omega) q1 q2 (by simpa using q))
theorem rO {a b : Expr} {ta : TA} {p pos : Pos} (hg : Gl X "range") (hm : X.mg "range" = none) (ha : PA X [a, b] ta) (hs : starEach [a, b] X.env = [(false, eval a X.env), (false, eval b X.env)] := by rfl) (hs2 : starEach [b] X.env = [(false, eval b X.env)] := by rfl) :
  PI X tg (.Call (.Name "range" p) [a, b] [] pos) (zy ta) := by
 intro pins s σ H R I h
 refine Call_ (fk I hg hm boot_range (PyProof.Rows.callWith_type1 (br (ha pos pins s σ H _ I h) fun us s1 ⟨vs, H1, I1, r1, q1⟩ => ?_) (by rw [hs, hs2]) (by rw [hs2]; rfl)))
 obtain ⟨i, j, e, ⟨q1, q2, q3, q4⟩, q⟩ := q1
 subst e
 cases r1 with
 | cons r rr =>
  cases rr with
  | cons r' rr =>
   cases rr
   obtain ⟨t, rfl⟩ := r
   obtain ⟨t', rfl⟩ := r'
   exact call_range_2 (nP I1 q1 q2 q3 q4 q)
def AR (wi : TI) (g : TG) (tb : TS) : TS := fun D σ H => wi σ H fun J H1 => ∃ W : Nat -> Nat -> St -> Hp -> Prop, (∃ m, W 0 m σ H1) /\ ∀ i m σ H, W i m σ H ->
 (J.stop i H /\ D.nx σ H) \/ (J.go i H /\ ∃ N : St -> Hp -> Prop, (∀ σ' H', N σ' H' -> ∃ m', m' < m /\ W (i + 1) m' σ' H') /\ ∀ x H', J.yld i H x H' -> g x σ H' fun σ2 H2 => tb { D with nx := N, ct := N, bk := D.nx } σ2 H2)
def jH (fp : List Addr) (h : Heap) : List (Addr × Obj) := fp.filterMap fun b => (h.get? b).map fun o => (b, o)
theorem eE {fp : List Addr} {h : Heap} {b : Addr} {o : Obj} (hb : b ∈ fp) (e : h.get? b = some o) : (b, o) ∈ jH fp h := Eb.mpr ⟨b, hb, by rw [e]; rfl⟩
theorem rP {fp : List Addr} {h : Heap} {p : Addr × Obj} (hp : p ∈ jH fp h) : p.1 ∈ fp /\ h.get? p.1 = some p.2 := by
 obtain ⟨b, hb, e⟩ := Eb.mp hp
 cases q : h.get? b with
 | none => rw [q] at e; cases e
 | some o =>
  rw [q] at e
  have e' : (b, o) = p := Option.some.inj e
  subst e'
  exact ⟨hb, q⟩
theorem Inv.pinned {pins : List (Addr × Obj)} {σ : St} {H : Hp} {s : Shared} {fp : List Addr} (I : Inv X pins σ H s) (hf : ∀ b ∈ fp, mj X pins H b) (ho : ∀ b ∈ fp, ∃ o, s.heap.get? b = some o /\ ∀ v, o.data ≠ .cell v) : Inv X (pins ++ jH fp s.heap) σ H s :=
 I.pins_of fun p hp => (Cw.mp hp).elim (fun z => I.pin p (CF _ z)) fun z => by
  obtain ⟨hb, e⟩ := rP z
  obtain ⟨f0, f1, f2, _⟩ := hf p.1 hb
  obtain ⟨o, e', d⟩ := ho p.1 hb
  rw [e] at e'; cases e'
  exact ⟨e, f0, f1, f2, d⟩
theorem Inv.unpinned {pins pl : List (Addr × Obj)} {σ : St} {H : Hp} {s : Shared} (I : Inv X (pins ++ pl) σ H s) : Inv X pins σ H s := I.pins_of fun p hp => I.pin p (CF _ (Cr _ hp))
theorem aX {iter : Expr} {body : List Stmt} {wi : TI} {g : TG} {tb : TS} {pos : Pos} (hp : PassesOwn (model X.prog X.w) X.A X.env X.xe) (hc : X.calm = true) (hi : PI X tg iter wi) (hg : PG X tg g) (hb : PSs X body tb)
  (hs : ∀ x, foldedSetIterable iter X.env x = pure x := by intro _; rfl) : PS X (.For tg iter body [] pos) (AR wi g tb) := by
 intro pins s σ H D I h
 refine wpAny_For (br (hi pins s σ H _ I h) fun v s1 h1 => br h1 fun itv s2 h2 => ?_) hs
 obtain ⟨it, fp, tn, J, H2, e, I2, T, st2, f2, W, ⟨m0, w0⟩, turn⟩ := h2
 subst e
 have stat : ∀ {H' : Hp}, (∀ b ∈ fp, H' b = none) -> ∀ b ∈ fp, mj X pins H' b := fun hn b hb => ⟨hn b hb, (f2 b hb).2⟩
 refine codeAny_forLoop_any (fun n s' => ∃ i σ' H', Inv X pins σ' H' s' /\ tn i s'.heap /\ (∀ b ∈ fp, H' b = none) /\ W i n σ' H') ?_ m0 ⟨0, σ, H2, I2, st2, fun b hb => (f2 b hb).1, w0⟩
 rintro n s3 ⟨i, σ3, H3, I3, st3, fr3, w3⟩
 rcases turn i n σ3 H3 w3 with ⟨stop, qn⟩ | ⟨go, N, hN, step⟩
 ·refine wpAny_passesOwn hp (br (T.done X rfl rfl rfl hc i pins s3 σ3 H3 X.xe I3 (stat fr3) st3 stop) fun r s4 hq__ => ?_)
  obtain ⟨hr, I4⟩ := hq__
  subst hr
  exact wpAny_execs_nil ⟨σ3, H3, I4, qn⟩
 ·refine wpAny_passesOwn hp (br (T.item X rfl rfl rfl hc i pins s3 σ3 H3 X.xe I3 (stat fr3) st3 go) fun r s4 hq__ => ?_)
  obtain ⟨u, hr, h4⟩ := hq__
  subst hr
  refine wpAny_passesOwn hp (br h4 fun _ s5 hq__ => ?_)
  obtain ⟨x, H5, I5, r5, y5, st5, fr5⟩ := hq__
  have I5' := I5.pinned (stat fr5) (T.obj _ _ st5)
  refine wpAny_passesOwn hp (br (hg _ s5 σ3 H5 x u _ I5' r5 (step x H5 y5)) fun _ s6 hq__ => ?_)
  obtain ⟨σ6, H6, I6, q6⟩ := hq__
  refine wpAny_passesOwn hp (br (hb _ s6 σ6 H6 _ I6 q6) fun f s7 q7 => ?_)
  have again : ∀ {σ7 : St} {H7 : Hp}, Inv X (pins ++ jH fp s5.heap) σ7 H7 s7 -> N σ7 H7 -> ∃ m, m < n /\ ∃ i σ' H', Inv X pins σ' H' s7 /\ tn i s7.heap /\ (∀ b ∈ fp, H' b = none) /\ W i m σ' H' := fun {σ7 H7} I7 n7 => by
   obtain ⟨m', hm, w7⟩ := hN σ7 H7 n7
   refine ⟨m', hm, i + 1, σ7, H7, I7.unpinned, T.keep _ _ _ st5 fun b hb o e => (I7.pin (b, o) (CF _ (CF _ (eE hb e)))).1, fun b hb => ?_, w7⟩
   obtain ⟨o, e, d⟩ := T.obj _ _ st5 b hb
   exact (I7.pin (b, o) (CF _ (CF _ (eE hb e)))).2.1
  cases f with
  | next => obtain ⟨σ7, H7, I7, n7⟩ := q7; exact again I7 n7
  | cont => obtain ⟨σ7, H7, I7, n7⟩ := q7; exact again I7 n7
  | brk => obtain ⟨σ7, H7, I7, q7⟩ := q7; exact ⟨σ7, H7, I7.unpinned, q7⟩
  | ret v => obtain ⟨x7, σ7, H7, I7, r7, q7⟩ := q7; exact ⟨x7, σ7, H7, I7.unpinned, r7, q7⟩
end
theorem bQ {K : PySem.W.Frag} {a : Addr} {xs : List V} {g : TG} {tb : TS} {D : Ends} {σ : St} {H : Hp} (Pv : Nat -> St -> Hp -> Prop) (h0 : Pv 0 σ H) (hl : ∀ i σ H, i <= xs.length -> Pv i σ H -> SqL K H a xs)
  (hs : ∀ i x σ H, xs[i]? = some x -> Pv i σ H -> g x σ H fun σ2 H2 => tb { D with nx := Pv (i + 1), ct := Pv (i + 1), bk := D.nx } σ2 H2) (hd : ∀ σ H, Pv xs.length σ H -> D.nx σ H) :
  ∃ W : Nat -> Nat -> St -> Hp -> Prop, (∃ m, W 0 m σ H) /\ ∀ i m σ H, W i m σ H ->
   ((nO K a).stop i H /\ D.nx σ H) \/ ((nO K a).go i H /\ ∃ N : St -> Hp -> Prop, (∀ σ' H', N σ' H' -> ∃ m', m' < m /\ W (i + 1) m' σ' H') /\ ∀ x H', (nO K a).yld i H x H' -> g x σ H' fun σ2 H2 => tb { D with nx := N, ct := N, bk := D.nx } σ2 H2) := by
 refine ⟨fun i m σ H => m = xs.length - i /\ i <= xs.length /\ Pv i σ H, ⟨xs.length, by simp, Cz _, h0⟩, ?_⟩
 rintro i m σ H ⟨rfl, hi, p⟩
 have q := hl i σ H hi p
 by_cases hlt : i < xs.length
 ·refine .inr ⟨⟨xs, xs[i], q, by simp [hlt]⟩, Pv (i + 1), fun σ' H' p' => ⟨xs.length - (i + 1), CU _ _ hlt, rfl, hlt, p'⟩, fun x H' y => ?_⟩
  obtain ⟨e, y⟩ := y
  subst e
  exact hs i x σ _ (y xs q) p
 ·have e : i = xs.length := Do hi (C8 hlt)
  subst e
  exact .inl ⟨⟨xs, q, Ca _⟩, hd σ H p⟩
theorem qE {K : PySem.W.Frag} {a : Addr} {xs : List V} {g : TG} {tb : TS} {D : Ends} {σ : St} {H : Hp} (Pv : Nat -> St -> Hp -> Prop) (h0 : Pv 0 σ H) (hl : ∀ i σ H, i <= xs.length -> Pv i σ H -> SqT K H a xs)
  (hs : ∀ i x σ H, xs[i]? = some x -> Pv i σ H -> g x σ H fun σ2 H2 => tb { D with nx := Pv (i + 1), ct := Pv (i + 1), bk := D.nx } σ2 H2) (hd : ∀ σ H, Pv xs.length σ H -> D.nx σ H) :
  ∃ W : Nat -> Nat -> St -> Hp -> Prop, (∃ m, W 0 m σ H) /\ ∀ i m σ H, W i m σ H ->
   ((xG K a).stop i H /\ D.nx σ H) \/ ((xG K a).go i H /\ ∃ N : St -> Hp -> Prop, (∀ σ' H', N σ' H' -> ∃ m', m' < m /\ W (i + 1) m' σ' H') /\ ∀ x H', (xG K a).yld i H x H' -> g x σ H' fun σ2 H2 => tb { D with nx := N, ct := N, bk := D.nx } σ2 H2) := by
 refine ⟨fun i m σ H => m = xs.length - i /\ i <= xs.length /\ Pv i σ H, ⟨xs.length, by simp, Cz _, h0⟩, ?_⟩
 rintro i m σ H ⟨rfl, hi, p⟩
 have q := hl i σ H hi p
 by_cases hlt : i < xs.length
 ·refine .inr ⟨⟨xs, xs[i], q, by simp [hlt]⟩, Pv (i + 1), fun σ' H' p' => ⟨xs.length - (i + 1), CU _ _ hlt, rfl, hlt, p'⟩, fun x H' y => ?_⟩
  obtain ⟨e, y⟩ := y
  subst e
  exact hs i x σ _ (y xs q) p
 ·have e : i = xs.length := Do hi (C8 hlt)
  subst e
  exact .inl ⟨⟨xs, q, Ca _⟩, hd σ H p⟩
theorem bO {lo : Int} {n : Nat} {g : TG} {tb : TS} {D : Ends} {σ : St} {H : Hp} (Pv : Nat -> St -> Hp -> Prop) (h0 : Pv 0 σ H)
  (hs : ∀ i σ H, i < n -> Pv i σ H -> g (.int (lo + i)) σ H fun σ2 H2 => tb { D with nx := Pv (i + 1), ct := Pv (i + 1), bk := D.nx } σ2 H2) (hd : ∀ σ H, Pv n σ H -> D.nx σ H) :
  ∃ W : Nat -> Nat -> St -> Hp -> Prop, (∃ m, W 0 m σ H) /\ ∀ i m σ H, W i m σ H ->
   ((o8 lo n).stop i H /\ D.nx σ H) \/ ((o8 lo n).go i H /\ ∃ N : St -> Hp -> Prop, (∀ σ' H', N σ' H' -> ∃ m', m' < m /\ W (i + 1) m' σ' H') /\ ∀ x H', (o8 lo n).yld i H x H' -> g x σ H' fun σ2 H2 => tb { D with nx := N, ct := N, bk := D.nx } σ2 H2) := by
 refine ⟨fun i m σ H => m = n - i /\ i <= n /\ Pv i σ H, ⟨n, by simp, Cz _, h0⟩, ?_⟩
 rintro i m σ H ⟨rfl, hi, p⟩
 by_cases hlt : i < n
 ·refine .inr ⟨hlt, Pv (i + 1), fun σ' H' p' => ⟨n - (i + 1), CU _ _ hlt, rfl, hlt, p'⟩, fun x H' y => ?_⟩
  obtain ⟨e, y⟩ := y
  subst e y
  exact hs i σ _ hlt p
 ·have e : i = n := Do hi (C8 hlt)
  subst e
  exact .inl ⟨Ca _, hd σ H p⟩
abbrev R2 := V -> V -> Hp -> VK -> Prop
def fm (X : Cx) (f : Value -> Value -> Sem Value) (r : R2) : Prop :=
 ∀ (pins : List (Addr × Obj)) (s : Shared) (σ : St) (H : Hp) (x y : V) (v u : Value) (Q : VK), Inv X pins σ H s -> RelV x v -> RelV y u -> r x y H Q ->
  wpAny (model X.prog X.w) X.A (f v u) (EP X pins σ Q) X.xe s
def Aw (X : Cx) (f : Value -> Sem Value) (r : V -> Hp -> VK -> Prop) : Prop :=
 ∀ (pins : List (Addr × Obj)) (s : Shared) (σ : St) (H : Hp) (x : V) (v : Value) (Q : VK), Inv X pins σ H s -> RelV x v -> r x H Q ->
  wpAny (model X.prog X.w) X.A (f v) (EP X pins σ Q) X.xe s
def cJ (X : Cx) (f : Value) (r : List V -> Hp -> VK -> Prop) : Prop :=
 ∀ (pins : List (Addr × Obj)) (s : Shared) (σ : St) (H : Hp) (xs : List V) (us : List Value) (Q : VK), Inv X pins σ H s -> Vals xs us -> r xs H Q ->
  wpAny (model X.prog X.w) X.A (call f us) (EP X pins σ Q) X.xe s
def AS (X : Cx) (r : V -> Hp -> (Bool -> Hp -> Prop) -> Prop) : Prop :=
 ∀ (pins : List (Addr × Obj)) (s : Shared) (σ : St) (H : Hp) (x : V) (v : Value) (Q : Bool -> Hp -> Prop), Inv X pins σ H s -> RelV x v -> r x H Q ->
  wpAny (model X.prog X.w) X.A (truthy v) (TP X pins σ Q) X.xe s
def Ax (r : R2) (ta tb : TE) : TE := fun σ H Q => ta σ H fun x H1 => tb σ H1 fun y H2 => r x y H2 Q
def BF (r : V -> Hp -> VK -> Prop) (ta : TE) : TE := fun σ H Q => ta σ H fun x H1 => r x H1 Q
def rI (C : Int -> Int -> Prop) (g : Int -> Int -> V) : R2 := fun x y H Q => ∃ i j, x = .int i /\ y = .int j /\ C i j /\ Q (g i j) H
def xI (g : Int -> Int -> V) : R2 := fun x y H Q => ∃ i j, x = .int i /\ y = .int j /\ Q (g i j) H
def rU (g : Int -> V) : V -> Hp -> VK -> Prop := fun x H Q => ∃ i, x = .int i /\ Q (g i) H
section
variable {X : Cx} {a b c : Expr} {ta tb tc : TE} {pos : Pos}
theorem yn (ha : PE X a ta) (hb : PE X b tb) {pins : List (Addr × Obj)} {s : Shared} {σ : St} {H : Hp} {R : V -> V -> Hp -> Prop} (I : Inv X pins σ H s)
  (h : ta σ H fun x H1 => tb σ H1 fun y H2 => R x y H2) {Q : Value -> Shared -> Prop} {f : Value -> Value -> Sem Value}
  (hf : ∀ v u s2 x y H2, Inv X pins σ H2 s2 -> RelV x v -> RelV y u -> R x y H2 -> wpAny (model X.prog X.w) X.A (f v u) Q X.xe s2) :
  wpAny (model X.prog X.w) X.A (eval a X.env) (fun v s₁ => wpAny (model X.prog X.w) X.A (eval b X.env) (fun u s₂ => wpAny (model X.prog X.w) X.A (f v u) Q X.xe s₂) X.xe s₁) X.xe s := by
 refine br (ha pins s σ H _ I h) fun v s1 hq__ => ?_
 obtain ⟨x, H1, I1, r1, q1⟩ := hq__
 refine br (hb pins s1 σ H1 _ I1 q1) fun u s2 hq__ => ?_
 obtain ⟨y, H2, I2, r2, q2⟩ := hq__
 exact hf v u s2 x y H2 I2 r1 r2 q2
theorem aA {op : Operator} {r : R2} (ho : fm X (binaryOp op) r) (ha : PE X a ta) (hb : PE X b tb) : PE X (.BinOp a op b pos) (Ax r ta tb) := by
 intro pins s σ H Q I h
 exact wpAny_BinOp (yn ha hb I h fun v u s2 x y H2 I2 rx ry q => ho pins s2 σ H2 x y v u Q I2 rx ry q)
theorem zz {op : UnaryOp} {r : V -> Hp -> VK -> Prop} (ho : Aw X (unaryOp op) r) (ha : PE X a ta) : PE X (.UnaryOp op a pos) (BF r ta) := by
 intro pins s σ H Q I h
 exact UnaryOp_ (br (ha pins s σ H _ I h) fun v s1 ⟨x, H1, I1, r1, q1⟩ => ho pins s1 σ H1 x v Q I1 r1 q1)
theorem zA {f : Value -> Value -> Sem Value} {C : Int -> Int -> Prop} {g : Int -> Int -> Int}
  (rule : ∀ (i j : Int) (t u : Tok) (s : Shared) (Q : Value -> Shared -> Prop) (E : Value -> Shared -> Prop), C i j -> Q (.int (g i j) s.toks) { s with toks := s.toks + 1 } -> wpAny (model X.prog X.w) X.A (f (.int i t) (.int j u)) Q E s) :
  fm X f (rI C fun i j => .int (g i j)) := by
 intro pins s σ H x y v u Q I rx ry h
 obtain ⟨i, j, rfl, rfl, hc, q⟩ := h
 obtain ⟨t, rfl⟩ := rx
 obtain ⟨t', rfl⟩ := ry
 exact rule i j t t' s _ _ hc ⟨.int (g i j), H, I.tok _, ⟨_, rfl⟩, q⟩
theorem zB {f : Value -> Value -> Sem Value} {g : Int -> Int -> Int}
  (rule : ∀ (i j : Int) (t u : Tok) (s : Shared) (Q : Value -> Shared -> Prop) (E : Value -> Shared -> Prop), Q (.int (g i j) s.toks) { s with toks := s.toks + 1 } -> wpAny (model X.prog X.w) X.A (f (.int i t) (.int j u)) Q E s) :
  fm X f (xI fun i j => .int (g i j)) := by
 intro pins s σ H x y v u Q I rx ry h
 obtain ⟨i, j, rfl, rfl, q⟩ := h
 obtain ⟨t, rfl⟩ := rx
 obtain ⟨t', rfl⟩ := ry
 exact rule i j t t' s _ _ ⟨.int (g i j), H, I.tok _, ⟨_, rfl⟩, q⟩
theorem v9 {f : Value -> Value -> Sem Value} {g : Int -> Int -> Bool}
  (rule : ∀ (i j : Int) (t u : Tok) (s : Shared) (Q : Value -> Shared -> Prop) (E : Value -> Shared -> Prop), Q (.bool (g i j)) s -> wpAny (model X.prog X.w) X.A (f (.int i t) (.int j u)) Q E s) :
  fm X f (xI fun i j => .bl (g i j)) := by
 intro pins s σ H x y v u Q I rx ry h
 obtain ⟨i, j, rfl, rfl, q⟩ := h
 obtain ⟨t, rfl⟩ := rx
 obtain ⟨t', rfl⟩ := ry
 exact rule i j t t' s _ _ ⟨.bl (g i j), H, I, rfl, q⟩
def nQ (i j : Int) : Prop := 0 < j /\ j < 1073741824
def zC (i j : Int) : Prop := 0 <= j /\ j <= 1000000 /\ i.natAbs < 2 ^ 64
def CMul (i j : Int) : Prop := (-(2 ^ 64) < i /\ i < 2 ^ 64) \/ (-(2 ^ 64) < j /\ j < 2 ^ 64)
theorem CMul.ok {i j : Int} (h : CMul i j) : IntMulOk i j := by
 rcases h with ⟨h1, h2⟩ | ⟨h1, h2⟩
 ·exact .of_left (intBits_le_64 h1 h2)
 ·exact .of_right (intBits_le_64 h1 h2)
theorem pz (k : Nat) : (0 : Int) <= 2 ^ k := by
 rw [two_pow_cast]
 exact Int.natCast_nonneg _
theorem aR : fm X (binaryOp .Add) (xI fun i j => .int (i + j)) := zB fun _ _ _ _ _ _ _ q => add_int q
theorem jI : fm X (binaryOp .Sub) (xI fun i j => .int (i - j)) := zB fun _ _ _ _ _ _ _ q => sub_int q
theorem gh : fm X (binaryOp .Mult) (rI CMul fun i j => .int (i * j)) := zA fun _ _ _ _ _ _ _ hc q => mul_int q hc.ok
theorem fN : fm X (binaryOp .FloorDiv) (rI nQ fun i j => .int (i / j)) := zA fun i j _ _ _ _ _ hc q => by
 have h1 : (0 : Int) < j := hc.1
 have h2 : j < 1073741824 := hc.2
 exact floordiv_int (by omega) (by rw [Eu i (by omega)]; exact q) (.inl (PyProof.noPylong_small (by omega)))
theorem bR : fm X (binaryOp .Mod) (rI (fun _ j => 0 < j) fun i j => .int (i % j)) := zA fun i j _ _ _ _ _ hc q => by
 have h1 : (0 : Int) < j := hc
 exact mod_int' (by omega) (by rw [Int.fmod_eq_emod_of_nonneg i (by omega)]; exact q)
theorem ml : fm X (binaryOp .Pow) (rI zC fun i j => .int (i ^ j.toNat)) := zA fun _ _ _ _ _ _ _ hc q => pow_int_small hc.1 hc.2.1 hc.2.2 q
theorem yo : fm X (binaryOp .RShift) (rI (fun _ j => 0 <= j) fun i j => .int (i / 2 ^ j.toNat)) := zA fun i j _ _ _ _ _ hc q =>
 rshift_int hc (by rw [Eu i (pz _)]; exact q)
theorem BG {f : Value -> Sem Value} {g : Int -> Int}
  (rule : ∀ (i : Int) (t : Tok) (s : Shared) (Q : Value -> Shared -> Prop) (E : Value -> Shared -> Prop), Q (.int (g i) s.toks) { s with toks := s.toks + 1 } -> wpAny (model X.prog X.w) X.A (f (.int i t)) Q E s) :
  Aw X f (rU fun i => .int (g i)) := by
 intro pins s σ H x v Q I rx h
 obtain ⟨i, rfl, q⟩ := h
 obtain ⟨t, rfl⟩ := rx
 exact rule i t s _ _ ⟨.int (g i), H, I.tok _, ⟨_, rfl⟩, q⟩
theorem yp : Aw X (unaryOp .USub) (rU fun i => .int (-i)) := BG fun _ _ _ _ _ q => neg_int q
end
def zD : V -> V -> Bool
 | .non, .non => true | .non, .int _ => true | .int _, .non => true | .non, .bl _ => true | .bl _, .non => true | .non, .str _ => true | .str _, .non => true
 | .int _, .int _ => true | .bl _, .bl _ => true | .str _, .str _ => true | .byt _, .byt _ => true
 | .int _, .str _ => true | .str _, .int _ => true | .bl _, .str _ => true | .str _, .bl _ => true
 | _, _ => false
def BH : R2 := fun x y H Q => zD x y = true /\ Q (.bl (decide (x = y))) H
def BI : R2 := fun x y H Q => zD x y = true /\ Q (.bl (!decide (x = y))) H
theorem qF {i j : Int} : decide (V.int i = V.int j) = (i == j) := by
 rw [DK]
 simp
theorem ua {i j : Bool} : decide (V.bl i = V.bl j) = (i == j) := by
 rw [DK]
 simp
theorem qG {i j : Str} : decide (V.str i = V.str j) = (i == j) := by
 rw [DK]
 simp
theorem qH {i j : Array UInt8} : decide (V.byt i = V.byt j) = (i.toList == j.toList) := by
 rw [DK]
 cases i
 cases j
 simp
section
variable {X : Cx} {a b c : Expr} {ta tb tc : TE} {pos : Pos}
theorem aM {pins : List (Addr × Obj)} {σ : St} {H : Hp} {s : Shared} {Q : VK} {k k' : Bool} (I : Inv X pins σ H s) (q : Q (.bl k) H) (e : k = k') : EP X pins σ Q (.bool k') s := by
 subst e
 exact ⟨.bl k, H, I, rfl, q⟩
theorem bT : fm X (compareOp .Eq) BH := by
 intro pins s σ H x y v u Q I rx ry h
 obtain ⟨hs, q⟩ := h
 cases x with
 | non =>
  cases rx
  cases y with
  | non => cases ry; exact PySem.EqNone.eq_none_none (aM I q (by simp))
  | bl j => cases ry; exact PySem.EqNone.eq_none_bool (aM I q (by simp))
  | int j => obtain ⟨t', rfl⟩ := ry; exact PySem.EqNone.eq_none_int (aM I q (by simp))
  | str j => obtain ⟨t', rfl⟩ := ry; exact PySem.EqNone.eq_none_str (aM I q (by simp))
  | _ => exact absurd (show false = true from hs) Cj
 | bl i =>
  cases rx
  cases y with
  | non => cases ry; exact PySem.EqNone.eq_bool_none (aM I q (by simp))
  | bl j => cases ry; exact eq_bool (aM I q ua)
  | str j => obtain ⟨t', rfl⟩ := ry; exact PySem.EqMixed.eq_bool_str (aM I q (by simp))
  | _ => exact absurd (show false = true from hs) Cj
 | int i =>
  obtain ⟨t, rfl⟩ := rx
  cases y with
  | non => cases ry; exact PySem.EqNone.eq_int_none (aM I q (by simp))
  | int j => obtain ⟨t', rfl⟩ := ry; exact eq_int (aM I q qF)
  | str j => obtain ⟨t', rfl⟩ := ry; exact PySem.EqMixed.eq_int_str (aM I q (by simp))
  | _ => exact absurd (show false = true from hs) Cj
 | str i =>
  obtain ⟨t, rfl⟩ := rx
  cases y with
  | non => cases ry; exact PySem.EqNone.eq_str_none (aM I q (by simp))
  | bl j => cases ry; exact PySem.EqMixed.eq_str_bool (aM I q (by simp))
  | int j => obtain ⟨t', rfl⟩ := ry; exact PySem.EqMixed.eq_str_int (aM I q (by simp))
  | str j => obtain ⟨t', rfl⟩ := ry; exact eq_str (aM I q qG)
  | _ => exact absurd (show false = true from hs) Cj
 | byt i =>
  obtain ⟨t, rfl⟩ := rx
  cases y with
  | byt j => obtain ⟨t', rfl⟩ := ry; exact PySem.W.eq_bytes (aM I q qH)
  | _ => exact absurd (show false = true from hs) Cj
 | _ => cases y <;> exact absurd (show false = true from hs) Cj
theorem lA : fm X (compareOp .NotEq) BI := by
 intro pins s σ H x y v u Q I rx ry h
 obtain ⟨hs, q⟩ := h
 cases x with
 | non =>
  cases rx
  cases y with
  | non => cases ry; exact PySem.EqNone.ne_none_none (aM I q (by simp))
  | bl j => cases ry; exact PySem.EqNone.ne_none_bool (aM I q (by simp))
  | int j => obtain ⟨t', rfl⟩ := ry; exact PySem.EqNone.ne_none_int (aM I q (by simp))
  | str j => obtain ⟨t', rfl⟩ := ry; exact PySem.EqNone.ne_none_str (aM I q (by simp))
  | _ => exact absurd (show false = true from hs) Cj
 | bl i =>
  cases rx
  cases y with
  | non => cases ry; exact PySem.EqNone.ne_bool_none (aM I q (by simp))
  | bl j => cases ry; exact ne_bool (aM I q (congrArg not ua))
  | str j => obtain ⟨t', rfl⟩ := ry; exact PySem.EqMixed.ne_bool_str (aM I q (by simp))
  | _ => exact absurd (show false = true from hs) Cj
 | int i =>
  obtain ⟨t, rfl⟩ := rx
  cases y with
  | non => cases ry; exact PySem.EqNone.ne_int_none (aM I q (by simp))
  | int j => obtain ⟨t', rfl⟩ := ry; exact ne_int (aM I q (congrArg not qF))
  | str j => obtain ⟨t', rfl⟩ := ry; exact PySem.EqMixed.ne_int_str (aM I q (by simp))
  | _ => exact absurd (show false = true from hs) Cj
 | str i =>
  obtain ⟨t, rfl⟩ := rx
  cases y with
  | non => cases ry; exact PySem.EqNone.ne_str_none (aM I q (by simp))
  | bl j => cases ry; exact PySem.EqMixed.ne_str_bool (aM I q (by simp))
  | int j => obtain ⟨t', rfl⟩ := ry; exact PySem.EqMixed.ne_str_int (aM I q (by simp))
  | str j => obtain ⟨t', rfl⟩ := ry; exact ne_str (aM I q (congrArg not qG))
  | _ => exact absurd (show false = true from hs) Cj
 | byt i =>
  obtain ⟨t, rfl⟩ := rx
  cases y with
  | byt j => obtain ⟨t', rfl⟩ := ry; exact PySem.W.ne_bytes (aM I q (congrArg not qH))
  | _ => exact absurd (show false = true from hs) Cj
 | _ => cases y <;> exact absurd (show false = true from hs) Cj
theorem gL : fm X (compareOp .Lt) (xI fun i j => .bl (decide (i < j))) := v9 fun _ _ _ _ _ _ _ q => lt_int q
theorem ub : fm X (compareOp .LtE) (xI fun i j => .bl (decide (i <= j))) := v9 fun _ _ _ _ _ _ _ q => le_int q
theorem xJ : fm X (compareOp .Gt) (xI fun i j => .bl (decide (j < i))) := v9 fun _ _ _ _ _ _ _ q => gt_int q
theorem qI : fm X (compareOp .GtE) (xI fun i j => .bl (decide (j <= i))) := v9 fun _ _ _ _ _ _ _ q => ge_int q
theorem uc : fm X (compareOp .Is) (fun x y H Q => y = .non /\ Q (.bl (decide (x = .non))) H) := by
 intro pins s σ H x y v u Q I rx ry h
 obtain ⟨rfl, q⟩ := h
 cases ry
 refine is_none_gen (aM I q ?_)
 cases x <;> first
  | (cases rx; rfl)
  | (obtain ⟨t, rfl⟩ := rx; rfl)
theorem ju : fm X (compareOp .IsNot) (fun x y H Q => y = .non /\ Q (.bl (!decide (x = .non))) H) := by
 intro pins s σ H x y v u Q I rx ry h
 obtain ⟨rfl, q⟩ := h
 cases ry
 refine isnot_none_gen (aM I q ?_)
 cases x <;> first
  | (cases rx; rfl)
  | (obtain ⟨t, rfl⟩ := rx; rfl)
theorem aC (b : Expr) {op : CmpOp} (h : op ≠ .In := by decide) (h2 : op ≠ .NotIn := by decide) : behindInMarks op b = false := by
 have e1 : (op == CmpOp.In) = false := by cases op <;> first | rfl | exact absurd rfl h
 have e2 : (op == CmpOp.NotIn) = false := by cases op <;> first | rfl | exact absurd rfl h2
 cases b <;> simp [behindInMarks, e1, e2]
theorem cY {op : CmpOp} {r : R2} (ho : fm X (compareOp op) r) (ha : PE X a ta) (hb : PE X b tb) (hm : behindInMarks op b = false) : PE X (.Compare a [op] [b] pos) (Ax r ta tb) := by
 intro pins s σ H Q I h
 exact wpAny_Compare1 (yn ha hb I h fun v u s2 x y H2 I2 rx ry q => ho pins s2 σ H2 x y v u Q I2 rx ry q) hm
def xK (t : TE) : TT := fun σ H Q => t σ H fun x H' => ∃ k, x = .bl k /\ Q k H'
theorem az {op : CmpOp} {r : R2} (ho : fm X (compareOp op) r) (ha : PE X a ta) (hb : PE X b tb) (hm : behindInMarks op b = false) : PT X (.Compare a [op] [b] pos) (xK (Ax r ta tb)) := by
 intro pins s σ H Q I h
 refine wpAny_isTrue_Compare1 (br (ha pins s σ H _ I h) fun v s1 h1 => ?_) hm
 obtain ⟨x, H1, I1, r1, q1⟩ := h1
 refine br (hb pins s1 σ H1 _ I1 q1) fun u s2 h2 => ?_
 obtain ⟨y, H2, I2, r2, q2⟩ := h2
 refine br (ho pins s2 σ H2 x y v u _ I2 r1 r2 q2) fun c s3 h3 => ?_
 obtain ⟨z, H3, I3, r3, k, e, q3⟩ := h3
 subst e
 cases r3
 exact wpAny_truthy_bool ⟨H3, I3, q3⟩
def yq (r r' : R2) (ta tb tc : TE) : TE := fun σ H Q => ta σ H fun x H1 => tb σ H1 fun y H2 => r x y H2 fun z H3 => ∃ k, z = .bl k /\
 (if k = true then tc σ H3 fun w' H4 => r' y w' H4 Q else Q (.bl false) H3)
theorem nR {op op' : CmpOp} {r r' : R2} (ho : fm X (compareOp op) r) (ho' : fm X (compareOp op') r') (ha : PE X a ta) (hb : PE X b tb) (hc : PE X c tc)
  (hm : lastMarks [op, op'] [b, c] = false := by with_unfolding_all rfl) : PT X (.Compare a [op, op'] [b, c] pos) (xK (yq r r' ta tb tc)) := by
 intro pins s σ H Q I h
 refine isTrue_chain (br (ha pins s σ H _ I h) fun v s1 ⟨x, H1, I1, r1, q1⟩ => test_link (br (hb pins s1 σ H1 _ I1 q1) fun u s2 ⟨y, H2, I2, r2, q2⟩ =>
  br (ho pins s2 σ H2 x y v u _ I2 r1 r2 q2) fun d s3 ⟨z, H3, I3, r3, k, e, q3⟩ => ?_)) hm
 subst e
 cases r3
 refine wpAny_truthy_bool ?_
 cases k with
 | false =>
  obtain ⟨k', e', q'⟩ := q3
  cases e'
  exact ite_ff ⟨H3, I3, q'⟩
 | true =>
  refine ite_tt (test_last (br (hc pins s3 σ H3 _ I3 q3) fun w' s4 ⟨z', H4, I4, r4, q4⟩ => br (ho' pins s4 σ H4 y z' u w' _ I4 r2 r4 q4) fun d' s5 hq__ => ?_))
  obtain ⟨z2, H5, I5, r5, k2, e2, q5⟩ := hq__
  subst e2
  cases r5
  exact wpAny_truthy_bool ⟨H5, I5, q5⟩
def AU (K : PySem.W.Frag) (x : V) (H : Hp) (k : Bool) : Prop :=
 match x with
 | .non => k = false
 | .bl b => k = b
 | .int i => k = (i != 0)
 | .str y => y.length <= sizeLine /\ k = ((y.length : Int) != 0)
 | .byt y => y.size <= sizeLine /\ k = ((y.size : Int) != 0)
 | .ref p => (∃ xs, SqL K H p xs /\ k = !xs.isEmpty) \/ (∃ xs, SqT K H p xs /\ k = !xs.isEmpty) \/ ∃ kvs, H p = some (.dK kvs) /\ k = !kvs.isEmpty
 | _ => False
theorem pB {κ : Type} {kvs : List (κ × V)} {vs : List (κ × Value)} (r : KV kvs vs) : (!vs.isEmpty) = !kvs.isEmpty := by
 cases r <;> rfl
theorem jJ {xs : List V} {its : List Value} (r : Vals xs its) : (!its.toArray.isEmpty) = !xs.isEmpty := by
 cases r <;> simp
theorem ir : (sizeLine : Nat) < 2 ^ 63 := by rw [sizeLine_eq]; decide
theorem AV : AS X (fun x H Q => ∃ k, AU X.K x H k /\ Q k H) := by
 intro pins s σ H x v Q I rx h
 obtain ⟨k, e, q⟩ := h
 have hl := ir
 have hs : sizeLine = 16777216 := sizeLine_eq
 cases x with
 | non =>
  cases rx
  have e' : k = false := e
  subst e'
  exact truthy_none ⟨H, I, q⟩
 | bl b =>
  cases rx
  have e' : k = b := e
  subst e'
  exact wpAny_truthy_bool ⟨H, I, q⟩
 | int i =>
  obtain ⟨t, rfl⟩ := rx
  have e' : k = (i != 0) := e
  subst e'
  exact PySem.P.truthy_int ⟨H, I, q⟩
 | str y =>
  obtain ⟨t, rfl⟩ := rx
  obtain ⟨hy, e'⟩ : y.length <= sizeLine /\ k = ((y.length : Int) != 0) := e
  subst e'
  exact PySem.P.truthy_str (by omega) ⟨H, I.tok _, q⟩
 | byt y =>
  obtain ⟨t, rfl⟩ := rx
  obtain ⟨hy, e'⟩ : y.size <= sizeLine /\ k = ((y.size : Int) != 0) := e
  subst e'
  exact PySem.W.truthy_bytes (by omega) ⟨H, I.tok _, q⟩
 | ref p =>
  cases rx
  have e' : (∃ xs, SqL X.K H p xs /\ k = !xs.isEmpty) \/ (∃ xs, SqT X.K H p xs /\ k = !xs.isEmpty) \/ ∃ kvs, H p = some (.dK kvs) /\ k = !kvs.isEmpty := e
  rcases e' with ⟨xs, hx, e'⟩ | ⟨xs, hx, e'⟩ | ⟨kvs, hx, e'⟩
  ·subst e'
   obtain ⟨its, r, pl, hz⟩ := I.list hx
   have hlen := r.length
   exact wpAny_truthy_list pl.isList (by simp only [Ci]; omega) ⟨H, I.tok _, by rw [jJ r]; exact q⟩
  ·subst e'
   obtain ⟨its, r, pl, hz⟩ := I.tuple hx
   have hlen := r.length
   exact truthy_tuple pl (by simp only [Ci]; omega) ⟨H, I.tok _, by rw [jJ r]; exact q⟩
  ·subst e'
   obtain ⟨hz, hS, vs, r, m⟩ : kvs.length <= sizeLine /\ (p == sysModules) = false /\ ∃ vs, KV kvs vs /\ s.heap.DictOf (aG X.prog X.w) p vs := I.hok p _ hx
   have hlen : kvs.length = vs.length := Paired.length r
   exact wpAny_truthy_dict hS m (by omega) ⟨H, I.tok _, by rw [pB r]; exact q⟩
 | _ => exact (show False from e).elim
theorem fo {x : V} {us : List Value} (r : Vals [x] us) : ∃ u, us = [u] /\ RelV x u := by
 cases r with
 | cons r1 r2 => cases r2; exact ⟨_, rfl, r1⟩
theorem ud {x y : V} {us : List Value} (r : Vals [x, y] us) : ∃ u w', us = [u, w'] /\ RelV x u /\ RelV y w' := by
 cases r with
 | cons r1 r2 =>
  cases r2 with
  | cons r3 r4 => cases r4; exact ⟨_, _, rfl, r1, r3⟩
theorem rQ (hc : X.calm = true) : cJ X (.builtin "min") (fun xs H Q => ∃ i j, xs = [.int i, .int j] /\ Q (.int (if j < i then j else i)) H) := by
 intro pins s σ H xs us Q I r h
 obtain ⟨i, j, rfl, q⟩ := h
 obtain ⟨u, w', rfl, ⟨t, rfl⟩, ⟨t', rfl⟩⟩ := ud r
 refine min_two_ints (I.ok.hd hc) fun h' tk k => ⟨_, H, I.kept k, ?_, q⟩
 by_cases hj : j < i
 ·rw [if_pos hj, if_pos hj]; exact ⟨_, rfl⟩
 ·rw [if_neg hj, if_neg hj]; exact ⟨_, rfl⟩
def zE (K : PySem.W.Frag) (x : V) (H : Hp) (n : Nat) : Prop :=
 match x with
 | .str y => y.length <= sizeLine /\ n = y.length
 | .byt y => y.size <= sizeLine /\ n = y.size
 | .ref p => (∃ xs, SqL K H p xs /\ n = xs.length) \/ ∃ xs, SqT K H p xs /\ n = xs.length
 | _ => False
theorem ue : cJ X (.builtin "len") (fun xs H Q => ∃ x n, xs = [x] /\ zE X.K x H n /\ Q (.int n) H) := by
 intro pins s σ H xs us Q I r h
 obtain ⟨x, n, rfl, e, q⟩ := h
 obtain ⟨u, rfl, rx⟩ := fo r
 have hl := ir
 have hs : sizeLine = 16777216 := sizeLine_eq
 cases x with
 | str y =>
  obtain ⟨t, rfl⟩ := rx
  obtain ⟨hy, e'⟩ : y.length <= sizeLine /\ n = y.length := e
  subst e'
  exact len_str (by omega) ⟨.int _, H, I.tok _, ⟨_, rfl⟩, q⟩
 | byt y =>
  obtain ⟨t, rfl⟩ := rx
  obtain ⟨hy, e'⟩ : y.size <= sizeLine /\ n = y.size := e
  subst e'
  exact PySem.W.len_bytes (by omega) ⟨.int _, H, I.tok _, ⟨_, rfl⟩, q⟩
 | ref p =>
  cases rx
  have e' : (∃ xs, SqL X.K H p xs /\ n = xs.length) \/ ∃ xs, SqT X.K H p xs /\ n = xs.length := e
  rcases e' with ⟨xs, hx, e'⟩ | ⟨xs, hx, e'⟩
  ·subst e'
   obtain ⟨its, r', pl, hz⟩ := I.list hx
   have hlen := r'.length
   exact Calls.call_len_list pl.isList (by simp only [Ci]; omega) ⟨.int xs.length, H, I.tok _, ⟨_, by simp only [Ci]; rw [hlen]⟩, q⟩
  ·subst e'
   obtain ⟨its, r', pl, hz⟩ := I.tuple hx
   have hlen := r'.length
   exact len_tuple pl (by simp only [Ci]; omega) ⟨.int xs.length, H, I.tok _, ⟨_, by simp only [Ci]; rw [hlen]⟩, q⟩
 | _ => exact (show False from e).elim
end
structure ObjM (h : Heap) (x dx C : Addr) (mA : Str -> Option Value) : Prop where
 obj : h.get? x = some (PySem.W.instObj C dx)
 ns : h.Ns1 dx mA
 ne : dx ≠ x
theorem rR {h : Heap} {dx : Addr} {mA : Str -> Option Value} (n : h.Ns1 dx mA) : ∃ od, h.get? dx = some od /\ ∀ name, PySem.W.lookIn name od = some (mA name) := by
 obtain ⟨o, es, ep, ho, hd, hk, _, hm⟩ := n
 refine ⟨o, ho, fun name => ?_⟩
 have e := hm name
 unfold nsFind findBy at e
 rw [<- Array.find?_toList] at e
 unfold PySem.W.lookIn
 rw [hd]
 dsimp only
 split
 ·rename_i y q
  rw [q] at e
  exact congrArg some e
 ·rename_i q
  rw [q] at e
  have a : es.toList.any (·.refKey) = false := by
   rw [List.any_eq_false]
   intro y hy
   obtain ⟨z, t, hkey⟩ := hk y (Array.mem_toList_iff.mp hy)
   simp [DictEntry.refKey, hkey]
  have a' : ¬ es.toList.any (·.refKey) = true := by rw [a]; exact Cj
  rw [if_neg a']
  exact congrArg some e
theorem ObjM.look {h : Heap} {x dx C : Addr} {mA : Str -> Option Value} (I : ObjM h x dx C mA) : ∃ od, PySem.W.InstAt h x (PySem.W.instObj C dx) C (some od) /\ ∀ name, PySem.W.lookIn name od = some (mA name) :=
 let ⟨od, ho, hl⟩ := rR I.ns
 ⟨od, ⟨I.obj, rfl, rfl, ho⟩, hl⟩
section
variable {prog : Program} {w : World} {A : Around} {E : Value -> Shared -> Prop} {s : Shared} {K : PySem.W.Frag} {x dx C f : Addr} {mA : Str -> Option Value} {name : Str} {v : Value}
end
theorem RelO.some_of {v : V} {o : Option Value} (r : RelO (some v) o) : ∃ u, o = some u /\ RelV v u := by
 cases o with
 | none => exact (show False from r).elim
 | some u => exact ⟨u, rfl, r⟩
section
variable {P : Program} {w : World} {H H' : Hp} {h h' : Heap} {a C dx : Addr} {fs fs' : List (Str × V)}
theorem wa (hok : HOk P w H h) (e : H a = some (.ins C dx fs)) : ∃ mA, ObjM h a dx C mA /\ (∀ f, RelO (fs.lookup f) (mA f)) /\ PySem.Within mA (fs.map (·.1)) /\ fs.length <= 1000 /\ H dx = some (.own a) := by
 obtain ⟨d, z, ne, ob, mA, n, r, q⟩ := (show ObjOk P w H h a (.ins C dx fs) from hok a _ e)
 exact ⟨mA, ⟨ob, n, ne⟩, r, q, z, d⟩
end
structure Cls (K : PySem.W.Frag) (C : Addr) : Prop where
 pg : PySem.W.plainGet K C Str.empty = true
 hd : PySem.W.hasDictIn K C = true
 po : PySem.W.plainOver K C = true
 sa : PySem.W.findIn K (.ref C) "__setattr__" = some (some (.builtin "object.__setattr__"))
theorem Cls.get {K : PySem.W.Frag} {C : Addr} (c : Cls K C) (f : Str) : PySem.W.plainGet K C f = true := c.pg
section
variable {X : Cx} {pins : List (Addr × Obj)} {σ : St} {H : Hp} {s : Shared} {a C dx : Addr} {fs : List (Str × V)} {f : Str} {v : V} {A : Around} {E : Value -> Shared -> Prop}
end
def zF (X : Cx) (op : Operator) (rd : V -> V -> Hp -> VK -> Prop) : Prop :=
 ∀ (pins : List (Addr × Obj)) (s : Shared) (σ : St) (H : Hp) (x y : V) (u v : Value) (Q : VK), Inv X pins σ H s -> RelV x u -> RelV y v -> rd x y H Q -> wpAny (model X.prog X.w) X.A (inplaceOp op u v) (EP X pins σ Q) X.xe s
section
variable {X : Cx} {o e value : Expr} {f : Str} {pos pos' tpos : Pos} {ta tv : TE}
def AW : V -> V -> Hp -> VK -> Prop := fun x y H Q => ∃ i j, x = .int i /\ y = .int j /\ Q (.int (i + j)) H
theorem yr : zF X .Add AW := by
 rintro pins s σ H x y u v Q I rx ry ⟨i, j, rfl, rfl, q⟩
 obtain ⟨t, rfl⟩ := (show ∃ t, u = Value.int i t from rx)
 obtain ⟨t', rfl⟩ := (show ∃ t', v = Value.int j t' from ry)
 exact PyProof.Rows.iadd_int ⟨.int (i + j), H, I.tok _, ⟨_, rfl⟩, q⟩
end
section
variable {X : Cx} {pins : List (Addr × Obj)} {σ : St} {H : Hp} {s : Shared} {A : Around} {E : Value -> Shared -> Prop} {Q : Value -> Shared -> Prop} {c : Value} {b : Bool}
inductive TyOf (K : PySem.W.Frag) (H : Hp) : V -> Value -> Prop where
 | non : TyOf K H .non (.type "NoneType")
 | bl (x : Bool) : TyOf K H (.bl x) (.type "bool")
 | int (i : Int) : TyOf K H (.int i) (.type "int")
 | str (x : Str) : TyOf K H (.str x) (.type "str")
 | flt (x : UInt64) : TyOf K H (.flt x) (.type "float")
 | lst {a : Addr} {xs : List V} (e : H a = some (.lst xs)) : TyOf K H (.ref a) (.type "list")
 | frz {a : Addr} {o : Obj} {xs : List V} (e : H a = some (.frz o (.lst xs))) : TyOf K H (.ref a) (.type "list")
 | tup {a : Addr} {xs : List V} (e : H a = some (.tup xs)) : TyOf K H (.ref a) (.type "tuple")
 | dK {a : Addr} {kvs : List (bq × V)} (e : H a = some (.dK kvs)) : TyOf K H (.ref a) (.type "dict")
 | dT {a : Addr} {kvs : List (List bq × V)} (e : H a = some (.dT kvs)) : TyOf K H (.ref a) (.type "dict")
 | ins {a C dx : Addr} {fs : List (Str × V)} (e : H a = some (.ins C dx fs)) (cl : Cls K C) (ha : PySem.W.findIn K (.ref C) "__class__" = some (some (.builtin "object.__class__")))
  (hn : PySem.W.specialIn K (.builtin "object.__class__") "__get__" = some (some (.builtin "getset_descriptor.__get__"))) (htk : PySem.W.takesIn K (.builtin "object.__class__") = some true)
  (hm : PySem.W.mroIn K C (.type "object") = some true) : TyOf K H (.ref a) (.ref C)
theorem rS {x : V} {u t : Value} (I : Inv X pins σ H s) (rx : RelV x u) (ty : TyOf X.K H x t) (e : PySem.W.kitOne X.K t c = some b) (h : ∀ tk, Q (.bool b) { s with toks := tk }) :
  wpAny (model X.prog X.w) A (call (.builtin "isinstance") [u, c]) Q E s := by
 cases ty with
 | non => cases (show u = Value.none from rx); exact PySem.W.kia_one PySem.W.kitx_none I.kIn True.intro e (fun z => nomatch z) h
 | bl y => cases (show u = Value.bool y from rx); exact PySem.W.kia_one PySem.W.kitx_bool I.kIn True.intro e (fun z => nomatch z) h
 | int i => obtain ⟨t, q⟩ := (show ∃ t, u = Value.int i t from rx); cases q; exact PySem.W.kia_one PySem.W.kitx_int I.kIn True.intro e (fun z => nomatch z) h
 | str y => obtain ⟨t, q⟩ := (show ∃ t, u = Value.str y t from rx); cases q; exact PySem.W.kia_one PySem.W.kitx_str I.kIn True.intro e (fun z => nomatch z) h
 | flt y => obtain ⟨t, q⟩ := (show ∃ t, u = Value.float y t from rx); cases q; exact PySem.W.kia_one PySem.W.kitx_float I.kIn True.intro e (fun z => nomatch z) h
 | @lst a xs ea =>
  cases (show u = Value.ref a from rx)
  obtain ⟨_, _, n, _, h1⟩ := (show ObjOk X.prog X.w H s.heap a (.lst xs) from I.hok a _ ea)
  exact PySem.W.kia_one PySem.W.kitx_list I.kIn ⟨_, h1, rfl⟩ e (fun z => nomatch z) h
 | @frz a ob xs ea =>
  cases (show u = Value.ref a from rx)
  obtain ⟨_, _, _, n, _, h1⟩ := (show ObjOk X.prog X.w H s.heap a (.frz ob (.lst xs)) from I.hok a _ ea)
  exact PySem.W.kia_one PySem.W.kitx_list I.kIn ⟨_, h1, rfl⟩ e (fun z => nomatch z) h
 | @tup a xs ea =>
  cases (show u = Value.ref a from rx)
  obtain ⟨_, _, _, p⟩ := (show ObjOk X.prog X.w H s.heap a (.tup xs) from I.hok a _ ea)
  obtain ⟨o, h1, h2, _⟩ := p
  exact PySem.W.kia_one PySem.W.kitx_tuple I.kIn ⟨o, h1, h2⟩ e (fun z => nomatch z) h
 | @dK a kvs ea =>
  cases (show u = Value.ref a from rx)
  obtain ⟨_, _, vs, _, p⟩ := (show ObjOk X.prog X.w H s.heap a (.dK kvs) from I.hok a _ ea)
  obtain ⟨o, es, ep, h1, h2, _⟩ := p
  exact PySem.W.kia_one PySem.W.kitx_dict I.kIn ⟨o, h1, h2.1⟩ e (fun z => nomatch z) h
 | @dT a kvs ea =>
  cases (show u = Value.ref a from rx)
  obtain ⟨_, _, xs, _, o, es, ep, h1, h2, _⟩ := (show ObjOk X.prog X.w H s.heap a (.dT kvs) from I.hok a _ ea)
  exact PySem.W.kia_one PySem.W.kitx_dict I.kIn ⟨o, h1, h2.1⟩ e (fun z => nomatch z) h
 | @ins a C dx fs ea cl ha hn htk hm =>
  cases (show u = Value.ref a from rx)
  obtain ⟨mA, O, _⟩ := wa I.hok ea
  obtain ⟨od, J, _⟩ := O.look
  exact PySem.W.kia_one (PySem.W.kitx_own (cl.get _) cl.hd ha hn htk hm) I.kIn J e (fun z => nomatch z) h
end
structure Room (k : Nat) (A : Around) : Prop where
 hd : A.handled = none
 dp : A.depth + 3 * k + 5 < recursionLimit
 un : A.units + 16 * k + 200 < cLine
theorem Room.mono {j k : Nat} {A : Around} (r : Room k A) (h : j <= k) : Room j A := ⟨r.hd, Ec (Nat.add_le_add_right (Er (Nat.mul_le_mul_left 3 h) _) 5) r.dp, Ec (Nat.add_le_add_right (Er (Nat.mul_le_mul_left 16 h) _) 200) r.un⟩
theorem Room.deeper {k : Nat} {A : Around} (r : Room (k + 1) A) (env : Env) : Room k (A.deeper env) :=
 ⟨r.hd, by have := r.dp; show A.depth + 1 + 3 * k + 5 < _; omega, by have := r.un; show A.units + 3 + 16 * k + 200 < _; omega⟩
theorem Room.depth {k : Nat} {A : Around} (r : Room k A) : A.depth < recursionLimit := by have := r.dp; omega
theorem Room.units {k : Nat} {A : Around} (r : Room k A) : A.units + 64 < cLine := by have := r.un; omega
def AX : TA := fun _ H Q => Q [] H
def zG (ta : TE) (tr : TA) : TA := fun σ H Q => ta σ H fun x H1 => tr σ H1 fun xs H2 => Q (x :: xs) H2
section
variable {X : Cx} {e : Expr} {es : List Expr} {te : TE} {t : TA} {pos : Pos}
theorem ae : PA X [] AX := fun _ _ _ _ H Q I h => Calls.spliced_nil ⟨[], H, I, .nil, h⟩
theorem aa (ha : PE X e te) (hr : PA X es t) (hs : starEach (e :: es) X.env = (false, eval e X.env) :: starEach es X.env := by rfl) : PA X (e :: es) (zG te t) := by
 intro pos pins s σ H Q I h
 rw [hs]
 show wpAny _ _ (spliced ((false, eval e X.env) :: backTo pos (starEach es X.env))) _ _ s
 refine Calls.spliced_cons (br (ha pins s σ H _ I h) fun u s1 hq__ => ?_)
 obtain ⟨x, H1, I1, r1, q1⟩ := hq__
 exact br (hr pos pins s1 σ H1 _ I1 q1) fun us s2 ⟨xs, H2, I2, r2, q2⟩ => ⟨x :: xs, H2, I2, .cons r1 r2, q2⟩
def AY (t : TA) : TE := fun σ H Q => t σ H fun xs H1 => xs.length <= sizeLine /\ ∀ p, H1 p = none -> Q (.ref p) (ay H1 p (.tup xs))
def AZ (t : TA) : TE := fun σ H Q => t σ H fun xs H1 => xs.length <= sizeLine /\ ∀ p, H1 p = none -> Q (.ref p) (ay H1 p (.lst xs))
theorem aJ {x1} (h : PA X es t) : PE X (.Tuple es x1 pos) (AY t) := by
 intro pins s σ H Q I hq
 refine wpAny_Tuple_spliced (br (h pos pins s σ H _ I hq) fun us s1 ⟨xs, H1, I1, r, z, q⟩ => ⟨by rw [<- r.length]; exact z, ?_⟩)
 have hf : H1 s1.heap.objs.size = none := I1.hok.fresh (Ca _)
 refine ⟨.ref s1.heap.objs.size, ay H1 s1.heap.objs.size (.tup xs), I1.laid (t' := s1.toks) (fun b u e => Heap.get?_push_of_some _ e) (Ca _) ?_, rfl, q _ hf⟩
 exact ⟨z, us, r, ⟨_, Heap.get?_push_size _ rfl, rfl, _, rfl⟩⟩
theorem aY (h : PA X es t) : PE X (.List es pos) (AZ t) := by
 intro pins s σ H Q I hq
 refine wpAny_List_spliced (br (h pos pins s σ H _ I hq) fun us s1 ⟨xs, H1, I1, r, z, q⟩ => ⟨by rw [<- r.length]; exact z, ?_⟩)
 have hf : H1 s1.heap.objs.size = none := I1.hok.fresh (Ca _)
 refine ⟨.ref s1.heap.objs.size, ay H1 s1.heap.objs.size (.lst xs), I1.laid (t' := s1.toks) (fun b u e => Heap.get?_push_of_some _ e) (Ca _) ?_, rfl, q _ hf⟩
 exact ⟨z, us, 0, r, Heap.get?_push_size _ rfl⟩
end
abbrev Sp := List V -> Hp -> VK -> XK -> Prop
abbrev tX := List Env -> Hp -> Shared -> XK -> Value -> Shared -> Prop
structure Env0 (P : Program) (w : World) (K : PySem.W.Frag) (mg : Str -> Option Value) (base : Heap) (A : Around) (outer : List Env) (s : Shared) (H : Hp) : Prop where
 frames : A.frames = some outer
 mod : Mod K mg base
 bs : ∀ b o, base.get? b = some o -> s.heap.get? b = some o /\ H b = none
 bsz : base.objs.size <= s.heap.objs.size
 funs : s.heap.FunFrames base outer
 frf : ∀ b ∈ gg outer, H b = none
 hok : HOk P w H s.heap
 bare : AllBare s.gens
def CE (outer : List Env) (P : Program) (w : World) (H : Hp) (s : Shared) (Q : VK) (u : Value) (s' : Shared) : Prop :=
 ∃ v H', s'.os = s.os /\ AllBare s'.gens /\ Un (gg outer) [] H H' s.heap s'.heap /\ HOk P w H' s'.heap /\ RelV v u /\ Q v H'
def CR (CX : tX) (outer : List Env) (P : Program) (w : World) (H : Hp) (s : Shared) (Q : VK) (E : XK) (r : Result) (s' : Shared) : Prop :=
 match r with
 | .ok (.ret u) => CE outer P w H s Q u s'
 | .ok _ => False
 | .error e => CX outer H s E e s'
structure FnOk (P : Program) (w : World) (K : PySem.W.Frag) (mg : Str -> Option Value) (base : Heap) (CX : tX) (k : Nat) (f : Addr) (fd : FuncData) (ps : List Str) (sp : Sp) : Prop where
 len : ∀ vs H Q E, sp vs H Q E -> vs.length = ps.length
 run : ∀ (A : Around) (outer : List Env) (s : Shared) (H : Hp) (args : Args) (us : List Value) (vs : List V) (Q : VK) (E : XK), Room k A -> Env0 P w K mg base A outer s H -> BindsTo s fd args (ps.zip us) -> Vals vs us -> sp vs H Q E ->
  codeAny (model P w) A (.call (.ref f) args) (CR CX outer P w H s Q E) s
section
variable {X : Cx} {pins : List (Addr × Obj)} {σ : St} {H : Hp} {s s' : Shared}
theorem Inv.env0 (I : Inv X pins σ H s) : Env0 X.prog X.w X.K X.mg X.base X.A X.stack s H :=
 ⟨I.ok.frames, I.ok.mod, I.bs, CJ I.ok.bsz I.sz, I.stack, I.stkFree, I.hok, I.bare⟩
theorem Inv.after {Q : VK} {u : Value} (I : Inv X pins σ H s) (h : CE X.stack X.prog X.w H s Q u s') : EP X pins σ Q u s' := by
 obtain ⟨v, H', os, bare, un, hok, r, q⟩ := h
 obtain ⟨hh, g, d, t, os'⟩ := s'
 obtain rfl : os' = s.os := os
 exact ⟨v, H', I.call (h' := hh) (g' := g) (d' := d) (t' := t) (ch := []) un hok bare (fun b z => absurd z (by simp)), r, q⟩
end
def xM (sp : Sp) (dvs : List V) (E : XK) (t : TA) : TE := fun σ H Q => t σ H fun vs H1 => sp (vs ++ dvs) H1 Q E
def Binds (K : PySem.W.Frag) (fd : FuncData) (ps : List Str) (ds : List Value) : Prop :=
 ∀ (s : Shared) (us : List Value), K.In s.heap -> (us ++ ds).length = ps.length -> BindsTo s fd ⟨us, []⟩ (ps.zip (us ++ ds))
theorem Binds.all {K : PySem.W.Frag} {fd : FuncData} {ps : List Str} (h : ∀ us : List Value, us.length = ps.length -> bindArgs fd ⟨us, []⟩ = pure (ps.zip us)) : Binds K fd ps [] := fun s us _ hl => by
 rw [Dh] at hl ⊢
 exact .of_eq (h us hl)
def pD (CX : tX) (X : Cx) (E : XK) : Prop := ∀ (pins : List (Addr × Obj)) (σ : St) (H : Hp) (s : Shared) (e : Value) (s' : Shared), Inv X pins σ H s -> CX X.stack H s E e s' -> X.xe e s'
section
variable {X : Cx} {CX : tX} {k : Nat} {f C : Addr} {fd : FuncData} {ps : List Str} {sp : Sp} {dvs : List V} {ds : List Value} {E : XK} {x m : Str} {p pos apos : Pos} {e o : Expr} {es : List Expr} {ta : TE} {t : TA}
theorem yt {pins : List (Addr × Obj)} {σ : St} {H : Hp} {s : Shared} {Q : VK} {us : List Value} {vs : List V} (F : FnOk X.prog X.w X.K X.mg X.base CX k f fd ps sp) (hr : Room k X.A) (hb : Binds X.K fd ps ds) (hd : Vals dvs ds) (hx : pD CX X E)
  (I : Inv X pins σ H s) (r : Vals vs us) (h : sp (vs ++ dvs) H Q E) : wpAny (model X.prog X.w) X.A (call (.ref f) us) (EP X pins σ Q) X.xe s := by
 have r2 : Vals (vs ++ dvs) (us ++ ds) := r.append hd
 have hl : (us ++ ds).length = ps.length := by rw [<- r2.length]; exact F.len _ _ _ _ h
 refine wpAny_call (codeAny_mono (F.run X.A X.stack s H ⟨us, []⟩ (us ++ ds) (vs ++ dvs) Q E hr I.env0 (hb s us I.kIn hl) r2 h) fun r s' hq => ?_)
 cases r with
 | error e => exact hx pins σ H s e s' I hq
 | ok fl =>
  cases fl with
  | ret u => exact I.after hq
  | next => exact False.elim hq
  | brk => exact False.elim hq
  | cont => exact False.elim hq
theorem wb (F : FnOk X.prog X.w X.K X.mg X.base CX k f fd ps sp) (hr : Room k X.A) (hg : Gl X x) (hm : X.mg x = some (.ref f)) (hk : PySem.W.keepIn X.K (.ref f) = true) (hb : Binds X.K fd ps ds) (hd : Vals dvs ds) (hx : pD CX X E)
  (ha : PA X (e :: es) t) (hdb : (x == ("__debug__" : Str)) = false := by decide) (he : starEach (e :: es) X.env = (false, eval e X.env) :: starEach es X.env := by rfl) (hpl : (backTo pos (starEach es X.env)).any (·.1) = false := by rfl) :
  PE X (.Call (.Name x p) (e :: es) [] pos) (xM sp dvs E t) := by
 intro pins s σ H Q I h
 refine wpAny_Call_Name_kw (vY I hg hm ?_ hdb)
 refine PySem.W.callWith_K (h₀ := X.base) I.ok.mod.kin hk (br (ha pos pins s σ H _ I h) fun us s1 ⟨vs, H1, I1, r, q⟩ => ⟨I1.kIn, ?_⟩) he hpl
 exact yt F hr hb hd hx I1 r q
end
section
variable {X : Cx} {CX : tX} {k : Nat} {f C : Addr} {fd : FuncData} {ps ks : List Str} {sp : Sp} {E : XK} {x m : Str} {p pos apos kpos : Pos} {e o : Expr} {es : List Expr} {kws : List Keyword} {te ta : TE} {t tk : TA} {nm : Option Str}
variable {g : List Value -> List Value -> List Value} {gV : List V -> List V -> List V}
end
structure FnScope (N P : List Str) (sc : Scope) : Prop where
 kind : sc.kind = .function
 co : sc.isCoroutine = false
 gen : sc.isGenerator = false
 nd : N.Nodup
 pre : N.take P.length = P
 par : ∀ x ∈ P, sc.names.lookup x = some .local \/ sc.names.lookup x = some .cell
 nofree : ∀ y ∈ sc.names, y.2 ≠ .free
theorem lB {kindOf : Str -> Option NameKind} {x : Str} : ∀ {binds : List (Str × Value)} {m : Str -> Option Value}, (∀ v, (x, v) ∉ binds) -> bindL kindOf binds m x = m x
 | [], _, _ => rfl
 | (n, v) :: r, m, h => by
  unfold bindL
  rw [lB fun w hw => h w (Ct _ hw)]
  split
  ·have : x ≠ n := by rintro rfl; exact h v CK
   simp [this]
  ·rfl
theorem lD {kindOf : Str -> Option NameKind} {x : Str} : ∀ {binds : List (Str × Value)} {m : Str -> Option Value}, (∀ v, (x, v) ∉ binds) -> bindC kindOf binds m x = m x
 | [], _, _ => rfl
 | (n, v) :: r, m, h => by
  unfold bindC
  rw [lD fun w hw => h w (Ct _ hw)]
  split
  ·rfl
  ·have : x ≠ n := by rintro rfl; exact h v CK
   simp [this]
theorem rT {kindOf : Str -> Option NameKind} {x : Str} {v : Value} : ∀ {P : List Str} {vs : List Value} {i : Nat} {m : Str -> Option Value}, P.Nodup -> P[i]? = some x -> vs[i]? = some v -> kindOf x = some .local ->
  bindL kindOf (P.zip vs) m x = some v := by
 intro P
 induction P with
 | nil => intro vs i m _ h; cases h
 | cons p P ih =>
  intro vs i m nd h1 h2 hk
  cases vs with
  | nil => cases h2
  | cons w vs =>
   show bindL kindOf ((p, w) :: P.zip vs) m x = _
   unfold bindL
   cases i with
   | zero =>
    cases h1; cases h2
    rw [lB fun v hv => (C0.mp nd).1 (Eo hv).1, if_pos hk]
    simp
   | succ i => exact ih (C0.mp nd).2 h1 h2 hk
theorem rV {kindOf : Str -> Option NameKind} {x : Str} {v : Value} : ∀ {P : List Str} {vs : List Value} {i : Nat} {m : Str -> Option Value}, P.Nodup -> P[i]? = some x -> vs[i]? = some v -> kindOf x ≠ some .local ->
  bindC kindOf (P.zip vs) m x = some v := by
 intro P
 induction P with
 | nil => intro vs i m _ h; cases h
 | cons p P ih =>
  intro vs i m nd h1 h2 hk
  cases vs with
  | nil => cases h2
  | cons w vs =>
   show bindC kindOf ((p, w) :: P.zip vs) m x = _
   unfold bindC
   cases i with
   | zero =>
    cases h1; cases h2
    rw [lD fun v hv => (C0.mp nd).1 (Eo hv).1, if_neg hk]
    simp
   | succ i => exact ih (C0.mp nd).2 h1 h2 hk
def iT (N : List Str) (vs : List V) : St := vs.map some ++ Cq (N.length - vs.length) none
def nT (CX : tX) (P : Program) (w : World) (K : PySem.W.Frag) (mg : Str -> Option Value) (base : Heap) (N : List Str) (qual : Str) (scope : Scope) (f : Addr) (cd : Value) (A : Around) (outer : List Env) (s : Shared) (H : Hp) (E : XK) : Cx where
 prog := P
 w := w
 K := K
 mg := mg
 base := base
 A := A.deeper (envOfC qual scope s.heap.objs.size f cd)
 N := N
 s₀ := s
 H₀ := H
 env := envOfC qual scope s.heap.objs.size f cd
 outer := outer
 stack := envOfC qual scope s.heap.objs.size f cd :: outer
 ex := []
 calm := true
 fn := fun _ => true
 pn := []
 xe := fun e s' => wpAny (model P w) (A.deeper (envOfC qual scope s.heap.objs.size f cd)) (leaving (envOfC qual scope s.heap.objs.size f cd) e) (fun _ s'' => CX outer H s E e s'') (fun e' s'' => CX outer H s E e' s'') s'
theorem nU {sc : Scope} {n : Nat} {x : Str} (h : sc.names.lookup x = some .cell) : ∃ c, (cellsFrom n sc.names []).lookup x = some c := by
 have q := PySem.W.cellsFrom_some sc.names n [] (.inl h)
 exact Dc.mp q
theorem rW {CX : tX} {P : Program} {w : World} {K : PySem.W.Frag} {mg : Str -> Option Value} {base : Heap} {N ps : List Str} {qual : Str} {scope : Scope} {f : Addr} {cd : Value} {A : Around} {outer : List Env} {s s1 : Shared} {H : Hp} {E : XK} {us : List Value} {vs : List V}
  (S : FnScope N ps scope) (hd : A.handled = none) (e0 : Env0 P w K mg base A outer s H) (hl : vs.length = ps.length) (r : Vals vs us)
  (x : InCallC s s.heap.objs.size (bindL (envOfC qual scope s.heap.objs.size f cd).kindOf (ps.zip us) fun _ => none) (cellsFrom (s.heap.objs.size + 1) scope.names []) (bindC (envOfC qual scope s.heap.objs.size f cd).kindOf (ps.zip us) fun _ => none) s1) :
  Inv (nT CX P w K mg base N qual scope f cd A outer s H E) [] (iT N vs) H s1 := by
 have hpl : ps.length <= N.length := by have := congrArg List.length S.pre; rw [CO] at this; omega
 obtain ⟨h1, tk, rfl, hk⟩ := x.done
 have noA : ∀ b : Addr, b ∉ (nT CX P w K mg base N qual scope f cd A outer s H E).ex := fun b z => absurd (show b ∈ ([] : List Addr) from z) (by simp)
 refine ⟨⟨e0.mod, S.kind, rfl, rfl, Ca _, fun y z c h1 h2 => ?_, fun y hy => ?_, fun y c _ h => ?_, fun _ => hd, Around.frames_deeper e0.frames, .inr ⟨rfl, rfl⟩, fun b z => absurd z (noA b), e0.bs, e0.bsz, fun b _ _ => noA b, fun b z => absurd z (noA b), e0.funs, e0.frf⟩,
  rfl, e0.bare, Un.kept hk, ⟨_, x.toInCall.ns, fun i y v h1 h2 h3 => ?_⟩, fun y c h => ⟨_, x.cell y c h⟩, e0.hok.fresh (Ca _), fun y c h => ?_, fun p hp => absurd (show p ∈ ([] : List (Addr × Obj)) from hp) (by simp), e0.hok.kept hk, ?_⟩
 ·exact name_of_addr x.apart (PySem.mem_of_lookup h1) (PySem.mem_of_lookup h2)
 ·have hy : scope.names.lookup y = some .cell \/ scope.names.lookup y = some .free := hy
  rcases hy with hy | hy
  ·exact nU hy
  ·exact absurd rfl (S.nofree _ (PySem.mem_of_lookup hy))
 ·exact C4 (x.above y c (PySem.mem_of_lookup h))
 ·have hi : i < vs.length := by
   unfold iT at h2
   by_cases hi : i < vs.length
   ·exact hi
   ·rw [CI (by simpa using hi)] at h2
    rw [List.getElem?_replicate] at h2
    split at h2 <;> cases h2
  have ha : vs[i]? = some v := by
   unfold iT at h2
   rw [CC (by simpa using hi), B7] at h2
   cases e : vs[i]? with
   | none => rw [e] at h2; cases h2
   | some a => rw [e] at h2; cases h2; rfl
  obtain ⟨u, hu, rv⟩ := r.get ha
  have hp : ps[i]? = some y := by
   rw [<- S.pre, List.getElem?_take_of_lt (by omega)]; exact h1
  have ndP : ps.Nodup := by rw [<- S.pre]; exact S.nd.sublist (List.take_sublist _ _)
  refine ⟨u, rv, ?_⟩
  rcases S.par y (B8 hp) with k | k
  ·exact .inl ⟨k, rT ndP hp hu k⟩
  ·obtain ⟨c, e⟩ := nU (n := s.heap.objs.size + 1) k
   refine .inr ⟨.inl k, c, e, ?_⟩
   have q := x.cell y c e
   rw [rV ndP hp hu (by show scope.names.lookup y ≠ _; rw [k]; decide)] at q
   exact q
 ·exact e0.hok.fresh (C4 (x.above y c (PySem.mem_of_lookup h)))
 ·unfold iT
  show _ = N.length
  rw [Cd, B4, List.length_replicate]
  omega
theorem zH {CX : tX} {P : Program} {w : World} {K : PySem.W.Frag} {mg : Str -> Option Value} {base : Heap} {k : Nat} {f : Addr} {name qual : Str} {params : Arguments} {body : List Stmt} {scope : Scope} {dV kV doc pm cdv ct oc : Value} {an od : Option Addr}
  {osl : Array (Option Value)} {N ps : List Str} {sp : Sp} (lk : K.lookup f = some ⟨oc, od, .func (PySem.W.fnOf name qual params body scope dV kV doc pm an cdv ct), osl⟩) (hcd : PySem.W.codeIn K cdv qual = true) (S : FnScope N ps scope)
  (len : ∀ vs H Q E, sp vs H Q E -> vs.length = ps.length)
  (hbody : ∀ (A : Around) (outer : List Env) (s : Shared) (H : Hp) (vs : List V) (Q : VK) (E : XK), Room k (A.deeper (envOfC qual scope s.heap.objs.size f cdv)) -> sp vs H Q E ->
   ∃ t, PSs (nT CX P w K mg base N qual scope f cdv A outer s H E) body t /\ t { nx := fun _ H' => Q .non H', rt := Q } (iT N vs) H) :
  FnOk P w K mg base CX (k + 1) f (PySem.W.fnOf name qual params body scope dV kV doc pm an cdv ct) ps sp := by
 refine ⟨len, fun A outer s H args us vs Q E hr e0 hb r hsp => ?_⟩
 have hl := len _ _ _ _ hsp
 have KX : K.In s.heap := e0.mod.kin.keeps fun b o e => (e0.bs b o e).1
 have lim : s.heap.NoLimit := e0.mod.nolimit.keeps fun b o e => (e0.bs b o e).1
 have hkind : ∀ y ∈ ps.zip us, scope.names.lookup y.1 = some .local \/ (scope.names.lookup y.1 = some .cell /\ ((cellsFrom (s.heap.objs.size + 1) scope.names []).lookup y.1).isSome = true) := fun ⟨n, v⟩ hy => by
  rcases S.par n (Eo hy).1 with q | q
  ·exact .inl q
  ·exact .inr ⟨q, PySem.W.cellsFrom_some _ _ _ (.inl q)⟩
 refine codeAny_call_function hr.depth (KX _ _ lk) rfl S.co S.gen rfl (PySem.W.codeRec_of KX hcd) (hb _ _ _ _ ?_)
 refine wpAny_newFunctionEnv_cells S.kind hkind fun env he s1 x => ?_
 subst he
 refine ⟨lim.keeps x.toInCall.keep, codeAny_func ?_⟩
 obtain ⟨t, ht, hq⟩ := hbody A outer s H vs Q E (hr.deeper _) hsp
 have I : Inv (nT CX P w K mg base N qual scope f cdv A outer s H E) [] (iT N vs) H s1 := rW S hr.hd e0 hl r x
 refine wpAny_mono (ht [] s1 (iT N vs) H _ I hq) (fun fl s' hs => ?_) fun e s' hs => hs
 have fin : ∀ {σ' : St} {H' : Hp} {v : V} {u : Value}, Inv (nT CX P w K mg base N qual scope f cdv A outer s H E) [] σ' H' s' -> RelV v u -> Q v H' -> CE outer P w H s Q u s' :=
  fun {σ' H' v u} J rv q => ⟨v, H', J.os, J.bare, J.base, J.hok, rv, q⟩
 cases fl with
 | ret u =>
  obtain ⟨v, σ', H', J, rv, q⟩ := hs
  exact fin J rv q
 | next =>
  obtain ⟨σ', H', J, q⟩ := hs
  exact fin (v := V.non) (u := Value.none) J rfl q
 | brk =>
  obtain ⟨_, _, _, q⟩ := hs
  exact False.elim q
 | cont =>
  obtain ⟨_, _, _, q⟩ := hs
  exact False.elim q
section
variable {X : Cx} {x : Str} {p pos : Pos} {e : Expr} {es : List Expr} {t : TA} {id T : String} {r : List V -> Hp -> VK -> Prop}
def Bu (r : List V -> Hp -> VK -> Prop) (t : TA) : TE := fun σ H Q => t σ H fun vs H1 => r vs H1 Q
theorem ao (hc : cJ X (.builtin id) r) (hg : Gl X x) (hm : X.mg x = none) (hv : bootBuiltins x = some (.builtin id)) (ha : PA X (e :: es) t) (hn : x ≠ "__name__" := by decide) (hdb : (x == ("__debug__" : Str)) = false := by decide)
  (he : starEach (e :: es) X.env = (false, eval e X.env) :: starEach es X.env := by rfl) (hpl : (backTo pos (starEach es X.env)).any (·.1) = false := by rfl) : PE X (.Call (.Name x p) (e :: es) [] pos) (Bu r t) := by
 intro pins s σ H Q I h
 refine wpAny_Call_Name_kw (fk I hg hm hv ?_ hn hdb)
 exact PyProof.Rows.callWith_builtin1 (br (ha pos pins s σ H _ I h) fun us s1 ⟨vs, H1, I1, r1, q1⟩ => hc pins s1 σ H1 vs us Q I1 r1 q1) he hpl
theorem aV (hc : cJ X (.type T) r) (hg : Gl X x) (hm : X.mg x = none) (hv : bootBuiltins x = some (.type T)) (ha : PA X (e :: es) t) (hn : x ≠ "__name__" := by decide) (hdb : (x == ("__debug__" : Str)) = false := by decide)
  (he : starEach (e :: es) X.env = (false, eval e X.env) :: starEach es X.env := by rfl) (hpl : (backTo pos (starEach es X.env)).any (·.1) = false := by rfl) : PE X (.Call (.Name x p) (e :: es) [] pos) (Bu r t) := by
 intro pins s σ H Q I h
 refine wpAny_Call_Name_kw (fk I hg hm hv ?_ hn hdb)
 exact PyProof.Rows.callWith_type1 (br (ha pos pins s σ H _ I h) fun us s1 ⟨vs, H1, I1, r1, q1⟩ => hc pins s1 σ H1 vs us Q I1 r1 q1) he hpl
end
end L2
namespace HT
open PySem PyProof.Rows
def xN : List Int -> List Int -> Bool
 | [], [] => false
 | [], _ :: _ => true
 | _ :: _, [] => false
 | x :: xs, y :: ys => if x = y then xN xs ys else decide (x < y)
section
open PySem.SeqAt
open PySem.AutoSeq1 (wpAny_loadPart')
open PySem.MeetsSeq PySem.MeetsSeq2 PySem.MeetsSeq3
end
section
variable {prog : Program} {w : World} {A : Around} {E : Value -> Shared -> Prop} {s : Shared}
def pE (n d : Nat) : Option Int -> Nat
 | none => d
 | some v => if v < 0 then (v + (n : Int)).toNat else min v.toNat n
theorem nV (n d : Nat) : pE n d none = d := rfl
theorem jv (n d k : Nat) : pE n d (some (k : Int)) = min k n := by
 show (if (k : Int) < 0 then ((k : Int) + (n : Int)).toNat else min (k : Int).toNat n) = min k n
 rw [if_neg (by omega), CG]
theorem wc (v : Int) (n d : Nat) : (if v < 0 then max (v + (n : Int)) 0 else min v (n : Int)) = ((pE n d (some v) : Nat) : Int) := by
 show _ = (((if v < 0 then (v + (n : Int)).toNat else min v.toNat n) : Nat) : Int)
 by_cases hv : v < 0
 ·rw [if_pos hv, if_pos hv, Int.ofNat_toNat]
 ·rw [if_neg hv, if_neg hv]
  obtain ⟨k, rfl⟩ := Int.eq_ofNat_of_zero_le (Int.not_lt.mp hv)
  show min (k : Int) (n : Int) = ((min k n : Nat) : Int)
  rcases Nat.le_total k n with h | h
  ·rw [Dz h, Int.min_eq_left (Int.ofNat_le.mpr h)]
  ·rw [DV h, Int.min_eq_right (Int.ofNat_le.mpr h)]
end
end HT
namespace L2
open PySem PySem.Spec PyProof.Rows
abbrev TO := St -> Hp -> (Option Int -> Hp -> Prop) -> Prop
def PO (X : Cx) (e : Option Expr) (t : TO) : Prop :=
 ∀ (pins : List (Addr × Obj)) (s : Shared) (σ : St) (H : Hp) (Q : Option Int -> Hp -> Prop), Inv X pins σ H s -> t σ H Q ->
  wpAny (model X.prog X.w) X.A (evalPart e X.env) (fun u s' => ∃ o H', Inv X pins σ H' s' /\ IsPart u o /\ Q o H') X.xe s
def we : TO := fun _ H Q => Q none H
def zI (t : TE) : TO := fun σ H Q => t σ H fun x H1 => ∃ i, x = .int i /\ Q (some i) H1
theorem jK {ns : List Int} : ∀ {us : List Value}, Vals (ns.map V.int) us -> IntsAre us ns := by
 induction ns with
 | nil => intro us r; rw [DT] at r; cases r; exact .nil
 | cons n ns ih =>
  intro us r
  rw [Ce] at r
  cases r with
  | cons r1 r2 =>
   obtain ⟨t, e⟩ := r1
   subst e
   exact .cons n t (ih r2)
section
variable {X : Cx} {e : Expr} {te : TE} {lo hi : Option Expr} {tl th : TO} {pos p2 : Pos}
theorem jw : PO X none we := by
 intro pins s σ H Q I h
 rw [evalPart_none]
 exact wpAny_pure ⟨none, H, I, .none, h⟩
theorem fO (h : PE X e te) : PO X (some e) (zI te) := by
 intro pins s σ H Q I hw
 rw [evalPart_some]
 refine br (h pins s σ H _ I hw) fun u s1 hq__ => ?_
 obtain ⟨x, H1, I1, r1, q1⟩ := hq__
 obtain ⟨i, rfl, q⟩ := q1
 obtain ⟨t, rfl⟩ := r1
 exact ⟨some i, H1, I1, .int i t, q⟩
def Ay (X : Cx) (r : V -> Option Int -> Option Int -> Hp -> VK -> Prop) : Prop :=
 ∀ (pins : List (Addr × Obj)) (s : Shared) (σ : St) (H : Hp) (x : V) (v vl vu : Value) (lo hi : Option Int) (sl : Addr) (Q : VK), Inv X pins σ H s -> RelV x v -> s.heap.IsSliceOf sl vl vu .none -> IsPart vl lo -> IsPart vu hi -> r x lo hi H Q ->
  ∃ T id, typeLookup (.type T) "__getitem__" = pure (some (.builtin id)) /\ s.TypeIs v T /\ wpAny (model X.prog X.w) X.A (getItem v (.ref sl)) (EP X pins σ Q) X.xe s
def BJ (r : V -> Option Int -> Option Int -> Hp -> VK -> Prop) (te : TE) (tl th : TO) : TE := fun σ H Q => te σ H fun x H1 => tl σ H1 fun l H2 => th σ H2 fun u H3 => r x l u H3 Q
theorem fq {r : V -> Option Int -> Option Int -> Hp -> VK -> Prop} (hr : Ay X r) (he : PE X e te) (hl : PO X lo tl) (hu : PO X hi th) : PE X (.Subscript e (.Slice lo hi none p2) pos) (BJ r te tl th) := by
 intro pins s σ H Q I h
 refine Subscript_ (br (he pins s σ H _ I h) fun v s1 h1 => ?_)
 obtain ⟨x, H1, I1, r1, q1⟩ := h1
 refine wpAny_Slice (br (hl pins s1 σ H1 _ I1 q1) fun vl s2 h2 => ?_)
 obtain ⟨l, H2, I2, pl, q2⟩ := h2
 refine br (hu pins s2 σ H2 _ I2 q2) fun vu s3 h3 => ?_
 obtain ⟨u, H3, I3, pu, q3⟩ := h3
 rw [evalPart_none]
 refine wpAny_pure ?_
 have I4 : Inv X pins σ H3 { s3 with heap := s3.heap.push { cls := .type "slice", data := .fields #[vl, vu, .none] } } := I3.kept (t' := s3.toks) fun b ob q => Heap.get?_push_of_some _ q
 obtain ⟨T, id, hT, ht, hg⟩ := hr pins { s3 with heap := s3.heap.push { cls := .type "slice", data := .fields #[vl, vu, .none] } } σ H3 x v vl vu l u s3.heap.objs.size Q I4 r1 (Heap.IsSliceOf.new ..) pl pu q3
 show wpAny (model X.prog X.w) X.A (subscriptTail e (.Slice lo hi none p2) v (.ref s3.heap.objs.size)) (EP X pins σ Q) X.xe { s3 with heap := s3.heap.push { cls := .type "slice", data := .fields #[vl, vu, .none] } }
 exact tail_any (ops := [.ref s3.heap.objs.size, v]) ht hT hg (by with_unfolding_all rfl)
def gj (xs : List V) (lo hi : Option Int) : List V := (xs.drop (HT.pE xs.length 0 lo)).take (HT.pE xs.length xs.length hi - HT.pE xs.length 0 lo)
theorem nW (xs : List V) (lo hi : Option Int) : (gj xs lo hi).length <= xs.length := by
 unfold gj
 rw [CO, Dr]
 exact CJ (Nat.min_le_right _ _) (Nat.sub_le _ _)
end
def vU (n : Nat) (i : Int) : Option Nat := if 0 <= i then (if i < n then some i.toNat else none) else if -(n : Int) <= i then some (i + n).toNat else none
def lE {α : Type} (xs : List α) (i : Int) : Option α := (vU xs.length i).bind fun j => xs[j]?
theorem qJ {n : Nat} {i : Int} {j : Nat} (h : vU n i = some j) : seqIndex? i n = some j /\ j < n /\ -(n : Int) <= i /\ i < n := by
 unfold vU at h
 by_cases h0 : 0 <= i
 ·rw [if_pos h0] at h
  by_cases h1 : i < n
  ·rw [if_pos h1] at h
   have e : i.toNat = j := Option.some.inj h
   exact ⟨by rw [seqIndex_of h0 h1, e], by omega, by omega, h1⟩
  ·rw [if_neg h1] at h; cases h
 ·rw [if_neg h0] at h
  by_cases h1 : -(n : Int) <= i
  ·rw [if_pos h1] at h
   have e : (i + n).toNat = j := Option.some.inj h
   exact ⟨by rw [seqIndex_neg (by omega) h1, e], by omega, h1, by omega⟩
  ·rw [if_neg h1] at h; cases h
theorem mm {α : Type} {xs : List α} {i : Int} {v : α} (h : lE xs i = some v) : ∃ j, seqIndex? i xs.length = some j /\ xs[j]? = some v /\ j < xs.length /\ -(xs.length : Int) <= i /\ i < xs.length := by
 unfold lE at h
 cases e : vU xs.length i with
 | none => rw [e] at h; cases h
 | some j =>
  rw [e] at h
  obtain ⟨h1, h2, h3, h4⟩ := qJ e
  exact ⟨j, h1, h, h2, h3, h4⟩
theorem aK {α : Type} {xs : List α} {j : Nat} {v : α} (h : xs[j]? = some v) : lE xs (j : Int) = some v := by
 have hj : j < xs.length := (B6.mp h).1
 have e : vU xs.length (j : Int) = some j := by
  unfold vU
  rw [if_pos (by omega), if_pos (by omega)]; simp
 unfold lE; rw [e]; exact h
def wg (b : Expr) : Prop := ∀ o i, subscripted b false o i = operate [o, i] (getItem o i)
def ze (X : Cx) (r : R2) : Prop :=
 ∀ (value slice : Expr) (pins : List (Addr × Obj)) (s : Shared) (σ : St) (H : Hp) (x y : V) (v u : Value) (Q : VK), Inv X pins σ H s -> RelV x v -> RelV y u -> r x y H Q ->
  subscripted slice false v u = operate [v, u] (getItem v u) -> wpAny (model X.prog X.w) X.A (subscriptTail value slice v u) (EP X pins σ Q) X.xe s
def Az (X : Cx) (id : String) (r : V -> List V -> Hp -> VK -> Prop) : Prop :=
 ∀ (pins : List (Addr × Obj)) (s : Shared) (σ : St) (H : Hp) (x : V) (xs : List V) (v : Value) (us : List Value) (Q : VK), Inv X pins σ H s -> RelV x v -> Vals xs us -> r x xs H Q ->
  wpAny (model X.prog X.w) X.A (call (.builtin id) (v :: us)) (EP X pins σ Q) X.xe s
section
variable {X : Cx} {a b : Expr} {ta tb : TE} {pos : Pos}
theorem au {r : R2} (hr : ze X r) (ha : PE X a ta) (hb : PE X b tb) (hs : wg b) : PE X (.Subscript a b pos) (Ax r ta tb) := by
 intro pins s σ H Q I h
 exact Subscript_ (yn ha hb I h fun v u s2 x y H2 I2 rx ry q => hr a b pins s2 σ H2 x y v u Q I2 rx ry q (hs _ _))
def zJ (K : PySem.W.Frag) : R2 := fun x y H Q => ∃ p xs i v, x = .ref p /\ y = .int i /\ SqL K H p xs /\ lE xs i = some v /\ Q v H
def zK (K : PySem.W.Frag) : R2 := fun x y H Q => ∃ p xs i v, x = .ref p /\ y = .int i /\ SqT K H p xs /\ lE xs i = some v /\ Q v H
theorem wj : ze X (zJ X.K) := by
 intro value slice pins s σ H x y v u Q I rx ry h hs
 obtain ⟨p, xs, i, z, rfl, rfl, hq, he, q⟩ := h
 cases rx
 obtain ⟨t, rfl⟩ := ry
 obtain ⟨its, r, pl, hz⟩ := I.list hq
 obtain ⟨j, h1, h2, h3, h4, h5⟩ := mm he
 obtain ⟨w, ew, rw'⟩ := r.get h2
 have hl := r.length
 have hn := ir
 have fin : EP X pins σ Q w s := ⟨z, H, I, rw', q⟩
 by_cases h0 : 0 <= i
 ·have hj : i.toNat = j := by
   rw [seqIndex_of h0 h5] at h1
   exact Option.some.inj h1
  exact item_listR pl.isList h0 (by omega) (by rw [hj]; simpa using ew) fin hs
 ·have hj : (i + (its.toArray.size : Int)).toNat = j := by
   rw [seqIndex_neg (by omega) h4] at h1
   rw [Ci, <- hl]
   exact Option.some.inj h1
  exact subscriptTail_builtinR (x := w) pl.isList.typeIs slot_list_getitem.lookup
   (wpAny_getItem_list_neg (Q := fun r s' => r = w /\ EP X pins σ Q r s') pl.isList (by omega) (by rw [Ci] <;> omega) (by omega) (by rw [hj]; simpa using ew) ⟨rfl, fin⟩) hs
theorem yu : ze X (zK X.K) := by
 intro value slice pins s σ H x y v u Q I rx ry h hs
 obtain ⟨p, xs, i, z, rfl, rfl, hq, he, q⟩ := h
 cases rx
 obtain ⟨t, rfl⟩ := ry
 obtain ⟨its, r, pl, hz⟩ := I.tuple hq
 obtain ⟨j, h1, h2, h3, h4, h5⟩ := mm he
 obtain ⟨w, ew, rw'⟩ := r.get h2
 have hl := r.length
 have hn := ir
 have fin : EP X pins σ Q w s := ⟨z, H, I, rw', q⟩
 exact subscriptTail_builtinR (x := w) pl.typeIs slot_tuple_getitem.lookup
  (getItem_tuple (j := j) (Q := fun r s' => r = w /\ EP X pins σ Q r s') pl (by omega) (by omega) (by rw [Ci, <- hl]; exact h1) (by simpa using ew) ⟨rfl, fin⟩) hs
theorem pF (its : List Value) (n j : Nat) (u : Value) : Obj.mapSeq (·.setIfInBounds j u) { cls := .type "list", data := .seq its.toArray n } = { cls := .type "list", data := .seq (its.set j u).toArray n } := by
 simp [Obj.mapSeq]
theorem Inv.lst {pins : List (Addr × Obj)} {σ : St} {H : Hp} {s : Shared} {p : Addr} {xs : List V} (I : Inv X pins σ H s) (h : H p = some (.lst xs)) :
  ∃ (its : List Value) (n : Nat), Vals xs its /\ s.heap.get? p = some { cls := .type "list", data := .seq its.toArray n } /\ xs.length <= sizeLine := by
 obtain ⟨z, its, n, r, e⟩ := I.hok p _ h
 exact ⟨its, n, r, e, z⟩
theorem Inv.lstUpd {pins : List (Addr × Obj)} {σ : St} {H : Hp} {s : Shared} {p : Addr} {xs ys : List V} {its its' : List Value} {n n' : Nat} {f : Obj -> Obj} (I : Inv X pins σ H s) (h : H p = some (.lst xs))
  (ho : s.heap.get? p = some { cls := .type "list", data := .seq its.toArray n }) (hf : f { cls := .type "list", data := .seq its.toArray n } = { cls := .type "list", data := .seq its'.toArray n' }) (r : Vals ys its') (hz : ys.length <= sizeLine) (t : Nat) :
  Inv X pins σ (ay H p (.lst ys)) { s with heap := s.heap.update p f, toks := t } := by
 have e : (s.heap.update p f).get? p = some { cls := .type "list", data := .seq its'.toArray n' } := by
  rw [Heap.get?_update_self f ho (by rw [hf] <;> rfl), hf]
 refine I.write (x := p) (e := p) (by rw [h]; trivial) (.inl rfl) (fun b u hb q => (Heap.get?_update_other _ _ (Ne.symm hb)).trans q) ⟨_, e⟩ ?_
 exact ⟨hz, its', n', r, e⟩
def zL : V -> V -> V -> Hp -> (Hp -> Prop) -> Prop := fun o i v H Q => ∃ p xs k j, o = .ref p /\ i = .int k /\ H p = some (.lst xs) /\ vU xs.length k = some j /\ Q (ay H p (.lst (xs.set j v)))
theorem gM : yg X zL := by
 intro pins s σ H o i v ov iv u Q I ro ri rv h
 obtain ⟨p, xs, k, j, rfl, rfl, hp, hj, q⟩ := h
 cases ro
 obtain ⟨t, rfl⟩ := ri
 obtain ⟨its, n, r, ho, hz⟩ := I.lst hp
 obtain ⟨h1, h2, h3, h4⟩ := qJ hj
 have hl := r.length
 have hn := ir
 have I' : Inv X pins σ (ay H p (.lst (xs.set j v))) { s with heap := s.heap.update p (Obj.mapSeq (·.setIfInBounds j u)) } :=
  I.lstUpd hp ho (pF its n j u) (r.set rv j) (by rw [DL]; exact hz) s.toks
 by_cases h0 : 0 <= k
 ·have hk : k.toNat = j := by
   rw [seqIndex_of h0 h4] at h1
   exact Option.some.inj h1
  exact PySem.W.ki_setAt ho h0 (by omega) (by rw [Ci, <- hl]; exact h4) (by rw [hk]; exact ⟨_, I', q⟩)
 ·have hk : (k + (its.toArray.size : Int)).toNat = j := by
   rw [seqIndex_neg (by omega) h3] at h1
   rw [Ci, <- hl]
   exact Option.some.inj h1
  exact PySem.W.ki_setBack ho (by omega) (by rw [Ci, <- hl]; exact h3) (by omega) (by rw [hk]; exact ⟨_, I', q⟩)
theorem mq (lo hi : Option Int) (n : Nat) : (sliceBounds lo hi none n).1 = ((HT.pE n 0 lo : Nat) : Int) /\ (sliceBounds lo hi none n).2.1 = ((HT.pE n n hi : Nat) : Int) /\ (sliceBounds lo hi none n).2.2 = 1 := by
 have one : ∀ (i : Int) (d : Nat), max 0 (min (if i < 0 then i + (n : Int) else i) (n : Int)) = ((HT.pE n d (some i) : Nat) : Int) := fun i d => by
  rw [<- HT.wc]
  by_cases h : i < 0
  ·rw [if_pos h, if_pos h, Int.min_eq_left (by omega), Int.max_comm]
  ·rw [if_neg h, if_neg h, Int.max_eq_right (Int.le_min.mpr ⟨Int.not_lt.mp h, Int.natCast_nonneg n⟩)]
 refine ⟨?_, ?_, rfl⟩
 ·cases lo with
  | none => rfl
  | some i => exact one i 0
 ·cases hi with
  | none => rfl
  | some i => exact one i n
theorem kO (its : List Value) (lo hi : Option Int) : slicePick its.toArray lo hi none = ((its.drop (HT.pE its.length 0 lo)).take (HT.pE its.length its.length hi - HT.pE its.length 0 lo)).toArray := by
 obtain ⟨h1, h2, h3⟩ := mq lo hi its.toArray.size
 unfold slicePick
 rw [h1, h2, h3]
 simp only [sliceRange_one, pick_run, Ci] <;> rfl
def zM (K : PySem.W.Frag) : V -> Option Int -> Option Int -> Hp -> VK -> Prop := fun x lo hi H Q => ∃ a xs, x = .ref a /\ SqL K H a xs /\ ∀ p, H p = none -> Q (.ref p) (ay H p (.lst (gj xs lo hi)))
theorem wk : Ay X (zM X.K) := by
 intro pins s σ H x v vl vu lo hi sl Q I rx hs pl pu h
 obtain ⟨a, xs, rfl, hx, q⟩ := h
 cases rx
 obtain ⟨its, r, ht, hz⟩ := I.list hx
 have hlen := r.length
 refine ⟨"list", _, slot_list_getitem.lookup, ht.isList.typeIs, ?_⟩
 refine wpAny_getItem_list_slice ht.isList hs pl pu .none (by simp) ?_ (by rw [Ci] <;> omega)
 rw [kO, <- hlen]
 refine ⟨.ref s.heap.objs.size, _, I.laid (t' := s.toks) (o := .lst (gj xs lo hi)) (fun b ob q => Heap.get?_push_of_some _ q) (Ca _) ?_, rfl, q _ (I.hok.fresh (Ca _))⟩
 exact ⟨CJ (nW xs lo hi) hz, _, 0, (r.drop (HT.pE xs.length 0 lo)).take (HT.pE xs.length xs.length hi - HT.pE xs.length 0 lo), Heap.get?_push_size _ rfl⟩
def cA : V -> Bool
 | .non => true
 | .bl _ => true
 | .int _ => true
 | .str _ => true
 | _ => false
def mv : V -> V -> Bool
 | .non, .non => true
 | .bl a, .bl b => a == b
 | .bl a, .int b => (if a then 1 else 0) == b
 | .int a, .bl b => a == (if b then 1 else 0)
 | .int a, .int b => a == b
 | .str a, .str b => a == b
 | _, _ => false
theorem uf {A : Around} {s : Shared} {y x : V} {u v : Value} (ry : RelV y u) (rx : RelV x v) (fy : cA y = true) (fx : cA x = true) : SeqAt.EqAt A s u v (mv y x) := by
 cases y with
 | non =>
  cases ry
  cases x with
  | non => cases rx; exact SeqAt.EqAt.same _
  | bl b => cases rx; exact SeqAt.EqAt.none_bool b
  | int b => obtain ⟨t, rfl⟩ := rx; exact SeqAt.EqAt.none_int b t
  | str b => obtain ⟨t, rfl⟩ := rx; exact SeqAt.EqAt.none_str b t
  | _ => exact absurd (show false = true from fx) Cj
 | bl a =>
  cases ry
  cases x with
  | non => cases rx; exact SeqAt.EqAt.bool_none a
  | bl b => cases rx; exact SeqAt.EqAt.bool_bool a b
  | int b => obtain ⟨t, rfl⟩ := rx; exact SeqAt.EqAt.bool_int a b t
  | str b => obtain ⟨t, rfl⟩ := rx; exact SeqAt.EqAt.bool_str a b t
  | _ => exact absurd (show false = true from fx) Cj
 | int a =>
  obtain ⟨t', rfl⟩ := ry
  cases x with
  | non => cases rx; exact SeqAt.EqAt.int_none a t'
  | bl b => cases rx; exact SeqAt.EqAt.int_bool a t' b
  | int b => obtain ⟨t, rfl⟩ := rx; exact SeqAt.EqAt.int_int a t' b t
  | str b => obtain ⟨t, rfl⟩ := rx; exact SeqAt.EqAt.int_str a t' b t
  | _ => exact absurd (show false = true from fx) Cj
 | str a =>
  obtain ⟨t', rfl⟩ := ry
  cases x with
  | non => cases rx; exact SeqAt.EqAt.str_none a t'
  | bl b => cases rx; exact SeqAt.EqAt.str_bool a t' b
  | int b => obtain ⟨t, rfl⟩ := rx; exact SeqAt.EqAt.str_int a t' b t
  | str b => obtain ⟨t, rfl⟩ := rx; exact SeqAt.EqAt.str_str a t' b t
  | _ => exact absurd (show false = true from fx) Cj
 | _ => exact absurd (show false = true from fy) Cj
def nX (x : V) (u : Value) : Bool := match u with
 | .none => mv .non x
 | .bool b => mv (.bl b) x
 | .int i _ => mv (.int i) x
 | .str z _ => mv (.str z) x
 | _ => false
theorem pG {x y : V} {u : Value} (r : RelV y u) (f : cA y = true) : nX x u = mv y x := by
 cases y with
 | non => cases r; rfl
 | bl b => cases r; rfl
 | int i => obtain ⟨t, rfl⟩ := r; rfl
 | str z => obtain ⟨t, rfl⟩ := r; rfl
 | _ => exact absurd (show false = true from f) Cj
theorem jx {x : V} : ∀ {xs : List V} {us : List Value}, Vals xs us -> xs.all cA = true -> us.any (nX x) = xs.any fun y => mv y x := by
 intro xs us h
 induction h with
 | nil => intro _; rfl
 | cons r t ih =>
  intro f
  rw [List.all_cons, C9] at f
  rw [DZ, DZ, pG r f.1, ih f.2]
theorem fz {A : Around} {s : Shared} {x : V} {v : Value} (rx : RelV x v) (fx : cA x = true) : ∀ {xs : List V} {us : List Value}, Vals xs us -> xs.all cA = true -> ∀ u ∈ us, SeqAt.EqAt A s u v (nX x u) := by
 intro xs us h
 induction h with
 | nil => intro _ u hu; cases hu
 | cons r t ih =>
  intro f u' hu
  rw [List.all_cons, C9] at f
  rcases Cm.mp hu with rfl | hu
  ·rw [pG r f.1]; exact uf r rx f.1 fx
  ·exact ih f.2 u' hu
def yw (x : V) (xs : List V) : Bool := xs.any fun y => mv y x
def AA (K : PySem.W.Frag) (neg : Bool) : R2 := fun x y H Q => ∃ p xs, y = .ref p /\ (SqL K H p xs \/ SqT K H p xs) /\ cA x = true /\ xs.all cA = true /\ Q (.bl (if neg then !yw x xs else yw x xs)) H
theorem rX : fm X (compareOp .In) (AA X.K false) := by
 intro pins s σ H x y v u Q I rx ry h
 obtain ⟨p, xs, rfl, hq, fx, fs, q⟩ := h
 cases ry
 rcases hq with hq | hq
 ·obtain ⟨its, r, pl, hz⟩ := I.list hq
  refine SeqAt.in_listAt (nX x) pl.isList (fun w hw => fz rx fx r fs w (by simpa using hw)) ⟨.bl _, H, I, rfl, ?_⟩
  rw [show its.toArray.any (nX x) = its.any (nX x) by simp, jx r fs]
  exact q
 ·obtain ⟨its, r, pl, hz⟩ := I.tuple hq
  refine SeqAt.in_tupleAt (nX x) pl (fun w hw => fz rx fx r fs w (by simpa using hw)) ⟨.bl _, H, I, rfl, ?_⟩
  rw [show its.toArray.any (nX x) = its.any (nX x) by simp, jx r fs]
  exact q
theorem mw : fm X (compareOp .NotIn) (AA X.K true) := by
 intro pins s σ H x y v u Q I rx ry h
 obtain ⟨p, xs, rfl, hq, fx, fs, q⟩ := h
 cases ry
 rcases hq with hq | hq
 ·obtain ⟨its, r, pl, hz⟩ := I.list hq
  refine SeqAt.notIn_listAt (nX x) pl.isList (fun w hw => fz rx fx r fs w (by simpa using hw)) ⟨.bl _, H, I, rfl, ?_⟩
  rw [show its.toArray.any (nX x) = its.any (nX x) by simp, jx r fs]
  exact q
 ·obtain ⟨its, r, pl, hz⟩ := I.tuple hq
  refine SeqAt.notIn_tupleAt (nX x) pl (fun w hw => fz rx fx r fs w (by simpa using hw)) ⟨.bl _, H, I, rfl, ?_⟩
  rw [show its.toArray.any (nX x) = its.any (nX x) by simp, jx r fs]
  exact q
theorem my : cJ X (.type "list") (fun xs H Q => ∃ p ys, xs = [.ref p] /\ (SqL X.K H p ys \/ SqT X.K H p ys) /\ ∀ l, H l = none -> Q (.ref l) (ay H l (.lst ys))) := by
 intro pins s σ H xs us Q I r h
 obtain ⟨p, ys, rfl, hq, q⟩ := h
 obtain ⟨u, rfl, rx⟩ := fo r
 cases rx
 have fin : ∀ (its : List Value), Vals ys its -> ys.length <= sizeLine -> ∀ (h' : Heap) (c' : Nat), (∀ b o', s.heap.get? b = some o' -> h'.get? b = some o') ->
   h'.get? s.heap.objs.size = some { cls := .type "list", dict := none, data := .seq its.toArray c', slots := #[] } -> EP X pins σ Q (.ref s.heap.objs.size) { s with heap := h' } := fun its r' hz h' c' kp e =>
  ⟨.ref s.heap.objs.size, _, I.laid (t' := s.toks) kp (Ca _) (show ObjOk X.prog X.w _ h' _ (.lst ys) from ⟨hz, its, c', r', e⟩), rfl, q _ (I.hok.fresh (Ca _))⟩
 rcases hq with hq | hq
 ·obtain ⟨its, r', pl, hz⟩ := I.list hq
  have hlen := r'.length
  obtain ⟨o, ho, hc, n, hd⟩ := pl.isList
  exact call_list_seq p (.inl rfl) ho hc hd (fun h' c' kp e => fin its r' hz h' c' kp e) (by simp only [Ci] <;> omega)
 ·obtain ⟨its, r', pl, hz⟩ := I.tuple hq
  have hlen := r'.length
  obtain ⟨o, ho, hc, n, hd⟩ := pl
  exact call_list_seq p (.inr rfl) ho hc hd (fun h' c' kp e => fin its r' hz h' c' kp e) (by simp only [Ci] <;> omega)
theorem fV : cJ X (.type "tuple") (fun xs H Q => ∃ p ys, xs = [.ref p] /\ ((SqL X.K H p ys /\ ∀ l, H l = none -> Q (.ref l) (ay H l (.tup ys))) \/ (SqT X.K H p ys /\ Q (.ref p) H))) := by
 intro pins s σ H xs us Q I r h
 obtain ⟨p, ys, rfl, h⟩ := h
 obtain ⟨u, rfl, rx⟩ := fo r
 cases rx
 rcases h with ⟨hq, q⟩ | ⟨hq, q⟩
 ·obtain ⟨its, r', pl, hz⟩ := I.list hq
  have hlen := r'.length
  refine call_tuple_list pl.isList (fun h' kp => ?_) (by simp only [Ci] <;> omega)
  have I1 : Inv X pins σ H { s with heap := h' } := I.kept (t' := s.toks) kp
  have I2 : Inv X pins σ (ay H h'.objs.size (.tup ys)) { s with heap := h'.push { cls := .type "tuple", data := .seq its.toArray } } :=
   I1.laid (t' := s.toks) (fun b o e => Heap.get?_push_of_some _ e) (Ca _) (show ObjOk X.prog X.w _ _ _ (.tup ys) from ⟨hz, its, r', IsTup.new _ _⟩)
  exact ⟨.ref h'.objs.size, _, I2, rfl, q _ (I1.hok.fresh (Ca _))⟩
 ·obtain ⟨its, r', pl, hz⟩ := I.tuple hq
  exact call_tuple_same pl ⟨.ref p, H, I, rfl, q⟩
def A0 (K : PySem.W.Frag) (T : String) (x : V) (H : Hp) : Prop := match x with
 | .str _ => T = "str"
 | .int _ => T = "int"
 | .ref p => (T = "list" /\ ∃ xs, SqL K H p xs) \/ (T = "tuple" /\ ∃ o, K.lookup p = some o /\ o.cls = .type "tuple" /\ o.dict = none) \/
  (T = "dict" /\ ((∃ kvs, H p = some (.dK kvs)) \/ ∃ kvs, H p = some (.dT kvs))) \/ (T = "set" /\ ∃ S n, H p = some (.set S n))
 | _ => False
theorem ug {pins : List (Addr × Obj)} {σ : St} {H : Hp} {s : Shared} {T : String} {x : V} {v : Value} (I : Inv X pins σ H s) (r : RelV x v) (ty : A0 X.K T x H) :
  s.TypeIs v T /\ ∀ a, v = .ref a -> ∃ ob, s.heap.get? a = some ob /\ ob.dict = none := by
 cases x with
 | str z =>
  obtain ⟨t, rfl⟩ := r
  cases (show T = "str" from ty)
  exact ⟨typeIs_str s z t, fun _ e => nomatch e⟩
 | int i =>
  obtain ⟨t, rfl⟩ := r
  cases (show T = "int" from ty)
  exact ⟨typeIs_int s i t, fun _ e => nomatch e⟩
 | ref p =>
  cases r
  rcases ty with ⟨rfl, xs, hq⟩ | ⟨rfl, o, hk, hc, hd⟩ | ⟨rfl, hk⟩ | ⟨rfl, S, n, hk⟩
  ·obtain ⟨its, _, pl, _⟩ := I.list hq
   refine ⟨pl.isList.typeIs, fun a e => ?_⟩
   cases e
   obtain ⟨o, n, e, c, hd, _⟩ := pl
   exact ⟨o, e, hd⟩
  ·refine ⟨⟨o, I.kIn p o hk, hc⟩, fun a e => ?_⟩
   cases e
   exact ⟨o, I.kIn _ o hk, hd⟩
  ·have z : ∃ o, s.heap.get? p = some o /\ o.ExactDict := by
    rcases hk with ⟨kvs, hk⟩ | ⟨kvs, hk⟩
    ·obtain ⟨_, _, _, _, o, _, _, e, ex, _⟩ := I.hok p _ hk
     exact ⟨o, e, ex⟩
    ·obtain ⟨_, _, _, _, o, _, _, e, ex, _⟩ := I.hok p _ hk
     exact ⟨o, e, ex⟩
   obtain ⟨o, e, ex⟩ := z
   refine ⟨⟨o, e, ex.1⟩, fun a e2 => ?_⟩
   cases e2
   exact ⟨o, e, ex.2.1⟩
  ·obtain ⟨o, _, _, _, e, ex, _⟩ := I.hok p _ hk
   refine ⟨⟨o, e, ex.1⟩, fun a e2 => ?_⟩
   cases e2
   exact ⟨o, e, ex.2.1⟩
 | _ => exact False.elim ty
def A1 (K : PySem.W.Frag) (T : String) (r : V -> List V -> Hp -> VK -> Prop) (to : TE) : TE := fun σ H Q => to σ H fun x H1 => A0 K T x H1 /\ r x [] H1 Q
def BK (K : PySem.W.Frag) (T : String) (r : V -> List V -> Hp -> VK -> Prop) (to : TE) (t : TA) : TE := fun σ H Q => to σ H fun x H1 => A0 K T x H1 /\ t σ H1 fun xs H2 => r x xs H2 Q
variable {o e : Expr} {es : List Expr} {to : TE} {t : TA} {name : Str} {apos cpos : Pos} {T id : String} {r : V -> List V -> Hp -> VK -> Prop}
theorem pH (pa : PlainAttrs T) (slot : Slot T name id) (hty : typeOf (.builtin id) = pure (.type "method_descriptor")) (hm : Az X id r) (ho : PE X o to)
  (hbase : attributeBase o name X.env (eval o X.env) = eval o X.env := by rfl) (hline : (apos.endLine == cpos.line) = true := by rfl) : PE X (.Call (.Attribute o name apos) [] [] cpos) (A1 X.K T r to) := by
 intro pins s σ H Q I h
 refine wpAny_Call_method0_late hbase hline (br (ho pins s σ H _ I h) fun v s1 hq__ => ?_)
 obtain ⟨x, H1, I1, r1, ty, q1⟩ := hq__
 obtain ⟨h1, h2⟩ := ug I1 r1 ty
 exact ⟨T, id, pa, slot, hty, h1, h2, Calls.callWith_builtin rfl (PySem.evalArgs_none (hm pins s1 σ H1 x [] v [] Q I1 r1 .nil q1))⟩
theorem dS (pa : PlainAttrs T) (slot : Slot T name id) (hty : typeOf (.builtin id) = pure (.type "method_descriptor")) (hm : Az X id r) (ho : PE X o to) (ha : PA X (e :: es) t)
  (hbase : attributeBase o name X.env (eval o X.env) = eval o X.env := by rfl)
  (hfew : ((backTo cpos (starEach (e :: es) X.env)).all (fun x => !x.1) && (backToKw cpos (keywordEach [] X.env)).all (fun x => x.1.isSome)
   && decide ((e :: es).length + ([] : List Keyword).length + (if ([] : List Keyword).isEmpty then 0 else 1) < 30)) = true := by rfl)
  (hline : (apos.endLine == cpos.line) = true := by rfl) (hs : starEach (e :: es) X.env = (false, eval e X.env) :: starEach es X.env := by rfl) (hplain : (backTo cpos (starEach es X.env)).any (·.1) = false := by rfl) :
  PE X (.Call (.Attribute o name apos) (e :: es) [] cpos) (BK X.K T r to t) := by
 intro pins s σ H Q I h
 refine wpAny_Call_method_late hbase hfew hline rfl (br (ho pins s σ H _ I h) fun v s1 hq__ => ?_)
 obtain ⟨x, H1, I1, r1, ty, q1⟩ := hq__
 obtain ⟨h1, h2⟩ := ug I1 r1 ty
 refine ⟨T, id, pa, slot, hty, h1, h2, ?_⟩
 have hA := ha cpos pins s1 σ H1 _ I1 q1
 rw [hs] at hA ⊢
 refine Calls.callWith_builtin (by show (false || (backTo cpos (starEach es X.env)).any (·.1)) = false; rw [hplain] <;> rfl) (Calls.evalArgs_plain ?_)
 exact br hA fun us s2 ⟨vs, H2, I2, r2, q2⟩ => hm pins s2 σ H2 x vs v us Q I2 r1 r2 q2
end
def zN (X : Cx) (id : String) (r : V -> List V -> Hp -> VK -> Prop) : Prop :=
 ∀ (pins : List (Addr × Obj)) (s : Shared) (σ : St) (H : Hp) (x : V) (xs : List V) (v : Value) (us : List Value) (Q : VK), Inv X pins σ H s -> RelV x v -> Vals xs us -> r x xs H Q ->
  wpAny (model X.prog X.w) X.A (call (.builtin id) (v :: us)) (EP X pins σ Q) X.xe s
theorem Vals.one : ∀ {x : V} {us : List Value}, Vals [x] us -> ∃ u, us = [u] /\ RelV x u := by
 intro x us h
 cases h with
 | cons r t => cases t; exact ⟨_, rfl, r⟩
theorem Vals.zero : ∀ {us : List Value}, Vals [] us -> us = []
 | _, .nil => rfl
theorem Vals.dropLast {xs : List V} {us : List Value} (h : Vals xs us) : Vals xs.dropLast us.dropLast := by
 induction h with
 | nil => exact .nil
 | cons r t ih =>
  cases t with
  | nil => exact .nil
  | cons q t' => exact .cons r ih
theorem Vals.rep {xs : List V} {us : List Value} (h : Vals xs us) : ∀ k : Nat, Vals (Cq k xs).flatten (Cq k us).flatten
 | 0 => .nil
 | k + 1 => by
  rw [Dd, Dd, DD, DD]
  exact Vals.append h (Vals.rep h k)
theorem pI {α : Type} (l : List α) : l.eraseIdx (l.length - 1) = l.dropLast := by
 induction l with
 | nil => rfl
 | cons a r ih =>
  cases r with
  | nil => rfl
  | cons b r =>
   have e : (a :: b :: r).length - 1 = ((b :: r).length - 1) + 1 := by
    have h1 : (a :: b :: r).length = r.length + 2 := rfl
    have h2 : (b :: r).length = r.length + 1 := rfl
    omega
   rw [e, List.eraseIdx_cons_succ, ih]
   all_goals rfl
theorem rY (its : List Value) (k : Nat) (acc : List Value) : List.foldl (fun x1 x2 => x1 ++ x2) acc.toArray (Cq k its.toArray) = (acc ++ (Cq k its).flatten).toArray := by
 induction k generalizing acc with
 | zero => simp
 | succ k ih =>
  have e : acc.toArray ++ its.toArray = (acc ++ its).toArray := by simp
  have e2 : (acc ++ its) ++ (Cq k its).flatten = acc ++ (Cq (k + 1) its).flatten := by
   rw [Dd, DD, DQ]
  rw [<- e2, <- ih (acc ++ its), <- e, Dd, Ez]
section
variable {X : Cx} {pins : List (Addr × Obj)} {σ : St} {H : Hp} {s : Shared} {l b : Addr} {xs ys zs : List V}
theorem Inv.lset {its its' : List Value} {n : Nat} {f : Array Value -> Array Value} {t' : Nat} (I : Inv X pins σ H s) (hH : H l = some (.lst xs))
  (e : s.heap.get? l = some { cls := .type "list", data := .seq its.toArray n }) (hf : f its.toArray = its'.toArray) (hv : Vals ys its') (hz : ys.length <= sizeLine) :
  Inv X pins σ (ay H l (.lst ys)) { s with heap := s.heap.update l (Obj.mapSeq f), toks := t' } := by
 have q := PySem.IsL.update e f
 rw [hf] at q
 refine I.write (x := l) (e := l) (by rw [hH]; exact trivial) (.inl rfl) (fun b' u hb hu => (Heap.get?_update_other s.heap (Obj.mapSeq f) (Ne.symm hb)).trans hu) ⟨_, q⟩ ?_
 exact ⟨hz, its', _, hv, q⟩
theorem Inv.lnew {its : List Value} {t' : Nat} (I : Inv X pins σ H s) (hv : Vals ys its) (hz : ys.length <= sizeLine) :
  Inv X pins σ (ay H s.heap.objs.size (.lst ys)) { s with heap := s.heap.push { cls := .type "list", data := .seq its.toArray }, toks := t' } :=
 I.laid (fun _ _ q => Heap.get?_push_of_some _ q) (Ca _) ⟨hz, its, 0, hv, Heap.get?_push_size _ rfl⟩
theorem Inv.fresh (I : Inv X pins σ H s) : H s.heap.objs.size = none := I.hok.fresh (Ca _)
theorem Inv.lstM (I : Inv X pins σ H s) (hH : H l = some (.lst xs)) : xs.length <= sizeLine /\ ∃ (its : List Value) (n : Nat), Vals xs its /\ xs.length = its.length /\ s.heap.get? l = some { cls := .type "list", data := .seq its.toArray n } := by
 obtain ⟨z, its, n, r, e⟩ := I.hok l _ hH
 exact ⟨z, its, n, r, r.length, e⟩
theorem nY {n : Nat} (h : n <= sizeLine) : Builtin.List.listTooLong n = false := by
 unfold Builtin.List.listTooLong
 exact decide_eq_false (by omega)
end
section
variable {X : Cx}
def wm : V -> List V -> Hp -> VK -> Prop := fun x vs H Q => ∃ l xs y, x = .ref l /\ vs = [y] /\ H l = some (.lst xs) /\ xs.length < sizeLine /\ Q .non (ay H l (.lst (xs ++ [y])))
theorem bF : zN X "list.append" wm := by
 intro pins s σ H x vs v us Q I rx rv h
 obtain ⟨l, xs, y, rfl, rfl, hH, hz, q⟩ := h
 cases rx
 obtain ⟨u, rfl, ru⟩ := rv.one
 obtain ⟨z, its, n, r, hl, e⟩ := I.lstM hH
 refine call_meets F.slot_list_append ⟨_, e, rfl⟩ F.entry_list_append (F.args_list_append_2 _ _) (PySem.list_append l its.toArray n u (by rw [Ci]; omega)) ⟨e, ?_⟩
 refine ⟨.non, _, I.lset (its' := its ++ [u]) hH e (by simp) (r.append (.cons ru .nil)) ?_, rfl, q⟩
 rw [Cd, Cn]
 omega
def wq : V -> List V -> Hp -> VK -> Prop := fun x vs H Q => ∃ l b xs zs, x = .ref l /\ vs = [.ref b] /\ H l = some (.lst xs) /\ H b = some (.lst zs) /\ xs.length + zs.length <= sizeLine /\ Q .non (ay H l (.lst (xs ++ zs)))
theorem zf : zN X "list.extend" wq := by
 intro pins s σ H x vs v us Q I rx rv h
 obtain ⟨l, b, xs, zs, rfl, rfl, hH, hB, hz, q⟩ := h
 cases rx
 obtain ⟨u, rfl, ru⟩ := rv.one
 cases ru
 obtain ⟨z, its, n, r, hl, e⟩ := I.lstM hH
 obtain ⟨z2, its2, n2, r2, hl2, e2⟩ := I.lstM hB
 have hsz : its.toArray.size + its2.toArray.size <= sizeLine := by rw [Ci, Ci]; omega
 have hlong : ¬ (!its.toArray.isEmpty && Builtin.List.listTooLong (its.toArray.size + its2.toArray.size)) = true := by
  rw [nY hsz, Bool.and_false]
  exact Cj
 refine call_meets F.slot_list_extend ⟨_, e, rfl⟩ F.entry_list_extend (F.args_list_extend_2 _ _)
  (AutoSeq1.list_extend_list_list_0 l its.toArray n b its2.toArray n2 hlong (by rw [Ci]; omega) (by omega)) ⟨e, e2, ?_⟩
 refine ⟨.non, _, I.lset (its' := its ++ its2) hH e (by simp) (r.append r2) ?_, rfl, q⟩
 rw [Cd]
 omega
def A3 : V -> List V -> Hp -> VK -> Prop := fun x vs H Q => ∃ l xs y, x = .ref l /\ vs = [] /\ H l = some (.lst xs) /\ xs[xs.length - 1]? = some y /\ Q y (ay H l (.lst xs.dropLast))
theorem A4 : zN X "list.pop" A3 := by
 intro pins s σ H x vs v us Q I rx rv h
 obtain ⟨l, xs, y, rfl, rfl, hH, hy, q⟩ := h
 cases rx
 have hus := rv.zero
 subst hus
 obtain ⟨z, its, n, r, hl, e⟩ := I.lstM hH
 obtain ⟨u, hu, ru⟩ := r.get hy
 have hy' : its.toArray[its.toArray.size - 1]? = some u := by
  show its.toArray[its.length - 1]? = some u
  rw [<- DB, <- hl]
  exact hu
 refine call_meets F.slot_list_pop ⟨_, e, rfl⟩ F.entry_list_pop (F.args_list_pop_1 _) (MeetsSeq.list_pop_last l its.toArray n u hy' (by rw [Ci]; omega)) ⟨e, ?_⟩
 refine ⟨y, _, I.lset (its' := its.dropLast) hH e ?_ r.dropLast ?_, ru, q⟩
 ·show its.toArray.eraseIdxIfInBounds (its.toArray.size - 1) = its.dropLast.toArray
  rw [Ci, List.eraseIdxIfInBounds_toArray, pI]
 ·rw [DS]
  omega
def yx : V -> List V -> Hp -> VK -> Prop := fun x vs H Q => ∃ l xs, x = .ref l /\ vs = [] /\ H l = some (.lst xs) /\ Q .non (ay H l (.lst []))
theorem uh : zN X "list.clear" yx := by
 intro pins s σ H x vs v us Q I rx rv h
 obtain ⟨l, xs, rfl, rfl, hH, q⟩ := h
 cases rx
 have hus := rv.zero
 subst hus
 obtain ⟨z, its, n, r, hl, e⟩ := I.lstM hH
 refine call_meets F.slot_list_clear ⟨_, e, rfl⟩ F.entry_list_clear (F.args_list_clear_1 _) (AutoSeq1.list_clear_list_0 l its.toArray n (by rw [Ci]; omega)) ⟨e, ?_⟩
 exact ⟨.non, _, I.lset (its' := []) (ys := []) hH e rfl .nil (Cz _), rfl, q⟩
def A5 : R2 := fun x y H Q => ∃ l b xs zs, x = .ref l /\ y = .ref b /\ H l = some (.lst xs) /\ H b = some (.lst zs) /\ xs.length + zs.length <= sizeLine /\ ∀ p, H p = none -> Q (.ref p) (ay H p (.lst (xs ++ zs)))
theorem mz : fm X (binaryOp .Add) A5 := by
 intro pins s σ H x y v u Q I rx ry h
 obtain ⟨l, b, xs, zs, rfl, rfl, hH, hB, hz, q⟩ := h
 cases rx
 cases ry
 obtain ⟨z, its, n, r, hl, e⟩ := I.lstM hH
 obtain ⟨z2, its2, n2, r2, hl2, e2⟩ := I.lstM hB
 refine PySem.P.add_list e e2 ?_ (by rw [Ci, Ci]; omega)
 have ea : its.toArray ++ its2.toArray = (its ++ its2).toArray := by simp
 rw [ea]
 exact ⟨.ref _, _, I.lnew (t' := s.toks) (r.append r2) (by rw [Cd]; omega), rfl, q _ I.fresh⟩
def A6 : R2 := fun x y H Q => ∃ l k xs, x = .ref l /\ y = .int k /\ H l = some (.lst xs) /\ -(2 ^ 63) <= k /\ k < 2 ^ 63 /\ xs.length * k.toNat <= sizeLine /\
 ∀ p, H p = none -> Q (.ref p) (ay H p (.lst (Cq k.toNat xs).flatten))
theorem wu {α : Type} (xs : List α) (k : Nat) : (Cq k xs).flatten.length = k * xs.length := by
 induction k with
 | zero => simp
 | succ k ih => rw [Dd, DD, Cd, ih, Nat.succ_mul, Nat.add_comm]
theorem pJ : fm X (binaryOp .Mult) A6 := by
 intro pins s σ H x y v u Q I rx ry h
 obtain ⟨l, k, xs, rfl, rfl, hH, h1, h2, hz, q⟩ := h
 cases rx
 obtain ⟨t, rfl⟩ := ry
 obtain ⟨z, its, n, r, hl, e⟩ := I.lstM hH
 have hlen : its.toArray.size * k.toNat <= sizeLine := by rw [Ci, <- hl]; exact hz
 have hcap : ¬ its.toArray.size * k.toNat > (2 ^ 63 - 1) / 8 := by
  have : (sizeLine : Nat) <= (2 ^ 63 - 1) / 8 := by decide
  omega
 have hfit : ¬ (!Builtin.List.listFitsIndex k) = true := by
  rw [fitsIndex_both h1 h2]
  exact Cj
 have hlong : ¬ Builtin.List.listTooLong (its.toArray.size * k.toNat) = true := by
  rw [nY hlen]
  exact Cj
 have hnew : List.foldl (fun x1 x2 => x1 ++ x2) #[] (Cq (if its.toArray.isEmpty = true then 0 else k.toNat) its.toArray) = (Cq k.toNat its).flatten.toArray := by
  have f0 : ∀ m : Nat, List.foldl (fun x1 x2 => x1 ++ x2) #[] (Cq m its.toArray) = (Cq m its).flatten.toArray := fun m => by
   have := rY its m []
   rw [List.nil_append] at this
   exact this
  rw [f0]
  cases its with
  | nil => simp
  | cons a r' => rw [if_neg (by simp)]
 refine wpAny_binaryOp_repeat_ref (T := "list") (U := "int") (by decide) ⟨_, e, rfl⟩ (fun s' => typeIs_int s' k t) noFill_list_mul F.fills_int_mul F.slot_int_rmul repeat_list F.slot_int_index.lookup
  (call_meets F.slot_int_rmul (typeIs_int s k t) F.entry_int_rmul (F.args_int_rmul_2 _ _) (int___rmul___int_list k t l its.toArray n)
   ⟨e, rfl, ⟨_, e, rfl⟩, call_meets F.slot_list_mul ⟨_, e, rfl⟩ F.entry_list_mul (F.args_list_mul_2 _ _) (AutoListH.list___mul___list_int_3 l its.toArray n k t hfit hcap hlong) ⟨e, ?_⟩⟩)
 rw [hnew]
 exact ⟨.ref _, _, I.lnew (t' := s.toks) (r.rep k.toNat) (by rw [wu, Nat.mul_comm]; exact hz), rfl, q _ I.fresh⟩
end
section
variable {prog : Program} {w : World} {A : Around} {E : Value -> Shared -> Prop} {s : Shared}
end
section
variable {X : Cx}
end
section
variable {κ : Type} [DecidableEq κ]
def bf (kvs : List (κ × V)) (k : κ) : Option V := (kvs.find? fun kv => decide (kv.1 = k)).map (·.2)
def bU (kvs : List (κ × V)) (k : κ) (v : V) : List (κ × V) :=
 if (kvs.any fun kv => decide (kv.1 = k)) = true then kvs.map (fun kv => if kv.1 = k then (kv.1, v) else kv) else kvs ++ [(k, v)]
theorem bI {p : κ × V} {r : List (κ × V)} {k : κ} (e : p.1 = k) : bf (p :: r) k = some p.2 := by simp [bf, CS, e]
theorem bJ {p : κ × V} {r : List (κ × V)} {k : κ} (e : ¬ p.1 = k) : bf (p :: r) k = bf r k := by simp [bf, CS, e]
theorem b7 (k : κ) (kvs : List (κ × V)) : (kvs.any fun kv => decide (kv.1 = k)) = (bf kvs k).isSome := by
 induction kvs with
 | nil => rfl
 | cons p r ih =>
  rw [DZ]
  by_cases e : p.1 = k
  ·simp only [bI e, decide_eq_true e, Bool.true_or, Option.isSome_some]
  ·rw [bJ e, decide_eq_false e, Bool.false_or]; exact ih
theorem ui (k j : κ) (y : V) (kvs : List (κ × V)) : bf (kvs.map fun kv => if kv.1 = k then (kv.1, y) else kv) j = (bf kvs j).map fun x => if j = k then y else x := by
 induction kvs with
 | nil => rfl
 | cons p r ih =>
  rw [Ce]
  by_cases h : p.1 = k
  ·rw [if_pos h]
   by_cases e : p.1 = j
   ·rw [bI (p := (p.1, y)) e, bI e, DA, if_pos (e.symm.trans h)]
   ·rw [bJ (p := (p.1, y)) e, bJ e, ih]
  ·rw [if_neg h]
   by_cases e : p.1 = j
   ·rw [bI (p := p) e, bI e, DA, if_neg (fun z => h (e.trans z))]
   ·rw [bJ (p := p) e, bJ e, ih]
theorem rZ (k j : κ) (y : V) : ∀ kvs : List (κ × V), bf kvs k = none -> bf (kvs ++ [(k, y)]) j = if j = k then some y else bf kvs j := by
 intro kvs
 induction kvs with
 | nil =>
  intro _
  by_cases e : k = j
  ·rw [if_pos e.symm]; exact bI (p := (k, y)) e
  ·rw [if_neg (fun z => e z.symm)]; exact bJ (p := (k, y)) e
 | cons p r ih =>
  intro hn
  rw [List.cons_append]
  have hk : ¬ p.1 = k := fun z => by rw [bI z] at hn; cases hn
  rw [bJ hk] at hn
  have ih := ih hn
  by_cases e : p.1 = j
  ·rw [bI e, bI e, if_neg (fun z => hk (e.trans z))]
  ·rw [bJ e, bJ e, ih]
theorem jL (kvs : List (κ × V)) (k j : κ) (y : V) : bf (bU kvs k y) j = if j = k then some y else bf kvs j := by
 unfold bU
 by_cases a : (kvs.any fun kv => decide (kv.1 = k)) = true
 ·rw [if_pos a, ui]
  rw [b7] at a
  by_cases e : j = k
  ·obtain ⟨x, hx⟩ := Dc.mp a
   rw [if_pos e, e, hx, DA, if_pos rfl]
  ·rw [if_neg e]
   cases bf kvs j with
   | none => rfl
   | some x => rw [DA, if_neg e]
 ·rw [if_neg a]
  refine rZ k j y kvs ?_
  rw [b7] at a
  cases q : bf kvs k with
  | none => rfl
  | some x => rw [q] at a; exact (a rfl).elim
theorem dE (kvs : List (κ × V)) (k : κ) (v : V) : (bU kvs k v).length <= kvs.length + 1 := by
 unfold bU
 split
 ·rw [B4]; omega
 ·rw [Cd, Cv, List.length_nil]; omega
theorem uj {kvs : List (κ × V)} {k : κ} (v : V) (h : bf kvs k = none) : bU kvs k v = kvs ++ [(k, v)] := by
 unfold bU
 rw [b7, h]
 exact if_neg (by decide)
theorem RelO.isSome_eq {o : Option V} {u : Option Value} (r : RelO o u) : o.isSome = u.isSome := by
 cases o with
 | none => cases u with
  | none => rfl
  | some _ => exact (show False from r).elim
 | some _ => cases u with
  | none => exact (show False from r).elim
  | some _ => rfl
theorem RelO.getD {o : Option V} {u : Option Value} {d : V} {d' : Value} (r : RelO o u) (rd : RelV d d') : RelV (o.getD d) (u.getD d') := by
 cases o with
 | none => cases u with
  | none => exact rd
  | some _ => exact (show False from r).elim
 | some _ => cases u with
  | none => exact (show False from r).elim
  | some _ => exact r
theorem KV.val {kvs : List (κ × V)} {vs : List (κ × Value)} (r : KV kvs vs) (k : κ) : RelO (bf kvs k) (valueAt vs k) := by
 unfold KV at r
 induction r with
 | nil => exact True.intro
 | @cons p q ps qs h t ih =>
  obtain ⟨h1, h2⟩ := h
  by_cases e : p.1 = k
  ·have e' : q.1 = k := h1.symm.trans e
   have b : valueAt (q :: qs) k = some q.2 := by simp [valueAt, CS, e']
   rw [bI e, b]; exact h2
  ·have e' : ¬ q.1 = k := fun z => e (h1.trans z)
   have b : valueAt (q :: qs) k = valueAt qs k := by simp [valueAt, CS, e']
   rw [bJ e, b]; exact ih
theorem KV.any {kvs : List (κ × V)} {vs : List (κ × Value)} (r : KV kvs vs) (k : κ) : (kvs.any fun kv => decide (kv.1 = k)) = vs.any fun kv => decide (kv.1 = k) := by
 unfold KV at r
 induction r with
 | nil => rfl
 | cons h t ih => rw [DZ, DZ, ih, h.1]
theorem KV.repl {kvs : List (κ × V)} {vs : List (κ × Value)} (r : KV kvs vs) (k : κ) {y : V} {u : Value} (ry : RelV y u) :
  KV (kvs.map fun kv => if kv.1 = k then (kv.1, y) else kv) (vs.map fun kv => if kv.1 = k then (kv.1, u) else kv) := by
 unfold KV at r ⊢
 induction r with
 | nil => exact .nil
 | @cons p q ps qs h t ih =>
  rw [Ce, Ce]
  refine .cons ?_ ih
  obtain ⟨h1, h2⟩ := h
  by_cases e : p.1 = k
  ·rw [if_pos e, if_pos (h1.symm.trans e)]; exact ⟨h1, ry⟩
  ·rw [if_neg e, if_neg (fun z => e (h1.trans z))]; exact ⟨h1, h2⟩
theorem KV.put {kvs : List (κ × V)} {vs : List (κ × Value)} (r : KV kvs vs) (k : κ) {y : V} {u : Value} (ry : RelV y u) : KV (bU kvs k y) (stored vs k u) := by
 unfold bU stored
 rw [r.any k]
 by_cases e : (vs.any fun kv => decide (kv.1 = k)) = true
 ·rw [if_pos e, if_pos e]; exact r.repl k ry
 ·rw [if_neg e, if_neg e]; exact Paired.snoc r ⟨rfl, ry⟩
theorem KV.length {kvs : List (κ × V)} {vs : List (κ × Value)} (r : KV kvs vs) : kvs.length = vs.length := Paired.length r
end
theorem iU {P : Program} {w : World} {k : bq} {u : Value} (r : RelV (kV k) u) : (aG P w).is k u = true := by
 cases k with
 | inl i => obtain ⟨t, e⟩ := (show ∃ t, u = Value.int i t from r); subst e; exact nI P w i t
 | inr x => obtain ⟨t, e⟩ := (show ∃ t, u = Value.str x t from r); subst e; exact nJ P w x t
theorem r8 {P : Program} {w : World} {ks : List bq} {us : List Value} (r : Vals (ks.map kV) us) : ItemsAre (aG P w) ks us := by
 induction ks generalizing us with
 | nil => cases r; exact .nil
 | cons k ks ih =>
  cases r with
  | cons h t => exact .cons (iU h) (ih t)
abbrev KT (H : Hp) : List (List bq × V) -> List (List bq × Addr × Value) -> Prop := Paired fun p q => p.1 = q.1 /\ H q.2.1 = some (.tup (p.1.map kV)) /\ RelV p.2 q.2.2
theorem KT.val {H : Hp} {kvs : List (List bq × V)} {xs : List (List bq × Addr × Value)} (r : KT H kvs xs) (k : List bq) : RelO (bf kvs k) ((atKey xs k).map (·.2)) := by
 induction r with
 | nil => exact True.intro
 | @cons p q ps qs h t ih =>
  obtain ⟨h1, _, h2⟩ := h
  by_cases e : p.1 = k
  ·have e' : q.1 = k := h1.symm.trans e
   have b : atKey (q :: qs) k = some q.2 := by simp [atKey, CS, e']
   rw [bI e, b]; exact h2
  ·have e' : ¬ q.1 = k := fun z => e (h1.trans z)
   have b : atKey (q :: qs) k = atKey qs k := by simp [atKey, CS, e']
   rw [bJ e, b]; exact ih
theorem KT.repl {H : Hp} {kvs : List (List bq × V)} {xs : List (List bq × Addr × Value)} (r : KT H kvs xs) (k : List bq) {y : V} {u : Value} (ry : RelV y u) :
  KT H (kvs.map fun kv => if kv.1 = k then (kv.1, y) else kv) (xs.map (putAt k u)) := by
 induction r with
 | nil => exact .nil
 | @cons p q ps qs h t ih =>
  rw [Ce, Ce]
  refine .cons ?_ ih
  obtain ⟨h1, h2, h3⟩ := h
  unfold putAt
  by_cases e : p.1 = k
  ·rw [if_pos e, if_pos (h1.symm.trans e)]; exact ⟨h1, h2, ry⟩
  ·rw [if_neg e, if_neg (fun z => e (h1.trans z))]; exact ⟨h1, h2, h3⟩
theorem KT.put {H : Hp} {kvs : List (List bq × V)} {xs : List (List bq × Addr × Value)} (r : KT H kvs xs) (k : List bq) {b : Addr} {y : V} {u : Value} (hb : H b = some (.tup (k.map kV))) (ry : RelV y u) :
  KT H (bU kvs k y) (storedH xs k b u) := by
 have e : (kvs.any fun kv => decide (kv.1 = k)) = (atKey xs k).isSome := by
  rw [b7, (r.val k).isSome_eq, Option.isSome_map]
 unfold bU storedH
 rw [e]
 by_cases q : (atKey xs k).isSome = true
 ·rw [if_pos q, if_pos q]; exact r.repl k ry
 ·rw [if_neg q, if_neg q]; exact Paired.snoc r ⟨rfl, hb, ry⟩
theorem KT.keeps {H H' : Hp} {kvs : List (List bq × V)} {xs : List (List bq × Addr × Value)} (r : KT H kvs xs) (ht : ∀ b ys, H b = some (.tup ys) -> H' b = some (.tup ys)) : KT H' kvs xs :=
 Paired.mapP r fun _ _ z => ⟨z.1, ht _ _ z.2.1, z.2.2⟩
section
variable {P : Program} {w : World} {H : Hp} {h : Heap} {a : Addr}
theorem xO {u : HO} (ok : HOk P w H h) (e : Rd H a u) : ObjOk P w H h a u := e.ok ok
theorem jM {kvs : List (bq × V)} (ok : HOk P w H h) (e : Rd H a (.dK kvs)) : kvs.length <= sizeLine /\ (a == sysModules) = false /\ ∃ vs, KV kvs vs /\ h.DictOf (aG P w) a vs :=
 show ObjOk P w H h a (.dK kvs) from xO ok e
theorem jN {kvs : List (bq × V)} (ok : HOk P w H h) (e : H a = some (.dK kvs)) : kvs.length <= sizeLine /\ (a == sysModules) = false /\ ∃ vs, KV kvs vs /\ h.DictOf (aG P w) a vs := jM ok (.inl e)
theorem iu {ks : List bq} (ok : HOk P w H h) (e : H a = some (.tup (ks.map kV))) : (tupleKind (aG P w)).is h ks a := by
 obtain ⟨_, its, r, o, h1, h2, n, h3⟩ := (show ObjOk P w H h a (.tup (ks.map kV)) from ok a _ e)
 exact ⟨o, its.toArray, n, h1, h2, h3, by simpa using r8 r⟩
theorem jO {kvs : List (List bq × V)} (ok : HOk P w H h) (e : Rd H a (.dT kvs)) : kvs.length <= sizeLine /\ (a == sysModules) = false /\
  ∃ xs, KT H kvs xs /\ h.DictOfH (tupleKind (aG P w)) a xs := by
 obtain ⟨z, y, xs, r, o, es, ep, h1, h2, h3, h4, h5⟩ := (show ObjOk P w H h a (.dT kvs) from xO ok e)
 refine ⟨z, y, xs, r, o, es, ep, h1, h2, h3, h4, fun x hx => ?_, h5⟩
 have all : ∀ {l : List (List bq × V)} {m : List (List bq × Addr × Value)}, KT H l m -> ∀ x ∈ m, (tupleKind (aG P w)).is h x.1 x.2.1 := by
  intro l m q
  induction q with
  | nil => intro x hx; exact nomatch hx
  | @cons p q ps qs hq t ih =>
   intro x hx
   rcases Cm.mp hx with e | hx
   ·subst e
    exact iu ok (by rw [<- hq.1]; exact hq.2.1)
   ·exact ih x hx
 exact all r x hx
theorem zO {kvs : List (List bq × V)} (ok : HOk P w H h) (e : H a = some (.dT kvs)) : kvs.length <= sizeLine /\ (a == sysModules) = false /\
 ∃ xs, KT H kvs xs /\ h.DictOfH (tupleKind (aG P w)) a xs := jO ok (.inl e)
end
def DGet (H : Hp) (a : Addr) (y : V) (r : Option V) : Prop :=
 (∃ kvs k, Rd H a (.dK kvs) /\ y = kV k /\ r = bf kvs k) \/ ∃ kvs k b, Rd H a (.dT kvs) /\ y = .ref b /\ H b = some (.tup (k.map kV)) /\ r = bf kvs k
def DPut (H : Hp) (a : Addr) (y v : V) (H' : Hp) : Prop :=
 (∃ kvs k, H a = some (.dK kvs) /\ y = kV k /\ kvs.length < sizeLine /\ H' = ay H a (.dK (bU kvs k v))) \/
 ∃ kvs k b, H a = some (.dT kvs) /\ y = .ref b /\ H b = some (.tup (k.map kV)) /\ kvs.length < sizeLine /\ H' = ay H a (.dT (bU kvs k v))
theorem DGet.k {H : Hp} {a : Addr} {kvs : List (bq × V)} {k : bq} (e : H a = some (.dK kvs)) : DGet H a (kV k) (bf kvs k) := .inl ⟨kvs, k, .inl e, rfl, rfl⟩
theorem DPut.k {H : Hp} {a : Addr} {kvs : List (bq × V)} {k : bq} {v : V} (e : H a = some (.dK kvs)) (hl : kvs.length < sizeLine) : DPut H a (kV k) v (ay H a (.dK (bU kvs k v))) := .inl ⟨kvs, k, e, rfl, hl, rfl⟩
section
variable {X : Cx} {pins : List (Addr × Obj)} {σ : St} {H : Hp} {s : Shared} {a : Addr} {y v : V} {u r : Value} {o : Option V} {A : Around} {E : Value -> Shared -> Prop}
theorem Inv.big (I : Inv X pins σ H s) : sysModules < s.heap.objs.size := by
 have h : mainGlobals < s.heap.objs.size := (I.mod.glob.keeps I.bk).lt
 exact Nat.lt_trans (by decide) h
theorem lF {Q : Value -> Shared -> Prop} (hu : A.units + 1 < cLine) (I : Inv X pins σ H s) (g : DGet H a y (some v)) (ry : RelV y u) (h : ∀ w' s', Inv X pins σ H s' -> RelV v w' -> Q w' s') :
  wpAny (model X.prog X.w) A (getItem (.ref a) u) Q E s := by
 rcases g with ⟨kvs, k, e, ey, l⟩ | ⟨kvs, k, b, e, ey, eb, l⟩
 ·subst ey
  obtain ⟨z, hd, vs, rel, dd⟩ := jM I.hok e
  obtain ⟨w', hw, rw'⟩ := RelO.some_of (v := v) (o := valueAt vs k) (by rw [l]; exact rel.val k)
  exact wpAny_getItem_of (iU ry) dd.mapOf hw (h w' _ (I.tok _) rw')
 ·subst ey
  cases (show u = Value.ref b from ry)
  obtain ⟨z, hd, xs, rel, dd⟩ := jO I.hok e
  obtain ⟨w', hw, rw'⟩ := RelO.some_of (v := v) (o := (atKey xs k).map (·.2)) (by rw [l]; exact rel.val k)
  obtain ⟨p, hp, hp2⟩ := Cc.mp hw
  refine wpAny_getItem_heap (tupleKind_room_in1 hu) (iu I.hok eb) dd hp ?_
  rw [hp2]
  exact h w' _ (I.tok _) rw'
theorem A7 {Q : Value -> Shared -> Prop} (hu : A.units + 1 < cLine) (I : Inv X pins σ H s) (g : DGet H a y o) (ry : RelV y u) (h : ∀ s', Inv X pins σ H s' -> Q (.bool o.isSome) s') :
  wpAny (model X.prog X.w) A (compareOp .In u (.ref a)) Q E s := by
 rcases g with ⟨kvs, k, e, ey, l⟩ | ⟨kvs, k, b, e, ey, eb, l⟩
 ·subst ey
  obtain ⟨z, hd, vs, rel, dd⟩ := jM I.hok e
  refine wpAny_in_of (iU ry) hd dd.mapOf ?_
  rw [<- (rel.val k).isSome_eq, <- l]
  exact h _ (I.tok _)
 ·subst ey
  cases (show u = Value.ref b from ry)
  obtain ⟨z, hd, xs, rel, dd⟩ := jO I.hok e
  refine wpAny_in_heap (tupleKind_room_in1 hu) (iu I.hok eb) hd dd ?_
  have q := (rel.val k).isSome_eq
  rw [Option.isSome_map] at q
  rw [<- q, <- l]
  exact h _ (I.tok _)
theorem wx {Q : Value -> Shared -> Prop} (hu : A.units + 1 < cLine) (I : Inv X pins σ H s) (g : DGet H a y o) (ry : RelV y u) (h : ∀ s', Inv X pins σ H s' -> Q (.bool (!o.isSome)) s') :
  wpAny (model X.prog X.w) A (compareOp .NotIn u (.ref a)) Q E s := by
 rcases g with ⟨kvs, k, e, ey, l⟩ | ⟨kvs, k, b, e, ey, eb, l⟩
 ·subst ey
  obtain ⟨z, hd, vs, rel, dd⟩ := jM I.hok e
  refine wpAny_notIn_of (iU ry) hd dd.mapOf ?_
  rw [<- (rel.val k).isSome_eq, <- l]
  exact h _ (I.tok _)
 ·subst ey
  cases (show u = Value.ref b from ry)
  obtain ⟨z, hd, xs, rel, dd⟩ := jO I.hok e
  refine wpAny_notIn_heap (tupleKind_room_in1 hu) (iu I.hok eb) hd dd ?_
  have q := (rel.val k).isSome_eq
  rw [Option.isSome_map] at q
  rw [<- q, <- l]
  exact h _ (I.tok _)
theorem mB {h' : Heap} {t' : Nat} {ob : HO} (I : Inv X pins σ H s) (mu : zc (H a)) (hs : Heap.SameBut a s.heap h') (he : ∃ q, h'.get? a = some q) (new : ObjOk X.prog X.w (ay H a ob) h' a ob) :
  Inv X pins σ (ay H a ob) { s with heap := h', toks := t' } :=
 I.write (x := a) (e := a) mu (.inl rfl) (fun b q hb z => (hs.2 b hb).trans z) he new
theorem pK {P : Program} {w : World} {H' : Hp} {h' : Heap} {kvs : List (bq × V)} {vs : List (bq × Value)} (z : kvs.length <= sizeLine) (hd : (a == sysModules) = false) (rel : KV kvs vs) (dd : h'.DictOf (aG P w) a vs) :
 ObjOk P w H' h' a (.dK kvs) := ⟨z, hd, vs, rel, dd⟩
theorem lG {H' : Hp} {Q : Unit -> Shared -> Prop} (hu : A.units + 1 < cLine) (I : Inv X pins σ H s) (g : DPut H a y v H') (ry : RelV y u) (rv : RelV v r) (h : ∀ s', Inv X pins σ H' s' -> Q () s') :
  wpAny (model X.prog X.w) A (setItem (.ref a) u r) Q E s := by
 rcases g with ⟨kvs, k, e, ey, l, eH⟩ | ⟨kvs, k, b, e, ey, eb, l, eH⟩
 ·subst ey eH
  obtain ⟨z, hd, vs, rel, dd⟩ := jN I.hok e
  have hz : vs.length <= sizeLine := by rw [<- rel.length]; exact z
  have hl : (bU kvs k v).length <= sizeLine := by have := dE kvs k v; omega
  refine wpAny_setItem_pairs (hsz := hz) (iU ry) dd fun h' dd' hs => h _ ?_
  have he : ∃ q, h'.get? a = some q := let ⟨q, _, _, hq, _⟩ := dd'; ⟨q, hq⟩
  exact mB I (by rw [e]; exact True.intro) hs he (pK hl hd (rel.put k rv) dd')
 ·subst ey eH
  cases (show u = Value.ref b from ry)
  obtain ⟨z, hd, xs, rel, dd⟩ := zO I.hok e
  have hz : xs.length <= sizeLine := by rw [<- Paired.length rel]; exact z
  have hl : (bU kvs k v).length <= sizeLine := by have := dE kvs k v; omega
  refine wpAny_setItem_heap (hsz := hz) (tupleKind_room_in1 hu) (iu I.hok eb) dd fun h' dd' hs => h _ ?_
  obtain ⟨q, es, ep, hq, h2, h3, h4, _, h5⟩ := dd'
  refine mB I (by rw [e]; exact True.intro) hs ⟨q, hq⟩ ⟨hl, hd, _, (rel.put k eb rv).keeps fun c ys ec => ?_, q, es, ep, hq, h2, h3, h4, h5⟩
  rw [aj (zj ec e (fun z => nomatch z))]
  exact ec
end
section
variable {X : Cx} {pins : List (Addr × Obj)} {σ : St} {H : Hp} {s : Shared} {a : Addr} {kvs : List (bq × V)} {k : bq} {u : Value} {A : Around} {E : Value -> Shared -> Prop}
end
def zP (i : Expr) : Prop := ∀ ov iv, subscripted i false ov iv = operate [ov, iv] (getItem ov iv)
theorem wy {prog : Program} {w : World} {A : Around} {E : Value -> Shared -> Prop} {s : Shared} {env : Env} {value slice : Expr} {pos : Pos} {T id : String} {Q : Value -> Shared -> Prop}
  (hl : typeLookup (.type T) "__getitem__" = pure (some (.builtin id))) (hs : zP slice)
  (h : wpAny (model prog w) A (eval value env) (fun o s₁ => wpAny (model prog w) A (eval slice env) (fun i s₂ => s₂.TypeIs o T /\ wpAny (model prog w) A (getItem o i) Q E s₂) E s₁) E s) :
  wpAny (model prog w) A (eval (.Subscript value slice pos) env) Q E s := by
 refine Subscript_ (wpAny_mono h (fun o s₁ h₁ => wpAny_mono h₁ (fun i s₂ h₂ => ?_) fun _ _ x => x) fun _ _ x => x)
 obtain ⟨hT, h₂⟩ := h₂
 unfold subscriptTail
 refine wpAny_bind ?_
 rw [getitemInPython_of_ne hT.not_modules]
 refine wpAny_bind (wpAny_specialOf hT hl ?_)
 have fin : wpAny (model prog w) A (subscripted slice false o i) (fun r s₃ => wpAny (model prog w) A (letTemporaryGo value o r >>= fun _ => pure r) Q E s₃) E s₂ := by
  rw [hs o i]
  exact wpAny_operating (wpAny_mono h₂ (fun r s₃ h₃ => wpAny_bind (wpAny_letTemporaryGo (wpAny_pure h₃))) fun _ _ x => x)
 first
  | exact wpAny_pure (wpAny_bind fin)
  | exact wpAny_bind (wpAny_pure (wpAny_bind fin))
  | exact wpAny_bind fin
theorem nZ {X : Cx} {pins : List (Addr × Obj)} {σ : St} {H : Hp} {s : Shared} {a : Addr} {y : V} {o : Option V} (I : Inv X pins σ H s) (g : DGet H a y o) : s.TypeIs (.ref a) "dict" := by
 rcases g with ⟨kvs, k, e, _, _⟩ | ⟨kvs, k, b, e, _, _, _⟩
 ·obtain ⟨_, _, vs, _, dd⟩ := jM I.hok e
  exact dd.typeIs
 ·obtain ⟨_, _, xs, _, dd⟩ := jO I.hok e
  exact dd.typeIs
def zQ (td ty : TE) : TE := fun σ H Q => td σ H fun x H1 => ty σ H1 fun y H2 => ∃ a v, x = .ref a /\ DGet H2 a y (some v) /\ Q v H2
def A8 (ty td : TE) : TE := fun σ H Q => ty σ H fun y H1 => td σ H1 fun x H2 => ∃ a o, x = .ref a /\ DGet H2 a y o /\ Q (.bl o.isSome) H2
def wz (ty td : TE) : TE := fun σ H Q => ty σ H fun y H1 => td σ H1 fun x H2 => ∃ a o, x = .ref a /\ DGet H2 a y o /\ Q (.bl (!o.isSome)) H2
def zR (td ty tv : TE) : TS := fun D σ H => tv σ H fun v H1 => td σ H1 fun x H2 => ty σ H2 fun y H3 => ∃ a H4, x = .ref a /\ DPut H3 a y v H4 /\ D.nx σ H4
def zS (td ty tv : TE) (rd : V -> V -> Hp -> VK -> Prop) : TS := fun D σ H => td σ H fun x H1 => ty σ H1 fun y H2 => ∃ a v, x = .ref a /\ DGet H2 a y (some v) /\
 tv σ H2 fun y2 H3 => rd v y2 H3 fun z H4 => ∃ H5, DPut H4 a y z H5 /\ D.nx σ H5
section
variable {X : Cx} {o i e value : Expr} {pos pos' tpos : Pos} {td ty tv : TE}
theorem eF (hu : X.A.units + 1 < cLine) (ho : PE X o td) (hi : PE X i ty) (hs : zP i) : PE X (.Subscript o i pos) (zQ td ty) := by
 intro pins s σ H Q I h
 refine wy PySem.F.slot_dict_getitem.lookup hs (br (ho pins s σ H _ I h) fun u s1 h1 => ?_)
 obtain ⟨x, H1, I1, rx, q1⟩ := h1
 refine br (hi pins s1 σ H1 _ I1 q1) fun iv s2 h2 => ?_
 obtain ⟨y, H2, I2, ry, a, v, ex, g, q2⟩ := h2
 subst ex
 obtain rfl : u = Value.ref a := rx
 exact ⟨nZ I2 g, lF hu I2 g ry fun w' s3 I3 rw' => ⟨v, H2, I3, rw', q2⟩⟩
theorem yz (hu : X.A.units + 1 < cLine) (hi : PE X i ty) (ho : PE X o td) : PC X .In i o (A8 ty td) := by
 intro pins s σ H Q I h
 refine br (hi pins s σ H _ I h) fun iv s1 ⟨y, H1, I1, ry, q1⟩ => br (ho pins s1 σ H1 _ I1 q1) fun u s2 hq__ => ?_
 obtain ⟨x, H2, I2, rx, a, ov, ex, g, q2⟩ := hq__
 subst ex
 obtain rfl : u = Value.ref a := rx
 exact A7 hu I2 g ry fun s3 I3 => ⟨.bl ov.isSome, H2, I3, rfl, q2⟩
theorem iw (hu : X.A.units + 1 < cLine) (hi : PE X i ty) (ho : PE X o td) : PC X .NotIn i o (wz ty td) := by
 intro pins s σ H Q I h
 refine br (hi pins s σ H _ I h) fun iv s1 h1 => ?_
 obtain ⟨y, H1, I1, ry, q1⟩ := h1
 refine br (ho pins s1 σ H1 _ I1 q1) fun u s2 h2 => ?_
 obtain ⟨x, H2, I2, rx, a, ov, ex, g, q2⟩ := h2
 subst ex
 obtain rfl : u = Value.ref a := rx
 exact wx hu I2 g ry fun s3 I3 => ⟨.bl (!ov.isSome), H2, I3, rfl, q2⟩
theorem mC (hu : X.A.units + 1 < cLine) (ho : PE X o td) (hi : PE X i ty) (hv : PE X value tv) (hs : swapsWith value (some (.Subscript o i pos')) pos.line X.env = pure false) :
  PS X (.Assign [.Subscript o i pos'] value pos) (zR td ty tv) := by
 intro pins s σ H D I h
 refine wpAny_Assign_Subscript (br (hv pins s σ H _ I h) fun r s1 h1 => ?_) hs
 obtain ⟨v, H1, I1, rv, q1⟩ := h1
 refine br (ho pins s1 σ H1 _ I1 q1) fun u s2 h2 => ?_
 obtain ⟨x, H2, I2, rx, q2⟩ := h2
 refine br (hi pins s2 σ H2 _ I2 q2) fun iv s3 h3 => ?_
 obtain ⟨y, H3, I3, ry, a, H4, ex, g, q3⟩ := h3
 subst ex
 obtain rfl : u = Value.ref a := rx
 exact lG hu I3 g ry rv fun s4 I4 => ⟨σ, H4, I4, q3⟩
theorem wA {op : Operator} {rd : V -> V -> Hp -> VK -> Prop} (hu : X.A.units + 1 < cLine) (ho : PE X o td) (hi : PE X i ty) (hv : PE X value tv) (hop : zF X op rd)
  (ha : ∀ ov iv new, augStore i ov iv new = (do holding [new, ov, iv] (setItem ov iv new); release [new, ov, iv] []; pure .next)) : PS X (.AugAssign (.Subscript o i tpos) op value pos) (zS td ty tv rd) := by
 intro pins s σ H D I h
 refine wpAny_AugAssign_SubscriptAny (br (ho pins s σ H _ I h) fun u s1 ⟨x, H1, I1, rx, q1⟩ => br (hi pins s1 σ H1 _ I1 q1) fun iv s2 ⟨y, H2, I2, ry, a, v, ex, g, q2⟩ => ?_) ha
 subst ex
 obtain rfl : u = Value.ref a := rx
 refine lF hu I2 g ry fun w' s3 I3 rw' => br (hv pins s3 σ H2 _ I3 q2) fun w2 s4 ⟨y2, H3, I4, ry2, q3⟩ => br (hop pins s4 σ H3 v y2 w' w2 _ I4 rw' ry2 q3) fun w3 s5 hq__ => ?_
 obtain ⟨z, H4, I5, rz, H5, g5, q4⟩ := hq__
 exact lG hu I5 g5 ry rz fun s6 I6 => ⟨σ, H5, I6, q4⟩
end
theorem uk {P : Program} {w : World} {H : Hp} (h : Heap) (hb : sysModules < h.objs.size) : ObjOk P w H (h.push { cls := .type "dict", data := .dict #[] }) h.objs.size (.dK []) :=
 ⟨Cz _, beq_eq_false_iff_ne.mpr (Ne.symm (Cp hb)), [], .nil, Heap.DictOf.new h⟩
def yA : TE := fun _ H Q => ∀ p, H p = none -> Q (.ref p) (ay H p (.dK []))
section
variable {X : Cx} {pos : Pos}
theorem gN : PE X (.Dict [] [] pos) yA := fun pins s σ H Q I h =>
 wpAny_Dict_empty ⟨.ref s.heap.objs.size, _, I.laid (a := s.heap.objs.size) (o := .dK []) (t' := s.toks) (fun _ _ q => Heap.get?_push_of_some _ q) (Ca _) (uk s.heap I.big), rfl, h _ (I.hok.fresh (Ca _))⟩
end
structure M2 (X : Cx) (o : Expr) (m : Str) (apos : Pos) (e f : Expr) (cpos : Pos) : Prop where
 base : attributeBase o m X.env (eval o X.env) = eval o X.env
 few : ((backTo cpos (starEach [e, f] X.env)).all (fun x => !x.1) && (backToKw cpos (keywordEach [] X.env)).all (fun x => x.1.isSome)
  && decide (([e, f] : List Expr).length + ([] : List Keyword).length + (if ([] : List Keyword).isEmpty then 0 else 1) < 30)) = true
 line : (apos.endLine == cpos.line) = true
 trees : backTo cpos (starEach [e, f] X.env) = [(false, eval e X.env), (false, eval f X.env)]
def Bv (H : Hp) (a : Addr) : Prop := (∃ kvs, Rd H a (.dK kvs)) \/ ∃ kvs, Rd H a (.dT kvs)
theorem yB {X : Cx} {pins : List (Addr × Obj)} {σ : St} {H : Hp} {s : Shared} {a : Addr} (I : Inv X pins σ H s) (d : Bv H a) :
  s.TypeIs (.ref a) "dict" /\ (∀ b, Value.ref a = .ref b -> ∃ ob, s.heap.get? b = some ob /\ ob.dict = none) /\ (a == sysModules) = false := by
 rcases d with ⟨kvs, e⟩ | ⟨kvs, e⟩
 ·obtain ⟨_, hd, vs, _, dd⟩ := jM I.hok e
  refine ⟨dd.typeIs, fun b q => ?_, hd⟩
  cases q
  obtain ⟨ob, _, _, h1, h2, _⟩ := dd
  exact ⟨ob, h1, h2.2.1⟩
 ·obtain ⟨_, hd, xs, _, dd⟩ := jO I.hok e
  refine ⟨dd.typeIs, fun b q => ?_, hd⟩
  cases q
  obtain ⟨ob, _, _, h1, h2, _⟩ := dd
  exact ⟨ob, h1, h2.2.1⟩
section
variable {X : Cx} {pins : List (Addr × Obj)} {σ : St} {H : Hp} {s : Shared} {a : Addr} {y d : V} {u r : Value} {o : Option V} {A : Around} {E : Value -> Shared -> Prop}
theorem yC {Q : Value -> Shared -> Prop} (hu : A.units + 1 < cLine) (I : Inv X pins σ H s) (g : DGet H a y o) (ry : RelV y u) (rd : RelV d r) (h : ∀ w' s', Inv X pins σ H s' -> RelV (o.getD d) w' -> Q w' s') :
  wpAny (model X.prog X.w) A (call (.builtin "dict.get") [.ref a, u, r]) Q E s := by
 rcases g with ⟨kvs, k, e, ey, l⟩ | ⟨kvs, k, b, e, ey, eb, l⟩
 ·subst ey
  obtain ⟨z, hd, vs, rel, dd⟩ := jM I.hok e
  refine call_meetsIn PySem.F.slot_dict_get dd.typeIs PySem.F.entry_dict_get (PySem.F.args_dict_get_3 _ _ _) (meets_dict_get_default (aG X.prog X.w) a (iU ry) hd r) ⟨_, dd.mapOf, h _ _ (I.tok _) ?_⟩
  rw [l]
  exact (rel.val k).getD rd
 ·subst ey
  cases (show u = Value.ref b from ry)
  obtain ⟨z, hd, xs, rel, dd⟩ := jO I.hok e
  refine call_meetsIn PySem.F.slot_dict_get dd.typeIs PySem.F.entry_dict_get (PySem.F.args_dict_get_3 _ _ _) (meetsH_dict_get_default (tupleKind (aG X.prog X.w)) a b hd r) ⟨tupleKind_room_in1 hu, k, xs, iu I.hok eb, dd, h _ _ (I.tok _) ?_⟩
  rw [l]
  exact (rel.val k).getD rd
end
def yD (td ty tx : TE) : TE := fun σ H Q => td σ H fun x H1 => ∃ a, x = .ref a /\ Bv H1 a /\ ty σ H1 fun y H2 => tx σ H2 fun z H3 => ∃ o, DGet H3 a y o /\ Q (o.getD z) H3
section
variable {X : Cx} {o e f : Expr} {apos cpos : Pos} {td ty tx : TE}
theorem um (hu : X.A.units + 1 < cLine) (ho : PE X o td) (he : PE X e ty) (hf : PE X f tx) (m : M2 X o "get" apos e f cpos) : PE X (.Call (.Attribute o "get" apos) [e, f] [] cpos) (yD td ty tx) := by
 intro pins s σ H Q I h
 refine wpAny_Call_method m.base m.few m.line PySem.F.plainAttrs_dict PySem.F.slot_dict_get PySem.F.type_dict_get (br (ho pins s σ H _ I h) fun u s1 hq__ => ?_)
 obtain ⟨x, H1, I1, rx, a, ex, d, q1⟩ := hq__
 subst ex
 obtain rfl : u = Value.ref a := rx
 obtain ⟨t1, t2, _⟩ := yB I1 d
 refine ⟨t1, t2, ?_⟩
 rw [m.trees]
 refine Calls.callWith_builtin rfl (Calls.evalArgs_plain (Calls.spliced_cons (br (he pins s1 σ H1 _ I1 q1) fun iv s2 ⟨y, H2, I2, ry, q2⟩ =>
  Calls.spliced_cons (br (hf pins s2 σ H2 _ I2 q2) fun fv s3 ⟨z, H3, I3, rz, ov, g, q3⟩ => Calls.spliced_nil ?_))))
 exact yC hu I3 g ry rz fun w' s4 I4 rw' => ⟨_, H3, I4, rw', q3⟩
end
section
variable {X : Cx} {pins : List (Addr × Obj)} {σ : St} {H : Hp} {s : Shared} {a : Addr} {kvs : List (bq × V)} {A : Around} {E : Value -> Shared -> Prop}
end
section
variable {X : Cx} {pins : List (Addr × Obj)} {σ : St} {H : Hp} {s : Shared} {a : Addr} {y : V} {u : Value} {A : Around} {E : Value -> Shared -> Prop}
end
end L2
namespace Att
open PySem PySem.W PySem.Calls PyProof.Rows
theorem ji {P : Params} {h : Heap} : ∀ (ns : List Int) (vs : List Value), WellAll P h vs (ns.map WData.int) -> IntsAre vs ns := by
 intro ns
 induction ns with
 | nil =>
  intro vs w
  rw [DT] at w
  cases w
  exact .nil
 | cons n ns ih =>
  intro vs w
  rw [Ce] at w
  cases w with
  | cons a b =>
   cases a
   exact .cons _ _ (ih _ b)
theorem r9 {l : OpenLaw} {n : Nat} (hn : l.most = some n) {P : Params} {h : Heap} {args : List WData} {vals : List Value}
  (hpre : l.row.toRowW.claim.pre args = true) (hwl : WellAll P h vals args) :
  ∃ a vs ns, vals = [Value.ref a] /\ args = [WData.list (ns.map WData.int)] /\ h.get? a = some { cls := .type "list", data := .seq vs.toArray } /\ IntsAre vs ns /\ ns.length <= n := by
 have hsh : WShape.hasAll [] args [.list .int] = true := (pre_splitW hpre).1
 have hc : l.pre.holds [] { args := args } = true := (pre_splitW hpre).2
 obtain ⟨d, r, rfl, h1, h2⟩ := hasAllW_cons hsh
 obtain rfl := hasAllW_nil h2
 obtain ⟨xs, rfl, h3⟩ := hasW_list h1
 obtain ⟨ns, rfl⟩ := items_int h3
 have hlen : ns.length <= n := by
  unfold OpenLaw.pre at hc
  have h4 : (WTm.not (.lt (.lit (.int (n : Int))) (.len (.arg 0)))).holds [] { args := [.list (ns.map .int)] } = true := by
   have h4 := (holds_andW hc).1
   rw [hn] at h4
   exact h4
  have h5 := condW_of h4 (w_not (w_lt w_lit (w_len_list (w_arg rfl))))
  rw [B4] at h5
  refine C8 fun q => ?_
  have q' : (n : Int) < ((ns.length : Nat) : Int) := by omega
  first
   | (rw [decide_eq_true q'] at h5; exact absurd h5 (by decide))
   | (simp at h5; omega)
 cases hwl with
 | cons w1 w2 =>
  cases w2
  cases w1 with
  | list ho hall => exact ⟨_, _, ns, rfl, rfl, ho, ji ns _ hall, hlen⟩
theorem sd (l : OpenLaw) (args : List WData) : l.row.toRowW.claim.post args (.bool true) args = true :=
 postW_of (r := l.row.toRowW) (X := (true == true))
  (show WShape.has [] (.bool true) .bool = true by first | rfl | decide | simp [WShape.has, WShape.arms, WShape.armsAll])
  (show (WTm.eq .res (.lit (.bool true))).value [] { args := args, res := some (.bool true), after := args } = some (.bool (true == true)) from w_eq_bool (w_res rfl) w_lit) rfl
theorem n5 {l : OpenLaw} {n : Nat} {q : Program} {loose : List Str} {XP : (Str -> Option Value) -> Heap -> Prop} {YP : World -> Heap -> Prop} {d : DefRec}
  (hn : l.most = some n) (hdf : d.params.defaults = [])
  (call : ∀ (w : World) (s₀ s₁ : Shared) (mg mb : Str -> Option Value) (fa : Addr) (o : Obj) (pm cd doc : Value) (a : Addr) (vs : List Value) (ns : List Int),
   Ground q loose [] XP w s₀ mg mb s₁.heap -> YP w s₁.heap ->
   s₁.heap.get? fa = some o -> o.data = .func (docDef d.name d.params d.body d.scope pm cd doc) -> s₁.heap.CodeRec cd d.name -> mg d.name = some (.ref fa) ->
   s₁.heap.get? a = some { cls := .type "list", data := .seq vs.toArray } -> IntsAre vs ns -> ns.length <= n -> s₁.gens = #[] ->
   codeAny (model l.prog w) callerA (.call (.ref fa) ⟨[.ref a], []⟩) (fun r s' => r = .ok (.ret (.bool true)) /\ OldK s₁.heap s'.heap /\ s'.os = s₁.os /\ AllBare s'.gens) s₁) :
  WalkO q loose XP YP l.row.toRowW d [] (fun f vs => PySem.call f vs) := by
 intro w s₀ s₁ mg mb G Y fa o pm cd doc dV kV ho hd hcd hD hmg hg args vals as hpre hlay hrd hwl hlo
 obtain rfl : dV = .none := Dflts.none hD hdf
 obtain rfl : kV = .none := Dflts.noKw hD
 obtain ⟨a, vs, ns, rfl, rfl, hobj, hints, hlen⟩ := r9 hn hpre hwl
 refine enter_call (codeAny_mono (call w s₀ s₁ mg mb fa o pm cd doc a vs ns G Y ho (fd_plain hd) hcd hmg hobj hints hlen hg) fun r s' hq => ?_)
 obtain ⟨rfl, h2, h3, h4⟩ := hq
 exact ⟨.inl ⟨.bool true, .bool true, [], rfl, fun _ => rfl, .bool true, sd l _, fun _ => ⟨List.Pairwise.nil, fun _ hm => (nomatch hm)⟩⟩, h2, h3, h4⟩
section
variable {prog : Program} {w : World} {A : Around} {E : Value -> Shared -> Prop} {s : Shared} {K : Frag}
end
end Att
namespace L2
open PySem PySem.Spec PyProof.Rows
theorem iy : ∀ {vs : List Value} {ns : List Int}, IntsAre vs ns -> Vals (ns.map V.int) vs := by
 intro vs ns h
 induction h with
 | nil => exact .nil
 | cons n t h ih => exact .cons ⟨t, rfl⟩ ih
def yE (H : Hp) : Prop := ∀ b, H b = none \/ ∃ o xs, H b = some (.frz o (.lst xs))
theorem uo {P : Program} {w : World} {K : PySem.W.Frag} {mg mb : Str -> Option Value} {CX : tX} {k : Nat} {fa a : Addr} {fd : FuncData} {x : Str} {sp : Sp} {s₁ : Shared} {vs : List Value} {ns : List Int}
  (KX : K.In s₁.heap) (hns : s₁.heap.Ns mainGlobals mg) (hb : s₁.heap.Ns builtinsNs mb) (hbb : ∀ x : Str, x ≠ "__name__" -> mb x = bootBuiltins x) (hlim : s₁.heap.NoLimit) (hg : s₁.gens = #[])
  (ha : s₁.heap.get? a = some { cls := .type "list", data := .seq vs.toArray }) (hi : IntsAre vs ns) (hl : ns.length <= sizeLine) (hr : Room k callerA)
  (F : ∀ base : Heap, K.In base -> base.Ns mainGlobals mg -> FnOk P w K mg base CX k fa fd [x] sp) (hbind : ∀ (s : Shared) (u : Value), BindsTo s fd ⟨[u], []⟩ [(x, u)])
  (hsp : ∀ H : Hp, yE H -> SqL K H a (ns.map V.int) -> sp [.ref a] H (fun v _ => v = .bl true) fun _ _ _ => False)
  (hCX : ∀ H e s', CX [] H s₁ (fun _ _ _ => False) e s' -> False) :
  codeAny (model P w) callerA (.call (.ref fa) ⟨[.ref a], []⟩) (fun r s' => r = .ok (.ret (.bool true)) /\ OldK s₁.heap s'.heap /\ s'.os = s₁.os /\ AllBare s'.gens) s₁ := by
 have rv := iy hi
 have lenV := hi.length
 have core : ∀ H : Hp, yE H -> SqL K H a (ns.map V.int) -> HOk P w H s₁.heap -> (∀ b, H b ≠ none -> b = a) -> (H a ≠ none -> K.lookup a = none) ->
   codeAny (model P w) callerA (.call (.ref fa) ⟨[.ref a], []⟩) (fun r s' => r = .ok (.ret (.bool true)) /\ OldK s₁.heap s'.heap /\ s'.os = s₁.os /\ AllBare s'.gens) s₁ := by
  intro H hO hS hok hA hK
  have base_of : ∀ {b : Addr} {o : Obj}, s₁.heap.get? b = some o -> H b = none -> (mf s₁.heap H).get? b = some o := fun e n => t6 e n
  have noA : ∀ {b : Addr} {o : Obj} {es : Array DictEntry} {ep : Nat}, s₁.heap.get? b = some o -> o.data = .dict es ep -> H b = none := fun {b o es ep} e d => by
   cases q : H b with
   | none => rfl
   | some u =>
    have e' : b = a := hA b (by rw [q]; simp)
    subst e'
    rw [ha] at e; cases e
    have d' : Data.seq vs.toArray _ = Data.dict es ep := d
    cases d'
  have nsK : ∀ {b : Addr} {m : Str -> Option Value}, s₁.heap.Ns b m -> (mf s₁.heap H).Ns b m := fun {b m} ⟨o, es, ep, e, d, r⟩ => ⟨o, es, ep, base_of e (noA e d), d, r⟩
  have hKb : K.In (mf s₁.heap H) := fun b o e => base_of (KX b o e) (by
   cases q : H b with
   | none => rfl
   | some u =>
    have e' : b = a := hA b (by rw [q]; simp)
    subst e'
    rw [hK (by rw [q]; simp)] at e; cases e)
  have hM : Mod K mg (mf s₁.heap H) := ⟨hKb, nsK hns, ⟨mb, nsK hb, hbb⟩, let ⟨mc, h1, h2⟩ := hlim; ⟨mc, nsK h1, h2⟩⟩
  have e0 : Env0 P w K mg (mf s₁.heap H) callerA [] s₁ H := ⟨rfl, hM, fun b o e => vW e, Nat.le_of_eq (rM _ _), trivial, fun b hb => absurd (show b ∈ ([] : List Addr) from hb) (by simp), hok, .of_eq hg⟩
  refine codeAny_mono ((F _ hKb (nsK hns)).run callerA [] s₁ H ⟨[.ref a], []⟩ [.ref a] [.ref a] _ _ hr e0 (hbind s₁ (.ref a)) (.cons rfl .nil) (hsp H hO hS)) fun r s' h => ?_
  cases r with
  | error e => exact (hCX H e s' h).elim
  | ok fl =>
   cases fl with
   | next => exact False.elim h
   | brk => exact False.elim h
   | cont => exact False.elim h
   | ret u =>
    obtain ⟨v, H', os, bare, un, hok', r', q⟩ := h
    have q' : v = .bl true := q
    subst q'
    obtain rfl : u = Value.bool true := r'
    refine ⟨rfl, OldK.of_keep fun b o e => ?_, os, bare⟩
    cases q : H b with
    | none => exact un.keep b o e q (by intro z; exact absurd (show b ∈ ([] : List Addr) from z) (by simp)) (by simp)
    | some u =>
     rcases hO b with z | ⟨ob, xs, z⟩
     ·rw [q] at z; cases z
     ·have z2 := un.frzs b ob _ z
      obtain ⟨e1, _⟩ := hok b _ z
      obtain ⟨e2, _⟩ := hok' b _ z2
      rw [e] at e1; cases e1
      exact e2
 cases hk : K.lookup a with
 | some o =>
  have e := KX a o hk
  rw [ha] at e
  cases e
  refine core (fun _ => none) (fun _ => .inl rfl) (.inr ⟨_, vs.toArray, _, hk, rfl, rfl, rfl, by rw [Ci, lenV]; exact hl, by simpa using rv⟩) (fun b u z => by have z' : (none : Option HO) = some u := z; cases z') (fun b z => absurd rfl z) fun z => absurd rfl z
 | none =>
  refine core (fun b => if b = a then some (.frz { cls := .type "list", data := .seq vs.toArray } (.lst (ns.map V.int))) else none) (fun b => ?_) (.inl (.inr ⟨{ cls := .type "list", data := .seq vs.toArray }, if_pos rfl⟩)) (fun b u z => ?_) (fun b z => ?_) fun _ => hk
  ·by_cases hb : b = a
   ·exact .inr ⟨_, _, if_pos hb⟩
   ·exact .inl (if_neg hb)
  ·by_cases hb : b = a
   ·have z' := (if_pos hb).symm.trans z
    cases z'
    subst hb
    exact ⟨ha, by rw [B4]; exact hl, vs, _, rv, ha⟩
   ·have z' := (if_neg hb).symm.trans z
    cases z'
  ·by_cases hb : b = a
   ·exact hb
   ·exact absurd (if_neg hb) z
abbrev B2 {K : PySem.W.Frag} {h : Heap} (_ : K.In h) : PySem.W.Frag := K
theorem wB {l : PySem.W.OpenLaw} {n k : Nat} {q : Program} {loose : List Str} {XP : (Str -> Option Value) -> Heap -> Prop} {YP : World -> Heap -> Prop} {d : DefRec} {K : Params -> PySem.W.Frag} {CX : World -> tX} {sp : World -> Sp} {x : Str}
  (hn : l.most = some n) (hn2 : n <= sizeLine) (hdf : d.params.defaults = []) (hr : Room k callerA)
  (hY : ∀ (w : World) (h : Heap), YP w h -> (K w.params).In h)
  (F : ∀ (w : World) (mg : Str -> Option Value) (fa : Addr) (h : Heap), (K w.params).In h -> h.Ns mainGlobals mg -> mg d.name = some (.ref fa) ->
   ∃ fd : FuncData, (∀ (s : Shared) (u : Value), BindsTo s fd ⟨[u], []⟩ [(x, u)]) /\
    ∀ base : Heap, (K w.params).In base -> base.Ns mainGlobals mg -> FnOk l.prog w (K w.params) mg base (CX w) k fa fd [x] (sp w))
  (hsp : ∀ (w : World) (H : Hp) (a : Addr) (ns : List Int), ns.length <= n -> yE H -> SqL (K w.params) H a (ns.map V.int) -> sp w [.ref a] H (fun v _ => v = .bl true) fun _ _ _ => False)
  (hCX : ∀ (w : World) (H : Hp) (s : Shared) (e : Value) (s' : Shared), CX w [] H s (fun _ _ _ => False) e s' -> False) :
  PySem.W.WalkO q loose XP YP l.row.toRowW d [] (fun f vs => PySem.call f vs) := by
 refine Att.n5 hn hdf fun w s₀ s₁ mg mb fa o pm cd doc a vs ns G Y ho hd hcd hmg hobj hints hlen hg => ?_
 have KX := hY w _ Y
 obtain ⟨fd, hb, hF⟩ := F w mg fa _ KX G.T.g hmg
 exact uo KX G.T.g G.T.b G.T.builtins G.T.nolimit hg hobj hints (CJ hlen hn2) hr hF hb (fun H hO hS => hsp w H a ns hlen hO hS) fun H e s' => hCX w H s₁ e s'
def eG (s : Stmt) : Arguments := match s with
 | .FunctionDef _ a _ _ _ _ _ _ _ _ => a
 | _ => { posonlyargs := [], args := [], vararg := none, kwonlyargs := [], kw_defaults := [], kwarg := none, defaults := [] }
def dG (s : Stmt) : List Stmt := match s with
 | .FunctionDef _ _ b _ _ _ _ _ _ _ => b
 | _ => []
def ar (s : Stmt) : Scope := match s with
 | .FunctionDef _ _ _ _ _ _ sc _ _ _ => sc
 | _ => { kind := .function, names := [], isGenerator := false, isCoroutine := false }
abbrev a9 : tX := fun _ _ _ _ _ _ => False
abbrev E0 : XK := fun _ _ _ => False
theorem zT {X : Cx} : pD a9 X E0 := fun _ _ _ _ _ _ _ h => h.elim
structure Fun (K : PySem.W.Frag) (x qual : Str) (st : Stmt) (f : Addr) (fd : FuncData) : Prop where
 ex : ∃ (oc : Value) (od : Option Addr) (kV doc pm : Value) (an : Option Addr) (cdv ct : Value) (osl : Array (Option Value)),
  fd = PySem.W.fnOf x qual (eG st) (dG st) (ar st) .none kV doc pm an cdv ct /\ K.lookup f = some ⟨oc, od, .func fd, osl⟩ /\ PySem.W.codeIn K cdv qual = true
 kp : PySem.W.keepIn K (.ref f) = true
section
variable {P : Program} {w : World} {K : PySem.W.Frag} {mg : Str -> Option Value} {base : Heap}
theorem Fun.ok {x qual : Str} {st : Stmt} {f : Addr} {fd : FuncData} {N ps : List Str} {k : Nat} {sp : Sp} (F : Fun K x qual st f fd) (S : FnScope N ps (ar st)) (len : ∀ vs H Q E, sp vs H Q E -> vs.length = ps.length)
  (hbody : ∀ (cdv : Value) (A : Around) (outer : List Env) (s : Shared) (H : Hp) (vs : List V) (Q : VK) (E : XK), Room k (A.deeper (envOfC qual (ar st) s.heap.objs.size f cdv)) -> sp vs H Q E ->
   ∃ t, PSs (nT a9 P w K mg base N qual (ar st) f cdv A outer s H E).nox (dG st) t /\ t { nx := fun _ H' => Q .non H', rt := Q } (iT N vs) H) : FnOk P w K mg base a9 (k + 1) f fd ps sp := by
 obtain ⟨oc, od, kV, doc, pm, an, cdv, ct, osl, rfl, lk, hcd⟩ := F.ex
 refine zH lk hcd S len fun A outer s H vs Q E hr hsp => ?_
 obtain ⟨t, h, q⟩ := hbody cdv A outer s H vs Q E hr hsp
 exact ⟨t, h.nox, q⟩
theorem Fun.binds {x qual : Str} {st : Stmt} {f : Addr} {fd : FuncData} {ps : List Str} (F : Fun K x qual st f fd)
  (h : ∀ (kV doc pm : Value) (an : Option Addr) (cdv ct : Value) (us : List Value), us.length = ps.length -> bindArgs (PySem.W.fnOf x qual (eG st) (dG st) (ar st) .none kV doc pm an cdv ct) ⟨us, []⟩ = pure (ps.zip us)) : Binds K fd ps [] := by
 obtain ⟨oc, od, kV, doc, pm, an, cdv, ct, osl, rfl, lk, hcd⟩ := F.ex
 exact .all (h kV doc pm an cdv ct)
theorem yF {x qual : Str} {st : Stmt} {f : Addr} {oc : Value} {od an : Option Addr} {osl : Array (Option Value)} {kV doc pm cdv ct : Value} (l : K.lookup f = some ⟨oc, od, .func (PySem.W.fnOf x qual (eG st) (dG st) (ar st) .none kV doc pm an cdv ct), osl⟩)
 (c : PySem.W.codeIn K cdv qual = true) (k : PySem.W.keepIn K (.ref f) = true) : Fun K x qual st f (PySem.W.fnOf x qual (eG st) (dG st) (ar st) .none kV doc pm an cdv ct) := ⟨⟨oc, od, kV, doc, pm, an, cdv, ct, osl, rfl, l, c⟩, k⟩
end
theorem aW {A : Around} {k : Nat} (hr : Room k A) : A.units + 1 < cLine := Ec (Er (by decide : 1 <= 64) _) hr.units
theorem lH {n : Nat} (h : n <= 1000) : n < sizeLine := Ec h (by decide)
section
variable {X : Cx}
theorem pv (i : Nat) {x : Str} {pos : Pos} (hN : X.N[i]? = some x := by rfl) (hv : Au X.env.scope x := by first | exact Or.inl rfl | exact Or.inr (Or.inl rfl) | exact Or.inr (Or.inr rfl)) (hd : (x == ("__debug__" : Str)) = false := by decide)
 (hcd : (x == ("__classdict__" : Str)) = false := by decide) : PE X (.Name x pos) (zl i) := yd hN hv hd hcd
end
theorem bw {A B : Prop} (h : B) : if false = true then A else B := by
 rw [if_neg Cj]
 exact h
theorem bX {A B : Prop} (h : A) : if true = true then A else B := by
 rw [if_pos rfl]
 exact h
def Same (H H' : Hp) : Prop := ∀ b o, H b = some o -> H' b = some o
theorem Same.refl (H : Hp) : Same H H := fun _ _ h => h
theorem Same.trans {H H1 H2 : Hp} (a : Same H H1) (b : Same H1 H2) : Same H H2 := fun c o h => b c o (a c o h)
theorem Same.free {H H' : Hp} (e : Same H H') {l : Addr} (h : H' l = Option.none) : H l = Option.none := by
 cases q : H l with
 | none => rfl
 | some o =>
  rw [e l o q] at h
  cases h
theorem Same.seq {K : PySem.W.Frag} {H H' : Hp} {a : Addr} {xs : List V} (e : Same H H') (h : SqL K H a xs) : SqL K H' a xs := by
 rcases h with (h | ⟨o, h⟩) | h
 ·exact .inl (.inl (e _ _ h))
 ·exact .inl (.inr ⟨o, e _ _ h⟩)
 ·exact .inr h
section
variable {κ : Type} [DecidableEq κ]
theorem ur {kvs : List (κ × V)} {k : κ} (h : bf kvs k = none) : ¬ k ∈ kvs.map (·.1) := by
 intro m
 obtain ⟨p, hp, e⟩ := Cb.mp m
 have q : (kvs.any fun kv => decide (kv.1 = k)) = true := Ei.mpr ⟨p, hp, decide_eq_true e⟩
 rw [b7, h] at q
 exact absurd q (by simp)
theorem eI {l : List κ} {k : κ} (h : l.Nodup) (n : ¬ k ∈ l) : (l ++ [k]).Nodup := DE.mpr ⟨h, Dy _ _, fun a ha b hb e => n (by rw [<- Cg.mp hb, <- e]; exact ha)⟩
theorem wC {kvs : List (κ × V)} {k : κ} (v : V) (hn : (kvs.map (·.1)).Nodup) (h : bf kvs k = none) : ((bU kvs k v).map (·.1)).Nodup := by
 rw [uj v h, Cf]
 exact eI hn (ur h)
end
structure BA where
 cl : List (Str × Addr)
 C : Addr
 s₀ : Shared
 H₀ : Hp
 ex : List Addr
abbrev kP (X : Cx) (sc : Scope) (N : List Str) (b : BA) : Cx :=
 { prog := X.prog, w := X.w, K := X.K, mg := X.mg, base := X.base, A := X.A, N := N, s₀ := b.s₀, H₀ := b.H₀, env := compEnvC sc b.cl b.C X.env, outer := X.stack, stack := X.stack, ex := b.ex, fn := fun _ => false, calm := X.calm, pn := [], xe := fun _ _ => False }
def bP (env : Env) : List (Str × Addr) -> List (Str × NameKind) -> List (Str × Addr)
 | acc, [] => acc
 | acc, (n, k) :: r => bP env (if k == .free then (match env.cells.lookup n with | some c => (n, c) :: acc | none => acc) else acc) r
theorem uu (env : Env) : ∀ (l : List (Str × NameKind)) (acc : List (Str × Addr)), (∀ y ∈ l, y.2 = .free -> ∃ c, env.cells.lookup y.1 = some c) ->
  (forIn l acc (fun (x : Str × NameKind) (cs : List (Str × Addr)) => (match x with
   | (name, kind) => if (kind == .free) = true then (do let a <- cellOf env name; pure (ForInStep.yield ((name, a) :: cs))) else pure (ForInStep.yield cs) : Sem (ForInStep (List (Str × Addr)))))) = (pure (bP env acc l) : Sem (List (Str × Addr))) := by
 intro l
 induction l with
 | nil => intro acc _; rfl
 | cons nk r ih =>
  obtain ⟨n, k⟩ := nk
  intro acc h
  have hr : ∀ y ∈ r, y.2 = .free -> ∃ c, env.cells.lookup y.1 = some c := fun y hy => h y (Ct _ hy)
  rw [List.forIn_cons]
  by_cases hk : k = .free
  ·subst hk
   obtain ⟨c, hc⟩ := h (n, .free) CK rfl
   have hc' : env.cells.lookup n = some c := hc
   simp only [beq_self_eq_true, if_true, bP, hc']
   have e : cellOf env n = pure c := by unfold cellOf; rw [hc']
   rw [e, pure_bind, pure_bind]
   exact ih _ hr
  ·have hb : (k == NameKind.free) = false := by simpa using hk
   simp only [hb, C7, if_false, bP]
   rw [pure_bind]
   exact ih _ hr
theorem wD {env : Env} {sc : Scope} (h : ∀ y ∈ sc.names, y.2 = .free -> ∃ c, env.cells.lookup y.1 = some c) : closureFor sc env = pure (bP env [] sc.names) := by
 unfold closureFor
 exact (congrArg (fun m => m >>= fun cs => pure cs) (uu env sc.names [] h)).trans (pure_bind _ _)
theorem cM {env : Env} : ∀ (l : List (Str × NameKind)) (acc : List (Str × Addr)), (∀ x c, acc.lookup x = some c -> env.cells.lookup x = some c) ->
  ∀ x c, (bP env acc l).lookup x = some c -> env.cells.lookup x = some c := by
 intro l
 induction l with
 | nil => intro acc h x c e; exact h x c e
 | cons nk r ih =>
  obtain ⟨n, k⟩ := nk
  intro acc h x c e
  refine ih _ (fun y d q => ?_) x c e
  by_cases hk : (k == NameKind.free) = true
  ·rw [if_pos hk] at q
   cases hl : env.cells.lookup n with
   | none => rw [hl] at q; exact h y d q
   | some a =>
    rw [hl] at q
    simp only [CV] at q
    by_cases hy : (y == n) = true
    ·rw [hy] at q
     have e1 : y = n := by simpa using hy
     subst e1
     cases q
     exact hl
    ·rw [Ds] at hy
     rw [hy] at q
     exact h y d q
  ·rw [if_neg hk] at q
   exact h y d q
theorem lI {env : Env} : ∀ (l : List (Str × NameKind)) (acc : List (Str × Addr)) (x : Str), (acc.lookup x).isSome = true -> ((bP env acc l).lookup x).isSome = true
 | [], acc, x, h => h
 | (n, k) :: r, acc, x, h => by
  refine lI r _ x ?_
  by_cases hk : (k == NameKind.free) = true
  ·rw [if_pos hk]
   cases env.cells.lookup n with
   | none => exact h
   | some a =>
    show (List.lookup x ((n, a) :: acc)).isSome = true
    rw [CV]
    by_cases hy : (x == n) = true
    ·rw [hy]; rfl
    ·rw [Ds] at hy
     rw [hy]; exact h
  ·rw [if_neg hk]; exact h
theorem lJ {env : Env} (l : List (Str × NameKind)) (acc : List (Str × Addr)) (x : Str) (h : (x, NameKind.free) ∈ l) (q : ∃ c, env.cells.lookup x = some c) : ((bP env acc l).lookup x).isSome = true := by
 obtain ⟨c, hc⟩ := q
 induction l generalizing acc with
 | nil => cases h
 | cons p r ih =>
  rcases Cm.mp h with e | h
  ·subst e
   refine lI r _ x ?_
   rw [if_pos (beq_self_eq_true _), hc]
   show (List.lookup x ((x, c) :: acc)).isSome = true
   rw [CV, beq_self_eq_true]; rfl
  ·exact ih _ h
theorem jP {env : Env} : ∀ (l : List (Str × NameKind)) (x : Str) (k : NameKind), (∀ y ∈ l, y.2 ≠ .cell) -> k = .cell \/ k = .free ->
  (l.map fun (n, k) => if (k == NameKind.free && env.scope.kind == .function && env.kindOf n == some .cell) then (n, NameKind.cell) else (n, k)).lookup x = some k -> (x, NameKind.free) ∈ l := by
 intro l
 induction l with
 | nil => intro _ _ _ _ h; simp at h
 | cons nk r ih =>
  obtain ⟨n, k'⟩ := nk
  intro x k hc hk h
  rw [Ce] at h
  by_cases hx : (x == n) = true
  ·have e1 : x = n := by simpa using hx
   subst e1
   by_cases hf : k' = .free
   ·subst hf; exact CK
   ·exfalso
    have hb : (k' == NameKind.free) = false := by simpa using hf
    simp only [hb, EB, C7, if_false, CV, beq_self_eq_true] at h
    have e2 : k' = k := Option.some.inj h
    rcases hk with z | z
    ·exact hc (x, k') CK (e2.trans z)
    ·exact hf (e2.trans z)
  ·rw [Ds] at hx
   refine Ct _ (ih x k (fun y hy => hc y (Ct _ hy)) hk ?_)
   by_cases hq : (k' == NameKind.free && env.scope.kind == .function && env.kindOf n == some .cell) = true
   ·simp only [hq, if_true, CV, hx] at h; exact h
   ·rw [Ds] at hq
    simp only [hq, C7, if_false, CV, hx] at h; exact h
theorem kQ {env : Env} : ∀ (l : List (Str × NameKind)) (x : Str), l.lookup x = some .free ->
  ∃ k, (k = NameKind.cell \/ k = NameKind.free) /\ (l.map fun (n, k) => if (k == NameKind.free && env.scope.kind == .function && env.kindOf n == some .cell) then (n, NameKind.cell) else (n, k)).lookup x = some k := by
 intro l
 induction l with
 | nil => intro _ h; simp at h
 | cons nk r ih =>
  obtain ⟨n, k'⟩ := nk
  intro x h
  rw [Ce]
  by_cases hx : (x == n) = true
  ·simp only [CV, hx] at h
   have e2 : k' = .free := Option.some.inj h
   subst e2
   by_cases hq : (NameKind.free == NameKind.free && env.scope.kind == .function && env.kindOf n == some .cell) = true
   ·exact ⟨.cell, .inl rfl, by simp only [hq, if_true, CV, hx]⟩
   ·rw [Ds] at hq
    exact ⟨.free, .inr rfl, by simp only [hq, C7, if_false, CV, hx]⟩
  ·rw [Ds] at hx
   simp only [CV, hx] at h
   obtain ⟨k, hk, e⟩ := ih x h
   refine ⟨k, hk, ?_⟩
   by_cases hq : (k' == NameKind.free && env.scope.kind == .function && env.kindOf n == some .cell) = true
   ·simp only [hq, if_true, CV, hx]; exact e
   ·rw [Ds] at hq
    simp only [hq, C7, if_false, CV, hx]; exact e
theorem n6 {l : List (Str × NameKind)} {x : Str} {k : NameKind} : l.lookup x = some k -> (x, k) ∈ l := by
 induction l with
 | nil => intro h; simp at h
 | cons p r ih =>
  intro h
  obtain ⟨n, k'⟩ := p
  by_cases hx : (x == n) = true
  ·simp only [CV, hx] at h
   have e1 : x = n := by simpa using hx
   subst e1
   cases h
   exact CK
  ·rw [Ds] at hx
   simp only [CV, hx] at h
   exact Ct _ (ih h)
section
variable {prog : Program} {w : World} {A : Around} {E : Value -> Shared -> Prop} {R : Result -> Shared -> Prop} {s : Shared}
abbrev xP : Value -> Shared -> Prop := fun _ _ => False
theorem pL {elt target iter : Expr} {ifs : List Expr} {scope : Scope} {pos : Pos} {it acc : Value} {env : Env} (J : Nat -> Shared -> Prop)
  (turn : ∀ n s, J n s -> wpAny (model prog w) A (pyNext it) (fun r s₁ => (r = none /\ R (.ok .next) s₁) \/ ∃ v, r = some v /\
   wpAny (model prog w) A (letOwnedTupleGo target it v) (fun _ s₁' => wpAny (model prog w) A (assign target env v) (fun _ s₂ =>
    wpAny (model prog w) A (forIn ifs true fun c r => if r = true then do let ok <- isTrue c env (eval c env); pure (ForInStep.yield ok) else pure (ForInStep.yield r)) (fun ok s₃ =>
     (ok = true -> wpAny (model prog w) A (eval elt env) (fun x s₄ => wpAny (model prog w) A (call (.builtin "list.append") [acc, x]) (fun _ s₅ => ∃ m, m < n /\ J m s₅) xP s₄) xP s₃) /\
     (ok = false -> ∃ m, m < n /\ J m s₃)) xP s₂) xP s₁') xP s₁) xP s)
  (n : Nat) (h : J n s) : codeAny (model prog w) A (.compLoop (.ListComp elt [⟨target, iter, ifs, 0⟩] scope pos) 0 it acc env) R s := by
 refine codeAny_loop (M := model prog w) (A := A) rfl J (fun n s hJ => ?_) n h
 refine wpAny_noted (m := compTurn (.ListComp elt [⟨target, iter, ifs, 0⟩] scope pos) 0 it acc env) ?_
 rw [compTurn_list]
 refine wpAny_bind (wpAny_standAt (wpAny_bind (wpAny_mono (turn n s hJ) (fun r s₁ q => ?_) fun _ _ z => z.elim)))
 rcases q with ⟨e, q⟩ | ⟨v, e, q⟩
 ·subst e
  exact wpAny_pure q
 ·subst e
  refine wpAny_bind (wpAny_mono q (fun _ s₂ q => ?_) fun _ _ z => z.elim)
  refine wpAny_bind (wpAny_mono q (fun _ s₃ q => ?_) fun _ _ z => z.elim)
  refine wpAny_bind (wpAny_mono q (fun ok s₄ q => ?_) fun _ _ z => z.elim)
  cases ok with
  | false => exact wpAny_pure ⟨rfl, q.2 rfl⟩
  | true =>
   refine wpAny_bind (wpAny_bind (wpAny_mono (q.1 rfl) (fun x s₅ q => ?_) fun _ _ z => z.elim))
   exact wpAny_bind (wpAny_mono q (fun _ s₆ q => wpAny_pure (wpAny_pure ⟨rfl, q⟩)) fun _ _ z => z.elim)
end
def zg (X : Cx) (ifs : List Expr) (t : TT) : Prop :=
 ∀ (pins : List (Addr × Obj)) (s : Shared) (σ : St) (H : Hp) (Q : Bool -> Hp -> Prop), Inv X pins σ H s -> t σ H Q ->
  wpAny (model X.prog X.w) X.A (forIn ifs true fun c r => if r = true then do let ok <- isTrue c X.env (eval c X.env); pure (ForInStep.yield ok) else pure (ForInStep.yield r)) (TP X pins σ Q) X.xe s
def eJ : TT := fun _ H Q => Q true H
theorem bx {X : Cx} : zg X [] eJ := fun _ _ _ H _ I h => wpAny_tests_nil ⟨H, I, h⟩
theorem fP {X : Cx} {c : Expr} {t : TT} (h : PT X c t) : zg X [c] t := fun pins s σ H Q I hw => wpAny_tests_one (h pins s σ H Q I hw)
def bS (σ : St) (js : List (Option Nat)) : St := js.map fun j => j.bind fun i => (σ[i]?).join
def wF (σ σ' : St) : Prop := σ'.length = σ.length /\ ∀ (i : Nat) v, σ[i]? = some (some v) -> σ'[i]? = some (some v)
def b8 (J : It) (H1 : Hp) (js : List (Option Nat)) (g : TG) (tc : TT) (te : TE) (σ : St) (Q : VK) : Prop := ∀ acc, H1 acc = none ->
 ∃ W : Nat -> Nat -> List V -> Hp -> Prop, (∃ m, W 0 m [] (ay H1 acc (.lst []))) /\ ∀ i m ys H, W i m ys H ->
  (J.stop i H /\ Q (.ref acc) H) \/ (J.go i H /\ ∃ N : List V -> Hp -> Prop, (∀ ys' H', N ys' H' -> ∃ m', m' < m /\ W (i + 1) m' ys' H') /\
   ∀ x H', J.yld i H x H' -> g x (bS σ js) H' fun σ2 H2 => wF (bS σ js) σ2 /\ tc σ2 H2 fun b H3 =>
    (b = true -> te σ2 H3 fun y H4 => H4 acc = some (.lst ys) /\ ys.length < sizeLine /\ N (ys ++ [y]) (ay H4 acc (.lst (ys ++ [y])))) /\ (b = false -> N ys H3))
def uv (wi : TI) (js : List (Option Nat)) (g : TG) (tc : TT) (te : TE) : TE := fun σ H Q => wi σ H fun J H1 => b8 J H1 js g tc te σ Q
theorem Un.but {fs ex : List Addr} {H H1 : Hp} {h h1 h2 : Heap} (u : Un fs ex H H1 h h1) (k : ∀ b o, h.get? b = some o -> ∀ o', h1.get? b = some o' -> h2.get? b = some o') : Un fs ex H H1 h h2 where
 keep := fun b o e n h1 h2 => k b o e _ (u.keep b o e n h1 h2)
 slot := fun b o e n h1 h2 => let ⟨sl, q⟩ := u.slot b o e n h1 h2; ⟨sl, k b o e _ q⟩
 free := u.free
 there := fun b o e hx => let ⟨o', q⟩ := u.there b o e hx; ⟨o', k b o e _ q⟩
 tups := u.tups
 frzs := u.frzs
 tbls := u.tbls
theorem zh {P : Program} {w : World} {H : Hp} {h h' : Heap} {C : Addr} (ok : HOk P w H h) (hn : H C = none) (k : ∀ b o, b ≠ C -> h.get? b = some o -> h'.get? b = some o) : HOk P w H h' := fun b o e => by
 refine (ok b o e).stay (fun c u hc q => k c u ?_ q) (fun _ q => q) fun _ _ q => q
 rintro rfl
 rcases hc with z | z
 ·rw [z] at hn; rw [hn] at e; cases e
 ·rw [hn] at z; cases z
theorem cK {α β : Type} {F : α -> β -> Prop} : ∀ {l : List α} {r : List β} {i : Nat} {b : β}, Paired F l r -> r[i]? = some b -> ∃ a, l[i]? = some a /\ F a b := by
 intro l r i b h
 induction h generalizing i with
 | nil => intro e; simp at e
 | cons r t ih =>
  intro e
  cases i with
  | zero => cases e; exact ⟨_, rfl, r⟩
  | succ i => exact ih e
theorem yG {X : Cx} {pins : List (Addr × Obj)} {σ : St} {H : Hp} {s : Shared} {sc : Scope} {N : List Str} {fp : List Addr} (I : Inv X pins σ H s) (hk : sc.kind = .function)
  (hcell : ∀ y ∈ sc.names, y.2 ≠ .cell) (hcl : ∀ y ∈ sc.names, y.2 = .free -> ∃ c, X.env.cells.lookup y.1 = some c) (f : ∀ b ∈ fp, mj X pins H b) (fl : ∀ b ∈ fp, b < s.heap.objs.size) :
  (kP X sc N ⟨bP X.env [] sc.names, s.heap.objs.size, s, H, fp⟩).Ok where
 mod := I.ok.mod
 kind := hk
 glob := I.ok.glob
 blt := I.ok.blt
 above := Ca _
 inj := fun x y c e1 e2 => I.ok.inj x y c (cM _ [] (fun _ _ z => by simp at z) x c e1) (cM _ [] (fun _ _ z => by simp at z) y c e2)
 has := fun x hx => by
  have m : (x, NameKind.free) ∈ sc.names := by
   rcases hx with z | z
   ·exact jP (env := X.env) sc.names x _ hcell (.inl rfl) z
   ·exact jP (env := X.env) sc.names x _ hcell (.inr rfl) z
  exact Dc.mp (lJ sc.names [] x m (hcl _ m rfl))
 cab := fun _ _ z => by cases z
 hd := I.ok.hd
 frames := I.ok.frames
 stk := .inl rfl
 exf := fun b hb => ⟨Cp (fl b hb), fun x c e => (f b hb).2.2.2.2.1 x c (cM _ [] (fun _ _ z => by simp at z) x c e)⟩
 bs := I.bs
 bsz := CJ I.ok.bsz I.sz
 noex := fun b o e hb => by
  rcases (f b hb).2.2.2.1 with z | z
  ·exact I.ok.noex b o e z
  ·exact absurd (Cy (Heap.lt_size (I.ok.bs b o e).1) z) (Dw _)
 exfs := fun b hb hs => by
  rcases Cm.mp (I.stkSub b hs) with z | z
  ·exact (f b hb).2.1 z
  ·exact (f b hb).2.2.1 z
 funs := I.stack
 frf := I.stkFree
theorem wG {X : Cx} {pins : List (Addr × Obj)} {σ : St} {H : Hp} {s s4 : Shared} {sc : Scope} {N : List Str} {js : List (Option Nat)} {fp : List Addr} {m : Str -> Option Value} (I : Inv X pins σ H s)
  (ok : (kP X sc N ⟨bP X.env [] sc.names, s.heap.objs.size, s, H, fp⟩).Ok) (hfree : ∀ y ∈ sc.names, y.2 = .free -> X.env.kindOf y.1 = some .cell \/ X.env.kindOf y.1 = some .free)
  (hN : Paired (fun (j : Option Nat) n => ∀ i, j = some i -> X.N[i]? = some n /\ sc.names.lookup n = some .free) js N)
  (ho : s4.os = s.os) (hg : s4.gens = s.gens) (ns : s4.heap.Ns s.heap.objs.size m) (kp : ∀ b u, s.heap.get? b = some u -> s4.heap.get? b = some u) :
  Inv (kP X sc N ⟨bP X.env [] sc.names, s.heap.objs.size, s, H, fp⟩) [] (bS σ js) H s4 where
 ok := ok
 os := ho
 bare := by rw [hg]; exact I.bare
 base := Un.kept kp
 loc := by
  refine ⟨m, ns, fun i x v e1 e2 e3 => ?_⟩
  have e1' : N[i]? = some x := e1
  obtain ⟨j, ej, fj⟩ := cK hN e1'
  unfold bS at e2
  rw [B7, ej] at e2
  cases j with
  | none => cases e2
  | some k =>
   obtain ⟨a1, a2⟩ := fj k rfl
   have e2' : (σ[k]?).join = some v := Option.some.inj e2
   have e4 : σ[k]? = some (some v) := by
    cases z : σ[k]? with
    | none => rw [z] at e2'; cases e2'
    | some y => rw [z] at e2'; exact congrArg some e2'
   have mem := n6 a2
   have kn := hfree _ mem rfl
   have vis : Au X.env.scope x := .inr kn
   obtain ⟨m', hn', hl'⟩ := I.loc
   obtain ⟨u, ru, lk⟩ := hl' k x v a1 e4 vis
   refine ⟨u, ru, .inr ⟨?_, ?_⟩⟩
   ·obtain ⟨k', hk', e⟩ := kQ (env := X.env) sc.names x a2
    rcases hk' with z | z
    ·subst z; exact .inl e
    ·subst z; exact .inr e
   ·rcases lk with ⟨z, _⟩ | ⟨_, c, hc, hcl⟩
    ·rcases kn with q | q
     ·have q' : X.env.kindOf x = some .cell := q
      rw [z] at q'; cases q'
     ·have q' : X.env.kindOf x = some .free := q
      rw [z] at q'; cases q'
    ·obtain ⟨c', e'⟩ := Dc.mp (lJ (env := X.env) sc.names [] x mem ⟨c, hc⟩)
     have e2 := cM sc.names [] (fun _ _ z => by simp at z) x c' e'
     rw [hc] at e2
     cases e2
     obtain ⟨o, h1, h2⟩ := hcl
     exact ⟨c, e', o, kp c o h1, h2⟩
 cell := fun x c e => by
  obtain ⟨v, o, h1, h2⟩ := I.cell x c (cM _ [] (fun _ _ z => by simp at z) x c e)
  exact ⟨v, o, kp c o h1, h2⟩
 free := I.hok.fresh (Ca _)
 freeC := fun x c e => I.freeC x c (cM _ [] (fun _ _ z => by simp at z) x c e)
 pin := fun p hp => by cases hp
 hok := I.hok.kept kp
 len := by
  unfold bS
  rw [B4]
  exact Paired.length hN
set_option maxHeartbeats 4000000 in
theorem jQ {X : Cx} {cpos : Pos} {use : Option (Value -> Sem Unit)} {R : Value -> Shared -> Prop} {pins : List (Addr × Obj)} {s : Shared} {σ : St} {H : Hp} {Q : VK} {elt iter tg : Expr} {ifs : List Expr} {sc : Scope} {pos : Pos} {wi : TI} {g : TG} {tc : TT} {te : TE} (N : List Str) (js : List (Option Nat))
  (hcalm : X.calm = true) (hi : PI X tg iter wi) (hg : ∀ b, PG (kP X sc N b) tg g) (hc : ∀ b, zg (kP X sc N b) ifs tc) (he : ∀ b, PE (kP X sc N b) elt te)
  (hN : Paired (fun (j : Option Nat) n => ∀ i, j = some i -> X.N[i]? = some n /\ sc.names.lookup n = some .free) js N)
  (hk : sc.kind = .function)
  (hcell : (sc.names.all fun y => y.2 != .cell) = true)
  (hfree : (sc.names.all fun y => y.2 != .free || (X.env.scope.names.lookup y.1 == some .cell || X.env.scope.names.lookup y.1 == some .free)) = true)
  (hnames : (sc.names.all fun y => y.2 != .local || sc.names.lookup y.1 == some .local) = true)
  (hs : ∀ x, foldedSetIterable iter X.env x = pure x) (I : Inv X pins σ H s) (h : uv wi js g tc te σ H Q)
  (fin0 : ∀ (l C : Addr) (s' : Shared) (H' : Hp) (m : Str -> Option Value), Inv X pins σ H' s' -> s'.heap.Ns C m -> H' C = none -> X.env.locals ≠ C -> X.s₀.heap.objs.size <= C -> (∀ x c, X.env.cells.lookup x = some c -> c ≠ C) -> (∀ p ∈ X.pn ++ pins, p.1 ≠ C) -> Q (.ref l) H' -> compPost (model X.prog X.w) X.A X.xe use R (.ref l) C (.ok .next) s') :
  wpAny (model X.prog X.w) X.A (comprehension (.ListComp elt [⟨tg, iter, ifs, 0⟩] sc pos) sc X.env cpos (newList []) false (eval iter X.env) use) R X.xe s := by
 have hcell' : ∀ y ∈ sc.names, y.2 ≠ .cell := fun y hy => by simpa using C5.mp hcell y hy
 have hfree' : ∀ y ∈ sc.names, y.2 = .free -> X.env.kindOf y.1 = some .cell \/ X.env.kindOf y.1 = some .free := fun y hy e => by
  have q := C5.mp hfree y hy
  rw [e] at q
  have q' : X.env.scope.names.lookup y.1 = some .cell \/ X.env.scope.names.lookup y.1 = some .free := by simpa using q
  exact q'
 have hnames' : ∀ y ∈ sc.names, y.2 = .local -> sc.names.lookup y.1 = some .local := fun y hy e => by
  have q := C5.mp hnames y hy
  rw [e] at q
  simpa using q
 have hcl : ∀ y ∈ sc.names, y.2 = .free -> ∃ c, X.env.cells.lookup y.1 = some c := fun y hy e => I.ok.has y.1 (hfree' y hy e)
 refine wpAny_comprehension_free (use := use) (g := ⟨tg, iter, ifs, 0⟩) (gs := []) rfl hs (wD hcl) hk hnames' ?_
 refine br (hi pins s σ H _ I h) fun v s1 h1 => br h1 fun itv s2 h2 => ?_
 obtain ⟨it, fp, tn, J, H2, e, I2, T, st2, f2, q⟩ := h2
 subst e
 obtain ⟨W, ⟨m0, w0⟩, step⟩ := q _ I2.fresh
 refine wpAny_newObj_type (wpAny_newFunctionEnv hcell' (by intro y hy; simp at hy) (fun h₁ hns hsb => ?_) hk)
 dsimp only at hns hsb ⊢
 have I3 : Inv X pins σ (ay H2 s2.heap.objs.size (.lst [])) { s2 with heap := s2.heap.push { cls := .type "list", data := .seq ([] : List Value).toArray }, toks := s2.toks } := I2.lnew .nil (Cz _)
 generalize hs3 : ({ s2 with heap := s2.heap.push { cls := .type "list", data := .seq ([] : List Value).toArray }, toks := s2.toks } : Shared) = s3 at I3
 generalize hH3 : ay H2 s2.heap.objs.size (.lst []) = H3 at I3 w0
 have es3 : s3.heap = s2.heap.push { cls := .type "list", data := .seq ([] : List Value).toArray } := by rw [<- hs3]
 have hC : (s2.heap.push { cls := .type "list", data := .seq ([] : List Value).toArray }).objs.size = s3.heap.objs.size := by rw [es3]
 have f3 : ∀ b ∈ fp, mj X pins H3 b := fun b hb => ⟨by rw [<- hH3, aj (Cp (by obtain ⟨o, e, _⟩ := T.obj _ _ st2 b hb; exact Heap.lt_size e))]; exact (f2 b hb).1, (f2 b hb).2⟩
 have fl3 : ∀ b ∈ fp, b < s3.heap.objs.size := fun b hb => by
  obtain ⟨o, e, _⟩ := T.obj _ _ st2 b hb
  rw [es3, Heap.size_push]
  exact C3 (Heap.lt_size e)
 have ok := yG (N := N) (sc := sc) (fp := fp) I3 hk hcell' hcl f3 fl3
 have k23 : ∀ b u, s2.heap.get? b = some u -> s3.heap.get? b = some u := fun b u e => by rw [es3]; exact Heap.get?_push_of_some _ e
 have k34 : ∀ b u, s3.heap.get? b = some u -> h₁.get? b = some u := fun b u e => by
  rw [hC] at hsb
  refine (hsb.2 b (Cp (Heap.lt_size e))).trans (Heap.get?_push_of_some _ ?_)
  rw [<- es3]; exact e
 have I4 := wG (s4 := { s2 with heap := h₁, toks := s2.toks + ([] : List (Str × Value)).length }) (js := js) I3 ok hfree' hN (by rw [<- hs3]) (by rw [<- hs3]) (by rw [<- hC]; exact hns) k34
 have st4 : tn 0 h₁ := T.keep _ _ _ st2 fun b _ o e => k34 b o (k23 b o e)
 generalize hs4 : ({ s2 with heap := h₁, toks := s2.toks + ([] : List (Str × Value)).length } : Shared) = s4 at I4
 have eh4 : s4.heap = h₁ := by rw [<- hs4]
 rw [hC]
 generalize hB : (⟨bP X.env [] sc.names, s3.heap.objs.size, s3, H3, fp⟩ : BA) = B at ok I4
 have eC : B.C = s3.heap.objs.size := by rw [<- hB]
 have stat : ∀ {H' : Hp}, (∀ b ∈ fp, H' b = none) -> ∀ b ∈ fp, mj (kP X sc N B) [] H' b := fun hn b hb => by
  refine ⟨hn b hb, ?_, fun z => ?_, .inl (by rw [<- hB]; exact hb), fun x c e => (ok.exf b (by rw [<- hB]; exact hb)).2 x c e, fun p hp => by cases hp⟩
  ·exact (ok.exf b (by rw [<- hB]; exact hb)).1
  ·exact ok.exfs b (by rw [<- hB]; exact hb) z
 have fin : ∀ {s' : Shared} {H' : Hp} {σ' : St}, Inv (kP X sc N B) [] σ' H' s' -> Q (.ref s2.heap.objs.size) H' ->
   compPost (model X.prog X.w) X.A X.xe use R (.ref s2.heap.objs.size) s3.heap.objs.size (.ok .next) s' := fun {s' H' σ'} I' q' => by
  obtain ⟨m, hm, _⟩ := id I'.loc
  have hm' : s'.heap.Ns s3.heap.objs.size m := by rw [<- eC]; exact hm
  have u1 : Un (gg X.stack) fp H2 H3 s2.heap s3.heap := by rw [<- hH3]; exact Un.laid k23 (Ca _) I2.fresh
  have u2 : Un (gg X.stack) fp H3 H' s3.heap s'.heap := by
   have z := I'.base
   rw [<- hB] at z
   exact z
  have fr' : H' s3.heap.objs.size = none := by rw [<- eC]; exact I'.free
  have os' : s'.os = s2.os := by
   have z := I'.os
   rw [<- hB] at z
   rw [z, <- hs3]
  have Io : Inv X pins σ H' s' := I2.call' (s' := s') (ch := fp) os' (u1.trans u2) I'.hok I'.bare fun b hb => ⟨(f2 b hb).2.2.2.1, (f2 b hb).2.1, (f2 b hb).2.2.2.2.1, (f2 b hb).2.2.2.2.2⟩
  have ltC : s2.heap.objs.size < s3.heap.objs.size := by rw [es3, Heap.size_push]; exact Dt _
  have cC : ∀ x c, X.env.cells.lookup x = some c -> c ≠ s3.heap.objs.size := fun x c e z => by
   obtain ⟨v, q⟩ := I2.cell x c e
   exact absurd q.lt (by rw [z]; exact Ea.mpr (C4 ltC))
  exact fin0 _ _ s' H' m Io hm' fr' (Cp (Nat.lt_trans I2.lt ltC)) (CJ I2.sz (C4 ltC)) cC (fun p hp z => absurd (Heap.lt_size (I2.pin p hp).1) (by rw [z]; exact Ea.mpr (C4 ltC))) q'
 have loop : codeAny (model X.prog X.w) X.A (.compLoop (.ListComp elt [⟨tg, iter, ifs, 0⟩] sc pos) 0 (.ref it) (.ref s2.heap.objs.size) (kP X sc N B).env)
   (compPost (model X.prog X.w) X.A X.xe use R (.ref s2.heap.objs.size) s3.heap.objs.size) s4 := by
  refine pL (fun n s' => ∃ i ys σ' H', Inv (kP X sc N B) [] σ' H' s' /\ wF (bS σ js) σ' /\ tn i s'.heap /\ (∀ b ∈ fp, H' b = none) /\ W i n ys H') ?_ m0
   ⟨0, [], bS σ js, H3, I4, ⟨rfl, fun _ _ z => z⟩, by rw [eh4]; exact st4, fun b hb => (f3 b hb).1, w0⟩
  rintro n s5 ⟨i, ys, σ5, H5, I5', kp5, st5, fr5, w5⟩
  have I5 : Inv (kP X sc N B) [] (bS σ js) H5 s5 := I5'.weak kp5.1.symm kp5.2
  rcases step i n ys H5 w5 with ⟨stop, qn⟩ | ⟨go, N', hN', turn⟩
  ·refine br (T.done (kP X sc N B) rfl rfl rfl hcalm i [] s5 _ H5 xP I5 (stat fr5) st5 stop) fun r s6 ⟨hr, I6⟩ => .inl ⟨hr, fin I6 qn⟩
  ·refine br (T.item (kP X sc N B) rfl rfl rfl hcalm i [] s5 _ H5 xP I5 (stat fr5) st5 go) fun r s6 ⟨u, hr, h6⟩ => .inr ⟨u, hr, ?_⟩
   refine br h6 fun _ s7 hq__ => ?_
   obtain ⟨x, H7, I7, r7, y7, st7, fr7⟩ := hq__
   have I7' := I7.pinned (stat fr7) (T.obj _ _ st7)
   have back : ∀ {σ8 : St} {H8 : Hp} {s8 : Shared}, Inv (kP X sc N B) ([] ++ jH fp s7.heap) σ8 H8 s8 -> tn (i + 1) s8.heap /\ ∀ b ∈ fp, H8 b = none := fun {σ8 H8 s8} I8 => by
    refine ⟨T.keep _ _ _ st7 fun b hb o e => (I8.pin (b, o) (CF _ (CF _ (eE hb e)))).1, fun b hb => ?_⟩
    obtain ⟨o, e, d⟩ := T.obj _ _ st7 b hb
    exact (I8.pin (b, o) (CF _ (CF _ (eE hb e)))).2.1
   refine br (hg B _ s7 _ H7 x u _ I7' r7 (turn x H7 y7)) fun _ s8 hq__ => ?_
   obtain ⟨σ8, H8, I8, kp8, q8⟩ := hq__
   refine br (hc B _ s8 σ8 H8 _ I8 q8) fun ok s9 ⟨H9, I9, q9⟩ => ⟨fun e => ?_, fun e => ?_⟩
   ·refine br (he B _ s9 σ8 H9 _ I9 (q9.1 e)) fun yv s10 hq__ => ?_
    obtain ⟨y, H10, I10, r10, q10⟩ := hq__
    obtain ⟨e10, l10, n10⟩ := q10
    refine br (bF _ s10 σ8 H10 (.ref s2.heap.objs.size) [y] _ _ (fun _ H' => N' (ys ++ [y]) H') I10 rfl (.cons r10 .nil) ⟨_, ys, y, rfl, rfl, e10, l10, n10⟩) fun _ s11 hq__ => ?_
    obtain ⟨_, H11, I11, _, q11⟩ := hq__
    obtain ⟨m', hm, w11⟩ := hN' _ _ q11
    obtain ⟨st11, fr11⟩ := back I11
    exact ⟨m', hm, i + 1, ys ++ [y], σ8, H11, I11.unpinned, kp8, st11, fr11, w11⟩
   ·obtain ⟨m', hm, w11⟩ := hN' _ _ (q9.2 e)
    obtain ⟨st11, fr11⟩ := back I9
    exact ⟨m', hm, i + 1, ys, σ8, H9, I9.unpinned, kp8, st11, fr11, w11⟩
 have env_eq : (kP X sc N B).env = compEnvC sc (bP X.env [] sc.names) s3.heap.objs.size X.env := by rw [<- hB]
 rw [env_eq] at loop
 have st4' : tn 0 s4.heap := by rw [eh4]; exact st4
 exact codeAny_compStart_list loop (T.self X.A 0 _ _ _ st4' loop)
theorem a8 {X : Cx} {elt iter tg : Expr} {ifs : List Expr} {sc : Scope} {pos : Pos} {wi : TI} {g : TG} {tc : TT} {te : TE} (N : List Str) (js : List (Option Nat))
  (hcalm : X.calm = true) (hi : PI X tg iter wi) (hg : ∀ b, PG (kP X sc N b) tg g) (hc : ∀ b, zg (kP X sc N b) ifs tc) (he : ∀ b, PE (kP X sc N b) elt te)
  (hN : Paired (fun (j : Option Nat) n => ∀ i, j = some i -> X.N[i]? = some n /\ sc.names.lookup n = some .free) js N)
  (hk : sc.kind = .function := by rfl)
  (hcell : (sc.names.all fun y => y.2 != .cell) = true := by rfl)
  (hfree : (sc.names.all fun y => y.2 != .free || (X.env.scope.names.lookup y.1 == some .cell || X.env.scope.names.lookup y.1 == some .free)) = true := by rfl)
  (hnames : (sc.names.all fun y => y.2 != .local || sc.names.lookup y.1 == some .local) = true := by rfl)
  (hs : ∀ x, foldedSetIterable iter X.env x = pure x := by intro _; rfl) : PE X (.ListComp elt [⟨tg, iter, ifs, 0⟩] sc pos) (uv wi js g tc te) := by
 intro pins s σ H Q I h
 rw [eval_ListComp]
 exact jQ (use := none) N js hcalm hi hg hc he hN hk hcell hfree hnames hs I h fun l C s' H' m Io hm fr lC sz cC pC q' => ⟨m, hm, fun h' sb' => ⟨.ref l, H', Io.turned (t' := s'.toks) (it := C) (fun b o hb e => (sb'.2 b hb).trans e) fr lC.symm (.inr sz) cC pC, rfl, q'⟩⟩
theorem eK {X : Cx} {i₀ : Nat} {y₀ : Str} {py spos : Pos} {elt iter tg : Expr} {ifs : List Expr} {sc : Scope} {pos : Pos} {wi : TI} {g : TG} {tc : TT} {te : TE} (hN₀ : X.N.Nodup) (hi₀ : X.N[i₀]? = some y₀) (hx₀ : zk X.env.scope y₀) (N : List Str) (js : List (Option Nat))
  (hcalm : X.calm = true) (hi : PI X tg iter wi) (hg : ∀ b, PG (kP X sc N b) tg g) (hc : ∀ b, zg (kP X sc N b) ifs tc) (he : ∀ b, PE (kP X sc N b) elt te)
  (hN : Paired (fun (j : Option Nat) n => ∀ i, j = some i -> X.N[i]? = some n /\ sc.names.lookup n = some .free) js N)
  (hk : sc.kind = .function := by rfl)
  (hcell : (sc.names.all fun y => y.2 != .cell) = true := by rfl)
  (hfree : (sc.names.all fun y => y.2 != .free || (X.env.scope.names.lookup y.1 == some .cell || X.env.scope.names.lookup y.1 == some .free)) = true := by rfl)
  (hnames : (sc.names.all fun y => y.2 != .local || sc.names.lookup y.1 == some .local) = true := by rfl)
  (hs : ∀ x, foldedSetIterable iter X.env x = pure x := by intro _; rfl) (hsw : swapsWith (.ListComp elt [⟨tg, iter, ifs, 0⟩] sc pos) (some (.Name y₀ py)) spos.line X.env = pure true := by rfl)
  (hf₀ : X.fn y₀ = true \/ X.env.scope.names.lookup y₀ = some .local := by first | exact .inl rfl | exact .inr rfl | assumption) : PS X (.Assign [.Name y₀ py] (.ListComp elt [⟨tg, iter, ifs, 0⟩] sc pos) spos) (yi (uv wi js g tc te) (bN i₀)) := by
 intro pins s σ H D I h
 rw [exec_Assign_Name_used _ _ _ _ hsw]
 refine wpAny_bind (wpAny_standAt (wpAny_bind ?_))
 show wpAny _ X.A (do let _ <- comprehension (.ListComp elt [⟨tg, iter, ifs, 0⟩] sc pos) sc X.env _ (newList []) false (eval iter X.env) (some (assign (.Name y₀ py) X.env))) _ _ s
 refine wpAny_bind (wpAny_mono (jQ (use := some (assign (.Name y₀ py) X.env)) (R := fun _ s' => SP X pins D .next s') (Q := fun x H1 => D.nx (σ.set i₀ (some x)) H1) N js hcalm hi hg hc he hN hk hcell hfree hnames hs I h fun l C s' H' m Io hm fr lC sz cC pC q' => ?_) (fun _ s' hq => wpAny_pure (wpAny_pure hq)) fun _ _ e => e)
 show wpAny (model X.prog X.w) X.A (assign (.Name y₀ py) X.env (.ref l)) _ X.xe s'
 refine wpAny_assign_Name (lu Io hN₀ hi₀ hx₀ (v := .ref l) rfl (fun s'' I'' ⟨a, sb, ha⟩ => ?_) hf₀)
 have haC : C ≠ a := by
  rcases ha with z | z
  ·rw [z]; exact lC.symm
  ·exact (cC _ _ z).symm
 exact ⟨m, hm.sameBut sb haC, fun h' sb' => ⟨_, H', I''.turned (t' := s''.toks) (it := C) (fun b o hb e => (sb'.2 b hb).trans e) fr lC.symm (.inr sz) cC pC, q'⟩⟩
section
variable {X : Cx} {p : Pos}
theorem yH (h : X.mg "int" = none) (hg : Gl X "int" := by rfl) : PE X (.Name "int" p) (tC (.ty "int")) := jt hg h PyProof.Rows.boot_int rfl
theorem wH (h : X.mg "bool" = none) (hg : Gl X "bool" := by rfl) : PE X (.Name "bool" p) (tC (.ty "bool")) := jt hg h PyProof.Rows.boot_bool rfl
theorem mD (h : X.mg "list" = none) (hg : Gl X "list" := by rfl) : PE X (.Name "list" p) (tC (.ty "list")) := jt hg h PyProof.Rows.boot_list rfl
theorem n8 (h : X.mg "tuple" = none) (hg : Gl X "tuple" := by rfl) : PE X (.Name "tuple" p) (tC (.ty "tuple")) := jt hg h PyProof.Rows.boot_tuple rfl
theorem uw : cJ X (.builtin "isinstance") (fun xs H Q => ∃ x Y t b, xs = [x, .ty Y] /\ TyOf X.K H x t /\ PySem.W.kitOne X.K t (.type Y) = some b /\ Q (.bl b) H) := by
 intro pins s σ H xs us Q I r h
 obtain ⟨x, Y, t, b, e, ty, ko, q⟩ := h
 subst e
 obtain ⟨u, w', e, rx, ry⟩ := ud r
 subst e
 cases ry
 exact rS I rx ty ko fun tk => ⟨.bl b, H, I.tok _, rfl, q⟩
end
structure Def (K : PySem.W.Frag) (mg : Str -> Option Value) (x : Str) (st : Stmt) (ps : List Str) (f : Addr) (fd : FuncData) : Prop where
 fn : Fun K x x st f fd
 bd : Binds K fd ps []
 at' : mg x = some (.ref f)
section
variable {X : Cx} {k : Nat} {x : Str} {st : Stmt} {ps : List Str} {f : Addr} {fd : FuncData} {sp : Sp} {e : Expr} {es : List Expr} {t : TA} {p pos : Pos}
theorem pc (D : Def X.K X.mg x st ps f fd) (F : FnOk X.prog X.w X.K X.mg X.base a9 k f fd ps sp) (hr : Room k X.A) (ha : PA X (e :: es) t) (hg : Gl X x := by rfl) (hdb : (x == ("__debug__" : Str)) = false := by decide)
  (he : starEach (e :: es) X.env = (false, eval e X.env) :: starEach es X.env := by rfl) (hpl : (backTo pos (starEach es X.env)).any (·.1) = false := by rfl) : PE X (.Call (.Name x p) (e :: es) [] pos) (xM sp [] E0 t) :=
 wb F hr hg D.at' D.fn.kp D.bd .nil zT ha hdb he hpl
end
theorem Same.new {H : Hp} {a : Addr} {o : HO} (h : H a = none) : Same H (ay H a o) := fun b u e => by rw [aj (ak e h)]; exact e
theorem Same.put {H H' : Hp} {a : Addr} {o : HO} (s : Same H H') (h : H a = none) : Same H (ay H' a o) := fun b u e => by rw [aj (ak e h)]; exact s b u e
theorem Same.to {H H' : Hp} {a : Addr} {o : HO} (s : Same H H') (h : H' a = none) : Same H (ay H' a o) := s.trans (Same.new h)
inductive DEq (K : PySem.W.Frag) (H : Hp) : Nat -> V -> V -> Bool -> Prop
 | flat {d : Nat} {x y : V} (fx : cA x = true) (fy : cA y = true) : DEq K H d x y (mv x y)
 | lst {d : Nat} {a b : Addr} {xs ys : List V} {e : Nat -> Bool} (h1 : SqL K H a xs) (h2 : SqL K H b ys) (hl : xs.length = ys.length)
  (he : ∀ (j : Nat) x y, xs[j]? = some x -> ys[j]? = some y -> DEq K H d x y (e j)) : DEq K H (d + 1) (.ref a) (.ref b) ((B9 xs.length).all e)
 | len {d : Nat} {a b : Addr} {xs ys : List V} (h1 : SqL K H a xs) (h2 : SqL K H b ys) (hl : xs.length ≠ ys.length) : DEq K H (d + 1) (.ref a) (.ref b) false
 | tup {d : Nat} {a b : Addr} {xs ys : List V} {e : Nat -> Bool} (h1 : SqT K H a xs) (h2 : SqT K H b ys)
  (he : ∀ (j : Nat) x y, xs[j]? = some x -> ys[j]? = some y -> DEq K H d x y (e j)) : DEq K H (d + 1) (.ref a) (.ref b) ((B9 (min xs.length ys.length)).all e && xs.length == ys.length)
theorem jR : ∀ {x : V}, cA x = true -> mv x x = true
 | .non, _ => rfl
 | .bl b, _ => by cases b <;> rfl
 | .int i, _ => by simp [mv]
 | .str y, _ => by simp [mv]
theorem DEq.self {X : Cx} {pins : List (Addr × Obj)} {σ : St} {H : Hp} {s : Shared} (I : Inv X pins σ H s) {d : Nat} {x y : V} {b : Bool} (h : DEq X.K H d x y b) : x = y -> b = true := by
 induction h with
 | flat fx fy => intro e; subst e; exact jR fx
 | @lst d a b xs ys e h1 h2 hl he ih =>
  intro z
  cases z
  have q := I.list_inj h1 h2
  subst q
  rw [C5]
  intro j hj
  have hj' : j < xs.length := CB.mp hj
  exact ih j _ _ (B3 hj') (B3 hj') rfl
 | len h1 h2 hl =>
  intro z
  cases z
  have q := I.list_inj h1 h2
  exact absurd (congrArg List.length q) hl
 | @tup d a b xs ys e h1 h2 he ih =>
  intro z
  cases z
  have q := I.tuple_inj h1 h2
  subst q
  rw [C9, C5]
  refine ⟨fun j hj => ?_, by simp⟩
  have hj' : j < xs.length := by have := CB.mp hj; omega
  exact ih j _ _ (B3 hj') (B3 hj') rfl
theorem Vals.at {xs : List V} {us : List Value} (r : Vals xs us) {j : Nat} (h : j < us.toArray.size) : ∃ x, xs[j]? = some x /\ RelV x us.toArray[j] := by
 have hl := r.length
 have h' : j < xs.length := by simpa [hl] using h
 obtain ⟨u, e, ru⟩ := r.get (B3 h')
 refine ⟨_, B3 h', ?_⟩
 have h2 : j < us.length := by simpa using h
 rw [B3 h2] at e
 have e2 : us[j] = u := Option.some.inj e
 simpa [e2] using ru
theorem DEq.at {X : Cx} {pins : List (Addr × Obj)} {σ : St} {H : Hp} {s : Shared} (I : Inv X pins σ H s) {d : Nat} {x y : V} {b : Bool} (h : DEq X.K H d x y b) :
  ∀ {A : Around} {u v : Value}, A.units + d < cLine -> RelV x u -> RelV y v -> SeqAt.EqAt A s u v b := by
 induction h with
 | flat fx fy => intro A u v hu rx ry; exact uf rx ry fx fy
 | @lst d a b xs ys e h1 h2 hl he ih =>
  intro A u v hu rx ry
  cases rx; cases ry
  by_cases hab : a = b
  ·have z : (B9 xs.length).all e = true := (DEq.lst h1 h2 hl he).self I (by rw [hab])
   rw [z, hab]
   exact SeqAt.EqAt.same _
  ·obtain ⟨its, r, pl, _⟩ := I.list h1
   obtain ⟨its2, r2, pl2, _⟩ := I.list h2
   have l1 := r.length
   have l2 := r2.length
   have q := SeqAt.RcAt.lists (A := A) (e := e) pl.isList pl2.isList (by simp; omega) (by omega) fun j j1 j2 => by
    obtain ⟨x, ex, rx⟩ := r.at j1
    obtain ⟨y, ey, ry⟩ := r2.at j2
    exact ih j x y ex ey (by show A.units + 1 + d < cLine; omega) rx ry
   refine SeqAt.EqAt.of_refs hab ?_
   simpa [l1] using q
 | @len d a b xs ys h1 h2 hl =>
  intro A u v hu rx ry
  cases rx; cases ry
  have hab : a ≠ b := by
   rintro rfl
   exact hl (congrArg List.length (I.list_inj h1 h2))
  obtain ⟨its, r, pl, _⟩ := I.list h1
  obtain ⟨its2, r2, pl2, _⟩ := I.list h2
  have l1 := r.length
  have l2 := r2.length
  exact SeqAt.EqAt.of_refs hab (SeqAt.RcAt.lists_lengths pl.isList pl2.isList (by simp; omega) (by omega))
 | @tup d a b xs ys e h1 h2 he ih =>
  intro A u v hu rx ry
  cases rx; cases ry
  by_cases hab : a = b
  ·have z := (DEq.tup h1 h2 he).self I (by rw [hab])
   rw [z, hab]
   exact SeqAt.EqAt.same _
  ·obtain ⟨its, r, pl, _⟩ := I.tuple h1
   obtain ⟨its2, r2, pl2, _⟩ := I.tuple h2
   have l1 := r.length
   have l2 := r2.length
   have q := SeqAt.RcAt.tuples (A := A) (e := e) (show s.heap.IsTuple a its.toArray from pl) (show s.heap.IsTuple b its2.toArray from pl2) (by omega) fun j j1 j2 => by
    obtain ⟨x, ex, rx⟩ := r.at j1
    obtain ⟨y, ey, ry⟩ := r2.at j2
    exact ih j x y ex ey (by show A.units + 1 + d < cLine; omega) rx ry
   refine SeqAt.EqAt.of_refs hab ?_
   simpa [l1, l2] using q
section
variable {X : Cx}
def zU (K : PySem.W.Frag) : R2 := fun x y H Q => ∃ d b, DEq K H d x y b /\ d < 64 /\ cA x = false /\ Q (.bl b) H
def zV (K : PySem.W.Frag) : R2 := fun x y H Q => ∃ d b, DEq K H d x y b /\ d < 64 /\ cA x = false /\ Q (.bl (!b)) H
theorem yI (hu : X.A.units + 64 < cLine) : fm X (compareOp .Eq) (zU X.K) := by
 intro pins s σ H x y v u Q I rx ry h
 obtain ⟨d, b, dq, hd, fl, q⟩ := h
 cases dq with
 | flat fx fy => rw [fx] at fl; cases fl
 | @lst d a b xs ys e h1 h2 hl he =>
  cases rx; cases ry
  obtain ⟨its, r, pl, _⟩ := I.list h1
  obtain ⟨its2, r2, pl2, _⟩ := I.list h2
  have l1 := r.length
  have l2 := r2.length
  refine SeqAt.eq_listAt (e := e) pl.isList pl2.isList (by simp; omega) (by omega) (fun j j1 j2 => ?_) ?_
  ·obtain ⟨x, ex, rx⟩ := r.at j1
   obtain ⟨y, ey, ry⟩ := r2.at j2
   exact (he j x y ex ey).at I (by show X.A.units + 1 + d < cLine; omega) rx ry
  ·refine ⟨.bl _, H, I, rfl, ?_⟩
   simpa [<- l1] using q
 | @len d a b xs ys h1 h2 hl =>
  cases rx; cases ry
  obtain ⟨its, r, pl, _⟩ := I.list h1
  obtain ⟨its2, r2, pl2, _⟩ := I.list h2
  have l1 := r.length
  have l2 := r2.length
  exact SeqAt.eq_list_lengthsAt pl.isList pl2.isList (by simp; omega) (by omega) ⟨.bl _, H, I, rfl, q⟩
 | @tup d a b xs ys e h1 h2 he =>
  cases rx; cases ry
  obtain ⟨its, r, pl, _⟩ := I.tuple h1
  obtain ⟨its2, r2, pl2, _⟩ := I.tuple h2
  have l1 := r.length
  have l2 := r2.length
  refine SeqAt.eq_tupleAt (e := e) (show s.heap.IsTuple a its.toArray from pl) (show s.heap.IsTuple b its2.toArray from pl2) (by omega) (fun j j1 j2 => ?_) ?_
  ·obtain ⟨x, ex, rx⟩ := r.at j1
   obtain ⟨y, ey, ry⟩ := r2.at j2
   exact (he j x y ex ey).at I (by show X.A.units + 1 + d < cLine; omega) rx ry
  ·refine ⟨.bl _, H, I, rfl, ?_⟩
   simpa [<- l1, <- l2] using q
theorem yJ (hu : X.A.units + 64 < cLine) : fm X (compareOp .NotEq) (zV X.K) := by
 intro pins s σ H x y v u Q I rx ry h
 obtain ⟨d, b, dq, hd, fl, q⟩ := h
 cases dq with
 | flat fx fy => rw [fx] at fl; cases fl
 | @lst d a b xs ys e h1 h2 hl he =>
  cases rx; cases ry
  obtain ⟨its, r, pl, _⟩ := I.list h1
  obtain ⟨its2, r2, pl2, _⟩ := I.list h2
  have l1 := r.length
  have l2 := r2.length
  refine SeqAt.RcNeAt.lists (e := e) pl.isList pl2.isList (by simp; omega) (by omega) (fun j j1 j2 => ?_) _ _ _ _ ?_
  ·obtain ⟨x, ex, rx⟩ := r.at j1
   obtain ⟨y, ey, ry⟩ := r2.at j2
   exact (he j x y ex ey).at I (by show X.A.units + 1 + d < cLine; omega) rx ry
  ·refine ⟨.bl _, H, I, rfl, ?_⟩
   simpa [<- l1] using q
 | @len d a b xs ys h1 h2 hl =>
  cases rx; cases ry
  obtain ⟨its, r, pl, _⟩ := I.list h1
  obtain ⟨its2, r2, pl2, _⟩ := I.list h2
  have l1 := r.length
  have l2 := r2.length
  exact SeqAt.RcNeAt.lists_lengths pl.isList pl2.isList (by simp; omega) (by omega) _ _ _ _ ⟨.bl _, H, I, rfl, q⟩
 | @tup d a b xs ys e h1 h2 he =>
  cases rx; cases ry
  obtain ⟨its, r, pl, _⟩ := I.tuple h1
  obtain ⟨its2, r2, pl2, _⟩ := I.tuple h2
  have l1 := r.length
  have l2 := r2.length
  refine SeqAt.RcNeAt.tuples (e := e) (show s.heap.IsTuple a its.toArray from pl) (show s.heap.IsTuple b its2.toArray from pl2) (by omega) (fun j j1 j2 => ?_) _ _ _ _ ?_
  ·obtain ⟨x, ex, rx⟩ := r.at j1
   obtain ⟨y, ey, ry⟩ := r2.at j2
   exact (he j x y ex ey).at I (by show X.A.units + 1 + d < cLine; omega) rx ry
  ·refine ⟨.bl _, H, I, rfl, ?_⟩
   simpa [<- l1, <- l2] using q
theorem n9 : cJ X (.builtin "sorted") (fun xs H Q => ∃ (p : Addr) (ns : List Int), xs = [.ref p] /\ SqL X.K H p (ns.map V.int) /\ ns.length < 64 /\
  ∀ l (ms : List Int), H l = none -> ms.Perm ns -> ms.Pairwise (· <= ·) -> Q (.ref l) (ay H l (.lst (ms.map V.int)))) := by
 intro pins s σ H xs us Q I r h
 obtain ⟨p, ns, e, hq, h64, q⟩ := h
 subst e
 obtain ⟨u, e, rx⟩ := fo r
 subst e
 cases rx
 obtain ⟨its, rv, pl, hz⟩ := I.list hq
 have hl := rv.length
 rw [B4] at hl
 refine sorted_ints (vs := its) (ns := ns) pl.isList (jK rv) (by omega) fun out ns' a1 a2 a3 => ?_
 obtain ⟨ep, e⟩ := sortedAll_at s.heap its out
 have hn : s.heap.objs.size <= s.heap.objs.size + 1 := Nat.le_succ _
 refine ⟨.ref (s.heap.objs.size + 1), _, I.laid (t' := s.toks) (fun b o eb => sortedAll_old eb) hn (show ObjOk X.prog X.w _ _ _ (.lst (ns'.map V.int)) from ⟨?_, out.toList, ep, iy a1, ?_⟩), rfl, q _ ns' (I.hok.fresh hn) a2 a3⟩
 ·rw [B4, a2.length_eq]; exact C4 (lH (by omega))
 ·simpa [seqObj] using e
end
def SameBut (acc : Addr) (H H' : Hp) : Prop := ∀ b o, b ≠ acc -> H b = some o -> H' b = some o
theorem Same.but {acc : Addr} {H H' : Hp} (s : Same H H') : SameBut acc H H' := fun b o _ e => s b o e
theorem SameBut.upd {acc : Addr} {H : Hp} {o : HO} : SameBut acc H (ay H acc o) := fun b u n e => by rw [aj n]; exact e
theorem wI {n : Nat} (h : n <= 1000) : n <= sizeLine := C4 (lH h)
theorem b5 {n : Nat} (h : Nat.ble n 1000 = true := by rfl) : n <= sizeLine := wI (Nat.le_of_ble_eq_true h)
theorem iV {n : Nat} (h : n < 100000) : n < sizeLine := by rw [sizeLine_eq]; omega
theorem uy {x : Option V} {σ : St} : wF (none :: σ) (x :: σ) := ⟨rfl, fun i v e => by
 cases i with
 | zero => cases e
 | succ i => exact e⟩
theorem iz {J : It} {H1 : Hp} {js : List (Option Nat)} {σ : St} {tc : TT} {te : TE} {Q : VK} (n : Nat) (item : Nat -> V) (p : Nat -> Bool) (P : Addr -> Nat -> V -> Hp -> Prop) (hn : n < 100000)
  (mono : ∀ acc i v H H', P acc i v H -> SameBut acc H H' -> P acc i v H')
  (hgo : ∀ i H, i < n -> Same H1 H -> J.go i H) (hst : ∀ H, Same H1 H -> J.stop n H) (hy : ∀ i H x H', i < n -> Same H1 H -> J.yld i H x H' -> H' = H /\ x = item i)
  (hc : ∀ i, i < n -> ∀ H2 R, Same H1 H2 -> R (p i) H2 -> tc (some (item i) :: bS σ js) H2 R)
  (he : ∀ acc i, i < n -> p i = true -> ∀ H2 R, Same H1 H2 -> H1 acc = none -> H2 acc ≠ none -> (∀ v H3, Same H2 H3 -> P acc i v H3 -> R v H3) -> te (some (item i) :: bS σ js) H2 R)
  (hQ : ∀ acc vs H', Same H1 H' -> H1 acc = none -> H' acc = some (.lst vs) -> Paired (fun i v => P acc i v H') ((B9 n).filter p) vs -> Q (.ref acc) H') :
  b8 J H1 (none :: js) (bN 0) tc te σ Q := by
 intro acc hacc
 refine ⟨fun i m ys H => m = n - i /\ i <= n /\ Same H1 H /\ H acc = some (.lst ys) /\ Paired (fun k v => P acc k v H) ((B9 i).filter p) ys, ⟨n, by simp, Cz _, Same.new hacc, ab, .nil⟩, ?_⟩
 rintro i m ys H ⟨rfl, hi, s1, ha, hp⟩
 by_cases hlt : i < n
 ·refine .inr ⟨hgo i H hlt s1, fun ys' H' => i < n /\ Same H1 H' /\ H' acc = some (.lst ys') /\ Paired (fun k v => P acc k v H') ((B9 (i + 1)).filter p) ys', fun ys' H' ⟨z, a, b, c⟩ => ⟨n - (i + 1), CU _ _ hlt, rfl, hlt, a, b, c⟩, fun x H' y => ?_⟩
  obtain ⟨rfl, rfl⟩ := hy i H x H' hlt s1 y
  refine ⟨uy, hc i hlt _ _ s1 ⟨fun hb => ?_, fun hb => ?_⟩⟩
  ·refine he acc i hlt hb _ _ s1 hacc (by rw [ha]; simp) fun v H3 s3 pv => ?_
   have hlen : ys.length <= i := by
    rw [<- Paired.length hp]
    exact CJ (CM _ _) (by simp)
   refine ⟨s3 _ _ ha, iV (by omega), hlt, (s1.trans s3).put hacc, ab, ?_⟩
   rw [C1, CT]
   have e : Ek p [i] = [i] := by simp [hb]
   rw [e]
   refine Paired.snoc (Paired.mapP hp fun k v q => ?_) ?_
   ·exact mono acc k v _ _ (mono acc k v _ _ q s3.but) SameBut.upd
   ·exact mono acc i v _ _ pv SameBut.upd
  ·refine ⟨hlt, s1, ha, ?_⟩
   rw [C1, CT]
   have e : Ek p [i] = [] := by simp [hb]
   rw [e, Dh]
   exact hp
 ·have e : i = n := Do hi (C8 hlt)
  subst e
  exact .inl ⟨hst H s1, hQ acc ys H s1 hacc ha hp⟩
theorem cy {α β : Type} {f : α -> β} : ∀ {l : List α} {r : List β}, Paired (fun a b => b = f a) l r -> r = l.map f := by
 intro l r h
 induction h with
 | nil => rfl
 | cons h t ih => rw [h, ih]; rfl
section
variable {K : PySem.W.Frag} {H1 : Hp} {js : List (Option Nat)} {σ : St} {tc : TT} {te : TE} {Q : VK}
theorem pM {lo : Int} {n : Nat} (f : Nat -> V) (hn : n < 100000)
  (he : ∀ i : Nat, i < n -> ∀ H2 R, Same H1 H2 -> (∀ H3, Same H2 H3 -> R (f i) H3) -> te (some (.int (lo + i)) :: bS σ js) H2 R)
  (hQ : ∀ acc H', Same H1 H' -> H1 acc = none -> H' acc = some (.lst ((B9 n).map f)) -> Q (.ref acc) H') : b8 (o8 lo n) H1 (none :: js) (bN 0) eJ te σ Q :=
 iz (J := o8 lo n) (H1 := H1) (js := js) (σ := σ) (tc := eJ) (te := te) (Q := Q) n (fun i => .int (lo + i)) (fun _ => true) (fun _ i v _ => v = f i) hn (fun _ _ _ _ _ h _ => h)
  (fun _ _ h _ => h) (fun _ _ => Ca _) (fun _ _ _ _ _ _ y => y) (fun _ _ _ _ _ h => h) (fun _ i hi _ H2 R s _ _ k => he i hi H2 R s fun H3 s3 => k _ H3 s3 rfl)
  fun acc vs H' s n' e p => hQ acc H' s n' (by rw [e, cy p, CQ.mpr (fun _ _ => rfl)])
theorem se {a : Addr} {xs : List V} (p : Nat -> Bool) (P : Addr -> Nat -> V -> Hp -> Prop) (hl : SqL K H1 a xs) (hn : xs.length < 100000)
  (mono : ∀ acc i v H H', P acc i v H -> SameBut acc H H' -> P acc i v H')
  (hc : ∀ (i : Nat) x, xs[i]? = some x -> ∀ H2 R, Same H1 H2 -> R (p i) H2 -> tc (some x :: bS σ js) H2 R)
  (he : ∀ acc (i : Nat) x, xs[i]? = some x -> p i = true -> ∀ H2 R, Same H1 H2 -> H1 acc = none -> H2 acc ≠ none -> (∀ v H3, Same H2 H3 -> P acc i v H3 -> R v H3) -> te (some x :: bS σ js) H2 R)
  (hQ : ∀ acc vs H', Same H1 H' -> H1 acc = none -> H' acc = some (.lst vs) -> Paired (fun i v => P acc i v H') ((B9 xs.length).filter p) vs -> Q (.ref acc) H') : b8 (nO K a) H1 (none :: js) (bN 0) tc te σ Q :=
 iz (J := nO K a) (H1 := H1) (js := js) (σ := σ) (tc := tc) (te := te) (Q := Q) xs.length (fun i => xs.getD i .non) p P hn mono
  (fun i H h s => ⟨xs, xs[i], s.seq hl, by simp [h]⟩) (fun H s => ⟨xs, s.seq hl, Ca _⟩)
  (fun i H x H' h s y => ⟨y.1, by have e := y.2 xs (s.seq hl); simp [e]⟩)
  (fun i h H2 R s k => hc i _ (by simp [h]) H2 R s k) (fun acc i h hp H2 R s n1 n2 k => he acc i _ (by simp [h]) hp H2 R s n1 n2 k) hQ
end
section
variable {X : Cx} {tg l : Expr} {tl : TE} {es : List Expr} {k n : Nat} {t : xF} {pos : Pos} {a : Expr} {ta : TE}
theorem cS (K : PySem.W.Frag) (h : X.K = K := by rfl) : ze X (zJ K) := by subst h; exact wj
theorem cP (K : PySem.W.Frag) (h : X.K = K := by rfl) : ze X (zK K) := by subst h; exact yu
theorem zW (K : PySem.W.Frag) (h : X.K = K := by rfl) : Ay X (zM K) := by subst h; exact wk
theorem BL (K : PySem.W.Frag) (h : X.K = K := by rfl) : fm X (compareOp .In) (AA K false) := by subst h; exact rX
theorem wJ (K : PySem.W.Frag) (h : X.K = K := by rfl) : fm X (compareOp .NotIn) (AA K true) := by subst h; exact mw
theorem BM (K : PySem.W.Frag) (hu : X.A.units + 64 < cLine) (h : X.K = K := by rfl) : fm X (compareOp .Eq) (zU K) := by subst h; exact yI hu
theorem Bw (K : PySem.W.Frag) (hu : X.A.units + 64 < cLine) (h : X.K = K := by rfl) : fm X (compareOp .NotEq) (zV K) := by subst h; exact yJ hu
theorem bM (K : PySem.W.Frag) (h : X.K = K := by rfl) : cJ X (.builtin "len") (fun xs H Q => ∃ x n, xs = [x] /\ zE K x H n /\ Q (.int n) H) := by subst h; exact ue
theorem pN (K : PySem.W.Frag) (h : X.K = K := by rfl) : cJ X (.builtin "isinstance") (fun xs H Q => ∃ x Y t b, xs = [x, .ty Y] /\ TyOf K H x t /\ PySem.W.kitOne K t (.type Y) = some b /\ Q (.bl b) H) := by subst h; exact uw
theorem wK (K : PySem.W.Frag) (h : X.K = K := by rfl) : cJ X (.builtin "sorted") (fun xs H Q => ∃ (p : Addr) (ns : List Int), xs = [.ref p] /\ SqL K H p (ns.map V.int) /\ ns.length < 64 /\
 ∀ l (ms : List Int), H l = none -> ms.Perm ns -> ms.Pairwise (· <= ·) -> Q (.ref l) (ay H l (.lst (ms.map V.int)))) := by subst h; exact n9
theorem qL (K : PySem.W.Frag) (h : X.K = K := by rfl) : cJ X (.type "list") (fun xs H Q => ∃ p ys, xs = [.ref p] /\ (SqL K H p ys \/ SqT K H p ys) /\ ∀ l, H l = none -> Q (.ref l) (ay H l (.lst ys))) := by subst h; exact my
theorem jy (K : PySem.W.Frag) (hl : PE X l tl) (h : X.K = K := by rfl) : PI X tg l (xH K tl) := by subst h; exact v8 hl
theorem A9 (K : PySem.W.Frag) (hl : PE X l tl) (h : X.K = K := by rfl) : PI X tg l (zw K tl) := by subst h; exact ym hl
theorem wL (K : PySem.W.Frag) (hc : X.calm = true) (hg : zd X es t) (h : X.K = K := by rfl) (hn : (assignEach es X.env).length = n := by rfl) (hst : (assignEach es X.env).findIdx? (·.1) = none := by rfl) : PG X (.Tuple es k pos) (rN K n t) := by
 subst h; exact yh hc hg hn hst
end
theorem aU {X : Cx} {N : List Str} (h : N.Nodup) (e : X.N = N := by rfl) : X.N.Nodup := by rw [e]; exact h
theorem yK (xs : List V) (k : Nat) : gj xs none (some (k : Int)) = xs.take k := by
 unfold gj
 rw [HT.jv, HT.nV, List.drop_zero, Nat.sub_zero]
 by_cases h : k <= xs.length
 ·rw [Dz h]
 ·rw [DV (by omega), Di (Ca _), Di (by omega)]
theorem jS (xs : List V) (k : Nat) : gj xs (some (k : Int)) none = xs.drop k := by
 unfold gj
 rw [HT.jv, HT.nV]
 by_cases h : k <= xs.length
 ·rw [Dz h, Di (by rw [Dr]; omega)]
 ·rw [DV (by omega), Dv, Dx, Eh (by omega)]
theorem wM (xs : List V) (i j : Nat) : gj xs (some (i : Int)) (some (j : Int)) = (xs.drop i).take (j - i) := by
 unfold gj
 rw [HT.jv, HT.jv]
 by_cases h : i <= xs.length
 ·rw [Dz h]
  by_cases h2 : j <= xs.length
  ·rw [Dz h2]
  ·rw [DV (by omega), Di (by rw [Dr]; omega), Di (by rw [Dr]; omega)]
 ·have e : min i xs.length = xs.length := DV (by omega)
  rw [e, Eh (Ca _), Eh (l := xs) (i := i) (by omega), List.take_nil, List.take_nil]
section
variable {K : PySem.W.Frag} {H : Hp} {a b : Addr}
theorem uz {xs : List V} (h1 : SqL K H a xs) (h2 : SqL K H b xs) (hf : ∀ x ∈ xs, cA x = true) : DEq K H 1 (.ref a) (.ref b) true := by
 have q := DEq.lst (d := 0) (e := fun _ => true) h1 h2 rfl fun j x y ex ey => by
  rw [ex] at ey
  cases ey
  have f := hf x (B8 ex)
  have e := DEq.flat (K := K) (H := H) (d := 0) f f
  rw [jR f] at e
  exact e
 have e : ((B9 xs.length).all fun _ => true) = true := C5.mpr fun _ _ => rfl
 rw [e] at q
 exact q
theorem qM {xs : List V} (h1 : SqL K H a xs) (h2 : SqL K H b []) : DEq K H 1 (.ref a) (.ref b) xs.isEmpty := by
 cases xs with
 | nil => exact uz h1 h2 fun x hx => by cases hx
 | cons x r => exact DEq.len h1 h2 (by simp)
end
theorem BN {b : Bool} {A B : Prop} (h1 : b = true -> A) (h2 : b = false -> B) : if b = true then A else B := by
 cases b with
 | true => exact bX (h1 rfl)
 | false => exact bw (h2 rfl)
theorem sg {i j : Int} {A B : Prop} (h1 : i = j -> A) (h2 : i ≠ j -> B) : if decide (V.int i = V.int j) = true then A else B := by
 by_cases h : i = j
 ·rw [if_pos (by simp [h])]; exact h1 h
 ·rw [if_neg (by simp [h])]; exact h2 h
theorem wN {i j : Int} {A B : Prop} (h1 : i ≠ j -> A) (h2 : i = j -> B) : if (!decide (V.int i = V.int j)) = true then A else B := by
 by_cases h : i = j
 ·rw [if_neg (by simp [h])]; exact h2 h
 ·rw [if_pos (by simp [h])]; exact h1 h
theorem vV {c : Prop} [Decidable c] {A B : Prop} (h1 : c -> A) (h2 : ¬ c -> B) : if decide c = true then A else B := by
 by_cases h : c
 ·rw [if_pos (decide_eq_true h)]; exact h1 h
 ·rw [if_neg (by simp [h])]; exact h2 h
def Ba (t u : TS) : TS := fun D σ H => ∃ P : L2.St -> Hp -> Prop, t { D with nx := P } σ H /\ ∀ σ' H', P σ' H' -> u D σ' H'
theorem wO {X : Cx} {st : Stmt} {dC : List Stmt} {t u : TS} (h1 : PS X st t) (h2 : PSs X dC u) : PSs X (st :: dC) (Ba t u) := by
 intro pins s σ H D I h
 obtain ⟨P, ht, hu⟩ := h
 refine wpAny_execs_cons (br (h1 pins s σ H { D with nx := P } I ht) fun f s1 q => ?_)
 cases f with
 | next =>
  obtain ⟨σ', H', I', q⟩ := q
  exact h2 pins s1 σ' H' D I' (hu σ' H' q)
 | ret v => exact q
 | brk => exact q
 | cont => exact q
section
variable {X : Cx} {tg l : Expr} {tl : TE}
end
section
variable {X : Cx} {es : List Expr} {t : TA}
end
theorem Inv.view {X : Cx} {pins : List (Addr × Obj)} {σ : L2.St} {H : Hp} {s : Shared} {a : Addr} {o : HO} (I : Inv X pins σ H s) (mu : zc (H a)) (new : ObjOk X.prog X.w (ay H a o) s.heap a o) : Inv X pins σ (ay H a o) s := by
 have hex : ∃ u, s.heap.get? a = some u := by
  cases q : H a with
  | none => rw [q] at mu; exact mu.elim
  | some u =>
   have lt := I.hok.lt q
   have := I.hok a u q
   rw [q] at mu
   cases u with
   | lst xs => obtain ⟨_, _, _, _, e⟩ := this; exact ⟨_, e⟩
   | dK kvs => obtain ⟨_, _, _, _, o, _, _, e, _⟩ := this; exact ⟨_, e⟩
   | dT kvs => obtain ⟨_, _, _, _, o, _, _, e, _⟩ := this; exact ⟨_, e⟩
   | set S n => obtain ⟨o, _, _, _, e, _⟩ := this; exact ⟨_, e⟩
   | ins C dx fs => obtain ⟨_, _, _, e, _⟩ := this; exact ⟨_, e⟩
   | ext φ => obtain ⟨_, e, _⟩ := this; exact e
   | _ => exact mu.elim
 exact I.write (h' := s.heap) (x := a) (e := a) (t' := s.toks) mu (.inl rfl) (fun _ _ _ e => e) hex new
theorem cT : entryFor table "dict_itemiterator.__iter__" = some Builtin.«dict_keyiterator.__iter__» :=
 entryFor_alias (id' := "dict_keyiterator.__iter__") (by kernel_rfl) rfl (by decide +kernel) (by kernel_rfl)
def DW (P : Program) (w : World) (d : Addr) (vs : List (bq × Value)) (ep : Nat) : Heap -> Prop := fun h => h.DictAt (aG P w) d vs ep
theorem DW.ok {P : Program} {w : World} {H : Hp} {h : Heap} {d : Addr} {vs : List (bq × Value)} {ep : Nat} (x : h.DictAt (aG P w) d vs ep) : ObjOk P w H h d (.ext (DW P w d vs ep)) :=
 ⟨x, by obtain ⟨o, _, e, _⟩ := x; exact ⟨o, e⟩, fun _ _ y k => y.at' k⟩
theorem mE {P : Program} {w : World} {k : bq} {u : Value} (h : (aG P w).is k u = true) : RelV (kV k) u := by
 rcases bB (k := k) (v := u) h with ⟨i, t, e1, e2⟩ | ⟨x, t, e1, e2⟩
 ·subst e1 e2; exact ⟨t, rfl⟩
 ·subst e1 e2; exact ⟨t, rfl⟩
def xQ (φ : Heap -> Prop) (d : Addr) (kvs : List (bq × V)) : It :=
 ⟨fun i H => H d = some (.ext φ) /\ i < kvs.length, fun i H x H' => H' = H /\ ∃ k v, kvs[i]? = some (k, v) /\ x = kV k, fun i H => H d = some (.ext φ) /\ kvs.length <= i⟩
def zX (φ : Heap -> Prop) (d : Addr) (kvs : List (bq × V)) : It :=
 ⟨fun i H => H d = some (.ext φ) /\ i < kvs.length, fun i H x H' => ∃ p k v, H p = none /\ kvs[i]? = some (k, v) /\ x = .ref p /\ H' = ay H p (.tup [kV k, v]), fun i H => H d = some (.ext φ) /\ kvs.length <= i⟩
theorem xR {kvs : List (bq × V)} {vs : List (bq × Value)} (r : KV kvs vs) {i : Nat} (h : i < kvs.length) : ∃ k v u, kvs[i]? = some (k, v) /\ vs[i]? = some (k, u) /\ RelV v u := by
 have hl := r.length
 obtain ⟨a, ha, f⟩ := cK (i := i) (b := vs[i]) r (B3 (by omega))
 refine ⟨a.1, a.2, vs[i].2, ha, ?_, f.2⟩
 rw [B3 (by omega), f.1]
theorem lK {P : Program} {w : World} {K : PySem.W.Frag} {tg : Expr} (d it : Addr) {kvs : List (bq × V)} {vs : List (bq × Value)} {ep : Nat} (r : KV kvs vs) :
  Turn P w K tg (xQ (DW P w d vs ep) d kvs) [it] it (fun i h => h.IsKeyIter it d i vs.length ep) where
 mem := by simp
 obj := fun i h st b hb => by
  have e : b = it := by simpa using hb
  subst e
  obtain ⟨o, e, c, d⟩ := st
  exact ⟨o, e, fun v z => by rw [d] at z; cases z⟩
 keep := fun i h h' st k => st.at fun o e => k it (by simp) o e
 item := by
  intro X hP hw hK hc i pins s σ H E I hf st hg
  subst hP hw hK
  obtain ⟨hd, hi⟩ := hg
  obtain ⟨dm, _⟩ := (show ObjOk X.prog X.w H s.heap d (.ext (DW X.prog X.w d vs ep)) from I.hok d _ hd)
  obtain ⟨k, v, u, e1, e2, _⟩ := xR r hi
  obtain ⟨f0, f1, f2, f3, f4, f5⟩ := hf it (by simp)
  refine wpAny_pyNext_dict_item st dm e2 fun key h' hkey st' sb => ?_
  have I1 : Inv X pins σ H { s with heap := h' } := I.turned (t' := s.toks) (fun b o hb e => (sb.2 b hb).trans e) f0 f1 f3 f4 f5
  obtain ⟨o, e, c, d'⟩ := id st'
  exact ⟨key, rfl, ly (s := { s with heap := h' }) e c d' (by decide) ⟨kV k, H, I1, mE hkey, ⟨rfl, k, v, e1, rfl⟩, st', fun b hb => (hf b hb).1⟩⟩
 done := by
  intro X hP hw hK hc i pins s σ H E I hf st hg
  subst hP hw hK
  obtain ⟨hd, hi⟩ := hg
  obtain ⟨dm, _⟩ := (show ObjOk X.prog X.w H s.heap d (.ext (DW X.prog X.w d vs ep)) from I.hok d _ hd)
  obtain ⟨f0, f1, f2, f3, f4, f5⟩ := hf it (by simp)
  have hl := r.length
  exact wpAny_pyNext_dict_end (I.ok.hd hc) st dm (CN (by omega)) fun h' eb => ⟨rfl, I.turned (t' := s.toks) (fun b o hb e => eb b o hb e) f0 f1 f3 f4 f5⟩
 self := fun _ _ _ _ _ st h => wpAny_pyIter_keyiter st h
theorem pO {P : Program} {w : World} {K : PySem.W.Frag} {es : List Expr} {k1 : Nat} {pos : Pos} (d it : Addr) {kvs : List (bq × V)} {vs : List (bq × Value)} {ep : Nat} (r : KV kvs vs) :
  Turn P w K (.Tuple es k1 pos) (zX (DW P w d vs ep) d kvs) [it] it (fun i h => ∃ ok ov, IsItemIter h it d i vs.length ep ok ov) where
 mem := by simp
 obj := fun i h st b hb => by
  have e : b = it := by simpa using hb
  subst e
  obtain ⟨_, _, e⟩ := st
  exact ⟨_, e, fun v z => by
   have z' : Data.fields _ = Data.cell v := z
   cases z'⟩
 keep := fun i h h' st k => let ⟨a, b, e⟩ := st; ⟨a, b, k it (by simp) _ e⟩
 item := by
  intro X hP hw hK hc i pins s σ H E I hf st hg
  subst hP hw hK
  obtain ⟨hd, hi⟩ := hg
  obtain ⟨ok, ov, st⟩ := st
  obtain ⟨dm, _⟩ := (show ObjOk X.prog X.w H s.heap d (.ext (DW X.prog X.w d vs ep)) from I.hok d _ hd)
  obtain ⟨k, v, u, e1, e2, rv⟩ := xR r hi
  obtain ⟨f0, f1, f2, f3, f4, f5⟩ := hf it (by simp)
  refine wpAny_pyNext_items_item st dm e2 fun key h' hkey st' tu hz kp => ?_
  refine ⟨_, rfl, wpAny_letOwnedTupleGo_items st' fun h2 st2 sb => ?_⟩
  have hne : s.heap.objs.size ≠ it := fun z => absurd (Heap.lt_size st) (by rw [<- z]; exact Dw _)
  have I1 : Inv X pins σ H { s with heap := h2 } := I.turned (t' := s.toks) (fun b o hb e => (sb.2 b hb).trans (kp b o hb e)) f0 f1 f3 f4 f5
  have fr : H s.heap.objs.size = none := I.fresh
  have e3 : h2.get? s.heap.objs.size = some { cls := .type "tuple", data := .seq #[key, u] } := (sb.2 _ hne).trans tu
  have I2 : Inv X pins σ (ay H s.heap.objs.size (.tup [kV k, v])) { s with heap := h2 } := by
   have un : Un (gg X.stack) [it] H (ay H s.heap.objs.size (.tup [kV k, v])) s.heap h2 := {
    keep := fun b o q _ _ hx => (sb.2 b (by simpa using hx)).trans (kp b o (by simpa using hx) q)
    slot := fun b o q _ _ hx => ⟨o.slots, (sb.2 b (by simpa using hx)).trans (kp b o (by simpa using hx) q)⟩
    free := fun b o q n hx => by rw [aj (Cp (Heap.lt_size q))]; exact n
    there := fun b o q hx => ⟨o, (sb.2 b (by simpa using hx)).trans (kp b o (by simpa using hx) q)⟩
    tups := fun b xs q => by rw [aj (ak q fr)]; exact q
    frzs := fun b o xs q => by rw [aj (ak q fr)]; exact q
    tbls := fun b ps q => ⟨#[], by rw [aj (ak q fr), q]; simp⟩ }
   refine I.call' (s' := { s with heap := h2 }) (ch := [it]) rfl un (fun b o e => ?_) I.bare (fun b hb => ?_)
   ·by_cases hb : b = s.heap.objs.size
    ·subst hb
     rw [ab] at e
     cases e
     refine ⟨b5, [key, u], .cons (mE hkey) (.cons rv .nil), _, e3, rfl, _, rfl⟩
    ·rw [aj hb] at e
     refine (I1.hok b o e).stay (fun _ _ _ q => q) (fun c q => by rw [aj (ak q fr)]; exact q) fun c xs q => by rw [aj (ak q fr)]; exact q
   ·have e : b = it := by simpa using hb
    subst e
    exact ⟨f3, f1, f4, f5⟩
  exact ⟨.ref s.heap.objs.size, _, I2, rfl, ⟨_, k, v, fr, e1, rfl, rfl⟩, ⟨key, u, st2⟩, fun b hb => by
   have e : b = it := by simpa using hb
   subst e
   rw [aj hne.symm]; exact f0⟩
 done := by
  intro X hP hw hK hc i pins s σ H E I hf st hg
  subst hP hw hK
  obtain ⟨hd, hi⟩ := hg
  obtain ⟨ok, ov, st⟩ := st
  obtain ⟨dm, _⟩ := (show ObjOk X.prog X.w H s.heap d (.ext (DW X.prog X.w d vs ep)) from I.hok d _ hd)
  obtain ⟨f0, f1, f2, f3, f4, f5⟩ := hf it (by simp)
  have hl := r.length
  exact wpAny_pyNext_items_end (I.ok.hd hc) st dm (CN (by omega)) fun h' eb => ⟨rfl, I.turned (t' := s.toks) (fun b o hb e => eb b o hb e) f0 f1 f3 f4 f5⟩
 self := fun A i s Q E st h => by
  obtain ⟨ok, ov, st⟩ := st
  have hT : s.TypeIs (.ref it) "dict_itemiterator" := ⟨_, st, rfl⟩
  refine wpAny_pyIter_slot hT F.slot_dict_itemiterator_iter (wpAny_call_entry F.slot_dict_itemiterator_iter hT cT ?_ (F.args_dict_itemiterator_iter_1 _))
  show wpAny _ _ (ret (.ref it)) _ _ s
  exact wpAny_pure ⟨_, rfl, "dict_itemiterator", _, hT, F.slot_dict_itemiterator_next.lookup, h⟩
section
variable {X : Cx} {tg l : Expr} {tl : TE}
def zY (tl : TE) : TI := fun σ H R => tl σ H fun x H1 => ∃ d kvs, x = .ref d /\ H1 d = some (.dK kvs) /\ ∀ φ, R (xQ φ d kvs) (ay H1 d (.ext φ))
theorem wQ (hl : PE X l tl) : PI X tg l (zY tl) := by
 intro pins s σ H R I h
 refine br (hl pins s σ H _ I h) fun v s1 hq__ => ?_
 obtain ⟨x, H1, I1, r1, q1⟩ := hq__
 obtain ⟨d, kvs, e, hd, q⟩ := q1
 subst e
 cases r1
 obtain ⟨hz, hm, vs, r, dd⟩ := jN I1.hok hd
 obtain ⟨ep, da⟩ := dd.dictAt
 have I2 : Inv X pins σ (ay H1 d (.ext (DW X.prog X.w d vs ep))) s1 := I1.view (by rw [hd]; trivial) (DW.ok da)
 refine wpAny_pyIter_dict hm da ?_
 refine ⟨s1.heap.objs.size, [s1.heap.objs.size], _, _, _, rfl, I2.kept (t' := s1.toks) fun b o e => Heap.get?_push_of_some _ e, lK d _ r, ⟨_, Heap.get?_push_size _ rfl, rfl, rfl⟩, fun b hb => ?_, q _⟩
 have e : b = s1.heap.objs.size := by simpa using hb
 subst e
 exact I2.fpOk (Ca _) (I2.hok.fresh (Ca _))
def VW (v d : Addr) : Heap -> Prop := fun h => h.IsItemsView v d
theorem oa : Az X "dict.items" (fun x xs H Q => ∃ d kvs, x = .ref d /\ xs = [] /\ H d = some (.dK kvs) /\ ∀ v, H v = none -> Q (.ref v) (ay H v (.ext (VW v d)))) := by
 intro pins s σ H x xs v us Q I rx rv h
 obtain ⟨d, kvs, e, e2, hd, q⟩ := h
 subst e e2
 cases rx
 have hus := rv.zero
 subst hus
 obtain ⟨hz, hm, vs, r, dd⟩ := jN I.hok hd
 refine call_meetsIn PySem.F.slot_dict_items dd.typeIs PySem.F.entry_dict_items (PySem.F.args_dict_items_1 _) (meets_dict_items (aG X.prog X.w) d hm) ⟨⟨vs, dd⟩, ?_⟩
 refine ⟨.ref s.heap.objs.size, _, I.laid (t' := s.toks) (fun b o e => Heap.get?_push_of_some _ e) (Ca _) ?_, rfl, q _ I.fresh⟩
 exact ⟨⟨_, Heap.get?_push_size _ rfl, rfl, rfl⟩, ⟨_, Heap.get?_push_size _ rfl⟩, fun h1 h2 ⟨o, e, c⟩ k => ⟨o, k o e, c⟩⟩
def yL (tl : TE) : TI := fun σ H R => tl σ H fun x H1 => ∃ v d kvs, x = .ref v /\ H1 v = some (.ext (VW v d)) /\ H1 d = some (.dK kvs) /\ ∀ φ, R (zX φ d kvs) (ay H1 d (.ext φ))
theorem uA {es : List Expr} {k1 : Nat} {pos : Pos} (hl : PE X l tl) : PI X (.Tuple es k1 pos) l (yL tl) := by
 intro pins s σ H R I h
 refine br (hl pins s σ H _ I h) fun v s1 hq__ => ?_
 obtain ⟨x, H1, I1, r1, q1⟩ := hq__
 obtain ⟨v, d, kvs, e, hv, hd, q⟩ := q1
 subst e
 cases r1
 obtain ⟨hz, hm, vs, r, dd⟩ := jN I1.hok hd
 obtain ⟨ep, da⟩ := dd.dictAt
 obtain ⟨vw, _⟩ := (show ObjOk X.prog X.w H1 s1.heap v (.ext (VW v d)) from I1.hok v _ hv)
 have I2 : Inv X pins σ (ay H1 d (.ext (DW X.prog X.w d vs ep))) s1 := I1.view (by rw [hd]; trivial) (DW.ok da)
 refine wpAny_pyIter_items vw da ?_
 refine ⟨s1.heap.objs.size, [s1.heap.objs.size], _, _, _, rfl, I2.kept (t' := s1.toks) fun b o e => Heap.get?_push_of_some _ e, pO d _ r, ⟨.none, .none, Heap.get?_push_size _ rfl⟩, fun b hb => ?_, q _⟩
 have e : b = s1.heap.objs.size := by simpa using hb
 subst e
 exact I2.fpOk (Ca _) (I2.hok.fresh (Ca _))
theorem si {φ : Heap -> Prop} {d : Addr} {kvs : List (bq × V)} {g : TG} {tb : TS} {D : Ends} {σ : L2.St} {H : Hp} (Pv : Nat -> L2.St -> Hp -> Prop) (h0 : Pv 0 σ H) (hw : ∀ i σ H, i <= kvs.length -> Pv i σ H -> H d = some (.ext φ))
  (hs : ∀ i k v σ H p, kvs[i]? = some (k, v) -> Pv i σ H -> H p = none -> g (.ref p) σ (ay H p (.tup [kV k, v])) fun σ2 H2 => tb { D with nx := Pv (i + 1), ct := Pv (i + 1), bk := D.nx } σ2 H2) (hd : ∀ σ H, Pv kvs.length σ H -> D.nx σ H) :
  ∃ W : Nat -> Nat -> L2.St -> Hp -> Prop, (∃ m, W 0 m σ H) /\ ∀ i m σ H, W i m σ H ->
   ((zX φ d kvs).stop i H /\ D.nx σ H) \/ ((zX φ d kvs).go i H /\ ∃ N : L2.St -> Hp -> Prop, (∀ σ' H', N σ' H' -> ∃ m', m' < m /\ W (i + 1) m' σ' H') /\ ∀ v H', (zX φ d kvs).yld i H v H' -> g v σ H' fun σ2 H2 => tb { D with nx := N, ct := N, bk := D.nx } σ2 H2) := by
 refine ⟨fun i m σ H => m = kvs.length - i /\ i <= kvs.length /\ Pv i σ H, ⟨kvs.length, by simp, Cz _, h0⟩, ?_⟩
 rintro i m σ H ⟨rfl, hi, p⟩
 by_cases hlt : i < kvs.length
 ·refine .inr ⟨⟨hw i σ H hi p, hlt⟩, Pv (i + 1), fun σ' H' p' => ⟨kvs.length - (i + 1), CU _ _ hlt, rfl, hlt, p'⟩, fun v H' y => ?_⟩
  obtain ⟨q, k, v', hn, e, e2, e3⟩ := y
  subst e2 e3
  exact hs i k v' σ H q e p hn
 ·have e : i = kvs.length := Do hi (C8 hlt)
  subst e
  exact .inl ⟨⟨hw _ σ H hi p, Ca _⟩, hd σ H p⟩
end
theorem sj {H1 : Hp} {js : List (Option Nat)} {σ : L2.St} {te : TE} {Q : VK} {φ : Heap -> Prop} {d : Addr} {kvs : List (bq × V)} (f : bq -> V) (hn : kvs.length < 100000) (hd : H1 d = some (.ext φ))
  (he : ∀ (i : Nat) k v, kvs[i]? = some (k, v) -> ∀ H2 R, Same H1 H2 -> (∀ H3, Same H2 H3 -> R (f k) H3) -> te (some (kV k) :: bS σ js) H2 R)
  (hQ : ∀ acc H', Same H1 H' -> H1 acc = none -> H' acc = some (.lst (kvs.map fun p => f p.1)) -> Q (.ref acc) H') : b8 (xQ φ d kvs) H1 (none :: js) (bN 0) eJ te σ Q :=
 iz (J := xQ φ d kvs) (H1 := H1) (js := js) (σ := σ) (tc := eJ) (te := te) (Q := Q) kvs.length (fun i => ((kvs[i]?).map fun p => kV p.1).getD .non) (fun _ => true) (fun _ i v _ => v = ((kvs[i]?).map fun p => f p.1).getD .non) hn (fun _ _ _ _ _ h _ => h)
  (fun _ H h s => ⟨s _ _ hd, h⟩) (fun H s => ⟨s _ _ hd, Ca _⟩)
  (fun i H x H' h s y => ⟨y.1, by obtain ⟨_, k, v, e, ex⟩ := y; rw [e, ex]; rfl⟩)
  (fun _ _ _ _ _ h => h)
  (fun _ i hi _ H2 R s _ _ k => by
   have e : kvs[i]? = some (kvs[i].1, kvs[i].2) := B3 hi
   rw [e]
   exact he i _ _ e H2 R s fun H3 s3 => k _ H3 s3 (by rw [e]; rfl))
  fun acc vs H' s n' e p => hQ acc H' s n' (by
   rw [e, cy p, CQ.mpr (fun _ _ => rfl)]
   congr 1; congr 1
   apply Ee
   intro i
   rw [B7, B7]
   by_cases hi : i < kvs.length
   ·rw [De hi, DA, B3 hi]; rfl
   ·rw [CN (by simp; omega), CN (by omega)]; rfl)
end L2
namespace L2
abbrev HK := List (bq × V)
def qN (kvs : HK) (q : Nat) : Nat := (kvs.map (·.2)).count (V.int q)
def sm (p : Prop) [Decidable p] : Nat := if p then 1 else 0
def fg (as : List Int) : HK := as.map fun b => (Sum.inl b, V.bl true)
theorem mF (p q : Nat) : (V.int (p : Int) == V.int (q : Int)) = decide (q = p) := by
 by_cases h : q = p
 ·subst h; simp
 ·have : ¬ (V.int (p : Int) = V.int (q : Int)) := fun e => h (by injection e with e; omega)
  simp [h, this]
theorem wR {kvs : HK} {k : bq} {p q : Nat} (h : bf kvs k = none) : qN (bU kvs k (.int p)) q = qN kvs q + sm (q = p) := by
 have a : ¬ (kvs.any fun kv => decide (kv.1 = k)) = true := by rw [b7, h]; simp
 unfold qN bU sm
 rw [if_neg a, Cf, List.count_append]
 simp only [Ce, DT, DM, List.count_nil, mF]
 by_cases e : q = p <;> simp [e]
theorem pP {k : bq} {y : V} {kvs : HK} (h : ¬ k ∈ kvs.map (·.1)) : (kvs.map fun kv => if kv.1 = k then (kv.1, y) else kv) = kvs := by
 induction kvs with
 | nil => rfl
 | cons p r ih =>
  rw [Ce, Cm] at h
  rw [Ce, if_neg (fun e => h (.inl e.symm)), ih (fun m => h (.inr m))]
theorem wU : ∀ {kvs : HK} {k : bq} {p p0 q : Nat}, (kvs.map (·.1)).Nodup -> bf kvs k = some (.int p0) -> qN (bU kvs k (.int p)) q + sm (q = p0) = qN kvs q + sm (q = p) := by
 intro kvs k p p0 q nd h
 have a : (kvs.any fun kv => decide (kv.1 = k)) = true := by rw [b7, h]; rfl
 unfold bU
 rw [if_pos a]
 clear a
 induction kvs with
 | nil => cases h
 | cons e r ih =>
  have nd' : (e.1 :: r.map (·.1)).Nodup := nd
  obtain ⟨n1, n2⟩ := C0.mp nd'
  by_cases ek : e.1 = k
  ·rw [bI ek] at h
   have hv : e.2 = V.int p0 := Option.some.inj h
   rw [Ce, if_pos ek, pP (by rw [<- ek]; exact n1)]
   unfold qN sm
   rw [Ce, Ce, DM, DM, hv, mF, mF]
   simp only [decide_eq_true_eq]
   omega
  ·rw [bJ ek] at h
   have := ih n2 h
   rw [Ce, if_neg ek]
   unfold qN sm at *
   rw [Ce, Ce, DM, DM]
   omega
theorem uB {kvs : HK} {k : bq} {v : V} (nd : (kvs.map (·.1)).Nodup) : ((bU kvs k v).map (·.1)).Nodup := by
 cases h : bf kvs k with
 | none => exact wC v nd h
 | some x =>
  have a : (kvs.any fun kv => decide (kv.1 = k)) = true := by rw [b7, h]; rfl
  unfold bU
  rw [if_pos a, Cu]
  have e : ((fun x : bq × V => x.1) ∘ fun kv : bq × V => if kv.1 = k then (kv.1, v) else kv) = fun x => x.1 := by
   funext x
   show (if x.1 = k then (x.1, v) else x).1 = x.1
   split <;> rfl
  rw [e]; exact nd
theorem wV {kvs : HK} {k : bq} {v : V} {e : bq × V} (h : e ∈ bU kvs k v) : e = (k, v) \/ e ∈ kvs := by
 unfold bU at h
 split at h
 ·obtain ⟨x, hx, ex⟩ := Cb.mp h
  by_cases c : x.1 = k
  ·rw [if_pos c] at ex
   left; rw [<- ex, c]
  ·rw [if_neg c] at ex
   right; rw [<- ex]; exact hx
 ·rcases Cw.mp h with m | m
  ·exact .inr m
  ·exact .inl (Cg.mp m)
theorem gO {kvs : HK} {k : bq} {v : V} (h : bf kvs k = some v) : (k, v) ∈ kvs := by
 unfold bf at h
 obtain ⟨x, hx, e⟩ := Cc.mp h
 have := List.find?_some hx
 have e1 : x.1 = k := of_decide_eq_true this
 have := List.mem_of_find?_eq_some hx
 rw [<- e1, <- e]; exact this
theorem iW {kvs : HK} {k : bq} {v : V} (nd : (kvs.map (·.1)).Nodup) (m : (k, v) ∈ kvs) : bf kvs k = some v := by
 induction kvs with
 | nil => cases m
 | cons e r ih =>
  obtain ⟨n1, n2⟩ := C0.mp (show (e.1 :: r.map (·.1)).Nodup from nd)
  rcases Cm.mp m with h | h
  ·subst h; exact bI rfl
  ·have : ¬ e.1 = k := fun z => n1 (by rw [z]; exact Cb.mpr ⟨_, h, rfl⟩)
   rw [bJ this]; exact ih n2 h
theorem oe (as : List Int) (b : Int) : bf (fg as) (Sum.inl b) = if b ∈ as then some (V.bl true) else none := by
 induction as with
 | nil => rfl
 | cons a r ih =>
  show bf ((Sum.inl a, V.bl true) :: fg r) _ = _
  by_cases e : a = b
  ·subst e; rw [bI rfl]; simp
  ·rw [bJ (fun z => e (Sum.inl.inj z)), ih]
   have : ¬ b = a := fun z => e z.symm
   simp [this]
theorem uC {as : List Int} {b : Int} (h : ¬ b ∈ as) : bU (fg as) (Sum.inl b) (V.bl true) = fg (as ++ [b]) := by
 have a : ¬ ((fg as).any fun kv => decide (kv.1 = Sum.inl b)) = true := by rw [b7, oe, if_neg h]; simp
 unfold bU
 rw [if_neg a]
 unfold fg
 rw [Cf]; rfl
def Good (ps : List (List Int)) (kvs : HK) : Prop := ∀ e ∈ kvs, ∃ (b : Int) (q : Nat) (p : List Int), e = (Sum.inl b, V.int q) /\ ps[q]? = some p /\ b ∈ p
theorem Good.put {ps : List (List Int)} {kvs : HK} (g : Good ps kvs) {b : Int} {q : Nat} {p : List Int} (h : ps[q]? = some p) (hb : b ∈ p) : Good ps (bU kvs (Sum.inl b) (.int q)) := fun e he => by
 rcases wV he with z | z
 ·exact ⟨b, q, p, z, h, hb⟩
 ·exact g e z
theorem Good.val {ps : List (List Int)} {kvs : HK} (g : Good ps kvs) {b : Int} {v : V} (h : bf kvs (Sum.inl b) = some v) : ∃ (q : Nat) (p : List Int), v = .int q /\ ps[q]? = some p /\ b ∈ p := by
 obtain ⟨b', q, p, e, h1, h2⟩ := g _ (gO h)
 injection e with e1 e2
 cases e1
 exact ⟨q, p, e2, h1, h2⟩
def Bx (ps : List (List Int)) (kvs : HK) (as as' : List Int) : Prop := ∀ b ∈ as', b ∉ as -> ∃ (q : Nat) (p : List Int), bf kvs (Sum.inl b) = some (.int q) /\ ps[q]? = some p /\ ∀ c ∈ p, c ∈ as'
structure Sett (ps : List (List Int)) (U : List Int) (pl : Nat) (kvs : HK) (as : List Int) (ok : Bool) (kvs' : HK) (as' : List Int) : Prop where
 grow : ∀ b ∈ as, b ∈ as'
 nd : as'.Nodup
 sub : ∀ b ∈ as', b ∈ U
 no : ok = false -> kvs' = kvs /\ (∀ p, ps[pl]? = some p -> ∀ b ∈ p, b ∈ as') /\ Bx ps kvs as as'
 yes : ok = true -> (kvs'.map (·.1)).Nodup /\ Good ps kvs' /\ (∀ q, qN kvs' q = qN kvs q + sm (q = pl)) /\ (∀ b ∈ as, bf kvs' (Sum.inl b) = bf kvs (Sum.inl b)) /\ kvs'.length <= kvs.length + U.length
structure SLoop (ps : List (List Int)) (U : List Int) (p : List Int) (kvs : HK) (as : List Int) (i : Nat) (ai : List Int) : Prop where
 grow : ∀ b ∈ as, b ∈ ai
 nd : ai.Nodup
 sub : ∀ b ∈ ai, b ∈ U
 past : ∀ b ∈ p.take i, b ∈ ai
 clo : Bx ps kvs as ai
theorem fW {p : List Int} {i : Nat} {b c : Int} (h : p[i]? = some b) (hc : c ∈ p.take (i + 1)) : c ∈ p.take i \/ c = b := by
 rw [Dj, h] at hc
 rcases Cw.mp hc with z | z
 ·exact .inl z
 ·exact .inr (by simpa using z)
theorem SLoop.skip {ps : List (List Int)} {U p : List Int} {kvs : HK} {as ai : List Int} {i : Nat} {b : Int} (s : SLoop ps U p kvs as i ai) (h : p[i]? = some b) (hb : b ∈ ai) : SLoop ps U p kvs as (i + 1) ai :=
 ⟨s.grow, s.nd, s.sub, fun c hc => (fW h hc).elim (s.past c) (fun e => e ▸ hb), s.clo⟩
theorem SLoop.miss {ps : List (List Int)} {U p : List Int} {kvs : HK} {as ai : List Int} {i q : Nat} {b : Int} {kvs2 : HK} {as2 : List Int} (s : SLoop ps U p kvs as i ai) (h : p[i]? = some b) (hb : b ∉ ai) (hq : bf kvs (Sum.inl b) = some (.int q)) (hl : q < ps.length)
  (r : Sett ps U q kvs (ai ++ [b]) false kvs2 as2) : kvs2 = kvs /\ SLoop ps U p kvs as (i + 1) as2 := by
 obtain ⟨e, h1, h2⟩ := r.no rfl
 have g : ∀ c ∈ ai, c ∈ as2 := fun c hc => r.grow c (Cr _ hc)
 have gb : b ∈ as2 := r.grow b (by simp)
 refine ⟨e, fun c hc => g c (s.grow c hc), r.nd, r.sub, fun c hc => (fW h hc).elim (fun z => g c (s.past c z)) (fun e => e ▸ gb), fun c hc hn => ?_⟩
 by_cases c1 : c ∈ ai
 ·obtain ⟨q', p', a1, a2, a3⟩ := s.clo c c1 hn
  exact ⟨q', p', a1, a2, fun d hd => g d (a3 d hd)⟩
 ·by_cases c2 : c = b
  ·subst c2
   exact ⟨q, ps[q], hq, B3 hl, h1 _ (B3 hl)⟩
  ·exact h2 c hc (by simp [c1, c2])
theorem SLoop.free {ps : List (List Int)} {U p : List Int} {kvs : HK} {as ai : List Int} {i pl : Nat} {b : Int} (s : SLoop ps U p kvs as i ai) (hp : ps[pl]? = some p) (hU : ∀ b ∈ p, b ∈ U) (h : p[i]? = some b) (hb : b ∉ ai) (hq : bf kvs (Sum.inl b) = none)
  (nd : (kvs.map (·.1)).Nodup) (g : Good ps kvs) : Sett ps U pl kvs as true (bU kvs (Sum.inl b) (.int pl)) (ai ++ [b]) where
 grow := fun c hc => Cr _ (s.grow c hc)
 nd := eI s.nd hb
 sub := fun c hc => (Cw.mp hc).elim (s.sub c) fun z => by rw [Cg.mp z]; exact hU b (B8 h)
 no := fun e => by cases e
 yes := fun _ => ⟨uB nd, g.put hp (B8 h), fun q => wR hq, fun c hc => by
  rw [jL, if_neg (fun e => hb (by cases e; exact s.grow _ hc))], by
  have h1 := dE kvs (Sum.inl b) (V.int (pl : Int))
  have h2 : 0 < U.length := List.length_pos_of_mem (hU b (B8 h))
  omega⟩
theorem SLoop.turn {ps : List (List Int)} {U p : List Int} {kvs : HK} {as ai : List Int} {i pl q : Nat} {b : Int} {kvs2 : HK} {as2 : List Int} (s : SLoop ps U p kvs as i ai) (hp : ps[pl]? = some p) (h : p[i]? = some b) (hb : b ∉ ai)
  (hq : bf kvs (Sum.inl b) = some (.int q)) (r : Sett ps U q kvs (ai ++ [b]) true kvs2 as2) : Sett ps U pl kvs as true (bU kvs2 (Sum.inl b) (.int pl)) as2 := by
 obtain ⟨n2, g2, c2, v2, l2⟩ := r.yes rfl
 have hb2 : bf kvs2 (Sum.inl b) = some (.int q) := (v2 b (by simp)).trans hq
 refine ⟨fun c hc => r.grow c (Cr _ (s.grow c hc)), r.nd, r.sub, (fun e => by cases e), fun _ => ⟨uB n2, g2.put hp (B8 h), fun t => ?_, fun c hc => ?_, ?_⟩⟩
 ·have h1 := wU (p := pl) (q := t) n2 hb2
  have h2 := c2 t
  omega
 ·rw [jL, if_neg (fun e => hb (by cases e; exact s.grow _ hc)), v2 c (Cr _ (s.grow c hc))]
 ·have a : (kvs2.any fun kv => decide (kv.1 = Sum.inl b)) = true := by rw [b7, hb2]; rfl
  unfold bU
  rw [if_pos a, B4]; exact l2
theorem SLoop.done {ps : List (List Int)} {U p : List Int} {kvs : HK} {as ai : List Int} {pl : Nat} (s : SLoop ps U p kvs as p.length ai) (hp : ps[pl]? = some p) : Sett ps U pl kvs as false kvs ai :=
 ⟨s.grow, s.nd, s.sub, fun _ => ⟨rfl, fun p' e b hb => by
  rw [hp] at e; cases e
  exact s.past b (by rw [CW]; exact hb), s.clo⟩, fun e => by cases e⟩
theorem wW {U ai as : List Int} {b : Int} (hU : b ∈ U) (hb : b ∉ ai) (g : ∀ c ∈ as, c ∈ ai) : (U.filter fun c => decide (c ∉ ai ++ [b])).length < (U.filter fun c => decide (c ∉ as)).length := by
 induction U with
 | nil => cases hU
 | cons u r ih =>
  have le : ∀ l : List Int, (l.filter fun c => decide (c ∉ ai ++ [b])).length <= (l.filter fun c => decide (c ∉ as)).length := fun l => by
   induction l with
   | nil => exact Ca _
   | cons x t ih =>
    by_cases hx : x ∈ as
    ·rw [C6 (by simp [g x hx]), C6 (by simp [hx])]; exact ih
    ·rw [Dp (p := fun c => decide (c ∉ as)) (by simp [hx])]
     by_cases hy : x ∈ ai ++ [b]
     ·rw [C6 (by simp only [decide_eq_true_eq]; exact fun z => z hy), Cv]; omega
     ·rw [Dp (by simp only [decide_eq_true_eq]; exact hy), Cv, Cv]; omega
  have hbs : b ∉ as := fun z => hb (g b z)
  by_cases e : u = b
  ·subst e
   rw [C6 (by simp), Dp (p := fun c => decide (c ∉ as)) (by simp [hbs]), Cv]
   have := le r
   omega
  ·have hr : b ∈ r := (Cm.mp hU).resolve_left fun z => e z.symm
   have := ih hr
   by_cases hx : u ∈ as
   ·rw [C6 (by simp [g u hx]), C6 (by simp [hx])]; exact this
   ·rw [Dp (p := fun c => decide (c ∉ as)) (by simp [hx])]
    by_cases hy : u ∈ ai ++ [b]
    ·rw [C6 (by simp only [decide_eq_true_eq]; exact fun z => z hy), Cv]; omega
    ·rw [Dp (by simp only [decide_eq_true_eq]; exact hy), Cv, Cv]; omega
structure Deal (ps : List (List Int)) (hs : List Int) : Prop where
 len : hs.length = ps.length
 of : ∀ k (h1 : k < hs.length) (h2 : k < ps.length), hs[k] ∈ ps[k]
 nd : hs.Nodup
structure Short (ps : List (List Int)) (ms : List Nat) : Prop where
 up : ms.Pairwise (· < ·)
 few : ∃ X : List Int, X.length < ms.length /\ ∀ q ∈ ms, ∃ p, ps[q]? = some p /\ ∀ c ∈ p, c ∈ X
structure Held (ps : List (List Int)) (kvs : HK) (n : Nat) : Prop where
 nd : (kvs.map (·.1)).Nodup
 good : Good ps kvs
 one : ∀ q, qN kvs q = sm (q < n)
theorem Held.start {ps : List (List Int)} : Held ps [] 0 := ⟨DR, fun _ h => (by cases h), fun q => by unfold qN sm; simp⟩
theorem Held.next {ps : List (List Int)} {U : List Int} {kvs kvs' : HK} {n : Nat} {as' : List Int} (h : Held ps kvs n) (r : Sett ps U n kvs [] true kvs' as') : Held ps kvs' (n + 1) := by
 obtain ⟨a, b, c, _⟩ := r.yes rfl
 refine ⟨a, b, fun q => ?_⟩
 rw [c q, h.one q]
 unfold sm
 by_cases h1 : q < n
 ·rw [if_pos h1, if_neg (by omega), if_pos (by omega)]
 ·by_cases h2 : q = n
  ·rw [if_neg h1, if_pos h2, if_pos (by omega)]
  ·rw [if_neg h1, if_neg h2, if_neg (by omega)]
theorem jT {α : Type} [DecidableEq α] {l : List α} (h : ∀ a, l.count a <= 1) : l.Nodup := by
 induction l with
 | nil => exact DR
 | cons x r ih =>
  refine C0.mpr ⟨fun m => ?_, ih fun a => ?_⟩
  ·have q := h x
   have h2 := Es.mpr m
   rw [List.count_cons_self] at q
   exact absurd h2 (Nat.not_lt_of_le (Nat.le_of_succ_le_succ q))
  ·have q := h a
   rw [DM] at q
   exact CJ (DX _ _) q
theorem Held.vals {ps : List (List Int)} {kvs : HK} {n : Nat} (h : Held ps kvs n) : (kvs.map (·.2)).Nodup := jT fun a => by
 by_cases m : a ∈ kvs.map (·.2)
 ·obtain ⟨e, he, ea⟩ := Cb.mp m
  obtain ⟨b, q, p, e1, _⟩ := h.good e he
  have ea' : a = V.int q := by rw [<- ea, e1]
  have := h.one q
  unfold qN sm at this
  rw [ea', this]
  split <;> omega
 ·rw [List.count_eq_zero_of_not_mem m]; omega
theorem Held.lt {ps : List (List Int)} {kvs : HK} {n : Nat} (h : Held ps kvs n) {k : bq} {q : Nat} (m : (k, V.int q) ∈ kvs) : q < n := by
 have h1 : V.int (q : Int) ∈ kvs.map (·.2) := Cb.mpr ⟨_, m, rfl⟩
 have h2 := Es.mpr h1
 have := h.one q
 unfold qN sm at this
 rw [this] at h2
 split at h2
 ·assumption
 ·omega
theorem Held.mem {ps : List (List Int)} {kvs : HK} {n q : Nat} (h : Held ps kvs n) (hq : q < n) : ∃ (b : Int) (p : List Int), (Sum.inl b, V.int q) ∈ kvs /\ ps[q]? = some p /\ b ∈ p := by
 have := h.one q
 unfold qN sm at this
 rw [if_pos hq] at this
 have h1 : V.int (q : Int) ∈ kvs.map (·.2) := Es.mp (by omega)
 obtain ⟨e, he, ea⟩ := Cb.mp h1
 obtain ⟨b, q', p, e1, e2, e3⟩ := h.good e he
 subst e1
 have : q' = q := by
  have z : V.int (q' : Int) = V.int q := ea
  injection z with z
  omega
 subst this
 exact ⟨b, p, he, e2, e3⟩
theorem Held.key {ps : List (List Int)} {kvs : HK} {n q q' : Nat} {b : Int} (h : Held ps kvs n) (h1 : (Sum.inl b, V.int q) ∈ kvs) (h2 : (Sum.inl b, V.int q') ∈ kvs) : q = q' := by
 have a := iW h.nd h1
 have c := iW h.nd h2
 rw [a] at c
 have c := Option.some.inj c
 injection c with c
 omega
theorem Held.inj {ps : List (List Int)} {kvs : HK} {n q : Nat} {k k' : bq} (h : Held ps kvs n) (h1 : (k, V.int q) ∈ kvs) (h2 : (k', V.int q) ∈ kvs) : k = k' := by
 obtain ⟨i, hi, ei⟩ := Ck.mp h1
 obtain ⟨j, hj, ej⟩ := Ck.mp h2
 have nd := h.vals
 have e : (kvs.map (·.2))[i]'(by simpa using hi) = (kvs.map (·.2))[j]'(by simpa using hj) := by simp [ei, ej]
 have := (Dq nd).mp e
 subst this
 rw [ei] at ej
 exact congrArg Prod.fst ej
theorem Held.deal {ps : List (List Int)} {kvs : HK} {hs : List Int} (h : Held ps kvs ps.length) (hl : hs.length = ps.length) (e : ∀ b (q : Nat), (Sum.inl b, V.int q) ∈ kvs -> hs[q]? = some b) : Deal ps hs := by
 refine ⟨hl, fun k h1 h2 => ?_, ?_⟩
 ·obtain ⟨b, p, m, e2, e3⟩ := h.mem h2
  have := e b k m
  rw [B3 h1] at this
  rw [Option.some.inj this]
  rw [B3 h2] at e2
  rw [Option.some.inj e2]; exact e3
 ·rw [Co, CY]
  intro i j hi hj hij z
  obtain ⟨b, _, m, _, _⟩ := h.mem (q := i) (by omega)
  obtain ⟨c, _, m', _, _⟩ := h.mem (q := j) (by omega)
  have e1 := e b i m
  have e2 := e c j m'
  rw [B3 hi] at e1
  rw [B3 hj] at e2
  have e1 := Option.some.inj e1
  have e2 := Option.some.inj e2
  have : b = c := by rw [<- e1, <- e2]; exact z
  subst this
  have := h.key m m'
  omega
def hold (kvs : HK) (b : Int) : Int := match bf kvs (Sum.inl b) with
 | some (.int i) => i
 | _ => 0
theorem gP {kvs : HK} {b i : Int} (h : bf kvs (Sum.inl b) = some (.int i)) : hold kvs b = i := by unfold hold; rw [h]
theorem Held.short {ps : List (List Int)} {U : List Int} {kvs kvs' : HK} {n : Nat} {as' : List Int} {ms : List Int} (h : Held ps kvs n) (hn : n < ps.length) (r : Sett ps U n kvs [] false kvs' as') (hp : ms.Perm ((n : Int) :: as'.map (hold kvs))) (hs : ms.Pairwise (· <= ·)) :
  ∃ qs : List Nat, ms = qs.map Int.ofNat /\ Short ps qs := by
 obtain ⟨_, h1, h2⟩ := r.no rfl
 have hv : ∀ b ∈ as', ∃ (q : Nat) (p : List Int), bf kvs (Sum.inl b) = some (.int q) /\ ps[q]? = some p /\ ∀ c ∈ p, c ∈ as' := fun b hb => h2 b hb (by simp)
 have nd0 : ((n : Int) :: as'.map (hold kvs)).Nodup := by
  refine C0.mpr ⟨fun m => ?_, ?_⟩
  ·obtain ⟨b, hb, e⟩ := Cb.mp m
   obtain ⟨q, p, a1, _⟩ := hv b hb
   rw [gP a1] at e
   have := h.lt (gO a1)
   omega
  ·rw [Co, Df]
   refine List.Pairwise.imp_of_mem (R := (· ≠ ·)) ?_ (Co.mp r.nd)
   intro b c hb hc hne z
   obtain ⟨q, p, a1, _⟩ := hv b hb
   obtain ⟨q', p', a2, _⟩ := hv c hc
   rw [gP a1, gP a2] at z
   have : q = q' := by omega
   subst this
   have := h.inj (gO a1) (gO a2)
   exact hne (Sum.inl.inj this)
 have ndm : ms.Nodup := hp.nodup_iff.mpr nd0
 have nn : ∀ m ∈ ms, ∃ q : Nat, m = Int.ofNat q /\ ∃ p, ps[q]? = some p /\ ∀ c ∈ p, c ∈ as' := fun m hm => by
  rcases Cm.mp (hp.mem_iff.mp hm) with e | e
  ·exact ⟨n, e, ps[n], B3 hn, h1 _ (B3 hn)⟩
  ·obtain ⟨b, hb, e⟩ := Cb.mp e
   obtain ⟨q, p, a1, a2, a3⟩ := hv b hb
   rw [gP a1] at e
   exact ⟨q, e.symm, p, a2, a3⟩
 refine ⟨ms.map Int.toNat, ?_, ?_, as', ?_, fun q hq => ?_⟩
 ·rw [Cu]
  have : ∀ m ∈ ms, (Int.ofNat ∘ Int.toNat) m = m := fun m hm => by
   obtain ⟨q, e, _⟩ := nn m hm
   rw [e]; rfl
  exact ((Cs this).trans (List.map_id _)).symm
 ·rw [Df]
  have both : ms.Pairwise fun a b => a <= b /\ a ≠ b := hs.and (Co.mp ndm)
  refine List.Pairwise.imp_of_mem ?_ both
  intro a b ha hb ⟨h1, h2⟩
  obtain ⟨q, e, _⟩ := nn a ha
  obtain ⟨q', e', _⟩ := nn b hb
  subst e e'
  have : (q : Int) <= q' := h1
  have h3 : (q : Int) ≠ q' := h2
  show q < q'
  omega
 ·rw [B4, hp.length_eq, Cv, B4]; omega
 ·obtain ⟨m, hm, e⟩ := Cb.mp hq
  obtain ⟨q', e', z⟩ := nn m hm
  subst e'
  have : q = q' := by rw [<- e]; rfl
  subst this
  exact z
end L2
namespace L2
open PySem PySem.Spec PyProof.Rows
def SameX (ex : List Addr) (H H' : Hp) : Prop := ∀ b o, b ∉ ex -> H b = some o -> H' b = some o
theorem SameX.refl {ex : List Addr} {H : Hp} : SameX ex H H := fun _ _ _ h => h
theorem SameX.trans {ex : List Addr} {H H1 H2 : Hp} (a : SameX ex H H1) (b : SameX ex H1 H2) : SameX ex H H2 := fun c o n h => b c o n (a c o n h)
theorem SameX.upd {ex : List Addr} {H : Hp} {a : Addr} {o : HO} (h : a ∈ ex) : SameX ex H (ay H a o) := fun b u n e => by rw [aj (fun z : b = a => n (by rw [z]; exact h))]; exact e
theorem Same.x {ex : List Addr} {H H' : Hp} (s : Same H H') : SameX ex H H' := fun b o _ h => s b o h
def uD (H : Hp) (a : Addr) : Prop := ∃ kvs, H a = some (.dK kvs)
theorem SameX.seq {K : PySem.W.Frag} {ex : List Addr} {H H' : Hp} {a : Addr} {xs : List V} (s : SameX ex H H') (hx : ∀ x ∈ ex, uD H x) (h : SqL K H a xs) : SqL K H' a xs := by
 have ne : ∀ u, H a = some u -> (∀ kvs, u ≠ .dK kvs) -> a ∉ ex := fun u e n m => by
  obtain ⟨kvs, q⟩ := hx a m
  rw [e] at q
  exact n kvs (Option.some.inj q)
 rcases h with (h | ⟨o, h⟩) | h
 ·exact .inl (.inl (s _ _ (ne _ h (fun _ z => by cases z)) h))
 ·exact .inl (.inr ⟨o, s _ _ (ne _ h (fun _ z => by cases z)) h⟩)
 ·exact .inr h
def PoolsL (K : PySem.W.Frag) (H : Hp) (rs : List Addr) (ps : List (List Int)) : Prop := Paired (fun r p => SqL K H r (p.map V.int)) rs ps
theorem PoolsL.mono {K : PySem.W.Frag} {ex : List Addr} {H H' : Hp} {rs : List Addr} {ps : List (List Int)} (h : PoolsL K H rs ps) (s : SameX ex H H') (hx : ∀ x ∈ ex, uD H x) : PoolsL K H' rs ps := Paired.mapP h fun _ _ q => s.seq hx q
theorem PoolsL.same {K : PySem.W.Frag} {H H' : Hp} {rs : List Addr} {ps : List (List Int)} (h : PoolsL K H rs ps) (s : Same H H') : PoolsL K H' rs ps := Paired.mapP h fun _ _ q => s.seq q
theorem PoolsL.at {K : PySem.W.Frag} {H : Hp} {rs : List Addr} {ps : List (List Int)} (h : PoolsL K H rs ps) {i : Nat} {p : List Int} (e : ps[i]? = some p) : ∃ r, rs[i]? = some r /\ SqL K H r (p.map V.int) := cK (F := fun (r : Addr) (p : List Int) => SqL K H r (p.map V.int)) h e
theorem PoolsL.len {K : PySem.W.Frag} {H : Hp} {rs : List Addr} {ps : List (List Int)} (h : PoolsL K H rs ps) : rs.length = ps.length := Paired.length h
theorem dU {α β : Type} {F : α -> β -> Prop} : ∀ {l : List α} {r : List β}, l.length = r.length -> (∀ (i : Nat) a b, l[i]? = some a -> r[i]? = some b -> F a b) -> Paired F l r := by
 intro l
 induction l with
 | nil =>
  intro r h f
  cases r with
  | nil => exact .nil
  | cons b r => cases h
 | cons a l ih =>
  intro r h f
  cases r with
  | nil => cases h
  | cons b r => exact .cons (f 0 a b rfl rfl) (ih (Nat.succ.inj h) fun i x y e1 e2 => f (i + 1) x y e1 e2)
theorem qO {ps : List (List Int)} {U : List Int} {kvs : HK} (hU : ∀ p ∈ ps, ∀ b ∈ p, b ∈ U) (g : Good ps kvs) (nd : (kvs.map (·.1)).Nodup) : kvs.length <= U.length := by
 have h : (kvs.map (·.1)).length <= (U.map (Sum.inl : Int -> bq)).length := nd.length_le_of_subset fun k hk => by
  obtain ⟨e, he, ek⟩ := Cb.mp hk
  obtain ⟨b, q, p, e1, e2, e3⟩ := g e he
  rw [<- ek, e1]
  exact Cb.mpr ⟨b, hU p (B8 e2) b e3, rfl⟩
 simpa using h
theorem jz (b : Int) (bs : List Int) : yw (.int b) (bs.map V.int) = decide (b ∈ bs) := by
 unfold yw
 induction bs with
 | nil => rfl
 | cons c r ih =>
  rw [Ce, DZ, ih]
  by_cases h : c = b
  ·subst h; simp [mv]
  ·have h' : ¬ b = c := fun z => h z.symm
   simp [mv, h, h']
theorem gQ (bs : List Int) : (bs.map V.int).all cA = true := by
 rw [C5]
 intro x hx
 obtain ⟨i, _, e⟩ := Cb.mp hx
 rw [<- e]; rfl
theorem og {G : Nat -> Addr -> Prop} : ∀ {l : List Nat} {vs : List V}, Paired (fun i v => ∃ r, v = .ref r /\ G i r) l vs -> ∃ rs : List Addr, vs = rs.map V.ref /\ Paired G l rs := by
 intro l vs h
 induction h with
 | nil => exact ⟨[], rfl, .nil⟩
 | cons q t ih =>
  obtain ⟨r, e, g⟩ := q
  obtain ⟨rs, e2, p⟩ := ih
  exact ⟨r :: rs, by rw [e, e2]; rfl, .cons g p⟩
theorem jU {K : PySem.W.Frag} {H1 : Hp} {js : List (Option Nat)} {σ : L2.St} {te : TE} {Q : VK} {a : Addr} {xs : List V} (f : Nat -> List V) (hl : SqL K H1 a xs) (hn : xs.length < 100000)
  (he : ∀ (i : Nat) x, xs[i]? = some x -> ∀ H2 R, Same H1 H2 -> (∀ r H3, Same H2 H3 -> H2 r = none -> H3 r = some (.lst (f i)) -> R (.ref r) H3) -> te (some x :: bS σ js) H2 R)
  (hQ : ∀ acc (rs : List Addr) H', Same H1 H' -> H1 acc = none -> H' acc = some (.lst (rs.map V.ref)) -> rs.length = xs.length -> (∀ (i : Nat) r, rs[i]? = some r -> H' r = some (.lst (f i)) /\ H1 r = none) -> (∀ r ∈ rs, r ≠ acc) -> Q (.ref acc) H') :
  b8 (nO K a) H1 (none :: js) (bN 0) eJ te σ Q :=
 se (K := K) (H1 := H1) (js := js) (σ := σ) (tc := eJ) (te := te) (Q := Q) (a := a) (xs := xs) (fun _ => true) (fun acc i v H => ∃ r, v = .ref r /\ r ≠ acc /\ H1 r = none /\ H r = some (.lst (f i))) hl hn
  (fun acc i v H H' ⟨r, e, n, h0, h⟩ s => ⟨r, e, n, h0, s r _ n h⟩) (fun _ _ _ _ _ _ h => h)
  (fun acc i x hx _ H2 R s n1 n2 k => he i x hx H2 R s fun r H3 s3 nr h3 => k _ H3 s3 ⟨r, rfl, fun z => n2 (by rw [<- z]; exact nr), s.free nr, h3⟩)
  fun acc vs H' s n' e p => by
   rw [CQ.mpr (fun _ _ => rfl)] at p
   obtain ⟨rs, e2, p2⟩ := og p
   have ln : rs.length = xs.length := by rw [<- Paired.length p2, CH]
   have all : ∀ (i : Nat) r, rs[i]? = some r -> r ≠ acc /\ H1 r = none /\ H' r = some (.lst (f i)) := fun i r hi => by
    obtain ⟨j, hj, g⟩ := cK p2 hi
    have lt : i < xs.length := by rw [<- ln]; exact (B6.mp hi).1
    rw [De lt] at hj
    cases hj
    exact g
   refine hQ acc rs H' s n' (by rw [e, e2]) ln (fun i r hi => ⟨(all i r hi).2.2, (all i r hi).2.1⟩) fun r hr => ?_
   obtain ⟨i, hi, ei⟩ := Ck.mp hr
   exact (all i r (by rw [B3 hi, ei])).1
abbrev kR (xs : List Nat) : Prop := xs.Pairwise (· < ·)
structure CutAt (xs : Array Nat) (j p : Nat) : Prop where
 le : p <= xs.size
 lo : ∀ i (h : i < xs.size), i < p -> xs[i] < j
 hi : ∀ i (h : i < xs.size), p <= i -> j <= xs[i]
theorem gR {xs : Array Nat} (r : kR xs.toList) {i k : Nat} (hi : i < xs.size) (hk : k < xs.size) (h : i < k) : xs[i] < xs[k] := by
 have := CY.mp r i k (by simpa using hi) (by simpa using hk) h
 simpa using this
theorem uE {xs : Array Nat} (r : kR xs.toList) (j : Nat) : ∀ (f lo hi : Nat), hi - lo <= f -> lo <= hi -> hi <= xs.size -> (∀ i (h : i < xs.size), i < lo -> xs[i] < j) -> (∀ i (h : i < xs.size), hi <= i -> j <= xs[i]) -> CutAt xs j (SetTable.below.go xs j f lo hi) := by
 intro f
 induction f with
 | zero =>
  intro lo hi hf hl hs h1 h2
  have e : hi = lo := by omega
  subst e
  exact ⟨hs, h1, h2⟩
 | succ f ih =>
  intro lo hi hf hl hs h1 h2
  unfold SetTable.below.go
  by_cases hlt : lo < hi
  ·rw [if_pos hlt]
   have hm : (lo + hi) / 2 < xs.size := by omega
   have eg : xs.getD ((lo + hi) / 2) j = xs[(lo + hi) / 2] := by simp [hm]
   dsimp only
   rw [eg]
   by_cases hc : xs[(lo + hi) / 2] < j
   ·rw [if_pos hc]
    refine ih _ _ (by omega) (by omega) hs (fun i h hi' => ?_) h2
    by_cases e : i = (lo + hi) / 2
    ·subst e; exact hc
    ·exact Nat.lt_trans (gR r h hm (by omega)) hc
   ·rw [if_neg hc]
    refine ih _ _ (by omega) (by omega) (by omega) h1 fun i h hi' => ?_
    by_cases e : i = (lo + hi) / 2
    ·subst e; omega
    ·have := gR r hm h (by omega)
     omega
  ·rw [if_neg hlt]
   have e : hi = lo := by omega
   subst e
   exact ⟨hs, h1, h2⟩
theorem lL {xs : Array Nat} (r : kR xs.toList) (j : Nat) : CutAt xs j (SetTable.below xs j) :=
 uE r j xs.size 0 xs.size (by omega) (Cz _) (Ca _) (fun i _ h => by omega) fun i h h' => by omega
theorem CutAt.unique {xs : Array Nat} {j p q : Nat} (a : CutAt xs j p) (b : CutAt xs j q) : p = q := by
 rcases Ef p q with h | h | h
 ·have hp : p < xs.size := Cy h b.le
  have := b.lo p hp h
  have := a.hi p hp (Ca _)
  omega
 ·exact h
 ·have hq : q < xs.size := Cy h a.le
  have := a.lo q hq h
  have := b.hi q hq (Ca _)
  omega
theorem oi {xs : Array Nat} {j : Nat} (r : kR xs.toList) (hn : xs[SetTable.below xs j]? ≠ some j) : kR (SetTable.insertAt xs (SetTable.below xs j) j).toList := by
 have c := lL r j
 generalize SetTable.below xs j = p at hn c
 have e : (SetTable.insertAt xs p j).toList = xs.toList.take p ++ j :: xs.toList.drop p := by
  unfold SetTable.insertAt
  simp [Array.toList_append, Ey, List.extract_eq_take_drop]
  exact Di (by simp)
 rw [e]
 refine List.pairwise_append.mpr ⟨r.sublist (List.take_sublist _ _), List.pairwise_cons.mpr ⟨fun x hx => ?_, r.sublist (List.drop_sublist _ _)⟩, fun x hx y hy => ?_⟩
 ·obtain ⟨i, hi, ei⟩ := Ck.mp hx
  rw [Dr, CL] at hi
  rw [List.getElem_drop, Em] at ei
  have h1 := c.hi (p + i) (by omega) (by omega)
  rw [ei] at h1
  by_cases z : x = j
  ·exfalso
   have hp : p < xs.size := by omega
   have h2 := c.hi p hp (Ca _)
   have h3 : xs[p] <= xs[p + i] := by
    by_cases i0 : i = 0
    ·subst i0; exact Ca _
    ·exact C4 (gR r hp (by omega) (by omega))
   have h4 : xs[p] = j := by rw [ei, z] at h3; omega
   exact hn (by rw [CZ hp, h4])
  ·omega
 ·obtain ⟨i, hi, ei⟩ := Ck.mp hx
  rw [CO, CL] at hi
  rw [DF, Em] at ei
  have h1 := c.lo i (by omega) (by omega)
  rw [ei] at h1
  rcases Cm.mp hy with z | z
  ·omega
  ·obtain ⟨k, hk, ek⟩ := Ck.mp z
   rw [Dr, CL] at hk
   rw [List.getElem_drop, Em] at ek
   have h2 := c.hi (p + k) (by omega) (by omega)
   omega
theorem lM {t : SetTable} {j : Nat} (h : t.slot j = .empty \/ t.slot j = .dummy) : t.place[SetTable.below t.place j]? ≠ some j := by
 intro z
 have e : t.slot j = .live (SetTable.below t.place j) := by
  unfold SetTable.slot
  dsimp only
  rw [z]
  simp
 rw [e] at h
 rcases h with h | h <;> cases h
theorem pQ {t : SetTable} {hh : Nat -> Int} {h : Int} : ∀ (f : Nat) (p : SetTable.Probe) (j : Nat) (d : Option Nat), (∀ x, p.dummy = some x -> t.slot x = .dummy) -> SetTable.probe.go t hh h f p = some (.empty j d) -> t.slot j = .empty /\ ∀ x, d = some x -> t.slot x = .dummy := by
 intro f
 induction f with
 | zero => intro p j d _ e; unfold SetTable.probe.go at e; cases e
 | succ f ih =>
  intro p j d hp e
  unfold SetTable.probe.go at e
  have adv : ∀ q : SetTable.Probe, (t.advance q).dummy = q.dummy := fun q => by
   unfold SetTable.advance
   split <;> rfl
  cases hs : t.slot p.j with
  | empty =>
   rw [hs] at e
   cases e
   exact ⟨hs, hp⟩
  | dummy =>
   rw [hs] at e
   refine ih _ j d (fun x hx => ?_) e
   rw [adv] at hx
   cases hx
   exact hs
  | live i =>
   rw [hs] at e
   dsimp only at e
   split at e
   ·cases e
   ·refine ih _ j d (fun x hx => ?_) e
    rw [adv] at hx
    exact hp x hx
theorem kU {t : SetTable} {h : Int} {j : Nat} {b : Bool} (e : t.freeSlot h = some (j, b)) : t.place[SetTable.below t.place j]? ≠ some j := by
 unfold SetTable.freeSlot at e
 split at e
 ·rename_i j' d hm
  have := pQ (t := t) (h := h) _ _ j' d (fun x hx => by cases hx) hm
  have e' := Option.some.inj e
  cases d with
  | none =>
   have : j' = j := by have := congrArg Prod.fst e'; simpa using this
   subst this
   exact lM (.inl this.1)
  | some x =>
   have hx : x = j := by have := congrArg Prod.fst e'; simpa using this
   subst hx
   exact lM (.inr (this.2 x rfl))
 ·cases e
structure TabK (led : Bool) (t : SetTable) : Prop where
 led : t.led = led
 rise : t.plain = true -> kR t.place.toList
theorem dH {led : Bool} {t : SetTable} (h : t.led = led) (n : Nat) : TabK led (t.standIn n) := ⟨h, fun z => by cases z⟩
theorem kW {led : Bool} {t : SetTable} (h : TabK led t) (n : Nat) : TabK led (t.orStandIn n) := by
 unfold SetTable.orStandIn
 split
 ·exact h
 ·exact dH h.led n
theorem pU {led : Bool} {t : SetTable} (h : TabK led t) (es : Array (Int × Value)) (hh : Int) (x : Value) : TabK led (layNew t es hh x).2.1 := by
 unfold layNew
 cases e : t.freeSlot hh with
 | none => exact dH h.led _
 | some q =>
  obtain ⟨j, b⟩ := q
  refine kW (t := (t.put j).1) ⟨h.led, fun z => ?_⟩ _
  exact oi (h.rise z) (kU e)
theorem so {mask finger moves : Nat} {led plain : Bool} {hs : Array Int} {t : SetTable} {o : Array Nat} (e : SetTable.laid mask finger moves led plain hs = some (t, o)) : t.led = led /\ kR t.place.toList := by
 unfold SetTable.laid at e
 obtain ⟨ow, _, e2⟩ := Option.bind_eq_some_iff.mp e
 have e2 := Option.some.inj e2
 have ht := congrArg Prod.fst e2
 dsimp only at ht
 rw [<- ht]
 refine ⟨rfl, ?_⟩
 show List.Pairwise (fun a b => a < b) (List.map (fun x : Nat × Nat => x.1) _)
 rw [Df]
 refine List.pairwise_filterMap.mpr ?_
 refine List.Pairwise.imp ?_ List.pairwise_lt_range
 intro a b hab x hx y hy
 obtain ⟨u, _, eu⟩ := Cc.mp hx
 obtain ⟨v, _, ev⟩ := Cc.mp hy
 rw [<- eu, <- ev]
 exact hab
theorem mG {led : Bool} {t : SetTable} (h : TabK led t) (es : Array (Int × Value)) (n : Nat) : TabK led (relayAll t es n).2.1 := by
 unfold relayAll
 cases e : t.relaid (es.map (·.1)) n with
 | none => exact dH h.led _
 | some q =>
  obtain ⟨t', o⟩ := q
  dsimp only
  split
  ·have := so e
   exact ⟨this.1.trans h.led, fun _ => this.2⟩
  ·exact dH h.led _
abbrev cz (w : World) : Bool := w.params.followText "set-order"
def Ents (es : List (Int × Value)) (ks : List Int) : Prop := Paired (fun (e : Int × Value) (k : Int) => ∃ t, e = (hashInt k, Value.int k t)) es ks
structure SetIn (w : World) (o : Obj) (es : Array (Int × Value)) (ep : Nat) (t : SetTable) (ks : List Int) : Prop where
 ex : o.ExactSet
 da : o.data = .set es ep t
 en : Ents es.toList ks
 nd : ks.Nodup
 sz : ks.length < 4000
 ft : t.fits es.size = true
 tb : TabK (!cz w) t
def SX (w : World) (a : Addr) (ms : List Int) : Heap -> Prop := fun h => ∃ o es ep t ks, h.get? a = some o /\ SetIn w o es ep t ks /\ ks.Perm ms
theorem SX.at {w : World} {a : Addr} {ms : List Int} {h h' : Heap} (x : SX w a ms h) (k : ∀ o, h.get? a = some o -> h'.get? a = some o) : SX w a ms h' := by
 obtain ⟨o, es, ep, t, ks, e, r⟩ := x
 exact ⟨o, es, ep, t, ks, k o e, r⟩
theorem SX.lt {w : World} {a : Addr} {ms : List Int} {h : Heap} (x : SX w a ms h) : a < h.objs.size := by
 obtain ⟨o, es, ep, t, ks, e, r⟩ := x
 exact Heap.lt_size e
theorem SX.perm {w : World} {a : Addr} {ms ns : List Int} {h : Heap} (x : SX w a ms h) (p : ms.Perm ns) : SX w a ns h := by
 obtain ⟨o, es, ep, t, ks, e, r, q⟩ := x
 exact ⟨o, es, ep, t, ks, e, r, q.trans p⟩
theorem Ents.mem : ∀ {es : List (Int × Value)} {ks : List Int}, Ents es ks -> ∀ {e : Int × Value}, e ∈ es -> ∃ k t, k ∈ ks /\ e = (hashInt k, Value.int k t) := by
 intro es ks h e
 unfold Ents at h
 induction h with
 | nil => intro h; cases h
 | cons q r ih =>
  intro h
  obtain ⟨t, q⟩ := q
  rcases Cm.mp h with z | z
  ·exact ⟨_, t, CK, z.trans q⟩
  ·obtain ⟨k, t, m, q⟩ := ih z
   exact ⟨k, t, Ct _ m, q⟩
theorem Ents.elems {P : Program} {w : World} {es : List (Int × Value)} {ks : List Int} (h : Ents es ks) : ElemsOf (intKind P w) es := fun e he => by
 obtain ⟨k, t, _, q⟩ := h.mem he
 subst q
 exact ⟨⟨k, intKind_is P w k t, rfl⟩, rfl⟩
theorem Ents.len {es : List (Int × Value)} {ks : List Int} (h : Ents es ks) : es.length = ks.length := Paired.length h
theorem Ents.perm {es es' : List (Int × Value)} (p : es'.Perm es) : ∀ {ks : List Int}, Ents es ks -> ∃ ks', Ents es' ks' /\ ks'.Perm ks := by
 induction p with
 | nil => intro ks h; cases h; exact ⟨[], .nil, .nil⟩
 | cons x _ ih =>
  intro ks h
  cases h with
  | cons q r =>
   obtain ⟨ks', a, b⟩ := ih r
   exact ⟨_ :: ks', .cons q a, b.cons _⟩
 | swap x y l =>
  intro ks h
  cases h with
  | cons q r =>
   cases r with
   | cons q' r => exact ⟨_ :: _ :: _, .cons q' (.cons q r), .swap _ _ _⟩
 | trans _ _ ih1 ih2 =>
  intro ks h
  obtain ⟨k2, a, b⟩ := ih2 h
  obtain ⟨k3, c, d⟩ := ih1 a
  exact ⟨k3, c, d.trans b⟩
theorem lN (k j : Int) (t : Tok) : Value.isInt k (.int j t) = decide (k = j) := by
 by_cases h : k = j
 ·subst h; simp [Value.isInt]
 ·simp [Value.isInt, h]
  exact fun z => h z.symm
theorem Ents.find {P : Program} {w : World} {k : Int} : ∀ {es : List (Int × Value)} {ks : List Int}, Ents es ks -> (es.findIdx? (fun e => (intKind P w).is k e.2)).isSome = decide (k ∈ ks) := by
 intro es ks h
 unfold Ents at h
 induction h with
 | nil => rfl
 | @cons a j es ks q r ih =>
  obtain ⟨t, q⟩ := q
  subst q
  rw [List.findIdx?_cons]
  have e : (intKind P w).is k (hashInt j, Value.int j t).2 = decide (k = j) := lN k j t
  rw [e]
  by_cases h : k = j
  ·subst h; simp
  ·simp [h, ih]
section
variable {P : Program} {w : World} {A : Around} {E : Value -> Shared -> Prop} {s : Shared} {a : Addr} {ms ks : List Int} {o : Obj} {es : Array (Int × Value)} {ep : Nat} {t : SetTable}
theorem SetIn.bound (h : SetIn w o es ep t ks) : es.size < scanBound := by
 have : es.size = ks.length := by rw [<- h.en.len, CL]
 have := h.sz
 have e : scanBound = 4096 := rfl
 omega
theorem SetIn.size (h : SetIn w o es ep t ks) : es.size = ks.length := by rw [<- h.en.len, CL]
theorem pV {es' : Array (Int × Value)} {t' : SetTable} {ks' : List Int} (ho : s.heap.get? a = some o) (h : SetIn w o es ep t ks) (en : Ents es'.toList ks') (nd : ks'.Nodup) (sz : ks'.length < 4000) (ft : t'.fits es'.size = true) (tb : TabK (!cz w) t') :
  ∃ o', (s.heap.update a (Obj.putSet es' t')).get? a = some o' /\ SetIn w o' es' (ep + 1) t' ks' := by
 have g := Heap.get?_update_self (Obj.putSet es' t') ho (by rw [putSet_of es' t' h.da]; rfl)
 rw [putSet_of es' t' h.da] at g
 exact ⟨_, g, ⟨h.ex, rfl, en, nd, sz, ft, tb⟩⟩
theorem qP {g : Bool -> Sem Unit} {Q : Unit -> Shared -> Prop} (hg : ∀ b, g b = match b with | true => rule "set.scan.the-table-gave-way" | false => pure ()) (b : Bool) {s : Shared} (h : Q () s) : wpAny (model P w) A (g b) Q E s := by
 rw [hg b]
 cases b with
 | true => exact wpAny_rule h
 | false => exact wpAny_pure h
theorem yM {x : Int} {tk : Tok} {Q : Bool -> Shared -> Prop} (ho : s.heap.get? a = some o) (hs : SetIn w o es ep t ks) (hl : ks.length + 1 < 4000)
  (h1 : x ∈ ks -> Q false s) (h2 : x ∉ ks -> ∀ h', Heap.SameBut a s.heap h' -> SX w a (ks ++ [x]) h' -> Q true { s with heap := h' }) : wpAny (model P w) A (setAddHashed a (.int x tk) (hashInt x)) Q E s := by
 have hel := hs.en.elems (P := P) (w := w)
 have hky : (intKind P w).is x (.int x tk) = true := intKind_is P w x tk
 unfold setAddHashed setAddHashedIn
 refine wpAny_holding (wpAny_bind (wpAny_setState_of ho hs.da hs.ft ?_))
 dsimp only
 rw [byScan_of (knd := intKind P w) rfl hs.bound hel, if_pos rfl]
 refine wpAny_bind ?_
 unfold setAddByScan
 refine wpAny_bind (wpAny_rule (wpAny_bind (wpAny_setScan_of (knd := intKind P w) (k := x) hky ho hs.da hs.ft hel ?_)))
 have fd := hs.en.find (P := P) (w := w) (k := x)
 cases hr : List.findIdx? (fun e => (intKind P w).is x e.2) es.toList with
 | some j =>
  rw [hr] at fd
  exact wpAny_pure (wpAny_pure (h1 (of_decide_eq_true fd.symm)))
 | none =>
  rw [hr] at fd
  have hx : x ∉ ks := of_decide_eq_false fd.symm
  have p1 := layNew_perm t es (hashInt x) (Value.int x tk)
  have f1 := layNew_fits t es (hashInt x) (Value.int x tk)
  have t1 := pU hs.tb es (hashInt x) (Value.int x tk)
  generalize layNew t es (hashInt x) (Value.int x tk) = L at p1 f1 t1 ⊢
  obtain ⟨e1, u1, wasD, gave⟩ := L
  dsimp only at p1 f1 t1 ⊢
  rw [Ey] at p1
  obtain ⟨k1, n1, q1⟩ := Ents.perm p1 (ks := ks ++ [x]) (Paired.snoc hs.en ⟨tk, rfl⟩)
  have nd1 : k1.Nodup := q1.nodup_iff.mpr (eI hs.nd hx)
  have l1 : k1.length < 4000 := by rw [q1.length_eq, Cd, Cn]; exact hl
  have b1 : e1.size <= sizeLine := by
   have : e1.size = k1.length := by rw [<- n1.len, CL]
   exact CJ (by omega) (C4 (iV (n := 99999) (by omega)))
  refine wpAny_bind (qP (fun b => by cases b <;> rfl) gave ?_)
  have tail : ∀ u2 : SetTable, u2.fits e1.size = true -> TabK (!cz w) u2 -> ∀ R : Option Bool -> Shared -> Prop, (∀ h', Heap.SameBut a s.heap h' -> SX w a (ks ++ [x]) h' -> R (some true) { s with heap := h' }) -> ∀ g : Bool -> Sem Unit, (∀ b, g b = match b with | true => rule "set.scan.the-table-gave-way" | false => pure ()) ->
    wpAny (model P w) A (do
     storeSet a e1 u2
     if (!wasD && u2.tooFull) = true then
      let (es, t, gave) := relayAll u2 e1 (SetTable.grown e1.size)
      g gave
      storeSet a es t
     return some true) R E s := by
   intro u2 f2 t2 R hR g hg
   refine wpAny_bind (wpAny_storeSet_of ho hs.da ?_ b1)
   obtain ⟨o', ho', hs'⟩ := pV (s := s) ho hs n1 nd1 l1 f2 t2
   have sb1 := Heap.SameBut.update s.heap a (Obj.putSet e1 u2)
   by_cases hc : (!wasD && u2.tooFull) = true
   ·rw [if_pos hc]
    have p3 := relayAll_perm u2 e1 (SetTable.grown e1.size)
    have f3 := relayAll_fits u2 e1 (SetTable.grown e1.size)
    have t3 := mG t2 e1 (SetTable.grown e1.size)
    generalize relayAll u2 e1 (SetTable.grown e1.size) = L at p3 f3 t3 ⊢
    obtain ⟨e3, u3, gave3⟩ := L
    dsimp only at p3 f3 t3 ⊢
    obtain ⟨k3, n3, q3⟩ := Ents.perm p3 n1
    have z3 : e3.size = e1.size := by rw [<- CL, p3.length_eq, CL]
    refine wpAny_bind (qP hg gave3 ?_)
    refine wpAny_bind (wpAny_storeSet_of ho' hs'.da ?_ (by rw [z3]; exact b1))
    obtain ⟨o3, ho3, hs3⟩ := pV (s := { s with heap := s.heap.update a (Obj.putSet e1 u2) }) ho' hs' n3 (q3.nodup_iff.mpr nd1) (by rw [q3.length_eq]; exact l1) f3 t3
    exact wpAny_pure (hR _ (sb1.trans (Heap.SameBut.update _ a _)) ⟨o3, e3, _, u3, k3, ho3, hs3, q3.trans q1⟩)
   ·rw [if_neg hc]
    exact wpAny_pure (hR _ sb1 ⟨o', e1, _, u2, k1, ho', hs', q1⟩)
  by_cases hp : u1.plain = true
  ·rw [if_pos hp]
   refine wpAny_bind ?_
   rw [hashByValue_scannable 8 (x := Value.int x tk) rfl]
   refine wpAny_pure ?_
   refine tail u1 f1 t1 _ (fun h' sb sx => ?_) _ (fun b => by cases b <;> rfl)
   exact wpAny_pure (h2 hx h' sb sx)
  ·rw [if_neg hp]
   refine wpAny_bind (wpAny_pure ?_)
   refine tail u1 f1 t1 _ (fun h' sb sx => ?_) _ (fun b => by cases b <;> rfl)
   exact wpAny_pure (h2 hx h' sb sx)
end
theorem bK : Slot "set_iterator" "__next__" "set_iterator.__next__" := .of (owner := "set_iterator") (n := "__next__") (by rw [typeLookup_type, builtinLookup_eq_fast]; kernel_rfl) (by decide +kernel) (by decide +kernel) (by decide +kernel) (.inl (by decide +kernel)) (by rw [isSubtype_type]; kernel_rfl)
theorem fX : entryFor table "set_iterator.__next__" = some Builtin.«set_iterator.__next__» := entryFor_of_tree (by kernel_rfl)
theorem gS (a : Value) : argsOk "set_iterator.__next__" ⟨[a], []⟩ := by unfold argsOk; kernel_rfl
theorem gT : Slot "set_iterator" "__iter__" "set_iterator.__iter__" := .of (owner := "set_iterator") (n := "__iter__") (by rw [typeLookup_type, builtinLookup_eq_fast]; kernel_rfl) (by decide +kernel) (by decide +kernel) (by decide +kernel) (.inl (by decide +kernel)) (by rw [isSubtype_type]; kernel_rfl)
theorem kX : entryFor table "set_iterator.__iter__" = some Builtin.«dict_keyiterator.__iter__» := entryFor_alias (id' := "dict_keyiterator.__iter__") (by kernel_rfl) rfl (by decide +kernel) (by kernel_rfl)
theorem mH (a : Value) : argsOk "set_iterator.__iter__" ⟨[a], []⟩ := by unfold argsOk; kernel_rfl
theorem jV : entryFor table "set.__iter__" = some Builtin.«frozenset.__iter__» := entryFor_alias (id' := "frozenset.__iter__") (by kernel_rfl) rfl (by decide +kernel) (by kernel_rfl)
theorem jW {α : Type} {l : List α} {i : Nat} {x : α} (h : l[i]? = some x) : l.Perm (x :: l.eraseIdx i) := by
 induction l generalizing i with
 | nil => simp at h
 | cons y r ih =>
  cases i with
  | zero => simp at h; subst h; simp
  | succ i =>
   simp at h
   exact ((ih h).cons y).trans (.swap _ _ _)
theorem wX {α : Type} (next : Nat -> Nat) (f k : Nat) (left : List α) (out : Array α) (h : left.length = f) : (pickOrder.go next f k left out).toList.Perm (out.toList ++ left) := by
 induction f generalizing k left out with
 | zero =>
  have : left = [] := Dg.mp h
  subst this
  unfold pickOrder.go
  simp
 | succ f ih =>
  unfold pickOrder.go
  have hp : 0 < left.length := by omega
  have hl := Nat.mod_lt (next k) hp
  rw [B3 hl]
  dsimp only
  refine (ih (k + 1) _ _ (by rw [Ew hl]; omega)).trans ?_
  rw [Ey, DQ]
  exact (jW (B3 hl)).symm.append_left _
theorem iA {α : Type} (next : Nat -> Nat) (xs : Array α) : (pickOrder next xs).toList.Perm xs.toList := by
 have := wX next xs.size 0 xs.toList #[] (by simp)
 unfold pickOrder
 simpa using this
section
variable {M : Model} {A : Around} {E : Value -> Shared -> Prop} {s : Shared}
theorem pW {src : Source} {n : Nat} {Q : Nat -> Shared -> Prop} (hn : n ≠ 0) (h : ∀ i d, i < n -> Q i { s with drawn := d }) : wpAny M A (choose src n) Q E s := fun Γ p _ => by
 show Sem.wp M Γ (.choose src n .pure) _ _ p s
 rw [Sem.wp_choose]
 exact ⟨hn, h _ _ (Nat.mod_lt _ (Nat.pos_of_ne_zero hn))⟩
theorem pX {α : Type} : ∀ (n : Nat) (xs : List α) (s : Shared) (Q : List α -> Shared -> Prop), xs.length = n -> (∀ ys d, ys.Perm xs -> Q ys { s with drawn := d }) -> wpAny M A (drawOrder n xs) Q E s := by
 intro n
 induction n with
 | zero =>
  intro xs s Q hl h
  have : xs = [] := Dg.mp hl
  subst this
  unfold drawOrder
  exact wpAny_pure (h [] s.drawn (.refl _))
 | succ n ih =>
  intro xs s Q hl h
  cases xs with
  | nil => cases hl
  | cons x r =>
   unfold drawOrder
   refine wpAny_bind (pW (by simp) fun i d hi => ?_)
   rw [B3 hi]
   dsimp only
   refine wpAny_bind (ih _ _ _ (by rw [Ew hi, hl]; rfl) fun ys d' hp => wpAny_pure ?_)
   exact h _ d' ((hp.cons _).trans (jW (B3 hi)).symm)
end
abbrev jj (h : Heap) (I : Addr) (first : Value) (i : Nat) (S : Addr) (n ep : Nat) : Prop :=
 h.get? I = some { cls := .type "set_iterator", dict := none, data := .fields #[first, .int i 0, .ref S, .int n 0, .int ep 0], slots := #[] }
section
variable {P : Program} {w : World} {A : Around} {E : Value -> Shared -> Prop} {s : Shared} {I S : Addr} {ks : List Int} {o : Obj} {es : Array (Int × Value)} {ep i : Nat} {t : SetTable} {first : Value}
theorem qQ {Q : Value -> Shared -> Prop} {n : Nat} (hit : jj s.heap I first i S n ep) (h : Q (.ref I) s) : wpAny (model P w) A (pyIter (.ref I)) Q E s := by
 have hT : s.TypeIs (.ref I) "set_iterator" := ⟨_, hit, rfl⟩
 refine wpAny_pyIter_slot hT gT (wpAny_call_entry gT hT kX ?_ (mH _))
 show wpAny _ _ (ret (.ref I)) _ _ s
 exact wpAny_pure ⟨_, rfl, "set_iterator", _, hT, bK.lookup, h⟩
theorem lO {A' : Around} {R : Fin -> Shared -> Prop} {Q : Option Value -> Shared -> Prop} (hh : A'.handled = none) (h : ∀ h', (∀ b o, s.heap.get? b = some o -> h'.get? b = some o) -> Q none { s with heap := h' }) :
  wpAny (model P w) A' (do let e <- newExc (.type "StopIteration") []; raiseNew e) R (fun e s' => wpAny (model P w) A (do let b <- isInstance e (.type "StopIteration"); if b = true then pure none else throw e) Q E s') s := by
 refine wpAny_bind ?_
 simp only [newExc, newTuple]
 refine wpAny_bind (wpAny_newObj_type ?_ (by size_fits))
 refine wpAny_bind (m := firstArgMember _ _) (wpAny_of_eq (a := Value.none) (by first | rfl | (simp only [firstArgMember]; rfl)) ?_)
 refine wpAny_newObj_type ?_ (by size_fits)
 simp only [raiseNew]
 refine wpAny_bind (wpAny_handled ?_)
 rw [hh]
 refine wpAny_bind (wpAny_pure (wpAny_throw ?_))
 refine wpAny_bind (wpAny_isInstance (T := "StopIteration") (b := true) ⟨_, Heap.get?_push_size _ rfl, rfl⟩ isSubtype_stop ?_)
 exact wpAny_pure (h _ fun b o e => Heap.get?_push_of_some _ (Heap.get?_push_of_some _ e))
theorem qR {Q : Option Value -> Shared -> Prop} {slot : Nat} (hh : A.handled = none) (hit : jj s.heap I (.int slot 0) i S es.size ep) (ho : s.heap.get? S = some o) (hs : SetIn w o es ep t ks) (r : Option (Value × Nat))
  (hr : ∀ (A' : Around) (E' : Value -> Shared -> Prop) (R : Option (Value × Nat) -> Shared -> Prop), R r s -> wpAny (model P w) A' (setNext S slot i ep) R E' s)
  (h1 : ∀ x nx h', r = some (x, nx) -> jj h' I (.int nx 0) (i + 1) S es.size ep -> Heap.SameBut I s.heap h' -> Q (some x) { s with heap := h' })
  (h2 : ∀ h', r = none -> (∀ b o, b ≠ I -> s.heap.get? b = some o -> h'.get? b = some o) -> Q none { s with heap := h' }) : wpAny (model P w) A (pyNext (.ref I)) Q E s := by
 have hT : s.TypeIs (.ref I) "set_iterator" := ⟨_, hit, rfl⟩
 unfold pyNext
 refine wpAny_bind (wpAny_attempt (wpAny_callSpecial?_slot (name := Str.ofString "__next__") hT bK (wpAny_call_entry bK hT fX ?_ (gS _))))
 unfold Builtin.«set_iterator.__next__»
 refine wpAny_bind (wpAny_pure ?_)
 refine wpAny_bind (wpAny_fieldsOf hit rfl ?_)
 dsimp only
 refine wpAny_bind (wpAny_setEntries_of ho hs.da hs.ft ?_)
 rw [if_neg (by simp)]
 refine wpAny_bind (hr _ _ _ ?_)
 cases r with
 | none =>
  dsimp only
  refine wpAny_bind (wpAny_setField hit rfl (by simp) ?_)
  exact lO (A := A) (show A.in1.handled = none from hh) fun h' k => h2 h' rfl fun b o hb e => k b o ((Heap.get?_update_other _ _ (Ne.symm hb)).trans e)
 | some q =>
  obtain ⟨x, nx⟩ := q
  dsimp only
  refine wpAny_bind (wpAny_setField_rec hit (by simp) fun ha ea sa => ?_)
  refine wpAny_bind (wpAny_setField_rec ea (by simp) fun hb eb sb => wpAny_pure ⟨x, rfl, wpAny_pure (h1 x nx hb rfl ?_ (sa.trans sb))⟩)
  have e : ((i + 1 : Nat) : Int) = (i : Int) + 1 := by omega
  unfold jj
  rw [e]
  simpa [rawInt] using eb
theorem fY {Q : Option Value -> Shared -> Prop} {T : Addr} {ps : List Nat} {m : Nat} (hh : A.handled = none) (hit : jj s.heap I (.ref T) i S es.size ep) (hT2 : s.heap.get? T = some { cls := .type "tuple", data := .seq (ps.map fun (p : Nat) => rawInt p).toArray m })
  (ho : s.heap.get? S = some o) (hs : SetIn w o es ep t ks) (hp : ∀ p ∈ ps, p < es.size)
  (h1 : ∀ p h', ps[i]? = some p -> jj h' I (.ref T) (i + 1) S es.size ep -> Heap.SameBut I s.heap h' -> Q (es[p]?.map (·.2)) { s with heap := h' })
  (h2 : ∀ h', ps[i]? = none -> (∀ b o, b ≠ I -> s.heap.get? b = some o -> h'.get? b = some o) -> Q none { s with heap := h' }) : wpAny (model P w) A (pyNext (.ref I)) Q E s := by
 have hT : s.TypeIs (.ref I) "set_iterator" := ⟨_, hit, rfl⟩
 unfold pyNext
 refine wpAny_bind (wpAny_attempt (wpAny_callSpecial?_slot (name := Str.ofString "__next__") hT bK (wpAny_call_entry bK hT fX ?_ (gS _))))
 unfold Builtin.«set_iterator.__next__»
 refine wpAny_bind (wpAny_pure ?_)
 refine wpAny_bind (wpAny_fieldsOf hit rfl ?_)
 dsimp only
 refine wpAny_bind (wpAny_setEntries_of ho hs.da hs.ft ?_)
 rw [if_neg (by simp)]
 refine wpAny_bind (wpAny_seqItems hT2 rfl ?_)
 dsimp only
 have eq : (ps.map fun (p : Nat) => rawInt p).toArray[(i : Int).toNat]? = (ps[i]?).map fun (p : Nat) => rawInt p := by
  rw [CG, List.getElem?_toArray, B7]
 rw [eq]
 cases hpi : ps[i]? with
 | none =>
  dsimp only [Option.map_none]
  refine wpAny_bind (wpAny_setField_rec hit (by simp) fun ha ea sa => ?_)
  refine wpAny_bind (wpAny_setField ea rfl (by simp) ?_)
  refine lO (A := A) (show A.in1.handled = none from hh) fun h' k => h2 h' hpi fun b o hb e => k b o ?_
  exact (Heap.get?_update_other _ _ (Ne.symm hb)).trans ((sa.2 b hb).trans e)
 | some p =>
  have hlt : p < es.size := hp p (B8 hpi)
  have key := h1 p
  rw [CZ hlt] at key
  dsimp only [DA, rawInt]
  unfold setNextDrawn
  refine wpAny_bind (wpAny_bind (wpAny_setState_of ho hs.da hs.ft ?_))
  dsimp only
  rw [if_neg (by simp), CG, CZ hlt]
  refine wpAny_pure ?_
  refine wpAny_bind (wpAny_setField_rec hit (by simp) fun ha ea sa => wpAny_pure ⟨_, rfl, wpAny_pure (key ha hpi ?_ sa)⟩)
  have e : ((i + 1 : Nat) : Int) = (i : Int) + 1 := by omega
  unfold jj
  rw [e]
  simpa [rawInt] using ea
end
section
variable {P : Program} {w : World} {A : Around} {E : Value -> Shared -> Prop} {s : Shared} {I S : Addr} {ks : List Int} {o : Obj} {es : Array (Int × Value)} {ep i : Nat} {t : SetTable}
def SetAt (w : World) (S : Addr) (es : Array (Int × Value)) (ep : Nat) (t : SetTable) (ks : List Int) (h : Heap) : Prop := ∃ o, h.get? S = some o /\ SetIn w o es ep t ks
theorem SetAt.at {h h' : Heap} (x : SetAt w S es ep t ks h) (k : ∀ o, h.get? S = some o -> h'.get? S = some o) : SetAt w S es ep t ks h' := let ⟨o, e, r⟩ := x; ⟨o, k o e, r⟩
abbrev AB (vs : List Int) : Nat -> Value -> Prop := fun i v => ∃ t, v = .int (vs.getD i 0) t
theorem qT {l : List (Int × Value)} {vs : List Int} (h : Ents l vs) {i : Nat} {e : Int × Value} (hi : l[i]? = some e) : ∃ tk, e.2 = Value.int (vs.getD i 0) tk := by
 have hl : i < vs.length := by rw [<- h.len]; exact (B6.mp hi).1
 obtain ⟨a, ha, q⟩ := cK h (B3 hl)
 rw [hi] at ha
 cases ha
 obtain ⟨tk, q⟩ := q
 exact ⟨tk, by rw [q]; simp [hl]⟩
theorem jX (hh : A.handled = none) (hne : S ≠ I) (ord : List (Int × Value)) (vs : List Int) (f : Nat -> Nat) (hv : Ents ord vs) (hl : ord.length = es.size)
  (hr : ∀ (i : Nat) (s : Shared), i <= es.size -> SetAt w S es ep t ks s.heap -> ∀ (A' : Around) (E' : Value -> Shared -> Prop) (R : Option (Value × Nat) -> Shared -> Prop), R ((ord[i]?).map fun e => (e.2, f (i + 1))) s -> wpAny (model P w) A' (setNext S (f i) i ep) R E' s) :
  Walks P w A I [I, S] [I] es.size (AB vs) (fun i h => jj h I (.int (f i) 0) i S es.size ep /\ SetAt w S es ep t ks h) where
 sub := fun b hb => by simp at hb; simp [hb]
 frame := fun i h h' st k => ⟨k I (by simp) _ st.1, st.2.at fun o e => k S (by simp) o e⟩
 item := fun i s Q E hi st hQ => by
  obtain ⟨o, ho, hs⟩ := id st.2
  obtain ⟨e, he⟩ : ∃ e, ord[i]? = some e := ⟨_, B3 (by omega)⟩
  refine qR hh st.1 ho hs _ (hr i s (by omega) st.2) (fun x nx h' e2 it' sb => ?_) fun h' e2 _ => by rw [he] at e2; cases e2
  rw [he] at e2
  have e3 := Option.some.inj e2
  have hx : e.2 = x := congrArg Prod.fst e3
  have hn : f (i + 1) = nx := congrArg Prod.snd e3
  subst hx hn
  exact hQ _ h' s.toks (qT hv he) ⟨it', st.2.at fun o e => (sb.2 S hne).trans e⟩ fun b o hb e => (sb.2 b (by simpa using hb)).trans e
 done := fun s Q E st hQ => by
  obtain ⟨o, ho, hs⟩ := id st.2
  have he : ord[es.size]? = none := CN (by omega)
  refine qR hh st.1 ho hs _ (hr _ s (Ca _) st.2) (fun x nx h' e2 it' sb => by rw [he] at e2; cases e2) fun h' _ k => ?_
  exact hQ h' s.toks fun b o hb e => k b o (by simpa using hb) e
 self := fun i s Q E st h => qQ st.1 h
theorem yN {n : Nat} (h : n <= 5000) : n <= sizeLine := CJ h (C4 (iV (n := 5000) (by omega)))
theorem yO (ps : List Nat) (hp : ∀ p ∈ ps, p < es.size) : ps.filterMap (es[·]?) = ps.map fun q => es.getD q (0, .none) := by
 induction ps with
 | nil => rfl
 | cons q r ih =>
  have hq := hp q (by simp)
  rw [DY, CZ hq]
  dsimp only
  rw [ih (fun x hx => hp x (Ct _ hx)), Ce]
  simp [hq]
theorem oj {T : Addr} (hh : A.handled = none) (hne : S ≠ I) (hT : T ≠ I) (ps : List Nat) (vs : List Int) (hv : Ents (ps.filterMap (es[·]?)) vs) (hp : ∀ p ∈ ps, p < es.size) (hl : ps.length = es.size) :
  Walks P w A I [I, S, T] [I] es.size (AB vs) (fun i h => jj h I (.ref T) i S es.size ep /\ SetAt w S es ep t ks h /\ h.get? T = some { cls := .type "tuple", data := .seq (ps.map fun (p : Nat) => rawInt p).toArray }) where
 sub := fun b hb => by simp at hb; simp [hb]
 frame := fun i h h' st k => ⟨k I (by simp) _ st.1, st.2.1.at fun o e => k S (by simp) o e, k T (by simp) _ st.2.2⟩
 item := fun i s Q E hi st hQ => by
  obtain ⟨o, ho, hs⟩ := id st.2.1
  refine fY hh st.1 st.2.2 ho hs hp (fun p h' e2 it' sb => ?_) fun h' e2 _ => ?_
  ·have hlt := hp p (B8 e2)
   rw [CZ hlt]
   have e4 : (ps.filterMap (es[·]?))[i]? = some es[p] := by
    have := yO ps hp
    rw [this, B7, e2]
    simp [hlt]
   exact hQ _ h' s.toks (qT hv e4) ⟨it', st.2.1.at fun o e => (sb.2 S hne).trans e, (sb.2 T hT).trans st.2.2⟩ fun b o hb e => (sb.2 b (by simpa using hb)).trans e
  ·rw [B3 (by omega)] at e2
   cases e2
 done := fun s Q E st hQ => by
  obtain ⟨o, ho, hs⟩ := id st.2.1
  refine fY hh st.1 st.2.2 ho hs hp (fun p h' e2 it' sb => ?_) fun h' _ k => ?_
  ·rw [CN (by omega)] at e2
   cases e2
  ·exact hQ h' s.toks fun b o hb e => k b o (by simpa using hb) e
 self := fun i s Q E st h => qQ st.1 h
theorem pY {l : List Nat} (h : l.length <= 1) : kR l := by
 match l, h with
 | [], _ => exact .nil
 | [x], _ => exact Dy _ _
def iB (t : SetTable) : Nat -> Nat
 | 0 => 0
 | i + 1 => t.place.getD i 0 + 1
theorem uF {t : SetTable} (r : kR t.place.toList) {i : Nat} (hi : i <= t.place.size) : SetTable.below t.place (iB t i) = i := by
 refine (lL r _).unique ⟨hi, fun k hk hlt => ?_, fun k hk hge => ?_⟩
 ·cases i with
  | zero => omega
  | succ i =>
   have hi' : i < t.place.size := by omega
   have e : t.place.getD i 0 = t.place[i] := by simp [hi']
   show t.place[k] < t.place.getD i 0 + 1
   rw [e]
   by_cases z : k = i
   ·subst z; omega
   ·have := gR r hk hi' (by omega)
    omega
 ·cases i with
  | zero => exact Cz _
  | succ i =>
   have hi' : i < t.place.size := by omega
   have e : t.place.getD i 0 = t.place[i] := by simp [hi']
   show t.place.getD i 0 + 1 <= t.place[k]
   rw [e]
   exact gR r hi' hk (by omega)
theorem sC (h : t.fits es.size = true) : t.place.size = es.size := by
 simp only [SetTable.fits, C9, beq_iff_eq, decide_eq_true_eq] at h
 exact h.1
theorem gU {Q : Array (Int × Value) -> Shared -> Prop} (bt : cz w = true) (ho : s.heap.get? S = some o) (hs : SetIn w o es ep t ks) (h : Q (pickOrder (w.params.setOrder S ep) es) s) : wpAny (model P w) A (setWalk S) Q E s := by
 unfold setWalk setsByText
 refine wpAny_bind (wpAny_setState_of ho hs.da hs.ft ?_)
 dsimp only
 refine wpAny_bind (wpAny_bind (wpAny_askSetting (wpAny_pure ?_)))
 have bt' : (model P w).w.params.followText "set-order" = true := bt
 rw [bt', if_pos rfl]
 exact wpAny_bind (wpAny_askSetting (wpAny_pure h))
theorem sD {slot : Nat} {Q : Option (Value × Nat) -> Shared -> Prop} (bt : cz w = true) (ho : s.heap.get? S = some o) (hs : SetIn w o es ep t ks)
  (h : Q (((pickOrder (w.params.setOrder S ep) es).toList[i]?).map fun e => (e.2, slot)) s) : wpAny (model P w) A (setNext S slot i ep) Q E s := by
 unfold setNext
 refine wpAny_bind (wpAny_setState_of ho hs.da hs.ft ?_)
 dsimp only
 refine wpAny_bind ?_
 unfold setsByText
 refine wpAny_bind (wpAny_askSetting (wpAny_pure ?_))
 have bt' : (model P w).w.params.followText "set-order" = true := bt
 rw [bt', if_pos rfl, if_neg (by simp)]
 refine wpAny_bind (gU bt ho hs (wpAny_pure ?_))
 rw [<- DB]
 exact h
theorem pZ {Q : Option (Value × Nat) -> Shared -> Prop} (bt : cz w = false) (ho : s.heap.get? S = some o) (hs : SetIn w o es ep t ks) (hd : (!t.plain && decide (es.size > 1)) = false) (hi : i <= es.size)
  (h : Q ((es.toList[i]?).map fun e => (e.2, iB t (i + 1))) s) : wpAny (model P w) A (setNext S (iB t i) i ep) Q E s := by
 have zs := sC hs.ft
 have r : kR t.place.toList := by
  by_cases hp : t.plain = true
  ·exact hs.tb.rise hp
  ·refine pY ?_
   have : t.plain = false := by simpa using hp
   rw [this] at hd
   simp at hd
   rw [CL, zs]; exact hd
 have ld : t.led = true := by rw [hs.tb.led, bt]; rfl
 unfold setNext
 refine wpAny_bind (wpAny_setState_of ho hs.da hs.ft ?_)
 dsimp only
 refine wpAny_bind ?_
 unfold setsByText
 refine wpAny_bind (wpAny_askSetting (wpAny_pure ?_))
 have bt' : (model P w).w.params.followText "set-order" = false := bt
 rw [bt', if_neg Cj]
 show wpAny _ _ (if (!t.plain && decide (es.size > 1)) = true then _ else _) _ _ _
 rw [hd, if_neg Cj]
 show wpAny _ _ ((if (!t.led && !es.isEmpty) = true then unsupported "set:maker-not-led" else pure ()) >>= fun _ => pure _) _ _ _
 rw [ld]
 refine wpAny_bind (wpAny_pure (wpAny_pure ?_))
 rw [uF r (by omega)]
 by_cases hlt : i < es.size
 ·have hp : i < t.place.size := by omega
  rw [CZ hlt, CZ hp]
  rw [DB, CZ hlt] at h
  have e : iB t (i + 1) = t.place[i] + 1 := by
   show t.place.getD i 0 + 1 = _
   simp [hp]
  rw [e] at h
  exact h
 ·rw [Array.getElem?_eq_none (by omega)]
  rw [DB, Array.getElem?_eq_none (by omega)] at h
  exact h
theorem uG {Q : Value -> Shared -> Prop} (hS : SetAt w S es ep t ks s.heap)
  (h : ∀ (I : Addr) (fp : List Addr) (vs : List Int) (St : Nat -> Heap -> Prop) (s' : Shared), vs.Perm ks -> (∀ A' : Around, A'.handled = none -> Walks P w A' I fp [I] es.size (AB vs) St) -> St 0 s'.heap -> (∀ b ∈ fp, b < s'.heap.objs.size /\ (b = S \/ s.heap.objs.size <= b)) -> s.heap.objs.size <= I ->
   (∀ b o, s.heap.get? b = some o -> s'.heap.get? b = some o) -> s'.os = s.os -> s'.gens = s.gens -> Q (.ref I) s') : wpAny (model P w) A (pyIter (.ref S)) Q E s := by
 obtain ⟨o, ho, hs⟩ := id hS
 have hT : s.TypeIs (.ref S) "set" := ⟨o, ho, hs.ex.1⟩
 have hSl : S < s.heap.objs.size := Heap.lt_size ho
 refine wpAny_pyIter_slot hT F.slot_set_iter (wpAny_call_entry F.slot_set_iter hT jV ?_ (F.args_set_iter_1 _))
 unfold Builtin.«frozenset.__iter__»
 refine wpAny_bind (wpAny_bind (wpAny_pure (wpAny_pure ?_)))
 unfold Builtin.Frozenset.sizeOf
 refine wpAny_bind (wpAny_bind (wpAny_setEntries_of ho hs.da hs.ft (wpAny_pure ?_)))
 refine wpAny_bind (wpAny_bind (wpAny_setState_of ho hs.da hs.ft ?_))
 dsimp only
 unfold setsByText
 refine wpAny_bind (wpAny_bind (wpAny_askSetting (wpAny_pure (wpAny_pure ?_))))
 show wpAny _ _ (if (!cz w && (!t.plain && decide (es.size > 1))) = true then (drawOrder es.size (B9 es.size) >>= fun l => newTuple (l.map fun (i : Nat) => rawInt i) >>= fun first => _) else (pure (rawInt 0) >>= fun first => _)) _ _ _
 cases bt : cz w with
 | true =>
  simp only [Bool.not_true, EB, C7, if_false]
  refine wpAny_bind (wpAny_pure ?_)
  refine wpAny_bind (wpAny_setEpoch_of ho hs.da hs.ft ?_)
  refine wpAny_bind (wpAny_newObj_type (wpAny_pure ⟨_, rfl, "set_iterator", _, ⟨_, Heap.get?_push_size _ rfl, rfl⟩, bK.lookup, ?_⟩))
  obtain ⟨vs, hv, hp⟩ := Ents.perm (iA (w.params.setOrder S ep) es) hs.en
  refine h s.heap.objs.size [s.heap.objs.size, S] vs (fun i h => jj h s.heap.objs.size (.int 0 0) i S es.size ep /\ SetAt w S es ep t ks h) _ hp (fun A' hA' => jX (f := fun _ => 0) hA' (Cp hSl) _ vs hv ?_ (fun i s' hi st A2 E2 R hR => ?_))
   ⟨Heap.get?_push_size _ rfl, hS.at fun o e => Heap.get?_push_of_some _ e⟩ (fun b hb => ?_) (Ca _) (fun b o e => Heap.get?_push_of_some _ e) rfl rfl
  ·have := (iA (w.params.setOrder S ep) es).length_eq
   rw [this, CL]
  ·obtain ⟨o', ho', hs'⟩ := st
   exact sD bt ho' hs' hR
  ·rw [Heap.size_push]
   simp only [Cm, CP, or_false] at hb
   rcases hb with e | e
   ·rw [e]; exact ⟨Dt _, .inr (Ca _)⟩
   ·rw [e]; exact ⟨C3 hSl, .inl rfl⟩
 | false =>
  simp only [Bool.not_false, Bool.true_and]
  cases hd : (!t.plain && decide (es.size > 1)) with
  | false =>
   simp only [C7, if_false]
   refine wpAny_bind (wpAny_pure ?_)
   refine wpAny_bind (wpAny_setEpoch_of ho hs.da hs.ft ?_)
   refine wpAny_bind (wpAny_newObj_type (wpAny_pure ⟨_, rfl, "set_iterator", _, ⟨_, Heap.get?_push_size _ rfl, rfl⟩, bK.lookup, ?_⟩))
   refine h s.heap.objs.size [s.heap.objs.size, S] ks (fun i h => jj h s.heap.objs.size (.int (iB t i) 0) i S es.size ep /\ SetAt w S es ep t ks h) _ (.refl _) (fun A' hA' => jX (f := iB t) hA' (Cp hSl) es.toList ks hs.en (by simp) (fun i s' hi st A2 E2 R hR => ?_))
    ⟨Heap.get?_push_size _ rfl, hS.at fun o e => Heap.get?_push_of_some _ e⟩ (fun b hb => ?_) (Ca _) (fun b o e => Heap.get?_push_of_some _ e) rfl rfl
   ·obtain ⟨o', ho', hs'⟩ := st
    exact pZ bt ho' hs' hd hi hR
   ·rw [Heap.size_push]
    simp only [Cm, CP, or_false] at hb
    rcases hb with e | e
    ·rw [e]; exact ⟨Dt _, .inr (Ca _)⟩
    ·rw [e]; exact ⟨C3 hSl, .inl rfl⟩
  | true =>
   simp only [if_true]
   refine wpAny_bind (pX es.size (B9 es.size) s _ (by simp) fun ps d hp => ?_)
   have hlen : ps.length = es.size := by rw [hp.length_eq, CH]
   have zb := hs.bound
   have eb : scanBound = 4096 := rfl
   refine wpAny_bind (wpAny_newTuple ?_ (by rw [B4, hlen]; exact yN (by omega)))
   refine wpAny_bind (wpAny_setEpoch_of (Heap.get?_push_of_some _ ho) hs.da hs.ft ?_)
   refine wpAny_bind (wpAny_newObj_type (wpAny_pure ⟨_, rfl, "set_iterator", _, ⟨_, Heap.get?_push_size _ rfl, rfl⟩, bK.lookup, ?_⟩))
   have hpl : ∀ p ∈ ps, p < es.size := fun p m => CB.mp (hp.mem_iff.mp m)
   have pe : (ps.filterMap (es[·]?)).Perm es.toList := by
    have := hp.filterMap (es[·]?)
    rw [filterMap_getElem?_range] at this
    exact this
   obtain ⟨vs, hv, hq⟩ := Ents.perm pe hs.en
   have sz1 : ∀ ob : Obj, (s.heap.push ob).objs.size = s.heap.objs.size + 1 := fun ob => Heap.size_push _ _
   have key := h (s.heap.objs.size + 1) [s.heap.objs.size + 1, S, s.heap.objs.size] vs (fun i h => jj h (s.heap.objs.size + 1) (.ref s.heap.objs.size) i S es.size ep /\ SetAt w S es ep t ks h /\ h.get? s.heap.objs.size = some { cls := .type "tuple", data := .seq (ps.map fun (p : Nat) => rawInt p).toArray })
    { s with heap := (s.heap.push { cls := .type "tuple", data := .seq (ps.map fun (p : Nat) => rawInt p).toArray }).push { cls := .type "set_iterator", data := .fields #[.ref s.heap.objs.size, .int 0 0, .ref S, .int es.size 0, .int ep 0] }, drawn := d } hq (fun A' hA' => oj (t := t) (ep := ep) (ks := ks) (T := s.heap.objs.size) hA' (Cp (C3 hSl)) (Cp (Dt _)) ps vs hv hpl hlen)
    ⟨?it, hS.at fun o e => Heap.get?_push_of_some _ (Heap.get?_push_of_some _ e), Heap.get?_push_of_some _ (Heap.get?_push_size _ rfl)⟩ (fun b hb => ?fp) (Nat.le_succ _) (fun b o e => Heap.get?_push_of_some _ (Heap.get?_push_of_some _ e)) rfl rfl
   case it =>
    have := Heap.get?_push_size (s.heap.push { cls := .type "tuple", data := .seq (ps.map fun (p : Nat) => rawInt p).toArray }) (o := { cls := .type "set_iterator", data := .fields #[.ref s.heap.objs.size, .int 0 0, .ref S, .int es.size 0, .int ep 0] }) rfl
    rw [sz1] at this
    exact this
   case fp =>
    show b < ((s.heap.push _).push _).objs.size /\ _
    rw [Heap.size_push, Heap.size_push]
    simp only [Cm, CP, or_false] at hb
    rcases hb with e | e | e
    ·rw [e]; exact ⟨Dt _, .inr (Nat.le_succ _)⟩
    ·rw [e]; exact ⟨C3 (C3 hSl), .inl rfl⟩
    ·rw [e]; exact ⟨C3 (Dt _), .inr (Ca _)⟩
   rw [<- sz1 { cls := .type "tuple", data := .seq (ps.map fun (p : Nat) => rawInt p).toArray }] at key
   exact key
end
section
variable {P : Program} {w : World} {A : Around} {E : Value -> Shared -> Prop} {s : Shared} {S : Addr} {ks ms : List Int} {o : Obj} {es : Array (Int × Value)} {ep i : Nat} {t : SetTable}
theorem uH {Q : Bool -> Shared -> Prop} (hT : s.TypeIs (.ref S) "set") (h : Q false s) : wpAny (model P w) A (Builtin.List.listLengthHint (.ref S)) Q E s := by
 unfold Builtin.List.listLengthHint
 refine wpAny_bind (wpAny_specialOf hT PySem.F.slot_set_len.lookup ?_)
 generalize hid : ("set.__len__" : String) = id0
 wp_delta
 rw [show splitId id0 = some ("set", "__len__") from by subst hid; decide +kernel]
 subst hid
 refine wpAny_bind (wpAny_isInstance (T := "set") (b := true) hT (by rw [isSubtype_type]; kernel_rfl) ?_)
 refine wpAny_ite_split (fun hab => absurd hab (by decide)) (fun _ => ?_)
 refine wpAny_ite_split (fun _ => ?_) (fun hab => absurd (by decide +kernel) hab)
 exact wpAny_bind (wpAny_typeOf hT (wpAny_pure h))
theorem qc {vs : List Int} {acc : Array Value} {n : Nat} (h : ItemsOf (AB vs) acc n) (hn : vs.length = n) : IntsAre acc.toList vs := by
 have all : ∀ (l : List Value) (vs : List Int), l.length = vs.length -> (∀ (j : Nat) v, l[j]? = some v -> ∃ t, v = Value.int (vs.getD j 0) t) -> IntsAre l vs := by
  intro l
  induction l with
  | nil =>
   intro vs hl _
   have : vs = [] := Dg.mp (by simpa using hl.symm)
   subst this
   exact .nil
  | cons x r ih =>
   intro vs hl hv
   cases vs with
   | nil => simp at hl
   | cons v vs =>
    obtain ⟨t, e⟩ := hv 0 x rfl
    have e : x = Value.int v t := e
    subst e
    exact .cons v t (ih vs (by simpa using hl) fun j y hj => hv (j + 1) y (by simpa using hj))
 exact all acc.toList vs (by rw [CL, h.1, hn]) fun j v hj => h.2 j v (by rw [<- DB]; exact hj)
theorem om {Q : List Value -> Shared -> Prop} (hh : A.handled = none) (hS : SetAt w S es ep t ks s.heap)
  (h : ∀ (vs : List Int) (l : List Value) (s' : Shared), vs.Perm ks -> IntsAre l vs -> (∀ b o, s.heap.get? b = some o -> s'.heap.get? b = some o) -> s'.os = s.os -> s'.gens = s.gens -> s.heap.objs.size <= s'.heap.objs.size -> Q l s') : wpAny (model P w) A (collect (.ref S)) Q E s := by
 obtain ⟨o, ho, hs⟩ := id hS
 have hSl : S < s.heap.objs.size := Heap.lt_size ho
 have hne : s.heap.objs.size ≠ S := Ed hSl
 unfold collect
 refine wpAny_bind (wpAny_runValue (codeAny_builtin PySem.F.entry_proto_collect ?_))
 rw [Around.under_plainId PySem.F.plain_proto_collect _]
 show wpAny _ A.in1 (newList [] >>= fun l => again (.builtin "list.__iadd__" ⟨[l, .ref S], []⟩)) _ _ s
 refine wpAny_bind (wpAny_newObj_type ?_)
 refine wpAny_pure ⟨plainId_quiet PySem.F.plain_list_iadd _, codeAny_builtin PySem.F.entry_list_iadd ?_⟩
 rw [Around.under_plainId PySem.F.plain_list_iadd _]
 generalize hs1 : ({ s with heap := s.heap.push { cls := .type "list", data := .seq ([] : List Value).toArray } } : Shared) = s1
 have e1 : s1.heap = s.heap.push { cls := .type "list", data := .seq ([] : List Value).toArray } := by rw [<- hs1]
 have k1 : ∀ b o, s.heap.get? b = some o -> s1.heap.get? b = some o := fun b o e => by rw [e1]; exact Heap.get?_push_of_some _ e
 have hL1 : s1.heap.get? s.heap.objs.size = some { cls := .type "list", data := .seq ([] : List Value).toArray } := by rw [e1]; exact Heap.get?_push_size _ rfl
 have hS1 : SetAt w S es ep t ks s1.heap := hS.at (k1 S)
 have hT : ∀ s2 : Shared, (∀ b o, s1.heap.get? b = some o -> s2.heap.get? b = some o) -> s2.TypeIs (.ref S) "set" := fun s2 k => ⟨o, k _ _ (k1 _ _ ho), hs.ex.1⟩
 show wpAny _ A.in1 (Builtin.List.listExtendWith (.ref s.heap.objs.size) (.ref S) (.ref s.heap.objs.size)) _ _ _
 unfold Builtin.List.listExtendWith
 refine wpAny_bind (wpAny_typeOf (hT s1 fun _ _ e => e) ?_)
 have g1 : Builtin.List.listSameRef (.ref s.heap.objs.size) (.ref S) = false := by simp [Builtin.List.listSameRef, hne]
 have g2 : (Value.type "set" == Value.type "list") = false := by decide
 have g3 : (Value.type "set" == Value.type "tuple") = false := by decide
 simp only [g1, g2, g3, Bool.or_false, C7, if_false]
 refine wpAny_bind (uG hS1 fun I fp vs St s2 hp W st hfp hI k2 os2 gs2 => ?_)
 refine wpAny_bind (wpAny_holding (uH (hT s2 k2) ?_))
 show wpAny _ A.in1 (rule "list.extend.makes-room" >>= fun _ => Builtin.List.listTouch (.ref s.heap.objs.size) >>= fun _ =>
  again (.builtin "list.extend.loop" ⟨[.ref s.heap.objs.size, .ref I, .ref s.heap.objs.size], []⟩)) _ _ _
 refine wpAny_bind (wpAny_rule (wpAny_bind ?_))
 have hL2 := k2 _ _ hL1
 have lt1 : s.heap.objs.size < s1.heap.objs.size := by rw [e1, Heap.size_push]; exact Dt _
 show wpAny _ A.in1 (updateSeq s.heap.objs.size (·.push .none) >>= fun _ => updateSeq s.heap.objs.size (·.pop)) _ _ _
 refine wpAny_bind (wpAny_updateSeq hL2 rfl ?_)
 have hL3 := Heap.get?_update_self (Obj.mapSeq (·.push Value.none)) hL2 rfl
 refine wpAny_updateSeq hL3 rfl ?_
 have hL4 := Heap.get?_update_self (Obj.mapSeq (·.pop)) hL3 rfl
 have W1 := W A.in1 (show A.handled = none from hh)
 have hSf : s.heap.objs.size ∉ fp := fun m => by
  rcases (hfp _ m).2 with z | z
  ·exact hne z
  ·exact absurd lt1 (Ea.mpr z)
 have zb := hs.bound
 have eb : scanBound = 4096 := rfl
 have oth : ∀ b o, b ≠ s.heap.objs.size -> s2.heap.get? b = some o -> ((s2.heap.update s.heap.objs.size (Obj.mapSeq (·.push Value.none))).update s.heap.objs.size (Obj.mapSeq (·.pop))).get? b = some o :=
  fun b o hb e => (Heap.get?_update_other _ _ (Ne.symm hb)).trans ((Heap.get?_update_other _ _ (Ne.symm hb)).trans e)
 refine wpAny_pure ⟨plainId_quiet PySem.F.plain_extend_loop _, codeAny_extend_loopS W1.toS (yN (by omega)) _ hSf _ es.size 0 _ _ _ rfl (Cz _) (W1.frame 0 _ _ st fun b hb o e => oth b o (fun z => hSf (z ▸ hb)) e) hL4 (ItemsOf.nil _) fun s3 acc c hm hL5 hacc => ?_⟩
 show wpAny _ A (load s.heap.objs.size >>= _) _ _ s3
 refine wpAny_bind (wpAny_load hL5 ?_)
 refine wpAny_pure (h vs acc.toList s3 hp (qc hacc (by rw [hp.length_eq, hs.size])) (fun b o e => ?_) ?_ ?_ (C4 (Heap.lt_size hL5)))
 ·have hb : b ≠ s.heap.objs.size := Cp (Heap.lt_size e)
  have e2 := k2 _ _ (k1 _ _ e)
  refine hm.heap b o (fun m => ?_) (oth b o hb e2)
  rcases Cm.mp m with z | z
  ·exact hb z
  ·have z : b = I := Cg.mp z
   exact absurd (Heap.lt_size (k1 _ _ e)) (by rw [z]; exact Ea.mpr hI)
 ·have e2 : s3.os = s2.os := hm.os
  rw [e2, os2, <- hs1]
 ·have e2 : s3.gens = s2.gens := hm.gens
  rw [e2, gs2, <- hs1]
end
section
variable {P : Program} {w : World} {A : Around} {E : Value -> Shared -> Prop} {s : Shared} {S : Addr} {ks ms : List Int} {o : Obj} {es : Array (Int × Value)} {ep i : Nat} {t : SetTable}
theorem kY {Q : Value -> Shared -> Prop} (hh : A.handled = none) (hS : SetAt w S es ep t ks s.heap) (h64 : ks.length < 64)
  (h : ∀ (L : Addr) (out : Array Value) (ns : List Int) (e : Nat) (s' : Shared), IntsAre out.toList ns -> ns.Perm ks -> ns.Pairwise (· <= ·) -> s'.heap.get? L = some (seqObj "list" out e) -> s.heap.objs.size <= L -> (∀ b o, s.heap.get? b = some o -> s'.heap.get? b = some o) -> s'.os = s.os -> s'.gens = s.gens -> Q (.ref L) s') :
  wpAny (model P w) A (call (.builtin "sorted") [.ref S]) Q E s := by
 refine Calls.call_function_entry kind_sorted plain_sorted entry_sorted (args_sorted1 _) ?_
 unfold Builtin.«sorted»
 refine wpAny_bind (m := checkCount "sorted" 1 1 _) (wpAny_pure ?_)
 refine wpAny_bind (om (show A.in1.handled = none from hh) hS fun vs l s1 hp hI k1 os1 gs1 le1 => ?_)
 have hl : l.length = vs.length := IntsAre.length hI
 have hv : vs.length = ks.length := hp.length_eq
 refine wpAny_bind (wpAny_newList ?_ (yN (by omega)))
 have hoL : (s1.heap.push (seqObj "list" l.toArray 0)).get? s1.heap.objs.size = some (seqObj "list" l.toArray 0) := Heap.get?_push_size _ rfl
 refine wpAny_bind (wpAny_holding (wpAny_call_entry slot_list_sort ⟨_, hoL, rfl⟩ entry_list_sort (list_sort_tree (ns := vs) hoL hI (by omega) fun out ns' a1 a2 a3 => ⟨_, rfl, ?_⟩) (args_list_sort _)))
 refine wpAny_pure ⟨_, rfl, ?_⟩
 obtain ⟨e, he⟩ := sortedHeap_at (out := out) hoL
 have kp : ∀ b o, s.heap.get? b = some o -> (sortedHeap (s1.heap.push (seqObj "list" l.toArray 0)) s1.heap.objs.size l out).get? b = some o := fun b o eb => by
  have e1 := k1 b o eb
  have lt := Heap.lt_size e1
  rw [sortedHeap_old (Cp lt) (by rw [Heap.size_push]; exact C3 lt)]
  exact Heap.get?_push_of_some _ e1
 exact h s1.heap.objs.size out ns' e { s1 with heap := sortedHeap (s1.heap.push (seqObj "list" l.toArray 0)) s1.heap.objs.size l out } a1 (a2.trans hp) a3 he le1 kp os1 gs1
theorem qd {Q : Value -> Shared -> Prop} (hS : SetAt w S es ep t ks s.heap) (h : ∀ tk n, Q (.int ks.length tk) { s with toks := n }) : wpAny (model P w) A (call (.builtin "len") [.ref S]) Q E s := by
 obtain ⟨o, ho, hs⟩ := hS
 have zb := hs.bound
 have eb : scanBound = 4096 := rfl
 have e := hs.size
 refine call_len_set ho hs.ex hs.da hs.ft (by omega) ?_
 rw [e]
 exact h _ _
def b9 (acc : List Int) (x : Int) : List Int := if x ∈ acc then acc else acc ++ [x]
def dd (ns : List Int) : List Int := ns.foldl b9 []
theorem eL (ns : List Int) (x : Int) : dd (ns ++ [x]) = b9 (dd ns) x := by unfold dd; rw [List.foldl_append]; rfl
theorem sE {acc : List Int} {x y : Int} : y ∈ b9 acc x <-> y ∈ acc \/ y = x := by
 unfold b9
 split
 ·rename_i h
  exact ⟨.inl, fun z => z.elim id fun e => e ▸ h⟩
 ·simp
theorem oo : ∀ (ns acc : List Int) (y : Int), y ∈ ns.foldl b9 acc <-> y ∈ acc \/ y ∈ ns
 | [], acc, y => by simp
 | x :: r, acc, y => by
  rw [Ez, oo r, sE, Cm, or_assoc]
theorem bz {ns : List Int} {y : Int} : y ∈ dd ns <-> y ∈ ns := by unfold dd; rw [oo]; simp
theorem qU : ∀ (ns acc : List Int), acc.Nodup -> (ns.foldl b9 acc).Nodup
 | [], acc, h => h
 | x :: r, acc, h => by
  rw [Ez]
  refine qU r _ ?_
  unfold b9
  split
  ·exact h
  ·rename_i hx; exact eI h hx
theorem jY (ns : List Int) : (dd ns).Nodup := qU ns [] DR
theorem cN (ns : List Int) : (dd ns).length <= ns.length := (jY ns).length_le_of_subset fun _ h => bz.mp h
theorem uI {x : Int} {tk : Tok} {Q : Bool -> Shared -> Prop} (hS : SX w S ms s.heap) (hl : ms.length + 1 < 4000)
  (h : ∀ b h', Heap.SameBut S s.heap h' -> SX w S (b9 ms x) h' -> Q b { s with heap := h' }) : wpAny (model P w) A (setAddHashed S (.int x tk) (hashInt x)) Q E s := by
 obtain ⟨o, es, ep, t, ks, ho, hs, hp⟩ := hS
 refine yM ho hs (by rw [hp.length_eq]; exact hl) (fun hx => ?_) fun hx h' sb sx => ?_
 ·have e : b9 ms x = ms := if_pos (hp.mem_iff.mp hx)
  have := h false s.heap (Heap.SameBut.refl _ _) (by rw [e]; exact ⟨o, es, ep, t, ks, ho, hs, hp⟩)
  exact this
 ·have e : b9 ms x = ms ++ [x] := if_neg fun z => hx (hp.mem_iff.mpr z)
  exact h true h' sb (by rw [e]; exact sx.perm (hp.append_right _))
theorem uJ {I l : Addr} {items : Array Value} {ns : List Int} {R : Result -> Shared -> Prop} (hh : A.handled = none) (hne : l ≠ I) (hSI : S ≠ I) (hSl : S ≠ l) (hi : IntsAre items.toList ns) (hb : ns.length + 1 < 4000) :
  ∀ (k i : Nat) (s : Shared), items.size - i = k -> i <= items.size -> s.heap.IsListIter I l i -> s.heap.IsList l items -> SX w S (dd (ns.take i)) s.heap ->
   (∀ s', (∀ b o, b ≠ S -> b ≠ I -> s.heap.get? b = some o -> s'.heap.get? b = some o) -> s'.os = s.os -> s'.gens = s.gens -> s'.drawn = s.drawn -> SX w S (dd ns) s'.heap -> R (.ok (.ret .none)) s') ->
   codeAny (model P w) A (.builtin "set.update.loop" ⟨[.ref S, .ref I], []⟩) R s := by
 have hsz : items.size = ns.length := by rw [<- CL]; exact IntsAre.length hi
 intro k
 induction k with
 | zero =>
  intro i s hk hil it hl hS hR
  have e : i = items.size := by omega
  subst e
  refine codeAny_builtin PyProof.Rows.F.entry_set_update_loop ?_
  rw [Around.under_plainId PyProof.Rows.F.plain_set_update_loop _]
  show wpAny _ A.in1 (pyNext (.ref I) >>= _) _ _ s
  refine wpAny_bind (wpAny_pyNext_list_end (show A.in1.handled = none from hh) it hl (by simp) fun h' eb => ?_)
  show wpAny _ A.in1 (ret Value.none) _ _ _
  refine wpAny_pure (hR _ (fun b o _ hb e => eb b o hb e) rfl rfl rfl ?_)
  rw [Di (by omega)] at hS
  exact hS.at fun o e => eb S o hSI e
 | succ k ih =>
  intro i s hk hil it hl hS hR
  have hlt : i < items.size := by omega
  have hin : i < ns.length := by omega
  obtain ⟨tk, hv⟩ := IntsAre.int_at hi i items[i] (by simp [hlt])
  have egd : ns.getD i 0 = ns[i] := by simp [hin]
  rw [egd] at hv
  refine codeAny_builtin PyProof.Rows.F.entry_set_update_loop ?_
  rw [Around.under_plainId PyProof.Rows.F.plain_set_update_loop _]
  show wpAny _ A.in1 (pyNext (.ref I) >>= _) _ _ s
  refine wpAny_bind (wpAny_pyNext_list_item it hl (x := items[i]) (by simp [hlt]) fun h1 it1 sb1 => ?_)
  rw [hv]
  show wpAny _ A.in1 (holding [Value.int ns[i] tk] (setAdd S (.int ns[i] tk)) >>= _) _ _ _
  refine wpAny_bind (wpAny_holding ?_)
  unfold setAdd
  refine wpAny_holding (wpAny_bind ((intKind P w).pyHash (k := ns[i]) (intKind_is _ _ _ _) ?_))
  have hS1 : SX w S (dd (ns.take i)) h1 := hS.at fun o e => (sb1.2 S hSI).trans e
  have dl := cN (ns.take i)
  rw [CO] at dl
  refine uI (s := { s with heap := h1, toks := s.toks + 1 }) hS1 (by omega) fun b h2 sb2 sx => ?_
  have e2 : b9 (dd (ns.take i)) ns[i] = dd (ns.take (i + 1)) := by rw [List.take_succ_eq_append_getElem hin, eL]
  rw [e2] at sx
  have hl1 : h1.IsList l items := by obtain ⟨o, e, r⟩ := hl; exact ⟨o, (sb1.2 l hne).trans e, r⟩
  refine wpAny_pure ⟨plainId_quiet PyProof.Rows.F.plain_set_update_loop _, ih (i + 1) _ (by omega) hlt ?_ ?_ sx fun s' kp os' gs' ds' sx' => ?_⟩
  ·obtain ⟨o, e, r⟩ := it1
   exact ⟨o, (sb2.2 I hSI.symm).trans e, r⟩
  ·obtain ⟨o, e, r⟩ := hl1
   exact ⟨o, (sb2.2 l hSl.symm).trans e, r⟩
  ·exact hR s' (fun b o h1' h2' e => kp b o h1' h2' ((sb2.2 b h1').trans ((sb1.2 b h2').trans e))) os' gs' ds' sx'
end
end L2
set_option maxHeartbeats 3000000
namespace L2
open PySem PySem.Spec PyProof.Rows
section
variable {P : Program} {w : World} {A : Around} {E : Value -> Shared -> Prop} {s : Shared} {S : Addr} {ks ms : List Int}
def bG (w : World) : Obj := { cls := .type "set", dict := none, data := .set #[] 0 (.fresh 0 0 (!cz w)) }
theorem lP {h : Heap} {a : Addr} (e : h.get? a = some (bG w)) : SX w a [] h :=
 ⟨_, #[], 0, _, [], e, ⟨⟨rfl, rfl, rfl⟩, rfl, .nil, DR, by decide, rfl, ⟨rfl, fun _ => .nil⟩⟩, .refl _⟩
theorem wY (a : Value) {Q : Value -> Shared -> Prop} (h : Q (.ref s.heap.objs.size) { s with heap := s.heap.push (bG w) }) :
  codeAny (model P w) A (.call (.builtin "set.__new__") ⟨[.type "set", a], []⟩) (wants Q E) s := by
 refine codeAny_of_tree ?_
 show wpAny _ A.in1 (do checkBuiltinCall "set.__new__" ⟨[.type "set", a], []⟩; again (.builtin "set.__new__" ⟨[.type "set", a], []⟩)) _ _ s
 refine wpAny_bind (wpAny_of_eq (PySem.F.newCall_set_1 a) (wpAny_pure ⟨plainId_quiet PySem.F.plain_set_new _, codeAny_builtin PySem.F.entry_set_new ?_⟩))
 rw [Around.under_plainId PySem.F.plain_set_new _]
 unfold Builtin.«set.__new__» Builtin.Frozenset.newClass
 have hsub := sub_set_self
 obtain ⟨hp, g, d, tk, os⟩ := s
 dsimp only
 wp_walk
 refine wpAny_askSetting (wpAny_pure ?_)
 dsimp only
 simp only [newObj]
 exact wpAny_bind (wpAny_alloc (wpAny_pure (wpAny_pure h)))
theorem uK {l : Addr} {items : Array Value} {ns : List Int} {R : Result -> Shared -> Prop} (hh : A.handled = none) (ho : s.heap.get? S = some (bG w)) (hl : s.heap.IsList l items) (hne : S ≠ l) (hi : IntsAre items.toList ns) (hb : ns.length + 1 < 4000)
  (hR : ∀ s', (∀ b o, b ≠ S -> s.heap.get? b = some o -> s'.heap.get? b = some o) -> s'.os = s.os -> s'.gens = s.gens -> SX w S (dd ns) s'.heap -> R (.ok (.ret .none)) s') :
  wpAny (model P w) A.in1 (Builtin.«set.__init__» ⟨[.ref S, .ref l], []⟩)
   (fun fin s' => match fin with | .done f => R (.ok f) s' | .again c' => c'.quiet = true /\ codeAny (model P w) A c' R s') (fun e s' => R (.error e) s') s := by
 obtain ⟨ol, hol, hcl, nl, hdl⟩ := id hl
 have hT : s.TypeIs (.ref S) "set" := ⟨_, ho, rfl⟩
 have hTl : s.TypeIs (.ref l) "list" := ⟨_, hol, hcl⟩
 have q1 := PySem.F.sub_list_set
 have q2 := PySem.F.sub_list_frozenset
 unfold Builtin.«set.__init__» noKeywords
 generalize hPI : Builtin.Frozenset.updateFrom = UF
 obtain ⟨hp, g, d, tk, os⟩ := s
 unfold bG at ho
 wp_walk
 subst hPI
 unfold Builtin.Frozenset.updateFrom Builtin.Frozenset.isAnySet
 refine wpAny_bind ?_
 show wpAny _ _ (isInstance (.ref l) (.type "set") >>= fun b => _) _ _ _
 refine wpAny_bind (wpAny_isInstance hTl q1 ?_)
 show wpAny _ _ (isInstance (.ref l) (.type "frozenset")) _ _ _
 refine wpAny_isInstance hTl q2 ?_
 rw [if_neg Cj]
 refine wpAny_bind (wpAny_typeOf hTl ?_)
 rw [if_neg (by decide)]
 refine wpAny_bind (wpAny_pyIter_list hl ?_)
 refine wpAny_bind (wpAny_runValue ?_)
 have hSh : S < hp.objs.size := Heap.lt_size ho
 have hlh : l < hp.objs.size := Heap.lt_size hol
 refine uJ (show A.in1.handled = none from hh) (Cp hlh) (Cp hSh) hne hi hb (items.size - 0) 0 _ rfl (Cz _) ⟨_, Heap.get?_push_size _ rfl, rfl, rfl⟩ ?_ ?_ fun s' kp os' gs' ds' sx => ?_
 ·exact ⟨ol, Heap.get?_push_of_some _ hol, hcl, nl, hdl⟩
 ·rw [Dx]
  exact lP (Heap.get?_push_of_some _ ho)
 ·refine wpAny_pure (wpAny_pure (hR s' (fun b o hbS e => kp b o hbS (Cp (Heap.lt_size e)) (Heap.get?_push_of_some _ e)) os' gs' sx))
theorem oq {l : Addr} {items : Array Value} {ns : List Int} {Q : Value -> Shared -> Prop} (hh : A.handled = none) (hl : s.heap.IsList l items) (hi : IntsAre items.toList ns) (hb : ns.length + 1 < 4000)
  (h : ∀ s', SX w s.heap.objs.size (dd ns) s'.heap -> (∀ b o, s.heap.get? b = some o -> s'.heap.get? b = some o) -> s'.os = s.os -> s'.gens = s.gens -> Q (.ref s.heap.objs.size) s') : wpAny (model P w) A (call (.type "set") [.ref l]) Q E s := by
 obtain ⟨c, tl, hmro⟩ := PySem.F.called_set.mro
 have hmade := PySem.F.called_set.made
 have hsub := PySem.F.called_set.sub
 have n1 := PySem.F.called_set.notType
 have n2 := PySem.F.called_set.canCreate
 have hct := PySem.F.typeCall_set_1 (.ref l)
 refine wpAny_call (codeAny_of_tree ?_)
 show wpAny _ _ (callAny (.type "set") _) _ _ _
 refine wpAny_pure ⟨Code.quiet_builtin _ (by decide +kernel), codeAny_builtin PySem.F.entry_type_call ?_⟩
 rw [Around.under_plain (weight_type_call_type "set" [.ref l] []) rfl]
 repeat (any_goals (first | assumption | wp_step))
 refine codeAny_mono (wY (E := E) (Q := fun v s1 => v = .ref s.heap.objs.size /\ s1 = { s with heap := s.heap.push (bG w) }) (.ref l) ⟨rfl, rfl⟩) fun r s1 hr => ?_
 cases r with
 | error e => exact hr
 | ok fl =>
  cases fl with
  | ret v =>
   obtain ⟨e1, e2⟩ := hr
   subst e1 e2
   have hS : (s.heap.push (bG w)).get? s.heap.objs.size = some (bG w) := Heap.get?_push_size _ rfl
   have hT : Shared.TypeIs { s with heap := s.heap.push (bG w) } (.ref s.heap.objs.size) "set" := ⟨_, hS, rfl⟩
   have hlu := PySem.F.called_set.init.lookup
   have hbd := PySem.F.called_set.init.bind (.ref s.heap.objs.size)
   repeat (any_goals (first | assumption | wp_step))
   refine codeAny_mono (codeAny_call_builtin (R := wants (fun r s2 => r = .none /\ Q (.ref s.heap.objs.size) s2) E) PySem.F.called_set.init.plain PySem.F.entry_set_init (check_set_init_1 hT ?_)) fun r2 s2 hr2 => ?_
   ·obtain ⟨ol, hol, hcl⟩ := id hl
    refine uK (A := A.in1) (show A.in1.handled = none from hh) hS ⟨ol, Heap.get?_push_of_some _ hol, hcl⟩ (Ed (Heap.lt_size hol)) hi hb fun s' kp os' gs' sx => ⟨rfl, h s' sx (fun b o e => kp b o (Cp (Heap.lt_size e)) (Heap.get?_push_of_some _ e)) os' gs'⟩
   ·cases r2 with
    | error e => exact hr2
    | ok fl2 =>
     cases fl2 with
     | ret v2 =>
      obtain ⟨e1, hq⟩ := hr2
      subst e1
      repeat (any_goals (first | assumption | wp_step))
     | _ => exact hr2.elim
  | _ => exact hr.elim
end
theorem SX.ok {P : Program} {w : World} {H : Hp} {h : Heap} {a : Addr} {ms : List Int} (x : SX w a ms h) : ObjOk P w H h a (.ext (SX w a ms)) :=
 ⟨x, by obtain ⟨o, _, _, _, _, e, _⟩ := x; exact ⟨o, e⟩, fun _ _ y k => y.at k⟩
section
variable {X : Cx}
theorem Inv.new' {pins : List (Addr × Obj)} {σ : L2.St} {H : Hp} {s s' : Shared} {a : Addr} {o : HO} (I : Inv X pins σ H s) (k : ∀ b u, s.heap.get? b = some u -> s'.heap.get? b = some u) (hp : s.heap.objs.size <= a) (hos : s'.os = s.os) (hgs : s'.gens = s.gens)
  (new : ObjOk X.prog X.w (ay H a o) s'.heap a o) : Inv X pins σ (ay H a o) s' :=
 I.call' (ch := []) hos (Un.laid k hp (I.hok.fresh hp)) (I.hok.laid k hp new) (by rw [hgs]; exact I.bare) fun b hb => by cases hb
theorem jZ {w : World} {a : Addr} {ms : List Int} {h : Heap} (x : SX w a ms h) : ∃ es ep t ks, SetAt w a es ep t ks h /\ ks.Perm ms := by
 obtain ⟨o, es, ep, t, ks, e, r, p⟩ := x
 exact ⟨es, ep, t, ks, ⟨o, e, r⟩, p⟩
theorem sF (w : World) (K : PySem.W.Frag) (hc : X.calm = true := by rfl) (hw : X.w = w := by rfl) (hK : X.K = K := by rfl) : cJ X (.type "set") (fun xs H Q => ∃ p ns, xs = [.ref p] /\ SqL K H p (ns.map V.int) /\ ns.length < 3000 /\
  ∀ a, H a = none -> Q (.ref a) (ay H a (.ext (SX w a (dd ns))))) := by
 subst hw hK
 intro pins s σ H xs us Q I r h
 obtain ⟨p, ns, e, hq, hl, q⟩ := h
 subst e
 obtain ⟨u, e, rx⟩ := fo r
 subst e
 cases rx
 obtain ⟨its, rv, pl, hz⟩ := I.list hq
 refine oq (ns := ns) (I.ok.hd hc) pl.isList (by simpa using jK rv) (by omega) fun s' sx kp os' gs' => ?_
 exact ⟨.ref s.heap.objs.size, _, I.new' kp (Ca _) os' gs' sx.ok, rfl, q _ I.fresh⟩
theorem uL (w : World) (hc : X.calm = true := by rfl) (hw : X.w = w := by rfl) : cJ X (.builtin "sorted") (fun xs H Q => ∃ p ms, xs = [.ref p] /\ H p = some (.ext (SX w p ms)) /\ ms.length < 64 /\
  ∀ l (ks : List Int), H l = none -> ks.Perm ms -> ks.Pairwise (· <= ·) -> Q (.ref l) (ay H l (.lst (ks.map V.int)))) := by
 subst hw
 intro pins s σ H xs us Q I r h
 obtain ⟨p, ms, e, hp, hl, q⟩ := h
 subst e
 obtain ⟨u, e, rx⟩ := fo r
 subst e
 cases rx
 obtain ⟨sx, _⟩ := (show ObjOk X.prog X.w H s.heap p (.ext (SX X.w p ms)) from I.hok p _ hp)
 obtain ⟨es, ep, t, ks, sa, pm⟩ := jZ sx
 refine kY (I.ok.hd hc) sa (by rw [pm.length_eq]; exact hl) fun L out ns e s' hI hpm hs he le kp os' gs' => ?_
 refine ⟨.ref L, _, I.new' kp le os' gs' (show ObjOk X.prog X.w _ _ _ (.lst (ns.map V.int)) from ⟨?_, out.toList, e, iy hI, ?_⟩), rfl, q _ ns (I.hok.fresh le) (hpm.trans pm) hs⟩
 ·rw [B4, hpm.length_eq, pm.length_eq]; exact wI (by omega)
 ·simpa [seqObj] using he
theorem qV (w : World) (hw : X.w = w := by rfl) : cJ X (.builtin "len") (fun xs H Q => ∃ p ms, xs = [.ref p] /\ H p = some (.ext (SX w p ms)) /\ Q (.int ms.length) H) := by
 subst hw
 intro pins s σ H xs us Q I r h
 obtain ⟨p, ms, e, hp, q⟩ := h
 subst e
 obtain ⟨u, e, rx⟩ := fo r
 subst e
 cases rx
 obtain ⟨sx, _⟩ := (show ObjOk X.prog X.w H s.heap p (.ext (SX X.w p ms)) from I.hok p _ hp)
 obtain ⟨es, ep, t, ks, sa, pm⟩ := jZ sx
 refine qd sa fun tk n => ⟨.int ms.length, H, I.tok n, ⟨tk, ?_⟩, q⟩
 rw [pm.length_eq]
end
end L2
namespace L2
end L2
namespace L2
open PySem PySem.Spec PyProof.Rows
def uM (lo st : Int) (n : Nat) : It := ⟨fun i _ => i < n, fun i H x H' => H' = H /\ x = .int (lo + i * st), fun i _ => n <= i⟩
theorem sG {P : Program} {w : World} {K : PySem.W.Frag} {tg : Expr} (it : Addr) (lo st : Int) (n : Nat) : Turn P w K tg (uM lo st n) [it] it (fun i h => IsRangeIter h it (lo + (i : Nat) * st) ((n : Int) - (i : Nat)) st) where
 mem := by simp
 obj := fun i h sta b hb => by
  have e : b = it := by simpa using hb
  subst e
  exact ⟨_, sta, fun v z => by
   have z' : Data.fields _ = Data.cell v := z
   cases z'⟩
 keep := fun i h h' sta k => k it (by simp) _ sta
 item := by
  intro X hP hw hK hc i pins s σ H E I hf sta hg
  subst hP hw hK
  obtain ⟨f0, f1, f2, f3, f4, f5⟩ := hf it (by simp)
  refine (Walks.range (prog := X.prog) (w := X.w) (I.ok.hd hc) it lo st n).item i s _ _ hg sta fun v h' tk hv sta' kk => ?_
  obtain ⟨t, rfl⟩ := hv
  have I1 : Inv X pins σ H { s with heap := h', toks := tk } := I.turned (fun b o hb e => kk b o (by simpa using hb) e) f0 f1 f3 f4 f5
  exact ⟨_, rfl, ly (s := { s with heap := h', toks := tk }) (n := "range_iterator") sta' rfl rfl (by decide) ⟨.int (lo + i * st), H, I1, ⟨t, rfl⟩, ⟨rfl, rfl⟩, sta', fun b hb => (hf b hb).1⟩⟩
 done := by
  intro X hP hw hK hc i pins s σ H E I hf sta hg
  subst hP hw hK
  obtain ⟨f0, f1, f2, f3, f4, f5⟩ := hf it (by simp)
  exact wpAny_pyNext_range_end (I.ok.hd hc) sta (by have : n <= i := hg; omega) fun h' eb => ⟨rfl, I.turned (t' := s.toks) (fun b o hb e => eb b o hb e) f0 f1 f3 f4 f5⟩
 self := fun _ _ _ _ _ sta h => wpAny_pyIter_rangeiter sta h
section
variable {X : Cx} {tg : Expr}
theorem uN {lo st : Int} {n : Nat} {g : TG} {tb : TS} {D : Ends} {σ : L2.St} {H : Hp} (Pv : Nat -> L2.St -> Hp -> Prop) (h0 : Pv 0 σ H)
  (hs : ∀ i σ H, i < n -> Pv i σ H -> g (.int (lo + i * st)) σ H fun σ2 H2 => tb { D with nx := Pv (i + 1), ct := Pv (i + 1), bk := D.nx } σ2 H2) (hd : ∀ σ H, Pv n σ H -> D.nx σ H) :
  ∃ W : Nat -> Nat -> L2.St -> Hp -> Prop, (∃ m, W 0 m σ H) /\ ∀ i m σ H, W i m σ H ->
   ((uM lo st n).stop i H /\ D.nx σ H) \/ ((uM lo st n).go i H /\ ∃ N : L2.St -> Hp -> Prop, (∀ σ' H', N σ' H' -> ∃ m', m' < m /\ W (i + 1) m' σ' H') /\ ∀ x H', (uM lo st n).yld i H x H' -> g x σ H' fun σ2 H2 => tb { D with nx := N, ct := N, bk := D.nx } σ2 H2) := by
 refine ⟨fun i m σ H => m = n - i /\ i <= n /\ Pv i σ H, ⟨n, by simp, Cz _, h0⟩, ?_⟩
 rintro i m σ H ⟨rfl, hi, p⟩
 by_cases hlt : i < n
 ·refine .inr ⟨hlt, Pv (i + 1), fun σ' H' p' => ⟨n - (i + 1), CU _ _ hlt, rfl, hlt, p'⟩, fun x H' y => ?_⟩
  obtain ⟨e, y⟩ := y
  subst e y
  exact hs i σ _ hlt p
 ·have e : i = n := Do hi (C8 hlt)
  subst e
  exact .inl ⟨Ca _, hd σ H p⟩
end
section
variable {X : Cx} {pos : Pos}
end
theorem aD {hs : List Int} {k : Nat} (h : k < hs.length) : hs.getD k 0 = hs[k] := by simp [h]
theorem iC {hs : List (List Int)} {k : Nat} (h : k < hs.length) : hs.getD k [] = hs[k] := by simp [h]
def lp (mask : Nat) : Nat -> Nat × Nat -> Nat × Nat
 | 0, x => x
 | n + 1, x => lp mask n (SetTable.leap mask x.1 x.2)
section
variable {P : Program} {w : World} {A : Around} {E : Value -> Shared -> Prop} {s : Shared} {S : Addr} {ks ms : List Int} {es : Array (Int × Value)} {ep : Nat} {t : SetTable}
theorem yP {n : Nat} (h : n < 5000) : n <= sizeLine := C4 (iV (by omega))
theorem SetAt.store {es' : Array (Int × Value)} {t' : SetTable} {ks' : List Int} {Q : Unit -> Shared -> Prop} (hS : SetAt w S es ep t ks s.heap) (en : Ents es'.toList ks') (nd : ks'.Nodup) (sz : ks'.length < 4000) (ft : t'.fits es'.size = true) (tb : TabK (!cz w) t')
  (h : ∀ h', Heap.SameBut S s.heap h' -> SetAt w S es' (ep + 1) t' ks' h' -> Q () { s with heap := h' }) : wpAny (model P w) A (storeSet S es' t') Q E s := by
 obtain ⟨o, ho, hs⟩ := hS
 have z : es'.size = ks'.length := by rw [<- en.len, CL]
 refine wpAny_storeSet_of ho hs.da (h _ (Heap.SameBut.update ..) ?_) (by rw [z]; exact yP (by omega))
 obtain ⟨o', ho', hs'⟩ := pV (s := s) ho hs en nd sz ft tb
 exact ⟨o', ho', hs'⟩
theorem SetAt.state {Q : Array (Int × Value) × Nat × SetTable -> Shared -> Prop} (hS : SetAt w S es ep t ks s.heap) (h : Q (es, ep, t) s) : wpAny (model P w) A (setState S) Q E s := by
 obtain ⟨o, ho, hs⟩ := hS
 exact wpAny_setState_of ho hs.da hs.ft h
theorem SetAt.epoch {Q : Nat -> Shared -> Prop} (hS : SetAt w S es ep t ks s.heap) (h : Q ep s) : wpAny (model P w) A (setEpoch S) Q E s := by
 unfold setEpoch
 exact wpAny_bind (hS.state (wpAny_pure h))
theorem SetAt.entries {Q : Array (Int × Value) -> Shared -> Prop} (hS : SetAt w S es ep t ks s.heap) (h : Q es s) : wpAny (model P w) A (setEntries S) Q E s := by
 unfold setEntries
 exact wpAny_bind (hS.state (wpAny_pure h))
theorem SetAt.en (hS : SetAt w S es ep t ks s.heap) : Ents es.toList ks := let ⟨_, _, hs⟩ := hS; hs.en
theorem SetAt.nd (hS : SetAt w S es ep t ks s.heap) : ks.Nodup := let ⟨_, _, hs⟩ := hS; hs.nd
theorem SetAt.ft (hS : SetAt w S es ep t ks s.heap) : t.fits es.size = true := let ⟨_, _, hs⟩ := hS; hs.ft
theorem SetAt.tb (hS : SetAt w S es ep t ks s.heap) : TabK (!cz w) t := let ⟨_, _, hs⟩ := hS; hs.tb
theorem SetAt.lt4 (hS : SetAt w S es ep t ks s.heap) : ks.length < 4000 := let ⟨_, _, hs⟩ := hS; hs.sz
theorem SetAt.sx (hS : SetAt w S es ep t ks s.heap) (p : ks.Perm ms) : SX w S ms s.heap := let ⟨o, e, r⟩ := hS; ⟨o, es, ep, t, ks, e, r, p⟩
theorem SetAt.find {x : Int} {tk : Tok} {Q : Option Nat -> Shared -> Prop} (hS : SetAt w S es ep t ks s.heap) (h1 : ∀ i, ks[i]? = some x -> Q (some i) s) (h2 : x ∉ ks -> Q none s) : wpAny (model P w) A (setFind S (.int x tk) (hashInt x)) Q E s := by
 obtain ⟨o, ho, hs⟩ := hS
 have hel := hs.en.elems (P := P) (w := w)
 have hky : (intKind P w).is x (.int x tk) = true := intKind_is P w x tk
 unfold setFind setFindIn
 refine wpAny_bind (wpAny_setState_of ho hs.da hs.ft ?_)
 dsimp only
 rw [byScan_of (knd := intKind P w) rfl hs.bound hel, if_pos rfl]
 refine wpAny_bind (wpAny_rule ?_)
 refine wpAny_bind (wpAny_setScan_of (knd := intKind P w) (k := x) hky ho hs.da hs.ft hel ?_)
 have fd := hs.en.find (P := P) (w := w) (k := x)
 cases hr : List.findIdx? (fun e => (intKind P w).is x e.2) es.toList with
 | some j =>
  refine wpAny_pure ?_
  rw [Nat.zero_add]
  refine h1 j ?_
  obtain ⟨hj, p1, _⟩ := DC.mp hr
  have hjk : j < ks.length := by rw [<- hs.en.len]; exact hj
  have gk := B3 hjk
  obtain ⟨e', g, tk', q⟩ := cK hs.en gk
  rw [B3 hj] at g
  have g := Option.some.inj g
  rw [g, q] at p1
  have : x = ks[j] := by
   have z : (intKind P w).is x (hashInt ks[j], Value.int ks[j] tk').2 = decide (x = ks[j]) := lN x ks[j] tk'
   rw [z] at p1
   exact of_decide_eq_true p1
  rw [gk, this]
 | none =>
  rw [hr] at fd
  exact wpAny_pure (h2 (of_decide_eq_false fd.symm))
end
section
variable {P : Program} {w : World} {A : Around} {E : Value -> Shared -> Prop} {s : Shared} {S : Addr} {ks ms : List Int} {es : Array (Int × Value)} {ep : Nat} {t : SetTable}
theorem uO {Q : Bool -> Shared -> Prop} (sets : List Addr) (ho : ∀ a ∈ sets, ∃ ms, SX w a ms s.heap) (h : Q true s) : wpAny (model P w) A (setsQuiet sets) Q E s := by
 unfold setsQuiet
 refine wpAny_bind (wpAny_forIn_list _ (fun dC b s' => (∀ a ∈ dC, a ∈ sets) /\ b.1 = none /\ s' = s) _ ?_ ?_ sets _ ⟨fun _ h => h, rfl, rfl⟩)
 ·rintro a dC b s' ⟨hm, hb, rfl⟩
  obtain ⟨ms, sx⟩ := ho a (hm a CK)
  obtain ⟨es, ep, t, ks, sa, pm⟩ := jZ sx
  refine wpAny_bind (sa.entries ?_)
  refine wpAny_bind (PySem.MeetsSeq2.wpAny_forIn_array _ (fun dC b s'' => (∀ a ∈ dC, a ∈ es.toList) /\ b.1 = none /\ s'' = s') _ ?_ ?_ es _ ⟨fun _ h => h, rfl, rfl⟩)
  ·rintro x dC b s' ⟨hm, hb, rfl⟩
   obtain ⟨k, tk, _, e⟩ := Ents.mem (es := es.toList) sa.en (hm x CK)
   subst e
   refine wpAny_pure ⟨fun a h => hm a (Ct _ h), rfl, rfl⟩
  ·rintro ⟨b1, b2⟩ s'' ⟨_, hb', rfl⟩
   dsimp only at hb'
   subst hb'
   exact wpAny_pure ⟨fun a h => hm a (Ct _ h), rfl, rfl⟩
 ·rintro ⟨b1, b2⟩ s' ⟨_, hb, rfl⟩
  dsimp only at hb
  subst hb
  exact wpAny_pure h
theorem mI {Q : Bool -> Shared -> Prop} (h : Q (cz w) s) : wpAny (model P w) A setsByText Q E s := by
 unfold setsByText
 exact wpAny_bind (wpAny_askSetting (wpAny_pure h))
theorem SetAt.walk {others : List Addr} {f : Option Addr} {Q : Array (Int × Value) -> Shared -> Prop} (hS : SetAt w S es ep t ks s.heap) (ho : ∀ a ∈ others, ∃ ms, SX w a ms s.heap) (hf : ∀ a, f = some a -> a ≠ S /\ SX w a ms s.heap)
  (h : ∀ xs h', xs.toList.Perm es.toList -> (∀ b o, f ≠ some b -> s.heap.get? b = some o -> h'.get? b = some o) -> (∀ a, f = some a -> SX w a ms h') -> Q xs { s with heap := h' }) : wpAny (model P w) A (setWalkUnseen S others f) Q E s := by
 have hS' := hS
 obtain ⟨o, hoo, hs⟩ := hS
 unfold setWalkUnseen
 refine wpAny_bind (hS'.state ?_)
 dsimp only
 refine wpAny_bind (mI ?_)
 have done : ∀ xs : Array (Int × Value), xs.toList.Perm es.toList -> Q xs s := fun xs p => h xs s.heap p (fun _ _ _ e => e) fun a e => (hf a e).2
 by_cases hc : (cz w || t.led && t.plain || decide (es.size <= 1)) = true
 ·rw [if_pos hc]
  by_cases bt : cz w = true
  ·exact gU bt hoo hs (done _ (iA _ _))
  ·unfold setWalk
   have bt0 : cz w = false := by simpa using bt
   have ld : t.led = true := by rw [hs.tb.led, bt0]; rfl
   refine wpAny_bind (hS'.state ?_)
   dsimp only
   refine wpAny_bind (mI ?_)
   rw [bt0, if_neg Cj]
   rw [bt0, ld] at hc
   show wpAny _ _ (if (!t.plain && decide (es.size > 1)) = true then _ else _) _ _ _
   rw [if_neg (by cases hp : t.plain with | true => simp | false => (rw [hp] at hc; simp at hc ⊢; omega))]
   refine wpAny_bind ?_
   show wpAny _ _ (if (!t.led && decide (es.size > 1)) = true then unsupported "set:maker-not-led" else pure ()) _ _ _
   rw [if_neg (by rw [ld]; simp)]
   exact wpAny_pure (wpAny_pure (done _ (.refl _)))
 ·rw [if_neg hc]
  refine wpAny_bind (uO _ (fun a ha => ?_) ?_)
  ·rcases Cm.mp ha with e | e
   ·subst e; exact ⟨ks, hS'.sx (.refl _)⟩
   ·exact ho a e
  rw [if_neg (by simp)]
  refine wpAny_bind (wpAny_rule ?_)
  cases f with
  | none => exact wpAny_pure (done _ (.refl _))
  | some a =>
   obtain ⟨hne, sx⟩ := hf a rfl
   obtain ⟨ef, epf, tf, kf, sf, pf⟩ := jZ sx
   refine wpAny_bind (sf.state ?_)
   dsimp only
   by_cases hm : (tf.led && !t.led || tf.plain && !t.plain) = true
   ·rw [if_pos hm]
    refine wpAny_bind (sf.store (t' := { tf with led := tf.led && t.led, plain := tf.plain && t.plain }) sf.en sf.nd sf.lt4 sf.ft ⟨by show (tf.led && t.led) = _; rw [sf.tb.led, hs.tb.led]; simp, fun z => sf.tb.rise (by have z : (tf.plain && t.plain) = true := z; simp at z; exact z.1)⟩ fun h' sb st => ?_)
    exact wpAny_pure (h es h' (.refl _) (fun b o n e => (sb.2 b fun z => n (by rw [z])).trans e) fun a' e => by cases e; exact st.sx (s := { s with heap := h' }) pf)
   ·rw [if_neg hm]
    exact wpAny_pure (done _ (.refl _))
end
section
variable {P : Program} {w : World} {A : Around} {E : Value -> Shared -> Prop} {s : Shared} {S T : Addr} {ks ms ns : List Int} {es : Array (Int × Value)} {ep : Nat} {t : SetTable}
theorem SX.ty (h : SX w S ms s.heap) : s.TypeIs (.ref S) "set" := let ⟨o, _, _, _, _, e, r, _⟩ := h; ⟨o, e, r.ex.1⟩
theorem iD {Q : Bool -> Shared -> Prop} (hT : s.TypeIs (.ref S) "set") (h : Q true s) : wpAny (model P w) A (Builtin.Frozenset.isAnySet (.ref S)) Q E s := by
 unfold Builtin.Frozenset.isAnySet
 show wpAny _ _ (isInstance (.ref S) (.type "set") >>= fun b => _) _ _ _
 refine wpAny_bind (wpAny_isInstance hT sub_set_self ?_)
 exact wpAny_pure h
theorem sH {Q : Value -> Shared -> Prop} (hT : s.TypeIs (.ref S) "set") (h : Q (.type "set") s) : wpAny (model P w) A (Builtin.Frozenset.baseOf S) Q E s := by
 unfold Builtin.Frozenset.baseOf
 refine wpAny_bind (wpAny_isInstance hT sub_set_self ?_)
 exact wpAny_pure h
theorem sI {Q : Value -> Shared -> Prop} (h : Q (.ref s.heap.objs.size) { s with heap := s.heap.push (bG w) }) : wpAny (model P w) A (newSet (.type "set")) Q E s := by
 unfold newSet
 refine wpAny_bind (mI ?_)
 dsimp only
 simp only [newObj]
 exact wpAny_bind (wpAny_alloc (wpAny_pure h))
theorem lQ {Q : Nat -> Shared -> Prop} (hS : SetAt w S es ep t ks s.heap) (h : Q es.size s) : wpAny (model P w) A (Builtin.Frozenset.sizeOf S) Q E s := by
 unfold Builtin.Frozenset.sizeOf
 exact wpAny_bind (hS.entries (wpAny_pure h))
theorem qW {id : String} {Q : Unit -> Shared -> Prop} (hS : SetAt w S es ep t ks s.heap) (h : Q () s) : wpAny (model P w) A (Builtin.Frozenset.unchanged id S ep) Q E s := by
 unfold Builtin.Frozenset.unchanged
 refine wpAny_bind (hS.epoch ?_)
 rw [if_neg (by simp)]
 exact wpAny_pure h
theorem sJ {r : Addr} {xs : Array (Int × Value)} {kx k0 : List Int} {f : (Int × Value) -> PUnit -> Sem (ForInStep PUnit)} {G : Heap -> Prop} {Q : PUnit -> Shared -> Prop} (keep : Int -> Bool) (en : Ents xs.toList kx) (nd : kx.Nodup) (dj : ∀ k ∈ kx, k ∉ k0) (hl : kx.length + k0.length + 1 < 4000)
  (hG : ∀ h h', G h -> Heap.SameBut r h h' -> G h')
  (hf : ∀ k tk (s' : Shared) (Q' : ForInStep PUnit -> Shared -> Prop) kr, k ∈ kx -> G s'.heap -> SX w r kr s'.heap -> kr.length + 1 < 4000 -> (keep k = true -> ∀ h', Heap.SameBut r s'.heap h' -> SX w r (b9 kr k) h' -> Q' (.yield ⟨⟩) { s' with heap := h' }) -> (keep k = false -> Q' (.yield ⟨⟩) s') -> wpAny (model P w) A (f (hashInt k, .int k tk) ⟨⟩) Q' E s')
  (g : G s.heap) (sx : SX w r k0 s.heap)
  (h : ∀ h', Heap.SameBut r s.heap h' -> SX w r (k0 ++ kx.filter keep) h' -> Q ⟨⟩ { s with heap := h' }) : wpAny (model P w) A (forIn xs ⟨⟩ f) Q E s := by
 refine PySem.MeetsSeq2.wpAny_forIn_array f (fun dC _ s' => ∃ kr h', Ents dC kr /\ kr <:+ kx /\ s' = { s with heap := h' } /\ Heap.SameBut r s.heap h' /\ SX w r (k0 ++ (kx.take (kx.length - kr.length)).filter keep) h' /\ G h') _ ?_ ?_ xs ⟨⟩ ⟨kx, s.heap, en, List.suffix_refl _, rfl, Heap.SameBut.refl _ _, by rw [Dv, Dx]; simpa using sx, g⟩
 ·rintro x dC b s' ⟨kr, h1, er, sf, rfl, sb, sx1, g1⟩
  cases er with
  | @cons _ k _ kr' q er' =>
   obtain ⟨tk, rfl⟩ := q
   obtain ⟨pre, ep⟩ := sf
   have hk : k ∈ kx := by rw [<- ep]; simp
   have e1 : kx.length - (k :: kr').length = pre.length := by rw [<- ep]; simp
   have e2 : kx.length - kr'.length = pre.length + 1 := by rw [<- ep]; simp; omega
   have t1 : kx.take pre.length = pre := by rw [<- ep]; simp
   have t2 : kx.take (pre.length + 1) = pre ++ [k] := by
    have : kx = (pre ++ [k]) ++ kr' := by rw [<- ep]; simp
    rw [this]
    have : pre.length + 1 = (pre ++ [k]).length := by simp
    rw [this, List.take_left]
   rw [e1, t1] at sx1
   have kn : k ∉ pre := by
    rw [<- ep, DE] at nd
    exact fun m => nd.2.2 k m k (by simp) rfl
   have fl : (pre.filter keep).length <= kx.length := CJ (CM ..) (by rw [<- ep]; simp)
   have sfx : kr' <:+ kx := ⟨pre ++ [k], by rw [<- ep]; simp⟩
   refine hf k tk _ _ _ hk g1 sx1 (by rw [Cd]; omega) (fun hp h2 sb2 sx2 => ?_) fun hp => ?_
   ·refine ⟨kr', h2, er', sfx, rfl, sb.trans sb2, ?_, hG _ _ g1 sb2⟩
    have ed : b9 (k0 ++ pre.filter keep) k = k0 ++ (pre ++ [k]).filter keep := by
     have : k ∉ k0 ++ pre.filter keep := fun m => by
      rcases Cw.mp m with m | m
      ·exact dj k hk m
      ·exact kn (CD.mp m).1
     unfold b9
     rw [if_neg this, CT, DQ]
     simp [hp]
    rw [e2, t2, <- ed]
    exact sx2
   ·refine ⟨kr', h1, er', sfx, rfl, sb, ?_, g1⟩
    rw [e2, t2, CT]
    simpa [hp] using sx1
 ·rintro b s' ⟨kr, h1, er, sf, rfl, sb, sx1, g1⟩
  cases er
  refine h h1 sb ?_
  rw [List.length_nil, Nat.sub_zero, CW] at sx1
  exact sx1
end
section
variable {P : Program} {w : World} {A : Around} {E : Value -> Shared -> Prop} {s : Shared} {S T : Addr} {ks ms ns : List Int} {es : Array (Int × Value)} {ep : Nat} {t : SetTable}
theorem qX {a r : Addr} {h h' : Heap} (n : a ≠ r) (sb : Heap.SameBut r h h') : ∀ o, h.get? a = some o -> h'.get? a = some o := fun o e => (sb.2 a n).trans e
theorem uP {id : String} {W0 K0 r : Addr} {ew : Array (Int × Value)} {epw : Nat} {tw : SetTable} {kw : List Int} {ka : List Int} {xs : Array (Int × Value)} {kx : List Int} {Q : PUnit -> Shared -> Prop}
  (hW : SetAt w W0 ew epw tw kw s.heap) (hK : SX w K0 ka s.heap) (n1 : W0 ≠ r) (n2 : K0 ≠ r) (en : Ents xs.toList kx) (nd : kx.Nodup) (hl : kx.length + 1 < 4000) (sx : SX w r [] s.heap) (c : Bool -> Bool)
  {f : (Int × Value) -> PUnit -> Sem (ForInStep PUnit)}
  (hf : ∀ x, f x ⟨⟩ = (do
   holding [x.2] do
    let q <- setFind K0 x.2 x.1
    if c q.isSome = true then
     let _ <- setAddHashed r x.2 x.1
   Builtin.Frozenset.unchanged id W0 epw
   pure (.yield ⟨⟩)))
  (h : ∀ h', Heap.SameBut r s.heap h' -> SX w r (kx.filter fun k => c (decide (k ∈ ka))) h' -> Q ⟨⟩ { s with heap := h' }) : wpAny (model P w) A (forIn xs ⟨⟩ f) Q E s := by
 refine sJ (k0 := []) (G := fun h => SetAt w W0 ew epw tw kw h /\ SX w K0 ka h) (fun k => c (decide (k ∈ ka))) en nd (fun _ _ h => by cases h) (by simpa using hl) (fun h h' g sb => ⟨g.1.at (qX n1 sb), g.2.at (qX n2 sb)⟩) ?_ ⟨hW, hK⟩ sx (fun h' sb sx' => h h' sb (by simpa using sx'))
 intro k tk s' Q' kr hk ⟨gW, gK⟩ sxr hlen q1 q2
 rw [hf]
 dsimp only
 obtain ⟨ek, epk, tk', kk, sk, pk⟩ := jZ gK
 have fin : ∀ d : Bool, (decide (k ∈ ka) = d) -> wpAny (model P w) A (if c d = true then (do let _ <- setAddHashed r (.int k tk) (hashInt k); pure PUnit.unit) else pure PUnit.unit) (fun _ s2 => wpAny (model P w) A (do Builtin.Frozenset.unchanged id W0 epw; pure (ForInStep.yield PUnit.unit)) Q' E s2) E s' := fun d hc => by
  by_cases hcb : c d = true
  ·rw [if_pos hcb]
   refine wpAny_bind (uI sxr hlen fun _ h' sb sx' => wpAny_pure ?_)
   refine wpAny_bind (qW (s := { s' with heap := h' }) (gW.at (qX n1 sb)) (wpAny_pure ?_))
   exact q1 (by rw [hc]; exact hcb) h' sb sx'
  ·rw [if_neg hcb]
   refine wpAny_pure ?_
   refine wpAny_bind (qW gW (wpAny_pure ?_))
   exact q2 (by rw [hc]; simpa using hcb)
 refine wpAny_bind (wpAny_holding (wpAny_bind (sk.find (fun i hi => ?_) fun hn => ?_)))
 ·exact fin true (decide_eq_true (pk.mem_iff.mp (B8 hi)))
 ·exact fin false (decide_eq_false fun m => hn (pk.mem_iff.mpr m))
theorem uQ {id : String} {Q : Value -> Shared -> Prop} (hS : SX w S ms s.heap) (hT : SX w T ns s.heap) (hne : S ≠ T) (hl1 : ms.length < 3000) (hl2 : ns.length < 3000)
  (h : ∀ h' ks, (∀ b o, s.heap.get? b = some o -> h'.get? b = some o) -> SX w s.heap.objs.size ks h' -> ks.Nodup -> (∀ x, x ∈ ks <-> x ∈ ms /\ x ∈ ns) -> Q (.ref s.heap.objs.size) { s with heap := h' }) : wpAny (model P w) A (Builtin.Frozenset.intersection id S (.ref T)) Q E s := by
 unfold Builtin.Frozenset.intersection
 rw [if_neg (by simp; exact fun z => hne z.symm)]
 refine wpAny_bind (sH hS.ty (wpAny_bind (sI ?_)))
 have lS := hS.lt
 have lT := hT.lt
 have kp : ∀ b o, s.heap.get? b = some o -> (s.heap.push (bG w)).get? b = some o := fun b o e => Heap.get?_push_of_some _ e
 have hS1 := hS.at (kp S)
 have hT1 := hT.at (kp T)
 have hR1 : SX w s.heap.objs.size [] (s.heap.push (bG w)) := lP (Heap.get?_push_size _ rfl)
 generalize hr : s.heap.objs.size = r at *
 generalize hh1 : s.heap.push (bG w) = h1 at *
 refine wpAny_bind (wpAny_pure ?_)
 have ne1 : S ≠ r := Cp lS
 have ne2 : T ≠ r := Cp lT
 have aS := jZ hS1
 have aT := jZ hT1
 obtain ⟨eS, epS, tS, kS, aS, pS⟩ := aS
 obtain ⟨eT, epT, tT, kT, aT, pT⟩ := aT
 refine wpAny_bind (wpAny_holding (wpAny_bind (iD (s := { s with heap := h1 }) hT1.ty ?_)))
 rw [if_pos rfl]
 refine wpAny_bind (wpAny_pure ?_)
 refine wpAny_bind (lQ (s := { s with heap := h1 }) aT (wpAny_bind (lQ (s := { s with heap := h1 }) aS ?_)))
 have core : ∀ (W0 K0 : Addr) (ew : Array (Int × Value)) (epw : Nat) (tw : SetTable) (kw ka : List Int), SetAt w W0 ew epw tw kw h1 -> SX w K0 ka h1 -> W0 ≠ r -> K0 ≠ r -> kw.length < 3000 -> (∀ x, x ∈ kw /\ x ∈ ka <-> x ∈ ms /\ x ∈ ns) ->
   wpAny (model P w) A (do
    let was <- setEpoch W0
    let l <- setWalkUnseen W0 [K0, r] (some r)
    forIn l PUnit.unit fun x __s => match x with
     | (h, x) => do
      holding [x] do
       let q <- setFind K0 x h
       if q.isSome = true then do
        let _ <- setAddHashed r x h
        pure ()
       else pure ()
      Builtin.Frozenset.unchanged id W0 was
      pure (ForInStep.yield PUnit.unit)
    pure ()) (fun _ s' => wpAny (model P w) A (pure (Value.ref r)) Q E s') E { s with heap := h1 } := by
  intro W0 K0 ew epw tw kw ka hW hK n1 n2 hlw hm
  refine wpAny_bind (SetAt.epoch (s := { s with heap := h1 }) hW ?_)
  refine wpAny_bind (SetAt.walk (s := { s with heap := h1 }) (ms := []) hW (fun a ha => ?_) (fun a e => ?_) fun xs h2 px k2 f2 => ?_)
  ·simp only [Cm, CP, or_false] at ha
   rcases ha with e | e <;> subst e
   ·exact ⟨_, hK⟩
   ·exact ⟨_, hR1⟩
  ·cases e; exact ⟨Ne.symm n1, hR1⟩
  have k2' : ∀ b o, b ≠ r -> h1.get? b = some o -> h2.get? b = some o := fun b o n e => k2 b o (fun z => n (Option.some.inj z).symm) e
  obtain ⟨kx, nx, qx⟩ := Ents.perm px (SetAt.en (s := { s with heap := h1 }) hW)
  have ndw := SetAt.nd (s := { s with heap := h1 }) hW
  have ndx : kx.Nodup := qx.nodup_iff.mpr ndw
  refine wpAny_bind (uP (s := { s with heap := h2 }) (hW.at fun o e => k2' W0 o n1 e) (hK.at fun o e => k2' K0 o n2 e) n1 n2 nx ndx (by rw [qx.length_eq]; omega) (f2 r rfl) (fun b => b) (fun x => rfl) fun h3 sb sx => wpAny_pure (wpAny_pure ?_))
  refine h h3 _ (fun b o e => ?_) sx (ndx.filter _) fun x => ?_
  ·have nb : b ≠ r := by rw [<- hr]; exact Cp (Heap.lt_size e)
   exact qX nb sb o (k2' b o nb (kp b o e))
  ·rw [CD, qx.mem_iff, <- hm x]
   simp
 by_cases hc : eT.size > eS.size
 ·rw [if_pos hc]
  exact core S T eS epS tS kS ns aS hT1 ne1 ne2 (by rw [pS.length_eq]; exact hl1) fun x => by rw [pS.mem_iff]
 ·rw [if_neg hc]
  exact core T S eT epT tT kT ms aT hS1 ne2 ne1 (by rw [pT.length_eq]; exact hl2) fun x => by rw [pT.mem_iff]; exact And.comm
end
section
variable {P : Program} {w : World} {A : Around} {E : Value -> Shared -> Prop} {s : Shared} {S T r : Addr} {ks ms ns : List Int} {es : Array (Int × Value)} {ep : Nat} {t : SetTable}
end
section
variable {P : Program} {w : World} {A : Around} {E : Value -> Shared -> Prop} {s : Shared} {S T r : Addr} {ks kr ms ns : List Int} {es er : Array (Int × Value)} {ep epr : Nat} {t tr : SetTable}
end
section
variable {P : Program} {w : World} {A : Around} {E : Value -> Shared -> Prop} {s : Shared} {S T r : Addr} {ks kr ms ns : List Int} {es er : Array (Int × Value)} {ep epr : Nat} {t tr : SetTable}
end
section
variable {P : Program} {w : World} {A : Around} {E : Value -> Shared -> Prop} {s : Shared} {S T r : Addr} {ks kr ms ns : List Int} {es er : Array (Int × Value)} {ep epr : Nat} {t tr : SetTable}
end
theorem eM : Slot "set" "__and__" "set.__and__" := .of (owner := "set") (n := "__and__") (by rw [typeLookup_type, builtinLookup_eq_fast]; kernel_rfl) (by decide +kernel) (by decide +kernel) (by decide +kernel) (.inl (by decide +kernel)) (by rw [isSubtype_type]; kernel_rfl)
theorem kZ : entryFor table "set.__and__" = some Builtin.«frozenset.__and__» := entryFor_alias (id' := "frozenset.__and__") (by kernel_rfl) rfl (by decide +kernel) (by kernel_rfl)
theorem mJ (a b : Value) : argsOk "set.__and__" ⟨[a, b], []⟩ := by unfold argsOk; kernel_rfl
theorem mK : fillsNumberSlot (.type "set") "and" = pure true := fillsNumberSlot_of eM.lookup (by decide +kernel) (r := some (.builtin "set.__rand__")) (by rw [typeLookup_type, builtinLookup_eq_fast]; kernel_rfl)
section
variable {X : Cx}
def zZ (w : World) (rel : Int -> List Int -> List Int -> Prop) : R2 := fun x y H Q => ∃ a b ms ns, x = .ref a /\ y = .ref b /\ a ≠ b /\ H a = some (.ext (SX w a ms)) /\ H b = some (.ext (SX w b ns)) /\ ms.length < 64 /\ ns.length < 64 /\
 ∀ c ks, H c = none -> ks.Nodup -> (∀ x, x ∈ ks <-> rel x ms ns) -> Q (.ref c) (ay H c (.ext (SX w c ks)))
theorem wZ (w : World) (hw : X.w = w := by rfl) : fm X (binaryOp .BitAnd) (zZ w fun x ms ns => x ∈ ms /\ x ∈ ns) := by
 subst hw
 intro pins s σ H x y v u Q I rx ry h
 obtain ⟨a, b, ms, ns, rfl, rfl, hne, ha, hb, l1, l2, q⟩ := h
 cases rx
 cases ry
 obtain ⟨sa, _⟩ := (show ObjOk X.prog X.w H s.heap a (.ext (SX X.w a ms)) from I.hok a _ ha)
 obtain ⟨sb, _⟩ := (show ObjOk X.prog X.w H s.heap b (.ext (SX X.w b ns)) from I.hok b _ hb)
 refine wpAny_binaryOp_same sa.ty sb.ty mK eM (wpAny_call_entry eM sa.ty kZ ?_ (mJ _ _))
 show wpAny _ _ (Builtin.Frozenset.slot1 "__and__" ⟨[.ref a, .ref b], []⟩ >>= _) _ _ s
 refine wpAny_bind (wpAny_pure ?_)
 refine wpAny_bind ?_
 show wpAny _ _ (Builtin.Frozenset.isAnySet (.ref a) >>= fun c => _) _ _ _
 refine wpAny_bind (iD sa.ty ?_)
 show wpAny _ _ (Builtin.Frozenset.isAnySet (.ref b)) _ _ _
 refine iD sb.ty ?_
 rw [if_neg (by simp)]
 refine wpAny_bind (wpAny_pure ?_)
 refine wpAny_bind (uQ sa sb hne (by omega) (by omega) fun h' ks kp sx nd m => wpAny_pure ⟨_, rfl, by simp, ?_⟩)
 exact ⟨.ref s.heap.objs.size, _, I.new' (s' := { s with heap := h' }) kp (Ca _) rfl rfl sx.ok, rfl, q _ ks I.fresh nd m⟩
end
def AC (K : PySem.W.Frag) (a b : Addr) : It :=
  ⟨fun i H => ∃ xs ys x y, SqL K H a xs /\ SqL K H b ys /\ xs[i]? = some x /\ ys[i]? = some y,
   fun i H v H' => ∃ p x y, H p = none /\ (∀ xs, SqL K H a xs -> xs[i]? = some x) /\ (∀ ys, SqL K H b ys -> ys[i]? = some y) /\ v = .ref p /\ H' = ay H p (.tup [x, y]),
   fun i H => ∃ xs ys, SqL K H a xs /\ SqL K H b ys /\ xs.length <= i⟩
theorem uR {fs ex : List Addr} {H : Hp} {h h' : Heap} (k : ∀ b o, b ∉ ex -> h.get? b = some o -> h'.get? b = some o) : Un fs ex H H h h' where
 keep := fun b o q _ _ hx => k b o hx q
 slot := fun b o q _ _ hx => ⟨o.slots, k b o hx q⟩
 free := fun _ _ _ n _ => n
 there := fun b o q hx => ⟨o, k b o hx q⟩
 tups := fun _ _ q => q
 frzs := fun _ _ _ q => q
 tbls := fun b ps q => ⟨#[], by rw [q]; simp⟩
theorem uS {P : Program} {w : World} {K : PySem.W.Frag} {es : List Expr} {k1 : Nat} {pos : Pos} (z TI TO i1 i2 l1 l2 : Addr) (D : ZipApart z TI TO i1 i2 l1 l2) :
  Turn P w K (.Tuple es k1 pos) (AC K l1 l2) [z, TI, TO, i1, i2] z (fun i h => IsZip h z TI TO .none /\ IsPair h TI (.ref i1) (.ref i2) /\ (∃ a b, IsPair h TO a b) /\ h.IsListIter i1 l1 i /\ h.IsListIter i2 l2 i) where
 mem := by simp
 obj := fun i h st b hb => by
  obtain ⟨hz, hTI, ⟨a, c, hTO⟩, ⟨o1, e1, c1, d1⟩, ⟨o2, e2, c2, d2⟩⟩ := st
  simp only [Cm, CP, or_false] at hb
  rcases hb with e | e | e | e | e <;> subst e
  ·exact ⟨_, hz, fun v y => by have y' : Data.fields _ = Data.cell v := y; cases y'⟩
  ·exact ⟨_, hTI, fun v y => by have y' : Data.seq _ _ = Data.cell v := y; cases y'⟩
  ·exact ⟨_, hTO, fun v y => by have y' : Data.seq _ _ = Data.cell v := y; cases y'⟩
  ·exact ⟨o1, e1, fun v y => by rw [d1] at y; cases y⟩
  ·exact ⟨o2, e2, fun v y => by rw [d2] at y; cases y⟩
 keep := fun i h h' st k => by
  obtain ⟨hz, hTI, ⟨a, c, hTO⟩, h1, h2⟩ := st
  exact ⟨k z (by simp) _ hz, k TI (by simp) _ hTI, ⟨a, c, k TO (by simp) _ hTO⟩, h1.at fun o e => k i1 (by simp) o e, h2.at fun o e => k i2 (by simp) o e⟩
 item := by
  intro X hP hw hK hc i pins s σ H E I hf st hg
  subst hP hw hK
  obtain ⟨xs, ys, x, y, hq1, hq2, hx, hy⟩ := hg
  obtain ⟨its1, rv1, p1, _⟩ := I.list hq1
  obtain ⟨its2, rv2, p2, _⟩ := I.list hq2
  obtain ⟨u, hu, ru⟩ := rv1.get hx
  obtain ⟨v, hv, rv⟩ := rv2.get hy
  obtain ⟨hz, hTI, ⟨a, c, hTO⟩, h1, h2⟩ := st
  refine wpAny_pyNext_zip_item D hz hTI hTO h1 h2 p1.isList p2.isList (x := u) (y := v) (by simpa using hu) (by simpa using hv) fun h' a1 a2 a3 a4 a5 a6 kp => ?_
  refine ⟨_, rfl, wpAny_letOwnedTupleGo_zip a1 fun h2' z2 sb => ?_⟩
  have lt : ∀ {c o}, s.heap.get? c = some o -> s.heap.objs.size ≠ c := fun e => Ed (Heap.lt_size e)
  have kp2 : ∀ b o, b ∉ [z, TI, TO, i1, i2] -> s.heap.get? b = some o -> h2'.get? b = some o := fun b o hb e => by
   simp only [Cm, CP, or_false, not_or] at hb
   exact (sb.2 b hb.1).trans (kp b o hb.1 hb.2.2.1 hb.2.2.2.1 hb.2.2.2.2 e)
  have nz := lt hz
  have nTI := lt hTI
  have nTO := lt hTO
  have n1 : s.heap.objs.size ≠ i1 := by obtain ⟨_, e, _⟩ := h1; exact lt e
  have n2 : s.heap.objs.size ≠ i2 := by obtain ⟨_, e, _⟩ := h2; exact lt e
  have fr : H s.heap.objs.size = none := I.fresh
  have e3 : h2'.get? s.heap.objs.size = some { cls := .type "tuple", data := .seq #[u, v] } := (sb.2 _ nz).trans a5
  have hch : ∀ b ∈ [z, TI, TO, i1, i2], (b ∈ X.ex \/ X.s₀.heap.objs.size <= b) /\ b ≠ X.env.locals /\ (∀ x c, X.env.cells.lookup x = some c -> c ≠ b) /\ ∀ p ∈ X.pn ++ pins, p.1 ≠ b := fun b hb => by
   obtain ⟨f0, f1, f2, f3, f4, f5⟩ := hf b hb
   exact ⟨f3, f1, f4, f5⟩
  have off : ∀ b o, H b = some o -> b ∉ [z, TI, TO, i1, i2] := fun b o e m => by rw [(hf b m).1] at e; cases e
  have hok1 : HOk X.prog X.w H h2' := fun b o e => (I.hok b o e).stay (fun c oc hc q => kp2 c oc (by rcases hc with y | y; exact (by rw [y]; exact off b o e); exact off c _ y) q) (fun _ q => q) fun _ _ q => q
  have I2 : Inv X pins σ (ay H s.heap.objs.size (.tup [x, y])) { s with heap := h2' } := by
   have un : Un (gg X.stack) [z, TI, TO, i1, i2] H (ay H s.heap.objs.size (.tup [x, y])) s.heap h2' := {
    keep := fun b o q _ _ hx => kp2 b o hx q
    slot := fun b o q _ _ hx => ⟨o.slots, kp2 b o hx q⟩
    free := fun b o q n hx => by rw [aj (Cp (Heap.lt_size q))]; exact n
    there := fun b o q hx => ⟨o, kp2 b o hx q⟩
    tups := fun b xs q => by rw [aj (ak q fr)]; exact q
    frzs := fun b o xs q => by rw [aj (ak q fr)]; exact q
    tbls := fun b ps q => ⟨#[], by rw [aj (ak q fr), q]; simp⟩ }
   refine I.call' (s' := { s with heap := h2' }) (ch := [z, TI, TO, i1, i2]) rfl un (fun b o e => ?_) I.bare hch
   by_cases hb : b = s.heap.objs.size
   ·subst hb
    rw [ab] at e
    cases e
    refine ⟨b5, [u, v], .cons ru (.cons rv .nil), _, e3, rfl, _, rfl⟩
   ·rw [aj hb] at e
    refine (hok1 b o e).stay (fun _ _ _ q => q) (fun c q => by rw [aj (ak q fr)]; exact q) fun c xs q => by rw [aj (ak q fr)]; exact q
  refine ⟨.ref s.heap.objs.size, _, I2, rfl, ⟨_, x, y, fr, fun xs' h => by rw [I.list_inj h hq1]; exact hx, fun ys' h => by rw [I.list_inj h hq2]; exact hy, rfl, rfl⟩, ⟨z2, ?_, ⟨u, v, ?_⟩, ?_, ?_⟩, fun b hb => ?_⟩
  ·exact (sb.2 TI D.TIz).trans (kp TI _ D.TIz D.TITO D.TIi1 D.TIi2 hTI)
  ·exact (sb.2 TO D.TOz).trans a2
  ·exact a3.at fun o e => (sb.2 i1 D.i1z).trans e
  ·exact a4.at fun o e => (sb.2 i2 D.i2z).trans e
  ·have hne : b ≠ s.heap.objs.size := fun q => by
    subst q
    simp only [Cm, CP, or_false] at hb
    rcases hb with e | e | e | e | e
    ·exact nz e
    ·exact nTI e
    ·exact nTO e
    ·exact n1 e
    ·exact n2 e
   rw [aj hne]; exact (hf b hb).1
 done := by
  intro X hP hw hK hc i pins s σ H E I hf st hg
  subst hP hw hK
  obtain ⟨xs, ys, hq1, hq2, hx⟩ := hg
  obtain ⟨its1, rv1, p1, _⟩ := I.list hq1
  obtain ⟨its2, rv2, p2, _⟩ := I.list hq2
  obtain ⟨hz, hTI, ⟨a, c, hTO⟩, h1, h2⟩ := st
  have hl := rv1.length
  have off : ∀ b o, H b = some o -> b ∉ [z, TI, TO, i1, i2] := fun b o e m => by rw [(hf b m).1] at e; cases e
  refine wpAny_pyNext_zip_end (I.ok.hd hc) D hz hTI hTO h1 h2 p1.isList p2.isList (.inl (by simp; omega)) fun h' kp => ⟨rfl, ?_⟩
  have kp2 : ∀ b o, b ∉ [z, TI, TO, i1, i2] -> s.heap.get? b = some o -> h'.get? b = some o := fun b o hb e => by
   simp only [Cm, CP, or_false, not_or] at hb
   exact kp b o hb.1 hb.2.2.1 hb.2.2.2.1 hb.2.2.2.2 e
  refine I.call' (s' := { s with heap := h' }) (ch := [z, TI, TO, i1, i2]) rfl (uR kp2) (fun b o e => (I.hok b o e).stay (fun c oc hc q => kp2 c oc (by rcases hc with y | y; exact (by rw [y]; exact off b o e); exact off c _ y) q) (fun _ q => q) fun _ _ q => q) I.bare fun b hb => ?_
  obtain ⟨f0, f1, f2, f3, f4, f5⟩ := hf b hb
  exact ⟨f3, f1, f4, f5⟩
 self := fun _ _ _ _ _ st h => wpAny_pyIter_zip st.1 h
theorem sL (n l1 l2 : Nat) (t1 : l1 < n) (t2 : l2 < n) : ZipApart (n + 4) (n + 2) (n + 3) n (n + 1) l1 l2 := by
 constructor <;> first | exact Cp (by omega) | exact Ed (by omega)
section
variable {X : Cx}
def Bb (K : PySem.W.Frag) (ta : TA) : TI := fun σ H R => ta σ H fun vs H1 => ∃ a b xs ys, vs = [.ref a, .ref b] /\ SqL K H1 a xs /\ SqL K H1 b ys /\ R (AC K a b) H1
theorem uT {a b : Expr} {ta : TA} {p pos tp : Pos} {es : List Expr} {k1 : Nat} (K : PySem.W.Frag) (hg : Gl X "zip") (hm : X.mg "zip" = none) (ha : PA X [a, b] ta) (hK : X.K = K := by rfl) (hs : starEach [a, b] X.env = [(false, eval a X.env), (false, eval b X.env)] := by rfl) (hs2 : starEach [b] X.env = [(false, eval b X.env)] := by rfl) :
  PI X (.Tuple es k1 tp) (.Call (.Name "zip" p) [a, b] [] pos) (Bb K ta) := by
 subst hK
 intro pins s σ H R I h
 refine Call_ (fk I hg hm boot_zip (PyProof.Rows.callWith_type1 (br (ha pos pins s σ H _ I h) fun us s1 ⟨vs, H1, I1, r1, q1⟩ => ?_) (by rw [hs, hs2]) (by rw [hs2]; rfl)))
 obtain ⟨l1, l2, xs, ys, e, hq1, hq2, q⟩ := q1
 subst e
 cases r1 with
 | cons r rr =>
  cases rr with
  | cons r' rr =>
   cases rr
   cases r
   cases r'
   obtain ⟨its1, rv1, p1, _⟩ := I1.list hq1
   obtain ⟨its2, rv2, p2, _⟩ := I1.list hq2
   have t1 : l1 < s1.heap.objs.size := by obtain ⟨o, e, _⟩ := p1.isList; exact Heap.lt_size e
   have t2 : l2 < s1.heap.objs.size := by obtain ⟨o, e, _⟩ := p2.isList; exact Heap.lt_size e
   refine call_zip_2 p1.isList p2.isList fun h' hz hTI hTO h1 h2 hsz kp => ?_
   refine wpAny_pyIter_zip hz ?_
   have D := sL s1.heap.objs.size l1 l2 t1 t2
   have I2 : Inv X pins σ H1 { s1 with heap := h' } := I1.kept (t' := s1.toks) kp
   refine ⟨_, [s1.heap.objs.size + 4, s1.heap.objs.size + 2, s1.heap.objs.size + 3, s1.heap.objs.size, s1.heap.objs.size + 1], _, _, H1, rfl, I2, uS _ _ _ _ _ _ _ D, ⟨hz, hTI, ⟨_, _, hTO⟩, h1, h2⟩, fun b hb => ?_, q⟩
   have le : s1.heap.objs.size <= b := by
    simp only [Cm, CP, or_false] at hb
    rcases hb with e | e | e | e | e <;> subst e
    ·exact DX _ _
    ·exact DX _ _
    ·exact DX _ _
    ·exact Ca _
    ·exact DX _ _
   exact I1.fpOk le (I1.hok.fresh le)
end
section
variable {X : Cx}
end
section
variable {X : Cx}
end
section
variable {X : Cx}
end
section
variable {X : Cx}
end
section
open PySem.AutoSeq1 (wpAny_loadPart')
open PySem.MeetsSeq PySem.MeetsSeq2 PySem.MeetsSeq3
end
section
variable {X : Cx}
end
theorem df {J : It} {H1 : Hp} {js : List (Option Nat)} {σ : L2.St} {tc : TT} {te : TE} {Q : VK} (n : Nat) (item : Nat -> V) (p : Nat -> Bool) (P : Addr -> Nat -> V -> Hp -> Prop) (hn : n < 100000)
  (mono : ∀ acc i v H H', P acc i v H -> SameBut acc H H' -> P acc i v H')
  (hgo : ∀ i H, i < n -> Same H1 H -> J.go i H) (hst : ∀ H, Same H1 H -> J.stop n H) (hy : ∀ i H x H', i < n -> Same H1 H -> J.yld i H x H' -> H' = H /\ x = item i)
  (hc : ∀ i, i < n -> ∀ H2 R, Same H1 H2 -> (∀ H3, Same H2 H3 -> R (p i) H3) -> tc (some (item i) :: bS σ js) H2 R)
  (he : ∀ acc i, i < n -> p i = true -> ∀ H2 R, Same H1 H2 -> H1 acc = none -> H2 acc ≠ none -> (∀ v H3, Same H2 H3 -> P acc i v H3 -> R v H3) -> te (some (item i) :: bS σ js) H2 R)
  (hQ : ∀ acc vs H', Same H1 H' -> H1 acc = none -> H' acc = some (.lst vs) -> Paired (fun i v => P acc i v H') ((B9 n).filter p) vs -> Q (.ref acc) H') :
  b8 J H1 (none :: js) (bN 0) tc te σ Q := by
 intro acc hacc
 refine ⟨fun i m ys H => m = n - i /\ i <= n /\ Same H1 H /\ H acc = some (.lst ys) /\ Paired (fun k v => P acc k v H) ((B9 i).filter p) ys, ⟨n, by simp, Cz _, Same.new hacc, ab, .nil⟩, ?_⟩
 rintro i m ys H ⟨rfl, hi, s1, ha, hp⟩
 by_cases hlt : i < n
 ·refine .inr ⟨hgo i H hlt s1, fun ys' H' => i < n /\ Same H1 H' /\ H' acc = some (.lst ys') /\ Paired (fun k v => P acc k v H') ((B9 (i + 1)).filter p) ys', fun ys' H' ⟨z, a, b, c⟩ => ⟨n - (i + 1), CU _ _ hlt, rfl, hlt, a, b, c⟩, fun x H' y => ?_⟩
  obtain ⟨rfl, rfl⟩ := hy i H x H' hlt s1 y
  refine ⟨uy, hc i hlt _ _ s1 fun H2 s2 => ⟨fun hb => ?_, fun hb => ?_⟩⟩
  ·have ha2 := s2 _ _ ha
   refine he acc i hlt hb _ _ (s1.trans s2) hacc (by rw [ha2]; simp) fun v H3 s3 pv => ?_
   have hlen : ys.length <= i := by
    rw [<- Paired.length hp]
    exact CJ (CM _ _) (by simp)
   refine ⟨s3 _ _ ha2, iV (by omega), hlt, ((s1.trans s2).trans s3).put hacc, ab, ?_⟩
   rw [C1, CT]
   have e : Ek p [i] = [i] := by simp [hb]
   rw [e]
   refine Paired.snoc (Paired.mapP hp fun k v q => ?_) ?_
   ·exact mono acc k v _ _ (mono acc k v _ _ q (s2.trans s3).but) SameBut.upd
   ·exact mono acc i v _ _ pv SameBut.upd
  ·refine ⟨hlt, s1.trans s2, s2 _ _ ha, ?_⟩
   rw [C1, CT]
   have e : Ek p [i] = [] := by simp [hb]
   rw [e, Dh]
   exact Paired.mapP hp fun k v q => mono acc k v _ _ q s2.but
 ·have e : i = n := Do hi (C8 hlt)
  subst e
  exact .inl ⟨hst H s1, hQ acc ys H s1 hacc ha hp⟩
theorem iE {H1 : Hp} {js : List (Option Nat)} {σ : L2.St} {tc : TT} {te : TE} {Q : VK} {n : Nat} (p : Nat -> Bool) (hn : n < 100000)
  (hc : ∀ i : Nat, i < n -> ∀ H2 R, Same H1 H2 -> (∀ H3, Same H2 H3 -> R (p i) H3) -> tc (some (.int (0 + (i : Int))) :: bS σ js) H2 R)
  (he : ∀ i : Nat, i < n -> ∀ H2 R, R (.int ((i : Nat) : Int)) H2 -> te (some (.int (0 + (i : Int))) :: bS σ js) H2 R)
  (hQ : ∀ acc H', Same H1 H' -> H1 acc = none -> H' acc = some (.lst (((B9 n).filter p).map fun (i : Nat) => V.int (i : Int))) -> Q (.ref acc) H') : b8 (o8 0 n) H1 (none :: js) (bN 0) tc te σ Q :=
 df (J := o8 0 n) (H1 := H1) (js := js) (σ := σ) (tc := tc) (te := te) (Q := Q) n (fun i => .int (0 + (i : Int))) p (fun _ i v _ => v = V.int (i : Int)) hn (fun _ _ _ _ _ h _ => h)
  (fun _ _ h _ => h) (fun _ _ => Ca _) (fun _ _ _ _ _ _ y => y) hc (fun _ i hi _ H2 R s _ _ k => he i hi H2 R (k _ H2 (Same.refl _) rfl))
  fun acc vs H' s n' e p => hQ acc H' s n' (by rw [e, cy p])
theorem Same.seqT {K : PySem.W.Frag} {H H' : Hp} {a : Addr} {xs : List V} (e : Same H H') (h : SqT K H a xs) : SqT K H' a xs := by
 rcases h with (h | ⟨o, h⟩) | h
 ·exact .inl (.inl (e _ _ h))
 ·exact .inl (.inr ⟨o, e _ _ h⟩)
 ·exact .inr h
theorem ou {K : PySem.W.Frag} {H1 : Hp} {js : List (Option Nat)} {σ : L2.St} {tc : TT} {te : TE} {Q : VK} {a : Addr} {xs : List V} (p : Nat -> Bool) (f : Nat -> V) (hl : SqT K H1 a xs) (hn : xs.length < 100000)
  (hc : ∀ (i : Nat) x, xs[i]? = some x -> ∀ H2 R, Same H1 H2 -> (∀ H3, Same H2 H3 -> R (p i) H3) -> tc (some x :: bS σ js) H2 R)
  (he : ∀ (i : Nat) x, xs[i]? = some x -> p i = true -> ∀ H2 R, Same H1 H2 -> (∀ H3, Same H2 H3 -> R (f i) H3) -> te (some x :: bS σ js) H2 R)
  (hQ : ∀ acc H', Same H1 H' -> H1 acc = none -> H' acc = some (.lst (((B9 xs.length).filter p).map f)) -> Q (.ref acc) H') : b8 (xG K a) H1 (none :: js) (bN 0) tc te σ Q :=
 df (J := xG K a) (H1 := H1) (js := js) (σ := σ) (tc := tc) (te := te) (Q := Q) xs.length (fun i => xs.getD i .non) p (fun _ i v _ => v = f i) hn (fun _ _ _ _ _ h _ => h)
  (fun i H h s => ⟨xs, xs[i], Same.seqT s hl, by simp [h]⟩) (fun H s => ⟨xs, Same.seqT s hl, Ca _⟩)
  (fun i H x H' h s y => ⟨y.1, by have e := y.2 xs (Same.seqT s hl); simp [e]⟩)
  (fun i h H2 R s k => hc i _ (by simp [h]) H2 R s k) (fun acc i h hp H2 R s n1 n2 k => he i _ (by simp [h]) hp H2 R s fun H3 s3 => k _ H3 s3 rfl)
  fun acc vs H' s n' e p => hQ acc H' s n' (by rw [e, cy p])
def gI (f : Nat -> Int) (st : List Nat) : Nat := (dd (st.map f)).length
theorem ox (f : Nat -> Int) (st : List Nat) (i : Nat) : gI f (st ++ [i]) = if f i ∈ st.map f then gI f st else gI f st + 1 := by
 unfold gI
 rw [Cf, Ce, DT, eL]
 unfold b9
 by_cases h : f i ∈ st.map f
 ·rw [if_pos h, if_pos (bz.mpr h)]
 ·rw [if_neg h, if_neg fun z => h (bz.mp z), Cd, Cn]
theorem cO {K : PySem.W.Frag} {H1 : Hp} {js : List (Option Nat)} {σ : L2.St} {tc : TT} {te : TE} {Q : VK} {a : Addr} {xs : List V} (p : Nat -> Bool) (f : Nat -> V) (hl : SqL K H1 a xs) (hn : xs.length < 100000)
  (hc : ∀ (i : Nat) x, xs[i]? = some x -> ∀ H2 R, Same H1 H2 -> (∀ H3, Same H2 H3 -> R (p i) H3) -> tc (some x :: bS σ js) H2 R)
  (he : ∀ (i : Nat) x, xs[i]? = some x -> p i = true -> ∀ H2 R, Same H1 H2 -> (∀ H3, Same H2 H3 -> R (f i) H3) -> te (some x :: bS σ js) H2 R)
  (hQ : ∀ acc H', Same H1 H' -> H1 acc = none -> H' acc = some (.lst (((B9 xs.length).filter p).map f)) -> Q (.ref acc) H') : b8 (nO K a) H1 (none :: js) (bN 0) tc te σ Q :=
 df (J := nO K a) (H1 := H1) (js := js) (σ := σ) (tc := tc) (te := te) (Q := Q) xs.length (fun i => xs.getD i .non) p (fun _ i v _ => v = f i) hn (fun _ _ _ _ _ h _ => h)
  (fun i H h s => ⟨xs, xs[i], s.seq hl, by simp [h]⟩) (fun H s => ⟨xs, s.seq hl, Ca _⟩)
  (fun i H x H' h s y => ⟨y.1, by have e := y.2 xs (s.seq hl); simp [e]⟩)
  (fun i h H2 R s k => hc i _ (by simp [h]) H2 R s k) (fun acc i h hp H2 R s n1 n2 k => he i _ (by simp [h]) hp H2 R s fun H3 s3 => k _ H3 s3 rfl)
  fun acc vs H' s n' e p => hQ acc H' s n' (by rw [e, cy p])
theorem Bc {α : Type} {st : List Nat} {g : Nat -> Bool} {F : Nat -> α} : (((B9 st.length).filter fun j => g (st.getD j 0)).map fun j => F (st.getD j 0)) = (st.filter g).map F := by
 have e0 : st = (B9 st.length).map fun i => st.getD i 0 := by
  apply Du
  ·simp
  ·intro i h1 h2; simp [h1]
 conv => rhs; rw [e0]
 rw [EA, Cu]
 rfl
def brk (f : Nat -> Int) (n : Nat) (wd : Str) (k : Int) (st : List Nat) : Bool :=
 if wd = "most" then decide (k < ((gI f (st.filter fun i => decide (i < n)) : Nat) : Int)) else decide (((gI f (st.filter fun i => decide (i < n)) : Nat) : Int) + (st.length : Int) - ((st.filter fun i => decide (i < n)).length : Int) < k)
def fx (hs : List Int) (x : Int) : Nat := hs.findIdx fun y => decide (y = x)
theorem j0 {hs : List Int} {x : Int} (h : x ∈ hs) : hs[fx hs x]? = some x := by
 have hl : fx hs x < hs.length := DG ⟨x, h, by simp⟩
 have := List.findIdx_getElem (xs := hs) (p := fun y => decide (y = x)) (w := hl)
 rw [B3 hl]
 exact congrArg some (of_decide_eq_true this)
theorem xS {hs : List Int} {x : Int} {m : Nat} (h : m < fx hs x) : hs[m]? ≠ some x := fun z => by
 obtain ⟨hm, e⟩ := B6.mp z
 have := DJ h
 rw [e] at this
 simp at this
theorem Aa {hs : List Int} {k : Nat} (h : k < hs.length) : fx hs (hs.getD k 0) <= k := by
 refine Decidable.byContradiction fun z => xS (by omega : k < fx hs (hs.getD k 0)) ?_
 rw [aD h, B3 h]
def qe (hs : List Int) (k : Nat) : Nat := (dd (hs.take (fx hs (hs.getD k 0)))).length
def gX (hs : List Int) : List Nat := (B9 hs.length).map (qe hs)
theorem fQ {hs : List Int} : (gX hs).length = hs.length := by unfold gX; simp
theorem mL {hs : List Int} {k : Nat} (h : k < hs.length) : (gX hs)[k]? = some (qe hs k) := by
 unfold gX
 rw [B7, De h]; rfl
theorem iX {H1 : Hp} {js : List (Option Nat)} {σ : L2.St} {te : TE} {Q : VK} {n : Nat} (f : Nat -> List V) (hn : n < 100000)
  (he : ∀ i : Nat, i < n -> ∀ H2 R, Same H1 H2 -> (∀ r H3, Same H2 H3 -> H2 r = none -> H3 r = some (.lst (f i)) -> R (.ref r) H3) -> te (some (.int (0 + (i : Int))) :: bS σ js) H2 R)
  (hQ : ∀ acc (rs : List Addr) H', Same H1 H' -> H1 acc = none -> H' acc = some (.lst (rs.map V.ref)) -> rs.length = n -> (∀ (i : Nat) r, rs[i]? = some r -> H' r = some (.lst (f i)) /\ H1 r = none) -> (∀ r ∈ rs, r ≠ acc) -> Q (.ref acc) H') :
  b8 (o8 0 n) H1 (none :: js) (bN 0) eJ te σ Q :=
 df (J := o8 0 n) (H1 := H1) (js := js) (σ := σ) (tc := eJ) (te := te) (Q := Q) n (fun i => .int (0 + (i : Int))) (fun _ => true) (fun acc i v H => ∃ r, v = .ref r /\ r ≠ acc /\ H1 r = none /\ H r = some (.lst (f i))) hn
  (fun acc i v H H' ⟨r, e, n, h0, h⟩ s => ⟨r, e, n, h0, s r _ n h⟩) (fun _ _ h _ => h) (fun _ _ => Ca _) (fun _ _ _ _ _ _ y => y) (fun _ _ _ _ _ h => h _ (Same.refl _))
  (fun acc i hi _ H2 R s n1 n2 k => he i hi H2 R s fun r H3 s3 nr h3 => k _ H3 s3 ⟨r, rfl, fun z => n2 (by rw [<- z]; exact nr), s.free nr, h3⟩)
  fun acc vs H' s n' e p => by
   rw [CQ.mpr (fun _ _ => rfl)] at p
   have hl : vs.length = n := by rw [<- Paired.length p, CH]
   have all : ∀ (i : Nat) v, vs[i]? = some v -> ∃ r, v = .ref r /\ r ≠ acc /\ H1 r = none /\ H' r = some (.lst (f i)) := fun i v hv => by
    obtain ⟨k, hk, q⟩ := cK p hv
    have hi : i < n := by rw [<- hl]; exact (B6.mp hv).1
    rw [De hi] at hk
    cases hk
    exact q
   have ex : ∃ rs : List Addr, vs = rs.map V.ref := by
    refine ⟨vs.map fun v => match v with | .ref r => r | _ => 0, ?_⟩
    rw [Cu]
    apply Du
    ·simp
    ·intro i h1 h2
     obtain ⟨r, er, _⟩ := all i vs[i] (B3 h1)
     rw [C2]
     show vs[i] = V.ref (match vs[i] with | .ref r => r | _ => 0)
     rw [er]
   obtain ⟨rs, rfl⟩ := ex
   rw [B4] at hl
   refine hQ acc rs H' s n' e hl (fun i r hr => ?_) fun r hr => ?_
   ·obtain ⟨r', er, _, h1, h2⟩ := all i (.ref r) (by rw [B7, hr]; rfl)
    cases er
    exact ⟨h2, h1⟩
   ·obtain ⟨i, hi, ei⟩ := Ck.mp hr
    obtain ⟨r', er, h0, _⟩ := all i (.ref r) (by rw [B7, B3 hi, ei]; rfl)
    cases er
    exact h0
theorem uU {l r : List Int} {b : Int} (h : b ∈ l) : fx (l ++ r) b = fx l b := by
 have hl : fx l b < l.length := DG ⟨b, h, by simp⟩
 unfold fx at *
 rw [List.findIdx_append, if_pos hl]
theorem yQ {l : List Int} {b : Int} (h : b ∉ l) : fx (l ++ [b]) b = l.length := by
 have hl : ¬ fx l b < l.length := fun z => by
  have := List.findIdx_getElem (xs := l) (p := fun y => decide (y = b)) (w := z)
  exact h (by rw [<- of_decide_eq_true this]; exact CA _)
 unfold fx at *
 rw [List.findIdx_append, if_neg hl]
 simp [List.findIdx_cons]
theorem gY {l : List Int} {b : Int} (h : b ∈ l) : fx l b < l.length := DG ⟨b, h, by simp⟩
theorem uV {P : List Int -> Prop} (h0 : P []) (hs : ∀ l x, P l -> P (l ++ [x])) (l : List Int) : P l := by
 have : ∀ n, ∀ l : List Int, l.length = n -> P l := fun n => by
  induction n with
  | zero => intro l h; rw [Dg.mp h]; exact h0
  | succ n ih =>
   intro l h
   have e : l = l.dropLast ++ [l.getLast (by intro z; rw [z] at h; simp at h)] := (DO _).symm
   rw [e]
   exact hs _ _ (ih _ (by rw [DS]; omega))
 exact this _ l rfl
section
variable {X : Cx}
end
def tY (hs : List Int) (b : Int) : Nat := (dd (hs.take (fx hs b))).length
theorem jA (hs : List Int) : gX hs = hs.map (tY hs) := by
 apply Du
 ·rw [fQ, B4]
 ·intro i h1 h2
  rw [fQ] at h1
  have := mL h1
  rw [B3 (by rw [fQ]; exact h1)] at this
  rw [Option.some.inj this, C2]
  unfold qe tY
  rw [aD h1]
theorem uW {hs : List Int} {a b : Int} (ha : a ∈ hs) (h : fx hs a < fx hs b) : tY hs a < tY hs b := by
 have na : a ∉ hs.take (fx hs a) := fun m => by
  obtain ⟨i, hi, e⟩ := Ck.mp m
  rw [CO] at hi
  rw [DF] at e
  exact xS (show i < fx hs a by omega) (by rw [B3 (by omega), e])
 have ma : a ∈ hs.take (fx hs b) := by
  have hl := gY ha
  have e := j0 ha
  rw [B3 hl] at e
  rw [Ck]
  exact ⟨fx hs a, by rw [CO]; omega, by rw [DF]; exact Option.some.inj e⟩
 have nd : (dd (hs.take (fx hs a)) ++ [a]).Nodup := eI (jY _) fun z => na (bz.mp z)
 have := nd.length_le_of_subset (l₂ := dd (hs.take (fx hs b))) fun x hx => by
  rcases Cw.mp hx with z | z
  ·refine bz.mpr ?_
   have hx' := bz.mp z
   have : hs.take (fx hs a) = (hs.take (fx hs b)).take (fx hs a) := by rw [EC, Dz (by omega)]
   rw [this] at hx'
   exact En hx'
  ·rw [Cg.mp z]; exact bz.mpr ma
 rw [Cd, Cn] at this
 exact this
theorem qY {hs : List Int} {a b : Int} (ha : a ∈ hs) (hb : b ∈ hs) (h : tY hs a = tY hs b) : a = b := by
 rcases Ef (fx hs a) (fx hs b) with z | z | z
 ·have := uW ha z; omega
 ·have e1 := j0 ha
  have e2 := j0 hb
  rw [z, e2] at e1
  exact (Option.some.inj e1).symm
 ·have := uW hb z; omega
theorem qf {g : Int -> Int} (l : List Int) : (∀ x ∈ l, ∀ y ∈ l, g x = g y -> x = y) -> (dd (l.map g)).length = (dd l).length := by
 refine uV (P := fun l => (∀ x ∈ l, ∀ y ∈ l, g x = g y -> x = y) -> (dd (l.map g)).length = (dd l).length) (fun _ => rfl) (fun l x ih hi => ?_) l
 have ih := ih fun a ha b hb => hi a (Cr _ ha) b (Cr _ hb)
 rw [Cf, Ce, DT, eL, eL]
 unfold b9
 by_cases hx : x ∈ l
 ·rw [if_pos (bz.mpr (Cb.mpr ⟨x, hx, rfl⟩)), if_pos (bz.mpr hx), ih]
 ·have hg : g x ∉ l.map g := fun m => by
   obtain ⟨y, hy, e⟩ := Cb.mp m
   have := hi y (Cr _ hy) x (by simp) e
   exact hx (by rw [<- this]; exact hy)
  rw [if_neg fun z => hg (bz.mp z), if_neg fun z => hx (bz.mp z), Cd, Cd, ih]
  rfl
theorem uX (hs : List Int) : (dd ((gX hs).map fun (i : Nat) => (i : Int))).length = (dd hs).length := by
 have e : (gX hs).map (fun (i : Nat) => (i : Int)) = hs.map fun b => ((tY hs b : Nat) : Int) := by rw [jA, Cu]; rfl
 rw [e]
 exact qf hs fun x hx y hy h => qY hx hy (by omega)
theorem j3 {hs : List Int} {k : Nat} (h : k <= hs.length) : gX (hs.take k) = (gX hs).take k := by
 rw [jA, jA, <- Ej]
 apply Cs
 intro b hb
 have e : fx (hs.take k) b = fx hs b := by
  have := uU (r := hs.drop k) hb
  rw [List.take_append_drop] at this
  exact this.symm
 unfold tY
 rw [e, EC, Dz]
 have := gY hb
 rw [CO] at this
 omega
theorem yR {hs : List Int} {k : Nat} (h : k < hs.length) : qe hs k <= (dd (hs.take k)).length := by
 unfold qe
 refine (jY _).length_le_of_subset fun x hx => bz.mpr ?_
 have hx := bz.mp hx
 have fl := Aa h
 have : hs.take (fx hs (hs.getD k 0)) = (hs.take k).take (fx hs (hs.getD k 0)) := by rw [EC, Dz fl]
 rw [this] at hx
 exact En hx
section
variable {X : Cx} {tg l : Expr} {tl : TE}
def Bd (K : PySem.W.Frag) (tl : TE) : TI := fun σ H R => tl σ H fun x H1 => ∃ a, x = .ref a /\ ((∃ xs, SqL K H1 a xs) /\ R (nO K a) H1 \/ (∃ xs, SqT K H1 a xs) /\ R (xG K a) H1)
theorem BO (K : PySem.W.Frag) (hl : PE X l tl) (h : X.K = K := by rfl) : PI X tg l (Bd K tl) := by
 subst h
 intro pins s σ H R I h
 refine br (hl pins s σ H _ I h) fun v s1 hq__ => ?_
 obtain ⟨x, H1, I1, r1, q1⟩ := hq__
 obtain ⟨a, e, q1⟩ := q1
 subst e
 cases r1
 rcases q1 with ⟨⟨xs, hq⟩, q⟩ | ⟨⟨xs, hq⟩, q⟩
 ·obtain ⟨its, rv, p, hz⟩ := I1.list hq
  refine wpAny_pyIter_list p.isList ?_
  refine ⟨s1.heap.objs.size, [s1.heap.objs.size], _, _, H1, rfl, I1.kept (t' := s1.toks) fun b o e => Heap.get?_push_of_some _ e, lz a _, ⟨_, Heap.get?_push_size _ rfl, rfl, rfl⟩, fun b hb => ?_, q⟩
  have e : b = s1.heap.objs.size := by simpa using hb
  subst e
  exact I1.fpOk (Ca _) (I1.hok.fresh (Ca _))
 ·obtain ⟨its, rv, p, hz⟩ := I1.tuple hq
  refine wpAny_pyIter_tuple (show s1.heap.IsTuple a its.toArray from p) ?_
  refine ⟨s1.heap.objs.size, [s1.heap.objs.size], _, _, H1, rfl, I1.kept (t' := s1.toks) fun b o e => Heap.get?_push_of_some _ e, jG a _, ⟨_, Heap.get?_push_size _ rfl, rfl, rfl⟩, fun b hb => ?_, q⟩
  have e : b = s1.heap.objs.size := by simpa using hb
  subst e
  exact I1.fpOk (Ca _) (I1.hok.fresh (Ca _))
end
theorem eN {st : List Nat} {j : Nat} {x : V} (hx : (st.map fun (i : Nat) => V.int (i : Int))[j]? = some x) : ∃ d : Nat, st[j]? = some d /\ x = V.int (d : Int) /\ st.getD j 0 = d := by
 rw [B7] at hx
 obtain ⟨b, h1, h2⟩ := Cc.mp hx
 exact ⟨b, h1, h2.symm, by rw [B5, h1]; rfl⟩
theorem yS {d n : Nat} : decide (d < n) = decide ((d : Int) < (n : Int)) := by
 by_cases z : d < n
 ·rw [decide_eq_true z, decide_eq_true (by omega)]
 ·rw [decide_eq_false z, decide_eq_false (by omega)]
theorem uY {hs : List Int} {st : List Nat} : ((B9 (st.map fun (i : Nat) => V.int (i : Int)).length).filter fun _ => true).map (fun j => V.int (hs.getD (st.getD j 0) 0)) = (st.map fun i => hs.getD i 0).map V.int := by
 rw [CQ.mpr (fun _ _ => rfl), B4]
 apply Du
 ·simp
 ·intro j h1 h2
  simp only [B4, CH] at h1
  have : st.getD j 0 = st[j] := by simp only [B5, B3 h1, Option.getD_some]
  simp only [C2, DH, this]
section
variable {X : Cx}
end
theorem j4 {J : It} {H1 : Hp} {js : List (Option Nat)} {σ : L2.St} {te : TE} {Q : VK} (n : Nat) (item : Nat -> V) (P : Addr -> List V -> Hp -> Prop) (hn : n < 100000)
  (mono : ∀ acc ys H H', P acc ys H -> SameBut acc H H' -> P acc ys H') (h0 : ∀ acc H, P acc [] H)
  (hgo : ∀ i H, i < n -> Same H1 H -> J.go i H) (hst : ∀ H, Same H1 H -> J.stop n H) (hy : ∀ i H x H', i < n -> Same H1 H -> J.yld i H x H' -> H' = H /\ x = item i)
  (he : ∀ acc i ys H2 R, i < n -> Same H1 H2 -> H1 acc = none -> H2 acc = some (.lst ys) -> ys.length = i -> P acc ys H2 -> (∀ v H3, Same H2 H3 -> P acc (ys ++ [v]) H3 -> R v H3) -> te (some (item i) :: bS σ js) H2 R)
  (hQ : ∀ acc ys H', Same H1 H' -> H1 acc = none -> H' acc = some (.lst ys) -> ys.length = n -> P acc ys H' -> Q (.ref acc) H') :
  b8 J H1 (none :: js) (bN 0) eJ te σ Q := by
 intro acc hacc
 refine ⟨fun i m ys H => m = n - i /\ i <= n /\ Same H1 H /\ H acc = some (.lst ys) /\ ys.length = i /\ P acc ys H, ⟨n, by simp, Cz _, Same.new hacc, ab, rfl, h0 _ _⟩, ?_⟩
 rintro i m ys H ⟨rfl, hi, s1, ha, hl, hp⟩
 by_cases hlt : i < n
 ·refine .inr ⟨hgo i H hlt s1, fun ys' H' => i < n /\ Same H1 H' /\ H' acc = some (.lst ys') /\ ys'.length = i + 1 /\ P acc ys' H', fun ys' H' ⟨z, a, b, c, d⟩ => ⟨n - (i + 1), CU _ _ hlt, rfl, hlt, a, b, c, d⟩, fun x H' y => ?_⟩
  obtain ⟨rfl, rfl⟩ := hy i H x H' hlt s1 y
  refine ⟨uy, ⟨fun _ => ?_, fun hb => by cases hb⟩⟩
  refine he acc i ys _ _ hlt s1 hacc ha hl hp fun v H3 s3 pv => ?_
  refine ⟨s3 _ _ ha, iV (by omega), hlt, (s1.trans s3).put hacc, ab, by rw [Cd, Cn, hl], ?_⟩
  exact mono acc _ _ _ pv SameBut.upd
 ·have e : i = n := Do hi (C8 hlt)
  subst e
  exact .inl ⟨hst H s1, hQ acc ys H s1 hacc ha hl hp⟩
theorem sM {K : PySem.W.Frag} {H1 : Hp} {js : List (Option Nat)} {σ : L2.St} {te : TE} {Q : VK} {a : Addr} {xs : List V} (P : Addr -> List V -> Hp -> Prop) (hl : SqL K H1 a xs) (hn : xs.length < 100000)
  (mono : ∀ acc ys H H', P acc ys H -> SameBut acc H H' -> P acc ys H') (h0 : ∀ acc H, P acc [] H)
  (he : ∀ acc (i : Nat) x ys H2 R, xs[i]? = some x -> Same H1 H2 -> H1 acc = none -> H2 acc = some (.lst ys) -> ys.length = i -> P acc ys H2 -> (∀ v H3, Same H2 H3 -> P acc (ys ++ [v]) H3 -> R v H3) -> te (some x :: bS σ js) H2 R)
  (hQ : ∀ acc ys H', Same H1 H' -> H1 acc = none -> H' acc = some (.lst ys) -> ys.length = xs.length -> P acc ys H' -> Q (.ref acc) H') :
  b8 (nO K a) H1 (none :: js) (bN 0) eJ te σ Q :=
 j4 (J := nO K a) (H1 := H1) (js := js) (σ := σ) (te := te) (Q := Q) xs.length (fun i => xs.getD i .non) P hn mono h0
  (fun i H h s => ⟨xs, xs[i], s.seq hl, by simp [h]⟩) (fun H s => ⟨xs, s.seq hl, Ca _⟩)
  (fun i H x H' h s y => ⟨y.1, by have e := y.2 xs (s.seq hl); simp [e]⟩)
  (fun acc i ys H2 R h s n1 n2 ln p k => he acc i _ ys H2 R (by simp [h]) s n1 n2 ln p k) hQ
theorem sN {H1 : Hp} {js : List (Option Nat)} {σ : L2.St} {te : TE} {Q : VK} {n : Nat} (P : Addr -> List V -> Hp -> Prop) (hn : n < 100000)
  (mono : ∀ acc ys H H', P acc ys H -> SameBut acc H H' -> P acc ys H') (h0 : ∀ acc H, P acc [] H)
  (he : ∀ acc (i : Nat) ys H2 R, i < n -> Same H1 H2 -> H1 acc = none -> H2 acc = some (.lst ys) -> ys.length = i -> P acc ys H2 -> (∀ v H3, Same H2 H3 -> P acc (ys ++ [v]) H3 -> R v H3) -> te (some (.int (0 + (i : Int))) :: bS σ js) H2 R)
  (hQ : ∀ acc ys H', Same H1 H' -> H1 acc = none -> H' acc = some (.lst ys) -> ys.length = n -> P acc ys H' -> Q (.ref acc) H') :
  b8 (o8 0 n) H1 (none :: js) (bN 0) eJ te σ Q :=
 j4 (J := o8 0 n) (H1 := H1) (js := js) (σ := σ) (te := te) (Q := Q) n (fun i => .int (0 + (i : Int))) P hn mono h0
  (fun _ _ h _ => h) (fun _ _ => Ca _) (fun _ _ _ _ _ _ y => y) he hQ
theorem oy {i j : Int} : decide (i = j) = decide (V.int i = V.int j) := by
 by_cases z : i = j
 ·simp [z]
 ·simp [z]
theorem aZ {ns : List Int} {j : Nat} (h : j < ns.length) : lE (ns.map V.int) (j : Int) = some (.int (ns.getD j 0)) := aK (by simp [h])
def RowsL (H : Hp) (rs : List Addr) (ps : List (List Int)) : Prop := Paired (fun r p => H r = some (.lst (p.map V.int))) rs ps
theorem RowsL.pools {K : PySem.W.Frag} {H : Hp} {rs : List Addr} {ps : List (List Int)} (h : RowsL H rs ps) : PoolsL K H rs ps := Paired.mapP h fun _ _ q => SqL.of q
theorem RowsL.of {H : Hp} {rs : List Addr} {ps : List (List Int)} (hl : rs.length = ps.length) (h : ∀ (i : Nat) r p, rs[i]? = some r -> ps[i]? = some p -> H r = some (.lst (p.map V.int))) : RowsL H rs ps := dU hl h
structure TieT (H : Hp) (x : Addr × Addr × Str × Int × List Nat) : Prop where
 tp : H x.1 = some (.tup [.str x.2.2.1, .int x.2.2.2.1, .ref x.2.1])
 ts : H x.2.1 = some (.tup (x.2.2.2.2.map fun (i : Nat) => V.int (i : Int)))
 wd : x.2.2.1 = "most" \/ x.2.2.1 = "least"
 sl : x.2.2.2.2.length <= 6
theorem TieT.same {H H' : Hp} {x : Addr × Addr × Str × Int × List Nat} (h : TieT H x) (s : Same H H') : TieT H' x := ⟨s _ _ h.tp, s _ _ h.ts, h.wd, h.sl⟩
theorem TieT.put {H : Hp} {x : Addr × Addr × Str × Int × List Nat} {r : Addr} {xs ys : List V} (h : TieT H x) (hr : H r = some (.lst xs)) : TieT (ay H r (.lst ys)) x := by
 have n1 : x.1 ≠ r := fun z => by have := h.tp; rw [z, hr] at this; cases this
 have n2 : x.2.1 ≠ r := fun z => by have := h.ts; rw [z, hr] at this; cases this
 exact ⟨by rw [aj n1]; exact h.tp, by rw [aj n2]; exact h.ts, h.wd, h.sl⟩
structure TieG (n : Nat) (x : Addr × Addr × Str × Int × List Nat) : Prop where
 k1 : 1 <= x.2.2.2.1
 k6 : x.2.2.2.1 <= 6
 ne : x.2.2.2.2 ≠ []
 lt : ∀ i ∈ x.2.2.2.2, i < n
 up : x.2.2.2.2.Pairwise (· < ·)
structure Ties (K : PySem.W.Frag) (H : Hp) (b : Addr) (ts : List (Addr × Addr × Str × Int × List Nat)) (n : Nat) : Prop where
 ls : SqL K H b (ts.map fun x => V.ref x.1)
 ea : ∀ x ∈ ts, TieT H x
 ln : ts.length <= n
def jk (f : Nat -> Int) (n : Nat) (ts : List (Addr × Addr × Str × Int × List Nat)) : Option Nat := ts.findIdx? fun x => brk f n x.2.2.1 x.2.2.2.1 x.2.2.2.2
def Ab : Option Nat -> V
 | none => .non
 | some i => .int ((i : Nat) : Int)
structure Drawn (H : Hp) (l m L T : Addr) (ms : List Int) (rs : List Addr) (ps : List (List Int)) (ts : List (Addr × Addr × Str × Int × List Nat)) (top : Nat) : Prop where
 hl : H l = some (.lst [.ref m, .ref L, .ref T])
 hm : H m = some (.lst (ms.map V.int))
 hL : H L = some (.lst (rs.map V.ref))
 hT : H T = some (.lst (ts.map fun x => V.ref x.1))
 rows : RowsL H rs ps
 mup : ms.Pairwise (· < ·)
 mne : ms ≠ []
 m8 : ms.length <= 8
 mb : ∀ b ∈ ms, 1 <= b /\ b <= 10 ^ 18
 pup : ∀ p ∈ ps, p.Pairwise (· < ·)
 psub : ∀ p ∈ ps, ∀ b ∈ p, b ∈ ms
 p1 : 1 <= ps.length
 ptop : ps.length <= top
 p6 : ps.length <= 6
 tea : ∀ x ∈ ts, TieT H x
 tg : ∀ x ∈ ts, TieG ps.length x
 t12 : ts.length <= 12
theorem xT {l r : List Int} (h : ∀ x ∈ l, x ∈ r) : (dd l).length <= (dd r).length := (jY l).length_le_of_subset fun x hx => bz.mpr (h x (bz.mp hx))
theorem w4 {f : Nat -> Int} {A st : List Nat} (h : ∀ i ∈ A, i ∈ st) : gI f A <= gI f st := xT fun x hx => by
 obtain ⟨i, hi, e⟩ := Cb.mp hx
 exact Cb.mpr ⟨i, h i hi, e⟩
theorem sO {P : List Nat -> Prop} (h0 : P []) (hs : ∀ l x, P l -> P (l ++ [x])) (l : List Nat) : P l := by
 have : ∀ n (l : List Nat), l.length = n -> P l := by
  intro n
  induction n with
  | zero => intro l e; rw [Dg.mp e]; exact h0
  | succ n ih =>
   intro l e
   have hne : l ≠ [] := fun z => by rw [z] at e; simp at e
   rw [<- DO hne]
   exact hs _ _ (ih _ (by rw [DS, e]; rfl))
 exact this _ l rfl
theorem mM {f g : Nat -> Int} (A : List Nat) : (∀ i ∈ A, ∀ j ∈ A, f i = f j <-> g i = g j) -> gI f A = gI g A := by
 refine sO (P := fun A => (∀ i ∈ A, ∀ j ∈ A, f i = f j <-> g i = g j) -> gI f A = gI g A) (fun _ => rfl) (fun l x ih h => ?_) A
 have ih' := ih fun i hi j hj => h i (Cr _ hi) j (Cr _ hj)
 rw [ox, ox, ih']
 have e : f x ∈ l.map f <-> g x ∈ l.map g := by
  constructor
  ·intro m
   obtain ⟨i, hi, e⟩ := Cb.mp m
   exact Cb.mpr ⟨i, hi, (h i (Cr _ hi) x (by simp)).mp e⟩
  ·intro m
   obtain ⟨i, hi, e⟩ := Cb.mp m
   exact Cb.mpr ⟨i, hi, (h i (Cr _ hi) x (by simp)).mpr e⟩
 by_cases z : f x ∈ l.map f
 ·rw [if_pos z, if_pos (e.mp z)]
 ·rw [if_neg z, if_neg fun y => z (e.mpr y)]
theorem uZ {st : List Nat} {p : Nat -> Bool} : (st.filter p).length + (st.filter fun i => !p i).length = st.length := by
 induction st with
 | nil => rfl
 | cons x r ih =>
  by_cases h : p x = true
  ·simp [h]; omega
  ·have h' : p x = false := by simpa using h
   simp [h']; omega
theorem w6 {f : Nat -> Int} {st : List Nat} {p : Nat -> Bool} : gI f st + (st.filter p).length <= gI f (st.filter p) + st.length := by
 have := (jY (st.map f)).length_le_of_subset (l₂ := dd ((st.filter p).map f) ++ (st.filter fun i => !p i).map f) fun x hx => by
  obtain ⟨i, hi, e⟩ := Cb.mp (bz.mp hx)
  by_cases h : p i = true
  ·exact Cr _ (bz.mpr (Cb.mpr ⟨i, CD.mpr ⟨hi, h⟩, e⟩))
  ·exact CF _ (Cb.mpr ⟨i, CD.mpr ⟨hi, by simpa using h⟩, e⟩)
 rw [Cd, B4] at this
 have := uZ (st := st) (p := p)
 unfold gI
 omega
def kp (f : Nat -> Int) (wd : Str) (k : Int) (st : List Nat) : Bool := if wd = "most" then decide (((gI f st : Nat) : Int) <= k) else decide (k <= ((gI f st : Nat) : Int))
theorem w8 {f g : Nat -> Int} {n : Nat} {wd : Str} {k : Int} {st : List Nat} (h : ∀ i, i < n -> ∀ j, j < n -> (f i = f j <-> g i = g j)) : brk f n wd k st = brk g n wd k st := by
 unfold brk
 have e : gI f (st.filter fun i => decide (i < n)) = gI g (st.filter fun i => decide (i < n)) := mM _ fun i hi j hj => h i (of_decide_eq_true (CD.mp hi).2) j (of_decide_eq_true (CD.mp hj).2)
 rw [e]
theorem mN {hs : List Int} {i : Nat} (h : i < hs.length) : ((gX hs).map fun (i : Nat) => (i : Int)).getD i 0 = (tY hs (hs.getD i 0) : Int) := by
 rw [jA, Cu]
 simp [h, B5]
theorem j5 {hs : List Int} {i j : Nat} (hi : i < hs.length) (hj : j < hs.length) : ((gX hs).map fun (i : Nat) => (i : Int)).getD i 0 = ((gX hs).map fun (i : Nat) => (i : Int)).getD j 0 <-> hs.getD i 0 = hs.getD j 0 := by
 rw [mN hi, mN hj]
 constructor
 ·intro h
  exact qY (by rw [aD hi]; exact CA hi) (by rw [aD hj]; exact CA hj) (by omega)
 ·intro h; rw [h]
theorem yT {f : Nat -> Int} {n : Nat} {wd : Str} {k : Int} {st : List Nat} (h : brk f n wd k st = true) : kp f wd k st = false := by
 unfold brk at h
 unfold kp
 by_cases z : wd = "most"
 ·rw [if_pos z] at h ⊢
  have h := of_decide_eq_true h
  have := w4 (f := f) (A := st.filter fun i => decide (i < n)) (st := st) fun i hi => (CD.mp hi).1
  exact decide_eq_false (by omega)
 ·rw [if_neg z] at h ⊢
  have h := of_decide_eq_true h
  have := w6 (f := f) (st := st) (p := fun i => decide (i < n))
  exact decide_eq_false (by omega)
theorem sP {f : Nat -> Int} {n : Nat} {wd : Str} {k : Int} {st : List Nat} (h : ∀ i ∈ st, i < n) : brk f n wd k st = !kp f wd k st := by
 have e : st.filter (fun i => decide (i < n)) = st := CQ.mpr fun i hi => decide_eq_true (h i hi)
 unfold brk kp
 rw [e]
 by_cases z : wd = "most"
 ·rw [if_pos z, if_pos z]
  by_cases y : k < (gI f st : Int)
  ·rw [decide_eq_true y, decide_eq_false (by omega)]; rfl
  ·rw [decide_eq_false y, decide_eq_true (by omega)]; rfl
 ·rw [if_neg z, if_neg z]
  by_cases y : k <= (gI f st : Int)
  ·rw [decide_eq_false (by omega), decide_eq_true y]; rfl
  ·rw [decide_eq_true (by omega), decide_eq_false y]; rfl
theorem yU {f g : Nat -> Int} {n : Nat} {wd : Str} {k : Int} {st : List Nat} (hl : ∀ i ∈ st, i < n) (h : ∀ i, i < n -> ∀ j, j < n -> (f i = f j <-> g i = g j)) : kp f wd k st = kp g wd k st := by
 unfold kp
 rw [mM st fun i hi j hj => h i (hl i hi) j (hl j hj)]
theorem w9 {hs os : List Int} (hl : hs.length = os.length) (h : ∀ i, i < hs.length -> ∀ j, j < hs.length -> (hs.getD i 0 = hs.getD j 0 <-> os.getD i 0 = os.getD j 0)) {k : Nat} (hk : k < hs.length) : qe hs k = qe os k := by
 have hk' : k < os.length := by omega
 have mh : hs.getD k 0 ∈ hs := by rw [aD hk]; exact CA hk
 have mo : os.getD k 0 ∈ os := by rw [aD hk']; exact CA hk'
 have ef : fx hs (hs.getD k 0) = fx os (os.getD k 0) := by
  have a1 := gY mh
  have a2 := gY mo
  have b1 := j0 mh
  have b2 := j0 mo
  have c1 : hs.getD (fx hs (hs.getD k 0)) 0 = hs.getD k 0 := by rw [B5, b1]; rfl
  have c2 : os.getD (fx os (os.getD k 0)) 0 = os.getD k 0 := by rw [B5, b2]; rfl
  have d1 := (h _ a1 _ hk).mp c1
  have d2 := (h _ (by omega) _ hk).mpr c2
  have g1 : ∀ m, m < fx os (os.getD k 0) -> os.getD m 0 ≠ os.getD k 0 := fun m hm e => by
   have := DJ hm
   rw [aD (by omega : m < os.length)] at e
   simp at this
   exact this (by rw [e, B5])
  have g2 : ∀ m, m < fx hs (hs.getD k 0) -> hs.getD m 0 ≠ hs.getD k 0 := fun m hm e => by
   have := DJ hm
   rw [aD (by omega : m < hs.length)] at e
   simp at this
   exact this (by rw [e, B5])
  rcases Ef (fx hs (hs.getD k 0)) (fx os (os.getD k 0)) with y | y | y
  ·exact absurd d1 (g1 _ y)
  ·exact y
  ·exact absurd d2 (g2 _ y)
 have el : ∀ n, n <= hs.length -> (dd (hs.take n)).length = (dd (os.take n)).length := fun n hn => by
  have e1 : ∀ (l : List Int), n <= l.length -> l.take n = (B9 n).map fun i => l.getD i 0 := fun l hl' => by
   apply Du
   ·simp; omega
   ·intro i h1 h2
    simp only [CO] at h1
    have : i < l.length := by omega
    simp [this]
  have u := mM (f := fun i => hs.getD i 0) (g := fun i => os.getD i 0) (B9 n) fun i hi j hj => h i (by have := CB.mp hi; omega) j (by have := CB.mp hj; omega)
  unfold gI at u
  rw [<- e1 hs hn, <- e1 os (by omega)] at u
  exact u
 unfold qe
 rw [<- ef]
 exact el _ (C4 (gY mh))
theorem qg {hs os : List Int} (hl : hs.length = os.length) : gX hs = gX os <-> ∀ i, i < hs.length -> ∀ j, j < i -> (hs.getD i 0 = hs.getD j 0 <-> os.getD i 0 = os.getD j 0) := by
 constructor
 ·intro e i hi j hj
  rw [<- j5 hi (by omega), <- j5 (hs := os) (by omega) (by omega), e]
 ·intro h
  have h' : ∀ i, i < hs.length -> ∀ j, j < hs.length -> (hs.getD i 0 = hs.getD j 0 <-> os.getD i 0 = os.getD j 0) := fun i hi j hj => by
   rcases Ef i j with y | y | y
   ·have := h j hj i y
    exact ⟨fun e => (this.mp e.symm).symm, fun e => (this.mpr e.symm).symm⟩
   ·subst y; simp
   ·exact h i hi j y
  unfold gX
  rw [<- hl]
  exact Cs fun k hk => w9 hl h' (CB.mp hk)
theorem oz (l : List Int) (x : Int) : (dd (l ++ [x])).length = if x ∈ l then (dd l).length else (dd l).length + 1 := by
 rw [eL]
 unfold b9
 by_cases h : x ∈ l
 ·rw [if_pos h, if_pos (bz.mpr h)]
 ·rw [if_neg h, if_neg fun z => h (bz.mp z), Cd, Cn]
def bD (p : List Int) : Prop := p = (gX p).map fun (i : Nat) => (i : Int)
theorem yV {hs : List Int} {k : Nat} (h : k < hs.length) : qe hs k < (dd hs).length := by
 unfold qe
 have m : hs.getD k 0 ∈ hs := by rw [aD h]; exact CA h
 have a := gY m
 have nm : hs.getD k 0 ∉ hs.take (fx hs (hs.getD k 0)) := fun z => by
  obtain ⟨i, hi, e⟩ := Ck.mp z
  rw [CO] at hi
  have := DJ (show i < fx hs (hs.getD k 0) by omega)
  rw [DF] at e
  simp at this
  exact this (by rw [e, B5])
 have e := oz (hs.take (fx hs (hs.getD k 0))) (hs.getD k 0)
 rw [if_neg nm] at e
 have := xT (l := hs.take (fx hs (hs.getD k 0)) ++ [hs.getD k 0]) (r := hs) fun x hx => by
  rcases Cw.mp hx with z | z
  ·exact En z
  ·rw [Cg.mp z]; exact m
 omega
theorem u4 (p : List Int) (x : Int) : gX (p ++ [x]) = gX p ++ [if x ∈ p then tY p x else (dd p).length] := by
 have h1 : (gX (p ++ [x])).take p.length = gX p := by
  rw [<- j3 (by simp), List.take_left']; rfl
 have h2 : (gX (p ++ [x]))[p.length]? = some (qe (p ++ [x]) p.length) := mL (by simp)
 have e : gX (p ++ [x]) = (gX (p ++ [x])).take p.length ++ [qe (p ++ [x]) p.length] := by
  have hlen : (gX (p ++ [x])).length = p.length + 1 := by rw [fQ]; simp
  conv => lhs; rw [<- List.take_append_drop p.length (gX (p ++ [x]))]
  congr 1
  apply Ee
  intro i
  rw [List.getElem?_drop]
  cases i with
  | zero => rw [Nat.add_zero, h2]; rfl
  | succ i =>
   rw [CN (by omega)]
   simp
 rw [e, h1]
 congr 2
 have eg : (p ++ [x]).getD p.length 0 = x := by simp [B5]
 unfold qe
 rw [eg]
 by_cases z : x ∈ p
 ·rw [if_pos z, uU z]
  unfold tY
  rw [List.take_append_of_le_length (C4 (gY z))]
 ·rw [if_neg z, yQ z, List.take_left']; rfl
theorem sQ {p : List Int} (c : bD p) {j : Nat} (h : (j : Int) ∈ p) : tY p (j : Int) = j := by
 obtain ⟨i, hi, e⟩ := Ck.mp h
 have g := mN hi
 rw [<- c, aD hi, e] at g
 omega
theorem c4 {p : List Int} (c : bD p) {x : Int} (h : x ∈ p) : ∃ j : Nat, x = (j : Int) /\ j < (dd p).length := by
 rw [c] at h
 obtain ⟨j, hj, e⟩ := Cb.mp h
 obtain ⟨i, hi, e2⟩ := Ck.mp hj
 rw [fQ] at hi
 have g := mL hi
 rw [B3 (by rw [fQ]; exact hi), e2] at g
 have := yV hi
 refine ⟨j, e.symm, ?_⟩
 have : j = qe p i := Option.some.inj g
 omega
theorem c7 {p : List Int} (c : bD p) {j : Nat} (h : j < (dd p).length) : (j : Int) ∈ p := by
 refine Decidable.byContradiction fun n => ?_
 have := (jY p).length_le_of_subset (l₂ := ((B9 (dd p).length).filter fun i => decide (i ≠ j)).map fun (i : Nat) => (i : Int)) fun x hx => by
  have hx := bz.mp hx
  obtain ⟨i, e, hi⟩ := c4 c hx
  refine Cb.mpr ⟨i, CD.mpr ⟨CB.mpr hi, decide_eq_true fun z => n ?_⟩, e.symm⟩
  rw [<- z, <- e]; exact hx
 rw [B4] at this
 have lt : ((B9 (dd p).length).filter fun i => decide (i ≠ j)).length < (B9 (dd p).length).length := by
  refine Nat.lt_of_le_of_ne (CM _ _) fun z => ?_
  have := List.length_filter_eq_length_iff.mp z j (CB.mpr h)
  simp at this
 rw [CH] at lt
 omega
theorem fR : bD [] := rfl
theorem eO {p : List Int} (c : bD p) {j : Nat} (h : j <= (dd p).length) : bD (p ++ [(j : Int)]) := by
 unfold bD
 rw [u4, Cf, <- c]
 congr 1
 by_cases z : (j : Int) ∈ p
 ·rw [if_pos z, sQ c z]; rfl
 ·rw [if_neg z]
  have : ¬ j < (dd p).length := fun y => z (c7 c y)
  have : j = (dd p).length := by omega
  rw [this]; rfl
def bV (p : List Int) (b : Nat) : List Nat := (B9 p.length).filter fun i => decide (p.getD i 0 = (b : Int))
theorem dg {p : List Int} {b i : Nat} : i ∈ bV p b <-> i < p.length /\ p.getD i 0 = (b : Int) := by
 unfold bV
 rw [CD, CB, decide_eq_true_iff]
theorem cm {p : List Int} (c : bD p) {b : Nat} (h : b < (dd p).length) : bV p b ≠ [] := by
 obtain ⟨i, hi, e⟩ := Ck.mp (c7 c h)
 intro z
 have : i ∈ bV p b := dg.mpr ⟨hi, by rw [aD hi, e]⟩
 rw [z] at this
 cases this
def dW (st : List Nat) (may : List (List Int)) : List Int := (may.getD (st.getD 0 0) []).filter fun x => st.all fun s => decide (x ∈ may.getD s [])
def fA (may : List (List Int)) (p : List Int) (b : Nat) : List Int := dW (bV p b) may
def dh (may : List (List Int)) (p : List Int) : List (List Int) := (B9 (dd p).length).map (fA may p)
theorem bY {may : List (List Int)} {p : List Int} : (dh may p).length = (dd p).length := by unfold dh; simp
theorem di {may : List (List Int)} {p : List Int} {b : Nat} (h : b < (dd p).length) : (dh may p)[b]? = some (fA may p b) := by
 unfold dh
 rw [B7, De h]; rfl
theorem dX {st : List Nat} {may : List (List Int)} {x : Int} (h : st ≠ []) : x ∈ dW st may <-> ∀ s ∈ st, x ∈ may.getD s [] := by
 unfold dW
 rw [CD, C5]
 constructor
 ·intro ⟨_, a⟩ s hs
  exact of_decide_eq_true (a s hs)
 ·intro a
  refine ⟨a _ ?_, fun s hs => decide_eq_true (a s hs)⟩
  cases st with
  | nil => exact absurd rfl h
  | cons s r => simp
theorem fS {may : List (List Int)} {p : List Int} {b : Nat} {x : Int} (c : bD p) (h : b < (dd p).length) : x ∈ fA may p b <-> ∀ i, i < p.length -> p.getD i 0 = (b : Int) -> x ∈ may.getD i [] := by
 unfold fA
 rw [dX (cm c h)]
 exact ⟨fun a i h1 h2 => a i (dg.mpr ⟨h1, h2⟩), fun a s hs => a s (dg.mp hs).1 (dg.mp hs).2⟩
theorem oA {st : List Nat} {may : List (List Int)} (h : ∀ p ∈ may, p.Pairwise (· < ·)) : (dW st may).Pairwise (· < ·) := by
 unfold dW
 refine List.Pairwise.filter _ ?_
 by_cases z : st.getD 0 0 < may.length
 ·have : may.getD (st.getD 0 0) [] = may[st.getD 0 0] := by rw [B5, B3 z]; rfl
  rw [this]
  exact h _ (CA z)
 ·have : may.getD (st.getD 0 0) [] = [] := by rw [B5, CN (by omega)]; rfl
  rw [this]; exact List.Pairwise.nil
abbrev sR := Str × Int × List Nat
structure IsPlan (may : List (List Int)) (ts : List sR) (hs : List Int) : Prop where
 len : hs.length = may.length
 of : ∀ i, i < hs.length -> hs.getD i 0 ∈ may.getD i []
 kp : ∀ t ∈ ts, kp (fun i => hs.getD i 0) t.1 t.2.1 t.2.2 = true
def Beg (p hs : List Int) : Prop := p.length <= hs.length /\ ((gX hs).map fun (i : Nat) => (i : Int)).take p.length = p
theorem Beg.at {p hs : List Int} (b : Beg p hs) {i : Nat} (h : i < p.length) : ((gX hs).map fun (i : Nat) => (i : Int)).getD i 0 = p.getD i 0 := by
 rw [<- congrArg (fun l => List.getD l i 0) b.2]
 simp [B5, Et, h]
theorem Beg.same {p hs : List Int} (b : Beg p hs) {i j : Nat} (hi : i < p.length) (hj : j < p.length) : p.getD i 0 = p.getD j 0 <-> hs.getD i 0 = hs.getD j 0 := by
 rw [<- b.at hi, <- b.at hj]
 exact j5 (Cy hi b.1) (Cy hj b.1)
theorem Beg.canon {p hs : List Int} (b : Beg p hs) : bD p := by
 have e : gX p = (gX hs).take p.length := by
  rw [<- j3 b.1]
  refine (qg (by rw [CO]; have := b.1; omega)).mpr fun i hi j hj => ?_
  have e1 : (hs.take p.length).getD i 0 = hs.getD i 0 := by simp [B5, Et, hi]
  have e2 : (hs.take p.length).getD j 0 = hs.getD j 0 := by simp [B5, Et, (by omega : j < p.length)]
  rw [e1, e2]
  exact b.same hi (by omega)
 unfold bD
 rw [e, Ej]
 exact b.2.symm
theorem Beg.brk {p hs : List Int} (b : Beg p hs) {wd : Str} {k : Int} {st : List Nat} (h : brk (fun i => p.getD i 0) p.length wd k st = true) : L2.kp (fun i => hs.getD i 0) wd k st = false := by
 refine yT (n := p.length) ?_
 rw [<- h]
 exact w8 fun i hi j hj => (b.same hi hj).symm
theorem Beg.short {may : List (List Int)} {p hs : List Int} (b : Beg p hs) (of : ∀ i, i < hs.length -> hs.getD i 0 ∈ may.getD i []) {ms : List Nat} (s : Short (dh may p) ms) : False := by
 obtain ⟨X, hX, hq⟩ := s.few
 have c := b.canon
 have nd : ms.Nodup := s.up.imp fun h => Cp h
 have lt : ∀ q ∈ ms, q < (dd p).length := fun q m => by
  obtain ⟨r, e, _⟩ := hq q m
  have := (B6.mp e).1
  rw [bY] at this
  exact this
 have fs : ∀ q ∈ ms, ∃ i, i < p.length /\ p.getD i 0 = (q : Int) := fun q m => by
  obtain ⟨i, hi, e⟩ := Ck.mp (c7 c (lt q m))
  exact ⟨i, hi, by rw [aD hi, e]⟩
 let f : Nat -> Int := fun q => hs.getD (fx p (q : Int)) 0
 have fa : ∀ q ∈ ms, fx p (q : Int) < p.length /\ p.getD (fx p (q : Int)) 0 = (q : Int) := fun q m => by
  have := c7 c (lt q m)
  refine ⟨gY this, ?_⟩
  rw [B5, j0 this]; rfl
 have nd2 : (ms.map f).Nodup := by
  rw [Co, Df]
  refine List.Pairwise.imp_of_mem ?_ (Co.mp nd)
  intro q r hq hr hne e
  obtain ⟨a1, a2⟩ := fa q hq
  obtain ⟨b1, b2⟩ := fa r hr
  have := (b.same a1 b1).mpr e
  rw [a2, b2] at this
  omega
 have := nd2.length_le_of_subset (l₂ := X) fun x hx => by
  obtain ⟨q, m, e⟩ := Cb.mp hx
  obtain ⟨r, er, hr⟩ := hq q m
  rw [di (lt q m)] at er
  cases er
  refine hr x ((fS c (lt q m)).mpr fun i hi ei => ?_)
  obtain ⟨a1, a2⟩ := fa q m
  have : p.getD (fx p (q : Int)) 0 = p.getD i 0 := by rw [a2, ei]
  have := (b.same a1 hi).mp this
  have h2 := of i (Cy hi b.1)
  rw [<- this] at h2
  rw [<- e]
  exact h2
 rw [B4] at this
 omega
theorem Beg.next {p hs : List Int} (b : Beg p hs) (h : p.length < hs.length) : ∃ j : Nat, j <= (dd p).length /\ Beg (p ++ [(j : Int)]) hs := by
 have c := b.canon
 have nl := yR (hs := hs) (k := p.length) h
 have e : (dd (hs.take p.length)).length = (dd p).length := by
  have h2 := uX (hs.take p.length)
  rw [j3 (by omega), Ej, b.2] at h2
  exact h2.symm
 refine ⟨qe hs p.length, by omega, by simp; omega, ?_⟩
 rw [Cd, Cn, Dj, b.2]
 congr 1
 rw [B7, mL h]; rfl
theorem Beg.nil (hs : List Int) : Beg [] hs := ⟨Cz _, rfl⟩
theorem mO {may : List (List Int)} {ts : List sR} {p ds : List Int} (c : bD p) (hl : p.length = may.length) (d : Deal (dh may p) ds) (lt : ∀ t ∈ ts, ∀ i ∈ t.2.2, i < p.length) (nb : ∀ t ∈ ts, brk (fun i => p.getD i 0) p.length t.1 t.2.1 t.2.2 = false) :
  IsPlan may ts (p.map fun x => ds.getD x.toNat 0) := by
 have dl : ds.length = (dd p).length := by rw [d.len, bY]
 have key : ∀ i, i < p.length -> ∃ b : Nat, p.getD i 0 = (b : Int) /\ b < (dd p).length /\ (p.map fun x => ds.getD x.toNat 0).getD i 0 = ds.getD b 0 := fun i hi => by
  obtain ⟨b, e, hb⟩ := c4 c (x := p.getD i 0) (by rw [aD hi]; exact CA hi)
  refine ⟨b, e, hb, ?_⟩
  have : (p.map fun x => ds.getD x.toNat 0).getD i 0 = ds.getD (p.getD i 0).toNat 0 := by simp [B5, hi]
  rw [this, e, CG]
 refine ⟨by rw [B4, hl], fun i hi => ?_, fun t ht => ?_⟩
 ·rw [B4] at hi
  obtain ⟨b, e, hb, e2⟩ := key i hi
  rw [e2]
  have h1 : b < ds.length := by omega
  have h2 : b < (dh may p).length := by rw [bY]; exact hb
  have := d.of b h1 h2
  have e3 : (dh may p)[b] = fA may p b := by
   have := di (may := may) hb
   rw [B3 h2] at this
   exact Option.some.inj this
  rw [e3] at this
  rw [aD h1]
  exact (fS c hb).mp this i hi e
 ·have h := nb t ht
  rw [sP (lt t ht)] at h
  have h : L2.kp (fun i => p.getD i 0) t.1 t.2.1 t.2.2 = true := by simpa using h
  rw [<- h]
  refine yU (lt t ht) fun i hi j hj => ?_
  obtain ⟨b, e, hb, e2⟩ := key i hi
  obtain ⟨b', e', hb', e2'⟩ := key j hj
  show (p.map fun x => ds.getD x.toNat 0).getD i 0 = (p.map fun x => ds.getD x.toNat 0).getD j 0 <-> p.getD i 0 = p.getD j 0
  rw [e2, e2', e, e', aD (by omega : b < ds.length), aD (by omega : b' < ds.length), Dq d.nd]
  omega
inductive Pap where
 | tie (j : Nat)
 | short (bs : List Nat)
 | split (ps : List Pap)
inductive Shows (may : List (List Int)) (ts : List sR) : List Int -> Pap -> Prop where
 | tie {p : List Int} {j : Nat} {t : sR} (h : ts[j]? = some t) (b : brk (fun i => p.getD i 0) p.length t.1 t.2.1 t.2.2 = true) : Shows may ts p (.tie j)
 | short {p : List Int} {bs : List Nat} (s : Short (dh may p) bs) : Shows may ts p (.short bs)
 | split {p : List Int} {ps : List Pap} (hl : p.length < may.length) (hn : ps.length = (dd p).length + 1) (h : ∀ (j : Nat) (q : Pap), ps[j]? = some q -> Shows may ts (p ++ [(j : Int)]) q) : Shows may ts p (.split ps)
theorem yW : ∀ {l r : List Int}, l.Pairwise (· < ·) -> r.Pairwise (· < ·) -> (∀ x, x ∈ l <-> x ∈ r) -> l = r := by
 intro l
 induction l with
 | nil =>
  intro r _ _ h
  cases r with
  | nil => rfl
  | cons b r => have := (h b).mpr CK; cases this
 | cons a l ih =>
  intro r hl hr h
  cases r with
  | nil => have := (h a).mp CK; cases this
  | cons b r =>
   rw [List.pairwise_cons] at hl hr
   have e : a = b := by
    rcases Cm.mp ((h a).mp CK) with z | z
    ·exact z
    ·rcases Cm.mp ((h b).mpr CK) with y | y
     ·exact y.symm
     ·exact absurd (Int.lt_trans (hr.1 a z) (hl.1 b y)) (Int.lt_irrefl _)
   subst e
   rw [ih hl.2 hr.2 fun x => ?_]
   constructor
   ·intro hx
    rcases Cm.mp ((h x).mp (Ct _ hx)) with z | z
    ·exact absurd (hl.1 x hx) (by rw [z]; exact Int.lt_irrefl _)
    ·exact z
   ·intro hx
    rcases Cm.mp ((h x).mpr (Ct _ hx)) with z | z
    ·exact absurd (hr.1 x hx) (by rw [z]; exact Int.lt_irrefl _)
    ·exact z
def BP (way : Nat) (x : Int) (F S : List Int) : Prop := if way = 0 then x ∈ F /\ x ∈ S else if way = 1 then x ∈ F \/ x ∈ S else x ∈ F /\ x ∉ S
theorem xa {ks : List Int} (h : ks.Pairwise (· <= ·)) (nd : ks.Nodup) : ks.Pairwise (· < ·) :=
 (h.and (Co.mp nd)).imp fun ⟨a, b⟩ => by omega
def Ac (H H' : Hp) (l : Addr) (way : Nat) (F S ks : List Int) : Prop := Same H H' /\ H l = none /\ H' l = some (.lst (ks.map V.int)) /\ ks.Pairwise (· < ·) /\ ∀ x, x ∈ ks <-> BP way x F S
structure Both (K : PySem.W.Frag) (H : Hp) (a b : Addr) (F S U : List Int) : Prop where
 fa : SqL K H a (F.map V.int)
 sb : SqL K H b (S.map V.int)
 pf : F.Pairwise (· < ·)
 ps : S.Pairwise (· < ·)
 fu : ∀ x ∈ F, x ∈ U
 su : ∀ x ∈ S, x ∈ U
 ul : U.length <= 60
theorem qZ {F : List Int} (h : F.Pairwise (· < ·)) : F.Nodup := h.imp fun h => Int.ne_of_lt h
theorem Both.l1 {K : PySem.W.Frag} {H : Hp} {a b : Addr} {F S U : List Int} (h : Both K H a b F S U) : F.length <= 60 := CJ ((qZ h.pf).length_le_of_subset h.fu) h.ul
theorem Both.l2 {K : PySem.W.Frag} {H : Hp} {a b : Addr} {F S U : List Int} (h : Both K H a b F S U) : S.length <= 60 := CJ ((qZ h.ps).length_le_of_subset h.su) h.ul
def BQ (K : PySem.W.Frag) (way : Nat) : Sp := fun vs H Q _ => ∃ (a b : Addr) (F S U : List Int), vs = [.ref a, .ref b] /\ Both K H a b F S U /\ ∀ l ks H', Ac H H' l way F S ks -> Q (.ref l) H'
structure May (K : PySem.W.Frag) (H : Hp) (a : Addr) (rs : List Addr) (may : List (List Int)) (U : List Int) : Prop where
 ls : SqL K H a (rs.map V.ref)
 po : PoolsL K H rs may
 up : ∀ p ∈ may, p.Pairwise (· < ·)
 sub : ∀ p ∈ may, ∀ b ∈ p, b ∈ U
 m6 : may.length <= 6
 u20 : U.length <= 26
theorem May.same {K : PySem.W.Frag} {H H' : Hp} {a : Addr} {rs : List Addr} {may : List (List Int)} {U : List Int} (m : May K H a rs may U) (s : Same H H') : May K H' a rs may U := ⟨s.seq m.ls, m.po.same s, m.up, m.sub, m.m6, m.u20⟩
theorem May.rows {K : PySem.W.Frag} {H : Hp} {a : Addr} {rs : List Addr} {may : List (List Int)} {U : List Int} (m : May K H a rs may U) {i : Nat} (h : i < may.length) : ∃ r, rs[i]? = some r /\ SqL K H r ((may.getD i []).map V.int) /\ (may.getD i []).Pairwise (· < ·) /\ ∀ b ∈ may.getD i [], b ∈ U := by
 have e : may.getD i [] = may[i] := iC h
 obtain ⟨r, e1, e2⟩ := m.po.at (B3 h)
 rw [e]
 exact ⟨r, e1, e2, m.up _ (CA h), m.sub _ (CA h)⟩
theorem qh {st : List Nat} {may : List (List Int)} {s : Nat} (h : st ≠ []) (x : Int) : x ∈ dW (st ++ [s]) may <-> x ∈ dW st may /\ x ∈ may.getD s [] := by
 rw [dX (by simp), dX h]
 constructor
 ·exact fun a => ⟨fun t ht => a t (Cr _ ht), a s (by simp)⟩
 ·rintro ⟨a, b⟩ t ht
  rcases Cw.mp ht with z | z
  ·exact a t z
  ·rw [Cg.mp z]; exact b
theorem sS {may : List (List Int)} {s : Nat} : dW [s] may = may.getD s [] := by
 unfold dW
 show (may.getD s []).filter _ = _
 refine CQ.mpr fun x hx => ?_
 simp only [List.all_cons, List.all_nil, Bool.and_true]
 exact decide_eq_true hx
theorem fB {st : List Int} {j : Nat} {x : V} (hx : (st.map V.int)[j]? = some x) : ∃ d : Int, st[j]? = some d /\ x = V.int d /\ st.getD j 0 = d := by
 rw [B7] at hx
 obtain ⟨b, h1, h2⟩ := Cc.mp hx
 exact ⟨b, h1, h2.symm, by rw [B5, h1]; rfl⟩
theorem xU {x y : Option V} {σ : St} : wF (none :: none :: σ) (x :: y :: σ) := ⟨rfl, fun i v e => by
 cases i with
 | zero => cases e
 | succ i =>
  cases i with
  | zero => cases e
  | succ i => exact e⟩
theorem u5 {K : PySem.W.Frag} {H1 : Hp} {js : List (Option Nat)} {σ : L2.St} {te : TE} {Q : VK} {a b : Addr} {xs ys : List V} (P : Addr -> List V -> Hp -> Prop) (hl : xs.length = ys.length) (h1 : SqL K H1 a xs) (h2 : SqL K H1 b ys) (hn : xs.length < 100000)
  (mono : ∀ acc ys H H', P acc ys H -> SameBut acc H H' -> P acc ys H') (h0 : ∀ acc H, P acc [] H)
  (he : ∀ acc (i : Nat) x y zs H2 R, xs[i]? = some x -> ys[i]? = some y -> Same H1 H2 -> H1 acc = none -> H2 acc = some (.lst zs) -> zs.length = i -> P acc zs H2 -> (∀ v H3, Same H2 H3 -> P acc (zs ++ [v]) H3 -> R v H3) -> te (some x :: some y :: bS σ js) H2 R)
  (hQ : ∀ acc zs H', Same H1 H' -> H1 acc = none -> H' acc = some (.lst zs) -> zs.length = xs.length -> P acc zs H' -> Q (.ref acc) H') :
  b8 (AC K a b) H1 (none :: none :: js) (rN K 2 (gJ (bN 0) (gJ (bN 1) t9))) eJ te σ Q := by
 intro acc hacc
 refine ⟨fun i m zs H => m = xs.length - i /\ i <= xs.length /\ Same H1 H /\ H acc = some (.lst zs) /\ zs.length = i /\ P acc zs H, ⟨xs.length, by simp, Cz _, Same.new hacc, ab, rfl, h0 _ _⟩, ?_⟩
 rintro i m zs H ⟨rfl, hi, s1, ha, hz, hp⟩
 have w1 := s1.seq h1
 have w2 := s1.seq h2
 by_cases hlt : i < xs.length
 ·have hlt2 : i < ys.length := by omega
  refine .inr ⟨⟨xs, ys, xs[i], ys[i], w1, w2, B3 hlt, B3 hlt2⟩, fun zs' H' => i < xs.length /\ Same H1 H' /\ H' acc = some (.lst zs') /\ zs'.length = i + 1 /\ P acc zs' H', fun zs' H' ⟨z, a, b, c, d⟩ => ⟨xs.length - (i + 1), CU _ _ hlt, rfl, hlt, a, b, c, d⟩, fun v H' y => ?_⟩
  obtain ⟨q, x, y, hq, e1, e2, e3, e4⟩ := y
  subst e3 e4
  have sq := Same.new (o := .tup [x, y]) hq
  refine ⟨q, [x, y], rfl, SqT.of ab, rfl, x, [y], rfl, y, [], rfl, rfl, xU, fun _ => ?_, fun hb => by cases hb⟩
  refine he acc i x y zs _ _ (e1 xs w1) (e2 ys w2) (s1.trans sq) hacc (sq _ _ ha) hz (mono _ _ _ _ hp sq.but) fun v H3 s3 pv => ?_
  have s13 := (s1.trans sq).trans s3
  refine ⟨s3 _ _ (sq _ _ ha), iV (by omega), hlt, s13.put hacc, ab, by rw [Cd, Cn, hz], ?_⟩
  exact mono acc _ _ _ pv SameBut.upd
 ·have e : i = xs.length := Do hi (C8 hlt)
  subst e
  exact .inl ⟨⟨xs, ys, w1, w2, Ca _⟩, hQ acc zs H s1 hacc ha hz hp⟩
theorem lR {K : PySem.W.Frag} {H1 : Hp} {js : List (Option Nat)} {σ : L2.St} {te : TE} {Q : VK} {a b : Addr} {xs ys : List V} (f : Nat -> V) (hl : xs.length = ys.length) (h1 : SqL K H1 a xs) (h2 : SqL K H1 b ys) (hn : xs.length < 100000)
  (he : ∀ (i : Nat) x y H2 R, xs[i]? = some x -> ys[i]? = some y -> Same H1 H2 -> (∀ H3, Same H2 H3 -> R (f i) H3) -> te (some x :: some y :: bS σ js) H2 R)
  (hQ : ∀ acc H', Same H1 H' -> H1 acc = none -> H' acc = some (.lst ((B9 xs.length).map f)) -> Q (.ref acc) H') :
  b8 (AC K a b) H1 (none :: none :: js) (rN K 2 (gJ (bN 0) (gJ (bN 1) t9))) eJ te σ Q :=
 u5 (fun _ zs _ => zs = (B9 zs.length).map f) hl h1 h2 hn (fun _ _ _ _ h _ => h) (fun _ _ => rfl)
  (fun acc i x y zs H2 R ex ey s _ _ hz hp k => he i x y H2 R ex ey s fun H3 s3 => k _ H3 s3 (by
   rw [Cd, Cn, C1, Cf, <- hp, hz]; rfl))
  fun acc zs H' s n e hz hp => hQ acc H' s n (by rw [e, <- hz, <- hp])
theorem j6 {K : PySem.W.Frag} {H : Hp} {d : Nat} {a b : Addr} {xs ys : List V} (h1 : SqL K H a xs) (h2 : SqL K H b ys) (hl : xs.length = ys.length) (he : ∀ (j : Nat) x y, xs[j]? = some x -> ys[j]? = some y -> DEq K H d x y true) : DEq K H (d + 1) (.ref a) (.ref b) true := by
 have q := DEq.lst (e := fun _ => true) h1 h2 hl he
 rw [show ((B9 xs.length).all fun _ => true) = true from by simp] at q
 exact q
theorem iF {K : PySem.W.Frag} {H : Hp} {d : Nat} {a b : Addr} {xs ys : List V} (h1 : SqT K H a xs) (h2 : SqT K H b ys) (hl : xs.length = ys.length) (he : ∀ (j : Nat) x y, xs[j]? = some x -> ys[j]? = some y -> DEq K H d x y true) : DEq K H (d + 1) (.ref a) (.ref b) true := by
 have q := DEq.tup (e := fun _ => true) h1 h2 he
 rw [show ((B9 (min xs.length ys.length)).all (fun _ => true) && xs.length == ys.length) = true from by simp [hl]] at q
 exact q
theorem dY {K : PySem.W.Frag} {H : Hp} {d : Nat} {x : V} (f : cA x = true) : DEq K H d x x true := by
 have q := DEq.flat (K := K) (H := H) (d := d) f f
 rw [jR f] at q
 exact q
theorem TieT.self {K : PySem.W.Frag} {H : Hp} {x : Addr × Addr × Str × Int × List Nat} (t : TieT H x) : DEq K H 2 (.ref x.1) (.ref x.1) true :=
 iF (SqT.of t.tp) (SqT.of t.tp) rfl fun j u v eu ev => by
  rw [eu] at ev
  cases ev
  rcases j with _ | _ | _ | j
  ·cases eu; exact dY rfl
  ·cases eu; exact dY rfl
  ·cases eu
   refine iF (SqT.of t.ts) (SqT.of t.ts) rfl fun j u v eu ev => ?_
   rw [eu] at ev
   cases ev
   obtain ⟨i, _, e⟩ := Cb.mp (B8 eu)
   rw [<- e]
   exact dY rfl
  ·cases eu
theorem u6 {K : PySem.W.Frag} {H : Hp} {a b : Addr} {ts : List (Addr × Addr × Str × Int × List Nat)} (h1 : SqL K H a (ts.map fun x => V.ref x.1)) (h2 : SqL K H b (ts.map fun x => V.ref x.1)) (ea : ∀ x ∈ ts, TieT H x) : DEq K H 3 (.ref a) (.ref b) true :=
 j6 h1 h2 rfl fun j u v eu ev => by
  rw [eu] at ev
  cases ev
  obtain ⟨x, hx, e⟩ := Cb.mp (B8 eu)
  rw [<- e]
  exact (ea x hx).self
def cB (x : Addr × Addr × Str × Int × List Nat) : sR := x.2.2
def By (hs : List Int) (x : Addr × Addr × Str × Int × List Nat) : Bool := kp (fun i => hs.getD i 0) x.2.2.1 x.2.2.2.1 x.2.2.2.2
theorem u7 {α β : Type} {ts : List α} {f : α -> β} {g : Nat -> β} (h : ∀ (i : Nat) x, ts[i]? = some x -> g i = f x) : (B9 ts.length).map g = ts.map f := by
 apply Ee
 intro i
 rw [B7, B7]
 by_cases l : i < ts.length
 ·rw [De l, B3 l]
  show some (g i) = some (f ts[i])
  rw [h i _ (B3 l)]
 ·rw [CN (by simp; omega), CN (by omega)]; rfl
inductive PapAt (H : Hp) : V -> Pap -> Prop where
 | tie {t : Addr} {j : Nat} (ht : H t = some (.tup [.str "tie", .int ((j : Nat) : Int)])) : PapAt H (.ref t) (.tie j)
 | short {t l : Addr} {bs : List Nat} (ht : H t = some (.tup [.str "short", .ref l])) (hl : H l = some (.lst (bs.map fun (i : Nat) => V.int (i : Int)))) : PapAt H (.ref t) (.short bs)
 | split {t l : Addr} {vs : List V} {ps : List Pap} (ht : H t = some (.tup [.str "split", .ref l])) (hl : H l = some (.lst vs)) (hn : vs.length = ps.length) (h : ∀ (i : Nat) v q, vs[i]? = some v -> ps[i]? = some q -> PapAt H v q) : PapAt H (.ref t) (.split ps)
theorem PapAt.same {H H' : Hp} {v : V} {q : Pap} (p : PapAt H v q) (s : Same H H') : PapAt H' v q := by
 induction p with
 | tie ht => exact .tie (s _ _ ht)
 | short ht hl => exact .short (s _ _ ht) (s _ _ hl)
 | split ht hl hn h ih => exact .split (s _ _ ht) (s _ _ hl) hn fun i v q e1 e2 => ih i v q e1 e2
def nw (H H' : Hp) : Hp := fun a => match H a with
 | none => H' a
 | some _ => none
theorem eP {H H' : Hp} {a : Addr} {o : HO} (h : nw H H' a = some o) : H a = none /\ H' a = some o := by
 unfold nw at h
 cases e : H a with
 | none => rw [e] at h; exact ⟨rfl, h⟩
 | some x => rw [e] at h; cases h
theorem gZ {H H' : Hp} {a : Addr} {o : HO} (h1 : H a = none) (h2 : H' a = some o) : nw H H' a = some o := by
 unfold nw
 rw [h1]; exact h2
theorem xb {H H' : Hp} : Same (nw H H') H' := fun b o e => (eP e).2
theorem xV {H Hc H' Hx : Hp} (s : ∀ a, Hc a = none -> H a = none) (k : ∀ a o, Hc a = none -> H' a = some o -> Hx a = some o) : Same (nw Hc H') (nw H Hx) := fun b o e => by
 obtain ⟨e1, e2⟩ := eP e
 exact gZ (s b e1) (k b o e1 e2)
def xW (H H' : Hp) (t : Addr) (may : List (List Int)) (ts : List sR) (p : List Int) : Prop :=
 (∃ (l : Addr) (hs : List Int), H' t = some (.tup [.str "plan", .ref l]) /\ H' l = some (.lst (hs.map V.int)) /\ H l = none /\ IsPlan may ts hs) \/
 ∃ (v : V) (q : Pap), H' t = some (.tup [.str "none", v]) /\ PapAt (nw H H') v q /\ Shows may ts p q
theorem lU {f : Nat -> Int} {n j : Nat} {ts : List (Addr × Addr × Str × Int × List Nat)} (h : jk f n ts = some j) : ∃ x, ts[j]? = some x /\ brk f n x.2.2.1 x.2.2.2.1 x.2.2.2.2 = true := by
 unfold jk at h
 rw [DC] at h
 obtain ⟨hj, e, _⟩ := h
 exact ⟨_, B3 hj, e⟩
theorem iG {f : Nat -> Int} {n : Nat} {ts : List (Addr × Addr × Str × Int × List Nat)} (h : jk f n ts = none) : ∀ x ∈ ts, brk f n x.2.2.1 x.2.2.2.1 x.2.2.2.2 = false := fun x hx => by
 unfold jk at h
 rw [Ex] at h
 simpa using h x hx
theorem sT {may : List (List Int)} {p : List Int} {U : List Int} (c : bD p) (hl : p.length <= may.length) (h : ∀ q ∈ may, ∀ b ∈ q, b ∈ U) : ∀ q ∈ dh may p, ∀ b ∈ q, b ∈ U := fun q hq b hb => by
 obtain ⟨i, hi, e⟩ := Ck.mp hq
 have hi2 := hi
 rw [bY] at hi2
 have g := di (may := may) hi2
 rw [B3 hi, e] at g
 cases g
 obtain ⟨j, hj, ej⟩ := Ck.mp (c7 c hi2)
 have := (fS c hi2).mp hb j hj (by rw [aD hj, ej])
 have hj2 : j < may.length := by omega
 rw [iC hj2] at this
 exact h _ (CA hj2) b this
theorem j7 {o : Option Nat} : decide (Ab o = V.non) = o.isNone := by cases o <;> rfl
def u9 (c : Addr) (H : Hp) : Hp := fun a => if a = c then none else H a
theorem lV {c a : Addr} {H : Hp} {o : HO} (h : u9 c H a = some o) : a ≠ c /\ H a = some o := by
 unfold u9 at h
 by_cases z : a = c
 ·rw [if_pos z] at h; cases h
 ·rw [if_neg z] at h; exact ⟨z, h⟩
theorem rb {c a : Addr} {H : Hp} {o : HO} (n : a ≠ c) (h : H a = some o) : u9 c H a = some o := by
 unfold u9
 rw [if_neg n]; exact h
section
variable {X : Cx}
end
inductive GPap where
 | tie (j : Int)
 | short (bs : List Int)
 | split (ps : List GPap)
instance : Inhabited GPap := ⟨.tie 0⟩
theorem fU (n : Nat) : -(2 ^ 62) <= ((n : Nat) : Int) := by omega
theorem xc (c : Int) {n : Nat} (h : 0 < n) : ∃ m : Nat, m < n /\ c % ((n : Nat) : Int) = ((m : Nat) : Int) := by
 have w1 := DN c (show ((n : Nat) : Int) ≠ 0 by omega)
 have w2 := DI c (show (0 : Int) < ((n : Nat) : Int) by omega)
 exact ⟨(c % ((n : Nat) : Int)).toNat, by omega, by omega⟩
theorem BR {α : Type} {us : List α} (hl : us.length = 1) : ∃ a, us = [a] := by
 match us, hl with
 | [a], _ => exact ⟨a, rfl⟩
theorem BS {α : Type} {us : List α} (hl : us.length = 2) : ∃ a b, us = [a, b] := by
 match us, hl with
 | [a, b], _ => exact ⟨a, b, rfl⟩
theorem BU {α : Type} {us : List α} (hl : us.length = 3) : ∃ a b c, us = [a, b, c] := by
 match us, hl with
 | [a, b, c], _ => exact ⟨a, b, c, rfl⟩
theorem BV {α : Type} {us : List α} (hl : us.length = 4) : ∃ a b c d, us = [a, b, c, d] := by
 match us, hl with
 | [a, b, c, d], _ => exact ⟨a, b, c, d, rfl⟩
theorem BW {α : Type} {us : List α} (hl : us.length = 5) : ∃ a b c d e, us = [a, b, c, d, e] := by
 match us, hl with
 | [a, b, c, d, e], _ => exact ⟨a, b, c, d, e, rfl⟩
theorem iY (ns : List Int) : ∀ k, k <= ns.length -> preSum (fun i => ns.getD i 0) k = (ns.take k).sum
 | 0, _ => by simp [preSum]
 | k + 1, h => by
  have ih := iY ns k (by omega)
  have h2 : k < ns.length := by omega
  rw [preSum, ih, Dj, List.sum_append, B5, B3 h2]
  simp
theorem Moved.eq_heap {wr : List Addr} {s s' : Shared} (m : Moved wr (fun a b => b = a) s s') : s' = { s with heap := s'.heap, toks := s'.toks } := by
 obtain ⟨h, g, d, t, os⟩ := s
 obtain ⟨h', g', d', t', os'⟩ := s'
 obtain ⟨_, e1, e2, e3, _⟩ := m
 simp only at e1 e2 e3
 subst e1 e2 e3
 rfl
section
variable {X : Cx}
theorem Ad (K : PySem.W.Frag) (hc : X.calm = true := by rfl) (h : X.K = K := by rfl) : cJ X (.builtin "sum") (fun xs H Q => ∃ (p : Addr) (ns : List Int), xs = [.ref p] /\ SqL K H p (ns.map V.int) /\ Q (.int ns.sum) H) := by
 subst h
 intro pins s σ H xs us Q I r h
 obtain ⟨p, ns, e, hq, q⟩ := h
 subst e
 obtain ⟨u, e, rx⟩ := fo r
 subst e
 cases rx
 obtain ⟨its, rv, pl, hz⟩ := I.list hq
 have hl := rv.length
 rw [B4] at hl
 refine call_sum_walkAnyS (wpAny_pyIter_list pl.isList ?_)
 have hlt : p < s.heap.objs.size := by
  obtain ⟨o, ho, _⟩ := pl.isList
  exact Heap.lt_size ho
 have hval : ∀ (i : Nat) (v : Value), its.toArray[i]? = some v -> ∃ t, v = .int (ns.getD i 0) t := fun i v hi => by
  have hi' : its[i]? = some v := by simpa using hi
  have h2 : i < ns.length := by rw [hl]; exact (B6.mp hi').1
  obtain ⟨u, eu, ru⟩ := rv.get (i := i) (x := .int ns[i]) (by simp [h2])
  rw [hi'] at eu
  cases eu
  obtain ⟨t, e⟩ := ru
  exact ⟨t, by rw [e]; simp [h2]⟩
 refine ⟨s.heap.objs.size, _, _, _, _, _, _, fun i => ns.getD i 0, rfl, (Walks.list (A := X.A.in1) (show X.A.in1.handled = none from I.ok.hd hc) _ p (Cp hlt) its.toArray).toS, ?_, ?_, hval, ?_⟩
 ·refine ⟨⟨_, Heap.get?_push_size _ rfl, rfl, rfl⟩, ?_⟩
  obtain ⟨o, ho, z⟩ := pl.isList
  exact ⟨o, Heap.get?_push_of_some _ ho, z⟩
 ·intro b hb
  show b < (s.heap.push _).objs.size
  rw [Heap.size_push]
  simp only [Cm, CP, or_false] at hb
  rcases hb with z | z <;> subst z
  ·exact Dt _
  ·exact C3 hlt
 ·intro s' t' hm
  rw [Moved.eq_heap hm]
  have hs : its.toArray.size = ns.length := by rw [Ci]; omega
  refine ⟨.int _, H, I.kept (fun b o e => hm.heap b o ?_ (Heap.get?_push_of_some _ e)), ⟨t', rfl⟩, ?_⟩
  ·have := Heap.lt_size e
   intro z
   rw [Cg] at z
   exact absurd this (by rw [z]; exact Dw _)
  ·rw [hs, iY ns _ (Ca _), CW]
   exact q
end
def xf (K : PySem.W.Frag) (a : Addr) (n : Nat) : It :=
 ⟨fun i H => i < n /\ ∃ xs, SqL K H a xs /\ xs.length = n, fun i H x H' => H' = H /\ ∀ xs, SqL K H a xs -> xs[n - 1 - i]? = some x, fun i _ => n <= i⟩
theorem va {P : Program} {w : World} {K : PySem.W.Frag} {tg : Expr} (a it : Addr) (n : Nat) : Turn P w K tg (xf K a n) [it] it (fun i h => i <= n /\ h.IsRevIter it a ((n : Int) - 1 - (i : Int))) where
 mem := by simp
 obj := fun i h st b hb => by
  have e : b = it := by simpa using hb
  subst e
  obtain ⟨_, o, e, c, d⟩ := st
  exact ⟨o, e, fun v z => by rw [d] at z; cases z⟩
 keep := fun i h h' st k => ⟨st.1, st.2.at fun o e => k it (by simp) o e⟩
 item := by
  intro X hP hw hK hc i pins s σ H E I hf st hg
  subst hP hw hK
  obtain ⟨hi, xs, hq, hn⟩ := hg
  obtain ⟨its, rv, p, hz⟩ := I.list hq
  have hx : xs[n - 1 - i]? = some (xs[n - 1 - i]'(by omega)) := B3 (by omega)
  obtain ⟨u, hu, ru⟩ := rv.get hx
  obtain ⟨f0, f1, f2, f3, f4, f5⟩ := hf it (by simp)
  obtain ⟨_, st⟩ := st
  have e : (n : Int) - 1 - (i : Int) = ((n - 1 - i : Nat) : Int) := by omega
  rw [e] at st
  refine wpAny_pyNext_rev_item st p.isList (x := u) (by simpa using hu) fun h' st' sb => ?_
  have e2 : ((n - 1 - i : Nat) : Int) - 1 = (n : Int) - 1 - ((i + 1 : Nat) : Int) := by omega
  rw [e2] at st'
  have I1 : Inv X pins σ H { s with heap := h' } := I.turned (t' := s.toks) (fun b o hb e => (sb.2 b hb).trans e) f0 f1 f3 f4 f5
  obtain ⟨o, e, c, d⟩ := id st'
  exact ⟨u, rfl, ly (s := { s with heap := h' }) e c d (by decide) ⟨_, H, I1, ru, ⟨rfl, fun ys hy => by rw [I.list_inj hy hq]; exact hx⟩, ⟨hi, st'⟩, fun b hb => (hf b hb).1⟩⟩
 done := by
  intro X hP hw hK hc i pins s σ H E I hf st hg
  subst hP hw hK
  obtain ⟨f0, f1, f2, f3, f4, f5⟩ := hf it (by simp)
  obtain ⟨hi, st⟩ := st
  have hg : n <= i := hg
  have e : (n : Int) - 1 - (i : Int) = -1 := by omega
  rw [e] at st
  exact wpAny_pyNext_rev_end (I.ok.hd hc) st fun h' eb => ⟨rfl, I.turned (t' := s.toks) (fun b o hb e => eb b o hb e) f0 f1 f3 f4 f5⟩
 self := fun _ _ _ _ _ st h => wpAny_pyIter_revIter st.2 h
section
variable {X : Cx}
def Be (K : PySem.W.Frag) (ta : TA) : TI := fun σ H R => ta σ H fun vs H1 => ∃ a xs, vs = [.ref a] /\ SqL K H1 a xs /\ R (xf K a xs.length) H1
theorem yX {a tg : Expr} {ta : TA} {p pos : Pos} (K : PySem.W.Frag) (hg : Gl X "reversed") (hm : X.mg "reversed" = none) (ha : PA X [a] ta) (hK : X.K = K := by rfl) (hs : starEach [a] X.env = [(false, eval a X.env)] := by rfl) :
  PI X tg (.Call (.Name "reversed" p) [a] [] pos) (Be K ta) := by
 subst hK
 intro pins s σ H R I h
 refine Call_ (fk I hg hm boot_reversed (PyProof.Rows.callWith_type1 (br (ha pos pins s σ H _ I h) fun us s1 ⟨vs, H1, I1, r1, q1⟩ => ?_) (by rw [hs]; rfl) (by rfl)))
 obtain ⟨l1, xs, e, hq1, q⟩ := q1
 subst e
 cases r1 with
 | cons r rr =>
  cases rr
  cases r
  obtain ⟨its1, rv1, p1, _⟩ := I1.list hq1
  have hl := rv1.length
  refine call_reversed_list p1.isList ?_
  have hit : (s1.heap.push (revObj l1 ((its1.toArray.size : Int) - 1))).IsRevIter s1.heap.objs.size l1 ((its1.toArray.size : Int) - 1) := ⟨_, Heap.get?_push_size _ rfl, rfl, rfl⟩
  refine wpAny_pyIter_revIter hit ?_
  have I2 : Inv X pins σ H1 { s1 with heap := s1.heap.push (revObj l1 ((its1.toArray.size : Int) - 1)) } := I1.kept (t' := s1.toks) fun b o e => Heap.get?_push_of_some _ e
  refine ⟨_, [s1.heap.objs.size], _, _, H1, rfl, I2, va l1 _ xs.length, ⟨Cz _, ?_⟩, fun b hb => ?_, q⟩
  ·have e : (xs.length : Int) - 1 - ((0 : Nat) : Int) = (its1.toArray.size : Int) - 1 := by rw [Ci]; omega
   rw [e]; exact hit
  ·have e : b = s1.heap.objs.size := by simpa using hb
   subst e
   exact I1.fpOk (Ca _) (I1.hok.fresh (Ca _))
end
theorem mP : typeLookup (.type "list") "keys" = pure none := by rw [typeLookup_type, builtinLookup_eq_fast]; kernel_rfl
theorem oB : typeLookup (.type "list") "__getattr__" = pure none := by rw [typeLookup_type, builtinLookup_eq_fast]; kernel_rfl
section
variable {prog : Program} {w : World} {A : Around} {E : Value -> Shared -> Prop} {h : Heap} {g : Array GenState} {d : PySem.Drawn} {t : Nat} {os : OsState} {a : Addr} {o : Obj}
theorem jm {tk : Tok} {its : Array Value} {n : Nat} {sl : Array (Option Value)} {Q : Fin -> Shared -> Prop} (hh : A.handled = none) (hx : h.get? a = some { cls := .type "list", dict := none, data := .seq its n, slots := sl })
   (hq : ∀ h' tk e, Heap.NewAttrErr h h' e (.ref a) "keys" -> E (.ref e) ⟨h', g, d, tk, os⟩) :
    wpAny (model prog w) A (Builtin.«object.__getattribute__» ⟨[.ref a, .str "keys" tk], []⟩) Q E ⟨h, g, d, t, os⟩ := by
  have hT : (⟨h, g, d, t, os⟩ : Shared).TypeIs (.ref a) "list" := ⟨_, hx, rfl⟩
  have f4 := mP
  repeat (any_goals (first | assumption | wp_step))
  exact wpAny_raiseAttrError hh hq (attrMsg_fits (by decide +kernel) (by size_fits))
theorem j8 {its : Array Value} {n : Nat} {sl : Array (Option Value)} {Q : Option Value -> Shared -> Prop} (hh : A.handled = none) (hx : h.get? a = some { cls := .type "list", dict := none, data := .seq its n, slots := sl })
   (hq : ∀ h' tk, (∀ b o, h.get? b = some o -> h'.get? b = some o) -> Q none ⟨h', g, d, tk, os⟩) :
    wpAny (model prog w) A (getAttr? (.ref a) "keys") Q E ⟨h, g, d, t, os⟩ := by
  have hT : ∀ t, (⟨h, g, d, t, os⟩ : Shared).TypeIs (.ref a) "list" := fun _ => ⟨_, hx, rfl⟩
  have f1 := sub_AttributeError
  have f2 := F.slot_list_getattribute.lookup
  have f3 := F.slot_list_getattribute.bind (.ref a)
  have f5 := oB
  unfold getAttr? getAttrBy? getAttrBy
  repeat (any_goals (first | assumption | apply hT | wp_step))
  refine codeAny_call_builtin F.slot_list_getattribute.plain F.entry_list_ga (F.slot_list_getattribute.check _ _ _ _ _ _ _ _ (hT _) (F.args_list_getattribute_2 _ _) (jm hh hx fun h' tk' e ne => ?_))
  obtain ⟨t', u', he⟩ := ne.there
  show wpAny _ _ (getattributeRaised _ _ _ _ _ _ _) _ _ _
  unfold getattributeRaised
  repeat (any_goals (first | assumption | wp_step))
  exact hq _ _ ne.keeps
end
theorem e8 : entryFor table "dict.update.loop" = some Builtin.«dict.update.loop» := entryFor_of_tree (by kernel_rfl)
theorem cq : plainId "dict.update.loop" = true := by decide +kernel
theorem mQ {α : Type} [DecidableEq α] {vs : List (α × Value)} {k : α} {v : Value} (h : ∀ q ∈ vs, q.1 ≠ k) : stored vs k v = vs ++ [(k, v)] := by
 unfold stored
 rw [if_neg]
 intro z
 obtain ⟨q, hq, e⟩ := Ei.mp z
 exact h q hq (of_decide_eq_true e)
theorem qi {α : Type} {vs : List (α × Value)} (nd : (vs.map (·.1)).Nodup) {i : Nat} {k : α} {v : Value} (h : vs[i]? = some (k, v)) : ∀ q ∈ vs.take i, q.1 ≠ k := by
 intro q hq e
 obtain ⟨j, ej⟩ := Dm.mp hq
 have hj := (B6.mp ej).1
 rw [CO] at hj
 have hji : j < i := by omega
 rw [List.getElem?_take_of_lt hji] at ej
 have hi := (B6.mp h).1
 have e1 : (vs.map (·.1))[j]? = some k := by rw [B7, ej]; simp [e]
 have e2 : (vs.map (·.1))[i]? = some k := by rw [B7, h]; rfl
 obtain ⟨l1, x1⟩ := B6.mp e1
 obtain ⟨l2, x2⟩ := B6.mp e2
 exact CY.mp nd j i l1 l2 hji (x1.trans x2.symm)
section
variable {P : Program} {w : World} {A : Around} {R : Result -> Shared -> Prop} {p d I : Addr} {its : List Value} {vs : List (bq × Value)} {h0 : Heap}
theorem sU (hh : A.handled = none) (hp : h0.IsList p its.toArray) (hd : h0.objs.size <= d) (hI : h0.objs.size <= I) (hne : d ≠ I) (nd : (vs.map (·.1)).Nodup) (hz : vs.length <= sizeLine) (hl : its.length = vs.length)
  (hat : ∀ (i : Nat) u, its[i]? = some u -> ∃ a k key v, u = .ref a /\ h0.IsTuple a #[key, v] /\ (aG P w).is k key = true /\ vs[i]? = some (k, v)) :
  ∀ (m i : Nat) (s : Shared), vs.length - i = m -> i <= vs.length -> (∀ b o, h0.get? b = some o -> s.heap.get? b = some o) -> s.heap.IsListIter I p i -> s.heap.DictOf (aG P w) d (vs.take i) ->
  (∀ h' tk, (∀ b o, h0.get? b = some o -> h'.get? b = some o) -> h'.DictOf (aG P w) d vs -> R (.ok (.ret .none)) { s with heap := h', toks := tk }) ->
  codeAny (model P w) A (.builtin "dict.update.loop" ⟨[.ref d, .ref I, rawInt (i : Int), .none], []⟩) R s := by
 have lp : p < h0.objs.size := let ⟨_, e, _⟩ := hp; Heap.lt_size e
 intro m
 induction m with
 | zero =>
  intro i s hm hi kp it dk hR
  have hin : i = vs.length := by omega
  subst hin
  refine codeAny_builtin e8 ?_
  rw [Around.under_plainId cq _]
  show wpAny _ A.in1 (pyNext (.ref I) >>= _) _ _ s
  have hp' : s.heap.IsList p its.toArray := let ⟨o, e, r⟩ := hp; ⟨o, kp _ _ e, r⟩
  refine wpAny_bind (wpAny_pyNext_list_end (show A.in1.handled = none from hh) it hp' (by simp [hl]) fun h' eb => ?_)
  show wpAny _ A.in1 (Builtin.Dict.addKeywords d [] >>= fun _ => ret Value.none) _ _ _
  refine wpAny_bind (wpAny_pure (wpAny_pure ?_))
  refine hR h' s.toks (fun b o e => eb b o (fun z => ?_) (kp b o e)) ?_
  ·have := Heap.lt_size e
   rw [z] at this
   exact absurd this (Ea.mpr hI)
  ·rw [CW] at dk
   exact dk.at fun o e => eb d o hne e
 | succ m ih =>
  intro i s hm hi kp it dk hR
  have hlt : i < vs.length := by omega
  have hx : its[i]? = some (its[i]'(by omega)) := B3 (by omega)
  obtain ⟨a, k, key, v, eu, ht, hk, hv⟩ := hat i _ hx
  rw [eu] at hx
  refine codeAny_builtin e8 ?_
  rw [Around.under_plainId cq _]
  show wpAny _ A.in1 (pyNext (.ref I) >>= _) _ _ s
  have hp' : s.heap.IsList p its.toArray := let ⟨o, e, r⟩ := hp; ⟨o, kp _ _ e, r⟩
  refine wpAny_bind (wpAny_pyNext_list_item it hp' (x := .ref a) (by simpa using hx) fun h' it' sb => ?_)
  obtain ⟨ot, eot, ct, nt, dt⟩ := ht
  have la : a ≠ I := fun z => by
   have := Heap.lt_size eot
   rw [z] at this
   exact absurd this (Ea.mpr hI)
  have eot' : h'.get? a = some ot := (sb.2 a la).trans (kp _ _ eot)
  refine wpAny_bind (wpAny_holding ?_)
  refine wpAny_bind (wpAny_tryCatch ?_)
  unfold Builtin.Dict.pairItems
  refine wpAny_bind (wpAny_typeOf (T := "tuple") ⟨ot, eot', ct⟩ ?_)
  rw [if_pos (by decide)]
  refine wpAny_bind (wpAny_seqItems (s := { s with heap := h' }) eot' dt (wpAny_pure ?_))
  show wpAny _ A.in1 (holding [key, v] (dictSet d key v)) _ _ _
  refine wpAny_holding ?_
  have dk' : h'.DictOf (aG P w) d (vs.take i) := dk.at fun o e => (sb.2 d hne).trans e
  refine wpAny_dictSet_pairs (s := { s with heap := h' }) hk dk' (fun h2 dk2 sb2 => ?_) (by rw [CO]; omega)
  rw [mQ (qi nd hv)] at dk2
  have et : vs.take i ++ [(k, v)] = vs.take (i + 1) := by rw [Dj, hv]; rfl
  rw [et] at dk2
  refine wpAny_pure ⟨plainId_quiet cq _, ?_⟩
  refine ih (i + 1) _ (by omega) hlt (fun b o e => ?_) (it'.at fun o e => (sb2.2 I (Ne.symm hne)).trans e) dk2 fun h3 tk kp3 dk3 => hR h3 tk kp3 dk3
  have lb := Heap.lt_size e
  exact (sb2.2 b (fun z => by rw [z] at lb; exact absurd lb (Ea.mpr hd))).trans ((sb.2 b (fun z => by rw [z] at lb; exact absurd lb (Ea.mpr hI))).trans (kp b o e))
end
section
variable {X : Cx}
theorem rf (K : PySem.W.Frag) (hc : X.calm = true := by rfl) (hK : X.K = K := by rfl) : cJ X (.type "dict") (fun xs H Q => ∃ (p : Addr) (ps : List Addr) (kvs : List (bq × V)), xs = [.ref p] /\ SqL K H p (ps.map V.ref) /\ ps.length = kvs.length /\ (kvs.map (·.1)).Nodup /\
  (∀ (i : Nat) a, ps[i]? = some a -> ∃ k v, kvs[i]? = some (k, v) /\ SqT K H a [kV k, v]) /\ ∀ l, H l = none -> Q (.ref l) (ay H l (.dK kvs))) := by
 subst hK
 intro pins s σ H xs us Q I r h
 obtain ⟨p, ps, kvs, e, hq, hn, nd, hat, q⟩ := h
 subst e
 obtain ⟨u, e, rx⟩ := fo r
 subst e
 cases rx
 obtain ⟨its, rv, pl, hz⟩ := I.list hq
 have hl := rv.length
 rw [B4] at hl hz
 have hnd : X.A.handled = none := I.ok.hd hc
 have raw : ∃ vs : List (bq × Value), KV kvs vs /\ ∀ (i : Nat) u, its[i]? = some u -> ∃ a k key v, u = .ref a /\ s.heap.IsTuple a #[key, v] /\ (aG X.prog X.w).is k key = true /\ vs[i]? = some (k, v) := by
  have key : ∀ (kvs : List (bq × V)) (ps : List Addr), ps.length = kvs.length -> (∀ (i : Nat) a, ps[i]? = some a -> ∃ k v, kvs[i]? = some (k, v) /\ SqT X.K H a [kV k, v]) ->
    ∃ vs : List (bq × Value), KV kvs vs /\ ∀ (i : Nat) a, ps[i]? = some a -> ∃ k key v, s.heap.IsTuple a #[key, v] /\ (aG X.prog X.w).is k key = true /\ vs[i]? = some (k, v) := by
   intro kvs
   induction kvs with
   | nil =>
    intro ps hn _
    exact ⟨[], .nil, fun i a z => by rw [Dg.mp hn] at z; cases z⟩
   | cons kv kvs ih =>
    intro ps hn hat
    obtain ⟨a, ps, rfl⟩ : ∃ a qs, ps = a :: qs := by
     cases ps with
     | nil => simp at hn
     | cons a qs => exact ⟨a, qs, rfl⟩
    obtain ⟨k, v, e, ht⟩ := hat 0 a rfl
    cases e
    obtain ⟨vs, rel, hr⟩ := ih ps (by simpa using hn) fun i b hb => hat (i + 1) b hb
    obtain ⟨its, rv, pt, _⟩ := I.tuple ht
    obtain ⟨u1, u2, rfl, r1, r2⟩ := ud rv
    refine ⟨(k, u2) :: vs, .cons ⟨rfl, r2⟩ rel, fun i b hb => ?_⟩
    cases i with
    | zero => cases hb; exact ⟨k, u1, u2, pt, iU r1, rfl⟩
    | succ i => exact hr i b hb
  obtain ⟨vs, rel, hr⟩ := key kvs ps hn hat
  refine ⟨vs, rel, fun i u hu => ?_⟩
  have hi : i < ps.length := by rw [hl]; exact (B6.mp hu).1
  obtain ⟨u', eu, ru⟩ := rv.get (i := i) (x := .ref ps[i]) (by simp [hi])
  rw [hu] at eu
  cases eu
  cases (show u = Value.ref ps[i] from ru)
  obtain ⟨k, key, v, a1, a2, a3⟩ := hr i ps[i] (B3 hi)
  exact ⟨_, k, key, v, rfl, a1, a2, a3⟩
 obtain ⟨vs, rel, hraw⟩ := raw
 have lv : kvs.length = vs.length := rel.length
 have ek : kvs.map (·.1) = vs.map (·.1) := by
  clear hraw hat lv nd hn q
  induction rel with
  | nil => rfl
  | cons h _ ih => rw [Ce, Ce, ih, h.1]
 refine callType_codes (Q₁ := fun obj s₁ => obj = .ref s.heap.objs.size /\ s₁ = { s with heap := s.heap.push { cls := .type "dict", data := .dict #[] } }) F.kt_called_dict (F.kt_typeCall_dict_1 _) F.entry_dict_init (kt_code_dict_new _ ⟨rfl, rfl⟩) ?_
 rintro obj s₁ ⟨rfl, rfl⟩
 have hnew : (s.heap.push { cls := .type "dict", data := .dict #[] }).DictOf (aG X.prog X.w) s.heap.objs.size [] := Heap.DictOf.new s.heap
 refine ⟨hnew.typeIs, F.args_dict_init_2 _ _, ?_⟩
 unfold Builtin.«dict.__init__»
 refine wpAny_bind ?_
 unfold Builtin.Dict.selfAndRest
 refine wpAny_bind (wpAny_notOrdered_dict hnew.typeIs ?_)
 show wpAny _ _ (pure (s.heap.objs.size, [Value.ref p])) _ _ _
 refine wpAny_pure ?_
 show wpAny _ _ (Builtin.Dict.updateFrom "dict.__init__" s.heap.objs.size (.ref p) [] .none) _ _ _
 unfold Builtin.Dict.updateFrom
 obtain ⟨o, n, ho, c1, c2, c3⟩ := pl
 have ho' : (s.heap.push { cls := .type "dict", data := .dict #[] }).get? p = some o := Heap.get?_push_of_some _ ho
 refine wpAny_bind (wpAny_typeOf (T := "list") ⟨o, ho', c1⟩ ?_)
 rw [if_pos (by decide)]
 obtain ⟨oc, od, oda, osl⟩ := o
 simp only at c1 c2 c3
 subst c1 c2 c3
 refine wpAny_bind (j8 hnd ho' fun h2 tk kp2 => ?_)
 have hlst : h2.IsList p its.toArray := ⟨_, kp2 _ _ ho', rfl, n, rfl⟩
 show wpAny _ _ (rule _ >>= _) _ _ _
 refine wpAny_bind (wpAny_rule ?_)
 refine wpAny_bind (wpAny_pyIter_list (s := { s with heap := h2, toks := tk }) hlst ?_)
 refine wpAny_pure ⟨plainId_quiet cq _, ?_⟩
 have lt : s.heap.objs.size < h2.objs.size := by
  have := Heap.lt_size (kp2 s.heap.objs.size _ (Heap.get?_push_size _ rfl))
  exact this
 refine sU (P := X.prog) (w := X.w) (h0 := s.heap) (vs := vs) (its := its) (A := X.A.in1) (show X.A.in1.handled = none from hnd) ⟨_, ho, rfl, n, rfl⟩ (Ca _) (C4 lt) (Cp lt) (by rw [<- ek]; exact nd) (by omega) (by omega) hraw _ 0 _ rfl (Cz _) (fun b o e => ?_) ?_ ?_ fun h' tk' kp' dk' => ?_
 ·exact Heap.get?_push_of_some _ (kp2 _ _ (Heap.get?_push_of_some _ e))
 ·exact ⟨_, Heap.get?_push_size _ rfl, rfl, rfl⟩
 ·rw [Dx]
  exact hnew.at fun o e => Heap.get?_push_of_some _ (kp2 _ _ e)
 ·refine ⟨rfl, .ref s.heap.objs.size, _, I.laid (t' := tk') kp' (Ca _) (pK (by omega) (beq_false_of_ne (Ed I.big)) rel dk'), rfl, q _ (I.hok.fresh (Ca _))⟩
end
def cD (H : Hp) (a : Addr) (x : Int × Int) : Prop := H a = some (.tup [.int x.1, .int x.2])
def TupsL (H : Hp) (ps : List Addr) (row : List (Int × Int)) : Prop := Paired (cD H) ps row
def RowAt (H : Hp) (r : Addr) (row : List (Int × Int)) : Prop := ∃ ps : List Addr, H r = some (.lst (ps.map V.ref)) /\ TupsL H ps row
def BillL (H : Hp) (rs : List Addr) (rows : List (List (Int × Int))) : Prop := Paired (RowAt H) rs rows
theorem cu {α β : Type} {F : α -> β -> Prop} {l : List α} {r : List β} {i : Nat} {a : α} (h : Paired F l r) (e : l[i]? = some a) : ∃ b, r[i]? = some b /\ F a b := by
 induction h generalizing i with
 | nil => cases e
 | cons x t ih =>
  cases i with
  | zero => cases e; exact ⟨_, rfl, x⟩
  | succ i => exact ih e
theorem TupsL.same {H H' : Hp} {ps : List Addr} {row : List (Int × Int)} (h : TupsL H ps row) (s : Same H H') : TupsL H' ps row := Paired.mapP h fun _ _ q => s _ _ q
theorem TupsL.len {H : Hp} {ps : List Addr} {row : List (Int × Int)} (h : TupsL H ps row) : ps.length = row.length := Paired.length h
theorem RowAt.same {H H' : Hp} {r : Addr} {row : List (Int × Int)} (h : RowAt H r row) (s : Same H H') : RowAt H' r row := let ⟨ps, a, b⟩ := h; ⟨ps, s _ _ a, b.same s⟩
theorem BillL.same {H H' : Hp} {rs : List Addr} {rows : List (List (Int × Int))} (h : BillL H rs rows) (s : Same H H') : BillL H' rs rows := Paired.mapP h fun _ _ q => q.same s
theorem BillL.len {H : Hp} {rs : List Addr} {rows : List (List (Int × Int))} (h : BillL H rs rows) : rs.length = rows.length := Paired.length h
theorem BillL.at {H : Hp} {rs : List Addr} {rows : List (List (Int × Int))} (h : BillL H rs rows) {i : Nat} {row : List (Int × Int)} (e : rows[i]? = some row) : ∃ r, rs[i]? = some r /\ RowAt H r row := cK h e
theorem BillL.get {H : Hp} {rs : List Addr} {rows : List (List (Int × Int))} (h : BillL H rs rows) {i : Nat} {r : Addr} (e : rs[i]? = some r) : ∃ row, rows[i]? = some row /\ RowAt H r row := cu h e
theorem j9 {K : PySem.W.Frag} {H1 : Hp} {js : List (Option Nat)} {σ : L2.St} {tc : TT} {te : TE} {Q : VK} {r : Addr} {ps : List Addr} {row : List (Int × Int)} (p : Nat -> Bool) (P : Addr -> Nat -> V -> Hp -> Prop)
  (hr : SqL K H1 r (ps.map V.ref)) (ht : TupsL H1 ps row) (hn : row.length < 100000)
  (mono : ∀ acc i v H H', P acc i v H -> SameBut acc H H' -> P acc i v H')
  (hc : ∀ (i : Nat) x, row[i]? = some x -> ∀ H2 R, Same H1 H2 -> (∀ H3, Same H2 H3 -> R (p i) H3) -> tc (some (.int x.1) :: some (.int x.2) :: bS σ js) H2 R)
  (he : ∀ acc (i : Nat) x, row[i]? = some x -> p i = true -> ∀ H2 R, Same H1 H2 -> H1 acc = none -> H2 acc ≠ none -> (∀ v H3, Same H2 H3 -> P acc i v H3 -> R v H3) -> te (some (.int x.1) :: some (.int x.2) :: bS σ js) H2 R)
  (hQ : ∀ acc vs H', Same H1 H' -> H1 acc = none -> H' acc = some (.lst vs) -> Paired (fun i v => P acc i v H') ((B9 row.length).filter p) vs -> Q (.ref acc) H') :
  b8 (nO K r) H1 (none :: none :: js) (rN K 2 (gJ (bN 0) (gJ (bN 1) t9))) tc te σ Q := by
 have hl := ht.len
 intro acc hacc
 refine ⟨fun i m ys H => m = row.length - i /\ i <= row.length /\ Same H1 H /\ H acc = some (.lst ys) /\ Paired (fun k v => P acc k v H) ((B9 i).filter p) ys, ⟨row.length, by simp, Cz _, Same.new hacc, ab, .nil⟩, ?_⟩
 rintro i m ys H ⟨rfl, hi, s1, ha, hp⟩
 by_cases hlt : i < row.length
 ·have hps : i < ps.length := by omega
  have ex : row[i]? = some row[i] := B3 hlt
  refine .inr ⟨⟨_, .ref ps[i], s1.seq hr, by simp [hps]⟩, fun ys' H' => i < row.length /\ Same H1 H' /\ H' acc = some (.lst ys') /\ Paired (fun k v => P acc k v H') ((B9 (i + 1)).filter p) ys', fun ys' H' ⟨z, a, b, c⟩ => ⟨row.length - (i + 1), CU _ _ hlt, rfl, hlt, a, b, c⟩, fun x H' y => ?_⟩
  obtain ⟨rfl, y⟩ := y
  have y := y _ (s1.seq hr)
  rw [B7] at y
  obtain ⟨a, ea, rfl⟩ := Cc.mp y
  obtain ⟨x', ex', ft⟩ := cu ht ea
  rw [ex] at ex'
  cases ex'
  refine ⟨a, _, rfl, SqT.of (s1 _ _ ft), rfl, _, _, rfl, _, _, rfl, rfl, xU, hc i _ ex _ _ s1 fun H2 s2 => ⟨fun hb => ?_, fun hb => ?_⟩⟩
  ·have ha2 := s2 _ _ ha
   refine he acc i _ ex hb _ _ (s1.trans s2) hacc (by rw [ha2]; simp) fun v H3 s3 pv => ?_
   have hlen : ys.length <= i := by
    rw [<- Paired.length hp]
    exact CJ (CM _ _) (by simp)
   refine ⟨s3 _ _ ha2, iV (by omega), hlt, ((s1.trans s2).trans s3).put hacc, ab, ?_⟩
   rw [C1, CT]
   have e : Ek p [i] = [i] := by simp [hb]
   rw [e]
   refine Paired.snoc (Paired.mapP hp fun k v q => ?_) ?_
   ·exact mono acc k v _ _ (mono acc k v _ _ q (s2.trans s3).but) SameBut.upd
   ·exact mono acc i v _ _ pv SameBut.upd
  ·refine ⟨hlt, s1.trans s2, s2 _ _ ha, ?_⟩
   rw [C1, CT]
   have e : Ek p [i] = [] := by simp [hb]
   rw [e, Dh]
   exact Paired.mapP hp fun k v q => mono acc k v _ _ q s2.but
 ·have e : i = row.length := by omega
  subst e
  exact .inl ⟨⟨_, s1.seq hr, by rw [B4]; omega⟩, hQ acc ys H s1 hacc ha hp⟩
theorem jB {α β : Type} {f : Nat -> β} {g : α -> β} {l : List α} (h : ∀ (i : Nat) x, l[i]? = some x -> f i = g x) : (B9 l.length).map f = l.map g := by
 apply Du
 ·simp
 ·intro i h1 h2
  simp only [C2, DH]
  exact h i _ (B3 (by simpa using h2))
theorem iZ {K : PySem.W.Frag} {H1 : Hp} {js : List (Option Nat)} {σ : L2.St} {te : TE} {Q : VK} {r : Addr} {row : List (Int × Int)} (f : Int × Int -> V)
  (hr : RowAt H1 r row) (hn : row.length < 100000)
  (he : ∀ (i : Nat) x, row[i]? = some x -> ∀ H2 R, Same H1 H2 -> (∀ H3, Same H2 H3 -> R (f x) H3) -> te (some (.int x.1) :: some (.int x.2) :: bS σ js) H2 R)
  (hQ : ∀ acc H', Same H1 H' -> H1 acc = none -> H' acc = some (.lst (row.map f)) -> Q (.ref acc) H') :
  b8 (nO K r) H1 (none :: none :: js) (rN K 2 (gJ (bN 0) (gJ (bN 1) t9))) eJ te σ Q := by
 obtain ⟨ps, h1, h2⟩ := hr
 refine j9 (ps := ps) (row := row) (fun _ => true) (fun _ i v _ => v = f (row.getD i (0, 0))) (SqL.of h1) h2 hn (fun _ _ _ _ _ h _ => h) (fun _ _ _ _ _ _ k => k _ (Same.refl _)) (fun acc i x ex _ H2 R s _ _ k => he i x ex H2 R s fun H3 s3 => k _ H3 s3 ?_) fun acc vs H' s n e p => ?_
 ·rw [B5, ex]; rfl
 ·refine hQ acc H' s n ?_
  rw [e, cy p, CQ.mpr (fun _ _ => rfl)]
  rw [jB (g := f) fun i x hx => by rw [B5, hx]; rfl]
def jC (row : List (Int × Int)) : List (bq × V) := row.map fun x => (Sum.inl x.1, V.int x.2)
def aN (row : List (Int × Int)) (b : Int) : Option Int := (row.find? fun x => x.1 == b).map (·.2)
theorem mR {row : List (Int × Int)} (h : (row.map (·.1)).Nodup) : ((jC row).map (·.1)).Nodup := by
 unfold jC
 rw [Cu]
 have e : row.map ((fun x : bq × V => x.1) ∘ fun x : Int × Int => ((Sum.inl x.1 : bq), V.int x.2)) = (row.map (·.1)).map (Sum.inl : Int -> bq) := by rw [Cu]; rfl
 rw [e]
 exact List.Pairwise.map _ (fun a b n z => n (by injection z)) h
theorem dZ (b : Int) : ∀ row : List (Int × Int), bf (jC row) (Sum.inl b) = (aN row b).map V.int
 | [] => rfl
 | x :: row => by
  have ih := dZ b row
  unfold jC aN bf at *
  rw [Ce, CS, CS]
  by_cases z : x.1 = b
  ·have z1 : (x.1 == b) = true := by simpa using z
   have z2 : decide ((Sum.inl x.1 : bq) = Sum.inl b) = true := by rw [z]; simp
   simp only [z1, z2, DA]
  ·have z1 : (x.1 == b) = false := by simpa using z
   have z2 : decide ((Sum.inl x.1 : bq) = Sum.inl b) = false := decide_eq_false fun y => z (by injection y)
   simp only [z1, z2]
   exact ih
theorem TupsL.kv {K : PySem.W.Frag} {H : Hp} {ps : List Addr} {row : List (Int × Int)} (h : TupsL H ps row) (i : Nat) (a : Addr) (e : ps[i]? = some a) : ∃ k v, (jC row)[i]? = some (k, v) /\ SqT K H a [kV k, v] := by
 obtain ⟨x, hx, t⟩ := cu h e
 exact ⟨Sum.inl x.1, V.int x.2, by unfold jC; rw [B7, hx]; rfl, SqT.of t⟩
theorem kc {row : List (Int × Int)} (nd : (row.map (·.1)).Nodup) {x : Int × Int} (h : x ∈ row) : aN row x.1 = some x.2 := by
 induction row with
 | nil => cases h
 | cons y row ih =>
  rw [Ce, C0] at nd
  unfold aN
  rw [CS]
  rcases Cm.mp h with e | h
  ·subst e; simp
  ·have z : (y.1 == x.1) = false := by
    refine beq_false_of_ne fun e => nd.1 ?_
    rw [e]
    exact Cb.mpr ⟨x, h, rfl⟩
   rw [z]
   exact ih nd.2 h
theorem ee {row : List (Int × Int)} {b c : Int} (h : aN row b = some c) : (b, c) ∈ row := by
 unfold aN at h
 obtain ⟨x, hx, e⟩ := Cc.mp h
 have e1 := List.find?_some hx
 have e2 := List.mem_of_find?_eq_some hx
 have e3 : x.1 = b := by simpa using e1
 rw [<- e3, <- e]
 exact e2
theorem cE {row : List (Int × Int)} {b : Int} : aN row b = none <-> b ∉ row.map (·.1) := by
 unfold aN
 rw [Option.map_eq_none_iff, List.find?_eq_none]
 constructor
 ·intro h z
  obtain ⟨x, hx, e⟩ := Cb.mp z
  exact h x hx (by simp [e])
 ·intro h x hx z
  exact h (Cb.mpr ⟨x, hx, by simpa using z⟩)
theorem vb {K : PySem.W.Frag} {H : Hp} {a b : Addr} {row : List (Int × Int)} (h1 : RowAt H a row) (h2 : RowAt H b row) : DEq K H 2 (.ref a) (.ref b) true := by
 obtain ⟨ps, a1, a2⟩ := h1
 obtain ⟨qs, b1, b2⟩ := h2
 refine j6 (SqL.of a1) (SqL.of b1) (by rw [B4, B4, a2.len, b2.len]) fun j x y ex ey => ?_
 rw [B7] at ex ey
 obtain ⟨r, e1, rfl⟩ := Cc.mp ex
 obtain ⟨r', e2, rfl⟩ := Cc.mp ey
 obtain ⟨x1, f1, g1⟩ := cu a2 e1
 obtain ⟨x2, f2, g2⟩ := cu b2 e2
 rw [f1] at f2
 cases f2
 refine iF (SqT.of g1) (SqT.of g2) rfl fun i u v eu ev => ?_
 rw [eu] at ev
 cases ev
 match i with
 | 0 => cases eu; exact dY rfl
 | 1 => cases eu; exact dY rfl
 | i + 2 => cases eu
theorem sV {K : PySem.W.Frag} {H : Hp} {a b : Addr} {rs rs' : List Addr} {rows : List (List (Int × Int))} (h1 : H a = some (.lst (rs.map V.ref))) (p1 : BillL H rs rows) (h2 : H b = some (.lst (rs'.map V.ref))) (p2 : BillL H rs' rows) : DEq K H 3 (.ref a) (.ref b) true := by
 refine j6 (SqL.of h1) (SqL.of h2) (by rw [B4, B4, p1.len, p2.len]) fun j x y ex ey => ?_
 rw [B7] at ex ey
 obtain ⟨r, e1, rfl⟩ := Cc.mp ex
 obtain ⟨r', e2, rfl⟩ := Cc.mp ey
 obtain ⟨x1, f1, g1⟩ := p1.get e1
 obtain ⟨x2, f2, g2⟩ := p2.get e2
 rw [f1] at f2
 cases f2
 exact vb g1 g2
theorem kd {n j : Nat} (h : j < n) : vU n (j : Int) = some j := by
 unfold vU
 rw [if_pos (by omega), if_pos (by omega), CG]
theorem g4 (L : List Int) (c : Int) {n : Nat} (e : L.length = n) (h : 0 < n) : ∃ d, lE (L.map V.int) (c % (n : Int)) = some (.int d) /\ d ∈ L := by
 obtain ⟨m, hm, em⟩ := xc c h
 rw [em]
 have hl : m < L.length := by omega
 exact ⟨L[m], aK (by simp [hl]), CA hl⟩
theorem vc {K : PySem.W.Frag} {H1 : Hp} {js : List (Option Nat)} {σ : L2.St} {te : TE} {Q : VK} {a : Addr} {ns : List Int} (f : Int -> V) (hl : SqL K H1 a (ns.map V.int)) (hn : ns.length < 100000)
  (he : ∀ (i : Nat) x, ns[i]? = some x -> ∀ H2 R, Same H1 H2 -> (∀ H3, Same H2 H3 -> R (f x) H3) -> te (some (.int x) :: bS σ js) H2 R)
  (hQ : ∀ acc H', Same H1 H' -> H1 acc = none -> H' acc = some (.lst (ns.reverse.map f)) -> Q (.ref acc) H') : b8 (xf K a (ns.map V.int).length) H1 (none :: js) (bN 0) eJ te σ Q := by
 have ln : (ns.map V.int).length = ns.length := B4 ..
 rw [ln]
 refine df (J := xf K a ns.length) (H1 := H1) (js := js) (σ := σ) (tc := eJ) (te := te) (Q := Q) ns.length (fun i => .int (ns.getD (ns.length - 1 - i) 0)) (fun _ => true) (fun _ i v _ => v = f (ns.getD (ns.length - 1 - i) 0)) hn (fun _ _ _ _ _ h _ => h)
  (fun i H h s => ⟨h, _, s.seq hl, ln⟩) (fun H s => Ca _)
  (fun i H x H' h s y => ⟨y.1, ?_⟩)
  (fun i h H2 R s k => k _ (Same.refl _)) (fun acc i h hp H2 R s n1 n2 k => ?_)
  fun acc vs H' s n' e p => hQ acc H' s n' ?_
 ·have e := y.2 _ (s.seq hl)
  rw [B7] at e
  obtain ⟨z, hz, rfl⟩ := Cc.mp e
  rw [B5, hz]; rfl
 ·have hx : ns[ns.length - 1 - i]? = some (ns.getD (ns.length - 1 - i) 0) := by rw [B5, B3 (by omega)]; rfl
  exact he _ _ hx H2 R s fun H3 s3 => k _ H3 s3 rfl
 ·rw [e, cy p, CQ.mpr (fun _ _ => rfl)]
  congr 2
  apply Du
  ·simp
  ·intro i h1 h2
   simp only [B4, CH] at h1
   simp only [C2, DH, List.getElem_reverse]
   rw [B5, B3 (by omega)]; rfl
theorem yY {ns : List Int} (c : Int) (h : ns.Pairwise (· < ·)) : ((ns.reverse.map fun x => c - x) : List Int).Pairwise (· < ·) := by
 refine List.Pairwise.map _ (fun a b (z : b < a) => by show c - a < c - b; omega) ?_
 exact List.pairwise_reverse.mpr h
structure RowOk (bs : List Int) (tp : Int) (row : List (Int × Int)) : Prop where
 up : (row.map (·.1)).Pairwise (· < ·)
 inn : ∀ x ∈ row, x.1 ∈ bs /\ 0 <= x.2 /\ x.2 < tp
 len : row.length <= bs.length
theorem RowAt.but {H : Hp} {r l : Addr} {row : List (Int × Int)} {xs : List V} {o : HO} (h : RowAt H r row) (hl : H l = some (.lst xs)) (ne : r ≠ l) : RowAt (ay H l o) r row := by
 obtain ⟨ps, a, b⟩ := h
 exact ⟨ps, by rw [aj ne]; exact a, Paired.mapP b fun a x q => by
  show ay H l o a = _
  rw [aj (fun z => by rw [cD, z, hl] at q; cases q)]; exact q⟩
theorem TupsL.but {H : Hp} {l : Addr} {ps : List Addr} {row : List (Int × Int)} {xs : List V} {o : HO} (h : TupsL H ps row) (hl : H l = some (.lst xs)) : TupsL (ay H l o) ps row :=
 Paired.mapP h fun a x q => by
  show ay H l o a = _
  rw [aj (fun z => by rw [cD, z, hl] at q; cases q)]; exact q
theorem BillL.but {H : Hp} {l : Addr} {rs : List Addr} {rows : List (List (Int × Int))} {xs : List V} {o : HO} (h : BillL H rs rows) (hl : H l = some (.lst xs)) (ne : l ∉ rs) : BillL (ay H l o) rs rows := by
 refine dU h.len fun i r row e1 e2 => ?_
 obtain ⟨row', e3, q⟩ := h.get e1
 rw [e2] at e3
 cases e3
 exact q.but hl fun z => ne (z ▸ B8 e1)
theorem rg {l : List Int} {x : Int} (h : l.Pairwise (· < ·)) (hx : ∀ y ∈ l, y < x) : (l ++ [x]).Pairwise (· < ·) :=
 List.pairwise_append.mpr ⟨h, Dy .., fun a ha b hb => by rw [Cg.mp hb]; exact hx a ha⟩
theorem xg {bs : List Int} (h : bs.Pairwise (· < ·)) {i : Nat} {x : Int} (hx : bs[i]? = some x) : ∀ y ∈ bs.take i, y < x := by
 intro y hy
 obtain ⟨hi, ex⟩ := B6.mp hx
 obtain ⟨j, hj, ej⟩ := Ck.mp hy
 rw [CO] at hj
 rw [DF] at ej
 rw [<- ej, <- ex]
 exact CY.mp h j i _ _ (by omega)
theorem e9 {α β : Type} {F : α -> β -> Prop} {l : List α} {r : List β} (h : Paired F l r) {a : α} {b : β} (q : F a b) : Paired F (l ++ [a]) (r ++ [b]) := Paired.snoc h q
theorem BillL.parts {H : Hp} {rs : List Addr} {rows : List (List (Int × Int))} (h : BillL H rs rows) : ∃ pss : List (List Addr), pss.length = rs.length /\ ∀ (i : Nat) r, rs[i]? = some r -> ∃ ps row, pss[i]? = some ps /\ rows[i]? = some row /\ H r = some (.lst (ps.map V.ref)) /\ TupsL H ps row := by
 induction h with
 | nil => exact ⟨[], rfl, fun i r z => by cases z⟩
 | cons h _ ih =>
  obtain ⟨pss, l, f⟩ := ih
  obtain ⟨ps, a, b⟩ := h
  refine ⟨ps :: pss, by rw [Cv, Cv, l], fun i r e => ?_⟩
  cases i with
  | zero => cases e; exact ⟨ps, _, rfl, rfl, a, b⟩
  | succ i => exact f i r e
theorem qj {K : PySem.W.Frag} {H1 : Hp} {js : List (Option Nat)} {σ : L2.St} {te : TE} {Q : VK} {b : Addr} {rs : List Addr} {rows : List (List (Int × Int))} (hb : H1 b = some (.lst (rs.map V.ref))) (bl : BillL H1 rs rows) (hn : rows.length < 100000)
  (he : ∀ r (xs : List V) H2 R, H2 r = some (.lst xs) -> (∀ l H3, Same H2 H3 -> H2 l = none -> H3 l = some (.lst xs) -> R (.ref l) H3) -> te (some (.ref r) :: bS σ js) H2 R)
  (hQ : ∀ acc ls H', Same H1 H' -> H1 acc = none -> H' acc = some (.lst (ls.map V.ref)) -> BillL H' ls rows -> (∀ r ∈ ls, H1 r = none /\ r ≠ acc) -> ls.Nodup -> Q (.ref acc) H') :
  b8 (nO K b) H1 (none :: js) (bN 0) eJ te σ Q := by
 obtain ⟨pss, lp, fp⟩ := bl.parts
 have ln := bl.len
 refine j4 (J := nO K b) (H1 := H1) (js := js) (σ := σ) (te := te) (Q := Q) rs.length (fun i => (rs.map V.ref).getD i .non) (fun acc ys H => ∃ ls : List Addr, ys = ls.map V.ref /\ ls.Nodup /\ (∀ r ∈ ls, H1 r = none /\ r ≠ acc) /\ ∀ (i : Nat) l, ls[i]? = some l -> H l = some (.lst ((pss.getD i []).map V.ref))) (by omega)
  ?_ (fun acc H => ⟨[], rfl, .nil, (fun _ z => by cases z), fun i l z => by cases z⟩)
  (fun i H h s => ⟨_, .ref rs[i], s.seq (SqL.of hb), by simp [h]⟩) (fun H s => ⟨_, s.seq (SqL.of hb), by simp⟩) ?_ ?_ ?_
 ·rintro acc ys H H' ⟨ls, e, nd, n, f⟩ s
  exact ⟨ls, e, nd, n, fun i l z => s l _ (n l (B8 z)).2 (f i l z)⟩
 ·intro i H x H' h s y
  refine ⟨y.1, ?_⟩
  have e := y.2 _ (s.seq (SqL.of hb))
  rw [B5, e]; rfl
 ·rintro acc i ys H2 R hi s n1 n2 ln2 ⟨ls, rfl, nd, n, f⟩ k
  have er : rs[i]? = some rs[i] := B3 hi
  obtain ⟨ps, row, e1, e2, e3, e4⟩ := fp i _ er
  have eg : (rs.map V.ref).getD i .non = .ref rs[i] := by rw [B5, B7, er]; rfl
  rw [B4] at ln2
  show te (some ((rs.map V.ref).getD i .non) :: bS σ js) H2 R
  rw [eg]
  refine he _ _ H2 R (s _ _ e3) fun l H3 s3 nl hl => k (.ref l) H3 s3 ⟨ls ++ [l], by rw [Cf]; rfl, ?_, fun r hr => ?_, fun j l' z => ?_⟩
  ·refine DE.mpr ⟨nd, by simp, fun x hx y hy z => ?_⟩
   rw [Cg.mp hy] at z
   subst z
   obtain ⟨j, hj, ej⟩ := Ck.mp hx
   have := f j x (by rw [B3 hj, ej])
   rw [this] at nl
   cases nl
  ·rcases Cw.mp hr with z | z
   ·exact n r z
   ·rw [Cg.mp z]
    exact ⟨s.free nl, fun z => by rw [z, n2] at nl; cases nl⟩
  ·by_cases hj : j < ls.length
   ·rw [CC hj] at z
    exact s3 _ _ (f j l' z)
   ·have hj' := (B6.mp z).1
    rw [Cd, Cn] at hj'
    have ej : j = ls.length := by omega
    subst ej
    rw [CI (Ca _), Dv] at z
    cases z
    rw [ln2, B5, e1]
    exact hl
 ·rintro acc ys H' s n1 n2 l2 ⟨ls, rfl, nd, n, f⟩
  rw [B4] at l2
  refine hQ acc ls H' s n1 n2 (dU (by omega) fun i l row z1 z2 => ?_) n nd
  have hi : i < rs.length := by rw [<- l2]; exact (B6.mp z1).1
  obtain ⟨ps, row', e1, e2, e3, e4⟩ := fp i _ (B3 hi)
  rw [z2] at e2
  cases e2
  have g := f i l z1
  rw [B5, e1] at g
  exact ⟨ps, g, e4.same s⟩
def cg (rows : List (List (Int × Int))) (hands : List Int) (i : Nat) : Int := (aN (rows.getD i []) (hands.getD i 0)).getD 0
def bC (rows : List (List (Int × Int))) (hands : List Int) : Int := ((B9 rows.length).map (cg rows hands)).sum
def iH (row r2 : List (Int × Int)) : List (Int × Int) := (row.filter fun x => (aN r2 x.1).isSome).map fun x => (x.1, x.2 + (aN r2 x.1).getD 0)
def aw (row : List (Int × Int)) : List Int := row.map (·.1)
def g6 (rows : List (List (Int × Int))) : List Nat -> List (Int × Int)
 | [] => []
 | s :: st => st.foldl (fun acc j => iH acc (rows.getD j [])) (rows.getD s [])
def eQ (rows : List (List (Int × Int))) : List Nat -> List Int
 | [] => []
 | s :: st => st.foldl (fun acc j => acc.filter fun b => decide (b ∈ aw (rows.getD j []))) (aw (rows.getD s []))
def iI (rows : List (List (Int × Int))) (st : List Nat) (b : Int) : Int := (st.map fun s => (aN (rows.getD s []) b).getD 0).sum
def bE (rows : List (List (Int × Int))) (p : List Int) : List (List (Int × Int)) := (B9 (dd p).length).map fun b => g6 rows (bV p b)
theorem iJ {rows : List (List (Int × Int))} {st : List Nat} (h : st ≠ []) (s : Nat) : g6 rows (st ++ [s]) = iH (g6 rows st) (rows.getD s []) := by
 cases st with
 | nil => exact absurd rfl h
 | cons a r => show ((r ++ [s]).foldl _ _) = _; rw [List.foldl_append]; rfl
theorem eA {rows : List (List (Int × Int))} {st : List Nat} (h : st ≠ []) (s : Nat) : eQ rows (st ++ [s]) = (eQ rows st).filter fun b => decide (b ∈ aw (rows.getD s [])) := by
 cases st with
 | nil => exact absurd rfl h
 | cons a r => show ((r ++ [s]).foldl _ _) = _; rw [List.foldl_append]; rfl
theorem sW {rows : List (List (Int × Int))} {st : List Nat} (s : Nat) (b : Int) : iI rows (st ++ [s]) b = iI rows st b + (aN (rows.getD s []) b).getD 0 := by
 unfold iI
 rw [Cf, List.sum_append]
 simp
theorem i4 {row : List (Int × Int)} {b : Int} : (aN row b).isSome = decide (b ∈ aw row) := by
 cases e : aN row b with
 | none => exact (decide_eq_false (show b ∉ aw row from cE.mp e)).symm
 | some c => exact (decide_eq_true (show b ∈ aw row from Cb.mpr ⟨_, ee e, rfl⟩)).symm
theorem vd {row : List (Int × Int)} (nd : (aw row).Nodup) : row = (aw row).map fun b => (b, (aN row b).getD 0) := by
 unfold aw
 rw [Cu]
 conv => lhs; rw [<- List.map_id row]
 apply Cs
 intro x hx
 show x = (x.1, (aN row x.1).getD 0)
 rw [kc nd hx]; rfl
theorem g7 {α : Type} {P : List α -> Prop} (h1 : ∀ a, P [a]) (h2 : ∀ l a, l ≠ [] -> P l -> P (l ++ [a])) : ∀ l, l ≠ [] -> P l := by
 intro l
 have key : ∀ (n : Nat) (l : List α), l.length = n -> l ≠ [] -> P l := by
  intro n
  induction n with
  | zero => intro l e h; exact absurd (Dg.mp e) h
  | succ n ih =>
   intro l e h
   have e1 := DO h
   by_cases z : l.dropLast = []
   ·rw [z] at e1
    rw [<- e1]
    exact h1 _
   ·rw [<- e1]
    exact h2 _ _ z (ih _ (by rw [DS]; omega) z)
 exact key _ l rfl
theorem mS {rows : List (List (Int × Int))} (nd : ∀ row ∈ rows, (aw row).Nodup) : ∀ st, st ≠ [] -> g6 rows st = (eQ rows st).map fun b => (b, iI rows st b) := by
 refine g7 (fun s => ?_) (fun st s hne ih => ?_)
 ·show rows.getD s [] = (aw (rows.getD s [])).map _
  have hn : (aw (rows.getD s [])).Nodup := by
   rw [B5]
   cases e : rows[s]? with
   | none => exact .nil
   | some row => exact nd row (B8 e)
  conv => lhs; rw [vd hn]
  apply Cs
  intro b _
  unfold iI
  simp
 ·rw [iJ hne, eA hne, ih]
  unfold iH
  rw [EA, Cu]
  have e1 : (fun x : Int × Int => (aN (rows.getD s []) x.1).isSome) ∘ (fun b => (b, iI rows st b)) = fun b => decide (b ∈ aw (rows.getD s [])) := by
   funext b
   exact i4
  rw [e1]
  apply Cs
  intro b _
  show (b, iI rows st b + _) = _
  rw [sW]
theorem oC {rows : List (List (Int × Int))} : ∀ st, st ≠ [] -> ∀ b, b ∈ eQ rows st <-> ∀ s ∈ st, b ∈ aw (rows.getD s []) := by
 refine g7 (fun s b => ?_) (fun st s hne ih b => ?_)
 ·show b ∈ aw (rows.getD s []) <-> _
  simp
 ·rw [eA hne, CD, ih b, decide_eq_true_iff]
  constructor
  ·rintro ⟨h1, h2⟩ x hx
   rcases Cw.mp hx with z | z
   ·exact h1 x z
   ·rw [Cg.mp z]; exact h2
  ·intro h
   exact ⟨fun x hx => h x (Cr _ hx), h s (CF _ (by simp))⟩
theorem xX {α β : Type} {l : List α} {d : α} {g : α -> Bool} {F : α -> β} : (((B9 l.length).filter fun j => g (l.getD j d)).map fun j => F (l.getD j d)) = (l.filter g).map F := by
 have e0 : l = (B9 l.length).map fun i => l.getD i d := by
  conv => lhs; rw [<- List.map_id l]
  exact (jB fun i x hx => by rw [B5, hx]; rfl).symm
 conv => rhs; rw [e0]
 rw [EA, Cu]
 rfl
theorem rh {H : Hp} {g : Nat -> Int × Int} : ∀ {is : List Nat} {vs : List V}, Paired (fun i v => ∃ t, v = .ref t /\ cD H t (g i)) is vs -> ∃ ps : List Addr, vs = ps.map V.ref /\ TupsL H ps (is.map g)
 | _, _, .nil => ⟨[], rfl, .nil⟩
 | _, _, .cons ⟨t, e, h⟩ r => by
  obtain ⟨ps, e2, h2⟩ := rh r
  exact ⟨t :: ps, by rw [e, e2]; rfl, .cons h h2⟩
theorem qk (row r2 : List (Int × Int)) : (iH row r2).length <= row.length := by
 unfold iH
 rw [B4]
 exact CM _ _
theorem ve {rows : List (List (Int × Int))} {n : Nat} (h : ∀ row ∈ rows, row.length <= n) : ∀ st, (g6 rows st).length <= n := by
 have base : ∀ s, (rows.getD s []).length <= n := fun s => by
  rw [B5]
  cases e : rows[s]? with
  | none => exact Cz _
  | some row => exact h row (B8 e)
 intro st
 by_cases z : st = []
 ·rw [z]; exact Cz _
 ·exact g7 (P := fun st => (g6 rows st).length <= n) base (fun st s hne ih => by rw [iJ hne]; exact CJ (qk _ _) ih) st z
def RowN (acc : Addr) (H : Hp) (r : Addr) (row : List (Int × Int)) : Prop := r ≠ acc /\ ∃ ps : List Addr, H r = some (.lst (ps.map V.ref)) /\ (∀ a ∈ ps, a ≠ acc) /\ TupsL H ps row
theorem RowN.mono {acc : Addr} {H H' : Hp} {r : Addr} {row : List (Int × Int)} (h : RowN acc H r row) (s : SameBut acc H H') : RowN acc H' r row := by
 obtain ⟨n, ps, a, b, c⟩ := h
 refine ⟨n, ps, s _ _ n a, b, dU (Paired.length c) fun i x y e1 e2 => ?_⟩
 obtain ⟨y', e3, q⟩ := cu c e1
 rw [e2] at e3
 cases e3
 exact s _ _ (b x (B8 e1)) q
theorem RowN.at {acc : Addr} {H : Hp} {r : Addr} {row : List (Int × Int)} (h : RowN acc H r row) : RowAt H r row := let ⟨_, ps, a, _, c⟩ := h; ⟨ps, a, c⟩
theorem RowAt.n {acc : Addr} {H : Hp} {r : Addr} {row : List (Int × Int)} {xs : List V} (h : RowAt H r row) (n : r ≠ acc) (ha : H acc = some (.lst xs)) : RowN acc H r row := by
 obtain ⟨ps, a, c⟩ := h
 refine ⟨n, ps, a, fun x hx z => ?_, c⟩
 obtain ⟨i, hi, ei⟩ := Ck.mp hx
 obtain ⟨y, _, q⟩ := cu c (B3 hi)
 rw [cD, ei, z, ha] at q
 cases q
theorem qm {H1 : Hp} {js : List (Option Nat)} {σ : L2.St} {te : TE} {Q : VK} {n : Nat} (f : Nat -> List (Int × Int)) (hn : n < 100000)
  (he : ∀ i : Nat, i < n -> ∀ H2 R, Same H1 H2 -> (∀ r H3, Same H2 H3 -> H2 r = none -> RowAt H3 r (f i) -> R (.ref r) H3) -> te (some (.int (0 + (i : Int))) :: bS σ js) H2 R)
  (hQ : ∀ acc ls H', Same H1 H' -> H1 acc = none -> H' acc = some (.lst (ls.map V.ref)) -> BillL H' ls ((B9 n).map f) -> (∀ r ∈ ls, H1 r = none /\ r ≠ acc) -> Q (.ref acc) H') : b8 (o8 0 n) H1 (none :: js) (bN 0) eJ te σ Q := by
 refine sN (fun acc ys H => ∃ ls : List Addr, ys = ls.map V.ref /\ ∀ (i : Nat) r, ls[i]? = some r -> H1 r = none /\ RowN acc H r (f i)) hn (fun acc ys H H' ⟨ls, e, h⟩ s => ⟨ls, e, fun i r z => ⟨(h i r z).1, (h i r z).2.mono s⟩⟩) (fun acc H => ⟨[], rfl, fun i r z => by cases z⟩) ?_ ?_
 ·rintro acc i ys H2 R hi s n1 n2 ln ⟨ls, rfl, h⟩ k
  rw [B4] at ln
  refine he i hi H2 R s fun r H3 s3 nr hr => k (.ref r) H3 s3 ⟨ls ++ [r], by rw [Cf]; rfl, fun j r' z => ?_⟩
  have n3 := s3 _ _ n2
  by_cases hj : j < ls.length
  ·rw [CC hj] at z
   exact ⟨(h j r' z).1, (h j r' z).2.mono s3.but⟩
  ·have hj' := (B6.mp z).1
   rw [Cd, Cn] at hj'
   have ej : j = ls.length := by omega
   subst ej
   rw [CI (Ca _), Dv] at z
   cases z
   rw [ln]
   exact ⟨s.free nr, hr.n (fun z => by rw [z, n2] at nr; cases nr) n3⟩
 ·rintro acc ys H' s n1 n2 ln ⟨ls, rfl, h⟩
  rw [B4] at ln
  refine hQ acc ls H' s n1 n2 (dU (by rw [B4, CH]; exact ln) fun i r row e1 e2 => ?_) fun r hr => ?_
  ·rw [B7] at e2
   obtain ⟨j, e3, e4⟩ := Cc.mp e2
   have hj := (B6.mp e3)
   obtain ⟨hj1, hj2⟩ := hj
   rw [DH] at hj2
   subst hj2
   subst e4
   exact (h i r e1).2.at
  ·obtain ⟨i, hi, ei⟩ := Ck.mp hr
   have := h i r (by rw [B3 hi, ei])
   exact ⟨this.1, this.2.1⟩
def k4 (p : List Int) (b : Int) (i : Nat) : List Nat := (B9 i).filter fun j => decide (p.getD j 0 = b)
theorem sX (p : List Int) (b : Int) (i : Nat) : k4 p b (i + 1) = if p.getD i 0 = b then k4 p b i ++ [i] else k4 p b i := by
 unfold k4
 rw [C1, CT]
 by_cases z : p.getD i 0 = b
 ·rw [if_pos z, Da, if_pos (decide_eq_true z)]; rfl
 ·rw [if_neg z, Da, if_neg (by rw [decide_eq_false z]; decide)]; exact Dh _
theorem vf (p : List Int) (b : Nat) : k4 p (b : Int) p.length = bV p b := rfl
section
variable {X : Cx}
end
abbrev bL := List (List (Int × Int))
def du (ds : List (Int × Int)) (b : Int) : Int := (aN ds b).getD 0
def hA (hs : List (Option Int)) (j : Nat) : Option Int := hs.getD j none
def pA (ps : List Int) (j : Nat) : Int := ps.getD j 0
def rA (rows : bL) (j : Nat) : List (Int × Int) := rows.getD j []
def rj (rows : bL) (ps : List Int) (ds : List (Int × Int)) (j : Nat) (b : Int) : Prop := ∃ c, aN (rA rows j) b = some c /\ pA ps j - du ds b = c
structure PInv (rows : bL) (hs : List (Option Int)) (ps : List Int) (ds : List (Int × Int)) : Prop where
 lh : hs.length = rows.length
 lp : ps.length = rows.length
 tight : ∀ j b, hA hs j = some b -> rj rows ps ds j b
 inj : ∀ j k b, hA hs j = some b -> hA hs k = some b -> j = k
 feas : ∀ j, ∀ x ∈ rA rows j, pA ps j - du ds x.1 <= x.2
 dnn : ∀ x ∈ ds, 0 <= x.2
 dnd : (ds.map (·.1)).Nodup
 held : ∀ x ∈ ds, ∃ j, hA hs j = some x.1
theorem vg {hs : List (Option Int)} {j : Nat} {b : Int} (h : hA hs j = some b) : j < hs.length := by
 unfold hA at h
 rw [B5] at h
 cases e : hs[j]? with
 | none => rw [e] at h; cases h
 | some v => exact (B6.mp e).1
theorem Ae {ds : List (Int × Int)} (h : ∀ x ∈ ds, 0 <= x.2) (b : Int) : 0 <= du ds b := by
 unfold du
 cases e : aN ds b with
 | none => exact Int.le_refl _
 | some d => exact h _ (ee e)
structure PTree (rows : bL) (hs : List (Option Int)) (ps : List Int) (ds : List (Int × Int)) (i : Nat) (R : List Nat) (A : List (Int × Nat)) : Prop where
 root : R[0]? = some i
 free : hA hs i = none
 len : R.length = A.length + 1
 hold : ∀ (t : Nat) x, A[t]? = some x -> ∃ j, R[t + 1]? = some j /\ hA hs j = some x.1
 ask : ∀ (t : Nat) x, A[t]? = some x -> (∃ u, u <= t /\ R[u]? = some x.2) /\ rj rows ps ds x.2 x.1
 nd : (A.map (·.1)).Nodup
 lt : ∀ j ∈ R, j < rows.length
 keys : ∀ x ∈ A, x.1 ∈ ds.map (·.1)
theorem PTree.iff {rows : bL} {hs : List (Option Int)} {ps : List Int} {ds : List (Int × Int)} {i : Nat} {R : List Nat} {A : List (Int × Nat)} (I : PInv rows hs ps ds) (T : PTree rows hs ps ds i R A) {j : Nat} {b : Int} (h : hA hs j = some b) : j ∈ R <-> b ∈ A.map (·.1) := by
 constructor
 ·intro m
  obtain ⟨t, ht⟩ := Dm.mp m
  cases t with
  | zero =>
   rw [T.root] at ht
   cases ht
   rw [T.free] at h
   cases h
  | succ t =>
   have hl := (B6.mp ht).1
   have hA' : t < A.length := by have := T.len; omega
   obtain ⟨j', e1, e2⟩ := T.hold t A[t] (B3 hA')
   rw [ht] at e1
   cases e1
   rw [h] at e2
   exact Cb.mpr ⟨A[t], CA hA', (Option.some.inj e2).symm⟩
 ·intro m
  obtain ⟨x, hx, e⟩ := Cb.mp m
  obtain ⟨t, ht⟩ := Dm.mp hx
  obtain ⟨j', e1, e2⟩ := T.hold t x ht
  rw [e] at e2
  rw [I.inj j j' b h e2]
  exact B8 e1
theorem PTree.rnd {rows : bL} {hs : List (Option Int)} {ps : List Int} {ds : List (Int × Int)} {i : Nat} {R : List Nat} {A : List (Int × Nat)} (T : PTree rows hs ps ds i R A) : R.Nodup := by
 rw [Co, CY]
 intro a b ha hb hab e
 have tl := T.len
 obtain ⟨t, rfl⟩ : ∃ t, b = t + 1 := ⟨b - 1, by omega⟩
 obtain ⟨j, e1, e2⟩ := T.hold t _ (B3 (show t < A.length by omega))
 rw [B3 hb] at e1
 have e1 := Option.some.inj e1
 cases a with
 | zero =>
  have r := T.root
  rw [B3 ha] at r
  have r := Option.some.inj r
  have : hA hs i = some A[t].1 := by rw [<- r, e, e1]; exact e2
  rw [T.free] at this
  cases this
 | succ a =>
  obtain ⟨j2, f1, f2⟩ := T.hold a _ (B3 (show a < A.length by omega))
  rw [B3 ha] at f1
  have f1 := Option.some.inj f1
  have ej : j2 = j := by rw [<- f1, <- e1, e]
  rw [ej, e2] at f2
  have f2 := Option.some.inj f2
  have n1 := T.nd
  rw [Co, CY] at n1
  exact n1 a t (by rw [B4]; omega) (by rw [B4]; omega) (by omega) (by rw [C2, C2]; exact f2.symm)
structure Raised (R : List Nat) (A : List (Int × Nat)) (g : Int) (ps : List Int) (ds : List (Int × Int)) (ps' : List Int) (ds' : List (Int × Int)) : Prop where
 lp : ps'.length = ps.length
 pr : ∀ j, pA ps' j = pA ps j + if j ∈ R then g else 0
 ky : ds'.map (·.1) = ds.map (·.1)
 nn : (∀ x ∈ ds, 0 <= x.2) -> ∀ x ∈ ds', 0 <= x.2
 dr : ∀ b, du ds' b = du ds b + if b ∈ A.map (·.1) then g else 0
theorem vh {rows : bL} {hs : List (Option Int)} {ps ps' : List Int} {ds ds' : List (Int × Int)} {i : Nat} {R : List Nat} {A : List (Int × Nat)} {g : Int} (I : PInv rows hs ps ds) (T : PTree rows hs ps ds i R A) (g0 : 0 <= g)
  (hmin : ∀ q ∈ R, ∀ x ∈ rA rows q, x.1 ∉ A.map (·.1) -> g <= x.2 + du ds x.1 - pA ps q) (W : Raised R A g ps ds ps' ds') : PInv rows hs ps' ds' /\ PTree rows hs ps' ds' i R A := by
 have tg : ∀ j b, (j ∈ R <-> b ∈ A.map (·.1)) -> rj rows ps ds j b -> rj rows ps' ds' j b := fun j b e ⟨c, h1, h2⟩ => ⟨c, h1, by
  rw [W.pr, W.dr]
  by_cases z : j ∈ R
  ·rw [if_pos z, if_pos (e.mp z)]; omega
  ·rw [if_neg z, if_neg fun y => z (e.mpr y)]; omega⟩
 refine ⟨⟨I.lh, by rw [W.lp]; exact I.lp, fun j b h => tg j b (T.iff I h) (I.tight j b h), I.inj, fun j x hx => ?_, W.nn I.dnn, by rw [W.ky]; exact I.dnd, fun x hx => ?_⟩, ⟨T.root, T.free, T.len, T.hold, fun t x hx => ⟨(T.ask t x hx).1, tg _ _ ?_ (T.ask t x hx).2⟩, T.nd, T.lt, fun x hx => by rw [W.ky]; exact T.keys x hx⟩⟩
 ·rw [W.pr, W.dr]
  have f := I.feas j x hx
  by_cases z : j ∈ R
  ·rw [if_pos z]
   by_cases y : x.1 ∈ A.map (·.1)
   ·rw [if_pos y]; omega
   ·rw [if_neg y]
    have := hmin j z x hx y
    omega
  ·rw [if_neg z]
   split <;> omega
 ·have : x.1 ∈ ds.map (·.1) := by rw [<- W.ky]; exact Cb.mpr ⟨x, hx, rfl⟩
  obtain ⟨y, hy, e⟩ := Cb.mp this
  rw [<- e]
  exact I.held y hy
 ·obtain ⟨u, _, hu⟩ := (T.ask t x hx).1
  exact ⟨fun _ => Cb.mpr ⟨x, B8 hx, rfl⟩, fun _ => B8 hu⟩
theorem sY {rows : bL} {hs : List (Option Int)} {ps : List Int} {ds ds' : List (Int × Int)} {i h q : Nat} {b : Int} {R : List Nat} {A : List (Int × Nat)} (I : PInv rows hs ps ds) (T : PTree rows hs ps ds i R A) (hq : q ∈ R) (hb : b ∉ A.map (·.1)) (tg : rj rows ps ds q b) (hh : hA hs h = some b)
  (e : ds' = if b ∈ ds.map (·.1) then ds else ds ++ [(b, 0)]) : PInv rows hs ps ds' /\ PTree rows hs ps ds' i (R ++ [h]) (A ++ [(b, q)]) := by
 have ed : ∀ c, du ds' c = du ds c := fun c => by
  rw [e]
  split
  ·rfl
  ·rename_i n
   unfold du aN
   rw [List.find?_append]
   cases z : ds.find? fun x => x.1 == c with
   | some x => rfl
   | none =>
    rw [Option.none_or, List.find?_singleton]
    split <;> rfl
 have ek : ∀ c, c ∈ ds.map (·.1) -> c ∈ ds'.map (·.1) := fun c hc => by
  rw [e]
  split
  ·exact hc
  ·rw [Cf]; exact Cr _ hc
 have eb : b ∈ ds'.map (·.1) := by
  rw [e]
  split
  ·assumption
  ·rw [Cf]; exact CF _ (by simp)
 have tg' : ∀ j c, rj rows ps ds j c -> rj rows ps ds' j c := fun j c ⟨x, h1, h2⟩ => ⟨x, h1, by rw [ed]; exact h2⟩
 have em : ∀ x ∈ ds', x ∈ ds \/ x = (b, 0) := fun x hx => by
  rw [e] at hx
  split at hx
  ·exact .inl hx
  ·rcases Cw.mp hx with z | z
   ·exact .inl z
   ·exact .inr (Cg.mp z)
 have tl := T.len
 obtain ⟨uq, hu⟩ := Dm.mp hq
 have huq := (B6.mp hu).1
 refine ⟨⟨I.lh, I.lp, fun j c hc => tg' j c (I.tight j c hc), I.inj, fun j x hx => by rw [ed]; exact I.feas j x hx, fun x hx => ?_, ?_, fun x hx => ?_⟩, ⟨?_, T.free, by rw [Cd, Cd, tl]; rfl, fun t x hx => ?_, fun t x hx => ?_, ?_, fun j hj => ?_, fun x hx => ?_⟩⟩
 ·rcases em x hx with z | z
  ·exact I.dnn x z
  ·rw [z]; exact Int.le_refl _
 ·rw [e]
  split
  ·exact I.dnd
  ·rename_i n
   rw [Cf]
   exact DE.mpr ⟨I.dnd, by simp, fun x hx y hy z => by rw [List.map_singleton, Cg] at hy; rw [z, hy] at hx; exact n hx⟩
 ·rcases em x hx with z | z
  ·exact I.held x z
  ·rw [z]; exact ⟨h, hh⟩
 ·rw [CC (by omega)]; exact T.root
 ·by_cases z : t < A.length
  ·rw [CC z] at hx
   obtain ⟨j, e1, e2⟩ := T.hold t x hx
   exact ⟨j, by rw [CC (by omega)]; exact e1, e2⟩
  ·have ht := (B6.mp hx).1
   rw [Cd, Cn] at ht
   have et : t = A.length := by omega
   subst et
   rw [CI (Ca _), Dv] at hx
   cases hx
   exact ⟨h, by rw [CI (by omega), show A.length + 1 - R.length = 0 by omega]; rfl, hh⟩
 ·by_cases z : t < A.length
  ·rw [CC z] at hx
   obtain ⟨⟨u, ul, hu'⟩, tgx⟩ := T.ask t x hx
   exact ⟨⟨u, ul, by rw [CC (by omega)]; exact hu'⟩, tg' _ _ tgx⟩
  ·have ht := (B6.mp hx).1
   rw [Cd, Cn] at ht
   have et : t = A.length := by omega
   subst et
   rw [CI (Ca _), Dv] at hx
   cases hx
   exact ⟨⟨uq, by omega, by rw [CC huq]; exact hu⟩, tg' _ _ tg⟩
 ·rw [Cf]
  exact DE.mpr ⟨T.nd, by simp, fun x hx y hy z => by rw [List.map_singleton, Cg] at hy; rw [z, hy] at hx; exact hb hx⟩
 ·rcases Cw.mp hj with z | z
  ·exact T.lt j z
  ·rw [Cg.mp z, <- I.lh]; exact vg hh
 ·rcases Cw.mp hx with z | z
  ·exact ek _ (T.keys x z)
  ·rw [Cg.mp z]; exact eb
theorem qo {rows : bL} {hs : List (Option Int)} {ps : List Int} {ds : List (Int × Int)} {i : Nat} {R : List Nat} {A : List (Int × Nat)} {rep : List Int} (T : PTree rows hs ps ds i R A) (rl : rep.length = rows.length) (rn : rep.Nodup) (rin : ∀ (j : Nat) b, rep[j]? = some b -> b ∈ aw (rA rows j)) :
  ∃ q ∈ R, ∃ x ∈ rA rows q, x.1 ∉ A.map (·.1) := by
 refine Decidable.byContradiction fun n => ?_
 have all : ∀ q ∈ R, ∀ x ∈ rA rows q, x.1 ∈ A.map (·.1) := fun q hq x hx => Decidable.byContradiction fun z => n ⟨q, hq, x, hx, z⟩
 have nd : (R.map fun j => rep.getD j 0).Nodup := by
  have rnd := T.rnd
  rw [Co, Df]
  rw [Co] at rnd
  refine List.Pairwise.imp_of_mem ?_ rnd
  intro a b ha hb hne e
  have la : a < rep.length := by rw [rl]; exact T.lt a ha
  have lb : b < rep.length := by rw [rl]; exact T.lt b hb
  rw [aD la, aD lb] at e
  exact hne ((Dq rn).mp e)
 have := nd.length_le_of_subset (l₂ := A.map (·.1)) fun b hb => by
  obtain ⟨j, hj, e⟩ := Cb.mp hb
  have lj : j < rep.length := by rw [rl]; exact T.lt j hj
  rw [aD lj] at e
  obtain ⟨x, hx, ex⟩ := Cb.mp (rin j rep[j] (B3 lj))
  rw [<- e, <- ex]
  exact all j hj x hx
 rw [B4, B4] at this
 have := T.len
 omega
structure POn (rows : bL) (hs0 hs : List (Option Int)) (ps : List Int) (ds : List (Int × Int)) (i : Nat) (R : List Nat) (A : List (Int × Nat)) (b0 b : Int) (t : Nat) : Prop where
 lh : hs.length = rows.length
 tight : ∀ j c, hA hs j = some c -> rj rows ps ds j c
 inj : ∀ j k c, hA hs j = some c -> hA hs k = some c -> j = k
 out : ∀ j, hA hs j ≠ some b
 has : ∀ c, ((∃ j, hA hs j = some c) \/ c = b) <-> ((∃ j, hA hs0 j = some c) \/ c = b0)
 dom : ∀ j, hA hs j = none <-> hA hs0 j = none
 at' : ∃ q, A[t]? = some (b, q)
 low : ∀ u, u <= t -> ∀ j, R[u]? = some j -> hA hs j = hA hs0 j
structure PTop (rows : bL) (hs : List (Option Int)) (ps : List Int) (ds : List (Int × Int)) (i : Nat) (R : List Nat) (A : List (Int × Nat)) : Prop where
 root : R[0]? = some i
 free : hA hs i = none
 rnd : R.Nodup
 lt : ∀ j ∈ R, j < rows.length
 hold : ∀ (t : Nat) x, A[t]? = some x -> t + 1 < A.length -> ∃ j, R[t + 1]? = some j /\ hA hs j = some x.1
 ask : ∀ (t : Nat) x, A[t]? = some x -> (∃ u, u <= t /\ R[u]? = some x.2) /\ rj rows ps ds x.2 x.1
 len : R.length = A.length
theorem cU {hs : List (Option Int)} {q j : Nat} {v : Option Int} (h : q < hs.length) : hA (hs.set q v) j = if j = q then v else hA hs j := by
 unfold hA
 rw [B5, B5, List.getElem?_set]
 by_cases z : q = j
 ·subst z
  rw [if_pos rfl, if_pos h, if_pos rfl]; rfl
 ·rw [if_neg z, if_neg fun y => z y.symm]
theorem tj {rows : bL} {hs0 hs : List (Option Int)} {ps : List Int} {ds : List (Int × Int)} {i : Nat} {R : List Nat} {A : List (Int × Nat)} {b0 b : Int} {t q : Nat} (T : PTop rows hs0 ps ds i R A) (O : POn rows hs0 hs ps ds i R A b0 b t) (hq : A[t]? = some (b, q)) :
  q < hs.length /\ (match hA hs q with
   | some c => ∃ u, u < t /\ POn rows hs0 (hs.set q (some b)) ps ds i R A b0 c u
   | none => q = i /\ (∀ j c, hA (hs.set q (some b)) j = some c -> rj rows ps ds j c) /\ (∀ j k c, hA (hs.set q (some b)) j = some c -> hA (hs.set q (some b)) k = some c -> j = k) /\
     (∀ c, (∃ j, hA (hs.set q (some b)) j = some c) <-> ((∃ j, hA hs0 j = some c) \/ c = b0)) /\ ∀ j, hA (hs.set q (some b)) j = none <-> (hA hs0 j = none /\ j ≠ i)) := by
 obtain ⟨⟨u, ul, hu⟩, tg⟩ := T.ask t _ hq
 have hqR := B8 hu
 have ql : q < hs.length := by rw [O.lh]; exact T.lt q hqR
 have eq0 : hA hs q = hA hs0 q := O.low u ul q hu
 have tight' : ∀ j c, hA (hs.set q (some b)) j = some c -> rj rows ps ds j c := fun j c h => by
  rw [cU ql] at h
  split at h
  ·rename_i z; cases h; rw [z]; exact tg
  ·exact O.tight j c h
 have inj' : ∀ j k c, hA (hs.set q (some b)) j = some c -> hA (hs.set q (some b)) k = some c -> j = k := fun j k c h1 h2 => by
  rw [cU ql] at h1 h2
  split at h1
  ·rename_i z1
   split at h2
   ·rename_i z2; rw [z1, z2]
   ·cases h1; exact absurd h2 (O.out k)
  ·split at h2
   ·cases h2; exact absurd h1 (O.out j)
   ·exact O.inj j k c h1 h2
 refine ⟨ql, ?_⟩
 cases e : hA hs q with
 | none =>
  rw [e] at eq0
  have hqi : q = i := by
   cases u with
   | zero => rw [T.root] at hu; exact (Option.some.inj hu).symm
   | succ u =>
    have hl := (B6.mp hu).1
    have tl := T.len
    have htl := (B6.mp hq).1
    obtain ⟨j, e1, e2⟩ := T.hold u _ (B3 (show u < A.length by omega)) (by omega)
    rw [hu] at e1
    cases e1
    rw [<- eq0] at e2
    cases e2
  refine ⟨hqi, tight', inj', fun c => ?_, fun j => ?_⟩
  ·rw [<- O.has c]
   constructor
   ·rintro ⟨j, h⟩
    rw [cU ql] at h
    split at h
    ·cases h; exact .inr rfl
    ·exact .inl ⟨j, h⟩
   ·rintro (⟨j, h⟩ | h)
    ·have nj : j ≠ q := fun z => by rw [z, e] at h; cases h
     exact ⟨j, by rw [cU ql, if_neg nj]; exact h⟩
    ·exact ⟨q, by rw [cU ql, if_pos rfl, h]⟩
  ·rw [cU ql]
   split
   ·rename_i z; constructor
    ·intro h; cases h
    ·intro h; exact absurd (z.trans hqi) h.2
   ·rename_i z
    rw [O.dom j]
    exact ⟨fun h => ⟨h, fun y => z (y.trans hqi.symm)⟩, fun h => h.1⟩
 | some c =>
  rw [e] at eq0
  have u0 : u ≠ 0 := fun z => by
   rw [z, T.root] at hu
   have ei : i = q := Option.some.inj hu
   rw [<- ei, T.free] at eq0
   cases eq0
  obtain ⟨u', rfl⟩ : ∃ u', u = u' + 1 := ⟨u - 1, by omega⟩
  have hl := (B6.mp hu).1
  have tl := T.len
  obtain ⟨j, e1, e2⟩ := T.hold u' _ (B3 (show u' < A.length by omega)) (by omega)
  rw [hu] at e1
  cases e1
  rw [<- eq0] at e2
  have ec := Option.some.inj e2
  refine ⟨u', by omega, ?_⟩
  refine { lh := by rw [DL]; exact O.lh, tight := tight', inj := inj', out := fun j h => ?_, has := fun x => ?_, dom := fun j => ?_, at' := ⟨A[u'].2, by rw [B3 (show u' < A.length by omega), ec]⟩, low := fun w hw j hj => ?_ }
  ·rw [cU ql] at h
   split at h
   ·have hb : b = c := Option.some.inj h
    exact O.out q (by rw [hb]; exact e)
   ·rename_i z
    exact z (O.inj j q c h e)
  ·rw [<- O.has x]
   constructor
   ·rintro (⟨j, h⟩ | h)
    ·rw [cU ql] at h
     split at h
     ·cases h; exact .inr rfl
     ·exact .inl ⟨j, h⟩
    ·rw [h]; exact .inl ⟨q, e⟩
   ·rintro (⟨j, h⟩ | h)
    ·by_cases z : j = q
     ·rw [z, e] at h; exact .inr (Option.some.inj h).symm
     ·exact .inl ⟨j, by rw [cU ql, if_neg z]; exact h⟩
    ·exact .inl ⟨q, by rw [cU ql, if_pos rfl, h]⟩
  ·rw [cU ql]
   split
   ·rename_i z
    rw [z, <- eq0]
    constructor
    ·intro h; cases h
    ·intro h; cases h
   ·exact O.dom j
  ·have nj : j ≠ q := fun z => by
    have hw' := (B6.mp hj).1
    have x1 : R[w] = R[u' + 1] := by
     have y1 := (B6.mp hj).2
     have y2 := (B6.mp hu).2
     rw [y1, y2, z]
    have := (Dq T.rnd).mp x1
    omega
   rw [cU ql, if_neg nj]
   exact O.low w (by omega) j hj
theorem vi {hs : List Int} {k d : Int} (nd : hs.Nodup) (h : k ∈ hs) : (hs.map fun b => if b = k then d else 0).sum = d := by
 induction hs with
 | nil => cases h
 | cons a r ih =>
  rw [C0] at nd
  rw [Ce, List.sum_cons]
  by_cases z : a = k
  ·subst z
   rw [if_pos rfl]
   have : (r.map fun b => if b = a then d else 0).sum = 0 := by
    have e : r.map (fun b => if b = a then d else 0) = r.map fun _ => (0 : Int) := Cs fun b hb => if_neg fun (y : b = a) => nd.1 (by rw [<- y]; exact hb)
    rw [e]
    clear ih e nd h
    induction r with
    | nil => rfl
    | cons x r ih => rw [Ce, List.sum_cons, ih]; rfl
   rw [this]; omega
  ·rw [if_neg z]
   rcases Cm.mp h with y | y
   ·exact absurd y.symm z
   ·rw [ih nd.2 y]; omega
theorem vj {hs : List Int} (nd : hs.Nodup) : ∀ {ds : List (Int × Int)}, (ds.map (·.1)).Nodup -> (∀ x ∈ ds, x.1 ∈ hs) -> (hs.map (du ds)).sum = (ds.map (·.2)).sum := by
 intro ds
 induction ds with
 | nil =>
  intro _ h
  clear nd h
  induction hs with
  | nil => rfl
  | cons a r ih => rw [Ce, List.sum_cons, ih]; rfl
 | cons x ds ih =>
  intro n1 h
  rw [Ce, C0] at n1
  rw [Ce, List.sum_cons, <- ih n1.2 fun y hy => h y (Ct _ hy)]
  have e : hs.map (du (x :: ds)) = hs.map fun b => (if b = x.1 then x.2 else 0) + du ds b := by
   apply Cs
   intro b _
   unfold du aN
   rw [CS]
   by_cases z : b = x.1
   ·have z1 : (x.1 == b) = true := by simp [z]
    have z2 : aN ds b = none := cE.mpr (by rw [z]; exact n1.1)
    unfold aN at z2
    rw [z1, if_pos z, z2]
    show x.2 = x.2 + 0
    omega
   ·have z1 : (x.1 == b) = false := beq_false_of_ne fun y => z y.symm
    rw [z1, if_neg z, Int.zero_add]
  rw [e]
  have s : ∀ (l : List Int) (f g : Int -> Int), (l.map fun b => f b + g b).sum = (l.map f).sum + (l.map g).sum := by
   intro l f g
   induction l with
   | nil => rfl
   | cons a r ih => rw [Ce, Ce, Ce, List.sum_cons, List.sum_cons, List.sum_cons, ih]; omega
  rw [s, vi nd (h x CK)]
section
variable {X : Cx}
def BX (t t' : TS) : TS := fun D σ H => t D σ H \/ t' D σ H
theorem Af {st : Stmt} {t t' : TS} (h : PS X st t) (h' : PS X st t') : PS X st (BX t t') := fun pins s σ H D I q => by
 rcases q with q | q
 ·exact h pins s σ H D I q
 ·exact h' pins s σ H D I q
def Ag (K : PySem.W.Frag) : V -> V -> Hp -> VK -> Prop := fun x y H Q => ∃ p xs i v, x = .ref p /\ y = .int i /\ 0 <= i /\ SqL K H p xs /\ lE xs i = some v /\ Q v H
theorem vk (K : PySem.W.Frag) (hK : X.K = K := by rfl) : zv X (Ag K) := by
 subst hK
 intro pins s σ H x y v u Q I rx ry h
 obtain ⟨p, xs, i, z, rfl, rfl, h0, hq, he, q⟩ := h
 cases rx
 obtain ⟨t, rfl⟩ := ry
 obtain ⟨its, r, pl, hz⟩ := I.list hq
 obtain ⟨j, h1, h2, h3, h4, h5⟩ := mm he
 obtain ⟨w, ew, rw'⟩ := r.get h2
 have hl := r.length
 have hn := ir
 have hj : i.toNat = j := by
  rw [seqIndex_of h0 h5] at h1
  exact Option.some.inj h1
 exact PySem.wpAny_getItem_list pl.isList h0 (by omega) (by rw [hj]; simpa using ew) ⟨z, H, I, rw', q⟩
def xh : V -> List V -> Hp -> VK -> Prop := fun x vs H Q => ∃ (l : Addr) (xs : List V) (c : V) (j : Nat) (y : V), x = .ref l /\ vs = [c] /\ cA c = true /\ xs.all cA = true /\ H l = some (.lst xs) /\ xs[j]? = some y /\ mv y c = true /\
 (∀ m z, m < j -> xs[m]? = some z -> mv z c = false) /\ xs.length < 100000 /\ Q (.int ((j : Nat) : Int)) H
theorem tq : zN X "list.index" xh := by
 intro pins s σ H x vs v us Q I rx rv h
 obtain ⟨l, xs, c, j, y, rfl, rfl, fc, fx, hH, hj, hy, hno, hz, q⟩ := h
 cases rx
 obtain ⟨u, e1, ru⟩ := fo rv
 subst e1
 obtain ⟨z, its, n, r, hl, e⟩ := I.lstM hH
 have fxs : ∀ i x, xs[i]? = some x -> cA x = true := fun i x hi => C5.mp fx x (B8 hi)
 have at' : ∀ {i : Nat} (hi : i < its.toArray.size), ∃ x, xs[i]? = some x /\ nX c its.toArray[i] = mv x c := fun {i} hi => by
  have hi' : i < its.length := by simpa using hi
  obtain ⟨x, hx, rx⟩ := cK r (B3 hi')
  refine ⟨x, hx, ?_⟩
  have : its.toArray[i] = its[i] := by simp
  rw [this]
  exact pG rx (fxs i x hx)
 have hjl := (B6.mp hj).1
 have hji : j < its.toArray.size := by rw [Ci]; omega
 refine call_meets PySem.F.slot_list_index ⟨_, e, rfl⟩ PySem.F.entry_list_index (PySem.F.args_list_index_2 _ _) (MeetsSeq.list_index l its.toArray n u (nX c) (fun y hy prog w A E s Q h => ?_) j hji (by omega) ?_ fun m hm hlt => ?_) ⟨e, ?_⟩
 ·exact fz (A := A) (s := s) ru fc r fx y (by simpa using hy) prog w E Q h
 ·obtain ⟨x, hx, ex⟩ := at' hji
  rw [hj] at hx
  cases hx
  rw [ex]; exact hy
 ·obtain ⟨x, hx, ex⟩ := at' hm
  rw [ex]
  exact hno m x hlt hx
 ·exact ⟨.int ((j : Nat) : Int), H, I.tok _, ⟨_, rfl⟩, q⟩
def xi : V -> List V -> Hp -> VK -> Prop := fun x vs H Q => ∃ (d : Addr) (kvs : List (bq × V)) (k : bq) (v : V), x = .ref d /\ vs = [kV k, v] /\ H d = some (.dK kvs) /\ kvs.length < sizeLine /\
 (∀ y, bf kvs k = some y -> Q y H) /\ (bf kvs k = none -> Q v (ay H d (.dK (bU kvs k v))))
theorem k5 : Az X "dict.setdefault" xi := by
 intro pins s σ H x vs v us Q I rx rv h
 obtain ⟨d, kvs, k, y, rfl, rfl, hd, hl, q1, q2⟩ := h
 cases rx
 cases rv with
 | cons rk rv =>
 cases rv with
 | cons ry rv =>
 cases rv
 rename_i u1 u2
 obtain ⟨z, hm, ws, rel, dd⟩ := jN I.hok hd
 refine call_meetsIn PySem.F.slot_dict_setdefault dd.typeIs PySem.F.entry_dict_setdefault (PySem.F.args_dict_setdefault_3 _ _ _) (kt_meets_setdefault (aG X.prog X.w) d (iU rk) hm u2) ⟨ws, dd, by rw [<- rel.length]; exact z, fun v' hv' => ?_, fun hn h' dd' hs => ?_⟩
 ·have rr := rel.val k
  rw [hv'] at rr
  cases e : bf kvs k with
  | none => rw [e] at rr; cases rr
  | some w' =>
   rw [e] at rr
   exact ⟨w', H, I.tok _, rr, q1 w' e⟩
 ·have e : bf kvs k = none := by
   have rr := rel.val k
   rw [hn] at rr
   cases e : bf kvs k with
   | none => rfl
   | some w' => rw [e] at rr; cases rr
  have he : ∃ q, h'.get? d = some q := let ⟨q, _, _, hq, _⟩ := dd'; ⟨q, hq⟩
  have hl' : (bU kvs k y).length <= sizeLine := by have := dE kvs k y; omega
  exact ⟨y, _, mB I (by rw [hd]; exact True.intro) hs he (pK hl' hm (rel.put k ry) dd'), ry, q2 e⟩
def xY (P : Program) (w : World) (φ : Heap -> Prop) (d : Addr) (kvs : List (bq × V)) : Prop := ∀ H h, φ h -> ObjOk P w H h d (.dK kvs)
def yZ (B : (Heap -> Prop) -> Addr -> List (bq × V) -> Prop) (tl : TE) : TI := fun σ H R => tl σ H fun x H1 => ∃ d kvs, x = .ref d /\ H1 d = some (.dK kvs) /\ ∀ φ, B φ d kvs -> R (xQ φ d kvs) (ay H1 d (.ext φ))
theorem vm {tg l : Expr} {tl : TE} (hl : PE X l tl) : PI X tg l (yZ (xY X.prog X.w) tl) := by
 intro pins s σ H R I h
 refine br (hl pins s σ H _ I h) fun v s1 hq__ => ?_
 obtain ⟨x, H1, I1, r1, q1⟩ := hq__
 obtain ⟨d, kvs, e, hd, q⟩ := q1
 subst e
 cases r1
 obtain ⟨hz, hm, vs, r, dd⟩ := jN I1.hok hd
 obtain ⟨ep, da⟩ := dd.dictAt
 have I2 : Inv X pins σ (ay H1 d (.ext (DW X.prog X.w d vs ep))) s1 := I1.view (by rw [hd]; trivial) (DW.ok da)
 refine wpAny_pyIter_dict hm da ?_
 refine ⟨s1.heap.objs.size, [s1.heap.objs.size], _, _, _, rfl, I2.kept (t' := s1.toks) fun b o e => Heap.get?_push_of_some _ e, lK d _ r, ⟨_, Heap.get?_push_size _ rfl, rfl, rfl⟩, fun b hb => ?_, q _ fun H h x => ⟨hz, hm, vs, r, x.dictOf⟩⟩
 have e : b = s1.heap.objs.size := by simpa using hb
 subst e
 exact I2.fpOk (Ca _) (I2.hok.fresh (Ca _))
def Ah (B : (Heap -> Prop) -> Addr -> List (bq × V) -> Prop) (D : Ends) : Ends := { D with nx := fun σ' H' => ∃ d kvs φ, B φ d kvs /\ H' d = some (.ext φ) /\ D.nx σ' (ay H' d (.dK kvs)) }
def Ai (B : (Heap -> Prop) -> Addr -> List (bq × V) -> Prop) (t : TS) : TS := fun D σ H => t (Ah B D) σ H
theorem xj {st : Stmt} {t : TS} (h : PS X st t) : PS X st (Ai (xY X.prog X.w) t) := fun pins s σ H D I q =>
 br (h pins s σ H _ I q) fun f s1 z => by
  cases f with
  | next =>
   obtain ⟨σ1, H1, I1, d, kvs, φ, b, e, n⟩ := z
   exact ⟨σ1, _, I1.view (by rw [e]; trivial) (b _ _ (I1.hok d _ e).1), n⟩
  | brk => exact z
  | cont => exact z
  | ret u => exact z
end
theorem vn {φ : Heap -> Prop} {d : Addr} {kvs : List (bq × V)} {g : TG} {tb : TS} {D : Ends} {σ : L2.St} {H : Hp} (Pv : Nat -> L2.St -> Hp -> Prop) (h0 : Pv 0 σ H) (hw : ∀ i σ H, i <= kvs.length -> Pv i σ H -> H d = some (.ext φ))
  (hs : ∀ i k v σ H, kvs[i]? = some (k, v) -> Pv i σ H -> g (kV k) σ H fun σ2 H2 => tb { D with nx := Pv (i + 1), ct := Pv (i + 1), bk := D.nx } σ2 H2) (hd : ∀ σ H, Pv kvs.length σ H -> D.nx σ H) :
  ∃ W : Nat -> Nat -> L2.St -> Hp -> Prop, (∃ m, W 0 m σ H) /\ ∀ i m σ H, W i m σ H ->
   ((xQ φ d kvs).stop i H /\ D.nx σ H) \/ ((xQ φ d kvs).go i H /\ ∃ N : L2.St -> Hp -> Prop, (∀ σ' H', N σ' H' -> ∃ m', m' < m /\ W (i + 1) m' σ' H') /\ ∀ v H', (xQ φ d kvs).yld i H v H' -> g v σ H' fun σ2 H2 => tb { D with nx := N, ct := N, bk := D.nx } σ2 H2) := by
 refine ⟨fun i m σ H => m = kvs.length - i /\ i <= kvs.length /\ Pv i σ H, ⟨kvs.length, by simp, Cz _, h0⟩, ?_⟩
 rintro i m σ H ⟨rfl, hi, p⟩
 by_cases hlt : i < kvs.length
 ·refine .inr ⟨⟨hw i σ H hi p, hlt⟩, Pv (i + 1), fun σ' H' p' => ⟨kvs.length - (i + 1), CU _ _ hlt, rfl, hlt, p'⟩, fun v H' y => ?_⟩
  obtain ⟨e3, k, v', e, e2⟩ := y
  subst e2 e3
  exact hs i k v' σ _ e p
 ·have e : i = kvs.length := Do hi (C8 hlt)
  subst e
  exact .inl ⟨⟨hw _ σ H hi p, Ca _⟩, hd σ H p⟩
def aE (ds : List (Int × Int)) : List (bq × V) := ds.map fun x => (Sum.inl x.1, V.int x.2)
theorem cQ (ds : List (Int × Int)) (b : Int) : bf (aE ds) (Sum.inl b) = (aN ds b).map V.int := by
 induction ds with
 | nil => rfl
 | cons x ds ih =>
  unfold bf aN aE at *
  rw [Ce, CS, CS]
  by_cases z : x.1 = b
  ·have z1 : (x.1 == b) = true := by simp [z]
   have z2 : decide ((Sum.inl x.1 : bq) = Sum.inl b) = true := by simp [z]
   simp only [z1, z2]
   rfl
  ·have z1 : (x.1 == b) = false := beq_false_of_ne z
   have z2 : decide ((Sum.inl x.1 : bq) = Sum.inl b) = false := by simp [z]
   simp only [z1, z2]
   exact ih
def g8 (ds : List (Int × Int)) (b d : Int) : List (Int × Int) := if b ∈ ds.map (·.1) then ds.map fun x => if x.1 = b then (b, d) else x else ds ++ [(b, d)]
theorem g9 (ds : List (Int × Int)) (b d : Int) : bU (aE ds) (Sum.inl b) (.int d) = aE (g8 ds b d) := by
 unfold bU g8
 have e : ((aE ds).any fun kv => decide (kv.1 = Sum.inl b)) = decide (b ∈ ds.map (·.1)) := by
  rw [DK, Ei, decide_eq_true_iff]
  unfold aE
  constructor
  ·rintro ⟨x, hx, e⟩
   obtain ⟨y, hy, rfl⟩ := Cb.mp hx
   have := Sum.inl.inj (of_decide_eq_true e)
   exact Cb.mpr ⟨y, hy, this⟩
  ·intro h
   obtain ⟨y, hy, e⟩ := Cb.mp h
   exact ⟨(Sum.inl y.1, V.int y.2), Cb.mpr ⟨y, hy, rfl⟩, by simp [e]⟩
 rw [e]
 by_cases z : b ∈ ds.map (·.1)
 ·rw [if_pos (by simpa using z), if_pos z]
  unfold aE
  rw [Cu, Cu]
  apply Cs
  intro x _
  show (if (Sum.inl x.1 : bq) = Sum.inl b then _ else _) = _
  by_cases y : x.1 = b
  ·rw [if_pos (by rw [y])]
   show (Sum.inl x.1, V.int d) = (fun x : Int × Int => ((Sum.inl x.1 : bq), V.int x.2)) (if x.1 = b then (b, d) else x)
   rw [if_pos y, y]
  ·rw [if_neg (fun h => y (Sum.inl.inj h))]
   show _ = (fun x : Int × Int => ((Sum.inl x.1 : bq), V.int x.2)) (if x.1 = b then (b, d) else x)
   rw [if_neg y]
 ·rw [if_neg (by simpa using z), if_neg z]
  unfold aE
  rw [Cf]; rfl
theorem lW {ds : List (Int × Int)} {b d : Int} (h : b ∈ ds.map (·.1)) : (g8 ds b d).map (·.1) = ds.map (·.1) := by
 unfold g8
 rw [if_pos h, Cu]
 apply Cs
 intro x _
 show (if x.1 = b then (b, d) else x).1 = x.1
 split
 ·rename_i e; exact e.symm
 ·rfl
theorem tD (ds : List (Int × Int)) (b d c : Int) : aN (g8 ds b d) c = if c = b then some d else aN ds c := by
 have h := jL (aE ds) (Sum.inl b : bq) (Sum.inl c) (.int d)
 rw [g9, cQ, cQ] at h
 by_cases z : c = b
 ·rw [if_pos (by rw [z])] at h
  rw [if_pos z]
  obtain ⟨v, e1, e2⟩ := Cc.mp h
  cases e2
  exact e1
 ·rw [if_neg (fun y => z (Sum.inl.inj y))] at h
  rw [if_neg z]
  cases e : aN ds c with
  | none => rw [e] at h; exact Option.map_eq_none_iff.mp h
  | some v =>
   rw [e] at h
   obtain ⟨v', e1, e2⟩ := Cc.mp h
   cases e2
   exact e1
theorem vo {ds : List (Int × Int)} {b d : Int} {x : Int × Int} (h : x ∈ g8 ds b d) : x ∈ ds \/ x = (b, d) := by
 unfold g8 at h
 split at h
 ·obtain ⟨y, hy, e⟩ := Cb.mp h
  split at e
  ·exact .inr e.symm
  ·rw [<- e]; exact .inl hy
 ·rcases Cw.mp h with z | z
  ·exact .inl z
  ·exact .inr (Cg.mp z)
theorem oD {ds : List (Int × Int)} {b : Int} (h : b ∈ ds.map (·.1)) : aN ds b = some (du ds b) := by
 unfold du
 cases e : aN ds b with
 | none => exact absurd h (cE.mp e)
 | some d => rfl
structure RaD (Ks : List Int) (g : Int) (ds ds' : List (Int × Int)) : Prop where
 ky : ds'.map (·.1) = ds.map (·.1)
 nn : (∀ x ∈ ds, 0 <= x.2) -> ∀ x ∈ ds', 0 <= x.2
 dr : ∀ b, du ds' b = du ds b + if b ∈ Ks then g else 0
theorem RaD.start {g : Int} {ds : List (Int × Int)} : RaD [] g ds ds := ⟨rfl, fun h => h, fun b => by simp⟩
theorem RaD.step {Ks : List Int} {g b : Int} {ds ds' : List (Int × Int)} (r : RaD Ks g ds ds') (g0 : 0 <= g) (hb : b ∉ Ks) (hk : b ∈ ds.map (·.1)) : RaD (Ks ++ [b]) g ds (g8 ds' b (du ds' b + g)) := by
 have hk' : b ∈ ds'.map (·.1) := by rw [r.ky]; exact hk
 refine ⟨by rw [lW hk', r.ky], fun h x hx => ?_, fun c => ?_⟩
 ·rcases vo hx with z | z
  ·exact r.nn h x z
  ·rw [z]
   have := Ae (r.nn h) b
   show 0 <= du ds' b + g
   omega
 ·have e : du (g8 ds' b (du ds' b + g)) c = if c = b then du ds' b + g else du ds' c := by
   show (aN (g8 ds' b (du ds' b + g)) c).getD 0 = _
   rw [tD]
   split <;> rfl
  rw [e, r.dr c]
  by_cases z : c = b
  ·subst z
   rw [if_pos rfl, r.dr, if_neg hb, if_pos (by simp)]
   omega
  ·rw [if_neg z]
   have : c ∈ Ks ++ [b] <-> c ∈ Ks := by simp [z]
   by_cases y : c ∈ Ks
   ·rw [if_pos y, if_pos (this.mpr y)]
   ·rw [if_neg y, if_neg fun h => y (this.mp h)]
structure RaP (R : List Nat) (g : Int) (ps ps' : List Int) : Prop where
 lp : ps'.length = ps.length
 pr : ∀ j, pA ps' j = pA ps j + if j ∈ R then g else 0
theorem RaP.start {g : Int} {ps : List Int} : RaP [] g ps ps := ⟨rfl, fun b => by simp⟩
theorem y0 {ps : List Int} {q j : Nat} {v : Int} (h : q < ps.length) : pA (ps.set q v) j = if j = q then v else pA ps j := by
 unfold pA
 rw [B5, B5, List.getElem?_set]
 by_cases z : q = j
 ·subst z
  rw [if_pos rfl, if_pos h, if_pos rfl]; rfl
 ·rw [if_neg z, if_neg fun y => z y.symm]
theorem RaP.step {R : List Nat} {g : Int} {q : Nat} {ps ps' : List Int} (r : RaP R g ps ps') (hq : q ∉ R) (hl : q < ps.length) : RaP (R ++ [q]) g ps (ps'.set q (pA ps' q + g)) := by
 refine ⟨by rw [DL, r.lp], fun c => ?_⟩
 rw [y0 (by rw [r.lp]; exact hl), r.pr c]
 by_cases z : c = q
 ·subst z
  rw [if_pos rfl, r.pr, if_neg hq, if_pos (by simp)]
  omega
 ·rw [if_neg z]
  have : c ∈ R ++ [q] <-> c ∈ R := by simp [z]
  by_cases y : c ∈ R
  ·rw [if_pos y, if_pos (this.mpr y)]
  ·rw [if_neg y, if_neg fun h => y (this.mp h)]
theorem tE {R : List Nat} {A : List (Int × Nat)} {g : Int} {ps ps' : List Int} {ds ds' : List (Int × Int)} (p : RaP R g ps ps') (d : RaD (A.map (·.1)) g ds ds') : Raised R A g ps ds ps' ds' := ⟨p.lp, p.pr, d.ky, d.nn, d.dr⟩
theorem mT {H : Hp} {a : Addr} {o : HO} (h : H a = some o) : ay H a o = H := by
 funext b
 by_cases z : b = a
 ·rw [z, ab, h]
 ·rw [aj z]
theorem vp {H : Hp} {a b : Addr} {o u : HO} (h : a ≠ b) : ay (ay H b u) a o = ay (ay H a o) b u := by
 funext c
 by_cases z : c = a
 ·subst z; rw [ab, aj h, ab]
 ·rw [aj z]
  by_cases y : c = b
  ·subst y; rw [ab, ab]
  ·rw [aj y, aj y, aj z]
theorem c8 {α : Type} {l : List α} {i : Nat} {x : α} (h : l[i]? = some x) : l.take (i + 1) = l.take i ++ [x] := by
 rw [Dj, h]; rfl
theorem ke {α : Type} {l : List α} {i : Nat} {x : α} (nd : l.Nodup) (h : l[i]? = some x) : x ∉ l.take i := by
 intro m
 obtain ⟨j, hj, e⟩ := Ck.mp m
 have hi := (B6.mp h).1
 have ex := (B6.mp h).2
 rw [CO] at hj
 rw [DF] at e
 have := (Dq nd).mp (e.trans ex.symm)
 omega
def oE (ps : List Int) (ds : List (Int × Int)) (As : List Int) (q : Nat) (row : List (Int × Int)) : List (Int × Int × Nat) := (row.filter fun x => decide (x.1 ∉ As)).map fun x => (x.2 + du ds x.1 - pA ps q, x.1, q)
def vq (rows : bL) (ps : List Int) (ds : List (Int × Int)) (As : List Int) (R : List Nat) : List (Int × Int × Nat) := R.flatMap fun q => oE ps ds As q (rA rows q)
structure Near (L : List (Int × Int × Nat)) (f : Option (Int × Int × Nat)) : Prop where
 no : f = none -> L = []
 yes : ∀ t, f = some t -> t ∈ L /\ ∀ u ∈ L, t.1 <= u.1
theorem Near.start : Near [] none := ⟨fun _ => rfl, fun _ h => by cases h⟩
theorem Near.put {L : List (Int × Int × Nat)} {f : Option (Int × Int × Nat)} {u : Int × Int × Nat} (n : Near L f) (h : ∀ t, f = some t -> u.1 < t.1) : Near (L ++ [u]) (some u) := by
 refine ⟨fun h => (by cases h), fun t e => ?_⟩
 cases e
 refine ⟨by simp, fun v hv => ?_⟩
 rcases Cw.mp hv with z | z
 ·cases ef : f with
  | none => rw [n.no ef] at z; cases z
  | some t =>
   have := h t ef
   have := (n.yes t ef).2 v z
   omega
 ·rw [Cg.mp z]; exact Int.le_refl _
theorem Near.keep {L : List (Int × Int × Nat)} {t u : Int × Int × Nat} (n : Near L (some t)) (h : ¬ u.1 < t.1) : Near (L ++ [u]) (some t) := by
 refine ⟨fun h => (by cases h), fun t' e => ?_⟩
 cases e
 refine ⟨Cr _ (n.yes t rfl).1, fun v hv => ?_⟩
 rcases Cw.mp hv with z | z
 ·exact (n.yes t rfl).2 v z
 ·rw [Cg.mp z]; omega
theorem iK {ps : List Int} {ds : List (Int × Int)} {As : List Int} {q : Nat} {row : List (Int × Int)} {k : Nat} {x : Int × Int} (h : row[k]? = some x) :
  oE ps ds As q (row.take (k + 1)) = oE ps ds As q (row.take k) ++ if x.1 ∈ As then [] else [(x.2 + du ds x.1 - pA ps q, x.1, q)] := by
 unfold oE
 rw [c8 h, CT, Cf]
 congr 1
 by_cases z : x.1 ∈ As
 ·rw [if_pos z, C6 (by simpa using z)]; rfl
 ·rw [if_neg z, Dp (by simpa using z)]; rfl
theorem vt {rows : bL} {ps : List Int} {ds : List (Int × Int)} {As : List Int} {R : List Nat} {i q : Nat} (h : R[i]? = some q) : vq rows ps ds As (R.take (i + 1)) = vq rows ps ds As (R.take i) ++ oE ps ds As q (rA rows q) := by
 unfold vq
 rw [c8 h, List.flatMap_append]
 congr 1
 rw [List.flatMap_cons, List.flatMap_nil, Dh]
theorem mU {rows : bL} {ps : List Int} {ds : List (Int × Int)} {As : List Int} {R : List Nat} {u : Int × Int × Nat} : u ∈ vq rows ps ds As R <-> ∃ q ∈ R, ∃ x ∈ rA rows q, x.1 ∉ As /\ u = (x.2 + du ds x.1 - pA ps q, x.1, q) := by
 unfold vq oE
 rw [List.mem_flatMap]
 constructor
 ·rintro ⟨q, hq, h⟩
  obtain ⟨x, hx, e⟩ := Cb.mp h
  obtain ⟨h1, h2⟩ := CD.mp hx
  exact ⟨q, hq, x, h1, of_decide_eq_true h2, e.symm⟩
 ·rintro ⟨q, hq, x, hx, hn, e⟩
  exact ⟨q, hq, Cb.mpr ⟨x, CD.mpr ⟨hx, decide_eq_true hn⟩, e.symm⟩⟩
def rq (H0 H : Hp) (f : Option (Int × Int × Nat)) (v : V) : Prop := match f with
 | none => v = .non
 | some t => ∃ p, v = .ref p /\ H0 p = none /\ H p = some (.tup [.int t.1, .int t.2.1, .int (t.2.2 : Int)])
theorem xk (as : List (Int × Int)) (b : Int) : (bf (aE as) (Sum.inl b)).isSome = decide (b ∈ as.map (·.1)) := by
 rw [cQ, Option.isSome_map, i4]; rfl
def oV : Option Int -> V
 | none => .non
 | some b => .int b
structure Handed (rows : bL) (hs0 : List (Option Int)) (ps : List Int) (ds : List (Int × Int)) (i : Nat) (b0 : Int) (hs : List (Option Int)) : Prop where
 lh : hs.length = rows.length
 tight : ∀ j c, hA hs j = some c -> rj rows ps ds j c
 inj : ∀ j k c, hA hs j = some c -> hA hs k = some c -> j = k
 has : ∀ c, (∃ j, hA hs j = some c) <-> ((∃ j, hA hs0 j = some c) \/ c = b0)
 dom : ∀ j, hA hs j = none <-> (hA hs0 j = none /\ j ≠ i)
def iL (A : List (Int × Nat)) : List (Int × Int) := A.map fun x => (x.1, (x.2 : Int))
theorem eB (A : List (Int × Nat)) : (iL A).map (·.1) = A.map (·.1) := by unfold iL; rw [Cu]; rfl
theorem vx {A : List (Int × Nat)} {t : Nat} {b : Int} {q : Nat} (nd : (A.map (·.1)).Nodup) (h : A[t]? = some (b, q)) : aN (iL A) b = some (q : Int) := by
 have := kc (row := iL A) (by rw [eB]; exact nd) (x := (b, (q : Int))) (Cb.mpr ⟨(b, q), B8 h, rfl⟩)
 exact this
theorem Aj {hs : List (Option Int)} {q : Nat} (h : q < hs.length) : lE (hs.map oV) (q : Int) = some (oV (hA hs q)) := by
 refine aK ?_
 rw [B7, B3 h]
 unfold hA
 rw [B5, B3 h]; rfl
theorem mV (hs : List (Option Int)) : (hs.map oV).all cA = true := by
 rw [C5]
 intro x hx
 obtain ⟨y, _, rfl⟩ := Cb.mp hx
 cases y <;> rfl
theorem oF {o : Option Int} {b : Int} : mv (oV o) (.int b) = decide (o = some b) := by
 cases o with
 | none => rfl
 | some c => show (c == b) = _; rw [DK]; simp
theorem vy {hs : List (Option Int)} {j : Nat} {o : Option Int} (h : hs[j]? = some o) : hA hs j = o := by
 unfold hA; rw [B5, h]; rfl
theorem qp {hs : List (Option Int)} {j : Nat} {b : Int} (h : hA hs j = some b) : hs[j]? = some (some b) := by
 have l := vg h
 unfold hA at h
 rw [B5, B3 l] at h
 rw [B3 l]
 exact congrArg some h
theorem xZ {hs : List (Option Int)} {b : Int} : yw (.int b) (hs.map oV) = true <-> ∃ j, hA hs j = some b := by
 unfold yw
 rw [Ei]
 constructor
 ·rintro ⟨v, hv, e⟩
  obtain ⟨o, ho, rfl⟩ := Cb.mp hv
  rw [oF] at e
  obtain ⟨j, hj⟩ := Dm.mp ho
  exact ⟨j, by rw [vy hj]; exact of_decide_eq_true e⟩
 ·rintro ⟨j, h⟩
  exact ⟨oV (some b), Cb.mpr ⟨some b, B8 (qp h), rfl⟩, by rw [oF]; simp⟩
theorem PTree.top {rows : bL} {hs : List (Option Int)} {ps : List Int} {ds : List (Int × Int)} {i q : Nat} {b : Int} {R : List Nat} {A : List (Int × Nat)} (T : PTree rows hs ps ds i R A) (hq : q ∈ R) (tg : rj rows ps ds q b) : PTop rows hs ps ds i R (A ++ [(b, q)]) := by
 have tl := T.len
 obtain ⟨uq, hu⟩ := Dm.mp hq
 have huq := (B6.mp hu).1
 refine ⟨T.root, T.free, T.rnd, T.lt, fun t x hx hl => ?_, fun t x hx => ?_, by rw [Cd, tl]; rfl⟩
 ·rw [Cd, Cn] at hl
  rw [CC (by omega)] at hx
  exact T.hold t x hx
 ·by_cases z : t < A.length
  ·rw [CC z] at hx
   exact T.ask t x hx
  ·have ht := (B6.mp hx).1
   rw [Cd, Cn] at ht
   have et : t = A.length := by omega
   subst et
   rw [CI (Ca _), Dv] at hx
   cases hx
   exact ⟨⟨uq, by omega, hu⟩, tg⟩
theorem POn.first {rows : bL} {hs : List (Option Int)} {ps : List Int} {ds : List (Int × Int)} {i q : Nat} {b : Int} {R : List Nat} {A : List (Int × Nat)} (I : PInv rows hs ps ds) (hn : ∀ j, hA hs j ≠ some b) : POn rows hs hs ps ds i R (A ++ [(b, q)]) b b A.length :=
 ⟨I.lh, I.tight, I.inj, hn, fun _ => Iff.rfl, fun _ => Iff.rfl, ⟨q, by rw [CI (Ca _), Dv]; rfl⟩, fun _ _ _ _ => rfl⟩
theorem PInv.handed {rows : bL} {hs hs' : List (Option Int)} {ps : List Int} {ds : List (Int × Int)} {i : Nat} {b : Int} (I : PInv rows hs ps ds) (h : Handed rows hs ps ds i b hs') : PInv rows hs' ps ds :=
 ⟨h.lh, I.lp, h.tight, h.inj, I.feas, I.dnn, I.dnd, fun x hx => (h.has x.1).mpr (.inl (I.held x hx))⟩
theorem PTree.start {rows : bL} {hs : List (Option Int)} {ps : List Int} {ds : List (Int × Int)} {i : Nat} (h : hA hs i = none) (hi : i < rows.length) : PTree rows hs ps ds i [i] [] :=
 ⟨rfl, h, rfl, fun t x hx => by simp at hx, fun t x hx => by simp at hx, .nil, fun j hj => by rw [Cg.mp hj]; exact hi, fun x hx => by cases hx⟩
theorem PTree.le {rows : bL} {hs : List (Option Int)} {ps : List Int} {ds : List (Int × Int)} {i : Nat} {R : List Nat} {A : List (Int × Nat)} (T : PTree rows hs ps ds i R A) : R.length <= rows.length := by
 have := T.rnd.length_le_of_subset (l₂ := B9 rows.length) fun j hj => CB.mpr (T.lt j hj)
 rwa [CH] at this
theorem mW {α : Type} (l : List (Option α)) : (l.filterMap id).length <= l.length := List.length_filterMap_le _ _
theorem PInv.dlen {rows : bL} {hs : List (Option Int)} {ps : List Int} {ds : List (Int × Int)} (I : PInv rows hs ps ds) : ds.length <= rows.length := by
 have := I.dnd.length_le_of_subset (l₂ := hs.filterMap id) fun b hb => by
  obtain ⟨x, hx, e⟩ := Cb.mp hb
  obtain ⟨j, hj⟩ := I.held x hx
  rw [<- e]
  exact Eb.mpr ⟨some x.1, B8 (qp hj), rfl⟩
 have h2 := mW hs
 rw [B4] at this
 rw [<- I.lh]
 omega
theorem xl {A : List (Int × Nat)} {b : Int} {q : Nat} (h : b ∉ A.map (·.1)) : bU (aE (iL A)) (Sum.inl b) (.int (q : Int)) = aE (iL (A ++ [(b, q)])) := by
 rw [g9]
 unfold g8
 rw [eB, if_neg h]
 unfold iL
 rw [Cf]; rfl
theorem tF {rows : bL} {hs : List (Option Int)} {ps : List Int} {ds : List (Int × Int)} {i : Nat} {R : List Nat} {A : List (Int × Nat)} {g b : Int} {q : Nat} (I : PInv rows hs ps ds) (T : PTree rows hs ps ds i R A) (rn : ∀ row ∈ rows, (row.map (·.1)).Nodup)
  (n : Near (vq rows ps ds (A.map (·.1)) R) (some (g, b, q))) : q ∈ R /\ b ∉ A.map (·.1) /\ 0 <= g /\ (∀ p ∈ R, ∀ x ∈ rA rows p, x.1 ∉ A.map (·.1) -> g <= x.2 + du ds x.1 - pA ps p) /\
   ∀ ps' ds', Raised R A g ps ds ps' ds' -> rj rows ps' ds' q b := by
 obtain ⟨m, mn⟩ := n.yes _ rfl
 obtain ⟨p, hp, x, hx, hn, e⟩ := mU.mp m
 cases e
 have f := I.feas q x hx
 refine ⟨hp, hn, by omega, fun p' hp' y hy hny => mn _ (mU.mpr ⟨p', hp', y, hy, hny, rfl⟩), fun ps' ds' W => ⟨x.2, kc ?_ hx, ?_⟩⟩
 ·have ql := T.lt q hp
  refine rn _ ?_
  unfold rA
  rw [B5, B3 ql]
  exact CA ql
 ·rw [W.pr, W.dr, if_pos hp, if_neg hn]; omega
end L2
namespace L2
open PySem PySem.Spec PyProof.Rows PySem.W
def mX {α : Type} (n : Nat) (lt : Nat -> Nat -> Bool) : KasT α -> Option α
 | .ret a => some a
 | .ask i j k => if decide (i < n) && decide (j < n) && !(i == j) then mX n lt (k (lt i j)) else none
theorem lX {α : Type} {cmp : Nat -> Nat -> (Bool -> Shared -> Prop) -> Shared -> Prop} {n : Nat} {lt : Nat -> Nat -> Bool} {s : Shared} (hc : ∀ i j C, i < n -> j < n -> i ≠ j -> C (lt i j) s -> cmp i j C s) {Q : α -> Shared -> Prop} {a : α} :
  ∀ (t : KasT α), mX n lt t = some a -> Q a s -> t.kasWp cmp Q s
 | .ret b, h, q => by cases h; exact q
 | .ask i j k, h, q => by
  unfold mX at h
  split at h
  ·rename_i hh
   rw [C9, C9] at hh
   obtain ⟨⟨h1, h2⟩, h3⟩ := hh
   exact hc i j _ (of_decide_eq_true h1) (of_decide_eq_true h2) (by simpa using h3) (lX hc _ h q)
  ·cases h
def AD (n : Nat) (l : List Nat) : Bool := match mX n (fun i j => decide (l.getD i 0 < l.getD j 0)) (kas_sort n) with
 | some p => (p.toList.map fun i => l.getD i 0) == B9 n && p.toList.all (fun i => decide (i < n)) && p.toList.length == n
 | none => false
def chkAll (n : Nat) : Nat -> List Nat -> Bool
 | 0, acc => AD n acc
 | f + 1, acc => (B9 n).all fun x => acc.contains x || chkAll n f (acc ++ [x])
theorem lY {n : Nat} : ∀ (f : Nat) (acc ext : List Nat), chkAll n f acc = true -> ext.length = f -> (acc ++ ext).Nodup -> (∀ x ∈ ext, x < n) -> AD n (acc ++ ext) = true
 | 0, acc, ext, h, hl, nd, hx => by
  have : ext = [] := Dk hl
  subst this
  rw [Dh]; exact h
 | f + 1, acc, ext, h, hl, nd, hx => by
  obtain ⟨x, r, rfl⟩ : ∃ x r, ext = x :: r := by
   cases ext with
   | nil => simp at hl
   | cons x r => exact ⟨x, r, rfl⟩
  unfold chkAll at h
  rw [C5] at h
  have h1 := h x (CB.mpr (hx x (by simp)))
  rw [Bool.or_eq_true] at h1
  rcases h1 with z | z
  ·rw [DE] at nd
   exact absurd rfl (nd.2.2 x (by simpa using z) x (by simp))
  ·have := lY f (acc ++ [x]) r z (by simpa using hl) (by simpa using nd) fun y hy => hx y (by simp [hy])
   simpa using this
theorem Bf : chkAll 2 2 [] = true := by decide +kernel
theorem Bg : chkAll 3 3 [] = true := by decide +kernel
theorem Bh : chkAll 4 4 [] = true := by decide +kernel
theorem Bi : chkAll 5 5 [] = true := by decide +kernel
theorem Bj : chkAll 6 6 [] = true := by decide +kernel
theorem xm {n : Nat} {l : List Nat} (h2 : 2 <= n) (h6 : n <= 6) (hl : l.length = n) (nd : l.Nodup) (hx : ∀ x ∈ l, x < n) : AD n l = true := by
 have : chkAll n n [] = true := by
  obtain h | h | h | h | h : n = 2 \/ n = 3 \/ n = 4 \/ n = 5 \/ n = 6 := by omega
  ·rw [h]; exact Bf
  ·rw [h]; exact Bg
  ·rw [h]; exact Bh
  ·rw [h]; exact Bi
  ·rw [h]; exact Bj
 have := lY n [] l this hl (by simpa using nd) hx
 simpa using this
theorem kg {α : Type} {n : Nat} {f g : Nat -> Nat -> Bool} (h : ∀ i j, i < n -> j < n -> f i j = g i j) : ∀ t : KasT α, mX n f t = mX n g t
 | .ret a => rfl
 | .ask i j k => by
  unfold mX
  by_cases z : (decide (i < n) && decide (j < n) && !(i == j)) = true
  ·rw [if_pos z, if_pos z]
   rw [C9, C9] at z
   rw [h i j (of_decide_eq_true z.1.1) (of_decide_eq_true z.1.2)]
   exact kg h _
  ·rw [if_neg z, if_neg z]
def fh (ks : List Int) (x : Int) : Nat := (ks.filter fun y => decide (y < x)).length
theorem jD {ks : List Int} {x y : Int} (h : x < y) (hx : x ∈ ks) : fh ks x < fh ks y := by
 unfold fh
 induction ks with
 | nil => cases hx
 | cons a r ih =>
  have le : ∀ (r : List Int), (r.filter fun z => decide (z < x)).length <= (r.filter fun z => decide (z < y)).length := by
   intro r
   induction r with
   | nil => exact Ca _
   | cons b r ih =>
    rw [Da, Da]
    by_cases z : b < x
    ·rw [if_pos (decide_eq_true z), if_pos (decide_eq_true (by omega))]
     simp only [Cv]; omega
    ·rw [if_neg (by simpa using z)]
     split <;> (try simp only [Cv]) <;> omega
  rw [Da, Da]
  rcases Cm.mp hx with e | e
  ·subst e
   rw [if_neg (by simp), if_pos (decide_eq_true h)]
   have := le r
   simp only [Cv]; omega
  ·have := ih e
   by_cases z : a < x
   ·rw [if_pos (decide_eq_true z), if_pos (decide_eq_true (by omega))]
    simp only [Cv]; omega
   ·rw [if_neg (by simpa using z)]
    split <;> (try simp only [Cv]) <;> omega
theorem Ak {ks : List Int} {x : Int} (hx : x ∈ ks) : fh ks x < ks.length := by
 unfold fh
 induction ks with
 | nil => cases hx
 | cons a r ih =>
  rw [Da]
  rcases Cm.mp hx with e | e
  ·subst e
   rw [if_neg (by simp)]
   have := CM (fun y => decide (y < x)) r
   simp only [Cv]; omega
  ·have := ih e
   split <;> (try simp only [Cv]) <;> omega
theorem vz {ks : List Int} {x y : Int} (hx : x ∈ ks) (hy : y ∈ ks) : fh ks x < fh ks y <-> x < y := by
 constructor
 ·intro h
  rcases Int.lt_trichotomy x y with z | z | z
  ·exact z
  ·subst z; omega
  ·have := jD z hy; omega
 ·exact fun h => jD h hx
theorem vA {ks : List Int} (nd : ks.Nodup) (h2 : 2 <= ks.length) (h6 : ks.length <= 6) :
  ∃ p : Array Nat, mX ks.length (fun i j => decide (ks.getD i 0 < ks.getD j 0)) (kas_sort ks.length) = some p /\ p.toList.Perm (B9 ks.length) /\ (p.toList.map fun i => ks.getD i 0).Pairwise (· < ·) := by
 have mem : ∀ i, i < ks.length -> ks.getD i 0 ∈ ks := fun i hi => by rw [aD hi]; exact CA hi
 have gl : ∀ i, i < ks.length -> (ks.map (fh ks)).getD i 0 = fh ks (ks.getD i 0) := fun i hi => by
  rw [aD hi, B5, B7, B3 hi]; rfl
 have ndr : (ks.map (fh ks)).Nodup := by
  rw [Co, Df]
  rw [Co] at nd
  refine List.Pairwise.imp_of_mem ?_ nd
  intro a b ha hb hne e
  rcases Int.lt_trichotomy a b with z | z | z
  ·have := jD z ha; omega
  ·exact hne z
  ·have := jD z hb; omega
 have c := xm (n := ks.length) (l := ks.map (fh ks)) h2 h6 (B4 ..) ndr fun x hx => by
  obtain ⟨y, hy, rfl⟩ := Cb.mp hx
  exact Ak hy
 unfold AD at c
 have e := kg (n := ks.length) (f := fun i j => decide (ks.getD i 0 < ks.getD j 0)) (g := fun i j => decide ((ks.map (fh ks)).getD i 0 < (ks.map (fh ks)).getD j 0)) (fun i j hi hj => by
  rw [gl i hi, gl j hj]
  exact decide_eq_decide.mpr (vz (mem i hi) (mem j hj)).symm) (kas_sort ks.length)
 rw [e]
 cases hr : mX ks.length (fun i j => decide ((ks.map (fh ks)).getD i 0 < (ks.map (fh ks)).getD j 0)) (kas_sort ks.length) with
 | none => rw [hr] at c; cases c
 | some p =>
  rw [hr] at c
  dsimp only at c
  rw [C9, C9] at c
  obtain ⟨⟨c1, c2⟩, c3⟩ := c
  have c1 : (p.toList.map fun i => (ks.map (fh ks)).getD i 0) = B9 ks.length := by simpa using c1
  have c2 : ∀ i ∈ p.toList, i < ks.length := fun i hi => of_decide_eq_true (C5.mp c2 i hi)
  have c3 : p.toList.length = ks.length := by simpa using c3
  have pnd : p.toList.Nodup := by
   have h : (p.toList.map fun i => (ks.map (fh ks)).getD i 0).Nodup := by rw [c1]; exact List.nodup_range
   rw [Co, Df] at h
   rw [Co]
   exact h.imp fun h e => h (by rw [e])
  refine ⟨p, rfl, ?_, ?_⟩
  ·rw [List.perm_ext_iff_of_nodup pnd List.nodup_range]
   intro a
   refine ⟨fun h => CB.mpr (c2 a h), fun h => Decidable.byContradiction fun hn => ?_⟩
   have := (C0.mpr ⟨hn, pnd⟩).length_le_of_subset (l₂ := B9 ks.length) fun b hb => by
    rcases Cm.mp hb with z | z
    ·rw [z]; exact h
    ·exact CB.mpr (c2 b z)
   rw [Cv, CH] at this
   omega
  ·have pw : (p.toList.map fun i => (ks.map (fh ks)).getD i 0).Pairwise (· < ·) := by rw [c1]; exact List.pairwise_lt_range
   rw [Df] at pw ⊢
   refine List.Pairwise.imp_of_mem ?_ pw
   intro i j hi hj h
   rw [gl i (c2 i hi), gl j (c2 j hj)] at h
   exact (vz (mem i (c2 i hi)) (mem j (c2 j hj))).mp h
def hE (h : Heap) (as : List Addr) (ks : List Int) : Prop := as.length = ks.length /\ ∀ (i : Nat) a k, as[i]? = some a -> ks[i]? = some k -> ∃ t x n, h.get? a = some { cls := .type "tuple", data := .seq #[.int k t, x] n }
section
variable {prog : Program} {w : World} {A : Around} {E : Value -> Shared -> Prop} {s : Shared}
theorem kh {h : Heap} : ∀ {as : List Addr} {ks : List Int}, hE h as ks -> ∃ fs : List Value, KatTups h (as.map Value.ref) fs /\ fs.length = as.length /\ ∀ v ∈ fs, ∃ k t, v = Value.int k t
 | [], [], _ => ⟨[], .nil, rfl, fun _ h => by cases h⟩
 | [], _ :: _, ⟨h, _⟩ => by simp at h
 | _ :: _, [], ⟨h, _⟩ => by simp at h
 | a :: as, k :: ks, ⟨hl, h⟩ => by
  obtain ⟨t, x, n, e⟩ := h 0 a k rfl rfl
  obtain ⟨fs, f1, f2, f3⟩ := kh (as := as) (ks := ks) ⟨by simpa using hl, fun i b c hb hc => h (i + 1) b c (by simpa using hb) (by simpa using hc)⟩
  refine ⟨.int k t :: fs, .cons e rfl rfl rfl f1, by simp [f2], fun v hv => ?_⟩
  rcases Cm.mp hv with z | z
  ·exact ⟨k, t, z⟩
  ·exact f3 v z
theorem tH {as : List Addr} {ks : List Int} (hp : hE s.heap as ks) (nd : ks.Nodup) {i j : Nat} {C : Bool -> Shared -> Prop} (hi : i < ks.length) (hj : j < ks.length) (hij : i ≠ j) (h : C (decide (ks.getD i 0 < ks.getD j 0)) s) :
  kas_ask prog w A (tuples' true) (as.map Value.ref) i j C s := by
 have la := hp.1
 have hi' : i < as.length := by omega
 have hj' : j < as.length := by omega
 obtain ⟨t1, x1, n1, e1⟩ := hp.2 i as[i] ks[i] (B3 hi') (B3 hi)
 obtain ⟨t2, x2, n2, e2⟩ := hp.2 j as[j] ks[j] (B3 hj') (B3 hj)
 unfold kas_ask
 have g1 : (as.map Value.ref).getD i Value.none = .ref as[i] := by rw [B5, B7, B3 hi']; rfl
 have g2 : (as.map Value.ref).getD j Value.none = .ref as[j] := by rw [B5, B7, B3 hj']; rfl
 rw [g1, g2]
 rw [aD hi, aD hj] at h
 have ne : ks[i] ≠ ks[j] := fun z => hij ((Dq nd).mp z)
 refine kat_lt e1 rfl e2 rfl (kat_cons (wpAny_eqBool_int ?_))
 rw [show (ks[i] == ks[j]) = false from beq_false_of_ne ne]
 exact kat_no (oneLt_int h)
theorem ki {a : Addr} {as : List Addr} {ks : List Int} {n : Nat} {P : Fin -> Shared -> Prop} (ho : s.heap.get? a = some (seqObj "list" (as.map Value.ref).toArray n)) (hp : hE s.heap as ks) (hna : a ∉ as) (nd : ks.Nodup) (h6 : ks.length <= 6)
  (h : ∀ q : List Nat, q.Perm (B9 ks.length) -> (q.map fun i => ks.getD i 0).Pairwise (· < ·) -> P (.done (.ret .none)) { s with heap := sortedHeap s.heap a (as.map Value.ref) (DU (q.map fun i => (as.map Value.ref).getD i Value.none)) }) :
  wpAny (model prog w) A (Builtin.«list.sort» ⟨[.ref a], []⟩) P E s := by
 have la := hp.1
 generalize hvs : as.map Value.ref = vs at ho h
 have lv : vs.length = ks.length := by rw [<- hvs, B4, la]
 rw [list_sort_plain]
 have ha : a < s.heap.objs.size := Heap.lt_size ho
 refine wpAny_bind (listItems_at ho rfl ?_)
 refine wpAny_bind (listUpdate_at ho rfl ?_ (by rw [Ci, sizeLine_eq]; omega) (Cz _))
 obtain ⟨e1, ho1⟩ : ∃ e1, (s.heap.update a (Obj.mapSeq fun _ => #[])).get? a = some (seqObj "list" #[] e1) := ⟨_, get?_update_seq ho (fun _ => #[])⟩
 refine wpAny_bind (seqEpoch_at ho1 rfl ?_)
 refine wpAny_bind (wpAny_newTuple ?_ (by show vs.length <= _; rw [sizeLine_eq]; omega))
 refine wpAny_bind (wpAny_newList ?_ (Cz _))
 refine wpAny_holding ?_
 have ho6 : (((s.heap.update a (Obj.mapSeq fun _ => #[])).push (seqObj "tuple" vs.toArray 0)).push (seqObj "list" #[] 0)).get? a = some (seqObj "list" #[] e1) := by
  rw [Heap.get?_push_ne _ _ _ (by rw [size_push', Heap.size_update]; exact Cp (C3 ha)), Heap.get?_push_ne _ _ _ (by rw [Heap.size_update]; exact Cp ha)]
  exact ho1
 have hp' : hE (((s.heap.update a (Obj.mapSeq fun _ => #[])).push (seqObj "tuple" vs.toArray 0)).push (seqObj "list" #[] 0)) as ks := ⟨la, fun i b k hb hk => by
  obtain ⟨t, x, m, e⟩ := hp.2 i b k hb hk
  have hne : b ≠ a := fun z => hna (by rw [<- z]; exact B8 hb)
  have hlt := Heap.lt_size e
  refine ⟨t, x, m, ?_⟩
  rw [Heap.get?_push_ne _ _ _ (by rw [size_push', Heap.size_update]; exact Cp (C3 hlt)), Heap.get?_push_ne _ _ _ (by rw [Heap.size_update]; exact Cp hlt), Heap.get?_update_ne _ _ _ _ hne]
  exact e⟩
 show wpAny (model prog w) A _ P E { s with heap := ((s.heap.update a (Obj.mapSeq fun _ => #[])).push (seqObj "tuple" vs.toArray 0)).push (seqObj "list" #[] 0) }
 dsimp only
 have hsz : vs.toArray.size = vs.length := by simp
 by_cases h2 : vs.toArray.size < 2
 ·rw [if_pos h2, if_pos h2]
  refine wpAny_bind (wpAny_pure ?_)
  rw [StateT.run_pure]
  refine wpAny_bind (wpAny_pure ?_)
  dsimp only
  have eo : (arrOf (SortSt.mk' general' (vs.toArray.zip vs.toArray) #[] 7 none)).map (·.2) = DU ((B9 ks.length).map fun i => vs.getD i Value.none) := by
   have := kat_snds (ks := vs) (vs := vs) rfl (st := SortSt.mk' general' (vs.toArray.zip vs.toArray) #[] 7 none) (p := DU (B9 ks.length)) (by
    have e := kas_range (vs.toArray.zip vs.toArray)
    rw [show (vs.toArray.zip vs.toArray).size = ks.length by simp [lv]] at e
    exact e.symm)
   exact this
  rw [eo]
  refine wpAny_bind (seqEpoch_at ho6 rfl ?_)
  refine wpAny_bind (listUpdate_at ho6 rfl ?_ (Cz _) (by rw [Ci, B4, CH, sizeLine_eq]; omega))
  simp only [bne_self_eq_false, C7, if_false]
  refine wpAny_pure (h _ (List.Perm.refl _) ?_)
  have l1 : ks.length <= 1 := by omega
  rw [Df]
  match hk : ks.length, l1 with
  | 0, _ => exact .nil
  | 1, _ => exact Dy _ _
 ·rw [if_neg h2, if_neg h2]
  obtain ⟨fs, f1, f2, f3⟩ := kh hp'
  rw [hvs] at f1
  refine wpAny_bind (kat_kind (T := .type "int") f1 (by omega) (fun v hv => by obtain ⟨k, t, rfl⟩ := f3 v hv; exact Looks.of_pure rfl) rfl ?_)
  obtain ⟨q, r1, r2, r3⟩ := vA nd (by omega) h6
  have go : (kas_sort vs.length).kasWp (kas_ask prog w A (tuples' (Value.type "int" != Value.type "tuple")) vs) (fun p s' => p = q /\ s' = { s with heap := ((s.heap.update a (Obj.mapSeq fun _ => #[])).push (seqObj "tuple" vs.toArray 0)).push (seqObj "list" #[] 0) }) { s with heap := ((s.heap.update a (Obj.mapSeq fun _ => #[])).push (seqObj "tuple" vs.toArray 0)).push (seqObj "list" #[] 0) } := by
   rw [lv]
   refine lX (n := ks.length) (lt := fun i j => decide (ks.getD i 0 < ks.getD j 0)) (fun i j C hi hj hij hC => ?_) _ r1 ⟨rfl, rfl⟩
   rw [<- hvs]
   rw [<- hvs] at hp' hC
   exact tH (s := { s with heap := _ }) hp' nd hi hj hij hC
  refine wpAny_bind (wpAny_mono (kat_run (Q := fun st' s' => (arrOf st').map (·.2) = DU (q.toList.map fun i => vs.getD i Value.none) /\ failedOf st' = none /\ s' = { s with heap := ((s.heap.update a (Obj.mapSeq fun _ => #[])).push (seqObj "tuple" vs.toArray 0)).push (seqObj "list" #[] 0) })
   (ks := vs) rfl (by omega) (by omega) (fun p st' s' a1 a2 a3 a4 => ⟨by rw [kat_snds rfl a2, a4.1], a3, a4.2⟩) go) ?_ fun _ _ e => e)
  rintro ⟨⟨⟩, st'⟩ s' ⟨e1', e2', rfl⟩
  dsimp only at e1' e2' ⊢
  rw [e1', e2']
  refine wpAny_bind (seqEpoch_at ho6 rfl ?_)
  refine wpAny_bind (listUpdate_at ho6 rfl ?_ (Cz _) (by rw [Ci, B4, r2.length_eq, CH, sizeLine_eq]; omega))
  simp only [bne_self_eq_false, C7, if_false]
  exact wpAny_pure (h q.toList r2 r3)
end
theorem ObjOk.get {P : Program} {w : World} {H : Hp} {h : Heap} {a : Addr} {o : HO} (x : ObjOk P w H h a o) : ∃ u, h.get? a = some u := by
 cases o with
 | lst xs => obtain ⟨_, _, _, _, e⟩ := x; exact ⟨_, e⟩
 | tup xs => obtain ⟨_, _, _, o, e, _⟩ := x; exact ⟨_, e⟩
 | dK kvs => obtain ⟨_, _, _, _, o, _, _, e, _⟩ := x; exact ⟨_, e⟩
 | dT kvs => obtain ⟨_, _, _, _, o, _, _, e, _⟩ := x; exact ⟨_, e⟩
 | set S n => obtain ⟨o, _, _, _, e, _⟩ := x; exact ⟨_, e⟩
 | ins C dx fs => obtain ⟨_, _, _, e, _⟩ := x; exact ⟨_, e⟩
 | own y => obtain ⟨_, e⟩ := x; exact ⟨_, e⟩
 | xd fs => obtain ⟨_, ⟨_, _, _, e, _⟩, _⟩ := x; exact ⟨_, e⟩
 | rng lo hi => obtain ⟨_, _, _, e⟩ := x; exact ⟨_, e⟩
 | frz ob u => obtain ⟨e, _⟩ := x; exact ⟨_, e⟩
 | tbl ps => exact ⟨_, show h.get? a = some _ from x⟩
 | met f y => exact ⟨_, show h.get? a = some _ from x⟩
 | ext φ => obtain ⟨_, ⟨_, e⟩, _⟩ := x; exact ⟨_, e⟩
theorem Inv.many {X : Cx} {pins : List (Addr × Obj)} {σ : L2.St} {H H' : Hp} {s : Shared} {h' : Heap} {t' : Nat} (I : Inv X pins σ H s) (k : ∀ b u, s.heap.get? b = some u -> h'.get? b = some u) (old : ∀ b u, s.heap.get? b = some u -> H' b = H b)
  (new : ∀ a o, s.heap.get? a = none -> H' a = some o -> ObjOk X.prog X.w H' h' a o) : Inv X pins σ H' { s with heap := h', toks := t' } := by
 have lo : ∀ b o, H b = some o -> H' b = some o := fun b o e => by obtain ⟨u, hu⟩ := (I.hok b o e).get; rw [old b u hu]; exact e
 refine I.un ⟨fun b u q _ _ _ => k b u q, fun b u q _ _ _ => ⟨u.slots, k b u q⟩, fun b u q n _ => by rw [old b u q]; exact n, fun b u q _ => ⟨u, k b u q⟩, fun b xs q => lo b _ q, fun b u xs q => lo b _ q, fun b ps q => ⟨#[], by rw [lo b _ q]; simp⟩⟩ fun b u e => ?_
 cases hb : s.heap.get? b with
 | some ob =>
  rw [old b ob hb] at e
  exact (I.hok b u e).stay (fun c v _ q => k c v q) (fun c q => lo c _ q) fun c xs q => lo c _ q
 | none => exact new b u hb e
def mY (H : Hp) (as : List Addr) (ds : List (Int × Int)) : Hp := fun b => match (as.zip ds).find? (fun x => x.1 == b) with
 | some x => some (.tup [.int x.2.1, .int x.2.2])
 | none => H b
theorem kj {H : Hp} {as : List Addr} {ds : List (Int × Int)} {b : Addr} (h : b ∉ as) : mY H as ds b = H b := by
 unfold mY
 have : (as.zip ds).find? (fun x => x.1 == b) = none := by
  rw [List.find?_eq_none]
  rintro ⟨x, y⟩ hx e
  have : x = b := by simpa using e
  exact h (by rw [<- this]; exact (Eo hx).1)
 rw [this]
theorem mZ {H : Hp} : ∀ {as : List Addr} {ds : List (Int × Int)} {i : Nat} {a : Addr} {d : Int × Int}, as.Nodup -> as[i]? = some a -> ds[i]? = some d -> mY H as ds a = some (.tup [.int d.1, .int d.2])
 | [], _, i, a, d, _, h, _ => by simp at h
 | _ :: _, [], i, a, d, _, _, h => by simp at h
 | x :: as, y :: ds, 0, a, d, _, h1, h2 => by
  simp at h1 h2
  subst h1 h2
  unfold mY
  rw [List.zip_cons_cons, CS]
  simp
 | x :: as, y :: ds, i + 1, a, d, nd, h1, h2 => by
  rw [C0] at nd
  have h1' : as[i]? = some a := by simpa using h1
  have ne : x ≠ a := fun z => nd.1 (by rw [z]; exact B8 h1')
  have ih := mZ (H := H) (as := as) (ds := ds) (i := i) nd.2 h1' (by simpa using h2)
  unfold mY at ih ⊢
  rw [List.zip_cons_cons, CS]
  have e : (x == a) = false := by simpa using ne
  simp only [e]
  exact ih
theorem vB {H : Hp} {as : List Addr} {ds : List (Int × Int)} {b : Addr} {o : HO} (hl : as.length = ds.length) (nd : as.Nodup) (h : b ∈ as) (e : mY H as ds b = some o) : ∃ (i : Nat) (d : Int × Int), as[i]? = some b /\ ds[i]? = some d /\ o = .tup [.int d.1, .int d.2] := by
 obtain ⟨i, hi⟩ := Dm.mp h
 have il := (B6.mp hi).1
 have hd : ds[i]? = some (ds[i]'(by omega)) := B3 (by omega)
 refine ⟨i, _, hi, hd, ?_⟩
 rw [mZ nd hi hd] at e
 exact (Option.some.inj e).symm
theorem xn {P : Program} {w : World} {ds : List (Int × Int)} {vs : List (bq × Value)} (r : KV (aE ds) vs) {i : Nat} {d : Int × Int} (h : ds[i]? = some d) : ∃ t, vs[i]? = some (Sum.inl d.1, .int d.2 t) := by
 have hh : (aE ds)[i]? = some (Sum.inl d.1, V.int d.2) := by unfold aE; rw [B7, h]; rfl
 obtain ⟨b, hb, e1, e2⟩ := cu r hh
 obtain ⟨t, e2⟩ := e2
 refine ⟨t, ?_⟩
 rw [hb]
 obtain ⟨k, v⟩ := b
 cases e1
 cases e2
 rfl
section
variable {X : Cx}
theorem vC (hc : X.calm = true := by rfl) : cJ X (.builtin "sorted") (fun xs H Q => ∃ (v d : Addr) (ds : List (Int × Int)), xs = [.ref v] /\ H v = some (.ext (VW v d)) /\ H d = some (.dK (aE ds)) /\ (ds.map (·.1)).Nodup /\ ds.length <= 6 /\
  ∀ l (es : List (Int × Int)) H', es.Perm ds -> (es.map (·.1)).Pairwise (· < ·) -> Same H H' -> H l = none -> RowAt H' l es -> Q (.ref l) H') := by
 intro pins s σ H xs us Q I r h
 obtain ⟨v, d, ds, e, hv, hd, nd, h6, q⟩ := h
 subst e
 obtain ⟨u, e, rx⟩ := fo r
 subst e
 cases rx
 obtain ⟨hz, hm, vs, rk, dd⟩ := jN I.hok hd
 obtain ⟨ep, da⟩ := dd.dictAt
 obtain ⟨vw, _⟩ := (show ObjOk X.prog X.w H s.heap v (.ext (VW v d)) from I.hok v _ hv)
 have lv : vs.length = ds.length := by rw [<- rk.length]; unfold aE; rw [B4]
 refine Calls.call_function_entry kind_sorted plain_sorted entry_sorted (args_sorted1 _) ?_
 unfold Builtin.«sorted»
 refine wpAny_bind (m := checkCount "sorted" 1 1 _) (wpAny_pure ?_)
 refine wpAny_bind (kdx_collect (A := X.A.in1) (knd := aG X.prog X.w) (kvs := vs) (ep := ep) (show X.A.in1.handled = none from I.ok.hd hc) vw da (by rw [lv, sizeLine_eq]; omega) fun h1 tk as k1 la g1 => ?_)
 refine wpAny_bind (wpAny_newList ?_ (by rw [B4, la, lv, sizeLine_eq]; omega))
 have hoL : (h1.push (seqObj "list" (as.map Value.ref).toArray 0)).get? h1.objs.size = some (seqObj "list" (as.map Value.ref).toArray 0) := Heap.get?_push_size _ rfl
 have lt1 : ∀ a ∈ as, a < h1.objs.size := fun a ha => g1.there ha
 have ge1 : ∀ a ∈ as, s.heap.objs.size <= a := fun a ha => C4 (g1.above a ha)
 have and' : as.Nodup := by
  rw [Co]
  exact g1.rise.imp fun h => Cp h
 have pr : ∀ (i : Nat) a x, as[i]? = some a -> ds[i]? = some x -> ∃ t t', h1.get? a = some { cls := .type "tuple", data := .seq #[.int x.1 t, .int x.2 t'] } := fun i a x ha hx => by
  obtain ⟨key, k, y, e1, e2, e3⟩ := g1.pairs i a ha
  obtain ⟨t', e4⟩ := xn (P := X.prog) (w := X.w) rk hx
  rw [e4] at e1
  cases e1
  obtain ⟨t, e5⟩ := (show ∃ t, key = Value.int x.1 t from mE e2)
  rw [e5] at e3
  exact ⟨t, t', e3⟩
 have pa : hE (h1.push (seqObj "list" (as.map Value.ref).toArray 0)) as (ds.map (·.1)) := ⟨by rw [la, lv, B4], fun i a k ha hk => by
  rw [B7] at hk
  obtain ⟨x, hx, rfl⟩ := Cc.mp hk
  obtain ⟨t, t', e⟩ := pr i a x ha hx
  exact ⟨t, _, _, Heap.get?_push_of_some _ e⟩⟩
 refine wpAny_bind (wpAny_holding (wpAny_call_entry slot_list_sort ⟨_, hoL, rfl⟩ entry_list_sort (ki (ks := ds.map (·.1)) hoL pa (fun m => absurd (lt1 _ m) (Dw _)) nd (by rw [B4]; exact h6) fun p hp hs => ⟨_, rfl, ?_⟩) (args_list_sort _)))
 refine wpAny_pure ⟨_, rfl, ?_⟩
 rw [B4] at hp
 obtain ⟨e, he⟩ := sortedHeap_at (out := DU (p.map fun i => (as.map Value.ref).getD i Value.none)) hoL
 have k2 : ∀ b o, h1.get? b = some o -> (sortedHeap (h1.push (seqObj "list" (as.map Value.ref).toArray 0)) h1.objs.size (as.map Value.ref) (DU (p.map fun i => (as.map Value.ref).getD i Value.none))).get? b = some o := fun b o eb => by
  have lt := Heap.lt_size eb
  rw [sortedHeap_old (Cp lt) (by rw [Heap.size_push]; exact C3 lt)]
  exact Heap.get?_push_of_some _ eb
 have plt : ∀ i ∈ p, i < ds.length := fun i hi => CB.mp (hp.mem_iff.mp hi)
 have oldne : ∀ b o, s.heap.get? b = some o -> b ≠ h1.objs.size /\ b ∉ as := fun b o eb => ⟨Cp (Heap.lt_size (k1 b o eb)), fun m => absurd (ge1 b m) (Nat.not_le_of_lt (Heap.lt_size eb))⟩
 have hl2 : as.length = ds.length := by rw [la, lv]
 have nL : H h1.objs.size = none := by
  cases z : H h1.objs.size with
  | none => rfl
  | some o =>
   obtain ⟨u, hu⟩ := (I.hok _ o z).get
   exact absurd rfl (oldne _ u hu).1
 have nas : ∀ a ∈ as, H a = none := fun a ha => by
  cases z : H a with
  | none => rfl
  | some o =>
   obtain ⟨u, hu⟩ := (I.hok _ o z).get
   exact absurd ha (oldne _ u hu).2
 have Las : ∀ a ∈ as, a ≠ h1.objs.size := fun a ha => Cp (lt1 a ha)
 have I2 : Inv X pins σ (ay (mY H as ds) h1.objs.size (.lst ((p.map fun i => as.getD i 0).map V.ref))) { s with heap := sortedHeap (h1.push (seqObj "list" (as.map Value.ref).toArray 0)) h1.objs.size (as.map Value.ref) (DU (p.map fun i => (as.map Value.ref).getD i Value.none)), toks := tk } := by
  refine I.many (fun b u eb => k2 b u (k1 b u eb)) (fun b u eb => ?_) fun a o ha ea => ?_
  ·obtain ⟨z1, z2⟩ := oldne b u eb
   rw [aj z1, kj z2]
  ·by_cases za : a = h1.objs.size
   ·subst za
    rw [ab] at ea
    cases ea
    refine ⟨?_, p.map fun i => (as.map Value.ref).getD i Value.none, e, ?_, by simpa [seqObj] using he⟩
    ·rw [B4, B4, hp.length_eq, CH, sizeLine_eq]; omega
    ·rw [Cu]
     have : ∀ (q : List Nat), (∀ i ∈ q, i < as.length) -> Vals (q.map (V.ref ∘ fun i => as.getD i 0)) (q.map fun i => (as.map Value.ref).getD i Value.none) := by
      intro q
      induction q with
      | nil => intro _; exact .nil
      | cons i q ih =>
       intro hq
       have hi := hq i (by simp)
       refine .cons ?_ (ih fun j hj => hq j (by simp [hj]))
       show (as.map Value.ref).getD i Value.none = Value.ref (as.getD i 0)
       rw [B5, B7, B3 hi, B5, B3 hi]; rfl
     exact this p fun i hi => by rw [hl2]; exact plt i hi
   ·rw [aj za] at ea
    by_cases zm : a ∈ as
    ·obtain ⟨i, x, hi, hx, eo⟩ := vB hl2 and' zm ea
     subst eo
     obtain ⟨t, t', e⟩ := pr i a x hi hx
     exact ⟨by rw [sizeLine_eq]; show 2 <= _; omega, [.int x.1 t, .int x.2 t'], .cons ⟨t, rfl⟩ (.cons ⟨t', rfl⟩ .nil), _, k2 _ _ e, rfl, _, rfl⟩
    ·rw [kj zm] at ea
     obtain ⟨u, hu⟩ := (I.hok a o ea).get
     rw [ha] at hu
     cases hu
 refine ⟨.ref h1.objs.size, _, I2, rfl, ?_⟩
 refine q h1.objs.size (p.map fun i => ds.getD i (0, 0)) _ ?_ ?_ ?_ nL ⟨p.map fun i => as.getD i 0, ab, ?_⟩
 ·have h1 : (p.map fun i => ds.getD i (0, 0)).Perm ((B9 ds.length).map fun i => ds.getD i (0, 0)) := hp.map _
  have h2 : (B9 ds.length).map (fun i => ds.getD i (0, 0)) = ds := by
   apply Ee
   intro i
   rw [B7]
   by_cases hi : i < ds.length
   ·rw [De hi, B3 hi, DA, B5, B3 hi]; rfl
   ·rw [CN (by rw [CH]; omega), CN (by omega)]; rfl
  rw [h2] at h1
  exact h1
 ·have e2 : (p.map fun i => ds.getD i (0, 0)).map (·.1) = p.map fun i => (ds.map (·.1)).getD i 0 := by
   rw [Cu]
   apply Cs
   intro i hi
   have hi := plt i hi
   show (ds.getD i (0, 0)).1 = _
   rw [B5, B3 hi, B5, B7, B3 hi]; rfl
  rw [e2]
  exact hs
 ·intro b o eb
  obtain ⟨u, hu⟩ := (I.hok b o eb).get
  obtain ⟨z1, z2⟩ := oldne b u hu
  rw [aj z1, kj z2]
  exact eb
 ·have : ∀ (q : List Nat), (∀ i ∈ q, i < ds.length) -> TupsL (ay (mY H as ds) h1.objs.size (.lst ((p.map fun i => as.getD i 0).map V.ref))) (q.map fun i => as.getD i 0) (q.map fun i => ds.getD i (0, 0)) := by
   intro q
   induction q with
   | nil => intro _; exact .nil
   | cons i q ih =>
    intro hq
    have hi := hq i (by simp)
    have hi' : i < as.length := by rw [hl2]; exact hi
    refine .cons ?_ (ih fun j hj => hq j (by simp [hj]))
    show ay (mY H as ds) h1.objs.size (.lst ((p.map fun i => as.getD i 0).map V.ref)) (as.getD i 0) = some (.tup [.int (ds.getD i (0, 0)).1, .int (ds.getD i (0, 0)).2])
    have ea : as.getD i 0 = as[i] := by rw [B5, B3 hi']; rfl
    have ed : ds.getD i (0, 0) = ds[i] := by rw [B5, B3 hi]; rfl
    rw [ea, ed, aj (Las _ (CA hi'))]
    exact mZ and' (B3 hi') (B3 hi)
  exact this p plt
end
theorem PInv.start {rows : bL} (c0 : ∀ row ∈ rows, ∀ x ∈ row, 0 <= x.2) : PInv rows (Cq rows.length none) (Cq rows.length 0) [] := by
 have h0 : ∀ j, hA (Cq rows.length none) j = none := fun j => by
  unfold hA
  rw [B5, List.getElem?_replicate]
  split <;> rfl
 have p0 : ∀ j, pA (Cq rows.length 0) j = 0 := fun j => by
  unfold pA
  rw [B5, List.getElem?_replicate]
  split <;> rfl
 refine ⟨List.length_replicate, List.length_replicate, (fun j b h => by rw [h0] at h; cases h), (fun j k b h => by rw [h0] at h; cases h), fun j x hx => ?_, (fun _ h => by cases h), .nil, fun _ h => by cases h⟩
 rw [p0]
 have : rA rows j ∈ rows \/ rA rows j = [] := by
  unfold rA
  rw [B5]
  cases e : rows[j]? with
  | none => exact .inr rfl
  | some r => exact .inl (B8 e)
 rcases this with z | z
 ·have := c0 _ z x hx
  show (0 : Int) - 0 <= x.2
  omega
 ·rw [z] at hx; cases hx
theorem vD {hs : List (Option Int)} (h : ∀ j, j < hs.length -> hA hs j ≠ none) : ∃ ns : List Int, hs = ns.map some := by
 induction hs with
 | nil => exact ⟨[], rfl⟩
 | cons a r ih =>
  obtain ⟨ns, e⟩ := ih fun j hj z => h (j + 1) (by rw [Cv]; omega) (by unfold hA at z ⊢; rw [B5] at z ⊢; rw [List.getElem?_cons_succ]; exact z)
  have h0 := h 0 (by rw [Cv]; omega)
  cases a with
  | none => exact absurd rfl h0
  | some b => exact ⟨b :: ns, by rw [e]; rfl⟩
theorem xo (ns : List Int) : (ns.map some).map oV = ns.map V.int := by rw [Cu]; rfl
theorem hZ {ns : List Int} {j : Nat} (h : j < ns.length) : hA (ns.map some) j = some ns[j] := by
 refine vy ?_
 rw [B7, B3 h]; rfl
structure Priced (rows : bL) (hs : List Int) (tot : Int) (ps : List Int) (es : List (Int × Int)) : Prop where
 inv : ∃ ds, PInv rows (hs.map some) ps ds /\ es.Perm ds
 up : (es.map (·.1)).Pairwise (· < ·)
 tot : tot = bC rows hs
theorem PInv.deal {rows : bL} {hs ps : List Int} {ds : List (Int × Int)} (I : PInv rows (hs.map some) ps ds) : Deal (rows.map aw) hs := by
 have lh := I.lh
 rw [B4] at lh
 refine ⟨by rw [B4, lh], fun k h1 h2 => ?_, ?_⟩
 ·rw [B4] at h2
  obtain ⟨c, hc, _⟩ := I.tight k hs[k] (hZ h1)
  have e : rA rows k = rows[k] := by unfold rA; rw [B5, B3 h2]; rfl
  rw [e] at hc
  rw [C2]
  exact Cb.mpr ⟨_, ee hc, rfl⟩
 ·rw [Co, CY]
  intro i j hi hj hij e
  have := I.inj i j hs[i] (hZ hi) (by rw [hZ hj, e])
  omega
theorem oG {α : Type} (x : α) (n : Nat) : (Cq n [x]).flatten = Cq n x := by
 induction n with
 | zero => rfl
 | succ n ih => rw [Dd, DD, ih, Dd]; rfl
section
variable {prog : Program} {w : World} {A : Around} {E : Value -> Shared -> Prop} {s : Shared}
end
section
variable {X : Cx}
end
def k7 : bL -> List Int -> Int
 | r :: rs, h :: hs => (aN r h).getD 0 + k7 rs hs
 | _, _ => 0
inductive DP : bL -> List Int -> Prop
 | nil : DP [] []
 | cons {r : List (Int × Int)} {h : Int} {rs : bL} {hs : List Int} : h ∈ aw r -> DP rs hs -> DP (r :: rs) (h :: hs)
theorem DP.len {rows : bL} {hs : List Int} (h : DP rows hs) : hs.length = rows.length := by
 induction h with
 | nil => rfl
 | cons _ _ ih => rw [Cv, Cv, ih]
theorem fT {rows : bL} : ∀ {hs : List Int}, hs.length = rows.length -> bC rows hs = k7 rows hs := by
 induction rows with
 | nil => intro hs h; rfl
 | cons r rs ih =>
  intro hs h
  cases hs with
  | nil => cases h
  | cons b hs =>
   have h' : hs.length = rs.length := by simpa using h
   have e : bC (r :: rs) (b :: hs) = cg (r :: rs) (b :: hs) 0 + bC rs hs := by
    unfold bC
    rw [Cv, List.range_succ_eq_map, Ce, List.sum_cons, Cu]
    rfl
   rw [e, ih h']
   rfl
theorem oH {rows : bL} {hs : List Int} : Deal (rows.map aw) hs <-> DP rows hs /\ hs.Nodup := by
 constructor
 ·intro d
  refine ⟨?_, d.nd⟩
  have len := d.len
  have of := d.of
  clear d
  rw [B4] at len
  induction rows generalizing hs with
  | nil =>
   cases hs with
   | nil => exact .nil
   | cons _ _ => cases len
  | cons r rs ih =>
   cases hs with
   | nil => cases len
   | cons b hs =>
    refine .cons (of 0 (Nat.succ_pos _) (Nat.succ_pos _)) (ih (by simpa using len) fun k h1 h2 => ?_)
    exact of (k + 1) (Nat.succ_lt_succ h1) (Nat.succ_lt_succ h2)
 ·rintro ⟨d, nd⟩
  refine ⟨by rw [B4]; exact d.len, ?_, nd⟩
  clear nd
  induction d with
  | nil => intro k h1; cases h1
  | cons hm _ ih =>
   intro k h1 h2
   cases k with
   | zero => exact hm
   | succ k => exact ih k (Nat.lt_of_succ_lt_succ h1) (Nat.lt_of_succ_lt_succ h2)
theorem xp {f : Int -> Int} {rows : bL} {hs : List Int} (d : DP rows hs) : ∀ {ps : List Int}, ps.length = rows.length -> (∀ j, ∀ x ∈ rA rows j, pA ps j - f x.1 <= x.2) -> ps.sum - (hs.map f).sum <= k7 rows hs := by
 induction d with
 | nil =>
  intro ps lp _
  have : ps = [] := Dk lp
  rw [this]
  exact Int.le_refl _
 | @cons r h rs hs hm _ ih =>
  intro ps lp fe
  cases ps with
  | nil => cases lp
  | cons p ps =>
   have h1 := ih (ps := ps) (by simpa using lp) fun j x hx => fe (j + 1) x hx
   rw [List.sum_cons, Ce, List.sum_cons]
   show _ <= _ + _
   cases e : aN r h with
   | none => exact absurd hm (cE.mp e)
   | some c =>
    have h2 : p - f h <= c := fe 0 (h, c) (ee e)
    show _ <= c + _
    omega
theorem tI {f : Int -> Int} {rows : bL} : ∀ {hs ps : List Int}, hs.length = rows.length -> ps.length = rows.length -> (∀ j b, hs[j]? = some b -> ∃ c, aN (rA rows j) b = some c /\ pA ps j - f b = c) -> k7 rows hs = ps.sum - (hs.map f).sum := by
 induction rows with
 | nil =>
  intro hs ps lh lp _
  have : ps = [] := Dk lp
  have : hs = [] := Dk lh
  subst this
  subst ps
  rfl
 | cons r rs ih =>
  intro hs ps lh lp ti
  cases hs with
  | nil => cases lh
  | cons h hs =>
   cases ps with
   | nil => cases lp
   | cons p ps =>
    have h1 := ih (hs := hs) (ps := ps) (by simpa using lh) (by simpa using lp) fun j b hb => ti (j + 1) b hb
    obtain ⟨c, hc, e⟩ := ti 0 h rfl
    have hc : aN r h = some c := hc
    have e : p - f h = c := e
    rw [List.sum_cons, Ce, List.sum_cons]
    show (aN r h).getD 0 + _ = _
    rw [hc, h1]
    show c + _ = _
    omega
theorem xq {hs : List Int} {k d : Int} (h : k ∉ hs) : (hs.map fun b => if b = k then d else 0).sum = 0 := by
 induction hs with
 | nil => rfl
 | cons a r ih =>
  rw [Cm, not_or] at h
  rw [Ce, List.sum_cons, ih h.2, if_neg fun z => h.1 z.symm]
  rfl
theorem xr {x : Int × Int} {ds : List (Int × Int)} (n : x.1 ∉ ds.map (·.1)) (b : Int) : du (x :: ds) b = (if b = x.1 then x.2 else 0) + du ds b := by
 unfold du aN
 rw [CS]
 by_cases z : b = x.1
 ·have z1 : (x.1 == b) = true := by simp [z]
  have z2 : aN ds b = none := cE.mpr (by rw [z]; exact n)
  unfold aN at z2
  rw [z1, if_pos z, z2]
  show x.2 = x.2 + 0
  omega
 ·have z1 : (x.1 == b) = false := beq_false_of_ne fun y => z y.symm
  rw [z1, if_neg z, Int.zero_add]
theorem xt (l : List Int) (f g : Int -> Int) : (l.map fun b => f b + g b).sum = (l.map f).sum + (l.map g).sum := by
 induction l with
 | nil => rfl
 | cons a r ih => rw [Ce, Ce, Ce, List.sum_cons, List.sum_cons, List.sum_cons, ih]; omega
theorem xu {hs : List Int} (nd : hs.Nodup) : ∀ {ds : List (Int × Int)}, (ds.map (·.1)).Nodup -> (∀ x ∈ ds, 0 <= x.2) -> (hs.map (du ds)).sum <= (ds.map (·.2)).sum := by
 intro ds
 induction ds with
 | nil =>
  intro _ _
  clear nd
  induction hs with
  | nil => exact Int.le_refl _
  | cons a r ih =>
   rw [Ce, List.sum_cons]
   show 0 + _ <= _
   rw [Int.zero_add]
   exact ih
 | cons x ds ih =>
  intro n1 h
  rw [Ce, C0] at n1
  have i1 := ih n1.2 fun y hy => h y (Ct _ hy)
  have x0 := h x CK
  have e : hs.map (du (x :: ds)) = hs.map fun b => (if b = x.1 then x.2 else 0) + du ds b := Cs fun b _ => xr n1.1 b
  rw [Ce, List.sum_cons, e, xt hs (fun b => if b = x.1 then x.2 else 0) (du ds)]
  by_cases z : x.1 ∈ hs
  ·have := vi (d := x.2) nd z
   omega
  ·have := xq (d := x.2) z
   omega
theorem PInv.sum {rows : bL} {hs ps : List Int} {ds : List (Int × Int)} (I : PInv rows (hs.map some) ps ds) : k7 rows hs = ps.sum - (ds.map (·.2)).sum := by
 have lh := I.lh
 rw [B4] at lh
 have hAs : ∀ (j : Nat) (b : Int), hs[j]? = some b -> hA (hs.map some) j = some b := fun j b e => by
  obtain ⟨hj, e'⟩ := B6.mp e
  rw [hZ hj, e']
 have h1 := tI (f := du ds) (rows := rows) (hs := hs) (ps := ps) lh I.lp fun j b e => I.tight j b (hAs j b e)
 have h2 : (hs.map (du ds)).sum = (ds.map (·.2)).sum := vj I.deal.nd I.dnd fun x hx => by
  obtain ⟨j, hj⟩ := I.held x hx
  unfold hA at hj
  rw [B5, B7] at hj
  cases e : hs[j]? with
  | none => rw [e] at hj; cases hj
  | some v => rw [e] at hj; cases hj; exact B8 e
 rw [h1, h2]
def Al (rows : bL) : Option Int -> Prop
 | none => ∀ hs, DP rows hs -> ¬ hs.Nodup
 | some t => (∃ hs, DP rows hs /\ hs.Nodup /\ k7 rows hs = t) /\ ∀ hs, DP rows hs -> hs.Nodup -> t <= k7 rows hs
theorem Priced.best {rows : bL} {hs ps : List Int} {tot : Int} {es : List (Int × Int)} (p : Priced rows hs tot ps es) : Al rows (some tot) := by
 obtain ⟨ds, I, pm⟩ := p.inv
 have hd := oH.mp I.deal
 have e : k7 rows hs = tot := by rw [p.tot, fT hd.1.len]
 refine ⟨⟨hs, hd.1, hd.2, e⟩, fun hs' d nd => ?_⟩
 have h1 := xp d I.lp I.feas
 have h2 := xu nd I.dnd I.dnn
 have h3 := I.sum
 omega
theorem Bk {a b : Int} : decide (V.int a = V.int b) = decide (a = b) := by simp
section
variable {X : Cx}
end
section
variable {α : Type} [DecidableEq α]
end
section
variable {α : Type} [DecidableEq α]
end
section
variable {α : Type}
end
section
variable {prog : Program} {w : World} {A : Around} {E : Value -> Shared -> Prop} {s : Shared} {T : String} {r d : Addr} {n : Nat} {P : Nat -> Value -> Prop} {OK : Heap -> Prop}
end
section
variable {X : Cx}
end
theorem vE {x y : V} {A B : Prop} (h : x = y) (hB : B) : if (!decide (x = y)) = true then A else B := by
 rw [decide_eq_true h]; exact bw hB
end L2
namespace L2
open PySem PySem.Spec PyProof.Rows
theorem ObjOk.has {P : Program} {w : World} {H : Hp} {h : Heap} {a : Addr} : ∀ {o : HO}, ObjOk P w H h a o -> ∃ ob, h.get? a = some ob := by
 intro o x
 cases o with
 | lst xs => obtain ⟨_, _, _, _, e⟩ := x; exact ⟨_, e⟩
 | tup xs => obtain ⟨_, _, _, ob, e, _⟩ := x; exact ⟨_, e⟩
 | dK kvs => obtain ⟨_, _, _, _, ob, _, _, e, _⟩ := x; exact ⟨_, e⟩
 | dT kvs => obtain ⟨_, _, _, _, ob, _, _, e, _⟩ := x; exact ⟨_, e⟩
 | set S n => obtain ⟨ob, _, _, _, e, _⟩ := x; exact ⟨_, e⟩
 | ins C dx fs => obtain ⟨_, _, _, e, _⟩ := x; exact ⟨_, e⟩
 | own y => exact x
 | xd fs => obtain ⟨_, ⟨ob, _, _, e, _⟩, _⟩ := x; exact ⟨_, e⟩
 | rng lo hi => obtain ⟨_, _, _, e⟩ := x; exact ⟨_, e⟩
 | frz ob u => obtain ⟨e, _⟩ := x; exact ⟨_, e⟩
 | tbl ps => exact ⟨_, x⟩
 | met f y => exact ⟨_, x⟩
 | ext φ => exact x.2.1
theorem HOk.stays {P : Program} {w : World} {H : Hp} {h h' : Heap} (ok : HOk P w H h) (k : ∀ b u, (H b).isSome = true -> h.get? b = some u -> h'.get? b = some u) : HOk P w H h' := fun a o q =>
  (ok a o q).stay (fun b u hb e => k b u (by rcases hb with rfl | hb; · rw [q]; rfl
                                             · rw [hb]; rfl) e) (fun _ z => z) fun _ _ z => z
structure Flies (P : Program) (w : World) (outer : List Env) (H H' : Hp) (s : Shared) (ea C : Addr) (a0 : Value) (B : Heap) (s' : Shared) : Prop where
 os : s'.os = s.os
 bare : AllBare s'.gens
 un : Un (gg outer) [] H H' s.heap s'.heap
 hok : HOk P w H' s'.heap
 fl : Heap.FlyingW B outer ea (.ref C) a0 s'.heap
 new : s.heap.get? ea = none
 free : H' ea = none
 cov : ∀ b o, s'.heap.get? b = some o -> b ∉ gg outer -> ((s.heap.get? b).isSome = true \/ (H' b).isSome = true) -> B.get? b = some o
def Bz (P : Program) (w : World) : tX := fun outer H s E e s' => ∃ (ea C : Addr) (a0 : Value) (B : Heap) (H' : Hp), e = .ref ea /\ E (.ref C) none H' /\ Flies P w outer H H' s ea C a0 B s'
section
variable {P : Program} {w : World} {K : PySem.W.Frag} {mg : Str -> Option Value} {base : Heap}
end
section
variable {P : Program} {w : World} {K : PySem.W.Frag} {mg : Str -> Option Value} {base : Heap} {N : List Str} {qual : Str} {scope : Scope} {f : Addr} {cd : Value} {A : Around} {outer : List Env} {s₀ : Shared} {H₀ : Hp} {E : XK}
theorem Bm {pins : List (Addr × Obj)} {σ : St} {H : Hp} {s : Shared} {h' : Heap} {e C : Addr} {vs : List Value} (I : Inv (nT (Bz P w) P w K mg base N qual scope f cd A outer s₀ H₀ E) pins σ H s) (hx : Heap.MadeExcOf s.heap h' e (.ref C) vs)
  (h : E (.ref C) none H) : (nT (Bz P w) P w K mg base N qual scope f cd A outer s₀ H₀ E).xe (.ref e) { s with heap := h' } := by
 have st : gg (envOfC qual scope s₀.heap.objs.size f cd :: outer) = s₀.heap.objs.size :: gg outer := rfl
 have hin : ∀ env ∈ (envOfC qual scope s₀.heap.objs.size f cd :: outer), ∀ a, env.frame = some a -> a ∈ gg (envOfC qual scope s₀.heap.objs.size f cd :: outer) := fun env he a ha => Eb.mpr ⟨env, he, ha⟩
 have fr : s.heap.FunFrames base (envOfC qual scope s₀.heap.objs.size f cd :: outer) := I.stack
 have fr' := PySem.W.funFrames_hide fr hin
 refine wpAny_leaves_madeW (s := { s with heap := h' }) I.ok.frames rfl (fun b o q => PySem.W.of_hideAll _ q) fr' hx fun h2 t fl tu bt up => ?_
 have up2 : s.heap.UpToSlots h2 := (Heap.UpToSlots.of_keeps hx.keeps).trans up
 have kB : ∀ b o, s.heap.get? b = some o -> b ∉ gg (envOfC qual scope s₀.heap.objs.size f cd :: outer) -> (PySem.W.hideAll s.heap (gg (envOfC qual scope s₀.heap.objs.size f cd :: outer))).get? b = some o := fun b o q n => PySem.W.hideAll_get _ q n
 have kp : ∀ b o, s.heap.get? b = some o -> b ∉ gg (envOfC qual scope s₀.heap.objs.size f cd :: outer) -> h2.get? b = some o := fun b o q n => fl.1 b o (kB b o q n)
 have old : ∀ b o, s₀.heap.get? b = some o -> b ∉ gg outer -> b ∉ gg (envOfC qual scope s₀.heap.objs.size f cd :: outer) := fun b o q n z => by
  rw [st] at z
  rcases Cm.mp z with z | z
  ·rw [z] at q; exact Dw _ (Heap.lt_size q)
  ·exact n z
 have tr : ∀ b, (H b).isSome = true -> b ∉ gg (envOfC qual scope s₀.heap.objs.size f cd :: outer) := fun b q z => by rw [I.stkFree b z] at q; cases q
 have un0 : Un (gg outer) [] H₀ H s₀.heap s.heap := I.base
 have slots : ∀ b o, s.heap.get? b = some o -> b ∈ gg outer -> ∃ sl, h2.get? b = some { o with slots := sl } := fun b o q m => by
  obtain ⟨_, o', q', nf⟩ := fr.mem (show b ∈ gg (envOfC qual scope s₀.heap.objs.size f cd :: outer) by rw [st]; exact Ct _ m)
  rw [q] at q'; cases q'
  exact up2 b o q nf
 refine ⟨e, C, .ref t, _, H, rfl, h, I.os, I.bare, ⟨fun b o q n nf _ => kp b o (un0.keep b o q n nf (by simp)) (old b o q nf), fun b o q n m _ => ?_, fun b o q n _ => un0.free b o q n (by simp), fun b o q _ => ?_, un0.tups, un0.frzs, un0.tbls⟩,
  I.hok.stays fun b u q e => kp b u e (tr b q), fl, ?_, ?_, fun b o q n z => ?_⟩
 ·obtain ⟨sl, q1⟩ := un0.slot b o q n m (by simp)
  obtain ⟨sl2, q2⟩ := slots b _ q1 m
  exact ⟨sl2, q2⟩
 ·obtain ⟨o1, q1⟩ := un0.there b o q (by simp)
  by_cases m : b ∈ gg outer
  ·obtain ⟨sl, q2⟩ := slots b _ q1 m
   exact ⟨_, q2⟩
  ·exact ⟨o1, kp b o1 q1 (old b o q m)⟩
 ·cases q : s₀.heap.get? e with
  | none => rfl
  | some o =>
   obtain ⟨o1, q1⟩ := un0.there e o q (by simp)
   rw [hx.new] at q1; cases q1
 ·cases q : H e with
  | none => rfl
  | some o =>
   obtain ⟨o1, q1⟩ := (I.hok e o q).has
   rw [hx.new] at q1; cases q1
 ·have nb : b ∉ gg (envOfC qual scope s₀.heap.objs.size f cd :: outer) /\ ∃ o1, s.heap.get? b = some o1 := by
   rcases z with z | z
   ·obtain ⟨o0, q0⟩ := Dc.mp z
    obtain ⟨o1, q1⟩ := un0.there b o0 q0 (by simp)
    exact ⟨old b o0 q0 n, o1, q1⟩
   ·obtain ⟨o0, q0⟩ := Dc.mp z
    obtain ⟨o1, q1⟩ := (I.hok b o0 q0).has
    exact ⟨tr b z, o1, q1⟩
  obtain ⟨n1, o1, q1⟩ := nb
  have q2 := kp b o1 q1 n1
  have q : h2.get? b = some o := q
  rw [q] at q2; cases q2
  exact kB b _ q1 n1
end
section
variable {X : Cx} {pins : List (Addr × Obj)} {σ : St} {H H' : Hp} {s s' : Shared} {ea C : Addr} {a0 : Value} {B h2 : Heap}
end
section
variable {X : Cx} {k : Nat} {f C : Addr} {fd : FuncData} {ps : List Str} {sp : Sp} {x y : Str} {st : Stmt} {p cpos epos np hpos pos : Pos} {e : Expr} {es : List Expr} {t : TA} {b₀ : Stmt} {suite : List Stmt}
end
section
variable {X : Cx} {k i : Nat} {f C : Addr} {fd : FuncData} {ps : List Str} {sp : Sp} {x y n : Str} {st : Stmt} {p cpos epos np hpos pos : Pos} {e : Expr} {es : List Expr} {t : TA} {b₀ : Stmt} {suite : List Stmt} {ts : TS} {c : Value}
end
section
open PySem.W PySem.Builtin.ObjectAttr PySem.Builtin PySem.Builtin.Getset_descriptor
variable {K : Frag} {x D : Addr}
variable {prog : Program} {w : World} {A : Around} {s : Shared} {E : Value -> Shared -> Prop}
end
section
variable {X : Cx} {k : Nat} {f : Addr} {fd : FuncData} {ps : List Str} {sp : Sp} {x : Str} {p pos : Pos} {e : Expr} {es : List Expr} {t : TA} {st : Stmt}
end
abbrev Bn := List (Int × Int)
section
variable {es : Bn} {cn k : Nat} {row : List Int}
end
section
variable {es : Bn} {cn : Nat} {S : List Int}
end
theorem y3 {c : Prop} [Decidable c] {A B : Prop} (h : c) (hB : B) : if (!decide c) = true then A else B := by rw [decide_eq_true h]; exact hB
section
variable {es : Bn} {cn : Nat} {r : List Int}
end
end L2
namespace L2
open PySem PySem.Spec PyProof.Rows PySem.W
def h8 : Nat -> List (List Nat)
 | 0 => [[]]
 | n + 1 => h8 n ++ (h8 n).map fun l => l ++ [n]
theorem vF (n : Nat) : (h8 n).length = 2 ^ n := by
 induction n with
 | zero => rfl
 | succ n ih => show (h8 n ++ _).length = _; rw [Cd, B4, ih, Nat.pow_succ]; omega
theorem AE {α : Type} {l : List α} {i : Nat} {x d : α} (h : l[i]? = some x) : l.getD i d = x := by rw [B5, h]; rfl
section
variable {s : Shared} {A : Around} {w : World} {prog : Program} {E : Value -> Shared -> Prop}
end
theorem rB (n : Nat) : ∀ l ∈ h8 n, ∀ x ∈ l, x < n := by
 induction n with
 | zero => intro l hl x hx; rw [Cg.mp hl] at hx; cases hx
 | succ n ih =>
  intro l hl x hx
  rcases Cw.mp hl with z | z
  ·have := ih l z x hx; omega
  ·obtain ⟨l', h1, rfl⟩ := Cb.mp z
   rcases Cw.mp hx with y | y
   ·have := ih l' h1 x y; omega
   ·rw [Cg.mp y]; omega
def gn (st : List Int) (l : List Nat) : List Int := l.map fun k => st.getD k 0
section
variable {X : Cx}
end
section
variable {X : Cx} {pins : List (Addr × Obj)} {σ : St} {H : Hp} {s : Shared} {h' : Heap}
end
section
variable {X : Cx} {a : Expr} {ta : TA} {p1 p2 kpos pos : Pos}
end
end L2
namespace L2
open PySem PySem.Spec PyProof.Rows
theorem tJ (st : List Int) (l : List Nat) (j : Nat) : gn st (l ++ [j]) = gn st l ++ [st.getD j 0] := by unfold gn; rw [Cf]; rfl
end L2
namespace L2
open PySem PySem.Spec PyProof.Rows PySem.W
abbrev SD := Array Nat × Array (Nat × Nat × Nat) × Nat
section
variable {prog : Program} {w : World} {E : Value -> Shared -> Prop} {A : Around} {κ : SortKind} {it : Array Keyed} {s : Shared} {n : Nat} {lt : Nat -> Nat -> Bool}
end
section
variable (n : Nat) (lt : Nat -> Nat -> Bool) (left : Bool) (k : Nat) (q : Array Nat) (base hint mx : Nat)
end
section
variable {prog : Program} {w : World} {E : Value -> Shared -> Prop} {A : Around} {κ : SortKind} {it : Array Keyed} {s : Shared} {n : Nat} {lt : Nat -> Nat -> Bool} {left : Bool} {k : Nat} {q : Array Nat} {base hint mx : Nat}
end
section
variable {prog : Program} {w : World} {E : Value -> Shared -> Prop} {A : Around} {κ : SortKind} {it : Array Keyed} {s : Shared} {n : Nat} {lt : Nat -> Nat -> Bool}
end
section
variable {prog : Program} {w : World} {E : Value -> Shared -> Prop} {A : Around} {κ : SortKind} {it : Array Keyed} {s : Shared} {n : Nat} {lt : Nat -> Nat -> Bool} {qa qb : Array Nat} {mg : Nat}
end
def putAt {α : Type} (off : Nat) (m : Array α) (p : Array α) : Array α := m.toList.zipIdx.foldl (fun a x => a.setIfInBounds (off + x.2) x.1) p
section
variable {prog : Program} {w : World} {E : Value -> Shared -> Prop} {A : Around} {κ : SortKind} {it : Array Keyed} {s : Shared} {n : Nat} {lt : Nat -> Nat -> Bool}
end
section
variable (n : Nat) (lt : Nat -> Nat -> Bool) (lo nrem : Nat)
end
section
variable {prog : Program} {w : World} {E : Value -> Shared -> Prop} {A : Around} {κ : SortKind} {it : Array Keyed} {s : Shared} {n : Nat} {lt : Nat -> Nat -> Bool} {lo nrem : Nat}
end
section
variable (n : Nat) (lt : Nat -> Nat -> Bool) (size mr : Nat)
end
section
variable {prog : Program} {w : World} {E : Value -> Shared -> Prop} {A : Around} {κ : SortKind} {it : Array Keyed} {s : Shared} {n : Nat} {lt : Nat -> Nat -> Bool}
end
set_option synthInstance.maxSize 4096 in
set_option synthInstance.maxHeartbeats 200000 in
instance dSD : DecidableEq (Nat × SD) := instDecidableEqProd (α := Nat) (β := Array Nat × Array (Nat × Nat × Nat) × Nat)
def BY : List Nat := [0, 1, 3, 7, 15, 31, 63, 47, 23, 55, 39, 11, 27, 59, 43, 19, 51, 35, 5, 13, 29, 61, 45, 21, 53, 37, 9, 25, 57, 41, 17, 49, 33, 2, 6, 14, 30, 62, 46, 22, 54, 38, 10, 26, 58, 42, 18, 50, 34, 4, 12, 28, 60, 44, 20, 52, 36, 8, 24, 56, 40, 16, 48, 32]
def BZ : List Nat := [0, 1, 33, 49, 57, 61, 63, 2, 18, 26, 30, 32, 34, 42, 46, 48, 50, 54, 56, 58, 60, 62, 3, 11, 15, 17, 19, 23, 25, 27, 29, 31, 35, 39, 41, 43, 45, 47, 51, 53, 55, 59, 4, 8, 10, 12, 14, 16, 20, 22, 24, 28, 36, 38, 40, 44, 52, 5, 7, 9, 13, 21, 37, 6]
theorem qr {α : Type} (vs : List α) (d : α) : (B9 vs.length).map (fun i => vs.getD i d) = vs := by
 apply Du
 ·simp
 ·intro i h1 h2
  rw [C2, DH, B5, B3 h2]; rfl
section
variable {prog : Program} {w : World} {E : Value -> Shared -> Prop} {A : Around} {κ : SortKind} {s : Shared} {n : Nat} {lt : Nat -> Nat -> Bool} {q : List Nat} {ks vs : List Value}
end
section
variable {X : Cx}
end
section
variable {X : Cx} {pins : List (Addr × Obj)} {σ : St} {H : Hp} {s : Shared} {h' : Heap}
end
section
variable {X : Cx}
end
section
variable {X : Cx} {E : Value -> Shared -> Prop} {f : Value} {r : V -> Hp -> VK -> Prop} {kS D : Addr} {e1 : Nat} {pins : List (Addr × Obj)} {σ : St}
end
section
variable {X : Cx} {pins : List (Addr × Obj)} {σ : St} {H : Hp} {s : Shared} {r : V -> Hp -> VK -> Prop} {C : List V -> Hp -> Nat -> (Nat -> Nat -> Bool) -> Prop}
end
section
variable {X : Cx} {a : Expr} {ta : TA} {p1 p2 kpos pos : Pos}
def BB (a b : List Int) : Bool := if a.length = b.length then HT.xN a b else decide (a.length < b.length)
end
section
variable {X : Cx} {a : Expr} {ta : TA} {p1 p2 kpos pos : Pos}
end
section
variable {n : Nat} {lt : Nat -> Nat -> Bool}
end
def qS : Nat -> List Nat
 | 0 => [0]
 | 1 => [0, 1]
 | 2 => [0, 1, 3, 2]
 | 3 => [0, 1, 3, 7, 5, 2, 6, 4]
 | 4 => [0, 1, 3, 7, 15, 11, 5, 13, 9, 2, 6, 14, 10, 4, 12, 8]
 | 5 => [0, 1, 3, 7, 15, 31, 23, 11, 27, 19, 5, 13, 29, 21, 9, 25, 17, 2, 6, 14, 30, 22, 10, 26, 18, 4, 12, 28, 20, 8, 24, 16]
 | _ => BY
def qK : Nat -> List Nat
 | 0 => [0]
 | 1 => [0, 1]
 | 2 => [0, 1, 3, 2]
 | 3 => [0, 1, 5, 7, 2, 4, 6, 3]
 | 4 => [0, 1, 9, 13, 15, 2, 6, 8, 10, 12, 14, 3, 5, 7, 11, 4]
 | 5 => [0, 1, 17, 25, 29, 31, 2, 10, 14, 16, 18, 22, 24, 26, 28, 30, 3, 7, 9, 11, 13, 15, 19, 21, 23, 27, 4, 6, 8, 12, 20, 5]
 | _ => BZ
def Bo (n : Nat) : List Nat := (qK n).map fun i => (qS n).getD i 0
theorem Am {P : Nat -> Prop} (h0 : P 0) (h1 : P 1) (h2 : P 2) (h3 : P 3) (h4 : P 4) (h5 : P 5) (h6 : P 6) : ∀ n, n <= 6 -> P n
 | 0, _ => h0 | 1, _ => h1 | 2, _ => h2 | 3, _ => h3 | 4, _ => h4 | 5, _ => h5 | 6, _ => h6
 | n + 7, h => absurd h (by omega)
theorem vG : ∀ n, n <= 6 -> (Bo n).Perm (B9 (2 ^ n)) := fun n h => List.isPerm_iff.mp (Am (P := fun n => (Bo n).isPerm (B9 (2 ^ n)) = true) (by decide +kernel) (by decide +kernel) (by decide +kernel) (by decide +kernel) (by decide +kernel) (by decide +kernel) (by decide +kernel) n h)
def Bp (st : List Int) : List (List Int) := (Bo st.length).map fun i => gn st ((h8 st.length).getD i [])
theorem vH {st : List Int} (h6 : st.length <= 6) : (Bp st).Perm ((h8 st.length).map (gn st)) := by
 have := (vG _ h6).map fun i => gn st ((h8 st.length).getD i [])
 have e : (B9 (2 ^ st.length)).map (fun i => gn st ((h8 st.length).getD i [])) = (h8 st.length).map (gn st) := by
  have p := qr (h8 st.length) []
  rw [vF] at p
  conv => rhs; rw [<- p]
  rw [Cu]
  rfl
 rw [e] at this
 exact this
theorem rC {α : Type} {l : List α} {i : Nat} {d : α} (h : i < l.length) : l[i]? = some (l.getD i d) := by
 rw [B5, B3 h]; rfl
def An (st : List Int) : List (List Int) := (h8 st.length).map (gn st)
theorem oI {st : List Int} {x : Int} {l : List Nat} (h : ∀ k ∈ l, k < st.length) : gn (st ++ [x]) l = gn st l := by
 unfold gn
 refine Cs fun k hk => ?_
 rw [B5, B5, CC (h k hk)]
theorem vI (st : List Int) (x : Int) : An (st ++ [x]) = An st ++ (An st).map fun l => l ++ [x] := by
 unfold An
 rw [Cd, Cn]
 show (h8 st.length ++ (h8 st.length).map fun l => l ++ [st.length]).map (gn (st ++ [x])) = _
 rw [Cf]
 refine congr (congrArg _ ?_) ?_
 ·exact Cs fun l hl => oI (rB _ l hl)
 ·rw [Cu, Cu]
  refine Cs fun l hl => ?_
  show gn (st ++ [x]) (l ++ [st.length]) = gn st l ++ [x]
  rw [tJ, oI (rB _ l hl), B5, CI (Ca _), Dv]
  rfl
def AF (l g : List Int) : List Int := l.filter fun x => !decide (x ∈ g)
def Ao (may : List (List Int)) (g : List Int) : List (List Int) := may.map fun l => AF l g
theorem m3 {l g : List Int} {x : Int} : x ∈ AF l g <-> x ∈ l /\ x ∉ g := by unfold AF; rw [CD]; simp
theorem rD {may : List (List Int)} {g : List Int} : (Ao may g).length = may.length := B4 _
theorem qt {may : List (List Int)} {g : List Int} {i : Nat} : (Ao may g).getD i [] = AF (may.getD i []) g := by
 unfold Ao
 rw [B5, B7, B5]
 cases may[i]? <;> rfl
theorem xv {may : List (List Int)} {ts : List sR} {g hs : List Int} : IsPlan (Ao may g) ts hs <-> IsPlan may ts hs /\ ∀ x ∈ hs, x ∉ g := by
 constructor
 ·intro p
  have l := p.len
  rw [rD] at l
  refine ⟨⟨l, fun i hi => ?_, p.kp⟩, fun x hx => ?_⟩
  ·have := p.of i hi
   rw [qt, m3] at this
   exact this.1
  ·obtain ⟨i, hi, rfl⟩ := Ck.mp hx
   have := p.of i hi
   rw [qt, m3, aD hi] at this
   exact this.2
 ·rintro ⟨p, h⟩
  refine ⟨by rw [rD]; exact p.len, fun i hi => ?_, p.kp⟩
  rw [qt, m3]
  exact ⟨p.of i hi, h _ (by rw [aD hi]; exact CA hi)⟩
structure AllOf (may : List (List Int)) (U : List Int) : Prop where
 up : U.Pairwise (· < ·)
 mem : ∀ x, x ∈ U <-> ∃ p ∈ may, x ∈ p
theorem AllOf.sub {may : List (List Int)} {U : List Int} (a : AllOf may U) : ∀ p ∈ may, ∀ b ∈ p, b ∈ U := fun p hp b hb => (a.mem b).mpr ⟨p, hp, hb⟩
theorem vJ {may : List (List Int)} {ts : List sR} {hs U : List Int} (p : IsPlan may ts hs) (a : AllOf may U) : ∀ x ∈ hs, x ∈ U := fun x hx => by
 obtain ⟨i, hi, rfl⟩ := Ck.mp hx
 have := p.of i hi
 rw [aD hi] at this
 have hl := p.len
 rw [iC (by omega)] at this
 exact a.sub _ (CA (by omega)) _ this
theorem lZ (P : Int -> Bool) : ∀ (n : Nat) (U : List Int), U.length = n -> U.filter P ∈ An U
 | 0, U, h => by rw [Dk h]; exact Cg.mpr rfl
 | n + 1, U, h => by
  rcases List.eq_nil_or_concat U with rfl | ⟨V, x, rfl⟩
  ·cases h
  ·rw [List.concat_eq_append] at h ⊢
   rw [Cd, Cn] at h
   have ih := lZ P n V (by omega)
   rw [vI, CT, Da, Ep]
   by_cases c : P x = true
   ·rw [if_pos c]; exact CF _ (Cb.mpr ⟨_, ih, rfl⟩)
   ·rw [if_neg c, Dh]; exact Cr _ ih
theorem tK {U : List Int} (h6 : U.length <= 6) (P : Int -> Bool) : U.filter P ∈ Bp U := (vH h6).mem_iff.mpr (lZ P _ U rfl)
theorem BC {may : List (List Int)} {ts : List sR} {U g : List Int} {Ps : List (List Int)} (A : AllOf may U) (h6 : U.length <= 6) (pn : ∀ hs ∈ Ps, IsPlan may ts hs) (fw : ∀ s ∈ Bp U, BB s g = true -> ∃ hs ∈ Ps, ∀ x ∈ hs, x ∉ s) {S : List Int} (no : ∀ hs, ¬ IsPlan (Ao may S) ts hs) : g.length <= S.length := by
 refine Decidable.byContradiction fun z => ?_
 have m := tK h6 (fun x => decide (x ∈ S))
 have le : (U.filter fun x => decide (x ∈ S)).length <= S.length := ((qZ A.up).sublist List.filter_sublist).length_le_of_subset fun x hx => of_decide_eq_true (CD.mp hx).2
 obtain ⟨hs, hm, hd⟩ := fw _ m (by unfold BB; rw [if_neg (by omega)]; exact decide_eq_true (by omega))
 refine no hs (xv.mpr ⟨pn hs hm, fun x hx hS => hd x hx (CD.mpr ⟨vJ (pn hs hm) A x hx, decide_eq_true hS⟩)⟩)
end L2
namespace L2
open PySem PySem.Spec PyProof.Rows
section
variable {X : Cx} {tg : Expr}
def y4 (ta : TA) : TI := fun σ H R => ta σ H fun vs H1 => ∃ i j k : Int, vs = [.int i, .int j, .int k] /\ 0 <= i /\ i < 2 ^ 60 /\ -(2 ^ 60) < j /\ j < 2 ^ 60 /\ 0 < k /\ k < 1073741824 /\ R (uM i k (if i < j then (j - i - 1) / k + 1 else 0).toNat) H1
theorem qu {a b c : Expr} {ta : TA} {p pos : Pos} (hg : Gl X "range") (hm : X.mg "range" = none) (ha : PA X [a, b, c] ta) (hs : starEach [a, b, c] X.env = [(false, eval a X.env), (false, eval b X.env), (false, eval c X.env)] := by rfl)
  (hs2 : starEach [b, c] X.env = [(false, eval b X.env), (false, eval c X.env)] := by rfl) : PI X tg (.Call (.Name "range" p) [a, b, c] [] pos) (y4 ta) := by
 intro pins s σ H R I h
 refine Call_ (fk I hg hm boot_range (PyProof.Rows.callWith_type1 (br (ha pos pins s σ H _ I h) fun us s1 ⟨vs, H1, I1, r1, q1⟩ => ?_) (by rw [hs, hs2]) (by rw [hs2]; rfl)))
 obtain ⟨i, j, k, e, h1, h2, h3, h4, h5, h6, q⟩ := q1
 subst e
 cases r1 with
 | cons r rr =>
  cases rr with
  | cons r' rr =>
   cases rr with
   | cons r'' rr =>
    cases rr
    obtain ⟨t, rfl⟩ := r
    obtain ⟨t', rfl⟩ := r'
    obtain ⟨t'', rfl⟩ := r''
    have hfit : ∀ z : Int, -(2 ^ 62) <= z -> z < 2 ^ 62 -> Builtin.Range.rangeFitsLong z = true := fun z a b => by
     unfold Builtin.Range.rangeFitsLong
     rw [C9, decide_eq_true_eq, decide_eq_true_eq]
     omega
    have hsz : Builtin.Range.rangeSize i j k = (if i < j then (j - i - 1) / k + 1 else 0) := by
     unfold Builtin.Range.rangeSize
     rw [if_pos h5]
    have hnn : 0 <= (if i < j then (j - i - 1) / k + 1 else 0) := by
     split
     ·have := Int.ediv_nonneg (a := j - i - 1) (b := k) (by omega) (by omega); omega
     ·omega
    have hle : (if i < j then (j - i - 1) / k + 1 else 0) < 2 ^ 62 := by
     split
     ·have := Int.ediv_le_self (a := j - i - 1) k (by omega); omega
     ·omega
    have hsm : Builtin.Range.small i j k = true := by
     unfold Builtin.Range.small
     rw [hsz, hfit i (by omega) (by omega), hfit j (by omega) (by omega), hfit k (by omega) (by omega), hfit _ (by omega) hle, if_pos h5, hfit (j + (k - 1)) (by omega) (by omega)]
     simp
    refine call_range_3 (by omega) ?_ (Or.inl (PyProof.noPylong_small (by omega)))
    refine wpAny_pyIter_range (IsRange.new ..) hsm ?_
    generalize hs9 : ({ s1 with heap := s1.heap.push { cls := .type "range", data := .fields #[.int i t, .int j t', .int k t''] }, toks := s1.toks } : Shared) = s2
    have I2 : Inv X pins σ H1 s2 := by rw [<- hs9]; exact I1.kept fun b o e => Heap.get?_push_of_some _ e
    refine ⟨s2.heap.objs.size, [s2.heap.objs.size], _, _, H1, rfl, I2.kept (t' := s2.toks) fun b o e => Heap.get?_push_of_some _ e, sG _ i k (if i < j then (j - i - 1) / k + 1 else 0).toNat, ?_, fun b hb => ?_, q⟩
    ·have e1 : i + ((0 : Nat) : Int) * k = i := by simp
     have e2 : (((if i < j then (j - i - 1) / k + 1 else 0).toNat : Nat) : Int) - ((0 : Nat) : Int) = Builtin.Range.rangeSize i j k := by rw [hsz]; omega
     rw [e1, e2]
     exact Heap.get?_push_size _ rfl
    ·have e : b = s2.heap.objs.size := by simpa using hb
     subst e
     exact I2.fpOk (Ca _) (I2.hok.fresh (Ca _))
end
abbrev cH := List (List (Int × Int))
def bW (rows : cH) : List (List Int) := rows.map aw
theorem dv (rows : cH) : (bW rows).length = rows.length := B4 _
structure BillOk (rows : cH) (bs : List Int) : Prop where
 up : ∀ row ∈ rows, (aw row).Pairwise (· < ·)
 inn : ∀ row ∈ rows, ∀ x ∈ row, x.1 ∈ bs
 len : ∀ row ∈ rows, row.length <= bs.length
 bu : bs.Pairwise (· < ·)
 pos : ∀ b ∈ bs, 1 <= b
section
variable {X : Cx} {k i : Nat} {f C : Addr} {fd : FuncData} {ps : List Str} {sp : Sp} {x y nm : Str} {st : Stmt} {p cpos epos np hpos pos xpos : Pos} {e : Expr} {es : List Expr} {t : TA} {b₀ : Stmt} {suite : List Stmt} {ts : TS} {c : Value}
end
end L2
namespace L2
open PySem PySem.Spec PyProof.Rows PySem.W
theorem tL (B : Nat) (x : Int) (k : Nat) (hk : k < B) : ((B9 B).map fun b => if k = b then x else 0).sum = x := by
 induction B with
 | zero => omega
 | succ B ih =>
  rw [C1, Cf, List.sum_append]
  simp only [Ce, DT, List.sum_cons, List.sum_nil]
  by_cases c : k < B
  ·rw [ih c, if_neg (by omega)]; omega
  ·have e : k = B := by omega
   have z : ((B9 B).map fun b => if k = b then x else 0) = (B9 B).map fun _ => (0 : Int) := Cs fun b hb => if_neg (by have := CB.mp hb; omega)
   have z2 : ((B9 B).map fun _ => (0 : Int)).sum = 0 := by
    clear z ih hk c e
    induction B with
    | zero => rfl
    | succ B ih => rw [C1, Cf, List.sum_append, ih]; rfl
   rw [z, z2, if_pos e]; omega
theorem vK {α : Type} (l : List α) (f g : α -> Int) : (l.map fun b => f b + g b).sum = (l.map f).sum + (l.map g).sum := by
 induction l with
 | nil => rfl
 | cons a l ih => simp only [Ce, List.sum_cons, ih]; omega
theorem km (B : Nat) (g : Nat -> Nat) (f : Nat -> Int) : ∀ m, (∀ i, i < m -> g i < B) -> ((B9 B).map fun b => (((B9 m).filter fun i => decide (g i = b)).map f).sum).sum = ((B9 m).map f).sum
 | 0, _ => by
  have : ((B9 B).map fun b => (((B9 0).filter fun i => decide (g i = b)).map f).sum) = (B9 B).map fun _ => (0 : Int) := rfl
  rw [this]
  clear this
  induction B with
  | zero => rfl
  | succ B ih => rw [C1, Cf, List.sum_append, ih fun i h => absurd h (Nat.not_lt_zero _)]; rfl
 | m + 1, h => by
  have ih := km B g f m fun i hi => h i (by omega)
  rw [C1, Cf, List.sum_append, <- ih]
  have e : ((B9 B).map fun b => (((B9 m ++ [m]).filter fun i => decide (g i = b)).map f).sum) = (B9 B).map fun b => (((B9 m).filter fun i => decide (g i = b)).map f).sum + if g m = b then f m else 0 := by
   refine Cs fun b _ => ?_
   rw [CT, Cf, List.sum_append, Da, Ep]
   by_cases c : g m = b
   ·rw [if_pos (decide_eq_true c), if_pos c]; simp
   ·rw [if_neg (by rw [decide_eq_false c]; exact Cj), if_neg c]; rfl
  rw [e, vK, tL B (f m) (g m) (h m (by omega))]
  simp
theorem xw {p : List Int} (c : bD p) (f : Nat -> Int) : ((B9 (dd p).length).map fun b => ((bV p b).map f).sum).sum = ((B9 p.length).map f).sum := by
 have key : ∀ i, i < p.length -> ∃ b : Nat, p.getD i 0 = (b : Int) /\ b < (dd p).length := fun i hi => by
  obtain ⟨b, e, hb⟩ := c4 c (x := p.getD i 0) (by rw [aD hi]; exact CA hi)
  exact ⟨b, e, hb⟩
 have e : ∀ b, bV p b = (B9 p.length).filter fun i => decide ((p.getD i 0).toNat = b) := fun b => by
  unfold bV
  refine List.filter_congr fun i hi => ?_
  obtain ⟨b', e1, _⟩ := key i (CB.mp hi)
  rw [e1, CG]
  exact decide_eq_decide.mpr ⟨fun h => by omega, fun h => by omega⟩
 have e2 : ((B9 (dd p).length).map fun b => ((bV p b).map f).sum) = (B9 (dd p).length).map fun b => (((B9 p.length).filter fun i => decide ((p.getD i 0).toNat = b)).map f).sum := Cs fun b _ => by rw [e b]
 rw [e2]
 refine km _ (fun i => (p.getD i 0).toNat) f p.length fun i hi => ?_
 obtain ⟨b', e1, hb⟩ := key i hi
 rw [e1, CG]
 exact hb
theorem vL {rows : cH} (nd : ∀ row ∈ rows, (aw row).Nodup) {st : List Nat} (hs : st ≠ []) {b : Int} (hb : b ∈ eQ rows st) : aN (g6 rows st) b = some (iI rows st b) := by
 rw [mS nd st hs]
 generalize eQ rows st = ks at hb
 unfold aN
 induction ks with
 | nil => cases hb
 | cons k ks ih =>
  rw [Ce, CS]
  by_cases e : k = b
  ·subst e
   simp
  ·rcases Cm.mp hb with z | z
   ·exact absurd z.symm e
   ·have : ((k, iI rows st k).1 == b) = false := by simpa using e
    rw [this]
    exact ih z
theorem kq {rows : cH} (nd : ∀ row ∈ rows, (aw row).Nodup) {st : List Nat} (hs : st ≠ []) : aw (g6 rows st) = eQ rows st := by
 rw [mS nd st hs]
 unfold aw
 rw [Cu]
 exact List.map_id _
theorem aH (rows : cH) (p : List Int) : (bE rows p).length = (dd p).length := by unfold bE; rw [B4, CH]
theorem oJ {rows : cH} {p : List Int} {b : Nat} (h : b < (dd p).length) : (bE rows p).getD b [] = g6 rows (bV p b) := by
 unfold bE
 rw [B5, B7, De h]; rfl
theorem gq {rows : cH} (nd : ∀ row ∈ rows, (aw row).Nodup) {p : List Int} (c : bD p) : ∀ b, b < (dd p).length -> ∀ x, x ∈ aw ((bE rows p).getD b []) <-> x ∈ fA (bW rows) p b := fun b hb x => by
 rw [oJ hb, kq nd (cm c hb)]
 unfold fA
 rw [oC _ (cm c hb), dX (cm c hb)]
 have e : ∀ s, (bW rows).getD s [] = aw (rows.getD s []) := fun s => by
  unfold bW
  rw [B5, B7, B5]
  cases rows[s]? <;> rfl
 simp only [e]
theorem ku {rows : cH} (nd : ∀ row ∈ rows, (aw row).Nodup) {p ds : List Int} (c : bD p) (hl : ds.length = (dd p).length) (inn : ∀ b, b < (dd p).length -> ds.getD b 0 ∈ aw ((bE rows p).getD b [])) :
  k7 (bE rows p) ds = ((B9 p.length).map fun s => (aN (rows.getD s []) (ds.getD (p.getD s 0).toNat 0)).getD 0).sum := by
 rw [<- fT (by rw [aH]; exact hl), <- xw c]
 unfold bC
 rw [aH]
 refine congrArg List.sum (Cs fun b hb => ?_)
 have hb := CB.mp hb
 have m := inn b hb
 unfold cg
 rw [oJ hb] at m ⊢
 rw [kq nd (cm c hb)] at m
 rw [vL nd (cm c hb) m]
 show iI rows (bV p b) (ds.getD b 0) = _
 unfold iI
 refine congrArg List.sum (Cs fun s hs => ?_)
 rw [(dg.mp hs).2, CG]
theorem i5 (f : Nat -> Int) (nn : ∀ i, 0 <= f i) : ∀ (m n : Nat), m <= n -> ((B9 m).map f).sum <= ((B9 n).map f).sum
 | m, 0, h => by
  have : m = 0 := by omega
  subst this; exact Int.le_refl _
 | m, n + 1, h => by
  by_cases e : m = n + 1
  ·subst e; exact Int.le_refl _
  ·have ih := i5 f nn m n (by omega)
   rw [C1, Cf, List.sum_append]
   have := nn n
   simp only [Ce, DT, List.sum_cons, List.sum_nil]
   omega
theorem xx {row : List (Int × Int)} (h : ∀ x ∈ row, 0 <= x.2) (b : Int) : 0 <= (aN row b).getD 0 := by
 cases e : aN row b with
 | none => exact Int.le_refl _
 | some c => exact h _ (ee e)
theorem rE {rows : cH} (h : ∀ row ∈ rows, ∀ x ∈ row, 0 <= x.2) (s : Nat) (b : Int) : 0 <= (aN (rows.getD s []) b).getD 0 := by
 refine xx (fun x hx => ?_) b
 rw [B5] at hx
 cases e : rows[s]? with
 | none => rw [e] at hx; cases hx
 | some row => rw [e] at hx; exact h row (B8 e) x hx
theorem l5 {rows : cH} {ts : List sR} (nd : ∀ row ∈ rows, (aw row).Nodup) (nn : ∀ row ∈ rows, ∀ x ∈ row, 0 <= x.2) {p hs : List Int} (b : Beg p hs) (ip : IsPlan (bW rows) ts hs) {t : Int} (be : Al (bE rows p) (some t)) : t <= bC rows hs := by
 have c := b.canon
 have hl := ip.len
 rw [dv] at hl
 have hin : ∀ k, k < (dd p).length -> fx p (k : Int) < p.length /\ p.getD (fx p (k : Int)) 0 = (k : Int) := fun k hk => by
  have := c7 c hk
  refine ⟨gY this, ?_⟩
  rw [B5, j0 this]; rfl
 have at' : ∀ k, k < (dd p).length -> ((B9 (dd p).length).map fun (k : Nat) => hs.getD (fx p (k : Int)) 0).getD k 0 = hs.getD (fx p (k : Int)) 0 := fun k hk => by
  rw [B5, B7, De hk]; rfl
 have dl : ((B9 (dd p).length).map fun (k : Nat) => hs.getD (fx p (k : Int)) 0).length = (dd p).length := by rw [B4, CH]
 have inn : ∀ k, k < (dd p).length -> ((B9 (dd p).length).map fun (k : Nat) => hs.getD (fx p (k : Int)) 0).getD k 0 ∈ aw ((bE rows p).getD k []) := fun k hk => by
  rw [at' k hk, gq nd c k hk, fS c hk]
  intro i hi ei
  obtain ⟨a1, a2⟩ := hin k hk
  have := (b.same a1 hi).mp (by rw [a2, ei])
  rw [this]
  exact ip.of i (Cy hi b.1)
 have nd2 : ((B9 (dd p).length).map fun (k : Nat) => hs.getD (fx p (k : Int)) 0).Nodup := by
  rw [Co, Df]
  refine List.Pairwise.imp_of_mem ?_ (Co.mp List.nodup_range)
  intro k r hk hr hne e
  obtain ⟨a1, a2⟩ := hin k (CB.mp hk)
  obtain ⟨b1, b2⟩ := hin r (CB.mp hr)
  have := (b.same a1 b1).mpr e
  rw [a2, b2] at this
  omega
 have cs := ku nd c dl inn
 generalize ((B9 (dd p).length).map fun (k : Nat) => hs.getD (fx p (k : Int)) 0) = ds at at' dl inn nd2 cs
 have dp : DP (bE rows p) ds := by
  refine (oH.mp (⟨by rw [B4, aH]; exact dl, fun k h1 h2 => ?_, nd2⟩ : Deal ((bE rows p).map aw) ds)).1
  have hk : k < (dd p).length := by omega
  have := inn k hk
  rw [aD h1] at this
  rw [C2]
  have e : (bE rows p).getD k [] = (bE rows p)[k]'(by rw [aH]; exact hk) := AE (B3 (by rw [aH]; exact hk))
  rw [e] at this
  exact this
 have low := be.2 ds dp nd2
 rw [cs] at low
 refine Int.le_trans low ?_
 have e3 : ((B9 p.length).map fun s => (aN (rows.getD s []) (ds.getD (p.getD s 0).toNat 0)).getD 0) = (B9 p.length).map (cg rows hs) := by
  refine Cs fun s hs' => ?_
  have hs' := CB.mp hs'
  unfold cg
  obtain ⟨k, e, hk⟩ := c4 c (x := p.getD s 0) (by rw [aD hs']; exact CA hs')
  rw [e, CG, at' k hk]
  obtain ⟨a1, a2⟩ := hin k hk
  rw [(b.same a1 hs').mp (by rw [a2, e])]
 rw [e3]
 unfold bC
 exact i5 _ (fun i => rE nn i _) _ _ (by have := b.1; omega)
theorem i6 {rows : cH} (nd : ∀ row ∈ rows, (aw row).Nodup) {p ds : List Int} (c : bD p) (hl : p.length = rows.length) (d : Deal ((bE rows p).map aw) ds) : bC rows (p.map fun x => ds.getD x.toNat 0) = k7 (bE rows p) ds := by
 have dl := d.len
 rw [B4, aH] at dl
 rw [ku nd c dl fun b hb => ?_]
 ·unfold bC
  rw [<- hl]
  refine congrArg List.sum (Cs fun s hs => ?_)
  have hs := CB.mp hs
  unfold cg
  have e : (p.map fun x => ds.getD x.toNat 0).getD s 0 = ds.getD (p.getD s 0).toNat 0 := by simp [B5, hs]
  rw [e]
 ·have h1 : b < ds.length := by omega
  have h2 : b < ((bE rows p).map aw).length := by rw [B4, aH]; exact hb
  have := d.of b h1 h2
  rw [C2] at this
  rw [aD h1, AE (d := []) (B3 (show b < (bE rows p).length by rw [aH]; exact hb))]
  exact this
structure QB (rows : cH) (U : List Int) : Prop where
 r6 : rows.length <= 6
 ok : ∀ row ∈ rows, row.length <= 20 /\ (aw row).Nodup
 up : ∀ row ∈ rows, (aw row).Pairwise (· < ·)
 nn : ∀ row ∈ rows, ∀ x ∈ row, 0 <= x.2
 sub : ∀ row ∈ rows, ∀ x ∈ row, x.1 ∈ U
 u26 : U.length <= 26
theorem QB.nd {rows : cH} {U : List Int} (h : QB rows U) : ∀ row ∈ rows, (aw row).Nodup := fun row hr => (h.ok row hr).2
theorem xy {rows : cH} {U : List Int} (h : QB rows U) : ∀ st, st ≠ [] -> (eQ rows st).Nodup /\ (eQ rows st).length <= 20 /\ ∀ b ∈ eQ rows st, b ∈ U := by
 refine g7 (fun s => ?_) (fun st s hne ih => ?_)
 ·show (aw (rows.getD s [])).Nodup /\ (aw (rows.getD s [])).length <= 20 /\ ∀ b ∈ aw (rows.getD s []), b ∈ U
  rw [B5]
  cases e : rows[s]? with
  | none => exact ⟨DR, Cz _, fun _ z => by cases z⟩
  | some row =>
   have m := B8 e
   refine ⟨(h.ok row m).2, ?_, fun b hb => ?_⟩
   ·show (row.map (·.1)).length <= 20
    rw [B4]; exact (h.ok row m).1
   ·obtain ⟨x, hx, rfl⟩ := Cb.mp hb
    exact h.sub row m x hx
 ·rw [eA hne]
  exact ⟨ih.1.sublist List.filter_sublist, CJ (CM _ _) ih.2.1, fun b hb => ih.2.2 b (CD.mp hb).1⟩
theorem rF {rows : cH} {U : List Int} (h : QB rows U) {p : List Int} (c : bD p) : ∀ row ∈ bE rows p, (row.map (·.1)).Nodup /\ row.length <= 20 /\ ∀ x ∈ row, 0 <= x.2 /\ x.1 ∈ U := fun row hr => by
 obtain ⟨b, hb, rfl⟩ := Cb.mp hr
 have hb := CB.mp hb
 have ne := cm c hb
 obtain ⟨k1, k2, k3⟩ := xy h _ ne
 have ek : (g6 rows (bV p b)).map (·.1) = eQ rows (bV p b) := kq h.nd ne
 refine ⟨by rw [ek]; exact k1, ?_, fun x hx => ?_⟩
 ·rw [<- B4 (f := fun x : Int × Int => x.1), ek]; exact k2
 ·have m : x.1 ∈ eQ rows (bV p b) := by rw [<- ek]; exact Cb.mpr ⟨x, hx, rfl⟩
  refine ⟨?_, k3 _ m⟩
  rw [mS h.nd _ ne] at hx
  obtain ⟨y, _, rfl⟩ := Cb.mp hx
  show 0 <= iI rows (bV p b) y
  unfold iI
  generalize bV p b = st
  induction st with
  | nil => exact Int.le_refl _
  | cons s st ih =>
   rw [Ce, List.sum_cons]
   have := rE h.nn s y
   omega
theorem qv {rows : cH} (nd : ∀ row ∈ rows, (aw row).Nodup) {p : List Int} (c : bD p) {qs : List Nat} (s : Short ((bE rows p).map aw) qs) : Short (dh (bW rows) p) qs := by
 obtain ⟨X, hX, hq⟩ := s.few
 refine ⟨s.up, X, hX, fun q m => ?_⟩
 obtain ⟨r, e, hr⟩ := hq q m
 have hl := (B6.mp e).1
 rw [B4, aH] at hl
 refine ⟨_, di hl, fun x hx => hr x ?_⟩
 have := (gq nd c q hl x).mpr hx
 have e2 : (bE rows p)[q]? = some ((bE rows p).getD q []) := rC (by rw [aH]; exact hl)
 rw [B7, e2] at e
 cases e
 exact this
theorem l6 {rows : cH} (nd : ∀ row ∈ rows, (aw row).Nodup) {p ds : List Int} (c : bD p) (d : Deal ((bE rows p).map aw) ds) : Deal (dh (bW rows) p) ds := by
 have dl := d.len
 rw [B4, aH] at dl
 refine ⟨by rw [bY]; exact dl, fun k h1 h2 => ?_, d.nd⟩
 have hk : k < (dd p).length := by omega
 have h3 : k < ((bE rows p).map aw).length := by rw [B4, aH]; exact hk
 have := d.of k h1 h3
 rw [C2] at this
 have e : (bE rows p).getD k [] = (bE rows p)[k]'(by rw [aH]; exact hk) := AE (B3 (by rw [aH]; exact hk))
 rw [<- e, gq nd c k hk] at this
 have e2 := di (may := bW rows) hk
 rw [B3 h2] at e2
 rw [Option.some.inj e2]
 exact this
theorem m4 {rows : cH} {ts : List sR} {hs : List Int} (ip : IsPlan (bW rows) ts hs) : ∀ (i : Nat) row h, rows[i]? = some row -> hs[i]? = some h -> h ∈ row.map (·.1) := fun i row h e1 e2 => by
 have := ip.of i (B6.mp e2).1
 rw [AE e2] at this
 have e : (bW rows).getD i [] = aw row := by
  unfold bW
  rw [B5, B7, e1]; rfl
 rw [e] at this
 exact this
end L2
set_option maxHeartbeats 4000000
namespace My
seal L2.PE L2.PA L2.PS L2.PSs L2.PT L2.PW L2.PI L2.PG L2.zd L2.zg L2.PO L2.fm L2.cJ L2.ze L2.Ay L2.Aw
open PySem L2 PyProof.Rows
local macro_rules | `(tactic| walk_at "go") => `(tactic| repeat (first | refine ⟨_, rfl, ?_⟩ | refine ⟨_, _, rfl, rfl, (show (0 : Int) < _ by decide), ?_⟩ | refine ⟨_, _, rfl, rfl, (show nQ _ _ from ⟨by decide, by decide⟩), ?_⟩ | refine ⟨_, _, rfl, rfl, (show zC _ _ from ⟨by decide, by decide, by decide⟩), ?_⟩ | refine ⟨_, _, rfl, rfl, (show CMul _ _ from .inl ⟨by decide, by decide⟩), ?_⟩ | refine ⟨_, _, rfl, rfl, (show CMul _ _ from .inr ⟨by decide, by decide⟩), ?_⟩ | refine ⟨_, _, rfl, rfl, ?_⟩ | refine ⟨rfl, ?_⟩))
def top (i : Nat) : Stmt := PySem.Challenge.pw_deskround_k37_plan_or_paper.main.body.getD i (.Pass ⟨0, 0, 0, 0⟩)
abbrev kA : Stmt := top 1
abbrev m5 : Stmt := top 3
abbrev m7 : Stmt := top 4
abbrev kC : Stmt := top 6
abbrev dw : Stmt := top 7
abbrev kD : Stmt := top 8
abbrev gr : Stmt := top 10
abbrev iM : Stmt := top 11
abbrev kE : Stmt := top 13
abbrev eR : Stmt := top 14
abbrev qw : Stmt := top 15
abbrev iN : Stmt := top 16
abbrev m9 : Stmt := top 17
abbrev qy : Stmt := top 19
abbrev kF : Stmt := top 20
abbrev dy : Stmt := top 21
abbrev gu : Stmt := top 22
abbrev qz : Stmt := top 24
abbrev fC : Stmt := top 25
abbrev ng : Stmt := top 27
abbrev ni : Stmt := top 28
abbrev cV : Stmt := top 29
abbrev fD : Stmt := top 30
abbrev iO : Stmt := top 31
abbrev nq : Stmt := top 33
abbrev gv : Stmt := top 34
abbrev iP : Stmt := top 35
abbrev gw : Stmt := top 37
abbrev dO : Stmt := top 38
abbrev fE : Stmt := top 39
abbrev eU : Stmt := top 40
abbrev gx : Stmt := top 41
abbrev gy : Stmt := top 42
abbrev gA : Stmt := top 43
abbrev gB : Stmt := top 44
abbrev gC : Stmt := top 45
abbrev eV : Stmt := top 46
abbrev fF : Stmt := top 47
abbrev gD : Stmt := top 48
abbrev fG : Stmt := top 49
abbrev fH : Stmt := top 50
abbrev gE : Stmt := top 51
abbrev vM : Stmt := top 52
structure Txt (mg : Str -> Option Value) : Prop where
 z_bool : mg "bool" = none
 z_dict : mg "dict" = none
 z_int : mg "int" = none
 z_isinstance : mg "isinstance" = none
 z_len : mg "len" = none
 z_list : mg "list" = none
 z_min : mg "min" = none
 z_range : mg "range" = none
 z_reversed : mg "reversed" = none
 z_set : mg "set" = none
 z_sorted : mg "sorted" = none
 z_sum : mg "sum" = none
 z_tuple : mg "tuple" = none
 z_zip : mg "zip" = none
structure Dfs (K : PySem.W.Frag) (mg : Str -> Option Value) (aF : Nat -> Addr) (dF : Nat -> FuncData) : Prop where
 common : Def K mg "common" kA ["one", "other"] (aF 0) (dF 0)
 width : Def K mg "width" m5 ["pattern"] (aF 1) (dF 1)
 grown : Def K mg "grown" m7 ["pattern"] (aF 2) (dF 2)
 breaks : Def K mg "breaks" kC ["pattern", "tie"] (aF 3) (dF 3)
 first_broken : Def K mg "first_broken" dw ["pattern", "ties"] (aF 4) (dF 4)
 unlike : Def K mg "unlike" kD ["row", "steps"] (aF 5) (dF 5)
 pools_of : Def K mg "pools_of" gr ["pattern", "may"] (aF 6) (dF 6)
 pool_of : Def K mg "pool_of" iM ["block", "pattern", "may"] (aF 7) (dF 7)
 may_of : Def K mg "may_of" kE ["bill"] (aF 8) (dF 8)
 minutes_of : Def K mg "minutes_of" eR ["bill", "hands"] (aF 9) (dF 9)
 sums : Def K mg "sums" qw ["pattern", "bill"] (aF 10) (dF 10)
 sums_of : Def K mg "sums_of" iN ["block", "pattern", "bill"] (aF 11) (dF 11)
 added : Def K mg "added" m9 ["pairs", "minutes"] (aF 12) (dF 12)
 deal : Def K mg "deal" qy ["pools"] (aF 13) (dF 13)
 settle : Def K mg "settle" kF ["pools", "holders", "place", "asked"] (aF 14) (dF 14)
 short_places : Def K mg "short_places" dy ["holders", "place", "asked"] (aF 15) (dF 15)
 hands_of : Def K mg "hands_of" gu ["holders", "count"] (aF 16) (dF 16)
 plan : Def K mg "plan" qz ["may", "ties"] (aF 17) (dF 17)
 plan_from : Def K mg "plan_from" fC ["pattern", "may", "ties"] (aF 18) (dF 18)
 cheap : Def K mg "cheap" ng ["pools"] (aF 19) (dF 19)
 serve : Def K mg "serve" ni ["pools", "hands", "prices", "dues", "place"] (aF 20) (dF 20)
 nearest_badge : Def K mg "nearest_badge" cV ["pools", "prices", "dues", "reached", "askers"] (aF 21) (dF 21)
 raise_all : Def K mg "raise_all" fD ["numbers", "keys", "gap"] (aF 22) (dF 22)
 hand_on : Def K mg "hand_on" iO ["hands", "askers", "badge"] (aF 23) (dF 23)
 quick : Def K mg "quick" nq ["bill", "ties"] (aF 24) (dF 24)
 quickest : Def K mg "quickest" gv ["pattern", "bill", "ties", "known"] (aF 25) (dF 25)
 bearing : Def K mg "bearing" iP ["pattern", "bill", "ties", "bound"] (aF 26) (dF 26)
 law_cell : Def K mg "_law_cell" gw ["script", "k"] (aF 27) (dF 27)
 law_entries : Def K mg "_law_entries" dO ["script", "size"] (aF 28) (dF 28)
 law_whole : Def K mg "_law_whole" fE ["found"] (aF 29) (dF 29)
 law_badges : Def K mg "_law_badges" eU ["cells", "gap", "high"] (aF 30) (dF 30)
 law_bill : Def K mg "_law_bill" gx ["cells", "badges", "dense", "top", "count"] (aF 31) (dF 31)
 law_ties : Def K mg "_law_ties" gy ["cells", "count"] (aF 32) (dF 32)
 law_case : Def K mg "_law_case" gA ["script", "sizes", "tops"] (aF 33) (dF 33)
 law_wide : Def K mg "_law_wide" gB ["pattern"] (aF 34) (dF 34)
 law_pool : Def K mg "_law_pool" gC ["block", "pattern", "bill"] (aF 35) (dF 35)
 law_breaks : Def K mg "_law_breaks" eV ["pattern", "tie"] (aF 36) (dF 36)
 law_keeps : Def K mg "_law_keeps" fF ["hands", "tie"] (aF 37) (dF 37)
 law_plan : Def K mg "_law_plan" gD ["hands", "bill", "ties"] (aF 38) (dF 38)
 law_short : Def K mg "_law_short" fG ["blocks", "pattern", "bill"] (aF 39) (dF 39)
 law_shows : Def K mg "_law_shows" fH ["pattern", "bill", "ties", "paper"] (aF 40) (dF 40)
 law_good : Def K mg "_law_good" gE ["found", "bill", "ties"] (aF 41) (dF 41)
 law : Def K mg "law" vM ["script"] (aF 42) (dF 42)
section
variable {P : Program} {w : World} {K : PySem.W.Frag} {mg : Str -> Option Value} {base : Heap} {aF : Nat -> Addr} {dF : Nat -> FuncData}
def l7 (K : PySem.W.Frag) : Sp := BQ K 0
theorem tM : FnScope ["one", "other"] ["one", "other"] (ar kA) := ⟨rfl, rfl, rfl, by decide +kernel, rfl, by decide +kernel, by decide +kernel⟩
theorem tN (D : Dfs K mg aF dF) (T : Txt mg) : FnOk P w K mg base a9 1 (aF 0) (dF 0) ["one", "other"] (l7 K) := by
 refine D.common.fn.ok tM (fun vs H Q E h => ?_) (fun cdv A outer s H vs Q E hr h => ?_)
 ·obtain ⟨a, b, F, S, U, rfl, _⟩ := h; rfl
 ·have hu := aW hr
  obtain ⟨a, b, F, S, U, rfl, bo, q⟩ := h
  refine ⟨_, (ah (av (ao (uL w) (by rfl) T.z_sorted boot_sorted (aa (aA (wZ w) (aV (sF w K) (by rfl) T.z_set PyProof.Rows.boot_set (aa (pv 0) ae)) (aV (sF w K) (by rfl) T.z_set PyProof.Rows.boot_set (aa (pv 1) ae))) ae)))), ?_⟩
  have h1 := bo.l1
  have h2 := bo.l2
  refine ⟨_, rfl, a, F, rfl, bo.fa, by omega, fun s1 n1 => ⟨_, rfl, b, S, rfl, (Same.new n1).seq bo.sb, by omega, fun s2 n2 => ?_⟩⟩
  have d1 := cN F
  have d2 := cN S
  have n12 : s1 ≠ s2 := fun z => by rw [<- z, ab] at n2; cases n2
  refine ⟨s1, s2, dd F, dd S, rfl, rfl, n12, by rw [aj n12]; exact ab, ab, by omega, by omega, fun c ks nc nd hm => ?_⟩
  have lk : ks.length <= F.length := nd.length_le_of_subset fun x hx => bz.mp ((hm x).mp hx).1
  refine ⟨c, ks, rfl, ab, by omega, fun l ms nl pm sr => ?_⟩
  refine q l ms _ ⟨(((Same.new n1).to n2).to nc).to nl, (((Same.new n1).to (o := .ext (SX w s2 (dd S))) n2).to (o := .ext (SX w c ks)) nc).free nl, ab, xa sr (pm.nodup_iff.mpr nd), fun x => ?_⟩
  rw [pm.mem_iff, hm x]
  dsimp only
  rw [bz, bz]
  exact Iff.rfl
def h9 (K : PySem.W.Frag) : Sp := fun vs H Q _ => ∃ (a : Addr) (ps : List Int), vs = [.ref a] /\ SqL K H a (ps.map V.int) /\ ps.length <= 6 /\ ∀ H', Same H H' -> Q (.int (((dd ps).length : Nat) : Int)) H'
theorem vN : FnScope ["pattern"] ["pattern"] (ar m5) := ⟨rfl, rfl, rfl, by decide +kernel, rfl, by decide +kernel, by decide +kernel⟩
theorem kG (D : Dfs K mg aF dF) (T : Txt mg) : FnOk P w K mg base a9 1 (aF 1) (dF 1) ["pattern"] (h9 K) := by
 refine D.width.fn.ok vN (fun vs H Q E h => ?_) (fun cdv A outer s H vs Q E hr h => ?_)
 ·obtain ⟨a, ps, rfl, _⟩ := h; rfl
 ·have hu := aW hr
  obtain ⟨a, ps, rfl, ha, h6, q⟩ := h
  refine ⟨_, (ah (av (ao (qV w) (by rfl) T.z_len boot_len (aa (aV (sF w K) (by rfl) T.z_set PyProof.Rows.boot_set (aa (pv 0) ae)) ae)))), ?_⟩
  exact ⟨_, rfl, a, ps, rfl, ha, by omega, fun S nS => ⟨S, _, rfl, ab, q _ (Same.new nS)⟩⟩
def ia (K : PySem.W.Frag) : Sp := fun vs H Q _ => ∃ (a : Addr) (ps : List Int), vs = [.ref a] /\ H a = some (.lst (ps.map V.int)) /\ ps.length <= 6 /\
 ∀ l (rs : List Addr) H', Same H H' -> H l = none -> H' l = some (.lst (rs.map V.ref)) -> rs.length = (dd ps).length + 1 -> (∀ (i : Nat) r, rs[i]? = some r -> H' r = some (.lst ((ps ++ [(i : Int)]).map V.int)) /\ H r = none) -> Q (.ref l) H'
theorem vO : FnScope ["pattern"] ["pattern"] (ar m7) := ⟨rfl, rfl, rfl, by decide +kernel, rfl, by decide +kernel, by decide +kernel⟩
theorem kH (D : Dfs K mg aF dF) (T : Txt mg) : FnOk P w K mg base a9 2 (aF 2) (dF 2) ["pattern"] (ia K) := by
 have Gwidth : FnOk P w K mg base a9 1 (aF 1) (dF 1) ["pattern"] (h9 K) := kG D T
 refine D.grown.fn.ok vO (fun vs H Q E h => ?_) (fun cdv A outer s H vs Q E hr h => ?_)
 ·obtain ⟨a, ps, rfl, _⟩ := h; rfl
 ·have hu := aW hr
  obtain ⟨a, ps, rfl, ha, h6, q⟩ := h
  refine ⟨_, (ah (av (a8 ["number", "pattern"] [none, some 0] rfl (aQ rfl T.z_range (aa (aA aR (pc D.width Gwidth (hr.mono (by decide)) (aa (pv 0) ae)) ag) ae)) (fun _ => aq (i := 0) (aU (N := ["number", "pattern"]) (by decide +kernel)) rfl (Or.inl rfl)) (fun _ => bx) (fun _ => (aA mz (pv 1) (aY (aa (pv 0) ae)))) ((.cons (fun _ e => by cases e) (.cons (fun _ e => by cases e; exact ⟨rfl, rfl⟩) .nil)))))), ?_⟩
  refine ⟨_, rfl, a, ps, rfl, SqL.of ha, h6, fun H1 s1 => ?_⟩
  have dl := cN ps
  refine ⟨_, _, rfl, rfl, _, rfl, fU _, by omega, ?_⟩
  have e0 : (((dd ps).length : Int) + 1).toNat = (dd ps).length + 1 := by omega
  rw [e0]
  refine iX (n := (dd ps).length + 1) (fun i => (ps ++ [(i : Int)]).map V.int) (by omega) (fun i hi H2 R s2 k => ?_) fun acc rs H2 s2 nacc hacc hrs hall hne => ?_
  ·have ei : (0 : Int) + (i : Int) = ((i : Nat) : Int) := by omega
   rw [ei]
   refine ⟨_, rfl, _, rfl, b5, fun p np => ?_⟩
   have ha2 := (s1.trans s2) _ _ ha
   refine ⟨a, p, _, _, rfl, rfl, Same.new np _ _ ha2, ab, by rw [B4]; exact wI (by simp; omega), fun r nr => ?_⟩
   have e : ps.map V.int ++ [V.int ((i : Nat) : Int)] = (ps ++ [(i : Int)]).map V.int := by rw [Cf]; rfl
   rw [e]
   exact k r _ ((Same.new np).to nr) ((Same.new np).free nr) ab
  ·exact q acc rs H2 (s1.trans s2) (s1.free nacc) hacc hrs fun i r hr => ⟨(hall i r hr).1, s1.free (hall i r hr).2⟩
def l8 (K : PySem.W.Frag) : Sp := fun vs H Q _ => ∃ (a t : Addr) (hs : List Int) (st : List Nat), vs = [.ref a, .ref t] /\ SqL K H a (hs.map V.int) /\ (SqL K H t (st.map fun (i : Nat) => V.int (i : Int)) \/ SqT K H t (st.map fun (i : Nat) => V.int (i : Int))) /\ (∀ i ∈ st, i < hs.length) /\ st.length <= 6 /\
 ∀ H', Same H H' -> Q (.int ((gI (fun i => hs.getD i 0) st : Nat) : Int)) H'
theorem tO : FnScope ["row", "steps"] ["row", "steps"] (ar kD) := ⟨rfl, rfl, rfl, by decide +kernel, rfl, by decide +kernel, by decide +kernel⟩
theorem tP (D : Dfs K mg aF dF) (T : Txt mg) : FnOk P w K mg base a9 1 (aF 5) (dF 5) ["row", "steps"] (l8 K) := by
 refine D.unlike.fn.ok tO (fun vs H Q E h => ?_) (fun cdv A outer s H vs Q E hr h => ?_)
 ·obtain ⟨a, t, hs, st, rfl, _⟩ := h; rfl
 ·have hu := aW hr
  obtain ⟨a, t, hs, st, rfl, ha, ht, hlt, h6, q⟩ := h
  refine ⟨_, (ah (av (ao (qV w) (by rfl) T.z_len boot_len (aa (aV (sF w K) (by rfl) T.z_set PyProof.Rows.boot_set (aa (a8 ["step", "row"] [none, some 0] rfl (BO K (pv 1)) (fun _ => aq (i := 0) (aU (N := ["step", "row"]) (by decide +kernel)) rfl (Or.inl rfl)) (fun _ => bx) (fun _ => (au (cS K) (pv 1) (pv 0) (fun _ _ => rfl))) ((.cons (fun _ e => by cases e) (.cons (fun _ e => by cases e; exact ⟨rfl, rfl⟩) .nil)))) ae)) ae)))), ?_⟩
  have fin : ∀ acc H2, Same H H2 -> H2 acc = some (.lst ((st.map fun i => hs.getD i 0).map V.int)) -> ∀ S, H2 S = none -> Q (.int ((gI (fun i => hs.getD i 0) st : Nat) : Int)) (ay H2 S (.ext (SX w S (dd (st.map fun i => hs.getD i 0))))) := fun acc H2 s2 _ S nS => q _ (s2.to nS)
  refine ⟨_, rfl, t, rfl, ?_⟩
  rcases ht with ht | ht
  ·refine .inl ⟨⟨_, ht⟩, cO (xs := st.map fun (i : Nat) => V.int (i : Int)) (fun _ => true) (fun j => .int (hs.getD (st.getD j 0) 0)) ht (by rw [B4]; omega) (fun _ _ _ _ _ _ k => k _ (Same.refl _)) (fun j x hx _ H2 R s2 k => ?_) fun acc H2 s2 nacc hacc => ?_⟩
   ·obtain ⟨d, hd, rfl, ed⟩ := eN hx
    rw [ed] at k
    exact ⟨_, rfl, _, rfl, a, _, _, _, rfl, rfl, s2.seq ha, aZ (hlt d (B8 hd)), k _ (Same.refl _)⟩
   rw [uY] at hacc
   exact ⟨acc, st.map fun i => hs.getD i 0, rfl, SqL.of hacc, by rw [B4]; omega, fun S nS => ⟨S, _, rfl, ab, fin acc H2 s2 hacc S nS⟩⟩
  ·refine .inr ⟨⟨_, ht⟩, ou (xs := st.map fun (i : Nat) => V.int (i : Int)) (fun _ => true) (fun j => .int (hs.getD (st.getD j 0) 0)) ht (by rw [B4]; omega) (fun _ _ _ _ _ _ k => k _ (Same.refl _)) (fun j x hx _ H2 R s2 k => ?_) fun acc H2 s2 nacc hacc => ?_⟩
   ·obtain ⟨d, hd, rfl, ed⟩ := eN hx
    rw [ed] at k
    exact ⟨_, rfl, _, rfl, a, _, _, _, rfl, rfl, s2.seq ha, aZ (hlt d (B8 hd)), k _ (Same.refl _)⟩
   rw [uY] at hacc
   exact ⟨acc, st.map fun i => hs.getD i 0, rfl, SqL.of hacc, by rw [B4]; omega, fun S nS => ⟨S, _, rfl, ab, fin acc H2 s2 hacc S nS⟩⟩
def iQ (K : PySem.W.Frag) : Sp := fun vs H Q _ => ∃ (a tp t : Addr) (hs : List Int) (st : List Nat) (wd : Str) (k : Int), vs = [.ref a, .ref tp] /\ SqL K H a (hs.map V.int) /\ SqT K H tp [.str wd, .int k, .ref t] /\ SqT K H t (st.map fun (i : Nat) => V.int (i : Int)) /\ (wd = "most" \/ wd = "least") /\ st.length <= 6 /\
 ∀ H', Same H H' -> Q (.bl (brk (fun i => hs.getD i 0) hs.length wd k st)) H'
theorem iR : FnScope ["pattern", "tie", "steps", "numbers_there"] ["pattern", "tie"] (ar kC) := ⟨rfl, rfl, rfl, by decide +kernel, rfl, by decide +kernel, by decide +kernel⟩
theorem tQ (D : Dfs K mg aF dF) (T : Txt mg) : FnOk P w K mg base a9 2 (aF 3) (dF 3) ["pattern", "tie"] (iQ K) := by
 have Gunlike : FnOk P w K mg base a9 1 (aF 5) (dF 5) ["row", "steps"] (l8 K) := tP D T
 refine D.breaks.fn.ok iR (fun vs H Q E h => ?_) (fun cdv A outer s H vs Q E hr h => ?_)
 ·obtain ⟨a, tp, t, hs, st, wd, k, rfl, _⟩ := h; rfl
 ·have hu := aW hr
  obtain ⟨a, tp, t, hs, st, wd, k, rfl, ha, htp, ht, hwd, h6, q⟩ := h
  refine ⟨_, (af (eK (i₀ := 2) iR.nd rfl (Or.inl rfl) ["step", "pattern"] [none, some 0] rfl (A9 K (au (cP K) (pv 1) ag (fun _ _ => rfl))) (fun _ => aq (i := 0) (aU (N := ["step", "pattern"]) (by decide +kernel)) rfl (Or.inl rfl)) (fun _ => fP (az gL (pv 0) (ao (bM K) (by rfl) T.z_len boot_len (aa (pv 1) ae)) (aC _))) (fun _ => (pv 0)) ((.cons (fun _ e => by cases e) (.cons (fun _ e => by cases e; exact ⟨rfl, rfl⟩) .nil))))
   (af (ax (i := 3) iR.nd rfl (Or.inl rfl) (pc D.unlike Gunlike (hr.mono (by decide)) (aa (pv 0) (aa (pv 2) ae))))
   (af (aI (az bT (au (cP K) (pv 1) ag (fun _ _ => rfl)) aL (aC _))
    (ah (av (cY xJ (pv 3) (au (cP K) (pv 1) ag (fun _ _ => rfl)) (aC _))))
    aB)
   (ah (av (cY gL (aA jI (aA aR (pv 3) (ao (bM K) (by rfl) T.z_len boot_len (aa (au (cP K) (pv 1) ag (fun _ _ => rfl)) ae))) (ao (bM K) (by rfl) T.z_len boot_len (aa (pv 2) ae))) (au (cP K) (pv 1) ag (fun _ _ => rfl)) (aC _))))))), ?_⟩
  refine ⟨_, rfl, tp, _, _, _, rfl, rfl, htp, rfl, t, rfl, ⟨_, ht⟩, ?_⟩
  refine ou (xs := st.map fun (i : Nat) => V.int (i : Int)) (fun j => decide (st.getD j 0 < hs.length)) (fun j => .int ((st.getD j 0 : Nat) : Int)) ht (by rw [B4]; omega) (fun j x hx H2 R s2 k => ?_) (fun j x hx hp H2 R s2 k => ?_) fun acc H2 s2 nacc hacc => ?_
  ·obtain ⟨d, hd, rfl, ed⟩ := eN hx
   rw [ed] at k
   refine ⟨_, rfl, _, rfl, _, _, rfl, .inl ⟨_, s2.seq ha, rfl⟩, _, _, rfl, rfl, _, rfl, ?_⟩
   have kk := k H2 (Same.refl _)
   rw [yS] at kk
   rw [B4]
   exact kk
  ·obtain ⟨d, hd, rfl, ed⟩ := eN hx
   rw [ed] at k
   exact ⟨_, rfl, k _ (Same.refl _)⟩
  rw [B4, Bc (g := fun i => decide (i < hs.length)) (F := fun (i : Nat) => V.int (i : Int))] at hacc
  have fl : (st.filter fun i => decide (i < hs.length)).length <= st.length := CM ..
  refine ⟨_, rfl, _, rfl, a, acc, hs, st.filter fun i => decide (i < hs.length), rfl, s2.seq ha, .inl (SqL.of hacc), (fun i hi => of_decide_eq_true (CD.mp hi).2), by omega, fun H3 s23 => ?_⟩
  have s3 := s2.trans s23
  have hacc3 := s23 _ _ hacc
  have q3 := q H3 s3
  refine ⟨_, rfl, tp, _, _, _, rfl, rfl, Same.seqT s3 htp, rfl, rfl, _, rfl, ?_⟩
  unfold brk at q3
  rcases hwd with e | e <;> subst e
  ·refine bX ?_
   rw [if_pos rfl] at q3
   exact ⟨_, rfl, _, rfl, tp, _, _, _, rfl, rfl, Same.seqT s3 htp, rfl, _, _, rfl, rfl, q3⟩
  ·rw [decide_eq_false (by decide)]
   refine bw ?_
   rw [if_neg (by decide)] at q3
   refine ⟨_, rfl, _, rfl, tp, _, _, _, rfl, rfl, Same.seqT s3 htp, rfl, _, _, rfl, .inr ⟨_, Same.seqT s3 ht, rfl⟩, _, _, rfl, rfl, _, rfl, _, _, rfl, .inl ⟨_, SqL.of hacc3, rfl⟩, _, _, rfl, rfl, _, rfl, tp, _, _, _, rfl, rfl, Same.seqT s3 htp, rfl, _, _, rfl, rfl, ?_⟩
   rw [B4, B4]
   exact q3
def cv (K : PySem.W.Frag) : Sp := fun vs H Q _ => ∃ (a b : Addr) (hs : List Int) (ts : List (Addr × Addr × Str × Int × List Nat)), vs = [.ref a, .ref b] /\ SqL K H a (hs.map V.int) /\ Ties K H b ts 100 /\ ∀ H', Same H H' -> Q (Ab (jk (fun i => hs.getD i 0) hs.length ts)) H'
theorem fb : FnScope ["pattern", "ties", "place"] ["pattern", "ties"] (ar dw) := ⟨rfl, rfl, rfl, by decide +kernel, rfl, by decide +kernel, by decide +kernel⟩
theorem cW (D : Dfs K mg aF dF) (T : Txt mg) : FnOk P w K mg base a9 3 (aF 4) (dF 4) ["pattern", "ties"] (cv K) := by
 have Gbreaks : FnOk P w K mg base a9 2 (aF 3) (dF 3) ["pattern", "tie"] (iQ K) := tQ D T
 refine D.first_broken.fn.ok fb (fun vs H Q E h => ?_) (fun cdv A outer s H vs Q E hr h => ?_)
 ·obtain ⟨a, b, hs, ts, rfl, _⟩ := h; rfl
 ·have hu := aW hr
  obtain ⟨a, b, hs, ts, rfl, ha, tt, q⟩ := h
  refine ⟨_, (af (aX PassesOwn.never rfl (aQ rfl T.z_range (aa (ao (bM K) (by rfl) T.z_len boot_len (aa (pv 1) ae)) ae)) (aq (i := 2) fb.nd rfl (Or.inl rfl))
    (ah (aI (b4 (pc D.breaks Gbreaks (hr.mono (by decide)) (aa (pv 0) (aa (au (cS K) (pv 1) (pv 2) (fun _ _ => rfl)) ae))))
     (ah (av (pv 2)))
     aB)))
   (ah (av dN))), ?_⟩
  have ln := tt.ln
  have sl : (ts.map fun x => V.ref x.1).length = ts.length := by rw [B4]
  refine ⟨_, rfl, _, _, rfl, .inl ⟨_, tt.ls, rfl⟩, _, rfl, fU _, by omega, ?_⟩
  have e0 : (((ts.map fun x => V.ref x.1).length : Nat) : Int).toNat = ts.length := by omega
  rw [e0]
  refine bO (n := ts.length) (fun i σ H1 => ∃ x : Option V, σ = [some (.ref a), some (.ref b), x] /\ Same H H1 /\ ∀ j, j < i -> ∀ x, ts[j]? = some x -> brk (fun i => hs.getD i 0) hs.length x.2.2.1 x.2.2.2.1 x.2.2.2.2 = false) ⟨none, rfl, Same.refl _, fun j h => by omega⟩ ?_ ?_
  ·rintro i σ H1 hi ⟨x, rfl, s1, no⟩
   have ei : (0 : Int) + (i : Int) = ((i : Nat) : Int) := by omega
   rw [ei]
   have gi : ts[i]? = some ts[i] := B3 hi
   have te := tt.ea _ (CA hi)
   refine ⟨_, rfl, _, rfl, _, rfl, b, _, _, _, rfl, rfl, s1.seq tt.ls, aK (by rw [B7, gi]; rfl), a, ts[i].1, ts[i].2.1, hs, ts[i].2.2.2.2, ts[i].2.2.1, ts[i].2.2.2.1, rfl, s1.seq ha, SqT.of (s1 _ _ te.tp), SqT.of (s1 _ _ te.ts), te.wd, te.sl, fun H2 s2 => ⟨_, rfl, ?_⟩⟩
   refine BN (fun hb => ?_) fun hb => ?_
   ·have e : jk (fun i => hs.getD i 0) hs.length ts = some i := by
     unfold jk
     rw [DC]
     exact ⟨hi, hb, fun j hj => by
      have := no j hj _ (B3 (by omega))
      simpa using this⟩
    have qq := q H2 (s1.trans s2)
    rw [e] at qq
    exact ⟨_, rfl, qq⟩
   ·refine ⟨_, rfl, s1.trans s2, fun j hj x hx => ?_⟩
    by_cases z : j = i
    ·subst z
     rw [gi] at hx
     cases hx
     exact hb
    ·exact no j (by omega) x hx
  ·rintro σ H1 ⟨x, rfl, s1, no⟩
   have e : jk (fun i => hs.getD i 0) hs.length ts = none := by
    unfold jk
    rw [Ex]
    intro x hx
    obtain ⟨j, hj, ej⟩ := Ck.mp hx
    exact no j hj x (by rw [B3 hj, ej])
   have qq := q H1 s1
   rw [e] at qq
   exact qq
def kI (K : PySem.W.Frag) : Sp := fun vs H Q _ => ∃ (b : Nat) (pa ma : Addr) (p : List Int) (rs : List Addr) (may : List (List Int)) (U : List Int), vs = [.int ((b : Nat) : Int), .ref pa, .ref ma] /\ SqL K H pa (p.map V.int) /\ May K H ma rs may U /\ bD p /\ b < (dd p).length /\ p.length <= may.length /\
 ∀ l H', Same H H' -> H l = none -> H' l = some (.lst ((fA may p b).map V.int)) -> Q (.ref l) H'
theorem dz : FnScope ["block", "pattern", "may", "steps", "step", "pool"] ["block", "pattern", "may"] (ar iM) := ⟨rfl, rfl, rfl, by decide +kernel, rfl, by decide +kernel, by decide +kernel⟩
theorem qA (D : Dfs K mg aF dF) (T : Txt mg) : FnOk P w K mg base a9 2 (aF 7) (dF 7) ["block", "pattern", "may"] (kI K) := by
 have Gcommon : FnOk P w K mg base a9 1 (aF 0) (dF 0) ["one", "other"] (l7 K) := tN D T
 refine D.pool_of.fn.ok dz (fun vs H Q E h => ?_) (fun cdv A outer s H vs Q E hr h => ?_)
 ·obtain ⟨b, pa, ma, p, rs, may, U, rfl, _⟩ := h; rfl
 ·have hu := aW hr
  obtain ⟨b, pa, ma, p, rs, may, U, rfl, hp, hm, c, hb, hl, q⟩ := h
  refine ⟨_, (af (eK (i₀ := 3) dz.nd rfl (Or.inl rfl) ["step", "pattern", "block"] [none, some 1, some 0] rfl (aQ rfl T.z_range (aa (ao (bM K) (by rfl) T.z_len boot_len (aa (pv 1) ae)) ae)) (fun _ => aq (i := 0) (aU (N := ["step", "pattern", "block"]) (by decide +kernel)) rfl (Or.inl rfl)) (fun _ => fP (az bT (au (cS K) (pv 1) (pv 0) (fun _ _ => rfl)) (pv 2) (aC _))) (fun _ => (pv 0)) ((.cons (fun _ e => by cases e) (.cons (fun _ e => by cases e; exact ⟨rfl, rfl⟩) (.cons (fun _ e => by cases e; exact ⟨rfl, rfl⟩) .nil)))))
   (af (ax (i := 5) dz.nd rfl (Or.inl rfl) (aV (qL K) (by rfl) T.z_list boot_list (aa (au (cS K) (pv 2) (au (cS K) (pv 3) ag (fun _ _ => rfl)) (fun _ _ => rfl)) ae)))
   (af (aX PassesOwn.never rfl (jy K (fq (zW K) (pv 3) (fO ag) jw)) (aq (i := 4) dz.nd rfl (Or.inl rfl))
    (ah (ax (i := 5) dz.nd rfl (Or.inl rfl) (pc D.common Gcommon (hr.mono (by decide)) (aa (pv 5) (aa (au (cS K) (pv 2) (pv 4) (fun _ _ => rfl)) ae))))))
   (ah (av (pv 5)))))), ?_⟩
  have m6 := hm.m6
  refine ⟨_, rfl, _, _, rfl, .inl ⟨_, hp, rfl⟩, _, rfl, fU _, by rw [B4]; omega, ?_⟩
  have e0 : (((p.map V.int).length : Nat) : Int).toNat = p.length := by rw [B4]; omega
  rw [e0]
  refine iE (n := p.length) (fun i => decide (p.getD i 0 = (b : Int))) (by omega) (fun i hi H3 R s3 k => ?_) (fun i hi H3 R k => ?_) fun sl H3 s3 nsl hsl => ?_
  ·have ei : (0 : Int) + (i : Int) = ((i : Nat) : Int) := by omega
   rw [ei]
   have kk := k H3 (Same.refl _)
   rw [oy] at kk
   exact ⟨_, rfl, _, rfl, pa, _, _, _, rfl, rfl, s3.seq hp, aZ hi, _, rfl, rfl, _, rfl, kk⟩
  ·have ei : (0 : Int) + (i : Int) = ((i : Nat) : Int) := by omega
   rw [ei]
   exact ⟨_, rfl, k⟩
  have sne : bV p b ≠ [] := cm c hb
  have slt : ∀ i ∈ bV p b, i < may.length := fun i hi => by have := (dg.mp hi).1; omega
  have hsl : H3 sl = some (.lst ((bV p b).map fun (i : Nat) => V.int (i : Int))) := hsl
  have q2 : ∀ l H', Same H3 H' -> H3 l = none -> H' l = some (.lst ((dW (bV p b) may).map V.int)) -> Q (.ref l) H' := fun l H' s n e => q l H' (s3.trans s) (s3.free n) e
  have s6 : (bV p b).length <= 6 := by
   have := CM (fun i => decide (p.getD i 0 = (b : Int))) (B9 p.length)
   rw [CH] at this
   show ((B9 p.length).filter fun i => decide (p.getD i 0 = (b : Int))).length <= 6
   omega
  have hm3 := hm.same s3
  clear q
  generalize bV p b = st at hsl sne slt q2 s6
  obtain ⟨s0, sr, rfl⟩ := List.exists_cons_of_ne_nil sne
  obtain ⟨r0, hr0, hq0, up0, sub0⟩ := hm3.rows (slt s0 (by simp))
  refine ⟨_, rfl, _, rfl, sl, _, _, _, rfl, rfl, SqL.of hsl, aK (j := 0) (v := V.int (s0 : Int)) rfl, ma, _, _, _, rfl, rfl, hm3.ls, aK (by rw [B7, hr0]; rfl), r0, _, rfl, .inl hq0, fun l nl => ?_⟩
  have cf : gj (((s0 :: sr).map fun (i : Nat) => V.int (i : Int))) (some (1 : Int)) none = sr.map fun (i : Nat) => V.int (i : Int) := jS _ 1
  refine ⟨_, rfl, _, rfl, sl, _, rfl, SqL.of (Same.new nl _ _ hsl), fun cc ncc => ?_⟩
  have s34 := (Same.new (o := .lst ((may.getD s0 []).map V.int)) nl).to (o := .lst (sr.map fun (i : Nat) => V.int (i : Int))) ncc
  have ncl : l ≠ cc := fun z => by rw [<- z, ab] at ncc; cases ncc
  have hl4 : ay (ay H3 l (.lst ((may.getD s0 []).map V.int))) cc (.lst (sr.map fun (i : Nat) => V.int (i : Int))) l = some (.lst ((may.getD s0 []).map V.int)) := by rw [aj ncl]; exact ab
  have hcc4 : ay (ay H3 l (.lst ((may.getD s0 []).map V.int))) cc (.lst (sr.map fun (i : Nat) => V.int (i : Int))) cc = some (.lst (sr.map fun (i : Nat) => V.int (i : Int))) := ab
  rw [cf]
  generalize ay (ay H3 l (.lst ((may.getD s0 []).map V.int))) cc (.lst (sr.map fun (i : Nat) => V.int (i : Int))) = H4 at s34 hl4 hcc4
  refine ⟨cc, rfl, ⟨_, SqL.of hcc4⟩, ?_⟩
  refine bQ (K := K) (a := cc) (xs := sr.map fun (i : Nat) => V.int (i : Int)) (fun i σ H5 => ∃ (po : Addr) (x : Option V), σ = [some (.int ((b : Nat) : Int)), some (.ref pa), some (.ref ma), some (.ref sl), x, some (.ref po)] /\ Same H4 H5 /\ H3 po = none /\ H5 po = some (.lst ((dW (s0 :: sr.take i) may).map V.int)))
   ⟨l, none, rfl, Same.refl _, nl, by rw [Dx, sS]; exact hl4⟩ (fun i σ H5 _ hq__ => by obtain ⟨_, _, _, s, _⟩ := hq__; exact s.seq (SqL.of hcc4)) ?_ ?_
  ·rintro i y σ H5 hi ⟨po, x, rfl, s5, npo, hpo⟩
   obtain ⟨d, hd, rfl, _⟩ := eN hi
   have hdl := slt d (Ct _ (B8 hd))
   have hm5 := hm3.same (s34.trans s5)
   obtain ⟨r1, hr1, hq1, up1, sub1⟩ := hm5.rows hdl
   refine ⟨_, rfl, _, rfl, _, rfl, ma, _, _, _, rfl, rfl, hm5.ls, aK (by rw [B7, hr1]; rfl), po, r1, dW (s0 :: sr.take i) may, may.getD d [], U, rfl, ⟨SqL.of hpo, hq1, oA hm.up, up1, fun x hx => sub0 x ((CD.mp hx).1), sub1, by have := hm.u20; omega⟩, fun l2 ks H6 ⟨t1, t2, t3, t4, t5⟩ => ?_⟩
   refine ⟨l2, _, rfl, s5.trans t1, (s34.trans s5).free t2, ?_⟩
   have et : sr.take (i + 1) = sr.take i ++ [d] := by rw [Dj, hd]; rfl
   have ek : ks = dW (s0 :: sr.take (i + 1)) may := by
    refine yW t4 (oA hm.up) fun x => ?_
    rw [t5 x, et, <- List.cons_append, qh (by simp)]
    exact Iff.rfl
   rw [<- ek]
   exact t3
  ·rintro σ H5 ⟨po, x, rfl, s5, npo, hpo⟩
   rw [B4, CW] at hpo
   exact ⟨_, rfl, q2 po H5 (s34.trans s5) npo hpo⟩
def i7 (K : PySem.W.Frag) : Sp := fun vs H Q _ => ∃ (pa ma : Addr) (p : List Int) (rs : List Addr) (may : List (List Int)) (U : List Int), vs = [.ref pa, .ref ma] /\ SqL K H pa (p.map V.int) /\ May K H ma rs may U /\ bD p /\ p.length <= may.length /\
 ∀ l (ls : List Addr) H', Same H H' -> H l = none -> H' l = some (.lst (ls.map V.ref)) -> RowsL H' ls (dh may p) -> (∀ r ∈ ls, H r = none) -> Q (.ref l) H'
theorem oK : FnScope ["pattern", "may"] ["pattern", "may"] (ar gr) := ⟨rfl, rfl, rfl, by decide +kernel, rfl, by decide +kernel, by decide +kernel⟩
theorem oM (D : Dfs K mg aF dF) (T : Txt mg) : FnOk P w K mg base a9 3 (aF 6) (dF 6) ["pattern", "may"] (i7 K) := by
 have Gwidth : FnOk P w K mg base a9 1 (aF 1) (dF 1) ["pattern"] (h9 K) := kG D T
 have Gpool_of : FnOk P w K mg base a9 2 (aF 7) (dF 7) ["block", "pattern", "may"] (kI K) := qA D T
 refine D.pools_of.fn.ok oK (fun vs H Q E h => ?_) (fun cdv A outer s H vs Q E hr h => ?_)
 ·obtain ⟨pa, ma, p, rs, may, U, rfl, _⟩ := h; rfl
 ·have hu := aW hr
  obtain ⟨pa, ma, p, rs, may, U, rfl, hp, hm, c, hl, q⟩ := h
  refine ⟨_, (ah (av (a8 ["block", "pattern", "may"] [none, some 0, some 1] rfl (aQ rfl T.z_range (aa (pc D.width Gwidth (hr.mono (by decide)) (aa (pv 0) ae)) ae)) (fun _ => aq (i := 0) (aU (N := ["block", "pattern", "may"]) (by decide +kernel)) rfl (Or.inl rfl)) (fun _ => bx) (fun _ => (pc D.pool_of Gpool_of (hr.mono (by decide)) (aa (pv 0) (aa (pv 1) (aa (pv 2) ae))))) ((.cons (fun _ e => by cases e) (.cons (fun _ e => by cases e; exact ⟨rfl, rfl⟩) (.cons (fun _ e => by cases e; exact ⟨rfl, rfl⟩) .nil))))))), ?_⟩
  have m6 := hm.m6
  have dl := cN p
  refine ⟨_, rfl, pa, p, rfl, hp, by omega, fun H1 s1 => ?_⟩
  refine ⟨_, rfl, fU _, by omega, ?_⟩
  rw [CG]
  refine iX (n := (dd p).length) (fun i => (fA may p i).map V.int) (by omega) (fun i hi H2 R s2 k => ?_) fun acc ls H2 s2 nacc hacc hrs hall hne => ?_
  ·have ei : (0 : Int) + (i : Int) = ((i : Nat) : Int) := by omega
   rw [ei]
   have s12 := s1.trans s2
   exact ⟨_, rfl, _, rfl, _, rfl, i, pa, ma, p, rs, may, U, rfl, s12.seq hp, hm.same s12, c, hi, hl, fun r H3 s3 nr hr => k r H3 s3 nr hr⟩
  ·refine q acc ls H2 (s1.trans s2) (s1.free nacc) hacc (RowsL.of (by rw [hrs, bY]) fun i r p' e1 e2 => ?_) fun r hr => ?_
   ·have hi : i < (dd p).length := by rw [<- hrs]; exact (B6.mp e1).1
    rw [di hi] at e2
    cases e2
    exact (hall i r e1).1
   ·obtain ⟨i, hi, ei⟩ := Ck.mp hr
    exact s1.free (hall i r (by rw [B3 hi, ei])).2
def l9 (K : PySem.W.Frag) : Sp := fun vs H Q _ => ∃ (b : Addr) (rs : List Addr) (rows : List (List (Int × Int))), vs = [.ref b] /\ H b = some (.lst (rs.map V.ref)) /\ BillL H rs rows /\ rows.length <= 6 /\ (∀ row ∈ rows, row.length <= 20) /\
 ∀ l (ls : List Addr) H', Same H H' -> H l = none -> H' l = some (.lst (ls.map V.ref)) -> RowsL H' ls (rows.map fun row => row.map (·.1)) -> (∀ r ∈ ls, H r = none) -> Q (.ref l) H'
theorem tR : FnScope ["bill"] ["bill"] (ar kE) := ⟨rfl, rfl, rfl, by decide +kernel, rfl, by decide +kernel, by decide +kernel⟩
theorem tU (D : Dfs K mg aF dF) (T : Txt mg) : FnOk P w K mg base a9 1 (aF 8) (dF 8) ["bill"] (l9 K) := by
 refine D.may_of.fn.ok tR (fun vs H Q E h => ?_) (fun cdv A outer s H vs Q E hr h => ?_)
 ·obtain ⟨b, rs, rows, rfl, _⟩ := h; rfl
 ·have hu := aW hr
  obtain ⟨b, rs, rows, rfl, hb, bl, r6, r20, q⟩ := h
  refine ⟨_, (ah (av (a8 ["pairs"] [none] rfl (jy K (pv 0)) (fun _ => aq (i := 0) (aU (N := ["pairs"]) (by decide +kernel)) rfl (Or.inl rfl)) (fun _ => bx) (fun _ => (a8 ["badge", "minutes"] [none, none] rfl (jy K (pv 0)) (fun _ => wL K (n := 2) rfl (a7 (aq (i := 0) (aU (N := ["badge", "minutes"]) (by decide +kernel)) rfl (Or.inl rfl)) (a7 (aq (i := 1) (aU (N := ["badge", "minutes"]) (by decide +kernel)) rfl (Or.inl rfl)) cX))) (fun _ => bx) (fun _ => (pv 0)) ((.cons (fun _ e => by cases e) (.cons (fun _ e => by cases e) .nil))))) ((.cons (fun _ e => by cases e) .nil))))), ?_⟩
  refine ⟨_, rfl, b, rfl, ⟨_, SqL.of hb⟩, ?_⟩
  have ln := bl.len
  refine jU (xs := rs.map V.ref) (fun i => (rows.getD i []).map fun x => V.int x.1) (SqL.of hb) (by rw [B4]; omega) (fun i x hx H2 R s2 k => ?_) fun acc ls H2 s2 nacc hacc hls hall hne => ?_
  ·rw [B7] at hx
   obtain ⟨r, hr, rfl⟩ := Cc.mp hx
   obtain ⟨row, hrow, ra⟩ := (bl.same s2).get hr
   have eg : rows.getD i [] = row := by rw [B5, hrow]; rfl
   rw [eg] at k
   have r2 := r20 row (B8 hrow)
   refine ⟨_, rfl, r, rfl, ⟨_, SqL.of ra.choose_spec.1⟩, ?_⟩
   exact iZ (fun x => V.int x.1) ra (by omega) (fun j x hx H3 R s3 k3 => ⟨_, rfl, k3 H3 (Same.refl _)⟩) fun acc2 H3 s3 n3 h3 => k acc2 H3 s3 n3 h3
  ·rw [B4] at hls
   refine q acc ls H2 s2 nacc hacc (RowsL.of (by rw [B4]; omega) fun i r p e1 e2 => ?_) fun r hr => ?_
   ·rw [B7] at e2
    obtain ⟨row, hrow, rfl⟩ := Cc.mp e2
    have := (hall i r e1).1
    rw [B5, hrow] at this
    rw [this, Cu]; rfl
   ·obtain ⟨i, hi, ei⟩ := Ck.mp hr
    exact (hall i r (by rw [B3 hi, ei])).2
def dP (K : PySem.W.Frag) : Sp := fun vs H Q _ => ∃ (b ha : Addr) (rs : List Addr) (rows : List (List (Int × Int))) (hands : List Int), vs = [.ref b, .ref ha] /\ H b = some (.lst (rs.map V.ref)) /\ BillL H rs rows /\ rows.length <= 6 /\ (∀ row ∈ rows, (row.map (·.1)).Nodup) /\ SqL K H ha (hands.map V.int) /\ hands.length = rows.length /\
 (∀ (i : Nat) row h, rows[i]? = some row -> hands[i]? = some h -> h ∈ row.map (·.1)) /\ ∀ H', Same H H' -> Q (.int (bC rows hands)) H'
theorem k8 : FnScope ["bill", "hands"] ["bill", "hands"] (ar eR) := ⟨rfl, rfl, rfl, by decide +kernel, rfl, by decide +kernel, by decide +kernel⟩
theorem fZ (D : Dfs K mg aF dF) (T : Txt mg) : FnOk P w K mg base a9 1 (aF 9) (dF 9) ["bill", "hands"] (dP K) := by
 refine D.minutes_of.fn.ok k8 (fun vs H Q E h => ?_) (fun cdv A outer s H vs Q E hr h => ?_)
 ·obtain ⟨b, ha, rs, rows, hands, rfl, _⟩ := h; rfl
 ·have hu := aW hr
  obtain ⟨b, ha, rs, rows, hands, rfl, hb, bl, r6, nd, hh, hl, hin, q⟩ := h
  refine ⟨_, (ah (av (ao (Ad K) (by rfl) T.z_sum boot_sum (aa (a8 ["pairs", "hand"] [none, none] rfl (uT K rfl T.z_zip (aa (pv 0) (aa (pv 1) ae))) (fun _ => wL K (n := 2) rfl (a7 (aq (i := 0) (aU (N := ["pairs", "hand"]) (by decide +kernel)) rfl (Or.inl rfl)) (a7 (aq (i := 1) (aU (N := ["pairs", "hand"]) (by decide +kernel)) rfl (Or.inl rfl)) cX))) (fun _ => bx) (fun _ => (eF hu (aV (rf K) (by rfl) T.z_dict PyProof.Rows.boot_dict (aa (pv 0) ae)) (pv 1) (fun _ _ => rfl))) ((.cons (fun _ e => by cases e) (.cons (fun _ e => by cases e) .nil)))) ae)))), ?_⟩
  have ln := bl.len
  refine ⟨_, rfl, _, rfl, b, ha, _, _, rfl, SqL.of hb, hh, ?_⟩
  refine lR (xs := rs.map V.ref) (ys := hands.map V.int) (fun j => .int (cg rows hands j)) (by rw [B4, B4]; omega) (SqL.of hb) hh (by rw [B4]; omega) (fun j x y H2 R hx hy s2 k => ?_) fun acc H2 s2 nacc hacc => ?_
  ·rw [B7] at hx
   obtain ⟨r, hr, rfl⟩ := Cc.mp hx
   obtain ⟨d, hd, rfl, ed⟩ := fB hy
   obtain ⟨row, hrow, ps, hps, tps⟩ := (bl.same s2).get hr
   have hm := hin j row d hrow hd
   obtain ⟨c, hc⟩ : ∃ c, aN row d = some c := by
    cases e : aN row d with
    | none => exact absurd hm (cE.mp e)
    | some c => exact ⟨c, rfl⟩
   have em : cg rows hands j = c := by
    unfold cg
    rw [B5, B5, hrow, hd]
    show (aN row d).getD 0 = c
    rw [hc]; rfl
   rw [em] at k
   refine ⟨_, rfl, r, ps, jC row, rfl, SqL.of hps, by unfold jC; rw [B4, tps.len], mR (nd row (B8 hrow)), tps.kv, fun l nl => ?_⟩
   refine ⟨_, rfl, l, .int c, rfl, ?_, k _ (Same.new nl)⟩
   have g := DGet.k (k := Sum.inl d) (show ay H2 l (.dK (jC row)) l = some (.dK (jC row)) from ab)
   rw [dZ, hc] at g
   exact g
  ·have e1 : (B9 (rs.map V.ref).length).map (fun j => V.int (cg rows hands j)) = ((B9 rows.length).map (cg rows hands)).map V.int := by rw [B4, ln, Cu]; rfl
   rw [e1] at hacc
   exact ⟨acc, _, rfl, SqL.of hacc, q H2 s2⟩
def oN (K : PySem.W.Frag) : Sp := fun vs H Q _ => ∃ (pa d : Addr) (row r2 : List (Int × Int)), vs = [.ref pa, .ref d] /\ RowAt H pa row /\ H d = some (.dK (jC r2)) /\ row.length <= 1000 /\
 ∀ l H', Same H H' -> H l = none -> RowAt H' l (iH row r2) -> Q (.ref l) H'
theorem vP : FnScope ["pairs", "minutes"] ["pairs", "minutes"] (ar m9) := ⟨rfl, rfl, rfl, by decide +kernel, rfl, by decide +kernel, by decide +kernel⟩
theorem vQ (D : Dfs K mg aF dF) (T : Txt mg) : FnOk P w K mg base a9 1 (aF 12) (dF 12) ["pairs", "minutes"] (oN K) := by
 refine D.added.fn.ok vP (fun vs H Q E h => ?_) (fun cdv A outer s H vs Q E hr h => ?_)
 ·obtain ⟨pa, d, row, r2, rfl, _⟩ := h; rfl
 ·have hu := aW hr
  obtain ⟨pa, d, row, r2, rfl, hr, hd, hl, q⟩ := h
  refine ⟨_, (ah (av (a8 ["badge", "cost", "minutes"] [none, none, some 1] rfl (jy K (pv 0)) (fun _ => wL K (n := 2) rfl (a7 (aq (i := 0) (aU (N := ["badge", "cost", "minutes"]) (by decide +kernel)) rfl (Or.inl rfl)) (a7 (aq (i := 1) (aU (N := ["badge", "cost", "minutes"]) (by decide +kernel)) rfl (Or.inl rfl)) cX))) (fun _ => fP (mi (yz hu (pv 0) (pv 2)))) (fun _ => (aJ (aa (pv 0) (aa (aA aR (pv 1) (eF hu (pv 2) (pv 0) (fun _ _ => rfl))) ae)))) ((.cons (fun _ e => by cases e) (.cons (fun _ e => by cases e) (.cons (fun _ e => by cases e; exact ⟨rfl, rfl⟩) .nil))))))), ?_⟩
  obtain ⟨ps, h1, h2⟩ := hr
  refine ⟨_, rfl, pa, rfl, ⟨_, SqL.of h1⟩, ?_⟩
  refine j9 (ps := ps) (row := row) (fun i => (aN r2 (row.getD i (0, 0)).1).isSome) (fun acc i v H => ∃ t, v = .ref t /\ t ≠ acc /\ cD H t ((row.getD i (0, 0)).1, (row.getD i (0, 0)).2 + (aN r2 (row.getD i (0, 0)).1).getD 0)) (SqL.of h1) h2 (by omega) (fun acc i v H H' ⟨t, e, n, h⟩ s => ⟨t, e, n, s _ _ n h⟩) (fun i x hx H2 R s2 k => ?_) (fun acc i x hx hp H2 R s2 n1 n2 k => ?_) fun acc vs H2 s2 nacc hacc hpr => ?_
  ·have eg : row.getD i (0, 0) = x := by rw [B5, hx]; rfl
   rw [eg] at k
   have g := DGet.k (k := Sum.inl x.1) (s2 _ _ hd)
   rw [dZ] at g
   have ei : ((aN r2 x.1).map V.int).isSome = (aN r2 x.1).isSome := Option.isSome_map
   have kk := k H2 (Same.refl _)
   rw [<- ei] at kk
   exact ⟨_, rfl, _, rfl, d, _, rfl, g, _, rfl, kk⟩
  ·have eg : row.getD i (0, 0) = x := by rw [B5, hx]; rfl
   rw [eg] at k hp
   have g := DGet.k (k := Sum.inl x.1) (s2 _ _ hd)
   rw [dZ] at g
   obtain ⟨c, hc⟩ := Dc.mp hp
   rw [hc] at g k
   refine ⟨_, rfl, _, rfl, _, rfl, _, rfl, d, .int c, rfl, g, _, _, rfl, rfl, b5, fun t nt => k _ _ (Same.new nt) ⟨t, rfl, fun z => n2 (by rw [<- z]; exact nt), ab⟩⟩
  ·have hpr2 : Paired (fun (i : Nat) (v : V) => ∃ t, v = V.ref t /\ cD H2 t ((row.getD i (0, 0)).1, (row.getD i (0, 0)).2 + (aN r2 (row.getD i (0, 0)).1).getD 0)) _ _ := Paired.mapP hpr fun i v ⟨t, e, _, h⟩ => ⟨t, e, h⟩
   obtain ⟨qs, e1, e2⟩ := rh hpr2
   rw [xX (g := fun x => (aN r2 x.1).isSome) (F := fun x => (x.1, x.2 + (aN r2 x.1).getD 0)) (d := (0, 0))] at e2
   exact q acc H2 s2 nacc ⟨qs, by rw [hacc, e1], e2⟩
def kJ (K : PySem.W.Frag) : Sp := fun vs H Q _ => ∃ (b : Nat) (pa ba : Addr) (p : List Int) (rs : List Addr) (rows : List (List (Int × Int))), vs = [.int ((b : Nat) : Int), .ref pa, .ref ba] /\ SqL K H pa (p.map V.int) /\ H ba = some (.lst (rs.map V.ref)) /\ BillL H rs rows /\ bD p /\ b < (dd p).length /\ p.length <= rows.length /\ rows.length <= 6 /\ (∀ row ∈ rows, row.length <= 20 /\ (aw row).Nodup) /\
 ∀ l H', Same H H' -> H l = none -> RowAt H' l (g6 rows (bV p b)) -> Q (.ref l) H'
theorem dA : FnScope ["block", "pattern", "bill", "steps", "step", "pairs"] ["block", "pattern", "bill"] (ar iN) := ⟨rfl, rfl, rfl, by decide +kernel, rfl, by decide +kernel, by decide +kernel⟩
theorem qB (D : Dfs K mg aF dF) (T : Txt mg) : FnOk P w K mg base a9 2 (aF 11) (dF 11) ["block", "pattern", "bill"] (kJ K) := by
 have Gadded : FnOk P w K mg base a9 1 (aF 12) (dF 12) ["pairs", "minutes"] (oN K) := vQ D T
 refine D.sums_of.fn.ok dA (fun vs H Q E h => ?_) (fun cdv A outer s H vs Q E hr h => ?_)
 ·obtain ⟨b, pa, ba, p, rs, rows, rfl, _⟩ := h; rfl
 ·have hu := aW hr
  obtain ⟨b, pa, ba, p, rs, rows, rfl, hp, hba, bl, c, hb, hl, r6, ok, q⟩ := h
  refine ⟨_, (af (eK (i₀ := 3) dA.nd rfl (Or.inl rfl) ["step", "pattern", "block"] [none, some 1, some 0] rfl (aQ rfl T.z_range (aa (ao (bM K) (by rfl) T.z_len boot_len (aa (pv 1) ae)) ae)) (fun _ => aq (i := 0) (aU (N := ["step", "pattern", "block"]) (by decide +kernel)) rfl (Or.inl rfl)) (fun _ => fP (az bT (au (cS K) (pv 1) (pv 0) (fun _ _ => rfl)) (pv 2) (aC _))) (fun _ => (pv 0)) ((.cons (fun _ e => by cases e) (.cons (fun _ e => by cases e; exact ⟨rfl, rfl⟩) (.cons (fun _ e => by cases e; exact ⟨rfl, rfl⟩) .nil)))))
   (af (ax (i := 5) dA.nd rfl (Or.inl rfl) (aV (qL K) (by rfl) T.z_list boot_list (aa (au (cS K) (pv 2) (au (cS K) (pv 3) ag (fun _ _ => rfl)) (fun _ _ => rfl)) ae)))
   (af (aX PassesOwn.never rfl (jy K (fq (zW K) (pv 3) (fO ag) jw)) (aq (i := 4) dA.nd rfl (Or.inl rfl))
    (ah (ax (i := 5) dA.nd rfl (Or.inl rfl) (pc D.added Gadded (hr.mono (by decide)) (aa (pv 5) (aa (aV (rf K) (by rfl) T.z_dict PyProof.Rows.boot_dict (aa (au (cS K) (pv 2) (pv 4) (fun _ _ => rfl)) ae)) ae))))))
   (ah (av (pv 5)))))), ?_⟩
  refine ⟨_, rfl, _, _, rfl, .inl ⟨_, hp, rfl⟩, _, rfl, fU _, by rw [B4]; omega, ?_⟩
  have e0 : (((p.map V.int).length : Nat) : Int).toNat = p.length := by rw [B4]; omega
  rw [e0]
  refine iE (n := p.length) (fun i => decide (p.getD i 0 = (b : Int))) (by omega) (fun i hi H3 R s3 k => ?_) (fun i hi H3 R k => ?_) fun sl H3 s3 nsl hsl => ?_
  ·have ei : (0 : Int) + (i : Int) = ((i : Nat) : Int) := by omega
   rw [ei]
   have kk := k H3 (Same.refl _)
   rw [oy] at kk
   exact ⟨_, rfl, _, rfl, pa, _, _, _, rfl, rfl, s3.seq hp, aZ hi, _, rfl, rfl, _, rfl, kk⟩
  ·have ei : (0 : Int) + (i : Int) = ((i : Nat) : Int) := by omega
   rw [ei]
   exact ⟨_, rfl, k⟩
  have sne : bV p b ≠ [] := cm c hb
  have slt : ∀ i ∈ bV p b, i < rows.length := fun i hi => by have := (dg.mp hi).1; omega
  have hsl : H3 sl = some (.lst ((bV p b).map fun (i : Nat) => V.int (i : Int))) := hsl
  have q2 : ∀ l H', Same H3 H' -> H3 l = none -> RowAt H' l (g6 rows (bV p b)) -> Q (.ref l) H' := fun l H' s n e => q l H' (s3.trans s) (s3.free n) e
  have hba3 := s3 _ _ hba
  have bl3 := bl.same s3
  clear q
  generalize bV p b = st at hsl sne slt q2
  obtain ⟨s0, sr, rfl⟩ := List.exists_cons_of_ne_nil sne
  have at_row : ∀ i, i < rows.length -> rows[i]? = some (rows.getD i []) := fun i hi => by rw [B5, B3 hi]; rfl
  obtain ⟨r0, hr0, ps0, hps0, tps0⟩ := bl3.at (at_row s0 (slt s0 (by simp)))
  refine ⟨_, rfl, _, rfl, sl, _, _, _, rfl, rfl, SqL.of hsl, aK (j := 0) (v := V.int (s0 : Int)) rfl, ba, _, _, _, rfl, rfl, SqL.of hba3, aK (by rw [B7, hr0]; rfl), r0, _, rfl, .inl (SqL.of hps0), fun l nl => ?_⟩
  have cf : gj (((s0 :: sr).map fun (i : Nat) => V.int (i : Int))) (some (1 : Int)) none = sr.map fun (i : Nat) => V.int (i : Int) := jS _ 1
  refine ⟨_, rfl, _, rfl, sl, _, rfl, SqL.of (Same.new nl _ _ hsl), fun cc ncc => ?_⟩
  have s34 := (Same.new (o := .lst (ps0.map V.ref)) nl).to (o := .lst (sr.map fun (i : Nat) => V.int (i : Int))) ncc
  have ncl : l ≠ cc := fun z => by rw [<- z, ab] at ncc; cases ncc
  have hl4 : ay (ay H3 l (.lst (ps0.map V.ref))) cc (.lst (sr.map fun (i : Nat) => V.int (i : Int))) l = some (.lst (ps0.map V.ref)) := by rw [aj ncl]; exact ab
  have hcc4 : ay (ay H3 l (.lst (ps0.map V.ref))) cc (.lst (sr.map fun (i : Nat) => V.int (i : Int))) cc = some (.lst (sr.map fun (i : Nat) => V.int (i : Int))) := ab
  rw [cf]
  generalize ay (ay H3 l (.lst (ps0.map V.ref))) cc (.lst (sr.map fun (i : Nat) => V.int (i : Int))) = H4 at s34 hl4 hcc4
  refine ⟨cc, rfl, ⟨_, SqL.of hcc4⟩, ?_⟩
  refine bQ (K := K) (a := cc) (xs := sr.map fun (i : Nat) => V.int (i : Int)) (fun i σ H5 => ∃ (po : Addr) (x : Option V), σ = [some (.int ((b : Nat) : Int)), some (.ref pa), some (.ref ba), some (.ref sl), x, some (.ref po)] /\ Same H4 H5 /\ H3 po = none /\ RowAt H5 po (g6 rows (s0 :: sr.take i)))
   ⟨l, none, rfl, Same.refl _, nl, ⟨ps0, hl4, by rw [Dx]; exact tps0.same s34⟩⟩ (fun i σ H5 _ hq__ => by obtain ⟨_, _, _, s, _⟩ := hq__; exact s.seq (SqL.of hcc4)) ?_ ?_
  ·rintro i y σ H5 hi ⟨po, x, rfl, s5, npo, hpo⟩
   obtain ⟨d, hd, rfl, _⟩ := eN hi
   have hdl := slt d (Ct _ (B8 hd))
   have s35 := s34.trans s5
   have hrw := at_row d hdl
   obtain ⟨r1, hr1, ps1, hps1, tps1⟩ := (bl3.same s35).at hrw
   have okd := ok _ (B8 hrw)
   refine ⟨_, rfl, _, rfl, _, rfl, ba, _, _, _, rfl, rfl, SqL.of (s35 _ _ hba3), aK (by rw [B7, hr1]; rfl), r1, ps1, jC (rows.getD d []), rfl, SqL.of hps1, by unfold jC; rw [B4, tps1.len], mR okd.2, tps1.kv, fun dd nd => ?_⟩
   have s6 := Same.new (o := .dK (jC (rows.getD d []))) nd
   refine ⟨po, dd, _, rows.getD d [], rfl, hpo.same s6, ab, CJ (ve (fun row h => (ok row h).1) _) (by decide), fun l2 H6 t1 t2 t3 => ?_⟩
   refine ⟨l2, _, rfl, s5.trans (s6.trans t1), s35.free (s6.free t2), ?_⟩
   have et : sr.take (i + 1) = sr.take i ++ [d] := by rw [Dj, hd]; rfl
   rw [et, <- List.cons_append, iJ (by simp)]
   exact t3
  ·rintro σ H5 ⟨po, x, rfl, s5, npo, hpo⟩
   rw [B4, CW] at hpo
   exact ⟨_, rfl, q2 po H5 (s34.trans s5) npo hpo⟩
def nu (K : PySem.W.Frag) : Sp := fun vs H Q _ => ∃ (pa ba : Addr) (p : List Int) (rs : List Addr) (rows : List (List (Int × Int))), vs = [.ref pa, .ref ba] /\ SqL K H pa (p.map V.int) /\ H ba = some (.lst (rs.map V.ref)) /\ BillL H rs rows /\ bD p /\ p.length <= rows.length /\ rows.length <= 6 /\ (∀ row ∈ rows, row.length <= 20 /\ (aw row).Nodup) /\
 ∀ l ls H', Same H H' -> H l = none -> H' l = some (.lst (ls.map V.ref)) -> BillL H' ls (bE rows p) -> (∀ r ∈ ls, H r = none /\ r ≠ l) -> Q (.ref l) H'
theorem xA : FnScope ["pattern", "bill"] ["pattern", "bill"] (ar qw) := ⟨rfl, rfl, rfl, by decide +kernel, rfl, by decide +kernel, by decide +kernel⟩
theorem rG (D : Dfs K mg aF dF) (T : Txt mg) : FnOk P w K mg base a9 3 (aF 10) (dF 10) ["pattern", "bill"] (nu K) := by
 have Gwidth : FnOk P w K mg base a9 1 (aF 1) (dF 1) ["pattern"] (h9 K) := kG D T
 have Gsums_of : FnOk P w K mg base a9 2 (aF 11) (dF 11) ["block", "pattern", "bill"] (kJ K) := qB D T
 refine D.sums.fn.ok xA (fun vs H Q E h => ?_) (fun cdv A outer s H vs Q E hr h => ?_)
 ·obtain ⟨pa, ba, p, rs, rows, rfl, _⟩ := h; rfl
 ·have hu := aW hr
  obtain ⟨pa, ba, p, rs, rows, rfl, hp, hba, bl, c, hl, r6, ok, q⟩ := h
  refine ⟨_, (ah (av (a8 ["block", "pattern", "bill"] [none, some 0, some 1] rfl (aQ rfl T.z_range (aa (pc D.width Gwidth (hr.mono (by decide)) (aa (pv 0) ae)) ae)) (fun _ => aq (i := 0) (aU (N := ["block", "pattern", "bill"]) (by decide +kernel)) rfl (Or.inl rfl)) (fun _ => bx) (fun _ => (pc D.sums_of Gsums_of (hr.mono (by decide)) (aa (pv 0) (aa (pv 1) (aa (pv 2) ae))))) ((.cons (fun _ e => by cases e) (.cons (fun _ e => by cases e; exact ⟨rfl, rfl⟩) (.cons (fun _ e => by cases e; exact ⟨rfl, rfl⟩) .nil))))))), ?_⟩
  have dl := cN p
  refine ⟨_, rfl, pa, p, rfl, hp, by omega, fun H1 s1 => ⟨_, rfl, fU _, by omega, ?_⟩⟩
  rw [CG]
  refine qm (n := (dd p).length) (fun b => g6 rows (bV p b)) (by omega) (fun i hi H2 R s2 k => ?_) fun acc ls H2 s2 nacc hacc bls nls => ?_
  ·have ei : (0 : Int) + (i : Int) = ((i : Nat) : Int) := by omega
   rw [ei]
   have s12 := s1.trans s2
   exact ⟨_, rfl, _, rfl, _, rfl, i, pa, ba, p, rs, rows, rfl, s12.seq hp, s12 _ _ hba, bl.same s12, c, hi, hl, r6, ok, fun l H3 s3 nl hl => k l H3 s3 nl hl⟩
  ·exact q acc ls H2 (s1.trans s2) (s1.free nacc) hacc bls fun r hr => ⟨s1.free (nls r hr).1, (nls r hr).2⟩
def gF (K : PySem.W.Frag) (n : Nat) : Sp := fun vs H Q _ => ∃ (a hd ad : Addr) (rs : List Addr) (ps : List (List Int)) (U : List Int) (pl : Nat) (kvs : HK) (as : List Int), vs = [.ref a, .ref hd, .int pl, .ref ad] /\
 SqL K H a (rs.map V.ref) /\ PoolsL K H rs ps /\ pl < ps.length /\ (∀ p ∈ ps, ∀ b ∈ p, b ∈ U) /\ U.length <= 60 /\ H hd = some (.dK kvs) /\ H ad = some (.dK (fg as)) /\ hd ≠ ad /\
 (kvs.map (·.1)).Nodup /\ Good ps kvs /\ as.Nodup /\ (∀ b ∈ as, b ∈ U) /\ (U.filter fun c => decide (c ∉ as)).length < n /\
 ∀ ok kvs' as' H', Sett ps U pl kvs as ok kvs' as' -> SameX [hd, ad] H H' -> H' hd = some (.dK kvs') -> H' ad = some (.dK (fg as')) -> Q (.bl ok) H'
def md (K : PySem.W.Frag) : Sp := gF K 28
theorem me : FnScope ["pools", "holders", "place", "asked", "badge"] ["pools", "holders", "place", "asked"] (ar kF) := ⟨rfl, rfl, rfl, by decide +kernel, rfl, by decide +kernel, by decide +kernel⟩
theorem tV (D : Dfs K mg aF dF) (T : Txt mg) : FnOk P w K mg base a9 28 (aF 14) (dF 14) ["pools", "holders", "place", "asked"] (md K) := by
 have all : ∀ n, FnOk P w K mg base a9 n (aF 14) (dF 14) ["pools", "holders", "place", "asked"] (gF K n) := by
  intro n
  induction n with
  | zero =>
   have no : ∀ vs H Q E, ¬ gF K 0 vs H Q E := fun vs H Q E h => by
    obtain ⟨a, hd, ad, rs, ps, U, pl, kvs, as, _, _, _, _, _, _, _, _, _, _, _, _, _, h, _⟩ := h
    omega
   exact ⟨fun vs H Q E h => absurd h (no vs H Q E), fun A outer s H args us vs Q E _ _ _ _ h => absurd h (no vs H Q E)⟩
  | succ n Gsettle =>
   refine D.settle.fn.ok me (fun vs H Q E h => ?_) (fun cdv A outer s H vs Q E hr h => ?_)
   ·obtain ⟨a, hd, ad, rs, ps, U, pl, kvs, as, rfl, _⟩ := h; rfl
   have hu : A.units + 3 + 1 < cLine := by have := hr.un; show A.units + 3 + 1 < cLine; simp only [Around.deeper] at this; omega
   obtain ⟨a, hd, ad, rs, ps, U, pl, kvs, as, rfl, hS, hP, hpl, hU, hU60, hH, hA, hne, nd, g, nda, hsub, hleft, q⟩ := h
   refine ⟨_, (af (aX PassesOwn.never rfl (jy K (au (cS K) (pv 0) (pv 2) (fun _ _ => rfl))) (aq (i := 4) me.nd rfl (Or.inl rfl))
    (ah (aI (mi (iw hu (pv 4) (pv 3)))
     (af (mC hu (pv 3) (pv 4) cI rfl)
     (ah (aI (PW.pt (dD (mi (iw hu (pv 4) (pv 1))) (de (b4 (pc D.settle Gsettle hr (aa (pv 0) (aa (pv 1) (aa (eF hu (pv 1) (pv 4) (fun _ _ => rfl)) (aa (pv 3) ae)))))))))
      (af (mC hu (pv 1) (pv 4) (pv 2) rfl)
      (ah (av cI)))
      aB)))
     aB)))
   (ah (av cI))), ?_⟩
   have hp : ps[pl]? = some ps[pl] := B3 hpl
   generalize ps[pl] = p at hp
   obtain ⟨r, hr1, hr2⟩ := hP.at hp
   have dk0 : ∀ x ∈ [hd, ad], uD H x := fun x hx => by
    simp only [Cm, CP, or_false] at hx
    rcases hx with e | e <;> subst e
    ·exact ⟨_, hH⟩
    ·exact ⟨_, hA⟩
   refine ⟨_, rfl, _, rfl, a, _, _, _, rfl, rfl, hS, aK (by rw [B7, hr1]; rfl), r, rfl, ⟨_, hr2⟩, ?_⟩
   refine bQ (K := K) (a := r) (xs := p.map V.int) (fun i σ H1 => ∃ ai v, σ = [some (.ref a), some (.ref hd), some (.int pl), some (.ref ad), v] /\ SLoop ps U p kvs as i ai /\ SameX [hd, ad] H H1 /\ H1 hd = some (.dK kvs) /\ H1 ad = some (.dK (fg ai)))
    ⟨as, none, rfl, ⟨fun _ h => h, nda, hsub, fun _ h => by simp at h, fun b hb hn => absurd hb hn⟩, SameX.refl, hH, hA⟩ (fun i σ H1 _ hq__ => by obtain ⟨_, _, _, _, s1, _⟩ := hq__; exact s1.seq dk0 hr2) ?_ ?_
   ·rintro i y σ H1 hi ⟨ai, v, rfl, sl, s1, hH1, hA1⟩
    obtain ⟨b, hb, rfl⟩ : ∃ b, p[i]? = some b /\ y = V.int b := by
     rw [B7] at hi
     obtain ⟨b, h1, h2⟩ := Cc.mp hi
     exact ⟨b, h1, h2.symm⟩
    have hbU : b ∈ U := hU p (B8 hp) b (B8 hb)
    have al : ai.length <= U.length := sl.nd.length_le_of_subset sl.sub
    have dk1 : ∀ x ∈ [hd, ad], uD H1 x := fun x hx => by
     simp only [Cm, CP, or_false] at hx
     rcases hx with e | e <;> subst e
     ·exact ⟨_, hH1⟩
     ·exact ⟨_, hA1⟩
    refine ⟨_, rfl, _, rfl, ad, _, rfl, DGet.k (k := Sum.inl b) hA1, _, rfl, ?_⟩
    rw [oe]
    by_cases hba : b ∈ ai
    ·rw [if_pos hba]
     exact bw ⟨ai, _, rfl, sl.skip hb hba, s1, hH1, hA1⟩
    rw [if_neg hba]
    refine bX ?_
    refine ⟨_, rfl, _, rfl, ad, _, rfl, DPut.k (k := Sum.inl b) hA1 (iV (by unfold fg; rw [B4]; omega)), ?_⟩
    rw [uC hba]
    have hH2 : ay H1 ad (.dK (fg (ai ++ [b]))) hd = some (.dK kvs) := by rw [aj hne]; exact hH1
    have s2 : SameX [hd, ad] H (ay H1 ad (.dK (fg (ai ++ [b])))) := s1.trans (SameX.upd (by simp))
    have dk2 : ∀ x ∈ [hd, ad], uD (ay H1 ad (.dK (fg (ai ++ [b])))) x := fun x hx => by
     simp only [Cm, CP, or_false] at hx
     rcases hx with e | e <;> subst e
     ·exact ⟨_, hH2⟩
     ·exact ⟨_, ab⟩
    have kl := qO hU g nd
    refine ⟨_, rfl, _, rfl, hd, _, rfl, DGet.k (k := Sum.inl b) hH2, _, rfl, ?_⟩
    cases hv : bf kvs (Sum.inl b) with
    | none =>
     refine bX (bX ?_)
     refine ⟨_, rfl, _, rfl, _, rfl, hd, _, rfl, DPut.k (k := Sum.inl b) hH2 (iV (by omega)), ?_⟩
     refine q true _ (ai ++ [b]) _ (sl.free hp (hU p (B8 hp)) hb hba hv nd g) (s2.trans (SameX.upd (by simp))) ab ?_
     rw [aj hne.symm]; exact ab
    | some vv =>
     obtain ⟨t, pt, rfl, ht, _⟩ := g.val hv
     have htl : t < ps.length := (B6.mp ht).1
     refine bw ?_
     refine ⟨_, rfl, _, rfl, _, rfl, _, rfl, hd, _, rfl, (by rw [<- hv]; exact DGet.k (k := Sum.inl b) hH2), _, rfl, ?_⟩
     refine ⟨a, hd, ad, rs, ps, U, t, kvs, ai ++ [b], rfl, s2.seq dk0 hS, hP.mono s2 dk0, htl, hU, hU60, hH2, ab, hne, nd, g, eI sl.nd hba, ?_, ?_, ?_⟩
     ·intro c hc
      rcases Cw.mp hc with z | z
      ·exact sl.sub c z
      ·rw [Cg.mp z]; exact hbU
     ·have := wW hbU hba sl.grow
      omega
     intro ok kvs2 as2 H3 st s3 hH3 hA3
     refine ⟨ok, rfl, ?_⟩
     cases ok with
     | false =>
      obtain ⟨e, sl2⟩ := sl.miss hb hba hv htl st
      subst e
      exact bw ⟨as2, _, rfl, sl2, s2.trans s3, hH3, hA3⟩
     | true =>
      obtain ⟨n2, g2, _⟩ := st.yes rfl
      have kl2 := qO hU g2 n2
      refine bX ?_
      refine ⟨_, rfl, _, rfl, _, rfl, hd, _, rfl, DPut.k (k := Sum.inl b) hH3 (iV (by omega)), ?_⟩
      refine q true _ as2 _ (sl.turn hp hb hba hv st) ((s2.trans s3).trans (SameX.upd (by simp))) ab ?_
      rw [aj hne.symm]; exact hA3
   ·rintro σ H1 ⟨ai, v, rfl, sl, s1, hH1, hA1⟩
    rw [B4] at sl
    exact q false kvs ai H1 (sl.done hp) s1 hH1 hA1
 exact all 28
def ff (K : PySem.W.Frag) : Sp := fun vs H Q _ => ∃ (hd ad : Addr) (pl : Nat) (kvs : HK) (as : List Int), vs = [.ref hd, .int pl, .ref ad] /\ H hd = some (.dK kvs) /\ H ad = some (.dK (fg as)) /\ hd ≠ ad /\ as.length <= 60 /\
 (∀ b ∈ as, ∃ i : Int, bf kvs (Sum.inl b) = some (.int i)) /\
 ∀ l (ms : List Int) H', SameX [ad] H H' -> H l = none -> H' l = some (.lst (ms.map V.int)) -> ms.Perm ((pl : Int) :: as.map (hold kvs)) -> ms.Pairwise (· <= ·) -> Q (.ref l) H'
theorem jn : FnScope ["holders", "place", "asked"] ["holders", "place", "asked"] (ar dy) := ⟨rfl, rfl, rfl, by decide +kernel, rfl, by decide +kernel, by decide +kernel⟩
theorem jo (D : Dfs K mg aF dF) (T : Txt mg) : FnOk P w K mg base a9 1 (aF 15) (dF 15) ["holders", "place", "asked"] (ff K) := by
 refine D.short_places.fn.ok jn (fun vs H Q E h => ?_) (fun cdv A outer s H vs Q E hr h => ?_)
 ·obtain ⟨hd, ad, pl, kvs, as, rfl, _⟩ := h; rfl
 ·have hu := aW hr
  obtain ⟨hd, ad, pl, kvs, as, rfl, hH, hA, hne, h60, hv, q⟩ := h
  refine ⟨_, (ah (av (ao (wK K) (by rfl) T.z_sorted boot_sorted (aa (aA mz (aY (aa (pv 1) ae)) (a8 ["badge", "holders"] [none, some 0] rfl (wQ (pv 2)) (fun _ => aq (i := 0) (aU (N := ["badge", "holders"]) (by decide +kernel)) rfl (Or.inl rfl)) (fun _ => bx) (fun _ => (eF hu (pv 1) (pv 0) (fun _ _ => rfl))) ((.cons (fun _ e => by cases e) (.cons (fun _ e => by cases e; exact ⟨rfl, rfl⟩) .nil))))) ae)))), ?_⟩
  refine ⟨_, rfl, b5, fun l1 n1 => ?_⟩
  have nl1 : ad ≠ l1 := ak hA n1
  refine ⟨_, rfl, ad, _, rfl, by rw [aj nl1]; exact hA, fun φ => ?_⟩
  have hH1 : ay (ay H l1 (.lst [.int pl])) ad (.ext φ) hd = some (.dK kvs) := by rw [aj hne, aj (ak hH n1)]; exact hH
  refine sj (kvs := fg as) (fun k => match k with | .inl b => .int (hold kvs b) | .inr _ => .non) (by unfold fg; rw [B4]; omega) ab (fun i k v hi H2 R s2 kk => ?_) fun acc H2 s2 na hacc => ?_
  ·obtain ⟨b, hb, e⟩ : ∃ b, b ∈ as /\ (Sum.inl b, V.bl true) = (k, v) := by
    have m := B8 hi
    obtain ⟨b, hb, e⟩ := Cb.mp m
    exact ⟨b, hb, e⟩
   cases e
   obtain ⟨z, hz⟩ := hv b hb
   refine ⟨_, rfl, _, rfl, hd, _, rfl, (by rw [<- hz]; exact DGet.k (k := Sum.inl b) (s2 _ _ hH1)), ?_⟩
   have e := gP hz
   rw [<- e]
   exact kk H2 (Same.refl _)
  have e1 : (fg as).map (fun p => match p.1 with | Sum.inl b => V.int (hold kvs b) | Sum.inr _ => V.non) = (as.map (hold kvs)).map V.int := by
   unfold fg
   rw [Cu, Cu]; rfl
  have hacc' : H2 acc = some (.lst ((as.map (hold kvs)).map V.int)) := hacc.trans (congrArg (fun z => some (HO.lst z)) e1)
  have hl2 : H2 l1 = some (.lst [.int pl]) := s2 _ _ (by rw [aj nl1.symm]; exact ab)
  refine ⟨l1, acc, _, _, rfl, rfl, hl2, hacc', by rw [B4, B4]; exact wI (by show 1 + _ <= 1000; omega), fun l3 n3 => ?_⟩
  refine ⟨l3, (pl : Int) :: as.map (hold kvs), rfl, SqL.of ab, by rw [Cv, B4]; omega, fun l4 ms n4 hp hs => ?_⟩
  have sA : SameX [ad] H H2 := fun b o hb e => s2 b o (by rw [aj (by simpa using hb), aj (ak e n1)]; exact e)
  have n4' : H l4 = none := by
   cases z : H l4 with
   | none => rfl
   | some o =>
    by_cases hb : l4 = ad
    ·have : ay H2 l3 (.lst (V.int (pl : Int) :: (as.map (hold kvs)).map V.int)) ad = none := hb ▸ n4
     rw [aj (ak (s2 _ _ ab) n3), s2 _ _ ab] at this
     cases this
    ·have z2 := sA l4 o (by simpa using hb) z
     have : ay H2 l3 (.lst (V.int (pl : Int) :: (as.map (hold kvs)).map V.int)) l4 = none := n4
     rw [aj (ak z2 n3), z2] at this
     cases this
  refine q l4 ms _ ?_ n4' ab hp hs
  exact sA.trans (Same.x ((Same.new n3).to n4))
def i8 (K : PySem.W.Frag) : Sp := fun vs H Q _ => ∃ (hd : Addr) (ps : List (List Int)) (kvs : HK), vs = [.ref hd, .int ps.length] /\ H hd = some (.dK kvs) /\ ps.length <= 60 /\ Held ps kvs ps.length /\
 ∀ l (hs : List Int) H', SameX [hd] H H' -> H l = none -> H' l = some (.lst (hs.map V.int)) -> Deal ps hs -> Q (.ref l) H'
theorem dI : FnScope ["holders", "count", "hands", "badge", "place"] ["holders", "count"] (ar gu) := ⟨rfl, rfl, rfl, by decide +kernel, rfl, by decide +kernel, by decide +kernel⟩
theorem oO (D : Dfs K mg aF dF) (T : Txt mg) : FnOk P w K mg base a9 1 (aF 16) (dF 16) ["holders", "count"] (i8 K) := by
 refine D.hands_of.fn.ok dI (fun vs H Q E h => ?_) (fun cdv A outer s H vs Q E hr h => ?_)
 ·obtain ⟨hd, ps, kvs, rfl, _⟩ := h; rfl
 ·have hu := aW hr
  obtain ⟨hd, ps, kvs, rfl, hH, h60, he, q⟩ := h
  refine ⟨_, (af (ax (i := 2) dI.nd rfl (Or.inl rfl) (aA pJ (aY (aa ag ae)) (pv 1)))
   (af (aX PassesOwn.never rfl (uA (pH PySem.F.plainAttrs_dict PySem.F.slot_dict_items PySem.F.type_dict_items oa (pv 0))) (wL K rfl (a7 (aq (i := 3) dI.nd rfl (Or.inl rfl)) (a7 (aq (i := 4) dI.nd rfl (Or.inl rfl)) cX)))
    (ah (jF (pv 3) (ph (pv 2) (pv 4) gM))))
   (ah (av (pv 2))))), ?_⟩
  refine ⟨b5, fun l0 n0 => ⟨_, rfl, l0, _, _, rfl, rfl, ab, by omega, by omega, by show 1 * _ <= _; exact wI (by omega), fun l nl => ?_⟩⟩
  have el : (Cq ((ps.length : Int)).toNat [V.int 0]).flatten = (Cq ps.length (0 : Int)).map V.int := by
   have : ((ps.length : Int)).toNat = ps.length := by omega
   rw [this]
   generalize ps.length = m
   induction m with
   | zero => rfl
   | succ m ih => rw [Dd, DD, ih, Dd]; rfl
  rw [el]
  have nhd0 : hd ≠ l0 := ak hH n0
  have nhd : hd ≠ l := ak (show ay H l0 (.lst [.int 0]) hd = some _ by rw [aj nhd0]; exact hH) nl
  have nl' : H l = none := by
   cases z : H l with
   | none => rfl
   | some o =>
    rw [aj (ak z n0), z] at nl
    cases nl
  have hH1 : ay (ay H l0 (.lst [.int 0])) l (.lst ((Cq ps.length (0 : Int)).map V.int)) hd = some (.dK kvs) := by rw [aj nhd, aj nhd0]; exact hH
  refine ⟨_, rfl, .inr (.inr (.inl ⟨rfl, .inl ⟨_, hH1⟩⟩)), hd, kvs, rfl, rfl, hH1, fun v nv => ?_⟩
  have nvd : hd ≠ v := ak hH1 nv
  have nvl : l ≠ v := ak ab nv
  refine ⟨v, hd, kvs, rfl, ab, by rw [aj nvd]; exact hH1, fun φ => ?_⟩
  refine si (fun i σ H1 => ∃ (hs : List Int) (x y : Option V), σ = [some (.ref hd), some (.int ps.length), some (.ref l), x, y] /\ SameX [hd] H H1 /\ H1 hd = some (.ext φ) /\ H1 l = some (.lst (hs.map V.int)) /\ hs.length = ps.length /\
    ∀ j (b : Int) (t : Nat), j < i -> kvs[j]? = some (Sum.inl b, V.int t) -> hs[t]? = some b) ⟨Cq ps.length 0, none, none, rfl, ?_, ab, ?_, by rw [List.length_replicate], fun j b t h => by omega⟩ (fun i σ H1 _ hq__ => by obtain ⟨_, _, _, _, _, h, _⟩ := hq__; exact h) ?_ ?_
  ·intro b o hb e
   have h1 : b ≠ hd := by simpa using hb
   rw [aj h1, aj (ak (show ay (ay H l0 _) l _ b = some o by rw [aj (ak e nl'), aj (ak e n0)]; exact e) nv), aj (ak e nl'), aj (ak e n0)]; exact e
  ·rw [aj nhd.symm, aj nvl]; exact ab
  ·rintro i k v' σ H1 p hi ⟨hs, x, y, rfl, s1, hx1, hl1, hlen, hin⟩ np
   obtain ⟨b, t, pl, e, e2, e3⟩ := he.good _ (B8 hi)
   cases e
   have ht : t < ps.length := (B6.mp e2).1
   have npl : l ≠ p := ak hl1 np
   refine ⟨p, _, rfl, SqT.of ab, rfl, _, _, rfl, _, _, rfl, rfl, ?_⟩
   refine ⟨_, rfl, _, rfl, _, rfl, l, _, _, t, rfl, rfl, by rw [aj npl]; exact hl1, ?_, ?_⟩
   ·unfold vU
    rw [if_pos (by omega), if_pos (by rw [B4]; omega)]
    congr 1
   refine ⟨hs.set t b, _, _, rfl, ?_, ?_, ?_, by rw [DL]; exact hlen, fun j b' t' hj hj' => ?_⟩
   ·intro c o hc e
    rw [aj (ak e nl'), aj (ak (s1 c o hc e) np)]; exact s1 c o hc e
   ·rw [aj nhd, aj (ak hx1 np)]; exact hx1
   ·rw [ab]; congr 1; congr 1
    rw [List.map_set]; rfl
   ·by_cases hji : j = i
    ·subst hji
     rw [hi] at hj'
     have z := Option.some.inj hj'
     injection z with z1 z2
     have z1 := Sum.inl.inj z1
     injection z2 with z2
     have : t = t' := by omega
     subst this z1
     rw [Eg (by omega)]
    ·have h1 := hin j b' t' (by omega) hj'
     have : t ≠ t' := fun z => by
      subst z
      have nd := he.vals
      have l1 : j < kvs.length := (B6.mp hj').1
      have l2 : i < kvs.length := (B6.mp hi).1
      rw [B3 l1] at hj'
      rw [B3 l2] at hi
      have e1 : (kvs.map (·.2))[j]'(by simpa using l1) = (kvs.map (·.2))[i]'(by simpa using l2) := by simp [Option.some.inj hj', Option.some.inj hi]
      exact hji ((Dq nd).mp e1)
     rw [El this]; exact h1
  ·rintro σ H1 ⟨hs, x, y, rfl, s1, hx1, hl1, hlen, hin⟩
   refine ⟨_, rfl, q l hs H1 s1 nl' hl1 (he.deal hlen fun b t m => ?_)⟩
   obtain ⟨j, hj, ej⟩ := Ck.mp m
   exact hin j b t hj (by rw [B3 hj, ej])
def Bq (H : Hp) (t : Addr) (ps : List (List Int)) : Prop := (∃ (l : Addr) (hs : List Int), H t = some (.tup [.str "dealt", .ref l]) /\ H l = some (.lst (hs.map V.int)) /\ Deal ps hs) \/
 ∃ (l : Addr) (qs : List Nat), H t = some (.tup [.str "short", .ref l]) /\ H l = some (.lst (qs.map fun (q : Nat) => V.int (q : Int))) /\ Short ps qs
def B0 (H H' : Hp) (t : Addr) : Prop := H t = none /\ ∀ s l, H' t = some (.tup [.str s, .ref l]) -> H l = none
def nA (K : PySem.W.Frag) : Sp := fun vs H Q _ => ∃ (a : Addr) (rs : List Addr) (ps : List (List Int)) (U : List Int), vs = [.ref a] /\ SqL K H a (rs.map V.ref) /\ PoolsL K H rs ps /\ ps.length <= 6 /\ (∀ p ∈ ps, ∀ b ∈ p, b ∈ U) /\ U.length <= 26 /\
 ∀ t H', Same H H' -> B0 H H' t -> Bq H' t ps -> Q (.ref t) H'
theorem jE : FnScope ["pools", "holders", "place", "asked"] ["pools"] (ar qy) := ⟨rfl, rfl, rfl, by decide +kernel, rfl, by decide +kernel, by decide +kernel⟩
theorem rH (D : Dfs K mg aF dF) (T : Txt mg) : FnOk P w K mg base a9 29 (aF 13) (dF 13) ["pools"] (nA K) := by
 have Gsettle : FnOk P w K mg base a9 28 (aF 14) (dF 14) ["pools", "holders", "place", "asked"] (md K) := tV D T
 have Gshort_places : FnOk P w K mg base a9 1 (aF 15) (dF 15) ["holders", "place", "asked"] (ff K) := jo D T
 have Ghands_of : FnOk P w K mg base a9 1 (aF 16) (dF 16) ["holders", "count"] (i8 K) := oO D T
 refine D.deal.fn.ok jE (fun vs H Q E h => ?_) (fun cdv A outer s H vs Q E hr h => ?_)
 ·obtain ⟨a, rs, ps, U, rfl, _⟩ := h; rfl
 ·have hu := aW hr
  obtain ⟨a, rs, ps, U, rfl, hS, hP, h6, hU, hU26, q⟩ := h
  refine ⟨_, (af (ax (i := 1) jE.nd rfl (Or.inl rfl) gN)
   (af (aX PassesOwn.never rfl (aQ rfl T.z_range (aa (ao (bM K) (by rfl) T.z_len boot_len (aa (pv 0) ae)) ae)) (aq (i := 2) jE.nd rfl (Or.inl rfl))
    (af (ax (i := 3) jE.nd rfl (Or.inl rfl) gN)
    (ah (aI (cw (b4 (pc D.settle Gsettle (hr.mono (by decide)) (aa (pv 0) (aa (pv 1) (aa (pv 2) (aa (pv 3) ae)))))))
     (ah (av (aJ (aa aL (aa (pc D.short_places Gshort_places (hr.mono (by decide)) (aa (pv 1) (aa (pv 2) (aa (pv 3) ae)))) ae)))))
     aB))))
   (ah (av (aJ (aa aL (aa (pc D.hands_of Ghands_of (hr.mono (by decide)) (aa (pv 1) (aa (ao (bM K) (by rfl) T.z_len boot_len (aa (pv 0) ae)) ae))) ae))))))), ?_⟩
  intro hd nh
  have hl : rs.length = ps.length := Paired.length hP
  refine ⟨_, rfl, _, _, rfl, .inl ⟨_, (Same.new nh).seq hS, rfl⟩, _, rfl, fU _, by rw [B4]; omega, ?_⟩
  rw [B4, hl]
  have e0 : ((ps.length : Int)).toNat = ps.length := by omega
  rw [e0]
  refine bO (n := ps.length) (fun i σ H1 => ∃ (kvs : HK) (x y : Option V), σ = [some (.ref a), some (.ref hd), x, y] /\ Same H H1 /\ H1 hd = some (.dK kvs) /\ Held ps kvs i) ⟨[], none, none, rfl, Same.new nh, ab, Held.start⟩ ?_ ?_
  ·rintro i σ H1 hi ⟨kvs, x, y, rfl, s1, hH1, he⟩
   intro ad na
   have hne : hd ≠ ad := ak hH1 na
   have na' : H ad = none := s1.free na
   refine ⟨_, rfl, _, rfl, _, rfl, _, rfl, ?_⟩
   have ei : (0 : Int) + (i : Int) = (i : Int) := by omega
   rw [ei]
   have s2 : Same H (ay H1 ad (.dK [])) := s1.to na
   have hH2 : ay H1 ad (.dK []) hd = some (.dK kvs) := by rw [aj hne]; exact hH1
   refine ⟨a, hd, ad, rs, ps, U, i, kvs, [], rfl, s2.seq hS, hP.same s2, hi, hU, by omega, hH2, ab, hne, he.nd, he.good, DR, (fun _ h => by cases h), ?_, ?_⟩
   ·have := CM (fun c => decide (c ∉ ([] : List Int))) U
    omega
   intro ok kvs' as' H3 st s3 hH3 hA3
   have fr : ∀ b o, H b = some o -> b ∉ [hd, ad] := fun b o e m => by
    simp only [Cm, CP, or_false] at m
    rcases m with z | z
    ·rw [z, nh] at e; cases e
    ·rw [z, na'] at e; cases e
   have s4 : Same H H3 := fun b o e => s3 b o (fr b o e) (s2 b o e)
   refine ⟨ok, rfl, ?_⟩
   cases ok with
   | true => exact bw ⟨kvs', _, _, rfl, s4, hH3, he.next st⟩
   | false =>
    obtain ⟨e, h1, h2⟩ := st.no rfl
    subst e
    refine bX ?_
    refine ⟨_, rfl, _, rfl, _, rfl, ?_⟩
    have al : as'.length <= U.length := st.nd.length_le_of_subset st.sub
    refine ⟨hd, ad, i, kvs', as', rfl, hH3, hA3, hne, by omega, fun b hb => ?_, fun l ms H4 s5 nl hl4 hp hs => ?_⟩
    ·obtain ⟨t, _, e, _⟩ := h2 b hb (by simp)
     exact ⟨t, e⟩
    obtain ⟨qs, eq, sh⟩ := he.short hi st hp hs
    have s6 : Same H H4 := fun b o e => s5 b o (fun m => fr b o e (Ct _ m)) (s4 b o e)
    refine ⟨b5, fun t nt => q t _ (s6.to nt) ⟨s6.free nt, fun s l' e => ?_⟩ (.inr ⟨l, qs, ab, ?_, sh⟩)⟩
    ·rw [ab] at e
     cases e
     exact s4.free nl
    ·rw [aj (ak hl4 nt), hl4, eq, Cu]; rfl
  ·rintro σ H1 ⟨kvs, x, y, rfl, s1, hH1, he⟩
   refine ⟨_, rfl, _, rfl, _, _, rfl, .inl ⟨_, s1.seq hS, rfl⟩, ?_⟩
   rw [B4, hl]
   refine ⟨hd, ps, kvs, rfl, hH1, by omega, he, fun l hs H2 s2 nl hl2 dl => ?_⟩
   have s6 : Same H H2 := fun b o e => s2 b o (fun m => by
    rw [Cg.mp m, nh] at e
    cases e) (s1 b o e)
   refine ⟨b5, fun t nt => q t _ (s6.to nt) ⟨s6.free nt, fun s l' e => ?_⟩ (.inl ⟨l, hs, ab, ?_, dl⟩)⟩
   ·rw [ab] at e
    cases e
    exact s1.free nl
   ·rw [aj (ak hl2 nt)]; exact hl2
def dQ (K : PySem.W.Frag) (m : Nat) : Sp := fun vs H Q _ => ∃ (pa ma ta : Addr) (p : List Int) (rs : List Addr) (may : List (List Int)) (U : List Int) (ts : List (Addr × Addr × Str × Int × List Nat)), vs = [.ref pa, .ref ma, .ref ta] /\ H pa = some (.lst (p.map V.int)) /\ May K H ma rs may U /\ Ties K H ta ts 100 /\ (∀ x ∈ ts, TieG may.length x) /\ bD p /\ p.length <= may.length /\ may.length < p.length + m /\
 ∀ t H', Same H H' -> xW H H' t may (ts.map cB) p -> Q (.ref t) H'
def ib (K : PySem.W.Frag) : Sp := dQ K 7
theorem bZ : FnScope ["pattern", "may", "ties", "broken", "dealt", "papers", "longer", "told"] ["pattern", "may", "ties"] (ar fC) := ⟨rfl, rfl, rfl, by decide +kernel, rfl, by decide +kernel, by decide +kernel⟩
theorem nB (D : Dfs K mg aF dF) (T : Txt mg) : FnOk P w K mg base a9 37 (aF 18) (dF 18) ["pattern", "may", "ties"] (ib K) := by
 have Ggrown : FnOk P w K mg base a9 2 (aF 2) (dF 2) ["pattern"] (ia K) := kH D T
 have Gfirst_broken : FnOk P w K mg base a9 3 (aF 4) (dF 4) ["pattern", "ties"] (cv K) := cW D T
 have Gpools_of : FnOk P w K mg base a9 3 (aF 6) (dF 6) ["pattern", "may"] (i7 K) := oM D T
 have Gdeal : FnOk P w K mg base a9 29 (aF 13) (dF 13) ["pools"] (nA K) := rH D T
 have all : ∀ n, FnOk P w K mg base a9 (30 + n) (aF 18) (dF 18) ["pattern", "may", "ties"] (dQ K n) := by
  intro n
  induction n with
  | zero =>
   have no : ∀ vs H Q E, ¬ dQ K 0 vs H Q E := fun vs H Q E h => by
    obtain ⟨pa, ma, ta, p, rs, may, U, ts, _, _, _, _, _, _, h1, h2, _⟩ := h
    omega
   exact ⟨fun vs H Q E h => absurd h (no vs H Q E), fun A outer s H args us vs Q E _ _ _ _ h => absurd h (no vs H Q E)⟩
  | succ n Gplan_from =>
   refine D.plan_from.fn.ok bZ (fun vs H Q E h => ?_) (fun cdv A outer s H vs Q E hr h => ?_)
   ·obtain ⟨pa, ma, ta, p, rs, may, U, ts, rfl, _⟩ := h; rfl
   obtain ⟨pa, ma, ta, p, rs, may, U, ts, rfl, hpa, hm, tt, tg, c, hl, hlm, q⟩ := h
   have rk : Nat.add 30 n = 30 + n := rfl
   refine ⟨_, (af (ax (i := 3) bZ.nd rfl (Or.inl rfl) (pc D.first_broken Gfirst_broken (hr.mono (by have := rk; omega)) (aa (pv 0) (aa (pv 2) ae))))
   (af (aI (az ju (pv 3) dN (aC _))
    (ah (av (aJ (aa aL (aa (aJ (aa aL (aa (pv 3) ae))) ae)))))
    aB)
   (af (ax (i := 4) bZ.nd rfl (Or.inr rfl) (pc D.deal Gdeal (hr.mono (by have := rk; omega)) (aa (pc D.pools_of Gpools_of (hr.mono (by have := rk; omega)) (aa (pv 0) (aa (pv 1) ae))) ae)))
   (af (aI (az bT (au (cP K) (pv 4) ag (fun _ _ => rfl)) aL (aC _))
    (ah (av (aJ (aa aL (aa (aJ (aa aL (aa (au (cP K) (pv 4) ag (fun _ _ => rfl)) ae))) ae)))))
    aB)
   (af (aI (az bT (ao (bM K) (by rfl) T.z_len boot_len (aa (pv 0) ae)) (ao (bM K) (by rfl) T.z_len boot_len (aa (pv 1) ae)) (aC _))
    (ah (av (aJ (aa aL (aa (a8 ["block", "dealt"] [none, some 4] rfl (jy K (pv 0)) (fun _ => aq (i := 0) (aU (N := ["block", "dealt"]) (by decide +kernel)) rfl (Or.inl rfl)) (fun _ => bx) (fun _ => (au (cS K) (au (cP K) (pv 1) ag (fun _ _ => rfl)) (pv 0) (fun _ _ => rfl))) ((.cons (fun _ e => by cases e) (.cons (fun _ e => by cases e; exact ⟨rfl, rfl⟩) .nil)))) ae)))))
    aB)
   (af (ax (i := 5) bZ.nd rfl (Or.inl rfl) (aY ae))
   (af (aX PassesOwn.never rfl (jy K (pc D.grown Ggrown (hr.mono (by have := rk; omega)) (aa (pv 0) ae))) (aq (i := 6) bZ.nd rfl (Or.inl rfl))
    (af (ax (i := 7) bZ.nd rfl (Or.inl rfl) (pc D.plan_from Gplan_from hr (aa (pv 6) (aa (pv 1) (aa (pv 2) ae)))))
    (af (aI (az bT (au (cP K) (pv 7) ag (fun _ _ => rfl)) aL (aC _))
     (ah (av (pv 7)))
     aB)
    (ah (bH (dS PySem.F.plainAttrs_list PySem.F.slot_list_append PySem.F.type_list_append bF (pv 5) (aa (au (cP K) (pv 7) ag (fun _ _ => rfl)) ae)))))))
   (ah (av (aJ (aa aL (aa (aJ (aa aL (aa (pv 5) ae))) ae)))))))))))), ?_⟩
   have m6 := hm.m6
   have dl := cN p
   refine ⟨_, rfl, _, rfl, pa, ta, p, ts, rfl, SqL.of hpa, tt, fun H1 s1 => ?_⟩
   refine ⟨_, rfl, rfl, _, rfl, ?_⟩
   rw [j7]
   cases hf : jk (fun i => p.getD i 0) p.length ts with
   | some j =>
    refine bX ⟨_, rfl, b5, fun t1 n1 => ⟨b5, fun t2 n2 => ?_⟩⟩
    obtain ⟨x, hx, hb⟩ := lU hf
    have n12 : t1 ≠ t2 := fun z => by rw [<- z, ab] at n2; cases n2
    refine q t2 _ ((s1.to n1).to n2) (.inr ⟨.ref t1, .tie j, ab, .tie (gZ (s1.free n1) (by rw [aj n12]; exact ab)), .tie (t := cB x) (by rw [B7, hx]; rfl) hb⟩)
   | none =>
    have nb := iG hf
    refine bw ?_
    have hm1 := hm.same s1
    refine ⟨_, rfl, _, rfl, pa, ma, p, rs, may, U, rfl, SqL.of (s1 _ _ hpa), hm1, c, hl, fun po ls H2 s2 npo hpo R2 fr2 => ⟨po, ls, dh may p, U, rfl, SqL.of hpo, R2.pools, by rw [bY]; omega, sT c hl hm.sub, hm.u20, fun t H3 s3 nwt td => ?_⟩⟩
    have s03 := (s1.trans s2).trans s3
    have hpa3 := s03 _ _ hpa
    have hm3 := hm.same s03
    rcases td with ⟨dlA, ds, ht, hdl, dl'⟩ | ⟨sl, qs, ht, hsl, sh⟩
    ·refine ⟨_, rfl, t, _, _, _, rfl, rfl, SqT.of ht, rfl, rfl, _, rfl, ?_⟩
     rw [decide_eq_false (by decide)]
     refine bw ?_
     refine ⟨_, rfl, _, _, rfl, .inl ⟨_, SqL.of hpa3, rfl⟩, _, rfl, _, _, rfl, .inl ⟨_, hm3.ls, rfl⟩, rfl, _, rfl, sg (fun e => ?_) fun ne => ?_⟩
     ·rw [B4, B4, hm.po.len] at e
      have e : p.length = may.length := by omega
      refine ⟨_, rfl, pa, rfl, ⟨_, SqL.of hpa3⟩, ?_⟩
      have dsl : ds.length = (dd p).length := by rw [dl'.len, bY]
      refine cO (xs := p.map V.int) (fun _ => true) (fun j => .int (ds.getD (p.getD j 0).toNat 0)) (SqL.of hpa3) (by rw [B4]; omega) (fun _ _ _ _ _ _ k => k _ (Same.refl _)) (fun j x hx _ H4 R s4 k => ?_) fun acc H4 s4 nacc hacc => ?_
      ·obtain ⟨d, hd, rfl, ed⟩ := fB hx
       obtain ⟨b, eb, hb⟩ := c4 c (B8 hd)
       rw [ed] at k
       subst eb
       rw [CG] at k
       exact ⟨_, rfl, t, _, _, _, rfl, rfl, SqT.of (s4 _ _ ht), rfl, _, rfl, dlA, _, _, _, rfl, rfl, SqL.of (s4 _ _ hdl), aZ (by omega), k _ (Same.refl _)⟩
      rw [CQ.mpr (fun _ _ => rfl), B4] at hacc
      have e2 : (B9 p.length).map (fun j => V.int (ds.getD (p.getD j 0).toNat 0)) = (p.map fun x => ds.getD x.toNat 0).map V.int := by
       rw [Cu]
       exact u7 fun i x hx => by rw [B5 (l := p), hx]; rfl
      rw [e2] at hacc
      refine ⟨b5, fun t2 n2 => ?_⟩
      refine q t2 _ ((s03.trans s4).to n2) (.inl ⟨acc, _, ab, Same.new n2 _ _ hacc, s03.free nacc, mO c e dl' (fun x hx => ?_) fun x hx => ?_⟩)
      ·obtain ⟨y, hy, ey⟩ := Cb.mp hx
       rw [<- ey, e]
       exact (tg y hy).lt
      ·obtain ⟨y, hy, ey⟩ := Cb.mp hx
       rw [<- ey]
       exact nb y hy
     ·rw [B4, B4, hm.po.len] at ne
      have lt : p.length < may.length := by omega
      refine ⟨b5, fun pl npl => ?_⟩
      have s34 := Same.new (o := .lst []) npl
      have hpl4 : ay H3 pl (.lst []) pl = some (.lst []) := ab
      generalize ay H3 pl (.lst []) = H4 at s34 hpl4
      have s04 := s03.trans s34
      have npl0 : H pl = none := s03.free npl
      refine ⟨_, rfl, pa, p, rfl, s04 _ _ hpa, by omega, fun gl gs H5 s45 ngl hgl hgs gall => ⟨gl, rfl, ⟨_, SqL.of hgl⟩, ?_⟩⟩
      have glp : gl ≠ pl := fun z => by rw [z, hpl4] at ngl; cases ngl
      have gsp : ∀ (i : Nat) r, gs[i]? = some r -> r ≠ pl := fun i r hr z => by have := (gall i r hr).2; rw [z, hpl4] at this; cases this
      refine bQ (K := K) (a := gl) (xs := gs.map V.ref) (fun i σ Hx => ∃ (vs : List V) (ps : List Pap) (x y : Option V), σ = [some (.ref pa), some (.ref ma), some (.ref ta), some .non, some (.ref t), some (.ref pl), x, y] /\ SameBut pl H5 Hx /\ Hx pl = some (.lst vs) /\ vs.length = i /\ ps.length = i /\ ∀ (k : Nat) v q, vs[k]? = some v -> ps[k]? = some q -> PapAt (u9 pl (nw H Hx)) v q /\ Shows may (ts.map cB) (p ++ [(k : Int)]) q)
       ⟨[], [], none, none, rfl, fun _ _ _ h => h, s45 _ _ hpl4, rfl, rfl, fun k v q h => by simp at h⟩ (fun i σ Hx _ hq__ => by obtain ⟨_, _, _, _, _, sb, _⟩ := hq__; exact SqL.of (sb _ _ glp hgl)) ?_ ?_
      ·rintro i y σ Hx hi ⟨vs, ps, x, y', rfl, sb, hpl, vl, psl, al⟩
       rw [B7] at hi
       obtain ⟨r, hr', rfl⟩ := Cc.mp hi
       have il : i < (dd p).length + 1 := by rw [<- hgs]; exact (B6.mp hr').1
       have hrx := sb _ _ (gsp i r hr') (gall i r hr').1
       have s0x : Same H Hx := fun b o e => sb _ _ (fun z => by rw [z, npl0] at e; cases e) ((s04.trans s45) _ _ e)
       have cx := eO c (j := i) (by omega)
       refine ⟨_, rfl, _, rfl, _, rfl, r, ma, ta, p ++ [(i : Int)], rs, may, U, ts, rfl, hrx, hm.same s0x, ⟨s0x.seq tt.ls, fun x hx => (tt.ea x hx).same s0x, tt.ln⟩, tg, cx, by simp; omega, by simp; omega, fun t2 H6 s6 td2 => ?_⟩
       have s06 := s0x.trans s6
       rcases td2 with ⟨l2, hs2, ht2, hl2, nl2, ip⟩ | ⟨v, qq, ht2, pq, sq⟩
       ·refine ⟨_, rfl, t2, _, _, _, rfl, rfl, SqT.of ht2, rfl, rfl, _, rfl, bX ?_⟩
        exact ⟨_, rfl, q t2 H6 s06 (.inl ⟨l2, hs2, ht2, hl2, s0x.free nl2, ip⟩)⟩
       ·refine ⟨_, rfl, t2, _, _, _, rfl, rfl, SqT.of ht2, rfl, rfl, _, rfl, ?_⟩
        rw [decide_eq_false (by decide)]
        refine bw ?_
        have hpl6 := s6 _ _ hpl
        refine ⟨_, rfl, .inl ⟨rfl, _, SqL.of hpl6⟩, _, rfl, t2, _, _, _, rfl, rfl, SqT.of ht2, rfl, pl, _, _, rfl, rfl, hpl6, iV (by omega), ?_⟩
        refine ⟨vs ++ [v], ps ++ [qq], _, _, rfl, fun b o nb' e => ?_, ab, by simp [vl], by simp [psl], fun k v' q' e1 e2 => ?_⟩
        ·rw [aj nb']
         exact s6 _ _ (sb _ _ nb' e)
        ·by_cases z : k < i
         ·rw [CC (by omega)] at e1 e2
          obtain ⟨g1, g2⟩ := al k v' q' e1 e2
          refine ⟨g1.same fun b o e => ?_, g2⟩
          obtain ⟨zb, e⟩ := lV e
          obtain ⟨u1, u2⟩ := eP e
          exact rb zb (gZ u1 (by rw [aj zb]; exact s6 _ _ u2))
         ·have zi : k = i := by
           have := (B6.mp e1).1
           rw [Cd, Cn] at this
           omega
          subst zi
          rw [CI (by omega), vl, Dv] at e1
          rw [CI (by omega), psl, Dv] at e2
          cases e1
          cases e2
          refine ⟨pq.same fun b o e => ?_, sq⟩
          obtain ⟨u1, u2⟩ := eP e
          have zb : b ≠ pl := fun z => by rw [z, hpl] at u1; cases u1
          exact rb zb (gZ (s0x.free u1) (by rw [aj zb]; exact u2))
      ·rintro σ Hx ⟨vs, ps, x, y', rfl, sb, hpl, vl, psl, al⟩
       rw [B4, hgs] at vl psl
       have s0x : Same H Hx := fun b o e => sb _ _ (fun z => by rw [z, npl0] at e; cases e) ((s04.trans s45) _ _ e)
       refine ⟨_, rfl, b5, fun t1 n1 => ⟨b5, fun t2 n2 => ?_⟩⟩
       have n12 : t1 ≠ t2 := fun z => by rw [<- z, ab] at n2; cases n2
       have npl1 : pl ≠ t1 := ak hpl n1
       have sx2 := (Same.new (o := .tup [.str "split", .ref pl]) n1).to (o := .tup [.str "none", .ref t1]) n2
       refine q t2 _ (s0x.trans sx2) (.inr ⟨.ref t1, .split ps, ab, .split (gZ (s0x.free n1) (by rw [aj n12]; exact ab)) (gZ npl0 (sx2 _ _ hpl)) (by omega) fun k v' q' e1 e2 => ?_, .split lt psl fun j q' e => ?_⟩)
       ·refine (al k v' q' e1 e2).1.same fun b o e => ?_
        obtain ⟨zb, e⟩ := lV e
        obtain ⟨u1, u2⟩ := eP e
        exact gZ u1 (sx2 _ _ u2)
       ·have hj : j < vs.length := by have := (B6.mp e).1; omega
        exact (al j _ q' (B3 hj) e).2
    ·refine ⟨_, rfl, t, _, _, _, rfl, rfl, SqT.of ht, rfl, rfl, _, rfl, bX ?_⟩
     refine ⟨_, rfl, t, _, _, _, rfl, rfl, SqT.of ht, rfl, b5, fun t1 n1 => ⟨b5, fun t2 n2 => ?_⟩⟩
     have n12 : t1 ≠ t2 := fun z => by rw [<- z, ab] at n2; cases n2
     have nsl : H sl = none := (s1.trans s2).free (nwt.2 _ _ ht)
     have sx2 := (Same.new (o := .tup [.str "short", .ref sl]) n1).to (o := .tup [.str "none", .ref t1]) n2
     exact q t2 _ (s03.trans sx2) (.inr ⟨.ref t1, .short qs, ab, .short (gZ (s03.free n1) (by rw [aj n12]; exact ab)) (gZ nsl (sx2 _ _ hsl)), .short sh⟩)
 exact all 7
def rJ (K : PySem.W.Frag) : Sp := fun vs H Q _ => ∃ (ma ta : Addr) (rs : List Addr) (may : List (List Int)) (U : List Int) (ts : List (Addr × Addr × Str × Int × List Nat)), vs = [.ref ma, .ref ta] /\ May K H ma rs may U /\ Ties K H ta ts 100 /\ (∀ x ∈ ts, TieG may.length x) /\ ∀ t H', Same H H' -> xW H H' t may (ts.map cB) [] -> Q (.ref t) H'
theorem xB : FnScope ["may", "ties"] ["may", "ties"] (ar qz) := ⟨rfl, rfl, rfl, by decide +kernel, rfl, by decide +kernel, by decide +kernel⟩
theorem xC (D : Dfs K mg aF dF) (T : Txt mg) : FnOk P w K mg base a9 38 (aF 17) (dF 17) ["may", "ties"] (rJ K) := by
 have Gplan_from : FnOk P w K mg base a9 37 (aF 18) (dF 18) ["pattern", "may", "ties"] (ib K) := nB D T
 refine D.plan.fn.ok xB (fun vs H Q E h => ?_) (fun cdv A outer s H vs Q E hr h => ?_)
 ·obtain ⟨ma, ta, rs, may, U, ts, rfl, _⟩ := h; rfl
 ·have hu := aW hr
  obtain ⟨ma, ta, rs, may, U, ts, rfl, hm, tt, tg, q⟩ := h
  refine ⟨_, (ah (av (pc D.plan_from Gplan_from (hr.mono (by decide)) (aa (aY ae) (aa (pv 0) (aa (pv 1) ae)))))), ?_⟩
  have m6 := hm.m6
  refine ⟨b5, fun pa npa => ?_⟩
  have s1 := Same.new (o := .lst []) npa
  refine ⟨_, rfl, _, rfl, pa, ma, ta, [], rs, may, U, ts, rfl, ab, hm.same s1, ⟨s1.seq tt.ls, fun x hx => (tt.ea x hx).same s1, tt.ln⟩, tg, fR, Cz _, by simp; omega, fun t H' s td => ?_⟩
  refine q t H' (s1.trans s) ?_
  rcases td with ⟨l, hs, a1, a2, a3, a4⟩ | ⟨v, qq, a1, a2, a3⟩
  ·exact .inl ⟨l, hs, a1, a2, s1.free a3, a4⟩
  ·exact .inr ⟨v, qq, a1, a2.same (xV (fun a e => s1.free e) fun a o _ e => e), a3⟩
def eD (K : PySem.W.Frag) : Sp := fun vs H Q _ => ∃ (a pa da ra ka : Addr) (rs : List Addr) (rows : bL) (ps : List Int) (ds as : List (Int × Int)) (R : List Nat), vs = [.ref a, .ref pa, .ref da, .ref ra, .ref ka] /\ SqL K H a (rs.map V.ref) /\ BillL H rs rows /\ H pa = some (.lst (ps.map V.int)) /\ H da = some (.dK (aE ds)) /\ H ra = some (.lst (R.map fun (q : Nat) => V.int (q : Int))) /\ H ka = some (.dK (aE as)) /\ ps.length = rows.length /\ (∀ q ∈ R, q < rows.length) /\
 ∀ f v H', Near (vq rows ps ds (as.map (·.1)) R) f -> Same H H' -> rq H H' f v -> Q v H'
theorem bc : FnScope ["pools", "prices", "dues", "reached", "askers", "found", "place", "badge", "cost", "gap"] ["pools", "prices", "dues", "reached", "askers"] (ar cV) := ⟨rfl, rfl, rfl, by decide +kernel, rfl, by decide +kernel, by decide +kernel⟩
theorem iS (D : Dfs K mg aF dF) (T : Txt mg) : FnOk P w K mg base a9 1 (aF 21) (dF 21) ["pools", "prices", "dues", "reached", "askers"] (eD K) := by
 refine D.nearest_badge.fn.ok bc (fun vs H Q E h => ?_) (fun cdv A outer s H vs Q E hr h => ?_)
 ·obtain ⟨a, pa, da, ra, ka, rs, rows, ps, ds, as, R, rfl, _⟩ := h; rfl
 ·have hu := aW hr
  obtain ⟨a, pa, da, ra, ka, rs, rows, ps, ds, as, R, rfl, hS, hB, hp, hd, hr, hk, lp, lt, q⟩ := h
  refine ⟨_, (af (ax (i := 5) bc.nd rfl (Or.inl rfl) dN)
   (af (aX PassesOwn.never rfl (jy K (pv 3)) (aq (i := 6) bc.nd rfl (Or.inl rfl))
    (ah (aX PassesOwn.never rfl (jy K (au (cS K) (pv 0) (pv 6) (fun _ _ => rfl))) (wL K rfl (a7 (aq (i := 7) bc.nd rfl (Or.inl rfl)) (a7 (aq (i := 8) bc.nd rfl (Or.inl rfl)) cX)))
     (af (ax (i := 9) bc.nd rfl (Or.inl rfl) (aA jI (aA aR (pv 8) (um hu (pv 2) (pv 7) ag ⟨rfl, rfl, rfl, rfl⟩)) (au (cS K) (pv 1) (pv 6) (fun _ _ => rfl))))
     (ah (aI (PW.pt (ye (mi (iw hu (pv 7) (pv 4))) (vZ (PW.pt (dD (az uc (pv 5) dN (aC _)) (de (az gL (pv 9) (au (cP K) (pv 5) ag (fun _ _ => rfl)) (aC _))))))))
      (ah (ax (i := 5) bc.nd rfl (Or.inl rfl) (aJ (aa (pv 9) (aa (pv 7) (aa (pv 6) ae))))))
      aB))))))
   (ah (av (pv 5))))), ?_⟩
  refine ⟨_, rfl, ra, rfl, ⟨_, SqL.of hr⟩, ?_⟩
  refine bQ (K := K) (a := ra) (xs := R.map fun (q : Nat) => V.int (q : Int)) (fun i σ H1 => ∃ f v x1 x2 x3 x4, σ = [some (.ref a), some (.ref pa), some (.ref da), some (.ref ra), some (.ref ka), some v, x1, x2, x3, x4] /\ Same H H1 /\ Near (vq rows ps ds (as.map (·.1)) (R.take i)) f /\ rq H H1 f v)
   ⟨none, .non, none, none, none, none, rfl, Same.refl _, Near.start, rfl⟩ (fun i σ H1 _ hq__ => by obtain ⟨_, _, _, _, _, _, _, s, _⟩ := hq__; exact s.seq (SqL.of hr)) ?_ ?_
  ·rintro i v σ H1 hi ⟨f, v, x1, x2, x3, x4, rfl, s1, n1, fd1⟩
   rw [B7] at hi
   obtain ⟨k, hk1, rfl⟩ := Cc.mp hi
   have kl := lt k (B8 hk1)
   have hrow : rows[k]? = some (rA rows k) := by unfold rA; rw [B5, B3 kl]; rfl
   obtain ⟨r, hr1, pt, hpt, tps⟩ := (hB.same s1).at hrow
   refine ⟨_, rfl, _, rfl, a, _, _, _, rfl, rfl, s1.seq hS, aK (by rw [B7, hr1]; rfl), r, rfl, ⟨_, SqL.of hpt⟩, ?_⟩
   rw [vt hk1]
   refine bQ (K := K) (a := r) (xs := pt.map V.ref) (fun j σ H2 => ∃ f v x2 x3 x4, σ = [some (.ref a), some (.ref pa), some (.ref da), some (.ref ra), some (.ref ka), some v, some (.int (k : Int)), x2, x3, x4] /\ Same H1 H2 /\ Near (vq rows ps ds (as.map (·.1)) (R.take i) ++ oE ps ds (as.map (·.1)) k ((rA rows k).take j)) f /\ rq H H2 f v)
    ⟨f, v, x2, x3, x4, rfl, Same.refl _, by rw [Dx]; show Near (_ ++ []) f; rw [Dh]; exact n1, fd1⟩ (fun i σ H2 _ hq__ => by obtain ⟨_, _, _, _, _, _, s, _⟩ := hq__; exact s.seq (SqL.of hpt)) ?_ ?_
   ·rintro j v σ H2 hj ⟨f, v, x2, x3, x4, rfl, s2, n2, fd2⟩
    rw [B7] at hj
    obtain ⟨t, ht, rfl⟩ := Cc.mp hj
    obtain ⟨x, hx, px⟩ := cu tps ht
    have s02 := s1.trans s2
    have px2 : H2 t = some (.tup [.int x.1, .int x.2]) := s2 _ _ px
    have hgd := DGet.k (k := Sum.inl x.1) (s02 _ _ hd)
    rw [cQ] at hgd
    have hgk := DGet.k (k := Sum.inl x.1) (s02 _ _ hk)
    have ev : ((aN ds x.1).map V.int).getD (V.int 0) = V.int (du ds x.1) := by unfold du; cases aN ds x.1 <;> rfl
    refine ⟨t, _, rfl, SqT.of px2, rfl, _, _, rfl, _, _, rfl, rfl, ?_⟩
    refine ⟨_, rfl, _, rfl, da, rfl, .inl ⟨_, .inl (s02 _ _ hd)⟩, _, rfl, _, hgd, ?_⟩
    rw [ev]
    refine ⟨_, _, rfl, rfl, _, rfl, _, rfl, pa, _, _, _, rfl, rfl, SqL.of (s02 _ _ hp), aZ (by omega), _, _, rfl, rfl, ?_⟩
    refine ⟨_, rfl, _, rfl, ka, _, rfl, hgk, _, rfl, ?_⟩
    rw [xk]
    by_cases hm : x.1 ∈ as.map (·.1)
    ·rw [decide_eq_true hm]
     refine bw (bw ⟨f, v, _, _, _, rfl, s2, ?_, fd2⟩)
     rw [iK hx, if_pos hm, Dh]
     exact n2
    rw [decide_eq_false hm]
    refine bX ?_
    have put : (∀ t, f = some t -> x.2 + du ds x.1 - pA ps k < t.1) -> ∀ p, H2 p = none -> ∃ f v x2 x3 x4, [some (.ref a), some (.ref pa), some (.ref da), some (.ref ra), some (.ref ka), some (.ref p), some (.int (k : Int)), some (.int x.1), some (.int x.2), some (.int (x.2 + du ds x.1 - pA ps k))] = [some (V.ref a), some (.ref pa), some (.ref da), some (.ref ra), some (.ref ka), some v, some (.int (k : Int)), x2, x3, x4] /\ Same H1 (ay H2 p (.tup [.int (x.2 + du ds x.1 - pA ps k), .int x.1, .int (k : Int)])) /\
      Near (vq rows ps ds (as.map (·.1)) (R.take i) ++ oE ps ds (as.map (·.1)) k ((rA rows k).take (j + 1))) f /\ rq H (ay H2 p (.tup [.int (x.2 + du ds x.1 - pA ps k), .int x.1, .int (k : Int)])) f v := fun hlt p np =>
     ⟨some (x.2 + du ds x.1 - pA ps k, x.1, k), .ref p, _, _, _, rfl, s2.to np, by
      rw [iK hx, if_neg hm, <- DQ]
      exact n2.put hlt, p, rfl, s02.free np, ab⟩
    refine ⟨_, rfl, rfl, _, rfl, ?_⟩
    cases f with
    | none =>
     have ev2 : v = .non := fd2
     subst ev2
     refine bX (bX ?_)
     refine ⟨_, rfl, _, rfl, _, rfl, b5, fun p np => put (fun _ h => by cases h) p np⟩
    | some t0 =>
     obtain ⟨p0, ep, np0, hp0⟩ := fd2
     subst ep
     refine bw ?_
     refine ⟨_, rfl, _, rfl, p0, _, _, _, rfl, rfl, SqT.of hp0, aK (j := 0) rfl, _, _, rfl, rfl, _, rfl, vV (fun hlt => ?_) fun hlt => ?_⟩
     ·refine ⟨_, rfl, _, rfl, _, rfl, b5, fun p np => put (fun t h => ?_) p np⟩
      cases h
      exact hlt
     ·refine ⟨some t0, _, _, _, _, rfl, s2, ?_, p0, rfl, np0, hp0⟩
      rw [iK hx, if_neg hm, <- DQ]
      exact n2.keep hlt
   ·rintro σ H2 ⟨f, v, x2, x3, x4, rfl, s2, n2, fd2⟩
    have el : (pt.map V.ref).length = (rA rows k).length := by rw [B4]; exact Paired.length tps
    rw [el, CW] at n2
    exact ⟨f, v, _, _, _, _, rfl, s1.trans s2, n2, fd2⟩
  ·rintro σ H1 ⟨f, v, x1, x2, x3, x4, rfl, s1, n1, fd1⟩
   rw [B4, CW] at n1
   exact ⟨_, rfl, q f v H1 n1 s1 fd1⟩
def ic (K : PySem.W.Frag) : Sp := fun vs H Q _ => ∃ (x y : Addr) (g : Int), vs = [.ref x, .ref y, .int g] /\ ((∃ (ps : List Int) (R : List Nat), H x = some (.lst (ps.map V.int)) /\ H y = some (.lst (R.map fun (q : Nat) => V.int (q : Int))) /\ x ≠ y /\ R.Nodup /\ (∀ q ∈ R, q < ps.length) /\ ∀ ps', RaP R g ps ps' -> Q .non (ay H x (.lst (ps'.map V.int)))) \/
 ∃ (ds as : List (Int × Int)), H x = some (.dK (aE ds)) /\ H y = some (.dK (aE as)) /\ x ≠ y /\ (as.map (·.1)).Nodup /\ (∀ b ∈ as.map (·.1), b ∈ ds.map (·.1)) /\ 0 <= g /\ ds.length <= 1000 /\ ∀ ds', RaD (as.map (·.1)) g ds ds' -> Q .non (ay H x (.dK (aE ds'))))
theorem eW : FnScope ["numbers", "keys", "gap", "key"] ["numbers", "keys", "gap"] (ar fD) := ⟨rfl, rfl, rfl, by decide +kernel, rfl, by decide +kernel, by decide +kernel⟩
theorem nC (D : Dfs K mg aF dF) (T : Txt mg) : FnOk P w K mg base a9 1 (aF 22) (dF 22) ["numbers", "keys", "gap"] (ic K) := by
 refine D.raise_all.fn.ok eW (fun vs H Q E h => ?_) (fun cdv A outer s H vs Q E hr h => ?_)
 ·obtain ⟨x, y, g, rfl, _⟩ := h; rfl
 ·have hu := aW hr
  obtain ⟨x, y, g, rfl, h⟩ := h
  refine ⟨_, (ah (Af (aX PassesOwn.never rfl (jy K (pv 1)) (aq (i := 3) eW.nd rfl (Or.inl rfl)) (ah (v7 (pv 0) (pv 3) (vk K) (pv 2) yj gM)))
   (xj (aX PassesOwn.never rfl (vm (pv 1)) (aq (i := 3) eW.nd rfl (Or.inl rfl)) (ah (wA hu (pv 0) (pv 3) (pv 2) yr (fun _ _ _ => rfl))))))), ?_⟩
  rcases h with ⟨ps, R, hx, hy, hne, nd, lt, q⟩ | ⟨ds, as, hx, hy, hne, nd, sub, g0, hz, q⟩
  ·refine .inl ⟨_, rfl, y, rfl, ⟨_, SqL.of hy⟩, ?_⟩
   refine bQ (K := K) (a := y) (xs := R.map fun (q : Nat) => V.int (q : Int)) (fun i σ H1 => ∃ v ps', σ = [some (.ref x), some (.ref y), some (.int g), v] /\ RaP (R.take i) g ps ps' /\ H1 = ay H x (.lst (ps'.map V.int)))
    ⟨none, ps, rfl, by rw [Dx]; exact RaP.start, (mT hx).symm⟩ (fun i σ H1 _ hq__ => by obtain ⟨_, _, _, _, e⟩ := hq__; exact by rw [e]; exact SqL.of (by rw [aj hne.symm]; exact hy)) ?_ ?_
   ·rintro i v σ H1 hi ⟨v0, ps', rfl, r, rfl⟩
    rw [B7] at hi
    obtain ⟨k, hk, rfl⟩ := Cc.mp hi
    have kl : k < ps'.length := by rw [r.lp]; exact lt k (B8 hk)
    refine ⟨_, rfl, _, rfl, x, ps'.map V.int, _, .int (pA ps' k), rfl, rfl, by omega, SqL.of ab, ?_, _, rfl, _, _, rfl, rfl, x, _, _, k, rfl, rfl, ab, kd (by rw [B4]; exact kl), ?_⟩
    ·exact aZ kl
    ·refine ⟨_, ps'.set k (pA ps' k + g), rfl, ?_, by rw [jq, List.map_set]⟩
     rw [c8 hk]
     exact r.step (ke nd hk) (by rw [<- r.lp]; exact kl)
   ·rintro σ H1 ⟨v0, ps', rfl, r, rfl⟩
    rw [B4, CW] at r
    exact q ps' r
  ·refine .inr ⟨_, rfl, y, _, rfl, hy, fun φ hφ => ?_⟩
   refine vn (φ := φ) (d := y) (kvs := aE as) (fun i σ H1 => ∃ v ds', σ = [some (.ref x), some (.ref y), some (.int g), v] /\ RaD ((as.map (·.1)).take i) g ds ds' /\ ds'.length = ds.length /\ H1 = ay (ay H y (.ext φ)) x (.dK (aE ds')))
    ⟨none, ds, rfl, by rw [Dx]; exact RaD.start, rfl, (mT (by rw [aj hne]; exact hx)).symm⟩ (fun i σ H1 _ hq__ => by obtain ⟨_, _, _, _, _, e⟩ := hq__; exact by rw [e, aj hne.symm]; exact ab) ?_ ?_
   ·rintro i k v σ H1 hi ⟨v0, ds', rfl, r, ld, rfl⟩
    unfold aE at hi
    rw [B7] at hi
    obtain ⟨p, hp, e⟩ := Cc.mp hi
    cases e
    have hk : (as.map (·.1))[i]? = some p.1 := by rw [B7, hp]; rfl
    have hb : p.1 ∈ ds.map (·.1) := sub _ (B8 hk)
    have hb' : p.1 ∈ ds'.map (·.1) := by rw [r.ky]; exact hb
    refine ⟨_, rfl, _, rfl, x, .int (du ds' p.1), rfl, ?_, _, rfl, _, _, rfl, rfl, _, DPut.k (k := Sum.inl p.1) ab (iV (by unfold aE; rw [B4]; omega)), ?_⟩
    ·have := DGet.k (k := Sum.inl p.1) (show ay (ay H y (.ext φ)) x (.dK (aE ds')) x = some (.dK (aE ds')) from ab)
     rw [cQ, oD hb'] at this
     exact this
    ·refine ⟨_, g8 ds' p.1 (du ds' p.1 + g), rfl, ?_, ?_, by rw [jq, g9]⟩
     ·rw [c8 hk]
      exact r.step g0 (ke nd hk) hb
     ·have := congrArg List.length (lW (d := du ds' p.1 + g) hb')
      rw [B4, B4] at this
      omega
   ·rintro σ H1 ⟨v0, ds', rfl, r, ld, rfl⟩
    rw [show (aE as).length = (as.map (·.1)).length by unfold aE; rw [B4, B4], CW] at r
    refine ⟨y, _, φ, hφ, by rw [aj hne.symm]; exact ab, ?_⟩
    rw [vp hne, jq, mT (show ay H x (.dK (aE ds')) y = some (.dK (aE as)) by rw [aj hne.symm]; exact hy)]
    exact q ds' r
def kK (K : PySem.W.Frag) : Sp := fun vs H Q _ => ∃ (ha ka : Addr) (rows : bL) (hs0 : List (Option Int)) (ps : List Int) (ds : List (Int × Int)) (i t : Nat) (R : List Nat) (A : List (Int × Nat)) (b0 : Int), vs = [.ref ha, .ref ka, .int b0] /\ H ha = some (.lst (hs0.map oV)) /\ H ka = some (.dK (aE (iL A))) /\ ha ≠ ka /\ (A.map (·.1)).Nodup /\ PTop rows hs0 ps ds i R A /\ POn rows hs0 hs0 ps ds i R A b0 b0 t /\
 ∀ hs, Handed rows hs0 ps ds i b0 hs -> Q .non (ay H ha (.lst (hs.map oV)))
theorem eX : FnScope ["hands", "askers", "badge", "place", "given"] ["hands", "askers", "badge"] (ar iO) := ⟨rfl, rfl, rfl, by decide +kernel, rfl, by decide +kernel, by decide +kernel⟩
theorem qC (D : Dfs K mg aF dF) (T : Txt mg) : FnOk P w K mg base a9 1 (aF 23) (dF 23) ["hands", "askers", "badge"] (kK K) := by
 refine D.hand_on.fn.ok eX (fun vs H Q E h => ?_) (fun cdv A outer s H vs Q E hr h => ?_)
 ·obtain ⟨ha, ka, rows, hs0, ps, ds, i, t, R, A, b0, rfl, _⟩ := h; rfl
 ·have hu := aW hr
  obtain ⟨ha, ka, rows, hs0, ps, ds, i, t, R, A, b0, rfl, hh, hk, hne, nd, T, O, q⟩ := h
  refine ⟨_, (ah (nN PassesOwn.never (az ju (pv 2) dN (aC _))
    (af (ax (i := 3) eX.nd rfl (Or.inl rfl) (eF hu (pv 1) (pv 2) (fun _ _ => rfl)))
    (af (ax (i := 4) eX.nd rfl (Or.inl rfl) (au (cS K) (pv 0) (pv 3) (fun _ _ => rfl)))
    (af (jF (pv 2) (ph (pv 0) (pv 3) gM))
    (ah (ax (i := 2) eX.nd rfl (Or.inl rfl) (pv 4)))))))), ?_⟩
  refine ⟨fun m σ H1 => ∃ hs v x3 x4, σ = [some (.ref ha), some (.ref ka), some v, x3, x4] /\ H1 = ay H ha (.lst (hs.map oV)) /\ ((∃ b t, v = .int b /\ m = t + 1 /\ POn rows hs0 hs ps ds i R A b0 b t) \/ (v = .non /\ Handed rows hs0 ps ds i b0 hs)), ⟨t + 1, hs0, _, none, none, rfl, (mT hh).symm, .inl ⟨b0, t, rfl, rfl, O⟩⟩, ?_⟩
  rintro m σ H1 ⟨hs, v, x3, x4, rfl, rfl, h⟩
  rcases h with ⟨b, t, rfl, rfl, O⟩ | ⟨rfl, hd⟩
  ·obtain ⟨p, hp⟩ := O.at'
   obtain ⟨pl, st⟩ := tj T O hp
   refine ⟨_, rfl, rfl, _, rfl, bX ?_⟩
   refine ⟨fun σ' H' => ∃ m', m' < t + 1 /\ ∃ hs v x3 x4, σ' = [some (.ref ha), some (.ref ka), some v, x3, x4] /\ H' = ay H ha (.lst (hs.map oV)) /\ ((∃ b t, v = .int b /\ m' = t + 1 /\ POn rows hs0 hs ps ds i R A b0 b t) \/ (v = .non /\ Handed rows hs0 ps ds i b0 hs)), fun σ' H' h => h, ?_⟩
   have hgk := DGet.k (k := Sum.inl b) (show ay H ha (.lst (hs.map oV)) ka = some (.dK (aE (iL A))) by rw [aj hne.symm]; exact hk)
   rw [cQ, vx nd hp] at hgk
   refine ⟨_, rfl, _, rfl, ka, _, rfl, hgk, ?_⟩
   refine ⟨_, rfl, _, rfl, ha, _, _, _, rfl, rfl, SqL.of ab, Aj pl, ?_⟩
   refine ⟨_, rfl, _, rfl, _, rfl, ha, _, _, p, rfl, rfl, ab, kd (by rw [B4]; exact pl), ?_⟩
   refine ⟨_, rfl, ?_⟩
   have eu : ay (ay H ha (.lst (hs.map oV))) ha (.lst ((hs.map oV).set p (.int b))) = ay H ha (.lst ((hs.set p (some b)).map oV)) := by
    rw [jq, List.map_set]; rfl
   rw [eu]
   cases e : hA hs p with
   | none =>
    rw [e] at st
    obtain ⟨_, h1, h2, h3, h4⟩ := st
    exact ⟨0, by omega, hs.set p (some b), .non, _, _, rfl, rfl, .inr ⟨rfl, by rw [DL]; exact O.lh, h1, h2, h3, h4⟩⟩
   | some c =>
    rw [e] at st
    obtain ⟨u, hu, O2⟩ := st
    exact ⟨u + 1, by omega, hs.set p (some b), .int c, _, _, rfl, rfl, .inl ⟨c, u, rfl, rfl, O2⟩⟩
  ·refine ⟨_, rfl, rfl, _, rfl, bw ?_⟩
   exact q hs hd
structure Reps (rows : bL) (rep : List Int) : Prop where
 len : rep.length = rows.length
 nd : rep.Nodup
 mem : ∀ (j : Nat) b, rep[j]? = some b -> b ∈ aw (rA rows j)
def oP (K : PySem.W.Frag) : Sp := fun vs H Q _ => ∃ (H0 : Hp) (a ha pa da : Addr) (rs : List Addr) (rows : bL) (hs : List (Option Int)) (ps : List Int) (ds : List (Int × Int)) (i : Nat) (rep : List Int), vs = [.ref a, .ref ha, .ref pa, .ref da, .int (i : Int)] /\ Same H0 H /\ H0 ha = none /\ H0 pa = none /\ H0 da = none /\ SqL K H0 a (rs.map V.ref) /\ BillL H0 rs rows /\ rows.length <= 60 /\ (∀ row ∈ rows, (row.map (·.1)).Nodup) /\ Reps rows rep /\
 H ha = some (.lst (hs.map oV)) /\ H pa = some (.lst (ps.map V.int)) /\ H da = some (.dK (aE ds)) /\ ha ≠ pa /\ PInv rows hs ps ds /\ hA hs i = none /\ i < rows.length /\
 ∀ hs' ps' ds' H', Same H0 H' -> H' ha = some (.lst (hs'.map oV)) -> H' pa = some (.lst (ps'.map V.int)) -> H' da = some (.dK (aE ds')) -> PInv rows hs' ps' ds' -> (∀ j, hA hs' j = none <-> (hA hs j = none /\ j ≠ i)) -> Q .non H'
theorem fI : FnScope ["pools", "hands", "prices", "dues", "place", "reached", "askers", "nearest", "badge"] ["pools", "hands", "prices", "dues", "place"] (ar ni) := ⟨rfl, rfl, rfl, by decide +kernel, rfl, by decide +kernel, by decide +kernel⟩
theorem vR (D : Dfs K mg aF dF) (T : Txt mg) : FnOk P w K mg base a9 2 (aF 20) (dF 20) ["pools", "hands", "prices", "dues", "place"] (oP K) := by
 have Gnearest_badge : FnOk P w K mg base a9 1 (aF 21) (dF 21) ["pools", "prices", "dues", "reached", "askers"] (eD K) := iS D T
 have Graise_all : FnOk P w K mg base a9 1 (aF 22) (dF 22) ["numbers", "keys", "gap"] (ic K) := nC D T
 have Ghand_on : FnOk P w K mg base a9 1 (aF 23) (dF 23) ["hands", "askers", "badge"] (kK K) := qC D T
 refine D.serve.fn.ok fI (fun vs H Q E h => ?_) (fun cdv A outer s H vs Q E hr h => ?_)
 ·obtain ⟨H0, a, ha, pa, da, rs, rows, hs, ps, ds, i, rep, rfl, _⟩ := h; rfl
 ·have hu := aW hr
  obtain ⟨H0, a, ha, pa, da, rs, rows, hs, ps, ds, i, rep, rfl, s0, na, np, nda, hS, hB, r60, rn, rp, hh, hp, hd, hap, I, fr, il, q⟩ := h
  refine ⟨_, (af (ax (i := 5) fI.nd rfl (Or.inl rfl) (aY (aa (pv 4) ae)))
   (af (ax (i := 6) fI.nd rfl (Or.inl rfl) gN)
   (ah (nN PassesOwn.never (b4 cI)
    (af (ax (i := 7) fI.nd rfl (Or.inl rfl) (pc D.nearest_badge Gnearest_badge (hr.mono (by decide)) (aa (pv 0) (aa (pv 2) (aa (pv 3) (aa (pv 5) (aa (pv 6) ae)))))))
    (af (bH (pc D.raise_all Graise_all (hr.mono (by decide)) (aa (pv 2) (aa (pv 5) (aa (au (cP K) (pv 7) ag (fun _ _ => rfl)) ae)))))
    (af (bH (pc D.raise_all Graise_all (hr.mono (by decide)) (aa (pv 3) (aa (pv 6) (aa (au (cP K) (pv 7) ag (fun _ _ => rfl)) ae)))))
    (af (ax (i := 8) fI.nd rfl (Or.inl rfl) (au (cP K) (pv 7) ag (fun _ _ => rfl)))
    (af (mC hu (pv 6) (pv 8) (au (cP K) (pv 7) ag (fun _ _ => rfl)) rfl)
    (af (aI (az (wJ K) (pv 8) (pv 1) (by with_unfolding_all rfl))
     (af (bH (pc D.hand_on Ghand_on (hr.mono (by decide)) (aa (pv 1) (aa (pv 6) (aa (pv 8) ae)))))
     (ah v5))
     aB)
    (af (bH (dS PySem.F.plainAttrs_dict PySem.F.slot_dict_setdefault PySem.F.type_dict_setdefault k5 (pv 3) (aa (pv 8) (aa ag ae))))
    (ah (bH (dS PySem.F.plainAttrs_list PySem.F.slot_list_append PySem.F.type_list_append bF (pv 5) (aa (dS PySem.F.plainAttrs_list PySem.F.slot_list_index PySem.F.type_list_index tq (pv 1) (aa (pv 8) ae)) ae))))))))))))))), ?_⟩
  have nad : ha ≠ da := fun e => by rw [e, hd] at hh; cases hh
  have npd : pa ≠ da := fun e => by rw [e, hd] at hp; cases hp
  refine ⟨_, rfl, b5, fun ra nra => ?_⟩
  intro ka nka
  have n0ra : H0 ra = none := s0.free nra
  have s1 : Same H0 (ay H ra (.lst [.int (i : Int)])) := s0.to nra
  have n0ka : H0 ka = none := s1.free nka
  have ne1 : ha ≠ ra := ak hh nra
  have ne2 : pa ≠ ra := ak hp nra
  have ne3 : da ≠ ra := ak hd nra
  have ne4 : ra ≠ ka := ak ab nka
  have ne5 : ha ≠ ka := ak (show ay H ra (.lst [.int (i : Int)]) ha = some _ by rw [aj ne1]; exact hh) nka
  have ne6 : pa ≠ ka := ak (show ay H ra (.lst [.int (i : Int)]) pa = some _ by rw [aj ne2]; exact hp) nka
  have ne7 : da ≠ ka := ak (show ay H ra (.lst [.int (i : Int)]) da = some _ by rw [aj ne3]; exact hd) nka
  refine ⟨fun m σ H1 => ∃ ps ds R A x7 x8, σ = [some (.ref a), some (.ref ha), some (.ref pa), some (.ref da), some (.int (i : Int)), some (.ref ra), some (.ref ka), x7, x8] /\ m = rows.length + 1 - R.length /\ Same H0 H1 /\ H1 ha = some (.lst (hs.map oV)) /\ H1 pa = some (.lst (ps.map V.int)) /\ H1 da = some (.dK (aE ds)) /\ H1 ra = some (.lst (R.map fun (q : Nat) => V.int (q : Int))) /\ H1 ka = some (.dK (aE (iL A))) /\ PInv rows hs ps ds /\ PTree rows hs ps ds i R A,
   ⟨_, ps, ds, [i], [], none, none, rfl, rfl, s1.to nka, by rw [aj ne5, aj ne1]; exact hh, by rw [aj ne6, aj ne2]; exact hp, by rw [aj ne7, aj ne3]; exact hd, by rw [aj ne4]; exact ab, ab, I, PTree.start fr il⟩, ?_⟩
  rintro m σ H1 ⟨ps, ds, R, A, x7, x8, rfl, rfl, s1, hh, hp, hd, hr, hk, I, T⟩
  refine ⟨_, rfl, bX ?_⟩
  refine ⟨fun σ' H' => ∃ m', m' < rows.length + 1 - R.length /\ ∃ ps ds R A x7 x8, σ' = [some (.ref a), some (.ref ha), some (.ref pa), some (.ref da), some (.int (i : Int)), some (.ref ra), some (.ref ka), x7, x8] /\ m' = rows.length + 1 - R.length /\ Same H0 H' /\ H' ha = some (.lst (hs.map oV)) /\ H' pa = some (.lst (ps.map V.int)) /\ H' da = some (.dK (aE ds)) /\ H' ra = some (.lst (R.map fun (q : Nat) => V.int (q : Int))) /\ H' ka = some (.dK (aE (iL A))) /\ PInv rows hs ps ds /\ PTree rows hs ps ds i R A, fun σ' H' h => h, ?_⟩
  refine ⟨_, rfl, _, rfl, _, rfl, _, rfl, _, rfl, ?_⟩
  refine ⟨a, pa, da, ra, ka, rs, rows, ps, ds, iL A, R, rfl, s1.seq hS, hB.same s1, hp, hd, hr, hk, I.lp, T.lt, fun f v H2 nr s12 fd => ?_⟩
  rw [eB] at nr
  have s2 := s1.trans s12
  have hh := s12 _ _ hh
  have hp := s12 _ _ hp
  have hd := s12 _ _ hd
  have hr := s12 _ _ hr
  have hk := s12 _ _ hk
  clear s12 s1
  cases f with
  | none =>
   obtain ⟨p', hp', x, hx, hn⟩ := qo T rp.len rp.nd rp.mem
   have : (x.2 + du ds x.1 - pA ps p', x.1, p') ∈ vq rows ps ds (A.map (·.1)) R := mU.mpr ⟨p', hp', x, hx, hn, rfl⟩
   rw [nr.no rfl] at this
   cases this
  | some fnd =>
  obtain ⟨g, b, p⟩ := fnd
  obtain ⟨t, rfl, nt, ht⟩ := fd
  obtain ⟨pR, bA, g0, mn, tgt⟩ := tF I T rn nr
  have tp : t ≠ pa := fun e => by rw [e, hp] at ht; cases ht
  have td : t ≠ da := fun e => by rw [e, hd] at ht; cases ht
  have tk : t ≠ ka := fun e => by rw [e, hk] at ht; cases ht
  refine ⟨_, rfl, _, rfl, _, rfl, t, _, _, _, rfl, rfl, SqT.of ht, aK (j := 0) rfl, ?_⟩
  refine ⟨pa, ra, g, rfl, .inl ⟨ps, R, hp, hr, ne2, T.rnd, fun q hq => by rw [I.lp]; exact T.lt q hq, fun ps' rps => ?_⟩⟩
  have s3 : Same H0 (ay H2 pa (.lst (ps'.map V.int))) := s2.put np
  have hh : ay H2 pa (.lst (ps'.map V.int)) ha = some (.lst (hs.map oV)) := by rw [aj hap]; exact hh
  have hd : ay H2 pa (.lst (ps'.map V.int)) da = some (.dK (aE ds)) := by rw [aj npd.symm]; exact hd
  have hr : ay H2 pa (.lst (ps'.map V.int)) ra = some (.lst (R.map fun (q : Nat) => V.int (q : Int))) := by rw [aj ne2.symm]; exact hr
  have hk : ay H2 pa (.lst (ps'.map V.int)) ka = some (.dK (aE (iL A))) := by rw [aj ne6.symm]; exact hk
  have ht : ay H2 pa (.lst (ps'.map V.int)) t = some (.tup [.int g, .int b, .int (p : Int)]) := by rw [aj tp]; exact ht
  have hp : ay H2 pa (.lst (ps'.map V.int)) pa = some (.lst (ps'.map V.int)) := ab
  generalize ay H2 pa (.lst (ps'.map V.int)) = H3 at s3 hh hd hr hk ht hp
  refine ⟨_, rfl, _, rfl, _, rfl, t, _, _, _, rfl, rfl, SqT.of ht, aK (j := 0) rfl, ?_⟩
  have dl := I.dlen
  refine ⟨da, ka, g, rfl, .inr ⟨ds, iL A, hd, hk, ne7, by rw [eB]; exact T.nd, fun c hc => ?_, g0, by omega, fun ds' rds => ?_⟩⟩
  ·rw [eB] at hc
   obtain ⟨x, hx, e⟩ := Cb.mp hc
   rw [<- e]
   exact T.keys x hx
  rw [eB] at rds
  have W := tE rps rds
  obtain ⟨I, T⟩ := vh I T g0 mn W
  have tg := tgt ps' ds' W
  clear tgt mn nr W rds rps
  have s4 : Same H0 (ay H3 da (.dK (aE ds'))) := s3.put nda
  have hh : ay H3 da (.dK (aE ds')) ha = some (.lst (hs.map oV)) := by rw [aj nad]; exact hh
  have hr : ay H3 da (.dK (aE ds')) ra = some (.lst (R.map fun (q : Nat) => V.int (q : Int))) := by rw [aj ne3.symm]; exact hr
  have hk : ay H3 da (.dK (aE ds')) ka = some (.dK (aE (iL A))) := by rw [aj ne7.symm]; exact hk
  have ht : ay H3 da (.dK (aE ds')) t = some (.tup [.int g, .int b, .int (p : Int)]) := by rw [aj td]; exact ht
  have hp : ay H3 da (.dK (aE ds')) pa = some (.lst (ps'.map V.int)) := by rw [aj npd]; exact hp
  have hd : ay H3 da (.dK (aE ds')) da = some (.dK (aE ds')) := ab
  generalize ay H3 da (.dK (aE ds')) = H4 at s4 hh hd hr hk ht hp
  have dl := I.dlen
  have tl := T.len
  have tle := T.le
  refine ⟨_, rfl, t, _, _, _, rfl, rfl, SqT.of ht, aK (j := 1) rfl, ?_⟩
  refine ⟨_, rfl, t, _, _, _, rfl, rfl, SqT.of ht, aK (j := 2) rfl, _, rfl, _, rfl, ka, _, rfl, DPut.k (k := Sum.inl b) hk (iV (by unfold aE iL; rw [B4, B4]; omega)), ?_⟩
  rw [xl bA]
  have s5 : Same H0 (ay H4 ka (.dK (aE (iL (A ++ [(b, p)]))))) := s4.put n0ka
  have hh : ay H4 ka (.dK (aE (iL (A ++ [(b, p)])))) ha = some (.lst (hs.map oV)) := by rw [aj ne5]; exact hh
  have hr : ay H4 ka (.dK (aE (iL (A ++ [(b, p)])))) ra = some (.lst (R.map fun (q : Nat) => V.int (q : Int))) := by rw [aj ne4]; exact hr
  have hp : ay H4 ka (.dK (aE (iL (A ++ [(b, p)])))) pa = some (.lst (ps'.map V.int)) := by rw [aj ne6]; exact hp
  have hd : ay H4 ka (.dK (aE (iL (A ++ [(b, p)])))) da = some (.dK (aE ds')) := by rw [aj ne7]; exact hd
  have hk : ay H4 ka (.dK (aE (iL (A ++ [(b, p)])))) ka = some (.dK (aE (iL (A ++ [(b, p)])))) := ab
  generalize ay H4 ka (.dK (aE (iL (A ++ [(b, p)])))) = H5 at s5 hh hd hr hk hp
  have nd' : ((A ++ [(b, p)]).map (·.1)).Nodup := by
   rw [Cf]
   exact eI T.nd bA
  refine ⟨_, rfl, _, rfl, ha, _, rfl, .inl (SqL.of hh), rfl, mV hs, _, rfl, ?_⟩
  rw [if_pos rfl]
  by_cases hin : ∃ j, hA hs j = some b
  ·rw [xZ.mpr hin]
   refine bw ?_
   obtain ⟨j, hj⟩ := hin
   have jl := vg hj
   have recu : ∀ (ds'' : List (Int × Int)) (H6 : Hp), ds'' = (if b ∈ ds'.map (·.1) then ds' else ds' ++ [(b, 0)]) -> Same H0 H6 -> H6 ha = some (.lst (hs.map oV)) -> H6 pa = some (.lst (ps'.map V.int)) -> H6 da = some (.dK (aE ds'')) -> H6 ra = some (.lst ((R ++ [j]).map fun (q : Nat) => V.int (q : Int))) -> H6 ka = some (.dK (aE (iL (A ++ [(b, p)])))) ->
     ∃ m', m' < rows.length + 1 - R.length /\ ∃ ps ds R A x7 x8, [some (V.ref a), some (.ref ha), some (.ref pa), some (.ref da), some (.int (i : Int)), some (.ref ra), some (.ref ka), some (.ref t), some (.int b)] = [some (.ref a), some (.ref ha), some (.ref pa), some (.ref da), some (.int (i : Int)), some (.ref ra), some (.ref ka), x7, x8] /\ m' = rows.length + 1 - R.length /\ Same H0 H6 /\ H6 ha = some (.lst (hs.map oV)) /\ H6 pa = some (.lst (ps.map V.int)) /\ H6 da = some (.dK (aE ds)) /\ H6 ra = some (.lst (R.map fun (q : Nat) => V.int (q : Int))) /\ H6 ka = some (.dK (aE (iL A))) /\ PInv rows hs ps ds /\ PTree rows hs ps ds i R A := fun ds'' H6 e s h1 h2 h3 h4 h5 => by
    obtain ⟨I2, T2⟩ := sY I T pR bA tg hj e
    exact ⟨_, by rw [Cd, Cn]; omega, ps', ds'', R ++ [j], A ++ [(b, p)], _, _, rfl, rfl, s, h1, h2, h3, h4, h5, I2, T2⟩
   have hj' : (hs.map oV)[j]? = some (oV (some b)) := by rw [B7, qp hj]; rfl
   have first : ∀ m z, m < j -> (hs.map oV)[m]? = some z -> mv z (.int b) = false := fun m z hm hz => by
    rw [B7] at hz
    obtain ⟨o, ho, rfl⟩ := Cc.mp hz
    rw [oF]
    refine decide_eq_false fun e => ?_
    have := I.inj m j b (by rw [vy ho]; exact e) hj
    omega
   have lh := I.lh
   refine ⟨_, rfl, .inr (.inr (.inl ⟨rfl, .inl ⟨_, hd⟩⟩)), _, rfl, da, aE ds', Sum.inl b, .int 0, rfl, rfl, hd, iV (by unfold aE; rw [B4]; omega), fun y hy => ?_, fun hn => ?_⟩
   ·have kin : b ∈ ds'.map (·.1) := Decidable.byContradiction fun z => by
     rw [cQ, cE.mpr z] at hy
     cases hy
    refine ⟨_, rfl, .inl ⟨rfl, _, SqL.of hr⟩, _, rfl, .inl ⟨rfl, _, SqL.of hh⟩, _, rfl, ?_⟩
    refine ⟨ha, hs.map oV, .int b, j, _, rfl, rfl, rfl, mV hs, hh, hj', (by rw [oF]; simp), first, by rw [B4]; omega, ra, _, _, rfl, rfl, hr, iV (by rw [B4]; omega), ?_⟩
    exact recu ds' (ay H5 ra (.lst ((R.map fun (q : Nat) => V.int (q : Int)) ++ [.int (j : Int)]))) (by rw [if_pos kin]) (s5.put n0ra) (by rw [aj ne1]; exact hh) (by rw [aj ne2]; exact hp) (by rw [aj ne3]; exact hd) (by rw [ab, Cf]; rfl) (by rw [aj ne4.symm]; exact hk)
   ·have kin : b ∉ ds'.map (·.1) := fun z => by
     rw [cQ, oD z] at hn
     cases hn
    rw [g9]
    have e0 : g8 ds' b 0 = ds' ++ [(b, 0)] := by unfold g8; rw [if_neg kin]
    rw [e0]
    have s6 : Same H0 (ay H5 da (.dK (aE (ds' ++ [(b, 0)])))) := s5.put nda
    have hh : ay H5 da (.dK (aE (ds' ++ [(b, 0)]))) ha = some (.lst (hs.map oV)) := by rw [aj nad]; exact hh
    have hr : ay H5 da (.dK (aE (ds' ++ [(b, 0)]))) ra = some (.lst (R.map fun (q : Nat) => V.int (q : Int))) := by rw [aj ne3.symm]; exact hr
    have hp : ay H5 da (.dK (aE (ds' ++ [(b, 0)]))) pa = some (.lst (ps'.map V.int)) := by rw [aj npd]; exact hp
    have hk : ay H5 da (.dK (aE (ds' ++ [(b, 0)]))) ka = some (.dK (aE (iL (A ++ [(b, p)])))) := by rw [aj ne7.symm]; exact hk
    have hd : ay H5 da (.dK (aE (ds' ++ [(b, 0)]))) da = some (.dK (aE (ds' ++ [(b, 0)]))) := ab
    generalize ay H5 da (.dK (aE (ds' ++ [(b, 0)]))) = H6 at s6 hh hd hr hk hp
    refine ⟨_, rfl, .inl ⟨rfl, _, SqL.of hr⟩, _, rfl, .inl ⟨rfl, _, SqL.of hh⟩, _, rfl, ?_⟩
    refine ⟨ha, hs.map oV, .int b, j, _, rfl, rfl, rfl, mV hs, hh, hj', (by rw [oF]; simp), first, by rw [B4]; omega, ra, _, _, rfl, rfl, hr, iV (by rw [B4]; omega), ?_⟩
    exact recu (ds' ++ [(b, 0)]) (ay H6 ra (.lst ((R.map fun (q : Nat) => V.int (q : Int)) ++ [.int (j : Int)]))) (by rw [if_neg kin]) (s6.put n0ra) (by rw [aj ne1]; exact hh) (by rw [aj ne2]; exact hp) (by rw [aj ne3]; exact hd) (by rw [ab, Cf]; rfl) (by rw [aj ne4.symm]; exact hk)
  ·have e : yw (.int b) (hs.map oV) = false := Bool.eq_false_iff.mpr fun z => hin (xZ.mp z)
   rw [e]
   refine bX ?_
   refine ⟨_, rfl, _, rfl, _, rfl, ?_⟩
   refine ⟨ha, ka, rows, hs, ps', ds', i, A.length, R, A ++ [(b, p)], b, rfl, hh, hk, ne5, nd', T.top pR tg, POn.first I fun j h => hin ⟨j, h⟩, fun hs' hd' => ?_⟩
   exact q hs' ps' ds' _ (s5.put na) ab (by rw [aj hap.symm]; exact hp) (by rw [aj nad.symm]; exact hd) (I.handed hd') hd'.dom
def y6 (H H' : Hp) (t : Addr) (rows : bL) : Prop := (∃ (l : Addr) (qs : List Nat), H' t = some (.tup [.str "short", .ref l]) /\ H l = none /\ H' l = some (.lst (qs.map fun (q : Nat) => V.int (q : Int))) /\ Short (rows.map aw) qs) \/
 ∃ (lh lp ld : Addr) (hs ps : List Int) (tot : Int) (es : List (Int × Int)), H' t = some (.tup [.str "dealt", .ref lh, .int tot, .ref lp, .ref ld]) /\ H lh = none /\ H lp = none /\ H ld = none /\ H' lh = some (.lst (hs.map V.int)) /\ H' lp = some (.lst (ps.map V.int)) /\ RowAt H' ld es /\ Priced rows hs tot ps es
def kL (K : PySem.W.Frag) : Sp := fun vs H Q _ => ∃ (a : Addr) (rs : List Addr) (rows : bL) (U : List Int), vs = [.ref a] /\ H a = some (.lst (rs.map V.ref)) /\ BillL H rs rows /\ rows.length <= 6 /\ (∀ row ∈ rows, (row.map (·.1)).Nodup /\ row.length <= 20 /\ ∀ x ∈ row, 0 <= x.2 /\ x.1 ∈ U) /\ U.length <= 26 /\
 ∀ t H', Same H H' -> H t = none -> y6 H H' t rows -> Q (.ref t) H'
theorem dB : FnScope ["pools", "dealt", "hands", "prices", "dues", "place", "total"] ["pools"] (ar ng) := ⟨rfl, rfl, rfl, by decide +kernel, rfl, by decide +kernel, by decide +kernel⟩
theorem oQ (D : Dfs K mg aF dF) (T : Txt mg) : FnOk P w K mg base a9 30 (aF 19) (dF 19) ["pools"] (kL K) := by
 have Gdeal : FnOk P w K mg base a9 29 (aF 13) (dF 13) ["pools"] (nA K) := rH D T
 have Gserve : FnOk P w K mg base a9 2 (aF 20) (dF 20) ["pools", "hands", "prices", "dues", "place"] (oP K) := vR D T
 refine D.cheap.fn.ok dB (fun vs H Q E h => ?_) (fun cdv A outer s H vs Q E hr h => ?_)
 ·obtain ⟨a, rs, rows, U, rfl, _⟩ := h; rfl
 ·have hu := aW hr
  obtain ⟨a, rs, rows, U, rfl, hb, bl, r6, ok, u26, q⟩ := h
  refine ⟨_, (af (ax (i := 1) dB.nd rfl (Or.inl rfl) (pc D.deal Gdeal (hr.mono (by decide)) (aa (a8 ["pool"] [none] rfl (jy K (pv 0)) (fun _ => aq (i := 0) (aU (N := ["pool"]) (by decide +kernel)) rfl (Or.inl rfl)) (fun _ => bx) (fun _ => (a8 ["badge", "cost"] [none, none] rfl (jy K (pv 0)) (fun _ => wL K (n := 2) rfl (a7 (aq (i := 0) (aU (N := ["badge", "cost"]) (by decide +kernel)) rfl (Or.inl rfl)) (a7 (aq (i := 1) (aU (N := ["badge", "cost"]) (by decide +kernel)) rfl (Or.inl rfl)) cX))) (fun _ => bx) (fun _ => (pv 0)) ((.cons (fun _ e => by cases e) (.cons (fun _ e => by cases e) .nil))))) ((.cons (fun _ e => by cases e) .nil))) ae)))
   (af (aI (az bT (au (cP K) (pv 1) ag (fun _ _ => rfl)) aL (aC _))
    (ah (av (pv 1)))
    aB)
   (af (ax (i := 2) dB.nd rfl (Or.inl rfl) (aA pJ (aY (aa dN ae)) (ao (bM K) (by rfl) T.z_len boot_len (aa (pv 0) ae))))
   (af (ax (i := 3) dB.nd rfl (Or.inl rfl) (aA pJ (aY (aa ag ae)) (ao (bM K) (by rfl) T.z_len boot_len (aa (pv 0) ae))))
   (af (ax (i := 4) dB.nd rfl (Or.inl rfl) gN)
   (af (aX PassesOwn.never rfl (aQ rfl T.z_range (aa (ao (bM K) (by rfl) T.z_len boot_len (aa (pv 0) ae)) ae)) (aq (i := 5) dB.nd rfl (Or.inl rfl))
    (ah (bH (pc D.serve Gserve (hr.mono (by decide)) (aa (pv 0) (aa (pv 2) (aa (pv 3) (aa (pv 4) (aa (pv 5) ae)))))))))
   (af (ax (i := 6) dB.nd rfl (Or.inl rfl) (ao (Ad K) (by rfl) T.z_sum boot_sum (aa (a8 ["pool", "hand"] [none, none] rfl (uT K rfl T.z_zip (aa (pv 0) (aa (pv 2) ae))) (fun _ => wL K (n := 2) rfl (a7 (aq (i := 0) (aU (N := ["pool", "hand"]) (by decide +kernel)) rfl (Or.inl rfl)) (a7 (aq (i := 1) (aU (N := ["pool", "hand"]) (by decide +kernel)) rfl (Or.inl rfl)) cX))) (fun _ => bx) (fun _ => (eF hu (aV (rf K) (by rfl) T.z_dict PyProof.Rows.boot_dict (aa (pv 0) ae)) (pv 1) (fun _ _ => rfl))) ((.cons (fun _ e => by cases e) (.cons (fun _ e => by cases e) .nil)))) ae)))
   (ah (av (aJ (aa aL (aa (pv 2) (aa (pv 6) (aa (pv 3) (aa (ao vC (by rfl) T.z_sorted boot_sorted (aa (pH PySem.F.plainAttrs_dict PySem.F.slot_dict_items PySem.F.type_dict_items oa (pv 4)) ae)) ae))))))))))))))), ?_⟩
  refine ⟨_, rfl, a, rfl, ⟨_, SqL.of hb⟩, ?_⟩
  have ln := bl.len
  refine jU (xs := rs.map V.ref) (fun i => (rows.getD i []).map fun x => V.int x.1) (SqL.of hb) (by rw [B4]; omega) (fun i x hx H2 R s2 k => ?_) fun acc ls H2 s2 nacc hacc hls hall hne => ?_
  ·rw [B7] at hx
   obtain ⟨r, hr, rfl⟩ := Cc.mp hx
   obtain ⟨row, hrow, ra⟩ := (bl.same s2).get hr
   have eg : rows.getD i [] = row := by rw [B5, hrow]; rfl
   rw [eg] at k
   have r2 := (ok row (B8 hrow)).2.1
   refine ⟨_, rfl, r, rfl, ⟨_, SqL.of ra.choose_spec.1⟩, ?_⟩
   exact iZ (fun x => V.int x.1) ra (by omega) (fun j x hx H3 R s3 k3 => ⟨_, rfl, k3 H3 (Same.refl _)⟩) fun acc2 H3 s3 n3 h3 => k acc2 H3 s3 n3 h3
  rw [B4] at hls
  have rl : RowsL H2 ls (rows.map aw) := RowsL.of (by rw [B4]; omega) fun i r p e1 e2 => by
   rw [B7] at e2
   obtain ⟨row, hrow, rfl⟩ := Cc.mp e2
   have := (hall i r e1).1
   rw [B5, hrow] at this
   rw [this]
   unfold aw
   rw [Cu]; rfl
  refine ⟨acc, ls, rows.map aw, U, rfl, SqL.of hacc, rl.pools, by rw [B4]; exact r6, fun p hp b hbp => ?_, u26, fun t H3 s3 nw told => ?_⟩
  ·obtain ⟨row, hrow, rfl⟩ := Cb.mp hp
   obtain ⟨x, hx, rfl⟩ := Cb.mp hbp
   exact ((ok row hrow).2.2 x hx).2
  have s03 := s2.trans s3
  rcases told with ⟨l, hs0, ht, hl, dl⟩ | ⟨l, qs, ht, hl, sh⟩
  rotate_left
  ·refine ⟨_, rfl, t, _, _, _, rfl, rfl, SqT.of ht, rfl, rfl, _, rfl, bX ?_⟩
   exact ⟨_, rfl, q t H3 s03 (s2.free nw.1) (.inl ⟨l, qs, ht, s2.free (nw.2 _ _ ht), hl, sh⟩)⟩
  ·refine ⟨_, rfl, t, _, _, _, rfl, rfl, SqT.of ht, rfl, rfl, _, rfl, bw ?_⟩
   have hb3 := s03 _ _ hb
   have bl3 := bl.same s03
   refine ⟨b5, fun l0 n0 => ⟨_, rfl, _, _, rfl, .inl ⟨_, (Same.new n0).seq (SqL.of hb3), rfl⟩, l0, _, _, rfl, rfl, ab, by omega, by rw [B4]; omega, by rw [B4]; show 1 * _ <= _; exact wI (by omega), fun ha nha => ?_⟩⟩
   rw [B4, show ((rs.length : Nat) : Int).toNat = rows.length by omega, oG]
   have s4 := Same.new (o := .lst [.non]) n0
   have nha3 : H3 ha = none := s4.free nha
   have s5 : Same H3 (ay (ay H3 l0 (.lst [.non])) ha (.lst (Cq rows.length .non))) := s4.to nha
   have hh5 : ay (ay H3 l0 (.lst [.non])) ha (.lst (Cq rows.length .non)) ha = some (.lst (Cq rows.length .non)) := ab
   generalize ay (ay H3 l0 (.lst [.non])) ha (.lst (Cq rows.length .non)) = H5 at s5 hh5
   refine ⟨b5, fun l1 n1 => ⟨_, rfl, _, _, rfl, .inl ⟨_, (s5.to n1).seq (SqL.of hb3), rfl⟩, l1, _, _, rfl, rfl, ab, by omega, by rw [B4]; omega, by rw [B4]; show 1 * _ <= _; exact wI (by omega), fun pa npa => ?_⟩⟩
   rw [B4, show ((rs.length : Nat) : Int).toNat = rows.length by omega, oG]
   have s6 : Same H5 (ay H5 l1 (.lst [.int 0])) := Same.new n1
   have hap : ha ≠ pa := ak (s6 _ _ hh5) npa
   have npa3 : H3 pa = none := (s5.trans s6).free npa
   have s7 : Same H3 (ay (ay H5 l1 (.lst [.int 0])) pa (.lst (Cq rows.length (.int 0)))) := (s5.trans s6).to npa
   have hh7 : ay (ay H5 l1 (.lst [.int 0])) pa (.lst (Cq rows.length (.int 0))) ha = some (.lst (Cq rows.length .non)) := by rw [aj hap]; exact s6 _ _ hh5
   have hp7 : ay (ay H5 l1 (.lst [.int 0])) pa (.lst (Cq rows.length (.int 0))) pa = some (.lst (Cq rows.length (.int 0))) := ab
   generalize ay (ay H5 l1 (.lst [.int 0])) pa (.lst (Cq rows.length (.int 0))) = H7 at s7 hh7 hp7
   intro da nda
   have nda3 : H3 da = none := s7.free nda
   have s8 : Same H7 (ay H7 da (.dK [])) := Same.new nda
   refine ⟨_, rfl, _, _, rfl, .inl ⟨_, (s7.trans s8).seq (SqL.of hb3), rfl⟩, _, rfl, fU _, by rw [B4]; omega, ?_⟩
   rw [B4, show ((rs.length : Nat) : Int).toNat = rows.length by omega]
   have rp : Reps rows hs0 := ⟨by rw [dl.len, B4], dl.nd, fun j b hj => by
    have jl := (B6.mp hj).1
    have jr : j < rows.length := by have := dl.len; rw [B4] at this; omega
    have := dl.of j jl (by rw [B4]; exact jr)
    rw [C2] at this
    have e : rA rows j = rows[j] := by unfold rA; rw [B5, B3 jr]; rfl
    rw [e, <- (B6.mp hj).2]
    exact this⟩
   refine bO (n := rows.length) (fun i σ Hx => ∃ hs ps ds x5, σ = [some (.ref a), some (.ref t), some (.ref ha), some (.ref pa), some (.ref da), x5, none] /\ Same H3 Hx /\ Hx ha = some (.lst (hs.map oV)) /\ Hx pa = some (.lst (ps.map V.int)) /\ Hx da = some (.dK (aE ds)) /\ PInv rows hs ps ds /\ ∀ j, j < rows.length -> (hA hs j = none <-> i <= j))
    ⟨Cq rows.length none, Cq rows.length 0, [], none, rfl, s7.trans s8, by rw [s8 _ _ hh7, List.map_replicate]; rfl, by rw [s8 _ _ hp7, List.map_replicate], ab, PInv.start fun row hrow x hx => ((ok row hrow).2.2 x hx).1, fun j hj => ⟨fun _ => Cz _, fun _ => by unfold hA; rw [B5, List.getElem?_replicate]; split <;> rfl⟩⟩ ?_ ?_
   ·rintro i σ Hx hi ⟨hs, ps, ds, x5, rfl, sx, hhx, hpx, hdx, I, dom⟩
    have ei : (0 : Int) + (i : Int) = (i : Int) := by omega
    rw [ei]
    refine ⟨_, rfl, _, rfl, _, rfl, _, rfl, _, rfl, ?_⟩
    refine ⟨H3, a, ha, pa, da, rs, rows, hs, ps, ds, i, hs0, rfl, sx, nha3, npa3, nda3, SqL.of hb3, bl3, by omega, fun row hrow => (ok row hrow).1, rp, hhx, hpx, hdx, hap, I, (dom i hi).mpr (Ca _), hi, fun hs' ps' ds' H' s' h1 h2 h3 I' dm => ?_⟩
    refine ⟨hs', ps', ds', _, rfl, s', h1, h2, h3, I', fun j hj => ?_⟩
    rw [dm j, dom j hj]
    omega
   ·rintro σ Hx ⟨hs, ps, ds, x5, rfl, sx, hhx, hpx, hdx, I, dom⟩
    obtain ⟨ns, rfl⟩ := vD (hs := hs) fun j hj z => by
     have jl : j < rows.length := by rw [<- I.lh]; exact hj
     have := (dom j jl).mp z
     omega
    rw [xo] at hhx
    have lns : ns.length = rows.length := by have := I.lh; rw [B4] at this; exact this
    have dl2 := I.deal
    have blx := bl3.same sx
    have hbx := sx _ _ hb3
    refine ⟨_, rfl, _, rfl, a, ha, _, _, rfl, SqL.of hbx, SqL.of hhx, ?_⟩
    refine lR (xs := rs.map V.ref) (ys := ns.map V.int) (fun j => .int (cg rows ns j)) (by rw [B4, B4]; omega) (SqL.of hbx) (SqL.of hhx) (by rw [B4]; omega) (fun j x y H2 R hx hy s2 k => ?_) fun acc H9 s9 nacc hacc => ?_
    ·rw [B7] at hx
     obtain ⟨r, hr, rfl⟩ := Cc.mp hx
     obtain ⟨d, hd, rfl, ed⟩ := fB hy
     obtain ⟨row, hrow, ps, hps, tps⟩ := (blx.same s2).get hr
     have jl := (B6.mp hd).1
     have jr := (B6.mp hrow).1
     obtain ⟨c, hc, _⟩ := I.tight j ns[j] (hZ jl)
     have e1 : rA rows j = row := by unfold rA; rw [B5, hrow]; rfl
     have e2 : ns[j] = d := (B6.mp hd).2
     rw [e1, e2] at hc
     have em : cg rows ns j = c := by
      unfold cg
      rw [B5, B5, hrow, hd]
      show (aN row d).getD 0 = c
      rw [hc]; rfl
     rw [em] at k
     refine ⟨_, rfl, r, ps, jC row, rfl, SqL.of hps, by unfold jC; rw [B4, tps.len], mR (ok row (B8 hrow)).1, tps.kv, fun l nl => ?_⟩
     refine ⟨_, rfl, l, .int c, rfl, ?_, k _ (Same.new nl)⟩
     have g := DGet.k (k := Sum.inl d) (show ay H2 l (.dK (jC row)) l = some (.dK (jC row)) from ab)
     rw [dZ, hc] at g
     exact g
    ·have e1 : (B9 (rs.map V.ref).length).map (fun j => V.int (cg rows ns j)) = ((B9 rows.length).map (cg rows ns)).map V.int := by rw [B4, ln, Cu]; rfl
     rw [e1] at hacc
     refine ⟨acc, _, rfl, SqL.of hacc, ?_⟩
     have hd9 := s9 _ _ hdx
     refine ⟨_, rfl, _, rfl, _, rfl, _, rfl, .inr (.inr (.inl ⟨rfl, .inl ⟨_, hd9⟩⟩)), da, aE ds, rfl, rfl, hd9, fun v nv => ?_⟩
     refine ⟨v, da, ds, rfl, ab, by rw [aj (ak hd9 nv)]; exact hd9, I.dnd, by have := I.dlen; omega, fun ld es H10 pm up s10 nld ra => ?_⟩
     refine ⟨b5, fun t2 nt2 => ?_⟩
     have sv : Same H9 (ay H9 v (.ext (VW v da))) := Same.new nv
     have s910 := sv.trans s10
     have s11 : Same H9 (ay H10 t2 (.tup [.str "dealt", .ref ha, .int ((B9 rows.length).map (cg rows ns)).sum, .ref pa, .ref ld])) := s910.to nt2
     have s0x := s03.trans sx
     have s09 := s0x.trans s9
     refine q t2 _ (s09.trans s11) ((s09.trans s910).free nt2) (.inr ⟨ha, pa, ld, ns, ps, _, es, ab, s03.free nha3, s03.free npa3, (s09.trans sv).free nld, s11 _ _ (s9 _ _ hhx), s11 _ _ (s9 _ _ hpx), ra.same (Same.new nt2), ⟨⟨ds, I, pm⟩, up, rfl⟩⟩)
def eY (K : PySem.W.Frag) (m : Nat) : Sp := fun vs H Q _ => ∃ (pa b ta ka : Addr) (p : List Int) (rs : List Addr) (rows : cH) (U : List Int) (ts : List (Addr × Addr × Str × Int × List Nat)) (hs0 : List Int), vs = [.ref pa, .ref b, .ref ta, .ref ka] /\ H pa = some (.lst (p.map V.int)) /\ H b = some (.lst (rs.map V.ref)) /\ BillL H rs rows /\ QB rows U /\ Ties K H ta ts 100 /\ (∀ x ∈ ts, TieG rows.length x) /\ bD p /\ p.length <= rows.length /\ rows.length < p.length + m /\ H ka = some (.lst (hs0.map V.int)) /\ IsPlan (bW rows) (ts.map cB) hs0 /\
 ∀ k hs H', Same H H' -> (k = ka \/ H k = none) -> H' k = some (.lst (hs.map V.int)) -> IsPlan (bW rows) (ts.map cB) hs -> bC rows hs <= bC rows hs0 -> (∀ hs', IsPlan (bW rows) (ts.map cB) hs' -> Beg p hs' -> bC rows hs <= bC rows hs') -> Q (.ref k) H'
def i9 (K : PySem.W.Frag) : Sp := eY K 7
theorem dJ : FnScope ["pattern", "bill", "ties", "known", "dealt", "longer"] ["pattern", "bill", "ties", "known"] (ar gv) := ⟨rfl, rfl, rfl, by decide +kernel, rfl, by decide +kernel, by decide +kernel⟩
theorem oR (D : Dfs K mg aF dF) (T : Txt mg) : FnOk P w K mg base a9 57 (aF 25) (dF 25) ["pattern", "bill", "ties", "known"] (i9 K) := by
 have Ggrown : FnOk P w K mg base a9 2 (aF 2) (dF 2) ["pattern"] (ia K) := kH D T
 have Gfirst_broken : FnOk P w K mg base a9 3 (aF 4) (dF 4) ["pattern", "ties"] (cv K) := cW D T
 have Gminutes_of : FnOk P w K mg base a9 1 (aF 9) (dF 9) ["bill", "hands"] (dP K) := fZ D T
 have Gsums : FnOk P w K mg base a9 3 (aF 10) (dF 10) ["pattern", "bill"] (nu K) := rG D T
 have Gcheap : FnOk P w K mg base a9 30 (aF 19) (dF 19) ["pools"] (kL K) := oQ D T
 have all : ∀ n, FnOk P w K mg base a9 (50 + n) (aF 25) (dF 25) ["pattern", "bill", "ties", "known"] (eY K n) := by
  intro n
  induction n with
  | zero =>
   have no : ∀ vs H Q E, ¬ eY K 0 vs H Q E := fun vs H Q E h => by
    obtain ⟨pa, b, ta, ka, p, rs, rows, U, ts, hs0, _, _, _, _, _, _, _, _, h1, h2, _⟩ := h
    omega
   exact ⟨fun vs H Q E h => absurd h (no vs H Q E), fun A outer s H args us vs Q E _ _ _ _ h => absurd h (no vs H Q E)⟩
  | succ n Gquickest =>
   refine D.quickest.fn.ok dJ (fun vs H Q E h => ?_) (fun cdv A outer s H vs Q E hr h => ?_)
   ·obtain ⟨pa, b, ta, ka, p, rs, rows, U, ts, hs0, rfl, _⟩ := h; rfl
   obtain ⟨pa, b, ta, ka, p, rs, rows, U, ts, hs0, rfl, hpa, hb, bl, qb, tt, tg, c, hl, hlm, hka, ip0, q⟩ := h
   have rk : Nat.add 50 n = 50 + n := rfl
   refine ⟨_, (af (aI (az ju (pc D.first_broken Gfirst_broken (hr.mono (by have := rk; omega)) (aa (pv 0) (aa (pv 2) ae))) dN (aC _))
    (ah (av (pv 3)))
    aB)
   (af (ax (i := 4) dJ.nd rfl (Or.inr rfl) (pc D.cheap Gcheap (hr.mono (by have := rk; omega)) (aa (pc D.sums Gsums (hr.mono (by have := rk; omega)) (aa (pv 0) (aa (pv 1) ae))) ae)))
   (af (aI (PW.pt (dD (az bT (au (cP K) (pv 4) ag (fun _ _ => rfl)) aL (aC _)) (de (az qI (au (cP K) (pv 4) ag (fun _ _ => rfl)) (pc D.minutes_of Gminutes_of (hr.mono (by have := rk; omega)) (aa (pv 1) (aa (pv 3) ae))) (aC _)))))
    (ah (av (pv 3)))
    aB)
   (af (aI (az bT (ao (bM K) (by rfl) T.z_len boot_len (aa (pv 0) ae)) (ao (bM K) (by rfl) T.z_len boot_len (aa (pv 1) ae)) (aC _))
    (ah (av (a8 ["block", "dealt"] [none, some 4] rfl (jy K (pv 0)) (fun _ => aq (i := 0) (aU (N := ["block", "dealt"]) (by decide +kernel)) rfl (Or.inl rfl)) (fun _ => bx) (fun _ => (au (cS K) (au (cP K) (pv 1) ag (fun _ _ => rfl)) (pv 0) (fun _ _ => rfl))) ((.cons (fun _ e => by cases e) (.cons (fun _ e => by cases e; exact ⟨rfl, rfl⟩) .nil))))))
    aB)
   (af (aX PassesOwn.never rfl (jy K (pc D.grown Ggrown (hr.mono (by have := rk; omega)) (aa (pv 0) ae))) (aq (i := 5) dJ.nd rfl (Or.inl rfl))
    (ah (ax (i := 3) dJ.nd rfl (Or.inl rfl) (pc D.quickest Gquickest hr (aa (pv 5) (aa (pv 1) (aa (pv 2) (aa (pv 3) ae))))))))
   (ah (av (pv 3)))))))), ?_⟩
   have r6 := qb.r6
   have dl := cN p
   have rl : rs.length = rows.length := bl.len
   have mbl := dv rows
   refine ⟨_, rfl, _, rfl, pa, ta, p, ts, rfl, SqL.of hpa, tt, fun H1 s1 => ?_⟩
   refine ⟨rfl, ?_⟩
   rw [j7]
   cases hf : jk (fun i => p.getD i 0) p.length ts with
   | some j =>
    obtain ⟨x, hx, hbk⟩ := lU hf
    refine ⟨_, rfl, bX ⟨_, rfl, q ka hs0 H1 s1 (.inl rfl) (s1 _ _ hka) ip0 (Int.le_refl _) fun hs' ip' bg => ?_⟩⟩
    have k1 := ip'.kp (cB x) (Cb.mpr ⟨x, B8 hx, rfl⟩)
    have k2 := bg.brk hbk
    exact absurd (k1.symm.trans k2) (by decide)
   | none =>
    have nb := iG hf
    refine ⟨_, rfl, bw ?_⟩
    refine ⟨_, rfl, _, rfl, pa, b, p, rs, rows, rfl, SqL.of (s1 _ _ hpa), s1 _ _ hb, bl.same s1, c, hl, r6, qb.ok, fun sl ls H2 s2 nsl hsl bls fr2 => ⟨sl, ls, bE rows p, U, rfl, hsl, bls, by rw [aH]; omega, rF qb c, qb.u26, fun t H3 s3 nt ct => ?_⟩⟩
    have s03 := (s1.trans s2).trans s3
    have hka3 := s03 _ _ hka
    rcases ct with ⟨lq, qs, ht, nlq, hlq, sh⟩ | ⟨lh, lp, ld, ds, ps, tot, es, ht, nlh, nlp, nld, hlh, hlp, hld, pr⟩
    ·refine ⟨_, rfl, t, _, _, _, rfl, rfl, SqT.of ht, rfl, rfl, _, rfl, bX ?_⟩
     refine bX ⟨_, rfl, q ka hs0 H3 s03 (.inl rfl) hka3 ip0 (Int.le_refl _) fun hs' ip' bg => ?_⟩
     exact (bg.short ip'.of (qv qb.nd c sh)).elim
    ·have be := pr.best
     refine ⟨_, rfl, t, _, _, _, rfl, rfl, SqT.of ht, rfl, rfl, _, rfl, ?_⟩
     rw [decide_eq_false (by decide)]
     refine bw ?_
     have hlen := ip0.len
     refine ⟨_, rfl, t, _, _, _, rfl, rfl, SqT.of ht, rfl, _, rfl, _, rfl, b, ka, rs, rows, hs0, rfl, s03 _ _ hb, bl.same s03, r6, qb.nd, SqL.of hka3, by omega, m4 ip0, fun H4 s4 => ⟨_, _, rfl, rfl, _, rfl, vV (fun ge => ?_) fun ge => ?_⟩⟩
     ·exact ⟨_, rfl, q ka hs0 H4 (s03.trans s4) (.inl rfl) (s4 _ _ hka3) ip0 (Int.le_refl _) fun hs' ip' bg => Int.le_trans ge (l5 qb.nd qb.nn bg ip' be)⟩
     ·have s04 := s03.trans s4
      have hpa4 := s04 _ _ hpa
      have deal : Deal ((bE rows p).map aw) ds := by
       obtain ⟨dd', I, _⟩ := pr.inv
       exact I.deal
      have dsl : ds.length = (dd p).length := by rw [deal.len, B4, aH]
      refine ⟨_, rfl, _, p.length, rfl, .inl ⟨_, SqL.of hpa4, by rw [B4]⟩, _, rfl, _, rows.length, rfl, .inl ⟨_, SqL.of (s04 _ _ hb), by rw [B4, rl]⟩, rfl, _, rfl, sg (fun e => ?_) fun ne => ?_⟩
      ·have e : p.length = rows.length := by omega
       refine ⟨_, rfl, pa, rfl, ⟨_, SqL.of hpa4⟩, ?_⟩
       refine cO (xs := p.map V.int) (fun _ => true) (fun j => .int (ds.getD (p.getD j 0).toNat 0)) (SqL.of hpa4) (by rw [B4]; omega) (fun _ _ _ _ _ _ k => k _ (Same.refl _)) (fun j x hx _ H5 R s5 k => ?_) fun acc H5 s5 nacc hacc => ?_
       ·obtain ⟨d, hd, rfl, ed⟩ := fB hx
        obtain ⟨bb, eb, hbb⟩ := c4 c (B8 hd)
        rw [ed] at k
        subst eb
        rw [CG] at k
        exact ⟨_, rfl, t, _, _, _, rfl, rfl, SqT.of (s5 _ _ (s4 _ _ ht)), rfl, _, rfl, lh, _, _, _, rfl, rfl, SqL.of (s5 _ _ (s4 _ _ hlh)), aZ (by omega), k _ (Same.refl _)⟩
       rw [CQ.mpr (fun _ _ => rfl), B4] at hacc
       have e2 : (B9 p.length).map (fun j => V.int (ds.getD (p.getD j 0).toNat 0)) = (p.map fun x => ds.getD x.toNat 0).map V.int := by
        rw [Cu]
        exact u7 fun i x hx => by rw [B5 (l := p), hx]; rfl
       rw [e2] at hacc
       have tot' : bC rows (p.map fun x => ds.getD x.toNat 0) = tot := by
        rw [i6 qb.nd c e deal, pr.tot, fT (by rw [aH]; exact dsl)]
       refine q acc _ H5 (s04.trans s5) (.inr (s04.free nacc)) hacc (mO c (by omega) (l6 qb.nd c deal) (fun x hx => ?_) fun x hx => ?_) (by rw [tot']; omega) fun hs' ip' bg => by rw [tot']; exact l5 qb.nd qb.nn bg ip' be
       ·obtain ⟨y, hy, ey⟩ := Cb.mp hx
        rw [<- ey, e]
        exact (tg y hy).lt
       ·obtain ⟨y, hy, ey⟩ := Cb.mp hx
        rw [<- ey]
        exact nb y hy
      ·have lt : p.length < rows.length := by omega
       refine ⟨_, rfl, pa, p, rfl, hpa4, by omega, fun gl gs H5 s5 ngl hgl hgs gall => ⟨gl, rfl, ⟨_, SqL.of hgl⟩, ?_⟩⟩
       refine bQ (K := K) (a := gl) (xs := gs.map V.ref) (fun i σ Hx => ∃ (k : Addr) (hs : List Int) (x : Option V), σ = [some (.ref pa), some (.ref b), some (.ref ta), some (.ref k), some (.ref t), x] /\ Same H5 Hx /\ (k = ka \/ H k = none) /\ Hx k = some (.lst (hs.map V.int)) /\ IsPlan (bW rows) (ts.map cB) hs /\ bC rows hs <= bC rows hs0 /\ ∀ j : Nat, j < i -> ∀ hs', IsPlan (bW rows) (ts.map cB) hs' -> Beg (p ++ [(j : Int)]) hs' -> bC rows hs <= bC rows hs') ⟨ka, hs0, none, rfl, Same.refl _, .inl rfl, s5 _ _ (s4 _ _ hka3), ip0, Int.le_refl _, fun j hj => absurd hj (Nat.not_lt_zero _)⟩ (fun i σ Hx _ hq__ => by obtain ⟨_, _, _, _, s, _⟩ := hq__; exact SqL.of (s _ _ hgl)) ?_ ?_
       ·rintro i v σ Hx hi ⟨k, hs, x, rfl, sx, nk, hk, ip, le, al⟩
        rw [B7] at hi
        obtain ⟨r, hr', rfl⟩ := Cc.mp hi
        have il : i < (dd p).length + 1 := by rw [<- hgs]; exact (B6.mp hr').1
        have s0x := (s04.trans s5).trans sx
        have cx := eO c (j := i) (by omega)
        refine ⟨_, rfl, _, rfl, _, rfl, _, rfl, r, b, ta, k, p ++ [(i : Int)], rs, rows, U, ts, hs, rfl, sx _ _ (gall i r hr').1, s0x _ _ hb, bl.same s0x, qb, ⟨s0x.seq tt.ls, fun x hx => (tt.ea x hx).same s0x, tt.ln⟩, tg, cx, by simp; omega, by simp; omega, hk, ip, fun k2 hs2 H6 s6 nk2 hk2 ip2 le2 al2 => ?_⟩
        refine ⟨k2, hs2, _, rfl, sx.trans s6, ?_, hk2, ip2, Int.le_trans le2 le, fun j hj hs' ip' bg => ?_⟩
        ·rcases nk2 with rfl | z
         ·exact nk
         ·exact .inr (s0x.free z)
        ·by_cases z : j < i
         ·exact Int.le_trans le2 (al j z hs' ip' bg)
         ·have : j = i := by omega
          subst this
          exact al2 hs' ip' bg
       ·rintro σ Hx ⟨k, hs, x, rfl, sx, nk, hk, ip, le, al⟩
        rw [B4, hgs] at al
        refine ⟨_, rfl, q k hs Hx ((s04.trans s5).trans sx) nk hk ip le fun hs' ip' bg => ?_⟩
        obtain ⟨j, hj, bg2⟩ := bg.next (by rw [ip'.len]; omega)
        exact al j (by omega) hs' ip' bg2
 exact all 7
def fJ (K : PySem.W.Frag) (m : Nat) : Sp := fun vs H Q _ => ∃ (pa b ta : Addr) (bd : Int) (p : List Int) (rs : List Addr) (rows : cH) (U : List Int) (ts : List (Addr × Addr × Str × Int × List Nat)), vs = [.ref pa, .ref b, .ref ta, .int bd] /\ H pa = some (.lst (p.map V.int)) /\ H b = some (.lst (rs.map V.ref)) /\ BillL H rs rows /\ QB rows U /\ Ties K H ta ts 100 /\ (∀ x ∈ ts, TieG rows.length x) /\ bD p /\ p.length <= rows.length /\ rows.length < p.length + m /\ (∀ hs', IsPlan (bW rows) (ts.map cB) hs' -> bd <= bC rows hs') /\
 ∀ t H', Same H H' -> Q (.ref t) H'
def kM (K : PySem.W.Frag) : Sp := fJ K 7
theorem gG : FnScope ["pattern", "bill", "ties", "bound", "broken", "dealt"] ["pattern", "bill", "ties", "bound"] (ar iP) := ⟨rfl, rfl, rfl, by decide +kernel, rfl, by decide +kernel, by decide +kernel⟩
theorem qD (D : Dfs K mg aF dF) (T : Txt mg) : FnOk P w K mg base a9 57 (aF 26) (dF 26) ["pattern", "bill", "ties", "bound"] (kM K) := by
 have Ggrown : FnOk P w K mg base a9 2 (aF 2) (dF 2) ["pattern"] (ia K) := kH D T
 have Gfirst_broken : FnOk P w K mg base a9 3 (aF 4) (dF 4) ["pattern", "ties"] (cv K) := cW D T
 have Gsums : FnOk P w K mg base a9 3 (aF 10) (dF 10) ["pattern", "bill"] (nu K) := rG D T
 have Gcheap : FnOk P w K mg base a9 30 (aF 19) (dF 19) ["pools"] (kL K) := oQ D T
 have all : ∀ n, FnOk P w K mg base a9 (50 + n) (aF 26) (dF 26) ["pattern", "bill", "ties", "bound"] (fJ K n) := by
  intro n
  induction n with
  | zero =>
   have no : ∀ vs H Q E, ¬ fJ K 0 vs H Q E := fun vs H Q E h => by
    obtain ⟨pa, b, ta, bd, p, rs, rows, U, ts, _, _, _, _, _, _, _, _, h1, h2, _⟩ := h
    omega
   exact ⟨fun vs H Q E h => absurd h (no vs H Q E), fun A outer s H args us vs Q E _ _ _ _ h => absurd h (no vs H Q E)⟩
  | succ n Gbearing =>
   refine D.bearing.fn.ok gG (fun vs H Q E h => ?_) (fun cdv A outer s H vs Q E hr h => ?_)
   ·obtain ⟨pa, b, ta, bd, p, rs, rows, U, ts, rfl, _⟩ := h; rfl
   obtain ⟨pa, b, ta, bd, p, rs, rows, U, ts, rfl, hpa, hb, bl, qb, tt, tg, c, hl, hlm, low, q⟩ := h
   have rk : Nat.add 50 n = 50 + n := rfl
   refine ⟨_, (af (ax (i := 4) gG.nd rfl (Or.inl rfl) (pc D.first_broken Gfirst_broken (hr.mono (by have := rk; omega)) (aa (pv 0) (aa (pv 2) ae))))
   (af (aI (az ju (pv 4) dN (aC _))
    (ah (av (aJ (aa aL (aa (pv 4) ae)))))
    aB)
   (af (ax (i := 5) gG.nd rfl (Or.inl rfl) (pc D.cheap Gcheap (hr.mono (by have := rk; omega)) (aa (pc D.sums Gsums (hr.mono (by have := rk; omega)) (aa (pv 0) (aa (pv 1) ae))) ae)))
   (af (aI (az bT (au (cP K) (pv 5) ag (fun _ _ => rfl)) aL (aC _))
    (ah (av (aJ (aa aL (aa (au (cP K) (pv 5) ag (fun _ _ => rfl)) ae)))))
    aB)
   (af (aI (az qI (au (cP K) (pv 5) ag (fun _ _ => rfl)) (pv 3) (aC _))
    (ah (av (aJ (aa aL (aa (au (cP K) (pv 5) ag (fun _ _ => rfl)) (aa (au (cP K) (pv 5) ag (fun _ _ => rfl)) ae))))))
    aB)
   (ah (av (aJ (aa aL (aa (a8 ["longer", "bill", "ties", "bound"] [none, some 1, some 2, some 3] rfl (jy K (pc D.grown Ggrown (hr.mono (by have := rk; omega)) (aa (pv 0) ae))) (fun _ => aq (i := 0) (aU (N := ["longer", "bill", "ties", "bound"]) (by decide +kernel)) rfl (Or.inl rfl)) (fun _ => bx) (fun _ => (pc D.bearing Gbearing hr (aa (pv 0) (aa (pv 1) (aa (pv 2) (aa (pv 3) ae)))))) ((.cons (fun _ e => by cases e) (.cons (fun _ e => by cases e; exact ⟨rfl, rfl⟩) (.cons (fun _ e => by cases e; exact ⟨rfl, rfl⟩) (.cons (fun _ e => by cases e; exact ⟨rfl, rfl⟩) .nil)))))) ae)))))))))), ?_⟩
   have r6 := qb.r6
   have dl := cN p
   have mbl := dv rows
   refine ⟨_, rfl, _, rfl, pa, ta, p, ts, rfl, SqL.of hpa, tt, fun H1 s1 => ?_⟩
   refine ⟨_, rfl, rfl, ?_⟩
   rw [j7]
   cases hf : jk (fun i => p.getD i 0) p.length ts with
   | some j => exact ⟨_, rfl, bX ⟨_, rfl, b5, fun t nt => q t _ (s1.to nt)⟩⟩
   | none =>
    have nb := iG hf
    refine ⟨_, rfl, bw ?_⟩
    refine ⟨_, rfl, _, rfl, pa, b, p, rs, rows, rfl, SqL.of (s1 _ _ hpa), s1 _ _ hb, bl.same s1, c, hl, r6, qb.ok, fun sl ls H2 s2 nsl hsl bls fr2 => ⟨sl, ls, bE rows p, U, rfl, hsl, bls, by rw [aH]; omega, rF qb c, qb.u26, fun t H3 s3 nt ct => ?_⟩⟩
    have s03 := (s1.trans s2).trans s3
    rcases ct with ⟨lq, qs, ht, nlq, hlq, sh⟩ | ⟨lh, lp, ld, ds, ps, tot, es, ht, nlh, nlp, nld, hlh, hlp, hld, pr⟩
    ·refine ⟨_, rfl, t, _, _, _, rfl, rfl, SqT.of ht, rfl, rfl, _, rfl, bX ?_⟩
     exact ⟨_, rfl, t, _, _, _, rfl, rfl, SqT.of ht, rfl, b5, fun t2 nt2 => q t2 _ (s03.to nt2)⟩
    ·refine ⟨_, rfl, t, _, _, _, rfl, rfl, SqT.of ht, rfl, rfl, _, rfl, ?_⟩
     rw [decide_eq_false (by decide)]
     refine bw ?_
     refine ⟨_, rfl, t, _, _, _, rfl, rfl, SqT.of ht, rfl, _, rfl, _, _, rfl, rfl, _, rfl, vV (fun ge => ?_) fun ge => ?_⟩
     ·exact ⟨_, rfl, t, _, _, _, rfl, rfl, SqT.of ht, rfl, _, rfl, t, _, _, _, rfl, rfl, SqT.of ht, rfl, b5, fun t2 nt2 => q t2 _ (s03.to nt2)⟩
     ·have deal : Deal ((bE rows p).map aw) ds := by
       obtain ⟨dd', I, _⟩ := pr.inv
       exact I.deal
      have dsl : ds.length = (dd p).length := by rw [deal.len, B4, aH]
      have lt : p.length < rows.length := by
       refine Decidable.byContradiction fun z => ?_
       have e : p.length = rows.length := by omega
       have tot' : bC rows (p.map fun x => ds.getD x.toNat 0) = tot := by
        rw [i6 qb.nd c e deal, pr.tot, fT (by rw [aH]; exact dsl)]
       have := low _ (mO (ts := ts.map cB) c (by omega) (l6 qb.nd c deal) (fun x hx => by
        obtain ⟨y, hy, ey⟩ := Cb.mp hx
        rw [<- ey, e]
        exact (tg y hy).lt) fun x hx => by
        obtain ⟨y, hy, ey⟩ := Cb.mp hx
        rw [<- ey]
        exact nb y hy)
       rw [tot'] at this
       exact ge this
      refine ⟨_, rfl, pa, p, rfl, s03 _ _ hpa, by omega, fun gl gs H5 s5 ngl hgl hgs gall => ⟨gl, rfl, ⟨_, SqL.of hgl⟩, ?_⟩⟩
      refine sM (xs := gs.map V.ref) (fun _ _ _ => True) (SqL.of hgl) (by rw [B4]; omega) (fun _ _ _ _ _ _ => trivial) (fun _ _ => trivial) (fun acc i x ys H6 R hx s6 nacc hacc yl _ k => ?_) fun acc ys H6 s6 nacc hacc yl _ => ⟨b5, fun t2 nt2 => q t2 _ (((s03.trans s5).trans s6).to nt2)⟩
      rw [B7] at hx
      obtain ⟨r, hr', rfl⟩ := Cc.mp hx
      have il : i < (dd p).length + 1 := by rw [<- hgs]; exact (B6.mp hr').1
      have s0x := (s03.trans s5).trans s6
      exact ⟨_, rfl, _, rfl, _, rfl, _, rfl, r, b, ta, bd, p ++ [(i : Int)], rs, rows, U, ts, rfl, s6 _ _ (gall i r hr').1, s0x _ _ hb, bl.same s0x, qb, ⟨s0x.seq tt.ls, fun x hx => (tt.ea x hx).same s0x, tt.ln⟩, tg, eO c (j := i) (by omega), by simp; omega, by simp; omega, low, fun t2 H7 s7 => k _ H7 s7 trivial⟩
 exact all 7
def Ap (H H' : Hp) (t : Addr) (rows : cH) (ts : List sR) : Prop :=
 (∃ (v : V) (pp : Pap), H' t = some (.tup [.str "none", v]) /\ PapAt (nw H H') v pp /\ Shows (bW rows) ts [] pp) \/
 ∃ (l : Addr) (hs : List Int) (v : V), H' t = some (.tup [.str "plan", .ref l, .int (bC rows hs), v]) /\ H l = none /\ H' l = some (.lst (hs.map V.int)) /\ IsPlan (bW rows) ts hs /\ ∀ hs', IsPlan (bW rows) ts hs' -> bC rows hs <= bC rows hs'
def oS (K : PySem.W.Frag) : Sp := fun vs H Q _ => ∃ (b ta : Addr) (rs : List Addr) (rows : cH) (U : List Int) (ts : List (Addr × Addr × Str × Int × List Nat)), vs = [.ref b, .ref ta] /\ H b = some (.lst (rs.map V.ref)) /\ BillL H rs rows /\ QB rows U /\ Ties K H ta ts 100 /\ (∀ x ∈ ts, TieG rows.length x) /\ ∀ t H', Same H H' -> Ap H H' t rows (ts.map cB) -> Q (.ref t) H'
theorem ie : FnScope ["bill", "ties", "told", "hands", "total"] ["bill", "ties"] (ar nq) := ⟨rfl, rfl, rfl, by decide +kernel, rfl, by decide +kernel, by decide +kernel⟩
theorem vS (D : Dfs K mg aF dF) (T : Txt mg) : FnOk P w K mg base a9 58 (aF 24) (dF 24) ["bill", "ties"] (oS K) := by
 have Gmay_of : FnOk P w K mg base a9 1 (aF 8) (dF 8) ["bill"] (l9 K) := tU D T
 have Gminutes_of : FnOk P w K mg base a9 1 (aF 9) (dF 9) ["bill", "hands"] (dP K) := fZ D T
 have Gplan : FnOk P w K mg base a9 38 (aF 17) (dF 17) ["may", "ties"] (rJ K) := xC D T
 have Gquickest : FnOk P w K mg base a9 57 (aF 25) (dF 25) ["pattern", "bill", "ties", "known"] (i9 K) := oR D T
 have Gbearing : FnOk P w K mg base a9 57 (aF 26) (dF 26) ["pattern", "bill", "ties", "bound"] (kM K) := qD D T
 refine D.quick.fn.ok ie (fun vs H Q E h => ?_) (fun cdv A outer s H vs Q E hr h => ?_)
 ·obtain ⟨b, ta, rs, rows, U, ts, rfl, _⟩ := h; rfl
 ·have hu := aW hr
  obtain ⟨b, ta, rs, rows, U, ts, rfl, hb, bl, qb, tt, tg, q⟩ := h
  refine ⟨_, (af (ax (i := 2) ie.nd rfl (Or.inl rfl) (pc D.plan Gplan (hr.mono (by decide)) (aa (pc D.may_of Gmay_of (hr.mono (by decide)) (aa (pv 0) ae)) (aa (pv 1) ae))))
   (af (aI (az bT (au (cP K) (pv 2) ag (fun _ _ => rfl)) aL (aC _))
    (ah (av (pv 2)))
    aB)
   (af (ax (i := 3) ie.nd rfl (Or.inl rfl) (pc D.quickest Gquickest (hr.mono (by decide)) (aa (aY ae) (aa (pv 0) (aa (pv 1) (aa (au (cP K) (pv 2) ag (fun _ _ => rfl)) ae))))))
   (af (ax (i := 4) ie.nd rfl (Or.inl rfl) (pc D.minutes_of Gminutes_of (hr.mono (by decide)) (aa (pv 0) (aa (pv 3) ae))))
   (ah (av (aJ (aa aL (aa (pv 3) (aa (pv 4) (aa (pc D.bearing Gbearing (hr.mono (by decide)) (aa (aY ae) (aa (pv 0) (aa (pv 1) (aa (pv 4) ae))))) ae))))))))))), ?_⟩
  have r6 := qb.r6
  have mbl := dv rows
  refine ⟨_, rfl, b, rs, rows, rfl, hb, bl, r6, fun row hr => (qb.ok row hr).1, fun l ls H1 s1 nl hl rm fr => ?_⟩
  have tOk : ∀ Hx, Same H Hx -> Ties K Hx ta ts 100 := fun Hx sx => ⟨sx.seq tt.ls, fun x hx => (tt.ea x hx).same sx, tt.ln⟩
  have rm : RowsL H1 ls (bW rows) := rm
  have mup : ∀ p ∈ bW rows, p.Pairwise (· < ·) := fun p hp => by
   obtain ⟨row, hr, rfl⟩ := Cb.mp hp
   exact qb.up row hr
  have msub : ∀ p ∈ bW rows, ∀ z ∈ p, z ∈ U := fun p hp z hz => by
   obtain ⟨row, hr, rfl⟩ := Cb.mp hp
   obtain ⟨x, hx, rfl⟩ := Cb.mp hz
   exact qb.sub row hr x hx
  refine ⟨_, rfl, l, ta, ls, bW rows, U, ts, rfl, ⟨SqL.of hl, rm.pools, mup, msub, by omega, qb.u26⟩, tOk H1 s1, (fun x hx => by rw [mbl]; exact tg x hx), fun t H2 s2 td => ?_⟩
  have s02 := s1.trans s2
  rcases td with ⟨lp, hs0, ht, hlp, nlp, ip0⟩ | ⟨v, pp, ht, pap, sh⟩
  ·refine ⟨_, rfl, t, _, _, _, rfl, rfl, SqT.of ht, rfl, rfl, _, rfl, ?_⟩
   rw [decide_eq_false (by decide)]
   refine bw ⟨b5, fun e0 ne0 => ?_⟩
   have s3 := Same.new (o := .lst []) ne0
   have he0 : ay H2 e0 (.lst []) e0 = some (.lst []) := ab
   generalize ay H2 e0 (.lst []) = H3 at s3 he0
   have s03 := s02.trans s3
   refine ⟨_, rfl, _, rfl, _, rfl, t, _, _, _, rfl, rfl, SqT.of (s3 _ _ ht), rfl, e0, b, ta, lp, [], rs, rows, U, ts, hs0, rfl, he0, s03 _ _ hb, bl.same s03, qb, tOk _ s03, tg, fR, Cz _, by simp; omega, s3 _ _ hlp, ip0, fun k hs H4 s4 nk hk ip le al => ?_⟩
   have s04 := s03.trans s4
   have hlen := ip.len
   refine ⟨_, rfl, _, rfl, b, k, rs, rows, hs, rfl, s04 _ _ hb, bl.same s04, r6, qb.nd, SqL.of hk, by omega, m4 ip, fun H5 s5 => ?_⟩
   have s05 := s04.trans s5
   have low : ∀ hs', IsPlan (bW rows) (ts.map cB) hs' -> bC rows hs <= bC rows hs' := fun hs' ip' => al hs' ip' (Beg.nil hs')
   refine ⟨_, rfl, _, rfl, b5, fun e1 ne1 => ?_⟩
   have s6 := Same.new (o := .lst []) ne1
   have he1 : ay H5 e1 (.lst []) e1 = some (.lst []) := ab
   generalize ay H5 e1 (.lst []) = H6 at s6 he1
   have s06 := s05.trans s6
   refine ⟨_, rfl, _, rfl, _, rfl, e1, b, ta, bC rows hs, [], rs, rows, U, ts, rfl, he1, s06 _ _ hb, bl.same s06, qb, tOk _ s06, tg, fR, Cz _, by simp; omega, low, fun pt H7 s7 => ⟨b5, fun t2 nt2 => ?_⟩⟩
   have s8 := Same.new (o := .tup [.str "plan", .ref k, .int (bC rows hs), .ref pt]) nt2
   have s48 := ((s5.trans s6).trans s7).trans s8
   refine q t2 _ (s04.trans s48) (.inr ⟨k, hs, .ref pt, ab, ?_, s48 _ _ hk, ip, low⟩)
   rcases nk with rfl | z
   ·exact s1.free nlp
   ·exact s03.free z
  ·exact ⟨_, rfl, t, _, _, _, rfl, rfl, SqT.of ht, rfl, rfl, _, rfl, bX ⟨_, rfl, q t H2 s02 (.inl ⟨v, pp, ht, PapAt.same pap (xV (fun a e => s1.free e) fun a o _ e => e), sh⟩)⟩⟩
def ja (K : PySem.W.Frag) : Sp := fun vs H Q _ => ∃ (a : Addr) (ns : List Int) (k : Nat), vs = [.ref a, .int ((k : Nat) : Int)] /\ SqL K H a (ns.map V.int) /\ Q (.int (ns.getD k 0)) H
theorem oT : FnScope ["script", "k"] ["script", "k"] (ar gw) := ⟨rfl, rfl, rfl, by decide +kernel, rfl, by decide +kernel, by decide +kernel⟩
theorem oU (D : Dfs K mg aF dF) (T : Txt mg) : FnOk P w K mg base a9 1 (aF 27) (dF 27) ["script", "k"] (ja K) := by
 refine D.law_cell.fn.ok oT (fun vs H Q E h => ?_) (fun cdv A outer s H vs Q E hr h => ?_)
 ·obtain ⟨a, ns, k, rfl, _⟩ := h; rfl
 ·have hu := aW hr
  obtain ⟨a, ns, k, rfl, hS, q⟩ := h
  refine ⟨_, (af (aI (az gL (pv 1) (ao (bM K) (by rfl) T.z_len boot_len (aa (pv 0) ae)) (aC _))
    (ah (av (au (cS K) (pv 0) (pv 1) (fun _ _ => rfl))))
    aB)
   (ah (av ag))), ?_⟩
  refine ⟨_, rfl, _, rfl, _, _, rfl, .inl ⟨_, hS, rfl⟩, _, _, rfl, rfl, _, rfl, vV (fun h => ?_) fun h => ?_⟩
  ·rw [B4] at h
   exact ⟨_, rfl, _, rfl, a, _, _, _, rfl, rfl, hS, aZ (by omega), q⟩
  ·rw [B4] at h
   have e : ns.getD k 0 = 0 := by rw [B5, CN (by omega)]; rfl
   rw [e] at q
   exact q
def fK (K : PySem.W.Frag) : Sp := fun vs H Q _ => ∃ (a : Addr) (ns : List Int) (sz : Nat), vs = [.ref a, .int ((sz : Nat) : Int)] /\ SqL K H a (ns.map V.int) /\ ns.length <= 200 /\ 0 < sz /\ sz <= 1000 /\ ∀ l (cs : List Int) H', Same H H' -> H l = none -> H' l = some (.lst (cs.map V.int)) -> cs.length = sz -> Q (.ref l) H'
theorem xD (c : Int) : 0 <= c % 2147483647 /\ c % 2147483647 < 2147483647 := ⟨DN c (by decide), DI c (by decide)⟩
theorem bj : FnScope ["script", "size", "mixed", "cell", "found", "k"] ["script", "size"] (ar dO) := ⟨rfl, rfl, rfl, by decide +kernel, rfl, by decide +kernel, by decide +kernel⟩
theorem kN (D : Dfs K mg aF dF) (T : Txt mg) : FnOk P w K mg base a9 1 (aF 28) (dF 28) ["script", "size"] (fK K) := by
 refine D.law_entries.fn.ok bj (fun vs H Q E h => ?_) (fun cdv A outer s H vs Q E hr h => ?_)
 ·obtain ⟨a, ns, sz, rfl, _⟩ := h; rfl
 ·have hu := aW hr
  obtain ⟨a, ns, sz, rfl, hS, hl, sz0, sz1, q⟩ := h
  refine ⟨_, (af (ax (i := 2) bj.nd rfl (Or.inl rfl) ag)
   (af (aX PassesOwn.never rfl (jy K (fq (zW K) (pv 0) jw (fO ag))) (aq (i := 3) bj.nd rfl (Or.inl rfl))
    (ah (ax (i := 2) bj.nd rfl (Or.inl rfl) (aA bR (aA aR (aA gh (pv 2) ag) (pv 3)) ag))))
   (af (ax (i := 4) bj.nd rfl (Or.inl rfl) (aY ae))
   (af (aX PassesOwn.never rfl (aQ rfl T.z_range (aa (pv 1) ae)) (aq (i := 5) bj.nd rfl (Or.inl rfl))
    (af (ax (i := 2) bj.nd rfl (Or.inl rfl) (aA bR (aA aR (aA aR (aA aR (aA gh (pv 2) (pv 2)) (aA gh ag (pv 2))) (pv 5)) ag) ag))
    (ah (bH (dS PySem.F.plainAttrs_list PySem.F.slot_list_append PySem.F.type_list_append bF (pv 4) (aa (pv 2) ae))))))
   (af (aX PassesOwn.never rfl (rO rfl T.z_range (aa ag (aa (ao (bM K) (by rfl) T.z_len boot_len (aa (pv 0) ae)) ae))) (aq (i := 5) bj.nd rfl (Or.inl rfl))
    (ah (jF (au (cS K) (pv 0) (pv 5) (fun _ _ => rfl)) (ph (pv 4) (aA bR (aA jI (pv 5) ag) (pv 1)) gM))))
   (ah (av (pv 4)))))))), ?_⟩
  refine ⟨_, rfl, _, rfl, a, _, rfl, hS, fun c nc => ?_⟩
  have ecut : gj (ns.map V.int) none (some 4) = (ns.take 4).map V.int := by rw [Ej]; exact yK _ 4
  rw [ecut]
  have s1 := Same.new (o := .lst ((ns.take 4).map V.int)) nc
  have hc1 : ay H c (.lst ((ns.take 4).map V.int)) c = some (.lst ((ns.take 4).map V.int)) := ab
  generalize ay H c (.lst ((ns.take 4).map V.int)) = H1 at s1 hc1
  refine ⟨c, rfl, ⟨_, SqL.of hc1⟩, ?_⟩
  refine bQ (K := K) (a := c) (xs := (ns.take 4).map V.int) (fun i σ Hx => ∃ (m : Int) (y : Option V), σ = [some (.ref a), some (.int sz), some (.int m), y, none, none] /\ Same H1 Hx /\ 0 <= m /\ m < 2147483647) ⟨1, none, rfl, Same.refl _, by decide, by decide⟩ (fun i σ Hx _ hq__ => by obtain ⟨_, _, _, s, _⟩ := hq__; exact s.seq (SqL.of hc1)) ?_ ?_
  ·rintro i y σ Hx hi ⟨m, y', rfl, sx, m0, m1⟩
   obtain ⟨d, hd, rfl, ed⟩ := fB hi
   exact ⟨_, rfl, _, _, rfl, rfl, .inl ⟨by omega, by omega⟩, _, rfl, _, _, rfl, rfl, _, _, rfl, rfl, (show (0 : Int) < 2147483647 by decide), _, _, rfl, sx, (xD _).1, (xD _).2⟩
  rintro σ H2 ⟨m, y', rfl, s12, m0, m1⟩
  refine ⟨b5, fun l nl => ?_⟩
  refine ⟨_, rfl, _, rfl, fU _, by omega, ?_⟩
  have e0 : ((sz : Int)).toNat = sz := by omega
  rw [e0]
  have s02 := s1.trans s12
  have nl0 := s02.free nl
  refine bO (n := sz) (fun i σ Hx => ∃ (m : Int) (x : Option V) (cs : List Int), σ = [some (.ref a), some (.int sz), some (.int m), y', some (.ref l), x] /\ Same H Hx /\ Hx l = some (.lst (cs.map V.int)) /\ cs.length = i /\ 0 <= m /\ m < 2147483647) ⟨m, none, [], rfl, s02.to nl, ab, rfl, m0, m1⟩ ?_ ?_
  ·rintro i σ Hx hi ⟨m, x, cs, rfl, sx, hlx, lc, m0, m1⟩
   refine ⟨_, rfl, _, rfl, _, _, rfl, rfl, .inl ⟨by omega, by omega⟩, _, rfl, _, _, rfl, rfl, .inl ⟨by decide, by decide⟩, _, _, rfl, rfl, _, rfl, _, _, rfl, rfl, _, _, rfl, rfl, _, _, rfl, rfl, (show (0 : Int) < 2147483647 by decide), ?_⟩
   refine ⟨_, rfl, .inl ⟨rfl, _, SqL.of hlx⟩, _, rfl, l, _, _, rfl, rfl, hlx, iV (by rw [B4]; omega), ?_⟩
   exact ⟨_, _, cs ++ [_], rfl, sx.put nl0, by rw [ab, Cf]; rfl, by rw [Cd, Cn, lc], (xD _).1, (xD _).2⟩
  rintro σ H3 ⟨m, x, cs, rfl, s3, hl3, lc, _, _⟩
  refine ⟨_, rfl, _, _, rfl, .inl ⟨_, s3.seq hS, rfl⟩, _, _, rfl, ⟨by decide, by decide, by omega, by rw [B4]; omega⟩, ?_⟩
  rw [B4]
  refine bO (n := ((ns.length : Int) - 4).toNat) (fun i σ Hx => ∃ (x : Option V) (cs : List Int), σ = [some (.ref a), some (.int sz), some (.int m), y', some (.ref l), x] /\ Same H Hx /\ Hx l = some (.lst (cs.map V.int)) /\ cs.length = sz) ⟨_, cs, rfl, s3, hl3, lc⟩ ?_ ?_
  ·rintro i σ Hx hi ⟨x, cs, rfl, sx, hlx, lc⟩
   have e1 : (4 : Int) + (i : Int) = ((4 + i : Nat) : Int) := by omega
   obtain ⟨n, hn, en⟩ := xc ((4 : Int) + (i : Int) - 4) sz0
   have hi4 : 4 + i < ns.length := by omega
   refine ⟨_, rfl, _, rfl, a, _, _, _, rfl, rfl, sx.seq hS, (by rw [e1]; exact aZ hi4), _, rfl, _, rfl, _, _, rfl, rfl, _, rfl, _, _, rfl, rfl, (show (0 : Int) < (sz : Int) by omega), l, _, _, n, rfl, rfl, hlx, (by rw [en]; exact kd (by rw [B4]; omega)), ?_⟩
   exact ⟨_, cs.set n _, rfl, sx.put nl0, by rw [ab, List.map_set], by rw [DL, lc]⟩
  rintro σ H4 ⟨x, cs, rfl, s4, hl4, lc⟩
  exact ⟨_, rfl, q l cs H4 s4 nl0 hl4 lc⟩
def cL (K : PySem.W.Frag) : Sp := fun vs H Q _ => ∃ (i : Int), vs = [.int i] /\ Q (.bl true) H
theorem nD : FnScope ["found"] ["found"] (ar fE) := ⟨rfl, rfl, rfl, by decide +kernel, rfl, by decide +kernel, by decide +kernel⟩
theorem cZ (D : Dfs K mg aF dF) (T : Txt mg) : FnOk P w K mg base a9 1 (aF 29) (dF 29) ["found"] (cL K) := by
 refine D.law_whole.fn.ok nD (fun vs H Q E h => ?_) (fun cdv A outer s H vs Q E hr h => ?_)
 ·obtain ⟨i, rfl, _⟩ := h; rfl
 ·have hu := aW hr
  obtain ⟨i, rfl, q⟩ := h
  refine ⟨_, (ah (av (pd (ao (pN K) (by rfl) T.z_isinstance boot_isinstance (aa (pv 0) (aa (yH T.z_int) ae))) (pb (yf (ao (pN K) (by rfl) T.z_isinstance boot_isinstance (aa (pv 0) (aa (wH T.z_bool) ae)))))))), ?_⟩
  exact ⟨_, rfl, _, _, _, true, rfl, .int _, rfl, _, rfl, bX ⟨_, rfl, _, _, _, false, rfl, .int _, rfl, _, rfl, q⟩⟩
def gc (K : PySem.W.Frag) : Sp := fun vs H Q _ => ∃ (a : Addr) (cs : List Int) (gap hi : Int), vs = [.ref a, .int gap, .int hi] /\ SqL K H a (cs.map V.int) /\ cs.length <= 20 /\ 0 < gap /\ gap <= 50000000000000000 /\ ∀ l (bs : List Int) H', Same H H' -> H l = none -> H' l = some (.lst (bs.map V.int)) -> bs.length = cs.length -> bs.Pairwise (· < ·) -> (∀ b ∈ bs, 1 <= b /\ b <= 10 ^ 18) -> Q (.ref l) H'
theorem cj : FnScope ["cells", "gap", "high", "found", "badge", "cell"] ["cells", "gap", "high"] (ar eU) := ⟨rfl, rfl, rfl, by decide +kernel, rfl, by decide +kernel, by decide +kernel⟩
theorem k9 (D : Dfs K mg aF dF) (T : Txt mg) : FnOk P w K mg base a9 1 (aF 30) (dF 30) ["cells", "gap", "high"] (gc K) := by
 refine D.law_badges.fn.ok cj (fun vs H Q E h => ?_) (fun cdv A outer s H vs Q E hr h => ?_)
 ·obtain ⟨a, cs, gap, hi, rfl, _⟩ := h; rfl
 ·have hu := aW hr
  obtain ⟨a, cs, gap, hi, rfl, hS, hl, g0, g1, q⟩ := h
  refine ⟨_, (af (ax (i := 3) cj.nd rfl (Or.inl rfl) (aY ae))
   (af (ax (i := 4) cj.nd rfl (Or.inl rfl) ag)
   (af (aX PassesOwn.never rfl (jy K (pv 0)) (aq (i := 5) cj.nd rfl (Or.inl rfl))
    (af (ax (i := 4) cj.nd rfl (Or.inl rfl) (aA aR (aA aR (pv 4) ag) (aA bR (pv 5) (pv 1))))
    (ah (bH (dS PySem.F.plainAttrs_list PySem.F.slot_list_append PySem.F.type_list_append bF (pv 3) (aa (pv 4) ae))))))
   (af (aI (az bT (pv 2) ag (aC _))
    (ah (av (a8 ["one"] [none] rfl (yX K rfl T.z_reversed (aa (pv 3) ae)) (fun _ => aq (i := 0) (aU (N := ["one"]) (by decide +kernel)) rfl (Or.inl rfl)) (fun _ => bx) (fun _ => (aA jI (aA aR (aA ml ag ag) ag) (pv 0))) ((.cons (fun _ e => by cases e) .nil)))))
    aB)
   (ah (av (pv 3))))))), ?_⟩
  refine ⟨b5, fun l nl => ?_⟩
  refine ⟨_, rfl, a, rfl, ⟨_, (Same.new nl).seq hS⟩, ?_⟩
  refine bQ (K := K) (a := a) (xs := cs.map V.int) (fun i σ Hx => ∃ (b : Int) (y : Option V) (bs : List Int), σ = [some (.ref a), some (.int gap), some (.int hi), some (.ref l), some (.int b), y] /\ Same H Hx /\ Hx l = some (.lst (bs.map V.int)) /\ bs.length = i /\ bs.Pairwise (· < ·) /\ (∀ x ∈ bs, 1 <= x /\ x <= b) /\ 0 <= b /\ b <= (i : Int) * gap) ⟨0, none, [], rfl, Same.new nl, ab, rfl, .nil, (fun _ z => by cases z), Int.le_refl _, by simp⟩ (fun i σ Hx _ hq__ => by obtain ⟨_, _, _, _, s, _⟩ := hq__; exact s.seq hS) ?_ ?_
  ·rintro i y σ Hx hix ⟨b, y', bs, rfl, sx, hlx, lb, up, hb, b0, b1⟩
   obtain ⟨d, hd, rfl, ed⟩ := fB hix
   have w1 := DN d (show gap ≠ 0 by omega)
   have w2 := DI d g0
   have hi' := (B6.mp hd).1
   refine ⟨_, rfl, _, _, rfl, rfl, _, rfl, _, rfl, _, _, rfl, rfl, g0, _, _, rfl, rfl, ?_⟩
   refine ⟨_, rfl, .inl ⟨rfl, _, SqL.of hlx⟩, _, rfl, l, _, _, rfl, rfl, hlx, iV (by rw [B4]; omega), ?_⟩
   have em : ((i + 1 : Nat) : Int) * gap = (i : Int) * gap + gap := by rw [Int.natCast_add, Int.add_mul]; simp
   refine ⟨_, _, bs ++ [b + 1 + d % gap], rfl, sx.put nl, by rw [ab, Cf]; rfl, by rw [Cd, Cn, lb], rg up (fun x hx => by have := hb x hx; omega), fun x hx => ?_, by omega, by omega⟩
   rcases Cw.mp hx with z | z
   ·have := hb x z; omega
   ·rw [Cg.mp z]; omega
  rintro σ H1 ⟨b, y', bs, rfl, s1, hl1, lb, up, hb, b0, b1⟩
  rw [B4] at lb b1
  have b18 : b <= 1000000000000000000 := by
   have h1 : (cs.length : Int) * gap <= 20 * gap := Int.mul_le_mul_of_nonneg_right (by omega) (by omega)
   omega
  refine ⟨_, rfl, rfl, _, rfl, sg (fun e => ?_) fun ne => ?_⟩
  ·refine ⟨_, rfl, l, _, rfl, SqL.of hl1, ?_⟩
   refine vc (fun x => .int (10 ^ 18 + 1 - x)) (SqL.of hl1) (by omega) (fun i x hx H2 R s2 k => ?_) fun acc H2 s2 nacc hacc => ?_
   ·walk_at "go"
    exact k H2 (Same.refl _)
   ·have em : bs.reverse.map (fun x => V.int (10 ^ 18 + 1 - x)) = (bs.reverse.map fun x => (10 ^ 18 + 1 - x : Int)).map V.int := by rw [Cu]; rfl
    rw [em] at hacc
    refine q acc _ H2 (s1.trans s2) (s1.free nacc) hacc (by rw [B4, List.length_reverse, lb]) (yY _ up) fun x hx => ?_
    obtain ⟨z, hz, rfl⟩ := Cb.mp hx
    have := hb z (List.mem_reverse.mp hz)
    omega
  ·refine ⟨_, rfl, q l bs H1 s1 nl hl1 lb up fun x hx => ?_⟩
   have := hb x hx
   omega
def jb (K : PySem.W.Frag) : Sp := fun vs H Q _ => ∃ (a b : Addr) (cs bs : List Int) (dn tp : Int) (cn : Nat), vs = [.ref a, .ref b, .int dn, .int tp, .int ((cn : Nat) : Int)] /\ SqL K H a (cs.map V.int) /\ SqL K H b (bs.map V.int) /\ bs.Pairwise (· < ·) /\ 0 < tp /\ cn <= 6 /\ bs.length <= 20 /\ cn * bs.length <= cs.length /\
 ∀ l rs rows H', Same H H' -> H l = none -> H' l = some (.lst (rs.map V.ref)) -> BillL H' rs rows -> rows.length = cn -> (∀ r ∈ rs, H r = none) -> (∀ row ∈ rows, RowOk bs tp row) -> Q (.ref l) H'
theorem cF : FnScope ["cells", "badges", "dense", "top", "count", "bill", "k", "pairs", "i", "cell"] ["cells", "badges", "dense", "top", "count"] (ar gx) := ⟨rfl, rfl, rfl, by decide +kernel, rfl, by decide +kernel, by decide +kernel⟩
theorem oW (D : Dfs K mg aF dF) (T : Txt mg) : FnOk P w K mg base a9 1 (aF 31) (dF 31) ["cells", "badges", "dense", "top", "count"] (jb K) := by
 refine D.law_bill.fn.ok cF (fun vs H Q E h => ?_) (fun cdv A outer s H vs Q E hr h => ?_)
 ·obtain ⟨a, b, cs, bs, dn, tp, cn, rfl, _⟩ := h; rfl
 ·have hu := aW hr
  obtain ⟨a, b, cs, bs, dn, tp, cn, rfl, hA, hB, up, tp0, c6, b20, cb, q⟩ := h
  refine ⟨_, (af (ax (i := 5) cF.nd rfl (Or.inl rfl) (aY ae))
   (af (aX PassesOwn.never rfl (aQ rfl T.z_range (aa (pv 4) ae)) (aq (i := 6) cF.nd rfl (Or.inl rfl))
    (af (ax (i := 7) cF.nd rfl (Or.inl rfl) (aY ae))
    (af (aX PassesOwn.never rfl (aQ rfl T.z_range (aa (ao (bM K) (by rfl) T.z_len boot_len (aa (pv 1) ae)) ae)) (aq (i := 8) cF.nd rfl (Or.inl rfl))
     (af (ax (i := 9) cF.nd rfl (Or.inl rfl) (au (cS K) (pv 0) (aA aR (aA gh (pv 6) (ao (bM K) (by rfl) T.z_len boot_len (aa (pv 1) ae))) (pv 8)) (fun _ _ => rfl)))
     (ah (aI (az ub (aA bR (pv 9) ag) (pv 2) (aC _))
      (ah (bH (dS PySem.F.plainAttrs_list PySem.F.slot_list_append PySem.F.type_list_append bF (pv 7) (aa (aJ (aa (au (cS K) (pv 1) (pv 8) (fun _ _ => rfl)) (aa (aA bR (aA fN (pv 9) ag) (pv 3)) ae))) ae))))
      aB))))
    (ah (bH (dS PySem.F.plainAttrs_list PySem.F.slot_list_append PySem.F.type_list_append bF (pv 5) (aa (pv 7) ae)))))))
   (ah (av (pv 5))))), ?_⟩
  refine ⟨b5, fun l nl => ?_⟩
  refine ⟨_, rfl, _, rfl, fU _, by omega, ?_⟩
  rw [CG]
  refine bO (n := cn) (fun k σ Hx => ∃ (x1 x2 x3 x4 : Option V) (rs : List Addr) (rows : List (List (Int × Int))), σ = [some (.ref a), some (.ref b), some (.int dn), some (.int tp), some (.int cn), some (.ref l), x1, x2, x3, x4] /\ Same H Hx /\ Hx l = some (.lst (rs.map V.ref)) /\ BillL Hx rs rows /\ rows.length = k /\ (∀ r ∈ rs, H r = none /\ r ≠ l) /\ ∀ row ∈ rows, RowOk bs tp row) ⟨none, none, none, none, [], [], rfl, Same.new nl, ab, .nil, rfl, (fun _ z => by cases z), fun _ z => by cases z⟩ ?_ ?_
  ·rintro k σ Hk hk ⟨x1, x2, x3, x4, rs, rows, rfl, sk, hlk, bk, lr, nr, ok⟩
   refine ⟨b5, fun p np => ?_⟩
   have hlp : l ≠ p := ak hlk np
   have skp := Same.new (o := .lst []) np
   refine ⟨_, rfl, _, _, rfl, .inl ⟨_, (sk.trans skp).seq hB, rfl⟩, _, rfl, fU _, by rw [B4]; omega, ?_⟩
   have e0 : (((bs.map V.int).length : Nat) : Int).toNat = bs.length := by rw [B4]; omega
   rw [e0]
   refine bO (n := bs.length) (fun i σ Hx => ∃ (x3 x4 : Option V) (ps : List Addr) (row : List (Int × Int)), σ = [some (.ref a), some (.ref b), some (.int dn), some (.int tp), some (.int cn), some (.ref l), some (.int (0 + (k : Int))), some (.ref p), x3, x4] /\ Same Hk Hx /\ Hx p = some (.lst (ps.map V.ref)) /\ TupsL Hx ps row /\ (row.map (·.1)).Pairwise (· < ·) /\ (∀ x ∈ row, x.1 ∈ bs.take i /\ 0 <= x.2 /\ x.2 < tp) /\ row.length <= i) ⟨x3, x4, [], [], rfl, skp, ab, .nil, .nil, (fun _ z => by cases z), Cz _⟩ ?_ ?_
   ·rintro i σ Hx hi ⟨x3, x4, ps, row, rfl, sx, hpx, tx, ux, ix, lx⟩
    have s0x := sk.trans sx
    have hki : k * bs.length + i < cs.length := by
     have h1 : k * bs.length + bs.length <= cn * bs.length := by
      have := Nat.mul_le_mul_right bs.length (show k + 1 <= cn from hk)
      rw [Nat.add_mul, Nat.one_mul] at this
      exact this
     omega
    have kb : k * bs.length <= 120 := Nat.mul_le_mul (show k <= 6 by omega) b20
    have ei : ((0 : Int) + (k : Int)) * ((bs.map V.int).length : Int) + (0 + (i : Int)) = ((k * bs.length + i : Nat) : Int) := by rw [B4, Int.natCast_add, Int.natCast_mul, Int.zero_add, Int.zero_add]
    have hbi : bs[i]? = some bs[i] := B3 hi
    refine ⟨_, rfl, _, rfl, _, rfl, _, _, rfl, .inl ⟨_, s0x.seq hB, rfl⟩, _, _, rfl, rfl, .inl ⟨by omega, by omega⟩, _, rfl, _, _, rfl, rfl, a, _, _, _, rfl, rfl, s0x.seq hA, (by rw [ei]; exact aZ hki), ?_⟩
    refine ⟨_, rfl, _, _, rfl, rfl, (show (0 : Int) < 5 by decide), _, rfl, _, _, rfl, rfl, _, rfl, vV (fun le => ?_) fun _ => ?_⟩
    ·refine ⟨_, rfl, .inl ⟨rfl, _, SqL.of hpx⟩, _, rfl, _, rfl, b, _, _, _, rfl, rfl, s0x.seq hB, (by rw [show (0 : Int) + (i : Int) = ((i : Nat) : Int) by omega]; exact aZ hi), _, rfl, _, _, rfl, rfl, (show nQ _ 5 from ⟨by decide, by decide⟩), _, rfl, _, _, rfl, rfl, tp0, b5, fun t nt => ?_⟩
     have hpt : p ≠ t := ak hpx nt
     have stx := Same.new (o := .tup [.int (bs.getD i 0), .int (cs.getD (k * bs.length + i) 0 / 5 % tp)]) nt
     have hpx' := stx _ _ hpx
     refine ⟨p, _, _, rfl, rfl, hpx', iV (by rw [B4, tx.len]; omega), ?_⟩
     have w1 := DN (cs.getD (k * bs.length + i) 0 / 5) (show tp ≠ 0 by omega)
     have w2 := DI (cs.getD (k * bs.length + i) 0 / 5) tp0
     have eg : bs.getD i 0 = bs[i] := by rw [B5, hbi]; rfl
     refine ⟨_, _, ps ++ [t], row ++ [(bs.getD i 0, cs.getD (k * bs.length + i) 0 / 5 % tp)], rfl, (sx.trans stx).put np, by rw [ab, Cf]; rfl, TupsL.but (e9 (tx.same stx) (show cD _ t (bs.getD i 0, cs.getD (k * bs.length + i) 0 / 5 % tp) from ab)) hpx', ?_, ?_, by rw [Cd, Cn]; omega⟩
     ·rw [Cf]
      refine rg ux fun y hy => ?_
      obtain ⟨x, hx, rfl⟩ := Cb.mp hy
      show x.1 < bs.getD i 0
      rw [eg]
      exact xg up hbi _ (ix x hx).1
     ·intro x hx
      rw [Dj, hbi]
      rcases Cw.mp hx with z | z
      ·exact ⟨Cr _ (ix x z).1, (ix x z).2⟩
      ·rw [Cg.mp z]
       exact ⟨CF _ (by rw [eg]; simp), w1, w2⟩
    ·refine ⟨_, _, ps, row, rfl, sx, hpx, tx, ux, fun x hx => ⟨?_, (ix x hx).2⟩, by omega⟩
     rw [Dj]
     exact Cr _ (ix x hx).1
   rintro σ H2 ⟨x3, x4, ps, row, rfl, s2, hp2, t2, u2, i2, l2⟩
   rw [CW] at i2
   have hl2 := s2 _ _ hlk
   refine ⟨_, rfl, .inl ⟨rfl, _, SqL.of hl2⟩, _, rfl, l, _, _, rfl, rfl, hl2, iV (by rw [B4, bk.len]; omega), ?_⟩
   have nrl : l ∉ rs := fun z => (nr l z).2 rfl
   refine ⟨_, _, _, _, rs ++ [p], rows ++ [row], rfl, (sk.trans s2).put nl, by rw [ab, Cf]; rfl, ?_, by rw [Cd, Cn, lr], ?_, ?_⟩
   ·exact e9 ((bk.same s2).but hl2 nrl) (RowAt.but ⟨ps, hp2, t2⟩ hl2 fun z => hlp z.symm)
   ·intro r hr
    rcases Cw.mp hr with z | z
    ·exact nr r z
    ·rw [Cg.mp z]; exact ⟨sk.free np, fun z => hlp z.symm⟩
   ·intro x hx
    rcases Cw.mp hx with z | z
    ·exact ok x z
    ·rw [Cg.mp z]; exact ⟨u2, i2, l2⟩
  rintro σ H2 ⟨x1, x2, x3, x4, rs, rows, rfl, s2, hl2, b2, lr, nr, ok⟩
  exact ⟨_, rfl, q l rs rows H2 s2 nl hl2 b2 lr (fun r hr => (nr r hr).1) ok⟩
theorem xE (c : Int) : ∃ d : Int, lE [V.int 2, V.int 3, V.int 6] (c % 3) = some (.int d) /\ 0 < d /\ d <= 6 := by
 rcases (show c % 3 = 0 \/ c % 3 = 1 \/ c % 3 = 2 by omega) with e | e | e
 ·rw [e]; exact ⟨2, rfl, by decide, by decide⟩
 ·rw [e]; exact ⟨3, rfl, by decide, by decide⟩
 ·rw [e]; exact ⟨6, rfl, by decide, by decide⟩
def jc (K : PySem.W.Frag) : Sp := fun vs H Q _ => ∃ (c : Addr) (cs : List Int) (cn : Nat), vs = [.ref c, .int (cn : Int)] /\ SqL K H c (cs.map V.int) /\ cs.length <= 200 /\ 1 <= cn /\ cn <= 6 /\ ∀ (l : Addr) (ts : List (Addr × Addr × Str × Int × List Nat)) (H' : Hp), Same H H' -> H l = none -> H' l = some (.lst (ts.map fun x => V.ref x.1)) -> (∀ x ∈ ts, TieT H' x /\ TieG cn x) -> ts.length = cs.length / 3 -> Q (.ref l) H'
theorem cR : FnScope ["cells", "count", "ties", "k", "steps"] ["cells", "count"] (ar gy) := ⟨rfl, rfl, rfl, by decide +kernel, rfl, by decide +kernel, by decide +kernel⟩
theorem oX (D : Dfs K mg aF dF) (T : Txt mg) : FnOk P w K mg base a9 1 (aF 32) (dF 32) ["cells", "count"] (jc K) := by
 refine D.law_ties.fn.ok cR (fun vs H Q E h => ?_) (fun cdv A outer s H vs Q E hr h => ?_)
 ·obtain ⟨c, cs, cn, rfl, _⟩ := h; rfl
 ·have hu := aW hr
  obtain ⟨c, cs, cn, rfl, hc, c200, c1, c6, q⟩ := h
  refine ⟨_, (af (ax (i := 2) cR.nd rfl (Or.inl rfl) (aY ae))
   (af (aX PassesOwn.never rfl (qu rfl T.z_range (aa ag (aa (aA jI (ao (bM K) (by rfl) T.z_len boot_len (aa (pv 0) ae)) ag) (aa ag ae)))) (aq (i := 3) cR.nd rfl (Or.inr rfl))
    (af (eK (i₀ := 4) cR.nd rfl (Or.inl rfl) ["step", "cells", "k"] [none, some 0, some 3] rfl (aQ rfl T.z_range (aa (pv 1) ae)) (fun _ => aq (i := 0) (aU (N := ["step", "cells", "k"]) (by decide +kernel)) rfl (Or.inl rfl)) (fun _ => fP (az bT (aA bR (aA yo (au (cS K) (pv 1) (pv 2) (fun _ _ => rfl)) (pv 0)) ag) ag (aC _))) (fun _ => (pv 0)) ((.cons (fun _ e => by cases e) (.cons (fun _ e => by cases e; exact ⟨rfl, rfl⟩) (.cons (fun _ e => by cases e; exact ⟨rfl, rfl⟩) .nil)))))
    (wO (aI (az (BM K hr.units) (pv 4) (aY ae) (aC _))
     (ah (ax (i := 4) cR.nd rfl (Or.inl rfl) (aY (aa (aA bR (au (cS K) (pv 0) (aA aR (pv 3) ag) (fun _ _ => rfl)) (pv 1)) ae))))
     aB)
    (ah (aI (az bT (aA bR (aA fN (au (cS K) (pv 0) (aA aR (pv 3) ag) (fun _ _ => rfl)) ag) ag) ag (aC _))
     (ah (bH (dS PySem.F.plainAttrs_list PySem.F.slot_list_append PySem.F.type_list_append bF (pv 2) (aa (aJ (aa aL (aa (ao (rQ rfl) (by rfl) T.z_min boot_min (aa ag (aa (aA aR ag (aA bR (au (cS K) (pv 0) (aA aR (pv 3) ag) (fun _ _ => rfl)) (aA aR (ao (bM K) (by rfl) T.z_len boot_len (aa (pv 4) ae)) ag))) ae))) (aa (aV fV (by rfl) T.z_tuple boot_tuple (aa (pv 4) ae)) ae)))) ae))))
     (ah (bH (dS PySem.F.plainAttrs_list PySem.F.slot_list_append PySem.F.type_list_append bF (pv 2) (aa (aJ (aa aL (aa (aA aR ag (aA bR (au (cS K) (pv 0) (aA aR (pv 3) ag) (fun _ _ => rfl)) (au (cS K) (aY (aa ag (aa ag (aa ag ae)))) (aA bR (aA fN (au (cS K) (pv 0) (aA aR (pv 3) ag) (fun _ _ => rfl)) ag) ag) (fun _ _ => rfl)))) (aa (aV fV (by rfl) T.z_tuple boot_tuple (aa (pv 4) ae)) ae)))) ae)))))))))
   (ah (av (pv 2))))), ?_⟩
  refine ⟨b5, fun l nl => ?_⟩
  have sn := Same.new (o := .lst []) nl
  refine ⟨_, rfl, _, cs.length, rfl, .inl ⟨_, sn.seq hc, by rw [B4]⟩, _, _, rfl, rfl, 0, (cs.length : Int) - 2, 3, rfl, by decide, by decide, by omega, by omega, by decide, by decide, ?_⟩
  obtain ⟨n, en, hn⟩ : ∃ n : Nat, (if (0 : Int) < (cs.length : Int) - 2 then ((cs.length : Int) - 2 - 0 - 1) / 3 + 1 else 0).toNat = n /\ n = cs.length / 3 := ⟨_, rfl, by split <;> omega⟩
  rw [en]
  refine uN (n := n) (fun i σ Hx => ∃ (x y : Option V) (ts : List (Addr × Addr × Str × Int × List Nat)), σ = [some (.ref c), some (.int (cn : Int)), some (.ref l), x, y] /\ Same H Hx /\ Hx l = some (.lst (ts.map fun x => V.ref x.1)) /\ (∀ x ∈ ts, TieT Hx x /\ TieG cn x) /\ ts.length = i) ⟨none, none, [], rfl, sn, ab, (fun _ z => by cases z), rfl⟩ ?_ ?_
  ·rintro i σ Hx hi ⟨x, y, ts, rfl, sx, hl, tt, tl⟩
   have i3 : 3 * i + 2 < cs.length := by omega
   have ek : (0 : Int) + (i : Int) * 3 = ((3 * i : Nat) : Int) := by omega
   rw [ek]
   have a0 : lE (cs.map V.int) ((3 * i : Nat) : Int) = some (.int (cs.getD (3 * i) 0)) := aZ (by omega)
   have a1 : lE (cs.map V.int) (((3 * i : Nat) : Int) + 1) = some (.int (cs.getD (3 * i + 1) 0)) := aZ (j := 3 * i + 1) (by omega)
   have a2 : lE (cs.map V.int) (((3 * i : Nat) : Int) + 2) = some (.int (cs.getD (3 * i + 2) 0)) := aZ (j := 3 * i + 2) i3
   generalize cs.getD (3 * i) 0 = d0 at a0
   generalize cs.getD (3 * i + 1) 0 = d1 at a1
   generalize cs.getD (3 * i + 2) 0 = d2 at a2
   refine ⟨_, rfl, _, rfl, fU _, by omega, ?_⟩
   rw [CG]
   refine iE (n := cn) (fun j => decide (d0 / 2 ^ j % 2 = 1)) (by omega) (fun j hj H3 R s3 k => ?_) (fun j hj H3 R k => ?_) fun sl H3 s3 nsl hsl => ?_
   ·have ei : (0 : Int) + (j : Int) = ((j : Nat) : Int) := by omega
    rw [ei]
    have kk : ∀ H4, Same H3 H4 -> R (decide (d0 / 2 ^ j % 2 = 1)) H4 := k
    refine ⟨_, rfl, _, rfl, c, _, _, _, rfl, rfl, (sx.trans s3).seq hc, a0, _, rfl, _, _, rfl, rfl, (show (0 : Int) <= (j : Int) by omega), _, _, rfl, rfl, (show (0 : Int) < 2 by decide), rfl, _, rfl, ?_⟩
    have z := kk H3 (Same.refl _)
    rw [<- Bk] at z
    exact z
   ·have ei : (0 : Int) + (j : Int) = ((j : Nat) : Int) := by omega
    rw [ei]
    exact ⟨_, rfl, k⟩
   have hst : ∀ j ∈ ((B9 cn).filter fun j => decide (d0 / 2 ^ j % 2 = 1)), j < cn := fun j hj => CB.mp (CD.mp hj).1
   have hup : ((B9 cn).filter fun j => decide (d0 / 2 ^ j % 2 = 1)).Pairwise (· < ·) := List.Pairwise.filter _ List.pairwise_lt_range
   have hle : ((B9 cn).filter fun j => decide (d0 / 2 ^ j % 2 = 1)).length <= 6 := CJ (CM _ _) (by rw [CH]; exact c6)
   generalize (B9 cn).filter (fun j => decide (d0 / 2 ^ j % 2 = 1)) = st at hsl hst hup hle
   refine ⟨fun σ H5 => ∃ (sl' : Addr) (st : List Nat), σ = [some (.ref c), some (.int (cn : Int)), some (.ref l), some (.int ((3 * i : Nat) : Int)), some (.ref sl')] /\ Same Hx H5 /\ H5 sl' = some (.lst (st.map fun (i : Nat) => V.int (i : Int))) /\ st ≠ [] /\ (∀ i ∈ st, i < cn) /\ st.Pairwise (· < ·) /\ st.length <= 6, ?_, ?_⟩
   ·refine ⟨_, rfl, b5, fun p np => ?_⟩
    have s4 := Same.new (o := .lst []) np
    have s04 := s3.trans s4
    cases hs : st with
    | nil =>
     rw [hs] at hsl
     refine ⟨1, true, qM (SqL.of (s4 _ _ hsl)) (SqL.of ab), by decide, rfl, _, rfl, bX ?_⟩
     obtain ⟨m, hm, em⟩ := xc d1 (n := cn) (by omega)
     refine ⟨_, rfl, _, rfl, _, _, rfl, rfl, c, _, _, _, rfl, rfl, (sx.trans s04).seq hc, a1, _, rfl, _, _, rfl, rfl, (show (0 : Int) < ((cn : Nat) : Int) by omega), b5, fun l2 nl2 => ?_⟩
     refine ⟨l2, [m], rfl, s04.to nl2, ?_, by simp, fun i hi => by rw [Cg.mp hi]; exact hm, Dy _ _, by simp⟩
     rw [ab]
     dsimp only
     rw [em]
     rfl
    | cons j r =>
     rw [hs] at hsl
     refine ⟨1, false, qM (SqL.of (s4 _ _ hsl)) (SqL.of ab), by decide, rfl, _, rfl, bw ?_⟩
     rw [hs] at hst hup hle
     exact ⟨sl, j :: r, rfl, s04, s4 _ _ hsl, by simp, hst, hup, hle⟩
   ·rintro σ H5 ⟨sl', st, rfl, s5, hsl, sne, slt, sup, sle⟩
    have s05 := sx.trans s5
    have hl5 := s5 _ _ hl
    have tt5 : ∀ x ∈ ts, TieT H5 x /\ TieG cn x := fun x hx => ⟨(tt x hx).1.same s5, (tt x hx).2⟩
    have fin : ∀ (wd : Str) (k : Int) (t tp : Addr) (H6 : Hp), (wd = "most" \/ wd = "least") -> 1 <= k -> k <= 6 -> Same H5 H6 -> H6 t = none -> ay H6 t (.tup (st.map fun (i : Nat) => V.int (i : Int))) tp = none -> ∀ H7, H7 = ay (ay H6 t (.tup (st.map fun (i : Nat) => V.int (i : Int)))) tp (.tup [.str wd, .int k, .ref t]) ->
      Same H5 H7 /\ TieT H7 (tp, t, wd, k, st) /\ TieG cn (tp, t, wd, k, st) := fun wd k t tp H6 hw k1 k6 s6 nt ntp H7 e7 => by
     have ntt : t ≠ tp := fun z => by rw [<- z, ab] at ntp; cases ntp
     subst e7
     exact ⟨(s6.to nt).to ntp, ⟨ab, by show ay _ tp _ t = _; rw [aj ntt]; exact ab, hw, sle⟩, ⟨k1, k6, sne, slt, sup⟩⟩
    have put : ∀ (z : Addr × Addr × Str × Int × List Nat) (H7 : Hp), Same H5 H7 -> TieT H7 z -> TieG cn z -> ∃ (x y : Option V) (ts' : List (Addr × Addr × Str × Int × List Nat)), [some (V.ref c), some (.int (cn : Int)), some (.ref l), some (.int ((3 * i : Nat) : Int)), some (.ref sl')] = [some (.ref c), some (.int (cn : Int)), some (.ref l), x, y] /\ Same H (ay H7 l (.lst (ts.map (fun x => V.ref x.1) ++ [V.ref z.1]))) /\ ay H7 l (.lst (ts.map (fun x => V.ref x.1) ++ [V.ref z.1])) l = some (.lst (ts'.map fun x => V.ref x.1)) /\ (∀ x ∈ ts', TieT (ay H7 l (.lst (ts.map (fun x => V.ref x.1) ++ [V.ref z.1]))) x /\ TieG cn x) /\ ts'.length = i + 1 := fun z H7 s7 tz gz =>
     ⟨_, _, ts ++ [z], rfl, (s05.trans s7).put nl, by rw [ab, Cf]; rfl, fun x hx => by
      have h7 := s7 _ _ hl5
      rcases Cw.mp hx with y | y
      ·exact ⟨((tt5 x y).1.same s7).put h7, (tt5 x y).2⟩
      ·rw [Cg.mp y]; exact ⟨tz.put h7, gz⟩, by rw [Cd, Cn, tl]⟩
    have tl100 : ts.length < 100000 := by omega
    refine ⟨_, rfl, _, rfl, _, _, rfl, rfl, c, _, _, _, rfl, rfl, s05.seq hc, a1, _, _, rfl, rfl, (show nQ _ 6 from ⟨by decide, by decide⟩), _, _, rfl, rfl, (show (0 : Int) < 2 by decide), rfl, _, rfl, sg (fun _ => ?_) fun _ => ?_⟩
    ·have k0 := DN d2 (show (st.length : Int) + 1 ≠ 0 by omega)
     refine ⟨_, rfl, .inl ⟨rfl, _, SqL.of hl5⟩, _, rfl, _, rfl, _, _, rfl, rfl, c, _, _, _, rfl, rfl, s05.seq hc, a2, _, rfl, _, st.length, rfl, .inl ⟨_, SqL.of hsl, by rw [B4]⟩, _, _, rfl, rfl, _, _, rfl, rfl, (show (0 : Int) < (st.length : Int) + 1 by omega), _, _, rfl, rfl, _, _, rfl, _, rfl, sl', _, rfl, .inl ⟨SqL.of hsl, fun t nt => ⟨b5, fun tp ntp => ?_⟩⟩⟩
     obtain ⟨s7, tz, gz⟩ := fin "least" (if 1 + d2 % ((st.length : Int) + 1) < 6 then 1 + d2 % ((st.length : Int) + 1) else 6) t tp H5 (.inr rfl) (by split <;> omega) (by split <;> omega) (Same.refl _) nt ntp _ rfl
     have h7 := s7 _ _ hl5
     exact ⟨l, _, _, rfl, rfl, h7, iV (by rw [B4]; exact tl100), put _ _ s7 tz gz⟩
    ·obtain ⟨dm, hdm, m0, m6⟩ := xE (d2 / 6)
     have k1 := DN d2 (show dm ≠ 0 by omega)
     have k2 := DI d2 m0
     refine ⟨_, rfl, .inl ⟨rfl, _, SqL.of hl5⟩, _, rfl, _, rfl, _, _, rfl, rfl, c, _, _, _, rfl, rfl, s05.seq hc, a2, b5, fun pa npa => ?_⟩
     have s6 := Same.new (o := .lst [V.int 2, V.int 3, V.int 6]) npa
     refine ⟨_, rfl, _, rfl, _, _, rfl, rfl, c, _, _, _, rfl, rfl, (s05.trans s6).seq hc, a2, _, _, rfl, rfl, (show nQ _ 6 from ⟨by decide, by decide⟩), _, _, rfl, rfl, (show (0 : Int) < 3 by decide), pa, _, _, _, rfl, rfl, SqL.of ab, hdm, _, _, rfl, rfl, m0, _, _, rfl, rfl, _, rfl, sl', _, rfl, .inl ⟨SqL.of (s6 _ _ hsl), fun t nt => ⟨b5, fun tp ntp => ?_⟩⟩⟩
     obtain ⟨s7, tz, gz⟩ := fin "most" _ t tp _ (.inl rfl) (show (1 : Int) <= 1 + d2 % dm by omega) (by omega) s6 nt ntp _ rfl
     have h7 := s7 _ _ hl5
     exact ⟨l, _, _, rfl, rfl, h7, iV (by rw [B4]; exact tl100), put _ _ s7 tz gz⟩
  ·rintro σ Hx ⟨x, y, ts, rfl, sx, hl, tt, tl⟩
   exact ⟨_, rfl, q l ts Hx sx nl hl tt (by omega)⟩
def jd (K : PySem.W.Frag) : Sp := fun vs H Q _ => ∃ (a sa ta : Addr) (ns : List Int) (sz : List (Int × Int)) (tl : List Int), vs = [.ref a, .ref sa, .ref ta] /\ SqL K H a (ns.map V.int) /\ ns.length <= 63 /\ RowAt H sa sz /\ 0 < sz.length /\ (∀ x ∈ sz, 1 <= x.1 /\ x.1 <= 6 /\ 1 <= x.2 /\ x.2 <= 20) /\ SqL K H ta (tl.map V.int) /\ 0 < tl.length /\ (∀ x ∈ tl, 0 < x) /\
 ∀ (t l y : Addr) (rs : List Addr) (rows : cH) (bs : List Int) (ts : List (Addr × Addr × Str × Int × List Nat)) (tp : Int) (H' : Hp), Same H H' -> H t = none -> H' t = some (.tup [.ref l, .ref y]) -> H l = none -> H' l = some (.lst (rs.map V.ref)) -> BillL H' rs rows -> (∀ r ∈ rs, H r = none) -> (∃ x ∈ sz, (rows.length : Int) = x.1 /\ (bs.length : Int) = x.2) -> BillOk rows bs -> (∀ row ∈ rows, RowOk bs tp row) -> tp ∈ tl -> H y = none -> H' y = some (.lst (ts.map fun x => V.ref x.1)) -> (∀ x ∈ ts, TieT H' x /\ TieG rows.length x) -> ts.length <= 12 -> Q (.ref t) H'
theorem bp : FnScope ["script", "sizes", "tops", "head", "count", "many", "bonds", "here", "cells", "gap", "badges", "dense", "top"] ["script", "sizes", "tops"] (ar gA) := ⟨rfl, rfl, rfl, by decide +kernel, rfl, by decide +kernel, by decide +kernel⟩
theorem oY (D : Dfs K mg aF dF) (T : Txt mg) : FnOk P w K mg base a9 2 (aF 33) (dF 33) ["script", "sizes", "tops"] (jd K) := by
 have Glaw_cell : FnOk P w K mg base a9 1 (aF 27) (dF 27) ["script", "k"] (ja K) := oU D T
 have Glaw_entries : FnOk P w K mg base a9 1 (aF 28) (dF 28) ["script", "size"] (fK K) := kN D T
 have Glaw_badges : FnOk P w K mg base a9 1 (aF 30) (dF 30) ["cells", "gap", "high"] (gc K) := k9 D T
 have Glaw_bill : FnOk P w K mg base a9 1 (aF 31) (dF 31) ["cells", "badges", "dense", "top", "count"] (jb K) := oW D T
 have Glaw_ties : FnOk P w K mg base a9 1 (aF 32) (dF 32) ["cells", "count"] (jc K) := oX D T
 refine D.law_case.fn.ok bp (fun vs H Q E h => ?_) (fun cdv A outer s H vs Q E hr h => ?_)
 ·obtain ⟨a, sa, ta, ns, sz, tl, rfl, _⟩ := h; rfl
 ·have hu := aW hr
  obtain ⟨a, sa, ta, ns, sz, tl, rfl, hS, hl, hsz, szp, szo, htl, tlp, tlo, q⟩ := h
  refine ⟨_, (af (eK (i₀ := 3) bp.nd rfl (Or.inl rfl) ["k", "script"] [none, some 0] rfl (aQ rfl T.z_range (aa ag ae)) (fun _ => aq (i := 0) (aU (N := ["k", "script"]) (by decide +kernel)) rfl (Or.inl rfl)) (fun _ => bx) (fun _ => (pc D.law_cell Glaw_cell (hr.mono (by decide)) (aa (pv 1) (aa (pv 0) ae)))) ((.cons (fun _ e => by cases e) (.cons (fun _ e => by cases e; exact ⟨rfl, rfl⟩) .nil))))
   (af (jF (au (cS K) (pv 1) (aA bR (au (cS K) (pv 3) ag (fun _ _ => rfl)) (ao (bM K) (by rfl) T.z_len boot_len (aa (pv 1) ae))) (fun _ _ => rfl)) (wL K rfl (a7 (aq (i := 4) bp.nd rfl (Or.inl rfl)) (a7 (aq (i := 5) bp.nd rfl (Or.inl rfl)) cX))))
   (af (ax (i := 6) bp.nd rfl (Or.inl rfl) (au (cS K) (aY (aa ag (aa ag (aa ag (aa ag (aa ag (aa ag (aa ag (aa ag ae))))))))) (aA bR (au (cS K) (pv 3) ag (fun _ _ => rfl)) ag) (fun _ _ => rfl)))
   (af (ax (i := 7) bp.nd rfl (Or.inl rfl) (aA gh (pv 4) (pv 5)))
   (af (ax (i := 8) bp.nd rfl (Or.inl rfl) (pc D.law_entries Glaw_entries (hr.mono (by decide)) (aa (pv 0) (aa (aA aR (aA aR (pv 7) (pv 5)) (aA gh ag (pv 6))) ae))))
   (af (ax (i := 9) bp.nd rfl (Or.inl rfl) (au (cS K) (aY (aa ag (aa ag (aa ag (aa (aA gh ag (aA ml ag ag)) ae))))) (aA bR (au (cS K) (pv 3) ag (fun _ _ => rfl)) ag) (fun _ _ => rfl)))
   (af (ax (i := 10) bp.nd rfl (Or.inl rfl) (pc D.law_badges Glaw_badges (hr.mono (by decide)) (aa (fq (zW K) (pv 8) (fO (pv 7)) (fO (aA aR (pv 7) (pv 5)))) (aa (pv 9) (aa (aA bR (aA fN (au (cS K) (pv 3) ag (fun _ _ => rfl)) ag) ag) ae)))))
   (af (ax (i := 11) bp.nd rfl (Or.inl rfl) (au (cS K) (aY (aa ag (aa ag (aa ag (aa ag (aa ag ae)))))) (aA bR (aA fN (au (cS K) (pv 3) ag (fun _ _ => rfl)) ag) ag) (fun _ _ => rfl)))
   (af (ax (i := 12) bp.nd rfl (Or.inl rfl) (au (cS K) (pv 2) (aA bR (aA fN (au (cS K) (pv 3) ag (fun _ _ => rfl)) ag) (ao (bM K) (by rfl) T.z_len boot_len (aa (pv 2) ae))) (fun _ _ => rfl)))
   (ah (av (aJ (aa (pc D.law_bill Glaw_bill (hr.mono (by decide)) (aa (pv 8) (aa (pv 10) (aa (pv 11) (aa (pv 12) (aa (pv 4) ae)))))) (aa (pc D.law_ties Glaw_ties (hr.mono (by decide)) (aa (fq (zW K) (pv 8) (fO (aA aR (pv 7) (pv 5))) jw) (aa (pv 4) ae))) ae)))))))))))))), ?_⟩
  refine ⟨_, rfl, by decide, by decide, ?_⟩
  refine pM (n := 4) (fun k => .int (ns.getD k 0)) (by decide) (fun i hi H2 R s2 k => ?_) fun hd H1 s1 nhd hhd => ?_
  ·have ei : (0 : Int) + (i : Int) = ((i : Nat) : Int) := by omega
   rw [ei]
   exact ⟨_, rfl, _, rfl, a, ns, i, rfl, s2.seq hS, k H2 (Same.refl _)⟩
  have hg : ∀ j : Nat, j < 4 -> lE ((B9 4).map fun k => V.int (ns.getD k 0)) (j : Int) = some (.int (ns.getD j 0)) := fun j hj => aK (by simp [hj])
  have g0 : lE ((B9 4).map fun k => V.int (ns.getD k 0)) 0 = some (.int (ns.getD 0 0)) := hg 0 (by decide)
  have g1 : lE ((B9 4).map fun k => V.int (ns.getD k 0)) 1 = some (.int (ns.getD 1 0)) := hg 1 (by decide)
  have g2 : lE ((B9 4).map fun k => V.int (ns.getD k 0)) 2 = some (.int (ns.getD 2 0)) := hg 2 (by decide)
  generalize (B9 4).map (fun k => V.int (ns.getD k 0)) = hL at hhd g0 g1 g2
  generalize ns.getD 0 0 = d0 at g0
  generalize ns.getD 1 0 = d1 at g1
  generalize ns.getD 2 0 = d2 at g2
  clear hg
  obtain ⟨ss, hss, tss⟩ := hsz.same s1
  have ssl : ss.length = sz.length := tss.len
  obtain ⟨im, him, eim⟩ := xc d0 szp
  obtain ⟨sp, hsp⟩ : ∃ sp, ss[im]? = some sp := ⟨_, B3 (by omega)⟩
  obtain ⟨z, hz, ez⟩ := cu tss hsp
  have zm := B8 hz
  obtain ⟨z1, z2, z3, z4⟩ := szo z zm
  have hat : lE (ss.map V.ref) (d0 % (sz.length : Int)) = some (.ref sp) := by
   rw [eim]
   exact aK (by rw [B7, hsp]; rfl)
  refine ⟨_, rfl, _, rfl, hd, _, _, _, rfl, rfl, SqL.of hhd, g0, _, rfl, _, sz.length, rfl, .inl ⟨_, SqL.of hss, by rw [B4, ssl]⟩, _, _, rfl, rfl, (show (0 : Int) < (sz.length : Int) by omega), sa, _, _, _, rfl, rfl, SqL.of hss, hat, sp, _, rfl, SqT.of ez, rfl, _, _, rfl, _, _, rfl, rfl, ?_⟩
  obtain ⟨cn, ec⟩ : ∃ cn : Nat, z.1 = (cn : Int) := ⟨z.1.toNat, by omega⟩
  obtain ⟨mn, em⟩ : ∃ mn : Nat, z.2 = (mn : Int) := ⟨z.2.toNat, by omega⟩
  rw [ec, em]
  have c1 : 1 <= cn := by omega
  have c6 : cn <= 6 := by omega
  have m20 : mn <= 20 := by omega
  refine ⟨b5, fun p np => ?_⟩
  obtain ⟨bd, hbd, bm⟩ := g4 [0, 1, 2, 3, 1, 2, 4, 12] d1 (n := 8) rfl (by decide)
  have sp1 := Same.new (o := .lst [.int 0, .int 1, .int 2, .int 3, .int 1, .int 2, .int 4, .int 12]) np
  have s01 := s1.trans sp1
  have hhd1 := sp1 _ _ hhd
  refine ⟨_, rfl, hd, _, _, _, rfl, rfl, SqL.of hhd1, g1, _, _, rfl, rfl, (show (0 : Int) < 8 by decide), p, _, _, _, rfl, rfl, SqL.of ab, hbd, ?_⟩
  generalize ay H1 p (.lst [.int 0, .int 1, .int 2, .int 3, .int 1, .int 2, .int 4, .int 12]) = H2 at s01 hhd1
  obtain ⟨bn, eb, b12⟩ : ∃ bn : Nat, bd = (bn : Int) /\ bn <= 12 := by
   simp only [Cm, CP, or_false] at bm
   exact ⟨bd.toNat, by omega, by omega⟩
  subst eb
  refine ⟨_, rfl, _, rfl, _, _, rfl, rfl, .inl ⟨by omega, by omega⟩, ?_⟩
  have h120 : cn * mn <= 120 := Nat.mul_le_mul c6 m20
  have eh : (cn : Int) * (mn : Int) = ((cn * mn : Nat) : Int) := (Int.natCast_mul ..).symm
  dsimp only
  rw [eh]
  have ecm : cn * mn <= cn * mn := Ca _
  generalize hrE : cn * mn = hr' at h120 ecm
  refine ⟨_, rfl, _, rfl, _, rfl, _, _, rfl, rfl, _, rfl, _, _, rfl, rfl, (show CMul 3 _ from .inl ⟨by decide, by decide⟩), _, _, rfl, rfl, a, ns, hr' + mn + 3 * bn, (by show [V.ref a, V.int ((hr' : Int) + mn + 3 * bn)] = _; rw [show ((hr' + mn + 3 * bn : Nat) : Int) = (hr' : Int) + mn + 3 * bn by omega]), s01.seq hS, by omega, by omega, by omega, fun cl cs H3 s3 ncl hcl lcs => ?_⟩
  have s03 := s01.trans s3
  have hhd3 := s3 _ _ hhd1
  walk_at "go"
  refine ⟨b5, fun p2 np2 => ?_⟩
  obtain ⟨gp, hgp, gm⟩ := g4 [1, 3, 40, 5 * 10 ^ 16] d2 (n := 4) rfl (by decide)
  have sp2 := Same.new (o := .lst [.int 1, .int 3, .int 40, .int (5 * 10 ^ 16)]) np2
  have hhd4 := sp2 _ _ hhd3
  refine ⟨_, rfl, hd, _, _, _, rfl, rfl, SqL.of hhd4, g2, _, _, rfl, rfl, (show (0 : Int) < 4 by decide), p2, _, _, _, rfl, rfl, SqL.of ab, hgp, ?_⟩
  clear sp2 hhd4
  generalize hE4 : ay H3 p2 _ = H4
  have sp2 : Same H3 H4 := hE4 ▸ Same.new np2
  have hhd4 := sp2 _ _ hhd3
  have hcl4 := sp2 _ _ hcl
  have s04 := s03.trans sp2
  have gpb : 0 < gp /\ gp <= 50000000000000000 := by
   simp only [Cm, CP, or_false] at gm
   omega
  refine ⟨_, rfl, _, rfl, _, rfl, _, rfl, _, rfl, _, _, rfl, rfl, _, rfl, cl, _, rfl, SqL.of hcl4, fun c5 nc5 => ?_⟩
  have ecut : gj (cs.map V.int) (some (hr' : Int)) (some ((hr' : Int) + (mn : Int))) = ((cs.drop hr').take mn).map V.int := by
   rw [show (hr' : Int) + (mn : Int) = ((hr' + mn : Nat) : Int) by omega, wM, Nat.add_sub_cancel_left, Ej, List.map_drop]
  rw [ecut]
  have lcut : ((cs.drop hr').take mn).length = mn := by rw [CO, Dr]; omega
  have sp5 := Same.new (o := .lst (((cs.drop hr').take mn).map V.int)) nc5
  have hhd5 := sp5 _ _ hhd4
  have hcl5 := sp5 _ _ hcl4
  have s05 := s04.trans sp5
  have hc5 : ay H4 c5 (.lst (((cs.drop hr').take mn).map V.int)) c5 = some (.lst (((cs.drop hr').take mn).map V.int)) := ab
  generalize ay H4 c5 (.lst (((cs.drop hr').take mn).map V.int)) = H5 at hhd5 hcl5 s05 hc5
  generalize (cs.drop hr').take mn = cs' at lcut hc5
  refine ⟨_, rfl, _, rfl, hd, _, _, _, rfl, rfl, SqL.of hhd5, g2, _, _, rfl, rfl, (show nQ _ 4 from ⟨by decide, by decide⟩), _, _, rfl, rfl, (show (0 : Int) < 2 by decide), c5, cs', gp, _, rfl, SqL.of hc5, by omega, gpb.1, gpb.2, fun bdg bs H6 s6 nbd hbd6 lbs up b18 => ?_⟩
  rw [lcut] at lbs
  have s06 := s05.trans s6
  have hhd6 := s6 _ _ hhd5
  have hcl6 := s6 _ _ hcl5
  refine ⟨b5, fun p7 np7 => ?_⟩
  obtain ⟨dn, hdn, _⟩ := g4 [3, 4, 1, 2, 4] (d2 / 8) (n := 5) rfl (by decide)
  have sp7 := Same.new (o := .lst [.int 3, .int 4, .int 1, .int 2, .int 4]) np7
  have hhd7 := sp7 _ _ hhd6
  have hcl7 := sp7 _ _ hcl6
  have hbd7 := sp7 _ _ hbd6
  have s07 := s06.trans sp7
  refine ⟨_, rfl, hd, _, _, _, rfl, rfl, SqL.of hhd7, g2, _, _, rfl, rfl, (show nQ _ 8 from ⟨by decide, by decide⟩), _, _, rfl, rfl, (show (0 : Int) < 5 by decide), p7, _, _, _, rfl, rfl, SqL.of ab, hdn, ?_⟩
  generalize ay H6 p7 (.lst [.int 3, .int 4, .int 1, .int 2, .int 4]) = H7 at hhd7 hcl7 hbd7 s07
  obtain ⟨tp, htp, tm⟩ := g4 tl (d1 / 8) (n := tl.length) rfl tlp
  refine ⟨_, rfl, _, rfl, hd, _, _, _, rfl, rfl, SqL.of hhd7, g1, _, _, rfl, rfl, (show nQ _ 8 from ⟨by decide, by decide⟩), _, rfl, _, tl.length, rfl, .inl ⟨_, s07.seq htl, by rw [B4]⟩, _, _, rfl, rfl, (show (0 : Int) < (tl.length : Int) by omega), ta, _, _, _, rfl, rfl, s07.seq htl, htp, ?_⟩
  have lcs' : cn * bs.length <= cs.length := by rw [lbs, hrE]; omega
  refine ⟨_, rfl, _, rfl, _, rfl, _, rfl, _, rfl, cl, bdg, cs, bs, dn, tp, cn, rfl, SqL.of hcl7, SqL.of hbd7, up, tlo tp tm, c6, by omega, lcs', fun l rs rows H8 s8 nl hl8 bl8 lr nr ok => ?_⟩
  have hcl8 := s8 _ _ hcl7
  have s08 := s07.trans s8
  refine ⟨_, rfl, _, rfl, _, rfl, _, _, rfl, rfl, _, rfl, cl, _, rfl, SqL.of hcl8, fun c9 nc9 => ?_⟩
  have ecut9 : gj (cs.map V.int) (some ((hr' : Int) + (mn : Int))) none = (cs.drop (hr' + mn)).map V.int := by
   rw [show (hr' : Int) + (mn : Int) = ((hr' + mn : Nat) : Int) by omega, jS, List.map_drop]
  rw [ecut9]
  have lcut9 : (cs.drop (hr' + mn)).length = 3 * bn := by rw [Dr]; omega
  have s9 := Same.new (o := .lst ((cs.drop (hr' + mn)).map V.int)) nc9
  have hc9 : ay H8 c9 (.lst ((cs.drop (hr' + mn)).map V.int)) c9 = some (.lst ((cs.drop (hr' + mn)).map V.int)) := ab
  generalize ay H8 c9 (.lst ((cs.drop (hr' + mn)).map V.int)) = H9 at s9 hc9
  refine ⟨_, rfl, c9, cs.drop (hr' + mn), cn, rfl, SqL.of hc9, by omega, c1, c6, fun y ts H10 s10 ny hy tt tl3 => ⟨b5, fun t nt => ?_⟩⟩
  have s1011 := Same.new (o := .tup [.ref l, .ref y]) nt
  have s811 := (s9.trans s10).trans s1011
  refine q t l y rs rows bs ts tp _ (s08.trans s811) ((s08.trans (s9.trans s10)).free nt) ab (s07.free nl) (s811 _ _ hl8) (bl8.same s811) (fun r hr => s07.free (nr r hr)) ⟨z, zm, by rw [ec, lr], by rw [em, lbs]⟩ ⟨fun row hr => (ok row hr).up, fun row hr x hx => ((ok row hr).inn x hx).1, fun row hr => (ok row hr).len, up, fun b hb => (b18 b hb).1⟩ ok tm ((s08.trans s9).free ny) (s1011 _ _ hy) (fun x hx => ⟨(tt x hx).1.same s1011, by rw [lr]; exact (tt x hx).2⟩) (by omega)
def fL (K : PySem.W.Frag) : Sp := fun vs H Q _ => ∃ (a : Addr) (ps : List Int), vs = [.ref a] /\ SqL K H a (ps.map V.int) /\ ps.length <= 6 /\ ∀ H', Same H H' -> Q (.int (((dd ps).length : Nat) : Int)) H'
theorem oZ : FnScope ["pattern"] ["pattern"] (ar gB) := ⟨rfl, rfl, rfl, by decide +kernel, rfl, by decide +kernel, by decide +kernel⟩
theorem je (D : Dfs K mg aF dF) (T : Txt mg) : FnOk P w K mg base a9 1 (aF 34) (dF 34) ["pattern"] (fL K) := by
 refine D.law_wide.fn.ok oZ (fun vs H Q E h => ?_) (fun cdv A outer s H vs Q E hr h => ?_)
 ·obtain ⟨a, ps, rfl, _⟩ := h; rfl
 ·have hu := aW hr
  obtain ⟨a, ps, rfl, ha, h6, q⟩ := h
  refine ⟨_, (ah (av (ao (qV w) (by rfl) T.z_len boot_len (aa (aV (sF w K) (by rfl) T.z_set PyProof.Rows.boot_set (aa (pv 0) ae)) ae)))), ?_⟩
  exact ⟨_, rfl, a, ps, rfl, ha, by omega, fun S nS => ⟨S, _, rfl, ab, q _ (Same.new nS)⟩⟩
def jf (K : PySem.W.Frag) : Sp := fun vs H Q _ => ∃ (b : Nat) (pa ba : Addr) (p : List Int) (rs : List Addr) (rows : List (List (Int × Int))), vs = [.int ((b : Nat) : Int), .ref pa, .ref ba] /\ SqL K H pa (p.map V.int) /\ H ba = some (.lst (rs.map V.ref)) /\ BillL H rs rows /\ bD p /\ b < (dd p).length /\ p.length <= rows.length /\ rows.length <= 6 /\ (∀ row ∈ rows, row.length <= 20 /\ (aw row).Nodup) /\
 ∀ l H', Same H H' -> H l = none -> H' l = some (.lst ((eQ rows (bV p b)).map V.int)) -> Q (.ref l) H'
theorem o4 {rows : List (List (Int × Int))} {n : Nat} (h : ∀ row ∈ rows, row.length <= n) : ∀ st, (eQ rows st).length <= n := by
 intro st
 by_cases z : st = []
 ·rw [z]; exact Cz _
 ·refine g7 (P := fun st => (eQ rows st).length <= n) (fun s => ?_) (fun st s hne ih => by rw [eA hne]; exact CJ (CM _ _) ih) st z
  show (aw (rows.getD s [])).length <= n
  unfold aw
  rw [B4, B5]
  cases e : rows[s]? with
  | none => exact Cz _
  | some row => exact h row (B8 e)
theorem Aq {l : List Int} {g : Int -> Bool} : (((B9 l.length).filter fun j => g (l.getD j 0)).map fun j => V.int (l.getD j 0)) = (l.filter g).map V.int := xX (d := 0) (F := V.int)
theorem cG : FnScope ["block", "pattern", "bill", "found", "k", "here"] ["block", "pattern", "bill"] (ar gC) := ⟨rfl, rfl, rfl, by decide +kernel, rfl, by decide +kernel, by decide +kernel⟩
theorem o5 (D : Dfs K mg aF dF) (T : Txt mg) : FnOk P w K mg base a9 1 (aF 35) (dF 35) ["block", "pattern", "bill"] (jf K) := by
 refine D.law_pool.fn.ok cG (fun vs H Q E h => ?_) (fun cdv A outer s H vs Q E hr h => ?_)
 ·obtain ⟨b, pa, ba, p, rs, rows, rfl, _⟩ := h; rfl
 ·have hu := aW hr
  obtain ⟨b, pa, ba, p, rs, rows, rfl, hp, hba, bl, c, hb, hl, r6, ok, q⟩ := h
  refine ⟨_, (af (ax (i := 3) cG.nd rfl (Or.inl rfl) dN)
   (af (aX PassesOwn.never rfl (aQ rfl T.z_range (aa (ao (bM K) (by rfl) T.z_len boot_len (aa (pv 1) ae)) ae)) (aq (i := 4) cG.nd rfl (Or.inl rfl))
    (ah (aI (az bT (au (cS K) (pv 1) (pv 4) (fun _ _ => rfl)) (pv 0) (aC _))
     (af (ax (i := 5) cG.nd rfl (Or.inr rfl) (a8 ["pair"] [none] rfl (jy K (au (cS K) (pv 2) (pv 4) (fun _ _ => rfl))) (fun _ => aq (i := 0) (aU (N := ["pair"]) (by decide +kernel)) rfl (Or.inl rfl)) (fun _ => bx) (fun _ => (au (cP K) (pv 0) ag (fun _ _ => rfl))) ((.cons (fun _ e => by cases e) .nil))))
     (ah (aI (az uc (pv 3) dN (aC _))
      (ah (ax (i := 3) cG.nd rfl (Or.inl rfl) (pv 5)))
      (ah (eK (i₀ := 3) cG.nd rfl (Or.inl rfl) ["badge", "here"] [none, some 5] rfl (jy K (pv 3)) (fun _ => aq (i := 0) (aU (N := ["badge", "here"]) (by decide +kernel)) rfl (Or.inl rfl)) (fun _ => fP (az (BL K) (pv 0) (pv 1) (by with_unfolding_all rfl))) (fun _ => (pv 0)) ((.cons (fun _ e => by cases e) (.cons (fun _ e => by cases e; exact ⟨rfl, rfl⟩) .nil))))))))
     aB)))
   (ah (av (pv 3))))), ?_⟩
  refine ⟨_, rfl, _, _, rfl, .inl ⟨_, hp, rfl⟩, _, rfl, fU _, by rw [B4]; omega, ?_⟩
  have e0 : (((p.map V.int).length : Nat) : Int).toNat = p.length := by rw [B4]; omega
  rw [e0]
  refine bO (n := p.length) (fun i σ Hx => ∃ (v : V) (x y : Option V), σ = [some (.int ((b : Nat) : Int)), some (.ref pa), some (.ref ba), some v, x, y] /\ Same H Hx /\ ((k4 p (b : Int) i = [] /\ v = .non) \/ (k4 p (b : Int) i ≠ [] /\ ∃ l, v = .ref l /\ H l = none /\ Hx l = some (.lst ((eQ rows (k4 p (b : Int) i)).map V.int)))))
   ⟨.non, none, none, rfl, Same.refl _, .inl ⟨rfl, rfl⟩⟩ ?_ ?_
  ·rintro i σ Hx hi ⟨v, x, y, rfl, sx, hv⟩
   have ei : (0 : Int) + (i : Int) = ((i : Nat) : Int) := by omega
   rw [ei]
   have bs := sX p (b : Int) i
   refine ⟨_, rfl, _, rfl, pa, _, _, _, rfl, rfl, sx.seq hp, aZ hi, _, rfl, rfl, _, rfl, sg (fun e => ?_) fun ne => ?_⟩
   ·rw [if_pos e] at bs
    have hrw : rows[i]? = some (rows.getD i []) := by rw [B5, B3 (by omega)]; rfl
    have oki := ok _ (B8 hrw)
    obtain ⟨r, er, ps, hps, tps⟩ := (bl.same sx).at hrw
    generalize hRow : rows.getD i [] = row at hrw oki tps
    have ptl := tps.len
    refine ⟨_, rfl, _, rfl, ba, _, _, _, rfl, rfl, SqL.of (sx _ _ hba), aK (by rw [B7, er]; rfl), r, rfl, ⟨_, SqL.of hps⟩, ?_⟩
    refine cO (xs := ps.map V.ref) (fun _ => true) (fun j => .int (row.getD j (0, 0)).1) (SqL.of hps) (by rw [B4]; omega) (fun _ _ _ _ _ _ k => k _ (Same.refl _)) (fun j x hx _ H2 R s2 k => ?_) fun nw H2 s2 nnw hnw => ?_
    ·rw [B7] at hx
     obtain ⟨t, et, rfl⟩ := Cc.mp hx
     obtain ⟨x, ex, tx⟩ := cu tps et
     rw [B5, ex] at k
     exact ⟨_, rfl, t, _, _, _, rfl, rfl, SqT.of (s2 _ _ tx), rfl, k H2 (Same.refl _)⟩
    rw [CQ.mpr (fun _ _ => rfl), B4, ptl, jB (g := fun x => V.int x.1) fun i x hx => by rw [B5, hx]; rfl] at hnw
    have hnw : H2 nw = some (.lst ((aw row).map V.int)) := by rw [hnw]; unfold aw; rw [Cu]; rfl
    have s02 := sx.trans s2
    rcases hv with ⟨h1, rfl⟩ | ⟨h1, l, rfl, nl, hl1⟩
    ·refine ⟨_, rfl, rfl, _, rfl, vV (fun _ => ⟨_, rfl, .ref nw, _, _, rfl, s02, .inr ⟨by rw [bs]; simp, nw, rfl, sx.free nnw, ?_⟩⟩) fun z => absurd rfl z⟩
     rw [bs, h1]
     show H2 nw = some (.lst ((aw (rows.getD i [])).map V.int))
     rw [hRow]
     exact hnw
    ·refine ⟨_, rfl, rfl, _, rfl, vV (fun z => by cases z) fun _ => ?_⟩
     have hl2 := s2 _ _ hl1
     refine ⟨_, rfl, l, rfl, ⟨_, SqL.of hl2⟩, ?_⟩
     have kl := o4 (fun row h => (ok row h).1) (k4 p (b : Int) i)
     generalize hks : eQ rows (k4 p (b : Int) i) = ks at hl2 kl
     refine cO (xs := ks.map V.int) (fun j => decide (ks.getD j 0 ∈ aw row)) (fun j => .int (ks.getD j 0)) (SqL.of hl2) (by rw [B4]; omega) (fun j x hx H3 R s3 k => ?_) (fun j x hx _ H3 R s3 k => ?_) fun nf H3 s3 nnf hnf => ?_
     ·obtain ⟨d, hd, rfl, ed⟩ := fB hx
      rw [ed] at k
      refine ⟨_, rfl, _, rfl, nw, _, rfl, .inl (SqL.of (s3 _ _ hnw)), rfl, gQ _, _, rfl, ?_⟩
      rw [if_neg Cj, jz]
      exact k H3 (Same.refl _)
     ·obtain ⟨d, hd, rfl, ed⟩ := fB hx
      rw [ed] at k
      exact ⟨_, rfl, k H3 (Same.refl _)⟩
     ·rw [B4, Aq (g := fun b => decide (b ∈ aw row))] at hnf
      refine ⟨.ref nf, _, _, rfl, s02.trans s3, .inr ⟨by rw [bs]; simp, nf, rfl, s02.free nnf, ?_⟩⟩
      rw [bs, eA h1, hks, hRow]
      exact hnf
   ·rw [if_neg ne] at bs
    rw [<- bs] at hv
    exact ⟨v, _, _, rfl, sx, hv⟩
  ·rintro σ Hx ⟨v, x, y, rfl, sx, hv⟩
   rw [vf] at hv
   rcases hv with ⟨h1, _⟩ | ⟨h1, l, rfl, nl, hl1⟩
   ·exact absurd h1 (cm c hb)
   ·exact ⟨_, rfl, q l Hx sx nl hl1⟩
def gf (K : PySem.W.Frag) : Sp := iQ K
theorem ck : FnScope ["pattern", "tie", "met", "ahead", "step"] ["pattern", "tie"] (ar eV) := ⟨rfl, rfl, rfl, by decide +kernel, rfl, by decide +kernel, by decide +kernel⟩
theorem lg (D : Dfs K mg aF dF) (T : Txt mg) : FnOk P w K mg base a9 1 (aF 36) (dF 36) ["pattern", "tie"] (gf K) := by
 refine D.law_breaks.fn.ok ck (fun vs H Q E h => ?_) (fun cdv A outer s H vs Q E hr h => ?_)
 ·obtain ⟨a, tp, t, hs, st, wd, k, rfl, _⟩ := h; rfl
 ·have hu := aW hr
  obtain ⟨a, tp, t, hs, st, wd, k, rfl, ha, htp, ht, hwd, h6, q⟩ := h
  refine ⟨_, (af (ax (i := 2) ck.nd rfl (Or.inl rfl) (aY ae))
   (af (ax (i := 3) ck.nd rfl (Or.inl rfl) ag)
   (af (aX PassesOwn.never rfl (A9 K (au (cP K) (pv 1) ag (fun _ _ => rfl))) (aq (i := 4) ck.nd rfl (Or.inl rfl))
    (ah (aI (az qI (pv 4) (ao (bM K) (by rfl) T.z_len boot_len (aa (pv 0) ae)) (aC _))
     (ah (ax (i := 3) ck.nd rfl (Or.inl rfl) (aA aR (pv 3) ag)))
     (ah (aI (az (wJ K) (au (cS K) (pv 0) (pv 4) (fun _ _ => rfl)) (pv 2) (by with_unfolding_all rfl))
      (ah (bH (dS PySem.F.plainAttrs_list PySem.F.slot_list_append PySem.F.type_list_append bF (pv 2) (aa (au (cS K) (pv 0) (pv 4) (fun _ _ => rfl)) ae))))
      aB)))))
   (af (aI (az bT (au (cP K) (pv 1) ag (fun _ _ => rfl)) aL (aC _))
    (ah (av (cY xJ (ao (bM K) (by rfl) T.z_len boot_len (aa (pv 2) ae)) (au (cP K) (pv 1) ag (fun _ _ => rfl)) (aC _))))
    aB)
   (ah (av (cY gL (aA aR (ao (bM K) (by rfl) T.z_len boot_len (aa (pv 2) ae)) (pv 3)) (au (cP K) (pv 1) ag (fun _ _ => rfl)) (aC _)))))))), ?_⟩
  refine ⟨b5, fun m nm => ?_⟩
  have s1 := Same.new (o := .lst []) nm
  refine ⟨_, rfl, tp, _, _, _, rfl, rfl, Same.seqT s1 htp, rfl, t, rfl, ⟨_, Same.seqT s1 ht⟩, ?_⟩
  refine qE (K := K) (a := t) (xs := st.map fun (i : Nat) => V.int (i : Int)) (fun i σ Hx => ∃ (x : Option V), σ = [some (.ref a), some (.ref tp), some (.ref m), some (.int (((i - ((st.take i).filter fun j => decide (j < hs.length)).length : Nat)) : Int)), x] /\ Same H Hx /\ Hx m = some (.lst ((dd (((st.take i).filter fun j => decide (j < hs.length)).map fun i => hs.getD i 0)).map V.int)) /\ ((st.take i).filter fun j => decide (j < hs.length)).length <= i) ⟨none, rfl, s1, ab, Ca _⟩ (fun i σ Hx _ hq__ => by obtain ⟨_, _, s, _⟩ := hq__; exact Same.seqT s ht) ?_ ?_
  ·rintro i v σ Hx hi ⟨x, rfl, sx, hm, fl⟩
   obtain ⟨d, hd, rfl, ed⟩ := eN hi
   have il := (B6.mp hd).1
   have dl := cN (((st.take i).filter fun j => decide (j < hs.length)).map fun i => hs.getD i 0)
   rw [B4] at dl
   rw [c8 hd, CT]
   refine ⟨_, rfl, _, rfl, _, hs.length, rfl, .inl ⟨_, sx.seq ha, by rw [B4]⟩, _, _, rfl, rfl, _, rfl, vV (fun ge => ?_) fun ge => ?_⟩
   ·have e5 : [d].filter (fun j => decide (j < hs.length)) = [] := by
     rw [Da, if_neg (by rw [decide_eq_false (by omega)]; exact Cj), Ep]
    rw [e5, Dh]
    refine ⟨_, rfl, _, _, rfl, rfl, ?_⟩
    refine ⟨some (.int (d : Int)), ?_, sx, hm, by omega⟩
    rw [show (((i + 1 - ((st.take i).filter fun j => decide (j < hs.length)).length : Nat)) : Int) = (((i - ((st.take i).filter fun j => decide (j < hs.length)).length : Nat)) : Int) + 1 by omega]
    rfl
   ·have hdl : d < hs.length := by omega
    have e5 : [d].filter (fun j => decide (j < hs.length)) = [d] := by
     rw [Da, if_pos (decide_eq_true hdl), Ep]
    rw [e5, Cf, Cd, Cn]
    have e6 : dd (((st.take i).filter fun j => decide (j < hs.length)).map (fun i => hs.getD i 0) ++ [d].map fun i => hs.getD i 0) = b9 (dd (((st.take i).filter fun j => decide (j < hs.length)).map fun i => hs.getD i 0)) (hs.getD d 0) := eL _ _
    rw [e6]
    have e7 : i + 1 - (((st.take i).filter fun j => decide (j < hs.length)).length + 1) = i - ((st.take i).filter fun j => decide (j < hs.length)).length := by omega
    rw [e7]
    generalize ((st.take i).filter fun j => decide (j < hs.length)).length = n at fl dl
    generalize dd (((st.take i).filter fun j => decide (j < hs.length)).map fun i => hs.getD i 0) = ms at hm dl
    refine ⟨_, rfl, _, rfl, a, _, _, _, rfl, rfl, sx.seq ha, aZ hdl, _, rfl, m, _, rfl, .inl (SqL.of hm), rfl, gQ _, ?_⟩
    rw [if_pos rfl, jz]
    unfold b9
    refine ⟨_, rfl, ?_⟩
    by_cases z : hs.getD d 0 ∈ ms
    ·rw [decide_eq_true z, if_pos z]
     exact bw ⟨_, rfl, sx, hm, by omega⟩
    ·rw [decide_eq_false z, if_neg z]
     refine bX ⟨_, rfl, .inl ⟨rfl, _, SqL.of hm⟩, _, rfl, _, rfl, a, _, _, _, rfl, rfl, sx.seq ha, aZ hdl, m, _, _, rfl, rfl, hm, iV (by rw [B4]; omega), ?_⟩
     exact ⟨_, rfl, sx.put nm, by rw [ab, Cf]; rfl, by omega⟩
  ·rintro σ Hx ⟨x, rfl, sx, hm, fl⟩
   rw [B4, CW] at hm fl
   rw [B4, CW]
   have q3 := q Hx sx
   refine ⟨_, rfl, tp, _, _, _, rfl, rfl, Same.seqT sx htp, rfl, rfl, _, rfl, ?_⟩
   unfold brk at q3
   rcases hwd with e | e <;> subst e
   ·refine bX ?_
    rw [if_pos rfl] at q3
    exact ⟨_, rfl, _, gI (fun i => hs.getD i 0) (st.filter fun i => decide (i < hs.length)), rfl, .inl ⟨_, SqL.of hm, by rw [B4]; rfl⟩, _, rfl, tp, _, _, _, rfl, rfl, Same.seqT sx htp, rfl, _, _, rfl, rfl, q3⟩
   ·rw [decide_eq_false (by decide)]
    refine bw ?_
    rw [if_neg (by decide)] at q3
    refine ⟨_, rfl, _, gI (fun i => hs.getD i 0) (st.filter fun i => decide (i < hs.length)), rfl, .inl ⟨_, SqL.of hm, by rw [B4]; rfl⟩, _, rfl, _, _, rfl, rfl, _, rfl, tp, _, _, _, rfl, rfl, Same.seqT sx htp, rfl, _, _, rfl, rfl, ?_⟩
    dsimp only
    rw [show (((gI (fun i => hs.getD i 0) (st.filter fun i => decide (i < hs.length)) : Nat)) : Int) + (((st.length - (st.filter fun j => decide (j < hs.length)).length : Nat)) : Int) = (((gI (fun i => hs.getD i 0) (st.filter fun i => decide (i < hs.length)) : Nat)) : Int) + (st.length : Int) - ((st.filter fun i => decide (i < hs.length)).length : Int) by omega]
    exact q3
def ig (K : PySem.W.Frag) : Sp := fun vs H Q _ => ∃ (a : Addr) (hs : List Int) (x : Addr × Addr × Str × Int × List Nat), vs = [.ref a, .ref x.1] /\ SqL K H a (hs.map V.int) /\ TieT H x /\ (∀ i ∈ x.2.2.2.2, i < hs.length) /\ ∀ H', Same H H' -> Q (.bl (By hs x)) H'
theorem eZ : FnScope ["hands", "tie", "met", "step"] ["hands", "tie"] (ar fF) := ⟨rfl, rfl, rfl, by decide +kernel, rfl, by decide +kernel, by decide +kernel⟩
theorem nE (D : Dfs K mg aF dF) (T : Txt mg) : FnOk P w K mg base a9 1 (aF 37) (dF 37) ["hands", "tie"] (ig K) := by
 refine D.law_keeps.fn.ok eZ (fun vs H Q E h => ?_) (fun cdv A outer s H vs Q E hr h => ?_)
 ·obtain ⟨a, hs, x, rfl, _⟩ := h; rfl
 ·have hu := aW hr
  obtain ⟨a, hs, x, rfl, ha, te, hlt, q⟩ := h
  refine ⟨_, (af (ax (i := 2) eZ.nd rfl (Or.inl rfl) (aY ae))
   (af (aX PassesOwn.never rfl (A9 K (au (cP K) (pv 1) ag (fun _ _ => rfl))) (aq (i := 3) eZ.nd rfl (Or.inl rfl))
    (ah (aI (az (wJ K) (au (cS K) (pv 0) (pv 3) (fun _ _ => rfl)) (pv 2) (by with_unfolding_all rfl))
     (ah (bH (dS PySem.F.plainAttrs_list PySem.F.slot_list_append PySem.F.type_list_append bF (pv 2) (aa (au (cS K) (pv 0) (pv 3) (fun _ _ => rfl)) ae))))
     aB)))
   (af (aI (az bT (au (cP K) (pv 1) ag (fun _ _ => rfl)) aL (aC _))
    (ah (av (cY ub (ao (bM K) (by rfl) T.z_len boot_len (aa (pv 2) ae)) (au (cP K) (pv 1) ag (fun _ _ => rfl)) (aC _))))
    aB)
   (ah (av (cY qI (ao (bM K) (by rfl) T.z_len boot_len (aa (pv 2) ae)) (au (cP K) (pv 1) ag (fun _ _ => rfl)) (aC _))))))), ?_⟩
  obtain ⟨tp, t, wd, k, st⟩ := x
  have htp := te.tp
  have ht := te.ts
  have hwd := te.wd
  have h6 := te.sl
  dsimp only at htp ht hwd hlt h6 q
  refine ⟨b5, fun m nm => ?_⟩
  have s1 := Same.new (o := .lst []) nm
  refine ⟨_, rfl, tp, _, _, _, rfl, rfl, SqT.of (s1 _ _ htp), rfl, t, rfl, ⟨_, SqT.of (s1 _ _ ht)⟩, ?_⟩
  refine qE (K := K) (a := t) (xs := st.map fun (i : Nat) => V.int (i : Int)) (fun i σ Hx => ∃ (x : Option V), σ = [some (.ref a), some (.ref tp), some (.ref m), x] /\ Same H Hx /\ Hx m = some (.lst ((dd ((st.take i).map fun i => hs.getD i 0)).map V.int))) ⟨none, rfl, s1, ab⟩ (fun i σ Hx _ hq__ => by obtain ⟨_, _, s, _⟩ := hq__; exact SqT.of (s _ _ ht)) ?_ ?_
  ·rintro i v σ Hx hi ⟨x, rfl, sx, hm⟩
   obtain ⟨d, hd, rfl, ed⟩ := eN hi
   have hdl := hlt d (B8 hd)
   have il := (B6.mp hd).1
   have es : dd ((st.take (i + 1)).map fun i => hs.getD i 0) = b9 (dd ((st.take i).map fun i => hs.getD i 0)) (hs.getD d 0) := by
    rw [c8 hd, Cf]
    exact eL _ _
   have dl := cN ((st.take i).map fun i => hs.getD i 0)
   rw [B4, CO] at dl
   rw [es]
   generalize dd ((st.take i).map fun i => hs.getD i 0) = ms at hm dl
   refine ⟨_, rfl, _, rfl, a, _, _, _, rfl, rfl, sx.seq ha, aZ hdl, _, rfl, m, _, rfl, .inl (SqL.of hm), rfl, gQ _, ?_⟩
   rw [if_pos rfl, jz]
   unfold b9
   refine ⟨_, rfl, ?_⟩
   by_cases z : hs.getD d 0 ∈ ms
   ·rw [decide_eq_true z, if_pos z]
    exact bw ⟨_, rfl, sx, hm⟩
   ·rw [decide_eq_false z, if_neg z]
    refine bX ⟨_, rfl, .inl ⟨rfl, _, SqL.of hm⟩, _, rfl, _, rfl, a, _, _, _, rfl, rfl, sx.seq ha, aZ hdl, m, _, _, rfl, rfl, hm, iV (by rw [B4]; omega), ?_⟩
    exact ⟨_, rfl, sx.put nm, by rw [ab, Cf]; rfl⟩
  ·rintro σ Hx ⟨x, rfl, sx, hm⟩
   rw [B4, CW] at hm
   have q3 : Q (.bl (kp (fun i => hs.getD i 0) wd k st)) Hx := q Hx sx
   refine ⟨_, rfl, tp, _, _, _, rfl, rfl, SqT.of (sx _ _ htp), rfl, rfl, _, rfl, ?_⟩
   unfold kp at q3
   rcases hwd with e | e <;> subst e
   ·refine bX ?_
    rw [if_pos rfl] at q3
    exact ⟨_, rfl, _, gI (fun i => hs.getD i 0) st, rfl, .inl ⟨_, SqL.of hm, by rw [B4]; rfl⟩, _, rfl, tp, _, _, _, rfl, rfl, SqT.of (sx _ _ htp), rfl, _, _, rfl, rfl, q3⟩
   ·rw [decide_eq_false (by decide)]
    refine bw ?_
    rw [if_neg (by decide)] at q3
    exact ⟨_, rfl, _, gI (fun i => hs.getD i 0) st, rfl, .inl ⟨_, SqL.of hm, by rw [B4]; rfl⟩, _, rfl, tp, _, _, _, rfl, rfl, SqT.of (sx _ _ htp), rfl, _, _, rfl, rfl, q3⟩
def jg (K : PySem.W.Frag) : Sp := fun vs H Q _ => ∃ (ha b ta : Addr) (rs : List Addr) (rows : cH) (ts : List (Addr × Addr × Str × Int × List Nat)) (hs : List Int), vs = [.ref ha, .ref b, .ref ta] /\ H ha = some (.lst (hs.map V.int)) /\ SqL K H b (rs.map V.ref) /\ BillL H rs rows /\ rows.length <= 6 /\ (∀ row ∈ rows, row.length <= 20) /\ Ties K H ta ts 100 /\ (∀ x ∈ ts, TieG rows.length x) /\ IsPlan (bW rows) (ts.map cB) hs /\ ∀ H', Same H H' -> Q (.bl true) H'
theorem fM : FnScope ["hands", "bill", "ties", "k", "tie"] ["hands", "bill", "ties"] (ar gD) := ⟨rfl, rfl, rfl, by decide +kernel, rfl, by decide +kernel, by decide +kernel⟩
theorem o6 (D : Dfs K mg aF dF) (T : Txt mg) : FnOk P w K mg base a9 2 (aF 38) (dF 38) ["hands", "bill", "ties"] (jg K) := by
 have Glaw_whole : FnOk P w K mg base a9 1 (aF 29) (dF 29) ["found"] (cL K) := cZ D T
 have Glaw_keeps : FnOk P w K mg base a9 1 (aF 37) (dF 37) ["hands", "tie"] (ig K) := nE D T
 refine D.law_plan.fn.ok fM (fun vs H Q E h => ?_) (fun cdv A outer s H vs Q E hr h => ?_)
 ·obtain ⟨ha, b, ta, rs, rows, ts, hs, rfl, _⟩ := h; rfl
 ·have hu := aW hr
  obtain ⟨ha, b, ta, rs, rows, ts, hs, rfl, hh, hb, bl, r6, r20, tt, tg, ip, q⟩ := h
  refine ⟨_, (af (aI (PW.pt (dD (cw (b4 (ao (pN K) (by rfl) T.z_isinstance boot_isinstance (aa (pv 0) (aa (mD T.z_list) ae))))) (de (az lA (ao (bM K) (by rfl) T.z_len boot_len (aa (pv 0) ae)) (ao (bM K) (by rfl) T.z_len boot_len (aa (pv 1) ae)) (aC _)))))
    (ah (av cI))
    aB)
   (af (aX PassesOwn.never rfl (aQ rfl T.z_range (aa (ao (bM K) (by rfl) T.z_len boot_len (aa (pv 1) ae)) ae)) (aq (i := 3) fM.nd rfl (Or.inl rfl))
    (ah (aI (PW.pt (dD (cw (b4 (pc D.law_whole Glaw_whole (hr.mono (by decide)) (aa (au (cS K) (pv 0) (pv 3) (fun _ _ => rfl)) ae)))) (de (az (wJ K) (au (cS K) (pv 0) (pv 3) (fun _ _ => rfl)) (a8 ["pair"] [none] rfl (jy K (au (cS K) (pv 1) (pv 3) (fun _ _ => rfl))) (fun _ => aq (i := 0) (aU (N := ["pair"]) (by decide +kernel)) rfl (Or.inl rfl)) (fun _ => bx) (fun _ => (au (cP K) (pv 0) ag (fun _ _ => rfl))) ((.cons (fun _ e => by cases e) .nil))) (by with_unfolding_all rfl)))))
     (ah (av cI))
     aB)))
   (af (aX PassesOwn.never rfl (jy K (pv 2)) (aq (i := 4) fM.nd rfl (Or.inl rfl))
    (ah (aI (cw (b4 (pc D.law_keeps Glaw_keeps (hr.mono (by decide)) (aa (pv 0) (aa (pv 4) ae)))))
     (ah (av cI))
     aB)))
   (ah (av cI))))), ?_⟩
  have rl : rs.length = rows.length := bl.len
  have hl : hs.length = rows.length := by rw [ip.len, dv]
  refine ⟨_, rfl, _, _, _, true, rfl, .lst hh, rfl, _, rfl, bw ?_⟩
  refine ⟨_, rfl, _, hs.length, rfl, .inl ⟨_, SqL.of hh, by rw [B4]⟩, _, rfl, _, rows.length, rfl, .inl ⟨_, hb, by rw [B4, rl]⟩, rfl, _, rfl, vE (by rw [hl]) ?_⟩
  refine ⟨_, rfl, _, rows.length, rfl, .inl ⟨_, hb, by rw [B4, rl]⟩, _, rfl, fU _, by omega, ?_⟩
  rw [CG]
  refine bO (n := rows.length) (fun i σ Hx => ∃ x : Option V, σ = [some (.ref ha), some (.ref b), some (.ref ta), x, none] /\ Same H Hx) ⟨none, rfl, Same.refl _⟩ ?_ ?_
  ·rintro i σ Hx hi ⟨x, rfl, sx⟩
   have ei : (0 : Int) + (i : Int) = ((i : Nat) : Int) := by omega
   rw [ei]
   obtain ⟨r, er, ps, hps, tps⟩ := (bl.same sx).at (B3 hi)
   have ptl := tps.len
   have rw20 := r20 _ (CA hi)
   have mem : hs.getD i 0 ∈ aw rows[i] := by
    have z := ip.of i (by omega)
    have e : (bW rows).getD i [] = aw rows[i] := by
     unfold bW
     rw [B5, B7, B3 hi]; rfl
    rw [e] at z
    exact z
   generalize rows[i] = row at tps ptl rw20 mem
   refine ⟨_, rfl, _, rfl, ha, _, _, _, rfl, rfl, SqL.of (sx _ _ hh), aZ (by omega), _, rfl, _, rfl, bw ?_⟩
   refine ⟨_, rfl, _, rfl, ha, _, _, _, rfl, rfl, SqL.of (sx _ _ hh), aZ (by omega), _, rfl, _, rfl, b, _, _, _, rfl, rfl, sx.seq hb, aK (by rw [B7, er]; rfl), r, rfl, ⟨_, SqL.of hps⟩, ?_⟩
   refine cO (xs := ps.map V.ref) (fun _ => true) (fun j => .int (row.getD j (0, 0)).1) (SqL.of hps) (by rw [B4]; omega) (fun _ _ _ _ _ _ k => k _ (Same.refl _)) (fun j x hx _ H2 R s2 k => ?_) fun nw H2 s2 nnw hnw => ?_
   ·rw [B7] at hx
    obtain ⟨t, et, rfl⟩ := Cc.mp hx
    obtain ⟨x, ex, tx⟩ := cu tps et
    rw [B5, ex] at k
    exact ⟨_, rfl, t, _, _, _, rfl, rfl, SqT.of (s2 _ _ tx), rfl, k H2 (Same.refl _)⟩
   rw [CQ.mpr (fun _ _ => rfl), B4, ptl, jB (g := fun x => V.int x.1) fun i x hx => by rw [B5, hx]; rfl] at hnw
   have hnw : H2 nw = some (.lst ((aw row).map V.int)) := by rw [hnw]; unfold aw; rw [Cu]; rfl
   refine ⟨nw, _, rfl, .inl (SqL.of hnw), rfl, gQ _, ?_⟩
   rw [if_pos rfl, jz]
   exact ⟨_, rfl, y3 mem ⟨_, rfl, sx.trans s2⟩⟩
  rintro σ Hx ⟨x, rfl, sx⟩
  refine ⟨_, rfl, ta, rfl, ⟨_, sx.seq tt.ls⟩, ?_⟩
  refine bQ (K := K) (a := ta) (xs := ts.map fun x => V.ref x.1) (fun i σ Hy => ∃ y : Option V, σ = [some (.ref ha), some (.ref b), some (.ref ta), x, y] /\ Same H Hy) ⟨none, rfl, sx⟩ (fun i σ Hy _ hq__ => by obtain ⟨_, _, s⟩ := hq__; exact s.seq tt.ls) ?_ ?_
  ·rintro i v σ Hy hi ⟨y, rfl, sy⟩
   rw [B7] at hi
   obtain ⟨z, hz, rfl⟩ := Cc.mp hi
   have zm := B8 hz
   have kz : By hs z = true := ip.kp (cB z) (Cb.mpr ⟨z, zm, rfl⟩)
   refine ⟨_, rfl, _, rfl, ha, hs, z, rfl, SqL.of (sy _ _ hh), (tt.ea z zm).same sy, (fun i hi => by rw [hl]; exact (tg z zm).lt i hi), fun H3 s3 => ⟨_, rfl, ?_⟩⟩
   rw [kz]
   exact bw ⟨_, rfl, sy.trans s3⟩
  ·rintro σ Hy ⟨y, rfl, sy⟩
   exact q Hy sy
theorem tW {rows : cH} {p : List Int} {b : Nat} (c : bD p) (hb : b < (dd p).length) (x : Int) : x ∈ eQ rows (bV p b) <-> x ∈ fA (bW rows) p b := by
 unfold fA
 rw [oC _ (cm c hb), dX (cm c hb)]
 have e : ∀ s, (bW rows).getD s [] = aw (rows.getD s []) := fun s => by
  unfold bW
  rw [B5, B7, B5]
  cases rows[s]? <;> rfl
 simp only [e]
def ij (K : PySem.W.Frag) : Sp := fun vs H Q _ => ∃ (ba pa b : Addr) (p : List Int) (rs : List Addr) (rows : cH) (bs : List Nat), vs = [.ref ba, .ref pa, .ref b] /\ SqL K H pa (p.map V.int) /\ H b = some (.lst (rs.map V.ref)) /\ BillL H rs rows /\ rows.length <= 6 /\ (∀ row ∈ rows, row.length <= 20 /\ (aw row).Nodup) /\ bD p /\ p.length <= rows.length /\ H ba = some (.lst (bs.map fun (i : Nat) => V.int (i : Int))) /\ Short (dh (bW rows) p) bs /\ ∀ H', Same H H' -> Q (.bl true) H'
theorem b3 : FnScope ["blocks", "pattern", "bill", "here", "last", "block"] ["blocks", "pattern", "bill"] (ar fG) := ⟨rfl, rfl, rfl, by decide +kernel, rfl, by decide +kernel, by decide +kernel⟩
theorem nF (D : Dfs K mg aF dF) (T : Txt mg) : FnOk P w K mg base a9 2 (aF 39) (dF 39) ["blocks", "pattern", "bill"] (ij K) := by
 have Glaw_whole : FnOk P w K mg base a9 1 (aF 29) (dF 29) ["found"] (cL K) := cZ D T
 have Glaw_wide : FnOk P w K mg base a9 1 (aF 34) (dF 34) ["pattern"] (fL K) := je D T
 have Glaw_pool : FnOk P w K mg base a9 1 (aF 35) (dF 35) ["block", "pattern", "bill"] (jf K) := o5 D T
 refine D.law_short.fn.ok b3 (fun vs H Q E h => ?_) (fun cdv A outer s H vs Q E hr h => ?_)
 ·obtain ⟨ba, pa, b, p, rs, rows, bs, rfl, _⟩ := h; rfl
 ·have hu := aW hr
  obtain ⟨ba, pa, b, p, rs, rows, bs, rfl, hp, hb, bl, r6, rok, c, hl, hba, sh, q⟩ := h
  refine ⟨_, (af (aI (cw (b4 (ao (pN K) (by rfl) T.z_isinstance boot_isinstance (aa (pv 0) (aa (mD T.z_list) ae)))))
    (ah (av cI))
    aB)
   (af (ax (i := 3) b3.nd rfl (Or.inl rfl) (aY ae))
   (af (ax (i := 4) b3.nd rfl (Or.inl rfl) (zz yp ag))
   (af (aX PassesOwn.never rfl (jy K (pv 0)) (aq (i := 5) b3.nd rfl (Or.inl rfl))
    (af (aI (PW.pt (dD (cw (b4 (pc D.law_whole Glaw_whole (hr.mono (by decide)) (aa (pv 5) ae)))) (de (cw (nR gL gL (pv 4) (pv 5) (pc D.law_wide Glaw_wide (hr.mono (by decide)) (aa (pv 1) ae)))))))
     (ah (av cI))
     aB)
    (af (ax (i := 3) b3.nd rfl (Or.inl rfl) (aA mz (pv 3) (pc D.law_pool Glaw_pool (hr.mono (by decide)) (aa (pv 5) (aa (pv 1) (aa (pv 2) ae))))))
    (ah (ax (i := 4) b3.nd rfl (Or.inl rfl) (pv 5))))))
   (ah (av (cY gL (ao (qV w) (by rfl) T.z_len boot_len (aa (aV (sF w K) (by rfl) T.z_set PyProof.Rows.boot_set (aa (pv 3) ae)) ae)) (ao (bM K) (by rfl) T.z_len boot_len (aa (pv 0) ae)) (aC _)))))))), ?_⟩
  have dl := cN p
  obtain ⟨X, hX, hq⟩ := sh.few
  have blt : ∀ b ∈ bs, b < (dd p).length := fun b hb => by
   obtain ⟨r, e, _⟩ := hq b hb
   have := (B6.mp e).1
   rw [bY] at this
   exact this
  have b6 : bs.length <= 6 := by
   have nd : bs.Nodup := sh.up.imp fun h => Cp h
   have := nd.length_le_of_subset (l₂ := B9 (dd p).length) fun i hi => CB.mpr (blt i hi)
   rw [CH] at this
   omega
  refine ⟨_, rfl, _, _, _, true, rfl, .lst hba, rfl, _, rfl, bw ?_⟩
  refine ⟨b5, fun l0 n0 => ?_⟩
  have s1 := Same.new (o := .lst []) n0
  refine ⟨_, rfl, ?_⟩
  refine ⟨_, rfl, ba, rfl, ⟨_, SqL.of (s1 _ _ hba)⟩, ?_⟩
  refine bQ (K := K) (a := ba) (xs := bs.map fun (i : Nat) => V.int (i : Int)) (fun i σ Hx => ∃ (l : Addr) (hs : List Int) (la : Int) (x : Option V), σ = [some (.ref ba), some (.ref pa), some (.ref b), some (.ref l), some (.int la), x] /\ Same H Hx /\ Hx l = some (.lst (hs.map V.int)) /\ (∀ x ∈ hs, x ∈ X) /\ hs.length <= 20 * i /\ (i = 0 /\ la = -1 \/ ∃ j d, i = j + 1 /\ bs[j]? = some d /\ la = (d : Int))) ⟨l0, [], -1, none, rfl, s1, ab, (fun _ z => by cases z), Cz _, .inl ⟨rfl, rfl⟩⟩ (fun i σ Hx _ hq__ => by obtain ⟨_, _, _, _, _, s, _⟩ := hq__; exact SqL.of (s _ _ hba)) ?_ ?_
  ·rintro i v σ Hx hi ⟨l, hs, la, x, rfl, sx, hl1, hsub, hlen, hla⟩
   obtain ⟨d, hd, rfl, ed⟩ := eN hi
   have il := (B6.mp hd).1
   have dm := B8 hd
   have hdl := blt d dm
   have lt : la < (d : Int) := by
    rcases hla with ⟨_, rfl⟩ | ⟨j, e, rfl, hj, rfl⟩
    ·omega
    ·obtain ⟨h1, e1⟩ := B6.mp hj
     obtain ⟨h2, e2⟩ := B6.mp hd
     have := CY.mp sh.up j (j + 1) h1 h2 (by omega)
     rw [e1, e2] at this
     omega
   refine ⟨_, rfl, (d : Int), rfl, _, rfl, bw ?_⟩
   refine ⟨_, rfl, _, rfl, _, _, rfl, rfl, _, rfl, vV (fun _ => ?_) fun z => absurd lt z⟩
   refine ⟨_, rfl, pa, p, rfl, sx.seq hp, by omega, fun H2 s2 => ⟨_, _, rfl, rfl, _, rfl, ?_⟩⟩
   rw [decide_eq_true (by omega)]
   refine bw ?_
   have s02 := sx.trans s2
   refine ⟨_, rfl, _, rfl, _, rfl, _, rfl, d, pa, b, p, rs, rows, rfl, s02.seq hp, s02 _ _ hb, bl.same s02, c, hdl, hl, r6, rok, fun po H3 s3 npo hpo => ?_⟩
   have kl := o4 (fun row h => (rok row h).1) (bV p d)
   refine ⟨l, po, _, _, rfl, rfl, (s2.trans s3) _ _ hl1, hpo, wI (by rw [B4, B4]; omega), fun cc nc => ?_⟩
   refine ⟨_, rfl, cc, hs ++ eQ rows (bV p d), (d : Int), some (.int (d : Int)), rfl, (s02.trans s3).to nc, by rw [ab, Cf], fun x hx => ?_, by rw [Cd]; omega, .inr ⟨i, d, rfl, hd, rfl⟩⟩
   rcases Cw.mp hx with z | z
   ·exact hsub x z
   ·obtain ⟨r, er, hr'⟩ := hq d dm
    rw [di hdl] at er
    cases er
    exact hr' x ((tW c hdl x).mp z)
  ·rintro σ Hx ⟨l, hs, la, x, rfl, sx, hl1, hsub, hlen, hla⟩
   rw [B4] at hlen
   have al : (dd hs).length <= X.length := (jY hs).length_le_of_subset fun x hx => hsub x (bz.mp hx)
   refine ⟨_, rfl, l, hs, rfl, SqL.of hl1, by omega, fun S nS => ⟨S, _, rfl, ab, ?_⟩⟩
   have s2 := sx.to (o := .ext (SX w S (dd hs))) nS
   refine ⟨_, rfl, _, bs.length, rfl, .inl ⟨_, SqL.of (s2 _ _ hba), by rw [B4]⟩, _, _, rfl, rfl, ?_⟩
   have z := q _ s2
   rw [<- decide_eq_true (p := (((dd hs).length : Nat) : Int) < ((bs.length : Nat) : Int)) (by omega)] at z
   exact z
def dR (K : PySem.W.Frag) (m : Nat) : Sp := fun vs H Q _ => ∃ (pa b ta : Addr) (v : V) (p : List Int) (rs : List Addr) (rows : cH) (ts : List (Addr × Addr × Str × Int × List Nat)) (pp : Pap), vs = [.ref pa, .ref b, .ref ta, v] /\ H pa = some (.lst (p.map V.int)) /\ H b = some (.lst (rs.map V.ref)) /\ BillL H rs rows /\ rows.length <= 6 /\ (∀ row ∈ rows, row.length <= 20 /\ (aw row).Nodup) /\ Ties K H ta ts 100 /\ bD p /\ p.length <= rows.length /\ rows.length < p.length + m /\ PapAt H v pp /\ Shows (bW rows) (ts.map cB) p pp /\
 ∀ H', Same H H' -> Q (.bl true) H'
def ik (K : PySem.W.Frag) : Sp := dR K 7
theorem iq : FnScope ["pattern", "bill", "ties", "paper", "k"] ["pattern", "bill", "ties", "paper"] (ar fH) := ⟨rfl, rfl, rfl, by decide +kernel, rfl, by decide +kernel, by decide +kernel⟩
theorem nG (D : Dfs K mg aF dF) (T : Txt mg) : FnOk P w K mg base a9 17 (aF 40) (dF 40) ["pattern", "bill", "ties", "paper"] (ik K) := by
 have Glaw_whole : FnOk P w K mg base a9 1 (aF 29) (dF 29) ["found"] (cL K) := cZ D T
 have Glaw_wide : FnOk P w K mg base a9 1 (aF 34) (dF 34) ["pattern"] (fL K) := je D T
 have Glaw_breaks : FnOk P w K mg base a9 1 (aF 36) (dF 36) ["pattern", "tie"] (gf K) := lg D T
 have Glaw_short : FnOk P w K mg base a9 2 (aF 39) (dF 39) ["blocks", "pattern", "bill"] (ij K) := nF D T
 have all : ∀ n, FnOk P w K mg base a9 (10 + n) (aF 40) (dF 40) ["pattern", "bill", "ties", "paper"] (dR K n) := by
  intro n
  induction n with
  | zero =>
   have no : ∀ vs H Q E, ¬ dR K 0 vs H Q E := fun vs H Q E h => by
    obtain ⟨pa, b, ta, v, p, rs, rows, ts, pp, _, _, _, _, _, _, _, _, h1, h2, _⟩ := h
    omega
   exact ⟨fun vs H Q E h => absurd h (no vs H Q E), fun A outer s H args us vs Q E _ _ _ _ h => absurd h (no vs H Q E)⟩
  | succ n Glaw_shows =>
   refine D.law_shows.fn.ok iq (fun vs H Q E h => ?_) (fun cdv A outer s H vs Q E hr h => ?_)
   ·obtain ⟨pa, b, ta, v, p, rs, rows, ts, pp, rfl, _⟩ := h; rfl
   obtain ⟨pa, b, ta, v, p, rs, rows, ts, pp, rfl, hpa, hb, bl, r6, rok, tt, c, hl, hlm, pat, sh, q⟩ := h
   have rk : Nat.add 10 n = 10 + n := rfl
   refine ⟨_, (af (aI (PW.pt (dD (cw (b4 (ao (pN K) (by rfl) T.z_isinstance boot_isinstance (aa (pv 3) (aa (n8 T.z_tuple) ae))))) (de (az lA (ao (bM K) (by rfl) T.z_len boot_len (aa (pv 3) ae)) ag (aC _)))))
    (ah (av cI))
    aB)
   (af (aI (az bT (au (cP K) (pv 3) ag (fun _ _ => rfl)) aL (aC _))
    (af (aI (PW.pt (dD (cw (b4 (pc D.law_whole Glaw_whole (hr.mono (by have := rk; omega)) (aa (au (cP K) (pv 3) ag (fun _ _ => rfl)) ae)))) (de (cw (nR ub gL ag (au (cP K) (pv 3) ag (fun _ _ => rfl)) (ao (bM K) (by rfl) T.z_len boot_len (aa (pv 2) ae)))))))
     (ah (av cI))
     aB)
    (ah (av (pc D.law_breaks Glaw_breaks (hr.mono (by have := rk; omega)) (aa (pv 0) (aa (au (cS K) (pv 2) (au (cP K) (pv 3) ag (fun _ _ => rfl)) (fun _ _ => rfl)) ae))))))
    aB)
   (af (aI (az bT (au (cP K) (pv 3) ag (fun _ _ => rfl)) aL (aC _))
    (ah (av (pc D.law_short Glaw_short (hr.mono (by have := rk; omega)) (aa (au (cP K) (pv 3) ag (fun _ _ => rfl)) (aa (pv 0) (aa (pv 1) ae))))))
    aB)
   (af (aI (PW.pt (dD (az lA (au (cP K) (pv 3) ag (fun _ _ => rfl)) aL (aC _)) (dD (cw (b4 (ao (pN K) (by rfl) T.z_isinstance boot_isinstance (aa (au (cP K) (pv 3) ag (fun _ _ => rfl)) (aa (mD T.z_list) ae))))) (de (az bT (ao (bM K) (by rfl) T.z_len boot_len (aa (pv 0) ae)) (ao (bM K) (by rfl) T.z_len boot_len (aa (pv 1) ae)) (aC _))))))
    (ah (av cI))
    aB)
   (af (aI (az lA (ao (bM K) (by rfl) T.z_len boot_len (aa (au (cP K) (pv 3) ag (fun _ _ => rfl)) ae)) (aA aR (pc D.law_wide Glaw_wide (hr.mono (by have := rk; omega)) (aa (pv 0) ae)) ag) (aC _))
    (ah (av cI))
    aB)
   (af (aX PassesOwn.never rfl (aQ rfl T.z_range (aa (ao (bM K) (by rfl) T.z_len boot_len (aa (au (cP K) (pv 3) ag (fun _ _ => rfl)) ae)) ae)) (aq (i := 4) iq.nd rfl (Or.inl rfl))
    (ah (aI (cw (b4 (pc D.law_shows Glaw_shows hr (aa (aA mz (pv 0) (aY (aa (pv 4) ae))) (aa (pv 1) (aa (pv 2) (aa (au (cS K) (au (cP K) (pv 3) ag (fun _ _ => rfl)) (pv 4) (fun _ _ => rfl)) ae)))))))
     (ah (av cI))
     aB)))
   (ah (av cI)))))))), ?_⟩
   have dl := cN p
   have rl : rs.length = rows.length := bl.len
   cases sh with
   | @tie _ j t hj hbk =>
    cases pat with
    | @tie tp _ ht =>
    refine ⟨_, rfl, _, _, _, true, rfl, .tup ht, rfl, _, rfl, bw ?_⟩
    refine ⟨_, rfl, _, _, rfl, .inr ⟨_, SqT.of ht, rfl⟩, rfl, _, rfl, wN (fun h => absurd rfl h) fun _ => ?_⟩
    refine ⟨_, rfl, tp, _, _, _, rfl, rfl, SqT.of ht, rfl, rfl, _, rfl, ?_⟩
    rw [decide_eq_true rfl]
    refine bX ?_
    rw [B7] at hj
    obtain ⟨x, hx, rfl⟩ := Cc.mp hj
    have jl := (B6.mp hx).1
    have te := tt.ea x (B8 hx)
    refine ⟨_, rfl, tp, _, _, _, rfl, rfl, SqT.of ht, rfl, ((j : Nat) : Int), rfl, _, rfl, bw ?_⟩
    refine ⟨_, rfl, tp, _, _, _, rfl, rfl, SqT.of ht, rfl, _, _, rfl, rfl, _, rfl, vV (fun _ => ?_) fun z => absurd z (by omega)⟩
    refine ⟨_, rfl, _, ts.length, rfl, .inl ⟨_, tt.ls, by rw [B4]⟩, _, _, rfl, rfl, _, rfl, ?_⟩
    rw [decide_eq_true (by omega)]
    refine bw ?_
    refine ⟨_, rfl, _, rfl, _, rfl, tp, _, _, _, rfl, rfl, SqT.of ht, rfl, ta, _, _, _, rfl, rfl, tt.ls, aK (by rw [B7, hx]; rfl), pa, x.1, x.2.1, p, x.2.2.2.2, x.2.2.1, x.2.2.2.1, rfl, SqL.of hpa, SqT.of te.tp, SqT.of te.ts, te.wd, te.sl, fun H1 s1 => ?_⟩
    have hbk : brk (fun i => p.getD i 0) p.length x.2.2.1 x.2.2.2.1 x.2.2.2.2 = true := hbk
    rw [hbk]
    exact q H1 s1
   | @short _ bs sh =>
    cases pat with
    | @short tp l _ ht hl' =>
    refine ⟨_, rfl, _, _, _, true, rfl, .tup ht, rfl, _, rfl, bw ?_⟩
    refine ⟨_, rfl, _, _, rfl, .inr ⟨_, SqT.of ht, rfl⟩, rfl, _, rfl, wN (fun h => absurd rfl h) fun _ => ?_⟩
    refine ⟨_, rfl, tp, _, _, _, rfl, rfl, SqT.of ht, rfl, rfl, _, rfl, ?_⟩
    rw [decide_eq_false (by decide)]
    refine bw ?_
    refine ⟨_, rfl, tp, _, _, _, rfl, rfl, SqT.of ht, rfl, rfl, _, rfl, ?_⟩
    rw [decide_eq_true rfl]
    exact bX ⟨_, rfl, tp, _, _, _, rfl, rfl, SqT.of ht, rfl, _, rfl, _, rfl, l, pa, b, p, rs, rows, bs, rfl, SqL.of hpa, hb, bl, r6, rok, c, hl, hl', sh, q⟩
   | @split _ pps lt hn hs =>
    cases pat with
    | @split tp l vs _ ht hl' hvn hat =>
    rw [dv] at lt
    refine ⟨_, rfl, _, _, _, true, rfl, .tup ht, rfl, _, rfl, bw ?_⟩
    refine ⟨_, rfl, _, _, rfl, .inr ⟨_, SqT.of ht, rfl⟩, rfl, _, rfl, wN (fun h => absurd rfl h) fun _ => ?_⟩
    refine ⟨_, rfl, tp, _, _, _, rfl, rfl, SqT.of ht, rfl, rfl, _, rfl, ?_⟩
    rw [decide_eq_false (by decide)]
    refine bw ?_
    refine ⟨_, rfl, tp, _, _, _, rfl, rfl, SqT.of ht, rfl, rfl, _, rfl, ?_⟩
    rw [decide_eq_false (by decide)]
    refine bw ?_
    refine ⟨_, rfl, tp, _, _, _, rfl, rfl, SqT.of ht, rfl, rfl, _, rfl, ?_⟩
    rw [decide_eq_true rfl]
    refine bw ?_
    refine ⟨_, rfl, tp, _, _, _, rfl, rfl, SqT.of ht, rfl, _, _, _, true, rfl, .lst hl', rfl, _, rfl, bw ?_⟩
    refine ⟨_, rfl, _, p.length, rfl, .inl ⟨_, SqL.of hpa, by rw [B4]⟩, _, rfl, _, rows.length, rfl, .inl ⟨_, SqL.of hb, by rw [B4, rl]⟩, rfl, _, rfl, sg (fun e => absurd e (by omega)) fun _ => ?_⟩
    refine ⟨_, rfl, tp, _, _, _, rfl, rfl, SqT.of ht, rfl, _, vs.length, rfl, .inl ⟨_, SqL.of hl', rfl⟩, _, rfl, pa, p, rfl, SqL.of hpa, by omega, fun H1 s1 => ⟨_, _, rfl, rfl, rfl, _, rfl, wN (fun h => absurd ?_ h) fun _ => ?_⟩⟩
    ·omega
    refine ⟨_, rfl, tp, _, _, _, rfl, rfl, SqT.of (s1 _ _ ht), rfl, _, vs.length, rfl, .inl ⟨_, SqL.of (s1 _ _ hl'), rfl⟩, _, rfl, fU _, by omega, ?_⟩
    rw [CG]
    refine bO (n := vs.length) (fun i σ H2 => ∃ x : Option V, σ = [some (.ref pa), some (.ref b), some (.ref ta), some (.ref tp), x] /\ Same H H2) ⟨none, rfl, s1⟩ ?_ ?_
    ·rintro i σ H2 hi ⟨x, rfl, s2⟩
     have ei : (0 : Int) + (i : Int) = ((i : Nat) : Int) := by omega
     rw [ei]
     have hpa2 := s2 _ _ hpa
     have hip : i < pps.length := by omega
     refine ⟨_, rfl, _, rfl, b5, fun q1 nq1 => ?_⟩
     have s3 := Same.new (o := .lst [V.int ((i : Nat) : Int)]) nq1
     refine ⟨pa, q1, _, _, rfl, rfl, s3 _ _ hpa2, ab, wI (by simp; omega), fun r nr => ?_⟩
     have e5 : p.map V.int ++ [V.int ((i : Nat) : Int)] = (p ++ [((i : Nat) : Int)]).map V.int := by rw [Cf]; rfl
     rw [e5]
     have s4 := s3.to (o := .lst ((p ++ [((i : Nat) : Int)]).map V.int)) nr
     have s04 := s2.trans s4
     refine ⟨_, rfl, _, rfl, _, rfl, tp, _, _, _, rfl, rfl, SqT.of (s04 _ _ ht), rfl, _, rfl, l, _, _, _, rfl, rfl, SqL.of (s04 _ _ hl'), aK (B3 hi), r, b, ta, vs[i], p ++ [((i : Nat) : Int)], rs, rows, ts, pps[i], rfl, ab, s04 _ _ hb, bl.same s04, r6, rok, ⟨s04.seq tt.ls, fun x hx => (tt.ea x hx).same s04, tt.ln⟩, eO c (by omega), by simp; omega, by simp; omega, (hat i _ _ (B3 hi) (B3 hip)).same s04, hs i _ (B3 hip), fun H5 s5 => ⟨_, rfl, bw ⟨_, rfl, s04.trans s5⟩⟩⟩
    ·rintro σ H2 ⟨x, rfl, s2⟩
     exact q H2 s2
 exact all 7
def vT (H : Hp) (t : Addr) (rows : cH) (ts : List sR) : Prop :=
 (∃ (v : V) (pp : Pap), H t = some (.tup [.str "none", v]) /\ PapAt H v pp /\ Shows (bW rows) ts [] pp) \/
 ∃ (l : Addr) (hs : List Int) (v : V), H t = some (.tup [.str "plan", .ref l, .int (bC rows hs), v]) /\ H l = some (.lst (hs.map V.int)) /\ IsPlan (bW rows) ts hs
def jh (K : PySem.W.Frag) : Sp := fun vs H Q _ => ∃ (tf b y : Addr) (rs : List Addr) (rows : cH) (U : List Int) (ts : List (Addr × Addr × Str × Int × List Nat)), vs = [.ref tf, .ref b, .ref y] /\ H b = some (.lst (rs.map V.ref)) /\ BillL H rs rows /\ QB rows U /\ Ties K H y ts 100 /\ (∀ x ∈ ts, TieG rows.length x) /\ vT H tf rows (ts.map cB) /\ ∀ H', Same H H' -> Q (.bl true) H'
theorem dM : FnScope ["found", "bill", "ties", "total", "k"] ["found", "bill", "ties"] (ar gE) := ⟨rfl, rfl, rfl, by decide +kernel, rfl, by decide +kernel, by decide +kernel⟩
theorem o7 (D : Dfs K mg aF dF) (T : Txt mg) : FnOk P w K mg base a9 18 (aF 41) (dF 41) ["found", "bill", "ties"] (jh K) := by
 have Glaw_whole : FnOk P w K mg base a9 1 (aF 29) (dF 29) ["found"] (cL K) := cZ D T
 have Glaw_plan : FnOk P w K mg base a9 2 (aF 38) (dF 38) ["hands", "bill", "ties"] (jg K) := o6 D T
 have Glaw_shows : FnOk P w K mg base a9 17 (aF 40) (dF 40) ["pattern", "bill", "ties", "paper"] (ik K) := nG D T
 refine D.law_good.fn.ok dM (fun vs H Q E h => ?_) (fun cdv A outer s H vs Q E hr h => ?_)
 ·obtain ⟨tf, b, y, rs, rows, U, ts, rfl, _⟩ := h; rfl
 ·have hu := aW hr
  obtain ⟨tf, b, y, rs, rows, U, ts, rfl, hb, bl, qb, tt, tg, gd, q⟩ := h
  refine ⟨_, (af (aI (cw (b4 (ao (pN K) (by rfl) T.z_isinstance boot_isinstance (aa (pv 0) (aa (n8 T.z_tuple) ae)))))
    (ah (av cI))
    aB)
   (af (aI (az bT (ao (bM K) (by rfl) T.z_len boot_len (aa (pv 0) ae)) ag (aC _))
    (ah (av (pd (cY bT (au (cP K) (pv 0) ag (fun _ _ => rfl)) aL (aC _)) (pb (pc D.law_shows Glaw_shows (hr.mono (by decide)) (aa (aY ae) (aa (pv 1) (aa (pv 2) (aa (au (cP K) (pv 0) ag (fun _ _ => rfl)) ae)))))))))
    aB)
   (af (aI (PW.pt (dD (az lA (ao (bM K) (by rfl) T.z_len boot_len (aa (pv 0) ae)) ag (aC _)) (dD (az lA (au (cP K) (pv 0) ag (fun _ _ => rfl)) aL (aC _)) (de (cw (b4 (pc D.law_plan Glaw_plan (hr.mono (by decide)) (aa (au (cP K) (pv 0) ag (fun _ _ => rfl)) (aa (pv 1) (aa (pv 2) ae))))))))))
    (ah (av cI))
    aB)
   (af (ax (i := 3) dM.nd rfl (Or.inl rfl) ag)
   (af (aX PassesOwn.never rfl (aQ rfl T.z_range (aa (ao (bM K) (by rfl) T.z_len boot_len (aa (pv 1) ae)) ae)) (aq (i := 4) dM.nd rfl (Or.inl rfl))
    (ah (ax (i := 3) dM.nd rfl (Or.inl rfl) (aA aR (pv 3) (eF hu (aV (rf K) (by rfl) T.z_dict PyProof.Rows.boot_dict (aa (au (cS K) (pv 1) (pv 4) (fun _ _ => rfl)) ae)) (au (cS K) (au (cP K) (pv 0) ag (fun _ _ => rfl)) (pv 4) (fun _ _ => rfl)) (fun _ _ => rfl))))))
   (ah (av (pd (pc D.law_whole Glaw_whole (hr.mono (by decide)) (aa (au (cP K) (pv 0) ag (fun _ _ => rfl)) ae)) (pb (cY bT (au (cP K) (pv 0) ag (fun _ _ => rfl)) (pv 3) (aC _))))))))))), ?_⟩
  have r6 := qb.r6
  have r20 : ∀ row ∈ rows, row.length <= 20 := fun row hr => (qb.ok row hr).1
  have rl : rs.length = rows.length := bl.len
  have mbl := dv rows
  rcases gd with ⟨v, pp, htf, pap, sh⟩ | ⟨l, hs, v, htf, hl, ip⟩
  ·refine ⟨_, rfl, _, _, _, true, rfl, .tup htf, rfl, _, rfl, bw ?_⟩
   refine ⟨_, rfl, _, 2, rfl, .inr ⟨_, SqT.of htf, rfl⟩, rfl, _, rfl, bX ?_⟩
   refine ⟨_, rfl, tf, _, _, _, rfl, rfl, SqT.of htf, rfl, rfl, _, rfl, bX ?_⟩
   refine ⟨b5, fun e0 ne0 => ?_⟩
   have s1 := Same.new (o := .lst []) ne0
   have he0 : ay H e0 (.lst []) e0 = some (.lst []) := ab
   generalize ay H e0 (.lst []) = H1 at s1 he0
   exact ⟨_, rfl, _, rfl, _, rfl, tf, _, _, _, rfl, rfl, SqT.of (s1 _ _ htf), rfl, e0, b, y, v, [], rs, rows, ts, pp, rfl, he0, s1 _ _ hb, bl.same s1, r6, qb.ok, ⟨s1.seq tt.ls, fun x hx => (tt.ea x hx).same s1, tt.ln⟩, fR, Cz _, by simp; omega, pap.same s1, sh, fun H' s' => q H' (s1.trans s')⟩
  ·have hln := ip.len
   refine ⟨_, rfl, _, _, _, true, rfl, .tup htf, rfl, _, rfl, bw ?_⟩
   refine ⟨_, rfl, _, 4, rfl, .inr ⟨_, SqT.of htf, rfl⟩, rfl, _, rfl, bw ?_⟩
   refine ⟨_, rfl, _, 4, rfl, .inr ⟨_, SqT.of htf, rfl⟩, rfl, _, rfl, vE rfl ?_⟩
   refine ⟨_, rfl, tf, _, _, _, rfl, rfl, SqT.of htf, rfl, rfl, _, rfl, vE rfl ?_⟩
   refine ⟨_, rfl, tf, _, _, _, rfl, rfl, SqT.of htf, rfl, _, rfl, _, rfl, l, b, y, rs, rows, ts, hs, rfl, hl, SqL.of hb, bl, r6, r20, tt, tg, ip, fun H1 s1 => ⟨_, rfl, bw ?_⟩⟩
   refine ⟨_, rfl, _, rows.length, rfl, .inl ⟨_, SqL.of (s1 _ _ hb), by rw [B4, rl]⟩, _, rfl, fU _, by omega, ?_⟩
   rw [CG]
   refine bO (n := rows.length) (fun i σ Hx => ∃ (x : Option V), σ = [some (.ref tf), some (.ref b), some (.ref y), some (.int (((B9 i).map (cg rows hs)).sum)), x] /\ Same H Hx) ⟨none, rfl, s1⟩ ?_ ?_
   ·rintro i σ Hx hi ⟨x, rfl, sx⟩
    have ei : (0 : Int) + (i : Int) = ((i : Nat) : Int) := by omega
    rw [ei]
    obtain ⟨r, er, ps, hps, tps⟩ := (bl.same sx).at (B3 hi)
    have nd := (qb.ok _ (CA hi)).2
    have hrow : rows[i]? = some rows[i] := B3 hi
    have hh : hs[i]? = some (hs.getD i 0) := rC (by omega)
    have hm := m4 ip i _ _ hrow hh
    have em0 : cg rows hs i = (aN rows[i] (hs.getD i 0)).getD 0 := by
     unfold cg
     rw [B5, hrow]; rfl
    generalize rows[i] = row at tps nd hm em0
    generalize hs.getD i 0 = d at hm em0 hh
    obtain ⟨c, hc⟩ : ∃ c, aN row d = some c := by
     cases e : aN row d with
     | none => exact absurd hm (cE.mp e)
     | some c => exact ⟨c, rfl⟩
    have em : cg rows hs i = c := by rw [em0, hc]; rfl
    refine ⟨_, rfl, _, rfl, _, rfl, b, _, _, _, rfl, rfl, SqL.of (sx _ _ hb), aK (by rw [B7, er]; rfl), r, ps, jC row, rfl, SqL.of hps, by unfold jC; rw [B4, tps.len], mR nd, tps.kv, fun dl ndl => ?_⟩
    have s2 := Same.new (o := .dK (jC row)) ndl
    have hdl : ay Hx dl (.dK (jC row)) dl = some (.dK (jC row)) := ab
    generalize ay Hx dl (.dK (jC row)) = H2 at s2 hdl
    have s02 := sx.trans s2
    have g := DGet.k (k := Sum.inl d) hdl
    rw [dZ, hc] at g
    refine ⟨_, rfl, tf, _, _, _, rfl, rfl, SqT.of (s02 _ _ htf), rfl, _, rfl, l, _, _, _, rfl, rfl, SqL.of (s02 _ _ hl), aK (by rw [B7, hh]; rfl), dl, .int c, rfl, g, _, _, rfl, rfl, ?_⟩
    refine ⟨some (.int ((i : Nat) : Int)), ?_, s02⟩
    rw [C1, Cf, List.sum_append, List.map_singleton, List.sum_singleton, em]; rfl
   ·rintro σ Hx ⟨x, rfl, sx⟩
    refine ⟨_, rfl, tf, _, _, _, rfl, rfl, SqT.of (sx _ _ htf), rfl, _, rfl, _, rfl, bX ?_⟩
    refine ⟨_, rfl, tf, _, _, _, rfl, rfl, SqT.of (sx _ _ htf), rfl, _, rfl, rfl, ?_⟩
    have z := q Hx sx
    rw [<- decide_eq_true (p := V.int (bC rows hs) = V.int (bC rows hs)) rfl] at z
    exact z
def nH (K : PySem.W.Frag) : Sp := fun vs H Q _ => ∃ (a : Addr) (ns : List Int), vs = [.ref a] /\ SqL K H a (ns.map V.int) /\ ns.length <= 63 /\ ∀ H', Q (.bl true) H'
theorem gH : FnScope ["script", "sizes", "bill", "ties", "handed", "bonds", "found"] ["script"] (ar vM) := ⟨rfl, rfl, rfl, by decide +kernel, rfl, by decide +kernel, by decide +kernel⟩
theorem y8 (D : Dfs K mg aF dF) (T : Txt mg) : FnOk P w K mg base a9 59 (aF 42) (dF 42) ["script"] (nH K) := by
 have Gquick : FnOk P w K mg base a9 58 (aF 24) (dF 24) ["bill", "ties"] (oS K) := vS D T
 have Glaw_case : FnOk P w K mg base a9 2 (aF 33) (dF 33) ["script", "sizes", "tops"] (jd K) := oY D T
 have Glaw_good : FnOk P w K mg base a9 18 (aF 41) (dF 41) ["found", "bill", "ties"] (jh K) := o7 D T
 refine D.law.fn.ok gH (fun vs H Q E h => ?_) (fun cdv A outer s H vs Q E hr h => ?_)
 ·obtain ⟨a, ns, rfl, _⟩ := h; rfl
 ·have hu := aW hr
  obtain ⟨a, ns, rfl, hS, hl, q⟩ := h
  refine ⟨_, (af (ax (i := 1) gH.nd rfl (Or.inl rfl) (aY (aa (aJ (aa ag (aa ag ae))) (aa (aJ (aa ag (aa ag ae))) (aa (aJ (aa ag (aa ag ae))) (aa (aJ (aa ag (aa ag ae))) (aa (aJ (aa ag (aa ag ae))) (aa (aJ (aa ag (aa ag ae))) (aa (aJ (aa ag (aa ag ae))) (aa (aJ (aa ag (aa ag ae))) (aa (aJ (aa ag (aa ag ae))) (aa (aJ (aa ag (aa ag ae))) (aa (aJ (aa ag (aa ag ae))) (aa (aJ (aa ag (aa ag ae))) ae))))))))))))))
   (af (jF (pc D.law_case Glaw_case (hr.mono (by decide)) (aa (pv 0) (aa (pv 1) (aa (aY (aa (aA aR (aA ml ag ag) ag) (aa ag (aa ag (aa (aA aR (aA ml ag ag) ag) ae))))) ae)))) (wL K rfl (a7 (aq (i := 2) gH.nd rfl (Or.inl rfl)) (a7 (aq (i := 3) gH.nd rfl (Or.inl rfl)) cX))))
   (af (eK (i₀ := 4) gH.nd rfl (Or.inl rfl) ["pairs"] [none] rfl (jy K (pv 2)) (fun _ => aq (i := 0) (aU (N := ["pairs"]) (by decide +kernel)) rfl (Or.inl rfl)) (fun _ => bx) (fun _ => (aV (qL K) (by rfl) T.z_list boot_list (aa (pv 0) ae))) ((.cons (fun _ e => by cases e) .nil)))
   (af (ax (i := 5) gH.nd rfl (Or.inl rfl) (aV (qL K) (by rfl) T.z_list boot_list (aa (pv 3) ae)))
   (af (ax (i := 6) gH.nd rfl (Or.inl rfl) (pc D.quick Gquick (hr.mono (by decide)) (aa (pv 4) (aa (pv 5) ae))))
   (af (aI (PW.pt (dD (az (Bw K hr.units) (pv 4) (pv 2) (aC _)) (dD (az (Bw K hr.units) (pv 5) (pv 3) (aC _)) (de (cw (b4 (pc D.law_good Glaw_good (hr.mono (by decide)) (aa (pv 6) (aa (pv 2) (aa (pv 3) ae))))))))))
    (ah (av cI))
    aB)
   (af (bH (pH PySem.F.plainAttrs_list PySem.F.slot_list_clear PySem.F.type_list_clear uh (au (cS K) (pv 4) ag (fun _ _ => rfl))))
   (af (bH (dS PySem.F.plainAttrs_list PySem.F.slot_list_append PySem.F.type_list_append bF (pv 5) (aa (aJ (aa aL (aa ag (aa (aJ (aa ag ae)) ae)))) ae)))
   (ah (av (pc D.law_good Glaw_good (hr.mono (by decide)) (aa (pv 6) (aa (pv 2) (aa (pv 3) ae)))))))))))))), ?_⟩
  refine ⟨b5, fun p0 np0 => ?_⟩
  have sz0 := Same.new (o := .tup [.int 3, .int 3]) np0
  have hz0 : ay H p0 (.tup [.int 3, .int 3]) p0 = some (.tup [.int 3, .int 3]) := ab
  have sY0 := sz0
  generalize ay H p0 (.tup [.int 3, .int 3]) = HZ0 at sz0 hz0 sY0
  refine ⟨b5, fun p1 np1 => ?_⟩
  have sz1 := Same.new (o := .tup [.int 2, .int 6]) np1
  have hz1 : ay HZ0 p1 (.tup [.int 2, .int 6]) p1 = some (.tup [.int 2, .int 6]) := ab
  have sY1 := sY0.trans sz1
  generalize ay HZ0 p1 (.tup [.int 2, .int 6]) = HZ1 at sz1 hz1 sY1
  refine ⟨b5, fun p2 np2 => ?_⟩
  have sz2 := Same.new (o := .tup [.int 4, .int 4]) np2
  have hz2 : ay HZ1 p2 (.tup [.int 4, .int 4]) p2 = some (.tup [.int 4, .int 4]) := ab
  have sY2 := sY1.trans sz2
  generalize ay HZ1 p2 (.tup [.int 4, .int 4]) = HZ2 at sz2 hz2 sY2
  refine ⟨b5, fun p3 np3 => ?_⟩
  have sz3 := Same.new (o := .tup [.int 3, .int 5]) np3
  have hz3 : ay HZ2 p3 (.tup [.int 3, .int 5]) p3 = some (.tup [.int 3, .int 5]) := ab
  have sY3 := sY2.trans sz3
  generalize ay HZ2 p3 (.tup [.int 3, .int 5]) = HZ3 at sz3 hz3 sY3
  refine ⟨b5, fun p4 np4 => ?_⟩
  have sz4 := Same.new (o := .tup [.int 4, .int 6]) np4
  have hz4 : ay HZ3 p4 (.tup [.int 4, .int 6]) p4 = some (.tup [.int 4, .int 6]) := ab
  have sY4 := sY3.trans sz4
  generalize ay HZ3 p4 (.tup [.int 4, .int 6]) = HZ4 at sz4 hz4 sY4
  refine ⟨b5, fun p5 np5 => ?_⟩
  have sz5 := Same.new (o := .tup [.int 1, .int 1]) np5
  have hz5 : ay HZ4 p5 (.tup [.int 1, .int 1]) p5 = some (.tup [.int 1, .int 1]) := ab
  have sY5 := sY4.trans sz5
  generalize ay HZ4 p5 (.tup [.int 1, .int 1]) = HZ5 at sz5 hz5 sY5
  refine ⟨b5, fun p6 np6 => ?_⟩
  have sz6 := Same.new (o := .tup [.int 2, .int 2]) np6
  have hz6 : ay HZ5 p6 (.tup [.int 2, .int 2]) p6 = some (.tup [.int 2, .int 2]) := ab
  have sY6 := sY5.trans sz6
  generalize ay HZ5 p6 (.tup [.int 2, .int 2]) = HZ6 at sz6 hz6 sY6
  refine ⟨b5, fun p7 np7 => ?_⟩
  have sz7 := Same.new (o := .tup [.int 5, .int 3]) np7
  have hz7 : ay HZ6 p7 (.tup [.int 5, .int 3]) p7 = some (.tup [.int 5, .int 3]) := ab
  have sY7 := sY6.trans sz7
  generalize ay HZ6 p7 (.tup [.int 5, .int 3]) = HZ7 at sz7 hz7 sY7
  refine ⟨b5, fun p8 np8 => ?_⟩
  have sz8 := Same.new (o := .tup [.int 3, .int 12]) np8
  have hz8 : ay HZ7 p8 (.tup [.int 3, .int 12]) p8 = some (.tup [.int 3, .int 12]) := ab
  have sY8 := sY7.trans sz8
  generalize ay HZ7 p8 (.tup [.int 3, .int 12]) = HZ8 at sz8 hz8 sY8
  refine ⟨b5, fun p9 np9 => ?_⟩
  have sz9 := Same.new (o := .tup [.int 2, .int 20]) np9
  have hz9 : ay HZ8 p9 (.tup [.int 2, .int 20]) p9 = some (.tup [.int 2, .int 20]) := ab
  have sY9 := sY8.trans sz9
  generalize ay HZ8 p9 (.tup [.int 2, .int 20]) = HZ9 at sz9 hz9 sY9
  refine ⟨b5, fun p10 np10 => ?_⟩
  have sz10 := Same.new (o := .tup [.int 6, .int 2]) np10
  have hz10 : ay HZ9 p10 (.tup [.int 6, .int 2]) p10 = some (.tup [.int 6, .int 2]) := ab
  have sY10 := sY9.trans sz10
  generalize ay HZ9 p10 (.tup [.int 6, .int 2]) = HZ10 at sz10 hz10 sY10
  refine ⟨b5, fun p11 np11 => ?_⟩
  have sz11 := Same.new (o := .tup [.int 4, .int 2]) np11
  have hz11 : ay HZ10 p11 (.tup [.int 4, .int 2]) p11 = some (.tup [.int 4, .int 2]) := ab
  have sY11 := sY10.trans sz11
  generalize ay HZ10 p11 (.tup [.int 4, .int 2]) = HZ11 at sz11 hz11 sY11
  refine ⟨b5, fun sa nsa => ?_⟩
  have szL := Same.new (o := .lst [.ref p0, .ref p1, .ref p2, .ref p3, .ref p4, .ref p5, .ref p6, .ref p7, .ref p8, .ref p9, .ref p10, .ref p11]) nsa
  have hsa : ay HZ11 sa (.lst [.ref p0, .ref p1, .ref p2, .ref p3, .ref p4, .ref p5, .ref p6, .ref p7, .ref p8, .ref p9, .ref p10, .ref p11]) sa = some (.lst ([p0, p1, p2, p3, p4, p5, p6, p7, p8, p9, p10, p11].map V.ref)) := ab
  have sZ := sY11.trans szL
  generalize ay HZ11 sa (.lst [.ref p0, .ref p1, .ref p2, .ref p3, .ref p4, .ref p5, .ref p6, .ref p7, .ref p8, .ref p9, .ref p10, .ref p11]) = HZ at szL hsa sZ
  have rsz : RowAt HZ sa [(3, 3), (2, 6), (4, 4), (3, 5), (4, 6), (1, 1), (2, 2), (5, 3), (3, 12), (2, 20), (6, 2), (4, 2)] := ⟨_, hsa, (.cons (show cD HZ p0 (3, 3) from (szL _ _ (sz11 _ _ (sz10 _ _ (sz9 _ _ (sz8 _ _ (sz7 _ _ (sz6 _ _ (sz5 _ _ (sz4 _ _ (sz3 _ _ (sz2 _ _ (sz1 _ _ hz0))))))))))))) (.cons (show cD HZ p1 (2, 6) from (szL _ _ (sz11 _ _ (sz10 _ _ (sz9 _ _ (sz8 _ _ (sz7 _ _ (sz6 _ _ (sz5 _ _ (sz4 _ _ (sz3 _ _ (sz2 _ _ hz1)))))))))))) (.cons (show cD HZ p2 (4, 4) from (szL _ _ (sz11 _ _ (sz10 _ _ (sz9 _ _ (sz8 _ _ (sz7 _ _ (sz6 _ _ (sz5 _ _ (sz4 _ _ (sz3 _ _ hz2))))))))))) (.cons (show cD HZ p3 (3, 5) from (szL _ _ (sz11 _ _ (sz10 _ _ (sz9 _ _ (sz8 _ _ (sz7 _ _ (sz6 _ _ (sz5 _ _ (sz4 _ _ hz3)))))))))) (.cons (show cD HZ p4 (4, 6) from (szL _ _ (sz11 _ _ (sz10 _ _ (sz9 _ _ (sz8 _ _ (sz7 _ _ (sz6 _ _ (sz5 _ _ hz4))))))))) (.cons (show cD HZ p5 (1, 1) from (szL _ _ (sz11 _ _ (sz10 _ _ (sz9 _ _ (sz8 _ _ (sz7 _ _ (sz6 _ _ hz5)))))))) (.cons (show cD HZ p6 (2, 2) from (szL _ _ (sz11 _ _ (sz10 _ _ (sz9 _ _ (sz8 _ _ (sz7 _ _ hz6))))))) (.cons (show cD HZ p7 (5, 3) from (szL _ _ (sz11 _ _ (sz10 _ _ (sz9 _ _ (sz8 _ _ hz7)))))) (.cons (show cD HZ p8 (3, 12) from (szL _ _ (sz11 _ _ (sz10 _ _ (sz9 _ _ hz8))))) (.cons (show cD HZ p9 (2, 20) from (szL _ _ (sz11 _ _ (sz10 _ _ hz9)))) (.cons (show cD HZ p10 (6, 2) from (szL _ _ (sz11 _ _ hz10))) (.cons (show cD HZ p11 (4, 2) from (szL _ _ hz11)) .nil))))))))))))⟩
  clear hz0 sz0 hz1 sz1 hz2 sz2 hz3 sz3 hz4 sz4 hz5 sz5 hz6 sz6 hz7 sz7 hz8 sz8 hz9 sz9 hz10 sz10 hz11 sz11 szL hsa
  refine ⟨_, rfl, _, rfl, ?_⟩
  walk_at "go"
  refine ⟨b5, fun ta nta => ?_⟩
  refine ⟨a, sa, ta, ns, _, [10 ^ 18 + 1, 5, 2, 10 ^ 9 + 7], rfl, (sZ.trans (Same.new nta)).seq hS, hl, rsz.same (Same.new nta), by decide, by decide, SqL.of ab, by decide, by decide, fun t l y rs rows bs ts tp H1 s1 nt ht nl hl1 bl1 fr1 hex bo rok tpm ny hy tt t12 => ?_⟩
  have bnd : 1 <= rows.length /\ rows.length <= 6 /\ bs.length <= 20 := by
   obtain ⟨x, hx, e1, e2⟩ := hex
   have := (show ∀ x ∈ ([(3, 3), (2, 6), (4, 4), (3, 5), (4, 6), (1, 1), (2, 2), (5, 3), (3, 12), (2, 20), (6, 2), (4, 2)] : List (Int × Int)), 1 <= x.1 /\ x.1 <= 6 /\ x.2 <= 20 by decide) x hx
   omega
  obtain ⟨r1, r6, b20⟩ := bnd
  have r20 : ∀ row ∈ rows, row.length <= 20 := fun row hr => CJ (bo.len row hr) b20
  have qb : QB rows bs := ⟨r6, fun row hr => ⟨r20 row hr, qZ (bo.up row hr)⟩, bo.up, fun row hr x hx => ((rok row hr).inn x hx).2.1, bo.inn, by omega⟩
  refine ⟨t, _, rfl, SqT.of ht, rfl, _, _, rfl, _, _, rfl, rfl, ?_⟩
  clear rsz sZ hex
  have tOk : ∀ Hx yy, Same H1 Hx -> Hx yy = some (.lst (ts.map fun x => V.ref x.1)) -> Ties K Hx yy ts 100 := fun Hx yy sx hyy => ⟨SqL.of hyy, fun x hx => (tt x hx).1.same sx, by omega⟩
  have tG : ∀ x ∈ ts, TieG rows.length x := fun x hx => (tt x hx).2
  refine ⟨_, rfl, l, rfl, ⟨_, SqL.of hl1⟩, ?_⟩
  refine qj hl1 bl1 (by omega) (fun r xs H2 R hr2 k => ⟨_, rfl, r, _, rfl, .inl (SqL.of hr2), fun l nl => k l _ (Same.new nl) nl ab⟩) fun hn ls H2 s2 nhn hhn bh nls ndl => ?_
  refine ⟨_, rfl, y, _, rfl, .inl (SqL.of (s2 _ _ hy)), fun y2 ny2 => ?_⟩
  have s3 := Same.new (o := .lst (ts.map fun x => V.ref x.1)) ny2
  have hy3 : ay H2 y2 (.lst (ts.map fun x => V.ref x.1)) y2 = some (.lst (ts.map fun x => V.ref x.1)) := ab
  have ny1 := s2.free ny2
  generalize ay H2 y2 (.lst (ts.map fun x => V.ref x.1)) = H3 at s3 hy3
  have s13 := s2.trans s3
  have hhn3 := s3 _ _ hhn
  have bh3 := bh.same s3
  refine ⟨_, rfl, _, rfl, hn, y2, ls, rows, bs, ts, rfl, hhn3, bh3, qb, tOk _ _ s13 hy3, tG, fun tf H4 s4 td => ?_⟩
  have s14 := s13.trans s4
  have gd4 : vT H4 tf rows (ts.map cB) := by
   rcases td with ⟨v, pp, h1, pap, sh⟩ | ⟨l2, hs, v, h1, _, h2, ip, _⟩
   ·exact .inl ⟨v, pp, h1, PapAt.same pap xb, sh⟩
   ·exact .inr ⟨l2, hs, v, h1, h2, ip⟩
  refine ⟨_, rfl, _, rfl, 3, true, sV (s4 _ _ hhn3) (bh3.same s4) (s14 _ _ hl1) (bl1.same s14), by decide, rfl, _, rfl, bw ?_⟩
  refine ⟨_, rfl, _, rfl, 3, true, u6 (SqL.of (s4 _ _ hy3)) (SqL.of (s14 _ _ hy)) (fun x hx => (tt x hx).1.same s14), by decide, rfl, _, rfl, bw ?_⟩
  refine ⟨_, rfl, _, rfl, _, rfl, tf, l, y, rs, rows, bs, ts, rfl, s14 _ _ hl1, bl1.same s14, qb, tOk _ _ s14 (s14 _ _ hy), tG, gd4, fun H6 s6 => ⟨_, rfl, bw ?_⟩⟩
  have s36 := s4.trans s6
  have s16 := s14.trans s6
  have lsl : ls.length = rows.length := bh.len
  obtain ⟨m0, em0⟩ : ∃ m0, ls[0]? = some m0 := ⟨_, B3 (by omega)⟩
  obtain ⟨row0, _, ps0, hm0, _⟩ := bh3.get em0
  obtain ⟨_, _, _, hm2, _⟩ := bh.get em0
  have nm0 := (nls m0 (B8 em0)).1
  have hat : lE (ls.map V.ref) 0 = some (.ref m0) := aK (j := 0) (by rw [B7, em0]; rfl)
  refine ⟨_, rfl, hn, _, _, _, rfl, rfl, SqL.of (s36 _ _ hhn3), hat, .inl ⟨rfl, _, SqL.of (s36 _ _ hm0)⟩, m0, _, rfl, rfl, s36 _ _ hm0, ?_⟩
  have kn7 : ∀ a o, a ≠ m0 -> H4 a = some o -> ay H6 m0 (.lst []) a = some o := fun a o n e => by
   rw [aj n]
   exact s6 _ _ e
  have s17 : Same H1 (ay H6 m0 (.lst [])) := s16.put nm0
  have hy7 : ay H6 m0 (.lst []) y2 = some (.lst (ts.map fun x => V.ref x.1)) := by
   have ne : y2 ≠ m0 := fun z => by
    rw [z, hm2] at ny2
    cases ny2
   rw [aj ne]
   exact s36 _ _ hy3
  generalize ay H6 m0 (.lst []) = H7 at kn7 s17 hy7
  refine ⟨_, rfl, .inl ⟨rfl, _, SqL.of hy7⟩, b5, fun t0 nt0 => ⟨b5, fun t1 nt1 => ?_⟩⟩
  have sA := (Same.new (o := .tup [V.int 0]) nt0).to (o := .tup [.str "most", .int 1, .ref t0]) nt1
  generalize ay (ay H7 t0 (.tup [V.int 0])) t1 (.tup [.str "most", .int 1, .ref t0]) = H8 at sA
  have hy8 := sA _ _ hy7
  refine ⟨y2, _, _, rfl, rfl, hy8, iV (by rw [B4]; omega), ?_⟩
  have kn9 : ∀ a o, a ≠ m0 -> a ≠ y2 -> H4 a = some o -> ay H8 y2 (.lst (ts.map (fun x => V.ref x.1) ++ [V.ref t1])) a = some o := fun a o n n2 e => by
   rw [aj n2]
   exact sA _ _ (kn7 a o n e)
  have s19 : Same H1 (ay H8 y2 (.lst (ts.map (fun x => V.ref x.1) ++ [V.ref t1]))) := (s17.trans sA).put ny1
  generalize ay H8 y2 (.lst (ts.map (fun x => V.ref x.1) ++ [V.ref t1])) = H9 at kn9 s19
  have nw9 : ∀ a o, H3 a = none -> H4 a = some o -> H9 a = some o := fun a o n e => kn9 a o (fun z => by rw [z, hm0] at n; cases n) (fun z => by rw [z, hy3] at n; cases n) e
  have tp9 : ∀ a xs, H4 a = some (.tup xs) -> H9 a = some (.tup xs) := fun a xs e => kn9 a _ (fun z => by rw [z, s4 _ _ hm0] at e; cases e) (fun z => by rw [z, s4 _ _ hy3] at e; cases e) e
  have gd9 : vT H9 tf rows (ts.map cB) := by
   rcases td with ⟨v, pp, h1, pap, sh⟩ | ⟨l2, hs, v, h1, nl2, h2, ip, _⟩
   ·exact .inl ⟨v, pp, tp9 _ _ h1, PapAt.same pap fun z o e => nw9 z o (eP e).1 (eP e).2, sh⟩
   ·exact .inr ⟨l2, hs, v, tp9 _ _ h1, nw9 _ _ nl2 h2, ip⟩
  exact ⟨_, rfl, _, rfl, _, rfl, tf, l, y, rs, rows, bs, ts, rfl, s19 _ _ hl1, bl1.same s19, qb, tOk _ _ s19 (s19 _ _ hy), tG, gd9, fun H10 _ => q H10⟩
end
def Fd (K : PySem.W.Frag) (nm : Str) (st : Stmt) (f : Addr) : Prop := ∃ (od an : Option Addr) (sl : Array (Option Value)) (oc kV dc pm cd ct : Value), PySem.W.nsIn K mainGlobals nm = some (some (.ref f)) /\ K.lookup f = some ⟨oc, od, .func (PySem.W.fnOf nm nm (eG st) (dG st) (ar st) .none kV dc pm an cd ct), sl⟩ /\ PySem.W.codeIn K cd nm = true /\ PySem.W.keepIn K (.ref f) = true
theorem aO {K : PySem.W.Frag} {nm : Str} {st : Stmt} {f : Addr} {h : Heap} {mg : Str -> Option Value} {ps : List Str} (X : K.In h) (G : h.Ns mainGlobals mg) (q : Fd K nm st f) (hb : ∀ (kV dc pm : Value) (an : Option Addr) (cd ct : Value) (us : List Value), us.length = ps.length -> bindArgs (PySem.W.fnOf nm nm (eG st) (dG st) (ar st) .none kV dc pm an cd ct) ⟨us, []⟩ = pure (ps.zip us)) : ∃ fd, Def K mg nm st ps f fd /\ ∀ (s : Shared) (us : List Value), us.length = ps.length -> BindsTo s fd ⟨us, []⟩ (ps.zip us) := by
 obtain ⟨od, an, sl, oc, kV, dc, pm, cd, ct, a, l, c, k⟩ := q
 have F := yF (st := st) l c k
 exact ⟨_, ⟨F, F.binds hb, PySem.W.mg_of X G a⟩, fun s us hl => .of_eq (hb kV dc pm an cd ct us hl)⟩
theorem x6 {F : List Value -> Prop} {x0 : Str} (h : ∀ v0, F [v0]) : ∀ us : List Value, us.length = [x0].length -> F us := fun us hl => by obtain ⟨_, rfl⟩ := BR hl; exact h _
theorem o9 {F : List Value -> Prop} {x0 x1 : Str} (h : ∀ v0 v1, F [v0, v1]) : ∀ us : List Value, us.length = [x0, x1].length -> F us := fun us hl => by obtain ⟨_, _, rfl⟩ := BS hl; exact h _ _
theorem tZ {F : List Value -> Prop} {x0 x1 x2 : Str} (h : ∀ v0 v1 v2, F [v0, v1, v2]) : ∀ us : List Value, us.length = [x0, x1, x2].length -> F us := fun us hl => by obtain ⟨_, _, _, rfl⟩ := BU hl; exact h _ _ _
theorem AG {F : List Value -> Prop} {x0 x1 x2 x3 : Str} (h : ∀ v0 v1 v2 v3, F [v0, v1, v2, v3]) : ∀ us : List Value, us.length = [x0, x1, x2, x3].length -> F us := fun us hl => by obtain ⟨_, _, _, _, rfl⟩ := BV hl; exact h _ _ _ _
theorem Br {F : List Value -> Prop} {x0 x1 x2 x3 x4 : Str} (h : ∀ v0 v1 v2 v3 v4, F [v0, v1, v2, v3, v4]) : ∀ us : List Value, us.length = [x0, x1, x2, x3, x4].length -> F us := fun us hl => by obtain ⟨_, _, _, _, _, rfl⟩ := BW hl; exact h _ _ _ _ _
theorem aP {K : PySem.W.Frag} {nm : Str} {st : Stmt} {f : Addr} {od an : Option Addr} {sl : Array (Option Value)} {oc kV dc pm cd ct : Value} (a : PySem.W.nsIn K mainGlobals nm = some (some (.ref f))) (l : K.lookup f = some ⟨oc, od, .func (PySem.W.fnOf nm nm (eG st) (dG st) (ar st) .none kV dc pm an cd ct), sl⟩) (c : PySem.W.codeIn K cd nm = true) (k : PySem.W.keepIn K (.ref f) = true) : Fd K nm st f := ⟨od, an, sl, oc, kV, dc, pm, cd, ct, a, l, c, k⟩
theorem y9 {l : PySem.W.OpenLaw} {w : World} {K : PySem.W.Frag} {h : Heap} {mg : Str -> Option Value} {fa fl f0 f1 f2 f3 f4 f5 f6 f7 f8 f9 f10 f11 f12 f13 f14 f15 f16 f17 f18 f19 f20 f21 f22 f23 f24 f25 f26 f27 f28 f29 f30 f31 f32 f33 f34 f35 f36 f37 f38 f39 f40 f41 : Addr} (X : K.In h) (G : h.Ns mainGlobals mg) (hfa : mg "law" = some (.ref fa))
  (q0 : Fd K "common" kA f0)
  (q1 : Fd K "width" m5 f1)
  (q2 : Fd K "grown" m7 f2)
  (q3 : Fd K "breaks" kC f3)
  (q4 : Fd K "first_broken" dw f4)
  (q5 : Fd K "unlike" kD f5)
  (q6 : Fd K "pools_of" gr f6)
  (q7 : Fd K "pool_of" iM f7)
  (q8 : Fd K "may_of" kE f8)
  (q9 : Fd K "minutes_of" eR f9)
  (q10 : Fd K "sums" qw f10)
  (q11 : Fd K "sums_of" iN f11)
  (q12 : Fd K "added" m9 f12)
  (q13 : Fd K "deal" qy f13)
  (q14 : Fd K "settle" kF f14)
  (q15 : Fd K "short_places" dy f15)
  (q16 : Fd K "hands_of" gu f16)
  (q17 : Fd K "plan" qz f17)
  (q18 : Fd K "plan_from" fC f18)
  (q19 : Fd K "cheap" ng f19)
  (q20 : Fd K "serve" ni f20)
  (q21 : Fd K "nearest_badge" cV f21)
  (q22 : Fd K "raise_all" fD f22)
  (q23 : Fd K "hand_on" iO f23)
  (q24 : Fd K "quick" nq f24)
  (q25 : Fd K "quickest" gv f25)
  (q26 : Fd K "bearing" iP f26)
  (q27 : Fd K "_law_cell" gw f27)
  (q28 : Fd K "_law_entries" dO f28)
  (q29 : Fd K "_law_whole" fE f29)
  (q30 : Fd K "_law_badges" eU f30)
  (q31 : Fd K "_law_bill" gx f31)
  (q32 : Fd K "_law_ties" gy f32)
  (q33 : Fd K "_law_case" gA f33)
  (q34 : Fd K "_law_wide" gB f34)
  (q35 : Fd K "_law_pool" gC f35)
  (q36 : Fd K "_law_breaks" eV f36)
  (q37 : Fd K "_law_keeps" fF f37)
  (q38 : Fd K "_law_plan" gD f38)
  (q39 : Fd K "_law_short" fG f39)
  (q40 : Fd K "_law_shows" fH f40)
  (q41 : Fd K "_law_good" gE f41)
  (q42 : Fd K "law" vM fl)
  (z0 : PySem.W.nsIn K mainGlobals "bool" = some none)
  (z1 : PySem.W.nsIn K mainGlobals "dict" = some none)
  (z2 : PySem.W.nsIn K mainGlobals "int" = some none)
  (z3 : PySem.W.nsIn K mainGlobals "isinstance" = some none)
  (z4 : PySem.W.nsIn K mainGlobals "len" = some none)
  (z5 : PySem.W.nsIn K mainGlobals "list" = some none)
  (z6 : PySem.W.nsIn K mainGlobals "min" = some none)
  (z7 : PySem.W.nsIn K mainGlobals "range" = some none)
  (z8 : PySem.W.nsIn K mainGlobals "reversed" = some none)
  (z9 : PySem.W.nsIn K mainGlobals "set" = some none)
  (z10 : PySem.W.nsIn K mainGlobals "sorted" = some none)
  (z11 : PySem.W.nsIn K mainGlobals "sum" = some none)
  (z12 : PySem.W.nsIn K mainGlobals "tuple" = some none)
  (z13 : PySem.W.nsIn K mainGlobals "zip" = some none)
  : ∃ fd : FuncData, (∀ (s : Shared) (v : Value), BindsTo s fd ⟨[v], []⟩ [("script", v)]) /\ ∀ base : Heap, K.In base -> base.Ns mainGlobals mg -> FnOk l.prog w K mg base a9 59 fa fd ["script"] (nH K) := by
 obtain ⟨dl, Dl, Bl⟩ := aO (ps := ["script"]) X G q42 (fun _ _ _ _ _ _ => x6 fun _ => rfl)
 have e := hfa.symm.trans Dl.at'
 cases e
 have T : Txt mg := ⟨PySem.W.mg_none_of X G z0, PySem.W.mg_none_of X G z1, PySem.W.mg_none_of X G z2, PySem.W.mg_none_of X G z3, PySem.W.mg_none_of X G z4, PySem.W.mg_none_of X G z5, PySem.W.mg_none_of X G z6, PySem.W.mg_none_of X G z7, PySem.W.mg_none_of X G z8, PySem.W.mg_none_of X G z9, PySem.W.mg_none_of X G z10, PySem.W.mg_none_of X G z11, PySem.W.mg_none_of X G z12, PySem.W.mg_none_of X G z13⟩
 obtain ⟨d0, D0, -⟩ := aO (ps := ["one", "other"]) X G q0 (fun _ _ _ _ _ _ => o9 fun _ _ => rfl)
 obtain ⟨d1, D1, -⟩ := aO (ps := ["pattern"]) X G q1 (fun _ _ _ _ _ _ => x6 fun _ => rfl)
 obtain ⟨d2, D2, -⟩ := aO (ps := ["pattern"]) X G q2 (fun _ _ _ _ _ _ => x6 fun _ => rfl)
 obtain ⟨d3, D3, -⟩ := aO (ps := ["pattern", "tie"]) X G q3 (fun _ _ _ _ _ _ => o9 fun _ _ => rfl)
 obtain ⟨d4, D4, -⟩ := aO (ps := ["pattern", "ties"]) X G q4 (fun _ _ _ _ _ _ => o9 fun _ _ => rfl)
 obtain ⟨d5, D5, -⟩ := aO (ps := ["row", "steps"]) X G q5 (fun _ _ _ _ _ _ => o9 fun _ _ => rfl)
 obtain ⟨d6, D6, -⟩ := aO (ps := ["pattern", "may"]) X G q6 (fun _ _ _ _ _ _ => o9 fun _ _ => rfl)
 obtain ⟨d7, D7, -⟩ := aO (ps := ["block", "pattern", "may"]) X G q7 (fun _ _ _ _ _ _ => tZ fun _ _ _ => rfl)
 obtain ⟨d8, D8, -⟩ := aO (ps := ["bill"]) X G q8 (fun _ _ _ _ _ _ => x6 fun _ => rfl)
 obtain ⟨d9, D9, -⟩ := aO (ps := ["bill", "hands"]) X G q9 (fun _ _ _ _ _ _ => o9 fun _ _ => rfl)
 obtain ⟨d10, D10, -⟩ := aO (ps := ["pattern", "bill"]) X G q10 (fun _ _ _ _ _ _ => o9 fun _ _ => rfl)
 obtain ⟨d11, D11, -⟩ := aO (ps := ["block", "pattern", "bill"]) X G q11 (fun _ _ _ _ _ _ => tZ fun _ _ _ => rfl)
 obtain ⟨d12, D12, -⟩ := aO (ps := ["pairs", "minutes"]) X G q12 (fun _ _ _ _ _ _ => o9 fun _ _ => rfl)
 obtain ⟨d13, D13, -⟩ := aO (ps := ["pools"]) X G q13 (fun _ _ _ _ _ _ => x6 fun _ => rfl)
 obtain ⟨d14, D14, -⟩ := aO (ps := ["pools", "holders", "place", "asked"]) X G q14 (fun _ _ _ _ _ _ => AG fun _ _ _ _ => rfl)
 obtain ⟨d15, D15, -⟩ := aO (ps := ["holders", "place", "asked"]) X G q15 (fun _ _ _ _ _ _ => tZ fun _ _ _ => rfl)
 obtain ⟨d16, D16, -⟩ := aO (ps := ["holders", "count"]) X G q16 (fun _ _ _ _ _ _ => o9 fun _ _ => rfl)
 obtain ⟨d17, D17, -⟩ := aO (ps := ["may", "ties"]) X G q17 (fun _ _ _ _ _ _ => o9 fun _ _ => rfl)
 obtain ⟨d18, D18, -⟩ := aO (ps := ["pattern", "may", "ties"]) X G q18 (fun _ _ _ _ _ _ => tZ fun _ _ _ => rfl)
 obtain ⟨d19, D19, -⟩ := aO (ps := ["pools"]) X G q19 (fun _ _ _ _ _ _ => x6 fun _ => rfl)
 obtain ⟨d20, D20, -⟩ := aO (ps := ["pools", "hands", "prices", "dues", "place"]) X G q20 (fun _ _ _ _ _ _ => Br fun _ _ _ _ _ => rfl)
 obtain ⟨d21, D21, -⟩ := aO (ps := ["pools", "prices", "dues", "reached", "askers"]) X G q21 (fun _ _ _ _ _ _ => Br fun _ _ _ _ _ => rfl)
 obtain ⟨d22, D22, -⟩ := aO (ps := ["numbers", "keys", "gap"]) X G q22 (fun _ _ _ _ _ _ => tZ fun _ _ _ => rfl)
 obtain ⟨d23, D23, -⟩ := aO (ps := ["hands", "askers", "badge"]) X G q23 (fun _ _ _ _ _ _ => tZ fun _ _ _ => rfl)
 obtain ⟨d24, D24, -⟩ := aO (ps := ["bill", "ties"]) X G q24 (fun _ _ _ _ _ _ => o9 fun _ _ => rfl)
 obtain ⟨d25, D25, -⟩ := aO (ps := ["pattern", "bill", "ties", "known"]) X G q25 (fun _ _ _ _ _ _ => AG fun _ _ _ _ => rfl)
 obtain ⟨d26, D26, -⟩ := aO (ps := ["pattern", "bill", "ties", "bound"]) X G q26 (fun _ _ _ _ _ _ => AG fun _ _ _ _ => rfl)
 obtain ⟨d27, D27, -⟩ := aO (ps := ["script", "k"]) X G q27 (fun _ _ _ _ _ _ => o9 fun _ _ => rfl)
 obtain ⟨d28, D28, -⟩ := aO (ps := ["script", "size"]) X G q28 (fun _ _ _ _ _ _ => o9 fun _ _ => rfl)
 obtain ⟨d29, D29, -⟩ := aO (ps := ["found"]) X G q29 (fun _ _ _ _ _ _ => x6 fun _ => rfl)
 obtain ⟨d30, D30, -⟩ := aO (ps := ["cells", "gap", "high"]) X G q30 (fun _ _ _ _ _ _ => tZ fun _ _ _ => rfl)
 obtain ⟨d31, D31, -⟩ := aO (ps := ["cells", "badges", "dense", "top", "count"]) X G q31 (fun _ _ _ _ _ _ => Br fun _ _ _ _ _ => rfl)
 obtain ⟨d32, D32, -⟩ := aO (ps := ["cells", "count"]) X G q32 (fun _ _ _ _ _ _ => o9 fun _ _ => rfl)
 obtain ⟨d33, D33, -⟩ := aO (ps := ["script", "sizes", "tops"]) X G q33 (fun _ _ _ _ _ _ => tZ fun _ _ _ => rfl)
 obtain ⟨d34, D34, -⟩ := aO (ps := ["pattern"]) X G q34 (fun _ _ _ _ _ _ => x6 fun _ => rfl)
 obtain ⟨d35, D35, -⟩ := aO (ps := ["block", "pattern", "bill"]) X G q35 (fun _ _ _ _ _ _ => tZ fun _ _ _ => rfl)
 obtain ⟨d36, D36, -⟩ := aO (ps := ["pattern", "tie"]) X G q36 (fun _ _ _ _ _ _ => o9 fun _ _ => rfl)
 obtain ⟨d37, D37, -⟩ := aO (ps := ["hands", "tie"]) X G q37 (fun _ _ _ _ _ _ => o9 fun _ _ => rfl)
 obtain ⟨d38, D38, -⟩ := aO (ps := ["hands", "bill", "ties"]) X G q38 (fun _ _ _ _ _ _ => tZ fun _ _ _ => rfl)
 obtain ⟨d39, D39, -⟩ := aO (ps := ["blocks", "pattern", "bill"]) X G q39 (fun _ _ _ _ _ _ => tZ fun _ _ _ => rfl)
 obtain ⟨d40, D40, -⟩ := aO (ps := ["pattern", "bill", "ties", "paper"]) X G q40 (fun _ _ _ _ _ _ => AG fun _ _ _ _ => rfl)
 obtain ⟨d41, D41, -⟩ := aO (ps := ["found", "bill", "ties"]) X G q41 (fun _ _ _ _ _ _ => tZ fun _ _ _ => rfl)
 exact ⟨dl, fun s v => Bl s [v] rfl, fun base _ _ => y8 (aF := fun i => List.getD [f0, f1, f2, f3, f4, f5, f6, f7, f8, f9, f10, f11, f12, f13, f14, f15, f16, f17, f18, f19, f20, f21, f22, f23, f24, f25, f26, f27, f28, f29, f30, f31, f32, f33, f34, f35, f36, f37, f38, f39, f40, f41, fa] i fa) (dF := fun i => List.getD [d0, d1, d2, d3, d4, d5, d6, d7, d8, d9, d10, d11, d12, d13, d14, d15, d16, d17, d18, d19, d20, d21, d22, d23, d24, d25, d26, d27, d28, d29, d30, d31, d32, d33, d34, d35, d36, d37, d38, d39, d40, d41, dl] i dl) ⟨D0, D1, D2, D3, D4, D5, D6, D7, D8, D9, D10, D11, D12, D13, D14, D15, D16, D17, D18, D19, D20, D21, D22, D23, D24, D25, D26, D27, D28, D29, D30, D31, D32, D33, D34, D35, D36, D37, D38, D39, D40, D41, Dl⟩ T⟩
theorem walk {l : PySem.W.OpenLaw} {q : Program} {loose : List Str} {XP : (Str -> Option Value) -> Heap -> Prop} {YP : World -> Heap -> Prop} {d : DefRec} {K : Params -> PySem.W.Frag} (hn : l.most = some 63) (hdf : d.params.defaults = [])
  (hY : ∀ (w : World) (h : Heap), YP w h -> (K w.params).In h)
  (F : ∀ (w : World) (mg : Str -> Option Value) (fa : Addr) (h : Heap), (K w.params).In h -> h.Ns mainGlobals mg -> mg d.name = some (.ref fa) ->
   ∃ fd : FuncData, (∀ (s : Shared) (u : Value), BindsTo s fd ⟨[u], []⟩ [("script", u)]) /\ ∀ base : Heap, (K w.params).In base -> base.Ns mainGlobals mg -> FnOk l.prog w (K w.params) mg base a9 59 fa fd ["script"] (nH (K w.params))) :
  PySem.W.WalkO q loose XP YP l.row.toRowW d [] (fun f vs => PySem.call f vs) :=
 L2.wB (n := 63) (k := 59) (x := "script") (CX := fun _ => a9) (sp := fun w => nH (K w.params)) hn (by decide) hdf ⟨rfl, by decide, by decide⟩ hY F (fun _ _ a ns hl _ hS => ⟨a, ns, rfl, hS, hl, fun _ => rfl⟩) fun _ _ _ _ _ z => z
end My
theorem PySem.W.Fast.tw10021049832422565588 : True := trivial
theorem PySem.W.Fast.tw10063801872827656654 : True := trivial
theorem PySem.W.Fast.tw10369463648303325679 : True := trivial
theorem PySem.W.Fast.tw10535388586638532452 : True := trivial
theorem PySem.W.Fast.tw10617109630484520293 : True := trivial
theorem PySem.W.Fast.tw10658304595689124272 : True := trivial
theorem PySem.W.Fast.tw10812990234530381110 : True := trivial
theorem PySem.W.Fast.tw10910625564748048507 : True := trivial
theorem PySem.W.Fast.tw11162430856824832045 : True := trivial
theorem PySem.W.Fast.tw11226671033146631718 : True := trivial
theorem PySem.W.Fast.tw11246850528233946401 : True := trivial
theorem PySem.W.Fast.tw11400433432055824124 : True := trivial
theorem PySem.W.Fast.tw11491080556019466487 : True := trivial
theorem PySem.W.Fast.tw11565529461288850824 : True := trivial
theorem PySem.W.Fast.tw11610996791812059458 : True := trivial
theorem PySem.W.Fast.tw11750379067363372109 : True := trivial
theorem PySem.W.Fast.tw1175052866817711730 : True := trivial
theorem PySem.W.Fast.tw11841200711665102960 : True := trivial
theorem PySem.W.Fast.tw11843414236715482961 : True := trivial
theorem PySem.W.Fast.tw11939601755757833271 : True := trivial
theorem PySem.W.Fast.tw12584531168743409238 : True := trivial
theorem PySem.W.Fast.tw12612394549124621003 : True := trivial
theorem PySem.W.Fast.tw1277014409158679486 : True := trivial
theorem PySem.W.Fast.tw12784002959995797777 : True := trivial
theorem PySem.W.Fast.tw12986256039556259534 : True := trivial
theorem PySem.W.Fast.tw13173976057044933629 : True := trivial
theorem PySem.W.Fast.tw13235192621122953176 : True := trivial
theorem PySem.W.Fast.tw1325430776433745973 : True := trivial
theorem PySem.W.Fast.tw1331348759168911289 : True := trivial
theorem PySem.W.Fast.tw13398254238880625417 : True := trivial
theorem PySem.W.Fast.tw13407517153769513354 : True := trivial
theorem PySem.W.Fast.tw13905790027739662032 : True := trivial
theorem PySem.W.Fast.tw14204688386570067649 : True := trivial
theorem PySem.W.Fast.tw14462510351716916149 : True := trivial
theorem PySem.W.Fast.tw14641927815725796734 : True := trivial
theorem PySem.W.Fast.tw14664697697779565689 : True := trivial
theorem PySem.W.Fast.tw14748080969649277152 : True := trivial
theorem PySem.W.Fast.tw14808527999313566886 : True := trivial
theorem PySem.W.Fast.tw14821391752706269645 : True := trivial
theorem PySem.W.Fast.tw1511663480068075492 : True := trivial
theorem PySem.W.Fast.tw15170740627441170508 : True := trivial
theorem PySem.W.Fast.tw15249601929469043492 : True := trivial
theorem PySem.W.Fast.tw15254317955517553801 : True := trivial
theorem PySem.W.Fast.tw15282629220325408847 : True := trivial
theorem PySem.W.Fast.tw15482121916430199329 : True := trivial
theorem PySem.W.Fast.tw15613244331819407972 : True := trivial
theorem PySem.W.Fast.tw15664856346239425840 : True := trivial
theorem PySem.W.Fast.tw15863180519611604503 : True := trivial
theorem PySem.W.Fast.tw15869253273662375672 : True := trivial
theorem PySem.W.Fast.tw15915510817510477266 : True := trivial
theorem PySem.W.Fast.tw15957235856980250324 : True := trivial
theorem PySem.W.Fast.tw16005681364832783166 : True := trivial
theorem PySem.W.Fast.tw16011055569881373933 : True := trivial
theorem PySem.W.Fast.tw16063756906474911056 : True := trivial
theorem PySem.W.Fast.tw16180483794272801931 : True := trivial
theorem PySem.W.Fast.tw16254555964694369439 : True := trivial
theorem PySem.W.Fast.tw16320173017411304285 : True := trivial
theorem PySem.W.Fast.tw16332186352266545514 : True := trivial
theorem PySem.W.Fast.tw16598618414270377236 : True := trivial
theorem PySem.W.Fast.tw16655743650959910500 : True := trivial
theorem PySem.W.Fast.tw16790669980017256828 : True := trivial
theorem PySem.W.Fast.tw16936851739993759712 : True := trivial
theorem PySem.W.Fast.tw16984718646857095132 : True := trivial
theorem PySem.W.Fast.tw17242094328945859768 : True := trivial
theorem PySem.W.Fast.tw17302800709836976977 : True := trivial
theorem PySem.W.Fast.tw17408086764343503239 : True := trivial
theorem PySem.W.Fast.tw17436761922663825271 : True := trivial
theorem PySem.W.Fast.tw17495036317350115573 : True := trivial
theorem PySem.W.Fast.tw17542726939648338564 : True := trivial
theorem PySem.W.Fast.tw1756833004908909847 : True := trivial
theorem PySem.W.Fast.tw17618454604838121067 : True := trivial
theorem PySem.W.Fast.tw17753970188850911506 : True := trivial
theorem PySem.W.Fast.tw1775788013300696121 : True := trivial
theorem PySem.W.Fast.tw17815077490434506490 : True := trivial
theorem PySem.W.Fast.tw17995727659908941862 : True := trivial
theorem PySem.W.Fast.tw18162415315670278106 : True := trivial
theorem PySem.W.Fast.tw18176813978873699361 : True := trivial
theorem PySem.W.Fast.tw18184606286084266209 : True := trivial
theorem PySem.W.Fast.tw18214756586578826925 : True := trivial
theorem PySem.W.Fast.tw1872329749049880004 : True := trivial
theorem PySem.W.Fast.tw1878312490209746721 : True := trivial
theorem PySem.W.Fast.tw1923061711451355600 : True := trivial
theorem PySem.W.Fast.tw2043733025966400496 : True := trivial
theorem PySem.W.Fast.tw2123006540258626949 : True := trivial
theorem PySem.W.Fast.tw2135992222377466801 : True := trivial
theorem PySem.W.Fast.tw2195226364523483305 : True := trivial
theorem PySem.W.Fast.tw2224497135888151090 : True := trivial
theorem PySem.W.Fast.tw2315675836770906447 : True := trivial
theorem PySem.W.Fast.tw2340366106409310696 : True := trivial
theorem PySem.W.Fast.tw2344355978014262192 : True := trivial
theorem PySem.W.Fast.tw2531657294461268412 : True := trivial
theorem PySem.W.Fast.tw2950492796761421503 : True := trivial
theorem PySem.W.Fast.tw3066217194172802793 : True := trivial
theorem PySem.W.Fast.tw3203247600924684413 : True := trivial
theorem PySem.W.Fast.tw3215245024769343264 : True := trivial
theorem PySem.W.Fast.tw3612855374953545760 : True := trivial
theorem PySem.W.Fast.tw3706487044393562845 : True := trivial
theorem PySem.W.Fast.tw3756788191231282319 : True := trivial
theorem PySem.W.Fast.tw3831790781289209874 : True := trivial
theorem PySem.W.Fast.tw3894902897265644674 : True := trivial
theorem PySem.W.Fast.tw3929099477613021330 : True := trivial
theorem PySem.W.Fast.tw398661248608599494 : True := trivial
theorem PySem.W.Fast.tw4024341521204835162 : True := trivial
theorem PySem.W.Fast.tw412048927676900595 : True := trivial
theorem PySem.W.Fast.tw4195598471994137051 : True := trivial
theorem PySem.W.Fast.tw45181173538723389 : True := trivial
theorem PySem.W.Fast.tw4572911699348168671 : True := trivial
theorem PySem.W.Fast.tw465906035152451956 : True := trivial
theorem PySem.W.Fast.tw4667200221527433215 : True := trivial
theorem PySem.W.Fast.tw4712630395998012732 : True := trivial
theorem PySem.W.Fast.tw477851600868425153 : True := trivial
theorem PySem.W.Fast.tw4839993533819572336 : True := trivial
theorem PySem.W.Fast.tw4854368562977760101 : True := trivial
theorem PySem.W.Fast.tw4860431128738704722 : True := trivial
theorem PySem.W.Fast.tw4952258783316914507 : True := trivial
theorem PySem.W.Fast.tw4983045098823788813 : True := trivial
theorem PySem.W.Fast.tw5020060311109058945 : True := trivial
theorem PySem.W.Fast.tw5135770787128846965 : True := trivial
theorem PySem.W.Fast.tw5177229713416753960 : True := trivial
theorem PySem.W.Fast.tw527630163294147759 : True := trivial
theorem PySem.W.Fast.tw5319615355376973337 : True := trivial
theorem PySem.W.Fast.tw5391073323728463166 : True := trivial
theorem PySem.W.Fast.tw5507197135794861444 : True := trivial
theorem PySem.W.Fast.tw5555140914024211122 : True := trivial
theorem PySem.W.Fast.tw561611515183878197 : True := trivial
theorem PySem.W.Fast.tw5631606175692106532 : True := trivial
theorem PySem.W.Fast.tw5656504562448402316 : True := trivial
theorem PySem.W.Fast.tw5664366155615061367 : True := trivial
theorem PySem.W.Fast.tw5725446392350729240 : True := trivial
theorem PySem.W.Fast.tw5892156474748405195 : True := trivial
theorem PySem.W.Fast.tw590106993557304446 : True := trivial
theorem PySem.W.Fast.tw6067578741430685323 : True := trivial
theorem PySem.W.Fast.tw6316298019917390450 : True := trivial
theorem PySem.W.Fast.tw651669089379761789 : True := trivial
theorem PySem.W.Fast.tw6551928047701680894 : True := trivial
theorem PySem.W.Fast.tw6733664144446866699 : True := trivial
theorem PySem.W.Fast.tw6854884090949471515 : True := trivial
theorem PySem.W.Fast.tw6929686737898054088 : True := trivial
theorem PySem.W.Fast.tw6961575341817693182 : True := trivial
theorem PySem.W.Fast.tw7135584716650744522 : True := trivial
theorem PySem.W.Fast.tw7190672778575138503 : True := trivial
theorem PySem.W.Fast.tw7197936223465557702 : True := trivial
theorem PySem.W.Fast.tw754371284077171715 : True := trivial
theorem PySem.W.Fast.tw7613998141524272097 : True := trivial
theorem PySem.W.Fast.tw7687579150188066565 : True := trivial
theorem PySem.W.Fast.tw7743927161176917831 : True := trivial
theorem PySem.W.Fast.tw7744097219344697379 : True := trivial
theorem PySem.W.Fast.tw7762537905797207471 : True := trivial
theorem PySem.W.Fast.tw790639806354634985 : True := trivial
theorem PySem.W.Fast.tw7976405174299891397 : True := trivial
theorem PySem.W.Fast.tw8239064699826598873 : True := trivial
theorem PySem.W.Fast.tw8248790609277654408 : True := trivial
theorem PySem.W.Fast.tw8308603100043280234 : True := trivial
theorem PySem.W.Fast.tw8437112621986157573 : True := trivial
theorem PySem.W.Fast.tw8462424590809383573 : True := trivial
theorem PySem.W.Fast.tw8558622021578462453 : True := trivial
theorem PySem.W.Fast.tw8645566493790856511 : True := trivial
theorem PySem.W.Fast.tw8739414245826716336 : True := trivial
theorem PySem.W.Fast.tw8917747280734706019 : True := trivial
theorem PySem.W.Fast.tw9028581642332178270 : True := trivial
theorem PySem.W.Fast.tw9065987059741093634 : True := trivial
theorem PySem.W.Fast.tw9135884890618333562 : True := trivial
theorem PySem.W.Fast.tw9148450545139354417 : True := trivial
theorem PySem.W.Fast.tw9336861326399839664 : True := trivial
theorem PySem.W.Fast.tw9377852076377131427 : True := trivial
theorem PySem.W.Fast.tw9723205717351745443 : True := trivial
theorem PySem.W.Fast.tw9814811192719858696 : True := trivial
theorem PySem.W.Fast.tw9815182634500858115 : True := trivial
theorem PySem.W.Fast.tw9900208601713635498 : True := trivial
open PySem PySem.W PyProof.Rows
set_option maxRecDepth 100000 in
set_option maxHeartbeats 0 in
theorem PySem.Challenge.cw_deskround_k37_plan_or_paper_holds : PySem.Challenge.rw_deskround_k37_plan_or_paper.Holds := by
 w_on; o_law; k_head; (case hw => w_witness2)
 k_fill
 refine My.walk (l := PySem.Challenge.rw_deskround_k37_plan_or_paper) rfl rfl (fun w h Y => PySem.W.kIn_of Y) ?F
 case F =>
  intro w mg fa h KX G hmg
  refine' My.y9 KX G hmg ?q0 ?q1 ?q2 ?q3 ?q4 ?q5 ?q6 ?q7 ?q8 ?q9 ?q10 ?q11 ?q12 ?q13 ?q14 ?q15 ?q16 ?q17 ?q18 ?q19 ?q20 ?q21 ?q22 ?q23 ?q24 ?q25 ?q26 ?q27 ?q28 ?q29 ?q30 ?q31 ?q32 ?q33 ?q34 ?q35 ?q36 ?q37 ?q38 ?q39 ?q40 ?q41 ?q42 ?z0 ?z1 ?z2 ?z3 ?z4 ?z5 ?z6 ?z7 ?z8 ?z9 ?z10 ?z11 ?z12 ?z13
  (case q0 => refine' My.aP ?a ?l ?c ?k; (case a => k_is); (case l => k_is); (case c => k_is); (case k => k_is))
  (case q1 => refine' My.aP ?a ?l ?c ?k; (case a => k_is); (case l => k_is); (case c => k_is); (case k => k_is))
  (case q2 => refine' My.aP ?a ?l ?c ?k; (case a => k_is); (case l => k_is); (case c => k_is); (case k => k_is))
  (case q3 => refine' My.aP ?a ?l ?c ?k; (case a => k_is); (case l => k_is); (case c => k_is); (case k => k_is))
  (case q4 => refine' My.aP ?a ?l ?c ?k; (case a => k_is); (case l => k_is); (case c => k_is); (case k => k_is))
  (case q5 => refine' My.aP ?a ?l ?c ?k; (case a => k_is); (case l => k_is); (case c => k_is); (case k => k_is))
  (case q6 => refine' My.aP ?a ?l ?c ?k; (case a => k_is); (case l => k_is); (case c => k_is); (case k => k_is))
  (case q7 => refine' My.aP ?a ?l ?c ?k; (case a => k_is); (case l => k_is); (case c => k_is); (case k => k_is))
  (case q8 => refine' My.aP ?a ?l ?c ?k; (case a => k_is); (case l => k_is); (case c => k_is); (case k => k_is))
  (case q9 => refine' My.aP ?a ?l ?c ?k; (case a => k_is); (case l => k_is); (case c => k_is); (case k => k_is))
  (case q10 => refine' My.aP ?a ?l ?c ?k; (case a => k_is); (case l => k_is); (case c => k_is); (case k => k_is))
  (case q11 => refine' My.aP ?a ?l ?c ?k; (case a => k_is); (case l => k_is); (case c => k_is); (case k => k_is))
  (case q12 => refine' My.aP ?a ?l ?c ?k; (case a => k_is); (case l => k_is); (case c => k_is); (case k => k_is))
  (case q13 => refine' My.aP ?a ?l ?c ?k; (case a => k_is); (case l => k_is); (case c => k_is); (case k => k_is))
  (case q14 => refine' My.aP ?a ?l ?c ?k; (case a => k_is); (case l => k_is); (case c => k_is); (case k => k_is))
  (case q15 => refine' My.aP ?a ?l ?c ?k; (case a => k_is); (case l => k_is); (case c => k_is); (case k => k_is))
  (case q16 => refine' My.aP ?a ?l ?c ?k; (case a => k_is); (case l => k_is); (case c => k_is); (case k => k_is))
  (case q17 => refine' My.aP ?a ?l ?c ?k; (case a => k_is); (case l => k_is); (case c => k_is); (case k => k_is))
  (case q18 => refine' My.aP ?a ?l ?c ?k; (case a => k_is); (case l => k_is); (case c => k_is); (case k => k_is))
  (case q19 => refine' My.aP ?a ?l ?c ?k; (case a => k_is); (case l => k_is); (case c => k_is); (case k => k_is))
  (case q20 => refine' My.aP ?a ?l ?c ?k; (case a => k_is); (case l => k_is); (case c => k_is); (case k => k_is))
  (case q21 => refine' My.aP ?a ?l ?c ?k; (case a => k_is); (case l => k_is); (case c => k_is); (case k => k_is))
  (case q22 => refine' My.aP ?a ?l ?c ?k; (case a => k_is); (case l => k_is); (case c => k_is); (case k => k_is))
  (case q23 => refine' My.aP ?a ?l ?c ?k; (case a => k_is); (case l => k_is); (case c => k_is); (case k => k_is))
  (case q24 => refine' My.aP ?a ?l ?c ?k; (case a => k_is); (case l => k_is); (case c => k_is); (case k => k_is))
  (case q25 => refine' My.aP ?a ?l ?c ?k; (case a => k_is); (case l => k_is); (case c => k_is); (case k => k_is))
  (case q26 => refine' My.aP ?a ?l ?c ?k; (case a => k_is); (case l => k_is); (case c => k_is); (case k => k_is))
  (case q27 => refine' My.aP ?a ?l ?c ?k; (case a => k_is); (case l => k_is); (case c => k_is); (case k => k_is))
  (case q28 => refine' My.aP ?a ?l ?c ?k; (case a => k_is); (case l => k_is); (case c => k_is); (case k => k_is))
  (case q29 => refine' My.aP ?a ?l ?c ?k; (case a => k_is); (case l => k_is); (case c => k_is); (case k => k_is))
  (case q30 => refine' My.aP ?a ?l ?c ?k; (case a => k_is); (case l => k_is); (case c => k_is); (case k => k_is))
  (case q31 => refine' My.aP ?a ?l ?c ?k; (case a => k_is); (case l => k_is); (case c => k_is); (case k => k_is))
  (case q32 => refine' My.aP ?a ?l ?c ?k; (case a => k_is); (case l => k_is); (case c => k_is); (case k => k_is))
  (case q33 => refine' My.aP ?a ?l ?c ?k; (case a => k_is); (case l => k_is); (case c => k_is); (case k => k_is))
  (case q34 => refine' My.aP ?a ?l ?c ?k; (case a => k_is); (case l => k_is); (case c => k_is); (case k => k_is))
  (case q35 => refine' My.aP ?a ?l ?c ?k; (case a => k_is); (case l => k_is); (case c => k_is); (case k => k_is))
  (case q36 => refine' My.aP ?a ?l ?c ?k; (case a => k_is); (case l => k_is); (case c => k_is); (case k => k_is))
  (case q37 => refine' My.aP ?a ?l ?c ?k; (case a => k_is); (case l => k_is); (case c => k_is); (case k => k_is))
  (case q38 => refine' My.aP ?a ?l ?c ?k; (case a => k_is); (case l => k_is); (case c => k_is); (case k => k_is))
  (case q39 => refine' My.aP ?a ?l ?c ?k; (case a => k_is); (case l => k_is); (case c => k_is); (case k => k_is))
  (case q40 => refine' My.aP ?a ?l ?c ?k; (case a => k_is); (case l => k_is); (case c => k_is); (case k => k_is))
  (case q41 => refine' My.aP ?a ?l ?c ?k; (case a => k_is); (case l => k_is); (case c => k_is); (case k => k_is))
  (case q42 => refine' My.aP ?a ?l ?c ?k; (case a => k_is); (case l => k_is); (case c => k_is); (case k => k_is))
  (case z0 => k_is); (case z1 => k_is); (case z2 => k_is); (case z3 => k_is); (case z4 => k_is); (case z5 => k_is); (case z6 => k_is); (case z7 => k_is); (case z8 => k_is); (case z9 => k_is); (case z10 => k_is); (case z11 => k_is); (case z12 => k_is); (case z13 => k_is)
end
