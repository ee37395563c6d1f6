import PyProof.Rows.All
import Wide.All
import OpenK.AllK
import Wide.FinOn
import Lean
import PyProof.EqAt
import PyProof.EqKinds
import PyProof.TupleCall
import PyProof.NeKinds
import PyProof.DictWalks
import PyProof.DictItems
import PyProof.CollectWalk
import KE.KDictList
import PyProof.AutoSeq1
import PyProof.Rows.Range3
import KE.KUnpack
import PyProof.MeetsSeq2
import PyProof.ZipIter
import KE.KRevSl
import PyProof.MeetsSeq
import PyProof.EnumMake
import PyProof.EnumFor
import PyProof.EnumStmt
import PyProof.MinMaxWalk
import PyProof.WalkInts
import PyProof.SumAny
import KE.KRevIter
import PyProof.Rows.FactsT2
import PyProof.IsiH_list
import PyProof.AttrMiss
import KE.KDictOf
import PyProof.ListRange
import KE.KDictLaws
import KE.KSortTup
import KE.KItemsList
import PyProof.ExcArgs
import KE.KSortKey
import KE.KMinKey
import PySem.Challenge.RW_deskround_k36_what_is_no_paper
set_option bootstrap.genMatcherCode false
set_option genSizeOf false
noncomputable section
open List renaming length_map->zZ,getElem?_eq_getElem->Aa,getD_eq_getElem?_getD->Ab,getElem?_eq_some_iff->Ac,range->Ad,getElem?_map->Ae,mem_of_getElem?->Ah,length_append->Ai,size_toArray->Ak,mem_cons->Al,mem_singleton->Am,mem_iff_getElem->Ap,length_singleton->Aq,all_eq_true->As,map_map->Au,mem_cons_of_mem->Av,map_append->Aw,getElem_mem->Ax,mem_cons_self->Ay,length_eq_zero_iff->AA,length_range->AD,mem_append_right->AE,filter_eq_self->AG,mem_append->AH,mem_map->AI,mem_range->AJ,not_mem_nil->AK,length_filter_le->AL,getElem?_append_left->AM,getElem?_range->AN,lookup_cons->AO,mem_filter->AQ,filter_append->AS,getElem?_append_right->AU,mem_iff_getElem?->AV,getElem?_eq_none->AY,range_succ->A0,take_length->A3,length_take->A6,take_of_length_le->A7,length_cons->Ba,ext_getElem->Bb,mem_append_left->Bc,map_cons->Bd,take_add_one->Be,getElem?_set_self->Bf,filterMap_cons->Bg,map_congr_left->Bh,find?_cons->Bi,pairwise_iff_getElem->Bj,length_drop->Bk,append_nil->Bo,length_set->Bp,filter_cons->Bq,mem_filterMap->Br,findIdx?_eq_some_iff_getElem->Bt,getElem_map->By,pairwise_singleton->Bz,getElem_range->BC,nodup_cons->BD,take_zero->BG,filter_map->BJ,filter_nil->BK,ext_getElem?->BN,drop_of_length_le->BO,findIdx_lt_length_of_exists->BP,take_append_drop->BQ,filter->BS,getElem?_set_ne->BU,nodup_nil->BW,length_eraseIdx_of_lt->BY,getElem_take->B0,of_mem_zip->B3,foldl_cons->B4
open Nat renaming le_refl->Af,ne_of_lt->Ar,zero_le->Az,lt_of_lt_of_le->AB,le_trans->AC,lt_succ_of_lt->AX,sub_succ_lt_self->AZ,lt_succ_self->A1,lt_irrefl->A4,le_of_lt->A5,le_of_not_lt->A9,le_antisymm->Bn,ne_of_gt->Bv,sub_self->BB,min_eq_left->BE,min_eq_right->BH,not_lt->BL,lt_of_le_of_lt->BM,le_add_right->BR,add_le_add_left->BV,mod_lt->B1,zero_add->B2,le_succ->B5
open Bool renaming false_ne_true->Ag,false_and->Ao,false_eq_true->AR,not_eq_true->Bm,and_eq_true->Bx,eq_iff_iff->BI
open Array renaming length_toList->Aj,getElem?_eq_getElem->AW,getElem_toList->Bw,getElem?_toList->BF,toList_push->BZ,getD->B6
open Option renaming map_eq_some_iff->An,isSome_iff_exists->A8
open Int renaming toNat_natCast->AF,emod_lt_of_pos->Bs,emod_nonneg->Bu,fdiv_eq_ediv_of_nonneg->BX
set_option Elab.async false
set_option linter.all false
set_option maxRecDepth 100000
namespace L2
open PySem PySem.Spec PyProof.Rows
abbrev cO:=Sum Int Str
def j8:cO->Value->Bool
 | .inl k,v=>Value.isInt k v
 | .inr x,v=>Value.isStrOf x v
def yS (w:World):cO->Int
 | .inl k=>hashInt k
 | .inr x=>hashStr w x
theorem bw:∀{k:cO} {v:Value},j8 k v=true->(∃i t,k=Sum.inl i/\v=Value.int i t)\/(∃x t,k=Sum.inr x/\v=Value.str x t)
 | .inl i,v,h=>by
  obtain⟨t,e⟩:=Value.isInt_shape (k:=i) (v:=v) h
  exact .inl ⟨i,t,rfl,e⟩
 | .inr x,v,h=>by
  obtain⟨t,e⟩:=Value.isStrOf_shape (x:=x) (v:=v) h
  exact .inr ⟨x,t,rfl,e⟩
theorem qh (i:Int) (t:Tok):j8 (.inl i) (.int i t)=true:=by simp[j8,Value.isInt]
theorem qi (x:Str) (t:Tok):j8 (.inr x) (.str x t)=true:=by simp[j8,Value.isStrOf]
theorem we (a b:Int):decide ((Sum.inl a:cO)=Sum.inl b)=(a==b):=by
 by_cases e:a=b
 ·subst e;simp
 ·have h:¬(Sum.inl a:cO)=Sum.inl b:=fun q=>e (Sum.inl.inj q)
  rw[decide_eq_false h]
  exact(beq_eq_false_iff_ne.mpr e).symm
theorem wg (a b:Str):decide ((Sum.inr a:cO)=Sum.inr b)=decide (a=b):=by
 by_cases e:a=b
 ·subst e;simp
 ·have h:¬(Sum.inr a:cO)=Sum.inr b:=fun q=>e (Sum.inr.inj q)
  rw[decide_eq_false h,decide_eq_false e]
theorem wj (a:Int) (b:Str):decide ((Sum.inl a:cO)=Sum.inr b)=false:=decide_eq_false (fun q=>nomatch q)
theorem wk (a:Str) (b:Int):decide ((Sum.inr a:cO)=Sum.inl b)=false:=decide_eq_false (fun q=>nomatch q)
def bc (prog:Program) (w:World):PySem.KeyKind prog w cO where
 is:=j8
 hash:=yS w
 inj:=fun v a b ha hb=>by
  rcases bw ha with⟨i,t,rfl,rfl⟩ | ⟨x,t,rfl,rfl⟩
  ·rcases bw hb with⟨j,u,rfl,e⟩ | ⟨y,u,rfl,e⟩
   ·injection e with e1 _;rw[e1]
   ·exact nomatch e
  ·rcases bw hb with⟨j,u,rfl,e⟩ | ⟨y,u,rfl,e⟩
   ·exact nomatch e
   ·injection e with e1 _;rw[e1]
 byValue:=fun k v h=>by
  rcases bw h with⟨i,t,rfl,rfl⟩ | ⟨x,t,rfl,rfl⟩<;>rfl
 pyHash:=fun hv h=>by
  rcases bw hv with⟨i,t,rfl,rfl⟩ | ⟨x,t,rfl,rfl⟩
  ·exact wpAny_pyHash_int h
  ·exact wpAny_pyHash_str h
 eqBool:=fun hu hv h=>by
  rcases bw hu with⟨i,t,rfl,rfl⟩ | ⟨x,t,rfl,rfl⟩
  ·rcases bw hv with⟨j,u,rfl,rfl⟩ | ⟨y,u,rfl,rfl⟩
   ·rw [we]at h;exact wpAny_eqBool_int h
   ·rw [wj]at h;exact SeqAt.EqAt.int_str i t y u _ _ _ _ h
  ·rcases bw hv with⟨j,u,rfl,rfl⟩ | ⟨y,u,rfl,rfl⟩
   ·rw [wk]at h;exact SeqAt.EqAt.str_int x t j u _ _ _ _ h
   ·rw [wg]at h;exact wpAny_eqBool_str h
 «strs»:=fun k x t v h=>by
  rcases bw h with⟨i,u,rfl,e⟩ | ⟨y,u,rfl,e⟩
  ·exact nomatch e
  ·injection e with e1 _
   subst e1
   cases v<;>rfl
theorem mH (prog:Program) (w:World) (i:Int) (t:Tok):(bc prog w).is (.inl i) (.int i t)=true:=qh i t
theorem mI (prog:Program) (w:World) (x:Str) (t:Tok):(bc prog w).is (.inr x) (.str x t)=true:=qi x t
inductive V where
 | non | bl (b:Bool) | int (i:Int) | str (x:Str) | byt (b:Array UInt8) | flt (b:UInt64) | ref (a:Addr) | ty (n:String)
 deriving DecidableEq
def RelV:V->Value->Prop
 | .non,u=>u=Value.none
 | .bl b,u=>u=Value.bool b
 | .int i,u=>∃t,u=Value.int i t
 | .str x,u=>∃t,u=Value.str x t
 | .byt b,u=>∃t,u=Value.bytes b t
 | .flt b,u=>∃t,u=Value.float b t
 | .ref a,u=>u=Value.ref a
 | .ty n,u=>u=Value.type n
abbrev Vals:List V->List Value->Prop:=Paired RelV
theorem Vals.length {xs:List V} {us:List Value} (r:Vals xs us):xs.length=us.length:=Paired.length r
theorem Vals.get:∀{xs:List V} {us:List Value} {i:Nat} {x:V},Vals xs us->xs[i]?=some x->∃u,us[i]?=some u/\RelV x u:=by
 intro xs us i x h
 induction h generalizing i with
 | nil=>intro e;simp at e
 | cons r t ih=>
  intro e
  cases i with
  | zero=>cases e;exact⟨_,rfl,r⟩
  | succ i=>exact ih e
theorem Vals.set {x:V} {u:Value} (r:RelV x u):∀{xs:List V} {us:List Value} (i:Nat),Vals xs us->Vals (xs.set i x) (us.set i u):=by
 intro xs us i h
 induction h generalizing i with
 | nil=>exact .nil
 | cons q t ih=>
  cases i with
  | zero=>exact .cons r t
  | succ i=>exact .cons q (ih i)
theorem Vals.append:∀{xs ys:List V} {us ws:List Value},Vals xs us->Vals ys ws->Vals (xs++ys) (us++ws):=by
 intro xs ys us ws h s
 induction h with
 | nil=>exact s
 | cons r t ih=>exact .cons r ih
theorem Vals.take:∀{xs:List V} {us:List Value} (n:Nat),Vals xs us->Vals (xs.take n) (us.take n):=by
 intro xs us n h
 induction h generalizing n with
 | nil=>cases n<;>exact .nil
 | cons r t ih=>
  cases n with
  | zero=>exact .nil
  | succ n=>exact .cons r (ih n)
theorem Vals.drop:∀{xs:List V} {us:List Value} (n:Nat),Vals xs us->Vals (xs.drop n) (us.drop n):=by
 intro xs us n h
 induction h generalizing n with
 | nil=>cases n<;>exact .nil
 | cons r t ih=>
  cases n with
  | zero=>exact .cons r t
  | succ n=>exact ih n
def RelO:Option V->Option Value->Prop
 | some v,some u=>RelV v u
 | none,none=>True
 | _,_=>False
def KV {κ:Type}:List (κ×V)->List (κ×Value)->Prop:=Paired fun(p:κ×V) (q:κ×Value)=>p.1=q.1/\RelV p.2 q.2
def kV:cO->V
 | .inl i=> .int i
 | .inr x=> .str x
inductive HO where
 | lst (xs:List V)
 | tup (xs:List V)
 | dK (kvs:List (cO×V)) | dT (kvs:List (List cO×V))
 | set (S:Int->Bool) (n:Nat)
 | ins (C dx:Addr) (fs:List (Str×V))
 | own (x:Addr)
 | xd (fs:List (Str×V))
 | met (f x:Addr)
 | rng (lo hi:Int)
 | frz (o:Obj) (u:HO)
 | tbl (ps:Array Value)
 | ext (φ:Heap->Prop)
abbrev Hp:=Addr->Option HO
def aG (H:Hp) (a:Addr) (o:HO):Hp:=fun b=>if b=a then some o else H b
theorem af {H:Hp} {a:Addr} {o:HO}:aG H a o a=some o:=by unfold aG;rw[if_pos rfl]
theorem aE {H:Hp} {a b:Addr} {o:HO} (h:b≠a):aG H a o b=H b:=by unfold aG;rw[if_neg h]
theorem aX {H:Hp} {a b:Addr} {o:HO} (h:H a=some o) (h':H b=none):a≠b:=by
 intro e;subst e;rw[h]at h';cases h'
section
variable (P:Program) (w:World)
def ObjOk (H:Hp) (h:Heap) (a:Addr):HO->Prop
 | .lst xs=>xs.length<=sizeLine/\∃(its:List Value) (n:Nat),Vals xs its/\h.get? a=some {cls:= .type "list",data:= .seq its.toArray n}
 | .tup xs=>xs.length<=sizeLine/\∃its:List Value,Vals xs its/\IsTup h a its.toArray
 | .dK kvs=>kvs.length<=sizeLine/\(a==sysModules)=false/\∃vs,KV kvs vs/\h.DictOf (bc P w) a vs
 | .dT kvs=>kvs.length<=sizeLine/\(a==sysModules)=false/\∃xs:List (List cO×Addr×Value),
  Paired (fun(p:List cO×V) (q:List cO×Addr×Value)=>p.1=q.1/\H q.2.1=some (.tup (p.1.map kV))/\RelV p.2 q.2.2) kvs xs/\
  ∃o es ep,h.get? a=some o/\o.ExactDict/\o.data= .dict es ep/\es.toList=xs.map (entryOfKey (tupleKind (bc P w)))/\(xs.map (·.1)).Nodup
 | .set S n=>h.SetOf (intKind P w) a S n
 | .ins C dx fs=>H dx=some (.own a)/\fs.length<=1000/\dx≠a/\h.get? a=some (PySem.W.instObj C dx)/\
  ∃mA,h.Ns1 dx mA/\(∀f,RelO (fs.lookup f) (mA f))/\PySem.Within mA (fs.map (·.1))
 | .own _=>∃o,h.get? a=some o
 | .xd fs=>∃mA,h.Ns1 a mA/\∀f,RelO (fs.lookup f) (mA f)
 | .rng lo hi=>∃t u v,h.get? a=some {cls:= .type "range",data:= .fields #[.int lo t,.int hi u,.int 1 v]}
 | .frz o u=>h.get? a=some o/\ObjOk H h a u
 | .tbl ps=>h.get? a=some {cls:= .none,data:= .fields ps}
 | .met f x=>h.get? a=some (PySem.W.methodObj (.ref f) (.ref x))
 | .ext φ=>φ h/\(∃o,h.get? a=some o)/\∀h1 h2:Heap,φ h1->(∀o,h1.get? a=some o->h2.get? a=some o)->φ h2
def HOk (H:Hp) (h:Heap):Prop:=∀a o,H a=some o->ObjOk P w H h a o
end
section
variable {P:Program} {w:World} {H H':Hp} {h h':Heap} {a:Addr} {o:HO}
theorem ObjOk.lt (x:ObjOk P w H h a o):a<h.objs.size:=by
 cases o with
 | lst xs=>obtain⟨_,_,_,_,e⟩:=x;exact Heap.lt_size e
 | tup xs=>obtain⟨_,_,_,p⟩:=x;exact p.lt
 | dK kvs=>obtain⟨_,_,_,_,o,_,_,e,_⟩:=x;exact Heap.lt_size e
 | dT kvs=>obtain⟨_,_,_,_,o,_,_,e,_⟩:=x;exact Heap.lt_size e
 | set S n=>obtain⟨o,_,_,_,e,_⟩:=x;exact Heap.lt_size e
 | ins C dx fs=>obtain⟨_,_,_,e,_⟩:=x;exact Heap.lt_size e
 | own y=>obtain⟨_,e⟩:=x;exact Heap.lt_size e
 | xd fs=>obtain⟨_,⟨_,_,_,e,_⟩,_⟩:=x;exact Heap.lt_size e
 | rng lo hi=>obtain⟨_,_,_,e⟩:=x;exact Heap.lt_size e
 | frz ob u=>obtain⟨e,_⟩:=x;exact Heap.lt_size e
 | tbl ps=>exact Heap.lt_size (show h.get? a=some _ from x)
 | met f y=>exact Heap.lt_size (show h.get? a=some _ from x)
 | ext φ=>obtain⟨_,⟨_,e⟩,_⟩:=x;exact Heap.lt_size e
theorem Paired.mapP {α β:Type} {F G:α->β->Prop}:∀{l₁:List α} {l₂:List β},Paired F l₁ l₂->(∀a b,F a b->G a b)->Paired G l₁ l₂:=by
 intro l₁ l₂ h f
 induction h with
 | nil=>exact .nil
 | cons r t ih=>exact .cons (f _ _ r) ih
theorem ObjOk.stay (x:ObjOk P w H h a o) (k:∀b u,(b=a\/H b=some (.own a))->h.get? b=some u->h'.get? b=some u)
  (ho:∀b,H b=some (.own a)->H' b=some (.own a)) (ht:∀b xs,H b=some (.tup xs)->H' b=some (.tup xs)):ObjOk P w H' h' a o:=by
 induction o with
 | lst xs=>obtain⟨z,its,n,r,e⟩:=x;exact⟨z,its,n,r,k _ _ (.inl rfl) e⟩
 | tup xs=>obtain⟨z,its,r,ob,e,c⟩:=x;exact⟨z,its,r,ob,k _ _ (.inl rfl) e,c⟩
 | dK kvs=>obtain⟨z,y,vs,r,ob,es,ep,e,c⟩:=x;exact⟨z,y,vs,r,ob,es,ep,k _ _ (.inl rfl) e,c⟩
 | dT kvs=>
  obtain⟨z,y,xs,r,ob,es,ep,e,c⟩:=x
  exact⟨z,y,xs,Paired.mapP r fun p q z=>⟨z.1,ht _ _ z.2.1,z.2.2⟩,ob,es,ep,k _ _ (.inl rfl) e,c⟩
 | set S n=>obtain⟨ob,es,ep,t,e,c⟩:=x;exact⟨ob,es,ep,t,k _ _ (.inl rfl) e,c⟩
 | ins C dx fs=>
  obtain⟨d,z,ne,e,mA,⟨od,es,ep,e2,c⟩,r⟩:=x
  exact⟨ho _ d,z,ne,k _ _ (.inl rfl) e,mA,⟨od,es,ep,k _ _ (.inr d) e2,c⟩,r⟩
 | own y=>obtain⟨ob,e⟩:=x;exact⟨ob,k _ _ (.inl rfl) e⟩
 | xd fs=>obtain⟨mA,⟨od,es,ep,e,c⟩,r⟩:=x;exact⟨mA,⟨od,es,ep,k _ _ (.inl rfl) e,c⟩,r⟩
 | rng lo hi=>obtain⟨t,u,v,e⟩:=x;exact⟨t,u,v,k _ _ (.inl rfl) e⟩
 | frz ob u ih=>obtain⟨e,q⟩:=x;exact⟨k _ _ (.inl rfl) e,ih q⟩
 | tbl ps=>
  have e:h.get? a=some {cls:= .none,data:= .fields ps}:=x
  show h'.get? a=some {cls:= .none,data:= .fields ps}
  exact k a _ (.inl rfl) e
 | met f y=>
  have e:h.get? a=some (PySem.W.methodObj (.ref f) (.ref y)):=x
  show h'.get? a=some (PySem.W.methodObj (.ref f) (.ref y))
  exact k a _ (.inl rfl) e
 | ext φ=>obtain⟨p,⟨o,e⟩,st⟩:=x;exact⟨st _ _ p fun o q=>k _ _ (.inl rfl) q,⟨o,k _ _ (.inl rfl) e⟩,st⟩
theorem HOk.lt (x:HOk P w H h) (e:H a=some o):a<h.objs.size:=(x a o e).lt
theorem HOk.fresh (x:HOk P w H h) (e:h.objs.size<=a):H a=none:=by
 cases q:H a with
 | none=>rfl
 | some u=>exact absurd (AB (x.lt q) e) (A4 _)
theorem HOk.kept (x:HOk P w H h) (k:∀b u,h.get? b=some u->h'.get? b=some u):HOk P w H h':=fun a o e=>
 (x a o e).stay (fun b u _ q=>k b u q) (fun _ q=>q) fun _ _ q=>q
theorem HOk.laid (x:HOk P w H h) (k:∀b u,h.get? b=some u->h'.get? b=some u) (hp:h.objs.size<=a) (new:ObjOk P w (aG H a o) h' a o):HOk P w (aG H a o) h':=fun b u e=>by
 have hn:=x.fresh hp
 by_cases hb:b=a
 ·subst hb;rw[af]at e;cases e;exact new
 ·rw [aE hb]at e
  exact(x b u e).stay (fun c v _ q=>k c v q) (fun c q=>by rw[aE (aX q hn)];exact q) fun c xs q=>by rw[aE (aX q hn)];exact q
end
def Rd (H:Hp) (a:Addr) (u:HO):Prop:=H a=some u\/∃o,H a=some (.frz o u)
theorem Rd.ok {P:Program} {w:World} {H:Hp} {h:Heap} {a:Addr} {u:HO} (r:Rd H a u) (x:HOk P w H h):ObjOk P w H h a u:=by
 rcases r with r | ⟨o,r⟩
 ·exact x a u r
 ·obtain⟨_,q⟩:=x a _ r
  exact q
def yH:Option HO->Prop
 | some (.lst _)=>True
 | some (.dK _)=>True
 | some (.dT _)=>True
 | some (.set _ _)=>True
 | some (.ins _ _ _)=>True
 | some (.ext _)=>True
 | _=>False
section
variable {P:Program} {w:World} {H:Hp} {h h':Heap} {x e:Addr} {o':HO}
theorem HOk.write (ok:HOk P w H h) (mu:yH (H x)) (he:e=x\/H e=some (.own x)) (k:∀b u,b≠e->h.get? b=some u->h'.get? b=some u) (heo:∃u,h'.get? e=some u)
  (new:ObjOk P w (aG H x o') h' x o'):HOk P w (aG H x o') h':=fun b u q=>by
 have nown:∀c y,H c=some (.own y)->c≠x:=fun c y r z=>by subst z;rw[r]at mu;exact mu
 have ntup:∀c xs,H c=some (.tup xs)->c≠x:=fun c xs r z=>by subst z;rw[r]at mu;exact mu
 by_cases hb:b=x
 ·subst hb;rw[af]at q;cases q;exact new
 ·rw [aE hb]at q
  by_cases hbe:b=e
  ·have q':H b=some (.own x):=by
    rcases he with z | z
    ·exact absurd (hbe.trans z) hb
    ·rw [hbe];exact z
   rw[q]at q';cases q'
   obtain⟨v,hv⟩:=heo
   exact⟨v,by rw[hbe];exact hv⟩
  ·refine(ok b u q).stay (fun c v hc r=>k c v ?_ r) (fun c r=>by rw[aE (nown c b r)];exact r) fun c xs r=>by rw[aE (ntup c xs r)];exact r
   rcases hc with rfl | hc
   ·exact hbe
   ·rintro rfl
    rcases he with z | z
    ·exact nown c b hc z
    ·rw [hc]at z;cases z;exact hb rfl
end
structure Un (fs ex:List Addr) (H H':Hp) (h h':Heap):Prop where
 keep:∀b o,h.get? b=some o->H b=none->b∉fs->b∉ex->h'.get? b=some o
 slot:∀b o,h.get? b=some o->H b=none->b∈fs->b∉ex->∃sl,h'.get? b=some {o with slots:=sl}
 free:∀b o,h.get? b=some o->H b=none->b∉ex->H' b=none
 there:∀b o,h.get? b=some o->b∉ex->∃o',h'.get? b=some o'
 tups:∀b xs,H b=some (.tup xs)->H' b=some (.tup xs)
 frzs:∀b o u,H b=some (.frz o u)->H' b=some (.frz o u)
 tbls:∀b ps,H b=some (.tbl ps)->∃more,H' b=some (.tbl (ps++more))
section
variable {fs fs' ex ex':List Addr} {H H1 H2:Hp} {h h1 h2 h':Heap} {a x e:Addr} {o:HO}
theorem Un.any (u:Un fs ex H H1 h h1) {b:Addr} {ob:Obj} (q:h.get? b=some ob) (n:H b=none) (hx:b∉ex):∃sl,h1.get? b=some {ob with slots:=sl}:=by
 by_cases hb:b∈fs
 ·exact u.slot b ob q n hb hx
 ·exact⟨ob.slots,u.keep b ob q n hb hx⟩
theorem Un.trans (a:Un fs ex H H1 h h1) (b:Un fs ex H1 H2 h1 h2):Un fs ex H H2 h h2 where
 keep:=fun c ob q n hc hx=>b.keep c ob (a.keep c ob q n hc hx) (a.free c ob q n hx) hc hx
 slot:=fun c ob q n hc hx=>by
  obtain⟨sl,e1⟩:=a.slot c ob q n hc hx
  obtain⟨sl',e2⟩:=b.slot c _ e1 (a.free c ob q n hx) hc hx
  exact⟨sl',e2⟩
 free:=fun c ob q n hx=>by
  obtain⟨o',e1⟩:=a.there c ob q hx
  exact b.free c o' e1 (a.free c ob q n hx) hx
 there:=fun c ob q hx=>by
  obtain⟨o',e1⟩:=a.there c ob q hx
  exact b.there c o' e1 hx
 tups:=fun c xs q=>b.tups c xs (a.tups c xs q)
 frzs:=fun c ob xs q=>b.frzs c ob xs (a.frzs c ob xs q)
 tbls:=fun c ps q=>by
  obtain⟨m1,e1⟩:=a.tbls c ps q
  obtain⟨m2,e2⟩:=b.tbls c _ e1
  exact⟨m1++m2,by rw[e2,Array.append_assoc]⟩
theorem Un.kept (k:∀b u,h.get? b=some u->h'.get? b=some u):Un fs ex H H h h':=
 ⟨fun b ob q _ _ _=>k b ob q,fun b ob q _ _ _=>⟨ob.slots,k b ob q⟩,fun _ _ _ n _=>n,fun b ob q _=>⟨ob,k b ob q⟩,fun _ _ q=>q,fun _ _ _ q=>q,fun _ ps q=>⟨#[],by rw[q];simp⟩⟩
theorem Un.refl:Un fs ex H H h h:=Un.kept fun _ _ q=>q
theorem Un.laid (k:∀b u,h.get? b=some u->h'.get? b=some u) (hp:h.objs.size<=a) (hn:H a=none):Un fs ex H (aG H a o) h h' where
 keep:=fun b u q _ _ _=>k b u q
 slot:=fun b u q _ _ _=>⟨u.slots,k b u q⟩
 free:=fun b u q n _=>by rw[aE (Ar (AB (Heap.lt_size q) hp))];exact n
 there:=fun b u q _=>⟨u,k b u q⟩
 tups:=fun b xs q=>by rw[aE (aX q hn)];exact q
 frzs:=fun b u xs q=>by rw[aE (aX q hn)];exact q
 tbls:=fun b ps q=>⟨#[],by rw[aE (aX q hn),q];simp⟩
theorem Un.write (mu:yH (H x)) (he:e=x\/H e=some (.own x)) (k:∀b u,b≠e->h.get? b=some u->h'.get? b=some u) (heo:∃u,h'.get? e=some u):Un fs ex H (aG H x o) h h':=by
 have hx:∀b,H b=none->b≠x:=fun b n z=>by subst z;rw[n]at mu;exact mu
 have hb:∀b,H b=none->b≠e:=fun b n z=>by
  subst z
  rcases he with r | r
  ·exact hx b n r
  ·rw [n]at r;cases r
 have hm:∀b u,H b=some u->¬yH (some u)->b≠x:=fun b u q nm z=>by subst z;rw[q]at mu;exact nm mu
 refine⟨fun b u q n _ _=>k b u (hb b n) q,fun b u q n _ _=>⟨u.slots,k b u (hb b n) q⟩,fun b u q n _=>by rw[aE (hx b n)];exact n,fun b u q _=>?_,
  fun b xs q=>by rw[aE (hm b _ q fun z=>z)];exact q,fun b u xs q=>by rw[aE (hm b _ q fun z=>z)];exact q,fun b ps q=>⟨#[],by rw[aE (hm b _ q fun z=>z),q];simp⟩⟩
 by_cases hbe:b=e
 ·subst hbe;exact heo
 ·exact⟨u,k b u hbe q⟩
end
def yI (h:Heap) (H:Hp):List Addr:=(Ad h.objs.size).filter fun a=>(H a).isSome
def lu (h:Heap) (H:Hp):Heap:=PySem.W.hideAll h (yI h H)
theorem qj (h:Heap) (H:Hp):(lu h H).objs.size=h.objs.size:=PySem.W.hideAll_size _ _
theorem rM {h:Heap} {H:Hp} {b:Addr} {o:Obj} (e:h.get? b=some o) (n:H b=none):(lu h H).get? b=some o:=
 PySem.W.hideAll_get _ e fun hm=>by
  have q:(H b).isSome=true:=(AQ.mp hm).2
  rw[n]at q;simp at q
theorem uC {h:Heap} {H:Hp} {b:Addr} {o:Obj} (e:(lu h H).get? b=some o):h.get? b=some o/\H b=none:=by
 have e':h.get? b=some o:=PySem.W.of_hideAll (yI h H) e
 refine⟨e',?_⟩
 cases q:H b with
 | none=>rfl
 | some x=>
  have hm:b∈yI h H:=AQ.mpr ⟨AJ.mpr (Heap.lt_size e'),by simp[q]⟩
  have z:(lu h H).get? b=none:=PySem.W.hideAll_none (yI h H) hm
  rw[z]at e;cases e
def uD (g h:Heap) (L:Addr):List (Addr×Obj):=(Ad h.objs.size).filterMap fun a=>if a=L\/(g.get? a).isSome=true then none else(h.get? a).map fun o=>(a,o)
def cK (g h:Heap) (L d:Addr):List (Addr×Obj):=(uD g h L).filter fun p=>decide (p.1≠d)
structure Mod (K:PySem.W.Frag) (mg:Str->Option Value) (base:Heap):Prop where
 kin:K.In base
 glob:base.Ns mainGlobals mg
 blt:∃mb,base.Ns builtinsNs mb/\∀x:Str,x≠"__name__"->mb x=bootBuiltins x
 nolimit:base.NoLimit
structure Cx where
 prog:Program
 w:World
 K:PySem.W.Frag
 mg:Str->Option Value
 base:Heap
 A:Around
 N:List Str
 s₀:Shared
 H₀:Hp
 env:Env
 outer:List Env
 stack:List Env
 ex:List Addr
 fn:Str->Bool
 calm:Bool
 pn:List (Addr×Obj)
 xe:Value->Shared->Prop
def gq (l:List Env):List Addr:=l.filterMap (·.frame)
abbrev Cx.fs (X:Cx):List Addr:=gq X.outer
def yJ (sc:Scope) (x:Str):Prop:=sc.names.lookup x=some .local\/sc.names.lookup x=some .cell\/sc.names.lookup x=some .free
def xP (sc:Scope) (x:Str):Prop:=sc.names.lookup x=some .local\/sc.names.lookup x=some .cell
def yT (env:Env) (h:Heap) (m:Str->Option Value) (x:Str) (u:Value):Prop:=
 (env.kindOf x=some .local/\m x=some u)\/((env.kindOf x=some .cell\/env.kindOf x=some .free)/\∃c,env.cells.lookup x=some c/\h.IsCell c (some u))
structure Cx.Ok (X:Cx):Prop where
 mod:Mod X.K X.mg X.base
 kind:X.env.scope.kind= .function
 glob:X.env.globals=mainGlobals
 blt:X.env.builtins=builtinsNs
 above:X.s₀.heap.objs.size<=X.env.locals
 inj:∀x y c,X.env.cells.lookup x=some c->X.env.cells.lookup y=some c->x=y
 has:∀x,(X.env.kindOf x=some .cell\/X.env.kindOf x=some .free)->∃c,X.env.cells.lookup x=some c
 cab:∀x c,X.fn x=true->X.env.cells.lookup x=some c->X.s₀.heap.objs.size<=c
 hd:X.calm=true->X.A.handled=none
 frames:X.A.frames=some X.stack
 stk:X.stack=X.outer\/(X.stack=X.env :: X.outer/\X.env.frame=some X.env.locals)
 exf:∀b∈X.ex,b≠X.env.locals/\∀x c,X.env.cells.lookup x=some c->c≠b
 bs:∀b o,X.base.get? b=some o->X.s₀.heap.get? b=some o/\X.H₀ b=none
 bsz:X.base.objs.size<=X.s₀.heap.objs.size
 noex:∀b o,X.base.get? b=some o->b∉X.ex
 exfs:∀b∈X.ex,b∉X.fs
 funs:X.s₀.heap.FunFrames X.base X.outer
 frf:∀b∈X.fs,X.H₀ b=none
structure Inv (X:Cx) (pins:List (Addr×Obj)) (σ:List (Option V)) (H:Hp) (s:Shared):Prop where
 ok:X.Ok
 os:s.os=X.s₀.os
 bare:AllBare s.gens
 base:Un X.fs X.ex X.H₀ H X.s₀.heap s.heap
 loc:∃m,s.heap.Ns X.env.locals m/\∀(i:Nat) (x:Str) (v:V),X.N[i]?=some x->σ[i]?=some (some v)->yJ X.env.scope x->∃u,RelV v u/\yT X.env s.heap m x u
 cell:∀x c,X.env.cells.lookup x=some c->∃v,s.heap.IsCell c v
 free:H X.env.locals=none
 freeC:∀x c,X.env.cells.lookup x=some c->H c=none
 pin:∀p∈X.pn++pins,s.heap.get? p.1=some p.2/\H p.1=none/\p.1≠X.env.locals/\p.1∉X.fs/\∀v,p.2.data≠ .cell v
 hok:HOk X.prog X.w H s.heap
 len:σ.length=X.N.length
section
variable {X:Cx} {pins:List (Addr×Obj)} {σ:List (Option V)} {H H':Hp} {s:Shared} {h':Heap}
theorem Cx.Ok.nofr (ok:X.Ok) {b:Addr} {o:Obj} (e:X.base.get? b=some o):b∉X.fs:=fun hb=>by
 have:=(ok.funs.mem hb).1
 rw[e]at this;cases this
theorem Inv.bs (I:Inv X pins σ H s):∀b o,X.base.get? b=some o->s.heap.get? b=some o/\H b=none:=fun b o e=>
 ⟨I.base.keep b o (I.ok.bs b o e).1 (I.ok.bs b o e).2 (I.ok.nofr e) (I.ok.noex b o e),I.base.free b o (I.ok.bs b o e).1 (I.ok.bs b o e).2 (I.ok.noex b o e)⟩
theorem Inv.bk (I:Inv X pins σ H s):∀b o,X.base.get? b=some o->s.heap.get? b=some o:=fun b o e=>(I.bs b o e).1
theorem Inv.mod (I:Inv X pins σ H s):Mod X.K X.mg X.base:=I.ok.mod
theorem Inv.kIn (I:Inv X pins σ H s):X.K.In s.heap:=I.ok.mod.kin.keeps I.bk
theorem Inv.fr (I:Inv X pins σ H s):∃m,Fr X.base X.env.locals s.heap m:=
 let⟨m,hn,_⟩:=I.loc
 ⟨m,hn,I.bk,AC I.ok.bsz I.ok.above⟩
theorem Inv.lt (I:Inv X pins σ H s):X.env.locals<s.heap.objs.size:=let⟨_,hn,_⟩:=I.loc;hn.lt
theorem Inv.sz (I:Inv X pins σ H s):X.s₀.heap.objs.size<=s.heap.objs.size:=AC I.ok.above (A5 I.lt)
theorem Inv.nofs (I:Inv X pins σ H s) {a:Addr} (h:s.heap.objs.size<=a):a∉X.fs:=fun hb=>by
 obtain⟨_,o,ho,_⟩:=I.ok.funs.mem hb
 exact absurd (AB (Heap.lt_size ho) (AC I.sz h)) (A4 _)
theorem Inv.cne (I:Inv X pins σ H s):∀x c,X.env.cells.lookup x=some c->c≠X.env.locals:=fun x c e z=>by
 obtain⟨v,o,ho,hd⟩:=I.cell x c e
 obtain⟨m,⟨o',es,ep,ho',hd',_⟩,_⟩:=I.loc
 rw[z,ho']at ho;cases ho;rw[hd']at hd;cases hd
theorem Inv.funs (I:Inv X pins σ H s):s.heap.FunFrames X.base X.outer:=by
 have all:∀(l:List Env),(∀b∈gq l,b∈X.fs)->X.s₀.heap.FunFrames X.base l->s.heap.FunFrames X.base l:=by
  intro l
  induction l with
  | nil=>intro _ _;trivial
  | cons env r ih=>
   intro hs hl
   obtain⟨hk,⟨L,o,hf,hn,ho,hd⟩,hr⟩:=hl
   have hL:L∈X.fs:=hs L (by unfold gq;rw[Bg,hf];exact Ay)
   obtain⟨sl,e⟩:=I.base.slot L o ho (I.ok.frf L hL) hL fun z=>I.ok.exfs L z hL
   exact⟨hk,⟨L,_,hf,hn,e,hd⟩,ih (fun b hb=>hs b (by unfold gq;rw[Bg,hf];exact Av _ hb)) hr⟩
 exact all X.outer (fun _ hb=>hb) I.ok.funs
theorem Inv.stack (I:Inv X pins σ H s):s.heap.FunFrames X.base X.stack:=by
 rcases I.ok.stk with e | ⟨e,hf⟩
 ·rw [e];exact I.funs
 ·rw [e]
  obtain⟨m,hn,_⟩:=I.loc
  refine .cons (by rw[I.ok.kind];decide) hf hn ?_ I.funs
  exact Heap.get?_none_of_le (AC I.ok.bsz I.ok.above)
theorem Inv.stkSub (I:Inv X pins σ H s):∀b∈gq X.stack,b∈X.env.locals :: X.fs:=fun b hb=>by
 rcases I.ok.stk with e | ⟨e,hf⟩
 ·rw [e]at hb;exact Av _ hb
 ·rw [e]at hb
  unfold gq at hb
  rw[Bg,hf]at hb
  exact hb
theorem Inv.stkFree (I:Inv X pins σ H s):∀b∈gq X.stack,H b=none:=fun b hb=>by
 rcases Al.mp (I.stkSub b hb)with e | hb
 ·rw [e];exact I.free
 ·obtain⟨_,o,ho,_⟩:=I.ok.funs.mem hb
  exact I.base.free b o ho (I.ok.frf b hb) fun z=>I.ok.exfs b z hb
theorem Inv.step {g':Array GenState} {t':Nat} {d':Drawn} {ch:List Addr} (I:Inv X pins σ H s)
  (hch:∀b∈ch,(b∈X.ex\/X.s₀.heap.objs.size<=b)/\b≠X.env.locals/\(∀x c,X.env.cells.lookup x=some c->c≠b)/\∀p∈X.pn++pins,p.1≠b)
  (keep:∀b o,b≠X.env.locals->b∉X.fs->b∉ch->s.heap.get? b=some o->H b=none->h'.get? b=some o)
  (slot:∀b o,b≠X.env.locals->b∈X.fs->b∉ch->s.heap.get? b=some o->H b=none->∃sl,h'.get? b=some {o with slots:=sl}) (free:∀b o,b∉ch->s.heap.get? b=some o->H b=none->H' b=none)
  (there:∀b o,b∉ch->s.heap.get? b=some o->∃o',h'.get? b=some o')
  (tups:∀b xs,H b=some (.tup xs)->H' b=some (.tup xs)) (frzs:∀b o u,H b=some (.frz o u)->H' b=some (.frz o u)) (tbls:∀b ps,H b=some (.tbl ps)->∃more,H' b=some (.tbl (ps++more)))
  (ns:∀m,s.heap.Ns X.env.locals m->h'.Ns X.env.locals m) (hok:HOk X.prog X.w H' h') (hg:AllBare g'):
  Inv X pins σ H' {s with heap:=h',gens:=g',drawn:=d',toks:=t'}:=by
 have neL:∀b o,X.s₀.heap.get? b=some o->b≠X.env.locals:=fun b o e=>Ar (AB (Heap.lt_size e) I.ok.above)
 have neC:∀b o,X.s₀.heap.get? b=some o->b∉X.ex->b∉ch:=fun b o e hx hb=>by
  rcases(hch b hb).1 with z | z
  ·exact hx z
  ·exact absurd (AB (Heap.lt_size e) z) (A4 _)
 have cellK:∀x c,X.env.cells.lookup x=some c->∀v,s.heap.IsCell c v->h'.IsCell c v:=fun x c e v ⟨o,ho,hd⟩=>by
  have nch:c∉ch:=fun z=>(hch c z).2.2.1 x c e rfl
  by_cases hc:c∈X.fs
  ·obtain⟨sl,q⟩:=slot c o (I.cne x c e) hc nch ho (I.freeC x c e)
   exact⟨_,q,hd⟩
  ·exact⟨o,keep c o (I.cne x c e) hc nch ho (I.freeC x c e),hd⟩
 refine⟨I.ok,I.os,hg,⟨fun b o e n hb hx=>?_,fun b o e n hb hx=>?_,fun b o e n hx=>?_,fun b o e hx=>?_,fun b xs e=>tups b xs (I.base.tups b xs e),fun b o xs e=>frzs b o xs (I.base.frzs b o xs e),fun b ps e=>?_⟩,?_,fun x c e=>?_,?_,fun x c e=>?_,fun p hp=>?_,hok,I.len⟩
 ·exact keep b o (neL b o e) hb (neC b o e hx) (I.base.keep b o e n hb hx) (I.base.free b o e n hx)
 ·obtain⟨sl,e1⟩:=I.base.slot b o e n hb hx
  obtain⟨sl',e2⟩:=slot b _ (neL b o e) hb (neC b o e hx) e1 (I.base.free b o e n hx)
  exact⟨sl',e2⟩
 ·obtain⟨o',e1⟩:=I.base.there b o e hx
  exact free b o' (neC b o e hx) e1 (I.base.free b o e n hx)
 ·obtain⟨o',e1⟩:=I.base.there b o e hx
  exact there b o' (neC b o e hx) e1
 ·obtain⟨m1,e1⟩:=I.base.tbls b ps e
  obtain⟨m2,e2⟩:=tbls b _ e1
  exact⟨m1++m2,by rw[e2,Array.append_assoc]⟩
 ·obtain⟨m,hn,hl⟩:=I.loc
  refine⟨m,ns m hn,fun i x v e1 e2 e3=>?_⟩
  obtain⟨u,r,l⟩:=hl i x v e1 e2 e3
  refine⟨u,r,?_⟩
  rcases l with l | ⟨k,c,e,z⟩
  ·exact .inl l
  ·exact .inr ⟨k,c,e,cellK x c e _ z⟩
 ·obtain⟨v,z⟩:=I.cell x c e
  exact⟨v,cellK x c e v z⟩
 ·obtain⟨m,⟨o,_,_,ho,_⟩,_⟩:=I.loc
  exact free _ o (fun z=>(hch _ z).2.1 rfl) ho I.free
 ·obtain⟨v,o,ho,hd⟩:=I.cell x c e
  exact free c o (fun z=>(hch c z).2.2.1 x c e rfl) ho (I.freeC x c e)
 ·obtain⟨e,n,ne,nf,d⟩:=I.pin p hp
  have nch:p.1∉ch:=fun z=>(hch p.1 z).2.2.2 p hp rfl
  exact⟨keep p.1 p.2 ne nf nch e n,free p.1 p.2 nch e n,ne,nf,d⟩
theorem Inv.un {t':Nat} (I:Inv X pins σ H s) (u:Un X.fs [] H H' s.heap h') (hok:HOk X.prog X.w H' h'):Inv X pins σ H' {s with heap:=h',toks:=t'}:=by
 obtain⟨m,⟨o,es,ep,ho,r⟩,_⟩:=id I.loc
 obtain⟨sl,hL⟩:=u.any ho I.free (by simp)
 exact I.step (g':=s.gens) (d':=s.drawn) (ch:=[]) (fun _ z=>nomatch z) (fun b o _ hb _ e n=>u.keep b o e n hb (by simp)) (fun b o _ hb _ e n=>u.slot b o e n hb (by simp)) (fun b o _ e n=>u.free b o e n (by simp)) (fun b o _ e=>u.there b o e (by simp)) u.tups u.frzs u.tbls (fun m' hm=>by
  obtain⟨o',es',ep',ho',r'⟩:=hm
  rw[ho]at ho';cases ho'
  exact⟨_,es',ep',hL,r'⟩) hok I.bare
theorem Inv.call {g':Array GenState} {t':Nat} {d':Drawn} {ch:List Addr} (I:Inv X pins σ H s) (u:Un (gq X.stack) ch H H' s.heap h') (hok:HOk X.prog X.w H' h') (hg:AllBare g')
  (hch:∀b∈ch,(b∈X.ex\/X.s₀.heap.objs.size<=b)/\b≠X.env.locals/\(∀x c,X.env.cells.lookup x=some c->c≠b)/\∀p∈X.pn++pins,p.1≠b):
  Inv X pins σ H' {s with heap:=h',gens:=g',drawn:=d',toks:=t'}:=by
 obtain⟨m,⟨o,es,ep,ho,r⟩,_⟩:=id I.loc
 obtain⟨sl,hL⟩:=u.any ho I.free fun z=>(hch _ z).2.1 rfl
 exact I.step (ch:=ch) hch (fun b o hL hb hc e n=>u.keep b o e n (fun z=>(Al.mp (I.stkSub b z)).elim hL hb) hc) (fun b o _ _ hc e n=>u.any e n hc) (fun b o hc e n=>u.free b o e n hc) (fun b o hc e=>u.there b o e hc) u.tups u.frzs u.tbls (fun m' hm=>by
  obtain⟨o',es',ep',ho',r'⟩:=hm
  rw[ho]at ho';cases ho'
  exact⟨_,es',ep',hL,r'⟩) hok hg
theorem Inv.turned {t':Nat} {it:Addr} (I:Inv X pins σ H s) (k:∀b o,b≠it->s.heap.get? b=some o->h'.get? b=some o) (hn:H it=none) (hL:it≠X.env.locals)
  (h1:it∈X.ex\/X.s₀.heap.objs.size<=it) (h2:∀x c,X.env.cells.lookup x=some c->c≠it) (h3:∀p∈X.pn++pins,p.1≠it):Inv X pins σ H {s with heap:=h',toks:=t'}:=by
 have nit:∀b u,H b=some u->b≠it:=fun b u e z=>by rw[z,hn]at e;cases e
 refine I.step (g':=s.gens) (d':=s.drawn) (ch:=[it]) (fun b hb=>?_) (fun b o _ _ hc e _=>k b o (fun z=>hc (by simp[z])) e) (fun b o _ _ hc e _=>⟨o.slots,k b o (fun z=>hc (by simp[z])) e⟩) (fun _ _ _ _ n=>n)
  (fun b o hc e=>⟨o,k b o (fun z=>hc (by simp[z])) e⟩) (fun _ _ e=>e) (fun _ _ _ e=>e) (fun b ps e=>⟨#[],by rw[e];simp⟩) (fun m hm=>?_) (fun b u e=>?_) I.bare
 ·have e:b=it:=by simpa using hb
  subst e
  exact⟨h1,hL,h2,h3⟩
 ·obtain⟨o,es,ep,ho,r⟩:=hm
  exact⟨o,es,ep,k _ o (Ne.symm hL) ho,r⟩
 ·refine(I.hok b u e).stay (fun c v hc q=>k c v ?_ q) (fun _ q=>q) fun _ _ q=>q
  rcases hc with z | z
  ·rw [z];exact nit b u e
  ·exact nit c _ z
theorem Inv.tok (I:Inv X pins σ H s) (t:Nat):Inv X pins σ H {s with toks:=t}:=I.un (h':=s.heap) (t':=t) Un.refl I.hok
theorem Inv.kept {t':Nat} (I:Inv X pins σ H s) (k:∀b u,s.heap.get? b=some u->h'.get? b=some u):Inv X pins σ H {s with heap:=h',toks:=t'}:=I.un (Un.kept k) (I.hok.kept k)
theorem Inv.laid {a:Addr} {o:HO} {t':Nat} (I:Inv X pins σ H s) (k:∀b u,s.heap.get? b=some u->h'.get? b=some u) (hp:s.heap.objs.size<=a) (new:ObjOk X.prog X.w (aG H a o) h' a o):
 Inv X pins σ (aG H a o) {s with heap:=h',toks:=t'}:=I.un (Un.laid k hp (I.hok.fresh hp)) (I.hok.laid k hp new)
theorem Inv.write {x e:Addr} {o:HO} {t':Nat} (I:Inv X pins σ H s) (mu:yH (H x)) (he:e=x\/H e=some (.own x)) (k:∀b u,b≠e->s.heap.get? b=some u->h'.get? b=some u) (heo:∃u,h'.get? e=some u)
 (new:ObjOk X.prog X.w (aG H x o) h' x o):Inv X pins σ (aG H x o) {s with heap:=h',toks:=t'}:=I.un (Un.write mu he k heo) (I.hok.write mu he k heo new)
theorem Inv.weak {σ':List (Option V)} (I:Inv X pins σ H s) (hl:σ'.length=σ.length) (w:∀(i:Nat) v,σ'[i]?=some (some v)->σ[i]?=some (some v)):Inv X pins σ' H s:=
 ⟨I.ok,I.os,I.bare,I.base,let⟨m,hn,hl'⟩:=I.loc;⟨m,hn,fun i x v e1 e2 e3=>hl' i x v e1 (w i v e2) e3⟩,I.cell,I.free,I.freeC,I.pin,I.hok,hl.trans I.len⟩
theorem Inv.pins_of {pins':List (Addr×Obj)} (I:Inv X pins σ H s) (h:∀p∈pins',s.heap.get? p.1=some p.2/\H p.1=none/\p.1≠X.env.locals/\p.1∉X.fs/\∀v,p.2.data≠ .cell v):Inv X pins' σ H s:=
 ⟨I.ok,I.os,I.bare,I.base,I.loc,I.cell,I.free,I.freeC,fun p hp=>(AH.mp hp).elim (fun z=>I.pin p (Bc _ z)) (h p),I.hok,I.len⟩
theorem mJ {N:List Str} (hN:N.Nodup) {i j:Nat} {x:Str} (a:N[i]?=some x) (b:N[j]?=some x):i=j:=by
 obtain⟨h1,e1⟩:=Ac.mp a
 obtain⟨h2,e2⟩:=Ac.mp b
 exact(List.getElem_inj hN).mp (e1.trans e2.symm)
theorem j9 {M:Model} {A:Around} {E:Value->Shared->Prop} {i:Nat} {x:Str} {v:V} {u:Value} {Q:Unit->Shared->Prop} (I:Inv X pins σ H s) (hN:X.N.Nodup) (hi:X.N[i]?=some x) (hx:xP X.env.scope x) (r:RelV v u)
  (h:∀s',Inv X pins (σ.set i (some v)) H s'->(∃a,Heap.SameBut a s.heap s'.heap/\(a=X.env.locals\/X.env.cells.lookup x=some a))->Q () s') (hf:X.fn x=true\/X.env.scope.names.lookup x=some .local:=by first | exact .inl rfl | exact .inr rfl | assumption):wpAny M A (storeName X.env x u) Q E s:=by
 obtain⟨m,hn,hl⟩:=id I.loc
 have hcls:(X.env.scope.kind== .class||(X.env.scope.kind== .module&&X.env.locals != X.env.globals))=false:=by rw[I.ok.kind];rfl
 have hiσ:i<σ.length:=by rw[I.len];exact(Ac.mp hi).1
 have cne:=I.cne
 have tracked:∀{a:Addr} {h':Heap},(∃o,s.heap.get? a=some o/\H a=none)->Heap.SameBut a s.heap h'->HOk X.prog X.w H h':=fun {a h'} ha hs b ob e=>by
  obtain⟨_,_,hfree⟩:=ha
  refine(I.hok b ob e).stay (fun c w' hc q=>(hs.2 c ?_).trans q) (fun _ q=>q) fun _ _ q=>q
  rintro rfl
  rcases hc with rfl | hc
  ·rw [hfree]at e;cases e
  ·rw [hfree]at hc;cases hc
 rcases hx with hk | hk
 ·refine wpAny_storeName_local hk hn (fun h' hn' hs=>?_) hcls
  obtain⟨oL,_,_,hoL,_⟩:=id hn
  refine h _ ⟨I.ok,I.os,I.bare,⟨fun b o e n hb hx=>?_,fun b o e n hb hx=>?_,I.base.free,fun b o e hx=>?_,I.base.tups,I.base.frzs,I.base.tbls⟩,⟨_,hn',fun j y v' e1 e2 e3=>?_⟩,fun y c e=>?_,I.free,I.freeC,fun p hp=>?_,tracked ⟨oL,hoL,I.free⟩ hs,by simpa using I.len⟩ ⟨_,hs,.inl rfl⟩
  ·exact(hs.2 b (Ar (AB (Heap.lt_size e) I.ok.above))).trans (I.base.keep b o e n hb hx)
  ·obtain⟨sl,e1⟩:=I.base.slot b o e n hb hx
   exact⟨sl,(hs.2 b (Ar (AB (Heap.lt_size e) I.ok.above))).trans e1⟩
  ·obtain⟨o',e1⟩:=I.base.there b o e hx
   exact⟨o',(hs.2 b (Ar (AB (Heap.lt_size e) I.ok.above))).trans e1⟩
  ·by_cases hj:j=i
   ·subst hj
    rw[hi]at e1;cases e1
    rw[Bf hiσ]at e2
    cases e2
    exact⟨u,r,.inl ⟨hk,by simp⟩⟩
   ·rw [BU (Ne.symm hj)]at e2
    obtain⟨u',r',q⟩:=hl j y v' e1 e2 e3
    refine⟨u',r',?_⟩
    rcases q with⟨k,e⟩ | ⟨k,c,e,z⟩
    ·refine .inl ⟨k,?_⟩
     have:y≠x:=fun e=>hj (mJ hN e1 (e▸hi))
     simp[this,e]
    ·exact .inr ⟨k,c,e,z.sameBut hs (cne y c e)⟩
  ·obtain⟨w',z⟩:=I.cell y c e
   exact⟨w',z.sameBut hs (cne y c e)⟩
  ·obtain⟨e,n,ne,nf,d⟩:=I.pin p hp
   exact⟨(hs.2 p.1 ne).trans e,n,ne,nf,d⟩
 ·have hfn:X.fn x=true:=by
   rcases hf with z | z
   ·exact z
   ·rw [z]at hk;cases hk
  obtain⟨c,hc⟩:=I.ok.has x (.inl hk)
  obtain⟨w',z⟩:=I.cell x c hc
  refine wpAny_storeName_cell I.ok.kind hk hc z (fun h' hc' hs=>?_)
  obtain⟨oc,hoc,hocd⟩:=id z
  refine h {s with heap:=h'} ⟨I.ok,I.os,I.bare,⟨fun b o e n hb hx=>?_,fun b o e n hb hx=>?_,I.base.free,fun b o e hx=>?_,I.base.tups,I.base.frzs,I.base.tbls⟩,⟨m,hn.sameBut hs (Ne.symm (cne x c hc)),fun j y v' e1 e2 e3=>?_⟩,fun y c' e=>?_,I.free,I.freeC,fun p hp=>?_,tracked ⟨oc,hoc,I.freeC x c hc⟩ hs,by simpa using I.len⟩ ⟨c,hs,.inr hc⟩
  ·exact(hs.2 b (Ar (AB (Heap.lt_size e) (I.ok.cab x c hfn hc)))).trans (I.base.keep b o e n hb hx)
  ·obtain⟨sl,e1⟩:=I.base.slot b o e n hb hx
   exact⟨sl,(hs.2 b (Ar (AB (Heap.lt_size e) (I.ok.cab x c hfn hc)))).trans e1⟩
  ·obtain⟨o',e1⟩:=I.base.there b o e hx
   exact⟨o',(hs.2 b (Ar (AB (Heap.lt_size e) (I.ok.cab x c hfn hc)))).trans e1⟩
  ·by_cases hj:j=i
   ·subst hj
    rw[hi]at e1;cases e1
    rw[Bf hiσ]at e2
    cases e2
    exact⟨u,r,.inr ⟨.inl hk,c,hc,hc'⟩⟩
   ·rw [BU (Ne.symm hj)]at e2
    obtain⟨u',r',q⟩:=hl j y v' e1 e2 e3
    refine⟨u',r',?_⟩
    rcases q with q | ⟨k,c',e,z'⟩
    ·exact .inl q
    ·refine .inr ⟨k,c',e,z'.sameBut hs ?_⟩
     rintro rfl
     exact hj (mJ hN e1 (I.ok.inj _ _ _ e hc▸hi))
  ·by_cases hcc:c'=c
   ·subst hcc;exact⟨_,hc'⟩
   ·obtain⟨w2,z2⟩:=I.cell y c' e
    exact⟨w2,z2.sameBut hs hcc⟩
  ·obtain⟨e,n,ne,nf,d⟩:=I.pin p hp
   refine⟨(hs.2 p.1 ?_).trans e,n,ne,nf,d⟩
   intro q
   rw[q,hoc]at e
   have q':oc=p.2:=Option.some.inj e
   exact d w' (by rw[<- q'];exact hocd)
theorem mK {M:Model} {A:Around} {E:Value->Shared->Prop} {i:Nat} {x:Str} {v:V} {u:Value} {Q:Unit->Shared->Prop} (I:Inv X pins σ H s) (hN:X.N.Nodup) (hi:X.N[i]?=some x) (hx:xP X.env.scope x) (r:RelV v u)
  (h:∀s',Inv X pins (σ.set i (some v)) H s'->Q () s') (hf:X.fn x=true\/X.env.scope.names.lookup x=some .local:=by first | exact .inl rfl | exact .inr rfl | assumption):wpAny M A (storeName X.env x u) Q E s:=
 j9 I hN hi hx r (fun s' I' _=>h s' I') hf
theorem Inv.call' {s':Shared} {ch:List Addr} (I:Inv X pins σ H s) (ho:s'.os=s.os) (u:Un (gq X.stack) ch H H' s.heap s'.heap) (hok:HOk X.prog X.w H' s'.heap) (hg:AllBare s'.gens)
  (hch:∀b∈ch,(b∈X.ex\/X.s₀.heap.objs.size<=b)/\b≠X.env.locals/\(∀x c,X.env.cells.lookup x=some c->c≠b)/\∀p∈X.pn++pins,p.1≠b):Inv X pins σ H' s':=by
 obtain⟨h',g',d',t',o'⟩:=s'
 have e:o'=s.os:=ho
 subst e
 exact I.call (g':=g') (t':=t') (d':=d') u hok hg hch
end
abbrev XK:=Value->Option Addr->Hp->Prop
abbrev St:=List (Option V)
abbrev VK:=V->Hp->Prop
abbrev TE:=St->Hp->VK->Prop
abbrev TT:=St->Hp->(Bool->Hp->Prop)->Prop
abbrev TA:=St->Hp->(List V->Hp->Prop)->Prop
structure Ends where
 nx:St->Hp->Prop
 rt:VK
 bk:St->Hp->Prop:=fun _ _=>False
 ct:St->Hp->Prop:=fun _ _=>False
abbrev TS:=Ends->St->Hp->Prop
def EP (X:Cx) (pins:List (Addr×Obj)) (σ:St) (Q:VK) (u:Value) (s':Shared):Prop:=∃v H',Inv X pins σ H' s'/\RelV v u/\Q v H'
def TP (X:Cx) (pins:List (Addr×Obj)) (σ:St) (Q:Bool->Hp->Prop) (b:Bool) (s':Shared):Prop:=∃H',Inv X pins σ H' s'/\Q b H'
def AP (X:Cx) (pins:List (Addr×Obj)) (σ:St) (Q:List V->Hp->Prop) (us:List Value) (s':Shared):Prop:=∃vs H',Inv X pins σ H' s'/\Vals vs us/\Q vs H'
def SP (X:Cx) (pins:List (Addr×Obj)) (D:Ends) (f:Flow) (s':Shared):Prop:=
 match f with
 | .next=>∃σ' H',Inv X pins σ' H' s'/\D.nx σ' H'
 | .brk=>∃σ' H',Inv X pins σ' H' s'/\D.bk σ' H'
 | .cont=>∃σ' H',Inv X pins σ' H' s'/\D.ct σ' H'
 | .ret u=>∃v σ' H',Inv X pins σ' H' s'/\RelV v u/\D.rt v H'
def PE (X:Cx) (e:Expr) (t:TE):Prop:=
 ∀(pins:List (Addr×Obj)) (s:Shared) (σ:St) (H:Hp) (Q:VK),Inv X pins σ H s->t σ H Q->wpAny (model X.prog X.w) X.A (eval e X.env) (EP X pins σ Q) X.xe s
def PT (X:Cx) (e:Expr) (t:TT):Prop:=
 ∀(pins:List (Addr×Obj)) (s:Shared) (σ:St) (H:Hp) (Q:Bool->Hp->Prop),Inv X pins σ H s->t σ H Q->wpAny (model X.prog X.w) X.A (isTrue e X.env (eval e X.env)) (TP X pins σ Q) X.xe s
def PW (X:Cx) (e:Expr) (t:TT):Prop:=
 ∀(whole:Sem Value) (pins:List (Addr×Obj)) (s:Shared) (σ:St) (H:Hp) (Q:Bool->Hp->Prop),Inv X pins σ H s->t σ H Q->wpAny (model X.prog X.w) X.A (isTrue e X.env whole) (TP X pins σ Q) X.xe s
theorem PW.pt {X:Cx} {e:Expr} {t:TT} (h:PW X e t):PT X e t:=h _
def PA (X:Cx) (es:List Expr) (t:TA):Prop:=
 ∀(pos:Pos) (pins:List (Addr×Obj)) (s:Shared) (σ:St) (H:Hp) (Q:List V->Hp->Prop),Inv X pins σ H s->t σ H Q->wpAny (model X.prog X.w) X.A (spliced (backTo pos (starEach es X.env))) (AP X pins σ Q) X.xe s
def PS (X:Cx) (st:Stmt) (t:TS):Prop:=
 ∀(pins:List (Addr×Obj)) (s:Shared) (σ:St) (H:Hp) (D:Ends),Inv X pins σ H s->t D σ H->wpAny (model X.prog X.w) X.A (exec st X.env) (SP X pins D) X.xe s
def PSs (X:Cx) (st:List Stmt) (t:TS):Prop:=
 ∀(pins:List (Addr×Obj)) (s:Shared) (σ:St) (H:Hp) (D:Ends),Inv X pins σ H s->t D σ H->wpAny (model X.prog X.w) X.A (execs st X.env) (SP X pins D) X.xe s
theorem bF {α:Type} {t:Sem α} {Q Q':α->Shared->Prop} {M:Model} {A:Around} {E:Value->Shared->Prop} {s:Shared} (h:wpAny M A t Q E s) (hQ:∀a s,Q a s->Q' a s):wpAny M A t Q' E s:=wpAny_mono h hQ fun _ _ x=>x
section
variable {X:Cx}
theorem zX {a b:Expr} {ta tb:TE} (ha:PE X a ta) (hb:PE X b tb) {pins:List (Addr×Obj)} {s:Shared} {σ:St} {H:Hp} {R:V->V->Hp->Prop} (I:Inv X pins σ H s) (h:ta σ H fun x H1=>tb σ H1 fun y H2=>R x y H2)
  {α:Type} {Q:α->Shared->Prop} {f:Value->Value->Sem α}
  (hf:∀v u s2 x y H2,Inv X pins σ H2 s2->RelV x v->RelV y u->R x y H2->wpAny (model X.prog X.w) X.A (f v u) Q X.xe s2):
  wpAny (model X.prog X.w) X.A (eval a X.env) (fun v s₁=>wpAny (model X.prog X.w) X.A (eval b X.env) (fun u s₂=>wpAny (model X.prog X.w) X.A (f v u) Q X.xe s₂) X.xe s₁) X.xe s:=by
 refine bF (ha pins s σ H _ I h) fun v s1 hq__=>?_
 obtain⟨x,H1,I1,r1,q1⟩:=hq__
 refine bF (hb pins s1 σ H1 _ I1 q1) fun u s2 hq__=>?_
 obtain⟨y,H2,I2,r2,q2⟩:=hq__
 exact hf v u s2 x y H2 I2 r1 r2 q2
def wm (i:Nat):TE:=fun σ H Q=>∃v,σ[i]?=some (some v)/\Q v H
def tC (v:V):TE:=fun _ H Q=>Q v H
theorem wu {i:Nat} {x:Str} {pos:Pos} (hN:X.N[i]?=some x) (hv:yJ X.env.scope x) (hd:(x==("__debug__":Str))=false:=by decide) (hcd:(x==("__classdict__":Str))=false:=by decide):PE X (.Name x pos) (wm i):=by
 intro pins s σ H Q I h
 obtain⟨v,e,h⟩:=h
 obtain⟨m,hn,hl⟩:=I.loc
 obtain⟨u,r,l⟩:=hl i x v hN e hv
 have fin:EP X pins σ Q u s:=⟨v,H,I,r,h⟩
 rcases l with⟨hk,hm⟩ | ⟨hk,c,hc,hcell⟩
 ·exact wpAny_Name (wpAny_loadName_local I.ok.kind hk hn hm fin) hd
 ·rcases hk with hk | hk
  ·exact wpAny_Name (wpAny_loadName_cell I.ok.kind hk hc hcell fin) hd
  ·exact wpAny_Name (wpAny_loadName_free I.ok.kind hk hc hcell fin hcd) hd
theorem ae {i j pos}:PE X (.Constant (.int i) j pos) (tC (.int i)):=fun _ _ _ H _ I h=>wpAny_Constant_int ⟨.int i,H,I.tok _,⟨_,rfl⟩,h⟩
theorem bB {b j pos}:PE X (.Constant (.bool b) j pos) (tC (.bl b)):=fun _ _ _ H _ I h=>Constant_bool ⟨.bl b,H,I,rfl,h⟩
theorem bU {j pos}:PE X (.Constant .none j pos) (tC .non):=fun _ _ _ H _ I h=>Constant_none ⟨.non,H,I,rfl,h⟩
theorem av {x j pos}:PE X (.Constant (.str x) j pos) (tC (.str x)):=fun _ _ _ H _ I h=>Calls.Constant_str ⟨.str x,H,I.tok _,⟨_,rfl⟩,h⟩
def Gl (X:Cx) (x:Str):Prop:=X.env.kindOf x=some .globalImplicit
theorem uE {E:Value->Shared->Prop} {pins:List (Addr×Obj)} {s:Shared} {σ:St} {H:Hp} {x:Str} {u:Value} {pos:Pos} {Q:Value->Shared->Prop} (I:Inv X pins σ H s) (hg:Gl X x) (hm:X.mg x=some u) (h:Q u s)
  (hd:(x==("__debug__":Str))=false:=by decide):wpAny (model X.prog X.w) X.A (eval (.Name x pos) X.env) Q E s:=
 Calls.Name_function_global I.ok.kind hg (Calls.loadGlobal_global (by rw[I.ok.glob];exact I.mod.glob.keeps I.bk) hm h) hd
theorem dM {E:Value->Shared->Prop} {pins:List (Addr×Obj)} {s:Shared} {σ:St} {H:Hp} {x:Str} {u:Value} {pos:Pos} {Q:Value->Shared->Prop} (I:Inv X pins σ H s) (hg:Gl X x) (hm:X.mg x=none) (hv:bootBuiltins x=some u) (h:Q u s)
  (hn:x≠"__name__":=by decide) (hd:(x==("__debug__":Str))=false:=by decide):wpAny (model X.prog X.w) X.A (eval (.Name x pos) X.env) Q E s:=by
 obtain⟨mb,h1,h2⟩:=I.mod.blt
 exact Calls.Name_function_global I.ok.kind hg (Calls.loadGlobal_builtin (by rw[I.ok.glob];exact I.mod.glob.keeps I.bk) hm (by rw[I.ok.blt];exact h1.keeps I.bk) ((h2 x hn).trans hv) h) hd
theorem iM {x:Str} {v:V} {u:Value} {pos:Pos} (hg:Gl X x) (hm:X.mg x=none) (hv:bootBuiltins x=some u) (r:RelV v u) (hn:x≠"__name__":=by decide) (hd:(x==("__debug__":Str))=false:=by decide):PE X (.Name x pos) (tC v):=
 fun _ _ _ H _ I h=>dM I hg hm hv ⟨v,H,I,r,h⟩ hn hd
variable {a b:Expr} {ta tb:TE} {pos:Pos}
def PC (X:Cx) (op:CmpOp) (a b:Expr) (t:TE):Prop:=
 ∀(pins:List (Addr×Obj)) (s:Shared) (σ:St) (H:Hp) (Q:VK),Inv X pins σ H s->t σ H Q->
  wpAny (model X.prog X.w) X.A (eval a X.env) (fun v s₁=>wpAny (model X.prog X.w) X.A (eval b X.env) (fun u s₂=>wpAny (model X.prog X.w) X.A (compareOp op v u) (EP X pins σ Q) X.xe s₂) X.xe s₁) X.xe s
theorem rN (b:Expr) {op:CmpOp} (h:op≠ .In) (h2:op≠ .NotIn):behindInMarks op b=false:=by
 have e1:(op==CmpOp.In)=false:=by cases op<;>first | rfl | exact absurd rfl h
 have e2:(op==CmpOp.NotIn)=false:=by cases op<;>first | rfl | exact absurd rfl h2
 cases b<;>simp[behindInMarks,e1,e2]
def tB (t:TE):TT:=fun σ H Q=>t σ H fun x H1=>∃c,x= .bl c/\Q c H1
theorem wx {op:CmpOp} {t:TE} (h:PC X op a b t) (h1:behindInMarks op b=false:=by first | exact rN _ (by decide) (by decide) | rfl):PT X (.Compare a [op] [b] pos) (tB t):=by
 intro pins s σ H Q I hw
 refine wpAny_isTrue_Compare1 (bF (h pins s σ H _ I hw) fun v s1 h1=>bF h1 fun u s2 h2=>bF h2 fun c s3 ⟨x,H1,I1,r1,q1⟩=>?_) h1
 obtain⟨d,rfl,q⟩:=q1
 cases r1
 exact wpAny_truthy_bool ⟨H1,I1,q⟩
theorem b7 {e:Expr} {t:TE} (h:PE X e t) (he:∀whole,isTrue e X.env whole=(do let v <- whole;standAt e.pos;holding [v] (truthy v)):=by intro _;rfl):PT X e (tB t):=by
 intro pins s σ H Q I hw
 refine isTrue_plain (bF (h pins s σ H _ I hw) fun v s1 ⟨x,H1,I1,r1,q1⟩=>?_) (he _)
 obtain⟨d,rfl,q⟩:=q1
 cases r1
 exact wpAny_truthy_bool ⟨H1,I1,q⟩
variable {tA tB':TT} {cK:List Expr}
def yU (t u:TT):TT:=fun σ H Q=>t σ H fun c H1=>if c=true then u σ H1 Q else Q false H1
def zF (t u:TT):TT:=fun σ H Q=>t σ H fun c H1=>if c=true then Q true H1 else u σ H1 Q
def yV (t:TT):TT:=fun σ H Q=>t σ H fun c H1=>Q (!c) H1
theorem gu (ha:PT X a tA):PW X (.BoolOp .And [a] pos) tA:=by
 intro wh pins s σ H Q I h
 refine isTrue_and (bF (ha pins s σ H Q I h) fun c s1 e=>?_)
 cases c with
 | true=>exact isTrue_and_nil e
 | false=>exact e
theorem gZ (ha:PT X a tA):PW X (.BoolOp .Or [a] pos) tA:=by
 intro wh pins s σ H Q I h
 refine isTrue_or (bF (ha pins s σ H Q I h) fun c s1 e=>?_)
 cases c with
 | false=>exact isTrue_or_nil e
 | true=>exact e
theorem iW (ha:PT X a tA) (hb:PW X (.BoolOp .And (b :: cK) pos) tB'):PW X (.BoolOp .And (a :: b :: cK) pos) (yU tA tB'):=by
 intro wh pins s σ H Q I h
 refine isTrue_and (bF (ha pins s σ H _ I h) fun c s1 hq__=>?_)
 obtain⟨H1,I1,q1⟩:=hq__
 cases c with
 | true=>exact hb wh pins s1 σ H1 Q I1 q1
 | false=>exact⟨H1,I1,q1⟩
theorem kc (ha:PT X a tA) (hb:PW X (.BoolOp .Or (b :: cK) pos) tB'):PW X (.BoolOp .Or (a :: b :: cK) pos) (zF tA tB'):=by
 intro wh pins s σ H Q I h
 refine isTrue_or (bF (ha pins s σ H _ I h) fun c s1 hq__=>?_)
 obtain⟨H1,I1,q1⟩:=hq__
 cases c with
 | true=>exact⟨H1,I1,q1⟩
 | false=>exact hb wh pins s1 σ H1 Q I1 q1
theorem cu (ha:PT X a tA):PT X (.UnaryOp .Not a pos) (yV tA):=by
 intro pins s σ H Q I h
 exact isTrue_not (ha pins s σ H (fun c H1=>Q (!c) H1) I h)
def xQ (ta tb:TE):TE:=fun σ H Q=>ta σ H fun x H1=>∃c,x= .bl c/\if c=true then tb σ H1 Q else Q (.bl false) H1
def xR (ta:TE):TE:=fun σ H Q=>ta σ H fun x H1=>∃c,x= .bl c/\Q (.bl (!c)) H1
theorem g7 {op} {t:TE} (h:PE X a t):PE X (.BoolOp op [a] pos) t:=fun pins s σ H Q I hw=>BoolOp_one (h pins s σ H Q I hw)
theorem dN (ha:PE X a ta) (hb:PE X (.BoolOp .And (b :: cK) pos) tb):PE X (.BoolOp .And (a :: b :: cK) pos) (xQ ta tb):=by
 intro pins s σ H Q I h
 refine BoolOp_and (bF (ha pins s σ H _ I h) fun v s1 hq__=>?_)
 obtain⟨x,H1,I1,r1,q1⟩:=hq__
 obtain⟨c,rfl,q1⟩:=q1
 cases r1
 refine wpAny_truthy_bool ?_
 cases c with
 | true=>exact hb pins s1 σ H1 Q I1 q1
 | false=>exact⟨.bl false,H1,I1,rfl,q1⟩
theorem wy (ha:PE X a ta):PE X (.UnaryOp .Not a pos) (xR ta):=by
 intro pins s σ H Q I h
 refine UnaryOp_ (bF (ha pins s σ H _ I h) fun v s1 hq__=>?_)
 obtain⟨x,H1,I1,r1,q1⟩:=hq__
 obtain⟨c,rfl,q1⟩:=q1
 cases r1
 exact not_of (wpAny_truthy_bool ⟨.bl (!c),H1,I1,rfl,q1⟩)
end
def SqL (K:PySem.W.Frag) (H:Hp) (a:Addr) (xs:List V):Prop:=
 Rd H a (.lst xs)\/
  ∃(o:Obj) (its:Array Value) (n:Nat),K.lookup a=some o/\o.cls= .type "list"/\o.dict=none/\o.data= .seq its n/\its.size<=sizeLine/\Vals xs its.toList
def SqT (K:PySem.W.Frag) (H:Hp) (a:Addr) (xs:List V):Prop:=
 Rd H a (.tup xs)\/
  ∃(o:Obj) (its:Array Value) (n:Nat),K.lookup a=some o/\o.cls= .type "tuple"/\o.data= .seq its n/\its.size<=sizeLine/\Vals xs its.toList
def yW:Value->Option V
 | .none=>some .non
 | .bool b=>some (.bl b)
 | .int i _=>some (.int i)
 | .str x _=>some (.str x)
 | .bytes b _=>some (.byt b)
 | .float b _=>some (.flt b)
 | .ref a=>some (.ref a)
 | .type n=>some (.ty n)
 | _=>none
theorem RelV.abs {x:V} {u:Value} (r:RelV x u):yW u=some x:=by
 cases x with
 | non=>cases r;rfl
 | bl _=>cases r;rfl
 | int _=>obtain⟨t,rfl⟩:=r;rfl
 | str _=>obtain⟨t,rfl⟩:=r;rfl
 | byt _=>obtain⟨t,rfl⟩:=r;rfl
 | flt _=>obtain⟨t,rfl⟩:=r;rfl
 | ref _=>cases r;rfl
 | ty _=>cases r;rfl
theorem RelV.inj {x y:V} {u:Value} (r:RelV x u) (q:RelV y u):x=y:=Option.some.inj (r.abs.symm.trans q.abs)
theorem Vals.inj:∀{xs ys:List V} {us:List Value},Vals xs us->Vals ys us->xs=ys:=by
 intro xs ys us h
 induction h generalizing ys with
 | nil=>intro h';cases h';rfl
 | cons r t ih=>
  intro h'
  cases h' with
  | cons r' t'=>rw[r.inj r',ih t']
section
variable {X:Cx} {pins:List (Addr×Obj)} {σ:St} {H:Hp} {s:Shared} {a:Addr} {xs ys:List V}
theorem SqL.of {K:PySem.W.Frag} (h:H a=some (.lst xs)):SqL K H a xs:= .inl (.inl h)
theorem SqT.of {K:PySem.W.Frag} (h:H a=some (.tup xs)):SqT K H a xs:= .inl (.inl h)
theorem Inv.list (I:Inv X pins σ H s) (h:SqL X.K H a xs):∃its:List Value,Vals xs its/\PlainL s.heap a its.toArray/\xs.length<=sizeLine:=by
 rcases h with h | ⟨o,its,n,hk,hc,hd,hs,hz,r⟩
 ·obtain⟨z,its,n,r,e⟩:=h.ok I.hok
  exact⟨its,r,⟨_,n,e,rfl,rfl,rfl⟩,z⟩
 ·refine⟨its.toList,r,⟨o,n,I.kIn a o hk,hc,hd,by simpa using hs⟩,?_⟩
  have e:=r.length
  simp only[Aj]at e
  omega
theorem Inv.tuple (I:Inv X pins σ H s) (h:SqT X.K H a xs):∃its:List Value,Vals xs its/\IsTup s.heap a its.toArray/\xs.length<=sizeLine:=by
 rcases h with h | ⟨o,its,n,hk,hc,hs,hz,r⟩
 ·obtain⟨z,its,r,p⟩:=h.ok I.hok
  exact⟨its,r,p,z⟩
 ·refine⟨its.toList,r,⟨o,I.kIn a o hk,hc,n,by simpa using hs⟩,?_⟩
  have e:=r.length
  simp only[Aj]at e
  omega
theorem Inv.list_inj (I:Inv X pins σ H s) (h:SqL X.K H a xs) (h':SqL X.K H a ys):xs=ys:=by
 obtain⟨its,r,⟨o,n,e,_,_,d⟩,_⟩:=I.list h
 obtain⟨its',r',⟨o',n',e',_,_,d'⟩,_⟩:=I.list h'
 rw[e]at e';cases e'
 rw[d]at d'
 injection d' with d1 _
 have:its=its':=by simpa using congrArg Array.toList d1
 subst this
 exact r.inj r'
theorem Inv.tuple_inj (I:Inv X pins σ H s) (h:SqT X.K H a xs) (h':SqT X.K H a ys):xs=ys:=by
 obtain⟨its,r,⟨o,e,_,n,d⟩,_⟩:=I.tuple h
 obtain⟨its',r',⟨o',e',_,n',d'⟩,_⟩:=I.tuple h'
 rw[e]at e';cases e'
 rw[d]at d'
 injection d' with d1 _
 have:its=its':=by simpa using congrArg Array.toList d1
 subst this
 exact r.inj r'
end
abbrev Cx.wish (X:Cx) (E:Value->Shared->Prop):Cx:={X with xe:=E}
abbrev Cx.nox (X:Cx):Cx:=X.wish fun _ _=>False
theorem Cx.Ok.wish {X:Cx} (ok:X.Ok) (E:Value->Shared->Prop):(X.wish E).Ok:=
 ⟨ok.mod,ok.kind,ok.glob,ok.blt,ok.above,ok.inj,ok.has,ok.cab,ok.hd,ok.frames,ok.stk,ok.exf,ok.bs,ok.bsz,ok.noex,ok.exfs,ok.funs,ok.frf⟩
theorem Cx.Ok.unwish {X:Cx} {E:Value->Shared->Prop} (ok:(X.wish E).Ok):X.Ok:=
 ⟨ok.mod,ok.kind,ok.glob,ok.blt,ok.above,ok.inj,ok.has,ok.cab,ok.hd,ok.frames,ok.stk,ok.exf,ok.bs,ok.bsz,ok.noex,ok.exfs,ok.funs,ok.frf⟩
section
variable {X:Cx} {pins:List (Addr×Obj)} {σ:St} {H:Hp} {s:Shared} {E:Value->Shared->Prop}
theorem Inv.wish (I:Inv X pins σ H s) (E:Value->Shared->Prop):Inv (X.wish E) pins σ H s:=⟨I.ok.wish E,I.os,I.bare,I.base,I.loc,I.cell,I.free,I.freeC,I.pin,I.hok,I.len⟩
theorem Inv.unwish (I:Inv (X.wish E) pins σ H s):Inv X pins σ H s:=⟨I.ok.unwish,I.os,I.bare,I.base,I.loc,I.cell,I.free,I.freeC,I.pin,I.hok,I.len⟩
theorem SP.unwish {D:Ends} {f:Flow} {s':Shared} (h:SP (X.wish E) pins D f s'):SP X pins D f s':=by
 cases f with
 | next=>obtain⟨σ',H',I,q⟩:=h;exact⟨σ',H',I.unwish,q⟩
 | brk=>obtain⟨σ',H',I,q⟩:=h;exact⟨σ',H',I.unwish,q⟩
 | cont=>obtain⟨σ',H',I,q⟩:=h;exact⟨σ',H',I.unwish,q⟩
 | ret u=>obtain⟨v,σ',H',I,r,q⟩:=h;exact⟨v,σ',H',I.unwish,r,q⟩
theorem PSs.nox {st:List Stmt} {t:TS} (h:PSs X.nox st t):PSs X st t:=fun pins s σ H D I hw=>
 wpAny_mono (h pins s σ H D (I.wish _) hw) (fun _ _ q=>q.unwish) fun _ _ z=>False.elim z
end
section
variable {X:Cx} {st:Stmt} {cK:List Stmt} {t u:TS} {e:Expr} {te:TE} {pos:Pos}
def xS:TS:=fun D σ H=>D.nx σ H
def wz (t u:TS):TS:=fun D σ H=>t {D with nx:=u D} σ H
theorem aA:PSs X [] xS:=fun _ _ σ H _ I h=>wpAny_execs_nil ⟨σ,H,I,h⟩
theorem ag (h1:PS X st t) (h2:PSs X cK u):PSs X (st :: cK) (wz t u):=by
 intro pins s σ H D I h
 refine wpAny_execs_cons (bF (h1 pins s σ H {D with nx:=u D} I h) fun f s1 q=>?_)
 cases f with
 | next=>
  obtain⟨σ',H',I',q⟩:=q
  exact h2 pins s1 σ' H' D I' q
 | ret v=>exact q
 | brk=>exact q
 | cont=>exact q
theorem ah (h1:PS X st t):PSs X [st] t:=by
 intro pins s σ H D I h
 refine wpAny_execs_cons (bF (h1 pins s σ H D I h) fun f s1 q=>?_)
 cases f with
 | next=>exact wpAny_execs_nil q
 | ret v=>exact q
 | brk=>exact q
 | cont=>exact q
theorem Inv.quiet {pins:List (Addr×Obj)} {σ:St} {H:Hp} {s:Shared} (I:Inv X pins σ H s):interactive X.env=false:=by simp[interactive,I.ok.kind]
def xT (te:TE):TS:=fun D σ H=>te σ H fun _ H1=>D.nx σ H1
theorem cZ (he:PE X e te) (hs:swapsWith e none pos.line X.env=pure false:=by rfl):PS X (.Expr e pos) (xT te):=by
 intro pins s σ H D I h
 exact wpAny_Expr_any (bF (he pins s σ H _ I h) fun v s1 ⟨x,H1,I1,r1,q1⟩=>⟨σ,H1,I1,q1⟩) I.quiet hs
def yX (te:TE):TS:=fun D σ H=>te σ H D.rt
theorem ar (he:PE X e te):PS X (.Return (some e) pos) (yX te):=by
 intro pins s σ H D I h
 exact wpAny_Return_some (bF (he pins s σ H _ I h) fun v s1 ⟨x,H1,I1,r1,q1⟩=>⟨x,σ,H1,I1,r1,q1⟩)
def yY (c:TT) (t u:TS):TS:=fun D σ H=>c σ H fun b H1=>if b=true then t D σ H1 else u D σ H1
theorem aU {c:Expr} {a b:List Stmt} {tc:TT} (hc:PT X c tc) (ha:PSs X a t) (hb:PSs X b u):PS X (.If c a b pos) (yY tc t u):=by
 intro pins s σ H D I h
 refine wpAny_If (bF (hc pins s σ H _ I h) fun d s1 hq__=>?_)
 obtain⟨H1,I1,q1⟩:=hq__
 cases d with
 | true=>exact ha pins s1 σ H1 D I1 q1
 | false=>exact hb pins s1 σ H1 D I1 q1
end
abbrev TG:=V->St->Hp->(St->Hp->Prop)->Prop
abbrev vH:=List V->St->Hp->(St->Hp->Prop)->Prop
def PG (X:Cx) (target:Expr) (t:TG):Prop:=
 ∀(pins:List (Addr×Obj)) (s:Shared) (σ:St) (H:Hp) (v:V) (u:Value) (Q:St->Hp->Prop),Inv X pins σ H s->RelV v u->t v σ H Q->
  wpAny (model X.prog X.w) X.A (assign target X.env u) (fun _ s'=>∃σ' H',Inv X pins σ' H' s'/\Q σ' H') X.xe s
def xI (X:Cx) (ts:List Expr) (t:vH):Prop:=
 ∀(pins:List (Addr×Obj)) (s:Shared) (σ:St) (H:Hp) (vs:List V) (us:List Value) (Q:St->Hp->Prop),Inv X pins σ H s->Vals vs us->t vs σ H Q->
  wpAny (model X.prog X.w) X.A (assignInOrder ((assignEach ts X.env).map (·.2)) us) (fun _ s'=>∃σ' H',Inv X pins σ' H' s'/\Q σ' H') X.xe s
abbrev wA:=V->V->V->Hp->(Hp->Prop)->Prop
def xU (X:Cx) (t:wA):Prop:=
 ∀(pins:List (Addr×Obj)) (s:Shared) (σ:St) (H:Hp) (o i v:V) (ov iv u:Value) (Q:Hp->Prop),Inv X pins σ H s->RelV o ov->RelV i iv->RelV v u->t o i v H Q->
  wpAny (model X.prog X.w) X.A (setItem ov iv u) (fun _ s'=>∃H',Inv X pins σ H' s'/\Q H') X.xe s
section
variable {X:Cx} {pos:Pos}
def bD (i:Nat):TG:=fun v σ H Q=>Q (σ.set i (some v)) H
theorem au {i:Nat} {x:Str} (hN:X.N.Nodup) (hi:X.N[i]?=some x) (hx:xP X.env.scope x) (hf:X.fn x=true\/X.env.scope.names.lookup x=some .local:=by first | exact .inl rfl | exact .inr rfl | assumption):PG X (.Name x pos) (bD i):=by
 intro pins s σ H v u Q I r h
 exact wpAny_assign_Name (mK I hN hi hx r (fun s' I'=>⟨_,H,I',h⟩) hf)
def rO:vH:=fun vs σ H Q=>vs=[]/\Q σ H
def gv (t:TG) (u:vH):vH:=fun vs σ H Q=>∃v r,vs=v :: r/\t v σ H fun σ' H'=>u r σ' H' Q
theorem cG:xI X [] rO:=by
 intro pins s σ H vs us Q I r h
 obtain⟨e,h⟩:=h
 subst e
 cases r
 exact assignInOrder_nil ⟨σ,H,I,h⟩
theorem aV {e:Expr} {es:List Expr} {t:TG} {u:vH} (h1:PG X e t) (h2:xI X es u)
  (hs:(assignEach (e :: es) X.env).map (·.2)=assign e X.env :: (assignEach es X.env).map (·.2):=by rfl):xI X (e :: es) (gv t u):=by
 intro pins s σ H vs us Q I r h
 obtain⟨v,vr,e1,h⟩:=h
 subst e1
 cases r with
 | cons r rr=>
  rw[hs]
  refine assignInOrder_cons (bF (h1 pins s σ H _ _ _ I r h) fun _ s1 hq__=>?_)
  obtain⟨σ1,H1,I1,q1⟩:=hq__
  exact h2 pins s1 σ1 H1 _ _ Q I1 rr q1
def qk (K:PySem.W.Frag) (n:Nat) (t:vH):TG:=fun v σ H Q=>∃a xs,v= .ref a/\SqT K H a xs/\xs.length=n/\t xs σ H Q
theorem wB {es:List Expr} {k:Nat} {t:vH} {n:Nat} (hc:X.calm=true) (h:xI X es t)
  (hn:(assignEach es X.env).length=n:=by rfl) (hst:(assignEach es X.env).findIdx? (·.1)=none:=by rfl):PG X (.Tuple es k pos) (qk X.K n t):=by
 intro pins s σ H v u Q I r hw
 obtain⟨a,xs,e1,hq,hl,hw⟩:=hw
 subst e1
 cases r
 obtain⟨its,rv,ht,hz⟩:=I.tuple hq
 refine assign_Tuple_tuple (I.ok.hd hc) ht (by simp[hn,<- hl,rv.length]) hst fun h' hx=>?_
 have I1:Inv X pins σ H {s with heap:=h'}:=I.kept (t':=s.toks) fun b o e=>hx b o (Ar (Heap.lt_size e)) e
 exact h pins _ σ H xs _ Q I1 (by simpa using rv) hw
def yZ (to ti:TE) (t:wA):TG:=fun v σ H Q=>to σ H fun o H1=>ti σ H1 fun i H2=>t o i v H2 fun H3=>Q σ H3
theorem oj {o i:Expr} {to ti:TE} {t:wA} (ho:PE X o to) (hi:PE X i ti) (hs:xU X t)
  (ha:∀v,assign (.Subscript o i pos) X.env v=(do
   let ov <- holding [v] (eval o X.env)
   let iv <- holding [v,ov] (eval i X.env)
   standAt pos
   holding [v,ov,iv] (setItem ov iv v)
   release [v,ov,iv] []):=by intro _;rfl):PG X (.Subscript o i pos) (yZ to ti t):=by
 intro pins s σ H v u Q I r h
 rw[ha]
 refine wpAny_bind (wpAny_holding (bF (ho pins s σ H _ I h) fun ov s1 hq__=>?_))
 obtain⟨x,H1,I1,r1,q1⟩:=hq__
 refine wpAny_bind (wpAny_holding (bF (hi pins s1 σ H1 _ I1 q1) fun iv s2 hq__=>?_))
 obtain⟨y,H2,I2,r2,q2⟩:=hq__
 refine wpAny_bind (wpAny_standAt (wpAny_bind (wpAny_holding (bF (hs pins s2 σ H2 x y v ov iv u _ I2 r1 r2 r q2) fun _ s3 hq__=>?_))))
 obtain⟨H3,I3,q3⟩:=hq__
 exact wpAny_release ⟨σ,H3,I3,q3⟩
def rP (te:TE) (g:TG):TS:=fun D σ H=>te σ H fun x H1=>g x σ H1 D.nx
theorem iX {tg e:Expr} {te:TE} {g:TG} (he:PE X e te) (hg:PG X tg g) (hs:swapsWithSole [tg] e pos.line X.env=pure false:=by rfl) (hw:swappedStores [tg] e X.env=pure none:=by rfl)
  (h1:(assignEach [tg] X.env).map (·.2)=[assign tg X.env]:=by rfl):PS X (.Assign [tg] e pos) (rP te g):=by
 intro pins s σ H D I h
 refine wpAny_Assign_stores (bF (he pins s σ H _ I h) fun v s1 ⟨x,H1,I1,r1,q1⟩=>?_) hs hw
 rw[h1]
 exact bF (hg pins s1 σ H1 x v _ I1 r1 q1) fun _ s2 q=>q
theorem ax {i:Nat} {x:Str} {e:Expr} {te:TE} {pos':Pos} (hN:X.N.Nodup) (hi:X.N[i]?=some x) (hx:xP X.env.scope x) (he:PE X e te) (hs:swapsWith e (some (.Name x pos')) pos.line X.env=pure false:=by rfl) (hf:X.fn x=true\/X.env.scope.names.lookup x=some .local:=by first | exact .inl rfl | exact .inr rfl | assumption):
  PS X (.Assign [.Name x pos'] e pos) (rP te (bD i)):=by
 intro pins s σ H D I h
 refine wpAny_Assign_Name (bF (he pins s σ H _ I h) fun v s1 ⟨y,H1,I1,r1,q1⟩=>?_) hs
 exact mK I1 hN hi hx r1 (fun s2 I2=>⟨_,H1,I2,q1⟩) hf
end
section
variable {X:Cx} {pos:Pos}
end
structure It where
 go:Nat->Hp->Prop
 yld:Nat->Hp->V->Hp->Prop
 stop:Nat->Hp->Prop
def ly (X:Cx) (pins:List (Addr×Obj)) (H:Hp) (b:Addr):Prop:=
 H b=none/\b≠X.env.locals/\b∉X.fs/\(b∈X.ex\/X.s₀.heap.objs.size<=b)/\(∀x c,X.env.cells.lookup x=some c->c≠b)/\∀p∈X.pn++pins,p.1≠b
theorem Inv.fpOk {X:Cx} {pins:List (Addr×Obj)} {σ:St} {H H':Hp} {s:Shared} {b:Addr} (I:Inv X pins σ H s) (hb:s.heap.objs.size<=b) (hn:H' b=none):ly X pins H' b:=by
 refine⟨hn,Bv (AB I.lt hb),I.nofs hb,.inr (AC I.sz hb),fun x c e z=>?_,fun p hp z=>?_⟩
 ·obtain⟨v,q⟩:=I.cell x c e
  exact absurd (AB q.lt (by rw[z];exact hb)) (A4 _)
 ·exact absurd (AB (Heap.lt_size (I.pin p hp).1) (by rw[z];exact hb)) (A4 _)
structure Turn (P:Program) (w:World) (K:PySem.W.Frag) (tg:Expr) (J:It) (fp:List Addr) (it:Addr) (tn:Nat->Heap->Prop):Prop where
 mem:it∈fp
 obj:∀i h,tn i h->∀b∈fp,∃o,h.get? b=some o/\∀v,o.data≠ .cell v
 keep:∀i h h',tn i h->(∀b∈fp,∀o,h.get? b=some o->h'.get? b=some o)->tn i h'
 item:∀(X:Cx),X.prog=P->X.w=w->X.K=K->X.calm=true->∀(i:Nat) (pins:List (Addr×Obj)) (s:Shared) (σ:St) (H:Hp) (E:Value->Shared->Prop),Inv X pins σ H s->(∀b∈fp,ly X pins H b)->tn i s.heap->J.go i H->
  wpAny (model P w) X.A (pyNext (.ref it)) (fun r s1=>∃u,r=some u/\
   wpAny (model P w) X.A (letOwnedTupleGo tg (.ref it) u) (fun _ s2=>∃x H',Inv X pins σ H' s2/\RelV x u/\J.yld i H x H'/\tn (i+1) s2.heap/\∀b∈fp,H' b=none) E s1) E s
 done:∀(X:Cx),X.prog=P->X.w=w->X.K=K->X.calm=true->∀(i:Nat) (pins:List (Addr×Obj)) (s:Shared) (σ:St) (H:Hp) (E:Value->Shared->Prop),Inv X pins σ H s->(∀b∈fp,ly X pins H b)->tn i s.heap->J.stop i H->
  wpAny (model P w) X.A (pyNext (.ref it)) (fun r s1=>r=none/\Inv X pins σ H s1) E s
 self:∀(A:Around) (i:Nat) (s:Shared) (Q:Value->Shared->Prop) (E:Value->Shared->Prop),tn i s.heap->Q (.ref it) s->wpAny (model P w) A (pyIter (.ref it)) Q E s
abbrev TI:=St->Hp->(It->Hp->Prop)->Prop
def zt (X:Cx) (pins:List (Addr×Obj)) (σ:St) (tg:Expr) (R:It->Hp->Prop) (itv:Value) (s2:Shared):Prop:=
 ∃(it:Addr) (fp:List Addr) (tn:Nat->Heap->Prop) (J:It) (H':Hp),itv= .ref it/\Inv X pins σ H' s2/\Turn X.prog X.w X.K tg J fp it tn/\tn 0 s2.heap/\(∀b∈fp,ly X pins H' b)/\R J H'
def PI (X:Cx) (tg iter:Expr) (wi:TI):Prop:=
 ∀(pins:List (Addr×Obj)) (s:Shared) (σ:St) (H:Hp) (R:It->Hp->Prop),Inv X pins σ H s->wi σ H R->
  wpAny (model X.prog X.w) X.A (eval iter X.env) (fun v s1=>wpAny (model X.prog X.w) X.A (pyIter v) (zt X pins σ tg R) X.xe s1) X.xe s
theorem mL {M:Model} {A:Around} {E:Value->Shared->Prop} {s:Shared} {tg:Expr} {it:Addr} {u:Value} {o:Obj} {n:String} {vs:Array Value} {Q:Unit->Shared->Prop} (ho:s.heap.get? it=some o) (hc:o.cls= .type n) (hd:o.data= .fields vs)
    (hn:["enumerate","zip","dict_itemiterator","dict_reverseitemiterator","odict_iterator","itertools.zip_longest","itertools.pairwise"].contains n=false) (hQ:Q () s):wpAny M A (letOwnedTupleGo tg (.ref it) u) Q E s:=by
  unfold letOwnedTupleGo
  cases tg<;>first
    | exact wpAny_pure hQ
    | (cases u<;>first
        | exact wpAny_pure hQ
        | (refine wpAny_bind (wpAny_load ho ?_)
           rw[hc,hd]
           show wpAny M A (if(["enumerate","zip","dict_itemiterator","dict_reverseitemiterator","odict_iterator","itertools.zip_longest","itertools.pairwise"].contains n&&vs[0]?==some (rawInt _))=true then _ else _) Q E s
           rw[if_neg (by intro h;rw[hn,Ao]at h;cases h)]
           exact wpAny_pure hQ))
def oo (K:PySem.W.Frag) (a:Addr):It:=
 ⟨fun i H=>∃xs x,SqL K H a xs/\xs[i]?=some x,fun i H x H'=>H'=H/\∀xs,SqL K H a xs->xs[i]?=some x,fun i H=>∃xs,SqL K H a xs/\xs.length<=i⟩
def vI (K:PySem.W.Frag) (a:Addr):It:=
 ⟨fun i H=>∃xs x,SqT K H a xs/\xs[i]?=some x,fun i H x H'=>H'=H/\∀xs,SqT K H a xs->xs[i]?=some x,fun i H=>∃xs,SqT K H a xs/\xs.length<=i⟩
def og (lo:Int) (n:Nat):It:=⟨fun i _=>i<n,fun i H x H'=>H'=H/\x= .int (lo+i),fun i _=>n<=i⟩
theorem kd {P:Program} {w:World} {K:PySem.W.Frag} {tg:Expr} (a it:Addr):Turn P w K tg (oo K a) [it] it (fun i h=>h.IsListIter it a i) where
 mem:=by simp
 obj:=fun i h st b hb=>by
  have e:b=it:=by simpa using hb
  subst e
  obtain⟨o,e,c,d⟩:=st
  exact⟨o,e,fun v z=>by rw[d]at z;cases z⟩
 keep:=fun i h h' st k=>st.at fun o e=>k it (by simp) o e
 item:=by
  intro X hP hw hK hc i pins s σ H E I hf st hg
  subst hP hw hK
  obtain⟨xs,x,hq,hx⟩:=hg
  obtain⟨its,rv,p,hz⟩:=I.list hq
  obtain⟨u,hu,ru⟩:=rv.get hx
  obtain⟨f0,f1,f2,f3,f4,f5⟩:=hf it (by simp)
  refine wpAny_pyNext_list_item st p.isList (x:=u) (by simpa using hu) fun h' st' sb=>?_
  have I1:Inv X pins σ H {s with heap:=h'}:=I.turned (t':=s.toks) (fun b o hb e=>(sb.2 b hb).trans e) f0 f1 f3 f4 f5
  obtain⟨o,e,c,d⟩:=id st'
  exact⟨u,rfl,mL (s:={s with heap:=h'}) e c d (by decide) ⟨x,H,I1,ru,⟨rfl,fun ys hy=>by rw[I.list_inj hy hq];exact hx⟩,st',fun b hb=>(hf b hb).1⟩⟩
 done:=by
  intro X hP hw hK hc i pins s σ H E I hf st hg
  subst hP hw hK
  obtain⟨xs,hq,hx⟩:=hg
  obtain⟨its,rv,p,hz⟩:=I.list hq
  obtain⟨f0,f1,f2,f3,f4,f5⟩:=hf it (by simp)
  have hl:=rv.length
  exact wpAny_pyNext_list_end (I.ok.hd hc) st p.isList (by simp;omega) fun h' eb=>⟨rfl,I.turned (t':=s.toks) (fun b o hb e=>eb b o hb e) f0 f1 f3 f4 f5⟩
 self:=fun _ _ _ _ _ st h=>wpAny_pyIter_listiter st h
theorem iY {P:Program} {w:World} {K:PySem.W.Frag} {tg:Expr} (a it:Addr):Turn P w K tg (vI K a) [it] it (fun i h=>h.IsTupleIter it a i) where
 mem:=by simp
 obj:=fun i h st b hb=>by
  have e:b=it:=by simpa using hb
  subst e
  obtain⟨o,e,c,d⟩:=st
  exact⟨o,e,fun v z=>by rw[d]at z;cases z⟩
 keep:=fun i h h' st k=>st.at fun o e=>k it (by simp) o e
 item:=by
  intro X hP hw hK hc i pins s σ H E I hf st hg
  subst hP hw hK
  obtain⟨xs,x,hq,hx⟩:=hg
  obtain⟨its,rv,p,hz⟩:=I.tuple hq
  obtain⟨u,hu,ru⟩:=rv.get hx
  obtain⟨f0,f1,f2,f3,f4,f5⟩:=hf it (by simp)
  refine wpAny_pyNext_tuple_item st (show s.heap.IsTuple a its.toArray from p) (x:=u) (by simpa using hu) fun h' st' sb=>?_
  have I1:Inv X pins σ H {s with heap:=h'}:=I.turned (t':=s.toks) (fun b o hb e=>(sb.2 b hb).trans e) f0 f1 f3 f4 f5
  obtain⟨o,e,c,d⟩:=id st'
  exact⟨u,rfl,mL (s:={s with heap:=h'}) e c d (by decide) ⟨x,H,I1,ru,⟨rfl,fun ys hy=>by rw[I.tuple_inj hy hq];exact hx⟩,st',fun b hb=>(hf b hb).1⟩⟩
 done:=by
  intro X hP hw hK hc i pins s σ H E I hf st hg
  subst hP hw hK
  obtain⟨xs,hq,hx⟩:=hg
  obtain⟨its,rv,p,hz⟩:=I.tuple hq
  obtain⟨f0,f1,f2,f3,f4,f5⟩:=hf it (by simp)
  have hl:=rv.length
  exact wpAny_pyNext_tuple_end (I.ok.hd hc) st (show s.heap.IsTuple a its.toArray from p) (by simp;omega) fun h' eb=>⟨rfl,I.turned (t':=s.toks) (fun b o hb e=>eb b o hb e) f0 f1 f3 f4 f5⟩
 self:=fun _ _ _ _ _ st h=>wpAny_pyIter_tupleiter st h
theorem oq {P:Program} {w:World} {K:PySem.W.Frag} {tg:Expr} (it:Addr) (lo:Int) (n:Nat):Turn P w K tg (og lo n) [it] it (fun i h=>IsRangeIter h it (lo+(i:Nat)*1) ((n:Int)-(i:Nat)) 1) where
 mem:=by simp
 obj:=fun i h st b hb=>by
  have e:b=it:=by simpa using hb
  subst e
  exact⟨_,st,fun v z=>by
   have z':Data.fields _=Data.cell v:=z
   cases z'⟩
 keep:=fun i h h' st k=>k it (by simp) _ st
 item:=by
  intro X hP hw hK hc i pins s σ H E I hf st hg
  subst hP hw hK
  obtain⟨f0,f1,f2,f3,f4,f5⟩:=hf it (by simp)
  have W:=Walks.range (prog:=X.prog) (w:=X.w) (I.ok.hd hc) it lo 1 n
  refine W.item i s _ _ hg st fun v h' tk hv st' kk=>?_
  obtain⟨t,rfl⟩:=hv
  have I1:Inv X pins σ H {s with heap:=h',toks:=tk}:=I.turned (fun b o hb e=>kk b o (by simpa using hb) e) f0 f1 f3 f4 f5
  refine⟨_,rfl,mL (s:={s with heap:=h',toks:=tk}) (n:="range_iterator") st' rfl rfl (by decide) ⟨.int (lo+i),H,I1,⟨t,?_⟩,⟨rfl,rfl⟩,st',fun b hb=>(hf b hb).1⟩⟩
  rw[Int.mul_one]
 done:=by
  intro X hP hw hK hc i pins s σ H E I hf st hg
  subst hP hw hK
  obtain⟨f0,f1,f2,f3,f4,f5⟩:=hf it (by simp)
  exact wpAny_pyNext_range_end (I.ok.hd hc) st (by have:n<=i:=hg;omega) fun h' eb=>⟨rfl,I.turned (t':=s.toks) (fun b o hb e=>eb b o hb e) f0 f1 f3 f4 f5⟩
 self:=fun _ _ _ _ _ st h=>wpAny_pyIter_rangeiter st h
section
variable {X:Cx} {tg:Expr}
def vJ (K:PySem.W.Frag) (tl:TE):TI:=fun σ H R=>tl σ H fun x H1=>∃a,x= .ref a/\(∃xs,SqL K H1 a xs)/\R (oo K a) H1
def xV (K:PySem.W.Frag) (tl:TE):TI:=fun σ H R=>tl σ H fun x H1=>∃a,x= .ref a/\(∃xs,SqT K H1 a xs)/\R (vI K a) H1
theorem uF {l:Expr} {tl:TE} (hl:PE X l tl):PI X tg l (vJ X.K tl):=by
 intro pins s σ H R I h
 refine bF (hl pins s σ H _ I h) fun v s1 hq__=>?_
 obtain⟨x,H1,I1,r1,q1⟩:=hq__
 obtain⟨a,e,⟨xs,hq⟩,q⟩:=q1
 subst e
 cases r1
 obtain⟨its,rv,p,hz⟩:=I1.list hq
 refine wpAny_pyIter_list p.isList ?_
 refine⟨s1.heap.objs.size,[s1.heap.objs.size],_,_,H1,rfl,I1.kept (t':=s1.toks) fun b o e=>Heap.get?_push_of_some _ e,kd a _,⟨_,Heap.get?_push_size _ rfl,rfl,rfl⟩,fun b hb=>?_,q⟩
 have e:b=s1.heap.objs.size:=by simpa using hb
 subst e
 exact I1.fpOk (Af _) (I1.hok.fresh (Af _))
theorem wC {l:Expr} {tl:TE} (hl:PE X l tl):PI X tg l (xV X.K tl):=by
 intro pins s σ H R I h
 refine bF (hl pins s σ H _ I h) fun v s1 hq__=>?_
 obtain⟨x,H1,I1,r1,q1⟩:=hq__
 obtain⟨a,e,⟨xs,hq⟩,q⟩:=q1
 subst e
 cases r1
 obtain⟨its,rv,p,hz⟩:=I1.tuple hq
 refine wpAny_pyIter_tuple (show s1.heap.IsTuple a its.toArray from p) ?_
 refine⟨s1.heap.objs.size,[s1.heap.objs.size],_,_,H1,rfl,I1.kept (t':=s1.toks) fun b o e=>Heap.get?_push_of_some _ e,iY a _,⟨_,Heap.get?_push_size _ rfl,rfl,rfl⟩,fun b hb=>?_,q⟩
 have e:b=s1.heap.objs.size:=by simpa using hb
 subst e
 exact I1.fpOk (Af _) (I1.hok.fresh (Af _))
theorem mM {pins:List (Addr×Obj)} {σ:St} {H:Hp} {s:Shared} {R:It->Hp->Prop} {E:Value->Shared->Prop} {lo hi:Int} {t u v:Tok} {tk:Nat} (I:Inv X pins σ H s) (h1: -(2^62)<=lo) (h2:lo<2^62) (h3: -(2^62)<=hi) (h4:hi<2^62)
  (q:R (og lo (hi-lo).toNat) H):wpAny (model X.prog X.w) X.A (pyIter (.ref s.heap.objs.size)) (zt X pins σ tg R) E {s with heap:=s.heap.push {cls:= .type "range",data:= .fields #[.int lo t,.int hi u,.int 1 v]},toks:=tk}:=by
 refine wpAny_pyIter_range (IsRange.new ..) (small_one h1 h2 h3 h4) ?_
 have I1:Inv X pins σ H {s with heap:=s.heap.push {cls:= .type "range",data:= .fields #[.int lo t,.int hi u,.int 1 v]},toks:=tk}:=I.kept fun b o e=>Heap.get?_push_of_some _ e
 refine⟨(s.heap.push {cls:= .type "range",data:= .fields #[.int lo t,.int hi u,.int 1 v]}).objs.size,[(s.heap.push {cls:= .type "range",data:= .fields #[.int lo t,.int hi u,.int 1 v]}).objs.size],_,_,H,rfl,
  I1.kept (t':=tk) fun b o e=>Heap.get?_push_of_some _ e,oq _ lo (hi-lo).toNat,?_,fun b hb=>?_,q⟩
 ·have e1:lo+((0:Nat):Int)*1=lo:=by simp
  have e2:(((hi-lo).toNat:Nat):Int)-((0:Nat):Int)=Builtin.Range.rangeSize lo hi 1:=by rw[rangeSize_one];split<;>omega
  show IsRangeIter _ _ (lo+((0:Nat):Int)*1) ((((hi-lo).toNat:Nat):Int)-((0:Nat):Int)) 1
  rw[e1,e2]
  exact Heap.get?_push_size _ rfl
 ·have e:b=(s.heap.push {cls:= .type "range",data:= .fields #[.int lo t,.int hi u,.int 1 v]}).objs.size:=by simpa using hb
  subst e
  exact I1.fpOk (Af _) (I1.hok.fresh (Af _))
def xW (ta:TA):TI:=fun σ H R=>ta σ H fun vs H1=>∃j:Int,vs=[.int j]/\ -(2^62)<=j/\j<2^62/\R (og 0 j.toNat) H1
def xX (ta:TA):TI:=fun σ H R=>ta σ H fun vs H1=>∃i j:Int,vs=[.int i,.int j]/\(-(2^62)<=i/\i<2^62/\ -(2^62)<=j/\j<2^62)/\R (og i (j-i).toNat) H1
theorem aZ {a:Expr} {ta:TA} {p pos:Pos} (hg:Gl X "range") (hm:X.mg "range"=none) (ha:PA X [a] ta) (hs:starEach [a] X.env=[(false,eval a X.env)]:=by rfl):PI X tg (.Call (.Name "range" p) [a] [] pos) (xW ta):=by
 intro pins s σ H R I h
 refine Call_ (dM I hg hm boot_range (PyProof.Rows.callWith_type1 (bF (ha pos pins s σ H _ I h) fun us s1 ⟨vs,H1,I1,r1,q1⟩=>?_) hs rfl))
 obtain⟨j,e,q1,q2,q⟩:=q1
 subst e
 cases r1 with
 | cons r rr=>
  cases rr
  obtain⟨t,rfl⟩:=r
  exact call_range_1 (mM I1 (by omega) (by omega) q1 q2 (by simpa using q))
theorem ke {a b:Expr} {ta:TA} {p pos:Pos} (hg:Gl X "range") (hm:X.mg "range"=none) (ha:PA X [a,b] ta) (hs:starEach [a,b] X.env=[(false,eval a X.env),(false,eval b X.env)]:=by rfl) (hs2:starEach [b] X.env=[(false,eval b X.env)]:=by rfl):
  PI X tg (.Call (.Name "range" p) [a,b] [] pos) (xX ta):=by
 intro pins s σ H R I h
 refine Call_ (dM I hg hm boot_range (PyProof.Rows.callWith_type1 (bF (ha pos pins s σ H _ I h) fun us s1 ⟨vs,H1,I1,r1,q1⟩=>?_) (by rw[hs,hs2]) (by rw[hs2];rfl)))
 obtain⟨i,j,e,⟨q1,q2,q3,q4⟩,q⟩:=q1
 subst e
 cases r1 with
 | cons r rr=>
  cases rr with
  | cons r' rr=>
   cases rr
   obtain⟨t,rfl⟩:=r
   obtain⟨t',rfl⟩:=r'
   exact call_range_2 (mM I1 q1 q2 q3 q4 q)
def y3 (wi:TI) (g:TG) (tb:TS):TS:=fun D σ H=>wi σ H fun J H1=>∃W:Nat->Nat->St->Hp->Prop,(∃m,W 0 m σ H1)/\∀i m σ H,W i m σ H->
 (J.stop i H/\D.nx σ H)\/(J.go i H/\∃N:St->Hp->Prop,(∀σ' H',N σ' H'->∃m',m'<m/\W (i+1) m' σ' H')/\∀x H',J.yld i H x H'->g x σ H' fun σ2 H2=>tb {D with nx:=N,ct:=N,bk:=D.nx} σ2 H2)
def iZ (fp:List Addr) (h:Heap):List (Addr×Obj):=fp.filterMap fun b=>(h.get? b).map fun o=>(b,o)
theorem dO {fp:List Addr} {h:Heap} {b:Addr} {o:Obj} (hb:b∈fp) (e:h.get? b=some o):(b,o)∈iZ fp h:=Br.mpr ⟨b,hb,by rw[e];rfl⟩
theorem ql {fp:List Addr} {h:Heap} {p:Addr×Obj} (hp:p∈iZ fp h):p.1∈fp/\h.get? p.1=some p.2:=by
 obtain⟨b,hb,e⟩:=Br.mp hp
 cases q:h.get? b with
 | none=>rw[q]at e;cases e
 | some o=>
  rw[q]at e
  have e':(b,o)=p:=Option.some.inj e
  subst e'
  exact⟨hb,q⟩
theorem Inv.pinned {pins:List (Addr×Obj)} {σ:St} {H:Hp} {s:Shared} {fp:List Addr} (I:Inv X pins σ H s) (hf:∀b∈fp,ly X pins H b) (ho:∀b∈fp,∃o,s.heap.get? b=some o/\∀v,o.data≠ .cell v):Inv X (pins++iZ fp s.heap) σ H s:=
 I.pins_of fun p hp=>(AH.mp hp).elim (fun z=>I.pin p (AE _ z)) fun z=>by
  obtain⟨hb,e⟩:=ql z
  obtain⟨f0,f1,f2,_⟩:=hf p.1 hb
  obtain⟨o,e',d⟩:=ho p.1 hb
  rw[e]at e';cases e'
  exact⟨e,f0,f1,f2,d⟩
theorem Inv.unpinned {pins pl:List (Addr×Obj)} {σ:St} {H:Hp} {s:Shared} (I:Inv X (pins++pl) σ H s):Inv X pins σ H s:=I.pins_of fun p hp=>I.pin p (AE _ (Bc _ hp))
theorem b8 {iter:Expr} {body:List Stmt} {wi:TI} {g:TG} {tb:TS} {pos:Pos} (hp:PassesOwn (model X.prog X.w) X.A X.env X.xe) (hc:X.calm=true) (hi:PI X tg iter wi) (hg:PG X tg g) (hb:PSs X body tb)
  (hs:∀x,foldedSetIterable iter X.env x=pure x:=by intro _;rfl):PS X (.For tg iter body [] pos) (y3 wi g tb):=by
 intro pins s σ H D I h
 refine wpAny_For (bF (hi pins s σ H _ I h) fun v s1 h1=>bF h1 fun itv s2 h2=>?_) hs
 obtain⟨it,fp,tn,J,H2,e,I2,T,st2,f2,W,⟨m0,w0⟩,turn⟩:=h2
 subst e
 have stat:∀{H':Hp},(∀b∈fp,H' b=none)->∀b∈fp,ly X pins H' b:=fun hn b hb=>⟨hn b hb,(f2 b hb).2⟩
 refine codeAny_forLoop_any (fun n s'=>∃i σ' H',Inv X pins σ' H' s'/\tn i s'.heap/\(∀b∈fp,H' b=none)/\W i n σ' H') ?_ m0 ⟨0,σ,H2,I2,st2,fun b hb=>(f2 b hb).1,w0⟩
 rintro n s3 ⟨i,σ3,H3,I3,st3,fr3,w3⟩
 rcases turn i n σ3 H3 w3 with⟨stop,qn⟩ | ⟨go,N,hN,step⟩
 ·refine wpAny_passesOwn hp (bF (T.done X rfl rfl rfl hc i pins s3 σ3 H3 X.xe I3 (stat fr3) st3 stop) fun r s4 hq__=>?_)
  obtain⟨hr,I4⟩:=hq__
  subst hr
  exact wpAny_execs_nil ⟨σ3,H3,I4,qn⟩
 ·refine wpAny_passesOwn hp (bF (T.item X rfl rfl rfl hc i pins s3 σ3 H3 X.xe I3 (stat fr3) st3 go) fun r s4 hq__=>?_)
  obtain⟨u,hr,h4⟩:=hq__
  subst hr
  refine wpAny_passesOwn hp (bF h4 fun _ s5 hq__=>?_)
  obtain⟨x,H5,I5,r5,y5,st5,fr5⟩:=hq__
  have I5':=I5.pinned (stat fr5) (T.obj _ _ st5)
  refine wpAny_passesOwn hp (bF (hg _ s5 σ3 H5 x u _ I5' r5 (step x H5 y5)) fun _ s6 hq__=>?_)
  obtain⟨σ6,H6,I6,q6⟩:=hq__
  refine wpAny_passesOwn hp (bF (hb _ s6 σ6 H6 _ I6 q6) fun f s7 q7=>?_)
  have again:∀{σ7:St} {H7:Hp},Inv X (pins++iZ fp s5.heap) σ7 H7 s7->N σ7 H7->∃m,m<n/\∃i σ' H',Inv X pins σ' H' s7/\tn i s7.heap/\(∀b∈fp,H' b=none)/\W i m σ' H':=fun {σ7 H7} I7 n7=>by
   obtain⟨m',hm,w7⟩:=hN σ7 H7 n7
   refine⟨m',hm,i+1,σ7,H7,I7.unpinned,T.keep _ _ _ st5 fun b hb o e=>(I7.pin (b,o) (AE _ (AE _ (dO hb e)))).1,fun b hb=>?_,w7⟩
   obtain⟨o,e,d⟩:=T.obj _ _ st5 b hb
   exact(I7.pin (b,o) (AE _ (AE _ (dO hb e)))).2.1
  cases f with
  | next=>obtain⟨σ7,H7,I7,n7⟩:=q7;exact again I7 n7
  | cont=>obtain⟨σ7,H7,I7,n7⟩:=q7;exact again I7 n7
  | brk=>obtain⟨σ7,H7,I7,q7⟩:=q7;exact⟨σ7,H7,I7.unpinned,q7⟩
  | ret v=>obtain⟨x7,σ7,H7,I7,r7,q7⟩:=q7;exact⟨x7,σ7,H7,I7.unpinned,r7,q7⟩
end
theorem eL {K:PySem.W.Frag} {a:Addr} {xs:List V} {g:TG} {tb:TS} {D:Ends} {σ:St} {H:Hp} (Pv:Nat->St->Hp->Prop) (h0:Pv 0 σ H) (hl:∀i σ H,i<=xs.length->Pv i σ H->SqL K H a xs)
  (hs:∀i x σ H,xs[i]?=some x->Pv i σ H->g x σ H fun σ2 H2=>tb {D with nx:=Pv (i+1),ct:=Pv (i+1),bk:=D.nx} σ2 H2) (hd:∀σ H,Pv xs.length σ H->D.nx σ H):
  ∃W:Nat->Nat->St->Hp->Prop,(∃m,W 0 m σ H)/\∀i m σ H,W i m σ H->
   ((oo K a).stop i H/\D.nx σ H)\/((oo K a).go i H/\∃N:St->Hp->Prop,(∀σ' H',N σ' H'->∃m',m'<m/\W (i+1) m' σ' H')/\∀x H',(oo K a).yld i H x H'->g x σ H' fun σ2 H2=>tb {D with nx:=N,ct:=N,bk:=D.nx} σ2 H2):=by
 refine⟨fun i m σ H=>m=xs.length-i/\i<=xs.length/\Pv i σ H,⟨xs.length,by simp,Az _,h0⟩,?_⟩
 rintro i m σ H ⟨rfl,hi,p⟩
 have q:=hl i σ H hi p
 by_cases hlt:i<xs.length
 ·refine .inr ⟨⟨xs,xs[i],q,by simp[hlt]⟩,Pv (i+1),fun σ' H' p'=>⟨xs.length-(i+1),AZ _ _ hlt,rfl,hlt,p'⟩,fun x H' y=>?_⟩
  obtain⟨e,y⟩:=y
  subst e
  exact hs i x σ _ (y xs q) p
 ·have e:i=xs.length:=Bn hi (A9 hlt)
  subst e
  exact .inl ⟨⟨xs,q,Af _⟩,hd σ H p⟩
theorem uG {K:PySem.W.Frag} {a:Addr} {xs:List V} {g:TG} {tb:TS} {D:Ends} {σ:St} {H:Hp} (Pv:Nat->St->Hp->Prop) (h0:Pv 0 σ H) (hl:∀i σ H,i<=xs.length->Pv i σ H->SqT K H a xs)
  (hs:∀i x σ H,xs[i]?=some x->Pv i σ H->g x σ H fun σ2 H2=>tb {D with nx:=Pv (i+1),ct:=Pv (i+1),bk:=D.nx} σ2 H2) (hd:∀σ H,Pv xs.length σ H->D.nx σ H):
  ∃W:Nat->Nat->St->Hp->Prop,(∃m,W 0 m σ H)/\∀i m σ H,W i m σ H->
   ((vI K a).stop i H/\D.nx σ H)\/((vI K a).go i H/\∃N:St->Hp->Prop,(∀σ' H',N σ' H'->∃m',m'<m/\W (i+1) m' σ' H')/\∀x H',(vI K a).yld i H x H'->g x σ H' fun σ2 H2=>tb {D with nx:=N,ct:=N,bk:=D.nx} σ2 H2):=by
 refine⟨fun i m σ H=>m=xs.length-i/\i<=xs.length/\Pv i σ H,⟨xs.length,by simp,Az _,h0⟩,?_⟩
 rintro i m σ H ⟨rfl,hi,p⟩
 have q:=hl i σ H hi p
 by_cases hlt:i<xs.length
 ·refine .inr ⟨⟨xs,xs[i],q,by simp[hlt]⟩,Pv (i+1),fun σ' H' p'=>⟨xs.length-(i+1),AZ _ _ hlt,rfl,hlt,p'⟩,fun x H' y=>?_⟩
  obtain⟨e,y⟩:=y
  subst e
  exact hs i x σ _ (y xs q) p
 ·have e:i=xs.length:=Bn hi (A9 hlt)
  subst e
  exact .inl ⟨⟨xs,q,Af _⟩,hd σ H p⟩
theorem b9 {lo:Int} {n:Nat} {g:TG} {tb:TS} {D:Ends} {σ:St} {H:Hp} (Pv:Nat->St->Hp->Prop) (h0:Pv 0 σ H)
  (hs:∀i σ H,i<n->Pv i σ H->g (.int (lo+i)) σ H fun σ2 H2=>tb {D with nx:=Pv (i+1),ct:=Pv (i+1),bk:=D.nx} σ2 H2) (hd:∀σ H,Pv n σ H->D.nx σ H):
  ∃W:Nat->Nat->St->Hp->Prop,(∃m,W 0 m σ H)/\∀i m σ H,W i m σ H->
   ((og lo n).stop i H/\D.nx σ H)\/((og lo n).go i H/\∃N:St->Hp->Prop,(∀σ' H',N σ' H'->∃m',m'<m/\W (i+1) m' σ' H')/\∀x H',(og lo n).yld i H x H'->g x σ H' fun σ2 H2=>tb {D with nx:=N,ct:=N,bk:=D.nx} σ2 H2):=by
 refine⟨fun i m σ H=>m=n-i/\i<=n/\Pv i σ H,⟨n,by simp,Az _,h0⟩,?_⟩
 rintro i m σ H ⟨rfl,hi,p⟩
 by_cases hlt:i<n
 ·refine .inr ⟨hlt,Pv (i+1),fun σ' H' p'=>⟨n-(i+1),AZ _ _ hlt,rfl,hlt,p'⟩,fun x H' y=>?_⟩
  obtain⟨e,y⟩:=y
  subst e y
  exact hs i σ _ hlt p
 ·have e:i=n:=Bn hi (A9 hlt)
  subst e
  exact .inl ⟨Af _,hd σ H p⟩
abbrev R2:=V->V->Hp->VK->Prop
def eG (X:Cx) (f:Value->Value->Sem Value) (r:R2):Prop:=
 ∀(pins:List (Addr×Obj)) (s:Shared) (σ:St) (H:Hp) (x y:V) (v u:Value) (Q:VK),Inv X pins σ H s->RelV x v->RelV y u->r x y H Q->
  wpAny (model X.prog X.w) X.A (f v u) (EP X pins σ Q) X.xe s
def yK (X:Cx) (f:Value->Sem Value) (r:V->Hp->VK->Prop):Prop:=
 ∀(pins:List (Addr×Obj)) (s:Shared) (σ:St) (H:Hp) (x:V) (v:Value) (Q:VK),Inv X pins σ H s->RelV x v->r x H Q->
  wpAny (model X.prog X.w) X.A (f v) (EP X pins σ Q) X.xe s
def cg (X:Cx) (f:Value) (r:List V->Hp->VK->Prop):Prop:=
 ∀(pins:List (Addr×Obj)) (s:Shared) (σ:St) (H:Hp) (xs:List V) (us:List Value) (Q:VK),Inv X pins σ H s->Vals xs us->r xs H Q->
  wpAny (model X.prog X.w) X.A (call f us) (EP X pins σ Q) X.xe s
def y4 (X:Cx) (r:V->Hp->(Bool->Hp->Prop)->Prop):Prop:=
 ∀(pins:List (Addr×Obj)) (s:Shared) (σ:St) (H:Hp) (x:V) (v:Value) (Q:Bool->Hp->Prop),Inv X pins σ H s->RelV x v->r x H Q->
  wpAny (model X.prog X.w) X.A (truthy v) (TP X pins σ Q) X.xe s
def wD (r:R2) (ta tb:TE):TE:=fun σ H Q=>ta σ H fun x H1=>tb σ H1 fun y H2=>r x y H2 Q
def zu (r:V->Hp->VK->Prop) (ta:TE):TE:=fun σ H Q=>ta σ H fun x H1=>r x H1 Q
def rI (C:Int->Int->Prop) (g:Int->Int->V):R2:=fun x y H Q=>∃i j,x= .int i/\y= .int j/\C i j/\Q (g i j) H
def uH (g:Int->Int->V):R2:=fun x y H Q=>∃i j,x= .int i/\y= .int j/\Q (g i j) H
def rU (g:Int->V):V->Hp->VK->Prop:=fun x H Q=>∃i,x= .int i/\Q (g i) H
section
variable {X:Cx} {a b c:Expr} {ta tb tc:TE} {pos:Pos}
theorem wF (ha:PE X a ta) (hb:PE X b tb) {pins:List (Addr×Obj)} {s:Shared} {σ:St} {H:Hp} {R:V->V->Hp->Prop} (I:Inv X pins σ H s)
  (h:ta σ H fun x H1=>tb σ H1 fun y H2=>R x y H2) {Q:Value->Shared->Prop} {f:Value->Value->Sem Value}
  (hf:∀v u s2 x y H2,Inv X pins σ H2 s2->RelV x v->RelV y u->R x y H2->wpAny (model X.prog X.w) X.A (f v u) Q X.xe s2):
  wpAny (model X.prog X.w) X.A (eval a X.env) (fun v s₁=>wpAny (model X.prog X.w) X.A (eval b X.env) (fun u s₂=>wpAny (model X.prog X.w) X.A (f v u) Q X.xe s₂) X.xe s₁) X.xe s:=by
 refine bF (ha pins s σ H _ I h) fun v s1 hq__=>?_
 obtain⟨x,H1,I1,r1,q1⟩:=hq__
 refine bF (hb pins s1 σ H1 _ I1 q1) fun u s2 hq__=>?_
 obtain⟨y,H2,I2,r2,q2⟩:=hq__
 exact hf v u s2 x y H2 I2 r1 r2 q2
theorem ak {op:Operator} {r:R2} (ho:eG X (binaryOp op) r) (ha:PE X a ta) (hb:PE X b tb):PE X (.BinOp a op b pos) (wD r ta tb):=by
 intro pins s σ H Q I h
 exact wpAny_BinOp (wF ha hb I h fun v u s2 x y H2 I2 rx ry q=>ho pins s2 σ H2 x y v u Q I2 rx ry q)
theorem kg {op:UnaryOp} {r:V->Hp->VK->Prop} (ho:yK X (unaryOp op) r) (ha:PE X a ta):PE X (.UnaryOp op a pos) (zu r ta):=by
 intro pins s σ H Q I h
 exact UnaryOp_ (bF (ha pins s σ H _ I h) fun v s1 ⟨x,H1,I1,r1,q1⟩=>ho pins s1 σ H1 x v Q I1 r1 q1)
theorem xY {f:Value->Value->Sem Value} {C:Int->Int->Prop} {g:Int->Int->Int}
  (rule:∀(i j:Int) (t u:Tok) (s:Shared) (Q:Value->Shared->Prop) (E:Value->Shared->Prop),C i j->Q (.int (g i j) s.toks) {s with toks:=s.toks+1}->wpAny (model X.prog X.w) X.A (f (.int i t) (.int j u)) Q E s):
  eG X f (rI C fun i j=> .int (g i j)):=by
 intro pins s σ H x y v u Q I rx ry h
 obtain⟨i,j,rfl,rfl,hc,q⟩:=h
 obtain⟨t,rfl⟩:=rx
 obtain⟨t',rfl⟩:=ry
 exact rule i j t t' s _ _ hc ⟨.int (g i j),H,I.tok _,⟨_,rfl⟩,q⟩
theorem xZ {f:Value->Value->Sem Value} {g:Int->Int->Int}
  (rule:∀(i j:Int) (t u:Tok) (s:Shared) (Q:Value->Shared->Prop) (E:Value->Shared->Prop),Q (.int (g i j) s.toks) {s with toks:=s.toks+1}->wpAny (model X.prog X.w) X.A (f (.int i t) (.int j u)) Q E s):
  eG X f (uH fun i j=> .int (g i j)):=by
 intro pins s σ H x y v u Q I rx ry h
 obtain⟨i,j,rfl,rfl,q⟩:=h
 obtain⟨t,rfl⟩:=rx
 obtain⟨t',rfl⟩:=ry
 exact rule i j t t' s _ _ ⟨.int (g i j),H,I.tok _,⟨_,rfl⟩,q⟩
theorem uI {f:Value->Value->Sem Value} {g:Int->Int->Bool}
  (rule:∀(i j:Int) (t u:Tok) (s:Shared) (Q:Value->Shared->Prop) (E:Value->Shared->Prop),Q (.bool (g i j)) s->wpAny (model X.prog X.w) X.A (f (.int i t) (.int j u)) Q E s):
  eG X f (uH fun i j=> .bl (g i j)):=by
 intro pins s σ H x y v u Q I rx ry h
 obtain⟨i,j,rfl,rfl,q⟩:=h
 obtain⟨t,rfl⟩:=rx
 obtain⟨t',rfl⟩:=ry
 exact rule i j t t' s _ _ ⟨.bl (g i j),H,I,rfl,q⟩
def dD (i j:Int):Prop:=0<j/\j<1073741824
def uJ (i j:Int):Prop:=0<=j/\j<=1000000/\i.natAbs<2^64
def CMul (i j:Int):Prop:=(-(2^64)<i/\i<2^64)\/(-(2^64)<j/\j<2^64)
theorem CMul.ok {i j:Int} (h:CMul i j):IntMulOk i j:=by
 rcases h with⟨h1,h2⟩ | ⟨h1,h2⟩
 ·exact .of_left (intBits_le_64 h1 h2)
 ·exact .of_right (intBits_le_64 h1 h2)
theorem ou (k:Nat):(0:Int)<=2^k:=by
 rw[two_pow_cast]
 exact Int.natCast_nonneg _
theorem aQ:eG X (binaryOp .Add) (uH fun i j=> .int (i+j)):=xZ fun _ _ _ _ _ _ _ q=>add_int q
theorem dh:eG X (binaryOp .Sub) (uH fun i j=> .int (i-j)):=xZ fun _ _ _ _ _ _ _ q=>sub_int q
theorem fM:eG X (binaryOp .Mult) (rI CMul fun i j=> .int (i*j)):=xY fun _ _ _ _ _ _ _ hc q=>mul_int q hc.ok
theorem bI:eG X (binaryOp .FloorDiv) (rI dD fun i j=> .int (i/j)):=xY fun i j _ _ _ _ _ hc q=>by
 have h1:(0:Int)<j:=hc.1
 have h2:j<1073741824:=hc.2
 exact floordiv_int (by omega) (by rw[BX i (by omega)];exact q) (.inl (PyProof.noPylong_small (by omega)))
theorem aY:eG X (binaryOp .Mod) (rI (fun _ j=>0<j) fun i j=> .int (i%j)):=xY fun i j _ _ _ _ _ hc q=>by
 have h1:(0:Int)<j:=hc
 exact mod_int' (by omega) (by rw[Int.fmod_eq_emod_of_nonneg i (by omega)];exact q)
theorem dP:eG X (binaryOp .Pow) (rI uJ fun i j=> .int (i^j.toNat)):=xY fun _ _ _ _ _ _ _ hc q=>pow_int_small hc.1 hc.2.1 hc.2.2 q
theorem wG:eG X (binaryOp .RShift) (rI (fun _ j=>0<=j) fun i j=> .int (i/2^j.toNat)):=xY fun i j _ _ _ _ _ hc q=>
 rshift_int hc (by rw[BX i (ou _)];exact q)
theorem zG {f:Value->Sem Value} {g:Int->Int}
  (rule:∀(i:Int) (t:Tok) (s:Shared) (Q:Value->Shared->Prop) (E:Value->Shared->Prop),Q (.int (g i) s.toks) {s with toks:=s.toks+1}->wpAny (model X.prog X.w) X.A (f (.int i t)) Q E s):
  yK X f (rU fun i=> .int (g i)):=by
 intro pins s σ H x v Q I rx h
 obtain⟨i,rfl,q⟩:=h
 obtain⟨t,rfl⟩:=rx
 exact rule i t s _ _ ⟨.int (g i),H,I.tok _,⟨_,rfl⟩,q⟩
theorem g8:yK X (unaryOp .USub) (rU fun i=> .int (-i)):=zG fun _ _ _ _ _ q=>neg_int q
end
def uK:V->V->Bool
 | .non,.non=>true | .non,.int _=>true | .int _,.non=>true | .non,.bl _=>true | .bl _,.non=>true | .non,.str _=>true | .str _,.non=>true
 | .int _,.int _=>true | .bl _,.bl _=>true | .str _,.str _=>true | .byt _,.byt _=>true
 | .int _,.str _=>true | .str _,.int _=>true | .bl _,.str _=>true | .str _,.bl _=>true
 | _,_=>false
def zH:R2:=fun x y H Q=>uK x y=true/\Q (.bl (decide (x=y))) H
def zI:R2:=fun x y H Q=>uK x y=true/\Q (.bl (!decide (x=y))) H
theorem pF {i j:Int}:decide (V.int i=V.int j)=(i==j):=by
 rw[BI]
 simp
theorem rQ {i j:Bool}:decide (V.bl i=V.bl j)=(i==j):=by
 rw[BI]
 simp
theorem pG {i j:Str}:decide (V.str i=V.str j)=(i==j):=by
 rw[BI]
 simp
theorem pH {i j:Array UInt8}:decide (V.byt i=V.byt j)=(i.toList==j.toList):=by
 rw[BI]
 cases i
 cases j
 simp
section
variable {X:Cx} {a b c:Expr} {ta tb tc:TE} {pos:Pos}
theorem aH {pins:List (Addr×Obj)} {σ:St} {H:Hp} {s:Shared} {Q:VK} {k k':Bool} (I:Inv X pins σ H s) (q:Q (.bl k) H) (e:k=k'):EP X pins σ Q (.bool k') s:=by
 subst e
 exact⟨.bl k,H,I,rfl,q⟩
theorem bY:eG X (compareOp .Eq) zH:=by
 intro pins s σ H x y v u Q I rx ry h
 obtain⟨hs,q⟩:=h
 cases x with
 | non=>
  cases rx
  cases y with
  | non=>cases ry;exact PySem.EqNone.eq_none_none (aH I q (by simp))
  | bl j=>cases ry;exact PySem.EqNone.eq_none_bool (aH I q (by simp))
  | int j=>obtain⟨t',rfl⟩:=ry;exact PySem.EqNone.eq_none_int (aH I q (by simp))
  | str j=>obtain⟨t',rfl⟩:=ry;exact PySem.EqNone.eq_none_str (aH I q (by simp))
  | _=>exact absurd (show false=true from hs) Ag
 | bl i=>
  cases rx
  cases y with
  | non=>cases ry;exact PySem.EqNone.eq_bool_none (aH I q (by simp))
  | bl j=>cases ry;exact eq_bool (aH I q rQ)
  | str j=>obtain⟨t',rfl⟩:=ry;exact PySem.EqMixed.eq_bool_str (aH I q (by simp))
  | _=>exact absurd (show false=true from hs) Ag
 | int i=>
  obtain⟨t,rfl⟩:=rx
  cases y with
  | non=>cases ry;exact PySem.EqNone.eq_int_none (aH I q (by simp))
  | int j=>obtain⟨t',rfl⟩:=ry;exact eq_int (aH I q pF)
  | str j=>obtain⟨t',rfl⟩:=ry;exact PySem.EqMixed.eq_int_str (aH I q (by simp))
  | _=>exact absurd (show false=true from hs) Ag
 | str i=>
  obtain⟨t,rfl⟩:=rx
  cases y with
  | non=>cases ry;exact PySem.EqNone.eq_str_none (aH I q (by simp))
  | bl j=>cases ry;exact PySem.EqMixed.eq_str_bool (aH I q (by simp))
  | int j=>obtain⟨t',rfl⟩:=ry;exact PySem.EqMixed.eq_str_int (aH I q (by simp))
  | str j=>obtain⟨t',rfl⟩:=ry;exact eq_str (aH I q pG)
  | _=>exact absurd (show false=true from hs) Ag
 | byt i=>
  obtain⟨t,rfl⟩:=rx
  cases y with
  | byt j=>obtain⟨t',rfl⟩:=ry;exact PySem.W.eq_bytes (aH I q pH)
  | _=>exact absurd (show false=true from hs) Ag
 | _=>cases y<;>exact absurd (show false=true from hs) Ag
theorem rR:eG X (compareOp .NotEq) zI:=by
 intro pins s σ H x y v u Q I rx ry h
 obtain⟨hs,q⟩:=h
 cases x with
 | non=>
  cases rx
  cases y with
  | non=>cases ry;exact PySem.EqNone.ne_none_none (aH I q (by simp))
  | bl j=>cases ry;exact PySem.EqNone.ne_none_bool (aH I q (by simp))
  | int j=>obtain⟨t',rfl⟩:=ry;exact PySem.EqNone.ne_none_int (aH I q (by simp))
  | str j=>obtain⟨t',rfl⟩:=ry;exact PySem.EqNone.ne_none_str (aH I q (by simp))
  | _=>exact absurd (show false=true from hs) Ag
 | bl i=>
  cases rx
  cases y with
  | non=>cases ry;exact PySem.EqNone.ne_bool_none (aH I q (by simp))
  | bl j=>cases ry;exact ne_bool (aH I q (congrArg not rQ))
  | str j=>obtain⟨t',rfl⟩:=ry;exact PySem.EqMixed.ne_bool_str (aH I q (by simp))
  | _=>exact absurd (show false=true from hs) Ag
 | int i=>
  obtain⟨t,rfl⟩:=rx
  cases y with
  | non=>cases ry;exact PySem.EqNone.ne_int_none (aH I q (by simp))
  | int j=>obtain⟨t',rfl⟩:=ry;exact ne_int (aH I q (congrArg not pF))
  | str j=>obtain⟨t',rfl⟩:=ry;exact PySem.EqMixed.ne_int_str (aH I q (by simp))
  | _=>exact absurd (show false=true from hs) Ag
 | str i=>
  obtain⟨t,rfl⟩:=rx
  cases y with
  | non=>cases ry;exact PySem.EqNone.ne_str_none (aH I q (by simp))
  | bl j=>cases ry;exact PySem.EqMixed.ne_str_bool (aH I q (by simp))
  | int j=>obtain⟨t',rfl⟩:=ry;exact PySem.EqMixed.ne_str_int (aH I q (by simp))
  | str j=>obtain⟨t',rfl⟩:=ry;exact ne_str (aH I q (congrArg not pG))
  | _=>exact absurd (show false=true from hs) Ag
 | byt i=>
  obtain⟨t,rfl⟩:=rx
  cases y with
  | byt j=>obtain⟨t',rfl⟩:=ry;exact PySem.W.ne_bytes (aH I q (congrArg not pH))
  | _=>exact absurd (show false=true from hs) Ag
 | _=>cases y<;>exact absurd (show false=true from hs) Ag
theorem fD:eG X (compareOp .Lt) (uH fun i j=> .bl (decide (i<j))):=uI fun _ _ _ _ _ _ _ q=>lt_int q
theorem kh:eG X (compareOp .LtE) (uH fun i j=> .bl (decide (i<=j))):=uI fun _ _ _ _ _ _ _ q=>le_int q
theorem rS:eG X (compareOp .Gt) (uH fun i j=> .bl (decide (j<i))):=uI fun _ _ _ _ _ _ _ q=>gt_int q
theorem rT:eG X (compareOp .GtE) (uH fun i j=> .bl (decide (j<=i))):=uI fun _ _ _ _ _ _ _ q=>ge_int q
theorem rV:eG X (compareOp .Is) (fun x y H Q=>y= .non/\Q (.bl (decide (x= .non))) H):=by
 intro pins s σ H x y v u Q I rx ry h
 obtain⟨rfl,q⟩:=h
 cases ry
 refine is_none_gen (aH I q ?_)
 cases x<;>first
  | (cases rx;rfl)
  | (obtain⟨t,rfl⟩:=rx;rfl)
theorem uL:eG X (compareOp .IsNot) (fun x y H Q=>y= .non/\Q (.bl (!decide (x= .non))) H):=by
 intro pins s σ H x y v u Q I rx ry h
 obtain⟨rfl,q⟩:=h
 cases ry
 refine isnot_none_gen (aH I q ?_)
 cases x<;>first
  | (cases rx;rfl)
  | (obtain⟨t,rfl⟩:=rx;rfl)
theorem az (b:Expr) {op:CmpOp} (h:op≠ .In:=by decide) (h2:op≠ .NotIn:=by decide):behindInMarks op b=false:=by
 have e1:(op==CmpOp.In)=false:=by cases op<;>first | rfl | exact absurd rfl h
 have e2:(op==CmpOp.NotIn)=false:=by cases op<;>first | rfl | exact absurd rfl h2
 cases b<;>simp[behindInMarks,e1,e2]
theorem b5 {op:CmpOp} {r:R2} (ho:eG X (compareOp op) r) (ha:PE X a ta) (hb:PE X b tb) (hm:behindInMarks op b=false):PE X (.Compare a [op] [b] pos) (wD r ta tb):=by
 intro pins s σ H Q I h
 exact wpAny_Compare1 (wF ha hb I h fun v u s2 x y H2 I2 rx ry q=>ho pins s2 σ H2 x y v u Q I2 rx ry q) hm
def x6 (t:TE):TT:=fun σ H Q=>t σ H fun x H'=>∃k,x= .bl k/\Q k H'
theorem ay {op:CmpOp} {r:R2} (ho:eG X (compareOp op) r) (ha:PE X a ta) (hb:PE X b tb) (hm:behindInMarks op b=false):PT X (.Compare a [op] [b] pos) (x6 (wD r ta tb)):=by
 intro pins s σ H Q I h
 refine wpAny_isTrue_Compare1 (bF (ha pins s σ H _ I h) fun v s1 h1=>?_) hm
 obtain⟨x,H1,I1,r1,q1⟩:=h1
 refine bF (hb pins s1 σ H1 _ I1 q1) fun u s2 h2=>?_
 obtain⟨y,H2,I2,r2,q2⟩:=h2
 refine bF (ho pins s2 σ H2 x y v u _ I2 r1 r2 q2) fun c s3 h3=>?_
 obtain⟨z,H3,I3,r3,k,e,q3⟩:=h3
 subst e
 cases r3
 exact wpAny_truthy_bool ⟨H3,I3,q3⟩
def wH (r r':R2) (ta tb tc:TE):TE:=fun σ H Q=>ta σ H fun x H1=>tb σ H1 fun y H2=>r x y H2 fun z H3=>∃k,z= .bl k/\
 (if k=true then tc σ H3 fun w' H4=>r' y w' H4 Q else Q (.bl false) H3)
theorem i4 {op op':CmpOp} {r r':R2} (ho:eG X (compareOp op) r) (ho':eG X (compareOp op') r') (ha:PE X a ta) (hb:PE X b tb) (hc:PE X c tc)
  (hm:lastMarks [op,op'] [b,c]=false:=by with_unfolding_all rfl):PE X (.Compare a [op,op'] [b,c] pos) (wH r r' ta tb tc):=by
 intro pins s σ H Q I h
 refine Compare_chain (bF (ha pins s σ H _ I h) fun v s1 h1=>?_) hm
 obtain⟨x,H1,I1,r1,q1⟩:=h1
 refine chain_link (bF (hb pins s1 σ H1 _ I1 q1) fun u s2 h2=>?_)
 obtain⟨y,H2,I2,r2,q2⟩:=h2
 refine bF (ho pins s2 σ H2 x y v u _ I2 r1 r2 q2) fun d s3 h3=>?_
 obtain⟨z,H3,I3,r3,k,e,q3⟩:=h3
 subst e
 cases r3
 refine wpAny_truthy_bool ?_
 cases k with
 | false=>exact ite_ff ⟨.bl false,H3,I3,rfl,q3⟩
 | true=>
  refine ite_tt (chain_last (bF (hc pins s3 σ H3 _ I3 q3) fun w' s4 h4=>?_))
  obtain⟨z',H4,I4,r4,q4⟩:=h4
  exact ho' pins s4 σ H4 y z' u w' Q I4 r2 r4 q4
def y6 (K:PySem.W.Frag) (x:V) (H:Hp) (k:Bool):Prop:=
 match x with
 | .non=>k=false
 | .bl b=>k=b
 | .int i=>k=(i != 0)
 | .str y=>y.length<=sizeLine/\k=((y.length:Int) != 0)
 | .byt y=>y.size<=sizeLine/\k=((y.size:Int) != 0)
 | .ref p=>(∃xs,SqL K H p xs/\k= !xs.isEmpty)\/(∃xs,SqT K H p xs/\k= !xs.isEmpty)\/∃kvs,H p=some (.dK kvs)/\k= !kvs.isEmpty
 | _=>False
theorem ox {κ:Type} {kvs:List (κ×V)} {vs:List (κ×Value)} (r:KV kvs vs):(!vs.isEmpty)= !kvs.isEmpty:=by
 cases r<;>rfl
theorem i5 {xs:List V} {its:List Value} (r:Vals xs its):(!its.toArray.isEmpty)= !xs.isEmpty:=by
 cases r<;>simp
theorem i6:(sizeLine:Nat)<2^63:=by rw[sizeLine_eq];decide
theorem y8:y4 X (fun x H Q=>∃k,y6 X.K x H k/\Q k H):=by
 intro pins s σ H x v Q I rx h
 obtain⟨k,e,q⟩:=h
 have hl:=i6
 have hs:sizeLine=16777216:=sizeLine_eq
 cases x with
 | non=>
  cases rx
  have e':k=false:=e
  subst e'
  exact truthy_none ⟨H,I,q⟩
 | bl b=>
  cases rx
  have e':k=b:=e
  subst e'
  exact wpAny_truthy_bool ⟨H,I,q⟩
 | int i=>
  obtain⟨t,rfl⟩:=rx
  have e':k=(i != 0):=e
  subst e'
  exact PySem.P.truthy_int ⟨H,I,q⟩
 | str y=>
  obtain⟨t,rfl⟩:=rx
  obtain⟨hy,e'⟩:y.length<=sizeLine/\k=((y.length:Int) != 0):=e
  subst e'
  exact PySem.P.truthy_str (by omega) ⟨H,I.tok _,q⟩
 | byt y=>
  obtain⟨t,rfl⟩:=rx
  obtain⟨hy,e'⟩:y.size<=sizeLine/\k=((y.size:Int) != 0):=e
  subst e'
  exact PySem.W.truthy_bytes (by omega) ⟨H,I.tok _,q⟩
 | ref p=>
  cases rx
  have e':(∃xs,SqL X.K H p xs/\k= !xs.isEmpty)\/(∃xs,SqT X.K H p xs/\k= !xs.isEmpty)\/∃kvs,H p=some (.dK kvs)/\k= !kvs.isEmpty:=e
  rcases e' with⟨xs,hx,e'⟩ | ⟨xs,hx,e'⟩ | ⟨kvs,hx,e'⟩
  ·subst e'
   obtain⟨its,r,pl,hz⟩:=I.list hx
   have hlen:=r.length
   exact wpAny_truthy_list pl.isList (by simp only[Ak];omega) ⟨H,I.tok _,by rw[i5 r];exact q⟩
  ·subst e'
   obtain⟨its,r,pl,hz⟩:=I.tuple hx
   have hlen:=r.length
   exact truthy_tuple pl (by simp only[Ak];omega) ⟨H,I.tok _,by rw[i5 r];exact q⟩
  ·subst e'
   obtain⟨hz,hS,vs,r,m⟩:kvs.length<=sizeLine/\(p==sysModules)=false/\∃vs,KV kvs vs/\s.heap.DictOf (bc X.prog X.w) p vs:=I.hok p _ hx
   have hlen:kvs.length=vs.length:=Paired.length r
   exact wpAny_truthy_dict hS m (by omega) ⟨H,I.tok _,by rw[ox r];exact q⟩
 | _=>exact(show False from e).elim
theorem dE {x:V} {us:List Value} (r:Vals [x] us):∃u,us=[u]/\RelV x u:=by
 cases r with
 | cons r1 r2=>cases r2;exact⟨_,rfl,r1⟩
theorem rW {x y:V} {us:List Value} (r:Vals [x,y] us):∃u w',us=[u,w']/\RelV x u/\RelV y w':=by
 cases r with
 | cons r1 r2=>
  cases r2 with
  | cons r3 r4=>cases r4;exact⟨_,_,rfl,r1,r3⟩
theorem qm (hc:X.calm=true):cg X (.builtin "min") (fun xs H Q=>∃i j,xs=[.int i,.int j]/\Q (.int (if j<i then j else i)) H):=by
 intro pins s σ H xs us Q I r h
 obtain⟨i,j,rfl,q⟩:=h
 obtain⟨u,w',rfl,⟨t,rfl⟩,⟨t',rfl⟩⟩:=rW r
 refine min_two_ints (I.ok.hd hc) fun h' tk k=>⟨_,H,I.kept k,?_,q⟩
 by_cases hj:j<i
 ·rw [if_pos hj,if_pos hj];exact⟨_,rfl⟩
 ·rw [if_neg hj,if_neg hj];exact⟨_,rfl⟩
def x8 (K:PySem.W.Frag) (x:V) (H:Hp) (n:Nat):Prop:=
 match x with
 | .str y=>y.length<=sizeLine/\n=y.length
 | .byt y=>y.size<=sizeLine/\n=y.size
 | .ref p=>(∃xs,SqL K H p xs/\n=xs.length)\/∃xs,SqT K H p xs/\n=xs.length
 | _=>False
theorem rX:cg X (.builtin "len") (fun xs H Q=>∃x n,xs=[x]/\x8 X.K x H n/\Q (.int n) H):=by
 intro pins s σ H xs us Q I r h
 obtain⟨x,n,rfl,e,q⟩:=h
 obtain⟨u,rfl,rx⟩:=dE r
 have hl:=i6
 have hs:sizeLine=16777216:=sizeLine_eq
 cases x with
 | str y=>
  obtain⟨t,rfl⟩:=rx
  obtain⟨hy,e'⟩:y.length<=sizeLine/\n=y.length:=e
  subst e'
  exact len_str (by omega) ⟨.int _,H,I.tok _,⟨_,rfl⟩,q⟩
 | byt y=>
  obtain⟨t,rfl⟩:=rx
  obtain⟨hy,e'⟩:y.size<=sizeLine/\n=y.size:=e
  subst e'
  exact PySem.W.len_bytes (by omega) ⟨.int _,H,I.tok _,⟨_,rfl⟩,q⟩
 | ref p=>
  cases rx
  have e':(∃xs,SqL X.K H p xs/\n=xs.length)\/∃xs,SqT X.K H p xs/\n=xs.length:=e
  rcases e' with⟨xs,hx,e'⟩ | ⟨xs,hx,e'⟩
  ·subst e'
   obtain⟨its,r',pl,hz⟩:=I.list hx
   have hlen:=r'.length
   exact Calls.call_len_list pl.isList (by simp only[Ak];omega) ⟨.int xs.length,H,I.tok _,⟨_,by simp only[Ak];rw[hlen]⟩,q⟩
  ·subst e'
   obtain⟨its,r',pl,hz⟩:=I.tuple hx
   have hlen:=r'.length
   exact len_tuple pl (by simp only[Ak];omega) ⟨.int xs.length,H,I.tok _,⟨_,by simp only[Ak];rw[hlen]⟩,q⟩
 | _=>exact(show False from e).elim
end
structure ObjM (h:Heap) (x dx C:Addr) (mA:Str->Option Value):Prop where
 obj:h.get? x=some (PySem.W.instObj C dx)
 ns:h.Ns1 dx mA
 ne:dx≠x
theorem qo {h:Heap} {dx:Addr} {mA:Str->Option Value} (n:h.Ns1 dx mA):∃od,h.get? dx=some od/\∀name,PySem.W.lookIn name od=some (mA name):=by
 obtain⟨o,es,ep,ho,hd,hk,_,hm⟩:=n
 refine⟨o,ho,fun name=>?_⟩
 have e:=hm name
 unfold nsFind findBy at e
 rw[<- Array.find?_toList]at e
 unfold PySem.W.lookIn
 rw[hd]
 dsimp only
 split
 ·rename_i y q
  rw[q]at e
  exact congrArg some e
 ·rename_i q
  rw[q]at e
  have a:es.toList.any (·.refKey)=false:=by
   rw[List.any_eq_false]
   intro y hy
   obtain⟨z,t,hkey⟩:=hk y (Array.mem_toList_iff.mp hy)
   simp[DictEntry.refKey,hkey]
  have a':¬es.toList.any (·.refKey)=true:=by rw[a];exact Ag
  rw[if_neg a']
  exact congrArg some e
theorem ObjM.look {h:Heap} {x dx C:Addr} {mA:Str->Option Value} (I:ObjM h x dx C mA):∃od,PySem.W.InstAt h x (PySem.W.instObj C dx) C (some od)/\∀name,PySem.W.lookIn name od=some (mA name):=
 let⟨od,ho,hl⟩:=qo I.ns
 ⟨od,⟨I.obj,rfl,rfl,ho⟩,hl⟩
section
variable {prog:Program} {w:World} {A:Around} {E:Value->Shared->Prop} {s:Shared} {K:PySem.W.Frag} {x dx C f:Addr} {mA:Str->Option Value} {name:Str} {v:Value}
end
theorem RelO.some_of {v:V} {o:Option Value} (r:RelO (some v) o):∃u,o=some u/\RelV v u:=by
 cases o with
 | none=>exact(show False from r).elim
 | some u=>exact⟨u,rfl,r⟩
section
variable {P:Program} {w:World} {H H':Hp} {h h':Heap} {a C dx:Addr} {fs fs':List (Str×V)}
theorem uM (hok:HOk P w H h) (e:H a=some (.ins C dx fs)):∃mA,ObjM h a dx C mA/\(∀f,RelO (fs.lookup f) (mA f))/\PySem.Within mA (fs.map (·.1))/\fs.length<=1000/\H dx=some (.own a):=by
 obtain⟨d,z,ne,ob,mA,n,r,q⟩:=(show ObjOk P w H h a (.ins C dx fs)from hok a _ e)
 exact⟨mA,⟨ob,n,ne⟩,r,q,z,d⟩
end
structure Cls (K:PySem.W.Frag) (C:Addr):Prop where
 pg:PySem.W.plainGet K C Str.empty=true
 hd:PySem.W.hasDictIn K C=true
 po:PySem.W.plainOver K C=true
 sa:PySem.W.findIn K (.ref C) "__setattr__"=some (some (.builtin "object.__setattr__"))
theorem Cls.get {K:PySem.W.Frag} {C:Addr} (c:Cls K C) (f:Str):PySem.W.plainGet K C f=true:=c.pg
section
variable {X:Cx} {pins:List (Addr×Obj)} {σ:St} {H:Hp} {s:Shared} {a C dx:Addr} {fs:List (Str×V)} {f:Str} {v:V} {A:Around} {E:Value->Shared->Prop}
end
section
variable {X:Cx} {o e value:Expr} {f:Str} {pos pos' tpos:Pos} {ta tv:TE}
end
section
variable {X:Cx} {pins:List (Addr×Obj)} {σ:St} {H:Hp} {s:Shared} {A:Around} {E:Value->Shared->Prop} {Q:Value->Shared->Prop} {c:Value} {b:Bool}
inductive TyOf (K:PySem.W.Frag) (H:Hp):V->Value->Prop where
 | non:TyOf K H .non (.type "NoneType")
 | bl (x:Bool):TyOf K H (.bl x) (.type "bool")
 | int (i:Int):TyOf K H (.int i) (.type "int")
 | str (x:Str):TyOf K H (.str x) (.type "str")
 | flt (x:UInt64):TyOf K H (.flt x) (.type "float")
 | lst {a:Addr} {xs:List V} (e:H a=some (.lst xs)):TyOf K H (.ref a) (.type "list")
 | frz {a:Addr} {o:Obj} {xs:List V} (e:H a=some (.frz o (.lst xs))):TyOf K H (.ref a) (.type "list")
 | tup {a:Addr} {xs:List V} (e:H a=some (.tup xs)):TyOf K H (.ref a) (.type "tuple")
 | dK {a:Addr} {kvs:List (cO×V)} (e:H a=some (.dK kvs)):TyOf K H (.ref a) (.type "dict")
 | dT {a:Addr} {kvs:List (List cO×V)} (e:H a=some (.dT kvs)):TyOf K H (.ref a) (.type "dict")
 | ins {a C dx:Addr} {fs:List (Str×V)} (e:H a=some (.ins C dx fs)) (cl:Cls K C) (ha:PySem.W.findIn K (.ref C) "__class__"=some (some (.builtin "object.__class__")))
  (hn:PySem.W.specialIn K (.builtin "object.__class__") "__get__"=some (some (.builtin "getset_descriptor.__get__"))) (htk:PySem.W.takesIn K (.builtin "object.__class__")=some true)
  (hm:PySem.W.mroIn K C (.type "object")=some true):TyOf K H (.ref a) (.ref C)
theorem qp {x:V} {u t:Value} (I:Inv X pins σ H s) (rx:RelV x u) (ty:TyOf X.K H x t) (e:PySem.W.kitOne X.K t c=some b) (h:∀tk,Q (.bool b) {s with toks:=tk}):
  wpAny (model X.prog X.w) A (call (.builtin "isinstance") [u,c]) Q E s:=by
 cases ty with
 | non=>cases(show u=Value.none from rx);exact PySem.W.kia_one PySem.W.kitx_none I.kIn True.intro e (fun z=>nomatch z) h
 | bl y=>cases(show u=Value.bool y from rx);exact PySem.W.kia_one PySem.W.kitx_bool I.kIn True.intro e (fun z=>nomatch z) h
 | int i=>obtain⟨t,q⟩:=(show ∃t,u=Value.int i t from rx);cases q;exact PySem.W.kia_one PySem.W.kitx_int I.kIn True.intro e (fun z=>nomatch z) h
 | str y=>obtain⟨t,q⟩:=(show ∃t,u=Value.str y t from rx);cases q;exact PySem.W.kia_one PySem.W.kitx_str I.kIn True.intro e (fun z=>nomatch z) h
 | flt y=>obtain⟨t,q⟩:=(show ∃t,u=Value.float y t from rx);cases q;exact PySem.W.kia_one PySem.W.kitx_float I.kIn True.intro e (fun z=>nomatch z) h
 | @lst a xs ea=>
  cases(show u=Value.ref a from rx)
  obtain⟨_,_,n,_,h1⟩:=(show ObjOk X.prog X.w H s.heap a (.lst xs)from I.hok a _ ea)
  exact PySem.W.kia_one PySem.W.kitx_list I.kIn ⟨_,h1,rfl⟩ e (fun z=>nomatch z) h
 | @frz a ob xs ea=>
  cases(show u=Value.ref a from rx)
  obtain⟨_,_,_,n,_,h1⟩:=(show ObjOk X.prog X.w H s.heap a (.frz ob (.lst xs))from I.hok a _ ea)
  exact PySem.W.kia_one PySem.W.kitx_list I.kIn ⟨_,h1,rfl⟩ e (fun z=>nomatch z) h
 | @tup a xs ea=>
  cases(show u=Value.ref a from rx)
  obtain⟨_,_,_,p⟩:=(show ObjOk X.prog X.w H s.heap a (.tup xs)from I.hok a _ ea)
  obtain⟨o,h1,h2,_⟩:=p
  exact PySem.W.kia_one PySem.W.kitx_tuple I.kIn ⟨o,h1,h2⟩ e (fun z=>nomatch z) h
 | @dK a kvs ea=>
  cases(show u=Value.ref a from rx)
  obtain⟨_,_,vs,_,p⟩:=(show ObjOk X.prog X.w H s.heap a (.dK kvs)from I.hok a _ ea)
  obtain⟨o,es,ep,h1,h2,_⟩:=p
  exact PySem.W.kia_one PySem.W.kitx_dict I.kIn ⟨o,h1,h2.1⟩ e (fun z=>nomatch z) h
 | @dT a kvs ea=>
  cases(show u=Value.ref a from rx)
  obtain⟨_,_,xs,_,o,es,ep,h1,h2,_⟩:=(show ObjOk X.prog X.w H s.heap a (.dT kvs)from I.hok a _ ea)
  exact PySem.W.kia_one PySem.W.kitx_dict I.kIn ⟨o,h1,h2.1⟩ e (fun z=>nomatch z) h
 | @ins a C dx fs ea cl ha hn htk hm=>
  cases(show u=Value.ref a from rx)
  obtain⟨mA,O,_⟩:=uM I.hok ea
  obtain⟨od,J,_⟩:=O.look
  exact PySem.W.kia_one (PySem.W.kitx_own (cl.get _) cl.hd ha hn htk hm) I.kIn J e (fun z=>nomatch z) h
end
structure Room (k:Nat) (A:Around):Prop where
 hd:A.handled=none
 dp:A.depth+3*k+5<recursionLimit
 un:A.units+16*k+200<cLine
theorem Room.mono {j k:Nat} {A:Around} (r:Room k A) (h:j<=k):Room j A:=⟨r.hd,BM (Nat.add_le_add_right (BV (Nat.mul_le_mul_left 3 h) _) 5) r.dp,BM (Nat.add_le_add_right (BV (Nat.mul_le_mul_left 16 h) _) 200) r.un⟩
theorem Room.deeper {k:Nat} {A:Around} (r:Room (k+1) A) (env:Env):Room k (A.deeper env):=
 ⟨r.hd,by have:=r.dp;show A.depth+1+3*k+5<_;omega,by have:=r.un;show A.units+3+16*k+200<_;omega⟩
theorem Room.depth {k:Nat} {A:Around} (r:Room k A):A.depth<recursionLimit:=by have:=r.dp;omega
theorem Room.units {k:Nat} {A:Around} (r:Room k A):A.units+64<cLine:=by have:=r.un;omega
def x9:TA:=fun _ H Q=>Q [] H
def vK (ta:TE) (tr:TA):TA:=fun σ H Q=>ta σ H fun x H1=>tr σ H1 fun xs H2=>Q (x :: xs) H2
section
variable {X:Cx} {e:Expr} {es:List Expr} {te:TE} {t:TA} {pos:Pos}
theorem ab:PA X [] x9:=fun _ _ _ _ H Q I h=>Calls.spliced_nil ⟨[],H,I,.nil,h⟩
theorem aa (ha:PE X e te) (hr:PA X es t) (hs:starEach (e :: es) X.env=(false,eval e X.env) :: starEach es X.env:=by rfl):PA X (e :: es) (vK te t):=by
 intro pos pins s σ H Q I h
 rw[hs]
 show wpAny _ _ (spliced ((false,eval e X.env) :: backTo pos (starEach es X.env))) _ _ s
 refine Calls.spliced_cons (bF (ha pins s σ H _ I h) fun u s1 hq__=>?_)
 obtain⟨x,H1,I1,r1,q1⟩:=hq__
 exact bF (hr pos pins s1 σ H1 _ I1 q1) fun us s2 ⟨xs,H2,I2,r2,q2⟩=>⟨x :: xs,H2,I2,.cons r1 r2,q2⟩
def ya (t:TA):TE:=fun σ H Q=>t σ H fun xs H1=>xs.length<=sizeLine/\∀p,H1 p=none->Q (.ref p) (aG H1 p (.tup xs))
def yb (t:TA):TE:=fun σ H Q=>t σ H fun xs H1=>xs.length<=sizeLine/\∀p,H1 p=none->Q (.ref p) (aG H1 p (.lst xs))
theorem aj {x1} (h:PA X es t):PE X (.Tuple es x1 pos) (ya t):=by
 intro pins s σ H Q I hq
 refine wpAny_Tuple_spliced (bF (h pos pins s σ H _ I hq) fun us s1 ⟨xs,H1,I1,r,z,q⟩=>⟨by rw[<- r.length];exact z,?_⟩)
 have hf:H1 s1.heap.objs.size=none:=I1.hok.fresh (Af _)
 refine⟨.ref s1.heap.objs.size,aG H1 s1.heap.objs.size (.tup xs),I1.laid (t':=s1.toks) (fun b u e=>Heap.get?_push_of_some _ e) (Af _) ?_,rfl,q _ hf⟩
 exact⟨z,us,r,⟨_,Heap.get?_push_size _ rfl,rfl,_,rfl⟩⟩
theorem aq (h:PA X es t):PE X (.List es pos) (yb t):=by
 intro pins s σ H Q I hq
 refine wpAny_List_spliced (bF (h pos pins s σ H _ I hq) fun us s1 ⟨xs,H1,I1,r,z,q⟩=>⟨by rw[<- r.length];exact z,?_⟩)
 have hf:H1 s1.heap.objs.size=none:=I1.hok.fresh (Af _)
 refine⟨.ref s1.heap.objs.size,aG H1 s1.heap.objs.size (.lst xs),I1.laid (t':=s1.toks) (fun b u e=>Heap.get?_push_of_some _ e) (Af _) ?_,rfl,q _ hf⟩
 exact⟨z,us,0,r,Heap.get?_push_size _ rfl⟩
end
abbrev Sp:=List V->Hp->VK->XK->Prop
abbrev rJ:=List Env->Hp->Shared->XK->Value->Shared->Prop
structure Env0 (P:Program) (w:World) (K:PySem.W.Frag) (mg:Str->Option Value) (base:Heap) (A:Around) (outer:List Env) (s:Shared) (H:Hp):Prop where
 frames:A.frames=some outer
 mod:Mod K mg base
 bs:∀b o,base.get? b=some o->s.heap.get? b=some o/\H b=none
 bsz:base.objs.size<=s.heap.objs.size
 funs:s.heap.FunFrames base outer
 frf:∀b∈gq outer,H b=none
 hok:HOk P w H s.heap
 bare:AllBare s.gens
def CE (outer:List Env) (P:Program) (w:World) (H:Hp) (s:Shared) (Q:VK) (u:Value) (s':Shared):Prop:=
 ∃v H',s'.os=s.os/\AllBare s'.gens/\Un (gq outer) [] H H' s.heap s'.heap/\HOk P w H' s'.heap/\RelV v u/\Q v H'
def CR (CX:rJ) (outer:List Env) (P:Program) (w:World) (H:Hp) (s:Shared) (Q:VK) (E:XK) (r:Result) (s':Shared):Prop:=
 match r with
 | .ok (.ret u)=>CE outer P w H s Q u s'
 | .ok _=>False
 | .error e=>CX outer H s E e s'
structure FnOk (P:Program) (w:World) (K:PySem.W.Frag) (mg:Str->Option Value) (base:Heap) (CX:rJ) (k:Nat) (f:Addr) (fd:FuncData) (ps:List Str) (sp:Sp):Prop where
 len:∀vs H Q E,sp vs H Q E->vs.length=ps.length
 run:∀(A:Around) (outer:List Env) (s:Shared) (H:Hp) (args:Args) (us:List Value) (vs:List V) (Q:VK) (E:XK),Room k A->Env0 P w K mg base A outer s H->BindsTo s fd args (ps.zip us)->Vals vs us->sp vs H Q E->
  codeAny (model P w) A (.call (.ref f) args) (CR CX outer P w H s Q E) s
section
variable {X:Cx} {pins:List (Addr×Obj)} {σ:St} {H:Hp} {s s':Shared}
theorem Inv.env0 (I:Inv X pins σ H s):Env0 X.prog X.w X.K X.mg X.base X.A X.stack s H:=
 ⟨I.ok.frames,I.ok.mod,I.bs,AC I.ok.bsz I.sz,I.stack,I.stkFree,I.hok,I.bare⟩
theorem Inv.after {Q:VK} {u:Value} (I:Inv X pins σ H s) (h:CE X.stack X.prog X.w H s Q u s'):EP X pins σ Q u s':=by
 obtain⟨v,H',os,bare,un,hok,r,q⟩:=h
 obtain⟨hh,g,d,t,os'⟩:=s'
 obtain rfl:os'=s.os:=os
 exact⟨v,H',I.call (h':=hh) (g':=g) (d':=d) (t':=t) (ch:=[]) un hok bare (fun b z=>absurd z (by simp)),r,q⟩
end
def vL (sp:Sp) (dvs:List V) (E:XK) (t:TA):TE:=fun σ H Q=>t σ H fun vs H1=>sp (vs++dvs) H1 Q E
def Binds (K:PySem.W.Frag) (fd:FuncData) (ps:List Str) (ds:List Value):Prop:=
 ∀(s:Shared) (us:List Value),K.In s.heap->(us++ds).length=ps.length->BindsTo s fd ⟨us,[]⟩ (ps.zip (us++ds))
theorem Binds.all {K:PySem.W.Frag} {fd:FuncData} {ps:List Str} (h:∀us:List Value,us.length=ps.length->bindArgs fd ⟨us,[]⟩=pure (ps.zip us)):Binds K fd ps []:=fun s us _ hl=>by
 rw[Bo]at hl ⊢
 exact .of_eq (h us hl)
def oy (CX:rJ) (X:Cx) (E:XK):Prop:=∀(pins:List (Addr×Obj)) (σ:St) (H:Hp) (s:Shared) (e:Value) (s':Shared),Inv X pins σ H s->CX X.stack H s E e s'->X.xe e s'
section
variable {X:Cx} {CX:rJ} {k:Nat} {f C:Addr} {fd:FuncData} {ps:List Str} {sp:Sp} {dvs:List V} {ds:List Value} {E:XK} {x m:Str} {p pos apos:Pos} {e o:Expr} {es:List Expr} {ta:TE} {t:TA}
theorem wI {pins:List (Addr×Obj)} {σ:St} {H:Hp} {s:Shared} {Q:VK} {us:List Value} {vs:List V} (F:FnOk X.prog X.w X.K X.mg X.base CX k f fd ps sp) (hr:Room k X.A) (hb:Binds X.K fd ps ds) (hd:Vals dvs ds) (hx:oy CX X E)
  (I:Inv X pins σ H s) (r:Vals vs us) (h:sp (vs++dvs) H Q E):wpAny (model X.prog X.w) X.A (call (.ref f) us) (EP X pins σ Q) X.xe s:=by
 have r2:Vals (vs++dvs) (us++ds):=r.append hd
 have hl:(us++ds).length=ps.length:=by rw[<- r2.length];exact F.len _ _ _ _ h
 refine wpAny_call (codeAny_mono (F.run X.A X.stack s H ⟨us,[]⟩ (us++ds) (vs++dvs) Q E hr I.env0 (hb s us I.kIn hl) r2 h) fun r s' hq=>?_)
 cases r with
 | error e=>exact hx pins σ H s e s' I hq
 | ok fl=>
  cases fl with
  | ret u=>exact I.after hq
  | next=>exact False.elim hq
  | brk=>exact False.elim hq
  | cont=>exact False.elim hq
theorem uN (F:FnOk X.prog X.w X.K X.mg X.base CX k f fd ps sp) (hr:Room k X.A) (hg:Gl X x) (hm:X.mg x=some (.ref f)) (hk:PySem.W.keepIn X.K (.ref f)=true) (hb:Binds X.K fd ps ds) (hd:Vals dvs ds) (hx:oy CX X E)
  (ha:PA X (e :: es) t) (hdb:(x==("__debug__":Str))=false:=by decide) (he:starEach (e :: es) X.env=(false,eval e X.env) :: starEach es X.env:=by rfl) (hpl:(backTo pos (starEach es X.env)).any (·.1)=false:=by rfl):
  PE X (.Call (.Name x p) (e :: es) [] pos) (vL sp dvs E t):=by
 intro pins s σ H Q I h
 refine wpAny_Call_Name_kw (uE I hg hm ?_ hdb)
 refine PySem.W.callWith_K (h₀:=X.base) I.ok.mod.kin hk (bF (ha pos pins s σ H _ I h) fun us s1 ⟨vs,H1,I1,r,q⟩=>⟨I1.kIn,?_⟩) he hpl
 exact wI F hr hb hd hx I1 r q
end
section
variable {X:Cx} {CX:rJ} {k:Nat} {f C:Addr} {fd:FuncData} {ps ks:List Str} {sp:Sp} {E:XK} {x m:Str} {p pos apos kpos:Pos} {e o:Expr} {es:List Expr} {kws:List Keyword} {te ta:TE} {t tk:TA} {nm:Option Str}
variable {g:List Value->List Value->List Value} {gV:List V->List V->List V}
end
structure FnScope (N P:List Str) (sc:Scope):Prop where
 kind:sc.kind= .function
 co:sc.isCoroutine=false
 gen:sc.isGenerator=false
 nd:N.Nodup
 pre:N.take P.length=P
 par:∀x∈P,sc.names.lookup x=some .local\/sc.names.lookup x=some .cell
 nofree:∀y∈sc.names,y.2≠ .free
theorem kj {kindOf:Str->Option NameKind} {x:Str}:∀{binds:List (Str×Value)} {m:Str->Option Value},(∀v,(x,v)∉binds)->bindL kindOf binds m x=m x
 | [],_,_=>rfl
 | (n,v) :: r,m,h=>by
  unfold bindL
  rw[kj fun w hw=>h w (Av _ hw)]
  split
  ·have:x≠n:=by rintro rfl;exact h v Ay
   simp[this]
  ·rfl
theorem km {kindOf:Str->Option NameKind} {x:Str}:∀{binds:List (Str×Value)} {m:Str->Option Value},(∀v,(x,v)∉binds)->bindC kindOf binds m x=m x
 | [],_,_=>rfl
 | (n,v) :: r,m,h=>by
  unfold bindC
  rw[km fun w hw=>h w (Av _ hw)]
  split
  ·rfl
  ·have:x≠n:=by rintro rfl;exact h v Ay
   simp[this]
theorem qr {kindOf:Str->Option NameKind} {x:Str} {v:Value}:∀{P:List Str} {vs:List Value} {i:Nat} {m:Str->Option Value},P.Nodup->P[i]?=some x->vs[i]?=some v->kindOf x=some .local->
  bindL kindOf (P.zip vs) m x=some v:=by
 intro P
 induction P with
 | nil=>intro vs i m _ h;cases h
 | cons p P ih=>
  intro vs i m nd h1 h2 hk
  cases vs with
  | nil=>cases h2
  | cons w vs=>
   show bindL kindOf ((p,w) :: P.zip vs) m x=_
   unfold bindL
   cases i with
   | zero=>
    cases h1;cases h2
    rw[kj fun v hv=>(BD.mp nd).1 (B3 hv).1,if_pos hk]
    simp
   | succ i=>exact ih (BD.mp nd).2 h1 h2 hk
theorem qt {kindOf:Str->Option NameKind} {x:Str} {v:Value}:∀{P:List Str} {vs:List Value} {i:Nat} {m:Str->Option Value},P.Nodup->P[i]?=some x->vs[i]?=some v->kindOf x≠some .local->
  bindC kindOf (P.zip vs) m x=some v:=by
 intro P
 induction P with
 | nil=>intro vs i m _ h;cases h
 | cons p P ih=>
  intro vs i m nd h1 h2 hk
  cases vs with
  | nil=>cases h2
  | cons w vs=>
   show bindC kindOf ((p,w) :: P.zip vs) m x=_
   unfold bindC
   cases i with
   | zero=>
    cases h1;cases h2
    rw[km fun v hv=>(BD.mp nd).1 (B3 hv).1,if_neg hk]
    simp
   | succ i=>exact ih (BD.mp nd).2 h1 h2 hk
def iy (N:List Str) (vs:List V):St:=vs.map some++List.replicate (N.length-vs.length) none
def mN (CX:rJ) (P:Program) (w:World) (K:PySem.W.Frag) (mg:Str->Option Value) (base:Heap) (N:List Str) (qual:Str) (scope:Scope) (f:Addr) (cd:Value) (A:Around) (outer:List Env) (s:Shared) (H:Hp) (E:XK):Cx where
 prog:=P
 w:=w
 K:=K
 mg:=mg
 base:=base
 A:=A.deeper (envOfC qual scope s.heap.objs.size f cd)
 N:=N
 s₀:=s
 H₀:=H
 env:=envOfC qual scope s.heap.objs.size f cd
 outer:=outer
 stack:=envOfC qual scope s.heap.objs.size f cd :: outer
 ex:=[]
 calm:=true
 fn:=fun _=>true
 pn:=[]
 xe:=fun e s'=>wpAny (model P w) (A.deeper (envOfC qual scope s.heap.objs.size f cd)) (leaving (envOfC qual scope s.heap.objs.size f cd) e) (fun _ s''=>CX outer H s E e s'') (fun e' s''=>CX outer H s E e' s'') s'
theorem mO {sc:Scope} {n:Nat} {x:Str} (h:sc.names.lookup x=some .cell):∃c,(cellsFrom n sc.names []).lookup x=some c:=by
 have q:=PySem.W.cellsFrom_some sc.names n [] (.inl h)
 exact A8.mp q
theorem qu {CX:rJ} {P:Program} {w:World} {K:PySem.W.Frag} {mg:Str->Option Value} {base:Heap} {N ps:List Str} {qual:Str} {scope:Scope} {f:Addr} {cd:Value} {A:Around} {outer:List Env} {s s1:Shared} {H:Hp} {E:XK} {us:List Value} {vs:List V}
  (S:FnScope N ps scope) (hd:A.handled=none) (e0:Env0 P w K mg base A outer s H) (hl:vs.length=ps.length) (r:Vals vs us)
  (x:InCallC s s.heap.objs.size (bindL (envOfC qual scope s.heap.objs.size f cd).kindOf (ps.zip us) fun _=>none) (cellsFrom (s.heap.objs.size+1) scope.names []) (bindC (envOfC qual scope s.heap.objs.size f cd).kindOf (ps.zip us) fun _=>none) s1):
  Inv (mN CX P w K mg base N qual scope f cd A outer s H E) [] (iy N vs) H s1:=by
 have hpl:ps.length<=N.length:=by have:=congrArg List.length S.pre;rw[A6]at this;omega
 obtain⟨h1,tk,rfl,hk⟩:=x.done
 have noA:∀b:Addr,b∉(mN CX P w K mg base N qual scope f cd A outer s H E).ex:=fun b z=>absurd (show b∈([]:List Addr)from z) (by simp)
 refine⟨⟨e0.mod,S.kind,rfl,rfl,Af _,fun y z c h1 h2=>?_,fun y hy=>?_,fun y c _ h=>?_,fun _=>hd,Around.frames_deeper e0.frames,.inr ⟨rfl,rfl⟩,fun b z=>absurd z (noA b),e0.bs,e0.bsz,fun b _ _=>noA b,fun b z=>absurd z (noA b),e0.funs,e0.frf⟩,
  rfl,e0.bare,Un.kept hk,⟨_,x.toInCall.ns,fun i y v h1 h2 h3=>?_⟩,fun y c h=>⟨_,x.cell y c h⟩,e0.hok.fresh (Af _),fun y c h=>?_,fun p hp=>absurd (show p∈([]:List (Addr×Obj))from hp) (by simp),e0.hok.kept hk,?_⟩
 ·exact name_of_addr x.apart (PySem.mem_of_lookup h1) (PySem.mem_of_lookup h2)
 ·have hy:scope.names.lookup y=some .cell\/scope.names.lookup y=some .free:=hy
  rcases hy with hy | hy
  ·exact mO hy
  ·exact absurd rfl (S.nofree _ (PySem.mem_of_lookup hy))
 ·exact A5 (x.above y c (PySem.mem_of_lookup h))
 ·have hi:i<vs.length:=by
   unfold iy at h2
   by_cases hi:i<vs.length
   ·exact hi
   ·rw [AU (by simpa using hi)]at h2
    rw[List.getElem?_replicate]at h2
    split at h2<;>cases h2
  have ha:vs[i]?=some v:=by
   unfold iy at h2
   rw[AM (by simpa using hi),Ae]at h2
   cases e:vs[i]? with
   | none=>rw[e]at h2;cases h2
   | some a=>rw[e]at h2;cases h2;rfl
  obtain⟨u,hu,rv⟩:=r.get ha
  have hp:ps[i]?=some y:=by
   rw[<- S.pre,List.getElem?_take_of_lt (by omega)];exact h1
  have ndP:ps.Nodup:=by rw[<- S.pre];exact S.nd.sublist (List.take_sublist _ _)
  refine⟨u,rv,?_⟩
  rcases S.par y (Ah hp)with k | k
  ·exact .inl ⟨k,qr ndP hp hu k⟩
  ·obtain⟨c,e⟩:=mO (n:=s.heap.objs.size+1) k
   refine .inr ⟨.inl k,c,e,?_⟩
   have q:=x.cell y c e
   rw[qt ndP hp hu (by show scope.names.lookup y≠_;rw[k];decide)]at q
   exact q
 ·exact e0.hok.fresh (A5 (x.above y c (PySem.mem_of_lookup h)))
 ·unfold iy
  show _=N.length
  rw[Ai,zZ,List.length_replicate]
  omega
theorem yc {CX:rJ} {P:Program} {w:World} {K:PySem.W.Frag} {mg:Str->Option Value} {base:Heap} {k:Nat} {f:Addr} {name qual:Str} {params:Arguments} {body:List Stmt} {scope:Scope} {dV kV doc pm cdv ct oc:Value} {an od:Option Addr}
  {osl:Array (Option Value)} {N ps:List Str} {sp:Sp} (lk:K.lookup f=some ⟨oc,od,.func (PySem.W.fnOf name qual params body scope dV kV doc pm an cdv ct),osl⟩) (hcd:PySem.W.codeIn K cdv qual=true) (S:FnScope N ps scope)
  (len:∀vs H Q E,sp vs H Q E->vs.length=ps.length)
  (hbody:∀(A:Around) (outer:List Env) (s:Shared) (H:Hp) (vs:List V) (Q:VK) (E:XK),Room k (A.deeper (envOfC qual scope s.heap.objs.size f cdv))->sp vs H Q E->
   ∃t,PSs (mN CX P w K mg base N qual scope f cdv A outer s H E) body t/\t {nx:=fun _ H'=>Q .non H',rt:=Q} (iy N vs) H):
  FnOk P w K mg base CX (k+1) f (PySem.W.fnOf name qual params body scope dV kV doc pm an cdv ct) ps sp:=by
 refine⟨len,fun A outer s H args us vs Q E hr e0 hb r hsp=>?_⟩
 have hl:=len _ _ _ _ hsp
 have KX:K.In s.heap:=e0.mod.kin.keeps fun b o e=>(e0.bs b o e).1
 have lim:s.heap.NoLimit:=e0.mod.nolimit.keeps fun b o e=>(e0.bs b o e).1
 have hkind:∀y∈ps.zip us,scope.names.lookup y.1=some .local\/(scope.names.lookup y.1=some .cell/\((cellsFrom (s.heap.objs.size+1) scope.names []).lookup y.1).isSome=true):=fun⟨n,v⟩ hy=>by
  rcases S.par n (B3 hy).1 with q | q
  ·exact .inl q
  ·exact .inr ⟨q,PySem.W.cellsFrom_some _ _ _ (.inl q)⟩
 refine codeAny_call_function hr.depth (KX _ _ lk) rfl S.co S.gen rfl (PySem.W.codeRec_of KX hcd) (hb _ _ _ _ ?_)
 refine wpAny_newFunctionEnv_cells S.kind hkind fun env he s1 x=>?_
 subst he
 refine⟨lim.keeps x.toInCall.keep,codeAny_func ?_⟩
 obtain⟨t,ht,hq⟩:=hbody A outer s H vs Q E (hr.deeper _) hsp
 have I:Inv (mN CX P w K mg base N qual scope f cdv A outer s H E) [] (iy N vs) H s1:=qu S hr.hd e0 hl r x
 refine wpAny_mono (ht [] s1 (iy N vs) H _ I hq) (fun fl s' hs=>?_) fun e s' hs=>hs
 have fin:∀{σ':St} {H':Hp} {v:V} {u:Value},Inv (mN CX P w K mg base N qual scope f cdv A outer s H E) [] σ' H' s'->RelV v u->Q v H'->CE outer P w H s Q u s':=
  fun {σ' H' v u} J rv q=>⟨v,H',J.os,J.bare,J.base,J.hok,rv,q⟩
 cases fl with
 | ret u=>
  obtain⟨v,σ',H',J,rv,q⟩:=hs
  exact fin J rv q
 | next=>
  obtain⟨σ',H',J,q⟩:=hs
  exact fin (v:=V.non) (u:=Value.none) J rfl q
 | brk=>
  obtain⟨_,_,_,q⟩:=hs
  exact False.elim q
 | cont=>
  obtain⟨_,_,_,q⟩:=hs
  exact False.elim q
section
variable {X:Cx} {x:Str} {p pos:Pos} {e:Expr} {es:List Expr} {t:TA} {id T:String} {r:List V->Hp->VK->Prop}
def zv (r:List V->Hp->VK->Prop) (t:TA):TE:=fun σ H Q=>t σ H fun vs H1=>r vs H1 Q
theorem ai (hc:cg X (.builtin id) r) (hg:Gl X x) (hm:X.mg x=none) (hv:bootBuiltins x=some (.builtin id)) (ha:PA X (e :: es) t) (hn:x≠"__name__":=by decide) (hdb:(x==("__debug__":Str))=false:=by decide)
  (he:starEach (e :: es) X.env=(false,eval e X.env) :: starEach es X.env:=by rfl) (hpl:(backTo pos (starEach es X.env)).any (·.1)=false:=by rfl):PE X (.Call (.Name x p) (e :: es) [] pos) (zv r t):=by
 intro pins s σ H Q I h
 refine wpAny_Call_Name_kw (dM I hg hm hv ?_ hn hdb)
 exact PyProof.Rows.callWith_builtin1 (bF (ha pos pins s σ H _ I h) fun us s1 ⟨vs,H1,I1,r1,q1⟩=>hc pins s1 σ H1 vs us Q I1 r1 q1) he hpl
theorem aL (hc:cg X (.type T) r) (hg:Gl X x) (hm:X.mg x=none) (hv:bootBuiltins x=some (.type T)) (ha:PA X (e :: es) t) (hn:x≠"__name__":=by decide) (hdb:(x==("__debug__":Str))=false:=by decide)
  (he:starEach (e :: es) X.env=(false,eval e X.env) :: starEach es X.env:=by rfl) (hpl:(backTo pos (starEach es X.env)).any (·.1)=false:=by rfl):PE X (.Call (.Name x p) (e :: es) [] pos) (zv r t):=by
 intro pins s σ H Q I h
 refine wpAny_Call_Name_kw (dM I hg hm hv ?_ hn hdb)
 exact PyProof.Rows.callWith_type1 (bF (ha pos pins s σ H _ I h) fun us s1 ⟨vs,H1,I1,r1,q1⟩=>hc pins s1 σ H1 vs us Q I1 r1 q1) he hpl
end
end L2
namespace HT
open PySem PyProof.Rows
def vM:List Int->List Int->Bool
 | [],[]=>false
 | [],_ :: _=>true
 | _ :: _,[]=>false
 | x :: xs,y :: ys=>if x=y then vM xs ys else decide (x<y)
section
open PySem.SeqAt
open PySem.AutoSeq1 (wpAny_loadPart')
open PySem.MeetsSeq PySem.MeetsSeq2 PySem.MeetsSeq3
end
section
variable {prog:Program} {w:World} {A:Around} {E:Value->Shared->Prop} {s:Shared}
def oz (n d:Nat):Option Int->Nat
 | none=>d
 | some v=>if v<0 then(v+(n:Int)).toNat else min v.toNat n
theorem mP (n d:Nat):oz n d none=d:=rfl
theorem iN (n d k:Nat):oz n d (some (k:Int))=min k n:=by
 show(if(k:Int)<0 then((k:Int)+(n:Int)).toNat else min (k:Int).toNat n)=min k n
 rw[if_neg (by omega),AF]
theorem uO (v:Int) (n d:Nat):(if v<0 then max (v+(n:Int)) 0 else min v (n:Int))=((oz n d (some v):Nat):Int):=by
 show _=(((if v<0 then(v+(n:Int)).toNat else min v.toNat n):Nat):Int)
 by_cases hv:v<0
 ·rw [if_pos hv,if_pos hv,Int.ofNat_toNat]
 ·rw [if_neg hv,if_neg hv]
  obtain⟨k,rfl⟩:=Int.eq_ofNat_of_zero_le (Int.not_lt.mp hv)
  show min (k:Int) (n:Int)=((min k n:Nat):Int)
  rcases Nat.le_total k n with h | h
  ·rw [BE h,Int.min_eq_left (Int.ofNat_le.mpr h)]
  ·rw [BH h,Int.min_eq_right (Int.ofNat_le.mpr h)]
end
end HT
namespace L2
open PySem PySem.Spec PyProof.Rows
abbrev TO:=St->Hp->(Option Int->Hp->Prop)->Prop
def PO (X:Cx) (e:Option Expr) (t:TO):Prop:=
 ∀(pins:List (Addr×Obj)) (s:Shared) (σ:St) (H:Hp) (Q:Option Int->Hp->Prop),Inv X pins σ H s->t σ H Q->
  wpAny (model X.prog X.w) X.A (evalPart e X.env) (fun u s'=>∃o H',Inv X pins σ H' s'/\IsPart u o/\Q o H') X.xe s
def uP:TO:=fun _ H Q=>Q none H
def yd (t:TE):TO:=fun σ H Q=>t σ H fun x H1=>∃i,x= .int i/\Q (some i) H1
theorem oA {ns:List Int}:∀{us:List Value},Vals (ns.map V.int) us->IntsAre us ns:=by
 induction ns with
 | nil=>intro us r;rw[List.map_nil]at r;cases r;exact .nil
 | cons n ns ih=>
  intro us r
  rw[Bd]at r
  cases r with
  | cons r1 r2=>
   obtain⟨t,e⟩:=r1
   subst e
   exact .cons n t (ih r2)
section
variable {X:Cx} {e:Expr} {te:TE} {lo hi:Option Expr} {tl th:TO} {pos p2:Pos}
theorem iO:PO X none uP:=by
 intro pins s σ H Q I h
 rw[evalPart_none]
 exact wpAny_pure ⟨none,H,I,.none,h⟩
theorem fk (h:PE X e te):PO X (some e) (yd te):=by
 intro pins s σ H Q I hw
 rw[evalPart_some]
 refine bF (h pins s σ H _ I hw) fun u s1 hq__=>?_
 obtain⟨x,H1,I1,r1,q1⟩:=hq__
 obtain⟨i,rfl,q⟩:=q1
 obtain⟨t,rfl⟩:=r1
 exact⟨some i,H1,I1,.int i t,q⟩
def yL (X:Cx) (r:V->Option Int->Option Int->Hp->VK->Prop):Prop:=
 ∀(pins:List (Addr×Obj)) (s:Shared) (σ:St) (H:Hp) (x:V) (v vl vu:Value) (lo hi:Option Int) (sl:Addr) (Q:VK),Inv X pins σ H s->RelV x v->s.heap.IsSliceOf sl vl vu .none->IsPart vl lo->IsPart vu hi->r x lo hi H Q->
  ∃T id,typeLookup (.type T) "__getitem__"=pure (some (.builtin id))/\s.TypeIs v T/\wpAny (model X.prog X.w) X.A (getItem v (.ref sl)) (EP X pins σ Q) X.xe s
def zJ (r:V->Option Int->Option Int->Hp->VK->Prop) (te:TE) (tl th:TO):TE:=fun σ H Q=>te σ H fun x H1=>tl σ H1 fun l H2=>th σ H2 fun u H3=>r x l u H3 Q
theorem eN {r:V->Option Int->Option Int->Hp->VK->Prop} (hr:yL X r) (he:PE X e te) (hl:PO X lo tl) (hu:PO X hi th):PE X (.Subscript e (.Slice lo hi none p2) pos) (zJ r te tl th):=by
 intro pins s σ H Q I h
 refine Subscript_ (bF (he pins s σ H _ I h) fun v s1 h1=>?_)
 obtain⟨x,H1,I1,r1,q1⟩:=h1
 refine wpAny_Slice (bF (hl pins s1 σ H1 _ I1 q1) fun vl s2 h2=>?_)
 obtain⟨l,H2,I2,pl,q2⟩:=h2
 refine bF (hu pins s2 σ H2 _ I2 q2) fun vu s3 h3=>?_
 obtain⟨u,H3,I3,pu,q3⟩:=h3
 rw[evalPart_none]
 refine wpAny_pure ?_
 have I4:Inv X pins σ H3 {s3 with heap:=s3.heap.push {cls:= .type "slice",data:= .fields #[vl,vu,.none]}}:=I3.kept (t':=s3.toks) fun b ob q=>Heap.get?_push_of_some _ q
 obtain⟨T,id,hT,ht,hg⟩:=hr pins {s3 with heap:=s3.heap.push {cls:= .type "slice",data:= .fields #[vl,vu,.none]}} σ H3 x v vl vu l u s3.heap.objs.size Q I4 r1 (Heap.IsSliceOf.new ..) pl pu q3
 show wpAny (model X.prog X.w) X.A (subscriptTail e (.Slice lo hi none p2) v (.ref s3.heap.objs.size)) (EP X pins σ Q) X.xe {s3 with heap:=s3.heap.push {cls:= .type "slice",data:= .fields #[vl,vu,.none]}}
 exact tail_any (ops:=[.ref s3.heap.objs.size,v]) ht hT hg (by with_unfolding_all rfl)
def fN (xs:List V) (lo hi:Option Int):List V:=(xs.drop (HT.oz xs.length 0 lo)).take (HT.oz xs.length xs.length hi-HT.oz xs.length 0 lo)
theorem mQ (xs:List V) (lo hi:Option Int):(fN xs lo hi).length<=xs.length:=by
 unfold fN
 rw[A6,Bk]
 exact AC (Nat.min_le_right _ _) (Nat.sub_le _ _)
end
def uQ (n:Nat) (i:Int):Option Nat:=if 0<=i then(if i<n then some i.toNat else none)else if -(n:Int)<=i then some (i+n).toNat else none
def lz {α:Type} (xs:List α) (i:Int):Option α:=(uQ xs.length i).bind fun j=>xs[j]?
theorem pI {n:Nat} {i:Int} {j:Nat} (h:uQ n i=some j):seqIndex? i n=some j/\j<n/\ -(n:Int)<=i/\i<n:=by
 unfold uQ at h
 by_cases h0:0<=i
 ·rw [if_pos h0]at h
  by_cases h1:i<n
  ·rw [if_pos h1]at h
   have e:i.toNat=j:=Option.some.inj h
   exact⟨by rw[seqIndex_of h0 h1,e],by omega,by omega,h1⟩
  ·rw [if_neg h1]at h;cases h
 ·rw [if_neg h0]at h
  by_cases h1: -(n:Int)<=i
  ·rw [if_pos h1]at h
   have e:(i+n).toNat=j:=Option.some.inj h
   exact⟨by rw[seqIndex_neg (by omega) h1,e],by omega,h1,by omega⟩
  ·rw [if_neg h1]at h;cases h
theorem pJ {α:Type} {xs:List α} {i:Int} {v:α} (h:lz xs i=some v):∃j,seqIndex? i xs.length=some j/\xs[j]?=some v/\j<xs.length/\ -(xs.length:Int)<=i/\i<xs.length:=by
 unfold lz at h
 cases e:uQ xs.length i with
 | none=>rw[e]at h;cases h
 | some j=>
  rw[e]at h
  obtain⟨h1,h2,h3,h4⟩:=pI e
  exact⟨j,h1,h,h2,h3,h4⟩
theorem bh {α:Type} {xs:List α} {j:Nat} {v:α} (h:xs[j]?=some v):lz xs (j:Int)=some v:=by
 have hj:j<xs.length:=(Ac.mp h).1
 have e:uQ xs.length (j:Int)=some j:=by
  unfold uQ
  rw[if_pos (by omega),if_pos (by omega)];simp
 unfold lz;rw[e];exact h
def uR (b:Expr):Prop:=∀o i,subscripted b false o i=operate [o,i] (getItem o i)
def xJ (X:Cx) (r:R2):Prop:=
 ∀(value slice:Expr) (pins:List (Addr×Obj)) (s:Shared) (σ:St) (H:Hp) (x y:V) (v u:Value) (Q:VK),Inv X pins σ H s->RelV x v->RelV y u->r x y H Q->
  subscripted slice false v u=operate [v,u] (getItem v u)->wpAny (model X.prog X.w) X.A (subscriptTail value slice v u) (EP X pins σ Q) X.xe s
def zK (X:Cx) (id:String) (r:V->List V->Hp->VK->Prop):Prop:=
 ∀(pins:List (Addr×Obj)) (s:Shared) (σ:St) (H:Hp) (x:V) (xs:List V) (v:Value) (us:List Value) (Q:VK),Inv X pins σ H s->RelV x v->Vals xs us->r x xs H Q->
  wpAny (model X.prog X.w) X.A (call (.builtin id) (v :: us)) (EP X pins σ Q) X.xe s
section
variable {X:Cx} {a b:Expr} {ta tb:TE} {pos:Pos}
theorem aw {r:R2} (hr:xJ X r) (ha:PE X a ta) (hb:PE X b tb) (hs:uR b):PE X (.Subscript a b pos) (wD r ta tb):=by
 intro pins s σ H Q I h
 exact Subscript_ (wF ha hb I h fun v u s2 x y H2 I2 rx ry q=>hr a b pins s2 σ H2 x y v u Q I2 rx ry q (hs _ _))
def ye (K:PySem.W.Frag):R2:=fun x y H Q=>∃p xs i v,x= .ref p/\y= .int i/\SqL K H p xs/\lz xs i=some v/\Q v H
def yf (K:PySem.W.Frag):R2:=fun x y H Q=>∃p xs i v,x= .ref p/\y= .int i/\SqT K H p xs/\lz xs i=some v/\Q v H
theorem uS:xJ X (ye X.K):=by
 intro value slice pins s σ H x y v u Q I rx ry h hs
 obtain⟨p,xs,i,z,rfl,rfl,hq,he,q⟩:=h
 cases rx
 obtain⟨t,rfl⟩:=ry
 obtain⟨its,r,pl,hz⟩:=I.list hq
 obtain⟨j,h1,h2,h3,h4,h5⟩:=pJ he
 obtain⟨w,ew,rw'⟩:=r.get h2
 have hl:=r.length
 have hn:=i6
 have fin:EP X pins σ Q w s:=⟨z,H,I,rw',q⟩
 by_cases h0:0<=i
 ·have hj:i.toNat=j:=by
   rw[seqIndex_of h0 h5]at h1
   exact Option.some.inj h1
  exact item_listR pl.isList h0 (by omega) (by rw[hj];simpa using ew) fin hs
 ·have hj:(i+(its.toArray.size:Int)).toNat=j:=by
   rw[seqIndex_neg (by omega) h4]at h1
   rw[Ak,<- hl]
   exact Option.some.inj h1
  exact subscriptTail_builtinR (x:=w) pl.isList.typeIs slot_list_getitem.lookup
   (wpAny_getItem_list_neg (Q:=fun r s'=>r=w/\EP X pins σ Q r s') pl.isList (by omega) (by rw[Ak]<;>omega) (by omega) (by rw[hj];simpa using ew) ⟨rfl,fin⟩) hs
theorem wJ:xJ X (yf X.K):=by
 intro value slice pins s σ H x y v u Q I rx ry h hs
 obtain⟨p,xs,i,z,rfl,rfl,hq,he,q⟩:=h
 cases rx
 obtain⟨t,rfl⟩:=ry
 obtain⟨its,r,pl,hz⟩:=I.tuple hq
 obtain⟨j,h1,h2,h3,h4,h5⟩:=pJ he
 obtain⟨w,ew,rw'⟩:=r.get h2
 have hl:=r.length
 have hn:=i6
 have fin:EP X pins σ Q w s:=⟨z,H,I,rw',q⟩
 exact subscriptTail_builtinR (x:=w) pl.typeIs slot_tuple_getitem.lookup
  (getItem_tuple (j:=j) (Q:=fun r s'=>r=w/\EP X pins σ Q r s') pl (by omega) (by omega) (by rw[Ak,<- hl];exact h1) (by simpa using ew) ⟨rfl,fin⟩) hs
theorem oB (its:List Value) (n j:Nat) (u:Value):Obj.mapSeq (·.setIfInBounds j u) {cls:= .type "list",data:= .seq its.toArray n}={cls:= .type "list",data:= .seq (its.set j u).toArray n}:=by
 simp[Obj.mapSeq]
theorem Inv.lst {pins:List (Addr×Obj)} {σ:St} {H:Hp} {s:Shared} {p:Addr} {xs:List V} (I:Inv X pins σ H s) (h:H p=some (.lst xs)):
  ∃(its:List Value) (n:Nat),Vals xs its/\s.heap.get? p=some {cls:= .type "list",data:= .seq its.toArray n}/\xs.length<=sizeLine:=by
 obtain⟨z,its,n,r,e⟩:=I.hok p _ h
 exact⟨its,n,r,e,z⟩
theorem Inv.lstUpd {pins:List (Addr×Obj)} {σ:St} {H:Hp} {s:Shared} {p:Addr} {xs ys:List V} {its its':List Value} {n n':Nat} {f:Obj->Obj} (I:Inv X pins σ H s) (h:H p=some (.lst xs))
  (ho:s.heap.get? p=some {cls:= .type "list",data:= .seq its.toArray n}) (hf:f {cls:= .type "list",data:= .seq its.toArray n}={cls:= .type "list",data:= .seq its'.toArray n'}) (r:Vals ys its') (hz:ys.length<=sizeLine) (t:Nat):
  Inv X pins σ (aG H p (.lst ys)) {s with heap:=s.heap.update p f,toks:=t}:=by
 have e:(s.heap.update p f).get? p=some {cls:= .type "list",data:= .seq its'.toArray n'}:=by
  rw[Heap.get?_update_self f ho (by rw[hf]<;>rfl),hf]
 refine I.write (x:=p) (e:=p) (by rw[h];trivial) (.inl rfl) (fun b u hb q=>(Heap.get?_update_other _ _ (Ne.symm hb)).trans q) ⟨_,e⟩ ?_
 exact⟨hz,its',n',r,e⟩
def yg:V->V->V->Hp->(Hp->Prop)->Prop:=fun o i v H Q=>∃p xs k j,o= .ref p/\i= .int k/\H p=some (.lst xs)/\uQ xs.length k=some j/\Q (aG H p (.lst (xs.set j v)))
theorem i7:xU X yg:=by
 intro pins s σ H o i v ov iv u Q I ro ri rv h
 obtain⟨p,xs,k,j,rfl,rfl,hp,hj,q⟩:=h
 cases ro
 obtain⟨t,rfl⟩:=ri
 obtain⟨its,n,r,ho,hz⟩:=I.lst hp
 obtain⟨h1,h2,h3,h4⟩:=pI hj
 have hl:=r.length
 have hn:=i6
 have I':Inv X pins σ (aG H p (.lst (xs.set j v))) {s with heap:=s.heap.update p (Obj.mapSeq (·.setIfInBounds j u))}:=
  I.lstUpd hp ho (oB its n j u) (r.set rv j) (by rw[Bp];exact hz) s.toks
 by_cases h0:0<=k
 ·have hk:k.toNat=j:=by
   rw[seqIndex_of h0 h4]at h1
   exact Option.some.inj h1
  exact PySem.W.ki_setAt ho h0 (by omega) (by rw[Ak,<- hl];exact h4) (by rw[hk];exact⟨_,I',q⟩)
 ·have hk:(k+(its.toArray.size:Int)).toNat=j:=by
   rw[seqIndex_neg (by omega) h3]at h1
   rw[Ak,<- hl]
   exact Option.some.inj h1
  exact PySem.W.ki_setBack ho (by omega) (by rw[Ak,<- hl];exact h3) (by omega) (by rw[hk];exact⟨_,I',q⟩)
theorem lA (lo hi:Option Int) (n:Nat):(sliceBounds lo hi none n).1=((HT.oz n 0 lo:Nat):Int)/\(sliceBounds lo hi none n).2.1=((HT.oz n n hi:Nat):Int)/\(sliceBounds lo hi none n).2.2=1:=by
 have one:∀(i:Int) (d:Nat),max 0 (min (if i<0 then i+(n:Int)else i) (n:Int))=((HT.oz n d (some i):Nat):Int):=fun i d=>by
  rw[<- HT.uO]
  by_cases h:i<0
  ·rw [if_pos h,if_pos h,Int.min_eq_left (by omega),Int.max_comm]
  ·rw [if_neg h,if_neg h,Int.max_eq_right (Int.le_min.mpr ⟨Int.not_lt.mp h,Int.natCast_nonneg n⟩)]
 refine⟨?_,?_,rfl⟩
 ·cases lo with
  | none=>rfl
  | some i=>exact one i 0
 ·cases hi with
  | none=>rfl
  | some i=>exact one i n
theorem jO (its:List Value) (lo hi:Option Int):slicePick its.toArray lo hi none=((its.drop (HT.oz its.length 0 lo)).take (HT.oz its.length its.length hi-HT.oz its.length 0 lo)).toArray:=by
 obtain⟨h1,h2,h3⟩:=lA lo hi its.toArray.size
 unfold slicePick
 rw[h1,h2,h3]
 simp only[sliceRange_one,pick_run,Ak]<;>rfl
def yh (K:PySem.W.Frag):V->Option Int->Option Int->Hp->VK->Prop:=fun x lo hi H Q=>∃a xs,x= .ref a/\SqL K H a xs/\∀p,H p=none->Q (.ref p) (aG H p (.lst (fN xs lo hi)))
theorem uT:yL X (yh X.K):=by
 intro pins s σ H x v vl vu lo hi sl Q I rx hs pl pu h
 obtain⟨a,xs,rfl,hx,q⟩:=h
 cases rx
 obtain⟨its,r,ht,hz⟩:=I.list hx
 have hlen:=r.length
 refine⟨"list",_,slot_list_getitem.lookup,ht.isList.typeIs,?_⟩
 refine wpAny_getItem_list_slice ht.isList hs pl pu .none (by simp) ?_ (by rw[Ak]<;>omega)
 rw[jO,<- hlen]
 refine⟨.ref s.heap.objs.size,_,I.laid (t':=s.toks) (o:= .lst (fN xs lo hi)) (fun b ob q=>Heap.get?_push_of_some _ q) (Af _) ?_,rfl,q _ (I.hok.fresh (Af _))⟩
 exact⟨AC (mQ xs lo hi) hz,_,0,(r.drop (HT.oz xs.length 0 lo)).take (HT.oz xs.length xs.length hi-HT.oz xs.length 0 lo),Heap.get?_push_size _ rfl⟩
def c0:V->Bool
 | .non=>true
 | .bl _=>true
 | .int _=>true
 | .str _=>true
 | _=>false
def pK:V->V->Bool
 | .non,.non=>true
 | .bl a,.bl b=>a==b
 | .bl a,.int b=>(if a then 1 else 0)==b
 | .int a,.bl b=>a==(if b then 1 else 0)
 | .int a,.int b=>a==b
 | .str a,.str b=>a==b
 | _,_=>false
theorem rY {A:Around} {s:Shared} {y x:V} {u v:Value} (ry:RelV y u) (rx:RelV x v) (fy:c0 y=true) (fx:c0 x=true):SeqAt.EqAt A s u v (pK y x):=by
 cases y with
 | non=>
  cases ry
  cases x with
  | non=>cases rx;exact SeqAt.EqAt.same _
  | bl b=>cases rx;exact SeqAt.EqAt.none_bool b
  | int b=>obtain⟨t,rfl⟩:=rx;exact SeqAt.EqAt.none_int b t
  | str b=>obtain⟨t,rfl⟩:=rx;exact SeqAt.EqAt.none_str b t
  | _=>exact absurd (show false=true from fx) Ag
 | bl a=>
  cases ry
  cases x with
  | non=>cases rx;exact SeqAt.EqAt.bool_none a
  | bl b=>cases rx;exact SeqAt.EqAt.bool_bool a b
  | int b=>obtain⟨t,rfl⟩:=rx;exact SeqAt.EqAt.bool_int a b t
  | str b=>obtain⟨t,rfl⟩:=rx;exact SeqAt.EqAt.bool_str a b t
  | _=>exact absurd (show false=true from fx) Ag
 | int a=>
  obtain⟨t',rfl⟩:=ry
  cases x with
  | non=>cases rx;exact SeqAt.EqAt.int_none a t'
  | bl b=>cases rx;exact SeqAt.EqAt.int_bool a t' b
  | int b=>obtain⟨t,rfl⟩:=rx;exact SeqAt.EqAt.int_int a t' b t
  | str b=>obtain⟨t,rfl⟩:=rx;exact SeqAt.EqAt.int_str a t' b t
  | _=>exact absurd (show false=true from fx) Ag
 | str a=>
  obtain⟨t',rfl⟩:=ry
  cases x with
  | non=>cases rx;exact SeqAt.EqAt.str_none a t'
  | bl b=>cases rx;exact SeqAt.EqAt.str_bool a t' b
  | int b=>obtain⟨t,rfl⟩:=rx;exact SeqAt.EqAt.str_int a t' b t
  | str b=>obtain⟨t,rfl⟩:=rx;exact SeqAt.EqAt.str_str a t' b t
  | _=>exact absurd (show false=true from fx) Ag
 | _=>exact absurd (show false=true from fy) Ag
def oC (x:V) (u:Value):Bool:=match u with
 | .none=>pK .non x
 | .bool b=>pK (.bl b) x
 | .int i _=>pK (.int i) x
 | .str z _=>pK (.str z) x
 | _=>false
theorem rZ {x y:V} {u:Value} (r:RelV y u) (f:c0 y=true):oC x u=pK y x:=by
 cases y with
 | non=>cases r;rfl
 | bl b=>cases r;rfl
 | int i=>obtain⟨t,rfl⟩:=r;rfl
 | str z=>obtain⟨t,rfl⟩:=r;rfl
 | _=>exact absurd (show false=true from f) Ag
theorem iP {x:V}:∀{xs:List V} {us:List Value},Vals xs us->xs.all c0=true->us.any (oC x)=xs.any fun y=>pK y x:=by
 intro xs us h
 induction h with
 | nil=>intro _;rfl
 | cons r t ih=>
  intro f
  rw[List.all_cons,Bx]at f
  rw[List.any_cons,List.any_cons,rZ r f.1,ih f.2]
theorem gw {A:Around} {s:Shared} {x:V} {v:Value} (rx:RelV x v) (fx:c0 x=true):∀{xs:List V} {us:List Value},Vals xs us->xs.all c0=true->∀u∈us,SeqAt.EqAt A s u v (oC x u):=by
 intro xs us h
 induction h with
 | nil=>intro _ u hu;cases hu
 | cons r t ih=>
  intro f u' hu
  rw[List.all_cons,Bx]at f
  rcases Al.mp hu with rfl | hu
  ·rw [rZ r f.1];exact rY r rx f.1 fx
  ·exact ih f.2 u' hu
def yM (x:V) (xs:List V):Bool:=xs.any fun y=>pK y x
def yN (K:PySem.W.Frag) (neg:Bool):R2:=fun x y H Q=>∃p xs,y= .ref p/\(SqL K H p xs\/SqT K H p xs)/\c0 x=true/\xs.all c0=true/\Q (.bl (if neg then !yM x xs else yM x xs)) H
theorem qv:eG X (compareOp .In) (yN X.K false):=by
 intro pins s σ H x y v u Q I rx ry h
 obtain⟨p,xs,rfl,hq,fx,fs,q⟩:=h
 cases ry
 rcases hq with hq | hq
 ·obtain⟨its,r,pl,hz⟩:=I.list hq
  refine SeqAt.in_listAt (oC x) pl.isList (fun w hw=>gw rx fx r fs w (by simpa using hw)) ⟨.bl _,H,I,rfl,?_⟩
  rw[show its.toArray.any (oC x)=its.any (oC x) by simp,iP r fs]
  exact q
 ·obtain⟨its,r,pl,hz⟩:=I.tuple hq
  refine SeqAt.in_tupleAt (oC x) pl (fun w hw=>gw rx fx r fs w (by simpa using hw)) ⟨.bl _,H,I,rfl,?_⟩
  rw[show its.toArray.any (oC x)=its.any (oC x) by simp,iP r fs]
  exact q
theorem lB:eG X (compareOp .NotIn) (yN X.K true):=by
 intro pins s σ H x y v u Q I rx ry h
 obtain⟨p,xs,rfl,hq,fx,fs,q⟩:=h
 cases ry
 rcases hq with hq | hq
 ·obtain⟨its,r,pl,hz⟩:=I.list hq
  refine SeqAt.notIn_listAt (oC x) pl.isList (fun w hw=>gw rx fx r fs w (by simpa using hw)) ⟨.bl _,H,I,rfl,?_⟩
  rw[show its.toArray.any (oC x)=its.any (oC x) by simp,iP r fs]
  exact q
 ·obtain⟨its,r,pl,hz⟩:=I.tuple hq
  refine SeqAt.notIn_tupleAt (oC x) pl (fun w hw=>gw rx fx r fs w (by simpa using hw)) ⟨.bl _,H,I,rfl,?_⟩
  rw[show its.toArray.any (oC x)=its.any (oC x) by simp,iP r fs]
  exact q
theorem lD:cg X (.type "list") (fun xs H Q=>∃p ys,xs=[.ref p]/\(SqL X.K H p ys\/SqT X.K H p ys)/\∀l,H l=none->Q (.ref l) (aG H l (.lst ys))):=by
 intro pins s σ H xs us Q I r h
 obtain⟨p,ys,rfl,hq,q⟩:=h
 obtain⟨u,rfl,rx⟩:=dE r
 cases rx
 have fin:∀(its:List Value),Vals ys its->ys.length<=sizeLine->∀(h':Heap) (c':Nat),(∀b o',s.heap.get? b=some o'->h'.get? b=some o')->
   h'.get? s.heap.objs.size=some {cls:= .type "list",dict:=none,data:= .seq its.toArray c',slots:=#[]}->EP X pins σ Q (.ref s.heap.objs.size) {s with heap:=h'}:=fun its r' hz h' c' kp e=>
  ⟨.ref s.heap.objs.size,_,I.laid (t':=s.toks) kp (Af _) (show ObjOk X.prog X.w _ h' _ (.lst ys)from⟨hz,its,c',r',e⟩),rfl,q _ (I.hok.fresh (Af _))⟩
 rcases hq with hq | hq
 ·obtain⟨its,r',pl,hz⟩:=I.list hq
  have hlen:=r'.length
  obtain⟨o,ho,hc,n,hd⟩:=pl.isList
  exact call_list_seq p (.inl rfl) ho hc hd (fun h' c' kp e=>fin its r' hz h' c' kp e) (by simp only[Ak]<;>omega)
 ·obtain⟨its,r',pl,hz⟩:=I.tuple hq
  have hlen:=r'.length
  obtain⟨o,ho,hc,n,hd⟩:=pl
  exact call_list_seq p (.inr rfl) ho hc hd (fun h' c' kp e=>fin its r' hz h' c' kp e) (by simp only[Ak]<;>omega)
theorem fE:cg X (.type "tuple") (fun xs H Q=>∃p ys,xs=[.ref p]/\((SqL X.K H p ys/\∀l,H l=none->Q (.ref l) (aG H l (.tup ys)))\/(SqT X.K H p ys/\Q (.ref p) H))):=by
 intro pins s σ H xs us Q I r h
 obtain⟨p,ys,rfl,h⟩:=h
 obtain⟨u,rfl,rx⟩:=dE r
 cases rx
 rcases h with⟨hq,q⟩ | ⟨hq,q⟩
 ·obtain⟨its,r',pl,hz⟩:=I.list hq
  have hlen:=r'.length
  refine call_tuple_list pl.isList (fun h' kp=>?_) (by simp only[Ak]<;>omega)
  have I1:Inv X pins σ H {s with heap:=h'}:=I.kept (t':=s.toks) kp
  have I2:Inv X pins σ (aG H h'.objs.size (.tup ys)) {s with heap:=h'.push {cls:= .type "tuple",data:= .seq its.toArray}}:=
   I1.laid (t':=s.toks) (fun b o e=>Heap.get?_push_of_some _ e) (Af _) (show ObjOk X.prog X.w _ _ _ (.tup ys)from⟨hz,its,r',IsTup.new _ _⟩)
  exact⟨.ref h'.objs.size,_,I2,rfl,q _ (I1.hok.fresh (Af _))⟩
 ·obtain⟨its,r',pl,hz⟩:=I.tuple hq
  exact call_tuple_same pl ⟨.ref p,H,I,rfl,q⟩
def zw (K:PySem.W.Frag) (T:String) (x:V) (H:Hp):Prop:=match x with
 | .str _=>T="str"
 | .int _=>T="int"
 | .ref p=>(T="list"/\∃xs,SqL K H p xs)\/(T="tuple"/\∃o,K.lookup p=some o/\o.cls= .type "tuple"/\o.dict=none)\/
  (T="dict"/\((∃kvs,H p=some (.dK kvs))\/∃kvs,H p=some (.dT kvs)))\/(T="set"/\∃S n,H p=some (.set S n))
 | _=>False
theorem wK {pins:List (Addr×Obj)} {σ:St} {H:Hp} {s:Shared} {T:String} {x:V} {v:Value} (I:Inv X pins σ H s) (r:RelV x v) (ty:zw X.K T x H):
  s.TypeIs v T/\∀a,v= .ref a->∃ob,s.heap.get? a=some ob/\ob.dict=none:=by
 cases x with
 | str z=>
  obtain⟨t,rfl⟩:=r
  cases(show T="str" from ty)
  exact⟨typeIs_str s z t,fun _ e=>nomatch e⟩
 | int i=>
  obtain⟨t,rfl⟩:=r
  cases(show T="int" from ty)
  exact⟨typeIs_int s i t,fun _ e=>nomatch e⟩
 | ref p=>
  cases r
  rcases ty with⟨rfl,xs,hq⟩ | ⟨rfl,o,hk,hc,hd⟩ | ⟨rfl,hk⟩ | ⟨rfl,S,n,hk⟩
  ·obtain⟨its,_,pl,_⟩:=I.list hq
   refine⟨pl.isList.typeIs,fun a e=>?_⟩
   cases e
   obtain⟨o,n,e,c,hd,_⟩:=pl
   exact⟨o,e,hd⟩
  ·refine⟨⟨o,I.kIn p o hk,hc⟩,fun a e=>?_⟩
   cases e
   exact⟨o,I.kIn _ o hk,hd⟩
  ·have z:∃o,s.heap.get? p=some o/\o.ExactDict:=by
    rcases hk with⟨kvs,hk⟩ | ⟨kvs,hk⟩
    ·obtain⟨_,_,_,_,o,_,_,e,ex,_⟩:=I.hok p _ hk
     exact⟨o,e,ex⟩
    ·obtain⟨_,_,_,_,o,_,_,e,ex,_⟩:=I.hok p _ hk
     exact⟨o,e,ex⟩
   obtain⟨o,e,ex⟩:=z
   refine⟨⟨o,e,ex.1⟩,fun a e2=>?_⟩
   cases e2
   exact⟨o,e,ex.2.1⟩
  ·obtain⟨o,_,_,_,e,ex,_⟩:=I.hok p _ hk
   refine⟨⟨o,e,ex.1⟩,fun a e2=>?_⟩
   cases e2
   exact⟨o,e,ex.2.1⟩
 | _=>exact False.elim ty
def zL (K:PySem.W.Frag) (T:String) (r:V->List V->Hp->VK->Prop) (to:TE) (t:TA):TE:=fun σ H Q=>to σ H fun x H1=>zw K T x H1/\t σ H1 fun xs H2=>r x xs H2 Q
variable {o e:Expr} {es:List Expr} {to:TE} {t:TA} {name:Str} {apos cpos:Pos} {T id:String} {r:V->List V->Hp->VK->Prop}
theorem gx (pa:PlainAttrs T) (slot:Slot T name id) (hty:typeOf (.builtin id)=pure (.type "method_descriptor")) (hm:zK X id r) (ho:PE X o to) (ha:PA X (e :: es) t)
  (hbase:attributeBase o name X.env (eval o X.env)=eval o X.env:=by rfl)
  (hfew:((backTo cpos (starEach (e :: es) X.env)).all (fun x=> !x.1)&&(backToKw cpos (keywordEach [] X.env)).all (fun x=>x.1.isSome)
   &&decide ((e :: es).length+([]:List Keyword).length+(if([]:List Keyword).isEmpty then 0 else 1)<30))=true:=by rfl)
  (hline:(apos.endLine==cpos.line)=true:=by rfl) (hs:starEach (e :: es) X.env=(false,eval e X.env) :: starEach es X.env:=by rfl) (hplain:(backTo cpos (starEach es X.env)).any (·.1)=false:=by rfl):
  PE X (.Call (.Attribute o name apos) (e :: es) [] cpos) (zL X.K T r to t):=by
 intro pins s σ H Q I h
 refine wpAny_Call_method_late hbase hfew hline rfl (bF (ho pins s σ H _ I h) fun v s1 hq__=>?_)
 obtain⟨x,H1,I1,r1,ty,q1⟩:=hq__
 obtain⟨h1,h2⟩:=wK I1 r1 ty
 refine⟨T,id,pa,slot,hty,h1,h2,?_⟩
 have hA:=ha cpos pins s1 σ H1 _ I1 q1
 rw[hs]at hA ⊢
 refine Calls.callWith_builtin (by show(false||(backTo cpos (starEach es X.env)).any (·.1))=false;rw[hplain]<;>rfl) (Calls.evalArgs_plain ?_)
 exact bF hA fun us s2 ⟨vs,H2,I2,r2,q2⟩=>hm pins s2 σ H2 x vs v us Q I2 r1 r2 q2
end
def y9 (X:Cx) (id:String) (r:V->List V->Hp->VK->Prop):Prop:=
 ∀(pins:List (Addr×Obj)) (s:Shared) (σ:St) (H:Hp) (x:V) (xs:List V) (v:Value) (us:List Value) (Q:VK),Inv X pins σ H s->RelV x v->Vals xs us->r x xs H Q->
  wpAny (model X.prog X.w) X.A (call (.builtin id) (v :: us)) (EP X pins σ Q) X.xe s
theorem Vals.one:∀{x:V} {us:List Value},Vals [x] us->∃u,us=[u]/\RelV x u:=by
 intro x us h
 cases h with
 | cons r t=>cases t;exact⟨_,rfl,r⟩
section
variable {X:Cx} {pins:List (Addr×Obj)} {σ:St} {H:Hp} {s:Shared} {l b:Addr} {xs ys zs:List V}
theorem Inv.lset {its its':List Value} {n:Nat} {f:Array Value->Array Value} {t':Nat} (I:Inv X pins σ H s) (hH:H l=some (.lst xs))
  (e:s.heap.get? l=some {cls:= .type "list",data:= .seq its.toArray n}) (hf:f its.toArray=its'.toArray) (hv:Vals ys its') (hz:ys.length<=sizeLine):
  Inv X pins σ (aG H l (.lst ys)) {s with heap:=s.heap.update l (Obj.mapSeq f),toks:=t'}:=by
 have q:=PySem.IsL.update e f
 rw[hf]at q
 refine I.write (x:=l) (e:=l) (by rw[hH];exact trivial) (.inl rfl) (fun b' u hb hu=>(Heap.get?_update_other s.heap (Obj.mapSeq f) (Ne.symm hb)).trans hu) ⟨_,q⟩ ?_
 exact⟨hz,its',_,hv,q⟩
theorem Inv.lnew {its:List Value} {t':Nat} (I:Inv X pins σ H s) (hv:Vals ys its) (hz:ys.length<=sizeLine):
  Inv X pins σ (aG H s.heap.objs.size (.lst ys)) {s with heap:=s.heap.push {cls:= .type "list",data:= .seq its.toArray},toks:=t'}:=
 I.laid (fun _ _ q=>Heap.get?_push_of_some _ q) (Af _) ⟨hz,its,0,hv,Heap.get?_push_size _ rfl⟩
theorem Inv.fresh (I:Inv X pins σ H s):H s.heap.objs.size=none:=I.hok.fresh (Af _)
theorem Inv.lstM (I:Inv X pins σ H s) (hH:H l=some (.lst xs)):xs.length<=sizeLine/\∃(its:List Value) (n:Nat),Vals xs its/\xs.length=its.length/\s.heap.get? l=some {cls:= .type "list",data:= .seq its.toArray n}:=by
 obtain⟨z,its,n,r,e⟩:=I.hok l _ hH
 exact⟨z,its,n,r,r.length,e⟩
theorem r8 {n:Nat} (h:n<=sizeLine):Builtin.List.listTooLong n=false:=by
 unfold Builtin.List.listTooLong
 exact decide_eq_false (by omega)
end
section
variable {X:Cx}
def uU:V->List V->Hp->VK->Prop:=fun x vs H Q=>∃l xs y,x= .ref l/\vs=[y]/\H l=some (.lst xs)/\xs.length<sizeLine/\Q .non (aG H l (.lst (xs++[y])))
theorem bT:y9 X "list.append" uU:=by
 intro pins s σ H x vs v us Q I rx rv h
 obtain⟨l,xs,y,rfl,rfl,hH,hz,q⟩:=h
 cases rx
 obtain⟨u,rfl,ru⟩:=rv.one
 obtain⟨z,its,n,r,hl,e⟩:=I.lstM hH
 refine call_meets F.slot_list_append ⟨_,e,rfl⟩ F.entry_list_append (F.args_list_append_2 _ _) (PySem.list_append l its.toArray n u (by rw[Ak];omega)) ⟨e,?_⟩
 refine⟨.non,_,I.lset (its':=its++[u]) hH e (by simp) (r.append (.cons ru .nil)) ?_,rfl,q⟩
 rw[Ai,Aq]
 omega
def uV:V->List V->Hp->VK->Prop:=fun x vs H Q=>∃l b xs zs,x= .ref l/\vs=[.ref b]/\H l=some (.lst xs)/\H b=some (.lst zs)/\xs.length+zs.length<=sizeLine/\Q .non (aG H l (.lst (xs++zs)))
theorem xK:y9 X "list.extend" uV:=by
 intro pins s σ H x vs v us Q I rx rv h
 obtain⟨l,b,xs,zs,rfl,rfl,hH,hB,hz,q⟩:=h
 cases rx
 obtain⟨u,rfl,ru⟩:=rv.one
 cases ru
 obtain⟨z,its,n,r,hl,e⟩:=I.lstM hH
 obtain⟨z2,its2,n2,r2,hl2,e2⟩:=I.lstM hB
 have hsz:its.toArray.size+its2.toArray.size<=sizeLine:=by rw[Ak,Ak];omega
 have hlong:¬(!its.toArray.isEmpty&&Builtin.List.listTooLong (its.toArray.size+its2.toArray.size))=true:=by
  rw[r8 hsz,Bool.and_false]
  exact Ag
 refine call_meets F.slot_list_extend ⟨_,e,rfl⟩ F.entry_list_extend (F.args_list_extend_2 _ _)
  (AutoSeq1.list_extend_list_list_0 l its.toArray n b its2.toArray n2 hlong (by rw[Ak];omega) (by omega)) ⟨e,e2,?_⟩
 refine⟨.non,_,I.lset (its':=its++its2) hH e (by simp) (r.append r2) ?_,rfl,q⟩
 rw[Ai]
 omega
def wL:R2:=fun x y H Q=>∃l b xs zs,x= .ref l/\y= .ref b/\H l=some (.lst xs)/\H b=some (.lst zs)/\xs.length+zs.length<=sizeLine/\∀p,H p=none->Q (.ref p) (aG H p (.lst (xs++zs)))
theorem di:eG X (binaryOp .Add) wL:=by
 intro pins s σ H x y v u Q I rx ry h
 obtain⟨l,b,xs,zs,rfl,rfl,hH,hB,hz,q⟩:=h
 cases rx
 cases ry
 obtain⟨z,its,n,r,hl,e⟩:=I.lstM hH
 obtain⟨z2,its2,n2,r2,hl2,e2⟩:=I.lstM hB
 refine PySem.P.add_list e e2 ?_ (by rw[Ak,Ak];omega)
 have ea:its.toArray++its2.toArray=(its++its2).toArray:=by simp
 rw[ea]
 exact⟨.ref _,_,I.lnew (t':=s.toks) (r.append r2) (by rw[Ai];omega),rfl,q _ I.fresh⟩
end
section
variable {prog:Program} {w:World} {A:Around} {E:Value->Shared->Prop} {s:Shared}
end
section
variable {X:Cx}
end
section
variable {κ:Type} [DecidableEq κ]
def iH (kvs:List (κ×V)) (k:κ):Option V:=(kvs.find? fun kv=>decide (kv.1=k)).map (·.2)
theorem mR {p:κ×V} {r:List (κ×V)} {k:κ} (e:p.1=k):iH (p :: r) k=some p.2:=by simp[iH,Bi,e]
theorem mS {p:κ×V} {r:List (κ×V)} {k:κ} (e:¬p.1=k):iH (p :: r) k=iH r k:=by simp[iH,Bi,e]
theorem RelO.isSome_eq {o:Option V} {u:Option Value} (r:RelO o u):o.isSome=u.isSome:=by
 cases o with
 | none=>cases u with
  | none=>rfl
  | some _=>exact(show False from r).elim
 | some _=>cases u with
  | none=>exact(show False from r).elim
  | some _=>rfl
theorem RelO.getD {o:Option V} {u:Option Value} {d:V} {d':Value} (r:RelO o u) (rd:RelV d d'):RelV (o.getD d) (u.getD d'):=by
 cases o with
 | none=>cases u with
  | none=>exact rd
  | some _=>exact(show False from r).elim
 | some _=>cases u with
  | none=>exact(show False from r).elim
  | some _=>exact r
theorem KV.val {kvs:List (κ×V)} {vs:List (κ×Value)} (r:KV kvs vs) (k:κ):RelO (iH kvs k) (valueAt vs k):=by
 unfold KV at r
 induction r with
 | nil=>exact True.intro
 | @cons p q ps qs h t ih=>
  obtain⟨h1,h2⟩:=h
  by_cases e:p.1=k
  ·have e':q.1=k:=h1.symm.trans e
   have b:valueAt (q :: qs) k=some q.2:=by simp[valueAt,Bi,e']
   rw[mR e,b];exact h2
  ·have e':¬q.1=k:=fun z=>e (h1.trans z)
   have b:valueAt (q :: qs) k=valueAt qs k:=by simp[valueAt,Bi,e']
   rw[mS e,b];exact ih
theorem KV.length {kvs:List (κ×V)} {vs:List (κ×Value)} (r:KV kvs vs):kvs.length=vs.length:=Paired.length r
end
theorem mT {P:Program} {w:World} {k:cO} {u:Value} (r:RelV (kV k) u):(bc P w).is k u=true:=by
 cases k with
 | inl i=>obtain⟨t,e⟩:=(show ∃t,u=Value.int i t from r);subst e;exact mH P w i t
 | inr x=>obtain⟨t,e⟩:=(show ∃t,u=Value.str x t from r);subst e;exact mI P w x t
theorem qw {P:Program} {w:World} {ks:List cO} {us:List Value} (r:Vals (ks.map kV) us):ItemsAre (bc P w) ks us:=by
 induction ks generalizing us with
 | nil=>cases r;exact .nil
 | cons k ks ih=>
  cases r with
  | cons h t=>exact .cons (mT h) (ih t)
abbrev KT (H:Hp):List (List cO×V)->List (List cO×Addr×Value)->Prop:=Paired fun p q=>p.1=q.1/\H q.2.1=some (.tup (p.1.map kV))/\RelV p.2 q.2.2
theorem KT.val {H:Hp} {kvs:List (List cO×V)} {xs:List (List cO×Addr×Value)} (r:KT H kvs xs) (k:List cO):RelO (iH kvs k) ((atKey xs k).map (·.2)):=by
 induction r with
 | nil=>exact True.intro
 | @cons p q ps qs h t ih=>
  obtain⟨h1,_,h2⟩:=h
  by_cases e:p.1=k
  ·have e':q.1=k:=h1.symm.trans e
   have b:atKey (q :: qs) k=some q.2:=by simp[atKey,Bi,e']
   rw[mR e,b];exact h2
  ·have e':¬q.1=k:=fun z=>e (h1.trans z)
   have b:atKey (q :: qs) k=atKey qs k:=by simp[atKey,Bi,e']
   rw[mS e,b];exact ih
section
variable {P:Program} {w:World} {H:Hp} {h:Heap} {a:Addr}
theorem vN {u:HO} (ok:HOk P w H h) (e:Rd H a u):ObjOk P w H h a u:=e.ok ok
theorem mU {kvs:List (cO×V)} (ok:HOk P w H h) (e:Rd H a (.dK kvs)):kvs.length<=sizeLine/\(a==sysModules)=false/\∃vs,KV kvs vs/\h.DictOf (bc P w) a vs:=
 show ObjOk P w H h a (.dK kvs)from vN ok e
theorem lE {ks:List cO} (ok:HOk P w H h) (e:H a=some (.tup (ks.map kV))):(tupleKind (bc P w)).is h ks a:=by
 obtain⟨_,its,r,o,h1,h2,n,h3⟩:=(show ObjOk P w H h a (.tup (ks.map kV))from ok a _ e)
 exact⟨o,its.toArray,n,h1,h2,h3,by simpa using qw r⟩
theorem mV {kvs:List (List cO×V)} (ok:HOk P w H h) (e:Rd H a (.dT kvs)):kvs.length<=sizeLine/\(a==sysModules)=false/\
  ∃xs,KT H kvs xs/\h.DictOfH (tupleKind (bc P w)) a xs:=by
 obtain⟨z,y,xs,r,o,es,ep,h1,h2,h3,h4,h5⟩:=(show ObjOk P w H h a (.dT kvs)from vN ok e)
 refine⟨z,y,xs,r,o,es,ep,h1,h2,h3,h4,fun x hx=>?_,h5⟩
 have all:∀{l:List (List cO×V)} {m:List (List cO×Addr×Value)},KT H l m->∀x∈m,(tupleKind (bc P w)).is h x.1 x.2.1:=by
  intro l m q
  induction q with
  | nil=>intro x hx;exact nomatch hx
  | @cons p q ps qs hq t ih=>
   intro x hx
   rcases Al.mp hx with e | hx
   ·subst e
    exact lE ok (by rw[<- hq.1];exact hq.2.1)
   ·exact ih x hx
 exact all r x hx
end
def DGet (H:Hp) (a:Addr) (y:V) (r:Option V):Prop:=
 (∃kvs k,Rd H a (.dK kvs)/\y=kV k/\r=iH kvs k)\/∃kvs k b,Rd H a (.dT kvs)/\y= .ref b/\H b=some (.tup (k.map kV))/\r=iH kvs k
theorem DGet.k {H:Hp} {a:Addr} {kvs:List (cO×V)} {k:cO} (e:H a=some (.dK kvs)):DGet H a (kV k) (iH kvs k):= .inl ⟨kvs,k,.inl e,rfl,rfl⟩
section
variable {X:Cx} {pins:List (Addr×Obj)} {σ:St} {H:Hp} {s:Shared} {a:Addr} {y v:V} {u r:Value} {o:Option V} {A:Around} {E:Value->Shared->Prop}
theorem Inv.big (I:Inv X pins σ H s):sysModules<s.heap.objs.size:=by
 have h:mainGlobals<s.heap.objs.size:=(I.mod.glob.keeps I.bk).lt
 exact Nat.lt_trans (by decide) h
theorem qy {Q:Value->Shared->Prop} (hu:A.units+1<cLine) (I:Inv X pins σ H s) (g:DGet H a y (some v)) (ry:RelV y u) (h:∀w' s',Inv X pins σ H s'->RelV v w'->Q w' s'):
  wpAny (model X.prog X.w) A (getItem (.ref a) u) Q E s:=by
 rcases g with⟨kvs,k,e,ey,l⟩ | ⟨kvs,k,b,e,ey,eb,l⟩
 ·subst ey
  obtain⟨z,hd,vs,rel,dd⟩:=mU I.hok e
  obtain⟨w',hw,rw'⟩:=RelO.some_of (v:=v) (o:=valueAt vs k) (by rw[l];exact rel.val k)
  exact wpAny_getItem_of (mT ry) dd.mapOf hw (h w' _ (I.tok _) rw')
 ·subst ey
  cases(show u=Value.ref b from ry)
  obtain⟨z,hd,xs,rel,dd⟩:=mV I.hok e
  obtain⟨w',hw,rw'⟩:=RelO.some_of (v:=v) (o:=(atKey xs k).map (·.2)) (by rw[l];exact rel.val k)
  obtain⟨p,hp,hp2⟩:=An.mp hw
  refine wpAny_getItem_heap (tupleKind_room_in1 hu) (lE I.hok eb) dd hp ?_
  rw[hp2]
  exact h w' _ (I.tok _) rw'
theorem za {Q:Value->Shared->Prop} (hu:A.units+1<cLine) (I:Inv X pins σ H s) (g:DGet H a y o) (ry:RelV y u) (h:∀s',Inv X pins σ H s'->Q (.bool o.isSome) s'):
  wpAny (model X.prog X.w) A (compareOp .In u (.ref a)) Q E s:=by
 rcases g with⟨kvs,k,e,ey,l⟩ | ⟨kvs,k,b,e,ey,eb,l⟩
 ·subst ey
  obtain⟨z,hd,vs,rel,dd⟩:=mU I.hok e
  refine wpAny_in_of (mT ry) hd dd.mapOf ?_
  rw[<- (rel.val k).isSome_eq,<- l]
  exact h _ (I.tok _)
 ·subst ey
  cases(show u=Value.ref b from ry)
  obtain⟨z,hd,xs,rel,dd⟩:=mV I.hok e
  refine wpAny_in_heap (tupleKind_room_in1 hu) (lE I.hok eb) hd dd ?_
  have q:=(rel.val k).isSome_eq
  rw[Option.isSome_map]at q
  rw[<- q,<- l]
  exact h _ (I.tok _)
theorem wM {P:Program} {w:World} {H':Hp} {h':Heap} {kvs:List (cO×V)} {vs:List (cO×Value)} (z:kvs.length<=sizeLine) (hd:(a==sysModules)=false) (rel:KV kvs vs) (dd:h'.DictOf (bc P w) a vs):
 ObjOk P w H' h' a (.dK kvs):=⟨z,hd,vs,rel,dd⟩
end
section
variable {X:Cx} {pins:List (Addr×Obj)} {σ:St} {H:Hp} {s:Shared} {a:Addr} {kvs:List (cO×V)} {k:cO} {u:Value} {A:Around} {E:Value->Shared->Prop}
end
def yi (i:Expr):Prop:=∀ov iv,subscripted i false ov iv=operate [ov,iv] (getItem ov iv)
theorem uW {prog:Program} {w:World} {A:Around} {E:Value->Shared->Prop} {s:Shared} {env:Env} {value slice:Expr} {pos:Pos} {T id:String} {Q:Value->Shared->Prop}
  (hl:typeLookup (.type T) "__getitem__"=pure (some (.builtin id))) (hs:yi slice)
  (h:wpAny (model prog w) A (eval value env) (fun o s₁=>wpAny (model prog w) A (eval slice env) (fun i s₂=>s₂.TypeIs o T/\wpAny (model prog w) A (getItem o i) Q E s₂) E s₁) E s):
  wpAny (model prog w) A (eval (.Subscript value slice pos) env) Q E s:=by
 refine Subscript_ (wpAny_mono h (fun o s₁ h₁=>wpAny_mono h₁ (fun i s₂ h₂=>?_) fun _ _ x=>x) fun _ _ x=>x)
 obtain⟨hT,h₂⟩:=h₂
 unfold subscriptTail
 refine wpAny_bind ?_
 rw[getitemInPython_of_ne hT.not_modules]
 refine wpAny_bind (wpAny_specialOf hT hl ?_)
 have fin:wpAny (model prog w) A (subscripted slice false o i) (fun r s₃=>wpAny (model prog w) A (letTemporaryGo value o r >>= fun _=>pure r) Q E s₃) E s₂:=by
  rw[hs o i]
  exact wpAny_operating (wpAny_mono h₂ (fun r s₃ h₃=>wpAny_bind (wpAny_letTemporaryGo (wpAny_pure h₃))) fun _ _ x=>x)
 first
  | exact wpAny_pure (wpAny_bind fin)
  | exact wpAny_bind (wpAny_pure (wpAny_bind fin))
  | exact wpAny_bind fin
theorem mW {X:Cx} {pins:List (Addr×Obj)} {σ:St} {H:Hp} {s:Shared} {a:Addr} {y:V} {o:Option V} (I:Inv X pins σ H s) (g:DGet H a y o):s.TypeIs (.ref a) "dict":=by
 rcases g with⟨kvs,k,e,_,_⟩ | ⟨kvs,k,b,e,_,_,_⟩
 ·obtain⟨_,_,vs,_,dd⟩:=mU I.hok e
  exact dd.typeIs
 ·obtain⟨_,_,xs,_,dd⟩:=mV I.hok e
  exact dd.typeIs
def yj (td ty:TE):TE:=fun σ H Q=>td σ H fun x H1=>ty σ H1 fun y H2=>∃a v,x= .ref a/\DGet H2 a y (some v)/\Q v H2
def zc (ty td:TE):TE:=fun σ H Q=>ty σ H fun y H1=>td σ H1 fun x H2=>∃a o,x= .ref a/\DGet H2 a y o/\Q (.bl o.isSome) H2
section
variable {X:Cx} {o i e value:Expr} {pos pos' tpos:Pos} {td ty tv:TE}
theorem pL (hu:X.A.units+1<cLine) (ho:PE X o td) (hi:PE X i ty) (hs:yi i):PE X (.Subscript o i pos) (yj td ty):=by
 intro pins s σ H Q I h
 refine uW PySem.F.slot_dict_getitem.lookup hs (bF (ho pins s σ H _ I h) fun u s1 h1=>?_)
 obtain⟨x,H1,I1,rx,q1⟩:=h1
 refine bF (hi pins s1 σ H1 _ I1 q1) fun iv s2 h2=>?_
 obtain⟨y,H2,I2,ry,a,v,ex,g,q2⟩:=h2
 subst ex
 obtain rfl:u=Value.ref a:=rx
 exact⟨mW I2 g,qy hu I2 g ry fun w' s3 I3 rw'=>⟨v,H2,I3,rw',q2⟩⟩
theorem wN (hu:X.A.units+1<cLine) (hi:PE X i ty) (ho:PE X o td):PC X .In i o (zc ty td):=by
 intro pins s σ H Q I h
 refine bF (hi pins s σ H _ I h) fun iv s1 ⟨y,H1,I1,ry,q1⟩=>bF (ho pins s1 σ H1 _ I1 q1) fun u s2 hq__=>?_
 obtain⟨x,H2,I2,rx,a,ov,ex,g,q2⟩:=hq__
 subst ex
 obtain rfl:u=Value.ref a:=rx
 exact za hu I2 g ry fun s3 I3=>⟨.bl ov.isSome,H2,I3,rfl,q2⟩
end
section
variable {X:Cx} {pos:Pos}
end
structure M2 (X:Cx) (o:Expr) (m:Str) (apos:Pos) (e f:Expr) (cpos:Pos):Prop where
 base:attributeBase o m X.env (eval o X.env)=eval o X.env
 few:((backTo cpos (starEach [e,f] X.env)).all (fun x=> !x.1)&&(backToKw cpos (keywordEach [] X.env)).all (fun x=>x.1.isSome)
  &&decide (([e,f]:List Expr).length+([]:List Keyword).length+(if([]:List Keyword).isEmpty then 0 else 1)<30))=true
 line:(apos.endLine==cpos.line)=true
 trees:backTo cpos (starEach [e,f] X.env)=[(false,eval e X.env),(false,eval f X.env)]
def zx (H:Hp) (a:Addr):Prop:=(∃kvs,Rd H a (.dK kvs))\/∃kvs,Rd H a (.dT kvs)
theorem wO {X:Cx} {pins:List (Addr×Obj)} {σ:St} {H:Hp} {s:Shared} {a:Addr} (I:Inv X pins σ H s) (d:zx H a):
  s.TypeIs (.ref a) "dict"/\(∀b,Value.ref a= .ref b->∃ob,s.heap.get? b=some ob/\ob.dict=none)/\(a==sysModules)=false:=by
 rcases d with⟨kvs,e⟩ | ⟨kvs,e⟩
 ·obtain⟨_,hd,vs,_,dd⟩:=mU I.hok e
  refine⟨dd.typeIs,fun b q=>?_,hd⟩
  cases q
  obtain⟨ob,_,_,h1,h2,_⟩:=dd
  exact⟨ob,h1,h2.2.1⟩
 ·obtain⟨_,hd,xs,_,dd⟩:=mV I.hok e
  refine⟨dd.typeIs,fun b q=>?_,hd⟩
  cases q
  obtain⟨ob,_,_,h1,h2,_⟩:=dd
  exact⟨ob,h1,h2.2.1⟩
section
variable {X:Cx} {pins:List (Addr×Obj)} {σ:St} {H:Hp} {s:Shared} {a:Addr} {y d:V} {u r:Value} {o:Option V} {A:Around} {E:Value->Shared->Prop}
theorem wQ {Q:Value->Shared->Prop} (hu:A.units+1<cLine) (I:Inv X pins σ H s) (g:DGet H a y o) (ry:RelV y u) (rd:RelV d r) (h:∀w' s',Inv X pins σ H s'->RelV (o.getD d) w'->Q w' s'):
  wpAny (model X.prog X.w) A (call (.builtin "dict.get") [.ref a,u,r]) Q E s:=by
 rcases g with⟨kvs,k,e,ey,l⟩ | ⟨kvs,k,b,e,ey,eb,l⟩
 ·subst ey
  obtain⟨z,hd,vs,rel,dd⟩:=mU I.hok e
  refine call_meetsIn PySem.F.slot_dict_get dd.typeIs PySem.F.entry_dict_get (PySem.F.args_dict_get_3 _ _ _) (meets_dict_get_default (bc X.prog X.w) a (mT ry) hd r) ⟨_,dd.mapOf,h _ _ (I.tok _) ?_⟩
  rw[l]
  exact(rel.val k).getD rd
 ·subst ey
  cases(show u=Value.ref b from ry)
  obtain⟨z,hd,xs,rel,dd⟩:=mV I.hok e
  refine call_meetsIn PySem.F.slot_dict_get dd.typeIs PySem.F.entry_dict_get (PySem.F.args_dict_get_3 _ _ _) (meetsH_dict_get_default (tupleKind (bc X.prog X.w)) a b hd r) ⟨tupleKind_room_in1 hu,k,xs,lE I.hok eb,dd,h _ _ (I.tok _) ?_⟩
  rw[l]
  exact(rel.val k).getD rd
end
def wR (td ty tx:TE):TE:=fun σ H Q=>td σ H fun x H1=>∃a,x= .ref a/\zx H1 a/\ty σ H1 fun y H2=>tx σ H2 fun z H3=>∃o,DGet H3 a y o/\Q (o.getD z) H3
section
variable {X:Cx} {o e f:Expr} {apos cpos:Pos} {td ty tx:TE}
theorem r9 (hu:X.A.units+1<cLine) (ho:PE X o td) (he:PE X e ty) (hf:PE X f tx) (m:M2 X o "get" apos e f cpos):PE X (.Call (.Attribute o "get" apos) [e,f] [] cpos) (wR td ty tx):=by
 intro pins s σ H Q I h
 refine wpAny_Call_method m.base m.few m.line PySem.F.plainAttrs_dict PySem.F.slot_dict_get PySem.F.type_dict_get (bF (ho pins s σ H _ I h) fun u s1 hq__=>?_)
 obtain⟨x,H1,I1,rx,a,ex,d,q1⟩:=hq__
 subst ex
 obtain rfl:u=Value.ref a:=rx
 obtain⟨t1,t2,_⟩:=wO I1 d
 refine⟨t1,t2,?_⟩
 rw[m.trees]
 refine Calls.callWith_builtin rfl (Calls.evalArgs_plain (Calls.spliced_cons (bF (he pins s1 σ H1 _ I1 q1) fun iv s2 ⟨y,H2,I2,ry,q2⟩=>
  Calls.spliced_cons (bF (hf pins s2 σ H2 _ I2 q2) fun fv s3 ⟨z,H3,I3,rz,ov,g,q3⟩=>Calls.spliced_nil ?_))))
 exact wQ hu I3 g ry rz fun w' s4 I4 rw'=>⟨_,H3,I4,rw',q3⟩
end
section
variable {X:Cx} {pins:List (Addr×Obj)} {σ:St} {H:Hp} {s:Shared} {a:Addr} {kvs:List (cO×V)} {A:Around} {E:Value->Shared->Prop}
end
section
variable {X:Cx} {pins:List (Addr×Obj)} {σ:St} {H:Hp} {s:Shared} {a:Addr} {y:V} {u:Value} {A:Around} {E:Value->Shared->Prop}
end
end L2
namespace Att
open PySem PySem.W PySem.Calls PyProof.Rows
theorem iI {P:Params} {h:Heap}:∀(ns:List Int) (vs:List Value),WellAll P h vs (ns.map WData.int)->IntsAre vs ns:=by
 intro ns
 induction ns with
 | nil=>
  intro vs w
  rw[List.map_nil]at w
  cases w
  exact .nil
 | cons n ns ih=>
  intro vs w
  rw[Bd]at w
  cases w with
  | cons a b=>
   cases a
   exact .cons _ _ (ih _ b)
theorem qz {l:OpenLaw} {n:Nat} (hn:l.most=some n) {P:Params} {h:Heap} {args:List WData} {vals:List Value}
  (hpre:l.row.toRowW.claim.pre args=true) (hwl:WellAll P h vals args):
  ∃a vs ns,vals=[Value.ref a]/\args=[WData.list (ns.map WData.int)]/\h.get? a=some {cls:= .type "list",data:= .seq vs.toArray}/\IntsAre vs ns/\ns.length<=n:=by
 have hsh:WShape.hasAll [] args [.list .int]=true:=(pre_splitW hpre).1
 have hc:l.pre.holds [] {args:=args}=true:=(pre_splitW hpre).2
 obtain⟨d,r,rfl,h1,h2⟩:=hasAllW_cons hsh
 obtain rfl:=hasAllW_nil h2
 obtain⟨xs,rfl,h3⟩:=hasW_list h1
 obtain⟨ns,rfl⟩:=items_int h3
 have hlen:ns.length<=n:=by
  unfold OpenLaw.pre at hc
  have h4:(WTm.not (.lt (.lit (.int (n:Int))) (.len (.arg 0)))).holds [] {args:=[.list (ns.map .int)]}=true:=by
   have h4:=(holds_andW hc).1
   rw[hn]at h4
   exact h4
  have h5:=condW_of h4 (w_not (w_lt w_lit (w_len_list (w_arg rfl))))
  rw[zZ]at h5
  refine A9 fun q=>?_
  have q':(n:Int)<((ns.length:Nat):Int):=by omega
  first
   | (rw [decide_eq_true q']at h5;exact absurd h5 (by decide))
   | (simp at h5;omega)
 cases hwl with
 | cons w1 w2=>
  cases w2
  cases w1 with
  | list ho hall=>exact⟨_,_,ns,rfl,rfl,ho,iI ns _ hall,hlen⟩
theorem qA (l:OpenLaw) (args:List WData):l.row.toRowW.claim.post args (.bool true) args=true:=
 postW_of (r:=l.row.toRowW) (X:=(true==true))
  (show WShape.has [] (.bool true) .bool=true by first | rfl | decide | simp[WShape.has,WShape.arms,WShape.armsAll])
  (show(WTm.eq .res (.lit (.bool true))).value [] {args:=args,res:=some (.bool true),after:=args}=some (.bool (true==true))from w_eq_bool (w_res rfl) w_lit) rfl
theorem mX {l:OpenLaw} {n:Nat} {q:Program} {loose:List Str} {XP:(Str->Option Value)->Heap->Prop} {YP:World->Heap->Prop} {d:DefRec}
  (hn:l.most=some n) (hdf:d.params.defaults=[])
  (call:∀(w:World) (s₀ s₁:Shared) (mg mb:Str->Option Value) (fa:Addr) (o:Obj) (pm cd doc:Value) (a:Addr) (vs:List Value) (ns:List Int),
   Ground q loose [] XP w s₀ mg mb s₁.heap->YP w s₁.heap->
   s₁.heap.get? fa=some o->o.data= .func (docDef d.name d.params d.body d.scope pm cd doc)->s₁.heap.CodeRec cd d.name->mg d.name=some (.ref fa)->
   s₁.heap.get? a=some {cls:= .type "list",data:= .seq vs.toArray}->IntsAre vs ns->ns.length<=n->s₁.gens=#[]->
   codeAny (model l.prog w) callerA (.call (.ref fa) ⟨[.ref a],[]⟩) (fun r s'=>r= .ok (.ret (.bool true))/\OldK s₁.heap s'.heap/\s'.os=s₁.os/\AllBare s'.gens) s₁):
  WalkO q loose XP YP l.row.toRowW d [] (fun f vs=>PySem.call f vs):=by
 intro w s₀ s₁ mg mb G Y fa o pm cd doc dV kV ho hd hcd hD hmg hg args vals as hpre hlay hrd hwl hlo
 obtain rfl:dV= .none:=Dflts.none hD hdf
 obtain rfl:kV= .none:=Dflts.noKw hD
 obtain⟨a,vs,ns,rfl,rfl,hobj,hints,hlen⟩:=qz hn hpre hwl
 refine enter_call (codeAny_mono (call w s₀ s₁ mg mb fa o pm cd doc a vs ns G Y ho (fd_plain hd) hcd hmg hobj hints hlen hg) fun r s' hq=>?_)
 obtain⟨rfl,h2,h3,h4⟩:=hq
 exact⟨.inl ⟨.bool true,.bool true,[],rfl,fun _=>rfl,.bool true,qA l _,fun _=>⟨List.Pairwise.nil,fun _ hm=>(nomatch hm)⟩⟩,h2,h3,h4⟩
section
variable {prog:Program} {w:World} {A:Around} {E:Value->Shared->Prop} {s:Shared} {K:Frag}
end
end Att
namespace L2
open PySem PySem.Spec PyProof.Rows
theorem kz:∀{vs:List Value} {ns:List Int},IntsAre vs ns->Vals (ns.map V.int) vs:=by
 intro vs ns h
 induction h with
 | nil=>exact .nil
 | cons n t h ih=>exact .cons ⟨t,rfl⟩ ih
def wU (H:Hp):Prop:=∀b,H b=none\/∃o xs,H b=some (.frz o (.lst xs))
theorem sd {P:Program} {w:World} {K:PySem.W.Frag} {mg mb:Str->Option Value} {CX:rJ} {k:Nat} {fa a:Addr} {fd:FuncData} {x:Str} {sp:Sp} {s₁:Shared} {vs:List Value} {ns:List Int}
  (KX:K.In s₁.heap) (hns:s₁.heap.Ns mainGlobals mg) (hb:s₁.heap.Ns builtinsNs mb) (hbb:∀x:Str,x≠"__name__"->mb x=bootBuiltins x) (hlim:s₁.heap.NoLimit) (hg:s₁.gens=#[])
  (ha:s₁.heap.get? a=some {cls:= .type "list",data:= .seq vs.toArray}) (hi:IntsAre vs ns) (hl:ns.length<=sizeLine) (hr:Room k callerA)
  (F:∀base:Heap,K.In base->base.Ns mainGlobals mg->FnOk P w K mg base CX k fa fd [x] sp) (hbind:∀(s:Shared) (u:Value),BindsTo s fd ⟨[u],[]⟩ [(x,u)])
  (hsp:∀H:Hp,wU H->SqL K H a (ns.map V.int)->sp [.ref a] H (fun v _=>v= .bl true) fun _ _ _=>False)
  (hCX:∀H e s',CX [] H s₁ (fun _ _ _=>False) e s'->False):
  codeAny (model P w) callerA (.call (.ref fa) ⟨[.ref a],[]⟩) (fun r s'=>r= .ok (.ret (.bool true))/\OldK s₁.heap s'.heap/\s'.os=s₁.os/\AllBare s'.gens) s₁:=by
 have rv:=kz hi
 have lenV:=hi.length
 have core:∀H:Hp,wU H->SqL K H a (ns.map V.int)->HOk P w H s₁.heap->(∀b,H b≠none->b=a)->(H a≠none->K.lookup a=none)->
   codeAny (model P w) callerA (.call (.ref fa) ⟨[.ref a],[]⟩) (fun r s'=>r= .ok (.ret (.bool true))/\OldK s₁.heap s'.heap/\s'.os=s₁.os/\AllBare s'.gens) s₁:=by
  intro H hO hS hok hA hK
  have base_of:∀{b:Addr} {o:Obj},s₁.heap.get? b=some o->H b=none->(lu s₁.heap H).get? b=some o:=fun e n=>rM e n
  have noA:∀{b:Addr} {o:Obj} {es:Array DictEntry} {ep:Nat},s₁.heap.get? b=some o->o.data= .dict es ep->H b=none:=fun {b o es ep} e d=>by
   cases q:H b with
   | none=>rfl
   | some u=>
    have e':b=a:=hA b (by rw[q];simp)
    subst e'
    rw[ha]at e;cases e
    have d':Data.seq vs.toArray _=Data.dict es ep:=d
    cases d'
  have nsK:∀{b:Addr} {m:Str->Option Value},s₁.heap.Ns b m->(lu s₁.heap H).Ns b m:=fun {b m} ⟨o,es,ep,e,d,r⟩=>⟨o,es,ep,base_of e (noA e d),d,r⟩
  have hKb:K.In (lu s₁.heap H):=fun b o e=>base_of (KX b o e) (by
   cases q:H b with
   | none=>rfl
   | some u=>
    have e':b=a:=hA b (by rw[q];simp)
    subst e'
    rw[hK (by rw[q];simp)]at e;cases e)
  have hM:Mod K mg (lu s₁.heap H):=⟨hKb,nsK hns,⟨mb,nsK hb,hbb⟩,let⟨mc,h1,h2⟩:=hlim;⟨mc,nsK h1,h2⟩⟩
  have e0:Env0 P w K mg (lu s₁.heap H) callerA [] s₁ H:=⟨rfl,hM,fun b o e=>uC e,Nat.le_of_eq (qj _ _),trivial,fun b hb=>absurd (show b∈([]:List Addr)from hb) (by simp),hok,.of_eq hg⟩
  refine codeAny_mono ((F _ hKb (nsK hns)).run callerA [] s₁ H ⟨[.ref a],[]⟩ [.ref a] [.ref a] _ _ hr e0 (hbind s₁ (.ref a)) (.cons rfl .nil) (hsp H hO hS)) fun r s' h=>?_
  cases r with
  | error e=>exact(hCX H e s' h).elim
  | ok fl=>
   cases fl with
   | next=>exact False.elim h
   | brk=>exact False.elim h
   | cont=>exact False.elim h
   | ret u=>
    obtain⟨v,H',os,bare,un,hok',r',q⟩:=h
    have q':v= .bl true:=q
    subst q'
    obtain rfl:u=Value.bool true:=r'
    refine⟨rfl,OldK.of_keep fun b o e=>?_,os,bare⟩
    cases q:H b with
    | none=>exact un.keep b o e q (by intro z;exact absurd (show b∈([]:List Addr)from z) (by simp)) (by simp)
    | some u=>
     rcases hO b with z | ⟨ob,xs,z⟩
     ·rw [q]at z;cases z
     ·have z2:=un.frzs b ob _ z
      obtain⟨e1,_⟩:=hok b _ z
      obtain⟨e2,_⟩:=hok' b _ z2
      rw[e]at e1;cases e1
      exact e2
 cases hk:K.lookup a with
 | some o=>
  have e:=KX a o hk
  rw[ha]at e
  cases e
  refine core (fun _=>none) (fun _=> .inl rfl) (.inr ⟨_,vs.toArray,_,hk,rfl,rfl,rfl,by rw[Ak,lenV];exact hl,by simpa using rv⟩) (fun b u z=>by have z':(none:Option HO)=some u:=z;cases z') (fun b z=>absurd rfl z) fun z=>absurd rfl z
 | none=>
  refine core (fun b=>if b=a then some (.frz {cls:= .type "list",data:= .seq vs.toArray} (.lst (ns.map V.int)))else none) (fun b=>?_) (.inl (.inr ⟨{cls:= .type "list",data:= .seq vs.toArray},if_pos rfl⟩)) (fun b u z=>?_) (fun b z=>?_) fun _=>hk
  ·by_cases hb:b=a
   ·exact .inr ⟨_,_,if_pos hb⟩
   ·exact .inl (if_neg hb)
  ·by_cases hb:b=a
   ·have z':=(if_pos hb).symm.trans z
    cases z'
    subst hb
    exact⟨ha,by rw[zZ];exact hl,vs,_,rv,ha⟩
   ·have z':=(if_neg hb).symm.trans z
    cases z'
  ·by_cases hb:b=a
   ·exact hb
   ·exact absurd (if_neg hb) z
abbrev zY {K:PySem.W.Frag} {h:Heap} (_:K.In h):PySem.W.Frag:=K
theorem uX {l:PySem.W.OpenLaw} {n k:Nat} {q:Program} {loose:List Str} {XP:(Str->Option Value)->Heap->Prop} {YP:World->Heap->Prop} {d:DefRec} {K:Params->PySem.W.Frag} {CX:World->rJ} {sp:World->Sp} {x:Str}
  (hn:l.most=some n) (hn2:n<=sizeLine) (hdf:d.params.defaults=[]) (hr:Room k callerA)
  (hY:∀(w:World) (h:Heap),YP w h->(K w.params).In h)
  (F:∀(w:World) (mg:Str->Option Value) (fa:Addr) (h:Heap),(K w.params).In h->h.Ns mainGlobals mg->mg d.name=some (.ref fa)->
   ∃fd:FuncData,(∀(s:Shared) (u:Value),BindsTo s fd ⟨[u],[]⟩ [(x,u)])/\
    ∀base:Heap,(K w.params).In base->base.Ns mainGlobals mg->FnOk l.prog w (K w.params) mg base (CX w) k fa fd [x] (sp w))
  (hsp:∀(w:World) (H:Hp) (a:Addr) (ns:List Int),ns.length<=n->wU H->SqL (K w.params) H a (ns.map V.int)->sp w [.ref a] H (fun v _=>v= .bl true) fun _ _ _=>False)
  (hCX:∀(w:World) (H:Hp) (s:Shared) (e:Value) (s':Shared),CX w [] H s (fun _ _ _=>False) e s'->False):
  PySem.W.WalkO q loose XP YP l.row.toRowW d [] (fun f vs=>PySem.call f vs):=by
 refine Att.mX hn hdf fun w s₀ s₁ mg mb fa o pm cd doc a vs ns G Y ho hd hcd hmg hobj hints hlen hg=>?_
 have KX:=hY w _ Y
 obtain⟨fd,hb,hF⟩:=F w mg fa _ KX G.T.g hmg
 exact sd KX G.T.g G.T.b G.T.builtins G.T.nolimit hg hobj hints (AC hlen hn2) hr hF hb (fun H hO hS=>hsp w H a ns hlen hO hS) fun H e s'=>hCX w H s₁ e s'
def dQ (s:Stmt):Arguments:=match s with
 | .FunctionDef _ a _ _ _ _ _ _ _ _=>a
 | _=>{posonlyargs:=[],args:=[],vararg:=none,kwonlyargs:=[],kw_defaults:=[],kwarg:=none,defaults:=[]}
def c4 (s:Stmt):List Stmt:=match s with
 | .FunctionDef _ _ b _ _ _ _ _ _ _=>b
 | _=>[]
def ao (s:Stmt):Scope:=match s with
 | .FunctionDef _ _ _ _ _ _ sc _ _ _=>sc
 | _=>{kind:= .function,names:=[],isGenerator:=false,isCoroutine:=false}
abbrev a8:rJ:=fun _ _ _ _ _ _=>False
abbrev E0:XK:=fun _ _ _=>False
theorem yk {X:Cx}:oy a8 X E0:=fun _ _ _ _ _ _ _ h=>h.elim
structure Fun (K:PySem.W.Frag) (x qual:Str) (st:Stmt) (f:Addr) (fd:FuncData):Prop where
 ex:∃(oc:Value) (od:Option Addr) (kV doc pm:Value) (an:Option Addr) (cdv ct:Value) (osl:Array (Option Value)),
  fd=PySem.W.fnOf x qual (dQ st) (c4 st) (ao st) .none kV doc pm an cdv ct/\K.lookup f=some ⟨oc,od,.func fd,osl⟩/\PySem.W.codeIn K cdv qual=true
 kp:PySem.W.keepIn K (.ref f)=true
section
variable {P:Program} {w:World} {K:PySem.W.Frag} {mg:Str->Option Value} {base:Heap}
theorem Fun.ok {x qual:Str} {st:Stmt} {f:Addr} {fd:FuncData} {N ps:List Str} {k:Nat} {sp:Sp} (F:Fun K x qual st f fd) (S:FnScope N ps (ao st)) (len:∀vs H Q E,sp vs H Q E->vs.length=ps.length)
  (hbody:∀(cdv:Value) (A:Around) (outer:List Env) (s:Shared) (H:Hp) (vs:List V) (Q:VK) (E:XK),Room k (A.deeper (envOfC qual (ao st) s.heap.objs.size f cdv))->sp vs H Q E->
   ∃t,PSs (mN a8 P w K mg base N qual (ao st) f cdv A outer s H E).nox (c4 st) t/\t {nx:=fun _ H'=>Q .non H',rt:=Q} (iy N vs) H):FnOk P w K mg base a8 (k+1) f fd ps sp:=by
 obtain⟨oc,od,kV,doc,pm,an,cdv,ct,osl,rfl,lk,hcd⟩:=F.ex
 refine yc lk hcd S len fun A outer s H vs Q E hr hsp=>?_
 obtain⟨t,h,q⟩:=hbody cdv A outer s H vs Q E hr hsp
 exact⟨t,h.nox,q⟩
theorem Fun.binds {x qual:Str} {st:Stmt} {f:Addr} {fd:FuncData} {ps:List Str} (F:Fun K x qual st f fd)
  (h:∀(kV doc pm:Value) (an:Option Addr) (cdv ct:Value) (us:List Value),us.length=ps.length->bindArgs (PySem.W.fnOf x qual (dQ st) (c4 st) (ao st) .none kV doc pm an cdv ct) ⟨us,[]⟩=pure (ps.zip us)):Binds K fd ps []:=by
 obtain⟨oc,od,kV,doc,pm,an,cdv,ct,osl,rfl,lk,hcd⟩:=F.ex
 exact .all (h kV doc pm an cdv ct)
theorem wV {x qual:Str} {st:Stmt} {f:Addr} {oc:Value} {od an:Option Addr} {osl:Array (Option Value)} {kV doc pm cdv ct:Value} (l:K.lookup f=some ⟨oc,od,.func (PySem.W.fnOf x qual (dQ st) (c4 st) (ao st) .none kV doc pm an cdv ct),osl⟩)
 (c:PySem.W.codeIn K cdv qual=true) (k:PySem.W.keepIn K (.ref f)=true):Fun K x qual st f (PySem.W.fnOf x qual (dQ st) (c4 st) (ao st) .none kV doc pm an cdv ct):=⟨⟨oc,od,kV,doc,pm,an,cdv,ct,osl,rfl,l,c⟩,k⟩
end
theorem a7 {A:Around} {k:Nat} (hr:Room k A):A.units+1<cLine:=BM (BV (by decide:1<=64) _) hr.units
theorem qB {n:Nat} (h:n<=1000):n<sizeLine:=BM h (by decide)
section
variable {X:Cx}
theorem pv (i:Nat) {x:Str} {pos:Pos} (hN:X.N[i]?=some x:=by rfl) (hv:yJ X.env.scope x:=by first | exact Or.inl rfl | exact Or.inr (Or.inl rfl) | exact Or.inr (Or.inr rfl)) (hd:(x==("__debug__":Str))=false:=by decide)
 (hcd:(x==("__classdict__":Str))=false:=by decide):PE X (.Name x pos) (wm i):=wu hN hv hd hcd
end
theorem bg {A B:Prop} (h:B):if false=true then A else B:=by
 rw[if_neg Ag]
 exact h
theorem bq {A B:Prop} (h:A):if true=true then A else B:=by
 rw[if_pos rfl]
 exact h
def Same (H H':Hp):Prop:=∀b o,H b=some o->H' b=some o
theorem Same.refl (H:Hp):Same H H:=fun _ _ h=>h
theorem Same.trans {H H1 H2:Hp} (a:Same H H1) (b:Same H1 H2):Same H H2:=fun c o h=>b c o (a c o h)
theorem Same.free {H H':Hp} (e:Same H H') {l:Addr} (h:H' l=Option.none):H l=Option.none:=by
 cases q:H l with
 | none=>rfl
 | some o=>
  rw[e l o q]at h
  cases h
theorem Same.seq {K:PySem.W.Frag} {H H':Hp} {a:Addr} {xs:List V} (e:Same H H') (h:SqL K H a xs):SqL K H' a xs:=by
 rcases h with(h | ⟨o,h⟩) | h
 ·exact .inl (.inl (e _ _ h))
 ·exact .inl (.inr ⟨o,e _ _ h⟩)
 ·exact .inr h
section
variable {κ:Type} [DecidableEq κ]
theorem pM {l:List κ} {k:κ} (h:l.Nodup) (n:¬k∈l):(l++[k]).Nodup:=List.nodup_append.mpr ⟨h,Bz _ _,fun a ha b hb e=>n (by rw[<- Am.mp hb,<- e];exact ha)⟩
end
structure BA where
 cl:List (Str×Addr)
 C:Addr
 s₀:Shared
 H₀:Hp
 ex:List Addr
abbrev jP (X:Cx) (sc:Scope) (N:List Str) (b:BA):Cx:=
 {prog:=X.prog,w:=X.w,K:=X.K,mg:=X.mg,base:=X.base,A:=X.A,N:=N,s₀:=b.s₀,H₀:=b.H₀,env:=compEnvC sc b.cl b.C X.env,outer:=X.stack,stack:=X.stack,ex:=b.ex,fn:=fun _=>false,calm:=X.calm,pn:=[],xe:=fun _ _=>False}
def bE (env:Env):List (Str×Addr)->List (Str×NameKind)->List (Str×Addr)
 | acc,[]=>acc
 | acc,(n,k) :: r=>bE env (if k== .free then(match env.cells.lookup n with | some c=>(n,c) :: acc | none=>acc)else acc) r
theorem se (env:Env):∀(l:List (Str×NameKind)) (acc:List (Str×Addr)),(∀y∈l,y.2= .free->∃c,env.cells.lookup y.1=some c)->
  (forIn l acc (fun(x:Str×NameKind) (cs:List (Str×Addr))=>(match x with
   | (name,kind)=>if(kind== .free)=true then(do let a <- cellOf env name;pure (ForInStep.yield ((name,a) :: cs)))else pure (ForInStep.yield cs):Sem (ForInStep (List (Str×Addr))))))=(pure (bE env acc l):Sem (List (Str×Addr))):=by
 intro l
 induction l with
 | nil=>intro acc _;rfl
 | cons nk r ih=>
  obtain⟨n,k⟩:=nk
  intro acc h
  have hr:∀y∈r,y.2= .free->∃c,env.cells.lookup y.1=some c:=fun y hy=>h y (Av _ hy)
  rw[List.forIn_cons]
  by_cases hk:k= .free
  ·subst hk
   obtain⟨c,hc⟩:=h (n,.free) Ay rfl
   have hc':env.cells.lookup n=some c:=hc
   simp only[beq_self_eq_true,if_true,bE,hc']
   have e:cellOf env n=pure c:=by unfold cellOf;rw[hc']
   rw[e,pure_bind,pure_bind]
   exact ih _ hr
  ·have hb:(k==NameKind.free)=false:=by simpa using hk
   simp only[hb,AR,if_false,bE]
   rw[pure_bind]
   exact ih _ hr
theorem uY {env:Env} {sc:Scope} (h:∀y∈sc.names,y.2= .free->∃c,env.cells.lookup y.1=some c):closureFor sc env=pure (bE env [] sc.names):=by
 unfold closureFor
 exact(congrArg (fun m=>m >>= fun cs=>pure cs) (se env sc.names [] h)).trans (pure_bind _ _)
theorem cD {env:Env}:∀(l:List (Str×NameKind)) (acc:List (Str×Addr)),(∀x c,acc.lookup x=some c->env.cells.lookup x=some c)->
  ∀x c,(bE env acc l).lookup x=some c->env.cells.lookup x=some c:=by
 intro l
 induction l with
 | nil=>intro acc h x c e;exact h x c e
 | cons nk r ih=>
  obtain⟨n,k⟩:=nk
  intro acc h x c e
  refine ih _ (fun y d q=>?_) x c e
  by_cases hk:(k==NameKind.free)=true
  ·rw [if_pos hk]at q
   cases hl:env.cells.lookup n with
   | none=>rw[hl]at q;exact h y d q
   | some a=>
    rw[hl]at q
    simp only[AO]at q
    by_cases hy:(y==n)=true
    ·rw [hy]at q
     have e1:y=n:=by simpa using hy
     subst e1
     cases q
     exact hl
    ·rw [Bm]at hy
     rw[hy]at q
     exact h y d q
  ·rw [if_neg hk]at q
   exact h y d q
theorem kA {env:Env}:∀(l:List (Str×NameKind)) (acc:List (Str×Addr)) (x:Str),(acc.lookup x).isSome=true->((bE env acc l).lookup x).isSome=true
 | [],acc,x,h=>h
 | (n,k) :: r,acc,x,h=>by
  refine kA r _ x ?_
  by_cases hk:(k==NameKind.free)=true
  ·rw [if_pos hk]
   cases env.cells.lookup n with
   | none=>exact h
   | some a=>
    show(List.lookup x ((n,a) :: acc)).isSome=true
    rw[AO]
    by_cases hy:(x==n)=true
    ·rw [hy];rfl
    ·rw [Bm]at hy
     rw[hy];exact h
  ·rw [if_neg hk];exact h
theorem kC {env:Env} (l:List (Str×NameKind)) (acc:List (Str×Addr)) (x:Str) (h:(x,NameKind.free)∈l) (q:∃c,env.cells.lookup x=some c):((bE env acc l).lookup x).isSome=true:=by
 obtain⟨c,hc⟩:=q
 induction l generalizing acc with
 | nil=>cases h
 | cons p r ih=>
  rcases Al.mp h with e | h
  ·subst e
   refine kA r _ x ?_
   rw[if_pos (beq_self_eq_true _),hc]
   show(List.lookup x ((x,c) :: acc)).isSome=true
   rw[AO,beq_self_eq_true];rfl
  ·exact ih _ h
theorem i8 {env:Env}:∀(l:List (Str×NameKind)) (x:Str) (k:NameKind),(∀y∈l,y.2≠ .cell)->k= .cell\/k= .free->
  (l.map fun(n,k)=>if(k==NameKind.free&&env.scope.kind== .function&&env.kindOf n==some .cell)then(n,NameKind.cell)else(n,k)).lookup x=some k->(x,NameKind.free)∈l:=by
 intro l
 induction l with
 | nil=>intro _ _ _ _ h;simp at h
 | cons nk r ih=>
  obtain⟨n,k'⟩:=nk
  intro x k hc hk h
  rw[Bd]at h
  by_cases hx:(x==n)=true
  ·have e1:x=n:=by simpa using hx
   subst e1
   by_cases hf:k'= .free
   ·subst hf;exact Ay
   ·exfalso
    have hb:(k'==NameKind.free)=false:=by simpa using hf
    simp only[hb,Ao,AR,if_false,AO,beq_self_eq_true]at h
    have e2:k'=k:=Option.some.inj h
    rcases hk with z | z
    ·exact hc (x,k') Ay (e2.trans z)
    ·exact hf (e2.trans z)
  ·rw [Bm]at hx
   refine Av _ (ih x k (fun y hy=>hc y (Av _ hy)) hk ?_)
   by_cases hq:(k'==NameKind.free&&env.scope.kind== .function&&env.kindOf n==some .cell)=true
   ·simp only[hq,if_true,AO,hx]at h;exact h
   ·rw [Bm]at hq
    simp only[hq,AR,if_false,AO,hx]at h;exact h
theorem jQ {env:Env}:∀(l:List (Str×NameKind)) (x:Str),l.lookup x=some .free->
  ∃k,(k=NameKind.cell\/k=NameKind.free)/\(l.map fun(n,k)=>if(k==NameKind.free&&env.scope.kind== .function&&env.kindOf n==some .cell)then(n,NameKind.cell)else(n,k)).lookup x=some k:=by
 intro l
 induction l with
 | nil=>intro _ h;simp at h
 | cons nk r ih=>
  obtain⟨n,k'⟩:=nk
  intro x h
  rw[Bd]
  by_cases hx:(x==n)=true
  ·simp only[AO,hx]at h
   have e2:k'= .free:=Option.some.inj h
   subst e2
   by_cases hq:(NameKind.free==NameKind.free&&env.scope.kind== .function&&env.kindOf n==some .cell)=true
   ·exact⟨.cell,.inl rfl,by simp only[hq,if_true,AO,hx]⟩
   ·rw [Bm]at hq
    exact⟨.free,.inr rfl,by simp only[hq,AR,if_false,AO,hx]⟩
  ·rw [Bm]at hx
   simp only[AO,hx]at h
   obtain⟨k,hk,e⟩:=ih x h
   refine⟨k,hk,?_⟩
   by_cases hq:(k'==NameKind.free&&env.scope.kind== .function&&env.kindOf n==some .cell)=true
   ·simp only[hq,if_true,AO,hx];exact e
   ·rw [Bm]at hq
    simp only[hq,AR,if_false,AO,hx];exact e
theorem mY {l:List (Str×NameKind)} {x:Str} {k:NameKind}:l.lookup x=some k->(x,k)∈l:=by
 induction l with
 | nil=>intro h;simp at h
 | cons p r ih=>
  intro h
  obtain⟨n,k'⟩:=p
  by_cases hx:(x==n)=true
  ·simp only[AO,hx]at h
   have e1:x=n:=by simpa using hx
   subst e1
   cases h
   exact Ay
  ·rw [Bm]at hx
   simp only[AO,hx]at h
   exact Av _ (ih h)
section
variable {prog:Program} {w:World} {A:Around} {E:Value->Shared->Prop} {R:Result->Shared->Prop} {s:Shared}
abbrev vO:Value->Shared->Prop:=fun _ _=>False
theorem oD {elt target iter:Expr} {ifs:List Expr} {scope:Scope} {pos:Pos} {it acc:Value} {env:Env} (J:Nat->Shared->Prop)
  (turn:∀n s,J n s->wpAny (model prog w) A (pyNext it) (fun r s₁=>(r=none/\R (.ok .next) s₁)\/∃v,r=some v/\
   wpAny (model prog w) A (letOwnedTupleGo target it v) (fun _ s₁'=>wpAny (model prog w) A (assign target env v) (fun _ s₂=>
    wpAny (model prog w) A (forIn ifs true fun c r=>if r=true then do let ok <- isTrue c env (eval c env);pure (ForInStep.yield ok)else pure (ForInStep.yield r)) (fun ok s₃=>
     (ok=true->wpAny (model prog w) A (eval elt env) (fun x s₄=>wpAny (model prog w) A (call (.builtin "list.append") [acc,x]) (fun _ s₅=>∃m,m<n/\J m s₅) vO s₄) vO s₃)/\
     (ok=false->∃m,m<n/\J m s₃)) vO s₂) vO s₁') vO s₁) vO s)
  (n:Nat) (h:J n s):codeAny (model prog w) A (.compLoop (.ListComp elt [⟨target,iter,ifs,0⟩] scope pos) 0 it acc env) R s:=by
 refine codeAny_loop (M:=model prog w) (A:=A) rfl J (fun n s hJ=>?_) n h
 refine wpAny_noted (m:=compTurn (.ListComp elt [⟨target,iter,ifs,0⟩] scope pos) 0 it acc env) ?_
 rw[compTurn_list]
 refine wpAny_bind (wpAny_standAt (wpAny_bind (wpAny_mono (turn n s hJ) (fun r s₁ q=>?_) fun _ _ z=>z.elim)))
 rcases q with⟨e,q⟩ | ⟨v,e,q⟩
 ·subst e
  exact wpAny_pure q
 ·subst e
  refine wpAny_bind (wpAny_mono q (fun _ s₂ q=>?_) fun _ _ z=>z.elim)
  refine wpAny_bind (wpAny_mono q (fun _ s₃ q=>?_) fun _ _ z=>z.elim)
  refine wpAny_bind (wpAny_mono q (fun ok s₄ q=>?_) fun _ _ z=>z.elim)
  cases ok with
  | false=>exact wpAny_pure ⟨rfl,q.2 rfl⟩
  | true=>
   refine wpAny_bind (wpAny_bind (wpAny_mono (q.1 rfl) (fun x s₅ q=>?_) fun _ _ z=>z.elim))
   exact wpAny_bind (wpAny_mono q (fun _ s₆ q=>wpAny_pure (wpAny_pure ⟨rfl,q⟩)) fun _ _ z=>z.elim)
end
def xM (X:Cx) (ifs:List Expr) (t:TT):Prop:=
 ∀(pins:List (Addr×Obj)) (s:Shared) (σ:St) (H:Hp) (Q:Bool->Hp->Prop),Inv X pins σ H s->t σ H Q->
  wpAny (model X.prog X.w) X.A (forIn ifs true fun c r=>if r=true then do let ok <- isTrue c X.env (eval c X.env);pure (ForInStep.yield ok)else pure (ForInStep.yield r)) (TP X pins σ Q) X.xe s
def fC:TT:=fun _ H Q=>Q true H
theorem aM {X:Cx}:xM X [] fC:=fun _ _ _ H _ I h=>wpAny_tests_nil ⟨H,I,h⟩
theorem dR {X:Cx} {c:Expr} {t:TT} (h:PT X c t):xM X [c] t:=fun pins s σ H Q I hw=>wpAny_tests_one (h pins s σ H Q I hw)
def bV (σ:St) (js:List (Option Nat)):St:=js.map fun j=>j.bind fun i=>(σ[i]?).join
def uZ (σ σ':St):Prop:=σ'.length=σ.length/\∀(i:Nat) v,σ[i]?=some (some v)->σ'[i]?=some (some v)
def cv (J:It) (H1:Hp) (js:List (Option Nat)) (g:TG) (tc:TT) (te:TE) (σ:St) (Q:VK):Prop:=∀acc,H1 acc=none->
 ∃W:Nat->Nat->List V->Hp->Prop,(∃m,W 0 m [] (aG H1 acc (.lst [])))/\∀i m ys H,W i m ys H->
  (J.stop i H/\Q (.ref acc) H)\/(J.go i H/\∃N:List V->Hp->Prop,(∀ys' H',N ys' H'->∃m',m'<m/\W (i+1) m' ys' H')/\
   ∀x H',J.yld i H x H'->g x (bV σ js) H' fun σ2 H2=>uZ (bV σ js) σ2/\tc σ2 H2 fun b H3=>
    (b=true->te σ2 H3 fun y H4=>H4 acc=some (.lst ys)/\ys.length<sizeLine/\N (ys++[y]) (aG H4 acc (.lst (ys++[y]))))/\(b=false->N ys H3))
def si (wi:TI) (js:List (Option Nat)) (g:TG) (tc:TT) (te:TE):TE:=fun σ H Q=>wi σ H fun J H1=>cv J H1 js g tc te σ Q
theorem Un.but {fs ex:List Addr} {H H1:Hp} {h h1 h2:Heap} (u:Un fs ex H H1 h h1) (k:∀b o,h.get? b=some o->∀o',h1.get? b=some o'->h2.get? b=some o'):Un fs ex H H1 h h2 where
 keep:=fun b o e n h1 h2=>k b o e _ (u.keep b o e n h1 h2)
 slot:=fun b o e n h1 h2=>let⟨sl,q⟩:=u.slot b o e n h1 h2;⟨sl,k b o e _ q⟩
 free:=u.free
 there:=fun b o e hx=>let⟨o',q⟩:=u.there b o e hx;⟨o',k b o e _ q⟩
 tups:=u.tups
 frzs:=u.frzs
 tbls:=u.tbls
theorem xN {P:Program} {w:World} {H:Hp} {h h':Heap} {C:Addr} (ok:HOk P w H h) (hn:H C=none) (k:∀b o,b≠C->h.get? b=some o->h'.get? b=some o):HOk P w H h':=fun b o e=>by
 refine(ok b o e).stay (fun c u hc q=>k c u ?_ q) (fun _ q=>q) fun _ _ q=>q
 rintro rfl
 rcases hc with z | z
 ·rw [z]at hn;rw[hn]at e;cases e
 ·rw [hn]at z;cases z
theorem cH {α β:Type} {F:α->β->Prop}:∀{l:List α} {r:List β} {i:Nat} {b:β},Paired F l r->r[i]?=some b->∃a,l[i]?=some a/\F a b:=by
 intro l r i b h
 induction h generalizing i with
 | nil=>intro e;simp at e
 | cons r t ih=>
  intro e
  cases i with
  | zero=>cases e;exact⟨_,rfl,r⟩
  | succ i=>exact ih e
theorem wW {X:Cx} {pins:List (Addr×Obj)} {σ:St} {H:Hp} {s:Shared} {sc:Scope} {N:List Str} {fp:List Addr} (I:Inv X pins σ H s) (hk:sc.kind= .function)
  (hcell:∀y∈sc.names,y.2≠ .cell) (hcl:∀y∈sc.names,y.2= .free->∃c,X.env.cells.lookup y.1=some c) (f:∀b∈fp,ly X pins H b) (fl:∀b∈fp,b<s.heap.objs.size):
  (jP X sc N ⟨bE X.env [] sc.names,s.heap.objs.size,s,H,fp⟩).Ok where
 mod:=I.ok.mod
 kind:=hk
 glob:=I.ok.glob
 blt:=I.ok.blt
 above:=Af _
 inj:=fun x y c e1 e2=>I.ok.inj x y c (cD _ [] (fun _ _ z=>by simp at z) x c e1) (cD _ [] (fun _ _ z=>by simp at z) y c e2)
 has:=fun x hx=>by
  have m:(x,NameKind.free)∈sc.names:=by
   rcases hx with z | z
   ·exact i8 (env:=X.env) sc.names x _ hcell (.inl rfl) z
   ·exact i8 (env:=X.env) sc.names x _ hcell (.inr rfl) z
  exact A8.mp (kC sc.names [] x m (hcl _ m rfl))
 cab:=fun _ _ z=>by cases z
 hd:=I.ok.hd
 frames:=I.ok.frames
 stk:= .inl rfl
 exf:=fun b hb=>⟨Ar (fl b hb),fun x c e=>(f b hb).2.2.2.2.1 x c (cD _ [] (fun _ _ z=>by simp at z) x c e)⟩
 bs:=I.bs
 bsz:=AC I.ok.bsz I.sz
 noex:=fun b o e hb=>by
  rcases(f b hb).2.2.2.1 with z | z
  ·exact I.ok.noex b o e z
  ·exact absurd (AB (Heap.lt_size (I.ok.bs b o e).1) z) (A4 _)
 exfs:=fun b hb hs=>by
  rcases Al.mp (I.stkSub b hs)with z | z
  ·exact(f b hb).2.1 z
  ·exact(f b hb).2.2.1 z
 funs:=I.stack
 frf:=I.stkFree
theorem u0 {X:Cx} {pins:List (Addr×Obj)} {σ:St} {H:Hp} {s s4:Shared} {sc:Scope} {N:List Str} {js:List (Option Nat)} {fp:List Addr} {m:Str->Option Value} (I:Inv X pins σ H s)
  (ok:(jP X sc N ⟨bE X.env [] sc.names,s.heap.objs.size,s,H,fp⟩).Ok) (hfree:∀y∈sc.names,y.2= .free->X.env.kindOf y.1=some .cell\/X.env.kindOf y.1=some .free)
  (hN:Paired (fun(j:Option Nat) n=>∀i,j=some i->X.N[i]?=some n/\sc.names.lookup n=some .free) js N)
  (ho:s4.os=s.os) (hg:s4.gens=s.gens) (ns:s4.heap.Ns s.heap.objs.size m) (kp:∀b u,s.heap.get? b=some u->s4.heap.get? b=some u):
  Inv (jP X sc N ⟨bE X.env [] sc.names,s.heap.objs.size,s,H,fp⟩) [] (bV σ js) H s4 where
 ok:=ok
 os:=ho
 bare:=by rw[hg];exact I.bare
 base:=Un.kept kp
 loc:=by
  refine⟨m,ns,fun i x v e1 e2 e3=>?_⟩
  have e1':N[i]?=some x:=e1
  obtain⟨j,ej,fj⟩:=cH hN e1'
  unfold bV at e2
  rw[Ae,ej]at e2
  cases j with
  | none=>cases e2
  | some k=>
   obtain⟨a1,a2⟩:=fj k rfl
   have e2':(σ[k]?).join=some v:=Option.some.inj e2
   have e4:σ[k]?=some (some v):=by
    cases z:σ[k]? with
    | none=>rw[z]at e2';cases e2'
    | some y=>rw[z]at e2';exact congrArg some e2'
   have mem:=mY a2
   have kn:=hfree _ mem rfl
   have vis:yJ X.env.scope x:= .inr kn
   obtain⟨m',hn',hl'⟩:=I.loc
   obtain⟨u,ru,lk⟩:=hl' k x v a1 e4 vis
   refine⟨u,ru,.inr ⟨?_,?_⟩⟩
   ·obtain⟨k',hk',e⟩:=jQ (env:=X.env) sc.names x a2
    rcases hk' with z | z
    ·subst z;exact .inl e
    ·subst z;exact .inr e
   ·rcases lk with⟨z,_⟩ | ⟨_,c,hc,hcl⟩
    ·rcases kn with q | q
     ·have q':X.env.kindOf x=some .cell:=q
      rw[z]at q';cases q'
     ·have q':X.env.kindOf x=some .free:=q
      rw[z]at q';cases q'
    ·obtain⟨c',e'⟩:=A8.mp (kC (env:=X.env) sc.names [] x mem ⟨c,hc⟩)
     have e2:=cD sc.names [] (fun _ _ z=>by simp at z) x c' e'
     rw[hc]at e2
     cases e2
     obtain⟨o,h1,h2⟩:=hcl
     exact⟨c,e',o,kp c o h1,h2⟩
 cell:=fun x c e=>by
  obtain⟨v,o,h1,h2⟩:=I.cell x c (cD _ [] (fun _ _ z=>by simp at z) x c e)
  exact⟨v,o,kp c o h1,h2⟩
 free:=I.hok.fresh (Af _)
 freeC:=fun x c e=>I.freeC x c (cD _ [] (fun _ _ z=>by simp at z) x c e)
 pin:=fun p hp=>by cases hp
 hok:=I.hok.kept kp
 len:=by
  unfold bV
  rw[zZ]
  exact Paired.length hN
set_option maxHeartbeats 4000000 in
theorem i9 {X:Cx} {cpos:Pos} {use:Option (Value->Sem Unit)} {R:Value->Shared->Prop} {pins:List (Addr×Obj)} {s:Shared} {σ:St} {H:Hp} {Q:VK} {elt iter tg:Expr} {ifs:List Expr} {sc:Scope} {pos:Pos} {wi:TI} {g:TG} {tc:TT} {te:TE} (N:List Str) (js:List (Option Nat))
  (hcalm:X.calm=true) (hi:PI X tg iter wi) (hg:∀b,PG (jP X sc N b) tg g) (hc:∀b,xM (jP X sc N b) ifs tc) (he:∀b,PE (jP X sc N b) elt te)
  (hN:Paired (fun(j:Option Nat) n=>∀i,j=some i->X.N[i]?=some n/\sc.names.lookup n=some .free) js N)
  (hk:sc.kind= .function)
  (hcell:(sc.names.all fun y=>y.2 != .cell)=true)
  (hfree:(sc.names.all fun y=>y.2 != .free||(X.env.scope.names.lookup y.1==some .cell||X.env.scope.names.lookup y.1==some .free))=true)
  (hnames:(sc.names.all fun y=>y.2 != .local||sc.names.lookup y.1==some .local)=true)
  (hs:∀x,foldedSetIterable iter X.env x=pure x) (I:Inv X pins σ H s) (h:si wi js g tc te σ H Q)
  (fin0:∀(l C:Addr) (s':Shared) (H':Hp) (m:Str->Option Value),Inv X pins σ H' s'->s'.heap.Ns C m->H' C=none->X.env.locals≠C->X.s₀.heap.objs.size<=C->(∀x c,X.env.cells.lookup x=some c->c≠C)->(∀p∈X.pn++pins,p.1≠C)->Q (.ref l) H'->compPost (model X.prog X.w) X.A X.xe use R (.ref l) C (.ok .next) s'):
  wpAny (model X.prog X.w) X.A (comprehension (.ListComp elt [⟨tg,iter,ifs,0⟩] sc pos) sc X.env cpos (newList []) false (eval iter X.env) use) R X.xe s:=by
 have hcell':∀y∈sc.names,y.2≠ .cell:=fun y hy=>by simpa using As.mp hcell y hy
 have hfree':∀y∈sc.names,y.2= .free->X.env.kindOf y.1=some .cell\/X.env.kindOf y.1=some .free:=fun y hy e=>by
  have q:=As.mp hfree y hy
  rw[e]at q
  have q':X.env.scope.names.lookup y.1=some .cell\/X.env.scope.names.lookup y.1=some .free:=by simpa using q
  exact q'
 have hnames':∀y∈sc.names,y.2= .local->sc.names.lookup y.1=some .local:=fun y hy e=>by
  have q:=As.mp hnames y hy
  rw[e]at q
  simpa using q
 have hcl:∀y∈sc.names,y.2= .free->∃c,X.env.cells.lookup y.1=some c:=fun y hy e=>I.ok.has y.1 (hfree' y hy e)
 refine wpAny_comprehension_free (use:=use) (g:=⟨tg,iter,ifs,0⟩) (gs:=[]) rfl hs (uY hcl) hk hnames' ?_
 refine bF (hi pins s σ H _ I h) fun v s1 h1=>bF h1 fun itv s2 h2=>?_
 obtain⟨it,fp,tn,J,H2,e,I2,T,st2,f2,q⟩:=h2
 subst e
 obtain⟨W,⟨m0,w0⟩,step⟩:=q _ I2.fresh
 refine wpAny_newObj_type (wpAny_newFunctionEnv hcell' (by intro y hy;simp at hy) (fun h₁ hns hsb=>?_) hk)
 dsimp only at hns hsb ⊢
 have I3:Inv X pins σ (aG H2 s2.heap.objs.size (.lst [])) {s2 with heap:=s2.heap.push {cls:= .type "list",data:= .seq ([]:List Value).toArray},toks:=s2.toks}:=I2.lnew .nil (Az _)
 generalize hs3:({s2 with heap:=s2.heap.push {cls:= .type "list",data:= .seq ([]:List Value).toArray},toks:=s2.toks}:Shared)=s3 at I3
 generalize hH3:aG H2 s2.heap.objs.size (.lst [])=H3 at I3 w0
 have es3:s3.heap=s2.heap.push {cls:= .type "list",data:= .seq ([]:List Value).toArray}:=by rw[<- hs3]
 have hC:(s2.heap.push {cls:= .type "list",data:= .seq ([]:List Value).toArray}).objs.size=s3.heap.objs.size:=by rw[es3]
 have f3:∀b∈fp,ly X pins H3 b:=fun b hb=>⟨by rw[<- hH3,aE (Ar (by obtain⟨o,e,_⟩:=T.obj _ _ st2 b hb;exact Heap.lt_size e))];exact(f2 b hb).1,(f2 b hb).2⟩
 have fl3:∀b∈fp,b<s3.heap.objs.size:=fun b hb=>by
  obtain⟨o,e,_⟩:=T.obj _ _ st2 b hb
  rw[es3,Heap.size_push]
  exact AX (Heap.lt_size e)
 have ok:=wW (N:=N) (sc:=sc) (fp:=fp) I3 hk hcell' hcl f3 fl3
 have k23:∀b u,s2.heap.get? b=some u->s3.heap.get? b=some u:=fun b u e=>by rw[es3];exact Heap.get?_push_of_some _ e
 have k34:∀b u,s3.heap.get? b=some u->h₁.get? b=some u:=fun b u e=>by
  rw[hC]at hsb
  refine(hsb.2 b (Ar (Heap.lt_size e))).trans (Heap.get?_push_of_some _ ?_)
  rw[<- es3];exact e
 have I4:=u0 (s4:={s2 with heap:=h₁,toks:=s2.toks+([]:List (Str×Value)).length}) (js:=js) I3 ok hfree' hN (by rw[<- hs3]) (by rw[<- hs3]) (by rw[<- hC];exact hns) k34
 have st4:tn 0 h₁:=T.keep _ _ _ st2 fun b _ o e=>k34 b o (k23 b o e)
 generalize hs4:({s2 with heap:=h₁,toks:=s2.toks+([]:List (Str×Value)).length}:Shared)=s4 at I4
 have eh4:s4.heap=h₁:=by rw[<- hs4]
 rw[hC]
 generalize hB:(⟨bE X.env [] sc.names,s3.heap.objs.size,s3,H3,fp⟩:BA)=B at ok I4
 have eC:B.C=s3.heap.objs.size:=by rw[<- hB]
 have stat:∀{H':Hp},(∀b∈fp,H' b=none)->∀b∈fp,ly (jP X sc N B) [] H' b:=fun hn b hb=>by
  refine⟨hn b hb,?_,fun z=>?_,.inl (by rw[<- hB];exact hb),fun x c e=>(ok.exf b (by rw[<- hB];exact hb)).2 x c e,fun p hp=>by cases hp⟩
  ·exact(ok.exf b (by rw[<- hB];exact hb)).1
  ·exact ok.exfs b (by rw[<- hB];exact hb) z
 have fin:∀{s':Shared} {H':Hp} {σ':St},Inv (jP X sc N B) [] σ' H' s'->Q (.ref s2.heap.objs.size) H'->
   compPost (model X.prog X.w) X.A X.xe use R (.ref s2.heap.objs.size) s3.heap.objs.size (.ok .next) s':=fun {s' H' σ'} I' q'=>by
  obtain⟨m,hm,_⟩:=id I'.loc
  have hm':s'.heap.Ns s3.heap.objs.size m:=by rw[<- eC];exact hm
  have u1:Un (gq X.stack) fp H2 H3 s2.heap s3.heap:=by rw[<- hH3];exact Un.laid k23 (Af _) I2.fresh
  have u2:Un (gq X.stack) fp H3 H' s3.heap s'.heap:=by
   have z:=I'.base
   rw[<- hB]at z
   exact z
  have fr':H' s3.heap.objs.size=none:=by rw[<- eC];exact I'.free
  have os':s'.os=s2.os:=by
   have z:=I'.os
   rw[<- hB]at z
   rw[z,<- hs3]
  have Io:Inv X pins σ H' s':=I2.call' (s':=s') (ch:=fp) os' (u1.trans u2) I'.hok I'.bare fun b hb=>⟨(f2 b hb).2.2.2.1,(f2 b hb).2.1,(f2 b hb).2.2.2.2.1,(f2 b hb).2.2.2.2.2⟩
  have ltC:s2.heap.objs.size<s3.heap.objs.size:=by rw[es3,Heap.size_push];exact A1 _
  have cC:∀x c,X.env.cells.lookup x=some c->c≠s3.heap.objs.size:=fun x c e z=>by
   obtain⟨v,q⟩:=I2.cell x c e
   exact absurd q.lt (by rw[z];exact BL.mpr (A5 ltC))
  exact fin0 _ _ s' H' m Io hm' fr' (Ar (Nat.lt_trans I2.lt ltC)) (AC I2.sz (A5 ltC)) cC (fun p hp z=>absurd (Heap.lt_size (I2.pin p hp).1) (by rw[z];exact BL.mpr (A5 ltC))) q'
 have loop:codeAny (model X.prog X.w) X.A (.compLoop (.ListComp elt [⟨tg,iter,ifs,0⟩] sc pos) 0 (.ref it) (.ref s2.heap.objs.size) (jP X sc N B).env)
   (compPost (model X.prog X.w) X.A X.xe use R (.ref s2.heap.objs.size) s3.heap.objs.size) s4:=by
  refine oD (fun n s'=>∃i ys σ' H',Inv (jP X sc N B) [] σ' H' s'/\uZ (bV σ js) σ'/\tn i s'.heap/\(∀b∈fp,H' b=none)/\W i n ys H') ?_ m0
   ⟨0,[],bV σ js,H3,I4,⟨rfl,fun _ _ z=>z⟩,by rw[eh4];exact st4,fun b hb=>(f3 b hb).1,w0⟩
  rintro n s5 ⟨i,ys,σ5,H5,I5',kp5,st5,fr5,w5⟩
  have I5:Inv (jP X sc N B) [] (bV σ js) H5 s5:=I5'.weak kp5.1.symm kp5.2
  rcases step i n ys H5 w5 with⟨stop,qn⟩ | ⟨go,N',hN',turn⟩
  ·refine bF (T.done (jP X sc N B) rfl rfl rfl hcalm i [] s5 _ H5 vO I5 (stat fr5) st5 stop) fun r s6 ⟨hr,I6⟩=> .inl ⟨hr,fin I6 qn⟩
  ·refine bF (T.item (jP X sc N B) rfl rfl rfl hcalm i [] s5 _ H5 vO I5 (stat fr5) st5 go) fun r s6 ⟨u,hr,h6⟩=> .inr ⟨u,hr,?_⟩
   refine bF h6 fun _ s7 hq__=>?_
   obtain⟨x,H7,I7,r7,y7,st7,fr7⟩:=hq__
   have I7':=I7.pinned (stat fr7) (T.obj _ _ st7)
   have back:∀{σ8:St} {H8:Hp} {s8:Shared},Inv (jP X sc N B) ([]++iZ fp s7.heap) σ8 H8 s8->tn (i+1) s8.heap/\∀b∈fp,H8 b=none:=fun {σ8 H8 s8} I8=>by
    refine⟨T.keep _ _ _ st7 fun b hb o e=>(I8.pin (b,o) (AE _ (AE _ (dO hb e)))).1,fun b hb=>?_⟩
    obtain⟨o,e,d⟩:=T.obj _ _ st7 b hb
    exact(I8.pin (b,o) (AE _ (AE _ (dO hb e)))).2.1
   refine bF (hg B _ s7 _ H7 x u _ I7' r7 (turn x H7 y7)) fun _ s8 hq__=>?_
   obtain⟨σ8,H8,I8,kp8,q8⟩:=hq__
   refine bF (hc B _ s8 σ8 H8 _ I8 q8) fun ok s9 ⟨H9,I9,q9⟩=>⟨fun e=>?_,fun e=>?_⟩
   ·refine bF (he B _ s9 σ8 H9 _ I9 (q9.1 e)) fun yv s10 hq__=>?_
    obtain⟨y,H10,I10,r10,q10⟩:=hq__
    obtain⟨e10,l10,n10⟩:=q10
    refine bF (bT _ s10 σ8 H10 (.ref s2.heap.objs.size) [y] _ _ (fun _ H'=>N' (ys++[y]) H') I10 rfl (.cons r10 .nil) ⟨_,ys,y,rfl,rfl,e10,l10,n10⟩) fun _ s11 hq__=>?_
    obtain⟨_,H11,I11,_,q11⟩:=hq__
    obtain⟨m',hm,w11⟩:=hN' _ _ q11
    obtain⟨st11,fr11⟩:=back I11
    exact⟨m',hm,i+1,ys++[y],σ8,H11,I11.unpinned,kp8,st11,fr11,w11⟩
   ·obtain⟨m',hm,w11⟩:=hN' _ _ (q9.2 e)
    obtain⟨st11,fr11⟩:=back I9
    exact⟨m',hm,i+1,ys,σ8,H9,I9.unpinned,kp8,st11,fr11,w11⟩
 have env_eq:(jP X sc N B).env=compEnvC sc (bE X.env [] sc.names) s3.heap.objs.size X.env:=by rw[<- hB]
 rw[env_eq]at loop
 have st4':tn 0 s4.heap:=by rw[eh4];exact st4
 exact codeAny_compStart_list loop (T.self X.A 0 _ _ _ st4' loop)
theorem aK {X:Cx} {elt iter tg:Expr} {ifs:List Expr} {sc:Scope} {pos:Pos} {wi:TI} {g:TG} {tc:TT} {te:TE} (N:List Str) (js:List (Option Nat))
  (hcalm:X.calm=true) (hi:PI X tg iter wi) (hg:∀b,PG (jP X sc N b) tg g) (hc:∀b,xM (jP X sc N b) ifs tc) (he:∀b,PE (jP X sc N b) elt te)
  (hN:Paired (fun(j:Option Nat) n=>∀i,j=some i->X.N[i]?=some n/\sc.names.lookup n=some .free) js N)
  (hk:sc.kind= .function:=by rfl)
  (hcell:(sc.names.all fun y=>y.2 != .cell)=true:=by rfl)
  (hfree:(sc.names.all fun y=>y.2 != .free||(X.env.scope.names.lookup y.1==some .cell||X.env.scope.names.lookup y.1==some .free))=true:=by rfl)
  (hnames:(sc.names.all fun y=>y.2 != .local||sc.names.lookup y.1==some .local)=true:=by rfl)
  (hs:∀x,foldedSetIterable iter X.env x=pure x:=by intro _;rfl):PE X (.ListComp elt [⟨tg,iter,ifs,0⟩] sc pos) (si wi js g tc te):=by
 intro pins s σ H Q I h
 rw[eval_ListComp]
 exact i9 (use:=none) N js hcalm hi hg hc he hN hk hcell hfree hnames hs I h fun l C s' H' m Io hm fr lC sz cC pC q'=>⟨m,hm,fun h' sb'=>⟨.ref l,H',Io.turned (t':=s'.toks) (it:=C) (fun b o hb e=>(sb'.2 b hb).trans e) fr lC.symm (.inr sz) cC pC,rfl,q'⟩⟩
theorem cw {X:Cx} {i₀:Nat} {y₀:Str} {py spos:Pos} {elt iter tg:Expr} {ifs:List Expr} {sc:Scope} {pos:Pos} {wi:TI} {g:TG} {tc:TT} {te:TE} (hN₀:X.N.Nodup) (hi₀:X.N[i₀]?=some y₀) (hx₀:xP X.env.scope y₀) (N:List Str) (js:List (Option Nat))
  (hcalm:X.calm=true) (hi:PI X tg iter wi) (hg:∀b,PG (jP X sc N b) tg g) (hc:∀b,xM (jP X sc N b) ifs tc) (he:∀b,PE (jP X sc N b) elt te)
  (hN:Paired (fun(j:Option Nat) n=>∀i,j=some i->X.N[i]?=some n/\sc.names.lookup n=some .free) js N)
  (hk:sc.kind= .function:=by rfl)
  (hcell:(sc.names.all fun y=>y.2 != .cell)=true:=by rfl)
  (hfree:(sc.names.all fun y=>y.2 != .free||(X.env.scope.names.lookup y.1==some .cell||X.env.scope.names.lookup y.1==some .free))=true:=by rfl)
  (hnames:(sc.names.all fun y=>y.2 != .local||sc.names.lookup y.1==some .local)=true:=by rfl)
  (hs:∀x,foldedSetIterable iter X.env x=pure x:=by intro _;rfl) (hsw:swapsWith (.ListComp elt [⟨tg,iter,ifs,0⟩] sc pos) (some (.Name y₀ py)) spos.line X.env=pure true:=by rfl)
  (hf₀:X.fn y₀=true\/X.env.scope.names.lookup y₀=some .local:=by first | exact .inl rfl | exact .inr rfl | assumption):PS X (.Assign [.Name y₀ py] (.ListComp elt [⟨tg,iter,ifs,0⟩] sc pos) spos) (rP (si wi js g tc te) (bD i₀)):=by
 intro pins s σ H D I h
 rw[exec_Assign_Name_used _ _ _ _ hsw]
 refine wpAny_bind (wpAny_standAt (wpAny_bind ?_))
 show wpAny _ X.A (do let _ <- comprehension (.ListComp elt [⟨tg,iter,ifs,0⟩] sc pos) sc X.env _ (newList []) false (eval iter X.env) (some (assign (.Name y₀ py) X.env))) _ _ s
 refine wpAny_bind (wpAny_mono (i9 (use:=some (assign (.Name y₀ py) X.env)) (R:=fun _ s'=>SP X pins D .next s') (Q:=fun x H1=>D.nx (σ.set i₀ (some x)) H1) N js hcalm hi hg hc he hN hk hcell hfree hnames hs I h fun l C s' H' m Io hm fr lC sz cC pC q'=>?_) (fun _ s' hq=>wpAny_pure (wpAny_pure hq)) fun _ _ e=>e)
 show wpAny (model X.prog X.w) X.A (assign (.Name y₀ py) X.env (.ref l)) _ X.xe s'
 refine wpAny_assign_Name (j9 Io hN₀ hi₀ hx₀ (v:= .ref l) rfl (fun s'' I'' ⟨a,sb,ha⟩=>?_) hf₀)
 have haC:C≠a:=by
  rcases ha with z | z
  ·rw [z];exact lC.symm
  ·exact(cC _ _ z).symm
 exact⟨m,hm.sameBut sb haC,fun h' sb'=>⟨_,H',I''.turned (t':=s''.toks) (it:=C) (fun b o hb e=>(sb'.2 b hb).trans e) fr lC.symm (.inr sz) cC pC,q'⟩⟩
section
variable {X:Cx} {p:Pos}
theorem wX (h:X.mg "int"=none) (hg:Gl X "int":=by rfl):PE X (.Name "int" p) (tC (.ty "int")):=iM hg h PyProof.Rows.boot_int rfl
theorem u4 (h:X.mg "bool"=none) (hg:Gl X "bool":=by rfl):PE X (.Name "bool" p) (tC (.ty "bool")):=iM hg h PyProof.Rows.boot_bool rfl
theorem iQ (h:X.mg "list"=none) (hg:Gl X "list":=by rfl):PE X (.Name "list" p) (tC (.ty "list")):=iM hg h PyProof.Rows.boot_list rfl
theorem ja (h:X.mg "tuple"=none) (hg:Gl X "tuple":=by rfl):PE X (.Name "tuple" p) (tC (.ty "tuple")):=iM hg h PyProof.Rows.boot_tuple rfl
theorem sj:cg X (.builtin "isinstance") (fun xs H Q=>∃x Y t b,xs=[x,.ty Y]/\TyOf X.K H x t/\PySem.W.kitOne X.K t (.type Y)=some b/\Q (.bl b) H):=by
 intro pins s σ H xs us Q I r h
 obtain⟨x,Y,t,b,e,ty,ko,q⟩:=h
 subst e
 obtain⟨u,w',e,rx,ry⟩:=rW r
 subst e
 cases ry
 exact qp I rx ty ko fun tk=>⟨.bl b,H,I.tok _,rfl,q⟩
end
structure Def (K:PySem.W.Frag) (mg:Str->Option Value) (x:Str) (st:Stmt) (ps:List Str) (f:Addr) (fd:FuncData):Prop where
 fn:Fun K x x st f fd
 bd:Binds K fd ps []
 at':mg x=some (.ref f)
section
variable {X:Cx} {k:Nat} {x:Str} {st:Stmt} {ps:List Str} {f:Addr} {fd:FuncData} {sp:Sp} {e:Expr} {es:List Expr} {t:TA} {p pos:Pos}
theorem pc (D:Def X.K X.mg x st ps f fd) (F:FnOk X.prog X.w X.K X.mg X.base a8 k f fd ps sp) (hr:Room k X.A) (ha:PA X (e :: es) t) (hg:Gl X x:=by rfl) (hdb:(x==("__debug__":Str))=false:=by decide)
  (he:starEach (e :: es) X.env=(false,eval e X.env) :: starEach es X.env:=by rfl) (hpl:(backTo pos (starEach es X.env)).any (·.1)=false:=by rfl):PE X (.Call (.Name x p) (e :: es) [] pos) (vL sp [] E0 t):=
 uN F hr hg D.at' D.fn.kp D.bd .nil yk ha hdb he hpl
end
theorem Same.new {H:Hp} {a:Addr} {o:HO} (h:H a=none):Same H (aG H a o):=fun b u e=>by rw[aE (aX e h)];exact e
theorem Same.put {H H':Hp} {a:Addr} {o:HO} (s:Same H H') (h:H a=none):Same H (aG H' a o):=fun b u e=>by rw[aE (aX e h)];exact s b u e
theorem Same.to {H H':Hp} {a:Addr} {o:HO} (s:Same H H') (h:H' a=none):Same H (aG H' a o):=s.trans (Same.new h)
inductive DEq (K:PySem.W.Frag) (H:Hp):Nat->V->V->Bool->Prop
 | flat {d:Nat} {x y:V} (fx:c0 x=true) (fy:c0 y=true):DEq K H d x y (pK x y)
 | lst {d:Nat} {a b:Addr} {xs ys:List V} {e:Nat->Bool} (h1:SqL K H a xs) (h2:SqL K H b ys) (hl:xs.length=ys.length)
  (he:∀(j:Nat) x y,xs[j]?=some x->ys[j]?=some y->DEq K H d x y (e j)):DEq K H (d+1) (.ref a) (.ref b) ((Ad xs.length).all e)
 | len {d:Nat} {a b:Addr} {xs ys:List V} (h1:SqL K H a xs) (h2:SqL K H b ys) (hl:xs.length≠ys.length):DEq K H (d+1) (.ref a) (.ref b) false
 | tup {d:Nat} {a b:Addr} {xs ys:List V} {e:Nat->Bool} (h1:SqT K H a xs) (h2:SqT K H b ys)
  (he:∀(j:Nat) x y,xs[j]?=some x->ys[j]?=some y->DEq K H d x y (e j)):DEq K H (d+1) (.ref a) (.ref b) ((Ad (min xs.length ys.length)).all e&&xs.length==ys.length)
theorem mZ:∀{x:V},c0 x=true->pK x x=true
 | .non,_=>rfl
 | .bl b,_=>by cases b<;>rfl
 | .int i,_=>by simp[pK]
 | .str y,_=>by simp[pK]
theorem DEq.self {X:Cx} {pins:List (Addr×Obj)} {σ:St} {H:Hp} {s:Shared} (I:Inv X pins σ H s) {d:Nat} {x y:V} {b:Bool} (h:DEq X.K H d x y b):x=y->b=true:=by
 induction h with
 | flat fx fy=>intro e;subst e;exact mZ fx
 | @lst d a b xs ys e h1 h2 hl he ih=>
  intro z
  cases z
  have q:=I.list_inj h1 h2
  subst q
  rw[As]
  intro j hj
  have hj':j<xs.length:=AJ.mp hj
  exact ih j _ _ (Aa hj') (Aa hj') rfl
 | len h1 h2 hl=>
  intro z
  cases z
  have q:=I.list_inj h1 h2
  exact absurd (congrArg List.length q) hl
 | @tup d a b xs ys e h1 h2 he ih=>
  intro z
  cases z
  have q:=I.tuple_inj h1 h2
  subst q
  rw[Bx,As]
  refine⟨fun j hj=>?_,by simp⟩
  have hj':j<xs.length:=by have:=AJ.mp hj;omega
  exact ih j _ _ (Aa hj') (Aa hj') rfl
theorem Vals.at {xs:List V} {us:List Value} (r:Vals xs us) {j:Nat} (h:j<us.toArray.size):∃x,xs[j]?=some x/\RelV x us.toArray[j]:=by
 have hl:=r.length
 have h':j<xs.length:=by simpa [hl]using h
 obtain⟨u,e,ru⟩:=r.get (Aa h')
 refine⟨_,Aa h',?_⟩
 have h2:j<us.length:=by simpa using h
 rw[Aa h2]at e
 have e2:us[j]=u:=Option.some.inj e
 simpa [e2]using ru
theorem DEq.at {X:Cx} {pins:List (Addr×Obj)} {σ:St} {H:Hp} {s:Shared} (I:Inv X pins σ H s) {d:Nat} {x y:V} {b:Bool} (h:DEq X.K H d x y b):
  ∀{A:Around} {u v:Value},A.units+d<cLine->RelV x u->RelV y v->SeqAt.EqAt A s u v b:=by
 induction h with
 | flat fx fy=>intro A u v hu rx ry;exact rY rx ry fx fy
 | @lst d a b xs ys e h1 h2 hl he ih=>
  intro A u v hu rx ry
  cases rx;cases ry
  by_cases hab:a=b
  ·have z:(Ad xs.length).all e=true:=(DEq.lst h1 h2 hl he).self I (by rw[hab])
   rw[z,hab]
   exact SeqAt.EqAt.same _
  ·obtain⟨its,r,pl,_⟩:=I.list h1
   obtain⟨its2,r2,pl2,_⟩:=I.list h2
   have l1:=r.length
   have l2:=r2.length
   have q:=SeqAt.RcAt.lists (A:=A) (e:=e) pl.isList pl2.isList (by simp;omega) (by omega) fun j j1 j2=>by
    obtain⟨x,ex,rx⟩:=r.at j1
    obtain⟨y,ey,ry⟩:=r2.at j2
    exact ih j x y ex ey (by show A.units+1+d<cLine;omega) rx ry
   refine SeqAt.EqAt.of_refs hab ?_
   simpa [l1]using q
 | @len d a b xs ys h1 h2 hl=>
  intro A u v hu rx ry
  cases rx;cases ry
  have hab:a≠b:=by
   rintro rfl
   exact hl (congrArg List.length (I.list_inj h1 h2))
  obtain⟨its,r,pl,_⟩:=I.list h1
  obtain⟨its2,r2,pl2,_⟩:=I.list h2
  have l1:=r.length
  have l2:=r2.length
  exact SeqAt.EqAt.of_refs hab (SeqAt.RcAt.lists_lengths pl.isList pl2.isList (by simp;omega) (by omega))
 | @tup d a b xs ys e h1 h2 he ih=>
  intro A u v hu rx ry
  cases rx;cases ry
  by_cases hab:a=b
  ·have z:=(DEq.tup h1 h2 he).self I (by rw[hab])
   rw[z,hab]
   exact SeqAt.EqAt.same _
  ·obtain⟨its,r,pl,_⟩:=I.tuple h1
   obtain⟨its2,r2,pl2,_⟩:=I.tuple h2
   have l1:=r.length
   have l2:=r2.length
   have q:=SeqAt.RcAt.tuples (A:=A) (e:=e) (show s.heap.IsTuple a its.toArray from pl) (show s.heap.IsTuple b its2.toArray from pl2) (by omega) fun j j1 j2=>by
    obtain⟨x,ex,rx⟩:=r.at j1
    obtain⟨y,ey,ry⟩:=r2.at j2
    exact ih j x y ex ey (by show A.units+1+d<cLine;omega) rx ry
   refine SeqAt.EqAt.of_refs hab ?_
   simpa [l1,l2]using q
section
variable {X:Cx}
def ym (K:PySem.W.Frag):R2:=fun x y H Q=>∃d b,DEq K H d x y b/\d<64/\c0 x=false/\Q (.bl b) H
theorem wY (hu:X.A.units+64<cLine):eG X (compareOp .Eq) (ym X.K):=by
 intro pins s σ H x y v u Q I rx ry h
 obtain⟨d,b,dq,hd,fl,q⟩:=h
 cases dq with
 | flat fx fy=>rw[fx]at fl;cases fl
 | @lst d a b xs ys e h1 h2 hl he=>
  cases rx;cases ry
  obtain⟨its,r,pl,_⟩:=I.list h1
  obtain⟨its2,r2,pl2,_⟩:=I.list h2
  have l1:=r.length
  have l2:=r2.length
  refine SeqAt.eq_listAt (e:=e) pl.isList pl2.isList (by simp;omega) (by omega) (fun j j1 j2=>?_) ?_
  ·obtain⟨x,ex,rx⟩:=r.at j1
   obtain⟨y,ey,ry⟩:=r2.at j2
   exact(he j x y ex ey).at I (by show X.A.units+1+d<cLine;omega) rx ry
  ·refine⟨.bl _,H,I,rfl,?_⟩
   simpa [<- l1]using q
 | @len d a b xs ys h1 h2 hl=>
  cases rx;cases ry
  obtain⟨its,r,pl,_⟩:=I.list h1
  obtain⟨its2,r2,pl2,_⟩:=I.list h2
  have l1:=r.length
  have l2:=r2.length
  exact SeqAt.eq_list_lengthsAt pl.isList pl2.isList (by simp;omega) (by omega) ⟨.bl _,H,I,rfl,q⟩
 | @tup d a b xs ys e h1 h2 he=>
  cases rx;cases ry
  obtain⟨its,r,pl,_⟩:=I.tuple h1
  obtain⟨its2,r2,pl2,_⟩:=I.tuple h2
  have l1:=r.length
  have l2:=r2.length
  refine SeqAt.eq_tupleAt (e:=e) (show s.heap.IsTuple a its.toArray from pl) (show s.heap.IsTuple b its2.toArray from pl2) (by omega) (fun j j1 j2=>?_) ?_
  ·obtain⟨x,ex,rx⟩:=r.at j1
   obtain⟨y,ey,ry⟩:=r2.at j2
   exact(he j x y ex ey).at I (by show X.A.units+1+d<cLine;omega) rx ry
  ·refine⟨.bl _,H,I,rfl,?_⟩
   simpa [<- l1,<- l2]using q
theorem sm:cg X (.builtin "all") (fun xs H Q=>∃(hc:X.calm=true) (p:Addr) (bs:List Bool),xs=[.ref p]/\SqL X.K H p (bs.map V.bl)/\Q (.bl (bs.all id)) H):=by
 intro pins s σ H xs us Q I r h
 obtain⟨hc,p,bs,e,hq,q⟩:=h
 subst e
 obtain⟨u,e,rx⟩:=dE r
 subst e
 cases rx
 obtain⟨its,rv,pl,hz⟩:=I.list hq
 have hl:=rv.length
 rw[zZ]at hl
 refine call_all_walk (wpAny_pyIter_list pl.isList ?_)
 have hne:p≠s.heap.objs.size:=by
  obtain⟨o,ho,_⟩:=pl.isList
  exact Ar (Heap.lt_size ho)
 refine⟨s.heap.objs.size,_,_,_,_,_,fun i=>bs.getD i true,rfl,Walks.list (A:=X.A.in1) (show X.A.in1.handled=none from I.ok.hd hc) _ p hne its.toArray,?_,?_,?_⟩
 ·refine⟨⟨_,Heap.get?_push_size _ rfl,rfl,rfl⟩,?_⟩
  obtain⟨o,ho,z⟩:=pl.isList
  exact⟨o,Heap.get?_push_of_some _ ho,z⟩
 ·intro i v s' Q' E' hi hq'
  have hi':its[i]?=some v:=by simpa using hi
  have h2:i<bs.length:=by rw[hl];exact(Ac.mp hi').1
  obtain⟨u,eu,ru⟩:=rv.get (i:=i) (x:= .bl bs[i]) (by simp[h2])
  rw[hi']at eu
  cases eu
  cases ru
  refine wpAny_truthy_bool ?_
  have:bs.getD i true=bs[i]:=by simp[h2]
  rw[<- this];exact hq'
 ·intro h' tk kp
  refine⟨.bl (bs.all id),H,I.kept (fun b o e=>kp b o ?_ (Heap.get?_push_of_some _ e)),?_,q⟩
  ·have:=Heap.lt_size e
   intro z
   rw[Am]at z
   exact absurd this (by rw[z];exact A4 _)
  ·show Value.bool _=Value.bool _
   congr 1
   have e2:its.toArray.size=bs.length:=by simp[hl]
   rw[e2,BI,As,As]
   constructor
   ·intro h x hx
    obtain⟨j,hj,ej⟩:=Ap.mp hx
    have:=h j (AJ.mpr hj)
    simpa [hj,ej]using this
   ·intro h j hj
    have hj':=AJ.mp hj
    have:=h bs[j] (Ax hj')
    simpa [hj']using this
end
def SameBut (acc:Addr) (H H':Hp):Prop:=∀b o,b≠acc->H b=some o->H' b=some o
theorem Same.but {acc:Addr} {H H':Hp} (s:Same H H'):SameBut acc H H':=fun b o _ e=>s b o e
theorem SameBut.upd {acc:Addr} {H:Hp} {o:HO}:SameBut acc H (aG H acc o):=fun b u n e=>by rw[aE n];exact e
theorem vP {n:Nat} (h:n<=1000):n<=sizeLine:=A5 (qB h)
theorem cE {n:Nat} (h:Nat.ble n 1000=true:=by rfl):n<=sizeLine:=vP (Nat.le_of_ble_eq_true h)
theorem oi {n:Nat} (h:n<100000):n<sizeLine:=by rw[sizeLine_eq];omega
theorem so {x:Option V} {σ:St}:uZ (none :: σ) (x :: σ):=⟨rfl,fun i v e=>by
 cases i with
 | zero=>cases e
 | succ i=>exact e⟩
theorem kD {J:It} {H1:Hp} {js:List (Option Nat)} {σ:St} {tc:TT} {te:TE} {Q:VK} (n:Nat) (item:Nat->V) (p:Nat->Bool) (P:Addr->Nat->V->Hp->Prop) (hn:n<100000)
  (mono:∀acc i v H H',P acc i v H->SameBut acc H H'->P acc i v H')
  (hgo:∀i H,i<n->Same H1 H->J.go i H) (hst:∀H,Same H1 H->J.stop n H) (hy:∀i H x H',i<n->Same H1 H->J.yld i H x H'->H'=H/\x=item i)
  (hc:∀i,i<n->∀H2 R,Same H1 H2->R (p i) H2->tc (some (item i) :: bV σ js) H2 R)
  (he:∀acc i,i<n->p i=true->∀H2 R,Same H1 H2->H1 acc=none->H2 acc≠none->(∀v H3,Same H2 H3->P acc i v H3->R v H3)->te (some (item i) :: bV σ js) H2 R)
  (hQ:∀acc vs H',Same H1 H'->H1 acc=none->H' acc=some (.lst vs)->Paired (fun i v=>P acc i v H') ((Ad n).filter p) vs->Q (.ref acc) H'):
  cv J H1 (none :: js) (bD 0) tc te σ Q:=by
 intro acc hacc
 refine⟨fun i m ys H=>m=n-i/\i<=n/\Same H1 H/\H acc=some (.lst ys)/\Paired (fun k v=>P acc k v H) ((Ad i).filter p) ys,⟨n,by simp,Az _,Same.new hacc,af,.nil⟩,?_⟩
 rintro i m ys H ⟨rfl,hi,s1,ha,hp⟩
 by_cases hlt:i<n
 ·refine .inr ⟨hgo i H hlt s1,fun ys' H'=>i<n/\Same H1 H'/\H' acc=some (.lst ys')/\Paired (fun k v=>P acc k v H') ((Ad (i+1)).filter p) ys',fun ys' H' ⟨z,a,b,c⟩=>⟨n-(i+1),AZ _ _ hlt,rfl,hlt,a,b,c⟩,fun x H' y=>?_⟩
  obtain⟨rfl,rfl⟩:=hy i H x H' hlt s1 y
  refine⟨so,hc i hlt _ _ s1 ⟨fun hb=>?_,fun hb=>?_⟩⟩
  ·refine he acc i hlt hb _ _ s1 hacc (by rw[ha];simp) fun v H3 s3 pv=>?_
   have hlen:ys.length<=i:=by
    rw[<- Paired.length hp]
    exact AC (AL _ _) (by simp)
   refine⟨s3 _ _ ha,oi (by omega),hlt,(s1.trans s3).put hacc,af,?_⟩
   rw[A0,AS]
   have e:BS p [i]=[i]:=by simp[hb]
   rw[e]
   refine Paired.snoc (Paired.mapP hp fun k v q=>?_) ?_
   ·exact mono acc k v _ _ (mono acc k v _ _ q s3.but) SameBut.upd
   ·exact mono acc i v _ _ pv SameBut.upd
  ·refine⟨hlt,s1,ha,?_⟩
   rw[A0,AS]
   have e:BS p [i]=[]:=by simp[hb]
   rw[e,Bo]
   exact hp
 ·have e:i=n:=Bn hi (A9 hlt)
  subst e
  exact .inl ⟨hst H s1,hQ acc ys H s1 hacc ha hp⟩
theorem cF {α β:Type} {f:α->β}:∀{l:List α} {r:List β},Paired (fun a b=>b=f a) l r->r=l.map f:=by
 intro l r h
 induction h with
 | nil=>rfl
 | cons h t ih=>rw[h,ih];rfl
section
variable {K:PySem.W.Frag} {H1:Hp} {js:List (Option Nat)} {σ:St} {tc:TT} {te:TE} {Q:VK}
theorem jb {lo:Int} {n:Nat} (f:Nat->V) (hn:n<100000)
  (he:∀i:Nat,i<n->∀H2 R,Same H1 H2->(∀H3,Same H2 H3->R (f i) H3)->te (some (.int (lo+i)) :: bV σ js) H2 R)
  (hQ:∀acc H',Same H1 H'->H1 acc=none->H' acc=some (.lst ((Ad n).map f))->Q (.ref acc) H'):cv (og lo n) H1 (none :: js) (bD 0) fC te σ Q:=
 kD (J:=og lo n) (H1:=H1) (js:=js) (σ:=σ) (tc:=fC) (te:=te) (Q:=Q) n (fun i=> .int (lo+i)) (fun _=>true) (fun _ i v _=>v=f i) hn (fun _ _ _ _ _ h _=>h)
  (fun _ _ h _=>h) (fun _ _=>Af _) (fun _ _ _ _ _ _ y=>y) (fun _ _ _ _ _ h=>h) (fun _ i hi _ H2 R s _ _ k=>he i hi H2 R s fun H3 s3=>k _ H3 s3 rfl)
  fun acc vs H' s n' e p=>hQ acc H' s n' (by rw[e,cF p,AG.mpr (fun _ _=>rfl)])
theorem qC {a:Addr} {xs:List V} (p:Nat->Bool) (P:Addr->Nat->V->Hp->Prop) (hl:SqL K H1 a xs) (hn:xs.length<100000)
  (mono:∀acc i v H H',P acc i v H->SameBut acc H H'->P acc i v H')
  (hc:∀(i:Nat) x,xs[i]?=some x->∀H2 R,Same H1 H2->R (p i) H2->tc (some x :: bV σ js) H2 R)
  (he:∀acc (i:Nat) x,xs[i]?=some x->p i=true->∀H2 R,Same H1 H2->H1 acc=none->H2 acc≠none->(∀v H3,Same H2 H3->P acc i v H3->R v H3)->te (some x :: bV σ js) H2 R)
  (hQ:∀acc vs H',Same H1 H'->H1 acc=none->H' acc=some (.lst vs)->Paired (fun i v=>P acc i v H') ((Ad xs.length).filter p) vs->Q (.ref acc) H'):cv (oo K a) H1 (none :: js) (bD 0) tc te σ Q:=
 kD (J:=oo K a) (H1:=H1) (js:=js) (σ:=σ) (tc:=tc) (te:=te) (Q:=Q) xs.length (fun i=>xs.getD i .non) p P hn mono
  (fun i H h s=>⟨xs,xs[i],s.seq hl,by simp[h]⟩) (fun H s=>⟨xs,s.seq hl,Af _⟩)
  (fun i H x H' h s y=>⟨y.1,by have e:=y.2 xs (s.seq hl);simp[e]⟩)
  (fun i h H2 R s k=>hc i _ (by simp[h]) H2 R s k) (fun acc i h hp H2 R s n1 n2 k=>he acc i _ (by simp[h]) hp H2 R s n1 n2 k) hQ
end
section
variable {X:Cx} {tg l:Expr} {tl:TE} {es:List Expr} {k n:Nat} {t:vH} {pos:Pos} {a:Expr} {ta:TE}
theorem cN (K:PySem.W.Frag) (h:X.K=K:=by rfl):xJ X (ye K):=by subst h;exact uS
theorem eJ (K:PySem.W.Frag) (h:X.K=K:=by rfl):xJ X (yf K):=by subst h;exact wJ
theorem yn (K:PySem.W.Frag) (h:X.K=K:=by rfl):yL X (yh K):=by subst h;exact uT
theorem zM (K:PySem.W.Frag) (h:X.K=K:=by rfl):eG X (compareOp .In) (yN K false):=by subst h;exact qv
theorem zd (K:PySem.W.Frag) (h:X.K=K:=by rfl):eG X (compareOp .NotIn) (yN K true):=by subst h;exact lB
theorem zN (K:PySem.W.Frag) (hu:X.A.units+64<cLine) (h:X.K=K:=by rfl):eG X (compareOp .Eq) (ym K):=by subst h;exact wY hu
theorem bC (K:PySem.W.Frag) (h:X.K=K:=by rfl):cg X (.builtin "len") (fun xs H Q=>∃x n,xs=[x]/\x8 K x H n/\Q (.int n) H):=by subst h;exact rX
theorem lF (K:PySem.W.Frag) (h:X.K=K:=by rfl):cg X (.builtin "isinstance") (fun xs H Q=>∃x Y t b,xs=[x,.ty Y]/\TyOf K H x t/\PySem.W.kitOne K t (.type Y)=some b/\Q (.bl b) H):=by subst h;exact sj
theorem lG (K:PySem.W.Frag) (hc:X.calm=true:=by rfl) (h:X.K=K:=by rfl):cg X (.builtin "all") (fun xs H Q=>∃(p:Addr) (bs:List Bool),xs=[.ref p]/\SqL K H p (bs.map V.bl)/\Q (.bl (bs.all id)) H):=by
 subst h
 exact fun pins s σ H xs us Q I r q=>sm pins s σ H xs us Q I r (let⟨p,bs,e⟩:=q;⟨hc,p,bs,e⟩)
theorem kE (K:PySem.W.Frag) (h:X.K=K:=by rfl):cg X (.type "list") (fun xs H Q=>∃p ys,xs=[.ref p]/\(SqL K H p ys\/SqT K H p ys)/\∀l,H l=none->Q (.ref l) (aG H l (.lst ys))):=by subst h;exact lD
theorem jc (K:PySem.W.Frag) (hl:PE X l tl) (h:X.K=K:=by rfl):PI X tg l (vJ K tl):=by subst h;exact uF hl
theorem zy (K:PySem.W.Frag) (hl:PE X l tl) (h:X.K=K:=by rfl):PI X tg l (xV K tl):=by subst h;exact wC hl
theorem uy (K:PySem.W.Frag) (hc:X.calm=true) (hg:xI X es t) (h:X.K=K:=by rfl) (hn:(assignEach es X.env).length=n:=by rfl) (hst:(assignEach es X.env).findIdx? (·.1)=none:=by rfl):PG X (.Tuple es k pos) (qk K n t):=by
 subst h;exact wB hc hg hn hst
end
theorem aB {X:Cx} {N:List Str} (h:N.Nodup) (e:X.N=N:=by rfl):X.N.Nodup:=by rw[e];exact h
theorem wZ (xs:List V) (k:Nat):fN xs none (some (k:Int))=xs.take k:=by
 unfold fN
 rw[HT.iN,HT.mP,List.drop_zero,Nat.sub_zero]
 by_cases h:k<=xs.length
 ·rw [BE h]
 ·rw [BH (by omega),A7 (Af _),A7 (by omega)]
theorem jd (xs:List V) (k:Nat):fN xs (some (k:Int)) none=xs.drop k:=by
 unfold fN
 rw[HT.iN,HT.mP]
 by_cases h:k<=xs.length
 ·rw [BE h,A7 (by rw[Bk];omega)]
 ·rw [BH (by omega),BB,BG,BO (by omega)]
theorem u5 (xs:List V) (i j:Nat):fN xs (some (i:Int)) (some (j:Int))=(xs.drop i).take (j-i):=by
 unfold fN
 rw[HT.iN,HT.iN]
 by_cases h:i<=xs.length
 ·rw [BE h]
  by_cases h2:j<=xs.length
  ·rw [BE h2]
  ·rw [BH (by omega),A7 (by rw[Bk];omega),A7 (by rw[Bk];omega)]
 ·have e:min i xs.length=xs.length:=BH (by omega)
  rw[e,BO (Af _),BO (l:=xs) (i:=i) (by omega),List.take_nil,List.take_nil]
section
variable {K:PySem.W.Frag} {H:Hp} {a b:Addr}
theorem sv {xs:List V} (h1:SqL K H a xs) (h2:SqL K H b xs) (hf:∀x∈xs,c0 x=true):DEq K H 1 (.ref a) (.ref b) true:=by
 have q:=DEq.lst (d:=0) (e:=fun _=>true) h1 h2 rfl fun j x y ex ey=>by
  rw[ex]at ey
  cases ey
  have f:=hf x (Ah ex)
  have e:=DEq.flat (K:=K) (H:=H) (d:=0) f f
  rw[mZ f]at e
  exact e
 have e:((Ad xs.length).all fun _=>true)=true:=As.mpr fun _ _=>rfl
 rw[e]at q
 exact q
theorem lH {xs:List V} (h1:SqL K H a xs) (h2:SqL K H b []):DEq K H 1 (.ref a) (.ref b) xs.isEmpty:=by
 cases xs with
 | nil=>exact sv h1 h2 fun x hx=>by cases hx
 | cons x r=>exact DEq.len h1 h2 (by simp)
end
theorem iz {b:Bool} {A B:Prop} (h1:b=false->A) (h2:b=true->B):if(!b)=true then A else B:=by
 cases b with
 | true=>exact bg (h2 rfl)
 | false=>exact bq (h1 rfl)
theorem uz {b:Bool} {A B:Prop} (h1:b=true->A) (h2:b=false->B):if b=true then A else B:=by
 cases b with
 | true=>exact bq (h1 rfl)
 | false=>exact bg (h2 rfl)
theorem lI {i j:Int} {A B:Prop} (h1:i=j->A) (h2:i≠j->B):if decide (V.int i=V.int j)=true then A else B:=by
 by_cases h:i=j
 ·rw [if_pos (by simp[h])];exact h1 h
 ·rw [if_neg (by simp[h])];exact h2 h
theorem w4 {i j:Int} {A B:Prop} (h1:i≠j->A) (h2:i=j->B):if(!decide (V.int i=V.int j))=true then A else B:=by
 by_cases h:i=j
 ·rw [if_neg (by simp[h])];exact h2 h
 ·rw [if_pos (by simp[h])];exact h1 h
theorem sy {c:Prop} [Decidable c] {A B:Prop} (h1:c->A) (h2:¬c->B):if decide c=true then A else B:=by
 by_cases h:c
 ·rw [if_pos (decide_eq_true h)];exact h1 h
 ·rw [if_neg (by simp[h])];exact h2 h
def ze (t u:TS):TS:=fun D σ H=>∃P:L2.St->Hp->Prop,t {D with nx:=P} σ H/\∀σ' H',P σ' H'->u D σ' H'
theorem pN {X:Cx} {st:Stmt} {cK:List Stmt} {t u:TS} (h1:PS X st t) (h2:PSs X cK u):PSs X (st :: cK) (ze t u):=by
 intro pins s σ H D I h
 obtain⟨P,ht,hu⟩:=h
 refine wpAny_execs_cons (bF (h1 pins s σ H {D with nx:=P} I ht) fun f s1 q=>?_)
 cases f with
 | next=>
  obtain⟨σ',H',I',q⟩:=q
  exact h2 pins s1 σ' H' D I' (hu σ' H' q)
 | ret v=>exact q
 | brk=>exact q
 | cont=>exact q
section
variable {X:Cx} {tg l:Expr} {tl:TE}
end
section
variable {X:Cx} {es:List Expr} {t:TA}
end
section
variable {X:Cx} {tg l:Expr} {tl:TE}
end
end L2
namespace L2
end L2
namespace L2
open PySem PySem.Spec PyProof.Rows
def PoolsL (K:PySem.W.Frag) (H:Hp) (rs:List Addr) (ps:List (List Int)):Prop:=Paired (fun r p=>SqL K H r (p.map V.int)) rs ps
theorem PoolsL.same {K:PySem.W.Frag} {H H':Hp} {rs:List Addr} {ps:List (List Int)} (h:PoolsL K H rs ps) (s:Same H H'):PoolsL K H' rs ps:=Paired.mapP h fun _ _ q=>s.seq q
theorem PoolsL.at {K:PySem.W.Frag} {H:Hp} {rs:List Addr} {ps:List (List Int)} (h:PoolsL K H rs ps) {i:Nat} {p:List Int} (e:ps[i]?=some p):∃r,rs[i]?=some r/\SqL K H r (p.map V.int):=cH (F:=fun(r:Addr) (p:List Int)=>SqL K H r (p.map V.int)) h e
theorem PoolsL.len {K:PySem.W.Frag} {H:Hp} {rs:List Addr} {ps:List (List Int)} (h:PoolsL K H rs ps):rs.length=ps.length:=Paired.length h
theorem dG {α β:Type} {F:α->β->Prop}:∀{l:List α} {r:List β},l.length=r.length->(∀(i:Nat) a b,l[i]?=some a->r[i]?=some b->F a b)->Paired F l r:=by
 intro l
 induction l with
 | nil=>
  intro r h f
  cases r with
  | nil=>exact .nil
  | cons b r=>cases h
 | cons a l ih=>
  intro r h f
  cases r with
  | nil=>cases h
  | cons b r=>exact .cons (f 0 a b rfl rfl) (ih (Nat.succ.inj h) fun i x y e1 e2=>f (i+1) x y e1 e2)
theorem pO (b:Int) (bs:List Int):yM (.int b) (bs.map V.int)=decide (b∈bs):=by
 unfold yM
 induction bs with
 | nil=>rfl
 | cons c r ih=>
  rw[Bd,List.any_cons,ih]
  by_cases h:c=b
  ·subst h;simp[pK]
  ·have h':¬b=c:=fun z=>h z.symm
   simp[pK,h,h']
theorem m4 (bs:List Int):(bs.map V.int).all c0=true:=by
 rw[As]
 intro x hx
 obtain⟨i,_,e⟩:=AI.mp hx
 rw[<- e];rfl
theorem m5 {G:Nat->Addr->Prop}:∀{l:List Nat} {vs:List V},Paired (fun i v=>∃r,v= .ref r/\G i r) l vs->∃rs:List Addr,vs=rs.map V.ref/\Paired G l rs:=by
 intro l vs h
 induction h with
 | nil=>exact⟨[],rfl,.nil⟩
 | cons q t ih=>
  obtain⟨r,e,g⟩:=q
  obtain⟨rs,e2,p⟩:=ih
  exact⟨r :: rs,by rw[e,e2];rfl,.cons g p⟩
theorem oE {K:PySem.W.Frag} {H1:Hp} {js:List (Option Nat)} {σ:L2.St} {te:TE} {Q:VK} {a:Addr} {xs:List V} (f:Nat->List V) (hl:SqL K H1 a xs) (hn:xs.length<100000)
  (he:∀(i:Nat) x,xs[i]?=some x->∀H2 R,Same H1 H2->(∀r H3,Same H2 H3->H2 r=none->H3 r=some (.lst (f i))->R (.ref r) H3)->te (some x :: bV σ js) H2 R)
  (hQ:∀acc (rs:List Addr) H',Same H1 H'->H1 acc=none->H' acc=some (.lst (rs.map V.ref))->rs.length=xs.length->(∀(i:Nat) r,rs[i]?=some r->H' r=some (.lst (f i))/\H1 r=none)->(∀r∈rs,r≠acc)->Q (.ref acc) H'):
  cv (oo K a) H1 (none :: js) (bD 0) fC te σ Q:=
 qC (K:=K) (H1:=H1) (js:=js) (σ:=σ) (tc:=fC) (te:=te) (Q:=Q) (a:=a) (xs:=xs) (fun _=>true) (fun acc i v H=>∃r,v= .ref r/\r≠acc/\H1 r=none/\H r=some (.lst (f i))) hl hn
  (fun acc i v H H' ⟨r,e,n,h0,h⟩ s=>⟨r,e,n,h0,s r _ n h⟩) (fun _ _ _ _ _ _ h=>h)
  (fun acc i x hx _ H2 R s n1 n2 k=>he i x hx H2 R s fun r H3 s3 nr h3=>k _ H3 s3 ⟨r,rfl,fun z=>n2 (by rw[<- z];exact nr),s.free nr,h3⟩)
  fun acc vs H' s n' e p=>by
   rw[AG.mpr (fun _ _=>rfl)]at p
   obtain⟨rs,e2,p2⟩:=m5 p
   have ln:rs.length=xs.length:=by rw[<- Paired.length p2,AD]
   have all:∀(i:Nat) r,rs[i]?=some r->r≠acc/\H1 r=none/\H' r=some (.lst (f i)):=fun i r hi=>by
    obtain⟨j,hj,g⟩:=cH p2 hi
    have lt:i<xs.length:=by rw[<- ln];exact(Ac.mp hi).1
    rw[AN lt]at hj
    cases hj
    exact g
   refine hQ acc rs H' s n' (by rw[e,e2]) ln (fun i r hi=>⟨(all i r hi).2.2,(all i r hi).2.1⟩) fun r hr=>?_
   obtain⟨i,hi,ei⟩:=Ap.mp hr
   exact(all i r (by rw[Aa hi,ei])).1
abbrev jg (xs:List Nat):Prop:=xs.Pairwise (· < ·)
structure CutAt (xs:Array Nat) (j p:Nat):Prop where
 le:p<=xs.size
 lo:∀i (h:i<xs.size),i<p->xs[i]<j
 hi:∀i (h:i<xs.size),p<=i->j<=xs[i]
theorem gy {xs:Array Nat} (r:jg xs.toList) {i k:Nat} (hi:i<xs.size) (hk:k<xs.size) (h:i<k):xs[i]<xs[k]:=by
 have:=Bj.mp r i k (by simpa using hi) (by simpa using hk) h
 simpa using this
theorem sC {xs:Array Nat} (r:jg xs.toList) (j:Nat):∀(f lo hi:Nat),hi-lo<=f->lo<=hi->hi<=xs.size->(∀i (h:i<xs.size),i<lo->xs[i]<j)->(∀i (h:i<xs.size),hi<=i->j<=xs[i])->CutAt xs j (SetTable.below.go xs j f lo hi):=by
 intro f
 induction f with
 | zero=>
  intro lo hi hf hl hs h1 h2
  have e:hi=lo:=by omega
  subst e
  exact⟨hs,h1,h2⟩
 | succ f ih=>
  intro lo hi hf hl hs h1 h2
  unfold SetTable.below.go
  by_cases hlt:lo<hi
  ·rw [if_pos hlt]
   have hm:(lo+hi)/2<xs.size:=by omega
   have eg:xs.getD ((lo+hi)/2) j=xs[(lo+hi)/2]:=by simp[hm]
   dsimp only
   rw[eg]
   by_cases hc:xs[(lo+hi)/2]<j
   ·rw [if_pos hc]
    refine ih _ _ (by omega) (by omega) hs (fun i h hi'=>?_) h2
    by_cases e:i=(lo+hi)/2
    ·subst e;exact hc
    ·exact Nat.lt_trans (gy r h hm (by omega)) hc
   ·rw [if_neg hc]
    refine ih _ _ (by omega) (by omega) (by omega) h1 fun i h hi'=>?_
    by_cases e:i=(lo+hi)/2
    ·subst e;omega
    ·have:=gy r hm h (by omega)
     omega
  ·rw [if_neg hlt]
   have e:hi=lo:=by omega
   subst e
   exact⟨hs,h1,h2⟩
theorem kF {xs:Array Nat} (r:jg xs.toList) (j:Nat):CutAt xs j (SetTable.below xs j):=
 sC r j xs.size 0 xs.size (by omega) (Az _) (Af _) (fun i _ h=>by omega) fun i h h'=>by omega
theorem CutAt.unique {xs:Array Nat} {j p q:Nat} (a:CutAt xs j p) (b:CutAt xs j q):p=q:=by
 rcases Nat.lt_trichotomy p q with h | h | h
 ·have hp:p<xs.size:=AB h b.le
  have:=b.lo p hp h
  have:=a.hi p hp (Af _)
  omega
 ·exact h
 ·have hq:q<xs.size:=AB h a.le
  have:=a.lo q hq h
  have:=b.hi q hq (Af _)
  omega
theorem m7 {xs:Array Nat} {j:Nat} (r:jg xs.toList) (hn:xs[SetTable.below xs j]?≠some j):jg (SetTable.insertAt xs (SetTable.below xs j) j).toList:=by
 have c:=kF r j
 generalize SetTable.below xs j=p at hn c
 have e:(SetTable.insertAt xs p j).toList=xs.toList.take p++j :: xs.toList.drop p:=by
  unfold SetTable.insertAt
  simp[Array.toList_append,BZ,List.extract_eq_take_drop]
  exact A7 (by simp)
 rw[e]
 refine List.pairwise_append.mpr ⟨r.sublist (List.take_sublist _ _),List.pairwise_cons.mpr ⟨fun x hx=>?_,r.sublist (List.drop_sublist _ _)⟩,fun x hx y hy=>?_⟩
 ·obtain⟨i,hi,ei⟩:=Ap.mp hx
  rw[Bk,Aj]at hi
  rw[List.getElem_drop,Bw]at ei
  have h1:=c.hi (p+i) (by omega) (by omega)
  rw[ei]at h1
  by_cases z:x=j
  ·exfalso
   have hp:p<xs.size:=by omega
   have h2:=c.hi p hp (Af _)
   have h3:xs[p]<=xs[p+i]:=by
    by_cases i0:i=0
    ·subst i0;exact Af _
    ·exact A5 (gy r hp (by omega) (by omega))
   have h4:xs[p]=j:=by rw[ei,z]at h3;omega
   exact hn (by rw[AW hp,h4])
  ·omega
 ·obtain⟨i,hi,ei⟩:=Ap.mp hx
  rw[A6,Aj]at hi
  rw[B0,Bw]at ei
  have h1:=c.lo i (by omega) (by omega)
  rw[ei]at h1
  rcases Al.mp hy with z | z
  ·omega
  ·obtain⟨k,hk,ek⟩:=Ap.mp z
   rw[Bk,Aj]at hk
   rw[List.getElem_drop,Bw]at ek
   have h2:=c.hi (p+k) (by omega) (by omega)
   omega
theorem kG {t:SetTable} {j:Nat} (h:t.slot j= .empty\/t.slot j= .dummy):t.place[SetTable.below t.place j]?≠some j:=by
 intro z
 have e:t.slot j= .live (SetTable.below t.place j):=by
  unfold SetTable.slot
  dsimp only
  rw[z]
  simp
 rw[e]at h
 rcases h with h | h<;>cases h
theorem oF {t:SetTable} {hh:Nat->Int} {h:Int}:∀(f:Nat) (p:SetTable.Probe) (j:Nat) (d:Option Nat),(∀x,p.dummy=some x->t.slot x= .dummy)->SetTable.probe.go t hh h f p=some (.empty j d)->t.slot j= .empty/\∀x,d=some x->t.slot x= .dummy:=by
 intro f
 induction f with
 | zero=>intro p j d _ e;unfold SetTable.probe.go at e;cases e
 | succ f ih=>
  intro p j d hp e
  unfold SetTable.probe.go at e
  have adv:∀q:SetTable.Probe,(t.advance q).dummy=q.dummy:=fun q=>by
   unfold SetTable.advance
   split<;>rfl
  cases hs:t.slot p.j with
  | empty=>
   rw[hs]at e
   cases e
   exact⟨hs,hp⟩
  | dummy=>
   rw[hs]at e
   refine ih _ j d (fun x hx=>?_) e
   rw[adv]at hx
   cases hx
   exact hs
  | live i=>
   rw[hs]at e
   dsimp only at e
   split at e
   ·cases e
   ·refine ih _ j d (fun x hx=>?_) e
    rw[adv]at hx
    exact hp x hx
theorem jR {t:SetTable} {h:Int} {j:Nat} {b:Bool} (e:t.freeSlot h=some (j,b)):t.place[SetTable.below t.place j]?≠some j:=by
 unfold SetTable.freeSlot at e
 split at e
 ·rename_i j' d hm
  have:=oF (t:=t) (h:=h) _ _ j' d (fun x hx=>by cases hx) hm
  have e':=Option.some.inj e
  cases d with
  | none=>
   have:j'=j:=by have:=congrArg Prod.fst e';simpa using this
   subst this
   exact kG (.inl this.1)
  | some x=>
   have hx:x=j:=by have:=congrArg Prod.fst e';simpa using this
   subst hx
   exact kG (.inr (this.2 x rfl))
 ·cases e
structure TabK (led:Bool) (t:SetTable):Prop where
 led:t.led=led
 rise:t.plain=true->jg t.place.toList
theorem c7 {led:Bool} {t:SetTable} (h:t.led=led) (n:Nat):TabK led (t.standIn n):=⟨h,fun z=>by cases z⟩
theorem jS {led:Bool} {t:SetTable} (h:TabK led t) (n:Nat):TabK led (t.orStandIn n):=by
 unfold SetTable.orStandIn
 split
 ·exact h
 ·exact c7 h.led n
theorem oG {led:Bool} {t:SetTable} (h:TabK led t) (es:Array (Int×Value)) (hh:Int) (x:Value):TabK led (layNew t es hh x).2.1:=by
 unfold layNew
 cases e:t.freeSlot hh with
 | none=>exact c7 h.led _
 | some q=>
  obtain⟨j,b⟩:=q
  refine jS (t:=(t.put j).1) ⟨h.led,fun z=>?_⟩ _
  exact m7 (h.rise z) (jR e)
theorem kH {mask finger moves:Nat} {led plain:Bool} {hs:Array Int} {t:SetTable} {o:Array Nat} (e:SetTable.laid mask finger moves led plain hs=some (t,o)):t.led=led/\jg t.place.toList:=by
 unfold SetTable.laid at e
 obtain⟨ow,_,e2⟩:=Option.bind_eq_some_iff.mp e
 have e2:=Option.some.inj e2
 have ht:=congrArg Prod.fst e2
 dsimp only at ht
 rw[<- ht]
 refine⟨rfl,?_⟩
 show List.Pairwise (fun a b=>a<b) (List.map (fun x:Nat×Nat=>x.1) _)
 rw[List.pairwise_map]
 refine List.pairwise_filterMap.mpr ?_
 refine List.Pairwise.imp ?_ List.pairwise_lt_range
 intro a b hab x hx y hy
 obtain⟨u,_,eu⟩:=An.mp hx
 obtain⟨v,_,ev⟩:=An.mp hy
 rw[<- eu,<- ev]
 exact hab
theorem lJ {led:Bool} {t:SetTable} (h:TabK led t) (es:Array (Int×Value)) (n:Nat):TabK led (relayAll t es n).2.1:=by
 unfold relayAll
 cases e:t.relaid (es.map (·.1)) n with
 | none=>exact c7 h.led _
 | some q=>
  obtain⟨t',o⟩:=q
  dsimp only
  split
  ·have:=kH e
   exact⟨this.1.trans h.led,fun _=>this.2⟩
  ·exact c7 h.led _
abbrev bJ (w:World):Bool:=w.params.followText "set-order"
def Ents (es:List (Int×Value)) (ks:List Int):Prop:=Paired (fun(e:Int×Value) (k:Int)=>∃t,e=(hashInt k,Value.int k t)) es ks
structure SetIn (w:World) (o:Obj) (es:Array (Int×Value)) (ep:Nat) (t:SetTable) (ks:List Int):Prop where
 ex:o.ExactSet
 da:o.data= .set es ep t
 en:Ents es.toList ks
 nd:ks.Nodup
 sz:ks.length<4000
 ft:t.fits es.size=true
 tb:TabK (!bJ w) t
def SX (w:World) (a:Addr) (ms:List Int):Heap->Prop:=fun h=>∃o es ep t ks,h.get? a=some o/\SetIn w o es ep t ks/\ks.Perm ms
theorem SX.at {w:World} {a:Addr} {ms:List Int} {h h':Heap} (x:SX w a ms h) (k:∀o,h.get? a=some o->h'.get? a=some o):SX w a ms h':=by
 obtain⟨o,es,ep,t,ks,e,r⟩:=x
 exact⟨o,es,ep,t,ks,k o e,r⟩
theorem SX.lt {w:World} {a:Addr} {ms:List Int} {h:Heap} (x:SX w a ms h):a<h.objs.size:=by
 obtain⟨o,es,ep,t,ks,e,r⟩:=x
 exact Heap.lt_size e
theorem SX.perm {w:World} {a:Addr} {ms ns:List Int} {h:Heap} (x:SX w a ms h) (p:ms.Perm ns):SX w a ns h:=by
 obtain⟨o,es,ep,t,ks,e,r,q⟩:=x
 exact⟨o,es,ep,t,ks,e,r,q.trans p⟩
theorem Ents.mem:∀{es:List (Int×Value)} {ks:List Int},Ents es ks->∀{e:Int×Value},e∈es->∃k t,k∈ks/\e=(hashInt k,Value.int k t):=by
 intro es ks h e
 unfold Ents at h
 induction h with
 | nil=>intro h;cases h
 | cons q r ih=>
  intro h
  obtain⟨t,q⟩:=q
  rcases Al.mp h with z | z
  ·exact⟨_,t,Ay,z.trans q⟩
  ·obtain⟨k,t,m,q⟩:=ih z
   exact⟨k,t,Av _ m,q⟩
theorem Ents.elems {P:Program} {w:World} {es:List (Int×Value)} {ks:List Int} (h:Ents es ks):ElemsOf (intKind P w) es:=fun e he=>by
 obtain⟨k,t,_,q⟩:=h.mem he
 subst q
 exact⟨⟨k,intKind_is P w k t,rfl⟩,rfl⟩
theorem Ents.len {es:List (Int×Value)} {ks:List Int} (h:Ents es ks):es.length=ks.length:=Paired.length h
theorem Ents.perm {es es':List (Int×Value)} (p:es'.Perm es):∀{ks:List Int},Ents es ks->∃ks',Ents es' ks'/\ks'.Perm ks:=by
 induction p with
 | nil=>intro ks h;cases h;exact⟨[],.nil,.nil⟩
 | cons x _ ih=>
  intro ks h
  cases h with
  | cons q r=>
   obtain⟨ks',a,b⟩:=ih r
   exact⟨_ :: ks',.cons q a,b.cons _⟩
 | swap x y l=>
  intro ks h
  cases h with
  | cons q r=>
   cases r with
   | cons q' r=>exact⟨_ :: _ :: _,.cons q' (.cons q r),.swap _ _ _⟩
 | trans _ _ ih1 ih2=>
  intro ks h
  obtain⟨k2,a,b⟩:=ih2 h
  obtain⟨k3,c,d⟩:=ih1 a
  exact⟨k3,c,d.trans b⟩
theorem kI (k j:Int) (t:Tok):Value.isInt k (.int j t)=decide (k=j):=by
 by_cases h:k=j
 ·subst h;simp[Value.isInt]
 ·simp [Value.isInt,h]
  exact fun z=>h z.symm
theorem Ents.find {P:Program} {w:World} {k:Int}:∀{es:List (Int×Value)} {ks:List Int},Ents es ks->(es.findIdx? (fun e=>(intKind P w).is k e.2)).isSome=decide (k∈ks):=by
 intro es ks h
 unfold Ents at h
 induction h with
 | nil=>rfl
 | @cons a j es ks q r ih=>
  obtain⟨t,q⟩:=q
  subst q
  rw[List.findIdx?_cons]
  have e:(intKind P w).is k (hashInt j,Value.int j t).2=decide (k=j):=kI k j t
  rw[e]
  by_cases h:k=j
  ·subst h;simp
  ·simp [h,ih]
section
variable {P:Program} {w:World} {A:Around} {E:Value->Shared->Prop} {s:Shared} {a:Addr} {ms ks:List Int} {o:Obj} {es:Array (Int×Value)} {ep:Nat} {t:SetTable}
theorem SetIn.bound (h:SetIn w o es ep t ks):es.size<scanBound:=by
 have:es.size=ks.length:=by rw[<- h.en.len,Aj]
 have:=h.sz
 have e:scanBound=4096:=rfl
 omega
theorem SetIn.size (h:SetIn w o es ep t ks):es.size=ks.length:=by rw[<- h.en.len,Aj]
theorem oH {es':Array (Int×Value)} {t':SetTable} {ks':List Int} (ho:s.heap.get? a=some o) (h:SetIn w o es ep t ks) (en:Ents es'.toList ks') (nd:ks'.Nodup) (sz:ks'.length<4000) (ft:t'.fits es'.size=true) (tb:TabK (!bJ w) t'):
  ∃o',(s.heap.update a (Obj.putSet es' t')).get? a=some o'/\SetIn w o' es' (ep+1) t' ks':=by
 have g:=Heap.get?_update_self (Obj.putSet es' t') ho (by rw[putSet_of es' t' h.da];rfl)
 rw[putSet_of es' t' h.da]at g
 exact⟨_,g,⟨h.ex,rfl,en,nd,sz,ft,tb⟩⟩
theorem pP {g:Bool->Sem Unit} {Q:Unit->Shared->Prop} (hg:∀b,g b=match b with | true=>rule "set.scan.the-table-gave-way" | false=>pure ()) (b:Bool) {s:Shared} (h:Q () s):wpAny (model P w) A (g b) Q E s:=by
 rw[hg b]
 cases b with
 | true=>exact wpAny_rule h
 | false=>exact wpAny_pure h
theorem w6 {x:Int} {tk:Tok} {Q:Bool->Shared->Prop} (ho:s.heap.get? a=some o) (hs:SetIn w o es ep t ks) (hl:ks.length+1<4000)
  (h1:x∈ks->Q false s) (h2:x∉ks->∀h',Heap.SameBut a s.heap h'->SX w a (ks++[x]) h'->Q true {s with heap:=h'}):wpAny (model P w) A (setAddHashed a (.int x tk) (hashInt x)) Q E s:=by
 have hel:=hs.en.elems (P:=P) (w:=w)
 have hky:(intKind P w).is x (.int x tk)=true:=intKind_is P w x tk
 unfold setAddHashed setAddHashedIn
 refine wpAny_holding (wpAny_bind (wpAny_setState_of ho hs.da hs.ft ?_))
 dsimp only
 rw[byScan_of (knd:=intKind P w) rfl hs.bound hel,if_pos rfl]
 refine wpAny_bind ?_
 unfold setAddByScan
 refine wpAny_bind (wpAny_rule (wpAny_bind (wpAny_setScan_of (knd:=intKind P w) (k:=x) hky ho hs.da hs.ft hel ?_)))
 have fd:=hs.en.find (P:=P) (w:=w) (k:=x)
 cases hr:List.findIdx? (fun e=>(intKind P w).is x e.2) es.toList with
 | some j=>
  rw[hr]at fd
  exact wpAny_pure (wpAny_pure (h1 (of_decide_eq_true fd.symm)))
 | none=>
  rw[hr]at fd
  have hx:x∉ks:=of_decide_eq_false fd.symm
  have p1:=layNew_perm t es (hashInt x) (Value.int x tk)
  have f1:=layNew_fits t es (hashInt x) (Value.int x tk)
  have t1:=oG hs.tb es (hashInt x) (Value.int x tk)
  generalize layNew t es (hashInt x) (Value.int x tk)=L at p1 f1 t1 ⊢
  obtain⟨e1,u1,wasD,gave⟩:=L
  dsimp only at p1 f1 t1 ⊢
  rw[BZ]at p1
  obtain⟨k1,n1,q1⟩:=Ents.perm p1 (ks:=ks++[x]) (Paired.snoc hs.en ⟨tk,rfl⟩)
  have nd1:k1.Nodup:=q1.nodup_iff.mpr (pM hs.nd hx)
  have l1:k1.length<4000:=by rw[q1.length_eq,Ai,Aq];exact hl
  have b1:e1.size<=sizeLine:=by
   have:e1.size=k1.length:=by rw[<- n1.len,Aj]
   exact AC (by omega) (A5 (oi (n:=99999) (by omega)))
  refine wpAny_bind (pP (fun b=>by cases b<;>rfl) gave ?_)
  have tail:∀u2:SetTable,u2.fits e1.size=true->TabK (!bJ w) u2->∀R:Option Bool->Shared->Prop,(∀h',Heap.SameBut a s.heap h'->SX w a (ks++[x]) h'->R (some true) {s with heap:=h'})->∀g:Bool->Sem Unit,(∀b,g b=match b with | true=>rule "set.scan.the-table-gave-way" | false=>pure ())->
    wpAny (model P w) A (do
     storeSet a e1 u2
     if(!wasD&&u2.tooFull)=true then
      let(es,t,gave):=relayAll u2 e1 (SetTable.grown e1.size)
      g gave
      storeSet a es t
     return some true) R E s:=by
   intro u2 f2 t2 R hR g hg
   refine wpAny_bind (wpAny_storeSet_of ho hs.da ?_ b1)
   obtain⟨o',ho',hs'⟩:=oH (s:=s) ho hs n1 nd1 l1 f2 t2
   have sb1:=Heap.SameBut.update s.heap a (Obj.putSet e1 u2)
   by_cases hc:(!wasD&&u2.tooFull)=true
   ·rw [if_pos hc]
    have p3:=relayAll_perm u2 e1 (SetTable.grown e1.size)
    have f3:=relayAll_fits u2 e1 (SetTable.grown e1.size)
    have t3:=lJ t2 e1 (SetTable.grown e1.size)
    generalize relayAll u2 e1 (SetTable.grown e1.size)=L at p3 f3 t3 ⊢
    obtain⟨e3,u3,gave3⟩:=L
    dsimp only at p3 f3 t3 ⊢
    obtain⟨k3,n3,q3⟩:=Ents.perm p3 n1
    have z3:e3.size=e1.size:=by rw[<- Aj,p3.length_eq,Aj]
    refine wpAny_bind (pP hg gave3 ?_)
    refine wpAny_bind (wpAny_storeSet_of ho' hs'.da ?_ (by rw[z3];exact b1))
    obtain⟨o3,ho3,hs3⟩:=oH (s:={s with heap:=s.heap.update a (Obj.putSet e1 u2)}) ho' hs' n3 (q3.nodup_iff.mpr nd1) (by rw[q3.length_eq];exact l1) f3 t3
    exact wpAny_pure (hR _ (sb1.trans (Heap.SameBut.update _ a _)) ⟨o3,e3,_,u3,k3,ho3,hs3,q3.trans q1⟩)
   ·rw [if_neg hc]
    exact wpAny_pure (hR _ sb1 ⟨o',e1,_,u2,k1,ho',hs',q1⟩)
  by_cases hp:u1.plain=true
  ·rw [if_pos hp]
   refine wpAny_bind ?_
   rw[hashByValue_scannable 8 (x:=Value.int x tk) rfl]
   refine wpAny_pure ?_
   refine tail u1 f1 t1 _ (fun h' sb sx=>?_) _ (fun b=>by cases b<;>rfl)
   exact wpAny_pure (h2 hx h' sb sx)
  ·rw [if_neg hp]
   refine wpAny_bind (wpAny_pure ?_)
   refine tail u1 f1 t1 _ (fun h' sb sx=>?_) _ (fun b=>by cases b<;>rfl)
   exact wpAny_pure (h2 hx h' sb sx)
end
theorem bx:Slot "set_iterator" "__next__" "set_iterator.__next__":= .of (owner:="set_iterator") (n:="__next__") (by rw[typeLookup_type,builtinLookup_eq_fast];kernel_rfl) (by decide +kernel) (by decide +kernel) (by decide +kernel) (.inl (by decide +kernel)) (by rw[isSubtype_type];kernel_rfl)
theorem fF:entryFor table "set_iterator.__next__"=some Builtin.«set_iterator.__next__»:=entryFor_of_tree (by kernel_rfl)
theorem gA (a:Value):argsOk "set_iterator.__next__" ⟨[a],[]⟩:=by unfold argsOk;kernel_rfl
theorem gB:Slot "set_iterator" "__iter__" "set_iterator.__iter__":= .of (owner:="set_iterator") (n:="__iter__") (by rw[typeLookup_type,builtinLookup_eq_fast];kernel_rfl) (by decide +kernel) (by decide +kernel) (by decide +kernel) (.inl (by decide +kernel)) (by rw[isSubtype_type];kernel_rfl)
theorem jT:entryFor table "set_iterator.__iter__"=some Builtin.«dict_keyiterator.__iter__»:=entryFor_alias (id':="dict_keyiterator.__iter__") (by kernel_rfl) rfl (by decide +kernel) (by kernel_rfl)
theorem lK (a:Value):argsOk "set_iterator.__iter__" ⟨[a],[]⟩:=by unfold argsOk;kernel_rfl
theorem jh:entryFor table "set.__iter__"=some Builtin.«frozenset.__iter__»:=entryFor_alias (id':="frozenset.__iter__") (by kernel_rfl) rfl (by decide +kernel) (by kernel_rfl)
theorem ji {α:Type} {l:List α} {i:Nat} {x:α} (h:l[i]?=some x):l.Perm (x :: l.eraseIdx i):=by
 induction l generalizing i with
 | nil=>simp at h
 | cons y r ih=>
  cases i with
  | zero=>simp at h;subst h;simp
  | succ i=>
   simp at h
   exact((ih h).cons y).trans (.swap _ _ _)
theorem u6 {α:Type} (next:Nat->Nat) (f k:Nat) (left:List α) (out:Array α) (h:left.length=f):(pickOrder.go next f k left out).toList.Perm (out.toList++left):=by
 induction f generalizing k left out with
 | zero=>
  have:left=[]:=AA.mp h
  subst this
  unfold pickOrder.go
  simp
 | succ f ih=>
  unfold pickOrder.go
  have hp:0<left.length:=by omega
  have hl:=B1 (next k) hp
  rw[Aa hl]
  dsimp only
  refine(ih (k+1) _ _ (by rw[BY hl];omega)).trans ?_
  rw[BZ,List.append_assoc]
  exact(ji (Aa hl)).symm.append_left _
theorem g9 {α:Type} (next:Nat->Nat) (xs:Array α):(pickOrder next xs).toList.Perm xs.toList:=by
 have:=u6 next xs.size 0 xs.toList #[] (by simp)
 unfold pickOrder
 simpa using this
section
variable {M:Model} {A:Around} {E:Value->Shared->Prop} {s:Shared}
theorem oI {src:Source} {n:Nat} {Q:Nat->Shared->Prop} (hn:n≠0) (h:∀i d,i<n->Q i {s with drawn:=d}):wpAny M A (choose src n) Q E s:=fun Γ p _=>by
 show Sem.wp M Γ (.choose src n .pure) _ _ p s
 rw[Sem.wp_choose]
 exact⟨hn,h _ _ (B1 _ (Nat.pos_of_ne_zero hn))⟩
theorem oJ {α:Type}:∀(n:Nat) (xs:List α) (s:Shared) (Q:List α->Shared->Prop),xs.length=n->(∀ys d,ys.Perm xs->Q ys {s with drawn:=d})->wpAny M A (drawOrder n xs) Q E s:=by
 intro n
 induction n with
 | zero=>
  intro xs s Q hl h
  have:xs=[]:=AA.mp hl
  subst this
  unfold drawOrder
  exact wpAny_pure (h [] s.drawn (.refl _))
 | succ n ih=>
  intro xs s Q hl h
  cases xs with
  | nil=>cases hl
  | cons x r=>
   unfold drawOrder
   refine wpAny_bind (oI (by simp) fun i d hi=>?_)
   rw[Aa hi]
   dsimp only
   refine wpAny_bind (ih _ _ _ (by rw[BY hi,hl];rfl) fun ys d' hp=>wpAny_pure ?_)
   exact h _ d' ((hp.cons _).trans (ji (Aa hi)).symm)
end
abbrev iJ (h:Heap) (I:Addr) (first:Value) (i:Nat) (S:Addr) (n ep:Nat):Prop:=
 h.get? I=some {cls:= .type "set_iterator",dict:=none,data:= .fields #[first,.int i 0,.ref S,.int n 0,.int ep 0],slots:=#[]}
section
variable {P:Program} {w:World} {A:Around} {E:Value->Shared->Prop} {s:Shared} {I S:Addr} {ks:List Int} {o:Obj} {es:Array (Int×Value)} {ep i:Nat} {t:SetTable} {first:Value}
theorem pQ {Q:Value->Shared->Prop} {n:Nat} (hit:iJ s.heap I first i S n ep) (h:Q (.ref I) s):wpAny (model P w) A (pyIter (.ref I)) Q E s:=by
 have hT:s.TypeIs (.ref I) "set_iterator":=⟨_,hit,rfl⟩
 refine wpAny_pyIter_slot hT gB (wpAny_call_entry gB hT jT ?_ (lK _))
 show wpAny _ _ (ret (.ref I)) _ _ s
 exact wpAny_pure ⟨_,rfl,"set_iterator",_,hT,bx.lookup,h⟩
theorem kJ {A':Around} {R:Fin->Shared->Prop} {Q:Option Value->Shared->Prop} (hh:A'.handled=none) (h:∀h',(∀b o,s.heap.get? b=some o->h'.get? b=some o)->Q none {s with heap:=h'}):
  wpAny (model P w) A' (do let e <- newExc (.type "StopIteration") [];raiseNew e) R (fun e s'=>wpAny (model P w) A (do let b <- isInstance e (.type "StopIteration");if b=true then pure none else throw e) Q E s') s:=by
 refine wpAny_bind ?_
 simp only[newExc,newTuple]
 refine wpAny_bind (wpAny_newObj_type ?_ (by size_fits))
 refine wpAny_bind (m:=firstArgMember _ _) (wpAny_of_eq (a:=Value.none) (by first | rfl | (simp only[firstArgMember];rfl)) ?_)
 refine wpAny_newObj_type ?_ (by size_fits)
 simp only[raiseNew]
 refine wpAny_bind (wpAny_handled ?_)
 rw[hh]
 refine wpAny_bind (wpAny_pure (wpAny_throw ?_))
 refine wpAny_bind (wpAny_isInstance (T:="StopIteration") (b:=true) ⟨_,Heap.get?_push_size _ rfl,rfl⟩ isSubtype_stop ?_)
 exact wpAny_pure (h _ fun b o e=>Heap.get?_push_of_some _ (Heap.get?_push_of_some _ e))
theorem pU {Q:Option Value->Shared->Prop} {slot:Nat} (hh:A.handled=none) (hit:iJ s.heap I (.int slot 0) i S es.size ep) (ho:s.heap.get? S=some o) (hs:SetIn w o es ep t ks) (r:Option (Value×Nat))
  (hr:∀(A':Around) (E':Value->Shared->Prop) (R:Option (Value×Nat)->Shared->Prop),R r s->wpAny (model P w) A' (setNext S slot i ep) R E' s)
  (h1:∀x nx h',r=some (x,nx)->iJ h' I (.int nx 0) (i+1) S es.size ep->Heap.SameBut I s.heap h'->Q (some x) {s with heap:=h'})
  (h2:∀h',r=none->(∀b o,b≠I->s.heap.get? b=some o->h'.get? b=some o)->Q none {s with heap:=h'}):wpAny (model P w) A (pyNext (.ref I)) Q E s:=by
 have hT:s.TypeIs (.ref I) "set_iterator":=⟨_,hit,rfl⟩
 unfold pyNext
 refine wpAny_bind (wpAny_attempt (wpAny_callSpecial?_slot (name:=Str.ofString "__next__") hT bx (wpAny_call_entry bx hT fF ?_ (gA _))))
 unfold Builtin.«set_iterator.__next__»
 refine wpAny_bind (wpAny_pure ?_)
 refine wpAny_bind (wpAny_fieldsOf hit rfl ?_)
 dsimp only
 refine wpAny_bind (wpAny_setEntries_of ho hs.da hs.ft ?_)
 rw[if_neg (by simp)]
 refine wpAny_bind (hr _ _ _ ?_)
 cases r with
 | none=>
  dsimp only
  refine wpAny_bind (wpAny_setField hit rfl (by simp) ?_)
  exact kJ (A:=A) (show A.in1.handled=none from hh) fun h' k=>h2 h' rfl fun b o hb e=>k b o ((Heap.get?_update_other _ _ (Ne.symm hb)).trans e)
 | some q=>
  obtain⟨x,nx⟩:=q
  dsimp only
  refine wpAny_bind (wpAny_setField_rec hit (by simp) fun ha ea sa=>?_)
  refine wpAny_bind (wpAny_setField_rec ea (by simp) fun hb eb sb=>wpAny_pure ⟨x,rfl,wpAny_pure (h1 x nx hb rfl ?_ (sa.trans sb))⟩)
  have e:((i+1:Nat):Int)=(i:Int)+1:=by omega
  unfold iJ
  rw[e]
  simpa [rawInt]using eb
theorem fG {Q:Option Value->Shared->Prop} {T:Addr} {ps:List Nat} {m:Nat} (hh:A.handled=none) (hit:iJ s.heap I (.ref T) i S es.size ep) (hT2:s.heap.get? T=some {cls:= .type "tuple",data:= .seq (ps.map fun(p:Nat)=>rawInt p).toArray m})
  (ho:s.heap.get? S=some o) (hs:SetIn w o es ep t ks) (hp:∀p∈ps,p<es.size)
  (h1:∀p h',ps[i]?=some p->iJ h' I (.ref T) (i+1) S es.size ep->Heap.SameBut I s.heap h'->Q (es[p]?.map (·.2)) {s with heap:=h'})
  (h2:∀h',ps[i]?=none->(∀b o,b≠I->s.heap.get? b=some o->h'.get? b=some o)->Q none {s with heap:=h'}):wpAny (model P w) A (pyNext (.ref I)) Q E s:=by
 have hT:s.TypeIs (.ref I) "set_iterator":=⟨_,hit,rfl⟩
 unfold pyNext
 refine wpAny_bind (wpAny_attempt (wpAny_callSpecial?_slot (name:=Str.ofString "__next__") hT bx (wpAny_call_entry bx hT fF ?_ (gA _))))
 unfold Builtin.«set_iterator.__next__»
 refine wpAny_bind (wpAny_pure ?_)
 refine wpAny_bind (wpAny_fieldsOf hit rfl ?_)
 dsimp only
 refine wpAny_bind (wpAny_setEntries_of ho hs.da hs.ft ?_)
 rw[if_neg (by simp)]
 refine wpAny_bind (wpAny_seqItems hT2 rfl ?_)
 dsimp only
 have eq:(ps.map fun(p:Nat)=>rawInt p).toArray[(i:Int).toNat]?=(ps[i]?).map fun(p:Nat)=>rawInt p:=by
  rw[AF,List.getElem?_toArray,Ae]
 rw[eq]
 cases hpi:ps[i]? with
 | none=>
  dsimp only[Option.map_none]
  refine wpAny_bind (wpAny_setField_rec hit (by simp) fun ha ea sa=>?_)
  refine wpAny_bind (wpAny_setField ea rfl (by simp) ?_)
  refine kJ (A:=A) (show A.in1.handled=none from hh) fun h' k=>h2 h' hpi fun b o hb e=>k b o ?_
  exact(Heap.get?_update_other _ _ (Ne.symm hb)).trans ((sa.2 b hb).trans e)
 | some p=>
  have hlt:p<es.size:=hp p (Ah hpi)
  have key:=h1 p
  rw[AW hlt]at key
  dsimp only[Option.map_some,rawInt]
  unfold setNextDrawn
  refine wpAny_bind (wpAny_bind (wpAny_setState_of ho hs.da hs.ft ?_))
  dsimp only
  rw[if_neg (by simp),AF,AW hlt]
  refine wpAny_pure ?_
  refine wpAny_bind (wpAny_setField_rec hit (by simp) fun ha ea sa=>wpAny_pure ⟨_,rfl,wpAny_pure (key ha hpi ?_ sa)⟩)
  have e:((i+1:Nat):Int)=(i:Int)+1:=by omega
  unfold iJ
  rw[e]
  simpa [rawInt]using ea
end
section
variable {P:Program} {w:World} {A:Around} {E:Value->Shared->Prop} {s:Shared} {I S:Addr} {ks:List Int} {o:Obj} {es:Array (Int×Value)} {ep i:Nat} {t:SetTable}
def SetAt (w:World) (S:Addr) (es:Array (Int×Value)) (ep:Nat) (t:SetTable) (ks:List Int) (h:Heap):Prop:=∃o,h.get? S=some o/\SetIn w o es ep t ks
theorem SetAt.at {h h':Heap} (x:SetAt w S es ep t ks h) (k:∀o,h.get? S=some o->h'.get? S=some o):SetAt w S es ep t ks h':=let⟨o,e,r⟩:=x;⟨o,k o e,r⟩
abbrev yO (vs:List Int):Nat->Value->Prop:=fun i v=>∃t,v= .int (vs.getD i 0) t
theorem pV {l:List (Int×Value)} {vs:List Int} (h:Ents l vs) {i:Nat} {e:Int×Value} (hi:l[i]?=some e):∃tk,e.2=Value.int (vs.getD i 0) tk:=by
 have hl:i<vs.length:=by rw[<- h.len];exact(Ac.mp hi).1
 obtain⟨a,ha,q⟩:=cH h (Aa hl)
 rw[hi]at ha
 cases ha
 obtain⟨tk,q⟩:=q
 exact⟨tk,by rw[q];simp[hl]⟩
theorem jj (hh:A.handled=none) (hne:S≠I) (ord:List (Int×Value)) (vs:List Int) (f:Nat->Nat) (hv:Ents ord vs) (hl:ord.length=es.size)
  (hr:∀(i:Nat) (s:Shared),i<=es.size->SetAt w S es ep t ks s.heap->∀(A':Around) (E':Value->Shared->Prop) (R:Option (Value×Nat)->Shared->Prop),R ((ord[i]?).map fun e=>(e.2,f (i+1))) s->wpAny (model P w) A' (setNext S (f i) i ep) R E' s):
  Walks P w A I [I,S] [I] es.size (yO vs) (fun i h=>iJ h I (.int (f i) 0) i S es.size ep/\SetAt w S es ep t ks h) where
 sub:=fun b hb=>by simp at hb;simp[hb]
 frame:=fun i h h' st k=>⟨k I (by simp) _ st.1,st.2.at fun o e=>k S (by simp) o e⟩
 item:=fun i s Q E hi st hQ=>by
  obtain⟨o,ho,hs⟩:=id st.2
  obtain⟨e,he⟩:∃e,ord[i]?=some e:=⟨_,Aa (by omega)⟩
  refine pU hh st.1 ho hs _ (hr i s (by omega) st.2) (fun x nx h' e2 it' sb=>?_) fun h' e2 _=>by rw[he]at e2;cases e2
  rw[he]at e2
  have e3:=Option.some.inj e2
  have hx:e.2=x:=congrArg Prod.fst e3
  have hn:f (i+1)=nx:=congrArg Prod.snd e3
  subst hx hn
  exact hQ _ h' s.toks (pV hv he) ⟨it',st.2.at fun o e=>(sb.2 S hne).trans e⟩ fun b o hb e=>(sb.2 b (by simpa using hb)).trans e
 done:=fun s Q E st hQ=>by
  obtain⟨o,ho,hs⟩:=id st.2
  have he:ord[es.size]?=none:=AY (by omega)
  refine pU hh st.1 ho hs _ (hr _ s (Af _) st.2) (fun x nx h' e2 it' sb=>by rw[he]at e2;cases e2) fun h' _ k=>?_
  exact hQ h' s.toks fun b o hb e=>k b o (by simpa using hb) e
 self:=fun i s Q E st h=>pQ st.1 h
theorem w8 {n:Nat} (h:n<=5000):n<=sizeLine:=AC h (A5 (oi (n:=5000) (by omega)))
theorem w9 (ps:List Nat) (hp:∀p∈ps,p<es.size):ps.filterMap (es[·]?)=ps.map fun q=>es.getD q (0,.none):=by
 induction ps with
 | nil=>rfl
 | cons q r ih=>
  have hq:=hp q (by simp)
  rw[Bg,AW hq]
  dsimp only
  rw[ih (fun x hx=>hp x (Av _ hx)),Bd]
  simp[hq]
theorem m9 {T:Addr} (hh:A.handled=none) (hne:S≠I) (hT:T≠I) (ps:List Nat) (vs:List Int) (hv:Ents (ps.filterMap (es[·]?)) vs) (hp:∀p∈ps,p<es.size) (hl:ps.length=es.size):
  Walks P w A I [I,S,T] [I] es.size (yO vs) (fun i h=>iJ h I (.ref T) i S es.size ep/\SetAt w S es ep t ks h/\h.get? T=some {cls:= .type "tuple",data:= .seq (ps.map fun(p:Nat)=>rawInt p).toArray}) where
 sub:=fun b hb=>by simp at hb;simp[hb]
 frame:=fun i h h' st k=>⟨k I (by simp) _ st.1,st.2.1.at fun o e=>k S (by simp) o e,k T (by simp) _ st.2.2⟩
 item:=fun i s Q E hi st hQ=>by
  obtain⟨o,ho,hs⟩:=id st.2.1
  refine fG hh st.1 st.2.2 ho hs hp (fun p h' e2 it' sb=>?_) fun h' e2 _=>?_
  ·have hlt:=hp p (Ah e2)
   rw[AW hlt]
   have e4:(ps.filterMap (es[·]?))[i]?=some es[p]:=by
    have:=w9 ps hp
    rw[this,Ae,e2]
    simp[hlt]
   exact hQ _ h' s.toks (pV hv e4) ⟨it',st.2.1.at fun o e=>(sb.2 S hne).trans e,(sb.2 T hT).trans st.2.2⟩ fun b o hb e=>(sb.2 b (by simpa using hb)).trans e
  ·rw [Aa (by omega)]at e2
   cases e2
 done:=fun s Q E st hQ=>by
  obtain⟨o,ho,hs⟩:=id st.2.1
  refine fG hh st.1 st.2.2 ho hs hp (fun p h' e2 it' sb=>?_) fun h' _ k=>?_
  ·rw [AY (by omega)]at e2
   cases e2
  ·exact hQ h' s.toks fun b o hb e=>k b o (by simpa using hb) e
 self:=fun i s Q E st h=>pQ st.1 h
theorem oK {l:List Nat} (h:l.length<=1):jg l:=by
 match l,h with
 | [],_=>exact .nil
 | [x],_=>exact Bz _ _
def hE (t:SetTable):Nat->Nat
 | 0=>0
 | i+1=>t.place.getD i 0+1
theorem sD {t:SetTable} (r:jg t.place.toList) {i:Nat} (hi:i<=t.place.size):SetTable.below t.place (hE t i)=i:=by
 refine(kF r _).unique ⟨hi,fun k hk hlt=>?_,fun k hk hge=>?_⟩
 ·cases i with
  | zero=>omega
  | succ i=>
   have hi':i<t.place.size:=by omega
   have e:t.place.getD i 0=t.place[i]:=by simp[hi']
   show t.place[k]<t.place.getD i 0+1
   rw[e]
   by_cases z:k=i
   ·subst z;omega
   ·have:=gy r hk hi' (by omega)
    omega
 ·cases i with
  | zero=>exact Az _
  | succ i=>
   have hi':i<t.place.size:=by omega
   have e:t.place.getD i 0=t.place[i]:=by simp[hi']
   show t.place.getD i 0+1<=t.place[k]
   rw[e]
   exact gy r hi' hk (by omega)
theorem hU (h:t.fits es.size=true):t.place.size=es.size:=by
 simp only[SetTable.fits,Bx,beq_iff_eq,decide_eq_true_eq]at h
 exact h.1
theorem gC {Q:Array (Int×Value)->Shared->Prop} (bt:bJ w=true) (ho:s.heap.get? S=some o) (hs:SetIn w o es ep t ks) (h:Q (pickOrder (w.params.setOrder S ep) es) s):wpAny (model P w) A (setWalk S) Q E s:=by
 unfold setWalk setsByText
 refine wpAny_bind (wpAny_setState_of ho hs.da hs.ft ?_)
 dsimp only
 refine wpAny_bind (wpAny_bind (wpAny_askSetting (wpAny_pure ?_)))
 have bt':(model P w).w.params.followText "set-order"=true:=bt
 rw[bt',if_pos rfl]
 exact wpAny_bind (wpAny_askSetting (wpAny_pure h))
theorem qD {slot:Nat} {Q:Option (Value×Nat)->Shared->Prop} (bt:bJ w=true) (ho:s.heap.get? S=some o) (hs:SetIn w o es ep t ks)
  (h:Q (((pickOrder (w.params.setOrder S ep) es).toList[i]?).map fun e=>(e.2,slot)) s):wpAny (model P w) A (setNext S slot i ep) Q E s:=by
 unfold setNext
 refine wpAny_bind (wpAny_setState_of ho hs.da hs.ft ?_)
 dsimp only
 refine wpAny_bind ?_
 unfold setsByText
 refine wpAny_bind (wpAny_askSetting (wpAny_pure ?_))
 have bt':(model P w).w.params.followText "set-order"=true:=bt
 rw[bt',if_pos rfl,if_neg (by simp)]
 refine wpAny_bind (gC bt ho hs (wpAny_pure ?_))
 rw[<- BF]
 exact h
theorem oM {Q:Option (Value×Nat)->Shared->Prop} (bt:bJ w=false) (ho:s.heap.get? S=some o) (hs:SetIn w o es ep t ks) (hd:(!t.plain&&decide (es.size>1))=false) (hi:i<=es.size)
  (h:Q ((es.toList[i]?).map fun e=>(e.2,hE t (i+1))) s):wpAny (model P w) A (setNext S (hE t i) i ep) Q E s:=by
 have zs:=hU hs.ft
 have r:jg t.place.toList:=by
  by_cases hp:t.plain=true
  ·exact hs.tb.rise hp
  ·refine oK ?_
   have:t.plain=false:=by simpa using hp
   rw[this]at hd
   simp at hd
   rw[Aj,zs];exact hd
 have ld:t.led=true:=by rw[hs.tb.led,bt];rfl
 unfold setNext
 refine wpAny_bind (wpAny_setState_of ho hs.da hs.ft ?_)
 dsimp only
 refine wpAny_bind ?_
 unfold setsByText
 refine wpAny_bind (wpAny_askSetting (wpAny_pure ?_))
 have bt':(model P w).w.params.followText "set-order"=false:=bt
 rw[bt',if_neg Ag]
 show wpAny _ _ (if(!t.plain&&decide (es.size>1))=true then _ else _) _ _ _
 rw[hd,if_neg Ag]
 show wpAny _ _ ((if(!t.led&& !es.isEmpty)=true then unsupported "set:maker-not-led" else pure ()) >>= fun _=>pure _) _ _ _
 rw[ld]
 refine wpAny_bind (wpAny_pure (wpAny_pure ?_))
 rw[sD r (by omega)]
 by_cases hlt:i<es.size
 ·have hp:i<t.place.size:=by omega
  rw[AW hlt,AW hp]
  rw[BF,AW hlt]at h
  have e:hE t (i+1)=t.place[i]+1:=by
   show t.place.getD i 0+1=_
   simp[hp]
  rw[e]at h
  exact h
 ·rw [Array.getElem?_eq_none (by omega)]
  rw[BF,Array.getElem?_eq_none (by omega)]at h
  exact h
theorem sE {Q:Value->Shared->Prop} (hS:SetAt w S es ep t ks s.heap)
  (h:∀(I:Addr) (fp:List Addr) (vs:List Int) (St:Nat->Heap->Prop) (s':Shared),vs.Perm ks->(∀A':Around,A'.handled=none->Walks P w A' I fp [I] es.size (yO vs) St)->St 0 s'.heap->(∀b∈fp,b<s'.heap.objs.size/\(b=S\/s.heap.objs.size<=b))->s.heap.objs.size<=I->
   (∀b o,s.heap.get? b=some o->s'.heap.get? b=some o)->s'.os=s.os->s'.gens=s.gens->Q (.ref I) s'):wpAny (model P w) A (pyIter (.ref S)) Q E s:=by
 obtain⟨o,ho,hs⟩:=id hS
 have hT:s.TypeIs (.ref S) "set":=⟨o,ho,hs.ex.1⟩
 have hSl:S<s.heap.objs.size:=Heap.lt_size ho
 refine wpAny_pyIter_slot hT F.slot_set_iter (wpAny_call_entry F.slot_set_iter hT jh ?_ (F.args_set_iter_1 _))
 unfold Builtin.«frozenset.__iter__»
 refine wpAny_bind (wpAny_bind (wpAny_pure (wpAny_pure ?_)))
 unfold Builtin.Frozenset.sizeOf
 refine wpAny_bind (wpAny_bind (wpAny_setEntries_of ho hs.da hs.ft (wpAny_pure ?_)))
 refine wpAny_bind (wpAny_bind (wpAny_setState_of ho hs.da hs.ft ?_))
 dsimp only
 unfold setsByText
 refine wpAny_bind (wpAny_bind (wpAny_askSetting (wpAny_pure (wpAny_pure ?_))))
 show wpAny _ _ (if(!bJ w&&(!t.plain&&decide (es.size>1)))=true then(drawOrder es.size (Ad es.size) >>= fun l=>newTuple (l.map fun(i:Nat)=>rawInt i) >>= fun first=>_)else(pure (rawInt 0) >>= fun first=>_)) _ _ _
 cases bt:bJ w with
 | true=>
  simp only[Bool.not_true,Ao,AR,if_false]
  refine wpAny_bind (wpAny_pure ?_)
  refine wpAny_bind (wpAny_setEpoch_of ho hs.da hs.ft ?_)
  refine wpAny_bind (wpAny_newObj_type (wpAny_pure ⟨_,rfl,"set_iterator",_,⟨_,Heap.get?_push_size _ rfl,rfl⟩,bx.lookup,?_⟩))
  obtain⟨vs,hv,hp⟩:=Ents.perm (g9 (w.params.setOrder S ep) es) hs.en
  refine h s.heap.objs.size [s.heap.objs.size,S] vs (fun i h=>iJ h s.heap.objs.size (.int 0 0) i S es.size ep/\SetAt w S es ep t ks h) _ hp (fun A' hA'=>jj (f:=fun _=>0) hA' (Ar hSl) _ vs hv ?_ (fun i s' hi st A2 E2 R hR=>?_))
   ⟨Heap.get?_push_size _ rfl,hS.at fun o e=>Heap.get?_push_of_some _ e⟩ (fun b hb=>?_) (Af _) (fun b o e=>Heap.get?_push_of_some _ e) rfl rfl
  ·have:=(g9 (w.params.setOrder S ep) es).length_eq
   rw[this,Aj]
  ·obtain⟨o',ho',hs'⟩:=st
   exact qD bt ho' hs' hR
  ·rw [Heap.size_push]
   simp only[Al,AK,or_false]at hb
   rcases hb with e | e
   ·rw [e];exact⟨A1 _,.inr (Af _)⟩
   ·rw [e];exact⟨AX hSl,.inl rfl⟩
 | false=>
  simp only[Bool.not_false,Bool.true_and]
  cases hd:(!t.plain&&decide (es.size>1))with
  | false=>
   simp only[AR,if_false]
   refine wpAny_bind (wpAny_pure ?_)
   refine wpAny_bind (wpAny_setEpoch_of ho hs.da hs.ft ?_)
   refine wpAny_bind (wpAny_newObj_type (wpAny_pure ⟨_,rfl,"set_iterator",_,⟨_,Heap.get?_push_size _ rfl,rfl⟩,bx.lookup,?_⟩))
   refine h s.heap.objs.size [s.heap.objs.size,S] ks (fun i h=>iJ h s.heap.objs.size (.int (hE t i) 0) i S es.size ep/\SetAt w S es ep t ks h) _ (.refl _) (fun A' hA'=>jj (f:=hE t) hA' (Ar hSl) es.toList ks hs.en (by simp) (fun i s' hi st A2 E2 R hR=>?_))
    ⟨Heap.get?_push_size _ rfl,hS.at fun o e=>Heap.get?_push_of_some _ e⟩ (fun b hb=>?_) (Af _) (fun b o e=>Heap.get?_push_of_some _ e) rfl rfl
   ·obtain⟨o',ho',hs'⟩:=st
    exact oM bt ho' hs' hd hi hR
   ·rw [Heap.size_push]
    simp only[Al,AK,or_false]at hb
    rcases hb with e | e
    ·rw [e];exact⟨A1 _,.inr (Af _)⟩
    ·rw [e];exact⟨AX hSl,.inl rfl⟩
  | true=>
   simp only[if_true]
   refine wpAny_bind (oJ es.size (Ad es.size) s _ (by simp) fun ps d hp=>?_)
   have hlen:ps.length=es.size:=by rw[hp.length_eq,AD]
   have zb:=hs.bound
   have eb:scanBound=4096:=rfl
   refine wpAny_bind (wpAny_newTuple ?_ (by rw[zZ,hlen];exact w8 (by omega)))
   refine wpAny_bind (wpAny_setEpoch_of (Heap.get?_push_of_some _ ho) hs.da hs.ft ?_)
   refine wpAny_bind (wpAny_newObj_type (wpAny_pure ⟨_,rfl,"set_iterator",_,⟨_,Heap.get?_push_size _ rfl,rfl⟩,bx.lookup,?_⟩))
   have hpl:∀p∈ps,p<es.size:=fun p m=>AJ.mp (hp.mem_iff.mp m)
   have pe:(ps.filterMap (es[·]?)).Perm es.toList:=by
    have:=hp.filterMap (es[·]?)
    rw[filterMap_getElem?_range]at this
    exact this
   obtain⟨vs,hv,hq⟩:=Ents.perm pe hs.en
   have sz1:∀ob:Obj,(s.heap.push ob).objs.size=s.heap.objs.size+1:=fun ob=>Heap.size_push _ _
   have key:=h (s.heap.objs.size+1) [s.heap.objs.size+1,S,s.heap.objs.size] vs (fun i h=>iJ h (s.heap.objs.size+1) (.ref s.heap.objs.size) i S es.size ep/\SetAt w S es ep t ks h/\h.get? s.heap.objs.size=some {cls:= .type "tuple",data:= .seq (ps.map fun(p:Nat)=>rawInt p).toArray})
    {s with heap:=(s.heap.push {cls:= .type "tuple",data:= .seq (ps.map fun(p:Nat)=>rawInt p).toArray}).push {cls:= .type "set_iterator",data:= .fields #[.ref s.heap.objs.size,.int 0 0,.ref S,.int es.size 0,.int ep 0]},drawn:=d} hq (fun A' hA'=>m9 (t:=t) (ep:=ep) (ks:=ks) (T:=s.heap.objs.size) hA' (Ar (AX hSl)) (Ar (A1 _)) ps vs hv hpl hlen)
    ⟨?it,hS.at fun o e=>Heap.get?_push_of_some _ (Heap.get?_push_of_some _ e),Heap.get?_push_of_some _ (Heap.get?_push_size _ rfl)⟩ (fun b hb=>?fp) (B5 _) (fun b o e=>Heap.get?_push_of_some _ (Heap.get?_push_of_some _ e)) rfl rfl
   case it=>
    have:=Heap.get?_push_size (s.heap.push {cls:= .type "tuple",data:= .seq (ps.map fun(p:Nat)=>rawInt p).toArray}) (o:={cls:= .type "set_iterator",data:= .fields #[.ref s.heap.objs.size,.int 0 0,.ref S,.int es.size 0,.int ep 0]}) rfl
    rw[sz1]at this
    exact this
   case fp=>
    show b<((s.heap.push _).push _).objs.size/\_
    rw[Heap.size_push,Heap.size_push]
    simp only[Al,AK,or_false]at hb
    rcases hb with e | e | e
    ·rw [e];exact⟨A1 _,.inr (B5 _)⟩
    ·rw [e];exact⟨AX (AX hSl),.inl rfl⟩
    ·rw [e];exact⟨AX (A1 _),.inr (Af _)⟩
   rw[<- sz1 {cls:= .type "tuple",data:= .seq (ps.map fun(p:Nat)=>rawInt p).toArray}]at key
   exact key
end
section
variable {P:Program} {w:World} {A:Around} {E:Value->Shared->Prop} {s:Shared} {S:Addr} {ks ms:List Int} {o:Obj} {es:Array (Int×Value)} {ep i:Nat} {t:SetTable}
theorem sF {Q:Bool->Shared->Prop} (hT:s.TypeIs (.ref S) "set") (h:Q false s):wpAny (model P w) A (Builtin.List.listLengthHint (.ref S)) Q E s:=by
 unfold Builtin.List.listLengthHint
 refine wpAny_bind (wpAny_specialOf hT PySem.F.slot_set_len.lookup ?_)
 generalize hid:("set.__len__":String)=id0
 wp_delta
 rw[show splitId id0=some ("set","__len__")from by subst hid;decide +kernel]
 subst hid
 refine wpAny_bind (wpAny_isInstance (T:="set") (b:=true) hT (by rw[isSubtype_type];kernel_rfl) ?_)
 refine wpAny_ite_split (fun hab=>absurd hab (by decide)) (fun _=>?_)
 refine wpAny_ite_split (fun _=>?_) (fun hab=>absurd (by decide +kernel) hab)
 exact wpAny_bind (wpAny_typeOf hT (wpAny_pure h))
theorem oN {vs:List Int} {acc:Array Value} {n:Nat} (h:ItemsOf (yO vs) acc n) (hn:vs.length=n):IntsAre acc.toList vs:=by
 have all:∀(l:List Value) (vs:List Int),l.length=vs.length->(∀(j:Nat) v,l[j]?=some v->∃t,v=Value.int (vs.getD j 0) t)->IntsAre l vs:=by
  intro l
  induction l with
  | nil=>
   intro vs hl _
   have:vs=[]:=AA.mp (by simpa using hl.symm)
   subst this
   exact .nil
  | cons x r ih=>
   intro vs hl hv
   cases vs with
   | nil=>simp at hl
   | cons v vs=>
    obtain⟨t,e⟩:=hv 0 x rfl
    have e:x=Value.int v t:=e
    subst e
    exact .cons v t (ih vs (by simpa using hl) fun j y hj=>hv (j+1) y (by simpa using hj))
 exact all acc.toList vs (by rw[Aj,h.1,hn]) fun j v hj=>h.2 j v (by rw[<- BF];exact hj)
theorem ng {Q:List Value->Shared->Prop} (hh:A.handled=none) (hS:SetAt w S es ep t ks s.heap)
  (h:∀(vs:List Int) (l:List Value) (s':Shared),vs.Perm ks->IntsAre l vs->(∀b o,s.heap.get? b=some o->s'.heap.get? b=some o)->s'.os=s.os->s'.gens=s.gens->s.heap.objs.size<=s'.heap.objs.size->Q l s'):wpAny (model P w) A (collect (.ref S)) Q E s:=by
 obtain⟨o,ho,hs⟩:=id hS
 have hSl:S<s.heap.objs.size:=Heap.lt_size ho
 have hne:s.heap.objs.size≠S:=Bv hSl
 unfold collect
 refine wpAny_bind (wpAny_runValue (codeAny_builtin PySem.F.entry_proto_collect ?_))
 rw[Around.under_plainId PySem.F.plain_proto_collect _]
 show wpAny _ A.in1 (newList [] >>= fun l=>again (.builtin "list.__iadd__" ⟨[l,.ref S],[]⟩)) _ _ s
 refine wpAny_bind (wpAny_newObj_type ?_)
 refine wpAny_pure ⟨plainId_quiet PySem.F.plain_list_iadd _,codeAny_builtin PySem.F.entry_list_iadd ?_⟩
 rw[Around.under_plainId PySem.F.plain_list_iadd _]
 generalize hs1:({s with heap:=s.heap.push {cls:= .type "list",data:= .seq ([]:List Value).toArray}}:Shared)=s1
 have e1:s1.heap=s.heap.push {cls:= .type "list",data:= .seq ([]:List Value).toArray}:=by rw[<- hs1]
 have k1:∀b o,s.heap.get? b=some o->s1.heap.get? b=some o:=fun b o e=>by rw[e1];exact Heap.get?_push_of_some _ e
 have hL1:s1.heap.get? s.heap.objs.size=some {cls:= .type "list",data:= .seq ([]:List Value).toArray}:=by rw[e1];exact Heap.get?_push_size _ rfl
 have hS1:SetAt w S es ep t ks s1.heap:=hS.at (k1 S)
 have hT:∀s2:Shared,(∀b o,s1.heap.get? b=some o->s2.heap.get? b=some o)->s2.TypeIs (.ref S) "set":=fun s2 k=>⟨o,k _ _ (k1 _ _ ho),hs.ex.1⟩
 show wpAny _ A.in1 (Builtin.List.listExtendWith (.ref s.heap.objs.size) (.ref S) (.ref s.heap.objs.size)) _ _ _
 unfold Builtin.List.listExtendWith
 refine wpAny_bind (wpAny_typeOf (hT s1 fun _ _ e=>e) ?_)
 have g1:Builtin.List.listSameRef (.ref s.heap.objs.size) (.ref S)=false:=by simp[Builtin.List.listSameRef,hne]
 have g2:(Value.type "set"==Value.type "list")=false:=by decide
 have g3:(Value.type "set"==Value.type "tuple")=false:=by decide
 simp only[g1,g2,g3,Bool.or_false,AR,if_false]
 refine wpAny_bind (sE hS1 fun I fp vs St s2 hp W st hfp hI k2 os2 gs2=>?_)
 refine wpAny_bind (wpAny_holding (sF (hT s2 k2) ?_))
 show wpAny _ A.in1 (rule "list.extend.makes-room" >>= fun _=>Builtin.List.listTouch (.ref s.heap.objs.size) >>= fun _=>
  again (.builtin "list.extend.loop" ⟨[.ref s.heap.objs.size,.ref I,.ref s.heap.objs.size],[]⟩)) _ _ _
 refine wpAny_bind (wpAny_rule (wpAny_bind ?_))
 have hL2:=k2 _ _ hL1
 have lt1:s.heap.objs.size<s1.heap.objs.size:=by rw[e1,Heap.size_push];exact A1 _
 show wpAny _ A.in1 (updateSeq s.heap.objs.size (·.push .none) >>= fun _=>updateSeq s.heap.objs.size (·.pop)) _ _ _
 refine wpAny_bind (wpAny_updateSeq hL2 rfl ?_)
 have hL3:=Heap.get?_update_self (Obj.mapSeq (·.push Value.none)) hL2 rfl
 refine wpAny_updateSeq hL3 rfl ?_
 have hL4:=Heap.get?_update_self (Obj.mapSeq (·.pop)) hL3 rfl
 have W1:=W A.in1 (show A.handled=none from hh)
 have hSf:s.heap.objs.size∉fp:=fun m=>by
  rcases(hfp _ m).2 with z | z
  ·exact hne z
  ·exact absurd lt1 (BL.mpr z)
 have zb:=hs.bound
 have eb:scanBound=4096:=rfl
 have oth:∀b o,b≠s.heap.objs.size->s2.heap.get? b=some o->((s2.heap.update s.heap.objs.size (Obj.mapSeq (·.push Value.none))).update s.heap.objs.size (Obj.mapSeq (·.pop))).get? b=some o:=
  fun b o hb e=>(Heap.get?_update_other _ _ (Ne.symm hb)).trans ((Heap.get?_update_other _ _ (Ne.symm hb)).trans e)
 refine wpAny_pure ⟨plainId_quiet PySem.F.plain_extend_loop _,codeAny_extend_loopS W1.toS (w8 (by omega)) _ hSf _ es.size 0 _ _ _ rfl (Az _) (W1.frame 0 _ _ st fun b hb o e=>oth b o (fun z=>hSf (z▸hb)) e) hL4 (ItemsOf.nil _) fun s3 acc c hm hL5 hacc=>?_⟩
 show wpAny _ A (load s.heap.objs.size >>= _) _ _ s3
 refine wpAny_bind (wpAny_load hL5 ?_)
 refine wpAny_pure (h vs acc.toList s3 hp (oN hacc (by rw[hp.length_eq,hs.size])) (fun b o e=>?_) ?_ ?_ (A5 (Heap.lt_size hL5)))
 ·have hb:b≠s.heap.objs.size:=Ar (Heap.lt_size e)
  have e2:=k2 _ _ (k1 _ _ e)
  refine hm.heap b o (fun m=>?_) (oth b o hb e2)
  rcases Al.mp m with z | z
  ·exact hb z
  ·have z:b=I:=Am.mp z
   exact absurd (Heap.lt_size (k1 _ _ e)) (by rw[z];exact BL.mpr hI)
 ·have e2:s3.os=s2.os:=hm.os
  rw[e2,os2,<- hs1]
 ·have e2:s3.gens=s2.gens:=hm.gens
  rw[e2,gs2,<- hs1]
end
section
variable {P:Program} {w:World} {A:Around} {E:Value->Shared->Prop} {s:Shared} {S:Addr} {ks ms:List Int} {o:Obj} {es:Array (Int×Value)} {ep i:Nat} {t:SetTable}
theorem jU {Q:Value->Shared->Prop} (hh:A.handled=none) (hS:SetAt w S es ep t ks s.heap) (h64:ks.length<64)
  (h:∀(L:Addr) (out:Array Value) (ns:List Int) (e:Nat) (s':Shared),IntsAre out.toList ns->ns.Perm ks->ns.Pairwise (· <= ·)->s'.heap.get? L=some (seqObj "list" out e)->s.heap.objs.size<=L->(∀b o,s.heap.get? b=some o->s'.heap.get? b=some o)->s'.os=s.os->s'.gens=s.gens->Q (.ref L) s'):
  wpAny (model P w) A (call (.builtin "sorted") [.ref S]) Q E s:=by
 refine Calls.call_function_entry kind_sorted plain_sorted entry_sorted (args_sorted1 _) ?_
 unfold Builtin.«sorted»
 refine wpAny_bind (m:=checkCount "sorted" 1 1 _) (wpAny_pure ?_)
 refine wpAny_bind (ng (show A.in1.handled=none from hh) hS fun vs l s1 hp hI k1 os1 gs1 le1=>?_)
 have hl:l.length=vs.length:=IntsAre.length hI
 have hv:vs.length=ks.length:=hp.length_eq
 refine wpAny_bind (wpAny_newList ?_ (w8 (by omega)))
 have hoL:(s1.heap.push (seqObj "list" l.toArray 0)).get? s1.heap.objs.size=some (seqObj "list" l.toArray 0):=Heap.get?_push_size _ rfl
 refine wpAny_bind (wpAny_holding (wpAny_call_entry slot_list_sort ⟨_,hoL,rfl⟩ entry_list_sort (list_sort_tree (ns:=vs) hoL hI (by omega) fun out ns' a1 a2 a3=>⟨_,rfl,?_⟩) (args_list_sort _)))
 refine wpAny_pure ⟨_,rfl,?_⟩
 obtain⟨e,he⟩:=sortedHeap_at (out:=out) hoL
 have kp:∀b o,s.heap.get? b=some o->(sortedHeap (s1.heap.push (seqObj "list" l.toArray 0)) s1.heap.objs.size l out).get? b=some o:=fun b o eb=>by
  have e1:=k1 b o eb
  have lt:=Heap.lt_size e1
  rw[sortedHeap_old (Ar lt) (by rw[Heap.size_push];exact AX lt)]
  exact Heap.get?_push_of_some _ e1
 exact h s1.heap.objs.size out ns' e {s1 with heap:=sortedHeap (s1.heap.push (seqObj "list" l.toArray 0)) s1.heap.objs.size l out} a1 (a2.trans hp) a3 he le1 kp os1 gs1
theorem oO {Q:Value->Shared->Prop} (hS:SetAt w S es ep t ks s.heap) (h:∀tk n,Q (.int ks.length tk) {s with toks:=n}):wpAny (model P w) A (call (.builtin "len") [.ref S]) Q E s:=by
 obtain⟨o,ho,hs⟩:=hS
 have zb:=hs.bound
 have eb:scanBound=4096:=rfl
 have e:=hs.size
 refine call_len_set ho hs.ex hs.da hs.ft (by omega) ?_
 rw[e]
 exact h _ _
def cx (acc:List Int) (x:Int):List Int:=if x∈acc then acc else acc++[x]
def dd (ns:List Int):List Int:=ns.foldl cx []
theorem lL (ns:List Int) (x:Int):dd (ns++[x])=cx (dd ns) x:=by unfold dd;rw[List.foldl_append];rfl
theorem kK {acc:List Int} {x y:Int}:y∈cx acc x<->y∈acc\/y=x:=by
 unfold cx
 split
 ·rename_i h
  exact⟨.inl,fun z=>z.elim id fun e=>e▸h⟩
 ·simp
theorem nh:∀(ns acc:List Int) (y:Int),y∈ns.foldl cx acc<->y∈acc\/y∈ns
 | [],acc,y=>by simp
 | x :: r,acc,y=>by
  rw[B4,nh r,kK,Al,or_assoc]
theorem bP {ns:List Int} {y:Int}:y∈dd ns<->y∈ns:=by unfold dd;rw[nh];simp
theorem pW:∀(ns acc:List Int),acc.Nodup->(ns.foldl cx acc).Nodup
 | [],acc,h=>h
 | x :: r,acc,h=>by
  rw[B4]
  refine pW r _ ?_
  unfold cx
  split
  ·exact h
  ·rename_i hx;exact pM h hx
theorem kL (ns:List Int):(dd ns).Nodup:=pW ns [] BW
theorem bK (ns:List Int):(dd ns).length<=ns.length:=(kL ns).length_le_of_subset fun _ h=>bP.mp h
theorem oP {x:Int} {tk:Tok} {Q:Bool->Shared->Prop} (hS:SX w S ms s.heap) (hl:ms.length+1<4000)
  (h:∀b h',Heap.SameBut S s.heap h'->SX w S (cx ms x) h'->Q b {s with heap:=h'}):wpAny (model P w) A (setAddHashed S (.int x tk) (hashInt x)) Q E s:=by
 obtain⟨o,es,ep,t,ks,ho,hs,hp⟩:=hS
 refine w6 ho hs (by rw[hp.length_eq];exact hl) (fun hx=>?_) fun hx h' sb sx=>?_
 ·have e:cx ms x=ms:=if_pos (hp.mem_iff.mp hx)
  have:=h false s.heap (Heap.SameBut.refl _ _) (by rw[e];exact⟨o,es,ep,t,ks,ho,hs,hp⟩)
  exact this
 ·have e:cx ms x=ms++[x]:=if_neg fun z=>hx (hp.mem_iff.mpr z)
  exact h true h' sb (by rw[e];exact sx.perm (hp.append_right _))
theorem sG {I l:Addr} {items:Array Value} {ns:List Int} {R:Result->Shared->Prop} (hh:A.handled=none) (hne:l≠I) (hSI:S≠I) (hSl:S≠l) (hi:IntsAre items.toList ns) (hb:ns.length+1<4000):
  ∀(k i:Nat) (s:Shared),items.size-i=k->i<=items.size->s.heap.IsListIter I l i->s.heap.IsList l items->SX w S (dd (ns.take i)) s.heap->
   (∀s',(∀b o,b≠S->b≠I->s.heap.get? b=some o->s'.heap.get? b=some o)->s'.os=s.os->s'.gens=s.gens->s'.drawn=s.drawn->SX w S (dd ns) s'.heap->R (.ok (.ret .none)) s')->
   codeAny (model P w) A (.builtin "set.update.loop" ⟨[.ref S,.ref I],[]⟩) R s:=by
 have hsz:items.size=ns.length:=by rw[<- Aj];exact IntsAre.length hi
 intro k
 induction k with
 | zero=>
  intro i s hk hil it hl hS hR
  have e:i=items.size:=by omega
  subst e
  refine codeAny_builtin PyProof.Rows.F.entry_set_update_loop ?_
  rw[Around.under_plainId PyProof.Rows.F.plain_set_update_loop _]
  show wpAny _ A.in1 (pyNext (.ref I) >>= _) _ _ s
  refine wpAny_bind (wpAny_pyNext_list_end (show A.in1.handled=none from hh) it hl (by simp) fun h' eb=>?_)
  show wpAny _ A.in1 (ret Value.none) _ _ _
  refine wpAny_pure (hR _ (fun b o _ hb e=>eb b o hb e) rfl rfl rfl ?_)
  rw[A7 (by omega)]at hS
  exact hS.at fun o e=>eb S o hSI e
 | succ k ih=>
  intro i s hk hil it hl hS hR
  have hlt:i<items.size:=by omega
  have hin:i<ns.length:=by omega
  obtain⟨tk,hv⟩:=IntsAre.int_at hi i items[i] (by simp[hlt])
  have egd:ns.getD i 0=ns[i]:=by simp[hin]
  rw[egd]at hv
  refine codeAny_builtin PyProof.Rows.F.entry_set_update_loop ?_
  rw[Around.under_plainId PyProof.Rows.F.plain_set_update_loop _]
  show wpAny _ A.in1 (pyNext (.ref I) >>= _) _ _ s
  refine wpAny_bind (wpAny_pyNext_list_item it hl (x:=items[i]) (by simp[hlt]) fun h1 it1 sb1=>?_)
  rw[hv]
  show wpAny _ A.in1 (holding [Value.int ns[i] tk] (setAdd S (.int ns[i] tk)) >>= _) _ _ _
  refine wpAny_bind (wpAny_holding ?_)
  unfold setAdd
  refine wpAny_holding (wpAny_bind ((intKind P w).pyHash (k:=ns[i]) (intKind_is _ _ _ _) ?_))
  have hS1:SX w S (dd (ns.take i)) h1:=hS.at fun o e=>(sb1.2 S hSI).trans e
  have dl:=bK (ns.take i)
  rw[A6]at dl
  refine oP (s:={s with heap:=h1,toks:=s.toks+1}) hS1 (by omega) fun b h2 sb2 sx=>?_
  have e2:cx (dd (ns.take i)) ns[i]=dd (ns.take (i+1)):=by rw[List.take_succ_eq_append_getElem hin,lL]
  rw[e2]at sx
  have hl1:h1.IsList l items:=by obtain⟨o,e,r⟩:=hl;exact⟨o,(sb1.2 l hne).trans e,r⟩
  refine wpAny_pure ⟨plainId_quiet PyProof.Rows.F.plain_set_update_loop _,ih (i+1) _ (by omega) hlt ?_ ?_ sx fun s' kp os' gs' ds' sx'=>?_⟩
  ·obtain⟨o,e,r⟩:=it1
   exact⟨o,(sb2.2 I hSI.symm).trans e,r⟩
  ·obtain⟨o,e,r⟩:=hl1
   exact⟨o,(sb2.2 l hSl.symm).trans e,r⟩
  ·exact hR s' (fun b o h1' h2' e=>kp b o h1' h2' ((sb2.2 b h1').trans ((sb1.2 b h2').trans e))) os' gs' ds' sx'
end
end L2
set_option maxHeartbeats 3000000
namespace L2
open PySem PySem.Spec PyProof.Rows
section
variable {P:Program} {w:World} {A:Around} {E:Value->Shared->Prop} {s:Shared} {S:Addr} {ks ms:List Int}
def aJ (w:World):Obj:={cls:= .type "set",dict:=none,data:= .set #[] 0 (.fresh 0 0 (!bJ w))}
theorem kM {h:Heap} {a:Addr} (e:h.get? a=some (aJ w)):SX w a [] h:=
 ⟨_,#[],0,_,[],e,⟨⟨rfl,rfl,rfl⟩,rfl,.nil,BW,by decide,rfl,⟨rfl,fun _=> .nil⟩⟩,.refl _⟩
theorem u7 (a:Value) {Q:Value->Shared->Prop} (h:Q (.ref s.heap.objs.size) {s with heap:=s.heap.push (aJ w)}):
  codeAny (model P w) A (.call (.builtin "set.__new__") ⟨[.type "set",a],[]⟩) (wants Q E) s:=by
 refine codeAny_of_tree ?_
 show wpAny _ A.in1 (do checkBuiltinCall "set.__new__" ⟨[.type "set",a],[]⟩;again (.builtin "set.__new__" ⟨[.type "set",a],[]⟩)) _ _ s
 refine wpAny_bind (wpAny_of_eq (PySem.F.newCall_set_1 a) (wpAny_pure ⟨plainId_quiet PySem.F.plain_set_new _,codeAny_builtin PySem.F.entry_set_new ?_⟩))
 rw[Around.under_plainId PySem.F.plain_set_new _]
 unfold Builtin.«set.__new__» Builtin.Frozenset.newClass
 have hsub:=sub_set_self
 obtain⟨hp,g,d,tk,os⟩:=s
 dsimp only
 wp_walk
 refine wpAny_askSetting (wpAny_pure ?_)
 dsimp only
 simp only[newObj]
 exact wpAny_bind (wpAny_alloc (wpAny_pure (wpAny_pure h)))
theorem sH {l:Addr} {items:Array Value} {ns:List Int} {R:Result->Shared->Prop} (hh:A.handled=none) (ho:s.heap.get? S=some (aJ w)) (hl:s.heap.IsList l items) (hne:S≠l) (hi:IntsAre items.toList ns) (hb:ns.length+1<4000)
  (hR:∀s',(∀b o,b≠S->s.heap.get? b=some o->s'.heap.get? b=some o)->s'.os=s.os->s'.gens=s.gens->SX w S (dd ns) s'.heap->R (.ok (.ret .none)) s'):
  wpAny (model P w) A.in1 (Builtin.«set.__init__» ⟨[.ref S,.ref l],[]⟩)
   (fun fin s'=>match fin with | .done f=>R (.ok f) s' | .again c'=>c'.quiet=true/\codeAny (model P w) A c' R s') (fun e s'=>R (.error e) s') s:=by
 obtain⟨ol,hol,hcl,nl,hdl⟩:=id hl
 have hT:s.TypeIs (.ref S) "set":=⟨_,ho,rfl⟩
 have hTl:s.TypeIs (.ref l) "list":=⟨_,hol,hcl⟩
 have q1:=PySem.F.sub_list_set
 have q2:=PySem.F.sub_list_frozenset
 unfold Builtin.«set.__init__» noKeywords
 generalize hPI:Builtin.Frozenset.updateFrom=UF
 obtain⟨hp,g,d,tk,os⟩:=s
 unfold aJ at ho
 wp_walk
 subst hPI
 unfold Builtin.Frozenset.updateFrom Builtin.Frozenset.isAnySet
 refine wpAny_bind ?_
 show wpAny _ _ (isInstance (.ref l) (.type "set") >>= fun b=>_) _ _ _
 refine wpAny_bind (wpAny_isInstance hTl q1 ?_)
 show wpAny _ _ (isInstance (.ref l) (.type "frozenset")) _ _ _
 refine wpAny_isInstance hTl q2 ?_
 rw[if_neg Ag]
 refine wpAny_bind (wpAny_typeOf hTl ?_)
 rw[if_neg (by decide)]
 refine wpAny_bind (wpAny_pyIter_list hl ?_)
 refine wpAny_bind (wpAny_runValue ?_)
 have hSh:S<hp.objs.size:=Heap.lt_size ho
 have hlh:l<hp.objs.size:=Heap.lt_size hol
 refine sG (show A.in1.handled=none from hh) (Ar hlh) (Ar hSh) hne hi hb (items.size-0) 0 _ rfl (Az _) ⟨_,Heap.get?_push_size _ rfl,rfl,rfl⟩ ?_ ?_ fun s' kp os' gs' ds' sx=>?_
 ·exact⟨ol,Heap.get?_push_of_some _ hol,hcl,nl,hdl⟩
 ·rw [BG]
  exact kM (Heap.get?_push_of_some _ ho)
 ·refine wpAny_pure (wpAny_pure (hR s' (fun b o hbS e=>kp b o hbS (Ar (Heap.lt_size e)) (Heap.get?_push_of_some _ e)) os' gs' sx))
theorem ni {l:Addr} {items:Array Value} {ns:List Int} {Q:Value->Shared->Prop} (hh:A.handled=none) (hl:s.heap.IsList l items) (hi:IntsAre items.toList ns) (hb:ns.length+1<4000)
  (h:∀s',SX w s.heap.objs.size (dd ns) s'.heap->(∀b o,s.heap.get? b=some o->s'.heap.get? b=some o)->s'.os=s.os->s'.gens=s.gens->Q (.ref s.heap.objs.size) s'):wpAny (model P w) A (call (.type "set") [.ref l]) Q E s:=by
 obtain⟨c,tl,hmro⟩:=PySem.F.called_set.mro
 have hmade:=PySem.F.called_set.made
 have hsub:=PySem.F.called_set.sub
 have n1:=PySem.F.called_set.notType
 have n2:=PySem.F.called_set.canCreate
 have hct:=PySem.F.typeCall_set_1 (.ref l)
 refine wpAny_call (codeAny_of_tree ?_)
 show wpAny _ _ (callAny (.type "set") _) _ _ _
 refine wpAny_pure ⟨Code.quiet_builtin _ (by decide +kernel),codeAny_builtin PySem.F.entry_type_call ?_⟩
 rw[Around.under_plain (weight_type_call_type "set" [.ref l] []) rfl]
 repeat (any_goals (first | assumption | wp_step))
 refine codeAny_mono (u7 (E:=E) (Q:=fun v s1=>v= .ref s.heap.objs.size/\s1={s with heap:=s.heap.push (aJ w)}) (.ref l) ⟨rfl,rfl⟩) fun r s1 hr=>?_
 cases r with
 | error e=>exact hr
 | ok fl=>
  cases fl with
  | ret v=>
   obtain⟨e1,e2⟩:=hr
   subst e1 e2
   have hS:(s.heap.push (aJ w)).get? s.heap.objs.size=some (aJ w):=Heap.get?_push_size _ rfl
   have hT:Shared.TypeIs {s with heap:=s.heap.push (aJ w)} (.ref s.heap.objs.size) "set":=⟨_,hS,rfl⟩
   have hlu:=PySem.F.called_set.init.lookup
   have hbd:=PySem.F.called_set.init.bind (.ref s.heap.objs.size)
   repeat (any_goals (first | assumption | wp_step))
   refine codeAny_mono (codeAny_call_builtin (R:=wants (fun r s2=>r= .none/\Q (.ref s.heap.objs.size) s2) E) PySem.F.called_set.init.plain PySem.F.entry_set_init (check_set_init_1 hT ?_)) fun r2 s2 hr2=>?_
   ·obtain⟨ol,hol,hcl⟩:=id hl
    refine sH (A:=A.in1) (show A.in1.handled=none from hh) hS ⟨ol,Heap.get?_push_of_some _ hol,hcl⟩ (Bv (Heap.lt_size hol)) hi hb fun s' kp os' gs' sx=>⟨rfl,h s' sx (fun b o e=>kp b o (Ar (Heap.lt_size e)) (Heap.get?_push_of_some _ e)) os' gs'⟩
   ·cases r2 with
    | error e=>exact hr2
    | ok fl2=>
     cases fl2 with
     | ret v2=>
      obtain⟨e1,hq⟩:=hr2
      subst e1
      repeat (any_goals (first | assumption | wp_step))
     | _=>exact hr2.elim
  | _=>exact hr.elim
end
theorem SX.ok {P:Program} {w:World} {H:Hp} {h:Heap} {a:Addr} {ms:List Int} (x:SX w a ms h):ObjOk P w H h a (.ext (SX w a ms)):=
 ⟨x,by obtain⟨o,_,_,_,_,e,_⟩:=x;exact⟨o,e⟩,fun _ _ y k=>y.at k⟩
section
variable {X:Cx}
theorem Inv.new' {pins:List (Addr×Obj)} {σ:L2.St} {H:Hp} {s s':Shared} {a:Addr} {o:HO} (I:Inv X pins σ H s) (k:∀b u,s.heap.get? b=some u->s'.heap.get? b=some u) (hp:s.heap.objs.size<=a) (hos:s'.os=s.os) (hgs:s'.gens=s.gens)
  (new:ObjOk X.prog X.w (aG H a o) s'.heap a o):Inv X pins σ (aG H a o) s':=
 I.call' (ch:=[]) hos (Un.laid k hp (I.hok.fresh hp)) (I.hok.laid k hp new) (by rw[hgs];exact I.bare) fun b hb=>by cases hb
theorem gD {w:World} {a:Addr} {ms:List Int} {h:Heap} (x:SX w a ms h):∃es ep t ks,SetAt w a es ep t ks h/\ks.Perm ms:=by
 obtain⟨o,es,ep,t,ks,e,r,p⟩:=x
 exact⟨es,ep,t,ks,⟨o,e,r⟩,p⟩
theorem nj (w:World) (K:PySem.W.Frag) (hc:X.calm=true:=by rfl) (hw:X.w=w:=by rfl) (hK:X.K=K:=by rfl):cg X (.type "set") (fun xs H Q=>∃p ns,xs=[.ref p]/\SqL K H p (ns.map V.int)/\ns.length<3000/\
  ∀a,H a=none->Q (.ref a) (aG H a (.ext (SX w a (dd ns))))):=by
 subst hw hK
 intro pins s σ H xs us Q I r h
 obtain⟨p,ns,e,hq,hl,q⟩:=h
 subst e
 obtain⟨u,e,rx⟩:=dE r
 subst e
 cases rx
 obtain⟨its,rv,pl,hz⟩:=I.list hq
 refine ni (ns:=ns) (I.ok.hd hc) pl.isList (by simpa using oA rv) (by omega) fun s' sx kp os' gs'=>?_
 exact⟨.ref s.heap.objs.size,_,I.new' kp (Af _) os' gs' sx.ok,rfl,q _ I.fresh⟩
theorem jk (w:World) (hc:X.calm=true:=by rfl) (hw:X.w=w:=by rfl):cg X (.builtin "sorted") (fun xs H Q=>∃p ms,xs=[.ref p]/\H p=some (.ext (SX w p ms))/\ms.length<64/\
  ∀l (ks:List Int),H l=none->ks.Perm ms->ks.Pairwise (· <= ·)->Q (.ref l) (aG H l (.lst (ks.map V.int)))):=by
 subst hw
 intro pins s σ H xs us Q I r h
 obtain⟨p,ms,e,hp,hl,q⟩:=h
 subst e
 obtain⟨u,e,rx⟩:=dE r
 subst e
 cases rx
 obtain⟨sx,_⟩:=(show ObjOk X.prog X.w H s.heap p (.ext (SX X.w p ms))from I.hok p _ hp)
 obtain⟨es,ep,t,ks,sa,pm⟩:=gD sx
 refine jU (I.ok.hd hc) sa (by rw[pm.length_eq];exact hl) fun L out ns e s' hI hpm hs he le kp os' gs'=>?_
 refine⟨.ref L,_,I.new' kp le os' gs' (show ObjOk X.prog X.w _ _ _ (.lst (ns.map V.int))from⟨?_,out.toList,e,kz hI,?_⟩),rfl,q _ ns (I.hok.fresh le) (hpm.trans pm) hs⟩
 ·rw [zZ,hpm.length_eq,pm.length_eq];exact vP (by omega)
 ·simpa [seqObj]using he
theorem sI (w:World) (hw:X.w=w:=by rfl):cg X (.builtin "len") (fun xs H Q=>∃p ms,xs=[.ref p]/\H p=some (.ext (SX w p ms))/\Q (.int ms.length) H):=by
 subst hw
 intro pins s σ H xs us Q I r h
 obtain⟨p,ms,e,hp,q⟩:=h
 subst e
 obtain⟨u,e,rx⟩:=dE r
 subst e
 cases rx
 obtain⟨sx,_⟩:=(show ObjOk X.prog X.w H s.heap p (.ext (SX X.w p ms))from I.hok p _ hp)
 obtain⟨es,ep,t,ks,sa,pm⟩:=gD sx
 refine oO sa fun tk n=>⟨.int ms.length,H,I.tok n,⟨tk,?_⟩,q⟩
 rw[pm.length_eq]
end
end L2
namespace L2
end L2
namespace L2
open PySem PySem.Spec PyProof.Rows
def sJ (lo st:Int) (n:Nat):It:=⟨fun i _=>i<n,fun i H x H'=>H'=H/\x= .int (lo+i*st),fun i _=>n<=i⟩
theorem qE {P:Program} {w:World} {K:PySem.W.Frag} {tg:Expr} (it:Addr) (lo st:Int) (n:Nat):Turn P w K tg (sJ lo st n) [it] it (fun i h=>IsRangeIter h it (lo+(i:Nat)*st) ((n:Int)-(i:Nat)) st) where
 mem:=by simp
 obj:=fun i h sta b hb=>by
  have e:b=it:=by simpa using hb
  subst e
  exact⟨_,sta,fun v z=>by
   have z':Data.fields _=Data.cell v:=z
   cases z'⟩
 keep:=fun i h h' sta k=>k it (by simp) _ sta
 item:=by
  intro X hP hw hK hc i pins s σ H E I hf sta hg
  subst hP hw hK
  obtain⟨f0,f1,f2,f3,f4,f5⟩:=hf it (by simp)
  refine(Walks.range (prog:=X.prog) (w:=X.w) (I.ok.hd hc) it lo st n).item i s _ _ hg sta fun v h' tk hv sta' kk=>?_
  obtain⟨t,rfl⟩:=hv
  have I1:Inv X pins σ H {s with heap:=h',toks:=tk}:=I.turned (fun b o hb e=>kk b o (by simpa using hb) e) f0 f1 f3 f4 f5
  exact⟨_,rfl,mL (s:={s with heap:=h',toks:=tk}) (n:="range_iterator") sta' rfl rfl (by decide) ⟨.int (lo+i*st),H,I1,⟨t,rfl⟩,⟨rfl,rfl⟩,sta',fun b hb=>(hf b hb).1⟩⟩
 done:=by
  intro X hP hw hK hc i pins s σ H E I hf sta hg
  subst hP hw hK
  obtain⟨f0,f1,f2,f3,f4,f5⟩:=hf it (by simp)
  exact wpAny_pyNext_range_end (I.ok.hd hc) sta (by have:n<=i:=hg;omega) fun h' eb=>⟨rfl,I.turned (t':=s.toks) (fun b o hb e=>eb b o hb e) f0 f1 f3 f4 f5⟩
 self:=fun _ _ _ _ _ sta h=>wpAny_pyIter_rangeiter sta h
section
variable {X:Cx} {tg:Expr}
theorem sL {lo st:Int} {n:Nat} {g:TG} {tb:TS} {D:Ends} {σ:L2.St} {H:Hp} (Pv:Nat->L2.St->Hp->Prop) (h0:Pv 0 σ H)
  (hs:∀i σ H,i<n->Pv i σ H->g (.int (lo+i*st)) σ H fun σ2 H2=>tb {D with nx:=Pv (i+1),ct:=Pv (i+1),bk:=D.nx} σ2 H2) (hd:∀σ H,Pv n σ H->D.nx σ H):
  ∃W:Nat->Nat->L2.St->Hp->Prop,(∃m,W 0 m σ H)/\∀i m σ H,W i m σ H->
   ((sJ lo st n).stop i H/\D.nx σ H)\/((sJ lo st n).go i H/\∃N:L2.St->Hp->Prop,(∀σ' H',N σ' H'->∃m',m'<m/\W (i+1) m' σ' H')/\∀x H',(sJ lo st n).yld i H x H'->g x σ H' fun σ2 H2=>tb {D with nx:=N,ct:=N,bk:=D.nx} σ2 H2):=by
 refine⟨fun i m σ H=>m=n-i/\i<=n/\Pv i σ H,⟨n,by simp,Az _,h0⟩,?_⟩
 rintro i m σ H ⟨rfl,hi,p⟩
 by_cases hlt:i<n
 ·refine .inr ⟨hlt,Pv (i+1),fun σ' H' p'=>⟨n-(i+1),AZ _ _ hlt,rfl,hlt,p'⟩,fun x H' y=>?_⟩
  obtain⟨e,y⟩:=y
  subst e y
  exact hs i σ _ hlt p
 ·have e:i=n:=Bn hi (A9 hlt)
  subst e
  exact .inl ⟨Af _,hd σ H p⟩
end
section
variable {X:Cx} {pos:Pos}
end
theorem a9 {hs:List Int} {k:Nat} (h:k<hs.length):hs.getD k 0=hs[k]:=by simp[h]
theorem hX {hs:List (List Int)} {k:Nat} (h:k<hs.length):hs.getD k []=hs[k]:=by simp[h]
def rK (M:Nat):Nat->Nat->Nat
 | 0,i=>i
 | j+1,i=>rK M j ((i*5+1)%M)
def xa (M:Nat):Nat->Nat->List Nat
 | 0,_=>[]
 | n+1,i=>i :: xa M n ((i*5+1)%M)
theorem iR (M:Nat):∀(a b i:Nat),rK M (a+b) i=rK M b (rK M a i)
 | 0,b,i=>by rw[B2];rfl
 | a+1,b,i=>by
  have e:a+1+b=(a+b)+1:=by omega
  rw[e]
  show rK M (a+b) ((i*5+1)%M)=rK M b (rK M a ((i*5+1)%M))
  exact iR M a b _
theorem u9 (M:Nat) (n i t:Nat) (h:t∈xa M n i):∃b,b<n/\rK M b i=t:=by
 induction n generalizing i with
 | zero=>cases h
 | succ n ih=>
  rcases Al.mp h with e | e
  ·exact⟨0,Nat.succ_pos _,e.symm⟩
  ·obtain⟨b,hb,e⟩:=ih _ e
   exact⟨b+1,Nat.succ_lt_succ hb,e⟩
theorem pX (M:Nat):∀(n i:Nat),(xa M n i).length=n
 | 0,_=>rfl
 | n+1,i=>by rw[xa,Ba,pX M n]
theorem sM {M:Nat} (hM:0<M):∀(n i:Nat),i<M->∀t∈xa M n i,t<M
 | 0,_,_,t,h=>by cases h
 | n+1,i,hi,t,h=>by
  rcases Al.mp h with e | e
  ·omega
  ·exact sM hM n _ (B1 _ hM) t e
def vQ (M:Nat):Prop:=∀i,i<M->∀t,t<M->∃j,j<M/\rK M j i=t
theorem xb {M:Nat} (hM:0<M) (nd:(xa M M 0).Nodup) (h0:rK M M 0=0):vQ M:=by
 have all:∀t,t<M->∃b,b<M/\rK M b 0=t:=fun t ht=>by
  refine u9 M M 0 t (Decidable.byContradiction fun hn=>?_)
  have:(t :: xa M M 0).length<=(Ad M).length:=(BD.mpr ⟨hn,nd⟩).length_le_of_subset fun x hx=>by
   rw[AJ]
   rcases Al.mp hx with e | e
   ·omega
   ·exact sM hM M 0 hM x e
  rw[Ba,pX,AD]at this
  omega
 intro i hi t ht
 obtain⟨a,ha,ea⟩:=all i hi
 obtain⟨b,hb,eb⟩:=all t ht
 by_cases h:a<=b
 ·refine⟨b-a,by omega,?_⟩
  rw[<- ea,<- iR,<- eb]
  congr 1;omega
 ·refine⟨M+b-a,by omega,?_⟩
  rw[<- ea,<- iR]
  have e:a+(M+b-a)=M+b:=by omega
  rw[e,iR,h0,eb]
theorem hZ {M:Nat} (h:M∈[8,16,32,64,128,256]):vQ M:=by
 simp only[Al,AK,or_false]at h
 rcases h with e | e | e | e | e | e<;>subst e
 all_goals exact xb (by decide) (by decide +kernel) (by decide +kernel)
theorem fO:∀n,n<256->SetTable.sizeAbove n∈[8,16,32,64,128,256]/\n<SetTable.sizeAbove n:=by decide +kernel
def lp (mask:Nat):Nat->Nat×Nat->Nat×Nat
 | 0,x=>x
 | n+1,x=>lp mask n (SetTable.leap mask x.1 x.2)
theorem sN (mask:Nat):∀(a b:Nat) (x:Nat×Nat),lp mask (a+b) x=lp mask b (lp mask a x)
 | 0,b,x=>by rw[B2];rfl
 | a+1,b,x=>by
  have e:a+1+b=(a+b)+1:=by omega
  rw[e]
  exact sN mask a b _
theorem xc (mask:Nat) (n:Nat) (x:Nat×Nat):(lp mask n x).2=x.2/32^n:=by
 induction n generalizing x with
 | zero=>simp[lp]
 | succ n ih=>
  rw[lp,ih]
  show x.2/32/32^n=x.2/32^(n+1)
  rw[Nat.div_div_eq_div_mul,Nat.pow_succ,Nat.mul_comm]
theorem xf (mask:Nat) (n i p:Nat) (h:p<32):(lp mask n (i,p)).1=rK (mask+1) n i:=by
 induction n generalizing i p with
 | zero=>rfl
 | succ n ih=>
  have e:p/32=0:=Nat.div_eq_of_lt h
  have e2:SetTable.leap mask i p=((i*5+1)%(mask+1),0):=by unfold SetTable.leap;rw[e]
  rw[lp]
  show(lp mask n (SetTable.leap mask i p)).1=_
  rw[e2,ih _ 0 (by decide)]
  rfl
theorem vR (mask:Nat):∀(n:Nat) (x:Nat×Nat),x.1<mask+1->(lp mask n x).1<mask+1
 | 0,x,h=>h
 | n+1,x,h=>by
  rw[lp]
  exact vR mask n _ (B1 _ (by omega))
theorem sO (mask:Nat) (ow:Array (Option Nat)):∀(f n i p:Nat),n<f->(ow.getD (lp mask n (i,p)).1 (some 0)).isNone=true->∃j,SetTable.layClean.free mask ow f i p=some j:=by
 intro f
 induction f with
 | zero=>intro n i p h;cases h
 | succ f ih=>
  intro n i p h hn
  unfold SetTable.layClean.free
  cases hf:(Ad (SetTable.runEnd mask i+1-i)).find? (fun k=>(ow.getD (i+k) (some 0)).isNone)with
  | some k=>exact⟨i+k,rfl⟩
  | none=>
   dsimp only
   cases n with
   | zero=>
    exfalso
    rw[List.find?_eq_none]at hf
    have m:0∈Ad (SetTable.runEnd mask i+1-i):=by
     rw[AJ]
     unfold SetTable.runEnd
     split<;>omega
    exact hf 0 m hn
   | succ n=>exact ih n _ _ (Nat.lt_of_succ_lt_succ h) hn
theorem qF (mask:Nat) (ow:Array (Option Nat)) (f i p j:Nat) (h:SetTable.layClean.free mask ow f i p=some j):(ow.getD j (some 0)).isNone=true:=by
 induction f generalizing i p with
 | zero=>unfold SetTable.layClean.free at h;cases h
 | succ f ih=>
  unfold SetTable.layClean.free at h
  cases hf:(Ad (SetTable.runEnd mask i+1-i)).find? (fun k=>(ow.getD (i+k) (some 0)).isNone)with
  | some k=>
   rw[hf]at h
   have e:=Option.some.inj h
   rw[<- e]
   exact List.find?_some (p:=fun k=>(ow.getD (i+k) (some 0)).isNone) hf
  | none=>
   rw[hf]at h
   exact ih _ _ h
theorem va (h:Int):SetTable.bits h<2^64:=by
 unfold SetTable.bits
 have h1:=Bu h (show(2^64:Int)≠0 by decide)
 have h2:=Bs h (show(0:Int)<2^64 by decide)
 omega
theorem qG {mask:Nat} (c:vQ (mask+1)) (ow:Array (Option Nat)) (h:Int) {t:Nat} (ht:t<mask+1) (hn:(ow.getD t (some 0)).isNone=true):
  ∃j,SetTable.layClean.free mask ow (SetTable.turns mask) (SetTable.bits h%(mask+1)) (SetTable.bits h)=some j:=by
 have hi:(lp mask 12 (SetTable.bits h%(mask+1),SetTable.bits h)).1<mask+1:=vR mask 12 _ (B1 _ (by omega))
 have hp:(lp mask 12 (SetTable.bits h%(mask+1),SetTable.bits h)).2<32:=by
  rw[xc]
  have:=va h
  show SetTable.bits h/32^12<32
  omega
 obtain⟨j,hj,ej⟩:=c _ hi t ht
 refine sO mask ow _ (12+j) _ _ (by unfold SetTable.turns;omega) ?_
 rw[sN]
 generalize lp mask 12 (SetTable.bits h%(mask+1),SetTable.bits h)=x at hi hp ej
 obtain⟨a,b⟩:=x
 rw[xf mask j a b hp]
 dsimp only at ej
 rw[ej]
 exact hn
structure Ownd (mask:Nat) (ow:Array (Option Nat)) (k:Nat):Prop where
 sz:ow.size=mask+1
 pm:(ow.toList.filterMap id).Perm (Ad k)
theorem Ownd.gap {mask:Nat} {ow:Array (Option Nat)} {k:Nat} (o:Ownd mask ow k) (h:k<mask+1):∃t,t<mask+1/\(ow.getD t (some 0)).isNone=true:=by
 refine Decidable.byContradiction fun hn=>?_
 have all:∀a∈ow.toList,(id a).isSome=true:=fun a ha=>by
  obtain⟨t,ht,e⟩:=Ap.mp ha
  rw[Aj]at ht
  cases a with
  | some x=>rfl
  | none=>
   refine absurd ⟨t,by rw[<- o.sz];exact ht,?_⟩ hn
   have:ow.getD t (some 0)=none:=by
    rw[Bw]at e
    simp[B6,ht,e]
   rw[this];rfl
 have:=List.filterMap_length_eq_length.mpr all
 rw[o.pm.length_eq,AD,Aj,o.sz]at this
 omega
theorem Ownd.set {mask:Nat} {ow:Array (Option Nat)} {k j:Nat} (o:Ownd mask ow k) (h:(ow.getD j (some 0)).isNone=true):Ownd mask (ow.setIfInBounds j (some k)) (k+1) where
 sz:=by rw[Array.size_setIfInBounds];exact o.sz
 pm:=by
  have hj:j<ow.size:=by
   refine Decidable.byContradiction fun hn=>?_
   have:ow.getD j (some 0)=some 0:=by simp[B6,hn]
   rw[this]at h;cases h
  have e:ow.toList[j]'(by rw[Aj];exact hj)=none:=by
   have:ow.getD j (some 0)=ow[j]:=by simp[B6,hj]
   rw[this]at h
   rw[Bw]
   exact Option.isNone_iff_eq_none.mp h
  have hjl:j<ow.toList.length:=by rw[Aj];exact hj
  rw[Array.toList_setIfInBounds,List.set_eq_take_append_cons_drop,if_pos hjl,List.filterMap_append,Bg]
  dsimp only[id]
  have e1:ow.toList=ow.toList.take j++none :: ow.toList.drop (j+1):=by
   conv=>lhs;rw[<- BQ j ow.toList,List.drop_eq_getElem_cons hjl,e]
  have p:=o.pm
  rw[e1,List.filterMap_append,Bg]at p
  dsimp only[id]at p
  rw[A0]
  exact(List.perm_middle.trans (p.cons k)).trans (List.perm_append_singleton k _).symm
theorem sP {mask:Nat} (c:vQ (mask+1)):∀(hs:List Int) (ow:Array (Option Nat)) (k:Nat),Ownd mask ow k->k+hs.length<=mask+1->
  ∃ow',hs.foldl (fun(acc:Option (Array (Option Nat)×Nat)) h=>do
   let(owner,k) <- acc
   let j <- SetTable.layClean.free mask owner (SetTable.turns mask) (SetTable.bits h%(mask+1)) (SetTable.bits h)
   pure (owner.setIfInBounds j (some k),k+1)) (some (ow,k))=some (ow',k+hs.length)/\Ownd mask ow' (k+hs.length):=by
 intro hs
 induction hs with
 | nil=>intro ow k o _;exact⟨ow,rfl,o⟩
 | cons h r ih=>
  intro ow k o hl
  rw[Ba]at hl
  obtain⟨t,ht,hn⟩:=o.gap (by omega)
  obtain⟨j,ej⟩:=qG c ow h ht hn
  have o':=o.set (qF _ _ _ _ _ _ ej)
  obtain⟨ow',e,o2⟩:=ih _ (k+1) o' (by omega)
  have ek:k+(h :: r).length=k+1+r.length:=by rw[Ba];omega
  rw[ek]
  refine⟨ow',?_,o2⟩
  rw[B4]
  refine Eq.trans (congrArg (fun z=>List.foldl _ z r) ?_) e
  show(SetTable.layClean.free mask ow (SetTable.turns mask) (SetTable.bits h%(mask+1)) (SetTable.bits h)).bind (fun j=>some (ow.setIfInBounds j (some k),k+1))=_
  rw[ej];rfl
structure Laid (t:SetTable) (o:Array Nat) (mask n:Nat) (led plain:Bool):Prop where
 pm:o.toList.Perm (Ad n)
 ft:t.fits n=true
 ms:t.mask=mask
 dm:t.dummies=#[]
 ld:t.led=led
 pl:t.plain=plain
 rs:jg t.place.toList
theorem kN {mask finger moves:Nat} {led plain:Bool} {hs:Array Int} (c:vQ (mask+1)) (hl:hs.size<=mask):∃t o,SetTable.laid mask finger moves led plain hs=some (t,o)/\Laid t o mask hs.size led plain:=by
 have o0:Ownd mask (Array.replicate (mask+1) none) 0:=⟨Array.size_replicate,by simp⟩
 obtain⟨ow,e,o⟩:=sP c hs.toList _ 0 o0 (by rw[Aj];omega)
 rw[B2,Aj]at e o
 have el:SetTable.layClean mask hs=some ow:=by
  unfold SetTable.layClean
  rw[<- Array.foldl_toList,e];rfl
 have eq:SetTable.laid mask finger moves led plain hs=some ({mask,place:=(((Ad (mask+1)).filterMap fun j=>(ow.getD j none).map (j,·)).map (·.1)).toArray,dummies:=#[],finger,led,moves,plain},(((Ad (mask+1)).filterMap fun j=>(ow.getD j none).map (j,·)).map (·.2)).toArray):=by
  unfold SetTable.laid
  rw[el];rfl
 have es:((Ad (mask+1)).filterMap fun j=>(ow.getD j none).map (j,·)).map (·.2)=ow.toList.filterMap id:=by
  have eo:ow.toList=(Ad (mask+1)).map fun j=>ow.getD j none:=by
   apply Bb
   ·simp [o.sz]
   ·intro i h1 h2
    rw[Aj]at h1
    simp[B6,h1]
  conv=>rhs;rw[eo]
  rw[List.filterMap_map,List.map_filterMap]
  congr 1
  funext j
  show Option.map (fun x=>x.snd) (Option.map (fun x=>(j,x)) (ow.getD j none))=ow.getD j none
  cases ow.getD j none<;>rfl
 have pm:(((Ad (mask+1)).filterMap fun j=>(ow.getD j none).map (j,·)).map (·.2)).Perm (Ad hs.size):=by rw[es];exact o.pm
 have ln:=pm.length_eq
 rw[zZ,AD]at ln
 obtain⟨r1,r2⟩:=kH eq
 refine⟨_,_,eq,⟨pm,?_,rfl,rfl,rfl,rfl,r2⟩⟩
 unfold SetTable.fits SetTable.fill
 simp only[Ak,zZ,ln,Array.size_empty,Nat.add_zero]
 simp[hl]
theorem vb {α β:Type} {f:α->Option β} {g:α->β} (l:List α) (h:∀a∈l,f a=some (g a)):l.filterMap f=l.map g:=by
 induction l with
 | nil=>rfl
 | cons a r ih=>rw[Bg,h a Ay,Bd,ih fun b hb=>h b (Av _ hb)]
theorem sQ (es:Array (Int×Value)):(Ad es.size).filterMap (fun i=>es[i]?)=es.toList:=by
 rw[vb (g:=fun i=>es.getD i (0,.none)) _ fun i hi=>by have:=AJ.mp hi;simp[this]]
 apply Bb
 ·simp
 ·intro i h1 h2
  rw[Aj]at h2
  simp[h2]
theorem fP {es:Array (Int×Value)} {o:Array Nat} (pm:o.toList.Perm (Ad es.size)):(o.filterMap (es[·]?)).toList.Perm es.toList:=by
 rw[Array.toList_filterMap]
 have:=pm.filterMap (fun i=>es[i]?)
 rw[sQ]at this
 exact this
section
variable {P:Program} {w:World} {A:Around} {E:Value->Shared->Prop} {s:Shared} {S:Addr} {ks ms:List Int} {es:Array (Int×Value)} {ep:Nat} {t:SetTable}
theorem nq {g:Array (Int×Value)->Option (SetTable×Array Nat)->Sem (Array (Int×Value)×SetTable)} {es:Array (Int×Value)} {t:SetTable} {o:Array Nat} {Q:Array (Int×Value)×SetTable->Shared->Prop}
  (hg:g es (some (t,o))=(do
   if((o.filterMap (es[·]?)).size != es.size)=true then unsupported "internal:set-table-lost-an-element"
   pure (o.filterMap (es[·]?),t))) (pm:o.toList.Perm (Ad es.size)) (h:Q (o.filterMap (es[·]?),t) s):wpAny (model P w) A (g es (some (t,o))) Q E s:=by
 have pp:=(fP pm).length_eq
 rw[Aj,Aj]at pp
 rw[hg,if_neg (by rw[pp];simp)]
 exact wpAny_pure h
theorem sR {n:Nat} (h:n<5000):n<=sizeLine:=A5 (oi (by omega))
theorem SetAt.store {es':Array (Int×Value)} {t':SetTable} {ks':List Int} {Q:Unit->Shared->Prop} (hS:SetAt w S es ep t ks s.heap) (en:Ents es'.toList ks') (nd:ks'.Nodup) (sz:ks'.length<4000) (ft:t'.fits es'.size=true) (tb:TabK (!bJ w) t')
  (h:∀h',Heap.SameBut S s.heap h'->SetAt w S es' (ep+1) t' ks' h'->Q () {s with heap:=h'}):wpAny (model P w) A (storeSet S es' t') Q E s:=by
 obtain⟨o,ho,hs⟩:=hS
 have z:es'.size=ks'.length:=by rw[<- en.len,Aj]
 refine wpAny_storeSet_of ho hs.da (h _ (Heap.SameBut.update ..) ?_) (by rw[z];exact sR (by omega))
 obtain⟨o',ho',hs'⟩:=oH (s:=s) ho hs en nd sz ft tb
 exact⟨o',ho',hs'⟩
theorem SetAt.state {Q:Array (Int×Value)×Nat×SetTable->Shared->Prop} (hS:SetAt w S es ep t ks s.heap) (h:Q (es,ep,t) s):wpAny (model P w) A (setState S) Q E s:=by
 obtain⟨o,ho,hs⟩:=hS
 exact wpAny_setState_of ho hs.da hs.ft h
theorem SetAt.epoch {Q:Nat->Shared->Prop} (hS:SetAt w S es ep t ks s.heap) (h:Q ep s):wpAny (model P w) A (setEpoch S) Q E s:=by
 unfold setEpoch
 exact wpAny_bind (hS.state (wpAny_pure h))
theorem SetAt.entries {Q:Array (Int×Value)->Shared->Prop} (hS:SetAt w S es ep t ks s.heap) (h:Q es s):wpAny (model P w) A (setEntries S) Q E s:=by
 unfold setEntries
 exact wpAny_bind (hS.state (wpAny_pure h))
theorem SetAt.en (hS:SetAt w S es ep t ks s.heap):Ents es.toList ks:=let⟨_,_,hs⟩:=hS;hs.en
theorem SetAt.nd (hS:SetAt w S es ep t ks s.heap):ks.Nodup:=let⟨_,_,hs⟩:=hS;hs.nd
theorem SetAt.ft (hS:SetAt w S es ep t ks s.heap):t.fits es.size=true:=let⟨_,_,hs⟩:=hS;hs.ft
theorem SetAt.tb (hS:SetAt w S es ep t ks s.heap):TabK (!bJ w) t:=let⟨_,_,hs⟩:=hS;hs.tb
theorem SetAt.sz (hS:SetAt w S es ep t ks s.heap):es.size=ks.length:=let⟨_,_,hs⟩:=hS;hs.size
theorem SetAt.lt4 (hS:SetAt w S es ep t ks s.heap):ks.length<4000:=let⟨_,_,hs⟩:=hS;hs.sz
theorem SetAt.sx (hS:SetAt w S es ep t ks s.heap) (p:ks.Perm ms):SX w S ms s.heap:=let⟨o,e,r⟩:=hS;⟨o,es,ep,t,ks,e,r,p⟩
theorem SetAt.relay {wanted:Nat} {Q:Unit->Shared->Prop} (hS:SetAt w S es ep t ks s.heap) (hw:wanted<256) (hz:es.size<SetTable.sizeAbove wanted)
  (h:∀h' es' t' ks',Heap.SameBut S s.heap h'->SetAt w S es' (ep+1) t' ks' h'->ks'.Perm ks->t'.mask+1=SetTable.sizeAbove wanted->t'.dummies=#[]->Q () {s with heap:=h'}):wpAny (model P w) A (setRelay S wanted) Q E s:=by
 obtain⟨m1,m2⟩:=fO wanted hw
 have c:=hZ m1
 have big:SetTable.sizeAbove wanted<=256/\8<=SetTable.sizeAbove wanted:=by
  exact(show ∀x∈[8,16,32,64,128,256],x<=256/\8<=x by decide) _ m1
 unfold setRelay
 refine wpAny_bind (hS.state ?_)
 dsimp only
 rw[if_neg (by have:=sR (n:=SetTable.sizeAbove wanted) (by omega);omega)]
 have eM:SetTable.sizeAbove wanted-1+1=SetTable.sizeAbove wanted:=by omega
 have c':vQ (SetTable.sizeAbove wanted-1+1):=by rw[eM];exact c
 have hsz:(es.map (·.1)).size=es.size:=Array.size_map ..
 obtain⟨t',o,e,L⟩:=kN (mask:=SetTable.sizeAbove wanted-1) (finger:=t.finger) (moves:=t.movedTo (SetTable.sizeAbove wanted-1)) (led:=t.led) (plain:=t.plain) (hs:=es.map (·.1)) c' (by rw[hsz];omega)
 have e2:t.relaid (es.map (·.1)) wanted=some (t',o):=e
 rw[e2]
 have pm:=L.pm
 rw[hsz]at pm
 refine wpAny_bind (nq (by rfl) pm ?_)
 dsimp only
 have pp:=fP pm
 obtain⟨ks',n',q'⟩:=Ents.perm pp hS.en
 have z:(o.filterMap (es[·]?)).size=es.size:=by have:=pp.length_eq;rw[Aj,Aj]at this;exact this
 refine hS.store n' (q'.nodup_iff.mpr hS.nd) (by rw[q'.length_eq];exact hS.lt4) (by rw[z,<- hsz];exact L.ft) ⟨by rw[L.ld];exact hS.tb.led,fun _=>L.rs⟩ fun h' sb st=>?_
 exact h h' _ t' ks' sb st q' (by rw[L.ms];omega) L.dm
theorem SetAt.find {x:Int} {tk:Tok} {Q:Option Nat->Shared->Prop} (hS:SetAt w S es ep t ks s.heap) (h1:∀i,ks[i]?=some x->Q (some i) s) (h2:x∉ks->Q none s):wpAny (model P w) A (setFind S (.int x tk) (hashInt x)) Q E s:=by
 obtain⟨o,ho,hs⟩:=hS
 have hel:=hs.en.elems (P:=P) (w:=w)
 have hky:(intKind P w).is x (.int x tk)=true:=intKind_is P w x tk
 unfold setFind setFindIn
 refine wpAny_bind (wpAny_setState_of ho hs.da hs.ft ?_)
 dsimp only
 rw[byScan_of (knd:=intKind P w) rfl hs.bound hel,if_pos rfl]
 refine wpAny_bind (wpAny_rule ?_)
 refine wpAny_bind (wpAny_setScan_of (knd:=intKind P w) (k:=x) hky ho hs.da hs.ft hel ?_)
 have fd:=hs.en.find (P:=P) (w:=w) (k:=x)
 cases hr:List.findIdx? (fun e=>(intKind P w).is x e.2) es.toList with
 | some j=>
  refine wpAny_pure ?_
  rw[B2]
  refine h1 j ?_
  obtain⟨hj,p1,_⟩:=Bt.mp hr
  have hjk:j<ks.length:=by rw[<- hs.en.len];exact hj
  have gk:=Aa hjk
  obtain⟨e',g,tk',q⟩:=cH hs.en gk
  rw[Aa hj]at g
  have g:=Option.some.inj g
  rw[g,q]at p1
  have:x=ks[j]:=by
   have z:(intKind P w).is x (hashInt ks[j],Value.int ks[j] tk').2=decide (x=ks[j]):=kI x ks[j] tk'
   rw[z]at p1
   exact of_decide_eq_true p1
  rw[gk,this]
 | none=>
  rw[hr]at fd
  exact wpAny_pure (h2 (of_decide_eq_false fd.symm))
end
section
variable {P:Program} {w:World} {A:Around} {E:Value->Shared->Prop} {s:Shared} {S:Addr} {ks ms:List Int} {es:Array (Int×Value)} {ep:Nat} {t:SetTable}
theorem sS {Q:Bool->Shared->Prop} (sets:List Addr) (ho:∀a∈sets,∃ms,SX w a ms s.heap) (h:Q true s):wpAny (model P w) A (setsQuiet sets) Q E s:=by
 unfold setsQuiet
 refine wpAny_bind (wpAny_forIn_list _ (fun cK b s'=>(∀a∈cK,a∈sets)/\b.1=none/\s'=s) _ ?_ ?_ sets _ ⟨fun _ h=>h,rfl,rfl⟩)
 ·rintro a cK b s' ⟨hm,hb,rfl⟩
  obtain⟨ms,sx⟩:=ho a (hm a Ay)
  obtain⟨es,ep,t,ks,sa,pm⟩:=gD sx
  refine wpAny_bind (sa.entries ?_)
  refine wpAny_bind (PySem.MeetsSeq2.wpAny_forIn_array _ (fun cK b s''=>(∀a∈cK,a∈es.toList)/\b.1=none/\s''=s') _ ?_ ?_ es _ ⟨fun _ h=>h,rfl,rfl⟩)
  ·rintro x cK b s' ⟨hm,hb,rfl⟩
   obtain⟨k,tk,_,e⟩:=Ents.mem (es:=es.toList) sa.en (hm x Ay)
   subst e
   refine wpAny_pure ⟨fun a h=>hm a (Av _ h),rfl,rfl⟩
  ·rintro⟨b1,b2⟩ s'' ⟨_,hb',rfl⟩
   dsimp only at hb'
   subst hb'
   exact wpAny_pure ⟨fun a h=>hm a (Av _ h),rfl,rfl⟩
 ·rintro⟨b1,b2⟩ s' ⟨_,hb,rfl⟩
  dsimp only at hb
  subst hb
  exact wpAny_pure h
theorem lM {Q:Bool->Shared->Prop} (h:Q (bJ w) s):wpAny (model P w) A setsByText Q E s:=by
 unfold setsByText
 exact wpAny_bind (wpAny_askSetting (wpAny_pure h))
theorem SetAt.walk {others:List Addr} {f:Option Addr} {Q:Array (Int×Value)->Shared->Prop} (hS:SetAt w S es ep t ks s.heap) (ho:∀a∈others,∃ms,SX w a ms s.heap) (hf:∀a,f=some a->a≠S/\SX w a ms s.heap)
  (h:∀xs h',xs.toList.Perm es.toList->(∀b o,f≠some b->s.heap.get? b=some o->h'.get? b=some o)->(∀a,f=some a->SX w a ms h')->Q xs {s with heap:=h'}):wpAny (model P w) A (setWalkUnseen S others f) Q E s:=by
 have hS':=hS
 obtain⟨o,hoo,hs⟩:=hS
 unfold setWalkUnseen
 refine wpAny_bind (hS'.state ?_)
 dsimp only
 refine wpAny_bind (lM ?_)
 have done:∀xs:Array (Int×Value),xs.toList.Perm es.toList->Q xs s:=fun xs p=>h xs s.heap p (fun _ _ _ e=>e) fun a e=>(hf a e).2
 by_cases hc:(bJ w||t.led&&t.plain||decide (es.size<=1))=true
 ·rw [if_pos hc]
  by_cases bt:bJ w=true
  ·exact gC bt hoo hs (done _ (g9 _ _))
  ·unfold setWalk
   have bt0:bJ w=false:=by simpa using bt
   have ld:t.led=true:=by rw[hs.tb.led,bt0];rfl
   refine wpAny_bind (hS'.state ?_)
   dsimp only
   refine wpAny_bind (lM ?_)
   rw[bt0,if_neg Ag]
   rw[bt0,ld]at hc
   show wpAny _ _ (if(!t.plain&&decide (es.size>1))=true then _ else _) _ _ _
   rw[if_neg (by cases hp:t.plain with | true=>simp | false=>(rw [hp]at hc;simp at hc ⊢;omega))]
   refine wpAny_bind ?_
   show wpAny _ _ (if(!t.led&&decide (es.size>1))=true then unsupported "set:maker-not-led" else pure ()) _ _ _
   rw[if_neg (by rw[ld];simp)]
   exact wpAny_pure (wpAny_pure (done _ (.refl _)))
 ·rw [if_neg hc]
  refine wpAny_bind (sS _ (fun a ha=>?_) ?_)
  ·rcases Al.mp ha with e | e
   ·subst e;exact⟨ks,hS'.sx (.refl _)⟩
   ·exact ho a e
  rw[if_neg (by simp)]
  refine wpAny_bind (wpAny_rule ?_)
  cases f with
  | none=>exact wpAny_pure (done _ (.refl _))
  | some a=>
   obtain⟨hne,sx⟩:=hf a rfl
   obtain⟨ef,epf,tf,kf,sf,pf⟩:=gD sx
   refine wpAny_bind (sf.state ?_)
   dsimp only
   by_cases hm:(tf.led&& !t.led||tf.plain&& !t.plain)=true
   ·rw [if_pos hm]
    refine wpAny_bind (sf.store (t':={tf with led:=tf.led&&t.led,plain:=tf.plain&&t.plain}) sf.en sf.nd sf.lt4 sf.ft ⟨by show(tf.led&&t.led)=_;rw[sf.tb.led,hs.tb.led];simp,fun z=>sf.tb.rise (by have z:(tf.plain&&t.plain)=true:=z;simp at z;exact z.1)⟩ fun h' sb st=>?_)
    exact wpAny_pure (h es h' (.refl _) (fun b o n e=>(sb.2 b fun z=>n (by rw[z])).trans e) fun a' e=>by cases e;exact st.sx (s:={s with heap:=h'}) pf)
   ·rw [if_neg hm]
    exact wpAny_pure (done _ (.refl _))
end
section
variable {P:Program} {w:World} {A:Around} {E:Value->Shared->Prop} {s:Shared} {S T:Addr} {ks ms ns:List Int} {es:Array (Int×Value)} {ep:Nat} {t:SetTable}
theorem SX.ty (h:SX w S ms s.heap):s.TypeIs (.ref S) "set":=let⟨o,_,_,_,_,e,r,_⟩:=h;⟨o,e,r.ex.1⟩
theorem cP {Q:Bool->Shared->Prop} (hT:s.TypeIs (.ref S) "set") (h:Q true s):wpAny (model P w) A (Builtin.Frozenset.isAnySet (.ref S)) Q E s:=by
 unfold Builtin.Frozenset.isAnySet
 show wpAny _ _ (isInstance (.ref S) (.type "set") >>= fun b=>_) _ _ _
 refine wpAny_bind (wpAny_isInstance hT sub_set_self ?_)
 exact wpAny_pure h
theorem kO {Q:Value->Shared->Prop} (hT:s.TypeIs (.ref S) "set") (h:Q (.type "set") s):wpAny (model P w) A (Builtin.Frozenset.baseOf S) Q E s:=by
 unfold Builtin.Frozenset.baseOf
 refine wpAny_bind (wpAny_isInstance hT sub_set_self ?_)
 exact wpAny_pure h
theorem kP {Q:Value->Shared->Prop} (h:Q (.ref s.heap.objs.size) {s with heap:=s.heap.push (aJ w)}):wpAny (model P w) A (newSet (.type "set")) Q E s:=by
 unfold newSet
 refine wpAny_bind (lM ?_)
 dsimp only
 simp only[newObj]
 exact wpAny_bind (wpAny_alloc (wpAny_pure h))
theorem kQ {Q:Nat->Shared->Prop} (hS:SetAt w S es ep t ks s.heap) (h:Q es.size s):wpAny (model P w) A (Builtin.Frozenset.sizeOf S) Q E s:=by
 unfold Builtin.Frozenset.sizeOf
 exact wpAny_bind (hS.entries (wpAny_pure h))
theorem lN {id:String} {Q:Unit->Shared->Prop} (hS:SetAt w S es ep t ks s.heap) (h:Q () s):wpAny (model P w) A (Builtin.Frozenset.unchanged id S ep) Q E s:=by
 unfold Builtin.Frozenset.unchanged
 refine wpAny_bind (hS.epoch ?_)
 rw[if_neg (by simp)]
 exact wpAny_pure h
theorem qH {r:Addr} {xs:Array (Int×Value)} {kx k0:List Int} {f:(Int×Value)->PUnit->Sem (ForInStep PUnit)} {G:Heap->Prop} {Q:PUnit->Shared->Prop} (keep:Int->Bool) (en:Ents xs.toList kx) (nd:kx.Nodup) (dj:∀k∈kx,k∉k0) (hl:kx.length+k0.length+1<4000)
  (hG:∀h h',G h->Heap.SameBut r h h'->G h')
  (hf:∀k tk (s':Shared) (Q':ForInStep PUnit->Shared->Prop) kr,k∈kx->G s'.heap->SX w r kr s'.heap->kr.length+1<4000->(keep k=true->∀h',Heap.SameBut r s'.heap h'->SX w r (cx kr k) h'->Q' (.yield ⟨⟩) {s' with heap:=h'})->(keep k=false->Q' (.yield ⟨⟩) s')->wpAny (model P w) A (f (hashInt k,.int k tk) ⟨⟩) Q' E s')
  (g:G s.heap) (sx:SX w r k0 s.heap)
  (h:∀h',Heap.SameBut r s.heap h'->SX w r (k0++kx.filter keep) h'->Q ⟨⟩ {s with heap:=h'}):wpAny (model P w) A (forIn xs ⟨⟩ f) Q E s:=by
 refine PySem.MeetsSeq2.wpAny_forIn_array f (fun cK _ s'=>∃kr h',Ents cK kr/\kr <:+ kx/\s'={s with heap:=h'}/\Heap.SameBut r s.heap h'/\SX w r (k0++(kx.take (kx.length-kr.length)).filter keep) h'/\G h') _ ?_ ?_ xs ⟨⟩ ⟨kx,s.heap,en,List.suffix_refl _,rfl,Heap.SameBut.refl _ _,by rw[BB,BG];simpa using sx,g⟩
 ·rintro x cK b s' ⟨kr,h1,er,sf,rfl,sb,sx1,g1⟩
  cases er with
  | @cons _ k _ kr' q er'=>
   obtain⟨tk,rfl⟩:=q
   obtain⟨pre,ep⟩:=sf
   have hk:k∈kx:=by rw[<- ep];simp
   have e1:kx.length-(k :: kr').length=pre.length:=by rw[<- ep];simp
   have e2:kx.length-kr'.length=pre.length+1:=by rw[<- ep];simp;omega
   have t1:kx.take pre.length=pre:=by rw[<- ep];simp
   have t2:kx.take (pre.length+1)=pre++[k]:=by
    have:kx=(pre++[k])++kr':=by rw[<- ep];simp
    rw[this]
    have:pre.length+1=(pre++[k]).length:=by simp
    rw[this,List.take_left]
   rw[e1,t1]at sx1
   have kn:k∉pre:=by
    rw[<- ep,List.nodup_append]at nd
    exact fun m=>nd.2.2 k m k (by simp) rfl
   have fl:(pre.filter keep).length<=kx.length:=AC (AL ..) (by rw[<- ep];simp)
   have sfx:kr' <:+ kx:=⟨pre++[k],by rw[<- ep];simp⟩
   refine hf k tk _ _ _ hk g1 sx1 (by rw[Ai];omega) (fun hp h2 sb2 sx2=>?_) fun hp=>?_
   ·refine⟨kr',h2,er',sfx,rfl,sb.trans sb2,?_,hG _ _ g1 sb2⟩
    have ed:cx (k0++pre.filter keep) k=k0++(pre++[k]).filter keep:=by
     have:k∉k0++pre.filter keep:=fun m=>by
      rcases AH.mp m with m | m
      ·exact dj k hk m
      ·exact kn (AQ.mp m).1
     unfold cx
     rw[if_neg this,AS,List.append_assoc]
     simp[hp]
    rw[e2,t2,<- ed]
    exact sx2
   ·refine⟨kr',h1,er',sfx,rfl,sb,?_,g1⟩
    rw[e2,t2,AS]
    simpa [hp]using sx1
 ·rintro b s' ⟨kr,h1,er,sf,rfl,sb,sx1,g1⟩
  cases er
  refine h h1 sb ?_
  rw[List.length_nil,Nat.sub_zero,A3]at sx1
  exact sx1
end
section
variable {P:Program} {w:World} {A:Around} {E:Value->Shared->Prop} {s:Shared} {S T:Addr} {ks ms ns:List Int} {es:Array (Int×Value)} {ep:Nat} {t:SetTable}
theorem fH {a r:Addr} {h h':Heap} (n:a≠r) (sb:Heap.SameBut r h h'):∀o,h.get? a=some o->h'.get? a=some o:=fun o e=>(sb.2 a n).trans e
theorem sT {id:String} {W0 K0 r:Addr} {ew:Array (Int×Value)} {epw:Nat} {tw:SetTable} {kw:List Int} {ka:List Int} {xs:Array (Int×Value)} {kx:List Int} {Q:PUnit->Shared->Prop}
  (hW:SetAt w W0 ew epw tw kw s.heap) (hK:SX w K0 ka s.heap) (n1:W0≠r) (n2:K0≠r) (en:Ents xs.toList kx) (nd:kx.Nodup) (hl:kx.length+1<4000) (sx:SX w r [] s.heap) (c:Bool->Bool)
  {f:(Int×Value)->PUnit->Sem (ForInStep PUnit)}
  (hf:∀x,f x ⟨⟩=(do
   holding [x.2] do
    let q <- setFind K0 x.2 x.1
    if c q.isSome=true then
     let _ <- setAddHashed r x.2 x.1
   Builtin.Frozenset.unchanged id W0 epw
   pure (.yield ⟨⟩)))
  (h:∀h',Heap.SameBut r s.heap h'->SX w r (kx.filter fun k=>c (decide (k∈ka))) h'->Q ⟨⟩ {s with heap:=h'}):wpAny (model P w) A (forIn xs ⟨⟩ f) Q E s:=by
 refine qH (k0:=[]) (G:=fun h=>SetAt w W0 ew epw tw kw h/\SX w K0 ka h) (fun k=>c (decide (k∈ka))) en nd (fun _ _ h=>by cases h) (by simpa using hl) (fun h h' g sb=>⟨g.1.at (fH n1 sb),g.2.at (fH n2 sb)⟩) ?_ ⟨hW,hK⟩ sx (fun h' sb sx'=>h h' sb (by simpa using sx'))
 intro k tk s' Q' kr hk ⟨gW,gK⟩ sxr hlen q1 q2
 rw[hf]
 dsimp only
 obtain⟨ek,epk,tk',kk,sk,pk⟩:=gD gK
 have fin:∀d:Bool,(decide (k∈ka)=d)->wpAny (model P w) A (if c d=true then(do let _ <- setAddHashed r (.int k tk) (hashInt k);pure PUnit.unit)else pure PUnit.unit) (fun _ s2=>wpAny (model P w) A (do Builtin.Frozenset.unchanged id W0 epw;pure (ForInStep.yield PUnit.unit)) Q' E s2) E s':=fun d hc=>by
  by_cases hcb:c d=true
  ·rw [if_pos hcb]
   refine wpAny_bind (oP sxr hlen fun _ h' sb sx'=>wpAny_pure ?_)
   refine wpAny_bind (lN (s:={s' with heap:=h'}) (gW.at (fH n1 sb)) (wpAny_pure ?_))
   exact q1 (by rw[hc];exact hcb) h' sb sx'
  ·rw [if_neg hcb]
   refine wpAny_pure ?_
   refine wpAny_bind (lN gW (wpAny_pure ?_))
   exact q2 (by rw[hc];simpa using hcb)
 refine wpAny_bind (wpAny_holding (wpAny_bind (sk.find (fun i hi=>?_) fun hn=>?_)))
 ·exact fin true (decide_eq_true (pk.mem_iff.mp (Ah hi)))
 ·exact fin false (decide_eq_false fun m=>hn (pk.mem_iff.mpr m))
theorem sU {id:String} {Q:Value->Shared->Prop} (hS:SX w S ms s.heap) (hT:SX w T ns s.heap) (hne:S≠T) (hl1:ms.length<3000) (hl2:ns.length<3000)
  (h:∀h' ks,(∀b o,s.heap.get? b=some o->h'.get? b=some o)->SX w s.heap.objs.size ks h'->ks.Nodup->(∀x,x∈ks<->x∈ms/\x∈ns)->Q (.ref s.heap.objs.size) {s with heap:=h'}):wpAny (model P w) A (Builtin.Frozenset.intersection id S (.ref T)) Q E s:=by
 unfold Builtin.Frozenset.intersection
 rw[if_neg (by simp;exact fun z=>hne z.symm)]
 refine wpAny_bind (kO hS.ty (wpAny_bind (kP ?_)))
 have lS:=hS.lt
 have lT:=hT.lt
 have kp:∀b o,s.heap.get? b=some o->(s.heap.push (aJ w)).get? b=some o:=fun b o e=>Heap.get?_push_of_some _ e
 have hS1:=hS.at (kp S)
 have hT1:=hT.at (kp T)
 have hR1:SX w s.heap.objs.size [] (s.heap.push (aJ w)):=kM (Heap.get?_push_size _ rfl)
 generalize hr:s.heap.objs.size=r at*
 generalize hh1:s.heap.push (aJ w)=h1 at*
 refine wpAny_bind (wpAny_pure ?_)
 have ne1:S≠r:=Ar lS
 have ne2:T≠r:=Ar lT
 have aS:=gD hS1
 have aT:=gD hT1
 obtain⟨eS,epS,tS,kS,aS,pS⟩:=aS
 obtain⟨eT,epT,tT,kT,aT,pT⟩:=aT
 refine wpAny_bind (wpAny_holding (wpAny_bind (cP (s:={s with heap:=h1}) hT1.ty ?_)))
 rw[if_pos rfl]
 refine wpAny_bind (wpAny_pure ?_)
 refine wpAny_bind (kQ (s:={s with heap:=h1}) aT (wpAny_bind (kQ (s:={s with heap:=h1}) aS ?_)))
 have core:∀(W0 K0:Addr) (ew:Array (Int×Value)) (epw:Nat) (tw:SetTable) (kw ka:List Int),SetAt w W0 ew epw tw kw h1->SX w K0 ka h1->W0≠r->K0≠r->kw.length<3000->(∀x,x∈kw/\x∈ka<->x∈ms/\x∈ns)->
   wpAny (model P w) A (do
    let was <- setEpoch W0
    let l <- setWalkUnseen W0 [K0,r] (some r)
    forIn l PUnit.unit fun x __s=>match x with
     | (h,x)=>do
      holding [x] do
       let q <- setFind K0 x h
       if q.isSome=true then do
        let _ <- setAddHashed r x h
        pure ()
       else pure ()
      Builtin.Frozenset.unchanged id W0 was
      pure (ForInStep.yield PUnit.unit)
    pure ()) (fun _ s'=>wpAny (model P w) A (pure (Value.ref r)) Q E s') E {s with heap:=h1}:=by
  intro W0 K0 ew epw tw kw ka hW hK n1 n2 hlw hm
  refine wpAny_bind (SetAt.epoch (s:={s with heap:=h1}) hW ?_)
  refine wpAny_bind (SetAt.walk (s:={s with heap:=h1}) (ms:=[]) hW (fun a ha=>?_) (fun a e=>?_) fun xs h2 px k2 f2=>?_)
  ·simp only[Al,AK,or_false]at ha
   rcases ha with e | e<;>subst e
   ·exact⟨_,hK⟩
   ·exact⟨_,hR1⟩
  ·cases e;exact⟨Ne.symm n1,hR1⟩
  have k2':∀b o,b≠r->h1.get? b=some o->h2.get? b=some o:=fun b o n e=>k2 b o (fun z=>n (Option.some.inj z).symm) e
  obtain⟨kx,nx,qx⟩:=Ents.perm px (SetAt.en (s:={s with heap:=h1}) hW)
  have ndw:=SetAt.nd (s:={s with heap:=h1}) hW
  have ndx:kx.Nodup:=qx.nodup_iff.mpr ndw
  refine wpAny_bind (sT (s:={s with heap:=h2}) (hW.at fun o e=>k2' W0 o n1 e) (hK.at fun o e=>k2' K0 o n2 e) n1 n2 nx ndx (by rw[qx.length_eq];omega) (f2 r rfl) (fun b=>b) (fun x=>rfl) fun h3 sb sx=>wpAny_pure (wpAny_pure ?_))
  refine h h3 _ (fun b o e=>?_) sx (ndx.filter _) fun x=>?_
  ·have nb:b≠r:=by rw[<- hr];exact Ar (Heap.lt_size e)
   exact fH nb sb o (k2' b o nb (kp b o e))
  ·rw [AQ,qx.mem_iff,<- hm x]
   simp
 by_cases hc:eT.size>eS.size
 ·rw [if_pos hc]
  exact core S T eS epS tS kS ns aS hT1 ne1 ne2 (by rw[pS.length_eq];exact hl1) fun x=>by rw[pS.mem_iff]
 ·rw [if_neg hc]
  exact core T S eT epT tT kT ms aT hS1 ne2 ne1 (by rw[pT.length_eq];exact hl2) fun x=>by rw[pT.mem_iff];exact And.comm
end
section
variable {P:Program} {w:World} {A:Around} {E:Value->Shared->Prop} {s:Shared} {S T r:Addr} {ks ms ns:List Int} {es:Array (Int×Value)} {ep:Nat} {t:SetTable}
theorem nv {h:Heap} (e:h.get? r=some (aJ w)):SetAt w r #[] 0 (.fresh 0 0 (!bJ w)) [] h:=
 ⟨_,e,⟨⟨rfl,rfl,rfl⟩,rfl,.nil,BW,by decide,rfl,⟨rfl,fun _=> .nil⟩⟩⟩
theorem oQ {n:Nat} {Q:Unit->Shared->Prop} (hr:s.heap.get? r=some (aJ w)) (hn:n<128)
  (h:∀h' ep' t',Heap.SameBut r s.heap h'->SetAt w r #[] ep' t' [] h'->vQ (t'.mask+1)->n<=t'.mask->t'.dummies=#[]->Q () {s with heap:=h'}):wpAny (model P w) A (setRoomFor r n) Q E s:=by
 have a:=nv hr
 unfold setRoomFor
 refine wpAny_bind (a.state ?_)
 dsimp only
 by_cases hc:(0+n)*5>=7*3
 ·have e:(SetTable.fresh 0 0 (!bJ w)).roomFor n=some ((0+n)*2):=if_pos hc
  rw[e]
  dsimp only
  obtain⟨m1,m2⟩:=fO ((0+n)*2) (by omega)
  refine a.relay (by omega) (by show 0<_;omega) fun h' es' t' ks' sb st p mk dm=>?_
  have:ks'=[]:=AA.mp (by rw[p.length_eq];rfl)
  subst this
  have e0:es'=#[]:=by
   have:=st.en (s:={s with heap:=h'})
   have l:=this.len
   exact Array.eq_empty_of_size_eq_zero (by rw[<- Aj,l];rfl)
  subst e0
  exact h h' _ t' sb st (by rw[mk];exact hZ m1) (by omega) dm
 ·have e:(SetTable.fresh 0 0 (!bJ w)).roomFor n=none:=if_neg hc
  rw[e]
  exact wpAny_pure (h s.heap 0 _ (Heap.SameBut.refl _ _) a (show vQ 8 from hZ (by decide)) (by show n<=7;omega) rfl)
theorem iA {each:Sem Unit} {Q:Unit->Shared->Prop} (hr:s.heap.get? r=some (aJ w)) (hS:SetAt w S es ep t ks s.heap) (hne:r≠S) (hl:ks.length<128) (h0:ks=[]->Q () s)
  (h:∀h' er ep' tr kr,ks≠[]->Heap.SameBut r s.heap h'->SetAt w r er ep' tr kr h'->kr.Perm ks->Q () {s with heap:=h'}):wpAny (model P w) A (setMerge r S each) Q E s:=by
 have sz:=hS.sz
 unfold setMerge
 rw[if_neg (by simpa using hne)]
 refine wpAny_bind (hS.state ?_)
 dsimp only
 by_cases he:es.isEmpty=true
 ·rw [if_pos he]
  refine wpAny_pure (h0 (AA.mp ?_))
  rw[<- sz];simpa using he
 rw[if_neg he]
 have kne:ks≠[]:=fun z=>he (by rw[z]at sz;simpa using sz)
 refine wpAny_bind (oQ hr (by omega) fun h1 ep1 t1 sb1 a1 c1 n1 d1=>?_)
 have hS1:SetAt w S es ep t ks h1:=hS.at (fH (Ne.symm hne) sb1)
 refine wpAny_bind (SetAt.state (s:={s with heap:=h1}) a1 ?_)
 dsimp only
 have tb1:=SetAt.tb (s:={s with heap:=h1}) a1
 have tbS:=hS.tb
 have ft1:=SetAt.ft (s:={s with heap:=h1}) a1
 have p0:t1.place.size=0:=by
  have:=ft1
  simp only[SetTable.fits,Bx,beq_iff_eq]at this
  exact this.1
 have fl:t1.fill=0:=by unfold SetTable.fill;rw[p0,d1];rfl
 have ld:(t1.led&&t.led)= !bJ w:=by rw[tb1.led,tbS.led];simp
 by_cases hc:(t1.mask==t.mask&&t.dummies.isEmpty)=true
 ·have er:t1.road t= .slotForSlot:=by unfold SetTable.road;rw[fl];simp only[bne_self_eq_false,AR,if_false];rw[if_pos hc]
  rw[er]
  dsimp only
  refine SetAt.store (s:={s with heap:=h1}) a1 hS.en hS.nd hS.lt4 hS.ft ⟨ld,fun z=>tbS.rise ?_⟩ fun h2 sb2 a2=>?_
  ·have z:(t1.plain&&t.plain)=true:=z
   simp at z;exact z.2
  ·exact h h2 _ _ _ _ kne (sb1.trans sb2) a2 (.refl _)
 ·have er:t1.road t= .clean:=by unfold SetTable.road;rw[fl];simp only[bne_self_eq_false,AR,if_false];rw[if_neg hc]
  rw[er]
  dsimp only
  have hsz:(es.map (·.1)).size=es.size:=Array.size_map ..
  obtain⟨t',o,e,L⟩:=kN (mask:=t1.mask) (finger:=t1.finger) (moves:=t1.moves) (led:=t1.led&&t.led) (plain:=t1.plain&&t.plain) (hs:=es.map (·.1)) c1 (by rw[hsz];exact n1)
  rw[e]
  have pm:=L.pm
  rw[hsz]at pm
  refine wpAny_bind (nq (by rfl) pm ?_)
  dsimp only
  have pp:=fP pm
  obtain⟨ks',n',q'⟩:=Ents.perm pp hS.en
  have z:(o.filterMap (es[·]?)).size=es.size:=by have:=pp.length_eq;rw[Aj,Aj]at this;exact this
  refine SetAt.store (s:={s with heap:=h1}) a1 n' (q'.nodup_iff.mpr hS.nd) (by rw[q'.length_eq];exact hS.lt4) (by rw[z,<- hsz];exact L.ft) ⟨by rw[L.ld];exact ld,fun _=>L.rs⟩ fun h2 sb2 a2=>?_
  exact h h2 _ _ _ _ kne (sb1.trans sb2) a2 q'
theorem vc {Q:Value->Shared->Prop} (hS:SX w S ms s.heap) (hl:ms.length<128)
  (h:∀h' er ep' tr kr,(∀b o,s.heap.get? b=some o->h'.get? b=some o)->SetAt w s.heap.objs.size er ep' tr kr h'->kr.Perm ms->(ms=[]->h'.get? s.heap.objs.size=some (aJ w))->Q (.ref s.heap.objs.size) {s with heap:=h'}):wpAny (model P w) A (Builtin.Frozenset.copyOf S) Q E s:=by
 unfold Builtin.Frozenset.copyOf
 refine wpAny_bind (kO hS.ty (wpAny_bind (kP ?_)))
 have hne:s.heap.objs.size≠S:=Bv hS.lt
 have kp:∀b o,s.heap.get? b=some o->(s.heap.push (aJ w)).get? b=some o:=fun b o e=>Heap.get?_push_of_some _ e
 have hr:(s.heap.push (aJ w)).get? s.heap.objs.size=some (aJ w):=Heap.get?_push_size _ rfl
 obtain⟨es,ep,t,ks,aS,pS⟩:=gD (hS.at (kp S))
 refine wpAny_bind (wpAny_pure (wpAny_bind (iA (s:={s with heap:=s.heap.push (aJ w)}) hr aS hne (by rw[pS.length_eq];exact hl) (fun e=>?_) fun h' er ep' tr kr kne sb a p=>?_)))
 ·subst e
  have em:ms=[]:=AA.mp (by rw[<- pS.length_eq];rfl)
  exact wpAny_pure (h _ _ _ _ _ kp (nv hr) (by rw[em]) fun _=>hr)
 ·refine wpAny_pure (h h' er ep' tr kr (fun b o e=>fH (Ar (Heap.lt_size e)) sb o (kp b o e)) a (p.trans pS) fun e=>?_)
  subst e
  exact absurd (AA.mp (by rw[pS.length_eq];rfl)) kne
end
theorem qI (acc:List Int) (x:Int):(cx acc x).length<=acc.length+1:=by
 unfold cx
 split
 ·omega
 ·simp
section
variable {P:Program} {w:World} {A:Around} {E:Value->Shared->Prop} {s:Shared} {S T r:Addr} {ks kr ms ns:List Int} {es er:Array (Int×Value)} {ep epr:Nat} {t tr:SetTable}
theorem SX.nd {h:Heap} (x:SX w S ms h):ms.Nodup:=by
 obtain⟨o,es,ep,t,ks,e,r,p⟩:=x
 exact p.nodup_iff.mp r.nd
theorem SetAt.room {n:Nat} {Q:Unit->Shared->Prop} (hR:SetAt w r er epr tr kr s.heap) (hn:kr.length+n<128)
  (h:∀h' er' ep' t' kr',Heap.SameBut r s.heap h'->SetAt w r er' ep' t' kr' h'->kr'.Perm kr->Q () {s with heap:=h'}):wpAny (model P w) A (setRoomFor r n) Q E s:=by
 have sz:=hR.sz
 have pz:=hU hR.ft
 unfold setRoomFor
 refine wpAny_bind (hR.state ?_)
 dsimp only
 by_cases hc:(tr.fill+n)*5>=tr.mask*3
 ·have e:tr.roomFor n=some ((tr.place.size+n)*2):=if_pos hc
  rw[e]
  dsimp only
  obtain⟨m1,m2⟩:=fO ((tr.place.size+n)*2) (by omega)
  exact hR.relay (by omega) (by omega) fun h' es' t' ks' sb st p _ _=>h h' _ _ _ _ sb st p
 ·have e:tr.roomFor n=none:=if_neg hc
  rw[e]
  exact wpAny_pure (h s.heap _ _ _ _ (Heap.SameBut.refl _ _) hR (.refl _))
theorem oR {each:Sem Unit} {Q:Unit->Shared->Prop} (hR:SetAt w r er epr tr kr s.heap) (hS:SetAt w S es ep t ks s.heap) (hne:r≠S) (hl:kr.length+ks.length<128) (hkr:kr≠[])
  (heach:∀(s':Shared) (Q':Unit->Shared->Prop),SetAt w S es ep t ks s'.heap->Q' () s'->wpAny (model P w) A each Q' E s')
  (h:∀h' acc,(∀b o,b≠r->s.heap.get? b=some o->h'.get? b=some o)->SX w r acc h'->(∀x,x∈acc<->x∈kr\/x∈ks)->Q () {s with heap:=h'}):wpAny (model P w) A (setMerge r S each) Q E s:=by
 have sz:=hS.sz
 unfold setMerge
 rw[if_neg (by simpa using hne)]
 refine wpAny_bind (hS.state ?_)
 dsimp only
 by_cases he:es.isEmpty=true
 ·rw [if_pos he]
  have:ks=[]:=AA.mp (by rw[<- sz];simpa using he)
  refine wpAny_pure (h s.heap kr (fun _ _ _ e=>e) (hR.sx (.refl _)) fun x=>?_)
  rw[this];simp
 rw[if_neg he]
 refine wpAny_bind (hR.room (by omega) fun h1 er1 ep1 t1 kr1 sb1 a1 p1=>?_)
 have hS1:SetAt w S es ep t ks h1:=hS.at (fH (Ne.symm hne) sb1)
 refine wpAny_bind (SetAt.state (s:={s with heap:=h1}) a1 ?_)
 dsimp only
 have sz1:=SetAt.sz (s:={s with heap:=h1}) a1
 have pz1:=hU (SetAt.ft (s:={s with heap:=h1}) a1)
 have fl:t1.fill≠0:=by
  unfold SetTable.fill
  have:kr1.length≠0:=by rw[p1.length_eq];exact fun z=>hkr (AA.mp z)
  omega
 have er':t1.road t= .oneByOne:=by unfold SetTable.road;rw[if_pos (by simpa using fl)]
 rw[er']
 dsimp only
 have sx1:SX w r kr h1:=SetAt.sx (s:={s with heap:=h1}) a1 p1
 refine wpAny_bind (SetAt.walk (s:={s with heap:=h1}) (ms:=kr) hS1 (fun a ha=>?_) (fun a e=>?_) fun xs h2 px k2 f2=>?_)
 ·rw [Am.mp ha];exact⟨_,sx1⟩
 ·cases e;exact⟨hne,sx1⟩
 have k2':∀b o,b≠r->h1.get? b=some o->h2.get? b=some o:=fun b o n e=>k2 b o (fun z=>n (Option.some.inj z).symm) e
 obtain⟨kx,nx,qx⟩:=Ents.perm px (SetAt.en (s:={s with heap:=h1}) hS1)
 refine wpAny_bind (PySem.MeetsSeq2.wpAny_forIn_array _ (fun cK _ s'=>∃kq acc h',Ents cK kq/\s'={s with heap:=h'}/\(∀b o,b≠r->h2.get? b=some o->h'.get? b=some o)/\SX w r acc h'/\(∀x,x∈acc\/x∈kq<->x∈kr\/x∈kx)/\acc.length+kq.length<128) _ ?_ ?_ xs _ ⟨kx,kr,h2,nx,rfl,(fun _ _ _ e=>e),f2 r rfl,fun x=>Iff.rfl,by rw[qx.length_eq];exact hl⟩)
 ·rintro x cK b s' ⟨kq,acc,h3,eq,rfl,k3,sx3,m3,l3⟩
  cases eq with
  | @cons _ k _ kq' q eq'=>
   obtain⟨tk,rfl⟩:=q
   rw[Ba]at l3
   dsimp only
   refine wpAny_bind (wpAny_holding (oP (s:={s with heap:=h3}) sx3 (by omega) fun _ h4 sb4 sx4=>?_))
   have k4:∀b o,b≠r->h2.get? b=some o->h4.get? b=some o:=fun b o n e=>fH n sb4 o (k3 b o n e)
   have hS4:SetAt w S es ep t ks h4:=hS1.at fun o e=>k4 S o (Ne.symm hne) (k2' S o (Ne.symm hne) e)
   refine wpAny_bind (heach {s with heap:=h4} _ hS4 ?_)
   refine wpAny_bind (SetAt.state (s:={s with heap:=h4}) hS4 ?_)
   dsimp only
   rw[if_neg (by simp)]
   refine wpAny_pure ⟨kq',_,h4,eq',rfl,k4,sx4,fun x=>?_,?_⟩
   ·rw [kK,<- m3 x,Al,or_assoc]
   ·have:=qI acc k;omega
 ·rintro b s' ⟨kq,acc,h3,eq,rfl,k3,sx3,m3,l3⟩
  cases eq
  refine wpAny_pure (h h3 acc (fun b o n e=>k3 b o n (k2' b o n (fH n sb1 o e))) sx3 fun x=>?_)
  rw[<- qx.mem_iff (a:=x),<- m3 x];simp
end
section
variable {P:Program} {w:World} {A:Around} {E:Value->Shared->Prop} {s:Shared} {S T r:Addr} {ks kr ms ns:List Int} {es er:Array (Int×Value)} {ep epr:Nat} {t tr:SetTable}
theorem sV {id:String} {Q:Value->Shared->Prop} (hS:SX w S ms s.heap) (hT:SX w T ns s.heap) (hne:S≠T) (hl:ms.length+ns.length<128)
  (h:∀h' ks,(∀b o,s.heap.get? b=some o->h'.get? b=some o)->SX w s.heap.objs.size ks h'->(∀x,x∈ks<->x∈ms\/x∈ns)->Q (.ref s.heap.objs.size) {s with heap:=h'}):
  wpAny (model P w) A (do
   let result <- Builtin.Frozenset.copyOf S
   if(Value.ref T != Value.ref S)=true then
    let a <- Builtin.Frozenset.addrOf result
    holding [result] (Builtin.Frozenset.updateFrom id a (.ref T))
   return result) Q E s:=by
 refine wpAny_bind (vc hS (by omega) fun h1 er ep1 tr kr kp aR pR fr=>?_)
 have lT:=hT.lt
 have hTr:s.heap.objs.size≠T:=Bv lT
 have hT1:SX w T ns h1:=hT.at (kp T)
 obtain⟨eT,epT,tT,kT,aT,pT⟩:=gD hT1
 rw[if_pos (by simp;exact fun z=>hne z.symm)]
 refine wpAny_bind (wpAny_pure (wpAny_bind (wpAny_holding ?_)))
 unfold Builtin.Frozenset.updateFrom
 refine wpAny_bind (cP (s:={s with heap:=h1}) hT1.ty ?_)
 rw[if_pos rfl]
 refine wpAny_bind (wpAny_pure ?_)
 unfold Builtin.Frozenset.merge
 refine wpAny_bind (SetAt.epoch (s:={s with heap:=h1}) aT ?_)
 have lenT:=pT.length_eq
 by_cases em:ms=[]
 ·refine iA (s:={s with heap:=h1}) (fr em) aT hTr (by omega) (fun e=>?_) fun h2 er2 ep2 tr2 kr2 _ sb2 a2 p2=>?_
  ·refine wpAny_pure (h h1 kr kp (SetAt.sx (s:={s with heap:=h1}) aR (.refl _)) fun x=>?_)
   rw[pR.mem_iff,<- pT.mem_iff (a:=x),e];simp
  ·refine wpAny_pure (h h2 kr2 (fun b o e=>fH (Ar (Heap.lt_size e)) sb2 o (kp b o e)) (SetAt.sx (s:={s with heap:=h2}) a2 (.refl _)) fun x=>?_)
   rw[p2.mem_iff,pT.mem_iff,em];simp
 ·refine oR (s:={s with heap:=h1}) aR aT hTr (by rw[pR.length_eq,lenT];exact hl) (fun z=>em ?_) (fun s' Q' a q=>lN a q) fun h2 acc k2 sx2 m2=>?_
  ·subst z;exact AA.mp (by rw[<- pR.length_eq];rfl)
  ·refine wpAny_pure (h h2 acc (fun b o e=>k2 b o (Ar (Heap.lt_size e)) (kp b o e)) sx2 fun x=>?_)
   rw[m2,pR.mem_iff,pT.mem_iff]
end
section
variable {P:Program} {w:World} {A:Around} {E:Value->Shared->Prop} {s:Shared} {S T r:Addr} {ks kr ms ns:List Int} {es er:Array (Int×Value)} {ep epr:Nat} {t tr:SetTable}
end
theorem dS:Slot "set" "__and__" "set.__and__":= .of (owner:="set") (n:="__and__") (by rw[typeLookup_type,builtinLookup_eq_fast];kernel_rfl) (by decide +kernel) (by decide +kernel) (by decide +kernel) (.inl (by decide +kernel)) (by rw[isSubtype_type];kernel_rfl)
theorem jV:entryFor table "set.__and__"=some Builtin.«frozenset.__and__»:=entryFor_alias (id':="frozenset.__and__") (by kernel_rfl) rfl (by decide +kernel) (by kernel_rfl)
theorem lO (a b:Value):argsOk "set.__and__" ⟨[a,b],[]⟩:=by unfold argsOk;kernel_rfl
theorem lP:fillsNumberSlot (.type "set") "and"=pure true:=fillsNumberSlot_of dS.lookup (by decide +kernel) (r:=some (.builtin "set.__rand__")) (by rw[typeLookup_type,builtinLookup_eq_fast];kernel_rfl)
theorem eO:Slot "set" "__or__" "set.__or__":= .of (owner:="set") (n:="__or__") (by rw[typeLookup_type,builtinLookup_eq_fast];kernel_rfl) (by decide +kernel) (by decide +kernel) (by decide +kernel) (.inl (by decide +kernel)) (by rw[isSubtype_type];kernel_rfl)
theorem lQ:entryFor table "set.__or__"=some Builtin.«frozenset.__or__»:=entryFor_alias (id':="frozenset.__or__") (by kernel_rfl) rfl (by decide +kernel) (by kernel_rfl)
theorem nA (a b:Value):argsOk "set.__or__" ⟨[a,b],[]⟩:=by unfold argsOk;kernel_rfl
theorem nB:fillsNumberSlot (.type "set") "or"=pure true:=fillsNumberSlot_of eO.lookup (by decide +kernel) (r:=some (.builtin "set.__ror__")) (by rw[typeLookup_type,builtinLookup_eq_fast];kernel_rfl)
section
variable {X:Cx}
def vS (w:World) (rel:Int->List Int->List Int->Prop):R2:=fun x y H Q=>∃a b ms ns,x= .ref a/\y= .ref b/\a≠b/\H a=some (.ext (SX w a ms))/\H b=some (.ext (SX w b ns))/\ms.length<64/\ns.length<64/\
 ∀c ks,H c=none->ks.Nodup->(∀x,x∈ks<->rel x ms ns)->Q (.ref c) (aG H c (.ext (SX w c ks)))
theorem vd (w:World) (hw:X.w=w:=by rfl):eG X (binaryOp .BitAnd) (vS w fun x ms ns=>x∈ms/\x∈ns):=by
 subst hw
 intro pins s σ H x y v u Q I rx ry h
 obtain⟨a,b,ms,ns,rfl,rfl,hne,ha,hb,l1,l2,q⟩:=h
 cases rx
 cases ry
 obtain⟨sa,_⟩:=(show ObjOk X.prog X.w H s.heap a (.ext (SX X.w a ms))from I.hok a _ ha)
 obtain⟨sb,_⟩:=(show ObjOk X.prog X.w H s.heap b (.ext (SX X.w b ns))from I.hok b _ hb)
 refine wpAny_binaryOp_same sa.ty sb.ty lP dS (wpAny_call_entry dS sa.ty jV ?_ (lO _ _))
 show wpAny _ _ (Builtin.Frozenset.slot1 "__and__" ⟨[.ref a,.ref b],[]⟩ >>= _) _ _ s
 refine wpAny_bind (wpAny_pure ?_)
 refine wpAny_bind ?_
 show wpAny _ _ (Builtin.Frozenset.isAnySet (.ref a) >>= fun c=>_) _ _ _
 refine wpAny_bind (cP sa.ty ?_)
 show wpAny _ _ (Builtin.Frozenset.isAnySet (.ref b)) _ _ _
 refine cP sb.ty ?_
 rw[if_neg (by simp)]
 refine wpAny_bind (wpAny_pure ?_)
 refine wpAny_bind (sU sa sb hne (by omega) (by omega) fun h' ks kp sx nd m=>wpAny_pure ⟨_,rfl,by simp,?_⟩)
 exact⟨.ref s.heap.objs.size,_,I.new' (s':={s with heap:=h'}) kp (Af _) rfl rfl sx.ok,rfl,q _ ks I.fresh nd m⟩
theorem xg (w:World) (hw:X.w=w:=by rfl):eG X (binaryOp .BitOr) (vS w fun x ms ns=>x∈ms\/x∈ns):=by
 subst hw
 intro pins s σ H x y v u Q I rx ry h
 obtain⟨a,b,ms,ns,rfl,rfl,hne,ha,hb,l1,l2,q⟩:=h
 cases rx
 cases ry
 obtain⟨sa,_⟩:=(show ObjOk X.prog X.w H s.heap a (.ext (SX X.w a ms))from I.hok a _ ha)
 obtain⟨sb,_⟩:=(show ObjOk X.prog X.w H s.heap b (.ext (SX X.w b ns))from I.hok b _ hb)
 refine wpAny_binaryOp_same sa.ty sb.ty nB eO (wpAny_call_entry eO sa.ty lQ ?_ (nA _ _))
 show wpAny _ _ (Builtin.Frozenset.slot1 "__or__" ⟨[.ref a,.ref b],[]⟩ >>= _) _ _ s
 refine wpAny_bind (wpAny_pure ?_)
 refine wpAny_bind ?_
 show wpAny _ _ (Builtin.Frozenset.isAnySet (.ref a) >>= fun c=>_) _ _ _
 refine wpAny_bind (cP sa.ty ?_)
 show wpAny _ _ (Builtin.Frozenset.isAnySet (.ref b)) _ _ _
 refine cP sb.ty ?_
 rw[if_neg (by simp)]
 refine wpAny_bind (wpAny_pure ?_)
 refine wpAny_bind ?_
 refine sV (id:=toString "frozenset."++toString "__or__") sa sb hne (by omega) fun h' ks kp sx m=>?_
 refine wpAny_pure ⟨_,rfl,by simp,?_⟩
 exact⟨.ref s.heap.objs.size,_,I.new' (s':={s with heap:=h'}) kp (Af _) rfl rfl sx.ok,rfl,q _ ks I.fresh sx.nd m⟩
end
def yP (K:PySem.W.Frag) (a b:Addr):It:=
  ⟨fun i H=>∃xs ys x y,SqL K H a xs/\SqL K H b ys/\xs[i]?=some x/\ys[i]?=some y,
   fun i H v H'=>∃p x y,H p=none/\(∀xs,SqL K H a xs->xs[i]?=some x)/\(∀ys,SqL K H b ys->ys[i]?=some y)/\v= .ref p/\H'=aG H p (.tup [x,y]),
   fun i H=>∃xs ys,SqL K H a xs/\SqL K H b ys/\xs.length<=i⟩
theorem sW {fs ex:List Addr} {H:Hp} {h h':Heap} (k:∀b o,b∉ex->h.get? b=some o->h'.get? b=some o):Un fs ex H H h h' where
 keep:=fun b o q _ _ hx=>k b o hx q
 slot:=fun b o q _ _ hx=>⟨o.slots,k b o hx q⟩
 free:=fun _ _ _ n _=>n
 there:=fun b o q hx=>⟨o,k b o hx q⟩
 tups:=fun _ _ q=>q
 frzs:=fun _ _ _ q=>q
 tbls:=fun b ps q=>⟨#[],by rw[q];simp⟩
theorem sX {P:Program} {w:World} {K:PySem.W.Frag} {es:List Expr} {k1:Nat} {pos:Pos} (z TI TO i1 i2 l1 l2:Addr) (D:ZipApart z TI TO i1 i2 l1 l2):
  Turn P w K (.Tuple es k1 pos) (yP K l1 l2) [z,TI,TO,i1,i2] z (fun i h=>IsZip h z TI TO .none/\IsPair h TI (.ref i1) (.ref i2)/\(∃a b,IsPair h TO a b)/\h.IsListIter i1 l1 i/\h.IsListIter i2 l2 i) where
 mem:=by simp
 obj:=fun i h st b hb=>by
  obtain⟨hz,hTI,⟨a,c,hTO⟩,⟨o1,e1,c1,d1⟩,⟨o2,e2,c2,d2⟩⟩:=st
  simp only[Al,AK,or_false]at hb
  rcases hb with e | e | e | e | e<;>subst e
  ·exact⟨_,hz,fun v y=>by have y':Data.fields _=Data.cell v:=y;cases y'⟩
  ·exact⟨_,hTI,fun v y=>by have y':Data.seq _ _=Data.cell v:=y;cases y'⟩
  ·exact⟨_,hTO,fun v y=>by have y':Data.seq _ _=Data.cell v:=y;cases y'⟩
  ·exact⟨o1,e1,fun v y=>by rw[d1]at y;cases y⟩
  ·exact⟨o2,e2,fun v y=>by rw[d2]at y;cases y⟩
 keep:=fun i h h' st k=>by
  obtain⟨hz,hTI,⟨a,c,hTO⟩,h1,h2⟩:=st
  exact⟨k z (by simp) _ hz,k TI (by simp) _ hTI,⟨a,c,k TO (by simp) _ hTO⟩,h1.at fun o e=>k i1 (by simp) o e,h2.at fun o e=>k i2 (by simp) o e⟩
 item:=by
  intro X hP hw hK hc i pins s σ H E I hf st hg
  subst hP hw hK
  obtain⟨xs,ys,x,y,hq1,hq2,hx,hy⟩:=hg
  obtain⟨its1,rv1,p1,_⟩:=I.list hq1
  obtain⟨its2,rv2,p2,_⟩:=I.list hq2
  obtain⟨u,hu,ru⟩:=rv1.get hx
  obtain⟨v,hv,rv⟩:=rv2.get hy
  obtain⟨hz,hTI,⟨a,c,hTO⟩,h1,h2⟩:=st
  refine wpAny_pyNext_zip_item D hz hTI hTO h1 h2 p1.isList p2.isList (x:=u) (y:=v) (by simpa using hu) (by simpa using hv) fun h' a1 a2 a3 a4 a5 a6 kp=>?_
  refine⟨_,rfl,wpAny_letOwnedTupleGo_zip a1 fun h2' z2 sb=>?_⟩
  have lt:∀{c o},s.heap.get? c=some o->s.heap.objs.size≠c:=fun e=>Bv (Heap.lt_size e)
  have kp2:∀b o,b∉[z,TI,TO,i1,i2]->s.heap.get? b=some o->h2'.get? b=some o:=fun b o hb e=>by
   simp only[Al,AK,or_false,not_or]at hb
   exact(sb.2 b hb.1).trans (kp b o hb.1 hb.2.2.1 hb.2.2.2.1 hb.2.2.2.2 e)
  have nz:=lt hz
  have nTI:=lt hTI
  have nTO:=lt hTO
  have n1:s.heap.objs.size≠i1:=by obtain⟨_,e,_⟩:=h1;exact lt e
  have n2:s.heap.objs.size≠i2:=by obtain⟨_,e,_⟩:=h2;exact lt e
  have fr:H s.heap.objs.size=none:=I.fresh
  have e3:h2'.get? s.heap.objs.size=some {cls:= .type "tuple",data:= .seq #[u,v]}:=(sb.2 _ nz).trans a5
  have hch:∀b∈[z,TI,TO,i1,i2],(b∈X.ex\/X.s₀.heap.objs.size<=b)/\b≠X.env.locals/\(∀x c,X.env.cells.lookup x=some c->c≠b)/\∀p∈X.pn++pins,p.1≠b:=fun b hb=>by
   obtain⟨f0,f1,f2,f3,f4,f5⟩:=hf b hb
   exact⟨f3,f1,f4,f5⟩
  have off:∀b o,H b=some o->b∉[z,TI,TO,i1,i2]:=fun b o e m=>by rw[(hf b m).1]at e;cases e
  have hok1:HOk X.prog X.w H h2':=fun b o e=>(I.hok b o e).stay (fun c oc hc q=>kp2 c oc (by rcases hc with y | y;exact(by rw[y];exact off b o e);exact off c _ y) q) (fun _ q=>q) fun _ _ q=>q
  have I2:Inv X pins σ (aG H s.heap.objs.size (.tup [x,y])) {s with heap:=h2'}:=by
   have un:Un (gq X.stack) [z,TI,TO,i1,i2] H (aG H s.heap.objs.size (.tup [x,y])) s.heap h2':={
    keep:=fun b o q _ _ hx=>kp2 b o hx q
    slot:=fun b o q _ _ hx=>⟨o.slots,kp2 b o hx q⟩
    free:=fun b o q n hx=>by rw[aE (Ar (Heap.lt_size q))];exact n
    there:=fun b o q hx=>⟨o,kp2 b o hx q⟩
    tups:=fun b xs q=>by rw[aE (aX q fr)];exact q
    frzs:=fun b o xs q=>by rw[aE (aX q fr)];exact q
    tbls:=fun b ps q=>⟨#[],by rw[aE (aX q fr),q];simp⟩}
   refine I.call' (s':={s with heap:=h2'}) (ch:=[z,TI,TO,i1,i2]) rfl un (fun b o e=>?_) I.bare hch
   by_cases hb:b=s.heap.objs.size
   ·subst hb
    rw[af]at e
    cases e
    refine⟨cE,[u,v],.cons ru (.cons rv .nil),_,e3,rfl,_,rfl⟩
   ·rw [aE hb]at e
    refine(hok1 b o e).stay (fun _ _ _ q=>q) (fun c q=>by rw[aE (aX q fr)];exact q) fun c xs q=>by rw[aE (aX q fr)];exact q
  refine⟨.ref s.heap.objs.size,_,I2,rfl,⟨_,x,y,fr,fun xs' h=>by rw[I.list_inj h hq1];exact hx,fun ys' h=>by rw[I.list_inj h hq2];exact hy,rfl,rfl⟩,⟨z2,?_,⟨u,v,?_⟩,?_,?_⟩,fun b hb=>?_⟩
  ·exact(sb.2 TI D.TIz).trans (kp TI _ D.TIz D.TITO D.TIi1 D.TIi2 hTI)
  ·exact(sb.2 TO D.TOz).trans a2
  ·exact a3.at fun o e=>(sb.2 i1 D.i1z).trans e
  ·exact a4.at fun o e=>(sb.2 i2 D.i2z).trans e
  ·have hne:b≠s.heap.objs.size:=fun q=>by
    subst q
    simp only[Al,AK,or_false]at hb
    rcases hb with e | e | e | e | e
    ·exact nz e
    ·exact nTI e
    ·exact nTO e
    ·exact n1 e
    ·exact n2 e
   rw[aE hne];exact(hf b hb).1
 done:=by
  intro X hP hw hK hc i pins s σ H E I hf st hg
  subst hP hw hK
  obtain⟨xs,ys,hq1,hq2,hx⟩:=hg
  obtain⟨its1,rv1,p1,_⟩:=I.list hq1
  obtain⟨its2,rv2,p2,_⟩:=I.list hq2
  obtain⟨hz,hTI,⟨a,c,hTO⟩,h1,h2⟩:=st
  have hl:=rv1.length
  have off:∀b o,H b=some o->b∉[z,TI,TO,i1,i2]:=fun b o e m=>by rw[(hf b m).1]at e;cases e
  refine wpAny_pyNext_zip_end (I.ok.hd hc) D hz hTI hTO h1 h2 p1.isList p2.isList (.inl (by simp;omega)) fun h' kp=>⟨rfl,?_⟩
  have kp2:∀b o,b∉[z,TI,TO,i1,i2]->s.heap.get? b=some o->h'.get? b=some o:=fun b o hb e=>by
   simp only[Al,AK,or_false,not_or]at hb
   exact kp b o hb.1 hb.2.2.1 hb.2.2.2.1 hb.2.2.2.2 e
  refine I.call' (s':={s with heap:=h'}) (ch:=[z,TI,TO,i1,i2]) rfl (sW kp2) (fun b o e=>(I.hok b o e).stay (fun c oc hc q=>kp2 c oc (by rcases hc with y | y;exact(by rw[y];exact off b o e);exact off c _ y) q) (fun _ q=>q) fun _ _ q=>q) I.bare fun b hb=>?_
  obtain⟨f0,f1,f2,f3,f4,f5⟩:=hf b hb
  exact⟨f3,f1,f4,f5⟩
 self:=fun _ _ _ _ _ st h=>wpAny_pyIter_zip st.1 h
theorem qJ (n l1 l2:Nat) (t1:l1<n) (t2:l2<n):ZipApart (n+4) (n+2) (n+3) n (n+1) l1 l2:=by
 constructor<;>first | exact Ar (by omega) | exact Bv (by omega)
section
variable {X:Cx}
def zf (K:PySem.W.Frag) (ta:TA):TI:=fun σ H R=>ta σ H fun vs H1=>∃a b xs ys,vs=[.ref a,.ref b]/\SqL K H1 a xs/\SqL K H1 b ys/\R (yP K a b) H1
theorem oS {a b:Expr} {ta:TA} {p pos tp:Pos} {es:List Expr} {k1:Nat} (K:PySem.W.Frag) (hg:Gl X "zip") (hm:X.mg "zip"=none) (ha:PA X [a,b] ta) (hK:X.K=K:=by rfl) (hs:starEach [a,b] X.env=[(false,eval a X.env),(false,eval b X.env)]:=by rfl) (hs2:starEach [b] X.env=[(false,eval b X.env)]:=by rfl):
  PI X (.Tuple es k1 tp) (.Call (.Name "zip" p) [a,b] [] pos) (zf K ta):=by
 subst hK
 intro pins s σ H R I h
 refine Call_ (dM I hg hm boot_zip (PyProof.Rows.callWith_type1 (bF (ha pos pins s σ H _ I h) fun us s1 ⟨vs,H1,I1,r1,q1⟩=>?_) (by rw[hs,hs2]) (by rw[hs2];rfl)))
 obtain⟨l1,l2,xs,ys,e,hq1,hq2,q⟩:=q1
 subst e
 cases r1 with
 | cons r rr=>
  cases rr with
  | cons r' rr=>
   cases rr
   cases r
   cases r'
   obtain⟨its1,rv1,p1,_⟩:=I1.list hq1
   obtain⟨its2,rv2,p2,_⟩:=I1.list hq2
   have t1:l1<s1.heap.objs.size:=by obtain⟨o,e,_⟩:=p1.isList;exact Heap.lt_size e
   have t2:l2<s1.heap.objs.size:=by obtain⟨o,e,_⟩:=p2.isList;exact Heap.lt_size e
   refine call_zip_2 p1.isList p2.isList fun h' hz hTI hTO h1 h2 hsz kp=>?_
   refine wpAny_pyIter_zip hz ?_
   have D:=qJ s1.heap.objs.size l1 l2 t1 t2
   have I2:Inv X pins σ H1 {s1 with heap:=h'}:=I1.kept (t':=s1.toks) kp
   refine⟨_,[s1.heap.objs.size+4,s1.heap.objs.size+2,s1.heap.objs.size+3,s1.heap.objs.size,s1.heap.objs.size+1],_,_,H1,rfl,I2,sX _ _ _ _ _ _ _ D,⟨hz,hTI,⟨_,_,hTO⟩,h1,h2⟩,fun b hb=>?_,q⟩
   have le:s1.heap.objs.size<=b:=by
    simp only[Al,AK,or_false]at hb
    rcases hb with e | e | e | e | e<;>subst e
    ·exact BR _ _
    ·exact BR _ _
    ·exact BR _ _
    ·exact Af _
    ·exact BR _ _
   exact I1.fpOk le (I1.hok.fresh le)
end
section
variable {X:Cx}
end
section
variable {X:Cx}
end
section
variable {X:Cx}
end
theorem iS (bt:Nat->Nat->Bool):∀k,argBest bt k<=k
 | 0=>Af _
 | k+1=>by
  unfold argBest
  split
  ·exact Af _
  ·have:=iS bt k;omega
theorem jm (val:Nat->Int):∀k i,i<=k->val i<=val (argBest (fun i j=>decide (val i>val j)) k)
 | 0,i,h=>by
  have:i=0:=by omega
  subst this;exact Int.le_refl _
 | k+1,i,h=>by
  unfold argBest
  by_cases c:val (k+1)>val (argBest (fun i j=>decide (val i>val j)) k)
  ·rw [if_pos (decide_eq_true c)]
   by_cases z:i=k+1
   ·subst z;exact Int.le_refl _
   ·have:=jm val k i (by omega);omega
  ·rw [if_neg (by simpa using c)]
   by_cases z:i=k+1
   ·subst z;omega
   ·exact jm val k i (by omega)
theorem gE (val:Nat->Int):∀k i,i<=k->val (argBest (fun i j=>decide (val i<val j)) k)<=val i
 | 0,i,h=>by
  have:i=0:=by omega
  subst this;exact Int.le_refl _
 | k+1,i,h=>by
  unfold argBest
  by_cases c:val (k+1)<val (argBest (fun i j=>decide (val i<val j)) k)
  ·rw [if_pos (decide_eq_true c)]
   by_cases z:i=k+1
   ·subst z;exact Int.le_refl _
   ·have:=gE val k i (by omega);omega
  ·rw [if_neg (by simpa using c)]
   by_cases z:i=k+1
   ·subst z;omega
   ·exact gE val k i (by omega)
section
variable {X:Cx}
theorem zz (K:PySem.W.Frag) (hc:X.calm=true:=by rfl) (h:X.K=K:=by rfl):cg X (.builtin "max") (fun xs H Q=>∃(p:Addr) (ns:List Int),xs=[.ref p]/\SqL K H p (ns.map V.int)/\ns≠[]/\∀m,m∈ns->(∀x∈ns,x<=m)->Q (.int m) H):=by
 subst h
 intro pins s σ H xs us Q I r h
 obtain⟨p,ns,e,hq,hne0,q⟩:=h
 subst e
 obtain⟨u,e,rx⟩:=dE r
 subst e
 cases rx
 obtain⟨its,rv,pl,hz⟩:=I.list hq
 have hl:=rv.length
 rw[zZ]at hl
 have h0:0<ns.length:=List.length_pos_iff.mpr hne0
 refine call_max_walk (wpAny_pyIter_list pl.isList ?_)
 have hlt:p<s.heap.objs.size:=by
  obtain⟨o,ho,_⟩:=pl.isList
  exact Heap.lt_size ho
 have hval:∀(i:Nat) (v:Value),its.toArray[i]?=some v->∃t,v= .int (ns.getD i 0) t:=fun i v hi=>by
  have hi':its[i]?=some v:=by simpa using hi
  have h2:i<ns.length:=by rw[hl];exact(Ac.mp hi').1
  obtain⟨u,eu,ru⟩:=rv.get (i:=i) (x:= .int ns[i]) (by simp[h2])
  rw[hi']at eu
  cases eu
  obtain⟨t,e⟩:=ru
  exact⟨t,by rw[e];simp[h2]⟩
 refine⟨s.heap.objs.size,_,_,_,_,_,_,rfl,Walks.list (A:=X.A.in1) (show X.A.in1.handled=none from I.ok.hd hc) _ p (Ar hlt) its.toArray,?_,?_,by rw[Ak];omega,CmpOf.ints_gt (fun i=>ns.getD i 0) hval,?_⟩
 ·refine⟨⟨_,Heap.get?_push_size _ rfl,rfl,rfl⟩,?_⟩
  obtain⟨o,ho,z⟩:=pl.isList
  exact⟨o,Heap.get?_push_of_some _ ho,z⟩
 ·intro b hb
  rw[Heap.size_push]
  simp only[Al,AK,or_false]at hb
  rcases hb with z | z<;>subst z
  ·exact A1 _
  ·exact AX hlt
 ·intro v h' tk hP kp
  obtain⟨t,rfl⟩:=hval _ _ hP
  have hb:=iS (fun i j=>decide (ns.getD i 0>ns.getD j 0)) (its.toArray.size-1)
  have hs:its.toArray.size=ns.length:=by rw[Ak];omega
  rw[hs]at hb
  refine⟨.int _,H,I.kept (fun b o e=>kp b o ?_ (Heap.get?_push_of_some _ e)),⟨t,rfl⟩,q _ ?_ fun x hx=>?_⟩
  ·have:=Heap.lt_size e
   intro z
   rw[Am]at z
   exact absurd this (by rw[z];exact A4 _)
  ·rw [hs,a9 (by omega)];exact Ax _
  ·obtain⟨j,hj,ej⟩:=Ap.mp hx
   have:=jm (fun i=>ns.getD i 0) (ns.length-1) j (by omega)
   rw[hs]
   rw[a9 hj,ej]at this
   exact this
theorem yo (K:PySem.W.Frag) (hc:X.calm=true:=by rfl) (h:X.K=K:=by rfl):cg X (.builtin "min") (fun xs H Q=>∃(p:Addr) (ns:List Int),xs=[.ref p]/\SqL K H p (ns.map V.int)/\ns≠[]/\∀m,m∈ns->(∀x∈ns,m<=x)->Q (.int m) H):=by
 subst h
 intro pins s σ H xs us Q I r h
 obtain⟨p,ns,e,hq,hne0,q⟩:=h
 subst e
 obtain⟨u,e,rx⟩:=dE r
 subst e
 cases rx
 obtain⟨its,rv,pl,hz⟩:=I.list hq
 have hl:=rv.length
 rw[zZ]at hl
 have h0:0<ns.length:=List.length_pos_iff.mpr hne0
 refine call_min_walk (wpAny_pyIter_list pl.isList ?_)
 have hlt:p<s.heap.objs.size:=by
  obtain⟨o,ho,_⟩:=pl.isList
  exact Heap.lt_size ho
 have hval:∀(i:Nat) (v:Value),its.toArray[i]?=some v->∃t,v= .int (ns.getD i 0) t:=fun i v hi=>by
  have hi':its[i]?=some v:=by simpa using hi
  have h2:i<ns.length:=by rw[hl];exact(Ac.mp hi').1
  obtain⟨u,eu,ru⟩:=rv.get (i:=i) (x:= .int ns[i]) (by simp[h2])
  rw[hi']at eu
  cases eu
  obtain⟨t,e⟩:=ru
  exact⟨t,by rw[e];simp[h2]⟩
 refine⟨s.heap.objs.size,_,_,_,_,_,_,rfl,Walks.list (A:=X.A.in1) (show X.A.in1.handled=none from I.ok.hd hc) _ p (Ar hlt) its.toArray,?_,?_,by rw[Ak];omega,CmpOf.ints_lt (fun i=>ns.getD i 0) hval,?_⟩
 ·refine⟨⟨_,Heap.get?_push_size _ rfl,rfl,rfl⟩,?_⟩
  obtain⟨o,ho,z⟩:=pl.isList
  exact⟨o,Heap.get?_push_of_some _ ho,z⟩
 ·intro b hb
  rw[Heap.size_push]
  simp only[Al,AK,or_false]at hb
  rcases hb with z | z<;>subst z
  ·exact A1 _
  ·exact AX hlt
 ·intro v h' tk hP kp
  obtain⟨t,rfl⟩:=hval _ _ hP
  have hb:=iS (fun i j=>decide (ns.getD i 0<ns.getD j 0)) (its.toArray.size-1)
  have hs:its.toArray.size=ns.length:=by rw[Ak];omega
  rw[hs]at hb
  refine⟨.int _,H,I.kept (fun b o e=>kp b o ?_ (Heap.get?_push_of_some _ e)),⟨t,rfl⟩,q _ ?_ fun x hx=>?_⟩
  ·have:=Heap.lt_size e
   intro z
   rw[Am]at z
   exact absurd this (by rw[z];exact A4 _)
  ·rw [hs,a9 (by omega)];exact Ax _
  ·obtain⟨j,hj,ej⟩:=Ap.mp hx
   have:=gE (fun i=>ns.getD i 0) (ns.length-1) j (by omega)
   rw[hs]
   rw[a9 hj,ej]at this
   exact this
end
section
open PySem.AutoSeq1 (wpAny_loadPart')
open PySem.MeetsSeq PySem.MeetsSeq2 PySem.MeetsSeq3
end
section
variable {X:Cx}
end
theorem cQ {J:It} {H1:Hp} {js:List (Option Nat)} {σ:L2.St} {tc:TT} {te:TE} {Q:VK} (n:Nat) (item:Nat->V) (p:Nat->Bool) (P:Addr->Nat->V->Hp->Prop) (hn:n<100000)
  (mono:∀acc i v H H',P acc i v H->SameBut acc H H'->P acc i v H')
  (hgo:∀i H,i<n->Same H1 H->J.go i H) (hst:∀H,Same H1 H->J.stop n H) (hy:∀i H x H',i<n->Same H1 H->J.yld i H x H'->H'=H/\x=item i)
  (hc:∀i,i<n->∀H2 R,Same H1 H2->(∀H3,Same H2 H3->R (p i) H3)->tc (some (item i) :: bV σ js) H2 R)
  (he:∀acc i,i<n->p i=true->∀H2 R,Same H1 H2->H1 acc=none->H2 acc≠none->(∀v H3,Same H2 H3->P acc i v H3->R v H3)->te (some (item i) :: bV σ js) H2 R)
  (hQ:∀acc vs H',Same H1 H'->H1 acc=none->H' acc=some (.lst vs)->Paired (fun i v=>P acc i v H') ((Ad n).filter p) vs->Q (.ref acc) H'):
  cv J H1 (none :: js) (bD 0) tc te σ Q:=by
 intro acc hacc
 refine⟨fun i m ys H=>m=n-i/\i<=n/\Same H1 H/\H acc=some (.lst ys)/\Paired (fun k v=>P acc k v H) ((Ad i).filter p) ys,⟨n,by simp,Az _,Same.new hacc,af,.nil⟩,?_⟩
 rintro i m ys H ⟨rfl,hi,s1,ha,hp⟩
 by_cases hlt:i<n
 ·refine .inr ⟨hgo i H hlt s1,fun ys' H'=>i<n/\Same H1 H'/\H' acc=some (.lst ys')/\Paired (fun k v=>P acc k v H') ((Ad (i+1)).filter p) ys',fun ys' H' ⟨z,a,b,c⟩=>⟨n-(i+1),AZ _ _ hlt,rfl,hlt,a,b,c⟩,fun x H' y=>?_⟩
  obtain⟨rfl,rfl⟩:=hy i H x H' hlt s1 y
  refine⟨so,hc i hlt _ _ s1 fun H2 s2=>⟨fun hb=>?_,fun hb=>?_⟩⟩
  ·have ha2:=s2 _ _ ha
   refine he acc i hlt hb _ _ (s1.trans s2) hacc (by rw[ha2];simp) fun v H3 s3 pv=>?_
   have hlen:ys.length<=i:=by
    rw[<- Paired.length hp]
    exact AC (AL _ _) (by simp)
   refine⟨s3 _ _ ha2,oi (by omega),hlt,((s1.trans s2).trans s3).put hacc,af,?_⟩
   rw[A0,AS]
   have e:BS p [i]=[i]:=by simp[hb]
   rw[e]
   refine Paired.snoc (Paired.mapP hp fun k v q=>?_) ?_
   ·exact mono acc k v _ _ (mono acc k v _ _ q (s2.trans s3).but) SameBut.upd
   ·exact mono acc i v _ _ pv SameBut.upd
  ·refine⟨hlt,s1.trans s2,s2 _ _ ha,?_⟩
   rw[A0,AS]
   have e:BS p [i]=[]:=by simp[hb]
   rw[e,Bo]
   exact Paired.mapP hp fun k v q=>mono acc k v _ _ q s2.but
 ·have e:i=n:=Bn hi (A9 hlt)
  subst e
  exact .inl ⟨hst H s1,hQ acc ys H s1 hacc ha hp⟩
theorem h8 {H1:Hp} {js:List (Option Nat)} {σ:L2.St} {tc:TT} {te:TE} {Q:VK} {n:Nat} (p:Nat->Bool) (hn:n<100000)
  (hc:∀i:Nat,i<n->∀H2 R,Same H1 H2->(∀H3,Same H2 H3->R (p i) H3)->tc (some (.int (0+(i:Int))) :: bV σ js) H2 R)
  (he:∀i:Nat,i<n->∀H2 R,R (.int ((i:Nat):Int)) H2->te (some (.int (0+(i:Int))) :: bV σ js) H2 R)
  (hQ:∀acc H',Same H1 H'->H1 acc=none->H' acc=some (.lst (((Ad n).filter p).map fun(i:Nat)=>V.int (i:Int)))->Q (.ref acc) H'):cv (og 0 n) H1 (none :: js) (bD 0) tc te σ Q:=
 cQ (J:=og 0 n) (H1:=H1) (js:=js) (σ:=σ) (tc:=tc) (te:=te) (Q:=Q) n (fun i=> .int (0+(i:Int))) p (fun _ i v _=>v=V.int (i:Int)) hn (fun _ _ _ _ _ h _=>h)
  (fun _ _ h _=>h) (fun _ _=>Af _) (fun _ _ _ _ _ _ y=>y) hc (fun _ i hi _ H2 R s _ _ k=>he i hi H2 R (k _ H2 (Same.refl _) rfl))
  fun acc vs H' s n' e p=>hQ acc H' s n' (by rw[e,cF p])
theorem Same.seqT {K:PySem.W.Frag} {H H':Hp} {a:Addr} {xs:List V} (e:Same H H') (h:SqT K H a xs):SqT K H' a xs:=by
 rcases h with(h | ⟨o,h⟩) | h
 ·exact .inl (.inl (e _ _ h))
 ·exact .inl (.inr ⟨o,e _ _ h⟩)
 ·exact .inr h
theorem nC {K:PySem.W.Frag} {H1:Hp} {js:List (Option Nat)} {σ:L2.St} {tc:TT} {te:TE} {Q:VK} {a:Addr} {xs:List V} (p:Nat->Bool) (f:Nat->V) (hl:SqT K H1 a xs) (hn:xs.length<100000)
  (hc:∀(i:Nat) x,xs[i]?=some x->∀H2 R,Same H1 H2->(∀H3,Same H2 H3->R (p i) H3)->tc (some x :: bV σ js) H2 R)
  (he:∀(i:Nat) x,xs[i]?=some x->p i=true->∀H2 R,Same H1 H2->(∀H3,Same H2 H3->R (f i) H3)->te (some x :: bV σ js) H2 R)
  (hQ:∀acc H',Same H1 H'->H1 acc=none->H' acc=some (.lst (((Ad xs.length).filter p).map f))->Q (.ref acc) H'):cv (vI K a) H1 (none :: js) (bD 0) tc te σ Q:=
 cQ (J:=vI K a) (H1:=H1) (js:=js) (σ:=σ) (tc:=tc) (te:=te) (Q:=Q) xs.length (fun i=>xs.getD i .non) p (fun _ i v _=>v=f i) hn (fun _ _ _ _ _ h _=>h)
  (fun i H h s=>⟨xs,xs[i],Same.seqT s hl,by simp[h]⟩) (fun H s=>⟨xs,Same.seqT s hl,Af _⟩)
  (fun i H x H' h s y=>⟨y.1,by have e:=y.2 xs (Same.seqT s hl);simp[e]⟩)
  (fun i h H2 R s k=>hc i _ (by simp[h]) H2 R s k) (fun acc i h hp H2 R s n1 n2 k=>he i _ (by simp[h]) hp H2 R s fun H3 s3=>k _ H3 s3 rfl)
  fun acc vs H' s n' e p=>hQ acc H' s n' (by rw[e,cF p])
def uA (f:Nat->Int) (st:List Nat):Nat:=(dd (st.map f)).length
theorem bA {K:PySem.W.Frag} {H1:Hp} {js:List (Option Nat)} {σ:L2.St} {tc:TT} {te:TE} {Q:VK} {a:Addr} {xs:List V} (p:Nat->Bool) (f:Nat->V) (hl:SqL K H1 a xs) (hn:xs.length<100000)
  (hc:∀(i:Nat) x,xs[i]?=some x->∀H2 R,Same H1 H2->(∀H3,Same H2 H3->R (p i) H3)->tc (some x :: bV σ js) H2 R)
  (he:∀(i:Nat) x,xs[i]?=some x->p i=true->∀H2 R,Same H1 H2->(∀H3,Same H2 H3->R (f i) H3)->te (some x :: bV σ js) H2 R)
  (hQ:∀acc H',Same H1 H'->H1 acc=none->H' acc=some (.lst (((Ad xs.length).filter p).map f))->Q (.ref acc) H'):cv (oo K a) H1 (none :: js) (bD 0) tc te σ Q:=
 cQ (J:=oo K a) (H1:=H1) (js:=js) (σ:=σ) (tc:=tc) (te:=te) (Q:=Q) xs.length (fun i=>xs.getD i .non) p (fun _ i v _=>v=f i) hn (fun _ _ _ _ _ h _=>h)
  (fun i H h s=>⟨xs,xs[i],s.seq hl,by simp[h]⟩) (fun H s=>⟨xs,s.seq hl,Af _⟩)
  (fun i H x H' h s y=>⟨y.1,by have e:=y.2 xs (s.seq hl);simp[e]⟩)
  (fun i h H2 R s k=>hc i _ (by simp[h]) H2 R s k) (fun acc i h hp H2 R s n1 n2 k=>he i _ (by simp[h]) hp H2 R s fun H3 s3=>k _ H3 s3 rfl)
  fun acc vs H' s n' e p=>hQ acc H' s n' (by rw[e,cF p])
theorem zg {α:Type} {st:List Nat} {g:Nat->Bool} {F:Nat->α}:(((Ad st.length).filter fun j=>g (st.getD j 0)).map fun j=>F (st.getD j 0))=(st.filter g).map F:=by
 have e0:st=(Ad st.length).map fun i=>st.getD i 0:=by
  apply Bb
  ·simp
  ·intro i h1 h2;simp[h1]
 conv=>rhs;rw[e0]
 rw[BJ,Au]
 rfl
def brk (f:Nat->Int) (n:Nat) (wd:Str) (k:Int) (st:List Nat):Bool:=
 if wd="most" then decide (k<((uA f (st.filter fun i=>decide (i<n)):Nat):Int))else decide (((uA f (st.filter fun i=>decide (i<n)):Nat):Int)+(st.length:Int)-((st.filter fun i=>decide (i<n)).length:Int)<k)
def fx (hs:List Int) (x:Int):Nat:=hs.findIdx fun y=>decide (y=x)
def ve (hs:List Int) (k:Nat):Nat:=(dd (hs.take (fx hs (hs.getD k 0)))).length
def mG (hs:List Int):List Nat:=(Ad hs.length).map (ve hs)
theorem fm {hs:List Int}:(mG hs).length=hs.length:=by unfold mG;simp
theorem oT {hs:List Int} {k:Nat} (h:k<hs.length):(mG hs)[k]?=some (ve hs k):=by
 unfold mG
 rw[Ae,AN h];rfl
theorem iB {H1:Hp} {js:List (Option Nat)} {σ:L2.St} {te:TE} {Q:VK} {n:Nat} (f:Nat->List V) (hn:n<100000)
  (he:∀i:Nat,i<n->∀H2 R,Same H1 H2->(∀r H3,Same H2 H3->H2 r=none->H3 r=some (.lst (f i))->R (.ref r) H3)->te (some (.int (0+(i:Int))) :: bV σ js) H2 R)
  (hQ:∀acc (rs:List Addr) H',Same H1 H'->H1 acc=none->H' acc=some (.lst (rs.map V.ref))->rs.length=n->(∀(i:Nat) r,rs[i]?=some r->H' r=some (.lst (f i))/\H1 r=none)->(∀r∈rs,r≠acc)->Q (.ref acc) H'):
  cv (og 0 n) H1 (none :: js) (bD 0) fC te σ Q:=
 cQ (J:=og 0 n) (H1:=H1) (js:=js) (σ:=σ) (tc:=fC) (te:=te) (Q:=Q) n (fun i=> .int (0+(i:Int))) (fun _=>true) (fun acc i v H=>∃r,v= .ref r/\r≠acc/\H1 r=none/\H r=some (.lst (f i))) hn
  (fun acc i v H H' ⟨r,e,n,h0,h⟩ s=>⟨r,e,n,h0,s r _ n h⟩) (fun _ _ h _=>h) (fun _ _=>Af _) (fun _ _ _ _ _ _ y=>y) (fun _ _ _ _ _ h=>h _ (Same.refl _))
  (fun acc i hi _ H2 R s n1 n2 k=>he i hi H2 R s fun r H3 s3 nr h3=>k _ H3 s3 ⟨r,rfl,fun z=>n2 (by rw[<- z];exact nr),s.free nr,h3⟩)
  fun acc vs H' s n' e p=>by
   rw[AG.mpr (fun _ _=>rfl)]at p
   have hl:vs.length=n:=by rw[<- Paired.length p,AD]
   have all:∀(i:Nat) v,vs[i]?=some v->∃r,v= .ref r/\r≠acc/\H1 r=none/\H' r=some (.lst (f i)):=fun i v hv=>by
    obtain⟨k,hk,q⟩:=cH p hv
    have hi:i<n:=by rw[<- hl];exact(Ac.mp hv).1
    rw[AN hi]at hk
    cases hk
    exact q
   have ex:∃rs:List Addr,vs=rs.map V.ref:=by
    refine⟨vs.map fun v=>match v with | .ref r=>r | _=>0,?_⟩
    rw[Au]
    apply Bb
    ·simp
    ·intro i h1 h2
     obtain⟨r,er,_⟩:=all i vs[i] (Aa h1)
     rw[By]
     show vs[i]=V.ref (match vs[i]with | .ref r=>r | _=>0)
     rw[er]
   obtain⟨rs,rfl⟩:=ex
   rw[zZ]at hl
   refine hQ acc rs H' s n' e hl (fun i r hr=>?_) fun r hr=>?_
   ·obtain⟨r',er,_,h1,h2⟩:=all i (.ref r) (by rw[Ae,hr];rfl)
    cases er
    exact⟨h2,h1⟩
   ·obtain⟨i,hi,ei⟩:=Ap.mp hr
    obtain⟨r',er,h0,_⟩:=all i (.ref r) (by rw[Ae,Aa hi,ei];rfl)
    cases er
    exact h0
theorem sY {l r:List Int} {b:Int} (h:b∈l):fx (l++r) b=fx l b:=by
 have hl:fx l b<l.length:=BP ⟨b,h,by simp⟩
 unfold fx at*
 rw[List.findIdx_append,if_pos hl]
theorem xh {l:List Int} {b:Int} (h:b∉l):fx (l++[b]) b=l.length:=by
 have hl:¬fx l b<l.length:=fun z=>by
  have:=List.findIdx_getElem (xs:=l) (p:=fun y=>decide (y=b)) (w:=z)
  exact h (by rw[<- of_decide_eq_true this];exact Ax _)
 unfold fx at*
 rw[List.findIdx_append,if_neg hl]
 simp[List.findIdx_cons]
theorem tj {l:List Int} {b:Int} (h:b∈l):fx l b<l.length:=BP ⟨b,h,by simp⟩
section
variable {X:Cx}
end
def num (hs:List Int) (b:Int):Nat:=(dd (hs.take (fx hs b))).length
theorem lR (hs:List Int):mG hs=hs.map (num hs):=by
 apply Bb
 ·rw [fm,zZ]
 ·intro i h1 h2
  rw[fm]at h1
  have:=oT h1
  rw[Aa (by rw[fm];exact h1)]at this
  rw[Option.some.inj this,By]
  unfold ve num
  rw[a9 h1]
theorem tD {hs:List Int} {k:Nat} (h:k<=hs.length):mG (hs.take k)=(mG hs).take k:=by
 rw[lR,lR,<- List.map_take]
 apply Bh
 intro b hb
 have e:fx (hs.take k) b=fx hs b:=by
  have:=sY (r:=hs.drop k) hb
  rw[BQ]at this
  exact this.symm
 unfold num
 rw[e,List.take_take,BE]
 have:=tj hb
 rw[A6]at this
 omega
section
variable {X:Cx} {tg l:Expr} {tl:TE}
def zh (K:PySem.W.Frag) (tl:TE):TI:=fun σ H R=>tl σ H fun x H1=>∃a,x= .ref a/\((∃xs,SqL K H1 a xs)/\R (oo K a) H1\/(∃xs,SqT K H1 a xs)/\R (vI K a) H1)
theorem zO (K:PySem.W.Frag) (hl:PE X l tl) (h:X.K=K:=by rfl):PI X tg l (zh K tl):=by
 subst h
 intro pins s σ H R I h
 refine bF (hl pins s σ H _ I h) fun v s1 hq__=>?_
 obtain⟨x,H1,I1,r1,q1⟩:=hq__
 obtain⟨a,e,q1⟩:=q1
 subst e
 cases r1
 rcases q1 with⟨⟨xs,hq⟩,q⟩ | ⟨⟨xs,hq⟩,q⟩
 ·obtain⟨its,rv,p,hz⟩:=I1.list hq
  refine wpAny_pyIter_list p.isList ?_
  refine⟨s1.heap.objs.size,[s1.heap.objs.size],_,_,H1,rfl,I1.kept (t':=s1.toks) fun b o e=>Heap.get?_push_of_some _ e,kd a _,⟨_,Heap.get?_push_size _ rfl,rfl,rfl⟩,fun b hb=>?_,q⟩
  have e:b=s1.heap.objs.size:=by simpa using hb
  subst e
  exact I1.fpOk (Af _) (I1.hok.fresh (Af _))
 ·obtain⟨its,rv,p,hz⟩:=I1.tuple hq
  refine wpAny_pyIter_tuple (show s1.heap.IsTuple a its.toArray from p) ?_
  refine⟨s1.heap.objs.size,[s1.heap.objs.size],_,_,H1,rfl,I1.kept (t':=s1.toks) fun b o e=>Heap.get?_push_of_some _ e,iY a _,⟨_,Heap.get?_push_size _ rfl,rfl,rfl⟩,fun b hb=>?_,q⟩
  have e:b=s1.heap.objs.size:=by simpa using hb
  subst e
  exact I1.fpOk (Af _) (I1.hok.fresh (Af _))
end
theorem fQ {st:List Nat} {j:Nat} {x:V} (hx:(st.map fun(i:Nat)=>V.int (i:Int))[j]?=some x):∃d:Nat,st[j]?=some d/\x=V.int (d:Int)/\st.getD j 0=d:=by
 rw[Ae]at hx
 obtain⟨b,h1,h2⟩:=An.mp hx
 exact⟨b,h1,h2.symm,by rw[Ab,h1];rfl⟩
theorem xi {d n:Nat}:decide (d<n)=decide ((d:Int)<(n:Int)):=by
 by_cases z:d<n
 ·rw [decide_eq_true z,decide_eq_true (by omega)]
 ·rw [decide_eq_false z,decide_eq_false (by omega)]
theorem tE {hs:List Int} {st:List Nat}:((Ad (st.map fun(i:Nat)=>V.int (i:Int)).length).filter fun _=>true).map (fun j=>V.int (hs.getD (st.getD j 0) 0))=(st.map fun i=>hs.getD i 0).map V.int:=by
 rw[AG.mpr (fun _ _=>rfl),zZ]
 apply Bb
 ·simp
 ·intro j h1 h2
  simp only[zZ,AD]at h1
  have:st.getD j 0=st[j]:=by simp only[Ab,Aa h1,Option.getD_some]
  simp only[By,BC,this]
section
variable {X:Cx}
theorem xj:eG X (compareOp .Is) (fun x y H Q=>∃c d,x= .bl c/\y= .bl d/\Q (.bl (c==d)) H):=by
 intro pins s σ H x y v u Q I rx ry h
 obtain⟨c,d,rfl,rfl,q⟩:=h
 cases rx
 cases ry
 exact is_bool (aH I q rfl)
theorem lU:eG X (compareOp .IsNot) (fun x y H Q=>∃c d,x= .bl c/\y= .bl d/\Q (.bl (c != d)) H):=by
 intro pins s σ H x y v u Q I rx ry h
 obtain⟨c,d,rfl,rfl,q⟩:=h
 cases rx
 cases ry
 exact isnot_bool (aH I q rfl)
end
theorem nD {J:It} {H1:Hp} {js:List (Option Nat)} {σ:L2.St} {te:TE} {Q:VK} (n:Nat) (item:Nat->V) (P:Addr->List V->Hp->Prop) (hn:n<100000)
  (mono:∀acc ys H H',P acc ys H->SameBut acc H H'->P acc ys H') (h0:∀acc H,P acc [] H)
  (hgo:∀i H,i<n->Same H1 H->J.go i H) (hst:∀H,Same H1 H->J.stop n H) (hy:∀i H x H',i<n->Same H1 H->J.yld i H x H'->H'=H/\x=item i)
  (he:∀acc i ys H2 R,i<n->Same H1 H2->H1 acc=none->H2 acc=some (.lst ys)->ys.length=i->P acc ys H2->(∀v H3,Same H2 H3->P acc (ys++[v]) H3->R v H3)->te (some (item i) :: bV σ js) H2 R)
  (hQ:∀acc ys H',Same H1 H'->H1 acc=none->H' acc=some (.lst ys)->ys.length=n->P acc ys H'->Q (.ref acc) H'):
  cv J H1 (none :: js) (bD 0) fC te σ Q:=by
 intro acc hacc
 refine⟨fun i m ys H=>m=n-i/\i<=n/\Same H1 H/\H acc=some (.lst ys)/\ys.length=i/\P acc ys H,⟨n,by simp,Az _,Same.new hacc,af,rfl,h0 _ _⟩,?_⟩
 rintro i m ys H ⟨rfl,hi,s1,ha,hl,hp⟩
 by_cases hlt:i<n
 ·refine .inr ⟨hgo i H hlt s1,fun ys' H'=>i<n/\Same H1 H'/\H' acc=some (.lst ys')/\ys'.length=i+1/\P acc ys' H',fun ys' H' ⟨z,a,b,c,d⟩=>⟨n-(i+1),AZ _ _ hlt,rfl,hlt,a,b,c,d⟩,fun x H' y=>?_⟩
  obtain⟨rfl,rfl⟩:=hy i H x H' hlt s1 y
  refine⟨so,⟨fun _=>?_,fun hb=>by cases hb⟩⟩
  refine he acc i ys _ _ hlt s1 hacc ha hl hp fun v H3 s3 pv=>?_
  refine⟨s3 _ _ ha,oi (by omega),hlt,(s1.trans s3).put hacc,af,by rw[Ai,Aq,hl],?_⟩
  exact mono acc _ _ _ pv SameBut.upd
 ·have e:i=n:=Bn hi (A9 hlt)
  subst e
  exact .inl ⟨hst H s1,hQ acc ys H s1 hacc ha hl hp⟩
theorem h9 {K:PySem.W.Frag} {H1:Hp} {js:List (Option Nat)} {σ:L2.St} {te:TE} {Q:VK} {a:Addr} {xs:List V} (P:Addr->List V->Hp->Prop) (hl:SqL K H1 a xs) (hn:xs.length<100000)
  (mono:∀acc ys H H',P acc ys H->SameBut acc H H'->P acc ys H') (h0:∀acc H,P acc [] H)
  (he:∀acc (i:Nat) x ys H2 R,xs[i]?=some x->Same H1 H2->H1 acc=none->H2 acc=some (.lst ys)->ys.length=i->P acc ys H2->(∀v H3,Same H2 H3->P acc (ys++[v]) H3->R v H3)->te (some x :: bV σ js) H2 R)
  (hQ:∀acc ys H',Same H1 H'->H1 acc=none->H' acc=some (.lst ys)->ys.length=xs.length->P acc ys H'->Q (.ref acc) H'):
  cv (oo K a) H1 (none :: js) (bD 0) fC te σ Q:=
 nD (J:=oo K a) (H1:=H1) (js:=js) (σ:=σ) (te:=te) (Q:=Q) xs.length (fun i=>xs.getD i .non) P hn mono h0
  (fun i H h s=>⟨xs,xs[i],s.seq hl,by simp[h]⟩) (fun H s=>⟨xs,s.seq hl,Af _⟩)
  (fun i H x H' h s y=>⟨y.1,by have e:=y.2 xs (s.seq hl);simp[e]⟩)
  (fun acc i ys H2 R h s n1 n2 ln p k=>he acc i _ ys H2 R (by simp[h]) s n1 n2 ln p k) hQ
theorem ia {H1:Hp} {js:List (Option Nat)} {σ:L2.St} {te:TE} {Q:VK} {n:Nat} (P:Addr->List V->Hp->Prop) (hn:n<100000)
  (mono:∀acc ys H H',P acc ys H->SameBut acc H H'->P acc ys H') (h0:∀acc H,P acc [] H)
  (he:∀acc (i:Nat) ys H2 R,i<n->Same H1 H2->H1 acc=none->H2 acc=some (.lst ys)->ys.length=i->P acc ys H2->(∀v H3,Same H2 H3->P acc (ys++[v]) H3->R v H3)->te (some (.int (0+(i:Int))) :: bV σ js) H2 R)
  (hQ:∀acc ys H',Same H1 H'->H1 acc=none->H' acc=some (.lst ys)->ys.length=n->P acc ys H'->Q (.ref acc) H'):
  cv (og 0 n) H1 (none :: js) (bD 0) fC te σ Q:=
 nD (J:=og 0 n) (H1:=H1) (js:=js) (σ:=σ) (te:=te) (Q:=Q) n (fun i=> .int (0+(i:Int))) P hn mono h0
  (fun _ _ h _=>h) (fun _ _=>Af _) (fun _ _ _ _ _ _ y=>y) he hQ
theorem nE {i j:Int}:decide (i=j)=decide (V.int i=V.int j):=by
 by_cases z:i=j
 ·simp [z]
 ·simp [z]
theorem bz {ns:List Int} {j:Nat} (h:j<ns.length):lz (ns.map V.int) (j:Int)=some (.int (ns.getD j 0)):=bh (by simp[h])
def RowsL (H:Hp) (rs:List Addr) (ps:List (List Int)):Prop:=Paired (fun r p=>H r=some (.lst (p.map V.int))) rs ps
theorem RowsL.len {H:Hp} {rs:List Addr} {ps:List (List Int)} (h:RowsL H rs ps):rs.length=ps.length:=Paired.length h
theorem RowsL.same {H H':Hp} {rs:List Addr} {ps:List (List Int)} (h:RowsL H rs ps) (s:Same H H'):RowsL H' rs ps:=Paired.mapP h fun _ _ q=>s _ _ q
theorem RowsL.pools {K:PySem.W.Frag} {H:Hp} {rs:List Addr} {ps:List (List Int)} (h:RowsL H rs ps):PoolsL K H rs ps:=Paired.mapP h fun _ _ q=>SqL.of q
theorem RowsL.at {H:Hp} {rs:List Addr} {ps:List (List Int)} (h:RowsL H rs ps) {i:Nat} {p:List Int} (e:ps[i]?=some p):∃r,rs[i]?=some r/\H r=some (.lst (p.map V.int)):=cH (F:=fun(r:Addr) (p:List Int)=>H r=some (.lst (p.map V.int))) h e
theorem RowsL.get {H:Hp} {rs:List Addr} {ps:List (List Int)} (h:RowsL H rs ps) {i:Nat} {r:Addr} (e:rs[i]?=some r):∃p,ps[i]?=some p/\H r=some (.lst (p.map V.int)):=by
 have hi:i<ps.length:=by rw[<- h.len];exact(Ac.mp e).1
 obtain⟨r',e1,e2⟩:=h.at (Aa hi)
 rw[e]at e1
 cases e1
 exact⟨_,Aa hi,e2⟩
theorem RowsL.of {H:Hp} {rs:List Addr} {ps:List (List Int)} (hl:rs.length=ps.length) (h:∀(i:Nat) r p,rs[i]?=some r->ps[i]?=some p->H r=some (.lst (p.map V.int))):RowsL H rs ps:=dG hl h
structure TieT (H:Hp) (x:Addr×Addr×Str×Int×List Nat):Prop where
 tp:H x.1=some (.tup [.str x.2.2.1,.int x.2.2.2.1,.ref x.2.1])
 ts:H x.2.1=some (.tup (x.2.2.2.2.map fun(i:Nat)=>V.int (i:Int)))
 wd:x.2.2.1="most"\/x.2.2.1="least"
 sl:x.2.2.2.2.length<=6
theorem TieT.same {H H':Hp} {x:Addr×Addr×Str×Int×List Nat} (h:TieT H x) (s:Same H H'):TieT H' x:=⟨s _ _ h.tp,s _ _ h.ts,h.wd,h.sl⟩
theorem TieT.put {H:Hp} {x:Addr×Addr×Str×Int×List Nat} {r:Addr} {xs ys:List V} (h:TieT H x) (hr:H r=some (.lst xs)):TieT (aG H r (.lst ys)) x:=by
 have n1:x.1≠r:=fun z=>by have:=h.tp;rw[z,hr]at this;cases this
 have n2:x.2.1≠r:=fun z=>by have:=h.ts;rw[z,hr]at this;cases this
 exact⟨by rw[aE n1];exact h.tp,by rw[aE n2];exact h.ts,h.wd,h.sl⟩
structure TieG (n:Nat) (x:Addr×Addr×Str×Int×List Nat):Prop where
 k1:1<=x.2.2.2.1
 k6:x.2.2.2.1<=6
 ne:x.2.2.2.2≠[]
 lt:∀i∈x.2.2.2.2,i<n
 up:x.2.2.2.2.Pairwise (· < ·)
structure Ties (K:PySem.W.Frag) (H:Hp) (b:Addr) (ts:List (Addr×Addr×Str×Int×List Nat)) (n:Nat):Prop where
 ls:SqL K H b (ts.map fun x=>V.ref x.1)
 ea:∀x∈ts,TieT H x
 ln:ts.length<=n
def jW (f:Nat->Int) (n:Nat) (ts:List (Addr×Addr×Str×Int×List Nat)):Option Nat:=ts.findIdx? fun x=>brk f n x.2.2.1 x.2.2.2.1 x.2.2.2.2
structure Drawn (H:Hp) (l m L T:Addr) (ms:List Int) (rs:List Addr) (ps:List (List Int)) (ts:List (Addr×Addr×Str×Int×List Nat)) (top:Nat):Prop where
 hl:H l=some (.lst [.ref m,.ref L,.ref T])
 hm:H m=some (.lst (ms.map V.int))
 hL:H L=some (.lst (rs.map V.ref))
 hT:H T=some (.lst (ts.map fun x=>V.ref x.1))
 rows:RowsL H rs ps
 mup:ms.Pairwise (· < ·)
 mne:ms≠[]
 m8:ms.length<=8
 mb:∀b∈ms,1<=b/\b<=10^18
 pup:∀p∈ps,p.Pairwise (· < ·)
 psub:∀p∈ps,∀b∈p,b∈ms
 p1:1<=ps.length
 ptop:ps.length<=top
 p6:ps.length<=6
 tea:∀x∈ts,TieT H x
 tg:∀x∈ts,TieG ps.length x
 t12:ts.length<=12
theorem yp {l r:List Int} (h:∀x∈l,x∈r):(dd l).length<=(dd r).length:=(kL l).length_le_of_subset fun x hx=>bP.mpr (h x (bP.mp hx))
def kp (f:Nat->Int) (wd:Str) (k:Int) (st:List Nat):Bool:=if wd="most" then decide (((uA f st:Nat):Int)<=k)else decide (k<=((uA f st:Nat):Int))
theorem vf {hs:List Int} {i:Nat} (h:i<hs.length):((mG hs).map fun(i:Nat)=>(i:Int)).getD i 0=(num hs (hs.getD i 0):Int):=by
 rw[lR,Au]
 simp[h,Ab]
theorem nF (l:List Int) (x:Int):(dd (l++[x])).length=if x∈l then(dd l).length else(dd l).length+1:=by
 rw[lL]
 unfold cx
 by_cases h:x∈l
 ·rw [if_pos h,if_pos (bP.mpr h)]
 ·rw [if_neg h,if_neg fun z=>h (bP.mp z),Ai,Aq]
def bG (p:List Int):Prop:=p=(mG p).map fun(i:Nat)=>(i:Int)
theorem xk {hs:List Int} {k:Nat} (h:k<hs.length):ve hs k<(dd hs).length:=by
 unfold ve
 have m:hs.getD k 0∈hs:=by rw[a9 h];exact Ax h
 have a:=tj m
 have nm:hs.getD k 0∉hs.take (fx hs (hs.getD k 0)):=fun z=>by
  obtain⟨i,hi,e⟩:=Ap.mp z
  rw[A6]at hi
  have:=List.not_of_lt_findIdx (show i<fx hs (hs.getD k 0) by omega)
  rw[B0]at e
  simp at this
  exact this (by rw[e,Ab])
 have e:=nF (hs.take (fx hs (hs.getD k 0))) (hs.getD k 0)
 rw[if_neg nm]at e
 have:=yp (l:=hs.take (fx hs (hs.getD k 0))++[hs.getD k 0]) (r:=hs) fun x hx=>by
  rcases AH.mp hx with z | z
  ·exact List.mem_of_mem_take z
  ·rw [Am.mp z];exact m
 omega
theorem tF (p:List Int) (x:Int):mG (p++[x])=mG p++[if x∈p then num p x else(dd p).length]:=by
 have h1:(mG (p++[x])).take p.length=mG p:=by
  rw[<- tD (by simp),List.take_left'];rfl
 have h2:(mG (p++[x]))[p.length]?=some (ve (p++[x]) p.length):=oT (by simp)
 have e:mG (p++[x])=(mG (p++[x])).take p.length++[ve (p++[x]) p.length]:=by
  have hlen:(mG (p++[x])).length=p.length+1:=by rw[fm];simp
  conv=>lhs;rw[<- BQ p.length (mG (p++[x]))]
  congr 1
  apply BN
  intro i
  rw[List.getElem?_drop]
  cases i with
  | zero=>rw[Nat.add_zero,h2];rfl
  | succ i=>
   rw[AY (by omega)]
   simp
 rw[e,h1]
 congr 2
 have eg:(p++[x]).getD p.length 0=x:=by simp[Ab]
 unfold ve
 rw[eg]
 by_cases z:x∈p
 ·rw [if_pos z,sY z]
  unfold num
  rw[List.take_append_of_le_length (A5 (tj z))]
 ·rw [if_neg z,xh z,List.take_left'];rfl
theorem qL {p:List Int} (c:bG p) {j:Nat} (h:(j:Int)∈p):num p (j:Int)=j:=by
 obtain⟨i,hi,e⟩:=Ap.mp h
 have g:=vf hi
 rw[<- c,a9 hi,e]at g
 omega
theorem qM {p:List Int} (c:bG p) {x:Int} (h:x∈p):∃j:Nat,x=(j:Int)/\j<(dd p).length:=by
 rw[c]at h
 obtain⟨j,hj,e⟩:=AI.mp h
 obtain⟨i,hi,e2⟩:=Ap.mp hj
 rw[fm]at hi
 have g:=oT hi
 rw[Aa (by rw[fm];exact hi),e2]at g
 have:=xk hi
 refine⟨j,e.symm,?_⟩
 have:j=ve p i:=Option.some.inj g
 omega
theorem ib {p:List Int} (c:bG p) {j:Nat} (h:j<(dd p).length):(j:Int)∈p:=by
 refine Decidable.byContradiction fun n=>?_
 have:=(kL p).length_le_of_subset (l₂:=((Ad (dd p).length).filter fun i=>decide (i≠j)).map fun(i:Nat)=>(i:Int)) fun x hx=>by
  have hx:=bP.mp hx
  obtain⟨i,e,hi⟩:=qM c hx
  refine AI.mpr ⟨i,AQ.mpr ⟨AJ.mpr hi,decide_eq_true fun z=>n ?_⟩,e.symm⟩
  rw[<- z,<- e];exact hx
 rw[zZ]at this
 have lt:((Ad (dd p).length).filter fun i=>decide (i≠j)).length<(Ad (dd p).length).length:=by
  refine Nat.lt_of_le_of_ne (AL _ _) fun z=>?_
  have:=List.length_filter_eq_length_iff.mp z j (AJ.mpr h)
  simp at this
 rw[AD]at lt
 omega
theorem fo:bG []:=rfl
theorem cR {p:List Int} (c:bG p) {j:Nat} (h:j<=(dd p).length):bG (p++[(j:Int)]):=by
 unfold bG
 rw[tF,Aw,<- c]
 congr 1
 by_cases z:(j:Int)∈p
 ·rw [if_pos z,qL c z];rfl
 ·rw [if_neg z]
  have:¬j<(dd p).length:=fun y=>z (ib c y)
  have:j=(dd p).length:=by omega
  rw[this];rfl
def aP (p:List Int) (b:Nat):List Nat:=(Ad p.length).filter fun i=>decide (p.getD i 0=(b:Int))
theorem cS {p:List Int} {b i:Nat}:i∈aP p b<->i<p.length/\p.getD i 0=(b:Int):=by
 unfold aP
 rw[AQ,AJ,decide_eq_true_iff]
theorem bL {p:List Int} (c:bG p) {b:Nat} (h:b<(dd p).length):aP p b≠[]:=by
 obtain⟨i,hi,e⟩:=Ap.mp (ib c h)
 intro z
 have:i∈aP p b:=cS.mpr ⟨hi,by rw[a9 hi,e]⟩
 rw[z]at this
 cases this
def dH (st:List Nat) (may:List (List Int)):List Int:=(may.getD (st.getD 0 0) []).filter fun x=>st.all fun s=>decide (x∈may.getD s [])
def cT (may:List (List Int)) (p:List Int) (b:Nat):List Int:=dH (aP p b) may
def kR (may:List (List Int)) (p:List Int):List (List Int):=(Ad (dd p).length).map (cT may p)
theorem kU {may:List (List Int)} {p:List Int}:(kR may p).length=(dd p).length:=by unfold kR;simp
theorem gF {may:List (List Int)} {p:List Int} {b:Nat} (h:b<(dd p).length):(kR may p)[b]?=some (cT may p b):=by
 unfold kR
 rw[Ae,AN h];rfl
theorem fz {st:List Nat} {may:List (List Int)} {x:Int} (h:st≠[]):x∈dH st may<->∀s∈st,x∈may.getD s []:=by
 unfold dH
 rw[AQ,As]
 constructor
 ·intro⟨_,a⟩ s hs
  exact of_decide_eq_true (a s hs)
 ·intro a
  refine⟨a _ ?_,fun s hs=>decide_eq_true (a s hs)⟩
  cases st with
  | nil=>exact absurd rfl h
  | cons s r=>simp
theorem qN {may:List (List Int)} {p:List Int} {b:Nat} {x:Int} (c:bG p) (h:b<(dd p).length):x∈cT may p b<->∀i,i<p.length->p.getD i 0=(b:Int)->x∈may.getD i []:=by
 unfold cT
 rw[fz (bL c h)]
 exact⟨fun a i h1 h2=>a i (cS.mpr ⟨h1,h2⟩),fun a s hs=>a s (cS.mp hs).1 (cS.mp hs).2⟩
theorem jn {st:List Nat} {may:List (List Int)} (h:∀p∈may,p.Pairwise (· < ·)):(dH st may).Pairwise (· < ·):=by
 unfold dH
 refine List.Pairwise.filter _ ?_
 by_cases z:st.getD 0 0<may.length
 ·have:may.getD (st.getD 0 0) []=may[st.getD 0 0]:=by rw[Ab,Aa z];rfl
  rw[this]
  exact h _ (Ax z)
 ·have:may.getD (st.getD 0 0) []=[]:=by rw[Ab,AY (by omega)];rfl
  rw[this];exact List.Pairwise.nil
abbrev jX:=Str×Int×List Nat
structure IsPlan (may:List (List Int)) (ts:List jX) (hs:List Int):Prop where
 len:hs.length=may.length
 of:∀i,i<hs.length->hs.getD i 0∈may.getD i []
 kp:∀t∈ts,kp (fun i=>hs.getD i 0) t.1 t.2.1 t.2.2=true
theorem xl:∀{l r:List Int},l.Pairwise (· < ·)->r.Pairwise (· < ·)->(∀x,x∈l<->x∈r)->l=r:=by
 intro l
 induction l with
 | nil=>
  intro r _ _ h
  cases r with
  | nil=>rfl
  | cons b r=>have:=(h b).mpr Ay;cases this
 | cons a l ih=>
  intro r hl hr h
  cases r with
  | nil=>have:=(h a).mp Ay;cases this
  | cons b r=>
   rw[List.pairwise_cons]at hl hr
   have e:a=b:=by
    rcases Al.mp ((h a).mp Ay)with z | z
    ·exact z
    ·rcases Al.mp ((h b).mpr Ay)with y | y
     ·exact y.symm
     ·exact absurd (Int.lt_trans (hr.1 a z) (hl.1 b y)) (Int.lt_irrefl _)
   subst e
   rw[ih hl.2 hr.2 fun x=>?_]
   constructor
   ·intro hx
    rcases Al.mp ((h x).mp (Av _ hx))with z | z
    ·exact absurd (hl.1 x hx) (by rw[z];exact Int.lt_irrefl _)
    ·exact z
   ·intro hx
    rcases Al.mp ((h x).mpr (Av _ hx))with z | z
    ·exact absurd (hr.1 x hx) (by rw[z];exact Int.lt_irrefl _)
    ·exact z
def zP (way:Nat) (x:Int) (F S:List Int):Prop:=if way=0 then x∈F/\x∈S else if way=1 then x∈F\/x∈S else x∈F/\x∉S
theorem lV {ks:List Int} (h:ks.Pairwise (· <= ·)) (nd:ks.Nodup):ks.Pairwise (· < ·):=
 (h.and (List.nodup_iff_pairwise_ne.mp nd)).imp fun⟨a,b⟩=>by omega
def yq (H H':Hp) (l:Addr) (way:Nat) (F S ks:List Int):Prop:=Same H H'/\H l=none/\H' l=some (.lst (ks.map V.int))/\ks.Pairwise (· < ·)/\∀x,x∈ks<->zP way x F S
structure Both (K:PySem.W.Frag) (H:Hp) (a b:Addr) (F S U:List Int):Prop where
 fa:SqL K H a (F.map V.int)
 sb:SqL K H b (S.map V.int)
 pf:F.Pairwise (· < ·)
 ps:S.Pairwise (· < ·)
 fu:∀x∈F,x∈U
 su:∀x∈S,x∈U
 ul:U.length<=60
theorem gG {F:List Int} (h:F.Pairwise (· < ·)):F.Nodup:=h.imp fun h=>Int.ne_of_lt h
theorem Both.l1 {K:PySem.W.Frag} {H:Hp} {a b:Addr} {F S U:List Int} (h:Both K H a b F S U):F.length<=60:=AC ((gG h.pf).length_le_of_subset h.fu) h.ul
theorem Both.l2 {K:PySem.W.Frag} {H:Hp} {a b:Addr} {F S U:List Int} (h:Both K H a b F S U):S.length<=60:=AC ((gG h.ps).length_le_of_subset h.su) h.ul
def zA (K:PySem.W.Frag) (way:Nat):Sp:=fun vs H Q _=>∃(a b:Addr) (F S U:List Int),vs=[.ref a,.ref b]/\Both K H a b F S U/\∀l ks H',yq H H' l way F S ks->Q (.ref l) H'
structure May (K:PySem.W.Frag) (H:Hp) (a:Addr) (rs:List Addr) (may:List (List Int)) (U:List Int):Prop where
 ls:SqL K H a (rs.map V.ref)
 po:PoolsL K H rs may
 up:∀p∈may,p.Pairwise (· < ·)
 sub:∀p∈may,∀b∈p,b∈U
 m6:may.length<=6
 u20:U.length<=26
theorem May.same {K:PySem.W.Frag} {H H':Hp} {a:Addr} {rs:List Addr} {may:List (List Int)} {U:List Int} (m:May K H a rs may U) (s:Same H H'):May K H' a rs may U:=⟨s.seq m.ls,m.po.same s,m.up,m.sub,m.m6,m.u20⟩
theorem May.rows {K:PySem.W.Frag} {H:Hp} {a:Addr} {rs:List Addr} {may:List (List Int)} {U:List Int} (m:May K H a rs may U) {i:Nat} (h:i<may.length):∃r,rs[i]?=some r/\SqL K H r ((may.getD i []).map V.int)/\(may.getD i []).Pairwise (· < ·)/\∀b∈may.getD i [],b∈U:=by
 have e:may.getD i []=may[i]:=hX h
 obtain⟨r,e1,e2⟩:=m.po.at (Aa h)
 rw[e]
 exact⟨r,e1,e2,m.up _ (Ax h),m.sub _ (Ax h)⟩
theorem oU {st:List Nat} {may:List (List Int)} {s:Nat} (h:st≠[]) (x:Int):x∈dH (st++[s]) may<->x∈dH st may/\x∈may.getD s []:=by
 rw[fz (by simp),fz h]
 constructor
 ·exact fun a=>⟨fun t ht=>a t (Bc _ ht),a s (by simp)⟩
 ·rintro⟨a,b⟩ t ht
  rcases AH.mp ht with z | z
  ·exact a t z
  ·rw [Am.mp z];exact b
theorem qO {may:List (List Int)} {s:Nat}:dH [s] may=may.getD s []:=by
 unfold dH
 show(may.getD s []).filter _=_
 refine AG.mpr fun x hx=>?_
 simp only[List.all_cons,List.all_nil,Bool.and_true]
 exact decide_eq_true hx
theorem dU {st:List Int} {j:Nat} {x:V} (hx:(st.map V.int)[j]?=some x):∃d:Int,st[j]?=some d/\x=V.int d/\st.getD j 0=d:=by
 rw[Ae]at hx
 obtain⟨b,h1,h2⟩:=An.mp hx
 exact⟨b,h1,h2.symm,by rw[Ab,h1];rfl⟩
theorem vT {x y:Option V} {σ:St}:uZ (none :: none :: σ) (x :: y :: σ):=⟨rfl,fun i v e=>by
 cases i with
 | zero=>cases e
 | succ i=>
  cases i with
  | zero=>cases e
  | succ i=>exact e⟩
theorem tG {K:PySem.W.Frag} {H1:Hp} {js:List (Option Nat)} {σ:L2.St} {te:TE} {Q:VK} {a b:Addr} {xs ys:List V} (P:Addr->List V->Hp->Prop) (hl:xs.length=ys.length) (h1:SqL K H1 a xs) (h2:SqL K H1 b ys) (hn:xs.length<100000)
  (mono:∀acc ys H H',P acc ys H->SameBut acc H H'->P acc ys H') (h0:∀acc H,P acc [] H)
  (he:∀acc (i:Nat) x y zs H2 R,xs[i]?=some x->ys[i]?=some y->Same H1 H2->H1 acc=none->H2 acc=some (.lst zs)->zs.length=i->P acc zs H2->(∀v H3,Same H2 H3->P acc (zs++[v]) H3->R v H3)->te (some x :: some y :: bV σ js) H2 R)
  (hQ:∀acc zs H',Same H1 H'->H1 acc=none->H' acc=some (.lst zs)->zs.length=xs.length->P acc zs H'->Q (.ref acc) H'):
  cv (yP K a b) H1 (none :: none :: js) (qk K 2 (gv (bD 0) (gv (bD 1) rO))) fC te σ Q:=by
 intro acc hacc
 refine⟨fun i m zs H=>m=xs.length-i/\i<=xs.length/\Same H1 H/\H acc=some (.lst zs)/\zs.length=i/\P acc zs H,⟨xs.length,by simp,Az _,Same.new hacc,af,rfl,h0 _ _⟩,?_⟩
 rintro i m zs H ⟨rfl,hi,s1,ha,hz,hp⟩
 have w1:=s1.seq h1
 have w2:=s1.seq h2
 by_cases hlt:i<xs.length
 ·have hlt2:i<ys.length:=by omega
  refine .inr ⟨⟨xs,ys,xs[i],ys[i],w1,w2,Aa hlt,Aa hlt2⟩,fun zs' H'=>i<xs.length/\Same H1 H'/\H' acc=some (.lst zs')/\zs'.length=i+1/\P acc zs' H',fun zs' H' ⟨z,a,b,c,d⟩=>⟨xs.length-(i+1),AZ _ _ hlt,rfl,hlt,a,b,c,d⟩,fun v H' y=>?_⟩
  obtain⟨q,x,y,hq,e1,e2,e3,e4⟩:=y
  subst e3 e4
  have sq:=Same.new (o:= .tup [x,y]) hq
  refine⟨q,[x,y],rfl,SqT.of af,rfl,x,[y],rfl,y,[],rfl,rfl,vT,fun _=>?_,fun hb=>by cases hb⟩
  refine he acc i x y zs _ _ (e1 xs w1) (e2 ys w2) (s1.trans sq) hacc (sq _ _ ha) hz (mono _ _ _ _ hp sq.but) fun v H3 s3 pv=>?_
  have s13:=(s1.trans sq).trans s3
  refine⟨s3 _ _ (sq _ _ ha),oi (by omega),hlt,s13.put hacc,af,by rw[Ai,Aq,hz],?_⟩
  exact mono acc _ _ _ pv SameBut.upd
 ·have e:i=xs.length:=Bn hi (A9 hlt)
  subst e
  exact .inl ⟨⟨xs,ys,w1,w2,Af _⟩,hQ acc zs H s1 hacc ha hz hp⟩
theorem ic {K:PySem.W.Frag} {H1:Hp} {js:List (Option Nat)} {σ:L2.St} {te:TE} {Q:VK} {a b:Addr} {xs ys:List V} (f:Nat->V) (hl:xs.length=ys.length) (h1:SqL K H1 a xs) (h2:SqL K H1 b ys) (hn:xs.length<100000)
  (he:∀(i:Nat) x y H2 R,xs[i]?=some x->ys[i]?=some y->Same H1 H2->(∀H3,Same H2 H3->R (f i) H3)->te (some x :: some y :: bV σ js) H2 R)
  (hQ:∀acc H',Same H1 H'->H1 acc=none->H' acc=some (.lst ((Ad xs.length).map f))->Q (.ref acc) H'):
  cv (yP K a b) H1 (none :: none :: js) (qk K 2 (gv (bD 0) (gv (bD 1) rO))) fC te σ Q:=
 tG (fun _ zs _=>zs=(Ad zs.length).map f) hl h1 h2 hn (fun _ _ _ _ h _=>h) (fun _ _=>rfl)
  (fun acc i x y zs H2 R ex ey s _ _ hz hp k=>he i x y H2 R ex ey s fun H3 s3=>k _ H3 s3 (by
   rw[Ai,Aq,A0,Aw,<- hp,hz];rfl))
  fun acc zs H' s n e hz hp=>hQ acc H' s n (by rw[e,<- hz,<- hp])
def hV:Option Int->V
 | none=> .non
 | some b=> .int b
theorem tH {h:Option Int}:decide (hV h=V.non)=h.isNone:=by cases h<;>rfl
def br (x:Addr×Addr×Str×Int×List Nat):jX:=x.2.2
theorem ie {α β:Type} {ts:List α} {f:α->β} {g:Nat->β} (h:∀(i:Nat) x,ts[i]?=some x->g i=f x):(Ad ts.length).map g=ts.map f:=by
 apply BN
 intro i
 rw[Ae,Ae]
 by_cases l:i<ts.length
 ·rw [AN l,Aa l]
  show some (g i)=some (f ts[i])
  rw[h i _ (Aa l)]
 ·rw [AY (by simp;omega),AY (by omega)];rfl
def nw (H H':Hp):Hp:=fun a=>match H a with
 | none=>H' a
 | some _=>none
theorem dW {H H':Hp} {a:Addr} {o:HO} (h:nw H H' a=some o):H a=none/\H' a=some o:=by
 unfold nw at h
 cases e:H a with
 | none=>rw[e]at h;exact⟨rfl,h⟩
 | some x=>rw[e]at h;cases h
theorem cj {H H':Hp} {a:Addr} {o:HO} (h1:H a=none) (h2:H' a=some o):nw H H' a=some o:=by
 unfold nw
 rw[h1];exact h2
theorem fA {H H':Hp}:Same (nw H H') H':=fun b o e=>(dW e).2
theorem vU {H Hc H' Hx:Hp} (s:∀a,Hc a=none->H a=none) (k:∀a o,Hc a=none->H' a=some o->Hx a=some o):Same (nw Hc H') (nw H Hx):=fun b o e=>by
 obtain⟨e1,e2⟩:=dW e
 exact cj (s b e1) (k b o e1 e2)
theorem qP {f:Nat->Int} {n j:Nat} {ts:List (Addr×Addr×Str×Int×List Nat)} (h:jW f n ts=some j):∃x,ts[j]?=some x/\brk f n x.2.2.1 x.2.2.2.1 x.2.2.2.2=true:=by
 unfold jW at h
 rw[Bt]at h
 obtain⟨hj,e,_⟩:=h
 exact⟨_,Aa hj,e⟩
theorem qQ {may:List (List Int)} {p:List Int} {U:List Int} (c:bG p) (hl:p.length<=may.length) (h:∀q∈may,∀b∈q,b∈U):∀q∈kR may p,∀b∈q,b∈U:=fun q hq b hb=>by
 obtain⟨i,hi,e⟩:=Ap.mp hq
 have hi2:=hi
 rw[kU]at hi2
 have g:=gF (may:=may) hi2
 rw[Aa hi,e]at g
 cases g
 obtain⟨j,hj,ej⟩:=Ap.mp (ib c hi2)
 have:=(qN c hi2).mp hb j hj (by rw[a9 hj,ej])
 have hj2:j<may.length:=by omega
 rw[hX hj2]at this
 exact h _ (Ax hj2) b this
def lW (c:Addr) (H:Hp):Hp:=fun a=>if a=c then none else H a
theorem kW {c a:Addr} {H:Hp} {o:HO} (h:lW c H a=some o):a≠c/\H a=some o:=by
 unfold lW at h
 by_cases z:a=c
 ·rw [if_pos z]at h;cases h
 ·rw [if_neg z]at h;exact⟨z,h⟩
theorem RowsL.but {H H':Hp} {rs:List Addr} {ps:List (List Int)} {acc:Addr} (h:RowsL H rs ps) (n:∀r∈rs,r≠acc) (s:SameBut acc H H'):RowsL H' rs ps:=RowsL.of h.len fun i r p e1 e2=>by
 obtain⟨p2,g1,g2⟩:=h.get e1
 rw[e2]at g1
 cases g1
 exact s r _ (n r (Ah e1)) g2
section
variable {X:Cx}
end
inductive GPap where
 | tie (j:Int)
 | short (bs:List Int)
 | split (ps:List GPap)
instance:Inhabited GPap:=⟨.tie 0⟩
def gH (ns:List Int):Bool:=(Ad (ns.length-1)).all fun k=>decide (ns.getD k 0<ns.getD (k+1) 0)
theorem nG {ns:List Int}:gH ns=true<->ns.Pairwise (· < ·):=by
 unfold gH
 rw[As]
 constructor
 ·intro h
  have st:∀i,i+1<ns.length->ns.getD i 0<ns.getD (i+1) 0:=fun i hi=>of_decide_eq_true (h i (AJ.mpr (by omega)))
  have lt:∀d i,i+d+1<ns.length->ns.getD i 0<ns.getD (i+d+1) 0:=by
   intro d
   induction d with
   | zero=>intro i hi;exact st i hi
   | succ d ih=>intro i hi;exact Int.lt_trans (ih i (by omega)) (st (i+d+1) (by omega))
  rw[Bj]
  intro i j h1 h2 h3
  have:=lt (j-i-1) i (by omega)
  have e:i+(j-i-1)+1=j:=by omega
  rw[e,a9 h1,a9 h2]at this
  exact this
 ·intro h i hi
  have:=AJ.mp hi
  have:=Bj.mp h i (i+1) (by omega) (by omega) (by omega)
  rw[a9 (by omega),a9 (by omega)]
  exact decide_eq_true this
def dX (may:List (List Int)) (p:List Int) (bs:List Int):List Int:=bs.flatMap fun b=>cT may p b.toNat
def tI (p:List Int) (bs:List Int):Bool:=bs.all fun b=>decide (0<=b/\b<(((dd p).length:Nat):Int))
def cU (may:List (List Int)) (p:List Int) (bs:List Int):Bool:=gH bs&&tI p bs&&decide ((dd (dX may p bs)).length<bs.length)
theorem gI (n:Nat): -(2^62)<=((n:Nat):Int):=by omega
theorem oW (c:Int) {n:Nat} (h:0<n):∃m:Nat,m<n/\c%((n:Nat):Int)=((m:Nat):Int):=by
 have w1:=Bu c (show((n:Nat):Int)≠0 by omega)
 have w2:=Bs c (show(0:Int)<((n:Nat):Int) by omega)
 exact⟨(c%((n:Nat):Int)).toNat,by omega,by omega⟩
theorem zQ {α:Type} {us:List α} (hl:us.length=1):∃a,us=[a]:=by
 match us,hl with
 | [a],_=>exact⟨a,rfl⟩
theorem xm {α:Type} {us:List α} (hl:us.length=2):∃a b,us=[a,b]:=by
 match us,hl with
 | [a,b],_=>exact⟨a,b,rfl⟩
theorem zR {α:Type} {us:List α} (hl:us.length=3):∃a b c,us=[a,b,c]:=by
 match us,hl with
 | [a,b,c],_=>exact⟨a,b,c,rfl⟩
theorem zS {α:Type} {us:List α} (hl:us.length=4):∃a b c d,us=[a,b,c,d]:=by
 match us,hl with
 | [a,b,c,d],_=>exact⟨a,b,c,d,rfl⟩
theorem zT {α:Type} {us:List α} (hl:us.length=5):∃a b c d e,us=[a,b,c,d,e]:=by
 match us,hl with
 | [a,b,c,d,e],_=>exact⟨a,b,c,d,e,rfl⟩
theorem iC (ns:List Int):∀k,k<=ns.length->preSum (fun i=>ns.getD i 0) k=(ns.take k).sum
 | 0,_=>by simp[preSum]
 | k+1,h=>by
  have ih:=iC ns k (by omega)
  have h2:k<ns.length:=by omega
  rw[preSum,ih,Be,List.sum_append,Ab,Aa h2]
  simp
theorem Moved.eq_heap {wr:List Addr} {s s':Shared} (m:Moved wr (fun a b=>b=a) s s'):s'={s with heap:=s'.heap,toks:=s'.toks}:=by
 obtain⟨h,g,d,t,os⟩:=s
 obtain⟨h',g',d',t',os'⟩:=s'
 obtain⟨_,e1,e2,e3,_⟩:=m
 simp only at e1 e2 e3
 subst e1 e2 e3
 rfl
section
variable {X:Cx}
theorem vg (K:PySem.W.Frag) (hc:X.calm=true:=by rfl) (h:X.K=K:=by rfl):cg X (.builtin "sum") (fun xs H Q=>∃(p:Addr) (ns:List Int),xs=[.ref p]/\SqL K H p (ns.map V.int)/\Q (.int ns.sum) H):=by
 subst h
 intro pins s σ H xs us Q I r h
 obtain⟨p,ns,e,hq,q⟩:=h
 subst e
 obtain⟨u,e,rx⟩:=dE r
 subst e
 cases rx
 obtain⟨its,rv,pl,hz⟩:=I.list hq
 have hl:=rv.length
 rw[zZ]at hl
 refine call_sum_walkAnyS (wpAny_pyIter_list pl.isList ?_)
 have hlt:p<s.heap.objs.size:=by
  obtain⟨o,ho,_⟩:=pl.isList
  exact Heap.lt_size ho
 have hval:∀(i:Nat) (v:Value),its.toArray[i]?=some v->∃t,v= .int (ns.getD i 0) t:=fun i v hi=>by
  have hi':its[i]?=some v:=by simpa using hi
  have h2:i<ns.length:=by rw[hl];exact(Ac.mp hi').1
  obtain⟨u,eu,ru⟩:=rv.get (i:=i) (x:= .int ns[i]) (by simp[h2])
  rw[hi']at eu
  cases eu
  obtain⟨t,e⟩:=ru
  exact⟨t,by rw[e];simp[h2]⟩
 refine⟨s.heap.objs.size,_,_,_,_,_,_,fun i=>ns.getD i 0,rfl,(Walks.list (A:=X.A.in1) (show X.A.in1.handled=none from I.ok.hd hc) _ p (Ar hlt) its.toArray).toS,?_,?_,hval,?_⟩
 ·refine⟨⟨_,Heap.get?_push_size _ rfl,rfl,rfl⟩,?_⟩
  obtain⟨o,ho,z⟩:=pl.isList
  exact⟨o,Heap.get?_push_of_some _ ho,z⟩
 ·intro b hb
  show b<(s.heap.push _).objs.size
  rw[Heap.size_push]
  simp only[Al,AK,or_false]at hb
  rcases hb with z | z<;>subst z
  ·exact A1 _
  ·exact AX hlt
 ·intro s' t' hm
  rw[Moved.eq_heap hm]
  have hs:its.toArray.size=ns.length:=by rw[Ak];omega
  refine⟨.int _,H,I.kept (fun b o e=>hm.heap b o ?_ (Heap.get?_push_of_some _ e)),⟨t',rfl⟩,?_⟩
  ·have:=Heap.lt_size e
   intro z
   rw[Am]at z
   exact absurd this (by rw[z];exact A4 _)
  ·rw [hs,iC ns _ (Af _),A3]
   exact q
end
def vh (K:PySem.W.Frag) (a:Addr) (n:Nat):It:=
 ⟨fun i H=>i<n/\∃xs,SqL K H a xs/\xs.length=n,fun i H x H'=>H'=H/\∀xs,SqL K H a xs->xs[n-1-i]?=some x,fun i _=>n<=i⟩
theorem tJ {P:Program} {w:World} {K:PySem.W.Frag} {tg:Expr} (a it:Addr) (n:Nat):Turn P w K tg (vh K a n) [it] it (fun i h=>i<=n/\h.IsRevIter it a ((n:Int)-1-(i:Int))) where
 mem:=by simp
 obj:=fun i h st b hb=>by
  have e:b=it:=by simpa using hb
  subst e
  obtain⟨_,o,e,c,d⟩:=st
  exact⟨o,e,fun v z=>by rw[d]at z;cases z⟩
 keep:=fun i h h' st k=>⟨st.1,st.2.at fun o e=>k it (by simp) o e⟩
 item:=by
  intro X hP hw hK hc i pins s σ H E I hf st hg
  subst hP hw hK
  obtain⟨hi,xs,hq,hn⟩:=hg
  obtain⟨its,rv,p,hz⟩:=I.list hq
  have hx:xs[n-1-i]?=some (xs[n-1-i]'(by omega)):=Aa (by omega)
  obtain⟨u,hu,ru⟩:=rv.get hx
  obtain⟨f0,f1,f2,f3,f4,f5⟩:=hf it (by simp)
  obtain⟨_,st⟩:=st
  have e:(n:Int)-1-(i:Int)=((n-1-i:Nat):Int):=by omega
  rw[e]at st
  refine wpAny_pyNext_rev_item st p.isList (x:=u) (by simpa using hu) fun h' st' sb=>?_
  have e2:((n-1-i:Nat):Int)-1=(n:Int)-1-((i+1:Nat):Int):=by omega
  rw[e2]at st'
  have I1:Inv X pins σ H {s with heap:=h'}:=I.turned (t':=s.toks) (fun b o hb e=>(sb.2 b hb).trans e) f0 f1 f3 f4 f5
  obtain⟨o,e,c,d⟩:=id st'
  exact⟨u,rfl,mL (s:={s with heap:=h'}) e c d (by decide) ⟨_,H,I1,ru,⟨rfl,fun ys hy=>by rw[I.list_inj hy hq];exact hx⟩,⟨hi,st'⟩,fun b hb=>(hf b hb).1⟩⟩
 done:=by
  intro X hP hw hK hc i pins s σ H E I hf st hg
  subst hP hw hK
  obtain⟨f0,f1,f2,f3,f4,f5⟩:=hf it (by simp)
  obtain⟨hi,st⟩:=st
  have hg:n<=i:=hg
  have e:(n:Int)-1-(i:Int)= -1:=by omega
  rw[e]at st
  exact wpAny_pyNext_rev_end (I.ok.hd hc) st fun h' eb=>⟨rfl,I.turned (t':=s.toks) (fun b o hb e=>eb b o hb e) f0 f1 f3 f4 f5⟩
 self:=fun _ _ _ _ _ st h=>wpAny_pyIter_revIter st.2 h
section
variable {X:Cx}
def zi (K:PySem.W.Frag) (ta:TA):TI:=fun σ H R=>ta σ H fun vs H1=>∃a xs,vs=[.ref a]/\SqL K H1 a xs/\R (vh K a xs.length) H1
theorem xn {a tg:Expr} {ta:TA} {p pos:Pos} (K:PySem.W.Frag) (hg:Gl X "reversed") (hm:X.mg "reversed"=none) (ha:PA X [a] ta) (hK:X.K=K:=by rfl) (hs:starEach [a] X.env=[(false,eval a X.env)]:=by rfl):
  PI X tg (.Call (.Name "reversed" p) [a] [] pos) (zi K ta):=by
 subst hK
 intro pins s σ H R I h
 refine Call_ (dM I hg hm boot_reversed (PyProof.Rows.callWith_type1 (bF (ha pos pins s σ H _ I h) fun us s1 ⟨vs,H1,I1,r1,q1⟩=>?_) (by rw[hs];rfl) (by rfl)))
 obtain⟨l1,xs,e,hq1,q⟩:=q1
 subst e
 cases r1 with
 | cons r rr=>
  cases rr
  cases r
  obtain⟨its1,rv1,p1,_⟩:=I1.list hq1
  have hl:=rv1.length
  refine call_reversed_list p1.isList ?_
  have hit:(s1.heap.push (revObj l1 ((its1.toArray.size:Int)-1))).IsRevIter s1.heap.objs.size l1 ((its1.toArray.size:Int)-1):=⟨_,Heap.get?_push_size _ rfl,rfl,rfl⟩
  refine wpAny_pyIter_revIter hit ?_
  have I2:Inv X pins σ H1 {s1 with heap:=s1.heap.push (revObj l1 ((its1.toArray.size:Int)-1))}:=I1.kept (t':=s1.toks) fun b o e=>Heap.get?_push_of_some _ e
  refine⟨_,[s1.heap.objs.size],_,_,H1,rfl,I2,tJ l1 _ xs.length,⟨Az _,?_⟩,fun b hb=>?_,q⟩
  ·have e:(xs.length:Int)-1-((0:Nat):Int)=(its1.toArray.size:Int)-1:=by rw[Ak];omega
   rw[e];exact hit
  ·have e:b=s1.heap.objs.size:=by simpa using hb
   subst e
   exact I1.fpOk (Af _) (I1.hok.fresh (Af _))
end
theorem lX:typeLookup (.type "list") "keys"=pure none:=by rw[typeLookup_type,builtinLookup_eq_fast];kernel_rfl
theorem nH:typeLookup (.type "list") "__getattr__"=pure none:=by rw[typeLookup_type,builtinLookup_eq_fast];kernel_rfl
section
variable {prog:Program} {w:World} {A:Around} {E:Value->Shared->Prop} {h:Heap} {g:Array GenState} {d:PySem.Drawn} {t:Nat} {os:OsState} {a:Addr} {o:Obj}
theorem iK {tk:Tok} {its:Array Value} {n:Nat} {sl:Array (Option Value)} {Q:Fin->Shared->Prop} (hh:A.handled=none) (hx:h.get? a=some {cls:= .type "list",dict:=none,data:= .seq its n,slots:=sl})
   (hq:∀h' tk e,Heap.NewAttrErr h h' e (.ref a) "keys"->E (.ref e) ⟨h',g,d,tk,os⟩):
    wpAny (model prog w) A (Builtin.«object.__getattribute__» ⟨[.ref a,.str "keys" tk],[]⟩) Q E ⟨h,g,d,t,os⟩:=by
  have hT:(⟨h,g,d,t,os⟩:Shared).TypeIs (.ref a) "list":=⟨_,hx,rfl⟩
  have f4:=lX
  repeat (any_goals (first | assumption | wp_step))
  exact wpAny_raiseAttrError hh hq (attrMsg_fits (by decide +kernel) (by size_fits))
theorem jo {its:Array Value} {n:Nat} {sl:Array (Option Value)} {Q:Option Value->Shared->Prop} (hh:A.handled=none) (hx:h.get? a=some {cls:= .type "list",dict:=none,data:= .seq its n,slots:=sl})
   (hq:∀h' tk,(∀b o,h.get? b=some o->h'.get? b=some o)->Q none ⟨h',g,d,tk,os⟩):
    wpAny (model prog w) A (getAttr? (.ref a) "keys") Q E ⟨h,g,d,t,os⟩:=by
  have hT:∀t,(⟨h,g,d,t,os⟩:Shared).TypeIs (.ref a) "list":=fun _=>⟨_,hx,rfl⟩
  have f1:=sub_AttributeError
  have f2:=F.slot_list_getattribute.lookup
  have f3:=F.slot_list_getattribute.bind (.ref a)
  have f5:=nH
  unfold getAttr? getAttrBy? getAttrBy
  repeat (any_goals (first | assumption | apply hT | wp_step))
  refine codeAny_call_builtin F.slot_list_getattribute.plain F.entry_list_ga (F.slot_list_getattribute.check _ _ _ _ _ _ _ _ (hT _) (F.args_list_getattribute_2 _ _) (iK hh hx fun h' tk' e ne=>?_))
  obtain⟨t',u',he⟩:=ne.there
  show wpAny _ _ (getattributeRaised _ _ _ _ _ _ _) _ _ _
  unfold getattributeRaised
  repeat (any_goals (first | assumption | wp_step))
  exact hq _ _ ne.keeps
end
theorem eH:entryFor table "dict.update.loop"=some Builtin.«dict.update.loop»:=entryFor_of_tree (by kernel_rfl)
theorem b6:plainId "dict.update.loop"=true:=by decide +kernel
theorem lY {α:Type} [DecidableEq α] {vs:List (α×Value)} {k:α} {v:Value} (h:∀q∈vs,q.1≠k):stored vs k v=vs++[(k,v)]:=by
 unfold stored
 rw[if_neg]
 intro z
 obtain⟨q,hq,e⟩:=List.any_eq_true.mp z
 exact h q hq (of_decide_eq_true e)
theorem oX {α:Type} {vs:List (α×Value)} (nd:(vs.map (·.1)).Nodup) {i:Nat} {k:α} {v:Value} (h:vs[i]?=some (k,v)):∀q∈vs.take i,q.1≠k:=by
 intro q hq e
 obtain⟨j,ej⟩:=AV.mp hq
 have hj:=(Ac.mp ej).1
 rw[A6]at hj
 have hji:j<i:=by omega
 rw[List.getElem?_take_of_lt hji]at ej
 have hi:=(Ac.mp h).1
 have e1:(vs.map (·.1))[j]?=some k:=by rw[Ae,ej];simp[e]
 have e2:(vs.map (·.1))[i]?=some k:=by rw[Ae,h];rfl
 obtain⟨l1,x1⟩:=Ac.mp e1
 obtain⟨l2,x2⟩:=Ac.mp e2
 exact Bj.mp nd j i l1 l2 hji (x1.trans x2.symm)
section
variable {P:Program} {w:World} {A:Around} {R:Result->Shared->Prop} {p d I:Addr} {its:List Value} {vs:List (cO×Value)} {h0:Heap}
theorem qR (hh:A.handled=none) (hp:h0.IsList p its.toArray) (hd:h0.objs.size<=d) (hI:h0.objs.size<=I) (hne:d≠I) (nd:(vs.map (·.1)).Nodup) (hz:vs.length<=sizeLine) (hl:its.length=vs.length)
  (hat:∀(i:Nat) u,its[i]?=some u->∃a k key v,u= .ref a/\h0.IsTuple a #[key,v]/\(bc P w).is k key=true/\vs[i]?=some (k,v)):
  ∀(m i:Nat) (s:Shared),vs.length-i=m->i<=vs.length->(∀b o,h0.get? b=some o->s.heap.get? b=some o)->s.heap.IsListIter I p i->s.heap.DictOf (bc P w) d (vs.take i)->
  (∀h' tk,(∀b o,h0.get? b=some o->h'.get? b=some o)->h'.DictOf (bc P w) d vs->R (.ok (.ret .none)) {s with heap:=h',toks:=tk})->
  codeAny (model P w) A (.builtin "dict.update.loop" ⟨[.ref d,.ref I,rawInt (i:Int),.none],[]⟩) R s:=by
 have lp:p<h0.objs.size:=let⟨_,e,_⟩:=hp;Heap.lt_size e
 intro m
 induction m with
 | zero=>
  intro i s hm hi kp it dk hR
  have hin:i=vs.length:=by omega
  subst hin
  refine codeAny_builtin eH ?_
  rw[Around.under_plainId b6 _]
  show wpAny _ A.in1 (pyNext (.ref I) >>= _) _ _ s
  have hp':s.heap.IsList p its.toArray:=let⟨o,e,r⟩:=hp;⟨o,kp _ _ e,r⟩
  refine wpAny_bind (wpAny_pyNext_list_end (show A.in1.handled=none from hh) it hp' (by simp[hl]) fun h' eb=>?_)
  show wpAny _ A.in1 (Builtin.Dict.addKeywords d [] >>= fun _=>ret Value.none) _ _ _
  refine wpAny_bind (wpAny_pure (wpAny_pure ?_))
  refine hR h' s.toks (fun b o e=>eb b o (fun z=>?_) (kp b o e)) ?_
  ·have:=Heap.lt_size e
   rw[z]at this
   exact absurd this (BL.mpr hI)
  ·rw [A3]at dk
   exact dk.at fun o e=>eb d o hne e
 | succ m ih=>
  intro i s hm hi kp it dk hR
  have hlt:i<vs.length:=by omega
  have hx:its[i]?=some (its[i]'(by omega)):=Aa (by omega)
  obtain⟨a,k,key,v,eu,ht,hk,hv⟩:=hat i _ hx
  rw[eu]at hx
  refine codeAny_builtin eH ?_
  rw[Around.under_plainId b6 _]
  show wpAny _ A.in1 (pyNext (.ref I) >>= _) _ _ s
  have hp':s.heap.IsList p its.toArray:=let⟨o,e,r⟩:=hp;⟨o,kp _ _ e,r⟩
  refine wpAny_bind (wpAny_pyNext_list_item it hp' (x:= .ref a) (by simpa using hx) fun h' it' sb=>?_)
  obtain⟨ot,eot,ct,nt,dt⟩:=ht
  have la:a≠I:=fun z=>by
   have:=Heap.lt_size eot
   rw[z]at this
   exact absurd this (BL.mpr hI)
  have eot':h'.get? a=some ot:=(sb.2 a la).trans (kp _ _ eot)
  refine wpAny_bind (wpAny_holding ?_)
  refine wpAny_bind (wpAny_tryCatch ?_)
  unfold Builtin.Dict.pairItems
  refine wpAny_bind (wpAny_typeOf (T:="tuple") ⟨ot,eot',ct⟩ ?_)
  rw[if_pos (by decide)]
  refine wpAny_bind (wpAny_seqItems (s:={s with heap:=h'}) eot' dt (wpAny_pure ?_))
  show wpAny _ A.in1 (holding [key,v] (dictSet d key v)) _ _ _
  refine wpAny_holding ?_
  have dk':h'.DictOf (bc P w) d (vs.take i):=dk.at fun o e=>(sb.2 d hne).trans e
  refine wpAny_dictSet_pairs (s:={s with heap:=h'}) hk dk' (fun h2 dk2 sb2=>?_) (by rw[A6];omega)
  rw[lY (oX nd hv)]at dk2
  have et:vs.take i++[(k,v)]=vs.take (i+1):=by rw[Be,hv];rfl
  rw[et]at dk2
  refine wpAny_pure ⟨plainId_quiet b6 _,?_⟩
  refine ih (i+1) _ (by omega) hlt (fun b o e=>?_) (it'.at fun o e=>(sb2.2 I (Ne.symm hne)).trans e) dk2 fun h3 tk kp3 dk3=>hR h3 tk kp3 dk3
  have lb:=Heap.lt_size e
  exact(sb2.2 b (fun z=>by rw[z]at lb;exact absurd lb (BL.mpr hd))).trans ((sb.2 b (fun z=>by rw[z]at lb;exact absurd lb (BL.mpr hI))).trans (kp b o e))
end
section
variable {X:Cx}
theorem tK (K:PySem.W.Frag) (hc:X.calm=true:=by rfl) (hK:X.K=K:=by rfl):cg X (.type "dict") (fun xs H Q=>∃(p:Addr) (ps:List Addr) (kvs:List (cO×V)),xs=[.ref p]/\SqL K H p (ps.map V.ref)/\ps.length=kvs.length/\(kvs.map (·.1)).Nodup/\
  (∀(i:Nat) a,ps[i]?=some a->∃k v,kvs[i]?=some (k,v)/\SqT K H a [kV k,v])/\∀l,H l=none->Q (.ref l) (aG H l (.dK kvs))):=by
 subst hK
 intro pins s σ H xs us Q I r h
 obtain⟨p,ps,kvs,e,hq,hn,nd,hat,q⟩:=h
 subst e
 obtain⟨u,e,rx⟩:=dE r
 subst e
 cases rx
 obtain⟨its,rv,pl,hz⟩:=I.list hq
 have hl:=rv.length
 rw[zZ]at hl hz
 have hnd:X.A.handled=none:=I.ok.hd hc
 have raw:∃vs:List (cO×Value),KV kvs vs/\∀(i:Nat) u,its[i]?=some u->∃a k key v,u= .ref a/\s.heap.IsTuple a #[key,v]/\(bc X.prog X.w).is k key=true/\vs[i]?=some (k,v):=by
  have key:∀(kvs:List (cO×V)) (ps:List Addr),ps.length=kvs.length->(∀(i:Nat) a,ps[i]?=some a->∃k v,kvs[i]?=some (k,v)/\SqT X.K H a [kV k,v])->
    ∃vs:List (cO×Value),KV kvs vs/\∀(i:Nat) a,ps[i]?=some a->∃k key v,s.heap.IsTuple a #[key,v]/\(bc X.prog X.w).is k key=true/\vs[i]?=some (k,v):=by
   intro kvs
   induction kvs with
   | nil=>
    intro ps hn _
    exact⟨[],.nil,fun i a z=>by rw[AA.mp hn]at z;cases z⟩
   | cons kv kvs ih=>
    intro ps hn hat
    obtain⟨a,ps,rfl⟩:∃a qs,ps=a :: qs:=by
     cases ps with
     | nil=>simp at hn
     | cons a qs=>exact⟨a,qs,rfl⟩
    obtain⟨k,v,e,ht⟩:=hat 0 a rfl
    cases e
    obtain⟨vs,rel,hr⟩:=ih ps (by simpa using hn) fun i b hb=>hat (i+1) b hb
    obtain⟨its,rv,pt,_⟩:=I.tuple ht
    obtain⟨u1,u2,rfl,r1,r2⟩:=rW rv
    refine⟨(k,u2) :: vs,.cons ⟨rfl,r2⟩ rel,fun i b hb=>?_⟩
    cases i with
    | zero=>cases hb;exact⟨k,u1,u2,pt,mT r1,rfl⟩
    | succ i=>exact hr i b hb
  obtain⟨vs,rel,hr⟩:=key kvs ps hn hat
  refine⟨vs,rel,fun i u hu=>?_⟩
  have hi:i<ps.length:=by rw[hl];exact(Ac.mp hu).1
  obtain⟨u',eu,ru⟩:=rv.get (i:=i) (x:= .ref ps[i]) (by simp[hi])
  rw[hu]at eu
  cases eu
  cases(show u=Value.ref ps[i]from ru)
  obtain⟨k,key,v,a1,a2,a3⟩:=hr i ps[i] (Aa hi)
  exact⟨_,k,key,v,rfl,a1,a2,a3⟩
 obtain⟨vs,rel,hraw⟩:=raw
 have lv:kvs.length=vs.length:=rel.length
 have ek:kvs.map (·.1)=vs.map (·.1):=by
  clear hraw hat lv nd hn q
  induction rel with
  | nil=>rfl
  | cons h _ ih=>rw[Bd,Bd,ih,h.1]
 refine callType_codes (Q₁:=fun obj s₁=>obj= .ref s.heap.objs.size/\s₁={s with heap:=s.heap.push {cls:= .type "dict",data:= .dict #[]}}) F.kt_called_dict (F.kt_typeCall_dict_1 _) F.entry_dict_init (kt_code_dict_new _ ⟨rfl,rfl⟩) ?_
 rintro obj s₁ ⟨rfl,rfl⟩
 have hnew:(s.heap.push {cls:= .type "dict",data:= .dict #[]}).DictOf (bc X.prog X.w) s.heap.objs.size []:=Heap.DictOf.new s.heap
 refine⟨hnew.typeIs,F.args_dict_init_2 _ _,?_⟩
 unfold Builtin.«dict.__init__»
 refine wpAny_bind ?_
 unfold Builtin.Dict.selfAndRest
 refine wpAny_bind (wpAny_notOrdered_dict hnew.typeIs ?_)
 show wpAny _ _ (pure (s.heap.objs.size,[Value.ref p])) _ _ _
 refine wpAny_pure ?_
 show wpAny _ _ (Builtin.Dict.updateFrom "dict.__init__" s.heap.objs.size (.ref p) [] .none) _ _ _
 unfold Builtin.Dict.updateFrom
 obtain⟨o,n,ho,c1,c2,c3⟩:=pl
 have ho':(s.heap.push {cls:= .type "dict",data:= .dict #[]}).get? p=some o:=Heap.get?_push_of_some _ ho
 refine wpAny_bind (wpAny_typeOf (T:="list") ⟨o,ho',c1⟩ ?_)
 rw[if_pos (by decide)]
 obtain⟨oc,od,oda,osl⟩:=o
 simp only at c1 c2 c3
 subst c1 c2 c3
 refine wpAny_bind (jo hnd ho' fun h2 tk kp2=>?_)
 have hlst:h2.IsList p its.toArray:=⟨_,kp2 _ _ ho',rfl,n,rfl⟩
 show wpAny _ _ (rule _ >>= _) _ _ _
 refine wpAny_bind (wpAny_rule ?_)
 refine wpAny_bind (wpAny_pyIter_list (s:={s with heap:=h2,toks:=tk}) hlst ?_)
 refine wpAny_pure ⟨plainId_quiet b6 _,?_⟩
 have lt:s.heap.objs.size<h2.objs.size:=by
  have:=Heap.lt_size (kp2 s.heap.objs.size _ (Heap.get?_push_size _ rfl))
  exact this
 refine qR (P:=X.prog) (w:=X.w) (h0:=s.heap) (vs:=vs) (its:=its) (A:=X.A.in1) (show X.A.in1.handled=none from hnd) ⟨_,ho,rfl,n,rfl⟩ (Af _) (A5 lt) (Ar lt) (by rw[<- ek];exact nd) (by omega) (by omega) hraw _ 0 _ rfl (Az _) (fun b o e=>?_) ?_ ?_ fun h' tk' kp' dk'=>?_
 ·exact Heap.get?_push_of_some _ (kp2 _ _ (Heap.get?_push_of_some _ e))
 ·exact⟨_,Heap.get?_push_size _ rfl,rfl,rfl⟩
 ·rw [BG]
  exact hnew.at fun o e=>Heap.get?_push_of_some _ (kp2 _ _ e)
 ·refine⟨rfl,.ref s.heap.objs.size,_,I.laid (t':=tk') kp' (Af _) (wM (by omega) (beq_false_of_ne (Bv I.big)) rel dk'),rfl,q _ (I.hok.fresh (Af _))⟩
end
def bR (H:Hp) (a:Addr) (x:Int×Int):Prop:=H a=some (.tup [.int x.1,.int x.2])
def TupsL (H:Hp) (ps:List Addr) (row:List (Int×Int)):Prop:=Paired (bR H) ps row
def RowAt (H:Hp) (r:Addr) (row:List (Int×Int)):Prop:=∃ps:List Addr,H r=some (.lst (ps.map V.ref))/\TupsL H ps row
def BillL (H:Hp) (rs:List Addr) (rows:List (List (Int×Int))):Prop:=Paired (RowAt H) rs rows
theorem cy {α β:Type} {F:α->β->Prop} {l:List α} {r:List β} {i:Nat} {a:α} (h:Paired F l r) (e:l[i]?=some a):∃b,r[i]?=some b/\F a b:=by
 induction h generalizing i with
 | nil=>cases e
 | cons x t ih=>
  cases i with
  | zero=>cases e;exact⟨_,rfl,x⟩
  | succ i=>exact ih e
theorem TupsL.same {H H':Hp} {ps:List Addr} {row:List (Int×Int)} (h:TupsL H ps row) (s:Same H H'):TupsL H' ps row:=Paired.mapP h fun _ _ q=>s _ _ q
theorem TupsL.len {H:Hp} {ps:List Addr} {row:List (Int×Int)} (h:TupsL H ps row):ps.length=row.length:=Paired.length h
theorem RowAt.same {H H':Hp} {r:Addr} {row:List (Int×Int)} (h:RowAt H r row) (s:Same H H'):RowAt H' r row:=let⟨ps,a,b⟩:=h;⟨ps,s _ _ a,b.same s⟩
theorem BillL.same {H H':Hp} {rs:List Addr} {rows:List (List (Int×Int))} (h:BillL H rs rows) (s:Same H H'):BillL H' rs rows:=Paired.mapP h fun _ _ q=>q.same s
theorem BillL.len {H:Hp} {rs:List Addr} {rows:List (List (Int×Int))} (h:BillL H rs rows):rs.length=rows.length:=Paired.length h
theorem BillL.at {H:Hp} {rs:List Addr} {rows:List (List (Int×Int))} (h:BillL H rs rows) {i:Nat} {row:List (Int×Int)} (e:rows[i]?=some row):∃r,rs[i]?=some r/\RowAt H r row:=cH h e
theorem BillL.get {H:Hp} {rs:List Addr} {rows:List (List (Int×Int))} (h:BillL H rs rows) {i:Nat} {r:Addr} (e:rs[i]?=some r):∃row,rows[i]?=some row/\RowAt H r row:=cy h e
theorem jq {K:PySem.W.Frag} {H1:Hp} {js:List (Option Nat)} {σ:L2.St} {tc:TT} {te:TE} {Q:VK} {r:Addr} {ps:List Addr} {row:List (Int×Int)} (p:Nat->Bool) (P:Addr->Nat->V->Hp->Prop)
  (hr:SqL K H1 r (ps.map V.ref)) (ht:TupsL H1 ps row) (hn:row.length<100000)
  (mono:∀acc i v H H',P acc i v H->SameBut acc H H'->P acc i v H')
  (hc:∀(i:Nat) x,row[i]?=some x->∀H2 R,Same H1 H2->(∀H3,Same H2 H3->R (p i) H3)->tc (some (.int x.1) :: some (.int x.2) :: bV σ js) H2 R)
  (he:∀acc (i:Nat) x,row[i]?=some x->p i=true->∀H2 R,Same H1 H2->H1 acc=none->H2 acc≠none->(∀v H3,Same H2 H3->P acc i v H3->R v H3)->te (some (.int x.1) :: some (.int x.2) :: bV σ js) H2 R)
  (hQ:∀acc vs H',Same H1 H'->H1 acc=none->H' acc=some (.lst vs)->Paired (fun i v=>P acc i v H') ((Ad row.length).filter p) vs->Q (.ref acc) H'):
  cv (oo K r) H1 (none :: none :: js) (qk K 2 (gv (bD 0) (gv (bD 1) rO))) tc te σ Q:=by
 have hl:=ht.len
 intro acc hacc
 refine⟨fun i m ys H=>m=row.length-i/\i<=row.length/\Same H1 H/\H acc=some (.lst ys)/\Paired (fun k v=>P acc k v H) ((Ad i).filter p) ys,⟨row.length,by simp,Az _,Same.new hacc,af,.nil⟩,?_⟩
 rintro i m ys H ⟨rfl,hi,s1,ha,hp⟩
 by_cases hlt:i<row.length
 ·have hps:i<ps.length:=by omega
  have ex:row[i]?=some row[i]:=Aa hlt
  refine .inr ⟨⟨_,.ref ps[i],s1.seq hr,by simp[hps]⟩,fun ys' H'=>i<row.length/\Same H1 H'/\H' acc=some (.lst ys')/\Paired (fun k v=>P acc k v H') ((Ad (i+1)).filter p) ys',fun ys' H' ⟨z,a,b,c⟩=>⟨row.length-(i+1),AZ _ _ hlt,rfl,hlt,a,b,c⟩,fun x H' y=>?_⟩
  obtain⟨rfl,y⟩:=y
  have y:=y _ (s1.seq hr)
  rw[Ae]at y
  obtain⟨a,ea,rfl⟩:=An.mp y
  obtain⟨x',ex',ft⟩:=cy ht ea
  rw[ex]at ex'
  cases ex'
  refine⟨a,_,rfl,SqT.of (s1 _ _ ft),rfl,_,_,rfl,_,_,rfl,rfl,vT,hc i _ ex _ _ s1 fun H2 s2=>⟨fun hb=>?_,fun hb=>?_⟩⟩
  ·have ha2:=s2 _ _ ha
   refine he acc i _ ex hb _ _ (s1.trans s2) hacc (by rw[ha2];simp) fun v H3 s3 pv=>?_
   have hlen:ys.length<=i:=by
    rw[<- Paired.length hp]
    exact AC (AL _ _) (by simp)
   refine⟨s3 _ _ ha2,oi (by omega),hlt,((s1.trans s2).trans s3).put hacc,af,?_⟩
   rw[A0,AS]
   have e:BS p [i]=[i]:=by simp[hb]
   rw[e]
   refine Paired.snoc (Paired.mapP hp fun k v q=>?_) ?_
   ·exact mono acc k v _ _ (mono acc k v _ _ q (s2.trans s3).but) SameBut.upd
   ·exact mono acc i v _ _ pv SameBut.upd
  ·refine⟨hlt,s1.trans s2,s2 _ _ ha,?_⟩
   rw[A0,AS]
   have e:BS p [i]=[]:=by simp[hb]
   rw[e,Bo]
   exact Paired.mapP hp fun k v q=>mono acc k v _ _ q s2.but
 ·have e:i=row.length:=by omega
  subst e
  exact .inl ⟨⟨_,s1.seq hr,by rw[zZ];omega⟩,hQ acc ys H s1 hacc ha hp⟩
theorem iT {α β:Type} {f:Nat->β} {g:α->β} {l:List α} (h:∀(i:Nat) x,l[i]?=some x->f i=g x):(Ad l.length).map f=l.map g:=by
 apply Bb
 ·simp
 ·intro i h1 h2
  simp only[By,BC]
  exact h i _ (Aa (by simpa using h2))
theorem c8 {K:PySem.W.Frag} {H1:Hp} {js:List (Option Nat)} {σ:L2.St} {te:TE} {Q:VK} {r:Addr} {row:List (Int×Int)} (f:Int×Int->V)
  (hr:RowAt H1 r row) (hn:row.length<100000)
  (he:∀(i:Nat) x,row[i]?=some x->∀H2 R,Same H1 H2->(∀H3,Same H2 H3->R (f x) H3)->te (some (.int x.1) :: some (.int x.2) :: bV σ js) H2 R)
  (hQ:∀acc H',Same H1 H'->H1 acc=none->H' acc=some (.lst (row.map f))->Q (.ref acc) H'):
  cv (oo K r) H1 (none :: none :: js) (qk K 2 (gv (bD 0) (gv (bD 1) rO))) fC te σ Q:=by
 obtain⟨ps,h1,h2⟩:=hr
 refine jq (ps:=ps) (row:=row) (fun _=>true) (fun _ i v _=>v=f (row.getD i (0,0))) (SqL.of h1) h2 hn (fun _ _ _ _ _ h _=>h) (fun _ _ _ _ _ _ k=>k _ (Same.refl _)) (fun acc i x ex _ H2 R s _ _ k=>he i x ex H2 R s fun H3 s3=>k _ H3 s3 ?_) fun acc vs H' s n e p=>?_
 ·rw [Ab,ex];rfl
 ·refine hQ acc H' s n ?_
  rw[e,cF p,AG.mpr (fun _ _=>rfl)]
  rw[iT (g:=f) fun i x hx=>by rw[Ab,hx];rfl]
def lZ (row:List (Int×Int)):List (cO×V):=row.map fun x=>(Sum.inl x.1,V.int x.2)
def cz (row:List (Int×Int)) (b:Int):Option Int:=(row.find? fun x=>x.1==b).map (·.2)
theorem oY {row:List (Int×Int)} (h:(row.map (·.1)).Nodup):((lZ row).map (·.1)).Nodup:=by
 unfold lZ
 rw[Au]
 have e:row.map ((fun x:cO×V=>x.1) ∘ fun x:Int×Int=>((Sum.inl x.1:cO),V.int x.2))=(row.map (·.1)).map (Sum.inl:Int->cO):=by rw[Au];rfl
 rw[e]
 exact List.Pairwise.map _ (fun a b n z=>n (by injection z)) h
theorem eP (b:Int):∀row:List (Int×Int),iH (lZ row) (Sum.inl b)=(cz row b).map V.int
 | []=>rfl
 | x :: row=>by
  have ih:=eP b row
  unfold lZ cz iH at*
  rw[Bd,Bi,Bi]
  by_cases z:x.1=b
  ·have z1:(x.1==b)=true:=by simpa using z
   have z2:decide ((Sum.inl x.1:cO)=Sum.inl b)=true:=by rw[z];simp
   simp only[z1,z2,Option.map_some]
  ·have z1:(x.1==b)=false:=by simpa using z
   have z2:decide ((Sum.inl x.1:cO)=Sum.inl b)=false:=decide_eq_false fun y=>z (by injection y)
   simp only[z1,z2]
   exact ih
theorem TupsL.kv {K:PySem.W.Frag} {H:Hp} {ps:List Addr} {row:List (Int×Int)} (h:TupsL H ps row) (i:Nat) (a:Addr) (e:ps[i]?=some a):∃k v,(lZ row)[i]?=some (k,v)/\SqT K H a [kV k,v]:=by
 obtain⟨x,hx,t⟩:=cy h e
 exact⟨Sum.inl x.1,V.int x.2,by unfold lZ;rw[Ae,hx];rfl,SqT.of t⟩
theorem nI {row:List (Int×Int)} (nd:(row.map (·.1)).Nodup) {x:Int×Int} (h:x∈row):cz row x.1=some x.2:=by
 induction row with
 | nil=>cases h
 | cons y row ih=>
  rw[Bd,BD]at nd
  unfold cz
  rw[Bi]
  rcases Al.mp h with e | h
  ·subst e;simp
  ·have z:(y.1==x.1)=false:=by
    refine beq_false_of_ne fun e=>nd.1 ?_
    rw[e]
    exact AI.mpr ⟨x,h,rfl⟩
   rw[z]
   exact ih nd.2 h
theorem qT {row:List (Int×Int)} {b c:Int} (h:cz row b=some c):(b,c)∈row:=by
 unfold cz at h
 obtain⟨x,hx,e⟩:=An.mp h
 have e1:=List.find?_some hx
 have e2:=List.mem_of_find?_eq_some hx
 have e3:x.1=b:=by simpa using e1
 rw[<- e3,<- e]
 exact e2
theorem kX {row:List (Int×Int)} {b:Int}:cz row b=none<->b∉row.map (·.1):=by
 unfold cz
 rw[Option.map_eq_none_iff,List.find?_eq_none]
 constructor
 ·intro h z
  obtain⟨x,hx,e⟩:=AI.mp z
  exact h x hx (by simp[e])
 ·intro h x hx z
  exact h (AI.mpr ⟨x,hx,by simpa using z⟩)
theorem jr {n j:Nat} (h:j<n):uQ n (j:Int)=some j:=by
 unfold uQ
 rw[if_pos (by omega),if_pos (by omega),AF]
theorem eQ (L:List Int) (c:Int) {n:Nat} (e:L.length=n) (h:0<n):∃d,lz (L.map V.int) (c%(n:Int))=some (.int d)/\d∈L:=by
 obtain⟨m,hm,em⟩:=oW c h
 rw[em]
 have hl:m<L.length:=by omega
 exact⟨L[m],bh (by simp[hl]),Ax hl⟩
theorem tL {K:PySem.W.Frag} {H1:Hp} {js:List (Option Nat)} {σ:L2.St} {te:TE} {Q:VK} {a:Addr} {ns:List Int} (f:Int->V) (hl:SqL K H1 a (ns.map V.int)) (hn:ns.length<100000)
  (he:∀(i:Nat) x,ns[i]?=some x->∀H2 R,Same H1 H2->(∀H3,Same H2 H3->R (f x) H3)->te (some (.int x) :: bV σ js) H2 R)
  (hQ:∀acc H',Same H1 H'->H1 acc=none->H' acc=some (.lst (ns.reverse.map f))->Q (.ref acc) H'):cv (vh K a (ns.map V.int).length) H1 (none :: js) (bD 0) fC te σ Q:=by
 have ln:(ns.map V.int).length=ns.length:=zZ ..
 rw[ln]
 refine cQ (J:=vh K a ns.length) (H1:=H1) (js:=js) (σ:=σ) (tc:=fC) (te:=te) (Q:=Q) ns.length (fun i=> .int (ns.getD (ns.length-1-i) 0)) (fun _=>true) (fun _ i v _=>v=f (ns.getD (ns.length-1-i) 0)) hn (fun _ _ _ _ _ h _=>h)
  (fun i H h s=>⟨h,_,s.seq hl,ln⟩) (fun H s=>Af _)
  (fun i H x H' h s y=>⟨y.1,?_⟩)
  (fun i h H2 R s k=>k _ (Same.refl _)) (fun acc i h hp H2 R s n1 n2 k=>?_)
  fun acc vs H' s n' e p=>hQ acc H' s n' ?_
 ·have e:=y.2 _ (s.seq hl)
  rw[Ae]at e
  obtain⟨z,hz,rfl⟩:=An.mp e
  rw[Ab,hz];rfl
 ·have hx:ns[ns.length-1-i]?=some (ns.getD (ns.length-1-i) 0):=by rw[Ab,Aa (by omega)];rfl
  exact he _ _ hx H2 R s fun H3 s3=>k _ H3 s3 rfl
 ·rw [e,cF p,AG.mpr (fun _ _=>rfl)]
  congr 2
  apply Bb
  ·simp
  ·intro i h1 h2
   simp only[zZ,AD]at h1
   simp only[By,BC,List.getElem_reverse]
   rw[Ab,Aa (by omega)];rfl
theorem xo {ns:List Int} (c:Int) (h:ns.Pairwise (· < ·)):((ns.reverse.map fun x=>c-x):List Int).Pairwise (· < ·):=by
 refine List.Pairwise.map _ (fun a b (z:b<a)=>by show c-a<c-b;omega) ?_
 exact List.pairwise_reverse.mpr h
structure RowOk (bs:List Int) (tp:Int) (row:List (Int×Int)):Prop where
 up:(row.map (·.1)).Pairwise (· < ·)
 inn:∀x∈row,x.1∈bs/\0<=x.2/\x.2<tp
 len:row.length<=bs.length
theorem RowAt.but {H:Hp} {r l:Addr} {row:List (Int×Int)} {xs:List V} {o:HO} (h:RowAt H r row) (hl:H l=some (.lst xs)) (ne:r≠l):RowAt (aG H l o) r row:=by
 obtain⟨ps,a,b⟩:=h
 exact⟨ps,by rw[aE ne];exact a,Paired.mapP b fun a x q=>by
  show aG H l o a=_
  rw[aE (fun z=>by rw[bR,z,hl]at q;cases q)];exact q⟩
theorem TupsL.but {H:Hp} {l:Addr} {ps:List Addr} {row:List (Int×Int)} {xs:List V} {o:HO} (h:TupsL H ps row) (hl:H l=some (.lst xs)):TupsL (aG H l o) ps row:=
 Paired.mapP h fun a x q=>by
  show aG H l o a=_
  rw[aE (fun z=>by rw[bR,z,hl]at q;cases q)];exact q
theorem BillL.but {H:Hp} {l:Addr} {rs:List Addr} {rows:List (List (Int×Int))} {xs:List V} {o:HO} (h:BillL H rs rows) (hl:H l=some (.lst xs)) (ne:l∉rs):BillL (aG H l o) rs rows:=by
 refine dG h.len fun i r row e1 e2=>?_
 obtain⟨row',e3,q⟩:=h.get e1
 rw[e2]at e3
 cases e3
 exact q.but hl fun z=>ne (z▸Ah e1)
theorem pY {l:List Int} {x:Int} (h:l.Pairwise (· < ·)) (hx:∀y∈l,y<x):(l++[x]).Pairwise (· < ·):=
 List.pairwise_append.mpr ⟨h,Bz ..,fun a ha b hb=>by rw[Am.mp hb];exact hx a ha⟩
theorem vi {bs:List Int} (h:bs.Pairwise (· < ·)) {i:Nat} {x:Int} (hx:bs[i]?=some x):∀y∈bs.take i,y<x:=by
 intro y hy
 obtain⟨hi,ex⟩:=Ac.mp hx
 obtain⟨j,hj,ej⟩:=Ap.mp hy
 rw[A6]at hj
 rw[B0]at ej
 rw[<- ej,<- ex]
 exact Bj.mp h j i _ _ (by omega)
theorem bM {α β:Type} {F:α->β->Prop} {l:List α} {r:List β} (h:Paired F l r) {a:α} {b:β} (q:F a b):Paired F (l++[a]) (r++[b]):=Paired.snoc h q
def ig (row r2:List (Int×Int)):List (Int×Int):=(row.filter fun x=>(cz r2 x.1).isSome).map fun x=>(x.1,x.2+(cz r2 x.1).getD 0)
def aC (row:List (Int×Int)):List Int:=row.map (·.1)
def eK (rows:List (List (Int×Int))):List Nat->List (Int×Int)
 | []=>[]
 | s :: st=>st.foldl (fun acc j=>ig acc (rows.getD j [])) (rows.getD s [])
def bQ (rows:List (List (Int×Int))):List Nat->List Int
 | []=>[]
 | s :: st=>st.foldl (fun acc j=>acc.filter fun b=>decide (b∈aC (rows.getD j []))) (aC (rows.getD s []))
def gJ (rows:List (List (Int×Int))) (st:List Nat) (b:Int):Int:=(st.map fun s=>(cz (rows.getD s []) b).getD 0).sum
def kY (rows:List (List (Int×Int))) (p:List Int):List (List (Int×Int)):=(Ad (dd p).length).map fun b=>eK rows (aP p b)
theorem ij {rows:List (List (Int×Int))} {st:List Nat} (h:st≠[]) (s:Nat):eK rows (st++[s])=ig (eK rows st) (rows.getD s []):=by
 cases st with
 | nil=>exact absurd rfl h
 | cons a r=>show((r++[s]).foldl _ _)=_;rw[List.foldl_append];rfl
theorem dI {rows:List (List (Int×Int))} {st:List Nat} (h:st≠[]) (s:Nat):bQ rows (st++[s])=(bQ rows st).filter fun b=>decide (b∈aC (rows.getD s [])):=by
 cases st with
 | nil=>exact absurd rfl h
 | cons a r=>show((r++[s]).foldl _ _)=_;rw[List.foldl_append];rfl
theorem kZ {rows:List (List (Int×Int))} {st:List Nat} (s:Nat) (b:Int):gJ rows (st++[s]) b=gJ rows st b+(cz (rows.getD s []) b).getD 0:=by
 unfold gJ
 rw[Aw,List.sum_append]
 simp
theorem nJ {row:List (Int×Int)} {b:Int}:(cz row b).isSome=decide (b∈aC row):=by
 cases e:cz row b with
 | none=>exact(decide_eq_false (show b∉aC row from kX.mp e)).symm
 | some c=>exact(decide_eq_true (show b∈aC row from AI.mpr ⟨_,qT e,rfl⟩)).symm
theorem tM {row:List (Int×Int)} (nd:(aC row).Nodup):row=(aC row).map fun b=>(b,(cz row b).getD 0):=by
 unfold aC
 rw[Au]
 conv=>lhs;rw[<- List.map_id row]
 apply Bh
 intro x hx
 show x=(x.1,(cz row x.1).getD 0)
 rw[nI nd hx];rfl
theorem gL {α:Type} {P:List α->Prop} (h1:∀a,P [a]) (h2:∀l a,l≠[]->P l->P (l++[a])):∀l,l≠[]->P l:=by
 intro l
 have key:∀(n:Nat) (l:List α),l.length=n->l≠[]->P l:=by
  intro n
  induction n with
  | zero=>intro l e h;exact absurd (AA.mp e) h
  | succ n ih=>
   intro l e h
   have e1:=List.dropLast_concat_getLast h
   by_cases z:l.dropLast=[]
   ·rw [z]at e1
    rw[<- e1]
    exact h1 _
   ·rw [<- e1]
    exact h2 _ _ z (ih _ (by rw[List.length_dropLast];omega) z)
 exact key _ l rfl
theorem pZ {rows:List (List (Int×Int))} (nd:∀row∈rows,(aC row).Nodup):∀st,st≠[]->eK rows st=(bQ rows st).map fun b=>(b,gJ rows st b):=by
 refine gL (fun s=>?_) (fun st s hne ih=>?_)
 ·show rows.getD s []=(aC (rows.getD s [])).map _
  have hn:(aC (rows.getD s [])).Nodup:=by
   rw[Ab]
   cases e:rows[s]? with
   | none=>exact .nil
   | some row=>exact nd row (Ah e)
  conv=>lhs;rw[tM hn]
  apply Bh
  intro b _
  unfold gJ
  simp
 ·rw [ij hne,dI hne,ih]
  unfold ig
  rw[BJ,Au]
  have e1:(fun x:Int×Int=>(cz (rows.getD s []) x.1).isSome) ∘ (fun b=>(b,gJ rows st b))=fun b=>decide (b∈aC (rows.getD s [])):=by
   funext b
   exact nJ
  rw[e1]
  apply Bh
  intro b _
  show(b,gJ rows st b+_)=_
  rw[kZ]
theorem nK {rows:List (List (Int×Int))}:∀st,st≠[]->∀b,b∈bQ rows st<->∀s∈st,b∈aC (rows.getD s []):=by
 refine gL (fun s b=>?_) (fun st s hne ih b=>?_)
 ·show b∈aC (rows.getD s [])<->_
  simp
 ·rw [dI hne,AQ,ih b,decide_eq_true_iff]
  constructor
  ·rintro⟨h1,h2⟩ x hx
   rcases AH.mp hx with z | z
   ·exact h1 x z
   ·rw [Am.mp z];exact h2
  ·intro h
   exact⟨fun x hx=>h x (Bc _ hx),h s (AE _ (by simp))⟩
theorem vV {α β:Type} {l:List α} {d:α} {g:α->Bool} {F:α->β}:(((Ad l.length).filter fun j=>g (l.getD j d)).map fun j=>F (l.getD j d))=(l.filter g).map F:=by
 have e0:l=(Ad l.length).map fun i=>l.getD i d:=by
  conv=>lhs;rw[<- List.map_id l]
  exact(iT fun i x hx=>by rw[Ab,hx];rfl).symm
 conv=>rhs;rw[e0]
 rw[BJ,Au]
 rfl
theorem qc {H:Hp} {g:Nat->Int×Int}:∀{is:List Nat} {vs:List V},Paired (fun i v=>∃t,v= .ref t/\bR H t (g i)) is vs->∃ps:List Addr,vs=ps.map V.ref/\TupsL H ps (is.map g)
 | _,_,.nil=>⟨[],rfl,.nil⟩
 | _,_,.cons ⟨t,e,h⟩ r=>by
  obtain⟨ps,e2,h2⟩:=qc r
  exact⟨t :: ps,by rw[e,e2];rfl,.cons h h2⟩
theorem oZ (row r2:List (Int×Int)):(ig row r2).length<=row.length:=by
 unfold ig
 rw[zZ]
 exact AL _ _
theorem nL {rows:List (List (Int×Int))} {n:Nat} (h:∀row∈rows,row.length<=n):∀st,(eK rows st).length<=n:=by
 have base:∀s,(rows.getD s []).length<=n:=fun s=>by
  rw[Ab]
  cases e:rows[s]? with
  | none=>exact Az _
  | some row=>exact h row (Ah e)
 intro st
 by_cases z:st=[]
 ·rw [z];exact Az _
 ·exact gL (P:=fun st=>(eK rows st).length<=n) base (fun st s hne ih=>by rw[ij hne];exact AC (oZ _ _) ih) st z
def RowN (acc:Addr) (H:Hp) (r:Addr) (row:List (Int×Int)):Prop:=r≠acc/\∃ps:List Addr,H r=some (.lst (ps.map V.ref))/\(∀a∈ps,a≠acc)/\TupsL H ps row
theorem RowN.mono {acc:Addr} {H H':Hp} {r:Addr} {row:List (Int×Int)} (h:RowN acc H r row) (s:SameBut acc H H'):RowN acc H' r row:=by
 obtain⟨n,ps,a,b,c⟩:=h
 refine⟨n,ps,s _ _ n a,b,dG (Paired.length c) fun i x y e1 e2=>?_⟩
 obtain⟨y',e3,q⟩:=cy c e1
 rw[e2]at e3
 cases e3
 exact s _ _ (b x (Ah e1)) q
theorem RowN.at {acc:Addr} {H:Hp} {r:Addr} {row:List (Int×Int)} (h:RowN acc H r row):RowAt H r row:=let⟨_,ps,a,_,c⟩:=h;⟨ps,a,c⟩
theorem RowAt.n {acc:Addr} {H:Hp} {r:Addr} {row:List (Int×Int)} {xs:List V} (h:RowAt H r row) (n:r≠acc) (ha:H acc=some (.lst xs)):RowN acc H r row:=by
 obtain⟨ps,a,c⟩:=h
 refine⟨n,ps,a,fun x hx z=>?_,c⟩
 obtain⟨i,hi,ei⟩:=Ap.mp hx
 obtain⟨y,_,q⟩:=cy c (Aa hi)
 rw[bR,ei,z,ha]at q
 cases q
theorem o4 {H1:Hp} {js:List (Option Nat)} {σ:L2.St} {te:TE} {Q:VK} {n:Nat} (f:Nat->List (Int×Int)) (hn:n<100000)
  (he:∀i:Nat,i<n->∀H2 R,Same H1 H2->(∀r H3,Same H2 H3->H2 r=none->RowAt H3 r (f i)->R (.ref r) H3)->te (some (.int (0+(i:Int))) :: bV σ js) H2 R)
  (hQ:∀acc ls H',Same H1 H'->H1 acc=none->H' acc=some (.lst (ls.map V.ref))->BillL H' ls ((Ad n).map f)->(∀r∈ls,H1 r=none/\r≠acc)->Q (.ref acc) H'):cv (og 0 n) H1 (none :: js) (bD 0) fC te σ Q:=by
 refine ia (fun acc ys H=>∃ls:List Addr,ys=ls.map V.ref/\∀(i:Nat) r,ls[i]?=some r->H1 r=none/\RowN acc H r (f i)) hn (fun acc ys H H' ⟨ls,e,h⟩ s=>⟨ls,e,fun i r z=>⟨(h i r z).1,(h i r z).2.mono s⟩⟩) (fun acc H=>⟨[],rfl,fun i r z=>by cases z⟩) ?_ ?_
 ·rintro acc i ys H2 R hi s n1 n2 ln ⟨ls,rfl,h⟩ k
  rw[zZ]at ln
  refine he i hi H2 R s fun r H3 s3 nr hr=>k (.ref r) H3 s3 ⟨ls++[r],by rw[Aw];rfl,fun j r' z=>?_⟩
  have n3:=s3 _ _ n2
  by_cases hj:j<ls.length
  ·rw [AM hj]at z
   exact⟨(h j r' z).1,(h j r' z).2.mono s3.but⟩
  ·have hj':=(Ac.mp z).1
   rw[Ai,Aq]at hj'
   have ej:j=ls.length:=by omega
   subst ej
   rw[AU (Af _),BB]at z
   cases z
   rw[ln]
   exact⟨s.free nr,hr.n (fun z=>by rw[z,n2]at nr;cases nr) n3⟩
 ·rintro acc ys H' s n1 n2 ln ⟨ls,rfl,h⟩
  rw[zZ]at ln
  refine hQ acc ls H' s n1 n2 (dG (by rw[zZ,AD];exact ln) fun i r row e1 e2=>?_) fun r hr=>?_
  ·rw [Ae]at e2
   obtain⟨j,e3,e4⟩:=An.mp e2
   have hj:=(Ac.mp e3)
   obtain⟨hj1,hj2⟩:=hj
   rw[BC]at hj2
   subst hj2
   subst e4
   exact(h i r e1).2.at
  ·obtain⟨i,hi,ei⟩:=Ap.mp hr
   have:=h i r (by rw[Aa hi,ei])
   exact⟨this.1,this.2.1⟩
def jY (p:List Int) (b:Int) (i:Nat):List Nat:=(Ad i).filter fun j=>decide (p.getD j 0=b)
theorem qU (p:List Int) (b:Int) (i:Nat):jY p b (i+1)=if p.getD i 0=b then jY p b i++[i]else jY p b i:=by
 unfold jY
 rw[A0,AS]
 by_cases z:p.getD i 0=b
 ·rw [if_pos z,Bq,if_pos (decide_eq_true z)];rfl
 ·rw [if_neg z,Bq,if_neg (by rw[decide_eq_false z];decide)];exact Bo _
theorem tN (p:List Int) (b:Nat):jY p (b:Int) p.length=aP p b:=rfl
section
variable {X:Cx}
end
def df (G H H':Hp):Hp:=fun b=>match H b with
 | none=>H' b
 | some _=>G b
theorem dw {G H H':Hp} {b:Addr} {o:HO} (h:H b=none) (e:H' b=some o):df G H H' b=some o:=by unfold df;rw[h];exact e
theorem o5 {G H H':Hp} (s:Same G H):Same G (df G H H'):=fun b o e=>by unfold df;rw[s _ _ e];exact e
theorem yr {G H H':Hp} {b:Addr} {o:HO} (e:df G H H' b=some o):(H b=none/\H' b=some o)\/((∃u,H b=some u)/\G b=some o):=by
 unfold df at e
 cases h:H b with
 | none=>rw[h]at e;exact .inl ⟨rfl,e⟩
 | some u=>rw[h]at e;exact .inr ⟨⟨u,rfl⟩,e⟩
def du (ds:List (Int×Int)) (b:Int):Int:=(cz ds b).getD 0
def hA (hs:List (Option Int)) (j:Nat):Option Int:=hs.getD j none
section
variable {X:Cx}
end
theorem ik {α:Type} {l:List α} {i:Nat} {x:α} (h:l[i]?=some x):l.take (i+1)=l.take i++[x]:=by
 rw[Be,h];rfl
end L2
namespace L2
open PySem PySem.Spec PyProof.Rows PySem.W
section
variable {prog:Program} {w:World} {A:Around} {E:Value->Shared->Prop} {s:Shared}
end
section
variable {X:Cx}
end
section
variable {prog:Program} {w:World} {A:Around} {E:Value->Shared->Prop} {s:Shared}
end
section
variable {X:Cx}
end
theorem zj {a b:Int}:decide (V.int a=V.int b)=decide (a=b):=by simp
theorem k7 {as:List Addr} {us:List Value} (h:Vals (as.map V.ref) us):us=as.map Value.ref:=by
 induction as generalizing us with
 | nil=>cases h;rfl
 | cons a as ih=>
  cases h with
  | cons r t=>cases r;rw[ih t];rfl
def zk (K:PySem.W.Frag) (neg:Bool):R2:=fun x y H Q=>∃(p:Addr) (as:List Addr) (d:Nat) (f:Addr->Bool),y= .ref p/\SqL K H p (as.map V.ref)/\d<60/\(∀a∈as,DEq K H d (.ref a) x (f a))/\Q (.bl (if neg then !as.any f else as.any f)) H
def xp (f:Addr->Bool):Value->Bool
 | .ref a=>f a
 | _=>false
section
variable {X:Cx}
theorem tO (as:List Addr) (f:Addr->Bool):(as.map Value.ref).toArray.any (xp f)=as.any f:=by
 rw[List.any_toArray,List.any_map];rfl
theorem zU (K:PySem.W.Frag) (hu:X.A.units+64<cLine) (hK:X.K=K:=by rfl):eG X (compareOp .In) (zk K false):=by
 subst hK
 intro pins s σ H x y v u Q I rx ry h
 obtain⟨p,as,d,f,rfl,hq,hd,he,q⟩:=h
 cases ry
 obtain⟨its,r,pl,hz⟩:=I.list hq
 have e1:=k7 r
 subst e1
 refine SeqAt.in_listAt (xp f) pl.isList (fun w hw=>?_) ⟨.bl _,H,I,rfl,?_⟩
 ·obtain⟨a,ha,rfl⟩:∃a∈as,Value.ref a=w:=by simpa using hw
  exact(he a ha).at I (by show X.A.units+1+d<cLine;omega) rfl rx
 ·rw [tO];exact q
end
def o6 (H:Hp) (a:Addr):Bool:=match H a with
 | some (.lst l)=>l.isEmpty
 | _=>false
theorem vj {K:PySem.W.Frag} {H:Hp} {a b:Addr} {xs:List V} (h1:H a=some (.lst xs)) (h2:SqL K H b []):DEq K H 1 (.ref a) (.ref b) (o6 H a):=by
 unfold o6
 rw[h1]
 exact lH (SqL.of h1) h2
section
variable {α:Type} [DecidableEq α]
end
section
variable {α:Type} [DecidableEq α]
end
section
variable {α:Type}
end
section
variable {prog:Program} {w:World} {A:Around} {E:Value->Shared->Prop} {s:Shared} {T:String} {r d:Addr} {n:Nat} {P:Nat->Value->Prop} {OK:Heap->Prop}
end
section
variable {X:Cx}
end
end L2
namespace L2
open PySem PySem.Spec PyProof.Rows
theorem ObjOk.has {P:Program} {w:World} {H:Hp} {h:Heap} {a:Addr}:∀{o:HO},ObjOk P w H h a o->∃ob,h.get? a=some ob:=by
 intro o x
 cases o with
 | lst xs=>obtain⟨_,_,_,_,e⟩:=x;exact⟨_,e⟩
 | tup xs=>obtain⟨_,_,_,ob,e,_⟩:=x;exact⟨_,e⟩
 | dK kvs=>obtain⟨_,_,_,_,ob,_,_,e,_⟩:=x;exact⟨_,e⟩
 | dT kvs=>obtain⟨_,_,_,_,ob,_,_,e,_⟩:=x;exact⟨_,e⟩
 | set S n=>obtain⟨ob,_,_,_,e,_⟩:=x;exact⟨_,e⟩
 | ins C dx fs=>obtain⟨_,_,_,e,_⟩:=x;exact⟨_,e⟩
 | own y=>exact x
 | xd fs=>obtain⟨_,⟨ob,_,_,e,_⟩,_⟩:=x;exact⟨_,e⟩
 | rng lo hi=>obtain⟨_,_,_,e⟩:=x;exact⟨_,e⟩
 | frz ob u=>obtain⟨e,_⟩:=x;exact⟨_,e⟩
 | tbl ps=>exact⟨_,x⟩
 | met f y=>exact⟨_,x⟩
 | ext φ=>exact x.2.1
theorem HOk.stays {P:Program} {w:World} {H:Hp} {h h':Heap} (ok:HOk P w H h) (k:∀b u,(H b).isSome=true->h.get? b=some u->h'.get? b=some u):HOk P w H h':=fun a o q=>
 (ok a o q).stay (fun b u hb e=>k b u (hb.elim (fun y=>by rw[y,q];rfl) fun y=>by rw[y];rfl) e) (fun _ z=>z) fun _ _ z=>z
structure Flies (P:Program) (w:World) (outer:List Env) (H H':Hp) (s:Shared) (ea C:Addr) (a0:Value) (B:Heap) (s':Shared):Prop where
 os:s'.os=s.os
 bare:AllBare s'.gens
 un:Un (gq outer) [] H H' s.heap s'.heap
 hok:HOk P w H' s'.heap
 fl:Heap.FlyingW B outer ea (.ref C) a0 s'.heap
 new:s.heap.get? ea=none
 free:H' ea=none
 cov:∀b o,s'.heap.get? b=some o->b∉gq outer->((s.heap.get? b).isSome=true\/(H' b).isSome=true)->B.get? b=some o
def zB (P:Program) (w:World):rJ:=fun outer H s E e s'=>∃(ea C:Addr) (a0:Value) (B:Heap) (H':Hp),e= .ref ea/\E (.ref C) none H'/\Flies P w outer H H' s ea C a0 B s'
section
variable {P:Program} {w:World} {K:PySem.W.Frag} {mg:Str->Option Value} {base:Heap}
end
section
variable {P:Program} {w:World} {K:PySem.W.Frag} {mg:Str->Option Value} {base:Heap} {N:List Str} {qual:Str} {scope:Scope} {f:Addr} {cd:Value} {A:Around} {outer:List Env} {s₀:Shared} {H₀:Hp} {E:XK}
theorem zl {pins:List (Addr×Obj)} {σ:St} {H:Hp} {s:Shared} {h':Heap} {e C:Addr} {vs:List Value} (I:Inv (mN (zB P w) P w K mg base N qual scope f cd A outer s₀ H₀ E) pins σ H s) (hx:Heap.MadeExcOf s.heap h' e (.ref C) vs)
  (h:E (.ref C) none H):(mN (zB P w) P w K mg base N qual scope f cd A outer s₀ H₀ E).xe (.ref e) {s with heap:=h'}:=by
 have st:gq (envOfC qual scope s₀.heap.objs.size f cd :: outer)=s₀.heap.objs.size :: gq outer:=rfl
 have hin:∀env∈(envOfC qual scope s₀.heap.objs.size f cd :: outer),∀a,env.frame=some a->a∈gq (envOfC qual scope s₀.heap.objs.size f cd :: outer):=fun env he a ha=>Br.mpr ⟨env,he,ha⟩
 have fr:s.heap.FunFrames base (envOfC qual scope s₀.heap.objs.size f cd :: outer):=I.stack
 have fr':=PySem.W.funFrames_hide fr hin
 refine wpAny_leaves_madeW (s:={s with heap:=h'}) I.ok.frames rfl (fun b o q=>PySem.W.of_hideAll _ q) fr' hx fun h2 t fl tu bt up=>?_
 have up2:s.heap.UpToSlots h2:=(Heap.UpToSlots.of_keeps hx.keeps).trans up
 have kB:∀b o,s.heap.get? b=some o->b∉gq (envOfC qual scope s₀.heap.objs.size f cd :: outer)->(PySem.W.hideAll s.heap (gq (envOfC qual scope s₀.heap.objs.size f cd :: outer))).get? b=some o:=fun b o q n=>PySem.W.hideAll_get _ q n
 have kp:∀b o,s.heap.get? b=some o->b∉gq (envOfC qual scope s₀.heap.objs.size f cd :: outer)->h2.get? b=some o:=fun b o q n=>fl.1 b o (kB b o q n)
 have old:∀b o,s₀.heap.get? b=some o->b∉gq outer->b∉gq (envOfC qual scope s₀.heap.objs.size f cd :: outer):=fun b o q n z=>by
  rw[st]at z
  rcases Al.mp z with z | z
  ·rw [z]at q;exact A4 _ (Heap.lt_size q)
  ·exact n z
 have tr:∀b,(H b).isSome=true->b∉gq (envOfC qual scope s₀.heap.objs.size f cd :: outer):=fun b q z=>by rw[I.stkFree b z]at q;cases q
 have un0:Un (gq outer) [] H₀ H s₀.heap s.heap:=I.base
 have slots:∀b o,s.heap.get? b=some o->b∈gq outer->∃sl,h2.get? b=some {o with slots:=sl}:=fun b o q m=>by
  obtain⟨_,o',q',nf⟩:=fr.mem (show b∈gq (envOfC qual scope s₀.heap.objs.size f cd :: outer) by rw[st];exact Av _ m)
  rw[q]at q';cases q'
  exact up2 b o q nf
 refine⟨e,C,.ref t,_,H,rfl,h,I.os,I.bare,⟨fun b o q n nf _=>kp b o (un0.keep b o q n nf (by simp)) (old b o q nf),fun b o q n m _=>?_,fun b o q n _=>un0.free b o q n (by simp),fun b o q _=>?_,un0.tups,un0.frzs,un0.tbls⟩,
  I.hok.stays fun b u q e=>kp b u e (tr b q),fl,?_,?_,fun b o q n z=>?_⟩
 ·obtain⟨sl,q1⟩:=un0.slot b o q n m (by simp)
  obtain⟨sl2,q2⟩:=slots b _ q1 m
  exact⟨sl2,q2⟩
 ·obtain⟨o1,q1⟩:=un0.there b o q (by simp)
  by_cases m:b∈gq outer
  ·obtain⟨sl,q2⟩:=slots b _ q1 m
   exact⟨_,q2⟩
  ·exact⟨o1,kp b o1 q1 (old b o q m)⟩
 ·cases q:s₀.heap.get? e with
  | none=>rfl
  | some o=>
   obtain⟨o1,q1⟩:=un0.there e o q (by simp)
   rw[hx.new]at q1;cases q1
 ·cases q:H e with
  | none=>rfl
  | some o=>
   obtain⟨o1,q1⟩:=(I.hok e o q).has
   rw[hx.new]at q1;cases q1
 ·have nb:b∉gq (envOfC qual scope s₀.heap.objs.size f cd :: outer)/\∃o1,s.heap.get? b=some o1:=by
   rcases z with z | z
   ·obtain⟨o0,q0⟩:=A8.mp z
    obtain⟨o1,q1⟩:=un0.there b o0 q0 (by simp)
    exact⟨old b o0 q0 n,o1,q1⟩
   ·obtain⟨o0,q0⟩:=A8.mp z
    obtain⟨o1,q1⟩:=(I.hok b o0 q0).has
    exact⟨tr b z,o1,q1⟩
  obtain⟨n1,o1,q1⟩:=nb
  have q2:=kp b o1 q1 n1
  have q:h2.get? b=some o:=q
  rw[q]at q2;cases q2
  exact kB b _ q1 n1
end
section
variable {X:Cx} {pins:List (Addr×Obj)} {σ:St} {H H':Hp} {s s':Shared} {ea C:Addr} {a0:Value} {B h2:Heap}
end
section
variable {X:Cx} {k:Nat} {f C:Addr} {fd:FuncData} {ps:List Str} {sp:Sp} {x y:Str} {st:Stmt} {p cpos epos np hpos pos:Pos} {e:Expr} {es:List Expr} {t:TA} {b₀:Stmt} {suite:List Stmt}
end
section
variable {X:Cx} {k i:Nat} {f C:Addr} {fd:FuncData} {ps:List Str} {sp:Sp} {x y n:Str} {st:Stmt} {p cpos epos np hpos pos:Pos} {e:Expr} {es:List Expr} {t:TA} {b₀:Stmt} {suite:List Stmt} {ts:TS} {c:Value}
end
section
open PySem.W PySem.Builtin.ObjectAttr PySem.Builtin PySem.Builtin.Getset_descriptor
variable {K:Frag} {x D:Addr}
variable {prog:Program} {w:World} {A:Around} {s:Shared} {E:Value->Shared->Prop}
end
section
variable {X:Cx} {k:Nat} {f:Addr} {fd:FuncData} {ps:List Str} {sp:Sp} {x:Str} {p pos:Pos} {e:Expr} {es:List Expr} {t:TA} {st:Stmt}
end
abbrev zo:=List (Int×Int)
section
variable {es:zo} {cn k:Nat} {row:List Int}
end
section
variable {es:zo} {cn:Nat} {S:List Int}
end
section
variable {es:zo} {cn:Nat} {r:List Int}
end
end L2
namespace L2
open PySem PySem.Spec PyProof.Rows PySem.W
def gM:Nat->List (List Nat)
 | 0=>[[]]
 | n+1=>gM n++(gM n).map fun l=>l++[n]
theorem tP (n:Nat):(gM n).length=2^n:=by
 induction n with
 | zero=>rfl
 | succ n ih=>show(gM n++_).length=_;rw[Ai,zZ,ih,Nat.pow_succ];omega
theorem xO {α:Type} {l:List α} {i:Nat} {x d:α} (h:l[i]?=some x):l.getD i d=x:=by rw[Ab,h];rfl
section
variable {s:Shared} {A:Around} {w:World} {prog:Program} {E:Value->Shared->Prop}
end
theorem qd (n:Nat):∀l∈gM n,∀x∈l,x<n:=by
 induction n with
 | zero=>intro l hl x hx;rw[Am.mp hl]at hx;cases hx
 | succ n ih=>
  intro l hl x hx
  rcases AH.mp hl with z | z
  ·have:=ih l z x hx;omega
  ·obtain⟨l',h1,rfl⟩:=AI.mp z
   rcases AH.mp hx with y | y
   ·have:=ih l' h1 x y;omega
   ·rw [Am.mp y];omega
def fR (st:List Int) (l:List Nat):List Int:=l.map fun k=>st.getD k 0
section
variable {X:Cx}
end
section
variable {X:Cx} {pins:List (Addr×Obj)} {σ:St} {H:Hp} {s:Shared} {h':Heap}
end
section
variable {X:Cx} {a:Expr} {ta:TA} {p1 p2 kpos pos:Pos}
end
end L2
namespace L2
open PySem PySem.Spec PyProof.Rows
theorem qV (st:List Int) (l:List Nat) (j:Nat):fR st (l++[j])=fR st l++[st.getD j 0]:=by unfold fR;rw[Aw];rfl
end L2
namespace L2
open PySem PySem.Spec PyProof.Rows PySem.W
abbrev SD:=Array Nat×Array (Nat×Nat×Nat)×Nat
section
variable {prog:Program} {w:World} {E:Value->Shared->Prop} {A:Around} {κ:SortKind} {it:Array Keyed} {s:Shared} {n:Nat} {lt:Nat->Nat->Bool}
end
section
variable (n:Nat) (lt:Nat->Nat->Bool) (left:Bool) (k:Nat) (q:Array Nat) (base hint mx:Nat)
end
section
variable {prog:Program} {w:World} {E:Value->Shared->Prop} {A:Around} {κ:SortKind} {it:Array Keyed} {s:Shared} {n:Nat} {lt:Nat->Nat->Bool} {left:Bool} {k:Nat} {q:Array Nat} {base hint mx:Nat}
end
section
variable {prog:Program} {w:World} {E:Value->Shared->Prop} {A:Around} {κ:SortKind} {it:Array Keyed} {s:Shared} {n:Nat} {lt:Nat->Nat->Bool}
end
section
variable {prog:Program} {w:World} {E:Value->Shared->Prop} {A:Around} {κ:SortKind} {it:Array Keyed} {s:Shared} {n:Nat} {lt:Nat->Nat->Bool} {qa qb:Array Nat} {mg:Nat}
end
section
variable {prog:Program} {w:World} {E:Value->Shared->Prop} {A:Around} {κ:SortKind} {it:Array Keyed} {s:Shared} {n:Nat} {lt:Nat->Nat->Bool}
end
section
variable (n:Nat) (lt:Nat->Nat->Bool) (lo nrem:Nat)
end
section
variable {prog:Program} {w:World} {E:Value->Shared->Prop} {A:Around} {κ:SortKind} {it:Array Keyed} {s:Shared} {n:Nat} {lt:Nat->Nat->Bool} {lo nrem:Nat}
end
section
variable (n:Nat) (lt:Nat->Nat->Bool) (size mr:Nat)
end
section
variable {prog:Program} {w:World} {E:Value->Shared->Prop} {A:Around} {κ:SortKind} {it:Array Keyed} {s:Shared} {n:Nat} {lt:Nat->Nat->Bool}
end
set_option synthInstance.maxSize 4096 in
set_option synthInstance.maxHeartbeats 200000 in
instance dSD:DecidableEq (Nat×SD):=instDecidableEqProd (α:=Nat) (β:=Array Nat×Array (Nat×Nat×Nat)×Nat)
def zV:List Nat:=[0,1,3,7,15,31,63,47,23,55,39,11,27,59,43,19,51,35,5,13,29,61,45,21,53,37,9,25,57,41,17,49,33,2,6,14,30,62,46,22,54,38,10,26,58,42,18,50,34,4,12,28,60,44,20,52,36,8,24,56,40,16,48,32]
def zW:List Nat:=[0,1,33,49,57,61,63,2,18,26,30,32,34,42,46,48,50,54,56,58,60,62,3,11,15,17,19,23,25,27,29,31,35,39,41,43,45,47,51,53,55,59,4,8,10,12,14,16,20,22,24,28,36,38,40,44,52,5,7,9,13,21,37,6]
theorem jt {α:Type} (vs:List α) (d:α):(Ad vs.length).map (fun i=>vs.getD i d)=vs:=by
 apply Bb
 ·simp
 ·intro i h1 h2
  rw[By,BC,Ab,Aa h2];rfl
section
variable {prog:Program} {w:World} {E:Value->Shared->Prop} {A:Around} {κ:SortKind} {s:Shared} {n:Nat} {lt:Nat->Nat->Bool} {q:List Nat} {ks vs:List Value}
end
section
variable {X:Cx}
end
section
variable {X:Cx} {pins:List (Addr×Obj)} {σ:St} {H:Hp} {s:Shared} {h':Heap}
end
section
variable {X:Cx}
end
section
variable {X:Cx} {E:Value->Shared->Prop} {f:Value} {r:V->Hp->VK->Prop} {kS D:Addr} {e1:Nat} {pins:List (Addr×Obj)} {σ:St}
end
section
variable {X:Cx} {pins:List (Addr×Obj)} {σ:St} {H:Hp} {s:Shared} {r:V->Hp->VK->Prop} {C:List V->Hp->Nat->(Nat->Nat->Bool)->Prop}
end
section
variable {X:Cx} {a:Expr} {ta:TA} {p1 p2 kpos pos:Pos}
def zC (a b:List Int):Bool:=if a.length=b.length then HT.vM a b else decide (a.length<b.length)
end
section
variable {X:Cx} {a:Expr} {ta:TA} {p1 p2 kpos pos:Pos}
end
section
variable {n:Nat} {lt:Nat->Nat->Bool}
end
def qS:Nat->List Nat
 | 0=>[0]
 | 1=>[0,1]
 | 2=>[0,1,3,2]
 | 3=>[0,1,3,7,5,2,6,4]
 | 4=>[0,1,3,7,15,11,5,13,9,2,6,14,10,4,12,8]
 | 5=>[0,1,3,7,15,31,23,11,27,19,5,13,29,21,9,25,17,2,6,14,30,22,10,26,18,4,12,28,20,8,24,16]
 | _=>zV
def qK:Nat->List Nat
 | 0=>[0]
 | 1=>[0,1]
 | 2=>[0,1,3,2]
 | 3=>[0,1,5,7,2,4,6,3]
 | 4=>[0,1,9,13,15,2,6,8,10,12,14,3,5,7,11,4]
 | 5=>[0,1,17,25,29,31,2,10,14,16,18,22,24,26,28,30,3,7,9,11,13,15,19,21,23,27,4,6,8,12,20,5]
 | _=>zW
def zp (n:Nat):List Nat:=(qK n).map fun i=>(qS n).getD i 0
theorem yt {P:Nat->Prop} (h0:P 0) (h1:P 1) (h2:P 2) (h3:P 3) (h4:P 4) (h5:P 5) (h6:P 6):∀n,n<=6->P n
 | 0,_=>h0 | 1,_=>h1 | 2,_=>h2 | 3,_=>h3 | 4,_=>h4 | 5,_=>h5 | 6,_=>h6
 | n+7,h=>absurd h (by omega)
theorem tQ:∀n,n<=6->(zp n).Perm (Ad (2^n)):=fun n h=>List.isPerm_iff.mp (yt (P:=fun n=>(zp n).isPerm (Ad (2^n))=true) (by decide +kernel) (by decide +kernel) (by decide +kernel) (by decide +kernel) (by decide +kernel) (by decide +kernel) (by decide +kernel) n h)
def zq (st:List Int):List (List Int):=(zp st.length).map fun i=>fR st ((gM st.length).getD i [])
theorem tR {st:List Int} (h6:st.length<=6):(zq st).Perm ((gM st.length).map (fR st)):=by
 have:=(tQ _ h6).map fun i=>fR st ((gM st.length).getD i [])
 have e:(Ad (2^st.length)).map (fun i=>fR st ((gM st.length).getD i []))=(gM st.length).map (fR st):=by
  have p:=jt (gM st.length) []
  rw[tP]at p
  conv=>rhs;rw[<- p]
  rw[Au]
  rfl
 rw[e]at this
 exact this
def yu (st:List Int):List (List Int):=(gM st.length).map (fR st)
theorem nM {st:List Int} {x:Int} {l:List Nat} (h:∀k∈l,k<st.length):fR (st++[x]) l=fR st l:=by
 unfold fR
 refine Bh fun k hk=>?_
 rw[Ab,Ab,AM (h k hk)]
theorem tU (st:List Int) (x:Int):yu (st++[x])=yu st++(yu st).map fun l=>l++[x]:=by
 unfold yu
 rw[Ai,Aq]
 show(gM st.length++(gM st.length).map fun l=>l++[st.length]).map (fR (st++[x]))=_
 rw[Aw]
 refine congr (congrArg _ ?_) ?_
 ·exact Bh fun l hl=>nM (qd _ l hl)
 ·rw [Au,Au]
  refine Bh fun l hl=>?_
  show fR (st++[x]) (l++[st.length])=fR st l++[x]
  rw[qV,nM (qd _ l hl),Ab,AU (Af _),BB]
  rfl
def yQ (l g:List Int):List Int:=l.filter fun x=> !decide (x∈g)
def yw (may:List (List Int)) (g:List Int):List (List Int):=may.map fun l=>yQ l g
theorem l4 {l g:List Int} {x:Int}:x∈yQ l g<->x∈l/\x∉g:=by unfold yQ;rw[AQ];simp
theorem qe {may:List (List Int)} {g:List Int}:(yw may g).length=may.length:=zZ _
theorem o7 {may:List (List Int)} {g:List Int} {i:Nat}:(yw may g).getD i []=yQ (may.getD i []) g:=by
 unfold yw
 rw[Ab,Ae,Ab]
 cases may[i]?<;>rfl
theorem vk {may:List (List Int)} {ts:List jX} {g hs:List Int}:IsPlan (yw may g) ts hs<->IsPlan may ts hs/\∀x∈hs,x∉g:=by
 constructor
 ·intro p
  have l:=p.len
  rw[qe]at l
  refine⟨⟨l,fun i hi=>?_,p.kp⟩,fun x hx=>?_⟩
  ·have:=p.of i hi
   rw[o7,l4]at this
   exact this.1
  ·obtain⟨i,hi,rfl⟩:=Ap.mp hx
   have:=p.of i hi
   rw[o7,l4,a9 hi]at this
   exact this.2
 ·rintro⟨p,h⟩
  refine⟨by rw[qe];exact p.len,fun i hi=>?_,p.kp⟩
  rw[o7,l4]
  exact⟨p.of i hi,h _ (by rw[a9 hi];exact Ax hi)⟩
structure AllOf (may:List (List Int)) (U:List Int):Prop where
 up:U.Pairwise (· < ·)
 mem:∀x,x∈U<->∃p∈may,x∈p
theorem AllOf.sub {may:List (List Int)} {U:List Int} (a:AllOf may U):∀p∈may,∀b∈p,b∈U:=fun p hp b hb=>(a.mem b).mpr ⟨p,hp,hb⟩
theorem tV {may:List (List Int)} {ts:List jX} {hs U:List Int} (p:IsPlan may ts hs) (a:AllOf may U):∀x∈hs,x∈U:=fun x hx=>by
 obtain⟨i,hi,rfl⟩:=Ap.mp hx
 have:=p.of i hi
 rw[a9 hi]at this
 have hl:=p.len
 rw[hX (by omega)]at this
 exact a.sub _ (Ax (by omega)) _ this
theorem k8 (P:Int->Bool):∀(n:Nat) (U:List Int),U.length=n->U.filter P∈yu U
 | 0,U,h=>by rw[List.eq_nil_of_length_eq_zero h];exact Am.mpr rfl
 | n+1,U,h=>by
  rcases List.eq_nil_or_concat U with rfl | ⟨V,x,rfl⟩
  ·cases h
  ·rw [List.concat_eq_append]at h ⊢
   rw[Ai,Aq]at h
   have ih:=k8 P n V (by omega)
   rw[tU,AS,Bq,BK]
   by_cases c:P x=true
   ·rw [if_pos c];exact AE _ (AI.mpr ⟨_,ih,rfl⟩)
   ·rw [if_neg c,Bo];exact Bc _ ih
theorem qW {U:List Int} (h6:U.length<=6) (P:Int->Bool):U.filter P∈zq U:=(tR h6).mem_iff.mpr (k8 P _ U rfl)
theorem zD {may:List (List Int)} {ts:List jX} {U g:List Int} {Ps:List (List Int)} (A:AllOf may U) (h6:U.length<=6) (pn:∀hs∈Ps,IsPlan may ts hs) (fw:∀s∈zq U,zC s g=true->∃hs∈Ps,∀x∈hs,x∉s) {S:List Int} (no:∀hs,¬IsPlan (yw may S) ts hs):g.length<=S.length:=by
 refine Decidable.byContradiction fun z=>?_
 have m:=qW h6 (fun x=>decide (x∈S))
 have le:(U.filter fun x=>decide (x∈S)).length<=S.length:=((gG A.up).sublist List.filter_sublist).length_le_of_subset fun x hx=>of_decide_eq_true (AQ.mp hx).2
 obtain⟨hs,hm,hd⟩:=fw _ m (by unfold zC;rw[if_neg (by omega)];exact decide_eq_true (by omega))
 refine no hs (vk.mpr ⟨pn hs hm,fun x hx hS=>hd x hx (AQ.mpr ⟨tV (pn hs hm) A x hx,decide_eq_true hS⟩)⟩)
end L2
namespace L2
open PySem PySem.Spec PyProof.Rows
section
variable {X:Cx} {tg:Expr}
def xq (ta:TA):TI:=fun σ H R=>ta σ H fun vs H1=>∃i j k:Int,vs=[.int i,.int j,.int k]/\0<=i/\i<2^60/\ -(2^60)<j/\j<2^60/\0<k/\k<1073741824/\R (sJ i k (if i<j then(j-i-1)/k+1 else 0).toNat) H1
theorem o8 {a b c:Expr} {ta:TA} {p pos:Pos} (hg:Gl X "range") (hm:X.mg "range"=none) (ha:PA X [a,b,c] ta) (hs:starEach [a,b,c] X.env=[(false,eval a X.env),(false,eval b X.env),(false,eval c X.env)]:=by rfl)
  (hs2:starEach [b,c] X.env=[(false,eval b X.env),(false,eval c X.env)]:=by rfl):PI X tg (.Call (.Name "range" p) [a,b,c] [] pos) (xq ta):=by
 intro pins s σ H R I h
 refine Call_ (dM I hg hm boot_range (PyProof.Rows.callWith_type1 (bF (ha pos pins s σ H _ I h) fun us s1 ⟨vs,H1,I1,r1,q1⟩=>?_) (by rw[hs,hs2]) (by rw[hs2];rfl)))
 obtain⟨i,j,k,e,h1,h2,h3,h4,h5,h6,q⟩:=q1
 subst e
 cases r1 with
 | cons r rr=>
  cases rr with
  | cons r' rr=>
   cases rr with
   | cons r'' rr=>
    cases rr
    obtain⟨t,rfl⟩:=r
    obtain⟨t',rfl⟩:=r'
    obtain⟨t'',rfl⟩:=r''
    have hfit:∀z:Int,-(2^62)<=z->z<2^62->Builtin.Range.rangeFitsLong z=true:=fun z a b=>by
     unfold Builtin.Range.rangeFitsLong
     rw[Bx,decide_eq_true_eq,decide_eq_true_eq]
     omega
    have hsz:Builtin.Range.rangeSize i j k=(if i<j then(j-i-1)/k+1 else 0):=by
     unfold Builtin.Range.rangeSize
     rw[if_pos h5]
    have hnn:0<=(if i<j then(j-i-1)/k+1 else 0):=by
     split
     ·have:=Int.ediv_nonneg (a:=j-i-1) (b:=k) (by omega) (by omega);omega
     ·omega
    have hle:(if i<j then(j-i-1)/k+1 else 0)<2^62:=by
     split
     ·have:=Int.ediv_le_self (a:=j-i-1) k (by omega);omega
     ·omega
    have hsm:Builtin.Range.small i j k=true:=by
     unfold Builtin.Range.small
     rw[hsz,hfit i (by omega) (by omega),hfit j (by omega) (by omega),hfit k (by omega) (by omega),hfit _ (by omega) hle,if_pos h5,hfit (j+(k-1)) (by omega) (by omega)]
     simp
    refine call_range_3 (by omega) ?_ (Or.inl (PyProof.noPylong_small (by omega)))
    refine wpAny_pyIter_range (IsRange.new ..) hsm ?_
    generalize hs9:({s1 with heap:=s1.heap.push {cls:= .type "range",data:= .fields #[.int i t,.int j t',.int k t'']},toks:=s1.toks}:Shared)=s2
    have I2:Inv X pins σ H1 s2:=by rw[<- hs9];exact I1.kept fun b o e=>Heap.get?_push_of_some _ e
    refine⟨s2.heap.objs.size,[s2.heap.objs.size],_,_,H1,rfl,I2.kept (t':=s2.toks) fun b o e=>Heap.get?_push_of_some _ e,qE _ i k (if i<j then(j-i-1)/k+1 else 0).toNat,?_,fun b hb=>?_,q⟩
    ·have e1:i+((0:Nat):Int)*k=i:=by simp
     have e2:(((if i<j then(j-i-1)/k+1 else 0).toNat:Nat):Int)-((0:Nat):Int)=Builtin.Range.rangeSize i j k:=by rw[hsz];omega
     rw[e1,e2]
     exact Heap.get?_push_size _ rfl
    ·have e:b=s2.heap.objs.size:=by simpa using hb
     subst e
     exact I2.fpOk (Af _) (I2.hok.fresh (Af _))
end
abbrev bN:=List (List (Int×Int))
def cY (rows:bN):List (List Int):=rows.map aC
theorem tW (rows:bN):(cY rows).length=rows.length:=zZ _
structure BillOk (rows:bN) (bs:List Int):Prop where
 up:∀row∈rows,(aC row).Pairwise (· < ·)
 inn:∀row∈rows,∀x∈row,x.1∈bs
 len:∀row∈rows,row.length<=bs.length
 bu:bs.Pairwise (· < ·)
 pos:∀b∈bs,1<=b
section
variable {X:Cx} {k i:Nat} {f C:Addr} {fd:FuncData} {ps:List Str} {sp:Sp} {x y nm:Str} {st:Stmt} {p cpos epos np hpos pos xpos:Pos} {e:Expr} {es:List Expr} {t:TA} {b₀:Stmt} {suite:List Stmt} {ts:TS} {c:Value}
end
end L2
namespace L2
open PySem PySem.Spec PyProof.Rows PySem.W
theorem nN {rows:bN} (nd:∀row∈rows,(aC row).Nodup) {st:List Nat} (hs:st≠[]):aC (eK rows st)=bQ rows st:=by
 rw[pZ nd st hs]
 unfold aC
 rw[Au]
 exact List.map_id _
theorem qX (rows:bN) (p:List Int):(kY rows p).length=(dd p).length:=by unfold kY;rw[zZ,AD]
theorem ju {rows:bN} {p:List Int} {b:Nat} (h:b<(dd p).length):(kY rows p).getD b []=eK rows (aP p b):=by
 unfold kY
 rw[Ab,Ae,AN h];rfl
theorem o9 {rows:bN} (nd:∀row∈rows,(aC row).Nodup) {p:List Int} (c:bG p):∀b,b<(dd p).length->∀x,x∈aC ((kY rows p).getD b [])<->x∈cT (cY rows) p b:=fun b hb x=>by
 rw[ju hb,nN nd (bL c hb)]
 unfold cT
 rw[nK _ (bL c hb),fz (bL c hb)]
 have e:∀s,(cY rows).getD s []=aC (rows.getD s []):=fun s=>by
  unfold cY
  rw[Ab,Ae,Ab]
  cases rows[s]?<;>rfl
 simp only[e]
structure QB (rows:bN) (U:List Int):Prop where
 r6:rows.length<=6
 ok:∀row∈rows,row.length<=20/\(aC row).Nodup
 up:∀row∈rows,(aC row).Pairwise (· < ·)
 nn:∀row∈rows,∀x∈row,0<=x.2
 sub:∀row∈rows,∀x∈row,x.1∈U
 u26:U.length<=26
theorem QB.nd {rows:bN} {U:List Int} (h:QB rows U):∀row∈rows,(aC row).Nodup:=fun row hr=>(h.ok row hr).2
theorem gN {rows:bN} {U:List Int} (h:QB rows U):∀st,st≠[]->(bQ rows st).Nodup/\(bQ rows st).length<=20/\∀b∈bQ rows st,b∈U:=by
 refine gL (fun s=>?_) (fun st s hne ih=>?_)
 ·show(aC (rows.getD s [])).Nodup/\(aC (rows.getD s [])).length<=20/\∀b∈aC (rows.getD s []),b∈U
  rw[Ab]
  cases e:rows[s]? with
  | none=>exact⟨BW,Az _,fun _ z=>by cases z⟩
  | some row=>
   have m:=Ah e
   refine⟨(h.ok row m).2,?_,fun b hb=>?_⟩
   ·show(row.map (·.1)).length<=20
    rw[zZ];exact(h.ok row m).1
   ·obtain⟨x,hx,rfl⟩:=AI.mp hb
    exact h.sub row m x hx
 ·rw [dI hne]
  exact⟨ih.1.sublist List.filter_sublist,AC (AL _ _) ih.2.1,fun b hb=>ih.2.2 b (AQ.mp hb).1⟩
end L2
namespace L2
open PySem PySem.Spec PyProof.Rows
end L2
namespace L2
open PySem PySem.Spec PyProof.Rows PySem.W
section
open PySem.AutoSeq1 (wpAny_loadPart')
open PySem.MeetsSeq PySem.MeetsSeq2 PySem.MeetsSeq3
end
section
variable {s:Shared} {A:Around} {w:World} {prog:Program} {E:Value->Shared->Prop}
end
section
variable {prog:Program} {w:World} {E:Value->Shared->Prop} {A:Around} {κ:SortKind} {s:Shared} {n:Nat} {lt:Nat->Nat->Bool} {q:List Nat} {ks vs:List Value}
end
section
variable {X:Cx}
end
inductive BPap where
 | tie (j:Int)
 | short (bs:List Int)
 | split (ps:List BPap)
 | dear (pr:List Int) (es:List (Int×Int))
instance:Inhabited BPap:=⟨.tie 0⟩
inductive BPapAt (H:Hp):V->BPap->Prop where
 | tie {t:Addr} {j:Int} (ht:H t=some (.tup [.str "tie",.int j])):BPapAt H (.ref t) (.tie j)
 | short {t l:Addr} {bs:List Int} (ht:H t=some (.tup [.str "short",.ref l])) (hl:H l=some (.lst (bs.map V.int))):BPapAt H (.ref t) (.short bs)
 | split {t l:Addr} {vs:List V} {ps:List BPap} (ht:H t=some (.tup [.str "split",.ref l])) (hl:H l=some (.lst vs)) (hn:vs.length=ps.length) (h:∀(i:Nat) v q,vs[i]?=some v->ps[i]?=some q->BPapAt H v q):BPapAt H (.ref t) (.split ps)
 | dear {t l d:Addr} {pr:List Int} {es:List (Int×Int)} (ht:H t=some (.tup [.str "dear",.ref l,.ref d])) (hl:H l=some (.lst (pr.map V.int))) (hd:RowAt H d es):BPapAt H (.ref t) (.dear pr es)
theorem BPapAt.same {H H':Hp} {v:V} {q:BPap} (p:BPapAt H v q) (s:Same H H'):BPapAt H' v q:=by
 induction p with
 | tie ht=>exact .tie (s _ _ ht)
 | short ht hl=>exact .short (s _ _ ht) (s _ _ hl)
 | split ht hl hn h ih=>exact .split (s _ _ ht) (s _ _ hl) hn fun i v q e1 e2=>ih i v q e1 e2
 | dear ht hl hd=>exact .dear (s _ _ ht) (s _ _ hl) (hd.same s)
theorem BPapAt.ref {H:Hp} {v:V} {q:BPap} (p:BPapAt H v q):∃t,v= .ref t:=by cases p<;>exact⟨_,rfl⟩
inductive BBnd:BPap->Prop where
 | tie {j:Int}:BBnd (.tie j)
 | short {bs:List Int} (h:bs.length<=1000):BBnd (.short bs)
 | split {ps:List BPap} (hn:ps.length<=1000) (h:∀q∈ps,BBnd q):BBnd (.split ps)
 | dear {pr:List Int} {es:List (Int×Int)} (h1:pr.length<=1000) (h2:es.length<=1000):BBnd (.dear pr es)
def pb (row es:List (Int×Int)) (x:Int):Bool:=row.all fun y=>decide (x-du es y.1<=y.2)
def jv (rows:bN) (p pr:List Int) (es:List (Int×Int)):Bool:=(Ad (dd p).length).all fun b=>pb (eK rows (aP p b)) es (pr.getD b 0)
theorem vm {prog:Program} {w:World} {A:Around} {R:Result->Shared->Prop} {it bs:Addr} {fq wq:List Addr} {n:Nat} {P:Nat->Value->Prop} {Z:Nat->Heap->Prop} (d:Value) (W:Walks prog w A.in1 it fq wq n P Z) (bt:Nat->Nat->Bool) (cm:CmpOf prog w A.in1 .Lt P bt) (nf:bs∉fq):
  ∀(k j:Nat) (s:Shared) (b:Value) (c:Nat),n-(j+1)=k->j+1<=n->Z (j+1) s.heap->P (argBest bt j) b->s.heap.get? bs=some {cls:= .type "list",data:= .seq #[b,b] c}->
  (∀v h' t,P (argBest bt (n-1)) v->(∀a o,a∉wq->a≠bs->s.heap.get? a=some o->h'.get? a=some o)->R (.ok (.ret v)) {s with heap:=h',toks:=t})->
  codeAny (model prog w) A (.builtin "min.loop" ⟨[.ref it,.none,.ref bs],[(Str.ofString "default",d)]⟩) R s:=by
 have nw:bs∉wq:=fun z=>nf (W.sub _ z)
 have nm:(toString "min"++toString ".loop":String)="min.loop":=by decide
 intro k
 induction k with
 | zero=>
  intro j s b c hk hj hz hb hs hR
  have e:j+1=n:=by omega
  refine codeAny_builtin PySem.F.entry_min_loop ?_
  rw[Around.under_plainId PySem.F.plain_min_loop _]
  refine wpAny_bind (m:=seqItems? (.ref bs)) (wpAny_seqItems hs rfl ?_)
  refine wpAny_bind (m:=tryCatch (pyNext (.ref it)) _) (wpAny_tryCatch (W.done s _ _ (e▸hz) fun h' t kp=>?_))
  have hs':=kp bs _ nw hs
  refine wpAny_bind (m:=updateSeq bs (fun _=>#[])) (wpAny_updateSeq hs' rfl (wpAny_bind (wpAny_letGo (wpAny_pure (hR b _ t (e▸hb) fun a o h1 h2 g=>?_)))))
  exact(Heap.get?_update_other _ _ (Ne.symm h2)).trans (kp a o h1 g)
 | succ k ih=>
  intro j s b c hk hj hz hb hs hR
  have lt:j+1<n:=by omega
  refine codeAny_builtin PySem.F.entry_min_loop ?_
  rw[Around.under_plainId PySem.F.plain_min_loop _]
  refine wpAny_bind (m:=seqItems? (.ref bs)) (wpAny_seqItems hs rfl ?_)
  refine wpAny_bind (m:=tryCatch (pyNext (.ref it)) _) (wpAny_tryCatch (W.item (j+1) s _ _ lt hz fun v h' t hv hz' kp=>?_))
  have hs':=kp bs _ nw hs
  refine wpAny_bind (m:=tryCatch (holding [v,v] (richCompare .Lt v b >>= _)) _) (wpAny_tryCatch (wpAny_holding (wpAny_bind (cm (j+1) (argBest bt j) v b _ _ _ hv hb ?_))))
  refine wpAny_bind (wpAny_holding (wpAny_truthy_bool (wpAny_bind (wpAny_letGo (wpAny_pure ?_)))))
  cases q:bt (j+1) (argBest bt j)with
  | true=>
   simp only[if_true]
   refine wpAny_bind (wpAny_updateSeq hs' rfl (wpAny_bind (wpAny_letGo ?_)))
   rw[nm]
   refine wpAny_pure ⟨plainId_quiet PySem.F.plain_min_loop _,ih (j+1) _ v _ (by omega) lt (W.frame _ _ _ hz' fun a h1 o g=>(Heap.get?_update_other _ _ fun y:bs=a=>nf (y▸h1)).trans g) (by simp only[argBest,q,if_true];exact hv) (Heap.get?_update_self _ hs' rfl) fun v' h2 t2 p2 k2=>hR v' h2 t2 p2 fun a o h1 h3 g=>?_⟩
   exact k2 a o h1 h3 ((Heap.get?_update_other _ _ (Ne.symm h3)).trans (kp a o h1 g))
  | false=>
   simp only[AR,if_false]
   refine wpAny_bind (wpAny_letGo ?_)
   rw[nm]
   exact wpAny_pure ⟨plainId_quiet PySem.F.plain_min_loop _,ih (j+1) _ b c (by omega) lt hz' (by simp only[argBest,q,AR,if_false];exact hb) hs' fun v' h2 t2 p2 k2=>hR v' h2 t2 p2 fun a o h1 h3 g=>k2 a o h1 h3 (kp a o h1 g)⟩
theorem tX {prog:Program} {w:World} {A:Around} {R:Result->Shared->Prop} {it bs:Addr} {fq wq:List Addr} {n:Nat} {P:Nat->Value->Prop} {Z:Nat->Heap->Prop} (d:Value) (W:Walks prog w A.in1 it fq wq n P Z) (bt:Nat->Nat->Bool) (cm:CmpOf prog w A.in1 .Lt P bt) (nf:bs∉fq) {s:Shared} {c:Nat} (hz:Z 0 s.heap) (hs:s.heap.get? bs=some {cls:= .type "list",data:= .seq #[] c})
  (h0:n=0->∀h' t,(∀a o,a∉wq->a≠bs->s.heap.get? a=some o->h'.get? a=some o)->R (.ok (.ret d)) {s with heap:=h',toks:=t})
  (hR:0<n->∀v h' t,P (argBest bt (n-1)) v->(∀a o,a∉wq->a≠bs->s.heap.get? a=some o->h'.get? a=some o)->R (.ok (.ret v)) {s with heap:=h',toks:=t}):
  codeAny (model prog w) A (.builtin "min.loop" ⟨[.ref it,.none,.ref bs],[(Str.ofString "default",d)]⟩) R s:=by
 have nw:bs∉wq:=fun z=>nf (W.sub _ z)
 have nm:(toString "min"++toString ".loop":String)="min.loop":=by decide
 refine codeAny_builtin PySem.F.entry_min_loop ?_
 rw[Around.under_plainId PySem.F.plain_min_loop _]
 refine wpAny_bind (m:=seqItems? (.ref bs)) (wpAny_seqItems hs rfl ?_)
 rcases Nat.eq_zero_or_pos n with z | z
 ·refine wpAny_bind (m:=tryCatch (pyNext (.ref it)) _) (wpAny_tryCatch (W.done s _ _ (z▸hz) fun h' t kp=>?_))
  exact wpAny_bind (wpAny_rule (wpAny_pure (h0 z h' t fun a o h1 _ g=>kp a o h1 g)))
 ·refine wpAny_bind (m:=tryCatch (pyNext (.ref it)) _) (wpAny_tryCatch (W.item 0 s _ _ z hz fun v h' t hv hz' kp=>?_))
  have hs':=kp bs _ nw hs
  refine wpAny_bind (m:=updateSeq bs (fun _=>#[v,v])) (wpAny_updateSeq hs' rfl ?_)
  rw[nm]
  refine wpAny_pure ⟨plainId_quiet PySem.F.plain_min_loop _,vm d W bt cm nf _ 0 _ v _ rfl z (W.frame _ _ _ hz' fun a h1 o g=>(Heap.get?_update_other _ _ fun y:bs=a=>nf (y▸h1)).trans g) hv (Heap.get?_update_self _ hs' rfl) fun v' h2 t2 p2 k2=>hR z v' h2 t2 p2 fun a o h1 h3 g=>?_⟩
  exact k2 a o h1 h3 ((Heap.get?_update_other _ _ (Ne.symm h3)).trans (kp a o h1 g))
theorem qY (a d:Value):argsOk "min" ⟨[a],[(Str.ofString "default",d)]⟩:=by unfold argsOk;kernel_rfl
def yx (K:PySem.W.Frag) (ta:TA) (td:TE):TE:=fun σ H Q=>ta σ H fun vs H1=>td σ H1 fun d H2=>∃(p:Addr) (ns:List Int),vs=[.ref p]/\SqL K H2 p (ns.map V.int)/\(ns=[]->Q d H2)/\∀m,m∈ns->(∀x∈ns,m<=x)->Q (.int m) H2
section
variable {X:Cx} {a de:Expr} {ta:TA} {td:TE} {p1 kpos pos:Pos}
theorem vn (K:PySem.W.Frag) (hg:Gl X "min") (hm:X.mg "min"=none) (ha:PA X [a] ta) (hd:PE X de td) (hK:X.K=K:=by rfl) (hc:X.calm=true:=by rfl)
  (he:backTo pos (starEach [a] X.env)=(false,eval a X.env) :: backTo pos (starEach [] X.env):=by rfl) (hpl:(backTo pos (starEach [a] X.env)).any (·.1)=false:=by rfl):
  PE X (.Call (.Name "min" p1) [a] [⟨some "default",de,kpos⟩] pos) (yx K ta td):=by
 subst hK
 intro pins s0 σ H0 Q I0 h
 refine wpAny_Call_Name_kw (dM I0 hg hm boot_min ?_)
 refine PyProof.Rows.callWith_kw (bF (ha pos pins s0 σ H0 _ I0 h) fun us s1 ⟨vs,H1,I1,r,q1⟩=>?_) he hpl
 refine wpAny_evalAll_cons (wpAny_bind (bF (hd pins s1 σ H1 _ I1 q1) fun dv s ⟨d,H,I,rd,q⟩=>wpAny_bind (wpAny_standAt (wpAny_pure (wpAny_evalAll_nil ?_)))))
 obtain⟨p,ns,e,hq,q0,q⟩:=q
 subst e
 obtain⟨u,e,rx⟩:=dE r
 subst e
 cases rx
 obtain⟨its,rv,pl,hz⟩:=I.list hq
 have hl:=rv.length
 rw[zZ]at hl
 have nm:(toString "min"++toString ".loop":String)="min.loop":=by decide
 refine kmk_tree PySem.F.kind_min PySem.F.plain_min PySem.F.entry_min (qY _ _) ?_
 refine wpAny_bind (m:=Builtin.Builtins.bindParams "min" ["key","default"] 0 ⟨[],[(Str.ofString "default",dv)]⟩) (wpAny_of_eq (show _=pure [none,some dv]from rfl) ?_)
 refine wpAny_bind (wpAny_pure (wpAny_bind (wpAny_pyIter_list pl.isList (wpAny_bind (wpAny_newList ?_ (Az _))))))
 rw[nm]
 have hlt:p<s.heap.objs.size:=by
  obtain⟨o,ho,_⟩:=pl.isList
  exact Heap.lt_size ho
 have hval:∀(i:Nat) (v:Value),its.toArray[i]?=some v->∃t,v= .int (ns.getD i 0) t:=fun i v hi=>by
  have hi':its[i]?=some v:=by simpa using hi
  have h2:i<ns.length:=by rw[hl];exact(Ac.mp hi').1
  obtain⟨u,eu,ru⟩:=rv.get (i:=i) (x:= .int ns[i]) (by simp[h2])
  rw[hi']at eu
  cases eu
  obtain⟨t,e⟩:=ru
  exact⟨t,by rw[e];simp[h2]⟩
 have sz1:(s.heap.push {cls:= .type "list_iterator",data:= .fields #[.ref p,.int 0 0]}).objs.size=s.heap.objs.size+1:=Heap.size_push ..
 have W:=Walks.list (prog:=X.prog) (w:=X.w) (A:=X.A.in1) (show X.A.in1.handled=none from I.ok.hd hc) s.heap.objs.size p (Ar hlt) its.toArray
 have cmx:=CmpOf.ints_lt (prog:=X.prog) (w:=X.w) (A:=X.A.in1) (fun i=>ns.getD i 0) hval
 refine wpAny_pure ⟨plainId_quiet PySem.F.plain_min_loop _,tX dv W _ cmx (fun m=>?_) ?_ (Heap.get?_push_size _ rfl) (fun z h' t kp=>?_) fun z v h' t hP kp=>?_⟩
 ·simp only[Al,AK,or_false]at m
  rw[sz1]at m
  rcases m with y | y
  ·exact absurd y (Bv (A1 _))
  ·exact absurd y.symm (Ar (AX hlt))
 ·refine⟨⟨_,Heap.get?_push_of_some _ (Heap.get?_push_size _ rfl),rfl,rfl⟩,?_⟩
  obtain⟨o,ho,y⟩:=pl.isList
  exact⟨o,Heap.get?_push_of_some _ (Heap.get?_push_of_some _ ho),y⟩
 ·have old:∀b o,s.heap.get? b=some o->h'.get? b=some o:=fun b o e=>by
   have:=Heap.lt_size e
   refine kp b o (fun y=>?_) (fun y=>?_) (Heap.get?_push_of_some _ (Heap.get?_push_of_some _ e))
   ·rw [Am]at y
    exact absurd this (by rw[y];exact A4 _)
   ·rw [y,sz1]at this
    exact absurd this (Nat.not_lt_of_le (B5 _))
  refine⟨d,H,I.kept old,rd,q0 ?_⟩
  rw[Ak]at z
  exact AA.mp (by omega)
 ·obtain⟨t',rfl⟩:=hval _ _ hP
  have hb:=iS (fun i j=>decide (ns.getD i 0<ns.getD j 0)) (its.toArray.size-1)
  have hs:its.toArray.size=ns.length:=by rw[Ak];omega
  rw[hs]at hb z
  have old:∀b o,s.heap.get? b=some o->h'.get? b=some o:=fun b o e=>by
   have:=Heap.lt_size e
   refine kp b o (fun y=>?_) (fun y=>?_) (Heap.get?_push_of_some _ (Heap.get?_push_of_some _ e))
   ·rw [Am]at y
    exact absurd this (by rw[y];exact A4 _)
   ·rw [y,sz1]at this
    exact absurd this (Nat.not_lt_of_le (B5 _))
  refine⟨.int _,H,I.kept old,⟨t',rfl⟩,q _ ?_ fun x hx=>?_⟩
  ·rw [hs,a9 (by omega)];exact Ax _
  ·obtain⟨j,hj,ej⟩:=Ap.mp hx
   have:=gE (fun i=>ns.getD i 0) (ns.length-1) j (by omega)
   rw[hs]
   rw[a9 hj,ej]at this
   exact this
end
section
variable {X:Cx} {a de:Expr} {ta:TA} {td:TE} {p1 kpos pos:Pos}
end
def vo (K:PySem.W.Frag):V->List V->Hp->VK->Prop:=fun x vs H Q=>∃(l:Addr) (as:List Addr) (c:V) (d j:Nat) (f:Addr->Bool),x= .ref l/\vs=[c]/\H l=some (.lst (as.map V.ref))/\d<60/\(∀a∈as,DEq K H d (.ref a) c (f a))/\j<as.length/\f (as.getD j 0)=true/\(∀m,m<j->f (as.getD m 0)=false)/\as.length<100000/\Q (.int ((j:Nat):Int)) H
section
variable {X:Cx}
theorem qZ (K:PySem.W.Frag) (hu:X.A.units+64<cLine) (hK:X.K=K:=by rfl):y9 X "list.index" (vo K):=by
 subst hK
 intro pins s σ H x vs v us Q I rx rv h
 obtain⟨l,as,c,d,j,f,rfl,rfl,hH,hd,he,hj,fy,fn,hz,q⟩:=h
 cases rx
 obtain⟨u,e1,ru⟩:=dE rv
 subst e1
 obtain⟨z,its,n,r,hl,e⟩:=I.lstM hH
 have ev:=k7 r
 subst ev
 have at':∀m (hm:m<as.length),(as.map Value.ref).toArray[m]'(by simpa using hm)= .ref (as.getD m 0):=fun m hm=>by simp[Ab,hm]
 refine call_meets PySem.F.slot_list_index ⟨_,e,rfl⟩ PySem.F.entry_list_index (PySem.F.args_list_index_2 _ _) (SeqAt.list_indexAt l (as.map Value.ref).toArray n none #[] u (xp f) j (by simpa using hj) (by omega) ?_ fun m hm lt=>?_) ⟨e,fun y hy=>?_,?_⟩
 ·rw [at' j hj];exact fy
 ·have hm':m<as.length:=by simpa using hm
  rw[at' m hm'];exact fn m lt
 ·obtain⟨a,ha,rfl⟩:∃a∈as,Value.ref a=y:=by simpa using hy
  exact(he a ha).at I (by show X.A.units+1+d<cLine;omega) rfl ru
 ·exact⟨.int ((j:Nat):Int),H,I.tok _,⟨_,rfl⟩,q⟩
end
def fI (rows:bN) (p:List Int) (b:Nat):List Int:=(bQ rows (aP p b)).map (gJ rows (aP p b))
inductive PapIs (rows:bN) (ts:List (Addr×Addr×Str×Int×List Nat)) (more:Int) (deep:Nat):List Int->BPap->Prop where
 | tie {p:List Int} {j:Nat} (h:jW (fun i=>p.getD i 0) p.length ts=some j):PapIs rows ts more deep p (.tie (j:Int))
 | short {p:List Int} {b:Nat} (h:jW (fun i=>p.getD i 0) p.length ts=none) (hb:b<(dd p).length) (he:bQ rows (aP p b)=[]) (ft:∀b',b'<b->bQ rows (aP p b')≠[]):PapIs rows ts more deep p (.short [(b:Int)])
 | split {p:List Int} {ps:List BPap} (h:jW (fun i=>p.getD i 0) p.length ts=none) (ne:∀b,b<(dd p).length->bQ rows (aP p b)≠[]) (lt:p.length<deep) (hn:ps.length=(dd p).length+1) (hs:∀(k:Nat) q,ps[k]?=some q->PapIs rows ts more deep (p++[(k:Int)]) q):PapIs rows ts more deep p (.split ps)
 | dear {p pr:List Int} {es:List (Int×Int)} (h:jW (fun i=>p.getD i 0) p.length ts=none) (ne:∀b,b<(dd p).length->bQ rows (aP p b)≠[]) (ge:¬p.length<deep) (hl:pr.length=(dd p).length)
  (hm:∀b,b<(dd p).length->∃m,pr.getD b 0=m+more/\m∈fI rows p b/\∀x∈fI rows p b,m<=x)
  (he:(more=0/\es=[])\/(more≠0/\∃ks:List Int,es=ks.map (fun k=>(k,more))/\ks.Pairwise (· < ·)/\∀x,x∈ks<->∃b,b<(dd p).length/\x∈bQ rows (aP p b))):PapIs rows ts more deep p (.dear pr es)
inductive BRk:Nat->BPap->Prop where
 | tie {r:Nat} {j:Int}:BRk r (.tie j)
 | short {r:Nat} {bs:List Int}:BRk r (.short bs)
 | dear {r:Nat} {pr:List Int} {es:List (Int×Int)}:BRk r (.dear pr es)
 | split {r:Nat} {ps:List BPap} (h:∀q∈ps,BRk r q):BRk (r+1) (.split ps)
theorem PapIs.rk {rows:bN} {ts:List (Addr×Addr×Str×Int×List Nat)} {more:Int} {deep:Nat}:∀(r:Nat) {p:List Int} {g:BPap},deep<=p.length+r->PapIs rows ts more deep p g->BRk r g:=by
 intro r
 induction r with
 | zero=>
  intro p g hd h
  cases h with
  | tie=>exact .tie
  | short=>exact .short
  | split _ _ lt=>omega
  | dear=>exact .dear
 | succ r ih=>
  intro p g hd h
  cases h with
  | tie=>exact .tie
  | short=>exact .short
  | split _ _ lt hn hs=>
   refine .split fun q hq=>?_
   obtain⟨k,hk⟩:=AV.mp hq
   exact ih (by simp;omega) (hs k q hk)
  | dear=>exact .dear
theorem gO {c:Prop} [Decidable c] {A B:Prop} (hc:¬c) (h:B):if decide c=true then A else B:=by rw[decide_eq_false hc];exact h
section
variable {X:Cx}
def yz (K:PySem.W.Frag) (H:Hp) (x:V):Prop:=∃(a:Addr) (vs:List V),x= .ref a/\(SqL K H a vs\/SqT K H a vs)
def yA (K:PySem.W.Frag):R2:=fun x y H Q=>(∃c:Str,y= .str c)/\(uK x y=true\/yz K H x)/\Q (.bl (decide (x=y))) H
theorem xr (hu:X.A.units<cLine):eG X (compareOp .Eq) (yA X.K):=by
 intro pins s σ H x y v u Q I rx ry h
 obtain⟨⟨c,rfl⟩,hs | ⟨a,vs,rfl,hs⟩,q⟩:=h
 ·exact bY _ _ _ _ _ _ _ _ _ I rx ry ⟨hs,q⟩
 ·cases rx
  obtain⟨t,rfl⟩:=ry
  have e:decide (V.ref a=V.str c)=false:=decide_eq_false (fun z=>by cases z)
  rcases hs with hs | hs
  ·obtain⟨its,r,pl,_⟩:=I.list hs
   exact SeqAt.RcAt.list_str c t pl.isList hu _ _ _ _ (aH I q e)
  ·obtain⟨its,r,pl,_⟩:=I.tuple hs
   exact SeqAt.RcAt.tuple_str c t (show s.heap.IsTuple a its.toArray from pl) hu _ _ _ _ (aH I q e)
theorem eqT (K:PySem.W.Frag) (hu:X.A.units+64<cLine) (h:X.K=K:=by rfl):eG X (compareOp .Eq) (yA K):=by subst h;exact xr (by omega)
end
inductive Th where
 | non
 | bl (b:Bool)
 | int (i:Int)
 | str (c:Str)
 | lst (ts:List Th)
 | tup (ts:List Th)
instance:Inhabited Th:=⟨.non⟩
inductive ThAt (H:Hp):V->Th->Prop where
 | non:ThAt H .non .non
 | bl {b:Bool}:ThAt H (.bl b) (.bl b)
 | int {i:Int}:ThAt H (.int i) (.int i)
 | str {c:Str}:ThAt H (.str c) (.str c)
 | lst {l:Addr} {vs:List V} {ts:List Th} (hl:H l=some (.lst vs)) (hn:vs.length=ts.length) (h:∀(i:Nat) v t,vs[i]?=some v->ts[i]?=some t->ThAt H v t):ThAt H (.ref l) (.lst ts)
 | tup {l:Addr} {vs:List V} {ts:List Th} (hl:H l=some (.tup vs)) (hn:vs.length=ts.length) (h:∀(i:Nat) v t,vs[i]?=some v->ts[i]?=some t->ThAt H v t):ThAt H (.ref l) (.tup ts)
theorem ThAt.same {H H':Hp} {v:V} {q:Th} (p:ThAt H v q) (s:Same H H'):ThAt H' v q:=by
 induction p with
 | non=>exact .non
 | bl=>exact .bl
 | int=>exact .int
 | str=>exact .str
 | lst hl hn h ih=>exact .lst (s _ _ hl) hn fun i v q e1 e2=>ih i v q e1 e2
 | tup hl hn h ih=>exact .tup (s _ _ hl) hn fun i v q e1 e2=>ih i v q e1 e2
def Th.isStr (c:Str):Th->Bool
 | .str d=>decide (d=c)
 | _=>false
def Th.isInt:Th->Bool
 | .int _=>true
 | _=>false
def Th.isLst:Th->Bool
 | .lst _=>true
 | _=>false
def Th.isTup:Th->Bool
 | .tup _=>true
 | _=>false
def Th.num:Th->Int
 | .int i=>i
 | _=>0
def Th.parts:Th->List Th
 | .lst ts=>ts
 | .tup ts=>ts
 | _=>[]
theorem ThAt.eqT {K:PySem.W.Frag} {H:Hp} {v:V} {t:Th} (p:ThAt H v t) (c:Str):(uK v (.str c)=true\/yz K H v)/\decide (v= .str c)=t.isStr c:=by
 cases p with
 | non=>exact⟨.inl rfl,rfl⟩
 | bl=>exact⟨.inl rfl,rfl⟩
 | int=>exact⟨.inl rfl,rfl⟩
 | @str d=>
  refine⟨.inl rfl,?_⟩
  show decide (V.str d=V.str c)=decide (d=c)
  by_cases z:d=c
  ·rw [decide_eq_true z,decide_eq_true (by rw[z])]
  ·rw [decide_eq_false z,decide_eq_false (fun y=>z (by injection y))]
 | lst hl hn h=>exact⟨.inr ⟨_,_,rfl,.inl (SqL.of hl)⟩,rfl⟩
 | tup hl hn h=>exact⟨.inr ⟨_,_,rfl,.inr (SqT.of hl)⟩,rfl⟩
inductive TBnd:Th->Prop where
 | non:TBnd .non
 | bl {b:Bool}:TBnd (.bl b)
 | int {i:Int}:TBnd (.int i)
 | str {c:Str}:TBnd (.str c)
 | lst {ts:List Th} (hl:ts.length<=1000) (h:∀t∈ts,TBnd t):TBnd (.lst ts)
 | tup {ts:List Th} (hl:ts.length<=1000) (h:∀t∈ts,TBnd t):TBnd (.tup ts)
def nO (ts:List jX) (p:List Int) (r:Th):Bool:=r.isInt&&(decide (0<=r.num)&&(decide (r.num<(ts.length:Int))&&((ts[r.num.toNat]?).elim false fun t=>brk (fun i=>p.getD i 0) p.length t.1 t.2.1 t.2.2)))
def eR (may:List (List Int)) (p:List Int) (r:Th):Bool:=r.isLst&&(r.parts.all Th.isInt&&cU may p (r.parts.map Th.num))
def dJ (may:List (List Int)) (ts:List jX):Nat->List Int->Th->Bool
  | 0,_,_=>false
  | m+1,p,t=>t.isTup&&(decide (t.parts.length=2)&&
      (let w:=t.parts.getD 0 .non
       let r:=t.parts.getD 1 .non
       if w.isStr "tie" then nO ts p r
       else if w.isStr "short" then eR may p r
       else if w.isStr "split" then(decide (p.length<may.length)&&(r.isLst&&decide (r.parts.length=(dd p).length+1)))&&(Ad r.parts.length).all fun j=>dJ may ts m (p++[(j:Int)]) (r.parts.getD j .non)
       else false))
def l7 (may:List (List Int)) (ts:List jX) (m:Nat) (p:List Int) (r:Th):Bool:=(decide (p.length<may.length)&&(r.isLst&&decide (r.parts.length=(dd p).length+1)))&&(Ad r.parts.length).all fun j=>dJ may ts m (p++[(j:Int)]) (r.parts.getD j .non)
theorem ThAt.ints {H:Hp} {v:V} {t:Th} (p:ThAt H v t) (h1:t.isLst=true) (h2:t.parts.all Th.isInt=true):∃(a:Addr) (bs:List Int),v= .ref a/\H a=some (.lst (bs.map V.int))/\t.parts.map Th.num=bs:=by
 cases p with
 | non=>cases h1
 | bl=>cases h1
 | int=>cases h1
 | str=>cases h1
 | tup _ _ _=>cases h1
 | @lst a us ts hl hn hat=>
  refine⟨a,ts.map Th.num,rfl,?_,rfl⟩
  have eus:us=(ts.map Th.num).map V.int:=by
   refine BN fun i=>?_
   rw[Au,Ae]
   cases et:ts[i]? with
   | none=>
    have:=List.getElem?_eq_none_iff.mp et
    exact AY (by omega)
   | some t=>
    have hi:=(Ac.mp et).1
    have hu:us[i]?=some us[i]:=Aa (by omega)
    have a:=hat i _ _ hu et
    have b:=As.mp h2 t (Ah et)
    rw[hu]
    clear hu
    generalize us[i]=x at a
    cases a<;>first | rfl | cases b
  rw[hl,eus]
def pd (t:Th):Bool:=t.isInt&&decide (1<=t.num/\t.num<=10^18)
def gP (t:Th):Bool:=t.isTup&&(decide (t.parts.length=2)&&(pd (t.parts.getD 0 .non)&&((t.parts.getD 1 .non).isInt&&decide ((t.parts.getD 1 .non).num>=0))))
def Th.pair (t:Th):Int×Int:=((t.parts.getD 0 .non).num,(t.parts.getD 1 .non).num)
def fJ (t:Th):Bool:=t.isLst&&(t.parts.all gP&&gH ((t.parts.map Th.pair).map (·.1)))
def iU (p:List Int) (t:Th):Bool:=t.isLst&&(decide (t.parts.length=(dd p).length)&&t.parts.all Th.isInt)
def jw (rows:bN) (p:List Int) (bd:Int) (a b:Th):Bool:=(iU p a&&fJ b)&&(jv rows p (a.parts.map Th.num) (b.parts.map Th.pair)&&decide (bd<=(a.parts.map Th.num).sum-((b.parts.map Th.pair).map (·.2)).sum))
def cM (rows:bN) (ts:List jX) (bd:Int):Nat->List Int->Th->Bool
  | 0,_,_=>false
  | m+1,p,t=>t.isTup&&
      (if t.parts.length=3/\(t.parts.getD 0 .non).isStr "dear"=true then jw rows p bd (t.parts.getD 1 .non) (t.parts.getD 2 .non)
       else if t.parts.length=2/\(t.parts.getD 0 .non).isStr "split"=true then(decide (p.length<rows.length)&&((t.parts.getD 1 .non).isLst&&decide ((t.parts.getD 1 .non).parts.length=(dd p).length+1)))&&(Ad (t.parts.getD 1 .non).parts.length).all fun j=>cM rows ts bd m (p++[(j:Int)]) ((t.parts.getD 1 .non).parts.getD j .non)
       else dJ (cY rows) ts 7 p t)
def iV (rows:bN) (ts:List jX) (bd:Int) (m:Nat) (p:List Int) (r:Th):Bool:=(decide (p.length<rows.length)&&(r.isLst&&decide (r.parts.length=(dd p).length+1)))&&(Ad r.parts.length).all fun j=>cM rows ts bd m (p++[(j:Int)]) (r.parts.getD j .non)
theorem iq {α:Type} {l:List α} (h:l.length=2):∃a b,l=[a,b]:=by
 match l,h with
 | [a,b],_=>exact⟨a,b,rfl⟩
theorem nP {α:Type} {l:List α} (h:l.length=3):∃a b c,l=[a,b,c]:=by
 match l,h with
 | [a,b,c],_=>exact⟨a,b,c,rfl⟩
theorem ThAt.pairs {H:Hp} {v:V} {t:Th} (p:ThAt H v t) (h1:t.isLst=true) (h2:t.parts.all gP=true):∃(a:Addr),v= .ref a/\RowAt H a (t.parts.map Th.pair):=by
 cases p with
 | non=>cases h1
 | bl=>cases h1
 | int=>cases h1
 | str=>cases h1
 | tup _ _ _=>cases h1
 | @lst a us ts hl hn hat=>
  have ex:∀i (hi:i<us.length) (hi':i<ts.length),∃r,us[i]= .ref r/\bR H r (ts[i].pair):=by
   intro i hi hi'
   have at':=hat i _ _ (Aa hi) (Aa hi')
   have du:=As.mp h2 ts[i] (Ax hi')
   generalize us[i]=x at at'
   generalize ts[i]=y at at' du
   unfold gP at du
   obtain⟨d1,d2⟩:=Bool.and_eq_true_iff.mp du
   obtain⟨d2,d3⟩:=Bool.and_eq_true_iff.mp d2
   obtain⟨d3,d4⟩:=Bool.and_eq_true_iff.mp d3
   obtain⟨d4,d5⟩:=Bool.and_eq_true_iff.mp d4
   obtain⟨d3,_⟩:=Bool.and_eq_true_iff.mp d3
   cases at' with
   | non=>cases d1
   | bl=>cases d1
   | int=>cases d1
   | str=>cases d1
   | lst _ _ _=>cases d1
   | @tup r ws ys hr hn' h'=>
    have l2:ys.length=2:=of_decide_eq_true d2
    obtain⟨y0,y1,rfl⟩:=iq l2
    obtain⟨w0,w1,rfl⟩:=iq (hn'.trans l2)
    have a0:=h' 0 w0 y0 rfl rfl
    have a1:=h' 1 w1 y1 rfl rfl
    change y0.isInt=true at d3
    change y1.isInt=true at d4
    refine⟨r,rfl,?_⟩
    cases a0<;>first | (cases d3;done) | skip
    cases a1<;>first | (cases d4;done) | skip
    exact hr
  have er:∃rs:List Addr,us=rs.map V.ref/\rs.length=ts.length/\∀(i:Nat) r x,rs[i]?=some r->ts[i]?=some x->bR H r x.pair:=by
   have xm:∀i:Nat,∃r,∀(hi:i<us.length) (hi':i<ts.length),us[i]= .ref r/\bR H r (ts[i].pair):=fun i=>by
    by_cases z:i<us.length
    ·obtain⟨r,e⟩:=ex i z (by omega)
     exact⟨r,fun _ _=>e⟩
    ·exact⟨0,fun y=>absurd y z⟩
   refine⟨(Ad us.length).map fun i=>Classical.choose (xm i),?_,by simp;omega,fun i r x e1 e2=>?_⟩
   ·have m:=ie (ts:=us) (f:=id) (g:=fun i=>V.ref (Classical.choose (xm i))) fun i x hx=>by
     obtain⟨hi,e⟩:=Ac.mp hx
     have:=(Classical.choose_spec (xm i) hi (by omega)).1
     rw[<- e,this];rfl
    rw[List.map_id]at m
    rw[Au]
    exact m.symm
   ·obtain⟨hi',e⟩:=Ac.mp e2
    rw[Ae,AN (by omega)]at e1
    have e1:Classical.choose (xm i)=r:=Option.some.inj e1
    have:=(Classical.choose_spec (xm i) (by omega) hi').2
    rw[e1,e]at this
    exact this
  obtain⟨rs,e1,e2,e3⟩:=er
  refine⟨a,rfl,rs,by rw[hl,e1],?_⟩
  exact dG (by rw[zZ];exact e2) fun i r x h1 h2=>by
   rw[Ae]at h2
   obtain⟨y,hy,rfl⟩:=An.mp h2
   exact e3 i r y h1 hy
theorem vp {ts:List Th} (h:∀t∈ts,TBnd t) (j:Nat):TBnd (ts.getD j .non):=by
 rw[Ab]
 cases e:ts[j]? with
 | none=>exact .non
 | some t=>exact h t (Ah e)
theorem yB {H H1 H2:Hp} (s:Same H1 H2):Same (nw H H1) (nw H H2):=vU (fun _ h=>h) fun _ _ _ h=>s _ _ h
theorem zE {H H1 H2:Hp} (s:Same H H1):Same (nw H1 H2) (nw H H2):=vU (fun _ h=>s.free h) fun _ _ _ h=>h
def fS (te:TE) (t:Th):Prop:=∀(σ:St) (H:Hp) (Q:VK),(∀v H',Same H H'->ThAt (nw H H') v t->Q v H')->te σ H Q
def AllTh (H:Hp) (vs:List V) (ts:List Th):Prop:=∀(i:Nat) v t,vs[i]?=some v->ts[i]?=some t->ThAt H v t
theorem AllTh.same {H H':Hp} {vs:List V} {ts:List Th} (h:AllTh H vs ts) (s:Same H H'):AllTh H' vs ts:=fun i v t a b=>(h i v t a b).same s
def tY (ta:TA) (ts:List Th):Prop:=∀(σ:St) (H:Hp) (Q:List V->Hp->Prop),(∀vs H',Same H H'->vs.length=ts.length->AllTh (nw H H') vs ts->Q vs H')->ta σ H Q
theorem xt {i:Int}:fS (tC (.int i)) (.int i):=fun _ H _ k=>k _ H (Same.refl _) .int
theorem xu {c:Str}:fS (tC (.str c)) (.str c):=fun _ H _ k=>k _ H (Same.refl _) .str
theorem yC {b:Bool}:fS (tC (.bl b)) (.bl b):=fun _ H _ k=>k _ H (Same.refl _) .bl
theorem xv:fS (tC .non) .non:=fun _ H _ k=>k _ H (Same.refl _) .non
theorem xw {i:Int}:fS (zu (rU fun i=> .int (-i)) (tC (.int i))) (.int (-i)):=fun _ H _ k=>⟨i,rfl,k _ H (Same.refl _) .int⟩
theorem xx {i j:Int} (hc:uJ i j):fS (wD (rI uJ fun i j=> .int (i^j.toNat)) (tC (.int i)) (tC (.int j))) (.int (i^j.toNat)):=fun _ H _ k=>⟨i,j,rfl,rfl,hc,k _ H (Same.refl _) .int⟩
theorem xy {ta tb:TE} {i j:Int} (ha:fS ta (.int i)) (hb:fS tb (.int j)):fS (wD (uH fun i j=> .int (i+j)) ta tb) (.int (i+j)):=fun σ H Q k=>ha σ H _ fun x H1 s1 a1=>hb σ H1 _ fun y H2 s2 a2=>by
 cases a1;cases a2
 exact⟨i,j,rfl,rfl,k _ H2 (s1.trans s2) .int⟩
theorem xA {ta:TA} {ts:List Th} (h:tY ta ts) (hs:Nat.ble ts.length 1000=true):fS (yb ta) (.lst ts):=fun σ H Q k=>h σ H _ fun vs H1 s1 hn e=>⟨vP (by have:=Nat.le_of_ble_eq_true hs;omega),fun p np=>by
 have s2:=Same.new (o:= .lst vs) np
 exact k _ _ (s1.trans s2) (.lst (cj (s1.free np) af) hn (e.same (yB s2)))⟩
theorem xB {ta:TA} {ts:List Th} (h:tY ta ts) (hs:Nat.ble ts.length 1000=true):fS (ya ta) (.tup ts):=fun σ H Q k=>h σ H _ fun vs H1 s1 hn e=>⟨vP (by have:=Nat.le_of_ble_eq_true hs;omega),fun p np=>by
 have s2:=Same.new (o:= .tup vs) np
 exact k _ _ (s1.trans s2) (.tup (cj (s1.free np) af) hn (e.same (yB s2)))⟩
theorem vq:tY x9 []:=fun σ H Q k=>k [] H (Same.refl _) rfl fun i v t a _=>by cases a
theorem tZ {te:TE} {ta:TA} {t:Th} {ts:List Th} (h:fS te t) (hr:tY ta ts):tY (vK te ta) (t :: ts):=fun σ H Q k=>h σ H _ fun x H1 s1 a1=>hr σ H1 _ fun xs H2 s2 hn e=>k (x :: xs) H2 (s1.trans s2) (by rw[Ba,Ba,hn]) fun i v t hv ht=>by
 cases i with
 | zero=>cases hv;cases ht;exact a1.same (yB s2)
 | succ i=>exact(e i v t hv ht).same (zE s1)
theorem ThAt.lstD {H:Hp} {v:V} {ts:List Th} (p:ThAt H v (.lst ts)):∃l vs,v= .ref l/\H l=some (.lst vs)/\vs.length=ts.length/\AllTh H vs ts:=by
 cases p with
 | lst hl hn h=>exact⟨_,_,rfl,hl,hn,h⟩
theorem xC {H:Hp} {vs us:List V} {ts rs:List Th} (h1:vs.length=ts.length) (e1:AllTh H vs ts) (e2:AllTh H us rs):AllTh H (vs++us) (ts++rs):=fun i v t hv ht=>by
 by_cases z:i<vs.length
 ·rw [AM z]at hv
  rw[AM (by omega)]at ht
  exact e1 i v t hv ht
 ·rw [AU (by omega)]at hv ht
  rw[<- h1]at ht
  exact e2 _ v t hv ht
theorem vv {te:TE} {H H0:Hp} {σ:St} {Q:VK} {ts rs:List Th} {v0:V} (s0:Same H H0) (a0:ThAt (nw H H0) v0 (.lst ts)) (h:fS te (.lst rs)) (hz:Nat.ble (ts.length+rs.length) 1000=true) (k:∀v H2,Same H H2->ThAt (nw H H2) v (.lst (ts++rs))->Q v H2):te σ H0 (fun y H2=>wL v0 y H2 Q):=h σ H0 _ fun v1 H1 s1 a1=>by
 obtain⟨l0,vs,rfl,h0,n0,e0⟩:=a0.lstD
 obtain⟨l1,us,rfl,h1,n1,e1⟩:=a1.lstD
 have hz:=Nat.le_of_ble_eq_true hz
 refine⟨l0,l1,vs,us,rfl,rfl,s1 _ _ (fA _ _ h0),fA _ _ h1,vP (by omega),fun p np=>?_⟩
 have s2:=Same.new (o:= .lst (vs++us)) np
 have s01:=s0.trans s1
 refine k _ _ (s01.trans s2) (.lst (cj (s01.free np) af) (by rw[Ai,Ai,n0,n1]) (xC n0 (e0.same (yB (s1.trans s2))) (e1.same ((zE s0).trans (yB s2)))))
theorem t6 {te:TE} {u:TS} {i:Nat} {t:Th} {D:Ends} {σ:L2.St} {H:Hp} (h:fS te t) (k:∀v H',Same H H'->ThAt (nw H H') v t->u D (σ.set i (some v)) H'):wz (rP te (bD i)) u D σ H:=h σ H _ k
theorem dY {te:TE} {u:TS} {i j:Nat} {v0:V} {ts rs:List Th} {D:Ends} {σ:L2.St} {H H0:Hp} (hv:σ[i]?=some (some v0)) (s0:Same H H0) (a0:ThAt (nw H H0) v0 (.lst ts)) (h:fS te (.lst rs)) (hz:Nat.ble (ts.length+rs.length) 1000=true) (k:∀v H2,Same H H2->ThAt (nw H H2) v (.lst (ts++rs))->u D (σ.set j (some v)) H2):wz (rP (wD wL (wm i) te) (bD j)) u D σ H0:=⟨v0,hv,vv s0 a0 h hz k⟩
theorem l8 {H:Hp} {vs:List V} {ts:List Th} {n:Nat} (hn:vs.length=ts.length) (e:AllTh H vs ts) (hl:ts.length=n) (h0:0<n) (c:Int):∃v t,lz vs (c%(n:Int))=some v/\t∈ts/\ThAt H v t:=by
 obtain⟨k,hk,ek⟩:=oW c h0
 have hkv:k<vs.length:=by omega
 have hkt:k<ts.length:=by omega
 refine⟨vs[k],ts[k],?_,Ax hkt,e k _ _ (Aa hkv) (Aa hkt)⟩
 rw[ek]
 exact bh (Aa hkv)
def nQ:Nat->Th->Bool
 | 0,_=>false
 | n+1,.lst ts=>decide (ts.length<=1000)&&ts.all (nQ n)
 | n+1,.tup ts=>decide (ts.length<=1000)&&ts.all (nQ n)
 | _+1,_=>true
theorem ph:∀(n:Nat) (t:Th),nQ n t=true->TBnd t:=by
 intro n
 induction n with
 | zero=>intro t h;cases h
 | succ n ih=>
  intro t h
  cases t with
  | non=>exact .non
  | bl=>exact .bl
  | int=>exact .int
  | str=>exact .str
  | lst ts=>
   obtain⟨h1,h2⟩:=Bool.and_eq_true_iff.mp (show(decide (ts.length<=1000)&&ts.all (nQ n))=true from h)
   exact .lst (of_decide_eq_true h1) fun t ht=>ih t (As.mp h2 t ht)
  | tup ts=>
   obtain⟨h1,h2⟩:=Bool.and_eq_true_iff.mp (show(decide (ts.length<=1000)&&ts.all (nQ n))=true from h)
   exact .tup (of_decide_eq_true h1) fun t ht=>ih t (As.mp h2 t ht)
inductive EndGe (bd:Int):BPap->Prop where
 | tie {j:Int}:EndGe bd (.tie j)
 | short {bs:List Int}:EndGe bd (.short bs)
 | split {ps:List BPap} (h:∀q∈ps,EndGe bd q):EndGe bd (.split ps)
 | dear {pr:List Int} {es:List (Int×Int)} (h:bd<=pr.sum-(es.map (·.2)).sum):EndGe bd (.dear pr es)
def rb (i:Int):Th:= .int i
def uB (x:Int×Int):Th:= .tup [.int x.1,.int x.2]
theorem gQ {H:Hp} {l:Addr} {bs:List Int} (h:H l=some (.lst (bs.map V.int))):ThAt H (.ref l) (.lst (bs.map rb)):= .lst h (by rw[zZ,zZ]) fun i v t hv ht=>by
 rw[Ae]at hv ht
 cases e:bs[i]? with
 | none=>rw[e]at hv;cases hv
 | some b=>rw[e]at hv ht;cases hv;cases ht;exact .int
theorem pj {H:Hp} {d:Addr} {es:List (Int×Int)} (h:RowAt H d es):ThAt H (.ref d) (.lst (es.map uB)):=by
 obtain⟨rs,hd,pr⟩:=h
 have hl:=pr.len
 refine .lst hd (by rw[zZ,zZ,hl]) fun i v t hv ht=>?_
 rw[Ae]at hv ht
 obtain⟨r,hr,rfl⟩:=An.mp hv
 obtain⟨x,hx,rfl⟩:=An.mp ht
 obtain⟨x',hx',tx⟩:=cy pr hr
 rw[hx]at hx'
 cases hx'
 refine .tup tx rfl fun i v t hv ht=>?_
 match i with
 | 0=>cases hv;cases ht;exact .int
 | 1=>cases hv;cases ht;exact .int
 | i+2=>cases hv
theorem eU {bs:List Int} (h:bs.length<=1000):TBnd (.lst (bs.map rb)):= .lst (by rw[zZ];exact h) fun t ht=>by
 obtain⟨x,_,rfl⟩:=AI.mp ht;exact .int
theorem l9 {es:List (Int×Int)} (h:es.length<=1000):TBnd (.lst (es.map uB)):= .lst (by rw[zZ];exact h) fun t ht=>by
 obtain⟨x,_,rfl⟩:=AI.mp ht
 refine .tup (Nat.le_of_ble_eq_true rfl) fun t ht=>?_
 rcases Al.mp ht with z | z
 ·rw [z];exact .int
 ·rw [Am.mp z];exact .int
theorem t7 (bs:List Int):(bs.map rb).map Th.num=bs:=by rw[Au];exact List.map_id _
theorem t8 (bs:List Int):(bs.map rb).all Th.isInt=true:=by rw[List.all_map];exact As.mpr fun _ _=>rfl
theorem t9 (es:List (Int×Int)):(es.map uB).map Th.pair=es:=by rw[Au];exact List.map_id _
theorem vw {es:List (Int×Int)} (h:∀x∈es,1<=x.1/\x.1<=10^18/\0<=x.2):(es.map uB).all gP=true:=by
 rw[List.all_map]
 refine As.mpr fun x hx=>?_
 obtain⟨h1,h2,h3⟩:=h x hx
 show(true&&(true&&((true&&decide (1<=x.1/\x.1<=10^18))&&(true&&decide (x.2>=0)))))=true
 rw[decide_eq_true ⟨h1,h2⟩,decide_eq_true (show x.2>=0 from h3)];rfl
theorem fT {H:Hp} {t:Addr} {x y:V} {a b:Th} (ht:H t=some (.tup [x,y])) (hx:ThAt H x a) (hy:ThAt H y b):ThAt H (.ref t) (.tup [a,b]):= .tup ht rfl fun i v t hv ht=>by
 match i with
 | 0=>cases hv;cases ht;exact hx
 | 1=>cases hv;cases ht;exact hy
 | i+2=>cases hv
theorem gR {H:Hp} {t:Addr} {x y z:V} {a b c:Th} (ht:H t=some (.tup [x,y,z])) (hx:ThAt H x a) (hy:ThAt H y b) (hz:ThAt H z c):ThAt H (.ref t) (.tup [a,b,c]):= .tup ht rfl fun i v t hv ht=>by
 match i with
 | 0=>cases hv;cases ht;exact hx
 | 1=>cases hv;cases ht;exact hy
 | 2=>cases hv;cases ht;exact hz
 | i+3=>cases hv
theorem dZ {a b:Th} (ha:TBnd a) (hb:TBnd b):TBnd (.tup [a,b]):= .tup (Nat.le_of_ble_eq_true rfl) fun t ht=>by
 rcases Al.mp ht with z | z
 ·rw [z];exact ha
 ·rw [Am.mp z];exact hb
theorem fB {a b c:Th} (ha:TBnd a) (hb:TBnd b) (hc:TBnd c):TBnd (.tup [a,b,c]):= .tup (Nat.le_of_ble_eq_true rfl) fun t ht=>by
 rcases Al.mp ht with z | z
 ·rw [z];exact ha
 rcases Al.mp z with z | z
 ·rw [z];exact hb
 ·rw [Am.mp z];exact hc
theorem vx {rows:bN} {ts:List (Addr×Addr×Str×Int×List Nat)} {U:List Int} (qb:QB rows U) {more:Int} {p pr:List Int} {es:List (Int×Int)} (c:bG p)
  (hm:∀b,b<(dd p).length->∃m,pr.getD b 0=m+more/\m∈fI rows p b/\∀x∈fI rows p b,m<=x)
  (he:(more=0/\es=[])\/(more≠0/\∃ks:List Int,es=ks.map (fun k=>(k,more))/\ks.Pairwise (· < ·)/\∀x,x∈ks<->∃b,b<(dd p).length/\x∈bQ rows (aP p b))):jv rows p pr es=true:=by
 unfold jv
 refine As.mpr fun b hb=>?_
 have hb:=AJ.mp hb
 obtain⟨m,e1,m1,m2⟩:=hm b hb
 unfold pb
 refine As.mpr fun y hy=>decide_eq_true ?_
 rw[pZ qb.nd _ (bL c hb)]at hy
 obtain⟨k,hk,rfl⟩:=AI.mp hy
 have le:=m2 (gJ rows (aP p b) k) (AI.mpr ⟨k,hk,rfl⟩)
 show pr.getD b 0-du es k<=gJ rows (aP p b) k
 have ed:du es k=more:=by
  rcases he with⟨z,rfl⟩ | ⟨_,ks,rfl,u1,m3⟩
  ·rw [z];rfl
  ·have nd:((ks.map fun k=>(k,more)).map (·.1)).Nodup:=by
    rw[Au]
    exact(List.map_id ks).symm▸gG u1
   have mm:((k,more):Int×Int)∈ks.map fun k=>(k,more):=AI.mpr ⟨k,(m3 k).mpr ⟨b,hb,hk⟩,rfl⟩
   unfold du
   rw[nI nd mm];rfl
 rw[e1,ed]
 omega
theorem PapIs.bears {rows:bN} {ts:List (Addr×Addr×Str×Int×List Nat)} {U:List Int} (qb:QB rows U) (ub:∀b∈U,1<=b/\b<=10^18) {more:Int} (m0:0<=more) {deep:Nat} (dr:deep<=rows.length) {bd:Int} {p:List Int} {g:BPap} (h:PapIs rows ts more deep p g):
  ∀{H:Hp} {v:V} (n:Nat),bG p->p.length<=deep->deep<p.length+n->BPapAt H v g->EndGe bd g->∃t,ThAt H v t/\TBnd t/\cM rows (ts.map br) bd n p t=true:=by
 induction h with
 | @tie p j h=>
  intro H v n c hp hn at' en
  cases n with
  | zero=>omega
  | succ n=>
  cases at' with
  | tie ht=>
  refine⟨_,fT ht .str .int,dZ .str .int,?_⟩
  obtain⟨x,hx,hb⟩:=qP h
  have jl:=(Ac.mp hx).1
  show nO (ts.map br) p (.int (j:Int))=true
  unfold nO
  show(true&&(decide (0<=(j:Int))&&(decide ((j:Int)<((ts.map br).length:Int))&&(((ts.map br)[(j:Int).toNat]?).elim false fun t=>brk (fun i=>p.getD i 0) p.length t.1 t.2.1 t.2.2))))=true
  rw[decide_eq_true (by omega),decide_eq_true (by rw[zZ];omega),AF,Ae,hx]
  exact hb
 | @short p b h hb he ft=>
  intro H v n c hp hn at' en
  cases n with
  | zero=>omega
  | succ n=>
  cases at' with
  | @short t l _ ht hl=>
  refine⟨_,fT ht .str (gQ hl),dZ .str (eU (Nat.le_of_ble_eq_true rfl)),?_⟩
  show eR (cY rows) p (.lst [.int (b:Int)])=true
  show(true&&(true&&cU (cY rows) p [(b:Int)]))=true
  have em:cT (cY rows) p b=[]:=by
   refine List.eq_nil_iff_forall_not_mem.mpr fun x hx=>?_
   have:=(o9 qb.nd c b hb x).mpr hx
   rw[ju hb,nN qb.nd (bL c hb),he]at this
   cases this
  have sb:cU (cY rows) p [(b:Int)]=true:=by
   unfold cU dX
   have e1:gH [(b:Int)]=true:=rfl
   have e2:tI p [(b:Int)]=true:=by
    unfold tI
    rw[List.all_cons,List.all_nil,decide_eq_true ⟨by omega,by omega⟩];rfl
   have e3:([(b:Int)].flatMap fun b=>cT (cY rows) p b.toNat)=[]:=by
    rw[List.flatMap_cons,List.flatMap_nil,AF,em];rfl
   rw[e1,e2,e3];rfl
  rw[sb];rfl
 | @split p ps h ne lt hn' hs ih=>
  intro H v n c hp hn at' en
  cases n with
  | zero=>omega
  | succ n=>
  cases at' with
  | @split t l vs _ ht hl hvn hat=>
  cases en with
  | split en=>
  have dl:=bK p
  have r6:=qb.r6
  have ex:∀k:Nat,∃t:Th,k<ps.length->ThAt H (vs.getD k .non) t/\TBnd t/\cM rows (ts.map br) bd n (p++[(k:Int)]) t=true:=fun k=>by
   by_cases hk:k<ps.length
   ·obtain⟨t,h1⟩:=ih k ps[k] (Aa hk) (H:=H) (v:=vs.getD k .non) n (cR c (by omega)) (by simp;omega) (by simp;omega) (hat k _ _ (by rw[Ab,Aa (by omega)];rfl) (Aa hk)) (en _ (Ax hk))
    exact⟨t,fun _=>h1⟩
   ·exact⟨.non,fun z=>absurd z hk⟩
  let F:Nat->Th:=fun k=>Classical.choose (ex k)
  have hF:∀k,k<ps.length->ThAt H (vs.getD k .non) (F k)/\TBnd (F k)/\cM rows (ts.map br) bd n (p++[(k:Int)]) (F k)=true:=fun k hk=>Classical.choose_spec (ex k) hk
  generalize F=F at hF
  refine⟨.tup [.str "split",.lst ((Ad ps.length).map F)],fT ht .str (.lst hl (by rw[zZ,AD,hvn]) fun i v t hv hq=>?_),dZ .str (.lst (by rw[zZ,AD];omega) fun q hq=>?_),?_⟩
  ·have hi:=(Ac.mp hv).1
   rw[Ae,AN (by omega)]at hq
   cases hq
   have:=(hF i (by omega)).1
   rw[Ab,hv]at this
   exact this
  ·obtain⟨k,hk,rfl⟩:=AI.mp hq
   exact(hF k (AJ.mp hk)).2.1
  ·show((decide (p.length<rows.length)&&(true&&decide (((Ad ps.length).map F).length=(dd p).length+1)))&&(Ad ((Ad ps.length).map F).length).all fun j=>cM rows (ts.map br) bd n (p++[(j:Int)]) (((Ad ps.length).map F).getD j .non))=true
   rw[decide_eq_true (by omega),decide_eq_true (by rw[zZ,AD];omega),zZ,AD]
   refine As.mpr fun k hk=>?_
   have hk:=AJ.mp hk
   rw[Ab,Ae,AN hk]
   exact(hF k hk).2.2
 | @dear p pr es h ne ge hl hm he=>
  intro H v n c hp hn at' en
  cases n with
  | zero=>omega
  | succ n=>
  cases at' with
  | @dear t l d _ _ ht hl' hd=>
  cases en with
  | dear en=>
  have dl:=bK p
  have r6:=qb.r6
  have esl:es.length<=1000:=by
   rcases he with⟨_,rfl⟩ | ⟨_,ks,rfl,u1,m1⟩
   ·exact Az _
   ·rw [zZ]
    have:ks.length<=U.length:=(gG u1).length_le_of_subset fun x hx=>by
     obtain⟨b,hb,hx⟩:=(m1 x).mp hx
     exact(gN qb (aP p b) (bL c hb)).2.2 x hx
    have:=qb.u26
    omega
  have eok:∀x∈es,1<=x.1/\x.1<=10^18/\0<=x.2:=fun x hx=>by
   rcases he with⟨_,rfl⟩ | ⟨_,ks,rfl,u1,m1⟩
   ·cases hx
   ·obtain⟨k,hk,rfl⟩:=AI.mp hx
    obtain⟨b,hb,hk⟩:=(m1 k).mp hk
    have:=ub k ((gN qb (aP p b) (bL c hb)).2.2 k hk)
    exact⟨this.1,this.2,m0⟩
  have eris:gH (es.map (·.1))=true:=by
   rcases he with⟨_,rfl⟩ | ⟨_,ks,rfl,u1,m1⟩
   ·rfl
   ·rw [Au]
    exact nG.mpr ((List.map_id ks).symm▸u1)
  refine⟨_,gR ht .str (gQ hl') (pj hd),fB .str (eU (by omega)) (l9 esl),?_⟩
  show jw rows p bd (.lst (pr.map rb)) (.lst (es.map uB))=true
  show(((true&&(decide ((pr.map rb).length=(dd p).length)&&(pr.map rb).all Th.isInt))&&(true&&((es.map uB).all gP&&gH (((es.map uB).map Th.pair).map (·.1)))))&&(jv rows p ((pr.map rb).map Th.num) ((es.map uB).map Th.pair)&&decide (bd<=((pr.map rb).map Th.num).sum-(((es.map uB).map Th.pair).map (·.2)).sum)))=true
  rw[t7,t9,t8,vw eok,eris,vx (ts:=ts) qb c hm he,decide_eq_true en,decide_eq_true (by rw[zZ];exact hl)]
  rfl
def rL (rows:bN) (ts:List jX) (t:Th):Prop:=∀(bd:Int) (m:Nat) (p:List Int),p.length<=rows.length->cM rows ts bd m p t=false
theorem rf {rows:bN} {ts:List jX} {us:List Th} {k:Nat} {t:Th} (hk:us[k]?=some t) (h:rL rows ts t):rL rows ts (.tup [.str "split",.lst us]):=fun bd m p hp=>by
 cases m with
 | zero=>rfl
 | succ m=>
 show((decide (p.length<rows.length)&&(true&&decide (us.length=(dd p).length+1)))&&(Ad us.length).all fun j=>cM rows ts bd m (p++[(j:Int)]) (us.getD j .non))=false
 by_cases z:p.length<rows.length
 ·have ki:=(Ac.mp hk).1
  have:((Ad us.length).all fun j=>cM rows ts bd m (p++[(j:Int)]) (us.getD j .non))=false:=by
   rw[List.all_eq_false]
   refine⟨k,AJ.mpr ki,?_⟩
   rw[Ab,hk]
   show ¬cM rows ts bd m (p++[(k:Int)]) t=true
   rw[h bd m _ (by rw[Ai,Aq];omega)]
   exact Ag
  rw[this,Bool.and_false]
 ·rw [decide_eq_false z,Ao,Ao]
theorem jx {rows:bN} {ts:List jX} {a b:Th} (h:fJ b=false):rL rows ts (.tup [.str "dear",a,b]):=fun bd m p hp=>by
 cases m with
 | zero=>rfl
 | succ m=>
 show((iU p a&&fJ b)&&(jv rows p (a.parts.map Th.num) (b.parts.map Th.pair)&&decide (bd<=(a.parts.map Th.num).sum-((b.parts.map Th.pair).map (·.2)).sum)))=false
 rw[h,Bool.and_false,Ao]
theorem pq {rows:bN} {ts:List jX} {us:List Th} {b:Th} (h:us.all Th.isInt=false):rL rows ts (.tup [.str "dear",.lst us,b]):=fun bd m p hp=>by
 cases m with
 | zero=>rfl
 | succ m=>
 show(((true&&(decide (us.length=(dd p).length)&&us.all Th.isInt))&&fJ b)&&(jv rows p (us.map Th.num) (b.parts.map Th.pair)&&decide (bd<=(us.map Th.num).sum-((b.parts.map Th.pair).map (·.2)).sum)))=false
 rw[h,Bool.and_false,Bool.and_false,Ao,Ao]
def zr:Th->Bool
 | .tup ts=> !(decide (ts.length=3)&&(ts.getD 0 .non).isStr "dear")&& !(decide (ts.length=2)&&((ts.getD 0 .non).isStr "tie"||((ts.getD 0 .non).isStr "short"||(ts.getD 0 .non).isStr "split")))
 | _=>true
theorem aW {rows:bN} {ts:List jX} {t:Th} (h:zr t=true):rL rows ts t:=fun bd m p hp=>by
 cases m with
 | zero=>rfl
 | succ m=>
 cases t with
 | non=>rfl
 | bl=>rfl
 | int=>rfl
 | str=>rfl
 | lst=>rfl
 | tup us=>
  show(if us.length=3/\(us.getD 0 .non).isStr "dear"=true then _ else if us.length=2/\(us.getD 0 .non).isStr "split"=true then _ else dJ (cY rows) ts 7 p (.tup us))=false
  obtain⟨h1,h2⟩:=Bool.and_eq_true_iff.mp (show(!(decide (us.length=3)&&(us.getD 0 .non).isStr "dear")&& !(decide (us.length=2)&&((us.getD 0 .non).isStr "tie"||((us.getD 0 .non).isStr "short"||(us.getD 0 .non).isStr "split"))))=true from h)
  have n1:¬(us.length=3/\(us.getD 0 .non).isStr "dear"=true):=fun z=>by
   rw[decide_eq_true z.1,z.2]at h1;cases h1
  have n2:¬(us.length=2/\(us.getD 0 .non).isStr "split"=true):=fun z=>by
   rw[decide_eq_true z.1,z.2,Bool.or_true,Bool.or_true]at h2;cases h2
  rw[if_neg n1,if_neg n2]
  show(true&&(decide (us.length=2)&&_))=false
  by_cases z:us.length=2
  ·rw [decide_eq_true z,Bool.true_and]at h2
   have h2:((us.getD 0 .non).isStr "tie"||((us.getD 0 .non).isStr "short"||(us.getD 0 .non).isStr "split"))=false:=by
    cases e:((us.getD 0 .non).isStr "tie"||((us.getD 0 .non).isStr "short"||(us.getD 0 .non).isStr "split"))with
    | false=>rfl
    | true=>rw[e]at h2;cases h2
   obtain⟨a1,h3⟩:=Bool.or_eq_false_iff.mp h2
   obtain⟨a2,a3⟩:=Bool.or_eq_false_iff.mp h3
   rw[decide_eq_true z]
   show(if(us.getD 0 .non).isStr "tie" then _ else if(us.getD 0 .non).isStr "short" then _ else if(us.getD 0 .non).isStr "split" then _ else false)=false
   rw[a1,a2,a3];rfl
  ·rw [decide_eq_false z];rfl
theorem dg {rows:bN} {ts:List jX} {r:Th} (h:r.isInt=false\/∃j:Int,r= .int j/\(j<0\/(ts.length:Int)<=j)):rL rows ts (.tup [.str "tie",r]):=fun bd m p hp=>by
 cases m with
 | zero=>rfl
 | succ m=>
 show nO ts p r=false
 unfold nO
 rcases h with h | ⟨j,rfl,h | h⟩
 ·rw [h];rfl
 ·show(true&&(decide (0<=j)&&_))=false
  rw[decide_eq_false (by omega)];rfl
 ·show(true&&(decide (0<=j)&&(decide (j<(ts.length:Int))&&_)))=false
  rw[decide_eq_false (show ¬j<(ts.length:Int) by omega),Ao,Bool.and_false,Bool.and_false]
theorem bO {rows:bN} {ts:List jX} {r:Th} (h:r.isLst=false\/r.parts.all Th.isInt=false\/gH (r.parts.map Th.num)=false\/r.parts=[]\/∃j∈r.parts.map Th.num,j<0\/(rows.length:Int)<=j):rL rows ts (.tup [.str "short",r]):=fun bd m p hp=>by
 cases m with
 | zero=>rfl
 | succ m=>
 show eR (cY rows) p r=false
 unfold eR
 rcases h with h | h | h | h | ⟨j,hj,h⟩
 ·rw [h];rfl
 ·rw [h,Ao,Bool.and_false]
 ·unfold cU
  rw[h,Ao,Ao,Bool.and_false,Bool.and_false]
 ·rw [h]
  have:cU (cY rows) p (([]:List Th).map Th.num)=false:=by
   unfold cU
   rw[decide_eq_false (show ¬_<(([]:List Th).map Th.num).length from Nat.not_lt_zero _),Bool.and_false]
  rw[this,Bool.and_false,Bool.and_false]
 ·have dl:=bK p
  have:tI p (r.parts.map Th.num)=false:=by
   unfold tI
   rw[List.all_eq_false]
   refine⟨j,hj,?_⟩
   rw[decide_eq_false (fun z=>by omega)]
   exact Ag
  unfold cU
  rw[this,Bool.and_false,Ao,Bool.and_false,Bool.and_false]
theorem jy {rows:bN} {ts:List jX} {r:Th} (h:r.isLst=false):rL rows ts (.tup [.str "split",r]):=fun bd m p hp=>by
 cases m with
 | zero=>rfl
 | succ m=>
 show((decide (p.length<rows.length)&&(r.isLst&&decide (r.parts.length=(dd p).length+1)))&&_)=false
 rw[h,Ao,Bool.and_false,Ao]
theorem iD {rows:bN} {ts:List jX} {a b:Th} (h:a.isLst=false):rL rows ts (.tup [.str "dear",a,b]):=fun bd m p hp=>by
 cases m with
 | zero=>rfl
 | succ m=>
 show(((a.isLst&&_)&&fJ b)&&_)=false
 rw[h,Ao,Ao,Ao]
end L2
set_option maxHeartbeats 4000000
namespace My
seal L2.PE L2.PA L2.PS L2.PSs L2.PT L2.PW L2.PI L2.PG L2.xI L2.xM L2.PO L2.eG L2.cg L2.xJ L2.yL L2.yK
open PySem L2 PyProof.Rows
local macro_rules | `(tactic| walk_at "go")=> `(tactic| repeat (first | refine⟨_,rfl,?_⟩ | refine⟨_,_,rfl,rfl,(show(0:Int)<_ by decide),?_⟩ | refine⟨_,_,rfl,rfl,(show dD _ _ from⟨by decide,by decide⟩),?_⟩ | refine⟨_,_,rfl,rfl,(show uJ _ _ from⟨by decide,by decide,by decide⟩),?_⟩ | refine⟨_,_,rfl,rfl,(show CMul _ _ from .inl ⟨by decide,by decide⟩),?_⟩ | refine⟨_,_,rfl,rfl,(show CMul _ _ from .inr ⟨by decide,by decide⟩),?_⟩ | refine⟨_,_,rfl,rfl,?_⟩ | refine⟨rfl,?_⟩))
theorem aD {X:Cx} {ss:List Stmt} {D:Ends} {σ:L2.St} {H:Hp} (n:Nat) {t:TS} (h:PSs X (ss.drop n) t) (g:let q:=t;PSs X (ss.drop n) q->∃t,PSs X ss t/\t D σ H):∃t,PSs X ss t/\t D σ H:=g h
def top (i:Nat):Stmt:=PySem.Challenge.pw_deskround_k36_what_is_no_paper.main.body.getD i (.Pass ⟨0,0,0,0⟩)
abbrev fU:Stmt:=top 1
abbrev fV:Stmt:=top 2
abbrev eV:Stmt:=top 3
abbrev jz:Stmt:=top 4
abbrev jA:Stmt:=top 5
abbrev md:Stmt:=top 7
abbrev me:Stmt:=top 8
abbrev jB:Stmt:=top 10
abbrev jC:Stmt:=top 11
abbrev fW:Stmt:=top 13
abbrev ir:Stmt:=top 14
abbrev eW:Stmt:=top 15
abbrev eX:Stmt:=top 16
abbrev dy:Stmt:=top 17
abbrev bW:Stmt:=top 18
abbrev dz:Stmt:=top 19
abbrev fX:Stmt:=top 20
abbrev jD:Stmt:=top 22
abbrev pw:Stmt:=top 23
abbrev iu:Stmt:=top 24
abbrev mf:Stmt:=top 25
abbrev mh:Stmt:=top 26
abbrev eY:Stmt:=top 27
abbrev dA:Stmt:=top 28
abbrev ee:Stmt:=top 29
abbrev eZ:Stmt:=top 30
abbrev bX:Stmt:=top 31
abbrev cA:Stmt:=top 32
abbrev jE:Stmt:=top 33
abbrev fY:Stmt:=top 35
abbrev dB:Stmt:=top 36
abbrev eA:Stmt:=top 37
abbrev fZ:Stmt:=top 38
abbrev gc:Stmt:=top 39
abbrev gd:Stmt:=top 40
abbrev gf:Stmt:=top 41
abbrev gh:Stmt:=top 42
abbrev dC:Stmt:=top 43
abbrev eB:Stmt:=top 44
abbrev e8:Stmt:=top 45
abbrev e9:Stmt:=top 46
abbrev gi:Stmt:=top 47
abbrev cV:Stmt:=top 48
abbrev eD:Stmt:=top 49
abbrev uc:Stmt:=top 50
structure Txt (mg:Str->Option Value):Prop where
 z_all:mg "all"=none
 z_bool:mg "bool"=none
 z_dict:mg "dict"=none
 z_int:mg "int"=none
 z_isinstance:mg "isinstance"=none
 z_len:mg "len"=none
 z_list:mg "list"=none
 z_min:mg "min"=none
 z_range:mg "range"=none
 z_reversed:mg "reversed"=none
 z_set:mg "set"=none
 z_sorted:mg "sorted"=none
 z_sum:mg "sum"=none
 z_tuple:mg "tuple"=none
 z_zip:mg "zip"=none
structure Dfs (K:PySem.W.Frag) (mg:Str->Option Value) (aF:Nat->Addr) (dF:Nat->FuncData):Prop where
 is_whole:Def K mg "is_whole" fU ["thing"] (aF 0) (dF 0)
 is_badge:Def K mg "is_badge" fV ["thing"] (aF 1) (dF 1)
 is_rising:Def K mg "is_rising" eV ["numbers"] (aF 2) (dF 2)
 common:Def K mg "common" jz ["one","other"] (aF 3) (dF 3)
 joined:Def K mg "joined" jA ["one","other"] (aF 4) (dF 4)
 width:Def K mg "width" md ["pattern"] (aF 5) (dF 5)
 grown:Def K mg "grown" me ["pattern"] (aF 6) (dF 6)
 breaks:Def K mg "breaks" jB ["pattern","tie"] (aF 7) (dF 7)
 unlike:Def K mg "unlike" jC ["row","steps"] (aF 8) (dF 8)
 pools_of:Def K mg "pools_of" fW ["pattern","may"] (aF 9) (dF 9)
 pool_of:Def K mg "pool_of" ir ["block","pattern","may"] (aF 10) (dF 10)
 shows_for:Def K mg "shows_for" eW ["pattern","may","ties","paper"] (aF 11) (dF 11)
 tie_shows:Def K mg "tie_shows" eX ["pattern","ties","place"] (aF 12) (dF 12)
 short_shows:Def K mg "short_shows" dy ["pattern","may","blocks"] (aF 13) (dF 13)
 is_list_of_blocks:Def K mg "is_list_of_blocks" bW ["pattern","blocks"] (aF 14) (dF 14)
 split_shows:Def K mg "split_shows" dz ["pattern","may","ties","papers"] (aF 15) (dF 15)
 is_split:Def K mg "is_split" fX ["pattern","count","papers"] (aF 16) (dF 16)
 may_of:Def K mg "may_of" jD ["bill"] (aF 17) (dF 17)
 sums:Def K mg "sums" pw ["pattern","bill"] (aF 18) (dF 18)
 sums_of:Def K mg "sums_of" iu ["block","pattern","bill"] (aF 19) (dF 19)
 added:Def K mg "added" mf ["pairs","minutes"] (aF 20) (dF 20)
 bears:Def K mg "bears" mh ["bill","ties","bound","paper"] (aF 21) (dF 21)
 bears_for:Def K mg "bears_for" eY ["pattern","bill","ties","bound","paper"] (aF 22) (dF 22)
 split_bears:Def K mg "split_bears" dA ["pattern","bill","ties","bound","papers"] (aF 23) (dF 23)
 dear_bears:Def K mg "dear_bears" ee ["pattern","bill","bound","prices","dues"] (aF 24) (dF 24)
 is_within:Def K mg "is_within" eZ ["price","dues","pairs"] (aF 25) (dF 25)
 is_list_of_prices:Def K mg "is_list_of_prices" bX ["pattern","prices"] (aF 26) (dF 26)
 is_list_of_dues:Def K mg "is_list_of_dues" cA ["dues"] (aF 27) (dF 27)
 is_due:Def K mg "is_due" jE ["pair"] (aF 28) (dF 28)
 law_cell:Def K mg "_law_cell" fY ["script","k"] (aF 29) (dF 29)
 law_entries:Def K mg "_law_entries" dB ["script","size"] (aF 30) (dF 30)
 law_badges:Def K mg "_law_badges" eA ["cells","gap","high"] (aF 31) (dF 31)
 law_bill:Def K mg "_law_bill" fZ ["cells","badges","dense","top","count"] (aF 32) (dF 32)
 law_ties:Def K mg "_law_ties" gc ["cells","count"] (aF 33) (dF 33)
 law_case:Def K mg "_law_case" gd ["script","sizes","tops"] (aF 34) (dF 34)
 law_wide:Def K mg "_law_wide" gf ["pattern"] (aF 35) (dF 35)
 law_pool:Def K mg "_law_pool" gh ["block","pattern","bill"] (aF 36) (dF 36)
 law_minutes:Def K mg "_law_minutes" dC ["badge","block","pattern","bill"] (aF 37) (dF 37)
 law_breaks:Def K mg "_law_breaks" eB ["pattern","tie"] (aF 38) (dF 38)
 law_paper:Def K mg "_law_paper" e8 ["pattern","bill","ties","more","deep"] (aF 39) (dF 39)
 law_least:Def K mg "_law_least" e9 ["paper"] (aF 40) (dF 40)
 law_bare:Def K mg "_law_bare" gi ["cell"] (aF 41) (dF 41)
 law_odd_dues:Def K mg "_law_odd_dues" cV ["cell"] (aF 42) (dF 42)
 law_put_in:Def K mg "_law_put_in" eD ["paper","cell"] (aF 43) (dF 43)
 law:Def K mg "law" uc ["script"] (aF 44) (dF 44)
section
variable {P:Program} {w:World} {K:PySem.W.Frag} {mg:Str->Option Value} {base:Heap} {aF:Nat->Addr} {dF:Nat->FuncData}
inductive sp_is_whole (K:PySem.W.Frag) (vs:List V) (H:Hp) (Q:VK) (E:XK):Prop where
 | mk (v:V) (t:Th) (f0:vs=[v]) (f1:ThAt H v t) (f2:Q (.bl t.isInt) H):sp_is_whole K vs H Q E
theorem nR:FnScope ["thing"] ["thing"] (ao fU):=⟨rfl,rfl,rfl,by decide +kernel,rfl,by decide +kernel,by decide +kernel⟩
theorem cI (D:Dfs K mg aF dF) (T:Txt mg):FnOk P w K mg base a8 1 (aF 0) (dF 0) ["thing"] (sp_is_whole K):=by
 refine D.is_whole.fn.ok nR (fun vs H Q E h=>?_) (fun cdv A outer s H vs Q E hr h=>?_)
 ·obtain⟨v,t,rfl,_⟩:=h;rfl
 ·have hu:=a7 hr
  obtain⟨v,t,rfl,ht,q⟩:=h
  refine⟨_,(ah (ar (dN (ai (lF K) (by rfl) T.z_isinstance boot_isinstance (aa (pv 0) (aa (wX T.z_int) ab))) (g7 (wy (ai (lF K) (by rfl) T.z_isinstance boot_isinstance (aa (pv 0) (aa (u4 T.z_bool) ab)))))))),?_⟩
  cases ht with
  | non=>exact⟨_,rfl,_,_,_,false,rfl,.non,rfl,_,rfl,bg q⟩
  | bl=>exact⟨_,rfl,_,_,_,true,rfl,.bl _,rfl,_,rfl,bq ⟨_,rfl,_,_,_,true,rfl,.bl _,rfl,_,rfl,q⟩⟩
  | int=>exact⟨_,rfl,_,_,_,true,rfl,.int _,rfl,_,rfl,bq ⟨_,rfl,_,_,_,false,rfl,.int _,rfl,_,rfl,q⟩⟩
  | str=>exact⟨_,rfl,_,_,_,false,rfl,.str _,rfl,_,rfl,bg q⟩
  | lst hl hn h=>exact⟨_,rfl,_,_,_,false,rfl,.lst hl,rfl,_,rfl,bg q⟩
  | tup hl hn h=>exact⟨_,rfl,_,_,_,false,rfl,.tup hl,rfl,_,rfl,bg q⟩
inductive sp_is_badge (K:PySem.W.Frag) (vs:List V) (H:Hp) (Q:VK) (E:XK):Prop where
 | mk (v:V) (t:Th) (f0:vs=[v]) (f1:ThAt H v t) (f2:Q (.bl (pd t)) H):sp_is_badge K vs H Q E
theorem nT:FnScope ["thing"] ["thing"] (ao fV):=⟨rfl,rfl,rfl,by decide +kernel,rfl,by decide +kernel,by decide +kernel⟩
theorem nU (D:Dfs K mg aF dF) (T:Txt mg):FnOk P w K mg base a8 2 (aF 1) (dF 1) ["thing"] (sp_is_badge K):=by
 have Gis_whole:FnOk P w K mg base a8 1 (aF 0) (dF 0) ["thing"] (sp_is_whole K):=cI D T
 refine D.is_badge.fn.ok nT (fun vs H Q E h=>?_) (fun cdv A outer s H vs Q E hr h=>?_)
 ·obtain⟨v,t,rfl,_⟩:=h;rfl
 ·have hu:=a7 hr
  obtain⟨v,t,rfl,ht,q⟩:=h
  refine⟨_,(ah (ar (dN (pc D.is_whole Gis_whole (hr.mono (by decide)) (aa (pv 0) ab)) (g7 (i4 kh kh ae (pv 0) (ak dP ae ae)))))),?_⟩
  refine⟨_,rfl,v,t,rfl,ht,_,rfl,?_⟩
  cases ht with
  | @int i=>
   change Q (.bl (decide (1<=i/\i<=10^18))) H at q
   refine bq ?_
   refine⟨_,rfl,_,_,rfl,rfl,_,rfl,sy (fun z=>?_) fun z=>?_⟩
   ·refine⟨_,_,rfl,rfl,⟨by decide,by decide,by decide⟩,_,_,rfl,rfl,?_⟩
    have e:decide (1<=i/\i<=10^18)=decide (i<=10^(18:Int).toNat):=decide_eq_decide.mpr ⟨fun y=>y.2,fun y=>⟨z,y⟩⟩
    rw[e]at q
    exact q
   ·rw [decide_eq_false fun y=>z y.1]at q
    exact q
  | non=>exact bg q
  | bl=>exact bg q
  | str=>exact bg q
  | lst=>exact bg q
  | tup=>exact bg q
inductive sp_is_rising (K:PySem.W.Frag) (vs:List V) (H:Hp) (Q:VK) (E:XK):Prop where
 | mk (a:Addr) (ns:List Int) (f0:vs=[.ref a]) (f1:SqL K H a (ns.map V.int)) (f2:ns.length<=1000) (f3:∀H',Same H H'->Q (.bl (gH ns)) H'):sp_is_rising K vs H Q E
theorem mi:FnScope ["numbers"] ["numbers"] (ao eV):=⟨rfl,rfl,rfl,by decide +kernel,rfl,by decide +kernel,by decide +kernel⟩
theorem gS (D:Dfs K mg aF dF) (T:Txt mg):FnOk P w K mg base a8 1 (aF 2) (dF 2) ["numbers"] (sp_is_rising K):=by
 refine D.is_rising.fn.ok mi (fun vs H Q E h=>?_) (fun cdv A outer s H vs Q E hr h=>?_)
 ·obtain⟨a,ns,rfl,_⟩:=h;rfl
 ·have hu:=a7 hr
  obtain⟨a,ns,rfl,hS,hl,q⟩:=h
  refine⟨_,(ah (ar (ai (lG K) (by rfl) T.z_all boot_all (aa (aK ["place","numbers"] [none,some 0] rfl (ke rfl T.z_range (aa ae (aa (ai (bC K) (by rfl) T.z_len boot_len (aa (pv 0) ab)) ab))) (fun _=>au (i:=0) (aB (N:=["place","numbers"]) (by decide +kernel)) rfl (Or.inl rfl)) (fun _=>aM) (fun _=>(b5 fD (aw (cN K) (pv 1) (ak dh (pv 0) ae) (fun _ _=>rfl)) (aw (cN K) (pv 1) (pv 0) (fun _ _=>rfl)) (az _))) ((.cons (fun _ e=>by cases e) (.cons (fun _ e=>by cases e;exact⟨rfl,rfl⟩) .nil)))) ab)))),?_⟩
  refine⟨_,rfl,_,_,rfl,.inl ⟨_,hS,rfl⟩,_,_,rfl,⟨by decide,by decide,by omega,?_⟩,?_⟩
  ·rw [zZ];omega
  rw[zZ]
  have e:((ns.length:Int)-1).toNat=ns.length-1:=by omega
  rw[e]
  refine jb (n:=ns.length-1) (fun k=> .bl (decide (ns.getD k 0<ns.getD (k+1) 0))) (by omega) (fun i hi H2 R s2 k=>?_) fun acc H' s1 n1 h1=>?_
  ·have e1:(1:Int)+(i:Int)-1=(i:Int):=by omega
   have e2:(1:Int)+(i:Int)=((i+1:Nat):Int):=by omega
   refine⟨_,rfl,_,rfl,_,_,rfl,rfl,a,_,_,_,rfl,rfl,s2.seq hS,by rw[e1];exact bz (by omega),_,rfl,_,rfl,a,_,_,_,rfl,rfl,s2.seq hS,by rw[e2];exact bz (by omega),_,_,rfl,rfl,k H2 (Same.refl _)⟩
  ·refine⟨acc,(Ad (ns.length-1)).map fun k=>decide (ns.getD k 0<ns.getD (k+1) 0),rfl,SqL.of ?_,?_⟩
   ·rw [h1,Au];rfl
   ·rw [List.all_map]
    exact q H' s1
def k9 (K:PySem.W.Frag):Sp:=zA K 0
theorem rg:FnScope ["one","other"] ["one","other"] (ao jz):=⟨rfl,rfl,rfl,by decide +kernel,rfl,by decide +kernel,by decide +kernel⟩
theorem rh (D:Dfs K mg aF dF) (T:Txt mg):FnOk P w K mg base a8 1 (aF 3) (dF 3) ["one","other"] (k9 K):=by
 refine D.common.fn.ok rg (fun vs H Q E h=>?_) (fun cdv A outer s H vs Q E hr h=>?_)
 ·obtain⟨a,b,F,S,U,rfl,_⟩:=h;rfl
 ·have hu:=a7 hr
  obtain⟨a,b,F,S,U,rfl,bo,q⟩:=h
  refine⟨_,(ah (ar (ai (jk w) (by rfl) T.z_sorted boot_sorted (aa (ak (vd w) (aL (nj w K) (by rfl) T.z_set PyProof.Rows.boot_set (aa (pv 0) ab)) (aL (nj w K) (by rfl) T.z_set PyProof.Rows.boot_set (aa (pv 1) ab))) ab)))),?_⟩
  have h1:=bo.l1
  have h2:=bo.l2
  refine⟨_,rfl,a,F,rfl,bo.fa,by omega,fun s1 n1=>⟨_,rfl,b,S,rfl,(Same.new n1).seq bo.sb,by omega,fun s2 n2=>?_⟩⟩
  have d1:=bK F
  have d2:=bK S
  have n12:s1≠s2:=fun z=>by rw[<- z,af]at n2;cases n2
  refine⟨s1,s2,dd F,dd S,rfl,rfl,n12,by rw[aE n12];exact af,af,by omega,by omega,fun c ks nc nd hm=>?_⟩
  have lk:ks.length<=F.length:=nd.length_le_of_subset fun x hx=>bP.mp ((hm x).mp hx).1
  refine⟨c,ks,rfl,af,by omega,fun l ms nl pm sr=>?_⟩
  refine q l ms _ ⟨(((Same.new n1).to n2).to nc).to nl,(((Same.new n1).to (o:= .ext (SX w s2 (dd S))) n2).to (o:= .ext (SX w c ks)) nc).free nl,af,lV sr (pm.nodup_iff.mpr nd),fun x=>?_⟩
  rw[pm.mem_iff,hm x]
  dsimp only
  rw[bP,bP]
  exact Iff.rfl
def lj (K:PySem.W.Frag):Sp:=zA K 1
theorem rj:FnScope ["one","other"] ["one","other"] (ao jA):=⟨rfl,rfl,rfl,by decide +kernel,rfl,by decide +kernel,by decide +kernel⟩
theorem rp (D:Dfs K mg aF dF) (T:Txt mg):FnOk P w K mg base a8 1 (aF 4) (dF 4) ["one","other"] (lj K):=by
 refine D.joined.fn.ok rj (fun vs H Q E h=>?_) (fun cdv A outer s H vs Q E hr h=>?_)
 ·obtain⟨a,b,F,S,U,rfl,_⟩:=h;rfl
 ·have hu:=a7 hr
  obtain⟨a,b,F,S,U,rfl,bo,q⟩:=h
  refine⟨_,(ah (ar (ai (jk w) (by rfl) T.z_sorted boot_sorted (aa (ak (xg w) (aL (nj w K) (by rfl) T.z_set PyProof.Rows.boot_set (aa (pv 0) ab)) (aL (nj w K) (by rfl) T.z_set PyProof.Rows.boot_set (aa (pv 1) ab))) ab)))),?_⟩
  have h1:=bo.l1
  have h2:=bo.l2
  refine⟨_,rfl,a,F,rfl,bo.fa,by omega,fun s1 n1=>⟨_,rfl,b,S,rfl,(Same.new n1).seq bo.sb,by omega,fun s2 n2=>?_⟩⟩
  have d1:=bK F
  have d2:=bK S
  have n12:s1≠s2:=fun z=>by rw[<- z,af]at n2;cases n2
  refine⟨s1,s2,dd F,dd S,rfl,rfl,n12,by rw[aE n12];exact af,af,by omega,by omega,fun c ks nc nd hm=>?_⟩
  have lk:ks.length<=U.length:=nd.length_le_of_subset fun x hx=>((hm x).mp hx).elim (fun h=>bo.fu x (bP.mp h)) fun h=>bo.su x (bP.mp h)
  have ul:=bo.ul
  refine⟨c,ks,rfl,af,by omega,fun l ms nl pm sr=>?_⟩
  refine q l ms _ ⟨(((Same.new n1).to n2).to nc).to nl,(((Same.new n1).to (o:= .ext (SX w s2 (dd S))) n2).to (o:= .ext (SX w c ks)) nc).free nl,af,lV sr (pm.nodup_iff.mpr nd),fun x=>?_⟩
  rw[pm.mem_iff,hm x]
  dsimp only
  rw[bP,bP]
  exact Iff.rfl
inductive sp_width (K:PySem.W.Frag) (vs:List V) (H:Hp) (Q:VK) (E:XK):Prop where
 | mk (a:Addr) (ps:List Int) (f0:vs=[.ref a]) (f1:SqL K H a (ps.map V.int)) (f2:ps.length<=6) (f3:∀H',Same H H'->Q (.int (((dd ps).length:Nat):Int)) H'):sp_width K vs H Q E
theorem ud:FnScope ["pattern"] ["pattern"] (ao md):=⟨rfl,rfl,rfl,by decide +kernel,rfl,by decide +kernel,by decide +kernel⟩
theorem fb (D:Dfs K mg aF dF) (T:Txt mg):FnOk P w K mg base a8 1 (aF 5) (dF 5) ["pattern"] (sp_width K):=by
 refine D.width.fn.ok ud (fun vs H Q E h=>?_) (fun cdv A outer s H vs Q E hr h=>?_)
 ·obtain⟨a,ps,rfl,_⟩:=h;rfl
 ·have hu:=a7 hr
  obtain⟨a,ps,rfl,ha,h6,q⟩:=h
  refine⟨_,(ah (ar (ai (sI w) (by rfl) T.z_len boot_len (aa (aL (nj w K) (by rfl) T.z_set PyProof.Rows.boot_set (aa (pv 0) ab)) ab)))),?_⟩
  exact⟨_,rfl,a,ps,rfl,ha,by omega,fun S nS=>⟨S,_,rfl,af,q _ (Same.new nS)⟩⟩
inductive sp_grown (K:PySem.W.Frag) (vs:List V) (H:Hp) (Q:VK) (E:XK):Prop where
 | mk (a:Addr) (ps:List Int) (f0:vs=[.ref a]) (f1:H a=some (.lst (ps.map V.int))) (f2:ps.length<=6) (f3:∀l (rs:List Addr) H',Same H H'->H l=none->H' l=some (.lst (rs.map V.ref))->rs.length=(dd ps).length+1->(∀(i:Nat) r,rs[i]?=some r->H' r=some (.lst ((ps++[(i:Int)]).map V.int))/\H r=none)->Q (.ref l) H'):sp_grown K vs H Q E
theorem ue:FnScope ["pattern"] ["pattern"] (ao me):=⟨rfl,rfl,rfl,by decide +kernel,rfl,by decide +kernel,by decide +kernel⟩
theorem jF (D:Dfs K mg aF dF) (T:Txt mg):FnOk P w K mg base a8 2 (aF 6) (dF 6) ["pattern"] (sp_grown K):=by
 have Gwidth:FnOk P w K mg base a8 1 (aF 5) (dF 5) ["pattern"] (sp_width K):=fb D T
 refine D.grown.fn.ok ue (fun vs H Q E h=>?_) (fun cdv A outer s H vs Q E hr h=>?_)
 ·obtain⟨a,ps,rfl,_⟩:=h;rfl
 ·have hu:=a7 hr
  obtain⟨a,ps,rfl,ha,h6,q⟩:=h
  refine⟨_,(ah (ar (aK ["number","pattern"] [none,some 0] rfl (aZ rfl T.z_range (aa (ak aQ (pc D.width Gwidth (hr.mono (by decide)) (aa (pv 0) ab)) ae) ab)) (fun _=>au (i:=0) (aB (N:=["number","pattern"]) (by decide +kernel)) rfl (Or.inl rfl)) (fun _=>aM) (fun _=>(ak di (pv 1) (aq (aa (pv 0) ab)))) ((.cons (fun _ e=>by cases e) (.cons (fun _ e=>by cases e;exact⟨rfl,rfl⟩) .nil)))))),?_⟩
  refine⟨_,rfl,a,ps,rfl,SqL.of ha,h6,fun H1 s1=>?_⟩
  have dl:=bK ps
  refine⟨_,_,rfl,rfl,_,rfl,gI _,by omega,?_⟩
  have e0:(((dd ps).length:Int)+1).toNat=(dd ps).length+1:=by omega
  rw[e0]
  refine iB (n:=(dd ps).length+1) (fun i=>(ps++[(i:Int)]).map V.int) (by omega) (fun i hi H2 R s2 k=>?_) fun acc rs H2 s2 nacc hacc hrs hall hne=>?_
  ·have ei:(0:Int)+(i:Int)=((i:Nat):Int):=by omega
   rw[ei]
   refine⟨_,rfl,_,rfl,cE,fun p np=>?_⟩
   have ha2:=(s1.trans s2) _ _ ha
   refine⟨a,p,_,_,rfl,rfl,Same.new np _ _ ha2,af,by rw[zZ];exact vP (by simp;omega),fun r nr=>?_⟩
   have e:ps.map V.int++[V.int ((i:Nat):Int)]=(ps++[(i:Int)]).map V.int:=by rw[Aw];rfl
   rw[e]
   exact k r _ ((Same.new np).to nr) ((Same.new np).free nr) af
  ·exact q acc rs H2 (s1.trans s2) (s1.free nacc) hacc hrs fun i r hr=>⟨(hall i r hr).1,s1.free (hall i r hr).2⟩
inductive sp_unlike (K:PySem.W.Frag) (vs:List V) (H:Hp) (Q:VK) (E:XK):Prop where
 | mk (a t:Addr) (hs:List Int) (st:List Nat) (f0:vs=[.ref a,.ref t]) (f1:SqL K H a (hs.map V.int)) (f2:(SqL K H t (st.map fun(i:Nat)=>V.int (i:Int))\/SqT K H t (st.map fun(i:Nat)=>V.int (i:Int)))) (f3:(∀i∈st,i<hs.length)) (f4:st.length<=6) (f5:∀H',Same H H'->Q (.int ((uA (fun i=>hs.getD i 0) st:Nat):Int)) H'):sp_unlike K vs H Q E
theorem rq:FnScope ["row","steps"] ["row","steps"] (ao jC):=⟨rfl,rfl,rfl,by decide +kernel,rfl,by decide +kernel,by decide +kernel⟩
theorem rB (D:Dfs K mg aF dF) (T:Txt mg):FnOk P w K mg base a8 1 (aF 8) (dF 8) ["row","steps"] (sp_unlike K):=by
 refine D.unlike.fn.ok rq (fun vs H Q E h=>?_) (fun cdv A outer s H vs Q E hr h=>?_)
 ·obtain⟨a,t,hs,st,rfl,_⟩:=h;rfl
 ·have hu:=a7 hr
  obtain⟨a,t,hs,st,rfl,ha,ht,hlt,h6,q⟩:=h
  refine⟨_,(ah (ar (ai (sI w) (by rfl) T.z_len boot_len (aa (aL (nj w K) (by rfl) T.z_set PyProof.Rows.boot_set (aa (aK ["step","row"] [none,some 0] rfl (zO K (pv 1)) (fun _=>au (i:=0) (aB (N:=["step","row"]) (by decide +kernel)) rfl (Or.inl rfl)) (fun _=>aM) (fun _=>(aw (cN K) (pv 1) (pv 0) (fun _ _=>rfl))) ((.cons (fun _ e=>by cases e) (.cons (fun _ e=>by cases e;exact⟨rfl,rfl⟩) .nil)))) ab)) ab)))),?_⟩
  have fin:∀acc H2,Same H H2->H2 acc=some (.lst ((st.map fun i=>hs.getD i 0).map V.int))->∀S,H2 S=none->Q (.int ((uA (fun i=>hs.getD i 0) st:Nat):Int)) (aG H2 S (.ext (SX w S (dd (st.map fun i=>hs.getD i 0))))):=fun acc H2 s2 _ S nS=>q _ (s2.to nS)
  refine⟨_,rfl,t,rfl,?_⟩
  rcases ht with ht | ht
  ·refine .inl ⟨⟨_,ht⟩,bA (xs:=st.map fun(i:Nat)=>V.int (i:Int)) (fun _=>true) (fun j=> .int (hs.getD (st.getD j 0) 0)) ht (by rw[zZ];omega) (fun _ _ _ _ _ _ k=>k _ (Same.refl _)) (fun j x hx _ H2 R s2 k=>?_) fun acc H2 s2 nacc hacc=>?_⟩
   ·obtain⟨d,hd,rfl,ed⟩:=fQ hx
    rw[ed]at k
    exact⟨_,rfl,_,rfl,a,_,_,_,rfl,rfl,s2.seq ha,bz (hlt d (Ah hd)),k _ (Same.refl _)⟩
   rw[tE]at hacc
   exact⟨acc,st.map fun i=>hs.getD i 0,rfl,SqL.of hacc,by rw[zZ];omega,fun S nS=>⟨S,_,rfl,af,fin acc H2 s2 hacc S nS⟩⟩
  ·refine .inr ⟨⟨_,ht⟩,nC (xs:=st.map fun(i:Nat)=>V.int (i:Int)) (fun _=>true) (fun j=> .int (hs.getD (st.getD j 0) 0)) ht (by rw[zZ];omega) (fun _ _ _ _ _ _ k=>k _ (Same.refl _)) (fun j x hx _ H2 R s2 k=>?_) fun acc H2 s2 nacc hacc=>?_⟩
   ·obtain⟨d,hd,rfl,ed⟩:=fQ hx
    rw[ed]at k
    exact⟨_,rfl,_,rfl,a,_,_,_,rfl,rfl,s2.seq ha,bz (hlt d (Ah hd)),k _ (Same.refl _)⟩
   rw[tE]at hacc
   exact⟨acc,st.map fun i=>hs.getD i 0,rfl,SqL.of hacc,by rw[zZ];omega,fun S nS=>⟨S,_,rfl,af,fin acc H2 s2 hacc S nS⟩⟩
inductive sp_breaks (K:PySem.W.Frag) (vs:List V) (H:Hp) (Q:VK) (E:XK):Prop where
 | mk (a tp t:Addr) (hs:List Int) (st:List Nat) (wd:Str) (k:Int) (f0:vs=[.ref a,.ref tp]) (f1:SqL K H a (hs.map V.int)) (f2:SqT K H tp [.str wd,.int k,.ref t]) (f3:SqT K H t (st.map fun(i:Nat)=>V.int (i:Int))) (f4:(wd="most"\/wd="least")) (f5:st.length<=6) (f6:∀H',Same H H'->Q (.bl (brk (fun i=>hs.getD i 0) hs.length wd k st)) H'):sp_breaks K vs H Q E
theorem iw:FnScope ["pattern","tie","steps","numbers_there"] ["pattern","tie"] (ao jB):=⟨rfl,rfl,rfl,by decide +kernel,rfl,by decide +kernel,by decide +kernel⟩
theorem rC (D:Dfs K mg aF dF) (T:Txt mg):FnOk P w K mg base a8 2 (aF 7) (dF 7) ["pattern","tie"] (sp_breaks K):=by
 have Gunlike:FnOk P w K mg base a8 1 (aF 8) (dF 8) ["row","steps"] (sp_unlike K):=rB D T
 refine D.breaks.fn.ok iw (fun vs H Q E h=>?_) (fun cdv A outer s H vs Q E hr h=>?_)
 ·obtain⟨a,tp,t,hs,st,wd,k,rfl,_⟩:=h;rfl
 ·have hu:=a7 hr
  obtain⟨a,tp,t,hs,st,wd,k,rfl,ha,htp,ht,hwd,h6,q⟩:=h
  refine aD 3 (ah (ar (b5 fD (ak dh (ak aQ (pv 3) (ai (bC K) (by rfl) T.z_len boot_len (aa (aw (eJ K) (pv 1) ae (fun _ _=>rfl)) ab))) (ai (bC K) (by rfl) T.z_len boot_len (aa (pv 2) ab))) (aw (eJ K) (pv 1) ae (fun _ _=>rfl)) (az _)))) ?_
  intro Z0 z0
  refine aD 2 (ag (aU (ay bY (aw (eJ K) (pv 1) ae (fun _ _=>rfl)) av (az _))
    (ah (ar (b5 rS (pv 3) (aw (eJ K) (pv 1) ae (fun _ _=>rfl)) (az _))))
    aA) z0) ?_
  intro Z0 z0
  refine aD 1 (ag (ax (i:=3) iw.nd rfl (Or.inl rfl) (pc D.unlike Gunlike (hr.mono (by decide)) (aa (pv 0) (aa (pv 2) ab)))) z0) ?_
  intro Z0 z0
  refine⟨_,(ag (cw (i₀:=2) iw.nd rfl (Or.inl rfl) ["step","pattern"] [none,some 0] rfl (zy K (aw (eJ K) (pv 1) ae (fun _ _=>rfl))) (fun _=>au (i:=0) (aB (N:=["step","pattern"]) (by decide +kernel)) rfl (Or.inl rfl)) (fun _=>dR (ay fD (pv 0) (ai (bC K) (by rfl) T.z_len boot_len (aa (pv 1) ab)) (az _))) (fun _=>(pv 0)) ((.cons (fun _ e=>by cases e) (.cons (fun _ e=>by cases e;exact⟨rfl,rfl⟩) .nil)))) z0),?_⟩
  refine⟨_,rfl,tp,_,_,_,rfl,rfl,htp,rfl,t,rfl,⟨_,ht⟩,?_⟩
  refine nC (xs:=st.map fun(i:Nat)=>V.int (i:Int)) (fun j=>decide (st.getD j 0<hs.length)) (fun j=> .int ((st.getD j 0:Nat):Int)) ht (by rw[zZ];omega) (fun j x hx H2 R s2 k=>?_) (fun j x hx hp H2 R s2 k=>?_) fun acc H2 s2 nacc hacc=>?_
  ·obtain⟨d,hd,rfl,ed⟩:=fQ hx
   rw[ed]at k
   refine⟨_,rfl,_,rfl,_,_,rfl,.inl ⟨_,s2.seq ha,rfl⟩,_,_,rfl,rfl,_,rfl,?_⟩
   have kk:=k H2 (Same.refl _)
   rw[xi]at kk
   rw[zZ]
   exact kk
  ·obtain⟨d,hd,rfl,ed⟩:=fQ hx
   rw[ed]at k
   exact⟨_,rfl,k _ (Same.refl _)⟩
  rw[zZ,zg (g:=fun i=>decide (i<hs.length)) (F:=fun(i:Nat)=>V.int (i:Int))]at hacc
  have fl:(st.filter fun i=>decide (i<hs.length)).length<=st.length:=AL ..
  refine⟨_,rfl,_,rfl,a,acc,hs,st.filter fun i=>decide (i<hs.length),rfl,s2.seq ha,.inl (SqL.of hacc),(fun i hi=>of_decide_eq_true (AQ.mp hi).2),by omega,fun H3 s23=>?_⟩
  have s3:=s2.trans s23
  have hacc3:=s23 _ _ hacc
  have q3:=q H3 s3
  refine⟨_,rfl,tp,_,_,_,rfl,rfl,Same.seqT s3 htp,rfl,rfl,_,rfl,?_⟩
  unfold brk at q3
  rcases hwd with e | e<;>subst e
  ·refine bq ?_
   rw[if_pos rfl]at q3
   exact⟨_,rfl,_,rfl,tp,_,_,_,rfl,rfl,Same.seqT s3 htp,rfl,_,_,rfl,rfl,q3⟩
  ·rw [decide_eq_false (by decide)]
   refine bg ?_
   rw[if_neg (by decide)]at q3
   refine⟨_,rfl,_,rfl,tp,_,_,_,rfl,rfl,Same.seqT s3 htp,rfl,_,_,rfl,.inr ⟨_,Same.seqT s3 ht,rfl⟩,_,_,rfl,rfl,_,rfl,_,_,rfl,.inl ⟨_,SqL.of hacc3,rfl⟩,_,_,rfl,rfl,_,rfl,tp,_,_,_,rfl,rfl,Same.seqT s3 htp,rfl,_,_,rfl,rfl,?_⟩
   rw[zZ,zZ]
   exact q3
inductive sp_pool_of (K:PySem.W.Frag) (vs:List V) (H:Hp) (Q:VK) (E:XK):Prop where
 | mk (b:Nat) (pa ma:Addr) (p:List Int) (rs:List Addr) (may:List (List Int)) (U:List Int) (f0:vs=[.int ((b:Nat):Int),.ref pa,.ref ma]) (f1:SqL K H pa (p.map V.int)) (f2:May K H ma rs may U) (f3:bG p) (f4:b<(dd p).length) (f5:p.length<=may.length) (f6:∀l H',Same H H'->H l=none->H' l=some (.lst ((cT may p b).map V.int))->Q (.ref l) H'):sp_pool_of K vs H Q E
theorem cW:FnScope ["block","pattern","may","steps","step","pool"] ["block","pattern","may"] (ao ir):=⟨rfl,rfl,rfl,by decide +kernel,rfl,by decide +kernel,by decide +kernel⟩
theorem pB (D:Dfs K mg aF dF) (T:Txt mg):FnOk P w K mg base a8 2 (aF 10) (dF 10) ["block","pattern","may"] (sp_pool_of K):=by
 have Gcommon:FnOk P w K mg base a8 1 (aF 3) (dF 3) ["one","other"] (k9 K):=rh D T
 refine D.pool_of.fn.ok cW (fun vs H Q E h=>?_) (fun cdv A outer s H vs Q E hr h=>?_)
 ·obtain⟨b,pa,ma,p,rs,may,U,rfl,_⟩:=h;rfl
 ·have hu:=a7 hr
  obtain⟨b,pa,ma,p,rs,may,U,rfl,hp,hm,c,hb,hl,q⟩:=h
  refine aD 3 (ah (ar (pv 5))) ?_
  intro Z0 z0
  refine aD 2 (ag (b8 PassesOwn.never rfl (jc K (eN (yn K) (pv 3) (fk ae) iO)) (au (i:=4) cW.nd rfl (Or.inl rfl))
    (ah (ax (i:=5) cW.nd rfl (Or.inl rfl) (pc D.common Gcommon (hr.mono (by decide)) (aa (pv 5) (aa (aw (cN K) (pv 2) (pv 4) (fun _ _=>rfl)) ab)))))) z0) ?_
  intro Z0 z0
  refine aD 1 (ag (ax (i:=5) cW.nd rfl (Or.inl rfl) (aL (kE K) (by rfl) T.z_list boot_list (aa (aw (cN K) (pv 2) (aw (cN K) (pv 3) ae (fun _ _=>rfl)) (fun _ _=>rfl)) ab))) z0) ?_
  intro Z0 z0
  refine⟨_,(ag (cw (i₀:=3) cW.nd rfl (Or.inl rfl) ["step","pattern","block"] [none,some 1,some 0] rfl (aZ rfl T.z_range (aa (ai (bC K) (by rfl) T.z_len boot_len (aa (pv 1) ab)) ab)) (fun _=>au (i:=0) (aB (N:=["step","pattern","block"]) (by decide +kernel)) rfl (Or.inl rfl)) (fun _=>dR (ay bY (aw (cN K) (pv 1) (pv 0) (fun _ _=>rfl)) (pv 2) (az _))) (fun _=>(pv 0)) ((.cons (fun _ e=>by cases e) (.cons (fun _ e=>by cases e;exact⟨rfl,rfl⟩) (.cons (fun _ e=>by cases e;exact⟨rfl,rfl⟩) .nil))))) z0),?_⟩
  have m6:=hm.m6
  refine⟨_,rfl,_,_,rfl,.inl ⟨_,hp,rfl⟩,_,rfl,gI _,by rw[zZ];omega,?_⟩
  have e0:(((p.map V.int).length:Nat):Int).toNat=p.length:=by rw[zZ];omega
  rw[e0]
  refine h8 (n:=p.length) (fun i=>decide (p.getD i 0=(b:Int))) (by omega) (fun i hi H3 R s3 k=>?_) (fun i hi H3 R k=>?_) fun sl H3 s3 nsl hsl=>?_
  ·have ei:(0:Int)+(i:Int)=((i:Nat):Int):=by omega
   rw[ei]
   have kk:=k H3 (Same.refl _)
   rw[nE]at kk
   exact⟨_,rfl,_,rfl,pa,_,_,_,rfl,rfl,s3.seq hp,bz hi,_,rfl,rfl,_,rfl,kk⟩
  ·have ei:(0:Int)+(i:Int)=((i:Nat):Int):=by omega
   rw[ei]
   exact⟨_,rfl,k⟩
  have sne:aP p b≠[]:=bL c hb
  have slt:∀i∈aP p b,i<may.length:=fun i hi=>by have:=(cS.mp hi).1;omega
  have hsl:H3 sl=some (.lst ((aP p b).map fun(i:Nat)=>V.int (i:Int))):=hsl
  have q2:∀l H',Same H3 H'->H3 l=none->H' l=some (.lst ((dH (aP p b) may).map V.int))->Q (.ref l) H':=fun l H' s n e=>q l H' (s3.trans s) (s3.free n) e
  have s6:(aP p b).length<=6:=by
   have:=AL (fun i=>decide (p.getD i 0=(b:Int))) (Ad p.length)
   rw[AD]at this
   show((Ad p.length).filter fun i=>decide (p.getD i 0=(b:Int))).length<=6
   omega
  have hm3:=hm.same s3
  clear q
  generalize aP p b=st at hsl sne slt q2 s6
  obtain⟨s0,sr,rfl⟩:=List.exists_cons_of_ne_nil sne
  obtain⟨r0,hr0,hq0,up0,sub0⟩:=hm3.rows (slt s0 (by simp))
  refine⟨_,rfl,_,rfl,sl,_,_,_,rfl,rfl,SqL.of hsl,bh (j:=0) (v:=V.int (s0:Int)) rfl,ma,_,_,_,rfl,rfl,hm3.ls,bh (by rw[Ae,hr0];rfl),r0,_,rfl,.inl hq0,fun l nl=>?_⟩
  have cf:fN (((s0 :: sr).map fun(i:Nat)=>V.int (i:Int))) (some (1:Int)) none=sr.map fun(i:Nat)=>V.int (i:Int):=jd _ 1
  refine⟨_,rfl,_,rfl,sl,_,rfl,SqL.of (Same.new nl _ _ hsl),fun cc ncc=>?_⟩
  have s34:=(Same.new (o:= .lst ((may.getD s0 []).map V.int)) nl).to (o:= .lst (sr.map fun(i:Nat)=>V.int (i:Int))) ncc
  have ncl:l≠cc:=fun z=>by rw[<- z,af]at ncc;cases ncc
  have hl4:aG (aG H3 l (.lst ((may.getD s0 []).map V.int))) cc (.lst (sr.map fun(i:Nat)=>V.int (i:Int))) l=some (.lst ((may.getD s0 []).map V.int)):=by rw[aE ncl];exact af
  have hcc4:aG (aG H3 l (.lst ((may.getD s0 []).map V.int))) cc (.lst (sr.map fun(i:Nat)=>V.int (i:Int))) cc=some (.lst (sr.map fun(i:Nat)=>V.int (i:Int))):=af
  rw[cf]
  generalize aG (aG H3 l (.lst ((may.getD s0 []).map V.int))) cc (.lst (sr.map fun(i:Nat)=>V.int (i:Int)))=H4 at s34 hl4 hcc4
  refine⟨cc,rfl,⟨_,SqL.of hcc4⟩,?_⟩
  refine eL (K:=K) (a:=cc) (xs:=sr.map fun(i:Nat)=>V.int (i:Int)) (fun i σ H5=>∃(po:Addr) (x:Option V),σ=[some (.int ((b:Nat):Int)),some (.ref pa),some (.ref ma),some (.ref sl),x,some (.ref po)]/\Same H4 H5/\H3 po=none/\H5 po=some (.lst ((dH (s0 :: sr.take i) may).map V.int)))
   ⟨l,none,rfl,Same.refl _,nl,by rw[BG,qO];exact hl4⟩ (fun i σ H5 _ hq__=>by obtain⟨_,_,_,s,_⟩:=hq__;exact s.seq (SqL.of hcc4)) ?_ ?_
  ·rintro i y σ H5 hi ⟨po,x,rfl,s5,npo,hpo⟩
   obtain⟨d,hd,rfl,_⟩:=fQ hi
   have hdl:=slt d (Av _ (Ah hd))
   have hm5:=hm3.same (s34.trans s5)
   obtain⟨r1,hr1,hq1,up1,sub1⟩:=hm5.rows hdl
   refine⟨_,rfl,_,rfl,_,rfl,ma,_,_,_,rfl,rfl,hm5.ls,bh (by rw[Ae,hr1];rfl),po,r1,dH (s0 :: sr.take i) may,may.getD d [],U,rfl,⟨SqL.of hpo,hq1,jn hm.up,up1,fun x hx=>sub0 x ((AQ.mp hx).1),sub1,by have:=hm.u20;omega⟩,fun l2 ks H6 ⟨t1,t2,t3,t4,t5⟩=>?_⟩
   refine⟨l2,_,rfl,s5.trans t1,(s34.trans s5).free t2,?_⟩
   have et:sr.take (i+1)=sr.take i++[d]:=by rw[Be,hd];rfl
   have ek:ks=dH (s0 :: sr.take (i+1)) may:=by
    refine xl t4 (jn hm.up) fun x=>?_
    rw[t5 x,et,<- List.cons_append,oU (by simp)]
    exact Iff.rfl
   rw[<- ek]
   exact t3
  ·rintro σ H5 ⟨po,x,rfl,s5,npo,hpo⟩
   rw[zZ,A3]at hpo
   exact⟨_,rfl,q2 po H5 (s34.trans s5) npo hpo⟩
inductive sp_pools_of (K:PySem.W.Frag) (vs:List V) (H:Hp) (Q:VK) (E:XK):Prop where
 | mk (pa ma:Addr) (p:List Int) (rs:List Addr) (may:List (List Int)) (U:List Int) (f0:vs=[.ref pa,.ref ma]) (f1:SqL K H pa (p.map V.int)) (f2:May K H ma rs may U) (f3:bG p) (f4:p.length<=may.length) (f5:∀l (ls:List Addr) H',Same H H'->H l=none->H' l=some (.lst (ls.map V.ref))->RowsL H' ls (kR may p)->(∀r∈ls,H r=none)->Q (.ref l) H'):sp_pools_of K vs H Q E
theorem nV:FnScope ["pattern","may"] ["pattern","may"] (ao fW):=⟨rfl,rfl,rfl,by decide +kernel,rfl,by decide +kernel,by decide +kernel⟩
theorem nW (D:Dfs K mg aF dF) (T:Txt mg):FnOk P w K mg base a8 3 (aF 9) (dF 9) ["pattern","may"] (sp_pools_of K):=by
 have Gwidth:FnOk P w K mg base a8 1 (aF 5) (dF 5) ["pattern"] (sp_width K):=fb D T
 have Gpool_of:FnOk P w K mg base a8 2 (aF 10) (dF 10) ["block","pattern","may"] (sp_pool_of K):=pB D T
 refine D.pools_of.fn.ok nV (fun vs H Q E h=>?_) (fun cdv A outer s H vs Q E hr h=>?_)
 ·obtain⟨pa,ma,p,rs,may,U,rfl,_⟩:=h;rfl
 ·have hu:=a7 hr
  obtain⟨pa,ma,p,rs,may,U,rfl,hp,hm,c,hl,q⟩:=h
  refine⟨_,(ah (ar (aK ["block","pattern","may"] [none,some 0,some 1] rfl (aZ rfl T.z_range (aa (pc D.width Gwidth (hr.mono (by decide)) (aa (pv 0) ab)) ab)) (fun _=>au (i:=0) (aB (N:=["block","pattern","may"]) (by decide +kernel)) rfl (Or.inl rfl)) (fun _=>aM) (fun _=>(pc D.pool_of Gpool_of (hr.mono (by decide)) (aa (pv 0) (aa (pv 1) (aa (pv 2) ab))))) ((.cons (fun _ e=>by cases e) (.cons (fun _ e=>by cases e;exact⟨rfl,rfl⟩) (.cons (fun _ e=>by cases e;exact⟨rfl,rfl⟩) .nil))))))),?_⟩
  have m6:=hm.m6
  have dl:=bK p
  refine⟨_,rfl,pa,p,rfl,hp,by omega,fun H1 s1=>?_⟩
  refine⟨_,rfl,gI _,by omega,?_⟩
  rw[AF]
  refine iB (n:=(dd p).length) (fun i=>(cT may p i).map V.int) (by omega) (fun i hi H2 R s2 k=>?_) fun acc ls H2 s2 nacc hacc hrs hall hne=>?_
  ·have ei:(0:Int)+(i:Int)=((i:Nat):Int):=by omega
   rw[ei]
   have s12:=s1.trans s2
   exact⟨_,rfl,_,rfl,_,rfl,i,pa,ma,p,rs,may,U,rfl,s12.seq hp,hm.same s12,c,hi,hl,fun r H3 s3 nr hr=>k r H3 s3 nr hr⟩
  ·refine q acc ls H2 (s1.trans s2) (s1.free nacc) hacc (RowsL.of (by rw[hrs,kU]) fun i r p' e1 e2=>?_) fun r hr=>?_
   ·have hi:i<(dd p).length:=by rw[<- hrs];exact(Ac.mp e1).1
    rw[gF hi]at e2
    cases e2
    exact(hall i r e1).1
   ·obtain⟨i,hi,ei⟩:=Ap.mp hr
    exact s1.free (hall i r (by rw[Aa hi,ei])).2
inductive sp_tie_shows (K:PySem.W.Frag) (vs:List V) (H:Hp) (Q:VK) (E:XK):Prop where
 | mk (pa ta:Addr) (v:V) (r:Th) (p:List Int) (ts:List (Addr×Addr×Str×Int×List Nat)) (f0:vs=[.ref pa,.ref ta,v]) (f1:SqL K H pa (p.map V.int)) (f2:Ties K H ta ts 100) (f3:ThAt H v r) (f4:∀H',Same H H'->Q (.bl (nO (ts.map br) p r)) H'):sp_tie_shows K vs H Q E
theorem mj:FnScope ["pattern","ties","place"] ["pattern","ties","place"] (ao eX):=⟨rfl,rfl,rfl,by decide +kernel,rfl,by decide +kernel,by decide +kernel⟩
theorem mq (D:Dfs K mg aF dF) (T:Txt mg):FnOk P w K mg base a8 3 (aF 12) (dF 12) ["pattern","ties","place"] (sp_tie_shows K):=by
 have Gis_whole:FnOk P w K mg base a8 1 (aF 0) (dF 0) ["thing"] (sp_is_whole K):=cI D T
 have Gbreaks:FnOk P w K mg base a8 2 (aF 7) (dF 7) ["pattern","tie"] (sp_breaks K):=rC D T
 refine D.tie_shows.fn.ok mj (fun vs H Q E h=>?_) (fun cdv A outer s H vs Q E hr h=>?_)
 ·obtain⟨pa,ta,v,r,p,ts,rfl,_⟩:=h;rfl
 ·have hu:=a7 hr
  obtain⟨pa,ta,v,r,p,ts,rfl,hp,tt,ht,q⟩:=h
  refine⟨_,(ah (ar (dN (pc D.is_whole Gis_whole (hr.mono (by decide)) (aa (pv 2) ab)) (dN (i4 kh fD ae (pv 2) (ai (bC K) (by rfl) T.z_len boot_len (aa (pv 1) ab))) (g7 (pc D.breaks Gbreaks (hr.mono (by decide)) (aa (pv 0) (aa (aw (cN K) (pv 1) (pv 2) (fun _ _=>rfl)) ab)))))))),?_⟩
  refine⟨_,rfl,v,r,rfl,ht,_,rfl,?_⟩
  unfold nO at q
  rw[zZ]at q
  cases ht with
  | @int j=>
   change ∀H',Same H H'->Q (.bl (decide (0<=j)&&(decide (j<(ts.length:Int))&&(((ts.map br)[j.toNat]?).elim false fun t=>brk (fun i=>p.getD i 0) p.length t.1 t.2.1 t.2.2)))) H' at q
   refine bq ?_
   refine⟨_,rfl,_,_,rfl,rfl,_,rfl,sy (fun j0=>?_) fun j0=>?_⟩
   ·rw [decide_eq_true j0,Bool.true_and]at q
    refine⟨_,rfl,_,_,rfl,.inl ⟨_,tt.ls,rfl⟩,_,_,rfl,rfl,_,rfl,?_⟩
    by_cases jl:j<(ts.length:Int)
    ·rw [decide_eq_true (by rw[zZ];exact jl)]
     refine bq ?_
     obtain⟨n,en⟩:∃n:Nat,j=(n:Int):=⟨j.toNat,by omega⟩
     subst en
     have nl:n<ts.length:=by omega
     have hx:=Aa nl
     rw[decide_eq_true jl,Bool.true_and,AF,Ae,hx]at q
     have te:=tt.ea _ (Ah hx)
     exact⟨_,rfl,_,rfl,_,rfl,ta,_,_,_,rfl,rfl,tt.ls,bh (by rw[Ae,hx];rfl),pa,ts[n].1,ts[n].2.1,p,ts[n].2.2.2.2,ts[n].2.2.1,ts[n].2.2.2.1,rfl,hp,SqT.of te.tp,SqT.of te.ts,te.wd,te.sl,fun H1 s1=>q H1 s1⟩
    ·rw [decide_eq_false (by rw[zZ];exact jl)]
     rw[decide_eq_false jl,Ao]at q
     exact bg (q H (Same.refl _))
   ·rw [decide_eq_false j0,Ao]at q
    exact⟨_,rfl,bg (q H (Same.refl _))⟩
  | non=>exact bg (q H (Same.refl _))
  | bl=>exact bg (q H (Same.refl _))
  | str=>exact bg (q H (Same.refl _))
  | lst=>exact bg (q H (Same.refl _))
  | tup=>exact bg (q H (Same.refl _))
inductive sp_is_list_of_blocks (K:PySem.W.Frag) (vs:List V) (H:Hp) (Q:VK) (E:XK):Prop where
 | mk (pa:Addr) (v:V) (p:List Int) (r:Th) (f0:vs=[.ref pa,v]) (f1:SqL K H pa (p.map V.int)) (f2:p.length<=6) (f3:ThAt H v r) (f4:TBnd r) (f5:∀H',Same H H'->Q (.bl (r.isLst&&(r.parts.all Th.isInt&&(gH (r.parts.map Th.num)&&tI p (r.parts.map Th.num))))) H'):sp_is_list_of_blocks K vs H Q E
theorem fc:FnScope ["pattern","blocks"] ["pattern","blocks"] (ao bW):=⟨rfl,rfl,rfl,by decide +kernel,rfl,by decide +kernel,by decide +kernel⟩
theorem fe (D:Dfs K mg aF dF) (T:Txt mg):FnOk P w K mg base a8 2 (aF 14) (dF 14) ["pattern","blocks"] (sp_is_list_of_blocks K):=by
 have Gis_whole:FnOk P w K mg base a8 1 (aF 0) (dF 0) ["thing"] (sp_is_whole K):=cI D T
 have Gis_rising:FnOk P w K mg base a8 1 (aF 2) (dF 2) ["numbers"] (sp_is_rising K):=gS D T
 have Gwidth:FnOk P w K mg base a8 1 (aF 5) (dF 5) ["pattern"] (sp_width K):=fb D T
 refine D.is_list_of_blocks.fn.ok fc (fun vs H Q E h=>?_) (fun cdv A outer s H vs Q E hr h=>?_)
 ·obtain⟨pa,v,p,r,rfl,_⟩:=h;rfl
 ·have hu:=a7 hr
  obtain⟨pa,v,p,r,rfl,hp,p6,ht,tb,q⟩:=h
  refine⟨_,(ag (aU (PW.pt (kc (cu (b7 (ai (lF K) (by rfl) T.z_isinstance boot_isinstance (aa (pv 1) (aa (iQ T.z_list) ab))))) (gZ (cu (b7 (ai (lG K) (by rfl) T.z_all boot_all (aa (aK ["block"] [none] rfl (jc K (pv 1)) (fun _=>au (i:=0) (aB (N:=["block"]) (by decide +kernel)) rfl (Or.inl rfl)) (fun _=>aM) (fun _=>(pc D.is_whole Gis_whole (hr.mono (by decide)) (aa (pv 0) ab))) ((.cons (fun _ e=>by cases e) .nil))) ab)))))))
    (ah (ar bB))
    aA)
   (ah (ar (dN (pc D.is_rising Gis_rising (hr.mono (by decide)) (aa (pv 1) ab)) (g7 (ai (lG K) (by rfl) T.z_all boot_all (aa (aK ["block","pattern"] [none,some 0] rfl (jc K (pv 1)) (fun _=>au (i:=0) (aB (N:=["block","pattern"]) (by decide +kernel)) rfl (Or.inl rfl)) (fun _=>aM) (fun _=>(i4 kh fD ae (pv 0) (pc D.width Gwidth (hr.mono (by decide)) (aa (pv 1) ab)))) ((.cons (fun _ e=>by cases e) (.cons (fun _ e=>by cases e;exact⟨rfl,rfl⟩) .nil)))) ab))))))),?_⟩
  cases ht with
  | non=>exact⟨_,rfl,_,_,_,false,rfl,.non,rfl,_,rfl,bq (q H (Same.refl _))⟩
  | bl=>exact⟨_,rfl,_,_,_,false,rfl,.bl _,rfl,_,rfl,bq (q H (Same.refl _))⟩
  | int=>exact⟨_,rfl,_,_,_,false,rfl,.int _,rfl,_,rfl,bq (q H (Same.refl _))⟩
  | str=>exact⟨_,rfl,_,_,_,false,rfl,.str _,rfl,_,rfl,bq (q H (Same.refl _))⟩
  | tup hl hn h=>exact⟨_,rfl,_,_,_,false,rfl,.tup hl,rfl,_,rfl,bq (q H (Same.refl _))⟩
  | @lst ba us ts hba hn hat=>
  change ∀H',Same H H'->Q (.bl (ts.all Th.isInt&&(gH (ts.map Th.num)&&tI p (ts.map Th.num)))) H' at q
  have tl:ts.length<=1000:=by cases tb;assumption
  refine⟨_,rfl,_,_,_,true,rfl,.lst hba,rfl,_,rfl,bg ?_⟩
  refine⟨_,rfl,ba,rfl,⟨_,SqL.of hba⟩,?_⟩
  refine bA (xs:=us) (fun _=>true) (fun j=> .bl (ts.getD j .non).isInt) (SqL.of hba) (by omega) (fun _ _ _ _ _ _ k=>k _ (Same.refl _)) (fun j x hx _ H2 R s2 k=>?_) fun acc H2 s2 nacc hacc=>?_
  ·have hj:=(Ac.mp hx).1
   have hjt:j<ts.length:=by omega
   have e:ts.getD j .non=ts[j]:=by rw[Ab,Aa hjt];rfl
   rw[e]at k
   exact⟨_,rfl,x,ts[j],rfl,(hat j x _ hx (Aa hjt)).same s2,k H2 (Same.refl _)⟩
  rw[AG.mpr (fun _ _=>rfl)]at hacc
  have e1:(Ad us.length).map (fun j=>V.bl (ts.getD j .non).isInt)=(ts.map Th.isInt).map V.bl:=by
   rw[hn,Au]
   exact ie fun i x hx=>by rw[Ab,hx];rfl
  rw[e1]at hacc
  refine⟨acc,_,rfl,SqL.of hacc,_,rfl,?_⟩
  have e2:(ts.map Th.isInt).all id=ts.all Th.isInt:=by rw[List.all_map];rfl
  rw[e2]
  refine iz (fun h1=>?_) fun h1=>?_
  ·rw [h1,Ao]at q
   exact q H2 s2
  rw[h1,Bool.true_and]at q
  have eus:us=(ts.map Th.num).map V.int:=by
   refine BN fun i=>?_
   rw[Au,Ae]
   cases et:ts[i]? with
   | none=>
    have:=List.getElem?_eq_none_iff.mp et
    exact AY (by omega)
   | some t=>
    have hi:=(Ac.mp et).1
    have hu:us[i]?=some us[i]:=Aa (by omega)
    have a:=hat i _ _ hu et
    have b:=As.mp h1 t (Ah et)
    rw[hu]
    clear hu
    generalize us[i]=x at a
    cases a<;>first | rfl | cases b
  rw[eus]at hba
  generalize ebs:ts.map Th.num=bs at q hba
  have bl:bs.length<=1000:=by rw[<- ebs,zZ];exact tl
  refine⟨_,rfl,ba,bs,rfl,SqL.of (s2 _ _ hba),bl,fun H3 s3=>⟨_,rfl,uz (fun h1=>?_) fun h1=>?_⟩⟩
  ·have s23:=s2.trans s3
   refine⟨_,rfl,ba,rfl,⟨_,SqL.of (s23 _ _ hba)⟩,?_⟩
   refine bA (xs:=bs.map V.int) (fun _=>true) (fun j=> .bl (decide (0<=bs.getD j 0/\bs.getD j 0<(((dd p).length:Nat):Int)))) (SqL.of (s23 _ _ hba)) (by rw[zZ];omega) (fun _ _ _ _ _ _ k=>k _ (Same.refl _)) (fun j x hx _ H4 R s4 k=>?_) fun acc2 H4 s4 nacc2 hacc2=>?_
   ·obtain⟨d,hd,rfl,ed⟩:=dU hx
    rw[ed]at k
    refine⟨_,rfl,_,_,rfl,rfl,_,rfl,sy (fun z=>?_) fun z=>?_⟩
    ·refine⟨_,rfl,pa,p,rfl,(s23.trans s4).seq hp,p6,fun H5 s5=>⟨_,_,rfl,rfl,?_⟩⟩
     have kk:=k H5 s5
     have e:decide (0<=d/\d<(((dd p).length:Nat):Int))=decide (d<(((dd p).length:Nat):Int)):=by
      by_cases y:d<(((dd p).length:Nat):Int)
      ·rw [decide_eq_true y,decide_eq_true ⟨z,y⟩]
      ·rw [decide_eq_false y,decide_eq_false fun w=>y w.2]
     rw[e]at kk
     exact kk
    ·have kk:=k H4 (Same.refl _)
     rw[decide_eq_false fun w=>z w.1]at kk
     exact kk
   rw[AG.mpr (fun _ _=>rfl),zZ]at hacc2
   have e3:(Ad bs.length).map (fun j=>V.bl (decide (0<=bs.getD j 0/\bs.getD j 0<(((dd p).length:Nat):Int))))=(bs.map fun b=>decide (0<=b/\b<(((dd p).length:Nat):Int))).map V.bl:=by
    rw[Au]
    exact ie fun i x hx=>by rw[Ab,hx];rfl
   rw[e3]at hacc2
   refine⟨acc2,_,rfl,SqL.of hacc2,?_⟩
   have e4:(bs.map fun b=>decide (0<=b/\b<(((dd p).length:Nat):Int))).all id=tI p bs:=by unfold tI;rw[List.all_map];rfl
   rw[e4]
   have qq:=q H4 (s23.trans s4)
   rw[h1,Bool.true_and]at qq
   exact qq
  ·have qq:=q H3 (s2.trans s3)
   rw[h1,Ao]at qq
   exact qq
inductive sp_short_shows (K:PySem.W.Frag) (vs:List V) (H:Hp) (Q:VK) (E:XK):Prop where
 | mk (pa ma:Addr) (v:V) (p:List Int) (rs:List Addr) (may:List (List Int)) (U:List Int) (r:Th) (f0:vs=[.ref pa,.ref ma,v]) (f1:SqL K H pa (p.map V.int)) (f2:May K H ma rs may U) (f3:bG p) (f4:p.length<=may.length) (f5:ThAt H v r) (f6:TBnd r) (f7:∀H',Same H H'->Q (.bl (eR may p r)) H'):sp_short_shows K vs H Q E
theorem bS:FnScope ["pattern","may","blocks","pools","badges","block"] ["pattern","may","blocks"] (ao dy):=⟨rfl,rfl,rfl,by decide +kernel,rfl,by decide +kernel,by decide +kernel⟩
theorem jG (D:Dfs K mg aF dF) (T:Txt mg):FnOk P w K mg base a8 4 (aF 13) (dF 13) ["pattern","may","blocks"] (sp_short_shows K):=by
 have Gjoined:FnOk P w K mg base a8 1 (aF 4) (dF 4) ["one","other"] (lj K):=rp D T
 have Gpools_of:FnOk P w K mg base a8 3 (aF 9) (dF 9) ["pattern","may"] (sp_pools_of K):=nW D T
 have Gis_list_of_blocks:FnOk P w K mg base a8 2 (aF 14) (dF 14) ["pattern","blocks"] (sp_is_list_of_blocks K):=fe D T
 refine D.short_shows.fn.ok bS (fun vs H Q E h=>?_) (fun cdv A outer s H vs Q E hr h=>?_)
 ·obtain⟨pa,ma,v,p,rs,may,U,r,rfl,_⟩:=h;rfl
 ·have hu:=a7 hr
  obtain⟨pa,ma,v,p,rs,may,U,r,rfl,hp,hm,c,hl,ht,tb,q⟩:=h
  refine aD 4 (ah (ar (b5 fD (ai (bC K) (by rfl) T.z_len boot_len (aa (pv 4) ab)) (ai (bC K) (by rfl) T.z_len boot_len (aa (pv 2) ab)) (az _)))) ?_
  intro Z0 z0
  refine aD 3 (ag (b8 PassesOwn.never rfl (jc K (pv 2)) (au (i:=5) bS.nd rfl (Or.inl rfl))
    (ah (ax (i:=4) bS.nd rfl (Or.inl rfl) (pc D.joined Gjoined (hr.mono (by decide)) (aa (pv 4) (aa (aw (cN K) (pv 3) (pv 5) (fun _ _=>rfl)) ab)))))) z0) ?_
  intro Z0 z0
  refine aD 2 (ag (ax (i:=4) bS.nd rfl (Or.inl rfl) (aq ab)) z0) ?_
  intro Z0 z0
  refine aD 1 (ag (ax (i:=3) bS.nd rfl (Or.inl rfl) (pc D.pools_of Gpools_of (hr.mono (by decide)) (aa (pv 0) (aa (pv 1) ab)))) z0) ?_
  intro Z0 z0
  refine⟨_,(ag (aU (cu (b7 (pc D.is_list_of_blocks Gis_list_of_blocks (hr.mono (by decide)) (aa (pv 0) (aa (pv 2) ab)))))
    (ah (ar bB))
    aA) z0),?_⟩
  have m6:=hm.m6
  refine⟨_,rfl,_,rfl,pa,v,p,r,rfl,hp,by omega,ht,tb,fun H1 s1=>⟨_,rfl,iz (fun h1=>?_) fun h1=>?_⟩⟩
  ·have qq:=q H1 s1
   unfold eR cU at qq
   have e:(r.isLst&&(r.parts.all Th.isInt&&(gH (r.parts.map Th.num)&&tI p (r.parts.map Th.num)&&decide ((dd (dX may p (r.parts.map Th.num))).length<(r.parts.map Th.num).length))))=false:=by
    revert h1
    cases r.isLst<;>cases r.parts.all Th.isInt<;>cases gH (r.parts.map Th.num)<;>cases tI p (r.parts.map Th.num)<;>intro h1<;>first | rfl | cases h1
   rw[e]at qq
   exact qq
  obtain⟨h2,h3⟩:=Bool.and_eq_true_iff.mp h1
  obtain⟨h3,h1⟩:=Bool.and_eq_true_iff.mp h3
  unfold eR at q
  rw[h2,h3,Bool.true_and,Bool.true_and]at q
  obtain⟨ba,bs,rfl,hba,ebs⟩:=ht.ints h2 h3
  rw[ebs]at q h1
  clear ht h2 h3 ebs tb
  have hin:∀b∈bs,0<=b/\b<(((dd p).length:Nat):Int):=fun b hb=>of_decide_eq_true (As.mp (Bool.and_eq_true_iff.mp h1).2 b hb)
  have hm1:=hm.same s1
  refine⟨_,rfl,_,rfl,pa,ma,p,rs,may,U,rfl,s1.seq hp,hm1,c,hl,fun po ls H2 s2 npo hpo R2 fr2=>⟨cE,fun b0 nb0=>?_⟩⟩
  have s23:=Same.new (o:= .lst []) nb0
  have s03:=(s1.trans s2).trans s23
  have hb3:aG H2 b0 (.lst []) b0=some (.lst []):=af
  generalize aG H2 b0 (.lst [])=H3 at s23 s03 hb3
  have u26:=hm.u20
  refine⟨_,rfl,ba,rfl,⟨_,SqL.of (s03 _ _ hba)⟩,?_⟩
  refine eL (K:=K) (a:=ba) (xs:=bs.map V.int) (fun i σ Hx=>∃(x:Addr) (ks:List Int) (y:Option V),σ=[some (.ref pa),some (.ref ma),some (.ref ba),some (.ref po),some (.ref x),y]/\Same H3 Hx/\Hx x=some (.lst (ks.map V.int))/\ks.Pairwise (· < ·)/\(∀b∈ks,b∈U)/\∀b,b∈ks<->b∈dX may p (bs.take i)) ⟨b0,[],none,rfl,Same.refl _,hb3,List.Pairwise.nil,(fun _ z=>by cases z),fun b=>Iff.rfl⟩ (fun i σ Hx _ hq__=>by obtain⟨_,_,_,_,s,_⟩:=hq__;exact s.seq (SqL.of (s03 _ _ hba))) ?_ ?_
  ·rintro i y σ Hx hi ⟨x,ks,y',rfl,sx,hx,up,sub,mem⟩
   obtain⟨d,hd,rfl,ed⟩:=dU hi
   obtain⟨d0,d1⟩:=hin d (Ah hd)
   obtain⟨b,eb⟩:∃b:Nat,d=(b:Int):=⟨d.toNat,by omega⟩
   subst eb
   have bl':b<(dd p).length:=by omega
   have s2x:=s23.trans sx
   obtain⟨r,er,hr'⟩:=(R2.same s2x).at (gF bl')
   have psub:=qQ c hl hm.sub (cT may p b) (Ah (gF bl'))
   refine⟨_,rfl,_,rfl,_,rfl,po,_,_,_,rfl,rfl,SqL.of (s2x _ _ hpo),bh (by rw[Ae,er];rfl),x,r,ks,cT may p b,U,rfl,⟨SqL.of hx,SqL.of hr',up,jn hm.up,sub,psub,by omega⟩,fun l2 ks2 H4 ⟨t1,t2,t3,t4,t5⟩=>?_⟩
   refine⟨l2,ks2,_,rfl,sx.trans t1,t3,t4,fun b' hb'=>?_,fun b'=>?_⟩
   ·rcases(t5 b').mp hb' with z | z
    ·exact sub b' z
    ·exact psub b' z
   ·have et:bs.take (i+1)=bs.take i++[(b:Int)]:=by rw[Be,hd];rfl
    rw[t5 b',et]
    unfold dX
    rw[List.flatMap_append,AH]
    have e2:[(b:Int)].flatMap (fun b=>cT may p b.toNat)=cT may p b:=by rw[List.flatMap_singleton,AF]
    rw[e2]
    exact or_congr (mem b') Iff.rfl
  ·rintro σ Hx ⟨x,ks,y',rfl,sx,hx,up,sub,mem⟩
   rw[zZ,A3]at mem
   refine⟨_,rfl,_,_,rfl,.inl ⟨_,SqL.of hx,rfl⟩,_,rfl,_,_,rfl,.inl ⟨_,SqL.of (sx _ _ (s03 _ _ hba)),rfl⟩,_,_,rfl,rfl,?_⟩
   have el:ks.length=(dd (dX may p bs)).length:=by
    have nd:=gG up
    have a1:=nd.length_le_of_subset (l₂:=dd (dX may p bs)) fun b hb=>bP.mpr ((mem b).mp hb)
    have a2:=(kL (dX may p bs)).length_le_of_subset (l₂:=ks) fun b hb=>(mem b).mpr (bP.mp hb)
    omega
   have qq:=q Hx (s03.trans sx)
   have e:cU may p bs=decide ((((ks.map V.int).length:Nat):Int)<(((bs.map V.int).length:Nat):Int)):=by
    unfold cU
    rw[h1,Bool.true_and,zZ,zZ,el]
    by_cases z:(dd (dX may p bs)).length<bs.length
    ·rw [decide_eq_true z,decide_eq_true (by omega)]
    ·rw [decide_eq_false z,decide_eq_false (by omega)]
   rw[e]at qq
   exact qq
inductive sp_is_split (K:PySem.W.Frag) (vs:List V) (H:Hp) (Q:VK) (E:XK):Prop where
 | mk (pa:Addr) (v:V) (r:Th) (p:List Int) (c:Nat) (f0:vs=[.ref pa,.int (c:Int),v]) (f1:H pa=some (.lst (p.map V.int))) (f2:ThAt H v r) (f3:c<=6) (f4:∀H',Same H H'->Q (.bl (decide (p.length<c)&&(r.isLst&&decide (r.parts.length=(dd p).length+1)))) H'):sp_is_split K vs H Q E
theorem nX:FnScope ["pattern","count","papers"] ["pattern","count","papers"] (ao fX):=⟨rfl,rfl,rfl,by decide +kernel,rfl,by decide +kernel,by decide +kernel⟩
theorem iE (D:Dfs K mg aF dF) (T:Txt mg):FnOk P w K mg base a8 3 (aF 16) (dF 16) ["pattern","count","papers"] (sp_is_split K):=by
 have Ggrown:FnOk P w K mg base a8 2 (aF 6) (dF 6) ["pattern"] (sp_grown K):=jF D T
 refine D.is_split.fn.ok nX (fun vs H Q E h=>?_) (fun cdv A outer s H vs Q E hr h=>?_)
 ·obtain⟨pa,v,r,p,c,rfl,_⟩:=h;rfl
 ·have hu:=a7 hr
  obtain⟨pa,v,r,p,c,rfl,hpa,ht,c6,q⟩:=h
  refine⟨_,(ah (ar (dN (b5 fD (ai (bC K) (by rfl) T.z_len boot_len (aa (pv 0) ab)) (pv 1) (az _)) (dN (ai (lF K) (by rfl) T.z_isinstance boot_isinstance (aa (pv 2) (aa (iQ T.z_list) ab))) (g7 (b5 bY (ai (bC K) (by rfl) T.z_len boot_len (aa (pv 2) ab)) (ai (bC K) (by rfl) T.z_len boot_len (aa (pc D.grown Ggrown (hr.mono (by decide)) (aa (pv 0) ab)) ab)) (az _))))))),?_⟩
  refine⟨_,rfl,_,_,rfl,.inl ⟨_,SqL.of hpa,rfl⟩,_,rfl,_,_,rfl,rfl,_,rfl,sy (fun lt=>?_) fun ge=>?_⟩
  ·rw [zZ]at lt
   rw[decide_eq_true (show p.length<c by omega),Bool.true_and]at q
   cases ht with
   | non=>exact⟨_,rfl,_,_,_,false,rfl,.non,rfl,_,rfl,bg (q H (Same.refl _))⟩
   | bl=>exact⟨_,rfl,_,_,_,false,rfl,.bl _,rfl,_,rfl,bg (q H (Same.refl _))⟩
   | int=>exact⟨_,rfl,_,_,_,false,rfl,.int _,rfl,_,rfl,bg (q H (Same.refl _))⟩
   | str=>exact⟨_,rfl,_,_,_,false,rfl,.str _,rfl,_,rfl,bg (q H (Same.refl _))⟩
   | tup hl hn h=>exact⟨_,rfl,_,_,_,false,rfl,.tup hl,rfl,_,rfl,bg (q H (Same.refl _))⟩
   | @lst l vs' ts hl hn h=>
    refine⟨_,rfl,_,_,_,true,rfl,.lst hl,rfl,_,rfl,bq ?_⟩
    refine⟨_,rfl,_,_,rfl,.inl ⟨_,SqL.of hl,rfl⟩,_,rfl,pa,p,rfl,hpa,by omega,fun gl gs H1 s1 ngl hgl hgs gall=>?_⟩
    refine⟨_,_,rfl,.inl ⟨_,SqL.of hgl,rfl⟩,rfl,?_⟩
    have qq:=q H1 s1
    have e:(Th.isLst (.lst ts)&&decide ((Th.lst ts).parts.length=(dd p).length+1))=decide (V.int ((vs'.length:Nat):Int)=V.int ((((gs.map V.ref).length:Nat)):Int)):=by
     rw[zZ,hgs]
     show(true&&decide (ts.length=(dd p).length+1))=_
     rw[Bool.true_and]
     by_cases z:vs'.length=(dd p).length+1
     ·rw [decide_eq_true (show ts.length=_ by omega),decide_eq_true (by rw[z])]
     ·rw [decide_eq_false (fun y=>z (by omega)),decide_eq_false (fun y=>z (by injection y with y;omega))]
    rw[e]at qq
    exact qq
  ·rw [zZ]at ge
   have qq:=q H (Same.refl _)
   rw[decide_eq_false (show ¬p.length<c by omega),Ao]at qq
   exact qq
inductive spN_shows_for (K:PySem.W.Frag) (m:Nat) (vs:List V) (H:Hp) (Q:VK) (E:XK):Prop where
 | mk (pa ma ta:Addr) (v:V) (p:List Int) (rs:List Addr) (may:List (List Int)) (U:List Int) (ts:List (Addr×Addr×Str×Int×List Nat)) (t:Th) (f0:vs=[.ref pa,.ref ma,.ref ta,v]) (f1:H pa=some (.lst (p.map V.int))) (f2:May K H ma rs may U) (f3:Ties K H ta ts 100) (f4:bG p) (f5:p.length<=may.length) (f6:may.length<p.length+m) (f7:ThAt H v t) (f8:TBnd t) (f9:∀H',Same H H'->Q (.bl (dJ may (ts.map br) m p t)) H'):spN_shows_for K m vs H Q E
inductive spN_split_shows (K:PySem.W.Frag) (m:Nat) (vs:List V) (H:Hp) (Q:VK) (E:XK):Prop where
 | mk (pa ma ta:Addr) (v:V) (p:List Int) (rs:List Addr) (may:List (List Int)) (U:List Int) (ts:List (Addr×Addr×Str×Int×List Nat)) (r:Th) (f0:vs=[.ref pa,.ref ma,.ref ta,v]) (f1:H pa=some (.lst (p.map V.int))) (f2:May K H ma rs may U) (f3:Ties K H ta ts 100) (f4:bG p) (f5:p.length<=may.length) (f6:may.length<=p.length+m) (f7:ThAt H v r) (f8:TBnd r) (f9:∀H',Same H H'->Q (.bl (l7 may (ts.map br) m p r)) H'):spN_split_shows K m vs H Q E
theorem jH:FnScope ["pattern","may","ties","papers"] ["pattern","may","ties","papers"] (ao dz):=⟨rfl,rfl,rfl,by decide +kernel,rfl,by decide +kernel,by decide +kernel⟩
theorem jI (D:Dfs K mg aF dF) (T:Txt mg) (n:Nat) (Gshows_for:FnOk P w K mg base a8 (10+2*n) (aF 11) (dF 11) ["pattern","may","ties","paper"] (spN_shows_for K n)):FnOk P w K mg base a8 (10+2*n+1) (aF 15) (dF 15) ["pattern","may","ties","papers"] (spN_split_shows K n):=by
 have Ggrown:FnOk P w K mg base a8 2 (aF 6) (dF 6) ["pattern"] (sp_grown K):=jF D T
 have Gis_split:FnOk P w K mg base a8 3 (aF 16) (dF 16) ["pattern","count","papers"] (sp_is_split K):=iE D T
 refine D.split_shows.fn.ok jH (fun vs H Q E h=>?_) (fun cdv A outer s H vs Q E hr h=>?_)
 ·obtain⟨pa,ma,ta,v,p,rs,may,U,ts,r,rfl,_⟩:=h;rfl
 obtain⟨pa,ma,ta,v,p,rs,may,U,ts,r,rfl,hpa,hm,tt,c,hl,hlm,ht,tb,q⟩:=h
 have rk:Nat.add 10 (Nat.mul 2 n)=10+2*n:=rfl
 refine⟨_,(ag (aU (cu (b7 (pc D.is_split Gis_split (hr.mono (by have:=rk;omega)) (aa (pv 0) (aa (ai (bC K) (by rfl) T.z_len boot_len (aa (pv 1) ab)) (aa (pv 3) ab))))))
    (ah (ar bB))
    aA)
   (ah (ar (ai (lG K) (by rfl) T.z_all boot_all (aa (aK ["one","paper","may","ties"] [none,none,some 1,some 2] rfl (oS K rfl T.z_zip (aa (pc D.grown Ggrown (hr.mono (by have:=rk;omega)) (aa (pv 0) ab)) (aa (pv 3) ab))) (fun _=>uy K (n:=2) rfl (aV (au (i:=0) (aB (N:=["one","paper","may","ties"]) (by decide +kernel)) rfl (Or.inl rfl)) (aV (au (i:=1) (aB (N:=["one","paper","may","ties"]) (by decide +kernel)) rfl (Or.inl rfl)) cG))) (fun _=>aM) (fun _=>(pc D.shows_for Gshows_for (hr.mono (by have:=rk;omega)) (aa (pv 0) (aa (pv 2) (aa (pv 3) (aa (pv 1) ab)))))) ((.cons (fun _ e=>by cases e) (.cons (fun _ e=>by cases e) (.cons (fun _ e=>by cases e;exact⟨rfl,rfl⟩) (.cons (fun _ e=>by cases e;exact⟨rfl,rfl⟩) .nil)))))) ab))))),?_⟩
 have m6:=hm.m6
 have dl:=bK p
 have el:((rs.map V.ref).length:Int)=((may.length:Nat):Int):=by rw[zZ,hm.po.len]
 refine⟨_,rfl,_,rfl,_,_,rfl,.inl ⟨_,hm.ls,rfl⟩,_,rfl,pa,v,r,p,may.length,(by rw[el];rfl),hpa,ht,by omega,fun H0 s0=>⟨_,rfl,iz (fun h1=>?_) fun h1=>?_⟩⟩
 ·have qq:=q H0 s0
  unfold l7 at qq
  rw[h1,Ao]at qq
  exact qq
 unfold l7 at q
 rw[h1,Bool.true_and]at q
 obtain⟨h2,h1⟩:=Bool.and_eq_true_iff.mp h1
 obtain⟨h3,h1⟩:=Bool.and_eq_true_iff.mp h1
 have lt:=of_decide_eq_true h2
 have e:=of_decide_eq_true h1
 cases ht with
 | non=>cases h3
 | bl=>cases h3
 | int=>cases h3
 | str=>cases h3
 | tup _ _ _=>cases h3
 | @lst l vs' ps hl' hvn hat=>
  change ∀H',Same H H'->Q (.bl ((Ad ps.length).all fun j=>dJ may (ts.map br) n (p++[(j:Int)]) (ps.getD j .non))) H' at q
  change ps.length=(dd p).length+1 at e
  have gb:∀t∈ps,TBnd t:=by cases tb;assumption
  refine⟨_,rfl,pa,p,rfl,s0 _ _ hpa,by omega,fun gl gs H1 s1 ngl hgl hgs gall=>?_⟩
  have s1:=s0.trans s1
  refine⟨_,rfl,gl,l,_,_,rfl,SqL.of hgl,SqL.of (s1 _ _ hl'),?_⟩
  refine ic (xs:=gs.map V.ref) (ys:=vs') (fun j=> .bl (dJ may (ts.map br) n (p++[(j:Int)]) (ps.getD j .non))) (by rw[zZ];omega) (SqL.of hgl) (SqL.of (s1 _ _ hl')) (by rw[zZ];omega) (fun j x y H2 R hx hy s2 k=>?_) fun acc H2 s2 nacc hacc=>?_
  ·rw [Ae]at hx
   obtain⟨r,hr',rfl⟩:=An.mp hx
   have hj:=(Ac.mp hr').1
   have hjp:j<ps.length:=by omega
   have s02:=s1.trans s2
   have eg:ps.getD j .non=ps[j]:=by rw[Ab,Aa hjp];rfl
   exact⟨_,rfl,_,rfl,_,rfl,_,rfl,r,ma,ta,y,p++[(j:Int)],rs,may,U,ts,ps.getD j .non,rfl,s2 _ _ (gall j r hr').1,hm.same s02,⟨s02.seq tt.ls,fun x hx=>(tt.ea x hx).same s02,tt.ln⟩,cR c (by omega),by simp;omega,by simp;omega,by rw[eg];exact(hat j y ps[j] hy (Aa hjp)).same s02,vp gb j,fun H3 s3=>k H3 s3⟩
  ·rw [zZ]at hacc
   have e3:(Ad gs.length).map (fun(j:Nat)=>V.bl (dJ may (ts.map br) n (p++[(j:Int)]) (ps.getD j .non)))=((Ad ps.length).map fun(j:Nat)=>dJ may (ts.map br) n (p++[(j:Int)]) (ps.getD j .non)).map V.bl:=by
    rw[Au,show gs.length=ps.length by omega];rfl
   rw[e3]at hacc
   refine⟨acc,_,rfl,SqL.of hacc,?_⟩
   rw[List.all_map]
   exact q H2 (s1.trans s2)
def gT (K:PySem.W.Frag):Sp:=spN_shows_for K 7
theorem mv:FnScope ["pattern","may","ties","paper"] ["pattern","may","ties","paper"] (ao eW):=⟨rfl,rfl,rfl,by decide +kernel,rfl,by decide +kernel,by decide +kernel⟩
theorem mw (D:Dfs K mg aF dF) (T:Txt mg):FnOk P w K mg base a8 24 (aF 11) (dF 11) ["pattern","may","ties","paper"] (gT K):=by
 have Gtie_shows:FnOk P w K mg base a8 3 (aF 12) (dF 12) ["pattern","ties","place"] (sp_tie_shows K):=mq D T
 have Gshort_shows:FnOk P w K mg base a8 4 (aF 13) (dF 13) ["pattern","may","blocks"] (sp_short_shows K):=jG D T
 have all:∀n,FnOk P w K mg base a8 (10+2*n) (aF 11) (dF 11) ["pattern","may","ties","paper"] (spN_shows_for K n):=by
  intro n
  induction n with
  | zero=>
   have no:∀vs H Q E,¬spN_shows_for K 0 vs H Q E:=fun vs H Q E h=>by
    obtain⟨pa,ma,ta,v,p,rs,may,U,ts,t,_,_,_,_,_,h1,h2,_⟩:=h
    omega
   exact⟨fun vs H Q E h=>absurd h (no vs H Q E),fun A outer s H args us vs Q E _ _ _ _ h=>absurd h (no vs H Q E)⟩
  | succ n Gshows_for=>
   have Gsplit_shows:=jI D T n Gshows_for
   refine D.shows_for.fn.ok mv (fun vs H Q E h=>?_) (fun cdv A outer s H vs Q E hr h=>?_)
   ·obtain⟨pa,ma,ta,v,p,rs,may,U,ts,t,rfl,_⟩:=h;rfl
   obtain⟨pa,ma,ta,v,p,rs,may,U,ts,t,rfl,hpa,hm,tt,c,hl,hlm,ht,tb,q⟩:=h
   have rk:Nat.add 10 (Nat.mul 2 n+1)=10+(2*n+1):=rfl
   refine aD 4 (ah (ar bB)) ?_
   intro Z0 z0
   refine aD 3 (ag (aU (ay (eqT K hr.units) (aw (eJ K) (pv 3) ae (fun _ _=>rfl)) av (az _))
    (ah (ar (pc D.split_shows Gsplit_shows (hr.mono (by have:=rk;omega)) (aa (pv 0) (aa (pv 1) (aa (pv 2) (aa (aw (eJ K) (pv 3) ae (fun _ _=>rfl)) ab)))))))
    aA) z0) ?_
   intro Z0 z0
   refine aD 2 (ag (aU (ay (eqT K hr.units) (aw (eJ K) (pv 3) ae (fun _ _=>rfl)) av (az _))
    (ah (ar (pc D.short_shows Gshort_shows (hr.mono (by have:=rk;omega)) (aa (pv 0) (aa (pv 1) (aa (aw (eJ K) (pv 3) ae (fun _ _=>rfl)) ab))))))
    aA) z0) ?_
   intro Z0 z0
   refine aD 1 (ag (aU (ay (eqT K hr.units) (aw (eJ K) (pv 3) ae (fun _ _=>rfl)) av (az _))
    (ah (ar (pc D.tie_shows Gtie_shows (hr.mono (by have:=rk;omega)) (aa (pv 0) (aa (pv 2) (aa (aw (eJ K) (pv 3) ae (fun _ _=>rfl)) ab))))))
    aA) z0) ?_
   intro Z0 z0
   refine⟨_,(ag (aU (PW.pt (kc (cu (b7 (ai (lF K) (by rfl) T.z_isinstance boot_isinstance (aa (pv 3) (aa (ja T.z_tuple) ab))))) (gZ (ay rR (ai (bC K) (by rfl) T.z_len boot_len (aa (pv 3) ab)) ae (az _)))))
    (ah (ar bB))
    aA) z0),?_⟩
   have m6:=hm.m6
   cases ht with
   | non=>exact⟨_,rfl,_,_,_,false,rfl,.non,rfl,_,rfl,bq (q H (Same.refl _))⟩
   | bl=>exact⟨_,rfl,_,_,_,false,rfl,.bl _,rfl,_,rfl,bq (q H (Same.refl _))⟩
   | int=>exact⟨_,rfl,_,_,_,false,rfl,.int _,rfl,_,rfl,bq (q H (Same.refl _))⟩
   | str=>exact⟨_,rfl,_,_,_,false,rfl,.str _,rfl,_,rfl,bq (q H (Same.refl _))⟩
   | lst hl _ _=>exact⟨_,rfl,_,_,_,false,rfl,.lst hl,rfl,_,rfl,bq (q H (Same.refl _))⟩
   | @tup tp us us' ht hn hat=>
    have gb:∀t∈us',TBnd t:=by cases tb;assumption
    refine⟨_,rfl,_,_,_,true,rfl,.tup ht,rfl,_,rfl,bg ?_⟩
    refine⟨_,rfl,_,_,rfl,.inr ⟨_,SqT.of ht,rfl⟩,rfl,_,rfl,w4 (fun h2=>?_) fun h2=>?_⟩
    ·have e:dJ may (ts.map br) (n+1) p (.tup us')=false:=by
      unfold dJ
      rw[decide_eq_false (show ¬(Th.tup us').parts.length=2 from fun z=>h2 (by rw[hn];exact congrArg _ z)),Ao,Bool.and_false]
     rw[e]at q
     exact q H (Same.refl _)
    have u2:us.length=2:=by omega
    match us,us',hn,u2,ht,hat,gb,q with
    | [w0,r0],[wt,rt],_,_,ht,hat,gb,q=>
    have hw:=hat 0 w0 wt rfl rfl
    have hr0:=hat 1 r0 rt rfl rfl
    have tb:=gb rt (.tail _ (.head _))
    rw[show dJ may (ts.map br) (n+1) p (.tup [wt,rt])=if wt.isStr "tie" then nO (ts.map br) p rt else if wt.isStr "short" then eR may p rt else if wt.isStr "split" then l7 may (ts.map br) n p rt else false from rfl]at q
    obtain⟨e1,e2⟩:=hw.eqT (K:=K) "tie"
    refine⟨_,rfl,tp,_,_,_,rfl,rfl,SqT.of ht,rfl,⟨_,rfl⟩,e1,_,rfl,?_⟩
    rw[e2]
    refine uz (fun h=>?_) fun h=>?_
    ·rw [if_pos h]at q
     exact⟨_,rfl,_,rfl,_,rfl,tp,_,_,_,rfl,rfl,SqT.of ht,rfl,pa,ta,r0,rt,p,ts,rfl,SqL.of hpa,tt,hr0,q⟩
    rw[if_neg (by rw[h];decide)]at q
    obtain⟨e1,e2⟩:=hw.eqT (K:=K) "short"
    refine⟨_,rfl,tp,_,_,_,rfl,rfl,SqT.of ht,rfl,⟨_,rfl⟩,e1,_,rfl,?_⟩
    rw[e2]
    refine uz (fun h=>?_) fun h=>?_
    ·rw [if_pos h]at q
     exact⟨_,rfl,_,rfl,_,rfl,tp,_,_,_,rfl,rfl,SqT.of ht,rfl,pa,ma,r0,p,rs,may,U,rt,rfl,SqL.of hpa,hm,c,hl,hr0,tb,q⟩
    rw[if_neg (by rw[h];decide)]at q
    obtain⟨e1,e2⟩:=hw.eqT (K:=K) "split"
    refine⟨_,rfl,tp,_,_,_,rfl,rfl,SqT.of ht,rfl,⟨_,rfl⟩,e1,_,rfl,?_⟩
    rw[e2]
    refine uz (fun h=>?_) fun h=>?_
    ·rw [if_pos h]at q
     exact⟨_,rfl,_,rfl,_,rfl,_,rfl,tp,_,_,_,rfl,rfl,SqT.of ht,rfl,pa,ma,ta,r0,p,rs,may,U,ts,rt,rfl,hpa,hm,tt,c,hl,by omega,hr0,tb,q⟩
    rw[if_neg (by rw[h];decide)]at q
    exact q H (Same.refl _)
 exact all 7
inductive sp_may_of (K:PySem.W.Frag) (vs:List V) (H:Hp) (Q:VK) (E:XK):Prop where
 | mk (b:Addr) (rs:List Addr) (rows:List (List (Int×Int))) (f0:vs=[.ref b]) (f1:H b=some (.lst (rs.map V.ref))) (f2:BillL H rs rows) (f3:rows.length<=6) (f4:(∀row∈rows,row.length<=20)) (f5:∀l (ls:List Addr) H',Same H H'->H l=none->H' l=some (.lst (ls.map V.ref))->RowsL H' ls (rows.map fun row=>row.map (·.1))->(∀r∈ls,H r=none)->Q (.ref l) H'):sp_may_of K vs H Q E
theorem rD:FnScope ["bill"] ["bill"] (ao jD):=⟨rfl,rfl,rfl,by decide +kernel,rfl,by decide +kernel,by decide +kernel⟩
theorem rE (D:Dfs K mg aF dF) (T:Txt mg):FnOk P w K mg base a8 1 (aF 17) (dF 17) ["bill"] (sp_may_of K):=by
 refine D.may_of.fn.ok rD (fun vs H Q E h=>?_) (fun cdv A outer s H vs Q E hr h=>?_)
 ·obtain⟨b,rs,rows,rfl,_⟩:=h;rfl
 ·have hu:=a7 hr
  obtain⟨b,rs,rows,rfl,hb,bl,r6,r20,q⟩:=h
  refine⟨_,(ah (ar (aK ["pairs"] [none] rfl (jc K (pv 0)) (fun _=>au (i:=0) (aB (N:=["pairs"]) (by decide +kernel)) rfl (Or.inl rfl)) (fun _=>aM) (fun _=>(aK ["badge","minutes"] [none,none] rfl (jc K (pv 0)) (fun _=>uy K (n:=2) rfl (aV (au (i:=0) (aB (N:=["badge","minutes"]) (by decide +kernel)) rfl (Or.inl rfl)) (aV (au (i:=1) (aB (N:=["badge","minutes"]) (by decide +kernel)) rfl (Or.inl rfl)) cG))) (fun _=>aM) (fun _=>(pv 0)) ((.cons (fun _ e=>by cases e) (.cons (fun _ e=>by cases e) .nil))))) ((.cons (fun _ e=>by cases e) .nil))))),?_⟩
  refine⟨_,rfl,b,rfl,⟨_,SqL.of hb⟩,?_⟩
  have ln:=bl.len
  refine oE (xs:=rs.map V.ref) (fun i=>(rows.getD i []).map fun x=>V.int x.1) (SqL.of hb) (by rw[zZ];omega) (fun i x hx H2 R s2 k=>?_) fun acc ls H2 s2 nacc hacc hls hall hne=>?_
  ·rw [Ae]at hx
   obtain⟨r,hr,rfl⟩:=An.mp hx
   obtain⟨row,hrow,ra⟩:=(bl.same s2).get hr
   have eg:rows.getD i []=row:=by rw[Ab,hrow];rfl
   rw[eg]at k
   have r2:=r20 row (Ah hrow)
   refine⟨_,rfl,r,rfl,⟨_,SqL.of ra.choose_spec.1⟩,?_⟩
   exact c8 (fun x=>V.int x.1) ra (by omega) (fun j x hx H3 R s3 k3=>⟨_,rfl,k3 H3 (Same.refl _)⟩) fun acc2 H3 s3 n3 h3=>k acc2 H3 s3 n3 h3
  ·rw [zZ]at hls
   refine q acc ls H2 s2 nacc hacc (RowsL.of (by rw[zZ];omega) fun i r p e1 e2=>?_) fun r hr=>?_
   ·rw [Ae]at e2
    obtain⟨row,hrow,rfl⟩:=An.mp e2
    have:=(hall i r e1).1
    rw[Ab,hrow]at this
    rw[this,Au];rfl
   ·obtain⟨i,hi,ei⟩:=Ap.mp hr
    exact(hall i r (by rw[Aa hi,ei])).2
inductive sp_added (K:PySem.W.Frag) (vs:List V) (H:Hp) (Q:VK) (E:XK):Prop where
 | mk (pa d:Addr) (row r2:List (Int×Int)) (f0:vs=[.ref pa,.ref d]) (f1:RowAt H pa row) (f2:H d=some (.dK (lZ r2))) (f3:row.length<=1000) (f4:∀l H',Same H H'->H l=none->RowAt H' l (ig row r2)->Q (.ref l) H'):sp_added K vs H Q E
theorem uf:FnScope ["pairs","minutes"] ["pairs","minutes"] (ao mf):=⟨rfl,rfl,rfl,by decide +kernel,rfl,by decide +kernel,by decide +kernel⟩
theorem ug (D:Dfs K mg aF dF) (T:Txt mg):FnOk P w K mg base a8 1 (aF 20) (dF 20) ["pairs","minutes"] (sp_added K):=by
 refine D.added.fn.ok uf (fun vs H Q E h=>?_) (fun cdv A outer s H vs Q E hr h=>?_)
 ·obtain⟨pa,d,row,r2,rfl,_⟩:=h;rfl
 ·have hu:=a7 hr
  obtain⟨pa,d,row,r2,rfl,hr,hd,hl,q⟩:=h
  refine⟨_,(ah (ar (aK ["badge","cost","minutes"] [none,none,some 1] rfl (jc K (pv 0)) (fun _=>uy K (n:=2) rfl (aV (au (i:=0) (aB (N:=["badge","cost","minutes"]) (by decide +kernel)) rfl (Or.inl rfl)) (aV (au (i:=1) (aB (N:=["badge","cost","minutes"]) (by decide +kernel)) rfl (Or.inl rfl)) cG))) (fun _=>dR (wx (wN hu (pv 0) (pv 2)))) (fun _=>(aj (aa (pv 0) (aa (ak aQ (pv 1) (pL hu (pv 2) (pv 0) (fun _ _=>rfl))) ab)))) ((.cons (fun _ e=>by cases e) (.cons (fun _ e=>by cases e) (.cons (fun _ e=>by cases e;exact⟨rfl,rfl⟩) .nil))))))),?_⟩
  obtain⟨ps,h1,h2⟩:=hr
  refine⟨_,rfl,pa,rfl,⟨_,SqL.of h1⟩,?_⟩
  refine jq (ps:=ps) (row:=row) (fun i=>(cz r2 (row.getD i (0,0)).1).isSome) (fun acc i v H=>∃t,v= .ref t/\t≠acc/\bR H t ((row.getD i (0,0)).1,(row.getD i (0,0)).2+(cz r2 (row.getD i (0,0)).1).getD 0)) (SqL.of h1) h2 (by omega) (fun acc i v H H' ⟨t,e,n,h⟩ s=>⟨t,e,n,s _ _ n h⟩) (fun i x hx H2 R s2 k=>?_) (fun acc i x hx hp H2 R s2 n1 n2 k=>?_) fun acc vs H2 s2 nacc hacc hpr=>?_
  ·have eg:row.getD i (0,0)=x:=by rw[Ab,hx];rfl
   rw[eg]at k
   have g:=DGet.k (k:=Sum.inl x.1) (s2 _ _ hd)
   rw[eP]at g
   have ei:((cz r2 x.1).map V.int).isSome=(cz r2 x.1).isSome:=Option.isSome_map
   have kk:=k H2 (Same.refl _)
   rw[<- ei]at kk
   exact⟨_,rfl,_,rfl,d,_,rfl,g,_,rfl,kk⟩
  ·have eg:row.getD i (0,0)=x:=by rw[Ab,hx];rfl
   rw[eg]at k hp
   have g:=DGet.k (k:=Sum.inl x.1) (s2 _ _ hd)
   rw[eP]at g
   obtain⟨c,hc⟩:=A8.mp hp
   rw[hc]at g k
   refine⟨_,rfl,_,rfl,_,rfl,_,rfl,d,.int c,rfl,g,_,_,rfl,rfl,cE,fun t nt=>k _ _ (Same.new nt) ⟨t,rfl,fun z=>n2 (by rw[<- z];exact nt),af⟩⟩
  ·have hpr2:Paired (fun(i:Nat) (v:V)=>∃t,v=V.ref t/\bR H2 t ((row.getD i (0,0)).1,(row.getD i (0,0)).2+(cz r2 (row.getD i (0,0)).1).getD 0)) _ _:=Paired.mapP hpr fun i v ⟨t,e,_,h⟩=>⟨t,e,h⟩
   obtain⟨qs,e1,e2⟩:=qc hpr2
   rw[vV (g:=fun x=>(cz r2 x.1).isSome) (F:=fun x=>(x.1,x.2+(cz r2 x.1).getD 0)) (d:=(0,0))]at e2
   exact q acc H2 s2 nacc ⟨qs,by rw[hacc,e1],e2⟩
inductive sp_sums_of (K:PySem.W.Frag) (vs:List V) (H:Hp) (Q:VK) (E:XK):Prop where
 | mk (b:Nat) (pa ba:Addr) (p:List Int) (rs:List Addr) (rows:List (List (Int×Int))) (f0:vs=[.int ((b:Nat):Int),.ref pa,.ref ba]) (f1:SqL K H pa (p.map V.int)) (f2:H ba=some (.lst (rs.map V.ref))) (f3:BillL H rs rows) (f4:bG p) (f5:b<(dd p).length) (f6:p.length<=rows.length) (f7:rows.length<=6) (f8:(∀row∈rows,row.length<=20/\(aC row).Nodup)) (f9:∀l H',Same H H'->H l=none->RowAt H' l (eK rows (aP p b))->Q (.ref l) H'):sp_sums_of K vs H Q E
theorem cX:FnScope ["block","pattern","bill","steps","step","pairs"] ["block","pattern","bill"] (ao iu):=⟨rfl,rfl,rfl,by decide +kernel,rfl,by decide +kernel,by decide +kernel⟩
theorem pD (D:Dfs K mg aF dF) (T:Txt mg):FnOk P w K mg base a8 2 (aF 19) (dF 19) ["block","pattern","bill"] (sp_sums_of K):=by
 have Gadded:FnOk P w K mg base a8 1 (aF 20) (dF 20) ["pairs","minutes"] (sp_added K):=ug D T
 refine D.sums_of.fn.ok cX (fun vs H Q E h=>?_) (fun cdv A outer s H vs Q E hr h=>?_)
 ·obtain⟨b,pa,ba,p,rs,rows,rfl,_⟩:=h;rfl
 ·have hu:=a7 hr
  obtain⟨b,pa,ba,p,rs,rows,rfl,hp,hba,bl,c,hb,hl,r6,ok,q⟩:=h
  refine aD 3 (ah (ar (pv 5))) ?_
  intro Z0 z0
  refine aD 2 (ag (b8 PassesOwn.never rfl (jc K (eN (yn K) (pv 3) (fk ae) iO)) (au (i:=4) cX.nd rfl (Or.inl rfl))
    (ah (ax (i:=5) cX.nd rfl (Or.inl rfl) (pc D.added Gadded (hr.mono (by decide)) (aa (pv 5) (aa (aL (tK K) (by rfl) T.z_dict PyProof.Rows.boot_dict (aa (aw (cN K) (pv 2) (pv 4) (fun _ _=>rfl)) ab)) ab)))))) z0) ?_
  intro Z0 z0
  refine aD 1 (ag (ax (i:=5) cX.nd rfl (Or.inl rfl) (aL (kE K) (by rfl) T.z_list boot_list (aa (aw (cN K) (pv 2) (aw (cN K) (pv 3) ae (fun _ _=>rfl)) (fun _ _=>rfl)) ab))) z0) ?_
  intro Z0 z0
  refine⟨_,(ag (cw (i₀:=3) cX.nd rfl (Or.inl rfl) ["step","pattern","block"] [none,some 1,some 0] rfl (aZ rfl T.z_range (aa (ai (bC K) (by rfl) T.z_len boot_len (aa (pv 1) ab)) ab)) (fun _=>au (i:=0) (aB (N:=["step","pattern","block"]) (by decide +kernel)) rfl (Or.inl rfl)) (fun _=>dR (ay bY (aw (cN K) (pv 1) (pv 0) (fun _ _=>rfl)) (pv 2) (az _))) (fun _=>(pv 0)) ((.cons (fun _ e=>by cases e) (.cons (fun _ e=>by cases e;exact⟨rfl,rfl⟩) (.cons (fun _ e=>by cases e;exact⟨rfl,rfl⟩) .nil))))) z0),?_⟩
  refine⟨_,rfl,_,_,rfl,.inl ⟨_,hp,rfl⟩,_,rfl,gI _,by rw[zZ];omega,?_⟩
  have e0:(((p.map V.int).length:Nat):Int).toNat=p.length:=by rw[zZ];omega
  rw[e0]
  refine h8 (n:=p.length) (fun i=>decide (p.getD i 0=(b:Int))) (by omega) (fun i hi H3 R s3 k=>?_) (fun i hi H3 R k=>?_) fun sl H3 s3 nsl hsl=>?_
  ·have ei:(0:Int)+(i:Int)=((i:Nat):Int):=by omega
   rw[ei]
   have kk:=k H3 (Same.refl _)
   rw[nE]at kk
   exact⟨_,rfl,_,rfl,pa,_,_,_,rfl,rfl,s3.seq hp,bz hi,_,rfl,rfl,_,rfl,kk⟩
  ·have ei:(0:Int)+(i:Int)=((i:Nat):Int):=by omega
   rw[ei]
   exact⟨_,rfl,k⟩
  have sne:aP p b≠[]:=bL c hb
  have slt:∀i∈aP p b,i<rows.length:=fun i hi=>by have:=(cS.mp hi).1;omega
  have hsl:H3 sl=some (.lst ((aP p b).map fun(i:Nat)=>V.int (i:Int))):=hsl
  have q2:∀l H',Same H3 H'->H3 l=none->RowAt H' l (eK rows (aP p b))->Q (.ref l) H':=fun l H' s n e=>q l H' (s3.trans s) (s3.free n) e
  have hba3:=s3 _ _ hba
  have bl3:=bl.same s3
  clear q
  generalize aP p b=st at hsl sne slt q2
  obtain⟨s0,sr,rfl⟩:=List.exists_cons_of_ne_nil sne
  have at_row:∀i,i<rows.length->rows[i]?=some (rows.getD i []):=fun i hi=>by rw[Ab,Aa hi];rfl
  obtain⟨r0,hr0,ps0,hps0,tps0⟩:=bl3.at (at_row s0 (slt s0 (by simp)))
  refine⟨_,rfl,_,rfl,sl,_,_,_,rfl,rfl,SqL.of hsl,bh (j:=0) (v:=V.int (s0:Int)) rfl,ba,_,_,_,rfl,rfl,SqL.of hba3,bh (by rw[Ae,hr0];rfl),r0,_,rfl,.inl (SqL.of hps0),fun l nl=>?_⟩
  have cf:fN (((s0 :: sr).map fun(i:Nat)=>V.int (i:Int))) (some (1:Int)) none=sr.map fun(i:Nat)=>V.int (i:Int):=jd _ 1
  refine⟨_,rfl,_,rfl,sl,_,rfl,SqL.of (Same.new nl _ _ hsl),fun cc ncc=>?_⟩
  have s34:=(Same.new (o:= .lst (ps0.map V.ref)) nl).to (o:= .lst (sr.map fun(i:Nat)=>V.int (i:Int))) ncc
  have ncl:l≠cc:=fun z=>by rw[<- z,af]at ncc;cases ncc
  have hl4:aG (aG H3 l (.lst (ps0.map V.ref))) cc (.lst (sr.map fun(i:Nat)=>V.int (i:Int))) l=some (.lst (ps0.map V.ref)):=by rw[aE ncl];exact af
  have hcc4:aG (aG H3 l (.lst (ps0.map V.ref))) cc (.lst (sr.map fun(i:Nat)=>V.int (i:Int))) cc=some (.lst (sr.map fun(i:Nat)=>V.int (i:Int))):=af
  rw[cf]
  generalize aG (aG H3 l (.lst (ps0.map V.ref))) cc (.lst (sr.map fun(i:Nat)=>V.int (i:Int)))=H4 at s34 hl4 hcc4
  refine⟨cc,rfl,⟨_,SqL.of hcc4⟩,?_⟩
  refine eL (K:=K) (a:=cc) (xs:=sr.map fun(i:Nat)=>V.int (i:Int)) (fun i σ H5=>∃(po:Addr) (x:Option V),σ=[some (.int ((b:Nat):Int)),some (.ref pa),some (.ref ba),some (.ref sl),x,some (.ref po)]/\Same H4 H5/\H3 po=none/\RowAt H5 po (eK rows (s0 :: sr.take i)))
   ⟨l,none,rfl,Same.refl _,nl,⟨ps0,hl4,by rw[BG];exact tps0.same s34⟩⟩ (fun i σ H5 _ hq__=>by obtain⟨_,_,_,s,_⟩:=hq__;exact s.seq (SqL.of hcc4)) ?_ ?_
  ·rintro i y σ H5 hi ⟨po,x,rfl,s5,npo,hpo⟩
   obtain⟨d,hd,rfl,_⟩:=fQ hi
   have hdl:=slt d (Av _ (Ah hd))
   have s35:=s34.trans s5
   have hrw:=at_row d hdl
   obtain⟨r1,hr1,ps1,hps1,tps1⟩:=(bl3.same s35).at hrw
   have okd:=ok _ (Ah hrw)
   refine⟨_,rfl,_,rfl,_,rfl,ba,_,_,_,rfl,rfl,SqL.of (s35 _ _ hba3),bh (by rw[Ae,hr1];rfl),r1,ps1,lZ (rows.getD d []),rfl,SqL.of hps1,by unfold lZ;rw[zZ,tps1.len],oY okd.2,tps1.kv,fun dd nd=>?_⟩
   have s6:=Same.new (o:= .dK (lZ (rows.getD d []))) nd
   refine⟨po,dd,_,rows.getD d [],rfl,hpo.same s6,af,AC (nL (fun row h=>(ok row h).1) _) (by decide),fun l2 H6 t1 t2 t3=>?_⟩
   refine⟨l2,_,rfl,s5.trans (s6.trans t1),s35.free (s6.free t2),?_⟩
   have et:sr.take (i+1)=sr.take i++[d]:=by rw[Be,hd];rfl
   rw[et,<- List.cons_append,ij (by simp)]
   exact t3
  ·rintro σ H5 ⟨po,x,rfl,s5,npo,hpo⟩
   rw[zZ,A3]at hpo
   exact⟨_,rfl,q2 po H5 (s34.trans s5) npo hpo⟩
inductive sp_sums (K:PySem.W.Frag) (vs:List V) (H:Hp) (Q:VK) (E:XK):Prop where
 | mk (pa ba:Addr) (p:List Int) (rs:List Addr) (rows:List (List (Int×Int))) (f0:vs=[.ref pa,.ref ba]) (f1:SqL K H pa (p.map V.int)) (f2:H ba=some (.lst (rs.map V.ref))) (f3:BillL H rs rows) (f4:bG p) (f5:p.length<=rows.length) (f6:rows.length<=6) (f7:(∀row∈rows,row.length<=20/\(aC row).Nodup)) (f8:∀l ls H',Same H H'->H l=none->H' l=some (.lst (ls.map V.ref))->BillL H' ls (kY rows p)->(∀r∈ls,H r=none/\r≠l)->Q (.ref l) H'):sp_sums K vs H Q E
theorem vy:FnScope ["pattern","bill"] ["pattern","bill"] (ao pw):=⟨rfl,rfl,rfl,by decide +kernel,rfl,by decide +kernel,by decide +kernel⟩
theorem vz (D:Dfs K mg aF dF) (T:Txt mg):FnOk P w K mg base a8 3 (aF 18) (dF 18) ["pattern","bill"] (sp_sums K):=by
 have Gwidth:FnOk P w K mg base a8 1 (aF 5) (dF 5) ["pattern"] (sp_width K):=fb D T
 have Gsums_of:FnOk P w K mg base a8 2 (aF 19) (dF 19) ["block","pattern","bill"] (sp_sums_of K):=pD D T
 refine D.sums.fn.ok vy (fun vs H Q E h=>?_) (fun cdv A outer s H vs Q E hr h=>?_)
 ·obtain⟨pa,ba,p,rs,rows,rfl,_⟩:=h;rfl
 ·have hu:=a7 hr
  obtain⟨pa,ba,p,rs,rows,rfl,hp,hba,bl,c,hl,r6,ok,q⟩:=h
  refine⟨_,(ah (ar (aK ["block","pattern","bill"] [none,some 0,some 1] rfl (aZ rfl T.z_range (aa (pc D.width Gwidth (hr.mono (by decide)) (aa (pv 0) ab)) ab)) (fun _=>au (i:=0) (aB (N:=["block","pattern","bill"]) (by decide +kernel)) rfl (Or.inl rfl)) (fun _=>aM) (fun _=>(pc D.sums_of Gsums_of (hr.mono (by decide)) (aa (pv 0) (aa (pv 1) (aa (pv 2) ab))))) ((.cons (fun _ e=>by cases e) (.cons (fun _ e=>by cases e;exact⟨rfl,rfl⟩) (.cons (fun _ e=>by cases e;exact⟨rfl,rfl⟩) .nil))))))),?_⟩
  have dl:=bK p
  refine⟨_,rfl,pa,p,rfl,hp,by omega,fun H1 s1=>⟨_,rfl,gI _,by omega,?_⟩⟩
  rw[AF]
  refine o4 (n:=(dd p).length) (fun b=>eK rows (aP p b)) (by omega) (fun i hi H2 R s2 k=>?_) fun acc ls H2 s2 nacc hacc bls nls=>?_
  ·have ei:(0:Int)+(i:Int)=((i:Nat):Int):=by omega
   rw[ei]
   have s12:=s1.trans s2
   exact⟨_,rfl,_,rfl,_,rfl,i,pa,ba,p,rs,rows,rfl,s12.seq hp,s12 _ _ hba,bl.same s12,c,hi,hl,r6,ok,fun l H3 s3 nl hl=>k l H3 s3 nl hl⟩
  ·exact q acc ls H2 (s1.trans s2) (s1.free nacc) hacc bls fun r hr=>⟨s1.free (nls r hr).1,(nls r hr).2⟩
inductive spN_bears_for (K:PySem.W.Frag) (m:Nat) (vs:List V) (H:Hp) (Q:VK) (E:XK):Prop where
 | mk (pa b ta:Addr) (bd:Int) (v:V) (p:List Int) (rs:List Addr) (rows:bN) (U:List Int) (ts:List (Addr×Addr×Str×Int×List Nat)) (t:Th) (f0:vs=[.ref pa,.ref b,.ref ta,.int bd,v]) (f1:H pa=some (.lst (p.map V.int))) (f2:H b=some (.lst (rs.map V.ref))) (f3:BillL H rs rows) (f4:QB rows U) (f5:Ties K H ta ts 100) (f6:bG p) (f7:p.length<=rows.length) (f8:rows.length<p.length+m) (f9:ThAt H v t) (f10:TBnd t) (f11:∀H',Same H H'->Q (.bl (cM rows (ts.map br) bd m p t)) H'):spN_bears_for K m vs H Q E
inductive spN_split_bears (K:PySem.W.Frag) (m:Nat) (vs:List V) (H:Hp) (Q:VK) (E:XK):Prop where
 | mk (pa b ta:Addr) (bd:Int) (v:V) (p:List Int) (rs:List Addr) (rows:bN) (U:List Int) (ts:List (Addr×Addr×Str×Int×List Nat)) (r:Th) (f0:vs=[.ref pa,.ref b,.ref ta,.int bd,v]) (f1:H pa=some (.lst (p.map V.int))) (f2:H b=some (.lst (rs.map V.ref))) (f3:BillL H rs rows) (f4:QB rows U) (f5:Ties K H ta ts 100) (f6:bG p) (f7:p.length<=rows.length) (f8:rows.length<=p.length+m) (f9:ThAt H v r) (f10:TBnd r) (f11:∀H',Same H H'->Q (.bl (iV rows (ts.map br) bd m p r)) H'):spN_split_bears K m vs H Q E
theorem jJ:FnScope ["pattern","bill","ties","bound","papers"] ["pattern","bill","ties","bound","papers"] (ao dA):=⟨rfl,rfl,rfl,by decide +kernel,rfl,by decide +kernel,by decide +kernel⟩
theorem jK (D:Dfs K mg aF dF) (T:Txt mg) (n:Nat) (Gbears_for:FnOk P w K mg base a8 (30+2*n) (aF 22) (dF 22) ["pattern","bill","ties","bound","paper"] (spN_bears_for K n)):FnOk P w K mg base a8 (30+2*n+1) (aF 23) (dF 23) ["pattern","bill","ties","bound","papers"] (spN_split_bears K n):=by
 have Ggrown:FnOk P w K mg base a8 2 (aF 6) (dF 6) ["pattern"] (sp_grown K):=jF D T
 have Gis_split:FnOk P w K mg base a8 3 (aF 16) (dF 16) ["pattern","count","papers"] (sp_is_split K):=iE D T
 refine D.split_bears.fn.ok jJ (fun vs H Q E h=>?_) (fun cdv A outer s H vs Q E hr h=>?_)
 ·obtain⟨pa,b,ta,bd,v,p,rs,rows,U,ts,r,rfl,_⟩:=h;rfl
 obtain⟨pa,b,ta,bd,v,p,rs,rows,U,ts,r,rfl,hpa,hb,bl,qb,tt,c,hl,hlm,ht,tb,q⟩:=h
 have rk:Nat.add 30 (Nat.mul 2 n)=30+2*n:=rfl
 refine⟨_,(ag (aU (cu (b7 (pc D.is_split Gis_split (hr.mono (by have:=rk;omega)) (aa (pv 0) (aa (ai (bC K) (by rfl) T.z_len boot_len (aa (pv 1) ab)) (aa (pv 4) ab))))))
    (ah (ar bB))
    aA)
   (ah (ar (ai (lG K) (by rfl) T.z_all boot_all (aa (aK ["one","paper","bill","ties","bound"] [none,none,some 1,some 2,some 3] rfl (oS K rfl T.z_zip (aa (pc D.grown Ggrown (hr.mono (by have:=rk;omega)) (aa (pv 0) ab)) (aa (pv 4) ab))) (fun _=>uy K (n:=2) rfl (aV (au (i:=0) (aB (N:=["one","paper","bill","ties","bound"]) (by decide +kernel)) rfl (Or.inl rfl)) (aV (au (i:=1) (aB (N:=["one","paper","bill","ties","bound"]) (by decide +kernel)) rfl (Or.inl rfl)) cG))) (fun _=>aM) (fun _=>(pc D.bears_for Gbears_for (hr.mono (by have:=rk;omega)) (aa (pv 0) (aa (pv 2) (aa (pv 3) (aa (pv 4) (aa (pv 1) ab))))))) ((.cons (fun _ e=>by cases e) (.cons (fun _ e=>by cases e) (.cons (fun _ e=>by cases e;exact⟨rfl,rfl⟩) (.cons (fun _ e=>by cases e;exact⟨rfl,rfl⟩) (.cons (fun _ e=>by cases e;exact⟨rfl,rfl⟩) .nil))))))) ab))))),?_⟩
 have r6:=qb.r6
 have rl:rs.length=rows.length:=bl.len
 have dl:=bK p
 refine⟨_,rfl,_,rfl,_,rows.length,rfl,.inl ⟨_,SqL.of hb,by rw[zZ,rl]⟩,_,rfl,pa,v,r,p,rows.length,rfl,hpa,ht,r6,fun H0 s0=>⟨_,rfl,iz (fun h1=>?_) fun h1=>?_⟩⟩
 ·have z:=q H0 s0
  unfold iV at z
  rw[h1,Ao]at z
  exact z
 unfold iV at q
 rw[h1,Bool.true_and]at q
 obtain⟨h2,h1⟩:=Bool.and_eq_true_iff.mp h1
 obtain⟨h3,h1⟩:=Bool.and_eq_true_iff.mp h1
 have lt:=of_decide_eq_true h2
 have e:=of_decide_eq_true h1
 cases ht with
 | non=>cases h3
 | bl=>cases h3
 | int=>cases h3
 | str=>cases h3
 | tup _ _ _=>cases h3
 | @lst l vs' ps hl' hvn hat=>
  change ∀H',Same H H'->Q (.bl ((Ad ps.length).all fun j=>cM rows (ts.map br) bd n (p++[(j:Int)]) (ps.getD j .non))) H' at q
  change ps.length=(dd p).length+1 at e
  have gb:∀t∈ps,TBnd t:=by cases tb;assumption
  refine⟨_,rfl,pa,p,rfl,s0 _ _ hpa,by omega,fun gl gs H1 s1 ngl hgl hgs gall=>?_⟩
  have s1:=s0.trans s1
  refine⟨_,rfl,gl,l,_,_,rfl,SqL.of hgl,SqL.of (s1 _ _ hl'),?_⟩
  refine ic (xs:=gs.map V.ref) (ys:=vs') (fun(j:Nat)=> .bl (cM rows (ts.map br) bd n (p++[(j:Int)]) (ps.getD j .non))) (by rw[zZ];omega) (SqL.of hgl) (SqL.of (s1 _ _ hl')) (by rw[zZ];omega) (fun j x y H2 R hx hy s2 k=>?_) fun acc H2 s2 nacc hacc=>?_
  ·rw [Ae]at hx
   obtain⟨r,hr',rfl⟩:=An.mp hx
   have hj:=(Ac.mp hr').1
   have hjp:j<ps.length:=by omega
   have ep:ps.getD j .non=ps[j]:=by rw[Ab,Aa hjp];rfl
   rw[ep]at k
   have s02:=s1.trans s2
   exact⟨_,rfl,_,rfl,_,rfl,_,rfl,_,rfl,r,b,ta,bd,y,p++[(j:Int)],rs,rows,U,ts,ps[j],rfl,s2 _ _ (gall j r hr').1,s02 _ _ hb,bl.same s02,qb,⟨s02.seq tt.ls,fun x hx=>(tt.ea x hx).same s02,tt.ln⟩,cR c (by omega),by simp;omega,by simp;omega,(hat j y ps[j] hy (Aa hjp)).same s02,gb _ (Ax hjp),fun H3 s3=>k H3 s3⟩
  ·rw [zZ,show gs.length=ps.length by omega]at hacc
   refine⟨acc,(Ad ps.length).map fun(j:Nat)=>cM rows (ts.map br) bd n (p++[(j:Int)]) (ps.getD j .non),rfl,SqL.of (by rw[hacc,Au];rfl),?_⟩
   rw[List.all_map]
   exact q H2 (s1.trans s2)
inductive sp_is_within (K:PySem.W.Frag) (vs:List V) (H:Hp) (Q:VK) (E:XK):Prop where
 | mk (x:Int) (d r:Addr) (es row:List (Int×Int)) (f0:vs=[.int x,.ref d,.ref r]) (f1:H d=some (.dK (lZ es))) (f2:RowAt H r row) (f3:row.length<=1000) (f4:∀H',Same H H'->Q (.bl (pb row es x)) H'):sp_is_within K vs H Q E
theorem my:FnScope ["price","dues","pairs"] ["price","dues","pairs"] (ao eZ):=⟨rfl,rfl,rfl,by decide +kernel,rfl,by decide +kernel,by decide +kernel⟩
theorem mz (D:Dfs K mg aF dF) (T:Txt mg):FnOk P w K mg base a8 1 (aF 25) (dF 25) ["price","dues","pairs"] (sp_is_within K):=by
 refine D.is_within.fn.ok my (fun vs H Q E h=>?_) (fun cdv A outer s H vs Q E hr h=>?_)
 ·obtain⟨x,d,r,es,row,rfl,_⟩:=h;rfl
 ·have hu:=a7 hr
  obtain⟨x,d,r,es,row,rfl,hd,hr',l1,q⟩:=h
  refine⟨_,(ah (ar (ai (lG K) (by rfl) T.z_all boot_all (aa (aK ["badge","cost","price","dues"] [none,none,some 0,some 1] rfl (jc K (pv 2)) (fun _=>uy K (n:=2) rfl (aV (au (i:=0) (aB (N:=["badge","cost","price","dues"]) (by decide +kernel)) rfl (Or.inl rfl)) (aV (au (i:=1) (aB (N:=["badge","cost","price","dues"]) (by decide +kernel)) rfl (Or.inl rfl)) cG))) (fun _=>aM) (fun _=>(b5 kh (ak dh (pv 2) (r9 hu (pv 3) (pv 0) ae ⟨rfl,rfl,rfl,rfl⟩)) (pv 1) (az _))) ((.cons (fun _ e=>by cases e) (.cons (fun _ e=>by cases e) (.cons (fun _ e=>by cases e;exact⟨rfl,rfl⟩) (.cons (fun _ e=>by cases e;exact⟨rfl,rfl⟩) .nil)))))) ab)))),?_⟩
  obtain⟨ps,hps,tps⟩:=id hr'
  refine⟨_,rfl,r,rfl,⟨_,SqL.of hps⟩,?_⟩
  refine c8 (fun y=>V.bl (decide (x-du es y.1<=y.2))) hr' (by omega) (fun j y hy H3 R s3 k3=>?_) fun acc H3 s3 n3 h3=>?_
  ·have kk:R (.bl (decide (x-du es y.1<=y.2))) H3:=k3 H3 (Same.refl _)
   have hgd:=DGet.k (k:=Sum.inl y.1) (s3 _ _ hd)
   rw[eP]at hgd
   have ev:((cz es y.1).map V.int).getD (V.int 0)=V.int (du es y.1):=by unfold du;cases cz es y.1<;>rfl
   refine⟨_,rfl,_,rfl,d,rfl,.inl ⟨_,.inl (s3 _ _ hd)⟩,_,rfl,_,hgd,?_⟩
   rw[ev]
   exact⟨_,_,rfl,rfl,_,rfl,_,_,rfl,rfl,kk⟩
  refine⟨acc,row.map fun y=>decide (x-du es y.1<=y.2),rfl,SqL.of (by rw[h3,Au];rfl),?_⟩
  rw[List.all_map]
  exact q H3 s3
inductive sp_is_list_of_prices (K:PySem.W.Frag) (vs:List V) (H:Hp) (Q:VK) (E:XK):Prop where
 | mk (pa:Addr) (v:V) (p:List Int) (r:Th) (f0:vs=[.ref pa,v]) (f1:SqL K H pa (p.map V.int)) (f2:p.length<=6) (f3:ThAt H v r) (f4:TBnd r) (f5:∀H',Same H H'->Q (.bl (iU p r)) H'):sp_is_list_of_prices K vs H Q E
theorem ff:FnScope ["pattern","prices"] ["pattern","prices"] (ao bX):=⟨rfl,rfl,rfl,by decide +kernel,rfl,by decide +kernel,by decide +kernel⟩
theorem fg (D:Dfs K mg aF dF) (T:Txt mg):FnOk P w K mg base a8 2 (aF 26) (dF 26) ["pattern","prices"] (sp_is_list_of_prices K):=by
 have Gis_whole:FnOk P w K mg base a8 1 (aF 0) (dF 0) ["thing"] (sp_is_whole K):=cI D T
 have Gwidth:FnOk P w K mg base a8 1 (aF 5) (dF 5) ["pattern"] (sp_width K):=fb D T
 refine D.is_list_of_prices.fn.ok ff (fun vs H Q E h=>?_) (fun cdv A outer s H vs Q E hr h=>?_)
 ·obtain⟨pa,v,p,r,rfl,_⟩:=h;rfl
 ·have hu:=a7 hr
  obtain⟨pa,v,p,r,rfl,hp,p6,ht,tb,q⟩:=h
  refine⟨_,(ag (aU (PW.pt (kc (cu (b7 (ai (lF K) (by rfl) T.z_isinstance boot_isinstance (aa (pv 1) (aa (iQ T.z_list) ab))))) (gZ (ay rR (ai (bC K) (by rfl) T.z_len boot_len (aa (pv 1) ab)) (pc D.width Gwidth (hr.mono (by decide)) (aa (pv 0) ab)) (az _)))))
    (ah (ar bB))
    aA)
   (ah (ar (ai (lG K) (by rfl) T.z_all boot_all (aa (aK ["price"] [none] rfl (jc K (pv 1)) (fun _=>au (i:=0) (aB (N:=["price"]) (by decide +kernel)) rfl (Or.inl rfl)) (fun _=>aM) (fun _=>(pc D.is_whole Gis_whole (hr.mono (by decide)) (aa (pv 0) ab))) ((.cons (fun _ e=>by cases e) .nil))) ab))))),?_⟩
  cases ht with
  | non=>exact⟨_,rfl,_,_,_,false,rfl,.non,rfl,_,rfl,bq (q H (Same.refl _))⟩
  | bl=>exact⟨_,rfl,_,_,_,false,rfl,.bl _,rfl,_,rfl,bq (q H (Same.refl _))⟩
  | int=>exact⟨_,rfl,_,_,_,false,rfl,.int _,rfl,_,rfl,bq (q H (Same.refl _))⟩
  | str=>exact⟨_,rfl,_,_,_,false,rfl,.str _,rfl,_,rfl,bq (q H (Same.refl _))⟩
  | tup hl hn h=>exact⟨_,rfl,_,_,_,false,rfl,.tup hl,rfl,_,rfl,bq (q H (Same.refl _))⟩
  | @lst lp us ts hlp hn hat=>
  change ∀H',Same H H'->Q (.bl (decide (ts.length=(dd p).length)&&ts.all Th.isInt)) H' at q
  have tl:ts.length<=1000:=by cases tb;assumption
  refine⟨_,rfl,_,_,_,true,rfl,.lst hlp,rfl,_,rfl,bg ?_⟩
  refine⟨_,rfl,_,us.length,rfl,.inl ⟨_,SqL.of hlp,rfl⟩,_,rfl,pa,p,rfl,hp,p6,fun H1 s1=>⟨rfl,_,rfl,w4 (fun ne=>?_) fun e=>?_⟩⟩
  ·have z:=q H1 s1
   rw[decide_eq_false (by omega),Ao]at z
   exact z
  rw[decide_eq_true (by omega),Bool.true_and]at q
  refine⟨_,rfl,lp,rfl,⟨_,SqL.of (s1 _ _ hlp)⟩,?_⟩
  refine bA (xs:=us) (fun _=>true) (fun j=> .bl (ts.getD j .non).isInt) (SqL.of (s1 _ _ hlp)) (by omega) (fun _ _ _ _ _ _ k=>k _ (Same.refl _)) (fun j x hx _ H2 R s2 k=>?_) fun acc H2 s2 nacc hacc=>?_
  ·have hj:=(Ac.mp hx).1
   have hjt:j<ts.length:=by omega
   have e:ts.getD j .non=ts[j]:=by rw[Ab,Aa hjt];rfl
   rw[e]at k
   exact⟨_,rfl,x,ts[j],rfl,(hat j x _ hx (Aa hjt)).same (s1.trans s2),k H2 (Same.refl _)⟩
  rw[AG.mpr (fun _ _=>rfl)]at hacc
  have e1:(Ad us.length).map (fun j=>V.bl (ts.getD j .non).isInt)=(ts.map Th.isInt).map V.bl:=by
   rw[hn,Au]
   exact ie fun i x hx=>by rw[Ab,hx];rfl
  rw[e1]at hacc
  refine⟨acc,_,rfl,SqL.of hacc,?_⟩
  have e2:(ts.map Th.isInt).all id=ts.all Th.isInt:=by rw[List.all_map];rfl
  rw[e2]
  exact q H2 (s1.trans s2)
inductive sp_is_due (K:PySem.W.Frag) (vs:List V) (H:Hp) (Q:VK) (E:XK):Prop where
 | mk (v:V) (t:Th) (f0:vs=[v]) (f1:ThAt H v t) (f2:Q (.bl (gP t)) H):sp_is_due K vs H Q E
theorem rF:FnScope ["pair"] ["pair"] (ao jE):=⟨rfl,rfl,rfl,by decide +kernel,rfl,by decide +kernel,by decide +kernel⟩
theorem rG (D:Dfs K mg aF dF) (T:Txt mg):FnOk P w K mg base a8 3 (aF 28) (dF 28) ["pair"] (sp_is_due K):=by
 have Gis_whole:FnOk P w K mg base a8 1 (aF 0) (dF 0) ["thing"] (sp_is_whole K):=cI D T
 have Gis_badge:FnOk P w K mg base a8 2 (aF 1) (dF 1) ["thing"] (sp_is_badge K):=nU D T
 refine D.is_due.fn.ok rF (fun vs H Q E h=>?_) (fun cdv A outer s H vs Q E hr h=>?_)
 ·obtain⟨v,t,rfl,_⟩:=h;rfl
 ·have hu:=a7 hr
  obtain⟨v,t,rfl,ht,q⟩:=h
  refine⟨_,(ag (aU (PW.pt (kc (cu (b7 (ai (lF K) (by rfl) T.z_isinstance boot_isinstance (aa (pv 0) (aa (ja T.z_tuple) ab))))) (gZ (ay rR (ai (bC K) (by rfl) T.z_len boot_len (aa (pv 0) ab)) ae (az _)))))
    (ah (ar bB))
    aA)
   (ah (ar (dN (pc D.is_badge Gis_badge (hr.mono (by decide)) (aa (aw (eJ K) (pv 0) ae (fun _ _=>rfl)) ab)) (dN (pc D.is_whole Gis_whole (hr.mono (by decide)) (aa (aw (eJ K) (pv 0) ae (fun _ _=>rfl)) ab)) (g7 (b5 rT (aw (eJ K) (pv 0) ae (fun _ _=>rfl)) ae (az _)))))))),?_⟩
  cases ht with
  | non=>exact⟨_,rfl,_,_,_,false,rfl,.non,rfl,_,rfl,bq q⟩
  | bl=>exact⟨_,rfl,_,_,_,false,rfl,.bl _,rfl,_,rfl,bq q⟩
  | int=>exact⟨_,rfl,_,_,_,false,rfl,.int _,rfl,_,rfl,bq q⟩
  | str=>exact⟨_,rfl,_,_,_,false,rfl,.str _,rfl,_,rfl,bq q⟩
  | lst hl _ _=>exact⟨_,rfl,_,_,_,false,rfl,.lst hl,rfl,_,rfl,bq q⟩
  | @tup t us ys ht hn hat=>
   refine⟨_,rfl,_,_,_,true,rfl,.tup ht,rfl,_,rfl,bg ?_⟩
   refine⟨_,rfl,_,us.length,rfl,.inr ⟨_,SqT.of ht,rfl⟩,rfl,_,rfl,w4 (fun ne=>?_) fun e=>?_⟩
   ·have e:gP (.tup ys)=false:=by
     unfold gP
     rw[decide_eq_false (show ¬(Th.tup ys).parts.length=2 from fun z=>ne (by rw[hn];exact congrArg _ z)),Ao,Bool.and_false]
    rw[e]at q
    exact q
   obtain⟨w0,w1,rfl⟩:=iq (show us.length=2 by omega)
   obtain⟨y0,y1,rfl⟩:=iq (hn.symm.trans (show [w0,w1].length=2 from rfl))
   change Q (.bl (pd y0&&(y1.isInt&&decide (y1.num>=0)))) H at q
   have a0:=hat 0 w0 y0 rfl rfl
   have a1:=hat 1 w1 y1 rfl rfl
   refine⟨_,rfl,t,_,_,_,rfl,rfl,SqT.of ht,rfl,w0,y0,rfl,a0,_,rfl,uz (fun z=>?_) fun z=>?_⟩
   ·rw [z,Bool.true_and]at q
    refine⟨_,rfl,t,_,_,_,rfl,rfl,SqT.of ht,rfl,w1,y1,rfl,a1,_,rfl,uz (fun z=>?_) fun z=>?_⟩
    ·rw [z,Bool.true_and]at q
     cases a1<;>first | (cases z;done) | skip
     exact⟨_,rfl,t,_,_,_,rfl,rfl,SqT.of ht,rfl,_,_,rfl,rfl,q⟩
    ·rw [z,Ao]at q
     exact q
   ·rw [z,Ao]at q
    exact q
inductive sp_is_list_of_dues (K:PySem.W.Frag) (vs:List V) (H:Hp) (Q:VK) (E:XK):Prop where
 | mk (v:V) (r:Th) (f0:vs=[v]) (f1:ThAt H v r) (f2:TBnd r) (f3:∀H',Same H H'->Q (.bl (fJ r)) H'):sp_is_list_of_dues K vs H Q E
theorem gj:FnScope ["dues"] ["dues"] (ao cA):=⟨rfl,rfl,rfl,by decide +kernel,rfl,by decide +kernel,by decide +kernel⟩
theorem gn (D:Dfs K mg aF dF) (T:Txt mg):FnOk P w K mg base a8 4 (aF 27) (dF 27) ["dues"] (sp_is_list_of_dues K):=by
 have Gis_rising:FnOk P w K mg base a8 1 (aF 2) (dF 2) ["numbers"] (sp_is_rising K):=gS D T
 have Gis_due:FnOk P w K mg base a8 3 (aF 28) (dF 28) ["pair"] (sp_is_due K):=rG D T
 refine D.is_list_of_dues.fn.ok gj (fun vs H Q E h=>?_) (fun cdv A outer s H vs Q E hr h=>?_)
 ·obtain⟨v,r,rfl,_⟩:=h;rfl
 ·have hu:=a7 hr
  obtain⟨v,r,rfl,ht,tb,q⟩:=h
  refine⟨_,(ag (aU (PW.pt (kc (cu (b7 (ai (lF K) (by rfl) T.z_isinstance boot_isinstance (aa (pv 0) (aa (iQ T.z_list) ab))))) (gZ (cu (b7 (ai (lG K) (by rfl) T.z_all boot_all (aa (aK ["pair"] [none] rfl (jc K (pv 0)) (fun _=>au (i:=0) (aB (N:=["pair"]) (by decide +kernel)) rfl (Or.inl rfl)) (fun _=>aM) (fun _=>(pc D.is_due Gis_due (hr.mono (by decide)) (aa (pv 0) ab))) ((.cons (fun _ e=>by cases e) .nil))) ab)))))))
    (ah (ar bB))
    aA)
   (ah (ar (pc D.is_rising Gis_rising (hr.mono (by decide)) (aa (aK ["badge","due"] [none,none] rfl (jc K (pv 0)) (fun _=>uy K (n:=2) rfl (aV (au (i:=0) (aB (N:=["badge","due"]) (by decide +kernel)) rfl (Or.inl rfl)) (aV (au (i:=1) (aB (N:=["badge","due"]) (by decide +kernel)) rfl (Or.inl rfl)) cG))) (fun _=>aM) (fun _=>(pv 0)) ((.cons (fun _ e=>by cases e) (.cons (fun _ e=>by cases e) .nil)))) ab))))),?_⟩
  have ht0:=ht
  cases ht with
  | non=>exact⟨_,rfl,_,_,_,false,rfl,.non,rfl,_,rfl,bq (q H (Same.refl _))⟩
  | bl=>exact⟨_,rfl,_,_,_,false,rfl,.bl _,rfl,_,rfl,bq (q H (Same.refl _))⟩
  | int=>exact⟨_,rfl,_,_,_,false,rfl,.int _,rfl,_,rfl,bq (q H (Same.refl _))⟩
  | str=>exact⟨_,rfl,_,_,_,false,rfl,.str _,rfl,_,rfl,bq (q H (Same.refl _))⟩
  | tup hl hn h=>exact⟨_,rfl,_,_,_,false,rfl,.tup hl,rfl,_,rfl,bq (q H (Same.refl _))⟩
  | @lst d us ts hd hn hat=>
  change ∀H',Same H H'->Q (.bl (ts.all gP&&gH ((ts.map Th.pair).map (·.1)))) H' at q
  have tl:ts.length<=1000:=by cases tb;assumption
  refine⟨_,rfl,_,_,_,true,rfl,.lst hd,rfl,_,rfl,bg ?_⟩
  refine⟨_,rfl,d,rfl,⟨_,SqL.of hd⟩,?_⟩
  refine bA (xs:=us) (fun _=>true) (fun j=> .bl (gP (ts.getD j .non))) (SqL.of hd) (by omega) (fun _ _ _ _ _ _ k=>k _ (Same.refl _)) (fun j x hx _ H2 R s2 k=>?_) fun acc H2 s2 nacc hacc=>?_
  ·have hj:=(Ac.mp hx).1
   have hjt:j<ts.length:=by omega
   have e:ts.getD j .non=ts[j]:=by rw[Ab,Aa hjt];rfl
   rw[e]at k
   exact⟨_,rfl,x,ts[j],rfl,(hat j x _ hx (Aa hjt)).same s2,k H2 (Same.refl _)⟩
  rw[AG.mpr (fun _ _=>rfl)]at hacc
  have e1:(Ad us.length).map (fun j=>V.bl (gP (ts.getD j .non)))=(ts.map gP).map V.bl:=by
   rw[hn,Au]
   exact ie fun i x hx=>by rw[Ab,hx];rfl
  rw[e1]at hacc
  refine⟨acc,_,rfl,SqL.of hacc,_,rfl,?_⟩
  have e2:(ts.map gP).all id=ts.all gP:=by rw[List.all_map];rfl
  rw[e2]
  refine iz (fun h1=>?_) fun h1=>?_
  ·rw [h1,Ao]at q
   exact q H2 s2
  rw[h1,Bool.true_and]at q
  obtain⟨d',ed,hrow⟩:=ht0.pairs rfl h1
  cases ed
  change RowAt H d (ts.map Th.pair)at hrow
  generalize ees:ts.map Th.pair=es at q hrow
  have el:es.length<=1000:=by rw[<- ees,zZ];exact tl
  refine⟨_,rfl,d,rfl,⟨_,SqL.of (s2 _ _ hd)⟩,?_⟩
  refine c8 (fun x=>V.int x.1) (hrow.same s2) (by omega) (fun j x hx H3 R s3 k3=>⟨_,rfl,k3 H3 (Same.refl _)⟩) fun acc2 H3 s3 n3 h3=>?_
  exact⟨acc2,es.map (·.1),rfl,SqL.of (by rw[h3,Au];rfl),by rw[zZ];omega,fun H4 s4=>q H4 ((s2.trans s3).trans s4)⟩
inductive sp_dear_bears (K:PySem.W.Frag) (vs:List V) (H:Hp) (Q:VK) (E:XK):Prop where
 | mk (pa b:Addr) (v1 v2:V) (bd:Int) (p:List Int) (t1 t2:Th) (rs:List Addr) (rows:bN) (U:List Int) (f0:vs=[.ref pa,.ref b,.int bd,v1,v2]) (f1:SqL K H pa (p.map V.int)) (f2:H b=some (.lst (rs.map V.ref))) (f3:BillL H rs rows) (f4:QB rows U) (f5:bG p) (f6:p.length<=rows.length) (f7:ThAt H v1 t1) (f8:TBnd t1) (f9:ThAt H v2 t2) (f10:TBnd t2) (f11:∀H',Same H H'->Q (.bl (jw rows p bd t1 t2)) H'):sp_dear_bears K vs H Q E
theorem jZ:FnScope ["pattern","bill","bound","prices","dues"] ["pattern","bill","bound","prices","dues"] (ao ee):=⟨rfl,rfl,rfl,by decide +kernel,rfl,by decide +kernel,by decide +kernel⟩
theorem j3 (D:Dfs K mg aF dF) (T:Txt mg):FnOk P w K mg base a8 5 (aF 24) (dF 24) ["pattern","bill","bound","prices","dues"] (sp_dear_bears K):=by
 have Gsums:FnOk P w K mg base a8 3 (aF 18) (dF 18) ["pattern","bill"] (sp_sums K):=vz D T
 have Gis_within:FnOk P w K mg base a8 1 (aF 25) (dF 25) ["price","dues","pairs"] (sp_is_within K):=mz D T
 have Gis_list_of_prices:FnOk P w K mg base a8 2 (aF 26) (dF 26) ["pattern","prices"] (sp_is_list_of_prices K):=fg D T
 have Gis_list_of_dues:FnOk P w K mg base a8 4 (aF 27) (dF 27) ["dues"] (sp_is_list_of_dues K):=gn D T
 refine D.dear_bears.fn.ok jZ (fun vs H Q E h=>?_) (fun cdv A outer s H vs Q E hr h=>?_)
 ·obtain⟨pa,b,v1,v2,bd,p,t1,t2,rs,rows,U,rfl,_⟩:=h;rfl
 ·have hu:=a7 hr
  obtain⟨pa,b,v1,v2,bd,p,t1,t2,rs,rows,U,rfl,hp,hb,bl,qb,c,hl,ht1,tb1,ht2,tb2,q⟩:=h
  refine aD 2 (ah (ar (b5 rT (ak dh (ai (vg K) (by rfl) T.z_sum boot_sum (aa (pv 3) ab)) (ai (vg K) (by rfl) T.z_sum boot_sum (aa (aK ["badge","due"] [none,none] rfl (jc K (pv 4)) (fun _=>uy K (n:=2) rfl (aV (au (i:=0) (aB (N:=["badge","due"]) (by decide +kernel)) rfl (Or.inl rfl)) (aV (au (i:=1) (aB (N:=["badge","due"]) (by decide +kernel)) rfl (Or.inl rfl)) cG))) (fun _=>aM) (fun _=>(pv 1)) ((.cons (fun _ e=>by cases e) (.cons (fun _ e=>by cases e) .nil)))) ab))) (pv 2) (az _)))) ?_
  intro Z0 z0
  refine aD 1 (ag (aU (cu (b7 (ai (lG K) (by rfl) T.z_all boot_all (aa (aK ["price","pairs","dues"] [none,none,some 4] rfl (oS K rfl T.z_zip (aa (pv 3) (aa (pc D.sums Gsums (hr.mono (by decide)) (aa (pv 0) (aa (pv 1) ab))) ab))) (fun _=>uy K (n:=2) rfl (aV (au (i:=0) (aB (N:=["price","pairs","dues"]) (by decide +kernel)) rfl (Or.inl rfl)) (aV (au (i:=1) (aB (N:=["price","pairs","dues"]) (by decide +kernel)) rfl (Or.inl rfl)) cG))) (fun _=>aM) (fun _=>(pc D.is_within Gis_within (hr.mono (by decide)) (aa (pv 0) (aa (aL (tK K) (by rfl) T.z_dict PyProof.Rows.boot_dict (aa (pv 2) ab)) (aa (pv 1) ab))))) ((.cons (fun _ e=>by cases e) (.cons (fun _ e=>by cases e) (.cons (fun _ e=>by cases e;exact⟨rfl,rfl⟩) .nil))))) ab))))
    (ah (ar bB))
    aA) z0) ?_
  intro Z0 z0
  refine⟨_,(ag (aU (PW.pt (kc (cu (b7 (pc D.is_list_of_prices Gis_list_of_prices (hr.mono (by decide)) (aa (pv 0) (aa (pv 3) ab))))) (gZ (cu (b7 (pc D.is_list_of_dues Gis_list_of_dues (hr.mono (by decide)) (aa (pv 4) ab)))))))
    (ah (ar bB))
    aA) z0),?_⟩
  have r6:=qb.r6
  have dl:=bK p
  refine⟨_,rfl,_,rfl,pa,v1,p,t1,rfl,hp,by omega,ht1,tb1,fun H1 s1=>⟨_,rfl,iz (fun h1=>?_) fun h1=>?_⟩⟩
  ·have z:=q H1 s1
   unfold jw at z
   rw[h1,Ao,Ao]at z
   exact z
  refine⟨_,rfl,v2,t2,rfl,ht2.same s1,tb2,fun H2 s2=>⟨_,rfl,iz (fun h2=>?_) fun h2=>?_⟩⟩
  ·have z:=q H2 (s1.trans s2)
   unfold jw at z
   rw[h2,Bool.and_false,Ao]at z
   exact z
  unfold jw at q
  rw[h1,h2,Bool.true_and,Bool.true_and]at q
  unfold iU at h1
  obtain⟨g1,g2⟩:=Bool.and_eq_true_iff.mp h1
  obtain⟨g2,g3⟩:=Bool.and_eq_true_iff.mp g2
  unfold fJ at h2
  obtain⟨g4,g5⟩:=Bool.and_eq_true_iff.mp h2
  obtain⟨g5,g6⟩:=Bool.and_eq_true_iff.mp g5
  obtain⟨lp,pr,rfl,hlp,epr⟩:=ht1.ints g1 g3
  obtain⟨ld,rfl,hld⟩:=ht2.pairs g4 g5
  have pl:pr.length=(dd p).length:=by rw[<- epr,zZ];exact of_decide_eq_true g2
  have l2:t2.parts.length<=1000:=by
   cases tb2<;>first | (cases g4;done) | skip
   assumption
  have l2:(t2.parts.map Th.pair).length<=1000:=by rw[zZ];exact l2
  rw[epr]at q
  generalize t2.parts.map Th.pair=es at q hld g6 l2
  have nde:(es.map (·.1)).Nodup:=gG (nG.mp g6)
  have s02:=s1.trans s2
  refine⟨_,rfl,_,rfl,_,rfl,pa,b,p,rs,rows,rfl,s02.seq hp,s02 _ _ hb,bl.same s02,c,hl,r6,qb.ok,fun sl ls H3 s3 nsl hsl bls _=>?_⟩
  have s03:=s02.trans s3
  have lsl:ls.length=(dd p).length:=by rw[bls.len,qX]
  refine⟨lp,sl,_,_,rfl,SqL.of (s03 _ _ hlp),SqL.of hsl,?_⟩
  refine ic (xs:=pr.map V.int) (ys:=ls.map V.ref) (fun j=> .bl (pb (eK rows (aP p j)) es (pr.getD j 0))) (by rw[zZ,zZ];omega) (SqL.of (s03 _ _ hlp)) (SqL.of hsl) (by rw[zZ];omega) (fun j x y H4 R hx hy s4 k=>?_) fun acc H4 s4 nacc hacc=>?_
  ·obtain⟨d,hd,rfl,ed⟩:=dU hx
   rw[Ae]at hy
   obtain⟨r,hr',rfl⟩:=An.mp hy
   obtain⟨row,hrow,ra⟩:=(bls.same s4).get hr'
   have jl:=(Ac.mp hr').1
   have er:row=eK rows (aP p j):=by rw[<- ju (rows:=rows) (by omega),xO hrow]
   rw[ed,<- er]at k
   obtain⟨dp,hd4,tps⟩:=hld.same (s03.trans s4)
   have rl20:row.length<=20:=by rw[er];exact nL (fun row h=>(qb.ok row h).1) _
   refine⟨_,rfl,_,rfl,ld,dp,lZ es,rfl,SqL.of hd4,by unfold lZ;rw[zZ,tps.len],oY nde,tps.kv,fun dd' ndd=>?_⟩
   have s5:=Same.new (o:= .dK (lZ es)) ndd
   exact⟨_,rfl,d,dd',r,es,row,rfl,af,ra.same s5,by omega,fun H5 s5'=>k H5 (s5.trans s5')⟩
  have e1:(Ad (pr.map V.int).length).map (fun j=>V.bl (pb (eK rows (aP p j)) es (pr.getD j 0)))=((Ad (dd p).length).map fun j=>pb (eK rows (aP p j)) es (pr.getD j 0)).map V.bl:=by rw[zZ,pl,Au];rfl
  rw[e1]at hacc
  have s04:=s03.trans s4
  refine⟨acc,_,rfl,SqL.of hacc,_,rfl,?_⟩
  have e2:((Ad (dd p).length).map fun j=>pb (eK rows (aP p j)) es (pr.getD j 0)).all id=jv rows p pr es:=by rw[List.all_map];rfl
  rw[e2]
  refine iz (fun h3=>?_) fun h3=>?_
  ·have z:=q H4 s04
   rw[h3,Ao]at z
   exact z
  refine⟨_,rfl,lp,pr,rfl,SqL.of (s04 _ _ hlp),?_⟩
  obtain⟨dp,hd4,tps⟩:=hld.same s04
  refine⟨_,rfl,ld,rfl,⟨_,SqL.of hd4⟩,?_⟩
  refine c8 (fun x=>V.int x.2) ⟨dp,hd4,tps⟩ (by omega) (fun j x hx H5 R s5 k5=>⟨_,rfl,k5 H5 (Same.refl _)⟩) fun acc2 H5 s5 n5 h5=>?_
  refine⟨acc2,es.map (·.2),rfl,SqL.of (by rw[h5,Au];rfl),_,_,rfl,rfl,_,rfl,_,_,rfl,rfl,?_⟩
  have z:=q H5 (s04.trans s5)
  rw[h3,Bool.true_and]at z
  exact z
def gU (K:PySem.W.Frag):Sp:=spN_bears_for K 7
theorem mB:FnScope ["pattern","bill","ties","bound","paper"] ["pattern","bill","ties","bound","paper"] (ao eY):=⟨rfl,rfl,rfl,by decide +kernel,rfl,by decide +kernel,by decide +kernel⟩
theorem mC (D:Dfs K mg aF dF) (T:Txt mg):FnOk P w K mg base a8 44 (aF 22) (dF 22) ["pattern","bill","ties","bound","paper"] (gU K):=by
 have Gshows_for:FnOk P w K mg base a8 24 (aF 11) (dF 11) ["pattern","may","ties","paper"] (gT K):=mw D T
 have Gmay_of:FnOk P w K mg base a8 1 (aF 17) (dF 17) ["bill"] (sp_may_of K):=rE D T
 have Gdear_bears:FnOk P w K mg base a8 5 (aF 24) (dF 24) ["pattern","bill","bound","prices","dues"] (sp_dear_bears K):=j3 D T
 have all:∀n,FnOk P w K mg base a8 (30+2*n) (aF 22) (dF 22) ["pattern","bill","ties","bound","paper"] (spN_bears_for K n):=by
  intro n
  induction n with
  | zero=>
   have no:∀vs H Q E,¬spN_bears_for K 0 vs H Q E:=fun vs H Q E h=>by
    obtain⟨pa,b,ta,bd,v,p,rs,rows,U,ts,t,_,_,_,_,_,_,_,h1,h2,_⟩:=h
    omega
   exact⟨fun vs H Q E h=>absurd h (no vs H Q E),fun A outer s H args us vs Q E _ _ _ _ h=>absurd h (no vs H Q E)⟩
  | succ n Gbears_for=>
   have Gsplit_bears:=jK D T n Gbears_for
   refine D.bears_for.fn.ok mB (fun vs H Q E h=>?_) (fun cdv A outer s H vs Q E hr h=>?_)
   ·obtain⟨pa,b,ta,bd,v,p,rs,rows,U,ts,t,rfl,_⟩:=h;rfl
   obtain⟨pa,b,ta,bd,v,p,rs,rows,U,ts,t,rfl,hpa,hb,bl,qb,tt,c,hl,hlm,ht,tb,q⟩:=h
   have rk:Nat.add 30 (Nat.mul 2 n+1)=30+(2*n+1):=rfl
   refine aD 3 (ah (ar (pc D.shows_for Gshows_for (hr.mono (by have:=rk;omega)) (aa (pv 0) (aa (pc D.may_of Gmay_of (hr.mono (by have:=rk;omega)) (aa (pv 1) ab)) (aa (pv 2) (aa (pv 4) ab))))))) ?_
   intro Z0 z0
   refine aD 2 (ag (aU (PW.pt (iW (ay bY (ai (bC K) (by rfl) T.z_len boot_len (aa (pv 4) ab)) ae (az _)) (gu (ay (eqT K hr.units) (aw (eJ K) (pv 4) ae (fun _ _=>rfl)) av (az _)))))
    (ah (ar (pc D.split_bears Gsplit_bears (hr.mono (by have:=rk;omega)) (aa (pv 0) (aa (pv 1) (aa (pv 2) (aa (pv 3) (aa (aw (eJ K) (pv 4) ae (fun _ _=>rfl)) ab))))))))
    aA) z0) ?_
   intro Z0 z0
   refine aD 1 (ag (aU (PW.pt (iW (ay bY (ai (bC K) (by rfl) T.z_len boot_len (aa (pv 4) ab)) ae (az _)) (gu (ay (eqT K hr.units) (aw (eJ K) (pv 4) ae (fun _ _=>rfl)) av (az _)))))
    (ah (ar (pc D.dear_bears Gdear_bears (hr.mono (by have:=rk;omega)) (aa (pv 0) (aa (pv 1) (aa (pv 3) (aa (aw (eJ K) (pv 4) ae (fun _ _=>rfl)) (aa (aw (eJ K) (pv 4) ae (fun _ _=>rfl)) ab))))))))
    aA) z0) ?_
   intro Z0 z0
   refine⟨_,(ag (aU (cu (b7 (ai (lF K) (by rfl) T.z_isinstance boot_isinstance (aa (pv 4) (aa (ja T.z_tuple) ab)))))
    (ah (ar bB))
    aA) z0),?_⟩
   have r6:=qb.r6
   have mbl:=tW rows
   have mup:∀p∈cY rows,p.Pairwise (· < ·):=fun p hp=>by
    obtain⟨row,hr,rfl⟩:=AI.mp hp
    exact qb.up row hr
   have msub:∀p∈cY rows,∀z∈p,z∈U:=fun p hp z hz=>by
    obtain⟨row,hr,rfl⟩:=AI.mp hp
    obtain⟨x,hx,rfl⟩:=AI.mp hz
    exact qb.sub row hr x hx
   have ht0:=ht
   cases ht with
   | non=>exact⟨_,rfl,_,_,_,false,rfl,.non,rfl,_,rfl,bq (q H (Same.refl _))⟩
   | bl=>exact⟨_,rfl,_,_,_,false,rfl,.bl _,rfl,_,rfl,bq (q H (Same.refl _))⟩
   | int=>exact⟨_,rfl,_,_,_,false,rfl,.int _,rfl,_,rfl,bq (q H (Same.refl _))⟩
   | str=>exact⟨_,rfl,_,_,_,false,rfl,.str _,rfl,_,rfl,bq (q H (Same.refl _))⟩
   | lst hl _ _=>exact⟨_,rfl,_,_,_,false,rfl,.lst hl,rfl,_,rfl,bq (q H (Same.refl _))⟩
   | @tup tp us us' ht hn hat=>
    have gb:∀t∈us',TBnd t:=by cases tb;assumption
    refine⟨_,rfl,_,_,_,true,rfl,.tup ht,rfl,_,rfl,bg ?_⟩
    rw[show cM rows (ts.map br) bd (n+1) p (.tup us')=(if us'.length=3/\(us'.getD 0 .non).isStr "dear"=true then jw rows p bd (us'.getD 1 .non) (us'.getD 2 .non)else if us'.length=2/\(us'.getD 0 .non).isStr "split"=true then iV rows (ts.map br) bd n p (us'.getD 1 .non)else dJ (cY rows) (ts.map br) 7 p (.tup us'))from rfl]at q
    refine⟨_,rfl,_,us.length,rfl,.inr ⟨_,SqT.of ht,rfl⟩,rfl,_,rfl,lI (fun e3=>?_) fun n3=>?_⟩
    ·obtain⟨w0,w1,w2,rfl⟩:=nP (show us.length=3 by omega)
     obtain⟨y0,y1,y2,rfl⟩:=nP (hn.symm.trans (show [w0,w1,w2].length=3 from rfl))
     obtain⟨e1,e2⟩:=(hat 0 w0 y0 rfl rfl).eqT (K:=K) "dear"
     refine⟨_,rfl,tp,_,_,_,rfl,rfl,SqT.of ht,rfl,⟨_,rfl⟩,e1,_,rfl,?_⟩
     rw[e2]
     refine uz (fun h=>?_) fun h=>?_
     ·rw [if_pos ⟨rfl,h⟩]at q
      exact⟨_,rfl,_,rfl,_,rfl,_,rfl,tp,_,_,_,rfl,rfl,SqT.of ht,rfl,_,rfl,tp,_,_,_,rfl,rfl,SqT.of ht,rfl,pa,b,w1,w2,bd,p,y1,y2,rs,rows,U,rfl,SqL.of hpa,hb,bl,qb,c,hl,hat 1 w1 y1 rfl rfl,gb _ (.tail _ (.head _)),hat 2 w2 y2 rfl rfl,gb _ (.tail _ (.tail _ (.head _))),q⟩
     rw[if_neg (fun z=>by rw[show([y0,y1,y2].getD 0 Th.non)=y0 from rfl,h]at z;cases z.2),if_neg (fun z=>by cases z.1)]at q
     refine⟨_,rfl,_,3,rfl,.inr ⟨_,SqT.of ht,rfl⟩,rfl,_,rfl,bg ?_⟩
     refine bg ?_
     refine⟨_,rfl,_,rfl,b,rs,rows,rfl,hb,bl,r6,fun row hr=>(qb.ok row hr).1,fun ml ms H1 s1 nml hml rm _=>?_⟩
     have rm:RowsL H1 ms (cY rows):=rm
     exact⟨_,rfl,_,rfl,pa,ml,ta,.ref tp,p,ms,cY rows,U,ts,.tup [y0,y1,y2],rfl,s1 _ _ hpa,⟨SqL.of hml,rm.pools,mup,msub,by omega,qb.u26⟩,⟨s1.seq tt.ls,fun x hx=>(tt.ea x hx).same s1,tt.ln⟩,c,by omega,by omega,ht0.same s1,tb,fun H2 s2=>q H2 (s1.trans s2)⟩
    refine bg ?_
    rw[if_neg (fun z=>n3 (by rw[hn];exact congrArg _ z.1))]at q
    refine⟨_,rfl,_,us.length,rfl,.inr ⟨_,SqT.of ht,rfl⟩,rfl,_,rfl,lI (fun e2=>?_) fun n2=>?_⟩
    ·obtain⟨w0,w1,rfl⟩:=iq (show us.length=2 by omega)
     obtain⟨y0,y1,rfl⟩:=iq (hn.symm.trans (show [w0,w1].length=2 from rfl))
     obtain⟨e1,e2⟩:=(hat 0 w0 y0 rfl rfl).eqT (K:=K) "split"
     refine⟨_,rfl,tp,_,_,_,rfl,rfl,SqT.of ht,rfl,⟨_,rfl⟩,e1,_,rfl,?_⟩
     rw[e2]
     refine uz (fun h=>?_) fun h=>?_
     ·rw [if_pos ⟨rfl,h⟩]at q
      exact⟨_,rfl,_,rfl,_,rfl,_,rfl,_,rfl,tp,_,_,_,rfl,rfl,SqT.of ht,rfl,pa,b,ta,bd,w1,p,rs,rows,U,ts,y1,rfl,hpa,hb,bl,qb,tt,c,hl,by omega,hat 1 w1 y1 rfl rfl,gb _ (.tail _ (.head _)),q⟩
     rw[if_neg (fun z=>by rw[show([y0,y1].getD 0 Th.non)=y0 from rfl,h]at z;cases z.2)]at q
     refine⟨_,rfl,_,rfl,b,rs,rows,rfl,hb,bl,r6,fun row hr=>(qb.ok row hr).1,fun ml ms H1 s1 nml hml rm _=>?_⟩
     have rm:RowsL H1 ms (cY rows):=rm
     exact⟨_,rfl,_,rfl,pa,ml,ta,.ref tp,p,ms,cY rows,U,ts,.tup [y0,y1],rfl,s1 _ _ hpa,⟨SqL.of hml,rm.pools,mup,msub,by omega,qb.u26⟩,⟨s1.seq tt.ls,fun x hx=>(tt.ea x hx).same s1,tt.ln⟩,c,by omega,by omega,ht0.same s1,tb,fun H2 s2=>q H2 (s1.trans s2)⟩
    refine bg ?_
    rw[if_neg (fun z=>n2 (by rw[hn];exact congrArg _ z.1))]at q
    refine⟨_,rfl,_,rfl,b,rs,rows,rfl,hb,bl,r6,fun row hr=>(qb.ok row hr).1,fun ml ms H1 s1 nml hml rm _=>?_⟩
    have rm:RowsL H1 ms (cY rows):=rm
    exact⟨_,rfl,_,rfl,pa,ml,ta,.ref tp,p,ms,cY rows,U,ts,.tup us',rfl,s1 _ _ hpa,⟨SqL.of hml,rm.pools,mup,msub,by omega,qb.u26⟩,⟨s1.seq tt.ls,fun x hx=>(tt.ea x hx).same s1,tt.ln⟩,c,by omega,by omega,ht0.same s1,tb,fun H2 s2=>q H2 (s1.trans s2)⟩
 exact all 7
inductive sp_bears (K:PySem.W.Frag) (vs:List V) (H:Hp) (Q:VK) (E:XK):Prop where
 | mk (b ta:Addr) (bd:Int) (v:V) (rs:List Addr) (rows:bN) (U:List Int) (ts:List (Addr×Addr×Str×Int×List Nat)) (t:Th) (f0:vs=[.ref b,.ref ta,.int bd,v]) (f1:H b=some (.lst (rs.map V.ref))) (f2:BillL H rs rows) (f3:QB rows U) (f4:Ties K H ta ts 100) (f5:ThAt H v t) (f6:TBnd t) (f7:∀H',Same H H'->Q (.bl (cM rows (ts.map br) bd 7 [] t)) H'):sp_bears K vs H Q E
theorem uh:FnScope ["bill","ties","bound","paper"] ["bill","ties","bound","paper"] (ao mh):=⟨rfl,rfl,rfl,by decide +kernel,rfl,by decide +kernel,by decide +kernel⟩
theorem uj (D:Dfs K mg aF dF) (T:Txt mg):FnOk P w K mg base a8 45 (aF 21) (dF 21) ["bill","ties","bound","paper"] (sp_bears K):=by
 have Gbears_for:FnOk P w K mg base a8 44 (aF 22) (dF 22) ["pattern","bill","ties","bound","paper"] (gU K):=mC D T
 refine D.bears.fn.ok uh (fun vs H Q E h=>?_) (fun cdv A outer s H vs Q E hr h=>?_)
 ·obtain⟨b,ta,bd,v,rs,rows,U,ts,t,rfl,_⟩:=h;rfl
 ·have hu:=a7 hr
  obtain⟨b,ta,bd,v,rs,rows,U,ts,t,rfl,hb,bl,qb,tt,ht,tb,q⟩:=h
  refine⟨_,(ah (ar (pc D.bears_for Gbears_for (hr.mono (by decide)) (aa (aq ab) (aa (pv 0) (aa (pv 1) (aa (pv 2) (aa (pv 3) ab)))))))),?_⟩
  have r6:=qb.r6
  refine⟨cE,fun e ne=>?_⟩
  have s1:=Same.new (o:= .lst []) ne
  exact⟨_,rfl,_,rfl,_,rfl,_,rfl,e,b,ta,bd,v,[],rs,rows,U,ts,t,rfl,af,s1 _ _ hb,bl.same s1,qb,⟨s1.seq tt.ls,fun x hx=>(tt.ea x hx).same s1,tt.ln⟩,fo,Az _,by simp;omega,ht.same s1,tb,fun H' s=>q H' (s1.trans s)⟩
inductive sp_law_cell (K:PySem.W.Frag) (vs:List V) (H:Hp) (Q:VK) (E:XK):Prop where
 | mk (a:Addr) (ns:List Int) (k:Nat) (f0:vs=[.ref a,.int ((k:Nat):Int)]) (f1:SqL K H a (ns.map V.int)) (f2:Q (.int (ns.getD k 0)) H):sp_law_cell K vs H Q E
theorem nY:FnScope ["script","k"] ["script","k"] (ao fY):=⟨rfl,rfl,rfl,by decide +kernel,rfl,by decide +kernel,by decide +kernel⟩
theorem iF (D:Dfs K mg aF dF) (T:Txt mg):FnOk P w K mg base a8 1 (aF 29) (dF 29) ["script","k"] (sp_law_cell K):=by
 refine D.law_cell.fn.ok nY (fun vs H Q E h=>?_) (fun cdv A outer s H vs Q E hr h=>?_)
 ·obtain⟨a,ns,k,rfl,_⟩:=h;rfl
 ·have hu:=a7 hr
  obtain⟨a,ns,k,rfl,hS,q⟩:=h
  refine⟨_,(ag (aU (ay fD (pv 1) (ai (bC K) (by rfl) T.z_len boot_len (aa (pv 0) ab)) (az _))
    (ah (ar (aw (cN K) (pv 0) (pv 1) (fun _ _=>rfl))))
    aA)
   (ah (ar ae))),?_⟩
  refine⟨_,rfl,_,rfl,_,_,rfl,.inl ⟨_,hS,rfl⟩,_,_,rfl,rfl,_,rfl,sy (fun h=>?_) fun h=>?_⟩
  ·rw [zZ]at h
   exact⟨_,rfl,_,rfl,a,_,_,_,rfl,rfl,hS,bz (by omega),q⟩
  ·rw [zZ]at h
   have e:ns.getD k 0=0:=by rw[Ab,AY (by omega)];rfl
   rw[e]at q
   exact q
inductive sp_law_entries (K:PySem.W.Frag) (vs:List V) (H:Hp) (Q:VK) (E:XK):Prop where
 | mk (a:Addr) (ns:List Int) (sz:Nat) (f0:vs=[.ref a,.int ((sz:Nat):Int)]) (f1:SqL K H a (ns.map V.int)) (f2:ns.length<=200) (f3:0<sz) (f4:sz<=1000) (f5:∀l (cs:List Int) H',Same H H'->H l=none->H' l=some (.lst (cs.map V.int))->cs.length=sz->Q (.ref l) H'):sp_law_entries K vs H Q E
theorem vA (c:Int):0<=c%2147483647/\c%2147483647<2147483647:=⟨Bu c (by decide),Bs c (by decide)⟩
theorem be:FnScope ["script","size","mixed","cell","found","k"] ["script","size"] (ao dB):=⟨rfl,rfl,rfl,by decide +kernel,rfl,by decide +kernel,by decide +kernel⟩
theorem jL (D:Dfs K mg aF dF) (T:Txt mg):FnOk P w K mg base a8 1 (aF 30) (dF 30) ["script","size"] (sp_law_entries K):=by
 refine D.law_entries.fn.ok be (fun vs H Q E h=>?_) (fun cdv A outer s H vs Q E hr h=>?_)
 ·obtain⟨a,ns,sz,rfl,_⟩:=h;rfl
 ·have hu:=a7 hr
  obtain⟨a,ns,sz,rfl,hS,hl,sz0,sz1,q⟩:=h
  refine aD 5 (ah (ar (pv 4))) ?_
  intro Z0 z0
  refine aD 4 (ag (b8 PassesOwn.never rfl (ke rfl T.z_range (aa ae (aa (ai (bC K) (by rfl) T.z_len boot_len (aa (pv 0) ab)) ab))) (au (i:=5) be.nd rfl (Or.inl rfl))
    (ah (iX (aw (cN K) (pv 0) (pv 5) (fun _ _=>rfl)) (oj (pv 4) (ak aY (ak dh (pv 5) ae) (pv 1)) i7)))) z0) ?_
  intro Z0 z0
  refine aD 3 (ag (b8 PassesOwn.never rfl (aZ rfl T.z_range (aa (pv 1) ab)) (au (i:=5) be.nd rfl (Or.inl rfl))
    (ag (ax (i:=2) be.nd rfl (Or.inl rfl) (ak aY (ak aQ (ak aQ (ak aQ (ak fM (pv 2) (pv 2)) (ak fM ae (pv 2))) (pv 5)) ae) ae))
    (ah (cZ (gx PySem.F.plainAttrs_list PySem.F.slot_list_append PySem.F.type_list_append bT (pv 4) (aa (pv 2) ab)))))) z0) ?_
  intro Z0 z0
  refine aD 2 (ag (ax (i:=4) be.nd rfl (Or.inl rfl) (aq ab)) z0) ?_
  intro Z0 z0
  refine aD 1 (ag (b8 PassesOwn.never rfl (jc K (eN (yn K) (pv 0) iO (fk ae))) (au (i:=3) be.nd rfl (Or.inl rfl))
    (ah (ax (i:=2) be.nd rfl (Or.inl rfl) (ak aY (ak aQ (ak fM (pv 2) ae) (pv 3)) ae)))) z0) ?_
  intro Z0 z0
  refine⟨_,(ag (ax (i:=2) be.nd rfl (Or.inl rfl) ae) z0),?_⟩
  refine⟨_,rfl,_,rfl,a,_,rfl,hS,fun c nc=>?_⟩
  have ecut:fN (ns.map V.int) none (some 4)=(ns.take 4).map V.int:=by rw[List.map_take];exact wZ _ 4
  rw[ecut]
  have s1:=Same.new (o:= .lst ((ns.take 4).map V.int)) nc
  have hc1:aG H c (.lst ((ns.take 4).map V.int)) c=some (.lst ((ns.take 4).map V.int)):=af
  generalize aG H c (.lst ((ns.take 4).map V.int))=H1 at s1 hc1
  refine⟨c,rfl,⟨_,SqL.of hc1⟩,?_⟩
  refine eL (K:=K) (a:=c) (xs:=(ns.take 4).map V.int) (fun i σ Hx=>∃(m:Int) (y:Option V),σ=[some (.ref a),some (.int sz),some (.int m),y,none,none]/\Same H1 Hx/\0<=m/\m<2147483647) ⟨1,none,rfl,Same.refl _,by decide,by decide⟩ (fun i σ Hx _ hq__=>by obtain⟨_,_,_,s,_⟩:=hq__;exact s.seq (SqL.of hc1)) ?_ ?_
  ·rintro i y σ Hx hi ⟨m,y',rfl,sx,m0,m1⟩
   obtain⟨d,hd,rfl,ed⟩:=dU hi
   exact⟨_,rfl,_,_,rfl,rfl,.inl ⟨by omega,by omega⟩,_,rfl,_,_,rfl,rfl,_,_,rfl,rfl,(show(0:Int)<2147483647 by decide),_,_,rfl,sx,(vA _).1,(vA _).2⟩
  rintro σ H2 ⟨m,y',rfl,s12,m0,m1⟩
  refine⟨cE,fun l nl=>?_⟩
  refine⟨_,rfl,_,rfl,gI _,by omega,?_⟩
  have e0:((sz:Int)).toNat=sz:=by omega
  rw[e0]
  have s02:=s1.trans s12
  have nl0:=s02.free nl
  refine b9 (n:=sz) (fun i σ Hx=>∃(m:Int) (x:Option V) (cs:List Int),σ=[some (.ref a),some (.int sz),some (.int m),y',some (.ref l),x]/\Same H Hx/\Hx l=some (.lst (cs.map V.int))/\cs.length=i/\0<=m/\m<2147483647) ⟨m,none,[],rfl,s02.to nl,af,rfl,m0,m1⟩ ?_ ?_
  ·rintro i σ Hx hi ⟨m,x,cs,rfl,sx,hlx,lc,m0,m1⟩
   refine⟨_,rfl,_,rfl,_,_,rfl,rfl,.inl ⟨by omega,by omega⟩,_,rfl,_,_,rfl,rfl,.inl ⟨by decide,by decide⟩,_,_,rfl,rfl,_,rfl,_,_,rfl,rfl,_,_,rfl,rfl,_,_,rfl,rfl,(show(0:Int)<2147483647 by decide),?_⟩
   refine⟨_,rfl,.inl ⟨rfl,_,SqL.of hlx⟩,_,rfl,l,_,_,rfl,rfl,hlx,oi (by rw[zZ];omega),?_⟩
   exact⟨_,_,cs++[_],rfl,sx.put nl0,by rw[af,Aw];rfl,by rw[Ai,Aq,lc],(vA _).1,(vA _).2⟩
  rintro σ H3 ⟨m,x,cs,rfl,s3,hl3,lc,_,_⟩
  refine⟨_,rfl,_,_,rfl,.inl ⟨_,s3.seq hS,rfl⟩,_,_,rfl,⟨by decide,by decide,by omega,by rw[zZ];omega⟩,?_⟩
  rw[zZ]
  refine b9 (n:=((ns.length:Int)-4).toNat) (fun i σ Hx=>∃(x:Option V) (cs:List Int),σ=[some (.ref a),some (.int sz),some (.int m),y',some (.ref l),x]/\Same H Hx/\Hx l=some (.lst (cs.map V.int))/\cs.length=sz) ⟨_,cs,rfl,s3,hl3,lc⟩ ?_ ?_
  ·rintro i σ Hx hi ⟨x,cs,rfl,sx,hlx,lc⟩
   have e1:(4:Int)+(i:Int)=((4+i:Nat):Int):=by omega
   obtain⟨n,hn,en⟩:=oW ((4:Int)+(i:Int)-4) sz0
   have hi4:4+i<ns.length:=by omega
   refine⟨_,rfl,_,rfl,a,_,_,_,rfl,rfl,sx.seq hS,(by rw[e1];exact bz hi4),_,rfl,_,rfl,_,_,rfl,rfl,_,rfl,_,_,rfl,rfl,(show(0:Int)<(sz:Int) by omega),l,_,_,n,rfl,rfl,hlx,(by rw[en];exact jr (by rw[zZ];omega)),?_⟩
   exact⟨_,cs.set n _,rfl,sx.put nl0,by rw[af,List.map_set],by rw[Bp,lc]⟩
  rintro σ H4 ⟨x,cs,rfl,s4,hl4,lc⟩
  exact⟨_,rfl,q l cs H4 s4 nl0 hl4 lc⟩
inductive sp_law_badges (K:PySem.W.Frag) (vs:List V) (H:Hp) (Q:VK) (E:XK):Prop where
 | mk (a:Addr) (cs:List Int) (gap hi:Int) (f0:vs=[.ref a,.int gap,.int hi]) (f1:SqL K H a (cs.map V.int)) (f2:cs.length<=20) (f3:0<gap) (f4:gap<=50000000000000000) (f5:∀l (bs:List Int) H',Same H H'->H l=none->H' l=some (.lst (bs.map V.int))->bs.length=cs.length->bs.Pairwise (· < ·)->(∀b∈bs,1<=b/\b<=10^18)->Q (.ref l) H'):sp_law_badges K vs H Q E
theorem bZ:FnScope ["cells","gap","high","found","badge","cell"] ["cells","gap","high"] (ao eA):=⟨rfl,rfl,rfl,by decide +kernel,rfl,by decide +kernel,by decide +kernel⟩
theorem j4 (D:Dfs K mg aF dF) (T:Txt mg):FnOk P w K mg base a8 1 (aF 31) (dF 31) ["cells","gap","high"] (sp_law_badges K):=by
 refine D.law_badges.fn.ok bZ (fun vs H Q E h=>?_) (fun cdv A outer s H vs Q E hr h=>?_)
 ·obtain⟨a,cs,gap,hi,rfl,_⟩:=h;rfl
 ·have hu:=a7 hr
  obtain⟨a,cs,gap,hi,rfl,hS,hl,g0,g1,q⟩:=h
  refine aD 4 (ah (ar (pv 3))) ?_
  intro Z0 z0
  refine aD 3 (ag (aU (ay bY (pv 2) ae (az _))
    (ah (ar (aK ["one"] [none] rfl (xn K rfl T.z_reversed (aa (pv 3) ab)) (fun _=>au (i:=0) (aB (N:=["one"]) (by decide +kernel)) rfl (Or.inl rfl)) (fun _=>aM) (fun _=>(ak dh (ak aQ (ak dP ae ae) ae) (pv 0))) ((.cons (fun _ e=>by cases e) .nil)))))
    aA) z0) ?_
  intro Z0 z0
  refine aD 2 (ag (b8 PassesOwn.never rfl (jc K (pv 0)) (au (i:=5) bZ.nd rfl (Or.inl rfl))
    (ag (ax (i:=4) bZ.nd rfl (Or.inl rfl) (ak aQ (ak aQ (pv 4) ae) (ak aY (pv 5) (pv 1))))
    (ah (cZ (gx PySem.F.plainAttrs_list PySem.F.slot_list_append PySem.F.type_list_append bT (pv 3) (aa (pv 4) ab)))))) z0) ?_
  intro Z0 z0
  refine aD 1 (ag (ax (i:=4) bZ.nd rfl (Or.inl rfl) ae) z0) ?_
  intro Z0 z0
  refine⟨_,(ag (ax (i:=3) bZ.nd rfl (Or.inl rfl) (aq ab)) z0),?_⟩
  refine⟨cE,fun l nl=>?_⟩
  refine⟨_,rfl,a,rfl,⟨_,(Same.new nl).seq hS⟩,?_⟩
  refine eL (K:=K) (a:=a) (xs:=cs.map V.int) (fun i σ Hx=>∃(b:Int) (y:Option V) (bs:List Int),σ=[some (.ref a),some (.int gap),some (.int hi),some (.ref l),some (.int b),y]/\Same H Hx/\Hx l=some (.lst (bs.map V.int))/\bs.length=i/\bs.Pairwise (· < ·)/\(∀x∈bs,1<=x/\x<=b)/\0<=b/\b<=(i:Int)*gap) ⟨0,none,[],rfl,Same.new nl,af,rfl,.nil,(fun _ z=>by cases z),Int.le_refl _,by simp⟩ (fun i σ Hx _ hq__=>by obtain⟨_,_,_,_,s,_⟩:=hq__;exact s.seq hS) ?_ ?_
  ·rintro i y σ Hx hix ⟨b,y',bs,rfl,sx,hlx,lb,up,hb,b0,b1⟩
   obtain⟨d,hd,rfl,ed⟩:=dU hix
   have w1:=Bu d (show gap≠0 by omega)
   have w2:=Bs d g0
   have hi':=(Ac.mp hd).1
   refine⟨_,rfl,_,_,rfl,rfl,_,rfl,_,rfl,_,_,rfl,rfl,g0,_,_,rfl,rfl,?_⟩
   refine⟨_,rfl,.inl ⟨rfl,_,SqL.of hlx⟩,_,rfl,l,_,_,rfl,rfl,hlx,oi (by rw[zZ];omega),?_⟩
   have em:((i+1:Nat):Int)*gap=(i:Int)*gap+gap:=by rw[Int.natCast_add,Int.add_mul];simp
   refine⟨_,_,bs++[b+1+d%gap],rfl,sx.put nl,by rw[af,Aw];rfl,by rw[Ai,Aq,lb],pY up (fun x hx=>by have:=hb x hx;omega),fun x hx=>?_,by omega,by omega⟩
   rcases AH.mp hx with z | z
   ·have:=hb x z;omega
   ·rw [Am.mp z];omega
  rintro σ H1 ⟨b,y',bs,rfl,s1,hl1,lb,up,hb,b0,b1⟩
  rw[zZ]at lb b1
  have b18:b<=1000000000000000000:=by
   have h1:(cs.length:Int)*gap<=20*gap:=Int.mul_le_mul_of_nonneg_right (by omega) (by omega)
   omega
  refine⟨_,rfl,rfl,_,rfl,lI (fun e=>?_) fun ne=>?_⟩
  ·refine⟨_,rfl,l,_,rfl,SqL.of hl1,?_⟩
   refine tL (fun x=> .int (10^18+1-x)) (SqL.of hl1) (by omega) (fun i x hx H2 R s2 k=>?_) fun acc H2 s2 nacc hacc=>?_
   ·walk_at "go"
    exact k H2 (Same.refl _)
   ·have em:bs.reverse.map (fun x=>V.int (10^18+1-x))=(bs.reverse.map fun x=>(10^18+1-x:Int)).map V.int:=by rw[Au];rfl
    rw[em]at hacc
    refine q acc _ H2 (s1.trans s2) (s1.free nacc) hacc (by rw[zZ,List.length_reverse,lb]) (xo _ up) fun x hx=>?_
    obtain⟨z,hz,rfl⟩:=AI.mp hx
    have:=hb z (List.mem_reverse.mp hz)
    omega
  ·refine⟨_,rfl,q l bs H1 s1 nl hl1 lb up fun x hx=>?_⟩
   have:=hb x hx
   omega
inductive sp_law_bill (K:PySem.W.Frag) (vs:List V) (H:Hp) (Q:VK) (E:XK):Prop where
 | mk (a b:Addr) (cs bs:List Int) (dn tp:Int) (cn:Nat) (f0:vs=[.ref a,.ref b,.int dn,.int tp,.int ((cn:Nat):Int)]) (f1:SqL K H a (cs.map V.int)) (f2:SqL K H b (bs.map V.int)) (f3:bs.Pairwise (· < ·)) (f4:0<tp) (f5:cn<=6) (f6:bs.length<=20) (f7:cn*bs.length<=cs.length) (f8:∀l rs rows H',Same H H'->H l=none->H' l=some (.lst (rs.map V.ref))->BillL H' rs rows->rows.length=cn->(∀r∈rs,H r=none)->(∀row∈rows,RowOk bs tp row)->Q (.ref l) H'):sp_law_bill K vs H Q E
theorem ck:FnScope ["cells","badges","dense","top","count","bill","k","pairs","i","cell"] ["cells","badges","dense","top","count"] (ao fZ):=⟨rfl,rfl,rfl,by decide +kernel,rfl,by decide +kernel,by decide +kernel⟩
theorem nZ (D:Dfs K mg aF dF) (T:Txt mg):FnOk P w K mg base a8 1 (aF 32) (dF 32) ["cells","badges","dense","top","count"] (sp_law_bill K):=by
 refine D.law_bill.fn.ok ck (fun vs H Q E h=>?_) (fun cdv A outer s H vs Q E hr h=>?_)
 ·obtain⟨a,b,cs,bs,dn,tp,cn,rfl,_⟩:=h;rfl
 ·have hu:=a7 hr
  obtain⟨a,b,cs,bs,dn,tp,cn,rfl,hA,hB,up,tp0,c6,b20,cb,q⟩:=h
  refine aD 2 (ah (ar (pv 5))) ?_
  intro Z0 z0
  refine aD 1 (ag (b8 PassesOwn.never rfl (aZ rfl T.z_range (aa (pv 4) ab)) (au (i:=6) ck.nd rfl (Or.inl rfl))
    (ag (ax (i:=7) ck.nd rfl (Or.inl rfl) (aq ab))
    (ag (b8 PassesOwn.never rfl (aZ rfl T.z_range (aa (ai (bC K) (by rfl) T.z_len boot_len (aa (pv 1) ab)) ab)) (au (i:=8) ck.nd rfl (Or.inl rfl))
     (ag (ax (i:=9) ck.nd rfl (Or.inl rfl) (aw (cN K) (pv 0) (ak aQ (ak fM (pv 6) (ai (bC K) (by rfl) T.z_len boot_len (aa (pv 1) ab))) (pv 8)) (fun _ _=>rfl)))
     (ah (aU (ay kh (ak aY (pv 9) ae) (pv 2) (az _))
      (ah (cZ (gx PySem.F.plainAttrs_list PySem.F.slot_list_append PySem.F.type_list_append bT (pv 7) (aa (aj (aa (aw (cN K) (pv 1) (pv 8) (fun _ _=>rfl)) (aa (ak aY (ak bI (pv 9) ae) (pv 3)) ab))) ab))))
      aA))))
    (ah (cZ (gx PySem.F.plainAttrs_list PySem.F.slot_list_append PySem.F.type_list_append bT (pv 5) (aa (pv 7) ab))))))) z0) ?_
  intro Z0 z0
  refine⟨_,(ag (ax (i:=5) ck.nd rfl (Or.inl rfl) (aq ab)) z0),?_⟩
  refine⟨cE,fun l nl=>?_⟩
  refine⟨_,rfl,_,rfl,gI _,by omega,?_⟩
  rw[AF]
  refine b9 (n:=cn) (fun k σ Hx=>∃(x1 x2 x3 x4:Option V) (rs:List Addr) (rows:List (List (Int×Int))),σ=[some (.ref a),some (.ref b),some (.int dn),some (.int tp),some (.int cn),some (.ref l),x1,x2,x3,x4]/\Same H Hx/\Hx l=some (.lst (rs.map V.ref))/\BillL Hx rs rows/\rows.length=k/\(∀r∈rs,H r=none/\r≠l)/\∀row∈rows,RowOk bs tp row) ⟨none,none,none,none,[],[],rfl,Same.new nl,af,.nil,rfl,(fun _ z=>by cases z),fun _ z=>by cases z⟩ ?_ ?_
  ·rintro k σ Hk hk ⟨x1,x2,x3,x4,rs,rows,rfl,sk,hlk,bk,lr,nr,ok⟩
   refine⟨cE,fun p np=>?_⟩
   have hlp:l≠p:=aX hlk np
   have skp:=Same.new (o:= .lst []) np
   refine⟨_,rfl,_,_,rfl,.inl ⟨_,(sk.trans skp).seq hB,rfl⟩,_,rfl,gI _,by rw[zZ];omega,?_⟩
   have e0:(((bs.map V.int).length:Nat):Int).toNat=bs.length:=by rw[zZ];omega
   rw[e0]
   refine b9 (n:=bs.length) (fun i σ Hx=>∃(x3 x4:Option V) (ps:List Addr) (row:List (Int×Int)),σ=[some (.ref a),some (.ref b),some (.int dn),some (.int tp),some (.int cn),some (.ref l),some (.int (0+(k:Int))),some (.ref p),x3,x4]/\Same Hk Hx/\Hx p=some (.lst (ps.map V.ref))/\TupsL Hx ps row/\(row.map (·.1)).Pairwise (· < ·)/\(∀x∈row,x.1∈bs.take i/\0<=x.2/\x.2<tp)/\row.length<=i) ⟨x3,x4,[],[],rfl,skp,af,.nil,.nil,(fun _ z=>by cases z),Az _⟩ ?_ ?_
   ·rintro i σ Hx hi ⟨x3,x4,ps,row,rfl,sx,hpx,tx,ux,ix,lx⟩
    have s0x:=sk.trans sx
    have hki:k*bs.length+i<cs.length:=by
     have h1:k*bs.length+bs.length<=cn*bs.length:=by
      have:=Nat.mul_le_mul_right bs.length (show k+1<=cn from hk)
      rw[Nat.add_mul,Nat.one_mul]at this
      exact this
     omega
    have kb:k*bs.length<=120:=Nat.mul_le_mul (show k<=6 by omega) b20
    have ei:((0:Int)+(k:Int))*((bs.map V.int).length:Int)+(0+(i:Int))=((k*bs.length+i:Nat):Int):=by rw[zZ,Int.natCast_add,Int.natCast_mul,Int.zero_add,Int.zero_add]
    have hbi:bs[i]?=some bs[i]:=Aa hi
    refine⟨_,rfl,_,rfl,_,rfl,_,_,rfl,.inl ⟨_,s0x.seq hB,rfl⟩,_,_,rfl,rfl,.inl ⟨by omega,by omega⟩,_,rfl,_,_,rfl,rfl,a,_,_,_,rfl,rfl,s0x.seq hA,(by rw[ei];exact bz hki),?_⟩
    refine⟨_,rfl,_,_,rfl,rfl,(show(0:Int)<5 by decide),_,rfl,_,_,rfl,rfl,_,rfl,sy (fun le=>?_) fun _=>?_⟩
    ·refine⟨_,rfl,.inl ⟨rfl,_,SqL.of hpx⟩,_,rfl,_,rfl,b,_,_,_,rfl,rfl,s0x.seq hB,(by rw[show(0:Int)+(i:Int)=((i:Nat):Int) by omega];exact bz hi),_,rfl,_,_,rfl,rfl,(show dD _ 5 from⟨by decide,by decide⟩),_,rfl,_,_,rfl,rfl,tp0,cE,fun t nt=>?_⟩
     have hpt:p≠t:=aX hpx nt
     have stx:=Same.new (o:= .tup [.int (bs.getD i 0),.int (cs.getD (k*bs.length+i) 0/5%tp)]) nt
     have hpx':=stx _ _ hpx
     refine⟨p,_,_,rfl,rfl,hpx',oi (by rw[zZ,tx.len];omega),?_⟩
     have w1:=Bu (cs.getD (k*bs.length+i) 0/5) (show tp≠0 by omega)
     have w2:=Bs (cs.getD (k*bs.length+i) 0/5) tp0
     have eg:bs.getD i 0=bs[i]:=by rw[Ab,hbi];rfl
     refine⟨_,_,ps++[t],row++[(bs.getD i 0,cs.getD (k*bs.length+i) 0/5%tp)],rfl,(sx.trans stx).put np,by rw[af,Aw];rfl,TupsL.but (bM (tx.same stx) (show bR _ t (bs.getD i 0,cs.getD (k*bs.length+i) 0/5%tp)from af)) hpx',?_,?_,by rw[Ai,Aq];omega⟩
     ·rw [Aw]
      refine pY ux fun y hy=>?_
      obtain⟨x,hx,rfl⟩:=AI.mp hy
      show x.1<bs.getD i 0
      rw[eg]
      exact vi up hbi _ (ix x hx).1
     ·intro x hx
      rw[Be,hbi]
      rcases AH.mp hx with z | z
      ·exact⟨Bc _ (ix x z).1,(ix x z).2⟩
      ·rw [Am.mp z]
       exact⟨AE _ (by rw[eg];simp),w1,w2⟩
    ·refine⟨_,_,ps,row,rfl,sx,hpx,tx,ux,fun x hx=>⟨?_,(ix x hx).2⟩,by omega⟩
     rw[Be]
     exact Bc _ (ix x hx).1
   rintro σ H2 ⟨x3,x4,ps,row,rfl,s2,hp2,t2,u2,i2,l2⟩
   rw[A3]at i2
   have hl2:=s2 _ _ hlk
   refine⟨_,rfl,.inl ⟨rfl,_,SqL.of hl2⟩,_,rfl,l,_,_,rfl,rfl,hl2,oi (by rw[zZ,bk.len];omega),?_⟩
   have nrl:l∉rs:=fun z=>(nr l z).2 rfl
   refine⟨_,_,_,_,rs++[p],rows++[row],rfl,(sk.trans s2).put nl,by rw[af,Aw];rfl,?_,by rw[Ai,Aq,lr],?_,?_⟩
   ·exact bM ((bk.same s2).but hl2 nrl) (RowAt.but ⟨ps,hp2,t2⟩ hl2 fun z=>hlp z.symm)
   ·intro r hr
    rcases AH.mp hr with z | z
    ·exact nr r z
    ·rw [Am.mp z];exact⟨sk.free np,fun z=>hlp z.symm⟩
   ·intro x hx
    rcases AH.mp hx with z | z
    ·exact ok x z
    ·rw [Am.mp z];exact⟨u2,i2,l2⟩
  rintro σ H2 ⟨x1,x2,x3,x4,rs,rows,rfl,s2,hl2,b2,lr,nr,ok⟩
  exact⟨_,rfl,q l rs rows H2 s2 nl hl2 b2 lr (fun r hr=>(nr r hr).1) ok⟩
theorem vB (c:Int):∃d:Int,lz [V.int 2,V.int 3,V.int 6] (c%3)=some (.int d)/\0<d/\d<=6:=by
 rcases(show c%3=0\/c%3=1\/c%3=2 by omega)with e | e | e
 ·rw [e];exact⟨2,rfl,by decide,by decide⟩
 ·rw [e];exact⟨3,rfl,by decide,by decide⟩
 ·rw [e];exact⟨6,rfl,by decide,by decide⟩
inductive sp_law_ties (K:PySem.W.Frag) (vs:List V) (H:Hp) (Q:VK) (E:XK):Prop where
 | mk (c:Addr) (cs:List Int) (cn:Nat) (f0:vs=[.ref c,.int (cn:Int)]) (f1:SqL K H c (cs.map V.int)) (f2:cs.length<=200) (f3:1<=cn) (f4:cn<=6) (f5:∀(l:Addr) (ts:List (Addr×Addr×Str×Int×List Nat)) (H':Hp),Same H H'->H l=none->H' l=some (.lst (ts.map fun x=>V.ref x.1))->(∀x∈ts,TieT H' x/\TieG cn x)->ts.length=cs.length/3->Q (.ref l) H'):sp_law_ties K vs H Q E
theorem cJ:FnScope ["cells","count","ties","k","steps"] ["cells","count"] (ao gc):=⟨rfl,rfl,rfl,by decide +kernel,rfl,by decide +kernel,by decide +kernel⟩
theorem n4 (D:Dfs K mg aF dF) (T:Txt mg):FnOk P w K mg base a8 1 (aF 33) (dF 33) ["cells","count"] (sp_law_ties K):=by
 refine D.law_ties.fn.ok cJ (fun vs H Q E h=>?_) (fun cdv A outer s H vs Q E hr h=>?_)
 ·obtain⟨c,cs,cn,rfl,_⟩:=h;rfl
 ·have hu:=a7 hr
  obtain⟨c,cs,cn,rfl,hc,c200,c1,c6,q⟩:=h
  refine aD 2 (ah (ar (pv 2))) ?_
  intro Z0 z0
  refine aD 1 (ag (b8 PassesOwn.never rfl (o8 rfl T.z_range (aa ae (aa (ak dh (ai (bC K) (by rfl) T.z_len boot_len (aa (pv 0) ab)) ae) (aa ae ab)))) (au (i:=3) cJ.nd rfl (Or.inr rfl))
    (ag (cw (i₀:=4) cJ.nd rfl (Or.inl rfl) ["step","cells","k"] [none,some 0,some 3] rfl (aZ rfl T.z_range (aa (pv 1) ab)) (fun _=>au (i:=0) (aB (N:=["step","cells","k"]) (by decide +kernel)) rfl (Or.inl rfl)) (fun _=>dR (ay bY (ak aY (ak wG (aw (cN K) (pv 1) (pv 2) (fun _ _=>rfl)) (pv 0)) ae) ae (az _))) (fun _=>(pv 0)) ((.cons (fun _ e=>by cases e) (.cons (fun _ e=>by cases e;exact⟨rfl,rfl⟩) (.cons (fun _ e=>by cases e;exact⟨rfl,rfl⟩) .nil)))))
    (pN (aU (ay (zN K hr.units) (pv 4) (aq ab) (az _))
     (ah (ax (i:=4) cJ.nd rfl (Or.inl rfl) (aq (aa (ak aY (aw (cN K) (pv 0) (ak aQ (pv 3) ae) (fun _ _=>rfl)) (pv 1)) ab))))
     aA)
    (ah (aU (ay bY (ak aY (ak bI (aw (cN K) (pv 0) (ak aQ (pv 3) ae) (fun _ _=>rfl)) ae) ae) ae (az _))
     (ah (cZ (gx PySem.F.plainAttrs_list PySem.F.slot_list_append PySem.F.type_list_append bT (pv 2) (aa (aj (aa av (aa (ai (qm rfl) (by rfl) T.z_min boot_min (aa ae (aa (ak aQ ae (ak aY (aw (cN K) (pv 0) (ak aQ (pv 3) ae) (fun _ _=>rfl)) (ak aQ (ai (bC K) (by rfl) T.z_len boot_len (aa (pv 4) ab)) ae))) ab))) (aa (aL fE (by rfl) T.z_tuple boot_tuple (aa (pv 4) ab)) ab)))) ab))))
     (ah (cZ (gx PySem.F.plainAttrs_list PySem.F.slot_list_append PySem.F.type_list_append bT (pv 2) (aa (aj (aa av (aa (ak aQ ae (ak aY (aw (cN K) (pv 0) (ak aQ (pv 3) ae) (fun _ _=>rfl)) (aw (cN K) (aq (aa ae (aa ae (aa ae ab)))) (ak aY (ak bI (aw (cN K) (pv 0) (ak aQ (pv 3) ae) (fun _ _=>rfl)) ae) ae) (fun _ _=>rfl)))) (aa (aL fE (by rfl) T.z_tuple boot_tuple (aa (pv 4) ab)) ab)))) ab))))))))) z0) ?_
  intro Z0 z0
  refine⟨_,(ag (ax (i:=2) cJ.nd rfl (Or.inl rfl) (aq ab)) z0),?_⟩
  refine⟨cE,fun l nl=>?_⟩
  have sn:=Same.new (o:= .lst []) nl
  refine⟨_,rfl,_,cs.length,rfl,.inl ⟨_,sn.seq hc,by rw[zZ]⟩,_,_,rfl,rfl,0,(cs.length:Int)-2,3,rfl,by decide,by decide,by omega,by omega,by decide,by decide,?_⟩
  obtain⟨n,en,hn⟩:∃n:Nat,(if(0:Int)<(cs.length:Int)-2 then((cs.length:Int)-2-0-1)/3+1 else 0).toNat=n/\n=cs.length/3:=⟨_,rfl,by split<;>omega⟩
  rw[en]
  refine sL (n:=n) (fun i σ Hx=>∃(x y:Option V) (ts:List (Addr×Addr×Str×Int×List Nat)),σ=[some (.ref c),some (.int (cn:Int)),some (.ref l),x,y]/\Same H Hx/\Hx l=some (.lst (ts.map fun x=>V.ref x.1))/\(∀x∈ts,TieT Hx x/\TieG cn x)/\ts.length=i) ⟨none,none,[],rfl,sn,af,(fun _ z=>by cases z),rfl⟩ ?_ ?_
  ·rintro i σ Hx hi ⟨x,y,ts,rfl,sx,hl,tt,tl⟩
   have i3:3*i+2<cs.length:=by omega
   have ek:(0:Int)+(i:Int)*3=((3*i:Nat):Int):=by omega
   rw[ek]
   have a0:lz (cs.map V.int) ((3*i:Nat):Int)=some (.int (cs.getD (3*i) 0)):=bz (by omega)
   have a1:lz (cs.map V.int) (((3*i:Nat):Int)+1)=some (.int (cs.getD (3*i+1) 0)):=bz (j:=3*i+1) (by omega)
   have a2:lz (cs.map V.int) (((3*i:Nat):Int)+2)=some (.int (cs.getD (3*i+2) 0)):=bz (j:=3*i+2) i3
   generalize cs.getD (3*i) 0=d0 at a0
   generalize cs.getD (3*i+1) 0=d1 at a1
   generalize cs.getD (3*i+2) 0=d2 at a2
   refine⟨_,rfl,_,rfl,gI _,by omega,?_⟩
   rw[AF]
   refine h8 (n:=cn) (fun j=>decide (d0/2^j%2=1)) (by omega) (fun j hj H3 R s3 k=>?_) (fun j hj H3 R k=>?_) fun sl H3 s3 nsl hsl=>?_
   ·have ei:(0:Int)+(j:Int)=((j:Nat):Int):=by omega
    rw[ei]
    have kk:∀H4,Same H3 H4->R (decide (d0/2^j%2=1)) H4:=k
    refine⟨_,rfl,_,rfl,c,_,_,_,rfl,rfl,(sx.trans s3).seq hc,a0,_,rfl,_,_,rfl,rfl,(show(0:Int)<=(j:Int) by omega),_,_,rfl,rfl,(show(0:Int)<2 by decide),rfl,_,rfl,?_⟩
    have z:=kk H3 (Same.refl _)
    rw[<- zj]at z
    exact z
   ·have ei:(0:Int)+(j:Int)=((j:Nat):Int):=by omega
    rw[ei]
    exact⟨_,rfl,k⟩
   have hst:∀j∈((Ad cn).filter fun j=>decide (d0/2^j%2=1)),j<cn:=fun j hj=>AJ.mp (AQ.mp hj).1
   have hup:((Ad cn).filter fun j=>decide (d0/2^j%2=1)).Pairwise (· < ·):=List.Pairwise.filter _ List.pairwise_lt_range
   have hle:((Ad cn).filter fun j=>decide (d0/2^j%2=1)).length<=6:=AC (AL _ _) (by rw[AD];exact c6)
   generalize (Ad cn).filter (fun j=>decide (d0/2^j%2=1))=st at hsl hst hup hle
   refine⟨fun σ H5=>∃(sl':Addr) (st:List Nat),σ=[some (.ref c),some (.int (cn:Int)),some (.ref l),some (.int ((3*i:Nat):Int)),some (.ref sl')]/\Same Hx H5/\H5 sl'=some (.lst (st.map fun(i:Nat)=>V.int (i:Int)))/\st≠[]/\(∀i∈st,i<cn)/\st.Pairwise (· < ·)/\st.length<=6,?_,?_⟩
   ·refine⟨_,rfl,cE,fun p np=>?_⟩
    have s4:=Same.new (o:= .lst []) np
    have s04:=s3.trans s4
    cases hs:st with
    | nil=>
     rw[hs]at hsl
     refine⟨1,true,lH (SqL.of (s4 _ _ hsl)) (SqL.of af),by decide,rfl,_,rfl,bq ?_⟩
     obtain⟨m,hm,em⟩:=oW d1 (n:=cn) (by omega)
     refine⟨_,rfl,_,rfl,_,_,rfl,rfl,c,_,_,_,rfl,rfl,(sx.trans s04).seq hc,a1,_,rfl,_,_,rfl,rfl,(show(0:Int)<((cn:Nat):Int) by omega),cE,fun l2 nl2=>?_⟩
     refine⟨l2,[m],rfl,s04.to nl2,?_,by simp,fun i hi=>by rw[Am.mp hi];exact hm,Bz _ _,by simp⟩
     rw[af]
     dsimp only
     rw[em]
     rfl
    | cons j r=>
     rw[hs]at hsl
     refine⟨1,false,lH (SqL.of (s4 _ _ hsl)) (SqL.of af),by decide,rfl,_,rfl,bg ?_⟩
     rw[hs]at hst hup hle
     exact⟨sl,j :: r,rfl,s04,s4 _ _ hsl,by simp,hst,hup,hle⟩
   ·rintro σ H5 ⟨sl',st,rfl,s5,hsl,sne,slt,sup,sle⟩
    have s05:=sx.trans s5
    have hl5:=s5 _ _ hl
    have tt5:∀x∈ts,TieT H5 x/\TieG cn x:=fun x hx=>⟨(tt x hx).1.same s5,(tt x hx).2⟩
    have fin:∀(wd:Str) (k:Int) (t tp:Addr) (H6:Hp),(wd="most"\/wd="least")->1<=k->k<=6->Same H5 H6->H6 t=none->aG H6 t (.tup (st.map fun(i:Nat)=>V.int (i:Int))) tp=none->∀H7,H7=aG (aG H6 t (.tup (st.map fun(i:Nat)=>V.int (i:Int)))) tp (.tup [.str wd,.int k,.ref t])->
      Same H5 H7/\TieT H7 (tp,t,wd,k,st)/\TieG cn (tp,t,wd,k,st):=fun wd k t tp H6 hw k1 k6 s6 nt ntp H7 e7=>by
     have ntt:t≠tp:=fun z=>by rw[<- z,af]at ntp;cases ntp
     subst e7
     exact⟨(s6.to nt).to ntp,⟨af,by show aG _ tp _ t=_;rw[aE ntt];exact af,hw,sle⟩,⟨k1,k6,sne,slt,sup⟩⟩
    have put:∀(z:Addr×Addr×Str×Int×List Nat) (H7:Hp),Same H5 H7->TieT H7 z->TieG cn z->∃(x y:Option V) (ts':List (Addr×Addr×Str×Int×List Nat)),[some (V.ref c),some (.int (cn:Int)),some (.ref l),some (.int ((3*i:Nat):Int)),some (.ref sl')]=[some (.ref c),some (.int (cn:Int)),some (.ref l),x,y]/\Same H (aG H7 l (.lst (ts.map (fun x=>V.ref x.1)++[V.ref z.1])))/\aG H7 l (.lst (ts.map (fun x=>V.ref x.1)++[V.ref z.1])) l=some (.lst (ts'.map fun x=>V.ref x.1))/\(∀x∈ts',TieT (aG H7 l (.lst (ts.map (fun x=>V.ref x.1)++[V.ref z.1]))) x/\TieG cn x)/\ts'.length=i+1:=fun z H7 s7 tz gz=>
     ⟨_,_,ts++[z],rfl,(s05.trans s7).put nl,by rw[af,Aw];rfl,fun x hx=>by
      have h7:=s7 _ _ hl5
      rcases AH.mp hx with y | y
      ·exact⟨((tt5 x y).1.same s7).put h7,(tt5 x y).2⟩
      ·rw [Am.mp y];exact⟨tz.put h7,gz⟩,by rw[Ai,Aq,tl]⟩
    have tl100:ts.length<100000:=by omega
    refine⟨_,rfl,_,rfl,_,_,rfl,rfl,c,_,_,_,rfl,rfl,s05.seq hc,a1,_,_,rfl,rfl,(show dD _ 6 from⟨by decide,by decide⟩),_,_,rfl,rfl,(show(0:Int)<2 by decide),rfl,_,rfl,lI (fun _=>?_) fun _=>?_⟩
    ·have k0:=Bu d2 (show(st.length:Int)+1≠0 by omega)
     refine⟨_,rfl,.inl ⟨rfl,_,SqL.of hl5⟩,_,rfl,_,rfl,_,_,rfl,rfl,c,_,_,_,rfl,rfl,s05.seq hc,a2,_,rfl,_,st.length,rfl,.inl ⟨_,SqL.of hsl,by rw[zZ]⟩,_,_,rfl,rfl,_,_,rfl,rfl,(show(0:Int)<(st.length:Int)+1 by omega),_,_,rfl,rfl,_,_,rfl,_,rfl,sl',_,rfl,.inl ⟨SqL.of hsl,fun t nt=>⟨cE,fun tp ntp=>?_⟩⟩⟩
     obtain⟨s7,tz,gz⟩:=fin "least" (if 1+d2%((st.length:Int)+1)<6 then 1+d2%((st.length:Int)+1)else 6) t tp H5 (.inr rfl) (by split<;>omega) (by split<;>omega) (Same.refl _) nt ntp _ rfl
     have h7:=s7 _ _ hl5
     exact⟨l,_,_,rfl,rfl,h7,oi (by rw[zZ];exact tl100),put _ _ s7 tz gz⟩
    ·obtain⟨dm,hdm,m0,m6⟩:=vB (d2/6)
     have k1:=Bu d2 (show dm≠0 by omega)
     have k2:=Bs d2 m0
     refine⟨_,rfl,.inl ⟨rfl,_,SqL.of hl5⟩,_,rfl,_,rfl,_,_,rfl,rfl,c,_,_,_,rfl,rfl,s05.seq hc,a2,cE,fun pa npa=>?_⟩
     have s6:=Same.new (o:= .lst [V.int 2,V.int 3,V.int 6]) npa
     refine⟨_,rfl,_,rfl,_,_,rfl,rfl,c,_,_,_,rfl,rfl,(s05.trans s6).seq hc,a2,_,_,rfl,rfl,(show dD _ 6 from⟨by decide,by decide⟩),_,_,rfl,rfl,(show(0:Int)<3 by decide),pa,_,_,_,rfl,rfl,SqL.of af,hdm,_,_,rfl,rfl,m0,_,_,rfl,rfl,_,rfl,sl',_,rfl,.inl ⟨SqL.of (s6 _ _ hsl),fun t nt=>⟨cE,fun tp ntp=>?_⟩⟩⟩
     obtain⟨s7,tz,gz⟩:=fin "most" _ t tp _ (.inl rfl) (show(1:Int)<=1+d2%dm by omega) (by omega) s6 nt ntp _ rfl
     have h7:=s7 _ _ hl5
     exact⟨l,_,_,rfl,rfl,h7,oi (by rw[zZ];exact tl100),put _ _ s7 tz gz⟩
  ·rintro σ Hx ⟨x,y,ts,rfl,sx,hl,tt,tl⟩
   exact⟨_,rfl,q l ts Hx sx nl hl tt (by omega)⟩
inductive sp_law_case (K:PySem.W.Frag) (vs:List V) (H:Hp) (Q:VK) (E:XK):Prop where
 | mk (a sa ta:Addr) (ns:List Int) (sz:List (Int×Int)) (tl:List Int) (f0:vs=[.ref a,.ref sa,.ref ta]) (f1:SqL K H a (ns.map V.int)) (f2:ns.length<=63) (f3:RowAt H sa sz) (f4:0<sz.length) (f5:(∀x∈sz,1<=x.1/\x.1<=6/\1<=x.2/\x.2<=20)) (f6:SqL K H ta (tl.map V.int)) (f7:0<tl.length) (f8:(∀x∈tl,0<x)) (f9:∀(t l y:Addr) (rs:List Addr) (rows:bN) (bs:List Int) (ts:List (Addr×Addr×Str×Int×List Nat)) (tp:Int) (H':Hp),Same H H'->H t=none->H' t=some (.tup [.ref l,.ref y])->H l=none->H' l=some (.lst (rs.map V.ref))->BillL H' rs rows->(∀r∈rs,H r=none)->(∃x∈sz,(rows.length:Int)=x.1/\(bs.length:Int)=x.2)->BillOk rows bs->(∀b∈bs,1<=b/\b<=10^18)->(∀row∈rows,RowOk bs tp row)->tp∈tl->H y=none->H' y=some (.lst (ts.map fun x=>V.ref x.1))->(∀x∈ts,TieT H' x/\TieG rows.length x)->ts.length<=12->Q (.ref t) H'):sp_law_case K vs H Q E
theorem bf:FnScope ["script","sizes","tops","head","count","many","bonds","here","cells","gap","badges","dense","top"] ["script","sizes","tops"] (ao gd):=⟨rfl,rfl,rfl,by decide +kernel,rfl,by decide +kernel,by decide +kernel⟩
theorem n6 (D:Dfs K mg aF dF) (T:Txt mg):FnOk P w K mg base a8 2 (aF 34) (dF 34) ["script","sizes","tops"] (sp_law_case K):=by
 have Glaw_cell:FnOk P w K mg base a8 1 (aF 29) (dF 29) ["script","k"] (sp_law_cell K):=iF D T
 have Glaw_entries:FnOk P w K mg base a8 1 (aF 30) (dF 30) ["script","size"] (sp_law_entries K):=jL D T
 have Glaw_badges:FnOk P w K mg base a8 1 (aF 31) (dF 31) ["cells","gap","high"] (sp_law_badges K):=j4 D T
 have Glaw_bill:FnOk P w K mg base a8 1 (aF 32) (dF 32) ["cells","badges","dense","top","count"] (sp_law_bill K):=nZ D T
 have Glaw_ties:FnOk P w K mg base a8 1 (aF 33) (dF 33) ["cells","count"] (sp_law_ties K):=n4 D T
 refine D.law_case.fn.ok bf (fun vs H Q E h=>?_) (fun cdv A outer s H vs Q E hr h=>?_)
 ·obtain⟨a,sa,ta,ns,sz,tl,rfl,_⟩:=h;rfl
 ·have hu:=a7 hr
  obtain⟨a,sa,ta,ns,sz,tl,rfl,hS,hl,hsz,szp,szo,htl,tlp,tlo,q⟩:=h
  refine aD 9 (ah (ar (aj (aa (pc D.law_bill Glaw_bill (hr.mono (by decide)) (aa (pv 8) (aa (pv 10) (aa (pv 11) (aa (pv 12) (aa (pv 4) ab)))))) (aa (pc D.law_ties Glaw_ties (hr.mono (by decide)) (aa (eN (yn K) (pv 8) (fk (ak aQ (pv 7) (pv 5))) iO) (aa (pv 4) ab))) ab))))) ?_
  intro Z0 z0
  refine aD 8 (ag (ax (i:=12) bf.nd rfl (Or.inl rfl) (aw (cN K) (pv 2) (ak aY (ak bI (aw (cN K) (pv 3) ae (fun _ _=>rfl)) ae) (ai (bC K) (by rfl) T.z_len boot_len (aa (pv 2) ab))) (fun _ _=>rfl))) z0) ?_
  intro Z0 z0
  refine aD 7 (ag (ax (i:=11) bf.nd rfl (Or.inl rfl) (aw (cN K) (aq (aa ae (aa ae (aa ae (aa ae (aa ae ab)))))) (ak aY (ak bI (aw (cN K) (pv 3) ae (fun _ _=>rfl)) ae) ae) (fun _ _=>rfl))) z0) ?_
  intro Z0 z0
  refine aD 6 (ag (ax (i:=10) bf.nd rfl (Or.inl rfl) (pc D.law_badges Glaw_badges (hr.mono (by decide)) (aa (eN (yn K) (pv 8) (fk (pv 7)) (fk (ak aQ (pv 7) (pv 5)))) (aa (pv 9) (aa (ak aY (ak bI (aw (cN K) (pv 3) ae (fun _ _=>rfl)) ae) ae) ab))))) z0) ?_
  intro Z0 z0
  refine aD 5 (ag (ax (i:=9) bf.nd rfl (Or.inl rfl) (aw (cN K) (aq (aa ae (aa ae (aa ae (aa (ak fM ae (ak dP ae ae)) ab))))) (ak aY (aw (cN K) (pv 3) ae (fun _ _=>rfl)) ae) (fun _ _=>rfl))) z0) ?_
  intro Z0 z0
  refine aD 4 (ag (ax (i:=8) bf.nd rfl (Or.inl rfl) (pc D.law_entries Glaw_entries (hr.mono (by decide)) (aa (pv 0) (aa (ak aQ (ak aQ (pv 7) (pv 5)) (ak fM ae (pv 6))) ab)))) z0) ?_
  intro Z0 z0
  refine aD 3 (ag (ax (i:=7) bf.nd rfl (Or.inl rfl) (ak fM (pv 4) (pv 5))) z0) ?_
  intro Z0 z0
  refine aD 2 (ag (ax (i:=6) bf.nd rfl (Or.inl rfl) (aw (cN K) (aq (aa ae (aa ae (aa ae (aa ae (aa ae (aa ae (aa ae (aa ae ab))))))))) (ak aY (aw (cN K) (pv 3) ae (fun _ _=>rfl)) ae) (fun _ _=>rfl))) z0) ?_
  intro Z0 z0
  refine aD 1 (ag (iX (aw (cN K) (pv 1) (ak aY (aw (cN K) (pv 3) ae (fun _ _=>rfl)) (ai (bC K) (by rfl) T.z_len boot_len (aa (pv 1) ab))) (fun _ _=>rfl)) (uy K rfl (aV (au (i:=4) bf.nd rfl (Or.inl rfl)) (aV (au (i:=5) bf.nd rfl (Or.inl rfl)) cG)))) z0) ?_
  intro Z0 z0
  refine⟨_,(ag (cw (i₀:=3) bf.nd rfl (Or.inl rfl) ["k","script"] [none,some 0] rfl (aZ rfl T.z_range (aa ae ab)) (fun _=>au (i:=0) (aB (N:=["k","script"]) (by decide +kernel)) rfl (Or.inl rfl)) (fun _=>aM) (fun _=>(pc D.law_cell Glaw_cell (hr.mono (by decide)) (aa (pv 1) (aa (pv 0) ab)))) ((.cons (fun _ e=>by cases e) (.cons (fun _ e=>by cases e;exact⟨rfl,rfl⟩) .nil)))) z0),?_⟩
  refine⟨_,rfl,by decide,by decide,?_⟩
  refine jb (n:=4) (fun k=> .int (ns.getD k 0)) (by decide) (fun i hi H2 R s2 k=>?_) fun hd H1 s1 nhd hhd=>?_
  ·have ei:(0:Int)+(i:Int)=((i:Nat):Int):=by omega
   rw[ei]
   exact⟨_,rfl,_,rfl,a,ns,i,rfl,s2.seq hS,k H2 (Same.refl _)⟩
  have hg:∀j:Nat,j<4->lz ((Ad 4).map fun k=>V.int (ns.getD k 0)) (j:Int)=some (.int (ns.getD j 0)):=fun j hj=>bh (by simp[hj])
  have g0:lz ((Ad 4).map fun k=>V.int (ns.getD k 0)) 0=some (.int (ns.getD 0 0)):=hg 0 (by decide)
  have g1:lz ((Ad 4).map fun k=>V.int (ns.getD k 0)) 1=some (.int (ns.getD 1 0)):=hg 1 (by decide)
  have g2:lz ((Ad 4).map fun k=>V.int (ns.getD k 0)) 2=some (.int (ns.getD 2 0)):=hg 2 (by decide)
  generalize (Ad 4).map (fun k=>V.int (ns.getD k 0))=hL at hhd g0 g1 g2
  generalize ns.getD 0 0=d0 at g0
  generalize ns.getD 1 0=d1 at g1
  generalize ns.getD 2 0=d2 at g2
  clear hg
  obtain⟨ss,hss,tss⟩:=hsz.same s1
  have ssl:ss.length=sz.length:=tss.len
  obtain⟨im,him,eim⟩:=oW d0 szp
  obtain⟨sp,hsp⟩:∃sp,ss[im]?=some sp:=⟨_,Aa (by omega)⟩
  obtain⟨z,hz,ez⟩:=cy tss hsp
  have zm:=Ah hz
  obtain⟨z1,z2,z3,z4⟩:=szo z zm
  have hat:lz (ss.map V.ref) (d0%(sz.length:Int))=some (.ref sp):=by
   rw[eim]
   exact bh (by rw[Ae,hsp];rfl)
  refine⟨_,rfl,_,rfl,hd,_,_,_,rfl,rfl,SqL.of hhd,g0,_,rfl,_,sz.length,rfl,.inl ⟨_,SqL.of hss,by rw[zZ,ssl]⟩,_,_,rfl,rfl,(show(0:Int)<(sz.length:Int) by omega),sa,_,_,_,rfl,rfl,SqL.of hss,hat,sp,_,rfl,SqT.of ez,rfl,_,_,rfl,_,_,rfl,rfl,?_⟩
  obtain⟨cn,ec⟩:∃cn:Nat,z.1=(cn:Int):=⟨z.1.toNat,by omega⟩
  obtain⟨mn,em⟩:∃mn:Nat,z.2=(mn:Int):=⟨z.2.toNat,by omega⟩
  rw[ec,em]
  have c1:1<=cn:=by omega
  have c6:cn<=6:=by omega
  have m20:mn<=20:=by omega
  refine⟨cE,fun p np=>?_⟩
  obtain⟨bd,hbd,bm⟩:=eQ [0,1,2,3,1,2,4,12] d1 (n:=8) rfl (by decide)
  have sp1:=Same.new (o:= .lst [.int 0,.int 1,.int 2,.int 3,.int 1,.int 2,.int 4,.int 12]) np
  have s01:=s1.trans sp1
  have hhd1:=sp1 _ _ hhd
  refine⟨_,rfl,hd,_,_,_,rfl,rfl,SqL.of hhd1,g1,_,_,rfl,rfl,(show(0:Int)<8 by decide),p,_,_,_,rfl,rfl,SqL.of af,hbd,?_⟩
  generalize aG H1 p (.lst [.int 0,.int 1,.int 2,.int 3,.int 1,.int 2,.int 4,.int 12])=H2 at s01 hhd1
  obtain⟨bn,eb,b12⟩:∃bn:Nat,bd=(bn:Int)/\bn<=12:=by
   simp only[Al,AK,or_false]at bm
   exact⟨bd.toNat,by omega,by omega⟩
  subst eb
  refine⟨_,rfl,_,rfl,_,_,rfl,rfl,.inl ⟨by omega,by omega⟩,?_⟩
  have h120:cn*mn<=120:=Nat.mul_le_mul c6 m20
  have eh:(cn:Int)*(mn:Int)=((cn*mn:Nat):Int):=(Int.natCast_mul ..).symm
  dsimp only
  rw[eh]
  have ecm:cn*mn<=cn*mn:=Af _
  generalize hrE:cn*mn=hr' at h120 ecm
  refine⟨_,rfl,_,rfl,_,rfl,_,_,rfl,rfl,_,rfl,_,_,rfl,rfl,(show CMul 3 _ from .inl ⟨by decide,by decide⟩),_,_,rfl,rfl,a,ns,hr'+mn+3*bn,(by show [V.ref a,V.int ((hr':Int)+mn+3*bn)]=_;rw[show((hr'+mn+3*bn:Nat):Int)=(hr':Int)+mn+3*bn by omega]),s01.seq hS,by omega,by omega,by omega,fun cl cs H3 s3 ncl hcl lcs=>?_⟩
  have s03:=s01.trans s3
  have hhd3:=s3 _ _ hhd1
  walk_at "go"
  refine⟨cE,fun p2 np2=>?_⟩
  obtain⟨gp,hgp,gm⟩:=eQ [1,3,40,5*10^16] d2 (n:=4) rfl (by decide)
  have sp2:=Same.new (o:= .lst [.int 1,.int 3,.int 40,.int (5*10^16)]) np2
  have hhd4:=sp2 _ _ hhd3
  refine⟨_,rfl,hd,_,_,_,rfl,rfl,SqL.of hhd4,g2,_,_,rfl,rfl,(show(0:Int)<4 by decide),p2,_,_,_,rfl,rfl,SqL.of af,hgp,?_⟩
  clear sp2 hhd4
  generalize hE4:aG H3 p2 _=H4
  have sp2:Same H3 H4:=hE4▸Same.new np2
  have hhd4:=sp2 _ _ hhd3
  have hcl4:=sp2 _ _ hcl
  have s04:=s03.trans sp2
  have gpb:0<gp/\gp<=50000000000000000:=by
   simp only[Al,AK,or_false]at gm
   omega
  refine⟨_,rfl,_,rfl,_,rfl,_,rfl,_,rfl,_,_,rfl,rfl,_,rfl,cl,_,rfl,SqL.of hcl4,fun c5 nc5=>?_⟩
  have ecut:fN (cs.map V.int) (some (hr':Int)) (some ((hr':Int)+(mn:Int)))=((cs.drop hr').take mn).map V.int:=by
   rw[show(hr':Int)+(mn:Int)=((hr'+mn:Nat):Int) by omega,u5,Nat.add_sub_cancel_left,List.map_take,List.map_drop]
  rw[ecut]
  have lcut:((cs.drop hr').take mn).length=mn:=by rw[A6,Bk];omega
  have sp5:=Same.new (o:= .lst (((cs.drop hr').take mn).map V.int)) nc5
  have hhd5:=sp5 _ _ hhd4
  have hcl5:=sp5 _ _ hcl4
  have s05:=s04.trans sp5
  have hc5:aG H4 c5 (.lst (((cs.drop hr').take mn).map V.int)) c5=some (.lst (((cs.drop hr').take mn).map V.int)):=af
  generalize aG H4 c5 (.lst (((cs.drop hr').take mn).map V.int))=H5 at hhd5 hcl5 s05 hc5
  generalize (cs.drop hr').take mn=cs' at lcut hc5
  refine⟨_,rfl,_,rfl,hd,_,_,_,rfl,rfl,SqL.of hhd5,g2,_,_,rfl,rfl,(show dD _ 4 from⟨by decide,by decide⟩),_,_,rfl,rfl,(show(0:Int)<2 by decide),c5,cs',gp,_,rfl,SqL.of hc5,by omega,gpb.1,gpb.2,fun bdg bs H6 s6 nbd hbd6 lbs up b18=>?_⟩
  rw[lcut]at lbs
  have s06:=s05.trans s6
  have hhd6:=s6 _ _ hhd5
  have hcl6:=s6 _ _ hcl5
  refine⟨cE,fun p7 np7=>?_⟩
  obtain⟨dn,hdn,_⟩:=eQ [3,4,1,2,4] (d2/8) (n:=5) rfl (by decide)
  have sp7:=Same.new (o:= .lst [.int 3,.int 4,.int 1,.int 2,.int 4]) np7
  have hhd7:=sp7 _ _ hhd6
  have hcl7:=sp7 _ _ hcl6
  have hbd7:=sp7 _ _ hbd6
  have s07:=s06.trans sp7
  refine⟨_,rfl,hd,_,_,_,rfl,rfl,SqL.of hhd7,g2,_,_,rfl,rfl,(show dD _ 8 from⟨by decide,by decide⟩),_,_,rfl,rfl,(show(0:Int)<5 by decide),p7,_,_,_,rfl,rfl,SqL.of af,hdn,?_⟩
  generalize aG H6 p7 (.lst [.int 3,.int 4,.int 1,.int 2,.int 4])=H7 at hhd7 hcl7 hbd7 s07
  obtain⟨tp,htp,tm⟩:=eQ tl (d1/8) (n:=tl.length) rfl tlp
  refine⟨_,rfl,_,rfl,hd,_,_,_,rfl,rfl,SqL.of hhd7,g1,_,_,rfl,rfl,(show dD _ 8 from⟨by decide,by decide⟩),_,rfl,_,tl.length,rfl,.inl ⟨_,s07.seq htl,by rw[zZ]⟩,_,_,rfl,rfl,(show(0:Int)<(tl.length:Int) by omega),ta,_,_,_,rfl,rfl,s07.seq htl,htp,?_⟩
  have lcs':cn*bs.length<=cs.length:=by rw[lbs,hrE];omega
  refine⟨_,rfl,_,rfl,_,rfl,_,rfl,_,rfl,cl,bdg,cs,bs,dn,tp,cn,rfl,SqL.of hcl7,SqL.of hbd7,up,tlo tp tm,c6,by omega,lcs',fun l rs rows H8 s8 nl hl8 bl8 lr nr ok=>?_⟩
  have hcl8:=s8 _ _ hcl7
  have s08:=s07.trans s8
  refine⟨_,rfl,_,rfl,_,rfl,_,_,rfl,rfl,_,rfl,cl,_,rfl,SqL.of hcl8,fun c9 nc9=>?_⟩
  have ecut9:fN (cs.map V.int) (some ((hr':Int)+(mn:Int))) none=(cs.drop (hr'+mn)).map V.int:=by
   rw[show(hr':Int)+(mn:Int)=((hr'+mn:Nat):Int) by omega,jd,List.map_drop]
  rw[ecut9]
  have lcut9:(cs.drop (hr'+mn)).length=3*bn:=by rw[Bk];omega
  have s9:=Same.new (o:= .lst ((cs.drop (hr'+mn)).map V.int)) nc9
  have hc9:aG H8 c9 (.lst ((cs.drop (hr'+mn)).map V.int)) c9=some (.lst ((cs.drop (hr'+mn)).map V.int)):=af
  generalize aG H8 c9 (.lst ((cs.drop (hr'+mn)).map V.int))=H9 at s9 hc9
  refine⟨_,rfl,c9,cs.drop (hr'+mn),cn,rfl,SqL.of hc9,by omega,c1,c6,fun y ts H10 s10 ny hy tt tl3=>⟨cE,fun t nt=>?_⟩⟩
  have s1011:=Same.new (o:= .tup [.ref l,.ref y]) nt
  have s811:=(s9.trans s10).trans s1011
  refine q t l y rs rows bs ts tp _ (s08.trans s811) ((s08.trans (s9.trans s10)).free nt) af (s07.free nl) (s811 _ _ hl8) (bl8.same s811) (fun r hr=>s07.free (nr r hr)) ⟨z,zm,by rw[ec,lr],by rw[em,lbs]⟩ ⟨fun row hr=>(ok row hr).up,fun row hr x hx=>((ok row hr).inn x hx).1,fun row hr=>(ok row hr).len,up,fun b hb=>(b18 b hb).1⟩ b18 ok tm ((s08.trans s9).free ny) (s1011 _ _ hy) (fun x hx=>⟨(tt x hx).1.same s1011,by rw[lr];exact(tt x hx).2⟩) (by omega)
inductive sp_law_wide (K:PySem.W.Frag) (vs:List V) (H:Hp) (Q:VK) (E:XK):Prop where
 | mk (a:Addr) (ps:List Int) (f0:vs=[.ref a]) (f1:SqL K H a (ps.map V.int)) (f2:ps.length<=6) (f3:∀H',Same H H'->Q (.int (((dd ps).length:Nat):Int)) H'):sp_law_wide K vs H Q E
theorem n8:FnScope ["pattern"] ["pattern"] (ao gf):=⟨rfl,rfl,rfl,by decide +kernel,rfl,by decide +kernel,by decide +kernel⟩
theorem n9 (D:Dfs K mg aF dF) (T:Txt mg):FnOk P w K mg base a8 1 (aF 35) (dF 35) ["pattern"] (sp_law_wide K):=by
 refine D.law_wide.fn.ok n8 (fun vs H Q E h=>?_) (fun cdv A outer s H vs Q E hr h=>?_)
 ·obtain⟨a,ps,rfl,_⟩:=h;rfl
 ·have hu:=a7 hr
  obtain⟨a,ps,rfl,ha,h6,q⟩:=h
  refine⟨_,(ah (ar (ai (sI w) (by rfl) T.z_len boot_len (aa (aL (nj w K) (by rfl) T.z_set PyProof.Rows.boot_set (aa (pv 0) ab)) ab)))),?_⟩
  exact⟨_,rfl,a,ps,rfl,ha,by omega,fun S nS=>⟨S,_,rfl,af,q _ (Same.new nS)⟩⟩
inductive sp_law_pool (K:PySem.W.Frag) (vs:List V) (H:Hp) (Q:VK) (E:XK):Prop where
 | mk (b:Nat) (pa ba:Addr) (p:List Int) (rs:List Addr) (rows:List (List (Int×Int))) (f0:vs=[.int ((b:Nat):Int),.ref pa,.ref ba]) (f1:SqL K H pa (p.map V.int)) (f2:H ba=some (.lst (rs.map V.ref))) (f3:BillL H rs rows) (f4:bG p) (f5:b<(dd p).length) (f6:p.length<=rows.length) (f7:rows.length<=6) (f8:(∀row∈rows,row.length<=20/\(aC row).Nodup)) (f9:∀l H',Same H H'->H l=none->H' l=some (.lst ((bQ rows (aP p b)).map V.int))->Q (.ref l) H'):sp_law_pool K vs H Q E
theorem um {rows:List (List (Int×Int))} {n:Nat} (h:∀row∈rows,row.length<=n):∀st,(bQ rows st).length<=n:=by
 intro st
 by_cases z:st=[]
 ·rw [z];exact Az _
 ·refine gL (P:=fun st=>(bQ rows st).length<=n) (fun s=>?_) (fun st s hne ih=>by rw[dI hne];exact AC (AL _ _) ih) st z
  show(aC (rows.getD s [])).length<=n
  unfold aC
  rw[zZ,Ab]
  cases e:rows[s]? with
  | none=>exact Az _
  | some row=>exact h row (Ah e)
theorem yD {l:List Int} {g:Int->Bool}:(((Ad l.length).filter fun j=>g (l.getD j 0)).map fun j=>V.int (l.getD j 0))=(l.filter g).map V.int:=vV (d:=0) (F:=V.int)
theorem cq:FnScope ["block","pattern","bill","found","k","here"] ["block","pattern","bill"] (ao gh):=⟨rfl,rfl,rfl,by decide +kernel,rfl,by decide +kernel,by decide +kernel⟩
theorem oa (D:Dfs K mg aF dF) (T:Txt mg):FnOk P w K mg base a8 1 (aF 36) (dF 36) ["block","pattern","bill"] (sp_law_pool K):=by
 refine D.law_pool.fn.ok cq (fun vs H Q E h=>?_) (fun cdv A outer s H vs Q E hr h=>?_)
 ·obtain⟨b,pa,ba,p,rs,rows,rfl,_⟩:=h;rfl
 ·have hu:=a7 hr
  obtain⟨b,pa,ba,p,rs,rows,rfl,hp,hba,bl,c,hb,hl,r6,ok,q⟩:=h
  refine aD 2 (ah (ar (pv 3))) ?_
  intro Z0 z0
  refine aD 1 (ag (b8 PassesOwn.never rfl (aZ rfl T.z_range (aa (ai (bC K) (by rfl) T.z_len boot_len (aa (pv 1) ab)) ab)) (au (i:=4) cq.nd rfl (Or.inl rfl))
    (ah (aU (ay bY (aw (cN K) (pv 1) (pv 4) (fun _ _=>rfl)) (pv 0) (az _))
     (ag (ax (i:=5) cq.nd rfl (Or.inr rfl) (aK ["pair"] [none] rfl (jc K (aw (cN K) (pv 2) (pv 4) (fun _ _=>rfl))) (fun _=>au (i:=0) (aB (N:=["pair"]) (by decide +kernel)) rfl (Or.inl rfl)) (fun _=>aM) (fun _=>(aw (eJ K) (pv 0) ae (fun _ _=>rfl))) ((.cons (fun _ e=>by cases e) .nil))))
     (ah (aU (ay rV (pv 3) bU (az _))
      (ah (ax (i:=3) cq.nd rfl (Or.inl rfl) (pv 5)))
      (ah (cw (i₀:=3) cq.nd rfl (Or.inl rfl) ["badge","here"] [none,some 5] rfl (jc K (pv 3)) (fun _=>au (i:=0) (aB (N:=["badge","here"]) (by decide +kernel)) rfl (Or.inl rfl)) (fun _=>dR (ay (zM K) (pv 0) (pv 1) (by with_unfolding_all rfl))) (fun _=>(pv 0)) ((.cons (fun _ e=>by cases e) (.cons (fun _ e=>by cases e;exact⟨rfl,rfl⟩) .nil))))))))
     aA))) z0) ?_
  intro Z0 z0
  refine⟨_,(ag (ax (i:=3) cq.nd rfl (Or.inl rfl) bU) z0),?_⟩
  refine⟨_,rfl,_,_,rfl,.inl ⟨_,hp,rfl⟩,_,rfl,gI _,by rw[zZ];omega,?_⟩
  have e0:(((p.map V.int).length:Nat):Int).toNat=p.length:=by rw[zZ];omega
  rw[e0]
  refine b9 (n:=p.length) (fun i σ Hx=>∃(v:V) (x y:Option V),σ=[some (.int ((b:Nat):Int)),some (.ref pa),some (.ref ba),some v,x,y]/\Same H Hx/\((jY p (b:Int) i=[]/\v= .non)\/(jY p (b:Int) i≠[]/\∃l,v= .ref l/\H l=none/\Hx l=some (.lst ((bQ rows (jY p (b:Int) i)).map V.int)))))
   ⟨.non,none,none,rfl,Same.refl _,.inl ⟨rfl,rfl⟩⟩ ?_ ?_
  ·rintro i σ Hx hi ⟨v,x,y,rfl,sx,hv⟩
   have ei:(0:Int)+(i:Int)=((i:Nat):Int):=by omega
   rw[ei]
   have bs:=qU p (b:Int) i
   refine⟨_,rfl,_,rfl,pa,_,_,_,rfl,rfl,sx.seq hp,bz hi,_,rfl,rfl,_,rfl,lI (fun e=>?_) fun ne=>?_⟩
   ·rw [if_pos e]at bs
    have hrw:rows[i]?=some (rows.getD i []):=by rw[Ab,Aa (by omega)];rfl
    have oki:=ok _ (Ah hrw)
    obtain⟨r,er,ps,hps,tps⟩:=(bl.same sx).at hrw
    generalize hRow:rows.getD i []=row at hrw oki tps
    have ptl:=tps.len
    refine⟨_,rfl,_,rfl,ba,_,_,_,rfl,rfl,SqL.of (sx _ _ hba),bh (by rw[Ae,er];rfl),r,rfl,⟨_,SqL.of hps⟩,?_⟩
    refine bA (xs:=ps.map V.ref) (fun _=>true) (fun j=> .int (row.getD j (0,0)).1) (SqL.of hps) (by rw[zZ];omega) (fun _ _ _ _ _ _ k=>k _ (Same.refl _)) (fun j x hx _ H2 R s2 k=>?_) fun nw H2 s2 nnw hnw=>?_
    ·rw [Ae]at hx
     obtain⟨t,et,rfl⟩:=An.mp hx
     obtain⟨x,ex,tx⟩:=cy tps et
     rw[Ab,ex]at k
     exact⟨_,rfl,t,_,_,_,rfl,rfl,SqT.of (s2 _ _ tx),rfl,k H2 (Same.refl _)⟩
    rw[AG.mpr (fun _ _=>rfl),zZ,ptl,iT (g:=fun x=>V.int x.1) fun i x hx=>by rw[Ab,hx];rfl]at hnw
    have hnw:H2 nw=some (.lst ((aC row).map V.int)):=by rw[hnw];unfold aC;rw[Au];rfl
    have s02:=sx.trans s2
    rcases hv with⟨h1,rfl⟩ | ⟨h1,l,rfl,nl,hl1⟩
    ·refine⟨_,rfl,rfl,_,rfl,sy (fun _=>⟨_,rfl,.ref nw,_,_,rfl,s02,.inr ⟨by rw[bs];simp,nw,rfl,sx.free nnw,?_⟩⟩) fun z=>absurd rfl z⟩
     rw[bs,h1]
     show H2 nw=some (.lst ((aC (rows.getD i [])).map V.int))
     rw[hRow]
     exact hnw
    ·refine⟨_,rfl,rfl,_,rfl,sy (fun z=>by cases z) fun _=>?_⟩
     have hl2:=s2 _ _ hl1
     refine⟨_,rfl,l,rfl,⟨_,SqL.of hl2⟩,?_⟩
     have kl:=um (fun row h=>(ok row h).1) (jY p (b:Int) i)
     generalize hks:bQ rows (jY p (b:Int) i)=ks at hl2 kl
     refine bA (xs:=ks.map V.int) (fun j=>decide (ks.getD j 0∈aC row)) (fun j=> .int (ks.getD j 0)) (SqL.of hl2) (by rw[zZ];omega) (fun j x hx H3 R s3 k=>?_) (fun j x hx _ H3 R s3 k=>?_) fun nf H3 s3 nnf hnf=>?_
     ·obtain⟨d,hd,rfl,ed⟩:=dU hx
      rw[ed]at k
      refine⟨_,rfl,_,rfl,nw,_,rfl,.inl (SqL.of (s3 _ _ hnw)),rfl,m4 _,_,rfl,?_⟩
      rw[if_neg Ag,pO]
      exact k H3 (Same.refl _)
     ·obtain⟨d,hd,rfl,ed⟩:=dU hx
      rw[ed]at k
      exact⟨_,rfl,k H3 (Same.refl _)⟩
     ·rw [zZ,yD (g:=fun b=>decide (b∈aC row))]at hnf
      refine⟨.ref nf,_,_,rfl,s02.trans s3,.inr ⟨by rw[bs];simp,nf,rfl,s02.free nnf,?_⟩⟩
      rw[bs,dI h1,hks,hRow]
      exact hnf
   ·rw [if_neg ne]at bs
    rw[<- bs]at hv
    exact⟨v,_,_,rfl,sx,hv⟩
  ·rintro σ Hx ⟨v,x,y,rfl,sx,hv⟩
   rw[tN]at hv
   rcases hv with⟨h1,_⟩ | ⟨h1,l,rfl,nl,hl1⟩
   ·exact absurd h1 (bL c hb)
   ·exact⟨_,rfl,q l Hx sx nl hl1⟩
inductive sp_law_minutes (K:PySem.W.Frag) (vs:List V) (H:Hp) (Q:VK) (E:XK):Prop where
 | mk (g:Int) (b:Nat) (pa ba:Addr) (p:List Int) (rs:List Addr) (rows:bN) (f0:vs=[.int g,.int ((b:Nat):Int),.ref pa,.ref ba]) (f1:SqL K H pa (p.map V.int)) (f2:H ba=some (.lst (rs.map V.ref))) (f3:BillL H rs rows) (f4:p.length<=rows.length) (f5:rows.length<=6) (f6:(∀row∈rows,(aC row).Nodup)) (f7:(∀s∈aP p b,g∈aC (rows.getD s []))) (f8:∀H',Same H H'->Q (.int (gJ rows (aP p b) g)) H'):sp_law_minutes K vs H Q E
theorem cB:FnScope ["badge","block","pattern","bill","total","k"] ["badge","block","pattern","bill"] (ao dC):=⟨rfl,rfl,rfl,by decide +kernel,rfl,by decide +kernel,by decide +kernel⟩
theorem jM (D:Dfs K mg aF dF) (T:Txt mg):FnOk P w K mg base a8 1 (aF 37) (dF 37) ["badge","block","pattern","bill"] (sp_law_minutes K):=by
 refine D.law_minutes.fn.ok cB (fun vs H Q E h=>?_) (fun cdv A outer s H vs Q E hr h=>?_)
 ·obtain⟨g,b,pa,ba,p,rs,rows,rfl,_⟩:=h;rfl
 ·have hu:=a7 hr
  obtain⟨g,b,pa,ba,p,rs,rows,rfl,hp,hb,bl,hl,r6,nd,gin,q⟩:=h
  refine aD 2 (ah (ar (pv 4))) ?_
  intro Z0 z0
  refine aD 1 (ag (b8 PassesOwn.never rfl (aZ rfl T.z_range (aa (ai (bC K) (by rfl) T.z_len boot_len (aa (pv 2) ab)) ab)) (au (i:=5) cB.nd rfl (Or.inl rfl))
    (ah (aU (ay bY (aw (cN K) (pv 2) (pv 5) (fun _ _=>rfl)) (pv 1) (az _))
     (ah (ax (i:=4) cB.nd rfl (Or.inl rfl) (ak aQ (pv 4) (pL hu (aL (tK K) (by rfl) T.z_dict PyProof.Rows.boot_dict (aa (aw (cN K) (pv 3) (pv 5) (fun _ _=>rfl)) ab)) (pv 0) (fun _ _=>rfl)))))
     aA))) z0) ?_
  intro Z0 z0
  refine⟨_,(ag (ax (i:=4) cB.nd rfl (Or.inl rfl) ae) z0),?_⟩
  refine⟨_,rfl,_,p.length,rfl,.inl ⟨_,hp,by rw[zZ]⟩,_,rfl,gI _,by omega,?_⟩
  rw[AF]
  refine b9 (n:=p.length) (fun i σ Hx=>∃x:Option V,σ=[some (.int g),some (.int ((b:Nat):Int)),some (.ref pa),some (.ref ba),some (.int (gJ rows ((Ad i).filter fun i=>decide (p.getD i 0=(b:Int))) g)),x]/\Same H Hx) ⟨none,rfl,Same.refl _⟩ ?_ ?_
  ·rintro i σ Hx hi ⟨x,rfl,sx⟩
   have ei:(0:Int)+(i:Int)=((i:Nat):Int):=by omega
   rw[ei,A0,AS]
   refine⟨_,rfl,_,rfl,pa,_,_,_,rfl,rfl,sx.seq hp,bz hi,_,rfl,rfl,_,rfl,lI (fun e=>?_) fun e=>?_⟩
   ·rw [Bq,if_pos (decide_eq_true e),BK,kZ]
    have hir:i<rows.length:=by omega
    obtain⟨r,er,ps,hps,tps⟩:=(bl.same sx).at (Aa hir)
    have gm:=gin i (cS.mpr ⟨hi,e⟩)
    rw[Ab,Aa hir]at gm
    have gm:g∈aC rows[i]:=gm
    have ndr:=nd _ (Ax hir)
    have eg:rows.getD i []=rows[i]:=by rw[Ab,Aa hir];rfl
    rw[eg]
    generalize rows[i]=row at tps gm ndr
    obtain⟨c,hc⟩:∃c,cz row g=some c:=by
     cases z:cz row g with
     | none=>exact absurd gm (kX.mp z)
     | some c=>exact⟨c,rfl⟩
    refine⟨_,rfl,_,rfl,_,rfl,ba,_,_,_,rfl,rfl,SqL.of (sx _ _ hb),bh (by rw[Ae,er];rfl),r,ps,lZ row,rfl,SqL.of hps,by unfold lZ;rw[zZ,tps.len],oY ndr,tps.kv,fun dl ndl=>?_⟩
    have s2:=Same.new (o:= .dK (lZ row)) ndl
    have gg:=DGet.k (k:=Sum.inl g) (show aG Hx dl (.dK (lZ row)) dl=some (.dK (lZ row))from af)
    rw[eP,hc]at gg
    refine⟨_,rfl,dl,.int c,rfl,gg,_,_,rfl,rfl,?_⟩
    rw[hc]
    exact⟨_,rfl,sx.trans s2⟩
   ·rw [Bq,if_neg (by rw[decide_eq_false e];exact Ag),BK,Bo]
    exact⟨_,rfl,sx⟩
  ·rintro σ Hx ⟨x,rfl,sx⟩
   exact⟨_,rfl,q Hx sx⟩
def fK (K:PySem.W.Frag):Sp:=sp_breaks K
theorem b3:FnScope ["pattern","tie","met","ahead","step"] ["pattern","tie"] (ao eB):=⟨rfl,rfl,rfl,by decide +kernel,rfl,by decide +kernel,by decide +kernel⟩
theorem j5 (D:Dfs K mg aF dF) (T:Txt mg):FnOk P w K mg base a8 1 (aF 38) (dF 38) ["pattern","tie"] (fK K):=by
 refine D.law_breaks.fn.ok b3 (fun vs H Q E h=>?_) (fun cdv A outer s H vs Q E hr h=>?_)
 ·obtain⟨a,tp,t,hs,st,wd,k,rfl,_⟩:=h;rfl
 ·have hu:=a7 hr
  obtain⟨a,tp,t,hs,st,wd,k,rfl,ha,htp,ht,hwd,h6,q⟩:=h
  refine aD 4 (ah (ar (b5 fD (ak aQ (ai (bC K) (by rfl) T.z_len boot_len (aa (pv 2) ab)) (pv 3)) (aw (eJ K) (pv 1) ae (fun _ _=>rfl)) (az _)))) ?_
  intro Z0 z0
  refine aD 3 (ag (aU (ay bY (aw (eJ K) (pv 1) ae (fun _ _=>rfl)) av (az _))
    (ah (ar (b5 rS (ai (bC K) (by rfl) T.z_len boot_len (aa (pv 2) ab)) (aw (eJ K) (pv 1) ae (fun _ _=>rfl)) (az _))))
    aA) z0) ?_
  intro Z0 z0
  refine aD 2 (ag (b8 PassesOwn.never rfl (zy K (aw (eJ K) (pv 1) ae (fun _ _=>rfl))) (au (i:=4) b3.nd rfl (Or.inl rfl))
    (ah (aU (ay rT (pv 4) (ai (bC K) (by rfl) T.z_len boot_len (aa (pv 0) ab)) (az _))
     (ah (ax (i:=3) b3.nd rfl (Or.inl rfl) (ak aQ (pv 3) ae)))
     (ah (aU (ay (zd K) (aw (cN K) (pv 0) (pv 4) (fun _ _=>rfl)) (pv 2) (by with_unfolding_all rfl))
      (ah (cZ (gx PySem.F.plainAttrs_list PySem.F.slot_list_append PySem.F.type_list_append bT (pv 2) (aa (aw (cN K) (pv 0) (pv 4) (fun _ _=>rfl)) ab))))
      aA))))) z0) ?_
  intro Z0 z0
  refine aD 1 (ag (ax (i:=3) b3.nd rfl (Or.inl rfl) ae) z0) ?_
  intro Z0 z0
  refine⟨_,(ag (ax (i:=2) b3.nd rfl (Or.inl rfl) (aq ab)) z0),?_⟩
  refine⟨cE,fun m nm=>?_⟩
  have s1:=Same.new (o:= .lst []) nm
  refine⟨_,rfl,tp,_,_,_,rfl,rfl,Same.seqT s1 htp,rfl,t,rfl,⟨_,Same.seqT s1 ht⟩,?_⟩
  refine uG (K:=K) (a:=t) (xs:=st.map fun(i:Nat)=>V.int (i:Int)) (fun i σ Hx=>∃(x:Option V),σ=[some (.ref a),some (.ref tp),some (.ref m),some (.int (((i-((st.take i).filter fun j=>decide (j<hs.length)).length:Nat)):Int)),x]/\Same H Hx/\Hx m=some (.lst ((dd (((st.take i).filter fun j=>decide (j<hs.length)).map fun i=>hs.getD i 0)).map V.int))/\((st.take i).filter fun j=>decide (j<hs.length)).length<=i) ⟨none,rfl,s1,af,Af _⟩ (fun i σ Hx _ hq__=>by obtain⟨_,_,s,_⟩:=hq__;exact Same.seqT s ht) ?_ ?_
  ·rintro i v σ Hx hi ⟨x,rfl,sx,hm,fl⟩
   obtain⟨d,hd,rfl,ed⟩:=fQ hi
   have il:=(Ac.mp hd).1
   have dl:=bK (((st.take i).filter fun j=>decide (j<hs.length)).map fun i=>hs.getD i 0)
   rw[zZ]at dl
   rw[ik hd,AS]
   refine⟨_,rfl,_,rfl,_,hs.length,rfl,.inl ⟨_,sx.seq ha,by rw[zZ]⟩,_,_,rfl,rfl,_,rfl,sy (fun ge=>?_) fun ge=>?_⟩
   ·have e5:[d].filter (fun j=>decide (j<hs.length))=[]:=by
     rw[Bq,if_neg (by rw[decide_eq_false (by omega)];exact Ag),BK]
    rw[e5,Bo]
    refine⟨_,rfl,_,_,rfl,rfl,?_⟩
    refine⟨some (.int (d:Int)),?_,sx,hm,by omega⟩
    rw[show(((i+1-((st.take i).filter fun j=>decide (j<hs.length)).length:Nat)):Int)=(((i-((st.take i).filter fun j=>decide (j<hs.length)).length:Nat)):Int)+1 by omega]
    rfl
   ·have hdl:d<hs.length:=by omega
    have e5:[d].filter (fun j=>decide (j<hs.length))=[d]:=by
     rw[Bq,if_pos (decide_eq_true hdl),BK]
    rw[e5,Aw,Ai,Aq]
    have e6:dd (((st.take i).filter fun j=>decide (j<hs.length)).map (fun i=>hs.getD i 0)++[d].map fun i=>hs.getD i 0)=cx (dd (((st.take i).filter fun j=>decide (j<hs.length)).map fun i=>hs.getD i 0)) (hs.getD d 0):=lL _ _
    rw[e6]
    have e7:i+1-(((st.take i).filter fun j=>decide (j<hs.length)).length+1)=i-((st.take i).filter fun j=>decide (j<hs.length)).length:=by omega
    rw[e7]
    generalize ((st.take i).filter fun j=>decide (j<hs.length)).length=n at fl dl
    generalize dd (((st.take i).filter fun j=>decide (j<hs.length)).map fun i=>hs.getD i 0)=ms at hm dl
    refine⟨_,rfl,_,rfl,a,_,_,_,rfl,rfl,sx.seq ha,bz hdl,_,rfl,m,_,rfl,.inl (SqL.of hm),rfl,m4 _,?_⟩
    rw[if_pos rfl,pO]
    unfold cx
    refine⟨_,rfl,?_⟩
    by_cases z:hs.getD d 0∈ms
    ·rw [decide_eq_true z,if_pos z]
     exact bg ⟨_,rfl,sx,hm,by omega⟩
    ·rw [decide_eq_false z,if_neg z]
     refine bq ⟨_,rfl,.inl ⟨rfl,_,SqL.of hm⟩,_,rfl,_,rfl,a,_,_,_,rfl,rfl,sx.seq ha,bz hdl,m,_,_,rfl,rfl,hm,oi (by rw[zZ];omega),?_⟩
     exact⟨_,rfl,sx.put nm,by rw[af,Aw];rfl,by omega⟩
  ·rintro σ Hx ⟨x,rfl,sx,hm,fl⟩
   rw[zZ,A3]at hm fl
   rw[zZ,A3]
   have q3:=q Hx sx
   refine⟨_,rfl,tp,_,_,_,rfl,rfl,Same.seqT sx htp,rfl,rfl,_,rfl,?_⟩
   unfold brk at q3
   rcases hwd with e | e<;>subst e
   ·refine bq ?_
    rw[if_pos rfl]at q3
    exact⟨_,rfl,_,uA (fun i=>hs.getD i 0) (st.filter fun i=>decide (i<hs.length)),rfl,.inl ⟨_,SqL.of hm,by rw[zZ];rfl⟩,_,rfl,tp,_,_,_,rfl,rfl,Same.seqT sx htp,rfl,_,_,rfl,rfl,q3⟩
   ·rw [decide_eq_false (by decide)]
    refine bg ?_
    rw[if_neg (by decide)]at q3
    refine⟨_,rfl,_,uA (fun i=>hs.getD i 0) (st.filter fun i=>decide (i<hs.length)),rfl,.inl ⟨_,SqL.of hm,by rw[zZ];rfl⟩,_,rfl,_,_,rfl,rfl,_,rfl,tp,_,_,_,rfl,rfl,Same.seqT sx htp,rfl,_,_,rfl,rfl,?_⟩
    dsimp only
    rw[show(((uA (fun i=>hs.getD i 0) (st.filter fun i=>decide (i<hs.length)):Nat)):Int)+(((st.length-(st.filter fun j=>decide (j<hs.length)).length:Nat)):Int)=(((uA (fun i=>hs.getD i 0) (st.filter fun i=>decide (i<hs.length)):Nat)):Int)+(st.length:Int)-((st.filter fun i=>decide (i<hs.length)).length:Int) by omega]
    exact q3
theorem xD {f:Nat->Int} {n:Nat} {ts:List (Addr×Addr×Str×Int×List Nat)} {i:Nat} {x:Addr×Addr×Str×Int×List Nat} (hx:ts[i]?=some x) (hb:brk f n x.2.2.1 x.2.2.2.1 x.2.2.2.2=true) (al:∀y∈ts.take i,brk f n y.2.2.1 y.2.2.2.1 y.2.2.2.2=false):jW f n ts=some i:=by
 obtain⟨h1,e1⟩:=Ac.mp hx
 unfold jW
 rw[Bt]
 refine⟨h1,by rw[e1];exact hb,fun j hj=>?_⟩
 have:=al ts[j] (AV.mpr ⟨j,by rw[List.getElem?_take_of_lt hj,Aa]⟩)
 rw[this]
 exact Ag
theorem xE {f:Nat->Int} {n:Nat} {ts:List (Addr×Addr×Str×Int×List Nat)} (al:∀y∈ts,brk f n y.2.2.1 y.2.2.2.1 y.2.2.2.2=false):jW f n ts=none:=by
 unfold jW
 rw[List.findIdx?_eq_none_iff]
 exact al
theorem uo (P:Nat->Prop) (n:Nat) (h:∃j,j<n/\P j):∃j,j<n/\P j/\∀m,m<j->¬P m:=by
 induction n with
 | zero=>obtain⟨j,z,_⟩:=h;omega
 | succ n ih=>
  by_cases c:∃j,j<n/\P j
  ·obtain⟨j,a,b⟩:=ih c
   exact⟨j,by omega,b⟩
  ·obtain⟨j,a,b⟩:=h
   have:j=n:=Decidable.byContradiction fun z=>c ⟨j,by omega,b⟩
   subst this
   exact⟨j,a,b,fun m hm y=>c ⟨m,hm,y⟩⟩
theorem uq {H0:Hp} {c:Addr} {H H':Hp} (s:SameBut c H H'):Same (lW c (nw H0 H)) (lW c (nw H0 H')):=fun b o e=>by
 obtain⟨n,e⟩:=kW e
 obtain⟨e1,e2⟩:=dW e
 unfold lW
 rw[if_neg n]
 exact cj e1 (s b o n e2)
theorem vC {H0:Hp} {c:Addr} {H H':Hp} (s:Same H H'):Same (lW c (nw H0 H)) (lW c (nw H0 H')):=uq fun b o _ e=>s b o e
inductive spN_law_paper (K:PySem.W.Frag) (m:Nat) (vs:List V) (H:Hp) (Q:VK) (E:XK):Prop where
 | mk (pa b ta:Addr) (more:Int) (deep:Nat) (p:List Int) (rs:List Addr) (rows:bN) (U:List Int) (ts:List (Addr×Addr×Str×Int×List Nat)) (f0:vs=[.ref pa,.ref b,.ref ta,.int more,.int ((deep:Nat):Int)]) (f1:H pa=some (.lst (p.map V.int))) (f2:H b=some (.lst (rs.map V.ref))) (f3:BillL H rs rows) (f4:QB rows U) (f5:Ties K H ta ts 100) (f6:bG p) (f7:p.length<=deep) (f8:deep<=rows.length) (f9:deep<p.length+m) (f10:∀v g H',Same H H'->BPapAt (nw H H') v g->PapIs rows ts more deep p g->Q v H'):spN_law_paper K m vs H Q E
def gX (K:PySem.W.Frag):Sp:=spN_law_paper K 7
theorem bj:FnScope ["pattern","bill","ties","more","deep","k","pools","block","longer","prices","met","costs"] ["pattern","bill","ties","more","deep"] (ao e8):=⟨rfl,rfl,rfl,by decide +kernel,rfl,by decide +kernel,by decide +kernel⟩
theorem mD (D:Dfs K mg aF dF) (T:Txt mg):FnOk P w K mg base a8 17 (aF 39) (dF 39) ["pattern","bill","ties","more","deep"] (gX K):=by
 have Glaw_wide:FnOk P w K mg base a8 1 (aF 35) (dF 35) ["pattern"] (sp_law_wide K):=n9 D T
 have Glaw_pool:FnOk P w K mg base a8 1 (aF 36) (dF 36) ["block","pattern","bill"] (sp_law_pool K):=oa D T
 have Glaw_minutes:FnOk P w K mg base a8 1 (aF 37) (dF 37) ["badge","block","pattern","bill"] (sp_law_minutes K):=jM D T
 have Glaw_breaks:FnOk P w K mg base a8 1 (aF 38) (dF 38) ["pattern","tie"] (fK K):=j5 D T
 have all:∀n,FnOk P w K mg base a8 (10+n) (aF 39) (dF 39) ["pattern","bill","ties","more","deep"] (spN_law_paper K n):=by
  intro n
  induction n with
  | zero=>
   have no:∀vs H Q E,¬spN_law_paper K 0 vs H Q E:=fun vs H Q E h=>by
    obtain⟨pa,b,ta,more,deep,p,rs,rows,U,ts,_,_,_,_,_,_,_,h1,_,h2,_⟩:=h
    omega
   exact⟨fun vs H Q E h=>absurd h (no vs H Q E),fun A outer s H args us vs Q E _ _ _ _ h=>absurd h (no vs H Q E)⟩
  | succ n Glaw_paper=>
   refine D.law_paper.fn.ok bj (fun vs H Q E h=>?_) (fun cdv A outer s H vs Q E hr h=>?_)
   ·obtain⟨pa,b,ta,more,deep,p,rs,rows,U,ts,rfl,_⟩:=h;rfl
   obtain⟨pa,b,ta,more,deep,p,rs,rows,U,ts,rfl,hpa,hb,bl,qb,tt,c,hpd,dr,hdm,q⟩:=h
   have hl:p.length<=rows.length:=AC hpd dr
   have rk:Nat.add 10 n=10+n:=rfl
   refine aD 8 (ah (ar (aj (aa av (aa (pv 9) (aa (aK ["badge","more"] [none,some 3] rfl (jc K (ai (jk w) (by rfl) T.z_sorted boot_sorted (aa (aL (nj w K) (by rfl) T.z_set PyProof.Rows.boot_set (aa (pv 10) ab)) ab))) (fun _=>au (i:=0) (aB (N:=["badge","more"]) (by decide +kernel)) rfl (Or.inl rfl)) (fun _=>aM) (fun _=>(aj (aa (pv 0) (aa (pv 1) ab)))) ((.cons (fun _ e=>by cases e) (.cons (fun _ e=>by cases e;exact⟨rfl,rfl⟩) .nil)))) ab)))))) ?_
   intro Z0 z0
   refine aD 7 (ag (aU (ay bY (pv 3) ae (az _))
    (ah (ar (aj (aa av (aa (pv 9) (aa (aq ab) ab))))))
    aA) z0) ?_
   intro Z0 z0
   refine aD 6 (ag (b8 PassesOwn.never rfl (aZ rfl T.z_range (aa (ai (bC K) (by rfl) T.z_len boot_len (aa (pv 6) ab)) ab)) (au (i:=7) bj.nd rfl (Or.inr rfl))
    (ag (cw (i₀:=11) bj.nd rfl (Or.inl rfl) ["badge","block","pattern","bill"] [none,some 7,some 0,some 1] rfl (jc K (aw (cN K) (pv 6) (pv 7) (fun _ _=>rfl))) (fun _=>au (i:=0) (aB (N:=["badge","block","pattern","bill"]) (by decide +kernel)) rfl (Or.inl rfl)) (fun _=>aM) (fun _=>(pc D.law_minutes Glaw_minutes (hr.mono (by have:=rk;omega)) (aa (pv 0) (aa (pv 1) (aa (pv 2) (aa (pv 3) ab)))))) ((.cons (fun _ e=>by cases e) (.cons (fun _ e=>by cases e;exact⟨rfl,rfl⟩) (.cons (fun _ e=>by cases e;exact⟨rfl,rfl⟩) (.cons (fun _ e=>by cases e;exact⟨rfl,rfl⟩) .nil))))))
    (ag (cZ (gx PySem.F.plainAttrs_list PySem.F.slot_list_append PySem.F.type_list_append bT (pv 9) (aa (ak aQ (ai (yo K) (by rfl) T.z_min boot_min (aa (pv 11) ab)) (pv 3)) ab)))
    (ah (ax (i:=10) bj.nd rfl (Or.inl rfl) (ak di (pv 10) (aw (cN K) (pv 6) (pv 7) (fun _ _=>rfl)))))))) z0) ?_
   intro Z0 z0
   refine aD 5 (ag (ax (i:=10) bj.nd rfl (Or.inl rfl) (aq ab)) z0) ?_
   intro Z0 z0
   refine aD 4 (ag (ax (i:=9) bj.nd rfl (Or.inl rfl) (aq ab)) z0) ?_
   intro Z0 z0
   refine aD 3 (ag (aU (ay fD (ai (bC K) (by rfl) T.z_len boot_len (aa (pv 0) ab)) (pv 4) (az _))
    (ag (cw (i₀:=8) bj.nd rfl (Or.inl rfl) ["k","pattern"] [none,some 0] rfl (aZ rfl T.z_range (aa (ak aQ (ai (bC K) (by rfl) T.z_len boot_len (aa (pv 6) ab)) ae) ab)) (fun _=>au (i:=0) (aB (N:=["k","pattern"]) (by decide +kernel)) rfl (Or.inl rfl)) (fun _=>aM) (fun _=>(ak di (pv 1) (aq (aa (pv 0) ab)))) ((.cons (fun _ e=>by cases e) (.cons (fun _ e=>by cases e;exact⟨rfl,rfl⟩) .nil))))
    (ah (ar (aj (aa av (aa (aK ["one","bill","ties","more","deep"] [none,some 1,some 2,some 3,some 4] rfl (jc K (pv 8)) (fun _=>au (i:=0) (aB (N:=["one","bill","ties","more","deep"]) (by decide +kernel)) rfl (Or.inl rfl)) (fun _=>aM) (fun _=>(pc D.law_paper Glaw_paper hr (aa (pv 0) (aa (pv 1) (aa (pv 2) (aa (pv 3) (aa (pv 4) ab))))))) ((.cons (fun _ e=>by cases e) (.cons (fun _ e=>by cases e;exact⟨rfl,rfl⟩) (.cons (fun _ e=>by cases e;exact⟨rfl,rfl⟩) (.cons (fun _ e=>by cases e;exact⟨rfl,rfl⟩) (.cons (fun _ e=>by cases e;exact⟨rfl,rfl⟩) .nil))))))) ab))))))
    aA) z0) ?_
   intro Z0 z0
   refine aD 2 (ag (aU (ay (zU K hr.units) (aq ab) (pv 6) (by with_unfolding_all rfl))
    (ah (ar (aj (aa av (aa (aq (aa (gx PySem.F.plainAttrs_list PySem.F.slot_list_index PySem.F.type_list_index (qZ K hr.units) (pv 6) (aa (aq ab) ab)) ab)) ab)))))
    aA) z0) ?_
   intro Z0 z0
   refine aD 1 (ag (cw (i₀:=6) bj.nd rfl (Or.inl rfl) ["block","pattern","bill"] [none,some 0,some 1] rfl (aZ rfl T.z_range (aa (pc D.law_wide Glaw_wide (hr.mono (by have:=rk;omega)) (aa (pv 0) ab)) ab)) (fun _=>au (i:=0) (aB (N:=["block","pattern","bill"]) (by decide +kernel)) rfl (Or.inl rfl)) (fun _=>aM) (fun _=>(pc D.law_pool Glaw_pool (hr.mono (by have:=rk;omega)) (aa (pv 0) (aa (pv 1) (aa (pv 2) ab))))) ((.cons (fun _ e=>by cases e) (.cons (fun _ e=>by cases e;exact⟨rfl,rfl⟩) (.cons (fun _ e=>by cases e;exact⟨rfl,rfl⟩) .nil))))) z0) ?_
   intro Z0 z0
   refine⟨_,(ag (b8 PassesOwn.never rfl (aZ rfl T.z_range (aa (ai (bC K) (by rfl) T.z_len boot_len (aa (pv 2) ab)) ab)) (au (i:=5) bj.nd rfl (Or.inl rfl))
    (ah (aU (b7 (pc D.law_breaks Glaw_breaks (hr.mono (by have:=rk;omega)) (aa (pv 0) (aa (aw (cN K) (pv 2) (pv 5) (fun _ _=>rfl)) ab))))
     (ah (ar (aj (aa av (aa (pv 5) ab)))))
     aA))) z0),?_⟩
   have r6:=qb.r6
   have dl:=bK p
   have tl:=tt.ln
   have tOk:∀Hx,Same H Hx->Ties K Hx ta ts 100:=fun Hx sx=>⟨sx.seq tt.ls,fun x hx=>(tt.ea x hx).same sx,tt.ln⟩
   refine⟨_,rfl,_,ts.length,rfl,.inl ⟨_,tt.ls,by rw[zZ]⟩,_,rfl,gI _,by omega,?_⟩
   rw[AF]
   refine b9 (n:=ts.length) (fun i σ Hx=>∃x:Option V,σ=[some (.ref pa),some (.ref b),some (.ref ta),some (.int more),some (.int ((deep:Nat):Int)),x,none,none,none,none,none,none]/\Same H Hx/\∀y∈ts.take i,brk (fun i=>p.getD i 0) p.length y.2.2.1 y.2.2.2.1 y.2.2.2.2=false) ⟨none,rfl,Same.refl _,fun _ z=>by cases z⟩ ?_ ?_
   ·rintro i σ Hx hi ⟨x,rfl,sx,al⟩
    have ei:(0:Int)+(i:Int)=((i:Nat):Int):=by omega
    rw[ei]
    obtain⟨y,hy⟩:∃y,ts[i]?=some y:=⟨_,Aa hi⟩
    have te:=(tt.ea y (Ah hy)).same sx
    refine⟨_,rfl,_,rfl,_,rfl,ta,_,_,_,rfl,rfl,sx.seq tt.ls,bh (by rw[Ae,hy];rfl),pa,y.1,y.2.1,p,y.2.2.2.2,y.2.2.1,y.2.2.2.1,rfl,SqL.of (sx _ _ hpa),SqT.of te.tp,SqT.of te.ts,te.wd,te.sl,fun H1 s1=>⟨_,rfl,uz (fun hbk=>?_) fun hbk=>?_⟩⟩
    ·refine⟨_,rfl,cE,fun t nt=>?_⟩
     have s2:=(sx.trans s1).to (o:= .tup [.str "tie",.int ((i:Nat):Int)]) nt
     exact q _ _ _ s2 (.tie (cj ((sx.trans s1).free nt) af)) (.tie (xD hy hbk al))
    ·refine⟨_,rfl,sx.trans s1,fun z hz=>?_⟩
     rw[ik hy]at hz
     rcases AH.mp hz with w' | w'
     ·exact al z w'
     ·rw [Am.mp w'];exact hbk
   rintro σ H1 ⟨x5,rfl,s1,al⟩
   rw[A3]at al
   have fn:=xE al
   refine⟨_,rfl,pa,p,rfl,SqL.of (s1 _ _ hpa),by omega,fun H2 s2=>⟨_,rfl,gI _,by omega,?_⟩⟩
   rw[AF]
   have s02:=s1.trans s2
   refine ia (n:=(dd p).length) (fun acc ys Hy=>∃us:List Addr,ys=us.map V.ref/\RowsL Hy us ((Ad ys.length).map fun b=>bQ rows (aP p b))/\∀u∈us,u≠acc) (by omega) (fun acc ys Hx Hy ⟨us,e,ro,ne⟩ sb=>⟨us,e,ro.but ne sb,ne⟩) (fun _ _=>⟨[],rfl,.nil,fun _ z=>by cases z⟩) (fun acc j ys H3 R hj s3 nacc hacc yl ⟨us,e,ro,ne⟩ k=>?_) fun po ys H3 s3 npo hpo yl ⟨us,e,ro,ne⟩=>?_
   ·have s03:=s02.trans s3
    have ej:(0:Int)+(j:Int)=((j:Nat):Int):=by omega
    refine⟨_,rfl,_,rfl,_,rfl,j,pa,b,p,rs,rows,(by show [V.int (0+(j:Int)),_,_]=_;rw[ej]),SqL.of (s03 _ _ hpa),s03 _ _ hb,bl.same s03,c,hj,hl,r6,qb.ok,fun u H4 s4 nu hu'=>?_⟩
    have ua:u≠acc:=fun z=>by rw[z,hacc]at nu;cases nu
    refine k _ H4 s4 ⟨us++[u],by rw[e,Aw];rfl,?_,fun z hz=>?_⟩
    ·rw [Ai,Aq,A0,Aw,yl]
     rw[yl]at ro
     exact bM (ro.same s4) hu'
    ·rcases AH.mp hz with w' | w'
     ·exact ne z w'
     ·rw [Am.mp w'];exact ua
   subst e
   rw[yl]at ro
   rw[zZ]at yl
   have s03:=s02.trans s3
   have uk:∀{Hx:Hp} {j:Nat},Same H3 Hx->j<(dd p).length->Hx (us.getD j 0)=some (.lst ((bQ rows (aP p j)).map V.int)):=fun {Hx j} sx hj=>by
    obtain⟨u,e1,e2⟩:=ro.at (i:=j) (p:=bQ rows (aP p j)) (by rw[Ae,AN hj];rfl)
    rw[show us.getD j 0=u from xO e1]
    exact sx _ _ e2
   have emp:∀{Hx:Hp} {j:Nat},Same H3 Hx->j<(dd p).length->o6 Hx (us.getD j 0)=(bQ rows (aP p j)).isEmpty:=fun {Hx j} sx hj=>by
    unfold o6
    rw[uk sx hj]
    cases bQ rows (aP p j)<;>rfl
   have ude:∀{Hx:Hp} {e:Addr},Same H3 Hx->Hx e=some (.lst [])->∀u∈us,DEq K Hx 1 (.ref u) (.ref e) (o6 Hx u):=fun {Hx e} sx he u hu'=>by
    obtain⟨j,hj⟩:=AV.mp hu'
    obtain⟨_,_,e2⟩:=cy ro hj
    exact vj (sx _ _ e2) (SqL.of he)
   refine⟨cE,fun e0 ne0=>?_⟩
   have s4:=Same.new (o:= .lst []) ne0
   have he0:aG H3 e0 (.lst []) e0=some (.lst []):=af
   generalize aG H3 e0 (.lst [])=H4 at s4 he0
   refine⟨_,rfl,po,us,1,o6 H4,rfl,SqL.of (s4 _ _ hpo),by decide,ude s4 he0,_,rfl,?_⟩
   rw[if_neg Ag]
   refine uz (fun hany=>?_) fun hany=>?_
   ·obtain⟨u,hu',eu⟩:=List.any_eq_true.mp hany
    obtain⟨j0,hj0⟩:=AV.mp hu'
    have j0l:=(Ac.mp hj0).1
    obtain⟨j,jl,je,jf⟩:=uo (fun j=>bQ rows (aP p j)=[]) (dd p).length ⟨j0,by omega,by
     have:=emp s4 (show j0<(dd p).length by omega)
     rw[xO hj0,eu]at this
     exact List.isEmpty_iff.mp this.symm⟩
    have s04:=s03.trans s4
    refine⟨_,rfl,.inl ⟨rfl,_,SqL.of (s4 _ _ hpo)⟩,cE,fun e1 ne1=>?_⟩
    have s5:=Same.new (o:= .lst []) ne1
    have he1:aG H4 e1 (.lst []) e1=some (.lst []):=af
    generalize aG H4 e1 (.lst [])=H5 at s5 he1
    have s45:=s4.trans s5
    refine⟨po,us,_,1,j,o6 H5,rfl,rfl,s45 _ _ hpo,by decide,ude s45 he1,by omega,?_,fun m hm=>?_,by omega,cE,fun l nl=>⟨cE,fun t nt=>?_⟩⟩
    ·rw [emp s45 jl,je];rfl
    ·rw [emp s45 (by omega)]
     cases e:bQ rows (aP p m)with
     | nil=>exact absurd e (jf m hm)
     | cons x r=>rfl
    have s05:=s04.trans s5
    have s6:=Same.new (o:= .lst [.int ((j:Nat):Int)]) nl
    have s7:=Same.new (o:= .tup [.str "short",.ref l]) nt
    exact q _ _ _ ((s05.trans s6).trans s7) (.short (cj ((s05.trans s6).free nt) af) (cj (s05.free nl) (s7 _ _ af))) (.short fn jl je jf)
   have nek:∀j,j<(dd p).length->bQ rows (aP p j)≠[]:=fun j hj z=>by
    have:=List.any_eq_false.mp hany (us.getD j 0) (by rw[Ab,Aa (by omega)];exact Ax _)
    rw[emp s4 hj,z]at this
    exact this rfl
   have s04:=s03.trans s4
   have hpo4:=s4 _ _ hpo
   refine⟨_,rfl,_,p.length,rfl,.inl ⟨_,SqL.of (s04 _ _ hpa),by rw[zZ]⟩,_,rfl,_,_,rfl,rfl,_,rfl,sy (fun lt=>?_) fun ge=>?_⟩
   ·have lt:p.length<deep:=by omega
    refine⟨_,rfl,_,(dd p).length,rfl,.inl ⟨_,SqL.of hpo4,by rw[zZ];exact yl.symm⟩,_,_,rfl,rfl,_,rfl,by omega,by omega,?_⟩
    rw[show(((dd p).length:Int)+1).toNat=(dd p).length+1 by omega]
    refine ia (n:=(dd p).length+1) (fun acc ys Hy=>∃ls:List Addr,ys=ls.map V.ref/\RowsL Hy ls ((Ad ys.length).map fun(k:Nat)=>p++[(k:Int)])/\∀u∈ls,u≠acc) (by omega) (fun acc ys Hx Hy ⟨ls,e,ro,ne⟩ sb=>⟨ls,e,ro.but ne sb,ne⟩) (fun _ _=>⟨[],rfl,.nil,fun _ z=>by cases z⟩) (fun acc j ys H5 R hj s5 nacc hacc yl2 ⟨ls,e,ro2,ne2⟩ k=>?_) fun lg ys H5 s5 nlg hlg yl2 ⟨ls,e,ro2,ne2⟩=>?_
    ·have ej:(0:Int)+(j:Int)=((j:Nat):Int):=by omega
     rw[ej]
     refine⟨_,rfl,_,rfl,cE,fun q1 nq1=>?_⟩
     have s6:=Same.new (o:= .lst [V.int ((j:Nat):Int)]) nq1
     refine⟨pa,q1,_,_,rfl,rfl,s6 _ _ ((s04.trans s5) _ _ hpa),af,vP (by simp;omega),fun u nu=>?_⟩
     have e5:p.map V.int++[V.int ((j:Nat):Int)]=(p++[((j:Nat):Int)]).map V.int:=by rw[Aw];rfl
     rw[e5]
     have s7:=s6.to (o:= .lst ((p++[((j:Nat):Int)]).map V.int)) nu
     have ua:u≠acc:=fun z=>by rw[z,s6 _ _ hacc]at nu;cases nu
     refine k _ _ s7 ⟨ls++[u],by rw[e,Aw];rfl,?_,fun z hz=>?_⟩
     ·have er:(Ad (j+1)).map (fun(k:Nat)=>p++[(k:Int)])=(Ad j).map (fun(k:Nat)=>p++[(k:Int)])++[p++[(j:Int)]]:=by rw[A0,Aw];rfl
      rw[Ai,Aq,yl2,er]
      rw[yl2]at ro2
      exact bM (ro2.same s7) af
     ·rcases AH.mp hz with w' | w'
      ·exact ne2 z w'
      ·rw [Am.mp w'];exact ua
    subst e
    rw[yl2]at ro2
    rw[zZ]at yl2
    have s05:=s04.trans s5
    refine⟨_,rfl,lg,rfl,⟨_,SqL.of hlg⟩,?_⟩
    refine h9 (xs:=ls.map V.ref) (fun acc ys Hy=>∃gs:List BPap,gs.length=ys.length/\∀(i:Nat) v g,ys[i]?=some v->gs[i]?=some g->BPapAt (lW acc (nw H Hy)) v g/\PapIs rows ts more deep (p++[(i:Int)]) g) (SqL.of hlg) (by rw[zZ];omega) (fun acc ys Hx Hy ⟨gs,e,al2⟩ sb=>⟨gs,e,fun i v g hv hg=>⟨(al2 i v g hv hg).1.same (uq sb),(al2 i v g hv hg).2⟩⟩) (fun _ _=>⟨[],rfl,fun i v g z=>by cases z⟩) (fun acc i x ys H6 R hx s6 nacc hacc yl3 ⟨gs,e,al2⟩ k=>?_) fun acc ys H6 s6 nacc hacc yl3 ⟨gs,e,al2⟩=>?_
    ·rw [Ae]at hx
     obtain⟨u,hu',rfl⟩:=An.mp hx
     have il:=(Ac.mp hu').1
     obtain⟨pp,hpp,eu⟩:=cy ro2 hu'
     rw[Ae,AN (by omega)]at hpp
     cases hpp
     have s06:=s05.trans s6
     refine⟨_,rfl,_,rfl,_,rfl,_,rfl,_,rfl,u,b,ta,more,deep,p++[(i:Int)],rs,rows,U,ts,rfl,s6 _ _ eu,s06 _ _ hb,bl.same s06,qb,tOk _ s06,cR c (by omega),by simp;omega,dr,by simp;omega,fun v g H7 s7 bp pi=>?_⟩
     refine k v H7 s7 ⟨gs++[g],by rw[Ai,Ai,e];rfl,fun i' v' g' hv hg=>?_⟩
     by_cases z:i'<ys.length
     ·rw [AM z]at hv
      rw[AM (by omega)]at hg
      exact⟨(al2 i' v' g' hv hg).1.same (vC s7),(al2 i' v' g' hv hg).2⟩
     ·have il':=(Ac.mp hv).1
      rw[Ai,Aq]at il'
      have ei:i'=ys.length:=by omega
      subst ei
      rw[AU (Af _),BB]at hv
      rw[<- e,AU (Af _),BB]at hg
      cases hv
      cases hg
      rw[yl3]
      refine⟨bp.same fun a o z=>?_,pi⟩
      obtain⟨z1,z2⟩:=dW z
      have na:a≠acc:=fun y=>by rw[y,hacc]at z1;cases z1
      unfold lW
      rw[if_neg na]
      exact cj (s06.free z1) z2
    ·rw [zZ,yl2]at yl3
     have s06:=s05.trans s6
     refine⟨cE,fun t nt=>?_⟩
     have s7:=Same.new (o:= .tup [.str "split",.ref acc]) nt
     refine q _ (.split gs) _ (s06.trans s7) (.split (cj (s06.free nt) af) (cj (s05.free nacc) (s7 _ _ hacc)) e.symm fun i v g hv hg=>(al2 i v g hv hg).1.same fun a o z=>?_) (.split fn nek lt (by omega) fun k g hg=>?_)
     ·obtain⟨_,z⟩:=kW z
      obtain⟨z1,z2⟩:=dW z
      exact cj z1 (s7 _ _ z2)
     ·have kl:=(Ac.mp hg).1
      exact(al2 k _ g (Aa (by omega)) hg).2
   ·refine⟨cE,fun lp nlp=>?_⟩
    have s5:=Same.new (o:= .lst []) nlp
    have hlp:aG H4 lp (.lst []) lp=some (.lst []):=af
    generalize aG H4 lp (.lst [])=H5 at s5 hlp
    refine⟨cE,fun lm nlm=>?_⟩
    have s6:=Same.new (o:= .lst []) nlm
    have hlm:aG H5 lm (.lst []) lm=some (.lst []):=af
    have hlp6:=s6 _ _ hlp
    have nmp:lm≠lp:=fun z=>by rw[z,hlp]at nlm;cases nlm
    generalize aG H5 lm (.lst [])=H6 at s6 hlm hlp6
    have s46:=s5.trans s6
    refine⟨_,rfl,_,(dd p).length,rfl,.inl ⟨_,SqL.of (s46 _ _ hpo4),by rw[zZ];exact yl.symm⟩,_,rfl,gI _,by omega,?_⟩
    rw[AF]
    refine b9 (n:=(dd p).length) (fun i σ Hx=>∃(x7 x11:Option V) (lm:Addr) (pr ms:List Int),σ=[some (.ref pa),some (.ref b),some (.ref ta),some (.int more),some (.int ((deep:Nat):Int)),x5,some (.ref po),x7,none,some (.ref lp),some (.ref lm),x11]/\Same H4 Hx/\Hx lp=some (.lst (pr.map V.int))/\pr.length=i/\(∀b,b<i->∃m,pr.getD b 0=m+more/\m∈fI rows p b/\∀x∈fI rows p b,m<=x)/\lm≠lp/\Hx lm=some (.lst (ms.map V.int))/\ms.length<=20*i/\∀x,x∈ms<->∃b,b<i/\x∈bQ rows (aP p b)) ⟨none,none,lm,[],[],rfl,s46,hlp6,rfl,fun b z=>by omega,nmp,hlm,Az _,fun x=>⟨(fun z=>by cases z),(fun⟨_,z,_⟩=>by omega)⟩⟩ ?_ ?_
    ·rintro i σ Hx hi ⟨x7,x11,lm,pr,ms,rfl,sx,hlp,prl,prm,nmp,hlm,msl,msm⟩
     have ei:(0:Int)+(i:Int)=((i:Nat):Int):=by omega
     rw[ei]
     have s3x:=s4.trans sx
     have s0x:=s04.trans sx
     have ui:=uk s3x hi
     have kl:=(gN qb (aP p i) (bL c hi))
     have uat:lz (us.map V.ref) (i:Int)=some (.ref (us.getD i 0)):=bh (by rw[Ae,Aa (by omega),Ab,Aa (by omega)];rfl)
     generalize us.getD i 0=u at ui uat
     refine⟨_,rfl,_,rfl,po,_,_,_,rfl,rfl,SqL.of (sx _ _ hpo4),uat,u,rfl,⟨_,SqL.of ui⟩,?_⟩
     refine bA (xs:=(bQ rows (aP p i)).map V.int) (fun _=>true) (fun j=> .int (gJ rows (aP p i) ((bQ rows (aP p i)).getD j 0))) (SqL.of ui) (by rw[zZ];omega) (fun _ _ _ _ _ _ k=>k _ (Same.refl _)) (fun j v hv _ H7 R s7 k=>?_) fun cl H7 s7 ncl hcl=>?_
     ·obtain⟨g,hg,rfl,ed⟩:=dU hv
      rw[ed]at k
      have s07:=s0x.trans s7
      exact⟨_,rfl,_,rfl,_,rfl,_,rfl,g,i,pa,b,p,rs,rows,rfl,SqL.of (s07 _ _ hpa),s07 _ _ hb,bl.same s07,hl,r6,qb.nd,(nK _ (bL c hi) g).mp (Ah hg),fun H8 s8=>k H8 s8⟩
     rw[AG.mpr (fun _ _=>rfl),zZ]at hcl
     have ec:(Ad (bQ rows (aP p i)).length).map (fun j=>V.int (gJ rows (aP p i) ((bQ rows (aP p i)).getD j 0)))=(fI rows p i).map V.int:=by
      unfold fI
      rw[Au]
      exact ie fun j x hx=>by rw[xO hx];rfl
     rw[ec]at hcl
     have hlp7:=s7 _ _ hlp
     have cne:fI rows p i≠[]:=fun z=>nek i hi (List.map_eq_nil_iff.mp z)
     refine⟨_,rfl,.inl ⟨rfl,_,SqL.of hlp7⟩,_,rfl,cl,fI rows p i,rfl,SqL.of hcl,cne,fun m hm1 hm2=>⟨_,rfl,_,_,rfl,rfl,lp,_,_,rfl,rfl,hlp7,oi (by rw[zZ];omega),?_⟩⟩
     have s8:Same H4 (aG H7 lp (.lst (pr.map V.int++[.int (m+more)]))):=(sx.trans s7).put nlp
     have hlp8:aG H7 lp (.lst (pr.map V.int++[.int (m+more)])) lp=some (.lst ((pr++[m+more]).map V.int)):=by rw[af,Aw];rfl
     have hlm8:aG H7 lp (.lst (pr.map V.int++[.int (m+more)])) lm=some (.lst (ms.map V.int)):=by rw[aE nmp];exact s7 _ _ hlm
     have ul:u≠lp:=fun z=>by
      have:=uk s4 hi
      have e2:=uk s3x hi
      rw[z]at ui
      have:H3 lp=none:=by
       cases y:H3 lp with
       | none=>rfl
       | some o=>have:=s4 _ _ y;rw[nlp]at this;cases this
      obtain⟨u',w1,w2⟩:=ro.at (i:=i) (p:=bQ rows (aP p i)) (by rw[Ae,AN hi];rfl)
      rw[bh (by rw[Ae,w1];rfl)]at uat
      cases uat
      rw[z,this]at w2
      cases w2
     have hu8:aG H7 lp (.lst (pr.map V.int++[.int (m+more)])) u=some (.lst ((bQ rows (aP p i)).map V.int)):=by rw[aE ul];exact s7 _ _ ui
     generalize aG H7 lp (.lst (pr.map V.int++[.int (m+more)]))=H8 at s8 hlp8 hlm8 hu8
     refine⟨_,rfl,_,rfl,_,rfl,po,_,_,_,rfl,rfl,SqL.of (s8 _ _ hpo4),uat,lm,u,_,_,rfl,rfl,hlm8,hu8,vP (by rw[zZ,zZ];omega),fun lm2 nlm2=>?_⟩
     have n2:lm2≠lp:=fun z=>by rw[z,hlp8]at nlm2;cases nlm2
     have s9:=Same.new (o:= .lst (ms.map V.int++(bQ rows (aP p i)).map V.int)) nlm2
     refine⟨_,_,lm2,pr++[m+more],ms++bQ rows (aP p i),rfl,s8.trans s9,s9 _ _ hlp8,by rw[Ai,prl];rfl,fun j hj=>?_,n2,by rw[af,Aw],by rw[Ai];omega,fun x=>?_⟩
     ·by_cases z:j<i
      ·obtain⟨m',a1,a2⟩:=prm j z
       refine⟨m',?_,a2⟩
       rw[Ab,AM (by omega),<- Ab]
       exact a1
      ·have:j=i:=by omega
       subst this
       refine⟨m,?_,hm1,hm2⟩
       rw[Ab,AU (by omega),prl,BB]
       rfl
     ·rw [AH,msm]
      constructor
      ·rintro(⟨b',h1,h2⟩ | h)
       ·exact⟨b',by omega,h2⟩
       ·exact⟨i,by omega,h⟩
      ·rintro⟨b',h1,h2⟩
       by_cases z:b'=i
       ·subst z;exact .inr h2
       ·exact .inl ⟨b',by omega,h2⟩
    ·rintro σ Hx ⟨x7,x11,lm,pr,ms,rfl,sx,hlp,prl,prm,nmp,hlm,msl,msm⟩
     have s0x:=s04.trans sx
     have nlp0:=s04.free nlp
     refine⟨_,rfl,rfl,_,rfl,lI (fun m0=>?_) fun m0=>?_⟩
     ·refine⟨_,rfl,cE,fun ed ned=>⟨cE,fun t nt=>?_⟩⟩
      have s7:=Same.new (o:= .lst []) ned
      have s8:=Same.new (o:= .tup [.str "dear",.ref lp,.ref ed]) nt
      have s78:=s7.trans s8
      exact q _ (.dear pr []) _ (s0x.trans s78) (.dear (cj ((s0x.trans s7).free nt) af) (cj nlp0 (s78 _ _ hlp)) ⟨[],cj (s0x.free ned) (s8 _ _ af),.nil⟩) (.dear fn nek (by omega) prl prm (.inl ⟨m0,rfl⟩))
     ·refine⟨_,rfl,_,rfl,lm,ms,rfl,SqL.of hlm,by omega,fun S nS=>?_⟩
      have dml:=bK ms
      have dm26:(dd ms).length<=26:=AC ((kL ms).length_le_of_subset (l₂:=U) fun x hx=>by
       obtain⟨b',h1,h2⟩:=(msm x).mp (bP.mp hx)
       exact(gN qb (aP p b') (bL c h1)).2.2 x h2) qb.u26
      refine⟨S,dd ms,rfl,af,by omega,fun l2 ks nl2 pm sr=>?_⟩
      have s7:=Same.new (o:= .ext (SX w S (dd ms))) nS
      have s8:=s7.to (o:= .lst (ks.map V.int)) nl2
      have hl2:aG (aG Hx S (.ext (SX w S (dd ms)))) l2 (.lst (ks.map V.int)) l2=some (.lst (ks.map V.int)):=af
      generalize aG (aG Hx S (.ext (SX w S (dd ms)))) l2 (.lst (ks.map V.int))=H8 at s8 hl2
      have kup:ks.Pairwise (· < ·):=lV sr (pm.nodup_iff.mpr (kL ms))
      have kml:ks.length<=26:=by rw[pm.length_eq];exact dm26
      refine⟨l2,rfl,⟨_,SqL.of hl2⟩,?_⟩
      refine h9 (xs:=ks.map V.int) (fun acc ys Hy=>∃us:List Addr,ys=us.map V.ref/\Paired (fun u x=>u≠acc/\H8 u=none/\bR Hy u x) us ((ks.take ys.length).map fun k=>(k,more))) (SqL.of hl2) (by rw[zZ];omega) (fun acc ys Hx Hy ⟨us,e,tp⟩ sb=>⟨us,e,Paired.mapP tp fun u x ⟨n,h1,h⟩=>⟨n,h1,sb _ _ n h⟩⟩) (fun _ _=>⟨[],rfl,.nil⟩) (fun acc i x ys H9 R hx s9 nacc hacc yl4 ⟨us,e,tp⟩ k=>?_) fun acc ys H9 s9 nacc hacc yl4 ⟨us,e,tp⟩=>?_
      ·obtain⟨g,hg,rfl,_⟩:=dU hx
       refine⟨_,rfl,_,rfl,cE,fun u nu=>?_⟩
       have s10:=Same.new (o:= .tup [.int g,.int more]) nu
       have ua:u≠acc:=fun z=>by rw[z,hacc]at nu;cases nu
       refine k _ _ s10 ⟨us++[u],by rw[e,Aw];rfl,?_⟩
       rw[Ai,Aq,yl4,ik hg,Aw]
       rw[yl4]at tp
       exact bM (Paired.mapP tp fun u x ⟨n,h1,h⟩=>⟨n,h1,s10 _ _ h⟩) ⟨ua,s9.free nu,af⟩
      ·subst e
       rw[zZ,zZ]at yl4
       rw[zZ,yl4,A3]at tp
       have s09:=(s0x.trans s8).trans s9
       refine⟨cE,fun t nt=>?_⟩
       have s10:=Same.new (o:= .tup [.str "dear",.ref lp,.ref acc]) nt
       have s910:=s9.trans s10
       refine q _ (.dear pr (ks.map fun k=>(k,more))) _ (s09.trans s10) (.dear (cj (s09.free nt) af) (cj nlp0 (s910 _ _ (s8 _ _ hlp))) ⟨us,cj ((s0x.trans s8).free nacc) (s10 _ _ hacc),Paired.mapP tp fun u x ⟨_,h1,h⟩=>cj ((s0x.trans s8).free h1) (s10 _ _ h)⟩) (.dear fn nek (by omega) prl prm (.inr ⟨m0,ks,rfl,kup,fun x=>by rw[pm.mem_iff,bP,msm]⟩))
 exact all 7
inductive LstIs:BPap->Option Int->Prop where
 | tie {j:Int}:LstIs (.tie j) none
 | short {bs:List Int}:LstIs (.short bs) none
 | dear {pr:List Int} {es:List (Int×Int)}:LstIs (.dear pr es) (some (pr.sum-(es.map (·.2)).sum))
 | split {ps:List BPap} {os:List (Option Int)} {r:Option Int} (hn:os.length=ps.length) (h:∀(i:Nat) q o,ps[i]?=some q->os[i]?=some o->LstIs q o) (hr:(r=none/\∀o∈os,o=none)\/∃m,r=some m/\some m∈os/\∀x,some x∈os->m<=x):LstIs (.split ps) r
theorem ur (os:List (Option Int)):((Ad os.length).filter fun j=>(os.getD j none).isSome).map (fun j=>hV (os.getD j none))=(os.filterMap id).map V.int:=by
 have e:((Ad os.length).filter fun j=>(os.getD j none).isSome).map (fun j=>hV (os.getD j none))=(((Ad os.length).map fun j=>os.getD j none).filter Option.isSome).map hV:=by
  rw[BJ,Au];rfl
 rw[e,jt]
 induction os with
 | nil=>rfl
 | cons o os ih=>
  have ih:=ih (by rw[BJ,Au];rfl)
  cases o with
  | none=>exact ih
  | some v=>exact congrArg (V.int v :: ·) ih
inductive spN_law_least (K:PySem.W.Frag) (m:Nat) (vs:List V) (H:Hp) (Q:VK) (E:XK):Prop where
 | mk (v:V) (g:BPap) (r:Nat) (f0:vs=[v]) (f1:BPapAt H v g) (f2:BBnd g) (f3:BRk r g) (f4:r<m) (f5:∀o H',Same H H'->LstIs g o->Q (hV o) H'):spN_law_least K m vs H Q E
def gY (K:PySem.W.Frag):Sp:=spN_law_least K 7
theorem eE:FnScope ["paper","ends"] ["paper"] (ao e9):=⟨rfl,rfl,rfl,by decide +kernel,rfl,by decide +kernel,by decide +kernel⟩
theorem mE (D:Dfs K mg aF dF) (T:Txt mg):FnOk P w K mg base a8 17 (aF 40) (dF 40) ["paper"] (gY K):=by
 have all:∀n,FnOk P w K mg base a8 (10+n) (aF 40) (dF 40) ["paper"] (spN_law_least K n):=by
  intro n
  induction n with
  | zero=>
   have no:∀vs H Q E,¬spN_law_least K 0 vs H Q E:=fun vs H Q E h=>by
    obtain⟨v,g,r,_,_,_,_,h1,_⟩:=h
    omega
   exact⟨fun vs H Q E h=>absurd h (no vs H Q E),fun A outer s H args us vs Q E _ _ _ _ h=>absurd h (no vs H Q E)⟩
  | succ n Glaw_least=>
   refine D.law_least.fn.ok eE (fun vs H Q E h=>?_) (fun cdv A outer s H vs Q E hr h=>?_)
   ·obtain⟨v,g,r,rfl,_⟩:=h;rfl
   obtain⟨v,g,r,rfl,pat,gb,gr,rn,q⟩:=h
   have rk:Nat.add 10 n=10+n:=rfl
   refine aD 2 (ah (ar bU)) ?_
   intro Z0 z0
   refine aD 1 (ag (aU (ay bY (aw (eJ K) (pv 0) ae (fun _ _=>rfl)) av (az _))
    (ah (ar (ak dh (ai (vg K) (by rfl) T.z_sum boot_sum (aa (aw (eJ K) (pv 0) ae (fun _ _=>rfl)) ab)) (ai (vg K) (by rfl) T.z_sum boot_sum (aa (aK ["due"] [none] rfl (jc K (aw (eJ K) (pv 0) ae (fun _ _=>rfl))) (fun _=>au (i:=0) (aB (N:=["due"]) (by decide +kernel)) rfl (Or.inl rfl)) (fun _=>aM) (fun _=>(aw (eJ K) (pv 0) ae (fun _ _=>rfl))) ((.cons (fun _ e=>by cases e) .nil))) ab)))))
    aA) z0) ?_
   intro Z0 z0
   refine⟨_,(ag (aU (ay bY (aw (eJ K) (pv 0) ae (fun _ _=>rfl)) av (az _))
    (ag (cw (i₀:=1) eE.nd rfl (Or.inl rfl) ["part"] [none] rfl (jc K (aw (eJ K) (pv 0) ae (fun _ _=>rfl))) (fun _=>au (i:=0) (aB (N:=["part"]) (by decide +kernel)) rfl (Or.inl rfl)) (fun _=>aM) (fun _=>(pc D.law_least Glaw_least hr (aa (pv 0) ab))) ((.cons (fun _ e=>by cases e) .nil)))
    (ag (cw (i₀:=1) eE.nd rfl (Or.inl rfl) ["end"] [none] rfl (jc K (pv 1)) (fun _=>au (i:=0) (aB (N:=["end"]) (by decide +kernel)) rfl (Or.inl rfl)) (fun _=>dR (ay uL (pv 0) bU (az _))) (fun _=>(pv 0)) ((.cons (fun _ e=>by cases e) .nil)))
    (ah (ar (vn K (by rfl) T.z_min (aa (pv 1) ab) bU)))))
    aA) z0),?_⟩
   cases pat with
   | @tie tp j ht=>
    refine⟨_,rfl,tp,_,_,_,rfl,rfl,SqT.of ht,rfl,rfl,_,rfl,?_⟩
    refine gO (by decide) ?_
    refine⟨_,rfl,tp,_,_,_,rfl,rfl,SqT.of ht,rfl,rfl,_,rfl,?_⟩
    exact gO (by decide) (q none H (Same.refl _) .tie)
   | @short tp l bs ht hl'=>
    refine⟨_,rfl,tp,_,_,_,rfl,rfl,SqT.of ht,rfl,rfl,_,rfl,?_⟩
    refine gO (by decide) ?_
    refine⟨_,rfl,tp,_,_,_,rfl,rfl,SqT.of ht,rfl,rfl,_,rfl,?_⟩
    exact gO (by decide) (q none H (Same.refl _) .short)
   | @dear tp l d pr es ht hl' hd=>
    refine⟨_,rfl,tp,_,_,_,rfl,rfl,SqT.of ht,rfl,rfl,_,rfl,?_⟩
    refine gO (by decide) ?_
    refine⟨_,rfl,tp,_,_,_,rfl,rfl,SqT.of ht,rfl,rfl,_,rfl,bq ?_⟩
    cases gb with
    | dear g1 g2=>
    obtain⟨dq,hdx,tpx⟩:=id hd
    have dql:=tpx.len
    refine⟨_,rfl,tp,_,_,_,rfl,rfl,SqT.of ht,rfl,l,pr,rfl,SqL.of hl',?_⟩
    refine⟨_,rfl,tp,_,_,_,rfl,rfl,SqT.of ht,rfl,d,rfl,⟨_,SqL.of hdx⟩,?_⟩
    refine bA (xs:=dq.map V.ref) (fun _=>true) (fun j=> .int (es.getD j (0,0)).2) (SqL.of hdx) (by rw[zZ];omega) (fun _ _ _ _ _ _ k=>k _ (Same.refl _)) (fun j x hx _ H2 R s2 kk=>?_) fun nw H2 s2 nnw hnw=>?_
    ·rw [Ae]at hx
     obtain⟨t,et,rfl⟩:=An.mp hx
     obtain⟨x,ex,tx⟩:=cy tpx et
     rw[Ab,ex]at kk
     exact⟨_,rfl,t,_,_,_,rfl,rfl,SqT.of (s2 _ _ tx),rfl,kk H2 (Same.refl _)⟩
    rw[AG.mpr (fun _ _=>rfl),zZ,dql,iT (g:=fun x=>V.int x.2) fun i x hx=>by rw[Ab,hx];rfl]at hnw
    exact⟨nw,es.map fun(x:Int×Int)=>x.2,rfl,SqL.of (by rw[hnw,Au];rfl),_,_,rfl,rfl,q _ H2 s2 .dear⟩
   | @split tp l vs' ps ht hl' hvn hat=>
    refine⟨_,rfl,tp,_,_,_,rfl,rfl,SqT.of ht,rfl,rfl,_,rfl,bq ?_⟩
    cases gb with
    | split g1 gb=>
    cases gr with
    | @split r' _ gr=>
    refine⟨_,rfl,tp,_,_,_,rfl,rfl,SqT.of ht,rfl,l,rfl,⟨_,SqL.of hl'⟩,?_⟩
    refine h9 (xs:=vs') (fun _ ys _=>∃os:List (Option Int),ys=os.map hV/\∀(i:Nat) q o,ps[i]?=some q->os[i]?=some o->LstIs q o) (SqL.of hl') (by omega) (fun _ _ _ _ h _=>h) (fun _ _=>⟨[],rfl,fun i q o _ z=>by cases z⟩) (fun acc i x ys H2 R hx s2 nacc hacc yl ⟨os,e,al⟩ k=>?_) fun acc ys H2 s2 nacc hacc yl ⟨os,e,al⟩=>?_
    ·have il:=(Ac.mp hx).1
     have hp:ps[i]?=some ps[i]:=Aa (by omega)
     have pm:=Ax (show i<ps.length by omega)
     refine⟨_,rfl,x,ps[i],r',rfl,(hat i x _ hx hp).same s2,gb _ pm,gr _ pm,by omega,fun o H3 s3 lo=>k _ H3 s3 ⟨os++[o],by rw[e,Aw];rfl,fun i' q' o' hq ho=>?_⟩⟩
     rw[e,zZ]at yl
     by_cases z:i'<os.length
     ·rw [AM z]at ho
      exact al i' q' o' hq ho
     ·have:=(Ac.mp ho).1
      rw[Ai,Aq]at this
      have ei:i'=os.length:=by omega
      subst ei
      rw[AU (Af _),BB]at ho
      cases ho
      rw[yl,hp]at hq
      cases hq
      exact lo
    subst e
    rw[zZ]at yl
    refine⟨_,rfl,acc,rfl,⟨_,SqL.of hacc⟩,?_⟩
    refine bA (xs:=os.map hV) (fun j=>(os.getD j none).isSome) (fun j=>hV (os.getD j none)) (SqL.of hacc) (by rw[zZ];omega) (fun j v hv H3 R s3 k=>?_) (fun j v hv _ H3 R s3 k=>?_) fun nw H3 s3 nnw hnw=>?_
    ·rw [Ae]at hv
     obtain⟨o,ho,rfl⟩:=An.mp hv
     have kk:R (os.getD j none).isSome H3:=k H3 (Same.refl _)
     rw[xO ho]at kk
     refine⟨_,rfl,rfl,?_⟩
     have e:(!decide (hV o=V.non))=o.isSome:=by rw[tH];cases o<;>rfl
     rw[e]
     exact⟨_,rfl,kk⟩
    ·rw [Ae]at hv
     obtain⟨o,ho,rfl⟩:=An.mp hv
     have kk:R (hV (os.getD j none)) H3:=k H3 (Same.refl _)
     rw[xO ho]at kk
     exact⟨_,rfl,kk⟩
    rw[zZ,ur]at hnw
    refine⟨_,rfl,nw,os.filterMap id,rfl,SqL.of hnw,fun e=>?_,fun m hm1 hm2=>?_⟩
    ·refine q none H3 (s2.trans s3) (.split (by omega) al (.inl ⟨rfl,fun o ho=>?_⟩))
     cases o with
     | none=>rfl
     | some x=>
      have:x∈os.filterMap id:=Br.mpr ⟨some x,ho,rfl⟩
      rw[e]at this
      cases this
    ·obtain⟨o,ho,e⟩:=Br.mp hm1
     have e:o=some m:=e
     subst e
     exact q (some m) H3 (s2.trans s3) (.split (by omega) al (.inr ⟨m,rfl,ho,fun x hx=>hm2 x (Br.mpr ⟨some x,hx,rfl⟩)⟩))
 exact all 7
local macro_rules | `(tactic| walk_at "th")=> `(tactic| repeat (first | exact xt | exact xu | exact yC | exact xv | exact vq | refine tZ ?_ ?_ | refine xB ?_ rfl | refine xA ?_ rfl | exact xw | exact xx ⟨by decide,by decide,by decide⟩ | refine xy ?_ ?_))
def vW:List Th:=[.non,.bl true,.int 0,.int (-1),.str "",.str "tie",.str "split",.lst [],.tup [],.lst [.str "tie",.int 0],.tup [.str "tie"],.tup [.str "tie",.int 0,.int 0],.tup [.str "tie",.bl true]]
def vX:List Th:=[.tup [.str "tie",.bl false],.tup [.str "tie",.str "0"],.tup [.str "tie",.non],.tup [.str "tie",.int (-1)],.tup [.str "tie",.lst [.int 0]],.tup [.str "Tie",.int 0],.tup [.non,.int 0]]
def vY:List Th:=[.tup [.str "tie",.int 12],.tup [.str "tie",.int ((10:Int)^((60:Int).toNat))],.tup [.str "short"],.tup [.str "short",.int 0],.tup [.str "short",.tup [.int 0]],.tup [.str "short",.lst [.bl true]]]
def vZ:List Th:=[.tup [.str "short",.lst [.bl false]],.tup [.str "short",.lst []],.tup [.str "short",.lst [.str "0"]],.tup [.str "short",.lst [.int (-1)]],.tup [.str "short",.lst [.int 0,.int 0]]]
def v7:List Th:=[.tup [.str "short",.lst [.int 6]],.tup [.str "short",.lst [.non]],.tup [.str "split"],.tup [.str "split",.tup []],.tup [.str "split",.non],.tup [.str "split",.lst [],.lst []]]
def v8:List Th:=[.tup [.str "dear"],.tup [.str "dear",.lst []],.tup [.str "dear",.lst [],.lst [],.lst []],.tup [.str "dear",.tup [],.tup []],.tup [.str "dear",.non,.lst []]]
def v9:List Th:=[.tup [.str "dear",.lst [],.non],.tup [.str "dear",.lst [],.tup []],.lst [.str "dear",.lst [],.lst []],.tup [.str "plan",.lst [.int 1]],.tup [.int 0,.int 0],.tup [.tup [.str "tie",.int 0],.int 0]]
def ll:List Th:=(((((vW++vX)++vY)++vZ)++v7)++v8)++v9
theorem qf {rows:bN} {ts:List jX} (r6:(rows.length:Int)<=6) (t12:(ts.length:Int)<=12):∀t∈ll,rL rows ts t:=
 (show ∀t∈[(.non:Th),(.bl true:Th),(.int 0:Th),(.int (-1):Th),(.str "":Th),(.str "tie":Th),(.str "split":Th),(.lst []:Th),(.tup []:Th),(.lst [.str "tie",.int 0]:Th),(.tup [.str "tie"]:Th),(.tup [.str "tie",.int 0,.int 0]:Th),(.tup [.str "tie",.bl true]:Th),(.tup [.str "tie",.bl false]:Th),(.tup [.str "tie",.str "0"]:Th),(.tup [.str "tie",.non]:Th),(.tup [.str "tie",.int (-1)]:Th),(.tup [.str "tie",.lst [.int 0]]:Th),(.tup [.str "Tie",.int 0]:Th),(.tup [.non,.int 0]:Th),(.tup [.str "tie",.int 12]:Th),(.tup [.str "tie",.int ((10:Int)^((60:Int).toNat))]:Th),(.tup [.str "short"]:Th),(.tup [.str "short",.int 0]:Th),(.tup [.str "short",.tup [.int 0]]:Th),(.tup [.str "short",.lst [.bl true]]:Th),(.tup [.str "short",.lst [.bl false]]:Th),(.tup [.str "short",.lst []]:Th),(.tup [.str "short",.lst [.str "0"]]:Th),(.tup [.str "short",.lst [.int (-1)]]:Th),(.tup [.str "short",.lst [.int 0,.int 0]]:Th),(.tup [.str "short",.lst [.int 6]]:Th),(.tup [.str "short",.lst [.non]]:Th),(.tup [.str "split"]:Th),(.tup [.str "split",.tup []]:Th),(.tup [.str "split",.non]:Th),(.tup [.str "split",.lst [],.lst []]:Th),(.tup [.str "dear"]:Th),(.tup [.str "dear",.lst []]:Th),(.tup [.str "dear",.lst [],.lst [],.lst []]:Th),(.tup [.str "dear",.tup [],.tup []]:Th),(.tup [.str "dear",.non,.lst []]:Th),(.tup [.str "dear",.lst [],.non]:Th),(.tup [.str "dear",.lst [],.tup []]:Th),(.lst [.str "dear",.lst [],.lst []]:Th),(.tup [.str "plan",.lst [.int 1]]:Th),(.tup [.int 0,.int 0]:Th),(.tup [.tup [.str "tie",.int 0],.int 0]:Th)],rL rows ts t from
  List.forall_mem_cons.mpr ⟨aW rfl,List.forall_mem_cons.mpr ⟨aW rfl,List.forall_mem_cons.mpr ⟨aW rfl,List.forall_mem_cons.mpr ⟨aW rfl,List.forall_mem_cons.mpr ⟨aW rfl,List.forall_mem_cons.mpr ⟨aW rfl,List.forall_mem_cons.mpr ⟨aW rfl,List.forall_mem_cons.mpr ⟨aW rfl,List.forall_mem_cons.mpr ⟨aW rfl,List.forall_mem_cons.mpr ⟨aW rfl,List.forall_mem_cons.mpr ⟨aW rfl,List.forall_mem_cons.mpr ⟨aW rfl,List.forall_mem_cons.mpr ⟨dg (.inl rfl),List.forall_mem_cons.mpr ⟨dg (.inl rfl),List.forall_mem_cons.mpr ⟨dg (.inl rfl),List.forall_mem_cons.mpr ⟨dg (.inl rfl),List.forall_mem_cons.mpr ⟨dg (.inr ⟨_,rfl,.inl (by decide)⟩),List.forall_mem_cons.mpr ⟨dg (.inl rfl),List.forall_mem_cons.mpr ⟨aW rfl,List.forall_mem_cons.mpr ⟨aW rfl,List.forall_mem_cons.mpr ⟨dg (.inr ⟨_,rfl,.inr (Int.le_trans t12 (by decide +kernel))⟩),List.forall_mem_cons.mpr ⟨dg (.inr ⟨_,rfl,.inr (Int.le_trans t12 (by decide +kernel))⟩),List.forall_mem_cons.mpr ⟨aW rfl,List.forall_mem_cons.mpr ⟨bO (.inl rfl),List.forall_mem_cons.mpr ⟨bO (.inl rfl),List.forall_mem_cons.mpr ⟨bO (.inr (.inl rfl)),List.forall_mem_cons.mpr ⟨bO (.inr (.inl rfl)),List.forall_mem_cons.mpr ⟨bO (.inr (.inr (.inr (.inl rfl)))),List.forall_mem_cons.mpr ⟨bO (.inr (.inl rfl)),List.forall_mem_cons.mpr ⟨bO (.inr (.inr (.inr (.inr ⟨_,Ay,.inl (by decide)⟩)))),List.forall_mem_cons.mpr ⟨bO (.inr (.inr (.inl (by decide)))),List.forall_mem_cons.mpr ⟨bO (.inr (.inr (.inr (.inr ⟨_,Ay,.inr r6⟩)))),List.forall_mem_cons.mpr ⟨bO (.inr (.inl rfl)),List.forall_mem_cons.mpr ⟨aW rfl,List.forall_mem_cons.mpr ⟨jy rfl,List.forall_mem_cons.mpr ⟨jy rfl,List.forall_mem_cons.mpr ⟨aW rfl,List.forall_mem_cons.mpr ⟨aW rfl,List.forall_mem_cons.mpr ⟨aW rfl,List.forall_mem_cons.mpr ⟨aW rfl,List.forall_mem_cons.mpr ⟨iD rfl,List.forall_mem_cons.mpr ⟨iD rfl,List.forall_mem_cons.mpr ⟨jx rfl,List.forall_mem_cons.mpr ⟨jx rfl,List.forall_mem_cons.mpr ⟨aW rfl,List.forall_mem_cons.mpr ⟨aW rfl,List.forall_mem_cons.mpr ⟨aW rfl,List.forall_mem_cons.mpr ⟨aW rfl,fun _ z=>nomatch z⟩⟩⟩⟩⟩⟩⟩⟩⟩⟩⟩⟩⟩⟩⟩⟩⟩⟩⟩⟩⟩⟩⟩⟩⟩⟩⟩⟩⟩⟩⟩⟩⟩⟩⟩⟩⟩⟩⟩⟩⟩⟩⟩⟩⟩⟩⟩⟩)
theorem oe:∀t∈ll,TBnd t:=fun t ht=>ph 5 t (As.mp (show ll.all (nQ 5)=true by decide +kernel) t ht)
theorem yE:ll.length=48:=rfl
def fh (K:PySem.W.Frag):Sp:=fun vs H Q _=>∃c:Int,vs=[.int c]/\∀v t H',Same H H'->ThAt (nw H H') v t->t∈ll->Q v H'
theorem bH:FnScope ["cell","odd"] ["cell"] (ao gi):=⟨rfl,rfl,rfl,by decide +kernel,rfl,by decide +kernel,by decide +kernel⟩
theorem iG (D:Dfs K mg aF dF) (T:Txt mg):FnOk P w K mg base a8 1 (aF 41) (dF 41) ["cell"] (fh K):=by
 refine D.law_bare.fn.ok bH (fun vs H Q E h=>?_) (fun cdv A outer s H vs Q E hr h=>?_)
 ·obtain⟨c,rfl,_⟩:=h;rfl
 ·have hu:=a7 hr
  obtain⟨c,rfl,q⟩:=h
  refine aD 7 (ah (ar (aw (cN K) (pv 1) (ak aY (pv 0) (ai (bC K) (by rfl) T.z_len boot_len (aa (pv 1) ab))) (fun _ _=>rfl)))) ?_
  intro Z0 z0
  refine aD 6 (ag (ax (i:=1) bH.nd rfl (Or.inl rfl) (ak di (pv 1) (aq (aa (aj (aa av (aa (aq ab) (aa bU ab)))) (aa (aj (aa av (aa (aq ab) (aa (aj ab) ab)))) (aa (aq (aa av (aa (aq ab) (aa (aq ab) ab)))) (aa (aj (aa av (aa (aq (aa ae ab)) ab))) (aa (aj (aa ae (aa ae ab))) (aa (aj (aa (aj (aa av (aa ae ab))) (aa ae ab))) ab))))))))) z0) ?_
  intro Z0 z0
  refine aD 5 (ag (ax (i:=1) bH.nd rfl (Or.inl rfl) (ak di (pv 1) (aq (aa (aj (aa av ab)) (aa (aj (aa av (aa (aq ab) ab))) (aa (aj (aa av (aa (aq ab) (aa (aq ab) (aa (aq ab) ab))))) (aa (aj (aa av (aa (aj ab) (aa (aj ab) ab)))) (aa (aj (aa av (aa bU (aa (aq ab) ab)))) ab)))))))) z0) ?_
  intro Z0 z0
  refine aD 4 (ag (ax (i:=1) bH.nd rfl (Or.inl rfl) (ak di (pv 1) (aq (aa (aj (aa av (aa (aq (aa ae ab)) ab))) (aa (aj (aa av (aa (aq (aa bU ab)) ab))) (aa (aj (aa av ab)) (aa (aj (aa av (aa (aj ab) ab))) (aa (aj (aa av (aa bU ab))) (aa (aj (aa av (aa (aq ab) (aa (aq ab) ab)))) ab))))))))) z0) ?_
  intro Z0 z0
  refine aD 3 (ag (ax (i:=1) bH.nd rfl (Or.inl rfl) (ak di (pv 1) (aq (aa (aj (aa av (aa (aq (aa bB ab)) ab))) (aa (aj (aa av (aa (aq ab) ab))) (aa (aj (aa av (aa (aq (aa av ab)) ab))) (aa (aj (aa av (aa (aq (aa (kg g8 ae) ab)) ab))) (aa (aj (aa av (aa (aq (aa ae (aa ae ab))) ab))) ab)))))))) z0) ?_
  intro Z0 z0
  refine aD 2 (ag (ax (i:=1) bH.nd rfl (Or.inl rfl) (ak di (pv 1) (aq (aa (aj (aa av (aa ae ab))) (aa (aj (aa av (aa (ak dP ae ae) ab))) (aa (aj (aa av ab)) (aa (aj (aa av (aa ae ab))) (aa (aj (aa av (aa (aj (aa ae ab)) ab))) (aa (aj (aa av (aa (aq (aa bB ab)) ab))) ab))))))))) z0) ?_
  intro Z0 z0
  refine aD 1 (ag (ax (i:=1) bH.nd rfl (Or.inl rfl) (ak di (pv 1) (aq (aa (aj (aa av (aa bB ab))) (aa (aj (aa av (aa av ab))) (aa (aj (aa av (aa bU ab))) (aa (aj (aa av (aa (kg g8 ae) ab))) (aa (aj (aa av (aa (aq (aa ae ab)) ab))) (aa (aj (aa av (aa ae ab))) (aa (aj (aa bU (aa ae ab))) ab)))))))))) z0) ?_
  intro Z0 z0
  refine⟨_,(ag (ax (i:=1) bH.nd rfl (Or.inl rfl) (aq (aa bU (aa bB (aa ae (aa (kg g8 ae) (aa av (aa av (aa av (aa (aq ab) (aa (aj ab) (aa (aq (aa av (aa ae ab))) (aa (aj (aa av ab)) (aa (aj (aa av (aa ae (aa ae ab)))) (aa (aj (aa av (aa bB ab))) ab))))))))))))))) z0),?_⟩
  refine t6 (t:= .lst vW) (by walk_at "th") fun v0 H0 s0 a0=>?_
  refine dY rfl s0 a0 (rs:=vX) (by walk_at "th") rfl fun v1 H1 s1 a1=>?_
  refine dY rfl s1 a1 (rs:=vY) (by walk_at "th") rfl fun v2 H2 s2 a2=>?_
  refine dY rfl s2 a2 (rs:=vZ) (by walk_at "th") rfl fun v3 H3 s3 a3=>?_
  refine dY rfl s3 a3 (rs:=v7) (by walk_at "th") rfl fun v4 H4 s4 a4=>?_
  refine dY rfl s4 a4 (rs:=v8) (by walk_at "th") rfl fun v5 H5 s5 a5=>?_
  refine dY rfl s5 a5 (rs:=v9) (by walk_at "th") rfl fun v6 H6 s6 a6=>?_
  obtain⟨l,us,rfl,hl,nl,el⟩:=a6.lstD
  have hlH:=fA _ _ hl
  have up:0<us.length:=by rw[nl];decide
  obtain⟨v,t,hv,tm,ta⟩:=l8 nl el nl.symm up c
  exact⟨_,rfl,_,rfl,_,rfl,_,us.length,rfl,.inl ⟨_,SqL.of hlH,rfl⟩,_,_,rfl,rfl,(show(0:Int)<(us.length:Int) by omega),l,_,_,_,rfl,rfl,SqL.of hlH,hv,q _ _ _ s6 ta tm⟩
def wa:List Th:=[.lst [.non],.lst [.int 1],.lst [.lst [.int 1,.int 0]],.lst [.tup [.int 1]],.lst [.tup [.int 1,.int 0,.int 0]],.lst [.tup [.int 0,.int 0]],.lst [.tup [.int (-1),.int 0]],.lst [.tup [.int ((10:Int)^((18:Int).toNat)+1),.int 0]],.lst [.tup [.int 1,.int (-1)]],.lst [.tup [.bl true,.int 0]]]
def wb:List Th:=[.lst [.tup [.int 1,.bl true]],.lst [.tup [.str "1",.int 0]],.lst [.tup [.int 1,.non]],.lst [.tup [.int 2,.int 0],.tup [.int 1,.int 0]],.lst [.tup [.int 1,.int 0],.tup [.int 1,.int 0]],.lst [.tup [.int 1,.int 0],.tup [.int 2,.int 0],.tup [.int 2,.int 0]]]
def lq:List Th:=wa++wb
theorem vD:∀t∈lq,fJ t=false:=fun t ht=>by
 have:=As.mp (show lq.all (fun t=> !fJ t)=true by decide +kernel) t ht
 cases e:fJ t with
 | false=>rfl
 | true=>rw[e]at this;cases this
theorem uu:∀t∈lq,TBnd t:=fun t ht=>ph 5 t (As.mp (show lq.all (nQ 5)=true by decide +kernel) t ht)
theorem yF:lq.length=16:=rfl
def eI (K:PySem.W.Frag):Sp:=fun vs H Q _=>∃c:Int,vs=[.int c]/\∀v t H',Same H H'->ThAt (nw H H') v t->t∈lq->Q v H'
theorem cL:FnScope ["cell","odd"] ["cell"] (ao cV):=⟨rfl,rfl,rfl,by decide +kernel,rfl,by decide +kernel,by decide +kernel⟩
theorem iL (D:Dfs K mg aF dF) (T:Txt mg):FnOk P w K mg base a8 1 (aF 42) (dF 42) ["cell"] (eI K):=by
 refine D.law_odd_dues.fn.ok cL (fun vs H Q E h=>?_) (fun cdv A outer s H vs Q E hr h=>?_)
 ·obtain⟨c,rfl,_⟩:=h;rfl
 ·have hu:=a7 hr
  obtain⟨c,rfl,q⟩:=h
  refine aD 2 (ah (ar (aw (cN K) (pv 1) (ak aY (pv 0) (ai (bC K) (by rfl) T.z_len boot_len (aa (pv 1) ab))) (fun _ _=>rfl)))) ?_
  intro Z0 z0
  refine aD 1 (ag (ax (i:=1) cL.nd rfl (Or.inl rfl) (ak di (pv 1) (aq (aa (aq (aa (aj (aa ae (aa bB ab))) ab)) (aa (aq (aa (aj (aa av (aa ae ab))) ab)) (aa (aq (aa (aj (aa ae (aa bU ab))) ab)) (aa (aq (aa (aj (aa ae (aa ae ab))) (aa (aj (aa ae (aa ae ab))) ab))) (aa (aq (aa (aj (aa ae (aa ae ab))) (aa (aj (aa ae (aa ae ab))) ab))) (aa (aq (aa (aj (aa ae (aa ae ab))) (aa (aj (aa ae (aa ae ab))) (aa (aj (aa ae (aa ae ab))) ab)))) ab))))))))) z0) ?_
  intro Z0 z0
  refine⟨_,(ag (ax (i:=1) cL.nd rfl (Or.inl rfl) (aq (aa (aq (aa bU ab)) (aa (aq (aa ae ab)) (aa (aq (aa (aq (aa ae (aa ae ab))) ab)) (aa (aq (aa (aj (aa ae ab)) ab)) (aa (aq (aa (aj (aa ae (aa ae (aa ae ab)))) ab)) (aa (aq (aa (aj (aa ae (aa ae ab))) ab)) (aa (aq (aa (aj (aa (kg g8 ae) (aa ae ab))) ab)) (aa (aq (aa (aj (aa (ak aQ (ak dP ae ae) ae) (aa ae ab))) ab)) (aa (aq (aa (aj (aa ae (aa (kg g8 ae) ab))) ab)) (aa (aq (aa (aj (aa bB (aa ae ab))) ab)) ab)))))))))))) z0),?_⟩
  refine t6 (t:= .lst wa) (by walk_at "th") fun v0 H0 s0 a0=>?_
  refine dY rfl s0 a0 (rs:=wb) (by walk_at "th") rfl fun v1 H1 s1 a1=>?_
  obtain⟨l,us,rfl,hl,nl,el⟩:=a1.lstD
  have hlH:=fA _ _ hl
  have up:0<us.length:=by rw[nl];decide
  obtain⟨v,t,hv,tm,ta⟩:=l8 nl el nl.symm up c
  exact⟨_,rfl,_,rfl,_,rfl,_,us.length,rfl,.inl ⟨_,SqL.of hlH,rfl⟩,_,_,rfl,rfl,(show(0:Int)<(us.length:Int) by omega),l,_,_,_,rfl,rfl,SqL.of hlH,hv,q _ _ _ s1 ta tm⟩
inductive BOk:BPap->Prop where
 | tie {j:Int}:BOk (.tie j)
 | short {bs:List Int} (h0:bs≠[]) (h:bs.length<=100):BOk (.short bs)
 | split {ps:List BPap} (h0:ps≠[]) (hn:ps.length<=100) (h:∀q∈ps,BOk q):BOk (.split ps)
 | dear {pr:List Int} {es:List (Int×Int)} (h0:pr≠[]) (h1:pr.length<=100) (h2:es.length<=100):BOk (.dear pr es)
theorem BOk.bnd {g:BPap} (h:BOk g):BBnd g:=by
 induction h with
 | tie=>exact .tie
 | short _ h=>exact .short (by omega)
 | split _ hn _ ih=>exact .split (by omega) ih
 | dear _ h1 h2=>exact .dear (by omega) (by omega)
theorem xF {G H H':Hp} (g:Same G H) (s:Same H H'):Same (df G H H') H':=fun b o e=>by
 unfold df at e
 cases z:H b with
 | none=>rw[z]at e;exact e
 | some o'=>rw[z]at e;exact s _ _ (g _ _ e)
theorem j6 {us:List Th} {k:Nat} {t:Th} (hk:k<us.length) (h:t.isInt=false):(us.set k t).all Th.isInt=false:=by
 rw[List.all_eq_false]
 exact⟨t,AV.mpr ⟨k,Bf hk⟩,by rw[h];exact Ag⟩
theorem uv {J:Hp} {vs:List V} {us:List Th} {k:Nat} {v:V} {t:Th} (hn:vs.length=us.length) (hk:k<vs.length) (h:AllTh J vs us) (h2:ThAt J v t):AllTh J (vs.set k v) (us.set k t):=fun i x y hx hy=>by
 by_cases z:k=i
 ·subst z
  rw[Bf hk]at hx
  rw[Bf (by omega)]at hy
  cases hx;cases hy
  exact h2
 ·rw [BU z]at hx hy
  exact h i x y hx hy
theorem pE {H:Hp}:∀(vs:List V),(∀v∈vs,∃t,ThAt H v t/\TBnd t)->∃us:List Th,vs.length=us.length/\AllTh H vs us/\∀t∈us,TBnd t
 | [],_=>⟨[],rfl,(fun i v t z=>by cases z),fun t z=>by cases z⟩
 | v :: vs,h=>by
  obtain⟨us,a1,a2,a3⟩:=pE vs fun y hy=>h y (Av _ hy)
  obtain⟨t,b1,b2⟩:=h v Ay
  refine⟨t :: us,by rw[Ba,Ba,a1],fun j x y hx hy=>?_,fun y hy=>?_⟩
  ·cases j with
   | zero=>cases hx;cases hy;exact b1
   | succ j=>exact a2 j x y hx hy
  ·rcases Al.mp hy with z | z
   ·rw [z];exact b2
   ·exact a3 y z
theorem vE {H:Hp} {v:V} {g:BPap} (p:BPapAt H v g):BBnd g->∃t,ThAt H v t/\TBnd t:=by
 induction p with
 | tie ht=>intro _;exact⟨_,fT ht .str .int,dZ .str .int⟩
 | short ht hl=>intro b;cases b with
  | short h=>exact⟨_,fT ht .str (gQ hl),dZ .str (eU h)⟩
 | dear ht hl hd=>intro b;cases b with
  | dear h1 h2=>exact⟨_,gR ht .str (gQ hl) (pj hd),fB .str (eU h1) (l9 h2)⟩
 | @split t l vs ps ht hl hn h ih=>
  intro b
  cases b with
  | split b1 b2=>
  obtain⟨us,e1,e2,e3⟩:=pE vs fun v hv=>by
   obtain⟨i,hi⟩:=AV.mp hv
   have il:=(Ac.mp hi).1
   exact ih i v _ hi (Aa (show i<ps.length by omega)) (b2 _ (Ax _))
  exact⟨_,fT ht .str (.lst hl e1 e2),dZ .str (.lst (by omega) e3)⟩
theorem wc {G H H1 H2 H3:Hp} (s:Same H H1) (s2:Same H2 H3):Same (nw H1 H2) (df G H H3):=fun b o e=>by
 obtain⟨z1,z2⟩:=dW e
 exact dw (s.free z1) (s2 _ _ z2)
def jN:List Th:=[.bl true,.bl false,.non,.str "0",.lst [.int 0]]
theorem vF:∀t∈jN,t.isInt=false:=fun t ht=>by
 have:=As.mp (show jN.all (fun t=> !t.isInt)=true by decide) t ht
 cases e:t.isInt with
 | false=>rfl
 | true=>rw[e]at this;cases this
theorem uw:∀t∈jN,TBnd t:=fun t ht=>ph 5 t (As.mp (show jN.all (nQ 5)=true by decide) t ht)
inductive spN_law_put_in (K:PySem.W.Frag) (m:Nat) (vs:List V) (H:Hp) (Q:VK) (E:XK):Prop where
 | mk (v:V) (c:Int) (g:BPap) (r:Nat) (G:Hp) (rows:bN) (ts:List jX) (f0:vs=[v,.int c]) (f1:Same G H) (f2:BPapAt G v g) (f3:BOk g) (f4:BRk r g) (f5:r<m) (f6:(rows.length:Int)<=6) (f7:(ts.length:Int)<=12) (f8:∀v' t H',Same H H'->ThAt (df G H H') v' t->TBnd t->rL rows ts t->Q v' H'):spN_law_put_in K m vs H Q E
def fL (K:PySem.W.Frag):Sp:=spN_law_put_in K 7
theorem b4:FnScope ["paper","cell","rest","parts","at","prices"] ["paper","cell"] (ao eD):=⟨rfl,rfl,rfl,by decide +kernel,rfl,by decide +kernel,by decide +kernel⟩
theorem j7 (D:Dfs K mg aF dF) (T:Txt mg):FnOk P w K mg base a8 17 (aF 43) (dF 43) ["paper","cell"] (fL K):=by
 have Glaw_bare:FnOk P w K mg base a8 1 (aF 41) (dF 41) ["cell"] (fh K):=iG D T
 have Glaw_odd_dues:FnOk P w K mg base a8 1 (aF 42) (dF 42) ["cell"] (eI K):=iL D T
 have all:∀n,FnOk P w K mg base a8 (10+n) (aF 43) (dF 43) ["paper","cell"] (spN_law_put_in K n):=by
  intro n
  induction n with
  | zero=>
   have no:∀vs H Q E,¬spN_law_put_in K 0 vs H Q E:=fun vs H Q E h=>by
    obtain⟨v,c,g,r,G,rows,ts,_,_,_,_,_,h1,_⟩:=h
    omega
   exact⟨fun vs H Q E h=>absurd h (no vs H Q E),fun A outer s H args us vs Q E _ _ _ _ h=>absurd h (no vs H Q E)⟩
  | succ n Glaw_put_in=>
   refine D.law_put_in.fn.ok b4 (fun vs H Q E h=>?_) (fun cdv A outer s H vs Q E hr h=>?_)
   ·obtain⟨v,c,g,r,G,rows,ts,rfl,_⟩:=h;rfl
   obtain⟨v,c,g,r,G,rows,ts,rfl,sg,pat,gb,gr,rn,r6,t12,q⟩:=h
   have rk:Nat.add 10 n=10+n:=rfl
   have fin:∀v t H',Same H H'->ThAt (nw H H') v t->t∈ll->Q v H':=fun v t H' s1 a m=>q v t H' s1 (a.same (wc (Same.refl _) (Same.refl _))) (oe t m) (qf r6 t12 t m)
   refine aD 4 (ah (ar (pc D.law_bare Glaw_bare (hr.mono (by have:=rk;omega)) (aa (ak bI (pv 2) ae) ab)))) ?_
   intro Z0 z0
   refine aD 3 (ag (aU (PW.pt (iW (ay bY (aw (eJ K) (pv 0) ae (fun _ _=>rfl)) av (az _)) (gu (ay bY (ak aY (pv 2) ae) ae (az _)))))
    (ag (ax (i:=5) b4.nd rfl (Or.inl rfl) (aL (kE K) (by rfl) T.z_list boot_list (aa (aw (eJ K) (pv 0) ae (fun _ _=>rfl)) ab)))
    (ag (iX (aw (cN K) (aq (aa bB (aa bB (aa bU (aa av (aa (aq (aa ae ab)) ab)))))) (ak aY (ak bI (pv 2) ae) ae) (fun _ _=>rfl)) (oj (pv 5) (ak aY (ak bI (pv 2) ae) (ai (bC K) (by rfl) T.z_len boot_len (aa (pv 5) ab))) i7))
    (ah (ar (aj (aa av (aa (pv 5) (aa (aL (kE K) (by rfl) T.z_list boot_list (aa (aw (eJ K) (pv 0) ae (fun _ _=>rfl)) ab)) ab))))))))
    aA) z0) ?_
   intro Z0 z0
   refine aD 2 (ag (aU (PW.pt (iW (ay bY (aw (eJ K) (pv 0) ae (fun _ _=>rfl)) av (az _)) (gu (ay bY (ak aY (pv 2) ae) ae (az _)))))
    (ah (ar (aj (aa av (aa (aL (kE K) (by rfl) T.z_list boot_list (aa (aw (eJ K) (pv 0) ae (fun _ _=>rfl)) ab)) (aa (pc D.law_odd_dues Glaw_odd_dues (hr.mono (by have:=rk;omega)) (aa (ak bI (pv 2) ae) ab)) ab))))))
    aA) z0) ?_
   intro Z0 z0
   refine aD 1 (ag (aU (PW.pt (iW (ay bY (aw (eJ K) (pv 0) ae (fun _ _=>rfl)) av (az _)) (gu (ay rS (ak aY (pv 1) ae) ae (az _)))))
    (ag (ax (i:=3) b4.nd rfl (Or.inl rfl) (aL (kE K) (by rfl) T.z_list boot_list (aa (aw (eJ K) (pv 0) ae (fun _ _=>rfl)) ab)))
    (ag (ax (i:=4) b4.nd rfl (Or.inl rfl) (ak aY (pv 2) (ai (bC K) (by rfl) T.z_len boot_len (aa (pv 3) ab))))
    (ag (iX (pc D.law_put_in Glaw_put_in hr (aa (aw (cN K) (pv 3) (pv 4) (fun _ _=>rfl)) (aa (ak bI (pv 2) (ai (bC K) (by rfl) T.z_len boot_len (aa (pv 3) ab))) ab))) (oj (pv 3) (pv 4) i7))
    (ah (ar (aj (aa av (aa (pv 3) ab))))))))
    aA) z0) ?_
   intro Z0 z0
   refine⟨_,(ag (ax (i:=2) b4.nd rfl (Or.inl rfl) (ak bI (pv 1) ae)) z0),?_⟩
   refine⟨_,rfl,_,_,rfl,rfl,(show dD _ 4 from⟨by decide,by decide⟩),?_⟩
   cases pat with
   | @tie tp j ht=>
    have htH:=sg _ _ ht
    refine⟨_,rfl,tp,_,_,_,rfl,rfl,SqT.of htH,rfl,rfl,_,rfl,?_⟩
    refine gO (by decide) (bg ?_)
    refine⟨_,rfl,tp,_,_,_,rfl,rfl,SqT.of htH,rfl,rfl,_,rfl,?_⟩
    refine gO (by decide) (bg ?_)
    refine⟨_,rfl,tp,_,_,_,rfl,rfl,SqT.of htH,rfl,rfl,_,rfl,?_⟩
    refine gO (by decide) (bg ?_)
    exact⟨_,rfl,_,_,rfl,rfl,(show dD _ 3 from⟨by decide,by decide⟩),_,rfl,fin⟩
   | @short tp l bs ht hl'=>
    have htH:=sg _ _ ht
    refine⟨_,rfl,tp,_,_,_,rfl,rfl,SqT.of htH,rfl,rfl,_,rfl,?_⟩
    refine gO (by decide) (bg ?_)
    refine⟨_,rfl,tp,_,_,_,rfl,rfl,SqT.of htH,rfl,rfl,_,rfl,?_⟩
    refine gO (by decide) (bg ?_)
    refine⟨_,rfl,tp,_,_,_,rfl,rfl,SqT.of htH,rfl,rfl,_,rfl,?_⟩
    refine gO (by decide) (bg ?_)
    exact⟨_,rfl,_,_,rfl,rfl,(show dD _ 3 from⟨by decide,by decide⟩),_,rfl,fin⟩
   | @dear tp l d pr es ht hl' hd=>
    have htH:=sg _ _ ht
    have hlH:=sg _ _ hl'
    cases gb with
    | dear d0 d1 d2=>
    have ppos:0<pr.length:=List.length_pos_iff.mpr d0
    refine⟨_,rfl,tp,_,_,_,rfl,rfl,SqT.of htH,rfl,rfl,_,rfl,?_⟩
    refine gO (by decide) (bg ?_)
    refine⟨_,rfl,tp,_,_,_,rfl,rfl,SqT.of htH,rfl,rfl,_,rfl,bq ?_⟩
    refine⟨_,rfl,_,_,rfl,rfl,(show(0:Int)<3 by decide),rfl,_,rfl,lI (fun _=>?_) fun _=>?_⟩
    ·refine⟨_,rfl,tp,_,_,_,rfl,rfl,SqT.of htH,rfl,l,_,rfl,.inl (SqL.of hlH),fun ca nca=>?_⟩
     have s1:=Same.new (o:= .lst (pr.map V.int)) nca
     have hca:aG H ca (.lst (pr.map V.int)) ca=some (.lst (pr.map V.int)):=af
     generalize aG H ca (.lst (pr.map V.int))=H1 at s1 hca
     refine⟨_,rfl,_,_,rfl,rfl,(show dD _ 3 from⟨by decide,by decide⟩),_,rfl,fun v t H2 s2 a m=>?_⟩
     refine⟨cE,fun tq nt=>?_⟩
     have s12:=s1.trans s2
     have s3:=Same.new (o:= .tup [.str "dear",.ref ca,v]) nt
     exact q _ (.tup [.str "dear",.lst (pr.map rb),t]) _ (s12.trans s3) (gR (dw (s12.free nt) af) .str (gQ (dw nca ((s2.trans s3) _ _ hca))) (a.same (wc s1 s3))) (fB .str (eU (by omega)) (uu t m)) (jx (vD t m))
    refine⟨_,rfl,tp,_,_,_,rfl,rfl,SqT.of htH,rfl,rfl,_,rfl,bq ?_⟩
    refine⟨_,rfl,_,_,rfl,rfl,(show(0:Int)<3 by decide),rfl,_,rfl,lI (fun _=>?_) fun _=>?_⟩
    ·refine⟨_,rfl,tp,_,_,_,rfl,rfl,SqT.of htH,rfl,l,_,rfl,.inl (SqL.of hlH),fun ca nca=>?_⟩
     have s1:=Same.new (o:= .lst (pr.map V.int)) nca
     have hca:aG H ca (.lst (pr.map V.int)) ca=some (.lst (pr.map V.int)):=af
     generalize aG H ca (.lst (pr.map V.int))=H1 at s1 hca
     refine⟨cE,fun z0 nz0=>?_⟩
     have s2a:=Same.new (o:= .lst [.int 0]) nz0
     have hz:aG H1 z0 (.lst [.int 0]) z0=some (.lst [.int 0]):=af
     generalize aG H1 z0 (.lst [.int 0])=H1b at s2a hz
     refine⟨cE,fun l5 nl5=>?_⟩
     have s2b:=Same.new (o:= .lst [.bl true,.bl false,.non,.str "0",.ref z0]) nl5
     have h5:aG H1b l5 (.lst [.bl true,.bl false,.non,.str "0",.ref z0]) l5=some (.lst [.bl true,.bl false,.non,.str "0",.ref z0]):=af
     generalize aG H1b l5 (.lst [.bl true,.bl false,.non,.str "0",.ref z0])=H2 at s2b h5
     have s2:=s2a.trans s2b
     have e5:AllTh (nw H1 H2) [.bl true,.bl false,.non,.str "0",.ref z0] jN:=fun i v t hv ht=>by
      match i with
      | 0=>cases hv;cases ht;exact .bl
      | 1=>cases hv;cases ht;exact .bl
      | 2=>cases hv;cases ht;exact .non
      | 3=>cases hv;cases ht;exact .str
      | 4=>
       cases hv;cases ht
       refine .lst (cj nz0 (s2b _ _ hz)) rfl fun i v t hv ht=>?_
       match i with
       | 0=>cases hv;cases ht;exact .int
       | i+1=>cases hv
      | i+5=>cases hv
     obtain⟨x,t5,hx,tm5,ta5⟩:=l8 (vs:=[.bl true,.bl false,.non,.str "0",.ref z0]) (ts:=jN) rfl e5 (show jN.length=5 from rfl) (by decide) (c/4/18)
     refine⟨_,rfl,_,_,rfl,rfl,(show dD _ 18 from⟨by decide,by decide⟩),_,_,rfl,rfl,(show(0:Int)<5 by decide),l5,_,_,_,rfl,rfl,SqL.of h5,hx,?_⟩
     have hca2:=s2 _ _ hca
     obtain⟨k,hk,ek⟩:=oW (c/4/3) (n:=(pr.map V.int).length) (by rw[zZ];exact ppos)
     refine⟨_,rfl,_,rfl,_,_,rfl,rfl,(show dD _ 3 from⟨by decide,by decide⟩),_,rfl,_,(pr.map V.int).length,rfl,.inl ⟨_,SqL.of hca2,rfl⟩,_,_,rfl,rfl,(show(0:Int)<((pr.map V.int).length:Int) by rw[zZ];omega),ca,_,_,k,rfl,rfl,hca2,(by rw[ek];exact jr hk),?_⟩
     have kp:k<(pr.map rb).length:=by rw[zZ]at hk ⊢;exact hk
     have sA:Same H (aG H2 ca (.lst ((pr.map V.int).set k x))):=(s1.trans s2).put nca
     have hcb:aG H2 ca (.lst ((pr.map V.int).set k x)) ca=some (.lst ((pr.map V.int).set k x)):=af
     have kpA:∀b o,b≠ca->H2 b=some o->aG H2 ca (.lst ((pr.map V.int).set k x)) b=some o:=fun b o n e=>by rw[aE n];exact e
     generalize aG H2 ca (.lst ((pr.map V.int).set k x))=H4 at sA hcb kpA
     have htH4:=sA _ _ htH
     obtain⟨rs,hdl,hdp⟩:=hd
     have hdH4:=sA _ _ (sg _ _ hdl)
     refine⟨_,rfl,_,rfl,tp,_,_,_,rfl,rfl,SqT.of htH4,rfl,d,_,rfl,.inl (SqL.of hdH4),fun da nda=>?_⟩
     have s5:=Same.new (o:= .lst (rs.map V.ref)) nda
     have hda:aG H4 da (.lst (rs.map V.ref)) da=some (.lst (rs.map V.ref)):=af
     generalize aG H4 da (.lst (rs.map V.ref))=H5 at s5 hda
     refine⟨cE,fun tq nt=>?_⟩
     have sA5:=sA.trans s5
     have s6:=Same.new (o:= .tup [.str "dear",.ref ca,.ref da]) nt
     have s56:=s5.trans s6
     have toJ:Same (nw H1 H2) (df G H (aG H5 tq (.tup [.str "dear",.ref ca,.ref da]))):=fun b o e=>by
      obtain⟨z1,z2⟩:=dW e
      have n:b≠ca:=fun y=>by rw[y,hca]at z1;cases z1
      exact dw (s1.free z1) (s56 _ _ (kpA b o n z2))
     have aI:AllTh (df G H (aG H5 tq (.tup [.str "dear",.ref ca,.ref da]))) (pr.map V.int) (pr.map rb):=fun i v t hv ht=>by
      rw[Ae]at hv ht
      cases e:pr[i]? with
      | none=>rw[e]at hv;cases hv
      | some b=>rw[e]at hv ht;cases hv;cases ht;exact .int
     refine q _ (.tup [.str "dear",.lst ((pr.map rb).set k t5),.lst (es.map uB)]) _ (sA5.trans s6) (gR (dw (sA5.free nt) af) .str (.lst (dw nca (s56 _ _ hcb)) (by rw[Bp,Bp,zZ,zZ]) (uv (by rw[zZ,zZ]) hk aI (ta5.same toJ))) (pj ⟨rs,dw (sA.free nda) (s6 _ _ hda),hdp.same (o5 sg)⟩)) (fB .str (.lst (by rw[Bp,zZ];omega) fun t ht=>?_) (l9 (by omega))) (pq (j6 kp (vF t5 tm5)))
     rcases List.mem_or_eq_of_mem_set ht with z | z
     ·obtain⟨y,_,rfl⟩:=AI.mp z;exact .int
     ·rw [z];exact uw t5 tm5
    exact⟨_,rfl,_,_,rfl,rfl,(show dD _ 3 from⟨by decide,by decide⟩),_,rfl,fin⟩
   | @split tp l vs' ps ht hl' hvn hat=>
    have htH:=sg _ _ ht
    have hlH:=sg _ _ hl'
    have gbb:=gb.bnd
    cases gb with
    | split g0 g1 gb=>
    cases gr with
    | @split r' _ gr=>
    have ppos:0<vs'.length:=by rw[hvn];exact List.length_pos_iff.mpr g0
    refine⟨_,rfl,tp,_,_,_,rfl,rfl,SqT.of htH,rfl,rfl,_,rfl,bq ?_⟩
    refine⟨_,rfl,_,_,rfl,rfl,(show(0:Int)<4 by decide),_,_,rfl,rfl,_,rfl,sy (fun _=>?_) fun _=>?_⟩
    ·refine⟨_,rfl,tp,_,_,_,rfl,rfl,SqT.of htH,rfl,l,_,rfl,.inl (SqL.of hlH),fun ca nca=>?_⟩
     have s1:=Same.new (o:= .lst vs') nca
     have hca:aG H ca (.lst vs') ca=some (.lst vs'):=af
     generalize aG H ca (.lst vs')=H1 at s1 hca
     obtain⟨k,hk,ek⟩:=oW (c/4) (n:=vs'.length) ppos
     have ek:c/4%(vs'.length:Int)=(k:Int):=ek
     refine⟨_,rfl,_,rfl,_,vs'.length,rfl,.inl ⟨_,SqL.of hca,rfl⟩,_,_,rfl,rfl,(show(0:Int)<(vs'.length:Int) by omega),?_⟩
     dsimp only
     rw[ek]
     have kp:k<ps.length:=by omega
     have pm:=Ax kp
     refine⟨_,rfl,_,rfl,ca,_,_,_,rfl,rfl,SqL.of hca,bh (Aa hk),_,rfl,_,rfl,_,vs'.length,rfl,.inl ⟨_,SqL.of hca,rfl⟩,_,_,rfl,rfl,(show dD _ (vs'.length:Int)from⟨by omega,by omega⟩),?_⟩
     refine⟨vs'[k],_,ps[k],r',G,rows,ts,rfl,sg.trans s1,hat k _ _ (Aa hk) (Aa kp),gb _ pm,gr _ pm,by omega,r6,t12,fun v2 t2 H3 s3 bp bb nb=>?_⟩
     have hca3:=s3 _ _ hca
     refine⟨_,rfl,_,rfl,ca,_,_,k,rfl,rfl,hca3,jr hk,?_⟩
     refine⟨_,rfl,cE,fun t nt=>?_⟩
     have sA:Same H (aG H3 ca (.lst (vs'.set k v2))):=(s1.trans s3).put nca
     have hcb:aG H3 ca (.lst (vs'.set k v2)) ca=some (.lst (vs'.set k v2)):=af
     have kpA:∀b o,b≠ca->H3 b=some o->aG H3 ca (.lst (vs'.set k v2)) b=some o:=fun b o n e=>by rw[aE n];exact e
     generalize aG H3 ca (.lst (vs'.set k v2))=H4 at sA hcb kpA nt
     have s5:=Same.new (o:= .tup [.str "split",.ref ca]) nt
     have toJ:Same (df G H1 H3) (df G H (aG H4 t (.tup [.str "split",.ref ca]))):=fun b o e=>by
      rcases yr e with⟨z1,z2⟩ | ⟨⟨u,z1⟩,z2⟩
      ·have n:b≠ca:=fun y=>by rw[y,hca]at z1;cases z1
       exact dw (s1.free z1) (s5 _ _ (kpA b o n z2))
      ·exact o5 sg _ _ z2
     obtain⟨us,u1,u2,u3⟩:=pE (H:=G) vs' fun v hv=>by
      obtain⟨i,hi⟩:=AV.mp hv
      have il:=(Ac.mp hi).1
      have ip:i<ps.length:=by omega
      exact vE (hat i v _ hi (Aa ip)) ((gb _ (Ax ip)).bnd)
     have ku:k<us.length:=by omega
     refine q _ (.tup [.str "split",.lst (us.set k t2)]) _ (sA.trans s5) (fT (dw (sA.free nt) af) .str (.lst (dw nca (s5 _ _ hcb)) (by rw[Bp,Bp,u1]) (uv u1 hk (u2.same (o5 sg)) (bp.same toJ)))) (dZ .str (.lst (by rw[Bp];omega) fun t ht=>?_)) (rf (Bf ku) nb)
     rcases List.mem_or_eq_of_mem_set ht with z | z
     ·exact u3 t z
     ·rw [z];exact bb
    ·refine⟨_,rfl,tp,_,_,_,rfl,rfl,SqT.of htH,rfl,rfl,_,rfl,?_⟩
     refine gO (by decide) (bg ?_)
     refine⟨_,rfl,tp,_,_,_,rfl,rfl,SqT.of htH,rfl,rfl,_,rfl,?_⟩
     refine gO (by decide) (bg ?_)
     exact⟨_,rfl,_,_,rfl,rfl,(show dD _ 3 from⟨by decide,by decide⟩),_,rfl,fin⟩
 exact all 7
theorem PapIs.ok {rows:bN} {ts:List (Addr×Addr×Str×Int×List Nat)} {more:Int} {deep:Nat} {p:List Int} {g:BPap} {U:List Int} (qb:QB rows U) (h:PapIs rows ts more deep p g):bG p->p.length<=6->deep<=6->1<=deep->BOk g:=by
 induction h with
 | tie h=>intros;exact .tie
 | short h=>intros;exact .short (by simp) (by simp)
 | @split p ps h ne lt hn hs ih=>
  intro c l6 d6 d1
  have dl:=bK p
  refine .split (fun z=>by rw[z]at hn;simp at hn) (by omega) fun q hq=>?_
  obtain⟨k,hk⟩:=AV.mp hq
  have:=(Ac.mp hk).1
  exact ih k q hk (cR c (by omega)) (by simp;omega) d6 d1
 | @dear p pr es h ne ge hl hm he=>
  intro c l6 d6 d1
  have dl:=bK p
  have pos:0<(dd p).length:=by
   obtain⟨x,r,e⟩:=List.exists_cons_of_ne_nil (l:=p) (fun z=>by rw[z]at ge;simp at ge;omega)
   exact List.length_pos_of_mem (a:=x) (bP.mpr (by rw[e];exact Ay))
  refine .dear (fun z=>by rw[z]at hl;simp at hl;omega) (by omega) ?_
  rcases he with⟨_,rfl⟩ | ⟨_,ks,rfl,u1,m1⟩
  ·exact Az _
  ·rw [zZ]
   have:ks.length<=U.length:=(gG u1).length_le_of_subset fun x hx=>by
    obtain⟨b,hb,hx⟩:=(m1 x).mp hx
    exact(gN qb (aP p b) (bL c hb)).2.2 x hx
   have:=qb.u26
   omega
theorem LstIs.ge {g:BPap} {o:Option Int} {bd:Int} (h:LstIs g o):(∀e,o=some e->bd<=e)->EndGe bd g:=by
 induction h with
 | tie=>intro _;exact .tie
 | short=>intro _;exact .short
 | dear=>intro k;exact .dear (k _ rfl)
 | @split ps os r hn h hr ih=>
  intro k
  refine .split fun q hq=>?_
  obtain⟨i,hi⟩:=AV.mp hq
  have il:=(Ac.mp hi).1
  have io:os[i]?=some os[i]:=Aa (by omega)
  refine ih i q _ hi io fun e he=>?_
  have om:=Ah io
  rw[he]at om
  rcases hr with⟨_,z⟩ | ⟨m,rfl,_,z⟩
  ·cases z _ om
  ·exact Int.le_trans (k m rfl) (z e om)
def mF (K:PySem.W.Frag):Sp:=fun vs H Q _=>∃(a:Addr) (ns:List Int),vs=[.ref a]/\SqL K H a (ns.map V.int)/\ns.length<=63/\∀H',Q (.bl true) H'
theorem eF:FnScope ["script","sizes","bill","ties","cell","paper","bound","low"] ["script"] (ao uc):=⟨rfl,rfl,rfl,by decide +kernel,rfl,by decide +kernel,by decide +kernel⟩
theorem xG (D:Dfs K mg aF dF) (T:Txt mg):FnOk P w K mg base a8 46 (aF 44) (dF 44) ["script"] (mF K):=by
 have Gbears:FnOk P w K mg base a8 45 (aF 21) (dF 21) ["bill","ties","bound","paper"] (sp_bears K):=uj D T
 have Glaw_cell:FnOk P w K mg base a8 1 (aF 29) (dF 29) ["script","k"] (sp_law_cell K):=iF D T
 have Glaw_case:FnOk P w K mg base a8 2 (aF 34) (dF 34) ["script","sizes","tops"] (sp_law_case K):=n6 D T
 have Glaw_paper:FnOk P w K mg base a8 17 (aF 39) (dF 39) ["pattern","bill","ties","more","deep"] (gX K):=mD D T
 have Glaw_least:FnOk P w K mg base a8 17 (aF 40) (dF 40) ["paper"] (gY K):=mE D T
 have Glaw_bare:FnOk P w K mg base a8 1 (aF 41) (dF 41) ["cell"] (fh K):=iG D T
 have Glaw_put_in:FnOk P w K mg base a8 17 (aF 43) (dF 43) ["paper","cell"] (fL K):=j7 D T
 refine D.law.fn.ok eF (fun vs H Q E h=>?_) (fun cdv A outer s H vs Q E hr h=>?_)
 ·obtain⟨a,ns,rfl,_⟩:=h;rfl
 ·have hu:=a7 hr
  obtain⟨a,ns,rfl,hS,hl,q⟩:=h
  refine aD 10 (ah (ar (b5 xj (pc D.bears Gbears (hr.mono (by decide)) (aa (pv 2) (aa (pv 3) (aa (ak dh (pv 6) ae) (aa (pv 5) ab))))) bB (az _)))) ?_
  intro Z0 z0
  refine aD 9 (ag (aU (ay lU (pc D.bears Gbears (hr.mono (by decide)) (aa (pv 2) (aa (pv 3) (aa (pv 7) (aa (pc D.law_bare Glaw_bare (hr.mono (by decide)) (aa (ak bI (pv 4) ae) ab)) ab))))) bB (az _))
    (ah (ar bB))
    aA) z0) ?_
  intro Z0 z0
  refine aD 8 (ag (aU (ay lU (pc D.bears Gbears (hr.mono (by decide)) (aa (pv 2) (aa (pv 3) (aa (pv 7) (aa (pc D.law_put_in Glaw_put_in (hr.mono (by decide)) (aa (pv 5) (aa (ak bI (pv 4) ae) ab))) ab))))) bB (az _))
    (ah (ar bB))
    aA) z0) ?_
  intro Z0 z0
  refine aD 7 (ag (ax (i:=7) eF.nd rfl (Or.inl rfl) (aw (cN K) (aq (aa ae (aa (kg g8 (ak dP ae ae)) ab))) (ak aY (ak bI (pv 4) ae) ae) (fun _ _=>rfl))) z0) ?_
  intro Z0 z0
  refine aD 6 (ag (aU (ay lU (pc D.bears Gbears (hr.mono (by decide)) (aa (pv 2) (aa (pv 3) (aa (ak dh (pv 6) ae) (aa (pv 5) ab))))) bB (az _))
    (ah (ar bB))
    aA) z0) ?_
  intro Z0 z0
  refine aD 5 (pN (aU (ay rV (pv 6) bU (az _))
    (ah (ax (i:=6) eF.nd rfl (Or.inl rfl) (ak aY (pv 4) (ak dP ae ae))))
    aA) z0) ?_
  intro Z0 z0
  refine aD 4 (ag (ax (i:=6) eF.nd rfl (Or.inl rfl) (pc D.law_least Glaw_least (hr.mono (by decide)) (aa (pv 5) ab))) z0) ?_
  intro Z0 z0
  refine aD 3 (ag (ax (i:=5) eF.nd rfl (Or.inl rfl) (pc D.law_paper Glaw_paper (hr.mono (by decide)) (aa (aq ab) (aa (pv 2) (aa (pv 3) (aa (ak aY (pv 4) ae) (aa (ai (bC K) (by rfl) T.z_len boot_len (aa (pv 2) ab)) ab))))))) z0) ?_
  intro Z0 z0
  refine aD 2 (ag (ax (i:=4) eF.nd rfl (Or.inl rfl) (pc D.law_cell Glaw_cell (hr.mono (by decide)) (aa (pv 0) (aa ae ab)))) z0) ?_
  intro Z0 z0
  refine aD 1 (ag (iX (pc D.law_case Glaw_case (hr.mono (by decide)) (aa (pv 0) (aa (pv 1) (aa (aq (aa (ak aQ (ak dP ae ae) ae) (aa ae (aa ae (aa (ak aQ (ak dP ae ae) ae) ab))))) ab)))) (uy K rfl (aV (au (i:=2) eF.nd rfl (Or.inl rfl)) (aV (au (i:=3) eF.nd rfl (Or.inl rfl)) cG)))) z0) ?_
  intro Z0 z0
  refine⟨_,(ag (ax (i:=1) eF.nd rfl (Or.inl rfl) (aq (aa (aj (aa ae (aa ae ab))) (aa (aj (aa ae (aa ae ab))) (aa (aj (aa ae (aa ae ab))) (aa (aj (aa ae (aa ae ab))) (aa (aj (aa ae (aa ae ab))) (aa (aj (aa ae (aa ae ab))) (aa (aj (aa ae (aa ae ab))) (aa (aj (aa ae (aa ae ab))) (aa (aj (aa ae (aa ae ab))) (aa (aj (aa ae (aa ae ab))) (aa (aj (aa ae (aa ae ab))) (aa (aj (aa ae (aa ae ab))) ab)))))))))))))) z0),?_⟩
  refine⟨cE,fun p0 np0=>?_⟩
  have sz0:=Same.new (o:= .tup [.int 3,.int 3]) np0
  have hz0:aG H p0 (.tup [.int 3,.int 3]) p0=some (.tup [.int 3,.int 3]):=af
  have sY0:=sz0
  generalize aG H p0 (.tup [.int 3,.int 3])=HZ0 at sz0 hz0 sY0
  refine⟨cE,fun p1 np1=>?_⟩
  have sz1:=Same.new (o:= .tup [.int 2,.int 6]) np1
  have hz1:aG HZ0 p1 (.tup [.int 2,.int 6]) p1=some (.tup [.int 2,.int 6]):=af
  have sY1:=sY0.trans sz1
  generalize aG HZ0 p1 (.tup [.int 2,.int 6])=HZ1 at sz1 hz1 sY1
  refine⟨cE,fun p2 np2=>?_⟩
  have sz2:=Same.new (o:= .tup [.int 4,.int 4]) np2
  have hz2:aG HZ1 p2 (.tup [.int 4,.int 4]) p2=some (.tup [.int 4,.int 4]):=af
  have sY2:=sY1.trans sz2
  generalize aG HZ1 p2 (.tup [.int 4,.int 4])=HZ2 at sz2 hz2 sY2
  refine⟨cE,fun p3 np3=>?_⟩
  have sz3:=Same.new (o:= .tup [.int 3,.int 5]) np3
  have hz3:aG HZ2 p3 (.tup [.int 3,.int 5]) p3=some (.tup [.int 3,.int 5]):=af
  have sY3:=sY2.trans sz3
  generalize aG HZ2 p3 (.tup [.int 3,.int 5])=HZ3 at sz3 hz3 sY3
  refine⟨cE,fun p4 np4=>?_⟩
  have sz4:=Same.new (o:= .tup [.int 4,.int 3]) np4
  have hz4:aG HZ3 p4 (.tup [.int 4,.int 3]) p4=some (.tup [.int 4,.int 3]):=af
  have sY4:=sY3.trans sz4
  generalize aG HZ3 p4 (.tup [.int 4,.int 3])=HZ4 at sz4 hz4 sY4
  refine⟨cE,fun p5 np5=>?_⟩
  have sz5:=Same.new (o:= .tup [.int 1,.int 1]) np5
  have hz5:aG HZ4 p5 (.tup [.int 1,.int 1]) p5=some (.tup [.int 1,.int 1]):=af
  have sY5:=sY4.trans sz5
  generalize aG HZ4 p5 (.tup [.int 1,.int 1])=HZ5 at sz5 hz5 sY5
  refine⟨cE,fun p6 np6=>?_⟩
  have sz6:=Same.new (o:= .tup [.int 2,.int 2]) np6
  have hz6:aG HZ5 p6 (.tup [.int 2,.int 2]) p6=some (.tup [.int 2,.int 2]):=af
  have sY6:=sY5.trans sz6
  generalize aG HZ5 p6 (.tup [.int 2,.int 2])=HZ6 at sz6 hz6 sY6
  refine⟨cE,fun p7 np7=>?_⟩
  have sz7:=Same.new (o:= .tup [.int 5,.int 2]) np7
  have hz7:aG HZ6 p7 (.tup [.int 5,.int 2]) p7=some (.tup [.int 5,.int 2]):=af
  have sY7:=sY6.trans sz7
  generalize aG HZ6 p7 (.tup [.int 5,.int 2])=HZ7 at sz7 hz7 sY7
  refine⟨cE,fun p8 np8=>?_⟩
  have sz8:=Same.new (o:= .tup [.int 3,.int 12]) np8
  have hz8:aG HZ7 p8 (.tup [.int 3,.int 12]) p8=some (.tup [.int 3,.int 12]):=af
  have sY8:=sY7.trans sz8
  generalize aG HZ7 p8 (.tup [.int 3,.int 12])=HZ8 at sz8 hz8 sY8
  refine⟨cE,fun p9 np9=>?_⟩
  have sz9:=Same.new (o:= .tup [.int 2,.int 20]) np9
  have hz9:aG HZ8 p9 (.tup [.int 2,.int 20]) p9=some (.tup [.int 2,.int 20]):=af
  have sY9:=sY8.trans sz9
  generalize aG HZ8 p9 (.tup [.int 2,.int 20])=HZ9 at sz9 hz9 sY9
  refine⟨cE,fun p10 np10=>?_⟩
  have sz10:=Same.new (o:= .tup [.int 4,.int 2]) np10
  have hz10:aG HZ9 p10 (.tup [.int 4,.int 2]) p10=some (.tup [.int 4,.int 2]):=af
  have sY10:=sY9.trans sz10
  generalize aG HZ9 p10 (.tup [.int 4,.int 2])=HZ10 at sz10 hz10 sY10
  refine⟨cE,fun p11 np11=>?_⟩
  have sz11:=Same.new (o:= .tup [.int 5,.int 1]) np11
  have hz11:aG HZ10 p11 (.tup [.int 5,.int 1]) p11=some (.tup [.int 5,.int 1]):=af
  have sY11:=sY10.trans sz11
  generalize aG HZ10 p11 (.tup [.int 5,.int 1])=HZ11 at sz11 hz11 sY11
  refine⟨cE,fun sa nsa=>?_⟩
  have szL:=Same.new (o:= .lst [.ref p0,.ref p1,.ref p2,.ref p3,.ref p4,.ref p5,.ref p6,.ref p7,.ref p8,.ref p9,.ref p10,.ref p11]) nsa
  have hsa:aG HZ11 sa (.lst [.ref p0,.ref p1,.ref p2,.ref p3,.ref p4,.ref p5,.ref p6,.ref p7,.ref p8,.ref p9,.ref p10,.ref p11]) sa=some (.lst ([p0,p1,p2,p3,p4,p5,p6,p7,p8,p9,p10,p11].map V.ref)):=af
  have sZ:=sY11.trans szL
  generalize aG HZ11 sa (.lst [.ref p0,.ref p1,.ref p2,.ref p3,.ref p4,.ref p5,.ref p6,.ref p7,.ref p8,.ref p9,.ref p10,.ref p11])=HZ at szL hsa sZ
  have rsz:RowAt HZ sa [(3,3),(2,6),(4,4),(3,5),(4,3),(1,1),(2,2),(5,2),(3,12),(2,20),(4,2),(5,1)]:=⟨_,hsa,(.cons (show bR HZ p0 (3,3)from(szL _ _ (sz11 _ _ (sz10 _ _ (sz9 _ _ (sz8 _ _ (sz7 _ _ (sz6 _ _ (sz5 _ _ (sz4 _ _ (sz3 _ _ (sz2 _ _ (sz1 _ _ hz0))))))))))))) (.cons (show bR HZ p1 (2,6)from(szL _ _ (sz11 _ _ (sz10 _ _ (sz9 _ _ (sz8 _ _ (sz7 _ _ (sz6 _ _ (sz5 _ _ (sz4 _ _ (sz3 _ _ (sz2 _ _ hz1)))))))))))) (.cons (show bR HZ p2 (4,4)from(szL _ _ (sz11 _ _ (sz10 _ _ (sz9 _ _ (sz8 _ _ (sz7 _ _ (sz6 _ _ (sz5 _ _ (sz4 _ _ (sz3 _ _ hz2))))))))))) (.cons (show bR HZ p3 (3,5)from(szL _ _ (sz11 _ _ (sz10 _ _ (sz9 _ _ (sz8 _ _ (sz7 _ _ (sz6 _ _ (sz5 _ _ (sz4 _ _ hz3)))))))))) (.cons (show bR HZ p4 (4,3)from(szL _ _ (sz11 _ _ (sz10 _ _ (sz9 _ _ (sz8 _ _ (sz7 _ _ (sz6 _ _ (sz5 _ _ hz4))))))))) (.cons (show bR HZ p5 (1,1)from(szL _ _ (sz11 _ _ (sz10 _ _ (sz9 _ _ (sz8 _ _ (sz7 _ _ (sz6 _ _ hz5)))))))) (.cons (show bR HZ p6 (2,2)from(szL _ _ (sz11 _ _ (sz10 _ _ (sz9 _ _ (sz8 _ _ (sz7 _ _ hz6))))))) (.cons (show bR HZ p7 (5,2)from(szL _ _ (sz11 _ _ (sz10 _ _ (sz9 _ _ (sz8 _ _ hz7)))))) (.cons (show bR HZ p8 (3,12)from(szL _ _ (sz11 _ _ (sz10 _ _ (sz9 _ _ hz8))))) (.cons (show bR HZ p9 (2,20)from(szL _ _ (sz11 _ _ (sz10 _ _ hz9)))) (.cons (show bR HZ p10 (4,2)from(szL _ _ (sz11 _ _ hz10))) (.cons (show bR HZ p11 (5,1)from(szL _ _ hz11)) .nil))))))))))))⟩
  clear hz0 sz0 hz1 sz1 hz2 sz2 hz3 sz3 hz4 sz4 hz5 sz5 hz6 sz6 hz7 sz7 hz8 sz8 hz9 sz9 hz10 sz10 hz11 sz11 szL hsa
  refine⟨_,rfl,_,rfl,?_⟩
  walk_at "go"
  refine⟨cE,fun ta nta=>?_⟩
  refine⟨a,sa,ta,ns,_,[10^18+1,5,2,10^9+7],rfl,(sZ.trans (Same.new nta)).seq hS,hl,rsz.same (Same.new nta),by decide,by decide,SqL.of af,by decide,by decide,fun t l y rs rows bs ts tp H1 s1 nt ht nl hl1 bl1 fr1 hex bo bnd18 rok tpm ny hy tt t12=>?_⟩
  have s01:=(sZ.trans (Same.new nta)).trans s1
  have bnd:1<=rows.length/\rows.length<=5/\bs.length<=20:=by
   obtain⟨x,hx,e1,e2⟩:=hex
   have:=(show ∀x∈([(3,3),(2,6),(4,4),(3,5),(4,3),(1,1),(2,2),(5,2),(3,12),(2,20),(4,2),(5,1)]:List (Int×Int)),1<=x.1/\x.1<=5/\x.2<=20 by decide) x hx
   omega
  obtain⟨r1,r5,b20⟩:=bnd
  have r20:∀row∈rows,row.length<=20:=fun row hr=>AC (bo.len row hr) b20
  have qb:QB rows bs:=⟨by omega,fun row hr=>⟨r20 row hr,gG (bo.up row hr)⟩,bo.up,fun row hr x hx=>((rok row hr).inn x hx).2.1,bo.inn,by omega⟩
  have rl:rs.length=rows.length:=bl1.len
  refine⟨t,_,rfl,SqT.of ht,rfl,_,_,rfl,_,_,rfl,rfl,?_⟩
  clear rsz sZ hex
  have tOk:∀Hx yy,Same H1 Hx->Hx yy=some (.lst (ts.map fun x=>V.ref x.1))->Ties K Hx yy ts 100:=fun Hx yy sx hyy=>⟨SqL.of hyy,fun x hx=>(tt x hx).1.same sx,by omega⟩
  refine⟨_,rfl,a,ns,3,rfl,s01.seq hS,?_⟩
  generalize ns.getD 3 0=ce
  have m01:0<=ce%2:=by omega
  refine⟨cE,fun e0 ne0=>?_⟩
  have s4:=Same.new (o:= .lst []) ne0
  have he0:aG H1 e0 (.lst []) e0=some (.lst []):=af
  generalize aG H1 e0 (.lst [])=H4 at s4 he0
  refine⟨_,rfl,_,rfl,_,rfl,_,_,rfl,rfl,(show(0:Int)<2 by decide),_,rfl,_,rows.length,rfl,.inl ⟨_,SqL.of (s4 _ _ hl1),by rw[zZ,rl]⟩,e0,l,y,_,rows.length,[],rs,rows,bs,ts,rfl,he0,s4 _ _ hl1,bl1.same s4,qb,tOk _ _ s4 (s4 _ _ hy),fo,Az _,Af _,by simp;omega,fun v g H5 s5 bp pi=>?_⟩
  have bp5:BPapAt H5 v g:=bp.same fA
  have gok:=PapIs.ok qb pi fo (Az _) (by omega) r1
  have grk:=pi.rk 6 (by simp;omega)
  obtain⟨vt,rfl⟩:=bp5.ref
  have s15:=s4.trans s5
  refine⟨_,rfl,_,g,6,rfl,bp5,gok.bnd,grk,by omega,fun o H6 s6 li=>?_⟩
  have s16:=s15.trans s6
  refine⟨fun σ Hx=>∃(bd:Int),σ=[some (.ref a),some (.ref sa),some (.ref l),some (.ref y),some (.int ce),some (.ref vt),some (.int bd),none]/\Same H6 Hx/\EndGe (bd-1) g,?_,?_⟩
  ·refine⟨_,rfl,rfl,?_⟩
   rw[tH]
   cases o with
   | none=>
    refine⟨_,rfl,bq ?_⟩
    refine⟨_,rfl,_,_,rfl,rfl,⟨by decide,by decide,by decide⟩,_,_,rfl,rfl,(show(0:Int)<10^(18:Int).toNat by decide),?_⟩
    exact⟨_,rfl,Same.refl _,li.ge fun e z=>by cases z⟩
   | some bd=>exact⟨_,rfl,bg ⟨bd,rfl,Same.refl _,li.ge fun e z=>by cases z;omega⟩⟩
  rintro σ H7 ⟨bd,rfl,s7,eg⟩
  have s17:=s16.trans s7
  have bp7:=bp5.same (s6.trans s7)
  obtain⟨tg,tg1,tg2,tg3⟩:=PapIs.bears qb bnd18 m01 (Af _) pi 7 fo (Az _) (by simp;omega) bp7 eg
  have r6:(rows.length:Int)<=6:=by omega
  have t12':((ts.map br).length:Int)<=12:=by rw[zZ];omega
  refine⟨_,rfl,_,rfl,_,rfl,_,_,rfl,rfl,_,rfl,l,y,_,_,rs,rows,bs,ts,tg,rfl,s17 _ _ hl1,bl1.same s17,qb,tOk _ _ s17 (s17 _ _ hy),tg1,tg2,fun H8 s8=>?_⟩
  rw[tg3]
  refine⟨_,_,rfl,rfl,_,rfl,bg ?_⟩
  have s18:=s17.trans s8
  refine⟨_,_,rfl,rfl,⟨by decide,by decide,by decide⟩,_,rfl,cE,fun p3 np3=>?_⟩
  obtain⟨lw,hlw,_⟩:=eQ [1,-(10^(30:Int).toNat)] (ce/2) (n:=2) rfl (by decide)
  refine⟨_,rfl,_,_,rfl,rfl,(show dD _ 2 from⟨by decide,by decide⟩),_,_,rfl,rfl,(show(0:Int)<2 by decide),p3,_,_,_,rfl,rfl,SqL.of af,hlw,?_⟩
  generalize hE8:aG H8 p3 _=H9
  have s9:Same H8 H9:=hE8▸Same.new np3
  have s79:=s8.trans s9
  have s19:=s17.trans s79
  refine⟨_,rfl,_,rfl,_,rfl,_,rfl,_,rfl,_,_,rfl,rfl,(show dD _ 4 from⟨by decide,by decide⟩),.ref vt,_,g,6,H7,rows,ts.map br,rfl,s79,bp7,gok,grk,by omega,r6,t12',fun v2 t2 H10 s10 a2 b2 nb=>?_⟩
  have s1A:=s19.trans s10
  refine⟨l,y,_,_,rs,rows,bs,ts,t2,rfl,s1A _ _ hl1,bl1.same s1A,qb,tOk _ _ s1A (s1A _ _ hy),a2.same (xF s79 s10),b2,fun H11 s11=>?_⟩
  rw[nb lw 7 [] (Az _)]
  refine⟨_,_,rfl,rfl,_,rfl,bg ?_⟩
  have s1B:=s1A.trans s11
  refine⟨_,rfl,_,rfl,_,rfl,_,rfl,_,_,rfl,rfl,(show dD _ 4 from⟨by decide,by decide⟩),_,rfl,fun v3 t3 H12 s12 a3 m3=>?_⟩
  have s1C:=s1B.trans s12
  refine⟨l,y,_,_,rs,rows,bs,ts,t3,rfl,s1C _ _ hl1,bl1.same s1C,qb,tOk _ _ s1C (s1C _ _ hy),a3.same fA,oe t3 m3,fun H13 s13=>?_⟩
  rw[qf r6 t12' t3 m3 lw 7 [] (Az _)]
  refine⟨_,_,rfl,rfl,_,rfl,bg ?_⟩
  have s1D:=s1C.trans s13
  have s7D:=(((s79.trans s10).trans s11).trans s12).trans s13
  refine⟨_,rfl,_,rfl,_,rfl,_,_,rfl,rfl,_,rfl,l,y,_,_,rs,rows,bs,ts,tg,rfl,s1D _ _ hl1,bl1.same s1D,qb,tOk _ _ s1D (s1D _ _ hy),tg1.same s7D,tg2,fun H14 s14=>?_⟩
  rw[tg3]
  exact⟨_,_,rfl,rfl,q _⟩
end
def Fd (K:PySem.W.Frag) (nm:Str) (st:Stmt) (f:Addr):Prop:=∃(od an:Option Addr) (sl:Array (Option Value)) (oc kV dc pm cd ct:Value),PySem.W.nsIn K mainGlobals nm=some (some (.ref f))/\K.lookup f=some ⟨oc,od,.func (PySem.W.fnOf nm nm (dQ st) (c4 st) (ao st) .none kV dc pm an cd ct),sl⟩/\PySem.W.codeIn K cd nm=true/\PySem.W.keepIn K (.ref f)=true
theorem aN {K:PySem.W.Frag} {nm:Str} {st:Stmt} {f:Addr} {h:Heap} {mg:Str->Option Value} {ps:List Str} (X:K.In h) (G:h.Ns mainGlobals mg) (q:Fd K nm st f) (hb:∀(kV dc pm:Value) (an:Option Addr) (cd ct:Value) (us:List Value),us.length=ps.length->bindArgs (PySem.W.fnOf nm nm (dQ st) (c4 st) (ao st) .none kV dc pm an cd ct) ⟨us,[]⟩=pure (ps.zip us)):∃fd,Def K mg nm st ps f fd/\∀(s:Shared) (us:List Value),us.length=ps.length->BindsTo s fd ⟨us,[]⟩ (ps.zip us):=by
 obtain⟨od,an,sl,oc,kV,dc,pm,cd,ct,a,l,c,k⟩:=q
 have F:=wV (st:=st) l c k
 exact⟨_,⟨F,F.binds hb,PySem.W.mg_of X G a⟩,fun s us hl=> .of_eq (hb kV dc pm an cd ct us hl)⟩
theorem rH {F:List Value->Prop} {x0:Str} (h:∀v0,F [v0]):∀us:List Value,us.length=[x0].length->F us:=fun us hl=>by obtain⟨_,rfl⟩:=zQ hl;exact h _
theorem qg {F:List Value->Prop} {x0 x1:Str} (h:∀v0 v1,F [v0,v1]):∀us:List Value,us.length=[x0,x1].length->F us:=fun us hl=>by obtain⟨_,_,rfl⟩:=xm hl;exact h _ _
theorem vG {F:List Value->Prop} {x0 x1 x2:Str} (h:∀v0 v1 v2,F [v0,v1,v2]):∀us:List Value,us.length=[x0,x1,x2].length->F us:=fun us hl=>by obtain⟨_,_,_,rfl⟩:=zR hl;exact h _ _ _
theorem yR {F:List Value->Prop} {x0 x1 x2 x3:Str} (h:∀v0 v1 v2 v3,F [v0,v1,v2,v3]):∀us:List Value,us.length=[x0,x1,x2,x3].length->F us:=fun us hl=>by obtain⟨_,_,_,_,rfl⟩:=zS hl;exact h _ _ _ _
theorem yG {F:List Value->Prop} {x0 x1 x2 x3 x4:Str} (h:∀v0 v1 v2 v3 v4,F [v0,v1,v2,v3,v4]):∀us:List Value,us.length=[x0,x1,x2,x3,x4].length->F us:=fun us hl=>by obtain⟨_,_,_,_,_,rfl⟩:=zT hl;exact h _ _ _ _ _
theorem aO {K:PySem.W.Frag} {nm:Str} {st:Stmt} {f:Addr} {od an:Option Addr} {sl:Array (Option Value)} {oc kV dc pm cd ct:Value} (a:PySem.W.nsIn K mainGlobals nm=some (some (.ref f))) (l:K.lookup f=some ⟨oc,od,.func (PySem.W.fnOf nm nm (dQ st) (c4 st) (ao st) .none kV dc pm an cd ct),sl⟩) (c:PySem.W.codeIn K cd nm=true) (k:PySem.W.keepIn K (.ref f)=true):Fd K nm st f:=⟨od,an,sl,oc,kV,dc,pm,cd,ct,a,l,c,k⟩
theorem xH {l:PySem.W.OpenLaw} {w:World} {K:PySem.W.Frag} {h:Heap} {mg:Str->Option Value} {fa fl f0 f1 f2 f3 f4 f5 f6 f7 f8 f9 f10 f11 f12 f13 f14 f15 f16 f17 f18 f19 f20 f21 f22 f23 f24 f25 f26 f27 f28 f29 f30 f31 f32 f33 f34 f35 f36 f37 f38 f39 f40 f41 f42 f43:Addr} (X:K.In h) (G:h.Ns mainGlobals mg) (hfa:mg "law"=some (.ref fa))
  (q0:Fd K "is_whole" fU f0)
  (q1:Fd K "is_badge" fV f1)
  (q2:Fd K "is_rising" eV f2)
  (q3:Fd K "common" jz f3)
  (q4:Fd K "joined" jA f4)
  (q5:Fd K "width" md f5)
  (q6:Fd K "grown" me f6)
  (q7:Fd K "breaks" jB f7)
  (q8:Fd K "unlike" jC f8)
  (q9:Fd K "pools_of" fW f9)
  (q10:Fd K "pool_of" ir f10)
  (q11:Fd K "shows_for" eW f11)
  (q12:Fd K "tie_shows" eX f12)
  (q13:Fd K "short_shows" dy f13)
  (q14:Fd K "is_list_of_blocks" bW f14)
  (q15:Fd K "split_shows" dz f15)
  (q16:Fd K "is_split" fX f16)
  (q17:Fd K "may_of" jD f17)
  (q18:Fd K "sums" pw f18)
  (q19:Fd K "sums_of" iu f19)
  (q20:Fd K "added" mf f20)
  (q21:Fd K "bears" mh f21)
  (q22:Fd K "bears_for" eY f22)
  (q23:Fd K "split_bears" dA f23)
  (q24:Fd K "dear_bears" ee f24)
  (q25:Fd K "is_within" eZ f25)
  (q26:Fd K "is_list_of_prices" bX f26)
  (q27:Fd K "is_list_of_dues" cA f27)
  (q28:Fd K "is_due" jE f28)
  (q29:Fd K "_law_cell" fY f29)
  (q30:Fd K "_law_entries" dB f30)
  (q31:Fd K "_law_badges" eA f31)
  (q32:Fd K "_law_bill" fZ f32)
  (q33:Fd K "_law_ties" gc f33)
  (q34:Fd K "_law_case" gd f34)
  (q35:Fd K "_law_wide" gf f35)
  (q36:Fd K "_law_pool" gh f36)
  (q37:Fd K "_law_minutes" dC f37)
  (q38:Fd K "_law_breaks" eB f38)
  (q39:Fd K "_law_paper" e8 f39)
  (q40:Fd K "_law_least" e9 f40)
  (q41:Fd K "_law_bare" gi f41)
  (q42:Fd K "_law_odd_dues" cV f42)
  (q43:Fd K "_law_put_in" eD f43)
  (q44:Fd K "law" uc fl)
  (z0:PySem.W.nsIn K mainGlobals "all"=some none)
  (z1:PySem.W.nsIn K mainGlobals "bool"=some none)
  (z2:PySem.W.nsIn K mainGlobals "dict"=some none)
  (z3:PySem.W.nsIn K mainGlobals "int"=some none)
  (z4:PySem.W.nsIn K mainGlobals "isinstance"=some none)
  (z5:PySem.W.nsIn K mainGlobals "len"=some none)
  (z6:PySem.W.nsIn K mainGlobals "list"=some none)
  (z7:PySem.W.nsIn K mainGlobals "min"=some none)
  (z8:PySem.W.nsIn K mainGlobals "range"=some none)
  (z9:PySem.W.nsIn K mainGlobals "reversed"=some none)
  (z10:PySem.W.nsIn K mainGlobals "set"=some none)
  (z11:PySem.W.nsIn K mainGlobals "sorted"=some none)
  (z12:PySem.W.nsIn K mainGlobals "sum"=some none)
  (z13:PySem.W.nsIn K mainGlobals "tuple"=some none)
  (z14:PySem.W.nsIn K mainGlobals "zip"=some none)
  :∃fd:FuncData,(∀(s:Shared) (v:Value),BindsTo s fd ⟨[v],[]⟩ [("script",v)])/\∀base:Heap,K.In base->base.Ns mainGlobals mg->FnOk l.prog w K mg base a8 46 fa fd ["script"] (mF K):=by
 obtain⟨dl,Dl,Bl⟩:=aN (ps:=["script"]) X G q44 (fun _ _ _ _ _ _=>rH fun _=>rfl)
 have e:=hfa.symm.trans Dl.at'
 cases e
 have T:Txt mg:=⟨PySem.W.mg_none_of X G z0,PySem.W.mg_none_of X G z1,PySem.W.mg_none_of X G z2,PySem.W.mg_none_of X G z3,PySem.W.mg_none_of X G z4,PySem.W.mg_none_of X G z5,PySem.W.mg_none_of X G z6,PySem.W.mg_none_of X G z7,PySem.W.mg_none_of X G z8,PySem.W.mg_none_of X G z9,PySem.W.mg_none_of X G z10,PySem.W.mg_none_of X G z11,PySem.W.mg_none_of X G z12,PySem.W.mg_none_of X G z13,PySem.W.mg_none_of X G z14⟩
 obtain⟨d0,D0,-⟩:=aN (ps:=["thing"]) X G q0 (fun _ _ _ _ _ _=>rH fun _=>rfl)
 obtain⟨d1,D1,-⟩:=aN (ps:=["thing"]) X G q1 (fun _ _ _ _ _ _=>rH fun _=>rfl)
 obtain⟨d2,D2,-⟩:=aN (ps:=["numbers"]) X G q2 (fun _ _ _ _ _ _=>rH fun _=>rfl)
 obtain⟨d3,D3,-⟩:=aN (ps:=["one","other"]) X G q3 (fun _ _ _ _ _ _=>qg fun _ _=>rfl)
 obtain⟨d4,D4,-⟩:=aN (ps:=["one","other"]) X G q4 (fun _ _ _ _ _ _=>qg fun _ _=>rfl)
 obtain⟨d5,D5,-⟩:=aN (ps:=["pattern"]) X G q5 (fun _ _ _ _ _ _=>rH fun _=>rfl)
 obtain⟨d6,D6,-⟩:=aN (ps:=["pattern"]) X G q6 (fun _ _ _ _ _ _=>rH fun _=>rfl)
 obtain⟨d7,D7,-⟩:=aN (ps:=["pattern","tie"]) X G q7 (fun _ _ _ _ _ _=>qg fun _ _=>rfl)
 obtain⟨d8,D8,-⟩:=aN (ps:=["row","steps"]) X G q8 (fun _ _ _ _ _ _=>qg fun _ _=>rfl)
 obtain⟨d9,D9,-⟩:=aN (ps:=["pattern","may"]) X G q9 (fun _ _ _ _ _ _=>qg fun _ _=>rfl)
 obtain⟨d10,D10,-⟩:=aN (ps:=["block","pattern","may"]) X G q10 (fun _ _ _ _ _ _=>vG fun _ _ _=>rfl)
 obtain⟨d11,D11,-⟩:=aN (ps:=["pattern","may","ties","paper"]) X G q11 (fun _ _ _ _ _ _=>yR fun _ _ _ _=>rfl)
 obtain⟨d12,D12,-⟩:=aN (ps:=["pattern","ties","place"]) X G q12 (fun _ _ _ _ _ _=>vG fun _ _ _=>rfl)
 obtain⟨d13,D13,-⟩:=aN (ps:=["pattern","may","blocks"]) X G q13 (fun _ _ _ _ _ _=>vG fun _ _ _=>rfl)
 obtain⟨d14,D14,-⟩:=aN (ps:=["pattern","blocks"]) X G q14 (fun _ _ _ _ _ _=>qg fun _ _=>rfl)
 obtain⟨d15,D15,-⟩:=aN (ps:=["pattern","may","ties","papers"]) X G q15 (fun _ _ _ _ _ _=>yR fun _ _ _ _=>rfl)
 obtain⟨d16,D16,-⟩:=aN (ps:=["pattern","count","papers"]) X G q16 (fun _ _ _ _ _ _=>vG fun _ _ _=>rfl)
 obtain⟨d17,D17,-⟩:=aN (ps:=["bill"]) X G q17 (fun _ _ _ _ _ _=>rH fun _=>rfl)
 obtain⟨d18,D18,-⟩:=aN (ps:=["pattern","bill"]) X G q18 (fun _ _ _ _ _ _=>qg fun _ _=>rfl)
 obtain⟨d19,D19,-⟩:=aN (ps:=["block","pattern","bill"]) X G q19 (fun _ _ _ _ _ _=>vG fun _ _ _=>rfl)
 obtain⟨d20,D20,-⟩:=aN (ps:=["pairs","minutes"]) X G q20 (fun _ _ _ _ _ _=>qg fun _ _=>rfl)
 obtain⟨d21,D21,-⟩:=aN (ps:=["bill","ties","bound","paper"]) X G q21 (fun _ _ _ _ _ _=>yR fun _ _ _ _=>rfl)
 obtain⟨d22,D22,-⟩:=aN (ps:=["pattern","bill","ties","bound","paper"]) X G q22 (fun _ _ _ _ _ _=>yG fun _ _ _ _ _=>rfl)
 obtain⟨d23,D23,-⟩:=aN (ps:=["pattern","bill","ties","bound","papers"]) X G q23 (fun _ _ _ _ _ _=>yG fun _ _ _ _ _=>rfl)
 obtain⟨d24,D24,-⟩:=aN (ps:=["pattern","bill","bound","prices","dues"]) X G q24 (fun _ _ _ _ _ _=>yG fun _ _ _ _ _=>rfl)
 obtain⟨d25,D25,-⟩:=aN (ps:=["price","dues","pairs"]) X G q25 (fun _ _ _ _ _ _=>vG fun _ _ _=>rfl)
 obtain⟨d26,D26,-⟩:=aN (ps:=["pattern","prices"]) X G q26 (fun _ _ _ _ _ _=>qg fun _ _=>rfl)
 obtain⟨d27,D27,-⟩:=aN (ps:=["dues"]) X G q27 (fun _ _ _ _ _ _=>rH fun _=>rfl)
 obtain⟨d28,D28,-⟩:=aN (ps:=["pair"]) X G q28 (fun _ _ _ _ _ _=>rH fun _=>rfl)
 obtain⟨d29,D29,-⟩:=aN (ps:=["script","k"]) X G q29 (fun _ _ _ _ _ _=>qg fun _ _=>rfl)
 obtain⟨d30,D30,-⟩:=aN (ps:=["script","size"]) X G q30 (fun _ _ _ _ _ _=>qg fun _ _=>rfl)
 obtain⟨d31,D31,-⟩:=aN (ps:=["cells","gap","high"]) X G q31 (fun _ _ _ _ _ _=>vG fun _ _ _=>rfl)
 obtain⟨d32,D32,-⟩:=aN (ps:=["cells","badges","dense","top","count"]) X G q32 (fun _ _ _ _ _ _=>yG fun _ _ _ _ _=>rfl)
 obtain⟨d33,D33,-⟩:=aN (ps:=["cells","count"]) X G q33 (fun _ _ _ _ _ _=>qg fun _ _=>rfl)
 obtain⟨d34,D34,-⟩:=aN (ps:=["script","sizes","tops"]) X G q34 (fun _ _ _ _ _ _=>vG fun _ _ _=>rfl)
 obtain⟨d35,D35,-⟩:=aN (ps:=["pattern"]) X G q35 (fun _ _ _ _ _ _=>rH fun _=>rfl)
 obtain⟨d36,D36,-⟩:=aN (ps:=["block","pattern","bill"]) X G q36 (fun _ _ _ _ _ _=>vG fun _ _ _=>rfl)
 obtain⟨d37,D37,-⟩:=aN (ps:=["badge","block","pattern","bill"]) X G q37 (fun _ _ _ _ _ _=>yR fun _ _ _ _=>rfl)
 obtain⟨d38,D38,-⟩:=aN (ps:=["pattern","tie"]) X G q38 (fun _ _ _ _ _ _=>qg fun _ _=>rfl)
 obtain⟨d39,D39,-⟩:=aN (ps:=["pattern","bill","ties","more","deep"]) X G q39 (fun _ _ _ _ _ _=>yG fun _ _ _ _ _=>rfl)
 obtain⟨d40,D40,-⟩:=aN (ps:=["paper"]) X G q40 (fun _ _ _ _ _ _=>rH fun _=>rfl)
 obtain⟨d41,D41,-⟩:=aN (ps:=["cell"]) X G q41 (fun _ _ _ _ _ _=>rH fun _=>rfl)
 obtain⟨d42,D42,-⟩:=aN (ps:=["cell"]) X G q42 (fun _ _ _ _ _ _=>rH fun _=>rfl)
 obtain⟨d43,D43,-⟩:=aN (ps:=["paper","cell"]) X G q43 (fun _ _ _ _ _ _=>qg fun _ _=>rfl)
 exact⟨dl,fun s v=>Bl s [v] rfl,fun base _ _=>xG (aF:=fun i=>List.getD [f0,f1,f2,f3,f4,f5,f6,f7,f8,f9,f10,f11,f12,f13,f14,f15,f16,f17,f18,f19,f20,f21,f22,f23,f24,f25,f26,f27,f28,f29,f30,f31,f32,f33,f34,f35,f36,f37,f38,f39,f40,f41,f42,f43,fa] i fa) (dF:=fun i=>List.getD [d0,d1,d2,d3,d4,d5,d6,d7,d8,d9,d10,d11,d12,d13,d14,d15,d16,d17,d18,d19,d20,d21,d22,d23,d24,d25,d26,d27,d28,d29,d30,d31,d32,d33,d34,d35,d36,d37,d38,d39,d40,d41,d42,d43,dl] i dl) ⟨D0,D1,D2,D3,D4,D5,D6,D7,D8,D9,D10,D11,D12,D13,D14,D15,D16,D17,D18,D19,D20,D21,D22,D23,D24,D25,D26,D27,D28,D29,D30,D31,D32,D33,D34,D35,D36,D37,D38,D39,D40,D41,D42,D43,Dl⟩ T⟩
theorem walk {l:PySem.W.OpenLaw} {q:Program} {loose:List Str} {XP:(Str->Option Value)->Heap->Prop} {YP:World->Heap->Prop} {d:DefRec} {K:Params->PySem.W.Frag} (hn:l.most=some 63) (hdf:d.params.defaults=[])
  (hY:∀(w:World) (h:Heap),YP w h->(K w.params).In h)
  (F:∀(w:World) (mg:Str->Option Value) (fa:Addr) (h:Heap),(K w.params).In h->h.Ns mainGlobals mg->mg d.name=some (.ref fa)->
   ∃fd:FuncData,(∀(s:Shared) (u:Value),BindsTo s fd ⟨[u],[]⟩ [("script",u)])/\∀base:Heap,(K w.params).In base->base.Ns mainGlobals mg->FnOk l.prog w (K w.params) mg base a8 46 fa fd ["script"] (mF (K w.params))):
  PySem.W.WalkO q loose XP YP l.row.toRowW d [] (fun f vs=>PySem.call f vs):=
 L2.uX (n:=63) (k:=46) (x:="script") (CX:=fun _=>a8) (sp:=fun w=>mF (K w.params)) hn (by decide) hdf ⟨rfl,by decide,by decide⟩ hY F (fun _ _ a ns hl _ hS=>⟨a,ns,rfl,hS,hl,fun _=>rfl⟩) fun _ _ _ _ _ z=>z
end My
theorem PySem.W.Fast.tw10033127983794678999:True:=trivial
theorem PySem.W.Fast.tw10149805530568431007:True:=trivial
theorem PySem.W.Fast.tw1018515045234804120:True:=trivial
theorem PySem.W.Fast.tw10214731705087776851:True:=trivial
theorem PySem.W.Fast.tw10339399647162661605:True:=trivial
theorem PySem.W.Fast.tw10467014749105810593:True:=trivial
theorem PySem.W.Fast.tw10487246557775722253:True:=trivial
theorem PySem.W.Fast.tw11015088222112722335:True:=trivial
theorem PySem.W.Fast.tw11086831059757708353:True:=trivial
theorem PySem.W.Fast.tw11121340106044449741:True:=trivial
theorem PySem.W.Fast.tw11178884095377309895:True:=trivial
theorem PySem.W.Fast.tw11242405649314485860:True:=trivial
theorem PySem.W.Fast.tw11329325394059947853:True:=trivial
theorem PySem.W.Fast.tw11346717290095735431:True:=trivial
theorem PySem.W.Fast.tw1135367941024272988:True:=trivial
theorem PySem.W.Fast.tw11357897082049806665:True:=trivial
theorem PySem.W.Fast.tw11499818156579776929:True:=trivial
theorem PySem.W.Fast.tw11750901642678568059:True:=trivial
theorem PySem.W.Fast.tw11923048888483361777:True:=trivial
theorem PySem.W.Fast.tw11927521876984516024:True:=trivial
theorem PySem.W.Fast.tw12059715102740028042:True:=trivial
theorem PySem.W.Fast.tw1224529505574827506:True:=trivial
theorem PySem.W.Fast.tw12262446516662013881:True:=trivial
theorem PySem.W.Fast.tw12431298341038620903:True:=trivial
theorem PySem.W.Fast.tw12434420745891819835:True:=trivial
theorem PySem.W.Fast.tw124443953257155642:True:=trivial
theorem PySem.W.Fast.tw12479986639601956085:True:=trivial
theorem PySem.W.Fast.tw12580135078148110432:True:=trivial
theorem PySem.W.Fast.tw12619999256168280148:True:=trivial
theorem PySem.W.Fast.tw12698257240646404997:True:=trivial
theorem PySem.W.Fast.tw12744166692840675590:True:=trivial
theorem PySem.W.Fast.tw12747294758044032441:True:=trivial
theorem PySem.W.Fast.tw12837212778600045338:True:=trivial
theorem PySem.W.Fast.tw13058647293998468573:True:=trivial
theorem PySem.W.Fast.tw13143444559721801820:True:=trivial
theorem PySem.W.Fast.tw13186638866718987171:True:=trivial
theorem PySem.W.Fast.tw13277879090397620558:True:=trivial
theorem PySem.W.Fast.tw13339787463961804418:True:=trivial
theorem PySem.W.Fast.tw13704201347016028375:True:=trivial
theorem PySem.W.Fast.tw13717485881402496379:True:=trivial
theorem PySem.W.Fast.tw13924953458254603022:True:=trivial
theorem PySem.W.Fast.tw13968416840352071740:True:=trivial
theorem PySem.W.Fast.tw14025292878653646714:True:=trivial
theorem PySem.W.Fast.tw1410127927305469822:True:=trivial
theorem PySem.W.Fast.tw1419876170370822933:True:=trivial
theorem PySem.W.Fast.tw14354059486759874503:True:=trivial
theorem PySem.W.Fast.tw14443874460673889584:True:=trivial
theorem PySem.W.Fast.tw14471313708314411292:True:=trivial
theorem PySem.W.Fast.tw14558906327760442168:True:=trivial
theorem PySem.W.Fast.tw14578246782400446630:True:=trivial
theorem PySem.W.Fast.tw14660380387048475836:True:=trivial
theorem PySem.W.Fast.tw14678534008429400942:True:=trivial
theorem PySem.W.Fast.tw14778545483386485643:True:=trivial
theorem PySem.W.Fast.tw14835010469812788906:True:=trivial
theorem PySem.W.Fast.tw14866127087582357473:True:=trivial
theorem PySem.W.Fast.tw15043122614682262053:True:=trivial
theorem PySem.W.Fast.tw15274412729609386044:True:=trivial
theorem PySem.W.Fast.tw15537145706143652127:True:=trivial
theorem PySem.W.Fast.tw1576861318056069396:True:=trivial
theorem PySem.W.Fast.tw15837653825868919376:True:=trivial
theorem PySem.W.Fast.tw16024201111257868661:True:=trivial
theorem PySem.W.Fast.tw1603828525206800391:True:=trivial
theorem PySem.W.Fast.tw16051302856157967342:True:=trivial
theorem PySem.W.Fast.tw16121438174815539553:True:=trivial
theorem PySem.W.Fast.tw16132775559176689599:True:=trivial
theorem PySem.W.Fast.tw16328840714924293413:True:=trivial
theorem PySem.W.Fast.tw16343806596566084800:True:=trivial
theorem PySem.W.Fast.tw16466305013274209151:True:=trivial
theorem PySem.W.Fast.tw16495174560856246858:True:=trivial
theorem PySem.W.Fast.tw16542666300671720598:True:=trivial
theorem PySem.W.Fast.tw16767075996942031461:True:=trivial
theorem PySem.W.Fast.tw16875439603677066605:True:=trivial
theorem PySem.W.Fast.tw16899728691512992669:True:=trivial
theorem PySem.W.Fast.tw16906139189778012162:True:=trivial
theorem PySem.W.Fast.tw17186674424679211765:True:=trivial
theorem PySem.W.Fast.tw17209180507946800106:True:=trivial
theorem PySem.W.Fast.tw17217072141324632254:True:=trivial
theorem PySem.W.Fast.tw17228799669584431756:True:=trivial
theorem PySem.W.Fast.tw17496150807293239175:True:=trivial
theorem PySem.W.Fast.tw17596882999671560859:True:=trivial
theorem PySem.W.Fast.tw17597175089043198695:True:=trivial
theorem PySem.W.Fast.tw1769416131838196017:True:=trivial
theorem PySem.W.Fast.tw17752412576318839570:True:=trivial
theorem PySem.W.Fast.tw17862398670900672534:True:=trivial
theorem PySem.W.Fast.tw18018276974385787107:True:=trivial
theorem PySem.W.Fast.tw18203560512576899181:True:=trivial
theorem PySem.W.Fast.tw18245064429942437801:True:=trivial
theorem PySem.W.Fast.tw191486908667222351:True:=trivial
theorem PySem.W.Fast.tw1947595221263620935:True:=trivial
theorem PySem.W.Fast.tw1958351828314846448:True:=trivial
theorem PySem.W.Fast.tw2013751533113965138:True:=trivial
theorem PySem.W.Fast.tw2083073012185910921:True:=trivial
theorem PySem.W.Fast.tw2173008197776370822:True:=trivial
theorem PySem.W.Fast.tw22366840866574137:True:=trivial
theorem PySem.W.Fast.tw2283605621628845101:True:=trivial
theorem PySem.W.Fast.tw2334597882455788876:True:=trivial
theorem PySem.W.Fast.tw2563278767257971138:True:=trivial
theorem PySem.W.Fast.tw2751588014444504694:True:=trivial
theorem PySem.W.Fast.tw2995686058592644335:True:=trivial
theorem PySem.W.Fast.tw301513718264340968:True:=trivial
theorem PySem.W.Fast.tw3067209992280161142:True:=trivial
theorem PySem.W.Fast.tw3359001864513739173:True:=trivial
theorem PySem.W.Fast.tw352347566501618726:True:=trivial
theorem PySem.W.Fast.tw3586027906797631036:True:=trivial
theorem PySem.W.Fast.tw3680431808502794608:True:=trivial
theorem PySem.W.Fast.tw3717661496452374908:True:=trivial
theorem PySem.W.Fast.tw3751586452873018843:True:=trivial
theorem PySem.W.Fast.tw3953617886266963592:True:=trivial
theorem PySem.W.Fast.tw4028202185166414096:True:=trivial
theorem PySem.W.Fast.tw4094879396649933076:True:=trivial
theorem PySem.W.Fast.tw423405762986719355:True:=trivial
theorem PySem.W.Fast.tw4307229232177746893:True:=trivial
theorem PySem.W.Fast.tw4517141948155203376:True:=trivial
theorem PySem.W.Fast.tw4602893981384984060:True:=trivial
theorem PySem.W.Fast.tw486504252270224874:True:=trivial
theorem PySem.W.Fast.tw4922396466110500385:True:=trivial
theorem PySem.W.Fast.tw4994876767510287092:True:=trivial
theorem PySem.W.Fast.tw5032743751756828549:True:=trivial
theorem PySem.W.Fast.tw5034693589645012259:True:=trivial
theorem PySem.W.Fast.tw5099548330594257213:True:=trivial
theorem PySem.W.Fast.tw5111681182255320818:True:=trivial
theorem PySem.W.Fast.tw5137318351356109979:True:=trivial
theorem PySem.W.Fast.tw5139318620032667787:True:=trivial
theorem PySem.W.Fast.tw5170323803697669095:True:=trivial
theorem PySem.W.Fast.tw5270093392651367623:True:=trivial
theorem PySem.W.Fast.tw5328384811190115526:True:=trivial
theorem PySem.W.Fast.tw5358303844017389280:True:=trivial
theorem PySem.W.Fast.tw5389153602092155864:True:=trivial
theorem PySem.W.Fast.tw5390696109785158872:True:=trivial
theorem PySem.W.Fast.tw5473065350996018032:True:=trivial
theorem PySem.W.Fast.tw5486235650879619864:True:=trivial
theorem PySem.W.Fast.tw5857486310094982218:True:=trivial
theorem PySem.W.Fast.tw5923678406843553940:True:=trivial
theorem PySem.W.Fast.tw6149438051638077991:True:=trivial
theorem PySem.W.Fast.tw6183520665439669698:True:=trivial
theorem PySem.W.Fast.tw6309926403225962177:True:=trivial
theorem PySem.W.Fast.tw6467182383376975518:True:=trivial
theorem PySem.W.Fast.tw6537950132407071821:True:=trivial
theorem PySem.W.Fast.tw65537002045424097:True:=trivial
theorem PySem.W.Fast.tw660001464563781936:True:=trivial
theorem PySem.W.Fast.tw6954156654658378094:True:=trivial
theorem PySem.W.Fast.tw6959876661413904270:True:=trivial
theorem PySem.W.Fast.tw7004155445581822178:True:=trivial
theorem PySem.W.Fast.tw7307057920122463212:True:=trivial
theorem PySem.W.Fast.tw7338110635154368211:True:=trivial
theorem PySem.W.Fast.tw7504673840283134267:True:=trivial
theorem PySem.W.Fast.tw7575709183075657328:True:=trivial
theorem PySem.W.Fast.tw7688324454058927833:True:=trivial
theorem PySem.W.Fast.tw7795299066163505889:True:=trivial
theorem PySem.W.Fast.tw7798454026616335599:True:=trivial
theorem PySem.W.Fast.tw8002633524749989189:True:=trivial
theorem PySem.W.Fast.tw8069594082258770799:True:=trivial
theorem PySem.W.Fast.tw8096518285904246921:True:=trivial
theorem PySem.W.Fast.tw8141014896204041674:True:=trivial
theorem PySem.W.Fast.tw8227682184103542866:True:=trivial
theorem PySem.W.Fast.tw825444077628609836:True:=trivial
theorem PySem.W.Fast.tw8458698286390269695:True:=trivial
theorem PySem.W.Fast.tw8741394886920527986:True:=trivial
theorem PySem.W.Fast.tw8825855103301098817:True:=trivial
theorem PySem.W.Fast.tw9049919228121072305:True:=trivial
theorem PySem.W.Fast.tw9067668158180471166:True:=trivial
theorem PySem.W.Fast.tw9097587142914541153:True:=trivial
theorem PySem.W.Fast.tw9152274550586977215:True:=trivial
theorem PySem.W.Fast.tw9260938285020055399:True:=trivial
theorem PySem.W.Fast.tw9285647910073977742:True:=trivial
theorem PySem.W.Fast.tw9345843427297450104:True:=trivial
theorem PySem.W.Fast.tw9466854815868662293:True:=trivial
theorem PySem.W.Fast.tw954955034223527972:True:=trivial
theorem PySem.W.Fast.tw9552426303638619889:True:=trivial
theorem PySem.W.Fast.tw9607087964922419175:True:=trivial
theorem PySem.W.Fast.tw9716505432688657798:True:=trivial
theorem PySem.W.Fast.tw9753820965112916953:True:=trivial
theorem PySem.W.Fast.tw9948296418109967801:True:=trivial
open PySem PySem.W PyProof.Rows
set_option maxRecDepth 100000 in
set_option maxHeartbeats 0 in
theorem PySem.Challenge.cw_deskround_k36_what_is_no_paper_holds : PySem.Challenge.rw_deskround_k36_what_is_no_paper.Holds := by
 w_on;o_law;k_head;(case hw=>w_witness2)
 k_fill
 refine My.walk (l:=PySem.Challenge.rw_deskround_k36_what_is_no_paper) rfl rfl (fun w h Y=>PySem.W.kIn_of Y) ?F
 case F=>
  intro w mg fa h KX G hmg
  refine' My.xH KX G hmg ?q0 ?q1 ?q2 ?q3 ?q4 ?q5 ?q6 ?q7 ?q8 ?q9 ?q10 ?q11 ?q12 ?q13 ?q14 ?q15 ?q16 ?q17 ?q18 ?q19 ?q20 ?q21 ?q22 ?q23 ?q24 ?q25 ?q26 ?q27 ?q28 ?q29 ?q30 ?q31 ?q32 ?q33 ?q34 ?q35 ?q36 ?q37 ?q38 ?q39 ?q40 ?q41 ?q42 ?q43 ?q44 ?z0 ?z1 ?z2 ?z3 ?z4 ?z5 ?z6 ?z7 ?z8 ?z9 ?z10 ?z11 ?z12 ?z13 ?z14
  (case q0=>refine' My.aO ?a ?l ?c ?k;(case a=>k_is);(case l=>k_is);(case c=>k_is);(case k=>k_is))
  (case q1=>refine' My.aO ?a ?l ?c ?k;(case a=>k_is);(case l=>k_is);(case c=>k_is);(case k=>k_is))
  (case q2=>refine' My.aO ?a ?l ?c ?k;(case a=>k_is);(case l=>k_is);(case c=>k_is);(case k=>k_is))
  (case q3=>refine' My.aO ?a ?l ?c ?k;(case a=>k_is);(case l=>k_is);(case c=>k_is);(case k=>k_is))
  (case q4=>refine' My.aO ?a ?l ?c ?k;(case a=>k_is);(case l=>k_is);(case c=>k_is);(case k=>k_is))
  (case q5=>refine' My.aO ?a ?l ?c ?k;(case a=>k_is);(case l=>k_is);(case c=>k_is);(case k=>k_is))
  (case q6=>refine' My.aO ?a ?l ?c ?k;(case a=>k_is);(case l=>k_is);(case c=>k_is);(case k=>k_is))
  (case q7=>refine' My.aO ?a ?l ?c ?k;(case a=>k_is);(case l=>k_is);(case c=>k_is);(case k=>k_is))
  (case q8=>refine' My.aO ?a ?l ?c ?k;(case a=>k_is);(case l=>k_is);(case c=>k_is);(case k=>k_is))
  (case q9=>refine' My.aO ?a ?l ?c ?k;(case a=>k_is);(case l=>k_is);(case c=>k_is);(case k=>k_is))
  (case q10=>refine' My.aO ?a ?l ?c ?k;(case a=>k_is);(case l=>k_is);(case c=>k_is);(case k=>k_is))
  (case q11=>refine' My.aO ?a ?l ?c ?k;(case a=>k_is);(case l=>k_is);(case c=>k_is);(case k=>k_is))
  (case q12=>refine' My.aO ?a ?l ?c ?k;(case a=>k_is);(case l=>k_is);(case c=>k_is);(case k=>k_is))
  (case q13=>refine' My.aO ?a ?l ?c ?k;(case a=>k_is);(case l=>k_is);(case c=>k_is);(case k=>k_is))
  (case q14=>refine' My.aO ?a ?l ?c ?k;(case a=>k_is);(case l=>k_is);(case c=>k_is);(case k=>k_is))
  (case q15=>refine' My.aO ?a ?l ?c ?k;(case a=>k_is);(case l=>k_is);(case c=>k_is);(case k=>k_is))
  (case q16=>refine' My.aO ?a ?l ?c ?k;(case a=>k_is);(case l=>k_is);(case c=>k_is);(case k=>k_is))
  (case q17=>refine' My.aO ?a ?l ?c ?k;(case a=>k_is);(case l=>k_is);(case c=>k_is);(case k=>k_is))
  (case q18=>refine' My.aO ?a ?l ?c ?k;(case a=>k_is);(case l=>k_is);(case c=>k_is);(case k=>k_is))
  (case q19=>refine' My.aO ?a ?l ?c ?k;(case a=>k_is);(case l=>k_is);(case c=>k_is);(case k=>k_is))
  (case q20=>refine' My.aO ?a ?l ?c ?k;(case a=>k_is);(case l=>k_is);(case c=>k_is);(case k=>k_is))
  (case q21=>refine' My.aO ?a ?l ?c ?k;(case a=>k_is);(case l=>k_is);(case c=>k_is);(case k=>k_is))
  (case q22=>refine' My.aO ?a ?l ?c ?k;(case a=>k_is);(case l=>k_is);(case c=>k_is);(case k=>k_is))
  (case q23=>refine' My.aO ?a ?l ?c ?k;(case a=>k_is);(case l=>k_is);(case c=>k_is);(case k=>k_is))
  (case q24=>refine' My.aO ?a ?l ?c ?k;(case a=>k_is);(case l=>k_is);(case c=>k_is);(case k=>k_is))
  (case q25=>refine' My.aO ?a ?l ?c ?k;(case a=>k_is);(case l=>k_is);(case c=>k_is);(case k=>k_is))
  (case q26=>refine' My.aO ?a ?l ?c ?k;(case a=>k_is);(case l=>k_is);(case c=>k_is);(case k=>k_is))
  (case q27=>refine' My.aO ?a ?l ?c ?k;(case a=>k_is);(case l=>k_is);(case c=>k_is);(case k=>k_is))
  (case q28=>refine' My.aO ?a ?l ?c ?k;(case a=>k_is);(case l=>k_is);(case c=>k_is);(case k=>k_is))
  (case q29=>refine' My.aO ?a ?l ?c ?k;(case a=>k_is);(case l=>k_is);(case c=>k_is);(case k=>k_is))
  (case q30=>refine' My.aO ?a ?l ?c ?k;(case a=>k_is);(case l=>k_is);(case c=>k_is);(case k=>k_is))
  (case q31=>refine' My.aO ?a ?l ?c ?k;(case a=>k_is);(case l=>k_is);(case c=>k_is);(case k=>k_is))
  (case q32=>refine' My.aO ?a ?l ?c ?k;(case a=>k_is);(case l=>k_is);(case c=>k_is);(case k=>k_is))
  (case q33=>refine' My.aO ?a ?l ?c ?k;(case a=>k_is);(case l=>k_is);(case c=>k_is);(case k=>k_is))
  (case q34=>refine' My.aO ?a ?l ?c ?k;(case a=>k_is);(case l=>k_is);(case c=>k_is);(case k=>k_is))
  (case q35=>refine' My.aO ?a ?l ?c ?k;(case a=>k_is);(case l=>k_is);(case c=>k_is);(case k=>k_is))
  (case q36=>refine' My.aO ?a ?l ?c ?k;(case a=>k_is);(case l=>k_is);(case c=>k_is);(case k=>k_is))
  (case q37=>refine' My.aO ?a ?l ?c ?k;(case a=>k_is);(case l=>k_is);(case c=>k_is);(case k=>k_is))
  (case q38=>refine' My.aO ?a ?l ?c ?k;(case a=>k_is);(case l=>k_is);(case c=>k_is);(case k=>k_is))
  (case q39=>refine' My.aO ?a ?l ?c ?k;(case a=>k_is);(case l=>k_is);(case c=>k_is);(case k=>k_is))
  (case q40=>refine' My.aO ?a ?l ?c ?k;(case a=>k_is);(case l=>k_is);(case c=>k_is);(case k=>k_is))
  (case q41=>refine' My.aO ?a ?l ?c ?k;(case a=>k_is);(case l=>k_is);(case c=>k_is);(case k=>k_is))
  (case q42=>refine' My.aO ?a ?l ?c ?k;(case a=>k_is);(case l=>k_is);(case c=>k_is);(case k=>k_is))
  (case q43=>refine' My.aO ?a ?l ?c ?k;(case a=>k_is);(case l=>k_is);(case c=>k_is);(case k=>k_is))
  (case q44=>refine' My.aO ?a ?l ?c ?k;(case a=>k_is);(case l=>k_is);(case c=>k_is);(case k=>k_is))
  (case z0=>k_is);(case z1=>k_is);(case z2=>k_is);(case z3=>k_is);(case z4=>k_is);(case z5=>k_is);(case z6=>k_is);(case z7=>k_is);(case z8=>k_is);(case z9=>k_is);(case z10=>k_is);(case z11=>k_is);(case z12=>k_is);(case z13=>k_is);(case z14=>k_is)
end
