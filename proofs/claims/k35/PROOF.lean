import PyProof.Rows.All
import Wide.All
import OpenK.AllK
import Wide.FinOn
import Lean
import PyProof.EqAt
import PyProof.EqKinds
import PyProof.TupleCall
import PyProof.NeKinds
import PyProof.DictWalks
import PyProof.DictItems
import PyProof.CollectWalk
import KE.KDictList
import PyProof.AutoSeq1
import PyProof.Rows.Range3
import KE.KUnpack
import PyProof.MeetsSeq2
import PyProof.ZipIter
import KE.KRevSl
import PyProof.MeetsSeq
import PyProof.EnumMake
import PyProof.EnumFor
import PyProof.EnumStmt
import PyProof.MinMaxWalk
import PyProof.WalkInts
import PyProof.SumAny
import KE.KRevIter
import PyProof.Rows.FactsT2
import PyProof.IsiH_list
import PyProof.AttrMiss
import KE.KDictOf
import PyProof.ListRange
import KE.KDictLaws
import KE.KSortTup
import KE.KItemsList
import PyProof.ExcArgs
import KE.KSortKey
import KE.KMinKey
import PySem.Challenge.RW_deskround_k35_what_a_paper_bears
set_option bootstrap.genMatcherCode false
set_option genSizeOf false
noncomputable section
open List renaming length_map->AC,getElem?_eq_getElem->AD,getD_eq_getElem?_getD->AE,getElem?_eq_some_iff->AF,getElem?_map->AG,range->AH,mem_of_getElem?->AJ,length_append->AK,size_toArray->AM,mem_singleton->AN,mem_cons->AR,length_singleton->AS,mem_iff_getElem->AU,map_append->AW,all_eq_true->AX,mem_cons_of_mem->AY,mem_append->AZ,getElem_mem->A1,map_map->A3,not_mem_nil->A4,length_eq_zero_iff->A5,mem_cons_self->A7,filter_eq_self->A8,mem_range->Bb,mem_append_right->Bc,replicate->Bf,take_length->Bg,length_filter_le->Bh,lookup_cons->Bi,mem_filter->Bj,length_range->Bm,filter_append->Bn,getElem?_append_right->Bo,getElem?_append_left->Bp,mem_map->Br,pairwise_iff_getElem->Bv,range_succ->Bw,length_drop->Bx,ext_getElem->By,getElem?_range->Bz,mem_iff_getElem?->BB,length_take->BE,length_cons->BF,getElem_map->BG,take_of_length_le->BH,getElem?_eq_none->BI,mem_append_left->BM,map_cons->BN,take_add_one->BO,filterMap_cons->BP,replicate_succ->BQ,map_congr_left->BR,length_set->BS,find?_cons->BU,append_nil->BX,filter_cons->BY,mem_filterMap->BZ,pairwise_singleton->B5,getElem_range->B6,getElem?_set_self->B7,nodup_cons->B8,flatten_cons->Ca,take_zero->Cb,filter_map->Ce,filter_nil->Cf,findIdx?_eq_some_iff_getElem->Cj,drop_of_length_le->Ck,findIdx_lt_length_of_exists->Cm,take_append_drop->Cn,filter->Cp,getElem?_set_ne->Cr,foldl_cons->Cs,nodup_nil->Cu,length_eraseIdx_of_lt->Cw,append_assoc->Cy,nodup_append->Cz,getElem_take->CB,of_mem_zip->CF,foldl->CG
open Nat renaming le_refl->AI,ne_of_lt->AV,zero_le->A0,lt_of_lt_of_le->A6,le_trans->A9,lt_succ_of_lt->Bk,lt_succ_self->Bs,lt_irrefl->Bt,sub_succ_lt_self->Bu,le_of_lt->BC,ne_of_gt->BD,le_of_not_lt->BK,le_antisymm->BW,sub_self->B3,min_eq_left->B9,min_eq_right->Cc,not_lt->Cg,lt_of_le_of_lt->Ci,le_add_right->Co,le_succ->Cq,add_le_add_left->Ct,mod_lt->CC,zero_add->CD
open Option renaming map_eq_some_iff->AL,isSome_iff_exists->BJ
open Bool renaming false_ne_true->AO,false_and->Bd,false_eq_true->Be,and_eq_true->BL,not_eq_true->BV,eq_iff_iff->Cd
open Array renaming length_toList->AQ,getElem?_eq_getElem->Bq,getElem?_toList->B1,getElem_toList->B4,toList_push->CA,getD->CH
open Int renaming toNat_natCast->Ba,emod_lt_of_pos->B0,emod_nonneg->B2,fdiv_eq_ediv_of_nonneg->Cv
set_option Elab.async false
set_option linter.all false
set_option maxRecDepth 100000
namespace L2
open PySem PySem.Spec PyProof.Rows
abbrev dJ:=Sum Int Str
def lE:dJ->Value->Bool
 | .inl k,v=>Value.isInt k v
 | .inr x,v=>Value.isStrOf x v
def zj (w:World):dJ->Int
 | .inl k=>hashInt k
 | .inr x=>hashStr w x
theorem bJ:∀{k:dJ} {v:Value},lE k v=true->(∃i t,k=Sum.inl i/\v=Value.int i t)\/(∃x t,k=Sum.inr x/\v=Value.str x t)
 | .inl i,v,h=>by
  obtain⟨t,e⟩:=Value.isInt_shape (k:=i) (v:=v) h
  exact .inl ⟨i,t,rfl,e⟩
 | .inr x,v,h=>by
  obtain⟨t,e⟩:=Value.isStrOf_shape (x:=x) (v:=v) h
  exact .inr ⟨x,t,rfl,e⟩
theorem rE (i:Int) (t:Tok):lE (.inl i) (.int i t)=true:=by simp[lE,Value.isInt]
theorem rF (x:Str) (t:Tok):lE (.inr x) (.str x t)=true:=by simp[lE,Value.isStrOf]
theorem xi (a b:Int):decide ((Sum.inl a:dJ)=Sum.inl b)=(a==b):=by
 by_cases e:a=b
 ·subst e;simp
 ·have h:¬(Sum.inl a:dJ)=Sum.inl b:=fun q=>e (Sum.inl.inj q)
  rw[decide_eq_false h]
  exact(beq_eq_false_iff_ne.mpr e).symm
theorem xj (a b:Str):decide ((Sum.inr a:dJ)=Sum.inr b)=decide (a=b):=by
 by_cases e:a=b
 ·subst e;simp
 ·have h:¬(Sum.inr a:dJ)=Sum.inr b:=fun q=>e (Sum.inr.inj q)
  rw[decide_eq_false h,decide_eq_false e]
theorem xk (a:Int) (b:Str):decide ((Sum.inl a:dJ)=Sum.inr b)=false:=decide_eq_false (fun q=>nomatch q)
theorem xm (a:Str) (b:Int):decide ((Sum.inr a:dJ)=Sum.inl b)=false:=decide_eq_false (fun q=>nomatch q)
def bq (prog:Program) (w:World):PySem.KeyKind prog w dJ where
 is:=lE
 hash:=zj w
 inj:=fun v a b ha hb=>by
  rcases bJ ha with⟨i,t,rfl,rfl⟩ | ⟨x,t,rfl,rfl⟩
  ·rcases bJ hb with⟨j,u,rfl,e⟩ | ⟨y,u,rfl,e⟩
   ·injection e with e1 _;rw[e1]
   ·exact nomatch e
  ·rcases bJ hb with⟨j,u,rfl,e⟩ | ⟨y,u,rfl,e⟩
   ·exact nomatch e
   ·injection e with e1 _;rw[e1]
 byValue:=fun k v h=>by
  rcases bJ h with⟨i,t,rfl,rfl⟩ | ⟨x,t,rfl,rfl⟩<;>rfl
 pyHash:=fun hv h=>by
  rcases bJ hv with⟨i,t,rfl,rfl⟩ | ⟨x,t,rfl,rfl⟩
  ·exact wpAny_pyHash_int h
  ·exact wpAny_pyHash_str h
 eqBool:=fun hu hv h=>by
  rcases bJ hu with⟨i,t,rfl,rfl⟩ | ⟨x,t,rfl,rfl⟩
  ·rcases bJ hv with⟨j,u,rfl,rfl⟩ | ⟨y,u,rfl,rfl⟩
   ·rw [xi]at h;exact wpAny_eqBool_int h
   ·rw [xk]at h;exact SeqAt.EqAt.int_str i t y u _ _ _ _ h
  ·rcases bJ hv with⟨j,u,rfl,rfl⟩ | ⟨y,u,rfl,rfl⟩
   ·rw [xm]at h;exact SeqAt.EqAt.str_int x t j u _ _ _ _ h
   ·rw [xj]at h;exact wpAny_eqBool_str h
 «strs»:=fun k x t v h=>by
  rcases bJ h with⟨i,u,rfl,e⟩ | ⟨y,u,rfl,e⟩
  ·exact nomatch e
  ·injection e with e1 _
   subst e1
   cases v<;>rfl
theorem nQ (prog:Program) (w:World) (i:Int) (t:Tok):(bq prog w).is (.inl i) (.int i t)=true:=rE i t
theorem nR (prog:Program) (w:World) (x:Str) (t:Tok):(bq prog w).is (.inr x) (.str x t)=true:=rF x t
inductive V where
 | non | bl (b:Bool) | int (i:Int) | str (x:Str) | byt (b:Array UInt8) | flt (b:UInt64) | ref (a:Addr) | ty (n:String)
 deriving DecidableEq
def RelV:V->Value->Prop
 | .non,u=>u=Value.none
 | .bl b,u=>u=Value.bool b
 | .int i,u=>∃t,u=Value.int i t
 | .str x,u=>∃t,u=Value.str x t
 | .byt b,u=>∃t,u=Value.bytes b t
 | .flt b,u=>∃t,u=Value.float b t
 | .ref a,u=>u=Value.ref a
 | .ty n,u=>u=Value.type n
abbrev Vals:List V->List Value->Prop:=Paired RelV
theorem Vals.length {xs:List V} {us:List Value} (r:Vals xs us):xs.length=us.length:=Paired.length r
theorem Vals.get:∀{xs:List V} {us:List Value} {i:Nat} {x:V},Vals xs us->xs[i]?=some x->∃u,us[i]?=some u/\RelV x u:=by
 intro xs us i x h
 induction h generalizing i with
 | nil=>intro e;simp at e
 | cons r t ih=>
  intro e
  cases i with
  | zero=>cases e;exact⟨_,rfl,r⟩
  | succ i=>exact ih e
theorem Vals.set {x:V} {u:Value} (r:RelV x u):∀{xs:List V} {us:List Value} (i:Nat),Vals xs us->Vals (xs.set i x) (us.set i u):=by
 intro xs us i h
 induction h generalizing i with
 | nil=>exact .nil
 | cons q t ih=>
  cases i with
  | zero=>exact .cons r t
  | succ i=>exact .cons q (ih i)
theorem Vals.append:∀{xs ys:List V} {us ws:List Value},Vals xs us->Vals ys ws->Vals (xs++ys) (us++ws):=by
 intro xs ys us ws h s
 induction h with
 | nil=>exact s
 | cons r t ih=>exact .cons r ih
theorem Vals.take:∀{xs:List V} {us:List Value} (n:Nat),Vals xs us->Vals (xs.take n) (us.take n):=by
 intro xs us n h
 induction h generalizing n with
 | nil=>cases n<;>exact .nil
 | cons r t ih=>
  cases n with
  | zero=>exact .nil
  | succ n=>exact .cons r (ih n)
theorem Vals.drop:∀{xs:List V} {us:List Value} (n:Nat),Vals xs us->Vals (xs.drop n) (us.drop n):=by
 intro xs us n h
 induction h generalizing n with
 | nil=>cases n<;>exact .nil
 | cons r t ih=>
  cases n with
  | zero=>exact .cons r t
  | succ n=>exact ih n
def RelO:Option V->Option Value->Prop
 | some v,some u=>RelV v u
 | none,none=>True
 | _,_=>False
def KV {κ:Type}:List (κ×V)->List (κ×Value)->Prop:=Paired fun(p:κ×V) (q:κ×Value)=>p.1=q.1/\RelV p.2 q.2
def kV:dJ->V
 | .inl i=> .int i
 | .inr x=> .str x
inductive HO where
 | lst (xs:List V)
 | tup (xs:List V)
 | dK (kvs:List (dJ×V)) | dT (kvs:List (List dJ×V))
 | set (S:Int->Bool) (n:Nat)
 | ins (C dx:Addr) (fs:List (Str×V))
 | own (x:Addr)
 | xd (fs:List (Str×V))
 | met (f x:Addr)
 | rng (lo hi:Int)
 | frz (o:Obj) (u:HO)
 | tbl (ps:Array Value)
 | ext (φ:Heap->Prop)
abbrev Hp:=Addr->Option HO
def ay (H:Hp) (a:Addr) (o:HO):Hp:=fun b=>if b=a then some o else H b
theorem af {H:Hp} {a:Addr} {o:HO}:ay H a o a=some o:=by unfold ay;rw[if_pos rfl]
theorem aC {H:Hp} {a b:Addr} {o:HO} (h:b≠a):ay H a o b=H b:=by unfold ay;rw[if_neg h]
theorem bf {H:Hp} {a b:Addr} {o:HO} (h:H a=some o) (h':H b=none):a≠b:=by
 intro e;subst e;rw[h]at h';cases h'
section
variable (P:Program) (w:World)
def ObjOk (H:Hp) (h:Heap) (a:Addr):HO->Prop
 | .lst xs=>xs.length<=sizeLine/\∃(its:List Value) (n:Nat),Vals xs its/\h.get? a=some {cls:= .type "list",data:= .seq its.toArray n}
 | .tup xs=>xs.length<=sizeLine/\∃its:List Value,Vals xs its/\IsTup h a its.toArray
 | .dK kvs=>kvs.length<=sizeLine/\(a==sysModules)=false/\∃vs,KV kvs vs/\h.DictOf (bq P w) a vs
 | .dT kvs=>kvs.length<=sizeLine/\(a==sysModules)=false/\∃xs:List (List dJ×Addr×Value),
  Paired (fun(p:List dJ×V) (q:List dJ×Addr×Value)=>p.1=q.1/\H q.2.1=some (.tup (p.1.map kV))/\RelV p.2 q.2.2) kvs xs/\
  ∃o es ep,h.get? a=some o/\o.ExactDict/\o.data= .dict es ep/\es.toList=xs.map (entryOfKey (tupleKind (bq P w)))/\(xs.map (·.1)).Nodup
 | .set S n=>h.SetOf (intKind P w) a S n
 | .ins C dx fs=>H dx=some (.own a)/\fs.length<=1000/\dx≠a/\h.get? a=some (PySem.W.instObj C dx)/\
  ∃mA,h.Ns1 dx mA/\(∀f,RelO (fs.lookup f) (mA f))/\PySem.Within mA (fs.map (·.1))
 | .own _=>∃o,h.get? a=some o
 | .xd fs=>∃mA,h.Ns1 a mA/\∀f,RelO (fs.lookup f) (mA f)
 | .rng lo hi=>∃t u v,h.get? a=some {cls:= .type "range",data:= .fields #[.int lo t,.int hi u,.int 1 v]}
 | .frz o u=>h.get? a=some o/\ObjOk H h a u
 | .tbl ps=>h.get? a=some {cls:= .none,data:= .fields ps}
 | .met f x=>h.get? a=some (PySem.W.methodObj (.ref f) (.ref x))
 | .ext φ=>φ h/\(∃o,h.get? a=some o)/\∀h1 h2:Heap,φ h1->(∀o,h1.get? a=some o->h2.get? a=some o)->φ h2
def HOk (H:Hp) (h:Heap):Prop:=∀a o,H a=some o->ObjOk P w H h a o
end
section
variable {P:Program} {w:World} {H H':Hp} {h h':Heap} {a:Addr} {o:HO}
theorem ObjOk.lt (x:ObjOk P w H h a o):a<h.objs.size:=by
 cases o with
 | lst xs=>obtain⟨_,_,_,_,e⟩:=x;exact Heap.lt_size e
 | tup xs=>obtain⟨_,_,_,p⟩:=x;exact p.lt
 | dK kvs=>obtain⟨_,_,_,_,o,_,_,e,_⟩:=x;exact Heap.lt_size e
 | dT kvs=>obtain⟨_,_,_,_,o,_,_,e,_⟩:=x;exact Heap.lt_size e
 | set S n=>obtain⟨o,_,_,_,e,_⟩:=x;exact Heap.lt_size e
 | ins C dx fs=>obtain⟨_,_,_,e,_⟩:=x;exact Heap.lt_size e
 | own y=>obtain⟨_,e⟩:=x;exact Heap.lt_size e
 | xd fs=>obtain⟨_,⟨_,_,_,e,_⟩,_⟩:=x;exact Heap.lt_size e
 | rng lo hi=>obtain⟨_,_,_,e⟩:=x;exact Heap.lt_size e
 | frz ob u=>obtain⟨e,_⟩:=x;exact Heap.lt_size e
 | tbl ps=>exact Heap.lt_size (show h.get? a=some _ from x)
 | met f y=>exact Heap.lt_size (show h.get? a=some _ from x)
 | ext φ=>obtain⟨_,⟨_,e⟩,_⟩:=x;exact Heap.lt_size e
theorem Paired.mapP {α β:Type} {F G:α->β->Prop}:∀{l₁:List α} {l₂:List β},Paired F l₁ l₂->(∀a b,F a b->G a b)->Paired G l₁ l₂:=by
 intro l₁ l₂ h f
 induction h with
 | nil=>exact .nil
 | cons r t ih=>exact .cons (f _ _ r) ih
theorem ObjOk.stay (x:ObjOk P w H h a o) (k:∀b u,(b=a\/H b=some (.own a))->h.get? b=some u->h'.get? b=some u)
  (ho:∀b,H b=some (.own a)->H' b=some (.own a)) (ht:∀b xs,H b=some (.tup xs)->H' b=some (.tup xs)):ObjOk P w H' h' a o:=by
 induction o with
 | lst xs=>obtain⟨z,its,n,r,e⟩:=x;exact⟨z,its,n,r,k _ _ (.inl rfl) e⟩
 | tup xs=>obtain⟨z,its,r,ob,e,c⟩:=x;exact⟨z,its,r,ob,k _ _ (.inl rfl) e,c⟩
 | dK kvs=>obtain⟨z,y,vs,r,ob,es,ep,e,c⟩:=x;exact⟨z,y,vs,r,ob,es,ep,k _ _ (.inl rfl) e,c⟩
 | dT kvs=>
  obtain⟨z,y,xs,r,ob,es,ep,e,c⟩:=x
  exact⟨z,y,xs,Paired.mapP r fun p q z=>⟨z.1,ht _ _ z.2.1,z.2.2⟩,ob,es,ep,k _ _ (.inl rfl) e,c⟩
 | set S n=>obtain⟨ob,es,ep,t,e,c⟩:=x;exact⟨ob,es,ep,t,k _ _ (.inl rfl) e,c⟩
 | ins C dx fs=>
  obtain⟨d,z,ne,e,mA,⟨od,es,ep,e2,c⟩,r⟩:=x
  exact⟨ho _ d,z,ne,k _ _ (.inl rfl) e,mA,⟨od,es,ep,k _ _ (.inr d) e2,c⟩,r⟩
 | own y=>obtain⟨ob,e⟩:=x;exact⟨ob,k _ _ (.inl rfl) e⟩
 | xd fs=>obtain⟨mA,⟨od,es,ep,e,c⟩,r⟩:=x;exact⟨mA,⟨od,es,ep,k _ _ (.inl rfl) e,c⟩,r⟩
 | rng lo hi=>obtain⟨t,u,v,e⟩:=x;exact⟨t,u,v,k _ _ (.inl rfl) e⟩
 | frz ob u ih=>obtain⟨e,q⟩:=x;exact⟨k _ _ (.inl rfl) e,ih q⟩
 | tbl ps=>
  have e:h.get? a=some {cls:= .none,data:= .fields ps}:=x
  show h'.get? a=some {cls:= .none,data:= .fields ps}
  exact k a _ (.inl rfl) e
 | met f y=>
  have e:h.get? a=some (PySem.W.methodObj (.ref f) (.ref y)):=x
  show h'.get? a=some (PySem.W.methodObj (.ref f) (.ref y))
  exact k a _ (.inl rfl) e
 | ext φ=>obtain⟨p,⟨o,e⟩,st⟩:=x;exact⟨st _ _ p fun o q=>k _ _ (.inl rfl) q,⟨o,k _ _ (.inl rfl) e⟩,st⟩
theorem HOk.lt (x:HOk P w H h) (e:H a=some o):a<h.objs.size:=(x a o e).lt
theorem HOk.fresh (x:HOk P w H h) (e:h.objs.size<=a):H a=none:=by
 cases q:H a with
 | none=>rfl
 | some u=>exact absurd (A6 (x.lt q) e) (Bt _)
theorem HOk.kept (x:HOk P w H h) (k:∀b u,h.get? b=some u->h'.get? b=some u):HOk P w H h':=fun a o e=>
 (x a o e).stay (fun b u _ q=>k b u q) (fun _ q=>q) fun _ _ q=>q
theorem HOk.laid (x:HOk P w H h) (k:∀b u,h.get? b=some u->h'.get? b=some u) (hp:h.objs.size<=a) (new:ObjOk P w (ay H a o) h' a o):HOk P w (ay H a o) h':=fun b u e=>by
 have hn:=x.fresh hp
 by_cases hb:b=a
 ·subst hb;rw[af]at e;cases e;exact new
 ·rw [aC hb]at e
  exact(x b u e).stay (fun c v _ q=>k c v q) (fun c q=>by rw[aC (bf q hn)];exact q) fun c xs q=>by rw[aC (bf q hn)];exact q
end
def Rd (H:Hp) (a:Addr) (u:HO):Prop:=H a=some u\/∃o,H a=some (.frz o u)
theorem Rd.ok {P:Program} {w:World} {H:Hp} {h:Heap} {a:Addr} {u:HO} (r:Rd H a u) (x:HOk P w H h):ObjOk P w H h a u:=by
 rcases r with r | ⟨o,r⟩
 ·exact x a u r
 ·obtain⟨_,q⟩:=x a _ r
  exact q
def y4:Option HO->Prop
 | some (.lst _)=>True
 | some (.dK _)=>True
 | some (.dT _)=>True
 | some (.set _ _)=>True
 | some (.ins _ _ _)=>True
 | some (.ext _)=>True
 | _=>False
section
variable {P:Program} {w:World} {H:Hp} {h h':Heap} {x e:Addr} {o':HO}
theorem HOk.write (ok:HOk P w H h) (mu:y4 (H x)) (he:e=x\/H e=some (.own x)) (k:∀b u,b≠e->h.get? b=some u->h'.get? b=some u) (heo:∃u,h'.get? e=some u)
  (new:ObjOk P w (ay H x o') h' x o'):HOk P w (ay H x o') h':=fun b u q=>by
 have nown:∀c y,H c=some (.own y)->c≠x:=fun c y r z=>by subst z;rw[r]at mu;exact mu
 have ntup:∀c xs,H c=some (.tup xs)->c≠x:=fun c xs r z=>by subst z;rw[r]at mu;exact mu
 by_cases hb:b=x
 ·subst hb;rw[af]at q;cases q;exact new
 ·rw [aC hb]at q
  by_cases hbe:b=e
  ·have q':H b=some (.own x):=by
    rcases he with z | z
    ·exact absurd (hbe.trans z) hb
    ·rw [hbe];exact z
   rw[q]at q';cases q'
   obtain⟨v,hv⟩:=heo
   exact⟨v,by rw[hbe];exact hv⟩
  ·refine(ok b u q).stay (fun c v hc r=>k c v ?_ r) (fun c r=>by rw[aC (nown c b r)];exact r) fun c xs r=>by rw[aC (ntup c xs r)];exact r
   rcases hc with rfl | hc
   ·exact hbe
   ·rintro rfl
    rcases he with z | z
    ·exact nown c b hc z
    ·rw [hc]at z;cases z;exact hb rfl
end
structure Un (fs ex:List Addr) (H H':Hp) (h h':Heap):Prop where
 keep:∀b o,h.get? b=some o->H b=none->b∉fs->b∉ex->h'.get? b=some o
 slot:∀b o,h.get? b=some o->H b=none->b∈fs->b∉ex->∃sl,h'.get? b=some {o with slots:=sl}
 free:∀b o,h.get? b=some o->H b=none->b∉ex->H' b=none
 there:∀b o,h.get? b=some o->b∉ex->∃o',h'.get? b=some o'
 tups:∀b xs,H b=some (.tup xs)->H' b=some (.tup xs)
 frzs:∀b o u,H b=some (.frz o u)->H' b=some (.frz o u)
 tbls:∀b ps,H b=some (.tbl ps)->∃more,H' b=some (.tbl (ps++more))
section
variable {fs fs' ex ex':List Addr} {H H1 H2:Hp} {h h1 h2 h':Heap} {a x e:Addr} {o:HO}
theorem Un.any (u:Un fs ex H H1 h h1) {b:Addr} {ob:Obj} (q:h.get? b=some ob) (n:H b=none) (hx:b∉ex):∃sl,h1.get? b=some {ob with slots:=sl}:=by
 by_cases hb:b∈fs
 ·exact u.slot b ob q n hb hx
 ·exact⟨ob.slots,u.keep b ob q n hb hx⟩
theorem Un.trans (a:Un fs ex H H1 h h1) (b:Un fs ex H1 H2 h1 h2):Un fs ex H H2 h h2 where
 keep:=fun c ob q n hc hx=>b.keep c ob (a.keep c ob q n hc hx) (a.free c ob q n hx) hc hx
 slot:=fun c ob q n hc hx=>by
  obtain⟨sl,e1⟩:=a.slot c ob q n hc hx
  obtain⟨sl',e2⟩:=b.slot c _ e1 (a.free c ob q n hx) hc hx
  exact⟨sl',e2⟩
 free:=fun c ob q n hx=>by
  obtain⟨o',e1⟩:=a.there c ob q hx
  exact b.free c o' e1 (a.free c ob q n hx) hx
 there:=fun c ob q hx=>by
  obtain⟨o',e1⟩:=a.there c ob q hx
  exact b.there c o' e1 hx
 tups:=fun c xs q=>b.tups c xs (a.tups c xs q)
 frzs:=fun c ob xs q=>b.frzs c ob xs (a.frzs c ob xs q)
 tbls:=fun c ps q=>by
  obtain⟨m1,e1⟩:=a.tbls c ps q
  obtain⟨m2,e2⟩:=b.tbls c _ e1
  exact⟨m1++m2,by rw[e2,Array.append_assoc]⟩
theorem Un.kept (k:∀b u,h.get? b=some u->h'.get? b=some u):Un fs ex H H h h':=
 ⟨fun b ob q _ _ _=>k b ob q,fun b ob q _ _ _=>⟨ob.slots,k b ob q⟩,fun _ _ _ n _=>n,fun b ob q _=>⟨ob,k b ob q⟩,fun _ _ q=>q,fun _ _ _ q=>q,fun _ ps q=>⟨#[],by rw[q];simp⟩⟩
theorem Un.refl:Un fs ex H H h h:=Un.kept fun _ _ q=>q
theorem Un.laid (k:∀b u,h.get? b=some u->h'.get? b=some u) (hp:h.objs.size<=a) (hn:H a=none):Un fs ex H (ay H a o) h h' where
 keep:=fun b u q _ _ _=>k b u q
 slot:=fun b u q _ _ _=>⟨u.slots,k b u q⟩
 free:=fun b u q n _=>by rw[aC (AV (A6 (Heap.lt_size q) hp))];exact n
 there:=fun b u q _=>⟨u,k b u q⟩
 tups:=fun b xs q=>by rw[aC (bf q hn)];exact q
 frzs:=fun b u xs q=>by rw[aC (bf q hn)];exact q
 tbls:=fun b ps q=>⟨#[],by rw[aC (bf q hn),q];simp⟩
theorem Un.write (mu:y4 (H x)) (he:e=x\/H e=some (.own x)) (k:∀b u,b≠e->h.get? b=some u->h'.get? b=some u) (heo:∃u,h'.get? e=some u):Un fs ex H (ay H x o) h h':=by
 have hx:∀b,H b=none->b≠x:=fun b n z=>by subst z;rw[n]at mu;exact mu
 have hb:∀b,H b=none->b≠e:=fun b n z=>by
  subst z
  rcases he with r | r
  ·exact hx b n r
  ·rw [n]at r;cases r
 have hm:∀b u,H b=some u->¬y4 (some u)->b≠x:=fun b u q nm z=>by subst z;rw[q]at mu;exact nm mu
 refine⟨fun b u q n _ _=>k b u (hb b n) q,fun b u q n _ _=>⟨u.slots,k b u (hb b n) q⟩,fun b u q n _=>by rw[aC (hx b n)];exact n,fun b u q _=>?_,
  fun b xs q=>by rw[aC (hm b _ q fun z=>z)];exact q,fun b u xs q=>by rw[aC (hm b _ q fun z=>z)];exact q,fun b ps q=>⟨#[],by rw[aC (hm b _ q fun z=>z),q];simp⟩⟩
 by_cases hbe:b=e
 ·subst hbe;exact heo
 ·exact⟨u,k b u hbe q⟩
end
def y6 (h:Heap) (H:Hp):List Addr:=(AH h.objs.size).filter fun a=>(H a).isSome
def mB (h:Heap) (H:Hp):Heap:=PySem.W.hideAll h (y6 h H)
theorem rG (h:Heap) (H:Hp):(mB h H).objs.size=h.objs.size:=PySem.W.hideAll_size _ _
theorem tY {h:Heap} {H:Hp} {b:Addr} {o:Obj} (e:h.get? b=some o) (n:H b=none):(mB h H).get? b=some o:=
 PySem.W.hideAll_get _ e fun hm=>by
  have q:(H b).isSome=true:=(Bj.mp hm).2
  rw[n]at q;simp at q
theorem vH {h:Heap} {H:Hp} {b:Addr} {o:Obj} (e:(mB h H).get? b=some o):h.get? b=some o/\H b=none:=by
 have e':h.get? b=some o:=PySem.W.of_hideAll (y6 h H) e
 refine⟨e',?_⟩
 cases q:H b with
 | none=>rfl
 | some x=>
  have hm:b∈y6 h H:=Bj.mpr ⟨Bb.mpr (Heap.lt_size e'),by simp[q]⟩
  have z:(mB h H).get? b=none:=PySem.W.hideAll_none (y6 h H) hm
  rw[z]at e;cases e
def vI (g h:Heap) (L:Addr):List (Addr×Obj):=(AH h.objs.size).filterMap fun a=>if a=L\/(g.get? a).isSome=true then none else(h.get? a).map fun o=>(a,o)
def dG (g h:Heap) (L d:Addr):List (Addr×Obj):=(vI g h L).filter fun p=>decide (p.1≠d)
structure Mod (K:PySem.W.Frag) (mg:Str->Option Value) (base:Heap):Prop where
 kin:K.In base
 glob:base.Ns mainGlobals mg
 blt:∃mb,base.Ns builtinsNs mb/\∀x:Str,x≠"__name__"->mb x=bootBuiltins x
 nolimit:base.NoLimit
structure Cx where
 prog:Program
 w:World
 K:PySem.W.Frag
 mg:Str->Option Value
 base:Heap
 A:Around
 N:List Str
 s₀:Shared
 H₀:Hp
 env:Env
 outer:List Env
 stack:List Env
 ex:List Addr
 fn:Str->Bool
 calm:Bool
 pn:List (Addr×Obj)
 xe:Value->Shared->Prop
def ig (l:List Env):List Addr:=l.filterMap (·.frame)
abbrev Cx.fs (X:Cx):List Addr:=ig X.outer
def y8 (sc:Scope) (x:Str):Prop:=sc.names.lookup x=some .local\/sc.names.lookup x=some .cell\/sc.names.lookup x=some .free
def yn (sc:Scope) (x:Str):Prop:=sc.names.lookup x=some .local\/sc.names.lookup x=some .cell
def zk (env:Env) (h:Heap) (m:Str->Option Value) (x:Str) (u:Value):Prop:=
 (env.kindOf x=some .local/\m x=some u)\/((env.kindOf x=some .cell\/env.kindOf x=some .free)/\∃c,env.cells.lookup x=some c/\h.IsCell c (some u))
structure Cx.Ok (X:Cx):Prop where
 mod:Mod X.K X.mg X.base
 kind:X.env.scope.kind= .function
 glob:X.env.globals=mainGlobals
 blt:X.env.builtins=builtinsNs
 above:X.s₀.heap.objs.size<=X.env.locals
 inj:∀x y c,X.env.cells.lookup x=some c->X.env.cells.lookup y=some c->x=y
 has:∀x,(X.env.kindOf x=some .cell\/X.env.kindOf x=some .free)->∃c,X.env.cells.lookup x=some c
 cab:∀x c,X.fn x=true->X.env.cells.lookup x=some c->X.s₀.heap.objs.size<=c
 hd:X.calm=true->X.A.handled=none
 frames:X.A.frames=some X.stack
 stk:X.stack=X.outer\/(X.stack=X.env :: X.outer/\X.env.frame=some X.env.locals)
 exf:∀b∈X.ex,b≠X.env.locals/\∀x c,X.env.cells.lookup x=some c->c≠b
 bs:∀b o,X.base.get? b=some o->X.s₀.heap.get? b=some o/\X.H₀ b=none
 bsz:X.base.objs.size<=X.s₀.heap.objs.size
 noex:∀b o,X.base.get? b=some o->b∉X.ex
 exfs:∀b∈X.ex,b∉X.fs
 funs:X.s₀.heap.FunFrames X.base X.outer
 frf:∀b∈X.fs,X.H₀ b=none
structure Inv (X:Cx) (pins:List (Addr×Obj)) (σ:List (Option V)) (H:Hp) (s:Shared):Prop where
 ok:X.Ok
 os:s.os=X.s₀.os
 bare:AllBare s.gens
 base:Un X.fs X.ex X.H₀ H X.s₀.heap s.heap
 loc:∃m,s.heap.Ns X.env.locals m/\∀(i:Nat) (x:Str) (v:V),X.N[i]?=some x->σ[i]?=some (some v)->y8 X.env.scope x->∃u,RelV v u/\zk X.env s.heap m x u
 cell:∀x c,X.env.cells.lookup x=some c->∃v,s.heap.IsCell c v
 free:H X.env.locals=none
 freeC:∀x c,X.env.cells.lookup x=some c->H c=none
 pin:∀p∈X.pn++pins,s.heap.get? p.1=some p.2/\H p.1=none/\p.1≠X.env.locals/\p.1∉X.fs/\∀v,p.2.data≠ .cell v
 hok:HOk X.prog X.w H s.heap
 len:σ.length=X.N.length
section
variable {X:Cx} {pins:List (Addr×Obj)} {σ:List (Option V)} {H H':Hp} {s:Shared} {h':Heap}
theorem Cx.Ok.nofr (ok:X.Ok) {b:Addr} {o:Obj} (e:X.base.get? b=some o):b∉X.fs:=fun hb=>by
 have:=(ok.funs.mem hb).1
 rw[e]at this;cases this
theorem Inv.bs (I:Inv X pins σ H s):∀b o,X.base.get? b=some o->s.heap.get? b=some o/\H b=none:=fun b o e=>
 ⟨I.base.keep b o (I.ok.bs b o e).1 (I.ok.bs b o e).2 (I.ok.nofr e) (I.ok.noex b o e),I.base.free b o (I.ok.bs b o e).1 (I.ok.bs b o e).2 (I.ok.noex b o e)⟩
theorem Inv.bk (I:Inv X pins σ H s):∀b o,X.base.get? b=some o->s.heap.get? b=some o:=fun b o e=>(I.bs b o e).1
theorem Inv.mod (I:Inv X pins σ H s):Mod X.K X.mg X.base:=I.ok.mod
theorem Inv.kIn (I:Inv X pins σ H s):X.K.In s.heap:=I.ok.mod.kin.keeps I.bk
theorem Inv.fr (I:Inv X pins σ H s):∃m,Fr X.base X.env.locals s.heap m:=
 let⟨m,hn,_⟩:=I.loc
 ⟨m,hn,I.bk,A9 I.ok.bsz I.ok.above⟩
theorem Inv.lt (I:Inv X pins σ H s):X.env.locals<s.heap.objs.size:=let⟨_,hn,_⟩:=I.loc;hn.lt
theorem Inv.sz (I:Inv X pins σ H s):X.s₀.heap.objs.size<=s.heap.objs.size:=A9 I.ok.above (BC I.lt)
theorem Inv.nofs (I:Inv X pins σ H s) {a:Addr} (h:s.heap.objs.size<=a):a∉X.fs:=fun hb=>by
 obtain⟨_,o,ho,_⟩:=I.ok.funs.mem hb
 exact absurd (A6 (Heap.lt_size ho) (A9 I.sz h)) (Bt _)
theorem Inv.cne (I:Inv X pins σ H s):∀x c,X.env.cells.lookup x=some c->c≠X.env.locals:=fun x c e z=>by
 obtain⟨v,o,ho,hd⟩:=I.cell x c e
 obtain⟨m,⟨o',es,ep,ho',hd',_⟩,_⟩:=I.loc
 rw[z,ho']at ho;cases ho;rw[hd']at hd;cases hd
theorem Inv.funs (I:Inv X pins σ H s):s.heap.FunFrames X.base X.outer:=by
 have all:∀(l:List Env),(∀b∈ig l,b∈X.fs)->X.s₀.heap.FunFrames X.base l->s.heap.FunFrames X.base l:=by
  intro l
  induction l with
  | nil=>intro _ _;trivial
  | cons env r ih=>
   intro hs hl
   obtain⟨hk,⟨L,o,hf,hn,ho,hd⟩,hr⟩:=hl
   have hL:L∈X.fs:=hs L (by unfold ig;rw[BP,hf];exact A7)
   obtain⟨sl,e⟩:=I.base.slot L o ho (I.ok.frf L hL) hL fun z=>I.ok.exfs L z hL
   exact⟨hk,⟨L,_,hf,hn,e,hd⟩,ih (fun b hb=>hs b (by unfold ig;rw[BP,hf];exact AY _ hb)) hr⟩
 exact all X.outer (fun _ hb=>hb) I.ok.funs
theorem Inv.stack (I:Inv X pins σ H s):s.heap.FunFrames X.base X.stack:=by
 rcases I.ok.stk with e | ⟨e,hf⟩
 ·rw [e];exact I.funs
 ·rw [e]
  obtain⟨m,hn,_⟩:=I.loc
  refine .cons (by rw[I.ok.kind];decide) hf hn ?_ I.funs
  exact Heap.get?_none_of_le (A9 I.ok.bsz I.ok.above)
theorem Inv.stkSub (I:Inv X pins σ H s):∀b∈ig X.stack,b∈X.env.locals :: X.fs:=fun b hb=>by
 rcases I.ok.stk with e | ⟨e,hf⟩
 ·rw [e]at hb;exact AY _ hb
 ·rw [e]at hb
  unfold ig at hb
  rw[BP,hf]at hb
  exact hb
theorem Inv.stkFree (I:Inv X pins σ H s):∀b∈ig X.stack,H b=none:=fun b hb=>by
 rcases AR.mp (I.stkSub b hb)with e | hb
 ·rw [e];exact I.free
 ·obtain⟨_,o,ho,_⟩:=I.ok.funs.mem hb
  exact I.base.free b o ho (I.ok.frf b hb) fun z=>I.ok.exfs b z hb
theorem Inv.step {g':Array GenState} {t':Nat} {d':Drawn} {ch:List Addr} (I:Inv X pins σ H s)
  (hch:∀b∈ch,(b∈X.ex\/X.s₀.heap.objs.size<=b)/\b≠X.env.locals/\(∀x c,X.env.cells.lookup x=some c->c≠b)/\∀p∈X.pn++pins,p.1≠b)
  (keep:∀b o,b≠X.env.locals->b∉X.fs->b∉ch->s.heap.get? b=some o->H b=none->h'.get? b=some o)
  (slot:∀b o,b≠X.env.locals->b∈X.fs->b∉ch->s.heap.get? b=some o->H b=none->∃sl,h'.get? b=some {o with slots:=sl}) (free:∀b o,b∉ch->s.heap.get? b=some o->H b=none->H' b=none)
  (there:∀b o,b∉ch->s.heap.get? b=some o->∃o',h'.get? b=some o')
  (tups:∀b xs,H b=some (.tup xs)->H' b=some (.tup xs)) (frzs:∀b o u,H b=some (.frz o u)->H' b=some (.frz o u)) (tbls:∀b ps,H b=some (.tbl ps)->∃more,H' b=some (.tbl (ps++more)))
  (ns:∀m,s.heap.Ns X.env.locals m->h'.Ns X.env.locals m) (hok:HOk X.prog X.w H' h') (hg:AllBare g'):
  Inv X pins σ H' {s with heap:=h',gens:=g',drawn:=d',toks:=t'}:=by
 have neL:∀b o,X.s₀.heap.get? b=some o->b≠X.env.locals:=fun b o e=>AV (A6 (Heap.lt_size e) I.ok.above)
 have neC:∀b o,X.s₀.heap.get? b=some o->b∉X.ex->b∉ch:=fun b o e hx hb=>by
  rcases(hch b hb).1 with z | z
  ·exact hx z
  ·exact absurd (A6 (Heap.lt_size e) z) (Bt _)
 have cellK:∀x c,X.env.cells.lookup x=some c->∀v,s.heap.IsCell c v->h'.IsCell c v:=fun x c e v ⟨o,ho,hd⟩=>by
  have nch:c∉ch:=fun z=>(hch c z).2.2.1 x c e rfl
  by_cases hc:c∈X.fs
  ·obtain⟨sl,q⟩:=slot c o (I.cne x c e) hc nch ho (I.freeC x c e)
   exact⟨_,q,hd⟩
  ·exact⟨o,keep c o (I.cne x c e) hc nch ho (I.freeC x c e),hd⟩
 refine⟨I.ok,I.os,hg,⟨fun b o e n hb hx=>?_,fun b o e n hb hx=>?_,fun b o e n hx=>?_,fun b o e hx=>?_,fun b xs e=>tups b xs (I.base.tups b xs e),fun b o xs e=>frzs b o xs (I.base.frzs b o xs e),fun b ps e=>?_⟩,?_,fun x c e=>?_,?_,fun x c e=>?_,fun p hp=>?_,hok,I.len⟩
 ·exact keep b o (neL b o e) hb (neC b o e hx) (I.base.keep b o e n hb hx) (I.base.free b o e n hx)
 ·obtain⟨sl,e1⟩:=I.base.slot b o e n hb hx
  obtain⟨sl',e2⟩:=slot b _ (neL b o e) hb (neC b o e hx) e1 (I.base.free b o e n hx)
  exact⟨sl',e2⟩
 ·obtain⟨o',e1⟩:=I.base.there b o e hx
  exact free b o' (neC b o e hx) e1 (I.base.free b o e n hx)
 ·obtain⟨o',e1⟩:=I.base.there b o e hx
  exact there b o' (neC b o e hx) e1
 ·obtain⟨m1,e1⟩:=I.base.tbls b ps e
  obtain⟨m2,e2⟩:=tbls b _ e1
  exact⟨m1++m2,by rw[e2,Array.append_assoc]⟩
 ·obtain⟨m,hn,hl⟩:=I.loc
  refine⟨m,ns m hn,fun i x v e1 e2 e3=>?_⟩
  obtain⟨u,r,l⟩:=hl i x v e1 e2 e3
  refine⟨u,r,?_⟩
  rcases l with l | ⟨k,c,e,z⟩
  ·exact .inl l
  ·exact .inr ⟨k,c,e,cellK x c e _ z⟩
 ·obtain⟨v,z⟩:=I.cell x c e
  exact⟨v,cellK x c e v z⟩
 ·obtain⟨m,⟨o,_,_,ho,_⟩,_⟩:=I.loc
  exact free _ o (fun z=>(hch _ z).2.1 rfl) ho I.free
 ·obtain⟨v,o,ho,hd⟩:=I.cell x c e
  exact free c o (fun z=>(hch c z).2.2.1 x c e rfl) ho (I.freeC x c e)
 ·obtain⟨e,n,ne,nf,d⟩:=I.pin p hp
  have nch:p.1∉ch:=fun z=>(hch p.1 z).2.2.2 p hp rfl
  exact⟨keep p.1 p.2 ne nf nch e n,free p.1 p.2 nch e n,ne,nf,d⟩
theorem Inv.un {t':Nat} (I:Inv X pins σ H s) (u:Un X.fs [] H H' s.heap h') (hok:HOk X.prog X.w H' h'):Inv X pins σ H' {s with heap:=h',toks:=t'}:=by
 obtain⟨m,⟨o,es,ep,ho,r⟩,_⟩:=id I.loc
 obtain⟨sl,hL⟩:=u.any ho I.free (by simp)
 exact I.step (g':=s.gens) (d':=s.drawn) (ch:=[]) (fun _ z=>nomatch z) (fun b o _ hb _ e n=>u.keep b o e n hb (by simp)) (fun b o _ hb _ e n=>u.slot b o e n hb (by simp)) (fun b o _ e n=>u.free b o e n (by simp)) (fun b o _ e=>u.there b o e (by simp)) u.tups u.frzs u.tbls (fun m' hm=>by
  obtain⟨o',es',ep',ho',r'⟩:=hm
  rw[ho]at ho';cases ho'
  exact⟨_,es',ep',hL,r'⟩) hok I.bare
theorem Inv.call {g':Array GenState} {t':Nat} {d':Drawn} {ch:List Addr} (I:Inv X pins σ H s) (u:Un (ig X.stack) ch H H' s.heap h') (hok:HOk X.prog X.w H' h') (hg:AllBare g')
  (hch:∀b∈ch,(b∈X.ex\/X.s₀.heap.objs.size<=b)/\b≠X.env.locals/\(∀x c,X.env.cells.lookup x=some c->c≠b)/\∀p∈X.pn++pins,p.1≠b):
  Inv X pins σ H' {s with heap:=h',gens:=g',drawn:=d',toks:=t'}:=by
 obtain⟨m,⟨o,es,ep,ho,r⟩,_⟩:=id I.loc
 obtain⟨sl,hL⟩:=u.any ho I.free fun z=>(hch _ z).2.1 rfl
 exact I.step (ch:=ch) hch (fun b o hL hb hc e n=>u.keep b o e n (fun z=>(AR.mp (I.stkSub b z)).elim hL hb) hc) (fun b o _ _ hc e n=>u.any e n hc) (fun b o hc e n=>u.free b o e n hc) (fun b o hc e=>u.there b o e hc) u.tups u.frzs u.tbls (fun m' hm=>by
  obtain⟨o',es',ep',ho',r'⟩:=hm
  rw[ho]at ho';cases ho'
  exact⟨_,es',ep',hL,r'⟩) hok hg
theorem Inv.turned {t':Nat} {it:Addr} (I:Inv X pins σ H s) (k:∀b o,b≠it->s.heap.get? b=some o->h'.get? b=some o) (hn:H it=none) (hL:it≠X.env.locals)
  (h1:it∈X.ex\/X.s₀.heap.objs.size<=it) (h2:∀x c,X.env.cells.lookup x=some c->c≠it) (h3:∀p∈X.pn++pins,p.1≠it):Inv X pins σ H {s with heap:=h',toks:=t'}:=by
 have nit:∀b u,H b=some u->b≠it:=fun b u e z=>by rw[z,hn]at e;cases e
 refine I.step (g':=s.gens) (d':=s.drawn) (ch:=[it]) (fun b hb=>?_) (fun b o _ _ hc e _=>k b o (fun z=>hc (by simp[z])) e) (fun b o _ _ hc e _=>⟨o.slots,k b o (fun z=>hc (by simp[z])) e⟩) (fun _ _ _ _ n=>n)
  (fun b o hc e=>⟨o,k b o (fun z=>hc (by simp[z])) e⟩) (fun _ _ e=>e) (fun _ _ _ e=>e) (fun b ps e=>⟨#[],by rw[e];simp⟩) (fun m hm=>?_) (fun b u e=>?_) I.bare
 ·have e:b=it:=by simpa using hb
  subst e
  exact⟨h1,hL,h2,h3⟩
 ·obtain⟨o,es,ep,ho,r⟩:=hm
  exact⟨o,es,ep,k _ o (Ne.symm hL) ho,r⟩
 ·refine(I.hok b u e).stay (fun c v hc q=>k c v ?_ q) (fun _ q=>q) fun _ _ q=>q
  rcases hc with z | z
  ·rw [z];exact nit b u e
  ·exact nit c _ z
theorem Inv.tok (I:Inv X pins σ H s) (t:Nat):Inv X pins σ H {s with toks:=t}:=I.un (h':=s.heap) (t':=t) Un.refl I.hok
theorem Inv.kept {t':Nat} (I:Inv X pins σ H s) (k:∀b u,s.heap.get? b=some u->h'.get? b=some u):Inv X pins σ H {s with heap:=h',toks:=t'}:=I.un (Un.kept k) (I.hok.kept k)
theorem Inv.laid {a:Addr} {o:HO} {t':Nat} (I:Inv X pins σ H s) (k:∀b u,s.heap.get? b=some u->h'.get? b=some u) (hp:s.heap.objs.size<=a) (new:ObjOk X.prog X.w (ay H a o) h' a o):
 Inv X pins σ (ay H a o) {s with heap:=h',toks:=t'}:=I.un (Un.laid k hp (I.hok.fresh hp)) (I.hok.laid k hp new)
theorem Inv.write {x e:Addr} {o:HO} {t':Nat} (I:Inv X pins σ H s) (mu:y4 (H x)) (he:e=x\/H e=some (.own x)) (k:∀b u,b≠e->s.heap.get? b=some u->h'.get? b=some u) (heo:∃u,h'.get? e=some u)
 (new:ObjOk X.prog X.w (ay H x o) h' x o):Inv X pins σ (ay H x o) {s with heap:=h',toks:=t'}:=I.un (Un.write mu he k heo) (I.hok.write mu he k heo new)
theorem Inv.weak {σ':List (Option V)} (I:Inv X pins σ H s) (hl:σ'.length=σ.length) (w:∀(i:Nat) v,σ'[i]?=some (some v)->σ[i]?=some (some v)):Inv X pins σ' H s:=
 ⟨I.ok,I.os,I.bare,I.base,let⟨m,hn,hl'⟩:=I.loc;⟨m,hn,fun i x v e1 e2 e3=>hl' i x v e1 (w i v e2) e3⟩,I.cell,I.free,I.freeC,I.pin,I.hok,hl.trans I.len⟩
theorem Inv.pins_of {pins':List (Addr×Obj)} (I:Inv X pins σ H s) (h:∀p∈pins',s.heap.get? p.1=some p.2/\H p.1=none/\p.1≠X.env.locals/\p.1∉X.fs/\∀v,p.2.data≠ .cell v):Inv X pins' σ H s:=
 ⟨I.ok,I.os,I.bare,I.base,I.loc,I.cell,I.free,I.freeC,fun p hp=>(AZ.mp hp).elim (fun z=>I.pin p (BM _ z)) (h p),I.hok,I.len⟩
theorem nT {N:List Str} (hN:N.Nodup) {i j:Nat} {x:Str} (a:N[i]?=some x) (b:N[j]?=some x):i=j:=by
 obtain⟨h1,e1⟩:=AF.mp a
 obtain⟨h2,e2⟩:=AF.mp b
 exact(List.getElem_inj hN).mp (e1.trans e2.symm)
theorem lF {M:Model} {A:Around} {E:Value->Shared->Prop} {i:Nat} {x:Str} {v:V} {u:Value} {Q:Unit->Shared->Prop} (I:Inv X pins σ H s) (hN:X.N.Nodup) (hi:X.N[i]?=some x) (hx:yn X.env.scope x) (r:RelV v u)
  (h:∀s',Inv X pins (σ.set i (some v)) H s'->(∃a,Heap.SameBut a s.heap s'.heap/\(a=X.env.locals\/X.env.cells.lookup x=some a))->Q () s') (hf:X.fn x=true\/X.env.scope.names.lookup x=some .local:=by first | exact .inl rfl | exact .inr rfl | assumption):wpAny M A (storeName X.env x u) Q E s:=by
 obtain⟨m,hn,hl⟩:=id I.loc
 have hcls:(X.env.scope.kind== .class||(X.env.scope.kind== .module&&X.env.locals != X.env.globals))=false:=by rw[I.ok.kind];rfl
 have hiσ:i<σ.length:=by rw[I.len];exact(AF.mp hi).1
 have cne:=I.cne
 have tracked:∀{a:Addr} {h':Heap},(∃o,s.heap.get? a=some o/\H a=none)->Heap.SameBut a s.heap h'->HOk X.prog X.w H h':=fun {a h'} ha hs b ob e=>by
  obtain⟨_,_,hfree⟩:=ha
  refine(I.hok b ob e).stay (fun c w' hc q=>(hs.2 c ?_).trans q) (fun _ q=>q) fun _ _ q=>q
  rintro rfl
  rcases hc with rfl | hc
  ·rw [hfree]at e;cases e
  ·rw [hfree]at hc;cases hc
 rcases hx with hk | hk
 ·refine wpAny_storeName_local hk hn (fun h' hn' hs=>?_) hcls
  obtain⟨oL,_,_,hoL,_⟩:=id hn
  refine h _ ⟨I.ok,I.os,I.bare,⟨fun b o e n hb hx=>?_,fun b o e n hb hx=>?_,I.base.free,fun b o e hx=>?_,I.base.tups,I.base.frzs,I.base.tbls⟩,⟨_,hn',fun j y v' e1 e2 e3=>?_⟩,fun y c e=>?_,I.free,I.freeC,fun p hp=>?_,tracked ⟨oL,hoL,I.free⟩ hs,by simpa using I.len⟩ ⟨_,hs,.inl rfl⟩
  ·exact(hs.2 b (AV (A6 (Heap.lt_size e) I.ok.above))).trans (I.base.keep b o e n hb hx)
  ·obtain⟨sl,e1⟩:=I.base.slot b o e n hb hx
   exact⟨sl,(hs.2 b (AV (A6 (Heap.lt_size e) I.ok.above))).trans e1⟩
  ·obtain⟨o',e1⟩:=I.base.there b o e hx
   exact⟨o',(hs.2 b (AV (A6 (Heap.lt_size e) I.ok.above))).trans e1⟩
  ·by_cases hj:j=i
   ·subst hj
    rw[hi]at e1;cases e1
    rw[B7 hiσ]at e2
    cases e2
    exact⟨u,r,.inl ⟨hk,by simp⟩⟩
   ·rw [Cr (Ne.symm hj)]at e2
    obtain⟨u',r',q⟩:=hl j y v' e1 e2 e3
    refine⟨u',r',?_⟩
    rcases q with⟨k,e⟩ | ⟨k,c,e,z⟩
    ·refine .inl ⟨k,?_⟩
     have:y≠x:=fun e=>hj (nT hN e1 (e▸hi))
     simp[this,e]
    ·exact .inr ⟨k,c,e,z.sameBut hs (cne y c e)⟩
  ·obtain⟨w',z⟩:=I.cell y c e
   exact⟨w',z.sameBut hs (cne y c e)⟩
  ·obtain⟨e,n,ne,nf,d⟩:=I.pin p hp
   exact⟨(hs.2 p.1 ne).trans e,n,ne,nf,d⟩
 ·have hfn:X.fn x=true:=by
   rcases hf with z | z
   ·exact z
   ·rw [z]at hk;cases hk
  obtain⟨c,hc⟩:=I.ok.has x (.inl hk)
  obtain⟨w',z⟩:=I.cell x c hc
  refine wpAny_storeName_cell I.ok.kind hk hc z (fun h' hc' hs=>?_)
  obtain⟨oc,hoc,hocd⟩:=id z
  refine h {s with heap:=h'} ⟨I.ok,I.os,I.bare,⟨fun b o e n hb hx=>?_,fun b o e n hb hx=>?_,I.base.free,fun b o e hx=>?_,I.base.tups,I.base.frzs,I.base.tbls⟩,⟨m,hn.sameBut hs (Ne.symm (cne x c hc)),fun j y v' e1 e2 e3=>?_⟩,fun y c' e=>?_,I.free,I.freeC,fun p hp=>?_,tracked ⟨oc,hoc,I.freeC x c hc⟩ hs,by simpa using I.len⟩ ⟨c,hs,.inr hc⟩
  ·exact(hs.2 b (AV (A6 (Heap.lt_size e) (I.ok.cab x c hfn hc)))).trans (I.base.keep b o e n hb hx)
  ·obtain⟨sl,e1⟩:=I.base.slot b o e n hb hx
   exact⟨sl,(hs.2 b (AV (A6 (Heap.lt_size e) (I.ok.cab x c hfn hc)))).trans e1⟩
  ·obtain⟨o',e1⟩:=I.base.there b o e hx
   exact⟨o',(hs.2 b (AV (A6 (Heap.lt_size e) (I.ok.cab x c hfn hc)))).trans e1⟩
  ·by_cases hj:j=i
   ·subst hj
    rw[hi]at e1;cases e1
    rw[B7 hiσ]at e2
    cases e2
    exact⟨u,r,.inr ⟨.inl hk,c,hc,hc'⟩⟩
   ·rw [Cr (Ne.symm hj)]at e2
    obtain⟨u',r',q⟩:=hl j y v' e1 e2 e3
    refine⟨u',r',?_⟩
    rcases q with q | ⟨k,c',e,z'⟩
    ·exact .inl q
    ·refine .inr ⟨k,c',e,z'.sameBut hs ?_⟩
     rintro rfl
     exact hj (nT hN e1 (I.ok.inj _ _ _ e hc▸hi))
  ·by_cases hcc:c'=c
   ·subst hcc;exact⟨_,hc'⟩
   ·obtain⟨w2,z2⟩:=I.cell y c' e
    exact⟨w2,z2.sameBut hs hcc⟩
  ·obtain⟨e,n,ne,nf,d⟩:=I.pin p hp
   refine⟨(hs.2 p.1 ?_).trans e,n,ne,nf,d⟩
   intro q
   rw[q,hoc]at e
   have q':oc=p.2:=Option.some.inj e
   exact d w' (by rw[<- q'];exact hocd)
theorem nU {M:Model} {A:Around} {E:Value->Shared->Prop} {i:Nat} {x:Str} {v:V} {u:Value} {Q:Unit->Shared->Prop} (I:Inv X pins σ H s) (hN:X.N.Nodup) (hi:X.N[i]?=some x) (hx:yn X.env.scope x) (r:RelV v u)
  (h:∀s',Inv X pins (σ.set i (some v)) H s'->Q () s') (hf:X.fn x=true\/X.env.scope.names.lookup x=some .local:=by first | exact .inl rfl | exact .inr rfl | assumption):wpAny M A (storeName X.env x u) Q E s:=
 lF I hN hi hx r (fun s' I' _=>h s' I') hf
theorem Inv.call' {s':Shared} {ch:List Addr} (I:Inv X pins σ H s) (ho:s'.os=s.os) (u:Un (ig X.stack) ch H H' s.heap s'.heap) (hok:HOk X.prog X.w H' s'.heap) (hg:AllBare s'.gens)
  (hch:∀b∈ch,(b∈X.ex\/X.s₀.heap.objs.size<=b)/\b≠X.env.locals/\(∀x c,X.env.cells.lookup x=some c->c≠b)/\∀p∈X.pn++pins,p.1≠b):Inv X pins σ H' s':=by
 obtain⟨h',g',d',t',o'⟩:=s'
 have e:o'=s.os:=ho
 subst e
 exact I.call (g':=g') (t':=t') (d':=d') u hok hg hch
end
abbrev XK:=Value->Option Addr->Hp->Prop
abbrev St:=List (Option V)
abbrev VK:=V->Hp->Prop
abbrev TE:=St->Hp->VK->Prop
abbrev TT:=St->Hp->(Bool->Hp->Prop)->Prop
abbrev TA:=St->Hp->(List V->Hp->Prop)->Prop
structure Ends where
 nx:St->Hp->Prop
 rt:VK
 bk:St->Hp->Prop:=fun _ _=>False
 ct:St->Hp->Prop:=fun _ _=>False
abbrev TS:=Ends->St->Hp->Prop
def EP (X:Cx) (pins:List (Addr×Obj)) (σ:St) (Q:VK) (u:Value) (s':Shared):Prop:=∃v H',Inv X pins σ H' s'/\RelV v u/\Q v H'
def TP (X:Cx) (pins:List (Addr×Obj)) (σ:St) (Q:Bool->Hp->Prop) (b:Bool) (s':Shared):Prop:=∃H',Inv X pins σ H' s'/\Q b H'
def AP (X:Cx) (pins:List (Addr×Obj)) (σ:St) (Q:List V->Hp->Prop) (us:List Value) (s':Shared):Prop:=∃vs H',Inv X pins σ H' s'/\Vals vs us/\Q vs H'
def SP (X:Cx) (pins:List (Addr×Obj)) (D:Ends) (f:Flow) (s':Shared):Prop:=
 match f with
 | .next=>∃σ' H',Inv X pins σ' H' s'/\D.nx σ' H'
 | .brk=>∃σ' H',Inv X pins σ' H' s'/\D.bk σ' H'
 | .cont=>∃σ' H',Inv X pins σ' H' s'/\D.ct σ' H'
 | .ret u=>∃v σ' H',Inv X pins σ' H' s'/\RelV v u/\D.rt v H'
def PE (X:Cx) (e:Expr) (t:TE):Prop:=
 ∀(pins:List (Addr×Obj)) (s:Shared) (σ:St) (H:Hp) (Q:VK),Inv X pins σ H s->t σ H Q->wpAny (model X.prog X.w) X.A (eval e X.env) (EP X pins σ Q) X.xe s
def PT (X:Cx) (e:Expr) (t:TT):Prop:=
 ∀(pins:List (Addr×Obj)) (s:Shared) (σ:St) (H:Hp) (Q:Bool->Hp->Prop),Inv X pins σ H s->t σ H Q->wpAny (model X.prog X.w) X.A (isTrue e X.env (eval e X.env)) (TP X pins σ Q) X.xe s
def PW (X:Cx) (e:Expr) (t:TT):Prop:=
 ∀(whole:Sem Value) (pins:List (Addr×Obj)) (s:Shared) (σ:St) (H:Hp) (Q:Bool->Hp->Prop),Inv X pins σ H s->t σ H Q->wpAny (model X.prog X.w) X.A (isTrue e X.env whole) (TP X pins σ Q) X.xe s
theorem PW.pt {X:Cx} {e:Expr} {t:TT} (h:PW X e t):PT X e t:=h _
def PA (X:Cx) (es:List Expr) (t:TA):Prop:=
 ∀(pos:Pos) (pins:List (Addr×Obj)) (s:Shared) (σ:St) (H:Hp) (Q:List V->Hp->Prop),Inv X pins σ H s->t σ H Q->wpAny (model X.prog X.w) X.A (spliced (backTo pos (starEach es X.env))) (AP X pins σ Q) X.xe s
def PS (X:Cx) (st:Stmt) (t:TS):Prop:=
 ∀(pins:List (Addr×Obj)) (s:Shared) (σ:St) (H:Hp) (D:Ends),Inv X pins σ H s->t D σ H->wpAny (model X.prog X.w) X.A (exec st X.env) (SP X pins D) X.xe s
def PSs (X:Cx) (st:List Stmt) (t:TS):Prop:=
 ∀(pins:List (Addr×Obj)) (s:Shared) (σ:St) (H:Hp) (D:Ends),Inv X pins σ H s->t D σ H->wpAny (model X.prog X.w) X.A (execs st X.env) (SP X pins D) X.xe s
theorem bK {α:Type} {t:Sem α} {Q Q':α->Shared->Prop} {M:Model} {A:Around} {E:Value->Shared->Prop} {s:Shared} (h:wpAny M A t Q E s) (hQ:∀a s,Q a s->Q' a s):wpAny M A t Q' E s:=wpAny_mono h hQ fun _ _ x=>x
section
variable {X:Cx}
theorem AA {a b:Expr} {ta tb:TE} (ha:PE X a ta) (hb:PE X b tb) {pins:List (Addr×Obj)} {s:Shared} {σ:St} {H:Hp} {R:V->V->Hp->Prop} (I:Inv X pins σ H s) (h:ta σ H fun x H1=>tb σ H1 fun y H2=>R x y H2)
  {α:Type} {Q:α->Shared->Prop} {f:Value->Value->Sem α}
  (hf:∀v u s2 x y H2,Inv X pins σ H2 s2->RelV x v->RelV y u->R x y H2->wpAny (model X.prog X.w) X.A (f v u) Q X.xe s2):
  wpAny (model X.prog X.w) X.A (eval a X.env) (fun v s₁=>wpAny (model X.prog X.w) X.A (eval b X.env) (fun u s₂=>wpAny (model X.prog X.w) X.A (f v u) Q X.xe s₂) X.xe s₁) X.xe s:=by
 refine bK (ha pins s σ H _ I h) fun v s1 hq__=>?_
 obtain⟨x,H1,I1,r1,q1⟩:=hq__
 refine bK (hb pins s1 σ H1 _ I1 q1) fun u s2 hq__=>?_
 obtain⟨y,H2,I2,r2,q2⟩:=hq__
 exact hf v u s2 x y H2 I2 r1 r2 q2
def yo (i:Nat):TE:=fun σ H Q=>∃v,σ[i]?=some (some v)/\Q v H
def tC (v:V):TE:=fun _ H Q=>Q v H
theorem xn {i:Nat} {x:Str} {pos:Pos} (hN:X.N[i]?=some x) (hv:y8 X.env.scope x) (hd:(x==("__debug__":Str))=false:=by decide) (hcd:(x==("__classdict__":Str))=false:=by decide):PE X (.Name x pos) (yo i):=by
 intro pins s σ H Q I h
 obtain⟨v,e,h⟩:=h
 obtain⟨m,hn,hl⟩:=I.loc
 obtain⟨u,r,l⟩:=hl i x v hN e hv
 have fin:EP X pins σ Q u s:=⟨v,H,I,r,h⟩
 rcases l with⟨hk,hm⟩ | ⟨hk,c,hc,hcell⟩
 ·exact wpAny_Name (wpAny_loadName_local I.ok.kind hk hn hm fin) hd
 ·rcases hk with hk | hk
  ·exact wpAny_Name (wpAny_loadName_cell I.ok.kind hk hc hcell fin) hd
  ·exact wpAny_Name (wpAny_loadName_free I.ok.kind hk hc hcell fin hcd) hd
theorem ae {i j pos}:PE X (.Constant (.int i) j pos) (tC (.int i)):=fun _ _ _ H _ I h=>wpAny_Constant_int ⟨.int i,H,I.tok _,⟨_,rfl⟩,h⟩
theorem bB {b j pos}:PE X (.Constant (.bool b) j pos) (tC (.bl b)):=fun _ _ _ H _ I h=>Constant_bool ⟨.bl b,H,I,rfl,h⟩
theorem gP {j pos}:PE X (.Constant .none j pos) (tC .non):=fun _ _ _ H _ I h=>Constant_none ⟨.non,H,I,rfl,h⟩
theorem aP {x j pos}:PE X (.Constant (.str x) j pos) (tC (.str x)):=fun _ _ _ H _ I h=>Calls.Constant_str ⟨.str x,H,I.tok _,⟨_,rfl⟩,h⟩
def Gl (X:Cx) (x:Str):Prop:=X.env.kindOf x=some .globalImplicit
theorem vJ {E:Value->Shared->Prop} {pins:List (Addr×Obj)} {s:Shared} {σ:St} {H:Hp} {x:Str} {u:Value} {pos:Pos} {Q:Value->Shared->Prop} (I:Inv X pins σ H s) (hg:Gl X x) (hm:X.mg x=some u) (h:Q u s)
  (hd:(x==("__debug__":Str))=false:=by decide):wpAny (model X.prog X.w) X.A (eval (.Name x pos) X.env) Q E s:=
 Calls.Name_function_global I.ok.kind hg (Calls.loadGlobal_global (by rw[I.ok.glob];exact I.mod.glob.keeps I.bk) hm h) hd
theorem dH {E:Value->Shared->Prop} {pins:List (Addr×Obj)} {s:Shared} {σ:St} {H:Hp} {x:Str} {u:Value} {pos:Pos} {Q:Value->Shared->Prop} (I:Inv X pins σ H s) (hg:Gl X x) (hm:X.mg x=none) (hv:bootBuiltins x=some u) (h:Q u s)
  (hn:x≠"__name__":=by decide) (hd:(x==("__debug__":Str))=false:=by decide):wpAny (model X.prog X.w) X.A (eval (.Name x pos) X.env) Q E s:=by
 obtain⟨mb,h1,h2⟩:=I.mod.blt
 exact Calls.Name_function_global I.ok.kind hg (Calls.loadGlobal_builtin (by rw[I.ok.glob];exact I.mod.glob.keeps I.bk) hm (by rw[I.ok.blt];exact h1.keeps I.bk) ((h2 x hn).trans hv) h) hd
theorem jQ {x:Str} {v:V} {u:Value} {pos:Pos} (hg:Gl X x) (hm:X.mg x=none) (hv:bootBuiltins x=some u) (r:RelV v u) (hn:x≠"__name__":=by decide) (hd:(x==("__debug__":Str))=false:=by decide):PE X (.Name x pos) (tC v):=
 fun _ _ _ H _ I h=>dH I hg hm hv ⟨v,H,I,r,h⟩ hn hd
variable {a b:Expr} {ta tb:TE} {pos:Pos}
def PC (X:Cx) (op:CmpOp) (a b:Expr) (t:TE):Prop:=
 ∀(pins:List (Addr×Obj)) (s:Shared) (σ:St) (H:Hp) (Q:VK),Inv X pins σ H s->t σ H Q->
  wpAny (model X.prog X.w) X.A (eval a X.env) (fun v s₁=>wpAny (model X.prog X.w) X.A (eval b X.env) (fun u s₂=>wpAny (model X.prog X.w) X.A (compareOp op v u) (EP X pins σ Q) X.xe s₂) X.xe s₁) X.xe s
theorem tZ (b:Expr) {op:CmpOp} (h:op≠ .In) (h2:op≠ .NotIn):behindInMarks op b=false:=by
 have e1:(op==CmpOp.In)=false:=by cases op<;>first | rfl | exact absurd rfl h
 have e2:(op==CmpOp.NotIn)=false:=by cases op<;>first | rfl | exact absurd rfl h2
 cases b<;>simp[behindInMarks,e1,e2]
def tB (t:TE):TT:=fun σ H Q=>t σ H fun x H1=>∃c,x= .bl c/\Q c H1
theorem xo {op:CmpOp} {t:TE} (h:PC X op a b t) (h1:behindInMarks op b=false:=by first | exact tZ _ (by decide) (by decide) | rfl):PT X (.Compare a [op] [b] pos) (tB t):=by
 intro pins s σ H Q I hw
 refine wpAny_isTrue_Compare1 (bK (h pins s σ H _ I hw) fun v s1 h1=>bK h1 fun u s2 h2=>bK h2 fun c s3 ⟨x,H1,I1,r1,q1⟩=>?_) h1
 obtain⟨d,rfl,q⟩:=q1
 cases r1
 exact wpAny_truthy_bool ⟨H1,I1,q⟩
theorem bg {e:Expr} {t:TE} (h:PE X e t) (he:∀whole,isTrue e X.env whole=(do let v <- whole;standAt e.pos;holding [v] (truthy v)):=by intro _;rfl):PT X e (tB t):=by
 intro pins s σ H Q I hw
 refine isTrue_plain (bK (h pins s σ H _ I hw) fun v s1 ⟨x,H1,I1,r1,q1⟩=>?_) (he _)
 obtain⟨d,rfl,q⟩:=q1
 cases r1
 exact wpAny_truthy_bool ⟨H1,I1,q⟩
variable {tA tB':TT} {dG:List Expr}
def zl (t u:TT):TT:=fun σ H Q=>t σ H fun c H1=>if c=true then u σ H1 Q else Q false H1
def Af (t u:TT):TT:=fun σ H Q=>t σ H fun c H1=>if c=true then Q true H1 else u σ H1 Q
def zo (t:TT):TT:=fun σ H Q=>t σ H fun c H1=>Q (!c) H1
theorem mC (ha:PT X a tA):PW X (.BoolOp .And [a] pos) tA:=by
 intro wh pins s σ H Q I h
 refine isTrue_and (bK (ha pins s σ H Q I h) fun c s1 e=>?_)
 cases c with
 | true=>exact isTrue_and_nil e
 | false=>exact e
theorem cB (ha:PT X a tA):PW X (.BoolOp .Or [a] pos) tA:=by
 intro wh pins s σ H Q I h
 refine isTrue_or (bK (ha pins s σ H Q I h) fun c s1 e=>?_)
 cases c with
 | false=>exact isTrue_or_nil e
 | true=>exact e
theorem pE (ha:PT X a tA) (hb:PW X (.BoolOp .And (b :: dG) pos) tB'):PW X (.BoolOp .And (a :: b :: dG) pos) (zl tA tB'):=by
 intro wh pins s σ H Q I h
 refine isTrue_and (bK (ha pins s σ H _ I h) fun c s1 hq__=>?_)
 obtain⟨H1,I1,q1⟩:=hq__
 cases c with
 | true=>exact hb wh pins s1 σ H1 Q I1 q1
 | false=>exact⟨H1,I1,q1⟩
theorem cV (ha:PT X a tA) (hb:PW X (.BoolOp .Or (b :: dG) pos) tB'):PW X (.BoolOp .Or (a :: b :: dG) pos) (Af tA tB'):=by
 intro wh pins s σ H Q I h
 refine isTrue_or (bK (ha pins s σ H _ I h) fun c s1 hq__=>?_)
 obtain⟨H1,I1,q1⟩:=hq__
 cases c with
 | true=>exact⟨H1,I1,q1⟩
 | false=>exact hb wh pins s1 σ H1 Q I1 q1
theorem aZ (ha:PT X a tA):PT X (.UnaryOp .Not a pos) (zo tA):=by
 intro pins s σ H Q I h
 exact isTrue_not (ha pins s σ H (fun c H1=>Q (!c) H1) I h)
def yp (ta tb:TE):TE:=fun σ H Q=>ta σ H fun x H1=>∃c,x= .bl c/\if c=true then tb σ H1 Q else Q (.bl false) H1
def yq (ta:TE):TE:=fun σ H Q=>ta σ H fun x H1=>∃c,x= .bl c/\Q (.bl (!c)) H1
theorem gQ {op} {t:TE} (h:PE X a t):PE X (.BoolOp op [a] pos) t:=fun pins s σ H Q I hw=>BoolOp_one (h pins s σ H Q I hw)
theorem eN (ha:PE X a ta) (hb:PE X (.BoolOp .And (b :: dG) pos) tb):PE X (.BoolOp .And (a :: b :: dG) pos) (yp ta tb):=by
 intro pins s σ H Q I h
 refine BoolOp_and (bK (ha pins s σ H _ I h) fun v s1 hq__=>?_)
 obtain⟨x,H1,I1,r1,q1⟩:=hq__
 obtain⟨c,rfl,q1⟩:=q1
 cases r1
 refine wpAny_truthy_bool ?_
 cases c with
 | true=>exact hb pins s1 σ H1 Q I1 q1
 | false=>exact⟨.bl false,H1,I1,rfl,q1⟩
theorem t6 (ha:PE X a ta):PE X (.UnaryOp .Not a pos) (yq ta):=by
 intro pins s σ H Q I h
 refine UnaryOp_ (bK (ha pins s σ H _ I h) fun v s1 hq__=>?_)
 obtain⟨x,H1,I1,r1,q1⟩:=hq__
 obtain⟨c,rfl,q1⟩:=q1
 cases r1
 exact not_of (wpAny_truthy_bool ⟨.bl (!c),H1,I1,rfl,q1⟩)
end
def SqL (K:PySem.W.Frag) (H:Hp) (a:Addr) (xs:List V):Prop:=
 Rd H a (.lst xs)\/
  ∃(o:Obj) (its:Array Value) (n:Nat),K.lookup a=some o/\o.cls= .type "list"/\o.dict=none/\o.data= .seq its n/\its.size<=sizeLine/\Vals xs its.toList
def SqT (K:PySem.W.Frag) (H:Hp) (a:Addr) (xs:List V):Prop:=
 Rd H a (.tup xs)\/
  ∃(o:Obj) (its:Array Value) (n:Nat),K.lookup a=some o/\o.cls= .type "tuple"/\o.data= .seq its n/\its.size<=sizeLine/\Vals xs its.toList
def zp:Value->Option V
 | .none=>some .non
 | .bool b=>some (.bl b)
 | .int i _=>some (.int i)
 | .str x _=>some (.str x)
 | .bytes b _=>some (.byt b)
 | .float b _=>some (.flt b)
 | .ref a=>some (.ref a)
 | .type n=>some (.ty n)
 | _=>none
theorem RelV.abs {x:V} {u:Value} (r:RelV x u):zp u=some x:=by
 cases x with
 | non=>cases r;rfl
 | bl _=>cases r;rfl
 | int _=>obtain⟨t,rfl⟩:=r;rfl
 | str _=>obtain⟨t,rfl⟩:=r;rfl
 | byt _=>obtain⟨t,rfl⟩:=r;rfl
 | flt _=>obtain⟨t,rfl⟩:=r;rfl
 | ref _=>cases r;rfl
 | ty _=>cases r;rfl
theorem RelV.inj {x y:V} {u:Value} (r:RelV x u) (q:RelV y u):x=y:=Option.some.inj (r.abs.symm.trans q.abs)
theorem Vals.inj:∀{xs ys:List V} {us:List Value},Vals xs us->Vals ys us->xs=ys:=by
 intro xs ys us h
 induction h generalizing ys with
 | nil=>intro h';cases h';rfl
 | cons r t ih=>
  intro h'
  cases h' with
  | cons r' t'=>rw[r.inj r',ih t']
section
variable {X:Cx} {pins:List (Addr×Obj)} {σ:St} {H:Hp} {s:Shared} {a:Addr} {xs ys:List V}
theorem SqL.of {K:PySem.W.Frag} (h:H a=some (.lst xs)):SqL K H a xs:= .inl (.inl h)
theorem SqT.of {K:PySem.W.Frag} (h:H a=some (.tup xs)):SqT K H a xs:= .inl (.inl h)
theorem Inv.list (I:Inv X pins σ H s) (h:SqL X.K H a xs):∃its:List Value,Vals xs its/\PlainL s.heap a its.toArray/\xs.length<=sizeLine:=by
 rcases h with h | ⟨o,its,n,hk,hc,hd,hs,hz,r⟩
 ·obtain⟨z,its,n,r,e⟩:=h.ok I.hok
  exact⟨its,r,⟨_,n,e,rfl,rfl,rfl⟩,z⟩
 ·refine⟨its.toList,r,⟨o,n,I.kIn a o hk,hc,hd,by simpa using hs⟩,?_⟩
  have e:=r.length
  simp only[AQ]at e
  omega
theorem Inv.tuple (I:Inv X pins σ H s) (h:SqT X.K H a xs):∃its:List Value,Vals xs its/\IsTup s.heap a its.toArray/\xs.length<=sizeLine:=by
 rcases h with h | ⟨o,its,n,hk,hc,hs,hz,r⟩
 ·obtain⟨z,its,r,p⟩:=h.ok I.hok
  exact⟨its,r,p,z⟩
 ·refine⟨its.toList,r,⟨o,I.kIn a o hk,hc,n,by simpa using hs⟩,?_⟩
  have e:=r.length
  simp only[AQ]at e
  omega
theorem Inv.list_inj (I:Inv X pins σ H s) (h:SqL X.K H a xs) (h':SqL X.K H a ys):xs=ys:=by
 obtain⟨its,r,⟨o,n,e,_,_,d⟩,_⟩:=I.list h
 obtain⟨its',r',⟨o',n',e',_,_,d'⟩,_⟩:=I.list h'
 rw[e]at e';cases e'
 rw[d]at d'
 injection d' with d1 _
 have:its=its':=by simpa using congrArg Array.toList d1
 subst this
 exact r.inj r'
theorem Inv.tuple_inj (I:Inv X pins σ H s) (h:SqT X.K H a xs) (h':SqT X.K H a ys):xs=ys:=by
 obtain⟨its,r,⟨o,e,_,n,d⟩,_⟩:=I.tuple h
 obtain⟨its',r',⟨o',e',_,n',d'⟩,_⟩:=I.tuple h'
 rw[e]at e';cases e'
 rw[d]at d'
 injection d' with d1 _
 have:its=its':=by simpa using congrArg Array.toList d1
 subst this
 exact r.inj r'
end
abbrev Cx.wish (X:Cx) (E:Value->Shared->Prop):Cx:={X with xe:=E}
abbrev Cx.nox (X:Cx):Cx:=X.wish fun _ _=>False
theorem Cx.Ok.wish {X:Cx} (ok:X.Ok) (E:Value->Shared->Prop):(X.wish E).Ok:=
 ⟨ok.mod,ok.kind,ok.glob,ok.blt,ok.above,ok.inj,ok.has,ok.cab,ok.hd,ok.frames,ok.stk,ok.exf,ok.bs,ok.bsz,ok.noex,ok.exfs,ok.funs,ok.frf⟩
theorem Cx.Ok.unwish {X:Cx} {E:Value->Shared->Prop} (ok:(X.wish E).Ok):X.Ok:=
 ⟨ok.mod,ok.kind,ok.glob,ok.blt,ok.above,ok.inj,ok.has,ok.cab,ok.hd,ok.frames,ok.stk,ok.exf,ok.bs,ok.bsz,ok.noex,ok.exfs,ok.funs,ok.frf⟩
section
variable {X:Cx} {pins:List (Addr×Obj)} {σ:St} {H:Hp} {s:Shared} {E:Value->Shared->Prop}
theorem Inv.wish (I:Inv X pins σ H s) (E:Value->Shared->Prop):Inv (X.wish E) pins σ H s:=⟨I.ok.wish E,I.os,I.bare,I.base,I.loc,I.cell,I.free,I.freeC,I.pin,I.hok,I.len⟩
theorem Inv.unwish (I:Inv (X.wish E) pins σ H s):Inv X pins σ H s:=⟨I.ok.unwish,I.os,I.bare,I.base,I.loc,I.cell,I.free,I.freeC,I.pin,I.hok,I.len⟩
theorem SP.unwish {D:Ends} {f:Flow} {s':Shared} (h:SP (X.wish E) pins D f s'):SP X pins D f s':=by
 cases f with
 | next=>obtain⟨σ',H',I,q⟩:=h;exact⟨σ',H',I.unwish,q⟩
 | brk=>obtain⟨σ',H',I,q⟩:=h;exact⟨σ',H',I.unwish,q⟩
 | cont=>obtain⟨σ',H',I,q⟩:=h;exact⟨σ',H',I.unwish,q⟩
 | ret u=>obtain⟨v,σ',H',I,r,q⟩:=h;exact⟨v,σ',H',I.unwish,r,q⟩
theorem PSs.nox {st:List Stmt} {t:TS} (h:PSs X.nox st t):PSs X st t:=fun pins s σ H D I hw=>
 wpAny_mono (h pins s σ H D (I.wish _) hw) (fun _ _ q=>q.unwish) fun _ _ z=>False.elim z
end
section
variable {X:Cx} {st:Stmt} {dG:List Stmt} {t u:TS} {e:Expr} {te:TE} {pos:Pos}
def yr:TS:=fun D σ H=>D.nx σ H
def zq (t u:TS):TS:=fun D σ H=>t {D with nx:=u D} σ H
theorem au:PSs X [] yr:=fun _ _ σ H _ I h=>wpAny_execs_nil ⟨σ,H,I,h⟩
theorem ag (h1:PS X st t) (h2:PSs X dG u):PSs X (st :: dG) (zq t u):=by
 intro pins s σ H D I h
 refine wpAny_execs_cons (bK (h1 pins s σ H {D with nx:=u D} I h) fun f s1 q=>?_)
 cases f with
 | next=>
  obtain⟨σ',H',I',q⟩:=q
  exact h2 pins s1 σ' H' D I' q
 | ret v=>exact q
 | brk=>exact q
 | cont=>exact q
theorem ah (h1:PS X st t):PSs X [st] t:=by
 intro pins s σ H D I h
 refine wpAny_execs_cons (bK (h1 pins s σ H D I h) fun f s1 q=>?_)
 cases f with
 | next=>exact wpAny_execs_nil q
 | ret v=>exact q
 | brk=>exact q
 | cont=>exact q
theorem Inv.quiet {pins:List (Addr×Obj)} {σ:St} {H:Hp} {s:Shared} (I:Inv X pins σ H s):interactive X.env=false:=by simp[interactive,I.ok.kind]
def yt (te:TE):TS:=fun D σ H=>te σ H fun _ H1=>D.nx σ H1
theorem c4 (he:PE X e te) (hs:swapsWith e none pos.line X.env=pure false:=by rfl):PS X (.Expr e pos) (yt te):=by
 intro pins s σ H D I h
 exact wpAny_Expr_any (bK (he pins s σ H _ I h) fun v s1 ⟨x,H1,I1,r1,q1⟩=>⟨σ,H1,I1,q1⟩) I.quiet hs
def zr (te:TE):TS:=fun D σ H=>te σ H D.rt
theorem aj (he:PE X e te):PS X (.Return (some e) pos) (zr te):=by
 intro pins s σ H D I h
 exact wpAny_Return_some (bK (he pins s σ H _ I h) fun v s1 ⟨x,H1,I1,r1,q1⟩=>⟨x,σ,H1,I1,r1,q1⟩)
def zt (c:TT) (t u:TS):TS:=fun D σ H=>c σ H fun b H1=>if b=true then t D σ H1 else u D σ H1
theorem az {c:Expr} {a b:List Stmt} {tc:TT} (hc:PT X c tc) (ha:PSs X a t) (hb:PSs X b u):PS X (.If c a b pos) (zt tc t u):=by
 intro pins s σ H D I h
 refine wpAny_If (bK (hc pins s σ H _ I h) fun d s1 hq__=>?_)
 obtain⟨H1,I1,q1⟩:=hq__
 cases d with
 | true=>exact ha pins s1 σ H1 D I1 q1
 | false=>exact hb pins s1 σ H1 D I1 q1
end
abbrev TG:=V->St->Hp->(St->Hp->Prop)->Prop
abbrev wV:=List V->St->Hp->(St->Hp->Prop)->Prop
def PG (X:Cx) (target:Expr) (t:TG):Prop:=
 ∀(pins:List (Addr×Obj)) (s:Shared) (σ:St) (H:Hp) (v:V) (u:Value) (Q:St->Hp->Prop),Inv X pins σ H s->RelV v u->t v σ H Q->
  wpAny (model X.prog X.w) X.A (assign target X.env u) (fun _ s'=>∃σ' H',Inv X pins σ' H' s'/\Q σ' H') X.xe s
def yg (X:Cx) (ts:List Expr) (t:wV):Prop:=
 ∀(pins:List (Addr×Obj)) (s:Shared) (σ:St) (H:Hp) (vs:List V) (us:List Value) (Q:St->Hp->Prop),Inv X pins σ H s->Vals vs us->t vs σ H Q->
  wpAny (model X.prog X.w) X.A (assignInOrder ((assignEach ts X.env).map (·.2)) us) (fun _ s'=>∃σ' H',Inv X pins σ' H' s'/\Q σ' H') X.xe s
abbrev xp:=V->V->V->Hp->(Hp->Prop)->Prop
def yu (X:Cx) (t:xp):Prop:=
 ∀(pins:List (Addr×Obj)) (s:Shared) (σ:St) (H:Hp) (o i v:V) (ov iv u:Value) (Q:Hp->Prop),Inv X pins σ H s->RelV o ov->RelV i iv->RelV v u->t o i v H Q->
  wpAny (model X.prog X.w) X.A (setItem ov iv u) (fun _ s'=>∃H',Inv X pins σ H' s'/\Q H') X.xe s
section
variable {X:Cx} {pos:Pos}
def bT (i:Nat):TG:=fun v σ H Q=>Q (σ.set i (some v)) H
theorem aq {i:Nat} {x:Str} (hN:X.N.Nodup) (hi:X.N[i]?=some x) (hx:yn X.env.scope x) (hf:X.fn x=true\/X.env.scope.names.lookup x=some .local:=by first | exact .inl rfl | exact .inr rfl | assumption):PG X (.Name x pos) (bT i):=by
 intro pins s σ H v u Q I r h
 exact wpAny_assign_Name (nU I hN hi hx r (fun s' I'=>⟨_,H,I',h⟩) hf)
def t7:wV:=fun vs σ H Q=>vs=[]/\Q σ H
def ij (t:TG) (u:wV):wV:=fun vs σ H Q=>∃v r,vs=v :: r/\t v σ H fun σ' H'=>u r σ' H' Q
theorem c7:yg X [] t7:=by
 intro pins s σ H vs us Q I r h
 obtain⟨e,h⟩:=h
 subst e
 cases r
 exact assignInOrder_nil ⟨σ,H,I,h⟩
theorem bc {e:Expr} {es:List Expr} {t:TG} {u:wV} (h1:PG X e t) (h2:yg X es u)
  (hs:(assignEach (e :: es) X.env).map (·.2)=assign e X.env :: (assignEach es X.env).map (·.2):=by rfl):yg X (e :: es) (ij t u):=by
 intro pins s σ H vs us Q I r h
 obtain⟨v,vr,e1,h⟩:=h
 subst e1
 cases r with
 | cons r rr=>
  rw[hs]
  refine assignInOrder_cons (bK (h1 pins s σ H _ _ _ I r h) fun _ s1 hq__=>?_)
  obtain⟨σ1,H1,I1,q1⟩:=hq__
  exact h2 pins s1 σ1 H1 _ _ Q I1 rr q1
def rH (K:PySem.W.Frag) (n:Nat) (t:wV):TG:=fun v σ H Q=>∃a xs,v= .ref a/\SqT K H a xs/\xs.length=n/\t xs σ H Q
theorem xq {es:List Expr} {k:Nat} {t:wV} {n:Nat} (hc:X.calm=true) (h:yg X es t)
  (hn:(assignEach es X.env).length=n:=by rfl) (hst:(assignEach es X.env).findIdx? (·.1)=none:=by rfl):PG X (.Tuple es k pos) (rH X.K n t):=by
 intro pins s σ H v u Q I r hw
 obtain⟨a,xs,e1,hq,hl,hw⟩:=hw
 subst e1
 cases r
 obtain⟨its,rv,ht,hz⟩:=I.tuple hq
 refine assign_Tuple_tuple (I.ok.hd hc) ht (by simp[hn,<- hl,rv.length]) hst fun h' hx=>?_
 have I1:Inv X pins σ H {s with heap:=h'}:=I.kept (t':=s.toks) fun b o e=>hx b o (AV (Heap.lt_size e)) e
 exact h pins _ σ H xs _ Q I1 (by simpa using rv) hw
def zu (to ti:TE) (t:xp):TG:=fun v σ H Q=>to σ H fun o H1=>ti σ H1 fun i H2=>t o i v H2 fun H3=>Q σ H3
theorem mD {o i:Expr} {to ti:TE} {t:xp} (ho:PE X o to) (hi:PE X i ti) (hs:yu X t)
  (ha:∀v,assign (.Subscript o i pos) X.env v=(do
   let ov <- holding [v] (eval o X.env)
   let iv <- holding [v,ov] (eval i X.env)
   standAt pos
   holding [v,ov,iv] (setItem ov iv v)
   release [v,ov,iv] []):=by intro _;rfl):PG X (.Subscript o i pos) (zu to ti t):=by
 intro pins s σ H v u Q I r h
 rw[ha]
 refine wpAny_bind (wpAny_holding (bK (ho pins s σ H _ I h) fun ov s1 hq__=>?_))
 obtain⟨x,H1,I1,r1,q1⟩:=hq__
 refine wpAny_bind (wpAny_holding (bK (hi pins s1 σ H1 _ I1 q1) fun iv s2 hq__=>?_))
 obtain⟨y,H2,I2,r2,q2⟩:=hq__
 refine wpAny_bind (wpAny_standAt (wpAny_bind (wpAny_holding (bK (hs pins s2 σ H2 x y v ov iv u _ I2 r1 r2 r q2) fun _ s3 hq__=>?_))))
 obtain⟨H3,I3,q3⟩:=hq__
 exact wpAny_release ⟨σ,H3,I3,q3⟩
def xr (te:TE) (g:TG):TS:=fun D σ H=>te σ H fun x H1=>g x σ H1 D.nx
theorem iW {tg e:Expr} {te:TE} {g:TG} (he:PE X e te) (hg:PG X tg g) (hs:swapsWithSole [tg] e pos.line X.env=pure false:=by rfl) (hw:swappedStores [tg] e X.env=pure none:=by rfl)
  (h1:(assignEach [tg] X.env).map (·.2)=[assign tg X.env]:=by rfl):PS X (.Assign [tg] e pos) (xr te g):=by
 intro pins s σ H D I h
 refine wpAny_Assign_stores (bK (he pins s σ H _ I h) fun v s1 ⟨x,H1,I1,r1,q1⟩=>?_) hs hw
 rw[h1]
 exact bK (hg pins s1 σ H1 x v _ I1 r1 q1) fun _ s2 q=>q
theorem ax {i:Nat} {x:Str} {e:Expr} {te:TE} {pos':Pos} (hN:X.N.Nodup) (hi:X.N[i]?=some x) (hx:yn X.env.scope x) (he:PE X e te) (hs:swapsWith e (some (.Name x pos')) pos.line X.env=pure false:=by rfl) (hf:X.fn x=true\/X.env.scope.names.lookup x=some .local:=by first | exact .inl rfl | exact .inr rfl | assumption):
  PS X (.Assign [.Name x pos'] e pos) (xr te (bT i)):=by
 intro pins s σ H D I h
 refine wpAny_Assign_Name (bK (he pins s σ H _ I h) fun v s1 ⟨y,H1,I1,r1,q1⟩=>?_) hs
 exact nU I1 hN hi hx r1 (fun s2 I2=>⟨_,H1,I2,q1⟩) hf
end
section
variable {X:Cx} {pos:Pos}
end
structure It where
 go:Nat->Hp->Prop
 yld:Nat->Hp->V->Hp->Prop
 stop:Nat->Hp->Prop
def mE (X:Cx) (pins:List (Addr×Obj)) (H:Hp) (b:Addr):Prop:=
 H b=none/\b≠X.env.locals/\b∉X.fs/\(b∈X.ex\/X.s₀.heap.objs.size<=b)/\(∀x c,X.env.cells.lookup x=some c->c≠b)/\∀p∈X.pn++pins,p.1≠b
theorem Inv.fpOk {X:Cx} {pins:List (Addr×Obj)} {σ:St} {H H':Hp} {s:Shared} {b:Addr} (I:Inv X pins σ H s) (hb:s.heap.objs.size<=b) (hn:H' b=none):mE X pins H' b:=by
 refine⟨hn,BD (A6 I.lt hb),I.nofs hb,.inr (A9 I.sz hb),fun x c e z=>?_,fun p hp z=>?_⟩
 ·obtain⟨v,q⟩:=I.cell x c e
  exact absurd (A6 q.lt (by rw[z];exact hb)) (Bt _)
 ·exact absurd (A6 (Heap.lt_size (I.pin p hp).1) (by rw[z];exact hb)) (Bt _)
structure Turn (P:Program) (w:World) (K:PySem.W.Frag) (tg:Expr) (J:It) (fp:List Addr) (it:Addr) (tn:Nat->Heap->Prop):Prop where
 mem:it∈fp
 obj:∀i h,tn i h->∀b∈fp,∃o,h.get? b=some o/\∀v,o.data≠ .cell v
 keep:∀i h h',tn i h->(∀b∈fp,∀o,h.get? b=some o->h'.get? b=some o)->tn i h'
 item:∀(X:Cx),X.prog=P->X.w=w->X.K=K->X.calm=true->∀(i:Nat) (pins:List (Addr×Obj)) (s:Shared) (σ:St) (H:Hp) (E:Value->Shared->Prop),Inv X pins σ H s->(∀b∈fp,mE X pins H b)->tn i s.heap->J.go i H->
  wpAny (model P w) X.A (pyNext (.ref it)) (fun r s1=>∃u,r=some u/\
   wpAny (model P w) X.A (letOwnedTupleGo tg (.ref it) u) (fun _ s2=>∃x H',Inv X pins σ H' s2/\RelV x u/\J.yld i H x H'/\tn (i+1) s2.heap/\∀b∈fp,H' b=none) E s1) E s
 done:∀(X:Cx),X.prog=P->X.w=w->X.K=K->X.calm=true->∀(i:Nat) (pins:List (Addr×Obj)) (s:Shared) (σ:St) (H:Hp) (E:Value->Shared->Prop),Inv X pins σ H s->(∀b∈fp,mE X pins H b)->tn i s.heap->J.stop i H->
  wpAny (model P w) X.A (pyNext (.ref it)) (fun r s1=>r=none/\Inv X pins σ H s1) E s
 self:∀(A:Around) (i:Nat) (s:Shared) (Q:Value->Shared->Prop) (E:Value->Shared->Prop),tn i s.heap->Q (.ref it) s->wpAny (model P w) A (pyIter (.ref it)) Q E s
abbrev TI:=St->Hp->(It->Hp->Prop)->Prop
def zU (X:Cx) (pins:List (Addr×Obj)) (σ:St) (tg:Expr) (R:It->Hp->Prop) (itv:Value) (s2:Shared):Prop:=
 ∃(it:Addr) (fp:List Addr) (tn:Nat->Heap->Prop) (J:It) (H':Hp),itv= .ref it/\Inv X pins σ H' s2/\Turn X.prog X.w X.K tg J fp it tn/\tn 0 s2.heap/\(∀b∈fp,mE X pins H' b)/\R J H'
def PI (X:Cx) (tg iter:Expr) (wi:TI):Prop:=
 ∀(pins:List (Addr×Obj)) (s:Shared) (σ:St) (H:Hp) (R:It->Hp->Prop),Inv X pins σ H s->wi σ H R->
  wpAny (model X.prog X.w) X.A (eval iter X.env) (fun v s1=>wpAny (model X.prog X.w) X.A (pyIter v) (zU X pins σ tg R) X.xe s1) X.xe s
theorem nV {M:Model} {A:Around} {E:Value->Shared->Prop} {s:Shared} {tg:Expr} {it:Addr} {u:Value} {o:Obj} {n:String} {vs:Array Value} {Q:Unit->Shared->Prop} (ho:s.heap.get? it=some o) (hc:o.cls= .type n) (hd:o.data= .fields vs)
    (hn:["enumerate","zip","dict_itemiterator","dict_reverseitemiterator","odict_iterator","itertools.zip_longest","itertools.pairwise"].contains n=false) (hQ:Q () s):wpAny M A (letOwnedTupleGo tg (.ref it) u) Q E s:=by
  unfold letOwnedTupleGo
  cases tg<;>first
    | exact wpAny_pure hQ
    | (cases u<;>first
        | exact wpAny_pure hQ
        | (refine wpAny_bind (wpAny_load ho ?_)
           rw[hc,hd]
           show wpAny M A (if(["enumerate","zip","dict_itemiterator","dict_reverseitemiterator","odict_iterator","itertools.zip_longest","itertools.pairwise"].contains n&&vs[0]?==some (rawInt _))=true then _ else _) Q E s
           rw[if_neg (by intro h;rw[hn,Bd]at h;cases h)]
           exact wpAny_pure hQ))
def nW (K:PySem.W.Frag) (a:Addr):It:=
 ⟨fun i H=>∃xs x,SqL K H a xs/\xs[i]?=some x,fun i H x H'=>H'=H/\∀xs,SqL K H a xs->xs[i]?=some x,fun i H=>∃xs,SqL K H a xs/\xs.length<=i⟩
def wW (K:PySem.W.Frag) (a:Addr):It:=
 ⟨fun i H=>∃xs x,SqT K H a xs/\xs[i]?=some x,fun i H x H'=>H'=H/\∀xs,SqT K H a xs->xs[i]?=some x,fun i H=>∃xs,SqT K H a xs/\xs.length<=i⟩
def pB (lo:Int) (n:Nat):It:=⟨fun i _=>i<n,fun i H x H'=>H'=H/\x= .int (lo+i),fun i _=>n<=i⟩
theorem lG {P:Program} {w:World} {K:PySem.W.Frag} {tg:Expr} (a it:Addr):Turn P w K tg (nW K a) [it] it (fun i h=>h.IsListIter it a i) where
 mem:=by simp
 obj:=fun i h st b hb=>by
  have e:b=it:=by simpa using hb
  subst e
  obtain⟨o,e,c,d⟩:=st
  exact⟨o,e,fun v z=>by rw[d]at z;cases z⟩
 keep:=fun i h h' st k=>st.at fun o e=>k it (by simp) o e
 item:=by
  intro X hP hw hK hc i pins s σ H E I hf st hg
  subst hP hw hK
  obtain⟨xs,x,hq,hx⟩:=hg
  obtain⟨its,rv,p,hz⟩:=I.list hq
  obtain⟨u,hu,ru⟩:=rv.get hx
  obtain⟨f0,f1,f2,f3,f4,f5⟩:=hf it (by simp)
  refine wpAny_pyNext_list_item st p.isList (x:=u) (by simpa using hu) fun h' st' sb=>?_
  have I1:Inv X pins σ H {s with heap:=h'}:=I.turned (t':=s.toks) (fun b o hb e=>(sb.2 b hb).trans e) f0 f1 f3 f4 f5
  obtain⟨o,e,c,d⟩:=id st'
  exact⟨u,rfl,nV (s:={s with heap:=h'}) e c d (by decide) ⟨x,H,I1,ru,⟨rfl,fun ys hy=>by rw[I.list_inj hy hq];exact hx⟩,st',fun b hb=>(hf b hb).1⟩⟩
 done:=by
  intro X hP hw hK hc i pins s σ H E I hf st hg
  subst hP hw hK
  obtain⟨xs,hq,hx⟩:=hg
  obtain⟨its,rv,p,hz⟩:=I.list hq
  obtain⟨f0,f1,f2,f3,f4,f5⟩:=hf it (by simp)
  have hl:=rv.length
  exact wpAny_pyNext_list_end (I.ok.hd hc) st p.isList (by simp;omega) fun h' eb=>⟨rfl,I.turned (t':=s.toks) (fun b o hb e=>eb b o hb e) f0 f1 f3 f4 f5⟩
 self:=fun _ _ _ _ _ st h=>wpAny_pyIter_listiter st h
theorem jV {P:Program} {w:World} {K:PySem.W.Frag} {tg:Expr} (a it:Addr):Turn P w K tg (wW K a) [it] it (fun i h=>h.IsTupleIter it a i) where
 mem:=by simp
 obj:=fun i h st b hb=>by
  have e:b=it:=by simpa using hb
  subst e
  obtain⟨o,e,c,d⟩:=st
  exact⟨o,e,fun v z=>by rw[d]at z;cases z⟩
 keep:=fun i h h' st k=>st.at fun o e=>k it (by simp) o e
 item:=by
  intro X hP hw hK hc i pins s σ H E I hf st hg
  subst hP hw hK
  obtain⟨xs,x,hq,hx⟩:=hg
  obtain⟨its,rv,p,hz⟩:=I.tuple hq
  obtain⟨u,hu,ru⟩:=rv.get hx
  obtain⟨f0,f1,f2,f3,f4,f5⟩:=hf it (by simp)
  refine wpAny_pyNext_tuple_item st (show s.heap.IsTuple a its.toArray from p) (x:=u) (by simpa using hu) fun h' st' sb=>?_
  have I1:Inv X pins σ H {s with heap:=h'}:=I.turned (t':=s.toks) (fun b o hb e=>(sb.2 b hb).trans e) f0 f1 f3 f4 f5
  obtain⟨o,e,c,d⟩:=id st'
  exact⟨u,rfl,nV (s:={s with heap:=h'}) e c d (by decide) ⟨x,H,I1,ru,⟨rfl,fun ys hy=>by rw[I.tuple_inj hy hq];exact hx⟩,st',fun b hb=>(hf b hb).1⟩⟩
 done:=by
  intro X hP hw hK hc i pins s σ H E I hf st hg
  subst hP hw hK
  obtain⟨xs,hq,hx⟩:=hg
  obtain⟨its,rv,p,hz⟩:=I.tuple hq
  obtain⟨f0,f1,f2,f3,f4,f5⟩:=hf it (by simp)
  have hl:=rv.length
  exact wpAny_pyNext_tuple_end (I.ok.hd hc) st (show s.heap.IsTuple a its.toArray from p) (by simp;omega) fun h' eb=>⟨rfl,I.turned (t':=s.toks) (fun b o hb e=>eb b o hb e) f0 f1 f3 f4 f5⟩
 self:=fun _ _ _ _ _ st h=>wpAny_pyIter_tupleiter st h
theorem pF {P:Program} {w:World} {K:PySem.W.Frag} {tg:Expr} (it:Addr) (lo:Int) (n:Nat):Turn P w K tg (pB lo n) [it] it (fun i h=>IsRangeIter h it (lo+(i:Nat)*1) ((n:Int)-(i:Nat)) 1) where
 mem:=by simp
 obj:=fun i h st b hb=>by
  have e:b=it:=by simpa using hb
  subst e
  exact⟨_,st,fun v z=>by
   have z':Data.fields _=Data.cell v:=z
   cases z'⟩
 keep:=fun i h h' st k=>k it (by simp) _ st
 item:=by
  intro X hP hw hK hc i pins s σ H E I hf st hg
  subst hP hw hK
  obtain⟨f0,f1,f2,f3,f4,f5⟩:=hf it (by simp)
  have W:=Walks.range (prog:=X.prog) (w:=X.w) (I.ok.hd hc) it lo 1 n
  refine W.item i s _ _ hg st fun v h' tk hv st' kk=>?_
  obtain⟨t,rfl⟩:=hv
  have I1:Inv X pins σ H {s with heap:=h',toks:=tk}:=I.turned (fun b o hb e=>kk b o (by simpa using hb) e) f0 f1 f3 f4 f5
  refine⟨_,rfl,nV (s:={s with heap:=h',toks:=tk}) (n:="range_iterator") st' rfl rfl (by decide) ⟨.int (lo+i),H,I1,⟨t,?_⟩,⟨rfl,rfl⟩,st',fun b hb=>(hf b hb).1⟩⟩
  rw[Int.mul_one]
 done:=by
  intro X hP hw hK hc i pins s σ H E I hf st hg
  subst hP hw hK
  obtain⟨f0,f1,f2,f3,f4,f5⟩:=hf it (by simp)
  exact wpAny_pyNext_range_end (I.ok.hd hc) st (by have:n<=i:=hg;omega) fun h' eb=>⟨rfl,I.turned (t':=s.toks) (fun b o hb e=>eb b o hb e) f0 f1 f3 f4 f5⟩
 self:=fun _ _ _ _ _ st h=>wpAny_pyIter_rangeiter st h
section
variable {X:Cx} {tg:Expr}
def wX (K:PySem.W.Frag) (tl:TE):TI:=fun σ H R=>tl σ H fun x H1=>∃a,x= .ref a/\(∃xs,SqL K H1 a xs)/\R (nW K a) H1
def yw (K:PySem.W.Frag) (tl:TE):TI:=fun σ H R=>tl σ H fun x H1=>∃a,x= .ref a/\(∃xs,SqT K H1 a xs)/\R (wW K a) H1
theorem vK {l:Expr} {tl:TE} (hl:PE X l tl):PI X tg l (wX X.K tl):=by
 intro pins s σ H R I h
 refine bK (hl pins s σ H _ I h) fun v s1 hq__=>?_
 obtain⟨x,H1,I1,r1,q1⟩:=hq__
 obtain⟨a,e,⟨xs,hq⟩,q⟩:=q1
 subst e
 cases r1
 obtain⟨its,rv,p,hz⟩:=I1.list hq
 refine wpAny_pyIter_list p.isList ?_
 refine⟨s1.heap.objs.size,[s1.heap.objs.size],_,_,H1,rfl,I1.kept (t':=s1.toks) fun b o e=>Heap.get?_push_of_some _ e,lG a _,⟨_,Heap.get?_push_size _ rfl,rfl,rfl⟩,fun b hb=>?_,q⟩
 have e:b=s1.heap.objs.size:=by simpa using hb
 subst e
 exact I1.fpOk (AI _) (I1.hok.fresh (AI _))
theorem xu {l:Expr} {tl:TE} (hl:PE X l tl):PI X tg l (yw X.K tl):=by
 intro pins s σ H R I h
 refine bK (hl pins s σ H _ I h) fun v s1 hq__=>?_
 obtain⟨x,H1,I1,r1,q1⟩:=hq__
 obtain⟨a,e,⟨xs,hq⟩,q⟩:=q1
 subst e
 cases r1
 obtain⟨its,rv,p,hz⟩:=I1.tuple hq
 refine wpAny_pyIter_tuple (show s1.heap.IsTuple a its.toArray from p) ?_
 refine⟨s1.heap.objs.size,[s1.heap.objs.size],_,_,H1,rfl,I1.kept (t':=s1.toks) fun b o e=>Heap.get?_push_of_some _ e,jV a _,⟨_,Heap.get?_push_size _ rfl,rfl,rfl⟩,fun b hb=>?_,q⟩
 have e:b=s1.heap.objs.size:=by simpa using hb
 subst e
 exact I1.fpOk (AI _) (I1.hok.fresh (AI _))
theorem nX {pins:List (Addr×Obj)} {σ:St} {H:Hp} {s:Shared} {R:It->Hp->Prop} {E:Value->Shared->Prop} {lo hi:Int} {t u v:Tok} {tk:Nat} (I:Inv X pins σ H s) (h1: -(2^62)<=lo) (h2:lo<2^62) (h3: -(2^62)<=hi) (h4:hi<2^62)
  (q:R (pB lo (hi-lo).toNat) H):wpAny (model X.prog X.w) X.A (pyIter (.ref s.heap.objs.size)) (zU X pins σ tg R) E {s with heap:=s.heap.push {cls:= .type "range",data:= .fields #[.int lo t,.int hi u,.int 1 v]},toks:=tk}:=by
 refine wpAny_pyIter_range (IsRange.new ..) (small_one h1 h2 h3 h4) ?_
 have I1:Inv X pins σ H {s with heap:=s.heap.push {cls:= .type "range",data:= .fields #[.int lo t,.int hi u,.int 1 v]},toks:=tk}:=I.kept fun b o e=>Heap.get?_push_of_some _ e
 refine⟨(s.heap.push {cls:= .type "range",data:= .fields #[.int lo t,.int hi u,.int 1 v]}).objs.size,[(s.heap.push {cls:= .type "range",data:= .fields #[.int lo t,.int hi u,.int 1 v]}).objs.size],_,_,H,rfl,
  I1.kept (t':=tk) fun b o e=>Heap.get?_push_of_some _ e,pF _ lo (hi-lo).toNat,?_,fun b hb=>?_,q⟩
 ·have e1:lo+((0:Nat):Int)*1=lo:=by simp
  have e2:(((hi-lo).toNat:Nat):Int)-((0:Nat):Int)=Builtin.Range.rangeSize lo hi 1:=by rw[rangeSize_one];split<;>omega
  show IsRangeIter _ _ (lo+((0:Nat):Int)*1) ((((hi-lo).toNat:Nat):Int)-((0:Nat):Int)) 1
  rw[e1,e2]
  exact Heap.get?_push_size _ rfl
 ·have e:b=(s.heap.push {cls:= .type "range",data:= .fields #[.int lo t,.int hi u,.int 1 v]}).objs.size:=by simpa using hb
  subst e
  exact I1.fpOk (AI _) (I1.hok.fresh (AI _))
def yx (ta:TA):TI:=fun σ H R=>ta σ H fun vs H1=>∃j:Int,vs=[.int j]/\ -(2^62)<=j/\j<2^62/\R (pB 0 j.toNat) H1
def yz (ta:TA):TI:=fun σ H R=>ta σ H fun vs H1=>∃i j:Int,vs=[.int i,.int j]/\(-(2^62)<=i/\i<2^62/\ -(2^62)<=j/\j<2^62)/\R (pB i (j-i).toNat) H1
theorem aY {a:Expr} {ta:TA} {p pos:Pos} (hg:Gl X "range") (hm:X.mg "range"=none) (ha:PA X [a] ta) (hs:starEach [a] X.env=[(false,eval a X.env)]:=by rfl):PI X tg (.Call (.Name "range" p) [a] [] pos) (yx ta):=by
 intro pins s σ H R I h
 refine Call_ (dH I hg hm boot_range (PyProof.Rows.callWith_type1 (bK (ha pos pins s σ H _ I h) fun us s1 ⟨vs,H1,I1,r1,q1⟩=>?_) hs rfl))
 obtain⟨j,e,q1,q2,q⟩:=q1
 subst e
 cases r1 with
 | cons r rr=>
  cases rr
  obtain⟨t,rfl⟩:=r
  exact call_range_1 (nX I1 (by omega) (by omega) q1 q2 (by simpa using q))
theorem lH {a b:Expr} {ta:TA} {p pos:Pos} (hg:Gl X "range") (hm:X.mg "range"=none) (ha:PA X [a,b] ta) (hs:starEach [a,b] X.env=[(false,eval a X.env),(false,eval b X.env)]:=by rfl) (hs2:starEach [b] X.env=[(false,eval b X.env)]:=by rfl):
  PI X tg (.Call (.Name "range" p) [a,b] [] pos) (yz ta):=by
 intro pins s σ H R I h
 refine Call_ (dH I hg hm boot_range (PyProof.Rows.callWith_type1 (bK (ha pos pins s σ H _ I h) fun us s1 ⟨vs,H1,I1,r1,q1⟩=>?_) (by rw[hs,hs2]) (by rw[hs2];rfl)))
 obtain⟨i,j,e,⟨q1,q2,q3,q4⟩,q⟩:=q1
 subst e
 cases r1 with
 | cons r rr=>
  cases rr with
  | cons r' rr=>
   cases rr
   obtain⟨t,rfl⟩:=r
   obtain⟨t',rfl⟩:=r'
   exact call_range_2 (nX I1 q1 q2 q3 q4 q)
def zv (wi:TI) (g:TG) (tb:TS):TS:=fun D σ H=>wi σ H fun J H1=>∃W:Nat->Nat->St->Hp->Prop,(∃m,W 0 m σ H1)/\∀i m σ H,W i m σ H->
 (J.stop i H/\D.nx σ H)\/(J.go i H/\∃N:St->Hp->Prop,(∀σ' H',N σ' H'->∃m',m'<m/\W (i+1) m' σ' H')/\∀x H',J.yld i H x H'->g x σ H' fun σ2 H2=>tb {D with nx:=N,ct:=N,bk:=D.nx} σ2 H2)
def jW (fp:List Addr) (h:Heap):List (Addr×Obj):=fp.filterMap fun b=>(h.get? b).map fun o=>(b,o)
theorem fm {fp:List Addr} {h:Heap} {b:Addr} {o:Obj} (hb:b∈fp) (e:h.get? b=some o):(b,o)∈jW fp h:=BZ.mpr ⟨b,hb,by rw[e];rfl⟩
theorem rJ {fp:List Addr} {h:Heap} {p:Addr×Obj} (hp:p∈jW fp h):p.1∈fp/\h.get? p.1=some p.2:=by
 obtain⟨b,hb,e⟩:=BZ.mp hp
 cases q:h.get? b with
 | none=>rw[q]at e;cases e
 | some o=>
  rw[q]at e
  have e':(b,o)=p:=Option.some.inj e
  subst e'
  exact⟨hb,q⟩
theorem Inv.pinned {pins:List (Addr×Obj)} {σ:St} {H:Hp} {s:Shared} {fp:List Addr} (I:Inv X pins σ H s) (hf:∀b∈fp,mE X pins H b) (ho:∀b∈fp,∃o,s.heap.get? b=some o/\∀v,o.data≠ .cell v):Inv X (pins++jW fp s.heap) σ H s:=
 I.pins_of fun p hp=>(AZ.mp hp).elim (fun z=>I.pin p (Bc _ z)) fun z=>by
  obtain⟨hb,e⟩:=rJ z
  obtain⟨f0,f1,f2,_⟩:=hf p.1 hb
  obtain⟨o,e',d⟩:=ho p.1 hb
  rw[e]at e';cases e'
  exact⟨e,f0,f1,f2,d⟩
theorem Inv.unpinned {pins pl:List (Addr×Obj)} {σ:St} {H:Hp} {s:Shared} (I:Inv X (pins++pl) σ H s):Inv X pins σ H s:=I.pins_of fun p hp=>I.pin p (Bc _ (BM _ hp))
theorem bH {iter:Expr} {body:List Stmt} {wi:TI} {g:TG} {tb:TS} {pos:Pos} (hp:PassesOwn (model X.prog X.w) X.A X.env X.xe) (hc:X.calm=true) (hi:PI X tg iter wi) (hg:PG X tg g) (hb:PSs X body tb)
  (hs:∀x,foldedSetIterable iter X.env x=pure x:=by intro _;rfl):PS X (.For tg iter body [] pos) (zv wi g tb):=by
 intro pins s σ H D I h
 refine wpAny_For (bK (hi pins s σ H _ I h) fun v s1 h1=>bK h1 fun itv s2 h2=>?_) hs
 obtain⟨it,fp,tn,J,H2,e,I2,T,st2,f2,W,⟨m0,w0⟩,turn⟩:=h2
 subst e
 have stat:∀{H':Hp},(∀b∈fp,H' b=none)->∀b∈fp,mE X pins H' b:=fun hn b hb=>⟨hn b hb,(f2 b hb).2⟩
 refine codeAny_forLoop_any (fun n s'=>∃i σ' H',Inv X pins σ' H' s'/\tn i s'.heap/\(∀b∈fp,H' b=none)/\W i n σ' H') ?_ m0 ⟨0,σ,H2,I2,st2,fun b hb=>(f2 b hb).1,w0⟩
 rintro n s3 ⟨i,σ3,H3,I3,st3,fr3,w3⟩
 rcases turn i n σ3 H3 w3 with⟨stop,qn⟩ | ⟨go,N,hN,step⟩
 ·refine wpAny_passesOwn hp (bK (T.done X rfl rfl rfl hc i pins s3 σ3 H3 X.xe I3 (stat fr3) st3 stop) fun r s4 hq__=>?_)
  obtain⟨hr,I4⟩:=hq__
  subst hr
  exact wpAny_execs_nil ⟨σ3,H3,I4,qn⟩
 ·refine wpAny_passesOwn hp (bK (T.item X rfl rfl rfl hc i pins s3 σ3 H3 X.xe I3 (stat fr3) st3 go) fun r s4 hq__=>?_)
  obtain⟨u,hr,h4⟩:=hq__
  subst hr
  refine wpAny_passesOwn hp (bK h4 fun _ s5 hq__=>?_)
  obtain⟨x,H5,I5,r5,y5,st5,fr5⟩:=hq__
  have I5':=I5.pinned (stat fr5) (T.obj _ _ st5)
  refine wpAny_passesOwn hp (bK (hg _ s5 σ3 H5 x u _ I5' r5 (step x H5 y5)) fun _ s6 hq__=>?_)
  obtain⟨σ6,H6,I6,q6⟩:=hq__
  refine wpAny_passesOwn hp (bK (hb _ s6 σ6 H6 _ I6 q6) fun f s7 q7=>?_)
  have again:∀{σ7:St} {H7:Hp},Inv X (pins++jW fp s5.heap) σ7 H7 s7->N σ7 H7->∃m,m<n/\∃i σ' H',Inv X pins σ' H' s7/\tn i s7.heap/\(∀b∈fp,H' b=none)/\W i m σ' H':=fun {σ7 H7} I7 n7=>by
   obtain⟨m',hm,w7⟩:=hN σ7 H7 n7
   refine⟨m',hm,i+1,σ7,H7,I7.unpinned,T.keep _ _ _ st5 fun b hb o e=>(I7.pin (b,o) (Bc _ (Bc _ (fm hb e)))).1,fun b hb=>?_,w7⟩
   obtain⟨o,e,d⟩:=T.obj _ _ st5 b hb
   exact(I7.pin (b,o) (Bc _ (Bc _ (fm hb e)))).2.1
  cases f with
  | next=>obtain⟨σ7,H7,I7,n7⟩:=q7;exact again I7 n7
  | cont=>obtain⟨σ7,H7,I7,n7⟩:=q7;exact again I7 n7
  | brk=>obtain⟨σ7,H7,I7,q7⟩:=q7;exact⟨σ7,H7,I7.unpinned,q7⟩
  | ret v=>obtain⟨x7,σ7,H7,I7,r7,q7⟩:=q7;exact⟨x7,σ7,H7,I7.unpinned,r7,q7⟩
end
theorem cq {K:PySem.W.Frag} {a:Addr} {xs:List V} {g:TG} {tb:TS} {D:Ends} {σ:St} {H:Hp} (Pv:Nat->St->Hp->Prop) (h0:Pv 0 σ H) (hl:∀i σ H,i<=xs.length->Pv i σ H->SqL K H a xs)
  (hs:∀i x σ H,xs[i]?=some x->Pv i σ H->g x σ H fun σ2 H2=>tb {D with nx:=Pv (i+1),ct:=Pv (i+1),bk:=D.nx} σ2 H2) (hd:∀σ H,Pv xs.length σ H->D.nx σ H):
  ∃W:Nat->Nat->St->Hp->Prop,(∃m,W 0 m σ H)/\∀i m σ H,W i m σ H->
   ((nW K a).stop i H/\D.nx σ H)\/((nW K a).go i H/\∃N:St->Hp->Prop,(∀σ' H',N σ' H'->∃m',m'<m/\W (i+1) m' σ' H')/\∀x H',(nW K a).yld i H x H'->g x σ H' fun σ2 H2=>tb {D with nx:=N,ct:=N,bk:=D.nx} σ2 H2):=by
 refine⟨fun i m σ H=>m=xs.length-i/\i<=xs.length/\Pv i σ H,⟨xs.length,by simp,A0 _,h0⟩,?_⟩
 rintro i m σ H ⟨rfl,hi,p⟩
 have q:=hl i σ H hi p
 by_cases hlt:i<xs.length
 ·refine .inr ⟨⟨xs,xs[i],q,by simp[hlt]⟩,Pv (i+1),fun σ' H' p'=>⟨xs.length-(i+1),Bu _ _ hlt,rfl,hlt,p'⟩,fun x H' y=>?_⟩
  obtain⟨e,y⟩:=y
  subst e
  exact hs i x σ _ (y xs q) p
 ·have e:i=xs.length:=BW hi (BK hlt)
  subst e
  exact .inl ⟨⟨xs,q,AI _⟩,hd σ H p⟩
theorem vL {K:PySem.W.Frag} {a:Addr} {xs:List V} {g:TG} {tb:TS} {D:Ends} {σ:St} {H:Hp} (Pv:Nat->St->Hp->Prop) (h0:Pv 0 σ H) (hl:∀i σ H,i<=xs.length->Pv i σ H->SqT K H a xs)
  (hs:∀i x σ H,xs[i]?=some x->Pv i σ H->g x σ H fun σ2 H2=>tb {D with nx:=Pv (i+1),ct:=Pv (i+1),bk:=D.nx} σ2 H2) (hd:∀σ H,Pv xs.length σ H->D.nx σ H):
  ∃W:Nat->Nat->St->Hp->Prop,(∃m,W 0 m σ H)/\∀i m σ H,W i m σ H->
   ((wW K a).stop i H/\D.nx σ H)\/((wW K a).go i H/\∃N:St->Hp->Prop,(∀σ' H',N σ' H'->∃m',m'<m/\W (i+1) m' σ' H')/\∀x H',(wW K a).yld i H x H'->g x σ H' fun σ2 H2=>tb {D with nx:=N,ct:=N,bk:=D.nx} σ2 H2):=by
 refine⟨fun i m σ H=>m=xs.length-i/\i<=xs.length/\Pv i σ H,⟨xs.length,by simp,A0 _,h0⟩,?_⟩
 rintro i m σ H ⟨rfl,hi,p⟩
 have q:=hl i σ H hi p
 by_cases hlt:i<xs.length
 ·refine .inr ⟨⟨xs,xs[i],q,by simp[hlt]⟩,Pv (i+1),fun σ' H' p'=>⟨xs.length-(i+1),Bu _ _ hlt,rfl,hlt,p'⟩,fun x H' y=>?_⟩
  obtain⟨e,y⟩:=y
  subst e
  exact hs i x σ _ (y xs q) p
 ·have e:i=xs.length:=BW hi (BK hlt)
  subst e
  exact .inl ⟨⟨xs,q,AI _⟩,hd σ H p⟩
theorem bW {lo:Int} {n:Nat} {g:TG} {tb:TS} {D:Ends} {σ:St} {H:Hp} (Pv:Nat->St->Hp->Prop) (h0:Pv 0 σ H)
  (hs:∀i σ H,i<n->Pv i σ H->g (.int (lo+i)) σ H fun σ2 H2=>tb {D with nx:=Pv (i+1),ct:=Pv (i+1),bk:=D.nx} σ2 H2) (hd:∀σ H,Pv n σ H->D.nx σ H):
  ∃W:Nat->Nat->St->Hp->Prop,(∃m,W 0 m σ H)/\∀i m σ H,W i m σ H->
   ((pB lo n).stop i H/\D.nx σ H)\/((pB lo n).go i H/\∃N:St->Hp->Prop,(∀σ' H',N σ' H'->∃m',m'<m/\W (i+1) m' σ' H')/\∀x H',(pB lo n).yld i H x H'->g x σ H' fun σ2 H2=>tb {D with nx:=N,ct:=N,bk:=D.nx} σ2 H2):=by
 refine⟨fun i m σ H=>m=n-i/\i<=n/\Pv i σ H,⟨n,by simp,A0 _,h0⟩,?_⟩
 rintro i m σ H ⟨rfl,hi,p⟩
 by_cases hlt:i<n
 ·refine .inr ⟨hlt,Pv (i+1),fun σ' H' p'=>⟨n-(i+1),Bu _ _ hlt,rfl,hlt,p'⟩,fun x H' y=>?_⟩
  obtain⟨e,y⟩:=y
  subst e y
  exact hs i σ _ hlt p
 ·have e:i=n:=BW hi (BK hlt)
  subst e
  exact .inl ⟨AI _,hd σ H p⟩
abbrev R2:=V->V->Hp->VK->Prop
def fk (X:Cx) (f:Value->Value->Sem Value) (r:R2):Prop:=
 ∀(pins:List (Addr×Obj)) (s:Shared) (σ:St) (H:Hp) (x y:V) (v u:Value) (Q:VK),Inv X pins σ H s->RelV x v->RelV y u->r x y H Q->
  wpAny (model X.prog X.w) X.A (f v u) (EP X pins σ Q) X.xe s
def y9 (X:Cx) (f:Value->Sem Value) (r:V->Hp->VK->Prop):Prop:=
 ∀(pins:List (Addr×Obj)) (s:Shared) (σ:St) (H:Hp) (x:V) (v:Value) (Q:VK),Inv X pins σ H s->RelV x v->r x H Q->
  wpAny (model X.prog X.w) X.A (f v) (EP X pins σ Q) X.xe s
def cu (X:Cx) (f:Value) (r:List V->Hp->VK->Prop):Prop:=
 ∀(pins:List (Addr×Obj)) (s:Shared) (σ:St) (H:Hp) (xs:List V) (us:List Value) (Q:VK),Inv X pins σ H s->Vals xs us->r xs H Q->
  wpAny (model X.prog X.w) X.A (call f us) (EP X pins σ Q) X.xe s
def zw (X:Cx) (r:V->Hp->(Bool->Hp->Prop)->Prop):Prop:=
 ∀(pins:List (Addr×Obj)) (s:Shared) (σ:St) (H:Hp) (x:V) (v:Value) (Q:Bool->Hp->Prop),Inv X pins σ H s->RelV x v->r x H Q->
  wpAny (model X.prog X.w) X.A (truthy v) (TP X pins σ Q) X.xe s
def za (r:R2) (ta tb:TE):TE:=fun σ H Q=>ta σ H fun x H1=>tb σ H1 fun y H2=>r x y H2 Q
def Ag (r:V->Hp->VK->Prop) (ta:TE):TE:=fun σ H Q=>ta σ H fun x H1=>r x H1 Q
def rI (C:Int->Int->Prop) (g:Int->Int->V):R2:=fun x y H Q=>∃i j,x= .int i/\y= .int j/\C i j/\Q (g i j) H
def wY (g:Int->Int->V):R2:=fun x y H Q=>∃i j,x= .int i/\y= .int j/\Q (g i j) H
def rU (g:Int->V):V->Hp->VK->Prop:=fun x H Q=>∃i,x= .int i/\Q (g i) H
section
variable {X:Cx} {a b c:Expr} {ta tb tc:TE} {pos:Pos}
theorem xv (ha:PE X a ta) (hb:PE X b tb) {pins:List (Addr×Obj)} {s:Shared} {σ:St} {H:Hp} {R:V->V->Hp->Prop} (I:Inv X pins σ H s)
  (h:ta σ H fun x H1=>tb σ H1 fun y H2=>R x y H2) {Q:Value->Shared->Prop} {f:Value->Value->Sem Value}
  (hf:∀v u s2 x y H2,Inv X pins σ H2 s2->RelV x v->RelV y u->R x y H2->wpAny (model X.prog X.w) X.A (f v u) Q X.xe s2):
  wpAny (model X.prog X.w) X.A (eval a X.env) (fun v s₁=>wpAny (model X.prog X.w) X.A (eval b X.env) (fun u s₂=>wpAny (model X.prog X.w) X.A (f v u) Q X.xe s₂) X.xe s₁) X.xe s:=by
 refine bK (ha pins s σ H _ I h) fun v s1 hq__=>?_
 obtain⟨x,H1,I1,r1,q1⟩:=hq__
 refine bK (hb pins s1 σ H1 _ I1 q1) fun u s2 hq__=>?_
 obtain⟨y,H2,I2,r2,q2⟩:=hq__
 exact hf v u s2 x y H2 I2 r1 r2 q2
theorem ak {op:Operator} {r:R2} (ho:fk X (binaryOp op) r) (ha:PE X a ta) (hb:PE X b tb):PE X (.BinOp a op b pos) (za r ta tb):=by
 intro pins s σ H Q I h
 exact wpAny_BinOp (xv ha hb I h fun v u s2 x y H2 I2 rx ry q=>ho pins s2 σ H2 x y v u Q I2 rx ry q)
theorem t8 {op:UnaryOp} {r:V->Hp->VK->Prop} (ho:y9 X (unaryOp op) r) (ha:PE X a ta):PE X (.UnaryOp op a pos) (Ag r ta):=by
 intro pins s σ H Q I h
 exact UnaryOp_ (bK (ha pins s σ H _ I h) fun v s1 ⟨x,H1,I1,r1,q1⟩=>ho pins s1 σ H1 x v Q I1 r1 q1)
theorem yA {f:Value->Value->Sem Value} {C:Int->Int->Prop} {g:Int->Int->Int}
  (rule:∀(i j:Int) (t u:Tok) (s:Shared) (Q:Value->Shared->Prop) (E:Value->Shared->Prop),C i j->Q (.int (g i j) s.toks) {s with toks:=s.toks+1}->wpAny (model X.prog X.w) X.A (f (.int i t) (.int j u)) Q E s):
  fk X f (rI C fun i j=> .int (g i j)):=by
 intro pins s σ H x y v u Q I rx ry h
 obtain⟨i,j,rfl,rfl,hc,q⟩:=h
 obtain⟨t,rfl⟩:=rx
 obtain⟨t',rfl⟩:=ry
 exact rule i j t t' s _ _ hc ⟨.int (g i j),H,I.tok _,⟨_,rfl⟩,q⟩
theorem yB {f:Value->Value->Sem Value} {g:Int->Int->Int}
  (rule:∀(i j:Int) (t u:Tok) (s:Shared) (Q:Value->Shared->Prop) (E:Value->Shared->Prop),Q (.int (g i j) s.toks) {s with toks:=s.toks+1}->wpAny (model X.prog X.w) X.A (f (.int i t) (.int j u)) Q E s):
  fk X f (wY fun i j=> .int (g i j)):=by
 intro pins s σ H x y v u Q I rx ry h
 obtain⟨i,j,rfl,rfl,q⟩:=h
 obtain⟨t,rfl⟩:=rx
 obtain⟨t',rfl⟩:=ry
 exact rule i j t t' s _ _ ⟨.int (g i j),H,I.tok _,⟨_,rfl⟩,q⟩
theorem vM {f:Value->Value->Sem Value} {g:Int->Int->Bool}
  (rule:∀(i j:Int) (t u:Tok) (s:Shared) (Q:Value->Shared->Prop) (E:Value->Shared->Prop),Q (.bool (g i j)) s->wpAny (model X.prog X.w) X.A (f (.int i t) (.int j u)) Q E s):
  fk X f (wY fun i j=> .bl (g i j)):=by
 intro pins s σ H x y v u Q I rx ry h
 obtain⟨i,j,rfl,rfl,q⟩:=h
 obtain⟨t,rfl⟩:=rx
 obtain⟨t',rfl⟩:=ry
 exact rule i j t t' s _ _ ⟨.bl (g i j),H,I,rfl,q⟩
def gC (i j:Int):Prop:=0<j/\j<1073741824
def yC (i j:Int):Prop:=0<=j/\j<=1000000/\i.natAbs<2^64
def CMul (i j:Int):Prop:=(-(2^64)<i/\i<2^64)\/(-(2^64)<j/\j<2^64)
theorem CMul.ok {i j:Int} (h:CMul i j):IntMulOk i j:=by
 rcases h with⟨h1,h2⟩ | ⟨h1,h2⟩
 ·exact .of_left (intBits_le_64 h1 h2)
 ·exact .of_right (intBits_le_64 h1 h2)
theorem pG (k:Nat):(0:Int)<=2^k:=by
 rw[two_pow_cast]
 exact Int.natCast_nonneg _
theorem aG:fk X (binaryOp .Add) (wY fun i j=> .int (i+j)):=yB fun _ _ _ _ _ _ _ q=>add_int q
theorem cW:fk X (binaryOp .Sub) (wY fun i j=> .int (i-j)):=yB fun _ _ _ _ _ _ _ q=>sub_int q
theorem gR:fk X (binaryOp .Mult) (rI CMul fun i j=> .int (i*j)):=yA fun _ _ _ _ _ _ _ hc q=>mul_int q hc.ok
theorem bX:fk X (binaryOp .FloorDiv) (rI gC fun i j=> .int (i/j)):=yA fun i j _ _ _ _ _ hc q=>by
 have h1:(0:Int)<j:=hc.1
 have h2:j<1073741824:=hc.2
 exact floordiv_int (by omega) (by rw[Cv i (by omega)];exact q) (.inl (PyProof.noPylong_small (by omega)))
theorem aK:fk X (binaryOp .Mod) (rI (fun _ j=>0<j) fun i j=> .int (i%j)):=yA fun i j _ _ _ _ _ hc q=>by
 have h1:(0:Int)<j:=hc
 exact mod_int' (by omega) (by rw[Int.fmod_eq_emod_of_nonneg i (by omega)];exact q)
theorem fK:fk X (binaryOp .Pow) (rI yC fun i j=> .int (i^j.toNat)):=yA fun _ _ _ _ _ _ _ hc q=>pow_int_small hc.1 hc.2.1 hc.2.2 q
theorem xw:fk X (binaryOp .RShift) (rI (fun _ j=>0<=j) fun i j=> .int (i/2^j.toNat)):=yA fun i j _ _ _ _ _ hc q=>
 rshift_int hc (by rw[Cv i (pG _)];exact q)
theorem Ah {f:Value->Sem Value} {g:Int->Int}
  (rule:∀(i:Int) (t:Tok) (s:Shared) (Q:Value->Shared->Prop) (E:Value->Shared->Prop),Q (.int (g i) s.toks) {s with toks:=s.toks+1}->wpAny (model X.prog X.w) X.A (f (.int i t)) Q E s):
  y9 X f (rU fun i=> .int (g i)):=by
 intro pins s σ H x v Q I rx h
 obtain⟨i,rfl,q⟩:=h
 obtain⟨t,rfl⟩:=rx
 exact rule i t s _ _ ⟨.int (g i),H,I.tok _,⟨_,rfl⟩,q⟩
theorem pH:y9 X (unaryOp .USub) (rU fun i=> .int (-i)):=Ah fun _ _ _ _ _ q=>neg_int q
end
def yD:V->V->Bool
 | .non,.non=>true | .non,.int _=>true | .int _,.non=>true | .non,.bl _=>true | .bl _,.non=>true | .non,.str _=>true | .str _,.non=>true
 | .int _,.int _=>true | .bl _,.bl _=>true | .str _,.str _=>true | .byt _,.byt _=>true
 | .int _,.str _=>true | .str _,.int _=>true | .bl _,.str _=>true | .str _,.bl _=>true
 | _,_=>false
def Ai:R2:=fun x y H Q=>yD x y=true/\Q (.bl (decide (x=y))) H
def Aj:R2:=fun x y H Q=>yD x y=true/\Q (.bl (!decide (x=y))) H
theorem qD {i j:Int}:decide (V.int i=V.int j)=(i==j):=by
 rw[Cd]
 simp
theorem t9 {i j:Bool}:decide (V.bl i=V.bl j)=(i==j):=by
 rw[Cd]
 simp
theorem qE {i j:Str}:decide (V.str i=V.str j)=(i==j):=by
 rw[Cd]
 simp
theorem qF {i j:Array UInt8}:decide (V.byt i=V.byt j)=(i.toList==j.toList):=by
 rw[Cd]
 cases i
 cases j
 simp
section
variable {X:Cx} {a b c:Expr} {ta tb tc:TE} {pos:Pos}
theorem aV {pins:List (Addr×Obj)} {σ:St} {H:Hp} {s:Shared} {Q:VK} {k k':Bool} (I:Inv X pins σ H s) (q:Q (.bl k) H) (e:k=k'):EP X pins σ Q (.bool k') s:=by
 subst e
 exact⟨.bl k,H,I,rfl,q⟩
theorem bj:fk X (compareOp .Eq) Ai:=by
 intro pins s σ H x y v u Q I rx ry h
 obtain⟨hs,q⟩:=h
 cases x with
 | non=>
  cases rx
  cases y with
  | non=>cases ry;exact PySem.EqNone.eq_none_none (aV I q (by simp))
  | bl j=>cases ry;exact PySem.EqNone.eq_none_bool (aV I q (by simp))
  | int j=>obtain⟨t',rfl⟩:=ry;exact PySem.EqNone.eq_none_int (aV I q (by simp))
  | str j=>obtain⟨t',rfl⟩:=ry;exact PySem.EqNone.eq_none_str (aV I q (by simp))
  | _=>exact absurd (show false=true from hs) AO
 | bl i=>
  cases rx
  cases y with
  | non=>cases ry;exact PySem.EqNone.eq_bool_none (aV I q (by simp))
  | bl j=>cases ry;exact eq_bool (aV I q t9)
  | str j=>obtain⟨t',rfl⟩:=ry;exact PySem.EqMixed.eq_bool_str (aV I q (by simp))
  | _=>exact absurd (show false=true from hs) AO
 | int i=>
  obtain⟨t,rfl⟩:=rx
  cases y with
  | non=>cases ry;exact PySem.EqNone.eq_int_none (aV I q (by simp))
  | int j=>obtain⟨t',rfl⟩:=ry;exact eq_int (aV I q qD)
  | str j=>obtain⟨t',rfl⟩:=ry;exact PySem.EqMixed.eq_int_str (aV I q (by simp))
  | _=>exact absurd (show false=true from hs) AO
 | str i=>
  obtain⟨t,rfl⟩:=rx
  cases y with
  | non=>cases ry;exact PySem.EqNone.eq_str_none (aV I q (by simp))
  | bl j=>cases ry;exact PySem.EqMixed.eq_str_bool (aV I q (by simp))
  | int j=>obtain⟨t',rfl⟩:=ry;exact PySem.EqMixed.eq_str_int (aV I q (by simp))
  | str j=>obtain⟨t',rfl⟩:=ry;exact eq_str (aV I q qE)
  | _=>exact absurd (show false=true from hs) AO
 | byt i=>
  obtain⟨t,rfl⟩:=rx
  cases y with
  | byt j=>obtain⟨t',rfl⟩:=ry;exact PySem.W.eq_bytes (aV I q qF)
  | _=>exact absurd (show false=true from hs) AO
 | _=>cases y<;>exact absurd (show false=true from hs) AO
theorem gE:fk X (compareOp .NotEq) Aj:=by
 intro pins s σ H x y v u Q I rx ry h
 obtain⟨hs,q⟩:=h
 cases x with
 | non=>
  cases rx
  cases y with
  | non=>cases ry;exact PySem.EqNone.ne_none_none (aV I q (by simp))
  | bl j=>cases ry;exact PySem.EqNone.ne_none_bool (aV I q (by simp))
  | int j=>obtain⟨t',rfl⟩:=ry;exact PySem.EqNone.ne_none_int (aV I q (by simp))
  | str j=>obtain⟨t',rfl⟩:=ry;exact PySem.EqNone.ne_none_str (aV I q (by simp))
  | _=>exact absurd (show false=true from hs) AO
 | bl i=>
  cases rx
  cases y with
  | non=>cases ry;exact PySem.EqNone.ne_bool_none (aV I q (by simp))
  | bl j=>cases ry;exact ne_bool (aV I q (congrArg not t9))
  | str j=>obtain⟨t',rfl⟩:=ry;exact PySem.EqMixed.ne_bool_str (aV I q (by simp))
  | _=>exact absurd (show false=true from hs) AO
 | int i=>
  obtain⟨t,rfl⟩:=rx
  cases y with
  | non=>cases ry;exact PySem.EqNone.ne_int_none (aV I q (by simp))
  | int j=>obtain⟨t',rfl⟩:=ry;exact ne_int (aV I q (congrArg not qD))
  | str j=>obtain⟨t',rfl⟩:=ry;exact PySem.EqMixed.ne_int_str (aV I q (by simp))
  | _=>exact absurd (show false=true from hs) AO
 | str i=>
  obtain⟨t,rfl⟩:=rx
  cases y with
  | non=>cases ry;exact PySem.EqNone.ne_str_none (aV I q (by simp))
  | bl j=>cases ry;exact PySem.EqMixed.ne_str_bool (aV I q (by simp))
  | int j=>obtain⟨t',rfl⟩:=ry;exact PySem.EqMixed.ne_str_int (aV I q (by simp))
  | str j=>obtain⟨t',rfl⟩:=ry;exact ne_str (aV I q (congrArg not qE))
  | _=>exact absurd (show false=true from hs) AO
 | byt i=>
  obtain⟨t,rfl⟩:=rx
  cases y with
  | byt j=>obtain⟨t',rfl⟩:=ry;exact PySem.W.ne_bytes (aV I q (congrArg not qF))
  | _=>exact absurd (show false=true from hs) AO
 | _=>cases y<;>exact absurd (show false=true from hs) AO
theorem di:fk X (compareOp .Lt) (wY fun i j=> .bl (decide (i<j))):=vM fun _ _ _ _ _ _ _ q=>lt_int q
theorem jk:fk X (compareOp .LtE) (wY fun i j=> .bl (decide (i<=j))):=vM fun _ _ _ _ _ _ _ q=>le_int q
theorem qG:fk X (compareOp .Gt) (wY fun i j=> .bl (decide (j<i))):=vM fun _ _ _ _ _ _ _ q=>gt_int q
theorem qH:fk X (compareOp .GtE) (wY fun i j=> .bl (decide (j<=i))):=vM fun _ _ _ _ _ _ _ q=>ge_int q
theorem pI:fk X (compareOp .Is) (fun x y H Q=>y= .non/\Q (.bl (decide (x= .non))) H):=by
 intro pins s σ H x y v u Q I rx ry h
 obtain⟨rfl,q⟩:=h
 cases ry
 refine is_none_gen (aV I q ?_)
 cases x<;>first
  | (cases rx;rfl)
  | (obtain⟨t,rfl⟩:=rx;rfl)
theorem vN:fk X (compareOp .IsNot) (fun x y H Q=>y= .non/\Q (.bl (!decide (x= .non))) H):=by
 intro pins s σ H x y v u Q I rx ry h
 obtain⟨rfl,q⟩:=h
 cases ry
 refine isnot_none_gen (aV I q ?_)
 cases x<;>first
  | (cases rx;rfl)
  | (obtain⟨t,rfl⟩:=rx;rfl)
theorem aw (b:Expr) {op:CmpOp} (h:op≠ .In:=by decide) (h2:op≠ .NotIn:=by decide):behindInMarks op b=false:=by
 have e1:(op==CmpOp.In)=false:=by cases op<;>first | rfl | exact absurd rfl h
 have e2:(op==CmpOp.NotIn)=false:=by cases op<;>first | rfl | exact absurd rfl h2
 cases b<;>simp[behindInMarks,e1,e2]
theorem bY {op:CmpOp} {r:R2} (ho:fk X (compareOp op) r) (ha:PE X a ta) (hb:PE X b tb) (hm:behindInMarks op b=false):PE X (.Compare a [op] [b] pos) (za r ta tb):=by
 intro pins s σ H Q I h
 exact wpAny_Compare1 (xv ha hb I h fun v u s2 x y H2 I2 rx ry q=>ho pins s2 σ H2 x y v u Q I2 rx ry q) hm
def wZ (t:TE):TT:=fun σ H Q=>t σ H fun x H'=>∃k,x= .bl k/\Q k H'
theorem av {op:CmpOp} {r:R2} (ho:fk X (compareOp op) r) (ha:PE X a ta) (hb:PE X b tb) (hm:behindInMarks op b=false):PT X (.Compare a [op] [b] pos) (wZ (za r ta tb)):=by
 intro pins s σ H Q I h
 refine wpAny_isTrue_Compare1 (bK (ha pins s σ H _ I h) fun v s1 h1=>?_) hm
 obtain⟨x,H1,I1,r1,q1⟩:=h1
 refine bK (hb pins s1 σ H1 _ I1 q1) fun u s2 h2=>?_
 obtain⟨y,H2,I2,r2,q2⟩:=h2
 refine bK (ho pins s2 σ H2 x y v u _ I2 r1 r2 q2) fun c s3 h3=>?_
 obtain⟨z,H3,I3,r3,k,e,q3⟩:=h3
 subst e
 cases r3
 exact wpAny_truthy_bool ⟨H3,I3,q3⟩
def ub (r r':R2) (ta tb tc:TE):TE:=fun σ H Q=>ta σ H fun x H1=>tb σ H1 fun y H2=>r x y H2 fun z H3=>∃k,z= .bl k/\
 (if k=true then tc σ H3 fun w' H4=>r' y w' H4 Q else Q (.bl false) H3)
theorem jX {op op':CmpOp} {r r':R2} (ho:fk X (compareOp op) r) (ho':fk X (compareOp op') r') (ha:PE X a ta) (hb:PE X b tb) (hc:PE X c tc)
  (hm:lastMarks [op,op'] [b,c]=false:=by with_unfolding_all rfl):PE X (.Compare a [op,op'] [b,c] pos) (ub r r' ta tb tc):=by
 intro pins s σ H Q I h
 refine Compare_chain (bK (ha pins s σ H _ I h) fun v s1 h1=>?_) hm
 obtain⟨x,H1,I1,r1,q1⟩:=h1
 refine chain_link (bK (hb pins s1 σ H1 _ I1 q1) fun u s2 h2=>?_)
 obtain⟨y,H2,I2,r2,q2⟩:=h2
 refine bK (ho pins s2 σ H2 x y v u _ I2 r1 r2 q2) fun d s3 h3=>?_
 obtain⟨z,H3,I3,r3,k,e,q3⟩:=h3
 subst e
 cases r3
 refine wpAny_truthy_bool ?_
 cases k with
 | false=>exact ite_ff ⟨.bl false,H3,I3,rfl,q3⟩
 | true=>
  refine ite_tt (chain_last (bK (hc pins s3 σ H3 _ I3 q3) fun w' s4 h4=>?_))
  obtain⟨z',H4,I4,r4,q4⟩:=h4
  exact ho' pins s4 σ H4 y z' u w' Q I4 r2 r4 q4
theorem jY {op op':CmpOp} {r r':R2} (ho:fk X (compareOp op) r) (ho':fk X (compareOp op') r') (ha:PE X a ta) (hb:PE X b tb) (hc:PE X c tc)
  (hm:lastMarks [op,op'] [b,c]=false:=by with_unfolding_all rfl):PT X (.Compare a [op,op'] [b,c] pos) (wZ (ub r r' ta tb tc)):=by
 intro pins s σ H Q I h
 refine isTrue_chain (bK (ha pins s σ H _ I h) fun v s1 ⟨x,H1,I1,r1,q1⟩=>test_link (bK (hb pins s1 σ H1 _ I1 q1) fun u s2 ⟨y,H2,I2,r2,q2⟩=>
  bK (ho pins s2 σ H2 x y v u _ I2 r1 r2 q2) fun d s3 ⟨z,H3,I3,r3,k,e,q3⟩=>?_)) hm
 subst e
 cases r3
 refine wpAny_truthy_bool ?_
 cases k with
 | false=>
  obtain⟨k',e',q'⟩:=q3
  cases e'
  exact ite_ff ⟨H3,I3,q'⟩
 | true=>
  refine ite_tt (test_last (bK (hc pins s3 σ H3 _ I3 q3) fun w' s4 ⟨z',H4,I4,r4,q4⟩=>bK (ho' pins s4 σ H4 y z' u w' _ I4 r2 r4 q4) fun d' s5 hq__=>?_))
  obtain⟨z2,H5,I5,r5,k2,e2,q5⟩:=hq__
  subst e2
  cases r5
  exact wpAny_truthy_bool ⟨H5,I5,q5⟩
def zx (K:PySem.W.Frag) (x:V) (H:Hp) (k:Bool):Prop:=
 match x with
 | .non=>k=false
 | .bl b=>k=b
 | .int i=>k=(i != 0)
 | .str y=>y.length<=sizeLine/\k=((y.length:Int) != 0)
 | .byt y=>y.size<=sizeLine/\k=((y.size:Int) != 0)
 | .ref p=>(∃xs,SqL K H p xs/\k= !xs.isEmpty)\/(∃xs,SqT K H p xs/\k= !xs.isEmpty)\/∃kvs,H p=some (.dK kvs)/\k= !kvs.isEmpty
 | _=>False
theorem pJ {κ:Type} {kvs:List (κ×V)} {vs:List (κ×Value)} (r:KV kvs vs):(!vs.isEmpty)= !kvs.isEmpty:=by
 cases r<;>rfl
theorem jZ {xs:List V} {its:List Value} (r:Vals xs its):(!its.toArray.isEmpty)= !xs.isEmpty:=by
 cases r<;>simp
theorem j3:(sizeLine:Nat)<2^63:=by rw[sizeLine_eq];decide
theorem zy:zw X (fun x H Q=>∃k,zx X.K x H k/\Q k H):=by
 intro pins s σ H x v Q I rx h
 obtain⟨k,e,q⟩:=h
 have hl:=j3
 have hs:sizeLine=16777216:=sizeLine_eq
 cases x with
 | non=>
  cases rx
  have e':k=false:=e
  subst e'
  exact truthy_none ⟨H,I,q⟩
 | bl b=>
  cases rx
  have e':k=b:=e
  subst e'
  exact wpAny_truthy_bool ⟨H,I,q⟩
 | int i=>
  obtain⟨t,rfl⟩:=rx
  have e':k=(i != 0):=e
  subst e'
  exact PySem.P.truthy_int ⟨H,I,q⟩
 | str y=>
  obtain⟨t,rfl⟩:=rx
  obtain⟨hy,e'⟩:y.length<=sizeLine/\k=((y.length:Int) != 0):=e
  subst e'
  exact PySem.P.truthy_str (by omega) ⟨H,I.tok _,q⟩
 | byt y=>
  obtain⟨t,rfl⟩:=rx
  obtain⟨hy,e'⟩:y.size<=sizeLine/\k=((y.size:Int) != 0):=e
  subst e'
  exact PySem.W.truthy_bytes (by omega) ⟨H,I.tok _,q⟩
 | ref p=>
  cases rx
  have e':(∃xs,SqL X.K H p xs/\k= !xs.isEmpty)\/(∃xs,SqT X.K H p xs/\k= !xs.isEmpty)\/∃kvs,H p=some (.dK kvs)/\k= !kvs.isEmpty:=e
  rcases e' with⟨xs,hx,e'⟩ | ⟨xs,hx,e'⟩ | ⟨kvs,hx,e'⟩
  ·subst e'
   obtain⟨its,r,pl,hz⟩:=I.list hx
   have hlen:=r.length
   exact wpAny_truthy_list pl.isList (by simp only[AM];omega) ⟨H,I.tok _,by rw[jZ r];exact q⟩
  ·subst e'
   obtain⟨its,r,pl,hz⟩:=I.tuple hx
   have hlen:=r.length
   exact truthy_tuple pl (by simp only[AM];omega) ⟨H,I.tok _,by rw[jZ r];exact q⟩
  ·subst e'
   obtain⟨hz,hS,vs,r,m⟩:kvs.length<=sizeLine/\(p==sysModules)=false/\∃vs,KV kvs vs/\s.heap.DictOf (bq X.prog X.w) p vs:=I.hok p _ hx
   have hlen:kvs.length=vs.length:=Paired.length r
   exact wpAny_truthy_dict hS m (by omega) ⟨H,I.tok _,by rw[pJ r];exact q⟩
 | _=>exact(show False from e).elim
theorem eA {x:V} {us:List Value} (r:Vals [x] us):∃u,us=[u]/\RelV x u:=by
 cases r with
 | cons r1 r2=>cases r2;exact⟨_,rfl,r1⟩
theorem qI {x y:V} {us:List Value} (r:Vals [x,y] us):∃u w',us=[u,w']/\RelV x u/\RelV y w':=by
 cases r with
 | cons r1 r2=>
  cases r2 with
  | cons r3 r4=>cases r4;exact⟨_,_,rfl,r1,r3⟩
theorem lI (hc:X.calm=true):cu X (.builtin "max") (fun xs H Q=>∃i j,xs=[.int i,.int j]/\Q (.int (if j>i then j else i)) H):=by
 intro pins s σ H xs us Q I r h
 obtain⟨i,j,rfl,q⟩:=h
 obtain⟨u,w',rfl,⟨t,rfl⟩,⟨t',rfl⟩⟩:=qI r
 refine max_two_ints (I.ok.hd hc) fun h' tk k=>⟨_,H,I.kept k,?_,q⟩
 by_cases hj:j>i
 ·rw [if_pos hj,if_pos hj];exact⟨_,rfl⟩
 ·rw [if_neg hj,if_neg hj];exact⟨_,rfl⟩
theorem rK (hc:X.calm=true):cu X (.builtin "min") (fun xs H Q=>∃i j,xs=[.int i,.int j]/\Q (.int (if j<i then j else i)) H):=by
 intro pins s σ H xs us Q I r h
 obtain⟨i,j,rfl,q⟩:=h
 obtain⟨u,w',rfl,⟨t,rfl⟩,⟨t',rfl⟩⟩:=qI r
 refine min_two_ints (I.ok.hd hc) fun h' tk k=>⟨_,H,I.kept k,?_,q⟩
 by_cases hj:j<i
 ·rw [if_pos hj,if_pos hj];exact⟨_,rfl⟩
 ·rw [if_neg hj,if_neg hj];exact⟨_,rfl⟩
def yE (K:PySem.W.Frag) (x:V) (H:Hp) (n:Nat):Prop:=
 match x with
 | .str y=>y.length<=sizeLine/\n=y.length
 | .byt y=>y.size<=sizeLine/\n=y.size
 | .ref p=>(∃xs,SqL K H p xs/\n=xs.length)\/∃xs,SqT K H p xs/\n=xs.length
 | _=>False
theorem uc:cu X (.builtin "len") (fun xs H Q=>∃x n,xs=[x]/\yE X.K x H n/\Q (.int n) H):=by
 intro pins s σ H xs us Q I r h
 obtain⟨x,n,rfl,e,q⟩:=h
 obtain⟨u,rfl,rx⟩:=eA r
 have hl:=j3
 have hs:sizeLine=16777216:=sizeLine_eq
 cases x with
 | str y=>
  obtain⟨t,rfl⟩:=rx
  obtain⟨hy,e'⟩:y.length<=sizeLine/\n=y.length:=e
  subst e'
  exact len_str (by omega) ⟨.int _,H,I.tok _,⟨_,rfl⟩,q⟩
 | byt y=>
  obtain⟨t,rfl⟩:=rx
  obtain⟨hy,e'⟩:y.size<=sizeLine/\n=y.size:=e
  subst e'
  exact PySem.W.len_bytes (by omega) ⟨.int _,H,I.tok _,⟨_,rfl⟩,q⟩
 | ref p=>
  cases rx
  have e':(∃xs,SqL X.K H p xs/\n=xs.length)\/∃xs,SqT X.K H p xs/\n=xs.length:=e
  rcases e' with⟨xs,hx,e'⟩ | ⟨xs,hx,e'⟩
  ·subst e'
   obtain⟨its,r',pl,hz⟩:=I.list hx
   have hlen:=r'.length
   exact Calls.call_len_list pl.isList (by simp only[AM];omega) ⟨.int xs.length,H,I.tok _,⟨_,by simp only[AM];rw[hlen]⟩,q⟩
  ·subst e'
   obtain⟨its,r',pl,hz⟩:=I.tuple hx
   have hlen:=r'.length
   exact len_tuple pl (by simp only[AM];omega) ⟨.int xs.length,H,I.tok _,⟨_,by simp only[AM];rw[hlen]⟩,q⟩
 | _=>exact(show False from e).elim
end
structure ObjM (h:Heap) (x dx C:Addr) (mA:Str->Option Value):Prop where
 obj:h.get? x=some (PySem.W.instObj C dx)
 ns:h.Ns1 dx mA
 ne:dx≠x
theorem rL {h:Heap} {dx:Addr} {mA:Str->Option Value} (n:h.Ns1 dx mA):∃od,h.get? dx=some od/\∀name,PySem.W.lookIn name od=some (mA name):=by
 obtain⟨o,es,ep,ho,hd,hk,_,hm⟩:=n
 refine⟨o,ho,fun name=>?_⟩
 have e:=hm name
 unfold nsFind findBy at e
 rw[<- Array.find?_toList]at e
 unfold PySem.W.lookIn
 rw[hd]
 dsimp only
 split
 ·rename_i y q
  rw[q]at e
  exact congrArg some e
 ·rename_i q
  rw[q]at e
  have a:es.toList.any (·.refKey)=false:=by
   rw[List.any_eq_false]
   intro y hy
   obtain⟨z,t,hkey⟩:=hk y (Array.mem_toList_iff.mp hy)
   simp[DictEntry.refKey,hkey]
  have a':¬es.toList.any (·.refKey)=true:=by rw[a];exact AO
  rw[if_neg a']
  exact congrArg some e
theorem ObjM.look {h:Heap} {x dx C:Addr} {mA:Str->Option Value} (I:ObjM h x dx C mA):∃od,PySem.W.InstAt h x (PySem.W.instObj C dx) C (some od)/\∀name,PySem.W.lookIn name od=some (mA name):=
 let⟨od,ho,hl⟩:=rL I.ns
 ⟨od,⟨I.obj,rfl,rfl,ho⟩,hl⟩
section
variable {prog:Program} {w:World} {A:Around} {E:Value->Shared->Prop} {s:Shared} {K:PySem.W.Frag} {x dx C f:Addr} {mA:Str->Option Value} {name:Str} {v:Value}
end
theorem RelO.some_of {v:V} {o:Option Value} (r:RelO (some v) o):∃u,o=some u/\RelV v u:=by
 cases o with
 | none=>exact(show False from r).elim
 | some u=>exact⟨u,rfl,r⟩
section
variable {P:Program} {w:World} {H H':Hp} {h h':Heap} {a C dx:Addr} {fs fs':List (Str×V)}
theorem vO (hok:HOk P w H h) (e:H a=some (.ins C dx fs)):∃mA,ObjM h a dx C mA/\(∀f,RelO (fs.lookup f) (mA f))/\PySem.Within mA (fs.map (·.1))/\fs.length<=1000/\H dx=some (.own a):=by
 obtain⟨d,z,ne,ob,mA,n,r,q⟩:=(show ObjOk P w H h a (.ins C dx fs)from hok a _ e)
 exact⟨mA,⟨ob,n,ne⟩,r,q,z,d⟩
end
structure Cls (K:PySem.W.Frag) (C:Addr):Prop where
 pg:PySem.W.plainGet K C Str.empty=true
 hd:PySem.W.hasDictIn K C=true
 po:PySem.W.plainOver K C=true
 sa:PySem.W.findIn K (.ref C) "__setattr__"=some (some (.builtin "object.__setattr__"))
theorem Cls.get {K:PySem.W.Frag} {C:Addr} (c:Cls K C) (f:Str):PySem.W.plainGet K C f=true:=c.pg
section
variable {X:Cx} {pins:List (Addr×Obj)} {σ:St} {H:Hp} {s:Shared} {a C dx:Addr} {fs:List (Str×V)} {f:Str} {v:V} {A:Around} {E:Value->Shared->Prop}
end
section
variable {X:Cx} {o e value:Expr} {f:Str} {pos pos' tpos:Pos} {ta tv:TE}
end
section
variable {X:Cx} {pins:List (Addr×Obj)} {σ:St} {H:Hp} {s:Shared} {A:Around} {E:Value->Shared->Prop} {Q:Value->Shared->Prop} {c:Value} {b:Bool}
inductive TyOf (K:PySem.W.Frag) (H:Hp):V->Value->Prop where
 | non:TyOf K H .non (.type "NoneType")
 | bl (x:Bool):TyOf K H (.bl x) (.type "bool")
 | int (i:Int):TyOf K H (.int i) (.type "int")
 | str (x:Str):TyOf K H (.str x) (.type "str")
 | flt (x:UInt64):TyOf K H (.flt x) (.type "float")
 | lst {a:Addr} {xs:List V} (e:H a=some (.lst xs)):TyOf K H (.ref a) (.type "list")
 | frz {a:Addr} {o:Obj} {xs:List V} (e:H a=some (.frz o (.lst xs))):TyOf K H (.ref a) (.type "list")
 | tup {a:Addr} {xs:List V} (e:H a=some (.tup xs)):TyOf K H (.ref a) (.type "tuple")
 | dK {a:Addr} {kvs:List (dJ×V)} (e:H a=some (.dK kvs)):TyOf K H (.ref a) (.type "dict")
 | dT {a:Addr} {kvs:List (List dJ×V)} (e:H a=some (.dT kvs)):TyOf K H (.ref a) (.type "dict")
 | ins {a C dx:Addr} {fs:List (Str×V)} (e:H a=some (.ins C dx fs)) (cl:Cls K C) (ha:PySem.W.findIn K (.ref C) "__class__"=some (some (.builtin "object.__class__")))
  (hn:PySem.W.specialIn K (.builtin "object.__class__") "__get__"=some (some (.builtin "getset_descriptor.__get__"))) (htk:PySem.W.takesIn K (.builtin "object.__class__")=some true)
  (hm:PySem.W.mroIn K C (.type "object")=some true):TyOf K H (.ref a) (.ref C)
theorem rM {x:V} {u t:Value} (I:Inv X pins σ H s) (rx:RelV x u) (ty:TyOf X.K H x t) (e:PySem.W.kitOne X.K t c=some b) (h:∀tk,Q (.bool b) {s with toks:=tk}):
  wpAny (model X.prog X.w) A (call (.builtin "isinstance") [u,c]) Q E s:=by
 cases ty with
 | non=>cases(show u=Value.none from rx);exact PySem.W.kia_one PySem.W.kitx_none I.kIn True.intro e (fun z=>nomatch z) h
 | bl y=>cases(show u=Value.bool y from rx);exact PySem.W.kia_one PySem.W.kitx_bool I.kIn True.intro e (fun z=>nomatch z) h
 | int i=>obtain⟨t,q⟩:=(show ∃t,u=Value.int i t from rx);cases q;exact PySem.W.kia_one PySem.W.kitx_int I.kIn True.intro e (fun z=>nomatch z) h
 | str y=>obtain⟨t,q⟩:=(show ∃t,u=Value.str y t from rx);cases q;exact PySem.W.kia_one PySem.W.kitx_str I.kIn True.intro e (fun z=>nomatch z) h
 | flt y=>obtain⟨t,q⟩:=(show ∃t,u=Value.float y t from rx);cases q;exact PySem.W.kia_one PySem.W.kitx_float I.kIn True.intro e (fun z=>nomatch z) h
 | @lst a xs ea=>
  cases(show u=Value.ref a from rx)
  obtain⟨_,_,n,_,h1⟩:=(show ObjOk X.prog X.w H s.heap a (.lst xs)from I.hok a _ ea)
  exact PySem.W.kia_one PySem.W.kitx_list I.kIn ⟨_,h1,rfl⟩ e (fun z=>nomatch z) h
 | @frz a ob xs ea=>
  cases(show u=Value.ref a from rx)
  obtain⟨_,_,_,n,_,h1⟩:=(show ObjOk X.prog X.w H s.heap a (.frz ob (.lst xs))from I.hok a _ ea)
  exact PySem.W.kia_one PySem.W.kitx_list I.kIn ⟨_,h1,rfl⟩ e (fun z=>nomatch z) h
 | @tup a xs ea=>
  cases(show u=Value.ref a from rx)
  obtain⟨_,_,_,p⟩:=(show ObjOk X.prog X.w H s.heap a (.tup xs)from I.hok a _ ea)
  obtain⟨o,h1,h2,_⟩:=p
  exact PySem.W.kia_one PySem.W.kitx_tuple I.kIn ⟨o,h1,h2⟩ e (fun z=>nomatch z) h
 | @dK a kvs ea=>
  cases(show u=Value.ref a from rx)
  obtain⟨_,_,vs,_,p⟩:=(show ObjOk X.prog X.w H s.heap a (.dK kvs)from I.hok a _ ea)
  obtain⟨o,es,ep,h1,h2,_⟩:=p
  exact PySem.W.kia_one PySem.W.kitx_dict I.kIn ⟨o,h1,h2.1⟩ e (fun z=>nomatch z) h
 | @dT a kvs ea=>
  cases(show u=Value.ref a from rx)
  obtain⟨_,_,xs,_,o,es,ep,h1,h2,_⟩:=(show ObjOk X.prog X.w H s.heap a (.dT kvs)from I.hok a _ ea)
  exact PySem.W.kia_one PySem.W.kitx_dict I.kIn ⟨o,h1,h2.1⟩ e (fun z=>nomatch z) h
 | @ins a C dx fs ea cl ha hn htk hm=>
  cases(show u=Value.ref a from rx)
  obtain⟨mA,O,_⟩:=vO I.hok ea
  obtain⟨od,J,_⟩:=O.look
  exact PySem.W.kia_one (PySem.W.kitx_own (cl.get _) cl.hd ha hn htk hm) I.kIn J e (fun z=>nomatch z) h
end
structure Room (k:Nat) (A:Around):Prop where
 hd:A.handled=none
 dp:A.depth+3*k+5<recursionLimit
 un:A.units+16*k+200<cLine
theorem Room.mono {j k:Nat} {A:Around} (r:Room k A) (h:j<=k):Room j A:=⟨r.hd,Ci (Nat.add_le_add_right (Ct (Nat.mul_le_mul_left 3 h) _) 5) r.dp,Ci (Nat.add_le_add_right (Ct (Nat.mul_le_mul_left 16 h) _) 200) r.un⟩
theorem Room.deeper {k:Nat} {A:Around} (r:Room (k+1) A) (env:Env):Room k (A.deeper env):=
 ⟨r.hd,by have:=r.dp;show A.depth+1+3*k+5<_;omega,by have:=r.un;show A.units+3+16*k+200<_;omega⟩
theorem Room.depth {k:Nat} {A:Around} (r:Room k A):A.depth<recursionLimit:=by have:=r.dp;omega
theorem Room.units {k:Nat} {A:Around} (r:Room k A):A.units+64<cLine:=by have:=r.un;omega
def zz:TA:=fun _ H Q=>Q [] H
def yF (ta:TE) (tr:TA):TA:=fun σ H Q=>ta σ H fun x H1=>tr σ H1 fun xs H2=>Q (x :: xs) H2
section
variable {X:Cx} {e:Expr} {es:List Expr} {te:TE} {t:TA} {pos:Pos}
theorem ab:PA X [] zz:=fun _ _ _ _ H Q I h=>Calls.spliced_nil ⟨[],H,I,.nil,h⟩
theorem aa (ha:PE X e te) (hr:PA X es t) (hs:starEach (e :: es) X.env=(false,eval e X.env) :: starEach es X.env:=by rfl):PA X (e :: es) (yF te t):=by
 intro pos pins s σ H Q I h
 rw[hs]
 show wpAny _ _ (spliced ((false,eval e X.env) :: backTo pos (starEach es X.env))) _ _ s
 refine Calls.spliced_cons (bK (ha pins s σ H _ I h) fun u s1 hq__=>?_)
 obtain⟨x,H1,I1,r1,q1⟩:=hq__
 exact bK (hr pos pins s1 σ H1 _ I1 q1) fun us s2 ⟨xs,H2,I2,r2,q2⟩=>⟨x :: xs,H2,I2,.cons r1 r2,q2⟩
def zA (t:TA):TE:=fun σ H Q=>t σ H fun xs H1=>xs.length<=sizeLine/\∀p,H1 p=none->Q (.ref p) (ay H1 p (.tup xs))
def zB (t:TA):TE:=fun σ H Q=>t σ H fun xs H1=>xs.length<=sizeLine/\∀p,H1 p=none->Q (.ref p) (ay H1 p (.lst xs))
theorem aM {x1} (h:PA X es t):PE X (.Tuple es x1 pos) (zA t):=by
 intro pins s σ H Q I hq
 refine wpAny_Tuple_spliced (bK (h pos pins s σ H _ I hq) fun us s1 ⟨xs,H1,I1,r,z,q⟩=>⟨by rw[<- r.length];exact z,?_⟩)
 have hf:H1 s1.heap.objs.size=none:=I1.hok.fresh (AI _)
 refine⟨.ref s1.heap.objs.size,ay H1 s1.heap.objs.size (.tup xs),I1.laid (t':=s1.toks) (fun b u e=>Heap.get?_push_of_some _ e) (AI _) ?_,rfl,q _ hf⟩
 exact⟨z,us,r,⟨_,Heap.get?_push_size _ rfl,rfl,_,rfl⟩⟩
theorem aA (h:PA X es t):PE X (.List es pos) (zB t):=by
 intro pins s σ H Q I hq
 refine wpAny_List_spliced (bK (h pos pins s σ H _ I hq) fun us s1 ⟨xs,H1,I1,r,z,q⟩=>⟨by rw[<- r.length];exact z,?_⟩)
 have hf:H1 s1.heap.objs.size=none:=I1.hok.fresh (AI _)
 refine⟨.ref s1.heap.objs.size,ay H1 s1.heap.objs.size (.lst xs),I1.laid (t':=s1.toks) (fun b u e=>Heap.get?_push_of_some _ e) (AI _) ?_,rfl,q _ hf⟩
 exact⟨z,us,0,r,Heap.get?_push_size _ rfl⟩
end
abbrev Sp:=List V->Hp->VK->XK->Prop
abbrev tW:=List Env->Hp->Shared->XK->Value->Shared->Prop
structure Env0 (P:Program) (w:World) (K:PySem.W.Frag) (mg:Str->Option Value) (base:Heap) (A:Around) (outer:List Env) (s:Shared) (H:Hp):Prop where
 frames:A.frames=some outer
 mod:Mod K mg base
 bs:∀b o,base.get? b=some o->s.heap.get? b=some o/\H b=none
 bsz:base.objs.size<=s.heap.objs.size
 funs:s.heap.FunFrames base outer
 frf:∀b∈ig outer,H b=none
 hok:HOk P w H s.heap
 bare:AllBare s.gens
def CE (outer:List Env) (P:Program) (w:World) (H:Hp) (s:Shared) (Q:VK) (u:Value) (s':Shared):Prop:=
 ∃v H',s'.os=s.os/\AllBare s'.gens/\Un (ig outer) [] H H' s.heap s'.heap/\HOk P w H' s'.heap/\RelV v u/\Q v H'
def CR (CX:tW) (outer:List Env) (P:Program) (w:World) (H:Hp) (s:Shared) (Q:VK) (E:XK) (r:Result) (s':Shared):Prop:=
 match r with
 | .ok (.ret u)=>CE outer P w H s Q u s'
 | .ok _=>False
 | .error e=>CX outer H s E e s'
structure FnOk (P:Program) (w:World) (K:PySem.W.Frag) (mg:Str->Option Value) (base:Heap) (CX:tW) (k:Nat) (f:Addr) (fd:FuncData) (ps:List Str) (sp:Sp):Prop where
 len:∀vs H Q E,sp vs H Q E->vs.length=ps.length
 run:∀(A:Around) (outer:List Env) (s:Shared) (H:Hp) (args:Args) (us:List Value) (vs:List V) (Q:VK) (E:XK),Room k A->Env0 P w K mg base A outer s H->BindsTo s fd args (ps.zip us)->Vals vs us->sp vs H Q E->
  codeAny (model P w) A (.call (.ref f) args) (CR CX outer P w H s Q E) s
section
variable {X:Cx} {pins:List (Addr×Obj)} {σ:St} {H:Hp} {s s':Shared}
theorem Inv.env0 (I:Inv X pins σ H s):Env0 X.prog X.w X.K X.mg X.base X.A X.stack s H:=
 ⟨I.ok.frames,I.ok.mod,I.bs,A9 I.ok.bsz I.sz,I.stack,I.stkFree,I.hok,I.bare⟩
theorem Inv.after {Q:VK} {u:Value} (I:Inv X pins σ H s) (h:CE X.stack X.prog X.w H s Q u s'):EP X pins σ Q u s':=by
 obtain⟨v,H',os,bare,un,hok,r,q⟩:=h
 obtain⟨hh,g,d,t,os'⟩:=s'
 obtain rfl:os'=s.os:=os
 exact⟨v,H',I.call (h':=hh) (g':=g) (d':=d) (t':=t) (ch:=[]) un hok bare (fun b z=>absurd z (by simp)),r,q⟩
end
def w4 (sp:Sp) (dvs:List V) (E:XK) (t:TA):TE:=fun σ H Q=>t σ H fun vs H1=>sp (vs++dvs) H1 Q E
def Binds (K:PySem.W.Frag) (fd:FuncData) (ps:List Str) (ds:List Value):Prop:=
 ∀(s:Shared) (us:List Value),K.In s.heap->(us++ds).length=ps.length->BindsTo s fd ⟨us,[]⟩ (ps.zip (us++ds))
theorem Binds.all {K:PySem.W.Frag} {fd:FuncData} {ps:List Str} (h:∀us:List Value,us.length=ps.length->bindArgs fd ⟨us,[]⟩=pure (ps.zip us)):Binds K fd ps []:=fun s us _ hl=>by
 rw[BX]at hl ⊢
 exact .of_eq (h us hl)
def pK (CX:tW) (X:Cx) (E:XK):Prop:=∀(pins:List (Addr×Obj)) (σ:St) (H:Hp) (s:Shared) (e:Value) (s':Shared),Inv X pins σ H s->CX X.stack H s E e s'->X.xe e s'
section
variable {X:Cx} {CX:tW} {k:Nat} {f C:Addr} {fd:FuncData} {ps:List Str} {sp:Sp} {dvs:List V} {ds:List Value} {E:XK} {x m:Str} {p pos apos:Pos} {e o:Expr} {es:List Expr} {ta:TE} {t:TA}
theorem xx {pins:List (Addr×Obj)} {σ:St} {H:Hp} {s:Shared} {Q:VK} {us:List Value} {vs:List V} (F:FnOk X.prog X.w X.K X.mg X.base CX k f fd ps sp) (hr:Room k X.A) (hb:Binds X.K fd ps ds) (hd:Vals dvs ds) (hx:pK CX X E)
  (I:Inv X pins σ H s) (r:Vals vs us) (h:sp (vs++dvs) H Q E):wpAny (model X.prog X.w) X.A (call (.ref f) us) (EP X pins σ Q) X.xe s:=by
 have r2:Vals (vs++dvs) (us++ds):=r.append hd
 have hl:(us++ds).length=ps.length:=by rw[<- r2.length];exact F.len _ _ _ _ h
 refine wpAny_call (codeAny_mono (F.run X.A X.stack s H ⟨us,[]⟩ (us++ds) (vs++dvs) Q E hr I.env0 (hb s us I.kIn hl) r2 h) fun r s' hq=>?_)
 cases r with
 | error e=>exact hx pins σ H s e s' I hq
 | ok fl=>
  cases fl with
  | ret u=>exact I.after hq
  | next=>exact False.elim hq
  | brk=>exact False.elim hq
  | cont=>exact False.elim hq
theorem vP (F:FnOk X.prog X.w X.K X.mg X.base CX k f fd ps sp) (hr:Room k X.A) (hg:Gl X x) (hm:X.mg x=some (.ref f)) (hk:PySem.W.keepIn X.K (.ref f)=true) (hb:Binds X.K fd ps ds) (hd:Vals dvs ds) (hx:pK CX X E)
  (ha:PA X (e :: es) t) (hdb:(x==("__debug__":Str))=false:=by decide) (he:starEach (e :: es) X.env=(false,eval e X.env) :: starEach es X.env:=by rfl) (hpl:(backTo pos (starEach es X.env)).any (·.1)=false:=by rfl):
  PE X (.Call (.Name x p) (e :: es) [] pos) (w4 sp dvs E t):=by
 intro pins s σ H Q I h
 refine wpAny_Call_Name_kw (vJ I hg hm ?_ hdb)
 refine PySem.W.callWith_K (h₀:=X.base) I.ok.mod.kin hk (bK (ha pos pins s σ H _ I h) fun us s1 ⟨vs,H1,I1,r,q⟩=>⟨I1.kIn,?_⟩) he hpl
 exact xx F hr hb hd hx I1 r q
end
section
variable {X:Cx} {CX:tW} {k:Nat} {f C:Addr} {fd:FuncData} {ps ks:List Str} {sp:Sp} {E:XK} {x m:Str} {p pos apos kpos:Pos} {e o:Expr} {es:List Expr} {kws:List Keyword} {te ta:TE} {t tk:TA} {nm:Option Str}
variable {g:List Value->List Value->List Value} {gV:List V->List V->List V}
end
structure FnScope (N P:List Str) (sc:Scope):Prop where
 kind:sc.kind= .function
 co:sc.isCoroutine=false
 gen:sc.isGenerator=false
 nd:N.Nodup
 pre:N.take P.length=P
 par:∀x∈P,sc.names.lookup x=some .local\/sc.names.lookup x=some .cell
 nofree:∀y∈sc.names,y.2≠ .free
theorem lJ {kindOf:Str->Option NameKind} {x:Str}:∀{binds:List (Str×Value)} {m:Str->Option Value},(∀v,(x,v)∉binds)->bindL kindOf binds m x=m x
 | [],_,_=>rfl
 | (n,v) :: r,m,h=>by
  unfold bindL
  rw[lJ fun w hw=>h w (AY _ hw)]
  split
  ·have:x≠n:=by rintro rfl;exact h v A7
   simp[this]
  ·rfl
theorem lK {kindOf:Str->Option NameKind} {x:Str}:∀{binds:List (Str×Value)} {m:Str->Option Value},(∀v,(x,v)∉binds)->bindC kindOf binds m x=m x
 | [],_,_=>rfl
 | (n,v) :: r,m,h=>by
  unfold bindC
  rw[lK fun w hw=>h w (AY _ hw)]
  split
  ·rfl
  ·have:x≠n:=by rintro rfl;exact h v A7
   simp[this]
theorem rN {kindOf:Str->Option NameKind} {x:Str} {v:Value}:∀{P:List Str} {vs:List Value} {i:Nat} {m:Str->Option Value},P.Nodup->P[i]?=some x->vs[i]?=some v->kindOf x=some .local->
  bindL kindOf (P.zip vs) m x=some v:=by
 intro P
 induction P with
 | nil=>intro vs i m _ h;cases h
 | cons p P ih=>
  intro vs i m nd h1 h2 hk
  cases vs with
  | nil=>cases h2
  | cons w vs=>
   show bindL kindOf ((p,w) :: P.zip vs) m x=_
   unfold bindL
   cases i with
   | zero=>
    cases h1;cases h2
    rw[lJ fun v hv=>(B8.mp nd).1 (CF hv).1,if_pos hk]
    simp
   | succ i=>exact ih (B8.mp nd).2 h1 h2 hk
theorem rO {kindOf:Str->Option NameKind} {x:Str} {v:Value}:∀{P:List Str} {vs:List Value} {i:Nat} {m:Str->Option Value},P.Nodup->P[i]?=some x->vs[i]?=some v->kindOf x≠some .local->
  bindC kindOf (P.zip vs) m x=some v:=by
 intro P
 induction P with
 | nil=>intro vs i m _ h;cases h
 | cons p P ih=>
  intro vs i m nd h1 h2 hk
  cases vs with
  | nil=>cases h2
  | cons w vs=>
   show bindC kindOf ((p,w) :: P.zip vs) m x=_
   unfold bindC
   cases i with
   | zero=>
    cases h1;cases h2
    rw[lK fun v hv=>(B8.mp nd).1 (CF hv).1,if_neg hk]
    simp
   | succ i=>exact ih (B8.mp nd).2 h1 h2 hk
def jm (N:List Str) (vs:List V):St:=vs.map some++Bf (N.length-vs.length) none
def nY (CX:tW) (P:Program) (w:World) (K:PySem.W.Frag) (mg:Str->Option Value) (base:Heap) (N:List Str) (qual:Str) (scope:Scope) (f:Addr) (cd:Value) (A:Around) (outer:List Env) (s:Shared) (H:Hp) (E:XK):Cx where
 prog:=P
 w:=w
 K:=K
 mg:=mg
 base:=base
 A:=A.deeper (envOfC qual scope s.heap.objs.size f cd)
 N:=N
 s₀:=s
 H₀:=H
 env:=envOfC qual scope s.heap.objs.size f cd
 outer:=outer
 stack:=envOfC qual scope s.heap.objs.size f cd :: outer
 ex:=[]
 calm:=true
 fn:=fun _=>true
 pn:=[]
 xe:=fun e s'=>wpAny (model P w) (A.deeper (envOfC qual scope s.heap.objs.size f cd)) (leaving (envOfC qual scope s.heap.objs.size f cd) e) (fun _ s''=>CX outer H s E e s'') (fun e' s''=>CX outer H s E e' s'') s'
theorem nZ {sc:Scope} {n:Nat} {x:Str} (h:sc.names.lookup x=some .cell):∃c,(cellsFrom n sc.names []).lookup x=some c:=by
 have q:=PySem.W.cellsFrom_some sc.names n [] (.inl h)
 exact BJ.mp q
theorem rP {CX:tW} {P:Program} {w:World} {K:PySem.W.Frag} {mg:Str->Option Value} {base:Heap} {N ps:List Str} {qual:Str} {scope:Scope} {f:Addr} {cd:Value} {A:Around} {outer:List Env} {s s1:Shared} {H:Hp} {E:XK} {us:List Value} {vs:List V}
  (S:FnScope N ps scope) (hd:A.handled=none) (e0:Env0 P w K mg base A outer s H) (hl:vs.length=ps.length) (r:Vals vs us)
  (x:InCallC s s.heap.objs.size (bindL (envOfC qual scope s.heap.objs.size f cd).kindOf (ps.zip us) fun _=>none) (cellsFrom (s.heap.objs.size+1) scope.names []) (bindC (envOfC qual scope s.heap.objs.size f cd).kindOf (ps.zip us) fun _=>none) s1):
  Inv (nY CX P w K mg base N qual scope f cd A outer s H E) [] (jm N vs) H s1:=by
 have hpl:ps.length<=N.length:=by have:=congrArg List.length S.pre;rw[BE]at this;omega
 obtain⟨h1,tk,rfl,hk⟩:=x.done
 have noA:∀b:Addr,b∉(nY CX P w K mg base N qual scope f cd A outer s H E).ex:=fun b z=>absurd (show b∈([]:List Addr)from z) (by simp)
 refine⟨⟨e0.mod,S.kind,rfl,rfl,AI _,fun y z c h1 h2=>?_,fun y hy=>?_,fun y c _ h=>?_,fun _=>hd,Around.frames_deeper e0.frames,.inr ⟨rfl,rfl⟩,fun b z=>absurd z (noA b),e0.bs,e0.bsz,fun b _ _=>noA b,fun b z=>absurd z (noA b),e0.funs,e0.frf⟩,
  rfl,e0.bare,Un.kept hk,⟨_,x.toInCall.ns,fun i y v h1 h2 h3=>?_⟩,fun y c h=>⟨_,x.cell y c h⟩,e0.hok.fresh (AI _),fun y c h=>?_,fun p hp=>absurd (show p∈([]:List (Addr×Obj))from hp) (by simp),e0.hok.kept hk,?_⟩
 ·exact name_of_addr x.apart (PySem.mem_of_lookup h1) (PySem.mem_of_lookup h2)
 ·have hy:scope.names.lookup y=some .cell\/scope.names.lookup y=some .free:=hy
  rcases hy with hy | hy
  ·exact nZ hy
  ·exact absurd rfl (S.nofree _ (PySem.mem_of_lookup hy))
 ·exact BC (x.above y c (PySem.mem_of_lookup h))
 ·have hi:i<vs.length:=by
   unfold jm at h2
   by_cases hi:i<vs.length
   ·exact hi
   ·rw [Bo (by simpa using hi)]at h2
    rw[List.getElem?_replicate]at h2
    split at h2<;>cases h2
  have ha:vs[i]?=some v:=by
   unfold jm at h2
   rw[Bp (by simpa using hi),AG]at h2
   cases e:vs[i]? with
   | none=>rw[e]at h2;cases h2
   | some a=>rw[e]at h2;cases h2;rfl
  obtain⟨u,hu,rv⟩:=r.get ha
  have hp:ps[i]?=some y:=by
   rw[<- S.pre,List.getElem?_take_of_lt (by omega)];exact h1
  have ndP:ps.Nodup:=by rw[<- S.pre];exact S.nd.sublist (List.take_sublist _ _)
  refine⟨u,rv,?_⟩
  rcases S.par y (AJ hp)with k | k
  ·exact .inl ⟨k,rN ndP hp hu k⟩
  ·obtain⟨c,e⟩:=nZ (n:=s.heap.objs.size+1) k
   refine .inr ⟨.inl k,c,e,?_⟩
   have q:=x.cell y c e
   rw[rO ndP hp hu (by show scope.names.lookup y≠_;rw[k];decide)]at q
   exact q
 ·exact e0.hok.fresh (BC (x.above y c (PySem.mem_of_lookup h)))
 ·unfold jm
  show _=N.length
  rw[AK,AC,List.length_replicate]
  omega
theorem yG {CX:tW} {P:Program} {w:World} {K:PySem.W.Frag} {mg:Str->Option Value} {base:Heap} {k:Nat} {f:Addr} {name qual:Str} {params:Arguments} {body:List Stmt} {scope:Scope} {dV kV doc pm cdv ct oc:Value} {an od:Option Addr}
  {osl:Array (Option Value)} {N ps:List Str} {sp:Sp} (lk:K.lookup f=some ⟨oc,od,.func (PySem.W.fnOf name qual params body scope dV kV doc pm an cdv ct),osl⟩) (hcd:PySem.W.codeIn K cdv qual=true) (S:FnScope N ps scope)
  (len:∀vs H Q E,sp vs H Q E->vs.length=ps.length)
  (hbody:∀(A:Around) (outer:List Env) (s:Shared) (H:Hp) (vs:List V) (Q:VK) (E:XK),Room k (A.deeper (envOfC qual scope s.heap.objs.size f cdv))->sp vs H Q E->
   ∃t,PSs (nY CX P w K mg base N qual scope f cdv A outer s H E) body t/\t {nx:=fun _ H'=>Q .non H',rt:=Q} (jm N vs) H):
  FnOk P w K mg base CX (k+1) f (PySem.W.fnOf name qual params body scope dV kV doc pm an cdv ct) ps sp:=by
 refine⟨len,fun A outer s H args us vs Q E hr e0 hb r hsp=>?_⟩
 have hl:=len _ _ _ _ hsp
 have KX:K.In s.heap:=e0.mod.kin.keeps fun b o e=>(e0.bs b o e).1
 have lim:s.heap.NoLimit:=e0.mod.nolimit.keeps fun b o e=>(e0.bs b o e).1
 have hkind:∀y∈ps.zip us,scope.names.lookup y.1=some .local\/(scope.names.lookup y.1=some .cell/\((cellsFrom (s.heap.objs.size+1) scope.names []).lookup y.1).isSome=true):=fun⟨n,v⟩ hy=>by
  rcases S.par n (CF hy).1 with q | q
  ·exact .inl q
  ·exact .inr ⟨q,PySem.W.cellsFrom_some _ _ _ (.inl q)⟩
 refine codeAny_call_function hr.depth (KX _ _ lk) rfl S.co S.gen rfl (PySem.W.codeRec_of KX hcd) (hb _ _ _ _ ?_)
 refine wpAny_newFunctionEnv_cells S.kind hkind fun env he s1 x=>?_
 subst he
 refine⟨lim.keeps x.toInCall.keep,codeAny_func ?_⟩
 obtain⟨t,ht,hq⟩:=hbody A outer s H vs Q E (hr.deeper _) hsp
 have I:Inv (nY CX P w K mg base N qual scope f cdv A outer s H E) [] (jm N vs) H s1:=rP S hr.hd e0 hl r x
 refine wpAny_mono (ht [] s1 (jm N vs) H _ I hq) (fun fl s' hs=>?_) fun e s' hs=>hs
 have fin:∀{σ':St} {H':Hp} {v:V} {u:Value},Inv (nY CX P w K mg base N qual scope f cdv A outer s H E) [] σ' H' s'->RelV v u->Q v H'->CE outer P w H s Q u s':=
  fun {σ' H' v u} J rv q=>⟨v,H',J.os,J.bare,J.base,J.hok,rv,q⟩
 cases fl with
 | ret u=>
  obtain⟨v,σ',H',J,rv,q⟩:=hs
  exact fin J rv q
 | next=>
  obtain⟨σ',H',J,q⟩:=hs
  exact fin (v:=V.non) (u:=Value.none) J rfl q
 | brk=>
  obtain⟨_,_,_,q⟩:=hs
  exact False.elim q
 | cont=>
  obtain⟨_,_,_,q⟩:=hs
  exact False.elim q
section
variable {X:Cx} {x:Str} {p pos:Pos} {e:Expr} {es:List Expr} {t:TA} {id T:String} {r:List V->Hp->VK->Prop}
def zV (r:List V->Hp->VK->Prop) (t:TA):TE:=fun σ H Q=>t σ H fun vs H1=>r vs H1 Q
theorem ai (hc:cu X (.builtin id) r) (hg:Gl X x) (hm:X.mg x=none) (hv:bootBuiltins x=some (.builtin id)) (ha:PA X (e :: es) t) (hn:x≠"__name__":=by decide) (hdb:(x==("__debug__":Str))=false:=by decide)
  (he:starEach (e :: es) X.env=(false,eval e X.env) :: starEach es X.env:=by rfl) (hpl:(backTo pos (starEach es X.env)).any (·.1)=false:=by rfl):PE X (.Call (.Name x p) (e :: es) [] pos) (zV r t):=by
 intro pins s σ H Q I h
 refine wpAny_Call_Name_kw (dH I hg hm hv ?_ hn hdb)
 exact PyProof.Rows.callWith_builtin1 (bK (ha pos pins s σ H _ I h) fun us s1 ⟨vs,H1,I1,r1,q1⟩=>hc pins s1 σ H1 vs us Q I1 r1 q1) he hpl
theorem aI (hc:cu X (.type T) r) (hg:Gl X x) (hm:X.mg x=none) (hv:bootBuiltins x=some (.type T)) (ha:PA X (e :: es) t) (hn:x≠"__name__":=by decide) (hdb:(x==("__debug__":Str))=false:=by decide)
  (he:starEach (e :: es) X.env=(false,eval e X.env) :: starEach es X.env:=by rfl) (hpl:(backTo pos (starEach es X.env)).any (·.1)=false:=by rfl):PE X (.Call (.Name x p) (e :: es) [] pos) (zV r t):=by
 intro pins s σ H Q I h
 refine wpAny_Call_Name_kw (dH I hg hm hv ?_ hn hdb)
 exact PyProof.Rows.callWith_type1 (bK (ha pos pins s σ H _ I h) fun us s1 ⟨vs,H1,I1,r1,q1⟩=>hc pins s1 σ H1 vs us Q I1 r1 q1) he hpl
end
end L2
namespace HT
open PySem PyProof.Rows
def w6:List Int->List Int->Bool
 | [],[]=>false
 | [],_ :: _=>true
 | _ :: _,[]=>false
 | x :: xs,y :: ys=>if x=y then w6 xs ys else decide (x<y)
section
open PySem.SeqAt
open PySem.AutoSeq1 (wpAny_loadPart')
open PySem.MeetsSeq PySem.MeetsSeq2 PySem.MeetsSeq3
end
section
variable {prog:Program} {w:World} {A:Around} {E:Value->Shared->Prop} {s:Shared}
def pL (n d:Nat):Option Int->Nat
 | none=>d
 | some v=>if v<0 then(v+(n:Int)).toNat else min v.toNat n
theorem n6 (n d:Nat):pL n d none=d:=rfl
theorem jR (n d k:Nat):pL n d (some (k:Int))=min k n:=by
 show(if(k:Int)<0 then((k:Int)+(n:Int)).toNat else min (k:Int).toNat n)=min k n
 rw[if_neg (by omega),Ba]
theorem vQ (v:Int) (n d:Nat):(if v<0 then max (v+(n:Int)) 0 else min v (n:Int))=((pL n d (some v):Nat):Int):=by
 show _=(((if v<0 then(v+(n:Int)).toNat else min v.toNat n):Nat):Int)
 by_cases hv:v<0
 ·rw [if_pos hv,if_pos hv,Int.ofNat_toNat]
 ·rw [if_neg hv,if_neg hv]
  obtain⟨k,rfl⟩:=Int.eq_ofNat_of_zero_le (Int.not_lt.mp hv)
  show min (k:Int) (n:Int)=((min k n:Nat):Int)
  rcases Nat.le_total k n with h | h
  ·rw [B9 h,Int.min_eq_left (Int.ofNat_le.mpr h)]
  ·rw [Cc h,Int.min_eq_right (Int.ofNat_le.mpr h)]
end
end HT
namespace L2
open PySem PySem.Spec PyProof.Rows
abbrev TO:=St->Hp->(Option Int->Hp->Prop)->Prop
def PO (X:Cx) (e:Option Expr) (t:TO):Prop:=
 ∀(pins:List (Addr×Obj)) (s:Shared) (σ:St) (H:Hp) (Q:Option Int->Hp->Prop),Inv X pins σ H s->t σ H Q->
  wpAny (model X.prog X.w) X.A (evalPart e X.env) (fun u s'=>∃o H',Inv X pins σ H' s'/\IsPart u o/\Q o H') X.xe s
def vR:TO:=fun _ H Q=>Q none H
def yH (t:TE):TO:=fun σ H Q=>t σ H fun x H1=>∃i,x= .int i/\Q (some i) H1
theorem pM {ns:List Int}:∀{us:List Value},Vals (ns.map V.int) us->IntsAre us ns:=by
 induction ns with
 | nil=>intro us r;rw[List.map_nil]at r;cases r;exact .nil
 | cons n ns ih=>
  intro us r
  rw[BN]at r
  cases r with
  | cons r1 r2=>
   obtain⟨t,e⟩:=r1
   subst e
   exact .cons n t (ih r2)
section
variable {X:Cx} {e:Expr} {te:TE} {lo hi:Option Expr} {tl th:TO} {pos p2:Pos}
theorem eB:PO X none vR:=by
 intro pins s σ H Q I h
 rw[evalPart_none]
 exact wpAny_pure ⟨none,H,I,.none,h⟩
theorem c8 (h:PE X e te):PO X (some e) (yH te):=by
 intro pins s σ H Q I hw
 rw[evalPart_some]
 refine bK (h pins s σ H _ I hw) fun u s1 hq__=>?_
 obtain⟨x,H1,I1,r1,q1⟩:=hq__
 obtain⟨i,rfl,q⟩:=q1
 obtain⟨t,rfl⟩:=r1
 exact⟨some i,H1,I1,.int i t,q⟩
def zc (X:Cx) (r:V->Option Int->Option Int->Hp->VK->Prop):Prop:=
 ∀(pins:List (Addr×Obj)) (s:Shared) (σ:St) (H:Hp) (x:V) (v vl vu:Value) (lo hi:Option Int) (sl:Addr) (Q:VK),Inv X pins σ H s->RelV x v->s.heap.IsSliceOf sl vl vu .none->IsPart vl lo->IsPart vu hi->r x lo hi H Q->
  ∃T id,typeLookup (.type T) "__getitem__"=pure (some (.builtin id))/\s.TypeIs v T/\wpAny (model X.prog X.w) X.A (getItem v (.ref sl)) (EP X pins σ Q) X.xe s
def Ak (r:V->Option Int->Option Int->Hp->VK->Prop) (te:TE) (tl th:TO):TE:=fun σ H Q=>te σ H fun x H1=>tl σ H1 fun l H2=>th σ H2 fun u H3=>r x l u H3 Q
theorem cK {r:V->Option Int->Option Int->Hp->VK->Prop} (hr:zc X r) (he:PE X e te) (hl:PO X lo tl) (hu:PO X hi th):PE X (.Subscript e (.Slice lo hi none p2) pos) (Ak r te tl th):=by
 intro pins s σ H Q I h
 refine Subscript_ (bK (he pins s σ H _ I h) fun v s1 h1=>?_)
 obtain⟨x,H1,I1,r1,q1⟩:=h1
 refine wpAny_Slice (bK (hl pins s1 σ H1 _ I1 q1) fun vl s2 h2=>?_)
 obtain⟨l,H2,I2,pl,q2⟩:=h2
 refine bK (hu pins s2 σ H2 _ I2 q2) fun vu s3 h3=>?_
 obtain⟨u,H3,I3,pu,q3⟩:=h3
 rw[evalPart_none]
 refine wpAny_pure ?_
 have I4:Inv X pins σ H3 {s3 with heap:=s3.heap.push {cls:= .type "slice",data:= .fields #[vl,vu,.none]}}:=I3.kept (t':=s3.toks) fun b ob q=>Heap.get?_push_of_some _ q
 obtain⟨T,id,hT,ht,hg⟩:=hr pins {s3 with heap:=s3.heap.push {cls:= .type "slice",data:= .fields #[vl,vu,.none]}} σ H3 x v vl vu l u s3.heap.objs.size Q I4 r1 (Heap.IsSliceOf.new ..) pl pu q3
 show wpAny (model X.prog X.w) X.A (subscriptTail e (.Slice lo hi none p2) v (.ref s3.heap.objs.size)) (EP X pins σ Q) X.xe {s3 with heap:=s3.heap.push {cls:= .type "slice",data:= .fields #[vl,vu,.none]}}
 exact tail_any (ops:=[.ref s3.heap.objs.size,v]) ht hT hg (by with_unfolding_all rfl)
def b8 (xs:List V) (lo hi:Option Int):List V:=(xs.drop (HT.pL xs.length 0 lo)).take (HT.pL xs.length xs.length hi-HT.pL xs.length 0 lo)
theorem eD (xs:List V) (lo hi:Option Int):(b8 xs lo hi).length<=xs.length:=by
 unfold b8
 rw[BE,Bx]
 exact A9 (Nat.min_le_right _ _) (Nat.sub_le _ _)
end
def vS (n:Nat) (i:Int):Option Nat:=if 0<=i then(if i<n then some i.toNat else none)else if -(n:Int)<=i then some (i+n).toNat else none
def lL {α:Type} (xs:List α) (i:Int):Option α:=(vS xs.length i).bind fun j=>xs[j]?
theorem qJ {n:Nat} {i:Int} {j:Nat} (h:vS n i=some j):seqIndex? i n=some j/\j<n/\ -(n:Int)<=i/\i<n:=by
 unfold vS at h
 by_cases h0:0<=i
 ·rw [if_pos h0]at h
  by_cases h1:i<n
  ·rw [if_pos h1]at h
   have e:i.toNat=j:=Option.some.inj h
   exact⟨by rw[seqIndex_of h0 h1,e],by omega,by omega,h1⟩
  ·rw [if_neg h1]at h;cases h
 ·rw [if_neg h0]at h
  by_cases h1: -(n:Int)<=i
  ·rw [if_pos h1]at h
   have e:(i+n).toNat=j:=Option.some.inj h
   exact⟨by rw[seqIndex_neg (by omega) h1,e],by omega,h1,by omega⟩
  ·rw [if_neg h1]at h;cases h
theorem qL {α:Type} {xs:List α} {i:Int} {v:α} (h:lL xs i=some v):∃j,seqIndex? i xs.length=some j/\xs[j]?=some v/\j<xs.length/\ -(xs.length:Int)<=i/\i<xs.length:=by
 unfold lL at h
 cases e:vS xs.length i with
 | none=>rw[e]at h;cases h
 | some j=>
  rw[e]at h
  obtain⟨h1,h2,h3,h4⟩:=qJ e
  exact⟨j,h1,h,h2,h3,h4⟩
theorem bw {α:Type} {xs:List α} {j:Nat} {v:α} (h:xs[j]?=some v):lL xs (j:Int)=some v:=by
 have hj:j<xs.length:=(AF.mp h).1
 have e:vS xs.length (j:Int)=some j:=by
  unfold vS
  rw[if_pos (by omega),if_pos (by omega)];simp
 unfold lL;rw[e];exact h
def vT (b:Expr):Prop:=∀o i,subscripted b false o i=operate [o,i] (getItem o i)
def yh (X:Cx) (r:R2):Prop:=
 ∀(value slice:Expr) (pins:List (Addr×Obj)) (s:Shared) (σ:St) (H:Hp) (x y:V) (v u:Value) (Q:VK),Inv X pins σ H s->RelV x v->RelV y u->r x y H Q->
  subscripted slice false v u=operate [v,u] (getItem v u)->wpAny (model X.prog X.w) X.A (subscriptTail value slice v u) (EP X pins σ Q) X.xe s
def Al (X:Cx) (id:String) (r:V->List V->Hp->VK->Prop):Prop:=
 ∀(pins:List (Addr×Obj)) (s:Shared) (σ:St) (H:Hp) (x:V) (xs:List V) (v:Value) (us:List Value) (Q:VK),Inv X pins σ H s->RelV x v->Vals xs us->r x xs H Q->
  wpAny (model X.prog X.w) X.A (call (.builtin id) (v :: us)) (EP X pins σ Q) X.xe s
section
variable {X:Cx} {a b:Expr} {ta tb:TE} {pos:Pos}
theorem ao {r:R2} (hr:yh X r) (ha:PE X a ta) (hb:PE X b tb) (hs:vT b):PE X (.Subscript a b pos) (za r ta tb):=by
 intro pins s σ H Q I h
 exact Subscript_ (xv ha hb I h fun v u s2 x y H2 I2 rx ry q=>hr a b pins s2 σ H2 x y v u Q I2 rx ry q (hs _ _))
def yI (K:PySem.W.Frag):R2:=fun x y H Q=>∃p xs i v,x= .ref p/\y= .int i/\SqL K H p xs/\lL xs i=some v/\Q v H
def yJ (K:PySem.W.Frag):R2:=fun x y H Q=>∃p xs i v,x= .ref p/\y= .int i/\SqT K H p xs/\lL xs i=some v/\Q v H
theorem vU:yh X (yI X.K):=by
 intro value slice pins s σ H x y v u Q I rx ry h hs
 obtain⟨p,xs,i,z,rfl,rfl,hq,he,q⟩:=h
 cases rx
 obtain⟨t,rfl⟩:=ry
 obtain⟨its,r,pl,hz⟩:=I.list hq
 obtain⟨j,h1,h2,h3,h4,h5⟩:=qL he
 obtain⟨w,ew,rw'⟩:=r.get h2
 have hl:=r.length
 have hn:=j3
 have fin:EP X pins σ Q w s:=⟨z,H,I,rw',q⟩
 by_cases h0:0<=i
 ·have hj:i.toNat=j:=by
   rw[seqIndex_of h0 h5]at h1
   exact Option.some.inj h1
  exact item_listR pl.isList h0 (by omega) (by rw[hj];simpa using ew) fin hs
 ·have hj:(i+(its.toArray.size:Int)).toNat=j:=by
   rw[seqIndex_neg (by omega) h4]at h1
   rw[AM,<- hl]
   exact Option.some.inj h1
  exact subscriptTail_builtinR (x:=w) pl.isList.typeIs slot_list_getitem.lookup
   (wpAny_getItem_list_neg (Q:=fun r s'=>r=w/\EP X pins σ Q r s') pl.isList (by omega) (by rw[AM]<;>omega) (by omega) (by rw[hj];simpa using ew) ⟨rfl,fin⟩) hs
theorem xy:yh X (yJ X.K):=by
 intro value slice pins s σ H x y v u Q I rx ry h hs
 obtain⟨p,xs,i,z,rfl,rfl,hq,he,q⟩:=h
 cases rx
 obtain⟨t,rfl⟩:=ry
 obtain⟨its,r,pl,hz⟩:=I.tuple hq
 obtain⟨j,h1,h2,h3,h4,h5⟩:=qL he
 obtain⟨w,ew,rw'⟩:=r.get h2
 have hl:=r.length
 have hn:=j3
 have fin:EP X pins σ Q w s:=⟨z,H,I,rw',q⟩
 exact subscriptTail_builtinR (x:=w) pl.typeIs slot_tuple_getitem.lookup
  (getItem_tuple (j:=j) (Q:=fun r s'=>r=w/\EP X pins σ Q r s') pl (by omega) (by omega) (by rw[AM,<- hl];exact h1) (by simpa using ew) ⟨rfl,fin⟩) hs
theorem pN (its:List Value) (n j:Nat) (u:Value):Obj.mapSeq (·.setIfInBounds j u) {cls:= .type "list",data:= .seq its.toArray n}={cls:= .type "list",data:= .seq (its.set j u).toArray n}:=by
 simp[Obj.mapSeq]
theorem Inv.lst {pins:List (Addr×Obj)} {σ:St} {H:Hp} {s:Shared} {p:Addr} {xs:List V} (I:Inv X pins σ H s) (h:H p=some (.lst xs)):
  ∃(its:List Value) (n:Nat),Vals xs its/\s.heap.get? p=some {cls:= .type "list",data:= .seq its.toArray n}/\xs.length<=sizeLine:=by
 obtain⟨z,its,n,r,e⟩:=I.hok p _ h
 exact⟨its,n,r,e,z⟩
theorem Inv.lstUpd {pins:List (Addr×Obj)} {σ:St} {H:Hp} {s:Shared} {p:Addr} {xs ys:List V} {its its':List Value} {n n':Nat} {f:Obj->Obj} (I:Inv X pins σ H s) (h:H p=some (.lst xs))
  (ho:s.heap.get? p=some {cls:= .type "list",data:= .seq its.toArray n}) (hf:f {cls:= .type "list",data:= .seq its.toArray n}={cls:= .type "list",data:= .seq its'.toArray n'}) (r:Vals ys its') (hz:ys.length<=sizeLine) (t:Nat):
  Inv X pins σ (ay H p (.lst ys)) {s with heap:=s.heap.update p f,toks:=t}:=by
 have e:(s.heap.update p f).get? p=some {cls:= .type "list",data:= .seq its'.toArray n'}:=by
  rw[Heap.get?_update_self f ho (by rw[hf]<;>rfl),hf]
 refine I.write (x:=p) (e:=p) (by rw[h];trivial) (.inl rfl) (fun b u hb q=>(Heap.get?_update_other _ _ (Ne.symm hb)).trans q) ⟨_,e⟩ ?_
 exact⟨hz,its',n',r,e⟩
def yK:V->V->V->Hp->(Hp->Prop)->Prop:=fun o i v H Q=>∃p xs k j,o= .ref p/\i= .int k/\H p=some (.lst xs)/\vS xs.length k=some j/\Q (ay H p (.lst (xs.set j v)))
theorem ik:yu X yK:=by
 intro pins s σ H o i v ov iv u Q I ro ri rv h
 obtain⟨p,xs,k,j,rfl,rfl,hp,hj,q⟩:=h
 cases ro
 obtain⟨t,rfl⟩:=ri
 obtain⟨its,n,r,ho,hz⟩:=I.lst hp
 obtain⟨h1,h2,h3,h4⟩:=qJ hj
 have hl:=r.length
 have hn:=j3
 have I':Inv X pins σ (ay H p (.lst (xs.set j v))) {s with heap:=s.heap.update p (Obj.mapSeq (·.setIfInBounds j u))}:=
  I.lstUpd hp ho (pN its n j u) (r.set rv j) (by rw[BS];exact hz) s.toks
 by_cases h0:0<=k
 ·have hk:k.toNat=j:=by
   rw[seqIndex_of h0 h4]at h1
   exact Option.some.inj h1
  exact PySem.W.ki_setAt ho h0 (by omega) (by rw[AM,<- hl];exact h4) (by rw[hk];exact⟨_,I',q⟩)
 ·have hk:(k+(its.toArray.size:Int)).toNat=j:=by
   rw[seqIndex_neg (by omega) h3]at h1
   rw[AM,<- hl]
   exact Option.some.inj h1
  exact PySem.W.ki_setBack ho (by omega) (by rw[AM,<- hl];exact h3) (by omega) (by rw[hk];exact⟨_,I',q⟩)
theorem mF (lo hi:Option Int) (n:Nat):(sliceBounds lo hi none n).1=((HT.pL n 0 lo:Nat):Int)/\(sliceBounds lo hi none n).2.1=((HT.pL n n hi:Nat):Int)/\(sliceBounds lo hi none n).2.2=1:=by
 have one:∀(i:Int) (d:Nat),max 0 (min (if i<0 then i+(n:Int)else i) (n:Int))=((HT.pL n d (some i):Nat):Int):=fun i d=>by
  rw[<- HT.vQ]
  by_cases h:i<0
  ·rw [if_pos h,if_pos h,Int.min_eq_left (by omega),Int.max_comm]
  ·rw [if_neg h,if_neg h,Int.max_eq_right (Int.le_min.mpr ⟨Int.not_lt.mp h,Int.natCast_nonneg n⟩)]
 refine⟨?_,?_,rfl⟩
 ·cases lo with
  | none=>rfl
  | some i=>exact one i 0
 ·cases hi with
  | none=>rfl
  | some i=>exact one i n
theorem kX (its:List Value) (lo hi:Option Int):slicePick its.toArray lo hi none=((its.drop (HT.pL its.length 0 lo)).take (HT.pL its.length its.length hi-HT.pL its.length 0 lo)).toArray:=by
 obtain⟨h1,h2,h3⟩:=mF lo hi its.toArray.size
 unfold slicePick
 rw[h1,h2,h3]
 simp only[sliceRange_one,pick_run,AM]<;>rfl
def yL (K:PySem.W.Frag):V->Option Int->Option Int->Hp->VK->Prop:=fun x lo hi H Q=>∃a xs,x= .ref a/\SqL K H a xs/\∀p,H p=none->Q (.ref p) (ay H p (.lst (b8 xs lo hi)))
theorem vV:zc X (yL X.K):=by
 intro pins s σ H x v vl vu lo hi sl Q I rx hs pl pu h
 obtain⟨a,xs,rfl,hx,q⟩:=h
 cases rx
 obtain⟨its,r,ht,hz⟩:=I.list hx
 have hlen:=r.length
 refine⟨"list",_,slot_list_getitem.lookup,ht.isList.typeIs,?_⟩
 refine wpAny_getItem_list_slice ht.isList hs pl pu .none (by simp) ?_ (by rw[AM]<;>omega)
 rw[kX,<- hlen]
 refine⟨.ref s.heap.objs.size,_,I.laid (t':=s.toks) (o:= .lst (b8 xs lo hi)) (fun b ob q=>Heap.get?_push_of_some _ q) (AI _) ?_,rfl,q _ (I.hok.fresh (AI _))⟩
 exact⟨A9 (eD xs lo hi) hz,_,0,(r.drop (HT.pL xs.length 0 lo)).take (HT.pL xs.length xs.length hi-HT.pL xs.length 0 lo),Heap.get?_push_size _ rfl⟩
def dI:V->Bool
 | .non=>true
 | .bl _=>true
 | .int _=>true
 | .str _=>true
 | _=>false
def qM:V->V->Bool
 | .non,.non=>true
 | .bl a,.bl b=>a==b
 | .bl a,.int b=>(if a then 1 else 0)==b
 | .int a,.bl b=>a==(if b then 1 else 0)
 | .int a,.int b=>a==b
 | .str a,.str b=>a==b
 | _,_=>false
theorem ud {A:Around} {s:Shared} {y x:V} {u v:Value} (ry:RelV y u) (rx:RelV x v) (fy:dI y=true) (fx:dI x=true):SeqAt.EqAt A s u v (qM y x):=by
 cases y with
 | non=>
  cases ry
  cases x with
  | non=>cases rx;exact SeqAt.EqAt.same _
  | bl b=>cases rx;exact SeqAt.EqAt.none_bool b
  | int b=>obtain⟨t,rfl⟩:=rx;exact SeqAt.EqAt.none_int b t
  | str b=>obtain⟨t,rfl⟩:=rx;exact SeqAt.EqAt.none_str b t
  | _=>exact absurd (show false=true from fx) AO
 | bl a=>
  cases ry
  cases x with
  | non=>cases rx;exact SeqAt.EqAt.bool_none a
  | bl b=>cases rx;exact SeqAt.EqAt.bool_bool a b
  | int b=>obtain⟨t,rfl⟩:=rx;exact SeqAt.EqAt.bool_int a b t
  | str b=>obtain⟨t,rfl⟩:=rx;exact SeqAt.EqAt.bool_str a b t
  | _=>exact absurd (show false=true from fx) AO
 | int a=>
  obtain⟨t',rfl⟩:=ry
  cases x with
  | non=>cases rx;exact SeqAt.EqAt.int_none a t'
  | bl b=>cases rx;exact SeqAt.EqAt.int_bool a t' b
  | int b=>obtain⟨t,rfl⟩:=rx;exact SeqAt.EqAt.int_int a t' b t
  | str b=>obtain⟨t,rfl⟩:=rx;exact SeqAt.EqAt.int_str a t' b t
  | _=>exact absurd (show false=true from fx) AO
 | str a=>
  obtain⟨t',rfl⟩:=ry
  cases x with
  | non=>cases rx;exact SeqAt.EqAt.str_none a t'
  | bl b=>cases rx;exact SeqAt.EqAt.str_bool a t' b
  | int b=>obtain⟨t,rfl⟩:=rx;exact SeqAt.EqAt.str_int a t' b t
  | str b=>obtain⟨t,rfl⟩:=rx;exact SeqAt.EqAt.str_str a t' b t
  | _=>exact absurd (show false=true from fx) AO
 | _=>exact absurd (show false=true from fy) AO
def pO (x:V) (u:Value):Bool:=match u with
 | .none=>qM .non x
 | .bool b=>qM (.bl b) x
 | .int i _=>qM (.int i) x
 | .str z _=>qM (.str z) x
 | _=>false
theorem ue {x y:V} {u:Value} (r:RelV y u) (f:dI y=true):pO x u=qM y x:=by
 cases y with
 | non=>cases r;rfl
 | bl b=>cases r;rfl
 | int i=>obtain⟨t,rfl⟩:=r;rfl
 | str z=>obtain⟨t,rfl⟩:=r;rfl
 | _=>exact absurd (show false=true from f) AO
theorem jS {x:V}:∀{xs:List V} {us:List Value},Vals xs us->xs.all dI=true->us.any (pO x)=xs.any fun y=>qM y x:=by
 intro xs us h
 induction h with
 | nil=>intro _;rfl
 | cons r t ih=>
  intro f
  rw[List.all_cons,BL]at f
  rw[List.any_cons,List.any_cons,ue r f.1,ih f.2]
theorem iq {A:Around} {s:Shared} {x:V} {v:Value} (rx:RelV x v) (fx:dI x=true):∀{xs:List V} {us:List Value},Vals xs us->xs.all dI=true->∀u∈us,SeqAt.EqAt A s u v (pO x u):=by
 intro xs us h
 induction h with
 | nil=>intro _ u hu;cases hu
 | cons r t ih=>
  intro f u' hu
  rw[List.all_cons,BL]at f
  rcases AR.mp hu with rfl | hu
  ·rw [ue r f.1];exact ud r rx f.1 fx
  ·exact ih f.2 u' hu
def zd (x:V) (xs:List V):Bool:=xs.any fun y=>qM y x
def ze (K:PySem.W.Frag) (neg:Bool):R2:=fun x y H Q=>∃p xs,y= .ref p/\(SqL K H p xs\/SqT K H p xs)/\dI x=true/\xs.all dI=true/\Q (.bl (if neg then !zd x xs else zd x xs)) H
theorem rQ:fk X (compareOp .In) (ze X.K false):=by
 intro pins s σ H x y v u Q I rx ry h
 obtain⟨p,xs,rfl,hq,fx,fs,q⟩:=h
 cases ry
 rcases hq with hq | hq
 ·obtain⟨its,r,pl,hz⟩:=I.list hq
  refine SeqAt.in_listAt (pO x) pl.isList (fun w hw=>iq rx fx r fs w (by simpa using hw)) ⟨.bl _,H,I,rfl,?_⟩
  rw[show its.toArray.any (pO x)=its.any (pO x) by simp,jS r fs]
  exact q
 ·obtain⟨its,r,pl,hz⟩:=I.tuple hq
  refine SeqAt.in_tupleAt (pO x) pl (fun w hw=>iq rx fx r fs w (by simpa using hw)) ⟨.bl _,H,I,rfl,?_⟩
  rw[show its.toArray.any (pO x)=its.any (pO x) by simp,jS r fs]
  exact q
theorem mG:fk X (compareOp .NotIn) (ze X.K true):=by
 intro pins s σ H x y v u Q I rx ry h
 obtain⟨p,xs,rfl,hq,fx,fs,q⟩:=h
 cases ry
 rcases hq with hq | hq
 ·obtain⟨its,r,pl,hz⟩:=I.list hq
  refine SeqAt.notIn_listAt (pO x) pl.isList (fun w hw=>iq rx fx r fs w (by simpa using hw)) ⟨.bl _,H,I,rfl,?_⟩
  rw[show its.toArray.any (pO x)=its.any (pO x) by simp,jS r fs]
  exact q
 ·obtain⟨its,r,pl,hz⟩:=I.tuple hq
  refine SeqAt.notIn_tupleAt (pO x) pl (fun w hw=>iq rx fx r fs w (by simpa using hw)) ⟨.bl _,H,I,rfl,?_⟩
  rw[show its.toArray.any (pO x)=its.any (pO x) by simp,jS r fs]
  exact q
theorem mH:cu X (.type "list") (fun xs H Q=>∃p ys,xs=[.ref p]/\(SqL X.K H p ys\/SqT X.K H p ys)/\∀l,H l=none->Q (.ref l) (ay H l (.lst ys))):=by
 intro pins s σ H xs us Q I r h
 obtain⟨p,ys,rfl,hq,q⟩:=h
 obtain⟨u,rfl,rx⟩:=eA r
 cases rx
 have fin:∀(its:List Value),Vals ys its->ys.length<=sizeLine->∀(h':Heap) (c':Nat),(∀b o',s.heap.get? b=some o'->h'.get? b=some o')->
   h'.get? s.heap.objs.size=some {cls:= .type "list",dict:=none,data:= .seq its.toArray c',slots:=#[]}->EP X pins σ Q (.ref s.heap.objs.size) {s with heap:=h'}:=fun its r' hz h' c' kp e=>
  ⟨.ref s.heap.objs.size,_,I.laid (t':=s.toks) kp (AI _) (show ObjOk X.prog X.w _ h' _ (.lst ys)from⟨hz,its,c',r',e⟩),rfl,q _ (I.hok.fresh (AI _))⟩
 rcases hq with hq | hq
 ·obtain⟨its,r',pl,hz⟩:=I.list hq
  have hlen:=r'.length
  obtain⟨o,ho,hc,n,hd⟩:=pl.isList
  exact call_list_seq p (.inl rfl) ho hc hd (fun h' c' kp e=>fin its r' hz h' c' kp e) (by simp only[AM]<;>omega)
 ·obtain⟨its,r',pl,hz⟩:=I.tuple hq
  have hlen:=r'.length
  obtain⟨o,ho,hc,n,hd⟩:=pl
  exact call_list_seq p (.inr rfl) ho hc hd (fun h' c' kp e=>fin its r' hz h' c' kp e) (by simp only[AM]<;>omega)
theorem gF:cu X (.type "tuple") (fun xs H Q=>∃p ys,xs=[.ref p]/\((SqL X.K H p ys/\∀l,H l=none->Q (.ref l) (ay H l (.tup ys)))\/(SqT X.K H p ys/\Q (.ref p) H))):=by
 intro pins s σ H xs us Q I r h
 obtain⟨p,ys,rfl,h⟩:=h
 obtain⟨u,rfl,rx⟩:=eA r
 cases rx
 rcases h with⟨hq,q⟩ | ⟨hq,q⟩
 ·obtain⟨its,r',pl,hz⟩:=I.list hq
  have hlen:=r'.length
  refine call_tuple_list pl.isList (fun h' kp=>?_) (by simp only[AM]<;>omega)
  have I1:Inv X pins σ H {s with heap:=h'}:=I.kept (t':=s.toks) kp
  have I2:Inv X pins σ (ay H h'.objs.size (.tup ys)) {s with heap:=h'.push {cls:= .type "tuple",data:= .seq its.toArray}}:=
   I1.laid (t':=s.toks) (fun b o e=>Heap.get?_push_of_some _ e) (AI _) (show ObjOk X.prog X.w _ _ _ (.tup ys)from⟨hz,its,r',IsTup.new _ _⟩)
  exact⟨.ref h'.objs.size,_,I2,rfl,q _ (I1.hok.fresh (AI _))⟩
 ·obtain⟨its,r',pl,hz⟩:=I.tuple hq
  exact call_tuple_same pl ⟨.ref p,H,I,rfl,q⟩
def zW (K:PySem.W.Frag) (T:String) (x:V) (H:Hp):Prop:=match x with
 | .str _=>T="str"
 | .int _=>T="int"
 | .ref p=>(T="list"/\∃xs,SqL K H p xs)\/(T="tuple"/\∃o,K.lookup p=some o/\o.cls= .type "tuple"/\o.dict=none)\/
  (T="dict"/\((∃kvs,H p=some (.dK kvs))\/∃kvs,H p=some (.dT kvs)))\/(T="set"/\∃S n,H p=some (.set S n))
 | _=>False
theorem xA {pins:List (Addr×Obj)} {σ:St} {H:Hp} {s:Shared} {T:String} {x:V} {v:Value} (I:Inv X pins σ H s) (r:RelV x v) (ty:zW X.K T x H):
  s.TypeIs v T/\∀a,v= .ref a->∃ob,s.heap.get? a=some ob/\ob.dict=none:=by
 cases x with
 | str z=>
  obtain⟨t,rfl⟩:=r
  cases(show T="str" from ty)
  exact⟨typeIs_str s z t,fun _ e=>nomatch e⟩
 | int i=>
  obtain⟨t,rfl⟩:=r
  cases(show T="int" from ty)
  exact⟨typeIs_int s i t,fun _ e=>nomatch e⟩
 | ref p=>
  cases r
  rcases ty with⟨rfl,xs,hq⟩ | ⟨rfl,o,hk,hc,hd⟩ | ⟨rfl,hk⟩ | ⟨rfl,S,n,hk⟩
  ·obtain⟨its,_,pl,_⟩:=I.list hq
   refine⟨pl.isList.typeIs,fun a e=>?_⟩
   cases e
   obtain⟨o,n,e,c,hd,_⟩:=pl
   exact⟨o,e,hd⟩
  ·refine⟨⟨o,I.kIn p o hk,hc⟩,fun a e=>?_⟩
   cases e
   exact⟨o,I.kIn _ o hk,hd⟩
  ·have z:∃o,s.heap.get? p=some o/\o.ExactDict:=by
    rcases hk with⟨kvs,hk⟩ | ⟨kvs,hk⟩
    ·obtain⟨_,_,_,_,o,_,_,e,ex,_⟩:=I.hok p _ hk
     exact⟨o,e,ex⟩
    ·obtain⟨_,_,_,_,o,_,_,e,ex,_⟩:=I.hok p _ hk
     exact⟨o,e,ex⟩
   obtain⟨o,e,ex⟩:=z
   refine⟨⟨o,e,ex.1⟩,fun a e2=>?_⟩
   cases e2
   exact⟨o,e,ex.2.1⟩
  ·obtain⟨o,_,_,_,e,ex,_⟩:=I.hok p _ hk
   refine⟨⟨o,e,ex.1⟩,fun a e2=>?_⟩
   cases e2
   exact⟨o,e,ex.2.1⟩
 | _=>exact False.elim ty
def Am (K:PySem.W.Frag) (T:String) (r:V->List V->Hp->VK->Prop) (to:TE) (t:TA):TE:=fun σ H Q=>to σ H fun x H1=>zW K T x H1/\t σ H1 fun xs H2=>r x xs H2 Q
variable {o e:Expr} {es:List Expr} {to:TE} {t:TA} {name:Str} {apos cpos:Pos} {T id:String} {r:V->List V->Hp->VK->Prop}
theorem fL (pa:PlainAttrs T) (slot:Slot T name id) (hty:typeOf (.builtin id)=pure (.type "method_descriptor")) (hm:Al X id r) (ho:PE X o to) (ha:PA X (e :: es) t)
  (hbase:attributeBase o name X.env (eval o X.env)=eval o X.env:=by rfl)
  (hfew:((backTo cpos (starEach (e :: es) X.env)).all (fun x=> !x.1)&&(backToKw cpos (keywordEach [] X.env)).all (fun x=>x.1.isSome)
   &&decide ((e :: es).length+([]:List Keyword).length+(if([]:List Keyword).isEmpty then 0 else 1)<30))=true:=by rfl)
  (hline:(apos.endLine==cpos.line)=true:=by rfl) (hs:starEach (e :: es) X.env=(false,eval e X.env) :: starEach es X.env:=by rfl) (hplain:(backTo cpos (starEach es X.env)).any (·.1)=false:=by rfl):
  PE X (.Call (.Attribute o name apos) (e :: es) [] cpos) (Am X.K T r to t):=by
 intro pins s σ H Q I h
 refine wpAny_Call_method_late hbase hfew hline rfl (bK (ho pins s σ H _ I h) fun v s1 hq__=>?_)
 obtain⟨x,H1,I1,r1,ty,q1⟩:=hq__
 obtain⟨h1,h2⟩:=xA I1 r1 ty
 refine⟨T,id,pa,slot,hty,h1,h2,?_⟩
 have hA:=ha cpos pins s1 σ H1 _ I1 q1
 rw[hs]at hA ⊢
 refine Calls.callWith_builtin (by show(false||(backTo cpos (starEach es X.env)).any (·.1))=false;rw[hplain]<;>rfl) (Calls.evalArgs_plain ?_)
 exact bK hA fun us s2 ⟨vs,H2,I2,r2,q2⟩=>hm pins s2 σ H2 x vs v us Q I2 r1 r2 q2
end
def zC (X:Cx) (id:String) (r:V->List V->Hp->VK->Prop):Prop:=
 ∀(pins:List (Addr×Obj)) (s:Shared) (σ:St) (H:Hp) (x:V) (xs:List V) (v:Value) (us:List Value) (Q:VK),Inv X pins σ H s->RelV x v->Vals xs us->r x xs H Q->
  wpAny (model X.prog X.w) X.A (call (.builtin id) (v :: us)) (EP X pins σ Q) X.xe s
theorem Vals.one:∀{x:V} {us:List Value},Vals [x] us->∃u,us=[u]/\RelV x u:=by
 intro x us h
 cases h with
 | cons r t=>cases t;exact⟨_,rfl,r⟩
theorem Vals.rep {xs:List V} {us:List Value} (h:Vals xs us):∀k:Nat,Vals (Bf k xs).flatten (Bf k us).flatten
 | 0=> .nil
 | k+1=>by
  rw[BQ,BQ,Ca,Ca]
  exact Vals.append h (Vals.rep h k)
theorem rR (its:List Value) (k:Nat) (acc:List Value):CG (fun x1 x2=>x1++x2) acc.toArray (Bf k its.toArray)=(acc++(Bf k its).flatten).toArray:=by
 induction k generalizing acc with
 | zero=>simp
 | succ k ih=>
  have e:acc.toArray++its.toArray=(acc++its).toArray:=by simp
  have e2:(acc++its)++(Bf k its).flatten=acc++(Bf (k+1) its).flatten:=by
   rw[BQ,Ca,Cy]
  rw[<- e2,<- ih (acc++its),<- e,BQ,Cs]
section
variable {X:Cx} {pins:List (Addr×Obj)} {σ:St} {H:Hp} {s:Shared} {l b:Addr} {xs ys zs:List V}
theorem Inv.lset {its its':List Value} {n:Nat} {f:Array Value->Array Value} {t':Nat} (I:Inv X pins σ H s) (hH:H l=some (.lst xs))
  (e:s.heap.get? l=some {cls:= .type "list",data:= .seq its.toArray n}) (hf:f its.toArray=its'.toArray) (hv:Vals ys its') (hz:ys.length<=sizeLine):
  Inv X pins σ (ay H l (.lst ys)) {s with heap:=s.heap.update l (Obj.mapSeq f),toks:=t'}:=by
 have q:=PySem.IsL.update e f
 rw[hf]at q
 refine I.write (x:=l) (e:=l) (by rw[hH];exact trivial) (.inl rfl) (fun b' u hb hu=>(Heap.get?_update_other s.heap (Obj.mapSeq f) (Ne.symm hb)).trans hu) ⟨_,q⟩ ?_
 exact⟨hz,its',_,hv,q⟩
theorem Inv.lnew {its:List Value} {t':Nat} (I:Inv X pins σ H s) (hv:Vals ys its) (hz:ys.length<=sizeLine):
  Inv X pins σ (ay H s.heap.objs.size (.lst ys)) {s with heap:=s.heap.push {cls:= .type "list",data:= .seq its.toArray},toks:=t'}:=
 I.laid (fun _ _ q=>Heap.get?_push_of_some _ q) (AI _) ⟨hz,its,0,hv,Heap.get?_push_size _ rfl⟩
theorem Inv.fresh (I:Inv X pins σ H s):H s.heap.objs.size=none:=I.hok.fresh (AI _)
theorem Inv.lstM (I:Inv X pins σ H s) (hH:H l=some (.lst xs)):xs.length<=sizeLine/\∃(its:List Value) (n:Nat),Vals xs its/\xs.length=its.length/\s.heap.get? l=some {cls:= .type "list",data:= .seq its.toArray n}:=by
 obtain⟨z,its,n,r,e⟩:=I.hok l _ hH
 exact⟨z,its,n,r,r.length,e⟩
theorem n8 {n:Nat} (h:n<=sizeLine):Builtin.List.listTooLong n=false:=by
 unfold Builtin.List.listTooLong
 exact decide_eq_false (by omega)
end
section
variable {X:Cx}
def vW:V->List V->Hp->VK->Prop:=fun x vs H Q=>∃l xs y,x= .ref l/\vs=[y]/\H l=some (.lst xs)/\xs.length<sizeLine/\Q .non (ay H l (.lst (xs++[y])))
theorem bO:zC X "list.append" vW:=by
 intro pins s σ H x vs v us Q I rx rv h
 obtain⟨l,xs,y,rfl,rfl,hH,hz,q⟩:=h
 cases rx
 obtain⟨u,rfl,ru⟩:=rv.one
 obtain⟨z,its,n,r,hl,e⟩:=I.lstM hH
 refine call_meets F.slot_list_append ⟨_,e,rfl⟩ F.entry_list_append (F.args_list_append_2 _ _) (PySem.list_append l its.toArray n u (by rw[AM];omega)) ⟨e,?_⟩
 refine⟨.non,_,I.lset (its':=its++[u]) hH e (by simp) (r.append (.cons ru .nil)) ?_,rfl,q⟩
 rw[AK,AS]
 omega
def vX:V->List V->Hp->VK->Prop:=fun x vs H Q=>∃l b xs zs,x= .ref l/\vs=[.ref b]/\H l=some (.lst xs)/\H b=some (.lst zs)/\xs.length+zs.length<=sizeLine/\Q .non (ay H l (.lst (xs++zs)))
theorem yi:zC X "list.extend" vX:=by
 intro pins s σ H x vs v us Q I rx rv h
 obtain⟨l,b,xs,zs,rfl,rfl,hH,hB,hz,q⟩:=h
 cases rx
 obtain⟨u,rfl,ru⟩:=rv.one
 cases ru
 obtain⟨z,its,n,r,hl,e⟩:=I.lstM hH
 obtain⟨z2,its2,n2,r2,hl2,e2⟩:=I.lstM hB
 have hsz:its.toArray.size+its2.toArray.size<=sizeLine:=by rw[AM,AM];omega
 have hlong:¬(!its.toArray.isEmpty&&Builtin.List.listTooLong (its.toArray.size+its2.toArray.size))=true:=by
  rw[n8 hsz,Bool.and_false]
  exact AO
 refine call_meets F.slot_list_extend ⟨_,e,rfl⟩ F.entry_list_extend (F.args_list_extend_2 _ _)
  (AutoSeq1.list_extend_list_list_0 l its.toArray n b its2.toArray n2 hlong (by rw[AM];omega) (by omega)) ⟨e,e2,?_⟩
 refine⟨.non,_,I.lset (its':=its++its2) hH e (by simp) (r.append r2) ?_,rfl,q⟩
 rw[AK]
 omega
def zD:R2:=fun x y H Q=>∃l b xs zs,x= .ref l/\y= .ref b/\H l=some (.lst xs)/\H b=some (.lst zs)/\xs.length+zs.length<=sizeLine/\∀p,H p=none->Q (.ref p) (ay H p (.lst (xs++zs)))
theorem fM:fk X (binaryOp .Add) zD:=by
 intro pins s σ H x y v u Q I rx ry h
 obtain⟨l,b,xs,zs,rfl,rfl,hH,hB,hz,q⟩:=h
 cases rx
 cases ry
 obtain⟨z,its,n,r,hl,e⟩:=I.lstM hH
 obtain⟨z2,its2,n2,r2,hl2,e2⟩:=I.lstM hB
 refine PySem.P.add_list e e2 ?_ (by rw[AM,AM];omega)
 have ea:its.toArray++its2.toArray=(its++its2).toArray:=by simp
 rw[ea]
 exact⟨.ref _,_,I.lnew (t':=s.toks) (r.append r2) (by rw[AK];omega),rfl,q _ I.fresh⟩
def zE:R2:=fun x y H Q=>∃l k xs,x= .ref l/\y= .int k/\H l=some (.lst xs)/\ -(2^63)<=k/\k<2^63/\xs.length*k.toNat<=sizeLine/\
 ∀p,H p=none->Q (.ref p) (ay H p (.lst (Bf k.toNat xs).flatten))
theorem vY {α:Type} (xs:List α) (k:Nat):(Bf k xs).flatten.length=k*xs.length:=by
 induction k with
 | zero=>simp
 | succ k ih=>rw[BQ,Ca,AK,ih,Nat.succ_mul,Nat.add_comm]
theorem xB:fk X (binaryOp .Mult) zE:=by
 intro pins s σ H x y v u Q I rx ry h
 obtain⟨l,k,xs,rfl,rfl,hH,h1,h2,hz,q⟩:=h
 cases rx
 obtain⟨t,rfl⟩:=ry
 obtain⟨z,its,n,r,hl,e⟩:=I.lstM hH
 have hlen:its.toArray.size*k.toNat<=sizeLine:=by rw[AM,<- hl];exact hz
 have hcap:¬its.toArray.size*k.toNat>(2^63-1)/8:=by
  have:(sizeLine:Nat)<=(2^63-1)/8:=by decide
  omega
 have hfit:¬(!Builtin.List.listFitsIndex k)=true:=by
  rw[fitsIndex_both h1 h2]
  exact AO
 have hlong:¬Builtin.List.listTooLong (its.toArray.size*k.toNat)=true:=by
  rw[n8 hlen]
  exact AO
 have hnew:CG (fun x1 x2=>x1++x2) #[] (Bf (if its.toArray.isEmpty=true then 0 else k.toNat) its.toArray)=(Bf k.toNat its).flatten.toArray:=by
  have f0:∀m:Nat,CG (fun x1 x2=>x1++x2) #[] (Bf m its.toArray)=(Bf m its).flatten.toArray:=fun m=>by
   have:=rR its m []
   rw[List.nil_append]at this
   exact this
  rw[f0]
  cases its with
  | nil=>simp
  | cons a r'=>rw[if_neg (by simp)]
 refine wpAny_binaryOp_repeat_ref (T:="list") (U:="int") (by decide) ⟨_,e,rfl⟩ (fun s'=>typeIs_int s' k t) noFill_list_mul F.fills_int_mul F.slot_int_rmul repeat_list F.slot_int_index.lookup
  (call_meets F.slot_int_rmul (typeIs_int s k t) F.entry_int_rmul (F.args_int_rmul_2 _ _) (int___rmul___int_list k t l its.toArray n)
   ⟨e,rfl,⟨_,e,rfl⟩,call_meets F.slot_list_mul ⟨_,e,rfl⟩ F.entry_list_mul (F.args_list_mul_2 _ _) (AutoListH.list___mul___list_int_3 l its.toArray n k t hfit hcap hlong) ⟨e,?_⟩⟩)
 rw[hnew]
 exact⟨.ref _,_,I.lnew (t':=s.toks) (r.rep k.toNat) (by rw[vY,Nat.mul_comm];exact hz),rfl,q _ I.fresh⟩
end
section
variable {prog:Program} {w:World} {A:Around} {E:Value->Shared->Prop} {s:Shared}
end
section
variable {X:Cx}
end
section
variable {κ:Type} [DecidableEq κ]
def jH (kvs:List (κ×V)) (k:κ):Option V:=(kvs.find? fun kv=>decide (kv.1=k)).map (·.2)
theorem n9 {p:κ×V} {r:List (κ×V)} {k:κ} (e:p.1=k):jH (p :: r) k=some p.2:=by simp[jH,BU,e]
theorem oa {p:κ×V} {r:List (κ×V)} {k:κ} (e:¬p.1=k):jH (p :: r) k=jH r k:=by simp[jH,BU,e]
theorem RelO.isSome_eq {o:Option V} {u:Option Value} (r:RelO o u):o.isSome=u.isSome:=by
 cases o with
 | none=>cases u with
  | none=>rfl
  | some _=>exact(show False from r).elim
 | some _=>cases u with
  | none=>exact(show False from r).elim
  | some _=>rfl
theorem RelO.getD {o:Option V} {u:Option Value} {d:V} {d':Value} (r:RelO o u) (rd:RelV d d'):RelV (o.getD d) (u.getD d'):=by
 cases o with
 | none=>cases u with
  | none=>exact rd
  | some _=>exact(show False from r).elim
 | some _=>cases u with
  | none=>exact(show False from r).elim
  | some _=>exact r
theorem KV.val {kvs:List (κ×V)} {vs:List (κ×Value)} (r:KV kvs vs) (k:κ):RelO (jH kvs k) (valueAt vs k):=by
 unfold KV at r
 induction r with
 | nil=>exact True.intro
 | @cons p q ps qs h t ih=>
  obtain⟨h1,h2⟩:=h
  by_cases e:p.1=k
  ·have e':q.1=k:=h1.symm.trans e
   have b:valueAt (q :: qs) k=some q.2:=by simp[valueAt,BU,e']
   rw[n9 e,b];exact h2
  ·have e':¬q.1=k:=fun z=>e (h1.trans z)
   have b:valueAt (q :: qs) k=valueAt qs k:=by simp[valueAt,BU,e']
   rw[oa e,b];exact ih
theorem KV.length {kvs:List (κ×V)} {vs:List (κ×Value)} (r:KV kvs vs):kvs.length=vs.length:=Paired.length r
end
theorem oe {P:Program} {w:World} {k:dJ} {u:Value} (r:RelV (kV k) u):(bq P w).is k u=true:=by
 cases k with
 | inl i=>obtain⟨t,e⟩:=(show ∃t,u=Value.int i t from r);subst e;exact nQ P w i t
 | inr x=>obtain⟨t,e⟩:=(show ∃t,u=Value.str x t from r);subst e;exact nR P w x t
theorem rS {P:Program} {w:World} {ks:List dJ} {us:List Value} (r:Vals (ks.map kV) us):ItemsAre (bq P w) ks us:=by
 induction ks generalizing us with
 | nil=>cases r;exact .nil
 | cons k ks ih=>
  cases r with
  | cons h t=>exact .cons (oe h) (ih t)
abbrev KT (H:Hp):List (List dJ×V)->List (List dJ×Addr×Value)->Prop:=Paired fun p q=>p.1=q.1/\H q.2.1=some (.tup (p.1.map kV))/\RelV p.2 q.2.2
theorem KT.val {H:Hp} {kvs:List (List dJ×V)} {xs:List (List dJ×Addr×Value)} (r:KT H kvs xs) (k:List dJ):RelO (jH kvs k) ((atKey xs k).map (·.2)):=by
 induction r with
 | nil=>exact True.intro
 | @cons p q ps qs h t ih=>
  obtain⟨h1,_,h2⟩:=h
  by_cases e:p.1=k
  ·have e':q.1=k:=h1.symm.trans e
   have b:atKey (q :: qs) k=some q.2:=by simp[atKey,BU,e']
   rw[n9 e,b];exact h2
  ·have e':¬q.1=k:=fun z=>e (h1.trans z)
   have b:atKey (q :: qs) k=atKey qs k:=by simp[atKey,BU,e']
   rw[oa e,b];exact ih
section
variable {P:Program} {w:World} {H:Hp} {h:Heap} {a:Addr}
theorem w8 {u:HO} (ok:HOk P w H h) (e:Rd H a u):ObjOk P w H h a u:=e.ok ok
theorem og {kvs:List (dJ×V)} (ok:HOk P w H h) (e:Rd H a (.dK kvs)):kvs.length<=sizeLine/\(a==sysModules)=false/\∃vs,KV kvs vs/\h.DictOf (bq P w) a vs:=
 show ObjOk P w H h a (.dK kvs)from w8 ok e
theorem mI {ks:List dJ} (ok:HOk P w H h) (e:H a=some (.tup (ks.map kV))):(tupleKind (bq P w)).is h ks a:=by
 obtain⟨_,its,r,o,h1,h2,n,h3⟩:=(show ObjOk P w H h a (.tup (ks.map kV))from ok a _ e)
 exact⟨o,its.toArray,n,h1,h2,h3,by simpa using rS r⟩
theorem oi {kvs:List (List dJ×V)} (ok:HOk P w H h) (e:Rd H a (.dT kvs)):kvs.length<=sizeLine/\(a==sysModules)=false/\
  ∃xs,KT H kvs xs/\h.DictOfH (tupleKind (bq P w)) a xs:=by
 obtain⟨z,y,xs,r,o,es,ep,h1,h2,h3,h4,h5⟩:=(show ObjOk P w H h a (.dT kvs)from w8 ok e)
 refine⟨z,y,xs,r,o,es,ep,h1,h2,h3,h4,fun x hx=>?_,h5⟩
 have all:∀{l:List (List dJ×V)} {m:List (List dJ×Addr×Value)},KT H l m->∀x∈m,(tupleKind (bq P w)).is h x.1 x.2.1:=by
  intro l m q
  induction q with
  | nil=>intro x hx;exact nomatch hx
  | @cons p q ps qs hq t ih=>
   intro x hx
   rcases AR.mp hx with e | hx
   ·subst e
    exact mI ok (by rw[<- hq.1];exact hq.2.1)
   ·exact ih x hx
 exact all r x hx
end
def DGet (H:Hp) (a:Addr) (y:V) (r:Option V):Prop:=
 (∃kvs k,Rd H a (.dK kvs)/\y=kV k/\r=jH kvs k)\/∃kvs k b,Rd H a (.dT kvs)/\y= .ref b/\H b=some (.tup (k.map kV))/\r=jH kvs k
theorem DGet.k {H:Hp} {a:Addr} {kvs:List (dJ×V)} {k:dJ} (e:H a=some (.dK kvs)):DGet H a (kV k) (jH kvs k):= .inl ⟨kvs,k,.inl e,rfl,rfl⟩
section
variable {X:Cx} {pins:List (Addr×Obj)} {σ:St} {H:Hp} {s:Shared} {a:Addr} {y v:V} {u r:Value} {o:Option V} {A:Around} {E:Value->Shared->Prop}
theorem Inv.big (I:Inv X pins σ H s):sysModules<s.heap.objs.size:=by
 have h:mainGlobals<s.heap.objs.size:=(I.mod.glob.keeps I.bk).lt
 exact Nat.lt_trans (by decide) h
theorem rT {Q:Value->Shared->Prop} (hu:A.units+1<cLine) (I:Inv X pins σ H s) (g:DGet H a y (some v)) (ry:RelV y u) (h:∀w' s',Inv X pins σ H s'->RelV v w'->Q w' s'):
  wpAny (model X.prog X.w) A (getItem (.ref a) u) Q E s:=by
 rcases g with⟨kvs,k,e,ey,l⟩ | ⟨kvs,k,b,e,ey,eb,l⟩
 ·subst ey
  obtain⟨z,hd,vs,rel,dd⟩:=og I.hok e
  obtain⟨w',hw,rw'⟩:=RelO.some_of (v:=v) (o:=valueAt vs k) (by rw[l];exact rel.val k)
  exact wpAny_getItem_of (oe ry) dd.mapOf hw (h w' _ (I.tok _) rw')
 ·subst ey
  cases(show u=Value.ref b from ry)
  obtain⟨z,hd,xs,rel,dd⟩:=oi I.hok e
  obtain⟨w',hw,rw'⟩:=RelO.some_of (v:=v) (o:=(atKey xs k).map (·.2)) (by rw[l];exact rel.val k)
  obtain⟨p,hp,hp2⟩:=AL.mp hw
  refine wpAny_getItem_heap (tupleKind_room_in1 hu) (mI I.hok eb) dd hp ?_
  rw[hp2]
  exact h w' _ (I.tok _) rw'
theorem zF {Q:Value->Shared->Prop} (hu:A.units+1<cLine) (I:Inv X pins σ H s) (g:DGet H a y o) (ry:RelV y u) (h:∀s',Inv X pins σ H s'->Q (.bool o.isSome) s'):
  wpAny (model X.prog X.w) A (compareOp .In u (.ref a)) Q E s:=by
 rcases g with⟨kvs,k,e,ey,l⟩ | ⟨kvs,k,b,e,ey,eb,l⟩
 ·subst ey
  obtain⟨z,hd,vs,rel,dd⟩:=og I.hok e
  refine wpAny_in_of (oe ry) hd dd.mapOf ?_
  rw[<- (rel.val k).isSome_eq,<- l]
  exact h _ (I.tok _)
 ·subst ey
  cases(show u=Value.ref b from ry)
  obtain⟨z,hd,xs,rel,dd⟩:=oi I.hok e
  refine wpAny_in_heap (tupleKind_room_in1 hu) (mI I.hok eb) hd dd ?_
  have q:=(rel.val k).isSome_eq
  rw[Option.isSome_map]at q
  rw[<- q,<- l]
  exact h _ (I.tok _)
theorem xC {P:Program} {w:World} {H':Hp} {h':Heap} {kvs:List (dJ×V)} {vs:List (dJ×Value)} (z:kvs.length<=sizeLine) (hd:(a==sysModules)=false) (rel:KV kvs vs) (dd:h'.DictOf (bq P w) a vs):
 ObjOk P w H' h' a (.dK kvs):=⟨z,hd,vs,rel,dd⟩
end
section
variable {X:Cx} {pins:List (Addr×Obj)} {σ:St} {H:Hp} {s:Shared} {a:Addr} {kvs:List (dJ×V)} {k:dJ} {u:Value} {A:Around} {E:Value->Shared->Prop}
end
def yM (i:Expr):Prop:=∀ov iv,subscripted i false ov iv=operate [ov,iv] (getItem ov iv)
theorem vZ {prog:Program} {w:World} {A:Around} {E:Value->Shared->Prop} {s:Shared} {env:Env} {value slice:Expr} {pos:Pos} {T id:String} {Q:Value->Shared->Prop}
  (hl:typeLookup (.type T) "__getitem__"=pure (some (.builtin id))) (hs:yM slice)
  (h:wpAny (model prog w) A (eval value env) (fun o s₁=>wpAny (model prog w) A (eval slice env) (fun i s₂=>s₂.TypeIs o T/\wpAny (model prog w) A (getItem o i) Q E s₂) E s₁) E s):
  wpAny (model prog w) A (eval (.Subscript value slice pos) env) Q E s:=by
 refine Subscript_ (wpAny_mono h (fun o s₁ h₁=>wpAny_mono h₁ (fun i s₂ h₂=>?_) fun _ _ x=>x) fun _ _ x=>x)
 obtain⟨hT,h₂⟩:=h₂
 unfold subscriptTail
 refine wpAny_bind ?_
 rw[getitemInPython_of_ne hT.not_modules]
 refine wpAny_bind (wpAny_specialOf hT hl ?_)
 have fin:wpAny (model prog w) A (subscripted slice false o i) (fun r s₃=>wpAny (model prog w) A (letTemporaryGo value o r >>= fun _=>pure r) Q E s₃) E s₂:=by
  rw[hs o i]
  exact wpAny_operating (wpAny_mono h₂ (fun r s₃ h₃=>wpAny_bind (wpAny_letTemporaryGo (wpAny_pure h₃))) fun _ _ x=>x)
 first
  | exact wpAny_pure (wpAny_bind fin)
  | exact wpAny_bind (wpAny_pure (wpAny_bind fin))
  | exact wpAny_bind fin
theorem oj {X:Cx} {pins:List (Addr×Obj)} {σ:St} {H:Hp} {s:Shared} {a:Addr} {y:V} {o:Option V} (I:Inv X pins σ H s) (g:DGet H a y o):s.TypeIs (.ref a) "dict":=by
 rcases g with⟨kvs,k,e,_,_⟩ | ⟨kvs,k,b,e,_,_,_⟩
 ·obtain⟨_,_,vs,_,dd⟩:=og I.hok e
  exact dd.typeIs
 ·obtain⟨_,_,xs,_,dd⟩:=oi I.hok e
  exact dd.typeIs
def yN (td ty:TE):TE:=fun σ H Q=>td σ H fun x H1=>ty σ H1 fun y H2=>∃a v,x= .ref a/\DGet H2 a y (some v)/\Q v H2
def zG (ty td:TE):TE:=fun σ H Q=>ty σ H fun y H1=>td σ H1 fun x H2=>∃a o,x= .ref a/\DGet H2 a y o/\Q (.bl o.isSome) H2
section
variable {X:Cx} {o i e value:Expr} {pos pos' tpos:Pos} {td ty tv:TE}
theorem qN (hu:X.A.units+1<cLine) (ho:PE X o td) (hi:PE X i ty) (hs:yM i):PE X (.Subscript o i pos) (yN td ty):=by
 intro pins s σ H Q I h
 refine vZ PySem.F.slot_dict_getitem.lookup hs (bK (ho pins s σ H _ I h) fun u s1 h1=>?_)
 obtain⟨x,H1,I1,rx,q1⟩:=h1
 refine bK (hi pins s1 σ H1 _ I1 q1) fun iv s2 h2=>?_
 obtain⟨y,H2,I2,ry,a,v,ex,g,q2⟩:=h2
 subst ex
 obtain rfl:u=Value.ref a:=rx
 exact⟨oj I2 g,rT hu I2 g ry fun w' s3 I3 rw'=>⟨v,H2,I3,rw',q2⟩⟩
theorem xD (hu:X.A.units+1<cLine) (hi:PE X i ty) (ho:PE X o td):PC X .In i o (zG ty td):=by
 intro pins s σ H Q I h
 refine bK (hi pins s σ H _ I h) fun iv s1 ⟨y,H1,I1,ry,q1⟩=>bK (ho pins s1 σ H1 _ I1 q1) fun u s2 hq__=>?_
 obtain⟨x,H2,I2,rx,a,ov,ex,g,q2⟩:=hq__
 subst ex
 obtain rfl:u=Value.ref a:=rx
 exact zF hu I2 g ry fun s3 I3=>⟨.bl ov.isSome,H2,I3,rfl,q2⟩
end
section
variable {X:Cx} {pos:Pos}
end
structure M2 (X:Cx) (o:Expr) (m:Str) (apos:Pos) (e f:Expr) (cpos:Pos):Prop where
 base:attributeBase o m X.env (eval o X.env)=eval o X.env
 few:((backTo cpos (starEach [e,f] X.env)).all (fun x=> !x.1)&&(backToKw cpos (keywordEach [] X.env)).all (fun x=>x.1.isSome)
  &&decide (([e,f]:List Expr).length+([]:List Keyword).length+(if([]:List Keyword).isEmpty then 0 else 1)<30))=true
 line:(apos.endLine==cpos.line)=true
 trees:backTo cpos (starEach [e,f] X.env)=[(false,eval e X.env),(false,eval f X.env)]
def zX (H:Hp) (a:Addr):Prop:=(∃kvs,Rd H a (.dK kvs))\/∃kvs,Rd H a (.dT kvs)
theorem xE {X:Cx} {pins:List (Addr×Obj)} {σ:St} {H:Hp} {s:Shared} {a:Addr} (I:Inv X pins σ H s) (d:zX H a):
  s.TypeIs (.ref a) "dict"/\(∀b,Value.ref a= .ref b->∃ob,s.heap.get? b=some ob/\ob.dict=none)/\(a==sysModules)=false:=by
 rcases d with⟨kvs,e⟩ | ⟨kvs,e⟩
 ·obtain⟨_,hd,vs,_,dd⟩:=og I.hok e
  refine⟨dd.typeIs,fun b q=>?_,hd⟩
  cases q
  obtain⟨ob,_,_,h1,h2,_⟩:=dd
  exact⟨ob,h1,h2.2.1⟩
 ·obtain⟨_,hd,xs,_,dd⟩:=oi I.hok e
  refine⟨dd.typeIs,fun b q=>?_,hd⟩
  cases q
  obtain⟨ob,_,_,h1,h2,_⟩:=dd
  exact⟨ob,h1,h2.2.1⟩
section
variable {X:Cx} {pins:List (Addr×Obj)} {σ:St} {H:Hp} {s:Shared} {a:Addr} {y d:V} {u r:Value} {o:Option V} {A:Around} {E:Value->Shared->Prop}
theorem xF {Q:Value->Shared->Prop} (hu:A.units+1<cLine) (I:Inv X pins σ H s) (g:DGet H a y o) (ry:RelV y u) (rd:RelV d r) (h:∀w' s',Inv X pins σ H s'->RelV (o.getD d) w'->Q w' s'):
  wpAny (model X.prog X.w) A (call (.builtin "dict.get") [.ref a,u,r]) Q E s:=by
 rcases g with⟨kvs,k,e,ey,l⟩ | ⟨kvs,k,b,e,ey,eb,l⟩
 ·subst ey
  obtain⟨z,hd,vs,rel,dd⟩:=og I.hok e
  refine call_meetsIn PySem.F.slot_dict_get dd.typeIs PySem.F.entry_dict_get (PySem.F.args_dict_get_3 _ _ _) (meets_dict_get_default (bq X.prog X.w) a (oe ry) hd r) ⟨_,dd.mapOf,h _ _ (I.tok _) ?_⟩
  rw[l]
  exact(rel.val k).getD rd
 ·subst ey
  cases(show u=Value.ref b from ry)
  obtain⟨z,hd,xs,rel,dd⟩:=oi I.hok e
  refine call_meetsIn PySem.F.slot_dict_get dd.typeIs PySem.F.entry_dict_get (PySem.F.args_dict_get_3 _ _ _) (meetsH_dict_get_default (tupleKind (bq X.prog X.w)) a b hd r) ⟨tupleKind_room_in1 hu,k,xs,mI I.hok eb,dd,h _ _ (I.tok _) ?_⟩
  rw[l]
  exact(rel.val k).getD rd
end
def xG (td ty tx:TE):TE:=fun σ H Q=>td σ H fun x H1=>∃a,x= .ref a/\zX H1 a/\ty σ H1 fun y H2=>tx σ H2 fun z H3=>∃o,DGet H3 a y o/\Q (o.getD z) H3
section
variable {X:Cx} {o e f:Expr} {apos cpos:Pos} {td ty tx:TE}
theorem om (hu:X.A.units+1<cLine) (ho:PE X o td) (he:PE X e ty) (hf:PE X f tx) (m:M2 X o "get" apos e f cpos):PE X (.Call (.Attribute o "get" apos) [e,f] [] cpos) (xG td ty tx):=by
 intro pins s σ H Q I h
 refine wpAny_Call_method m.base m.few m.line PySem.F.plainAttrs_dict PySem.F.slot_dict_get PySem.F.type_dict_get (bK (ho pins s σ H _ I h) fun u s1 hq__=>?_)
 obtain⟨x,H1,I1,rx,a,ex,d,q1⟩:=hq__
 subst ex
 obtain rfl:u=Value.ref a:=rx
 obtain⟨t1,t2,_⟩:=xE I1 d
 refine⟨t1,t2,?_⟩
 rw[m.trees]
 refine Calls.callWith_builtin rfl (Calls.evalArgs_plain (Calls.spliced_cons (bK (he pins s1 σ H1 _ I1 q1) fun iv s2 ⟨y,H2,I2,ry,q2⟩=>
  Calls.spliced_cons (bK (hf pins s2 σ H2 _ I2 q2) fun fv s3 ⟨z,H3,I3,rz,ov,g,q3⟩=>Calls.spliced_nil ?_))))
 exact xF hu I3 g ry rz fun w' s4 I4 rw'=>⟨_,H3,I4,rw',q3⟩
end
section
variable {X:Cx} {pins:List (Addr×Obj)} {σ:St} {H:Hp} {s:Shared} {a:Addr} {kvs:List (dJ×V)} {A:Around} {E:Value->Shared->Prop}
end
section
variable {X:Cx} {pins:List (Addr×Obj)} {σ:St} {H:Hp} {s:Shared} {a:Addr} {y:V} {u:Value} {A:Around} {E:Value->Shared->Prop}
end
end L2
namespace Att
open PySem PySem.W PySem.Calls PyProof.Rows
theorem jI {P:Params} {h:Heap}:∀(ns:List Int) (vs:List Value),WellAll P h vs (ns.map WData.int)->IntsAre vs ns:=by
 intro ns
 induction ns with
 | nil=>
  intro vs w
  rw[List.map_nil]at w
  cases w
  exact .nil
 | cons n ns ih=>
  intro vs w
  rw[BN]at w
  cases w with
  | cons a b=>
   cases a
   exact .cons _ _ (ih _ b)
theorem rV {l:OpenLaw} {n:Nat} (hn:l.most=some n) {P:Params} {h:Heap} {args:List WData} {vals:List Value}
  (hpre:l.row.toRowW.claim.pre args=true) (hwl:WellAll P h vals args):
  ∃a vs ns,vals=[Value.ref a]/\args=[WData.list (ns.map WData.int)]/\h.get? a=some {cls:= .type "list",data:= .seq vs.toArray}/\IntsAre vs ns/\ns.length<=n:=by
 have hsh:WShape.hasAll [] args [.list .int]=true:=(pre_splitW hpre).1
 have hc:l.pre.holds [] {args:=args}=true:=(pre_splitW hpre).2
 obtain⟨d,r,rfl,h1,h2⟩:=hasAllW_cons hsh
 obtain rfl:=hasAllW_nil h2
 obtain⟨xs,rfl,h3⟩:=hasW_list h1
 obtain⟨ns,rfl⟩:=items_int h3
 have hlen:ns.length<=n:=by
  unfold OpenLaw.pre at hc
  have h4:(WTm.not (.lt (.lit (.int (n:Int))) (.len (.arg 0)))).holds [] {args:=[.list (ns.map .int)]}=true:=by
   have h4:=(holds_andW hc).1
   rw[hn]at h4
   exact h4
  have h5:=condW_of h4 (w_not (w_lt w_lit (w_len_list (w_arg rfl))))
  rw[AC]at h5
  refine BK fun q=>?_
  have q':(n:Int)<((ns.length:Nat):Int):=by omega
  first
   | (rw [decide_eq_true q']at h5;exact absurd h5 (by decide))
   | (simp at h5;omega)
 cases hwl with
 | cons w1 w2=>
  cases w2
  cases w1 with
  | list ho hall=>exact⟨_,_,ns,rfl,rfl,ho,jI ns _ hall,hlen⟩
theorem rW (l:OpenLaw) (args:List WData):l.row.toRowW.claim.post args (.bool true) args=true:=
 postW_of (r:=l.row.toRowW) (X:=(true==true))
  (show WShape.has [] (.bool true) .bool=true by first | rfl | decide | simp[WShape.has,WShape.arms,WShape.armsAll])
  (show(WTm.eq .res (.lit (.bool true))).value [] {args:=args,res:=some (.bool true),after:=args}=some (.bool (true==true))from w_eq_bool (w_res rfl) w_lit) rfl
theorem oo {l:OpenLaw} {n:Nat} {q:Program} {loose:List Str} {XP:(Str->Option Value)->Heap->Prop} {YP:World->Heap->Prop} {d:DefRec}
  (hn:l.most=some n) (hdf:d.params.defaults=[])
  (call:∀(w:World) (s₀ s₁:Shared) (mg mb:Str->Option Value) (fa:Addr) (o:Obj) (pm cd doc:Value) (a:Addr) (vs:List Value) (ns:List Int),
   Ground q loose [] XP w s₀ mg mb s₁.heap->YP w s₁.heap->
   s₁.heap.get? fa=some o->o.data= .func (docDef d.name d.params d.body d.scope pm cd doc)->s₁.heap.CodeRec cd d.name->mg d.name=some (.ref fa)->
   s₁.heap.get? a=some {cls:= .type "list",data:= .seq vs.toArray}->IntsAre vs ns->ns.length<=n->s₁.gens=#[]->
   codeAny (model l.prog w) callerA (.call (.ref fa) ⟨[.ref a],[]⟩) (fun r s'=>r= .ok (.ret (.bool true))/\OldK s₁.heap s'.heap/\s'.os=s₁.os/\AllBare s'.gens) s₁):
  WalkO q loose XP YP l.row.toRowW d [] (fun f vs=>PySem.call f vs):=by
 intro w s₀ s₁ mg mb G Y fa o pm cd doc dV kV ho hd hcd hD hmg hg args vals as hpre hlay hrd hwl hlo
 obtain rfl:dV= .none:=Dflts.none hD hdf
 obtain rfl:kV= .none:=Dflts.noKw hD
 obtain⟨a,vs,ns,rfl,rfl,hobj,hints,hlen⟩:=rV hn hpre hwl
 refine enter_call (codeAny_mono (call w s₀ s₁ mg mb fa o pm cd doc a vs ns G Y ho (fd_plain hd) hcd hmg hobj hints hlen hg) fun r s' hq=>?_)
 obtain⟨rfl,h2,h3,h4⟩:=hq
 exact⟨.inl ⟨.bool true,.bool true,[],rfl,fun _=>rfl,.bool true,rW l _,fun _=>⟨List.Pairwise.nil,fun _ hm=>(nomatch hm)⟩⟩,h2,h3,h4⟩
section
variable {prog:Program} {w:World} {A:Around} {E:Value->Shared->Prop} {s:Shared} {K:Frag}
end
end Att
namespace L2
open PySem PySem.Spec PyProof.Rows
theorem lM:∀{vs:List Value} {ns:List Int},IntsAre vs ns->Vals (ns.map V.int) vs:=by
 intro vs ns h
 induction h with
 | nil=>exact .nil
 | cons n t h ih=>exact .cons ⟨t,rfl⟩ ih
def xH (H:Hp):Prop:=∀b,H b=none\/∃o xs,H b=some (.frz o (.lst xs))
theorem uf {P:Program} {w:World} {K:PySem.W.Frag} {mg mb:Str->Option Value} {CX:tW} {k:Nat} {fa a:Addr} {fd:FuncData} {x:Str} {sp:Sp} {s₁:Shared} {vs:List Value} {ns:List Int}
  (KX:K.In s₁.heap) (hns:s₁.heap.Ns mainGlobals mg) (hb:s₁.heap.Ns builtinsNs mb) (hbb:∀x:Str,x≠"__name__"->mb x=bootBuiltins x) (hlim:s₁.heap.NoLimit) (hg:s₁.gens=#[])
  (ha:s₁.heap.get? a=some {cls:= .type "list",data:= .seq vs.toArray}) (hi:IntsAre vs ns) (hl:ns.length<=sizeLine) (hr:Room k callerA)
  (F:∀base:Heap,K.In base->base.Ns mainGlobals mg->FnOk P w K mg base CX k fa fd [x] sp) (hbind:∀(s:Shared) (u:Value),BindsTo s fd ⟨[u],[]⟩ [(x,u)])
  (hsp:∀H:Hp,xH H->SqL K H a (ns.map V.int)->sp [.ref a] H (fun v _=>v= .bl true) fun _ _ _=>False)
  (hCX:∀H e s',CX [] H s₁ (fun _ _ _=>False) e s'->False):
  codeAny (model P w) callerA (.call (.ref fa) ⟨[.ref a],[]⟩) (fun r s'=>r= .ok (.ret (.bool true))/\OldK s₁.heap s'.heap/\s'.os=s₁.os/\AllBare s'.gens) s₁:=by
 have rv:=lM hi
 have lenV:=hi.length
 have core:∀H:Hp,xH H->SqL K H a (ns.map V.int)->HOk P w H s₁.heap->(∀b,H b≠none->b=a)->(H a≠none->K.lookup a=none)->
   codeAny (model P w) callerA (.call (.ref fa) ⟨[.ref a],[]⟩) (fun r s'=>r= .ok (.ret (.bool true))/\OldK s₁.heap s'.heap/\s'.os=s₁.os/\AllBare s'.gens) s₁:=by
  intro H hO hS hok hA hK
  have base_of:∀{b:Addr} {o:Obj},s₁.heap.get? b=some o->H b=none->(mB s₁.heap H).get? b=some o:=fun e n=>tY e n
  have noA:∀{b:Addr} {o:Obj} {es:Array DictEntry} {ep:Nat},s₁.heap.get? b=some o->o.data= .dict es ep->H b=none:=fun {b o es ep} e d=>by
   cases q:H b with
   | none=>rfl
   | some u=>
    have e':b=a:=hA b (by rw[q];simp)
    subst e'
    rw[ha]at e;cases e
    have d':Data.seq vs.toArray _=Data.dict es ep:=d
    cases d'
  have nsK:∀{b:Addr} {m:Str->Option Value},s₁.heap.Ns b m->(mB s₁.heap H).Ns b m:=fun {b m} ⟨o,es,ep,e,d,r⟩=>⟨o,es,ep,base_of e (noA e d),d,r⟩
  have hKb:K.In (mB s₁.heap H):=fun b o e=>base_of (KX b o e) (by
   cases q:H b with
   | none=>rfl
   | some u=>
    have e':b=a:=hA b (by rw[q];simp)
    subst e'
    rw[hK (by rw[q];simp)]at e;cases e)
  have hM:Mod K mg (mB s₁.heap H):=⟨hKb,nsK hns,⟨mb,nsK hb,hbb⟩,let⟨mc,h1,h2⟩:=hlim;⟨mc,nsK h1,h2⟩⟩
  have e0:Env0 P w K mg (mB s₁.heap H) callerA [] s₁ H:=⟨rfl,hM,fun b o e=>vH e,Nat.le_of_eq (rG _ _),trivial,fun b hb=>absurd (show b∈([]:List Addr)from hb) (by simp),hok,.of_eq hg⟩
  refine codeAny_mono ((F _ hKb (nsK hns)).run callerA [] s₁ H ⟨[.ref a],[]⟩ [.ref a] [.ref a] _ _ hr e0 (hbind s₁ (.ref a)) (.cons rfl .nil) (hsp H hO hS)) fun r s' h=>?_
  cases r with
  | error e=>exact(hCX H e s' h).elim
  | ok fl=>
   cases fl with
   | next=>exact False.elim h
   | brk=>exact False.elim h
   | cont=>exact False.elim h
   | ret u=>
    obtain⟨v,H',os,bare,un,hok',r',q⟩:=h
    have q':v= .bl true:=q
    subst q'
    obtain rfl:u=Value.bool true:=r'
    refine⟨rfl,OldK.of_keep fun b o e=>?_,os,bare⟩
    cases q:H b with
    | none=>exact un.keep b o e q (by intro z;exact absurd (show b∈([]:List Addr)from z) (by simp)) (by simp)
    | some u=>
     rcases hO b with z | ⟨ob,xs,z⟩
     ·rw [q]at z;cases z
     ·have z2:=un.frzs b ob _ z
      obtain⟨e1,_⟩:=hok b _ z
      obtain⟨e2,_⟩:=hok' b _ z2
      rw[e]at e1;cases e1
      exact e2
 cases hk:K.lookup a with
 | some o=>
  have e:=KX a o hk
  rw[ha]at e
  cases e
  refine core (fun _=>none) (fun _=> .inl rfl) (.inr ⟨_,vs.toArray,_,hk,rfl,rfl,rfl,by rw[AM,lenV];exact hl,by simpa using rv⟩) (fun b u z=>by have z':(none:Option HO)=some u:=z;cases z') (fun b z=>absurd rfl z) fun z=>absurd rfl z
 | none=>
  refine core (fun b=>if b=a then some (.frz {cls:= .type "list",data:= .seq vs.toArray} (.lst (ns.map V.int)))else none) (fun b=>?_) (.inl (.inr ⟨{cls:= .type "list",data:= .seq vs.toArray},if_pos rfl⟩)) (fun b u z=>?_) (fun b z=>?_) fun _=>hk
  ·by_cases hb:b=a
   ·exact .inr ⟨_,_,if_pos hb⟩
   ·exact .inl (if_neg hb)
  ·by_cases hb:b=a
   ·have z':=(if_pos hb).symm.trans z
    cases z'
    subst hb
    exact⟨ha,by rw[AC];exact hl,vs,_,rv,ha⟩
   ·have z':=(if_neg hb).symm.trans z
    cases z'
  ·by_cases hb:b=a
   ·exact hb
   ·exact absurd (if_neg hb) z
abbrev AB {K:PySem.W.Frag} {h:Heap} (_:K.In h):PySem.W.Frag:=K
theorem v5 {l:PySem.W.OpenLaw} {n k:Nat} {q:Program} {loose:List Str} {XP:(Str->Option Value)->Heap->Prop} {YP:World->Heap->Prop} {d:DefRec} {K:Params->PySem.W.Frag} {CX:World->tW} {sp:World->Sp} {x:Str}
  (hn:l.most=some n) (hn2:n<=sizeLine) (hdf:d.params.defaults=[]) (hr:Room k callerA)
  (hY:∀(w:World) (h:Heap),YP w h->(K w.params).In h)
  (F:∀(w:World) (mg:Str->Option Value) (fa:Addr) (h:Heap),(K w.params).In h->h.Ns mainGlobals mg->mg d.name=some (.ref fa)->
   ∃fd:FuncData,(∀(s:Shared) (u:Value),BindsTo s fd ⟨[u],[]⟩ [(x,u)])/\
    ∀base:Heap,(K w.params).In base->base.Ns mainGlobals mg->FnOk l.prog w (K w.params) mg base (CX w) k fa fd [x] (sp w))
  (hsp:∀(w:World) (H:Hp) (a:Addr) (ns:List Int),ns.length<=n->xH H->SqL (K w.params) H a (ns.map V.int)->sp w [.ref a] H (fun v _=>v= .bl true) fun _ _ _=>False)
  (hCX:∀(w:World) (H:Hp) (s:Shared) (e:Value) (s':Shared),CX w [] H s (fun _ _ _=>False) e s'->False):
  PySem.W.WalkO q loose XP YP l.row.toRowW d [] (fun f vs=>PySem.call f vs):=by
 refine Att.oo hn hdf fun w s₀ s₁ mg mb fa o pm cd doc a vs ns G Y ho hd hcd hmg hobj hints hlen hg=>?_
 have KX:=hY w _ Y
 obtain⟨fd,hb,hF⟩:=F w mg fa _ KX G.T.g hmg
 exact uf KX G.T.g G.T.b G.T.builtins G.T.nolimit hg hobj hints (A9 hlen hn2) hr hF hb (fun H hO hS=>hsp w H a ns hlen hO hS) fun H e s'=>hCX w H s₁ e s'
def fo (s:Stmt):Arguments:=match s with
 | .FunctionDef _ a _ _ _ _ _ _ _ _=>a
 | _=>{posonlyargs:=[],args:=[],vararg:=none,kwonlyargs:=[],kw_defaults:=[],kwarg:=none,defaults:=[]}
def eE (s:Stmt):List Stmt:=match s with
 | .FunctionDef _ _ b _ _ _ _ _ _ _=>b
 | _=>[]
def ar (s:Stmt):Scope:=match s with
 | .FunctionDef _ _ _ _ _ _ sc _ _ _=>sc
 | _=>{kind:= .function,names:=[],isGenerator:=false,isCoroutine:=false}
abbrev aX:tW:=fun _ _ _ _ _ _=>False
abbrev E0:XK:=fun _ _ _=>False
theorem yO {X:Cx}:pK aX X E0:=fun _ _ _ _ _ _ _ h=>h.elim
structure Fun (K:PySem.W.Frag) (x qual:Str) (st:Stmt) (f:Addr) (fd:FuncData):Prop where
 ex:∃(oc:Value) (od:Option Addr) (kV doc pm:Value) (an:Option Addr) (cdv ct:Value) (osl:Array (Option Value)),
  fd=PySem.W.fnOf x qual (fo st) (eE st) (ar st) .none kV doc pm an cdv ct/\K.lookup f=some ⟨oc,od,.func fd,osl⟩/\PySem.W.codeIn K cdv qual=true
 kp:PySem.W.keepIn K (.ref f)=true
section
variable {P:Program} {w:World} {K:PySem.W.Frag} {mg:Str->Option Value} {base:Heap}
theorem Fun.ok {x qual:Str} {st:Stmt} {f:Addr} {fd:FuncData} {N ps:List Str} {k:Nat} {sp:Sp} (F:Fun K x qual st f fd) (S:FnScope N ps (ar st)) (len:∀vs H Q E,sp vs H Q E->vs.length=ps.length)
  (hbody:∀(cdv:Value) (A:Around) (outer:List Env) (s:Shared) (H:Hp) (vs:List V) (Q:VK) (E:XK),Room k (A.deeper (envOfC qual (ar st) s.heap.objs.size f cdv))->sp vs H Q E->
   ∃t,PSs (nY aX P w K mg base N qual (ar st) f cdv A outer s H E).nox (eE st) t/\t {nx:=fun _ H'=>Q .non H',rt:=Q} (jm N vs) H):FnOk P w K mg base aX (k+1) f fd ps sp:=by
 obtain⟨oc,od,kV,doc,pm,an,cdv,ct,osl,rfl,lk,hcd⟩:=F.ex
 refine yG lk hcd S len fun A outer s H vs Q E hr hsp=>?_
 obtain⟨t,h,q⟩:=hbody cdv A outer s H vs Q E hr hsp
 exact⟨t,h.nox,q⟩
theorem Fun.binds {x qual:Str} {st:Stmt} {f:Addr} {fd:FuncData} {ps:List Str} (F:Fun K x qual st f fd)
  (h:∀(kV doc pm:Value) (an:Option Addr) (cdv ct:Value) (us:List Value),us.length=ps.length->bindArgs (PySem.W.fnOf x qual (fo st) (eE st) (ar st) .none kV doc pm an cdv ct) ⟨us,[]⟩=pure (ps.zip us)):Binds K fd ps []:=by
 obtain⟨oc,od,kV,doc,pm,an,cdv,ct,osl,rfl,lk,hcd⟩:=F.ex
 exact .all (h kV doc pm an cdv ct)
theorem xI {x qual:Str} {st:Stmt} {f:Addr} {oc:Value} {od an:Option Addr} {osl:Array (Option Value)} {kV doc pm cdv ct:Value} (l:K.lookup f=some ⟨oc,od,.func (PySem.W.fnOf x qual (fo st) (eE st) (ar st) .none kV doc pm an cdv ct),osl⟩)
 (c:PySem.W.codeIn K cdv qual=true) (k:PySem.W.keepIn K (.ref f)=true):Fun K x qual st f (PySem.W.fnOf x qual (fo st) (eE st) (ar st) .none kV doc pm an cdv ct):=⟨⟨oc,od,kV,doc,pm,an,cdv,ct,osl,rfl,l,c⟩,k⟩
end
theorem be {A:Around} {k:Nat} (hr:Room k A):A.units+1<cLine:=Ci (Ct (by decide:1<=64) _) hr.units
theorem rX {n:Nat} (h:n<=1000):n<sizeLine:=Ci h (by decide)
section
variable {X:Cx}
theorem pv (i:Nat) {x:Str} {pos:Pos} (hN:X.N[i]?=some x:=by rfl) (hv:y8 X.env.scope x:=by first | exact Or.inl rfl | exact Or.inr (Or.inl rfl) | exact Or.inr (Or.inr rfl)) (hd:(x==("__debug__":Str))=false:=by decide)
 (hcd:(x==("__classdict__":Str))=false:=by decide):PE X (.Name x pos) (yo i):=xn hN hv hd hcd
end
theorem aE {A B:Prop} (h:B):if false=true then A else B:=by
 rw[if_neg AO]
 exact h
theorem bP {A B:Prop} (h:A):if true=true then A else B:=by
 rw[if_pos rfl]
 exact h
def Same (H H':Hp):Prop:=∀b o,H b=some o->H' b=some o
theorem Same.refl (H:Hp):Same H H:=fun _ _ h=>h
theorem Same.trans {H H1 H2:Hp} (a:Same H H1) (b:Same H1 H2):Same H H2:=fun c o h=>b c o (a c o h)
theorem Same.free {H H':Hp} (e:Same H H') {l:Addr} (h:H' l=Option.none):H l=Option.none:=by
 cases q:H l with
 | none=>rfl
 | some o=>
  rw[e l o q]at h
  cases h
theorem Same.seq {K:PySem.W.Frag} {H H':Hp} {a:Addr} {xs:List V} (e:Same H H') (h:SqL K H a xs):SqL K H' a xs:=by
 rcases h with(h | ⟨o,h⟩) | h
 ·exact .inl (.inl (e _ _ h))
 ·exact .inl (.inr ⟨o,e _ _ h⟩)
 ·exact .inr h
section
variable {κ:Type} [DecidableEq κ]
theorem qO {l:List κ} {k:κ} (h:l.Nodup) (n:¬k∈l):(l++[k]).Nodup:=Cz.mpr ⟨h,B5 _ _,fun a ha b hb e=>n (by rw[<- AN.mp hb,<- e];exact ha)⟩
end
structure BA where
 cl:List (Str×Addr)
 C:Addr
 s₀:Shared
 H₀:Hp
 ex:List Addr
abbrev kY (X:Cx) (sc:Scope) (N:List Str) (b:BA):Cx:=
 {prog:=X.prog,w:=X.w,K:=X.K,mg:=X.mg,base:=X.base,A:=X.A,N:=N,s₀:=b.s₀,H₀:=b.H₀,env:=compEnvC sc b.cl b.C X.env,outer:=X.stack,stack:=X.stack,ex:=b.ex,fn:=fun _=>false,calm:=X.calm,pn:=[],xe:=fun _ _=>False}
def bQ (env:Env):List (Str×Addr)->List (Str×NameKind)->List (Str×Addr)
 | acc,[]=>acc
 | acc,(n,k) :: r=>bQ env (if k== .free then(match env.cells.lookup n with | some c=>(n,c) :: acc | none=>acc)else acc) r
theorem ug (env:Env):∀(l:List (Str×NameKind)) (acc:List (Str×Addr)),(∀y∈l,y.2= .free->∃c,env.cells.lookup y.1=some c)->
  (forIn l acc (fun(x:Str×NameKind) (cs:List (Str×Addr))=>(match x with
   | (name,kind)=>if(kind== .free)=true then(do let a <- cellOf env name;pure (ForInStep.yield ((name,a) :: cs)))else pure (ForInStep.yield cs):Sem (ForInStep (List (Str×Addr))))))=(pure (bQ env acc l):Sem (List (Str×Addr))):=by
 intro l
 induction l with
 | nil=>intro acc _;rfl
 | cons nk r ih=>
  obtain⟨n,k⟩:=nk
  intro acc h
  have hr:∀y∈r,y.2= .free->∃c,env.cells.lookup y.1=some c:=fun y hy=>h y (AY _ hy)
  rw[List.forIn_cons]
  by_cases hk:k= .free
  ·subst hk
   obtain⟨c,hc⟩:=h (n,.free) A7 rfl
   have hc':env.cells.lookup n=some c:=hc
   simp only[beq_self_eq_true,if_true,bQ,hc']
   have e:cellOf env n=pure c:=by unfold cellOf;rw[hc']
   rw[e,pure_bind,pure_bind]
   exact ih _ hr
  ·have hb:(k==NameKind.free)=false:=by simpa using hk
   simp only[hb,Be,if_false,bQ]
   rw[pure_bind]
   exact ih _ hr
theorem v7 {env:Env} {sc:Scope} (h:∀y∈sc.names,y.2= .free->∃c,env.cells.lookup y.1=some c):closureFor sc env=pure (bQ env [] sc.names):=by
 unfold closureFor
 exact(congrArg (fun m=>m >>= fun cs=>pure cs) (ug env sc.names [] h)).trans (pure_bind _ _)
theorem cX {env:Env}:∀(l:List (Str×NameKind)) (acc:List (Str×Addr)),(∀x c,acc.lookup x=some c->env.cells.lookup x=some c)->
  ∀x c,(bQ env acc l).lookup x=some c->env.cells.lookup x=some c:=by
 intro l
 induction l with
 | nil=>intro acc h x c e;exact h x c e
 | cons nk r ih=>
  obtain⟨n,k⟩:=nk
  intro acc h x c e
  refine ih _ (fun y d q=>?_) x c e
  by_cases hk:(k==NameKind.free)=true
  ·rw [if_pos hk]at q
   cases hl:env.cells.lookup n with
   | none=>rw[hl]at q;exact h y d q
   | some a=>
    rw[hl]at q
    simp only[Bi]at q
    by_cases hy:(y==n)=true
    ·rw [hy]at q
     have e1:y=n:=by simpa using hy
     subst e1
     cases q
     exact hl
    ·rw [BV]at hy
     rw[hy]at q
     exact h y d q
  ·rw [if_neg hk]at q
   exact h y d q
theorem lN {env:Env}:∀(l:List (Str×NameKind)) (acc:List (Str×Addr)) (x:Str),(acc.lookup x).isSome=true->((bQ env acc l).lookup x).isSome=true
 | [],acc,x,h=>h
 | (n,k) :: r,acc,x,h=>by
  refine lN r _ x ?_
  by_cases hk:(k==NameKind.free)=true
  ·rw [if_pos hk]
   cases env.cells.lookup n with
   | none=>exact h
   | some a=>
    show(List.lookup x ((n,a) :: acc)).isSome=true
    rw[Bi]
    by_cases hy:(x==n)=true
    ·rw [hy];rfl
    ·rw [BV]at hy
     rw[hy];exact h
  ·rw [if_neg hk];exact h
theorem lO {env:Env} (l:List (Str×NameKind)) (acc:List (Str×Addr)) (x:Str) (h:(x,NameKind.free)∈l) (q:∃c,env.cells.lookup x=some c):((bQ env acc l).lookup x).isSome=true:=by
 obtain⟨c,hc⟩:=q
 induction l generalizing acc with
 | nil=>cases h
 | cons p r ih=>
  rcases AR.mp h with e | h
  ·subst e
   refine lN r _ x ?_
   rw[if_pos (beq_self_eq_true _),hc]
   show(List.lookup x ((x,c) :: acc)).isSome=true
   rw[Bi,beq_self_eq_true];rfl
  ·exact ih _ h
theorem j4 {env:Env}:∀(l:List (Str×NameKind)) (x:Str) (k:NameKind),(∀y∈l,y.2≠ .cell)->k= .cell\/k= .free->
  (l.map fun(n,k)=>if(k==NameKind.free&&env.scope.kind== .function&&env.kindOf n==some .cell)then(n,NameKind.cell)else(n,k)).lookup x=some k->(x,NameKind.free)∈l:=by
 intro l
 induction l with
 | nil=>intro _ _ _ _ h;simp at h
 | cons nk r ih=>
  obtain⟨n,k'⟩:=nk
  intro x k hc hk h
  rw[BN]at h
  by_cases hx:(x==n)=true
  ·have e1:x=n:=by simpa using hx
   subst e1
   by_cases hf:k'= .free
   ·subst hf;exact A7
   ·exfalso
    have hb:(k'==NameKind.free)=false:=by simpa using hf
    simp only[hb,Bd,Be,if_false,Bi,beq_self_eq_true]at h
    have e2:k'=k:=Option.some.inj h
    rcases hk with z | z
    ·exact hc (x,k') A7 (e2.trans z)
    ·exact hf (e2.trans z)
  ·rw [BV]at hx
   refine AY _ (ih x k (fun y hy=>hc y (AY _ hy)) hk ?_)
   by_cases hq:(k'==NameKind.free&&env.scope.kind== .function&&env.kindOf n==some .cell)=true
   ·simp only[hq,if_true,Bi,hx]at h;exact h
   ·rw [BV]at hq
    simp only[hq,Be,if_false,Bi,hx]at h;exact h
theorem kZ {env:Env}:∀(l:List (Str×NameKind)) (x:Str),l.lookup x=some .free->
  ∃k,(k=NameKind.cell\/k=NameKind.free)/\(l.map fun(n,k)=>if(k==NameKind.free&&env.scope.kind== .function&&env.kindOf n==some .cell)then(n,NameKind.cell)else(n,k)).lookup x=some k:=by
 intro l
 induction l with
 | nil=>intro _ h;simp at h
 | cons nk r ih=>
  obtain⟨n,k'⟩:=nk
  intro x h
  rw[BN]
  by_cases hx:(x==n)=true
  ·simp only[Bi,hx]at h
   have e2:k'= .free:=Option.some.inj h
   subst e2
   by_cases hq:(NameKind.free==NameKind.free&&env.scope.kind== .function&&env.kindOf n==some .cell)=true
   ·exact⟨.cell,.inl rfl,by simp only[hq,if_true,Bi,hx]⟩
   ·rw [BV]at hq
    exact⟨.free,.inr rfl,by simp only[hq,Be,if_false,Bi,hx]⟩
  ·rw [BV]at hx
   simp only[Bi,hx]at h
   obtain⟨k,hk,e⟩:=ih x h
   refine⟨k,hk,?_⟩
   by_cases hq:(k'==NameKind.free&&env.scope.kind== .function&&env.kindOf n==some .cell)=true
   ·simp only[hq,if_true,Bi,hx];exact e
   ·rw [BV]at hq
    simp only[hq,Be,if_false,Bi,hx];exact e
theorem oq {l:List (Str×NameKind)} {x:Str} {k:NameKind}:l.lookup x=some k->(x,k)∈l:=by
 induction l with
 | nil=>intro h;simp at h
 | cons p r ih=>
  intro h
  obtain⟨n,k'⟩:=p
  by_cases hx:(x==n)=true
  ·simp only[Bi,hx]at h
   have e1:x=n:=by simpa using hx
   subst e1
   cases h
   exact A7
  ·rw [BV]at hx
   simp only[Bi,hx]at h
   exact AY _ (ih h)
section
variable {prog:Program} {w:World} {A:Around} {E:Value->Shared->Prop} {R:Result->Shared->Prop} {s:Shared}
abbrev w9:Value->Shared->Prop:=fun _ _=>False
theorem pP {elt target iter:Expr} {ifs:List Expr} {scope:Scope} {pos:Pos} {it acc:Value} {env:Env} (J:Nat->Shared->Prop)
  (turn:∀n s,J n s->wpAny (model prog w) A (pyNext it) (fun r s₁=>(r=none/\R (.ok .next) s₁)\/∃v,r=some v/\
   wpAny (model prog w) A (letOwnedTupleGo target it v) (fun _ s₁'=>wpAny (model prog w) A (assign target env v) (fun _ s₂=>
    wpAny (model prog w) A (forIn ifs true fun c r=>if r=true then do let ok <- isTrue c env (eval c env);pure (ForInStep.yield ok)else pure (ForInStep.yield r)) (fun ok s₃=>
     (ok=true->wpAny (model prog w) A (eval elt env) (fun x s₄=>wpAny (model prog w) A (call (.builtin "list.append") [acc,x]) (fun _ s₅=>∃m,m<n/\J m s₅) w9 s₄) w9 s₃)/\
     (ok=false->∃m,m<n/\J m s₃)) w9 s₂) w9 s₁') w9 s₁) w9 s)
  (n:Nat) (h:J n s):codeAny (model prog w) A (.compLoop (.ListComp elt [⟨target,iter,ifs,0⟩] scope pos) 0 it acc env) R s:=by
 refine codeAny_loop (M:=model prog w) (A:=A) rfl J (fun n s hJ=>?_) n h
 refine wpAny_noted (m:=compTurn (.ListComp elt [⟨target,iter,ifs,0⟩] scope pos) 0 it acc env) ?_
 rw[compTurn_list]
 refine wpAny_bind (wpAny_standAt (wpAny_bind (wpAny_mono (turn n s hJ) (fun r s₁ q=>?_) fun _ _ z=>z.elim)))
 rcases q with⟨e,q⟩ | ⟨v,e,q⟩
 ·subst e
  exact wpAny_pure q
 ·subst e
  refine wpAny_bind (wpAny_mono q (fun _ s₂ q=>?_) fun _ _ z=>z.elim)
  refine wpAny_bind (wpAny_mono q (fun _ s₃ q=>?_) fun _ _ z=>z.elim)
  refine wpAny_bind (wpAny_mono q (fun ok s₄ q=>?_) fun _ _ z=>z.elim)
  cases ok with
  | false=>exact wpAny_pure ⟨rfl,q.2 rfl⟩
  | true=>
   refine wpAny_bind (wpAny_bind (wpAny_mono (q.1 rfl) (fun x s₅ q=>?_) fun _ _ z=>z.elim))
   exact wpAny_bind (wpAny_mono q (fun _ s₆ q=>wpAny_pure (wpAny_pure ⟨rfl,q⟩)) fun _ _ z=>z.elim)
end
def yj (X:Cx) (ifs:List Expr) (t:TT):Prop:=
 ∀(pins:List (Addr×Obj)) (s:Shared) (σ:St) (H:Hp) (Q:Bool->Hp->Prop),Inv X pins σ H s->t σ H Q->
  wpAny (model X.prog X.w) X.A (forIn ifs true fun c r=>if r=true then do let ok <- isTrue c X.env (eval c X.env);pure (ForInStep.yield ok)else pure (ForInStep.yield r)) (TP X pins σ Q) X.xe s
def fN:TT:=fun _ H Q=>Q true H
theorem aJ {X:Cx}:yj X [] fN:=fun _ _ _ H _ I h=>wpAny_tests_nil ⟨H,I,h⟩
theorem fz {X:Cx} {c:Expr} {t:TT} (h:PT X c t):yj X [c] t:=fun pins s σ H Q I hw=>wpAny_tests_one (h pins s σ H Q I hw)
def bZ (σ:St) (js:List (Option Nat)):St:=js.map fun j=>j.bind fun i=>(σ[i]?).join
def v8 (σ σ':St):Prop:=σ'.length=σ.length/\∀(i:Nat) v,σ[i]?=some (some v)->σ'[i]?=some (some v)
def cE (J:It) (H1:Hp) (js:List (Option Nat)) (g:TG) (tc:TT) (te:TE) (σ:St) (Q:VK):Prop:=∀acc,H1 acc=none->
 ∃W:Nat->Nat->List V->Hp->Prop,(∃m,W 0 m [] (ay H1 acc (.lst [])))/\∀i m ys H,W i m ys H->
  (J.stop i H/\Q (.ref acc) H)\/(J.go i H/\∃N:List V->Hp->Prop,(∀ys' H',N ys' H'->∃m',m'<m/\W (i+1) m' ys' H')/\
   ∀x H',J.yld i H x H'->g x (bZ σ js) H' fun σ2 H2=>v8 (bZ σ js) σ2/\tc σ2 H2 fun b H3=>
    (b=true->te σ2 H3 fun y H4=>H4 acc=some (.lst ys)/\ys.length<sizeLine/\N (ys++[y]) (ay H4 acc (.lst (ys++[y]))))/\(b=false->N ys H3))
def uh (wi:TI) (js:List (Option Nat)) (g:TG) (tc:TT) (te:TE):TE:=fun σ H Q=>wi σ H fun J H1=>cE J H1 js g tc te σ Q
theorem Un.but {fs ex:List Addr} {H H1:Hp} {h h1 h2:Heap} (u:Un fs ex H H1 h h1) (k:∀b o,h.get? b=some o->∀o',h1.get? b=some o'->h2.get? b=some o'):Un fs ex H H1 h h2 where
 keep:=fun b o e n h1 h2=>k b o e _ (u.keep b o e n h1 h2)
 slot:=fun b o e n h1 h2=>let⟨sl,q⟩:=u.slot b o e n h1 h2;⟨sl,k b o e _ q⟩
 free:=u.free
 there:=fun b o e hx=>let⟨o',q⟩:=u.there b o e hx;⟨o',k b o e _ q⟩
 tups:=u.tups
 frzs:=u.frzs
 tbls:=u.tbls
theorem yk {P:Program} {w:World} {H:Hp} {h h':Heap} {C:Addr} (ok:HOk P w H h) (hn:H C=none) (k:∀b o,b≠C->h.get? b=some o->h'.get? b=some o):HOk P w H h':=fun b o e=>by
 refine(ok b o e).stay (fun c u hc q=>k c u ?_ q) (fun _ q=>q) fun _ _ q=>q
 rintro rfl
 rcases hc with z | z
 ·rw [z]at hn;rw[hn]at e;cases e
 ·rw [hn]at z;cases z
theorem dw {α β:Type} {F:α->β->Prop}:∀{l:List α} {r:List β} {i:Nat} {b:β},Paired F l r->r[i]?=some b->∃a,l[i]?=some a/\F a b:=by
 intro l r i b h
 induction h generalizing i with
 | nil=>intro e;simp at e
 | cons r t ih=>
  intro e
  cases i with
  | zero=>cases e;exact⟨_,rfl,r⟩
  | succ i=>exact ih e
theorem xJ {X:Cx} {pins:List (Addr×Obj)} {σ:St} {H:Hp} {s:Shared} {sc:Scope} {N:List Str} {fp:List Addr} (I:Inv X pins σ H s) (hk:sc.kind= .function)
  (hcell:∀y∈sc.names,y.2≠ .cell) (hcl:∀y∈sc.names,y.2= .free->∃c,X.env.cells.lookup y.1=some c) (f:∀b∈fp,mE X pins H b) (fl:∀b∈fp,b<s.heap.objs.size):
  (kY X sc N ⟨bQ X.env [] sc.names,s.heap.objs.size,s,H,fp⟩).Ok where
 mod:=I.ok.mod
 kind:=hk
 glob:=I.ok.glob
 blt:=I.ok.blt
 above:=AI _
 inj:=fun x y c e1 e2=>I.ok.inj x y c (cX _ [] (fun _ _ z=>by simp at z) x c e1) (cX _ [] (fun _ _ z=>by simp at z) y c e2)
 has:=fun x hx=>by
  have m:(x,NameKind.free)∈sc.names:=by
   rcases hx with z | z
   ·exact j4 (env:=X.env) sc.names x _ hcell (.inl rfl) z
   ·exact j4 (env:=X.env) sc.names x _ hcell (.inr rfl) z
  exact BJ.mp (lO sc.names [] x m (hcl _ m rfl))
 cab:=fun _ _ z=>by cases z
 hd:=I.ok.hd
 frames:=I.ok.frames
 stk:= .inl rfl
 exf:=fun b hb=>⟨AV (fl b hb),fun x c e=>(f b hb).2.2.2.2.1 x c (cX _ [] (fun _ _ z=>by simp at z) x c e)⟩
 bs:=I.bs
 bsz:=A9 I.ok.bsz I.sz
 noex:=fun b o e hb=>by
  rcases(f b hb).2.2.2.1 with z | z
  ·exact I.ok.noex b o e z
  ·exact absurd (A6 (Heap.lt_size (I.ok.bs b o e).1) z) (Bt _)
 exfs:=fun b hb hs=>by
  rcases AR.mp (I.stkSub b hs)with z | z
  ·exact(f b hb).2.1 z
  ·exact(f b hb).2.2.1 z
 funs:=I.stack
 frf:=I.stkFree
theorem v9 {X:Cx} {pins:List (Addr×Obj)} {σ:St} {H:Hp} {s s4:Shared} {sc:Scope} {N:List Str} {js:List (Option Nat)} {fp:List Addr} {m:Str->Option Value} (I:Inv X pins σ H s)
  (ok:(kY X sc N ⟨bQ X.env [] sc.names,s.heap.objs.size,s,H,fp⟩).Ok) (hfree:∀y∈sc.names,y.2= .free->X.env.kindOf y.1=some .cell\/X.env.kindOf y.1=some .free)
  (hN:Paired (fun(j:Option Nat) n=>∀i,j=some i->X.N[i]?=some n/\sc.names.lookup n=some .free) js N)
  (ho:s4.os=s.os) (hg:s4.gens=s.gens) (ns:s4.heap.Ns s.heap.objs.size m) (kp:∀b u,s.heap.get? b=some u->s4.heap.get? b=some u):
  Inv (kY X sc N ⟨bQ X.env [] sc.names,s.heap.objs.size,s,H,fp⟩) [] (bZ σ js) H s4 where
 ok:=ok
 os:=ho
 bare:=by rw[hg];exact I.bare
 base:=Un.kept kp
 loc:=by
  refine⟨m,ns,fun i x v e1 e2 e3=>?_⟩
  have e1':N[i]?=some x:=e1
  obtain⟨j,ej,fj⟩:=dw hN e1'
  unfold bZ at e2
  rw[AG,ej]at e2
  cases j with
  | none=>cases e2
  | some k=>
   obtain⟨a1,a2⟩:=fj k rfl
   have e2':(σ[k]?).join=some v:=Option.some.inj e2
   have e4:σ[k]?=some (some v):=by
    cases z:σ[k]? with
    | none=>rw[z]at e2';cases e2'
    | some y=>rw[z]at e2';exact congrArg some e2'
   have mem:=oq a2
   have kn:=hfree _ mem rfl
   have vis:y8 X.env.scope x:= .inr kn
   obtain⟨m',hn',hl'⟩:=I.loc
   obtain⟨u,ru,lk⟩:=hl' k x v a1 e4 vis
   refine⟨u,ru,.inr ⟨?_,?_⟩⟩
   ·obtain⟨k',hk',e⟩:=kZ (env:=X.env) sc.names x a2
    rcases hk' with z | z
    ·subst z;exact .inl e
    ·subst z;exact .inr e
   ·rcases lk with⟨z,_⟩ | ⟨_,c,hc,hcl⟩
    ·rcases kn with q | q
     ·have q':X.env.kindOf x=some .cell:=q
      rw[z]at q';cases q'
     ·have q':X.env.kindOf x=some .free:=q
      rw[z]at q';cases q'
    ·obtain⟨c',e'⟩:=BJ.mp (lO (env:=X.env) sc.names [] x mem ⟨c,hc⟩)
     have e2:=cX sc.names [] (fun _ _ z=>by simp at z) x c' e'
     rw[hc]at e2
     cases e2
     obtain⟨o,h1,h2⟩:=hcl
     exact⟨c,e',o,kp c o h1,h2⟩
 cell:=fun x c e=>by
  obtain⟨v,o,h1,h2⟩:=I.cell x c (cX _ [] (fun _ _ z=>by simp at z) x c e)
  exact⟨v,o,kp c o h1,h2⟩
 free:=I.hok.fresh (AI _)
 freeC:=fun x c e=>I.freeC x c (cX _ [] (fun _ _ z=>by simp at z) x c e)
 pin:=fun p hp=>by cases hp
 hok:=I.hok.kept kp
 len:=by
  unfold bZ
  rw[AC]
  exact Paired.length hN
set_option maxHeartbeats 4000000 in
theorem j5 {X:Cx} {cpos:Pos} {use:Option (Value->Sem Unit)} {R:Value->Shared->Prop} {pins:List (Addr×Obj)} {s:Shared} {σ:St} {H:Hp} {Q:VK} {elt iter tg:Expr} {ifs:List Expr} {sc:Scope} {pos:Pos} {wi:TI} {g:TG} {tc:TT} {te:TE} (N:List Str) (js:List (Option Nat))
  (hcalm:X.calm=true) (hi:PI X tg iter wi) (hg:∀b,PG (kY X sc N b) tg g) (hc:∀b,yj (kY X sc N b) ifs tc) (he:∀b,PE (kY X sc N b) elt te)
  (hN:Paired (fun(j:Option Nat) n=>∀i,j=some i->X.N[i]?=some n/\sc.names.lookup n=some .free) js N)
  (hk:sc.kind= .function)
  (hcell:(sc.names.all fun y=>y.2 != .cell)=true)
  (hfree:(sc.names.all fun y=>y.2 != .free||(X.env.scope.names.lookup y.1==some .cell||X.env.scope.names.lookup y.1==some .free))=true)
  (hnames:(sc.names.all fun y=>y.2 != .local||sc.names.lookup y.1==some .local)=true)
  (hs:∀x,foldedSetIterable iter X.env x=pure x) (I:Inv X pins σ H s) (h:uh wi js g tc te σ H Q)
  (fin0:∀(l C:Addr) (s':Shared) (H':Hp) (m:Str->Option Value),Inv X pins σ H' s'->s'.heap.Ns C m->H' C=none->X.env.locals≠C->X.s₀.heap.objs.size<=C->(∀x c,X.env.cells.lookup x=some c->c≠C)->(∀p∈X.pn++pins,p.1≠C)->Q (.ref l) H'->compPost (model X.prog X.w) X.A X.xe use R (.ref l) C (.ok .next) s'):
  wpAny (model X.prog X.w) X.A (comprehension (.ListComp elt [⟨tg,iter,ifs,0⟩] sc pos) sc X.env cpos (newList []) false (eval iter X.env) use) R X.xe s:=by
 have hcell':∀y∈sc.names,y.2≠ .cell:=fun y hy=>by simpa using AX.mp hcell y hy
 have hfree':∀y∈sc.names,y.2= .free->X.env.kindOf y.1=some .cell\/X.env.kindOf y.1=some .free:=fun y hy e=>by
  have q:=AX.mp hfree y hy
  rw[e]at q
  have q':X.env.scope.names.lookup y.1=some .cell\/X.env.scope.names.lookup y.1=some .free:=by simpa using q
  exact q'
 have hnames':∀y∈sc.names,y.2= .local->sc.names.lookup y.1=some .local:=fun y hy e=>by
  have q:=AX.mp hnames y hy
  rw[e]at q
  simpa using q
 have hcl:∀y∈sc.names,y.2= .free->∃c,X.env.cells.lookup y.1=some c:=fun y hy e=>I.ok.has y.1 (hfree' y hy e)
 refine wpAny_comprehension_free (use:=use) (g:=⟨tg,iter,ifs,0⟩) (gs:=[]) rfl hs (v7 hcl) hk hnames' ?_
 refine bK (hi pins s σ H _ I h) fun v s1 h1=>bK h1 fun itv s2 h2=>?_
 obtain⟨it,fp,tn,J,H2,e,I2,T,st2,f2,q⟩:=h2
 subst e
 obtain⟨W,⟨m0,w0⟩,step⟩:=q _ I2.fresh
 refine wpAny_newObj_type (wpAny_newFunctionEnv hcell' (by intro y hy;simp at hy) (fun h₁ hns hsb=>?_) hk)
 dsimp only at hns hsb ⊢
 have I3:Inv X pins σ (ay H2 s2.heap.objs.size (.lst [])) {s2 with heap:=s2.heap.push {cls:= .type "list",data:= .seq ([]:List Value).toArray},toks:=s2.toks}:=I2.lnew .nil (A0 _)
 generalize hs3:({s2 with heap:=s2.heap.push {cls:= .type "list",data:= .seq ([]:List Value).toArray},toks:=s2.toks}:Shared)=s3 at I3
 generalize hH3:ay H2 s2.heap.objs.size (.lst [])=H3 at I3 w0
 have es3:s3.heap=s2.heap.push {cls:= .type "list",data:= .seq ([]:List Value).toArray}:=by rw[<- hs3]
 have hC:(s2.heap.push {cls:= .type "list",data:= .seq ([]:List Value).toArray}).objs.size=s3.heap.objs.size:=by rw[es3]
 have f3:∀b∈fp,mE X pins H3 b:=fun b hb=>⟨by rw[<- hH3,aC (AV (by obtain⟨o,e,_⟩:=T.obj _ _ st2 b hb;exact Heap.lt_size e))];exact(f2 b hb).1,(f2 b hb).2⟩
 have fl3:∀b∈fp,b<s3.heap.objs.size:=fun b hb=>by
  obtain⟨o,e,_⟩:=T.obj _ _ st2 b hb
  rw[es3,Heap.size_push]
  exact Bk (Heap.lt_size e)
 have ok:=xJ (N:=N) (sc:=sc) (fp:=fp) I3 hk hcell' hcl f3 fl3
 have k23:∀b u,s2.heap.get? b=some u->s3.heap.get? b=some u:=fun b u e=>by rw[es3];exact Heap.get?_push_of_some _ e
 have k34:∀b u,s3.heap.get? b=some u->h₁.get? b=some u:=fun b u e=>by
  rw[hC]at hsb
  refine(hsb.2 b (AV (Heap.lt_size e))).trans (Heap.get?_push_of_some _ ?_)
  rw[<- es3];exact e
 have I4:=v9 (s4:={s2 with heap:=h₁,toks:=s2.toks+([]:List (Str×Value)).length}) (js:=js) I3 ok hfree' hN (by rw[<- hs3]) (by rw[<- hs3]) (by rw[<- hC];exact hns) k34
 have st4:tn 0 h₁:=T.keep _ _ _ st2 fun b _ o e=>k34 b o (k23 b o e)
 generalize hs4:({s2 with heap:=h₁,toks:=s2.toks+([]:List (Str×Value)).length}:Shared)=s4 at I4
 have eh4:s4.heap=h₁:=by rw[<- hs4]
 rw[hC]
 generalize hB:(⟨bQ X.env [] sc.names,s3.heap.objs.size,s3,H3,fp⟩:BA)=B at ok I4
 have eC:B.C=s3.heap.objs.size:=by rw[<- hB]
 have stat:∀{H':Hp},(∀b∈fp,H' b=none)->∀b∈fp,mE (kY X sc N B) [] H' b:=fun hn b hb=>by
  refine⟨hn b hb,?_,fun z=>?_,.inl (by rw[<- hB];exact hb),fun x c e=>(ok.exf b (by rw[<- hB];exact hb)).2 x c e,fun p hp=>by cases hp⟩
  ·exact(ok.exf b (by rw[<- hB];exact hb)).1
  ·exact ok.exfs b (by rw[<- hB];exact hb) z
 have fin:∀{s':Shared} {H':Hp} {σ':St},Inv (kY X sc N B) [] σ' H' s'->Q (.ref s2.heap.objs.size) H'->
   compPost (model X.prog X.w) X.A X.xe use R (.ref s2.heap.objs.size) s3.heap.objs.size (.ok .next) s':=fun {s' H' σ'} I' q'=>by
  obtain⟨m,hm,_⟩:=id I'.loc
  have hm':s'.heap.Ns s3.heap.objs.size m:=by rw[<- eC];exact hm
  have u1:Un (ig X.stack) fp H2 H3 s2.heap s3.heap:=by rw[<- hH3];exact Un.laid k23 (AI _) I2.fresh
  have u2:Un (ig X.stack) fp H3 H' s3.heap s'.heap:=by
   have z:=I'.base
   rw[<- hB]at z
   exact z
  have fr':H' s3.heap.objs.size=none:=by rw[<- eC];exact I'.free
  have os':s'.os=s2.os:=by
   have z:=I'.os
   rw[<- hB]at z
   rw[z,<- hs3]
  have Io:Inv X pins σ H' s':=I2.call' (s':=s') (ch:=fp) os' (u1.trans u2) I'.hok I'.bare fun b hb=>⟨(f2 b hb).2.2.2.1,(f2 b hb).2.1,(f2 b hb).2.2.2.2.1,(f2 b hb).2.2.2.2.2⟩
  have ltC:s2.heap.objs.size<s3.heap.objs.size:=by rw[es3,Heap.size_push];exact Bs _
  have cC:∀x c,X.env.cells.lookup x=some c->c≠s3.heap.objs.size:=fun x c e z=>by
   obtain⟨v,q⟩:=I2.cell x c e
   exact absurd q.lt (by rw[z];exact Cg.mpr (BC ltC))
  exact fin0 _ _ s' H' m Io hm' fr' (AV (Nat.lt_trans I2.lt ltC)) (A9 I2.sz (BC ltC)) cC (fun p hp z=>absurd (Heap.lt_size (I2.pin p hp).1) (by rw[z];exact Cg.mpr (BC ltC))) q'
 have loop:codeAny (model X.prog X.w) X.A (.compLoop (.ListComp elt [⟨tg,iter,ifs,0⟩] sc pos) 0 (.ref it) (.ref s2.heap.objs.size) (kY X sc N B).env)
   (compPost (model X.prog X.w) X.A X.xe use R (.ref s2.heap.objs.size) s3.heap.objs.size) s4:=by
  refine pP (fun n s'=>∃i ys σ' H',Inv (kY X sc N B) [] σ' H' s'/\v8 (bZ σ js) σ'/\tn i s'.heap/\(∀b∈fp,H' b=none)/\W i n ys H') ?_ m0
   ⟨0,[],bZ σ js,H3,I4,⟨rfl,fun _ _ z=>z⟩,by rw[eh4];exact st4,fun b hb=>(f3 b hb).1,w0⟩
  rintro n s5 ⟨i,ys,σ5,H5,I5',kp5,st5,fr5,w5⟩
  have I5:Inv (kY X sc N B) [] (bZ σ js) H5 s5:=I5'.weak kp5.1.symm kp5.2
  rcases step i n ys H5 w5 with⟨stop,qn⟩ | ⟨go,N',hN',turn⟩
  ·refine bK (T.done (kY X sc N B) rfl rfl rfl hcalm i [] s5 _ H5 w9 I5 (stat fr5) st5 stop) fun r s6 ⟨hr,I6⟩=> .inl ⟨hr,fin I6 qn⟩
  ·refine bK (T.item (kY X sc N B) rfl rfl rfl hcalm i [] s5 _ H5 w9 I5 (stat fr5) st5 go) fun r s6 ⟨u,hr,h6⟩=> .inr ⟨u,hr,?_⟩
   refine bK h6 fun _ s7 hq__=>?_
   obtain⟨x,H7,I7,r7,y7,st7,fr7⟩:=hq__
   have I7':=I7.pinned (stat fr7) (T.obj _ _ st7)
   have back:∀{σ8:St} {H8:Hp} {s8:Shared},Inv (kY X sc N B) ([]++jW fp s7.heap) σ8 H8 s8->tn (i+1) s8.heap/\∀b∈fp,H8 b=none:=fun {σ8 H8 s8} I8=>by
    refine⟨T.keep _ _ _ st7 fun b hb o e=>(I8.pin (b,o) (Bc _ (Bc _ (fm hb e)))).1,fun b hb=>?_⟩
    obtain⟨o,e,d⟩:=T.obj _ _ st7 b hb
    exact(I8.pin (b,o) (Bc _ (Bc _ (fm hb e)))).2.1
   refine bK (hg B _ s7 _ H7 x u _ I7' r7 (turn x H7 y7)) fun _ s8 hq__=>?_
   obtain⟨σ8,H8,I8,kp8,q8⟩:=hq__
   refine bK (hc B _ s8 σ8 H8 _ I8 q8) fun ok s9 ⟨H9,I9,q9⟩=>⟨fun e=>?_,fun e=>?_⟩
   ·refine bK (he B _ s9 σ8 H9 _ I9 (q9.1 e)) fun yv s10 hq__=>?_
    obtain⟨y,H10,I10,r10,q10⟩:=hq__
    obtain⟨e10,l10,n10⟩:=q10
    refine bK (bO _ s10 σ8 H10 (.ref s2.heap.objs.size) [y] _ _ (fun _ H'=>N' (ys++[y]) H') I10 rfl (.cons r10 .nil) ⟨_,ys,y,rfl,rfl,e10,l10,n10⟩) fun _ s11 hq__=>?_
    obtain⟨_,H11,I11,_,q11⟩:=hq__
    obtain⟨m',hm,w11⟩:=hN' _ _ q11
    obtain⟨st11,fr11⟩:=back I11
    exact⟨m',hm,i+1,ys++[y],σ8,H11,I11.unpinned,kp8,st11,fr11,w11⟩
   ·obtain⟨m',hm,w11⟩:=hN' _ _ (q9.2 e)
    obtain⟨st11,fr11⟩:=back I9
    exact⟨m',hm,i+1,ys,σ8,H9,I9.unpinned,kp8,st11,fr11,w11⟩
 have env_eq:(kY X sc N B).env=compEnvC sc (bQ X.env [] sc.names) s3.heap.objs.size X.env:=by rw[<- hB]
 rw[env_eq]at loop
 have st4':tn 0 s4.heap:=by rw[eh4];exact st4
 exact codeAny_compStart_list loop (T.self X.A 0 _ _ _ st4' loop)
theorem aL {X:Cx} {elt iter tg:Expr} {ifs:List Expr} {sc:Scope} {pos:Pos} {wi:TI} {g:TG} {tc:TT} {te:TE} (N:List Str) (js:List (Option Nat))
  (hcalm:X.calm=true) (hi:PI X tg iter wi) (hg:∀b,PG (kY X sc N b) tg g) (hc:∀b,yj (kY X sc N b) ifs tc) (he:∀b,PE (kY X sc N b) elt te)
  (hN:Paired (fun(j:Option Nat) n=>∀i,j=some i->X.N[i]?=some n/\sc.names.lookup n=some .free) js N)
  (hk:sc.kind= .function:=by rfl)
  (hcell:(sc.names.all fun y=>y.2 != .cell)=true:=by rfl)
  (hfree:(sc.names.all fun y=>y.2 != .free||(X.env.scope.names.lookup y.1==some .cell||X.env.scope.names.lookup y.1==some .free))=true:=by rfl)
  (hnames:(sc.names.all fun y=>y.2 != .local||sc.names.lookup y.1==some .local)=true:=by rfl)
  (hs:∀x,foldedSetIterable iter X.env x=pure x:=by intro _;rfl):PE X (.ListComp elt [⟨tg,iter,ifs,0⟩] sc pos) (uh wi js g tc te):=by
 intro pins s σ H Q I h
 rw[eval_ListComp]
 exact j5 (use:=none) N js hcalm hi hg hc he hN hk hcell hfree hnames hs I h fun l C s' H' m Io hm fr lC sz cC pC q'=>⟨m,hm,fun h' sb'=>⟨.ref l,H',Io.turned (t':=s'.toks) (it:=C) (fun b o hb e=>(sb'.2 b hb).trans e) fr lC.symm (.inr sz) cC pC,rfl,q'⟩⟩
theorem b9 {X:Cx} {i₀:Nat} {y₀:Str} {py spos:Pos} {elt iter tg:Expr} {ifs:List Expr} {sc:Scope} {pos:Pos} {wi:TI} {g:TG} {tc:TT} {te:TE} (hN₀:X.N.Nodup) (hi₀:X.N[i₀]?=some y₀) (hx₀:yn X.env.scope y₀) (N:List Str) (js:List (Option Nat))
  (hcalm:X.calm=true) (hi:PI X tg iter wi) (hg:∀b,PG (kY X sc N b) tg g) (hc:∀b,yj (kY X sc N b) ifs tc) (he:∀b,PE (kY X sc N b) elt te)
  (hN:Paired (fun(j:Option Nat) n=>∀i,j=some i->X.N[i]?=some n/\sc.names.lookup n=some .free) js N)
  (hk:sc.kind= .function:=by rfl)
  (hcell:(sc.names.all fun y=>y.2 != .cell)=true:=by rfl)
  (hfree:(sc.names.all fun y=>y.2 != .free||(X.env.scope.names.lookup y.1==some .cell||X.env.scope.names.lookup y.1==some .free))=true:=by rfl)
  (hnames:(sc.names.all fun y=>y.2 != .local||sc.names.lookup y.1==some .local)=true:=by rfl)
  (hs:∀x,foldedSetIterable iter X.env x=pure x:=by intro _;rfl) (hsw:swapsWith (.ListComp elt [⟨tg,iter,ifs,0⟩] sc pos) (some (.Name y₀ py)) spos.line X.env=pure true:=by rfl)
  (hf₀:X.fn y₀=true\/X.env.scope.names.lookup y₀=some .local:=by first | exact .inl rfl | exact .inr rfl | assumption):PS X (.Assign [.Name y₀ py] (.ListComp elt [⟨tg,iter,ifs,0⟩] sc pos) spos) (xr (uh wi js g tc te) (bT i₀)):=by
 intro pins s σ H D I h
 rw[exec_Assign_Name_used _ _ _ _ hsw]
 refine wpAny_bind (wpAny_standAt (wpAny_bind ?_))
 show wpAny _ X.A (do let _ <- comprehension (.ListComp elt [⟨tg,iter,ifs,0⟩] sc pos) sc X.env _ (newList []) false (eval iter X.env) (some (assign (.Name y₀ py) X.env))) _ _ s
 refine wpAny_bind (wpAny_mono (j5 (use:=some (assign (.Name y₀ py) X.env)) (R:=fun _ s'=>SP X pins D .next s') (Q:=fun x H1=>D.nx (σ.set i₀ (some x)) H1) N js hcalm hi hg hc he hN hk hcell hfree hnames hs I h fun l C s' H' m Io hm fr lC sz cC pC q'=>?_) (fun _ s' hq=>wpAny_pure (wpAny_pure hq)) fun _ _ e=>e)
 show wpAny (model X.prog X.w) X.A (assign (.Name y₀ py) X.env (.ref l)) _ X.xe s'
 refine wpAny_assign_Name (lF Io hN₀ hi₀ hx₀ (v:= .ref l) rfl (fun s'' I'' ⟨a,sb,ha⟩=>?_) hf₀)
 have haC:C≠a:=by
  rcases ha with z | z
  ·rw [z];exact lC.symm
  ·exact(cC _ _ z).symm
 exact⟨m,hm.sameBut sb haC,fun h' sb'=>⟨_,H',I''.turned (t':=s''.toks) (it:=C) (fun b o hb e=>(sb'.2 b hb).trans e) fr lC.symm (.inr sz) cC pC,q'⟩⟩
section
variable {X:Cx} {p:Pos}
theorem uj (h:X.mg "int"=none) (hg:Gl X "int":=by rfl):PE X (.Name "int" p) (tC (.ty "int")):=jQ hg h PyProof.Rows.boot_int rfl
theorem mJ (h:X.mg "bool"=none) (hg:Gl X "bool":=by rfl):PE X (.Name "bool" p) (tC (.ty "bool")):=jQ hg h PyProof.Rows.boot_bool rfl
theorem eF (h:X.mg "list"=none) (hg:Gl X "list":=by rfl):PE X (.Name "list" p) (tC (.ty "list")):=jQ hg h PyProof.Rows.boot_list rfl
theorem fO (h:X.mg "tuple"=none) (hg:Gl X "tuple":=by rfl):PE X (.Name "tuple" p) (tC (.ty "tuple")):=jQ hg h PyProof.Rows.boot_tuple rfl
theorem um:cu X (.builtin "isinstance") (fun xs H Q=>∃x Y t b,xs=[x,.ty Y]/\TyOf X.K H x t/\PySem.W.kitOne X.K t (.type Y)=some b/\Q (.bl b) H):=by
 intro pins s σ H xs us Q I r h
 obtain⟨x,Y,t,b,e,ty,ko,q⟩:=h
 subst e
 obtain⟨u,w',e,rx,ry⟩:=qI r
 subst e
 cases ry
 exact rM I rx ty ko fun tk=>⟨.bl b,H,I.tok _,rfl,q⟩
end
structure Def (K:PySem.W.Frag) (mg:Str->Option Value) (x:Str) (st:Stmt) (ps:List Str) (f:Addr) (fd:FuncData):Prop where
 fn:Fun K x x st f fd
 bd:Binds K fd ps []
 at':mg x=some (.ref f)
section
variable {X:Cx} {k:Nat} {x:Str} {st:Stmt} {ps:List Str} {f:Addr} {fd:FuncData} {sp:Sp} {e:Expr} {es:List Expr} {t:TA} {p pos:Pos}
theorem pc (D:Def X.K X.mg x st ps f fd) (F:FnOk X.prog X.w X.K X.mg X.base aX k f fd ps sp) (hr:Room k X.A) (ha:PA X (e :: es) t) (hg:Gl X x:=by rfl) (hdb:(x==("__debug__":Str))=false:=by decide)
  (he:starEach (e :: es) X.env=(false,eval e X.env) :: starEach es X.env:=by rfl) (hpl:(backTo pos (starEach es X.env)).any (·.1)=false:=by rfl):PE X (.Call (.Name x p) (e :: es) [] pos) (w4 sp [] E0 t):=
 vP F hr hg D.at' D.fn.kp D.bd .nil yO ha hdb he hpl
end
theorem Same.new {H:Hp} {a:Addr} {o:HO} (h:H a=none):Same H (ay H a o):=fun b u e=>by rw[aC (bf e h)];exact e
theorem Same.put {H H':Hp} {a:Addr} {o:HO} (s:Same H H') (h:H a=none):Same H (ay H' a o):=fun b u e=>by rw[aC (bf e h)];exact s b u e
theorem Same.to {H H':Hp} {a:Addr} {o:HO} (s:Same H H') (h:H' a=none):Same H (ay H' a o):=s.trans (Same.new h)
inductive DEq (K:PySem.W.Frag) (H:Hp):Nat->V->V->Bool->Prop
 | flat {d:Nat} {x y:V} (fx:dI x=true) (fy:dI y=true):DEq K H d x y (qM x y)
 | lst {d:Nat} {a b:Addr} {xs ys:List V} {e:Nat->Bool} (h1:SqL K H a xs) (h2:SqL K H b ys) (hl:xs.length=ys.length)
  (he:∀(j:Nat) x y,xs[j]?=some x->ys[j]?=some y->DEq K H d x y (e j)):DEq K H (d+1) (.ref a) (.ref b) ((AH xs.length).all e)
 | len {d:Nat} {a b:Addr} {xs ys:List V} (h1:SqL K H a xs) (h2:SqL K H b ys) (hl:xs.length≠ys.length):DEq K H (d+1) (.ref a) (.ref b) false
 | tup {d:Nat} {a b:Addr} {xs ys:List V} {e:Nat->Bool} (h1:SqT K H a xs) (h2:SqT K H b ys)
  (he:∀(j:Nat) x y,xs[j]?=some x->ys[j]?=some y->DEq K H d x y (e j)):DEq K H (d+1) (.ref a) (.ref b) ((AH (min xs.length ys.length)).all e&&xs.length==ys.length)
theorem j6:∀{x:V},dI x=true->qM x x=true
 | .non,_=>rfl
 | .bl b,_=>by cases b<;>rfl
 | .int i,_=>by simp[qM]
 | .str y,_=>by simp[qM]
theorem DEq.self {X:Cx} {pins:List (Addr×Obj)} {σ:St} {H:Hp} {s:Shared} (I:Inv X pins σ H s) {d:Nat} {x y:V} {b:Bool} (h:DEq X.K H d x y b):x=y->b=true:=by
 induction h with
 | flat fx fy=>intro e;subst e;exact j6 fx
 | @lst d a b xs ys e h1 h2 hl he ih=>
  intro z
  cases z
  have q:=I.list_inj h1 h2
  subst q
  rw[AX]
  intro j hj
  have hj':j<xs.length:=Bb.mp hj
  exact ih j _ _ (AD hj') (AD hj') rfl
 | len h1 h2 hl=>
  intro z
  cases z
  have q:=I.list_inj h1 h2
  exact absurd (congrArg List.length q) hl
 | @tup d a b xs ys e h1 h2 he ih=>
  intro z
  cases z
  have q:=I.tuple_inj h1 h2
  subst q
  rw[BL,AX]
  refine⟨fun j hj=>?_,by simp⟩
  have hj':j<xs.length:=by have:=Bb.mp hj;omega
  exact ih j _ _ (AD hj') (AD hj') rfl
theorem Vals.at {xs:List V} {us:List Value} (r:Vals xs us) {j:Nat} (h:j<us.toArray.size):∃x,xs[j]?=some x/\RelV x us.toArray[j]:=by
 have hl:=r.length
 have h':j<xs.length:=by simpa [hl]using h
 obtain⟨u,e,ru⟩:=r.get (AD h')
 refine⟨_,AD h',?_⟩
 have h2:j<us.length:=by simpa using h
 rw[AD h2]at e
 have e2:us[j]=u:=Option.some.inj e
 simpa [e2]using ru
theorem DEq.at {X:Cx} {pins:List (Addr×Obj)} {σ:St} {H:Hp} {s:Shared} (I:Inv X pins σ H s) {d:Nat} {x y:V} {b:Bool} (h:DEq X.K H d x y b):
  ∀{A:Around} {u v:Value},A.units+d<cLine->RelV x u->RelV y v->SeqAt.EqAt A s u v b:=by
 induction h with
 | flat fx fy=>intro A u v hu rx ry;exact ud rx ry fx fy
 | @lst d a b xs ys e h1 h2 hl he ih=>
  intro A u v hu rx ry
  cases rx;cases ry
  by_cases hab:a=b
  ·have z:(AH xs.length).all e=true:=(DEq.lst h1 h2 hl he).self I (by rw[hab])
   rw[z,hab]
   exact SeqAt.EqAt.same _
  ·obtain⟨its,r,pl,_⟩:=I.list h1
   obtain⟨its2,r2,pl2,_⟩:=I.list h2
   have l1:=r.length
   have l2:=r2.length
   have q:=SeqAt.RcAt.lists (A:=A) (e:=e) pl.isList pl2.isList (by simp;omega) (by omega) fun j j1 j2=>by
    obtain⟨x,ex,rx⟩:=r.at j1
    obtain⟨y,ey,ry⟩:=r2.at j2
    exact ih j x y ex ey (by show A.units+1+d<cLine;omega) rx ry
   refine SeqAt.EqAt.of_refs hab ?_
   simpa [l1]using q
 | @len d a b xs ys h1 h2 hl=>
  intro A u v hu rx ry
  cases rx;cases ry
  have hab:a≠b:=by
   rintro rfl
   exact hl (congrArg List.length (I.list_inj h1 h2))
  obtain⟨its,r,pl,_⟩:=I.list h1
  obtain⟨its2,r2,pl2,_⟩:=I.list h2
  have l1:=r.length
  have l2:=r2.length
  exact SeqAt.EqAt.of_refs hab (SeqAt.RcAt.lists_lengths pl.isList pl2.isList (by simp;omega) (by omega))
 | @tup d a b xs ys e h1 h2 he ih=>
  intro A u v hu rx ry
  cases rx;cases ry
  by_cases hab:a=b
  ·have z:=(DEq.tup h1 h2 he).self I (by rw[hab])
   rw[z,hab]
   exact SeqAt.EqAt.same _
  ·obtain⟨its,r,pl,_⟩:=I.tuple h1
   obtain⟨its2,r2,pl2,_⟩:=I.tuple h2
   have l1:=r.length
   have l2:=r2.length
   have q:=SeqAt.RcAt.tuples (A:=A) (e:=e) (show s.heap.IsTuple a its.toArray from pl) (show s.heap.IsTuple b its2.toArray from pl2) (by omega) fun j j1 j2=>by
    obtain⟨x,ex,rx⟩:=r.at j1
    obtain⟨y,ey,ry⟩:=r2.at j2
    exact ih j x y ex ey (by show A.units+1+d<cLine;omega) rx ry
   refine SeqAt.EqAt.of_refs hab ?_
   simpa [l1,l2]using q
section
variable {X:Cx}
def yP (K:PySem.W.Frag):R2:=fun x y H Q=>∃d b,DEq K H d x y b/\d<64/\dI x=false/\Q (.bl b) H
def yQ (K:PySem.W.Frag):R2:=fun x y H Q=>∃d b,DEq K H d x y b/\d<64/\dI x=false/\Q (.bl (!b)) H
theorem xK (hu:X.A.units+64<cLine):fk X (compareOp .Eq) (yP X.K):=by
 intro pins s σ H x y v u Q I rx ry h
 obtain⟨d,b,dq,hd,fl,q⟩:=h
 cases dq with
 | flat fx fy=>rw[fx]at fl;cases fl
 | @lst d a b xs ys e h1 h2 hl he=>
  cases rx;cases ry
  obtain⟨its,r,pl,_⟩:=I.list h1
  obtain⟨its2,r2,pl2,_⟩:=I.list h2
  have l1:=r.length
  have l2:=r2.length
  refine SeqAt.eq_listAt (e:=e) pl.isList pl2.isList (by simp;omega) (by omega) (fun j j1 j2=>?_) ?_
  ·obtain⟨x,ex,rx⟩:=r.at j1
   obtain⟨y,ey,ry⟩:=r2.at j2
   exact(he j x y ex ey).at I (by show X.A.units+1+d<cLine;omega) rx ry
  ·refine⟨.bl _,H,I,rfl,?_⟩
   simpa [<- l1]using q
 | @len d a b xs ys h1 h2 hl=>
  cases rx;cases ry
  obtain⟨its,r,pl,_⟩:=I.list h1
  obtain⟨its2,r2,pl2,_⟩:=I.list h2
  have l1:=r.length
  have l2:=r2.length
  exact SeqAt.eq_list_lengthsAt pl.isList pl2.isList (by simp;omega) (by omega) ⟨.bl _,H,I,rfl,q⟩
 | @tup d a b xs ys e h1 h2 he=>
  cases rx;cases ry
  obtain⟨its,r,pl,_⟩:=I.tuple h1
  obtain⟨its2,r2,pl2,_⟩:=I.tuple h2
  have l1:=r.length
  have l2:=r2.length
  refine SeqAt.eq_tupleAt (e:=e) (show s.heap.IsTuple a its.toArray from pl) (show s.heap.IsTuple b its2.toArray from pl2) (by omega) (fun j j1 j2=>?_) ?_
  ·obtain⟨x,ex,rx⟩:=r.at j1
   obtain⟨y,ey,ry⟩:=r2.at j2
   exact(he j x y ex ey).at I (by show X.A.units+1+d<cLine;omega) rx ry
  ·refine⟨.bl _,H,I,rfl,?_⟩
   simpa [<- l1,<- l2]using q
theorem xM (hu:X.A.units+64<cLine):fk X (compareOp .NotEq) (yQ X.K):=by
 intro pins s σ H x y v u Q I rx ry h
 obtain⟨d,b,dq,hd,fl,q⟩:=h
 cases dq with
 | flat fx fy=>rw[fx]at fl;cases fl
 | @lst d a b xs ys e h1 h2 hl he=>
  cases rx;cases ry
  obtain⟨its,r,pl,_⟩:=I.list h1
  obtain⟨its2,r2,pl2,_⟩:=I.list h2
  have l1:=r.length
  have l2:=r2.length
  refine SeqAt.RcNeAt.lists (e:=e) pl.isList pl2.isList (by simp;omega) (by omega) (fun j j1 j2=>?_) _ _ _ _ ?_
  ·obtain⟨x,ex,rx⟩:=r.at j1
   obtain⟨y,ey,ry⟩:=r2.at j2
   exact(he j x y ex ey).at I (by show X.A.units+1+d<cLine;omega) rx ry
  ·refine⟨.bl _,H,I,rfl,?_⟩
   simpa [<- l1]using q
 | @len d a b xs ys h1 h2 hl=>
  cases rx;cases ry
  obtain⟨its,r,pl,_⟩:=I.list h1
  obtain⟨its2,r2,pl2,_⟩:=I.list h2
  have l1:=r.length
  have l2:=r2.length
  exact SeqAt.RcNeAt.lists_lengths pl.isList pl2.isList (by simp;omega) (by omega) _ _ _ _ ⟨.bl _,H,I,rfl,q⟩
 | @tup d a b xs ys e h1 h2 he=>
  cases rx;cases ry
  obtain⟨its,r,pl,_⟩:=I.tuple h1
  obtain⟨its2,r2,pl2,_⟩:=I.tuple h2
  have l1:=r.length
  have l2:=r2.length
  refine SeqAt.RcNeAt.tuples (e:=e) (show s.heap.IsTuple a its.toArray from pl) (show s.heap.IsTuple b its2.toArray from pl2) (by omega) (fun j j1 j2=>?_) _ _ _ _ ?_
  ·obtain⟨x,ex,rx⟩:=r.at j1
   obtain⟨y,ey,ry⟩:=r2.at j2
   exact(he j x y ex ey).at I (by show X.A.units+1+d<cLine;omega) rx ry
  ·refine⟨.bl _,H,I,rfl,?_⟩
   simpa [<- l1,<- l2]using q
theorem uo:cu X (.builtin "all") (fun xs H Q=>∃(hc:X.calm=true) (p:Addr) (bs:List Bool),xs=[.ref p]/\SqL X.K H p (bs.map V.bl)/\Q (.bl (bs.all id)) H):=by
 intro pins s σ H xs us Q I r h
 obtain⟨hc,p,bs,e,hq,q⟩:=h
 subst e
 obtain⟨u,e,rx⟩:=eA r
 subst e
 cases rx
 obtain⟨its,rv,pl,hz⟩:=I.list hq
 have hl:=rv.length
 rw[AC]at hl
 refine call_all_walk (wpAny_pyIter_list pl.isList ?_)
 have hne:p≠s.heap.objs.size:=by
  obtain⟨o,ho,_⟩:=pl.isList
  exact AV (Heap.lt_size ho)
 refine⟨s.heap.objs.size,_,_,_,_,_,fun i=>bs.getD i true,rfl,Walks.list (A:=X.A.in1) (show X.A.in1.handled=none from I.ok.hd hc) _ p hne its.toArray,?_,?_,?_⟩
 ·refine⟨⟨_,Heap.get?_push_size _ rfl,rfl,rfl⟩,?_⟩
  obtain⟨o,ho,z⟩:=pl.isList
  exact⟨o,Heap.get?_push_of_some _ ho,z⟩
 ·intro i v s' Q' E' hi hq'
  have hi':its[i]?=some v:=by simpa using hi
  have h2:i<bs.length:=by rw[hl];exact(AF.mp hi').1
  obtain⟨u,eu,ru⟩:=rv.get (i:=i) (x:= .bl bs[i]) (by simp[h2])
  rw[hi']at eu
  cases eu
  cases ru
  refine wpAny_truthy_bool ?_
  have:bs.getD i true=bs[i]:=by simp[h2]
  rw[<- this];exact hq'
 ·intro h' tk kp
  refine⟨.bl (bs.all id),H,I.kept (fun b o e=>kp b o ?_ (Heap.get?_push_of_some _ e)),?_,q⟩
  ·have:=Heap.lt_size e
   intro z
   rw[AN]at z
   exact absurd this (by rw[z];exact Bt _)
  ·show Value.bool _=Value.bool _
   congr 1
   have e2:its.toArray.size=bs.length:=by simp[hl]
   rw[e2,Cd,AX,AX]
   constructor
   ·intro h x hx
    obtain⟨j,hj,ej⟩:=AU.mp hx
    have:=h j (Bb.mpr hj)
    simpa [hj,ej]using this
   ·intro h j hj
    have hj':=Bb.mp hj
    have:=h bs[j] (A1 hj')
    simpa [hj']using this
end
def SameBut (acc:Addr) (H H':Hp):Prop:=∀b o,b≠acc->H b=some o->H' b=some o
theorem Same.but {acc:Addr} {H H':Hp} (s:Same H H'):SameBut acc H H':=fun b o _ e=>s b o e
theorem SameBut.upd {acc:Addr} {H:Hp} {o:HO}:SameBut acc H (ay H acc o):=fun b u n e=>by rw[aC n];exact e
theorem uq {n:Nat} (h:n<=1000):n<=sizeLine:=BC (rX h)
theorem bM {n:Nat} (h:Nat.ble n 1000=true:=by rfl):n<=sizeLine:=uq (Nat.le_of_ble_eq_true h)
theorem mK {n:Nat} (h:n<100000):n<sizeLine:=by rw[sizeLine_eq];omega
theorem ur {x:Option V} {σ:St}:v8 (none :: σ) (x :: σ):=⟨rfl,fun i v e=>by
 cases i with
 | zero=>cases e
 | succ i=>exact e⟩
theorem lP {J:It} {H1:Hp} {js:List (Option Nat)} {σ:St} {tc:TT} {te:TE} {Q:VK} (n:Nat) (item:Nat->V) (p:Nat->Bool) (P:Addr->Nat->V->Hp->Prop) (hn:n<100000)
  (mono:∀acc i v H H',P acc i v H->SameBut acc H H'->P acc i v H')
  (hgo:∀i H,i<n->Same H1 H->J.go i H) (hst:∀H,Same H1 H->J.stop n H) (hy:∀i H x H',i<n->Same H1 H->J.yld i H x H'->H'=H/\x=item i)
  (hc:∀i,i<n->∀H2 R,Same H1 H2->R (p i) H2->tc (some (item i) :: bZ σ js) H2 R)
  (he:∀acc i,i<n->p i=true->∀H2 R,Same H1 H2->H1 acc=none->H2 acc≠none->(∀v H3,Same H2 H3->P acc i v H3->R v H3)->te (some (item i) :: bZ σ js) H2 R)
  (hQ:∀acc vs H',Same H1 H'->H1 acc=none->H' acc=some (.lst vs)->Paired (fun i v=>P acc i v H') ((AH n).filter p) vs->Q (.ref acc) H'):
  cE J H1 (none :: js) (bT 0) tc te σ Q:=by
 intro acc hacc
 refine⟨fun i m ys H=>m=n-i/\i<=n/\Same H1 H/\H acc=some (.lst ys)/\Paired (fun k v=>P acc k v H) ((AH i).filter p) ys,⟨n,by simp,A0 _,Same.new hacc,af,.nil⟩,?_⟩
 rintro i m ys H ⟨rfl,hi,s1,ha,hp⟩
 by_cases hlt:i<n
 ·refine .inr ⟨hgo i H hlt s1,fun ys' H'=>i<n/\Same H1 H'/\H' acc=some (.lst ys')/\Paired (fun k v=>P acc k v H') ((AH (i+1)).filter p) ys',fun ys' H' ⟨z,a,b,c⟩=>⟨n-(i+1),Bu _ _ hlt,rfl,hlt,a,b,c⟩,fun x H' y=>?_⟩
  obtain⟨rfl,rfl⟩:=hy i H x H' hlt s1 y
  refine⟨ur,hc i hlt _ _ s1 ⟨fun hb=>?_,fun hb=>?_⟩⟩
  ·refine he acc i hlt hb _ _ s1 hacc (by rw[ha];simp) fun v H3 s3 pv=>?_
   have hlen:ys.length<=i:=by
    rw[<- Paired.length hp]
    exact A9 (Bh _ _) (by simp)
   refine⟨s3 _ _ ha,mK (by omega),hlt,(s1.trans s3).put hacc,af,?_⟩
   rw[Bw,Bn]
   have e:Cp p [i]=[i]:=by simp[hb]
   rw[e]
   refine Paired.snoc (Paired.mapP hp fun k v q=>?_) ?_
   ·exact mono acc k v _ _ (mono acc k v _ _ q s3.but) SameBut.upd
   ·exact mono acc i v _ _ pv SameBut.upd
  ·refine⟨hlt,s1,ha,?_⟩
   rw[Bw,Bn]
   have e:Cp p [i]=[]:=by simp[hb]
   rw[e,BX]
   exact hp
 ·have e:i=n:=BW hi (BK hlt)
  subst e
  exact .inl ⟨hst H s1,hQ acc ys H s1 hacc ha hp⟩
theorem cY {α β:Type} {f:α->β}:∀{l:List α} {r:List β},Paired (fun a b=>b=f a) l r->r=l.map f:=by
 intro l r h
 induction h with
 | nil=>rfl
 | cons h t ih=>rw[h,ih];rfl
section
variable {K:PySem.W.Frag} {H1:Hp} {js:List (Option Nat)} {σ:St} {tc:TT} {te:TE} {Q:VK}
theorem j7 {lo:Int} {n:Nat} (f:Nat->V) (hn:n<100000)
  (he:∀i:Nat,i<n->∀H2 R,Same H1 H2->(∀H3,Same H2 H3->R (f i) H3)->te (some (.int (lo+i)) :: bZ σ js) H2 R)
  (hQ:∀acc H',Same H1 H'->H1 acc=none->H' acc=some (.lst ((AH n).map f))->Q (.ref acc) H'):cE (pB lo n) H1 (none :: js) (bT 0) fN te σ Q:=
 lP (J:=pB lo n) (H1:=H1) (js:=js) (σ:=σ) (tc:=fN) (te:=te) (Q:=Q) n (fun i=> .int (lo+i)) (fun _=>true) (fun _ i v _=>v=f i) hn (fun _ _ _ _ _ h _=>h)
  (fun _ _ h _=>h) (fun _ _=>AI _) (fun _ _ _ _ _ _ y=>y) (fun _ _ _ _ _ h=>h) (fun _ i hi _ H2 R s _ _ k=>he i hi H2 R s fun H3 s3=>k _ H3 s3 rfl)
  fun acc vs H' s n' e p=>hQ acc H' s n' (by rw[e,cY p,A8.mpr (fun _ _=>rfl)])
theorem rY {a:Addr} {xs:List V} (p:Nat->Bool) (P:Addr->Nat->V->Hp->Prop) (hl:SqL K H1 a xs) (hn:xs.length<100000)
  (mono:∀acc i v H H',P acc i v H->SameBut acc H H'->P acc i v H')
  (hc:∀(i:Nat) x,xs[i]?=some x->∀H2 R,Same H1 H2->R (p i) H2->tc (some x :: bZ σ js) H2 R)
  (he:∀acc (i:Nat) x,xs[i]?=some x->p i=true->∀H2 R,Same H1 H2->H1 acc=none->H2 acc≠none->(∀v H3,Same H2 H3->P acc i v H3->R v H3)->te (some x :: bZ σ js) H2 R)
  (hQ:∀acc vs H',Same H1 H'->H1 acc=none->H' acc=some (.lst vs)->Paired (fun i v=>P acc i v H') ((AH xs.length).filter p) vs->Q (.ref acc) H'):cE (nW K a) H1 (none :: js) (bT 0) tc te σ Q:=
 lP (J:=nW K a) (H1:=H1) (js:=js) (σ:=σ) (tc:=tc) (te:=te) (Q:=Q) xs.length (fun i=>xs.getD i .non) p P hn mono
  (fun i H h s=>⟨xs,xs[i],s.seq hl,by simp[h]⟩) (fun H s=>⟨xs,s.seq hl,AI _⟩)
  (fun i H x H' h s y=>⟨y.1,by have e:=y.2 xs (s.seq hl);simp[e]⟩)
  (fun i h H2 R s k=>hc i _ (by simp[h]) H2 R s k) (fun acc i h hp H2 R s n1 n2 k=>he acc i _ (by simp[h]) hp H2 R s n1 n2 k) hQ
end
section
variable {X:Cx} {tg l:Expr} {tl:TE} {es:List Expr} {k n:Nat} {t:wV} {pos:Pos} {a:Expr} {ta:TE}
theorem cU (K:PySem.W.Frag) (h:X.K=K:=by rfl):yh X (yI K):=by subst h;exact vU
theorem cz (K:PySem.W.Frag) (h:X.K=K:=by rfl):yh X (yJ K):=by subst h;exact xy
theorem wa (K:PySem.W.Frag) (h:X.K=K:=by rfl):zc X (yL K):=by subst h;exact vV
theorem An (K:PySem.W.Frag) (h:X.K=K:=by rfl):fk X (compareOp .In) (ze K false):=by subst h;exact rQ
theorem zH (K:PySem.W.Frag) (h:X.K=K:=by rfl):fk X (compareOp .NotIn) (ze K true):=by subst h;exact mG
theorem zY (K:PySem.W.Frag) (hu:X.A.units+64<cLine) (h:X.K=K:=by rfl):fk X (compareOp .Eq) (yP K):=by subst h;exact xK hu
theorem Ao (K:PySem.W.Frag) (hu:X.A.units+64<cLine) (h:X.K=K:=by rfl):fk X (compareOp .NotEq) (yQ K):=by subst h;exact xM hu
theorem bx (K:PySem.W.Frag) (h:X.K=K:=by rfl):cu X (.builtin "len") (fun xs H Q=>∃x n,xs=[x]/\yE K x H n/\Q (.int n) H):=by subst h;exact uc
theorem fJ (K:PySem.W.Frag) (h:X.K=K:=by rfl):cu X (.builtin "isinstance") (fun xs H Q=>∃x Y t b,xs=[x,.ty Y]/\TyOf K H x t/\PySem.W.kitOne K t (.type Y)=some b/\Q (.bl b) H):=by subst h;exact um
theorem mL (K:PySem.W.Frag) (hc:X.calm=true:=by rfl) (h:X.K=K:=by rfl):cu X (.builtin "all") (fun xs H Q=>∃(p:Addr) (bs:List Bool),xs=[.ref p]/\SqL K H p (bs.map V.bl)/\Q (.bl (bs.all id)) H):=by
 subst h
 exact fun pins s σ H xs us Q I r q=>uo pins s σ H xs us Q I r (let⟨p,bs,e⟩:=q;⟨hc,p,bs,e⟩)
theorem j8 (K:PySem.W.Frag) (h:X.K=K:=by rfl):cu X (.type "list") (fun xs H Q=>∃p ys,xs=[.ref p]/\(SqL K H p ys\/SqT K H p ys)/\∀l,H l=none->Q (.ref l) (ay H l (.lst ys))):=by subst h;exact mH
theorem gG (K:PySem.W.Frag) (hl:PE X l tl) (h:X.K=K:=by rfl):PI X tg l (wX K tl):=by subst h;exact vK hl
theorem zZ (K:PySem.W.Frag) (hl:PE X l tl) (h:X.K=K:=by rfl):PI X tg l (yw K tl):=by subst h;exact xu hl
theorem vE (K:PySem.W.Frag) (hc:X.calm=true) (hg:yg X es t) (h:X.K=K:=by rfl) (hn:(assignEach es X.env).length=n:=by rfl) (hst:(assignEach es X.env).findIdx? (·.1)=none:=by rfl):PG X (.Tuple es k pos) (rH K n t):=by
 subst h;exact xq hc hg hn hst
end
theorem aB {X:Cx} {N:List Str} (h:N.Nodup) (e:X.N=N:=by rfl):X.N.Nodup:=by rw[e];exact h
theorem xN (xs:List V) (k:Nat):b8 xs none (some (k:Int))=xs.take k:=by
 unfold b8
 rw[HT.jR,HT.n6,List.drop_zero,Nat.sub_zero]
 by_cases h:k<=xs.length
 ·rw [B9 h]
 ·rw [Cc (by omega),BH (AI _),BH (by omega)]
theorem ir (xs:List V) (k:Nat):b8 xs (some (k:Int)) none=xs.drop k:=by
 unfold b8
 rw[HT.jR,HT.n6]
 by_cases h:k<=xs.length
 ·rw [B9 h,BH (by rw[Bx];omega)]
 ·rw [Cc (by omega),B3,Cb,Ck (by omega)]
theorem wb (xs:List V) (i j:Nat):b8 xs (some (i:Int)) (some (j:Int))=(xs.drop i).take (j-i):=by
 unfold b8
 rw[HT.jR,HT.jR]
 by_cases h:i<=xs.length
 ·rw [B9 h]
  by_cases h2:j<=xs.length
  ·rw [B9 h2]
  ·rw [Cc (by omega),BH (by rw[Bx];omega),BH (by rw[Bx];omega)]
 ·have e:min i xs.length=xs.length:=Cc (by omega)
  rw[e,Ck (AI _),Ck (l:=xs) (i:=i) (by omega),List.take_nil,List.take_nil]
section
variable {K:PySem.W.Frag} {H:Hp} {a b:Addr}
theorem uu {xs:List V} (h1:SqL K H a xs) (h2:SqL K H b xs) (hf:∀x∈xs,dI x=true):DEq K H 1 (.ref a) (.ref b) true:=by
 have q:=DEq.lst (d:=0) (e:=fun _=>true) h1 h2 rfl fun j x y ex ey=>by
  rw[ex]at ey
  cases ey
  have f:=hf x (AJ ex)
  have e:=DEq.flat (K:=K) (H:=H) (d:=0) f f
  rw[j6 f]at e
  exact e
 have e:((AH xs.length).all fun _=>true)=true:=AX.mpr fun _ _=>rfl
 rw[e]at q
 exact q
theorem mM {xs:List V} (h1:SqL K H a xs) (h2:SqL K H b []):DEq K H 1 (.ref a) (.ref b) xs.isEmpty:=by
 cases xs with
 | nil=>exact uu h1 h2 fun x hx=>by cases hx
 | cons x r=>exact DEq.len h1 h2 (by simp)
end
theorem jn {b:Bool} {A B:Prop} (h1:b=false->A) (h2:b=true->B):if(!b)=true then A else B:=by
 cases b with
 | true=>exact aE (h2 rfl)
 | false=>exact bP (h1 rfl)
theorem zI {b:Bool} {A B:Prop} (h1:b=true->A) (h2:b=false->B):if b=true then A else B:=by
 cases b with
 | true=>exact bP (h1 rfl)
 | false=>exact aE (h2 rfl)
theorem gS {i j:Int} {A B:Prop} (h1:i=j->A) (h2:i≠j->B):if decide (V.int i=V.int j)=true then A else B:=by
 by_cases h:i=j
 ·rw [if_pos (by simp[h])];exact h1 h
 ·rw [if_neg (by simp[h])];exact h2 h
theorem rZ {i j:Int} {A B:Prop} (h1:i≠j->A) (h2:i=j->B):if(!decide (V.int i=V.int j))=true then A else B:=by
 by_cases h:i=j
 ·rw [if_neg (by simp[h])];exact h2 h
 ·rw [if_pos (by simp[h])];exact h1 h
theorem pD {c:Prop} [Decidable c] {A B:Prop} (h1:c->A) (h2:¬c->B):if decide c=true then A else B:=by
 by_cases h:c
 ·rw [if_pos (decide_eq_true h)];exact h1 h
 ·rw [if_neg (by simp[h])];exact h2 h
def zJ (t u:TS):TS:=fun D σ H=>∃P:L2.St->Hp->Prop,t {D with nx:=P} σ H/\∀σ' H',P σ' H'->u D σ' H'
theorem df {X:Cx} {st:Stmt} {dG:List Stmt} {t u:TS} (h1:PS X st t) (h2:PSs X dG u):PSs X (st :: dG) (zJ t u):=by
 intro pins s σ H D I h
 obtain⟨P,ht,hu⟩:=h
 refine wpAny_execs_cons (bK (h1 pins s σ H {D with nx:=P} I ht) fun f s1 q=>?_)
 cases f with
 | next=>
  obtain⟨σ',H',I',q⟩:=q
  exact h2 pins s1 σ' H' D I' (hu σ' H' q)
 | ret v=>exact q
 | brk=>exact q
 | cont=>exact q
section
variable {X:Cx} {tg l:Expr} {tl:TE}
end
section
variable {X:Cx} {es:List Expr} {t:TA}
end
section
variable {X:Cx} {tg l:Expr} {tl:TE}
end
end L2
namespace L2
abbrev HK:=List (dJ×V)
end L2
namespace L2
open PySem PySem.Spec PyProof.Rows
def PoolsL (K:PySem.W.Frag) (H:Hp) (rs:List Addr) (ps:List (List Int)):Prop:=Paired (fun r p=>SqL K H r (p.map V.int)) rs ps
theorem PoolsL.same {K:PySem.W.Frag} {H H':Hp} {rs:List Addr} {ps:List (List Int)} (h:PoolsL K H rs ps) (s:Same H H'):PoolsL K H' rs ps:=Paired.mapP h fun _ _ q=>s.seq q
theorem PoolsL.at {K:PySem.W.Frag} {H:Hp} {rs:List Addr} {ps:List (List Int)} (h:PoolsL K H rs ps) {i:Nat} {p:List Int} (e:ps[i]?=some p):∃r,rs[i]?=some r/\SqL K H r (p.map V.int):=dw (F:=fun(r:Addr) (p:List Int)=>SqL K H r (p.map V.int)) h e
theorem PoolsL.len {K:PySem.W.Frag} {H:Hp} {rs:List Addr} {ps:List (List Int)} (h:PoolsL K H rs ps):rs.length=ps.length:=Paired.length h
theorem cZ {α β:Type} {F:α->β->Prop}:∀{l:List α} {r:List β},l.length=r.length->(∀(i:Nat) a b,l[i]?=some a->r[i]?=some b->F a b)->Paired F l r:=by
 intro l
 induction l with
 | nil=>
  intro r h f
  cases r with
  | nil=>exact .nil
  | cons b r=>cases h
 | cons a l ih=>
  intro r h f
  cases r with
  | nil=>cases h
  | cons b r=>exact .cons (f 0 a b rfl rfl) (ih (Nat.succ.inj h) fun i x y e1 e2=>f (i+1) x y e1 e2)
theorem qP (b:Int) (bs:List Int):zd (.int b) (bs.map V.int)=decide (b∈bs):=by
 unfold zd
 induction bs with
 | nil=>rfl
 | cons c r ih=>
  rw[BN,List.any_cons,ih]
  by_cases h:c=b
  ·subst h;simp[qM]
  ·have h':¬b=c:=fun z=>h z.symm
   simp[qM,h,h']
theorem ou (bs:List Int):(bs.map V.int).all dI=true:=by
 rw[AX]
 intro x hx
 obtain⟨i,_,e⟩:=Br.mp hx
 rw[<- e];rfl
theorem ox {G:Nat->Addr->Prop}:∀{l:List Nat} {vs:List V},Paired (fun i v=>∃r,v= .ref r/\G i r) l vs->∃rs:List Addr,vs=rs.map V.ref/\Paired G l rs:=by
 intro l vs h
 induction h with
 | nil=>exact⟨[],rfl,.nil⟩
 | cons q t ih=>
  obtain⟨r,e,g⟩:=q
  obtain⟨rs,e2,p⟩:=ih
  exact⟨r :: rs,by rw[e,e2];rfl,.cons g p⟩
theorem pQ {K:PySem.W.Frag} {H1:Hp} {js:List (Option Nat)} {σ:L2.St} {te:TE} {Q:VK} {a:Addr} {xs:List V} (f:Nat->List V) (hl:SqL K H1 a xs) (hn:xs.length<100000)
  (he:∀(i:Nat) x,xs[i]?=some x->∀H2 R,Same H1 H2->(∀r H3,Same H2 H3->H2 r=none->H3 r=some (.lst (f i))->R (.ref r) H3)->te (some x :: bZ σ js) H2 R)
  (hQ:∀acc (rs:List Addr) H',Same H1 H'->H1 acc=none->H' acc=some (.lst (rs.map V.ref))->rs.length=xs.length->(∀(i:Nat) r,rs[i]?=some r->H' r=some (.lst (f i))/\H1 r=none)->(∀r∈rs,r≠acc)->Q (.ref acc) H'):
  cE (nW K a) H1 (none :: js) (bT 0) fN te σ Q:=
 rY (K:=K) (H1:=H1) (js:=js) (σ:=σ) (tc:=fN) (te:=te) (Q:=Q) (a:=a) (xs:=xs) (fun _=>true) (fun acc i v H=>∃r,v= .ref r/\r≠acc/\H1 r=none/\H r=some (.lst (f i))) hl hn
  (fun acc i v H H' ⟨r,e,n,h0,h⟩ s=>⟨r,e,n,h0,s r _ n h⟩) (fun _ _ _ _ _ _ h=>h)
  (fun acc i x hx _ H2 R s n1 n2 k=>he i x hx H2 R s fun r H3 s3 nr h3=>k _ H3 s3 ⟨r,rfl,fun z=>n2 (by rw[<- z];exact nr),s.free nr,h3⟩)
  fun acc vs H' s n' e p=>by
   rw[A8.mpr (fun _ _=>rfl)]at p
   obtain⟨rs,e2,p2⟩:=ox p
   have ln:rs.length=xs.length:=by rw[<- Paired.length p2,Bm]
   have all:∀(i:Nat) r,rs[i]?=some r->r≠acc/\H1 r=none/\H' r=some (.lst (f i)):=fun i r hi=>by
    obtain⟨j,hj,g⟩:=dw p2 hi
    have lt:i<xs.length:=by rw[<- ln];exact(AF.mp hi).1
    rw[Bz lt]at hj
    cases hj
    exact g
   refine hQ acc rs H' s n' (by rw[e,e2]) ln (fun i r hi=>⟨(all i r hi).2.2,(all i r hi).2.1⟩) fun r hr=>?_
   obtain⟨i,hi,ei⟩:=AU.mp hr
   exact(all i r (by rw[AD hi,ei])).1
abbrev j9 (xs:List Nat):Prop:=xs.Pairwise (· < ·)
structure CutAt (xs:Array Nat) (j p:Nat):Prop where
 le:p<=xs.size
 lo:∀i (h:i<xs.size),i<p->xs[i]<j
 hi:∀i (h:i<xs.size),p<=i->j<=xs[i]
theorem iu {xs:Array Nat} (r:j9 xs.toList) {i k:Nat} (hi:i<xs.size) (hk:k<xs.size) (h:i<k):xs[i]<xs[k]:=by
 have:=Bv.mp r i k (by simpa using hi) (by simpa using hk) h
 simpa using this
theorem uv {xs:Array Nat} (r:j9 xs.toList) (j:Nat):∀(f lo hi:Nat),hi-lo<=f->lo<=hi->hi<=xs.size->(∀i (h:i<xs.size),i<lo->xs[i]<j)->(∀i (h:i<xs.size),hi<=i->j<=xs[i])->CutAt xs j (SetTable.below.go xs j f lo hi):=by
 intro f
 induction f with
 | zero=>
  intro lo hi hf hl hs h1 h2
  have e:hi=lo:=by omega
  subst e
  exact⟨hs,h1,h2⟩
 | succ f ih=>
  intro lo hi hf hl hs h1 h2
  unfold SetTable.below.go
  by_cases hlt:lo<hi
  ·rw [if_pos hlt]
   have hm:(lo+hi)/2<xs.size:=by omega
   have eg:xs.getD ((lo+hi)/2) j=xs[(lo+hi)/2]:=by simp[hm]
   dsimp only
   rw[eg]
   by_cases hc:xs[(lo+hi)/2]<j
   ·rw [if_pos hc]
    refine ih _ _ (by omega) (by omega) hs (fun i h hi'=>?_) h2
    by_cases e:i=(lo+hi)/2
    ·subst e;exact hc
    ·exact Nat.lt_trans (iu r h hm (by omega)) hc
   ·rw [if_neg hc]
    refine ih _ _ (by omega) (by omega) (by omega) h1 fun i h hi'=>?_
    by_cases e:i=(lo+hi)/2
    ·subst e;omega
    ·have:=iu r hm h (by omega)
     omega
  ·rw [if_neg hlt]
   have e:hi=lo:=by omega
   subst e
   exact⟨hs,h1,h2⟩
theorem lQ {xs:Array Nat} (r:j9 xs.toList) (j:Nat):CutAt xs j (SetTable.below xs j):=
 uv r j xs.size 0 xs.size (by omega) (A0 _) (AI _) (fun i _ h=>by omega) fun i h h'=>by omega
theorem CutAt.unique {xs:Array Nat} {j p q:Nat} (a:CutAt xs j p) (b:CutAt xs j q):p=q:=by
 rcases Nat.lt_trichotomy p q with h | h | h
 ·have hp:p<xs.size:=A6 h b.le
  have:=b.lo p hp h
  have:=a.hi p hp (AI _)
  omega
 ·exact h
 ·have hq:q<xs.size:=A6 h a.le
  have:=a.lo q hq h
  have:=b.hi q hq (AI _)
  omega
theorem oy {xs:Array Nat} {j:Nat} (r:j9 xs.toList) (hn:xs[SetTable.below xs j]?≠some j):j9 (SetTable.insertAt xs (SetTable.below xs j) j).toList:=by
 have c:=lQ r j
 generalize SetTable.below xs j=p at hn c
 have e:(SetTable.insertAt xs p j).toList=xs.toList.take p++j :: xs.toList.drop p:=by
  unfold SetTable.insertAt
  simp[Array.toList_append,CA,List.extract_eq_take_drop]
  exact BH (by simp)
 rw[e]
 refine List.pairwise_append.mpr ⟨r.sublist (List.take_sublist _ _),List.pairwise_cons.mpr ⟨fun x hx=>?_,r.sublist (List.drop_sublist _ _)⟩,fun x hx y hy=>?_⟩
 ·obtain⟨i,hi,ei⟩:=AU.mp hx
  rw[Bx,AQ]at hi
  rw[List.getElem_drop,B4]at ei
  have h1:=c.hi (p+i) (by omega) (by omega)
  rw[ei]at h1
  by_cases z:x=j
  ·exfalso
   have hp:p<xs.size:=by omega
   have h2:=c.hi p hp (AI _)
   have h3:xs[p]<=xs[p+i]:=by
    by_cases i0:i=0
    ·subst i0;exact AI _
    ·exact BC (iu r hp (by omega) (by omega))
   have h4:xs[p]=j:=by rw[ei,z]at h3;omega
   exact hn (by rw[Bq hp,h4])
  ·omega
 ·obtain⟨i,hi,ei⟩:=AU.mp hx
  rw[BE,AQ]at hi
  rw[CB,B4]at ei
  have h1:=c.lo i (by omega) (by omega)
  rw[ei]at h1
  rcases AR.mp hy with z | z
  ·omega
  ·obtain⟨k,hk,ek⟩:=AU.mp z
   rw[Bx,AQ]at hk
   rw[List.getElem_drop,B4]at ek
   have h2:=c.hi (p+k) (by omega) (by omega)
   omega
theorem lR {t:SetTable} {j:Nat} (h:t.slot j= .empty\/t.slot j= .dummy):t.place[SetTable.below t.place j]?≠some j:=by
 intro z
 have e:t.slot j= .live (SetTable.below t.place j):=by
  unfold SetTable.slot
  dsimp only
  rw[z]
  simp
 rw[e]at h
 rcases h with h | h<;>cases h
theorem pU {t:SetTable} {hh:Nat->Int} {h:Int}:∀(f:Nat) (p:SetTable.Probe) (j:Nat) (d:Option Nat),(∀x,p.dummy=some x->t.slot x= .dummy)->SetTable.probe.go t hh h f p=some (.empty j d)->t.slot j= .empty/\∀x,d=some x->t.slot x= .dummy:=by
 intro f
 induction f with
 | zero=>intro p j d _ e;unfold SetTable.probe.go at e;cases e
 | succ f ih=>
  intro p j d hp e
  unfold SetTable.probe.go at e
  have adv:∀q:SetTable.Probe,(t.advance q).dummy=q.dummy:=fun q=>by
   unfold SetTable.advance
   split<;>rfl
  cases hs:t.slot p.j with
  | empty=>
   rw[hs]at e
   cases e
   exact⟨hs,hp⟩
  | dummy=>
   rw[hs]at e
   refine ih _ j d (fun x hx=>?_) e
   rw[adv]at hx
   cases hx
   exact hs
  | live i=>
   rw[hs]at e
   dsimp only at e
   split at e
   ·cases e
   ·refine ih _ j d (fun x hx=>?_) e
    rw[adv]at hx
    exact hp x hx
theorem k7 {t:SetTable} {h:Int} {j:Nat} {b:Bool} (e:t.freeSlot h=some (j,b)):t.place[SetTable.below t.place j]?≠some j:=by
 unfold SetTable.freeSlot at e
 split at e
 ·rename_i j' d hm
  have:=pU (t:=t) (h:=h) _ _ j' d (fun x hx=>by cases hx) hm
  have e':=Option.some.inj e
  cases d with
  | none=>
   have:j'=j:=by have:=congrArg Prod.fst e';simpa using this
   subst this
   exact lR (.inl this.1)
  | some x=>
   have hx:x=j:=by have:=congrArg Prod.fst e';simpa using this
   subst hx
   exact lR (.inr (this.2 x rfl))
 ·cases e
structure TabK (led:Bool) (t:SetTable):Prop where
 led:t.led=led
 rise:t.plain=true->j9 t.place.toList
theorem eG {led:Bool} {t:SetTable} (h:t.led=led) (n:Nat):TabK led (t.standIn n):=⟨h,fun z=>by cases z⟩
theorem k8 {led:Bool} {t:SetTable} (h:TabK led t) (n:Nat):TabK led (t.orStandIn n):=by
 unfold SetTable.orStandIn
 split
 ·exact h
 ·exact eG h.led n
theorem pV {led:Bool} {t:SetTable} (h:TabK led t) (es:Array (Int×Value)) (hh:Int) (x:Value):TabK led (layNew t es hh x).2.1:=by
 unfold layNew
 cases e:t.freeSlot hh with
 | none=>exact eG h.led _
 | some q=>
  obtain⟨j,b⟩:=q
  refine k8 (t:=(t.put j).1) ⟨h.led,fun z=>?_⟩ _
  exact oy (h.rise z) (k7 e)
theorem lU {mask finger moves:Nat} {led plain:Bool} {hs:Array Int} {t:SetTable} {o:Array Nat} (e:SetTable.laid mask finger moves led plain hs=some (t,o)):t.led=led/\j9 t.place.toList:=by
 unfold SetTable.laid at e
 obtain⟨ow,_,e2⟩:=Option.bind_eq_some_iff.mp e
 have e2:=Option.some.inj e2
 have ht:=congrArg Prod.fst e2
 dsimp only at ht
 rw[<- ht]
 refine⟨rfl,?_⟩
 show List.Pairwise (fun a b=>a<b) (List.map (fun x:Nat×Nat=>x.1) _)
 rw[List.pairwise_map]
 refine List.pairwise_filterMap.mpr ?_
 refine List.Pairwise.imp ?_ List.pairwise_lt_range
 intro a b hab x hx y hy
 obtain⟨u,_,eu⟩:=AL.mp hx
 obtain⟨v,_,ev⟩:=AL.mp hy
 rw[<- eu,<- ev]
 exact hab
theorem mN {led:Bool} {t:SetTable} (h:TabK led t) (es:Array (Int×Value)) (n:Nat):TabK led (relayAll t es n).2.1:=by
 unfold relayAll
 cases e:t.relaid (es.map (·.1)) n with
 | none=>exact eG h.led _
 | some q=>
  obtain⟨t',o⟩:=q
  dsimp only
  split
  ·have:=lU e
   exact⟨this.1.trans h.led,fun _=>this.2⟩
  ·exact eG h.led _
abbrev bU (w:World):Bool:=w.params.followText "set-order"
def Ents (es:List (Int×Value)) (ks:List Int):Prop:=Paired (fun(e:Int×Value) (k:Int)=>∃t,e=(hashInt k,Value.int k t)) es ks
structure SetIn (w:World) (o:Obj) (es:Array (Int×Value)) (ep:Nat) (t:SetTable) (ks:List Int):Prop where
 ex:o.ExactSet
 da:o.data= .set es ep t
 en:Ents es.toList ks
 nd:ks.Nodup
 sz:ks.length<4000
 ft:t.fits es.size=true
 tb:TabK (!bU w) t
def SX (w:World) (a:Addr) (ms:List Int):Heap->Prop:=fun h=>∃o es ep t ks,h.get? a=some o/\SetIn w o es ep t ks/\ks.Perm ms
theorem SX.at {w:World} {a:Addr} {ms:List Int} {h h':Heap} (x:SX w a ms h) (k:∀o,h.get? a=some o->h'.get? a=some o):SX w a ms h':=by
 obtain⟨o,es,ep,t,ks,e,r⟩:=x
 exact⟨o,es,ep,t,ks,k o e,r⟩
theorem SX.lt {w:World} {a:Addr} {ms:List Int} {h:Heap} (x:SX w a ms h):a<h.objs.size:=by
 obtain⟨o,es,ep,t,ks,e,r⟩:=x
 exact Heap.lt_size e
theorem SX.perm {w:World} {a:Addr} {ms ns:List Int} {h:Heap} (x:SX w a ms h) (p:ms.Perm ns):SX w a ns h:=by
 obtain⟨o,es,ep,t,ks,e,r,q⟩:=x
 exact⟨o,es,ep,t,ks,e,r,q.trans p⟩
theorem Ents.mem:∀{es:List (Int×Value)} {ks:List Int},Ents es ks->∀{e:Int×Value},e∈es->∃k t,k∈ks/\e=(hashInt k,Value.int k t):=by
 intro es ks h e
 unfold Ents at h
 induction h with
 | nil=>intro h;cases h
 | cons q r ih=>
  intro h
  obtain⟨t,q⟩:=q
  rcases AR.mp h with z | z
  ·exact⟨_,t,A7,z.trans q⟩
  ·obtain⟨k,t,m,q⟩:=ih z
   exact⟨k,t,AY _ m,q⟩
theorem Ents.elems {P:Program} {w:World} {es:List (Int×Value)} {ks:List Int} (h:Ents es ks):ElemsOf (intKind P w) es:=fun e he=>by
 obtain⟨k,t,_,q⟩:=h.mem he
 subst q
 exact⟨⟨k,intKind_is P w k t,rfl⟩,rfl⟩
theorem Ents.len {es:List (Int×Value)} {ks:List Int} (h:Ents es ks):es.length=ks.length:=Paired.length h
theorem Ents.perm {es es':List (Int×Value)} (p:es'.Perm es):∀{ks:List Int},Ents es ks->∃ks',Ents es' ks'/\ks'.Perm ks:=by
 induction p with
 | nil=>intro ks h;cases h;exact⟨[],.nil,.nil⟩
 | cons x _ ih=>
  intro ks h
  cases h with
  | cons q r=>
   obtain⟨ks',a,b⟩:=ih r
   exact⟨_ :: ks',.cons q a,b.cons _⟩
 | swap x y l=>
  intro ks h
  cases h with
  | cons q r=>
   cases r with
   | cons q' r=>exact⟨_ :: _ :: _,.cons q' (.cons q r),.swap _ _ _⟩
 | trans _ _ ih1 ih2=>
  intro ks h
  obtain⟨k2,a,b⟩:=ih2 h
  obtain⟨k3,c,d⟩:=ih1 a
  exact⟨k3,c,d.trans b⟩
theorem lV (k j:Int) (t:Tok):Value.isInt k (.int j t)=decide (k=j):=by
 by_cases h:k=j
 ·subst h;simp[Value.isInt]
 ·simp [Value.isInt,h]
  exact fun z=>h z.symm
theorem Ents.find {P:Program} {w:World} {k:Int}:∀{es:List (Int×Value)} {ks:List Int},Ents es ks->(es.findIdx? (fun e=>(intKind P w).is k e.2)).isSome=decide (k∈ks):=by
 intro es ks h
 unfold Ents at h
 induction h with
 | nil=>rfl
 | @cons a j es ks q r ih=>
  obtain⟨t,q⟩:=q
  subst q
  rw[List.findIdx?_cons]
  have e:(intKind P w).is k (hashInt j,Value.int j t).2=decide (k=j):=lV k j t
  rw[e]
  by_cases h:k=j
  ·subst h;simp
  ·simp [h,ih]
section
variable {P:Program} {w:World} {A:Around} {E:Value->Shared->Prop} {s:Shared} {a:Addr} {ms ks:List Int} {o:Obj} {es:Array (Int×Value)} {ep:Nat} {t:SetTable}
theorem SetIn.bound (h:SetIn w o es ep t ks):es.size<scanBound:=by
 have:es.size=ks.length:=by rw[<- h.en.len,AQ]
 have:=h.sz
 have e:scanBound=4096:=rfl
 omega
theorem SetIn.size (h:SetIn w o es ep t ks):es.size=ks.length:=by rw[<- h.en.len,AQ]
theorem pW {es':Array (Int×Value)} {t':SetTable} {ks':List Int} (ho:s.heap.get? a=some o) (h:SetIn w o es ep t ks) (en:Ents es'.toList ks') (nd:ks'.Nodup) (sz:ks'.length<4000) (ft:t'.fits es'.size=true) (tb:TabK (!bU w) t'):
  ∃o',(s.heap.update a (Obj.putSet es' t')).get? a=some o'/\SetIn w o' es' (ep+1) t' ks':=by
 have g:=Heap.get?_update_self (Obj.putSet es' t') ho (by rw[putSet_of es' t' h.da];rfl)
 rw[putSet_of es' t' h.da]at g
 exact⟨_,g,⟨h.ex,rfl,en,nd,sz,ft,tb⟩⟩
theorem qQ {g:Bool->Sem Unit} {Q:Unit->Shared->Prop} (hg:∀b,g b=match b with | true=>rule "set.scan.the-table-gave-way" | false=>pure ()) (b:Bool) {s:Shared} (h:Q () s):wpAny (model P w) A (g b) Q E s:=by
 rw[hg b]
 cases b with
 | true=>exact wpAny_rule h
 | false=>exact wpAny_pure h
theorem xO {x:Int} {tk:Tok} {Q:Bool->Shared->Prop} (ho:s.heap.get? a=some o) (hs:SetIn w o es ep t ks) (hl:ks.length+1<4000)
  (h1:x∈ks->Q false s) (h2:x∉ks->∀h',Heap.SameBut a s.heap h'->SX w a (ks++[x]) h'->Q true {s with heap:=h'}):wpAny (model P w) A (setAddHashed a (.int x tk) (hashInt x)) Q E s:=by
 have hel:=hs.en.elems (P:=P) (w:=w)
 have hky:(intKind P w).is x (.int x tk)=true:=intKind_is P w x tk
 unfold setAddHashed setAddHashedIn
 refine wpAny_holding (wpAny_bind (wpAny_setState_of ho hs.da hs.ft ?_))
 dsimp only
 rw[byScan_of (knd:=intKind P w) rfl hs.bound hel,if_pos rfl]
 refine wpAny_bind ?_
 unfold setAddByScan
 refine wpAny_bind (wpAny_rule (wpAny_bind (wpAny_setScan_of (knd:=intKind P w) (k:=x) hky ho hs.da hs.ft hel ?_)))
 have fd:=hs.en.find (P:=P) (w:=w) (k:=x)
 cases hr:List.findIdx? (fun e=>(intKind P w).is x e.2) es.toList with
 | some j=>
  rw[hr]at fd
  exact wpAny_pure (wpAny_pure (h1 (of_decide_eq_true fd.symm)))
 | none=>
  rw[hr]at fd
  have hx:x∉ks:=of_decide_eq_false fd.symm
  have p1:=layNew_perm t es (hashInt x) (Value.int x tk)
  have f1:=layNew_fits t es (hashInt x) (Value.int x tk)
  have t1:=pV hs.tb es (hashInt x) (Value.int x tk)
  generalize layNew t es (hashInt x) (Value.int x tk)=L at p1 f1 t1 ⊢
  obtain⟨e1,u1,wasD,gave⟩:=L
  dsimp only at p1 f1 t1 ⊢
  rw[CA]at p1
  obtain⟨k1,n1,q1⟩:=Ents.perm p1 (ks:=ks++[x]) (Paired.snoc hs.en ⟨tk,rfl⟩)
  have nd1:k1.Nodup:=q1.nodup_iff.mpr (qO hs.nd hx)
  have l1:k1.length<4000:=by rw[q1.length_eq,AK,AS];exact hl
  have b1:e1.size<=sizeLine:=by
   have:e1.size=k1.length:=by rw[<- n1.len,AQ]
   exact A9 (by omega) (BC (mK (n:=99999) (by omega)))
  refine wpAny_bind (qQ (fun b=>by cases b<;>rfl) gave ?_)
  have tail:∀u2:SetTable,u2.fits e1.size=true->TabK (!bU w) u2->∀R:Option Bool->Shared->Prop,(∀h',Heap.SameBut a s.heap h'->SX w a (ks++[x]) h'->R (some true) {s with heap:=h'})->∀g:Bool->Sem Unit,(∀b,g b=match b with | true=>rule "set.scan.the-table-gave-way" | false=>pure ())->
    wpAny (model P w) A (do
     storeSet a e1 u2
     if(!wasD&&u2.tooFull)=true then
      let(es,t,gave):=relayAll u2 e1 (SetTable.grown e1.size)
      g gave
      storeSet a es t
     return some true) R E s:=by
   intro u2 f2 t2 R hR g hg
   refine wpAny_bind (wpAny_storeSet_of ho hs.da ?_ b1)
   obtain⟨o',ho',hs'⟩:=pW (s:=s) ho hs n1 nd1 l1 f2 t2
   have sb1:=Heap.SameBut.update s.heap a (Obj.putSet e1 u2)
   by_cases hc:(!wasD&&u2.tooFull)=true
   ·rw [if_pos hc]
    have p3:=relayAll_perm u2 e1 (SetTable.grown e1.size)
    have f3:=relayAll_fits u2 e1 (SetTable.grown e1.size)
    have t3:=mN t2 e1 (SetTable.grown e1.size)
    generalize relayAll u2 e1 (SetTable.grown e1.size)=L at p3 f3 t3 ⊢
    obtain⟨e3,u3,gave3⟩:=L
    dsimp only at p3 f3 t3 ⊢
    obtain⟨k3,n3,q3⟩:=Ents.perm p3 n1
    have z3:e3.size=e1.size:=by rw[<- AQ,p3.length_eq,AQ]
    refine wpAny_bind (qQ hg gave3 ?_)
    refine wpAny_bind (wpAny_storeSet_of ho' hs'.da ?_ (by rw[z3];exact b1))
    obtain⟨o3,ho3,hs3⟩:=pW (s:={s with heap:=s.heap.update a (Obj.putSet e1 u2)}) ho' hs' n3 (q3.nodup_iff.mpr nd1) (by rw[q3.length_eq];exact l1) f3 t3
    exact wpAny_pure (hR _ (sb1.trans (Heap.SameBut.update _ a _)) ⟨o3,e3,_,u3,k3,ho3,hs3,q3.trans q1⟩)
   ·rw [if_neg hc]
    exact wpAny_pure (hR _ sb1 ⟨o',e1,_,u2,k1,ho',hs',q1⟩)
  by_cases hp:u1.plain=true
  ·rw [if_pos hp]
   refine wpAny_bind ?_
   rw[hashByValue_scannable 8 (x:=Value.int x tk) rfl]
   refine wpAny_pure ?_
   refine tail u1 f1 t1 _ (fun h' sb sx=>?_) _ (fun b=>by cases b<;>rfl)
   exact wpAny_pure (h2 hx h' sb sx)
  ·rw [if_neg hp]
   refine wpAny_bind (wpAny_pure ?_)
   refine tail u1 f1 t1 _ (fun h' sb sx=>?_) _ (fun b=>by cases b<;>rfl)
   exact wpAny_pure (h2 hx h' sb sx)
end
theorem bL:Slot "set_iterator" "__next__" "set_iterator.__next__":= .of (owner:="set_iterator") (n:="__next__") (by rw[typeLookup_type,builtinLookup_eq_fast];kernel_rfl) (by decide +kernel) (by decide +kernel) (by decide +kernel) (.inl (by decide +kernel)) (by rw[isSubtype_type];kernel_rfl)
theorem gH:entryFor table "set_iterator.__next__"=some Builtin.«set_iterator.__next__»:=entryFor_of_tree (by kernel_rfl)
theorem iw (a:Value):argsOk "set_iterator.__next__" ⟨[a],[]⟩:=by unfold argsOk;kernel_rfl
theorem iy:Slot "set_iterator" "__iter__" "set_iterator.__iter__":= .of (owner:="set_iterator") (n:="__iter__") (by rw[typeLookup_type,builtinLookup_eq_fast];kernel_rfl) (by decide +kernel) (by decide +kernel) (by decide +kernel) (.inl (by decide +kernel)) (by rw[isSubtype_type];kernel_rfl)
theorem k9:entryFor table "set_iterator.__iter__"=some Builtin.«dict_keyiterator.__iter__»:=entryFor_alias (id':="dict_keyiterator.__iter__") (by kernel_rfl) rfl (by decide +kernel) (by kernel_rfl)
theorem mO (a:Value):argsOk "set_iterator.__iter__" ⟨[a],[]⟩:=by unfold argsOk;kernel_rfl
theorem kc:entryFor table "set.__iter__"=some Builtin.«frozenset.__iter__»:=entryFor_alias (id':="frozenset.__iter__") (by kernel_rfl) rfl (by decide +kernel) (by kernel_rfl)
theorem kd {α:Type} {l:List α} {i:Nat} {x:α} (h:l[i]?=some x):l.Perm (x :: l.eraseIdx i):=by
 induction l generalizing i with
 | nil=>simp at h
 | cons y r ih=>
  cases i with
  | zero=>simp at h;subst h;simp
  | succ i=>
   simp at h
   exact((ih h).cons y).trans (.swap _ _ _)
theorem wc {α:Type} (next:Nat->Nat) (f k:Nat) (left:List α) (out:Array α) (h:left.length=f):(pickOrder.go next f k left out).toList.Perm (out.toList++left):=by
 induction f generalizing k left out with
 | zero=>
  have:left=[]:=A5.mp h
  subst this
  unfold pickOrder.go
  simp
 | succ f ih=>
  unfold pickOrder.go
  have hp:0<left.length:=by omega
  have hl:=CC (next k) hp
  rw[AD hl]
  dsimp only
  refine(ih (k+1) _ _ (by rw[Cw hl];omega)).trans ?_
  rw[CA,Cy]
  exact(kd (AD hl)).symm.append_left _
theorem iX {α:Type} (next:Nat->Nat) (xs:Array α):(pickOrder next xs).toList.Perm xs.toList:=by
 have:=wc next xs.size 0 xs.toList #[] (by simp)
 unfold pickOrder
 simpa using this
section
variable {M:Model} {A:Around} {E:Value->Shared->Prop} {s:Shared}
theorem pX {src:Source} {n:Nat} {Q:Nat->Shared->Prop} (hn:n≠0) (h:∀i d,i<n->Q i {s with drawn:=d}):wpAny M A (choose src n) Q E s:=fun Γ p _=>by
 show Sem.wp M Γ (.choose src n .pure) _ _ p s
 rw[Sem.wp_choose]
 exact⟨hn,h _ _ (CC _ (Nat.pos_of_ne_zero hn))⟩
theorem pY {α:Type}:∀(n:Nat) (xs:List α) (s:Shared) (Q:List α->Shared->Prop),xs.length=n->(∀ys d,ys.Perm xs->Q ys {s with drawn:=d})->wpAny M A (drawOrder n xs) Q E s:=by
 intro n
 induction n with
 | zero=>
  intro xs s Q hl h
  have:xs=[]:=A5.mp hl
  subst this
  unfold drawOrder
  exact wpAny_pure (h [] s.drawn (.refl _))
 | succ n ih=>
  intro xs s Q hl h
  cases xs with
  | nil=>cases hl
  | cons x r=>
   unfold drawOrder
   refine wpAny_bind (pX (by simp) fun i d hi=>?_)
   rw[AD hi]
   dsimp only
   refine wpAny_bind (ih _ _ _ (by rw[Cw hi,hl];rfl) fun ys d' hp=>wpAny_pure ?_)
   exact h _ d' ((hp.cons _).trans (kd (AD hi)).symm)
end
abbrev jJ (h:Heap) (I:Addr) (first:Value) (i:Nat) (S:Addr) (n ep:Nat):Prop:=
 h.get? I=some {cls:= .type "set_iterator",dict:=none,data:= .fields #[first,.int i 0,.ref S,.int n 0,.int ep 0],slots:=#[]}
section
variable {P:Program} {w:World} {A:Around} {E:Value->Shared->Prop} {s:Shared} {I S:Addr} {ks:List Int} {o:Obj} {es:Array (Int×Value)} {ep i:Nat} {t:SetTable} {first:Value}
theorem qR {Q:Value->Shared->Prop} {n:Nat} (hit:jJ s.heap I first i S n ep) (h:Q (.ref I) s):wpAny (model P w) A (pyIter (.ref I)) Q E s:=by
 have hT:s.TypeIs (.ref I) "set_iterator":=⟨_,hit,rfl⟩
 refine wpAny_pyIter_slot hT iy (wpAny_call_entry iy hT k9 ?_ (mO _))
 show wpAny _ _ (ret (.ref I)) _ _ s
 exact wpAny_pure ⟨_,rfl,"set_iterator",_,hT,bL.lookup,h⟩
theorem lW {A':Around} {R:Fin->Shared->Prop} {Q:Option Value->Shared->Prop} (hh:A'.handled=none) (h:∀h',(∀b o,s.heap.get? b=some o->h'.get? b=some o)->Q none {s with heap:=h'}):
  wpAny (model P w) A' (do let e <- newExc (.type "StopIteration") [];raiseNew e) R (fun e s'=>wpAny (model P w) A (do let b <- isInstance e (.type "StopIteration");if b=true then pure none else throw e) Q E s') s:=by
 refine wpAny_bind ?_
 simp only[newExc,newTuple]
 refine wpAny_bind (wpAny_newObj_type ?_ (by size_fits))
 refine wpAny_bind (m:=firstArgMember _ _) (wpAny_of_eq (a:=Value.none) (by first | rfl | (simp only[firstArgMember];rfl)) ?_)
 refine wpAny_newObj_type ?_ (by size_fits)
 simp only[raiseNew]
 refine wpAny_bind (wpAny_handled ?_)
 rw[hh]
 refine wpAny_bind (wpAny_pure (wpAny_throw ?_))
 refine wpAny_bind (wpAny_isInstance (T:="StopIteration") (b:=true) ⟨_,Heap.get?_push_size _ rfl,rfl⟩ isSubtype_stop ?_)
 exact wpAny_pure (h _ fun b o e=>Heap.get?_push_of_some _ (Heap.get?_push_of_some _ e))
theorem qT {Q:Option Value->Shared->Prop} {slot:Nat} (hh:A.handled=none) (hit:jJ s.heap I (.int slot 0) i S es.size ep) (ho:s.heap.get? S=some o) (hs:SetIn w o es ep t ks) (r:Option (Value×Nat))
  (hr:∀(A':Around) (E':Value->Shared->Prop) (R:Option (Value×Nat)->Shared->Prop),R r s->wpAny (model P w) A' (setNext S slot i ep) R E' s)
  (h1:∀x nx h',r=some (x,nx)->jJ h' I (.int nx 0) (i+1) S es.size ep->Heap.SameBut I s.heap h'->Q (some x) {s with heap:=h'})
  (h2:∀h',r=none->(∀b o,b≠I->s.heap.get? b=some o->h'.get? b=some o)->Q none {s with heap:=h'}):wpAny (model P w) A (pyNext (.ref I)) Q E s:=by
 have hT:s.TypeIs (.ref I) "set_iterator":=⟨_,hit,rfl⟩
 unfold pyNext
 refine wpAny_bind (wpAny_attempt (wpAny_callSpecial?_slot (name:=Str.ofString "__next__") hT bL (wpAny_call_entry bL hT gH ?_ (iw _))))
 unfold Builtin.«set_iterator.__next__»
 refine wpAny_bind (wpAny_pure ?_)
 refine wpAny_bind (wpAny_fieldsOf hit rfl ?_)
 dsimp only
 refine wpAny_bind (wpAny_setEntries_of ho hs.da hs.ft ?_)
 rw[if_neg (by simp)]
 refine wpAny_bind (hr _ _ _ ?_)
 cases r with
 | none=>
  dsimp only
  refine wpAny_bind (wpAny_setField hit rfl (by simp) ?_)
  exact lW (A:=A) (show A.in1.handled=none from hh) fun h' k=>h2 h' rfl fun b o hb e=>k b o ((Heap.get?_update_other _ _ (Ne.symm hb)).trans e)
 | some q=>
  obtain⟨x,nx⟩:=q
  dsimp only
  refine wpAny_bind (wpAny_setField_rec hit (by simp) fun ha ea sa=>?_)
  refine wpAny_bind (wpAny_setField_rec ea (by simp) fun hb eb sb=>wpAny_pure ⟨x,rfl,wpAny_pure (h1 x nx hb rfl ?_ (sa.trans sb))⟩)
  have e:((i+1:Nat):Int)=(i:Int)+1:=by omega
  unfold jJ
  rw[e]
  simpa [rawInt]using eb
theorem gI {Q:Option Value->Shared->Prop} {T:Addr} {ps:List Nat} {m:Nat} (hh:A.handled=none) (hit:jJ s.heap I (.ref T) i S es.size ep) (hT2:s.heap.get? T=some {cls:= .type "tuple",data:= .seq (ps.map fun(p:Nat)=>rawInt p).toArray m})
  (ho:s.heap.get? S=some o) (hs:SetIn w o es ep t ks) (hp:∀p∈ps,p<es.size)
  (h1:∀p h',ps[i]?=some p->jJ h' I (.ref T) (i+1) S es.size ep->Heap.SameBut I s.heap h'->Q (es[p]?.map (·.2)) {s with heap:=h'})
  (h2:∀h',ps[i]?=none->(∀b o,b≠I->s.heap.get? b=some o->h'.get? b=some o)->Q none {s with heap:=h'}):wpAny (model P w) A (pyNext (.ref I)) Q E s:=by
 have hT:s.TypeIs (.ref I) "set_iterator":=⟨_,hit,rfl⟩
 unfold pyNext
 refine wpAny_bind (wpAny_attempt (wpAny_callSpecial?_slot (name:=Str.ofString "__next__") hT bL (wpAny_call_entry bL hT gH ?_ (iw _))))
 unfold Builtin.«set_iterator.__next__»
 refine wpAny_bind (wpAny_pure ?_)
 refine wpAny_bind (wpAny_fieldsOf hit rfl ?_)
 dsimp only
 refine wpAny_bind (wpAny_setEntries_of ho hs.da hs.ft ?_)
 rw[if_neg (by simp)]
 refine wpAny_bind (wpAny_seqItems hT2 rfl ?_)
 dsimp only
 have eq:(ps.map fun(p:Nat)=>rawInt p).toArray[(i:Int).toNat]?=(ps[i]?).map fun(p:Nat)=>rawInt p:=by
  rw[Ba,List.getElem?_toArray,AG]
 rw[eq]
 cases hpi:ps[i]? with
 | none=>
  dsimp only[Option.map_none]
  refine wpAny_bind (wpAny_setField_rec hit (by simp) fun ha ea sa=>?_)
  refine wpAny_bind (wpAny_setField ea rfl (by simp) ?_)
  refine lW (A:=A) (show A.in1.handled=none from hh) fun h' k=>h2 h' hpi fun b o hb e=>k b o ?_
  exact(Heap.get?_update_other _ _ (Ne.symm hb)).trans ((sa.2 b hb).trans e)
 | some p=>
  have hlt:p<es.size:=hp p (AJ hpi)
  have key:=h1 p
  rw[Bq hlt]at key
  dsimp only[Option.map_some,rawInt]
  unfold setNextDrawn
  refine wpAny_bind (wpAny_bind (wpAny_setState_of ho hs.da hs.ft ?_))
  dsimp only
  rw[if_neg (by simp),Ba,Bq hlt]
  refine wpAny_pure ?_
  refine wpAny_bind (wpAny_setField_rec hit (by simp) fun ha ea sa=>wpAny_pure ⟨_,rfl,wpAny_pure (key ha hpi ?_ sa)⟩)
  have e:((i+1:Nat):Int)=(i:Int)+1:=by omega
  unfold jJ
  rw[e]
  simpa [rawInt]using ea
end
section
variable {P:Program} {w:World} {A:Around} {E:Value->Shared->Prop} {s:Shared} {I S:Addr} {ks:List Int} {o:Obj} {es:Array (Int×Value)} {ep i:Nat} {t:SetTable}
def SetAt (w:World) (S:Addr) (es:Array (Int×Value)) (ep:Nat) (t:SetTable) (ks:List Int) (h:Heap):Prop:=∃o,h.get? S=some o/\SetIn w o es ep t ks
theorem SetAt.at {h h':Heap} (x:SetAt w S es ep t ks h) (k:∀o,h.get? S=some o->h'.get? S=some o):SetAt w S es ep t ks h':=let⟨o,e,r⟩:=x;⟨o,k o e,r⟩
abbrev zf (vs:List Int):Nat->Value->Prop:=fun i v=>∃t,v= .int (vs.getD i 0) t
theorem qU {l:List (Int×Value)} {vs:List Int} (h:Ents l vs) {i:Nat} {e:Int×Value} (hi:l[i]?=some e):∃tk,e.2=Value.int (vs.getD i 0) tk:=by
 have hl:i<vs.length:=by rw[<- h.len];exact(AF.mp hi).1
 obtain⟨a,ha,q⟩:=dw h (AD hl)
 rw[hi]at ha
 cases ha
 obtain⟨tk,q⟩:=q
 exact⟨tk,by rw[q];simp[hl]⟩
theorem ke (hh:A.handled=none) (hne:S≠I) (ord:List (Int×Value)) (vs:List Int) (f:Nat->Nat) (hv:Ents ord vs) (hl:ord.length=es.size)
  (hr:∀(i:Nat) (s:Shared),i<=es.size->SetAt w S es ep t ks s.heap->∀(A':Around) (E':Value->Shared->Prop) (R:Option (Value×Nat)->Shared->Prop),R ((ord[i]?).map fun e=>(e.2,f (i+1))) s->wpAny (model P w) A' (setNext S (f i) i ep) R E' s):
  Walks P w A I [I,S] [I] es.size (zf vs) (fun i h=>jJ h I (.int (f i) 0) i S es.size ep/\SetAt w S es ep t ks h) where
 sub:=fun b hb=>by simp at hb;simp[hb]
 frame:=fun i h h' st k=>⟨k I (by simp) _ st.1,st.2.at fun o e=>k S (by simp) o e⟩
 item:=fun i s Q E hi st hQ=>by
  obtain⟨o,ho,hs⟩:=id st.2
  obtain⟨e,he⟩:∃e,ord[i]?=some e:=⟨_,AD (by omega)⟩
  refine qT hh st.1 ho hs _ (hr i s (by omega) st.2) (fun x nx h' e2 it' sb=>?_) fun h' e2 _=>by rw[he]at e2;cases e2
  rw[he]at e2
  have e3:=Option.some.inj e2
  have hx:e.2=x:=congrArg Prod.fst e3
  have hn:f (i+1)=nx:=congrArg Prod.snd e3
  subst hx hn
  exact hQ _ h' s.toks (qU hv he) ⟨it',st.2.at fun o e=>(sb.2 S hne).trans e⟩ fun b o hb e=>(sb.2 b (by simpa using hb)).trans e
 done:=fun s Q E st hQ=>by
  obtain⟨o,ho,hs⟩:=id st.2
  have he:ord[es.size]?=none:=BI (by omega)
  refine qT hh st.1 ho hs _ (hr _ s (AI _) st.2) (fun x nx h' e2 it' sb=>by rw[he]at e2;cases e2) fun h' _ k=>?_
  exact hQ h' s.toks fun b o hb e=>k b o (by simpa using hb) e
 self:=fun i s Q E st h=>qR st.1 h
theorem xP {n:Nat} (h:n<=5000):n<=sizeLine:=A9 h (BC (mK (n:=5000) (by omega)))
theorem xQ (ps:List Nat) (hp:∀p∈ps,p<es.size):ps.filterMap (es[·]?)=ps.map fun q=>es.getD q (0,.none):=by
 induction ps with
 | nil=>rfl
 | cons q r ih=>
  have hq:=hp q (by simp)
  rw[BP,Bq hq]
  dsimp only
  rw[ih (fun x hx=>hp x (AY _ hx)),BN]
  simp[hq]
theorem oz {T:Addr} (hh:A.handled=none) (hne:S≠I) (hT:T≠I) (ps:List Nat) (vs:List Int) (hv:Ents (ps.filterMap (es[·]?)) vs) (hp:∀p∈ps,p<es.size) (hl:ps.length=es.size):
  Walks P w A I [I,S,T] [I] es.size (zf vs) (fun i h=>jJ h I (.ref T) i S es.size ep/\SetAt w S es ep t ks h/\h.get? T=some {cls:= .type "tuple",data:= .seq (ps.map fun(p:Nat)=>rawInt p).toArray}) where
 sub:=fun b hb=>by simp at hb;simp[hb]
 frame:=fun i h h' st k=>⟨k I (by simp) _ st.1,st.2.1.at fun o e=>k S (by simp) o e,k T (by simp) _ st.2.2⟩
 item:=fun i s Q E hi st hQ=>by
  obtain⟨o,ho,hs⟩:=id st.2.1
  refine gI hh st.1 st.2.2 ho hs hp (fun p h' e2 it' sb=>?_) fun h' e2 _=>?_
  ·have hlt:=hp p (AJ e2)
   rw[Bq hlt]
   have e4:(ps.filterMap (es[·]?))[i]?=some es[p]:=by
    have:=xQ ps hp
    rw[this,AG,e2]
    simp[hlt]
   exact hQ _ h' s.toks (qU hv e4) ⟨it',st.2.1.at fun o e=>(sb.2 S hne).trans e,(sb.2 T hT).trans st.2.2⟩ fun b o hb e=>(sb.2 b (by simpa using hb)).trans e
  ·rw [AD (by omega)]at e2
   cases e2
 done:=fun s Q E st hQ=>by
  obtain⟨o,ho,hs⟩:=id st.2.1
  refine gI hh st.1 st.2.2 ho hs hp (fun p h' e2 it' sb=>?_) fun h' _ k=>?_
  ·rw [BI (by omega)]at e2
   cases e2
  ·exact hQ h' s.toks fun b o hb e=>k b o (by simpa using hb) e
 self:=fun i s Q E st h=>qR st.1 h
theorem pZ {l:List Nat} (h:l.length<=1):j9 l:=by
 match l,h with
 | [],_=>exact .nil
 | [x],_=>exact B5 _ _
def iY (t:SetTable):Nat->Nat
 | 0=>0
 | i+1=>t.place.getD i 0+1
theorem uw {t:SetTable} (r:j9 t.place.toList) {i:Nat} (hi:i<=t.place.size):SetTable.below t.place (iY t i)=i:=by
 refine(lQ r _).unique ⟨hi,fun k hk hlt=>?_,fun k hk hge=>?_⟩
 ·cases i with
  | zero=>omega
  | succ i=>
   have hi':i<t.place.size:=by omega
   have e:t.place.getD i 0=t.place[i]:=by simp[hi']
   show t.place[k]<t.place.getD i 0+1
   rw[e]
   by_cases z:k=i
   ·subst z;omega
   ·have:=iu r hk hi' (by omega)
    omega
 ·cases i with
  | zero=>exact A0 _
  | succ i=>
   have hi':i<t.place.size:=by omega
   have e:t.place.getD i 0=t.place[i]:=by simp[hi']
   show t.place.getD i 0+1<=t.place[k]
   rw[e]
   exact iu r hi' hk (by omega)
theorem iZ (h:t.fits es.size=true):t.place.size=es.size:=by
 simp only[SetTable.fits,BL,beq_iff_eq,decide_eq_true_eq]at h
 exact h.1
theorem iz {Q:Array (Int×Value)->Shared->Prop} (bt:bU w=true) (ho:s.heap.get? S=some o) (hs:SetIn w o es ep t ks) (h:Q (pickOrder (w.params.setOrder S ep) es) s):wpAny (model P w) A (setWalk S) Q E s:=by
 unfold setWalk setsByText
 refine wpAny_bind (wpAny_setState_of ho hs.da hs.ft ?_)
 dsimp only
 refine wpAny_bind (wpAny_bind (wpAny_askSetting (wpAny_pure ?_)))
 have bt':(model P w).w.params.followText "set-order"=true:=bt
 rw[bt',if_pos rfl]
 exact wpAny_bind (wpAny_askSetting (wpAny_pure h))
theorem r8 {slot:Nat} {Q:Option (Value×Nat)->Shared->Prop} (bt:bU w=true) (ho:s.heap.get? S=some o) (hs:SetIn w o es ep t ks)
  (h:Q (((pickOrder (w.params.setOrder S ep) es).toList[i]?).map fun e=>(e.2,slot)) s):wpAny (model P w) A (setNext S slot i ep) Q E s:=by
 unfold setNext
 refine wpAny_bind (wpAny_setState_of ho hs.da hs.ft ?_)
 dsimp only
 refine wpAny_bind ?_
 unfold setsByText
 refine wpAny_bind (wpAny_askSetting (wpAny_pure ?_))
 have bt':(model P w).w.params.followText "set-order"=true:=bt
 rw[bt',if_pos rfl,if_neg (by simp)]
 refine wpAny_bind (iz bt ho hs (wpAny_pure ?_))
 rw[<- B1]
 exact h
theorem qc {Q:Option (Value×Nat)->Shared->Prop} (bt:bU w=false) (ho:s.heap.get? S=some o) (hs:SetIn w o es ep t ks) (hd:(!t.plain&&decide (es.size>1))=false) (hi:i<=es.size)
  (h:Q ((es.toList[i]?).map fun e=>(e.2,iY t (i+1))) s):wpAny (model P w) A (setNext S (iY t i) i ep) Q E s:=by
 have zs:=iZ hs.ft
 have r:j9 t.place.toList:=by
  by_cases hp:t.plain=true
  ·exact hs.tb.rise hp
  ·refine pZ ?_
   have:t.plain=false:=by simpa using hp
   rw[this]at hd
   simp at hd
   rw[AQ,zs];exact hd
 have ld:t.led=true:=by rw[hs.tb.led,bt];rfl
 unfold setNext
 refine wpAny_bind (wpAny_setState_of ho hs.da hs.ft ?_)
 dsimp only
 refine wpAny_bind ?_
 unfold setsByText
 refine wpAny_bind (wpAny_askSetting (wpAny_pure ?_))
 have bt':(model P w).w.params.followText "set-order"=false:=bt
 rw[bt',if_neg AO]
 show wpAny _ _ (if(!t.plain&&decide (es.size>1))=true then _ else _) _ _ _
 rw[hd,if_neg AO]
 show wpAny _ _ ((if(!t.led&& !es.isEmpty)=true then unsupported "set:maker-not-led" else pure ()) >>= fun _=>pure _) _ _ _
 rw[ld]
 refine wpAny_bind (wpAny_pure (wpAny_pure ?_))
 rw[uw r (by omega)]
 by_cases hlt:i<es.size
 ·have hp:i<t.place.size:=by omega
  rw[Bq hlt,Bq hp]
  rw[B1,Bq hlt]at h
  have e:iY t (i+1)=t.place[i]+1:=by
   show t.place.getD i 0+1=_
   simp[hp]
  rw[e]at h
  exact h
 ·rw [Array.getElem?_eq_none (by omega)]
  rw[B1,Array.getElem?_eq_none (by omega)]at h
  exact h
theorem uy {Q:Value->Shared->Prop} (hS:SetAt w S es ep t ks s.heap)
  (h:∀(I:Addr) (fp:List Addr) (vs:List Int) (St:Nat->Heap->Prop) (s':Shared),vs.Perm ks->(∀A':Around,A'.handled=none->Walks P w A' I fp [I] es.size (zf vs) St)->St 0 s'.heap->(∀b∈fp,b<s'.heap.objs.size/\(b=S\/s.heap.objs.size<=b))->s.heap.objs.size<=I->
   (∀b o,s.heap.get? b=some o->s'.heap.get? b=some o)->s'.os=s.os->s'.gens=s.gens->Q (.ref I) s'):wpAny (model P w) A (pyIter (.ref S)) Q E s:=by
 obtain⟨o,ho,hs⟩:=id hS
 have hT:s.TypeIs (.ref S) "set":=⟨o,ho,hs.ex.1⟩
 have hSl:S<s.heap.objs.size:=Heap.lt_size ho
 refine wpAny_pyIter_slot hT F.slot_set_iter (wpAny_call_entry F.slot_set_iter hT kc ?_ (F.args_set_iter_1 _))
 unfold Builtin.«frozenset.__iter__»
 refine wpAny_bind (wpAny_bind (wpAny_pure (wpAny_pure ?_)))
 unfold Builtin.Frozenset.sizeOf
 refine wpAny_bind (wpAny_bind (wpAny_setEntries_of ho hs.da hs.ft (wpAny_pure ?_)))
 refine wpAny_bind (wpAny_bind (wpAny_setState_of ho hs.da hs.ft ?_))
 dsimp only
 unfold setsByText
 refine wpAny_bind (wpAny_bind (wpAny_askSetting (wpAny_pure (wpAny_pure ?_))))
 show wpAny _ _ (if(!bU w&&(!t.plain&&decide (es.size>1)))=true then(drawOrder es.size (AH es.size) >>= fun l=>newTuple (l.map fun(i:Nat)=>rawInt i) >>= fun first=>_)else(pure (rawInt 0) >>= fun first=>_)) _ _ _
 cases bt:bU w with
 | true=>
  simp only[Bool.not_true,Bd,Be,if_false]
  refine wpAny_bind (wpAny_pure ?_)
  refine wpAny_bind (wpAny_setEpoch_of ho hs.da hs.ft ?_)
  refine wpAny_bind (wpAny_newObj_type (wpAny_pure ⟨_,rfl,"set_iterator",_,⟨_,Heap.get?_push_size _ rfl,rfl⟩,bL.lookup,?_⟩))
  obtain⟨vs,hv,hp⟩:=Ents.perm (iX (w.params.setOrder S ep) es) hs.en
  refine h s.heap.objs.size [s.heap.objs.size,S] vs (fun i h=>jJ h s.heap.objs.size (.int 0 0) i S es.size ep/\SetAt w S es ep t ks h) _ hp (fun A' hA'=>ke (f:=fun _=>0) hA' (AV hSl) _ vs hv ?_ (fun i s' hi st A2 E2 R hR=>?_))
   ⟨Heap.get?_push_size _ rfl,hS.at fun o e=>Heap.get?_push_of_some _ e⟩ (fun b hb=>?_) (AI _) (fun b o e=>Heap.get?_push_of_some _ e) rfl rfl
  ·have:=(iX (w.params.setOrder S ep) es).length_eq
   rw[this,AQ]
  ·obtain⟨o',ho',hs'⟩:=st
   exact r8 bt ho' hs' hR
  ·rw [Heap.size_push]
   simp only[AR,A4,or_false]at hb
   rcases hb with e | e
   ·rw [e];exact⟨Bs _,.inr (AI _)⟩
   ·rw [e];exact⟨Bk hSl,.inl rfl⟩
 | false=>
  simp only[Bool.not_false,Bool.true_and]
  cases hd:(!t.plain&&decide (es.size>1))with
  | false=>
   simp only[Be,if_false]
   refine wpAny_bind (wpAny_pure ?_)
   refine wpAny_bind (wpAny_setEpoch_of ho hs.da hs.ft ?_)
   refine wpAny_bind (wpAny_newObj_type (wpAny_pure ⟨_,rfl,"set_iterator",_,⟨_,Heap.get?_push_size _ rfl,rfl⟩,bL.lookup,?_⟩))
   refine h s.heap.objs.size [s.heap.objs.size,S] ks (fun i h=>jJ h s.heap.objs.size (.int (iY t i) 0) i S es.size ep/\SetAt w S es ep t ks h) _ (.refl _) (fun A' hA'=>ke (f:=iY t) hA' (AV hSl) es.toList ks hs.en (by simp) (fun i s' hi st A2 E2 R hR=>?_))
    ⟨Heap.get?_push_size _ rfl,hS.at fun o e=>Heap.get?_push_of_some _ e⟩ (fun b hb=>?_) (AI _) (fun b o e=>Heap.get?_push_of_some _ e) rfl rfl
   ·obtain⟨o',ho',hs'⟩:=st
    exact qc bt ho' hs' hd hi hR
   ·rw [Heap.size_push]
    simp only[AR,A4,or_false]at hb
    rcases hb with e | e
    ·rw [e];exact⟨Bs _,.inr (AI _)⟩
    ·rw [e];exact⟨Bk hSl,.inl rfl⟩
  | true=>
   simp only[if_true]
   refine wpAny_bind (pY es.size (AH es.size) s _ (by simp) fun ps d hp=>?_)
   have hlen:ps.length=es.size:=by rw[hp.length_eq,Bm]
   have zb:=hs.bound
   have eb:scanBound=4096:=rfl
   refine wpAny_bind (wpAny_newTuple ?_ (by rw[AC,hlen];exact xP (by omega)))
   refine wpAny_bind (wpAny_setEpoch_of (Heap.get?_push_of_some _ ho) hs.da hs.ft ?_)
   refine wpAny_bind (wpAny_newObj_type (wpAny_pure ⟨_,rfl,"set_iterator",_,⟨_,Heap.get?_push_size _ rfl,rfl⟩,bL.lookup,?_⟩))
   have hpl:∀p∈ps,p<es.size:=fun p m=>Bb.mp (hp.mem_iff.mp m)
   have pe:(ps.filterMap (es[·]?)).Perm es.toList:=by
    have:=hp.filterMap (es[·]?)
    rw[filterMap_getElem?_range]at this
    exact this
   obtain⟨vs,hv,hq⟩:=Ents.perm pe hs.en
   have sz1:∀ob:Obj,(s.heap.push ob).objs.size=s.heap.objs.size+1:=fun ob=>Heap.size_push _ _
   have key:=h (s.heap.objs.size+1) [s.heap.objs.size+1,S,s.heap.objs.size] vs (fun i h=>jJ h (s.heap.objs.size+1) (.ref s.heap.objs.size) i S es.size ep/\SetAt w S es ep t ks h/\h.get? s.heap.objs.size=some {cls:= .type "tuple",data:= .seq (ps.map fun(p:Nat)=>rawInt p).toArray})
    {s with heap:=(s.heap.push {cls:= .type "tuple",data:= .seq (ps.map fun(p:Nat)=>rawInt p).toArray}).push {cls:= .type "set_iterator",data:= .fields #[.ref s.heap.objs.size,.int 0 0,.ref S,.int es.size 0,.int ep 0]},drawn:=d} hq (fun A' hA'=>oz (t:=t) (ep:=ep) (ks:=ks) (T:=s.heap.objs.size) hA' (AV (Bk hSl)) (AV (Bs _)) ps vs hv hpl hlen)
    ⟨?it,hS.at fun o e=>Heap.get?_push_of_some _ (Heap.get?_push_of_some _ e),Heap.get?_push_of_some _ (Heap.get?_push_size _ rfl)⟩ (fun b hb=>?fp) (Cq _) (fun b o e=>Heap.get?_push_of_some _ (Heap.get?_push_of_some _ e)) rfl rfl
   case it=>
    have:=Heap.get?_push_size (s.heap.push {cls:= .type "tuple",data:= .seq (ps.map fun(p:Nat)=>rawInt p).toArray}) (o:={cls:= .type "set_iterator",data:= .fields #[.ref s.heap.objs.size,.int 0 0,.ref S,.int es.size 0,.int ep 0]}) rfl
    rw[sz1]at this
    exact this
   case fp=>
    show b<((s.heap.push _).push _).objs.size/\_
    rw[Heap.size_push,Heap.size_push]
    simp only[AR,A4,or_false]at hb
    rcases hb with e | e | e
    ·rw [e];exact⟨Bs _,.inr (Cq _)⟩
    ·rw [e];exact⟨Bk (Bk hSl),.inl rfl⟩
    ·rw [e];exact⟨Bk (Bs _),.inr (AI _)⟩
   rw[<- sz1 {cls:= .type "tuple",data:= .seq (ps.map fun(p:Nat)=>rawInt p).toArray}]at key
   exact key
end
section
variable {P:Program} {w:World} {A:Around} {E:Value->Shared->Prop} {s:Shared} {S:Addr} {ks ms:List Int} {o:Obj} {es:Array (Int×Value)} {ep i:Nat} {t:SetTable}
theorem uz {Q:Bool->Shared->Prop} (hT:s.TypeIs (.ref S) "set") (h:Q false s):wpAny (model P w) A (Builtin.List.listLengthHint (.ref S)) Q E s:=by
 unfold Builtin.List.listLengthHint
 refine wpAny_bind (wpAny_specialOf hT PySem.F.slot_set_len.lookup ?_)
 generalize hid:("set.__len__":String)=id0
 wp_delta
 rw[show splitId id0=some ("set","__len__")from by subst hid;decide +kernel]
 subst hid
 refine wpAny_bind (wpAny_isInstance (T:="set") (b:=true) hT (by rw[isSubtype_type];kernel_rfl) ?_)
 refine wpAny_ite_split (fun hab=>absurd hab (by decide)) (fun _=>?_)
 refine wpAny_ite_split (fun _=>?_) (fun hab=>absurd (by decide +kernel) hab)
 exact wpAny_bind (wpAny_typeOf hT (wpAny_pure h))
theorem qd {vs:List Int} {acc:Array Value} {n:Nat} (h:ItemsOf (zf vs) acc n) (hn:vs.length=n):IntsAre acc.toList vs:=by
 have all:∀(l:List Value) (vs:List Int),l.length=vs.length->(∀(j:Nat) v,l[j]?=some v->∃t,v=Value.int (vs.getD j 0) t)->IntsAre l vs:=by
  intro l
  induction l with
  | nil=>
   intro vs hl _
   have:vs=[]:=A5.mp (by simpa using hl.symm)
   subst this
   exact .nil
  | cons x r ih=>
   intro vs hl hv
   cases vs with
   | nil=>simp at hl
   | cons v vs=>
    obtain⟨t,e⟩:=hv 0 x rfl
    have e:x=Value.int v t:=e
    subst e
    exact .cons v t (ih vs (by simpa using hl) fun j y hj=>hv (j+1) y (by simpa using hj))
 exact all acc.toList vs (by rw[AQ,h.1,hn]) fun j v hj=>h.2 j v (by rw[<- B1];exact hj)
theorem oA {Q:List Value->Shared->Prop} (hh:A.handled=none) (hS:SetAt w S es ep t ks s.heap)
  (h:∀(vs:List Int) (l:List Value) (s':Shared),vs.Perm ks->IntsAre l vs->(∀b o,s.heap.get? b=some o->s'.heap.get? b=some o)->s'.os=s.os->s'.gens=s.gens->s.heap.objs.size<=s'.heap.objs.size->Q l s'):wpAny (model P w) A (collect (.ref S)) Q E s:=by
 obtain⟨o,ho,hs⟩:=id hS
 have hSl:S<s.heap.objs.size:=Heap.lt_size ho
 have hne:s.heap.objs.size≠S:=BD hSl
 unfold collect
 refine wpAny_bind (wpAny_runValue (codeAny_builtin PySem.F.entry_proto_collect ?_))
 rw[Around.under_plainId PySem.F.plain_proto_collect _]
 show wpAny _ A.in1 (newList [] >>= fun l=>again (.builtin "list.__iadd__" ⟨[l,.ref S],[]⟩)) _ _ s
 refine wpAny_bind (wpAny_newObj_type ?_)
 refine wpAny_pure ⟨plainId_quiet PySem.F.plain_list_iadd _,codeAny_builtin PySem.F.entry_list_iadd ?_⟩
 rw[Around.under_plainId PySem.F.plain_list_iadd _]
 generalize hs1:({s with heap:=s.heap.push {cls:= .type "list",data:= .seq ([]:List Value).toArray}}:Shared)=s1
 have e1:s1.heap=s.heap.push {cls:= .type "list",data:= .seq ([]:List Value).toArray}:=by rw[<- hs1]
 have k1:∀b o,s.heap.get? b=some o->s1.heap.get? b=some o:=fun b o e=>by rw[e1];exact Heap.get?_push_of_some _ e
 have hL1:s1.heap.get? s.heap.objs.size=some {cls:= .type "list",data:= .seq ([]:List Value).toArray}:=by rw[e1];exact Heap.get?_push_size _ rfl
 have hS1:SetAt w S es ep t ks s1.heap:=hS.at (k1 S)
 have hT:∀s2:Shared,(∀b o,s1.heap.get? b=some o->s2.heap.get? b=some o)->s2.TypeIs (.ref S) "set":=fun s2 k=>⟨o,k _ _ (k1 _ _ ho),hs.ex.1⟩
 show wpAny _ A.in1 (Builtin.List.listExtendWith (.ref s.heap.objs.size) (.ref S) (.ref s.heap.objs.size)) _ _ _
 unfold Builtin.List.listExtendWith
 refine wpAny_bind (wpAny_typeOf (hT s1 fun _ _ e=>e) ?_)
 have g1:Builtin.List.listSameRef (.ref s.heap.objs.size) (.ref S)=false:=by simp[Builtin.List.listSameRef,hne]
 have g2:(Value.type "set"==Value.type "list")=false:=by decide
 have g3:(Value.type "set"==Value.type "tuple")=false:=by decide
 simp only[g1,g2,g3,Bool.or_false,Be,if_false]
 refine wpAny_bind (uy hS1 fun I fp vs St s2 hp W st hfp hI k2 os2 gs2=>?_)
 refine wpAny_bind (wpAny_holding (uz (hT s2 k2) ?_))
 show wpAny _ A.in1 (rule "list.extend.makes-room" >>= fun _=>Builtin.List.listTouch (.ref s.heap.objs.size) >>= fun _=>
  again (.builtin "list.extend.loop" ⟨[.ref s.heap.objs.size,.ref I,.ref s.heap.objs.size],[]⟩)) _ _ _
 refine wpAny_bind (wpAny_rule (wpAny_bind ?_))
 have hL2:=k2 _ _ hL1
 have lt1:s.heap.objs.size<s1.heap.objs.size:=by rw[e1,Heap.size_push];exact Bs _
 show wpAny _ A.in1 (updateSeq s.heap.objs.size (·.push .none) >>= fun _=>updateSeq s.heap.objs.size (·.pop)) _ _ _
 refine wpAny_bind (wpAny_updateSeq hL2 rfl ?_)
 have hL3:=Heap.get?_update_self (Obj.mapSeq (·.push Value.none)) hL2 rfl
 refine wpAny_updateSeq hL3 rfl ?_
 have hL4:=Heap.get?_update_self (Obj.mapSeq (·.pop)) hL3 rfl
 have W1:=W A.in1 (show A.handled=none from hh)
 have hSf:s.heap.objs.size∉fp:=fun m=>by
  rcases(hfp _ m).2 with z | z
  ·exact hne z
  ·exact absurd lt1 (Cg.mpr z)
 have zb:=hs.bound
 have eb:scanBound=4096:=rfl
 have oth:∀b o,b≠s.heap.objs.size->s2.heap.get? b=some o->((s2.heap.update s.heap.objs.size (Obj.mapSeq (·.push Value.none))).update s.heap.objs.size (Obj.mapSeq (·.pop))).get? b=some o:=
  fun b o hb e=>(Heap.get?_update_other _ _ (Ne.symm hb)).trans ((Heap.get?_update_other _ _ (Ne.symm hb)).trans e)
 refine wpAny_pure ⟨plainId_quiet PySem.F.plain_extend_loop _,codeAny_extend_loopS W1.toS (xP (by omega)) _ hSf _ es.size 0 _ _ _ rfl (A0 _) (W1.frame 0 _ _ st fun b hb o e=>oth b o (fun z=>hSf (z▸hb)) e) hL4 (ItemsOf.nil _) fun s3 acc c hm hL5 hacc=>?_⟩
 show wpAny _ A (load s.heap.objs.size >>= _) _ _ s3
 refine wpAny_bind (wpAny_load hL5 ?_)
 refine wpAny_pure (h vs acc.toList s3 hp (qd hacc (by rw[hp.length_eq,hs.size])) (fun b o e=>?_) ?_ ?_ (BC (Heap.lt_size hL5)))
 ·have hb:b≠s.heap.objs.size:=AV (Heap.lt_size e)
  have e2:=k2 _ _ (k1 _ _ e)
  refine hm.heap b o (fun m=>?_) (oth b o hb e2)
  rcases AR.mp m with z | z
  ·exact hb z
  ·have z:b=I:=AN.mp z
   exact absurd (Heap.lt_size (k1 _ _ e)) (by rw[z];exact Cg.mpr hI)
 ·have e2:s3.os=s2.os:=hm.os
  rw[e2,os2,<- hs1]
 ·have e2:s3.gens=s2.gens:=hm.gens
  rw[e2,gs2,<- hs1]
end
section
variable {P:Program} {w:World} {A:Around} {E:Value->Shared->Prop} {s:Shared} {S:Addr} {ks ms:List Int} {o:Obj} {es:Array (Int×Value)} {ep i:Nat} {t:SetTable}
theorem lj {Q:Value->Shared->Prop} (hh:A.handled=none) (hS:SetAt w S es ep t ks s.heap) (h64:ks.length<64)
  (h:∀(L:Addr) (out:Array Value) (ns:List Int) (e:Nat) (s':Shared),IntsAre out.toList ns->ns.Perm ks->ns.Pairwise (· <= ·)->s'.heap.get? L=some (seqObj "list" out e)->s.heap.objs.size<=L->(∀b o,s.heap.get? b=some o->s'.heap.get? b=some o)->s'.os=s.os->s'.gens=s.gens->Q (.ref L) s'):
  wpAny (model P w) A (call (.builtin "sorted") [.ref S]) Q E s:=by
 refine Calls.call_function_entry kind_sorted plain_sorted entry_sorted (args_sorted1 _) ?_
 unfold Builtin.«sorted»
 refine wpAny_bind (m:=checkCount "sorted" 1 1 _) (wpAny_pure ?_)
 refine wpAny_bind (oA (show A.in1.handled=none from hh) hS fun vs l s1 hp hI k1 os1 gs1 le1=>?_)
 have hl:l.length=vs.length:=IntsAre.length hI
 have hv:vs.length=ks.length:=hp.length_eq
 refine wpAny_bind (wpAny_newList ?_ (xP (by omega)))
 have hoL:(s1.heap.push (seqObj "list" l.toArray 0)).get? s1.heap.objs.size=some (seqObj "list" l.toArray 0):=Heap.get?_push_size _ rfl
 refine wpAny_bind (wpAny_holding (wpAny_call_entry slot_list_sort ⟨_,hoL,rfl⟩ entry_list_sort (list_sort_tree (ns:=vs) hoL hI (by omega) fun out ns' a1 a2 a3=>⟨_,rfl,?_⟩) (args_list_sort _)))
 refine wpAny_pure ⟨_,rfl,?_⟩
 obtain⟨e,he⟩:=sortedHeap_at (out:=out) hoL
 have kp:∀b o,s.heap.get? b=some o->(sortedHeap (s1.heap.push (seqObj "list" l.toArray 0)) s1.heap.objs.size l out).get? b=some o:=fun b o eb=>by
  have e1:=k1 b o eb
  have lt:=Heap.lt_size e1
  rw[sortedHeap_old (AV lt) (by rw[Heap.size_push];exact Bk lt)]
  exact Heap.get?_push_of_some _ e1
 exact h s1.heap.objs.size out ns' e {s1 with heap:=sortedHeap (s1.heap.push (seqObj "list" l.toArray 0)) s1.heap.objs.size l out} a1 (a2.trans hp) a3 he le1 kp os1 gs1
theorem qe {Q:Value->Shared->Prop} (hS:SetAt w S es ep t ks s.heap) (h:∀tk n,Q (.int ks.length tk) {s with toks:=n}):wpAny (model P w) A (call (.builtin "len") [.ref S]) Q E s:=by
 obtain⟨o,ho,hs⟩:=hS
 have zb:=hs.bound
 have eb:scanBound=4096:=rfl
 have e:=hs.size
 refine call_len_set ho hs.ex hs.da hs.ft (by omega) ?_
 rw[e]
 exact h _ _
def cL (acc:List Int) (x:Int):List Int:=if x∈acc then acc else acc++[x]
def dd (ns:List Int):List Int:=ns.foldl cL []
theorem mP (ns:List Int) (x:Int):dd (ns++[x])=cL (dd ns) x:=by unfold dd;rw[List.foldl_append];rfl
theorem lX {acc:List Int} {x y:Int}:y∈cL acc x<->y∈acc\/y=x:=by
 unfold cL
 split
 ·rename_i h
  exact⟨.inl,fun z=>z.elim id fun e=>e▸h⟩
 ·simp
theorem oB:∀(ns acc:List Int) (y:Int),y∈ns.foldl cL acc<->y∈acc\/y∈ns
 | [],acc,y=>by simp
 | x :: r,acc,y=>by
  rw[Cs,oB r,lX,AR,or_assoc]
theorem bI {ns:List Int} {y:Int}:y∈dd ns<->y∈ns:=by unfold dd;rw[oB];simp
theorem qV:∀(ns acc:List Int),acc.Nodup->(ns.foldl cL acc).Nodup
 | [],acc,h=>h
 | x :: r,acc,h=>by
  rw[Cs]
  refine qV r _ ?_
  unfold cL
  split
  ·exact h
  ·rename_i hx;exact qO h hx
theorem jq (ns:List Int):(dd ns).Nodup:=qV ns [] Cu
theorem bV (ns:List Int):(dd ns).length<=ns.length:=(jq ns).length_le_of_subset fun _ h=>bI.mp h
theorem qf {x:Int} {tk:Tok} {Q:Bool->Shared->Prop} (hS:SX w S ms s.heap) (hl:ms.length+1<4000)
  (h:∀b h',Heap.SameBut S s.heap h'->SX w S (cL ms x) h'->Q b {s with heap:=h'}):wpAny (model P w) A (setAddHashed S (.int x tk) (hashInt x)) Q E s:=by
 obtain⟨o,es,ep,t,ks,ho,hs,hp⟩:=hS
 refine xO ho hs (by rw[hp.length_eq];exact hl) (fun hx=>?_) fun hx h' sb sx=>?_
 ·have e:cL ms x=ms:=if_pos (hp.mem_iff.mp hx)
  have:=h false s.heap (Heap.SameBut.refl _ _) (by rw[e];exact⟨o,es,ep,t,ks,ho,hs,hp⟩)
  exact this
 ·have e:cL ms x=ms++[x]:=if_neg fun z=>hx (hp.mem_iff.mpr z)
  exact h true h' sb (by rw[e];exact sx.perm (hp.append_right _))
theorem uA {I l:Addr} {items:Array Value} {ns:List Int} {R:Result->Shared->Prop} (hh:A.handled=none) (hne:l≠I) (hSI:S≠I) (hSl:S≠l) (hi:IntsAre items.toList ns) (hb:ns.length+1<4000):
  ∀(k i:Nat) (s:Shared),items.size-i=k->i<=items.size->s.heap.IsListIter I l i->s.heap.IsList l items->SX w S (dd (ns.take i)) s.heap->
   (∀s',(∀b o,b≠S->b≠I->s.heap.get? b=some o->s'.heap.get? b=some o)->s'.os=s.os->s'.gens=s.gens->s'.drawn=s.drawn->SX w S (dd ns) s'.heap->R (.ok (.ret .none)) s')->
   codeAny (model P w) A (.builtin "set.update.loop" ⟨[.ref S,.ref I],[]⟩) R s:=by
 have hsz:items.size=ns.length:=by rw[<- AQ];exact IntsAre.length hi
 intro k
 induction k with
 | zero=>
  intro i s hk hil it hl hS hR
  have e:i=items.size:=by omega
  subst e
  refine codeAny_builtin PyProof.Rows.F.entry_set_update_loop ?_
  rw[Around.under_plainId PyProof.Rows.F.plain_set_update_loop _]
  show wpAny _ A.in1 (pyNext (.ref I) >>= _) _ _ s
  refine wpAny_bind (wpAny_pyNext_list_end (show A.in1.handled=none from hh) it hl (by simp) fun h' eb=>?_)
  show wpAny _ A.in1 (ret Value.none) _ _ _
  refine wpAny_pure (hR _ (fun b o _ hb e=>eb b o hb e) rfl rfl rfl ?_)
  rw[BH (by omega)]at hS
  exact hS.at fun o e=>eb S o hSI e
 | succ k ih=>
  intro i s hk hil it hl hS hR
  have hlt:i<items.size:=by omega
  have hin:i<ns.length:=by omega
  obtain⟨tk,hv⟩:=IntsAre.int_at hi i items[i] (by simp[hlt])
  have egd:ns.getD i 0=ns[i]:=by simp[hin]
  rw[egd]at hv
  refine codeAny_builtin PyProof.Rows.F.entry_set_update_loop ?_
  rw[Around.under_plainId PyProof.Rows.F.plain_set_update_loop _]
  show wpAny _ A.in1 (pyNext (.ref I) >>= _) _ _ s
  refine wpAny_bind (wpAny_pyNext_list_item it hl (x:=items[i]) (by simp[hlt]) fun h1 it1 sb1=>?_)
  rw[hv]
  show wpAny _ A.in1 (holding [Value.int ns[i] tk] (setAdd S (.int ns[i] tk)) >>= _) _ _ _
  refine wpAny_bind (wpAny_holding ?_)
  unfold setAdd
  refine wpAny_holding (wpAny_bind ((intKind P w).pyHash (k:=ns[i]) (intKind_is _ _ _ _) ?_))
  have hS1:SX w S (dd (ns.take i)) h1:=hS.at fun o e=>(sb1.2 S hSI).trans e
  have dl:=bV (ns.take i)
  rw[BE]at dl
  refine qf (s:={s with heap:=h1,toks:=s.toks+1}) hS1 (by omega) fun b h2 sb2 sx=>?_
  have e2:cL (dd (ns.take i)) ns[i]=dd (ns.take (i+1)):=by rw[List.take_succ_eq_append_getElem hin,mP]
  rw[e2]at sx
  have hl1:h1.IsList l items:=by obtain⟨o,e,r⟩:=hl;exact⟨o,(sb1.2 l hne).trans e,r⟩
  refine wpAny_pure ⟨plainId_quiet PyProof.Rows.F.plain_set_update_loop _,ih (i+1) _ (by omega) hlt ?_ ?_ sx fun s' kp os' gs' ds' sx'=>?_⟩
  ·obtain⟨o,e,r⟩:=it1
   exact⟨o,(sb2.2 I hSI.symm).trans e,r⟩
  ·obtain⟨o,e,r⟩:=hl1
   exact⟨o,(sb2.2 l hSl.symm).trans e,r⟩
  ·exact hR s' (fun b o h1' h2' e=>kp b o h1' h2' ((sb2.2 b h1').trans ((sb1.2 b h2').trans e))) os' gs' ds' sx'
end
end L2
set_option maxHeartbeats 3000000
namespace L2
open PySem PySem.Spec PyProof.Rows
section
variable {P:Program} {w:World} {A:Around} {E:Value->Shared->Prop} {s:Shared} {S:Addr} {ks ms:List Int}
def aQ (w:World):Obj:={cls:= .type "set",dict:=none,data:= .set #[] 0 (.fresh 0 0 (!bU w))}
theorem lY {h:Heap} {a:Addr} (e:h.get? a=some (aQ w)):SX w a [] h:=
 ⟨_,#[],0,_,[],e,⟨⟨rfl,rfl,rfl⟩,rfl,.nil,Cu,by decide,rfl,⟨rfl,fun _=> .nil⟩⟩,.refl _⟩
theorem we (a:Value) {Q:Value->Shared->Prop} (h:Q (.ref s.heap.objs.size) {s with heap:=s.heap.push (aQ w)}):
  codeAny (model P w) A (.call (.builtin "set.__new__") ⟨[.type "set",a],[]⟩) (wants Q E) s:=by
 refine codeAny_of_tree ?_
 show wpAny _ A.in1 (do checkBuiltinCall "set.__new__" ⟨[.type "set",a],[]⟩;again (.builtin "set.__new__" ⟨[.type "set",a],[]⟩)) _ _ s
 refine wpAny_bind (wpAny_of_eq (PySem.F.newCall_set_1 a) (wpAny_pure ⟨plainId_quiet PySem.F.plain_set_new _,codeAny_builtin PySem.F.entry_set_new ?_⟩))
 rw[Around.under_plainId PySem.F.plain_set_new _]
 unfold Builtin.«set.__new__» Builtin.Frozenset.newClass
 have hsub:=sub_set_self
 obtain⟨hp,g,d,tk,os⟩:=s
 dsimp only
 wp_walk
 refine wpAny_askSetting (wpAny_pure ?_)
 dsimp only
 simp only[newObj]
 exact wpAny_bind (wpAny_alloc (wpAny_pure (wpAny_pure h)))
theorem uB {l:Addr} {items:Array Value} {ns:List Int} {R:Result->Shared->Prop} (hh:A.handled=none) (ho:s.heap.get? S=some (aQ w)) (hl:s.heap.IsList l items) (hne:S≠l) (hi:IntsAre items.toList ns) (hb:ns.length+1<4000)
  (hR:∀s',(∀b o,b≠S->s.heap.get? b=some o->s'.heap.get? b=some o)->s'.os=s.os->s'.gens=s.gens->SX w S (dd ns) s'.heap->R (.ok (.ret .none)) s'):
  wpAny (model P w) A.in1 (Builtin.«set.__init__» ⟨[.ref S,.ref l],[]⟩)
   (fun fin s'=>match fin with | .done f=>R (.ok f) s' | .again c'=>c'.quiet=true/\codeAny (model P w) A c' R s') (fun e s'=>R (.error e) s') s:=by
 obtain⟨ol,hol,hcl,nl,hdl⟩:=id hl
 have hT:s.TypeIs (.ref S) "set":=⟨_,ho,rfl⟩
 have hTl:s.TypeIs (.ref l) "list":=⟨_,hol,hcl⟩
 have q1:=PySem.F.sub_list_set
 have q2:=PySem.F.sub_list_frozenset
 unfold Builtin.«set.__init__» noKeywords
 generalize hPI:Builtin.Frozenset.updateFrom=UF
 obtain⟨hp,g,d,tk,os⟩:=s
 unfold aQ at ho
 wp_walk
 subst hPI
 unfold Builtin.Frozenset.updateFrom Builtin.Frozenset.isAnySet
 refine wpAny_bind ?_
 show wpAny _ _ (isInstance (.ref l) (.type "set") >>= fun b=>_) _ _ _
 refine wpAny_bind (wpAny_isInstance hTl q1 ?_)
 show wpAny _ _ (isInstance (.ref l) (.type "frozenset")) _ _ _
 refine wpAny_isInstance hTl q2 ?_
 rw[if_neg AO]
 refine wpAny_bind (wpAny_typeOf hTl ?_)
 rw[if_neg (by decide)]
 refine wpAny_bind (wpAny_pyIter_list hl ?_)
 refine wpAny_bind (wpAny_runValue ?_)
 have hSh:S<hp.objs.size:=Heap.lt_size ho
 have hlh:l<hp.objs.size:=Heap.lt_size hol
 refine uA (show A.in1.handled=none from hh) (AV hlh) (AV hSh) hne hi hb (items.size-0) 0 _ rfl (A0 _) ⟨_,Heap.get?_push_size _ rfl,rfl,rfl⟩ ?_ ?_ fun s' kp os' gs' ds' sx=>?_
 ·exact⟨ol,Heap.get?_push_of_some _ hol,hcl,nl,hdl⟩
 ·rw [Cb]
  exact lY (Heap.get?_push_of_some _ ho)
 ·refine wpAny_pure (wpAny_pure (hR s' (fun b o hbS e=>kp b o hbS (AV (Heap.lt_size e)) (Heap.get?_push_of_some _ e)) os' gs' sx))
theorem oC {l:Addr} {items:Array Value} {ns:List Int} {Q:Value->Shared->Prop} (hh:A.handled=none) (hl:s.heap.IsList l items) (hi:IntsAre items.toList ns) (hb:ns.length+1<4000)
  (h:∀s',SX w s.heap.objs.size (dd ns) s'.heap->(∀b o,s.heap.get? b=some o->s'.heap.get? b=some o)->s'.os=s.os->s'.gens=s.gens->Q (.ref s.heap.objs.size) s'):wpAny (model P w) A (call (.type "set") [.ref l]) Q E s:=by
 obtain⟨c,tl,hmro⟩:=PySem.F.called_set.mro
 have hmade:=PySem.F.called_set.made
 have hsub:=PySem.F.called_set.sub
 have n1:=PySem.F.called_set.notType
 have n2:=PySem.F.called_set.canCreate
 have hct:=PySem.F.typeCall_set_1 (.ref l)
 refine wpAny_call (codeAny_of_tree ?_)
 show wpAny _ _ (callAny (.type "set") _) _ _ _
 refine wpAny_pure ⟨Code.quiet_builtin _ (by decide +kernel),codeAny_builtin PySem.F.entry_type_call ?_⟩
 rw[Around.under_plain (weight_type_call_type "set" [.ref l] []) rfl]
 repeat (any_goals (first | assumption | wp_step))
 refine codeAny_mono (we (E:=E) (Q:=fun v s1=>v= .ref s.heap.objs.size/\s1={s with heap:=s.heap.push (aQ w)}) (.ref l) ⟨rfl,rfl⟩) fun r s1 hr=>?_
 cases r with
 | error e=>exact hr
 | ok fl=>
  cases fl with
  | ret v=>
   obtain⟨e1,e2⟩:=hr
   subst e1 e2
   have hS:(s.heap.push (aQ w)).get? s.heap.objs.size=some (aQ w):=Heap.get?_push_size _ rfl
   have hT:Shared.TypeIs {s with heap:=s.heap.push (aQ w)} (.ref s.heap.objs.size) "set":=⟨_,hS,rfl⟩
   have hlu:=PySem.F.called_set.init.lookup
   have hbd:=PySem.F.called_set.init.bind (.ref s.heap.objs.size)
   repeat (any_goals (first | assumption | wp_step))
   refine codeAny_mono (codeAny_call_builtin (R:=wants (fun r s2=>r= .none/\Q (.ref s.heap.objs.size) s2) E) PySem.F.called_set.init.plain PySem.F.entry_set_init (check_set_init_1 hT ?_)) fun r2 s2 hr2=>?_
   ·obtain⟨ol,hol,hcl⟩:=id hl
    refine uB (A:=A.in1) (show A.in1.handled=none from hh) hS ⟨ol,Heap.get?_push_of_some _ hol,hcl⟩ (BD (Heap.lt_size hol)) hi hb fun s' kp os' gs' sx=>⟨rfl,h s' sx (fun b o e=>kp b o (AV (Heap.lt_size e)) (Heap.get?_push_of_some _ e)) os' gs'⟩
   ·cases r2 with
    | error e=>exact hr2
    | ok fl2=>
     cases fl2 with
     | ret v2=>
      obtain⟨e1,hq⟩:=hr2
      subst e1
      repeat (any_goals (first | assumption | wp_step))
     | _=>exact hr2.elim
  | _=>exact hr.elim
end
theorem SX.ok {P:Program} {w:World} {H:Hp} {h:Heap} {a:Addr} {ms:List Int} (x:SX w a ms h):ObjOk P w H h a (.ext (SX w a ms)):=
 ⟨x,by obtain⟨o,_,_,_,_,e,_⟩:=x;exact⟨o,e⟩,fun _ _ y k=>y.at k⟩
section
variable {X:Cx}
theorem Inv.new' {pins:List (Addr×Obj)} {σ:L2.St} {H:Hp} {s s':Shared} {a:Addr} {o:HO} (I:Inv X pins σ H s) (k:∀b u,s.heap.get? b=some u->s'.heap.get? b=some u) (hp:s.heap.objs.size<=a) (hos:s'.os=s.os) (hgs:s'.gens=s.gens)
  (new:ObjOk X.prog X.w (ay H a o) s'.heap a o):Inv X pins σ (ay H a o) s':=
 I.call' (ch:=[]) hos (Un.laid k hp (I.hok.fresh hp)) (I.hok.laid k hp new) (by rw[hgs];exact I.bare) fun b hb=>by cases hb
theorem iA {w:World} {a:Addr} {ms:List Int} {h:Heap} (x:SX w a ms h):∃es ep t ks,SetAt w a es ep t ks h/\ks.Perm ms:=by
 obtain⟨o,es,ep,t,ks,e,r,p⟩:=x
 exact⟨es,ep,t,ks,⟨o,e,r⟩,p⟩
theorem mQ (w:World) (K:PySem.W.Frag) (hc:X.calm=true:=by rfl) (hw:X.w=w:=by rfl) (hK:X.K=K:=by rfl):cu X (.type "set") (fun xs H Q=>∃p ns,xs=[.ref p]/\SqL K H p (ns.map V.int)/\ns.length<3000/\
  ∀a,H a=none->Q (.ref a) (ay H a (.ext (SX w a (dd ns))))):=by
 subst hw hK
 intro pins s σ H xs us Q I r h
 obtain⟨p,ns,e,hq,hl,q⟩:=h
 subst e
 obtain⟨u,e,rx⟩:=eA r
 subst e
 cases rx
 obtain⟨its,rv,pl,hz⟩:=I.list hq
 refine oC (ns:=ns) (I.ok.hd hc) pl.isList (by simpa using pM rv) (by omega) fun s' sx kp os' gs'=>?_
 exact⟨.ref s.heap.objs.size,_,I.new' kp (AI _) os' gs' sx.ok,rfl,q _ I.fresh⟩
theorem kg (w:World) (hc:X.calm=true:=by rfl) (hw:X.w=w:=by rfl):cu X (.builtin "sorted") (fun xs H Q=>∃p ms,xs=[.ref p]/\H p=some (.ext (SX w p ms))/\ms.length<64/\
  ∀l (ks:List Int),H l=none->ks.Perm ms->ks.Pairwise (· <= ·)->Q (.ref l) (ay H l (.lst (ks.map V.int)))):=by
 subst hw
 intro pins s σ H xs us Q I r h
 obtain⟨p,ms,e,hp,hl,q⟩:=h
 subst e
 obtain⟨u,e,rx⟩:=eA r
 subst e
 cases rx
 obtain⟨sx,_⟩:=(show ObjOk X.prog X.w H s.heap p (.ext (SX X.w p ms))from I.hok p _ hp)
 obtain⟨es,ep,t,ks,sa,pm⟩:=iA sx
 refine lj (I.ok.hd hc) sa (by rw[pm.length_eq];exact hl) fun L out ns e s' hI hpm hs he le kp os' gs'=>?_
 refine⟨.ref L,_,I.new' kp le os' gs' (show ObjOk X.prog X.w _ _ _ (.lst (ns.map V.int))from⟨?_,out.toList,e,lM hI,?_⟩),rfl,q _ ns (I.hok.fresh le) (hpm.trans pm) hs⟩
 ·rw [AC,hpm.length_eq,pm.length_eq];exact uq (by omega)
 ·simpa [seqObj]using he
theorem qW (w:World) (hw:X.w=w:=by rfl):cu X (.builtin "len") (fun xs H Q=>∃p ms,xs=[.ref p]/\H p=some (.ext (SX w p ms))/\Q (.int ms.length) H):=by
 subst hw
 intro pins s σ H xs us Q I r h
 obtain⟨p,ms,e,hp,q⟩:=h
 subst e
 obtain⟨u,e,rx⟩:=eA r
 subst e
 cases rx
 obtain⟨sx,_⟩:=(show ObjOk X.prog X.w H s.heap p (.ext (SX X.w p ms))from I.hok p _ hp)
 obtain⟨es,ep,t,ks,sa,pm⟩:=iA sx
 refine qe sa fun tk n=>⟨.int ms.length,H,I.tok n,⟨tk,?_⟩,q⟩
 rw[pm.length_eq]
end
end L2
namespace L2
end L2
namespace L2
open PySem PySem.Spec PyProof.Rows
def uC (lo st:Int) (n:Nat):It:=⟨fun i _=>i<n,fun i H x H'=>H'=H/\x= .int (lo+i*st),fun i _=>n<=i⟩
theorem r9 {P:Program} {w:World} {K:PySem.W.Frag} {tg:Expr} (it:Addr) (lo st:Int) (n:Nat):Turn P w K tg (uC lo st n) [it] it (fun i h=>IsRangeIter h it (lo+(i:Nat)*st) ((n:Int)-(i:Nat)) st) where
 mem:=by simp
 obj:=fun i h sta b hb=>by
  have e:b=it:=by simpa using hb
  subst e
  exact⟨_,sta,fun v z=>by
   have z':Data.fields _=Data.cell v:=z
   cases z'⟩
 keep:=fun i h h' sta k=>k it (by simp) _ sta
 item:=by
  intro X hP hw hK hc i pins s σ H E I hf sta hg
  subst hP hw hK
  obtain⟨f0,f1,f2,f3,f4,f5⟩:=hf it (by simp)
  refine(Walks.range (prog:=X.prog) (w:=X.w) (I.ok.hd hc) it lo st n).item i s _ _ hg sta fun v h' tk hv sta' kk=>?_
  obtain⟨t,rfl⟩:=hv
  have I1:Inv X pins σ H {s with heap:=h',toks:=tk}:=I.turned (fun b o hb e=>kk b o (by simpa using hb) e) f0 f1 f3 f4 f5
  exact⟨_,rfl,nV (s:={s with heap:=h',toks:=tk}) (n:="range_iterator") sta' rfl rfl (by decide) ⟨.int (lo+i*st),H,I1,⟨t,rfl⟩,⟨rfl,rfl⟩,sta',fun b hb=>(hf b hb).1⟩⟩
 done:=by
  intro X hP hw hK hc i pins s σ H E I hf sta hg
  subst hP hw hK
  obtain⟨f0,f1,f2,f3,f4,f5⟩:=hf it (by simp)
  exact wpAny_pyNext_range_end (I.ok.hd hc) sta (by have:n<=i:=hg;omega) fun h' eb=>⟨rfl,I.turned (t':=s.toks) (fun b o hb e=>eb b o hb e) f0 f1 f3 f4 f5⟩
 self:=fun _ _ _ _ _ sta h=>wpAny_pyIter_rangeiter sta h
section
variable {X:Cx} {tg:Expr}
theorem uD {lo st:Int} {n:Nat} {g:TG} {tb:TS} {D:Ends} {σ:L2.St} {H:Hp} (Pv:Nat->L2.St->Hp->Prop) (h0:Pv 0 σ H)
  (hs:∀i σ H,i<n->Pv i σ H->g (.int (lo+i*st)) σ H fun σ2 H2=>tb {D with nx:=Pv (i+1),ct:=Pv (i+1),bk:=D.nx} σ2 H2) (hd:∀σ H,Pv n σ H->D.nx σ H):
  ∃W:Nat->Nat->L2.St->Hp->Prop,(∃m,W 0 m σ H)/\∀i m σ H,W i m σ H->
   ((uC lo st n).stop i H/\D.nx σ H)\/((uC lo st n).go i H/\∃N:L2.St->Hp->Prop,(∀σ' H',N σ' H'->∃m',m'<m/\W (i+1) m' σ' H')/\∀x H',(uC lo st n).yld i H x H'->g x σ H' fun σ2 H2=>tb {D with nx:=N,ct:=N,bk:=D.nx} σ2 H2):=by
 refine⟨fun i m σ H=>m=n-i/\i<=n/\Pv i σ H,⟨n,by simp,A0 _,h0⟩,?_⟩
 rintro i m σ H ⟨rfl,hi,p⟩
 by_cases hlt:i<n
 ·refine .inr ⟨hlt,Pv (i+1),fun σ' H' p'=>⟨n-(i+1),Bu _ _ hlt,rfl,hlt,p'⟩,fun x H' y=>?_⟩
  obtain⟨e,y⟩:=y
  subst e y
  exact hs i σ _ hlt p
 ·have e:i=n:=BW hi (BK hlt)
  subst e
  exact .inl ⟨AI _,hd σ H p⟩
end
section
variable {X:Cx} {pos:Pos}
end
theorem aH {hs:List Int} {k:Nat} (h:k<hs.length):hs.getD k 0=hs[k]:=by simp[h]
theorem i4 {hs:List (List Int)} {k:Nat} (h:k<hs.length):hs.getD k []=hs[k]:=by simp[h]
def tX (M:Nat):Nat->Nat->Nat
 | 0,i=>i
 | j+1,i=>tX M j ((i*5+1)%M)
def xR (M:Nat):Nat->Nat->List Nat
 | 0,_=>[]
 | n+1,i=>i :: xR M n ((i*5+1)%M)
theorem jT (M:Nat):∀(a b i:Nat),tX M (a+b) i=tX M b (tX M a i)
 | 0,b,i=>by rw[CD];rfl
 | a+1,b,i=>by
  have e:a+1+b=(a+b)+1:=by omega
  rw[e]
  show tX M (a+b) ((i*5+1)%M)=tX M b (tX M a ((i*5+1)%M))
  exact jT M a b _
theorem wg (M:Nat) (n i t:Nat) (h:t∈xR M n i):∃b,b<n/\tX M b i=t:=by
 induction n generalizing i with
 | zero=>cases h
 | succ n ih=>
  rcases AR.mp h with e | e
  ·exact⟨0,Nat.succ_pos _,e.symm⟩
  ·obtain⟨b,hb,e⟩:=ih _ e
   exact⟨b+1,Nat.succ_lt_succ hb,e⟩
theorem qX (M:Nat):∀(n i:Nat),(xR M n i).length=n
 | 0,_=>rfl
 | n+1,i=>by rw[xR,BF,qX M n]
theorem uE {M:Nat} (hM:0<M):∀(n i:Nat),i<M->∀t∈xR M n i,t<M
 | 0,_,_,t,h=>by cases h
 | n+1,i,hi,t,h=>by
  rcases AR.mp h with e | e
  ·omega
  ·exact uE hM n _ (CC _ hM) t e
def xa (M:Nat):Prop:=∀i,i<M->∀t,t<M->∃j,j<M/\tX M j i=t
theorem xS {M:Nat} (hM:0<M) (nd:(xR M M 0).Nodup) (h0:tX M M 0=0):xa M:=by
 have all:∀t,t<M->∃b,b<M/\tX M b 0=t:=fun t ht=>by
  refine wg M M 0 t (Decidable.byContradiction fun hn=>?_)
  have:(t :: xR M M 0).length<=(AH M).length:=(B8.mpr ⟨hn,nd⟩).length_le_of_subset fun x hx=>by
   rw[Bb]
   rcases AR.mp hx with e | e
   ·omega
   ·exact uE hM M 0 hM x e
  rw[BF,qX,Bm]at this
  omega
 intro i hi t ht
 obtain⟨a,ha,ea⟩:=all i hi
 obtain⟨b,hb,eb⟩:=all t ht
 by_cases h:a<=b
 ·refine⟨b-a,by omega,?_⟩
  rw[<- ea,<- jT,<- eb]
  congr 1;omega
 ·refine⟨M+b-a,by omega,?_⟩
  rw[<- ea,<- jT]
  have e:a+(M+b-a)=M+b:=by omega
  rw[e,jT,h0,eb]
theorem i5 {M:Nat} (h:M∈[8,16,32,64,128,256]):xa M:=by
 simp only[AR,A4,or_false]at h
 rcases h with e | e | e | e | e | e<;>subst e
 all_goals exact xS (by decide) (by decide +kernel) (by decide +kernel)
theorem gT:∀n,n<256->SetTable.sizeAbove n∈[8,16,32,64,128,256]/\n<SetTable.sizeAbove n:=by decide +kernel
def lp (mask:Nat):Nat->Nat×Nat->Nat×Nat
 | 0,x=>x
 | n+1,x=>lp mask n (SetTable.leap mask x.1 x.2)
theorem uF (mask:Nat):∀(a b:Nat) (x:Nat×Nat),lp mask (a+b) x=lp mask b (lp mask a x)
 | 0,b,x=>by rw[CD];rfl
 | a+1,b,x=>by
  have e:a+1+b=(a+b)+1:=by omega
  rw[e]
  exact uF mask a b _
theorem xT (mask:Nat) (n:Nat) (x:Nat×Nat):(lp mask n x).2=x.2/32^n:=by
 induction n generalizing x with
 | zero=>simp[lp]
 | succ n ih=>
  rw[lp,ih]
  show x.2/32/32^n=x.2/32^(n+1)
  rw[Nat.div_div_eq_div_mul,Nat.pow_succ,Nat.mul_comm]
theorem xU (mask:Nat) (n i p:Nat) (h:p<32):(lp mask n (i,p)).1=tX (mask+1) n i:=by
 induction n generalizing i p with
 | zero=>rfl
 | succ n ih=>
  have e:p/32=0:=Nat.div_eq_of_lt h
  have e2:SetTable.leap mask i p=((i*5+1)%(mask+1),0):=by unfold SetTable.leap;rw[e]
  rw[lp]
  show(lp mask n (SetTable.leap mask i p)).1=_
  rw[e2,ih _ 0 (by decide)]
  rfl
theorem xb (mask:Nat):∀(n:Nat) (x:Nat×Nat),x.1<mask+1->(lp mask n x).1<mask+1
 | 0,x,h=>h
 | n+1,x,h=>by
  rw[lp]
  exact xb mask n _ (CC _ (by omega))
theorem uG (mask:Nat) (ow:Array (Option Nat)):∀(f n i p:Nat),n<f->(ow.getD (lp mask n (i,p)).1 (some 0)).isNone=true->∃j,SetTable.layClean.free mask ow f i p=some j:=by
 intro f
 induction f with
 | zero=>intro n i p h;cases h
 | succ f ih=>
  intro n i p h hn
  unfold SetTable.layClean.free
  cases hf:(AH (SetTable.runEnd mask i+1-i)).find? (fun k=>(ow.getD (i+k) (some 0)).isNone)with
  | some k=>exact⟨i+k,rfl⟩
  | none=>
   dsimp only
   cases n with
   | zero=>
    exfalso
    rw[List.find?_eq_none]at hf
    have m:0∈AH (SetTable.runEnd mask i+1-i):=by
     rw[Bb]
     unfold SetTable.runEnd
     split<;>omega
    exact hf 0 m hn
   | succ n=>exact ih n _ _ (Nat.lt_of_succ_lt_succ h) hn
theorem sd (mask:Nat) (ow:Array (Option Nat)) (f i p j:Nat) (h:SetTable.layClean.free mask ow f i p=some j):(ow.getD j (some 0)).isNone=true:=by
 induction f generalizing i p with
 | zero=>unfold SetTable.layClean.free at h;cases h
 | succ f ih=>
  unfold SetTable.layClean.free at h
  cases hf:(AH (SetTable.runEnd mask i+1-i)).find? (fun k=>(ow.getD (i+k) (some 0)).isNone)with
  | some k=>
   rw[hf]at h
   have e:=Option.some.inj h
   rw[<- e]
   exact List.find?_some (p:=fun k=>(ow.getD (i+k) (some 0)).isNone) hf
  | none=>
   rw[hf]at h
   exact ih _ _ h
theorem wj (h:Int):SetTable.bits h<2^64:=by
 unfold SetTable.bits
 have h1:=B2 h (show(2^64:Int)≠0 by decide)
 have h2:=B0 h (show(0:Int)<2^64 by decide)
 omega
theorem se {mask:Nat} (c:xa (mask+1)) (ow:Array (Option Nat)) (h:Int) {t:Nat} (ht:t<mask+1) (hn:(ow.getD t (some 0)).isNone=true):
  ∃j,SetTable.layClean.free mask ow (SetTable.turns mask) (SetTable.bits h%(mask+1)) (SetTable.bits h)=some j:=by
 have hi:(lp mask 12 (SetTable.bits h%(mask+1),SetTable.bits h)).1<mask+1:=xb mask 12 _ (CC _ (by omega))
 have hp:(lp mask 12 (SetTable.bits h%(mask+1),SetTable.bits h)).2<32:=by
  rw[xT]
  have:=wj h
  show SetTable.bits h/32^12<32
  omega
 obtain⟨j,hj,ej⟩:=c _ hi t ht
 refine uG mask ow _ (12+j) _ _ (by unfold SetTable.turns;omega) ?_
 rw[uF]
 generalize lp mask 12 (SetTable.bits h%(mask+1),SetTable.bits h)=x at hi hp ej
 obtain⟨a,b⟩:=x
 rw[xU mask j a b hp]
 dsimp only at ej
 rw[ej]
 exact hn
structure Ownd (mask:Nat) (ow:Array (Option Nat)) (k:Nat):Prop where
 sz:ow.size=mask+1
 pm:(ow.toList.filterMap id).Perm (AH k)
theorem Ownd.gap {mask:Nat} {ow:Array (Option Nat)} {k:Nat} (o:Ownd mask ow k) (h:k<mask+1):∃t,t<mask+1/\(ow.getD t (some 0)).isNone=true:=by
 refine Decidable.byContradiction fun hn=>?_
 have all:∀a∈ow.toList,(id a).isSome=true:=fun a ha=>by
  obtain⟨t,ht,e⟩:=AU.mp ha
  rw[AQ]at ht
  cases a with
  | some x=>rfl
  | none=>
   refine absurd ⟨t,by rw[<- o.sz];exact ht,?_⟩ hn
   have:ow.getD t (some 0)=none:=by
    rw[B4]at e
    simp[CH,ht,e]
   rw[this];rfl
 have:=List.filterMap_length_eq_length.mpr all
 rw[o.pm.length_eq,Bm,AQ,o.sz]at this
 omega
theorem Ownd.set {mask:Nat} {ow:Array (Option Nat)} {k j:Nat} (o:Ownd mask ow k) (h:(ow.getD j (some 0)).isNone=true):Ownd mask (ow.setIfInBounds j (some k)) (k+1) where
 sz:=by rw[Array.size_setIfInBounds];exact o.sz
 pm:=by
  have hj:j<ow.size:=by
   refine Decidable.byContradiction fun hn=>?_
   have:ow.getD j (some 0)=some 0:=by simp[CH,hn]
   rw[this]at h;cases h
  have e:ow.toList[j]'(by rw[AQ];exact hj)=none:=by
   have:ow.getD j (some 0)=ow[j]:=by simp[CH,hj]
   rw[this]at h
   rw[B4]
   exact Option.isNone_iff_eq_none.mp h
  have hjl:j<ow.toList.length:=by rw[AQ];exact hj
  rw[Array.toList_setIfInBounds,List.set_eq_take_append_cons_drop,if_pos hjl,List.filterMap_append,BP]
  dsimp only[id]
  have e1:ow.toList=ow.toList.take j++none :: ow.toList.drop (j+1):=by
   conv=>lhs;rw[<- Cn j ow.toList,List.drop_eq_getElem_cons hjl,e]
  have p:=o.pm
  rw[e1,List.filterMap_append,BP]at p
  dsimp only[id]at p
  rw[Bw]
  exact(List.perm_middle.trans (p.cons k)).trans (List.perm_append_singleton k _).symm
theorem uH {mask:Nat} (c:xa (mask+1)):∀(hs:List Int) (ow:Array (Option Nat)) (k:Nat),Ownd mask ow k->k+hs.length<=mask+1->
  ∃ow',hs.foldl (fun(acc:Option (Array (Option Nat)×Nat)) h=>do
   let(owner,k) <- acc
   let j <- SetTable.layClean.free mask owner (SetTable.turns mask) (SetTable.bits h%(mask+1)) (SetTable.bits h)
   pure (owner.setIfInBounds j (some k),k+1)) (some (ow,k))=some (ow',k+hs.length)/\Ownd mask ow' (k+hs.length):=by
 intro hs
 induction hs with
 | nil=>intro ow k o _;exact⟨ow,rfl,o⟩
 | cons h r ih=>
  intro ow k o hl
  rw[BF]at hl
  obtain⟨t,ht,hn⟩:=o.gap (by omega)
  obtain⟨j,ej⟩:=se c ow h ht hn
  have o':=o.set (sd _ _ _ _ _ _ ej)
  obtain⟨ow',e,o2⟩:=ih _ (k+1) o' (by omega)
  have ek:k+(h :: r).length=k+1+r.length:=by rw[BF];omega
  rw[ek]
  refine⟨ow',?_,o2⟩
  rw[Cs]
  refine Eq.trans (congrArg (fun z=>CG _ z r) ?_) e
  show(SetTable.layClean.free mask ow (SetTable.turns mask) (SetTable.bits h%(mask+1)) (SetTable.bits h)).bind (fun j=>some (ow.setIfInBounds j (some k),k+1))=_
  rw[ej];rfl
structure Laid (t:SetTable) (o:Array Nat) (mask n:Nat) (led plain:Bool):Prop where
 pm:o.toList.Perm (AH n)
 ft:t.fits n=true
 ms:t.mask=mask
 dm:t.dummies=#[]
 ld:t.led=led
 pl:t.plain=plain
 rs:j9 t.place.toList
theorem lZ {mask finger moves:Nat} {led plain:Bool} {hs:Array Int} (c:xa (mask+1)) (hl:hs.size<=mask):∃t o,SetTable.laid mask finger moves led plain hs=some (t,o)/\Laid t o mask hs.size led plain:=by
 have o0:Ownd mask (Array.replicate (mask+1) none) 0:=⟨Array.size_replicate,by simp⟩
 obtain⟨ow,e,o⟩:=uH c hs.toList _ 0 o0 (by rw[AQ];omega)
 rw[CD,AQ]at e o
 have el:SetTable.layClean mask hs=some ow:=by
  unfold SetTable.layClean
  rw[<- Array.foldl_toList,e];rfl
 have eq:SetTable.laid mask finger moves led plain hs=some ({mask,place:=(((AH (mask+1)).filterMap fun j=>(ow.getD j none).map (j,·)).map (·.1)).toArray,dummies:=#[],finger,led,moves,plain},(((AH (mask+1)).filterMap fun j=>(ow.getD j none).map (j,·)).map (·.2)).toArray):=by
  unfold SetTable.laid
  rw[el];rfl
 have es:((AH (mask+1)).filterMap fun j=>(ow.getD j none).map (j,·)).map (·.2)=ow.toList.filterMap id:=by
  have eo:ow.toList=(AH (mask+1)).map fun j=>ow.getD j none:=by
   apply By
   ·simp [o.sz]
   ·intro i h1 h2
    rw[AQ]at h1
    simp[CH,h1]
  conv=>rhs;rw[eo]
  rw[List.filterMap_map,List.map_filterMap]
  congr 1
  funext j
  show Option.map (fun x=>x.snd) (Option.map (fun x=>(j,x)) (ow.getD j none))=ow.getD j none
  cases ow.getD j none<;>rfl
 have pm:(((AH (mask+1)).filterMap fun j=>(ow.getD j none).map (j,·)).map (·.2)).Perm (AH hs.size):=by rw[es];exact o.pm
 have ln:=pm.length_eq
 rw[AC,Bm]at ln
 obtain⟨r1,r2⟩:=lU eq
 refine⟨_,_,eq,⟨pm,?_,rfl,rfl,rfl,rfl,r2⟩⟩
 unfold SetTable.fits SetTable.fill
 simp only[AM,AC,ln,Array.size_empty,Nat.add_zero]
 simp[hl]
theorem wk {α β:Type} {f:α->Option β} {g:α->β} (l:List α) (h:∀a∈l,f a=some (g a)):l.filterMap f=l.map g:=by
 induction l with
 | nil=>rfl
 | cons a r ih=>rw[BP,h a A7,BN,ih fun b hb=>h b (AY _ hb)]
theorem uI (es:Array (Int×Value)):(AH es.size).filterMap (fun i=>es[i]?)=es.toList:=by
 rw[wk (g:=fun i=>es.getD i (0,.none)) _ fun i hi=>by have:=Bb.mp hi;simp[this]]
 apply By
 ·simp
 ·intro i h1 h2
  rw[AQ]at h2
  simp[h2]
theorem gU {es:Array (Int×Value)} {o:Array Nat} (pm:o.toList.Perm (AH es.size)):(o.filterMap (es[·]?)).toList.Perm es.toList:=by
 rw[Array.toList_filterMap]
 have:=pm.filterMap (fun i=>es[i]?)
 rw[uI]at this
 exact this
section
variable {P:Program} {w:World} {A:Around} {E:Value->Shared->Prop} {s:Shared} {S:Addr} {ks ms:List Int} {es:Array (Int×Value)} {ep:Nat} {t:SetTable}
theorem oD {g:Array (Int×Value)->Option (SetTable×Array Nat)->Sem (Array (Int×Value)×SetTable)} {es:Array (Int×Value)} {t:SetTable} {o:Array Nat} {Q:Array (Int×Value)×SetTable->Shared->Prop}
  (hg:g es (some (t,o))=(do
   if((o.filterMap (es[·]?)).size != es.size)=true then unsupported "internal:set-table-lost-an-element"
   pure (o.filterMap (es[·]?),t))) (pm:o.toList.Perm (AH es.size)) (h:Q (o.filterMap (es[·]?),t) s):wpAny (model P w) A (g es (some (t,o))) Q E s:=by
 have pp:=(gU pm).length_eq
 rw[AQ,AQ]at pp
 rw[hg,if_neg (by rw[pp];simp)]
 exact wpAny_pure h
theorem uJ {n:Nat} (h:n<5000):n<=sizeLine:=BC (mK (by omega))
theorem SetAt.store {es':Array (Int×Value)} {t':SetTable} {ks':List Int} {Q:Unit->Shared->Prop} (hS:SetAt w S es ep t ks s.heap) (en:Ents es'.toList ks') (nd:ks'.Nodup) (sz:ks'.length<4000) (ft:t'.fits es'.size=true) (tb:TabK (!bU w) t')
  (h:∀h',Heap.SameBut S s.heap h'->SetAt w S es' (ep+1) t' ks' h'->Q () {s with heap:=h'}):wpAny (model P w) A (storeSet S es' t') Q E s:=by
 obtain⟨o,ho,hs⟩:=hS
 have z:es'.size=ks'.length:=by rw[<- en.len,AQ]
 refine wpAny_storeSet_of ho hs.da (h _ (Heap.SameBut.update ..) ?_) (by rw[z];exact uJ (by omega))
 obtain⟨o',ho',hs'⟩:=pW (s:=s) ho hs en nd sz ft tb
 exact⟨o',ho',hs'⟩
theorem SetAt.state {Q:Array (Int×Value)×Nat×SetTable->Shared->Prop} (hS:SetAt w S es ep t ks s.heap) (h:Q (es,ep,t) s):wpAny (model P w) A (setState S) Q E s:=by
 obtain⟨o,ho,hs⟩:=hS
 exact wpAny_setState_of ho hs.da hs.ft h
theorem SetAt.epoch {Q:Nat->Shared->Prop} (hS:SetAt w S es ep t ks s.heap) (h:Q ep s):wpAny (model P w) A (setEpoch S) Q E s:=by
 unfold setEpoch
 exact wpAny_bind (hS.state (wpAny_pure h))
theorem SetAt.entries {Q:Array (Int×Value)->Shared->Prop} (hS:SetAt w S es ep t ks s.heap) (h:Q es s):wpAny (model P w) A (setEntries S) Q E s:=by
 unfold setEntries
 exact wpAny_bind (hS.state (wpAny_pure h))
theorem SetAt.en (hS:SetAt w S es ep t ks s.heap):Ents es.toList ks:=let⟨_,_,hs⟩:=hS;hs.en
theorem SetAt.nd (hS:SetAt w S es ep t ks s.heap):ks.Nodup:=let⟨_,_,hs⟩:=hS;hs.nd
theorem SetAt.ft (hS:SetAt w S es ep t ks s.heap):t.fits es.size=true:=let⟨_,_,hs⟩:=hS;hs.ft
theorem SetAt.tb (hS:SetAt w S es ep t ks s.heap):TabK (!bU w) t:=let⟨_,_,hs⟩:=hS;hs.tb
theorem SetAt.sz (hS:SetAt w S es ep t ks s.heap):es.size=ks.length:=let⟨_,_,hs⟩:=hS;hs.size
theorem SetAt.lt4 (hS:SetAt w S es ep t ks s.heap):ks.length<4000:=let⟨_,_,hs⟩:=hS;hs.sz
theorem SetAt.sx (hS:SetAt w S es ep t ks s.heap) (p:ks.Perm ms):SX w S ms s.heap:=let⟨o,e,r⟩:=hS;⟨o,es,ep,t,ks,e,r,p⟩
theorem SetAt.relay {wanted:Nat} {Q:Unit->Shared->Prop} (hS:SetAt w S es ep t ks s.heap) (hw:wanted<256) (hz:es.size<SetTable.sizeAbove wanted)
  (h:∀h' es' t' ks',Heap.SameBut S s.heap h'->SetAt w S es' (ep+1) t' ks' h'->ks'.Perm ks->t'.mask+1=SetTable.sizeAbove wanted->t'.dummies=#[]->Q () {s with heap:=h'}):wpAny (model P w) A (setRelay S wanted) Q E s:=by
 obtain⟨m1,m2⟩:=gT wanted hw
 have c:=i5 m1
 have big:SetTable.sizeAbove wanted<=256/\8<=SetTable.sizeAbove wanted:=by
  exact(show ∀x∈[8,16,32,64,128,256],x<=256/\8<=x by decide) _ m1
 unfold setRelay
 refine wpAny_bind (hS.state ?_)
 dsimp only
 rw[if_neg (by have:=uJ (n:=SetTable.sizeAbove wanted) (by omega);omega)]
 have eM:SetTable.sizeAbove wanted-1+1=SetTable.sizeAbove wanted:=by omega
 have c':xa (SetTable.sizeAbove wanted-1+1):=by rw[eM];exact c
 have hsz:(es.map (·.1)).size=es.size:=Array.size_map ..
 obtain⟨t',o,e,L⟩:=lZ (mask:=SetTable.sizeAbove wanted-1) (finger:=t.finger) (moves:=t.movedTo (SetTable.sizeAbove wanted-1)) (led:=t.led) (plain:=t.plain) (hs:=es.map (·.1)) c' (by rw[hsz];omega)
 have e2:t.relaid (es.map (·.1)) wanted=some (t',o):=e
 rw[e2]
 have pm:=L.pm
 rw[hsz]at pm
 refine wpAny_bind (oD (by rfl) pm ?_)
 dsimp only
 have pp:=gU pm
 obtain⟨ks',n',q'⟩:=Ents.perm pp hS.en
 have z:(o.filterMap (es[·]?)).size=es.size:=by have:=pp.length_eq;rw[AQ,AQ]at this;exact this
 refine hS.store n' (q'.nodup_iff.mpr hS.nd) (by rw[q'.length_eq];exact hS.lt4) (by rw[z,<- hsz];exact L.ft) ⟨by rw[L.ld];exact hS.tb.led,fun _=>L.rs⟩ fun h' sb st=>?_
 exact h h' _ t' ks' sb st q' (by rw[L.ms];omega) L.dm
theorem SetAt.find {x:Int} {tk:Tok} {Q:Option Nat->Shared->Prop} (hS:SetAt w S es ep t ks s.heap) (h1:∀i,ks[i]?=some x->Q (some i) s) (h2:x∉ks->Q none s):wpAny (model P w) A (setFind S (.int x tk) (hashInt x)) Q E s:=by
 obtain⟨o,ho,hs⟩:=hS
 have hel:=hs.en.elems (P:=P) (w:=w)
 have hky:(intKind P w).is x (.int x tk)=true:=intKind_is P w x tk
 unfold setFind setFindIn
 refine wpAny_bind (wpAny_setState_of ho hs.da hs.ft ?_)
 dsimp only
 rw[byScan_of (knd:=intKind P w) rfl hs.bound hel,if_pos rfl]
 refine wpAny_bind (wpAny_rule ?_)
 refine wpAny_bind (wpAny_setScan_of (knd:=intKind P w) (k:=x) hky ho hs.da hs.ft hel ?_)
 have fd:=hs.en.find (P:=P) (w:=w) (k:=x)
 cases hr:List.findIdx? (fun e=>(intKind P w).is x e.2) es.toList with
 | some j=>
  refine wpAny_pure ?_
  rw[CD]
  refine h1 j ?_
  obtain⟨hj,p1,_⟩:=Cj.mp hr
  have hjk:j<ks.length:=by rw[<- hs.en.len];exact hj
  have gk:=AD hjk
  obtain⟨e',g,tk',q⟩:=dw hs.en gk
  rw[AD hj]at g
  have g:=Option.some.inj g
  rw[g,q]at p1
  have:x=ks[j]:=by
   have z:(intKind P w).is x (hashInt ks[j],Value.int ks[j] tk').2=decide (x=ks[j]):=lV x ks[j] tk'
   rw[z]at p1
   exact of_decide_eq_true p1
  rw[gk,this]
 | none=>
  rw[hr]at fd
  exact wpAny_pure (h2 (of_decide_eq_false fd.symm))
end
section
variable {P:Program} {w:World} {A:Around} {E:Value->Shared->Prop} {s:Shared} {S:Addr} {ks ms:List Int} {es:Array (Int×Value)} {ep:Nat} {t:SetTable}
theorem uK {Q:Bool->Shared->Prop} (sets:List Addr) (ho:∀a∈sets,∃ms,SX w a ms s.heap) (h:Q true s):wpAny (model P w) A (setsQuiet sets) Q E s:=by
 unfold setsQuiet
 refine wpAny_bind (wpAny_forIn_list _ (fun dG b s'=>(∀a∈dG,a∈sets)/\b.1=none/\s'=s) _ ?_ ?_ sets _ ⟨fun _ h=>h,rfl,rfl⟩)
 ·rintro a dG b s' ⟨hm,hb,rfl⟩
  obtain⟨ms,sx⟩:=ho a (hm a A7)
  obtain⟨es,ep,t,ks,sa,pm⟩:=iA sx
  refine wpAny_bind (sa.entries ?_)
  refine wpAny_bind (PySem.MeetsSeq2.wpAny_forIn_array _ (fun dG b s''=>(∀a∈dG,a∈es.toList)/\b.1=none/\s''=s') _ ?_ ?_ es _ ⟨fun _ h=>h,rfl,rfl⟩)
  ·rintro x dG b s' ⟨hm,hb,rfl⟩
   obtain⟨k,tk,_,e⟩:=Ents.mem (es:=es.toList) sa.en (hm x A7)
   subst e
   refine wpAny_pure ⟨fun a h=>hm a (AY _ h),rfl,rfl⟩
  ·rintro⟨b1,b2⟩ s'' ⟨_,hb',rfl⟩
   dsimp only at hb'
   subst hb'
   exact wpAny_pure ⟨fun a h=>hm a (AY _ h),rfl,rfl⟩
 ·rintro⟨b1,b2⟩ s' ⟨_,hb,rfl⟩
  dsimp only at hb
  subst hb
  exact wpAny_pure h
theorem mR {Q:Bool->Shared->Prop} (h:Q (bU w) s):wpAny (model P w) A setsByText Q E s:=by
 unfold setsByText
 exact wpAny_bind (wpAny_askSetting (wpAny_pure h))
theorem SetAt.walk {others:List Addr} {f:Option Addr} {Q:Array (Int×Value)->Shared->Prop} (hS:SetAt w S es ep t ks s.heap) (ho:∀a∈others,∃ms,SX w a ms s.heap) (hf:∀a,f=some a->a≠S/\SX w a ms s.heap)
  (h:∀xs h',xs.toList.Perm es.toList->(∀b o,f≠some b->s.heap.get? b=some o->h'.get? b=some o)->(∀a,f=some a->SX w a ms h')->Q xs {s with heap:=h'}):wpAny (model P w) A (setWalkUnseen S others f) Q E s:=by
 have hS':=hS
 obtain⟨o,hoo,hs⟩:=hS
 unfold setWalkUnseen
 refine wpAny_bind (hS'.state ?_)
 dsimp only
 refine wpAny_bind (mR ?_)
 have done:∀xs:Array (Int×Value),xs.toList.Perm es.toList->Q xs s:=fun xs p=>h xs s.heap p (fun _ _ _ e=>e) fun a e=>(hf a e).2
 by_cases hc:(bU w||t.led&&t.plain||decide (es.size<=1))=true
 ·rw [if_pos hc]
  by_cases bt:bU w=true
  ·exact iz bt hoo hs (done _ (iX _ _))
  ·unfold setWalk
   have bt0:bU w=false:=by simpa using bt
   have ld:t.led=true:=by rw[hs.tb.led,bt0];rfl
   refine wpAny_bind (hS'.state ?_)
   dsimp only
   refine wpAny_bind (mR ?_)
   rw[bt0,if_neg AO]
   rw[bt0,ld]at hc
   show wpAny _ _ (if(!t.plain&&decide (es.size>1))=true then _ else _) _ _ _
   rw[if_neg (by cases hp:t.plain with | true=>simp | false=>(rw [hp]at hc;simp at hc ⊢;omega))]
   refine wpAny_bind ?_
   show wpAny _ _ (if(!t.led&&decide (es.size>1))=true then unsupported "set:maker-not-led" else pure ()) _ _ _
   rw[if_neg (by rw[ld];simp)]
   exact wpAny_pure (wpAny_pure (done _ (.refl _)))
 ·rw [if_neg hc]
  refine wpAny_bind (uK _ (fun a ha=>?_) ?_)
  ·rcases AR.mp ha with e | e
   ·subst e;exact⟨ks,hS'.sx (.refl _)⟩
   ·exact ho a e
  rw[if_neg (by simp)]
  refine wpAny_bind (wpAny_rule ?_)
  cases f with
  | none=>exact wpAny_pure (done _ (.refl _))
  | some a=>
   obtain⟨hne,sx⟩:=hf a rfl
   obtain⟨ef,epf,tf,kf,sf,pf⟩:=iA sx
   refine wpAny_bind (sf.state ?_)
   dsimp only
   by_cases hm:(tf.led&& !t.led||tf.plain&& !t.plain)=true
   ·rw [if_pos hm]
    refine wpAny_bind (sf.store (t':={tf with led:=tf.led&&t.led,plain:=tf.plain&&t.plain}) sf.en sf.nd sf.lt4 sf.ft ⟨by show(tf.led&&t.led)=_;rw[sf.tb.led,hs.tb.led];simp,fun z=>sf.tb.rise (by have z:(tf.plain&&t.plain)=true:=z;simp at z;exact z.1)⟩ fun h' sb st=>?_)
    exact wpAny_pure (h es h' (.refl _) (fun b o n e=>(sb.2 b fun z=>n (by rw[z])).trans e) fun a' e=>by cases e;exact st.sx (s:={s with heap:=h'}) pf)
   ·rw [if_neg hm]
    exact wpAny_pure (done _ (.refl _))
end
section
variable {P:Program} {w:World} {A:Around} {E:Value->Shared->Prop} {s:Shared} {S T:Addr} {ks ms ns:List Int} {es:Array (Int×Value)} {ep:Nat} {t:SetTable}
theorem SX.ty (h:SX w S ms s.heap):s.TypeIs (.ref S) "set":=let⟨o,_,_,_,_,e,r,_⟩:=h;⟨o,e,r.ex.1⟩
theorem dN {Q:Bool->Shared->Prop} (hT:s.TypeIs (.ref S) "set") (h:Q true s):wpAny (model P w) A (Builtin.Frozenset.isAnySet (.ref S)) Q E s:=by
 unfold Builtin.Frozenset.isAnySet
 show wpAny _ _ (isInstance (.ref S) (.type "set") >>= fun b=>_) _ _ _
 refine wpAny_bind (wpAny_isInstance hT sub_set_self ?_)
 exact wpAny_pure h
theorem l4 {Q:Value->Shared->Prop} (hT:s.TypeIs (.ref S) "set") (h:Q (.type "set") s):wpAny (model P w) A (Builtin.Frozenset.baseOf S) Q E s:=by
 unfold Builtin.Frozenset.baseOf
 refine wpAny_bind (wpAny_isInstance hT sub_set_self ?_)
 exact wpAny_pure h
theorem l5 {Q:Value->Shared->Prop} (h:Q (.ref s.heap.objs.size) {s with heap:=s.heap.push (aQ w)}):wpAny (model P w) A (newSet (.type "set")) Q E s:=by
 unfold newSet
 refine wpAny_bind (mR ?_)
 dsimp only
 simp only[newObj]
 exact wpAny_bind (wpAny_alloc (wpAny_pure h))
theorem l7 {Q:Nat->Shared->Prop} (hS:SetAt w S es ep t ks s.heap) (h:Q es.size s):wpAny (model P w) A (Builtin.Frozenset.sizeOf S) Q E s:=by
 unfold Builtin.Frozenset.sizeOf
 exact wpAny_bind (hS.entries (wpAny_pure h))
theorem mS {id:String} {Q:Unit->Shared->Prop} (hS:SetAt w S es ep t ks s.heap) (h:Q () s):wpAny (model P w) A (Builtin.Frozenset.unchanged id S ep) Q E s:=by
 unfold Builtin.Frozenset.unchanged
 refine wpAny_bind (hS.epoch ?_)
 rw[if_neg (by simp)]
 exact wpAny_pure h
theorem sj {r:Addr} {xs:Array (Int×Value)} {kx k0:List Int} {f:(Int×Value)->PUnit->Sem (ForInStep PUnit)} {G:Heap->Prop} {Q:PUnit->Shared->Prop} (keep:Int->Bool) (en:Ents xs.toList kx) (nd:kx.Nodup) (dj:∀k∈kx,k∉k0) (hl:kx.length+k0.length+1<4000)
  (hG:∀h h',G h->Heap.SameBut r h h'->G h')
  (hf:∀k tk (s':Shared) (Q':ForInStep PUnit->Shared->Prop) kr,k∈kx->G s'.heap->SX w r kr s'.heap->kr.length+1<4000->(keep k=true->∀h',Heap.SameBut r s'.heap h'->SX w r (cL kr k) h'->Q' (.yield ⟨⟩) {s' with heap:=h'})->(keep k=false->Q' (.yield ⟨⟩) s')->wpAny (model P w) A (f (hashInt k,.int k tk) ⟨⟩) Q' E s')
  (g:G s.heap) (sx:SX w r k0 s.heap)
  (h:∀h',Heap.SameBut r s.heap h'->SX w r (k0++kx.filter keep) h'->Q ⟨⟩ {s with heap:=h'}):wpAny (model P w) A (forIn xs ⟨⟩ f) Q E s:=by
 refine PySem.MeetsSeq2.wpAny_forIn_array f (fun dG _ s'=>∃kr h',Ents dG kr/\kr <:+ kx/\s'={s with heap:=h'}/\Heap.SameBut r s.heap h'/\SX w r (k0++(kx.take (kx.length-kr.length)).filter keep) h'/\G h') _ ?_ ?_ xs ⟨⟩ ⟨kx,s.heap,en,List.suffix_refl _,rfl,Heap.SameBut.refl _ _,by rw[B3,Cb];simpa using sx,g⟩
 ·rintro x dG b s' ⟨kr,h1,er,sf,rfl,sb,sx1,g1⟩
  cases er with
  | @cons _ k _ kr' q er'=>
   obtain⟨tk,rfl⟩:=q
   obtain⟨pre,ep⟩:=sf
   have hk:k∈kx:=by rw[<- ep];simp
   have e1:kx.length-(k :: kr').length=pre.length:=by rw[<- ep];simp
   have e2:kx.length-kr'.length=pre.length+1:=by rw[<- ep];simp;omega
   have t1:kx.take pre.length=pre:=by rw[<- ep];simp
   have t2:kx.take (pre.length+1)=pre++[k]:=by
    have:kx=(pre++[k])++kr':=by rw[<- ep];simp
    rw[this]
    have:pre.length+1=(pre++[k]).length:=by simp
    rw[this,List.take_left]
   rw[e1,t1]at sx1
   have kn:k∉pre:=by
    rw[<- ep,Cz]at nd
    exact fun m=>nd.2.2 k m k (by simp) rfl
   have fl:(pre.filter keep).length<=kx.length:=A9 (Bh ..) (by rw[<- ep];simp)
   have sfx:kr' <:+ kx:=⟨pre++[k],by rw[<- ep];simp⟩
   refine hf k tk _ _ _ hk g1 sx1 (by rw[AK];omega) (fun hp h2 sb2 sx2=>?_) fun hp=>?_
   ·refine⟨kr',h2,er',sfx,rfl,sb.trans sb2,?_,hG _ _ g1 sb2⟩
    have ed:cL (k0++pre.filter keep) k=k0++(pre++[k]).filter keep:=by
     have:k∉k0++pre.filter keep:=fun m=>by
      rcases AZ.mp m with m | m
      ·exact dj k hk m
      ·exact kn (Bj.mp m).1
     unfold cL
     rw[if_neg this,Bn,Cy]
     simp[hp]
    rw[e2,t2,<- ed]
    exact sx2
   ·refine⟨kr',h1,er',sfx,rfl,sb,?_,g1⟩
    rw[e2,t2,Bn]
    simpa [hp]using sx1
 ·rintro b s' ⟨kr,h1,er,sf,rfl,sb,sx1,g1⟩
  cases er
  refine h h1 sb ?_
  rw[List.length_nil,Nat.sub_zero,Bg]at sx1
  exact sx1
end
section
variable {P:Program} {w:World} {A:Around} {E:Value->Shared->Prop} {s:Shared} {S T:Addr} {ks ms ns:List Int} {es:Array (Int×Value)} {ep:Nat} {t:SetTable}
theorem gJ {a r:Addr} {h h':Heap} (n:a≠r) (sb:Heap.SameBut r h h'):∀o,h.get? a=some o->h'.get? a=some o:=fun o e=>(sb.2 a n).trans e
theorem uL {id:String} {W0 K0 r:Addr} {ew:Array (Int×Value)} {epw:Nat} {tw:SetTable} {kw:List Int} {ka:List Int} {xs:Array (Int×Value)} {kx:List Int} {Q:PUnit->Shared->Prop}
  (hW:SetAt w W0 ew epw tw kw s.heap) (hK:SX w K0 ka s.heap) (n1:W0≠r) (n2:K0≠r) (en:Ents xs.toList kx) (nd:kx.Nodup) (hl:kx.length+1<4000) (sx:SX w r [] s.heap) (c:Bool->Bool)
  {f:(Int×Value)->PUnit->Sem (ForInStep PUnit)}
  (hf:∀x,f x ⟨⟩=(do
   holding [x.2] do
    let q <- setFind K0 x.2 x.1
    if c q.isSome=true then
     let _ <- setAddHashed r x.2 x.1
   Builtin.Frozenset.unchanged id W0 epw
   pure (.yield ⟨⟩)))
  (h:∀h',Heap.SameBut r s.heap h'->SX w r (kx.filter fun k=>c (decide (k∈ka))) h'->Q ⟨⟩ {s with heap:=h'}):wpAny (model P w) A (forIn xs ⟨⟩ f) Q E s:=by
 refine sj (k0:=[]) (G:=fun h=>SetAt w W0 ew epw tw kw h/\SX w K0 ka h) (fun k=>c (decide (k∈ka))) en nd (fun _ _ h=>by cases h) (by simpa using hl) (fun h h' g sb=>⟨g.1.at (gJ n1 sb),g.2.at (gJ n2 sb)⟩) ?_ ⟨hW,hK⟩ sx (fun h' sb sx'=>h h' sb (by simpa using sx'))
 intro k tk s' Q' kr hk ⟨gW,gK⟩ sxr hlen q1 q2
 rw[hf]
 dsimp only
 obtain⟨ek,epk,tk',kk,sk,pk⟩:=iA gK
 have fin:∀d:Bool,(decide (k∈ka)=d)->wpAny (model P w) A (if c d=true then(do let _ <- setAddHashed r (.int k tk) (hashInt k);pure PUnit.unit)else pure PUnit.unit) (fun _ s2=>wpAny (model P w) A (do Builtin.Frozenset.unchanged id W0 epw;pure (ForInStep.yield PUnit.unit)) Q' E s2) E s':=fun d hc=>by
  by_cases hcb:c d=true
  ·rw [if_pos hcb]
   refine wpAny_bind (qf sxr hlen fun _ h' sb sx'=>wpAny_pure ?_)
   refine wpAny_bind (mS (s:={s' with heap:=h'}) (gW.at (gJ n1 sb)) (wpAny_pure ?_))
   exact q1 (by rw[hc];exact hcb) h' sb sx'
  ·rw [if_neg hcb]
   refine wpAny_pure ?_
   refine wpAny_bind (mS gW (wpAny_pure ?_))
   exact q2 (by rw[hc];simpa using hcb)
 refine wpAny_bind (wpAny_holding (wpAny_bind (sk.find (fun i hi=>?_) fun hn=>?_)))
 ·exact fin true (decide_eq_true (pk.mem_iff.mp (AJ hi)))
 ·exact fin false (decide_eq_false fun m=>hn (pk.mem_iff.mpr m))
theorem uM {id:String} {Q:Value->Shared->Prop} (hS:SX w S ms s.heap) (hT:SX w T ns s.heap) (hne:S≠T) (hl1:ms.length<3000) (hl2:ns.length<3000)
  (h:∀h' ks,(∀b o,s.heap.get? b=some o->h'.get? b=some o)->SX w s.heap.objs.size ks h'->ks.Nodup->(∀x,x∈ks<->x∈ms/\x∈ns)->Q (.ref s.heap.objs.size) {s with heap:=h'}):wpAny (model P w) A (Builtin.Frozenset.intersection id S (.ref T)) Q E s:=by
 unfold Builtin.Frozenset.intersection
 rw[if_neg (by simp;exact fun z=>hne z.symm)]
 refine wpAny_bind (l4 hS.ty (wpAny_bind (l5 ?_)))
 have lS:=hS.lt
 have lT:=hT.lt
 have kp:∀b o,s.heap.get? b=some o->(s.heap.push (aQ w)).get? b=some o:=fun b o e=>Heap.get?_push_of_some _ e
 have hS1:=hS.at (kp S)
 have hT1:=hT.at (kp T)
 have hR1:SX w s.heap.objs.size [] (s.heap.push (aQ w)):=lY (Heap.get?_push_size _ rfl)
 generalize hr:s.heap.objs.size=r at*
 generalize hh1:s.heap.push (aQ w)=h1 at*
 refine wpAny_bind (wpAny_pure ?_)
 have ne1:S≠r:=AV lS
 have ne2:T≠r:=AV lT
 have aS:=iA hS1
 have aT:=iA hT1
 obtain⟨eS,epS,tS,kS,aS,pS⟩:=aS
 obtain⟨eT,epT,tT,kT,aT,pT⟩:=aT
 refine wpAny_bind (wpAny_holding (wpAny_bind (dN (s:={s with heap:=h1}) hT1.ty ?_)))
 rw[if_pos rfl]
 refine wpAny_bind (wpAny_pure ?_)
 refine wpAny_bind (l7 (s:={s with heap:=h1}) aT (wpAny_bind (l7 (s:={s with heap:=h1}) aS ?_)))
 have core:∀(W0 K0:Addr) (ew:Array (Int×Value)) (epw:Nat) (tw:SetTable) (kw ka:List Int),SetAt w W0 ew epw tw kw h1->SX w K0 ka h1->W0≠r->K0≠r->kw.length<3000->(∀x,x∈kw/\x∈ka<->x∈ms/\x∈ns)->
   wpAny (model P w) A (do
    let was <- setEpoch W0
    let l <- setWalkUnseen W0 [K0,r] (some r)
    forIn l PUnit.unit fun x __s=>match x with
     | (h,x)=>do
      holding [x] do
       let q <- setFind K0 x h
       if q.isSome=true then do
        let _ <- setAddHashed r x h
        pure ()
       else pure ()
      Builtin.Frozenset.unchanged id W0 was
      pure (ForInStep.yield PUnit.unit)
    pure ()) (fun _ s'=>wpAny (model P w) A (pure (Value.ref r)) Q E s') E {s with heap:=h1}:=by
  intro W0 K0 ew epw tw kw ka hW hK n1 n2 hlw hm
  refine wpAny_bind (SetAt.epoch (s:={s with heap:=h1}) hW ?_)
  refine wpAny_bind (SetAt.walk (s:={s with heap:=h1}) (ms:=[]) hW (fun a ha=>?_) (fun a e=>?_) fun xs h2 px k2 f2=>?_)
  ·simp only[AR,A4,or_false]at ha
   rcases ha with e | e<;>subst e
   ·exact⟨_,hK⟩
   ·exact⟨_,hR1⟩
  ·cases e;exact⟨Ne.symm n1,hR1⟩
  have k2':∀b o,b≠r->h1.get? b=some o->h2.get? b=some o:=fun b o n e=>k2 b o (fun z=>n (Option.some.inj z).symm) e
  obtain⟨kx,nx,qx⟩:=Ents.perm px (SetAt.en (s:={s with heap:=h1}) hW)
  have ndw:=SetAt.nd (s:={s with heap:=h1}) hW
  have ndx:kx.Nodup:=qx.nodup_iff.mpr ndw
  refine wpAny_bind (uL (s:={s with heap:=h2}) (hW.at fun o e=>k2' W0 o n1 e) (hK.at fun o e=>k2' K0 o n2 e) n1 n2 nx ndx (by rw[qx.length_eq];omega) (f2 r rfl) (fun b=>b) (fun x=>rfl) fun h3 sb sx=>wpAny_pure (wpAny_pure ?_))
  refine h h3 _ (fun b o e=>?_) sx (ndx.filter _) fun x=>?_
  ·have nb:b≠r:=by rw[<- hr];exact AV (Heap.lt_size e)
   exact gJ nb sb o (k2' b o nb (kp b o e))
  ·rw [Bj,qx.mem_iff,<- hm x]
   simp
 by_cases hc:eT.size>eS.size
 ·rw [if_pos hc]
  exact core S T eS epS tS kS ns aS hT1 ne1 ne2 (by rw[pS.length_eq];exact hl1) fun x=>by rw[pS.mem_iff]
 ·rw [if_neg hc]
  exact core T S eT epT tT kT ms aT hS1 ne2 ne1 (by rw[pT.length_eq];exact hl2) fun x=>by rw[pT.mem_iff];exact And.comm
end
section
variable {P:Program} {w:World} {A:Around} {E:Value->Shared->Prop} {s:Shared} {S T r:Addr} {ks ms ns:List Int} {es:Array (Int×Value)} {ep:Nat} {t:SetTable}
theorem oE {h:Heap} (e:h.get? r=some (aQ w)):SetAt w r #[] 0 (.fresh 0 0 (!bU w)) [] h:=
 ⟨_,e,⟨⟨rfl,rfl,rfl⟩,rfl,.nil,Cu,by decide,rfl,⟨rfl,fun _=> .nil⟩⟩⟩
theorem qg {n:Nat} {Q:Unit->Shared->Prop} (hr:s.heap.get? r=some (aQ w)) (hn:n<128)
  (h:∀h' ep' t',Heap.SameBut r s.heap h'->SetAt w r #[] ep' t' [] h'->xa (t'.mask+1)->n<=t'.mask->t'.dummies=#[]->Q () {s with heap:=h'}):wpAny (model P w) A (setRoomFor r n) Q E s:=by
 have a:=oE hr
 unfold setRoomFor
 refine wpAny_bind (a.state ?_)
 dsimp only
 by_cases hc:(0+n)*5>=7*3
 ·have e:(SetTable.fresh 0 0 (!bU w)).roomFor n=some ((0+n)*2):=if_pos hc
  rw[e]
  dsimp only
  obtain⟨m1,m2⟩:=gT ((0+n)*2) (by omega)
  refine a.relay (by omega) (by show 0<_;omega) fun h' es' t' ks' sb st p mk dm=>?_
  have:ks'=[]:=A5.mp (by rw[p.length_eq];rfl)
  subst this
  have e0:es'=#[]:=by
   have:=st.en (s:={s with heap:=h'})
   have l:=this.len
   exact Array.eq_empty_of_size_eq_zero (by rw[<- AQ,l];rfl)
  subst e0
  exact h h' _ t' sb st (by rw[mk];exact i5 m1) (by omega) dm
 ·have e:(SetTable.fresh 0 0 (!bU w)).roomFor n=none:=if_neg hc
  rw[e]
  exact wpAny_pure (h s.heap 0 _ (Heap.SameBut.refl _ _) a (show xa 8 from i5 (by decide)) (by show n<=7;omega) rfl)
theorem jr {each:Sem Unit} {Q:Unit->Shared->Prop} (hr:s.heap.get? r=some (aQ w)) (hS:SetAt w S es ep t ks s.heap) (hne:r≠S) (hl:ks.length<128) (h0:ks=[]->Q () s)
  (h:∀h' er ep' tr kr,ks≠[]->Heap.SameBut r s.heap h'->SetAt w r er ep' tr kr h'->kr.Perm ks->Q () {s with heap:=h'}):wpAny (model P w) A (setMerge r S each) Q E s:=by
 have sz:=hS.sz
 unfold setMerge
 rw[if_neg (by simpa using hne)]
 refine wpAny_bind (hS.state ?_)
 dsimp only
 by_cases he:es.isEmpty=true
 ·rw [if_pos he]
  refine wpAny_pure (h0 (A5.mp ?_))
  rw[<- sz];simpa using he
 rw[if_neg he]
 have kne:ks≠[]:=fun z=>he (by rw[z]at sz;simpa using sz)
 refine wpAny_bind (qg hr (by omega) fun h1 ep1 t1 sb1 a1 c1 n1 d1=>?_)
 have hS1:SetAt w S es ep t ks h1:=hS.at (gJ (Ne.symm hne) sb1)
 refine wpAny_bind (SetAt.state (s:={s with heap:=h1}) a1 ?_)
 dsimp only
 have tb1:=SetAt.tb (s:={s with heap:=h1}) a1
 have tbS:=hS.tb
 have ft1:=SetAt.ft (s:={s with heap:=h1}) a1
 have p0:t1.place.size=0:=by
  have:=ft1
  simp only[SetTable.fits,BL,beq_iff_eq]at this
  exact this.1
 have fl:t1.fill=0:=by unfold SetTable.fill;rw[p0,d1];rfl
 have ld:(t1.led&&t.led)= !bU w:=by rw[tb1.led,tbS.led];simp
 by_cases hc:(t1.mask==t.mask&&t.dummies.isEmpty)=true
 ·have er:t1.road t= .slotForSlot:=by unfold SetTable.road;rw[fl];simp only[bne_self_eq_false,Be,if_false];rw[if_pos hc]
  rw[er]
  dsimp only
  refine SetAt.store (s:={s with heap:=h1}) a1 hS.en hS.nd hS.lt4 hS.ft ⟨ld,fun z=>tbS.rise ?_⟩ fun h2 sb2 a2=>?_
  ·have z:(t1.plain&&t.plain)=true:=z
   simp at z;exact z.2
  ·exact h h2 _ _ _ _ kne (sb1.trans sb2) a2 (.refl _)
 ·have er:t1.road t= .clean:=by unfold SetTable.road;rw[fl];simp only[bne_self_eq_false,Be,if_false];rw[if_neg hc]
  rw[er]
  dsimp only
  have hsz:(es.map (·.1)).size=es.size:=Array.size_map ..
  obtain⟨t',o,e,L⟩:=lZ (mask:=t1.mask) (finger:=t1.finger) (moves:=t1.moves) (led:=t1.led&&t.led) (plain:=t1.plain&&t.plain) (hs:=es.map (·.1)) c1 (by rw[hsz];exact n1)
  rw[e]
  have pm:=L.pm
  rw[hsz]at pm
  refine wpAny_bind (oD (by rfl) pm ?_)
  dsimp only
  have pp:=gU pm
  obtain⟨ks',n',q'⟩:=Ents.perm pp hS.en
  have z:(o.filterMap (es[·]?)).size=es.size:=by have:=pp.length_eq;rw[AQ,AQ]at this;exact this
  refine SetAt.store (s:={s with heap:=h1}) a1 n' (q'.nodup_iff.mpr hS.nd) (by rw[q'.length_eq];exact hS.lt4) (by rw[z,<- hsz];exact L.ft) ⟨by rw[L.ld];exact ld,fun _=>L.rs⟩ fun h2 sb2 a2=>?_
  exact h h2 _ _ _ _ kne (sb1.trans sb2) a2 q'
theorem wm {Q:Value->Shared->Prop} (hS:SX w S ms s.heap) (hl:ms.length<128)
  (h:∀h' er ep' tr kr,(∀b o,s.heap.get? b=some o->h'.get? b=some o)->SetAt w s.heap.objs.size er ep' tr kr h'->kr.Perm ms->(ms=[]->h'.get? s.heap.objs.size=some (aQ w))->Q (.ref s.heap.objs.size) {s with heap:=h'}):wpAny (model P w) A (Builtin.Frozenset.copyOf S) Q E s:=by
 unfold Builtin.Frozenset.copyOf
 refine wpAny_bind (l4 hS.ty (wpAny_bind (l5 ?_)))
 have hne:s.heap.objs.size≠S:=BD hS.lt
 have kp:∀b o,s.heap.get? b=some o->(s.heap.push (aQ w)).get? b=some o:=fun b o e=>Heap.get?_push_of_some _ e
 have hr:(s.heap.push (aQ w)).get? s.heap.objs.size=some (aQ w):=Heap.get?_push_size _ rfl
 obtain⟨es,ep,t,ks,aS,pS⟩:=iA (hS.at (kp S))
 refine wpAny_bind (wpAny_pure (wpAny_bind (jr (s:={s with heap:=s.heap.push (aQ w)}) hr aS hne (by rw[pS.length_eq];exact hl) (fun e=>?_) fun h' er ep' tr kr kne sb a p=>?_)))
 ·subst e
  have em:ms=[]:=A5.mp (by rw[<- pS.length_eq];rfl)
  exact wpAny_pure (h _ _ _ _ _ kp (oE hr) (by rw[em]) fun _=>hr)
 ·refine wpAny_pure (h h' er ep' tr kr (fun b o e=>gJ (AV (Heap.lt_size e)) sb o (kp b o e)) a (p.trans pS) fun e=>?_)
  subst e
  exact absurd (A5.mp (by rw[pS.length_eq];rfl)) kne
end
theorem sm (acc:List Int) (x:Int):(cL acc x).length<=acc.length+1:=by
 unfold cL
 split
 ·omega
 ·simp
section
variable {P:Program} {w:World} {A:Around} {E:Value->Shared->Prop} {s:Shared} {S T r:Addr} {ks kr ms ns:List Int} {es er:Array (Int×Value)} {ep epr:Nat} {t tr:SetTable}
theorem SX.nd {h:Heap} (x:SX w S ms h):ms.Nodup:=by
 obtain⟨o,es,ep,t,ks,e,r,p⟩:=x
 exact p.nodup_iff.mp r.nd
theorem SetAt.room {n:Nat} {Q:Unit->Shared->Prop} (hR:SetAt w r er epr tr kr s.heap) (hn:kr.length+n<128)
  (h:∀h' er' ep' t' kr',Heap.SameBut r s.heap h'->SetAt w r er' ep' t' kr' h'->kr'.Perm kr->Q () {s with heap:=h'}):wpAny (model P w) A (setRoomFor r n) Q E s:=by
 have sz:=hR.sz
 have pz:=iZ hR.ft
 unfold setRoomFor
 refine wpAny_bind (hR.state ?_)
 dsimp only
 by_cases hc:(tr.fill+n)*5>=tr.mask*3
 ·have e:tr.roomFor n=some ((tr.place.size+n)*2):=if_pos hc
  rw[e]
  dsimp only
  obtain⟨m1,m2⟩:=gT ((tr.place.size+n)*2) (by omega)
  exact hR.relay (by omega) (by omega) fun h' es' t' ks' sb st p _ _=>h h' _ _ _ _ sb st p
 ·have e:tr.roomFor n=none:=if_neg hc
  rw[e]
  exact wpAny_pure (h s.heap _ _ _ _ (Heap.SameBut.refl _ _) hR (.refl _))
theorem qh {each:Sem Unit} {Q:Unit->Shared->Prop} (hR:SetAt w r er epr tr kr s.heap) (hS:SetAt w S es ep t ks s.heap) (hne:r≠S) (hl:kr.length+ks.length<128) (hkr:kr≠[])
  (heach:∀(s':Shared) (Q':Unit->Shared->Prop),SetAt w S es ep t ks s'.heap->Q' () s'->wpAny (model P w) A each Q' E s')
  (h:∀h' acc,(∀b o,b≠r->s.heap.get? b=some o->h'.get? b=some o)->SX w r acc h'->(∀x,x∈acc<->x∈kr\/x∈ks)->Q () {s with heap:=h'}):wpAny (model P w) A (setMerge r S each) Q E s:=by
 have sz:=hS.sz
 unfold setMerge
 rw[if_neg (by simpa using hne)]
 refine wpAny_bind (hS.state ?_)
 dsimp only
 by_cases he:es.isEmpty=true
 ·rw [if_pos he]
  have:ks=[]:=A5.mp (by rw[<- sz];simpa using he)
  refine wpAny_pure (h s.heap kr (fun _ _ _ e=>e) (hR.sx (.refl _)) fun x=>?_)
  rw[this];simp
 rw[if_neg he]
 refine wpAny_bind (hR.room (by omega) fun h1 er1 ep1 t1 kr1 sb1 a1 p1=>?_)
 have hS1:SetAt w S es ep t ks h1:=hS.at (gJ (Ne.symm hne) sb1)
 refine wpAny_bind (SetAt.state (s:={s with heap:=h1}) a1 ?_)
 dsimp only
 have sz1:=SetAt.sz (s:={s with heap:=h1}) a1
 have pz1:=iZ (SetAt.ft (s:={s with heap:=h1}) a1)
 have fl:t1.fill≠0:=by
  unfold SetTable.fill
  have:kr1.length≠0:=by rw[p1.length_eq];exact fun z=>hkr (A5.mp z)
  omega
 have er':t1.road t= .oneByOne:=by unfold SetTable.road;rw[if_pos (by simpa using fl)]
 rw[er']
 dsimp only
 have sx1:SX w r kr h1:=SetAt.sx (s:={s with heap:=h1}) a1 p1
 refine wpAny_bind (SetAt.walk (s:={s with heap:=h1}) (ms:=kr) hS1 (fun a ha=>?_) (fun a e=>?_) fun xs h2 px k2 f2=>?_)
 ·rw [AN.mp ha];exact⟨_,sx1⟩
 ·cases e;exact⟨hne,sx1⟩
 have k2':∀b o,b≠r->h1.get? b=some o->h2.get? b=some o:=fun b o n e=>k2 b o (fun z=>n (Option.some.inj z).symm) e
 obtain⟨kx,nx,qx⟩:=Ents.perm px (SetAt.en (s:={s with heap:=h1}) hS1)
 refine wpAny_bind (PySem.MeetsSeq2.wpAny_forIn_array _ (fun dG _ s'=>∃kq acc h',Ents dG kq/\s'={s with heap:=h'}/\(∀b o,b≠r->h2.get? b=some o->h'.get? b=some o)/\SX w r acc h'/\(∀x,x∈acc\/x∈kq<->x∈kr\/x∈kx)/\acc.length+kq.length<128) _ ?_ ?_ xs _ ⟨kx,kr,h2,nx,rfl,(fun _ _ _ e=>e),f2 r rfl,fun x=>Iff.rfl,by rw[qx.length_eq];exact hl⟩)
 ·rintro x dG b s' ⟨kq,acc,h3,eq,rfl,k3,sx3,m3,l3⟩
  cases eq with
  | @cons _ k _ kq' q eq'=>
   obtain⟨tk,rfl⟩:=q
   rw[BF]at l3
   dsimp only
   refine wpAny_bind (wpAny_holding (qf (s:={s with heap:=h3}) sx3 (by omega) fun _ h4 sb4 sx4=>?_))
   have k4:∀b o,b≠r->h2.get? b=some o->h4.get? b=some o:=fun b o n e=>gJ n sb4 o (k3 b o n e)
   have hS4:SetAt w S es ep t ks h4:=hS1.at fun o e=>k4 S o (Ne.symm hne) (k2' S o (Ne.symm hne) e)
   refine wpAny_bind (heach {s with heap:=h4} _ hS4 ?_)
   refine wpAny_bind (SetAt.state (s:={s with heap:=h4}) hS4 ?_)
   dsimp only
   rw[if_neg (by simp)]
   refine wpAny_pure ⟨kq',_,h4,eq',rfl,k4,sx4,fun x=>?_,?_⟩
   ·rw [lX,<- m3 x,AR,or_assoc]
   ·have:=sm acc k;omega
 ·rintro b s' ⟨kq,acc,h3,eq,rfl,k3,sx3,m3,l3⟩
  cases eq
  refine wpAny_pure (h h3 acc (fun b o n e=>k3 b o n (k2' b o n (gJ n sb1 o e))) sx3 fun x=>?_)
  rw[<- qx.mem_iff (a:=x),<- m3 x];simp
end
section
variable {P:Program} {w:World} {A:Around} {E:Value->Shared->Prop} {s:Shared} {S T r:Addr} {ks kr ms ns:List Int} {es er:Array (Int×Value)} {ep epr:Nat} {t tr:SetTable}
theorem uN {id:String} {Q:Value->Shared->Prop} (hS:SX w S ms s.heap) (hT:SX w T ns s.heap) (hne:S≠T) (hl:ms.length+ns.length<128)
  (h:∀h' ks,(∀b o,s.heap.get? b=some o->h'.get? b=some o)->SX w s.heap.objs.size ks h'->(∀x,x∈ks<->x∈ms\/x∈ns)->Q (.ref s.heap.objs.size) {s with heap:=h'}):
  wpAny (model P w) A (do
   let result <- Builtin.Frozenset.copyOf S
   if(Value.ref T != Value.ref S)=true then
    let a <- Builtin.Frozenset.addrOf result
    holding [result] (Builtin.Frozenset.updateFrom id a (.ref T))
   return result) Q E s:=by
 refine wpAny_bind (wm hS (by omega) fun h1 er ep1 tr kr kp aR pR fr=>?_)
 have lT:=hT.lt
 have hTr:s.heap.objs.size≠T:=BD lT
 have hT1:SX w T ns h1:=hT.at (kp T)
 obtain⟨eT,epT,tT,kT,aT,pT⟩:=iA hT1
 rw[if_pos (by simp;exact fun z=>hne z.symm)]
 refine wpAny_bind (wpAny_pure (wpAny_bind (wpAny_holding ?_)))
 unfold Builtin.Frozenset.updateFrom
 refine wpAny_bind (dN (s:={s with heap:=h1}) hT1.ty ?_)
 rw[if_pos rfl]
 refine wpAny_bind (wpAny_pure ?_)
 unfold Builtin.Frozenset.merge
 refine wpAny_bind (SetAt.epoch (s:={s with heap:=h1}) aT ?_)
 have lenT:=pT.length_eq
 by_cases em:ms=[]
 ·refine jr (s:={s with heap:=h1}) (fr em) aT hTr (by omega) (fun e=>?_) fun h2 er2 ep2 tr2 kr2 _ sb2 a2 p2=>?_
  ·refine wpAny_pure (h h1 kr kp (SetAt.sx (s:={s with heap:=h1}) aR (.refl _)) fun x=>?_)
   rw[pR.mem_iff,<- pT.mem_iff (a:=x),e];simp
  ·refine wpAny_pure (h h2 kr2 (fun b o e=>gJ (AV (Heap.lt_size e)) sb2 o (kp b o e)) (SetAt.sx (s:={s with heap:=h2}) a2 (.refl _)) fun x=>?_)
   rw[p2.mem_iff,pT.mem_iff,em];simp
 ·refine qh (s:={s with heap:=h1}) aR aT hTr (by rw[pR.length_eq,lenT];exact hl) (fun z=>em ?_) (fun s' Q' a q=>mS a q) fun h2 acc k2 sx2 m2=>?_
  ·subst z;exact A5.mp (by rw[<- pR.length_eq];rfl)
  ·refine wpAny_pure (h h2 acc (fun b o e=>k2 b o (AV (Heap.lt_size e)) (kp b o e)) sx2 fun x=>?_)
   rw[m2,pR.mem_iff,pT.mem_iff]
end
section
variable {P:Program} {w:World} {A:Around} {E:Value->Shared->Prop} {s:Shared} {S T r:Addr} {ks kr ms ns:List Int} {es er:Array (Int×Value)} {ep epr:Nat} {t tr:SetTable}
end
theorem fA:Slot "set" "__and__" "set.__and__":= .of (owner:="set") (n:="__and__") (by rw[typeLookup_type,builtinLookup_eq_fast];kernel_rfl) (by decide +kernel) (by decide +kernel) (by decide +kernel) (.inl (by decide +kernel)) (by rw[isSubtype_type];kernel_rfl)
theorem ll:entryFor table "set.__and__"=some Builtin.«frozenset.__and__»:=entryFor_alias (id':="frozenset.__and__") (by kernel_rfl) rfl (by decide +kernel) (by kernel_rfl)
theorem mT (a b:Value):argsOk "set.__and__" ⟨[a,b],[]⟩:=by unfold argsOk;kernel_rfl
theorem mU:fillsNumberSlot (.type "set") "and"=pure true:=fillsNumberSlot_of fA.lookup (by decide +kernel) (r:=some (.builtin "set.__rand__")) (by rw[typeLookup_type,builtinLookup_eq_fast];kernel_rfl)
theorem fP:Slot "set" "__or__" "set.__or__":= .of (owner:="set") (n:="__or__") (by rw[typeLookup_type,builtinLookup_eq_fast];kernel_rfl) (by decide +kernel) (by decide +kernel) (by decide +kernel) (.inl (by decide +kernel)) (by rw[isSubtype_type];kernel_rfl)
theorem mV:entryFor table "set.__or__"=some Builtin.«frozenset.__or__»:=entryFor_alias (id':="frozenset.__or__") (by kernel_rfl) rfl (by decide +kernel) (by kernel_rfl)
theorem oF (a b:Value):argsOk "set.__or__" ⟨[a,b],[]⟩:=by unfold argsOk;kernel_rfl
theorem oG:fillsNumberSlot (.type "set") "or"=pure true:=fillsNumberSlot_of fP.lookup (by decide +kernel) (r:=some (.builtin "set.__ror__")) (by rw[typeLookup_type,builtinLookup_eq_fast];kernel_rfl)
section
variable {X:Cx}
def xc (w:World) (rel:Int->List Int->List Int->Prop):R2:=fun x y H Q=>∃a b ms ns,x= .ref a/\y= .ref b/\a≠b/\H a=some (.ext (SX w a ms))/\H b=some (.ext (SX w b ns))/\ms.length<64/\ns.length<64/\
 ∀c ks,H c=none->ks.Nodup->(∀x,x∈ks<->rel x ms ns)->Q (.ref c) (ay H c (.ext (SX w c ks)))
theorem wu (w:World) (hw:X.w=w:=by rfl):fk X (binaryOp .BitAnd) (xc w fun x ms ns=>x∈ms/\x∈ns):=by
 subst hw
 intro pins s σ H x y v u Q I rx ry h
 obtain⟨a,b,ms,ns,rfl,rfl,hne,ha,hb,l1,l2,q⟩:=h
 cases rx
 cases ry
 obtain⟨sa,_⟩:=(show ObjOk X.prog X.w H s.heap a (.ext (SX X.w a ms))from I.hok a _ ha)
 obtain⟨sb,_⟩:=(show ObjOk X.prog X.w H s.heap b (.ext (SX X.w b ns))from I.hok b _ hb)
 refine wpAny_binaryOp_same sa.ty sb.ty mU fA (wpAny_call_entry fA sa.ty ll ?_ (mT _ _))
 show wpAny _ _ (Builtin.Frozenset.slot1 "__and__" ⟨[.ref a,.ref b],[]⟩ >>= _) _ _ s
 refine wpAny_bind (wpAny_pure ?_)
 refine wpAny_bind ?_
 show wpAny _ _ (Builtin.Frozenset.isAnySet (.ref a) >>= fun c=>_) _ _ _
 refine wpAny_bind (dN sa.ty ?_)
 show wpAny _ _ (Builtin.Frozenset.isAnySet (.ref b)) _ _ _
 refine dN sb.ty ?_
 rw[if_neg (by simp)]
 refine wpAny_bind (wpAny_pure ?_)
 refine wpAny_bind (uM sa sb hne (by omega) (by omega) fun h' ks kp sx nd m=>wpAny_pure ⟨_,rfl,by simp,?_⟩)
 exact⟨.ref s.heap.objs.size,_,I.new' (s':={s with heap:=h'}) kp (AI _) rfl rfl sx.ok,rfl,q _ ks I.fresh nd m⟩
theorem xV (w:World) (hw:X.w=w:=by rfl):fk X (binaryOp .BitOr) (xc w fun x ms ns=>x∈ms\/x∈ns):=by
 subst hw
 intro pins s σ H x y v u Q I rx ry h
 obtain⟨a,b,ms,ns,rfl,rfl,hne,ha,hb,l1,l2,q⟩:=h
 cases rx
 cases ry
 obtain⟨sa,_⟩:=(show ObjOk X.prog X.w H s.heap a (.ext (SX X.w a ms))from I.hok a _ ha)
 obtain⟨sb,_⟩:=(show ObjOk X.prog X.w H s.heap b (.ext (SX X.w b ns))from I.hok b _ hb)
 refine wpAny_binaryOp_same sa.ty sb.ty oG fP (wpAny_call_entry fP sa.ty mV ?_ (oF _ _))
 show wpAny _ _ (Builtin.Frozenset.slot1 "__or__" ⟨[.ref a,.ref b],[]⟩ >>= _) _ _ s
 refine wpAny_bind (wpAny_pure ?_)
 refine wpAny_bind ?_
 show wpAny _ _ (Builtin.Frozenset.isAnySet (.ref a) >>= fun c=>_) _ _ _
 refine wpAny_bind (dN sa.ty ?_)
 show wpAny _ _ (Builtin.Frozenset.isAnySet (.ref b)) _ _ _
 refine dN sb.ty ?_
 rw[if_neg (by simp)]
 refine wpAny_bind (wpAny_pure ?_)
 refine wpAny_bind ?_
 refine uN (id:=toString "frozenset."++toString "__or__") sa sb hne (by omega) fun h' ks kp sx m=>?_
 refine wpAny_pure ⟨_,rfl,by simp,?_⟩
 exact⟨.ref s.heap.objs.size,_,I.new' (s':={s with heap:=h'}) kp (AI _) rfl rfl sx.ok,rfl,q _ ks I.fresh sx.nd m⟩
end
def zg (K:PySem.W.Frag) (a b:Addr):It:=
  ⟨fun i H=>∃xs ys x y,SqL K H a xs/\SqL K H b ys/\xs[i]?=some x/\ys[i]?=some y,
   fun i H v H'=>∃p x y,H p=none/\(∀xs,SqL K H a xs->xs[i]?=some x)/\(∀ys,SqL K H b ys->ys[i]?=some y)/\v= .ref p/\H'=ay H p (.tup [x,y]),
   fun i H=>∃xs ys,SqL K H a xs/\SqL K H b ys/\xs.length<=i⟩
theorem uO {fs ex:List Addr} {H:Hp} {h h':Heap} (k:∀b o,b∉ex->h.get? b=some o->h'.get? b=some o):Un fs ex H H h h' where
 keep:=fun b o q _ _ hx=>k b o hx q
 slot:=fun b o q _ _ hx=>⟨o.slots,k b o hx q⟩
 free:=fun _ _ _ n _=>n
 there:=fun b o q hx=>⟨o,k b o hx q⟩
 tups:=fun _ _ q=>q
 frzs:=fun _ _ _ q=>q
 tbls:=fun b ps q=>⟨#[],by rw[q];simp⟩
theorem uP {P:Program} {w:World} {K:PySem.W.Frag} {es:List Expr} {k1:Nat} {pos:Pos} (z TI TO i1 i2 l1 l2:Addr) (D:ZipApart z TI TO i1 i2 l1 l2):
  Turn P w K (.Tuple es k1 pos) (zg K l1 l2) [z,TI,TO,i1,i2] z (fun i h=>IsZip h z TI TO .none/\IsPair h TI (.ref i1) (.ref i2)/\(∃a b,IsPair h TO a b)/\h.IsListIter i1 l1 i/\h.IsListIter i2 l2 i) where
 mem:=by simp
 obj:=fun i h st b hb=>by
  obtain⟨hz,hTI,⟨a,c,hTO⟩,⟨o1,e1,c1,d1⟩,⟨o2,e2,c2,d2⟩⟩:=st
  simp only[AR,A4,or_false]at hb
  rcases hb with e | e | e | e | e<;>subst e
  ·exact⟨_,hz,fun v y=>by have y':Data.fields _=Data.cell v:=y;cases y'⟩
  ·exact⟨_,hTI,fun v y=>by have y':Data.seq _ _=Data.cell v:=y;cases y'⟩
  ·exact⟨_,hTO,fun v y=>by have y':Data.seq _ _=Data.cell v:=y;cases y'⟩
  ·exact⟨o1,e1,fun v y=>by rw[d1]at y;cases y⟩
  ·exact⟨o2,e2,fun v y=>by rw[d2]at y;cases y⟩
 keep:=fun i h h' st k=>by
  obtain⟨hz,hTI,⟨a,c,hTO⟩,h1,h2⟩:=st
  exact⟨k z (by simp) _ hz,k TI (by simp) _ hTI,⟨a,c,k TO (by simp) _ hTO⟩,h1.at fun o e=>k i1 (by simp) o e,h2.at fun o e=>k i2 (by simp) o e⟩
 item:=by
  intro X hP hw hK hc i pins s σ H E I hf st hg
  subst hP hw hK
  obtain⟨xs,ys,x,y,hq1,hq2,hx,hy⟩:=hg
  obtain⟨its1,rv1,p1,_⟩:=I.list hq1
  obtain⟨its2,rv2,p2,_⟩:=I.list hq2
  obtain⟨u,hu,ru⟩:=rv1.get hx
  obtain⟨v,hv,rv⟩:=rv2.get hy
  obtain⟨hz,hTI,⟨a,c,hTO⟩,h1,h2⟩:=st
  refine wpAny_pyNext_zip_item D hz hTI hTO h1 h2 p1.isList p2.isList (x:=u) (y:=v) (by simpa using hu) (by simpa using hv) fun h' a1 a2 a3 a4 a5 a6 kp=>?_
  refine⟨_,rfl,wpAny_letOwnedTupleGo_zip a1 fun h2' z2 sb=>?_⟩
  have lt:∀{c o},s.heap.get? c=some o->s.heap.objs.size≠c:=fun e=>BD (Heap.lt_size e)
  have kp2:∀b o,b∉[z,TI,TO,i1,i2]->s.heap.get? b=some o->h2'.get? b=some o:=fun b o hb e=>by
   simp only[AR,A4,or_false,not_or]at hb
   exact(sb.2 b hb.1).trans (kp b o hb.1 hb.2.2.1 hb.2.2.2.1 hb.2.2.2.2 e)
  have nz:=lt hz
  have nTI:=lt hTI
  have nTO:=lt hTO
  have n1:s.heap.objs.size≠i1:=by obtain⟨_,e,_⟩:=h1;exact lt e
  have n2:s.heap.objs.size≠i2:=by obtain⟨_,e,_⟩:=h2;exact lt e
  have fr:H s.heap.objs.size=none:=I.fresh
  have e3:h2'.get? s.heap.objs.size=some {cls:= .type "tuple",data:= .seq #[u,v]}:=(sb.2 _ nz).trans a5
  have hch:∀b∈[z,TI,TO,i1,i2],(b∈X.ex\/X.s₀.heap.objs.size<=b)/\b≠X.env.locals/\(∀x c,X.env.cells.lookup x=some c->c≠b)/\∀p∈X.pn++pins,p.1≠b:=fun b hb=>by
   obtain⟨f0,f1,f2,f3,f4,f5⟩:=hf b hb
   exact⟨f3,f1,f4,f5⟩
  have off:∀b o,H b=some o->b∉[z,TI,TO,i1,i2]:=fun b o e m=>by rw[(hf b m).1]at e;cases e
  have hok1:HOk X.prog X.w H h2':=fun b o e=>(I.hok b o e).stay (fun c oc hc q=>kp2 c oc (by rcases hc with y | y;exact(by rw[y];exact off b o e);exact off c _ y) q) (fun _ q=>q) fun _ _ q=>q
  have I2:Inv X pins σ (ay H s.heap.objs.size (.tup [x,y])) {s with heap:=h2'}:=by
   have un:Un (ig X.stack) [z,TI,TO,i1,i2] H (ay H s.heap.objs.size (.tup [x,y])) s.heap h2':={
    keep:=fun b o q _ _ hx=>kp2 b o hx q
    slot:=fun b o q _ _ hx=>⟨o.slots,kp2 b o hx q⟩
    free:=fun b o q n hx=>by rw[aC (AV (Heap.lt_size q))];exact n
    there:=fun b o q hx=>⟨o,kp2 b o hx q⟩
    tups:=fun b xs q=>by rw[aC (bf q fr)];exact q
    frzs:=fun b o xs q=>by rw[aC (bf q fr)];exact q
    tbls:=fun b ps q=>⟨#[],by rw[aC (bf q fr),q];simp⟩}
   refine I.call' (s':={s with heap:=h2'}) (ch:=[z,TI,TO,i1,i2]) rfl un (fun b o e=>?_) I.bare hch
   by_cases hb:b=s.heap.objs.size
   ·subst hb
    rw[af]at e
    cases e
    refine⟨bM,[u,v],.cons ru (.cons rv .nil),_,e3,rfl,_,rfl⟩
   ·rw [aC hb]at e
    refine(hok1 b o e).stay (fun _ _ _ q=>q) (fun c q=>by rw[aC (bf q fr)];exact q) fun c xs q=>by rw[aC (bf q fr)];exact q
  refine⟨.ref s.heap.objs.size,_,I2,rfl,⟨_,x,y,fr,fun xs' h=>by rw[I.list_inj h hq1];exact hx,fun ys' h=>by rw[I.list_inj h hq2];exact hy,rfl,rfl⟩,⟨z2,?_,⟨u,v,?_⟩,?_,?_⟩,fun b hb=>?_⟩
  ·exact(sb.2 TI D.TIz).trans (kp TI _ D.TIz D.TITO D.TIi1 D.TIi2 hTI)
  ·exact(sb.2 TO D.TOz).trans a2
  ·exact a3.at fun o e=>(sb.2 i1 D.i1z).trans e
  ·exact a4.at fun o e=>(sb.2 i2 D.i2z).trans e
  ·have hne:b≠s.heap.objs.size:=fun q=>by
    subst q
    simp only[AR,A4,or_false]at hb
    rcases hb with e | e | e | e | e
    ·exact nz e
    ·exact nTI e
    ·exact nTO e
    ·exact n1 e
    ·exact n2 e
   rw[aC hne];exact(hf b hb).1
 done:=by
  intro X hP hw hK hc i pins s σ H E I hf st hg
  subst hP hw hK
  obtain⟨xs,ys,hq1,hq2,hx⟩:=hg
  obtain⟨its1,rv1,p1,_⟩:=I.list hq1
  obtain⟨its2,rv2,p2,_⟩:=I.list hq2
  obtain⟨hz,hTI,⟨a,c,hTO⟩,h1,h2⟩:=st
  have hl:=rv1.length
  have off:∀b o,H b=some o->b∉[z,TI,TO,i1,i2]:=fun b o e m=>by rw[(hf b m).1]at e;cases e
  refine wpAny_pyNext_zip_end (I.ok.hd hc) D hz hTI hTO h1 h2 p1.isList p2.isList (.inl (by simp;omega)) fun h' kp=>⟨rfl,?_⟩
  have kp2:∀b o,b∉[z,TI,TO,i1,i2]->s.heap.get? b=some o->h'.get? b=some o:=fun b o hb e=>by
   simp only[AR,A4,or_false,not_or]at hb
   exact kp b o hb.1 hb.2.2.1 hb.2.2.2.1 hb.2.2.2.2 e
  refine I.call' (s':={s with heap:=h'}) (ch:=[z,TI,TO,i1,i2]) rfl (uO kp2) (fun b o e=>(I.hok b o e).stay (fun c oc hc q=>kp2 c oc (by rcases hc with y | y;exact(by rw[y];exact off b o e);exact off c _ y) q) (fun _ q=>q) fun _ _ q=>q) I.bare fun b hb=>?_
  obtain⟨f0,f1,f2,f3,f4,f5⟩:=hf b hb
  exact⟨f3,f1,f4,f5⟩
 self:=fun _ _ _ _ _ st h=>wpAny_pyIter_zip st.1 h
theorem so (n l1 l2:Nat) (t1:l1<n) (t2:l2<n):ZipApart (n+4) (n+2) (n+3) n (n+1) l1 l2:=by
 constructor<;>first | exact AV (by omega) | exact BD (by omega)
section
variable {X:Cx}
def zK (K:PySem.W.Frag) (ta:TA):TI:=fun σ H R=>ta σ H fun vs H1=>∃a b xs ys,vs=[.ref a,.ref b]/\SqL K H1 a xs/\SqL K H1 b ys/\R (zg K a b) H1
theorem qi {a b:Expr} {ta:TA} {p pos tp:Pos} {es:List Expr} {k1:Nat} (K:PySem.W.Frag) (hg:Gl X "zip") (hm:X.mg "zip"=none) (ha:PA X [a,b] ta) (hK:X.K=K:=by rfl) (hs:starEach [a,b] X.env=[(false,eval a X.env),(false,eval b X.env)]:=by rfl) (hs2:starEach [b] X.env=[(false,eval b X.env)]:=by rfl):
  PI X (.Tuple es k1 tp) (.Call (.Name "zip" p) [a,b] [] pos) (zK K ta):=by
 subst hK
 intro pins s σ H R I h
 refine Call_ (dH I hg hm boot_zip (PyProof.Rows.callWith_type1 (bK (ha pos pins s σ H _ I h) fun us s1 ⟨vs,H1,I1,r1,q1⟩=>?_) (by rw[hs,hs2]) (by rw[hs2];rfl)))
 obtain⟨l1,l2,xs,ys,e,hq1,hq2,q⟩:=q1
 subst e
 cases r1 with
 | cons r rr=>
  cases rr with
  | cons r' rr=>
   cases rr
   cases r
   cases r'
   obtain⟨its1,rv1,p1,_⟩:=I1.list hq1
   obtain⟨its2,rv2,p2,_⟩:=I1.list hq2
   have t1:l1<s1.heap.objs.size:=by obtain⟨o,e,_⟩:=p1.isList;exact Heap.lt_size e
   have t2:l2<s1.heap.objs.size:=by obtain⟨o,e,_⟩:=p2.isList;exact Heap.lt_size e
   refine call_zip_2 p1.isList p2.isList fun h' hz hTI hTO h1 h2 hsz kp=>?_
   refine wpAny_pyIter_zip hz ?_
   have D:=so s1.heap.objs.size l1 l2 t1 t2
   have I2:Inv X pins σ H1 {s1 with heap:=h'}:=I1.kept (t':=s1.toks) kp
   refine⟨_,[s1.heap.objs.size+4,s1.heap.objs.size+2,s1.heap.objs.size+3,s1.heap.objs.size,s1.heap.objs.size+1],_,_,H1,rfl,I2,uP _ _ _ _ _ _ _ D,⟨hz,hTI,⟨_,_,hTO⟩,h1,h2⟩,fun b hb=>?_,q⟩
   have le:s1.heap.objs.size<=b:=by
    simp only[AR,A4,or_false]at hb
    rcases hb with e | e | e | e | e<;>subst e
    ·exact Co _ _
    ·exact Co _ _
    ·exact Co _ _
    ·exact AI _
    ·exact Co _ _
   exact I1.fpOk le (I1.hok.fresh le)
end
section
variable {X:Cx}
end
section
variable {X:Cx}
end
section
variable {X:Cx}
end
theorem iB (bt:Nat->Nat->Bool):∀k,argBest bt k<=k
 | 0=>AI _
 | k+1=>by
  unfold argBest
  split
  ·exact AI _
  ·have:=iB bt k;omega
theorem iC (val:Nat->Int):∀k i,i<=k->val i<=val (argBest (fun i j=>decide (val i>val j)) k)
 | 0,i,h=>by
  have:i=0:=by omega
  subst this;exact Int.le_refl _
 | k+1,i,h=>by
  unfold argBest
  by_cases c:val (k+1)>val (argBest (fun i j=>decide (val i>val j)) k)
  ·rw [if_pos (decide_eq_true c)]
   by_cases z:i=k+1
   ·subst z;exact Int.le_refl _
   ·have:=iC val k i (by omega);omega
  ·rw [if_neg (by simpa using c)]
   by_cases z:i=k+1
   ·subst z;omega
   ·exact iC val k i (by omega)
theorem iD (val:Nat->Int):∀k i,i<=k->val (argBest (fun i j=>decide (val i<val j)) k)<=val i
 | 0,i,h=>by
  have:i=0:=by omega
  subst this;exact Int.le_refl _
 | k+1,i,h=>by
  unfold argBest
  by_cases c:val (k+1)<val (argBest (fun i j=>decide (val i<val j)) k)
  ·rw [if_pos (decide_eq_true c)]
   by_cases z:i=k+1
   ·subst z;exact Int.le_refl _
   ·have:=iD val k i (by omega);omega
  ·rw [if_neg (by simpa using c)]
   by_cases z:i=k+1
   ·subst z;omega
   ·exact iD val k i (by omega)
section
variable {X:Cx}
theorem Aa (K:PySem.W.Frag) (hc:X.calm=true:=by rfl) (h:X.K=K:=by rfl):cu X (.builtin "max") (fun xs H Q=>∃(p:Addr) (ns:List Int),xs=[.ref p]/\SqL K H p (ns.map V.int)/\ns≠[]/\∀m,m∈ns->(∀x∈ns,x<=m)->Q (.int m) H):=by
 subst h
 intro pins s σ H xs us Q I r h
 obtain⟨p,ns,e,hq,hne0,q⟩:=h
 subst e
 obtain⟨u,e,rx⟩:=eA r
 subst e
 cases rx
 obtain⟨its,rv,pl,hz⟩:=I.list hq
 have hl:=rv.length
 rw[AC]at hl
 have h0:0<ns.length:=List.length_pos_iff.mpr hne0
 refine call_max_walk (wpAny_pyIter_list pl.isList ?_)
 have hlt:p<s.heap.objs.size:=by
  obtain⟨o,ho,_⟩:=pl.isList
  exact Heap.lt_size ho
 have hval:∀(i:Nat) (v:Value),its.toArray[i]?=some v->∃t,v= .int (ns.getD i 0) t:=fun i v hi=>by
  have hi':its[i]?=some v:=by simpa using hi
  have h2:i<ns.length:=by rw[hl];exact(AF.mp hi').1
  obtain⟨u,eu,ru⟩:=rv.get (i:=i) (x:= .int ns[i]) (by simp[h2])
  rw[hi']at eu
  cases eu
  obtain⟨t,e⟩:=ru
  exact⟨t,by rw[e];simp[h2]⟩
 refine⟨s.heap.objs.size,_,_,_,_,_,_,rfl,Walks.list (A:=X.A.in1) (show X.A.in1.handled=none from I.ok.hd hc) _ p (AV hlt) its.toArray,?_,?_,by rw[AM];omega,CmpOf.ints_gt (fun i=>ns.getD i 0) hval,?_⟩
 ·refine⟨⟨_,Heap.get?_push_size _ rfl,rfl,rfl⟩,?_⟩
  obtain⟨o,ho,z⟩:=pl.isList
  exact⟨o,Heap.get?_push_of_some _ ho,z⟩
 ·intro b hb
  rw[Heap.size_push]
  simp only[AR,A4,or_false]at hb
  rcases hb with z | z<;>subst z
  ·exact Bs _
  ·exact Bk hlt
 ·intro v h' tk hP kp
  obtain⟨t,rfl⟩:=hval _ _ hP
  have hb:=iB (fun i j=>decide (ns.getD i 0>ns.getD j 0)) (its.toArray.size-1)
  have hs:its.toArray.size=ns.length:=by rw[AM];omega
  rw[hs]at hb
  refine⟨.int _,H,I.kept (fun b o e=>kp b o ?_ (Heap.get?_push_of_some _ e)),⟨t,rfl⟩,q _ ?_ fun x hx=>?_⟩
  ·have:=Heap.lt_size e
   intro z
   rw[AN]at z
   exact absurd this (by rw[z];exact Bt _)
  ·rw [hs,aH (by omega)];exact A1 _
  ·obtain⟨j,hj,ej⟩:=AU.mp hx
   have:=iC (fun i=>ns.getD i 0) (ns.length-1) j (by omega)
   rw[hs]
   rw[aH hj,ej]at this
   exact this
theorem yR (K:PySem.W.Frag) (hc:X.calm=true:=by rfl) (h:X.K=K:=by rfl):cu X (.builtin "min") (fun xs H Q=>∃(p:Addr) (ns:List Int),xs=[.ref p]/\SqL K H p (ns.map V.int)/\ns≠[]/\∀m,m∈ns->(∀x∈ns,m<=x)->Q (.int m) H):=by
 subst h
 intro pins s σ H xs us Q I r h
 obtain⟨p,ns,e,hq,hne0,q⟩:=h
 subst e
 obtain⟨u,e,rx⟩:=eA r
 subst e
 cases rx
 obtain⟨its,rv,pl,hz⟩:=I.list hq
 have hl:=rv.length
 rw[AC]at hl
 have h0:0<ns.length:=List.length_pos_iff.mpr hne0
 refine call_min_walk (wpAny_pyIter_list pl.isList ?_)
 have hlt:p<s.heap.objs.size:=by
  obtain⟨o,ho,_⟩:=pl.isList
  exact Heap.lt_size ho
 have hval:∀(i:Nat) (v:Value),its.toArray[i]?=some v->∃t,v= .int (ns.getD i 0) t:=fun i v hi=>by
  have hi':its[i]?=some v:=by simpa using hi
  have h2:i<ns.length:=by rw[hl];exact(AF.mp hi').1
  obtain⟨u,eu,ru⟩:=rv.get (i:=i) (x:= .int ns[i]) (by simp[h2])
  rw[hi']at eu
  cases eu
  obtain⟨t,e⟩:=ru
  exact⟨t,by rw[e];simp[h2]⟩
 refine⟨s.heap.objs.size,_,_,_,_,_,_,rfl,Walks.list (A:=X.A.in1) (show X.A.in1.handled=none from I.ok.hd hc) _ p (AV hlt) its.toArray,?_,?_,by rw[AM];omega,CmpOf.ints_lt (fun i=>ns.getD i 0) hval,?_⟩
 ·refine⟨⟨_,Heap.get?_push_size _ rfl,rfl,rfl⟩,?_⟩
  obtain⟨o,ho,z⟩:=pl.isList
  exact⟨o,Heap.get?_push_of_some _ ho,z⟩
 ·intro b hb
  rw[Heap.size_push]
  simp only[AR,A4,or_false]at hb
  rcases hb with z | z<;>subst z
  ·exact Bs _
  ·exact Bk hlt
 ·intro v h' tk hP kp
  obtain⟨t,rfl⟩:=hval _ _ hP
  have hb:=iB (fun i j=>decide (ns.getD i 0<ns.getD j 0)) (its.toArray.size-1)
  have hs:its.toArray.size=ns.length:=by rw[AM];omega
  rw[hs]at hb
  refine⟨.int _,H,I.kept (fun b o e=>kp b o ?_ (Heap.get?_push_of_some _ e)),⟨t,rfl⟩,q _ ?_ fun x hx=>?_⟩
  ·have:=Heap.lt_size e
   intro z
   rw[AN]at z
   exact absurd this (by rw[z];exact Bt _)
  ·rw [hs,aH (by omega)];exact A1 _
  ·obtain⟨j,hj,ej⟩:=AU.mp hx
   have:=iD (fun i=>ns.getD i 0) (ns.length-1) j (by omega)
   rw[hs]
   rw[aH hj,ej]at this
   exact this
end
section
open PySem.AutoSeq1 (wpAny_loadPart')
open PySem.MeetsSeq PySem.MeetsSeq2 PySem.MeetsSeq3
end
section
variable {X:Cx}
end
theorem dO {J:It} {H1:Hp} {js:List (Option Nat)} {σ:L2.St} {tc:TT} {te:TE} {Q:VK} (n:Nat) (item:Nat->V) (p:Nat->Bool) (P:Addr->Nat->V->Hp->Prop) (hn:n<100000)
  (mono:∀acc i v H H',P acc i v H->SameBut acc H H'->P acc i v H')
  (hgo:∀i H,i<n->Same H1 H->J.go i H) (hst:∀H,Same H1 H->J.stop n H) (hy:∀i H x H',i<n->Same H1 H->J.yld i H x H'->H'=H/\x=item i)
  (hc:∀i,i<n->∀H2 R,Same H1 H2->(∀H3,Same H2 H3->R (p i) H3)->tc (some (item i) :: bZ σ js) H2 R)
  (he:∀acc i,i<n->p i=true->∀H2 R,Same H1 H2->H1 acc=none->H2 acc≠none->(∀v H3,Same H2 H3->P acc i v H3->R v H3)->te (some (item i) :: bZ σ js) H2 R)
  (hQ:∀acc vs H',Same H1 H'->H1 acc=none->H' acc=some (.lst vs)->Paired (fun i v=>P acc i v H') ((AH n).filter p) vs->Q (.ref acc) H'):
  cE J H1 (none :: js) (bT 0) tc te σ Q:=by
 intro acc hacc
 refine⟨fun i m ys H=>m=n-i/\i<=n/\Same H1 H/\H acc=some (.lst ys)/\Paired (fun k v=>P acc k v H) ((AH i).filter p) ys,⟨n,by simp,A0 _,Same.new hacc,af,.nil⟩,?_⟩
 rintro i m ys H ⟨rfl,hi,s1,ha,hp⟩
 by_cases hlt:i<n
 ·refine .inr ⟨hgo i H hlt s1,fun ys' H'=>i<n/\Same H1 H'/\H' acc=some (.lst ys')/\Paired (fun k v=>P acc k v H') ((AH (i+1)).filter p) ys',fun ys' H' ⟨z,a,b,c⟩=>⟨n-(i+1),Bu _ _ hlt,rfl,hlt,a,b,c⟩,fun x H' y=>?_⟩
  obtain⟨rfl,rfl⟩:=hy i H x H' hlt s1 y
  refine⟨ur,hc i hlt _ _ s1 fun H2 s2=>⟨fun hb=>?_,fun hb=>?_⟩⟩
  ·have ha2:=s2 _ _ ha
   refine he acc i hlt hb _ _ (s1.trans s2) hacc (by rw[ha2];simp) fun v H3 s3 pv=>?_
   have hlen:ys.length<=i:=by
    rw[<- Paired.length hp]
    exact A9 (Bh _ _) (by simp)
   refine⟨s3 _ _ ha2,mK (by omega),hlt,((s1.trans s2).trans s3).put hacc,af,?_⟩
   rw[Bw,Bn]
   have e:Cp p [i]=[i]:=by simp[hb]
   rw[e]
   refine Paired.snoc (Paired.mapP hp fun k v q=>?_) ?_
   ·exact mono acc k v _ _ (mono acc k v _ _ q (s2.trans s3).but) SameBut.upd
   ·exact mono acc i v _ _ pv SameBut.upd
  ·refine⟨hlt,s1.trans s2,s2 _ _ ha,?_⟩
   rw[Bw,Bn]
   have e:Cp p [i]=[]:=by simp[hb]
   rw[e,BX]
   exact Paired.mapP hp fun k v q=>mono acc k v _ _ q s2.but
 ·have e:i=n:=BW hi (BK hlt)
  subst e
  exact .inl ⟨hst H s1,hQ acc ys H s1 hacc ha hp⟩
theorem i6 {H1:Hp} {js:List (Option Nat)} {σ:L2.St} {tc:TT} {te:TE} {Q:VK} {n:Nat} (p:Nat->Bool) (hn:n<100000)
  (hc:∀i:Nat,i<n->∀H2 R,Same H1 H2->(∀H3,Same H2 H3->R (p i) H3)->tc (some (.int (0+(i:Int))) :: bZ σ js) H2 R)
  (he:∀i:Nat,i<n->∀H2 R,R (.int ((i:Nat):Int)) H2->te (some (.int (0+(i:Int))) :: bZ σ js) H2 R)
  (hQ:∀acc H',Same H1 H'->H1 acc=none->H' acc=some (.lst (((AH n).filter p).map fun(i:Nat)=>V.int (i:Int)))->Q (.ref acc) H'):cE (pB 0 n) H1 (none :: js) (bT 0) tc te σ Q:=
 dO (J:=pB 0 n) (H1:=H1) (js:=js) (σ:=σ) (tc:=tc) (te:=te) (Q:=Q) n (fun i=> .int (0+(i:Int))) p (fun _ i v _=>v=V.int (i:Int)) hn (fun _ _ _ _ _ h _=>h)
  (fun _ _ h _=>h) (fun _ _=>AI _) (fun _ _ _ _ _ _ y=>y) hc (fun _ i hi _ H2 R s _ _ k=>he i hi H2 R (k _ H2 (Same.refl _) rfl))
  fun acc vs H' s n' e p=>hQ acc H' s n' (by rw[e,cY p])
theorem Same.seqT {K:PySem.W.Frag} {H H':Hp} {a:Addr} {xs:List V} (e:Same H H') (h:SqT K H a xs):SqT K H' a xs:=by
 rcases h with(h | ⟨o,h⟩) | h
 ·exact .inl (.inl (e _ _ h))
 ·exact .inl (.inr ⟨o,e _ _ h⟩)
 ·exact .inr h
theorem oH {K:PySem.W.Frag} {H1:Hp} {js:List (Option Nat)} {σ:L2.St} {tc:TT} {te:TE} {Q:VK} {a:Addr} {xs:List V} (p:Nat->Bool) (f:Nat->V) (hl:SqT K H1 a xs) (hn:xs.length<100000)
  (hc:∀(i:Nat) x,xs[i]?=some x->∀H2 R,Same H1 H2->(∀H3,Same H2 H3->R (p i) H3)->tc (some x :: bZ σ js) H2 R)
  (he:∀(i:Nat) x,xs[i]?=some x->p i=true->∀H2 R,Same H1 H2->(∀H3,Same H2 H3->R (f i) H3)->te (some x :: bZ σ js) H2 R)
  (hQ:∀acc H',Same H1 H'->H1 acc=none->H' acc=some (.lst (((AH xs.length).filter p).map f))->Q (.ref acc) H'):cE (wW K a) H1 (none :: js) (bT 0) tc te σ Q:=
 dO (J:=wW K a) (H1:=H1) (js:=js) (σ:=σ) (tc:=tc) (te:=te) (Q:=Q) xs.length (fun i=>xs.getD i .non) p (fun _ i v _=>v=f i) hn (fun _ _ _ _ _ h _=>h)
  (fun i H h s=>⟨xs,xs[i],Same.seqT s hl,by simp[h]⟩) (fun H s=>⟨xs,Same.seqT s hl,AI _⟩)
  (fun i H x H' h s y=>⟨y.1,by have e:=y.2 xs (Same.seqT s hl);simp[e]⟩)
  (fun i h H2 R s k=>hc i _ (by simp[h]) H2 R s k) (fun acc i h hp H2 R s n1 n2 k=>he i _ (by simp[h]) hp H2 R s fun H3 s3=>k _ H3 s3 rfl)
  fun acc vs H' s n' e p=>hQ acc H' s n' (by rw[e,cY p])
def vF (f:Nat->Int) (st:List Nat):Nat:=(dd (st.map f)).length
theorem bD {K:PySem.W.Frag} {H1:Hp} {js:List (Option Nat)} {σ:L2.St} {tc:TT} {te:TE} {Q:VK} {a:Addr} {xs:List V} (p:Nat->Bool) (f:Nat->V) (hl:SqL K H1 a xs) (hn:xs.length<100000)
  (hc:∀(i:Nat) x,xs[i]?=some x->∀H2 R,Same H1 H2->(∀H3,Same H2 H3->R (p i) H3)->tc (some x :: bZ σ js) H2 R)
  (he:∀(i:Nat) x,xs[i]?=some x->p i=true->∀H2 R,Same H1 H2->(∀H3,Same H2 H3->R (f i) H3)->te (some x :: bZ σ js) H2 R)
  (hQ:∀acc H',Same H1 H'->H1 acc=none->H' acc=some (.lst (((AH xs.length).filter p).map f))->Q (.ref acc) H'):cE (nW K a) H1 (none :: js) (bT 0) tc te σ Q:=
 dO (J:=nW K a) (H1:=H1) (js:=js) (σ:=σ) (tc:=tc) (te:=te) (Q:=Q) xs.length (fun i=>xs.getD i .non) p (fun _ i v _=>v=f i) hn (fun _ _ _ _ _ h _=>h)
  (fun i H h s=>⟨xs,xs[i],s.seq hl,by simp[h]⟩) (fun H s=>⟨xs,s.seq hl,AI _⟩)
  (fun i H x H' h s y=>⟨y.1,by have e:=y.2 xs (s.seq hl);simp[e]⟩)
  (fun i h H2 R s k=>hc i _ (by simp[h]) H2 R s k) (fun acc i h hp H2 R s n1 n2 k=>he i _ (by simp[h]) hp H2 R s fun H3 s3=>k _ H3 s3 rfl)
  fun acc vs H' s n' e p=>hQ acc H' s n' (by rw[e,cY p])
theorem zL {α:Type} {st:List Nat} {g:Nat->Bool} {F:Nat->α}:(((AH st.length).filter fun j=>g (st.getD j 0)).map fun j=>F (st.getD j 0))=(st.filter g).map F:=by
 have e0:st=(AH st.length).map fun i=>st.getD i 0:=by
  apply By
  ·simp
  ·intro i h1 h2;simp[h1]
 conv=>rhs;rw[e0]
 rw[Ce,A3]
 rfl
def brk (f:Nat->Int) (n:Nat) (wd:Str) (k:Int) (st:List Nat):Bool:=
 if wd="most" then decide (k<((vF f (st.filter fun i=>decide (i<n)):Nat):Int))else decide (((vF f (st.filter fun i=>decide (i<n)):Nat):Int)+(st.length:Int)-((st.filter fun i=>decide (i<n)).length:Int)<k)
def fx (hs:List Int) (x:Int):Nat:=hs.findIdx fun y=>decide (y=x)
def wx (hs:List Int) (k:Nat):Nat:=(dd (hs.take (fx hs (hs.getD k 0)))).length
def nP (hs:List Int):List Nat:=(AH hs.length).map (wx hs)
theorem gy {hs:List Int}:(nP hs).length=hs.length:=by unfold nP;simp
theorem qj {hs:List Int} {k:Nat} (h:k<hs.length):(nP hs)[k]?=some (wx hs k):=by
 unfold nP
 rw[AG,Bz h];rfl
theorem ju {H1:Hp} {js:List (Option Nat)} {σ:L2.St} {te:TE} {Q:VK} {n:Nat} (f:Nat->List V) (hn:n<100000)
  (he:∀i:Nat,i<n->∀H2 R,Same H1 H2->(∀r H3,Same H2 H3->H2 r=none->H3 r=some (.lst (f i))->R (.ref r) H3)->te (some (.int (0+(i:Int))) :: bZ σ js) H2 R)
  (hQ:∀acc (rs:List Addr) H',Same H1 H'->H1 acc=none->H' acc=some (.lst (rs.map V.ref))->rs.length=n->(∀(i:Nat) r,rs[i]?=some r->H' r=some (.lst (f i))/\H1 r=none)->(∀r∈rs,r≠acc)->Q (.ref acc) H'):
  cE (pB 0 n) H1 (none :: js) (bT 0) fN te σ Q:=
 dO (J:=pB 0 n) (H1:=H1) (js:=js) (σ:=σ) (tc:=fN) (te:=te) (Q:=Q) n (fun i=> .int (0+(i:Int))) (fun _=>true) (fun acc i v H=>∃r,v= .ref r/\r≠acc/\H1 r=none/\H r=some (.lst (f i))) hn
  (fun acc i v H H' ⟨r,e,n,h0,h⟩ s=>⟨r,e,n,h0,s r _ n h⟩) (fun _ _ h _=>h) (fun _ _=>AI _) (fun _ _ _ _ _ _ y=>y) (fun _ _ _ _ _ h=>h _ (Same.refl _))
  (fun acc i hi _ H2 R s n1 n2 k=>he i hi H2 R s fun r H3 s3 nr h3=>k _ H3 s3 ⟨r,rfl,fun z=>n2 (by rw[<- z];exact nr),s.free nr,h3⟩)
  fun acc vs H' s n' e p=>by
   rw[A8.mpr (fun _ _=>rfl)]at p
   have hl:vs.length=n:=by rw[<- Paired.length p,Bm]
   have all:∀(i:Nat) v,vs[i]?=some v->∃r,v= .ref r/\r≠acc/\H1 r=none/\H' r=some (.lst (f i)):=fun i v hv=>by
    obtain⟨k,hk,q⟩:=dw p hv
    have hi:i<n:=by rw[<- hl];exact(AF.mp hv).1
    rw[Bz hi]at hk
    cases hk
    exact q
   have ex:∃rs:List Addr,vs=rs.map V.ref:=by
    refine⟨vs.map fun v=>match v with | .ref r=>r | _=>0,?_⟩
    rw[A3]
    apply By
    ·simp
    ·intro i h1 h2
     obtain⟨r,er,_⟩:=all i vs[i] (AD h1)
     rw[BG]
     show vs[i]=V.ref (match vs[i]with | .ref r=>r | _=>0)
     rw[er]
   obtain⟨rs,rfl⟩:=ex
   rw[AC]at hl
   refine hQ acc rs H' s n' e hl (fun i r hr=>?_) fun r hr=>?_
   ·obtain⟨r',er,_,h1,h2⟩:=all i (.ref r) (by rw[AG,hr];rfl)
    cases er
    exact⟨h2,h1⟩
   ·obtain⟨i,hi,ei⟩:=AU.mp hr
    obtain⟨r',er,h0,_⟩:=all i (.ref r) (by rw[AG,AD hi,ei];rfl)
    cases er
    exact h0
theorem uQ {l r:List Int} {b:Int} (h:b∈l):fx (l++r) b=fx l b:=by
 have hl:fx l b<l.length:=Cm ⟨b,h,by simp⟩
 unfold fx at*
 rw[List.findIdx_append,if_pos hl]
theorem xW {l:List Int} {b:Int} (h:b∉l):fx (l++[b]) b=l.length:=by
 have hl:¬fx l b<l.length:=fun z=>by
  have:=List.findIdx_getElem (xs:=l) (p:=fun y=>decide (y=b)) (w:=z)
  exact h (by rw[<- of_decide_eq_true this];exact A1 _)
 unfold fx at*
 rw[List.findIdx_append,if_neg hl]
 simp[List.findIdx_cons]
theorem uR {l:List Int} {b:Int} (h:b∈l):fx l b<l.length:=Cm ⟨b,h,by simp⟩
section
variable {X:Cx}
end
def xX (hs:List Int) (b:Int):Nat:=(dd (hs.take (fx hs b))).length
theorem mW (hs:List Int):nP hs=hs.map (xX hs):=by
 apply By
 ·rw [gy,AC]
 ·intro i h1 h2
  rw[gy]at h1
  have:=qj h1
  rw[AD (by rw[gy];exact h1)]at this
  rw[Option.some.inj this,BG]
  unfold wx xX
  rw[aH h1]
theorem uS {hs:List Int} {k:Nat} (h:k<=hs.length):nP (hs.take k)=(nP hs).take k:=by
 rw[mW,mW,<- List.map_take]
 apply BR
 intro b hb
 have e:fx (hs.take k) b=fx hs b:=by
  have:=uQ (r:=hs.drop k) hb
  rw[Cn]at this
  exact this.symm
 unfold xX
 rw[e,List.take_take,B9]
 have:=uR hb
 rw[BE]at this
 omega
section
variable {X:Cx} {tg l:Expr} {tl:TE}
def zM (K:PySem.W.Frag) (tl:TE):TI:=fun σ H R=>tl σ H fun x H1=>∃a,x= .ref a/\((∃xs,SqL K H1 a xs)/\R (nW K a) H1\/(∃xs,SqT K H1 a xs)/\R (wW K a) H1)
theorem Ap (K:PySem.W.Frag) (hl:PE X l tl) (h:X.K=K:=by rfl):PI X tg l (zM K tl):=by
 subst h
 intro pins s σ H R I h
 refine bK (hl pins s σ H _ I h) fun v s1 hq__=>?_
 obtain⟨x,H1,I1,r1,q1⟩:=hq__
 obtain⟨a,e,q1⟩:=q1
 subst e
 cases r1
 rcases q1 with⟨⟨xs,hq⟩,q⟩ | ⟨⟨xs,hq⟩,q⟩
 ·obtain⟨its,rv,p,hz⟩:=I1.list hq
  refine wpAny_pyIter_list p.isList ?_
  refine⟨s1.heap.objs.size,[s1.heap.objs.size],_,_,H1,rfl,I1.kept (t':=s1.toks) fun b o e=>Heap.get?_push_of_some _ e,lG a _,⟨_,Heap.get?_push_size _ rfl,rfl,rfl⟩,fun b hb=>?_,q⟩
  have e:b=s1.heap.objs.size:=by simpa using hb
  subst e
  exact I1.fpOk (AI _) (I1.hok.fresh (AI _))
 ·obtain⟨its,rv,p,hz⟩:=I1.tuple hq
  refine wpAny_pyIter_tuple (show s1.heap.IsTuple a its.toArray from p) ?_
  refine⟨s1.heap.objs.size,[s1.heap.objs.size],_,_,H1,rfl,I1.kept (t':=s1.toks) fun b o e=>Heap.get?_push_of_some _ e,jV a _,⟨_,Heap.get?_push_size _ rfl,rfl,rfl⟩,fun b hb=>?_,q⟩
  have e:b=s1.heap.objs.size:=by simpa using hb
  subst e
  exact I1.fpOk (AI _) (I1.hok.fresh (AI _))
end
theorem gX {st:List Nat} {j:Nat} {x:V} (hx:(st.map fun(i:Nat)=>V.int (i:Int))[j]?=some x):∃d:Nat,st[j]?=some d/\x=V.int (d:Int)/\st.getD j 0=d:=by
 rw[AG]at hx
 obtain⟨b,h1,h2⟩:=AL.mp hx
 exact⟨b,h1,h2.symm,by rw[AE,h1];rfl⟩
theorem xY {d n:Nat}:decide (d<n)=decide ((d:Int)<(n:Int)):=by
 by_cases z:d<n
 ·rw [decide_eq_true z,decide_eq_true (by omega)]
 ·rw [decide_eq_false z,decide_eq_false (by omega)]
theorem uT {hs:List Int} {st:List Nat}:((AH (st.map fun(i:Nat)=>V.int (i:Int)).length).filter fun _=>true).map (fun j=>V.int (hs.getD (st.getD j 0) 0))=(st.map fun i=>hs.getD i 0).map V.int:=by
 rw[A8.mpr (fun _ _=>rfl),AC]
 apply By
 ·simp
 ·intro j h1 h2
  simp only[AC,Bm]at h1
  have:st.getD j 0=st[j]:=by simp only[AE,AD h1,Option.getD_some]
  simp only[BG,B6,this]
section
variable {X:Cx}
theorem wy:fk X (compareOp .IsNot) (fun x y H Q=>∃c d,x= .bl c/\y= .bl d/\Q (.bl (c != d)) H):=by
 intro pins s σ H x y v u Q I rx ry h
 obtain⟨c,d,rfl,rfl,q⟩:=h
 cases rx
 cases ry
 exact isnot_bool (aV I q rfl)
end
theorem kh {J:It} {H1:Hp} {js:List (Option Nat)} {σ:L2.St} {te:TE} {Q:VK} (n:Nat) (item:Nat->V) (P:Addr->List V->Hp->Prop) (hn:n<100000)
  (mono:∀acc ys H H',P acc ys H->SameBut acc H H'->P acc ys H') (h0:∀acc H,P acc [] H)
  (hgo:∀i H,i<n->Same H1 H->J.go i H) (hst:∀H,Same H1 H->J.stop n H) (hy:∀i H x H',i<n->Same H1 H->J.yld i H x H'->H'=H/\x=item i)
  (he:∀acc i ys H2 R,i<n->Same H1 H2->H1 acc=none->H2 acc=some (.lst ys)->ys.length=i->P acc ys H2->(∀v H3,Same H2 H3->P acc (ys++[v]) H3->R v H3)->te (some (item i) :: bZ σ js) H2 R)
  (hQ:∀acc ys H',Same H1 H'->H1 acc=none->H' acc=some (.lst ys)->ys.length=n->P acc ys H'->Q (.ref acc) H'):
  cE J H1 (none :: js) (bT 0) fN te σ Q:=by
 intro acc hacc
 refine⟨fun i m ys H=>m=n-i/\i<=n/\Same H1 H/\H acc=some (.lst ys)/\ys.length=i/\P acc ys H,⟨n,by simp,A0 _,Same.new hacc,af,rfl,h0 _ _⟩,?_⟩
 rintro i m ys H ⟨rfl,hi,s1,ha,hl,hp⟩
 by_cases hlt:i<n
 ·refine .inr ⟨hgo i H hlt s1,fun ys' H'=>i<n/\Same H1 H'/\H' acc=some (.lst ys')/\ys'.length=i+1/\P acc ys' H',fun ys' H' ⟨z,a,b,c,d⟩=>⟨n-(i+1),Bu _ _ hlt,rfl,hlt,a,b,c,d⟩,fun x H' y=>?_⟩
  obtain⟨rfl,rfl⟩:=hy i H x H' hlt s1 y
  refine⟨ur,⟨fun _=>?_,fun hb=>by cases hb⟩⟩
  refine he acc i ys _ _ hlt s1 hacc ha hl hp fun v H3 s3 pv=>?_
  refine⟨s3 _ _ ha,mK (by omega),hlt,(s1.trans s3).put hacc,af,by rw[AK,AS,hl],?_⟩
  exact mono acc _ _ _ pv SameBut.upd
 ·have e:i=n:=BW hi (BK hlt)
  subst e
  exact .inl ⟨hst H s1,hQ acc ys H s1 hacc ha hl hp⟩
theorem gA {K:PySem.W.Frag} {H1:Hp} {js:List (Option Nat)} {σ:L2.St} {te:TE} {Q:VK} {a:Addr} {xs:List V} (P:Addr->List V->Hp->Prop) (hl:SqL K H1 a xs) (hn:xs.length<100000)
  (mono:∀acc ys H H',P acc ys H->SameBut acc H H'->P acc ys H') (h0:∀acc H,P acc [] H)
  (he:∀acc (i:Nat) x ys H2 R,xs[i]?=some x->Same H1 H2->H1 acc=none->H2 acc=some (.lst ys)->ys.length=i->P acc ys H2->(∀v H3,Same H2 H3->P acc (ys++[v]) H3->R v H3)->te (some x :: bZ σ js) H2 R)
  (hQ:∀acc ys H',Same H1 H'->H1 acc=none->H' acc=some (.lst ys)->ys.length=xs.length->P acc ys H'->Q (.ref acc) H'):
  cE (nW K a) H1 (none :: js) (bT 0) fN te σ Q:=
 kh (J:=nW K a) (H1:=H1) (js:=js) (σ:=σ) (te:=te) (Q:=Q) xs.length (fun i=>xs.getD i .non) P hn mono h0
  (fun i H h s=>⟨xs,xs[i],s.seq hl,by simp[h]⟩) (fun H s=>⟨xs,s.seq hl,AI _⟩)
  (fun i H x H' h s y=>⟨y.1,by have e:=y.2 xs (s.seq hl);simp[e]⟩)
  (fun acc i ys H2 R h s n1 n2 ln p k=>he acc i _ ys H2 R (by simp[h]) s n1 n2 ln p k) hQ
theorem i7 {H1:Hp} {js:List (Option Nat)} {σ:L2.St} {te:TE} {Q:VK} {n:Nat} (P:Addr->List V->Hp->Prop) (hn:n<100000)
  (mono:∀acc ys H H',P acc ys H->SameBut acc H H'->P acc ys H') (h0:∀acc H,P acc [] H)
  (he:∀acc (i:Nat) ys H2 R,i<n->Same H1 H2->H1 acc=none->H2 acc=some (.lst ys)->ys.length=i->P acc ys H2->(∀v H3,Same H2 H3->P acc (ys++[v]) H3->R v H3)->te (some (.int (0+(i:Int))) :: bZ σ js) H2 R)
  (hQ:∀acc ys H',Same H1 H'->H1 acc=none->H' acc=some (.lst ys)->ys.length=n->P acc ys H'->Q (.ref acc) H'):
  cE (pB 0 n) H1 (none :: js) (bT 0) fN te σ Q:=
 kh (J:=pB 0 n) (H1:=H1) (js:=js) (σ:=σ) (te:=te) (Q:=Q) n (fun i=> .int (0+(i:Int))) P hn mono h0
  (fun _ _ h _=>h) (fun _ _=>AI _) (fun _ _ _ _ _ _ y=>y) he hQ
theorem oI {i j:Int}:decide (i=j)=decide (V.int i=V.int j):=by
 by_cases z:i=j
 ·simp [z]
 ·simp [z]
theorem bC {ns:List Int} {j:Nat} (h:j<ns.length):lL (ns.map V.int) (j:Int)=some (.int (ns.getD j 0)):=bw (by simp[h])
def RowsL (H:Hp) (rs:List Addr) (ps:List (List Int)):Prop:=Paired (fun r p=>H r=some (.lst (p.map V.int))) rs ps
theorem RowsL.len {H:Hp} {rs:List Addr} {ps:List (List Int)} (h:RowsL H rs ps):rs.length=ps.length:=Paired.length h
theorem RowsL.same {H H':Hp} {rs:List Addr} {ps:List (List Int)} (h:RowsL H rs ps) (s:Same H H'):RowsL H' rs ps:=Paired.mapP h fun _ _ q=>s _ _ q
theorem RowsL.pools {K:PySem.W.Frag} {H:Hp} {rs:List Addr} {ps:List (List Int)} (h:RowsL H rs ps):PoolsL K H rs ps:=Paired.mapP h fun _ _ q=>SqL.of q
theorem RowsL.at {H:Hp} {rs:List Addr} {ps:List (List Int)} (h:RowsL H rs ps) {i:Nat} {p:List Int} (e:ps[i]?=some p):∃r,rs[i]?=some r/\H r=some (.lst (p.map V.int)):=dw (F:=fun(r:Addr) (p:List Int)=>H r=some (.lst (p.map V.int))) h e
theorem RowsL.get {H:Hp} {rs:List Addr} {ps:List (List Int)} (h:RowsL H rs ps) {i:Nat} {r:Addr} (e:rs[i]?=some r):∃p,ps[i]?=some p/\H r=some (.lst (p.map V.int)):=by
 have hi:i<ps.length:=by rw[<- h.len];exact(AF.mp e).1
 obtain⟨r',e1,e2⟩:=h.at (AD hi)
 rw[e]at e1
 cases e1
 exact⟨_,AD hi,e2⟩
theorem RowsL.of {H:Hp} {rs:List Addr} {ps:List (List Int)} (hl:rs.length=ps.length) (h:∀(i:Nat) r p,rs[i]?=some r->ps[i]?=some p->H r=some (.lst (p.map V.int))):RowsL H rs ps:=cZ hl h
structure TieT (H:Hp) (x:Addr×Addr×Str×Int×List Nat):Prop where
 tp:H x.1=some (.tup [.str x.2.2.1,.int x.2.2.2.1,.ref x.2.1])
 ts:H x.2.1=some (.tup (x.2.2.2.2.map fun(i:Nat)=>V.int (i:Int)))
 wd:x.2.2.1="most"\/x.2.2.1="least"
 sl:x.2.2.2.2.length<=6
theorem TieT.same {H H':Hp} {x:Addr×Addr×Str×Int×List Nat} (h:TieT H x) (s:Same H H'):TieT H' x:=⟨s _ _ h.tp,s _ _ h.ts,h.wd,h.sl⟩
theorem TieT.put {H:Hp} {x:Addr×Addr×Str×Int×List Nat} {r:Addr} {xs ys:List V} (h:TieT H x) (hr:H r=some (.lst xs)):TieT (ay H r (.lst ys)) x:=by
 have n1:x.1≠r:=fun z=>by have:=h.tp;rw[z,hr]at this;cases this
 have n2:x.2.1≠r:=fun z=>by have:=h.ts;rw[z,hr]at this;cases this
 exact⟨by rw[aC n1];exact h.tp,by rw[aC n2];exact h.ts,h.wd,h.sl⟩
structure TieG (n:Nat) (x:Addr×Addr×Str×Int×List Nat):Prop where
 k1:1<=x.2.2.2.1
 k6:x.2.2.2.1<=6
 ne:x.2.2.2.2≠[]
 lt:∀i∈x.2.2.2.2,i<n
 up:x.2.2.2.2.Pairwise (· < ·)
structure Ties (K:PySem.W.Frag) (H:Hp) (b:Addr) (ts:List (Addr×Addr×Str×Int×List Nat)) (n:Nat):Prop where
 ls:SqL K H b (ts.map fun x=>V.ref x.1)
 ea:∀x∈ts,TieT H x
 ln:ts.length<=n
def oJ (f:Nat->Int) (n:Nat) (ts:List (Addr×Addr×Str×Int×List Nat)):Option Nat:=ts.findIdx? fun x=>brk f n x.2.2.1 x.2.2.2.1 x.2.2.2.2
structure Drawn (H:Hp) (l m L T:Addr) (ms:List Int) (rs:List Addr) (ps:List (List Int)) (ts:List (Addr×Addr×Str×Int×List Nat)) (top:Nat):Prop where
 hl:H l=some (.lst [.ref m,.ref L,.ref T])
 hm:H m=some (.lst (ms.map V.int))
 hL:H L=some (.lst (rs.map V.ref))
 hT:H T=some (.lst (ts.map fun x=>V.ref x.1))
 rows:RowsL H rs ps
 mup:ms.Pairwise (· < ·)
 mne:ms≠[]
 m8:ms.length<=8
 mb:∀b∈ms,1<=b/\b<=10^18
 pup:∀p∈ps,p.Pairwise (· < ·)
 psub:∀p∈ps,∀b∈p,b∈ms
 p1:1<=ps.length
 ptop:ps.length<=top
 p6:ps.length<=6
 tea:∀x∈ts,TieT H x
 tg:∀x∈ts,TieG ps.length x
 t12:ts.length<=12
theorem yS {l r:List Int} (h:∀x∈l,x∈r):(dd l).length<=(dd r).length:=(jq l).length_le_of_subset fun x hx=>bI.mpr (h x (bI.mp hx))
def kp (f:Nat->Int) (wd:Str) (k:Int) (st:List Nat):Bool:=if wd="most" then decide (((vF f st:Nat):Int)<=k)else decide (k<=((vF f st:Nat):Int))
theorem wz {hs:List Int} {i:Nat} (h:i<hs.length):((nP hs).map fun(i:Nat)=>(i:Int)).getD i 0=(xX hs (hs.getD i 0):Int):=by
 rw[mW,A3]
 simp[h,AE]
theorem oK (l:List Int) (x:Int):(dd (l++[x])).length=if x∈l then(dd l).length else(dd l).length+1:=by
 rw[mP]
 unfold cL
 by_cases h:x∈l
 ·rw [if_pos h,if_pos (bI.mpr h)]
 ·rw [if_neg h,if_neg fun z=>h (bI.mp z),AK,AS]
def bR (p:List Int):Prop:=p=(nP p).map fun(i:Nat)=>(i:Int)
theorem xZ {hs:List Int} {k:Nat} (h:k<hs.length):wx hs k<(dd hs).length:=by
 unfold wx
 have m:hs.getD k 0∈hs:=by rw[aH h];exact A1 h
 have a:=uR m
 have nm:hs.getD k 0∉hs.take (fx hs (hs.getD k 0)):=fun z=>by
  obtain⟨i,hi,e⟩:=AU.mp z
  rw[BE]at hi
  have:=List.not_of_lt_findIdx (show i<fx hs (hs.getD k 0) by omega)
  rw[CB]at e
  simp at this
  exact this (by rw[e,AE])
 have e:=oK (hs.take (fx hs (hs.getD k 0))) (hs.getD k 0)
 rw[if_neg nm]at e
 have:=yS (l:=hs.take (fx hs (hs.getD k 0))++[hs.getD k 0]) (r:=hs) fun x hx=>by
  rcases AZ.mp hx with z | z
  ·exact List.mem_of_mem_take z
  ·rw [AN.mp z];exact m
 omega
theorem uU (p:List Int) (x:Int):nP (p++[x])=nP p++[if x∈p then xX p x else(dd p).length]:=by
 have h1:(nP (p++[x])).take p.length=nP p:=by
  rw[<- uS (by simp),List.take_left'];rfl
 have h2:(nP (p++[x]))[p.length]?=some (wx (p++[x]) p.length):=qj (by simp)
 have e:nP (p++[x])=(nP (p++[x])).take p.length++[wx (p++[x]) p.length]:=by
  have hlen:(nP (p++[x])).length=p.length+1:=by rw[gy];simp
  conv=>lhs;rw[<- Cn p.length (nP (p++[x]))]
  congr 1
  apply List.ext_getElem?
  intro i
  rw[List.getElem?_drop]
  cases i with
  | zero=>rw[Nat.add_zero,h2];rfl
  | succ i=>
   rw[BI (by omega)]
   simp
 rw[e,h1]
 congr 2
 have eg:(p++[x]).getD p.length 0=x:=by simp[AE]
 unfold wx
 rw[eg]
 by_cases z:x∈p
 ·rw [if_pos z,uQ z]
  unfold xX
  rw[List.take_append_of_le_length (BC (uR z))]
 ·rw [if_neg z,xW z,List.take_left'];rfl
theorem sE {p:List Int} (c:bR p) {j:Nat} (h:(j:Int)∈p):xX p (j:Int)=j:=by
 obtain⟨i,hi,e⟩:=AU.mp h
 have g:=wz hi
 rw[<- c,aH hi,e]at g
 omega
theorem sF {p:List Int} (c:bR p) {x:Int} (h:x∈p):∃j:Nat,x=(j:Int)/\j<(dd p).length:=by
 rw[c]at h
 obtain⟨j,hj,e⟩:=Br.mp h
 obtain⟨i,hi,e2⟩:=AU.mp hj
 rw[gy]at hi
 have g:=qj hi
 rw[AD (by rw[gy];exact hi),e2]at g
 have:=xZ hi
 refine⟨j,e.symm,?_⟩
 have:j=wx p i:=Option.some.inj g
 omega
theorem i8 {p:List Int} (c:bR p) {j:Nat} (h:j<(dd p).length):(j:Int)∈p:=by
 refine Decidable.byContradiction fun n=>?_
 have:=(jq p).length_le_of_subset (l₂:=((AH (dd p).length).filter fun i=>decide (i≠j)).map fun(i:Nat)=>(i:Int)) fun x hx=>by
  have hx:=bI.mp hx
  obtain⟨i,e,hi⟩:=sF c hx
  refine Br.mpr ⟨i,Bj.mpr ⟨Bb.mpr hi,decide_eq_true fun z=>n ?_⟩,e.symm⟩
  rw[<- z,<- e];exact hx
 rw[AC]at this
 have lt:((AH (dd p).length).filter fun i=>decide (i≠j)).length<(AH (dd p).length).length:=by
  refine Nat.lt_of_le_of_ne (Bh _ _) fun z=>?_
  have:=List.length_filter_eq_length_iff.mp z j (Bb.mpr h)
  simp at this
 rw[Bm]at lt
 omega
theorem eZ:bR []:=rfl
theorem dP {p:List Int} (c:bR p) {j:Nat} (h:j<=(dd p).length):bR (p++[(j:Int)]):=by
 unfold bR
 rw[uU,AW,<- c]
 congr 1
 by_cases z:(j:Int)∈p
 ·rw [if_pos z,sE c z];rfl
 ·rw [if_neg z]
  have:¬j<(dd p).length:=fun y=>z (i8 c y)
  have:j=(dd p).length:=by omega
  rw[this];rfl
def aU (p:List Int) (b:Nat):List Nat:=(AH p.length).filter fun i=>decide (p.getD i 0=(b:Int))
theorem dQ {p:List Int} {b i:Nat}:i∈aU p b<->i<p.length/\p.getD i 0=(b:Int):=by
 unfold aU
 rw[Bj,Bb,decide_eq_true_iff]
theorem cM {p:List Int} (c:bR p) {b:Nat} (h:b<(dd p).length):aU p b≠[]:=by
 obtain⟨i,hi,e⟩:=AU.mp (i8 c h)
 intro z
 have:i∈aU p b:=dQ.mpr ⟨hi,by rw[aH hi,e]⟩
 rw[z]at this
 cases this
def e8 (st:List Nat) (may:List (List Int)):List Int:=(may.getD (st.getD 0 0) []).filter fun x=>st.all fun s=>decide (x∈may.getD s [])
def e9 (may:List (List Int)) (p:List Int) (b:Nat):List Int:=e8 (aU p b) may
def l8 (may:List (List Int)) (p:List Int):List (List Int):=(AH (dd p).length).map (e9 may p)
theorem l9 {may:List (List Int)} {p:List Int}:(l8 may p).length=(dd p).length:=by unfold l8;simp
theorem iE {may:List (List Int)} {p:List Int} {b:Nat} (h:b<(dd p).length):(l8 may p)[b]?=some (e9 may p b):=by
 unfold l8
 rw[AG,Bz h];rfl
theorem gB {st:List Nat} {may:List (List Int)} {x:Int} (h:st≠[]):x∈e8 st may<->∀s∈st,x∈may.getD s []:=by
 unfold e8
 rw[Bj,AX]
 constructor
 ·intro⟨_,a⟩ s hs
  exact of_decide_eq_true (a s hs)
 ·intro a
  refine⟨a _ ?_,fun s hs=>decide_eq_true (a s hs)⟩
  cases st with
  | nil=>exact absurd rfl h
  | cons s r=>simp
theorem sG {may:List (List Int)} {p:List Int} {b:Nat} {x:Int} (c:bR p) (h:b<(dd p).length):x∈e9 may p b<->∀i,i<p.length->p.getD i 0=(b:Int)->x∈may.getD i []:=by
 unfold e9
 rw[gB (cM c h)]
 exact⟨fun a i h1 h2=>a i (dQ.mpr ⟨h1,h2⟩),fun a s hs=>a s (dQ.mp hs).1 (dQ.mp hs).2⟩
theorem ki {st:List Nat} {may:List (List Int)} (h:∀p∈may,p.Pairwise (· < ·)):(e8 st may).Pairwise (· < ·):=by
 unfold e8
 refine List.Pairwise.filter _ ?_
 by_cases z:st.getD 0 0<may.length
 ·have:may.getD (st.getD 0 0) []=may[st.getD 0 0]:=by rw[AE,AD z];rfl
  rw[this]
  exact h _ (A1 z)
 ·have:may.getD (st.getD 0 0) []=[]:=by rw[AE,BI (by omega)];rfl
  rw[this];exact List.Pairwise.nil
abbrev qY:=Str×Int×List Nat
structure IsPlan (may:List (List Int)) (ts:List qY) (hs:List Int):Prop where
 len:hs.length=may.length
 of:∀i,i<hs.length->hs.getD i 0∈may.getD i []
 kp:∀t∈ts,kp (fun i=>hs.getD i 0) t.1 t.2.1 t.2.2=true
theorem uV:∀{l r:List Int},l.Pairwise (· < ·)->r.Pairwise (· < ·)->(∀x,x∈l<->x∈r)->l=r:=by
 intro l
 induction l with
 | nil=>
  intro r _ _ h
  cases r with
  | nil=>rfl
  | cons b r=>have:=(h b).mpr A7;cases this
 | cons a l ih=>
  intro r hl hr h
  cases r with
  | nil=>have:=(h a).mp A7;cases this
  | cons b r=>
   rw[List.pairwise_cons]at hl hr
   have e:a=b:=by
    rcases AR.mp ((h a).mp A7)with z | z
    ·exact z
    ·rcases AR.mp ((h b).mpr A7)with y | y
     ·exact y.symm
     ·exact absurd (Int.lt_trans (hr.1 a z) (hl.1 b y)) (Int.lt_irrefl _)
   subst e
   rw[ih hl.2 hr.2 fun x=>?_]
   constructor
   ·intro hx
    rcases AR.mp ((h x).mp (AY _ hx))with z | z
    ·exact absurd (hl.1 x hx) (by rw[z];exact Int.lt_irrefl _)
    ·exact z
   ·intro hx
    rcases AR.mp ((h x).mpr (AY _ hx))with z | z
    ·exact absurd (hr.1 x hx) (by rw[z];exact Int.lt_irrefl _)
    ·exact z
def Aq (way:Nat) (x:Int) (F S:List Int):Prop:=if way=0 then x∈F/\x∈S else if way=1 then x∈F\/x∈S else x∈F/\x∉S
theorem mX {ks:List Int} (h:ks.Pairwise (· <= ·)) (nd:ks.Nodup):ks.Pairwise (· < ·):=
 (h.and (List.nodup_iff_pairwise_ne.mp nd)).imp fun⟨a,b⟩=>by omega
def yT (H H':Hp) (l:Addr) (way:Nat) (F S ks:List Int):Prop:=Same H H'/\H l=none/\H' l=some (.lst (ks.map V.int))/\ks.Pairwise (· < ·)/\∀x,x∈ks<->Aq way x F S
structure Both (K:PySem.W.Frag) (H:Hp) (a b:Addr) (F S U:List Int):Prop where
 fa:SqL K H a (F.map V.int)
 sb:SqL K H b (S.map V.int)
 pf:F.Pairwise (· < ·)
 ps:S.Pairwise (· < ·)
 fu:∀x∈F,x∈U
 su:∀x∈S,x∈U
 ul:U.length<=60
theorem jv {F:List Int} (h:F.Pairwise (· < ·)):F.Nodup:=h.imp fun h=>Int.ne_of_lt h
theorem Both.l1 {K:PySem.W.Frag} {H:Hp} {a b:Addr} {F S U:List Int} (h:Both K H a b F S U):F.length<=60:=A9 ((jv h.pf).length_le_of_subset h.fu) h.ul
theorem Both.l2 {K:PySem.W.Frag} {H:Hp} {a b:Addr} {F S U:List Int} (h:Both K H a b F S U):S.length<=60:=A9 ((jv h.ps).length_le_of_subset h.su) h.ul
def Ab (K:PySem.W.Frag) (way:Nat):Sp:=fun vs H Q _=>∃(a b:Addr) (F S U:List Int),vs=[.ref a,.ref b]/\Both K H a b F S U/\∀l ks H',yT H H' l way F S ks->Q (.ref l) H'
structure May (K:PySem.W.Frag) (H:Hp) (a:Addr) (rs:List Addr) (may:List (List Int)) (U:List Int):Prop where
 ls:SqL K H a (rs.map V.ref)
 po:PoolsL K H rs may
 up:∀p∈may,p.Pairwise (· < ·)
 sub:∀p∈may,∀b∈p,b∈U
 m6:may.length<=6
 u20:U.length<=26
theorem May.same {K:PySem.W.Frag} {H H':Hp} {a:Addr} {rs:List Addr} {may:List (List Int)} {U:List Int} (m:May K H a rs may U) (s:Same H H'):May K H' a rs may U:=⟨s.seq m.ls,m.po.same s,m.up,m.sub,m.m6,m.u20⟩
theorem May.rows {K:PySem.W.Frag} {H:Hp} {a:Addr} {rs:List Addr} {may:List (List Int)} {U:List Int} (m:May K H a rs may U) {i:Nat} (h:i<may.length):∃r,rs[i]?=some r/\SqL K H r ((may.getD i []).map V.int)/\(may.getD i []).Pairwise (· < ·)/\∀b∈may.getD i [],b∈U:=by
 have e:may.getD i []=may[i]:=i4 h
 obtain⟨r,e1,e2⟩:=m.po.at (AD h)
 rw[e]
 exact⟨r,e1,e2,m.up _ (A1 h),m.sub _ (A1 h)⟩
theorem qk {st:List Nat} {may:List (List Int)} {s:Nat} (h:st≠[]) (x:Int):x∈e8 (st++[s]) may<->x∈e8 st may/\x∈may.getD s []:=by
 rw[gB (by simp),gB h]
 constructor
 ·exact fun a=>⟨fun t ht=>a t (BM _ ht),a s (by simp)⟩
 ·rintro⟨a,b⟩ t ht
  rcases AZ.mp ht with z | z
  ·exact a t z
  ·rw [AN.mp z];exact b
theorem sJ {may:List (List Int)} {s:Nat}:e8 [s] may=may.getD s []:=by
 unfold e8
 show(may.getD s []).filter _=_
 refine A8.mpr fun x hx=>?_
 simp only[List.all_cons,List.all_nil,Bool.and_true]
 exact decide_eq_true hx
theorem cN {st:List Int} {j:Nat} {x:V} (hx:(st.map V.int)[j]?=some x):∃d:Int,st[j]?=some d/\x=V.int d/\st.getD j 0=d:=by
 rw[AG]at hx
 obtain⟨b,h1,h2⟩:=AL.mp hx
 exact⟨b,h1,h2.symm,by rw[AE,h1];rfl⟩
theorem xf {x y:Option V} {σ:St}:v8 (none :: none :: σ) (x :: y :: σ):=⟨rfl,fun i v e=>by
 cases i with
 | zero=>cases e
 | succ i=>
  cases i with
  | zero=>cases e
  | succ i=>exact e⟩
theorem uW {K:PySem.W.Frag} {H1:Hp} {js:List (Option Nat)} {σ:L2.St} {te:TE} {Q:VK} {a b:Addr} {xs ys:List V} (P:Addr->List V->Hp->Prop) (hl:xs.length=ys.length) (h1:SqL K H1 a xs) (h2:SqL K H1 b ys) (hn:xs.length<100000)
  (mono:∀acc ys H H',P acc ys H->SameBut acc H H'->P acc ys H') (h0:∀acc H,P acc [] H)
  (he:∀acc (i:Nat) x y zs H2 R,xs[i]?=some x->ys[i]?=some y->Same H1 H2->H1 acc=none->H2 acc=some (.lst zs)->zs.length=i->P acc zs H2->(∀v H3,Same H2 H3->P acc (zs++[v]) H3->R v H3)->te (some x :: some y :: bZ σ js) H2 R)
  (hQ:∀acc zs H',Same H1 H'->H1 acc=none->H' acc=some (.lst zs)->zs.length=xs.length->P acc zs H'->Q (.ref acc) H'):
  cE (zg K a b) H1 (none :: none :: js) (rH K 2 (ij (bT 0) (ij (bT 1) t7))) fN te σ Q:=by
 intro acc hacc
 refine⟨fun i m zs H=>m=xs.length-i/\i<=xs.length/\Same H1 H/\H acc=some (.lst zs)/\zs.length=i/\P acc zs H,⟨xs.length,by simp,A0 _,Same.new hacc,af,rfl,h0 _ _⟩,?_⟩
 rintro i m zs H ⟨rfl,hi,s1,ha,hz,hp⟩
 have w1:=s1.seq h1
 have w2:=s1.seq h2
 by_cases hlt:i<xs.length
 ·have hlt2:i<ys.length:=by omega
  refine .inr ⟨⟨xs,ys,xs[i],ys[i],w1,w2,AD hlt,AD hlt2⟩,fun zs' H'=>i<xs.length/\Same H1 H'/\H' acc=some (.lst zs')/\zs'.length=i+1/\P acc zs' H',fun zs' H' ⟨z,a,b,c,d⟩=>⟨xs.length-(i+1),Bu _ _ hlt,rfl,hlt,a,b,c,d⟩,fun v H' y=>?_⟩
  obtain⟨q,x,y,hq,e1,e2,e3,e4⟩:=y
  subst e3 e4
  have sq:=Same.new (o:= .tup [x,y]) hq
  refine⟨q,[x,y],rfl,SqT.of af,rfl,x,[y],rfl,y,[],rfl,rfl,xf,fun _=>?_,fun hb=>by cases hb⟩
  refine he acc i x y zs _ _ (e1 xs w1) (e2 ys w2) (s1.trans sq) hacc (sq _ _ ha) hz (mono _ _ _ _ hp sq.but) fun v H3 s3 pv=>?_
  have s13:=(s1.trans sq).trans s3
  refine⟨s3 _ _ (sq _ _ ha),mK (by omega),hlt,s13.put hacc,af,by rw[AK,AS,hz],?_⟩
  exact mono acc _ _ _ pv SameBut.upd
 ·have e:i=xs.length:=BW hi (BK hlt)
  subst e
  exact .inl ⟨⟨xs,ys,w1,w2,AI _⟩,hQ acc zs H s1 hacc ha hz hp⟩
theorem i9 {K:PySem.W.Frag} {H1:Hp} {js:List (Option Nat)} {σ:L2.St} {te:TE} {Q:VK} {a b:Addr} {xs ys:List V} (f:Nat->V) (hl:xs.length=ys.length) (h1:SqL K H1 a xs) (h2:SqL K H1 b ys) (hn:xs.length<100000)
  (he:∀(i:Nat) x y H2 R,xs[i]?=some x->ys[i]?=some y->Same H1 H2->(∀H3,Same H2 H3->R (f i) H3)->te (some x :: some y :: bZ σ js) H2 R)
  (hQ:∀acc H',Same H1 H'->H1 acc=none->H' acc=some (.lst ((AH xs.length).map f))->Q (.ref acc) H'):
  cE (zg K a b) H1 (none :: none :: js) (rH K 2 (ij (bT 0) (ij (bT 1) t7))) fN te σ Q:=
 uW (fun _ zs _=>zs=(AH zs.length).map f) hl h1 h2 hn (fun _ _ _ _ h _=>h) (fun _ _=>rfl)
  (fun acc i x y zs H2 R ex ey s _ _ hz hp k=>he i x y H2 R ex ey s fun H3 s3=>k _ H3 s3 (by
   rw[AK,AS,Bw,AW,<- hp,hz];rfl))
  fun acc zs H' s n e hz hp=>hQ acc H' s n (by rw[e,<- hz,<- hp])
def hV:Option Int->V
 | none=> .non
 | some b=> .int b
theorem uX {h:Option Int}:decide (hV h=V.non)=h.isNone:=by cases h<;>rfl
theorem iF {K:PySem.W.Frag} {H:Hp} {d:Nat} {a b:Addr} {xs ys:List V} (h1:SqL K H a xs) (h2:SqL K H b ys) (hl:xs.length=ys.length) (he:∀(j:Nat) x y,xs[j]?=some x->ys[j]?=some y->DEq K H d x y true):DEq K H (d+1) (.ref a) (.ref b) true:=by
 have q:=DEq.lst (e:=fun _=>true) h1 h2 hl he
 rw[show((AH xs.length).all fun _=>true)=true from by simp]at q
 exact q
theorem fb {K:PySem.W.Frag} {H:Hp} {d:Nat} {a b:Addr} {xs ys:List V} (h1:SqT K H a xs) (h2:SqT K H b ys) (hl:xs.length=ys.length) (he:∀(j:Nat) x y,xs[j]?=some x->ys[j]?=some y->DEq K H d x y true):DEq K H (d+1) (.ref a) (.ref b) true:=by
 have q:=DEq.tup (e:=fun _=>true) h1 h2 he
 rw[show((AH (min xs.length ys.length)).all (fun _=>true)&&xs.length==ys.length)=true from by simp[hl]]at q
 exact q
theorem cF {K:PySem.W.Frag} {H:Hp} {d:Nat} {x:V} (f:dI x=true):DEq K H d x x true:=by
 have q:=DEq.flat (K:=K) (H:=H) (d:=d) f f
 rw[j6 f]at q
 exact q
theorem oM {K:PySem.W.Frag} {H:Hp} {d:Nat} {a b:Addr} {ps:List Int} (h1:SqL K H a (ps.map V.int)) (h2:SqL K H b (ps.map V.int)):DEq K H (d+1) (.ref a) (.ref b) true:=
 iF h1 h2 rfl fun j x y ex ey=>by
  rw[ex]at ey
  cases ey
  obtain⟨i,_,e⟩:=Br.mp (AJ ex)
  rw[<- e]
  exact cF rfl
theorem DEq.up {K:PySem.W.Frag} {H:Hp} {d:Nat} {x y:V} {b:Bool} (h:DEq K H d x y b):DEq K H (d+1) x y b:=by
 induction h with
 | flat fx fy=>exact .flat fx fy
 | lst h1 h2 hl he ih=>exact .lst h1 h2 hl ih
 | len h1 h2 hl=>exact .len h1 h2 hl
 | tup h1 h2 he ih=>exact .tup h1 h2 ih
def dy (x:Addr×Addr×Str×Int×List Nat):qY:=x.2.2
theorem ql {α β:Type} {ts:List α} {f:α->β} {g:Nat->β} (h:∀(i:Nat) x,ts[i]?=some x->g i=f x):(AH ts.length).map g=ts.map f:=by
 apply List.ext_getElem?
 intro i
 rw[AG,AG]
 by_cases l:i<ts.length
 ·rw [Bz l,AD l]
  show some (g i)=some (f ts[i])
  rw[h i _ (AD l)]
 ·rw [BI (by simp;omega),BI (by omega)];rfl
def nw (H H':Hp):Hp:=fun a=>match H a with
 | none=>H' a
 | some _=>none
theorem jU {H H':Hp} {a:Addr} {o:HO} (h:nw H H' a=some o):H a=none/\H' a=some o:=by
 unfold nw at h
 cases e:H a with
 | none=>rw[e]at h;exact⟨rfl,h⟩
 | some x=>rw[e]at h;cases h
theorem dR {H H':Hp} {a:Addr} {o:HO} (h1:H a=none) (h2:H' a=some o):nw H H' a=some o:=by
 unfold nw
 rw[h1];exact h2
theorem qZ {H H':Hp}:Same (nw H H') H':=fun b o e=>(jU e).2
theorem sL {may:List (List Int)} {p:List Int} {U:List Int} (c:bR p) (hl:p.length<=may.length) (h:∀q∈may,∀b∈q,b∈U):∀q∈l8 may p,∀b∈q,b∈U:=fun q hq b hb=>by
 obtain⟨i,hi,e⟩:=AU.mp hq
 have hi2:=hi
 rw[l9]at hi2
 have g:=iE (may:=may) hi2
 rw[AD hi,e]at g
 cases g
 obtain⟨j,hj,ej⟩:=AU.mp (i8 c hi2)
 have:=(sG c hi2).mp hb j hj (by rw[aH hj,ej])
 have hj2:j<may.length:=by omega
 rw[i4 hj2]at this
 exact h _ (A1 hj2) b this
def mY (c:Addr) (H:Hp):Hp:=fun a=>if a=c then none else H a
theorem md {c a:Addr} {H:Hp} {o:HO} (h:mY c H a=some o):a≠c/\H a=some o:=by
 unfold mY at h
 by_cases z:a=c
 ·rw [if_pos z]at h;cases h
 ·rw [if_neg z]at h;exact⟨z,h⟩
theorem RowsL.but {H H':Hp} {rs:List Addr} {ps:List (List Int)} {acc:Addr} (h:RowsL H rs ps) (n:∀r∈rs,r≠acc) (s:SameBut acc H H'):RowsL H' rs ps:=RowsL.of h.len fun i r p e1 e2=>by
 obtain⟨p2,g1,g2⟩:=h.get e1
 rw[e2]at g1
 cases g1
 exact s r _ (n r (AJ e1)) g2
section
variable {X:Cx}
end
inductive GPap where
 | tie (j:Int)
 | short (bs:List Int)
 | split (ps:List GPap)
instance:Inhabited GPap:=⟨.tie 0⟩
inductive GPapAt (H:Hp):V->GPap->Prop where
 | tie {t:Addr} {j:Int} (ht:H t=some (.tup [.str "tie",.int j])):GPapAt H (.ref t) (.tie j)
 | short {t l:Addr} {bs:List Int} (ht:H t=some (.tup [.str "short",.ref l])) (hl:H l=some (.lst (bs.map V.int))):GPapAt H (.ref t) (.short bs)
 | split {t l:Addr} {vs:List V} {ps:List GPap} (ht:H t=some (.tup [.str "split",.ref l])) (hl:H l=some (.lst vs)) (hn:vs.length=ps.length) (h:∀(i:Nat) v q,vs[i]?=some v->ps[i]?=some q->GPapAt H v q):GPapAt H (.ref t) (.split ps)
theorem GPapAt.same {H H':Hp} {v:V} {q:GPap} (p:GPapAt H v q) (s:Same H H'):GPapAt H' v q:=by
 induction p with
 | tie ht=>exact .tie (s _ _ ht)
 | short ht hl=>exact .short (s _ _ ht) (s _ _ hl)
 | split ht hl hn h ih=>exact .split (s _ _ ht) (s _ _ hl) hn fun i v q e1 e2=>ih i v q e1 e2
def jK (ns:List Int):Bool:=(AH (ns.length-1)).all fun k=>decide (ns.getD k 0<ns.getD (k+1) 0)
theorem iG {ns:List Int}:jK ns=true<->ns.Pairwise (· < ·):=by
 unfold jK
 rw[AX]
 constructor
 ·intro h
  have st:∀i,i+1<ns.length->ns.getD i 0<ns.getD (i+1) 0:=fun i hi=>of_decide_eq_true (h i (Bb.mpr (by omega)))
  have lt:∀d i,i+d+1<ns.length->ns.getD i 0<ns.getD (i+d+1) 0:=by
   intro d
   induction d with
   | zero=>intro i hi;exact st i hi
   | succ d ih=>intro i hi;exact Int.lt_trans (ih i (by omega)) (st (i+d+1) (by omega))
  rw[Bv]
  intro i j h1 h2 h3
  have:=lt (j-i-1) i (by omega)
  have e:i+(j-i-1)+1=j:=by omega
  rw[e,aH h1,aH h2]at this
  exact this
 ·intro h i hi
  have:=Bb.mp hi
  have:=Bv.mp h i (i+1) (by omega) (by omega) (by omega)
  rw[aH (by omega),aH (by omega)]
  exact decide_eq_true this
def c0 (may:List (List Int)) (p:List Int) (bs:List Int):List Int:=bs.flatMap fun b=>e9 may p b.toNat
def ym (p:List Int) (bs:List Int):Bool:=bs.all fun b=>decide (0<=b/\b<(((dd p).length:Nat):Int))
def cO (may:List (List Int)) (p:List Int) (bs:List Int):Bool:=jK bs&&ym p bs&&decide ((dd (c0 may p bs)).length<bs.length)
inductive ShowsIs (may:List (List Int)) (ts:List qY):List Int->GPap->Bool->Prop where
 | tie {p:List Int} {j:Int} {t:qY} (h0:0<=j) (h:ts[j.toNat]?=some t):ShowsIs may ts p (.tie j) (brk (fun i=>p.getD i 0) p.length t.1 t.2.1 t.2.2)
 | noTie {p:List Int} {j:Int} (h:¬(0<=j/\j<(ts.length:Int))):ShowsIs may ts p (.tie j) false
 | short {p:List Int} {bs:List Int}:ShowsIs may ts p (.short bs) (cO may p bs)
 | noSplit {p:List Int} {ps:List GPap} (h:¬(p.length<may.length/\ps.length=(dd p).length+1)):ShowsIs may ts p (.split ps) false
 | split {p:List Int} {ps:List GPap} {bs:List Bool} (hl:p.length<may.length) (hn:ps.length=(dd p).length+1) (hb:bs.length=ps.length) (h:∀(j:Nat) (q:GPap) (b:Bool),ps[j]?=some q->bs[j]?=some b->ShowsIs may ts (p++[(j:Int)]) q b):ShowsIs may ts p (.split ps) (bs.all id)
inductive GBnd:GPap->Prop where
 | tie {j:Int}:GBnd (.tie j)
 | short {bs:List Int} (h:bs.length<=1000):GBnd (.short bs)
 | split {ps:List GPap} (h:∀q∈ps,GBnd q):GBnd (.split ps)
theorem gD (n:Nat): -(2^62)<=((n:Nat):Int):=by omega
theorem sP (c:Int) {n:Nat} (h:0<n):∃m:Nat,m<n/\c%((n:Nat):Int)=((m:Nat):Int):=by
 have w1:=B2 c (show((n:Nat):Int)≠0 by omega)
 have w2:=B0 c (show(0:Int)<((n:Nat):Int) by omega)
 exact⟨(c%((n:Nat):Int)).toNat,by omega,by omega⟩
theorem Ar {α:Type} {us:List α} (hl:us.length=1):∃a,us=[a]:=by
 match us,hl with
 | [a],_=>exact⟨a,rfl⟩
theorem As {α:Type} {us:List α} (hl:us.length=2):∃a b,us=[a,b]:=by
 match us,hl with
 | [a,b],_=>exact⟨a,b,rfl⟩
theorem Au {α:Type} {us:List α} (hl:us.length=3):∃a b c,us=[a,b,c]:=by
 match us,hl with
 | [a,b,c],_=>exact⟨a,b,c,rfl⟩
theorem Av {α:Type} {us:List α} (hl:us.length=4):∃a b c d,us=[a,b,c,d]:=by
 match us,hl with
 | [a,b,c,d],_=>exact⟨a,b,c,d,rfl⟩
theorem Aw {α:Type} {us:List α} (hl:us.length=5):∃a b c d e,us=[a,b,c,d,e]:=by
 match us,hl with
 | [a,b,c,d,e],_=>exact⟨a,b,c,d,e,rfl⟩
theorem jw (ns:List Int):∀k,k<=ns.length->preSum (fun i=>ns.getD i 0) k=(ns.take k).sum
 | 0,_=>by simp[preSum]
 | k+1,h=>by
  have ih:=jw ns k (by omega)
  have h2:k<ns.length:=by omega
  rw[preSum,ih,BO,List.sum_append,AE,AD h2]
  simp
theorem Moved.eq_heap {wr:List Addr} {s s':Shared} (m:Moved wr (fun a b=>b=a) s s'):s'={s with heap:=s'.heap,toks:=s'.toks}:=by
 obtain⟨h,g,d,t,os⟩:=s
 obtain⟨h',g',d',t',os'⟩:=s'
 obtain⟨_,e1,e2,e3,_⟩:=m
 simp only at e1 e2 e3
 subst e1 e2 e3
 rfl
section
variable {X:Cx}
theorem sQ (K:PySem.W.Frag) (hc:X.calm=true:=by rfl) (h:X.K=K:=by rfl):cu X (.builtin "sum") (fun xs H Q=>∃(p:Addr) (ns:List Int),xs=[.ref p]/\SqL K H p (ns.map V.int)/\Q (.int ns.sum) H):=by
 subst h
 intro pins s σ H xs us Q I r h
 obtain⟨p,ns,e,hq,q⟩:=h
 subst e
 obtain⟨u,e,rx⟩:=eA r
 subst e
 cases rx
 obtain⟨its,rv,pl,hz⟩:=I.list hq
 have hl:=rv.length
 rw[AC]at hl
 refine call_sum_walkAnyS (wpAny_pyIter_list pl.isList ?_)
 have hlt:p<s.heap.objs.size:=by
  obtain⟨o,ho,_⟩:=pl.isList
  exact Heap.lt_size ho
 have hval:∀(i:Nat) (v:Value),its.toArray[i]?=some v->∃t,v= .int (ns.getD i 0) t:=fun i v hi=>by
  have hi':its[i]?=some v:=by simpa using hi
  have h2:i<ns.length:=by rw[hl];exact(AF.mp hi').1
  obtain⟨u,eu,ru⟩:=rv.get (i:=i) (x:= .int ns[i]) (by simp[h2])
  rw[hi']at eu
  cases eu
  obtain⟨t,e⟩:=ru
  exact⟨t,by rw[e];simp[h2]⟩
 refine⟨s.heap.objs.size,_,_,_,_,_,_,fun i=>ns.getD i 0,rfl,(Walks.list (A:=X.A.in1) (show X.A.in1.handled=none from I.ok.hd hc) _ p (AV hlt) its.toArray).toS,?_,?_,hval,?_⟩
 ·refine⟨⟨_,Heap.get?_push_size _ rfl,rfl,rfl⟩,?_⟩
  obtain⟨o,ho,z⟩:=pl.isList
  exact⟨o,Heap.get?_push_of_some _ ho,z⟩
 ·intro b hb
  show b<(s.heap.push _).objs.size
  rw[Heap.size_push]
  simp only[AR,A4,or_false]at hb
  rcases hb with z | z<;>subst z
  ·exact Bs _
  ·exact Bk hlt
 ·intro s' t' hm
  rw[Moved.eq_heap hm]
  have hs:its.toArray.size=ns.length:=by rw[AM];omega
  refine⟨.int _,H,I.kept (fun b o e=>hm.heap b o ?_ (Heap.get?_push_of_some _ e)),⟨t',rfl⟩,?_⟩
  ·have:=Heap.lt_size e
   intro z
   rw[AN]at z
   exact absurd this (by rw[z];exact Bt _)
  ·rw [hs,jw ns _ (AI _),Bg]
   exact q
end
def wA (K:PySem.W.Frag) (a:Addr) (n:Nat):It:=
 ⟨fun i H=>i<n/\∃xs,SqL K H a xs/\xs.length=n,fun i H x H'=>H'=H/\∀xs,SqL K H a xs->xs[n-1-i]?=some x,fun i _=>n<=i⟩
theorem uY {P:Program} {w:World} {K:PySem.W.Frag} {tg:Expr} (a it:Addr) (n:Nat):Turn P w K tg (wA K a n) [it] it (fun i h=>i<=n/\h.IsRevIter it a ((n:Int)-1-(i:Int))) where
 mem:=by simp
 obj:=fun i h st b hb=>by
  have e:b=it:=by simpa using hb
  subst e
  obtain⟨_,o,e,c,d⟩:=st
  exact⟨o,e,fun v z=>by rw[d]at z;cases z⟩
 keep:=fun i h h' st k=>⟨st.1,st.2.at fun o e=>k it (by simp) o e⟩
 item:=by
  intro X hP hw hK hc i pins s σ H E I hf st hg
  subst hP hw hK
  obtain⟨hi,xs,hq,hn⟩:=hg
  obtain⟨its,rv,p,hz⟩:=I.list hq
  have hx:xs[n-1-i]?=some (xs[n-1-i]'(by omega)):=AD (by omega)
  obtain⟨u,hu,ru⟩:=rv.get hx
  obtain⟨f0,f1,f2,f3,f4,f5⟩:=hf it (by simp)
  obtain⟨_,st⟩:=st
  have e:(n:Int)-1-(i:Int)=((n-1-i:Nat):Int):=by omega
  rw[e]at st
  refine wpAny_pyNext_rev_item st p.isList (x:=u) (by simpa using hu) fun h' st' sb=>?_
  have e2:((n-1-i:Nat):Int)-1=(n:Int)-1-((i+1:Nat):Int):=by omega
  rw[e2]at st'
  have I1:Inv X pins σ H {s with heap:=h'}:=I.turned (t':=s.toks) (fun b o hb e=>(sb.2 b hb).trans e) f0 f1 f3 f4 f5
  obtain⟨o,e,c,d⟩:=id st'
  exact⟨u,rfl,nV (s:={s with heap:=h'}) e c d (by decide) ⟨_,H,I1,ru,⟨rfl,fun ys hy=>by rw[I.list_inj hy hq];exact hx⟩,⟨hi,st'⟩,fun b hb=>(hf b hb).1⟩⟩
 done:=by
  intro X hP hw hK hc i pins s σ H E I hf st hg
  subst hP hw hK
  obtain⟨f0,f1,f2,f3,f4,f5⟩:=hf it (by simp)
  obtain⟨hi,st⟩:=st
  have hg:n<=i:=hg
  have e:(n:Int)-1-(i:Int)= -1:=by omega
  rw[e]at st
  exact wpAny_pyNext_rev_end (I.ok.hd hc) st fun h' eb=>⟨rfl,I.turned (t':=s.toks) (fun b o hb e=>eb b o hb e) f0 f1 f3 f4 f5⟩
 self:=fun _ _ _ _ _ st h=>wpAny_pyIter_revIter st.2 h
section
variable {X:Cx}
def zN (K:PySem.W.Frag) (ta:TA):TI:=fun σ H R=>ta σ H fun vs H1=>∃a xs,vs=[.ref a]/\SqL K H1 a xs/\R (wA K a xs.length) H1
theorem x6 {a tg:Expr} {ta:TA} {p pos:Pos} (K:PySem.W.Frag) (hg:Gl X "reversed") (hm:X.mg "reversed"=none) (ha:PA X [a] ta) (hK:X.K=K:=by rfl) (hs:starEach [a] X.env=[(false,eval a X.env)]:=by rfl):
  PI X tg (.Call (.Name "reversed" p) [a] [] pos) (zN K ta):=by
 subst hK
 intro pins s σ H R I h
 refine Call_ (dH I hg hm boot_reversed (PyProof.Rows.callWith_type1 (bK (ha pos pins s σ H _ I h) fun us s1 ⟨vs,H1,I1,r1,q1⟩=>?_) (by rw[hs];rfl) (by rfl)))
 obtain⟨l1,xs,e,hq1,q⟩:=q1
 subst e
 cases r1 with
 | cons r rr=>
  cases rr
  cases r
  obtain⟨its1,rv1,p1,_⟩:=I1.list hq1
  have hl:=rv1.length
  refine call_reversed_list p1.isList ?_
  have hit:(s1.heap.push (revObj l1 ((its1.toArray.size:Int)-1))).IsRevIter s1.heap.objs.size l1 ((its1.toArray.size:Int)-1):=⟨_,Heap.get?_push_size _ rfl,rfl,rfl⟩
  refine wpAny_pyIter_revIter hit ?_
  have I2:Inv X pins σ H1 {s1 with heap:=s1.heap.push (revObj l1 ((its1.toArray.size:Int)-1))}:=I1.kept (t':=s1.toks) fun b o e=>Heap.get?_push_of_some _ e
  refine⟨_,[s1.heap.objs.size],_,_,H1,rfl,I2,uY l1 _ xs.length,⟨A0 _,?_⟩,fun b hb=>?_,q⟩
  ·have e:(xs.length:Int)-1-((0:Nat):Int)=(its1.toArray.size:Int)-1:=by rw[AM];omega
   rw[e];exact hit
  ·have e:b=s1.heap.objs.size:=by simpa using hb
   subst e
   exact I1.fpOk (AI _) (I1.hok.fresh (AI _))
end
theorem mZ:typeLookup (.type "list") "keys"=pure none:=by rw[typeLookup_type,builtinLookup_eq_fast];kernel_rfl
theorem oN:typeLookup (.type "list") "__getattr__"=pure none:=by rw[typeLookup_type,builtinLookup_eq_fast];kernel_rfl
section
variable {prog:Program} {w:World} {A:Around} {E:Value->Shared->Prop} {h:Heap} {g:Array GenState} {d:PySem.Drawn} {t:Nat} {os:OsState} {a:Addr} {o:Obj}
theorem jL {tk:Tok} {its:Array Value} {n:Nat} {sl:Array (Option Value)} {Q:Fin->Shared->Prop} (hh:A.handled=none) (hx:h.get? a=some {cls:= .type "list",dict:=none,data:= .seq its n,slots:=sl})
   (hq:∀h' tk e,Heap.NewAttrErr h h' e (.ref a) "keys"->E (.ref e) ⟨h',g,d,tk,os⟩):
    wpAny (model prog w) A (Builtin.«object.__getattribute__» ⟨[.ref a,.str "keys" tk],[]⟩) Q E ⟨h,g,d,t,os⟩:=by
  have hT:(⟨h,g,d,t,os⟩:Shared).TypeIs (.ref a) "list":=⟨_,hx,rfl⟩
  have f4:=mZ
  repeat (any_goals (first | assumption | wp_step))
  exact wpAny_raiseAttrError hh hq (attrMsg_fits (by decide +kernel) (by size_fits))
theorem kj {its:Array Value} {n:Nat} {sl:Array (Option Value)} {Q:Option Value->Shared->Prop} (hh:A.handled=none) (hx:h.get? a=some {cls:= .type "list",dict:=none,data:= .seq its n,slots:=sl})
   (hq:∀h' tk,(∀b o,h.get? b=some o->h'.get? b=some o)->Q none ⟨h',g,d,tk,os⟩):
    wpAny (model prog w) A (getAttr? (.ref a) "keys") Q E ⟨h,g,d,t,os⟩:=by
  have hT:∀t,(⟨h,g,d,t,os⟩:Shared).TypeIs (.ref a) "list":=fun _=>⟨_,hx,rfl⟩
  have f1:=sub_AttributeError
  have f2:=F.slot_list_getattribute.lookup
  have f3:=F.slot_list_getattribute.bind (.ref a)
  have f5:=oN
  unfold getAttr? getAttrBy? getAttrBy
  repeat (any_goals (first | assumption | apply hT | wp_step))
  refine codeAny_call_builtin F.slot_list_getattribute.plain F.entry_list_ga (F.slot_list_getattribute.check _ _ _ _ _ _ _ _ (hT _) (F.args_list_getattribute_2 _ _) (jL hh hx fun h' tk' e ne=>?_))
  obtain⟨t',u',he⟩:=ne.there
  show wpAny _ _ (getattributeRaised _ _ _ _ _ _ _) _ _ _
  unfold getattributeRaised
  repeat (any_goals (first | assumption | wp_step))
  exact hq _ _ ne.keeps
end
theorem fI:entryFor table "dict.update.loop"=some Builtin.«dict.update.loop»:=entryFor_of_tree (by kernel_rfl)
theorem cA:plainId "dict.update.loop"=true:=by decide +kernel
theorem m5 {α:Type} [DecidableEq α] {vs:List (α×Value)} {k:α} {v:Value} (h:∀q∈vs,q.1≠k):stored vs k v=vs++[(k,v)]:=by
 unfold stored
 rw[if_neg]
 intro z
 obtain⟨q,hq,e⟩:=List.any_eq_true.mp z
 exact h q hq (of_decide_eq_true e)
theorem qm {α:Type} {vs:List (α×Value)} (nd:(vs.map (·.1)).Nodup) {i:Nat} {k:α} {v:Value} (h:vs[i]?=some (k,v)):∀q∈vs.take i,q.1≠k:=by
 intro q hq e
 obtain⟨j,ej⟩:=BB.mp hq
 have hj:=(AF.mp ej).1
 rw[BE]at hj
 have hji:j<i:=by omega
 rw[List.getElem?_take_of_lt hji]at ej
 have hi:=(AF.mp h).1
 have e1:(vs.map (·.1))[j]?=some k:=by rw[AG,ej];simp[e]
 have e2:(vs.map (·.1))[i]?=some k:=by rw[AG,h];rfl
 obtain⟨l1,x1⟩:=AF.mp e1
 obtain⟨l2,x2⟩:=AF.mp e2
 exact Bv.mp nd j i l1 l2 hji (x1.trans x2.symm)
section
variable {P:Program} {w:World} {A:Around} {R:Result->Shared->Prop} {p d I:Addr} {its:List Value} {vs:List (dJ×Value)} {h0:Heap}
theorem sR (hh:A.handled=none) (hp:h0.IsList p its.toArray) (hd:h0.objs.size<=d) (hI:h0.objs.size<=I) (hne:d≠I) (nd:(vs.map (·.1)).Nodup) (hz:vs.length<=sizeLine) (hl:its.length=vs.length)
  (hat:∀(i:Nat) u,its[i]?=some u->∃a k key v,u= .ref a/\h0.IsTuple a #[key,v]/\(bq P w).is k key=true/\vs[i]?=some (k,v)):
  ∀(m i:Nat) (s:Shared),vs.length-i=m->i<=vs.length->(∀b o,h0.get? b=some o->s.heap.get? b=some o)->s.heap.IsListIter I p i->s.heap.DictOf (bq P w) d (vs.take i)->
  (∀h' tk,(∀b o,h0.get? b=some o->h'.get? b=some o)->h'.DictOf (bq P w) d vs->R (.ok (.ret .none)) {s with heap:=h',toks:=tk})->
  codeAny (model P w) A (.builtin "dict.update.loop" ⟨[.ref d,.ref I,rawInt (i:Int),.none],[]⟩) R s:=by
 have lp:p<h0.objs.size:=let⟨_,e,_⟩:=hp;Heap.lt_size e
 intro m
 induction m with
 | zero=>
  intro i s hm hi kp it dk hR
  have hin:i=vs.length:=by omega
  subst hin
  refine codeAny_builtin fI ?_
  rw[Around.under_plainId cA _]
  show wpAny _ A.in1 (pyNext (.ref I) >>= _) _ _ s
  have hp':s.heap.IsList p its.toArray:=let⟨o,e,r⟩:=hp;⟨o,kp _ _ e,r⟩
  refine wpAny_bind (wpAny_pyNext_list_end (show A.in1.handled=none from hh) it hp' (by simp[hl]) fun h' eb=>?_)
  show wpAny _ A.in1 (Builtin.Dict.addKeywords d [] >>= fun _=>ret Value.none) _ _ _
  refine wpAny_bind (wpAny_pure (wpAny_pure ?_))
  refine hR h' s.toks (fun b o e=>eb b o (fun z=>?_) (kp b o e)) ?_
  ·have:=Heap.lt_size e
   rw[z]at this
   exact absurd this (Cg.mpr hI)
  ·rw [Bg]at dk
   exact dk.at fun o e=>eb d o hne e
 | succ m ih=>
  intro i s hm hi kp it dk hR
  have hlt:i<vs.length:=by omega
  have hx:its[i]?=some (its[i]'(by omega)):=AD (by omega)
  obtain⟨a,k,key,v,eu,ht,hk,hv⟩:=hat i _ hx
  rw[eu]at hx
  refine codeAny_builtin fI ?_
  rw[Around.under_plainId cA _]
  show wpAny _ A.in1 (pyNext (.ref I) >>= _) _ _ s
  have hp':s.heap.IsList p its.toArray:=let⟨o,e,r⟩:=hp;⟨o,kp _ _ e,r⟩
  refine wpAny_bind (wpAny_pyNext_list_item it hp' (x:= .ref a) (by simpa using hx) fun h' it' sb=>?_)
  obtain⟨ot,eot,ct,nt,dt⟩:=ht
  have la:a≠I:=fun z=>by
   have:=Heap.lt_size eot
   rw[z]at this
   exact absurd this (Cg.mpr hI)
  have eot':h'.get? a=some ot:=(sb.2 a la).trans (kp _ _ eot)
  refine wpAny_bind (wpAny_holding ?_)
  refine wpAny_bind (wpAny_tryCatch ?_)
  unfold Builtin.Dict.pairItems
  refine wpAny_bind (wpAny_typeOf (T:="tuple") ⟨ot,eot',ct⟩ ?_)
  rw[if_pos (by decide)]
  refine wpAny_bind (wpAny_seqItems (s:={s with heap:=h'}) eot' dt (wpAny_pure ?_))
  show wpAny _ A.in1 (holding [key,v] (dictSet d key v)) _ _ _
  refine wpAny_holding ?_
  have dk':h'.DictOf (bq P w) d (vs.take i):=dk.at fun o e=>(sb.2 d hne).trans e
  refine wpAny_dictSet_pairs (s:={s with heap:=h'}) hk dk' (fun h2 dk2 sb2=>?_) (by rw[BE];omega)
  rw[m5 (qm nd hv)]at dk2
  have et:vs.take i++[(k,v)]=vs.take (i+1):=by rw[BO,hv];rfl
  rw[et]at dk2
  refine wpAny_pure ⟨plainId_quiet cA _,?_⟩
  refine ih (i+1) _ (by omega) hlt (fun b o e=>?_) (it'.at fun o e=>(sb2.2 I (Ne.symm hne)).trans e) dk2 fun h3 tk kp3 dk3=>hR h3 tk kp3 dk3
  have lb:=Heap.lt_size e
  exact(sb2.2 b (fun z=>by rw[z]at lb;exact absurd lb (Cg.mpr hd))).trans ((sb.2 b (fun z=>by rw[z]at lb;exact absurd lb (Cg.mpr hI))).trans (kp b o e))
end
section
variable {X:Cx}
theorem rb (K:PySem.W.Frag) (hc:X.calm=true:=by rfl) (hK:X.K=K:=by rfl):cu X (.type "dict") (fun xs H Q=>∃(p:Addr) (ps:List Addr) (kvs:List (dJ×V)),xs=[.ref p]/\SqL K H p (ps.map V.ref)/\ps.length=kvs.length/\(kvs.map (·.1)).Nodup/\
  (∀(i:Nat) a,ps[i]?=some a->∃k v,kvs[i]?=some (k,v)/\SqT K H a [kV k,v])/\∀l,H l=none->Q (.ref l) (ay H l (.dK kvs))):=by
 subst hK
 intro pins s σ H xs us Q I r h
 obtain⟨p,ps,kvs,e,hq,hn,nd,hat,q⟩:=h
 subst e
 obtain⟨u,e,rx⟩:=eA r
 subst e
 cases rx
 obtain⟨its,rv,pl,hz⟩:=I.list hq
 have hl:=rv.length
 rw[AC]at hl hz
 have hnd:X.A.handled=none:=I.ok.hd hc
 have raw:∃vs:List (dJ×Value),KV kvs vs/\∀(i:Nat) u,its[i]?=some u->∃a k key v,u= .ref a/\s.heap.IsTuple a #[key,v]/\(bq X.prog X.w).is k key=true/\vs[i]?=some (k,v):=by
  have key:∀(kvs:List (dJ×V)) (ps:List Addr),ps.length=kvs.length->(∀(i:Nat) a,ps[i]?=some a->∃k v,kvs[i]?=some (k,v)/\SqT X.K H a [kV k,v])->
    ∃vs:List (dJ×Value),KV kvs vs/\∀(i:Nat) a,ps[i]?=some a->∃k key v,s.heap.IsTuple a #[key,v]/\(bq X.prog X.w).is k key=true/\vs[i]?=some (k,v):=by
   intro kvs
   induction kvs with
   | nil=>
    intro ps hn _
    exact⟨[],.nil,fun i a z=>by rw[A5.mp hn]at z;cases z⟩
   | cons kv kvs ih=>
    intro ps hn hat
    obtain⟨a,ps,rfl⟩:∃a qs,ps=a :: qs:=by
     cases ps with
     | nil=>simp at hn
     | cons a qs=>exact⟨a,qs,rfl⟩
    obtain⟨k,v,e,ht⟩:=hat 0 a rfl
    cases e
    obtain⟨vs,rel,hr⟩:=ih ps (by simpa using hn) fun i b hb=>hat (i+1) b hb
    obtain⟨its,rv,pt,_⟩:=I.tuple ht
    obtain⟨u1,u2,rfl,r1,r2⟩:=qI rv
    refine⟨(k,u2) :: vs,.cons ⟨rfl,r2⟩ rel,fun i b hb=>?_⟩
    cases i with
    | zero=>cases hb;exact⟨k,u1,u2,pt,oe r1,rfl⟩
    | succ i=>exact hr i b hb
  obtain⟨vs,rel,hr⟩:=key kvs ps hn hat
  refine⟨vs,rel,fun i u hu=>?_⟩
  have hi:i<ps.length:=by rw[hl];exact(AF.mp hu).1
  obtain⟨u',eu,ru⟩:=rv.get (i:=i) (x:= .ref ps[i]) (by simp[hi])
  rw[hu]at eu
  cases eu
  cases(show u=Value.ref ps[i]from ru)
  obtain⟨k,key,v,a1,a2,a3⟩:=hr i ps[i] (AD hi)
  exact⟨_,k,key,v,rfl,a1,a2,a3⟩
 obtain⟨vs,rel,hraw⟩:=raw
 have lv:kvs.length=vs.length:=rel.length
 have ek:kvs.map (·.1)=vs.map (·.1):=by
  clear hraw hat lv nd hn q
  induction rel with
  | nil=>rfl
  | cons h _ ih=>rw[BN,BN,ih,h.1]
 refine callType_codes (Q₁:=fun obj s₁=>obj= .ref s.heap.objs.size/\s₁={s with heap:=s.heap.push {cls:= .type "dict",data:= .dict #[]}}) F.kt_called_dict (F.kt_typeCall_dict_1 _) F.entry_dict_init (kt_code_dict_new _ ⟨rfl,rfl⟩) ?_
 rintro obj s₁ ⟨rfl,rfl⟩
 have hnew:(s.heap.push {cls:= .type "dict",data:= .dict #[]}).DictOf (bq X.prog X.w) s.heap.objs.size []:=Heap.DictOf.new s.heap
 refine⟨hnew.typeIs,F.args_dict_init_2 _ _,?_⟩
 unfold Builtin.«dict.__init__»
 refine wpAny_bind ?_
 unfold Builtin.Dict.selfAndRest
 refine wpAny_bind (wpAny_notOrdered_dict hnew.typeIs ?_)
 show wpAny _ _ (pure (s.heap.objs.size,[Value.ref p])) _ _ _
 refine wpAny_pure ?_
 show wpAny _ _ (Builtin.Dict.updateFrom "dict.__init__" s.heap.objs.size (.ref p) [] .none) _ _ _
 unfold Builtin.Dict.updateFrom
 obtain⟨o,n,ho,c1,c2,c3⟩:=pl
 have ho':(s.heap.push {cls:= .type "dict",data:= .dict #[]}).get? p=some o:=Heap.get?_push_of_some _ ho
 refine wpAny_bind (wpAny_typeOf (T:="list") ⟨o,ho',c1⟩ ?_)
 rw[if_pos (by decide)]
 obtain⟨oc,od,oda,osl⟩:=o
 simp only at c1 c2 c3
 subst c1 c2 c3
 refine wpAny_bind (kj hnd ho' fun h2 tk kp2=>?_)
 have hlst:h2.IsList p its.toArray:=⟨_,kp2 _ _ ho',rfl,n,rfl⟩
 show wpAny _ _ (rule _ >>= _) _ _ _
 refine wpAny_bind (wpAny_rule ?_)
 refine wpAny_bind (wpAny_pyIter_list (s:={s with heap:=h2,toks:=tk}) hlst ?_)
 refine wpAny_pure ⟨plainId_quiet cA _,?_⟩
 have lt:s.heap.objs.size<h2.objs.size:=by
  have:=Heap.lt_size (kp2 s.heap.objs.size _ (Heap.get?_push_size _ rfl))
  exact this
 refine sR (P:=X.prog) (w:=X.w) (h0:=s.heap) (vs:=vs) (its:=its) (A:=X.A.in1) (show X.A.in1.handled=none from hnd) ⟨_,ho,rfl,n,rfl⟩ (AI _) (BC lt) (AV lt) (by rw[<- ek];exact nd) (by omega) (by omega) hraw _ 0 _ rfl (A0 _) (fun b o e=>?_) ?_ ?_ fun h' tk' kp' dk'=>?_
 ·exact Heap.get?_push_of_some _ (kp2 _ _ (Heap.get?_push_of_some _ e))
 ·exact⟨_,Heap.get?_push_size _ rfl,rfl,rfl⟩
 ·rw [Cb]
  exact hnew.at fun o e=>Heap.get?_push_of_some _ (kp2 _ _ e)
 ·refine⟨rfl,.ref s.heap.objs.size,_,I.laid (t':=tk') kp' (AI _) (xC (by omega) (beq_false_of_ne (BD I.big)) rel dk'),rfl,q _ (I.hok.fresh (AI _))⟩
end
def b4 (H:Hp) (a:Addr) (x:Int×Int):Prop:=H a=some (.tup [.int x.1,.int x.2])
def TupsL (H:Hp) (ps:List Addr) (row:List (Int×Int)):Prop:=Paired (b4 H) ps row
def RowAt (H:Hp) (r:Addr) (row:List (Int×Int)):Prop:=∃ps:List Addr,H r=some (.lst (ps.map V.ref))/\TupsL H ps row
def BillL (H:Hp) (rs:List Addr) (rows:List (List (Int×Int))):Prop:=Paired (RowAt H) rs rows
theorem bG {α β:Type} {F:α->β->Prop} {l:List α} {r:List β} {i:Nat} {a:α} (h:Paired F l r) (e:l[i]?=some a):∃b,r[i]?=some b/\F a b:=by
 induction h generalizing i with
 | nil=>cases e
 | cons x t ih=>
  cases i with
  | zero=>cases e;exact⟨_,rfl,x⟩
  | succ i=>exact ih e
theorem TupsL.same {H H':Hp} {ps:List Addr} {row:List (Int×Int)} (h:TupsL H ps row) (s:Same H H'):TupsL H' ps row:=Paired.mapP h fun _ _ q=>s _ _ q
theorem TupsL.len {H:Hp} {ps:List Addr} {row:List (Int×Int)} (h:TupsL H ps row):ps.length=row.length:=Paired.length h
theorem RowAt.same {H H':Hp} {r:Addr} {row:List (Int×Int)} (h:RowAt H r row) (s:Same H H'):RowAt H' r row:=let⟨ps,a,b⟩:=h;⟨ps,s _ _ a,b.same s⟩
theorem BillL.same {H H':Hp} {rs:List Addr} {rows:List (List (Int×Int))} (h:BillL H rs rows) (s:Same H H'):BillL H' rs rows:=Paired.mapP h fun _ _ q=>q.same s
theorem BillL.len {H:Hp} {rs:List Addr} {rows:List (List (Int×Int))} (h:BillL H rs rows):rs.length=rows.length:=Paired.length h
theorem BillL.at {H:Hp} {rs:List Addr} {rows:List (List (Int×Int))} (h:BillL H rs rows) {i:Nat} {row:List (Int×Int)} (e:rows[i]?=some row):∃r,rs[i]?=some r/\RowAt H r row:=dw h e
theorem BillL.get {H:Hp} {rs:List Addr} {rows:List (List (Int×Int))} (h:BillL H rs rows) {i:Nat} {r:Addr} (e:rs[i]?=some r):∃row,rows[i]?=some row/\RowAt H r row:=bG h e
theorem km {K:PySem.W.Frag} {H1:Hp} {js:List (Option Nat)} {σ:L2.St} {tc:TT} {te:TE} {Q:VK} {r:Addr} {ps:List Addr} {row:List (Int×Int)} (p:Nat->Bool) (P:Addr->Nat->V->Hp->Prop)
  (hr:SqL K H1 r (ps.map V.ref)) (ht:TupsL H1 ps row) (hn:row.length<100000)
  (mono:∀acc i v H H',P acc i v H->SameBut acc H H'->P acc i v H')
  (hc:∀(i:Nat) x,row[i]?=some x->∀H2 R,Same H1 H2->(∀H3,Same H2 H3->R (p i) H3)->tc (some (.int x.1) :: some (.int x.2) :: bZ σ js) H2 R)
  (he:∀acc (i:Nat) x,row[i]?=some x->p i=true->∀H2 R,Same H1 H2->H1 acc=none->H2 acc≠none->(∀v H3,Same H2 H3->P acc i v H3->R v H3)->te (some (.int x.1) :: some (.int x.2) :: bZ σ js) H2 R)
  (hQ:∀acc vs H',Same H1 H'->H1 acc=none->H' acc=some (.lst vs)->Paired (fun i v=>P acc i v H') ((AH row.length).filter p) vs->Q (.ref acc) H'):
  cE (nW K r) H1 (none :: none :: js) (rH K 2 (ij (bT 0) (ij (bT 1) t7))) tc te σ Q:=by
 have hl:=ht.len
 intro acc hacc
 refine⟨fun i m ys H=>m=row.length-i/\i<=row.length/\Same H1 H/\H acc=some (.lst ys)/\Paired (fun k v=>P acc k v H) ((AH i).filter p) ys,⟨row.length,by simp,A0 _,Same.new hacc,af,.nil⟩,?_⟩
 rintro i m ys H ⟨rfl,hi,s1,ha,hp⟩
 by_cases hlt:i<row.length
 ·have hps:i<ps.length:=by omega
  have ex:row[i]?=some row[i]:=AD hlt
  refine .inr ⟨⟨_,.ref ps[i],s1.seq hr,by simp[hps]⟩,fun ys' H'=>i<row.length/\Same H1 H'/\H' acc=some (.lst ys')/\Paired (fun k v=>P acc k v H') ((AH (i+1)).filter p) ys',fun ys' H' ⟨z,a,b,c⟩=>⟨row.length-(i+1),Bu _ _ hlt,rfl,hlt,a,b,c⟩,fun x H' y=>?_⟩
  obtain⟨rfl,y⟩:=y
  have y:=y _ (s1.seq hr)
  rw[AG]at y
  obtain⟨a,ea,rfl⟩:=AL.mp y
  obtain⟨x',ex',ft⟩:=bG ht ea
  rw[ex]at ex'
  cases ex'
  refine⟨a,_,rfl,SqT.of (s1 _ _ ft),rfl,_,_,rfl,_,_,rfl,rfl,xf,hc i _ ex _ _ s1 fun H2 s2=>⟨fun hb=>?_,fun hb=>?_⟩⟩
  ·have ha2:=s2 _ _ ha
   refine he acc i _ ex hb _ _ (s1.trans s2) hacc (by rw[ha2];simp) fun v H3 s3 pv=>?_
   have hlen:ys.length<=i:=by
    rw[<- Paired.length hp]
    exact A9 (Bh _ _) (by simp)
   refine⟨s3 _ _ ha2,mK (by omega),hlt,((s1.trans s2).trans s3).put hacc,af,?_⟩
   rw[Bw,Bn]
   have e:Cp p [i]=[i]:=by simp[hb]
   rw[e]
   refine Paired.snoc (Paired.mapP hp fun k v q=>?_) ?_
   ·exact mono acc k v _ _ (mono acc k v _ _ q (s2.trans s3).but) SameBut.upd
   ·exact mono acc i v _ _ pv SameBut.upd
  ·refine⟨hlt,s1.trans s2,s2 _ _ ha,?_⟩
   rw[Bw,Bn]
   have e:Cp p [i]=[]:=by simp[hb]
   rw[e,BX]
   exact Paired.mapP hp fun k v q=>mono acc k v _ _ q s2.but
 ·have e:i=row.length:=by omega
  subst e
  exact .inl ⟨⟨_,s1.seq hr,by rw[AC];omega⟩,hQ acc ys H s1 hacc ha hp⟩
theorem fB {α β:Type} {f:Nat->β} {g:α->β} {l:List α} (h:∀(i:Nat) x,l[i]?=some x->f i=g x):(AH l.length).map f=l.map g:=by
 apply By
 ·simp
 ·intro i h1 h2
  simp only[BG,B6]
  exact h i _ (AD (by simpa using h2))
theorem eH {K:PySem.W.Frag} {H1:Hp} {js:List (Option Nat)} {σ:L2.St} {te:TE} {Q:VK} {r:Addr} {row:List (Int×Int)} (f:Int×Int->V)
  (hr:RowAt H1 r row) (hn:row.length<100000)
  (he:∀(i:Nat) x,row[i]?=some x->∀H2 R,Same H1 H2->(∀H3,Same H2 H3->R (f x) H3)->te (some (.int x.1) :: some (.int x.2) :: bZ σ js) H2 R)
  (hQ:∀acc H',Same H1 H'->H1 acc=none->H' acc=some (.lst (row.map f))->Q (.ref acc) H'):
  cE (nW K r) H1 (none :: none :: js) (rH K 2 (ij (bT 0) (ij (bT 1) t7))) fN te σ Q:=by
 obtain⟨ps,h1,h2⟩:=hr
 refine km (ps:=ps) (row:=row) (fun _=>true) (fun _ i v _=>v=f (row.getD i (0,0))) (SqL.of h1) h2 hn (fun _ _ _ _ _ h _=>h) (fun _ _ _ _ _ _ k=>k _ (Same.refl _)) (fun acc i x ex _ H2 R s _ _ k=>he i x ex H2 R s fun H3 s3=>k _ H3 s3 ?_) fun acc vs H' s n e p=>?_
 ·rw [AE,ex];rfl
 ·refine hQ acc H' s n ?_
  rw[e,cY p,A8.mpr (fun _ _=>rfl)]
  rw[fB (g:=f) fun i x hx=>by rw[AE,hx];rfl]
def jM (row:List (Int×Int)):List (dJ×V):=row.map fun x=>(Sum.inl x.1,V.int x.2)
def cD (row:List (Int×Int)) (b:Int):Option Int:=(row.find? fun x=>x.1==b).map (·.2)
theorem m7 {row:List (Int×Int)} (h:(row.map (·.1)).Nodup):((jM row).map (·.1)).Nodup:=by
 unfold jM
 rw[A3]
 have e:row.map ((fun x:dJ×V=>x.1) ∘ fun x:Int×Int=>((Sum.inl x.1:dJ),V.int x.2))=(row.map (·.1)).map (Sum.inl:Int->dJ):=by rw[A3];rfl
 rw[e]
 exact List.Pairwise.map _ (fun a b n z=>n (by injection z)) h
theorem fc (b:Int):∀row:List (Int×Int),jH (jM row) (Sum.inl b)=(cD row b).map V.int
 | []=>rfl
 | x :: row=>by
  have ih:=fc b row
  unfold jM cD jH at*
  rw[BN,BU,BU]
  by_cases z:x.1=b
  ·have z1:(x.1==b)=true:=by simpa using z
   have z2:decide ((Sum.inl x.1:dJ)=Sum.inl b)=true:=by rw[z];simp
   simp only[z1,z2,Option.map_some]
  ·have z1:(x.1==b)=false:=by simpa using z
   have z2:decide ((Sum.inl x.1:dJ)=Sum.inl b)=false:=decide_eq_false fun y=>z (by injection y)
   simp only[z1,z2]
   exact ih
theorem TupsL.kv {K:PySem.W.Frag} {H:Hp} {ps:List Addr} {row:List (Int×Int)} (h:TupsL H ps row) (i:Nat) (a:Addr) (e:ps[i]?=some a):∃k v,(jM row)[i]?=some (k,v)/\SqT K H a [kV k,v]:=by
 obtain⟨x,hx,t⟩:=bG h e
 exact⟨Sum.inl x.1,V.int x.2,by unfold jM;rw[AG,hx];rfl,SqT.of t⟩
theorem uZ {row:List (Int×Int)} (nd:(row.map (·.1)).Nodup) {x:Int×Int} (h:x∈row):cD row x.1=some x.2:=by
 induction row with
 | nil=>cases h
 | cons y row ih=>
  rw[BN,B8]at nd
  unfold cD
  rw[BU]
  rcases AR.mp h with e | h
  ·subst e;simp
  ·have z:(y.1==x.1)=false:=by
    refine beq_false_of_ne fun e=>nd.1 ?_
    rw[e]
    exact Br.mpr ⟨x,h,rfl⟩
   rw[z]
   exact ih nd.2 h
theorem sS {row:List (Int×Int)} {b c:Int} (h:cD row b=some c):(b,c)∈row:=by
 unfold cD at h
 obtain⟨x,hx,e⟩:=AL.mp h
 have e1:=List.find?_some hx
 have e2:=List.mem_of_find?_eq_some hx
 have e3:x.1=b:=by simpa using e1
 rw[<- e3,<- e]
 exact e2
theorem me {row:List (Int×Int)} {b:Int}:cD row b=none<->b∉row.map (·.1):=by
 unfold cD
 rw[Option.map_eq_none_iff,List.find?_eq_none]
 constructor
 ·intro h z
  obtain⟨x,hx,e⟩:=Br.mp z
  exact h x hx (by simp[e])
 ·intro h x hx z
  exact h (Br.mpr ⟨x,hx,by simpa using z⟩)
theorem oO {K:PySem.W.Frag} {H:Hp} {a b:Addr} {row:List (Int×Int)} (h1:RowAt H a row) (h2:RowAt H b row):DEq K H 2 (.ref a) (.ref b) true:=by
 obtain⟨ps,a1,a2⟩:=h1
 obtain⟨qs,b1,b2⟩:=h2
 refine iF (SqL.of a1) (SqL.of b1) (by rw[AC,AC,a2.len,b2.len]) fun j x y ex ey=>?_
 rw[AG]at ex ey
 obtain⟨r,e1,rfl⟩:=AL.mp ex
 obtain⟨r',e2,rfl⟩:=AL.mp ey
 obtain⟨x1,f1,g1⟩:=bG a2 e1
 obtain⟨x2,f2,g2⟩:=bG b2 e2
 rw[f1]at f2
 cases f2
 refine fb (SqT.of g1) (SqT.of g2) rfl fun i u v eu ev=>?_
 rw[eu]at ev
 cases ev
 match i with
 | 0=>cases eu;exact cF rfl
 | 1=>cases eu;exact cF rfl
 | i+2=>cases eu
theorem sT {K:PySem.W.Frag} {H:Hp} {a b:Addr} {rs rs':List Addr} {rows:List (List (Int×Int))} (h1:H a=some (.lst (rs.map V.ref))) (p1:BillL H rs rows) (h2:H b=some (.lst (rs'.map V.ref))) (p2:BillL H rs' rows):DEq K H 3 (.ref a) (.ref b) true:=by
 refine iF (SqL.of h1) (SqL.of h2) (by rw[AC,AC,p1.len,p2.len]) fun j x y ex ey=>?_
 rw[AG]at ex ey
 obtain⟨r,e1,rfl⟩:=AL.mp ex
 obtain⟨r',e2,rfl⟩:=AL.mp ey
 obtain⟨x1,f1,g1⟩:=p1.get e1
 obtain⟨x2,f2,g2⟩:=p2.get e2
 rw[f1]at f2
 cases f2
 exact oO g1 g2
theorem iH {n j:Nat} (h:j<n):vS n (j:Int)=some j:=by
 unfold vS
 rw[if_pos (by omega),if_pos (by omega),Ba]
theorem dS (L:List Int) (c:Int) {n:Nat} (e:L.length=n) (h:0<n):∃d,lL (L.map V.int) (c%(n:Int))=some (.int d)/\d∈L:=by
 obtain⟨m,hm,em⟩:=sP c h
 rw[em]
 have hl:m<L.length:=by omega
 exact⟨L[m],bw (by simp[hl]),A1 hl⟩
theorem u4 {K:PySem.W.Frag} {H1:Hp} {js:List (Option Nat)} {σ:L2.St} {te:TE} {Q:VK} {a:Addr} {ns:List Int} (f:Int->V) (hl:SqL K H1 a (ns.map V.int)) (hn:ns.length<100000)
  (he:∀(i:Nat) x,ns[i]?=some x->∀H2 R,Same H1 H2->(∀H3,Same H2 H3->R (f x) H3)->te (some (.int x) :: bZ σ js) H2 R)
  (hQ:∀acc H',Same H1 H'->H1 acc=none->H' acc=some (.lst (ns.reverse.map f))->Q (.ref acc) H'):cE (wA K a (ns.map V.int).length) H1 (none :: js) (bT 0) fN te σ Q:=by
 have ln:(ns.map V.int).length=ns.length:=AC ..
 rw[ln]
 refine dO (J:=wA K a ns.length) (H1:=H1) (js:=js) (σ:=σ) (tc:=fN) (te:=te) (Q:=Q) ns.length (fun i=> .int (ns.getD (ns.length-1-i) 0)) (fun _=>true) (fun _ i v _=>v=f (ns.getD (ns.length-1-i) 0)) hn (fun _ _ _ _ _ h _=>h)
  (fun i H h s=>⟨h,_,s.seq hl,ln⟩) (fun H s=>AI _)
  (fun i H x H' h s y=>⟨y.1,?_⟩)
  (fun i h H2 R s k=>k _ (Same.refl _)) (fun acc i h hp H2 R s n1 n2 k=>?_)
  fun acc vs H' s n' e p=>hQ acc H' s n' ?_
 ·have e:=y.2 _ (s.seq hl)
  rw[AG]at e
  obtain⟨z,hz,rfl⟩:=AL.mp e
  rw[AE,hz];rfl
 ·have hx:ns[ns.length-1-i]?=some (ns.getD (ns.length-1-i) 0):=by rw[AE,AD (by omega)];rfl
  exact he _ _ hx H2 R s fun H3 s3=>k _ H3 s3 rfl
 ·rw [e,cY p,A8.mpr (fun _ _=>rfl)]
  congr 2
  apply By
  ·simp
  ·intro i h1 h2
   simp only[AC,Bm]at h1
   simp only[BG,B6,List.getElem_reverse]
   rw[AE,AD (by omega)];rfl
theorem x8 {ns:List Int} (c:Int) (h:ns.Pairwise (· < ·)):((ns.reverse.map fun x=>c-x):List Int).Pairwise (· < ·):=by
 refine List.Pairwise.map _ (fun a b (z:b<a)=>by show c-a<c-b;omega) ?_
 exact List.pairwise_reverse.mpr h
structure RowOk (bs:List Int) (tp:Int) (row:List (Int×Int)):Prop where
 up:(row.map (·.1)).Pairwise (· < ·)
 inn:∀x∈row,x.1∈bs/\0<=x.2/\x.2<tp
 len:row.length<=bs.length
theorem RowAt.but {H:Hp} {r l:Addr} {row:List (Int×Int)} {xs:List V} {o:HO} (h:RowAt H r row) (hl:H l=some (.lst xs)) (ne:r≠l):RowAt (ay H l o) r row:=by
 obtain⟨ps,a,b⟩:=h
 exact⟨ps,by rw[aC ne];exact a,Paired.mapP b fun a x q=>by
  show ay H l o a=_
  rw[aC (fun z=>by rw[b4,z,hl]at q;cases q)];exact q⟩
theorem TupsL.but {H:Hp} {l:Addr} {ps:List Addr} {row:List (Int×Int)} {xs:List V} {o:HO} (h:TupsL H ps row) (hl:H l=some (.lst xs)):TupsL (ay H l o) ps row:=
 Paired.mapP h fun a x q=>by
  show ay H l o a=_
  rw[aC (fun z=>by rw[b4,z,hl]at q;cases q)];exact q
theorem BillL.but {H:Hp} {l:Addr} {rs:List Addr} {rows:List (List (Int×Int))} {xs:List V} {o:HO} (h:BillL H rs rows) (hl:H l=some (.lst xs)) (ne:l∉rs):BillL (ay H l o) rs rows:=by
 refine cZ h.len fun i r row e1 e2=>?_
 obtain⟨row',e3,q⟩:=h.get e1
 rw[e2]at e3
 cases e3
 exact q.but hl fun z=>ne (z▸AJ e1)
theorem rf {l:List Int} {x:Int} (h:l.Pairwise (· < ·)) (hx:∀y∈l,y<x):(l++[x]).Pairwise (· < ·):=
 List.pairwise_append.mpr ⟨h,B5 ..,fun a ha b hb=>by rw[AN.mp hb];exact hx a ha⟩
theorem wB {bs:List Int} (h:bs.Pairwise (· < ·)) {i:Nat} {x:Int} (hx:bs[i]?=some x):∀y∈bs.take i,y<x:=by
 intro y hy
 obtain⟨hi,ex⟩:=AF.mp hx
 obtain⟨j,hj,ej⟩:=AU.mp hy
 rw[BE]at hj
 rw[CB]at ej
 rw[<- ej,<- ex]
 exact Bv.mp h j i _ _ (by omega)
theorem bE {α β:Type} {F:α->β->Prop} {l:List α} {r:List β} (h:Paired F l r) {a:α} {b:β} (q:F a b):Paired F (l++[a]) (r++[b]):=Paired.snoc h q
theorem BillL.parts {H:Hp} {rs:List Addr} {rows:List (List (Int×Int))} (h:BillL H rs rows):∃pss:List (List Addr),pss.length=rs.length/\∀(i:Nat) r,rs[i]?=some r->∃ps row,pss[i]?=some ps/\rows[i]?=some row/\H r=some (.lst (ps.map V.ref))/\TupsL H ps row:=by
 induction h with
 | nil=>exact⟨[],rfl,fun i r z=>by cases z⟩
 | cons h _ ih=>
  obtain⟨pss,l,f⟩:=ih
  obtain⟨ps,a,b⟩:=h
  refine⟨ps :: pss,by rw[BF,BF,l],fun i r e=>?_⟩
  cases i with
  | zero=>cases e;exact⟨ps,_,rfl,rfl,a,b⟩
  | succ i=>exact f i r e
theorem qo {K:PySem.W.Frag} {H1:Hp} {js:List (Option Nat)} {σ:L2.St} {te:TE} {Q:VK} {b:Addr} {rs:List Addr} {rows:List (List (Int×Int))} (hb:H1 b=some (.lst (rs.map V.ref))) (bl:BillL H1 rs rows) (hn:rows.length<100000)
  (he:∀r (xs:List V) H2 R,H2 r=some (.lst xs)->(∀l H3,Same H2 H3->H2 l=none->H3 l=some (.lst xs)->R (.ref l) H3)->te (some (.ref r) :: bZ σ js) H2 R)
  (hQ:∀acc ls H',Same H1 H'->H1 acc=none->H' acc=some (.lst (ls.map V.ref))->BillL H' ls rows->(∀r∈ls,H1 r=none/\r≠acc)->ls.Nodup->Q (.ref acc) H'):
  cE (nW K b) H1 (none :: js) (bT 0) fN te σ Q:=by
 obtain⟨pss,lp,fp⟩:=bl.parts
 have ln:=bl.len
 refine kh (J:=nW K b) (H1:=H1) (js:=js) (σ:=σ) (te:=te) (Q:=Q) rs.length (fun i=>(rs.map V.ref).getD i .non) (fun acc ys H=>∃ls:List Addr,ys=ls.map V.ref/\ls.Nodup/\(∀r∈ls,H1 r=none/\r≠acc)/\∀(i:Nat) l,ls[i]?=some l->H l=some (.lst ((pss.getD i []).map V.ref))) (by omega)
  ?_ (fun acc H=>⟨[],rfl,.nil,(fun _ z=>by cases z),fun i l z=>by cases z⟩)
  (fun i H h s=>⟨_,.ref rs[i],s.seq (SqL.of hb),by simp[h]⟩) (fun H s=>⟨_,s.seq (SqL.of hb),by simp⟩) ?_ ?_ ?_
 ·rintro acc ys H H' ⟨ls,e,nd,n,f⟩ s
  exact⟨ls,e,nd,n,fun i l z=>s l _ (n l (AJ z)).2 (f i l z)⟩
 ·intro i H x H' h s y
  refine⟨y.1,?_⟩
  have e:=y.2 _ (s.seq (SqL.of hb))
  rw[AE,e];rfl
 ·rintro acc i ys H2 R hi s n1 n2 ln2 ⟨ls,rfl,nd,n,f⟩ k
  have er:rs[i]?=some rs[i]:=AD hi
  obtain⟨ps,row,e1,e2,e3,e4⟩:=fp i _ er
  have eg:(rs.map V.ref).getD i .non= .ref rs[i]:=by rw[AE,AG,er];rfl
  rw[AC]at ln2
  show te (some ((rs.map V.ref).getD i .non) :: bZ σ js) H2 R
  rw[eg]
  refine he _ _ H2 R (s _ _ e3) fun l H3 s3 nl hl=>k (.ref l) H3 s3 ⟨ls++[l],by rw[AW];rfl,?_,fun r hr=>?_,fun j l' z=>?_⟩
  ·refine Cz.mpr ⟨nd,by simp,fun x hx y hy z=>?_⟩
   rw[AN.mp hy]at z
   subst z
   obtain⟨j,hj,ej⟩:=AU.mp hx
   have:=f j x (by rw[AD hj,ej])
   rw[this]at nl
   cases nl
  ·rcases AZ.mp hr with z | z
   ·exact n r z
   ·rw [AN.mp z]
    exact⟨s.free nl,fun z=>by rw[z,n2]at nl;cases nl⟩
  ·by_cases hj:j<ls.length
   ·rw [Bp hj]at z
    exact s3 _ _ (f j l' z)
   ·have hj':=(AF.mp z).1
    rw[AK,AS]at hj'
    have ej:j=ls.length:=by omega
    subst ej
    rw[Bo (AI _),B3]at z
    cases z
    rw[ln2,AE,e1]
    exact hl
 ·rintro acc ys H' s n1 n2 l2 ⟨ls,rfl,nd,n,f⟩
  rw[AC]at l2
  refine hQ acc ls H' s n1 n2 (cZ (by omega) fun i l row z1 z2=>?_) n nd
  have hi:i<rs.length:=by rw[<- l2];exact(AF.mp z1).1
  obtain⟨ps,row',e1,e2,e3,e4⟩:=fp i _ (AD hi)
  rw[z2]at e2
  cases e2
  have g:=f i l z1
  rw[AE,e1]at g
  exact⟨ps,g,e4.same s⟩
def ja (row r2:List (Int×Int)):List (Int×Int):=(row.filter fun x=>(cD r2 x.1).isSome).map fun x=>(x.1,x.2+(cD r2 x.1).getD 0)
def aD (row:List (Int×Int)):List Int:=row.map (·.1)
def fe (rows:List (List (Int×Int))):List Nat->List (Int×Int)
 | []=>[]
 | s :: st=>st.foldl (fun acc j=>ja acc (rows.getD j [])) (rows.getD s [])
def bS (rows:List (List (Int×Int))):List Nat->List Int
 | []=>[]
 | s :: st=>st.foldl (fun acc j=>acc.filter fun b=>decide (b∈aD (rows.getD j []))) (aD (rows.getD s []))
def iI (rows:List (List (Int×Int))) (st:List Nat) (b:Int):Int:=(st.map fun s=>(cD (rows.getD s []) b).getD 0).sum
def oP (rows:List (List (Int×Int))) (p:List Int):List (List (Int×Int)):=(AH (dd p).length).map fun b=>fe rows (aU p b)
theorem jb {rows:List (List (Int×Int))} {st:List Nat} (h:st≠[]) (s:Nat):fe rows (st++[s])=ja (fe rows st) (rows.getD s []):=by
 cases st with
 | nil=>exact absurd rfl h
 | cons a r=>show((r++[s]).foldl _ _)=_;rw[List.foldl_append];rfl
theorem ff {rows:List (List (Int×Int))} {st:List Nat} (h:st≠[]) (s:Nat):bS rows (st++[s])=(bS rows st).filter fun b=>decide (b∈aD (rows.getD s [])):=by
 cases st with
 | nil=>exact absurd rfl h
 | cons a r=>show((r++[s]).foldl _ _)=_;rw[List.foldl_append];rfl
theorem mf {rows:List (List (Int×Int))} {st:List Nat} (s:Nat) (b:Int):iI rows (st++[s]) b=iI rows st b+(cD (rows.getD s []) b).getD 0:=by
 unfold iI
 rw[AW,List.sum_append]
 simp
theorem oQ {row:List (Int×Int)} {b:Int}:(cD row b).isSome=decide (b∈aD row):=by
 cases e:cD row b with
 | none=>exact(decide_eq_false (show b∉aD row from me.mp e)).symm
 | some c=>exact(decide_eq_true (show b∈aD row from Br.mpr ⟨_,sS e,rfl⟩)).symm
theorem u5 {row:List (Int×Int)} (nd:(aD row).Nodup):row=(aD row).map fun b=>(b,(cD row b).getD 0):=by
 unfold aD
 rw[A3]
 conv=>lhs;rw[<- List.map_id row]
 apply BR
 intro x hx
 show x=(x.1,(cD row x.1).getD 0)
 rw[uZ nd hx];rfl
theorem iJ {α:Type} {P:List α->Prop} (h1:∀a,P [a]) (h2:∀l a,l≠[]->P l->P (l++[a])):∀l,l≠[]->P l:=by
 intro l
 have key:∀(n:Nat) (l:List α),l.length=n->l≠[]->P l:=by
  intro n
  induction n with
  | zero=>intro l e h;exact absurd (A5.mp e) h
  | succ n ih=>
   intro l e h
   have e1:=List.dropLast_concat_getLast h
   by_cases z:l.dropLast=[]
   ·rw [z]at e1
    rw[<- e1]
    exact h1 _
   ·rw [<- e1]
    exact h2 _ _ z (ih _ (by rw[List.length_dropLast];omega) z)
 exact key _ l rfl
theorem wC {rows:List (List (Int×Int))} (nd:∀row∈rows,(aD row).Nodup):∀st,st≠[]->fe rows st=(bS rows st).map fun b=>(b,iI rows st b):=by
 refine iJ (fun s=>?_) (fun st s hne ih=>?_)
 ·show rows.getD s []=(aD (rows.getD s [])).map _
  have hn:(aD (rows.getD s [])).Nodup:=by
   rw[AE]
   cases e:rows[s]? with
   | none=>exact .nil
   | some row=>exact nd row (AJ e)
  conv=>lhs;rw[u5 hn]
  apply BR
  intro b _
  unfold iI
  simp
 ·rw [jb hne,ff hne,ih]
  unfold ja
  rw[Ce,A3]
  have e1:(fun x:Int×Int=>(cD (rows.getD s []) x.1).isSome) ∘ (fun b=>(b,iI rows st b))=fun b=>decide (b∈aD (rows.getD s [])):=by
   funext b
   exact oQ
  rw[e1]
  apply BR
  intro b _
  show(b,iI rows st b+_)=_
  rw[mf]
theorem ku {rows:List (List (Int×Int))}:∀st,st≠[]->∀b,b∈bS rows st<->∀s∈st,b∈aD (rows.getD s []):=by
 refine iJ (fun s b=>?_) (fun st s hne ih b=>?_)
 ·show b∈aD (rows.getD s [])<->_
  simp
 ·rw [ff hne,Bj,ih b,decide_eq_true_iff]
  constructor
  ·rintro⟨h1,h2⟩ x hx
   rcases AZ.mp hx with z | z
   ·exact h1 x z
   ·rw [AN.mp z];exact h2
  ·intro h
   exact⟨fun x hx=>h x (BM _ hx),h s (Bc _ (by simp))⟩
theorem xg {α β:Type} {l:List α} {d:α} {g:α->Bool} {F:α->β}:(((AH l.length).filter fun j=>g (l.getD j d)).map fun j=>F (l.getD j d))=(l.filter g).map F:=by
 have e0:l=(AH l.length).map fun i=>l.getD i d:=by
  conv=>lhs;rw[<- List.map_id l]
  exact(fB fun i x hx=>by rw[AE,hx];rfl).symm
 conv=>rhs;rw[e0]
 rw[Ce,A3]
 rfl
theorem rg {H:Hp} {g:Nat->Int×Int}:∀{is:List Nat} {vs:List V},Paired (fun i v=>∃t,v= .ref t/\b4 H t (g i)) is vs->∃ps:List Addr,vs=ps.map V.ref/\TupsL H ps (is.map g)
 | _,_,.nil=>⟨[],rfl,.nil⟩
 | _,_,.cons ⟨t,e,h⟩ r=>by
  obtain⟨ps,e2,h2⟩:=rg r
  exact⟨t :: ps,by rw[e,e2];rfl,.cons h h2⟩
theorem qp (row r2:List (Int×Int)):(ja row r2).length<=row.length:=by
 unfold ja
 rw[AC]
 exact Bh _ _
theorem oR {rows:List (List (Int×Int))} {n:Nat} (h:∀row∈rows,row.length<=n):∀st,(fe rows st).length<=n:=by
 have base:∀s,(rows.getD s []).length<=n:=fun s=>by
  rw[AE]
  cases e:rows[s]? with
  | none=>exact A0 _
  | some row=>exact h row (AJ e)
 intro st
 by_cases z:st=[]
 ·rw [z];exact A0 _
 ·exact iJ (P:=fun st=>(fe rows st).length<=n) base (fun st s hne ih=>by rw[jb hne];exact A9 (qp _ _) ih) st z
def RowN (acc:Addr) (H:Hp) (r:Addr) (row:List (Int×Int)):Prop:=r≠acc/\∃ps:List Addr,H r=some (.lst (ps.map V.ref))/\(∀a∈ps,a≠acc)/\TupsL H ps row
theorem RowN.mono {acc:Addr} {H H':Hp} {r:Addr} {row:List (Int×Int)} (h:RowN acc H r row) (s:SameBut acc H H'):RowN acc H' r row:=by
 obtain⟨n,ps,a,b,c⟩:=h
 refine⟨n,ps,s _ _ n a,b,cZ (Paired.length c) fun i x y e1 e2=>?_⟩
 obtain⟨y',e3,q⟩:=bG c e1
 rw[e2]at e3
 cases e3
 exact s _ _ (b x (AJ e1)) q
theorem RowN.at {acc:Addr} {H:Hp} {r:Addr} {row:List (Int×Int)} (h:RowN acc H r row):RowAt H r row:=let⟨_,ps,a,_,c⟩:=h;⟨ps,a,c⟩
theorem RowAt.n {acc:Addr} {H:Hp} {r:Addr} {row:List (Int×Int)} {xs:List V} (h:RowAt H r row) (n:r≠acc) (ha:H acc=some (.lst xs)):RowN acc H r row:=by
 obtain⟨ps,a,c⟩:=h
 refine⟨n,ps,a,fun x hx z=>?_,c⟩
 obtain⟨i,hi,ei⟩:=AU.mp hx
 obtain⟨y,_,q⟩:=bG c (AD hi)
 rw[b4,ei,z,ha]at q
 cases q
theorem qr {H1:Hp} {js:List (Option Nat)} {σ:L2.St} {te:TE} {Q:VK} {n:Nat} (f:Nat->List (Int×Int)) (hn:n<100000)
  (he:∀i:Nat,i<n->∀H2 R,Same H1 H2->(∀r H3,Same H2 H3->H2 r=none->RowAt H3 r (f i)->R (.ref r) H3)->te (some (.int (0+(i:Int))) :: bZ σ js) H2 R)
  (hQ:∀acc ls H',Same H1 H'->H1 acc=none->H' acc=some (.lst (ls.map V.ref))->BillL H' ls ((AH n).map f)->(∀r∈ls,H1 r=none/\r≠acc)->Q (.ref acc) H'):cE (pB 0 n) H1 (none :: js) (bT 0) fN te σ Q:=by
 refine i7 (fun acc ys H=>∃ls:List Addr,ys=ls.map V.ref/\∀(i:Nat) r,ls[i]?=some r->H1 r=none/\RowN acc H r (f i)) hn (fun acc ys H H' ⟨ls,e,h⟩ s=>⟨ls,e,fun i r z=>⟨(h i r z).1,(h i r z).2.mono s⟩⟩) (fun acc H=>⟨[],rfl,fun i r z=>by cases z⟩) ?_ ?_
 ·rintro acc i ys H2 R hi s n1 n2 ln ⟨ls,rfl,h⟩ k
  rw[AC]at ln
  refine he i hi H2 R s fun r H3 s3 nr hr=>k (.ref r) H3 s3 ⟨ls++[r],by rw[AW];rfl,fun j r' z=>?_⟩
  have n3:=s3 _ _ n2
  by_cases hj:j<ls.length
  ·rw [Bp hj]at z
   exact⟨(h j r' z).1,(h j r' z).2.mono s3.but⟩
  ·have hj':=(AF.mp z).1
   rw[AK,AS]at hj'
   have ej:j=ls.length:=by omega
   subst ej
   rw[Bo (AI _),B3]at z
   cases z
   rw[ln]
   exact⟨s.free nr,hr.n (fun z=>by rw[z,n2]at nr;cases nr) n3⟩
 ·rintro acc ys H' s n1 n2 ln ⟨ls,rfl,h⟩
  rw[AC]at ln
  refine hQ acc ls H' s n1 n2 (cZ (by rw[AC,Bm];exact ln) fun i r row e1 e2=>?_) fun r hr=>?_
  ·rw [AG]at e2
   obtain⟨j,e3,e4⟩:=AL.mp e2
   have hj:=(AF.mp e3)
   obtain⟨hj1,hj2⟩:=hj
   rw[B6]at hj2
   subst hj2
   subst e4
   exact(h i r e1).2.at
  ·obtain⟨i,hi,ei⟩:=AU.mp hr
   have:=h i r (by rw[AD hi,ei])
   exact⟨this.1,this.2.1⟩
def lq (p:List Int) (b:Int) (i:Nat):List Nat:=(AH i).filter fun j=>decide (p.getD j 0=b)
theorem sU (p:List Int) (b:Int) (i:Nat):lq p b (i+1)=if p.getD i 0=b then lq p b i++[i]else lq p b i:=by
 unfold lq
 rw[Bw,Bn]
 by_cases z:p.getD i 0=b
 ·rw [if_pos z,BY,if_pos (decide_eq_true z)];rfl
 ·rw [if_neg z,BY,if_neg (by rw[decide_eq_false z];decide)];exact BX _
theorem u6 (p:List Int) (b:Nat):lq p (b:Int) p.length=aU p b:=rfl
section
variable {X:Cx}
end
theorem oS {α β:Type} {F:α->β->Prop} {l:List α} {r:List β} (h:Paired F l r) (n:Nat):Paired F (l.drop n) (r.drop n):=
 cZ (by rw[Bx,Bx,Paired.length h]) fun i a b e1 e2=>by
  rw[List.getElem?_drop]at e1 e2
  obtain⟨b',e3,q⟩:=bG h e1
  rw[e2]at e3
  cases e3
  exact q
theorem qt {α β:Type} {F:α->β->Prop} {l:List α} {r:List β} (h:Paired F l r):Paired F l.reverse r.reverse:=by
 induction h with
 | nil=>exact .nil
 | cons h _ ih=>rw[List.reverse_cons,List.reverse_cons];exact Paired.snoc ih h
def cv (G H H':Hp):Hp:=fun b=>match H b with
 | none=>H' b
 | some _=>G b
theorem aW {G H H':Hp} {b:Addr} {o:HO} (h:H b=none) (e:H' b=some o):cv G H H' b=some o:=by unfold cv;rw[h];exact e
theorem jc {G H H':Hp} (s:Same G H):Same G (cv G H H'):=fun b o e=>by unfold cv;rw[s _ _ e];exact e
theorem yU {G H H':Hp} {b:Addr} {o:HO} (e:cv G H H' b=some o):(H b=none/\H' b=some o)\/((∃u,H b=some u)/\G b=some o):=by
 unfold cv at e
 cases h:H b with
 | none=>rw[h]at e;exact .inl ⟨rfl,e⟩
 | some u=>rw[h]at e;exact .inr ⟨⟨u,rfl⟩,e⟩
def du (ds:List (Int×Int)) (b:Int):Int:=(cD ds b).getD 0
def hA (hs:List (Option Int)) (j:Nat):Option Int:=hs.getD j none
section
variable {X:Cx}
end
theorem cG {α:Type} {l:List α} {i:Nat} {x:α} (h:l[i]?=some x):l.take (i+1)=l.take i++[x]:=by
 rw[BO,h];rfl
end L2
namespace L2
open PySem PySem.Spec PyProof.Rows PySem.W
section
variable {prog:Program} {w:World} {A:Around} {E:Value->Shared->Prop} {s:Shared}
end
section
variable {X:Cx}
end
theorem u7 {α:Type} (x:α) (n:Nat):(Bf n [x]).flatten=Bf n x:=by
 induction n with
 | zero=>rfl
 | succ n ih=>rw[BQ,Ca,ih,BQ];rfl
def yV (K:PySem.W.Frag) (ta:TA):TE:=fun σ H Q=>ta σ H fun vs H1=>∃p xs,vs=[.ref p]/\SqL K H1 p xs/\xs.length<=1000/\∀l,H1 l=none->Q (.ref l) (ay H1 l (.lst xs.reverse))
theorem sV:typeLookup (.type "list_reverseiterator") "__len__"=pure none:=by rw[typeLookup_type,builtinLookup_eq_fast];kernel_rfl
theorem u9:typeLookup (.type "list_reverseiterator") "__length_hint__"=pure (some (.builtin "list_reverseiterator.__length_hint__")):=by rw[typeLookup_type,builtinLookup_eq_fast];kernel_rfl
section
variable {prog:Program} {w:World} {A:Around} {E:Value->Shared->Prop} {s:Shared}
theorem va {r l:Addr} {i:Int} {Q:Bool->Shared->Prop} (hit:s.heap.IsRevIter r l i) (h:Q false s):wpAny (model prog w) A (Builtin.List.listLengthHint (.ref r)) Q E s:=by
 unfold Builtin.List.listLengthHint
 refine wpAny_bind (wpAny_specialOf hit.typeIs sV ?_)
 show wpAny _ A (specialOf (Value.ref r) (Str.ofString "__length_hint__") >>= _) _ _ _
 refine wpAny_bind (wpAny_specialOf hit.typeIs u9 ?_)
 (generalize hid:("list_reverseiterator.__length_hint__":String)=id0;(fail_if_success (clear hid id0));wp_delta;rw[show splitId id0=some ("list_reverseiterator","__length_hint__")from by subst hid;decide +kernel];subst hid)
 refine wpAny_bind (wpAny_isInstance (b:=true) hit.typeIs (by rw[isSubtype_type];kernel_rfl) ?_)
 exact wpAny_pure h
theorem lu {Q:Value->Shared->Prop} {I l:Addr} {items:Array Value} (hh:A.handled=none) (hit:s.heap.IsRevIter I l ((items.size:Int)-1)) (hl:s.heap.IsList l items) (hne:l≠I) (hn:items.size<=sizeLine)
  (hQ:∀h' tk acc' c',(∀b o,b≠I->s.heap.get? b=some o->h'.get? b=some o)->h'.get? s.heap.objs.size=some {cls:= .type "list",dict:=none,data:= .seq acc' c',slots:=#[]}->ItemsOf (fun i v=>items[items.size-1-i]?=some v) acc' items.size->Q (.ref s.heap.objs.size) {s with heap:=h',toks:=tk}):
  wpAny (model prog w) A (call (.type "list") [.ref I]) Q E s:=by
 refine callType_codes (Q₁:=fun obj s₁=>obj= .ref s.heap.objs.size/\s₁={s with heap:=s.heap.push {cls:= .type "list",data:= .seq #[]}}) PySem.F.called_list (PySem.F.typeCall_list_1 _) PySem.F.entry_list_init
  (code_list_new _ ⟨rfl,rfl⟩) fun obj s₁ h₁=>?_
 obtain⟨rfl,rfl⟩:=h₁
 have hS:(s.heap.push {cls:= .type "list",data:= .seq #[]}).get? s.heap.objs.size=some {cls:= .type "list",data:= .seq #[]}:=Heap.get?_push_size _ rfl
 have hIl:I<s.heap.objs.size:=by obtain⟨o,ho,_⟩:=hit;exact Heap.lt_size ho
 have hll:l<s.heap.objs.size:=by obtain⟨o,ho,_⟩:=hl;exact Heap.lt_size ho
 refine⟨⟨_,hS,rfl⟩,PySem.F.args_list_init_2 _ _,?_⟩
 have lt:∀b o,s.heap.get? b=some o->b<s.heap.objs.size:=fun b o e=>Heap.lt_size e
 generalize s.heap.objs.size=S at*
 show wpAny _ _ (do let old <- Builtin.List.listItems (.ref S);Builtin.List.listUpdate (.ref S) (fun _=>#[]);letGo old.toList.reverse;Builtin.List.listExtendWith (.ref S) (.ref I) .none) _ _ _
 refine wpAny_bind ?_
 unfold Builtin.List.listItems
 refine wpAny_bind (wpAny_seqItems hS rfl (wpAny_pure ?_))
 show wpAny _ _ (updateSeq S (fun _=>#[]) >>= fun _=>letGo (#[]:Array Value).toList.reverse >>= fun _=>Builtin.List.listExtendWith (.ref S) (.ref I) .none) _ _ _
 refine wpAny_bind (wpAny_updateSeq hS rfl ?_)
 have hS₂:=Heap.get?_update_self (Obj.mapSeq (fun _=>(#[]:Array Value))) hS rfl
 have oth:∀b o,s.heap.get? b=some o->((s.heap.push {cls:= .type "list",data:= .seq #[]}).update S (Obj.mapSeq (fun _=>(#[]:Array Value)))).get? b=some o:=
  fun b o e=>(Heap.get?_update_other _ _ (BD (lt b o e))).trans (Heap.get?_push_of_some _ e)
 refine wpAny_bind (wpAny_letGo ?_)
 have hit2:=hit.at (oth I)
 have hl2:=hl.at (oth l)
 unfold Builtin.List.listExtendWith
 refine wpAny_bind (wpAny_typeOf (T:="list_reverseiterator") hit2.typeIs ?_)
 have h1:Builtin.List.listSameRef (.ref S) (.ref I)=false:=by simp[Builtin.List.listSameRef,BD hIl]
 rw[if_neg (by rw[h1];decide)]
 refine wpAny_bind (wpAny_pyIter_revIter hit2 ?_)
 refine wpAny_bind (wpAny_holding (va hit2 ?_))
 rw[if_neg (by decide)]
 have hSf:S∉[I,l]:=by
  simp only[AR,A4,or_false,not_or]
  exact⟨BD hIl,BD hll⟩
 refine wpAny_pure ⟨plainId_quiet PySem.F.plain_extend_loop _,codeAny_extend_loopS (Walks.listRev (A:=A.in1.in1) hh I l hne items).toS hn S hSf .none items.size 0 _ #[] _ rfl (A0 _) ⟨A0 _,by simpa using hit2,hl2⟩ hS₂ (ItemsOf.nil _) fun s' acc' c' hm hS' hacc=>?_⟩
 rw[Moved.eq_heap hm]
 refine⟨rfl,hQ s'.heap s'.toks acc' c' (fun b o hb e=>hm.heap b o (fun hmem=>?_) (oth b o e)) hS' hacc⟩
 rcases AR.mp hmem with e' | hmem
 ·exact AV (lt b o e) e'
 ·exact hb (AN.mp hmem)
end
section
variable {X:Cx}
theorem rh {a:Expr} {ta:TA} {p1 p2 pos1 pos2:Pos} (K:PySem.W.Frag) (hg:Gl X "list") (hm:X.mg "list"=none) (hg2:Gl X "reversed") (hm2:X.mg "reversed"=none) (ha:PA X [a] ta) (hK:X.K=K:=by rfl) (hc:X.calm=true:=by rfl) (hs:starEach [a] X.env=[(false,eval a X.env)]:=by rfl):
  PE X (.Call (.Name "list" p1) [.Call (.Name "reversed" p2) [a] [] pos2] [] pos1) (yV K ta):=by
 subst hK
 intro pins s σ H Q I h
 refine Call_ (dH I hg hm boot_list (PyProof.Rows.callWith_type1 ?_ (by rfl) (by rfl)))
 show wpAny _ _ (spliced [(false,eval (.Call (.Name "reversed" p2) [a] [] pos2) X.env)]) _ _ s
 refine Calls.spliced_cons ?_
 refine Call_ (dH I hg2 hm2 boot_reversed (PyProof.Rows.callWith_type1 (bK (ha pos2 pins s σ H _ I h) fun us s1 ⟨vs,H1,I1,r1,q1⟩=>?_) (by rw[hs];rfl) (by rfl)))
 obtain⟨l1,xs,e,hq1,hn1,q⟩:=q1
 subst e
 cases r1 with
 | cons r rr=>
  cases rr
  cases r
  obtain⟨its1,rv1,p1,hz⟩:=I1.list hq1
  have hl:=rv1.length
  refine call_reversed_list p1.isList ?_
  refine Calls.spliced_nil ?_
  have hl1:l1<s1.heap.objs.size:=by obtain⟨o,ho,_⟩:=p1.isList;exact Heap.lt_size ho
  have hit:(s1.heap.push (revObj l1 ((its1.toArray.size:Int)-1))).IsRevIter s1.heap.objs.size l1 ((its1.toArray.size:Int)-1):=⟨_,Heap.get?_push_size _ rfl,rfl,rfl⟩
  refine lu (I1.ok.hd hc) hit (p1.isList.at fun o e=>Heap.get?_push_of_some _ e) (AV hl1) (by rw[AM,<- hl];exact hz) fun h' tk acc' c' kp ho' ia=>?_
  refine⟨.ref _,_,I1.laid (t':=tk) (fun b o e=>kp b o (AV (Heap.lt_size e)) (Heap.get?_push_of_some _ e)) (by show _<=(s1.heap.push _).objs.size;rw[Heap.size_push];omega) (show ObjOk X.prog X.w _ h' _ (.lst xs.reverse)from⟨by rw[List.length_reverse];exact hz,acc'.toList,c',?_,?_⟩),rfl,q _ (I1.hok.fresh (by show _<=(s1.heap.push _).objs.size;rw[Heap.size_push];omega))⟩
  ·refine cZ (by have h3:=ia.1;simp at h3 ⊢;omega) fun i x y ex ey=>?_
   have hi:=(AF.mp ex).1
   rw[List.length_reverse]at hi
   rw[List.getElem?_reverse hi]at ex
   have e2:=ia.2 i y (by rw[<- B1];exact ey)
   rw[AM,<- hl]at e2
   obtain⟨u,hu,ru⟩:=rv1.get ex
   have:y=u:=by
    have e3:its1[xs.length-1-i]?=some y:=by simpa using e2
    rw[e3]at hu;exact Option.some.inj hu
   subst this
   exact ru
  ·rw [Array.toArray_toList];exact ho'
end
theorem zO {a b:Int}:decide (V.int a=V.int b)=decide (a=b):=by simp
theorem mh {as:List Addr} {us:List Value} (h:Vals (as.map V.ref) us):us=as.map Value.ref:=by
 induction as generalizing us with
 | nil=>cases h;rfl
 | cons a as ih=>
  cases h with
  | cons r t=>cases r;rw[ih t];rfl
def zP (K:PySem.W.Frag) (neg:Bool):R2:=fun x y H Q=>∃(p:Addr) (as:List Addr) (d:Nat) (f:Addr->Bool),y= .ref p/\SqL K H p (as.map V.ref)/\d<60/\(∀a∈as,DEq K H d (.ref a) x (f a))/\Q (.bl (if neg then !as.any f else as.any f)) H
def x9 (f:Addr->Bool):Value->Bool
 | .ref a=>f a
 | _=>false
section
variable {X:Cx}
theorem vb (as:List Addr) (f:Addr->Bool):(as.map Value.ref).toArray.any (x9 f)=as.any f:=by
 rw[List.any_toArray,List.any_map];rfl
theorem Ax (K:PySem.W.Frag) (hu:X.A.units+64<cLine) (hK:X.K=K:=by rfl):fk X (compareOp .In) (zP K false):=by
 subst hK
 intro pins s σ H x y v u Q I rx ry h
 obtain⟨p,as,d,f,rfl,hq,hd,he,q⟩:=h
 cases ry
 obtain⟨its,r,pl,hz⟩:=I.list hq
 have e1:=mh r
 subst e1
 refine SeqAt.in_listAt (x9 f) pl.isList (fun w hw=>?_) ⟨.bl _,H,I,rfl,?_⟩
 ·obtain⟨a,ha,rfl⟩:∃a∈as,Value.ref a=w:=by simpa using hw
  exact(he a ha).at I (by show X.A.units+1+d<cLine;omega) rfl rx
 ·rw [vb];exact q
end
def qu (H:Hp) (a:Addr):Bool:=match H a with
 | some (.lst l)=>l.isEmpty
 | _=>false
theorem wD {K:PySem.W.Frag} {H:Hp} {a b:Addr} {xs:List V} (h1:H a=some (.lst xs)) (h2:SqL K H b []):DEq K H 1 (.ref a) (.ref b) (qu H a):=by
 unfold qu
 rw[h1]
 exact mM (SqL.of h1) h2
section
variable {α:Type} [DecidableEq α]
end
section
variable {α:Type} [DecidableEq α]
end
section
variable {α:Type}
end
section
variable {prog:Program} {w:World} {A:Around} {E:Value->Shared->Prop} {s:Shared} {T:String} {r d:Addr} {n:Nat} {P:Nat->Value->Prop} {OK:Heap->Prop}
end
section
variable {X:Cx}
end
theorem kz {x y:V} {A B:Prop} (h:x=y) (hB:B):if(!decide (x=y))=true then A else B:=by
 rw[decide_eq_true h];exact aE hB
end L2
namespace L2
open PySem PySem.Spec PyProof.Rows
theorem ObjOk.has {P:Program} {w:World} {H:Hp} {h:Heap} {a:Addr}:∀{o:HO},ObjOk P w H h a o->∃ob,h.get? a=some ob:=by
 intro o x
 cases o with
 | lst xs=>obtain⟨_,_,_,_,e⟩:=x;exact⟨_,e⟩
 | tup xs=>obtain⟨_,_,_,ob,e,_⟩:=x;exact⟨_,e⟩
 | dK kvs=>obtain⟨_,_,_,_,ob,_,_,e,_⟩:=x;exact⟨_,e⟩
 | dT kvs=>obtain⟨_,_,_,_,ob,_,_,e,_⟩:=x;exact⟨_,e⟩
 | set S n=>obtain⟨ob,_,_,_,e,_⟩:=x;exact⟨_,e⟩
 | ins C dx fs=>obtain⟨_,_,_,e,_⟩:=x;exact⟨_,e⟩
 | own y=>exact x
 | xd fs=>obtain⟨_,⟨ob,_,_,e,_⟩,_⟩:=x;exact⟨_,e⟩
 | rng lo hi=>obtain⟨_,_,_,e⟩:=x;exact⟨_,e⟩
 | frz ob u=>obtain⟨e,_⟩:=x;exact⟨_,e⟩
 | tbl ps=>exact⟨_,x⟩
 | met f y=>exact⟨_,x⟩
 | ext φ=>exact x.2.1
theorem HOk.stays {P:Program} {w:World} {H:Hp} {h h':Heap} (ok:HOk P w H h) (k:∀b u,(H b).isSome=true->h.get? b=some u->h'.get? b=some u):HOk P w H h':=fun a o q=>
 (ok a o q).stay (fun b u hb e=>k b u (hb.elim (fun y=>by rw[y,q];rfl) fun y=>by rw[y];rfl) e) (fun _ z=>z) fun _ _ z=>z
structure Flies (P:Program) (w:World) (outer:List Env) (H H':Hp) (s:Shared) (ea C:Addr) (a0:Value) (B:Heap) (s':Shared):Prop where
 os:s'.os=s.os
 bare:AllBare s'.gens
 un:Un (ig outer) [] H H' s.heap s'.heap
 hok:HOk P w H' s'.heap
 fl:Heap.FlyingW B outer ea (.ref C) a0 s'.heap
 new:s.heap.get? ea=none
 free:H' ea=none
 cov:∀b o,s'.heap.get? b=some o->b∉ig outer->((s.heap.get? b).isSome=true\/(H' b).isSome=true)->B.get? b=some o
def Ac (P:Program) (w:World):tW:=fun outer H s E e s'=>∃(ea C:Addr) (a0:Value) (B:Heap) (H':Hp),e= .ref ea/\E (.ref C) none H'/\Flies P w outer H H' s ea C a0 B s'
section
variable {P:Program} {w:World} {K:PySem.W.Frag} {mg:Str->Option Value} {base:Heap}
end
section
variable {P:Program} {w:World} {K:PySem.W.Frag} {mg:Str->Option Value} {base:Heap} {N:List Str} {qual:Str} {scope:Scope} {f:Addr} {cd:Value} {A:Around} {outer:List Env} {s₀:Shared} {H₀:Hp} {E:XK}
theorem zQ {pins:List (Addr×Obj)} {σ:St} {H:Hp} {s:Shared} {h':Heap} {e C:Addr} {vs:List Value} (I:Inv (nY (Ac P w) P w K mg base N qual scope f cd A outer s₀ H₀ E) pins σ H s) (hx:Heap.MadeExcOf s.heap h' e (.ref C) vs)
  (h:E (.ref C) none H):(nY (Ac P w) P w K mg base N qual scope f cd A outer s₀ H₀ E).xe (.ref e) {s with heap:=h'}:=by
 have st:ig (envOfC qual scope s₀.heap.objs.size f cd :: outer)=s₀.heap.objs.size :: ig outer:=rfl
 have hin:∀env∈(envOfC qual scope s₀.heap.objs.size f cd :: outer),∀a,env.frame=some a->a∈ig (envOfC qual scope s₀.heap.objs.size f cd :: outer):=fun env he a ha=>BZ.mpr ⟨env,he,ha⟩
 have fr:s.heap.FunFrames base (envOfC qual scope s₀.heap.objs.size f cd :: outer):=I.stack
 have fr':=PySem.W.funFrames_hide fr hin
 refine wpAny_leaves_madeW (s:={s with heap:=h'}) I.ok.frames rfl (fun b o q=>PySem.W.of_hideAll _ q) fr' hx fun h2 t fl tu bt up=>?_
 have up2:s.heap.UpToSlots h2:=(Heap.UpToSlots.of_keeps hx.keeps).trans up
 have kB:∀b o,s.heap.get? b=some o->b∉ig (envOfC qual scope s₀.heap.objs.size f cd :: outer)->(PySem.W.hideAll s.heap (ig (envOfC qual scope s₀.heap.objs.size f cd :: outer))).get? b=some o:=fun b o q n=>PySem.W.hideAll_get _ q n
 have kp:∀b o,s.heap.get? b=some o->b∉ig (envOfC qual scope s₀.heap.objs.size f cd :: outer)->h2.get? b=some o:=fun b o q n=>fl.1 b o (kB b o q n)
 have old:∀b o,s₀.heap.get? b=some o->b∉ig outer->b∉ig (envOfC qual scope s₀.heap.objs.size f cd :: outer):=fun b o q n z=>by
  rw[st]at z
  rcases AR.mp z with z | z
  ·rw [z]at q;exact Bt _ (Heap.lt_size q)
  ·exact n z
 have tr:∀b,(H b).isSome=true->b∉ig (envOfC qual scope s₀.heap.objs.size f cd :: outer):=fun b q z=>by rw[I.stkFree b z]at q;cases q
 have un0:Un (ig outer) [] H₀ H s₀.heap s.heap:=I.base
 have slots:∀b o,s.heap.get? b=some o->b∈ig outer->∃sl,h2.get? b=some {o with slots:=sl}:=fun b o q m=>by
  obtain⟨_,o',q',nf⟩:=fr.mem (show b∈ig (envOfC qual scope s₀.heap.objs.size f cd :: outer) by rw[st];exact AY _ m)
  rw[q]at q';cases q'
  exact up2 b o q nf
 refine⟨e,C,.ref t,_,H,rfl,h,I.os,I.bare,⟨fun b o q n nf _=>kp b o (un0.keep b o q n nf (by simp)) (old b o q nf),fun b o q n m _=>?_,fun b o q n _=>un0.free b o q n (by simp),fun b o q _=>?_,un0.tups,un0.frzs,un0.tbls⟩,
  I.hok.stays fun b u q e=>kp b u e (tr b q),fl,?_,?_,fun b o q n z=>?_⟩
 ·obtain⟨sl,q1⟩:=un0.slot b o q n m (by simp)
  obtain⟨sl2,q2⟩:=slots b _ q1 m
  exact⟨sl2,q2⟩
 ·obtain⟨o1,q1⟩:=un0.there b o q (by simp)
  by_cases m:b∈ig outer
  ·obtain⟨sl,q2⟩:=slots b _ q1 m
   exact⟨_,q2⟩
  ·exact⟨o1,kp b o1 q1 (old b o q m)⟩
 ·cases q:s₀.heap.get? e with
  | none=>rfl
  | some o=>
   obtain⟨o1,q1⟩:=un0.there e o q (by simp)
   rw[hx.new]at q1;cases q1
 ·cases q:H e with
  | none=>rfl
  | some o=>
   obtain⟨o1,q1⟩:=(I.hok e o q).has
   rw[hx.new]at q1;cases q1
 ·have nb:b∉ig (envOfC qual scope s₀.heap.objs.size f cd :: outer)/\∃o1,s.heap.get? b=some o1:=by
   rcases z with z | z
   ·obtain⟨o0,q0⟩:=BJ.mp z
    obtain⟨o1,q1⟩:=un0.there b o0 q0 (by simp)
    exact⟨old b o0 q0 n,o1,q1⟩
   ·obtain⟨o0,q0⟩:=BJ.mp z
    obtain⟨o1,q1⟩:=(I.hok b o0 q0).has
    exact⟨tr b z,o1,q1⟩
  obtain⟨n1,o1,q1⟩:=nb
  have q2:=kp b o1 q1 n1
  have q:h2.get? b=some o:=q
  rw[q]at q2;cases q2
  exact kB b _ q1 n1
end
section
variable {X:Cx} {pins:List (Addr×Obj)} {σ:St} {H H':Hp} {s s':Shared} {ea C:Addr} {a0:Value} {B h2:Heap}
end
section
variable {X:Cx} {k:Nat} {f C:Addr} {fd:FuncData} {ps:List Str} {sp:Sp} {x y:Str} {st:Stmt} {p cpos epos np hpos pos:Pos} {e:Expr} {es:List Expr} {t:TA} {b₀:Stmt} {suite:List Stmt}
end
section
variable {X:Cx} {k i:Nat} {f C:Addr} {fd:FuncData} {ps:List Str} {sp:Sp} {x y n:Str} {st:Stmt} {p cpos epos np hpos pos:Pos} {e:Expr} {es:List Expr} {t:TA} {b₀:Stmt} {suite:List Stmt} {ts:TS} {c:Value}
end
section
open PySem.W PySem.Builtin.ObjectAttr PySem.Builtin PySem.Builtin.Getset_descriptor
variable {K:Frag} {x D:Addr}
variable {prog:Program} {w:World} {A:Around} {s:Shared} {E:Value->Shared->Prop}
end
section
variable {X:Cx} {k:Nat} {f:Addr} {fd:FuncData} {ps:List Str} {sp:Sp} {x:Str} {p pos:Pos} {e:Expr} {es:List Expr} {t:TA} {st:Stmt}
end
abbrev zR:=List (Int×Int)
section
variable {es:zR} {cn k:Nat} {row:List Int}
end
section
variable {es:zR} {cn:Nat} {S:List Int}
end
section
variable {es:zR} {cn:Nat} {r:List Int}
end
end L2
namespace L2
open PySem PySem.Spec PyProof.Rows PySem.W
def iK:Nat->List (List Nat)
 | 0=>[[]]
 | n+1=>iK n++(iK n).map fun l=>l++[n]
theorem vc (n:Nat):(iK n).length=2^n:=by
 induction n with
 | zero=>rfl
 | succ n ih=>show(iK n++_).length=_;rw[AK,AC,ih,Nat.pow_succ];omega
theorem xh {α:Type} {l:List α} {i:Nat} {x d:α} (h:l[i]?=some x):l.getD i d=x:=by rw[AE,h];rfl
section
variable {s:Shared} {A:Around} {w:World} {prog:Program} {E:Value->Shared->Prop}
end
theorem rj (n:Nat):∀l∈iK n,∀x∈l,x<n:=by
 induction n with
 | zero=>intro l hl x hx;rw[AN.mp hl]at hx;cases hx
 | succ n ih=>
  intro l hl x hx
  rcases AZ.mp hl with z | z
  ·have:=ih l z x hx;omega
  ·obtain⟨l',h1,rfl⟩:=Br.mp z
   rcases AZ.mp hx with y | y
   ·have:=ih l' h1 x y;omega
   ·rw [AN.mp y];omega
def gY (st:List Int) (l:List Nat):List Int:=l.map fun k=>st.getD k 0
section
variable {X:Cx}
end
section
variable {X:Cx} {pins:List (Addr×Obj)} {σ:St} {H:Hp} {s:Shared} {h':Heap}
end
section
variable {X:Cx} {a:Expr} {ta:TA} {p1 p2 kpos pos:Pos}
end
end L2
namespace L2
open PySem PySem.Spec PyProof.Rows
theorem sW (st:List Int) (l:List Nat) (j:Nat):gY st (l++[j])=gY st l++[st.getD j 0]:=by unfold gY;rw[AW];rfl
end L2
namespace L2
open PySem PySem.Spec PyProof.Rows PySem.W
abbrev SD:=Array Nat×Array (Nat×Nat×Nat)×Nat
section
variable {prog:Program} {w:World} {E:Value->Shared->Prop} {A:Around} {κ:SortKind} {it:Array Keyed} {s:Shared} {n:Nat} {lt:Nat->Nat->Bool}
end
section
variable (n:Nat) (lt:Nat->Nat->Bool) (left:Bool) (k:Nat) (q:Array Nat) (base hint mx:Nat)
end
section
variable {prog:Program} {w:World} {E:Value->Shared->Prop} {A:Around} {κ:SortKind} {it:Array Keyed} {s:Shared} {n:Nat} {lt:Nat->Nat->Bool} {left:Bool} {k:Nat} {q:Array Nat} {base hint mx:Nat}
end
section
variable {prog:Program} {w:World} {E:Value->Shared->Prop} {A:Around} {κ:SortKind} {it:Array Keyed} {s:Shared} {n:Nat} {lt:Nat->Nat->Bool}
end
section
variable {prog:Program} {w:World} {E:Value->Shared->Prop} {A:Around} {κ:SortKind} {it:Array Keyed} {s:Shared} {n:Nat} {lt:Nat->Nat->Bool} {qa qb:Array Nat} {mg:Nat}
end
section
variable {prog:Program} {w:World} {E:Value->Shared->Prop} {A:Around} {κ:SortKind} {it:Array Keyed} {s:Shared} {n:Nat} {lt:Nat->Nat->Bool}
end
section
variable (n:Nat) (lt:Nat->Nat->Bool) (lo nrem:Nat)
end
section
variable {prog:Program} {w:World} {E:Value->Shared->Prop} {A:Around} {κ:SortKind} {it:Array Keyed} {s:Shared} {n:Nat} {lt:Nat->Nat->Bool} {lo nrem:Nat}
end
section
variable (n:Nat) (lt:Nat->Nat->Bool) (size mr:Nat)
end
section
variable {prog:Program} {w:World} {E:Value->Shared->Prop} {A:Around} {κ:SortKind} {it:Array Keyed} {s:Shared} {n:Nat} {lt:Nat->Nat->Bool}
end
set_option synthInstance.maxSize 4096 in
set_option synthInstance.maxHeartbeats 200000 in
instance dSD:DecidableEq (Nat×SD):=instDecidableEqProd (α:=Nat) (β:=Array Nat×Array (Nat×Nat×Nat)×Nat)
def Ay:List Nat:=[0,1,3,7,15,31,63,47,23,55,39,11,27,59,43,19,51,35,5,13,29,61,45,21,53,37,9,25,57,41,17,49,33,2,6,14,30,62,46,22,54,38,10,26,58,42,18,50,34,4,12,28,60,44,20,52,36,8,24,56,40,16,48,32]
def Az:List Nat:=[0,1,33,49,57,61,63,2,18,26,30,32,34,42,46,48,50,54,56,58,60,62,3,11,15,17,19,23,25,27,29,31,35,39,41,43,45,47,51,53,55,59,4,8,10,12,14,16,20,22,24,28,36,38,40,44,52,5,7,9,13,21,37,6]
theorem kA {α:Type} (vs:List α) (d:α):(AH vs.length).map (fun i=>vs.getD i d)=vs:=by
 apply By
 ·simp
 ·intro i h1 h2
  rw[BG,B6,AE,AD h2];rfl
section
variable {prog:Program} {w:World} {E:Value->Shared->Prop} {A:Around} {κ:SortKind} {s:Shared} {n:Nat} {lt:Nat->Nat->Bool} {q:List Nat} {ks vs:List Value}
end
section
variable {X:Cx}
end
section
variable {X:Cx} {pins:List (Addr×Obj)} {σ:St} {H:Hp} {s:Shared} {h':Heap}
end
section
variable {X:Cx}
end
section
variable {X:Cx} {E:Value->Shared->Prop} {f:Value} {r:V->Hp->VK->Prop} {kS D:Addr} {e1:Nat} {pins:List (Addr×Obj)} {σ:St}
end
section
variable {X:Cx} {pins:List (Addr×Obj)} {σ:St} {H:Hp} {s:Shared} {r:V->Hp->VK->Prop} {C:List V->Hp->Nat->(Nat->Nat->Bool)->Prop}
end
section
variable {X:Cx} {a:Expr} {ta:TA} {p1 p2 kpos pos:Pos}
def Ad (a b:List Int):Bool:=if a.length=b.length then HT.w6 a b else decide (a.length<b.length)
end
section
variable {X:Cx} {a:Expr} {ta:TA} {p1 p2 kpos pos:Pos}
end
section
variable {n:Nat} {lt:Nat->Nat->Bool}
end
def qS:Nat->List Nat
 | 0=>[0]
 | 1=>[0,1]
 | 2=>[0,1,3,2]
 | 3=>[0,1,3,7,5,2,6,4]
 | 4=>[0,1,3,7,15,11,5,13,9,2,6,14,10,4,12,8]
 | 5=>[0,1,3,7,15,31,23,11,27,19,5,13,29,21,9,25,17,2,6,14,30,22,10,26,18,4,12,28,20,8,24,16]
 | _=>Ay
def qK:Nat->List Nat
 | 0=>[0]
 | 1=>[0,1]
 | 2=>[0,1,3,2]
 | 3=>[0,1,5,7,2,4,6,3]
 | 4=>[0,1,9,13,15,2,6,8,10,12,14,3,5,7,11,4]
 | 5=>[0,1,17,25,29,31,2,10,14,16,18,22,24,26,28,30,3,7,9,11,13,15,19,21,23,27,4,6,8,12,20,5]
 | _=>Az
def zS (n:Nat):List Nat:=(qK n).map fun i=>(qS n).getD i 0
theorem yW {P:Nat->Prop} (h0:P 0) (h1:P 1) (h2:P 2) (h3:P 3) (h4:P 4) (h5:P 5) (h6:P 6):∀n,n<=6->P n
 | 0,_=>h0 | 1,_=>h1 | 2,_=>h2 | 3,_=>h3 | 4,_=>h4 | 5,_=>h5 | 6,_=>h6
 | n+7,h=>absurd h (by omega)
theorem vd:∀n,n<=6->(zS n).Perm (AH (2^n)):=fun n h=>List.isPerm_iff.mp (yW (P:=fun n=>(zS n).isPerm (AH (2^n))=true) (by decide +kernel) (by decide +kernel) (by decide +kernel) (by decide +kernel) (by decide +kernel) (by decide +kernel) (by decide +kernel) n h)
def zT (st:List Int):List (List Int):=(zS st.length).map fun i=>gY st ((iK st.length).getD i [])
theorem ve {st:List Int} (h6:st.length<=6):(zT st).Perm ((iK st.length).map (gY st)):=by
 have:=(vd _ h6).map fun i=>gY st ((iK st.length).getD i [])
 have e:(AH (2^st.length)).map (fun i=>gY st ((iK st.length).getD i []))=(iK st.length).map (gY st):=by
  have p:=kA (iK st.length) []
  rw[vc]at p
  conv=>rhs;rw[<- p]
  rw[A3]
  rfl
 rw[e]at this
 exact this
def yX (st:List Int):List (List Int):=(iK st.length).map (gY st)
theorem oT {st:List Int} {x:Int} {l:List Nat} (h:∀k∈l,k<st.length):gY (st++[x]) l=gY st l:=by
 unfold gY
 refine BR fun k hk=>?_
 rw[AE,AE,Bp (h k hk)]
theorem vf (st:List Int) (x:Int):yX (st++[x])=yX st++(yX st).map fun l=>l++[x]:=by
 unfold yX
 rw[AK,AS]
 show(iK st.length++(iK st.length).map fun l=>l++[st.length]).map (gY (st++[x]))=_
 rw[AW]
 refine congr (congrArg _ ?_) ?_
 ·exact BR fun l hl=>oT (rj _ l hl)
 ·rw [A3,A3]
  refine BR fun l hl=>?_
  show gY (st++[x]) (l++[st.length])=gY st l++[x]
  rw[sW,oT (rj _ l hl),AE,Bo (AI _),B3]
  rfl
def zh (l g:List Int):List Int:=l.filter fun x=> !decide (x∈g)
def yY (may:List (List Int)) (g:List Int):List (List Int):=may.map fun l=>zh l g
theorem m9 {l g:List Int} {x:Int}:x∈zh l g<->x∈l/\x∉g:=by unfold zh;rw[Bj];simp
theorem rp {may:List (List Int)} {g:List Int}:(yY may g).length=may.length:=AC _
theorem qv {may:List (List Int)} {g:List Int} {i:Nat}:(yY may g).getD i []=zh (may.getD i []) g:=by
 unfold yY
 rw[AE,AG,AE]
 cases may[i]?<;>rfl
theorem wF {may:List (List Int)} {ts:List qY} {g hs:List Int}:IsPlan (yY may g) ts hs<->IsPlan may ts hs/\∀x∈hs,x∉g:=by
 constructor
 ·intro p
  have l:=p.len
  rw[rp]at l
  refine⟨⟨l,fun i hi=>?_,p.kp⟩,fun x hx=>?_⟩
  ·have:=p.of i hi
   rw[qv,m9]at this
   exact this.1
  ·obtain⟨i,hi,rfl⟩:=AU.mp hx
   have:=p.of i hi
   rw[qv,m9,aH hi]at this
   exact this.2
 ·rintro⟨p,h⟩
  refine⟨by rw[rp];exact p.len,fun i hi=>?_,p.kp⟩
  rw[qv,m9]
  exact⟨p.of i hi,h _ (by rw[aH hi];exact A1 hi)⟩
structure AllOf (may:List (List Int)) (U:List Int):Prop where
 up:U.Pairwise (· < ·)
 mem:∀x,x∈U<->∃p∈may,x∈p
theorem AllOf.sub {may:List (List Int)} {U:List Int} (a:AllOf may U):∀p∈may,∀b∈p,b∈U:=fun p hp b hb=>(a.mem b).mpr ⟨p,hp,hb⟩
theorem vg {may:List (List Int)} {ts:List qY} {hs U:List Int} (p:IsPlan may ts hs) (a:AllOf may U):∀x∈hs,x∈U:=fun x hx=>by
 obtain⟨i,hi,rfl⟩:=AU.mp hx
 have:=p.of i hi
 rw[aH hi]at this
 have hl:=p.len
 rw[i4 (by omega)]at this
 exact a.sub _ (A1 (by omega)) _ this
theorem mi (P:Int->Bool):∀(n:Nat) (U:List Int),U.length=n->U.filter P∈yX U
 | 0,U,h=>by rw[List.eq_nil_of_length_eq_zero h];exact AN.mpr rfl
 | n+1,U,h=>by
  rcases List.eq_nil_or_concat U with rfl | ⟨V,x,rfl⟩
  ·cases h
  ·rw [List.concat_eq_append]at h ⊢
   rw[AK,AS]at h
   have ih:=mi P n V (by omega)
   rw[vf,Bn,BY,Cf]
   by_cases c:P x=true
   ·rw [if_pos c];exact Bc _ (Br.mpr ⟨_,ih,rfl⟩)
   ·rw [if_neg c,BX];exact BM _ ih
theorem sX {U:List Int} (h6:U.length<=6) (P:Int->Bool):U.filter P∈zT U:=(ve h6).mem_iff.mpr (mi P _ U rfl)
theorem Ae {may:List (List Int)} {ts:List qY} {U g:List Int} {Ps:List (List Int)} (A:AllOf may U) (h6:U.length<=6) (pn:∀hs∈Ps,IsPlan may ts hs) (fw:∀s∈zT U,Ad s g=true->∃hs∈Ps,∀x∈hs,x∉s) {S:List Int} (no:∀hs,¬IsPlan (yY may S) ts hs):g.length<=S.length:=by
 refine Decidable.byContradiction fun z=>?_
 have m:=sX h6 (fun x=>decide (x∈S))
 have le:(U.filter fun x=>decide (x∈S)).length<=S.length:=((jv A.up).sublist List.filter_sublist).length_le_of_subset fun x hx=>of_decide_eq_true (Bj.mp hx).2
 obtain⟨hs,hm,hd⟩:=fw _ m (by unfold Ad;rw[if_neg (by omega)];exact decide_eq_true (by omega))
 refine no hs (wF.mpr ⟨pn hs hm,fun x hx hS=>hd x hx (Bj.mpr ⟨vg (pn hs hm) A x hx,decide_eq_true hS⟩)⟩)
end L2
namespace L2
open PySem PySem.Spec PyProof.Rows
section
variable {X:Cx} {tg:Expr}
def ya (ta:TA):TI:=fun σ H R=>ta σ H fun vs H1=>∃i j k:Int,vs=[.int i,.int j,.int k]/\0<=i/\i<2^60/\ -(2^60)<j/\j<2^60/\0<k/\k<1073741824/\R (uC i k (if i<j then(j-i-1)/k+1 else 0).toNat) H1
theorem qw {a b c:Expr} {ta:TA} {p pos:Pos} (hg:Gl X "range") (hm:X.mg "range"=none) (ha:PA X [a,b,c] ta) (hs:starEach [a,b,c] X.env=[(false,eval a X.env),(false,eval b X.env),(false,eval c X.env)]:=by rfl)
  (hs2:starEach [b,c] X.env=[(false,eval b X.env),(false,eval c X.env)]:=by rfl):PI X tg (.Call (.Name "range" p) [a,b,c] [] pos) (ya ta):=by
 intro pins s σ H R I h
 refine Call_ (dH I hg hm boot_range (PyProof.Rows.callWith_type1 (bK (ha pos pins s σ H _ I h) fun us s1 ⟨vs,H1,I1,r1,q1⟩=>?_) (by rw[hs,hs2]) (by rw[hs2];rfl)))
 obtain⟨i,j,k,e,h1,h2,h3,h4,h5,h6,q⟩:=q1
 subst e
 cases r1 with
 | cons r rr=>
  cases rr with
  | cons r' rr=>
   cases rr with
   | cons r'' rr=>
    cases rr
    obtain⟨t,rfl⟩:=r
    obtain⟨t',rfl⟩:=r'
    obtain⟨t'',rfl⟩:=r''
    have hfit:∀z:Int,-(2^62)<=z->z<2^62->Builtin.Range.rangeFitsLong z=true:=fun z a b=>by
     unfold Builtin.Range.rangeFitsLong
     rw[BL,decide_eq_true_eq,decide_eq_true_eq]
     omega
    have hsz:Builtin.Range.rangeSize i j k=(if i<j then(j-i-1)/k+1 else 0):=by
     unfold Builtin.Range.rangeSize
     rw[if_pos h5]
    have hnn:0<=(if i<j then(j-i-1)/k+1 else 0):=by
     split
     ·have:=Int.ediv_nonneg (a:=j-i-1) (b:=k) (by omega) (by omega);omega
     ·omega
    have hle:(if i<j then(j-i-1)/k+1 else 0)<2^62:=by
     split
     ·have:=Int.ediv_le_self (a:=j-i-1) k (by omega);omega
     ·omega
    have hsm:Builtin.Range.small i j k=true:=by
     unfold Builtin.Range.small
     rw[hsz,hfit i (by omega) (by omega),hfit j (by omega) (by omega),hfit k (by omega) (by omega),hfit _ (by omega) hle,if_pos h5,hfit (j+(k-1)) (by omega) (by omega)]
     simp
    refine call_range_3 (by omega) ?_ (Or.inl (PyProof.noPylong_small (by omega)))
    refine wpAny_pyIter_range (IsRange.new ..) hsm ?_
    generalize hs9:({s1 with heap:=s1.heap.push {cls:= .type "range",data:= .fields #[.int i t,.int j t',.int k t'']},toks:=s1.toks}:Shared)=s2
    have I2:Inv X pins σ H1 s2:=by rw[<- hs9];exact I1.kept fun b o e=>Heap.get?_push_of_some _ e
    refine⟨s2.heap.objs.size,[s2.heap.objs.size],_,_,H1,rfl,I2.kept (t':=s2.toks) fun b o e=>Heap.get?_push_of_some _ e,r9 _ i k (if i<j then(j-i-1)/k+1 else 0).toNat,?_,fun b hb=>?_,q⟩
    ·have e1:i+((0:Nat):Int)*k=i:=by simp
     have e2:(((if i<j then(j-i-1)/k+1 else 0).toNat:Nat):Int)-((0:Nat):Int)=Builtin.Range.rangeSize i j k:=by rw[hsz];omega
     rw[e1,e2]
     exact Heap.get?_push_size _ rfl
    ·have e:b=s2.heap.objs.size:=by simpa using hb
     subst e
     exact I2.fpOk (AI _) (I2.hok.fresh (AI _))
end
abbrev cw:=List (List (Int×Int))
def fg (rows:cw):List (List Int):=rows.map aD
theorem vh (rows:cw):(fg rows).length=rows.length:=AC _
structure BillOk (rows:cw) (bs:List Int):Prop where
 up:∀row∈rows,(aD row).Pairwise (· < ·)
 inn:∀row∈rows,∀x∈row,x.1∈bs
 len:∀row∈rows,row.length<=bs.length
 bu:bs.Pairwise (· < ·)
 pos:∀b∈bs,1<=b
section
variable {X:Cx} {k i:Nat} {f C:Addr} {fd:FuncData} {ps:List Str} {sp:Sp} {x y nm:Str} {st:Stmt} {p cpos epos np hpos pos xpos:Pos} {e:Expr} {es:List Expr} {t:TA} {b₀:Stmt} {suite:List Stmt} {ts:TS} {c:Value}
end
end L2
namespace L2
open PySem PySem.Spec PyProof.Rows PySem.W
theorem sY (rows:cw) (p:List Int):(oP rows p).length=(dd p).length:=by unfold oP;rw[AC,Bm]
theorem vi {rows:cw} {p:List Int} {b:Nat} (h:b<(dd p).length):(oP rows p).getD b []=fe rows (aU p b):=by
 unfold oP
 rw[AE,AG,Bz h];rfl
structure QB (rows:cw) (U:List Int):Prop where
 r6:rows.length<=6
 ok:∀row∈rows,row.length<=20/\(aD row).Nodup
 up:∀row∈rows,(aD row).Pairwise (· < ·)
 nn:∀row∈rows,∀x∈row,0<=x.2
 sub:∀row∈rows,∀x∈row,x.1∈U
 u26:U.length<=26
theorem QB.nd {rows:cw} {U:List Int} (h:QB rows U):∀row∈rows,(aD row).Nodup:=fun row hr=>(h.ok row hr).2
theorem ng {rows:cw} {U:List Int} (h:QB rows U):∀st,st≠[]->(bS rows st).Nodup/\(bS rows st).length<=20/\∀b∈bS rows st,b∈U:=by
 refine iJ (fun s=>?_) (fun st s hne ih=>?_)
 ·show(aD (rows.getD s [])).Nodup/\(aD (rows.getD s [])).length<=20/\∀b∈aD (rows.getD s []),b∈U
  rw[AE]
  cases e:rows[s]? with
  | none=>exact⟨Cu,A0 _,fun _ z=>by cases z⟩
  | some row=>
   have m:=AJ e
   refine⟨(h.ok row m).2,?_,fun b hb=>?_⟩
   ·show(row.map (·.1)).length<=20
    rw[AC];exact(h.ok row m).1
   ·obtain⟨x,hx,rfl⟩:=Br.mp hb
    exact h.sub row m x hx
 ·rw [ff hne]
  exact⟨ih.1.sublist List.filter_sublist,A9 (Bh _ _) ih.2.1,fun b hb=>ih.2.2 b (Bj.mp hb).1⟩
end L2
namespace L2
open PySem PySem.Spec PyProof.Rows
end L2
namespace L2
open PySem PySem.Spec PyProof.Rows PySem.W
section
open PySem.AutoSeq1 (wpAny_loadPart')
open PySem.MeetsSeq PySem.MeetsSeq2 PySem.MeetsSeq3
end
section
variable {s:Shared} {A:Around} {w:World} {prog:Program} {E:Value->Shared->Prop}
end
section
variable {prog:Program} {w:World} {E:Value->Shared->Prop} {A:Around} {κ:SortKind} {s:Shared} {n:Nat} {lt:Nat->Nat->Bool} {q:List Nat} {ks vs:List Value}
end
section
variable {X:Cx}
end
inductive BPap where
 | tie (j:Int)
 | short (bs:List Int)
 | split (ps:List BPap)
 | dear (pr:List Int) (es:List (Int×Int))
instance:Inhabited BPap:=⟨.tie 0⟩
inductive BPapAt (H:Hp):V->BPap->Prop where
 | tie {t:Addr} {j:Int} (ht:H t=some (.tup [.str "tie",.int j])):BPapAt H (.ref t) (.tie j)
 | short {t l:Addr} {bs:List Int} (ht:H t=some (.tup [.str "short",.ref l])) (hl:H l=some (.lst (bs.map V.int))):BPapAt H (.ref t) (.short bs)
 | split {t l:Addr} {vs:List V} {ps:List BPap} (ht:H t=some (.tup [.str "split",.ref l])) (hl:H l=some (.lst vs)) (hn:vs.length=ps.length) (h:∀(i:Nat) v q,vs[i]?=some v->ps[i]?=some q->BPapAt H v q):BPapAt H (.ref t) (.split ps)
 | dear {t l d:Addr} {pr:List Int} {es:List (Int×Int)} (ht:H t=some (.tup [.str "dear",.ref l,.ref d])) (hl:H l=some (.lst (pr.map V.int))) (hd:RowAt H d es):BPapAt H (.ref t) (.dear pr es)
theorem BPapAt.same {H H':Hp} {v:V} {q:BPap} (p:BPapAt H v q) (s:Same H H'):BPapAt H' v q:=by
 induction p with
 | tie ht=>exact .tie (s _ _ ht)
 | short ht hl=>exact .short (s _ _ ht) (s _ _ hl)
 | split ht hl hn h ih=>exact .split (s _ _ ht) (s _ _ hl) hn fun i v q e1 e2=>ih i v q e1 e2
 | dear ht hl hd=>exact .dear (s _ _ ht) (s _ _ hl) (hd.same s)
theorem BPapAt.ref {H:Hp} {v:V} {q:BPap} (p:BPapAt H v q):∃t,v= .ref t:=by cases p<;>exact⟨_,rfl⟩
inductive BBnd:BPap->Prop where
 | tie {j:Int}:BBnd (.tie j)
 | short {bs:List Int} (h:bs.length<=1000):BBnd (.short bs)
 | split {ps:List BPap} (hn:ps.length<=1000) (h:∀q∈ps,BBnd q):BBnd (.split ps)
 | dear {pr:List Int} {es:List (Int×Int)} (h1:pr.length<=1000) (h2:es.length<=1000):BBnd (.dear pr es)
def jd (es:List (Int×Int)):Bool:=(es.all fun x=>decide (1<=x.1/\x.1<=10^18/\0<=x.2))&&jK (es.map (·.1))
def ly (row es:List (Int×Int)) (x:Int):Bool:=row.all fun y=>decide (x-du es y.1<=y.2)
def rq (rows:cw) (p pr:List Int) (es:List (Int×Int)):Bool:=(AH (dd p).length).all fun b=>ly (fe rows (aU p b)) es (pr.getD b 0)
def eI (rows:cw) (p:List Int) (bd:Int) (pr:List Int) (es:List (Int×Int)):Bool:=(decide (pr.length=(dd p).length)&&jd es)&&(rq rows p pr es&&decide (bd<=pr.sum-(es.map (·.2)).sum))
def tj (ts:List qY) (p:List Int) (j:Int):Bool:=if 0<=j/\j<(ts.length:Int)then(match ts[j.toNat]? with | some t=>brk (fun i=>p.getD i 0) p.length t.1 t.2.1 t.2.2 | none=>false)else false
def cP (rows:cw) (ts:List qY) (bd:Int):Nat->List Int->BPap->Bool
 | _,p,.tie j=>tj ts p j
 | _,p,.short bs=>cO (fg rows) p bs
 | _,p,.dear pr es=>eI rows p bd pr es
 | 0,_,.split _=>false
 | n+1,p,.split ps=>decide (p.length<rows.length/\ps.length=(dd p).length+1)&&(AH ps.length).all fun j=>cP rows ts bd n (p++[(j:Int)]) (ps.getD j default)
theorem wG (may:List (List Int)) (ts:List qY) (p:List Int) (j:Int):ShowsIs may ts p (.tie j) (tj ts p j):=by
 unfold tj
 by_cases z:0<=j/\j<(ts.length:Int)
 ·rw [if_pos z]
  have:j.toNat<ts.length:=by omega
  rw[AD this]
  exact .tie z.1 (AD this)
 ·rw [if_neg z]
  exact .noTie z
theorem vj {rows:cw} {ts:List qY} {bd:Int} {n:Nat} {p:List Int} {j:Int}:cP rows ts bd n p (.tie j)=tj ts p j:=by cases n<;>rfl
theorem qy {rows:cw} {ts:List qY} {bd:Int} {n:Nat} {p:List Int} {bs:List Int}:cP rows ts bd n p (.short bs)=cO (fg rows) p bs:=by cases n<;>rfl
theorem mj {rows:cw} {ts:List qY} {bd:Int} {n:Nat} {p pr:List Int} {es:List (Int×Int)}:cP rows ts bd n p (.dear pr es)=eI rows p bd pr es:=by cases n<;>rfl
theorem kC {rows:cw} {ts:List qY} {bd:Int} {n:Nat} {p:List Int} {ps:List BPap}:cP rows ts bd (n+1) p (.split ps)=(decide (p.length<rows.length/\ps.length=(dd p).length+1)&&(AH ps.length).all fun j=>cP rows ts bd n (p++[(j:Int)]) (ps.getD j default)):=rfl
theorem wH {prog:Program} {w:World} {A:Around} {R:Result->Shared->Prop} {it bs:Addr} {fq wq:List Addr} {n:Nat} {P:Nat->Value->Prop} {Z:Nat->Heap->Prop} (d:Value) (W:Walks prog w A.in1 it fq wq n P Z) (bt:Nat->Nat->Bool) (cm:CmpOf prog w A.in1 .Lt P bt) (nf:bs∉fq):
  ∀(k j:Nat) (s:Shared) (b:Value) (c:Nat),n-(j+1)=k->j+1<=n->Z (j+1) s.heap->P (argBest bt j) b->s.heap.get? bs=some {cls:= .type "list",data:= .seq #[b,b] c}->
  (∀v h' t,P (argBest bt (n-1)) v->(∀a o,a∉wq->a≠bs->s.heap.get? a=some o->h'.get? a=some o)->R (.ok (.ret v)) {s with heap:=h',toks:=t})->
  codeAny (model prog w) A (.builtin "min.loop" ⟨[.ref it,.none,.ref bs],[(Str.ofString "default",d)]⟩) R s:=by
 have nw:bs∉wq:=fun z=>nf (W.sub _ z)
 have nm:(toString "min"++toString ".loop":String)="min.loop":=by decide
 intro k
 induction k with
 | zero=>
  intro j s b c hk hj hz hb hs hR
  have e:j+1=n:=by omega
  refine codeAny_builtin PySem.F.entry_min_loop ?_
  rw[Around.under_plainId PySem.F.plain_min_loop _]
  refine wpAny_bind (m:=seqItems? (.ref bs)) (wpAny_seqItems hs rfl ?_)
  refine wpAny_bind (m:=tryCatch (pyNext (.ref it)) _) (wpAny_tryCatch (W.done s _ _ (e▸hz) fun h' t kp=>?_))
  have hs':=kp bs _ nw hs
  refine wpAny_bind (m:=updateSeq bs (fun _=>#[])) (wpAny_updateSeq hs' rfl (wpAny_bind (wpAny_letGo (wpAny_pure (hR b _ t (e▸hb) fun a o h1 h2 g=>?_)))))
  exact(Heap.get?_update_other _ _ (Ne.symm h2)).trans (kp a o h1 g)
 | succ k ih=>
  intro j s b c hk hj hz hb hs hR
  have lt:j+1<n:=by omega
  refine codeAny_builtin PySem.F.entry_min_loop ?_
  rw[Around.under_plainId PySem.F.plain_min_loop _]
  refine wpAny_bind (m:=seqItems? (.ref bs)) (wpAny_seqItems hs rfl ?_)
  refine wpAny_bind (m:=tryCatch (pyNext (.ref it)) _) (wpAny_tryCatch (W.item (j+1) s _ _ lt hz fun v h' t hv hz' kp=>?_))
  have hs':=kp bs _ nw hs
  refine wpAny_bind (m:=tryCatch (holding [v,v] (richCompare .Lt v b >>= _)) _) (wpAny_tryCatch (wpAny_holding (wpAny_bind (cm (j+1) (argBest bt j) v b _ _ _ hv hb ?_))))
  refine wpAny_bind (wpAny_holding (wpAny_truthy_bool (wpAny_bind (wpAny_letGo (wpAny_pure ?_)))))
  cases q:bt (j+1) (argBest bt j)with
  | true=>
   simp only[if_true]
   refine wpAny_bind (wpAny_updateSeq hs' rfl (wpAny_bind (wpAny_letGo ?_)))
   rw[nm]
   refine wpAny_pure ⟨plainId_quiet PySem.F.plain_min_loop _,ih (j+1) _ v _ (by omega) lt (W.frame _ _ _ hz' fun a h1 o g=>(Heap.get?_update_other _ _ fun y:bs=a=>nf (y▸h1)).trans g) (by simp only[argBest,q,if_true];exact hv) (Heap.get?_update_self _ hs' rfl) fun v' h2 t2 p2 k2=>hR v' h2 t2 p2 fun a o h1 h3 g=>?_⟩
   exact k2 a o h1 h3 ((Heap.get?_update_other _ _ (Ne.symm h3)).trans (kp a o h1 g))
  | false=>
   simp only[Be,if_false]
   refine wpAny_bind (wpAny_letGo ?_)
   rw[nm]
   exact wpAny_pure ⟨plainId_quiet PySem.F.plain_min_loop _,ih (j+1) _ b c (by omega) lt hz' (by simp only[argBest,q,Be,if_false];exact hb) hs' fun v' h2 t2 p2 k2=>hR v' h2 t2 p2 fun a o h1 h3 g=>k2 a o h1 h3 (kp a o h1 g)⟩
theorem vk {prog:Program} {w:World} {A:Around} {R:Result->Shared->Prop} {it bs:Addr} {fq wq:List Addr} {n:Nat} {P:Nat->Value->Prop} {Z:Nat->Heap->Prop} (d:Value) (W:Walks prog w A.in1 it fq wq n P Z) (bt:Nat->Nat->Bool) (cm:CmpOf prog w A.in1 .Lt P bt) (nf:bs∉fq) {s:Shared} {c:Nat} (hz:Z 0 s.heap) (hs:s.heap.get? bs=some {cls:= .type "list",data:= .seq #[] c})
  (h0:n=0->∀h' t,(∀a o,a∉wq->a≠bs->s.heap.get? a=some o->h'.get? a=some o)->R (.ok (.ret d)) {s with heap:=h',toks:=t})
  (hR:0<n->∀v h' t,P (argBest bt (n-1)) v->(∀a o,a∉wq->a≠bs->s.heap.get? a=some o->h'.get? a=some o)->R (.ok (.ret v)) {s with heap:=h',toks:=t}):
  codeAny (model prog w) A (.builtin "min.loop" ⟨[.ref it,.none,.ref bs],[(Str.ofString "default",d)]⟩) R s:=by
 have nw:bs∉wq:=fun z=>nf (W.sub _ z)
 have nm:(toString "min"++toString ".loop":String)="min.loop":=by decide
 refine codeAny_builtin PySem.F.entry_min_loop ?_
 rw[Around.under_plainId PySem.F.plain_min_loop _]
 refine wpAny_bind (m:=seqItems? (.ref bs)) (wpAny_seqItems hs rfl ?_)
 rcases Nat.eq_zero_or_pos n with z | z
 ·refine wpAny_bind (m:=tryCatch (pyNext (.ref it)) _) (wpAny_tryCatch (W.done s _ _ (z▸hz) fun h' t kp=>?_))
  exact wpAny_bind (wpAny_rule (wpAny_pure (h0 z h' t fun a o h1 _ g=>kp a o h1 g)))
 ·refine wpAny_bind (m:=tryCatch (pyNext (.ref it)) _) (wpAny_tryCatch (W.item 0 s _ _ z hz fun v h' t hv hz' kp=>?_))
  have hs':=kp bs _ nw hs
  refine wpAny_bind (m:=updateSeq bs (fun _=>#[v,v])) (wpAny_updateSeq hs' rfl ?_)
  rw[nm]
  refine wpAny_pure ⟨plainId_quiet PySem.F.plain_min_loop _,wH d W bt cm nf _ 0 _ v _ rfl z (W.frame _ _ _ hz' fun a h1 o g=>(Heap.get?_update_other _ _ fun y:bs=a=>nf (y▸h1)).trans g) hv (Heap.get?_update_self _ hs' rfl) fun v' h2 t2 p2 k2=>hR z v' h2 t2 p2 fun a o h1 h3 g=>?_⟩
  exact k2 a o h1 h3 ((Heap.get?_update_other _ _ (Ne.symm h3)).trans (kp a o h1 g))
theorem tE (a d:Value):argsOk "min" ⟨[a],[(Str.ofString "default",d)]⟩:=by unfold argsOk;kernel_rfl
def yZ (K:PySem.W.Frag) (ta:TA) (td:TE):TE:=fun σ H Q=>ta σ H fun vs H1=>td σ H1 fun d H2=>∃(p:Addr) (ns:List Int),vs=[.ref p]/\SqL K H2 p (ns.map V.int)/\(ns=[]->Q d H2)/\∀m,m∈ns->(∀x∈ns,m<=x)->Q (.int m) H2
section
variable {X:Cx} {a de:Expr} {ta:TA} {td:TE} {p1 kpos pos:Pos}
theorem wI (K:PySem.W.Frag) (hg:Gl X "min") (hm:X.mg "min"=none) (ha:PA X [a] ta) (hd:PE X de td) (hK:X.K=K:=by rfl) (hc:X.calm=true:=by rfl)
  (he:backTo pos (starEach [a] X.env)=(false,eval a X.env) :: backTo pos (starEach [] X.env):=by rfl) (hpl:(backTo pos (starEach [a] X.env)).any (·.1)=false:=by rfl):
  PE X (.Call (.Name "min" p1) [a] [⟨some "default",de,kpos⟩] pos) (yZ K ta td):=by
 subst hK
 intro pins s0 σ H0 Q I0 h
 refine wpAny_Call_Name_kw (dH I0 hg hm boot_min ?_)
 refine PyProof.Rows.callWith_kw (bK (ha pos pins s0 σ H0 _ I0 h) fun us s1 ⟨vs,H1,I1,r,q1⟩=>?_) he hpl
 refine wpAny_evalAll_cons (wpAny_bind (bK (hd pins s1 σ H1 _ I1 q1) fun dv s ⟨d,H,I,rd,q⟩=>wpAny_bind (wpAny_standAt (wpAny_pure (wpAny_evalAll_nil ?_)))))
 obtain⟨p,ns,e,hq,q0,q⟩:=q
 subst e
 obtain⟨u,e,rx⟩:=eA r
 subst e
 cases rx
 obtain⟨its,rv,pl,hz⟩:=I.list hq
 have hl:=rv.length
 rw[AC]at hl
 have nm:(toString "min"++toString ".loop":String)="min.loop":=by decide
 refine kmk_tree PySem.F.kind_min PySem.F.plain_min PySem.F.entry_min (tE _ _) ?_
 refine wpAny_bind (m:=Builtin.Builtins.bindParams "min" ["key","default"] 0 ⟨[],[(Str.ofString "default",dv)]⟩) (wpAny_of_eq (show _=pure [none,some dv]from rfl) ?_)
 refine wpAny_bind (wpAny_pure (wpAny_bind (wpAny_pyIter_list pl.isList (wpAny_bind (wpAny_newList ?_ (A0 _))))))
 rw[nm]
 have hlt:p<s.heap.objs.size:=by
  obtain⟨o,ho,_⟩:=pl.isList
  exact Heap.lt_size ho
 have hval:∀(i:Nat) (v:Value),its.toArray[i]?=some v->∃t,v= .int (ns.getD i 0) t:=fun i v hi=>by
  have hi':its[i]?=some v:=by simpa using hi
  have h2:i<ns.length:=by rw[hl];exact(AF.mp hi').1
  obtain⟨u,eu,ru⟩:=rv.get (i:=i) (x:= .int ns[i]) (by simp[h2])
  rw[hi']at eu
  cases eu
  obtain⟨t,e⟩:=ru
  exact⟨t,by rw[e];simp[h2]⟩
 have sz1:(s.heap.push {cls:= .type "list_iterator",data:= .fields #[.ref p,.int 0 0]}).objs.size=s.heap.objs.size+1:=Heap.size_push ..
 have W:=Walks.list (prog:=X.prog) (w:=X.w) (A:=X.A.in1) (show X.A.in1.handled=none from I.ok.hd hc) s.heap.objs.size p (AV hlt) its.toArray
 have cmx:=CmpOf.ints_lt (prog:=X.prog) (w:=X.w) (A:=X.A.in1) (fun i=>ns.getD i 0) hval
 refine wpAny_pure ⟨plainId_quiet PySem.F.plain_min_loop _,vk dv W _ cmx (fun m=>?_) ?_ (Heap.get?_push_size _ rfl) (fun z h' t kp=>?_) fun z v h' t hP kp=>?_⟩
 ·simp only[AR,A4,or_false]at m
  rw[sz1]at m
  rcases m with y | y
  ·exact absurd y (BD (Bs _))
  ·exact absurd y.symm (AV (Bk hlt))
 ·refine⟨⟨_,Heap.get?_push_of_some _ (Heap.get?_push_size _ rfl),rfl,rfl⟩,?_⟩
  obtain⟨o,ho,y⟩:=pl.isList
  exact⟨o,Heap.get?_push_of_some _ (Heap.get?_push_of_some _ ho),y⟩
 ·have old:∀b o,s.heap.get? b=some o->h'.get? b=some o:=fun b o e=>by
   have:=Heap.lt_size e
   refine kp b o (fun y=>?_) (fun y=>?_) (Heap.get?_push_of_some _ (Heap.get?_push_of_some _ e))
   ·rw [AN]at y
    exact absurd this (by rw[y];exact Bt _)
   ·rw [y,sz1]at this
    exact absurd this (Nat.not_lt_of_le (Cq _))
  refine⟨d,H,I.kept old,rd,q0 ?_⟩
  rw[AM]at z
  exact A5.mp (by omega)
 ·obtain⟨t',rfl⟩:=hval _ _ hP
  have hb:=iB (fun i j=>decide (ns.getD i 0<ns.getD j 0)) (its.toArray.size-1)
  have hs:its.toArray.size=ns.length:=by rw[AM];omega
  rw[hs]at hb z
  have old:∀b o,s.heap.get? b=some o->h'.get? b=some o:=fun b o e=>by
   have:=Heap.lt_size e
   refine kp b o (fun y=>?_) (fun y=>?_) (Heap.get?_push_of_some _ (Heap.get?_push_of_some _ e))
   ·rw [AN]at y
    exact absurd this (by rw[y];exact Bt _)
   ·rw [y,sz1]at this
    exact absurd this (Nat.not_lt_of_le (Cq _))
  refine⟨.int _,H,I.kept old,⟨t',rfl⟩,q _ ?_ fun x hx=>?_⟩
  ·rw [hs,aH (by omega)];exact A1 _
  ·obtain⟨j,hj,ej⟩:=AU.mp hx
   have:=iD (fun i=>ns.getD i 0) (ns.length-1) j (by omega)
   rw[hs]
   rw[aH hj,ej]at this
   exact this
end
theorem wJ {prog:Program} {w:World} {A:Around} {R:Result->Shared->Prop} {it bs:Addr} {fq wq:List Addr} {n:Nat} {P:Nat->Value->Prop} {Z:Nat->Heap->Prop} (d:Value) (W:Walks prog w A.in1 it fq wq n P Z) (bt:Nat->Nat->Bool) (cm:CmpOf prog w A.in1 .Gt P bt) (nf:bs∉fq):
  ∀(k j:Nat) (s:Shared) (b:Value) (c:Nat),n-(j+1)=k->j+1<=n->Z (j+1) s.heap->P (argBest bt j) b->s.heap.get? bs=some {cls:= .type "list",data:= .seq #[b,b] c}->
  (∀v h' t,P (argBest bt (n-1)) v->(∀a o,a∉wq->a≠bs->s.heap.get? a=some o->h'.get? a=some o)->R (.ok (.ret v)) {s with heap:=h',toks:=t})->
  codeAny (model prog w) A (.builtin "max.loop" ⟨[.ref it,.none,.ref bs],[(Str.ofString "default",d)]⟩) R s:=by
 have nw:bs∉wq:=fun z=>nf (W.sub _ z)
 have nm:(toString "max"++toString ".loop":String)="max.loop":=by decide
 intro k
 induction k with
 | zero=>
  intro j s b c hk hj hz hb hs hR
  have e:j+1=n:=by omega
  refine codeAny_builtin PySem.F.entry_max_loop ?_
  rw[Around.under_plainId PySem.F.plain_max_loop _]
  refine wpAny_bind (m:=seqItems? (.ref bs)) (wpAny_seqItems hs rfl ?_)
  refine wpAny_bind (m:=tryCatch (pyNext (.ref it)) _) (wpAny_tryCatch (W.done s _ _ (e▸hz) fun h' t kp=>?_))
  have hs':=kp bs _ nw hs
  refine wpAny_bind (m:=updateSeq bs (fun _=>#[])) (wpAny_updateSeq hs' rfl (wpAny_bind (wpAny_letGo (wpAny_pure (hR b _ t (e▸hb) fun a o h1 h2 g=>?_)))))
  exact(Heap.get?_update_other _ _ (Ne.symm h2)).trans (kp a o h1 g)
 | succ k ih=>
  intro j s b c hk hj hz hb hs hR
  have lt:j+1<n:=by omega
  refine codeAny_builtin PySem.F.entry_max_loop ?_
  rw[Around.under_plainId PySem.F.plain_max_loop _]
  refine wpAny_bind (m:=seqItems? (.ref bs)) (wpAny_seqItems hs rfl ?_)
  refine wpAny_bind (m:=tryCatch (pyNext (.ref it)) _) (wpAny_tryCatch (W.item (j+1) s _ _ lt hz fun v h' t hv hz' kp=>?_))
  have hs':=kp bs _ nw hs
  refine wpAny_bind (m:=tryCatch (holding [v,v] (richCompare .Gt v b >>= _)) _) (wpAny_tryCatch (wpAny_holding (wpAny_bind (cm (j+1) (argBest bt j) v b _ _ _ hv hb ?_))))
  refine wpAny_bind (wpAny_holding (wpAny_truthy_bool (wpAny_bind (wpAny_letGo (wpAny_pure ?_)))))
  cases q:bt (j+1) (argBest bt j)with
  | true=>
   simp only[if_true]
   refine wpAny_bind (wpAny_updateSeq hs' rfl (wpAny_bind (wpAny_letGo ?_)))
   rw[nm]
   refine wpAny_pure ⟨plainId_quiet PySem.F.plain_max_loop _,ih (j+1) _ v _ (by omega) lt (W.frame _ _ _ hz' fun a h1 o g=>(Heap.get?_update_other _ _ fun y:bs=a=>nf (y▸h1)).trans g) (by simp only[argBest,q,if_true];exact hv) (Heap.get?_update_self _ hs' rfl) fun v' h2 t2 p2 k2=>hR v' h2 t2 p2 fun a o h1 h3 g=>?_⟩
   exact k2 a o h1 h3 ((Heap.get?_update_other _ _ (Ne.symm h3)).trans (kp a o h1 g))
  | false=>
   simp only[Be,if_false]
   refine wpAny_bind (wpAny_letGo ?_)
   rw[nm]
   exact wpAny_pure ⟨plainId_quiet PySem.F.plain_max_loop _,ih (j+1) _ b c (by omega) lt hz' (by simp only[argBest,q,Be,if_false];exact hb) hs' fun v' h2 t2 p2 k2=>hR v' h2 t2 p2 fun a o h1 h3 g=>k2 a o h1 h3 (kp a o h1 g)⟩
theorem vm {prog:Program} {w:World} {A:Around} {R:Result->Shared->Prop} {it bs:Addr} {fq wq:List Addr} {n:Nat} {P:Nat->Value->Prop} {Z:Nat->Heap->Prop} (d:Value) (W:Walks prog w A.in1 it fq wq n P Z) (bt:Nat->Nat->Bool) (cm:CmpOf prog w A.in1 .Gt P bt) (nf:bs∉fq) {s:Shared} {c:Nat} (hz:Z 0 s.heap) (hs:s.heap.get? bs=some {cls:= .type "list",data:= .seq #[] c})
  (h0:n=0->∀h' t,(∀a o,a∉wq->a≠bs->s.heap.get? a=some o->h'.get? a=some o)->R (.ok (.ret d)) {s with heap:=h',toks:=t})
  (hR:0<n->∀v h' t,P (argBest bt (n-1)) v->(∀a o,a∉wq->a≠bs->s.heap.get? a=some o->h'.get? a=some o)->R (.ok (.ret v)) {s with heap:=h',toks:=t}):
  codeAny (model prog w) A (.builtin "max.loop" ⟨[.ref it,.none,.ref bs],[(Str.ofString "default",d)]⟩) R s:=by
 have nw:bs∉wq:=fun z=>nf (W.sub _ z)
 have nm:(toString "max"++toString ".loop":String)="max.loop":=by decide
 refine codeAny_builtin PySem.F.entry_max_loop ?_
 rw[Around.under_plainId PySem.F.plain_max_loop _]
 refine wpAny_bind (m:=seqItems? (.ref bs)) (wpAny_seqItems hs rfl ?_)
 rcases Nat.eq_zero_or_pos n with z | z
 ·refine wpAny_bind (m:=tryCatch (pyNext (.ref it)) _) (wpAny_tryCatch (W.done s _ _ (z▸hz) fun h' t kp=>?_))
  exact wpAny_bind (wpAny_rule (wpAny_pure (h0 z h' t fun a o h1 _ g=>kp a o h1 g)))
 ·refine wpAny_bind (m:=tryCatch (pyNext (.ref it)) _) (wpAny_tryCatch (W.item 0 s _ _ z hz fun v h' t hv hz' kp=>?_))
  have hs':=kp bs _ nw hs
  refine wpAny_bind (m:=updateSeq bs (fun _=>#[v,v])) (wpAny_updateSeq hs' rfl ?_)
  rw[nm]
  refine wpAny_pure ⟨plainId_quiet PySem.F.plain_max_loop _,wJ d W bt cm nf _ 0 _ v _ rfl z (W.frame _ _ _ hz' fun a h1 o g=>(Heap.get?_update_other _ _ fun y:bs=a=>nf (y▸h1)).trans g) hv (Heap.get?_update_self _ hs' rfl) fun v' h2 t2 p2 k2=>hR z v' h2 t2 p2 fun a o h1 h3 g=>?_⟩
  exact k2 a o h1 h3 ((Heap.get?_update_other _ _ (Ne.symm h3)).trans (kp a o h1 g))
theorem tF (a d:Value):argsOk "max" ⟨[a],[(Str.ofString "default",d)]⟩:=by unfold argsOk;kernel_rfl
def y0 (K:PySem.W.Frag) (ta:TA) (td:TE):TE:=fun σ H Q=>ta σ H fun vs H1=>td σ H1 fun d H2=>∃(p:Addr) (ns:List Int),vs=[.ref p]/\SqL K H2 p (ns.map V.int)/\(ns=[]->Q d H2)/\∀m,m∈ns->(∀x∈ns,x<=m)->Q (.int m) H2
section
variable {X:Cx} {a de:Expr} {ta:TA} {td:TE} {p1 kpos pos:Pos}
theorem wK (K:PySem.W.Frag) (hg:Gl X "max") (hm:X.mg "max"=none) (ha:PA X [a] ta) (hd:PE X de td) (hK:X.K=K:=by rfl) (hc:X.calm=true:=by rfl)
  (he:backTo pos (starEach [a] X.env)=(false,eval a X.env) :: backTo pos (starEach [] X.env):=by rfl) (hpl:(backTo pos (starEach [a] X.env)).any (·.1)=false:=by rfl):
  PE X (.Call (.Name "max" p1) [a] [⟨some "default",de,kpos⟩] pos) (y0 K ta td):=by
 subst hK
 intro pins s0 σ H0 Q I0 h
 refine wpAny_Call_Name_kw (dH I0 hg hm boot_max ?_)
 refine PyProof.Rows.callWith_kw (bK (ha pos pins s0 σ H0 _ I0 h) fun us s1 ⟨vs,H1,I1,r,q1⟩=>?_) he hpl
 refine wpAny_evalAll_cons (wpAny_bind (bK (hd pins s1 σ H1 _ I1 q1) fun dv s ⟨d,H,I,rd,q⟩=>wpAny_bind (wpAny_standAt (wpAny_pure (wpAny_evalAll_nil ?_)))))
 obtain⟨p,ns,e,hq,q0,q⟩:=q
 subst e
 obtain⟨u,e,rx⟩:=eA r
 subst e
 cases rx
 obtain⟨its,rv,pl,hz⟩:=I.list hq
 have hl:=rv.length
 rw[AC]at hl
 have nm:(toString "max"++toString ".loop":String)="max.loop":=by decide
 refine kmk_tree PySem.F.kind_max PySem.F.plain_max PySem.F.entry_max (tF _ _) ?_
 refine wpAny_bind (m:=Builtin.Builtins.bindParams "max" ["key","default"] 0 ⟨[],[(Str.ofString "default",dv)]⟩) (wpAny_of_eq (show _=pure [none,some dv]from rfl) ?_)
 refine wpAny_bind (wpAny_pure (wpAny_bind (wpAny_pyIter_list pl.isList (wpAny_bind (wpAny_newList ?_ (A0 _))))))
 rw[nm]
 have hlt:p<s.heap.objs.size:=by
  obtain⟨o,ho,_⟩:=pl.isList
  exact Heap.lt_size ho
 have hval:∀(i:Nat) (v:Value),its.toArray[i]?=some v->∃t,v= .int (ns.getD i 0) t:=fun i v hi=>by
  have hi':its[i]?=some v:=by simpa using hi
  have h2:i<ns.length:=by rw[hl];exact(AF.mp hi').1
  obtain⟨u,eu,ru⟩:=rv.get (i:=i) (x:= .int ns[i]) (by simp[h2])
  rw[hi']at eu
  cases eu
  obtain⟨t,e⟩:=ru
  exact⟨t,by rw[e];simp[h2]⟩
 have sz1:(s.heap.push {cls:= .type "list_iterator",data:= .fields #[.ref p,.int 0 0]}).objs.size=s.heap.objs.size+1:=Heap.size_push ..
 have W:=Walks.list (prog:=X.prog) (w:=X.w) (A:=X.A.in1) (show X.A.in1.handled=none from I.ok.hd hc) s.heap.objs.size p (AV hlt) its.toArray
 have cmx:=CmpOf.ints_gt (prog:=X.prog) (w:=X.w) (A:=X.A.in1) (fun i=>ns.getD i 0) hval
 refine wpAny_pure ⟨plainId_quiet PySem.F.plain_max_loop _,vm dv W _ cmx (fun m=>?_) ?_ (Heap.get?_push_size _ rfl) (fun z h' t kp=>?_) fun z v h' t hP kp=>?_⟩
 ·simp only[AR,A4,or_false]at m
  rw[sz1]at m
  rcases m with y | y
  ·exact absurd y (BD (Bs _))
  ·exact absurd y.symm (AV (Bk hlt))
 ·refine⟨⟨_,Heap.get?_push_of_some _ (Heap.get?_push_size _ rfl),rfl,rfl⟩,?_⟩
  obtain⟨o,ho,y⟩:=pl.isList
  exact⟨o,Heap.get?_push_of_some _ (Heap.get?_push_of_some _ ho),y⟩
 ·have old:∀b o,s.heap.get? b=some o->h'.get? b=some o:=fun b o e=>by
   have:=Heap.lt_size e
   refine kp b o (fun y=>?_) (fun y=>?_) (Heap.get?_push_of_some _ (Heap.get?_push_of_some _ e))
   ·rw [AN]at y
    exact absurd this (by rw[y];exact Bt _)
   ·rw [y,sz1]at this
    exact absurd this (Nat.not_lt_of_le (Cq _))
  refine⟨d,H,I.kept old,rd,q0 ?_⟩
  rw[AM]at z
  exact A5.mp (by omega)
 ·obtain⟨t',rfl⟩:=hval _ _ hP
  have hb:=iB (fun i j=>decide (ns.getD i 0>ns.getD j 0)) (its.toArray.size-1)
  have hs:its.toArray.size=ns.length:=by rw[AM];omega
  rw[hs]at hb z
  have old:∀b o,s.heap.get? b=some o->h'.get? b=some o:=fun b o e=>by
   have:=Heap.lt_size e
   refine kp b o (fun y=>?_) (fun y=>?_) (Heap.get?_push_of_some _ (Heap.get?_push_of_some _ e))
   ·rw [AN]at y
    exact absurd this (by rw[y];exact Bt _)
   ·rw [y,sz1]at this
    exact absurd this (Nat.not_lt_of_le (Cq _))
  refine⟨.int _,H,I.kept old,⟨t',rfl⟩,q _ ?_ fun x hx=>?_⟩
  ·rw [hs,aH (by omega)];exact A1 _
  ·obtain⟨j,hj,ej⟩:=AU.mp hx
   have:=iC (fun i=>ns.getD i 0) (ns.length-1) j (by omega)
   rw[hs]
   rw[aH hj,ej]at this
   exact this
end
def wL (K:PySem.W.Frag):V->List V->Hp->VK->Prop:=fun x vs H Q=>∃(l:Addr) (as:List Addr) (c:V) (d j:Nat) (f:Addr->Bool),x= .ref l/\vs=[c]/\H l=some (.lst (as.map V.ref))/\d<60/\(∀a∈as,DEq K H d (.ref a) c (f a))/\j<as.length/\f (as.getD j 0)=true/\(∀m,m<j->f (as.getD m 0)=false)/\as.length<100000/\Q (.int ((j:Nat):Int)) H
section
variable {X:Cx}
theorem tG (K:PySem.W.Frag) (hu:X.A.units+64<cLine) (hK:X.K=K:=by rfl):zC X "list.index" (wL K):=by
 subst hK
 intro pins s σ H x vs v us Q I rx rv h
 obtain⟨l,as,c,d,j,f,rfl,rfl,hH,hd,he,hj,fy,fn,hz,q⟩:=h
 cases rx
 obtain⟨u,e1,ru⟩:=eA rv
 subst e1
 obtain⟨z,its,n,r,hl,e⟩:=I.lstM hH
 have ev:=mh r
 subst ev
 have at':∀m (hm:m<as.length),(as.map Value.ref).toArray[m]'(by simpa using hm)= .ref (as.getD m 0):=fun m hm=>by simp[AE,hm]
 refine call_meets PySem.F.slot_list_index ⟨_,e,rfl⟩ PySem.F.entry_list_index (PySem.F.args_list_index_2 _ _) (SeqAt.list_indexAt l (as.map Value.ref).toArray n none #[] u (x9 f) j (by simpa using hj) (by omega) ?_ fun m hm lt=>?_) ⟨e,fun y hy=>?_,?_⟩
 ·rw [at' j hj];exact fy
 ·have hm':m<as.length:=by simpa using hm
  rw[at' m hm'];exact fn m lt
 ·obtain⟨a,ha,rfl⟩:∃a∈as,Value.ref a=y:=by simpa using hy
  exact(he a ha).at I (by show X.A.units+1+d<cLine;omega) rfl ru
 ·exact⟨.int ((j:Nat):Int),H,I.tok _,⟨_,rfl⟩,q⟩
end
def jx (rows:cw) (p:List Int) (b:Nat):List Int:=(bS rows (aU p b)).map (iI rows (aU p b))
inductive PapIs (rows:cw) (ts:List (Addr×Addr×Str×Int×List Nat)) (more:Int) (deep:Nat):List Int->BPap->Prop where
 | tie {p:List Int} {j:Nat} (h:oJ (fun i=>p.getD i 0) p.length ts=some j):PapIs rows ts more deep p (.tie (j:Int))
 | short {p:List Int} {b:Nat} (h:oJ (fun i=>p.getD i 0) p.length ts=none) (hb:b<(dd p).length) (he:bS rows (aU p b)=[]) (ft:∀b',b'<b->bS rows (aU p b')≠[]):PapIs rows ts more deep p (.short [(b:Int)])
 | split {p:List Int} {ps:List BPap} (h:oJ (fun i=>p.getD i 0) p.length ts=none) (ne:∀b,b<(dd p).length->bS rows (aU p b)≠[]) (lt:p.length<deep) (hn:ps.length=(dd p).length+1) (hs:∀(k:Nat) q,ps[k]?=some q->PapIs rows ts more deep (p++[(k:Int)]) q):PapIs rows ts more deep p (.split ps)
 | dear {p pr:List Int} {es:List (Int×Int)} (h:oJ (fun i=>p.getD i 0) p.length ts=none) (ne:∀b,b<(dd p).length->bS rows (aU p b)≠[]) (ge:¬p.length<deep) (hl:pr.length=(dd p).length)
  (hm:∀b,b<(dd p).length->∃m,pr.getD b 0=m+more/\m∈jx rows p b/\∀x∈jx rows p b,m<=x)
  (he:(more=0/\es=[])\/(more≠0/\∃ks:List Int,es=ks.map (fun k=>(k,more))/\ks.Pairwise (· < ·)/\∀x,x∈ks<->∃b,b<(dd p).length/\x∈bS rows (aU p b))):PapIs rows ts more deep p (.dear pr es)
theorem PapIs.uniq {rows:cw} {ts:List (Addr×Addr×Str×Int×List Nat)} {more:Int} {deep:Nat} {p:List Int} {g:BPap} (h:PapIs rows ts more deep p g):∀{g':BPap},PapIs rows ts more deep p g'->g=g':=by
 induction h with
 | tie h=>
  intro g' h'
  cases h' with
  | tie h2=>rw[h]at h2;cases h2;rfl
  | short h2=>rw[h]at h2;cases h2
  | split h2=>rw[h]at h2;cases h2
  | dear h2=>rw[h]at h2;cases h2
 | @short p b h hb he ft=>
  intro g' h'
  cases h' with
  | tie h2=>rw[h]at h2;cases h2
  | @short _ b2 h2 hb2 he2 ft2=>
   have:b=b2:=by
    rcases Nat.lt_trichotomy b b2 with z | z | z
    ·exact absurd he (ft2 b z)
    ·exact z
    ·exact absurd he2 (ft b2 z)
   rw[this]
  | split _ ne=>exact absurd he (ne b hb)
  | dear _ ne=>exact absurd he (ne b hb)
 | @split p ps h ne lt hn hs ih=>
  intro g' h'
  cases h' with
  | tie h2=>rw[h]at h2;cases h2
  | short _ hb he=>exact absurd he (ne _ hb)
  | @split _ ps2 h2 ne2 lt2 hn2 hs2=>
   have:ps=ps2:=By (by omega) fun k h1 h3=>ih k _ (AD h1) (hs2 k _ (AD h3))
   rw[this]
  | dear _ _ ge=>exact absurd lt ge
 | @dear p pr es h ne ge hl hm he=>
  intro g' h'
  cases h' with
  | tie h2=>rw[h]at h2;cases h2
  | short _ hb he=>exact absurd he (ne _ hb)
  | split _ _ lt=>exact absurd lt ge
  | @dear _ pr2 es2 h2 ne2 ge2 hl2 hm2 he2=>
   have e1:pr=pr2:=By (by omega) fun k h1 h3=>by
    obtain⟨m,a1,a2,a3⟩:=hm k (by omega)
    obtain⟨m2,b1,b2,b3⟩:=hm2 k (by omega)
    rw[aH h1]at a1
    rw[aH h3]at b1
    have:=a3 _ b2
    have:=b3 _ a2
    rw[a1,b1]
    omega
   have e2:es=es2:=by
    rcases he with⟨z,rfl⟩ | ⟨z,ks,rfl,u1,m1⟩<;>rcases he2 with⟨z2,rfl⟩ | ⟨z2,ks2,rfl,u2,m2⟩
    ·rfl
    ·exact absurd z z2
    ·exact absurd z2 z
    ·rw [uV u1 u2 fun x=>by rw[m1,m2]]
   rw[e1,e2]
inductive BRk:Nat->BPap->Prop where
 | tie {r:Nat} {j:Int}:BRk r (.tie j)
 | short {r:Nat} {bs:List Int}:BRk r (.short bs)
 | dear {r:Nat} {pr:List Int} {es:List (Int×Int)}:BRk r (.dear pr es)
 | split {r:Nat} {ps:List BPap} (h:∀q∈ps,BRk r q):BRk (r+1) (.split ps)
theorem PapIs.rk {rows:cw} {ts:List (Addr×Addr×Str×Int×List Nat)} {more:Int} {deep:Nat}:∀(r:Nat) {p:List Int} {g:BPap},deep<=p.length+r->PapIs rows ts more deep p g->BRk r g:=by
 intro r
 induction r with
 | zero=>
  intro p g hd h
  cases h with
  | tie=>exact .tie
  | short=>exact .short
  | split _ _ lt=>omega
  | dear=>exact .dear
 | succ r ih=>
  intro p g hd h
  cases h with
  | tie=>exact .tie
  | short=>exact .short
  | split _ _ lt hn hs=>
   refine .split fun q hq=>?_
   obtain⟨k,hk⟩:=BB.mp hq
   exact ih (by simp;omega) (hs k q hk)
  | dear=>exact .dear
theorem DEq.le {K:PySem.W.Frag} {H:Hp} {d:Nat} {x y:V} {b:Bool} (h:DEq K H d x y b):∀(e:Nat),DEq K H (d+e) x y b
 | 0=>h
 | e+1=>(DEq.le h e).up
theorem vn {K:PySem.W.Frag} {H:Hp} {r:Nat} {g:BPap} (k:BRk r g):∀{v1 v2:V},BPapAt H v1 g->BPapAt H v2 g->DEq K H (2*r+3) v1 v2 true:=by
 induction k with
 | tie=>
  intro v1 v2 h1 h2
  cases h1 with
  | tie t1=>
  cases h2 with
  | tie t2=>
  refine fb (SqT.of t1) (SqT.of t2) rfl fun i x y ex ey=>?_
  rw[ex]at ey
  cases ey
  match i with
  | 0=>cases ex;exact cF rfl
  | 1=>cases ex;exact cF rfl
  | i+2=>cases ex
 | short=>
  intro v1 v2 h1 h2
  cases h1 with
  | short t1 l1=>
  cases h2 with
  | short t2 l2=>
  refine fb (SqT.of t1) (SqT.of t2) rfl fun i x y ex ey=>?_
  match i with
  | 0=>cases ex;cases ey;exact cF rfl
  | 1=>cases ex;cases ey;exact oM (SqL.of l1) (SqL.of l2)
  | i+2=>cases ex
 | @dear r pr es=>
  intro v1 v2 h1 h2
  cases h1 with
  | dear t1 l1 d1=>
  cases h2 with
  | dear t2 l2 d2=>
  refine fb (SqT.of t1) (SqT.of t2) rfl fun i x y ex ey=>?_
  match i with
  | 0=>cases ex;cases ey;exact cF rfl
  | 1=>cases ex;cases ey;exact oM (SqL.of l1) (SqL.of l2)
  | 2=>
   cases ex;cases ey
   have:=(oO (K:=K) d1 d2).le (2*r)
   rw[Nat.add_comm]at this
   exact this
  | i+3=>cases ex
 | split h ih=>
  intro v1 v2 h1 h2
  cases h1 with
  | split t1 l1 n1 a1=>
  cases h2 with
  | split t2 l2 n2 a2=>
  refine fb (SqT.of t1) (SqT.of t2) rfl fun i x y ex ey=>?_
  match i with
  | 0=>cases ex;cases ey;exact cF rfl
  | 1=>
   cases ex;cases ey
   refine iF (SqL.of l1) (SqL.of l2) (by omega) fun j x y hx hy=>?_
   have jl:=(AF.mp hx).1
   exact ih _ (A1 (by omega)) (a1 j x _ hx (AD (by omega))) (a2 j y _ hy (AD (by omega)))
  | i+2=>cases ex
end L2
set_option maxHeartbeats 4000000
namespace My
seal L2.PE L2.PA L2.PS L2.PSs L2.PT L2.PW L2.PI L2.PG L2.yg L2.yj L2.PO L2.fk L2.cu L2.yh L2.zc L2.y9
open PySem L2 PyProof.Rows
local macro_rules | `(tactic| walk_at "go")=> `(tactic| repeat (first | refine⟨_,rfl,?_⟩ | refine⟨_,_,rfl,rfl,(show(0:Int)<_ by decide),?_⟩ | refine⟨_,_,rfl,rfl,(show gC _ _ from⟨by decide,by decide⟩),?_⟩ | refine⟨_,_,rfl,rfl,(show yC _ _ from⟨by decide,by decide,by decide⟩),?_⟩ | refine⟨_,_,rfl,rfl,(show CMul _ _ from .inl ⟨by decide,by decide⟩),?_⟩ | refine⟨_,_,rfl,rfl,(show CMul _ _ from .inr ⟨by decide,by decide⟩),?_⟩ | refine⟨_,_,rfl,rfl,?_⟩ | refine⟨rfl,?_⟩))
def top (i:Nat):Stmt:=PySem.Challenge.pw_deskround_k35_what_a_paper_bears.main.body.getD i (.Pass ⟨0,0,0,0⟩)
abbrev gZ:Stmt:=top 1
abbrev g5:Stmt:=top 2
abbrev fQ:Stmt:=top 3
abbrev kD:Stmt:=top 4
abbrev kE:Stmt:=top 5
abbrev nh:Stmt:=top 7
abbrev ni:Stmt:=top 8
abbrev kF:Stmt:=top 10
abbrev kG:Stmt:=top 11
abbrev g6:Stmt:=top 13
abbrev jg:Stmt:=top 14
abbrev fR:Stmt:=top 15
abbrev fS:Stmt:=top 16
abbrev eO:Stmt:=top 17
abbrev cj:Stmt:=top 18
abbrev eP:Stmt:=top 19
abbrev g7:Stmt:=top 20
abbrev kH:Stmt:=top 22
abbrev qz:Stmt:=top 23
abbrev jh:Stmt:=top 24
abbrev nj:Stmt:=top 25
abbrev nq:Stmt:=top 26
abbrev fT:Stmt:=top 27
abbrev eQ:Stmt:=top 28
abbrev fC:Stmt:=top 29
abbrev fU:Stmt:=top 30
abbrev ck:Stmt:=top 31
abbrev cQ:Stmt:=top 32
abbrev kI:Stmt:=top 33
abbrev g8:Stmt:=top 35
abbrev eR:Stmt:=top 36
abbrev fV:Stmt:=top 37
abbrev fD:Stmt:=top 38
abbrev g9:Stmt:=top 39
abbrev hE:Stmt:=top 40
abbrev hU:Stmt:=top 41
abbrev hX:Stmt:=top 42
abbrev hZ:Stmt:=top 43
abbrev eU:Stmt:=top 44
abbrev fE:Stmt:=top 45
abbrev fW:Stmt:=top 46
abbrev h8:Stmt:=top 47
abbrev h9:Stmt:=top 48
abbrev fX:Stmt:=top 49
abbrev fY:Stmt:=top 50
abbrev fZ:Stmt:=top 51
abbrev fF:Stmt:=top 52
abbrev cR:Stmt:=top 53
abbrev vo:Stmt:=top 54
structure Txt (mg:Str->Option Value):Prop where
 z_all:mg "all"=none
 z_bool:mg "bool"=none
 z_dict:mg "dict"=none
 z_int:mg "int"=none
 z_isinstance:mg "isinstance"=none
 z_len:mg "len"=none
 z_list:mg "list"=none
 z_max:mg "max"=none
 z_min:mg "min"=none
 z_range:mg "range"=none
 z_reversed:mg "reversed"=none
 z_set:mg "set"=none
 z_sorted:mg "sorted"=none
 z_sum:mg "sum"=none
 z_tuple:mg "tuple"=none
 z_zip:mg "zip"=none
structure Dfs (K:PySem.W.Frag) (mg:Str->Option Value) (aF:Nat->Addr) (dF:Nat->FuncData):Prop where
 is_whole:Def K mg "is_whole" gZ ["thing"] (aF 0) (dF 0)
 is_badge:Def K mg "is_badge" g5 ["thing"] (aF 1) (dF 1)
 is_rising:Def K mg "is_rising" fQ ["numbers"] (aF 2) (dF 2)
 common:Def K mg "common" kD ["one","other"] (aF 3) (dF 3)
 joined:Def K mg "joined" kE ["one","other"] (aF 4) (dF 4)
 width:Def K mg "width" nh ["pattern"] (aF 5) (dF 5)
 grown:Def K mg "grown" ni ["pattern"] (aF 6) (dF 6)
 breaks:Def K mg "breaks" kF ["pattern","tie"] (aF 7) (dF 7)
 unlike:Def K mg "unlike" kG ["row","steps"] (aF 8) (dF 8)
 pools_of:Def K mg "pools_of" g6 ["pattern","may"] (aF 9) (dF 9)
 pool_of:Def K mg "pool_of" jg ["block","pattern","may"] (aF 10) (dF 10)
 shows_for:Def K mg "shows_for" fR ["pattern","may","ties","paper"] (aF 11) (dF 11)
 tie_shows:Def K mg "tie_shows" fS ["pattern","ties","place"] (aF 12) (dF 12)
 short_shows:Def K mg "short_shows" eO ["pattern","may","blocks"] (aF 13) (dF 13)
 is_list_of_blocks:Def K mg "is_list_of_blocks" cj ["pattern","blocks"] (aF 14) (dF 14)
 split_shows:Def K mg "split_shows" eP ["pattern","may","ties","papers"] (aF 15) (dF 15)
 is_split:Def K mg "is_split" g7 ["pattern","count","papers"] (aF 16) (dF 16)
 may_of:Def K mg "may_of" kH ["bill"] (aF 17) (dF 17)
 sums:Def K mg "sums" qz ["pattern","bill"] (aF 18) (dF 18)
 sums_of:Def K mg "sums_of" jh ["block","pattern","bill"] (aF 19) (dF 19)
 added:Def K mg "added" nj ["pairs","minutes"] (aF 20) (dF 20)
 bears:Def K mg "bears" nq ["bill","ties","bound","paper"] (aF 21) (dF 21)
 bears_for:Def K mg "bears_for" fT ["pattern","bill","ties","bound","paper"] (aF 22) (dF 22)
 split_bears:Def K mg "split_bears" eQ ["pattern","bill","ties","bound","papers"] (aF 23) (dF 23)
 dear_bears:Def K mg "dear_bears" fC ["pattern","bill","bound","prices","dues"] (aF 24) (dF 24)
 is_within:Def K mg "is_within" fU ["price","dues","pairs"] (aF 25) (dF 25)
 is_list_of_prices:Def K mg "is_list_of_prices" ck ["pattern","prices"] (aF 26) (dF 26)
 is_list_of_dues:Def K mg "is_list_of_dues" cQ ["dues"] (aF 27) (dF 27)
 is_due:Def K mg "is_due" kI ["pair"] (aF 28) (dF 28)
 law_cell:Def K mg "_law_cell" g8 ["script","k"] (aF 29) (dF 29)
 law_entries:Def K mg "_law_entries" eR ["script","size"] (aF 30) (dF 30)
 law_whole:Def K mg "_law_whole" fV ["found"] (aF 31) (dF 31)
 law_badges:Def K mg "_law_badges" fD ["cells","gap","high"] (aF 32) (dF 32)
 law_bill:Def K mg "_law_bill" g9 ["cells","badges","dense","top","count"] (aF 33) (dF 33)
 law_ties:Def K mg "_law_ties" hE ["cells","count"] (aF 34) (dF 34)
 law_case:Def K mg "_law_case" hU ["script","sizes","tops"] (aF 35) (dF 35)
 law_wide:Def K mg "_law_wide" hX ["pattern"] (aF 36) (dF 36)
 law_pool:Def K mg "_law_pool" hZ ["block","pattern","bill"] (aF 37) (dF 37)
 law_minutes:Def K mg "_law_minutes" eU ["badge","block","pattern","bill"] (aF 38) (dF 38)
 law_breaks:Def K mg "_law_breaks" fE ["pattern","tie"] (aF 39) (dF 39)
 law_short:Def K mg "_law_short" fW ["blocks","pattern","bill"] (aF 40) (dF 40)
 law_dues:Def K mg "_law_dues" h8 ["dues"] (aF 41) (dF 41)
 law_dear:Def K mg "_law_dear" h9 ["prices","dues","bound","pattern","bill"] (aF 42) (dF 42)
 law_bears:Def K mg "_law_bears" fX ["pattern","bill","ties","bound","paper"] (aF 43) (dF 43)
 law_paper:Def K mg "_law_paper" fY ["pattern","bill","ties","more","deep"] (aF 44) (dF 44)
 law_least:Def K mg "_law_least" fZ ["paper"] (aF 45) (dF 45)
 law_turned:Def K mg "_law_turned" fF ["paper","cell"] (aF 46) (dF 46)
 law_dear_turned:Def K mg "_law_dear_turned" cR ["paper","rest"] (aF 47) (dF 47)
 law:Def K mg "law" vo ["script"] (aF 48) (dF 48)
section
variable {P:Program} {w:World} {K:PySem.W.Frag} {mg:Str->Option Value} {base:Heap} {aF:Nat->Addr} {dF:Nat->FuncData}
def cH (K:PySem.W.Frag):Sp:=fun vs H Q _=>∃(i:Int),vs=[.int i]/\Q (.bl true) H
theorem oU:FnScope ["thing"] ["thing"] (ar gZ):=⟨rfl,rfl,rfl,by decide +kernel,rfl,by decide +kernel,by decide +kernel⟩
theorem dz (D:Dfs K mg aF dF) (T:Txt mg):FnOk P w K mg base aX 1 (aF 0) (dF 0) ["thing"] (cH K):=by
 refine D.is_whole.fn.ok oU (fun vs H Q E h=>?_) (fun cdv A outer s H vs Q E hr h=>?_)
 ·obtain⟨i,rfl,_⟩:=h;rfl
 ·have hu:=be hr
  obtain⟨i,rfl,q⟩:=h
  refine⟨_,(ah (aj (eN (ai (fJ K) (by rfl) T.z_isinstance boot_isinstance (aa (pv 0) (aa (uj T.z_int) ab))) (gQ (t6 (ai (fJ K) (by rfl) T.z_isinstance boot_isinstance (aa (pv 0) (aa (mJ T.z_bool) ab)))))))),?_⟩
  exact⟨_,rfl,_,_,_,true,rfl,.int _,rfl,_,rfl,bP ⟨_,rfl,_,_,_,false,rfl,.int _,rfl,_,rfl,q⟩⟩
def jy (K:PySem.W.Frag):Sp:=fun vs H Q _=>∃(i:Int),vs=[.int i]/\Q (.bl (decide (1<=i/\i<=10^18))) H
theorem oW:FnScope ["thing"] ["thing"] (ar g5):=⟨rfl,rfl,rfl,by decide +kernel,rfl,by decide +kernel,by decide +kernel⟩
theorem oX (D:Dfs K mg aF dF) (T:Txt mg):FnOk P w K mg base aX 2 (aF 1) (dF 1) ["thing"] (jy K):=by
 have Gis_whole:FnOk P w K mg base aX 1 (aF 0) (dF 0) ["thing"] (cH K):=dz D T
 refine D.is_badge.fn.ok oW (fun vs H Q E h=>?_) (fun cdv A outer s H vs Q E hr h=>?_)
 ·obtain⟨i,rfl,_⟩:=h;rfl
 ·have hu:=be hr
  obtain⟨i,rfl,q⟩:=h
  refine⟨_,(ah (aj (eN (pc D.is_whole Gis_whole (hr.mono (by decide)) (aa (pv 0) ab)) (gQ (jX jk jk ae (pv 0) (ak fK ae ae)))))),?_⟩
  refine⟨_,rfl,i,rfl,_,rfl,bP ?_⟩
  refine⟨_,rfl,_,_,rfl,rfl,_,rfl,pD (fun z=>?_) fun z=>?_⟩
  ·refine⟨_,_,rfl,rfl,⟨by decide,by decide,by decide⟩,_,_,rfl,rfl,?_⟩
   have e:decide (1<=i/\i<=10^18)=decide (i<=10^(18:Int).toNat):=decide_eq_decide.mpr ⟨fun y=>y.2,fun y=>⟨z,y⟩⟩
   rw[e]at q
   exact q
  ·rw [decide_eq_false fun y=>z y.1]at q
   exact q
def fG (K:PySem.W.Frag):Sp:=fun vs H Q _=>∃(a:Addr) (ns:List Int),vs=[.ref a]/\SqL K H a (ns.map V.int)/\ns.length<=1000/\∀H',Same H H'->Q (.bl (jK ns)) H'
theorem nv:FnScope ["numbers"] ["numbers"] (ar fQ):=⟨rfl,rfl,rfl,by decide +kernel,rfl,by decide +kernel,by decide +kernel⟩
theorem iL (D:Dfs K mg aF dF) (T:Txt mg):FnOk P w K mg base aX 1 (aF 2) (dF 2) ["numbers"] (fG K):=by
 refine D.is_rising.fn.ok nv (fun vs H Q E h=>?_) (fun cdv A outer s H vs Q E hr h=>?_)
 ·obtain⟨a,ns,rfl,_⟩:=h;rfl
 ·have hu:=be hr
  obtain⟨a,ns,rfl,hS,hl,q⟩:=h
  refine⟨_,(ah (aj (ai (mL K) (by rfl) T.z_all boot_all (aa (aL ["place","numbers"] [none,some 0] rfl (lH rfl T.z_range (aa ae (aa (ai (bx K) (by rfl) T.z_len boot_len (aa (pv 0) ab)) ab))) (fun _=>aq (i:=0) (aB (N:=["place","numbers"]) (by decide +kernel)) rfl (Or.inl rfl)) (fun _=>aJ) (fun _=>(bY di (ao (cU K) (pv 1) (ak cW (pv 0) ae) (fun _ _=>rfl)) (ao (cU K) (pv 1) (pv 0) (fun _ _=>rfl)) (aw _))) ((.cons (fun _ e=>by cases e) (.cons (fun _ e=>by cases e;exact⟨rfl,rfl⟩) .nil)))) ab)))),?_⟩
  refine⟨_,rfl,_,_,rfl,.inl ⟨_,hS,rfl⟩,_,_,rfl,⟨by decide,by decide,by omega,?_⟩,?_⟩
  ·rw [AC];omega
  rw[AC]
  have e:((ns.length:Int)-1).toNat=ns.length-1:=by omega
  rw[e]
  refine j7 (n:=ns.length-1) (fun k=> .bl (decide (ns.getD k 0<ns.getD (k+1) 0))) (by omega) (fun i hi H2 R s2 k=>?_) fun acc H' s1 n1 h1=>?_
  ·have e1:(1:Int)+(i:Int)-1=(i:Int):=by omega
   have e2:(1:Int)+(i:Int)=((i+1:Nat):Int):=by omega
   refine⟨_,rfl,_,rfl,_,_,rfl,rfl,a,_,_,_,rfl,rfl,s2.seq hS,by rw[e1];exact bC (by omega),_,rfl,_,rfl,a,_,_,_,rfl,rfl,s2.seq hS,by rw[e2];exact bC (by omega),_,_,rfl,rfl,k H2 (Same.refl _)⟩
  ·refine⟨acc,(AH (ns.length-1)).map fun k=>decide (ns.getD k 0<ns.getD (k+1) 0),rfl,SqL.of ?_,?_⟩
   ·rw [h1,A3];rfl
   ·rw [List.all_map]
    exact q H' s1
def mm (K:PySem.W.Frag):Sp:=Ab K 0
theorem tH:FnScope ["one","other"] ["one","other"] (ar kD):=⟨rfl,rfl,rfl,by decide +kernel,rfl,by decide +kernel,by decide +kernel⟩
theorem tI (D:Dfs K mg aF dF) (T:Txt mg):FnOk P w K mg base aX 1 (aF 3) (dF 3) ["one","other"] (mm K):=by
 refine D.common.fn.ok tH (fun vs H Q E h=>?_) (fun cdv A outer s H vs Q E hr h=>?_)
 ·obtain⟨a,b,F,S,U,rfl,_⟩:=h;rfl
 ·have hu:=be hr
  obtain⟨a,b,F,S,U,rfl,bo,q⟩:=h
  refine⟨_,(ah (aj (ai (kg w) (by rfl) T.z_sorted boot_sorted (aa (ak (wu w) (aI (mQ w K) (by rfl) T.z_set PyProof.Rows.boot_set (aa (pv 0) ab)) (aI (mQ w K) (by rfl) T.z_set PyProof.Rows.boot_set (aa (pv 1) ab))) ab)))),?_⟩
  have h1:=bo.l1
  have h2:=bo.l2
  refine⟨_,rfl,a,F,rfl,bo.fa,by omega,fun s1 n1=>⟨_,rfl,b,S,rfl,(Same.new n1).seq bo.sb,by omega,fun s2 n2=>?_⟩⟩
  have d1:=bV F
  have d2:=bV S
  have n12:s1≠s2:=fun z=>by rw[<- z,af]at n2;cases n2
  refine⟨s1,s2,dd F,dd S,rfl,rfl,n12,by rw[aC n12];exact af,af,by omega,by omega,fun c ks nc nd hm=>?_⟩
  have lk:ks.length<=F.length:=nd.length_le_of_subset fun x hx=>bI.mp ((hm x).mp hx).1
  refine⟨c,ks,rfl,af,by omega,fun l ms nl pm sr=>?_⟩
  refine q l ms _ ⟨(((Same.new n1).to n2).to nc).to nl,(((Same.new n1).to (o:= .ext (SX w s2 (dd S))) n2).to (o:= .ext (SX w c ks)) nc).free nl,af,mX sr (pm.nodup_iff.mpr nd),fun x=>?_⟩
  rw[pm.mem_iff,hm x]
  dsimp only
  rw[bI,bI]
  exact Iff.rfl
def mq (K:PySem.W.Frag):Sp:=Ab K 1
theorem tJ:FnScope ["one","other"] ["one","other"] (ar kE):=⟨rfl,rfl,rfl,by decide +kernel,rfl,by decide +kernel,by decide +kernel⟩
theorem tK (D:Dfs K mg aF dF) (T:Txt mg):FnOk P w K mg base aX 1 (aF 4) (dF 4) ["one","other"] (mq K):=by
 refine D.joined.fn.ok tJ (fun vs H Q E h=>?_) (fun cdv A outer s H vs Q E hr h=>?_)
 ·obtain⟨a,b,F,S,U,rfl,_⟩:=h;rfl
 ·have hu:=be hr
  obtain⟨a,b,F,S,U,rfl,bo,q⟩:=h
  refine⟨_,(ah (aj (ai (kg w) (by rfl) T.z_sorted boot_sorted (aa (ak (xV w) (aI (mQ w K) (by rfl) T.z_set PyProof.Rows.boot_set (aa (pv 0) ab)) (aI (mQ w K) (by rfl) T.z_set PyProof.Rows.boot_set (aa (pv 1) ab))) ab)))),?_⟩
  have h1:=bo.l1
  have h2:=bo.l2
  refine⟨_,rfl,a,F,rfl,bo.fa,by omega,fun s1 n1=>⟨_,rfl,b,S,rfl,(Same.new n1).seq bo.sb,by omega,fun s2 n2=>?_⟩⟩
  have d1:=bV F
  have d2:=bV S
  have n12:s1≠s2:=fun z=>by rw[<- z,af]at n2;cases n2
  refine⟨s1,s2,dd F,dd S,rfl,rfl,n12,by rw[aC n12];exact af,af,by omega,by omega,fun c ks nc nd hm=>?_⟩
  have lk:ks.length<=U.length:=nd.length_le_of_subset fun x hx=>((hm x).mp hx).elim (fun h=>bo.fu x (bI.mp h)) fun h=>bo.su x (bI.mp h)
  have ul:=bo.ul
  refine⟨c,ks,rfl,af,by omega,fun l ms nl pm sr=>?_⟩
  refine q l ms _ ⟨(((Same.new n1).to n2).to nc).to nl,(((Same.new n1).to (o:= .ext (SX w s2 (dd S))) n2).to (o:= .ext (SX w c ks)) nc).free nl,af,mX sr (pm.nodup_iff.mpr nd),fun x=>?_⟩
  rw[pm.mem_iff,hm x]
  dsimp only
  rw[bI,bI]
  exact Iff.rfl
def fh (K:PySem.W.Frag):Sp:=fun vs H Q _=>∃(a:Addr) (ps:List Int),vs=[.ref a]/\SqL K H a (ps.map V.int)/\ps.length<=6/\∀H',Same H H'->Q (.int (((dd ps).length:Nat):Int)) H'
theorem vp:FnScope ["pattern"] ["pattern"] (ar nh):=⟨rfl,rfl,rfl,by decide +kernel,rfl,by decide +kernel,by decide +kernel⟩
theorem gc (D:Dfs K mg aF dF) (T:Txt mg):FnOk P w K mg base aX 1 (aF 5) (dF 5) ["pattern"] (fh K):=by
 refine D.width.fn.ok vp (fun vs H Q E h=>?_) (fun cdv A outer s H vs Q E hr h=>?_)
 ·obtain⟨a,ps,rfl,_⟩:=h;rfl
 ·have hu:=be hr
  obtain⟨a,ps,rfl,ha,h6,q⟩:=h
  refine⟨_,(ah (aj (ai (qW w) (by rfl) T.z_len boot_len (aa (aI (mQ w K) (by rfl) T.z_set PyProof.Rows.boot_set (aa (pv 0) ab)) ab)))),?_⟩
  exact⟨_,rfl,a,ps,rfl,ha,by omega,fun S nS=>⟨S,_,rfl,af,q _ (Same.new nS)⟩⟩
def iM (K:PySem.W.Frag):Sp:=fun vs H Q _=>∃(a:Addr) (ps:List Int),vs=[.ref a]/\H a=some (.lst (ps.map V.int))/\ps.length<=6/\
 ∀l (rs:List Addr) H',Same H H'->H l=none->H' l=some (.lst (rs.map V.ref))->rs.length=(dd ps).length+1->(∀(i:Nat) r,rs[i]?=some r->H' r=some (.lst ((ps++[(i:Int)]).map V.int))/\H r=none)->Q (.ref l) H'
theorem vq:FnScope ["pattern"] ["pattern"] (ar ni):=⟨rfl,rfl,rfl,by decide +kernel,rfl,by decide +kernel,by decide +kernel⟩
theorem kJ (D:Dfs K mg aF dF) (T:Txt mg):FnOk P w K mg base aX 2 (aF 6) (dF 6) ["pattern"] (iM K):=by
 have Gwidth:FnOk P w K mg base aX 1 (aF 5) (dF 5) ["pattern"] (fh K):=gc D T
 refine D.grown.fn.ok vq (fun vs H Q E h=>?_) (fun cdv A outer s H vs Q E hr h=>?_)
 ·obtain⟨a,ps,rfl,_⟩:=h;rfl
 ·have hu:=be hr
  obtain⟨a,ps,rfl,ha,h6,q⟩:=h
  refine⟨_,(ah (aj (aL ["number","pattern"] [none,some 0] rfl (aY rfl T.z_range (aa (ak aG (pc D.width Gwidth (hr.mono (by decide)) (aa (pv 0) ab)) ae) ab)) (fun _=>aq (i:=0) (aB (N:=["number","pattern"]) (by decide +kernel)) rfl (Or.inl rfl)) (fun _=>aJ) (fun _=>(ak fM (pv 1) (aA (aa (pv 0) ab)))) ((.cons (fun _ e=>by cases e) (.cons (fun _ e=>by cases e;exact⟨rfl,rfl⟩) .nil)))))),?_⟩
  refine⟨_,rfl,a,ps,rfl,SqL.of ha,h6,fun H1 s1=>?_⟩
  have dl:=bV ps
  refine⟨_,_,rfl,rfl,_,rfl,gD _,by omega,?_⟩
  have e0:(((dd ps).length:Int)+1).toNat=(dd ps).length+1:=by omega
  rw[e0]
  refine ju (n:=(dd ps).length+1) (fun i=>(ps++[(i:Int)]).map V.int) (by omega) (fun i hi H2 R s2 k=>?_) fun acc rs H2 s2 nacc hacc hrs hall hne=>?_
  ·have ei:(0:Int)+(i:Int)=((i:Nat):Int):=by omega
   rw[ei]
   refine⟨_,rfl,_,rfl,bM,fun p np=>?_⟩
   have ha2:=(s1.trans s2) _ _ ha
   refine⟨a,p,_,_,rfl,rfl,Same.new np _ _ ha2,af,by rw[AC];exact uq (by simp;omega),fun r nr=>?_⟩
   have e:ps.map V.int++[V.int ((i:Nat):Int)]=(ps++[(i:Int)]).map V.int:=by rw[AW];rfl
   rw[e]
   exact k r _ ((Same.new np).to nr) ((Same.new np).free nr) af
  ·exact q acc rs H2 (s1.trans s2) (s1.free nacc) hacc hrs fun i r hr=>⟨(hall i r hr).1,s1.free (hall i r hr).2⟩
def mv (K:PySem.W.Frag):Sp:=fun vs H Q _=>∃(a t:Addr) (hs:List Int) (st:List Nat),vs=[.ref a,.ref t]/\SqL K H a (hs.map V.int)/\(SqL K H t (st.map fun(i:Nat)=>V.int (i:Int))\/SqT K H t (st.map fun(i:Nat)=>V.int (i:Int)))/\(∀i∈st,i<hs.length)/\st.length<=6/\
 ∀H',Same H H'->Q (.int ((vF (fun i=>hs.getD i 0) st:Nat):Int)) H'
theorem tL:FnScope ["row","steps"] ["row","steps"] (ar kG):=⟨rfl,rfl,rfl,by decide +kernel,rfl,by decide +kernel,by decide +kernel⟩
theorem tM (D:Dfs K mg aF dF) (T:Txt mg):FnOk P w K mg base aX 1 (aF 8) (dF 8) ["row","steps"] (mv K):=by
 refine D.unlike.fn.ok tL (fun vs H Q E h=>?_) (fun cdv A outer s H vs Q E hr h=>?_)
 ·obtain⟨a,t,hs,st,rfl,_⟩:=h;rfl
 ·have hu:=be hr
  obtain⟨a,t,hs,st,rfl,ha,ht,hlt,h6,q⟩:=h
  refine⟨_,(ah (aj (ai (qW w) (by rfl) T.z_len boot_len (aa (aI (mQ w K) (by rfl) T.z_set PyProof.Rows.boot_set (aa (aL ["step","row"] [none,some 0] rfl (Ap K (pv 1)) (fun _=>aq (i:=0) (aB (N:=["step","row"]) (by decide +kernel)) rfl (Or.inl rfl)) (fun _=>aJ) (fun _=>(ao (cU K) (pv 1) (pv 0) (fun _ _=>rfl))) ((.cons (fun _ e=>by cases e) (.cons (fun _ e=>by cases e;exact⟨rfl,rfl⟩) .nil)))) ab)) ab)))),?_⟩
  have fin:∀acc H2,Same H H2->H2 acc=some (.lst ((st.map fun i=>hs.getD i 0).map V.int))->∀S,H2 S=none->Q (.int ((vF (fun i=>hs.getD i 0) st:Nat):Int)) (ay H2 S (.ext (SX w S (dd (st.map fun i=>hs.getD i 0))))):=fun acc H2 s2 _ S nS=>q _ (s2.to nS)
  refine⟨_,rfl,t,rfl,?_⟩
  rcases ht with ht | ht
  ·refine .inl ⟨⟨_,ht⟩,bD (xs:=st.map fun(i:Nat)=>V.int (i:Int)) (fun _=>true) (fun j=> .int (hs.getD (st.getD j 0) 0)) ht (by rw[AC];omega) (fun _ _ _ _ _ _ k=>k _ (Same.refl _)) (fun j x hx _ H2 R s2 k=>?_) fun acc H2 s2 nacc hacc=>?_⟩
   ·obtain⟨d,hd,rfl,ed⟩:=gX hx
    rw[ed]at k
    exact⟨_,rfl,_,rfl,a,_,_,_,rfl,rfl,s2.seq ha,bC (hlt d (AJ hd)),k _ (Same.refl _)⟩
   rw[uT]at hacc
   exact⟨acc,st.map fun i=>hs.getD i 0,rfl,SqL.of hacc,by rw[AC];omega,fun S nS=>⟨S,_,rfl,af,fin acc H2 s2 hacc S nS⟩⟩
  ·refine .inr ⟨⟨_,ht⟩,oH (xs:=st.map fun(i:Nat)=>V.int (i:Int)) (fun _=>true) (fun j=> .int (hs.getD (st.getD j 0) 0)) ht (by rw[AC];omega) (fun _ _ _ _ _ _ k=>k _ (Same.refl _)) (fun j x hx _ H2 R s2 k=>?_) fun acc H2 s2 nacc hacc=>?_⟩
   ·obtain⟨d,hd,rfl,ed⟩:=gX hx
    rw[ed]at k
    exact⟨_,rfl,_,rfl,a,_,_,_,rfl,rfl,s2.seq ha,bC (hlt d (AJ hd)),k _ (Same.refl _)⟩
   rw[uT]at hacc
   exact⟨acc,st.map fun i=>hs.getD i 0,rfl,SqL.of hacc,by rw[AC];omega,fun S nS=>⟨S,_,rfl,af,fin acc H2 s2 hacc S nS⟩⟩
def ji (K:PySem.W.Frag):Sp:=fun vs H Q _=>∃(a tp t:Addr) (hs:List Int) (st:List Nat) (wd:Str) (k:Int),vs=[.ref a,.ref tp]/\SqL K H a (hs.map V.int)/\SqT K H tp [.str wd,.int k,.ref t]/\SqT K H t (st.map fun(i:Nat)=>V.int (i:Int))/\(wd="most"\/wd="least")/\st.length<=6/\
 ∀H',Same H H'->Q (.bl (brk (fun i=>hs.getD i 0) hs.length wd k st)) H'
theorem jj:FnScope ["pattern","tie","steps","numbers_there"] ["pattern","tie"] (ar kF):=⟨rfl,rfl,rfl,by decide +kernel,rfl,by decide +kernel,by decide +kernel⟩
theorem tN (D:Dfs K mg aF dF) (T:Txt mg):FnOk P w K mg base aX 2 (aF 7) (dF 7) ["pattern","tie"] (ji K):=by
 have Gunlike:FnOk P w K mg base aX 1 (aF 8) (dF 8) ["row","steps"] (mv K):=tM D T
 refine D.breaks.fn.ok jj (fun vs H Q E h=>?_) (fun cdv A outer s H vs Q E hr h=>?_)
 ·obtain⟨a,tp,t,hs,st,wd,k,rfl,_⟩:=h;rfl
 ·have hu:=be hr
  obtain⟨a,tp,t,hs,st,wd,k,rfl,ha,htp,ht,hwd,h6,q⟩:=h
  refine⟨_,(ag (b9 (i₀:=2) jj.nd rfl (Or.inl rfl) ["step","pattern"] [none,some 0] rfl (zZ K (ao (cz K) (pv 1) ae (fun _ _=>rfl))) (fun _=>aq (i:=0) (aB (N:=["step","pattern"]) (by decide +kernel)) rfl (Or.inl rfl)) (fun _=>fz (av di (pv 0) (ai (bx K) (by rfl) T.z_len boot_len (aa (pv 1) ab)) (aw _))) (fun _=>(pv 0)) ((.cons (fun _ e=>by cases e) (.cons (fun _ e=>by cases e;exact⟨rfl,rfl⟩) .nil))))
   (ag (ax (i:=3) jj.nd rfl (Or.inl rfl) (pc D.unlike Gunlike (hr.mono (by decide)) (aa (pv 0) (aa (pv 2) ab))))
   (ag (az (av bj (ao (cz K) (pv 1) ae (fun _ _=>rfl)) aP (aw _))
    (ah (aj (bY qG (pv 3) (ao (cz K) (pv 1) ae (fun _ _=>rfl)) (aw _))))
    au)
   (ah (aj (bY di (ak cW (ak aG (pv 3) (ai (bx K) (by rfl) T.z_len boot_len (aa (ao (cz K) (pv 1) ae (fun _ _=>rfl)) ab))) (ai (bx K) (by rfl) T.z_len boot_len (aa (pv 2) ab))) (ao (cz K) (pv 1) ae (fun _ _=>rfl)) (aw _))))))),?_⟩
  refine⟨_,rfl,tp,_,_,_,rfl,rfl,htp,rfl,t,rfl,⟨_,ht⟩,?_⟩
  refine oH (xs:=st.map fun(i:Nat)=>V.int (i:Int)) (fun j=>decide (st.getD j 0<hs.length)) (fun j=> .int ((st.getD j 0:Nat):Int)) ht (by rw[AC];omega) (fun j x hx H2 R s2 k=>?_) (fun j x hx hp H2 R s2 k=>?_) fun acc H2 s2 nacc hacc=>?_
  ·obtain⟨d,hd,rfl,ed⟩:=gX hx
   rw[ed]at k
   refine⟨_,rfl,_,rfl,_,_,rfl,.inl ⟨_,s2.seq ha,rfl⟩,_,_,rfl,rfl,_,rfl,?_⟩
   have kk:=k H2 (Same.refl _)
   rw[xY]at kk
   rw[AC]
   exact kk
  ·obtain⟨d,hd,rfl,ed⟩:=gX hx
   rw[ed]at k
   exact⟨_,rfl,k _ (Same.refl _)⟩
  rw[AC,zL (g:=fun i=>decide (i<hs.length)) (F:=fun(i:Nat)=>V.int (i:Int))]at hacc
  have fl:(st.filter fun i=>decide (i<hs.length)).length<=st.length:=Bh ..
  refine⟨_,rfl,_,rfl,a,acc,hs,st.filter fun i=>decide (i<hs.length),rfl,s2.seq ha,.inl (SqL.of hacc),(fun i hi=>of_decide_eq_true (Bj.mp hi).2),by omega,fun H3 s23=>?_⟩
  have s3:=s2.trans s23
  have hacc3:=s23 _ _ hacc
  have q3:=q H3 s3
  refine⟨_,rfl,tp,_,_,_,rfl,rfl,Same.seqT s3 htp,rfl,rfl,_,rfl,?_⟩
  unfold brk at q3
  rcases hwd with e | e<;>subst e
  ·refine bP ?_
   rw[if_pos rfl]at q3
   exact⟨_,rfl,_,rfl,tp,_,_,_,rfl,rfl,Same.seqT s3 htp,rfl,_,_,rfl,rfl,q3⟩
  ·rw [decide_eq_false (by decide)]
   refine aE ?_
   rw[if_neg (by decide)]at q3
   refine⟨_,rfl,_,rfl,tp,_,_,_,rfl,rfl,Same.seqT s3 htp,rfl,_,_,rfl,.inr ⟨_,Same.seqT s3 ht,rfl⟩,_,_,rfl,rfl,_,rfl,_,_,rfl,.inl ⟨_,SqL.of hacc3,rfl⟩,_,_,rfl,rfl,_,rfl,tp,_,_,_,rfl,rfl,Same.seqT s3 htp,rfl,_,_,rfl,rfl,?_⟩
   rw[AC,AC]
   exact q3
def kK (K:PySem.W.Frag):Sp:=fun vs H Q _=>∃(b:Nat) (pa ma:Addr) (p:List Int) (rs:List Addr) (may:List (List Int)) (U:List Int),vs=[.int ((b:Nat):Int),.ref pa,.ref ma]/\SqL K H pa (p.map V.int)/\May K H ma rs may U/\bR p/\b<(dd p).length/\p.length<=may.length/\
 ∀l H',Same H H'->H l=none->H' l=some (.lst ((e9 may p b).map V.int))->Q (.ref l) H'
theorem dU:FnScope ["block","pattern","may","steps","step","pool"] ["block","pattern","may"] (ar jg):=⟨rfl,rfl,rfl,by decide +kernel,rfl,by decide +kernel,by decide +kernel⟩
theorem qA (D:Dfs K mg aF dF) (T:Txt mg):FnOk P w K mg base aX 2 (aF 10) (dF 10) ["block","pattern","may"] (kK K):=by
 have Gcommon:FnOk P w K mg base aX 1 (aF 3) (dF 3) ["one","other"] (mm K):=tI D T
 refine D.pool_of.fn.ok dU (fun vs H Q E h=>?_) (fun cdv A outer s H vs Q E hr h=>?_)
 ·obtain⟨b,pa,ma,p,rs,may,U,rfl,_⟩:=h;rfl
 ·have hu:=be hr
  obtain⟨b,pa,ma,p,rs,may,U,rfl,hp,hm,c,hb,hl,q⟩:=h
  refine⟨_,(ag (b9 (i₀:=3) dU.nd rfl (Or.inl rfl) ["step","pattern","block"] [none,some 1,some 0] rfl (aY rfl T.z_range (aa (ai (bx K) (by rfl) T.z_len boot_len (aa (pv 1) ab)) ab)) (fun _=>aq (i:=0) (aB (N:=["step","pattern","block"]) (by decide +kernel)) rfl (Or.inl rfl)) (fun _=>fz (av bj (ao (cU K) (pv 1) (pv 0) (fun _ _=>rfl)) (pv 2) (aw _))) (fun _=>(pv 0)) ((.cons (fun _ e=>by cases e) (.cons (fun _ e=>by cases e;exact⟨rfl,rfl⟩) (.cons (fun _ e=>by cases e;exact⟨rfl,rfl⟩) .nil)))))
   (ag (ax (i:=5) dU.nd rfl (Or.inl rfl) (aI (j8 K) (by rfl) T.z_list boot_list (aa (ao (cU K) (pv 2) (ao (cU K) (pv 3) ae (fun _ _=>rfl)) (fun _ _=>rfl)) ab)))
   (ag (bH PassesOwn.never rfl (gG K (cK (wa K) (pv 3) (c8 ae) eB)) (aq (i:=4) dU.nd rfl (Or.inl rfl))
    (ah (ax (i:=5) dU.nd rfl (Or.inl rfl) (pc D.common Gcommon (hr.mono (by decide)) (aa (pv 5) (aa (ao (cU K) (pv 2) (pv 4) (fun _ _=>rfl)) ab))))))
   (ah (aj (pv 5)))))),?_⟩
  have m6:=hm.m6
  refine⟨_,rfl,_,_,rfl,.inl ⟨_,hp,rfl⟩,_,rfl,gD _,by rw[AC];omega,?_⟩
  have e0:(((p.map V.int).length:Nat):Int).toNat=p.length:=by rw[AC];omega
  rw[e0]
  refine i6 (n:=p.length) (fun i=>decide (p.getD i 0=(b:Int))) (by omega) (fun i hi H3 R s3 k=>?_) (fun i hi H3 R k=>?_) fun sl H3 s3 nsl hsl=>?_
  ·have ei:(0:Int)+(i:Int)=((i:Nat):Int):=by omega
   rw[ei]
   have kk:=k H3 (Same.refl _)
   rw[oI]at kk
   exact⟨_,rfl,_,rfl,pa,_,_,_,rfl,rfl,s3.seq hp,bC hi,_,rfl,rfl,_,rfl,kk⟩
  ·have ei:(0:Int)+(i:Int)=((i:Nat):Int):=by omega
   rw[ei]
   exact⟨_,rfl,k⟩
  have sne:aU p b≠[]:=cM c hb
  have slt:∀i∈aU p b,i<may.length:=fun i hi=>by have:=(dQ.mp hi).1;omega
  have hsl:H3 sl=some (.lst ((aU p b).map fun(i:Nat)=>V.int (i:Int))):=hsl
  have q2:∀l H',Same H3 H'->H3 l=none->H' l=some (.lst ((e8 (aU p b) may).map V.int))->Q (.ref l) H':=fun l H' s n e=>q l H' (s3.trans s) (s3.free n) e
  have s6:(aU p b).length<=6:=by
   have:=Bh (fun i=>decide (p.getD i 0=(b:Int))) (AH p.length)
   rw[Bm]at this
   show((AH p.length).filter fun i=>decide (p.getD i 0=(b:Int))).length<=6
   omega
  have hm3:=hm.same s3
  clear q
  generalize aU p b=st at hsl sne slt q2 s6
  obtain⟨s0,sr,rfl⟩:=List.exists_cons_of_ne_nil sne
  obtain⟨r0,hr0,hq0,up0,sub0⟩:=hm3.rows (slt s0 (by simp))
  refine⟨_,rfl,_,rfl,sl,_,_,_,rfl,rfl,SqL.of hsl,bw (j:=0) (v:=V.int (s0:Int)) rfl,ma,_,_,_,rfl,rfl,hm3.ls,bw (by rw[AG,hr0];rfl),r0,_,rfl,.inl hq0,fun l nl=>?_⟩
  have cf:b8 (((s0 :: sr).map fun(i:Nat)=>V.int (i:Int))) (some (1:Int)) none=sr.map fun(i:Nat)=>V.int (i:Int):=ir _ 1
  refine⟨_,rfl,_,rfl,sl,_,rfl,SqL.of (Same.new nl _ _ hsl),fun cc ncc=>?_⟩
  have s34:=(Same.new (o:= .lst ((may.getD s0 []).map V.int)) nl).to (o:= .lst (sr.map fun(i:Nat)=>V.int (i:Int))) ncc
  have ncl:l≠cc:=fun z=>by rw[<- z,af]at ncc;cases ncc
  have hl4:ay (ay H3 l (.lst ((may.getD s0 []).map V.int))) cc (.lst (sr.map fun(i:Nat)=>V.int (i:Int))) l=some (.lst ((may.getD s0 []).map V.int)):=by rw[aC ncl];exact af
  have hcc4:ay (ay H3 l (.lst ((may.getD s0 []).map V.int))) cc (.lst (sr.map fun(i:Nat)=>V.int (i:Int))) cc=some (.lst (sr.map fun(i:Nat)=>V.int (i:Int))):=af
  rw[cf]
  generalize ay (ay H3 l (.lst ((may.getD s0 []).map V.int))) cc (.lst (sr.map fun(i:Nat)=>V.int (i:Int)))=H4 at s34 hl4 hcc4
  refine⟨cc,rfl,⟨_,SqL.of hcc4⟩,?_⟩
  refine cq (K:=K) (a:=cc) (xs:=sr.map fun(i:Nat)=>V.int (i:Int)) (fun i σ H5=>∃(po:Addr) (x:Option V),σ=[some (.int ((b:Nat):Int)),some (.ref pa),some (.ref ma),some (.ref sl),x,some (.ref po)]/\Same H4 H5/\H3 po=none/\H5 po=some (.lst ((e8 (s0 :: sr.take i) may).map V.int)))
   ⟨l,none,rfl,Same.refl _,nl,by rw[Cb,sJ];exact hl4⟩ (fun i σ H5 _ hq__=>by obtain⟨_,_,_,s,_⟩:=hq__;exact s.seq (SqL.of hcc4)) ?_ ?_
  ·rintro i y σ H5 hi ⟨po,x,rfl,s5,npo,hpo⟩
   obtain⟨d,hd,rfl,_⟩:=gX hi
   have hdl:=slt d (AY _ (AJ hd))
   have hm5:=hm3.same (s34.trans s5)
   obtain⟨r1,hr1,hq1,up1,sub1⟩:=hm5.rows hdl
   refine⟨_,rfl,_,rfl,_,rfl,ma,_,_,_,rfl,rfl,hm5.ls,bw (by rw[AG,hr1];rfl),po,r1,e8 (s0 :: sr.take i) may,may.getD d [],U,rfl,⟨SqL.of hpo,hq1,ki hm.up,up1,fun x hx=>sub0 x ((Bj.mp hx).1),sub1,by have:=hm.u20;omega⟩,fun l2 ks H6 ⟨t1,t2,t3,t4,t5⟩=>?_⟩
   refine⟨l2,_,rfl,s5.trans t1,(s34.trans s5).free t2,?_⟩
   have et:sr.take (i+1)=sr.take i++[d]:=by rw[BO,hd];rfl
   have ek:ks=e8 (s0 :: sr.take (i+1)) may:=by
    refine uV t4 (ki hm.up) fun x=>?_
    rw[t5 x,et,<- List.cons_append,qk (by simp)]
    exact Iff.rfl
   rw[<- ek]
   exact t3
  ·rintro σ H5 ⟨po,x,rfl,s5,npo,hpo⟩
   rw[AC,Bg]at hpo
   exact⟨_,rfl,q2 po H5 (s34.trans s5) npo hpo⟩
def jz (K:PySem.W.Frag):Sp:=fun vs H Q _=>∃(pa ma:Addr) (p:List Int) (rs:List Addr) (may:List (List Int)) (U:List Int),vs=[.ref pa,.ref ma]/\SqL K H pa (p.map V.int)/\May K H ma rs may U/\bR p/\p.length<=may.length/\
 ∀l (ls:List Addr) H',Same H H'->H l=none->H' l=some (.lst (ls.map V.ref))->RowsL H' ls (l8 may p)->(∀r∈ls,H r=none)->Q (.ref l) H'
theorem oY:FnScope ["pattern","may"] ["pattern","may"] (ar g6):=⟨rfl,rfl,rfl,by decide +kernel,rfl,by decide +kernel,by decide +kernel⟩
theorem oZ (D:Dfs K mg aF dF) (T:Txt mg):FnOk P w K mg base aX 3 (aF 9) (dF 9) ["pattern","may"] (jz K):=by
 have Gwidth:FnOk P w K mg base aX 1 (aF 5) (dF 5) ["pattern"] (fh K):=gc D T
 have Gpool_of:FnOk P w K mg base aX 2 (aF 10) (dF 10) ["block","pattern","may"] (kK K):=qA D T
 refine D.pools_of.fn.ok oY (fun vs H Q E h=>?_) (fun cdv A outer s H vs Q E hr h=>?_)
 ·obtain⟨pa,ma,p,rs,may,U,rfl,_⟩:=h;rfl
 ·have hu:=be hr
  obtain⟨pa,ma,p,rs,may,U,rfl,hp,hm,c,hl,q⟩:=h
  refine⟨_,(ah (aj (aL ["block","pattern","may"] [none,some 0,some 1] rfl (aY rfl T.z_range (aa (pc D.width Gwidth (hr.mono (by decide)) (aa (pv 0) ab)) ab)) (fun _=>aq (i:=0) (aB (N:=["block","pattern","may"]) (by decide +kernel)) rfl (Or.inl rfl)) (fun _=>aJ) (fun _=>(pc D.pool_of Gpool_of (hr.mono (by decide)) (aa (pv 0) (aa (pv 1) (aa (pv 2) ab))))) ((.cons (fun _ e=>by cases e) (.cons (fun _ e=>by cases e;exact⟨rfl,rfl⟩) (.cons (fun _ e=>by cases e;exact⟨rfl,rfl⟩) .nil))))))),?_⟩
  have m6:=hm.m6
  have dl:=bV p
  refine⟨_,rfl,pa,p,rfl,hp,by omega,fun H1 s1=>?_⟩
  refine⟨_,rfl,gD _,by omega,?_⟩
  rw[Ba]
  refine ju (n:=(dd p).length) (fun i=>(e9 may p i).map V.int) (by omega) (fun i hi H2 R s2 k=>?_) fun acc ls H2 s2 nacc hacc hrs hall hne=>?_
  ·have ei:(0:Int)+(i:Int)=((i:Nat):Int):=by omega
   rw[ei]
   have s12:=s1.trans s2
   exact⟨_,rfl,_,rfl,_,rfl,i,pa,ma,p,rs,may,U,rfl,s12.seq hp,hm.same s12,c,hi,hl,fun r H3 s3 nr hr=>k r H3 s3 nr hr⟩
  ·refine q acc ls H2 (s1.trans s2) (s1.free nacc) hacc (RowsL.of (by rw[hrs,l9]) fun i r p' e1 e2=>?_) fun r hr=>?_
   ·have hi:i<(dd p).length:=by rw[<- hrs];exact(AF.mp e1).1
    rw[iE hi]at e2
    cases e2
    exact(hall i r e1).1
   ·obtain⟨i,hi,ei⟩:=AU.mp hr
    exact s1.free (hall i r (by rw[AD hi,ei])).2
def iN (K:PySem.W.Frag):Sp:=fun vs H Q _=>∃(pa ta:Addr) (j:Int) (p:List Int) (may:List (List Int)) (ts:List (Addr×Addr×Str×Int×List Nat)) (b:Bool),vs=[.ref pa,.ref ta,.int j]/\SqL K H pa (p.map V.int)/\Ties K H ta ts 100/\ShowsIs may (ts.map dy) p (.tie j) b/\∀H',Same H H'->Q (.bl b) H'
theorem nA:FnScope ["pattern","ties","place"] ["pattern","ties","place"] (ar fS):=⟨rfl,rfl,rfl,by decide +kernel,rfl,by decide +kernel,by decide +kernel⟩
theorem nB (D:Dfs K mg aF dF) (T:Txt mg):FnOk P w K mg base aX 3 (aF 12) (dF 12) ["pattern","ties","place"] (iN K):=by
 have Gis_whole:FnOk P w K mg base aX 1 (aF 0) (dF 0) ["thing"] (cH K):=dz D T
 have Gbreaks:FnOk P w K mg base aX 2 (aF 7) (dF 7) ["pattern","tie"] (ji K):=tN D T
 refine D.tie_shows.fn.ok nA (fun vs H Q E h=>?_) (fun cdv A outer s H vs Q E hr h=>?_)
 ·obtain⟨pa,ta,j,p,may,ts,b,rfl,_⟩:=h;rfl
 ·have hu:=be hr
  obtain⟨pa,ta,j,p,may,ts,b,rfl,hp,tt,si,q⟩:=h
  refine⟨_,(ah (aj (eN (pc D.is_whole Gis_whole (hr.mono (by decide)) (aa (pv 2) ab)) (eN (jX jk di ae (pv 2) (ai (bx K) (by rfl) T.z_len boot_len (aa (pv 1) ab))) (gQ (pc D.breaks Gbreaks (hr.mono (by decide)) (aa (pv 0) (aa (ao (cU K) (pv 1) (pv 2) (fun _ _=>rfl)) ab)))))))),?_⟩
  refine⟨_,rfl,j,rfl,_,rfl,bP ?_⟩
  refine⟨_,rfl,_,_,rfl,rfl,_,rfl,?_⟩
  cases si with
  | @tie _ _ t h0 hj=>
   rw[AG]at hj
   obtain⟨x,hx,rfl⟩:=AL.mp hj
   have jl:=(AF.mp hx).1
   obtain⟨n,en⟩:∃n:Nat,j=(n:Int):=⟨j.toNat,by omega⟩
   subst en
   rw[Ba]at hx jl
   have te:=tt.ea x (AJ hx)
   rw[decide_eq_true (by omega)]
   refine bP ⟨_,rfl,_,_,rfl,.inl ⟨_,tt.ls,rfl⟩,_,_,rfl,rfl,_,rfl,?_⟩
   rw[decide_eq_true (by rw[AC];omega)]
   exact bP ⟨_,rfl,_,rfl,_,rfl,ta,_,_,_,rfl,rfl,tt.ls,bw (by rw[AG,hx];rfl),pa,x.1,x.2.1,p,x.2.2.2.2,x.2.2.1,x.2.2.2.1,rfl,hp,SqT.of te.tp,SqT.of te.ts,te.wd,te.sl,fun H1 s1=>q H1 s1⟩
  | noTie hno=>
   rw[AC]at hno
   by_cases z:(0:Int)<=j
   ·rw [decide_eq_true z]
    refine bP ⟨_,rfl,_,_,rfl,.inl ⟨_,tt.ls,rfl⟩,_,_,rfl,rfl,_,rfl,?_⟩
    rw[decide_eq_false (by rw[AC];exact fun y=>hno ⟨z,y⟩)]
    exact aE (q H (Same.refl _))
   ·rw [decide_eq_false z]
    exact aE ⟨_,rfl,aE (q H (Same.refl _))⟩
def dA (K:PySem.W.Frag):Sp:=fun vs H Q _=>∃(pa ba:Addr) (p bs:List Int),vs=[.ref pa,.ref ba]/\SqL K H pa (p.map V.int)/\p.length<=6/\H ba=some (.lst (bs.map V.int))/\bs.length<=1000/\∀H',Same H H'->Q (.bl (jK bs&&ym p bs)) H'
theorem gd:FnScope ["pattern","blocks"] ["pattern","blocks"] (ar cj):=⟨rfl,rfl,rfl,by decide +kernel,rfl,by decide +kernel,by decide +kernel⟩
theorem gf (D:Dfs K mg aF dF) (T:Txt mg):FnOk P w K mg base aX 2 (aF 14) (dF 14) ["pattern","blocks"] (dA K):=by
 have Gis_whole:FnOk P w K mg base aX 1 (aF 0) (dF 0) ["thing"] (cH K):=dz D T
 have Gis_rising:FnOk P w K mg base aX 1 (aF 2) (dF 2) ["numbers"] (fG K):=iL D T
 have Gwidth:FnOk P w K mg base aX 1 (aF 5) (dF 5) ["pattern"] (fh K):=gc D T
 refine D.is_list_of_blocks.fn.ok gd (fun vs H Q E h=>?_) (fun cdv A outer s H vs Q E hr h=>?_)
 ·obtain⟨pa,ba,p,bs,rfl,_⟩:=h;rfl
 ·have hu:=be hr
  obtain⟨pa,ba,p,bs,rfl,hp,p6,hba,bl,q⟩:=h
  refine⟨_,(ag (az (PW.pt (cV (aZ (bg (ai (fJ K) (by rfl) T.z_isinstance boot_isinstance (aa (pv 1) (aa (eF T.z_list) ab))))) (cB (aZ (bg (ai (mL K) (by rfl) T.z_all boot_all (aa (aL ["block"] [none] rfl (gG K (pv 1)) (fun _=>aq (i:=0) (aB (N:=["block"]) (by decide +kernel)) rfl (Or.inl rfl)) (fun _=>aJ) (fun _=>(pc D.is_whole Gis_whole (hr.mono (by decide)) (aa (pv 0) ab))) ((.cons (fun _ e=>by cases e) .nil))) ab)))))))
    (ah (aj bB))
    au)
   (ah (aj (eN (pc D.is_rising Gis_rising (hr.mono (by decide)) (aa (pv 1) ab)) (gQ (ai (mL K) (by rfl) T.z_all boot_all (aa (aL ["block","pattern"] [none,some 0] rfl (gG K (pv 1)) (fun _=>aq (i:=0) (aB (N:=["block","pattern"]) (by decide +kernel)) rfl (Or.inl rfl)) (fun _=>aJ) (fun _=>(jX jk di ae (pv 0) (pc D.width Gwidth (hr.mono (by decide)) (aa (pv 1) ab)))) ((.cons (fun _ e=>by cases e) (.cons (fun _ e=>by cases e;exact⟨rfl,rfl⟩) .nil)))) ab))))))),?_⟩
  refine⟨_,rfl,_,_,_,true,rfl,.lst hba,rfl,_,rfl,aE ?_⟩
  refine⟨_,rfl,ba,rfl,⟨_,SqL.of hba⟩,?_⟩
  refine bD (xs:=bs.map V.int) (fun _=>true) (fun _=> .bl true) (SqL.of hba) (by rw[AC];omega) (fun _ _ _ _ _ _ k=>k _ (Same.refl _)) (fun j x hx _ H2 R s2 k=>?_) fun acc H2 s2 nacc hacc=>?_
  ·obtain⟨d,hd,rfl,ed⟩:=cN hx
   exact⟨_,rfl,d,rfl,k H2 (Same.refl _)⟩
  rw[A8.mpr (fun _ _=>rfl)]at hacc
  have e1:(AH (bs.map V.int).length).map (fun _=>V.bl true)=((AH (bs.map V.int).length).map fun _=>true).map V.bl:=by rw[A3];rfl
  rw[e1]at hacc
  refine⟨acc,_,rfl,SqL.of hacc,_,rfl,?_⟩
  have e2:((AH (bs.map V.int).length).map fun _=>true).all id=true:=AX.mpr fun x hx=>by obtain⟨_,_,e⟩:=Br.mp hx;rw[<- e];rfl
  rw[e2]
  refine aE ?_
  refine⟨_,rfl,ba,bs,rfl,SqL.of (s2 _ _ hba),bl,fun H3 s3=>⟨_,rfl,zI (fun h1=>?_) fun h1=>?_⟩⟩
  ·have s23:=s2.trans s3
   refine⟨_,rfl,ba,rfl,⟨_,SqL.of (s23 _ _ hba)⟩,?_⟩
   refine bD (xs:=bs.map V.int) (fun _=>true) (fun j=> .bl (decide (0<=bs.getD j 0/\bs.getD j 0<(((dd p).length:Nat):Int)))) (SqL.of (s23 _ _ hba)) (by rw[AC];omega) (fun _ _ _ _ _ _ k=>k _ (Same.refl _)) (fun j x hx _ H4 R s4 k=>?_) fun acc2 H4 s4 nacc2 hacc2=>?_
   ·obtain⟨d,hd,rfl,ed⟩:=cN hx
    rw[ed]at k
    refine⟨_,rfl,_,_,rfl,rfl,_,rfl,pD (fun z=>?_) fun z=>?_⟩
    ·refine⟨_,rfl,pa,p,rfl,(s23.trans s4).seq hp,p6,fun H5 s5=>⟨_,_,rfl,rfl,?_⟩⟩
     have kk:=k H5 s5
     have e:decide (0<=d/\d<(((dd p).length:Nat):Int))=decide (d<(((dd p).length:Nat):Int)):=by
      by_cases y:d<(((dd p).length:Nat):Int)
      ·rw [decide_eq_true y,decide_eq_true ⟨z,y⟩]
      ·rw [decide_eq_false y,decide_eq_false fun w=>y w.2]
     rw[e]at kk
     exact kk
    ·have kk:=k H4 (Same.refl _)
     rw[decide_eq_false fun w=>z w.1]at kk
     exact kk
   rw[A8.mpr (fun _ _=>rfl),AC]at hacc2
   have e3:(AH bs.length).map (fun j=>V.bl (decide (0<=bs.getD j 0/\bs.getD j 0<(((dd p).length:Nat):Int))))=(bs.map fun b=>decide (0<=b/\b<(((dd p).length:Nat):Int))).map V.bl:=by
    rw[A3]
    exact ql fun i x hx=>by rw[AE,hx];rfl
   rw[e3]at hacc2
   refine⟨acc2,_,rfl,SqL.of hacc2,?_⟩
   have e4:(bs.map fun b=>decide (0<=b/\b<(((dd p).length:Nat):Int))).all id=ym p bs:=by unfold ym;rw[List.all_map];rfl
   rw[e4]
   have qq:=q H4 (s23.trans s4)
   rw[h1,Bool.true_and]at qq
   exact qq
  ·have qq:=q H3 (s2.trans s3)
   rw[h1,Bd]at qq
   exact qq
def gh (K:PySem.W.Frag):Sp:=fun vs H Q _=>∃(pa ma ba:Addr) (p:List Int) (rs:List Addr) (may:List (List Int)) (U:List Int) (bs:List Int),vs=[.ref pa,.ref ma,.ref ba]/\SqL K H pa (p.map V.int)/\May K H ma rs may U/\bR p/\p.length<=may.length/\H ba=some (.lst (bs.map V.int))/\bs.length<=1000/\∀H',Same H H'->Q (.bl (cO may p bs)) H'
theorem b5:FnScope ["pattern","may","blocks","pools","badges","block"] ["pattern","may","blocks"] (ar eO):=⟨rfl,rfl,rfl,by decide +kernel,rfl,by decide +kernel,by decide +kernel⟩
theorem kL (D:Dfs K mg aF dF) (T:Txt mg):FnOk P w K mg base aX 4 (aF 13) (dF 13) ["pattern","may","blocks"] (gh K):=by
 have Gjoined:FnOk P w K mg base aX 1 (aF 4) (dF 4) ["one","other"] (mq K):=tK D T
 have Gpools_of:FnOk P w K mg base aX 3 (aF 9) (dF 9) ["pattern","may"] (jz K):=oZ D T
 have Gis_list_of_blocks:FnOk P w K mg base aX 2 (aF 14) (dF 14) ["pattern","blocks"] (dA K):=gf D T
 refine D.short_shows.fn.ok b5 (fun vs H Q E h=>?_) (fun cdv A outer s H vs Q E hr h=>?_)
 ·obtain⟨pa,ma,ba,p,rs,may,U,bs,rfl,_⟩:=h;rfl
 ·have hu:=be hr
  obtain⟨pa,ma,ba,p,rs,may,U,bs,rfl,hp,hm,c,hl,hba,bl,q⟩:=h
  refine⟨_,(ag (az (aZ (bg (pc D.is_list_of_blocks Gis_list_of_blocks (hr.mono (by decide)) (aa (pv 0) (aa (pv 2) ab)))))
    (ah (aj bB))
    au)
   (ag (ax (i:=3) b5.nd rfl (Or.inl rfl) (pc D.pools_of Gpools_of (hr.mono (by decide)) (aa (pv 0) (aa (pv 1) ab))))
   (ag (ax (i:=4) b5.nd rfl (Or.inl rfl) (aA ab))
   (ag (bH PassesOwn.never rfl (gG K (pv 2)) (aq (i:=5) b5.nd rfl (Or.inl rfl))
    (ah (ax (i:=4) b5.nd rfl (Or.inl rfl) (pc D.joined Gjoined (hr.mono (by decide)) (aa (pv 4) (aa (ao (cU K) (pv 3) (pv 5) (fun _ _=>rfl)) ab))))))
   (ah (aj (bY di (ai (bx K) (by rfl) T.z_len boot_len (aa (pv 4) ab)) (ai (bx K) (by rfl) T.z_len boot_len (aa (pv 2) ab)) (aw _)))))))),?_⟩
  have m6:=hm.m6
  refine⟨_,rfl,_,rfl,pa,ba,p,bs,rfl,hp,by omega,hba,bl,fun H1 s1=>⟨_,rfl,jn (fun h1=>?_) fun h1=>?_⟩⟩
  ·have qq:=q H1 s1
   unfold cO at qq
   rw[h1,Bd]at qq
   exact qq
  have hin:∀b∈bs,0<=b/\b<(((dd p).length:Nat):Int):=fun b hb=>of_decide_eq_true (AX.mp (Bool.and_eq_true_iff.mp h1).2 b hb)
  have hm1:=hm.same s1
  refine⟨_,rfl,_,rfl,pa,ma,p,rs,may,U,rfl,s1.seq hp,hm1,c,hl,fun po ls H2 s2 npo hpo R2 fr2=>⟨bM,fun b0 nb0=>?_⟩⟩
  have s23:=Same.new (o:= .lst []) nb0
  have s03:=(s1.trans s2).trans s23
  have hb3:ay H2 b0 (.lst []) b0=some (.lst []):=af
  generalize ay H2 b0 (.lst [])=H3 at s23 s03 hb3
  have u26:=hm.u20
  refine⟨_,rfl,ba,rfl,⟨_,SqL.of (s03 _ _ hba)⟩,?_⟩
  refine cq (K:=K) (a:=ba) (xs:=bs.map V.int) (fun i σ Hx=>∃(x:Addr) (ks:List Int) (y:Option V),σ=[some (.ref pa),some (.ref ma),some (.ref ba),some (.ref po),some (.ref x),y]/\Same H3 Hx/\Hx x=some (.lst (ks.map V.int))/\ks.Pairwise (· < ·)/\(∀b∈ks,b∈U)/\∀b,b∈ks<->b∈c0 may p (bs.take i)) ⟨b0,[],none,rfl,Same.refl _,hb3,List.Pairwise.nil,(fun _ z=>by cases z),fun b=>Iff.rfl⟩ (fun i σ Hx _ hq__=>by obtain⟨_,_,_,_,s,_⟩:=hq__;exact s.seq (SqL.of (s03 _ _ hba))) ?_ ?_
  ·rintro i y σ Hx hi ⟨x,ks,y',rfl,sx,hx,up,sub,mem⟩
   obtain⟨d,hd,rfl,ed⟩:=cN hi
   obtain⟨d0,d1⟩:=hin d (AJ hd)
   obtain⟨b,eb⟩:∃b:Nat,d=(b:Int):=⟨d.toNat,by omega⟩
   subst eb
   have bl':b<(dd p).length:=by omega
   have s2x:=s23.trans sx
   obtain⟨r,er,hr'⟩:=(R2.same s2x).at (iE bl')
   have psub:=sL c hl hm.sub (e9 may p b) (AJ (iE bl'))
   refine⟨_,rfl,_,rfl,_,rfl,po,_,_,_,rfl,rfl,SqL.of (s2x _ _ hpo),bw (by rw[AG,er];rfl),x,r,ks,e9 may p b,U,rfl,⟨SqL.of hx,SqL.of hr',up,ki hm.up,sub,psub,by omega⟩,fun l2 ks2 H4 ⟨t1,t2,t3,t4,t5⟩=>?_⟩
   refine⟨l2,ks2,_,rfl,sx.trans t1,t3,t4,fun b' hb'=>?_,fun b'=>?_⟩
   ·rcases(t5 b').mp hb' with z | z
    ·exact sub b' z
    ·exact psub b' z
   ·have et:bs.take (i+1)=bs.take i++[(b:Int)]:=by rw[BO,hd];rfl
    rw[t5 b',et]
    unfold c0
    rw[List.flatMap_append,AZ]
    have e2:[(b:Int)].flatMap (fun b=>e9 may p b.toNat)=e9 may p b:=by rw[List.flatMap_singleton,Ba]
    rw[e2]
    exact or_congr (mem b') Iff.rfl
  ·rintro σ Hx ⟨x,ks,y',rfl,sx,hx,up,sub,mem⟩
   rw[AC,Bg]at mem
   refine⟨_,rfl,_,_,rfl,.inl ⟨_,SqL.of hx,rfl⟩,_,rfl,_,_,rfl,.inl ⟨_,SqL.of (sx _ _ (s03 _ _ hba)),rfl⟩,_,_,rfl,rfl,?_⟩
   have el:ks.length=(dd (c0 may p bs)).length:=by
    have nd:=jv up
    have a1:=nd.length_le_of_subset (l₂:=dd (c0 may p bs)) fun b hb=>bI.mpr ((mem b).mp hb)
    have a2:=(jq (c0 may p bs)).length_le_of_subset (l₂:=ks) fun b hb=>(mem b).mpr (bI.mp hb)
    omega
   have qq:=q Hx (s03.trans sx)
   have e:cO may p bs=decide ((((ks.map V.int).length:Nat):Int)<(((bs.map V.int).length:Nat):Int)):=by
    unfold cO
    rw[h1,Bool.true_and,AC,AC,el]
    by_cases z:(dd (c0 may p bs)).length<bs.length
    ·rw [decide_eq_true z,decide_eq_true (by omega)]
    ·rw [decide_eq_false z,decide_eq_false (by omega)]
   rw[e]at qq
   exact qq
def gi (K:PySem.W.Frag):Sp:=fun vs H Q _=>∃(pa l:Addr) (p:List Int) (vs':List V) (c:Nat),vs=[.ref pa,.int (c:Int),.ref l]/\H pa=some (.lst (p.map V.int))/\H l=some (.lst vs')/\c<=6/\∀H',Same H H'->Q (.bl (decide (p.length<c/\vs'.length=(dd p).length+1))) H'
theorem o4:FnScope ["pattern","count","papers"] ["pattern","count","papers"] (ar g7):=⟨rfl,rfl,rfl,by decide +kernel,rfl,by decide +kernel,by decide +kernel⟩
theorem jA (D:Dfs K mg aF dF) (T:Txt mg):FnOk P w K mg base aX 3 (aF 16) (dF 16) ["pattern","count","papers"] (gi K):=by
 have Ggrown:FnOk P w K mg base aX 2 (aF 6) (dF 6) ["pattern"] (iM K):=kJ D T
 refine D.is_split.fn.ok o4 (fun vs H Q E h=>?_) (fun cdv A outer s H vs Q E hr h=>?_)
 ·obtain⟨pa,l,p,vs',c,rfl,_⟩:=h;rfl
 ·have hu:=be hr
  obtain⟨pa,l,p,vs',c,rfl,hpa,hl,c6,q⟩:=h
  refine⟨_,(ah (aj (eN (bY di (ai (bx K) (by rfl) T.z_len boot_len (aa (pv 0) ab)) (pv 1) (aw _)) (eN (ai (fJ K) (by rfl) T.z_isinstance boot_isinstance (aa (pv 2) (aa (eF T.z_list) ab))) (gQ (bY bj (ai (bx K) (by rfl) T.z_len boot_len (aa (pv 2) ab)) (ai (bx K) (by rfl) T.z_len boot_len (aa (pc D.grown Ggrown (hr.mono (by decide)) (aa (pv 0) ab)) ab)) (aw _))))))),?_⟩
  refine⟨_,rfl,_,_,rfl,.inl ⟨_,SqL.of hpa,rfl⟩,_,rfl,_,_,rfl,rfl,_,rfl,pD (fun lt=>?_) fun ge=>?_⟩
  ·rw [AC]at lt
   refine⟨_,rfl,_,_,_,true,rfl,.lst hl,rfl,_,rfl,bP ?_⟩
   refine⟨_,rfl,_,_,rfl,.inl ⟨_,SqL.of hl,rfl⟩,_,rfl,pa,p,rfl,hpa,by omega,fun gl gs H1 s1 ngl hgl hgs gall=>?_⟩
   refine⟨_,_,rfl,.inl ⟨_,SqL.of hgl,rfl⟩,rfl,?_⟩
   have qq:=q H1 s1
   have e:decide (p.length<c/\vs'.length=(dd p).length+1)=decide (V.int ((vs'.length:Nat):Int)=V.int ((((gs.map V.ref).length:Nat)):Int)):=by
    rw[AC,hgs]
    by_cases z:vs'.length=(dd p).length+1
    ·rw [decide_eq_true ⟨by omega,z⟩,decide_eq_true (by rw[z])]
    ·rw [decide_eq_false (fun y=>z y.2),decide_eq_false (fun y=>z (by injection y with y;omega))]
   rw[e]at qq
   exact qq
  ·rw [AC]at ge
   have qq:=q H (Same.refl _)
   rw[decide_eq_false (by omega)]at qq
   exact qq
def dg (K:PySem.W.Frag) (m:Nat):Sp:=fun vs H Q _=>∃(pa ma ta:Addr) (v:V) (p:List Int) (rs:List Addr) (may:List (List Int)) (U:List Int) (ts:List (Addr×Addr×Str×Int×List Nat)) (g:GPap) (b:Bool),vs=[.ref pa,.ref ma,.ref ta,v]/\H pa=some (.lst (p.map V.int))/\May K H ma rs may U/\Ties K H ta ts 100/\bR p/\p.length<=may.length/\may.length<p.length+m/\GPapAt H v g/\GBnd g/\ShowsIs may (ts.map dy) p g b/\∀H',Same H H'->Q (.bl b) H'
def jN (K:PySem.W.Frag) (m:Nat):Sp:=fun vs H Q _=>∃(pa ma ta l:Addr) (vs':List V) (p:List Int) (rs:List Addr) (may:List (List Int)) (U:List Int) (ts:List (Addr×Addr×Str×Int×List Nat)) (ps:List GPap) (b:Bool),vs=[.ref pa,.ref ma,.ref ta,.ref l]/\H pa=some (.lst (p.map V.int))/\May K H ma rs may U/\Ties K H ta ts 100/\bR p/\p.length<=may.length/\may.length<=p.length+m/\H l=some (.lst vs')/\vs'.length=ps.length/\(∀(i:Nat) v q,vs'[i]?=some v->ps[i]?=some q->GPapAt H v q)/\(∀q∈ps,GBnd q)/\ShowsIs may (ts.map dy) p (.split ps) b/\∀H',Same H H'->Q (.bl b) H'
theorem kM:FnScope ["pattern","may","ties","papers"] ["pattern","may","ties","papers"] (ar eP):=⟨rfl,rfl,rfl,by decide +kernel,rfl,by decide +kernel,by decide +kernel⟩
theorem kN (D:Dfs K mg aF dF) (T:Txt mg) (n:Nat) (Gshows_for:FnOk P w K mg base aX (10+2*n) (aF 11) (dF 11) ["pattern","may","ties","paper"] (dg K n)):FnOk P w K mg base aX (10+2*n+1) (aF 15) (dF 15) ["pattern","may","ties","papers"] (jN K n):=by
 have Ggrown:FnOk P w K mg base aX 2 (aF 6) (dF 6) ["pattern"] (iM K):=kJ D T
 have Gis_split:FnOk P w K mg base aX 3 (aF 16) (dF 16) ["pattern","count","papers"] (gi K):=jA D T
 refine D.split_shows.fn.ok kM (fun vs H Q E h=>?_) (fun cdv A outer s H vs Q E hr h=>?_)
 ·obtain⟨pa,ma,ta,l,vs',p,rs,may,U,ts,ps,b,rfl,_⟩:=h;rfl
 obtain⟨pa,ma,ta,l,vs',p,rs,may,U,ts,ps,b,rfl,hpa,hm,tt,c,hl,hlm,hl',hvn,hat,gb,si,q⟩:=h
 have rk:Nat.add 10 (Nat.mul 2 n)=10+2*n:=rfl
 refine⟨_,(ag (az (aZ (bg (pc D.is_split Gis_split (hr.mono (by have:=rk;omega)) (aa (pv 0) (aa (ai (bx K) (by rfl) T.z_len boot_len (aa (pv 1) ab)) (aa (pv 3) ab))))))
    (ah (aj bB))
    au)
   (ah (aj (ai (mL K) (by rfl) T.z_all boot_all (aa (aL ["one","paper","may","ties"] [none,none,some 1,some 2] rfl (qi K rfl T.z_zip (aa (pc D.grown Ggrown (hr.mono (by have:=rk;omega)) (aa (pv 0) ab)) (aa (pv 3) ab))) (fun _=>vE K (n:=2) rfl (bc (aq (i:=0) (aB (N:=["one","paper","may","ties"]) (by decide +kernel)) rfl (Or.inl rfl)) (bc (aq (i:=1) (aB (N:=["one","paper","may","ties"]) (by decide +kernel)) rfl (Or.inl rfl)) c7))) (fun _=>aJ) (fun _=>(pc D.shows_for Gshows_for (hr.mono (by have:=rk;omega)) (aa (pv 0) (aa (pv 2) (aa (pv 3) (aa (pv 1) ab)))))) ((.cons (fun _ e=>by cases e) (.cons (fun _ e=>by cases e) (.cons (fun _ e=>by cases e;exact⟨rfl,rfl⟩) (.cons (fun _ e=>by cases e;exact⟨rfl,rfl⟩) .nil)))))) ab))))),?_⟩
 have m6:=hm.m6
 have dl:=bV p
 refine⟨_,rfl,_,rfl,_,_,rfl,.inl ⟨_,hm.ls,rfl⟩,_,rfl,pa,l,p,vs',_,rfl,hpa,hl',by rw[AC,hm.po.len];omega,fun H0 s0=>⟨_,rfl,jn (fun h1=>?_) fun h1=>?_⟩⟩
 ·rw [AC,hm.po.len]at h1
  cases si with
  | noSplit h=>exact q H0 s0
  | split hl2 hn=>exact absurd ⟨by omega,by omega⟩ (of_decide_eq_false h1)
 rw[AC,hm.po.len]at h1
 obtain⟨lt,e⟩:=of_decide_eq_true h1
 cases si with
 | noSplit h=>exact absurd ⟨by omega,by omega⟩ h
 | @split _ _ bs hl2 hn hb hs=>
  refine⟨_,rfl,pa,p,rfl,s0 _ _ hpa,by omega,fun gl gs H1 s1 ngl hgl hgs gall=>?_⟩
  have s1:=s0.trans s1
  refine⟨_,rfl,gl,l,_,_,rfl,SqL.of hgl,SqL.of (s1 _ _ hl'),?_⟩
  refine i9 (xs:=gs.map V.ref) (ys:=vs') (fun j=> .bl (bs.getD j false)) (by rw[AC];omega) (SqL.of hgl) (SqL.of (s1 _ _ hl')) (by rw[AC];omega) (fun j x y H2 R hx hy s2 k=>?_) fun acc H2 s2 nacc hacc=>?_
  ·rw [AG]at hx
   obtain⟨r,hr',rfl⟩:=AL.mp hx
   have hj:=(AF.mp hr').1
   have hjp:j<ps.length:=by omega
   have hjb:j<bs.length:=by omega
   have eb:bs.getD j false=bs[j]:=by rw[AE,AD hjb];rfl
   rw[eb]at k
   have s02:=s1.trans s2
   exact⟨_,rfl,_,rfl,_,rfl,_,rfl,r,ma,ta,y,p++[(j:Int)],rs,may,U,ts,ps[j],bs[j],rfl,s2 _ _ (gall j r hr').1,hm.same s02,⟨s02.seq tt.ls,fun x hx=>(tt.ea x hx).same s02,tt.ln⟩,dP c (by omega),by simp;omega,by simp;omega,(hat j y ps[j] hy (AD hjp)).same s02,gb _ (A1 hjp),hs j ps[j] bs[j] (AD hjp) (AD hjb),fun H3 s3=>k H3 s3⟩
  ·rw [AC]at hacc
   have e3:(AH gs.length).map (fun j=>V.bl (bs.getD j false))=bs.map V.bl:=by
    have el:gs.length=bs.length:=by omega
    rw[el]
    exact ql fun i x hx=>by rw[AE,hx];rfl
   rw[e3]at hacc
   exact⟨acc,bs,rfl,SqL.of hacc,q H2 (s1.trans s2)⟩
def iO (K:PySem.W.Frag):Sp:=dg K 7
theorem nC:FnScope ["pattern","may","ties","paper"] ["pattern","may","ties","paper"] (ar fR):=⟨rfl,rfl,rfl,by decide +kernel,rfl,by decide +kernel,by decide +kernel⟩
theorem nD (D:Dfs K mg aF dF) (T:Txt mg):FnOk P w K mg base aX 24 (aF 11) (dF 11) ["pattern","may","ties","paper"] (iO K):=by
 have Gtie_shows:FnOk P w K mg base aX 3 (aF 12) (dF 12) ["pattern","ties","place"] (iN K):=nB D T
 have Gshort_shows:FnOk P w K mg base aX 4 (aF 13) (dF 13) ["pattern","may","blocks"] (gh K):=kL D T
 have all:∀n,FnOk P w K mg base aX (10+2*n) (aF 11) (dF 11) ["pattern","may","ties","paper"] (dg K n):=by
  intro n
  induction n with
  | zero=>
   have no:∀vs H Q E,¬dg K 0 vs H Q E:=fun vs H Q E h=>by
    obtain⟨pa,ma,ta,v,p,rs,may,U,ts,g,b,_,_,_,_,_,h1,h2,_⟩:=h
    omega
   exact⟨fun vs H Q E h=>absurd h (no vs H Q E),fun A outer s H args us vs Q E _ _ _ _ h=>absurd h (no vs H Q E)⟩
  | succ n Gshows_for=>
   have Gsplit_shows:=kN D T n Gshows_for
   refine D.shows_for.fn.ok nC (fun vs H Q E h=>?_) (fun cdv A outer s H vs Q E hr h=>?_)
   ·obtain⟨pa,ma,ta,v,p,rs,may,U,ts,g,b,rfl,_⟩:=h;rfl
   obtain⟨pa,ma,ta,v,p,rs,may,U,ts,g,b,rfl,hpa,hm,tt,c,hl,hlm,pat,gb,si,q⟩:=h
   have rk:Nat.add 10 (Nat.mul 2 n+1)=10+(2*n+1):=rfl
   refine⟨_,(ag (az (PW.pt (cV (aZ (bg (ai (fJ K) (by rfl) T.z_isinstance boot_isinstance (aa (pv 3) (aa (fO T.z_tuple) ab))))) (cB (av gE (ai (bx K) (by rfl) T.z_len boot_len (aa (pv 3) ab)) ae (aw _)))))
    (ah (aj bB))
    au)
   (ag (az (av bj (ao (cz K) (pv 3) ae (fun _ _=>rfl)) aP (aw _))
    (ah (aj (pc D.tie_shows Gtie_shows (hr.mono (by have:=rk;omega)) (aa (pv 0) (aa (pv 2) (aa (ao (cz K) (pv 3) ae (fun _ _=>rfl)) ab))))))
    au)
   (ag (az (av bj (ao (cz K) (pv 3) ae (fun _ _=>rfl)) aP (aw _))
    (ah (aj (pc D.short_shows Gshort_shows (hr.mono (by have:=rk;omega)) (aa (pv 0) (aa (pv 1) (aa (ao (cz K) (pv 3) ae (fun _ _=>rfl)) ab))))))
    au)
   (ag (az (av bj (ao (cz K) (pv 3) ae (fun _ _=>rfl)) aP (aw _))
    (ah (aj (pc D.split_shows Gsplit_shows (hr.mono (by have:=rk;omega)) (aa (pv 0) (aa (pv 1) (aa (pv 2) (aa (ao (cz K) (pv 3) ae (fun _ _=>rfl)) ab)))))))
    au)
   (ah (aj bB)))))),?_⟩
   have m6:=hm.m6
   cases pat with
   | @tie tp j ht=>
    refine⟨_,rfl,_,_,_,true,rfl,.tup ht,rfl,_,rfl,aE ?_⟩
    refine⟨_,rfl,_,_,rfl,.inr ⟨_,SqT.of ht,rfl⟩,rfl,_,rfl,rZ (fun h=>absurd rfl h) fun _=>?_⟩
    refine⟨_,rfl,tp,_,_,_,rfl,rfl,SqT.of ht,rfl,rfl,_,rfl,?_⟩
    rw[decide_eq_true rfl]
    exact bP ⟨_,rfl,_,rfl,_,rfl,tp,_,_,_,rfl,rfl,SqT.of ht,rfl,pa,ta,j,p,may,ts,b,rfl,SqL.of hpa,tt,si,q⟩
   | @short tp l bs ht hl'=>
    refine⟨_,rfl,_,_,_,true,rfl,.tup ht,rfl,_,rfl,aE ?_⟩
    refine⟨_,rfl,_,_,rfl,.inr ⟨_,SqT.of ht,rfl⟩,rfl,_,rfl,rZ (fun h=>absurd rfl h) fun _=>?_⟩
    refine⟨_,rfl,tp,_,_,_,rfl,rfl,SqT.of ht,rfl,rfl,_,rfl,?_⟩
    rw[decide_eq_false (by decide)]
    refine aE ?_
    refine⟨_,rfl,tp,_,_,_,rfl,rfl,SqT.of ht,rfl,rfl,_,rfl,?_⟩
    rw[decide_eq_true rfl]
    cases si
    cases gb with
    | short gb=>
    exact bP ⟨_,rfl,_,rfl,_,rfl,tp,_,_,_,rfl,rfl,SqT.of ht,rfl,pa,ma,l,p,rs,may,U,bs,rfl,SqL.of hpa,hm,c,hl,hl',gb,q⟩
   | @split tp l vs' ps ht hl' hvn hat=>
    refine⟨_,rfl,_,_,_,true,rfl,.tup ht,rfl,_,rfl,aE ?_⟩
    refine⟨_,rfl,_,_,rfl,.inr ⟨_,SqT.of ht,rfl⟩,rfl,_,rfl,rZ (fun h=>absurd rfl h) fun _=>?_⟩
    refine⟨_,rfl,tp,_,_,_,rfl,rfl,SqT.of ht,rfl,rfl,_,rfl,?_⟩
    rw[decide_eq_false (by decide)]
    refine aE ?_
    refine⟨_,rfl,tp,_,_,_,rfl,rfl,SqT.of ht,rfl,rfl,_,rfl,?_⟩
    rw[decide_eq_false (by decide)]
    refine aE ?_
    refine⟨_,rfl,tp,_,_,_,rfl,rfl,SqT.of ht,rfl,rfl,_,rfl,?_⟩
    rw[decide_eq_true rfl]
    cases gb with
    | split gb=>
    exact bP ⟨_,rfl,_,rfl,_,rfl,_,rfl,tp,_,_,_,rfl,rfl,SqT.of ht,rfl,pa,ma,ta,l,vs',p,rs,may,U,ts,ps,b,rfl,hpa,hm,tt,c,hl,by omega,hl',hvn,hat,gb,si,q⟩
 exact all 7
def mw (K:PySem.W.Frag):Sp:=fun vs H Q _=>∃(b:Addr) (rs:List Addr) (rows:List (List (Int×Int))),vs=[.ref b]/\H b=some (.lst (rs.map V.ref))/\BillL H rs rows/\rows.length<=6/\(∀row∈rows,row.length<=20)/\
 ∀l (ls:List Addr) H',Same H H'->H l=none->H' l=some (.lst (ls.map V.ref))->RowsL H' ls (rows.map fun row=>row.map (·.1))->(∀r∈ls,H r=none)->Q (.ref l) H'
theorem tO:FnScope ["bill"] ["bill"] (ar kH):=⟨rfl,rfl,rfl,by decide +kernel,rfl,by decide +kernel,by decide +kernel⟩
theorem tP (D:Dfs K mg aF dF) (T:Txt mg):FnOk P w K mg base aX 1 (aF 17) (dF 17) ["bill"] (mw K):=by
 refine D.may_of.fn.ok tO (fun vs H Q E h=>?_) (fun cdv A outer s H vs Q E hr h=>?_)
 ·obtain⟨b,rs,rows,rfl,_⟩:=h;rfl
 ·have hu:=be hr
  obtain⟨b,rs,rows,rfl,hb,bl,r6,r20,q⟩:=h
  refine⟨_,(ah (aj (aL ["pairs"] [none] rfl (gG K (pv 0)) (fun _=>aq (i:=0) (aB (N:=["pairs"]) (by decide +kernel)) rfl (Or.inl rfl)) (fun _=>aJ) (fun _=>(aL ["badge","minutes"] [none,none] rfl (gG K (pv 0)) (fun _=>vE K (n:=2) rfl (bc (aq (i:=0) (aB (N:=["badge","minutes"]) (by decide +kernel)) rfl (Or.inl rfl)) (bc (aq (i:=1) (aB (N:=["badge","minutes"]) (by decide +kernel)) rfl (Or.inl rfl)) c7))) (fun _=>aJ) (fun _=>(pv 0)) ((.cons (fun _ e=>by cases e) (.cons (fun _ e=>by cases e) .nil))))) ((.cons (fun _ e=>by cases e) .nil))))),?_⟩
  refine⟨_,rfl,b,rfl,⟨_,SqL.of hb⟩,?_⟩
  have ln:=bl.len
  refine pQ (xs:=rs.map V.ref) (fun i=>(rows.getD i []).map fun x=>V.int x.1) (SqL.of hb) (by rw[AC];omega) (fun i x hx H2 R s2 k=>?_) fun acc ls H2 s2 nacc hacc hls hall hne=>?_
  ·rw [AG]at hx
   obtain⟨r,hr,rfl⟩:=AL.mp hx
   obtain⟨row,hrow,ra⟩:=(bl.same s2).get hr
   have eg:rows.getD i []=row:=by rw[AE,hrow];rfl
   rw[eg]at k
   have r2:=r20 row (AJ hrow)
   refine⟨_,rfl,r,rfl,⟨_,SqL.of ra.choose_spec.1⟩,?_⟩
   exact eH (fun x=>V.int x.1) ra (by omega) (fun j x hx H3 R s3 k3=>⟨_,rfl,k3 H3 (Same.refl _)⟩) fun acc2 H3 s3 n3 h3=>k acc2 H3 s3 n3 h3
  ·rw [AC]at hls
   refine q acc ls H2 s2 nacc hacc (RowsL.of (by rw[AC];omega) fun i r p e1 e2=>?_) fun r hr=>?_
   ·rw [AG]at e2
    obtain⟨row,hrow,rfl⟩:=AL.mp e2
    have:=(hall i r e1).1
    rw[AE,hrow]at this
    rw[this,A3];rfl
   ·obtain⟨i,hi,ei⟩:=AU.mp hr
    exact(hall i r (by rw[AD hi,ei])).2
def o5 (K:PySem.W.Frag):Sp:=fun vs H Q _=>∃(pa d:Addr) (row r2:List (Int×Int)),vs=[.ref pa,.ref d]/\RowAt H pa row/\H d=some (.dK (jM r2))/\row.length<=1000/\
 ∀l H',Same H H'->H l=none->RowAt H' l (ja row r2)->Q (.ref l) H'
theorem vw:FnScope ["pairs","minutes"] ["pairs","minutes"] (ar nj):=⟨rfl,rfl,rfl,by decide +kernel,rfl,by decide +kernel,by decide +kernel⟩
theorem vx (D:Dfs K mg aF dF) (T:Txt mg):FnOk P w K mg base aX 1 (aF 20) (dF 20) ["pairs","minutes"] (o5 K):=by
 refine D.added.fn.ok vw (fun vs H Q E h=>?_) (fun cdv A outer s H vs Q E hr h=>?_)
 ·obtain⟨pa,d,row,r2,rfl,_⟩:=h;rfl
 ·have hu:=be hr
  obtain⟨pa,d,row,r2,rfl,hr,hd,hl,q⟩:=h
  refine⟨_,(ah (aj (aL ["badge","cost","minutes"] [none,none,some 1] rfl (gG K (pv 0)) (fun _=>vE K (n:=2) rfl (bc (aq (i:=0) (aB (N:=["badge","cost","minutes"]) (by decide +kernel)) rfl (Or.inl rfl)) (bc (aq (i:=1) (aB (N:=["badge","cost","minutes"]) (by decide +kernel)) rfl (Or.inl rfl)) c7))) (fun _=>fz (xo (xD hu (pv 0) (pv 2)))) (fun _=>(aM (aa (pv 0) (aa (ak aG (pv 1) (qN hu (pv 2) (pv 0) (fun _ _=>rfl))) ab)))) ((.cons (fun _ e=>by cases e) (.cons (fun _ e=>by cases e) (.cons (fun _ e=>by cases e;exact⟨rfl,rfl⟩) .nil))))))),?_⟩
  obtain⟨ps,h1,h2⟩:=hr
  refine⟨_,rfl,pa,rfl,⟨_,SqL.of h1⟩,?_⟩
  refine km (ps:=ps) (row:=row) (fun i=>(cD r2 (row.getD i (0,0)).1).isSome) (fun acc i v H=>∃t,v= .ref t/\t≠acc/\b4 H t ((row.getD i (0,0)).1,(row.getD i (0,0)).2+(cD r2 (row.getD i (0,0)).1).getD 0)) (SqL.of h1) h2 (by omega) (fun acc i v H H' ⟨t,e,n,h⟩ s=>⟨t,e,n,s _ _ n h⟩) (fun i x hx H2 R s2 k=>?_) (fun acc i x hx hp H2 R s2 n1 n2 k=>?_) fun acc vs H2 s2 nacc hacc hpr=>?_
  ·have eg:row.getD i (0,0)=x:=by rw[AE,hx];rfl
   rw[eg]at k
   have g:=DGet.k (k:=Sum.inl x.1) (s2 _ _ hd)
   rw[fc]at g
   have ei:((cD r2 x.1).map V.int).isSome=(cD r2 x.1).isSome:=Option.isSome_map
   have kk:=k H2 (Same.refl _)
   rw[<- ei]at kk
   exact⟨_,rfl,_,rfl,d,_,rfl,g,_,rfl,kk⟩
  ·have eg:row.getD i (0,0)=x:=by rw[AE,hx];rfl
   rw[eg]at k hp
   have g:=DGet.k (k:=Sum.inl x.1) (s2 _ _ hd)
   rw[fc]at g
   obtain⟨c,hc⟩:=BJ.mp hp
   rw[hc]at g k
   refine⟨_,rfl,_,rfl,_,rfl,_,rfl,d,.int c,rfl,g,_,_,rfl,rfl,bM,fun t nt=>k _ _ (Same.new nt) ⟨t,rfl,fun z=>n2 (by rw[<- z];exact nt),af⟩⟩
  ·have hpr2:Paired (fun(i:Nat) (v:V)=>∃t,v=V.ref t/\b4 H2 t ((row.getD i (0,0)).1,(row.getD i (0,0)).2+(cD r2 (row.getD i (0,0)).1).getD 0)) _ _:=Paired.mapP hpr fun i v ⟨t,e,_,h⟩=>⟨t,e,h⟩
   obtain⟨qs,e1,e2⟩:=rg hpr2
   rw[xg (g:=fun x=>(cD r2 x.1).isSome) (F:=fun x=>(x.1,x.2+(cD r2 x.1).getD 0)) (d:=(0,0))]at e2
   exact q acc H2 s2 nacc ⟨qs,by rw[hacc,e1],e2⟩
def kO (K:PySem.W.Frag):Sp:=fun vs H Q _=>∃(b:Nat) (pa ba:Addr) (p:List Int) (rs:List Addr) (rows:List (List (Int×Int))),vs=[.int ((b:Nat):Int),.ref pa,.ref ba]/\SqL K H pa (p.map V.int)/\H ba=some (.lst (rs.map V.ref))/\BillL H rs rows/\bR p/\b<(dd p).length/\p.length<=rows.length/\rows.length<=6/\(∀row∈rows,row.length<=20/\(aD row).Nodup)/\
 ∀l H',Same H H'->H l=none->RowAt H' l (fe rows (aU p b))->Q (.ref l) H'
theorem dW:FnScope ["block","pattern","bill","steps","step","pairs"] ["block","pattern","bill"] (ar jh):=⟨rfl,rfl,rfl,by decide +kernel,rfl,by decide +kernel,by decide +kernel⟩
theorem qB (D:Dfs K mg aF dF) (T:Txt mg):FnOk P w K mg base aX 2 (aF 19) (dF 19) ["block","pattern","bill"] (kO K):=by
 have Gadded:FnOk P w K mg base aX 1 (aF 20) (dF 20) ["pairs","minutes"] (o5 K):=vx D T
 refine D.sums_of.fn.ok dW (fun vs H Q E h=>?_) (fun cdv A outer s H vs Q E hr h=>?_)
 ·obtain⟨b,pa,ba,p,rs,rows,rfl,_⟩:=h;rfl
 ·have hu:=be hr
  obtain⟨b,pa,ba,p,rs,rows,rfl,hp,hba,bl,c,hb,hl,r6,ok,q⟩:=h
  refine⟨_,(ag (b9 (i₀:=3) dW.nd rfl (Or.inl rfl) ["step","pattern","block"] [none,some 1,some 0] rfl (aY rfl T.z_range (aa (ai (bx K) (by rfl) T.z_len boot_len (aa (pv 1) ab)) ab)) (fun _=>aq (i:=0) (aB (N:=["step","pattern","block"]) (by decide +kernel)) rfl (Or.inl rfl)) (fun _=>fz (av bj (ao (cU K) (pv 1) (pv 0) (fun _ _=>rfl)) (pv 2) (aw _))) (fun _=>(pv 0)) ((.cons (fun _ e=>by cases e) (.cons (fun _ e=>by cases e;exact⟨rfl,rfl⟩) (.cons (fun _ e=>by cases e;exact⟨rfl,rfl⟩) .nil)))))
   (ag (ax (i:=5) dW.nd rfl (Or.inl rfl) (aI (j8 K) (by rfl) T.z_list boot_list (aa (ao (cU K) (pv 2) (ao (cU K) (pv 3) ae (fun _ _=>rfl)) (fun _ _=>rfl)) ab)))
   (ag (bH PassesOwn.never rfl (gG K (cK (wa K) (pv 3) (c8 ae) eB)) (aq (i:=4) dW.nd rfl (Or.inl rfl))
    (ah (ax (i:=5) dW.nd rfl (Or.inl rfl) (pc D.added Gadded (hr.mono (by decide)) (aa (pv 5) (aa (aI (rb K) (by rfl) T.z_dict PyProof.Rows.boot_dict (aa (ao (cU K) (pv 2) (pv 4) (fun _ _=>rfl)) ab)) ab))))))
   (ah (aj (pv 5)))))),?_⟩
  refine⟨_,rfl,_,_,rfl,.inl ⟨_,hp,rfl⟩,_,rfl,gD _,by rw[AC];omega,?_⟩
  have e0:(((p.map V.int).length:Nat):Int).toNat=p.length:=by rw[AC];omega
  rw[e0]
  refine i6 (n:=p.length) (fun i=>decide (p.getD i 0=(b:Int))) (by omega) (fun i hi H3 R s3 k=>?_) (fun i hi H3 R k=>?_) fun sl H3 s3 nsl hsl=>?_
  ·have ei:(0:Int)+(i:Int)=((i:Nat):Int):=by omega
   rw[ei]
   have kk:=k H3 (Same.refl _)
   rw[oI]at kk
   exact⟨_,rfl,_,rfl,pa,_,_,_,rfl,rfl,s3.seq hp,bC hi,_,rfl,rfl,_,rfl,kk⟩
  ·have ei:(0:Int)+(i:Int)=((i:Nat):Int):=by omega
   rw[ei]
   exact⟨_,rfl,k⟩
  have sne:aU p b≠[]:=cM c hb
  have slt:∀i∈aU p b,i<rows.length:=fun i hi=>by have:=(dQ.mp hi).1;omega
  have hsl:H3 sl=some (.lst ((aU p b).map fun(i:Nat)=>V.int (i:Int))):=hsl
  have q2:∀l H',Same H3 H'->H3 l=none->RowAt H' l (fe rows (aU p b))->Q (.ref l) H':=fun l H' s n e=>q l H' (s3.trans s) (s3.free n) e
  have hba3:=s3 _ _ hba
  have bl3:=bl.same s3
  clear q
  generalize aU p b=st at hsl sne slt q2
  obtain⟨s0,sr,rfl⟩:=List.exists_cons_of_ne_nil sne
  have at_row:∀i,i<rows.length->rows[i]?=some (rows.getD i []):=fun i hi=>by rw[AE,AD hi];rfl
  obtain⟨r0,hr0,ps0,hps0,tps0⟩:=bl3.at (at_row s0 (slt s0 (by simp)))
  refine⟨_,rfl,_,rfl,sl,_,_,_,rfl,rfl,SqL.of hsl,bw (j:=0) (v:=V.int (s0:Int)) rfl,ba,_,_,_,rfl,rfl,SqL.of hba3,bw (by rw[AG,hr0];rfl),r0,_,rfl,.inl (SqL.of hps0),fun l nl=>?_⟩
  have cf:b8 (((s0 :: sr).map fun(i:Nat)=>V.int (i:Int))) (some (1:Int)) none=sr.map fun(i:Nat)=>V.int (i:Int):=ir _ 1
  refine⟨_,rfl,_,rfl,sl,_,rfl,SqL.of (Same.new nl _ _ hsl),fun cc ncc=>?_⟩
  have s34:=(Same.new (o:= .lst (ps0.map V.ref)) nl).to (o:= .lst (sr.map fun(i:Nat)=>V.int (i:Int))) ncc
  have ncl:l≠cc:=fun z=>by rw[<- z,af]at ncc;cases ncc
  have hl4:ay (ay H3 l (.lst (ps0.map V.ref))) cc (.lst (sr.map fun(i:Nat)=>V.int (i:Int))) l=some (.lst (ps0.map V.ref)):=by rw[aC ncl];exact af
  have hcc4:ay (ay H3 l (.lst (ps0.map V.ref))) cc (.lst (sr.map fun(i:Nat)=>V.int (i:Int))) cc=some (.lst (sr.map fun(i:Nat)=>V.int (i:Int))):=af
  rw[cf]
  generalize ay (ay H3 l (.lst (ps0.map V.ref))) cc (.lst (sr.map fun(i:Nat)=>V.int (i:Int)))=H4 at s34 hl4 hcc4
  refine⟨cc,rfl,⟨_,SqL.of hcc4⟩,?_⟩
  refine cq (K:=K) (a:=cc) (xs:=sr.map fun(i:Nat)=>V.int (i:Int)) (fun i σ H5=>∃(po:Addr) (x:Option V),σ=[some (.int ((b:Nat):Int)),some (.ref pa),some (.ref ba),some (.ref sl),x,some (.ref po)]/\Same H4 H5/\H3 po=none/\RowAt H5 po (fe rows (s0 :: sr.take i)))
   ⟨l,none,rfl,Same.refl _,nl,⟨ps0,hl4,by rw[Cb];exact tps0.same s34⟩⟩ (fun i σ H5 _ hq__=>by obtain⟨_,_,_,s,_⟩:=hq__;exact s.seq (SqL.of hcc4)) ?_ ?_
  ·rintro i y σ H5 hi ⟨po,x,rfl,s5,npo,hpo⟩
   obtain⟨d,hd,rfl,_⟩:=gX hi
   have hdl:=slt d (AY _ (AJ hd))
   have s35:=s34.trans s5
   have hrw:=at_row d hdl
   obtain⟨r1,hr1,ps1,hps1,tps1⟩:=(bl3.same s35).at hrw
   have okd:=ok _ (AJ hrw)
   refine⟨_,rfl,_,rfl,_,rfl,ba,_,_,_,rfl,rfl,SqL.of (s35 _ _ hba3),bw (by rw[AG,hr1];rfl),r1,ps1,jM (rows.getD d []),rfl,SqL.of hps1,by unfold jM;rw[AC,tps1.len],m7 okd.2,tps1.kv,fun dd nd=>?_⟩
   have s6:=Same.new (o:= .dK (jM (rows.getD d []))) nd
   refine⟨po,dd,_,rows.getD d [],rfl,hpo.same s6,af,A9 (oR (fun row h=>(ok row h).1) _) (by decide),fun l2 H6 t1 t2 t3=>?_⟩
   refine⟨l2,_,rfl,s5.trans (s6.trans t1),s35.free (s6.free t2),?_⟩
   have et:sr.take (i+1)=sr.take i++[d]:=by rw[BO,hd];rfl
   rw[et,<- List.cons_append,jb (by simp)]
   exact t3
  ·rintro σ H5 ⟨po,x,rfl,s5,npo,hpo⟩
   rw[AC,Bg]at hpo
   exact⟨_,rfl,q2 po H5 (s34.trans s5) npo hpo⟩
def rB (K:PySem.W.Frag):Sp:=fun vs H Q _=>∃(pa ba:Addr) (p:List Int) (rs:List Addr) (rows:List (List (Int×Int))),vs=[.ref pa,.ref ba]/\SqL K H pa (p.map V.int)/\H ba=some (.lst (rs.map V.ref))/\BillL H rs rows/\bR p/\p.length<=rows.length/\rows.length<=6/\(∀row∈rows,row.length<=20/\(aD row).Nodup)/\
 ∀l ls H',Same H H'->H l=none->H' l=some (.lst (ls.map V.ref))->BillL H' ls (oP rows p)->(∀r∈ls,H r=none/\r≠l)->Q (.ref l) H'
theorem wM:FnScope ["pattern","bill"] ["pattern","bill"] (ar qz):=⟨rfl,rfl,rfl,by decide +kernel,rfl,by decide +kernel,by decide +kernel⟩
theorem wN (D:Dfs K mg aF dF) (T:Txt mg):FnOk P w K mg base aX 3 (aF 18) (dF 18) ["pattern","bill"] (rB K):=by
 have Gwidth:FnOk P w K mg base aX 1 (aF 5) (dF 5) ["pattern"] (fh K):=gc D T
 have Gsums_of:FnOk P w K mg base aX 2 (aF 19) (dF 19) ["block","pattern","bill"] (kO K):=qB D T
 refine D.sums.fn.ok wM (fun vs H Q E h=>?_) (fun cdv A outer s H vs Q E hr h=>?_)
 ·obtain⟨pa,ba,p,rs,rows,rfl,_⟩:=h;rfl
 ·have hu:=be hr
  obtain⟨pa,ba,p,rs,rows,rfl,hp,hba,bl,c,hl,r6,ok,q⟩:=h
  refine⟨_,(ah (aj (aL ["block","pattern","bill"] [none,some 0,some 1] rfl (aY rfl T.z_range (aa (pc D.width Gwidth (hr.mono (by decide)) (aa (pv 0) ab)) ab)) (fun _=>aq (i:=0) (aB (N:=["block","pattern","bill"]) (by decide +kernel)) rfl (Or.inl rfl)) (fun _=>aJ) (fun _=>(pc D.sums_of Gsums_of (hr.mono (by decide)) (aa (pv 0) (aa (pv 1) (aa (pv 2) ab))))) ((.cons (fun _ e=>by cases e) (.cons (fun _ e=>by cases e;exact⟨rfl,rfl⟩) (.cons (fun _ e=>by cases e;exact⟨rfl,rfl⟩) .nil))))))),?_⟩
  have dl:=bV p
  refine⟨_,rfl,pa,p,rfl,hp,by omega,fun H1 s1=>⟨_,rfl,gD _,by omega,?_⟩⟩
  rw[Ba]
  refine qr (n:=(dd p).length) (fun b=>fe rows (aU p b)) (by omega) (fun i hi H2 R s2 k=>?_) fun acc ls H2 s2 nacc hacc bls nls=>?_
  ·have ei:(0:Int)+(i:Int)=((i:Nat):Int):=by omega
   rw[ei]
   have s12:=s1.trans s2
   exact⟨_,rfl,_,rfl,_,rfl,i,pa,ba,p,rs,rows,rfl,s12.seq hp,s12 _ _ hba,bl.same s12,c,hi,hl,r6,ok,fun l H3 s3 nl hl=>k l H3 s3 nl hl⟩
  ·exact q acc ls H2 (s1.trans s2) (s1.free nacc) hacc bls fun r hr=>⟨s1.free (nls r hr).1,(nls r hr).2⟩
def dh (K:PySem.W.Frag) (m:Nat):Sp:=fun vs H Q _=>∃(pa b ta:Addr) (bd:Int) (v:V) (p:List Int) (rs:List Addr) (rows:cw) (U:List Int) (ts:List (Addr×Addr×Str×Int×List Nat)) (g:BPap),vs=[.ref pa,.ref b,.ref ta,.int bd,v]/\H pa=some (.lst (p.map V.int))/\H b=some (.lst (rs.map V.ref))/\BillL H rs rows/\QB rows U/\Ties K H ta ts 100/\bR p/\p.length<=rows.length/\rows.length<p.length+m/\BPapAt H v g/\BBnd g/\∀H',Same H H'->Q (.bl (cP rows (ts.map dy) bd m p g)) H'
def jO (K:PySem.W.Frag) (m:Nat):Sp:=fun vs H Q _=>∃(pa b ta l:Addr) (bd:Int) (vs':List V) (p:List Int) (rs:List Addr) (rows:cw) (U:List Int) (ts:List (Addr×Addr×Str×Int×List Nat)) (ps:List BPap),vs=[.ref pa,.ref b,.ref ta,.int bd,.ref l]/\H pa=some (.lst (p.map V.int))/\H b=some (.lst (rs.map V.ref))/\BillL H rs rows/\QB rows U/\Ties K H ta ts 100/\bR p/\p.length<=rows.length/\rows.length<=p.length+m/\H l=some (.lst vs')/\vs'.length=ps.length/\(∀(i:Nat) v q,vs'[i]?=some v->ps[i]?=some q->BPapAt H v q)/\(∀q∈ps,BBnd q)/\∀H',Same H H'->Q (.bl (cP rows (ts.map dy) bd (m+1) p (.split ps))) H'
theorem kP:FnScope ["pattern","bill","ties","bound","papers"] ["pattern","bill","ties","bound","papers"] (ar eQ):=⟨rfl,rfl,rfl,by decide +kernel,rfl,by decide +kernel,by decide +kernel⟩
theorem kQ (D:Dfs K mg aF dF) (T:Txt mg) (n:Nat) (Gbears_for:FnOk P w K mg base aX (30+2*n) (aF 22) (dF 22) ["pattern","bill","ties","bound","paper"] (dh K n)):FnOk P w K mg base aX (30+2*n+1) (aF 23) (dF 23) ["pattern","bill","ties","bound","papers"] (jO K n):=by
 have Ggrown:FnOk P w K mg base aX 2 (aF 6) (dF 6) ["pattern"] (iM K):=kJ D T
 have Gis_split:FnOk P w K mg base aX 3 (aF 16) (dF 16) ["pattern","count","papers"] (gi K):=jA D T
 refine D.split_bears.fn.ok kP (fun vs H Q E h=>?_) (fun cdv A outer s H vs Q E hr h=>?_)
 ·obtain⟨pa,b,ta,l,bd,vs',p,rs,rows,U,ts,ps,rfl,_⟩:=h;rfl
 obtain⟨pa,b,ta,l,bd,vs',p,rs,rows,U,ts,ps,rfl,hpa,hb,bl,qb,tt,c,hl,hlm,hl',hvn,hat,gb,q⟩:=h
 have rk:Nat.add 30 (Nat.mul 2 n)=30+2*n:=rfl
 refine⟨_,(ag (az (aZ (bg (pc D.is_split Gis_split (hr.mono (by have:=rk;omega)) (aa (pv 0) (aa (ai (bx K) (by rfl) T.z_len boot_len (aa (pv 1) ab)) (aa (pv 4) ab))))))
    (ah (aj bB))
    au)
   (ah (aj (ai (mL K) (by rfl) T.z_all boot_all (aa (aL ["one","paper","bill","ties","bound"] [none,none,some 1,some 2,some 3] rfl (qi K rfl T.z_zip (aa (pc D.grown Ggrown (hr.mono (by have:=rk;omega)) (aa (pv 0) ab)) (aa (pv 4) ab))) (fun _=>vE K (n:=2) rfl (bc (aq (i:=0) (aB (N:=["one","paper","bill","ties","bound"]) (by decide +kernel)) rfl (Or.inl rfl)) (bc (aq (i:=1) (aB (N:=["one","paper","bill","ties","bound"]) (by decide +kernel)) rfl (Or.inl rfl)) c7))) (fun _=>aJ) (fun _=>(pc D.bears_for Gbears_for (hr.mono (by have:=rk;omega)) (aa (pv 0) (aa (pv 2) (aa (pv 3) (aa (pv 4) (aa (pv 1) ab))))))) ((.cons (fun _ e=>by cases e) (.cons (fun _ e=>by cases e) (.cons (fun _ e=>by cases e;exact⟨rfl,rfl⟩) (.cons (fun _ e=>by cases e;exact⟨rfl,rfl⟩) (.cons (fun _ e=>by cases e;exact⟨rfl,rfl⟩) .nil))))))) ab))))),?_⟩
 have r6:=qb.r6
 have rl:rs.length=rows.length:=bl.len
 have dl:=bV p
 simp only[kC]at q
 refine⟨_,rfl,_,rfl,_,rows.length,rfl,.inl ⟨_,SqL.of hb,by rw[AC,rl]⟩,_,rfl,pa,l,p,vs',rows.length,rfl,hpa,hl',r6,fun H0 s0=>⟨_,rfl,jn (fun h1=>?_) fun h1=>?_⟩⟩
 ·rw [hvn]at h1
  have z:=q H0 s0
  rw[h1,Bd]at z
  exact z
 rw[hvn]at h1
 have q2:∀H',Same H H'->Q (.bl ((AH ps.length).all fun(j:Nat)=>cP rows (ts.map dy) bd n (p++[(j:Int)]) (ps.getD j default))) H':=fun H' s=>by
  have z:=q H' s
  rw[h1,Bool.true_and]at z
  exact z
 obtain⟨lt,e⟩:=of_decide_eq_true h1
 refine⟨_,rfl,pa,p,rfl,s0 _ _ hpa,by omega,fun gl gs H1 s1 ngl hgl hgs gall=>?_⟩
 have s1:=s0.trans s1
 refine⟨_,rfl,gl,l,_,_,rfl,SqL.of hgl,SqL.of (s1 _ _ hl'),?_⟩
 refine i9 (xs:=gs.map V.ref) (ys:=vs') (fun(j:Nat)=> .bl (cP rows (ts.map dy) bd n (p++[(j:Int)]) (ps.getD j default))) (by rw[AC];omega) (SqL.of hgl) (SqL.of (s1 _ _ hl')) (by rw[AC];omega) (fun j x y H2 R hx hy s2 k=>?_) fun acc H2 s2 nacc hacc=>?_
 ·rw [AG]at hx
  obtain⟨r,hr',rfl⟩:=AL.mp hx
  have hj:=(AF.mp hr').1
  have hjp:j<ps.length:=by omega
  have ep:ps.getD j default=ps[j]:=by rw[AE,AD hjp];rfl
  rw[ep]at k
  have s02:=s1.trans s2
  exact⟨_,rfl,_,rfl,_,rfl,_,rfl,_,rfl,r,b,ta,bd,y,p++[(j:Int)],rs,rows,U,ts,ps[j],rfl,s2 _ _ (gall j r hr').1,s02 _ _ hb,bl.same s02,qb,⟨s02.seq tt.ls,fun x hx=>(tt.ea x hx).same s02,tt.ln⟩,dP c (by omega),by simp;omega,by simp;omega,(hat j y ps[j] hy (AD hjp)).same s02,gb _ (A1 hjp),fun H3 s3=>k H3 s3⟩
 ·rw [AC,show gs.length=ps.length by omega]at hacc
  refine⟨acc,(AH ps.length).map fun(j:Nat)=>cP rows (ts.map dy) bd n (p++[(j:Int)]) (ps.getD j default),rfl,SqL.of (by rw[hacc,A3];rfl),?_⟩
  rw[List.all_map]
  exact q2 H2 (s1.trans s2)
def iP (K:PySem.W.Frag):Sp:=fun vs H Q _=>∃(x:Int) (d r:Addr) (es row:List (Int×Int)),vs=[.int x,.ref d,.ref r]/\H d=some (.dK (jM es))/\RowAt H r row/\row.length<=1000/\∀H',Same H H'->Q (.bl (ly row es x)) H'
theorem nE:FnScope ["price","dues","pairs"] ["price","dues","pairs"] (ar fU):=⟨rfl,rfl,rfl,by decide +kernel,rfl,by decide +kernel,by decide +kernel⟩
theorem nF (D:Dfs K mg aF dF) (T:Txt mg):FnOk P w K mg base aX 1 (aF 25) (dF 25) ["price","dues","pairs"] (iP K):=by
 refine D.is_within.fn.ok nE (fun vs H Q E h=>?_) (fun cdv A outer s H vs Q E hr h=>?_)
 ·obtain⟨x,d,r,es,row,rfl,_⟩:=h;rfl
 ·have hu:=be hr
  obtain⟨x,d,r,es,row,rfl,hd,hr',l1,q⟩:=h
  refine⟨_,(ah (aj (ai (mL K) (by rfl) T.z_all boot_all (aa (aL ["badge","cost","price","dues"] [none,none,some 0,some 1] rfl (gG K (pv 2)) (fun _=>vE K (n:=2) rfl (bc (aq (i:=0) (aB (N:=["badge","cost","price","dues"]) (by decide +kernel)) rfl (Or.inl rfl)) (bc (aq (i:=1) (aB (N:=["badge","cost","price","dues"]) (by decide +kernel)) rfl (Or.inl rfl)) c7))) (fun _=>aJ) (fun _=>(bY jk (ak cW (pv 2) (om hu (pv 3) (pv 0) ae ⟨rfl,rfl,rfl,rfl⟩)) (pv 1) (aw _))) ((.cons (fun _ e=>by cases e) (.cons (fun _ e=>by cases e) (.cons (fun _ e=>by cases e;exact⟨rfl,rfl⟩) (.cons (fun _ e=>by cases e;exact⟨rfl,rfl⟩) .nil)))))) ab)))),?_⟩
  obtain⟨ps,hps,tps⟩:=id hr'
  refine⟨_,rfl,r,rfl,⟨_,SqL.of hps⟩,?_⟩
  refine eH (fun y=>V.bl (decide (x-du es y.1<=y.2))) hr' (by omega) (fun j y hy H3 R s3 k3=>?_) fun acc H3 s3 n3 h3=>?_
  ·have kk:R (.bl (decide (x-du es y.1<=y.2))) H3:=k3 H3 (Same.refl _)
   have hgd:=DGet.k (k:=Sum.inl y.1) (s3 _ _ hd)
   rw[fc]at hgd
   have ev:((cD es y.1).map V.int).getD (V.int 0)=V.int (du es y.1):=by unfold du;cases cD es y.1<;>rfl
   refine⟨_,rfl,_,rfl,d,rfl,.inl ⟨_,.inl (s3 _ _ hd)⟩,_,rfl,_,hgd,?_⟩
   rw[ev]
   exact⟨_,_,rfl,rfl,_,rfl,_,_,rfl,rfl,kk⟩
  refine⟨acc,row.map fun y=>decide (x-du es y.1<=y.2),rfl,SqL.of (by rw[h3,A3];rfl),?_⟩
  rw[List.all_map]
  exact q H3 s3
def dB (K:PySem.W.Frag):Sp:=fun vs H Q _=>∃(pa lp:Addr) (p pr:List Int),vs=[.ref pa,.ref lp]/\SqL K H pa (p.map V.int)/\p.length<=6/\H lp=some (.lst (pr.map V.int))/\pr.length<=1000/\∀H',Same H H'->Q (.bl (decide (pr.length=(dd p).length))) H'
theorem gj:FnScope ["pattern","prices"] ["pattern","prices"] (ar ck):=⟨rfl,rfl,rfl,by decide +kernel,rfl,by decide +kernel,by decide +kernel⟩
theorem gn (D:Dfs K mg aF dF) (T:Txt mg):FnOk P w K mg base aX 2 (aF 26) (dF 26) ["pattern","prices"] (dB K):=by
 have Gis_whole:FnOk P w K mg base aX 1 (aF 0) (dF 0) ["thing"] (cH K):=dz D T
 have Gwidth:FnOk P w K mg base aX 1 (aF 5) (dF 5) ["pattern"] (fh K):=gc D T
 refine D.is_list_of_prices.fn.ok gj (fun vs H Q E h=>?_) (fun cdv A outer s H vs Q E hr h=>?_)
 ·obtain⟨pa,lp,p,pr,rfl,_⟩:=h;rfl
 ·have hu:=be hr
  obtain⟨pa,lp,p,pr,rfl,hp,p6,hlp,l1,q⟩:=h
  refine⟨_,(ag (az (PW.pt (cV (aZ (bg (ai (fJ K) (by rfl) T.z_isinstance boot_isinstance (aa (pv 1) (aa (eF T.z_list) ab))))) (cB (av gE (ai (bx K) (by rfl) T.z_len boot_len (aa (pv 1) ab)) (pc D.width Gwidth (hr.mono (by decide)) (aa (pv 0) ab)) (aw _)))))
    (ah (aj bB))
    au)
   (ah (aj (ai (mL K) (by rfl) T.z_all boot_all (aa (aL ["price"] [none] rfl (gG K (pv 1)) (fun _=>aq (i:=0) (aB (N:=["price"]) (by decide +kernel)) rfl (Or.inl rfl)) (fun _=>aJ) (fun _=>(pc D.is_whole Gis_whole (hr.mono (by decide)) (aa (pv 0) ab))) ((.cons (fun _ e=>by cases e) .nil))) ab))))),?_⟩
  refine⟨_,rfl,_,_,_,true,rfl,.lst hlp,rfl,_,rfl,aE ?_⟩
  refine⟨_,rfl,_,pr.length,rfl,.inl ⟨_,SqL.of hlp,by rw[AC]⟩,_,rfl,pa,p,rfl,hp,p6,fun H1 s1=>⟨rfl,_,rfl,rZ (fun ne=>?_) fun e=>?_⟩⟩
  ·have z:=q H1 s1
   rw[decide_eq_false (by omega)]at z
   exact z
  refine⟨_,rfl,lp,rfl,⟨_,SqL.of (s1 _ _ hlp)⟩,?_⟩
  refine bD (xs:=pr.map V.int) (fun _=>true) (fun _=> .bl true) (SqL.of (s1 _ _ hlp)) (by rw[AC];omega) (fun _ _ _ _ _ _ k=>k _ (Same.refl _)) (fun j x hx _ H2 R s2 k=>?_) fun acc H2 s2 nacc hacc=>?_
  ·obtain⟨d,hd,rfl,ed⟩:=cN hx
   exact⟨_,rfl,d,rfl,k H2 (Same.refl _)⟩
  rw[A8.mpr (fun _ _=>rfl)]at hacc
  have e1:(AH (pr.map V.int).length).map (fun _=>V.bl true)=((AH (pr.map V.int).length).map fun _=>true).map V.bl:=by rw[A3];rfl
  rw[e1]at hacc
  refine⟨acc,_,rfl,SqL.of hacc,?_⟩
  have e2:((AH (pr.map V.int).length).map fun _=>true).all id=true:=AX.mpr fun x hx=>by obtain⟨_,_,e⟩:=Br.mp hx;rw[<- e];rfl
  rw[e2]
  have z:=q H2 (s1.trans s2)
  rw[decide_eq_true (by omega)]at z
  exact z
def jP (x:Int×Int):Bool:=decide (1<=x.1/\x.1<=10^18/\0<=x.2)
def my (K:PySem.W.Frag):Sp:=fun vs H Q _=>∃(t:Addr) (x:Int×Int),vs=[.ref t]/\b4 H t x/\Q (.bl (jP x)) H
theorem tQ:FnScope ["pair"] ["pair"] (ar kI):=⟨rfl,rfl,rfl,by decide +kernel,rfl,by decide +kernel,by decide +kernel⟩
theorem tR (D:Dfs K mg aF dF) (T:Txt mg):FnOk P w K mg base aX 3 (aF 28) (dF 28) ["pair"] (my K):=by
 have Gis_whole:FnOk P w K mg base aX 1 (aF 0) (dF 0) ["thing"] (cH K):=dz D T
 have Gis_badge:FnOk P w K mg base aX 2 (aF 1) (dF 1) ["thing"] (jy K):=oX D T
 refine D.is_due.fn.ok tQ (fun vs H Q E h=>?_) (fun cdv A outer s H vs Q E hr h=>?_)
 ·obtain⟨t,x,rfl,_⟩:=h;rfl
 ·have hu:=be hr
  obtain⟨t,x,rfl,ht,q⟩:=h
  refine⟨_,(ag (az (PW.pt (cV (aZ (bg (ai (fJ K) (by rfl) T.z_isinstance boot_isinstance (aa (pv 0) (aa (fO T.z_tuple) ab))))) (cB (av gE (ai (bx K) (by rfl) T.z_len boot_len (aa (pv 0) ab)) ae (aw _)))))
    (ah (aj bB))
    au)
   (ah (aj (eN (pc D.is_badge Gis_badge (hr.mono (by decide)) (aa (ao (cz K) (pv 0) ae (fun _ _=>rfl)) ab)) (eN (pc D.is_whole Gis_whole (hr.mono (by decide)) (aa (ao (cz K) (pv 0) ae (fun _ _=>rfl)) ab)) (gQ (bY qH (ao (cz K) (pv 0) ae (fun _ _=>rfl)) ae (aw _)))))))),?_⟩
  have ht:H t=some (.tup [.int x.1,.int x.2]):=ht
  refine⟨_,rfl,_,_,_,true,rfl,.tup ht,rfl,_,rfl,aE ?_⟩
  refine⟨_,rfl,_,2,rfl,.inr ⟨_,SqT.of ht,rfl⟩,rfl,_,rfl,kz rfl ?_⟩
  refine⟨_,rfl,t,_,_,_,rfl,rfl,SqT.of ht,rfl,x.1,rfl,_,rfl,pD (fun z=>?_) fun z=>?_⟩
  ·refine⟨_,rfl,t,_,_,_,rfl,rfl,SqT.of ht,rfl,x.2,rfl,_,rfl,bP ?_⟩
   refine⟨_,rfl,t,_,_,_,rfl,rfl,SqT.of ht,rfl,_,_,rfl,rfl,?_⟩
   have e:jP x=decide (x.2>=0):=decide_eq_decide.mpr ⟨fun y=>y.2.2,fun y=>⟨z.1,z.2,y⟩⟩
   rw[e]at q
   exact q
  ·rw [show jP x=false from decide_eq_false fun y=>z ⟨y.1,y.2.1⟩]at q
   exact q
def dX (K:PySem.W.Frag):Sp:=fun vs H Q _=>∃(d:Addr) (es:List (Int×Int)),vs=[.ref d]/\RowAt H d es/\es.length<=1000/\∀H',Same H H'->Q (.bl (jd es)) H'
theorem ib:FnScope ["dues"] ["dues"] (ar cQ):=⟨rfl,rfl,rfl,by decide +kernel,rfl,by decide +kernel,by decide +kernel⟩
theorem ic (D:Dfs K mg aF dF) (T:Txt mg):FnOk P w K mg base aX 4 (aF 27) (dF 27) ["dues"] (dX K):=by
 have Gis_rising:FnOk P w K mg base aX 1 (aF 2) (dF 2) ["numbers"] (fG K):=iL D T
 have Gis_due:FnOk P w K mg base aX 3 (aF 28) (dF 28) ["pair"] (my K):=tR D T
 refine D.is_list_of_dues.fn.ok ib (fun vs H Q E h=>?_) (fun cdv A outer s H vs Q E hr h=>?_)
 ·obtain⟨d,es,rfl,_⟩:=h;rfl
 ·have hu:=be hr
  obtain⟨d,es,rfl,⟨ds,hd,tps⟩,e1,q⟩:=h
  refine⟨_,(ag (az (PW.pt (cV (aZ (bg (ai (fJ K) (by rfl) T.z_isinstance boot_isinstance (aa (pv 0) (aa (eF T.z_list) ab))))) (cB (aZ (bg (ai (mL K) (by rfl) T.z_all boot_all (aa (aL ["pair"] [none] rfl (gG K (pv 0)) (fun _=>aq (i:=0) (aB (N:=["pair"]) (by decide +kernel)) rfl (Or.inl rfl)) (fun _=>aJ) (fun _=>(pc D.is_due Gis_due (hr.mono (by decide)) (aa (pv 0) ab))) ((.cons (fun _ e=>by cases e) .nil))) ab)))))))
    (ah (aj bB))
    au)
   (ah (aj (pc D.is_rising Gis_rising (hr.mono (by decide)) (aa (aL ["badge","due"] [none,none] rfl (gG K (pv 0)) (fun _=>vE K (n:=2) rfl (bc (aq (i:=0) (aB (N:=["badge","due"]) (by decide +kernel)) rfl (Or.inl rfl)) (bc (aq (i:=1) (aB (N:=["badge","due"]) (by decide +kernel)) rfl (Or.inl rfl)) c7))) (fun _=>aJ) (fun _=>(pv 0)) ((.cons (fun _ e=>by cases e) (.cons (fun _ e=>by cases e) .nil)))) ab))))),?_⟩
  have tl:=tps.len
  refine⟨_,rfl,_,_,_,true,rfl,.lst hd,rfl,_,rfl,aE ?_⟩
  refine⟨_,rfl,d,rfl,⟨_,SqL.of hd⟩,?_⟩
  refine bD (xs:=ds.map V.ref) (fun _=>true) (fun j=> .bl (jP (es.getD j (0,0)))) (SqL.of hd) (by rw[AC];omega) (fun _ _ _ _ _ _ k=>k _ (Same.refl _)) (fun j v hv _ H2 R s2 k=>?_) fun acc H2 s2 nacc hacc=>?_
  ·rw [AG]at hv
   obtain⟨t,ht,rfl⟩:=AL.mp hv
   obtain⟨x,hx,tx⟩:=bG tps ht
   have kk:R (.bl (jP (es.getD j (0,0)))) H2:=k H2 (Same.refl _)
   rw[xh hx]at kk
   exact⟨_,rfl,t,x,rfl,s2 _ _ tx,kk⟩
  rw[A8.mpr (fun _ _=>rfl),AC,tl]at hacc
  have e3:(AH es.length).map (fun j=>V.bl (jP (es.getD j (0,0))))=(es.map jP).map V.bl:=by
   rw[A3]
   exact fB (g:=fun x=>V.bl (jP x)) fun i x hx=>by rw[xh hx]
  rw[e3]at hacc
  refine⟨acc,_,rfl,SqL.of hacc,_,rfl,?_⟩
  have e4:(es.map jP).all id=es.all jP:=by rw[List.all_map];rfl
  rw[e4]
  refine jn (fun h1=>?_) fun h1=>?_
  ·have z:=q H2 s2
   rw[show jd es=false by show(es.all jP&&_)=_;rw[h1,Bd]]at z
   exact z
  refine⟨_,rfl,d,rfl,⟨_,SqL.of (s2 _ _ hd)⟩,?_⟩
  refine eH (fun x=>V.int x.1) ⟨ds,s2 _ _ hd,tps.same s2⟩ (by omega) (fun j x hx H3 R s3 k3=>⟨_,rfl,k3 H3 (Same.refl _)⟩) fun acc2 H3 s3 n3 h3=>?_
  refine⟨acc2,es.map (·.1),rfl,SqL.of (by rw[h3,A3];rfl),by rw[AC];omega,fun H4 s4=>?_⟩
  have z:=q H4 ((s2.trans s3).trans s4)
  rw[show jd es=jK (es.map (·.1)) by show(es.all jP&&_)=_;rw[h1,Bool.true_and]]at z
  exact z
def gL (K:PySem.W.Frag):Sp:=fun vs H Q _=>∃(pa b lp ld:Addr) (bd:Int) (p pr:List Int) (es:List (Int×Int)) (rs:List Addr) (rows:cw) (U:List Int),vs=[.ref pa,.ref b,.int bd,.ref lp,.ref ld]/\SqL K H pa (p.map V.int)/\H b=some (.lst (rs.map V.ref))/\BillL H rs rows/\QB rows U/\bR p/\p.length<=rows.length/\H lp=some (.lst (pr.map V.int))/\pr.length<=1000/\RowAt H ld es/\es.length<=1000/\∀H',Same H H'->Q (.bl (eI rows p bd pr es)) H'
theorem lz:FnScope ["pattern","bill","bound","prices","dues"] ["pattern","bill","bound","prices","dues"] (ar fC):=⟨rfl,rfl,rfl,by decide +kernel,rfl,by decide +kernel,by decide +kernel⟩
theorem lA (D:Dfs K mg aF dF) (T:Txt mg):FnOk P w K mg base aX 5 (aF 24) (dF 24) ["pattern","bill","bound","prices","dues"] (gL K):=by
 have Gsums:FnOk P w K mg base aX 3 (aF 18) (dF 18) ["pattern","bill"] (rB K):=wN D T
 have Gis_within:FnOk P w K mg base aX 1 (aF 25) (dF 25) ["price","dues","pairs"] (iP K):=nF D T
 have Gis_list_of_prices:FnOk P w K mg base aX 2 (aF 26) (dF 26) ["pattern","prices"] (dB K):=gn D T
 have Gis_list_of_dues:FnOk P w K mg base aX 4 (aF 27) (dF 27) ["dues"] (dX K):=ic D T
 refine D.dear_bears.fn.ok lz (fun vs H Q E h=>?_) (fun cdv A outer s H vs Q E hr h=>?_)
 ·obtain⟨pa,b,lp,ld,bd,p,pr,es,rs,rows,U,rfl,_⟩:=h;rfl
 ·have hu:=be hr
  obtain⟨pa,b,lp,ld,bd,p,pr,es,rs,rows,U,rfl,hp,hb,bl,qb,c,hl,hlp,l1,hld,l2,q⟩:=h
  refine⟨_,(ag (az (PW.pt (cV (aZ (bg (pc D.is_list_of_prices Gis_list_of_prices (hr.mono (by decide)) (aa (pv 0) (aa (pv 3) ab))))) (cB (aZ (bg (pc D.is_list_of_dues Gis_list_of_dues (hr.mono (by decide)) (aa (pv 4) ab)))))))
    (ah (aj bB))
    au)
   (ag (az (aZ (bg (ai (mL K) (by rfl) T.z_all boot_all (aa (aL ["price","pairs","dues"] [none,none,some 4] rfl (qi K rfl T.z_zip (aa (pv 3) (aa (pc D.sums Gsums (hr.mono (by decide)) (aa (pv 0) (aa (pv 1) ab))) ab))) (fun _=>vE K (n:=2) rfl (bc (aq (i:=0) (aB (N:=["price","pairs","dues"]) (by decide +kernel)) rfl (Or.inl rfl)) (bc (aq (i:=1) (aB (N:=["price","pairs","dues"]) (by decide +kernel)) rfl (Or.inl rfl)) c7))) (fun _=>aJ) (fun _=>(pc D.is_within Gis_within (hr.mono (by decide)) (aa (pv 0) (aa (aI (rb K) (by rfl) T.z_dict PyProof.Rows.boot_dict (aa (pv 2) ab)) (aa (pv 1) ab))))) ((.cons (fun _ e=>by cases e) (.cons (fun _ e=>by cases e) (.cons (fun _ e=>by cases e;exact⟨rfl,rfl⟩) .nil))))) ab))))
    (ah (aj bB))
    au)
   (ah (aj (bY qH (ak cW (ai (sQ K) (by rfl) T.z_sum boot_sum (aa (pv 3) ab)) (ai (sQ K) (by rfl) T.z_sum boot_sum (aa (aL ["badge","due"] [none,none] rfl (gG K (pv 4)) (fun _=>vE K (n:=2) rfl (bc (aq (i:=0) (aB (N:=["badge","due"]) (by decide +kernel)) rfl (Or.inl rfl)) (bc (aq (i:=1) (aB (N:=["badge","due"]) (by decide +kernel)) rfl (Or.inl rfl)) c7))) (fun _=>aJ) (fun _=>(pv 1)) ((.cons (fun _ e=>by cases e) (.cons (fun _ e=>by cases e) .nil)))) ab))) (pv 2) (aw _)))))),?_⟩
  have r6:=qb.r6
  have dl:=bV p
  refine⟨_,rfl,_,rfl,pa,lp,p,pr,rfl,hp,by omega,hlp,l1,fun H1 s1=>⟨_,rfl,jn (fun h1=>?_) fun h1=>?_⟩⟩
  ·have z:=q H1 s1
   unfold eI at z
   rw[h1,Bd,Bd]at z
   exact z
  refine⟨_,rfl,ld,es,rfl,hld.same s1,l2,fun H2 s2=>⟨_,rfl,jn (fun h2=>?_) fun h2=>?_⟩⟩
  ·have z:=q H2 (s1.trans s2)
   unfold eI at z
   rw[h2,Bool.and_false,Bd]at z
   exact z
  have s02:=s1.trans s2
  have pl:=of_decide_eq_true h1
  have nde:(es.map (·.1)).Nodup:=by
   unfold jd at h2
   rw[BL]at h2
   exact jv (iG.mp h2.2)
  refine⟨_,rfl,_,rfl,_,rfl,pa,b,p,rs,rows,rfl,s02.seq hp,s02 _ _ hb,bl.same s02,c,hl,r6,qb.ok,fun sl ls H3 s3 nsl hsl bls _=>?_⟩
  have s03:=s02.trans s3
  have lsl:ls.length=(dd p).length:=by rw[bls.len,sY]
  refine⟨lp,sl,_,_,rfl,SqL.of (s03 _ _ hlp),SqL.of hsl,?_⟩
  refine i9 (xs:=pr.map V.int) (ys:=ls.map V.ref) (fun j=> .bl (ly (fe rows (aU p j)) es (pr.getD j 0))) (by rw[AC,AC];omega) (SqL.of (s03 _ _ hlp)) (SqL.of hsl) (by rw[AC];omega) (fun j x y H4 R hx hy s4 k=>?_) fun acc H4 s4 nacc hacc=>?_
  ·obtain⟨d,hd,rfl,ed⟩:=cN hx
   rw[AG]at hy
   obtain⟨r,hr',rfl⟩:=AL.mp hy
   obtain⟨row,hrow,ra⟩:=(bls.same s4).get hr'
   have jl:=(AF.mp hr').1
   have er:row=fe rows (aU p j):=by rw[<- vi (rows:=rows) (by omega),xh hrow]
   rw[ed,<- er]at k
   obtain⟨dp,hd4,tps⟩:=hld.same (s03.trans s4)
   have rl20:row.length<=20:=by rw[er];exact oR (fun row h=>(qb.ok row h).1) _
   refine⟨_,rfl,_,rfl,ld,dp,jM es,rfl,SqL.of hd4,by unfold jM;rw[AC,tps.len],m7 nde,tps.kv,fun dd' ndd=>?_⟩
   have s5:=Same.new (o:= .dK (jM es)) ndd
   exact⟨_,rfl,d,dd',r,es,row,rfl,af,ra.same s5,by omega,fun H5 s5'=>k H5 (s5.trans s5')⟩
  have e1:(AH (pr.map V.int).length).map (fun j=>V.bl (ly (fe rows (aU p j)) es (pr.getD j 0)))=((AH (dd p).length).map fun j=>ly (fe rows (aU p j)) es (pr.getD j 0)).map V.bl:=by rw[AC,pl,A3];rfl
  rw[e1]at hacc
  have s04:=s03.trans s4
  refine⟨acc,_,rfl,SqL.of hacc,_,rfl,?_⟩
  have e2:((AH (dd p).length).map fun j=>ly (fe rows (aU p j)) es (pr.getD j 0)).all id=rq rows p pr es:=by rw[List.all_map];rfl
  rw[e2]
  refine jn (fun h3=>?_) fun h3=>?_
  ·have z:=q H4 s04
   unfold eI at z
   rw[h3,Bd,Bool.and_false]at z
   exact z
  refine⟨_,rfl,lp,pr,rfl,SqL.of (s04 _ _ hlp),?_⟩
  obtain⟨dp,hd4,tps⟩:=hld.same s04
  refine⟨_,rfl,ld,rfl,⟨_,SqL.of hd4⟩,?_⟩
  refine eH (fun x=>V.int x.2) ⟨dp,hd4,tps⟩ (by omega) (fun j x hx H5 R s5 k5=>⟨_,rfl,k5 H5 (Same.refl _)⟩) fun acc2 H5 s5 n5 h5=>?_
  refine⟨acc2,es.map (·.2),rfl,SqL.of (by rw[h5,A3];rfl),_,_,rfl,rfl,_,rfl,_,_,rfl,rfl,?_⟩
  have z:=q H5 (s04.trans s5)
  unfold eI at z
  rw[h1,h2,h3,Bool.true_and,Bool.true_and,Bool.true_and]at z
  exact z
def iQ (K:PySem.W.Frag):Sp:=dh K 7
theorem nG:FnScope ["pattern","bill","ties","bound","paper"] ["pattern","bill","ties","bound","paper"] (ar fT):=⟨rfl,rfl,rfl,by decide +kernel,rfl,by decide +kernel,by decide +kernel⟩
theorem nH (D:Dfs K mg aF dF) (T:Txt mg):FnOk P w K mg base aX 44 (aF 22) (dF 22) ["pattern","bill","ties","bound","paper"] (iQ K):=by
 have Gshows_for:FnOk P w K mg base aX 24 (aF 11) (dF 11) ["pattern","may","ties","paper"] (iO K):=nD D T
 have Gmay_of:FnOk P w K mg base aX 1 (aF 17) (dF 17) ["bill"] (mw K):=tP D T
 have Gdear_bears:FnOk P w K mg base aX 5 (aF 24) (dF 24) ["pattern","bill","bound","prices","dues"] (gL K):=lA D T
 have all:∀n,FnOk P w K mg base aX (30+2*n) (aF 22) (dF 22) ["pattern","bill","ties","bound","paper"] (dh K n):=by
  intro n
  induction n with
  | zero=>
   have no:∀vs H Q E,¬dh K 0 vs H Q E:=fun vs H Q E h=>by
    obtain⟨pa,b,ta,bd,v,p,rs,rows,U,ts,g,_,_,_,_,_,_,_,h1,h2,_⟩:=h
    omega
   exact⟨fun vs H Q E h=>absurd h (no vs H Q E),fun A outer s H args us vs Q E _ _ _ _ h=>absurd h (no vs H Q E)⟩
  | succ n Gbears_for=>
   have Gsplit_bears:=kQ D T n Gbears_for
   refine D.bears_for.fn.ok nG (fun vs H Q E h=>?_) (fun cdv A outer s H vs Q E hr h=>?_)
   ·obtain⟨pa,b,ta,bd,v,p,rs,rows,U,ts,g,rfl,_⟩:=h;rfl
   obtain⟨pa,b,ta,bd,v,p,rs,rows,U,ts,g,rfl,hpa,hb,bl,qb,tt,c,hl,hlm,pat,gb,q⟩:=h
   have rk:Nat.add 30 (Nat.mul 2 n+1)=30+(2*n+1):=rfl
   refine⟨_,(ag (az (aZ (bg (ai (fJ K) (by rfl) T.z_isinstance boot_isinstance (aa (pv 4) (aa (fO T.z_tuple) ab)))))
    (ah (aj bB))
    au)
   (ag (az (PW.pt (pE (av bj (ai (bx K) (by rfl) T.z_len boot_len (aa (pv 4) ab)) ae (aw _)) (mC (av bj (ao (cz K) (pv 4) ae (fun _ _=>rfl)) aP (aw _)))))
    (ah (aj (pc D.dear_bears Gdear_bears (hr.mono (by have:=rk;omega)) (aa (pv 0) (aa (pv 1) (aa (pv 3) (aa (ao (cz K) (pv 4) ae (fun _ _=>rfl)) (aa (ao (cz K) (pv 4) ae (fun _ _=>rfl)) ab))))))))
    au)
   (ag (az (PW.pt (pE (av bj (ai (bx K) (by rfl) T.z_len boot_len (aa (pv 4) ab)) ae (aw _)) (mC (av bj (ao (cz K) (pv 4) ae (fun _ _=>rfl)) aP (aw _)))))
    (ah (aj (pc D.split_bears Gsplit_bears (hr.mono (by have:=rk;omega)) (aa (pv 0) (aa (pv 1) (aa (pv 2) (aa (pv 3) (aa (ao (cz K) (pv 4) ae (fun _ _=>rfl)) ab))))))))
    au)
   (ah (aj (pc D.shows_for Gshows_for (hr.mono (by have:=rk;omega)) (aa (pv 0) (aa (pc D.may_of Gmay_of (hr.mono (by have:=rk;omega)) (aa (pv 1) ab)) (aa (pv 2) (aa (pv 4) ab)))))))))),?_⟩
   have r6:=qb.r6
   have mbl:=vh rows
   have mup:∀p∈fg rows,p.Pairwise (· < ·):=fun p hp=>by
    obtain⟨row,hr,rfl⟩:=Br.mp hp
    exact qb.up row hr
   have msub:∀p∈fg rows,∀z∈p,z∈U:=fun p hp z hz=>by
    obtain⟨row,hr,rfl⟩:=Br.mp hp
    obtain⟨x,hx,rfl⟩:=Br.mp hz
    exact qb.sub row hr x hx
   cases pat with
   | @tie tp j ht=>
    refine⟨_,rfl,_,_,_,true,rfl,.tup ht,rfl,_,rfl,aE ?_⟩
    refine⟨_,rfl,_,2,rfl,.inr ⟨_,SqT.of ht,rfl⟩,rfl,_,rfl,aE ?_⟩
    refine aE ?_
    refine⟨_,rfl,_,2,rfl,.inr ⟨_,SqT.of ht,rfl⟩,rfl,_,rfl,bP ?_⟩
    refine⟨_,rfl,tp,_,_,_,rfl,rfl,SqT.of ht,rfl,rfl,_,rfl,?_⟩
    rw[decide_eq_false (by decide)]
    refine aE ?_
    refine⟨_,rfl,_,rfl,b,rs,rows,rfl,hb,bl,r6,fun row hr=>(qb.ok row hr).1,fun ml ms H1 s1 nml hml rm _=>?_⟩
    have rm:RowsL H1 ms (fg rows):=rm
    exact⟨_,rfl,_,rfl,pa,ml,ta,.ref tp,p,ms,fg rows,U,ts,.tie j,tj (ts.map dy) p j,rfl,s1 _ _ hpa,⟨SqL.of hml,rm.pools,mup,msub,by omega,qb.u26⟩,⟨s1.seq tt.ls,fun x hx=>(tt.ea x hx).same s1,tt.ln⟩,c,by omega,by omega,.tie (s1 _ _ ht),.tie,wG _ _ _ _,fun H2 s2=>q H2 (s1.trans s2)⟩
   | @short tp l bs ht hl'=>
    refine⟨_,rfl,_,_,_,true,rfl,.tup ht,rfl,_,rfl,aE ?_⟩
    refine⟨_,rfl,_,2,rfl,.inr ⟨_,SqT.of ht,rfl⟩,rfl,_,rfl,aE ?_⟩
    refine aE ?_
    refine⟨_,rfl,_,2,rfl,.inr ⟨_,SqT.of ht,rfl⟩,rfl,_,rfl,bP ?_⟩
    refine⟨_,rfl,tp,_,_,_,rfl,rfl,SqT.of ht,rfl,rfl,_,rfl,?_⟩
    rw[decide_eq_false (by decide)]
    refine aE ?_
    refine⟨_,rfl,_,rfl,b,rs,rows,rfl,hb,bl,r6,fun row hr=>(qb.ok row hr).1,fun ml ms H1 s1 nml hml rm _=>?_⟩
    have rm:RowsL H1 ms (fg rows):=rm
    cases gb with
    | short gb=>
    exact⟨_,rfl,_,rfl,pa,ml,ta,.ref tp,p,ms,fg rows,U,ts,.short bs,cO (fg rows) p bs,rfl,s1 _ _ hpa,⟨SqL.of hml,rm.pools,mup,msub,by omega,qb.u26⟩,⟨s1.seq tt.ls,fun x hx=>(tt.ea x hx).same s1,tt.ln⟩,c,by omega,by omega,.short (s1 _ _ ht) (s1 _ _ hl'),.short gb,.short,fun H2 s2=>q H2 (s1.trans s2)⟩
   | @split tp l vs' ps ht hl' hvn hat=>
    refine⟨_,rfl,_,_,_,true,rfl,.tup ht,rfl,_,rfl,aE ?_⟩
    refine⟨_,rfl,_,2,rfl,.inr ⟨_,SqT.of ht,rfl⟩,rfl,_,rfl,aE ?_⟩
    refine aE ?_
    refine⟨_,rfl,_,2,rfl,.inr ⟨_,SqT.of ht,rfl⟩,rfl,_,rfl,bP ?_⟩
    refine⟨_,rfl,tp,_,_,_,rfl,rfl,SqT.of ht,rfl,rfl,_,rfl,?_⟩
    rw[decide_eq_true rfl]
    cases gb with
    | split _ gb=>
    exact bP ⟨_,rfl,_,rfl,_,rfl,_,rfl,_,rfl,tp,_,_,_,rfl,rfl,SqT.of ht,rfl,pa,b,ta,l,bd,vs',p,rs,rows,U,ts,ps,rfl,hpa,hb,bl,qb,tt,c,hl,by omega,hl',hvn,hat,gb,q⟩
   | @dear tp l d pr es ht hl' hd=>
    refine⟨_,rfl,_,_,_,true,rfl,.tup ht,rfl,_,rfl,aE ?_⟩
    refine⟨_,rfl,_,3,rfl,.inr ⟨_,SqT.of ht,rfl⟩,rfl,_,rfl,bP ?_⟩
    refine⟨_,rfl,tp,_,_,_,rfl,rfl,SqT.of ht,rfl,rfl,_,rfl,?_⟩
    rw[decide_eq_true rfl]
    cases gb with
    | dear g1 g2=>
    exact bP ⟨_,rfl,_,rfl,_,rfl,_,rfl,tp,_,_,_,rfl,rfl,SqT.of ht,rfl,_,rfl,tp,_,_,_,rfl,rfl,SqT.of ht,rfl,pa,b,l,d,bd,p,pr,es,rs,rows,U,rfl,SqL.of hpa,hb,bl,qb,c,hl,hl',g1,hd,g2,q⟩
 exact all 7
def o6 (K:PySem.W.Frag):Sp:=fun vs H Q _=>∃(b ta:Addr) (bd:Int) (v:V) (rs:List Addr) (rows:cw) (U:List Int) (ts:List (Addr×Addr×Str×Int×List Nat)) (g:BPap),vs=[.ref b,.ref ta,.int bd,v]/\H b=some (.lst (rs.map V.ref))/\BillL H rs rows/\QB rows U/\Ties K H ta ts 100/\BPapAt H v g/\BBnd g/\∀H',Same H H'->Q (.bl (cP rows (ts.map dy) bd 7 [] g)) H'
theorem vy:FnScope ["bill","ties","bound","paper"] ["bill","ties","bound","paper"] (ar nq):=⟨rfl,rfl,rfl,by decide +kernel,rfl,by decide +kernel,by decide +kernel⟩
theorem vz (D:Dfs K mg aF dF) (T:Txt mg):FnOk P w K mg base aX 45 (aF 21) (dF 21) ["bill","ties","bound","paper"] (o6 K):=by
 have Gbears_for:FnOk P w K mg base aX 44 (aF 22) (dF 22) ["pattern","bill","ties","bound","paper"] (iQ K):=nH D T
 refine D.bears.fn.ok vy (fun vs H Q E h=>?_) (fun cdv A outer s H vs Q E hr h=>?_)
 ·obtain⟨b,ta,bd,v,rs,rows,U,ts,g,rfl,_⟩:=h;rfl
 ·have hu:=be hr
  obtain⟨b,ta,bd,v,rs,rows,U,ts,g,rfl,hb,bl,qb,tt,pat,gb,q⟩:=h
  refine⟨_,(ah (aj (pc D.bears_for Gbears_for (hr.mono (by decide)) (aa (aA ab) (aa (pv 0) (aa (pv 1) (aa (pv 2) (aa (pv 3) ab)))))))),?_⟩
  have r6:=qb.r6
  refine⟨bM,fun e ne=>?_⟩
  have s1:=Same.new (o:= .lst []) ne
  exact⟨_,rfl,_,rfl,_,rfl,_,rfl,e,b,ta,bd,v,[],rs,rows,U,ts,g,rfl,af,s1 _ _ hb,bl.same s1,qb,⟨s1.seq tt.ls,fun x hx=>(tt.ea x hx).same s1,tt.ln⟩,eZ,A0 _,by simp;omega,pat.same s1,gb,fun H' s=>q H' (s1.trans s)⟩
def gq (K:PySem.W.Frag):Sp:=fun vs H Q _=>∃(a:Addr) (ns:List Int) (k:Nat),vs=[.ref a,.int ((k:Nat):Int)]/\SqL K H a (ns.map V.int)/\Q (.int (ns.getD k 0)) H
theorem o7:FnScope ["script","k"] ["script","k"] (ar g8):=⟨rfl,rfl,rfl,by decide +kernel,rfl,by decide +kernel,by decide +kernel⟩
theorem jB (D:Dfs K mg aF dF) (T:Txt mg):FnOk P w K mg base aX 1 (aF 29) (dF 29) ["script","k"] (gq K):=by
 refine D.law_cell.fn.ok o7 (fun vs H Q E h=>?_) (fun cdv A outer s H vs Q E hr h=>?_)
 ·obtain⟨a,ns,k,rfl,_⟩:=h;rfl
 ·have hu:=be hr
  obtain⟨a,ns,k,rfl,hS,q⟩:=h
  refine⟨_,(ag (az (av di (pv 1) (ai (bx K) (by rfl) T.z_len boot_len (aa (pv 0) ab)) (aw _))
    (ah (aj (ao (cU K) (pv 0) (pv 1) (fun _ _=>rfl))))
    au)
   (ah (aj ae))),?_⟩
  refine⟨_,rfl,_,rfl,_,_,rfl,.inl ⟨_,hS,rfl⟩,_,_,rfl,rfl,_,rfl,pD (fun h=>?_) fun h=>?_⟩
  ·rw [AC]at h
   exact⟨_,rfl,_,rfl,a,_,_,_,rfl,rfl,hS,bC (by omega),q⟩
  ·rw [AC]at h
   have e:ns.getD k 0=0:=by rw[AE,BI (by omega)];rfl
   rw[e]at q
   exact q
def gu (K:PySem.W.Frag):Sp:=fun vs H Q _=>∃(a:Addr) (ns:List Int) (sz:Nat),vs=[.ref a,.int ((sz:Nat):Int)]/\SqL K H a (ns.map V.int)/\ns.length<=200/\0<sz/\sz<=1000/\∀l (cs:List Int) H',Same H H'->H l=none->H' l=some (.lst (cs.map V.int))->cs.length=sz->Q (.ref l) H'
theorem wO (c:Int):0<=c%2147483647/\c%2147483647<2147483647:=⟨B2 c (by decide),B0 c (by decide)⟩
theorem bz:FnScope ["script","size","mixed","cell","found","k"] ["script","size"] (ar eR):=⟨rfl,rfl,rfl,by decide +kernel,rfl,by decide +kernel,by decide +kernel⟩
theorem kR (D:Dfs K mg aF dF) (T:Txt mg):FnOk P w K mg base aX 1 (aF 30) (dF 30) ["script","size"] (gu K):=by
 refine D.law_entries.fn.ok bz (fun vs H Q E h=>?_) (fun cdv A outer s H vs Q E hr h=>?_)
 ·obtain⟨a,ns,sz,rfl,_⟩:=h;rfl
 ·have hu:=be hr
  obtain⟨a,ns,sz,rfl,hS,hl,sz0,sz1,q⟩:=h
  refine⟨_,(ag (ax (i:=2) bz.nd rfl (Or.inl rfl) ae)
   (ag (bH PassesOwn.never rfl (gG K (cK (wa K) (pv 0) eB (c8 ae))) (aq (i:=3) bz.nd rfl (Or.inl rfl))
    (ah (ax (i:=2) bz.nd rfl (Or.inl rfl) (ak aK (ak aG (ak gR (pv 2) ae) (pv 3)) ae))))
   (ag (ax (i:=4) bz.nd rfl (Or.inl rfl) (aA ab))
   (ag (bH PassesOwn.never rfl (aY rfl T.z_range (aa (pv 1) ab)) (aq (i:=5) bz.nd rfl (Or.inl rfl))
    (ag (ax (i:=2) bz.nd rfl (Or.inl rfl) (ak aK (ak aG (ak aG (ak aG (ak gR (pv 2) (pv 2)) (ak gR ae (pv 2))) (pv 5)) ae) ae))
    (ah (c4 (fL PySem.F.plainAttrs_list PySem.F.slot_list_append PySem.F.type_list_append bO (pv 4) (aa (pv 2) ab))))))
   (ag (bH PassesOwn.never rfl (lH rfl T.z_range (aa ae (aa (ai (bx K) (by rfl) T.z_len boot_len (aa (pv 0) ab)) ab))) (aq (i:=5) bz.nd rfl (Or.inl rfl))
    (ah (iW (ao (cU K) (pv 0) (pv 5) (fun _ _=>rfl)) (mD (pv 4) (ak aK (ak cW (pv 5) ae) (pv 1)) ik))))
   (ah (aj (pv 4)))))))),?_⟩
  refine⟨_,rfl,_,rfl,a,_,rfl,hS,fun c nc=>?_⟩
  have ecut:b8 (ns.map V.int) none (some 4)=(ns.take 4).map V.int:=by rw[List.map_take];exact xN _ 4
  rw[ecut]
  have s1:=Same.new (o:= .lst ((ns.take 4).map V.int)) nc
  have hc1:ay H c (.lst ((ns.take 4).map V.int)) c=some (.lst ((ns.take 4).map V.int)):=af
  generalize ay H c (.lst ((ns.take 4).map V.int))=H1 at s1 hc1
  refine⟨c,rfl,⟨_,SqL.of hc1⟩,?_⟩
  refine cq (K:=K) (a:=c) (xs:=(ns.take 4).map V.int) (fun i σ Hx=>∃(m:Int) (y:Option V),σ=[some (.ref a),some (.int sz),some (.int m),y,none,none]/\Same H1 Hx/\0<=m/\m<2147483647) ⟨1,none,rfl,Same.refl _,by decide,by decide⟩ (fun i σ Hx _ hq__=>by obtain⟨_,_,_,s,_⟩:=hq__;exact s.seq (SqL.of hc1)) ?_ ?_
  ·rintro i y σ Hx hi ⟨m,y',rfl,sx,m0,m1⟩
   obtain⟨d,hd,rfl,ed⟩:=cN hi
   exact⟨_,rfl,_,_,rfl,rfl,.inl ⟨by omega,by omega⟩,_,rfl,_,_,rfl,rfl,_,_,rfl,rfl,(show(0:Int)<2147483647 by decide),_,_,rfl,sx,(wO _).1,(wO _).2⟩
  rintro σ H2 ⟨m,y',rfl,s12,m0,m1⟩
  refine⟨bM,fun l nl=>?_⟩
  refine⟨_,rfl,_,rfl,gD _,by omega,?_⟩
  have e0:((sz:Int)).toNat=sz:=by omega
  rw[e0]
  have s02:=s1.trans s12
  have nl0:=s02.free nl
  refine bW (n:=sz) (fun i σ Hx=>∃(m:Int) (x:Option V) (cs:List Int),σ=[some (.ref a),some (.int sz),some (.int m),y',some (.ref l),x]/\Same H Hx/\Hx l=some (.lst (cs.map V.int))/\cs.length=i/\0<=m/\m<2147483647) ⟨m,none,[],rfl,s02.to nl,af,rfl,m0,m1⟩ ?_ ?_
  ·rintro i σ Hx hi ⟨m,x,cs,rfl,sx,hlx,lc,m0,m1⟩
   refine⟨_,rfl,_,rfl,_,_,rfl,rfl,.inl ⟨by omega,by omega⟩,_,rfl,_,_,rfl,rfl,.inl ⟨by decide,by decide⟩,_,_,rfl,rfl,_,rfl,_,_,rfl,rfl,_,_,rfl,rfl,_,_,rfl,rfl,(show(0:Int)<2147483647 by decide),?_⟩
   refine⟨_,rfl,.inl ⟨rfl,_,SqL.of hlx⟩,_,rfl,l,_,_,rfl,rfl,hlx,mK (by rw[AC];omega),?_⟩
   exact⟨_,_,cs++[_],rfl,sx.put nl0,by rw[af,AW];rfl,by rw[AK,AS,lc],(wO _).1,(wO _).2⟩
  rintro σ H3 ⟨m,x,cs,rfl,s3,hl3,lc,_,_⟩
  refine⟨_,rfl,_,_,rfl,.inl ⟨_,s3.seq hS,rfl⟩,_,_,rfl,⟨by decide,by decide,by omega,by rw[AC];omega⟩,?_⟩
  rw[AC]
  refine bW (n:=((ns.length:Int)-4).toNat) (fun i σ Hx=>∃(x:Option V) (cs:List Int),σ=[some (.ref a),some (.int sz),some (.int m),y',some (.ref l),x]/\Same H Hx/\Hx l=some (.lst (cs.map V.int))/\cs.length=sz) ⟨_,cs,rfl,s3,hl3,lc⟩ ?_ ?_
  ·rintro i σ Hx hi ⟨x,cs,rfl,sx,hlx,lc⟩
   have e1:(4:Int)+(i:Int)=((4+i:Nat):Int):=by omega
   obtain⟨n,hn,en⟩:=sP ((4:Int)+(i:Int)-4) sz0
   have hi4:4+i<ns.length:=by omega
   refine⟨_,rfl,_,rfl,a,_,_,_,rfl,rfl,sx.seq hS,(by rw[e1];exact bC hi4),_,rfl,_,rfl,_,_,rfl,rfl,_,rfl,_,_,rfl,rfl,(show(0:Int)<(sz:Int) by omega),l,_,_,n,rfl,rfl,hlx,(by rw[en];exact iH (by rw[AC];omega)),?_⟩
   exact⟨_,cs.set n _,rfl,sx.put nl0,by rw[af,List.map_set],by rw[BS,lc]⟩
  rintro σ H4 ⟨x,cs,rfl,s4,hl4,lc⟩
  exact⟨_,rfl,q l cs H4 s4 nl0 hl4 lc⟩
def cS (K:PySem.W.Frag):Sp:=fun vs H Q _=>∃(i:Int),vs=[.int i]/\Q (.bl true) H
theorem nI:FnScope ["found"] ["found"] (ar fV):=⟨rfl,rfl,rfl,by decide +kernel,rfl,by decide +kernel,by decide +kernel⟩
theorem dM (D:Dfs K mg aF dF) (T:Txt mg):FnOk P w K mg base aX 1 (aF 31) (dF 31) ["found"] (cS K):=by
 refine D.law_whole.fn.ok nI (fun vs H Q E h=>?_) (fun cdv A outer s H vs Q E hr h=>?_)
 ·obtain⟨i,rfl,_⟩:=h;rfl
 ·have hu:=be hr
  obtain⟨i,rfl,q⟩:=h
  refine⟨_,(ah (aj (eN (ai (fJ K) (by rfl) T.z_isinstance boot_isinstance (aa (pv 0) (aa (uj T.z_int) ab))) (gQ (t6 (ai (fJ K) (by rfl) T.z_isinstance boot_isinstance (aa (pv 0) (aa (mJ T.z_bool) ab)))))))),?_⟩
  exact⟨_,rfl,_,_,_,true,rfl,.int _,rfl,_,rfl,bP ⟨_,rfl,_,_,_,false,rfl,.int _,rfl,_,rfl,q⟩⟩
def gM (K:PySem.W.Frag):Sp:=fun vs H Q _=>∃(a:Addr) (cs:List Int) (gap hi:Int),vs=[.ref a,.int gap,.int hi]/\SqL K H a (cs.map V.int)/\cs.length<=20/\0<gap/\gap<=50000000000000000/\∀l (bs:List Int) H',Same H H'->H l=none->H' l=some (.lst (bs.map V.int))->bs.length=cs.length->bs.Pairwise (· < ·)->(∀b∈bs,1<=b/\b<=10^18)->Q (.ref l) H'
theorem cx:FnScope ["cells","gap","high","found","badge","cell"] ["cells","gap","high"] (ar fD):=⟨rfl,rfl,rfl,by decide +kernel,rfl,by decide +kernel,by decide +kernel⟩
theorem lB (D:Dfs K mg aF dF) (T:Txt mg):FnOk P w K mg base aX 1 (aF 32) (dF 32) ["cells","gap","high"] (gM K):=by
 refine D.law_badges.fn.ok cx (fun vs H Q E h=>?_) (fun cdv A outer s H vs Q E hr h=>?_)
 ·obtain⟨a,cs,gap,hi,rfl,_⟩:=h;rfl
 ·have hu:=be hr
  obtain⟨a,cs,gap,hi,rfl,hS,hl,g0,g1,q⟩:=h
  refine⟨_,(ag (ax (i:=3) cx.nd rfl (Or.inl rfl) (aA ab))
   (ag (ax (i:=4) cx.nd rfl (Or.inl rfl) ae)
   (ag (bH PassesOwn.never rfl (gG K (pv 0)) (aq (i:=5) cx.nd rfl (Or.inl rfl))
    (ag (ax (i:=4) cx.nd rfl (Or.inl rfl) (ak aG (ak aG (pv 4) ae) (ak aK (pv 5) (pv 1))))
    (ah (c4 (fL PySem.F.plainAttrs_list PySem.F.slot_list_append PySem.F.type_list_append bO (pv 3) (aa (pv 4) ab))))))
   (ag (az (av bj (pv 2) ae (aw _))
    (ah (aj (aL ["one"] [none] rfl (x6 K rfl T.z_reversed (aa (pv 3) ab)) (fun _=>aq (i:=0) (aB (N:=["one"]) (by decide +kernel)) rfl (Or.inl rfl)) (fun _=>aJ) (fun _=>(ak cW (ak aG (ak fK ae ae) ae) (pv 0))) ((.cons (fun _ e=>by cases e) .nil)))))
    au)
   (ah (aj (pv 3))))))),?_⟩
  refine⟨bM,fun l nl=>?_⟩
  refine⟨_,rfl,a,rfl,⟨_,(Same.new nl).seq hS⟩,?_⟩
  refine cq (K:=K) (a:=a) (xs:=cs.map V.int) (fun i σ Hx=>∃(b:Int) (y:Option V) (bs:List Int),σ=[some (.ref a),some (.int gap),some (.int hi),some (.ref l),some (.int b),y]/\Same H Hx/\Hx l=some (.lst (bs.map V.int))/\bs.length=i/\bs.Pairwise (· < ·)/\(∀x∈bs,1<=x/\x<=b)/\0<=b/\b<=(i:Int)*gap) ⟨0,none,[],rfl,Same.new nl,af,rfl,.nil,(fun _ z=>by cases z),Int.le_refl _,by simp⟩ (fun i σ Hx _ hq__=>by obtain⟨_,_,_,_,s,_⟩:=hq__;exact s.seq hS) ?_ ?_
  ·rintro i y σ Hx hix ⟨b,y',bs,rfl,sx,hlx,lb,up,hb,b0,b1⟩
   obtain⟨d,hd,rfl,ed⟩:=cN hix
   have w1:=B2 d (show gap≠0 by omega)
   have w2:=B0 d g0
   have hi':=(AF.mp hd).1
   refine⟨_,rfl,_,_,rfl,rfl,_,rfl,_,rfl,_,_,rfl,rfl,g0,_,_,rfl,rfl,?_⟩
   refine⟨_,rfl,.inl ⟨rfl,_,SqL.of hlx⟩,_,rfl,l,_,_,rfl,rfl,hlx,mK (by rw[AC];omega),?_⟩
   have em:((i+1:Nat):Int)*gap=(i:Int)*gap+gap:=by rw[Int.natCast_add,Int.add_mul];simp
   refine⟨_,_,bs++[b+1+d%gap],rfl,sx.put nl,by rw[af,AW];rfl,by rw[AK,AS,lb],rf up (fun x hx=>by have:=hb x hx;omega),fun x hx=>?_,by omega,by omega⟩
   rcases AZ.mp hx with z | z
   ·have:=hb x z;omega
   ·rw [AN.mp z];omega
  rintro σ H1 ⟨b,y',bs,rfl,s1,hl1,lb,up,hb,b0,b1⟩
  rw[AC]at lb b1
  have b18:b<=1000000000000000000:=by
   have h1:(cs.length:Int)*gap<=20*gap:=Int.mul_le_mul_of_nonneg_right (by omega) (by omega)
   omega
  refine⟨_,rfl,rfl,_,rfl,gS (fun e=>?_) fun ne=>?_⟩
  ·refine⟨_,rfl,l,_,rfl,SqL.of hl1,?_⟩
   refine u4 (fun x=> .int (10^18+1-x)) (SqL.of hl1) (by omega) (fun i x hx H2 R s2 k=>?_) fun acc H2 s2 nacc hacc=>?_
   ·walk_at "go"
    exact k H2 (Same.refl _)
   ·have em:bs.reverse.map (fun x=>V.int (10^18+1-x))=(bs.reverse.map fun x=>(10^18+1-x:Int)).map V.int:=by rw[A3];rfl
    rw[em]at hacc
    refine q acc _ H2 (s1.trans s2) (s1.free nacc) hacc (by rw[AC,List.length_reverse,lb]) (x8 _ up) fun x hx=>?_
    obtain⟨z,hz,rfl⟩:=Br.mp hx
    have:=hb z (List.mem_reverse.mp hz)
    omega
  ·refine⟨_,rfl,q l bs H1 s1 nl hl1 lb up fun x hx=>?_⟩
   have:=hb x hx
   omega
def jC (K:PySem.W.Frag):Sp:=fun vs H Q _=>∃(a b:Addr) (cs bs:List Int) (dn tp:Int) (cn:Nat),vs=[.ref a,.ref b,.int dn,.int tp,.int ((cn:Nat):Int)]/\SqL K H a (cs.map V.int)/\SqL K H b (bs.map V.int)/\bs.Pairwise (· < ·)/\0<tp/\cn<=6/\bs.length<=20/\cn*bs.length<=cs.length/\
 ∀l rs rows H',Same H H'->H l=none->H' l=some (.lst (rs.map V.ref))->BillL H' rs rows->rows.length=cn->(∀r∈rs,H r=none)->(∀row∈rows,RowOk bs tp row)->Q (.ref l) H'
theorem cI:FnScope ["cells","badges","dense","top","count","bill","k","pairs","i","cell"] ["cells","badges","dense","top","count"] (ar g9):=⟨rfl,rfl,rfl,by decide +kernel,rfl,by decide +kernel,by decide +kernel⟩
theorem o8 (D:Dfs K mg aF dF) (T:Txt mg):FnOk P w K mg base aX 1 (aF 33) (dF 33) ["cells","badges","dense","top","count"] (jC K):=by
 refine D.law_bill.fn.ok cI (fun vs H Q E h=>?_) (fun cdv A outer s H vs Q E hr h=>?_)
 ·obtain⟨a,b,cs,bs,dn,tp,cn,rfl,_⟩:=h;rfl
 ·have hu:=be hr
  obtain⟨a,b,cs,bs,dn,tp,cn,rfl,hA,hB,up,tp0,c6,b20,cb,q⟩:=h
  refine⟨_,(ag (ax (i:=5) cI.nd rfl (Or.inl rfl) (aA ab))
   (ag (bH PassesOwn.never rfl (aY rfl T.z_range (aa (pv 4) ab)) (aq (i:=6) cI.nd rfl (Or.inl rfl))
    (ag (ax (i:=7) cI.nd rfl (Or.inl rfl) (aA ab))
    (ag (bH PassesOwn.never rfl (aY rfl T.z_range (aa (ai (bx K) (by rfl) T.z_len boot_len (aa (pv 1) ab)) ab)) (aq (i:=8) cI.nd rfl (Or.inl rfl))
     (ag (ax (i:=9) cI.nd rfl (Or.inl rfl) (ao (cU K) (pv 0) (ak aG (ak gR (pv 6) (ai (bx K) (by rfl) T.z_len boot_len (aa (pv 1) ab))) (pv 8)) (fun _ _=>rfl)))
     (ah (az (av jk (ak aK (pv 9) ae) (pv 2) (aw _))
      (ah (c4 (fL PySem.F.plainAttrs_list PySem.F.slot_list_append PySem.F.type_list_append bO (pv 7) (aa (aM (aa (ao (cU K) (pv 1) (pv 8) (fun _ _=>rfl)) (aa (ak aK (ak bX (pv 9) ae) (pv 3)) ab))) ab))))
      au))))
    (ah (c4 (fL PySem.F.plainAttrs_list PySem.F.slot_list_append PySem.F.type_list_append bO (pv 5) (aa (pv 7) ab)))))))
   (ah (aj (pv 5))))),?_⟩
  refine⟨bM,fun l nl=>?_⟩
  refine⟨_,rfl,_,rfl,gD _,by omega,?_⟩
  rw[Ba]
  refine bW (n:=cn) (fun k σ Hx=>∃(x1 x2 x3 x4:Option V) (rs:List Addr) (rows:List (List (Int×Int))),σ=[some (.ref a),some (.ref b),some (.int dn),some (.int tp),some (.int cn),some (.ref l),x1,x2,x3,x4]/\Same H Hx/\Hx l=some (.lst (rs.map V.ref))/\BillL Hx rs rows/\rows.length=k/\(∀r∈rs,H r=none/\r≠l)/\∀row∈rows,RowOk bs tp row) ⟨none,none,none,none,[],[],rfl,Same.new nl,af,.nil,rfl,(fun _ z=>by cases z),fun _ z=>by cases z⟩ ?_ ?_
  ·rintro k σ Hk hk ⟨x1,x2,x3,x4,rs,rows,rfl,sk,hlk,bk,lr,nr,ok⟩
   refine⟨bM,fun p np=>?_⟩
   have hlp:l≠p:=bf hlk np
   have skp:=Same.new (o:= .lst []) np
   refine⟨_,rfl,_,_,rfl,.inl ⟨_,(sk.trans skp).seq hB,rfl⟩,_,rfl,gD _,by rw[AC];omega,?_⟩
   have e0:(((bs.map V.int).length:Nat):Int).toNat=bs.length:=by rw[AC];omega
   rw[e0]
   refine bW (n:=bs.length) (fun i σ Hx=>∃(x3 x4:Option V) (ps:List Addr) (row:List (Int×Int)),σ=[some (.ref a),some (.ref b),some (.int dn),some (.int tp),some (.int cn),some (.ref l),some (.int (0+(k:Int))),some (.ref p),x3,x4]/\Same Hk Hx/\Hx p=some (.lst (ps.map V.ref))/\TupsL Hx ps row/\(row.map (·.1)).Pairwise (· < ·)/\(∀x∈row,x.1∈bs.take i/\0<=x.2/\x.2<tp)/\row.length<=i) ⟨x3,x4,[],[],rfl,skp,af,.nil,.nil,(fun _ z=>by cases z),A0 _⟩ ?_ ?_
   ·rintro i σ Hx hi ⟨x3,x4,ps,row,rfl,sx,hpx,tx,ux,ix,lx⟩
    have s0x:=sk.trans sx
    have hki:k*bs.length+i<cs.length:=by
     have h1:k*bs.length+bs.length<=cn*bs.length:=by
      have:=Nat.mul_le_mul_right bs.length (show k+1<=cn from hk)
      rw[Nat.add_mul,Nat.one_mul]at this
      exact this
     omega
    have kb:k*bs.length<=120:=Nat.mul_le_mul (show k<=6 by omega) b20
    have ei:((0:Int)+(k:Int))*((bs.map V.int).length:Int)+(0+(i:Int))=((k*bs.length+i:Nat):Int):=by rw[AC,Int.natCast_add,Int.natCast_mul,Int.zero_add,Int.zero_add]
    have hbi:bs[i]?=some bs[i]:=AD hi
    refine⟨_,rfl,_,rfl,_,rfl,_,_,rfl,.inl ⟨_,s0x.seq hB,rfl⟩,_,_,rfl,rfl,.inl ⟨by omega,by omega⟩,_,rfl,_,_,rfl,rfl,a,_,_,_,rfl,rfl,s0x.seq hA,(by rw[ei];exact bC hki),?_⟩
    refine⟨_,rfl,_,_,rfl,rfl,(show(0:Int)<5 by decide),_,rfl,_,_,rfl,rfl,_,rfl,pD (fun le=>?_) fun _=>?_⟩
    ·refine⟨_,rfl,.inl ⟨rfl,_,SqL.of hpx⟩,_,rfl,_,rfl,b,_,_,_,rfl,rfl,s0x.seq hB,(by rw[show(0:Int)+(i:Int)=((i:Nat):Int) by omega];exact bC hi),_,rfl,_,_,rfl,rfl,(show gC _ 5 from⟨by decide,by decide⟩),_,rfl,_,_,rfl,rfl,tp0,bM,fun t nt=>?_⟩
     have hpt:p≠t:=bf hpx nt
     have stx:=Same.new (o:= .tup [.int (bs.getD i 0),.int (cs.getD (k*bs.length+i) 0/5%tp)]) nt
     have hpx':=stx _ _ hpx
     refine⟨p,_,_,rfl,rfl,hpx',mK (by rw[AC,tx.len];omega),?_⟩
     have w1:=B2 (cs.getD (k*bs.length+i) 0/5) (show tp≠0 by omega)
     have w2:=B0 (cs.getD (k*bs.length+i) 0/5) tp0
     have eg:bs.getD i 0=bs[i]:=by rw[AE,hbi];rfl
     refine⟨_,_,ps++[t],row++[(bs.getD i 0,cs.getD (k*bs.length+i) 0/5%tp)],rfl,(sx.trans stx).put np,by rw[af,AW];rfl,TupsL.but (bE (tx.same stx) (show b4 _ t (bs.getD i 0,cs.getD (k*bs.length+i) 0/5%tp)from af)) hpx',?_,?_,by rw[AK,AS];omega⟩
     ·rw [AW]
      refine rf ux fun y hy=>?_
      obtain⟨x,hx,rfl⟩:=Br.mp hy
      show x.1<bs.getD i 0
      rw[eg]
      exact wB up hbi _ (ix x hx).1
     ·intro x hx
      rw[BO,hbi]
      rcases AZ.mp hx with z | z
      ·exact⟨BM _ (ix x z).1,(ix x z).2⟩
      ·rw [AN.mp z]
       exact⟨Bc _ (by rw[eg];simp),w1,w2⟩
    ·refine⟨_,_,ps,row,rfl,sx,hpx,tx,ux,fun x hx=>⟨?_,(ix x hx).2⟩,by omega⟩
     rw[BO]
     exact BM _ (ix x hx).1
   rintro σ H2 ⟨x3,x4,ps,row,rfl,s2,hp2,t2,u2,i2,l2⟩
   rw[Bg]at i2
   have hl2:=s2 _ _ hlk
   refine⟨_,rfl,.inl ⟨rfl,_,SqL.of hl2⟩,_,rfl,l,_,_,rfl,rfl,hl2,mK (by rw[AC,bk.len];omega),?_⟩
   have nrl:l∉rs:=fun z=>(nr l z).2 rfl
   refine⟨_,_,_,_,rs++[p],rows++[row],rfl,(sk.trans s2).put nl,by rw[af,AW];rfl,?_,by rw[AK,AS,lr],?_,?_⟩
   ·exact bE ((bk.same s2).but hl2 nrl) (RowAt.but ⟨ps,hp2,t2⟩ hl2 fun z=>hlp z.symm)
   ·intro r hr
    rcases AZ.mp hr with z | z
    ·exact nr r z
    ·rw [AN.mp z];exact⟨sk.free np,fun z=>hlp z.symm⟩
   ·intro x hx
    rcases AZ.mp hx with z | z
    ·exact ok x z
    ·rw [AN.mp z];exact⟨u2,i2,l2⟩
  rintro σ H2 ⟨x1,x2,x3,x4,rs,rows,rfl,s2,hl2,b2,lr,nr,ok⟩
  exact⟨_,rfl,q l rs rows H2 s2 nl hl2 b2 lr (fun r hr=>(nr r hr).1) ok⟩
theorem wQ (c:Int):∃d:Int,lL [V.int 2,V.int 3,V.int 6] (c%3)=some (.int d)/\0<d/\d<=6:=by
 rcases(show c%3=0\/c%3=1\/c%3=2 by omega)with e | e | e
 ·rw [e];exact⟨2,rfl,by decide,by decide⟩
 ·rw [e];exact⟨3,rfl,by decide,by decide⟩
 ·rw [e];exact⟨6,rfl,by decide,by decide⟩
def jD (K:PySem.W.Frag):Sp:=fun vs H Q _=>∃(c:Addr) (cs:List Int) (cn:Nat),vs=[.ref c,.int (cn:Int)]/\SqL K H c (cs.map V.int)/\cs.length<=200/\1<=cn/\cn<=6/\∀(l:Addr) (ts:List (Addr×Addr×Str×Int×List Nat)) (H':Hp),Same H H'->H l=none->H' l=some (.lst (ts.map fun x=>V.ref x.1))->(∀x∈ts,TieT H' x/\TieG cn x)->ts.length=cs.length/3->Q (.ref l) H'
theorem dC:FnScope ["cells","count","ties","k","steps"] ["cells","count"] (ar hE):=⟨rfl,rfl,rfl,by decide +kernel,rfl,by decide +kernel,by decide +kernel⟩
theorem o9 (D:Dfs K mg aF dF) (T:Txt mg):FnOk P w K mg base aX 1 (aF 34) (dF 34) ["cells","count"] (jD K):=by
 refine D.law_ties.fn.ok dC (fun vs H Q E h=>?_) (fun cdv A outer s H vs Q E hr h=>?_)
 ·obtain⟨c,cs,cn,rfl,_⟩:=h;rfl
 ·have hu:=be hr
  obtain⟨c,cs,cn,rfl,hc,c200,c1,c6,q⟩:=h
  refine⟨_,(ag (ax (i:=2) dC.nd rfl (Or.inl rfl) (aA ab))
   (ag (bH PassesOwn.never rfl (qw rfl T.z_range (aa ae (aa (ak cW (ai (bx K) (by rfl) T.z_len boot_len (aa (pv 0) ab)) ae) (aa ae ab)))) (aq (i:=3) dC.nd rfl (Or.inr rfl))
    (ag (b9 (i₀:=4) dC.nd rfl (Or.inl rfl) ["step","cells","k"] [none,some 0,some 3] rfl (aY rfl T.z_range (aa (pv 1) ab)) (fun _=>aq (i:=0) (aB (N:=["step","cells","k"]) (by decide +kernel)) rfl (Or.inl rfl)) (fun _=>fz (av bj (ak aK (ak xw (ao (cU K) (pv 1) (pv 2) (fun _ _=>rfl)) (pv 0)) ae) ae (aw _))) (fun _=>(pv 0)) ((.cons (fun _ e=>by cases e) (.cons (fun _ e=>by cases e;exact⟨rfl,rfl⟩) (.cons (fun _ e=>by cases e;exact⟨rfl,rfl⟩) .nil)))))
    (df (az (av (zY K hr.units) (pv 4) (aA ab) (aw _))
     (ah (ax (i:=4) dC.nd rfl (Or.inl rfl) (aA (aa (ak aK (ao (cU K) (pv 0) (ak aG (pv 3) ae) (fun _ _=>rfl)) (pv 1)) ab))))
     au)
    (ah (az (av bj (ak aK (ak bX (ao (cU K) (pv 0) (ak aG (pv 3) ae) (fun _ _=>rfl)) ae) ae) ae (aw _))
     (ah (c4 (fL PySem.F.plainAttrs_list PySem.F.slot_list_append PySem.F.type_list_append bO (pv 2) (aa (aM (aa aP (aa (ai (rK rfl) (by rfl) T.z_min boot_min (aa ae (aa (ak aG ae (ak aK (ao (cU K) (pv 0) (ak aG (pv 3) ae) (fun _ _=>rfl)) (ak aG (ai (bx K) (by rfl) T.z_len boot_len (aa (pv 4) ab)) ae))) ab))) (aa (aI gF (by rfl) T.z_tuple boot_tuple (aa (pv 4) ab)) ab)))) ab))))
     (ah (c4 (fL PySem.F.plainAttrs_list PySem.F.slot_list_append PySem.F.type_list_append bO (pv 2) (aa (aM (aa aP (aa (ak aG ae (ak aK (ao (cU K) (pv 0) (ak aG (pv 3) ae) (fun _ _=>rfl)) (ao (cU K) (aA (aa ae (aa ae (aa ae ab)))) (ak aK (ak bX (ao (cU K) (pv 0) (ak aG (pv 3) ae) (fun _ _=>rfl)) ae) ae) (fun _ _=>rfl)))) (aa (aI gF (by rfl) T.z_tuple boot_tuple (aa (pv 4) ab)) ab)))) ab)))))))))
   (ah (aj (pv 2))))),?_⟩
  refine⟨bM,fun l nl=>?_⟩
  have sn:=Same.new (o:= .lst []) nl
  refine⟨_,rfl,_,cs.length,rfl,.inl ⟨_,sn.seq hc,by rw[AC]⟩,_,_,rfl,rfl,0,(cs.length:Int)-2,3,rfl,by decide,by decide,by omega,by omega,by decide,by decide,?_⟩
  obtain⟨n,en,hn⟩:∃n:Nat,(if(0:Int)<(cs.length:Int)-2 then((cs.length:Int)-2-0-1)/3+1 else 0).toNat=n/\n=cs.length/3:=⟨_,rfl,by split<;>omega⟩
  rw[en]
  refine uD (n:=n) (fun i σ Hx=>∃(x y:Option V) (ts:List (Addr×Addr×Str×Int×List Nat)),σ=[some (.ref c),some (.int (cn:Int)),some (.ref l),x,y]/\Same H Hx/\Hx l=some (.lst (ts.map fun x=>V.ref x.1))/\(∀x∈ts,TieT Hx x/\TieG cn x)/\ts.length=i) ⟨none,none,[],rfl,sn,af,(fun _ z=>by cases z),rfl⟩ ?_ ?_
  ·rintro i σ Hx hi ⟨x,y,ts,rfl,sx,hl,tt,tl⟩
   have i3:3*i+2<cs.length:=by omega
   have ek:(0:Int)+(i:Int)*3=((3*i:Nat):Int):=by omega
   rw[ek]
   have a0:lL (cs.map V.int) ((3*i:Nat):Int)=some (.int (cs.getD (3*i) 0)):=bC (by omega)
   have a1:lL (cs.map V.int) (((3*i:Nat):Int)+1)=some (.int (cs.getD (3*i+1) 0)):=bC (j:=3*i+1) (by omega)
   have a2:lL (cs.map V.int) (((3*i:Nat):Int)+2)=some (.int (cs.getD (3*i+2) 0)):=bC (j:=3*i+2) i3
   generalize cs.getD (3*i) 0=d0 at a0
   generalize cs.getD (3*i+1) 0=d1 at a1
   generalize cs.getD (3*i+2) 0=d2 at a2
   refine⟨_,rfl,_,rfl,gD _,by omega,?_⟩
   rw[Ba]
   refine i6 (n:=cn) (fun j=>decide (d0/2^j%2=1)) (by omega) (fun j hj H3 R s3 k=>?_) (fun j hj H3 R k=>?_) fun sl H3 s3 nsl hsl=>?_
   ·have ei:(0:Int)+(j:Int)=((j:Nat):Int):=by omega
    rw[ei]
    have kk:∀H4,Same H3 H4->R (decide (d0/2^j%2=1)) H4:=k
    refine⟨_,rfl,_,rfl,c,_,_,_,rfl,rfl,(sx.trans s3).seq hc,a0,_,rfl,_,_,rfl,rfl,(show(0:Int)<=(j:Int) by omega),_,_,rfl,rfl,(show(0:Int)<2 by decide),rfl,_,rfl,?_⟩
    have z:=kk H3 (Same.refl _)
    rw[<- zO]at z
    exact z
   ·have ei:(0:Int)+(j:Int)=((j:Nat):Int):=by omega
    rw[ei]
    exact⟨_,rfl,k⟩
   have hst:∀j∈((AH cn).filter fun j=>decide (d0/2^j%2=1)),j<cn:=fun j hj=>Bb.mp (Bj.mp hj).1
   have hup:((AH cn).filter fun j=>decide (d0/2^j%2=1)).Pairwise (· < ·):=List.Pairwise.filter _ List.pairwise_lt_range
   have hle:((AH cn).filter fun j=>decide (d0/2^j%2=1)).length<=6:=A9 (Bh _ _) (by rw[Bm];exact c6)
   generalize (AH cn).filter (fun j=>decide (d0/2^j%2=1))=st at hsl hst hup hle
   refine⟨fun σ H5=>∃(sl':Addr) (st:List Nat),σ=[some (.ref c),some (.int (cn:Int)),some (.ref l),some (.int ((3*i:Nat):Int)),some (.ref sl')]/\Same Hx H5/\H5 sl'=some (.lst (st.map fun(i:Nat)=>V.int (i:Int)))/\st≠[]/\(∀i∈st,i<cn)/\st.Pairwise (· < ·)/\st.length<=6,?_,?_⟩
   ·refine⟨_,rfl,bM,fun p np=>?_⟩
    have s4:=Same.new (o:= .lst []) np
    have s04:=s3.trans s4
    cases hs:st with
    | nil=>
     rw[hs]at hsl
     refine⟨1,true,mM (SqL.of (s4 _ _ hsl)) (SqL.of af),by decide,rfl,_,rfl,bP ?_⟩
     obtain⟨m,hm,em⟩:=sP d1 (n:=cn) (by omega)
     refine⟨_,rfl,_,rfl,_,_,rfl,rfl,c,_,_,_,rfl,rfl,(sx.trans s04).seq hc,a1,_,rfl,_,_,rfl,rfl,(show(0:Int)<((cn:Nat):Int) by omega),bM,fun l2 nl2=>?_⟩
     refine⟨l2,[m],rfl,s04.to nl2,?_,by simp,fun i hi=>by rw[AN.mp hi];exact hm,B5 _ _,by simp⟩
     rw[af]
     dsimp only
     rw[em]
     rfl
    | cons j r=>
     rw[hs]at hsl
     refine⟨1,false,mM (SqL.of (s4 _ _ hsl)) (SqL.of af),by decide,rfl,_,rfl,aE ?_⟩
     rw[hs]at hst hup hle
     exact⟨sl,j :: r,rfl,s04,s4 _ _ hsl,by simp,hst,hup,hle⟩
   ·rintro σ H5 ⟨sl',st,rfl,s5,hsl,sne,slt,sup,sle⟩
    have s05:=sx.trans s5
    have hl5:=s5 _ _ hl
    have tt5:∀x∈ts,TieT H5 x/\TieG cn x:=fun x hx=>⟨(tt x hx).1.same s5,(tt x hx).2⟩
    have fin:∀(wd:Str) (k:Int) (t tp:Addr) (H6:Hp),(wd="most"\/wd="least")->1<=k->k<=6->Same H5 H6->H6 t=none->ay H6 t (.tup (st.map fun(i:Nat)=>V.int (i:Int))) tp=none->∀H7,H7=ay (ay H6 t (.tup (st.map fun(i:Nat)=>V.int (i:Int)))) tp (.tup [.str wd,.int k,.ref t])->
      Same H5 H7/\TieT H7 (tp,t,wd,k,st)/\TieG cn (tp,t,wd,k,st):=fun wd k t tp H6 hw k1 k6 s6 nt ntp H7 e7=>by
     have ntt:t≠tp:=fun z=>by rw[<- z,af]at ntp;cases ntp
     subst e7
     exact⟨(s6.to nt).to ntp,⟨af,by show ay _ tp _ t=_;rw[aC ntt];exact af,hw,sle⟩,⟨k1,k6,sne,slt,sup⟩⟩
    have put:∀(z:Addr×Addr×Str×Int×List Nat) (H7:Hp),Same H5 H7->TieT H7 z->TieG cn z->∃(x y:Option V) (ts':List (Addr×Addr×Str×Int×List Nat)),[some (V.ref c),some (.int (cn:Int)),some (.ref l),some (.int ((3*i:Nat):Int)),some (.ref sl')]=[some (.ref c),some (.int (cn:Int)),some (.ref l),x,y]/\Same H (ay H7 l (.lst (ts.map (fun x=>V.ref x.1)++[V.ref z.1])))/\ay H7 l (.lst (ts.map (fun x=>V.ref x.1)++[V.ref z.1])) l=some (.lst (ts'.map fun x=>V.ref x.1))/\(∀x∈ts',TieT (ay H7 l (.lst (ts.map (fun x=>V.ref x.1)++[V.ref z.1]))) x/\TieG cn x)/\ts'.length=i+1:=fun z H7 s7 tz gz=>
     ⟨_,_,ts++[z],rfl,(s05.trans s7).put nl,by rw[af,AW];rfl,fun x hx=>by
      have h7:=s7 _ _ hl5
      rcases AZ.mp hx with y | y
      ·exact⟨((tt5 x y).1.same s7).put h7,(tt5 x y).2⟩
      ·rw [AN.mp y];exact⟨tz.put h7,gz⟩,by rw[AK,AS,tl]⟩
    have tl100:ts.length<100000:=by omega
    refine⟨_,rfl,_,rfl,_,_,rfl,rfl,c,_,_,_,rfl,rfl,s05.seq hc,a1,_,_,rfl,rfl,(show gC _ 6 from⟨by decide,by decide⟩),_,_,rfl,rfl,(show(0:Int)<2 by decide),rfl,_,rfl,gS (fun _=>?_) fun _=>?_⟩
    ·have k0:=B2 d2 (show(st.length:Int)+1≠0 by omega)
     refine⟨_,rfl,.inl ⟨rfl,_,SqL.of hl5⟩,_,rfl,_,rfl,_,_,rfl,rfl,c,_,_,_,rfl,rfl,s05.seq hc,a2,_,rfl,_,st.length,rfl,.inl ⟨_,SqL.of hsl,by rw[AC]⟩,_,_,rfl,rfl,_,_,rfl,rfl,(show(0:Int)<(st.length:Int)+1 by omega),_,_,rfl,rfl,_,_,rfl,_,rfl,sl',_,rfl,.inl ⟨SqL.of hsl,fun t nt=>⟨bM,fun tp ntp=>?_⟩⟩⟩
     obtain⟨s7,tz,gz⟩:=fin "least" (if 1+d2%((st.length:Int)+1)<6 then 1+d2%((st.length:Int)+1)else 6) t tp H5 (.inr rfl) (by split<;>omega) (by split<;>omega) (Same.refl _) nt ntp _ rfl
     have h7:=s7 _ _ hl5
     exact⟨l,_,_,rfl,rfl,h7,mK (by rw[AC];exact tl100),put _ _ s7 tz gz⟩
    ·obtain⟨dm,hdm,m0,m6⟩:=wQ (d2/6)
     have k1:=B2 d2 (show dm≠0 by omega)
     have k2:=B0 d2 m0
     refine⟨_,rfl,.inl ⟨rfl,_,SqL.of hl5⟩,_,rfl,_,rfl,_,_,rfl,rfl,c,_,_,_,rfl,rfl,s05.seq hc,a2,bM,fun pa npa=>?_⟩
     have s6:=Same.new (o:= .lst [V.int 2,V.int 3,V.int 6]) npa
     refine⟨_,rfl,_,rfl,_,_,rfl,rfl,c,_,_,_,rfl,rfl,(s05.trans s6).seq hc,a2,_,_,rfl,rfl,(show gC _ 6 from⟨by decide,by decide⟩),_,_,rfl,rfl,(show(0:Int)<3 by decide),pa,_,_,_,rfl,rfl,SqL.of af,hdm,_,_,rfl,rfl,m0,_,_,rfl,rfl,_,rfl,sl',_,rfl,.inl ⟨SqL.of (s6 _ _ hsl),fun t nt=>⟨bM,fun tp ntp=>?_⟩⟩⟩
     obtain⟨s7,tz,gz⟩:=fin "most" _ t tp _ (.inl rfl) (show(1:Int)<=1+d2%dm by omega) (by omega) s6 nt ntp _ rfl
     have h7:=s7 _ _ hl5
     exact⟨l,_,_,rfl,rfl,h7,mK (by rw[AC];exact tl100),put _ _ s7 tz gz⟩
  ·rintro σ Hx ⟨x,y,ts,rfl,sx,hl,tt,tl⟩
   exact⟨_,rfl,q l ts Hx sx nl hl tt (by omega)⟩
def jE (K:PySem.W.Frag):Sp:=fun vs H Q _=>∃(a sa ta:Addr) (ns:List Int) (sz:List (Int×Int)) (tl:List Int),vs=[.ref a,.ref sa,.ref ta]/\SqL K H a (ns.map V.int)/\ns.length<=63/\RowAt H sa sz/\0<sz.length/\(∀x∈sz,1<=x.1/\x.1<=6/\1<=x.2/\x.2<=20)/\SqL K H ta (tl.map V.int)/\0<tl.length/\(∀x∈tl,0<x)/\
 ∀(t l y:Addr) (rs:List Addr) (rows:cw) (bs:List Int) (ts:List (Addr×Addr×Str×Int×List Nat)) (tp:Int) (H':Hp),Same H H'->H t=none->H' t=some (.tup [.ref l,.ref y])->H l=none->H' l=some (.lst (rs.map V.ref))->BillL H' rs rows->(∀r∈rs,H r=none)->(∃x∈sz,(rows.length:Int)=x.1/\(bs.length:Int)=x.2)->BillOk rows bs->(∀row∈rows,RowOk bs tp row)->tp∈tl->H y=none->H' y=some (.lst (ts.map fun x=>V.ref x.1))->(∀x∈ts,TieT H' x/\TieG rows.length x)->ts.length<=12->Q (.ref t) H'
theorem bA:FnScope ["script","sizes","tops","head","count","many","bonds","here","cells","gap","badges","dense","top"] ["script","sizes","tops"] (ar hU):=⟨rfl,rfl,rfl,by decide +kernel,rfl,by decide +kernel,by decide +kernel⟩
theorem pb (D:Dfs K mg aF dF) (T:Txt mg):FnOk P w K mg base aX 2 (aF 35) (dF 35) ["script","sizes","tops"] (jE K):=by
 have Glaw_cell:FnOk P w K mg base aX 1 (aF 29) (dF 29) ["script","k"] (gq K):=jB D T
 have Glaw_entries:FnOk P w K mg base aX 1 (aF 30) (dF 30) ["script","size"] (gu K):=kR D T
 have Glaw_badges:FnOk P w K mg base aX 1 (aF 32) (dF 32) ["cells","gap","high"] (gM K):=lB D T
 have Glaw_bill:FnOk P w K mg base aX 1 (aF 33) (dF 33) ["cells","badges","dense","top","count"] (jC K):=o8 D T
 have Glaw_ties:FnOk P w K mg base aX 1 (aF 34) (dF 34) ["cells","count"] (jD K):=o9 D T
 refine D.law_case.fn.ok bA (fun vs H Q E h=>?_) (fun cdv A outer s H vs Q E hr h=>?_)
 ·obtain⟨a,sa,ta,ns,sz,tl,rfl,_⟩:=h;rfl
 ·have hu:=be hr
  obtain⟨a,sa,ta,ns,sz,tl,rfl,hS,hl,hsz,szp,szo,htl,tlp,tlo,q⟩:=h
  refine⟨_,(ag (b9 (i₀:=3) bA.nd rfl (Or.inl rfl) ["k","script"] [none,some 0] rfl (aY rfl T.z_range (aa ae ab)) (fun _=>aq (i:=0) (aB (N:=["k","script"]) (by decide +kernel)) rfl (Or.inl rfl)) (fun _=>aJ) (fun _=>(pc D.law_cell Glaw_cell (hr.mono (by decide)) (aa (pv 1) (aa (pv 0) ab)))) ((.cons (fun _ e=>by cases e) (.cons (fun _ e=>by cases e;exact⟨rfl,rfl⟩) .nil))))
   (ag (iW (ao (cU K) (pv 1) (ak aK (ao (cU K) (pv 3) ae (fun _ _=>rfl)) (ai (bx K) (by rfl) T.z_len boot_len (aa (pv 1) ab))) (fun _ _=>rfl)) (vE K rfl (bc (aq (i:=4) bA.nd rfl (Or.inl rfl)) (bc (aq (i:=5) bA.nd rfl (Or.inl rfl)) c7))))
   (ag (ax (i:=6) bA.nd rfl (Or.inl rfl) (ao (cU K) (aA (aa ae (aa ae (aa ae (aa ae (aa ae (aa ae (aa ae (aa ae ab))))))))) (ak aK (ao (cU K) (pv 3) ae (fun _ _=>rfl)) ae) (fun _ _=>rfl)))
   (ag (ax (i:=7) bA.nd rfl (Or.inl rfl) (ak gR (pv 4) (pv 5)))
   (ag (ax (i:=8) bA.nd rfl (Or.inl rfl) (pc D.law_entries Glaw_entries (hr.mono (by decide)) (aa (pv 0) (aa (ak aG (ak aG (pv 7) (pv 5)) (ak gR ae (pv 6))) ab))))
   (ag (ax (i:=9) bA.nd rfl (Or.inl rfl) (ao (cU K) (aA (aa ae (aa ae (aa ae (aa (ak gR ae (ak fK ae ae)) ab))))) (ak aK (ao (cU K) (pv 3) ae (fun _ _=>rfl)) ae) (fun _ _=>rfl)))
   (ag (ax (i:=10) bA.nd rfl (Or.inl rfl) (pc D.law_badges Glaw_badges (hr.mono (by decide)) (aa (cK (wa K) (pv 8) (c8 (pv 7)) (c8 (ak aG (pv 7) (pv 5)))) (aa (pv 9) (aa (ak aK (ak bX (ao (cU K) (pv 3) ae (fun _ _=>rfl)) ae) ae) ab)))))
   (ag (ax (i:=11) bA.nd rfl (Or.inl rfl) (ao (cU K) (aA (aa ae (aa ae (aa ae (aa ae (aa ae ab)))))) (ak aK (ak bX (ao (cU K) (pv 3) ae (fun _ _=>rfl)) ae) ae) (fun _ _=>rfl)))
   (ag (ax (i:=12) bA.nd rfl (Or.inl rfl) (ao (cU K) (pv 2) (ak aK (ak bX (ao (cU K) (pv 3) ae (fun _ _=>rfl)) ae) (ai (bx K) (by rfl) T.z_len boot_len (aa (pv 2) ab))) (fun _ _=>rfl)))
   (ah (aj (aM (aa (pc D.law_bill Glaw_bill (hr.mono (by decide)) (aa (pv 8) (aa (pv 10) (aa (pv 11) (aa (pv 12) (aa (pv 4) ab)))))) (aa (pc D.law_ties Glaw_ties (hr.mono (by decide)) (aa (cK (wa K) (pv 8) (c8 (ak aG (pv 7) (pv 5))) eB) (aa (pv 4) ab))) ab)))))))))))))),?_⟩
  refine⟨_,rfl,by decide,by decide,?_⟩
  refine j7 (n:=4) (fun k=> .int (ns.getD k 0)) (by decide) (fun i hi H2 R s2 k=>?_) fun hd H1 s1 nhd hhd=>?_
  ·have ei:(0:Int)+(i:Int)=((i:Nat):Int):=by omega
   rw[ei]
   exact⟨_,rfl,_,rfl,a,ns,i,rfl,s2.seq hS,k H2 (Same.refl _)⟩
  have hg:∀j:Nat,j<4->lL ((AH 4).map fun k=>V.int (ns.getD k 0)) (j:Int)=some (.int (ns.getD j 0)):=fun j hj=>bw (by simp[hj])
  have g0:lL ((AH 4).map fun k=>V.int (ns.getD k 0)) 0=some (.int (ns.getD 0 0)):=hg 0 (by decide)
  have g1:lL ((AH 4).map fun k=>V.int (ns.getD k 0)) 1=some (.int (ns.getD 1 0)):=hg 1 (by decide)
  have g2:lL ((AH 4).map fun k=>V.int (ns.getD k 0)) 2=some (.int (ns.getD 2 0)):=hg 2 (by decide)
  generalize (AH 4).map (fun k=>V.int (ns.getD k 0))=hL at hhd g0 g1 g2
  generalize ns.getD 0 0=d0 at g0
  generalize ns.getD 1 0=d1 at g1
  generalize ns.getD 2 0=d2 at g2
  clear hg
  obtain⟨ss,hss,tss⟩:=hsz.same s1
  have ssl:ss.length=sz.length:=tss.len
  obtain⟨im,him,eim⟩:=sP d0 szp
  obtain⟨sp,hsp⟩:∃sp,ss[im]?=some sp:=⟨_,AD (by omega)⟩
  obtain⟨z,hz,ez⟩:=bG tss hsp
  have zm:=AJ hz
  obtain⟨z1,z2,z3,z4⟩:=szo z zm
  have hat:lL (ss.map V.ref) (d0%(sz.length:Int))=some (.ref sp):=by
   rw[eim]
   exact bw (by rw[AG,hsp];rfl)
  refine⟨_,rfl,_,rfl,hd,_,_,_,rfl,rfl,SqL.of hhd,g0,_,rfl,_,sz.length,rfl,.inl ⟨_,SqL.of hss,by rw[AC,ssl]⟩,_,_,rfl,rfl,(show(0:Int)<(sz.length:Int) by omega),sa,_,_,_,rfl,rfl,SqL.of hss,hat,sp,_,rfl,SqT.of ez,rfl,_,_,rfl,_,_,rfl,rfl,?_⟩
  obtain⟨cn,ec⟩:∃cn:Nat,z.1=(cn:Int):=⟨z.1.toNat,by omega⟩
  obtain⟨mn,em⟩:∃mn:Nat,z.2=(mn:Int):=⟨z.2.toNat,by omega⟩
  rw[ec,em]
  have c1:1<=cn:=by omega
  have c6:cn<=6:=by omega
  have m20:mn<=20:=by omega
  refine⟨bM,fun p np=>?_⟩
  obtain⟨bd,hbd,bm⟩:=dS [0,1,2,3,1,2,4,12] d1 (n:=8) rfl (by decide)
  have sp1:=Same.new (o:= .lst [.int 0,.int 1,.int 2,.int 3,.int 1,.int 2,.int 4,.int 12]) np
  have s01:=s1.trans sp1
  have hhd1:=sp1 _ _ hhd
  refine⟨_,rfl,hd,_,_,_,rfl,rfl,SqL.of hhd1,g1,_,_,rfl,rfl,(show(0:Int)<8 by decide),p,_,_,_,rfl,rfl,SqL.of af,hbd,?_⟩
  generalize ay H1 p (.lst [.int 0,.int 1,.int 2,.int 3,.int 1,.int 2,.int 4,.int 12])=H2 at s01 hhd1
  obtain⟨bn,eb,b12⟩:∃bn:Nat,bd=(bn:Int)/\bn<=12:=by
   simp only[AR,A4,or_false]at bm
   exact⟨bd.toNat,by omega,by omega⟩
  subst eb
  refine⟨_,rfl,_,rfl,_,_,rfl,rfl,.inl ⟨by omega,by omega⟩,?_⟩
  have h120:cn*mn<=120:=Nat.mul_le_mul c6 m20
  have eh:(cn:Int)*(mn:Int)=((cn*mn:Nat):Int):=(Int.natCast_mul ..).symm
  dsimp only
  rw[eh]
  have ecm:cn*mn<=cn*mn:=AI _
  generalize hrE:cn*mn=hr' at h120 ecm
  refine⟨_,rfl,_,rfl,_,rfl,_,_,rfl,rfl,_,rfl,_,_,rfl,rfl,(show CMul 3 _ from .inl ⟨by decide,by decide⟩),_,_,rfl,rfl,a,ns,hr'+mn+3*bn,(by show [V.ref a,V.int ((hr':Int)+mn+3*bn)]=_;rw[show((hr'+mn+3*bn:Nat):Int)=(hr':Int)+mn+3*bn by omega]),s01.seq hS,by omega,by omega,by omega,fun cl cs H3 s3 ncl hcl lcs=>?_⟩
  have s03:=s01.trans s3
  have hhd3:=s3 _ _ hhd1
  walk_at "go"
  refine⟨bM,fun p2 np2=>?_⟩
  obtain⟨gp,hgp,gm⟩:=dS [1,3,40,5*10^16] d2 (n:=4) rfl (by decide)
  have sp2:=Same.new (o:= .lst [.int 1,.int 3,.int 40,.int (5*10^16)]) np2
  have hhd4:=sp2 _ _ hhd3
  refine⟨_,rfl,hd,_,_,_,rfl,rfl,SqL.of hhd4,g2,_,_,rfl,rfl,(show(0:Int)<4 by decide),p2,_,_,_,rfl,rfl,SqL.of af,hgp,?_⟩
  clear sp2 hhd4
  generalize hE4:ay H3 p2 _=H4
  have sp2:Same H3 H4:=hE4▸Same.new np2
  have hhd4:=sp2 _ _ hhd3
  have hcl4:=sp2 _ _ hcl
  have s04:=s03.trans sp2
  have gpb:0<gp/\gp<=50000000000000000:=by
   simp only[AR,A4,or_false]at gm
   omega
  refine⟨_,rfl,_,rfl,_,rfl,_,rfl,_,rfl,_,_,rfl,rfl,_,rfl,cl,_,rfl,SqL.of hcl4,fun c5 nc5=>?_⟩
  have ecut:b8 (cs.map V.int) (some (hr':Int)) (some ((hr':Int)+(mn:Int)))=((cs.drop hr').take mn).map V.int:=by
   rw[show(hr':Int)+(mn:Int)=((hr'+mn:Nat):Int) by omega,wb,Nat.add_sub_cancel_left,List.map_take,List.map_drop]
  rw[ecut]
  have lcut:((cs.drop hr').take mn).length=mn:=by rw[BE,Bx];omega
  have sp5:=Same.new (o:= .lst (((cs.drop hr').take mn).map V.int)) nc5
  have hhd5:=sp5 _ _ hhd4
  have hcl5:=sp5 _ _ hcl4
  have s05:=s04.trans sp5
  have hc5:ay H4 c5 (.lst (((cs.drop hr').take mn).map V.int)) c5=some (.lst (((cs.drop hr').take mn).map V.int)):=af
  generalize ay H4 c5 (.lst (((cs.drop hr').take mn).map V.int))=H5 at hhd5 hcl5 s05 hc5
  generalize (cs.drop hr').take mn=cs' at lcut hc5
  refine⟨_,rfl,_,rfl,hd,_,_,_,rfl,rfl,SqL.of hhd5,g2,_,_,rfl,rfl,(show gC _ 4 from⟨by decide,by decide⟩),_,_,rfl,rfl,(show(0:Int)<2 by decide),c5,cs',gp,_,rfl,SqL.of hc5,by omega,gpb.1,gpb.2,fun bdg bs H6 s6 nbd hbd6 lbs up b18=>?_⟩
  rw[lcut]at lbs
  have s06:=s05.trans s6
  have hhd6:=s6 _ _ hhd5
  have hcl6:=s6 _ _ hcl5
  refine⟨bM,fun p7 np7=>?_⟩
  obtain⟨dn,hdn,_⟩:=dS [3,4,1,2,4] (d2/8) (n:=5) rfl (by decide)
  have sp7:=Same.new (o:= .lst [.int 3,.int 4,.int 1,.int 2,.int 4]) np7
  have hhd7:=sp7 _ _ hhd6
  have hcl7:=sp7 _ _ hcl6
  have hbd7:=sp7 _ _ hbd6
  have s07:=s06.trans sp7
  refine⟨_,rfl,hd,_,_,_,rfl,rfl,SqL.of hhd7,g2,_,_,rfl,rfl,(show gC _ 8 from⟨by decide,by decide⟩),_,_,rfl,rfl,(show(0:Int)<5 by decide),p7,_,_,_,rfl,rfl,SqL.of af,hdn,?_⟩
  generalize ay H6 p7 (.lst [.int 3,.int 4,.int 1,.int 2,.int 4])=H7 at hhd7 hcl7 hbd7 s07
  obtain⟨tp,htp,tm⟩:=dS tl (d1/8) (n:=tl.length) rfl tlp
  refine⟨_,rfl,_,rfl,hd,_,_,_,rfl,rfl,SqL.of hhd7,g1,_,_,rfl,rfl,(show gC _ 8 from⟨by decide,by decide⟩),_,rfl,_,tl.length,rfl,.inl ⟨_,s07.seq htl,by rw[AC]⟩,_,_,rfl,rfl,(show(0:Int)<(tl.length:Int) by omega),ta,_,_,_,rfl,rfl,s07.seq htl,htp,?_⟩
  have lcs':cn*bs.length<=cs.length:=by rw[lbs,hrE];omega
  refine⟨_,rfl,_,rfl,_,rfl,_,rfl,_,rfl,cl,bdg,cs,bs,dn,tp,cn,rfl,SqL.of hcl7,SqL.of hbd7,up,tlo tp tm,c6,by omega,lcs',fun l rs rows H8 s8 nl hl8 bl8 lr nr ok=>?_⟩
  have hcl8:=s8 _ _ hcl7
  have s08:=s07.trans s8
  refine⟨_,rfl,_,rfl,_,rfl,_,_,rfl,rfl,_,rfl,cl,_,rfl,SqL.of hcl8,fun c9 nc9=>?_⟩
  have ecut9:b8 (cs.map V.int) (some ((hr':Int)+(mn:Int))) none=(cs.drop (hr'+mn)).map V.int:=by
   rw[show(hr':Int)+(mn:Int)=((hr'+mn:Nat):Int) by omega,ir,List.map_drop]
  rw[ecut9]
  have lcut9:(cs.drop (hr'+mn)).length=3*bn:=by rw[Bx];omega
  have s9:=Same.new (o:= .lst ((cs.drop (hr'+mn)).map V.int)) nc9
  have hc9:ay H8 c9 (.lst ((cs.drop (hr'+mn)).map V.int)) c9=some (.lst ((cs.drop (hr'+mn)).map V.int)):=af
  generalize ay H8 c9 (.lst ((cs.drop (hr'+mn)).map V.int))=H9 at s9 hc9
  refine⟨_,rfl,c9,cs.drop (hr'+mn),cn,rfl,SqL.of hc9,by omega,c1,c6,fun y ts H10 s10 ny hy tt tl3=>⟨bM,fun t nt=>?_⟩⟩
  have s1011:=Same.new (o:= .tup [.ref l,.ref y]) nt
  have s811:=(s9.trans s10).trans s1011
  refine q t l y rs rows bs ts tp _ (s08.trans s811) ((s08.trans (s9.trans s10)).free nt) af (s07.free nl) (s811 _ _ hl8) (bl8.same s811) (fun r hr=>s07.free (nr r hr)) ⟨z,zm,by rw[ec,lr],by rw[em,lbs]⟩ ⟨fun row hr=>(ok row hr).up,fun row hr x hx=>((ok row hr).inn x hx).1,fun row hr=>(ok row hr).len,up,fun b hb=>(b18 b hb).1⟩ ok tm ((s08.trans s9).free ny) (s1011 _ _ hy) (fun x hx=>⟨(tt x hx).1.same s1011,by rw[lr];exact(tt x hx).2⟩) (by omega)
def dD (K:PySem.W.Frag):Sp:=fun vs H Q _=>∃(a:Addr) (ps:List Int),vs=[.ref a]/\SqL K H a (ps.map V.int)/\ps.length<=6/\∀H',Same H H'->Q (.int (((dd ps).length:Nat):Int)) H'
theorem pd:FnScope ["pattern"] ["pattern"] (ar hX):=⟨rfl,rfl,rfl,by decide +kernel,rfl,by decide +kernel,by decide +kernel⟩
theorem eJ (D:Dfs K mg aF dF) (T:Txt mg):FnOk P w K mg base aX 1 (aF 36) (dF 36) ["pattern"] (dD K):=by
 refine D.law_wide.fn.ok pd (fun vs H Q E h=>?_) (fun cdv A outer s H vs Q E hr h=>?_)
 ·obtain⟨a,ps,rfl,_⟩:=h;rfl
 ·have hu:=be hr
  obtain⟨a,ps,rfl,ha,h6,q⟩:=h
  refine⟨_,(ah (aj (ai (qW w) (by rfl) T.z_len boot_len (aa (aI (mQ w K) (by rfl) T.z_set PyProof.Rows.boot_set (aa (pv 0) ab)) ab)))),?_⟩
  exact⟨_,rfl,a,ps,rfl,ha,by omega,fun S nS=>⟨S,_,rfl,af,q _ (Same.new nS)⟩⟩
def eK (K:PySem.W.Frag):Sp:=fun vs H Q _=>∃(b:Nat) (pa ba:Addr) (p:List Int) (rs:List Addr) (rows:List (List (Int×Int))),vs=[.int ((b:Nat):Int),.ref pa,.ref ba]/\SqL K H pa (p.map V.int)/\H ba=some (.lst (rs.map V.ref))/\BillL H rs rows/\bR p/\b<(dd p).length/\p.length<=rows.length/\rows.length<=6/\(∀row∈rows,row.length<=20/\(aD row).Nodup)/\
 ∀l H',Same H H'->H l=none->H' l=some (.lst ((bS rows (aU p b)).map V.int))->Q (.ref l) H'
theorem ph {rows:List (List (Int×Int))} {n:Nat} (h:∀row∈rows,row.length<=n):∀st,(bS rows st).length<=n:=by
 intro st
 by_cases z:st=[]
 ·rw [z];exact A0 _
 ·refine iJ (P:=fun st=>(bS rows st).length<=n) (fun s=>?_) (fun st s hne ih=>by rw[ff hne];exact A9 (Bh _ _) ih) st z
  show(aD (rows.getD s [])).length<=n
  unfold aD
  rw[AC,AE]
  cases e:rows[s]? with
  | none=>exact A0 _
  | some row=>exact h row (AJ e)
theorem y3 {l:List Int} {g:Int->Bool}:(((AH l.length).filter fun j=>g (l.getD j 0)).map fun j=>V.int (l.getD j 0))=(l.filter g).map V.int:=xg (d:=0) (F:=V.int)
theorem cJ:FnScope ["block","pattern","bill","found","k","here"] ["block","pattern","bill"] (ar hZ):=⟨rfl,rfl,rfl,by decide +kernel,rfl,by decide +kernel,by decide +kernel⟩
theorem gv (D:Dfs K mg aF dF) (T:Txt mg):FnOk P w K mg base aX 1 (aF 37) (dF 37) ["block","pattern","bill"] (eK K):=by
 refine D.law_pool.fn.ok cJ (fun vs H Q E h=>?_) (fun cdv A outer s H vs Q E hr h=>?_)
 ·obtain⟨b,pa,ba,p,rs,rows,rfl,_⟩:=h;rfl
 ·have hu:=be hr
  obtain⟨b,pa,ba,p,rs,rows,rfl,hp,hba,bl,c,hb,hl,r6,ok,q⟩:=h
  refine⟨_,(ag (ax (i:=3) cJ.nd rfl (Or.inl rfl) gP)
   (ag (bH PassesOwn.never rfl (aY rfl T.z_range (aa (ai (bx K) (by rfl) T.z_len boot_len (aa (pv 1) ab)) ab)) (aq (i:=4) cJ.nd rfl (Or.inl rfl))
    (ah (az (av bj (ao (cU K) (pv 1) (pv 4) (fun _ _=>rfl)) (pv 0) (aw _))
     (ag (ax (i:=5) cJ.nd rfl (Or.inr rfl) (aL ["pair"] [none] rfl (gG K (ao (cU K) (pv 2) (pv 4) (fun _ _=>rfl))) (fun _=>aq (i:=0) (aB (N:=["pair"]) (by decide +kernel)) rfl (Or.inl rfl)) (fun _=>aJ) (fun _=>(ao (cz K) (pv 0) ae (fun _ _=>rfl))) ((.cons (fun _ e=>by cases e) .nil))))
     (ah (az (av pI (pv 3) gP (aw _))
      (ah (ax (i:=3) cJ.nd rfl (Or.inl rfl) (pv 5)))
      (ah (b9 (i₀:=3) cJ.nd rfl (Or.inl rfl) ["badge","here"] [none,some 5] rfl (gG K (pv 3)) (fun _=>aq (i:=0) (aB (N:=["badge","here"]) (by decide +kernel)) rfl (Or.inl rfl)) (fun _=>fz (av (An K) (pv 0) (pv 1) (by with_unfolding_all rfl))) (fun _=>(pv 0)) ((.cons (fun _ e=>by cases e) (.cons (fun _ e=>by cases e;exact⟨rfl,rfl⟩) .nil))))))))
     au)))
   (ah (aj (pv 3))))),?_⟩
  refine⟨_,rfl,_,_,rfl,.inl ⟨_,hp,rfl⟩,_,rfl,gD _,by rw[AC];omega,?_⟩
  have e0:(((p.map V.int).length:Nat):Int).toNat=p.length:=by rw[AC];omega
  rw[e0]
  refine bW (n:=p.length) (fun i σ Hx=>∃(v:V) (x y:Option V),σ=[some (.int ((b:Nat):Int)),some (.ref pa),some (.ref ba),some v,x,y]/\Same H Hx/\((lq p (b:Int) i=[]/\v= .non)\/(lq p (b:Int) i≠[]/\∃l,v= .ref l/\H l=none/\Hx l=some (.lst ((bS rows (lq p (b:Int) i)).map V.int)))))
   ⟨.non,none,none,rfl,Same.refl _,.inl ⟨rfl,rfl⟩⟩ ?_ ?_
  ·rintro i σ Hx hi ⟨v,x,y,rfl,sx,hv⟩
   have ei:(0:Int)+(i:Int)=((i:Nat):Int):=by omega
   rw[ei]
   have bs:=sU p (b:Int) i
   refine⟨_,rfl,_,rfl,pa,_,_,_,rfl,rfl,sx.seq hp,bC hi,_,rfl,rfl,_,rfl,gS (fun e=>?_) fun ne=>?_⟩
   ·rw [if_pos e]at bs
    have hrw:rows[i]?=some (rows.getD i []):=by rw[AE,AD (by omega)];rfl
    have oki:=ok _ (AJ hrw)
    obtain⟨r,er,ps,hps,tps⟩:=(bl.same sx).at hrw
    generalize hRow:rows.getD i []=row at hrw oki tps
    have ptl:=tps.len
    refine⟨_,rfl,_,rfl,ba,_,_,_,rfl,rfl,SqL.of (sx _ _ hba),bw (by rw[AG,er];rfl),r,rfl,⟨_,SqL.of hps⟩,?_⟩
    refine bD (xs:=ps.map V.ref) (fun _=>true) (fun j=> .int (row.getD j (0,0)).1) (SqL.of hps) (by rw[AC];omega) (fun _ _ _ _ _ _ k=>k _ (Same.refl _)) (fun j x hx _ H2 R s2 k=>?_) fun nw H2 s2 nnw hnw=>?_
    ·rw [AG]at hx
     obtain⟨t,et,rfl⟩:=AL.mp hx
     obtain⟨x,ex,tx⟩:=bG tps et
     rw[AE,ex]at k
     exact⟨_,rfl,t,_,_,_,rfl,rfl,SqT.of (s2 _ _ tx),rfl,k H2 (Same.refl _)⟩
    rw[A8.mpr (fun _ _=>rfl),AC,ptl,fB (g:=fun x=>V.int x.1) fun i x hx=>by rw[AE,hx];rfl]at hnw
    have hnw:H2 nw=some (.lst ((aD row).map V.int)):=by rw[hnw];unfold aD;rw[A3];rfl
    have s02:=sx.trans s2
    rcases hv with⟨h1,rfl⟩ | ⟨h1,l,rfl,nl,hl1⟩
    ·refine⟨_,rfl,rfl,_,rfl,pD (fun _=>⟨_,rfl,.ref nw,_,_,rfl,s02,.inr ⟨by rw[bs];simp,nw,rfl,sx.free nnw,?_⟩⟩) fun z=>absurd rfl z⟩
     rw[bs,h1]
     show H2 nw=some (.lst ((aD (rows.getD i [])).map V.int))
     rw[hRow]
     exact hnw
    ·refine⟨_,rfl,rfl,_,rfl,pD (fun z=>by cases z) fun _=>?_⟩
     have hl2:=s2 _ _ hl1
     refine⟨_,rfl,l,rfl,⟨_,SqL.of hl2⟩,?_⟩
     have kl:=ph (fun row h=>(ok row h).1) (lq p (b:Int) i)
     generalize hks:bS rows (lq p (b:Int) i)=ks at hl2 kl
     refine bD (xs:=ks.map V.int) (fun j=>decide (ks.getD j 0∈aD row)) (fun j=> .int (ks.getD j 0)) (SqL.of hl2) (by rw[AC];omega) (fun j x hx H3 R s3 k=>?_) (fun j x hx _ H3 R s3 k=>?_) fun nf H3 s3 nnf hnf=>?_
     ·obtain⟨d,hd,rfl,ed⟩:=cN hx
      rw[ed]at k
      refine⟨_,rfl,_,rfl,nw,_,rfl,.inl (SqL.of (s3 _ _ hnw)),rfl,ou _,_,rfl,?_⟩
      rw[if_neg AO,qP]
      exact k H3 (Same.refl _)
     ·obtain⟨d,hd,rfl,ed⟩:=cN hx
      rw[ed]at k
      exact⟨_,rfl,k H3 (Same.refl _)⟩
     ·rw [AC,y3 (g:=fun b=>decide (b∈aD row))]at hnf
      refine⟨.ref nf,_,_,rfl,s02.trans s3,.inr ⟨by rw[bs];simp,nf,rfl,s02.free nnf,?_⟩⟩
      rw[bs,ff h1,hks,hRow]
      exact hnf
   ·rw [if_neg ne]at bs
    rw[<- bs]at hv
    exact⟨v,_,_,rfl,sx,hv⟩
  ·rintro σ Hx ⟨v,x,y,rfl,sx,hv⟩
   rw[u6]at hv
   rcases hv with⟨h1,_⟩ | ⟨h1,l,rfl,nl,hl1⟩
   ·exact absurd h1 (cM c hb)
   ·exact⟨_,rfl,q l Hx sx nl hl1⟩
def dY (K:PySem.W.Frag):Sp:=fun vs H Q _=>∃(g:Int) (b:Nat) (pa ba:Addr) (p:List Int) (rs:List Addr) (rows:cw),vs=[.int g,.int ((b:Nat):Int),.ref pa,.ref ba]/\SqL K H pa (p.map V.int)/\H ba=some (.lst (rs.map V.ref))/\BillL H rs rows/\p.length<=rows.length/\rows.length<=6/\(∀row∈rows,(aD row).Nodup)/\(∀s∈aU p b,g∈aD (rows.getD s []))/\∀H',Same H H'->Q (.int (iI rows (aU p b) g)) H'
theorem cT:FnScope ["badge","block","pattern","bill","total","k"] ["badge","block","pattern","bill"] (ar eU):=⟨rfl,rfl,rfl,by decide +kernel,rfl,by decide +kernel,by decide +kernel⟩
theorem gw (D:Dfs K mg aF dF) (T:Txt mg):FnOk P w K mg base aX 1 (aF 38) (dF 38) ["badge","block","pattern","bill"] (dY K):=by
 refine D.law_minutes.fn.ok cT (fun vs H Q E h=>?_) (fun cdv A outer s H vs Q E hr h=>?_)
 ·obtain⟨g,b,pa,ba,p,rs,rows,rfl,_⟩:=h;rfl
 ·have hu:=be hr
  obtain⟨g,b,pa,ba,p,rs,rows,rfl,hp,hb,bl,hl,r6,nd,gin,q⟩:=h
  refine⟨_,(ag (ax (i:=4) cT.nd rfl (Or.inl rfl) ae)
   (ag (bH PassesOwn.never rfl (aY rfl T.z_range (aa (ai (bx K) (by rfl) T.z_len boot_len (aa (pv 2) ab)) ab)) (aq (i:=5) cT.nd rfl (Or.inl rfl))
    (ah (az (av bj (ao (cU K) (pv 2) (pv 5) (fun _ _=>rfl)) (pv 1) (aw _))
     (ah (ax (i:=4) cT.nd rfl (Or.inl rfl) (ak aG (pv 4) (qN hu (aI (rb K) (by rfl) T.z_dict PyProof.Rows.boot_dict (aa (ao (cU K) (pv 3) (pv 5) (fun _ _=>rfl)) ab)) (pv 0) (fun _ _=>rfl)))))
     au)))
   (ah (aj (pv 4))))),?_⟩
  refine⟨_,rfl,_,p.length,rfl,.inl ⟨_,hp,by rw[AC]⟩,_,rfl,gD _,by omega,?_⟩
  rw[Ba]
  refine bW (n:=p.length) (fun i σ Hx=>∃x:Option V,σ=[some (.int g),some (.int ((b:Nat):Int)),some (.ref pa),some (.ref ba),some (.int (iI rows ((AH i).filter fun i=>decide (p.getD i 0=(b:Int))) g)),x]/\Same H Hx) ⟨none,rfl,Same.refl _⟩ ?_ ?_
  ·rintro i σ Hx hi ⟨x,rfl,sx⟩
   have ei:(0:Int)+(i:Int)=((i:Nat):Int):=by omega
   rw[ei,Bw,Bn]
   refine⟨_,rfl,_,rfl,pa,_,_,_,rfl,rfl,sx.seq hp,bC hi,_,rfl,rfl,_,rfl,gS (fun e=>?_) fun e=>?_⟩
   ·rw [BY,if_pos (decide_eq_true e),Cf,mf]
    have hir:i<rows.length:=by omega
    obtain⟨r,er,ps,hps,tps⟩:=(bl.same sx).at (AD hir)
    have gm:=gin i (dQ.mpr ⟨hi,e⟩)
    rw[AE,AD hir]at gm
    have gm:g∈aD rows[i]:=gm
    have ndr:=nd _ (A1 hir)
    have eg:rows.getD i []=rows[i]:=by rw[AE,AD hir];rfl
    rw[eg]
    generalize rows[i]=row at tps gm ndr
    obtain⟨c,hc⟩:∃c,cD row g=some c:=by
     cases z:cD row g with
     | none=>exact absurd gm (me.mp z)
     | some c=>exact⟨c,rfl⟩
    refine⟨_,rfl,_,rfl,_,rfl,ba,_,_,_,rfl,rfl,SqL.of (sx _ _ hb),bw (by rw[AG,er];rfl),r,ps,jM row,rfl,SqL.of hps,by unfold jM;rw[AC,tps.len],m7 ndr,tps.kv,fun dl ndl=>?_⟩
    have s2:=Same.new (o:= .dK (jM row)) ndl
    have gg:=DGet.k (k:=Sum.inl g) (show ay Hx dl (.dK (jM row)) dl=some (.dK (jM row))from af)
    rw[fc,hc]at gg
    refine⟨_,rfl,dl,.int c,rfl,gg,_,_,rfl,rfl,?_⟩
    rw[hc]
    exact⟨_,rfl,sx.trans s2⟩
   ·rw [BY,if_neg (by rw[decide_eq_false e];exact AO),Cf,BX]
    exact⟨_,rfl,sx⟩
  ·rintro σ Hx ⟨x,rfl,sx⟩
   exact⟨_,rfl,q Hx sx⟩
def eV (K:PySem.W.Frag):Sp:=ji K
theorem cy:FnScope ["pattern","tie","met","ahead","step"] ["pattern","tie"] (ar fE):=⟨rfl,rfl,rfl,by decide +kernel,rfl,by decide +kernel,by decide +kernel⟩
theorem gN (D:Dfs K mg aF dF) (T:Txt mg):FnOk P w K mg base aX 1 (aF 39) (dF 39) ["pattern","tie"] (eV K):=by
 refine D.law_breaks.fn.ok cy (fun vs H Q E h=>?_) (fun cdv A outer s H vs Q E hr h=>?_)
 ·obtain⟨a,tp,t,hs,st,wd,k,rfl,_⟩:=h;rfl
 ·have hu:=be hr
  obtain⟨a,tp,t,hs,st,wd,k,rfl,ha,htp,ht,hwd,h6,q⟩:=h
  refine⟨_,(ag (ax (i:=2) cy.nd rfl (Or.inl rfl) (aA ab))
   (ag (ax (i:=3) cy.nd rfl (Or.inl rfl) ae)
   (ag (bH PassesOwn.never rfl (zZ K (ao (cz K) (pv 1) ae (fun _ _=>rfl))) (aq (i:=4) cy.nd rfl (Or.inl rfl))
    (ah (az (av qH (pv 4) (ai (bx K) (by rfl) T.z_len boot_len (aa (pv 0) ab)) (aw _))
     (ah (ax (i:=3) cy.nd rfl (Or.inl rfl) (ak aG (pv 3) ae)))
     (ah (az (av (zH K) (ao (cU K) (pv 0) (pv 4) (fun _ _=>rfl)) (pv 2) (by with_unfolding_all rfl))
      (ah (c4 (fL PySem.F.plainAttrs_list PySem.F.slot_list_append PySem.F.type_list_append bO (pv 2) (aa (ao (cU K) (pv 0) (pv 4) (fun _ _=>rfl)) ab))))
      au)))))
   (ag (az (av bj (ao (cz K) (pv 1) ae (fun _ _=>rfl)) aP (aw _))
    (ah (aj (bY qG (ai (bx K) (by rfl) T.z_len boot_len (aa (pv 2) ab)) (ao (cz K) (pv 1) ae (fun _ _=>rfl)) (aw _))))
    au)
   (ah (aj (bY di (ak aG (ai (bx K) (by rfl) T.z_len boot_len (aa (pv 2) ab)) (pv 3)) (ao (cz K) (pv 1) ae (fun _ _=>rfl)) (aw _)))))))),?_⟩
  refine⟨bM,fun m nm=>?_⟩
  have s1:=Same.new (o:= .lst []) nm
  refine⟨_,rfl,tp,_,_,_,rfl,rfl,Same.seqT s1 htp,rfl,t,rfl,⟨_,Same.seqT s1 ht⟩,?_⟩
  refine vL (K:=K) (a:=t) (xs:=st.map fun(i:Nat)=>V.int (i:Int)) (fun i σ Hx=>∃(x:Option V),σ=[some (.ref a),some (.ref tp),some (.ref m),some (.int (((i-((st.take i).filter fun j=>decide (j<hs.length)).length:Nat)):Int)),x]/\Same H Hx/\Hx m=some (.lst ((dd (((st.take i).filter fun j=>decide (j<hs.length)).map fun i=>hs.getD i 0)).map V.int))/\((st.take i).filter fun j=>decide (j<hs.length)).length<=i) ⟨none,rfl,s1,af,AI _⟩ (fun i σ Hx _ hq__=>by obtain⟨_,_,s,_⟩:=hq__;exact Same.seqT s ht) ?_ ?_
  ·rintro i v σ Hx hi ⟨x,rfl,sx,hm,fl⟩
   obtain⟨d,hd,rfl,ed⟩:=gX hi
   have il:=(AF.mp hd).1
   have dl:=bV (((st.take i).filter fun j=>decide (j<hs.length)).map fun i=>hs.getD i 0)
   rw[AC]at dl
   rw[cG hd,Bn]
   refine⟨_,rfl,_,rfl,_,hs.length,rfl,.inl ⟨_,sx.seq ha,by rw[AC]⟩,_,_,rfl,rfl,_,rfl,pD (fun ge=>?_) fun ge=>?_⟩
   ·have e5:[d].filter (fun j=>decide (j<hs.length))=[]:=by
     rw[BY,if_neg (by rw[decide_eq_false (by omega)];exact AO),Cf]
    rw[e5,BX]
    refine⟨_,rfl,_,_,rfl,rfl,?_⟩
    refine⟨some (.int (d:Int)),?_,sx,hm,by omega⟩
    rw[show(((i+1-((st.take i).filter fun j=>decide (j<hs.length)).length:Nat)):Int)=(((i-((st.take i).filter fun j=>decide (j<hs.length)).length:Nat)):Int)+1 by omega]
    rfl
   ·have hdl:d<hs.length:=by omega
    have e5:[d].filter (fun j=>decide (j<hs.length))=[d]:=by
     rw[BY,if_pos (decide_eq_true hdl),Cf]
    rw[e5,AW,AK,AS]
    have e6:dd (((st.take i).filter fun j=>decide (j<hs.length)).map (fun i=>hs.getD i 0)++[d].map fun i=>hs.getD i 0)=cL (dd (((st.take i).filter fun j=>decide (j<hs.length)).map fun i=>hs.getD i 0)) (hs.getD d 0):=mP _ _
    rw[e6]
    have e7:i+1-(((st.take i).filter fun j=>decide (j<hs.length)).length+1)=i-((st.take i).filter fun j=>decide (j<hs.length)).length:=by omega
    rw[e7]
    generalize ((st.take i).filter fun j=>decide (j<hs.length)).length=n at fl dl
    generalize dd (((st.take i).filter fun j=>decide (j<hs.length)).map fun i=>hs.getD i 0)=ms at hm dl
    refine⟨_,rfl,_,rfl,a,_,_,_,rfl,rfl,sx.seq ha,bC hdl,_,rfl,m,_,rfl,.inl (SqL.of hm),rfl,ou _,?_⟩
    rw[if_pos rfl,qP]
    unfold cL
    refine⟨_,rfl,?_⟩
    by_cases z:hs.getD d 0∈ms
    ·rw [decide_eq_true z,if_pos z]
     exact aE ⟨_,rfl,sx,hm,by omega⟩
    ·rw [decide_eq_false z,if_neg z]
     refine bP ⟨_,rfl,.inl ⟨rfl,_,SqL.of hm⟩,_,rfl,_,rfl,a,_,_,_,rfl,rfl,sx.seq ha,bC hdl,m,_,_,rfl,rfl,hm,mK (by rw[AC];omega),?_⟩
     exact⟨_,rfl,sx.put nm,by rw[af,AW];rfl,by omega⟩
  ·rintro σ Hx ⟨x,rfl,sx,hm,fl⟩
   rw[AC,Bg]at hm fl
   rw[AC,Bg]
   have q3:=q Hx sx
   refine⟨_,rfl,tp,_,_,_,rfl,rfl,Same.seqT sx htp,rfl,rfl,_,rfl,?_⟩
   unfold brk at q3
   rcases hwd with e | e<;>subst e
   ·refine bP ?_
    rw[if_pos rfl]at q3
    exact⟨_,rfl,_,vF (fun i=>hs.getD i 0) (st.filter fun i=>decide (i<hs.length)),rfl,.inl ⟨_,SqL.of hm,by rw[AC];rfl⟩,_,rfl,tp,_,_,_,rfl,rfl,Same.seqT sx htp,rfl,_,_,rfl,rfl,q3⟩
   ·rw [decide_eq_false (by decide)]
    refine aE ?_
    rw[if_neg (by decide)]at q3
    refine⟨_,rfl,_,vF (fun i=>hs.getD i 0) (st.filter fun i=>decide (i<hs.length)),rfl,.inl ⟨_,SqL.of hm,by rw[AC];rfl⟩,_,rfl,_,_,rfl,rfl,_,rfl,tp,_,_,_,rfl,rfl,Same.seqT sx htp,rfl,_,_,rfl,rfl,?_⟩
    dsimp only
    rw[show(((vF (fun i=>hs.getD i 0) (st.filter fun i=>decide (i<hs.length)):Nat)):Int)+(((st.length-(st.filter fun j=>decide (j<hs.length)).length:Nat)):Int)=(((vF (fun i=>hs.getD i 0) (st.filter fun i=>decide (i<hs.length)):Nat)):Int)+(st.length:Int)-((st.filter fun i=>decide (i<hs.length)).length:Int) by omega]
    exact q3
theorem tU {rows:cw} {p:List Int} {b:Nat} (c:bR p) (hb:b<(dd p).length) (x:Int):x∈bS rows (aU p b)<->x∈e9 (fg rows) p b:=by
 unfold e9
 rw[ku _ (cM c hb),gB (cM c hb)]
 have e:∀s,(fg rows).getD s []=aD (rows.getD s []):=fun s=>by
  unfold fg
  rw[AE,AG,AE]
  cases rows[s]?<;>rfl
 simp only[e]
def iR (K:PySem.W.Frag):Sp:=fun vs H Q _=>∃(ba pa b:Addr) (p:List Int) (rs:List Addr) (rows:cw) (bs:List Int),vs=[.ref ba,.ref pa,.ref b]/\SqL K H pa (p.map V.int)/\H b=some (.lst (rs.map V.ref))/\BillL H rs rows/\rows.length<=6/\(∀row∈rows,row.length<=20/\(aD row).Nodup)/\bR p/\p.length<=rows.length/\H ba=some (.lst (bs.map V.int))/\∀H',Same H H'->Q (.bl (cO (fg rows) p bs)) H'
theorem cg:FnScope ["blocks","pattern","bill","here","last","block"] ["blocks","pattern","bill"] (ar fW):=⟨rfl,rfl,rfl,by decide +kernel,rfl,by decide +kernel,by decide +kernel⟩
theorem nJ (D:Dfs K mg aF dF) (T:Txt mg):FnOk P w K mg base aX 2 (aF 40) (dF 40) ["blocks","pattern","bill"] (iR K):=by
 have Glaw_whole:FnOk P w K mg base aX 1 (aF 31) (dF 31) ["found"] (cS K):=dM D T
 have Glaw_wide:FnOk P w K mg base aX 1 (aF 36) (dF 36) ["pattern"] (dD K):=eJ D T
 have Glaw_pool:FnOk P w K mg base aX 1 (aF 37) (dF 37) ["block","pattern","bill"] (eK K):=gv D T
 refine D.law_short.fn.ok cg (fun vs H Q E h=>?_) (fun cdv A outer s H vs Q E hr h=>?_)
 ·obtain⟨ba,pa,b,p,rs,rows,bs,rfl,_⟩:=h;rfl
 ·have hu:=be hr
  obtain⟨ba,pa,b,p,rs,rows,bs,rfl,hp,hb,bl,r6,rok,c,hl,hba,q⟩:=h
  refine⟨_,(ag (az (aZ (bg (ai (fJ K) (by rfl) T.z_isinstance boot_isinstance (aa (pv 0) (aa (eF T.z_list) ab)))))
    (ah (aj bB))
    au)
   (ag (ax (i:=3) cg.nd rfl (Or.inl rfl) (aA ab))
   (ag (ax (i:=4) cg.nd rfl (Or.inl rfl) (t8 pH ae))
   (ag (bH PassesOwn.never rfl (gG K (pv 0)) (aq (i:=5) cg.nd rfl (Or.inl rfl))
    (ag (az (PW.pt (cV (aZ (bg (pc D.law_whole Glaw_whole (hr.mono (by decide)) (aa (pv 5) ab)))) (cB (aZ (jY di di (pv 4) (pv 5) (pc D.law_wide Glaw_wide (hr.mono (by decide)) (aa (pv 1) ab)))))))
     (ah (aj bB))
     au)
    (ag (ax (i:=3) cg.nd rfl (Or.inl rfl) (ak fM (pv 3) (pc D.law_pool Glaw_pool (hr.mono (by decide)) (aa (pv 5) (aa (pv 1) (aa (pv 2) ab))))))
    (ah (ax (i:=4) cg.nd rfl (Or.inl rfl) (pv 5))))))
   (ah (aj (bY di (ai (qW w) (by rfl) T.z_len boot_len (aa (aI (mQ w K) (by rfl) T.z_set PyProof.Rows.boot_set (aa (pv 3) ab)) ab)) (ai (bx K) (by rfl) T.z_len boot_len (aa (pv 0) ab)) (aw _)))))))),?_⟩
  have dl:=bV p
  refine⟨_,rfl,_,_,_,true,rfl,.lst hba,rfl,_,rfl,aE ?_⟩
  refine⟨bM,fun l0 n0=>?_⟩
  have s1:=Same.new (o:= .lst []) n0
  refine⟨_,rfl,?_⟩
  refine⟨_,rfl,ba,rfl,⟨_,SqL.of (s1 _ _ hba)⟩,?_⟩
  have no:∀H',Same H H'->cO (fg rows) p bs=false->Q (.bl false) H':=fun H' s e=>by
   have z:=q H' s
   rw[e]at z
   exact z
  have noIn:∀d∈bs,¬(0<=d/\d<(((dd p).length:Nat):Int))->cO (fg rows) p bs=false:=fun d dm n=>by
   unfold cO
   rw[show ym p bs=false from Bool.eq_false_iff.mpr fun z=>n (of_decide_eq_true (AX.mp z d dm)),Bool.and_false,Bd]
  refine cq (K:=K) (a:=ba) (xs:=bs.map V.int) (fun i σ Hx=>∃(l:Addr) (hs:List Int) (la:Int) (x:Option V),σ=[some (.ref ba),some (.ref pa),some (.ref b),some (.ref l),some (.int la),x]/\Same H Hx/\Hx l=some (.lst (hs.map V.int))/\(∀x,x∈hs<->x∈c0 (fg rows) p (bs.take i))/\hs.length<=20*i/\(i:Int)-1<=la/\la<(((dd p).length:Nat):Int)/\(i=0/\la= -1\/∃j,i=j+1/\bs[j]?=some la)/\(∀j x y,j+1<i->bs[j]?=some x->bs[j+1]?=some y->x<y)/\∀b∈bs.take i,0<=b/\b<(((dd p).length:Nat):Int)) ⟨l0,[],-1,none,rfl,s1,af,(fun x=>by unfold c0;simp),A0 _,by decide,by omega,.inl ⟨rfl,rfl⟩,fun j x y z=>by omega,fun _ z=>by cases z⟩ (fun i σ Hx _ hq__=>by obtain⟨_,_,_,_,_,s,_⟩:=hq__;exact SqL.of (s _ _ hba)) ?_ ?_
  ·rintro i v σ Hx hi ⟨l,hs,la,x,rfl,sx,hl1,hmem,hlen,la1,la2,hla,up,inn⟩
   obtain⟨d,hd,rfl,ed⟩:=cN hi
   have dm:=AJ hd
   refine⟨_,rfl,d,rfl,_,rfl,aE ?_⟩
   refine⟨_,rfl,_,rfl,_,_,rfl,rfl,_,rfl,pD (fun lt=>?_) fun ge=>?_⟩
   ·refine⟨_,rfl,pa,p,rfl,sx.seq hp,by omega,fun H2 s2=>⟨_,_,rfl,rfl,_,rfl,?_⟩⟩
    by_cases ltw:d<(((dd p).length:Nat):Int)
    ·rw [decide_eq_true ltw]
     refine aE ?_
     obtain⟨k,rfl⟩:∃k:Nat,d=(k:Int):=⟨d.toNat,by omega⟩
     have hdl:k<(dd p).length:=by omega
     have s02:=sx.trans s2
     refine⟨_,rfl,_,rfl,_,rfl,_,rfl,k,pa,b,p,rs,rows,rfl,s02.seq hp,s02 _ _ hb,bl.same s02,c,hdl,hl,r6,rok,fun po H3 s3 npo hpo=>?_⟩
     have kl:=ph (fun row h=>(rok row h).1) (aU p k)
     refine⟨l,po,_,_,rfl,rfl,(s2.trans s3) _ _ hl1,hpo,uq (by rw[AC,AC];omega),fun cc nc=>?_⟩
     refine⟨_,rfl,cc,hs++bS rows (aU p k),(k:Int),some (.int (k:Int)),rfl,(s02.trans s3).to nc,by rw[af,AW],fun x=>?_,by rw[AK];omega,by omega,ltw,.inr ⟨i,rfl,hd⟩,fun j x y hj hx hy=>?_,fun z hz=>?_⟩
     ·rw [cG hd]
      unfold c0
      rw[List.flatMap_append,AZ,AZ,List.flatMap_singleton,Ba]
      exact or_congr (hmem x) (tU c hdl x)
     ·by_cases e:j+1<i
      ·exact up j x y e hx hy
      ·have:j+1=i:=by omega
       rw[this,hd]at hy
       cases hy
       rcases hla with⟨z,_⟩ | ⟨j',e',hj'⟩
       ·omega
       ·have:j'=j:=by omega
        rw[this,hx]at hj'
        cases hj'
        exact lt
     ·rw [cG hd]at hz
      rcases AZ.mp hz with w | w
      ·exact inn z w
      ·rw [AN.mp w];omega
    ·rw [decide_eq_false ltw]
     exact bP (no H2 (sx.trans s2) (noIn d dm fun z=>ltw z.2))
   ·refine⟨_,rfl,bP (no Hx sx ?_)⟩
    rcases hla with⟨rfl,rfl⟩ | ⟨j,rfl,hj⟩
    ·exact noIn d dm fun z=>ge (by omega)
    ·unfold cO
     rw[show jK bs=false from Bool.eq_false_iff.mpr fun z=>ge ?_,Bd,Bd]
     have pw:=iG.mp z
     obtain⟨h1,e1⟩:=AF.mp hj
     obtain⟨h2,e2⟩:=AF.mp hd
     have:=Bv.mp pw j (j+1) h1 h2 (by omega)
     rw[e1,e2]at this
     exact this
  ·rintro σ Hx ⟨l,hs,la,x,rfl,sx,hl1,hmem,hlen,la1,la2,hla,up,inn⟩
   rw[AC]at hlen la1 up hmem inn
   rw[Bg]at hmem inn
   have b6:bs.length<=6:=by omega
   have hr:jK bs=true:=by
    unfold jK
    refine AX.mpr fun k hk=>decide_eq_true ?_
    have hk:=Bb.mp hk
    rw[aH (by omega),aH (by omega)]
    exact up k _ _ (by omega) (AD (by omega)) (AD (by omega))
   have hi:ym p bs=true:=AX.mpr fun b hb=>decide_eq_true (inn b hb)
   have el:(dd hs).length=(dd (c0 (fg rows) p bs)).length:=by
    have a1:=(jq hs).length_le_of_subset (l₂:=dd (c0 (fg rows) p bs)) fun b hb=>bI.mpr ((hmem b).mp (bI.mp hb))
    have a2:=(jq (c0 (fg rows) p bs)).length_le_of_subset (l₂:=dd hs) fun b hb=>bI.mpr ((hmem b).mpr (bI.mp hb))
    omega
   refine⟨_,rfl,l,hs,rfl,SqL.of hl1,by omega,fun S nS=>⟨S,_,rfl,af,?_⟩⟩
   have s2:=sx.to (o:= .ext (SX w S (dd hs))) nS
   refine⟨_,rfl,_,bs.length,rfl,.inl ⟨_,SqL.of (s2 _ _ hba),by rw[AC]⟩,_,_,rfl,rfl,?_⟩
   have z:=q _ s2
   unfold cO at z
   rw[hr,hi,Bool.true_and,Bool.true_and,<- el,show decide ((dd hs).length<bs.length)=decide ((((dd hs).length:Nat):Int)<((bs.length:Nat):Int))from decide_eq_decide.mpr Int.ofNat_lt.symm]at z
   exact z
def jF (K:PySem.W.Frag):Sp:=fun vs H Q _=>∃(d:Addr) (es:List (Int×Int)),vs=[.ref d]/\RowAt H d es/\∀H',Same H H'->Q (.bl (jd es)) H'
theorem eL:FnScope ["dues","last","due"] ["dues"] (ar h8):=⟨rfl,rfl,rfl,by decide +kernel,rfl,by decide +kernel,by decide +kernel⟩
theorem pj (D:Dfs K mg aF dF) (T:Txt mg):FnOk P w K mg base aX 2 (aF 41) (dF 41) ["dues"] (jF K):=by
 have Glaw_whole:FnOk P w K mg base aX 1 (aF 31) (dF 31) ["found"] (cS K):=dM D T
 refine D.law_dues.fn.ok eL (fun vs H Q E h=>?_) (fun cdv A outer s H vs Q E hr h=>?_)
 ·obtain⟨d,es,rfl,_⟩:=h;rfl
 ·have hu:=be hr
  obtain⟨d,es,rfl,⟨ds,hd,tps⟩,q⟩:=h
  refine⟨_,(ag (az (aZ (bg (ai (fJ K) (by rfl) T.z_isinstance boot_isinstance (aa (pv 0) (aa (eF T.z_list) ab)))))
    (ah (aj bB))
    au)
   (ag (ax (i:=1) eL.nd rfl (Or.inl rfl) ae)
   (ag (bH PassesOwn.never rfl (gG K (pv 0)) (aq (i:=2) eL.nd rfl (Or.inl rfl))
    (ag (az (PW.pt (cV (aZ (bg (ai (fJ K) (by rfl) T.z_isinstance boot_isinstance (aa (pv 2) (aa (fO T.z_tuple) ab))))) (cB (av gE (ai (bx K) (by rfl) T.z_len boot_len (aa (pv 2) ab)) ae (aw _)))))
     (ah (aj bB))
     au)
    (ag (az (PW.pt (cV (aZ (bg (pc D.law_whole Glaw_whole (hr.mono (by decide)) (aa (ao (cz K) (pv 2) ae (fun _ _=>rfl)) ab)))) (cV (aZ (bg (pc D.law_whole Glaw_whole (hr.mono (by decide)) (aa (ao (cz K) (pv 2) ae (fun _ _=>rfl)) ab)))) (cB (av di (ao (cz K) (pv 2) ae (fun _ _=>rfl)) ae (aw _))))))
     (ah (aj bB))
     au)
    (ag (az (aZ (jY di jk (pv 1) (ao (cz K) (pv 2) ae (fun _ _=>rfl)) (ak fK ae ae)))
     (ah (aj bB))
     au)
    (ah (ax (i:=1) eL.nd rfl (Or.inl rfl) (ao (cz K) (pv 2) ae (fun _ _=>rfl))))))))
   (ah (aj bB))))),?_⟩
  have no:∀H',Same H H'->jd es=false->Q (.bl false) H':=fun H' s e=>by
   have z:=q H' s
   rw[e]at z
   exact z
  have noX:∀x∈es,¬(1<=x.1/\x.1<=10^18/\0<=x.2)->jd es=false:=fun x hx n=>by
   unfold jd
   rw[show(es.all fun x=>decide (1<=x.1/\x.1<=10^18/\0<=x.2))=false from Bool.eq_false_iff.mpr fun z=>n (of_decide_eq_true (AX.mp z x hx)),Bd]
  refine⟨_,rfl,_,_,_,true,rfl,.lst hd,rfl,_,rfl,aE ?_⟩
  refine⟨_,rfl,d,rfl,⟨_,SqL.of hd⟩,?_⟩
  refine cq (K:=K) (a:=d) (xs:=ds.map V.ref) (fun i σ H1=>∃(la:Int) (x:Option V),σ=[some (.ref d),some (.int la),x]/\Same H H1/\(i=0/\la=0\/∃j y,i=j+1/\es[j]?=some y/\la=y.1)/\(∀j x y,j+1<i->es[j]?=some x->es[j+1]?=some y->x.1<y.1)/\∀x∈es.take i,1<=x.1/\x.1<=10^18/\0<=x.2) ⟨0,none,rfl,Same.refl _,.inl ⟨rfl,rfl⟩,fun j x y z=>by omega,fun _ z=>by cases z⟩ (fun i σ H1 _ hq__=>by obtain⟨_,_,_,s,_⟩:=hq__;exact s.seq (SqL.of hd)) ?_ ?_
  ·rintro i v σ H1 hi ⟨la,x,rfl,s1,hla,up,inn⟩
   rw[AG]at hi
   obtain⟨t,ht,rfl⟩:=AL.mp hi
   obtain⟨p,hp,tx⟩:=bG tps ht
   have tx1:=s1 _ _ tx
   have pm:=AJ hp
   refine⟨_,rfl,_,_,_,true,rfl,.tup tx1,rfl,_,rfl,aE ?_⟩
   refine⟨_,rfl,_,_,rfl,.inr ⟨_,SqT.of tx1,rfl⟩,rfl,_,rfl,aE ?_⟩
   refine⟨_,rfl,t,_,_,_,rfl,rfl,SqT.of tx1,rfl,_,rfl,_,rfl,aE ?_⟩
   refine⟨_,rfl,t,_,_,_,rfl,rfl,SqT.of tx1,rfl,_,rfl,_,rfl,aE ?_⟩
   refine⟨_,rfl,t,_,_,_,rfl,rfl,SqT.of tx1,rfl,_,_,rfl,rfl,_,rfl,pD (fun z=>no H1 s1 (noX p pm fun y=>by omega)) fun nn=>?_⟩
   refine⟨_,rfl,_,rfl,t,_,_,_,rfl,rfl,SqT.of tx1,rfl,_,_,rfl,rfl,_,rfl,pD (fun lk=>?_) fun ge=>?_⟩
   ·refine⟨_,_,rfl,rfl,⟨by decide,by decide,by decide⟩,_,_,rfl,rfl,_,rfl,?_⟩
    by_cases hi18:p.1<=10^(18:Int).toNat
    ·rw [decide_eq_true hi18]
     refine aE ?_
     have hi18':p.1<=10^18:=hi18
     have p1:1<=p.1:=by
      rcases hla with⟨_,rfl⟩ | ⟨j,y,rfl,hj,rfl⟩
      ·omega
      ·have:=(inn y (BB.mpr ⟨j,by rw[List.getElem?_take_of_lt (by omega)];exact hj⟩)).1
       omega
     refine⟨_,rfl,t,_,_,_,rfl,rfl,SqT.of tx1,rfl,?_⟩
     refine⟨p.1,_,rfl,s1,.inr ⟨i,p,rfl,hp,rfl⟩,fun j x y hj hx hy=>?_,fun z hz=>?_⟩
     ·by_cases e:j+1<i
      ·exact up j x y e hx hy
      ·have:j+1=i:=by omega
       rw[this,hp]at hy
       cases hy
       rcases hla with⟨z,_⟩ | ⟨j',y,e',hj',rfl⟩
       ·omega
       ·have:j'=j:=by omega
        rw[this,hx]at hj'
        cases hj'
        exact lk
     ·rw [cG hp]at hz
      rcases AZ.mp hz with w | w
      ·exact inn z w
      ·rw [AN.mp w]
       exact⟨p1,hi18',by omega⟩
    ·rw [decide_eq_false hi18]
     exact bP (no H1 s1 (noX p pm fun y=>hi18 y.2.1))
   ·refine⟨_,rfl,bP (no H1 s1 ?_)⟩
    rcases hla with⟨rfl,rfl⟩ | ⟨j,y,rfl,hj,rfl⟩
    ·exact noX p pm fun z=>ge (by omega)
    ·unfold jd
     rw[show jK (es.map (·.1))=false from Bool.eq_false_iff.mpr fun z=>ge ?_,Bool.and_false]
     have pw:=iG.mp z
     obtain⟨h1,e1⟩:=AF.mp hj
     obtain⟨h2,e2⟩:=AF.mp hp
     have:=Bv.mp pw j (j+1) (by rw[AC];exact h1) (by rw[AC];exact h2) (by omega)
     rw[BG,BG,e1,e2]at this
     exact this
  ·rintro σ H1 ⟨la,x,rfl,s1,hla,up,inn⟩
   have tl:=tps.len
   rw[AC,tl]at up inn
   rw[Bg]at inn
   have z:=q H1 s1
   have e:jd es=true:=by
    unfold jd
    rw[BL]
    refine⟨AX.mpr fun x hx=>decide_eq_true (inn x hx),?_⟩
    unfold jK
    refine AX.mpr fun k hk=>decide_eq_true ?_
    have hk:=Bb.mp hk
    rw[AC]at hk
    rw[aH (by rw[AC];omega),aH (by rw[AC];omega),BG,BG]
    exact up k _ _ (by omega) (AD (by omega)) (AD (by omega))
   rw[e]at z
   exact z
theorem rC {rows:cw} (nd:∀row∈rows,(aD row).Nodup) {st:List Nat} (ne:st≠[]) (es:List (Int×Int)) (x:Int):ly (fe rows st) es x=(bS rows st).all fun b=>decide (x-du es b<=iI rows st b):=by
 unfold ly
 rw[wC nd st ne,List.all_map]
 rfl
def jG (K:PySem.W.Frag):Sp:=fun vs H Q _=>∃(pa b lp ld:Addr) (bd:Int) (p pr:List Int) (es:List (Int×Int)) (rs:List Addr) (rows:cw),vs=[.ref lp,.ref ld,.int bd,.ref pa,.ref b]/\SqL K H pa (p.map V.int)/\H b=some (.lst (rs.map V.ref))/\BillL H rs rows/\rows.length<=6/\(∀row∈rows,row.length<=20/\(aD row).Nodup)/\bR p/\p.length<=rows.length/\H lp=some (.lst (pr.map V.int))/\RowAt H ld es/\es.length<=1000/\∀H',Same H H'->Q (.bl (eI rows p bd pr es)) H'
theorem dE:FnScope ["prices","dues","bound","pattern","bill","price","due_by","block","badge"] ["prices","dues","bound","pattern","bill"] (ar h9):=⟨rfl,rfl,rfl,by decide +kernel,rfl,by decide +kernel,by decide +kernel⟩
theorem pq (D:Dfs K mg aF dF) (T:Txt mg):FnOk P w K mg base aX 3 (aF 42) (dF 42) ["prices","dues","bound","pattern","bill"] (jG K):=by
 have Glaw_whole:FnOk P w K mg base aX 1 (aF 31) (dF 31) ["found"] (cS K):=dM D T
 have Glaw_wide:FnOk P w K mg base aX 1 (aF 36) (dF 36) ["pattern"] (dD K):=eJ D T
 have Glaw_pool:FnOk P w K mg base aX 1 (aF 37) (dF 37) ["block","pattern","bill"] (eK K):=gv D T
 have Glaw_minutes:FnOk P w K mg base aX 1 (aF 38) (dF 38) ["badge","block","pattern","bill"] (dY K):=gw D T
 have Glaw_dues:FnOk P w K mg base aX 2 (aF 41) (dF 41) ["dues"] (jF K):=pj D T
 refine D.law_dear.fn.ok dE (fun vs H Q E h=>?_) (fun cdv A outer s H vs Q E hr h=>?_)
 ·obtain⟨pa,b,lp,ld,bd,p,pr,es,rs,rows,rfl,_⟩:=h;rfl
 ·have hu:=be hr
  obtain⟨pa,b,lp,ld,bd,p,pr,es,rs,rows,rfl,hp,hb,bl,r6,rok,c,hl,hlp,hld,l2,q⟩:=h
  refine⟨_,(ag (az (PW.pt (cV (aZ (bg (ai (fJ K) (by rfl) T.z_isinstance boot_isinstance (aa (pv 0) (aa (eF T.z_list) ab))))) (cV (av gE (ai (bx K) (by rfl) T.z_len boot_len (aa (pv 0) ab)) (pc D.law_wide Glaw_wide (hr.mono (by decide)) (aa (pv 3) ab)) (aw _)) (cB (aZ (bg (pc D.law_dues Glaw_dues (hr.mono (by decide)) (aa (pv 1) ab))))))))
    (ah (aj bB))
    au)
   (ag (bH PassesOwn.never rfl (gG K (pv 0)) (aq (i:=5) dE.nd rfl (Or.inl rfl))
    (ah (az (aZ (bg (pc D.law_whole Glaw_whole (hr.mono (by decide)) (aa (pv 5) ab))))
     (ah (aj bB))
     au)))
   (ag (ax (i:=6) dE.nd rfl (Or.inl rfl) (aI (rb K) (by rfl) T.z_dict PyProof.Rows.boot_dict (aa (pv 1) ab)))
   (ag (bH PassesOwn.never rfl (aY rfl T.z_range (aa (ai (bx K) (by rfl) T.z_len boot_len (aa (pv 0) ab)) ab)) (aq (i:=7) dE.nd rfl (Or.inl rfl))
    (ah (bH PassesOwn.never rfl (gG K (pc D.law_pool Glaw_pool (hr.mono (by decide)) (aa (pv 7) (aa (pv 3) (aa (pv 4) ab))))) (aq (i:=8) dE.nd rfl (Or.inl rfl))
     (ah (az (av qG (ak cW (ao (cU K) (pv 0) (pv 7) (fun _ _=>rfl)) (om hu (pv 6) (pv 8) ae ⟨rfl,rfl,rfl,rfl⟩)) (pc D.law_minutes Glaw_minutes (hr.mono (by decide)) (aa (pv 8) (aa (pv 7) (aa (pv 3) (aa (pv 4) ab))))) (aw _))
      (ah (aj bB))
      au)))))
   (ah (aj (bY qH (ak cW (ai (sQ K) (by rfl) T.z_sum boot_sum (aa (pv 0) ab)) (ai (sQ K) (by rfl) T.z_sum boot_sum (aa (aL ["due"] [none] rfl (gG K (pv 1)) (fun _=>aq (i:=0) (aB (N:=["due"]) (by decide +kernel)) rfl (Or.inl rfl)) (fun _=>aJ) (fun _=>(ao (cz K) (pv 0) ae (fun _ _=>rfl))) ((.cons (fun _ e=>by cases e) .nil))) ab))) (pv 2) (aw _)))))))),?_⟩
  have dl:=bV p
  have no:∀H',Same H H'->eI rows p bd pr es=false->Q (.bl false) H':=fun H' s e=>by
   have z:=q H' s
   rw[e]at z
   exact z
  refine⟨_,rfl,_,_,_,true,rfl,.lst hlp,rfl,_,rfl,aE ?_⟩
  refine⟨_,rfl,_,pr.length,rfl,.inl ⟨_,SqL.of hlp,by rw[AC]⟩,_,rfl,pa,p,rfl,hp,by omega,fun H1 s1=>⟨rfl,_,rfl,rZ (fun ne=>?_) fun e=>?_⟩⟩
  ·refine no H1 s1 ?_
   unfold eI
   rw[decide_eq_false (by omega),Bd,Bd]
  have pl:pr.length=(dd p).length:=by omega
  refine⟨_,rfl,ld,es,rfl,hld.same s1,fun H2 s2=>⟨_,rfl,jn (fun h2=>?_) fun h2=>?_⟩⟩
  ·refine no H2 (s1.trans s2) ?_
   unfold eI
   rw[h2,Bool.and_false,Bd]
  have s02:=s1.trans s2
  have nde:(es.map (·.1)).Nodup:=by
   have h2':=h2
   unfold jd at h2'
   rw[BL]at h2'
   exact jv (iG.mp h2'.2)
  have noW:∀k,k<(dd p).length->ly (fe rows (aU p k)) es (pr.getD k 0)=false->eI rows p bd pr es=false:=fun k hk e=>by
   have w0:rq rows p pr es=false:=Bool.eq_false_iff.mpr fun z=>by
    have:=AX.mp z k (Bb.mpr hk)
    rw[e]at this
    cases this
   unfold eI
   rw[w0,Bd,Bool.and_false]
  refine⟨_,rfl,lp,rfl,⟨_,SqL.of (s02 _ _ hlp)⟩,?_⟩
  refine cq (K:=K) (a:=lp) (xs:=pr.map V.int) (fun i σ Hx=>∃x:Option V,σ=[some (.ref lp),some (.ref ld),some (.int bd),some (.ref pa),some (.ref b),x,none,none,none]/\Same H Hx) ⟨none,rfl,s02⟩ (fun i σ Hx _ hq__=>by obtain⟨_,_,s⟩:=hq__;exact SqL.of (s _ _ hlp)) ?_ ?_
  ·rintro i v σ Hx hi ⟨x,rfl,sx⟩
   obtain⟨d,hd,rfl,ed⟩:=cN hi
   exact⟨_,rfl,d,rfl,_,rfl,aE ⟨_,rfl,sx⟩⟩
  rintro σ H3 ⟨x0,rfl,s03⟩
  obtain⟨dp,hd3,tps⟩:=hld.same s03
  refine⟨_,rfl,ld,dp,jM es,rfl,SqL.of hd3,by unfold jM;rw[AC,tps.len],m7 nde,tps.kv,fun dby ndd=>?_⟩
  have s4:=Same.new (o:= .dK (jM es)) ndd
  have hdb:ay H3 dby (.dK (jM es)) dby=some (.dK (jM es)):=af
  generalize ay H3 dby (.dK (jM es))=H4 at s4 hdb
  have s04:=s03.trans s4
  refine⟨_,rfl,_,pr.length,rfl,.inl ⟨_,SqL.of (s04 _ _ hlp),by rw[AC]⟩,_,rfl,gD _,by omega,?_⟩
  rw[Ba]
  refine bW (n:=pr.length) (fun i σ Hx=>∃x y:Option V,σ=[some (.ref lp),some (.ref ld),some (.int bd),some (.ref pa),some (.ref b),x0,some (.ref dby),x,y]/\Same H4 Hx/\∀k,k<i->ly (fe rows (aU p k)) es (pr.getD k 0)=true) ⟨none,none,rfl,Same.refl _,fun k z=>by omega⟩ ?_ ?_
  ·rintro i σ Hx hi ⟨x,y,rfl,sx,al⟩
   have ei:(0:Int)+(i:Int)=((i:Nat):Int):=by omega
   rw[ei]
   have s0x:=s04.trans sx
   have hiw:i<(dd p).length:=by omega
   have ne:=cM c hiw
   have gin:∀g∈bS rows (aU p i),∀s∈aU p i,g∈aD (rows.getD s []):=fun g hg=>(ku _ ne g).mp hg
   refine⟨_,rfl,_,rfl,_,rfl,i,pa,b,p,rs,rows,rfl,s0x.seq hp,s0x _ _ hb,bl.same s0x,c,hiw,hl,r6,rok,fun po H5 s5 npo hpo=>⟨po,rfl,⟨_,SqL.of hpo⟩,?_⟩⟩
   refine cq (K:=K) (a:=po) (xs:=(bS rows (aU p i)).map V.int) (fun j σ Hy=>∃y:Option V,σ=[some (.ref lp),some (.ref ld),some (.int bd),some (.ref pa),some (.ref b),x0,some (.ref dby),some (.int (i:Int)),y]/\Same H5 Hy/\∀g∈(bS rows (aU p i)).take j,pr.getD i 0-du es g<=iI rows (aU p i) g) ⟨y,rfl,Same.refl _,fun _ z=>by cases z⟩ (fun j σ Hy _ hq__=>by obtain⟨_,_,s,_⟩:=hq__;exact SqL.of (s _ _ hpo)) ?_ ?_
   ·rintro j v σ Hy hj ⟨y,rfl,sy,al2⟩
    obtain⟨g,hg,rfl,_⟩:=cN hj
    have gm:=AJ hg
    have s4y:=(sx.trans s5).trans sy
    have s0y:=s04.trans s4y
    have hgd:=DGet.k (k:=Sum.inl g) (s4y _ _ hdb)
    rw[fc]at hgd
    have ev:((cD es g).map V.int).getD (V.int 0)=V.int (du es g):=by unfold du;cases cD es g<;>rfl
    refine⟨_,rfl,_,rfl,lp,_,_,_,rfl,rfl,SqL.of (s0y _ _ hlp),bC (by omega),_,rfl,dby,rfl,.inl ⟨_,.inl (s4y _ _ hdb)⟩,_,rfl,_,hgd,?_⟩
    rw[ev]
    refine⟨_,_,rfl,rfl,_,rfl,_,rfl,_,rfl,_,rfl,g,i,pa,b,p,rs,rows,rfl,s0y.seq hp,s0y _ _ hb,bl.same s0y,hl,r6,fun row hr=>(rok row hr).2,gin g gm,fun H6 s6=>?_⟩
    refine⟨_,_,rfl,rfl,_,rfl,pD (fun z=>?_) fun z=>⟨_,rfl,sy.trans s6,fun g' hg'=>?_⟩⟩
    ·refine no H6 (s0y.trans s6) (noW i hiw ?_)
     rw[rC (fun row hr=>(rok row hr).2) ne]
     exact Bool.eq_false_iff.mpr fun w=>by
      have:=of_decide_eq_true (AX.mp w g gm)
      omega
    ·rw [cG hg]at hg'
     rcases AZ.mp hg' with w | w
     ·exact al2 g' w
     ·rw [AN.mp w];omega
   ·rintro σ Hy ⟨y,rfl,sy,al2⟩
    rw[AC,Bg]at al2
    refine⟨_,y,rfl,(sx.trans s5).trans sy,fun k hk=>?_⟩
    by_cases z:k=i
    ·subst z
     rw[rC (fun row hr=>(rok row hr).2) ne]
     exact AX.mpr fun g hg=>decide_eq_true (al2 g hg)
    ·exact al k (by omega)
  ·rintro σ Hx ⟨x,y,rfl,sx,al⟩
   have s0x:=s04.trans sx
   refine⟨_,rfl,lp,pr,rfl,SqL.of (s0x _ _ hlp),?_⟩
   obtain⟨dq,hdx,tpx⟩:=hld.same s0x
   have dql:=tpx.len
   refine⟨_,rfl,ld,rfl,⟨_,SqL.of hdx⟩,?_⟩
   refine bD (xs:=dq.map V.ref) (fun _=>true) (fun j=> .int (es.getD j (0,0)).2) (SqL.of hdx) (by rw[AC];omega) (fun _ _ _ _ _ _ k=>k _ (Same.refl _)) (fun j x hx _ H2 R s2 kk=>?_) fun nw H2 s2 nnw hnw=>?_
   ·rw [AG]at hx
    obtain⟨t,et,rfl⟩:=AL.mp hx
    obtain⟨x,ex,tx⟩:=bG tpx et
    rw[AE,ex]at kk
    exact⟨_,rfl,t,_,_,_,rfl,rfl,SqT.of (s2 _ _ tx),rfl,kk H2 (Same.refl _)⟩
   rw[A8.mpr (fun _ _=>rfl),AC,dql,fB (g:=fun x=>V.int x.2) fun i x hx=>by rw[AE,hx];rfl]at hnw
   refine⟨nw,es.map (·.2),rfl,SqL.of (by rw[hnw,A3];rfl),_,_,rfl,rfl,_,rfl,_,_,rfl,rfl,?_⟩
   have z:=q H2 (s0x.trans s2)
   unfold eI at z
   rw[decide_eq_true pl,h2,show rq rows p pr es=true from AX.mpr fun k hk=>al k (by have:=Bb.mp hk;omega),Bool.true_and,Bool.true_and,Bool.true_and]at z
   exact z
def eW (K:PySem.W.Frag) (m:Nat):Sp:=fun vs H Q _=>∃(pa b ta:Addr) (bd:Int) (v:V) (p:List Int) (rs:List Addr) (rows:cw) (ts:List (Addr×Addr×Str×Int×List Nat)) (g:BPap),vs=[.ref pa,.ref b,.ref ta,.int bd,v]/\H pa=some (.lst (p.map V.int))/\H b=some (.lst (rs.map V.ref))/\BillL H rs rows/\rows.length<=6/\(∀row∈rows,row.length<=20/\(aD row).Nodup)/\Ties K H ta ts 100/\bR p/\p.length<=rows.length/\rows.length<p.length+m/\BPapAt H v g/\BBnd g/\∀H',Same H H'->Q (.bl (cP rows (ts.map dy) bd m p g)) H'
def iS (K:PySem.W.Frag):Sp:=eW K 7
theorem iT:FnScope ["pattern","bill","ties","bound","paper","k"] ["pattern","bill","ties","bound","paper"] (ar fX):=⟨rfl,rfl,rfl,by decide +kernel,rfl,by decide +kernel,by decide +kernel⟩
theorem nK (D:Dfs K mg aF dF) (T:Txt mg):FnOk P w K mg base aX 17 (aF 43) (dF 43) ["pattern","bill","ties","bound","paper"] (iS K):=by
 have Glaw_whole:FnOk P w K mg base aX 1 (aF 31) (dF 31) ["found"] (cS K):=dM D T
 have Glaw_wide:FnOk P w K mg base aX 1 (aF 36) (dF 36) ["pattern"] (dD K):=eJ D T
 have Glaw_breaks:FnOk P w K mg base aX 1 (aF 39) (dF 39) ["pattern","tie"] (eV K):=gN D T
 have Glaw_short:FnOk P w K mg base aX 2 (aF 40) (dF 40) ["blocks","pattern","bill"] (iR K):=nJ D T
 have Glaw_dear:FnOk P w K mg base aX 3 (aF 42) (dF 42) ["prices","dues","bound","pattern","bill"] (jG K):=pq D T
 have all:∀n,FnOk P w K mg base aX (10+n) (aF 43) (dF 43) ["pattern","bill","ties","bound","paper"] (eW K n):=by
  intro n
  induction n with
  | zero=>
   have no:∀vs H Q E,¬eW K 0 vs H Q E:=fun vs H Q E h=>by
    obtain⟨pa,b,ta,bd,v,p,rs,rows,ts,g,_,_,_,_,_,_,_,_,h1,h2,_⟩:=h
    omega
   exact⟨fun vs H Q E h=>absurd h (no vs H Q E),fun A outer s H args us vs Q E _ _ _ _ h=>absurd h (no vs H Q E)⟩
  | succ n Glaw_bears=>
   refine D.law_bears.fn.ok iT (fun vs H Q E h=>?_) (fun cdv A outer s H vs Q E hr h=>?_)
   ·obtain⟨pa,b,ta,bd,v,p,rs,rows,ts,g,rfl,_⟩:=h;rfl
   obtain⟨pa,b,ta,bd,v,p,rs,rows,ts,g,rfl,hpa,hb,bl,r6,rok,tt,c,hl,hlm,pat,gb,q⟩:=h
   have rk:Nat.add 10 n=10+n:=rfl
   refine⟨_,(ag (az (PW.pt (cV (aZ (bg (ai (fJ K) (by rfl) T.z_isinstance boot_isinstance (aa (pv 4) (aa (fO T.z_tuple) ab))))) (cB (av di (ai (bx K) (by rfl) T.z_len boot_len (aa (pv 4) ab)) ae (aw _)))))
    (ah (aj bB))
    au)
   (ag (az (av bj (ao (cz K) (pv 4) ae (fun _ _=>rfl)) aP (aw _))
    (ag (az (PW.pt (cV (av pI (pv 3) gP (aw _)) (cB (av gE (ai (bx K) (by rfl) T.z_len boot_len (aa (pv 4) ab)) ae (aw _)))))
     (ah (aj bB))
     au)
    (ah (aj (pc D.law_dear Glaw_dear (hr.mono (by have:=rk;omega)) (aa (ao (cz K) (pv 4) ae (fun _ _=>rfl)) (aa (ao (cz K) (pv 4) ae (fun _ _=>rfl)) (aa (pv 3) (aa (pv 0) (aa (pv 1) ab)))))))))
    au)
   (ag (az (av gE (ai (bx K) (by rfl) T.z_len boot_len (aa (pv 4) ab)) ae (aw _))
    (ah (aj bB))
    au)
   (ag (az (av bj (ao (cz K) (pv 4) ae (fun _ _=>rfl)) aP (aw _))
    (ag (az (PW.pt (cV (aZ (bg (pc D.law_whole Glaw_whole (hr.mono (by have:=rk;omega)) (aa (ao (cz K) (pv 4) ae (fun _ _=>rfl)) ab)))) (cB (aZ (jY jk di ae (ao (cz K) (pv 4) ae (fun _ _=>rfl)) (ai (bx K) (by rfl) T.z_len boot_len (aa (pv 2) ab)))))))
     (ah (aj bB))
     au)
    (ah (aj (pc D.law_breaks Glaw_breaks (hr.mono (by have:=rk;omega)) (aa (pv 0) (aa (ao (cU K) (pv 2) (ao (cz K) (pv 4) ae (fun _ _=>rfl)) (fun _ _=>rfl)) ab))))))
    au)
   (ag (az (av bj (ao (cz K) (pv 4) ae (fun _ _=>rfl)) aP (aw _))
    (ah (aj (pc D.law_short Glaw_short (hr.mono (by have:=rk;omega)) (aa (ao (cz K) (pv 4) ae (fun _ _=>rfl)) (aa (pv 0) (aa (pv 1) ab))))))
    au)
   (ag (az (PW.pt (cV (av gE (ao (cz K) (pv 4) ae (fun _ _=>rfl)) aP (aw _)) (cV (aZ (bg (ai (fJ K) (by rfl) T.z_isinstance boot_isinstance (aa (ao (cz K) (pv 4) ae (fun _ _=>rfl)) (aa (eF T.z_list) ab))))) (cB (av bj (ai (bx K) (by rfl) T.z_len boot_len (aa (pv 0) ab)) (ai (bx K) (by rfl) T.z_len boot_len (aa (pv 1) ab)) (aw _))))))
    (ah (aj bB))
    au)
   (ag (az (av gE (ai (bx K) (by rfl) T.z_len boot_len (aa (ao (cz K) (pv 4) ae (fun _ _=>rfl)) ab)) (ak aG (pc D.law_wide Glaw_wide (hr.mono (by have:=rk;omega)) (aa (pv 0) ab)) ae) (aw _))
    (ah (aj bB))
    au)
   (ag (bH PassesOwn.never rfl (aY rfl T.z_range (aa (ai (bx K) (by rfl) T.z_len boot_len (aa (ao (cz K) (pv 4) ae (fun _ _=>rfl)) ab)) ab)) (aq (i:=5) iT.nd rfl (Or.inl rfl))
    (ah (az (aZ (bg (pc D.law_bears Glaw_bears hr (aa (ak fM (pv 0) (aA (aa (pv 5) ab))) (aa (pv 1) (aa (pv 2) (aa (pv 3) (aa (ao (cU K) (ao (cz K) (pv 4) ae (fun _ _=>rfl)) (pv 5) (fun _ _=>rfl)) ab))))))))
     (ah (aj bB))
     au)))
   (ah (aj bB)))))))))),?_⟩
   have rl:rs.length=rows.length:=bl.len
   have dl:=bV p
   cases pat with
   | @tie tp j ht=>
    simp only[vj]at q
    refine⟨_,rfl,_,_,_,true,rfl,.tup ht,rfl,_,rfl,aE ?_⟩
    refine⟨_,rfl,_,2,rfl,.inr ⟨_,SqT.of ht,rfl⟩,_,_,rfl,rfl,_,rfl,aE ?_⟩
    refine⟨_,rfl,tp,_,_,_,rfl,rfl,SqT.of ht,rfl,rfl,_,rfl,?_⟩
    rw[decide_eq_false (by decide)]
    refine aE ?_
    refine⟨_,rfl,_,2,rfl,.inr ⟨_,SqT.of ht,rfl⟩,rfl,_,rfl,kz rfl ?_⟩
    refine⟨_,rfl,tp,_,_,_,rfl,rfl,SqT.of ht,rfl,rfl,_,rfl,bP ?_⟩
    refine⟨_,rfl,tp,_,_,_,rfl,rfl,SqT.of ht,rfl,j,rfl,_,rfl,aE ?_⟩
    unfold tj at q
    rw[AC]at q
    refine⟨_,rfl,tp,_,_,_,rfl,rfl,SqT.of ht,rfl,_,_,rfl,rfl,_,rfl,pD (fun j0=>?_) fun j0=>?_⟩
    ·refine⟨_,rfl,_,ts.length,rfl,.inl ⟨_,tt.ls,by rw[AC]⟩,_,_,rfl,rfl,_,rfl,?_⟩
     by_cases jl:j<(ts.length:Int)
     ·rw [decide_eq_true jl]
      refine aE ?_
      obtain⟨k,rfl⟩:∃k:Nat,j=(k:Int):=⟨j.toNat,by omega⟩
      rw[if_pos ⟨j0,jl⟩,Ba,AG]at q
      obtain⟨x,hx⟩:∃x,ts[k]?=some x:=⟨_,AD (by omega)⟩
      rw[hx]at q
      have te:=tt.ea x (AJ hx)
      exact⟨_,rfl,_,rfl,_,rfl,tp,_,_,_,rfl,rfl,SqT.of ht,rfl,ta,_,_,_,rfl,rfl,tt.ls,bw (by rw[AG,hx];rfl),pa,x.1,x.2.1,p,x.2.2.2.2,x.2.2.1,x.2.2.2.1,rfl,SqL.of hpa,SqT.of te.tp,SqT.of te.ts,te.wd,te.sl,fun H1 s1=>q H1 s1⟩
     ·rw [decide_eq_false jl]
      rw[if_neg fun z=>jl z.2]at q
      exact bP (q H (Same.refl _))
    ·rw [if_neg fun z=>j0 z.1]at q
     exact⟨_,rfl,bP (q H (Same.refl _))⟩
   | @short tp l bs ht hl'=>
    simp only[qy]at q
    refine⟨_,rfl,_,_,_,true,rfl,.tup ht,rfl,_,rfl,aE ?_⟩
    refine⟨_,rfl,_,2,rfl,.inr ⟨_,SqT.of ht,rfl⟩,_,_,rfl,rfl,_,rfl,aE ?_⟩
    refine⟨_,rfl,tp,_,_,_,rfl,rfl,SqT.of ht,rfl,rfl,_,rfl,?_⟩
    rw[decide_eq_false (by decide)]
    refine aE ?_
    refine⟨_,rfl,_,2,rfl,.inr ⟨_,SqT.of ht,rfl⟩,rfl,_,rfl,kz rfl ?_⟩
    refine⟨_,rfl,tp,_,_,_,rfl,rfl,SqT.of ht,rfl,rfl,_,rfl,?_⟩
    rw[decide_eq_false (by decide)]
    refine aE ?_
    refine⟨_,rfl,tp,_,_,_,rfl,rfl,SqT.of ht,rfl,rfl,_,rfl,bP ?_⟩
    exact⟨_,rfl,tp,_,_,_,rfl,rfl,SqT.of ht,rfl,_,rfl,_,rfl,l,pa,b,p,rs,rows,bs,rfl,SqL.of hpa,hb,bl,r6,rok,c,hl,hl',q⟩
   | @split tp l vs' ps ht hl' hvn hat=>
    simp only[kC]at q
    refine⟨_,rfl,_,_,_,true,rfl,.tup ht,rfl,_,rfl,aE ?_⟩
    refine⟨_,rfl,_,2,rfl,.inr ⟨_,SqT.of ht,rfl⟩,_,_,rfl,rfl,_,rfl,aE ?_⟩
    refine⟨_,rfl,tp,_,_,_,rfl,rfl,SqT.of ht,rfl,rfl,_,rfl,?_⟩
    rw[decide_eq_false (by decide)]
    refine aE ?_
    refine⟨_,rfl,_,2,rfl,.inr ⟨_,SqT.of ht,rfl⟩,rfl,_,rfl,kz rfl ?_⟩
    refine⟨_,rfl,tp,_,_,_,rfl,rfl,SqT.of ht,rfl,rfl,_,rfl,?_⟩
    rw[decide_eq_false (by decide)]
    refine aE ?_
    refine⟨_,rfl,tp,_,_,_,rfl,rfl,SqT.of ht,rfl,rfl,_,rfl,?_⟩
    rw[decide_eq_false (by decide)]
    refine aE ?_
    refine⟨_,rfl,tp,_,_,_,rfl,rfl,SqT.of ht,rfl,rfl,_,rfl,kz rfl ?_⟩
    refine⟨_,rfl,tp,_,_,_,rfl,rfl,SqT.of ht,rfl,_,_,_,true,rfl,.lst hl',rfl,_,rfl,aE ?_⟩
    have no:∀H',Same H H'->¬(p.length<rows.length/\ps.length=(dd p).length+1)->Q (.bl false) H':=fun H' s e=>by
     have z:=q H' s
     rw[decide_eq_false e,Bd]at z
     exact z
    refine⟨_,rfl,_,p.length,rfl,.inl ⟨_,SqL.of hpa,by rw[AC]⟩,_,rfl,_,rows.length,rfl,.inl ⟨_,SqL.of hb,by rw[AC,rl]⟩,rfl,_,rfl,gS (fun e=>no H (Same.refl _) fun z=>by omega) fun ne=>?_⟩
    refine⟨_,rfl,tp,_,_,_,rfl,rfl,SqT.of ht,rfl,_,vs'.length,rfl,.inl ⟨_,SqL.of hl',rfl⟩,_,rfl,pa,p,rfl,SqL.of hpa,by omega,fun H1 s1=>⟨_,_,rfl,rfl,rfl,_,rfl,rZ (fun h=>no H1 s1 fun z=>h (by omega)) fun e=>?_⟩⟩
    have q2:∀H',Same H H'->Q (.bl ((AH ps.length).all fun(j:Nat)=>cP rows (ts.map dy) bd n (p++[(j:Int)]) (ps.getD j default))) H':=fun H' s=>by
     have z:=q H' s
     rw[decide_eq_true (show p.length<rows.length/\ps.length=(dd p).length+1 from⟨by omega,by omega⟩),Bool.true_and]at z
     exact z
    refine⟨_,rfl,tp,_,_,_,rfl,rfl,SqT.of (s1 _ _ ht),rfl,_,vs'.length,rfl,.inl ⟨_,SqL.of (s1 _ _ hl'),rfl⟩,_,rfl,gD _,by omega,?_⟩
    rw[Ba]
    cases gb with
    | split _ gb=>
    refine bW (n:=vs'.length) (fun i σ H2=>∃x:Option V,σ=[some (.ref pa),some (.ref b),some (.ref ta),some (.int bd),some (.ref tp),x]/\Same H H2/\∀j,j<i->cP rows (ts.map dy) bd n (p++[(j:Int)]) (ps.getD j default)=true) ⟨none,rfl,s1,fun j z=>by omega⟩ ?_ ?_
    ·rintro i σ H2 hi ⟨x,rfl,s2,al⟩
     have ei:(0:Int)+(i:Int)=((i:Nat):Int):=by omega
     rw[ei]
     have hpa2:=s2 _ _ hpa
     have hip:i<ps.length:=by omega
     have ep:ps.getD i default=ps[i]:=by rw[AE,AD hip];rfl
     refine⟨_,rfl,_,rfl,bM,fun q1 nq1=>?_⟩
     have s3:=Same.new (o:= .lst [V.int ((i:Nat):Int)]) nq1
     refine⟨pa,q1,_,_,rfl,rfl,s3 _ _ hpa2,af,uq (by simp;omega),fun r nr=>?_⟩
     have e5:p.map V.int++[V.int ((i:Nat):Int)]=(p++[((i:Nat):Int)]).map V.int:=by rw[AW];rfl
     rw[e5]
     have s4:=s3.to (o:= .lst ((p++[((i:Nat):Int)]).map V.int)) nr
     have s04:=s2.trans s4
     refine⟨_,rfl,_,rfl,_,rfl,_,rfl,tp,_,_,_,rfl,rfl,SqT.of (s04 _ _ ht),rfl,_,rfl,l,_,_,_,rfl,rfl,SqL.of (s04 _ _ hl'),bw (AD hi),r,b,ta,bd,vs'[i],p++[((i:Nat):Int)],rs,rows,ts,ps[i],rfl,af,s04 _ _ hb,bl.same s04,r6,rok,⟨s04.seq tt.ls,fun x hx=>(tt.ea x hx).same s04,tt.ln⟩,dP c (by omega),by simp;omega,by simp;omega,(hat i _ _ (AD hi) (AD hip)).same s04,gb _ (A1 hip),fun H5 s5=>⟨_,rfl,?_⟩⟩
     cases hbv:cP rows (ts.map dy) bd n (p++[((i:Nat):Int)]) ps[i]with
     | false=>
      refine bP ?_
      have z:=q2 H5 (s04.trans s5)
      rw[show((AH ps.length).all fun(j:Nat)=>cP rows (ts.map dy) bd n (p++[(j:Int)]) (ps.getD j default))=false from Bool.eq_false_iff.mpr fun w=>by
       have:=AX.mp w i (Bb.mpr hip)
       rw[ep,hbv]at this
       cases this]at z
      exact z
     | true=>
      refine aE ⟨_,rfl,s04.trans s5,fun j hj=>?_⟩
      by_cases z:j=i
      ·subst z;rw[ep];exact hbv
      ·exact al j (by omega)
    ·rintro σ H2 ⟨x,rfl,s2,al⟩
     have z:=q2 H2 s2
     rw[show((AH ps.length).all fun(j:Nat)=>cP rows (ts.map dy) bd n (p++[(j:Int)]) (ps.getD j default))=true from AX.mpr fun j hj=>al j (by have:=Bb.mp hj;omega)]at z
     exact z
   | @dear tp l d pr es ht hl' hd=>
    simp only[mj]at q
    refine⟨_,rfl,_,_,_,true,rfl,.tup ht,rfl,_,rfl,aE ?_⟩
    refine⟨_,rfl,_,3,rfl,.inr ⟨_,SqT.of ht,rfl⟩,_,_,rfl,rfl,_,rfl,aE ?_⟩
    refine⟨_,rfl,tp,_,_,_,rfl,rfl,SqT.of ht,rfl,rfl,_,rfl,bP ?_⟩
    refine⟨_,rfl,rfl,_,rfl,aE ?_⟩
    refine⟨_,rfl,_,3,rfl,.inr ⟨_,SqT.of ht,rfl⟩,rfl,_,rfl,kz rfl ?_⟩
    cases gb with
    | dear g1 g2=>
    exact⟨_,rfl,tp,_,_,_,rfl,rfl,SqT.of ht,rfl,_,rfl,tp,_,_,_,rfl,rfl,SqT.of ht,rfl,_,rfl,_,rfl,_,rfl,pa,b,l,d,bd,p,pr,es,rs,rows,rfl,SqL.of hpa,hb,bl,r6,rok,c,hl,hl',hd,g2,q⟩
 exact all 7
theorem yb {f:Nat->Int} {n:Nat} {ts:List (Addr×Addr×Str×Int×List Nat)} {i:Nat} {x:Addr×Addr×Str×Int×List Nat} (hx:ts[i]?=some x) (hb:brk f n x.2.2.1 x.2.2.2.1 x.2.2.2.2=true) (al:∀y∈ts.take i,brk f n y.2.2.1 y.2.2.2.1 y.2.2.2.2=false):oJ f n ts=some i:=by
 obtain⟨h1,e1⟩:=AF.mp hx
 unfold oJ
 rw[Cj]
 refine⟨h1,by rw[e1];exact hb,fun j hj=>?_⟩
 have:=al ts[j] (BB.mpr ⟨j,by rw[List.getElem?_take_of_lt hj,AD]⟩)
 rw[this]
 exact AO
theorem yc {f:Nat->Int} {n:Nat} {ts:List (Addr×Addr×Str×Int×List Nat)} (al:∀y∈ts,brk f n y.2.2.1 y.2.2.2.1 y.2.2.2.2=false):oJ f n ts=none:=by
 unfold oJ
 rw[List.findIdx?_eq_none_iff]
 exact al
theorem vA (P:Nat->Prop) (n:Nat) (h:∃j,j<n/\P j):∃j,j<n/\P j/\∀m,m<j->¬P m:=by
 induction n with
 | zero=>obtain⟨j,z,_⟩:=h;omega
 | succ n ih=>
  by_cases c:∃j,j<n/\P j
  ·obtain⟨j,a,b⟩:=ih c
   exact⟨j,by omega,b⟩
  ·obtain⟨j,a,b⟩:=h
   have:j=n:=Decidable.byContradiction fun z=>c ⟨j,by omega,b⟩
   subst this
   exact⟨j,a,b,fun m hm y=>c ⟨m,hm,y⟩⟩
theorem vB {H0:Hp} {c:Addr} {H H':Hp} (s:SameBut c H H'):Same (mY c (nw H0 H)) (mY c (nw H0 H')):=fun b o e=>by
 obtain⟨n,e⟩:=md e
 obtain⟨e1,e2⟩:=jU e
 unfold mY
 rw[if_neg n]
 exact dR e1 (s b o n e2)
theorem wR {H0:Hp} {c:Addr} {H H':Hp} (s:Same H H'):Same (mY c (nw H0 H)) (mY c (nw H0 H')):=vB fun b o _ e=>s b o e
def eX (K:PySem.W.Frag) (m:Nat):Sp:=fun vs H Q _=>∃(pa b ta:Addr) (more:Int) (deep:Nat) (p:List Int) (rs:List Addr) (rows:cw) (U:List Int) (ts:List (Addr×Addr×Str×Int×List Nat)),vs=[.ref pa,.ref b,.ref ta,.int more,.int ((deep:Nat):Int)]/\H pa=some (.lst (p.map V.int))/\H b=some (.lst (rs.map V.ref))/\BillL H rs rows/\QB rows U/\Ties K H ta ts 100/\bR p/\p.length<=deep/\deep<=rows.length/\deep<p.length+m/\∀v g H',Same H H'->BPapAt (nw H H') v g->PapIs rows ts more deep p g->Q v H'
def iU (K:PySem.W.Frag):Sp:=eX K 7
theorem bF:FnScope ["pattern","bill","ties","more","deep","k","pools","block","longer","prices","met","costs"] ["pattern","bill","ties","more","deep"] (ar fY):=⟨rfl,rfl,rfl,by decide +kernel,rfl,by decide +kernel,by decide +kernel⟩
theorem nL (D:Dfs K mg aF dF) (T:Txt mg):FnOk P w K mg base aX 17 (aF 44) (dF 44) ["pattern","bill","ties","more","deep"] (iU K):=by
 have Glaw_wide:FnOk P w K mg base aX 1 (aF 36) (dF 36) ["pattern"] (dD K):=eJ D T
 have Glaw_pool:FnOk P w K mg base aX 1 (aF 37) (dF 37) ["block","pattern","bill"] (eK K):=gv D T
 have Glaw_minutes:FnOk P w K mg base aX 1 (aF 38) (dF 38) ["badge","block","pattern","bill"] (dY K):=gw D T
 have Glaw_breaks:FnOk P w K mg base aX 1 (aF 39) (dF 39) ["pattern","tie"] (eV K):=gN D T
 have all:∀n,FnOk P w K mg base aX (10+n) (aF 44) (dF 44) ["pattern","bill","ties","more","deep"] (eX K n):=by
  intro n
  induction n with
  | zero=>
   have no:∀vs H Q E,¬eX K 0 vs H Q E:=fun vs H Q E h=>by
    obtain⟨pa,b,ta,more,deep,p,rs,rows,U,ts,_,_,_,_,_,_,_,h1,_,h2,_⟩:=h
    omega
   exact⟨fun vs H Q E h=>absurd h (no vs H Q E),fun A outer s H args us vs Q E _ _ _ _ h=>absurd h (no vs H Q E)⟩
  | succ n Glaw_paper=>
   refine D.law_paper.fn.ok bF (fun vs H Q E h=>?_) (fun cdv A outer s H vs Q E hr h=>?_)
   ·obtain⟨pa,b,ta,more,deep,p,rs,rows,U,ts,rfl,_⟩:=h;rfl
   obtain⟨pa,b,ta,more,deep,p,rs,rows,U,ts,rfl,hpa,hb,bl,qb,tt,c,hpd,dr,hdm,q⟩:=h
   have hl:p.length<=rows.length:=A9 hpd dr
   have rk:Nat.add 10 n=10+n:=rfl
   refine⟨_,(ag (bH PassesOwn.never rfl (aY rfl T.z_range (aa (ai (bx K) (by rfl) T.z_len boot_len (aa (pv 2) ab)) ab)) (aq (i:=5) bF.nd rfl (Or.inl rfl))
    (ah (az (bg (pc D.law_breaks Glaw_breaks (hr.mono (by have:=rk;omega)) (aa (pv 0) (aa (ao (cU K) (pv 2) (pv 5) (fun _ _=>rfl)) ab))))
     (ah (aj (aM (aa aP (aa (pv 5) ab)))))
     au)))
   (ag (b9 (i₀:=6) bF.nd rfl (Or.inl rfl) ["block","pattern","bill"] [none,some 0,some 1] rfl (aY rfl T.z_range (aa (pc D.law_wide Glaw_wide (hr.mono (by have:=rk;omega)) (aa (pv 0) ab)) ab)) (fun _=>aq (i:=0) (aB (N:=["block","pattern","bill"]) (by decide +kernel)) rfl (Or.inl rfl)) (fun _=>aJ) (fun _=>(pc D.law_pool Glaw_pool (hr.mono (by have:=rk;omega)) (aa (pv 0) (aa (pv 1) (aa (pv 2) ab))))) ((.cons (fun _ e=>by cases e) (.cons (fun _ e=>by cases e;exact⟨rfl,rfl⟩) (.cons (fun _ e=>by cases e;exact⟨rfl,rfl⟩) .nil)))))
   (ag (az (av (Ax K hr.units) (aA ab) (pv 6) (by with_unfolding_all rfl))
    (ah (aj (aM (aa aP (aa (aA (aa (fL PySem.F.plainAttrs_list PySem.F.slot_list_index PySem.F.type_list_index (tG K hr.units) (pv 6) (aa (aA ab) ab)) ab)) ab)))))
    au)
   (ag (az (av di (ai (bx K) (by rfl) T.z_len boot_len (aa (pv 0) ab)) (pv 4) (aw _))
    (ag (b9 (i₀:=8) bF.nd rfl (Or.inl rfl) ["k","pattern"] [none,some 0] rfl (aY rfl T.z_range (aa (ak aG (ai (bx K) (by rfl) T.z_len boot_len (aa (pv 6) ab)) ae) ab)) (fun _=>aq (i:=0) (aB (N:=["k","pattern"]) (by decide +kernel)) rfl (Or.inl rfl)) (fun _=>aJ) (fun _=>(ak fM (pv 1) (aA (aa (pv 0) ab)))) ((.cons (fun _ e=>by cases e) (.cons (fun _ e=>by cases e;exact⟨rfl,rfl⟩) .nil))))
    (ah (aj (aM (aa aP (aa (aL ["one","bill","ties","more","deep"] [none,some 1,some 2,some 3,some 4] rfl (gG K (pv 8)) (fun _=>aq (i:=0) (aB (N:=["one","bill","ties","more","deep"]) (by decide +kernel)) rfl (Or.inl rfl)) (fun _=>aJ) (fun _=>(pc D.law_paper Glaw_paper hr (aa (pv 0) (aa (pv 1) (aa (pv 2) (aa (pv 3) (aa (pv 4) ab))))))) ((.cons (fun _ e=>by cases e) (.cons (fun _ e=>by cases e;exact⟨rfl,rfl⟩) (.cons (fun _ e=>by cases e;exact⟨rfl,rfl⟩) (.cons (fun _ e=>by cases e;exact⟨rfl,rfl⟩) (.cons (fun _ e=>by cases e;exact⟨rfl,rfl⟩) .nil))))))) ab))))))
    au)
   (ag (ax (i:=9) bF.nd rfl (Or.inl rfl) (aA ab))
   (ag (ax (i:=10) bF.nd rfl (Or.inl rfl) (aA ab))
   (ag (bH PassesOwn.never rfl (aY rfl T.z_range (aa (ai (bx K) (by rfl) T.z_len boot_len (aa (pv 6) ab)) ab)) (aq (i:=7) bF.nd rfl (Or.inr rfl))
    (ag (b9 (i₀:=11) bF.nd rfl (Or.inl rfl) ["badge","block","pattern","bill"] [none,some 7,some 0,some 1] rfl (gG K (ao (cU K) (pv 6) (pv 7) (fun _ _=>rfl))) (fun _=>aq (i:=0) (aB (N:=["badge","block","pattern","bill"]) (by decide +kernel)) rfl (Or.inl rfl)) (fun _=>aJ) (fun _=>(pc D.law_minutes Glaw_minutes (hr.mono (by have:=rk;omega)) (aa (pv 0) (aa (pv 1) (aa (pv 2) (aa (pv 3) ab)))))) ((.cons (fun _ e=>by cases e) (.cons (fun _ e=>by cases e;exact⟨rfl,rfl⟩) (.cons (fun _ e=>by cases e;exact⟨rfl,rfl⟩) (.cons (fun _ e=>by cases e;exact⟨rfl,rfl⟩) .nil))))))
    (ag (c4 (fL PySem.F.plainAttrs_list PySem.F.slot_list_append PySem.F.type_list_append bO (pv 9) (aa (ak aG (ai (yR K) (by rfl) T.z_min boot_min (aa (pv 11) ab)) (pv 3)) ab)))
    (ah (ax (i:=10) bF.nd rfl (Or.inl rfl) (ak fM (pv 10) (ao (cU K) (pv 6) (pv 7) (fun _ _=>rfl))))))))
   (ag (az (av bj (pv 3) ae (aw _))
    (ah (aj (aM (aa aP (aa (pv 9) (aa (aA ab) ab))))))
    au)
   (ah (aj (aM (aa aP (aa (pv 9) (aa (aL ["badge","more"] [none,some 3] rfl (gG K (ai (kg w) (by rfl) T.z_sorted boot_sorted (aa (aI (mQ w K) (by rfl) T.z_set PyProof.Rows.boot_set (aa (pv 10) ab)) ab))) (fun _=>aq (i:=0) (aB (N:=["badge","more"]) (by decide +kernel)) rfl (Or.inl rfl)) (fun _=>aJ) (fun _=>(aM (aa (pv 0) (aa (pv 1) ab)))) ((.cons (fun _ e=>by cases e) (.cons (fun _ e=>by cases e;exact⟨rfl,rfl⟩) .nil)))) ab)))))))))))))),?_⟩
   have r6:=qb.r6
   have dl:=bV p
   have tl:=tt.ln
   have tOk:∀Hx,Same H Hx->Ties K Hx ta ts 100:=fun Hx sx=>⟨sx.seq tt.ls,fun x hx=>(tt.ea x hx).same sx,tt.ln⟩
   refine⟨_,rfl,_,ts.length,rfl,.inl ⟨_,tt.ls,by rw[AC]⟩,_,rfl,gD _,by omega,?_⟩
   rw[Ba]
   refine bW (n:=ts.length) (fun i σ Hx=>∃x:Option V,σ=[some (.ref pa),some (.ref b),some (.ref ta),some (.int more),some (.int ((deep:Nat):Int)),x,none,none,none,none,none,none]/\Same H Hx/\∀y∈ts.take i,brk (fun i=>p.getD i 0) p.length y.2.2.1 y.2.2.2.1 y.2.2.2.2=false) ⟨none,rfl,Same.refl _,fun _ z=>by cases z⟩ ?_ ?_
   ·rintro i σ Hx hi ⟨x,rfl,sx,al⟩
    have ei:(0:Int)+(i:Int)=((i:Nat):Int):=by omega
    rw[ei]
    obtain⟨y,hy⟩:∃y,ts[i]?=some y:=⟨_,AD hi⟩
    have te:=(tt.ea y (AJ hy)).same sx
    refine⟨_,rfl,_,rfl,_,rfl,ta,_,_,_,rfl,rfl,sx.seq tt.ls,bw (by rw[AG,hy];rfl),pa,y.1,y.2.1,p,y.2.2.2.2,y.2.2.1,y.2.2.2.1,rfl,SqL.of (sx _ _ hpa),SqT.of te.tp,SqT.of te.ts,te.wd,te.sl,fun H1 s1=>⟨_,rfl,zI (fun hbk=>?_) fun hbk=>?_⟩⟩
    ·refine⟨_,rfl,bM,fun t nt=>?_⟩
     have s2:=(sx.trans s1).to (o:= .tup [.str "tie",.int ((i:Nat):Int)]) nt
     exact q _ _ _ s2 (.tie (dR ((sx.trans s1).free nt) af)) (.tie (yb hy hbk al))
    ·refine⟨_,rfl,sx.trans s1,fun z hz=>?_⟩
     rw[cG hy]at hz
     rcases AZ.mp hz with w' | w'
     ·exact al z w'
     ·rw [AN.mp w'];exact hbk
   rintro σ H1 ⟨x5,rfl,s1,al⟩
   rw[Bg]at al
   have fn:=yc al
   refine⟨_,rfl,pa,p,rfl,SqL.of (s1 _ _ hpa),by omega,fun H2 s2=>⟨_,rfl,gD _,by omega,?_⟩⟩
   rw[Ba]
   have s02:=s1.trans s2
   refine i7 (n:=(dd p).length) (fun acc ys Hy=>∃us:List Addr,ys=us.map V.ref/\RowsL Hy us ((AH ys.length).map fun b=>bS rows (aU p b))/\∀u∈us,u≠acc) (by omega) (fun acc ys Hx Hy ⟨us,e,ro,ne⟩ sb=>⟨us,e,ro.but ne sb,ne⟩) (fun _ _=>⟨[],rfl,.nil,fun _ z=>by cases z⟩) (fun acc j ys H3 R hj s3 nacc hacc yl ⟨us,e,ro,ne⟩ k=>?_) fun po ys H3 s3 npo hpo yl ⟨us,e,ro,ne⟩=>?_
   ·have s03:=s02.trans s3
    have ej:(0:Int)+(j:Int)=((j:Nat):Int):=by omega
    refine⟨_,rfl,_,rfl,_,rfl,j,pa,b,p,rs,rows,(by show [V.int (0+(j:Int)),_,_]=_;rw[ej]),SqL.of (s03 _ _ hpa),s03 _ _ hb,bl.same s03,c,hj,hl,r6,qb.ok,fun u H4 s4 nu hu'=>?_⟩
    have ua:u≠acc:=fun z=>by rw[z,hacc]at nu;cases nu
    refine k _ H4 s4 ⟨us++[u],by rw[e,AW];rfl,?_,fun z hz=>?_⟩
    ·rw [AK,AS,Bw,AW,yl]
     rw[yl]at ro
     exact bE (ro.same s4) hu'
    ·rcases AZ.mp hz with w' | w'
     ·exact ne z w'
     ·rw [AN.mp w'];exact ua
   subst e
   rw[yl]at ro
   rw[AC]at yl
   have s03:=s02.trans s3
   have uk:∀{Hx:Hp} {j:Nat},Same H3 Hx->j<(dd p).length->Hx (us.getD j 0)=some (.lst ((bS rows (aU p j)).map V.int)):=fun {Hx j} sx hj=>by
    obtain⟨u,e1,e2⟩:=ro.at (i:=j) (p:=bS rows (aU p j)) (by rw[AG,Bz hj];rfl)
    rw[show us.getD j 0=u from xh e1]
    exact sx _ _ e2
   have emp:∀{Hx:Hp} {j:Nat},Same H3 Hx->j<(dd p).length->qu Hx (us.getD j 0)=(bS rows (aU p j)).isEmpty:=fun {Hx j} sx hj=>by
    unfold qu
    rw[uk sx hj]
    cases bS rows (aU p j)<;>rfl
   have ude:∀{Hx:Hp} {e:Addr},Same H3 Hx->Hx e=some (.lst [])->∀u∈us,DEq K Hx 1 (.ref u) (.ref e) (qu Hx u):=fun {Hx e} sx he u hu'=>by
    obtain⟨j,hj⟩:=BB.mp hu'
    obtain⟨_,_,e2⟩:=bG ro hj
    exact wD (sx _ _ e2) (SqL.of he)
   refine⟨bM,fun e0 ne0=>?_⟩
   have s4:=Same.new (o:= .lst []) ne0
   have he0:ay H3 e0 (.lst []) e0=some (.lst []):=af
   generalize ay H3 e0 (.lst [])=H4 at s4 he0
   refine⟨_,rfl,po,us,1,qu H4,rfl,SqL.of (s4 _ _ hpo),by decide,ude s4 he0,_,rfl,?_⟩
   rw[if_neg AO]
   refine zI (fun hany=>?_) fun hany=>?_
   ·obtain⟨u,hu',eu⟩:=List.any_eq_true.mp hany
    obtain⟨j0,hj0⟩:=BB.mp hu'
    have j0l:=(AF.mp hj0).1
    obtain⟨j,jl,je,jf⟩:=vA (fun j=>bS rows (aU p j)=[]) (dd p).length ⟨j0,by omega,by
     have:=emp s4 (show j0<(dd p).length by omega)
     rw[xh hj0,eu]at this
     exact List.isEmpty_iff.mp this.symm⟩
    have s04:=s03.trans s4
    refine⟨_,rfl,.inl ⟨rfl,_,SqL.of (s4 _ _ hpo)⟩,bM,fun e1 ne1=>?_⟩
    have s5:=Same.new (o:= .lst []) ne1
    have he1:ay H4 e1 (.lst []) e1=some (.lst []):=af
    generalize ay H4 e1 (.lst [])=H5 at s5 he1
    have s45:=s4.trans s5
    refine⟨po,us,_,1,j,qu H5,rfl,rfl,s45 _ _ hpo,by decide,ude s45 he1,by omega,?_,fun m hm=>?_,by omega,bM,fun l nl=>⟨bM,fun t nt=>?_⟩⟩
    ·rw [emp s45 jl,je];rfl
    ·rw [emp s45 (by omega)]
     cases e:bS rows (aU p m)with
     | nil=>exact absurd e (jf m hm)
     | cons x r=>rfl
    have s05:=s04.trans s5
    have s6:=Same.new (o:= .lst [.int ((j:Nat):Int)]) nl
    have s7:=Same.new (o:= .tup [.str "short",.ref l]) nt
    exact q _ _ _ ((s05.trans s6).trans s7) (.short (dR ((s05.trans s6).free nt) af) (dR (s05.free nl) (s7 _ _ af))) (.short fn jl je jf)
   have nek:∀j,j<(dd p).length->bS rows (aU p j)≠[]:=fun j hj z=>by
    have:=List.any_eq_false.mp hany (us.getD j 0) (by rw[AE,AD (by omega)];exact A1 _)
    rw[emp s4 hj,z]at this
    exact this rfl
   have s04:=s03.trans s4
   have hpo4:=s4 _ _ hpo
   refine⟨_,rfl,_,p.length,rfl,.inl ⟨_,SqL.of (s04 _ _ hpa),by rw[AC]⟩,_,rfl,_,_,rfl,rfl,_,rfl,pD (fun lt=>?_) fun ge=>?_⟩
   ·have lt:p.length<deep:=by omega
    refine⟨_,rfl,_,(dd p).length,rfl,.inl ⟨_,SqL.of hpo4,by rw[AC];exact yl.symm⟩,_,_,rfl,rfl,_,rfl,by omega,by omega,?_⟩
    rw[show(((dd p).length:Int)+1).toNat=(dd p).length+1 by omega]
    refine i7 (n:=(dd p).length+1) (fun acc ys Hy=>∃ls:List Addr,ys=ls.map V.ref/\RowsL Hy ls ((AH ys.length).map fun(k:Nat)=>p++[(k:Int)])/\∀u∈ls,u≠acc) (by omega) (fun acc ys Hx Hy ⟨ls,e,ro,ne⟩ sb=>⟨ls,e,ro.but ne sb,ne⟩) (fun _ _=>⟨[],rfl,.nil,fun _ z=>by cases z⟩) (fun acc j ys H5 R hj s5 nacc hacc yl2 ⟨ls,e,ro2,ne2⟩ k=>?_) fun lg ys H5 s5 nlg hlg yl2 ⟨ls,e,ro2,ne2⟩=>?_
    ·have ej:(0:Int)+(j:Int)=((j:Nat):Int):=by omega
     rw[ej]
     refine⟨_,rfl,_,rfl,bM,fun q1 nq1=>?_⟩
     have s6:=Same.new (o:= .lst [V.int ((j:Nat):Int)]) nq1
     refine⟨pa,q1,_,_,rfl,rfl,s6 _ _ ((s04.trans s5) _ _ hpa),af,uq (by simp;omega),fun u nu=>?_⟩
     have e5:p.map V.int++[V.int ((j:Nat):Int)]=(p++[((j:Nat):Int)]).map V.int:=by rw[AW];rfl
     rw[e5]
     have s7:=s6.to (o:= .lst ((p++[((j:Nat):Int)]).map V.int)) nu
     have ua:u≠acc:=fun z=>by rw[z,s6 _ _ hacc]at nu;cases nu
     refine k _ _ s7 ⟨ls++[u],by rw[e,AW];rfl,?_,fun z hz=>?_⟩
     ·have er:(AH (j+1)).map (fun(k:Nat)=>p++[(k:Int)])=(AH j).map (fun(k:Nat)=>p++[(k:Int)])++[p++[(j:Int)]]:=by rw[Bw,AW];rfl
      rw[AK,AS,yl2,er]
      rw[yl2]at ro2
      exact bE (ro2.same s7) af
     ·rcases AZ.mp hz with w' | w'
      ·exact ne2 z w'
      ·rw [AN.mp w'];exact ua
    subst e
    rw[yl2]at ro2
    rw[AC]at yl2
    have s05:=s04.trans s5
    refine⟨_,rfl,lg,rfl,⟨_,SqL.of hlg⟩,?_⟩
    refine gA (xs:=ls.map V.ref) (fun acc ys Hy=>∃gs:List BPap,gs.length=ys.length/\∀(i:Nat) v g,ys[i]?=some v->gs[i]?=some g->BPapAt (mY acc (nw H Hy)) v g/\PapIs rows ts more deep (p++[(i:Int)]) g) (SqL.of hlg) (by rw[AC];omega) (fun acc ys Hx Hy ⟨gs,e,al2⟩ sb=>⟨gs,e,fun i v g hv hg=>⟨(al2 i v g hv hg).1.same (vB sb),(al2 i v g hv hg).2⟩⟩) (fun _ _=>⟨[],rfl,fun i v g z=>by cases z⟩) (fun acc i x ys H6 R hx s6 nacc hacc yl3 ⟨gs,e,al2⟩ k=>?_) fun acc ys H6 s6 nacc hacc yl3 ⟨gs,e,al2⟩=>?_
    ·rw [AG]at hx
     obtain⟨u,hu',rfl⟩:=AL.mp hx
     have il:=(AF.mp hu').1
     obtain⟨pp,hpp,eu⟩:=bG ro2 hu'
     rw[AG,Bz (by omega)]at hpp
     cases hpp
     have s06:=s05.trans s6
     refine⟨_,rfl,_,rfl,_,rfl,_,rfl,_,rfl,u,b,ta,more,deep,p++[(i:Int)],rs,rows,U,ts,rfl,s6 _ _ eu,s06 _ _ hb,bl.same s06,qb,tOk _ s06,dP c (by omega),by simp;omega,dr,by simp;omega,fun v g H7 s7 bp pi=>?_⟩
     refine k v H7 s7 ⟨gs++[g],by rw[AK,AK,e];rfl,fun i' v' g' hv hg=>?_⟩
     by_cases z:i'<ys.length
     ·rw [Bp z]at hv
      rw[Bp (by omega)]at hg
      exact⟨(al2 i' v' g' hv hg).1.same (wR s7),(al2 i' v' g' hv hg).2⟩
     ·have il':=(AF.mp hv).1
      rw[AK,AS]at il'
      have ei:i'=ys.length:=by omega
      subst ei
      rw[Bo (AI _),B3]at hv
      rw[<- e,Bo (AI _),B3]at hg
      cases hv
      cases hg
      rw[yl3]
      refine⟨bp.same fun a o z=>?_,pi⟩
      obtain⟨z1,z2⟩:=jU z
      have na:a≠acc:=fun y=>by rw[y,hacc]at z1;cases z1
      unfold mY
      rw[if_neg na]
      exact dR (s06.free z1) z2
    ·rw [AC,yl2]at yl3
     have s06:=s05.trans s6
     refine⟨bM,fun t nt=>?_⟩
     have s7:=Same.new (o:= .tup [.str "split",.ref acc]) nt
     refine q _ (.split gs) _ (s06.trans s7) (.split (dR (s06.free nt) af) (dR (s05.free nacc) (s7 _ _ hacc)) e.symm fun i v g hv hg=>(al2 i v g hv hg).1.same fun a o z=>?_) (.split fn nek lt (by omega) fun k g hg=>?_)
     ·obtain⟨_,z⟩:=md z
      obtain⟨z1,z2⟩:=jU z
      exact dR z1 (s7 _ _ z2)
     ·have kl:=(AF.mp hg).1
      exact(al2 k _ g (AD (by omega)) hg).2
   ·refine⟨bM,fun lp nlp=>?_⟩
    have s5:=Same.new (o:= .lst []) nlp
    have hlp:ay H4 lp (.lst []) lp=some (.lst []):=af
    generalize ay H4 lp (.lst [])=H5 at s5 hlp
    refine⟨bM,fun lm nlm=>?_⟩
    have s6:=Same.new (o:= .lst []) nlm
    have hlm:ay H5 lm (.lst []) lm=some (.lst []):=af
    have hlp6:=s6 _ _ hlp
    have nmp:lm≠lp:=fun z=>by rw[z,hlp]at nlm;cases nlm
    generalize ay H5 lm (.lst [])=H6 at s6 hlm hlp6
    have s46:=s5.trans s6
    refine⟨_,rfl,_,(dd p).length,rfl,.inl ⟨_,SqL.of (s46 _ _ hpo4),by rw[AC];exact yl.symm⟩,_,rfl,gD _,by omega,?_⟩
    rw[Ba]
    refine bW (n:=(dd p).length) (fun i σ Hx=>∃(x7 x11:Option V) (lm:Addr) (pr ms:List Int),σ=[some (.ref pa),some (.ref b),some (.ref ta),some (.int more),some (.int ((deep:Nat):Int)),x5,some (.ref po),x7,none,some (.ref lp),some (.ref lm),x11]/\Same H4 Hx/\Hx lp=some (.lst (pr.map V.int))/\pr.length=i/\(∀b,b<i->∃m,pr.getD b 0=m+more/\m∈jx rows p b/\∀x∈jx rows p b,m<=x)/\lm≠lp/\Hx lm=some (.lst (ms.map V.int))/\ms.length<=20*i/\∀x,x∈ms<->∃b,b<i/\x∈bS rows (aU p b)) ⟨none,none,lm,[],[],rfl,s46,hlp6,rfl,fun b z=>by omega,nmp,hlm,A0 _,fun x=>⟨(fun z=>by cases z),(fun⟨_,z,_⟩=>by omega)⟩⟩ ?_ ?_
    ·rintro i σ Hx hi ⟨x7,x11,lm,pr,ms,rfl,sx,hlp,prl,prm,nmp,hlm,msl,msm⟩
     have ei:(0:Int)+(i:Int)=((i:Nat):Int):=by omega
     rw[ei]
     have s3x:=s4.trans sx
     have s0x:=s04.trans sx
     have ui:=uk s3x hi
     have kl:=(ng qb (aU p i) (cM c hi))
     have uat:lL (us.map V.ref) (i:Int)=some (.ref (us.getD i 0)):=bw (by rw[AG,AD (by omega),AE,AD (by omega)];rfl)
     generalize us.getD i 0=u at ui uat
     refine⟨_,rfl,_,rfl,po,_,_,_,rfl,rfl,SqL.of (sx _ _ hpo4),uat,u,rfl,⟨_,SqL.of ui⟩,?_⟩
     refine bD (xs:=(bS rows (aU p i)).map V.int) (fun _=>true) (fun j=> .int (iI rows (aU p i) ((bS rows (aU p i)).getD j 0))) (SqL.of ui) (by rw[AC];omega) (fun _ _ _ _ _ _ k=>k _ (Same.refl _)) (fun j v hv _ H7 R s7 k=>?_) fun cl H7 s7 ncl hcl=>?_
     ·obtain⟨g,hg,rfl,ed⟩:=cN hv
      rw[ed]at k
      have s07:=s0x.trans s7
      exact⟨_,rfl,_,rfl,_,rfl,_,rfl,g,i,pa,b,p,rs,rows,rfl,SqL.of (s07 _ _ hpa),s07 _ _ hb,bl.same s07,hl,r6,qb.nd,(ku _ (cM c hi) g).mp (AJ hg),fun H8 s8=>k H8 s8⟩
     rw[A8.mpr (fun _ _=>rfl),AC]at hcl
     have ec:(AH (bS rows (aU p i)).length).map (fun j=>V.int (iI rows (aU p i) ((bS rows (aU p i)).getD j 0)))=(jx rows p i).map V.int:=by
      unfold jx
      rw[A3]
      exact ql fun j x hx=>by rw[xh hx];rfl
     rw[ec]at hcl
     have hlp7:=s7 _ _ hlp
     have cne:jx rows p i≠[]:=fun z=>nek i hi (List.map_eq_nil_iff.mp z)
     refine⟨_,rfl,.inl ⟨rfl,_,SqL.of hlp7⟩,_,rfl,cl,jx rows p i,rfl,SqL.of hcl,cne,fun m hm1 hm2=>⟨_,rfl,_,_,rfl,rfl,lp,_,_,rfl,rfl,hlp7,mK (by rw[AC];omega),?_⟩⟩
     have s8:Same H4 (ay H7 lp (.lst (pr.map V.int++[.int (m+more)]))):=(sx.trans s7).put nlp
     have hlp8:ay H7 lp (.lst (pr.map V.int++[.int (m+more)])) lp=some (.lst ((pr++[m+more]).map V.int)):=by rw[af,AW];rfl
     have hlm8:ay H7 lp (.lst (pr.map V.int++[.int (m+more)])) lm=some (.lst (ms.map V.int)):=by rw[aC nmp];exact s7 _ _ hlm
     have ul:u≠lp:=fun z=>by
      have:=uk s4 hi
      have e2:=uk s3x hi
      rw[z]at ui
      have:H3 lp=none:=by
       cases y:H3 lp with
       | none=>rfl
       | some o=>have:=s4 _ _ y;rw[nlp]at this;cases this
      obtain⟨u',w1,w2⟩:=ro.at (i:=i) (p:=bS rows (aU p i)) (by rw[AG,Bz hi];rfl)
      rw[bw (by rw[AG,w1];rfl)]at uat
      cases uat
      rw[z,this]at w2
      cases w2
     have hu8:ay H7 lp (.lst (pr.map V.int++[.int (m+more)])) u=some (.lst ((bS rows (aU p i)).map V.int)):=by rw[aC ul];exact s7 _ _ ui
     generalize ay H7 lp (.lst (pr.map V.int++[.int (m+more)]))=H8 at s8 hlp8 hlm8 hu8
     refine⟨_,rfl,_,rfl,_,rfl,po,_,_,_,rfl,rfl,SqL.of (s8 _ _ hpo4),uat,lm,u,_,_,rfl,rfl,hlm8,hu8,uq (by rw[AC,AC];omega),fun lm2 nlm2=>?_⟩
     have n2:lm2≠lp:=fun z=>by rw[z,hlp8]at nlm2;cases nlm2
     have s9:=Same.new (o:= .lst (ms.map V.int++(bS rows (aU p i)).map V.int)) nlm2
     refine⟨_,_,lm2,pr++[m+more],ms++bS rows (aU p i),rfl,s8.trans s9,s9 _ _ hlp8,by rw[AK,prl];rfl,fun j hj=>?_,n2,by rw[af,AW],by rw[AK];omega,fun x=>?_⟩
     ·by_cases z:j<i
      ·obtain⟨m',a1,a2⟩:=prm j z
       refine⟨m',?_,a2⟩
       rw[AE,Bp (by omega),<- AE]
       exact a1
      ·have:j=i:=by omega
       subst this
       refine⟨m,?_,hm1,hm2⟩
       rw[AE,Bo (by omega),prl,B3]
       rfl
     ·rw [AZ,msm]
      constructor
      ·rintro(⟨b',h1,h2⟩ | h)
       ·exact⟨b',by omega,h2⟩
       ·exact⟨i,by omega,h⟩
      ·rintro⟨b',h1,h2⟩
       by_cases z:b'=i
       ·subst z;exact .inr h2
       ·exact .inl ⟨b',by omega,h2⟩
    ·rintro σ Hx ⟨x7,x11,lm,pr,ms,rfl,sx,hlp,prl,prm,nmp,hlm,msl,msm⟩
     have s0x:=s04.trans sx
     have nlp0:=s04.free nlp
     refine⟨_,rfl,rfl,_,rfl,gS (fun m0=>?_) fun m0=>?_⟩
     ·refine⟨_,rfl,bM,fun ed ned=>⟨bM,fun t nt=>?_⟩⟩
      have s7:=Same.new (o:= .lst []) ned
      have s8:=Same.new (o:= .tup [.str "dear",.ref lp,.ref ed]) nt
      have s78:=s7.trans s8
      exact q _ (.dear pr []) _ (s0x.trans s78) (.dear (dR ((s0x.trans s7).free nt) af) (dR nlp0 (s78 _ _ hlp)) ⟨[],dR (s0x.free ned) (s8 _ _ af),.nil⟩) (.dear fn nek (by omega) prl prm (.inl ⟨m0,rfl⟩))
     ·refine⟨_,rfl,_,rfl,lm,ms,rfl,SqL.of hlm,by omega,fun S nS=>?_⟩
      have dml:=bV ms
      have dm26:(dd ms).length<=26:=A9 ((jq ms).length_le_of_subset (l₂:=U) fun x hx=>by
       obtain⟨b',h1,h2⟩:=(msm x).mp (bI.mp hx)
       exact(ng qb (aU p b') (cM c h1)).2.2 x h2) qb.u26
      refine⟨S,dd ms,rfl,af,by omega,fun l2 ks nl2 pm sr=>?_⟩
      have s7:=Same.new (o:= .ext (SX w S (dd ms))) nS
      have s8:=s7.to (o:= .lst (ks.map V.int)) nl2
      have hl2:ay (ay Hx S (.ext (SX w S (dd ms)))) l2 (.lst (ks.map V.int)) l2=some (.lst (ks.map V.int)):=af
      generalize ay (ay Hx S (.ext (SX w S (dd ms)))) l2 (.lst (ks.map V.int))=H8 at s8 hl2
      have kup:ks.Pairwise (· < ·):=mX sr (pm.nodup_iff.mpr (jq ms))
      have kml:ks.length<=26:=by rw[pm.length_eq];exact dm26
      refine⟨l2,rfl,⟨_,SqL.of hl2⟩,?_⟩
      refine gA (xs:=ks.map V.int) (fun acc ys Hy=>∃us:List Addr,ys=us.map V.ref/\Paired (fun u x=>u≠acc/\H8 u=none/\b4 Hy u x) us ((ks.take ys.length).map fun k=>(k,more))) (SqL.of hl2) (by rw[AC];omega) (fun acc ys Hx Hy ⟨us,e,tp⟩ sb=>⟨us,e,Paired.mapP tp fun u x ⟨n,h1,h⟩=>⟨n,h1,sb _ _ n h⟩⟩) (fun _ _=>⟨[],rfl,.nil⟩) (fun acc i x ys H9 R hx s9 nacc hacc yl4 ⟨us,e,tp⟩ k=>?_) fun acc ys H9 s9 nacc hacc yl4 ⟨us,e,tp⟩=>?_
      ·obtain⟨g,hg,rfl,_⟩:=cN hx
       refine⟨_,rfl,_,rfl,bM,fun u nu=>?_⟩
       have s10:=Same.new (o:= .tup [.int g,.int more]) nu
       have ua:u≠acc:=fun z=>by rw[z,hacc]at nu;cases nu
       refine k _ _ s10 ⟨us++[u],by rw[e,AW];rfl,?_⟩
       rw[AK,AS,yl4,cG hg,AW]
       rw[yl4]at tp
       exact bE (Paired.mapP tp fun u x ⟨n,h1,h⟩=>⟨n,h1,s10 _ _ h⟩) ⟨ua,s9.free nu,af⟩
      ·subst e
       rw[AC,AC]at yl4
       rw[AC,yl4,Bg]at tp
       have s09:=(s0x.trans s8).trans s9
       refine⟨bM,fun t nt=>?_⟩
       have s10:=Same.new (o:= .tup [.str "dear",.ref lp,.ref acc]) nt
       have s910:=s9.trans s10
       refine q _ (.dear pr (ks.map fun k=>(k,more))) _ (s09.trans s10) (.dear (dR (s09.free nt) af) (dR nlp0 (s910 _ _ (s8 _ _ hlp))) ⟨us,dR ((s0x.trans s8).free nacc) (s10 _ _ hacc),Paired.mapP tp fun u x ⟨_,h1,h⟩=>dR ((s0x.trans s8).free h1) (s10 _ _ h)⟩) (.dear fn nek (by omega) prl prm (.inr ⟨m0,ks,rfl,kup,fun x=>by rw[pm.mem_iff,bI,msm]⟩))
 exact all 7
inductive LstIs:BPap->Option Int->Prop where
 | tie {j:Int}:LstIs (.tie j) none
 | short {bs:List Int}:LstIs (.short bs) none
 | dear {pr:List Int} {es:List (Int×Int)}:LstIs (.dear pr es) (some (pr.sum-(es.map (·.2)).sum))
 | split {ps:List BPap} {os:List (Option Int)} {r:Option Int} (hn:os.length=ps.length) (h:∀(i:Nat) q o,ps[i]?=some q->os[i]?=some o->LstIs q o) (hr:(r=none/\∀o∈os,o=none)\/∃m,r=some m/\some m∈os/\∀x,some x∈os->m<=x):LstIs (.split ps) r
theorem vC (os:List (Option Int)):((AH os.length).filter fun j=>(os.getD j none).isSome).map (fun j=>hV (os.getD j none))=(os.filterMap id).map V.int:=by
 have e:((AH os.length).filter fun j=>(os.getD j none).isSome).map (fun j=>hV (os.getD j none))=(((AH os.length).map fun j=>os.getD j none).filter Option.isSome).map hV:=by
  rw[Ce,A3];rfl
 rw[e,kA]
 induction os with
 | nil=>rfl
 | cons o os ih=>
  have ih:=ih (by rw[Ce,A3];rfl)
  cases o with
  | none=>exact ih
  | some v=>exact congrArg (V.int v :: ·) ih
def eY (K:PySem.W.Frag) (m:Nat):Sp:=fun vs H Q _=>∃(v:V) (g:BPap) (r:Nat),vs=[v]/\BPapAt H v g/\BBnd g/\BRk r g/\r<m/\∀o H',Same H H'->LstIs g o->Q (hV o) H'
def iV (K:PySem.W.Frag):Sp:=eY K 7
theorem fH:FnScope ["paper","ends"] ["paper"] (ar fZ):=⟨rfl,rfl,rfl,by decide +kernel,rfl,by decide +kernel,by decide +kernel⟩
theorem nM (D:Dfs K mg aF dF) (T:Txt mg):FnOk P w K mg base aX 17 (aF 45) (dF 45) ["paper"] (iV K):=by
 have all:∀n,FnOk P w K mg base aX (10+n) (aF 45) (dF 45) ["paper"] (eY K n):=by
  intro n
  induction n with
  | zero=>
   have no:∀vs H Q E,¬eY K 0 vs H Q E:=fun vs H Q E h=>by
    obtain⟨v,g,r,_,_,_,_,h1,_⟩:=h
    omega
   exact⟨fun vs H Q E h=>absurd h (no vs H Q E),fun A outer s H args us vs Q E _ _ _ _ h=>absurd h (no vs H Q E)⟩
  | succ n Glaw_least=>
   refine D.law_least.fn.ok fH (fun vs H Q E h=>?_) (fun cdv A outer s H vs Q E hr h=>?_)
   ·obtain⟨v,g,r,rfl,_⟩:=h;rfl
   obtain⟨v,g,r,rfl,pat,gb,gr,rn,q⟩:=h
   have rk:Nat.add 10 n=10+n:=rfl
   refine⟨_,(ag (az (av bj (ao (cz K) (pv 0) ae (fun _ _=>rfl)) aP (aw _))
    (ag (b9 (i₀:=1) fH.nd rfl (Or.inl rfl) ["part"] [none] rfl (gG K (ao (cz K) (pv 0) ae (fun _ _=>rfl))) (fun _=>aq (i:=0) (aB (N:=["part"]) (by decide +kernel)) rfl (Or.inl rfl)) (fun _=>aJ) (fun _=>(pc D.law_least Glaw_least hr (aa (pv 0) ab))) ((.cons (fun _ e=>by cases e) .nil)))
    (ag (b9 (i₀:=1) fH.nd rfl (Or.inl rfl) ["end"] [none] rfl (gG K (pv 1)) (fun _=>aq (i:=0) (aB (N:=["end"]) (by decide +kernel)) rfl (Or.inl rfl)) (fun _=>fz (av vN (pv 0) gP (aw _))) (fun _=>(pv 0)) ((.cons (fun _ e=>by cases e) .nil)))
    (ah (aj (wI K (by rfl) T.z_min (aa (pv 1) ab) gP)))))
    au)
   (ag (az (av bj (ao (cz K) (pv 0) ae (fun _ _=>rfl)) aP (aw _))
    (ah (aj (ak cW (ai (sQ K) (by rfl) T.z_sum boot_sum (aa (ao (cz K) (pv 0) ae (fun _ _=>rfl)) ab)) (ai (sQ K) (by rfl) T.z_sum boot_sum (aa (aL ["due"] [none] rfl (gG K (ao (cz K) (pv 0) ae (fun _ _=>rfl))) (fun _=>aq (i:=0) (aB (N:=["due"]) (by decide +kernel)) rfl (Or.inl rfl)) (fun _=>aJ) (fun _=>(ao (cz K) (pv 0) ae (fun _ _=>rfl))) ((.cons (fun _ e=>by cases e) .nil))) ab)))))
    au)
   (ah (aj gP)))),?_⟩
   cases pat with
   | @tie tp j ht=>
    refine⟨_,rfl,tp,_,_,_,rfl,rfl,SqT.of ht,rfl,rfl,_,rfl,?_⟩
    rw[decide_eq_false (by decide)]
    refine aE ?_
    refine⟨_,rfl,tp,_,_,_,rfl,rfl,SqT.of ht,rfl,rfl,_,rfl,?_⟩
    rw[decide_eq_false (by decide)]
    exact aE (q none H (Same.refl _) .tie)
   | @short tp l bs ht hl'=>
    refine⟨_,rfl,tp,_,_,_,rfl,rfl,SqT.of ht,rfl,rfl,_,rfl,?_⟩
    rw[decide_eq_false (by decide)]
    refine aE ?_
    refine⟨_,rfl,tp,_,_,_,rfl,rfl,SqT.of ht,rfl,rfl,_,rfl,?_⟩
    rw[decide_eq_false (by decide)]
    exact aE (q none H (Same.refl _) .short)
   | @dear tp l d pr es ht hl' hd=>
    refine⟨_,rfl,tp,_,_,_,rfl,rfl,SqT.of ht,rfl,rfl,_,rfl,?_⟩
    rw[decide_eq_false (by decide)]
    refine aE ?_
    refine⟨_,rfl,tp,_,_,_,rfl,rfl,SqT.of ht,rfl,rfl,_,rfl,bP ?_⟩
    cases gb with
    | dear g1 g2=>
    obtain⟨dq,hdx,tpx⟩:=id hd
    have dql:=tpx.len
    refine⟨_,rfl,tp,_,_,_,rfl,rfl,SqT.of ht,rfl,l,pr,rfl,SqL.of hl',?_⟩
    refine⟨_,rfl,tp,_,_,_,rfl,rfl,SqT.of ht,rfl,d,rfl,⟨_,SqL.of hdx⟩,?_⟩
    refine bD (xs:=dq.map V.ref) (fun _=>true) (fun j=> .int (es.getD j (0,0)).2) (SqL.of hdx) (by rw[AC];omega) (fun _ _ _ _ _ _ k=>k _ (Same.refl _)) (fun j x hx _ H2 R s2 kk=>?_) fun nw H2 s2 nnw hnw=>?_
    ·rw [AG]at hx
     obtain⟨t,et,rfl⟩:=AL.mp hx
     obtain⟨x,ex,tx⟩:=bG tpx et
     rw[AE,ex]at kk
     exact⟨_,rfl,t,_,_,_,rfl,rfl,SqT.of (s2 _ _ tx),rfl,kk H2 (Same.refl _)⟩
    rw[A8.mpr (fun _ _=>rfl),AC,dql,fB (g:=fun x=>V.int x.2) fun i x hx=>by rw[AE,hx];rfl]at hnw
    exact⟨nw,es.map fun(x:Int×Int)=>x.2,rfl,SqL.of (by rw[hnw,A3];rfl),_,_,rfl,rfl,q _ H2 s2 .dear⟩
   | @split tp l vs' ps ht hl' hvn hat=>
    refine⟨_,rfl,tp,_,_,_,rfl,rfl,SqT.of ht,rfl,rfl,_,rfl,bP ?_⟩
    cases gb with
    | split g1 gb=>
    cases gr with
    | @split r' _ gr=>
    refine⟨_,rfl,tp,_,_,_,rfl,rfl,SqT.of ht,rfl,l,rfl,⟨_,SqL.of hl'⟩,?_⟩
    refine gA (xs:=vs') (fun _ ys _=>∃os:List (Option Int),ys=os.map hV/\∀(i:Nat) q o,ps[i]?=some q->os[i]?=some o->LstIs q o) (SqL.of hl') (by omega) (fun _ _ _ _ h _=>h) (fun _ _=>⟨[],rfl,fun i q o _ z=>by cases z⟩) (fun acc i x ys H2 R hx s2 nacc hacc yl ⟨os,e,al⟩ k=>?_) fun acc ys H2 s2 nacc hacc yl ⟨os,e,al⟩=>?_
    ·have il:=(AF.mp hx).1
     have hp:ps[i]?=some ps[i]:=AD (by omega)
     have pm:=A1 (show i<ps.length by omega)
     refine⟨_,rfl,x,ps[i],r',rfl,(hat i x _ hx hp).same s2,gb _ pm,gr _ pm,by omega,fun o H3 s3 lo=>k _ H3 s3 ⟨os++[o],by rw[e,AW];rfl,fun i' q' o' hq ho=>?_⟩⟩
     rw[e,AC]at yl
     by_cases z:i'<os.length
     ·rw [Bp z]at ho
      exact al i' q' o' hq ho
     ·have:=(AF.mp ho).1
      rw[AK,AS]at this
      have ei:i'=os.length:=by omega
      subst ei
      rw[Bo (AI _),B3]at ho
      cases ho
      rw[yl,hp]at hq
      cases hq
      exact lo
    subst e
    rw[AC]at yl
    refine⟨_,rfl,acc,rfl,⟨_,SqL.of hacc⟩,?_⟩
    refine bD (xs:=os.map hV) (fun j=>(os.getD j none).isSome) (fun j=>hV (os.getD j none)) (SqL.of hacc) (by rw[AC];omega) (fun j v hv H3 R s3 k=>?_) (fun j v hv _ H3 R s3 k=>?_) fun nw H3 s3 nnw hnw=>?_
    ·rw [AG]at hv
     obtain⟨o,ho,rfl⟩:=AL.mp hv
     have kk:R (os.getD j none).isSome H3:=k H3 (Same.refl _)
     rw[xh ho]at kk
     refine⟨_,rfl,rfl,?_⟩
     have e:(!decide (hV o=V.non))=o.isSome:=by rw[uX];cases o<;>rfl
     rw[e]
     exact⟨_,rfl,kk⟩
    ·rw [AG]at hv
     obtain⟨o,ho,rfl⟩:=AL.mp hv
     have kk:R (hV (os.getD j none)) H3:=k H3 (Same.refl _)
     rw[xh ho]at kk
     exact⟨_,rfl,kk⟩
    rw[AC,vC]at hnw
    refine⟨_,rfl,nw,os.filterMap id,rfl,SqL.of hnw,fun e=>?_,fun m hm1 hm2=>?_⟩
    ·refine q none H3 (s2.trans s3) (.split (by omega) al (.inl ⟨rfl,fun o ho=>?_⟩))
     cases o with
     | none=>rfl
     | some x=>
      have:x∈os.filterMap id:=BZ.mpr ⟨some x,ho,rfl⟩
      rw[e]at this
      cases this
    ·obtain⟨o,ho,e⟩:=BZ.mp hm1
     have e:o=some m:=e
     subst e
     exact q (some m) H3 (s2.trans s3) (.split (by omega) al (.inr ⟨m,rfl,ho,fun x hx=>hm2 x (BZ.mpr ⟨some x,hx,rfl⟩)⟩))
 exact all 7
inductive BOk:BPap->Prop where
 | tie {j:Int}:BOk (.tie j)
 | short {bs:List Int} (h0:bs≠[]) (h:bs.length<=100):BOk (.short bs)
 | split {ps:List BPap} (h0:ps≠[]) (hn:ps.length<=100) (h:∀q∈ps,BOk q):BOk (.split ps)
 | dear {pr:List Int} {es:List (Int×Int)} (h0:pr≠[]) (h1:pr.length<=100) (h2:es.length<=100):BOk (.dear pr es)
theorem BOk.bnd {g:BPap} (h:BOk g):BBnd g:=by
 induction h with
 | tie=>exact .tie
 | short _ h=>exact .short (by omega)
 | split _ hn _ ih=>exact .split (by omega) ih
 | dear _ h1 h2=>exact .dear (by omega) (by omega)
theorem kU {G H H':Hp} (g:Same G H) (s:Same H H'):Same (cv G H H') H':=fun b o e=>by
 unfold cv at e
 cases z:H b with
 | none=>rw[z]at e;exact e
 | some o'=>rw[z]at e;exact s _ _ (g _ _ e)
theorem rD {G H H' H2:Hp} (s:Same H' H2):Same (cv G H H') (cv G H H2):=fun b o e=>by
 unfold cv at e ⊢
 cases z:H b with
 | none=>rw[z]at e;exact s _ _ e
 | some o'=>rw[z]at e;exact e
theorem nN {G H H':Hp} {l:Addr} {o:HO} (n:H l=none):cv G H (ay H' l o)=ay (cv G H H') l o:=by
 funext b
 by_cases z:b=l
 ·subst z
  rw[af]
  exact aW n af
 ·rw [aC z]
  unfold cv
  rw[aC z]
def wU (G H:Hp) (tp lp:Addr) (c:Int) (k N:Nat) (σ:L2.St) (Hx:Hp):Prop:=∃(ld:Addr) (pr:List Int) (es:List (Int×Int)),σ=[some (.ref tp),some (.int c),some (.ref lp),some (.ref ld),some (.int ((k:Nat):Int))]/\Same H Hx/\H ld=none/\ld≠lp/\Hx lp=some (.lst (pr.map V.int))/\k<pr.length/\pr.length<=N/\RowAt (cv G H Hx) ld es/\es.length<=N
def dZ (K:PySem.W.Frag):Sp:=fun vs H Q _=>∃(tp l d:Addr) (c:Int) (pr:List Int) (es:List (Int×Int)) (G:Hp),vs=[.ref tp,.int c]/\Same G H/\G tp=some (.tup [.str "dear",.ref l,.ref d])/\G l=some (.lst (pr.map V.int))/\RowAt G d es/\pr≠[]/\pr.length<=100/\es.length<=100/\∀v' g' H',Same H H'->BPapAt (cv G H H') v' g'->BBnd g'->Q v' H'
theorem a9:FnScope ["paper","rest","prices","dues","at"] ["paper","rest"] (ar cR):=⟨rfl,rfl,rfl,by decide +kernel,rfl,by decide +kernel,by decide +kernel⟩
theorem ie (D:Dfs K mg aF dF) (T:Txt mg):FnOk P w K mg base aX 1 (aF 47) (dF 47) ["paper","rest"] (dZ K):=by
 refine D.law_dear_turned.fn.ok a9 (fun vs H Q E h=>?_) (fun cdv A outer s H vs Q E hr h=>?_)
 ·obtain⟨tp,l,d,c,pr0,es0,G,rfl,_⟩:=h;rfl
 ·have hu:=be hr
  obtain⟨tp,l,d,c,pr0,es0,G,rfl,sg,ht,hl,hd,p0,p1,e1,q⟩:=h
  refine⟨_,(ag (ax (i:=2) a9.nd rfl (Or.inl rfl) (aI (j8 K) (by rfl) T.z_list boot_list (aa (ao (cz K) (pv 0) ae (fun _ _=>rfl)) ab)))
   (ag (ax (i:=3) a9.nd rfl (Or.inl rfl) (aI (j8 K) (by rfl) T.z_list boot_list (aa (ao (cz K) (pv 0) ae (fun _ _=>rfl)) ab)))
   (ag (ax (i:=4) a9.nd rfl (Or.inl rfl) (ak aK (ak bX (pv 1) ae) (ai (bx K) (by rfl) T.z_len boot_len (aa (pv 2) ab))))
   (df (az (av bj (ak aK (pv 1) ae) ae (aw _))
    (ah (iW (ak aG (ak aG (ao (cU K) (pv 2) (pv 4) (fun _ _=>rfl)) ae) (ak aK (ak bX (pv 1) ae) ae)) (mD (pv 2) (pv 4) ik)))
    au)
   (df (az (av bj (ak aK (pv 1) ae) ae (aw _))
    (ah (iW (ak cW (ao (cU K) (pv 2) (pv 4) (fun _ _=>rfl)) ae) (mD (pv 2) (pv 4) ik)))
    au)
   (df (az (av bj (ak aK (pv 1) ae) ae (aw _))
    (ah (c4 (fL PySem.F.plainAttrs_list PySem.F.slot_list_append PySem.F.type_list_append bO (pv 2) (aa ae ab))))
    au)
   (df (az (av bj (ak aK (pv 1) ae) ae (aw _))
    (ah (ax (i:=3) a9.nd rfl (Or.inl rfl) (cK (wa K) (pv 3) (c8 ae) eB)))
    au)
   (df (az (av bj (ak aK (pv 1) ae) ae (aw _))
    (ah (b9 (i₀:=3) a9.nd rfl (Or.inl rfl) ["due"] [none] rfl (gG K (pv 3)) (fun _=>aq (i:=0) (aB (N:=["due"]) (by decide +kernel)) rfl (Or.inl rfl)) (fun _=>aJ) (fun _=>(aM (aa (ao (cz K) (pv 0) ae (fun _ _=>rfl)) (aa (ak aG (ao (cz K) (pv 0) ae (fun _ _=>rfl)) ae) ab)))) ((.cons (fun _ e=>by cases e) .nil))))
    au)
   (df (az (av bj (ak aK (pv 1) ae) ae (aw _))
    (ah (ax (i:=3) a9.nd rfl (Or.inl rfl) (rh K rfl T.z_list rfl T.z_reversed (aa (pv 3) ab))))
    au)
   (df (az (av bj (ak aK (pv 1) ae) ae (aw _))
    (ah (c4 (fL PySem.F.plainAttrs_list PySem.F.slot_list_append PySem.F.type_list_append bO (pv 3) (aa (aM (aa (ak aG ae (wK K (by rfl) T.z_max (aa (aL ["due"] [none] rfl (gG K (pv 3)) (fun _=>aq (i:=0) (aB (N:=["due"]) (by decide +kernel)) rfl (Or.inl rfl)) (fun _=>aJ) (fun _=>(ao (cz K) (pv 0) ae (fun _ _=>rfl))) ((.cons (fun _ e=>by cases e) .nil))) ab) ae)) (aa ae ab))) ab))))
    au)
   (ag (az (av bj (ak aK (pv 1) ae) ae (aw _))
    (ah (aj (aM (aa aP (aa (ak xB (aA (aa (pv 0) ab)) (ak aG (ai (bx K) (by rfl) T.z_len boot_len (aa (pv 2) ab)) ae)) ab)))))
    au)
   (ah (aj (aM (aa aP (aa (pv 2) (aa (pv 3) ab))))))))))))))))),?_⟩
  have htH:=sg _ _ ht
  refine⟨_,rfl,tp,_,_,_,rfl,rfl,SqT.of htH,rfl,l,_,rfl,.inl (SqL.of (sg _ _ hl)),fun lp nlp=>?_⟩
  have s1:=Same.new (o:= .lst (pr0.map V.int)) nlp
  have hlp:ay H lp (.lst (pr0.map V.int)) lp=some (.lst (pr0.map V.int)):=af
  generalize ay H lp (.lst (pr0.map V.int))=H1 at s1 hlp
  obtain⟨dq,hdq,tpq⟩:=id hd
  refine⟨_,rfl,tp,_,_,_,rfl,rfl,SqT.of (s1 _ _ htH),rfl,d,_,rfl,.inl (SqL.of (s1 _ _ (sg _ _ hdq))),fun ld nld=>?_⟩
  have s2:=Same.new (o:= .lst (dq.map V.ref)) nld
  have hld:ay H1 ld (.lst (dq.map V.ref)) ld=some (.lst (dq.map V.ref)):=af
  have hlp2:=s2 _ _ hlp
  have ndl:ld≠lp:=fun z=>by rw[z,hlp]at nld;cases nld
  have nld0:=s1.free nld
  generalize ay H1 ld (.lst (dq.map V.ref))=H2 at s2 hld hlp2
  have s02:=s1.trans s2
  have ppos:0<pr0.length:=List.length_pos_iff.mpr p0
  obtain⟨k,hk,ek⟩:=sP (c/8) (n:=pr0.length) ppos
  have ek:c/8%(pr0.length:Int)=(k:Int):=ek
  refine⟨_,rfl,_,_,rfl,rfl,(show gC _ 8 from⟨by decide,by decide⟩),_,rfl,_,pr0.length,rfl,.inl ⟨_,SqL.of hlp2,by rw[AC]⟩,_,_,rfl,rfl,(show(0:Int)<(pr0.length:Int) by omega),?_⟩
  dsimp only
  rw[ek]
  have i0:wU G H tp lp c k 100 [some (.ref tp),some (.int c),some (.ref lp),some (.ref ld),some (.int ((k:Nat):Int))] H2:=⟨ld,pr0,es0,rfl,s02,nld0,ndl,hlp2,hk,by omega,⟨dq,aW nld0 hld,Paired.mapP tpq fun u x h=>jc sg _ _ h⟩,by omega⟩
  refine⟨wU G H tp lp c k 101,?_,?_⟩
  ·refine⟨_,rfl,_,_,rfl,rfl,(show(0:Int)<8 by decide),rfl,_,rfl,gS (fun _=>?_) fun _=>by
    obtain⟨ld',pr',es',e,a1,a2,a3,a4,a5,a6,a7,a8⟩:=i0
    exact⟨ld',pr',es',e,a1,a2,a3,a4,a5,by omega,a7,by omega⟩⟩
   refine⟨_,rfl,_,rfl,lp,_,_,_,rfl,rfl,SqL.of hlp2,bC hk,_,_,rfl,rfl,_,rfl,_,_,rfl,rfl,(show gC _ 48 from⟨by decide,by decide⟩),_,_,rfl,rfl,(show(0:Int)<3 by decide),_,_,rfl,rfl,_,rfl,_,rfl,lp,_,_,k,rfl,rfl,hlp2,iH (by rw[AC];exact hk),?_⟩
   obtain⟨ld',pr0',es0',e,a1,a2,a3,a4,a5,a6,a7,a8⟩:=i0
   cases e
   rw[hlp2]at a4
   exact⟨ld,pr0.set k (pr0.getD k 0+1+c/48%3),es0',rfl,s02.put nlp,nld0,ndl,by rw[af,List.map_set],by rw[BS];exact hk,by rw[BS];omega,by rw[nN nlp];exact a7.but (aW nlp hlp2) ndl,by omega⟩
  clear i0
  rintro σ Hx ⟨ld,pr,es,rfl,sx,nld,ndl,hlp,hk,pl,ro,el⟩
  refine⟨wU G H tp lp c k 102,?_,?_⟩
  ·refine⟨_,rfl,_,_,rfl,rfl,(show(0:Int)<8 by decide),rfl,_,rfl,gS (fun _=>?_) fun _=>⟨ld,pr,es,rfl,sx,nld,ndl,hlp,hk,by omega,ro,by omega⟩⟩
   refine⟨_,rfl,_,rfl,lp,_,_,_,rfl,rfl,SqL.of hlp,bC hk,_,_,rfl,rfl,_,rfl,_,rfl,lp,_,_,k,rfl,rfl,hlp,iH (by rw[AC];exact hk),?_⟩
   exact⟨ld,pr.set k (pr.getD k 0-1),es,rfl,sx.put nlp,nld,ndl,by rw[af,List.map_set],by rw[BS];exact hk,by rw[BS];omega,by rw[nN nlp];exact ro.but (aW nlp hlp) ndl,by omega⟩
  rintro σ Hx ⟨ld,pr,es,rfl,sx,nld,ndl,hlp,hk,pl,ro,el⟩
  refine⟨wU G H tp lp c k 103,?_,?_⟩
  ·refine⟨_,rfl,_,_,rfl,rfl,(show(0:Int)<8 by decide),rfl,_,rfl,gS (fun _=>?_) fun _=>⟨ld,pr,es,rfl,sx,nld,ndl,hlp,hk,by omega,ro,by omega⟩⟩
   refine⟨_,rfl,.inl ⟨rfl,_,SqL.of hlp⟩,lp,_,_,rfl,rfl,hlp,mK (by rw[AC];omega),?_⟩
   exact⟨ld,pr++[0],es,rfl,sx.put nlp,nld,ndl,by rw[af,AW];rfl,by rw[AK];omega,by rw[AK,AS];omega,by rw[nN nlp];exact ro.but (aW nlp hlp) ndl,by omega⟩
  rintro σ Hx ⟨ld,pr,es,rfl,sx,nld,ndl,hlp,hk,pl,ro,el⟩
  have fresh:∀{Hx:Hp} {pr:List Int} {d2:Addr},Same H Hx->Hx lp=some (.lst (pr.map V.int))->Hx d2=none->H d2=none/\d2≠lp:=fun {Hx pr d2} sx hlp nd2=>⟨sx.free nd2,fun z=>by rw[z,hlp]at nd2;cases nd2⟩
  refine⟨wU G H tp lp c k 104,?_,?_⟩
  ·refine⟨_,rfl,_,_,rfl,rfl,(show(0:Int)<8 by decide),rfl,_,rfl,gS (fun _=>?_) fun _=>⟨ld,pr,es,rfl,sx,nld,ndl,hlp,hk,by omega,ro,by omega⟩⟩
   obtain⟨dq,hq,tq⟩:=id ro
   refine⟨_,rfl,_,rfl,ld,_,rfl,SqL.of (kU sg sx _ _ hq),fun d2 nd2=>?_⟩
   obtain⟨f1,f2⟩:=fresh sx hlp nd2
   have ec:b8 (dq.map V.ref) (some 1) none=(dq.drop 1).map V.ref:=(ir _ 1).trans (List.map_drop).symm
   rw[ec]
   have sn:=Same.new (o:= .lst ((dq.drop 1).map V.ref)) nd2
   exact⟨d2,pr,es.drop 1,rfl,sx.trans sn,f1,f2,sn _ _ hlp,hk,by omega,⟨dq.drop 1,aW f1 af,oS (Paired.mapP tq fun u x h=>rD sn _ _ h) 1⟩,by rw[Bx];omega⟩
  rintro σ Hx ⟨ld,pr,es,rfl,sx,nld,ndl,hlp,hk,pl,ro,el⟩
  refine⟨wU G H tp lp c k 105,?_,?_⟩
  ·refine⟨_,rfl,_,_,rfl,rfl,(show(0:Int)<8 by decide),rfl,_,rfl,gS (fun _=>?_) fun _=>⟨ld,pr,es,rfl,sx,nld,ndl,hlp,hk,by omega,ro,by omega⟩⟩
   obtain⟨dq,hq,tq⟩:=id ro
   have tql:dq.length=es.length:=Paired.length tq
   have js:=kU sg sx
   refine⟨_,rfl,ld,rfl,⟨_,SqL.of (js _ _ hq)⟩,?_⟩
   refine gA (xs:=dq.map V.ref) (fun acc ys Hy=>∃us:List Addr,ys=us.map V.ref/\Paired (fun u x=>u≠acc/\Hx u=none/\b4 Hy u x) us ((es.take ys.length).map fun x=>(x.1,x.2+1))) (SqL.of (js _ _ hq)) (by rw[AC];omega) (fun acc ys Hx Hy ⟨us,e,tp⟩ sb=>⟨us,e,Paired.mapP tp fun u x ⟨n,h1,h⟩=>⟨n,h1,sb _ _ n h⟩⟩) (fun _ _=>⟨[],rfl,.nil⟩) (fun acc i x ys H9 R hx s9 nacc hacc yl4 ⟨us,e,tp⟩ k=>?_) fun acc ys H9 s9 nacc hacc yl4 ⟨us,e,tp⟩=>?_
   ·rw [AG]at hx
    obtain⟨u0,hu0,rfl⟩:=AL.mp hx
    obtain⟨x0,hx0,tx0⟩:=bG tq hu0
    have tx9:=s9 _ _ (js _ _ tx0)
    refine⟨_,rfl,u0,_,_,_,rfl,rfl,SqT.of tx9,rfl,_,rfl,u0,_,_,_,rfl,rfl,SqT.of tx9,rfl,_,_,rfl,rfl,bM,fun u nu=>?_⟩
    have s10:=Same.new (o:= .tup [.int x0.1,.int (x0.2+1)]) nu
    have ua:u≠acc:=fun z=>by rw[z,hacc]at nu;cases nu
    refine k _ _ s10 ⟨us++[u],by rw[e,AW];rfl,?_⟩
    rw[AK,AS,yl4,cG hx0,AW]
    rw[yl4]at tp
    exact bE (Paired.mapP tp fun u x ⟨n,h1,h⟩=>⟨n,h1,s10 _ _ h⟩) ⟨ua,s9.free nu,af⟩
   ·subst e
    rw[AC,AC]at yl4
    rw[AC,yl4,tql,Bg]at tp
    obtain⟨f1,f2⟩:=fresh sx hlp nacc
    exact⟨acc,pr,es.map fun x=>(x.1,x.2+1),rfl,sx.trans s9,f1,f2,s9 _ _ hlp,hk,by omega,⟨us,aW f1 hacc,Paired.mapP tp fun u x ⟨_,h1,h⟩=>aW (sx.free h1) h⟩,by rw[AC];omega⟩
  rintro σ Hx ⟨ld,pr,es,rfl,sx,nld,ndl,hlp,hk,pl,ro,el⟩
  refine⟨wU G H tp lp c k 106,?_,?_⟩
  ·refine⟨_,rfl,_,_,rfl,rfl,(show(0:Int)<8 by decide),rfl,_,rfl,gS (fun _=>?_) fun _=>⟨ld,pr,es,rfl,sx,nld,ndl,hlp,hk,by omega,ro,by omega⟩⟩
   obtain⟨dq,hq,tq⟩:=id ro
   have tql:dq.length=es.length:=Paired.length tq
   refine⟨_,rfl,ld,_,rfl,SqL.of (kU sg sx _ _ hq),by rw[AC];omega,fun d2 nd2=>?_⟩
   obtain⟨f1,f2⟩:=fresh sx hlp nd2
   rw[<- List.map_reverse]
   have sn:=Same.new (o:= .lst (dq.reverse.map V.ref)) nd2
   exact⟨d2,pr,es.reverse,rfl,sx.trans sn,f1,f2,sn _ _ hlp,hk,by omega,⟨dq.reverse,aW f1 af,qt (Paired.mapP tq fun u x h=>rD sn _ _ h)⟩,by rw[List.length_reverse];omega⟩
  rintro σ Hx ⟨ld,pr,es,rfl,sx,nld,ndl,hlp,hk,pl,ro,el⟩
  refine⟨wU G H tp lp c k 107,?_,?_⟩
  ·refine⟨_,rfl,_,_,rfl,rfl,(show(0:Int)<8 by decide),rfl,_,rfl,gS (fun _=>?_) fun _=>⟨ld,pr,es,rfl,sx,nld,ndl,hlp,hk,by omega,ro,by omega⟩⟩
   obtain⟨dq,hq,tq⟩:=id ro
   have tql:dq.length=es.length:=Paired.length tq
   have js:=kU sg sx
   refine⟨_,rfl,.inl ⟨rfl,_,SqL.of (js _ _ hq)⟩,?_⟩
   refine⟨_,rfl,ld,rfl,⟨_,SqL.of (js _ _ hq)⟩,?_⟩
   refine bD (xs:=dq.map V.ref) (fun _=>true) (fun j=> .int (es.getD j (0,0)).1) (SqL.of (js _ _ hq)) (by rw[AC];omega) (fun _ _ _ _ _ _ k=>k _ (Same.refl _)) (fun j x hx _ H3 R s3 kk=>?_) fun ml H3 s3 nml hml=>?_
   ·rw [AG]at hx
    obtain⟨t,et,rfl⟩:=AL.mp hx
    obtain⟨x,ex,tx⟩:=bG tq et
    rw[AE,ex]at kk
    exact⟨_,rfl,t,_,_,_,rfl,rfl,SqT.of (s3 _ _ (js _ _ tx)),rfl,kk H3 (Same.refl _)⟩
   rw[A8.mpr (fun _ _=>rfl),AC,tql,fB (g:=fun x=>V.int x.1) fun i x hx=>by rw[AE,hx];rfl]at hml
   have fin:∀(m:Int) (t:Addr),H3 t=none->wU G H tp lp c k 107 [some (.ref tp),some (.int c),some (.ref lp),some (.ref ld),some (.int ((k:Nat):Int))] (ay (ay H3 t (.tup [.int m,.int 1])) ld (.lst (dq.map V.ref++[.ref t]))):=fun m t nt=>by
    have s4:=s3.to (o:= .tup [.int m,.int 1]) nt
    have tnl:t≠ld:=fun z=>by rw[z,s3 _ _ (js _ _ hq)]at nt;cases nt
    refine⟨ld,pr,es++[(m,1)],rfl,(sx.trans s4).put nld,nld,ndl,by rw[aC (Ne.symm ndl)];exact s4 _ _ hlp,hk,by omega,?_,by rw[AK,AS];omega⟩
    rw[nN nld]
    refine⟨dq++[t],by rw[af,AW];rfl,bE (Paired.mapP tq fun u x h=>?_) ?_⟩
    ·have h:cv G H Hx u=some (.tup [.int x.1,.int x.2]):=h
     have:u≠ld:=fun z=>by rw[z,hq]at h;cases h
     show ay _ ld _ u=_
     rw[aC this]
     exact rD s4 _ _ h
    ·show ay _ ld _ t=_
     rw[aC tnl]
     exact aW ((sx.trans s3).free nt) af
   refine⟨ml,es.map fun(x:Int×Int)=>x.1,rfl,SqL.of (by rw[hml,A3];rfl),fun _=>?_,fun m _ _=>?_⟩
   ·refine⟨_,_,rfl,rfl,bM,fun t nt=>⟨ld,_,_,rfl,rfl,(s3.to nt) _ _ (js _ _ hq),mK (by rw[AC];omega),fin _ t nt⟩⟩
   ·refine⟨_,_,rfl,rfl,bM,fun t nt=>⟨ld,_,_,rfl,rfl,(s3.to nt) _ _ (js _ _ hq),mK (by rw[AC];omega),fin _ t nt⟩⟩
  rintro σ Hx ⟨ld,pr',es',rfl,sx,nld,ndl,hlp,hk,pl,ro,el⟩
  refine⟨_,rfl,_,_,rfl,rfl,(show(0:Int)<8 by decide),rfl,_,rfl,gS (fun _=>?_) fun _=>?_⟩
  ·refine⟨_,rfl,bM,fun z nz=>?_⟩
   have s3:=Same.new (o:= .lst [V.ref tp]) nz
   refine⟨_,rfl,_,pr'.length,rfl,.inl ⟨_,SqL.of (s3 _ _ hlp),by rw[AC]⟩,_,_,rfl,rfl,z,_,_,rfl,rfl,af,by omega,by omega,by show 1*_<=_;exact uq (by omega),fun rl nrl=>?_⟩
   rw[show((pr'.length:Int)+1).toNat=pr'.length+1 by omega,u7]
   have s4:=s3.to (o:= .lst (Bf (pr'.length+1) (V.ref tp))) nrl
   refine⟨bM,fun t nt=>?_⟩
   have s5:=Same.new (o:= .tup [.str "split",.ref rl]) nt
   have sx5:=(sx.trans s4).trans s5
   refine q _ (.split (Bf (pr'.length+1) (.dear pr0 es0))) _ sx5 (.split (aW ((sx.trans s4).free nt) af) (aW ((sx.trans s3).free nrl) (s5 _ _ af)) (by rw[List.length_replicate,List.length_replicate]) fun i v g hv hg=>?_) (.split (by rw[List.length_replicate];omega) fun g hg=>?_)
   ·have e1:=AJ hv
    have e2:=AJ hg
    rw[(List.mem_replicate.mp e1).2,(List.mem_replicate.mp e2).2]
    have jo:=jc (H':=ay (ay (ay Hx z (.lst [V.ref tp])) rl (.lst (Bf (pr'.length+1) (V.ref tp)))) t (.tup [.str "split",.ref rl])) sg
    exact .dear (jo _ _ ht) (jo _ _ hl) ⟨dq,jo _ _ hdq,Paired.mapP tpq fun u x h=>jo _ _ h⟩
   ·rw [(List.mem_replicate.mp hg).2]
    exact .dear (by omega) (by omega)
  ·refine⟨_,rfl,_,rfl,bM,fun t nt=>?_⟩
   have s5:=Same.new (o:= .tup [.str "dear",.ref lp,.ref ld]) nt
   exact q _ (.dear pr' es') _ (sx.trans s5) (.dear (aW (sx.free nt) af) (aW nlp (s5 _ _ hlp)) (ro.same (rD s5))) (.dear (by omega) (by omega))
theorem vD {x0 x1 x2 x3:V} (c:Int):∃v,lL [x0,x1,x2,x3] (c%4)=some v/\(v=x0\/v=x1\/v=x2\/v=x3):=by
 rcases(show c%4=0\/c%4=1\/c%4=2\/c%4=3 by omega)with e | e | e | e<;>rw[e]
 ·exact⟨x0,rfl,.inl rfl⟩
 ·exact⟨x1,rfl,.inr (.inl rfl)⟩
 ·exact⟨x2,rfl,.inr (.inr (.inl rfl))⟩
 ·exact⟨x3,rfl,.inr (.inr (.inr rfl))⟩
theorem mz {G:Hp} {vs:List V} {ps:List BPap} (hn:vs.length=ps.length) (hat:∀(i:Nat) v q,vs[i]?=some v->ps[i]?=some q->BPapAt G v q) (ob:∀q∈ps,BBnd q):∀(xs:List V),(∀x∈xs,x∈vs)->∃gs:List BPap,xs.length=gs.length/\(∀(i:Nat) v q,xs[i]?=some v->gs[i]?=some q->BPapAt G v q)/\∀q∈gs,BBnd q
 | [],_=>⟨[],rfl,(fun i v q z=>by cases z),fun q z=>by cases z⟩
 | x :: xs,h=>by
  obtain⟨gs,a1,a2,a3⟩:=mz hn hat ob xs fun y hy=>h y (AY _ hy)
  obtain⟨i,hi⟩:=BB.mp (h x A7)
  have il:=(AF.mp hi).1
  refine⟨ps[i] :: gs,by rw[BF,BF,a1],fun j v q hv hq=>?_,fun q hq=>?_⟩
  ·cases j with
   | zero=>cases hv;cases hq;exact hat i _ _ hi (AD (by omega))
   | succ j=>exact a2 j v q hv hq
  ·rcases AR.mp hq with z | z
   ·rw [z];exact ob _ (A1 _)
   ·exact a3 q z
theorem kW {xs:List V} {lo hi:Option Int} {x:V} (h:x∈b8 xs lo hi):x∈xs:=by
 unfold b8 at h
 exact List.mem_of_mem_drop (List.mem_of_mem_take h)
def ee (K:PySem.W.Frag) (m:Nat):Sp:=fun vs H Q _=>∃(v:V) (c:Int) (g:BPap) (r:Nat) (G:Hp),vs=[v,.int c]/\Same G H/\BPapAt G v g/\BOk g/\BRk r g/\r<m/\∀v' g' H',Same H H'->BPapAt (cv G H H') v' g'->BBnd g'->Q v' H'
def gO (K:PySem.W.Frag):Sp:=ee K 7
theorem bN:FnScope ["paper","cell","rest","parts","at","other","some"] ["paper","cell"] (ar fF):=⟨rfl,rfl,rfl,by decide +kernel,rfl,by decide +kernel,by decide +kernel⟩
theorem lD (D:Dfs K mg aF dF) (T:Txt mg):FnOk P w K mg base aX 17 (aF 46) (dF 46) ["paper","cell"] (gO K):=by
 have Glaw_dear_turned:FnOk P w K mg base aX 1 (aF 47) (dF 47) ["paper","rest"] (dZ K):=ie D T
 have all:∀n,FnOk P w K mg base aX (10+n) (aF 46) (dF 46) ["paper","cell"] (ee K n):=by
  intro n
  induction n with
  | zero=>
   have no:∀vs H Q E,¬ee K 0 vs H Q E:=fun vs H Q E h=>by
    obtain⟨v,c,g,r,G,_,_,_,_,_,h1,_⟩:=h
    omega
   exact⟨fun vs H Q E h=>absurd h (no vs H Q E),fun A outer s H args us vs Q E _ _ _ _ h=>absurd h (no vs H Q E)⟩
  | succ n Glaw_turned=>
   refine D.law_turned.fn.ok bN (fun vs H Q E h=>?_) (fun cdv A outer s H vs Q E hr h=>?_)
   ·obtain⟨v,c,g,r,G,rfl,_⟩:=h;rfl
   obtain⟨v,c,g,r,G,rfl,sg,pat,gb,gr,rn,q⟩:=h
   have rk:Nat.add 10 n=10+n:=rfl
   refine⟨_,(ag (ax (i:=2) bN.nd rfl (Or.inl rfl) (ak bX (pv 1) ae))
   (ag (az (PW.pt (pE (av bj (ao (cz K) (pv 0) ae (fun _ _=>rfl)) aP (aw _)) (mC (av qG (ak aK (pv 1) ae) ae (aw _)))))
    (ag (ax (i:=3) bN.nd rfl (Or.inl rfl) (aI (j8 K) (by rfl) T.z_list boot_list (aa (ao (cz K) (pv 0) ae (fun _ _=>rfl)) ab)))
    (ag (ax (i:=4) bN.nd rfl (Or.inl rfl) (ak aK (pv 2) (ai (bx K) (by rfl) T.z_len boot_len (aa (pv 3) ab))))
    (ag (iW (pc D.law_turned Glaw_turned hr (aa (ao (cU K) (pv 3) (pv 4) (fun _ _=>rfl)) (aa (ak bX (pv 2) (ai (bx K) (by rfl) T.z_len boot_len (aa (pv 3) ab))) ab))) (mD (pv 3) (pv 4) ik))
    (ah (aj (aM (aa aP (aa (pv 3) ab))))))))
    au)
   (ag (az (av bj (ao (cz K) (pv 0) ae (fun _ _=>rfl)) aP (aw _))
    (ag (ax (i:=3) bN.nd rfl (Or.inl rfl) (ao (cz K) (pv 0) ae (fun _ _=>rfl)))
    (ag (ax (i:=5) bN.nd rfl (Or.inl rfl) (ao (cU K) (aA (aa (cK (wa K) (pv 3) (c8 ae) eB) (aa (ak fM (pv 3) (cK (wa K) (pv 3) eB (c8 ae))) (aa (rh K rfl T.z_list rfl T.z_reversed (aa (pv 3) ab)) (aa (cK (wa K) (pv 3) eB (c8 (t8 pH ae))) ab))))) (ak aK (pv 2) ae) (fun _ _=>rfl)))
    (ah (aj (aM (aa aP (aa (pv 5) ab)))))))
    au)
   (ag (az (av bj (ao (cz K) (pv 0) ae (fun _ _=>rfl)) aP (aw _))
    (ah (aj (ao (cU K) (aA (aa (aM (aa aP (aa (ak aG (ao (cz K) (pv 0) ae (fun _ _=>rfl)) ae) ab))) (aa (aM (aa aP (aa (ak cW (ao (cz K) (pv 0) ae (fun _ _=>rfl)) ae) ab))) (aa (aM (aa aP (aa (aA (aa ae ab)) ab))) (aa (aM (aa aP (aa (aA (aa (pv 0) (aa (pv 0) ab))) ab))) ab))))) (ak aK (pv 2) ae) (fun _ _=>rfl))))
    au)
   (ag (az (av bj (ao (cz K) (pv 0) ae (fun _ _=>rfl)) aP (aw _))
    (ag (ax (i:=6) bN.nd rfl (Or.inl rfl) (ao (cz K) (pv 0) ae (fun _ _=>rfl)))
    (ah (aj (aM (aa aP (aa (ao (cU K) (aA (aa (aA (aa (ak aG (ao (cU K) (pv 6) ae (fun _ _=>rfl)) ae) ab)) (aa (aA ab) (aa (ak fM (pv 6) (pv 6)) (aa (ak fM (aA (aa ae ab)) (pv 6)) ab))))) (ak aK (pv 2) ae) (fun _ _=>rfl)) ab))))))
    au)
   (ah (aj (pc D.law_dear_turned Glaw_dear_turned (hr.mono (by have:=rk;omega)) (aa (pv 0) (aa (pv 2) ab)))))))))),?_⟩
   refine⟨_,rfl,_,_,rfl,rfl,(show gC _ 4 from⟨by decide,by decide⟩),?_⟩
   cases pat with
   | @tie tp j ht=>
    have htH:=sg _ _ ht
    refine⟨_,rfl,tp,_,_,_,rfl,rfl,SqT.of htH,rfl,rfl,_,rfl,?_⟩
    rw[decide_eq_false (by decide)]
    refine aE (aE ?_)
    refine⟨_,rfl,tp,_,_,_,rfl,rfl,SqT.of htH,rfl,rfl,_,rfl,?_⟩
    rw[decide_eq_false (by decide)]
    refine aE ?_
    refine⟨_,rfl,tp,_,_,_,rfl,rfl,SqT.of htH,rfl,rfl,_,rfl,bP ?_⟩
    refine⟨_,rfl,tp,_,_,_,rfl,rfl,SqT.of htH,rfl,_,_,rfl,rfl,bM,fun t1 n1=>?_⟩
    have s1:=Same.new (o:= .tup [.str "tie",.int (j+1)]) n1
    have h1:ay H t1 (.tup [.str "tie",.int (j+1)]) t1=some (.tup [.str "tie",.int (j+1)]):=af
    generalize ay H t1 (.tup [.str "tie",.int (j+1)])=H1 at s1 h1
    refine⟨_,rfl,tp,_,_,_,rfl,rfl,SqT.of (s1 _ _ htH),rfl,_,_,rfl,rfl,bM,fun t2 n2=>?_⟩
    have s2:=Same.new (o:= .tup [.str "tie",.int (j-1)]) n2
    have h2:ay H1 t2 (.tup [.str "tie",.int (j-1)]) t2=some (.tup [.str "tie",.int (j-1)]):=af
    generalize ay H1 t2 (.tup [.str "tie",.int (j-1)])=H2 at s2 h2
    refine⟨bM,fun z3 m3=>?_⟩
    have s3:=Same.new (o:= .lst [.int 0]) m3
    have g3:ay H2 z3 (.lst [.int 0]) z3=some (.lst (([0]:List Int).map V.int)):=af
    generalize ay H2 z3 (.lst [.int 0])=H3 at s3 g3
    refine⟨bM,fun t3 n3=>?_⟩
    have s4:=Same.new (o:= .tup [.str "short",.ref z3]) n3
    have h3:ay H3 t3 (.tup [.str "short",.ref z3]) t3=some (.tup [.str "short",.ref z3]):=af
    generalize ay H3 t3 (.tup [.str "short",.ref z3])=H4 at s4 h3
    refine⟨_,rfl,_,rfl,bM,fun z4 m4=>?_⟩
    have s5:=Same.new (o:= .lst [.ref tp,.ref tp]) m4
    have g4:ay H4 z4 (.lst [.ref tp,.ref tp]) z4=some (.lst [.ref tp,.ref tp]):=af
    generalize ay H4 z4 (.lst [.ref tp,.ref tp])=H5 at s5 g4
    refine⟨bM,fun t4 n4=>?_⟩
    have s6:=Same.new (o:= .tup [.str "split",.ref z4]) n4
    have h4:ay H5 t4 (.tup [.str "split",.ref z4]) t4=some (.tup [.str "split",.ref z4]):=af
    generalize ay H5 t4 (.tup [.str "split",.ref z4])=H6 at s6 h4
    refine⟨bM,fun dl ndl=>?_⟩
    have s7:=Same.new (o:= .lst [.ref t1,.ref t2,.ref t3,.ref t4]) ndl
    obtain⟨vv,hv,cv'⟩:=vD (x0:= .ref t1) (x1:= .ref t2) (x2:= .ref t3) (x3:= .ref t4) (c/4)
    refine⟨_,rfl,_,_,rfl,rfl,(show(0:Int)<4 by decide),dl,_,_,_,rfl,rfl,SqL.of af,hv,?_⟩
    have s12:=s1.trans s2
    have s13:=s12.trans s3
    have s14:=s13.trans s4
    have s15:=s14.trans s5
    have s67:=s6.trans s7
    have s57:=s5.trans s67
    have s47:=s4.trans s57
    have s37:=s3.trans s47
    have s07:=s15.trans s67
    rcases cv' with rfl | rfl | rfl | rfl
    ·exact q _ (.tie (j+1)) _ s07 (.tie (aW n1 ((s2.trans s37) _ _ h1))) .tie
    ·exact q _ (.tie (j-1)) _ s07 (.tie (aW (s1.free n2) (s37 _ _ h2))) .tie
    ·exact q _ (.short [0]) _ s07 (.short (aW (s13.free n3) (s57 _ _ h3)) (aW (s12.free m3) (s47 _ _ g3))) (.short (by simp))
    ·refine q _ (.split [.tie j,.tie j]) _ s07 (.split (aW (s15.free n4) (s7 _ _ h4)) (aW (s14.free m4) (s67 _ _ g4)) rfl fun i v q' hv hq=>?_) (.split (by simp) fun q' hq=>?_)
     ·have jt:BPapAt (cv G H (ay H6 dl (.lst [.ref t1,.ref t2,.ref t3,.ref t4]))) (.ref tp) (.tie j):= .tie (jc sg _ _ ht)
      match i with
      | 0=>cases hv;cases hq;exact jt
      | 1=>cases hv;cases hq;exact jt
      | i+2=>cases hv
     ·rcases AR.mp hq with z | z
      ·rw [z];exact .tie
      ·rw [AN.mp z];exact .tie
   | @short tp l bs ht hl'=>
    have htH:=sg _ _ ht
    have hlH:=sg _ _ hl'
    cases gb with
    | short b0 b1=>
    obtain⟨b0',br,rfl⟩:=List.exists_cons_of_ne_nil b0
    refine⟨_,rfl,tp,_,_,_,rfl,rfl,SqT.of htH,rfl,rfl,_,rfl,?_⟩
    rw[decide_eq_false (by decide)]
    refine aE (aE ?_)
    refine⟨_,rfl,tp,_,_,_,rfl,rfl,SqT.of htH,rfl,rfl,_,rfl,?_⟩
    rw[decide_eq_false (by decide)]
    refine aE ?_
    refine⟨_,rfl,tp,_,_,_,rfl,rfl,SqT.of htH,rfl,rfl,_,rfl,?_⟩
    rw[decide_eq_false (by decide)]
    refine aE ?_
    refine⟨_,rfl,tp,_,_,_,rfl,rfl,SqT.of htH,rfl,rfl,_,rfl,bP ?_⟩
    refine⟨_,rfl,tp,_,_,_,rfl,rfl,SqT.of htH,rfl,?_⟩
    refine⟨_,rfl,l,_,_,_,rfl,rfl,SqL.of hlH,(show lL ((b0' :: br).map V.int) 0=some (.int b0')from bw (j:=0) rfl),_,_,rfl,rfl,bM,fun a1 n1=>?_⟩
    have s1:=Same.new (o:= .lst [.int (b0'+1)]) n1
    have h1:ay H a1 (.lst [.int (b0'+1)]) a1=some (.lst ([b0'+1].map V.int)):=af
    generalize ay H a1 (.lst [.int (b0'+1)])=H1 at s1 h1
    refine⟨bM,fun a2 n2=>?_⟩
    have s2:=Same.new (o:= .lst []) n2
    have h2:ay H1 a2 (.lst []) a2=some (.lst (([]:List Int).map V.int)):=af
    generalize ay H1 a2 (.lst [])=H2 at s2 h2
    have s12:=s1.trans s2
    refine⟨_,rfl,_,rfl,l,l,_,_,rfl,rfl,s12 _ _ hlH,s12 _ _ hlH,uq (by rw[AC];omega),fun a3 n3=>?_⟩
    have s3:=Same.new (o:= .lst ((b0' :: br).map V.int++(b0' :: br).map V.int)) n3
    have h3:ay H2 a3 (.lst ((b0' :: br).map V.int++(b0' :: br).map V.int)) a3=some (.lst (((b0' :: br)++(b0' :: br)).map V.int)):=by rw[af,AW]
    generalize ay H2 a3 (.lst ((b0' :: br).map V.int++(b0' :: br).map V.int))=H3 at s3 h3
    refine⟨bM,fun z4 m4=>?_⟩
    have s4:=Same.new (o:= .lst [.int 0]) m4
    have g4:ay H3 z4 (.lst [.int 0]) z4=some (.lst [.int 0]):=af
    generalize ay H3 z4 (.lst [.int 0])=H4 at s4 g4
    have s14:=(s12.trans s3).trans s4
    refine⟨_,rfl,z4,l,_,_,rfl,rfl,g4,s14 _ _ hlH,uq (by rw[AC];show 1+_<=_;omega),fun a4 n4=>?_⟩
    have s5:=Same.new (o:= .lst ([V.int 0]++(b0' :: br).map V.int)) n4
    have h4:ay H4 a4 (.lst ([V.int 0]++(b0' :: br).map V.int)) a4=some (.lst ((0 :: b0' :: br).map V.int)):=af
    generalize ay H4 a4 (.lst ([V.int 0]++(b0' :: br).map V.int))=H5 at s5 h4
    refine⟨bM,fun dl ndl=>?_⟩
    have s6:=Same.new (o:= .lst [.ref a1,.ref a2,.ref a3,.ref a4]) ndl
    obtain⟨vv,hv,cv'⟩:=vD (x0:= .ref a1) (x1:= .ref a2) (x2:= .ref a3) (x3:= .ref a4) (c/4)
    refine⟨_,rfl,_,_,rfl,rfl,(show(0:Int)<4 by decide),dl,_,_,_,rfl,rfl,SqL.of af,hv,bM,fun t nt=>?_⟩
    generalize ay H5 dl (.lst [.ref a1,.ref a2,.ref a3,.ref a4])=H6 at s6 nt
    have s56:=s5.trans s6
    have s46:=s4.trans s56
    have s36:=s3.trans s46
    have s06:=s14.trans s56
    rcases cv' with rfl | rfl | rfl | rfl
    ·have s7:=Same.new (o:= .tup [.str "short",.ref a1]) nt
     exact q _ (.short [b0'+1]) _ (s06.trans s7) (.short (aW (s06.free nt) af) (aW n1 (((s2.trans s36).trans s7) _ _ h1))) (.short (by simp))
    ·have s7:=Same.new (o:= .tup [.str "short",.ref a2]) nt
     exact q _ (.short []) _ (s06.trans s7) (.short (aW (s06.free nt) af) (aW (s1.free n2) ((s36.trans s7) _ _ h2))) (.short (by simp))
    ·have s7:=Same.new (o:= .tup [.str "short",.ref a3]) nt
     exact q _ (.short ((b0' :: br)++(b0' :: br))) _ (s06.trans s7) (.short (aW (s06.free nt) af) (aW (s12.free n3) ((s46.trans s7) _ _ h3))) (.short (by rw[AK];omega))
    ·have s7:=Same.new (o:= .tup [.str "short",.ref a4]) nt
     exact q _ (.short (0 :: b0' :: br)) _ (s06.trans s7) (.short (aW (s06.free nt) af) (aW (s14.free n4) ((s6.trans s7) _ _ h4))) (.short (by rw[BF];omega))
   | @dear tp l d pr es ht hl' hd=>
    have htH:=sg _ _ ht
    cases gb with
    | dear d0 d1 d2=>
    refine⟨_,rfl,tp,_,_,_,rfl,rfl,SqT.of htH,rfl,rfl,_,rfl,?_⟩
    rw[decide_eq_false (by decide)]
    refine aE (aE ?_)
    refine⟨_,rfl,tp,_,_,_,rfl,rfl,SqT.of htH,rfl,rfl,_,rfl,?_⟩
    rw[decide_eq_false (by decide)]
    refine aE ?_
    refine⟨_,rfl,tp,_,_,_,rfl,rfl,SqT.of htH,rfl,rfl,_,rfl,?_⟩
    rw[decide_eq_false (by decide)]
    refine aE ?_
    refine⟨_,rfl,tp,_,_,_,rfl,rfl,SqT.of htH,rfl,rfl,_,rfl,?_⟩
    rw[decide_eq_false (by decide)]
    refine aE ?_
    exact⟨_,rfl,_,rfl,tp,l,d,c/4,pr,es,G,rfl,sg,ht,hl',hd,d0,d1,d2,q⟩
   | @split tp l vs' ps ht hl' hvn hat=>
    have htH:=sg _ _ ht
    have hlH:=sg _ _ hl'
    cases gb with
    | split g0 g1 gb=>
    cases gr with
    | @split r' _ gr=>
    have ppos:0<vs'.length:=by rw[hvn];exact List.length_pos_iff.mpr g0
    refine⟨_,rfl,tp,_,_,_,rfl,rfl,SqT.of htH,rfl,rfl,_,rfl,bP ?_⟩
    refine⟨_,rfl,_,_,rfl,rfl,(show(0:Int)<4 by decide),_,_,rfl,rfl,_,rfl,pD (fun _=>?_) fun _=>?_⟩
    ·refine⟨_,rfl,tp,_,_,_,rfl,rfl,SqT.of htH,rfl,l,_,rfl,.inl (SqL.of hlH),fun ca nca=>?_⟩
     have s1:=Same.new (o:= .lst vs') nca
     have hca:ay H ca (.lst vs') ca=some (.lst vs'):=af
     generalize ay H ca (.lst vs')=H1 at s1 hca
     obtain⟨k,hk,ek⟩:=sP (c/4) (n:=vs'.length) ppos
     have ek:c/4%(vs'.length:Int)=(k:Int):=ek
     refine⟨_,rfl,_,rfl,_,vs'.length,rfl,.inl ⟨_,SqL.of hca,rfl⟩,_,_,rfl,rfl,(show(0:Int)<(vs'.length:Int) by omega),?_⟩
     dsimp only
     rw[ek]
     have kp:k<ps.length:=by omega
     have pm:=A1 kp
     refine⟨_,rfl,_,rfl,ca,_,_,_,rfl,rfl,SqL.of hca,bw (AD hk),_,rfl,_,rfl,_,vs'.length,rfl,.inl ⟨_,SqL.of hca,rfl⟩,_,_,rfl,rfl,(show gC _ (vs'.length:Int)from⟨by omega,by omega⟩),?_⟩
     refine⟨vs'[k],_,ps[k],r',G,rfl,sg.trans s1,hat k _ _ (AD hk) (AD kp),gb _ pm,gr _ pm,by omega,fun v2 g2 H3 s3 bp bb=>?_⟩
     have hca3:=s3 _ _ hca
     refine⟨_,rfl,_,rfl,ca,_,_,k,rfl,rfl,hca3,iH hk,?_⟩
     refine⟨_,rfl,bM,fun t nt=>?_⟩
     have sA:Same H (ay H3 ca (.lst (vs'.set k v2))):=(s1.trans s3).put nca
     have hcb:ay H3 ca (.lst (vs'.set k v2)) ca=some (.lst (vs'.set k v2)):=af
     have kpA:∀b o,b≠ca->H3 b=some o->ay H3 ca (.lst (vs'.set k v2)) b=some o:=fun b o n e=>by rw[aC n];exact e
     generalize ay H3 ca (.lst (vs'.set k v2))=H4 at sA hcb kpA nt
     have s5:=Same.new (o:= .tup [.str "split",.ref ca]) nt
     have toJ:Same (cv G H1 H3) (cv G H (ay H4 t (.tup [.str "split",.ref ca]))):=fun b o e=>by
      rcases yU e with⟨z1,z2⟩ | ⟨⟨u,z1⟩,z2⟩
      ·have n:b≠ca:=fun y=>by rw[y,hca]at z1;cases z1
       exact aW (s1.free z1) (s5 _ _ (kpA b o n z2))
      ·exact jc sg _ _ z2
     refine q _ (.split (ps.set k g2)) _ (sA.trans s5) (.split (aW (sA.free nt) af) (aW nca (s5 _ _ hcb)) (by rw[BS,BS,hvn]) fun i v q' hv hq=>?_) (.split (by rw[BS];omega) fun q' hq=>?_)
     ·by_cases z:k=i
      ·subst z
       rw[B7 hk]at hv
       rw[B7 kp]at hq
       cases hv
       cases hq
       exact bp.same toJ
      ·rw [Cr z]at hv hq
       exact(hat i v q' hv hq).same (jc sg)
     ·rcases List.mem_or_eq_of_mem_set hq with z | z
      ·exact(gb _ z).bnd
      ·rw [z];exact bb
    ·refine⟨_,rfl,tp,_,_,_,rfl,rfl,SqT.of htH,rfl,rfl,_,rfl,bP ?_⟩
     refine⟨_,rfl,tp,_,_,_,rfl,rfl,SqT.of htH,rfl,?_⟩
     refine⟨_,rfl,_,rfl,l,_,rfl,SqL.of hlH,fun a1 n1=>?_⟩
     have s1:=Same.new (o:= .lst (b8 vs' (some 1) none)) n1
     have h1:ay H a1 (.lst (b8 vs' (some 1) none)) a1=some (.lst (b8 vs' (some 1) none)):=af
     generalize ay H a1 (.lst (b8 vs' (some 1) none))=H1 at s1 h1
     refine⟨_,rfl,_,rfl,_,rfl,l,_,rfl,SqL.of (s1 _ _ hlH),fun a2 n2=>?_⟩
     have s2:=Same.new (o:= .lst (b8 vs' none (some 1))) n2
     have h2:ay H1 a2 (.lst (b8 vs' none (some 1))) a2=some (.lst (b8 vs' none (some 1))):=af
     generalize ay H1 a2 (.lst (b8 vs' none (some 1)))=H2 at s2 h2
     have s12:=s1.trans s2
     have cl1:=eD vs' (some 1) none
     have cl2:=eD vs' none (some 1)
     have cl3:=eD vs' none (some (-1))
     refine⟨l,a2,_,_,rfl,rfl,s12 _ _ hlH,h2,uq (by omega),fun a3 n3=>?_⟩
     have s3:=Same.new (o:= .lst (vs'++b8 vs' none (some 1))) n3
     have h3:ay H2 a3 (.lst (vs'++b8 vs' none (some 1))) a3=some (.lst (vs'++b8 vs' none (some 1))):=af
     generalize ay H2 a3 (.lst (vs'++b8 vs' none (some 1)))=H3 at s3 h3
     have s13:=s12.trans s3
     refine⟨_,rfl,l,_,rfl,SqL.of (s13 _ _ hlH),by omega,fun a4 n4=>?_⟩
     have s4:=Same.new (o:= .lst vs'.reverse) n4
     have h4:ay H3 a4 (.lst vs'.reverse) a4=some (.lst vs'.reverse):=af
     generalize ay H3 a4 (.lst vs'.reverse)=H4 at s4 h4
     have s14:=s13.trans s4
     refine⟨_,rfl,_,rfl,_,rfl,l,_,rfl,SqL.of (s14 _ _ hlH),fun a5 n5=>?_⟩
     have s5:=Same.new (o:= .lst (b8 vs' none (some (-1)))) n5
     have h5:ay H4 a5 (.lst (b8 vs' none (some (-1)))) a5=some (.lst (b8 vs' none (some (-1)))):=af
     generalize ay H4 a5 (.lst (b8 vs' none (some (-1))))=H5 at s5 h5
     have s15:=s14.trans s5
     refine⟨bM,fun dl ndl=>?_⟩
     have s6:=Same.new (o:= .lst [.ref a1,.ref a3,.ref a4,.ref a5]) ndl
     obtain⟨vv,hv,cv'⟩:=vD (x0:= .ref a1) (x1:= .ref a3) (x2:= .ref a4) (x3:= .ref a5) (c/4)
     refine⟨_,rfl,_,_,rfl,rfl,(show(0:Int)<4 by decide),dl,_,_,_,rfl,rfl,SqL.of af,hv,?_⟩
     generalize ay H5 dl (.lst [.ref a1,.ref a3,.ref a4,.ref a5])=H6 at s6
     have s06:=s15.trans s6
     have s56:=s5.trans s6
     have s46:=s4.trans s56
     have s36:=s3.trans s46
     refine⟨_,rfl,bM,fun t nt=>?_⟩
     have fin:∀(al:Addr) (xs:List V),vv= .ref al->H al=none->H6 al=some (.lst xs)->xs.length<=1000->(∀x∈xs,x∈vs')->Q (.ref t) (ay H6 t (.tup [.str "split",vv])):=fun al xs e na ha hx sub=>by
      subst e
      have s7:=Same.new (o:= .tup [.str "split",.ref al]) nt
      obtain⟨gs,b1,b2,b3⟩:=mz hvn hat (fun q hq=>(gb q hq).bnd) xs sub
      exact q _ (.split gs) _ (s06.trans s7) (.split (aW (s06.free nt) af) (aW na (s7 _ _ ha)) b1 fun i v q' hv hq=>(b2 i v q' hv hq).same (jc sg)) (.split (by omega) b3)
     rcases cv' with e | e | e | e
     ·exact fin a1 _ e n1 ((s2.trans s36) _ _ h1) (by omega) fun x hx=>kW hx
     ·refine fin a3 _ e (s12.free n3) (s46 _ _ h3) (by rw[AK];omega) fun x hx=>?_
      rcases AZ.mp hx with z | z
      ·exact z
      ·exact kW z
     ·exact fin a4 _ e (s13.free n4) (s56 _ _ h4) (by rw[List.length_reverse];omega) fun x hx=>List.mem_reverse.mp hx
     ·exact fin a5 _ e (s14.free n5) (s6 _ _ h5) (by omega) fun x hx=>kW hx
 exact all 7
theorem PapIs.ok {rows:cw} {ts:List (Addr×Addr×Str×Int×List Nat)} {more:Int} {deep:Nat} {p:List Int} {g:BPap} {U:List Int} (qb:QB rows U) (h:PapIs rows ts more deep p g):bR p->p.length<=6->deep<=6->1<=deep->BOk g:=by
 induction h with
 | tie h=>intros;exact .tie
 | short h=>intros;exact .short (by simp) (by simp)
 | @split p ps h ne lt hn hs ih=>
  intro c l6 d6 d1
  have dl:=bV p
  refine .split (fun z=>by rw[z]at hn;simp at hn) (by omega) fun q hq=>?_
  obtain⟨k,hk⟩:=BB.mp hq
  have:=(AF.mp hk).1
  exact ih k q hk (dP c (by omega)) (by simp;omega) d6 d1
 | @dear p pr es h ne ge hl hm he=>
  intro c l6 d6 d1
  have dl:=bV p
  have pos:0<(dd p).length:=by
   obtain⟨x,r,e⟩:=List.exists_cons_of_ne_nil (l:=p) (fun z=>by rw[z]at ge;simp at ge;omega)
   exact List.length_pos_of_mem (a:=x) (bI.mpr (by rw[e];exact A7))
  refine .dear (fun z=>by rw[z]at hl;simp at hl;omega) (by omega) ?_
  rcases he with⟨_,rfl⟩ | ⟨_,ks,rfl,u1,m1⟩
  ·exact A0 _
  ·rw [AC]
   have:ks.length<=U.length:=(jv u1).length_le_of_subset fun x hx=>by
    obtain⟨b,hb,hx⟩:=(m1 x).mp hx
    exact(ng qb (aU p b) (cM c hb)).2.2 x hx
   have:=qb.u26
   omega
def nO (K:PySem.W.Frag):Sp:=fun vs H Q _=>∃(a:Addr) (ns:List Int),vs=[.ref a]/\SqL K H a (ns.map V.int)/\ns.length<=63/\∀H',Q (.bl true) H'
theorem b7:FnScope ["script","sizes","bill","ties","cell","more","deep","paper","bound","turned","asked","one","handed","found"] ["script"] (ar vo):=⟨rfl,rfl,rfl,by decide +kernel,rfl,by decide +kernel,by decide +kernel⟩
theorem yd (D:Dfs K mg aF dF) (T:Txt mg):FnOk P w K mg base aX 46 (aF 48) (dF 48) ["script"] (nO K):=by
 have Gbears:FnOk P w K mg base aX 45 (aF 21) (dF 21) ["bill","ties","bound","paper"] (o6 K):=vz D T
 have Glaw_cell:FnOk P w K mg base aX 1 (aF 29) (dF 29) ["script","k"] (gq K):=jB D T
 have Glaw_case:FnOk P w K mg base aX 2 (aF 35) (dF 35) ["script","sizes","tops"] (jE K):=pb D T
 have Glaw_bears:FnOk P w K mg base aX 17 (aF 43) (dF 43) ["pattern","bill","ties","bound","paper"] (iS K):=nK D T
 have Glaw_paper:FnOk P w K mg base aX 17 (aF 44) (dF 44) ["pattern","bill","ties","more","deep"] (iU K):=nL D T
 have Glaw_least:FnOk P w K mg base aX 17 (aF 45) (dF 45) ["paper"] (iV K):=nM D T
 have Glaw_turned:FnOk P w K mg base aX 17 (aF 46) (dF 46) ["paper","cell"] (gO K):=lD D T
 refine D.law.fn.ok b7 (fun vs H Q E h=>?_) (fun cdv A outer s H vs Q E hr h=>?_)
 ·obtain⟨a,ns,rfl,_⟩:=h;rfl
 ·have hu:=be hr
  obtain⟨a,ns,rfl,hS,hl,q⟩:=h
  refine⟨_,(ag (ax (i:=1) b7.nd rfl (Or.inl rfl) (aA (aa (aM (aa ae (aa ae ab))) (aa (aM (aa ae (aa ae ab))) (aa (aM (aa ae (aa ae ab))) (aa (aM (aa ae (aa ae ab))) (aa (aM (aa ae (aa ae ab))) (aa (aM (aa ae (aa ae ab))) (aa (aM (aa ae (aa ae ab))) (aa (aM (aa ae (aa ae ab))) (aa (aM (aa ae (aa ae ab))) (aa (aM (aa ae (aa ae ab))) (aa (aM (aa ae (aa ae ab))) (aa (aM (aa ae (aa ae ab))) ab))))))))))))))
   (ag (iW (pc D.law_case Glaw_case (hr.mono (by decide)) (aa (pv 0) (aa (pv 1) (aa (aA (aa (ak aG (ak fK ae ae) ae) (aa ae (aa ae (aa (ak aG (ak fK ae ae) ae) ab))))) ab)))) (vE K rfl (bc (aq (i:=2) b7.nd rfl (Or.inl rfl)) (bc (aq (i:=3) b7.nd rfl (Or.inl rfl)) c7))))
   (ag (ax (i:=4) b7.nd rfl (Or.inl rfl) (pc D.law_cell Glaw_cell (hr.mono (by decide)) (aa (pv 0) (aa ae ab))))
   (ag (ax (i:=5) b7.nd rfl (Or.inl rfl) (ao (cU K) (aA (aa ae (aa ae (aa ae (aa (ak aG (ak fK ae ae) ae) ab))))) (ak aK (ak bX (pv 4) ae) ae) (fun _ _=>rfl)))
   (ag (ax (i:=6) b7.nd rfl (Or.inl rfl) (ak cW (ai (bx K) (by rfl) T.z_len boot_len (aa (pv 2) ab)) (ao (cU K) (aA (aa ae (aa ae (aa ae (aa ae (aa ae ab)))))) (ak aK (ak bX (pv 4) ae) ae) (fun _ _=>rfl))))
   (ag (ax (i:=7) b7.nd rfl (Or.inl rfl) (pc D.law_paper Glaw_paper (hr.mono (by decide)) (aa (aA ab) (aa (pv 2) (aa (pv 3) (aa (pv 5) (aa (ai (lI rfl) (by rfl) T.z_max boot_max (aa ae (aa (pv 6) ab))) ab)))))))
   (ag (ax (i:=8) b7.nd rfl (Or.inl rfl) (pc D.law_least Glaw_least (hr.mono (by decide)) (aa (pv 7) ab)))
   (df (az (av pI (pv 8) gP (aw _))
    (ah (ax (i:=8) b7.nd rfl (Or.inl rfl) (ak aK (pv 4) (ak aG (ak fK ae ae) ae))))
    au)
   (ag (ax (i:=8) b7.nd rfl (Or.inl rfl) (ak aG (pv 8) (ao (cU K) (aA (aa ae (aa ae (aa (t8 pH ae) ab)))) (ak aK (pv 4) ae) (fun _ _=>rfl))))
   (ag (ax (i:=9) b7.nd rfl (Or.inl rfl) (pc D.law_turned Glaw_turned (hr.mono (by decide)) (aa (pv 7) (aa (ak bX (pv 4) ae) ab))))
   (ag (ax (i:=10) b7.nd rfl (Or.inl rfl) (aA (aa (pv 7) (aa (pv 9) (aa (aM (aa aP (aa (aA ab) (aa (aA ab) ab)))) ab)))))
   (df (az (av bj (ak aK (ak bX (pv 4) ae) ae) ae (aw _))
    (ah (ax (i:=10) b7.nd rfl (Or.inl rfl) (aA (aa (pv 9) (aa (aM (aa aP (aa (aA ab) (aa (aA ab) ab)))) (aa (pv 7) ab))))))
    au)
   (ag (bH PassesOwn.never rfl (gG K (pv 10)) (aq (i:=11) b7.nd rfl (Or.inl rfl))
    (ag (b9 (i₀:=12) b7.nd rfl (Or.inl rfl) ["pairs"] [none] rfl (gG K (pv 2)) (fun _=>aq (i:=0) (aB (N:=["pairs"]) (by decide +kernel)) rfl (Or.inl rfl)) (fun _=>aJ) (fun _=>(aI (j8 K) (by rfl) T.z_list boot_list (aa (pv 0) ab))) ((.cons (fun _ e=>by cases e) .nil)))
    (ag (ax (i:=13) b7.nd rfl (Or.inl rfl) (pc D.bears Gbears (hr.mono (by decide)) (aa (pv 12) (aa (aI (j8 K) (by rfl) T.z_list boot_list (aa (pv 3) ab)) (aa (pv 8) (aa (pv 11) ab))))))
    (ag (az (PW.pt (cV (av (Ao K hr.units) (pv 12) (pv 2) (aw _)) (cB (aZ (bg (ai (fJ K) (by rfl) T.z_isinstance boot_isinstance (aa (pv 13) (aa (mJ T.z_bool) ab))))))))
     (ah (aj bB))
     au)
    (ah (az (av gE (pv 13) (pc D.law_bears Glaw_bears (hr.mono (by decide)) (aa (aA ab) (aa (pv 2) (aa (pv 3) (aa (pv 8) (aa (pv 11) ab)))))) (aw _))
     (ah (aj bB))
     au))))))
   (ag (az (av wy (pc D.bears Gbears (hr.mono (by decide)) (aa (pv 2) (aa (pv 3) (aa ae (aa (aM (aa aP (aa (aA ab) (aa (aA ab) ab)))) ab))))) bB (aw _))
    (ah (aj bB))
    au)
   (ah (aj (bY (zY K hr.units) (pv 7) (pc D.law_paper Glaw_paper (hr.mono (by decide)) (aa (aA ab) (aa (pv 2) (aa (pv 3) (aa (pv 5) (aa (ai (lI rfl) (by rfl) T.z_max boot_max (aa ae (aa (pv 6) ab))) ab)))))) (aw _)))))))))))))))))),?_⟩
  refine⟨bM,fun p0 np0=>?_⟩
  have sz0:=Same.new (o:= .tup [.int 3,.int 3]) np0
  have hz0:ay H p0 (.tup [.int 3,.int 3]) p0=some (.tup [.int 3,.int 3]):=af
  have sY0:=sz0
  generalize ay H p0 (.tup [.int 3,.int 3])=HZ0 at sz0 hz0 sY0
  refine⟨bM,fun p1 np1=>?_⟩
  have sz1:=Same.new (o:= .tup [.int 2,.int 6]) np1
  have hz1:ay HZ0 p1 (.tup [.int 2,.int 6]) p1=some (.tup [.int 2,.int 6]):=af
  have sY1:=sY0.trans sz1
  generalize ay HZ0 p1 (.tup [.int 2,.int 6])=HZ1 at sz1 hz1 sY1
  refine⟨bM,fun p2 np2=>?_⟩
  have sz2:=Same.new (o:= .tup [.int 4,.int 4]) np2
  have hz2:ay HZ1 p2 (.tup [.int 4,.int 4]) p2=some (.tup [.int 4,.int 4]):=af
  have sY2:=sY1.trans sz2
  generalize ay HZ1 p2 (.tup [.int 4,.int 4])=HZ2 at sz2 hz2 sY2
  refine⟨bM,fun p3 np3=>?_⟩
  have sz3:=Same.new (o:= .tup [.int 3,.int 5]) np3
  have hz3:ay HZ2 p3 (.tup [.int 3,.int 5]) p3=some (.tup [.int 3,.int 5]):=af
  have sY3:=sY2.trans sz3
  generalize ay HZ2 p3 (.tup [.int 3,.int 5])=HZ3 at sz3 hz3 sY3
  refine⟨bM,fun p4 np4=>?_⟩
  have sz4:=Same.new (o:= .tup [.int 4,.int 3]) np4
  have hz4:ay HZ3 p4 (.tup [.int 4,.int 3]) p4=some (.tup [.int 4,.int 3]):=af
  have sY4:=sY3.trans sz4
  generalize ay HZ3 p4 (.tup [.int 4,.int 3])=HZ4 at sz4 hz4 sY4
  refine⟨bM,fun p5 np5=>?_⟩
  have sz5:=Same.new (o:= .tup [.int 1,.int 1]) np5
  have hz5:ay HZ4 p5 (.tup [.int 1,.int 1]) p5=some (.tup [.int 1,.int 1]):=af
  have sY5:=sY4.trans sz5
  generalize ay HZ4 p5 (.tup [.int 1,.int 1])=HZ5 at sz5 hz5 sY5
  refine⟨bM,fun p6 np6=>?_⟩
  have sz6:=Same.new (o:= .tup [.int 2,.int 2]) np6
  have hz6:ay HZ5 p6 (.tup [.int 2,.int 2]) p6=some (.tup [.int 2,.int 2]):=af
  have sY6:=sY5.trans sz6
  generalize ay HZ5 p6 (.tup [.int 2,.int 2])=HZ6 at sz6 hz6 sY6
  refine⟨bM,fun p7 np7=>?_⟩
  have sz7:=Same.new (o:= .tup [.int 5,.int 2]) np7
  have hz7:ay HZ6 p7 (.tup [.int 5,.int 2]) p7=some (.tup [.int 5,.int 2]):=af
  have sY7:=sY6.trans sz7
  generalize ay HZ6 p7 (.tup [.int 5,.int 2])=HZ7 at sz7 hz7 sY7
  refine⟨bM,fun p8 np8=>?_⟩
  have sz8:=Same.new (o:= .tup [.int 3,.int 12]) np8
  have hz8:ay HZ7 p8 (.tup [.int 3,.int 12]) p8=some (.tup [.int 3,.int 12]):=af
  have sY8:=sY7.trans sz8
  generalize ay HZ7 p8 (.tup [.int 3,.int 12])=HZ8 at sz8 hz8 sY8
  refine⟨bM,fun p9 np9=>?_⟩
  have sz9:=Same.new (o:= .tup [.int 2,.int 20]) np9
  have hz9:ay HZ8 p9 (.tup [.int 2,.int 20]) p9=some (.tup [.int 2,.int 20]):=af
  have sY9:=sY8.trans sz9
  generalize ay HZ8 p9 (.tup [.int 2,.int 20])=HZ9 at sz9 hz9 sY9
  refine⟨bM,fun p10 np10=>?_⟩
  have sz10:=Same.new (o:= .tup [.int 4,.int 2]) np10
  have hz10:ay HZ9 p10 (.tup [.int 4,.int 2]) p10=some (.tup [.int 4,.int 2]):=af
  have sY10:=sY9.trans sz10
  generalize ay HZ9 p10 (.tup [.int 4,.int 2])=HZ10 at sz10 hz10 sY10
  refine⟨bM,fun p11 np11=>?_⟩
  have sz11:=Same.new (o:= .tup [.int 5,.int 1]) np11
  have hz11:ay HZ10 p11 (.tup [.int 5,.int 1]) p11=some (.tup [.int 5,.int 1]):=af
  have sY11:=sY10.trans sz11
  generalize ay HZ10 p11 (.tup [.int 5,.int 1])=HZ11 at sz11 hz11 sY11
  refine⟨bM,fun sa nsa=>?_⟩
  have szL:=Same.new (o:= .lst [.ref p0,.ref p1,.ref p2,.ref p3,.ref p4,.ref p5,.ref p6,.ref p7,.ref p8,.ref p9,.ref p10,.ref p11]) nsa
  have hsa:ay HZ11 sa (.lst [.ref p0,.ref p1,.ref p2,.ref p3,.ref p4,.ref p5,.ref p6,.ref p7,.ref p8,.ref p9,.ref p10,.ref p11]) sa=some (.lst ([p0,p1,p2,p3,p4,p5,p6,p7,p8,p9,p10,p11].map V.ref)):=af
  have sZ:=sY11.trans szL
  generalize ay HZ11 sa (.lst [.ref p0,.ref p1,.ref p2,.ref p3,.ref p4,.ref p5,.ref p6,.ref p7,.ref p8,.ref p9,.ref p10,.ref p11])=HZ at szL hsa sZ
  have rsz:RowAt HZ sa [(3,3),(2,6),(4,4),(3,5),(4,3),(1,1),(2,2),(5,2),(3,12),(2,20),(4,2),(5,1)]:=⟨_,hsa,(.cons (show b4 HZ p0 (3,3)from(szL _ _ (sz11 _ _ (sz10 _ _ (sz9 _ _ (sz8 _ _ (sz7 _ _ (sz6 _ _ (sz5 _ _ (sz4 _ _ (sz3 _ _ (sz2 _ _ (sz1 _ _ hz0))))))))))))) (.cons (show b4 HZ p1 (2,6)from(szL _ _ (sz11 _ _ (sz10 _ _ (sz9 _ _ (sz8 _ _ (sz7 _ _ (sz6 _ _ (sz5 _ _ (sz4 _ _ (sz3 _ _ (sz2 _ _ hz1)))))))))))) (.cons (show b4 HZ p2 (4,4)from(szL _ _ (sz11 _ _ (sz10 _ _ (sz9 _ _ (sz8 _ _ (sz7 _ _ (sz6 _ _ (sz5 _ _ (sz4 _ _ (sz3 _ _ hz2))))))))))) (.cons (show b4 HZ p3 (3,5)from(szL _ _ (sz11 _ _ (sz10 _ _ (sz9 _ _ (sz8 _ _ (sz7 _ _ (sz6 _ _ (sz5 _ _ (sz4 _ _ hz3)))))))))) (.cons (show b4 HZ p4 (4,3)from(szL _ _ (sz11 _ _ (sz10 _ _ (sz9 _ _ (sz8 _ _ (sz7 _ _ (sz6 _ _ (sz5 _ _ hz4))))))))) (.cons (show b4 HZ p5 (1,1)from(szL _ _ (sz11 _ _ (sz10 _ _ (sz9 _ _ (sz8 _ _ (sz7 _ _ (sz6 _ _ hz5)))))))) (.cons (show b4 HZ p6 (2,2)from(szL _ _ (sz11 _ _ (sz10 _ _ (sz9 _ _ (sz8 _ _ (sz7 _ _ hz6))))))) (.cons (show b4 HZ p7 (5,2)from(szL _ _ (sz11 _ _ (sz10 _ _ (sz9 _ _ (sz8 _ _ hz7)))))) (.cons (show b4 HZ p8 (3,12)from(szL _ _ (sz11 _ _ (sz10 _ _ (sz9 _ _ hz8))))) (.cons (show b4 HZ p9 (2,20)from(szL _ _ (sz11 _ _ (sz10 _ _ hz9)))) (.cons (show b4 HZ p10 (4,2)from(szL _ _ (sz11 _ _ hz10))) (.cons (show b4 HZ p11 (5,1)from(szL _ _ hz11)) .nil))))))))))))⟩
  clear hz0 sz0 hz1 sz1 hz2 sz2 hz3 sz3 hz4 sz4 hz5 sz5 hz6 sz6 hz7 sz7 hz8 sz8 hz9 sz9 hz10 sz10 hz11 sz11 szL hsa
  refine⟨_,rfl,_,rfl,?_⟩
  walk_at "go"
  refine⟨bM,fun ta nta=>?_⟩
  refine⟨a,sa,ta,ns,_,[10^18+1,5,2,10^9+7],rfl,(sZ.trans (Same.new nta)).seq hS,hl,rsz.same (Same.new nta),by decide,by decide,SqL.of af,by decide,by decide,fun t l y rs rows bs ts tp H1 s1 nt ht nl hl1 bl1 fr1 hex bo rok tpm ny hy tt t12=>?_⟩
  have s01:=(sZ.trans (Same.new nta)).trans s1
  have bnd:1<=rows.length/\rows.length<=5/\bs.length<=20:=by
   obtain⟨x,hx,e1,e2⟩:=hex
   have:=(show ∀x∈([(3,3),(2,6),(4,4),(3,5),(4,3),(1,1),(2,2),(5,2),(3,12),(2,20),(4,2),(5,1)]:List (Int×Int)),1<=x.1/\x.1<=5/\x.2<=20 by decide) x hx
   omega
  obtain⟨r1,r5,b20⟩:=bnd
  have r20:∀row∈rows,row.length<=20:=fun row hr=>A9 (bo.len row hr) b20
  have qb:QB rows bs:=⟨by omega,fun row hr=>⟨r20 row hr,jv (bo.up row hr)⟩,bo.up,fun row hr x hx=>((rok row hr).inn x hx).2.1,bo.inn,by omega⟩
  have rl:rs.length=rows.length:=bl1.len
  refine⟨t,_,rfl,SqT.of ht,rfl,_,_,rfl,_,_,rfl,rfl,?_⟩
  clear rsz sZ hex
  have tOk:∀Hx yy,Same H1 Hx->Hx yy=some (.lst (ts.map fun x=>V.ref x.1))->Ties K Hx yy ts 100:=fun Hx yy sx hyy=>⟨SqL.of hyy,fun x hx=>(tt x hx).1.same sx,by omega⟩
  refine⟨_,rfl,a,ns,3,rfl,s01.seq hS,?_⟩
  generalize ns.getD 3 0=ce
  walk_at "go"
  refine⟨bM,fun p1 np1=>?_⟩
  obtain⟨more,hmore,_⟩:=dS [0,0,1,10^9+7] (ce/3) (n:=4) rfl (by decide)
  have s2:=Same.new (o:= .lst (([0,0,1,10^9+7]:List Int).map V.int)) np1
  refine⟨_,rfl,_,_,rfl,rfl,(show gC _ 3 from⟨by decide,by decide⟩),_,_,rfl,rfl,(show(0:Int)<4 by decide),p1,_,_,_,rfl,rfl,SqL.of af,hmore,?_⟩
  have s2:Same H1 (ay H1 p1 (.lst (([0,0,1,10^9+7]:List Int).map V.int))):=Same.new np1
  generalize hE2:ay H1 p1 _=H2
  have s2:Same H1 H2:=hE2▸Same.new np1
  refine⟨_,rfl,_,rows.length,rfl,.inl ⟨_,SqL.of (s2 _ _ hl1),by rw[AC,rl]⟩,bM,fun p2 np2=>?_⟩
  obtain⟨dv,hdv,dvm⟩:=dS [0,0,0,1,2] (ce/24) (n:=5) rfl (by decide)
  have s3:=Same.new (o:= .lst (([0,0,0,1,2]:List Int).map V.int)) np2
  refine⟨_,rfl,_,_,rfl,rfl,(show gC _ 24 from⟨by decide,by decide⟩),_,_,rfl,rfl,(show(0:Int)<5 by decide),p2,_,_,_,rfl,rfl,SqL.of af,hdv,_,_,rfl,rfl,?_⟩
  have s3:Same H2 (ay H2 p2 (.lst [.int 0,.int 0,.int 0,.int 1,.int 2])):=Same.new np2
  generalize ay H2 p2 (.lst [.int 0,.int 0,.int 0,.int 1,.int 2])=H3 at s3
  have s13:=s2.trans s3
  have dvb:0<=dv/\dv<=2:=by
   simp only[AR,A4,or_false]at dvm
   omega
  have paperAt:True:=trivial
  refine⟨bM,fun e0 ne0=>?_⟩
  have s4:=Same.new (o:= .lst []) ne0
  have he0:ay H3 e0 (.lst []) e0=some (.lst []):=af
  generalize ay H3 e0 (.lst [])=H4 at s4 he0
  have s14:=s13.trans s4
  obtain⟨dp,edp,dp1,dp2⟩:∃dp:Nat,(if(1:Int)<(rows.length:Int)-dv then(rows.length:Int)-dv else 1)=(dp:Int)/\1<=dp/\dp<=rows.length:=⟨(if(1:Int)<(rows.length:Int)-dv then(rows.length:Int)-dv else 1).toNat,by split<;>omega,by split<;>omega,by split<;>omega⟩
  refine⟨_,rfl,_,rfl,_,rfl,_,rfl,_,_,rfl,e0,l,y,more,dp,[],rs,rows,bs,ts,(by show [V.ref e0,V.ref l,V.ref y,V.int more,V.int (if(1:Int)<(rows.length:Int)-dv then(rows.length:Int)-dv else 1)]=_;rw[edp]),he0,s14 _ _ hl1,bl1.same s14,qb,tOk _ _ s14 (s14 _ _ hy),eZ,A0 _,dp2,by simp;omega,fun v g H5 s5 bp pi=>?_⟩
  have bp5:BPapAt H5 v g:=bp.same qZ
  have gok:=PapIs.ok qb pi eZ (A0 _) (by omega) dp1
  have grk:=pi.rk 6 (by simp;omega)
  obtain⟨vt,rfl⟩:=bp5.ref
  have s15:=s14.trans s5
  refine⟨_,rfl,_,g,6,rfl,bp5,gok.bnd,grk,by omega,fun o H6 s6 _=>?_⟩
  have s16:=s15.trans s6
  have bp6:=bp5.same s6
  refine⟨fun σ Hx=>∃(bd:Int),σ=[some (.ref a),some (.ref sa),some (.ref l),some (.ref y),some (.int ce),some (.int more),some (.int ((rows.length:Int)-dv)),some (.ref vt),some (.int bd),none,none,none,none,none]/\Same H6 Hx,?_,?_⟩
  ·refine⟨_,rfl,rfl,?_⟩
   rw[uX]
   cases o with
   | none=>
    refine⟨_,rfl,bP ?_⟩
    refine⟨_,rfl,_,_,rfl,rfl,⟨by decide,by decide,by decide⟩,_,_,rfl,rfl,_,_,rfl,rfl,(show(0:Int)<10^(18:Int).toNat+1 by decide),?_⟩
    exact⟨_,rfl,Same.refl _⟩
   | some bd=>exact⟨_,rfl,aE ⟨bd,rfl,Same.refl _⟩⟩
  rintro σ H7 ⟨bd0,rfl,s7⟩
  refine⟨_,rfl,_,rfl,bM,fun p3 np3=>?_⟩
  obtain⟨bv,hbv,_⟩:=dS [0,1,-1] ce (n:=3) rfl (by decide)
  refine⟨_,rfl,_,_,rfl,rfl,(show(0:Int)<3 by decide),p3,_,_,_,rfl,rfl,SqL.of af,hbv,_,_,rfl,rfl,?_⟩
  generalize hE8:ay H7 p3 _=H8
  have s8:Same H7 H8:=hE8▸Same.new np3
  dsimp only
  generalize bd0+bv=bd
  have s68:=s7.trans s8
  have s18:=s16.trans s68
  have bp8:=bp6.same s68
  refine⟨_,rfl,_,rfl,_,_,rfl,rfl,(show gC _ 120 from⟨by decide,by decide⟩),_,_,g,6,H8,rfl,Same.refl _,bp8,gok,grk,by omega,fun v2 g2 H9 s9 bpj bb2=>?_⟩
  have bp29:=bpj.same (kU (Same.refl _) s9)
  obtain⟨v2t,rfl⟩:=bp29.ref
  have s19:=s18.trans s9
  have bp9:=bp8.same s9
  have empAt:∀(Hx:Hp) (z1 z2 tq:Addr),Hx tq=some (.tup [.str "dear",.ref z1,.ref z2])->Hx z1=some (.lst [])->Hx z2=some (.lst [])->BPapAt Hx (.ref tq) (.dear [] []):=fun Hx z1 z2 tq h1 h2 h3=> .dear h1 h2 ⟨[],h3,.nil⟩
  refine⟨_,rfl,_,rfl,bM,fun z1 nz1=>⟨bM,fun z2 nz2=>⟨bM,fun tq ntq=>?_⟩⟩⟩
  have sA:=Same.new (o:= .lst []) nz1
  have hz1:ay H9 z1 (.lst []) z1=some (.lst []):=af
  generalize ay H9 z1 (.lst [])=HA at sA hz1 nz2 ntq
  have sB:=Same.new (o:= .lst []) nz2
  have hz2:ay HA z2 (.lst []) z2=some (.lst []):=af
  generalize ay HA z2 (.lst [])=HB at sB hz2 ntq
  have sC:=Same.new (o:= .tup [.str "dear",.ref z1,.ref z2]) ntq
  have htq:ay HB tq (.tup [.str "dear",.ref z1,.ref z2]) tq=some (.tup [.str "dear",.ref z1,.ref z2]):=af
  generalize ay HB tq (.tup [.str "dear",.ref z1,.ref z2])=HC at sC htq
  have bpC:=empAt HC z1 z2 tq htq ((sB.trans sC) _ _ hz1) (sC _ _ hz2)
  have s9C:=(sA.trans sB).trans sC
  refine⟨bM,fun la nla=>?_⟩
  have sD:=Same.new (o:= .lst [.ref vt,.ref v2t,.ref tq]) nla
  have hla:ay HC la (.lst [.ref vt,.ref v2t,.ref tq]) la=some (.lst [.ref vt,.ref v2t,.ref tq]):=af
  generalize ay HC la (.lst [.ref vt,.ref v2t,.ref tq])=HD at sD hla
  have s9D:=s9C.trans sD
  have s1D:=s19.trans s9D
  have bpD:=bp9.same s9D
  have bp2D:=bp29.same s9D
  have bb1:=gok.bnd
  have bb0:BBnd (.dear [] []):= .dear (A0 _) (A0 _)
  refine⟨fun σ Hx=>∃(la:Addr) (xs:List V),σ=[some (.ref a),some (.ref sa),some (.ref l),some (.ref y),some (.int ce),some (.int more),some (.int ((rows.length:Int)-dv)),some (.ref vt),some (.int bd),some (.ref v2t),some (.ref la),none,none,none]/\Same HD Hx/\Hx la=some (.lst xs)/\xs.length=3/\∀x∈xs,∃g,BPapAt Hx x g/\BBnd g,?_,?_⟩
  ·refine⟨_,rfl,_,_,rfl,rfl,(show gC _ 12 from⟨by decide,by decide⟩),_,_,rfl,rfl,(show(0:Int)<2 by decide),rfl,_,rfl,gS (fun _=>?_) fun _=>?_⟩
   ·refine⟨_,rfl,bM,fun y1 ny1=>⟨bM,fun y2 ny2=>⟨bM,fun tr ntr=>?_⟩⟩⟩
    have tA:=Same.new (o:= .lst []) ny1
    have hy1:ay HD y1 (.lst []) y1=some (.lst []):=af
    generalize ay HD y1 (.lst [])=HE at tA hy1 ny2 ntr
    have tB:=Same.new (o:= .lst []) ny2
    have hy2:ay HE y2 (.lst []) y2=some (.lst []):=af
    generalize ay HE y2 (.lst [])=HF at tB hy2 ntr
    have tC:=Same.new (o:= .tup [.str "dear",.ref y1,.ref y2]) ntr
    have htr:ay HF tr (.tup [.str "dear",.ref y1,.ref y2]) tr=some (.tup [.str "dear",.ref y1,.ref y2]):=af
    generalize ay HF tr (.tup [.str "dear",.ref y1,.ref y2])=HG at tC htr
    have bpG:=empAt HG y1 y2 tr htr ((tB.trans tC) _ _ hy1) (tC _ _ hy2)
    have tDG:=(tA.trans tB).trans tC
    refine⟨_,rfl,bM,fun lb nlb=>?_⟩
    have tD:=Same.new (o:= .lst [.ref v2t,.ref tr,.ref vt]) nlb
    refine⟨lb,_,rfl,tDG.trans tD,af,rfl,fun x hx=>?_⟩
    have tt':=tDG.trans tD
    simp only[AR,A4,or_false]at hx
    rcases hx with rfl | rfl | rfl
    ·exact⟨g2,bp2D.same tt',bb2⟩
    ·exact⟨_,bpG.same tD,bb0⟩
    ·exact⟨g,bpD.same tt',bb1⟩
   ·refine⟨la,_,rfl,Same.refl _,hla,rfl,fun x hx=>?_⟩
    simp only[AR,A4,or_false]at hx
    rcases hx with rfl | rfl | rfl
    ·exact⟨g,bpD,bb1⟩
    ·exact⟨g2,bp2D,bb2⟩
    ·exact⟨_,bpC.same sD,bb0⟩
  rintro σ HH ⟨la,xs,rfl,sH,hla,xl,xal⟩
  have s1H:=s1D.trans sH
  refine⟨_,rfl,la,rfl,⟨_,SqL.of hla⟩,?_⟩
  refine cq (K:=K) (a:=la) (xs:=xs) (fun i σ Hx=>∃(x1 x2 x3:Option V),σ=[some (.ref a),some (.ref sa),some (.ref l),some (.ref y),some (.int ce),some (.int more),some (.int ((rows.length:Int)-dv)),some (.ref vt),some (.int bd),some (.ref v2t),some (.ref la),x1,x2,x3]/\Same HH Hx) ⟨none,none,none,rfl,Same.refl _⟩ (fun i σ Hx _ hq__=>by obtain⟨_,_,_,_,s⟩:=hq__;exact SqL.of (s _ _ hla)) ?_ ?_
  ·rintro i x σ Hx hx ⟨x1,x2,x3,rfl,sx⟩
   obtain⟨gx,bpx,bbx⟩:=xal x (AJ hx)
   have bpx:=bpx.same sx
   obtain⟨xt,rfl⟩:=bpx.ref
   have s1x:=s1H.trans sx
   have hlx:=s1x _ _ hl1
   have blx:=bl1.same s1x
   refine⟨_,rfl,l,rfl,⟨_,SqL.of hlx⟩,?_⟩
   refine qo hlx blx (by omega) (fun r xs H2 R hr2 k=>⟨_,rfl,r,_,rfl,.inl (SqL.of hr2),fun l nl=>k l _ (Same.new nl) nl af⟩) fun hn ls Hy sy nhn hhn bh nls ndl=>?_
   have s1y:=s1x.trans sy
   refine⟨_,rfl,_,rfl,y,_,rfl,.inl (SqL.of (s1y _ _ hy)),fun y2 ny2=>?_⟩
   have sz:=Same.new (o:= .lst (ts.map fun x=>V.ref x.1)) ny2
   have hy2:ay Hy y2 (.lst (ts.map fun x=>V.ref x.1)) y2=some (.lst (ts.map fun x=>V.ref x.1)):=af
   generalize ay Hy y2 (.lst (ts.map fun x=>V.ref x.1))=Hz at sz hy2
   have sxz:=sy.trans sz
   have s1z:=s1x.trans sxz
   refine⟨_,rfl,_,rfl,hn,y2,bd,.ref xt,ls,rows,bs,ts,gx,rfl,sz _ _ hhn,bh.same sz,qb,tOk _ _ s1z hy2,bpx.same sxz,bbx,fun Hw sw=>?_⟩
   have szw:=sz.trans sw
   have sxw:=sxz.trans sw
   have s1w:=s1x.trans sxw
   refine⟨_,rfl,_,rfl,3,true,sT (szw _ _ hhn) (bh.same szw) (s1w _ _ hl1) (bl1.same s1w),by decide,rfl,_,rfl,aE ?_⟩
   refine⟨_,rfl,_,_,_,true,rfl,.bl _,rfl,_,rfl,aE ?_⟩
   refine⟨_,rfl,bM,fun e1 ne1=>?_⟩
   have sv:=Same.new (o:= .lst []) ne1
   have s1v:=s1w.trans sv
   refine⟨_,rfl,_,rfl,_,rfl,_,rfl,e1,l,y,bd,.ref xt,[],rs,rows,ts,gx,rfl,af,s1v _ _ hl1,bl1.same s1v,by omega,qb.ok,tOk _ _ s1v (s1v _ _ hy),eZ,A0 _,by simp;omega,bpx.same (sxw.trans sv),bbx,fun Hu su=>⟨rfl,_,rfl,kz rfl ?_⟩⟩
   exact⟨_,_,_,rfl,sx.trans ((sxw.trans sv).trans su)⟩
  rintro σ HI ⟨x1,x2,x3,rfl,sI⟩
  have s1I:=s1H.trans sI
  refine⟨_,rfl,_,rfl,bM,fun z1 nz1=>⟨bM,fun z2 nz2=>⟨bM,fun tq ntq=>?_⟩⟩⟩
  clear sA sB sC hz1 hz2 htq bpC s9C
  have sA:=Same.new (o:= .lst []) nz1
  have hz1:ay HI z1 (.lst []) z1=some (.lst []):=af
  generalize ay HI z1 (.lst [])=HJ at sA hz1 nz2 ntq
  have sB:=Same.new (o:= .lst []) nz2
  have hz2:ay HJ z2 (.lst []) z2=some (.lst []):=af
  generalize ay HJ z2 (.lst [])=HK at sB hz2 ntq
  have sC:=Same.new (o:= .tup [.str "dear",.ref z1,.ref z2]) ntq
  have htq:ay HK tq (.tup [.str "dear",.ref z1,.ref z2]) tq=some (.tup [.str "dear",.ref z1,.ref z2]):=af
  generalize ay HK tq (.tup [.str "dear",.ref z1,.ref z2])=HL at sC htq
  have bpL:=empAt HL z1 z2 tq htq ((sB.trans sC) _ _ hz1) (sC _ _ hz2)
  have sIL:=(sA.trans sB).trans sC
  have s1L:=s1I.trans sIL
  refine⟨l,y,0,.ref tq,rs,rows,bs,ts,.dear [] [],rfl,s1L _ _ hl1,bl1.same s1L,qb,tOk _ _ s1L (s1L _ _ hy),bpL,bb0,fun HM sM=>?_⟩
  have bt:cP rows (ts.map dy) 0 7 [] (.dear [] [])=true:=by
   rw[mj];rfl
  rw[bt]
  refine⟨_,_,rfl,rfl,_,rfl,aE ?_⟩
  have s1M:=s1L.trans sM
  refine⟨_,rfl,bM,fun e1 ne1=>?_⟩
  have sN:=Same.new (o:= .lst []) ne1
  have s1N:=s1M.trans sN
  refine⟨_,rfl,_,rfl,_,rfl,_,rfl,_,_,rfl,e1,l,y,more,dp,[],rs,rows,bs,ts,(by show [V.ref e1,V.ref l,V.ref y,V.int more,V.int (if(1:Int)<(rows.length:Int)-dv then(rows.length:Int)-dv else 1)]=_;rw[edp]),af,s1N _ _ hl1,bl1.same s1N,qb,tOk _ _ s1N (s1N _ _ hy),eZ,A0 _,dp2,by simp;omega,fun v' g' HO sO bp' pi'=>?_⟩
  have eg:=pi.uniq pi'
  subst eg
  obtain⟨vt',rfl⟩:=bp'.ref
  have sDO:=((((sH.trans sI).trans sIL).trans sM).trans sN).trans sO
  exact⟨15,true,vn grk (bpD.same sDO) (bp'.same qZ),by decide,rfl,q _⟩
end
def Fd (K:PySem.W.Frag) (nm:Str) (st:Stmt) (f:Addr):Prop:=∃(od an:Option Addr) (sl:Array (Option Value)) (oc kV dc pm cd ct:Value),PySem.W.nsIn K mainGlobals nm=some (some (.ref f))/\K.lookup f=some ⟨oc,od,.func (PySem.W.fnOf nm nm (fo st) (eE st) (ar st) .none kV dc pm an cd ct),sl⟩/\PySem.W.codeIn K cd nm=true/\PySem.W.keepIn K (.ref f)=true
theorem aN {K:PySem.W.Frag} {nm:Str} {st:Stmt} {f:Addr} {h:Heap} {mg:Str->Option Value} {ps:List Str} (X:K.In h) (G:h.Ns mainGlobals mg) (q:Fd K nm st f) (hb:∀(kV dc pm:Value) (an:Option Addr) (cd ct:Value) (us:List Value),us.length=ps.length->bindArgs (PySem.W.fnOf nm nm (fo st) (eE st) (ar st) .none kV dc pm an cd ct) ⟨us,[]⟩=pure (ps.zip us)):∃fd,Def K mg nm st ps f fd/\∀(s:Shared) (us:List Value),us.length=ps.length->BindsTo s fd ⟨us,[]⟩ (ps.zip us):=by
 obtain⟨od,an,sl,oc,kV,dc,pm,cd,ct,a,l,c,k⟩:=q
 have F:=xI (st:=st) l c k
 exact⟨_,⟨F,F.binds hb,PySem.W.mg_of X G a⟩,fun s us hl=> .of_eq (hb kV dc pm an cd ct us hl)⟩
theorem tV {F:List Value->Prop} {x0:Str} (h:∀v0,F [v0]):∀us:List Value,us.length=[x0].length->F us:=fun us hl=>by obtain⟨_,rfl⟩:=Ar hl;exact h _
theorem qC {F:List Value->Prop} {x0 x1:Str} (h:∀v0 v1,F [v0,v1]):∀us:List Value,us.length=[x0,x1].length->F us:=fun us hl=>by obtain⟨_,_,rfl⟩:=As hl;exact h _ _
theorem vG {F:List Value->Prop} {x0 x1 x2:Str} (h:∀v0 v1 v2,F [v0,v1,v2]):∀us:List Value,us.length=[x0,x1,x2].length->F us:=fun us hl=>by obtain⟨_,_,_,rfl⟩:=Au hl;exact h _ _ _
theorem zi {F:List Value->Prop} {x0 x1 x2 x3:Str} (h:∀v0 v1 v2 v3,F [v0,v1,v2,v3]):∀us:List Value,us.length=[x0,x1,x2,x3].length->F us:=fun us hl=>by obtain⟨_,_,_,_,rfl⟩:=Av hl;exact h _ _ _ _
theorem ye {F:List Value->Prop} {x0 x1 x2 x3 x4:Str} (h:∀v0 v1 v2 v3 v4,F [v0,v1,v2,v3,v4]):∀us:List Value,us.length=[x0,x1,x2,x3,x4].length->F us:=fun us hl=>by obtain⟨_,_,_,_,_,rfl⟩:=Aw hl;exact h _ _ _ _ _
theorem aO {K:PySem.W.Frag} {nm:Str} {st:Stmt} {f:Addr} {od an:Option Addr} {sl:Array (Option Value)} {oc kV dc pm cd ct:Value} (a:PySem.W.nsIn K mainGlobals nm=some (some (.ref f))) (l:K.lookup f=some ⟨oc,od,.func (PySem.W.fnOf nm nm (fo st) (eE st) (ar st) .none kV dc pm an cd ct),sl⟩) (c:PySem.W.codeIn K cd nm=true) (k:PySem.W.keepIn K (.ref f)=true):Fd K nm st f:=⟨od,an,sl,oc,kV,dc,pm,cd,ct,a,l,c,k⟩
theorem yf {l:PySem.W.OpenLaw} {w:World} {K:PySem.W.Frag} {h:Heap} {mg:Str->Option Value} {fa fl f0 f1 f2 f3 f4 f5 f6 f7 f8 f9 f10 f11 f12 f13 f14 f15 f16 f17 f18 f19 f20 f21 f22 f23 f24 f25 f26 f27 f28 f29 f30 f31 f32 f33 f34 f35 f36 f37 f38 f39 f40 f41 f42 f43 f44 f45 f46 f47:Addr} (X:K.In h) (G:h.Ns mainGlobals mg) (hfa:mg "law"=some (.ref fa))
  (q0:Fd K "is_whole" gZ f0)
  (q1:Fd K "is_badge" g5 f1)
  (q2:Fd K "is_rising" fQ f2)
  (q3:Fd K "common" kD f3)
  (q4:Fd K "joined" kE f4)
  (q5:Fd K "width" nh f5)
  (q6:Fd K "grown" ni f6)
  (q7:Fd K "breaks" kF f7)
  (q8:Fd K "unlike" kG f8)
  (q9:Fd K "pools_of" g6 f9)
  (q10:Fd K "pool_of" jg f10)
  (q11:Fd K "shows_for" fR f11)
  (q12:Fd K "tie_shows" fS f12)
  (q13:Fd K "short_shows" eO f13)
  (q14:Fd K "is_list_of_blocks" cj f14)
  (q15:Fd K "split_shows" eP f15)
  (q16:Fd K "is_split" g7 f16)
  (q17:Fd K "may_of" kH f17)
  (q18:Fd K "sums" qz f18)
  (q19:Fd K "sums_of" jh f19)
  (q20:Fd K "added" nj f20)
  (q21:Fd K "bears" nq f21)
  (q22:Fd K "bears_for" fT f22)
  (q23:Fd K "split_bears" eQ f23)
  (q24:Fd K "dear_bears" fC f24)
  (q25:Fd K "is_within" fU f25)
  (q26:Fd K "is_list_of_prices" ck f26)
  (q27:Fd K "is_list_of_dues" cQ f27)
  (q28:Fd K "is_due" kI f28)
  (q29:Fd K "_law_cell" g8 f29)
  (q30:Fd K "_law_entries" eR f30)
  (q31:Fd K "_law_whole" fV f31)
  (q32:Fd K "_law_badges" fD f32)
  (q33:Fd K "_law_bill" g9 f33)
  (q34:Fd K "_law_ties" hE f34)
  (q35:Fd K "_law_case" hU f35)
  (q36:Fd K "_law_wide" hX f36)
  (q37:Fd K "_law_pool" hZ f37)
  (q38:Fd K "_law_minutes" eU f38)
  (q39:Fd K "_law_breaks" fE f39)
  (q40:Fd K "_law_short" fW f40)
  (q41:Fd K "_law_dues" h8 f41)
  (q42:Fd K "_law_dear" h9 f42)
  (q43:Fd K "_law_bears" fX f43)
  (q44:Fd K "_law_paper" fY f44)
  (q45:Fd K "_law_least" fZ f45)
  (q46:Fd K "_law_turned" fF f46)
  (q47:Fd K "_law_dear_turned" cR f47)
  (q48:Fd K "law" vo fl)
  (z0:PySem.W.nsIn K mainGlobals "all"=some none)
  (z1:PySem.W.nsIn K mainGlobals "bool"=some none)
  (z2:PySem.W.nsIn K mainGlobals "dict"=some none)
  (z3:PySem.W.nsIn K mainGlobals "int"=some none)
  (z4:PySem.W.nsIn K mainGlobals "isinstance"=some none)
  (z5:PySem.W.nsIn K mainGlobals "len"=some none)
  (z6:PySem.W.nsIn K mainGlobals "list"=some none)
  (z7:PySem.W.nsIn K mainGlobals "max"=some none)
  (z8:PySem.W.nsIn K mainGlobals "min"=some none)
  (z9:PySem.W.nsIn K mainGlobals "range"=some none)
  (z10:PySem.W.nsIn K mainGlobals "reversed"=some none)
  (z11:PySem.W.nsIn K mainGlobals "set"=some none)
  (z12:PySem.W.nsIn K mainGlobals "sorted"=some none)
  (z13:PySem.W.nsIn K mainGlobals "sum"=some none)
  (z14:PySem.W.nsIn K mainGlobals "tuple"=some none)
  (z15:PySem.W.nsIn K mainGlobals "zip"=some none)
  :∃fd:FuncData,(∀(s:Shared) (v:Value),BindsTo s fd ⟨[v],[]⟩ [("script",v)])/\∀base:Heap,K.In base->base.Ns mainGlobals mg->FnOk l.prog w K mg base aX 46 fa fd ["script"] (nO K):=by
 obtain⟨dl,Dl,Bl⟩:=aN (ps:=["script"]) X G q48 (fun _ _ _ _ _ _=>tV fun _=>rfl)
 have e:=hfa.symm.trans Dl.at'
 cases e
 have T:Txt mg:=⟨PySem.W.mg_none_of X G z0,PySem.W.mg_none_of X G z1,PySem.W.mg_none_of X G z2,PySem.W.mg_none_of X G z3,PySem.W.mg_none_of X G z4,PySem.W.mg_none_of X G z5,PySem.W.mg_none_of X G z6,PySem.W.mg_none_of X G z7,PySem.W.mg_none_of X G z8,PySem.W.mg_none_of X G z9,PySem.W.mg_none_of X G z10,PySem.W.mg_none_of X G z11,PySem.W.mg_none_of X G z12,PySem.W.mg_none_of X G z13,PySem.W.mg_none_of X G z14,PySem.W.mg_none_of X G z15⟩
 obtain⟨d0,D0,-⟩:=aN (ps:=["thing"]) X G q0 (fun _ _ _ _ _ _=>tV fun _=>rfl)
 obtain⟨d1,D1,-⟩:=aN (ps:=["thing"]) X G q1 (fun _ _ _ _ _ _=>tV fun _=>rfl)
 obtain⟨d2,D2,-⟩:=aN (ps:=["numbers"]) X G q2 (fun _ _ _ _ _ _=>tV fun _=>rfl)
 obtain⟨d3,D3,-⟩:=aN (ps:=["one","other"]) X G q3 (fun _ _ _ _ _ _=>qC fun _ _=>rfl)
 obtain⟨d4,D4,-⟩:=aN (ps:=["one","other"]) X G q4 (fun _ _ _ _ _ _=>qC fun _ _=>rfl)
 obtain⟨d5,D5,-⟩:=aN (ps:=["pattern"]) X G q5 (fun _ _ _ _ _ _=>tV fun _=>rfl)
 obtain⟨d6,D6,-⟩:=aN (ps:=["pattern"]) X G q6 (fun _ _ _ _ _ _=>tV fun _=>rfl)
 obtain⟨d7,D7,-⟩:=aN (ps:=["pattern","tie"]) X G q7 (fun _ _ _ _ _ _=>qC fun _ _=>rfl)
 obtain⟨d8,D8,-⟩:=aN (ps:=["row","steps"]) X G q8 (fun _ _ _ _ _ _=>qC fun _ _=>rfl)
 obtain⟨d9,D9,-⟩:=aN (ps:=["pattern","may"]) X G q9 (fun _ _ _ _ _ _=>qC fun _ _=>rfl)
 obtain⟨d10,D10,-⟩:=aN (ps:=["block","pattern","may"]) X G q10 (fun _ _ _ _ _ _=>vG fun _ _ _=>rfl)
 obtain⟨d11,D11,-⟩:=aN (ps:=["pattern","may","ties","paper"]) X G q11 (fun _ _ _ _ _ _=>zi fun _ _ _ _=>rfl)
 obtain⟨d12,D12,-⟩:=aN (ps:=["pattern","ties","place"]) X G q12 (fun _ _ _ _ _ _=>vG fun _ _ _=>rfl)
 obtain⟨d13,D13,-⟩:=aN (ps:=["pattern","may","blocks"]) X G q13 (fun _ _ _ _ _ _=>vG fun _ _ _=>rfl)
 obtain⟨d14,D14,-⟩:=aN (ps:=["pattern","blocks"]) X G q14 (fun _ _ _ _ _ _=>qC fun _ _=>rfl)
 obtain⟨d15,D15,-⟩:=aN (ps:=["pattern","may","ties","papers"]) X G q15 (fun _ _ _ _ _ _=>zi fun _ _ _ _=>rfl)
 obtain⟨d16,D16,-⟩:=aN (ps:=["pattern","count","papers"]) X G q16 (fun _ _ _ _ _ _=>vG fun _ _ _=>rfl)
 obtain⟨d17,D17,-⟩:=aN (ps:=["bill"]) X G q17 (fun _ _ _ _ _ _=>tV fun _=>rfl)
 obtain⟨d18,D18,-⟩:=aN (ps:=["pattern","bill"]) X G q18 (fun _ _ _ _ _ _=>qC fun _ _=>rfl)
 obtain⟨d19,D19,-⟩:=aN (ps:=["block","pattern","bill"]) X G q19 (fun _ _ _ _ _ _=>vG fun _ _ _=>rfl)
 obtain⟨d20,D20,-⟩:=aN (ps:=["pairs","minutes"]) X G q20 (fun _ _ _ _ _ _=>qC fun _ _=>rfl)
 obtain⟨d21,D21,-⟩:=aN (ps:=["bill","ties","bound","paper"]) X G q21 (fun _ _ _ _ _ _=>zi fun _ _ _ _=>rfl)
 obtain⟨d22,D22,-⟩:=aN (ps:=["pattern","bill","ties","bound","paper"]) X G q22 (fun _ _ _ _ _ _=>ye fun _ _ _ _ _=>rfl)
 obtain⟨d23,D23,-⟩:=aN (ps:=["pattern","bill","ties","bound","papers"]) X G q23 (fun _ _ _ _ _ _=>ye fun _ _ _ _ _=>rfl)
 obtain⟨d24,D24,-⟩:=aN (ps:=["pattern","bill","bound","prices","dues"]) X G q24 (fun _ _ _ _ _ _=>ye fun _ _ _ _ _=>rfl)
 obtain⟨d25,D25,-⟩:=aN (ps:=["price","dues","pairs"]) X G q25 (fun _ _ _ _ _ _=>vG fun _ _ _=>rfl)
 obtain⟨d26,D26,-⟩:=aN (ps:=["pattern","prices"]) X G q26 (fun _ _ _ _ _ _=>qC fun _ _=>rfl)
 obtain⟨d27,D27,-⟩:=aN (ps:=["dues"]) X G q27 (fun _ _ _ _ _ _=>tV fun _=>rfl)
 obtain⟨d28,D28,-⟩:=aN (ps:=["pair"]) X G q28 (fun _ _ _ _ _ _=>tV fun _=>rfl)
 obtain⟨d29,D29,-⟩:=aN (ps:=["script","k"]) X G q29 (fun _ _ _ _ _ _=>qC fun _ _=>rfl)
 obtain⟨d30,D30,-⟩:=aN (ps:=["script","size"]) X G q30 (fun _ _ _ _ _ _=>qC fun _ _=>rfl)
 obtain⟨d31,D31,-⟩:=aN (ps:=["found"]) X G q31 (fun _ _ _ _ _ _=>tV fun _=>rfl)
 obtain⟨d32,D32,-⟩:=aN (ps:=["cells","gap","high"]) X G q32 (fun _ _ _ _ _ _=>vG fun _ _ _=>rfl)
 obtain⟨d33,D33,-⟩:=aN (ps:=["cells","badges","dense","top","count"]) X G q33 (fun _ _ _ _ _ _=>ye fun _ _ _ _ _=>rfl)
 obtain⟨d34,D34,-⟩:=aN (ps:=["cells","count"]) X G q34 (fun _ _ _ _ _ _=>qC fun _ _=>rfl)
 obtain⟨d35,D35,-⟩:=aN (ps:=["script","sizes","tops"]) X G q35 (fun _ _ _ _ _ _=>vG fun _ _ _=>rfl)
 obtain⟨d36,D36,-⟩:=aN (ps:=["pattern"]) X G q36 (fun _ _ _ _ _ _=>tV fun _=>rfl)
 obtain⟨d37,D37,-⟩:=aN (ps:=["block","pattern","bill"]) X G q37 (fun _ _ _ _ _ _=>vG fun _ _ _=>rfl)
 obtain⟨d38,D38,-⟩:=aN (ps:=["badge","block","pattern","bill"]) X G q38 (fun _ _ _ _ _ _=>zi fun _ _ _ _=>rfl)
 obtain⟨d39,D39,-⟩:=aN (ps:=["pattern","tie"]) X G q39 (fun _ _ _ _ _ _=>qC fun _ _=>rfl)
 obtain⟨d40,D40,-⟩:=aN (ps:=["blocks","pattern","bill"]) X G q40 (fun _ _ _ _ _ _=>vG fun _ _ _=>rfl)
 obtain⟨d41,D41,-⟩:=aN (ps:=["dues"]) X G q41 (fun _ _ _ _ _ _=>tV fun _=>rfl)
 obtain⟨d42,D42,-⟩:=aN (ps:=["prices","dues","bound","pattern","bill"]) X G q42 (fun _ _ _ _ _ _=>ye fun _ _ _ _ _=>rfl)
 obtain⟨d43,D43,-⟩:=aN (ps:=["pattern","bill","ties","bound","paper"]) X G q43 (fun _ _ _ _ _ _=>ye fun _ _ _ _ _=>rfl)
 obtain⟨d44,D44,-⟩:=aN (ps:=["pattern","bill","ties","more","deep"]) X G q44 (fun _ _ _ _ _ _=>ye fun _ _ _ _ _=>rfl)
 obtain⟨d45,D45,-⟩:=aN (ps:=["paper"]) X G q45 (fun _ _ _ _ _ _=>tV fun _=>rfl)
 obtain⟨d46,D46,-⟩:=aN (ps:=["paper","cell"]) X G q46 (fun _ _ _ _ _ _=>qC fun _ _=>rfl)
 obtain⟨d47,D47,-⟩:=aN (ps:=["paper","rest"]) X G q47 (fun _ _ _ _ _ _=>qC fun _ _=>rfl)
 exact⟨dl,fun s v=>Bl s [v] rfl,fun base _ _=>yd (aF:=fun i=>List.getD [f0,f1,f2,f3,f4,f5,f6,f7,f8,f9,f10,f11,f12,f13,f14,f15,f16,f17,f18,f19,f20,f21,f22,f23,f24,f25,f26,f27,f28,f29,f30,f31,f32,f33,f34,f35,f36,f37,f38,f39,f40,f41,f42,f43,f44,f45,f46,f47,fa] i fa) (dF:=fun i=>List.getD [d0,d1,d2,d3,d4,d5,d6,d7,d8,d9,d10,d11,d12,d13,d14,d15,d16,d17,d18,d19,d20,d21,d22,d23,d24,d25,d26,d27,d28,d29,d30,d31,d32,d33,d34,d35,d36,d37,d38,d39,d40,d41,d42,d43,d44,d45,d46,d47,dl] i dl) ⟨D0,D1,D2,D3,D4,D5,D6,D7,D8,D9,D10,D11,D12,D13,D14,D15,D16,D17,D18,D19,D20,D21,D22,D23,D24,D25,D26,D27,D28,D29,D30,D31,D32,D33,D34,D35,D36,D37,D38,D39,D40,D41,D42,D43,D44,D45,D46,D47,Dl⟩ T⟩
theorem walk {l:PySem.W.OpenLaw} {q:Program} {loose:List Str} {XP:(Str->Option Value)->Heap->Prop} {YP:World->Heap->Prop} {d:DefRec} {K:Params->PySem.W.Frag} (hn:l.most=some 63) (hdf:d.params.defaults=[])
  (hY:∀(w:World) (h:Heap),YP w h->(K w.params).In h)
  (F:∀(w:World) (mg:Str->Option Value) (fa:Addr) (h:Heap),(K w.params).In h->h.Ns mainGlobals mg->mg d.name=some (.ref fa)->
   ∃fd:FuncData,(∀(s:Shared) (u:Value),BindsTo s fd ⟨[u],[]⟩ [("script",u)])/\∀base:Heap,(K w.params).In base->base.Ns mainGlobals mg->FnOk l.prog w (K w.params) mg base aX 46 fa fd ["script"] (nO (K w.params))):
  PySem.W.WalkO q loose XP YP l.row.toRowW d [] (fun f vs=>PySem.call f vs):=
 L2.v5 (n:=63) (k:=46) (x:="script") (CX:=fun _=>aX) (sp:=fun w=>nO (K w.params)) hn (by decide) hdf ⟨rfl,by decide,by decide⟩ hY F (fun _ _ a ns hl _ hS=>⟨a,ns,rfl,hS,hl,fun _=>rfl⟩) fun _ _ _ _ _ z=>z
end My
theorem PySem.W.Fast.tw10013311865470907104:True:=trivial
theorem PySem.W.Fast.tw10052332585392358476:True:=trivial
theorem PySem.W.Fast.tw10527229842598169093:True:=trivial
theorem PySem.W.Fast.tw10564175685741227865:True:=trivial
theorem PySem.W.Fast.tw10685072922957736612:True:=trivial
theorem PySem.W.Fast.tw10794512474143301242:True:=trivial
theorem PySem.W.Fast.tw10820435956484857947:True:=trivial
theorem PySem.W.Fast.tw10851302145411970053:True:=trivial
theorem PySem.W.Fast.tw10860077936773426143:True:=trivial
theorem PySem.W.Fast.tw11053801622067110464:True:=trivial
theorem PySem.W.Fast.tw11090028040273002962:True:=trivial
theorem PySem.W.Fast.tw11390927082881737960:True:=trivial
theorem PySem.W.Fast.tw1141006376576559534:True:=trivial
theorem PySem.W.Fast.tw11446326044673831829:True:=trivial
theorem PySem.W.Fast.tw11754596650179782151:True:=trivial
theorem PySem.W.Fast.tw11775401615629550311:True:=trivial
theorem PySem.W.Fast.tw11878301040118515690:True:=trivial
theorem PySem.W.Fast.tw11902113393909370597:True:=trivial
theorem PySem.W.Fast.tw12095540127842451613:True:=trivial
theorem PySem.W.Fast.tw1216100687004926367:True:=trivial
theorem PySem.W.Fast.tw12203011894448147862:True:=trivial
theorem PySem.W.Fast.tw12221410312724932059:True:=trivial
theorem PySem.W.Fast.tw12279702372272051143:True:=trivial
theorem PySem.W.Fast.tw12307520881167257108:True:=trivial
theorem PySem.W.Fast.tw12624173607940874034:True:=trivial
theorem PySem.W.Fast.tw12701181436219722226:True:=trivial
theorem PySem.W.Fast.tw12808517577558899693:True:=trivial
theorem PySem.W.Fast.tw13120110906054835301:True:=trivial
theorem PySem.W.Fast.tw13216188171364953291:True:=trivial
theorem PySem.W.Fast.tw13224357228544428022:True:=trivial
theorem PySem.W.Fast.tw1322491003360613983:True:=trivial
theorem PySem.W.Fast.tw13228280475587808772:True:=trivial
theorem PySem.W.Fast.tw13270222364665096350:True:=trivial
theorem PySem.W.Fast.tw1336175082080783463:True:=trivial
theorem PySem.W.Fast.tw13391116514828818177:True:=trivial
theorem PySem.W.Fast.tw13672543948112128879:True:=trivial
theorem PySem.W.Fast.tw13694773732559765211:True:=trivial
theorem PySem.W.Fast.tw13850112148957928150:True:=trivial
theorem PySem.W.Fast.tw14016023055560751053:True:=trivial
theorem PySem.W.Fast.tw14132564015621457649:True:=trivial
theorem PySem.W.Fast.tw1435016826279958003:True:=trivial
theorem PySem.W.Fast.tw14380340224483474320:True:=trivial
theorem PySem.W.Fast.tw14406348521984357476:True:=trivial
theorem PySem.W.Fast.tw14472400357817474033:True:=trivial
theorem PySem.W.Fast.tw14476453455651086095:True:=trivial
theorem PySem.W.Fast.tw14509672832133692600:True:=trivial
theorem PySem.W.Fast.tw14521181720668448298:True:=trivial
theorem PySem.W.Fast.tw14739020492389441480:True:=trivial
theorem PySem.W.Fast.tw1474722004912182848:True:=trivial
theorem PySem.W.Fast.tw14798059473284315152:True:=trivial
theorem PySem.W.Fast.tw14811718373631215771:True:=trivial
theorem PySem.W.Fast.tw14888973589988331849:True:=trivial
theorem PySem.W.Fast.tw14991183898118262104:True:=trivial
theorem PySem.W.Fast.tw15107289367235267915:True:=trivial
theorem PySem.W.Fast.tw15230935999582479590:True:=trivial
theorem PySem.W.Fast.tw15253609969752564256:True:=trivial
theorem PySem.W.Fast.tw15383577619803578585:True:=trivial
theorem PySem.W.Fast.tw15391574157806733544:True:=trivial
theorem PySem.W.Fast.tw15442682697712555195:True:=trivial
theorem PySem.W.Fast.tw15559902069583080246:True:=trivial
theorem PySem.W.Fast.tw15671168178478301734:True:=trivial
theorem PySem.W.Fast.tw156941028672959419:True:=trivial
theorem PySem.W.Fast.tw15713437376943735937:True:=trivial
theorem PySem.W.Fast.tw15759571071651788237:True:=trivial
theorem PySem.W.Fast.tw15885441290676196495:True:=trivial
theorem PySem.W.Fast.tw15939963482256079376:True:=trivial
theorem PySem.W.Fast.tw15953306736037453901:True:=trivial
theorem PySem.W.Fast.tw15985364445834829503:True:=trivial
theorem PySem.W.Fast.tw16052703979328686476:True:=trivial
theorem PySem.W.Fast.tw16099775986193322891:True:=trivial
theorem PySem.W.Fast.tw16296264681071587583:True:=trivial
theorem PySem.W.Fast.tw16399677377077327237:True:=trivial
theorem PySem.W.Fast.tw16411127645652136764:True:=trivial
theorem PySem.W.Fast.tw16432439582930937614:True:=trivial
theorem PySem.W.Fast.tw16487742655700815131:True:=trivial
theorem PySem.W.Fast.tw16532242242490026811:True:=trivial
theorem PySem.W.Fast.tw16672705517497432321:True:=trivial
theorem PySem.W.Fast.tw16965581302316750021:True:=trivial
theorem PySem.W.Fast.tw17048774812585009379:True:=trivial
theorem PySem.W.Fast.tw17054630514715799859:True:=trivial
theorem PySem.W.Fast.tw17280888358845248127:True:=trivial
theorem PySem.W.Fast.tw17511755974039621102:True:=trivial
theorem PySem.W.Fast.tw17849012627111032823:True:=trivial
theorem PySem.W.Fast.tw17853968149224254324:True:=trivial
theorem PySem.W.Fast.tw17969479214432628500:True:=trivial
theorem PySem.W.Fast.tw17996667448111446934:True:=trivial
theorem PySem.W.Fast.tw18117002163557553779:True:=trivial
theorem PySem.W.Fast.tw18118955450939162701:True:=trivial
theorem PySem.W.Fast.tw18131142688571468842:True:=trivial
theorem PySem.W.Fast.tw18188956697760879180:True:=trivial
theorem PySem.W.Fast.tw18354403817580366395:True:=trivial
theorem PySem.W.Fast.tw1866732901421680964:True:=trivial
theorem PySem.W.Fast.tw1924622777185574254:True:=trivial
theorem PySem.W.Fast.tw2204122569119584450:True:=trivial
theorem PySem.W.Fast.tw2241602218147492250:True:=trivial
theorem PySem.W.Fast.tw2287780798933630733:True:=trivial
theorem PySem.W.Fast.tw229801517123630599:True:=trivial
theorem PySem.W.Fast.tw2395830301769220605:True:=trivial
theorem PySem.W.Fast.tw2429874686095792705:True:=trivial
theorem PySem.W.Fast.tw2535997504598135956:True:=trivial
theorem PySem.W.Fast.tw2747433675415188839:True:=trivial
theorem PySem.W.Fast.tw280106570916009075:True:=trivial
theorem PySem.W.Fast.tw2968076546772622534:True:=trivial
theorem PySem.W.Fast.tw3003410525260716653:True:=trivial
theorem PySem.W.Fast.tw3043261471427873855:True:=trivial
theorem PySem.W.Fast.tw3480896953885545441:True:=trivial
theorem PySem.W.Fast.tw3612479942489826450:True:=trivial
theorem PySem.W.Fast.tw3696807488405660181:True:=trivial
theorem PySem.W.Fast.tw3722007674001661409:True:=trivial
theorem PySem.W.Fast.tw3726821223691205906:True:=trivial
theorem PySem.W.Fast.tw3730349558881627661:True:=trivial
theorem PySem.W.Fast.tw394697447613828978:True:=trivial
theorem PySem.W.Fast.tw3962706154330341882:True:=trivial
theorem PySem.W.Fast.tw4066510748558888714:True:=trivial
theorem PySem.W.Fast.tw4255485348507509875:True:=trivial
theorem PySem.W.Fast.tw4315249207839432174:True:=trivial
theorem PySem.W.Fast.tw4329691565631207864:True:=trivial
theorem PySem.W.Fast.tw4515342573312301778:True:=trivial
theorem PySem.W.Fast.tw4517320927991908251:True:=trivial
theorem PySem.W.Fast.tw4731658958700729331:True:=trivial
theorem PySem.W.Fast.tw4902500085072844118:True:=trivial
theorem PySem.W.Fast.tw516844028897600790:True:=trivial
theorem PySem.W.Fast.tw5304176437243096885:True:=trivial
theorem PySem.W.Fast.tw5506231044711873258:True:=trivial
theorem PySem.W.Fast.tw5512437470132677887:True:=trivial
theorem PySem.W.Fast.tw5565247836219888193:True:=trivial
theorem PySem.W.Fast.tw5624763562919775944:True:=trivial
theorem PySem.W.Fast.tw5656840695322722927:True:=trivial
theorem PySem.W.Fast.tw5967660559539680149:True:=trivial
theorem PySem.W.Fast.tw6082072961893591943:True:=trivial
theorem PySem.W.Fast.tw6158366604385423308:True:=trivial
theorem PySem.W.Fast.tw617868651802301356:True:=trivial
theorem PySem.W.Fast.tw620776774903613613:True:=trivial
theorem PySem.W.Fast.tw6225671550099542992:True:=trivial
theorem PySem.W.Fast.tw6318548335841910556:True:=trivial
theorem PySem.W.Fast.tw6337782262138748413:True:=trivial
theorem PySem.W.Fast.tw6369949485155837571:True:=trivial
theorem PySem.W.Fast.tw6550202065194178876:True:=trivial
theorem PySem.W.Fast.tw6625231691143915286:True:=trivial
theorem PySem.W.Fast.tw6673401033935557464:True:=trivial
theorem PySem.W.Fast.tw6747223230018668167:True:=trivial
theorem PySem.W.Fast.tw6782394298559454428:True:=trivial
theorem PySem.W.Fast.tw694472515278953802:True:=trivial
theorem PySem.W.Fast.tw6967928835879974687:True:=trivial
theorem PySem.W.Fast.tw7024647520056029686:True:=trivial
theorem PySem.W.Fast.tw7139072030081586242:True:=trivial
theorem PySem.W.Fast.tw7145280928858275469:True:=trivial
theorem PySem.W.Fast.tw7169391230811841281:True:=trivial
theorem PySem.W.Fast.tw7418278413897919594:True:=trivial
theorem PySem.W.Fast.tw743973673631647016:True:=trivial
theorem PySem.W.Fast.tw7458744911273897499:True:=trivial
theorem PySem.W.Fast.tw760780457673451268:True:=trivial
theorem PySem.W.Fast.tw7717084690809074828:True:=trivial
theorem PySem.W.Fast.tw772646094537573175:True:=trivial
theorem PySem.W.Fast.tw776408997272260747:True:=trivial
theorem PySem.W.Fast.tw7913728888899718483:True:=trivial
theorem PySem.W.Fast.tw7963211692364849997:True:=trivial
theorem PySem.W.Fast.tw7983788657947909600:True:=trivial
theorem PySem.W.Fast.tw8005316385498677445:True:=trivial
theorem PySem.W.Fast.tw8083007978880647006:True:=trivial
theorem PySem.W.Fast.tw8153136708082882133:True:=trivial
theorem PySem.W.Fast.tw8166364838354934748:True:=trivial
theorem PySem.W.Fast.tw8214114980203709423:True:=trivial
theorem PySem.W.Fast.tw8254869999169621726:True:=trivial
theorem PySem.W.Fast.tw8405963189081901492:True:=trivial
theorem PySem.W.Fast.tw8417634331373221820:True:=trivial
theorem PySem.W.Fast.tw8418318446819646310:True:=trivial
theorem PySem.W.Fast.tw8488809332414803611:True:=trivial
theorem PySem.W.Fast.tw8567056130421867632:True:=trivial
theorem PySem.W.Fast.tw8586644840904317193:True:=trivial
theorem PySem.W.Fast.tw863024930342124045:True:=trivial
theorem PySem.W.Fast.tw863334388399384293:True:=trivial
theorem PySem.W.Fast.tw8804247904779617412:True:=trivial
theorem PySem.W.Fast.tw893107582694834831:True:=trivial
theorem PySem.W.Fast.tw8954995635960741908:True:=trivial
theorem PySem.W.Fast.tw8962207140903714508:True:=trivial
theorem PySem.W.Fast.tw915531993630369834:True:=trivial
theorem PySem.W.Fast.tw9302907751892185712:True:=trivial
theorem PySem.W.Fast.tw9460988125414566406:True:=trivial
theorem PySem.W.Fast.tw9623873104365365926:True:=trivial
theorem PySem.W.Fast.tw9646244217936507663:True:=trivial
theorem PySem.W.Fast.tw9773894216381238840:True:=trivial
theorem PySem.W.Fast.tw9825073610584754096:True:=trivial
theorem PySem.W.Fast.tw9914850131259899938:True:=trivial
theorem PySem.W.Fast.tw9919432744863081897:True:=trivial
open PySem PySem.W PyProof.Rows
set_option maxRecDepth 100000 in
set_option maxHeartbeats 0 in
theorem PySem.Challenge.cw_deskround_k35_what_a_paper_bears_holds : PySem.Challenge.rw_deskround_k35_what_a_paper_bears.Holds := by
 w_on;o_law;k_head;(case hw=>w_witness2)
 k_fill
 refine My.walk (l:=PySem.Challenge.rw_deskround_k35_what_a_paper_bears) rfl rfl (fun w h Y=>PySem.W.kIn_of Y) ?F
 case F=>
  intro w mg fa h KX G hmg
  refine' My.yf KX G hmg ?q0 ?q1 ?q2 ?q3 ?q4 ?q5 ?q6 ?q7 ?q8 ?q9 ?q10 ?q11 ?q12 ?q13 ?q14 ?q15 ?q16 ?q17 ?q18 ?q19 ?q20 ?q21 ?q22 ?q23 ?q24 ?q25 ?q26 ?q27 ?q28 ?q29 ?q30 ?q31 ?q32 ?q33 ?q34 ?q35 ?q36 ?q37 ?q38 ?q39 ?q40 ?q41 ?q42 ?q43 ?q44 ?q45 ?q46 ?q47 ?q48 ?z0 ?z1 ?z2 ?z3 ?z4 ?z5 ?z6 ?z7 ?z8 ?z9 ?z10 ?z11 ?z12 ?z13 ?z14 ?z15
  (case q0=>refine' My.aO ?a ?l ?c ?k;(case a=>k_is);(case l=>k_is);(case c=>k_is);(case k=>k_is))
  (case q1=>refine' My.aO ?a ?l ?c ?k;(case a=>k_is);(case l=>k_is);(case c=>k_is);(case k=>k_is))
  (case q2=>refine' My.aO ?a ?l ?c ?k;(case a=>k_is);(case l=>k_is);(case c=>k_is);(case k=>k_is))
  (case q3=>refine' My.aO ?a ?l ?c ?k;(case a=>k_is);(case l=>k_is);(case c=>k_is);(case k=>k_is))
  (case q4=>refine' My.aO ?a ?l ?c ?k;(case a=>k_is);(case l=>k_is);(case c=>k_is);(case k=>k_is))
  (case q5=>refine' My.aO ?a ?l ?c ?k;(case a=>k_is);(case l=>k_is);(case c=>k_is);(case k=>k_is))
  (case q6=>refine' My.aO ?a ?l ?c ?k;(case a=>k_is);(case l=>k_is);(case c=>k_is);(case k=>k_is))
  (case q7=>refine' My.aO ?a ?l ?c ?k;(case a=>k_is);(case l=>k_is);(case c=>k_is);(case k=>k_is))
  (case q8=>refine' My.aO ?a ?l ?c ?k;(case a=>k_is);(case l=>k_is);(case c=>k_is);(case k=>k_is))
  (case q9=>refine' My.aO ?a ?l ?c ?k;(case a=>k_is);(case l=>k_is);(case c=>k_is);(case k=>k_is))
  (case q10=>refine' My.aO ?a ?l ?c ?k;(case a=>k_is);(case l=>k_is);(case c=>k_is);(case k=>k_is))
  (case q11=>refine' My.aO ?a ?l ?c ?k;(case a=>k_is);(case l=>k_is);(case c=>k_is);(case k=>k_is))
  (case q12=>refine' My.aO ?a ?l ?c ?k;(case a=>k_is);(case l=>k_is);(case c=>k_is);(case k=>k_is))
  (case q13=>refine' My.aO ?a ?l ?c ?k;(case a=>k_is);(case l=>k_is);(case c=>k_is);(case k=>k_is))
  (case q14=>refine' My.aO ?a ?l ?c ?k;(case a=>k_is);(case l=>k_is);(case c=>k_is);(case k=>k_is))
  (case q15=>refine' My.aO ?a ?l ?c ?k;(case a=>k_is);(case l=>k_is);(case c=>k_is);(case k=>k_is))
  (case q16=>refine' My.aO ?a ?l ?c ?k;(case a=>k_is);(case l=>k_is);(case c=>k_is);(case k=>k_is))
  (case q17=>refine' My.aO ?a ?l ?c ?k;(case a=>k_is);(case l=>k_is);(case c=>k_is);(case k=>k_is))
  (case q18=>refine' My.aO ?a ?l ?c ?k;(case a=>k_is);(case l=>k_is);(case c=>k_is);(case k=>k_is))
  (case q19=>refine' My.aO ?a ?l ?c ?k;(case a=>k_is);(case l=>k_is);(case c=>k_is);(case k=>k_is))
  (case q20=>refine' My.aO ?a ?l ?c ?k;(case a=>k_is);(case l=>k_is);(case c=>k_is);(case k=>k_is))
  (case q21=>refine' My.aO ?a ?l ?c ?k;(case a=>k_is);(case l=>k_is);(case c=>k_is);(case k=>k_is))
  (case q22=>refine' My.aO ?a ?l ?c ?k;(case a=>k_is);(case l=>k_is);(case c=>k_is);(case k=>k_is))
  (case q23=>refine' My.aO ?a ?l ?c ?k;(case a=>k_is);(case l=>k_is);(case c=>k_is);(case k=>k_is))
  (case q24=>refine' My.aO ?a ?l ?c ?k;(case a=>k_is);(case l=>k_is);(case c=>k_is);(case k=>k_is))
  (case q25=>refine' My.aO ?a ?l ?c ?k;(case a=>k_is);(case l=>k_is);(case c=>k_is);(case k=>k_is))
  (case q26=>refine' My.aO ?a ?l ?c ?k;(case a=>k_is);(case l=>k_is);(case c=>k_is);(case k=>k_is))
  (case q27=>refine' My.aO ?a ?l ?c ?k;(case a=>k_is);(case l=>k_is);(case c=>k_is);(case k=>k_is))
  (case q28=>refine' My.aO ?a ?l ?c ?k;(case a=>k_is);(case l=>k_is);(case c=>k_is);(case k=>k_is))
  (case q29=>refine' My.aO ?a ?l ?c ?k;(case a=>k_is);(case l=>k_is);(case c=>k_is);(case k=>k_is))
  (case q30=>refine' My.aO ?a ?l ?c ?k;(case a=>k_is);(case l=>k_is);(case c=>k_is);(case k=>k_is))
  (case q31=>refine' My.aO ?a ?l ?c ?k;(case a=>k_is);(case l=>k_is);(case c=>k_is);(case k=>k_is))
  (case q32=>refine' My.aO ?a ?l ?c ?k;(case a=>k_is);(case l=>k_is);(case c=>k_is);(case k=>k_is))
  (case q33=>refine' My.aO ?a ?l ?c ?k;(case a=>k_is);(case l=>k_is);(case c=>k_is);(case k=>k_is))
  (case q34=>refine' My.aO ?a ?l ?c ?k;(case a=>k_is);(case l=>k_is);(case c=>k_is);(case k=>k_is))
  (case q35=>refine' My.aO ?a ?l ?c ?k;(case a=>k_is);(case l=>k_is);(case c=>k_is);(case k=>k_is))
  (case q36=>refine' My.aO ?a ?l ?c ?k;(case a=>k_is);(case l=>k_is);(case c=>k_is);(case k=>k_is))
  (case q37=>refine' My.aO ?a ?l ?c ?k;(case a=>k_is);(case l=>k_is);(case c=>k_is);(case k=>k_is))
  (case q38=>refine' My.aO ?a ?l ?c ?k;(case a=>k_is);(case l=>k_is);(case c=>k_is);(case k=>k_is))
  (case q39=>refine' My.aO ?a ?l ?c ?k;(case a=>k_is);(case l=>k_is);(case c=>k_is);(case k=>k_is))
  (case q40=>refine' My.aO ?a ?l ?c ?k;(case a=>k_is);(case l=>k_is);(case c=>k_is);(case k=>k_is))
  (case q41=>refine' My.aO ?a ?l ?c ?k;(case a=>k_is);(case l=>k_is);(case c=>k_is);(case k=>k_is))
  (case q42=>refine' My.aO ?a ?l ?c ?k;(case a=>k_is);(case l=>k_is);(case c=>k_is);(case k=>k_is))
  (case q43=>refine' My.aO ?a ?l ?c ?k;(case a=>k_is);(case l=>k_is);(case c=>k_is);(case k=>k_is))
  (case q44=>refine' My.aO ?a ?l ?c ?k;(case a=>k_is);(case l=>k_is);(case c=>k_is);(case k=>k_is))
  (case q45=>refine' My.aO ?a ?l ?c ?k;(case a=>k_is);(case l=>k_is);(case c=>k_is);(case k=>k_is))
  (case q46=>refine' My.aO ?a ?l ?c ?k;(case a=>k_is);(case l=>k_is);(case c=>k_is);(case k=>k_is))
  (case q47=>refine' My.aO ?a ?l ?c ?k;(case a=>k_is);(case l=>k_is);(case c=>k_is);(case k=>k_is))
  (case q48=>refine' My.aO ?a ?l ?c ?k;(case a=>k_is);(case l=>k_is);(case c=>k_is);(case k=>k_is))
  (case z0=>k_is);(case z1=>k_is);(case z2=>k_is);(case z3=>k_is);(case z4=>k_is);(case z5=>k_is);(case z6=>k_is);(case z7=>k_is);(case z8=>k_is);(case z9=>k_is);(case z10=>k_is);(case z11=>k_is);(case z12=>k_is);(case z13=>k_is);(case z14=>k_is);(case z15=>k_is)
end
