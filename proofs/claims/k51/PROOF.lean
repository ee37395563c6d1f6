import PyProof.Rows.All
import Wide.All
import OpenK.AllK
import Wide.FinOn
import Lean
import PyProof.EqAt
import PyProof.EqKinds
import PyProof.TupleCall
import PyProof.NeKinds
import PyProof.DictWalks
import PyProof.DictItems
import PyProof.CollectWalk
import KE.KDictList
import PyProof.AutoSeq1
import PyProof.Rows.Range3
import KE.KUnpack
import PyProof.MeetsSeq2
import PyProof.ZipIter
import KE.KRevSl
import PyProof.MeetsSeq
import PyProof.EnumMake
import PyProof.EnumFor
import PyProof.EnumStmt
import PyProof.MinMaxWalk
import PyProof.WalkInts
import PyProof.SumAny
import KE.KRevIter
import PyProof.Rows.FactsT2
import PyProof.IsiH_list
import PyProof.AttrMiss
import KE.KDictOf
import PyProof.ListRange
import KE.KDictLaws
import KE.KSortTup
import KE.KItemsList
import PyProof.ExcArgs
import KE.KSortKey
import PySem.Challenge.RW_deskround_k51_files_that_can_be_healed
set_option bootstrap.genMatcherCode false
set_option genSizeOf false
noncomputable section
open List renaming length_map->DI,getElem?_eq_getElem->DJ,getD_eq_getElem?_getD->DK,getElem?_map->DM,getElem?_eq_some_iff->DN,mem_of_getElem?->DQ,range->DR,size_toArray->DT,mem_singleton->DV,length_append->DX,map_append->DY,mem_map->DZ,mem_cons_of_mem->Ea,length_singleton->Ec,mem_cons->Ed,mem_range->Ee,mem_iff_getElem->Ef,mem_append->Eg,mem_append_right->Eh,mem_cons_self->Ei,mem_filter->Ej,getElem_mem->El,map_cons->En,mem_append_left->Es,length_filter_le->Et,map_map->Eu,length_range->Ew,lookup_cons->Ex,replicate->Ey,length_take->EA,mem_iff_getElem?->EB,all_eq_true->ED,toArray->EE,getElem?_eq_none->EG,filter_append->EI,take_of_length_le->EJ,length_cons->EK,take_length->EL,not_mem_nil->EM,ext_getElem->EN,filter_eq_self->EU,nodup_iff_pairwise_ne->EV,range'->EX,replicate_succ->EY,filter_cons_of_neg->E1,getElem?_append_right->E3,range_succ->E4,getElem_map->E6,drop_of_length_le->E7,pairwise_iff_getElem->E8,getElem?_range->E9,map_congr_left->Fb,append_nil->Fc,getElem?_append_left->Fh,getElem_inj->Fi,pairwise_map->Fl,pairwise_singleton->Fm,filter_cons_of_pos->Fn,length_eq_zero_iff->Fo,nodup_cons->Fp,length_drop->Fq,take_append_drop->Fs,findIdx?_eq_some_iff_getElem->Ft,drop_eq_getElem_cons->Fu,flatten_cons->Fw,findIdx_lt_length_of_exists->Fx,getElem_range->FA,getElem?_set_self->FC,not_of_lt_findIdx->FE,find?_cons->FF,count_cons->FH,any_cons->FI,take_add_one->FJ,getElem?_set_ne->FL,mem_of_mem_take->FM,filter_cons->FO,filterMap_cons->FP,map_take->FQ,length_set->FR,foldl_cons->FS,map_nil->FW,nodup_nil->FY,append_assoc->FZ,getElem_take->F0,filter->F2,filter_map->F4,isPerm_iff->F5,dropLast_concat_getLast->F6,take_zero->F8,mem_filterMap->F9,count_pos_iff->Ga,getElem?_take->Gb,length_eraseIdx_of_lt->Gc,findIdx?_eq_none_iff->Gd,ext_getElem?->Ge,of_mem_zip->Gh,filter_nil->Gi,take_take->Gj
open Option renaming bind_eq_some_iff->DL,map_eq_some_iff->DO,isSome_iff_exists->ES,map_some->FG
open Nat renaming le_refl->DS,ne_of_lt->Eb,le_trans->Ek,lt_of_lt_of_le->Em,zero_le->Eo,lt_succ_of_lt->EC,sub_succ_lt_self->EO,lt_irrefl->ER,le_of_lt->ET,le_of_not_lt->E5,le_add_right->Fe,le_antisymm->Ff,min_eq_left->Fg,lt_succ_self->Fk,min_eq_right->Fy,lt_of_le_of_lt->Fz,lt_trichotomy->FK,sub_self->FN,le_succ->FU,ne_of_gt->FV,add_le_add_left->F7,not_lt->Gk
open Bool renaming false_ne_true->DU,and_eq_true->EF,false_eq_true->EH,not_eq_true->Fj,eq_iff_iff->Fv,false_and->FX,not_eq_true'->F1
open Array renaming length_toList->Ep,getElem?_eq_getElem->Ez,size_map->EW,getElem?_toList->EZ,getElem?_eq_none->FD,getElem_toList->F3,toList_push->Gf,getD->Gg
open Int renaming toNat_natCast->Er,emod_lt_of_pos->FB,emod_nonneg->FT
set_option Elab.async false
set_option linter.all false
set_option maxRecDepth 100000
namespace L2
open PySem PySem.Spec PyProof.Rows
abbrev bV:=Sum Int Str
def mF:bV->Value->Bool
 | .inl k,v=>Value.isInt k v
 | .inr x,v=>Value.isStrOf x v
def Cj (w:World):bV->Int
 | .inl k=>hashInt k
 | .inr x=>hashStr w x
theorem bg:∀{k:bV} {v:Value},mF k v=true->(∃i t,k=Sum.inl i/\v=Value.int i t)\/(∃x t,k=Sum.inr x/\v=Value.str x t)
 | .inl i,v,h=>by
  obtain⟨t,e⟩:=Value.isInt_shape (k:=i) (v:=v) h
  exact .inl ⟨i,t,rfl,e⟩
 | .inr x,v,h=>by
  obtain⟨t,e⟩:=Value.isStrOf_shape (x:=x) (v:=v) h
  exact .inr ⟨x,t,rfl,e⟩
theorem tJ (i:Int) (t:Tok):mF (.inl i) (.int i t)=true:=by simp[mF,Value.isInt]
theorem tK (x:Str) (t:Tok):mF (.inr x) (.str x t)=true:=by simp[mF,Value.isStrOf]
theorem zH (a b:Int):decide ((Sum.inl a:bV)=Sum.inl b)=(a==b):=by
 by_cases e:a=b
 ·subst e;simp
 ·have h:¬(Sum.inl a:bV)=Sum.inl b:=fun q=>e (Sum.inl.inj q)
  rw[decide_eq_false h]
  exact(beq_eq_false_iff_ne.mpr e).symm
theorem zI (a b:Str):decide ((Sum.inr a:bV)=Sum.inr b)=decide (a=b):=by
 by_cases e:a=b
 ·subst e;simp
 ·have h:¬(Sum.inr a:bV)=Sum.inr b:=fun q=>e (Sum.inr.inj q)
  rw[decide_eq_false h,decide_eq_false e]
theorem zJ (a:Int) (b:Str):decide ((Sum.inl a:bV)=Sum.inr b)=false:=decide_eq_false (fun q=>nomatch q)
theorem zK (a:Str) (b:Int):decide ((Sum.inr a:bV)=Sum.inl b)=false:=decide_eq_false (fun q=>nomatch q)
def bz (prog:Program) (w:World):PySem.KeyKind prog w bV where
 is:=mF
 hash:=Cj w
 inj:=fun v a b ha hb=>by
  rcases bg ha with⟨i,t,rfl,rfl⟩ | ⟨x,t,rfl,rfl⟩
  ·rcases bg hb with⟨j,u,rfl,e⟩ | ⟨y,u,rfl,e⟩
   ·injection e with e1 _;rw[e1]
   ·exact nomatch e
  ·rcases bg hb with⟨j,u,rfl,e⟩ | ⟨y,u,rfl,e⟩
   ·exact nomatch e
   ·injection e with e1 _;rw[e1]
 byValue:=fun k v h=>by
  rcases bg h with⟨i,t,rfl,rfl⟩ | ⟨x,t,rfl,rfl⟩<;>rfl
 pyHash:=fun hv h=>by
  rcases bg hv with⟨i,t,rfl,rfl⟩ | ⟨x,t,rfl,rfl⟩
  ·exact wpAny_pyHash_int h
  ·exact wpAny_pyHash_str h
 eqBool:=fun hu hv h=>by
  rcases bg hu with⟨i,t,rfl,rfl⟩ | ⟨x,t,rfl,rfl⟩
  ·rcases bg hv with⟨j,u,rfl,rfl⟩ | ⟨y,u,rfl,rfl⟩
   ·rw [zH]at h;exact wpAny_eqBool_int h
   ·rw [zJ]at h;exact SeqAt.EqAt.int_str i t y u _ _ _ _ h
  ·rcases bg hv with⟨j,u,rfl,rfl⟩ | ⟨y,u,rfl,rfl⟩
   ·rw [zK]at h;exact SeqAt.EqAt.str_int x t j u _ _ _ _ h
   ·rw [zI]at h;exact wpAny_eqBool_str h
 «strs»:=fun k x t v h=>by
  rcases bg h with⟨i,u,rfl,e⟩ | ⟨y,u,rfl,e⟩
  ·exact nomatch e
  ·injection e with e1 _
   subst e1
   cases v<;>rfl
theorem oE (prog:Program) (w:World) (i:Int) (t:Tok):(bz prog w).is (.inl i) (.int i t)=true:=tJ i t
theorem oF (prog:Program) (w:World) (x:Str) (t:Tok):(bz prog w).is (.inr x) (.str x t)=true:=tK x t
inductive V where
 | non | bl (b:Bool) | int (i:Int) | str (x:Str) | byt (b:Array UInt8) | flt (b:UInt64) | ref (a:Addr) | ty (n:String)
 deriving DecidableEq
def RelV:V->Value->Prop
 | .non,u=>u=Value.none
 | .bl b,u=>u=Value.bool b
 | .int i,u=>∃t,u=Value.int i t
 | .str x,u=>∃t,u=Value.str x t
 | .byt b,u=>∃t,u=Value.bytes b t
 | .flt b,u=>∃t,u=Value.float b t
 | .ref a,u=>u=Value.ref a
 | .ty n,u=>u=Value.type n
abbrev Vals:List V->List Value->Prop:=Paired RelV
theorem Vals.length {xs:List V} {us:List Value} (r:Vals xs us):xs.length=us.length:=Paired.length r
theorem Vals.get:∀{xs:List V} {us:List Value} {i:Nat} {x:V},Vals xs us->xs[i]?=some x->∃u,us[i]?=some u/\RelV x u:=by
 intro xs us i x h
 induction h generalizing i with
 | nil=>intro e;simp at e
 | cons r t ih=>
  intro e
  cases i with
  | zero=>cases e;exact⟨_,rfl,r⟩
  | succ i=>exact ih e
theorem Vals.set {x:V} {u:Value} (r:RelV x u):∀{xs:List V} {us:List Value} (i:Nat),Vals xs us->Vals (xs.set i x) (us.set i u):=by
 intro xs us i h
 induction h generalizing i with
 | nil=>exact .nil
 | cons q t ih=>
  cases i with
  | zero=>exact .cons r t
  | succ i=>exact .cons q (ih i)
theorem Vals.append:∀{xs ys:List V} {us ws:List Value},Vals xs us->Vals ys ws->Vals (xs++ys) (us++ws):=by
 intro xs ys us ws h s
 induction h with
 | nil=>exact s
 | cons r t ih=>exact .cons r ih
theorem Vals.take:∀{xs:List V} {us:List Value} (n:Nat),Vals xs us->Vals (xs.take n) (us.take n):=by
 intro xs us n h
 induction h generalizing n with
 | nil=>cases n<;>exact .nil
 | cons r t ih=>
  cases n with
  | zero=>exact .nil
  | succ n=>exact .cons r (ih n)
theorem Vals.drop:∀{xs:List V} {us:List Value} (n:Nat),Vals xs us->Vals (xs.drop n) (us.drop n):=by
 intro xs us n h
 induction h generalizing n with
 | nil=>cases n<;>exact .nil
 | cons r t ih=>
  cases n with
  | zero=>exact .cons r t
  | succ n=>exact ih n
def RelO:Option V->Option Value->Prop
 | some v,some u=>RelV v u
 | none,none=>True
 | _,_=>False
def KV {κ:Type}:List (κ×V)->List (κ×Value)->Prop:=Paired fun(p:κ×V) (q:κ×Value)=>p.1=q.1/\RelV p.2 q.2
def kV:bV->V
 | .inl i=> .int i
 | .inr x=> .str x
inductive HO where
 | lst (xs:List V)
 | tup (xs:List V)
 | dK (kvs:List (bV×V)) | dT (kvs:List (List bV×V))
 | set (S:Int->Bool) (n:Nat)
 | ins (C dx:Addr) (fs:List (Str×V))
 | own (x:Addr)
 | xd (fs:List (Str×V))
 | met (f x:Addr)
 | rng (lo hi:Int)
 | frz (o:Obj) (u:HO)
 | tbl (ps:Array Value)
 | ext (φ:Heap->Prop)
abbrev Hp:=Addr->Option HO
def aE (H:Hp) (a:Addr) (o:HO):Hp:=fun b=>if b=a then some o else H b
theorem ae {H:Hp} {a:Addr} {o:HO}:aE H a o a=some o:=by unfold aE;rw[if_pos rfl]
theorem aq {H:Hp} {a b:Addr} {o:HO} (h:b≠a):aE H a o b=H b:=by unfold aE;rw[if_neg h]
theorem A0 {H:Hp} {a b:Addr} {o u:HO} (h:H a=some o) (h':H b=some u) (d:o≠u):a≠b:=by
 intro e;subst e;rw[h]at h';exact d (Option.some.inj h')
theorem aw {H:Hp} {a b:Addr} {o:HO} (h:H a=some o) (h':H b=none):a≠b:=by
 intro e;subst e;rw[h]at h';cases h'
section
variable (P:Program) (w:World)
def ObjOk (H:Hp) (h:Heap) (a:Addr):HO->Prop
 | .lst xs=>xs.length<=sizeLine/\∃(its:List Value) (n:Nat),Vals xs its/\h.get? a=some {cls:= .type "list",data:= .seq its.toArray n}
 | .tup xs=>xs.length<=sizeLine/\∃its:List Value,Vals xs its/\IsTup h a its.toArray
 | .dK kvs=>kvs.length<=sizeLine/\(a==sysModules)=false/\∃vs,KV kvs vs/\h.DictOf (bz P w) a vs
 | .dT kvs=>kvs.length<=sizeLine/\(a==sysModules)=false/\∃xs:List (List bV×Addr×Value),
  Paired (fun(p:List bV×V) (q:List bV×Addr×Value)=>p.1=q.1/\H q.2.1=some (.tup (p.1.map kV))/\RelV p.2 q.2.2) kvs xs/\
  ∃o es ep,h.get? a=some o/\o.ExactDict/\o.data= .dict es ep/\es.toList=xs.map (entryOfKey (tupleKind (bz P w)))/\(xs.map (·.1)).Nodup
 | .set S n=>h.SetOf (intKind P w) a S n
 | .ins C dx fs=>H dx=some (.own a)/\fs.length<=1000/\dx≠a/\h.get? a=some (PySem.W.instObj C dx)/\
  ∃mA,h.Ns1 dx mA/\(∀f,RelO (fs.lookup f) (mA f))/\PySem.Within mA (fs.map (·.1))
 | .own _=>∃o,h.get? a=some o
 | .xd fs=>∃mA,h.Ns1 a mA/\∀f,RelO (fs.lookup f) (mA f)
 | .rng lo hi=>∃t u v,h.get? a=some {cls:= .type "range",data:= .fields #[.int lo t,.int hi u,.int 1 v]}
 | .frz o u=>h.get? a=some o/\ObjOk H h a u
 | .tbl ps=>h.get? a=some {cls:= .none,data:= .fields ps}
 | .met f x=>h.get? a=some (PySem.W.methodObj (.ref f) (.ref x))
 | .ext φ=>φ h/\(∃o,h.get? a=some o)/\∀h1 h2:Heap,φ h1->(∀o,h1.get? a=some o->h2.get? a=some o)->φ h2
def HOk (H:Hp) (h:Heap):Prop:=∀a o,H a=some o->ObjOk P w H h a o
end
section
variable {P:Program} {w:World} {H H':Hp} {h h':Heap} {a:Addr} {o:HO}
theorem ObjOk.lt (x:ObjOk P w H h a o):a<h.objs.size:=by
 cases o with
 | lst xs=>obtain⟨_,_,_,_,e⟩:=x;exact Heap.lt_size e
 | tup xs=>obtain⟨_,_,_,p⟩:=x;exact p.lt
 | dK kvs=>obtain⟨_,_,_,_,o,_,_,e,_⟩:=x;exact Heap.lt_size e
 | dT kvs=>obtain⟨_,_,_,_,o,_,_,e,_⟩:=x;exact Heap.lt_size e
 | set S n=>obtain⟨o,_,_,_,e,_⟩:=x;exact Heap.lt_size e
 | ins C dx fs=>obtain⟨_,_,_,e,_⟩:=x;exact Heap.lt_size e
 | own y=>obtain⟨_,e⟩:=x;exact Heap.lt_size e
 | xd fs=>obtain⟨_,⟨_,_,_,e,_⟩,_⟩:=x;exact Heap.lt_size e
 | rng lo hi=>obtain⟨_,_,_,e⟩:=x;exact Heap.lt_size e
 | frz ob u=>obtain⟨e,_⟩:=x;exact Heap.lt_size e
 | tbl ps=>exact Heap.lt_size (show h.get? a=some _ from x)
 | met f y=>exact Heap.lt_size (show h.get? a=some _ from x)
 | ext φ=>obtain⟨_,⟨_,e⟩,_⟩:=x;exact Heap.lt_size e
theorem Paired.mapP {α β:Type} {F G:α->β->Prop}:∀{l₁:List α} {l₂:List β},Paired F l₁ l₂->(∀a b,F a b->G a b)->Paired G l₁ l₂:=by
 intro l₁ l₂ h f
 induction h with
 | nil=>exact .nil
 | cons r t ih=>exact .cons (f _ _ r) ih
theorem ObjOk.stay (x:ObjOk P w H h a o) (k:∀b u,(b=a\/H b=some (.own a))->h.get? b=some u->h'.get? b=some u)
  (ho:∀b,H b=some (.own a)->H' b=some (.own a)) (ht:∀b xs,H b=some (.tup xs)->H' b=some (.tup xs)):ObjOk P w H' h' a o:=by
 induction o with
 | lst xs=>obtain⟨z,its,n,r,e⟩:=x;exact⟨z,its,n,r,k _ _ (.inl rfl) e⟩
 | tup xs=>obtain⟨z,its,r,ob,e,c⟩:=x;exact⟨z,its,r,ob,k _ _ (.inl rfl) e,c⟩
 | dK kvs=>obtain⟨z,y,vs,r,ob,es,ep,e,c⟩:=x;exact⟨z,y,vs,r,ob,es,ep,k _ _ (.inl rfl) e,c⟩
 | dT kvs=>
  obtain⟨z,y,xs,r,ob,es,ep,e,c⟩:=x
  exact⟨z,y,xs,Paired.mapP r fun p q z=>⟨z.1,ht _ _ z.2.1,z.2.2⟩,ob,es,ep,k _ _ (.inl rfl) e,c⟩
 | set S n=>obtain⟨ob,es,ep,t,e,c⟩:=x;exact⟨ob,es,ep,t,k _ _ (.inl rfl) e,c⟩
 | ins C dx fs=>
  obtain⟨d,z,ne,e,mA,⟨od,es,ep,e2,c⟩,r⟩:=x
  exact⟨ho _ d,z,ne,k _ _ (.inl rfl) e,mA,⟨od,es,ep,k _ _ (.inr d) e2,c⟩,r⟩
 | own y=>obtain⟨ob,e⟩:=x;exact⟨ob,k _ _ (.inl rfl) e⟩
 | xd fs=>obtain⟨mA,⟨od,es,ep,e,c⟩,r⟩:=x;exact⟨mA,⟨od,es,ep,k _ _ (.inl rfl) e,c⟩,r⟩
 | rng lo hi=>obtain⟨t,u,v,e⟩:=x;exact⟨t,u,v,k _ _ (.inl rfl) e⟩
 | frz ob u ih=>obtain⟨e,q⟩:=x;exact⟨k _ _ (.inl rfl) e,ih q⟩
 | tbl ps=>
  have e:h.get? a=some {cls:= .none,data:= .fields ps}:=x
  show h'.get? a=some {cls:= .none,data:= .fields ps}
  exact k a _ (.inl rfl) e
 | met f y=>
  have e:h.get? a=some (PySem.W.methodObj (.ref f) (.ref y)):=x
  show h'.get? a=some (PySem.W.methodObj (.ref f) (.ref y))
  exact k a _ (.inl rfl) e
 | ext φ=>obtain⟨p,⟨o,e⟩,st⟩:=x;exact⟨st _ _ p fun o q=>k _ _ (.inl rfl) q,⟨o,k _ _ (.inl rfl) e⟩,st⟩
theorem HOk.lt (x:HOk P w H h) (e:H a=some o):a<h.objs.size:=(x a o e).lt
theorem HOk.fresh (x:HOk P w H h) (e:h.objs.size<=a):H a=none:=by
 cases q:H a with
 | none=>rfl
 | some u=>exact absurd (Em (x.lt q) e) (ER _)
theorem HOk.kept (x:HOk P w H h) (k:∀b u,h.get? b=some u->h'.get? b=some u):HOk P w H h':=fun a o e=>
 (x a o e).stay (fun b u _ q=>k b u q) (fun _ q=>q) fun _ _ q=>q
theorem HOk.laid (x:HOk P w H h) (k:∀b u,h.get? b=some u->h'.get? b=some u) (hp:h.objs.size<=a) (new:ObjOk P w (aE H a o) h' a o):HOk P w (aE H a o) h':=fun b u e=>by
 have hn:=x.fresh hp
 by_cases hb:b=a
 ·subst hb;rw[ae]at e;cases e;exact new
 ·rw [aq hb]at e
  exact(x b u e).stay (fun c v _ q=>k c v q) (fun c q=>by rw[aq (aw q hn)];exact q) fun c xs q=>by rw[aq (aw q hn)];exact q
end
def Rd (H:Hp) (a:Addr) (u:HO):Prop:=H a=some u\/∃o,H a=some (.frz o u)
theorem Rd.ok {P:Program} {w:World} {H:Hp} {h:Heap} {a:Addr} {u:HO} (r:Rd H a u) (x:HOk P w H h):ObjOk P w H h a u:=by
 rcases r with r | ⟨o,r⟩
 ·exact x a u r
 ·obtain⟨_,q⟩:=x a _ r
  exact q
def AV:Option HO->Prop
 | some (.lst _)=>True
 | some (.dK _)=>True
 | some (.dT _)=>True
 | some (.set _ _)=>True
 | some (.ins _ _ _)=>True
 | some (.ext _)=>True
 | _=>False
section
variable {P:Program} {w:World} {H:Hp} {h h':Heap} {x e:Addr} {o':HO}
theorem HOk.write (ok:HOk P w H h) (mu:AV (H x)) (he:e=x\/H e=some (.own x)) (k:∀b u,b≠e->h.get? b=some u->h'.get? b=some u) (heo:∃u,h'.get? e=some u)
  (new:ObjOk P w (aE H x o') h' x o'):HOk P w (aE H x o') h':=fun b u q=>by
 have nown:∀c y,H c=some (.own y)->c≠x:=fun c y r z=>by subst z;rw[r]at mu;exact mu
 have ntup:∀c xs,H c=some (.tup xs)->c≠x:=fun c xs r z=>by subst z;rw[r]at mu;exact mu
 by_cases hb:b=x
 ·subst hb;rw[ae]at q;cases q;exact new
 ·rw [aq hb]at q
  by_cases hbe:b=e
  ·have q':H b=some (.own x):=by
    rcases he with z | z
    ·exact absurd (hbe.trans z) hb
    ·rw [hbe];exact z
   rw[q]at q';cases q'
   obtain⟨v,hv⟩:=heo
   exact⟨v,by rw[hbe];exact hv⟩
  ·refine(ok b u q).stay (fun c v hc r=>k c v ?_ r) (fun c r=>by rw[aq (nown c b r)];exact r) fun c xs r=>by rw[aq (ntup c xs r)];exact r
   rcases hc with rfl | hc
   ·exact hbe
   ·rintro rfl
    rcases he with z | z
    ·exact nown c b hc z
    ·rw [hc]at z;cases z;exact hb rfl
end
structure Un (fs ex:List Addr) (H H':Hp) (h h':Heap):Prop where
 keep:∀b o,h.get? b=some o->H b=none->b∉fs->b∉ex->h'.get? b=some o
 slot:∀b o,h.get? b=some o->H b=none->b∈fs->b∉ex->∃sl,h'.get? b=some {o with slots:=sl}
 free:∀b o,h.get? b=some o->H b=none->b∉ex->H' b=none
 there:∀b o,h.get? b=some o->b∉ex->∃o',h'.get? b=some o'
 tups:∀b xs,H b=some (.tup xs)->H' b=some (.tup xs)
 frzs:∀b o u,H b=some (.frz o u)->H' b=some (.frz o u)
 tbls:∀b ps,H b=some (.tbl ps)->∃more,H' b=some (.tbl (ps++more))
section
variable {fs fs' ex ex':List Addr} {H H1 H2:Hp} {h h1 h2 h':Heap} {a x e:Addr} {o:HO}
theorem Un.any (u:Un fs ex H H1 h h1) {b:Addr} {ob:Obj} (q:h.get? b=some ob) (n:H b=none) (hx:b∉ex):∃sl,h1.get? b=some {ob with slots:=sl}:=by
 by_cases hb:b∈fs
 ·exact u.slot b ob q n hb hx
 ·exact⟨ob.slots,u.keep b ob q n hb hx⟩
theorem Un.trans (a:Un fs ex H H1 h h1) (b:Un fs ex H1 H2 h1 h2):Un fs ex H H2 h h2 where
 keep:=fun c ob q n hc hx=>b.keep c ob (a.keep c ob q n hc hx) (a.free c ob q n hx) hc hx
 slot:=fun c ob q n hc hx=>by
  obtain⟨sl,e1⟩:=a.slot c ob q n hc hx
  obtain⟨sl',e2⟩:=b.slot c _ e1 (a.free c ob q n hx) hc hx
  exact⟨sl',e2⟩
 free:=fun c ob q n hx=>by
  obtain⟨o',e1⟩:=a.there c ob q hx
  exact b.free c o' e1 (a.free c ob q n hx) hx
 there:=fun c ob q hx=>by
  obtain⟨o',e1⟩:=a.there c ob q hx
  exact b.there c o' e1 hx
 tups:=fun c xs q=>b.tups c xs (a.tups c xs q)
 frzs:=fun c ob xs q=>b.frzs c ob xs (a.frzs c ob xs q)
 tbls:=fun c ps q=>by
  obtain⟨m1,e1⟩:=a.tbls c ps q
  obtain⟨m2,e2⟩:=b.tbls c _ e1
  exact⟨m1++m2,by rw[e2,Array.append_assoc]⟩
theorem Un.kept (k:∀b u,h.get? b=some u->h'.get? b=some u):Un fs ex H H h h':=
 ⟨fun b ob q _ _ _=>k b ob q,fun b ob q _ _ _=>⟨ob.slots,k b ob q⟩,fun _ _ _ n _=>n,fun b ob q _=>⟨ob,k b ob q⟩,fun _ _ q=>q,fun _ _ _ q=>q,fun _ ps q=>⟨#[],by rw[q];simp⟩⟩
theorem Un.refl:Un fs ex H H h h:=Un.kept fun _ _ q=>q
theorem Un.laid (k:∀b u,h.get? b=some u->h'.get? b=some u) (hp:h.objs.size<=a) (hn:H a=none):Un fs ex H (aE H a o) h h' where
 keep:=fun b u q _ _ _=>k b u q
 slot:=fun b u q _ _ _=>⟨u.slots,k b u q⟩
 free:=fun b u q n _=>by rw[aq (Eb (Em (Heap.lt_size q) hp))];exact n
 there:=fun b u q _=>⟨u,k b u q⟩
 tups:=fun b xs q=>by rw[aq (aw q hn)];exact q
 frzs:=fun b u xs q=>by rw[aq (aw q hn)];exact q
 tbls:=fun b ps q=>⟨#[],by rw[aq (aw q hn),q];simp⟩
theorem Un.write (mu:AV (H x)) (he:e=x\/H e=some (.own x)) (k:∀b u,b≠e->h.get? b=some u->h'.get? b=some u) (heo:∃u,h'.get? e=some u):Un fs ex H (aE H x o) h h':=by
 have hx:∀b,H b=none->b≠x:=fun b n z=>by subst z;rw[n]at mu;exact mu
 have hb:∀b,H b=none->b≠e:=fun b n z=>by
  subst z
  rcases he with r | r
  ·exact hx b n r
  ·rw [n]at r;cases r
 have hm:∀b u,H b=some u->¬AV (some u)->b≠x:=fun b u q nm z=>by subst z;rw[q]at mu;exact nm mu
 refine⟨fun b u q n _ _=>k b u (hb b n) q,fun b u q n _ _=>⟨u.slots,k b u (hb b n) q⟩,fun b u q n _=>by rw[aq (hx b n)];exact n,fun b u q _=>?_,
  fun b xs q=>by rw[aq (hm b _ q fun z=>z)];exact q,fun b u xs q=>by rw[aq (hm b _ q fun z=>z)];exact q,fun b ps q=>⟨#[],by rw[aq (hm b _ q fun z=>z),q];simp⟩⟩
 by_cases hbe:b=e
 ·subst hbe;exact heo
 ·exact⟨u,k b u hbe q⟩
end
def BZ (h:Heap) (H:Hp):List Addr:=(DR h.objs.size).filter fun a=>(H a).isSome
def nI (h:Heap) (H:Hp):Heap:=PySem.W.hideAll h (BZ h H)
theorem tL (h:Heap) (H:Hp):(nI h H).objs.size=h.objs.size:=PySem.W.hideAll_size _ _
theorem vi {h:Heap} {H:Hp} {b:Addr} {o:Obj} (e:h.get? b=some o) (n:H b=none):(nI h H).get? b=some o:=
 PySem.W.hideAll_get _ e fun hm=>by
  have q:(H b).isSome=true:=(Ej.mp hm).2
  rw[n]at q;simp at q
theorem xJ {h:Heap} {H:Hp} {b:Addr} {o:Obj} (e:(nI h H).get? b=some o):h.get? b=some o/\H b=none:=by
 have e':h.get? b=some o:=PySem.W.of_hideAll (BZ h H) e
 refine⟨e',?_⟩
 cases q:H b with
 | none=>rfl
 | some x=>
  have hm:b∈BZ h H:=Ej.mpr ⟨Ee.mpr (Heap.lt_size e'),by simp[q]⟩
  have z:(nI h H).get? b=none:=PySem.W.hideAll_none (BZ h H) hm
  rw[z]at e;cases e
def xK (g h:Heap) (L:Addr):List (Addr×Obj):=(DR h.objs.size).filterMap fun a=>if a=L\/(g.get? a).isSome=true then none else(h.get? a).map fun o=>(a,o)
def dy (g h:Heap) (L d:Addr):List (Addr×Obj):=(xK g h L).filter fun p=>decide (p.1≠d)
structure Mod (K:PySem.W.Frag) (mg:Str->Option Value) (base:Heap):Prop where
 kin:K.In base
 glob:base.Ns mainGlobals mg
 blt:∃mb,base.Ns builtinsNs mb/\∀x:Str,x≠"__name__"->mb x=bootBuiltins x
 nolimit:base.NoLimit
structure Cx where
 prog:Program
 w:World
 K:PySem.W.Frag
 mg:Str->Option Value
 base:Heap
 A:Around
 N:List Str
 s₀:Shared
 H₀:Hp
 env:Env
 outer:List Env
 stack:List Env
 ex:List Addr
 fn:Str->Bool
 calm:Bool
 pn:List (Addr×Obj)
 xe:Value->Shared->Prop
def gp (l:List Env):List Addr:=l.filterMap (·.frame)
abbrev Cx.fs (X:Cx):List Addr:=gp X.outer
def A1 (sc:Scope) (x:Str):Prop:=sc.names.lookup x=some .local\/sc.names.lookup x=some .cell\/sc.names.lookup x=some .free
def A3 (sc:Scope) (x:Str):Prop:=sc.names.lookup x=some .local\/sc.names.lookup x=some .cell
def Ck (env:Env) (h:Heap) (m:Str->Option Value) (x:Str) (u:Value):Prop:=
 (env.kindOf x=some .local/\m x=some u)\/((env.kindOf x=some .cell\/env.kindOf x=some .free)/\∃c,env.cells.lookup x=some c/\h.IsCell c (some u))
structure Cx.Ok (X:Cx):Prop where
 mod:Mod X.K X.mg X.base
 kind:X.env.scope.kind= .function
 glob:X.env.globals=mainGlobals
 blt:X.env.builtins=builtinsNs
 above:X.s₀.heap.objs.size<=X.env.locals
 inj:∀x y c,X.env.cells.lookup x=some c->X.env.cells.lookup y=some c->x=y
 has:∀x,(X.env.kindOf x=some .cell\/X.env.kindOf x=some .free)->∃c,X.env.cells.lookup x=some c
 cab:∀x c,X.fn x=true->X.env.cells.lookup x=some c->X.s₀.heap.objs.size<=c
 hd:X.calm=true->X.A.handled=none
 frames:X.A.frames=some X.stack
 stk:X.stack=X.outer\/(X.stack=X.env :: X.outer/\X.env.frame=some X.env.locals)
 exf:∀b∈X.ex,b≠X.env.locals/\∀x c,X.env.cells.lookup x=some c->c≠b
 bs:∀b o,X.base.get? b=some o->X.s₀.heap.get? b=some o/\X.H₀ b=none
 bsz:X.base.objs.size<=X.s₀.heap.objs.size
 noex:∀b o,X.base.get? b=some o->b∉X.ex
 exfs:∀b∈X.ex,b∉X.fs
 funs:X.s₀.heap.FunFrames X.base X.outer
 frf:∀b∈X.fs,X.H₀ b=none
structure Inv (X:Cx) (pins:List (Addr×Obj)) (σ:List (Option V)) (H:Hp) (s:Shared):Prop where
 ok:X.Ok
 os:s.os=X.s₀.os
 bare:AllBare s.gens
 base:Un X.fs X.ex X.H₀ H X.s₀.heap s.heap
 loc:∃m,s.heap.Ns X.env.locals m/\∀(i:Nat) (x:Str) (v:V),X.N[i]?=some x->σ[i]?=some (some v)->A1 X.env.scope x->∃u,RelV v u/\Ck X.env s.heap m x u
 cell:∀x c,X.env.cells.lookup x=some c->∃v,s.heap.IsCell c v
 free:H X.env.locals=none
 freeC:∀x c,X.env.cells.lookup x=some c->H c=none
 pin:∀p∈X.pn++pins,s.heap.get? p.1=some p.2/\H p.1=none/\p.1≠X.env.locals/\p.1∉X.fs/\∀v,p.2.data≠ .cell v
 hok:HOk X.prog X.w H s.heap
 len:σ.length=X.N.length
section
variable {X:Cx} {pins:List (Addr×Obj)} {σ:List (Option V)} {H H':Hp} {s:Shared} {h':Heap}
theorem Cx.Ok.nofr (ok:X.Ok) {b:Addr} {o:Obj} (e:X.base.get? b=some o):b∉X.fs:=fun hb=>by
 have:=(ok.funs.mem hb).1
 rw[e]at this;cases this
theorem Inv.bs (I:Inv X pins σ H s):∀b o,X.base.get? b=some o->s.heap.get? b=some o/\H b=none:=fun b o e=>
 ⟨I.base.keep b o (I.ok.bs b o e).1 (I.ok.bs b o e).2 (I.ok.nofr e) (I.ok.noex b o e),I.base.free b o (I.ok.bs b o e).1 (I.ok.bs b o e).2 (I.ok.noex b o e)⟩
theorem Inv.bk (I:Inv X pins σ H s):∀b o,X.base.get? b=some o->s.heap.get? b=some o:=fun b o e=>(I.bs b o e).1
theorem Inv.mod (I:Inv X pins σ H s):Mod X.K X.mg X.base:=I.ok.mod
theorem Inv.kIn (I:Inv X pins σ H s):X.K.In s.heap:=I.ok.mod.kin.keeps I.bk
theorem Inv.fr (I:Inv X pins σ H s):∃m,Fr X.base X.env.locals s.heap m:=
 let⟨m,hn,_⟩:=I.loc
 ⟨m,hn,I.bk,Ek I.ok.bsz I.ok.above⟩
theorem Inv.lt (I:Inv X pins σ H s):X.env.locals<s.heap.objs.size:=let⟨_,hn,_⟩:=I.loc;hn.lt
theorem Inv.sz (I:Inv X pins σ H s):X.s₀.heap.objs.size<=s.heap.objs.size:=Ek I.ok.above (ET I.lt)
theorem Inv.nofs (I:Inv X pins σ H s) {a:Addr} (h:s.heap.objs.size<=a):a∉X.fs:=fun hb=>by
 obtain⟨_,o,ho,_⟩:=I.ok.funs.mem hb
 exact absurd (Em (Heap.lt_size ho) (Ek I.sz h)) (ER _)
theorem Inv.cne (I:Inv X pins σ H s):∀x c,X.env.cells.lookup x=some c->c≠X.env.locals:=fun x c e z=>by
 obtain⟨v,o,ho,hd⟩:=I.cell x c e
 obtain⟨m,⟨o',es,ep,ho',hd',_⟩,_⟩:=I.loc
 rw[z,ho']at ho;cases ho;rw[hd']at hd;cases hd
theorem Inv.funs (I:Inv X pins σ H s):s.heap.FunFrames X.base X.outer:=by
 have all:∀(l:List Env),(∀b∈gp l,b∈X.fs)->X.s₀.heap.FunFrames X.base l->s.heap.FunFrames X.base l:=by
  intro l
  induction l with
  | nil=>intro _ _;trivial
  | cons env r ih=>
   intro hs hl
   obtain⟨hk,⟨L,o,hf,hn,ho,hd⟩,hr⟩:=hl
   have hL:L∈X.fs:=hs L (by unfold gp;rw[FP,hf];exact Ei)
   obtain⟨sl,e⟩:=I.base.slot L o ho (I.ok.frf L hL) hL fun z=>I.ok.exfs L z hL
   exact⟨hk,⟨L,_,hf,hn,e,hd⟩,ih (fun b hb=>hs b (by unfold gp;rw[FP,hf];exact Ea _ hb)) hr⟩
 exact all X.outer (fun _ hb=>hb) I.ok.funs
theorem Inv.stack (I:Inv X pins σ H s):s.heap.FunFrames X.base X.stack:=by
 rcases I.ok.stk with e | ⟨e,hf⟩
 ·rw [e];exact I.funs
 ·rw [e]
  obtain⟨m,hn,_⟩:=I.loc
  refine .cons (by rw[I.ok.kind];decide) hf hn ?_ I.funs
  exact Heap.get?_none_of_le (Ek I.ok.bsz I.ok.above)
theorem Inv.stkSub (I:Inv X pins σ H s):∀b∈gp X.stack,b∈X.env.locals :: X.fs:=fun b hb=>by
 rcases I.ok.stk with e | ⟨e,hf⟩
 ·rw [e]at hb;exact Ea _ hb
 ·rw [e]at hb
  unfold gp at hb
  rw[FP,hf]at hb
  exact hb
theorem Inv.stkFree (I:Inv X pins σ H s):∀b∈gp X.stack,H b=none:=fun b hb=>by
 rcases Ed.mp (I.stkSub b hb)with e | hb
 ·rw [e];exact I.free
 ·obtain⟨_,o,ho,_⟩:=I.ok.funs.mem hb
  exact I.base.free b o ho (I.ok.frf b hb) fun z=>I.ok.exfs b z hb
theorem Inv.step {g':Array GenState} {t':Nat} {d':Drawn} {ch:List Addr} (I:Inv X pins σ H s)
  (hch:∀b∈ch,(b∈X.ex\/X.s₀.heap.objs.size<=b)/\b≠X.env.locals/\(∀x c,X.env.cells.lookup x=some c->c≠b)/\∀p∈X.pn++pins,p.1≠b)
  (keep:∀b o,b≠X.env.locals->b∉X.fs->b∉ch->s.heap.get? b=some o->H b=none->h'.get? b=some o)
  (slot:∀b o,b≠X.env.locals->b∈X.fs->b∉ch->s.heap.get? b=some o->H b=none->∃sl,h'.get? b=some {o with slots:=sl}) (free:∀b o,b∉ch->s.heap.get? b=some o->H b=none->H' b=none)
  (there:∀b o,b∉ch->s.heap.get? b=some o->∃o',h'.get? b=some o')
  (tups:∀b xs,H b=some (.tup xs)->H' b=some (.tup xs)) (frzs:∀b o u,H b=some (.frz o u)->H' b=some (.frz o u)) (tbls:∀b ps,H b=some (.tbl ps)->∃more,H' b=some (.tbl (ps++more)))
  (ns:∀m,s.heap.Ns X.env.locals m->h'.Ns X.env.locals m) (hok:HOk X.prog X.w H' h') (hg:AllBare g'):
  Inv X pins σ H' {s with heap:=h',gens:=g',drawn:=d',toks:=t'}:=by
 have neL:∀b o,X.s₀.heap.get? b=some o->b≠X.env.locals:=fun b o e=>Eb (Em (Heap.lt_size e) I.ok.above)
 have neC:∀b o,X.s₀.heap.get? b=some o->b∉X.ex->b∉ch:=fun b o e hx hb=>by
  rcases(hch b hb).1 with z | z
  ·exact hx z
  ·exact absurd (Em (Heap.lt_size e) z) (ER _)
 have cellK:∀x c,X.env.cells.lookup x=some c->∀v,s.heap.IsCell c v->h'.IsCell c v:=fun x c e v ⟨o,ho,hd⟩=>by
  have nch:c∉ch:=fun z=>(hch c z).2.2.1 x c e rfl
  by_cases hc:c∈X.fs
  ·obtain⟨sl,q⟩:=slot c o (I.cne x c e) hc nch ho (I.freeC x c e)
   exact⟨_,q,hd⟩
  ·exact⟨o,keep c o (I.cne x c e) hc nch ho (I.freeC x c e),hd⟩
 refine⟨I.ok,I.os,hg,⟨fun b o e n hb hx=>?_,fun b o e n hb hx=>?_,fun b o e n hx=>?_,fun b o e hx=>?_,fun b xs e=>tups b xs (I.base.tups b xs e),fun b o xs e=>frzs b o xs (I.base.frzs b o xs e),fun b ps e=>?_⟩,?_,fun x c e=>?_,?_,fun x c e=>?_,fun p hp=>?_,hok,I.len⟩
 ·exact keep b o (neL b o e) hb (neC b o e hx) (I.base.keep b o e n hb hx) (I.base.free b o e n hx)
 ·obtain⟨sl,e1⟩:=I.base.slot b o e n hb hx
  obtain⟨sl',e2⟩:=slot b _ (neL b o e) hb (neC b o e hx) e1 (I.base.free b o e n hx)
  exact⟨sl',e2⟩
 ·obtain⟨o',e1⟩:=I.base.there b o e hx
  exact free b o' (neC b o e hx) e1 (I.base.free b o e n hx)
 ·obtain⟨o',e1⟩:=I.base.there b o e hx
  exact there b o' (neC b o e hx) e1
 ·obtain⟨m1,e1⟩:=I.base.tbls b ps e
  obtain⟨m2,e2⟩:=tbls b _ e1
  exact⟨m1++m2,by rw[e2,Array.append_assoc]⟩
 ·obtain⟨m,hn,hl⟩:=I.loc
  refine⟨m,ns m hn,fun i x v e1 e2 e3=>?_⟩
  obtain⟨u,r,l⟩:=hl i x v e1 e2 e3
  refine⟨u,r,?_⟩
  rcases l with l | ⟨k,c,e,z⟩
  ·exact .inl l
  ·exact .inr ⟨k,c,e,cellK x c e _ z⟩
 ·obtain⟨v,z⟩:=I.cell x c e
  exact⟨v,cellK x c e v z⟩
 ·obtain⟨m,⟨o,_,_,ho,_⟩,_⟩:=I.loc
  exact free _ o (fun z=>(hch _ z).2.1 rfl) ho I.free
 ·obtain⟨v,o,ho,hd⟩:=I.cell x c e
  exact free c o (fun z=>(hch c z).2.2.1 x c e rfl) ho (I.freeC x c e)
 ·obtain⟨e,n,ne,nf,d⟩:=I.pin p hp
  have nch:p.1∉ch:=fun z=>(hch p.1 z).2.2.2 p hp rfl
  exact⟨keep p.1 p.2 ne nf nch e n,free p.1 p.2 nch e n,ne,nf,d⟩
theorem Inv.un {t':Nat} (I:Inv X pins σ H s) (u:Un X.fs [] H H' s.heap h') (hok:HOk X.prog X.w H' h'):Inv X pins σ H' {s with heap:=h',toks:=t'}:=by
 obtain⟨m,⟨o,es,ep,ho,r⟩,_⟩:=id I.loc
 obtain⟨sl,hL⟩:=u.any ho I.free (by simp)
 exact I.step (g':=s.gens) (d':=s.drawn) (ch:=[]) (fun _ z=>nomatch z) (fun b o _ hb _ e n=>u.keep b o e n hb (by simp)) (fun b o _ hb _ e n=>u.slot b o e n hb (by simp)) (fun b o _ e n=>u.free b o e n (by simp)) (fun b o _ e=>u.there b o e (by simp)) u.tups u.frzs u.tbls (fun m' hm=>by
  obtain⟨o',es',ep',ho',r'⟩:=hm
  rw[ho]at ho';cases ho'
  exact⟨_,es',ep',hL,r'⟩) hok I.bare
theorem Inv.call {g':Array GenState} {t':Nat} {d':Drawn} {ch:List Addr} (I:Inv X pins σ H s) (u:Un (gp X.stack) ch H H' s.heap h') (hok:HOk X.prog X.w H' h') (hg:AllBare g')
  (hch:∀b∈ch,(b∈X.ex\/X.s₀.heap.objs.size<=b)/\b≠X.env.locals/\(∀x c,X.env.cells.lookup x=some c->c≠b)/\∀p∈X.pn++pins,p.1≠b):
  Inv X pins σ H' {s with heap:=h',gens:=g',drawn:=d',toks:=t'}:=by
 obtain⟨m,⟨o,es,ep,ho,r⟩,_⟩:=id I.loc
 obtain⟨sl,hL⟩:=u.any ho I.free fun z=>(hch _ z).2.1 rfl
 exact I.step (ch:=ch) hch (fun b o hL hb hc e n=>u.keep b o e n (fun z=>(Ed.mp (I.stkSub b z)).elim hL hb) hc) (fun b o _ _ hc e n=>u.any e n hc) (fun b o hc e n=>u.free b o e n hc) (fun b o hc e=>u.there b o e hc) u.tups u.frzs u.tbls (fun m' hm=>by
  obtain⟨o',es',ep',ho',r'⟩:=hm
  rw[ho]at ho';cases ho'
  exact⟨_,es',ep',hL,r'⟩) hok hg
theorem Inv.turned {t':Nat} {it:Addr} (I:Inv X pins σ H s) (k:∀b o,b≠it->s.heap.get? b=some o->h'.get? b=some o) (hn:H it=none) (hL:it≠X.env.locals)
  (h1:it∈X.ex\/X.s₀.heap.objs.size<=it) (h2:∀x c,X.env.cells.lookup x=some c->c≠it) (h3:∀p∈X.pn++pins,p.1≠it):Inv X pins σ H {s with heap:=h',toks:=t'}:=by
 have nit:∀b u,H b=some u->b≠it:=fun b u e z=>by rw[z,hn]at e;cases e
 refine I.step (g':=s.gens) (d':=s.drawn) (ch:=[it]) (fun b hb=>?_) (fun b o _ _ hc e _=>k b o (fun z=>hc (by simp[z])) e) (fun b o _ _ hc e _=>⟨o.slots,k b o (fun z=>hc (by simp[z])) e⟩) (fun _ _ _ _ n=>n)
  (fun b o hc e=>⟨o,k b o (fun z=>hc (by simp[z])) e⟩) (fun _ _ e=>e) (fun _ _ _ e=>e) (fun b ps e=>⟨#[],by rw[e];simp⟩) (fun m hm=>?_) (fun b u e=>?_) I.bare
 ·have e:b=it:=by simpa using hb
  subst e
  exact⟨h1,hL,h2,h3⟩
 ·obtain⟨o,es,ep,ho,r⟩:=hm
  exact⟨o,es,ep,k _ o (Ne.symm hL) ho,r⟩
 ·refine(I.hok b u e).stay (fun c v hc q=>k c v ?_ q) (fun _ q=>q) fun _ _ q=>q
  rcases hc with z | z
  ·rw [z];exact nit b u e
  ·exact nit c _ z
theorem Inv.tok (I:Inv X pins σ H s) (t:Nat):Inv X pins σ H {s with toks:=t}:=I.un (h':=s.heap) (t':=t) Un.refl I.hok
theorem Inv.kept {t':Nat} (I:Inv X pins σ H s) (k:∀b u,s.heap.get? b=some u->h'.get? b=some u):Inv X pins σ H {s with heap:=h',toks:=t'}:=I.un (Un.kept k) (I.hok.kept k)
theorem Inv.laid {a:Addr} {o:HO} {t':Nat} (I:Inv X pins σ H s) (k:∀b u,s.heap.get? b=some u->h'.get? b=some u) (hp:s.heap.objs.size<=a) (new:ObjOk X.prog X.w (aE H a o) h' a o):
 Inv X pins σ (aE H a o) {s with heap:=h',toks:=t'}:=I.un (Un.laid k hp (I.hok.fresh hp)) (I.hok.laid k hp new)
theorem Inv.write {x e:Addr} {o:HO} {t':Nat} (I:Inv X pins σ H s) (mu:AV (H x)) (he:e=x\/H e=some (.own x)) (k:∀b u,b≠e->s.heap.get? b=some u->h'.get? b=some u) (heo:∃u,h'.get? e=some u)
 (new:ObjOk X.prog X.w (aE H x o) h' x o):Inv X pins σ (aE H x o) {s with heap:=h',toks:=t'}:=I.un (Un.write mu he k heo) (I.hok.write mu he k heo new)
theorem Inv.weak {σ':List (Option V)} (I:Inv X pins σ H s) (hl:σ'.length=σ.length) (w:∀(i:Nat) v,σ'[i]?=some (some v)->σ[i]?=some (some v)):Inv X pins σ' H s:=
 ⟨I.ok,I.os,I.bare,I.base,let⟨m,hn,hl'⟩:=I.loc;⟨m,hn,fun i x v e1 e2 e3=>hl' i x v e1 (w i v e2) e3⟩,I.cell,I.free,I.freeC,I.pin,I.hok,hl.trans I.len⟩
theorem Inv.pins_of {pins':List (Addr×Obj)} (I:Inv X pins σ H s) (h:∀p∈pins',s.heap.get? p.1=some p.2/\H p.1=none/\p.1≠X.env.locals/\p.1∉X.fs/\∀v,p.2.data≠ .cell v):Inv X pins' σ H s:=
 ⟨I.ok,I.os,I.bare,I.base,I.loc,I.cell,I.free,I.freeC,fun p hp=>(Eg.mp hp).elim (fun z=>I.pin p (Es _ z)) (h p),I.hok,I.len⟩
theorem oG {N:List Str} (hN:N.Nodup) {i j:Nat} {x:Str} (a:N[i]?=some x) (b:N[j]?=some x):i=j:=by
 obtain⟨h1,e1⟩:=DN.mp a
 obtain⟨h2,e2⟩:=DN.mp b
 exact(Fi hN).mp (e1.trans e2.symm)
theorem mG {M:Model} {A:Around} {E:Value->Shared->Prop} {i:Nat} {x:Str} {v:V} {u:Value} {Q:Unit->Shared->Prop} (I:Inv X pins σ H s) (hN:X.N.Nodup) (hi:X.N[i]?=some x) (hx:A3 X.env.scope x) (r:RelV v u)
  (h:∀s',Inv X pins (σ.set i (some v)) H s'->(∃a,Heap.SameBut a s.heap s'.heap/\(a=X.env.locals\/X.env.cells.lookup x=some a))->Q () s') (hf:X.fn x=true\/X.env.scope.names.lookup x=some .local:=by first | exact .inl rfl | exact .inr rfl | assumption):wpAny M A (storeName X.env x u) Q E s:=by
 obtain⟨m,hn,hl⟩:=id I.loc
 have hcls:(X.env.scope.kind== .class||(X.env.scope.kind== .module&&X.env.locals != X.env.globals))=false:=by rw[I.ok.kind];rfl
 have hiσ:i<σ.length:=by rw[I.len];exact(DN.mp hi).1
 have cne:=I.cne
 have tracked:∀{a:Addr} {h':Heap},(∃o,s.heap.get? a=some o/\H a=none)->Heap.SameBut a s.heap h'->HOk X.prog X.w H h':=fun {a h'} ha hs b ob e=>by
  obtain⟨_,_,hfree⟩:=ha
  refine(I.hok b ob e).stay (fun c w' hc q=>(hs.2 c ?_).trans q) (fun _ q=>q) fun _ _ q=>q
  rintro rfl
  rcases hc with rfl | hc
  ·rw [hfree]at e;cases e
  ·rw [hfree]at hc;cases hc
 rcases hx with hk | hk
 ·refine wpAny_storeName_local hk hn (fun h' hn' hs=>?_) hcls
  obtain⟨oL,_,_,hoL,_⟩:=id hn
  refine h _ ⟨I.ok,I.os,I.bare,⟨fun b o e n hb hx=>?_,fun b o e n hb hx=>?_,I.base.free,fun b o e hx=>?_,I.base.tups,I.base.frzs,I.base.tbls⟩,⟨_,hn',fun j y v' e1 e2 e3=>?_⟩,fun y c e=>?_,I.free,I.freeC,fun p hp=>?_,tracked ⟨oL,hoL,I.free⟩ hs,by simpa using I.len⟩ ⟨_,hs,.inl rfl⟩
  ·exact(hs.2 b (Eb (Em (Heap.lt_size e) I.ok.above))).trans (I.base.keep b o e n hb hx)
  ·obtain⟨sl,e1⟩:=I.base.slot b o e n hb hx
   exact⟨sl,(hs.2 b (Eb (Em (Heap.lt_size e) I.ok.above))).trans e1⟩
  ·obtain⟨o',e1⟩:=I.base.there b o e hx
   exact⟨o',(hs.2 b (Eb (Em (Heap.lt_size e) I.ok.above))).trans e1⟩
  ·by_cases hj:j=i
   ·subst hj
    rw[hi]at e1;cases e1
    rw[FC hiσ]at e2
    cases e2
    exact⟨u,r,.inl ⟨hk,by simp⟩⟩
   ·rw [FL (Ne.symm hj)]at e2
    obtain⟨u',r',q⟩:=hl j y v' e1 e2 e3
    refine⟨u',r',?_⟩
    rcases q with⟨k,e⟩ | ⟨k,c,e,z⟩
    ·refine .inl ⟨k,?_⟩
     have:y≠x:=fun e=>hj (oG hN e1 (e▸hi))
     simp[this,e]
    ·exact .inr ⟨k,c,e,z.sameBut hs (cne y c e)⟩
  ·obtain⟨w',z⟩:=I.cell y c e
   exact⟨w',z.sameBut hs (cne y c e)⟩
  ·obtain⟨e,n,ne,nf,d⟩:=I.pin p hp
   exact⟨(hs.2 p.1 ne).trans e,n,ne,nf,d⟩
 ·have hfn:X.fn x=true:=by
   rcases hf with z | z
   ·exact z
   ·rw [z]at hk;cases hk
  obtain⟨c,hc⟩:=I.ok.has x (.inl hk)
  obtain⟨w',z⟩:=I.cell x c hc
  refine wpAny_storeName_cell I.ok.kind hk hc z (fun h' hc' hs=>?_)
  obtain⟨oc,hoc,hocd⟩:=id z
  refine h {s with heap:=h'} ⟨I.ok,I.os,I.bare,⟨fun b o e n hb hx=>?_,fun b o e n hb hx=>?_,I.base.free,fun b o e hx=>?_,I.base.tups,I.base.frzs,I.base.tbls⟩,⟨m,hn.sameBut hs (Ne.symm (cne x c hc)),fun j y v' e1 e2 e3=>?_⟩,fun y c' e=>?_,I.free,I.freeC,fun p hp=>?_,tracked ⟨oc,hoc,I.freeC x c hc⟩ hs,by simpa using I.len⟩ ⟨c,hs,.inr hc⟩
  ·exact(hs.2 b (Eb (Em (Heap.lt_size e) (I.ok.cab x c hfn hc)))).trans (I.base.keep b o e n hb hx)
  ·obtain⟨sl,e1⟩:=I.base.slot b o e n hb hx
   exact⟨sl,(hs.2 b (Eb (Em (Heap.lt_size e) (I.ok.cab x c hfn hc)))).trans e1⟩
  ·obtain⟨o',e1⟩:=I.base.there b o e hx
   exact⟨o',(hs.2 b (Eb (Em (Heap.lt_size e) (I.ok.cab x c hfn hc)))).trans e1⟩
  ·by_cases hj:j=i
   ·subst hj
    rw[hi]at e1;cases e1
    rw[FC hiσ]at e2
    cases e2
    exact⟨u,r,.inr ⟨.inl hk,c,hc,hc'⟩⟩
   ·rw [FL (Ne.symm hj)]at e2
    obtain⟨u',r',q⟩:=hl j y v' e1 e2 e3
    refine⟨u',r',?_⟩
    rcases q with q | ⟨k,c',e,z'⟩
    ·exact .inl q
    ·refine .inr ⟨k,c',e,z'.sameBut hs ?_⟩
     rintro rfl
     exact hj (oG hN e1 (I.ok.inj _ _ _ e hc▸hi))
  ·by_cases hcc:c'=c
   ·subst hcc;exact⟨_,hc'⟩
   ·obtain⟨w2,z2⟩:=I.cell y c' e
    exact⟨w2,z2.sameBut hs hcc⟩
  ·obtain⟨e,n,ne,nf,d⟩:=I.pin p hp
   refine⟨(hs.2 p.1 ?_).trans e,n,ne,nf,d⟩
   intro q
   rw[q,hoc]at e
   have q':oc=p.2:=Option.some.inj e
   exact d w' (by rw[<- q'];exact hocd)
theorem oH {M:Model} {A:Around} {E:Value->Shared->Prop} {i:Nat} {x:Str} {v:V} {u:Value} {Q:Unit->Shared->Prop} (I:Inv X pins σ H s) (hN:X.N.Nodup) (hi:X.N[i]?=some x) (hx:A3 X.env.scope x) (r:RelV v u)
  (h:∀s',Inv X pins (σ.set i (some v)) H s'->Q () s') (hf:X.fn x=true\/X.env.scope.names.lookup x=some .local:=by first | exact .inl rfl | exact .inr rfl | assumption):wpAny M A (storeName X.env x u) Q E s:=
 mG I hN hi hx r (fun s' I' _=>h s' I') hf
theorem Inv.call' {s':Shared} {ch:List Addr} (I:Inv X pins σ H s) (ho:s'.os=s.os) (u:Un (gp X.stack) ch H H' s.heap s'.heap) (hok:HOk X.prog X.w H' s'.heap) (hg:AllBare s'.gens)
  (hch:∀b∈ch,(b∈X.ex\/X.s₀.heap.objs.size<=b)/\b≠X.env.locals/\(∀x c,X.env.cells.lookup x=some c->c≠b)/\∀p∈X.pn++pins,p.1≠b):Inv X pins σ H' s':=by
 obtain⟨h',g',d',t',o'⟩:=s'
 have e:o'=s.os:=ho
 subst e
 exact I.call (g':=g') (t':=t') (d':=d') u hok hg hch
end
abbrev XK:=Value->Option Addr->Hp->Prop
abbrev St:=List (Option V)
abbrev VK:=V->Hp->Prop
abbrev TE:=St->Hp->VK->Prop
abbrev TT:=St->Hp->(Bool->Hp->Prop)->Prop
abbrev TA:=St->Hp->(List V->Hp->Prop)->Prop
structure Ends where
 nx:St->Hp->Prop
 rt:VK
 bk:St->Hp->Prop:=fun _ _=>False
 ct:St->Hp->Prop:=fun _ _=>False
abbrev TS:=Ends->St->Hp->Prop
def EP (X:Cx) (pins:List (Addr×Obj)) (σ:St) (Q:VK) (u:Value) (s':Shared):Prop:=∃v H',Inv X pins σ H' s'/\RelV v u/\Q v H'
def TP (X:Cx) (pins:List (Addr×Obj)) (σ:St) (Q:Bool->Hp->Prop) (b:Bool) (s':Shared):Prop:=∃H',Inv X pins σ H' s'/\Q b H'
def AP (X:Cx) (pins:List (Addr×Obj)) (σ:St) (Q:List V->Hp->Prop) (us:List Value) (s':Shared):Prop:=∃vs H',Inv X pins σ H' s'/\Vals vs us/\Q vs H'
def SP (X:Cx) (pins:List (Addr×Obj)) (D:Ends) (f:Flow) (s':Shared):Prop:=
 match f with
 | .next=>∃σ' H',Inv X pins σ' H' s'/\D.nx σ' H'
 | .brk=>∃σ' H',Inv X pins σ' H' s'/\D.bk σ' H'
 | .cont=>∃σ' H',Inv X pins σ' H' s'/\D.ct σ' H'
 | .ret u=>∃v σ' H',Inv X pins σ' H' s'/\RelV v u/\D.rt v H'
def PE (X:Cx) (e:Expr) (t:TE):Prop:=
 ∀(pins:List (Addr×Obj)) (s:Shared) (σ:St) (H:Hp) (Q:VK),Inv X pins σ H s->t σ H Q->wpAny (model X.prog X.w) X.A (eval e X.env) (EP X pins σ Q) X.xe s
def PT (X:Cx) (e:Expr) (t:TT):Prop:=
 ∀(pins:List (Addr×Obj)) (s:Shared) (σ:St) (H:Hp) (Q:Bool->Hp->Prop),Inv X pins σ H s->t σ H Q->wpAny (model X.prog X.w) X.A (isTrue e X.env (eval e X.env)) (TP X pins σ Q) X.xe s
def PW (X:Cx) (e:Expr) (t:TT):Prop:=
 ∀(whole:Sem Value) (pins:List (Addr×Obj)) (s:Shared) (σ:St) (H:Hp) (Q:Bool->Hp->Prop),Inv X pins σ H s->t σ H Q->wpAny (model X.prog X.w) X.A (isTrue e X.env whole) (TP X pins σ Q) X.xe s
theorem PW.pt {X:Cx} {e:Expr} {t:TT} (h:PW X e t):PT X e t:=h _
def PA (X:Cx) (es:List Expr) (t:TA):Prop:=
 ∀(pos:Pos) (pins:List (Addr×Obj)) (s:Shared) (σ:St) (H:Hp) (Q:List V->Hp->Prop),Inv X pins σ H s->t σ H Q->wpAny (model X.prog X.w) X.A (spliced (backTo pos (starEach es X.env))) (AP X pins σ Q) X.xe s
def PS (X:Cx) (st:Stmt) (t:TS):Prop:=
 ∀(pins:List (Addr×Obj)) (s:Shared) (σ:St) (H:Hp) (D:Ends),Inv X pins σ H s->t D σ H->wpAny (model X.prog X.w) X.A (exec st X.env) (SP X pins D) X.xe s
def PSs (X:Cx) (st:List Stmt) (t:TS):Prop:=
 ∀(pins:List (Addr×Obj)) (s:Shared) (σ:St) (H:Hp) (D:Ends),Inv X pins σ H s->t D σ H->wpAny (model X.prog X.w) X.A (execs st X.env) (SP X pins D) X.xe s
theorem bF {α:Type} {t:Sem α} {Q Q':α->Shared->Prop} {M:Model} {A:Around} {E:Value->Shared->Prop} {s:Shared} (h:wpAny M A t Q E s) (hQ:∀a s,Q a s->Q' a s):wpAny M A t Q' E s:=wpAny_mono h hQ fun _ _ x=>x
section
variable {X:Cx}
theorem DG {a b:Expr} {ta tb:TE} (ha:PE X a ta) (hb:PE X b tb) {pins:List (Addr×Obj)} {s:Shared} {σ:St} {H:Hp} {R:V->V->Hp->Prop} (I:Inv X pins σ H s) (h:ta σ H fun x H1=>tb σ H1 fun y H2=>R x y H2)
  {α:Type} {Q:α->Shared->Prop} {f:Value->Value->Sem α}
  (hf:∀v u s2 x y H2,Inv X pins σ H2 s2->RelV x v->RelV y u->R x y H2->wpAny (model X.prog X.w) X.A (f v u) Q X.xe s2):
  wpAny (model X.prog X.w) X.A (eval a X.env) (fun v s₁=>wpAny (model X.prog X.w) X.A (eval b X.env) (fun u s₂=>wpAny (model X.prog X.w) X.A (f v u) Q X.xe s₂) X.xe s₁) X.xe s:=by
 refine bF (ha pins s σ H _ I h) fun v s1 hq__=>?_
 obtain⟨x,H1,I1,r1,q1⟩:=hq__
 refine bF (hb pins s1 σ H1 _ I1 q1) fun u s2 hq__=>?_
 obtain⟨y,H2,I2,r2,q2⟩:=hq__
 exact hf v u s2 x y H2 I2 r1 r2 q2
def A4 (i:Nat):TE:=fun σ H Q=>∃v,σ[i]?=some (some v)/\Q v H
def tC (v:V):TE:=fun _ H Q=>Q v H
theorem zL {i:Nat} {x:Str} {pos:Pos} (hN:X.N[i]?=some x) (hv:A1 X.env.scope x) (hd:(x==("__debug__":Str))=false:=by decide) (hcd:(x==("__classdict__":Str))=false:=by decide):PE X (.Name x pos) (A4 i):=by
 intro pins s σ H Q I h
 obtain⟨v,e,h⟩:=h
 obtain⟨m,hn,hl⟩:=I.loc
 obtain⟨u,r,l⟩:=hl i x v hN e hv
 have fin:EP X pins σ Q u s:=⟨v,H,I,r,h⟩
 rcases l with⟨hk,hm⟩ | ⟨hk,c,hc,hcell⟩
 ·exact wpAny_Name (wpAny_loadName_local I.ok.kind hk hn hm fin) hd
 ·rcases hk with hk | hk
  ·exact wpAny_Name (wpAny_loadName_cell I.ok.kind hk hc hcell fin) hd
  ·exact wpAny_Name (wpAny_loadName_free I.ok.kind hk hc hcell fin hcd) hd
theorem aj {i j pos}:PE X (.Constant (.int i) j pos) (tC (.int i)):=fun _ _ _ H _ I h=>wpAny_Constant_int ⟨.int i,H,I.tok _,⟨_,rfl⟩,h⟩
theorem bP {b j pos}:PE X (.Constant (.bool b) j pos) (tC (.bl b)):=fun _ _ _ H _ I h=>Constant_bool ⟨.bl b,H,I,rfl,h⟩
theorem cK {j pos}:PE X (.Constant .none j pos) (tC .non):=fun _ _ _ H _ I h=>Constant_none ⟨.non,H,I,rfl,h⟩
theorem a7 {x j pos}:PE X (.Constant (.str x) j pos) (tC (.str x)):=fun _ _ _ H _ I h=>Calls.Constant_str ⟨.str x,H,I.tok _,⟨_,rfl⟩,h⟩
def Gl (X:Cx) (x:Str):Prop:=X.env.kindOf x=some .globalImplicit
theorem xM {E:Value->Shared->Prop} {pins:List (Addr×Obj)} {s:Shared} {σ:St} {H:Hp} {x:Str} {u:Value} {pos:Pos} {Q:Value->Shared->Prop} (I:Inv X pins σ H s) (hg:Gl X x) (hm:X.mg x=some u) (h:Q u s)
  (hd:(x==("__debug__":Str))=false:=by decide):wpAny (model X.prog X.w) X.A (eval (.Name x pos) X.env) Q E s:=
 Calls.Name_function_global I.ok.kind hg (Calls.loadGlobal_global (by rw[I.ok.glob];exact I.mod.glob.keeps I.bk) hm h) hd
theorem gU {E:Value->Shared->Prop} {pins:List (Addr×Obj)} {s:Shared} {σ:St} {H:Hp} {x:Str} {u:Value} {pos:Pos} {Q:Value->Shared->Prop} (I:Inv X pins σ H s) (hg:Gl X x) (hm:X.mg x=none) (hv:bootBuiltins x=some u) (h:Q u s)
  (hn:x≠"__name__":=by decide) (hd:(x==("__debug__":Str))=false:=by decide):wpAny (model X.prog X.w) X.A (eval (.Name x pos) X.env) Q E s:=by
 obtain⟨mb,h1,h2⟩:=I.mod.blt
 exact Calls.Name_function_global I.ok.kind hg (Calls.loadGlobal_builtin (by rw[I.ok.glob];exact I.mod.glob.keeps I.bk) hm (by rw[I.ok.blt];exact h1.keeps I.bk) ((h2 x hn).trans hv) h) hd
theorem j4 {x:Str} {v:V} {u:Value} {pos:Pos} (hg:Gl X x) (hm:X.mg x=none) (hv:bootBuiltins x=some u) (r:RelV v u) (hn:x≠"__name__":=by decide) (hd:(x==("__debug__":Str))=false:=by decide):PE X (.Name x pos) (tC v):=
 fun _ _ _ H _ I h=>gU I hg hm hv ⟨v,H,I,r,h⟩ hn hd
variable {a b:Expr} {ta tb:TE} {pos:Pos}
def PC (X:Cx) (op:CmpOp) (a b:Expr) (t:TE):Prop:=
 ∀(pins:List (Addr×Obj)) (s:Shared) (σ:St) (H:Hp) (Q:VK),Inv X pins σ H s->t σ H Q->
  wpAny (model X.prog X.w) X.A (eval a X.env) (fun v s₁=>wpAny (model X.prog X.w) X.A (eval b X.env) (fun u s₂=>wpAny (model X.prog X.w) X.A (compareOp op v u) (EP X pins σ Q) X.xe s₂) X.xe s₁) X.xe s
theorem vj (b:Expr) {op:CmpOp} (h:op≠ .In) (h2:op≠ .NotIn):behindInMarks op b=false:=by
 have e1:(op==CmpOp.In)=false:=by cases op<;>first | rfl | exact absurd rfl h
 have e2:(op==CmpOp.NotIn)=false:=by cases op<;>first | rfl | exact absurd rfl h2
 cases b<;>simp[behindInMarks,e1,e2]
def tB (t:TE):TT:=fun σ H Q=>t σ H fun x H1=>∃c,x= .bl c/\Q c H1
theorem vk {op:CmpOp} {t:TE} (h:PC X op a b t) (h1:behindInMarks op b=false:=by first | exact vj _ (by decide) (by decide) | rfl):PT X (.Compare a [op] [b] pos) (tB t):=by
 intro pins s σ H Q I hw
 refine wpAny_isTrue_Compare1 (bF (h pins s σ H _ I hw) fun v s1 h1=>bF h1 fun u s2 h2=>bF h2 fun c s3 ⟨x,H1,I1,r1,q1⟩=>?_) h1
 obtain⟨d,rfl,q⟩:=q1
 cases r1
 exact wpAny_truthy_bool ⟨H1,I1,q⟩
theorem bC {e:Expr} {t:TE} (h:PE X e t) (he:∀whole,isTrue e X.env whole=(do let v <- whole;standAt e.pos;holding [v] (truthy v)):=by intro _;rfl):PT X e (tB t):=by
 intro pins s σ H Q I hw
 refine isTrue_plain (bF (h pins s σ H _ I hw) fun v s1 ⟨x,H1,I1,r1,q1⟩=>?_) (he _)
 obtain⟨d,rfl,q⟩:=q1
 cases r1
 exact wpAny_truthy_bool ⟨H1,I1,q⟩
variable {tA tB':TT} {dy:List Expr}
def Cm (t u:TT):TT:=fun σ H Q=>t σ H fun c H1=>if c=true then u σ H1 Q else Q false H1
def C9 (t u:TT):TT:=fun σ H Q=>t σ H fun c H1=>if c=true then Q true H1 else u σ H1 Q
def Cn (t:TT):TT:=fun σ H Q=>t σ H fun c H1=>Q (!c) H1
theorem j5 (ha:PT X a tA):PW X (.BoolOp .And [a] pos) tA:=by
 intro wh pins s σ H Q I h
 refine isTrue_and (bF (ha pins s σ H Q I h) fun c s1 e=>?_)
 cases c with
 | true=>exact isTrue_and_nil e
 | false=>exact e
theorem cR (ha:PT X a tA):PW X (.BoolOp .Or [a] pos) tA:=by
 intro wh pins s σ H Q I h
 refine isTrue_or (bF (ha pins s σ H Q I h) fun c s1 e=>?_)
 cases c with
 | false=>exact isTrue_or_nil e
 | true=>exact e
theorem ku (ha:PT X a tA) (hb:PW X (.BoolOp .And (b :: dy) pos) tB'):PW X (.BoolOp .And (a :: b :: dy) pos) (Cm tA tB'):=by
 intro wh pins s σ H Q I h
 refine isTrue_and (bF (ha pins s σ H _ I h) fun c s1 hq__=>?_)
 obtain⟨H1,I1,q1⟩:=hq__
 cases c with
 | true=>exact hb wh pins s1 σ H1 Q I1 q1
 | false=>exact⟨H1,I1,q1⟩
theorem cQ (ha:PT X a tA) (hb:PW X (.BoolOp .Or (b :: dy) pos) tB'):PW X (.BoolOp .Or (a :: b :: dy) pos) (C9 tA tB'):=by
 intro wh pins s σ H Q I h
 refine isTrue_or (bF (ha pins s σ H _ I h) fun c s1 hq__=>?_)
 obtain⟨H1,I1,q1⟩:=hq__
 cases c with
 | true=>exact⟨H1,I1,q1⟩
 | false=>exact hb wh pins s1 σ H1 Q I1 q1
theorem cw (ha:PT X a tA):PT X (.UnaryOp .Not a pos) (Cn tA):=by
 intro pins s σ H Q I h
 exact isTrue_not (ha pins s σ H (fun c H1=>Q (!c) H1) I h)
def A5 (ta tb:TE):TE:=fun σ H Q=>ta σ H fun x H1=>∃c,x= .bl c/\if c=true then tb σ H1 Q else Q (.bl false) H1
def Co (ta tb:TE):TE:=fun σ H Q=>ta σ H fun x H1=>∃c,x= .bl c/\if c=true then Q (.bl true) H1 else tb σ H1 Q
def A6 (ta:TE):TE:=fun σ H Q=>ta σ H fun x H1=>∃c,x= .bl c/\Q (.bl (!c)) H1
theorem i6 {op} {t:TE} (h:PE X a t):PE X (.BoolOp op [a] pos) t:=fun pins s σ H Q I hw=>BoolOp_one (h pins s σ H Q I hw)
theorem gX (ha:PE X a ta) (hb:PE X (.BoolOp .And (b :: dy) pos) tb):PE X (.BoolOp .And (a :: b :: dy) pos) (A5 ta tb):=by
 intro pins s σ H Q I h
 refine BoolOp_and (bF (ha pins s σ H _ I h) fun v s1 hq__=>?_)
 obtain⟨x,H1,I1,r1,q1⟩:=hq__
 obtain⟨c,rfl,q1⟩:=q1
 cases r1
 refine wpAny_truthy_bool ?_
 cases c with
 | true=>exact hb pins s1 σ H1 Q I1 q1
 | false=>exact⟨.bl false,H1,I1,rfl,q1⟩
theorem A7 (ha:PE X a ta) (hb:PE X (.BoolOp .Or (b :: dy) pos) tb):PE X (.BoolOp .Or (a :: b :: dy) pos) (Co ta tb):=by
 intro pins s σ H Q I h
 refine BoolOp_or (bF (ha pins s σ H _ I h) fun v s1 hq__=>?_)
 obtain⟨x,H1,I1,r1,q1⟩:=hq__
 obtain⟨c,rfl,q1⟩:=q1
 cases r1
 refine wpAny_truthy_bool ?_
 cases c with
 | false=>exact hb pins s1 σ H1 Q I1 q1
 | true=>exact⟨.bl true,H1,I1,rfl,q1⟩
theorem zM (ha:PE X a ta):PE X (.UnaryOp .Not a pos) (A6 ta):=by
 intro pins s σ H Q I h
 refine UnaryOp_ (bF (ha pins s σ H _ I h) fun v s1 hq__=>?_)
 obtain⟨x,H1,I1,r1,q1⟩:=hq__
 obtain⟨c,rfl,q1⟩:=q1
 cases r1
 exact not_of (wpAny_truthy_bool ⟨.bl (!c),H1,I1,rfl,q1⟩)
def Da (t:TT) (ta tb:TE):TE:=fun σ H Q=>t σ H fun c H1=>if c=true then ta σ H1 Q else tb σ H1 Q
theorem vm {c:Expr} (hc:PT X c tA) (ha:PE X a ta) (hb:PE X b tb):PE X (.IfExp c a b pos) (Da tA ta tb):=by
 intro pins s σ H Q I h
 refine wpAny_IfExp (bF (hc pins s σ H _ I h) fun d s1 hq__=>?_)
 obtain⟨H1,I1,q1⟩:=hq__
 cases d with
 | true=>exact ha pins s1 σ H1 Q I1 q1
 | false=>exact hb pins s1 σ H1 Q I1 q1
end
def SqL (K:PySem.W.Frag) (H:Hp) (a:Addr) (xs:List V):Prop:=
 Rd H a (.lst xs)\/
  ∃(o:Obj) (its:Array Value) (n:Nat),K.lookup a=some o/\o.cls= .type "list"/\o.dict=none/\o.data= .seq its n/\its.size<=sizeLine/\Vals xs its.toList
def SqT (K:PySem.W.Frag) (H:Hp) (a:Addr) (xs:List V):Prop:=
 Rd H a (.tup xs)\/
  ∃(o:Obj) (its:Array Value) (n:Nat),K.lookup a=some o/\o.cls= .type "tuple"/\o.data= .seq its n/\its.size<=sizeLine/\Vals xs its.toList
def Cp:Value->Option V
 | .none=>some .non
 | .bool b=>some (.bl b)
 | .int i _=>some (.int i)
 | .str x _=>some (.str x)
 | .bytes b _=>some (.byt b)
 | .float b _=>some (.flt b)
 | .ref a=>some (.ref a)
 | .type n=>some (.ty n)
 | _=>none
theorem RelV.abs {x:V} {u:Value} (r:RelV x u):Cp u=some x:=by
 cases x with
 | non=>cases r;rfl
 | bl _=>cases r;rfl
 | int _=>obtain⟨t,rfl⟩:=r;rfl
 | str _=>obtain⟨t,rfl⟩:=r;rfl
 | byt _=>obtain⟨t,rfl⟩:=r;rfl
 | flt _=>obtain⟨t,rfl⟩:=r;rfl
 | ref _=>cases r;rfl
 | ty _=>cases r;rfl
theorem RelV.inj {x y:V} {u:Value} (r:RelV x u) (q:RelV y u):x=y:=Option.some.inj (r.abs.symm.trans q.abs)
theorem Vals.inj:∀{xs ys:List V} {us:List Value},Vals xs us->Vals ys us->xs=ys:=by
 intro xs ys us h
 induction h generalizing ys with
 | nil=>intro h';cases h';rfl
 | cons r t ih=>
  intro h'
  cases h' with
  | cons r' t'=>rw[r.inj r',ih t']
section
variable {X:Cx} {pins:List (Addr×Obj)} {σ:St} {H:Hp} {s:Shared} {a:Addr} {xs ys:List V}
theorem SqL.of {K:PySem.W.Frag} (h:H a=some (.lst xs)):SqL K H a xs:= .inl (.inl h)
theorem SqT.of {K:PySem.W.Frag} (h:H a=some (.tup xs)):SqT K H a xs:= .inl (.inl h)
theorem Inv.list (I:Inv X pins σ H s) (h:SqL X.K H a xs):∃its:List Value,Vals xs its/\PlainL s.heap a its.toArray/\xs.length<=sizeLine:=by
 rcases h with h | ⟨o,its,n,hk,hc,hd,hs,hz,r⟩
 ·obtain⟨z,its,n,r,e⟩:=h.ok I.hok
  exact⟨its,r,⟨_,n,e,rfl,rfl,rfl⟩,z⟩
 ·refine⟨its.toList,r,⟨o,n,I.kIn a o hk,hc,hd,by simpa using hs⟩,?_⟩
  have e:=r.length
  simp only[Ep]at e
  omega
theorem Inv.tuple (I:Inv X pins σ H s) (h:SqT X.K H a xs):∃its:List Value,Vals xs its/\IsTup s.heap a its.toArray/\xs.length<=sizeLine:=by
 rcases h with h | ⟨o,its,n,hk,hc,hs,hz,r⟩
 ·obtain⟨z,its,r,p⟩:=h.ok I.hok
  exact⟨its,r,p,z⟩
 ·refine⟨its.toList,r,⟨o,I.kIn a o hk,hc,n,by simpa using hs⟩,?_⟩
  have e:=r.length
  simp only[Ep]at e
  omega
theorem Inv.list_inj (I:Inv X pins σ H s) (h:SqL X.K H a xs) (h':SqL X.K H a ys):xs=ys:=by
 obtain⟨its,r,⟨o,n,e,_,_,d⟩,_⟩:=I.list h
 obtain⟨its',r',⟨o',n',e',_,_,d'⟩,_⟩:=I.list h'
 rw[e]at e';cases e'
 rw[d]at d'
 injection d' with d1 _
 have:its=its':=by simpa using congrArg Array.toList d1
 subst this
 exact r.inj r'
theorem Inv.tuple_inj (I:Inv X pins σ H s) (h:SqT X.K H a xs) (h':SqT X.K H a ys):xs=ys:=by
 obtain⟨its,r,⟨o,e,_,n,d⟩,_⟩:=I.tuple h
 obtain⟨its',r',⟨o',e',_,n',d'⟩,_⟩:=I.tuple h'
 rw[e]at e';cases e'
 rw[d]at d'
 injection d' with d1 _
 have:its=its':=by simpa using congrArg Array.toList d1
 subst this
 exact r.inj r'
end
abbrev Cx.wish (X:Cx) (E:Value->Shared->Prop):Cx:={X with xe:=E}
abbrev Cx.nox (X:Cx):Cx:=X.wish fun _ _=>False
theorem Cx.Ok.wish {X:Cx} (ok:X.Ok) (E:Value->Shared->Prop):(X.wish E).Ok:=
 ⟨ok.mod,ok.kind,ok.glob,ok.blt,ok.above,ok.inj,ok.has,ok.cab,ok.hd,ok.frames,ok.stk,ok.exf,ok.bs,ok.bsz,ok.noex,ok.exfs,ok.funs,ok.frf⟩
theorem Cx.Ok.unwish {X:Cx} {E:Value->Shared->Prop} (ok:(X.wish E).Ok):X.Ok:=
 ⟨ok.mod,ok.kind,ok.glob,ok.blt,ok.above,ok.inj,ok.has,ok.cab,ok.hd,ok.frames,ok.stk,ok.exf,ok.bs,ok.bsz,ok.noex,ok.exfs,ok.funs,ok.frf⟩
section
variable {X:Cx} {pins:List (Addr×Obj)} {σ:St} {H:Hp} {s:Shared} {E:Value->Shared->Prop}
theorem Inv.wish (I:Inv X pins σ H s) (E:Value->Shared->Prop):Inv (X.wish E) pins σ H s:=⟨I.ok.wish E,I.os,I.bare,I.base,I.loc,I.cell,I.free,I.freeC,I.pin,I.hok,I.len⟩
theorem Inv.unwish (I:Inv (X.wish E) pins σ H s):Inv X pins σ H s:=⟨I.ok.unwish,I.os,I.bare,I.base,I.loc,I.cell,I.free,I.freeC,I.pin,I.hok,I.len⟩
theorem SP.unwish {D:Ends} {f:Flow} {s':Shared} (h:SP (X.wish E) pins D f s'):SP X pins D f s':=by
 cases f with
 | next=>obtain⟨σ',H',I,q⟩:=h;exact⟨σ',H',I.unwish,q⟩
 | brk=>obtain⟨σ',H',I,q⟩:=h;exact⟨σ',H',I.unwish,q⟩
 | cont=>obtain⟨σ',H',I,q⟩:=h;exact⟨σ',H',I.unwish,q⟩
 | ret u=>obtain⟨v,σ',H',I,r,q⟩:=h;exact⟨v,σ',H',I.unwish,r,q⟩
theorem PSs.nox {st:List Stmt} {t:TS} (h:PSs X.nox st t):PSs X st t:=fun pins s σ H D I hw=>
 wpAny_mono (h pins s σ H D (I.wish _) hw) (fun _ _ q=>q.unwish) fun _ _ z=>False.elim z
end
section
variable {X:Cx} {st:Stmt} {dy:List Stmt} {t u:TS} {e:Expr} {te:TE} {pos:Pos}
def A8:TS:=fun D σ H=>D.nx σ H
def Cq (t u:TS):TS:=fun D σ H=>t {D with nx:=u D} σ H
theorem aC:PSs X [] A8:=fun _ _ σ H _ I h=>wpAny_execs_nil ⟨σ,H,I,h⟩
theorem af (h1:PS X st t) (h2:PSs X dy u):PSs X (st :: dy) (Cq t u):=by
 intro pins s σ H D I h
 refine wpAny_execs_cons (bF (h1 pins s σ H {D with nx:=u D} I h) fun f s1 q=>?_)
 cases f with
 | next=>
  obtain⟨σ',H',I',q⟩:=q
  exact h2 pins s1 σ' H' D I' q
 | ret v=>exact q
 | brk=>exact q
 | cont=>exact q
theorem ag (h1:PS X st t):PSs X [st] t:=by
 intro pins s σ H D I h
 refine wpAny_execs_cons (bF (h1 pins s σ H D I h) fun f s1 q=>?_)
 cases f with
 | next=>exact wpAny_execs_nil q
 | ret v=>exact q
 | brk=>exact q
 | cont=>exact q
theorem Inv.quiet {pins:List (Addr×Obj)} {σ:St} {H:Hp} {s:Shared} (I:Inv X pins σ H s):interactive X.env=false:=by simp[interactive,I.ok.kind]
def A9 (te:TE):TS:=fun D σ H=>te σ H fun _ H1=>D.nx σ H1
theorem bZ (he:PE X e te) (hs:swapsWith e none pos.line X.env=pure false:=by rfl):PS X (.Expr e pos) (A9 te):=by
 intro pins s σ H D I h
 exact wpAny_Expr_any (bF (he pins s σ H _ I h) fun v s1 ⟨x,H1,I1,r1,q1⟩=>⟨σ,H1,I1,q1⟩) I.quiet hs
def Cr (te:TE):TS:=fun D σ H=>te σ H D.rt
theorem av (he:PE X e te):PS X (.Return (some e) pos) (Cr te):=by
 intro pins s σ H D I h
 exact wpAny_Return_some (bF (he pins s σ H _ I h) fun v s1 ⟨x,H1,I1,r1,q1⟩=>⟨x,σ,H1,I1,r1,q1⟩)
def Cs (c:TT) (t u:TS):TS:=fun D σ H=>c σ H fun b H1=>if b=true then t D σ H1 else u D σ H1
theorem aK {c:Expr} {a b:List Stmt} {tc:TT} (hc:PT X c tc) (ha:PSs X a t) (hb:PSs X b u):PS X (.If c a b pos) (Cs tc t u):=by
 intro pins s σ H D I h
 refine wpAny_If (bF (hc pins s σ H _ I h) fun d s1 hq__=>?_)
 obtain⟨H1,I1,q1⟩:=hq__
 cases d with
 | true=>exact ha pins s1 σ H1 D I1 q1
 | false=>exact hb pins s1 σ H1 D I1 q1
end
abbrev TG:=V->St->Hp->(St->Hp->Prop)->Prop
abbrev xG:=List V->St->Hp->(St->Hp->Prop)->Prop
def PG (X:Cx) (target:Expr) (t:TG):Prop:=
 ∀(pins:List (Addr×Obj)) (s:Shared) (σ:St) (H:Hp) (v:V) (u:Value) (Q:St->Hp->Prop),Inv X pins σ H s->RelV v u->t v σ H Q->
  wpAny (model X.prog X.w) X.A (assign target X.env u) (fun _ s'=>∃σ' H',Inv X pins σ' H' s'/\Q σ' H') X.xe s
def zN (X:Cx) (ts:List Expr) (t:xG):Prop:=
 ∀(pins:List (Addr×Obj)) (s:Shared) (σ:St) (H:Hp) (vs:List V) (us:List Value) (Q:St->Hp->Prop),Inv X pins σ H s->Vals vs us->t vs σ H Q->
  wpAny (model X.prog X.w) X.A (assignInOrder ((assignEach ts X.env).map (·.2)) us) (fun _ s'=>∃σ' H',Inv X pins σ' H' s'/\Q σ' H') X.xe s
abbrev zO:=V->V->V->Hp->(Hp->Prop)->Prop
def Ba (X:Cx) (t:zO):Prop:=
 ∀(pins:List (Addr×Obj)) (s:Shared) (σ:St) (H:Hp) (o i v:V) (ov iv u:Value) (Q:Hp->Prop),Inv X pins σ H s->RelV o ov->RelV i iv->RelV v u->t o i v H Q->
  wpAny (model X.prog X.w) X.A (setItem ov iv u) (fun _ s'=>∃H',Inv X pins σ H' s'/\Q H') X.xe s
section
variable {X:Cx} {pos:Pos}
def bS (i:Nat):TG:=fun v σ H Q=>Q (σ.set i (some v)) H
theorem ao {i:Nat} {x:Str} (hN:X.N.Nodup) (hi:X.N[i]?=some x) (hx:A3 X.env.scope x) (hf:X.fn x=true\/X.env.scope.names.lookup x=some .local:=by first | exact .inl rfl | exact .inr rfl | assumption):PG X (.Name x pos) (bS i):=by
 intro pins s σ H v u Q I r h
 exact wpAny_assign_Name (oH I hN hi hx r (fun s' I'=>⟨_,H,I',h⟩) hf)
def vn:xG:=fun vs σ H Q=>vs=[]/\Q σ H
def iD (t:TG) (u:xG):xG:=fun vs σ H Q=>∃v r,vs=v :: r/\t v σ H fun σ' H'=>u r σ' H' Q
theorem b3:zN X [] vn:=by
 intro pins s σ H vs us Q I r h
 obtain⟨e,h⟩:=h
 subst e
 cases r
 exact assignInOrder_nil ⟨σ,H,I,h⟩
theorem aD {e:Expr} {es:List Expr} {t:TG} {u:xG} (h1:PG X e t) (h2:zN X es u)
  (hs:(assignEach (e :: es) X.env).map (·.2)=assign e X.env :: (assignEach es X.env).map (·.2):=by rfl):zN X (e :: es) (iD t u):=by
 intro pins s σ H vs us Q I r h
 obtain⟨v,vr,e1,h⟩:=h
 subst e1
 cases r with
 | cons r rr=>
  rw[hs]
  refine assignInOrder_cons (bF (h1 pins s σ H _ _ _ I r h) fun _ s1 hq__=>?_)
  obtain⟨σ1,H1,I1,q1⟩:=hq__
  exact h2 pins s1 σ1 H1 _ _ Q I1 rr q1
def tM (K:PySem.W.Frag) (n:Nat) (t:xG):TG:=fun v σ H Q=>∃a xs,v= .ref a/\SqT K H a xs/\xs.length=n/\t xs σ H Q
theorem zP {es:List Expr} {k:Nat} {t:xG} {n:Nat} (hc:X.calm=true) (h:zN X es t)
  (hn:(assignEach es X.env).length=n:=by rfl) (hst:(assignEach es X.env).findIdx? (·.1)=none:=by rfl):PG X (.Tuple es k pos) (tM X.K n t):=by
 intro pins s σ H v u Q I r hw
 obtain⟨a,xs,e1,hq,hl,hw⟩:=hw
 subst e1
 cases r
 obtain⟨its,rv,ht,hz⟩:=I.tuple hq
 refine assign_Tuple_tuple (I.ok.hd hc) ht (by simp[hn,<- hl,rv.length]) hst fun h' hx=>?_
 have I1:Inv X pins σ H {s with heap:=h'}:=I.kept (t':=s.toks) fun b o e=>hx b o (Eb (Heap.lt_size e)) e
 exact h pins _ σ H xs _ Q I1 (by simpa using rv) hw
def Ct (to ti:TE) (t:zO):TG:=fun v σ H Q=>to σ H fun o H1=>ti σ H1 fun i H2=>t o i v H2 fun H3=>Q σ H3
theorem nJ {o i:Expr} {to ti:TE} {t:zO} (ho:PE X o to) (hi:PE X i ti) (hs:Ba X t)
  (ha:∀v,assign (.Subscript o i pos) X.env v=(do
   let ov <- holding [v] (eval o X.env)
   let iv <- holding [v,ov] (eval i X.env)
   standAt pos
   holding [v,ov,iv] (setItem ov iv v)
   release [v,ov,iv] []):=by intro _;rfl):PG X (.Subscript o i pos) (Ct to ti t):=by
 intro pins s σ H v u Q I r h
 rw[ha]
 refine wpAny_bind (wpAny_holding (bF (ho pins s σ H _ I h) fun ov s1 hq__=>?_))
 obtain⟨x,H1,I1,r1,q1⟩:=hq__
 refine wpAny_bind (wpAny_holding (bF (hi pins s1 σ H1 _ I1 q1) fun iv s2 hq__=>?_))
 obtain⟨y,H2,I2,r2,q2⟩:=hq__
 refine wpAny_bind (wpAny_standAt (wpAny_bind (wpAny_holding (bF (hs pins s2 σ H2 x y v ov iv u _ I2 r1 r2 r q2) fun _ s3 hq__=>?_))))
 obtain⟨H3,I3,q3⟩:=hq__
 exact wpAny_release ⟨σ,H3,I3,q3⟩
def zQ (te:TE) (g:TG):TS:=fun D σ H=>te σ H fun x H1=>g x σ H1 D.nx
theorem eE {tg e:Expr} {te:TE} {g:TG} (he:PE X e te) (hg:PG X tg g) (hs:swapsWithSole [tg] e pos.line X.env=pure false:=by rfl) (hw:swappedStores [tg] e X.env=pure none:=by rfl)
  (h1:(assignEach [tg] X.env).map (·.2)=[assign tg X.env]:=by rfl):PS X (.Assign [tg] e pos) (zQ te g):=by
 intro pins s σ H D I h
 refine wpAny_Assign_stores (bF (he pins s σ H _ I h) fun v s1 ⟨x,H1,I1,r1,q1⟩=>?_) hs hw
 rw[h1]
 exact bF (hg pins s1 σ H1 x v _ I1 r1 q1) fun _ s2 q=>q
theorem aA {i:Nat} {x:Str} {e:Expr} {te:TE} {pos':Pos} (hN:X.N.Nodup) (hi:X.N[i]?=some x) (hx:A3 X.env.scope x) (he:PE X e te) (hs:swapsWith e (some (.Name x pos')) pos.line X.env=pure false:=by rfl) (hf:X.fn x=true\/X.env.scope.names.lookup x=some .local:=by first | exact .inl rfl | exact .inr rfl | assumption):
  PS X (.Assign [.Name x pos'] e pos) (zQ te (bS i)):=by
 intro pins s σ H D I h
 refine wpAny_Assign_Name (bF (he pins s σ H _ I h) fun v s1 ⟨y,H1,I1,r1,q1⟩=>?_) hs
 exact oH I1 hN hi hx r1 (fun s2 I2=>⟨_,H1,I2,q1⟩) hf
end
section
variable {X:Cx} {pos:Pos}
def vo (c:TT) (tb:TS):TS:=fun D σ H=>∃W:Nat->St->Hp->Prop,(∃m,W m σ H)/\∀m σ H,W m σ H->
 c σ H fun b H1=>if b=true then ∃N:St->Hp->Prop,(∀σ' H',N σ' H'->∃m',m'<m/\W m' σ' H')/\tb {D with nx:=N,ct:=N,bk:=D.nx} σ H1 else D.nx σ H1
theorem vp {c:Expr} {body:List Stmt} {tc:TT} {tb:TS} (hp:PassesOwn (model X.prog X.w) X.A X.env X.xe) (hc:PT X c tc) (hb:PSs X body tb):PS X (.While c body [] pos) (vo tc tb):=by
 intro pins s σ H D I h
 obtain⟨W,⟨m0,w0⟩,turn⟩:=h
 refine wpAny_While (codeAny_whileLoop (fun n s'=>∃σ' H',Inv X pins σ' H' s'/\W n σ' H') ?_ m0 ⟨σ,H,I,w0⟩)
 rintro n s1 ⟨σ1,H1,I1,w1⟩
 refine wpAny_passesOwn hp (bF (hc pins s1 σ1 H1 _ I1 (turn n σ1 H1 w1)) fun b s2 hq__=>?_)
 obtain⟨H2,I2,q2⟩:=hq__
 cases b with
 | true=>
  obtain⟨N,hN,q2⟩:=q2
  rw[if_pos rfl]
  refine wpAny_passesOwn hp (bF (hb pins s2 σ1 H2 _ I2 q2) fun f s3 q3=>?_)
  cases f with
  | next=>
   obtain⟨σ3,H3,I3,n3⟩:=q3
   obtain⟨m',hm,w3⟩:=hN σ3 H3 n3
   exact⟨m',hm,σ3,H3,I3,w3⟩
  | cont=>
   obtain⟨σ3,H3,I3,n3⟩:=q3
   obtain⟨m',hm,w3⟩:=hN σ3 H3 n3
   exact⟨m',hm,σ3,H3,I3,w3⟩
  | brk=>exact q3
  | ret v=>exact q3
 | false=>
  rw[if_neg DU]
  exact wpAny_execs_nil ⟨σ1,H2,I2,q2⟩
end
structure It where
 go:Nat->Hp->Prop
 yld:Nat->Hp->V->Hp->Prop
 stop:Nat->Hp->Prop
def jR (X:Cx) (pins:List (Addr×Obj)) (H:Hp) (b:Addr):Prop:=
 H b=none/\b≠X.env.locals/\b∉X.fs/\(b∈X.ex\/X.s₀.heap.objs.size<=b)/\(∀x c,X.env.cells.lookup x=some c->c≠b)/\∀p∈X.pn++pins,p.1≠b
theorem Inv.fpOk {X:Cx} {pins:List (Addr×Obj)} {σ:St} {H H':Hp} {s:Shared} {b:Addr} (I:Inv X pins σ H s) (hb:s.heap.objs.size<=b) (hn:H' b=none):jR X pins H' b:=by
 refine⟨hn,FV (Em I.lt hb),I.nofs hb,.inr (Ek I.sz hb),fun x c e z=>?_,fun p hp z=>?_⟩
 ·obtain⟨v,q⟩:=I.cell x c e
  exact absurd (Em q.lt (by rw[z];exact hb)) (ER _)
 ·exact absurd (Em (Heap.lt_size (I.pin p hp).1) (by rw[z];exact hb)) (ER _)
structure Turn (P:Program) (w:World) (K:PySem.W.Frag) (tg:Expr) (J:It) (fp:List Addr) (it:Addr) (tn:Nat->Heap->Prop):Prop where
 mem:it∈fp
 obj:∀i h,tn i h->∀b∈fp,∃o,h.get? b=some o/\∀v,o.data≠ .cell v
 keep:∀i h h',tn i h->(∀b∈fp,∀o,h.get? b=some o->h'.get? b=some o)->tn i h'
 item:∀(X:Cx),X.prog=P->X.w=w->X.K=K->X.calm=true->∀(i:Nat) (pins:List (Addr×Obj)) (s:Shared) (σ:St) (H:Hp) (E:Value->Shared->Prop),Inv X pins σ H s->(∀b∈fp,jR X pins H b)->tn i s.heap->J.go i H->
  wpAny (model P w) X.A (pyNext (.ref it)) (fun r s1=>∃u,r=some u/\
   wpAny (model P w) X.A (letOwnedTupleGo tg (.ref it) u) (fun _ s2=>∃x H',Inv X pins σ H' s2/\RelV x u/\J.yld i H x H'/\tn (i+1) s2.heap/\∀b∈fp,H' b=none) E s1) E s
 done:∀(X:Cx),X.prog=P->X.w=w->X.K=K->X.calm=true->∀(i:Nat) (pins:List (Addr×Obj)) (s:Shared) (σ:St) (H:Hp) (E:Value->Shared->Prop),Inv X pins σ H s->(∀b∈fp,jR X pins H b)->tn i s.heap->J.stop i H->
  wpAny (model P w) X.A (pyNext (.ref it)) (fun r s1=>r=none/\Inv X pins σ H s1) E s
 self:∀(A:Around) (i:Nat) (s:Shared) (Q:Value->Shared->Prop) (E:Value->Shared->Prop),tn i s.heap->Q (.ref it) s->wpAny (model P w) A (pyIter (.ref it)) Q E s
abbrev TI:=St->Hp->(It->Hp->Prop)->Prop
def CW (X:Cx) (pins:List (Addr×Obj)) (σ:St) (tg:Expr) (R:It->Hp->Prop) (itv:Value) (s2:Shared):Prop:=
 ∃(it:Addr) (fp:List Addr) (tn:Nat->Heap->Prop) (J:It) (H':Hp),itv= .ref it/\Inv X pins σ H' s2/\Turn X.prog X.w X.K tg J fp it tn/\tn 0 s2.heap/\(∀b∈fp,jR X pins H' b)/\R J H'
def PI (X:Cx) (tg iter:Expr) (wi:TI):Prop:=
 ∀(pins:List (Addr×Obj)) (s:Shared) (σ:St) (H:Hp) (R:It->Hp->Prop),Inv X pins σ H s->wi σ H R->
  wpAny (model X.prog X.w) X.A (eval iter X.env) (fun v s1=>wpAny (model X.prog X.w) X.A (pyIter v) (CW X pins σ tg R) X.xe s1) X.xe s
theorem rF {M:Model} {A:Around} {E:Value->Shared->Prop} {s:Shared} {tg:Expr} {it:Addr} {u:Value} {o:Obj} {n:String} {vs:Array Value} {Q:Unit->Shared->Prop} (ho:s.heap.get? it=some o) (hc:o.cls= .type n) (hd:o.data= .fields vs)
    (hn:["enumerate","zip","dict_itemiterator","dict_reverseitemiterator","odict_iterator","itertools.zip_longest","itertools.pairwise"].contains n=false) (hQ:Q () s):wpAny M A (letOwnedTupleGo tg (.ref it) u) Q E s:=by
  unfold letOwnedTupleGo
  cases tg<;>first
    | exact wpAny_pure hQ
    | (cases u<;>first
        | exact wpAny_pure hQ
        | (refine wpAny_bind (wpAny_load ho ?_)
           rw[hc,hd]
           show wpAny M A (if(["enumerate","zip","dict_itemiterator","dict_reverseitemiterator","odict_iterator","itertools.zip_longest","itertools.pairwise"].contains n&&vs[0]?==some (rawInt _))=true then _ else _) Q E s
           rw[if_neg (by intro h;rw[hn,FX]at h;cases h)]
           exact wpAny_pure hQ))
def oI (K:PySem.W.Frag) (a:Addr):It:=
 ⟨fun i H=>∃xs x,SqL K H a xs/\xs[i]?=some x,fun i H x H'=>H'=H/\∀xs,SqL K H a xs->xs[i]?=some x,fun i H=>∃xs,SqL K H a xs/\xs.length<=i⟩
def zo (K:PySem.W.Frag) (a:Addr):It:=
 ⟨fun i H=>∃xs x,SqT K H a xs/\xs[i]?=some x,fun i H x H'=>H'=H/\∀xs,SqT K H a xs->xs[i]?=some x,fun i H=>∃xs,SqT K H a xs/\xs.length<=i⟩
def rG (lo:Int) (n:Nat):It:=⟨fun i _=>i<n,fun i H x H'=>H'=H/\x= .int (lo+i),fun i _=>n<=i⟩
theorem mH {P:Program} {w:World} {K:PySem.W.Frag} {tg:Expr} (a it:Addr):Turn P w K tg (oI K a) [it] it (fun i h=>h.IsListIter it a i) where
 mem:=by simp
 obj:=fun i h st b hb=>by
  have e:b=it:=by simpa using hb
  subst e
  obtain⟨o,e,c,d⟩:=st
  exact⟨o,e,fun v z=>by rw[d]at z;cases z⟩
 keep:=fun i h h' st k=>st.at fun o e=>k it (by simp) o e
 item:=by
  intro X hP hw hK hc i pins s σ H E I hf st hg
  subst hP hw hK
  obtain⟨xs,x,hq,hx⟩:=hg
  obtain⟨its,rv,p,hz⟩:=I.list hq
  obtain⟨u,hu,ru⟩:=rv.get hx
  obtain⟨f0,f1,f2,f3,f4,f5⟩:=hf it (by simp)
  refine wpAny_pyNext_list_item st p.isList (x:=u) (by simpa using hu) fun h' st' sb=>?_
  have I1:Inv X pins σ H {s with heap:=h'}:=I.turned (t':=s.toks) (fun b o hb e=>(sb.2 b hb).trans e) f0 f1 f3 f4 f5
  obtain⟨o,e,c,d⟩:=id st'
  exact⟨u,rfl,rF (s:={s with heap:=h'}) e c d (by decide) ⟨x,H,I1,ru,⟨rfl,fun ys hy=>by rw[I.list_inj hy hq];exact hx⟩,st',fun b hb=>(hf b hb).1⟩⟩
 done:=by
  intro X hP hw hK hc i pins s σ H E I hf st hg
  subst hP hw hK
  obtain⟨xs,hq,hx⟩:=hg
  obtain⟨its,rv,p,hz⟩:=I.list hq
  obtain⟨f0,f1,f2,f3,f4,f5⟩:=hf it (by simp)
  have hl:=rv.length
  exact wpAny_pyNext_list_end (I.ok.hd hc) st p.isList (by simp;omega) fun h' eb=>⟨rfl,I.turned (t':=s.toks) (fun b o hb e=>eb b o hb e) f0 f1 f3 f4 f5⟩
 self:=fun _ _ _ _ _ st h=>wpAny_pyIter_listiter st h
theorem kA {P:Program} {w:World} {K:PySem.W.Frag} {tg:Expr} (a it:Addr):Turn P w K tg (zo K a) [it] it (fun i h=>h.IsTupleIter it a i) where
 mem:=by simp
 obj:=fun i h st b hb=>by
  have e:b=it:=by simpa using hb
  subst e
  obtain⟨o,e,c,d⟩:=st
  exact⟨o,e,fun v z=>by rw[d]at z;cases z⟩
 keep:=fun i h h' st k=>st.at fun o e=>k it (by simp) o e
 item:=by
  intro X hP hw hK hc i pins s σ H E I hf st hg
  subst hP hw hK
  obtain⟨xs,x,hq,hx⟩:=hg
  obtain⟨its,rv,p,hz⟩:=I.tuple hq
  obtain⟨u,hu,ru⟩:=rv.get hx
  obtain⟨f0,f1,f2,f3,f4,f5⟩:=hf it (by simp)
  refine wpAny_pyNext_tuple_item st (show s.heap.IsTuple a its.toArray from p) (x:=u) (by simpa using hu) fun h' st' sb=>?_
  have I1:Inv X pins σ H {s with heap:=h'}:=I.turned (t':=s.toks) (fun b o hb e=>(sb.2 b hb).trans e) f0 f1 f3 f4 f5
  obtain⟨o,e,c,d⟩:=id st'
  exact⟨u,rfl,rF (s:={s with heap:=h'}) e c d (by decide) ⟨x,H,I1,ru,⟨rfl,fun ys hy=>by rw[I.tuple_inj hy hq];exact hx⟩,st',fun b hb=>(hf b hb).1⟩⟩
 done:=by
  intro X hP hw hK hc i pins s σ H E I hf st hg
  subst hP hw hK
  obtain⟨xs,hq,hx⟩:=hg
  obtain⟨its,rv,p,hz⟩:=I.tuple hq
  obtain⟨f0,f1,f2,f3,f4,f5⟩:=hf it (by simp)
  have hl:=rv.length
  exact wpAny_pyNext_tuple_end (I.ok.hd hc) st (show s.heap.IsTuple a its.toArray from p) (by simp;omega) fun h' eb=>⟨rfl,I.turned (t':=s.toks) (fun b o hb e=>eb b o hb e) f0 f1 f3 f4 f5⟩
 self:=fun _ _ _ _ _ st h=>wpAny_pyIter_tupleiter st h
theorem qi {P:Program} {w:World} {K:PySem.W.Frag} {tg:Expr} (it:Addr) (lo:Int) (n:Nat):Turn P w K tg (rG lo n) [it] it (fun i h=>IsRangeIter h it (lo+(i:Nat)*1) ((n:Int)-(i:Nat)) 1) where
 mem:=by simp
 obj:=fun i h st b hb=>by
  have e:b=it:=by simpa using hb
  subst e
  exact⟨_,st,fun v z=>by
   have z':Data.fields _=Data.cell v:=z
   cases z'⟩
 keep:=fun i h h' st k=>k it (by simp) _ st
 item:=by
  intro X hP hw hK hc i pins s σ H E I hf st hg
  subst hP hw hK
  obtain⟨f0,f1,f2,f3,f4,f5⟩:=hf it (by simp)
  have W:=Walks.range (prog:=X.prog) (w:=X.w) (I.ok.hd hc) it lo 1 n
  refine W.item i s _ _ hg st fun v h' tk hv st' kk=>?_
  obtain⟨t,rfl⟩:=hv
  have I1:Inv X pins σ H {s with heap:=h',toks:=tk}:=I.turned (fun b o hb e=>kk b o (by simpa using hb) e) f0 f1 f3 f4 f5
  refine⟨_,rfl,rF (s:={s with heap:=h',toks:=tk}) (n:="range_iterator") st' rfl rfl (by decide) ⟨.int (lo+i),H,I1,⟨t,?_⟩,⟨rfl,rfl⟩,st',fun b hb=>(hf b hb).1⟩⟩
  rw[Int.mul_one]
 done:=by
  intro X hP hw hK hc i pins s σ H E I hf st hg
  subst hP hw hK
  obtain⟨f0,f1,f2,f3,f4,f5⟩:=hf it (by simp)
  exact wpAny_pyNext_range_end (I.ok.hd hc) st (by have:n<=i:=hg;omega) fun h' eb=>⟨rfl,I.turned (t':=s.toks) (fun b o hb e=>eb b o hb e) f0 f1 f3 f4 f5⟩
 self:=fun _ _ _ _ _ st h=>wpAny_pyIter_rangeiter st h
section
variable {X:Cx} {tg:Expr}
def zp (K:PySem.W.Frag) (tl:TE):TI:=fun σ H R=>tl σ H fun x H1=>∃a,x= .ref a/\(∃xs,SqL K H1 a xs)/\R (oI K a) H1
def Bb (K:PySem.W.Frag) (tl:TE):TI:=fun σ H R=>tl σ H fun x H1=>∃a,x= .ref a/\(∃xs,SqT K H1 a xs)/\R (zo K a) H1
theorem xN {l:Expr} {tl:TE} (hl:PE X l tl):PI X tg l (zp X.K tl):=by
 intro pins s σ H R I h
 refine bF (hl pins s σ H _ I h) fun v s1 hq__=>?_
 obtain⟨x,H1,I1,r1,q1⟩:=hq__
 obtain⟨a,e,⟨xs,hq⟩,q⟩:=q1
 subst e
 cases r1
 obtain⟨its,rv,p,hz⟩:=I1.list hq
 refine wpAny_pyIter_list p.isList ?_
 refine⟨s1.heap.objs.size,[s1.heap.objs.size],_,_,H1,rfl,I1.kept (t':=s1.toks) fun b o e=>Heap.get?_push_of_some _ e,mH a _,⟨_,Heap.get?_push_size _ rfl,rfl,rfl⟩,fun b hb=>?_,q⟩
 have e:b=s1.heap.objs.size:=by simpa using hb
 subst e
 exact I1.fpOk (DS _) (I1.hok.fresh (DS _))
theorem zR {l:Expr} {tl:TE} (hl:PE X l tl):PI X tg l (Bb X.K tl):=by
 intro pins s σ H R I h
 refine bF (hl pins s σ H _ I h) fun v s1 hq__=>?_
 obtain⟨x,H1,I1,r1,q1⟩:=hq__
 obtain⟨a,e,⟨xs,hq⟩,q⟩:=q1
 subst e
 cases r1
 obtain⟨its,rv,p,hz⟩:=I1.tuple hq
 refine wpAny_pyIter_tuple (show s1.heap.IsTuple a its.toArray from p) ?_
 refine⟨s1.heap.objs.size,[s1.heap.objs.size],_,_,H1,rfl,I1.kept (t':=s1.toks) fun b o e=>Heap.get?_push_of_some _ e,kA a _,⟨_,Heap.get?_push_size _ rfl,rfl,rfl⟩,fun b hb=>?_,q⟩
 have e:b=s1.heap.objs.size:=by simpa using hb
 subst e
 exact I1.fpOk (DS _) (I1.hok.fresh (DS _))
theorem vq {pins:List (Addr×Obj)} {σ:St} {H:Hp} {s:Shared} {R:It->Hp->Prop} {E:Value->Shared->Prop} {lo hi:Int} {t u v:Tok} {tk:Nat} (I:Inv X pins σ H s) (h1: -(2^62)<=lo) (h2:lo<2^62) (h3: -(2^62)<=hi) (h4:hi<2^62)
  (q:R (rG lo (hi-lo).toNat) H):wpAny (model X.prog X.w) X.A (pyIter (.ref s.heap.objs.size)) (CW X pins σ tg R) E {s with heap:=s.heap.push {cls:= .type "range",data:= .fields #[.int lo t,.int hi u,.int 1 v]},toks:=tk}:=by
 refine wpAny_pyIter_range (IsRange.new ..) (small_one h1 h2 h3 h4) ?_
 have I1:Inv X pins σ H {s with heap:=s.heap.push {cls:= .type "range",data:= .fields #[.int lo t,.int hi u,.int 1 v]},toks:=tk}:=I.kept fun b o e=>Heap.get?_push_of_some _ e
 refine⟨(s.heap.push {cls:= .type "range",data:= .fields #[.int lo t,.int hi u,.int 1 v]}).objs.size,[(s.heap.push {cls:= .type "range",data:= .fields #[.int lo t,.int hi u,.int 1 v]}).objs.size],_,_,H,rfl,
  I1.kept (t':=tk) fun b o e=>Heap.get?_push_of_some _ e,qi _ lo (hi-lo).toNat,?_,fun b hb=>?_,q⟩
 ·have e1:lo+((0:Nat):Int)*1=lo:=by simp
  have e2:(((hi-lo).toNat:Nat):Int)-((0:Nat):Int)=Builtin.Range.rangeSize lo hi 1:=by rw[rangeSize_one];split<;>omega
  show IsRangeIter _ _ (lo+((0:Nat):Int)*1) ((((hi-lo).toNat:Nat):Int)-((0:Nat):Int)) 1
  rw[e1,e2]
  exact Heap.get?_push_size _ rfl
 ·have e:b=(s.heap.push {cls:= .type "range",data:= .fields #[.int lo t,.int hi u,.int 1 v]}).objs.size:=by simpa using hb
  subst e
  exact I1.fpOk (DS _) (I1.hok.fresh (DS _))
def Bc (ta:TA):TI:=fun σ H R=>ta σ H fun vs H1=>∃j:Int,vs=[.int j]/\ -(2^62)<=j/\j<2^62/\R (rG 0 j.toNat) H1
theorem aM {a:Expr} {ta:TA} {p pos:Pos} (hg:Gl X "range") (hm:X.mg "range"=none) (ha:PA X [a] ta) (hs:starEach [a] X.env=[(false,eval a X.env)]:=by rfl):PI X tg (.Call (.Name "range" p) [a] [] pos) (Bc ta):=by
 intro pins s σ H R I h
 refine Call_ (gU I hg hm boot_range (PyProof.Rows.callWith_type1 (bF (ha pos pins s σ H _ I h) fun us s1 ⟨vs,H1,I1,r1,q1⟩=>?_) hs rfl))
 obtain⟨j,e,q1,q2,q⟩:=q1
 subst e
 cases r1 with
 | cons r rr=>
  cases rr
  obtain⟨t,rfl⟩:=r
  exact call_range_1 (vq I1 (by omega) (by omega) q1 q2 (by simpa using q))
def Cu (wi:TI) (g:TG) (tb:TS):TS:=fun D σ H=>wi σ H fun J H1=>∃W:Nat->Nat->St->Hp->Prop,(∃m,W 0 m σ H1)/\∀i m σ H,W i m σ H->
 (J.stop i H/\D.nx σ H)\/(J.go i H/\∃N:St->Hp->Prop,(∀σ' H',N σ' H'->∃m',m'<m/\W (i+1) m' σ' H')/\∀x H',J.yld i H x H'->g x σ H' fun σ2 H2=>tb {D with nx:=N,ct:=N,bk:=D.nx} σ2 H2)
def i7 (fp:List Addr) (h:Heap):List (Addr×Obj):=fp.filterMap fun b=>(h.get? b).map fun o=>(b,o)
theorem cS {fp:List Addr} {h:Heap} {b:Addr} {o:Obj} (hb:b∈fp) (e:h.get? b=some o):(b,o)∈i7 fp h:=F9.mpr ⟨b,hb,by rw[e];rfl⟩
theorem tN {fp:List Addr} {h:Heap} {p:Addr×Obj} (hp:p∈i7 fp h):p.1∈fp/\h.get? p.1=some p.2:=by
 obtain⟨b,hb,e⟩:=F9.mp hp
 cases q:h.get? b with
 | none=>rw[q]at e;cases e
 | some o=>
  rw[q]at e
  have e':(b,o)=p:=Option.some.inj e
  subst e'
  exact⟨hb,q⟩
theorem Inv.pinned {pins:List (Addr×Obj)} {σ:St} {H:Hp} {s:Shared} {fp:List Addr} (I:Inv X pins σ H s) (hf:∀b∈fp,jR X pins H b) (ho:∀b∈fp,∃o,s.heap.get? b=some o/\∀v,o.data≠ .cell v):Inv X (pins++i7 fp s.heap) σ H s:=
 I.pins_of fun p hp=>(Eg.mp hp).elim (fun z=>I.pin p (Eh _ z)) fun z=>by
  obtain⟨hb,e⟩:=tN z
  obtain⟨f0,f1,f2,_⟩:=hf p.1 hb
  obtain⟨o,e',d⟩:=ho p.1 hb
  rw[e]at e';cases e'
  exact⟨e,f0,f1,f2,d⟩
theorem Inv.unpinned {pins pl:List (Addr×Obj)} {σ:St} {H:Hp} {s:Shared} (I:Inv X (pins++pl) σ H s):Inv X pins σ H s:=I.pins_of fun p hp=>I.pin p (Eh _ (Es _ hp))
theorem aY {iter:Expr} {body:List Stmt} {wi:TI} {g:TG} {tb:TS} {pos:Pos} (hp:PassesOwn (model X.prog X.w) X.A X.env X.xe) (hc:X.calm=true) (hi:PI X tg iter wi) (hg:PG X tg g) (hb:PSs X body tb)
  (hs:∀x,foldedSetIterable iter X.env x=pure x:=by intro _;rfl):PS X (.For tg iter body [] pos) (Cu wi g tb):=by
 intro pins s σ H D I h
 refine wpAny_For (bF (hi pins s σ H _ I h) fun v s1 h1=>bF h1 fun itv s2 h2=>?_) hs
 obtain⟨it,fp,tn,J,H2,e,I2,T,st2,f2,W,⟨m0,w0⟩,turn⟩:=h2
 subst e
 have stat:∀{H':Hp},(∀b∈fp,H' b=none)->∀b∈fp,jR X pins H' b:=fun hn b hb=>⟨hn b hb,(f2 b hb).2⟩
 refine codeAny_forLoop_any (fun n s'=>∃i σ' H',Inv X pins σ' H' s'/\tn i s'.heap/\(∀b∈fp,H' b=none)/\W i n σ' H') ?_ m0 ⟨0,σ,H2,I2,st2,fun b hb=>(f2 b hb).1,w0⟩
 rintro n s3 ⟨i,σ3,H3,I3,st3,fr3,w3⟩
 rcases turn i n σ3 H3 w3 with⟨stop,qn⟩ | ⟨go,N,hN,step⟩
 ·refine wpAny_passesOwn hp (bF (T.done X rfl rfl rfl hc i pins s3 σ3 H3 X.xe I3 (stat fr3) st3 stop) fun r s4 hq__=>?_)
  obtain⟨hr,I4⟩:=hq__
  subst hr
  exact wpAny_execs_nil ⟨σ3,H3,I4,qn⟩
 ·refine wpAny_passesOwn hp (bF (T.item X rfl rfl rfl hc i pins s3 σ3 H3 X.xe I3 (stat fr3) st3 go) fun r s4 hq__=>?_)
  obtain⟨u,hr,h4⟩:=hq__
  subst hr
  refine wpAny_passesOwn hp (bF h4 fun _ s5 hq__=>?_)
  obtain⟨x,H5,I5,r5,y5,st5,fr5⟩:=hq__
  have I5':=I5.pinned (stat fr5) (T.obj _ _ st5)
  refine wpAny_passesOwn hp (bF (hg _ s5 σ3 H5 x u _ I5' r5 (step x H5 y5)) fun _ s6 hq__=>?_)
  obtain⟨σ6,H6,I6,q6⟩:=hq__
  refine wpAny_passesOwn hp (bF (hb _ s6 σ6 H6 _ I6 q6) fun f s7 q7=>?_)
  have again:∀{σ7:St} {H7:Hp},Inv X (pins++i7 fp s5.heap) σ7 H7 s7->N σ7 H7->∃m,m<n/\∃i σ' H',Inv X pins σ' H' s7/\tn i s7.heap/\(∀b∈fp,H' b=none)/\W i m σ' H':=fun {σ7 H7} I7 n7=>by
   obtain⟨m',hm,w7⟩:=hN σ7 H7 n7
   refine⟨m',hm,i+1,σ7,H7,I7.unpinned,T.keep _ _ _ st5 fun b hb o e=>(I7.pin (b,o) (Eh _ (Eh _ (cS hb e)))).1,fun b hb=>?_,w7⟩
   obtain⟨o,e,d⟩:=T.obj _ _ st5 b hb
   exact(I7.pin (b,o) (Eh _ (Eh _ (cS hb e)))).2.1
  cases f with
  | next=>obtain⟨σ7,H7,I7,n7⟩:=q7;exact again I7 n7
  | cont=>obtain⟨σ7,H7,I7,n7⟩:=q7;exact again I7 n7
  | brk=>obtain⟨σ7,H7,I7,q7⟩:=q7;exact⟨σ7,H7,I7.unpinned,q7⟩
  | ret v=>obtain⟨x7,σ7,H7,I7,r7,q7⟩:=q7;exact⟨x7,σ7,H7,I7.unpinned,r7,q7⟩
end
theorem be {K:PySem.W.Frag} {a:Addr} {xs:List V} {g:TG} {tb:TS} {D:Ends} {σ:St} {H:Hp} (Pv:Nat->St->Hp->Prop) (h0:Pv 0 σ H) (hl:∀i σ H,i<=xs.length->Pv i σ H->SqL K H a xs)
  (hs:∀i x σ H,xs[i]?=some x->Pv i σ H->g x σ H fun σ2 H2=>tb {D with nx:=Pv (i+1),ct:=Pv (i+1),bk:=D.nx} σ2 H2) (hd:∀σ H,Pv xs.length σ H->D.nx σ H):
  ∃W:Nat->Nat->St->Hp->Prop,(∃m,W 0 m σ H)/\∀i m σ H,W i m σ H->
   ((oI K a).stop i H/\D.nx σ H)\/((oI K a).go i H/\∃N:St->Hp->Prop,(∀σ' H',N σ' H'->∃m',m'<m/\W (i+1) m' σ' H')/\∀x H',(oI K a).yld i H x H'->g x σ H' fun σ2 H2=>tb {D with nx:=N,ct:=N,bk:=D.nx} σ2 H2):=by
 refine⟨fun i m σ H=>m=xs.length-i/\i<=xs.length/\Pv i σ H,⟨xs.length,by simp,Eo _,h0⟩,?_⟩
 rintro i m σ H ⟨rfl,hi,p⟩
 have q:=hl i σ H hi p
 by_cases hlt:i<xs.length
 ·refine .inr ⟨⟨xs,xs[i],q,by simp[hlt]⟩,Pv (i+1),fun σ' H' p'=>⟨xs.length-(i+1),EO _ _ hlt,rfl,hlt,p'⟩,fun x H' y=>?_⟩
  obtain⟨e,y⟩:=y
  subst e
  exact hs i x σ _ (y xs q) p
 ·have e:i=xs.length:=Ff hi (E5 hlt)
  subst e
  exact .inl ⟨⟨xs,q,DS _⟩,hd σ H p⟩
theorem xO {K:PySem.W.Frag} {a:Addr} {xs:List V} {g:TG} {tb:TS} {D:Ends} {σ:St} {H:Hp} (Pv:Nat->St->Hp->Prop) (h0:Pv 0 σ H) (hl:∀i σ H,i<=xs.length->Pv i σ H->SqT K H a xs)
  (hs:∀i x σ H,xs[i]?=some x->Pv i σ H->g x σ H fun σ2 H2=>tb {D with nx:=Pv (i+1),ct:=Pv (i+1),bk:=D.nx} σ2 H2) (hd:∀σ H,Pv xs.length σ H->D.nx σ H):
  ∃W:Nat->Nat->St->Hp->Prop,(∃m,W 0 m σ H)/\∀i m σ H,W i m σ H->
   ((zo K a).stop i H/\D.nx σ H)\/((zo K a).go i H/\∃N:St->Hp->Prop,(∀σ' H',N σ' H'->∃m',m'<m/\W (i+1) m' σ' H')/\∀x H',(zo K a).yld i H x H'->g x σ H' fun σ2 H2=>tb {D with nx:=N,ct:=N,bk:=D.nx} σ2 H2):=by
 refine⟨fun i m σ H=>m=xs.length-i/\i<=xs.length/\Pv i σ H,⟨xs.length,by simp,Eo _,h0⟩,?_⟩
 rintro i m σ H ⟨rfl,hi,p⟩
 have q:=hl i σ H hi p
 by_cases hlt:i<xs.length
 ·refine .inr ⟨⟨xs,xs[i],q,by simp[hlt]⟩,Pv (i+1),fun σ' H' p'=>⟨xs.length-(i+1),EO _ _ hlt,rfl,hlt,p'⟩,fun x H' y=>?_⟩
  obtain⟨e,y⟩:=y
  subst e
  exact hs i x σ _ (y xs q) p
 ·have e:i=xs.length:=Ff hi (E5 hlt)
  subst e
  exact .inl ⟨⟨xs,q,DS _⟩,hd σ H p⟩
theorem cE {lo:Int} {n:Nat} {g:TG} {tb:TS} {D:Ends} {σ:St} {H:Hp} (Pv:Nat->St->Hp->Prop) (h0:Pv 0 σ H)
  (hs:∀i σ H,i<n->Pv i σ H->g (.int (lo+i)) σ H fun σ2 H2=>tb {D with nx:=Pv (i+1),ct:=Pv (i+1),bk:=D.nx} σ2 H2) (hd:∀σ H,Pv n σ H->D.nx σ H):
  ∃W:Nat->Nat->St->Hp->Prop,(∃m,W 0 m σ H)/\∀i m σ H,W i m σ H->
   ((rG lo n).stop i H/\D.nx σ H)\/((rG lo n).go i H/\∃N:St->Hp->Prop,(∀σ' H',N σ' H'->∃m',m'<m/\W (i+1) m' σ' H')/\∀x H',(rG lo n).yld i H x H'->g x σ H' fun σ2 H2=>tb {D with nx:=N,ct:=N,bk:=D.nx} σ2 H2):=by
 refine⟨fun i m σ H=>m=n-i/\i<=n/\Pv i σ H,⟨n,by simp,Eo _,h0⟩,?_⟩
 rintro i m σ H ⟨rfl,hi,p⟩
 by_cases hlt:i<n
 ·refine .inr ⟨hlt,Pv (i+1),fun σ' H' p'=>⟨n-(i+1),EO _ _ hlt,rfl,hlt,p'⟩,fun x H' y=>?_⟩
  obtain⟨e,y⟩:=y
  subst e y
  exact hs i σ _ hlt p
 ·have e:i=n:=Ff hi (E5 hlt)
  subst e
  exact .inl ⟨DS _,hd σ H p⟩
theorem vt {c:TT} {tb:TS} {D:Ends} {σ:St} {H:Hp} (Pv:St->Hp->Prop) (μ:St->Hp->Nat) (h0:Pv σ H)
  (hs:∀σ H,Pv σ H->c σ H fun b H1=>if b=true then tb {D with nx:=fun σ' H'=>Pv σ' H'/\μ σ' H'<μ σ H,ct:=fun σ' H'=>Pv σ' H'/\μ σ' H'<μ σ H,bk:=D.nx} σ H1 else D.nx σ H1)
  (mono:∀σ H Q Q',(∀b H1,Q b H1->Q' b H1)->c σ H Q->c σ H Q'):vo c tb D σ H:=by
 refine⟨fun m σ H=>m=μ σ H/\Pv σ H,⟨_,rfl,h0⟩,?_⟩
 rintro m σ H ⟨rfl,p⟩
 refine mono σ H _ _ (fun b H1 q=>?_) (hs σ H p)
 cases b with
 | true=>exact⟨_,fun σ' H' ⟨p',l⟩=>⟨_,l,rfl,p'⟩,q⟩
 | false=>exact q
abbrev R2:=V->V->Hp->VK->Prop
def gu (X:Cx) (f:Value->Value->Sem Value) (r:R2):Prop:=
 ∀(pins:List (Addr×Obj)) (s:Shared) (σ:St) (H:Hp) (x y:V) (v u:Value) (Q:VK),Inv X pins σ H s->RelV x v->RelV y u->r x y H Q->
  wpAny (model X.prog X.w) X.A (f v u) (EP X pins σ Q) X.xe s
def B0 (X:Cx) (f:Value->Sem Value) (r:V->Hp->VK->Prop):Prop:=
 ∀(pins:List (Addr×Obj)) (s:Shared) (σ:St) (H:Hp) (x:V) (v:Value) (Q:VK),Inv X pins σ H s->RelV x v->r x H Q->
  wpAny (model X.prog X.w) X.A (f v) (EP X pins σ Q) X.xe s
def cu (X:Cx) (f:Value) (r:List V->Hp->VK->Prop):Prop:=
 ∀(pins:List (Addr×Obj)) (s:Shared) (σ:St) (H:Hp) (xs:List V) (us:List Value) (Q:VK),Inv X pins σ H s->Vals xs us->r xs H Q->
  wpAny (model X.prog X.w) X.A (call f us) (EP X pins σ Q) X.xe s
def Cv (X:Cx) (r:V->Hp->(Bool->Hp->Prop)->Prop):Prop:=
 ∀(pins:List (Addr×Obj)) (s:Shared) (σ:St) (H:Hp) (x:V) (v:Value) (Q:Bool->Hp->Prop),Inv X pins σ H s->RelV x v->r x H Q->
  wpAny (model X.prog X.w) X.A (truthy v) (TP X pins σ Q) X.xe s
def B1 (r:R2) (ta tb:TE):TE:=fun σ H Q=>ta σ H fun x H1=>tb σ H1 fun y H2=>r x y H2 Q
def Dc (r:V->Hp->VK->Prop) (ta:TE):TE:=fun σ H Q=>ta σ H fun x H1=>r x H1 Q
def rI (C:Int->Int->Prop) (g:Int->Int->V):R2:=fun x y H Q=>∃i j,x= .int i/\y= .int j/\C i j/\Q (g i j) H
def zq (g:Int->Int->V):R2:=fun x y H Q=>∃i j,x= .int i/\y= .int j/\Q (g i j) H
def rU (g:Int->V):V->Hp->VK->Prop:=fun x H Q=>∃i,x= .int i/\Q (g i) H
section
variable {X:Cx} {a b c:Expr} {ta tb tc:TE} {pos:Pos}
theorem zS (ha:PE X a ta) (hb:PE X b tb) {pins:List (Addr×Obj)} {s:Shared} {σ:St} {H:Hp} {R:V->V->Hp->Prop} (I:Inv X pins σ H s)
  (h:ta σ H fun x H1=>tb σ H1 fun y H2=>R x y H2) {Q:Value->Shared->Prop} {f:Value->Value->Sem Value}
  (hf:∀v u s2 x y H2,Inv X pins σ H2 s2->RelV x v->RelV y u->R x y H2->wpAny (model X.prog X.w) X.A (f v u) Q X.xe s2):
  wpAny (model X.prog X.w) X.A (eval a X.env) (fun v s₁=>wpAny (model X.prog X.w) X.A (eval b X.env) (fun u s₂=>wpAny (model X.prog X.w) X.A (f v u) Q X.xe s₂) X.xe s₁) X.xe s:=by
 refine bF (ha pins s σ H _ I h) fun v s1 hq__=>?_
 obtain⟨x,H1,I1,r1,q1⟩:=hq__
 refine bF (hb pins s1 σ H1 _ I1 q1) fun u s2 hq__=>?_
 obtain⟨y,H2,I2,r2,q2⟩:=hq__
 exact hf v u s2 x y H2 I2 r1 r2 q2
theorem aB {op:Operator} {r:R2} (ho:gu X (binaryOp op) r) (ha:PE X a ta) (hb:PE X b tb):PE X (.BinOp a op b pos) (B1 r ta tb):=by
 intro pins s σ H Q I h
 exact wpAny_BinOp (zS ha hb I h fun v u s2 x y H2 I2 rx ry q=>ho pins s2 σ H2 x y v u Q I2 rx ry q)
theorem zr {op:UnaryOp} {r:V->Hp->VK->Prop} (ho:B0 X (unaryOp op) r) (ha:PE X a ta):PE X (.UnaryOp op a pos) (Dc r ta):=by
 intro pins s σ H Q I h
 exact UnaryOp_ (bF (ha pins s σ H _ I h) fun v s1 ⟨x,H1,I1,r1,q1⟩=>ho pins s1 σ H1 x v Q I1 r1 q1)
theorem B2 {f:Value->Value->Sem Value} {C:Int->Int->Prop} {g:Int->Int->Int}
  (rule:∀(i j:Int) (t u:Tok) (s:Shared) (Q:Value->Shared->Prop) (E:Value->Shared->Prop),C i j->Q (.int (g i j) s.toks) {s with toks:=s.toks+1}->wpAny (model X.prog X.w) X.A (f (.int i t) (.int j u)) Q E s):
  gu X f (rI C fun i j=> .int (g i j)):=by
 intro pins s σ H x y v u Q I rx ry h
 obtain⟨i,j,rfl,rfl,hc,q⟩:=h
 obtain⟨t,rfl⟩:=rx
 obtain⟨t',rfl⟩:=ry
 exact rule i j t t' s _ _ hc ⟨.int (g i j),H,I.tok _,⟨_,rfl⟩,q⟩
theorem Bd {f:Value->Value->Sem Value} {g:Int->Int->Int}
  (rule:∀(i j:Int) (t u:Tok) (s:Shared) (Q:Value->Shared->Prop) (E:Value->Shared->Prop),Q (.int (g i j) s.toks) {s with toks:=s.toks+1}->wpAny (model X.prog X.w) X.A (f (.int i t) (.int j u)) Q E s):
  gu X f (zq fun i j=> .int (g i j)):=by
 intro pins s σ H x y v u Q I rx ry h
 obtain⟨i,j,rfl,rfl,q⟩:=h
 obtain⟨t,rfl⟩:=rx
 obtain⟨t',rfl⟩:=ry
 exact rule i j t t' s _ _ ⟨.int (g i j),H,I.tok _,⟨_,rfl⟩,q⟩
theorem xP {f:Value->Value->Sem Value} {g:Int->Int->Bool}
  (rule:∀(i j:Int) (t u:Tok) (s:Shared) (Q:Value->Shared->Prop) (E:Value->Shared->Prop),Q (.bool (g i j)) s->wpAny (model X.prog X.w) X.A (f (.int i t) (.int j u)) Q E s):
  gu X f (zq fun i j=> .bl (g i j)):=by
 intro pins s σ H x y v u Q I rx ry h
 obtain⟨i,j,rfl,rfl,q⟩:=h
 obtain⟨t,rfl⟩:=rx
 obtain⟨t',rfl⟩:=ry
 exact rule i j t t' s _ _ ⟨.bl (g i j),H,I,rfl,q⟩
def jS (i j:Int):Prop:=0<j/\j<1073741824
def Be (i j:Int):Prop:=0<=j/\j<=1000000/\i.natAbs<2^64
def CMul (i j:Int):Prop:=(-(2^64)<i/\i<2^64)\/(-(2^64)<j/\j<2^64)
theorem CMul.ok {i j:Int} (h:CMul i j):IntMulOk i j:=by
 rcases h with⟨h1,h2⟩ | ⟨h1,h2⟩
 ·exact .of_left (intBits_le_64 h1 h2)
 ·exact .of_right (intBits_le_64 h1 h2)
theorem b5:gu X (binaryOp .Add) (zq fun i j=> .int (i+j)):=Bd fun _ _ _ _ _ _ _ q=>add_int q
theorem zT:gu X (binaryOp .Sub) (zq fun i j=> .int (i-j)):=Bd fun _ _ _ _ _ _ _ q=>sub_int q
theorem fR:gu X (binaryOp .Mult) (rI CMul fun i j=> .int (i*j)):=B2 fun _ _ _ _ _ _ _ hc q=>mul_int q hc.ok
theorem b8:gu X (binaryOp .FloorDiv) (rI jS fun i j=> .int (i/j)):=B2 fun i j _ _ _ _ _ hc q=>by
 have h1:(0:Int)<j:=hc.1
 have h2:j<1073741824:=hc.2
 exact floordiv_int (by omega) (by rw[Int.fdiv_eq_ediv_of_nonneg i (by omega)];exact q) (.inl (PyProof.noPylong_small (by omega)))
theorem ba:gu X (binaryOp .Mod) (rI (fun _ j=>0<j) fun i j=> .int (i%j)):=B2 fun i j _ _ _ _ _ hc q=>by
 have h1:(0:Int)<j:=hc
 exact mod_int' (by omega) (by rw[Int.fmod_eq_emod_of_nonneg i (by omega)];exact q)
theorem nK:gu X (binaryOp .Pow) (rI Be fun i j=> .int (i^j.toNat)):=B2 fun _ _ _ _ _ _ _ hc q=>pow_int_small hc.1 hc.2.1 hc.2.2 q
theorem Dd {f:Value->Sem Value} {g:Int->Int}
  (rule:∀(i:Int) (t:Tok) (s:Shared) (Q:Value->Shared->Prop) (E:Value->Shared->Prop),Q (.int (g i) s.toks) {s with toks:=s.toks+1}->wpAny (model X.prog X.w) X.A (f (.int i t)) Q E s):
  B0 X f (rU fun i=> .int (g i)):=by
 intro pins s σ H x v Q I rx h
 obtain⟨i,rfl,q⟩:=h
 obtain⟨t,rfl⟩:=rx
 exact rule i t s _ _ ⟨.int (g i),H,I.tok _,⟨_,rfl⟩,q⟩
theorem vx:B0 X (unaryOp .USub) (rU fun i=> .int (-i)):=Dd fun _ _ _ _ _ q=>neg_int q
end
def Bf:V->V->Bool
 | .non,.non=>true | .non,.int _=>true | .int _,.non=>true | .non,.bl _=>true | .bl _,.non=>true | .non,.str _=>true | .str _,.non=>true
 | .int _,.int _=>true | .bl _,.bl _=>true | .str _,.str _=>true | .byt _,.byt _=>true
 | .int _,.str _=>true | .str _,.int _=>true | .bl _,.str _=>true | .str _,.bl _=>true
 | _,_=>false
def De:R2:=fun x y H Q=>Bf x y=true/\Q (.bl (decide (x=y))) H
def Df:R2:=fun x y H Q=>Bf x y=true/\Q (.bl (!decide (x=y))) H
theorem rH {i j:Int}:decide (V.int i=V.int j)=(i==j):=by
 rw[Fv]
 simp
theorem vy {i j:Bool}:decide (V.bl i=V.bl j)=(i==j):=by
 rw[Fv]
 simp
theorem rJ {i j:Str}:decide (V.str i=V.str j)=(i==j):=by
 rw[Fv]
 simp
theorem rK {i j:Array UInt8}:decide (V.byt i=V.byt j)=(i.toList==j.toList):=by
 rw[Fv]
 cases i
 cases j
 simp
section
variable {X:Cx} {a b c:Expr} {ta tb tc:TE} {pos:Pos}
theorem aQ {pins:List (Addr×Obj)} {σ:St} {H:Hp} {s:Shared} {Q:VK} {k k':Bool} (I:Inv X pins σ H s) (q:Q (.bl k) H) (e:k=k'):EP X pins σ Q (.bool k') s:=by
 subst e
 exact⟨.bl k,H,I,rfl,q⟩
theorem cL:gu X (compareOp .Eq) De:=by
 intro pins s σ H x y v u Q I rx ry h
 obtain⟨hs,q⟩:=h
 cases x with
 | non=>
  cases rx
  cases y with
  | non=>cases ry;exact PySem.EqNone.eq_none_none (aQ I q (by simp))
  | bl j=>cases ry;exact PySem.EqNone.eq_none_bool (aQ I q (by simp))
  | int j=>obtain⟨t',rfl⟩:=ry;exact PySem.EqNone.eq_none_int (aQ I q (by simp))
  | str j=>obtain⟨t',rfl⟩:=ry;exact PySem.EqNone.eq_none_str (aQ I q (by simp))
  | _=>exact absurd (show false=true from hs) DU
 | bl i=>
  cases rx
  cases y with
  | non=>cases ry;exact PySem.EqNone.eq_bool_none (aQ I q (by simp))
  | bl j=>cases ry;exact eq_bool (aQ I q vy)
  | str j=>obtain⟨t',rfl⟩:=ry;exact PySem.EqMixed.eq_bool_str (aQ I q (by simp))
  | _=>exact absurd (show false=true from hs) DU
 | int i=>
  obtain⟨t,rfl⟩:=rx
  cases y with
  | non=>cases ry;exact PySem.EqNone.eq_int_none (aQ I q (by simp))
  | int j=>obtain⟨t',rfl⟩:=ry;exact eq_int (aQ I q rH)
  | str j=>obtain⟨t',rfl⟩:=ry;exact PySem.EqMixed.eq_int_str (aQ I q (by simp))
  | _=>exact absurd (show false=true from hs) DU
 | str i=>
  obtain⟨t,rfl⟩:=rx
  cases y with
  | non=>cases ry;exact PySem.EqNone.eq_str_none (aQ I q (by simp))
  | bl j=>cases ry;exact PySem.EqMixed.eq_str_bool (aQ I q (by simp))
  | int j=>obtain⟨t',rfl⟩:=ry;exact PySem.EqMixed.eq_str_int (aQ I q (by simp))
  | str j=>obtain⟨t',rfl⟩:=ry;exact eq_str (aQ I q rJ)
  | _=>exact absurd (show false=true from hs) DU
 | byt i=>
  obtain⟨t,rfl⟩:=rx
  cases y with
  | byt j=>obtain⟨t',rfl⟩:=ry;exact PySem.W.eq_bytes (aQ I q rK)
  | _=>exact absurd (show false=true from hs) DU
 | _=>cases y<;>exact absurd (show false=true from hs) DU
theorem fH:gu X (compareOp .NotEq) Df:=by
 intro pins s σ H x y v u Q I rx ry h
 obtain⟨hs,q⟩:=h
 cases x with
 | non=>
  cases rx
  cases y with
  | non=>cases ry;exact PySem.EqNone.ne_none_none (aQ I q (by simp))
  | bl j=>cases ry;exact PySem.EqNone.ne_none_bool (aQ I q (by simp))
  | int j=>obtain⟨t',rfl⟩:=ry;exact PySem.EqNone.ne_none_int (aQ I q (by simp))
  | str j=>obtain⟨t',rfl⟩:=ry;exact PySem.EqNone.ne_none_str (aQ I q (by simp))
  | _=>exact absurd (show false=true from hs) DU
 | bl i=>
  cases rx
  cases y with
  | non=>cases ry;exact PySem.EqNone.ne_bool_none (aQ I q (by simp))
  | bl j=>cases ry;exact ne_bool (aQ I q (congrArg not vy))
  | str j=>obtain⟨t',rfl⟩:=ry;exact PySem.EqMixed.ne_bool_str (aQ I q (by simp))
  | _=>exact absurd (show false=true from hs) DU
 | int i=>
  obtain⟨t,rfl⟩:=rx
  cases y with
  | non=>cases ry;exact PySem.EqNone.ne_int_none (aQ I q (by simp))
  | int j=>obtain⟨t',rfl⟩:=ry;exact ne_int (aQ I q (congrArg not rH))
  | str j=>obtain⟨t',rfl⟩:=ry;exact PySem.EqMixed.ne_int_str (aQ I q (by simp))
  | _=>exact absurd (show false=true from hs) DU
 | str i=>
  obtain⟨t,rfl⟩:=rx
  cases y with
  | non=>cases ry;exact PySem.EqNone.ne_str_none (aQ I q (by simp))
  | bl j=>cases ry;exact PySem.EqMixed.ne_str_bool (aQ I q (by simp))
  | int j=>obtain⟨t',rfl⟩:=ry;exact PySem.EqMixed.ne_str_int (aQ I q (by simp))
  | str j=>obtain⟨t',rfl⟩:=ry;exact ne_str (aQ I q (congrArg not rJ))
  | _=>exact absurd (show false=true from hs) DU
 | byt i=>
  obtain⟨t,rfl⟩:=rx
  cases y with
  | byt j=>obtain⟨t',rfl⟩:=ry;exact PySem.W.ne_bytes (aQ I q (congrArg not rK))
  | _=>exact absurd (show false=true from hs) DU
 | _=>cases y<;>exact absurd (show false=true from hs) DU
theorem gM:gu X (compareOp .Lt) (zq fun i j=> .bl (decide (i<j))):=xP fun _ _ _ _ _ _ _ q=>lt_int q
theorem zt:gu X (compareOp .LtE) (zq fun i j=> .bl (decide (i<=j))):=xP fun _ _ _ _ _ _ _ q=>le_int q
theorem rL:gu X (compareOp .Gt) (zq fun i j=> .bl (decide (j<i))):=xP fun _ _ _ _ _ _ _ q=>gt_int q
theorem Bg:gu X (compareOp .GtE) (zq fun i j=> .bl (decide (j<=i))):=xP fun _ _ _ _ _ _ _ q=>ge_int q
theorem qj:gu X (compareOp .Is) (fun x y H Q=>y= .non/\Q (.bl (decide (x= .non))) H):=by
 intro pins s σ H x y v u Q I rx ry h
 obtain⟨rfl,q⟩:=h
 cases ry
 refine is_none_gen (aQ I q ?_)
 cases x<;>first
  | (cases rx;rfl)
  | (obtain⟨t,rfl⟩:=rx;rfl)
theorem eY:gu X (compareOp .IsNot) (fun x y H Q=>y= .non/\Q (.bl (!decide (x= .non))) H):=by
 intro pins s σ H x y v u Q I rx ry h
 obtain⟨rfl,q⟩:=h
 cases ry
 refine isnot_none_gen (aQ I q ?_)
 cases x<;>first
  | (cases rx;rfl)
  | (obtain⟨t,rfl⟩:=rx;rfl)
theorem ay (b:Expr) {op:CmpOp} (h:op≠ .In:=by decide) (h2:op≠ .NotIn:=by decide):behindInMarks op b=false:=by
 have e1:(op==CmpOp.In)=false:=by cases op<;>first | rfl | exact absurd rfl h
 have e2:(op==CmpOp.NotIn)=false:=by cases op<;>first | rfl | exact absurd rfl h2
 cases b<;>simp[behindInMarks,e1,e2]
theorem b4 {op:CmpOp} {r:R2} (ho:gu X (compareOp op) r) (ha:PE X a ta) (hb:PE X b tb) (hm:behindInMarks op b=false):PE X (.Compare a [op] [b] pos) (B1 r ta tb):=by
 intro pins s σ H Q I h
 exact wpAny_Compare1 (zS ha hb I h fun v u s2 x y H2 I2 rx ry q=>ho pins s2 σ H2 x y v u Q I2 rx ry q) hm
def Bh (t:TE):TT:=fun σ H Q=>t σ H fun x H'=>∃k,x= .bl k/\Q k H'
theorem ax {op:CmpOp} {r:R2} (ho:gu X (compareOp op) r) (ha:PE X a ta) (hb:PE X b tb) (hm:behindInMarks op b=false):PT X (.Compare a [op] [b] pos) (Bh (B1 r ta tb)):=by
 intro pins s σ H Q I h
 refine wpAny_isTrue_Compare1 (bF (ha pins s σ H _ I h) fun v s1 h1=>?_) hm
 obtain⟨x,H1,I1,r1,q1⟩:=h1
 refine bF (hb pins s1 σ H1 _ I1 q1) fun u s2 h2=>?_
 obtain⟨y,H2,I2,r2,q2⟩:=h2
 refine bF (ho pins s2 σ H2 x y v u _ I2 r1 r2 q2) fun c s3 h3=>?_
 obtain⟨z,H3,I3,r3,k,e,q3⟩:=h3
 subst e
 cases r3
 exact wpAny_truthy_bool ⟨H3,I3,q3⟩
def Cw (K:PySem.W.Frag) (x:V) (H:Hp) (k:Bool):Prop:=
 match x with
 | .non=>k=false
 | .bl b=>k=b
 | .int i=>k=(i != 0)
 | .str y=>y.length<=sizeLine/\k=((y.length:Int) != 0)
 | .byt y=>y.size<=sizeLine/\k=((y.size:Int) != 0)
 | .ref p=>(∃xs,SqL K H p xs/\k= !xs.isEmpty)\/(∃xs,SqT K H p xs/\k= !xs.isEmpty)\/∃kvs,H p=some (.dK kvs)/\k= !kvs.isEmpty
 | _=>False
theorem qk {κ:Type} {kvs:List (κ×V)} {vs:List (κ×Value)} (r:KV kvs vs):(!vs.isEmpty)= !kvs.isEmpty:=by
 cases r<;>rfl
theorem kC {xs:List V} {its:List Value} (r:Vals xs its):(!its.toArray.isEmpty)= !xs.isEmpty:=by
 cases r<;>simp
theorem kD:(sizeLine:Nat)<2^63:=by rw[sizeLine_eq];decide
theorem Cy:Cv X (fun x H Q=>∃k,Cw X.K x H k/\Q k H):=by
 intro pins s σ H x v Q I rx h
 obtain⟨k,e,q⟩:=h
 have hl:=kD
 have hs:sizeLine=16777216:=sizeLine_eq
 cases x with
 | non=>
  cases rx
  have e':k=false:=e
  subst e'
  exact truthy_none ⟨H,I,q⟩
 | bl b=>
  cases rx
  have e':k=b:=e
  subst e'
  exact wpAny_truthy_bool ⟨H,I,q⟩
 | int i=>
  obtain⟨t,rfl⟩:=rx
  have e':k=(i != 0):=e
  subst e'
  exact PySem.P.truthy_int ⟨H,I,q⟩
 | str y=>
  obtain⟨t,rfl⟩:=rx
  obtain⟨hy,e'⟩:y.length<=sizeLine/\k=((y.length:Int) != 0):=e
  subst e'
  exact PySem.P.truthy_str (by omega) ⟨H,I.tok _,q⟩
 | byt y=>
  obtain⟨t,rfl⟩:=rx
  obtain⟨hy,e'⟩:y.size<=sizeLine/\k=((y.size:Int) != 0):=e
  subst e'
  exact PySem.W.truthy_bytes (by omega) ⟨H,I.tok _,q⟩
 | ref p=>
  cases rx
  have e':(∃xs,SqL X.K H p xs/\k= !xs.isEmpty)\/(∃xs,SqT X.K H p xs/\k= !xs.isEmpty)\/∃kvs,H p=some (.dK kvs)/\k= !kvs.isEmpty:=e
  rcases e' with⟨xs,hx,e'⟩ | ⟨xs,hx,e'⟩ | ⟨kvs,hx,e'⟩
  ·subst e'
   obtain⟨its,r,pl,hz⟩:=I.list hx
   have hlen:=r.length
   exact wpAny_truthy_list pl.isList (by simp only[DT];omega) ⟨H,I.tok _,by rw[kC r];exact q⟩
  ·subst e'
   obtain⟨its,r,pl,hz⟩:=I.tuple hx
   have hlen:=r.length
   exact truthy_tuple pl (by simp only[DT];omega) ⟨H,I.tok _,by rw[kC r];exact q⟩
  ·subst e'
   obtain⟨hz,hS,vs,r,m⟩:kvs.length<=sizeLine/\(p==sysModules)=false/\∃vs,KV kvs vs/\s.heap.DictOf (bz X.prog X.w) p vs:=I.hok p _ hx
   have hlen:kvs.length=vs.length:=Paired.length r
   exact wpAny_truthy_dict hS m (by omega) ⟨H,I.tok _,by rw[qk r];exact q⟩
 | _=>exact(show False from e).elim
theorem fI {x:V} {us:List Value} (r:Vals [x] us):∃u,us=[u]/\RelV x u:=by
 cases r with
 | cons r1 r2=>cases r2;exact⟨_,rfl,r1⟩
theorem rM {x y:V} {us:List Value} (r:Vals [x,y] us):∃u w',us=[u,w']/\RelV x u/\RelV y w':=by
 cases r with
 | cons r1 r2=>
  cases r2 with
  | cons r3 r4=>cases r4;exact⟨_,_,rfl,r1,r3⟩
theorem mI (hc:X.calm=true):cu X (.builtin "max") (fun xs H Q=>∃i j,xs=[.int i,.int j]/\Q (.int (if j>i then j else i)) H):=by
 intro pins s σ H xs us Q I r h
 obtain⟨i,j,rfl,q⟩:=h
 obtain⟨u,w',rfl,⟨t,rfl⟩,⟨t',rfl⟩⟩:=rM r
 refine max_two_ints (I.ok.hd hc) fun h' tk k=>⟨_,H,I.kept k,?_,q⟩
 by_cases hj:j>i
 ·rw [if_pos hj,if_pos hj];exact⟨_,rfl⟩
 ·rw [if_neg hj,if_neg hj];exact⟨_,rfl⟩
theorem mJ (hc:X.calm=true):cu X (.builtin "min") (fun xs H Q=>∃i j,xs=[.int i,.int j]/\Q (.int (if j<i then j else i)) H):=by
 intro pins s σ H xs us Q I r h
 obtain⟨i,j,rfl,q⟩:=h
 obtain⟨u,w',rfl,⟨t,rfl⟩,⟨t',rfl⟩⟩:=rM r
 refine min_two_ints (I.ok.hd hc) fun h' tk k=>⟨_,H,I.kept k,?_,q⟩
 by_cases hj:j<i
 ·rw [if_pos hj,if_pos hj];exact⟨_,rfl⟩
 ·rw [if_neg hj,if_neg hj];exact⟨_,rfl⟩
def Bi (K:PySem.W.Frag) (x:V) (H:Hp) (n:Nat):Prop:=
 match x with
 | .str y=>y.length<=sizeLine/\n=y.length
 | .byt y=>y.size<=sizeLine/\n=y.size
 | .ref p=>(∃xs,SqL K H p xs/\n=xs.length)\/∃xs,SqT K H p xs/\n=xs.length
 | _=>False
theorem vz:cu X (.builtin "len") (fun xs H Q=>∃x n,xs=[x]/\Bi X.K x H n/\Q (.int n) H):=by
 intro pins s σ H xs us Q I r h
 obtain⟨x,n,rfl,e,q⟩:=h
 obtain⟨u,rfl,rx⟩:=fI r
 have hl:=kD
 have hs:sizeLine=16777216:=sizeLine_eq
 cases x with
 | str y=>
  obtain⟨t,rfl⟩:=rx
  obtain⟨hy,e'⟩:y.length<=sizeLine/\n=y.length:=e
  subst e'
  exact len_str (by omega) ⟨.int _,H,I.tok _,⟨_,rfl⟩,q⟩
 | byt y=>
  obtain⟨t,rfl⟩:=rx
  obtain⟨hy,e'⟩:y.size<=sizeLine/\n=y.size:=e
  subst e'
  exact PySem.W.len_bytes (by omega) ⟨.int _,H,I.tok _,⟨_,rfl⟩,q⟩
 | ref p=>
  cases rx
  have e':(∃xs,SqL X.K H p xs/\n=xs.length)\/∃xs,SqT X.K H p xs/\n=xs.length:=e
  rcases e' with⟨xs,hx,e'⟩ | ⟨xs,hx,e'⟩
  ·subst e'
   obtain⟨its,r',pl,hz⟩:=I.list hx
   have hlen:=r'.length
   exact Calls.call_len_list pl.isList (by simp only[DT];omega) ⟨.int xs.length,H,I.tok _,⟨_,by simp only[DT];rw[hlen]⟩,q⟩
  ·subst e'
   obtain⟨its,r',pl,hz⟩:=I.tuple hx
   have hlen:=r'.length
   exact len_tuple pl (by simp only[DT];omega) ⟨.int xs.length,H,I.tok _,⟨_,by simp only[DT];rw[hlen]⟩,q⟩
 | _=>exact(show False from e).elim
end
structure ObjM (h:Heap) (x dx C:Addr) (mA:Str->Option Value):Prop where
 obj:h.get? x=some (PySem.W.instObj C dx)
 ns:h.Ns1 dx mA
 ne:dx≠x
theorem tO {h:Heap} {dx:Addr} {mA:Str->Option Value} (n:h.Ns1 dx mA):∃od,h.get? dx=some od/\∀name,PySem.W.lookIn name od=some (mA name):=by
 obtain⟨o,es,ep,ho,hd,hk,_,hm⟩:=n
 refine⟨o,ho,fun name=>?_⟩
 have e:=hm name
 unfold nsFind findBy at e
 rw[<- Array.find?_toList]at e
 unfold PySem.W.lookIn
 rw[hd]
 dsimp only
 split
 ·rename_i y q
  rw[q]at e
  exact congrArg some e
 ·rename_i q
  rw[q]at e
  have a:es.toList.any (·.refKey)=false:=by
   rw[List.any_eq_false]
   intro y hy
   obtain⟨z,t,hkey⟩:=hk y (Array.mem_toList_iff.mp hy)
   simp[DictEntry.refKey,hkey]
  have a':¬es.toList.any (·.refKey)=true:=by rw[a];exact DU
  rw[if_neg a']
  exact congrArg some e
theorem ObjM.look {h:Heap} {x dx C:Addr} {mA:Str->Option Value} (I:ObjM h x dx C mA):∃od,PySem.W.InstAt h x (PySem.W.instObj C dx) C (some od)/\∀name,PySem.W.lookIn name od=some (mA name):=
 let⟨od,ho,hl⟩:=tO I.ns
 ⟨od,⟨I.obj,rfl,rfl,ho⟩,hl⟩
section
variable {prog:Program} {w:World} {A:Around} {E:Value->Shared->Prop} {s:Shared} {K:PySem.W.Frag} {x dx C f:Addr} {mA:Str->Option Value} {name:Str} {v:Value}
end
theorem RelO.some_of {v:V} {o:Option Value} (r:RelO (some v) o):∃u,o=some u/\RelV v u:=by
 cases o with
 | none=>exact(show False from r).elim
 | some u=>exact⟨u,rfl,r⟩
section
variable {P:Program} {w:World} {H H':Hp} {h h':Heap} {a C dx:Addr} {fs fs':List (Str×V)}
theorem xQ (hok:HOk P w H h) (e:H a=some (.ins C dx fs)):∃mA,ObjM h a dx C mA/\(∀f,RelO (fs.lookup f) (mA f))/\PySem.Within mA (fs.map (·.1))/\fs.length<=1000/\H dx=some (.own a):=by
 obtain⟨d,z,ne,ob,mA,n,r,q⟩:=(show ObjOk P w H h a (.ins C dx fs)from hok a _ e)
 exact⟨mA,⟨ob,n,ne⟩,r,q,z,d⟩
end
structure Cls (K:PySem.W.Frag) (C:Addr):Prop where
 pg:PySem.W.plainGet K C Str.empty=true
 hd:PySem.W.hasDictIn K C=true
 po:PySem.W.plainOver K C=true
 sa:PySem.W.findIn K (.ref C) "__setattr__"=some (some (.builtin "object.__setattr__"))
theorem Cls.get {K:PySem.W.Frag} {C:Addr} (c:Cls K C) (f:Str):PySem.W.plainGet K C f=true:=c.pg
section
variable {X:Cx} {pins:List (Addr×Obj)} {σ:St} {H:Hp} {s:Shared} {a C dx:Addr} {fs:List (Str×V)} {f:Str} {v:V} {A:Around} {E:Value->Shared->Prop}
end
section
variable {X:Cx} {o e value:Expr} {f:Str} {pos pos' tpos:Pos} {ta tv:TE}
end
section
variable {X:Cx} {pins:List (Addr×Obj)} {σ:St} {H:Hp} {s:Shared} {A:Around} {E:Value->Shared->Prop} {Q:Value->Shared->Prop} {c:Value} {b:Bool}
inductive TyOf (K:PySem.W.Frag) (H:Hp):V->Value->Prop where
 | non:TyOf K H .non (.type "NoneType")
 | bl (x:Bool):TyOf K H (.bl x) (.type "bool")
 | int (i:Int):TyOf K H (.int i) (.type "int")
 | str (x:Str):TyOf K H (.str x) (.type "str")
 | flt (x:UInt64):TyOf K H (.flt x) (.type "float")
 | lst {a:Addr} {xs:List V} (e:H a=some (.lst xs)):TyOf K H (.ref a) (.type "list")
 | frz {a:Addr} {o:Obj} {xs:List V} (e:H a=some (.frz o (.lst xs))):TyOf K H (.ref a) (.type "list")
 | tup {a:Addr} {xs:List V} (e:H a=some (.tup xs)):TyOf K H (.ref a) (.type "tuple")
 | dK {a:Addr} {kvs:List (bV×V)} (e:H a=some (.dK kvs)):TyOf K H (.ref a) (.type "dict")
 | dT {a:Addr} {kvs:List (List bV×V)} (e:H a=some (.dT kvs)):TyOf K H (.ref a) (.type "dict")
 | ins {a C dx:Addr} {fs:List (Str×V)} (e:H a=some (.ins C dx fs)) (cl:Cls K C) (ha:PySem.W.findIn K (.ref C) "__class__"=some (some (.builtin "object.__class__")))
  (hn:PySem.W.specialIn K (.builtin "object.__class__") "__get__"=some (some (.builtin "getset_descriptor.__get__"))) (htk:PySem.W.takesIn K (.builtin "object.__class__")=some true)
  (hm:PySem.W.mroIn K C (.type "object")=some true):TyOf K H (.ref a) (.ref C)
theorem tP {x:V} {u t:Value} (I:Inv X pins σ H s) (rx:RelV x u) (ty:TyOf X.K H x t) (e:PySem.W.kitOne X.K t c=some b) (h:∀tk,Q (.bool b) {s with toks:=tk}):
  wpAny (model X.prog X.w) A (call (.builtin "isinstance") [u,c]) Q E s:=by
 cases ty with
 | non=>cases(show u=Value.none from rx);exact PySem.W.kia_one PySem.W.kitx_none I.kIn True.intro e (fun z=>nomatch z) h
 | bl y=>cases(show u=Value.bool y from rx);exact PySem.W.kia_one PySem.W.kitx_bool I.kIn True.intro e (fun z=>nomatch z) h
 | int i=>obtain⟨t,q⟩:=(show ∃t,u=Value.int i t from rx);cases q;exact PySem.W.kia_one PySem.W.kitx_int I.kIn True.intro e (fun z=>nomatch z) h
 | str y=>obtain⟨t,q⟩:=(show ∃t,u=Value.str y t from rx);cases q;exact PySem.W.kia_one PySem.W.kitx_str I.kIn True.intro e (fun z=>nomatch z) h
 | flt y=>obtain⟨t,q⟩:=(show ∃t,u=Value.float y t from rx);cases q;exact PySem.W.kia_one PySem.W.kitx_float I.kIn True.intro e (fun z=>nomatch z) h
 | @lst a xs ea=>
  cases(show u=Value.ref a from rx)
  obtain⟨_,_,n,_,h1⟩:=(show ObjOk X.prog X.w H s.heap a (.lst xs)from I.hok a _ ea)
  exact PySem.W.kia_one PySem.W.kitx_list I.kIn ⟨_,h1,rfl⟩ e (fun z=>nomatch z) h
 | @frz a ob xs ea=>
  cases(show u=Value.ref a from rx)
  obtain⟨_,_,_,n,_,h1⟩:=(show ObjOk X.prog X.w H s.heap a (.frz ob (.lst xs))from I.hok a _ ea)
  exact PySem.W.kia_one PySem.W.kitx_list I.kIn ⟨_,h1,rfl⟩ e (fun z=>nomatch z) h
 | @tup a xs ea=>
  cases(show u=Value.ref a from rx)
  obtain⟨_,_,_,p⟩:=(show ObjOk X.prog X.w H s.heap a (.tup xs)from I.hok a _ ea)
  obtain⟨o,h1,h2,_⟩:=p
  exact PySem.W.kia_one PySem.W.kitx_tuple I.kIn ⟨o,h1,h2⟩ e (fun z=>nomatch z) h
 | @dK a kvs ea=>
  cases(show u=Value.ref a from rx)
  obtain⟨_,_,vs,_,p⟩:=(show ObjOk X.prog X.w H s.heap a (.dK kvs)from I.hok a _ ea)
  obtain⟨o,es,ep,h1,h2,_⟩:=p
  exact PySem.W.kia_one PySem.W.kitx_dict I.kIn ⟨o,h1,h2.1⟩ e (fun z=>nomatch z) h
 | @dT a kvs ea=>
  cases(show u=Value.ref a from rx)
  obtain⟨_,_,xs,_,o,es,ep,h1,h2,_⟩:=(show ObjOk X.prog X.w H s.heap a (.dT kvs)from I.hok a _ ea)
  exact PySem.W.kia_one PySem.W.kitx_dict I.kIn ⟨o,h1,h2.1⟩ e (fun z=>nomatch z) h
 | @ins a C dx fs ea cl ha hn htk hm=>
  cases(show u=Value.ref a from rx)
  obtain⟨mA,O,_⟩:=xQ I.hok ea
  obtain⟨od,J,_⟩:=O.look
  exact PySem.W.kia_one (PySem.W.kitx_own (cl.get _) cl.hd ha hn htk hm) I.kIn J e (fun z=>nomatch z) h
end
structure Room (k:Nat) (A:Around):Prop where
 hd:A.handled=none
 dp:A.depth+3*k+5<recursionLimit
 un:A.units+16*k+200<cLine
theorem Room.mono {j k:Nat} {A:Around} (r:Room k A) (h:j<=k):Room j A:=⟨r.hd,Fz (Nat.add_le_add_right (F7 (Nat.mul_le_mul_left 3 h) _) 5) r.dp,Fz (Nat.add_le_add_right (F7 (Nat.mul_le_mul_left 16 h) _) 200) r.un⟩
theorem Room.deeper {k:Nat} {A:Around} (r:Room (k+1) A) (env:Env):Room k (A.deeper env):=
 ⟨r.hd,by have:=r.dp;show A.depth+1+3*k+5<_;omega,by have:=r.un;show A.units+3+16*k+200<_;omega⟩
theorem Room.depth {k:Nat} {A:Around} (r:Room k A):A.depth<recursionLimit:=by have:=r.dp;omega
theorem Room.units {k:Nat} {A:Around} (r:Room k A):A.units+64<cLine:=by have:=r.un;omega
def Cz:TA:=fun _ H Q=>Q [] H
def Bj (ta:TE) (tr:TA):TA:=fun σ H Q=>ta σ H fun x H1=>tr σ H1 fun xs H2=>Q (x :: xs) H2
section
variable {X:Cx} {e:Expr} {es:List Expr} {te:TE} {t:TA} {pos:Pos}
theorem ab:PA X [] Cz:=fun _ _ _ _ H Q I h=>Calls.spliced_nil ⟨[],H,I,.nil,h⟩
theorem aa (ha:PE X e te) (hr:PA X es t) (hs:starEach (e :: es) X.env=(false,eval e X.env) :: starEach es X.env:=by rfl):PA X (e :: es) (Bj te t):=by
 intro pos pins s σ H Q I h
 rw[hs]
 show wpAny _ _ (spliced ((false,eval e X.env) :: backTo pos (starEach es X.env))) _ _ s
 refine Calls.spliced_cons (bF (ha pins s σ H _ I h) fun u s1 hq__=>?_)
 obtain⟨x,H1,I1,r1,q1⟩:=hq__
 exact bF (hr pos pins s1 σ H1 _ I1 q1) fun us s2 ⟨xs,H2,I2,r2,q2⟩=>⟨x :: xs,H2,I2,.cons r1 r2,q2⟩
def CA (t:TA):TE:=fun σ H Q=>t σ H fun xs H1=>xs.length<=sizeLine/\∀p,H1 p=none->Q (.ref p) (aE H1 p (.tup xs))
def CB (t:TA):TE:=fun σ H Q=>t σ H fun xs H1=>xs.length<=sizeLine/\∀p,H1 p=none->Q (.ref p) (aE H1 p (.lst xs))
theorem cy {x1} (h:PA X es t):PE X (.Tuple es x1 pos) (CA t):=by
 intro pins s σ H Q I hq
 refine wpAny_Tuple_spliced (bF (h pos pins s σ H _ I hq) fun us s1 ⟨xs,H1,I1,r,z,q⟩=>⟨by rw[<- r.length];exact z,?_⟩)
 have hf:H1 s1.heap.objs.size=none:=I1.hok.fresh (DS _)
 refine⟨.ref s1.heap.objs.size,aE H1 s1.heap.objs.size (.tup xs),I1.laid (t':=s1.toks) (fun b u e=>Heap.get?_push_of_some _ e) (DS _) ?_,rfl,q _ hf⟩
 exact⟨z,us,r,⟨_,Heap.get?_push_size _ rfl,rfl,_,rfl⟩⟩
theorem aG (h:PA X es t):PE X (.List es pos) (CB t):=by
 intro pins s σ H Q I hq
 refine wpAny_List_spliced (bF (h pos pins s σ H _ I hq) fun us s1 ⟨xs,H1,I1,r,z,q⟩=>⟨by rw[<- r.length];exact z,?_⟩)
 have hf:H1 s1.heap.objs.size=none:=I1.hok.fresh (DS _)
 refine⟨.ref s1.heap.objs.size,aE H1 s1.heap.objs.size (.lst xs),I1.laid (t':=s1.toks) (fun b u e=>Heap.get?_push_of_some _ e) (DS _) ?_,rfl,q _ hf⟩
 exact⟨z,us,0,r,Heap.get?_push_size _ rfl⟩
end
abbrev Sp:=List V->Hp->VK->XK->Prop
abbrev ve:=List Env->Hp->Shared->XK->Value->Shared->Prop
structure Env0 (P:Program) (w:World) (K:PySem.W.Frag) (mg:Str->Option Value) (base:Heap) (A:Around) (outer:List Env) (s:Shared) (H:Hp):Prop where
 frames:A.frames=some outer
 mod:Mod K mg base
 bs:∀b o,base.get? b=some o->s.heap.get? b=some o/\H b=none
 bsz:base.objs.size<=s.heap.objs.size
 funs:s.heap.FunFrames base outer
 frf:∀b∈gp outer,H b=none
 hok:HOk P w H s.heap
 bare:AllBare s.gens
def CE (outer:List Env) (P:Program) (w:World) (H:Hp) (s:Shared) (Q:VK) (u:Value) (s':Shared):Prop:=
 ∃v H',s'.os=s.os/\AllBare s'.gens/\Un (gp outer) [] H H' s.heap s'.heap/\HOk P w H' s'.heap/\RelV v u/\Q v H'
def CR (CX:ve) (outer:List Env) (P:Program) (w:World) (H:Hp) (s:Shared) (Q:VK) (E:XK) (r:Result) (s':Shared):Prop:=
 match r with
 | .ok (.ret u)=>CE outer P w H s Q u s'
 | .ok _=>False
 | .error e=>CX outer H s E e s'
structure FnOk (P:Program) (w:World) (K:PySem.W.Frag) (mg:Str->Option Value) (base:Heap) (CX:ve) (k:Nat) (f:Addr) (fd:FuncData) (ps:List Str) (sp:Sp):Prop where
 len:∀vs H Q E,sp vs H Q E->vs.length=ps.length
 run:∀(A:Around) (outer:List Env) (s:Shared) (H:Hp) (args:Args) (us:List Value) (vs:List V) (Q:VK) (E:XK),Room k A->Env0 P w K mg base A outer s H->BindsTo s fd args (ps.zip us)->Vals vs us->sp vs H Q E->
  codeAny (model P w) A (.call (.ref f) args) (CR CX outer P w H s Q E) s
section
variable {X:Cx} {pins:List (Addr×Obj)} {σ:St} {H:Hp} {s s':Shared}
theorem Inv.env0 (I:Inv X pins σ H s):Env0 X.prog X.w X.K X.mg X.base X.A X.stack s H:=
 ⟨I.ok.frames,I.ok.mod,I.bs,Ek I.ok.bsz I.sz,I.stack,I.stkFree,I.hok,I.bare⟩
theorem Inv.after {Q:VK} {u:Value} (I:Inv X pins σ H s) (h:CE X.stack X.prog X.w H s Q u s'):EP X pins σ Q u s':=by
 obtain⟨v,H',os,bare,un,hok,r,q⟩:=h
 obtain⟨hh,g,d,t,os'⟩:=s'
 obtain rfl:os'=s.os:=os
 exact⟨v,H',I.call (h':=hh) (g':=g) (d':=d) (t':=t) (ch:=[]) un hok bare (fun b z=>absurd z (by simp)),r,q⟩
end
def zu (sp:Sp) (dvs:List V) (E:XK) (t:TA):TE:=fun σ H Q=>t σ H fun vs H1=>sp (vs++dvs) H1 Q E
def Binds (K:PySem.W.Frag) (fd:FuncData) (ps:List Str) (ds:List Value):Prop:=
 ∀(s:Shared) (us:List Value),K.In s.heap->(us++ds).length=ps.length->BindsTo s fd ⟨us,[]⟩ (ps.zip (us++ds))
theorem Binds.all {K:PySem.W.Frag} {fd:FuncData} {ps:List Str} (h:∀us:List Value,us.length=ps.length->bindArgs fd ⟨us,[]⟩=pure (ps.zip us)):Binds K fd ps []:=fun s us _ hl=>by
 rw[Fc]at hl ⊢
 exact .of_eq (h us hl)
def qm (CX:ve) (X:Cx) (E:XK):Prop:=∀(pins:List (Addr×Obj)) (σ:St) (H:Hp) (s:Shared) (e:Value) (s':Shared),Inv X pins σ H s->CX X.stack H s E e s'->X.xe e s'
section
variable {X:Cx} {CX:ve} {k:Nat} {f C:Addr} {fd:FuncData} {ps:List Str} {sp:Sp} {dvs:List V} {ds:List Value} {E:XK} {x m:Str} {p pos apos:Pos} {e o:Expr} {es:List Expr} {ta:TE} {t:TA}
theorem zU {pins:List (Addr×Obj)} {σ:St} {H:Hp} {s:Shared} {Q:VK} {us:List Value} {vs:List V} (F:FnOk X.prog X.w X.K X.mg X.base CX k f fd ps sp) (hr:Room k X.A) (hb:Binds X.K fd ps ds) (hd:Vals dvs ds) (hx:qm CX X E)
  (I:Inv X pins σ H s) (r:Vals vs us) (h:sp (vs++dvs) H Q E):wpAny (model X.prog X.w) X.A (call (.ref f) us) (EP X pins σ Q) X.xe s:=by
 have r2:Vals (vs++dvs) (us++ds):=r.append hd
 have hl:(us++ds).length=ps.length:=by rw[<- r2.length];exact F.len _ _ _ _ h
 refine wpAny_call (codeAny_mono (F.run X.A X.stack s H ⟨us,[]⟩ (us++ds) (vs++dvs) Q E hr I.env0 (hb s us I.kIn hl) r2 h) fun r s' hq=>?_)
 cases r with
 | error e=>exact hx pins σ H s e s' I hq
 | ok fl=>
  cases fl with
  | ret u=>exact I.after hq
  | next=>exact False.elim hq
  | brk=>exact False.elim hq
  | cont=>exact False.elim hq
theorem xR (F:FnOk X.prog X.w X.K X.mg X.base CX k f fd ps sp) (hr:Room k X.A) (hg:Gl X x) (hm:X.mg x=some (.ref f)) (hk:PySem.W.keepIn X.K (.ref f)=true) (hb:Binds X.K fd ps ds) (hd:Vals dvs ds) (hx:qm CX X E)
  (ha:PA X (e :: es) t) (hdb:(x==("__debug__":Str))=false:=by decide) (he:starEach (e :: es) X.env=(false,eval e X.env) :: starEach es X.env:=by rfl) (hpl:(backTo pos (starEach es X.env)).any (·.1)=false:=by rfl):
  PE X (.Call (.Name x p) (e :: es) [] pos) (zu sp dvs E t):=by
 intro pins s σ H Q I h
 refine wpAny_Call_Name_kw (xM I hg hm ?_ hdb)
 refine PySem.W.callWith_K (h₀:=X.base) I.ok.mod.kin hk (bF (ha pos pins s σ H _ I h) fun us s1 ⟨vs,H1,I1,r,q⟩=>⟨I1.kIn,?_⟩) he hpl
 exact zU F hr hb hd hx I1 r q
end
section
variable {X:Cx} {CX:ve} {k:Nat} {f C:Addr} {fd:FuncData} {ps ks:List Str} {sp:Sp} {E:XK} {x m:Str} {p pos apos kpos:Pos} {e o:Expr} {es:List Expr} {kws:List Keyword} {te ta:TE} {t tk:TA} {nm:Option Str}
variable {g:List Value->List Value->List Value} {gV:List V->List V->List V}
end
structure FnScope (N P:List Str) (sc:Scope):Prop where
 kind:sc.kind= .function
 co:sc.isCoroutine=false
 gen:sc.isGenerator=false
 nd:N.Nodup
 pre:N.take P.length=P
 par:∀x∈P,sc.names.lookup x=some .local\/sc.names.lookup x=some .cell
 nofree:∀y∈sc.names,y.2≠ .free
theorem mK {kindOf:Str->Option NameKind} {x:Str}:∀{binds:List (Str×Value)} {m:Str->Option Value},(∀v,(x,v)∉binds)->bindL kindOf binds m x=m x
 | [],_,_=>rfl
 | (n,v) :: r,m,h=>by
  unfold bindL
  rw[mK fun w hw=>h w (Ea _ hw)]
  split
  ·have:x≠n:=by rintro rfl;exact h v Ei
   simp[this]
  ·rfl
theorem mL {kindOf:Str->Option NameKind} {x:Str}:∀{binds:List (Str×Value)} {m:Str->Option Value},(∀v,(x,v)∉binds)->bindC kindOf binds m x=m x
 | [],_,_=>rfl
 | (n,v) :: r,m,h=>by
  unfold bindC
  rw[mL fun w hw=>h w (Ea _ hw)]
  split
  ·rfl
  ·have:x≠n:=by rintro rfl;exact h v Ei
   simp[this]
theorem tQ {kindOf:Str->Option NameKind} {x:Str} {v:Value}:∀{P:List Str} {vs:List Value} {i:Nat} {m:Str->Option Value},P.Nodup->P[i]?=some x->vs[i]?=some v->kindOf x=some .local->
  bindL kindOf (P.zip vs) m x=some v:=by
 intro P
 induction P with
 | nil=>intro vs i m _ h;cases h
 | cons p P ih=>
  intro vs i m nd h1 h2 hk
  cases vs with
  | nil=>cases h2
  | cons w vs=>
   show bindL kindOf ((p,w) :: P.zip vs) m x=_
   unfold bindL
   cases i with
   | zero=>
    cases h1;cases h2
    rw[mK fun v hv=>(Fp.mp nd).1 (Gh hv).1,if_pos hk]
    simp
   | succ i=>exact ih (Fp.mp nd).2 h1 h2 hk
theorem tR {kindOf:Str->Option NameKind} {x:Str} {v:Value}:∀{P:List Str} {vs:List Value} {i:Nat} {m:Str->Option Value},P.Nodup->P[i]?=some x->vs[i]?=some v->kindOf x≠some .local->
  bindC kindOf (P.zip vs) m x=some v:=by
 intro P
 induction P with
 | nil=>intro vs i m _ h;cases h
 | cons p P ih=>
  intro vs i m nd h1 h2 hk
  cases vs with
  | nil=>cases h2
  | cons w vs=>
   show bindC kindOf ((p,w) :: P.zip vs) m x=_
   unfold bindC
   cases i with
   | zero=>
    cases h1;cases h2
    rw[mL fun v hv=>(Fp.mp nd).1 (Gh hv).1,if_neg hk]
    simp
   | succ i=>exact ih (Fp.mp nd).2 h1 h2 hk
def jv (N:List Str) (vs:List V):St:=vs.map some++Ey (N.length-vs.length) none
def oJ (CX:ve) (P:Program) (w:World) (K:PySem.W.Frag) (mg:Str->Option Value) (base:Heap) (N:List Str) (qual:Str) (scope:Scope) (f:Addr) (cd:Value) (A:Around) (outer:List Env) (s:Shared) (H:Hp) (E:XK):Cx where
 prog:=P
 w:=w
 K:=K
 mg:=mg
 base:=base
 A:=A.deeper (envOfC qual scope s.heap.objs.size f cd)
 N:=N
 s₀:=s
 H₀:=H
 env:=envOfC qual scope s.heap.objs.size f cd
 outer:=outer
 stack:=envOfC qual scope s.heap.objs.size f cd :: outer
 ex:=[]
 calm:=true
 fn:=fun _=>true
 pn:=[]
 xe:=fun e s'=>wpAny (model P w) (A.deeper (envOfC qual scope s.heap.objs.size f cd)) (leaving (envOfC qual scope s.heap.objs.size f cd) e) (fun _ s''=>CX outer H s E e s'') (fun e' s''=>CX outer H s E e' s'') s'
theorem oK {sc:Scope} {n:Nat} {x:Str} (h:sc.names.lookup x=some .cell):∃c,(cellsFrom n sc.names []).lookup x=some c:=by
 have q:=PySem.W.cellsFrom_some sc.names n [] (.inl h)
 exact ES.mp q
theorem tU {CX:ve} {P:Program} {w:World} {K:PySem.W.Frag} {mg:Str->Option Value} {base:Heap} {N ps:List Str} {qual:Str} {scope:Scope} {f:Addr} {cd:Value} {A:Around} {outer:List Env} {s s1:Shared} {H:Hp} {E:XK} {us:List Value} {vs:List V}
  (S:FnScope N ps scope) (hd:A.handled=none) (e0:Env0 P w K mg base A outer s H) (hl:vs.length=ps.length) (r:Vals vs us)
  (x:InCallC s s.heap.objs.size (bindL (envOfC qual scope s.heap.objs.size f cd).kindOf (ps.zip us) fun _=>none) (cellsFrom (s.heap.objs.size+1) scope.names []) (bindC (envOfC qual scope s.heap.objs.size f cd).kindOf (ps.zip us) fun _=>none) s1):
  Inv (oJ CX P w K mg base N qual scope f cd A outer s H E) [] (jv N vs) H s1:=by
 have hpl:ps.length<=N.length:=by have:=congrArg List.length S.pre;rw[EA]at this;omega
 obtain⟨h1,tk,rfl,hk⟩:=x.done
 have noA:∀b:Addr,b∉(oJ CX P w K mg base N qual scope f cd A outer s H E).ex:=fun b z=>absurd (show b∈([]:List Addr)from z) (by simp)
 refine⟨⟨e0.mod,S.kind,rfl,rfl,DS _,fun y z c h1 h2=>?_,fun y hy=>?_,fun y c _ h=>?_,fun _=>hd,Around.frames_deeper e0.frames,.inr ⟨rfl,rfl⟩,fun b z=>absurd z (noA b),e0.bs,e0.bsz,fun b _ _=>noA b,fun b z=>absurd z (noA b),e0.funs,e0.frf⟩,
  rfl,e0.bare,Un.kept hk,⟨_,x.toInCall.ns,fun i y v h1 h2 h3=>?_⟩,fun y c h=>⟨_,x.cell y c h⟩,e0.hok.fresh (DS _),fun y c h=>?_,fun p hp=>absurd (show p∈([]:List (Addr×Obj))from hp) (by simp),e0.hok.kept hk,?_⟩
 ·exact name_of_addr x.apart (PySem.mem_of_lookup h1) (PySem.mem_of_lookup h2)
 ·have hy:scope.names.lookup y=some .cell\/scope.names.lookup y=some .free:=hy
  rcases hy with hy | hy
  ·exact oK hy
  ·exact absurd rfl (S.nofree _ (PySem.mem_of_lookup hy))
 ·exact ET (x.above y c (PySem.mem_of_lookup h))
 ·have hi:i<vs.length:=by
   unfold jv at h2
   by_cases hi:i<vs.length
   ·exact hi
   ·rw [E3 (by simpa using hi)]at h2
    rw[List.getElem?_replicate]at h2
    split at h2<;>cases h2
  have ha:vs[i]?=some v:=by
   unfold jv at h2
   rw[Fh (by simpa using hi),DM]at h2
   cases e:vs[i]? with
   | none=>rw[e]at h2;cases h2
   | some a=>rw[e]at h2;cases h2;rfl
  obtain⟨u,hu,rv⟩:=r.get ha
  have hp:ps[i]?=some y:=by
   rw[<- S.pre,List.getElem?_take_of_lt (by omega)];exact h1
  have ndP:ps.Nodup:=by rw[<- S.pre];exact S.nd.sublist (List.take_sublist _ _)
  refine⟨u,rv,?_⟩
  rcases S.par y (DQ hp)with k | k
  ·exact .inl ⟨k,tQ ndP hp hu k⟩
  ·obtain⟨c,e⟩:=oK (n:=s.heap.objs.size+1) k
   refine .inr ⟨.inl k,c,e,?_⟩
   have q:=x.cell y c e
   rw[tR ndP hp hu (by show scope.names.lookup y≠_;rw[k];decide)]at q
   exact q
 ·exact e0.hok.fresh (ET (x.above y c (PySem.mem_of_lookup h)))
 ·unfold jv
  show _=N.length
  rw[DX,DI,List.length_replicate]
  omega
theorem Bk {CX:ve} {P:Program} {w:World} {K:PySem.W.Frag} {mg:Str->Option Value} {base:Heap} {k:Nat} {f:Addr} {name qual:Str} {params:Arguments} {body:List Stmt} {scope:Scope} {dV kV doc pm cdv ct oc:Value} {an od:Option Addr}
  {osl:Array (Option Value)} {N ps:List Str} {sp:Sp} (lk:K.lookup f=some ⟨oc,od,.func (PySem.W.fnOf name qual params body scope dV kV doc pm an cdv ct),osl⟩) (hcd:PySem.W.codeIn K cdv qual=true) (S:FnScope N ps scope)
  (len:∀vs H Q E,sp vs H Q E->vs.length=ps.length)
  (hbody:∀(A:Around) (outer:List Env) (s:Shared) (H:Hp) (vs:List V) (Q:VK) (E:XK),Room k (A.deeper (envOfC qual scope s.heap.objs.size f cdv))->sp vs H Q E->
   ∃t,PSs (oJ CX P w K mg base N qual scope f cdv A outer s H E) body t/\t {nx:=fun _ H'=>Q .non H',rt:=Q} (jv N vs) H):
  FnOk P w K mg base CX (k+1) f (PySem.W.fnOf name qual params body scope dV kV doc pm an cdv ct) ps sp:=by
 refine⟨len,fun A outer s H args us vs Q E hr e0 hb r hsp=>?_⟩
 have hl:=len _ _ _ _ hsp
 have KX:K.In s.heap:=e0.mod.kin.keeps fun b o e=>(e0.bs b o e).1
 have lim:s.heap.NoLimit:=e0.mod.nolimit.keeps fun b o e=>(e0.bs b o e).1
 have hkind:∀y∈ps.zip us,scope.names.lookup y.1=some .local\/(scope.names.lookup y.1=some .cell/\((cellsFrom (s.heap.objs.size+1) scope.names []).lookup y.1).isSome=true):=fun⟨n,v⟩ hy=>by
  rcases S.par n (Gh hy).1 with q | q
  ·exact .inl q
  ·exact .inr ⟨q,PySem.W.cellsFrom_some _ _ _ (.inl q)⟩
 refine codeAny_call_function hr.depth (KX _ _ lk) rfl S.co S.gen rfl (PySem.W.codeRec_of KX hcd) (hb _ _ _ _ ?_)
 refine wpAny_newFunctionEnv_cells S.kind hkind fun env he s1 x=>?_
 subst he
 refine⟨lim.keeps x.toInCall.keep,codeAny_func ?_⟩
 obtain⟨t,ht,hq⟩:=hbody A outer s H vs Q E (hr.deeper _) hsp
 have I:Inv (oJ CX P w K mg base N qual scope f cdv A outer s H E) [] (jv N vs) H s1:=tU S hr.hd e0 hl r x
 refine wpAny_mono (ht [] s1 (jv N vs) H _ I hq) (fun fl s' hs=>?_) fun e s' hs=>hs
 have fin:∀{σ':St} {H':Hp} {v:V} {u:Value},Inv (oJ CX P w K mg base N qual scope f cdv A outer s H E) [] σ' H' s'->RelV v u->Q v H'->CE outer P w H s Q u s':=
  fun {σ' H' v u} J rv q=>⟨v,H',J.os,J.bare,J.base,J.hok,rv,q⟩
 cases fl with
 | ret u=>
  obtain⟨v,σ',H',J,rv,q⟩:=hs
  exact fin J rv q
 | next=>
  obtain⟨σ',H',J,q⟩:=hs
  exact fin (v:=V.non) (u:=Value.none) J rfl q
 | brk=>
  obtain⟨_,_,_,q⟩:=hs
  exact False.elim q
 | cont=>
  obtain⟨_,_,_,q⟩:=hs
  exact False.elim q
section
variable {X:Cx} {x:Str} {p pos:Pos} {e:Expr} {es:List Expr} {t:TA} {id T:String} {r:List V->Hp->VK->Prop}
def CY (r:List V->Hp->VK->Prop) (t:TA):TE:=fun σ H Q=>t σ H fun vs H1=>r vs H1 Q
theorem ak (hc:cu X (.builtin id) r) (hg:Gl X x) (hm:X.mg x=none) (hv:bootBuiltins x=some (.builtin id)) (ha:PA X (e :: es) t) (hn:x≠"__name__":=by decide) (hdb:(x==("__debug__":Str))=false:=by decide)
  (he:starEach (e :: es) X.env=(false,eval e X.env) :: starEach es X.env:=by rfl) (hpl:(backTo pos (starEach es X.env)).any (·.1)=false:=by rfl):PE X (.Call (.Name x p) (e :: es) [] pos) (CY r t):=by
 intro pins s σ H Q I h
 refine wpAny_Call_Name_kw (gU I hg hm hv ?_ hn hdb)
 exact PyProof.Rows.callWith_builtin1 (bF (ha pos pins s σ H _ I h) fun us s1 ⟨vs,H1,I1,r1,q1⟩=>hc pins s1 σ H1 vs us Q I1 r1 q1) he hpl
theorem aI (hc:cu X (.type T) r) (hg:Gl X x) (hm:X.mg x=none) (hv:bootBuiltins x=some (.type T)) (ha:PA X (e :: es) t) (hn:x≠"__name__":=by decide) (hdb:(x==("__debug__":Str))=false:=by decide)
  (he:starEach (e :: es) X.env=(false,eval e X.env) :: starEach es X.env:=by rfl) (hpl:(backTo pos (starEach es X.env)).any (·.1)=false:=by rfl):PE X (.Call (.Name x p) (e :: es) [] pos) (CY r t):=by
 intro pins s σ H Q I h
 refine wpAny_Call_Name_kw (gU I hg hm hv ?_ hn hdb)
 exact PyProof.Rows.callWith_type1 (bF (ha pos pins s σ H _ I h) fun us s1 ⟨vs,H1,I1,r1,q1⟩=>hc pins s1 σ H1 vs us Q I1 r1 q1) he hpl
end
end L2
namespace HT
open PySem PyProof.Rows
def bh:List Int->List Int->Bool
 | [],[]=>false
 | [],_ :: _=>true
 | _ :: _,[]=>false
 | x :: xs,y :: ys=>if x=y then bh xs ys else decide (x<y)
theorem cT (x y:Int) (xs ys:List Int):bh (x :: xs) (y :: ys)=if x=y then bh xs ys else decide (x<y):=rfl
theorem l9:bh [] []=false:=rfl
theorem kE (y:Int) (ys:List Int):bh [] (y :: ys)=true:=rfl
theorem kF (x:Int) (xs:List Int):bh (x :: xs) []=false:=rfl
theorem vA (A:Around) (s:Shared) (a:Int) (t:Tok) (c:Int) (u:Tok):∃e,SeqAt.EqAt A s (.int a t) (.int c u) e/\(e=true<->a=c):=
 ⟨(a==c),SeqAt.EqAt.int_int a t c u,by simp⟩
theorem oM (A:Around) (s:Shared) (a:Int) (t:Tok) (c:Int) (u:Tok) (prog:Program) (w:World) (E:Value->Shared->Prop) (Q:Value->Shared->Prop) (h:Q (.bool (decide (a<c))) s):
  wpAny (model prog w) A (richCompare .Lt (.int a t) (.int c u)) Q E s:=
 (PyProof.Rows.lt_int h:wpAny (model prog w) A (compareOp .Lt (.int a t) (.int c u)) Q E s)
section
open PySem.SeqAt
open PySem.AutoSeq1 (wpAny_loadPart')
open PySem.MeetsSeq PySem.MeetsSeq2 PySem.MeetsSeq3
end
section
variable {prog:Program} {w:World} {A:Around} {E:Value->Shared->Prop} {s:Shared}
def qo (n d:Nat):Option Int->Nat
 | none=>d
 | some v=>if v<0 then(v+(n:Int)).toNat else min v.toNat n
theorem oN (n d:Nat):qo n d none=d:=rfl
theorem j6 (n d k:Nat):qo n d (some (k:Int))=min k n:=by
 show(if(k:Int)<0 then((k:Int)+(n:Int)).toNat else min (k:Int).toNat n)=min k n
 rw[if_neg (by omega),Er]
theorem xS (v:Int) (n d:Nat):(if v<0 then max (v+(n:Int)) 0 else min v (n:Int))=((qo n d (some v):Nat):Int):=by
 show _=(((if v<0 then(v+(n:Int)).toNat else min v.toNat n):Nat):Int)
 by_cases hv:v<0
 ·rw [if_pos hv,if_pos hv,Int.ofNat_toNat]
 ·rw [if_neg hv,if_neg hv]
  obtain⟨k,rfl⟩:=Int.eq_ofNat_of_zero_le (Int.not_lt.mp hv)
  show min (k:Int) (n:Int)=((min k n:Nat):Int)
  rcases Nat.le_total k n with h | h
  ·rw [Fg h,Int.min_eq_left (Int.ofNat_le.mpr h)]
  ·rw [Fy h,Int.min_eq_right (Int.ofNat_le.mpr h)]
end
end HT
namespace L2
open PySem PySem.Spec PyProof.Rows
abbrev TO:=St->Hp->(Option Int->Hp->Prop)->Prop
def PO (X:Cx) (e:Option Expr) (t:TO):Prop:=
 ∀(pins:List (Addr×Obj)) (s:Shared) (σ:St) (H:Hp) (Q:Option Int->Hp->Prop),Inv X pins σ H s->t σ H Q->
  wpAny (model X.prog X.w) X.A (evalPart e X.env) (fun u s'=>∃o H',Inv X pins σ H' s'/\IsPart u o/\Q o H') X.xe s
def xT:TO:=fun _ H Q=>Q none H
def Bm (t:TE):TO:=fun σ H Q=>t σ H fun x H1=>∃i,x= .int i/\Q (some i) H1
theorem cU {ns:List Int}:∀{us:List Value},Vals (ns.map V.int) us->IntsAre us ns:=by
 induction ns with
 | nil=>intro us r;rw[FW]at r;cases r;exact .nil
 | cons n ns ih=>
  intro us r
  rw[En]at r
  cases r with
  | cons r1 r2=>
   obtain⟨t,e⟩:=r1
   subst e
   exact .cons n t (ih r2)
section
variable {X:Cx} {e:Expr} {te:TE} {lo hi:Option Expr} {tl th:TO} {pos p2:Pos}
theorem rN:PO X none xT:=by
 intro pins s σ H Q I h
 rw[evalPart_none]
 exact wpAny_pure ⟨none,H,I,.none,h⟩
theorem j7 (h:PE X e te):PO X (some e) (Bm te):=by
 intro pins s σ H Q I hw
 rw[evalPart_some]
 refine bF (h pins s σ H _ I hw) fun u s1 hq__=>?_
 obtain⟨x,H1,I1,r1,q1⟩:=hq__
 obtain⟨i,rfl,q⟩:=q1
 obtain⟨t,rfl⟩:=r1
 exact⟨some i,H1,I1,.int i t,q⟩
def B3 (X:Cx) (r:V->Option Int->Option Int->Hp->VK->Prop):Prop:=
 ∀(pins:List (Addr×Obj)) (s:Shared) (σ:St) (H:Hp) (x:V) (v vl vu:Value) (lo hi:Option Int) (sl:Addr) (Q:VK),Inv X pins σ H s->RelV x v->s.heap.IsSliceOf sl vl vu .none->IsPart vl lo->IsPart vu hi->r x lo hi H Q->
  ∃T id,typeLookup (.type T) "__getitem__"=pure (some (.builtin id))/\s.TypeIs v T/\wpAny (model X.prog X.w) X.A (getItem v (.ref sl)) (EP X pins σ Q) X.xe s
def Dg (r:V->Option Int->Option Int->Hp->VK->Prop) (te:TE) (tl th:TO):TE:=fun σ H Q=>te σ H fun x H1=>tl σ H1 fun l H2=>th σ H2 fun u H3=>r x l u H3 Q
theorem kG {r:V->Option Int->Option Int->Hp->VK->Prop} (hr:B3 X r) (he:PE X e te) (hl:PO X lo tl) (hu:PO X hi th):PE X (.Subscript e (.Slice lo hi none p2) pos) (Dg r te tl th):=by
 intro pins s σ H Q I h
 refine Subscript_ (bF (he pins s σ H _ I h) fun v s1 h1=>?_)
 obtain⟨x,H1,I1,r1,q1⟩:=h1
 refine wpAny_Slice (bF (hl pins s1 σ H1 _ I1 q1) fun vl s2 h2=>?_)
 obtain⟨l,H2,I2,pl,q2⟩:=h2
 refine bF (hu pins s2 σ H2 _ I2 q2) fun vu s3 h3=>?_
 obtain⟨u,H3,I3,pu,q3⟩:=h3
 rw[evalPart_none]
 refine wpAny_pure ?_
 have I4:Inv X pins σ H3 {s3 with heap:=s3.heap.push {cls:= .type "slice",data:= .fields #[vl,vu,.none]}}:=I3.kept (t':=s3.toks) fun b ob q=>Heap.get?_push_of_some _ q
 obtain⟨T,id,hT,ht,hg⟩:=hr pins {s3 with heap:=s3.heap.push {cls:= .type "slice",data:= .fields #[vl,vu,.none]}} σ H3 x v vl vu l u s3.heap.objs.size Q I4 r1 (Heap.IsSliceOf.new ..) pl pu q3
 show wpAny (model X.prog X.w) X.A (subscriptTail e (.Slice lo hi none p2) v (.ref s3.heap.objs.size)) (EP X pins σ Q) X.xe {s3 with heap:=s3.heap.push {cls:= .type "slice",data:= .fields #[vl,vu,.none]}}
 exact tail_any (ops:=[.ref s3.heap.objs.size,v]) ht hT hg (by with_unfolding_all rfl)
def i8 (xs:List V) (lo hi:Option Int):List V:=(xs.drop (HT.qo xs.length 0 lo)).take (HT.qo xs.length xs.length hi-HT.qo xs.length 0 lo)
theorem oO (xs:List V) (lo hi:Option Int):(i8 xs lo hi).length<=xs.length:=by
 unfold i8
 rw[EA,Fq]
 exact Ek (Nat.min_le_right _ _) (Nat.sub_le _ _)
end
def xH (n:Nat) (i:Int):Option Nat:=if 0<=i then(if i<n then some i.toNat else none)else if -(n:Int)<=i then some (i+n).toNat else none
def mM {α:Type} (xs:List α) (i:Int):Option α:=(xH xs.length i).bind fun j=>xs[j]?
theorem rO {n:Nat} {i:Int} {j:Nat} (h:xH n i=some j):seqIndex? i n=some j/\j<n/\ -(n:Int)<=i/\i<n:=by
 unfold xH at h
 by_cases h0:0<=i
 ·rw [if_pos h0]at h
  by_cases h1:i<n
  ·rw [if_pos h1]at h
   have e:i.toNat=j:=Option.some.inj h
   exact⟨by rw[seqIndex_of h0 h1,e],by omega,by omega,h1⟩
  ·rw [if_neg h1]at h;cases h
 ·rw [if_neg h0]at h
  by_cases h1: -(n:Int)<=i
  ·rw [if_pos h1]at h
   have e:(i+n).toNat=j:=Option.some.inj h
   exact⟨by rw[seqIndex_neg (by omega) h1,e],by omega,h1,by omega⟩
  ·rw [if_neg h1]at h;cases h
theorem rP {α:Type} {xs:List α} {i:Int} {v:α} (h:mM xs i=some v):∃j,seqIndex? i xs.length=some j/\xs[j]?=some v/\j<xs.length/\ -(xs.length:Int)<=i/\i<xs.length:=by
 unfold mM at h
 cases e:xH xs.length i with
 | none=>rw[e]at h;cases h
 | some j=>
  rw[e]at h
  obtain⟨h1,h2,h3,h4⟩:=rO e
  exact⟨j,h1,h,h2,h3,h4⟩
theorem b9 {α:Type} {xs:List α} {j:Nat} {v:α} (h:xs[j]?=some v):mM xs (j:Int)=some v:=by
 have hj:j<xs.length:=(DN.mp h).1
 have e:xH xs.length (j:Int)=some j:=by
  unfold xH
  rw[if_pos (by omega),if_pos (by omega)];simp
 unfold mM;rw[e];exact h
def xU (b:Expr):Prop:=∀o i,subscripted b false o i=operate [o,i] (getItem o i)
def AW (X:Cx) (r:R2):Prop:=
 ∀(value slice:Expr) (pins:List (Addr×Obj)) (s:Shared) (σ:St) (H:Hp) (x y:V) (v u:Value) (Q:VK),Inv X pins σ H s->RelV x v->RelV y u->r x y H Q->
  subscripted slice false v u=operate [v,u] (getItem v u)->wpAny (model X.prog X.w) X.A (subscriptTail value slice v u) (EP X pins σ Q) X.xe s
def CC (X:Cx) (id:String) (r:V->List V->Hp->VK->Prop):Prop:=
 ∀(pins:List (Addr×Obj)) (s:Shared) (σ:St) (H:Hp) (x:V) (xs:List V) (v:Value) (us:List Value) (Q:VK),Inv X pins σ H s->RelV x v->Vals xs us->r x xs H Q->
  wpAny (model X.prog X.w) X.A (call (.builtin id) (v :: us)) (EP X pins σ Q) X.xe s
section
variable {X:Cx} {a b:Expr} {ta tb:TE} {pos:Pos}
theorem az {r:R2} (hr:AW X r) (ha:PE X a ta) (hb:PE X b tb) (hs:xU b):PE X (.Subscript a b pos) (B1 r ta tb):=by
 intro pins s σ H Q I h
 exact Subscript_ (zS ha hb I h fun v u s2 x y H2 I2 rx ry q=>hr a b pins s2 σ H2 x y v u Q I2 rx ry q (hs _ _))
def Bn (K:PySem.W.Frag):R2:=fun x y H Q=>∃p xs i v,x= .ref p/\y= .int i/\SqL K H p xs/\mM xs i=some v/\Q v H
def Bo (K:PySem.W.Frag):R2:=fun x y H Q=>∃p xs i v,x= .ref p/\y= .int i/\SqT K H p xs/\mM xs i=some v/\Q v H
theorem xV:AW X (Bn X.K):=by
 intro value slice pins s σ H x y v u Q I rx ry h hs
 obtain⟨p,xs,i,z,rfl,rfl,hq,he,q⟩:=h
 cases rx
 obtain⟨t,rfl⟩:=ry
 obtain⟨its,r,pl,hz⟩:=I.list hq
 obtain⟨j,h1,h2,h3,h4,h5⟩:=rP he
 obtain⟨w,ew,rw'⟩:=r.get h2
 have hl:=r.length
 have hn:=kD
 have fin:EP X pins σ Q w s:=⟨z,H,I,rw',q⟩
 by_cases h0:0<=i
 ·have hj:i.toNat=j:=by
   rw[seqIndex_of h0 h5]at h1
   exact Option.some.inj h1
  exact item_listR pl.isList h0 (by omega) (by rw[hj];simpa using ew) fin hs
 ·have hj:(i+(its.toArray.size:Int)).toNat=j:=by
   rw[seqIndex_neg (by omega) h4]at h1
   rw[DT,<- hl]
   exact Option.some.inj h1
  exact subscriptTail_builtinR (x:=w) pl.isList.typeIs slot_list_getitem.lookup
   (wpAny_getItem_list_neg (Q:=fun r s'=>r=w/\EP X pins σ Q r s') pl.isList (by omega) (by rw[DT]<;>omega) (by omega) (by rw[hj];simpa using ew) ⟨rfl,fin⟩) hs
theorem zV:AW X (Bo X.K):=by
 intro value slice pins s σ H x y v u Q I rx ry h hs
 obtain⟨p,xs,i,z,rfl,rfl,hq,he,q⟩:=h
 cases rx
 obtain⟨t,rfl⟩:=ry
 obtain⟨its,r,pl,hz⟩:=I.tuple hq
 obtain⟨j,h1,h2,h3,h4,h5⟩:=rP he
 obtain⟨w,ew,rw'⟩:=r.get h2
 have hl:=r.length
 have hn:=kD
 have fin:EP X pins σ Q w s:=⟨z,H,I,rw',q⟩
 exact subscriptTail_builtinR (x:=w) pl.typeIs slot_tuple_getitem.lookup
  (getItem_tuple (j:=j) (Q:=fun r s'=>r=w/\EP X pins σ Q r s') pl (by omega) (by omega) (by rw[DT,<- hl];exact h1) (by simpa using ew) ⟨rfl,fin⟩) hs
theorem qp (its:List Value) (n j:Nat) (u:Value):Obj.mapSeq (·.setIfInBounds j u) {cls:= .type "list",data:= .seq its.toArray n}={cls:= .type "list",data:= .seq (its.set j u).toArray n}:=by
 simp[Obj.mapSeq]
theorem Inv.lst {pins:List (Addr×Obj)} {σ:St} {H:Hp} {s:Shared} {p:Addr} {xs:List V} (I:Inv X pins σ H s) (h:H p=some (.lst xs)):
  ∃(its:List Value) (n:Nat),Vals xs its/\s.heap.get? p=some {cls:= .type "list",data:= .seq its.toArray n}/\xs.length<=sizeLine:=by
 obtain⟨z,its,n,r,e⟩:=I.hok p _ h
 exact⟨its,n,r,e,z⟩
theorem Inv.lstUpd {pins:List (Addr×Obj)} {σ:St} {H:Hp} {s:Shared} {p:Addr} {xs ys:List V} {its its':List Value} {n n':Nat} {f:Obj->Obj} (I:Inv X pins σ H s) (h:H p=some (.lst xs))
  (ho:s.heap.get? p=some {cls:= .type "list",data:= .seq its.toArray n}) (hf:f {cls:= .type "list",data:= .seq its.toArray n}={cls:= .type "list",data:= .seq its'.toArray n'}) (r:Vals ys its') (hz:ys.length<=sizeLine) (t:Nat):
  Inv X pins σ (aE H p (.lst ys)) {s with heap:=s.heap.update p f,toks:=t}:=by
 have e:(s.heap.update p f).get? p=some {cls:= .type "list",data:= .seq its'.toArray n'}:=by
  rw[Heap.get?_update_self f ho (by rw[hf]<;>rfl),hf]
 refine I.write (x:=p) (e:=p) (by rw[h];trivial) (.inl rfl) (fun b u hb q=>(Heap.get?_update_other _ _ (Ne.symm hb)).trans q) ⟨_,e⟩ ?_
 exact⟨hz,its',n',r,e⟩
def Bp:V->V->V->Hp->(Hp->Prop)->Prop:=fun o i v H Q=>∃p xs k j,o= .ref p/\i= .int k/\H p=some (.lst xs)/\xH xs.length k=some j/\Q (aE H p (.lst (xs.set j v)))
theorem iE:Ba X Bp:=by
 intro pins s σ H o i v ov iv u Q I ro ri rv h
 obtain⟨p,xs,k,j,rfl,rfl,hp,hj,q⟩:=h
 cases ro
 obtain⟨t,rfl⟩:=ri
 obtain⟨its,n,r,ho,hz⟩:=I.lst hp
 obtain⟨h1,h2,h3,h4⟩:=rO hj
 have hl:=r.length
 have hn:=kD
 have I':Inv X pins σ (aE H p (.lst (xs.set j v))) {s with heap:=s.heap.update p (Obj.mapSeq (·.setIfInBounds j u))}:=
  I.lstUpd hp ho (qp its n j u) (r.set rv j) (by rw[FR];exact hz) s.toks
 by_cases h0:0<=k
 ·have hk:k.toNat=j:=by
   rw[seqIndex_of h0 h4]at h1
   exact Option.some.inj h1
  exact PySem.W.ki_setAt ho h0 (by omega) (by rw[DT,<- hl];exact h4) (by rw[hk];exact⟨_,I',q⟩)
 ·have hk:(k+(its.toArray.size:Int)).toNat=j:=by
   rw[seqIndex_neg (by omega) h3]at h1
   rw[DT,<- hl]
   exact Option.some.inj h1
  exact PySem.W.ki_setBack ho (by omega) (by rw[DT,<- hl];exact h3) (by omega) (by rw[hk];exact⟨_,I',q⟩)
theorem nL (lo hi:Option Int) (n:Nat):(sliceBounds lo hi none n).1=((HT.qo n 0 lo:Nat):Int)/\(sliceBounds lo hi none n).2.1=((HT.qo n n hi:Nat):Int)/\(sliceBounds lo hi none n).2.2=1:=by
 have one:∀(i:Int) (d:Nat),max 0 (min (if i<0 then i+(n:Int)else i) (n:Int))=((HT.qo n d (some i):Nat):Int):=fun i d=>by
  rw[<- HT.xS]
  by_cases h:i<0
  ·rw [if_pos h,if_pos h,Int.min_eq_left (by omega),Int.max_comm]
  ·rw [if_neg h,if_neg h,Int.max_eq_right (Int.le_min.mpr ⟨Int.not_lt.mp h,Int.natCast_nonneg n⟩)]
 refine⟨?_,?_,rfl⟩
 ·cases lo with
  | none=>rfl
  | some i=>exact one i 0
 ·cases hi with
  | none=>rfl
  | some i=>exact one i n
theorem md (its:List Value) (lo hi:Option Int):slicePick its.toArray lo hi none=((its.drop (HT.qo its.length 0 lo)).take (HT.qo its.length its.length hi-HT.qo its.length 0 lo)).toArray:=by
 obtain⟨h1,h2,h3⟩:=nL lo hi its.toArray.size
 unfold slicePick
 rw[h1,h2,h3]
 simp only[sliceRange_one,pick_run,DT]<;>rfl
def Bq (K:PySem.W.Frag):V->Option Int->Option Int->Hp->VK->Prop:=fun x lo hi H Q=>∃a xs,x= .ref a/\SqL K H a xs/\∀p,H p=none->Q (.ref p) (aE H p (.lst (i8 xs lo hi)))
theorem xW:B3 X (Bq X.K):=by
 intro pins s σ H x v vl vu lo hi sl Q I rx hs pl pu h
 obtain⟨a,xs,rfl,hx,q⟩:=h
 cases rx
 obtain⟨its,r,ht,hz⟩:=I.list hx
 have hlen:=r.length
 refine⟨"list",_,slot_list_getitem.lookup,ht.isList.typeIs,?_⟩
 refine wpAny_getItem_list_slice ht.isList hs pl pu .none (by simp) ?_ (by rw[DT]<;>omega)
 rw[md,<- hlen]
 refine⟨.ref s.heap.objs.size,_,I.laid (t':=s.toks) (o:= .lst (i8 xs lo hi)) (fun b ob q=>Heap.get?_push_of_some _ q) (DS _) ?_,rfl,q _ (I.hok.fresh (DS _))⟩
 exact⟨Ek (oO xs lo hi) hz,_,0,(r.drop (HT.qo xs.length 0 lo)).take (HT.qo xs.length xs.length hi-HT.qo xs.length 0 lo),Heap.get?_push_size _ rfl⟩
def de:V->Bool
 | .non=>true
 | .bl _=>true
 | .int _=>true
 | .str _=>true
 | _=>false
def rQ:V->V->Bool
 | .non,.non=>true
 | .bl a,.bl b=>a==b
 | .bl a,.int b=>(if a then 1 else 0)==b
 | .int a,.bl b=>a==(if b then 1 else 0)
 | .int a,.int b=>a==b
 | .str a,.str b=>a==b
 | _,_=>false
theorem vB {A:Around} {s:Shared} {y x:V} {u v:Value} (ry:RelV y u) (rx:RelV x v) (fy:de y=true) (fx:de x=true):SeqAt.EqAt A s u v (rQ y x):=by
 cases y with
 | non=>
  cases ry
  cases x with
  | non=>cases rx;exact SeqAt.EqAt.same _
  | bl b=>cases rx;exact SeqAt.EqAt.none_bool b
  | int b=>obtain⟨t,rfl⟩:=rx;exact SeqAt.EqAt.none_int b t
  | str b=>obtain⟨t,rfl⟩:=rx;exact SeqAt.EqAt.none_str b t
  | _=>exact absurd (show false=true from fx) DU
 | bl a=>
  cases ry
  cases x with
  | non=>cases rx;exact SeqAt.EqAt.bool_none a
  | bl b=>cases rx;exact SeqAt.EqAt.bool_bool a b
  | int b=>obtain⟨t,rfl⟩:=rx;exact SeqAt.EqAt.bool_int a b t
  | str b=>obtain⟨t,rfl⟩:=rx;exact SeqAt.EqAt.bool_str a b t
  | _=>exact absurd (show false=true from fx) DU
 | int a=>
  obtain⟨t',rfl⟩:=ry
  cases x with
  | non=>cases rx;exact SeqAt.EqAt.int_none a t'
  | bl b=>cases rx;exact SeqAt.EqAt.int_bool a t' b
  | int b=>obtain⟨t,rfl⟩:=rx;exact SeqAt.EqAt.int_int a t' b t
  | str b=>obtain⟨t,rfl⟩:=rx;exact SeqAt.EqAt.int_str a t' b t
  | _=>exact absurd (show false=true from fx) DU
 | str a=>
  obtain⟨t',rfl⟩:=ry
  cases x with
  | non=>cases rx;exact SeqAt.EqAt.str_none a t'
  | bl b=>cases rx;exact SeqAt.EqAt.str_bool a t' b
  | int b=>obtain⟨t,rfl⟩:=rx;exact SeqAt.EqAt.str_int a t' b t
  | str b=>obtain⟨t,rfl⟩:=rx;exact SeqAt.EqAt.str_str a t' b t
  | _=>exact absurd (show false=true from fx) DU
 | _=>exact absurd (show false=true from fy) DU
def qr (x:V) (u:Value):Bool:=match u with
 | .none=>rQ .non x
 | .bool b=>rQ (.bl b) x
 | .int i _=>rQ (.int i) x
 | .str z _=>rQ (.str z) x
 | _=>false
theorem vC {x y:V} {u:Value} (r:RelV y u) (f:de y=true):qr x u=rQ y x:=by
 cases y with
 | non=>cases r;rfl
 | bl b=>cases r;rfl
 | int i=>obtain⟨t,rfl⟩:=r;rfl
 | str z=>obtain⟨t,rfl⟩:=r;rfl
 | _=>exact absurd (show false=true from f) DU
theorem j8 {x:V}:∀{xs:List V} {us:List Value},Vals xs us->xs.all de=true->us.any (qr x)=xs.any fun y=>rQ y x:=by
 intro xs us h
 induction h with
 | nil=>intro _;rfl
 | cons r t ih=>
  intro f
  rw[List.all_cons,EF]at f
  rw[FI,FI,vC r f.1,ih f.2]
theorem iF {A:Around} {s:Shared} {x:V} {v:Value} (rx:RelV x v) (fx:de x=true):∀{xs:List V} {us:List Value},Vals xs us->xs.all de=true->∀u∈us,SeqAt.EqAt A s u v (qr x u):=by
 intro xs us h
 induction h with
 | nil=>intro _ u hu;cases hu
 | cons r t ih=>
  intro f u' hu
  rw[List.all_cons,EF]at f
  rcases Ed.mp hu with rfl | hu
  ·rw [vC r f.1];exact vB r rx f.1 fx
  ·exact ih f.2 u' hu
def B4 (x:V) (xs:List V):Bool:=xs.any fun y=>rQ y x
def B5 (K:PySem.W.Frag) (neg:Bool):R2:=fun x y H Q=>∃p xs,y= .ref p/\(SqL K H p xs\/SqT K H p xs)/\de x=true/\xs.all de=true/\Q (.bl (if neg then !B4 x xs else B4 x xs)) H
theorem tV:gu X (compareOp .In) (B5 X.K false):=by
 intro pins s σ H x y v u Q I rx ry h
 obtain⟨p,xs,rfl,hq,fx,fs,q⟩:=h
 cases ry
 rcases hq with hq | hq
 ·obtain⟨its,r,pl,hz⟩:=I.list hq
  refine SeqAt.in_listAt (qr x) pl.isList (fun w hw=>iF rx fx r fs w (by simpa using hw)) ⟨.bl _,H,I,rfl,?_⟩
  rw[show its.toArray.any (qr x)=its.any (qr x) by simp,j8 r fs]
  exact q
 ·obtain⟨its,r,pl,hz⟩:=I.tuple hq
  refine SeqAt.in_tupleAt (qr x) pl (fun w hw=>iF rx fx r fs w (by simpa using hw)) ⟨.bl _,H,I,rfl,?_⟩
  rw[show its.toArray.any (qr x)=its.any (qr x) by simp,j8 r fs]
  exact q
theorem nM:gu X (compareOp .NotIn) (B5 X.K true):=by
 intro pins s σ H x y v u Q I rx ry h
 obtain⟨p,xs,rfl,hq,fx,fs,q⟩:=h
 cases ry
 rcases hq with hq | hq
 ·obtain⟨its,r,pl,hz⟩:=I.list hq
  refine SeqAt.notIn_listAt (qr x) pl.isList (fun w hw=>iF rx fx r fs w (by simpa using hw)) ⟨.bl _,H,I,rfl,?_⟩
  rw[show its.toArray.any (qr x)=its.any (qr x) by simp,j8 r fs]
  exact q
 ·obtain⟨its,r,pl,hz⟩:=I.tuple hq
  refine SeqAt.notIn_tupleAt (qr x) pl (fun w hw=>iF rx fx r fs w (by simpa using hw)) ⟨.bl _,H,I,rfl,?_⟩
  rw[show its.toArray.any (qr x)=its.any (qr x) by simp,j8 r fs]
  exact q
theorem nN:cu X (.type "list") (fun xs H Q=>∃p ys,xs=[.ref p]/\(SqL X.K H p ys\/SqT X.K H p ys)/\∀l,H l=none->Q (.ref l) (aE H l (.lst ys))):=by
 intro pins s σ H xs us Q I r h
 obtain⟨p,ys,rfl,hq,q⟩:=h
 obtain⟨u,rfl,rx⟩:=fI r
 cases rx
 have fin:∀(its:List Value),Vals ys its->ys.length<=sizeLine->∀(h':Heap) (c':Nat),(∀b o',s.heap.get? b=some o'->h'.get? b=some o')->
   h'.get? s.heap.objs.size=some {cls:= .type "list",dict:=none,data:= .seq its.toArray c',slots:=#[]}->EP X pins σ Q (.ref s.heap.objs.size) {s with heap:=h'}:=fun its r' hz h' c' kp e=>
  ⟨.ref s.heap.objs.size,_,I.laid (t':=s.toks) kp (DS _) (show ObjOk X.prog X.w _ h' _ (.lst ys)from⟨hz,its,c',r',e⟩),rfl,q _ (I.hok.fresh (DS _))⟩
 rcases hq with hq | hq
 ·obtain⟨its,r',pl,hz⟩:=I.list hq
  have hlen:=r'.length
  obtain⟨o,ho,hc,n,hd⟩:=pl.isList
  exact call_list_seq p (.inl rfl) ho hc hd (fun h' c' kp e=>fin its r' hz h' c' kp e) (by simp only[DT]<;>omega)
 ·obtain⟨its,r',pl,hz⟩:=I.tuple hq
  have hlen:=r'.length
  obtain⟨o,ho,hc,n,hd⟩:=pl
  exact call_list_seq p (.inr rfl) ho hc hd (fun h' c' kp e=>fin its r' hz h' c' kp e) (by simp only[DT]<;>omega)
theorem me:cu X (.type "tuple") (fun xs H Q=>∃p ys,xs=[.ref p]/\((SqL X.K H p ys/\∀l,H l=none->Q (.ref l) (aE H l (.tup ys)))\/(SqT X.K H p ys/\Q (.ref p) H))):=by
 intro pins s σ H xs us Q I r h
 obtain⟨p,ys,rfl,h⟩:=h
 obtain⟨u,rfl,rx⟩:=fI r
 cases rx
 rcases h with⟨hq,q⟩ | ⟨hq,q⟩
 ·obtain⟨its,r',pl,hz⟩:=I.list hq
  have hlen:=r'.length
  refine call_tuple_list pl.isList (fun h' kp=>?_) (by simp only[DT]<;>omega)
  have I1:Inv X pins σ H {s with heap:=h'}:=I.kept (t':=s.toks) kp
  have I2:Inv X pins σ (aE H h'.objs.size (.tup ys)) {s with heap:=h'.push {cls:= .type "tuple",data:= .seq its.toArray}}:=
   I1.laid (t':=s.toks) (fun b o e=>Heap.get?_push_of_some _ e) (DS _) (show ObjOk X.prog X.w _ _ _ (.tup ys)from⟨hz,its,r',IsTup.new _ _⟩)
  exact⟨.ref h'.objs.size,_,I2,rfl,q _ (I1.hok.fresh (DS _))⟩
 ·obtain⟨its,r',pl,hz⟩:=I.tuple hq
  exact call_tuple_same pl ⟨.ref p,H,I,rfl,q⟩
def CD (K:PySem.W.Frag) (T:String) (x:V) (H:Hp):Prop:=match x with
 | .str _=>T="str"
 | .int _=>T="int"
 | .ref p=>(T="list"/\∃xs,SqL K H p xs)\/(T="tuple"/\∃o,K.lookup p=some o/\o.cls= .type "tuple"/\o.dict=none)\/
  (T="dict"/\((∃kvs,H p=some (.dK kvs))\/∃kvs,H p=some (.dT kvs)))\/(T="set"/\∃S n,H p=some (.set S n))
 | _=>False
theorem vD {pins:List (Addr×Obj)} {σ:St} {H:Hp} {s:Shared} {T:String} {x:V} {v:Value} (I:Inv X pins σ H s) (r:RelV x v) (ty:CD X.K T x H):
  s.TypeIs v T/\∀a,v= .ref a->∃ob,s.heap.get? a=some ob/\ob.dict=none:=by
 cases x with
 | str z=>
  obtain⟨t,rfl⟩:=r
  cases(show T="str" from ty)
  exact⟨typeIs_str s z t,fun _ e=>nomatch e⟩
 | int i=>
  obtain⟨t,rfl⟩:=r
  cases(show T="int" from ty)
  exact⟨typeIs_int s i t,fun _ e=>nomatch e⟩
 | ref p=>
  cases r
  rcases ty with⟨rfl,xs,hq⟩ | ⟨rfl,o,hk,hc,hd⟩ | ⟨rfl,hk⟩ | ⟨rfl,S,n,hk⟩
  ·obtain⟨its,_,pl,_⟩:=I.list hq
   refine⟨pl.isList.typeIs,fun a e=>?_⟩
   cases e
   obtain⟨o,n,e,c,hd,_⟩:=pl
   exact⟨o,e,hd⟩
  ·refine⟨⟨o,I.kIn p o hk,hc⟩,fun a e=>?_⟩
   cases e
   exact⟨o,I.kIn _ o hk,hd⟩
  ·have z:∃o,s.heap.get? p=some o/\o.ExactDict:=by
    rcases hk with⟨kvs,hk⟩ | ⟨kvs,hk⟩
    ·obtain⟨_,_,_,_,o,_,_,e,ex,_⟩:=I.hok p _ hk
     exact⟨o,e,ex⟩
    ·obtain⟨_,_,_,_,o,_,_,e,ex,_⟩:=I.hok p _ hk
     exact⟨o,e,ex⟩
   obtain⟨o,e,ex⟩:=z
   refine⟨⟨o,e,ex.1⟩,fun a e2=>?_⟩
   cases e2
   exact⟨o,e,ex.2.1⟩
  ·obtain⟨o,_,_,_,e,ex,_⟩:=I.hok p _ hk
   refine⟨⟨o,e,ex.1⟩,fun a e2=>?_⟩
   cases e2
   exact⟨o,e,ex.2.1⟩
 | _=>exact False.elim ty
def CF (K:PySem.W.Frag) (T:String) (r:V->List V->Hp->VK->Prop) (to:TE):TE:=fun σ H Q=>to σ H fun x H1=>CD K T x H1/\r x [] H1 Q
def Dh (K:PySem.W.Frag) (T:String) (r:V->List V->Hp->VK->Prop) (to:TE) (t:TA):TE:=fun σ H Q=>to σ H fun x H1=>CD K T x H1/\t σ H1 fun xs H2=>r x xs H2 Q
variable {o e:Expr} {es:List Expr} {to:TE} {t:TA} {name:Str} {apos cpos:Pos} {T id:String} {r:V->List V->Hp->VK->Prop}
theorem zW (pa:PlainAttrs T) (slot:Slot T name id) (hty:typeOf (.builtin id)=pure (.type "method_descriptor")) (hm:CC X id r) (ho:PE X o to)
  (hbase:attributeBase o name X.env (eval o X.env)=eval o X.env:=by rfl) (hline:(apos.endLine==cpos.line)=true:=by rfl):PE X (.Call (.Attribute o name apos) [] [] cpos) (CF X.K T r to):=by
 intro pins s σ H Q I h
 refine wpAny_Call_method0_late hbase hline (bF (ho pins s σ H _ I h) fun v s1 hq__=>?_)
 obtain⟨x,H1,I1,r1,ty,q1⟩:=hq__
 obtain⟨h1,h2⟩:=vD I1 r1 ty
 exact⟨T,id,pa,slot,hty,h1,h2,Calls.callWith_builtin rfl (PySem.evalArgs_none (hm pins s1 σ H1 x [] v [] Q I1 r1 .nil q1))⟩
theorem dP (pa:PlainAttrs T) (slot:Slot T name id) (hty:typeOf (.builtin id)=pure (.type "method_descriptor")) (hm:CC X id r) (ho:PE X o to) (ha:PA X (e :: es) t)
  (hbase:attributeBase o name X.env (eval o X.env)=eval o X.env:=by rfl)
  (hfew:((backTo cpos (starEach (e :: es) X.env)).all (fun x=> !x.1)&&(backToKw cpos (keywordEach [] X.env)).all (fun x=>x.1.isSome)
   &&decide ((e :: es).length+([]:List Keyword).length+(if([]:List Keyword).isEmpty then 0 else 1)<30))=true:=by rfl)
  (hline:(apos.endLine==cpos.line)=true:=by rfl) (hs:starEach (e :: es) X.env=(false,eval e X.env) :: starEach es X.env:=by rfl) (hplain:(backTo cpos (starEach es X.env)).any (·.1)=false:=by rfl):
  PE X (.Call (.Attribute o name apos) (e :: es) [] cpos) (Dh X.K T r to t):=by
 intro pins s σ H Q I h
 refine wpAny_Call_method_late hbase hfew hline rfl (bF (ho pins s σ H _ I h) fun v s1 hq__=>?_)
 obtain⟨x,H1,I1,r1,ty,q1⟩:=hq__
 obtain⟨h1,h2⟩:=vD I1 r1 ty
 refine⟨T,id,pa,slot,hty,h1,h2,?_⟩
 have hA:=ha cpos pins s1 σ H1 _ I1 q1
 rw[hs]at hA ⊢
 refine Calls.callWith_builtin (by show(false||(backTo cpos (starEach es X.env)).any (·.1))=false;rw[hplain]<;>rfl) (Calls.evalArgs_plain ?_)
 exact bF hA fun us s2 ⟨vs,H2,I2,r2,q2⟩=>hm pins s2 σ H2 x vs v us Q I2 r1 r2 q2
end
def CG (X:Cx) (id:String) (r:V->List V->Hp->VK->Prop):Prop:=
 ∀(pins:List (Addr×Obj)) (s:Shared) (σ:St) (H:Hp) (x:V) (xs:List V) (v:Value) (us:List Value) (Q:VK),Inv X pins σ H s->RelV x v->Vals xs us->r x xs H Q->
  wpAny (model X.prog X.w) X.A (call (.builtin id) (v :: us)) (EP X pins σ Q) X.xe s
theorem Vals.one:∀{x:V} {us:List Value},Vals [x] us->∃u,us=[u]/\RelV x u:=by
 intro x us h
 cases h with
 | cons r t=>cases t;exact⟨_,rfl,r⟩
theorem Vals.two {x y:V} {us:List Value} (h:Vals [x,y] us):∃u v,us=[u,v]/\RelV x u/\RelV y v:=rM h
theorem Vals.zero:∀{us:List Value},Vals [] us->us=[]
 | _,.nil=>rfl
theorem Vals.rep {xs:List V} {us:List Value} (h:Vals xs us):∀k:Nat,Vals (Ey k xs).flatten (Ey k us).flatten
 | 0=> .nil
 | k+1=>by
  rw[EY,EY,Fw,Fw]
  exact Vals.append h (Vals.rep h k)
theorem tW (its:List Value) (k:Nat) (acc:List Value):List.foldl (fun x1 x2=>x1++x2) acc.toArray (Ey k its.toArray)=(acc++(Ey k its).flatten).toArray:=by
 induction k generalizing acc with
 | zero=>simp
 | succ k ih=>
  have e:acc.toArray++its.toArray=(acc++its).toArray:=by simp
  have e2:(acc++its)++(Ey k its).flatten=acc++(Ey (k+1) its).flatten:=by
   rw[EY,Fw,FZ]
  rw[<- e2,<- ih (acc++its),<- e,EY,FS]
section
variable {X:Cx} {pins:List (Addr×Obj)} {σ:St} {H:Hp} {s:Shared} {l b:Addr} {xs ys zs:List V}
theorem Inv.lset {its its':List Value} {n:Nat} {f:Array Value->Array Value} {t':Nat} (I:Inv X pins σ H s) (hH:H l=some (.lst xs))
  (e:s.heap.get? l=some {cls:= .type "list",data:= .seq its.toArray n}) (hf:f its.toArray=its'.toArray) (hv:Vals ys its') (hz:ys.length<=sizeLine):
  Inv X pins σ (aE H l (.lst ys)) {s with heap:=s.heap.update l (Obj.mapSeq f),toks:=t'}:=by
 have q:=PySem.IsL.update e f
 rw[hf]at q
 refine I.write (x:=l) (e:=l) (by rw[hH];exact trivial) (.inl rfl) (fun b' u hb hu=>(Heap.get?_update_other s.heap (Obj.mapSeq f) (Ne.symm hb)).trans hu) ⟨_,q⟩ ?_
 exact⟨hz,its',_,hv,q⟩
theorem Inv.lnew {its:List Value} {t':Nat} (I:Inv X pins σ H s) (hv:Vals ys its) (hz:ys.length<=sizeLine):
  Inv X pins σ (aE H s.heap.objs.size (.lst ys)) {s with heap:=s.heap.push {cls:= .type "list",data:= .seq its.toArray},toks:=t'}:=
 I.laid (fun _ _ q=>Heap.get?_push_of_some _ q) (DS _) ⟨hz,its,0,hv,Heap.get?_push_size _ rfl⟩
theorem Inv.fresh (I:Inv X pins σ H s):H s.heap.objs.size=none:=I.hok.fresh (DS _)
theorem Inv.lstM (I:Inv X pins σ H s) (hH:H l=some (.lst xs)):xs.length<=sizeLine/\∃(its:List Value) (n:Nat),Vals xs its/\xs.length=its.length/\s.heap.get? l=some {cls:= .type "list",data:= .seq its.toArray n}:=by
 obtain⟨z,its,n,r,e⟩:=I.hok l _ hH
 exact⟨z,its,n,r,r.length,e⟩
theorem oP {n:Nat} (h:n<=sizeLine):Builtin.List.listTooLong n=false:=by
 unfold Builtin.List.listTooLong
 exact decide_eq_false (by omega)
end
section
variable {X:Cx}
def xX:V->List V->Hp->VK->Prop:=fun x vs H Q=>∃l xs y,x= .ref l/\vs=[y]/\H l=some (.lst xs)/\xs.length<sizeLine/\Q .non (aE H l (.lst (xs++[y])))
theorem a8:CG X "list.append" xX:=by
 intro pins s σ H x vs v us Q I rx rv h
 obtain⟨l,xs,y,rfl,rfl,hH,hz,q⟩:=h
 cases rx
 obtain⟨u,rfl,ru⟩:=rv.one
 obtain⟨z,its,n,r,hl,e⟩:=I.lstM hH
 refine call_meets F.slot_list_append ⟨_,e,rfl⟩ F.entry_list_append (F.args_list_append_2 _ _) (PySem.list_append l its.toArray n u (by rw[DT];omega)) ⟨e,?_⟩
 refine⟨.non,_,I.lset (its':=its++[u]) hH e (by simp) (r.append (.cons ru .nil)) ?_,rfl,q⟩
 rw[DX,Ec]
 omega
def xY:V->List V->Hp->VK->Prop:=fun x vs H Q=>∃l b xs zs,x= .ref l/\vs=[.ref b]/\H l=some (.lst xs)/\H b=some (.lst zs)/\xs.length+zs.length<=sizeLine/\Q .non (aE H l (.lst (xs++zs)))
theorem AX:CG X "list.extend" xY:=by
 intro pins s σ H x vs v us Q I rx rv h
 obtain⟨l,b,xs,zs,rfl,rfl,hH,hB,hz,q⟩:=h
 cases rx
 obtain⟨u,rfl,ru⟩:=rv.one
 cases ru
 obtain⟨z,its,n,r,hl,e⟩:=I.lstM hH
 obtain⟨z2,its2,n2,r2,hl2,e2⟩:=I.lstM hB
 have hsz:its.toArray.size+its2.toArray.size<=sizeLine:=by rw[DT,DT];omega
 have hlong:¬(!its.toArray.isEmpty&&Builtin.List.listTooLong (its.toArray.size+its2.toArray.size))=true:=by
  rw[oP hsz,Bool.and_false]
  exact DU
 refine call_meets F.slot_list_extend ⟨_,e,rfl⟩ F.entry_list_extend (F.args_list_extend_2 _ _)
  (AutoSeq1.list_extend_list_list_0 l its.toArray n b its2.toArray n2 hlong (by rw[DT];omega) (by omega)) ⟨e,e2,?_⟩
 refine⟨.non,_,I.lset (its':=its++its2) hH e (by simp) (r.append r2) ?_,rfl,q⟩
 rw[DX]
 omega
def CH:R2:=fun x y H Q=>∃l b xs zs,x= .ref l/\y= .ref b/\H l=some (.lst xs)/\H b=some (.lst zs)/\xs.length+zs.length<=sizeLine/\∀p,H p=none->Q (.ref p) (aE H p (.lst (xs++zs)))
theorem eF:gu X (binaryOp .Add) CH:=by
 intro pins s σ H x y v u Q I rx ry h
 obtain⟨l,b,xs,zs,rfl,rfl,hH,hB,hz,q⟩:=h
 cases rx
 cases ry
 obtain⟨z,its,n,r,hl,e⟩:=I.lstM hH
 obtain⟨z2,its2,n2,r2,hl2,e2⟩:=I.lstM hB
 refine PySem.P.add_list e e2 ?_ (by rw[DT,DT];omega)
 have ea:its.toArray++its2.toArray=(its++its2).toArray:=by simp
 rw[ea]
 exact⟨.ref _,_,I.lnew (t':=s.toks) (r.append r2) (by rw[DX];omega),rfl,q _ I.fresh⟩
def CI:R2:=fun x y H Q=>∃l k xs,x= .ref l/\y= .int k/\H l=some (.lst xs)/\ -(2^63)<=k/\k<2^63/\xs.length*k.toNat<=sizeLine/\
 ∀p,H p=none->Q (.ref p) (aE H p (.lst (Ey k.toNat xs).flatten))
theorem xZ {α:Type} (xs:List α) (k:Nat):(Ey k xs).flatten.length=k*xs.length:=by
 induction k with
 | zero=>simp
 | succ k ih=>rw[EY,Fw,DX,ih,Nat.succ_mul,Nat.add_comm]
theorem vE:gu X (binaryOp .Mult) CI:=by
 intro pins s σ H x y v u Q I rx ry h
 obtain⟨l,k,xs,rfl,rfl,hH,h1,h2,hz,q⟩:=h
 cases rx
 obtain⟨t,rfl⟩:=ry
 obtain⟨z,its,n,r,hl,e⟩:=I.lstM hH
 have hlen:its.toArray.size*k.toNat<=sizeLine:=by rw[DT,<- hl];exact hz
 have hcap:¬its.toArray.size*k.toNat>(2^63-1)/8:=by
  have:(sizeLine:Nat)<=(2^63-1)/8:=by decide
  omega
 have hfit:¬(!Builtin.List.listFitsIndex k)=true:=by
  rw[fitsIndex_both h1 h2]
  exact DU
 have hlong:¬Builtin.List.listTooLong (its.toArray.size*k.toNat)=true:=by
  rw[oP hlen]
  exact DU
 have hnew:List.foldl (fun x1 x2=>x1++x2) #[] (Ey (if its.toArray.isEmpty=true then 0 else k.toNat) its.toArray)=(Ey k.toNat its).flatten.toArray:=by
  have f0:∀m:Nat,List.foldl (fun x1 x2=>x1++x2) #[] (Ey m its.toArray)=(Ey m its).flatten.toArray:=fun m=>by
   have:=tW its m []
   rw[List.nil_append]at this
   exact this
  rw[f0]
  cases its with
  | nil=>simp
  | cons a r'=>rw[if_neg (by simp)]
 refine wpAny_binaryOp_repeat_ref (T:="list") (U:="int") (by decide) ⟨_,e,rfl⟩ (fun s'=>typeIs_int s' k t) noFill_list_mul F.fills_int_mul F.slot_int_rmul repeat_list F.slot_int_index.lookup
  (call_meets F.slot_int_rmul (typeIs_int s k t) F.entry_int_rmul (F.args_int_rmul_2 _ _) (int___rmul___int_list k t l its.toArray n)
   ⟨e,rfl,⟨_,e,rfl⟩,call_meets F.slot_list_mul ⟨_,e,rfl⟩ F.entry_list_mul (F.args_list_mul_2 _ _) (AutoListH.list___mul___list_int_3 l its.toArray n k t hfit hcap hlong) ⟨e,?_⟩⟩)
 rw[hnew]
 exact⟨.ref _,_,I.lnew (t':=s.toks) (r.rep k.toNat) (by rw[xZ,Nat.mul_comm];exact hz),rfl,q _ I.fresh⟩
end
section
variable {prog:Program} {w:World} {A:Around} {E:Value->Shared->Prop} {s:Shared}
end
section
variable {X:Cx}
end
section
variable {κ:Type} [DecidableEq κ]
def bG (kvs:List (κ×V)) (k:κ):Option V:=(kvs.find? fun kv=>decide (kv.1=k)).map (·.2)
def cH (kvs:List (κ×V)) (k:κ) (v:V):List (κ×V):=
 if(kvs.any fun kv=>decide (kv.1=k))=true then kvs.map (fun kv=>if kv.1=k then(kv.1,v)else kv)else kvs++[(k,v)]
theorem bH {p:κ×V} {r:List (κ×V)} {k:κ} (e:p.1=k):bG (p :: r) k=some p.2:=by simp[bG,FF,e]
theorem bI {p:κ×V} {r:List (κ×V)} {k:κ} (e:¬p.1=k):bG (p :: r) k=bG r k:=by simp[bG,FF,e]
theorem cz (k:κ) (kvs:List (κ×V)):(kvs.any fun kv=>decide (kv.1=k))=(bG kvs k).isSome:=by
 induction kvs with
 | nil=>rfl
 | cons p r ih=>
  rw[FI]
  by_cases e:p.1=k
  ·simp only[bH e,decide_eq_true e,Bool.true_or,Option.isSome_some]
  ·rw [bI e,decide_eq_false e,Bool.false_or];exact ih
theorem vF (k j:κ) (y:V) (kvs:List (κ×V)):bG (kvs.map fun kv=>if kv.1=k then(kv.1,y)else kv) j=(bG kvs j).map fun x=>if j=k then y else x:=by
 induction kvs with
 | nil=>rfl
 | cons p r ih=>
  rw[En]
  by_cases h:p.1=k
  ·rw [if_pos h]
   by_cases e:p.1=j
   ·rw [bH (p:=(p.1,y)) e,bH e,FG,if_pos (e.symm.trans h)]
   ·rw [bI (p:=(p.1,y)) e,bI e,ih]
  ·rw [if_neg h]
   by_cases e:p.1=j
   ·rw [bH (p:=p) e,bH e,FG,if_neg (fun z=>h (e.trans z))]
   ·rw [bI (p:=p) e,bI e,ih]
theorem tX (k j:κ) (y:V):∀kvs:List (κ×V),bG kvs k=none->bG (kvs++[(k,y)]) j=if j=k then some y else bG kvs j:=by
 intro kvs
 induction kvs with
 | nil=>
  intro _
  by_cases e:k=j
  ·rw [if_pos e.symm];exact bH (p:=(k,y)) e
  ·rw [if_neg (fun z=>e z.symm)];exact bI (p:=(k,y)) e
 | cons p r ih=>
  intro hn
  rw[List.cons_append]
  have hk:¬p.1=k:=fun z=>by rw[bH z]at hn;cases hn
  rw[bI hk]at hn
  have ih:=ih hn
  by_cases e:p.1=j
  ·rw [bH e,bH e,if_neg (fun z=>hk (e.trans z))]
  ·rw [bI e,bI e,ih]
theorem oQ (kvs:List (κ×V)) (k j:κ) (y:V):bG (cH kvs k y) j=if j=k then some y else bG kvs j:=by
 unfold cH
 by_cases a:(kvs.any fun kv=>decide (kv.1=k))=true
 ·rw [if_pos a,vF]
  rw[cz]at a
  by_cases e:j=k
  ·obtain⟨x,hx⟩:=ES.mp a
   rw[if_pos e,e,hx,FG,if_pos rfl]
  ·rw [if_neg e]
   cases bG kvs j with
   | none=>rfl
   | some x=>rw[FG,if_neg e]
 ·rw [if_neg a]
  refine tX k j y kvs ?_
  rw[cz]at a
  cases q:bG kvs k with
  | none=>rfl
  | some x=>rw[q]at a;exact(a rfl).elim
theorem fS (kvs:List (κ×V)) (k:κ) (v:V):(cH kvs k v).length<=kvs.length+1:=by
 unfold cH
 split
 ·rw [DI];omega
 ·rw [DX,EK,List.length_nil];omega
theorem vG {kvs:List (κ×V)} {k:κ} (v:V) (h:bG kvs k=none):cH kvs k v=kvs++[(k,v)]:=by
 unfold cH
 rw[cz,h]
 exact if_neg (by decide)
theorem RelO.isSome_eq {o:Option V} {u:Option Value} (r:RelO o u):o.isSome=u.isSome:=by
 cases o with
 | none=>cases u with
  | none=>rfl
  | some _=>exact(show False from r).elim
 | some _=>cases u with
  | none=>exact(show False from r).elim
  | some _=>rfl
theorem KV.val {kvs:List (κ×V)} {vs:List (κ×Value)} (r:KV kvs vs) (k:κ):RelO (bG kvs k) (valueAt vs k):=by
 unfold KV at r
 induction r with
 | nil=>exact True.intro
 | @cons p q ps qs h t ih=>
  obtain⟨h1,h2⟩:=h
  by_cases e:p.1=k
  ·have e':q.1=k:=h1.symm.trans e
   have b:valueAt (q :: qs) k=some q.2:=by simp[valueAt,FF,e']
   rw[bH e,b];exact h2
  ·have e':¬q.1=k:=fun z=>e (h1.trans z)
   have b:valueAt (q :: qs) k=valueAt qs k:=by simp[valueAt,FF,e']
   rw[bI e,b];exact ih
theorem KV.any {kvs:List (κ×V)} {vs:List (κ×Value)} (r:KV kvs vs) (k:κ):(kvs.any fun kv=>decide (kv.1=k))=vs.any fun kv=>decide (kv.1=k):=by
 unfold KV at r
 induction r with
 | nil=>rfl
 | cons h t ih=>rw[FI,FI,ih,h.1]
theorem KV.repl {kvs:List (κ×V)} {vs:List (κ×Value)} (r:KV kvs vs) (k:κ) {y:V} {u:Value} (ry:RelV y u):
  KV (kvs.map fun kv=>if kv.1=k then(kv.1,y)else kv) (vs.map fun kv=>if kv.1=k then(kv.1,u)else kv):=by
 unfold KV at r ⊢
 induction r with
 | nil=>exact .nil
 | @cons p q ps qs h t ih=>
  rw[En,En]
  refine .cons ?_ ih
  obtain⟨h1,h2⟩:=h
  by_cases e:p.1=k
  ·rw [if_pos e,if_pos (h1.symm.trans e)];exact⟨h1,ry⟩
  ·rw [if_neg e,if_neg (fun z=>e (h1.trans z))];exact⟨h1,h2⟩
theorem KV.put {kvs:List (κ×V)} {vs:List (κ×Value)} (r:KV kvs vs) (k:κ) {y:V} {u:Value} (ry:RelV y u):KV (cH kvs k y) (stored vs k u):=by
 unfold cH stored
 rw[r.any k]
 by_cases e:(vs.any fun kv=>decide (kv.1=k))=true
 ·rw [if_pos e,if_pos e];exact r.repl k ry
 ·rw [if_neg e,if_neg e];exact Paired.snoc r ⟨rfl,ry⟩
theorem KV.length {kvs:List (κ×V)} {vs:List (κ×Value)} (r:KV kvs vs):kvs.length=vs.length:=Paired.length r
end
theorem rR {P:Program} {w:World} {k:bV} {u:Value} (r:RelV (kV k) u):(bz P w).is k u=true:=by
 cases k with
 | inl i=>obtain⟨t,e⟩:=(show ∃t,u=Value.int i t from r);subst e;exact oE P w i t
 | inr x=>obtain⟨t,e⟩:=(show ∃t,u=Value.str x t from r);subst e;exact oF P w x t
theorem tY {P:Program} {w:World} {ks:List bV} {us:List Value} (r:Vals (ks.map kV) us):ItemsAre (bz P w) ks us:=by
 induction ks generalizing us with
 | nil=>cases r;exact .nil
 | cons k ks ih=>
  cases r with
  | cons h t=>exact .cons (rR h) (ih t)
abbrev KT (H:Hp):List (List bV×V)->List (List bV×Addr×Value)->Prop:=Paired fun p q=>p.1=q.1/\H q.2.1=some (.tup (p.1.map kV))/\RelV p.2 q.2.2
theorem KT.val {H:Hp} {kvs:List (List bV×V)} {xs:List (List bV×Addr×Value)} (r:KT H kvs xs) (k:List bV):RelO (bG kvs k) ((atKey xs k).map (·.2)):=by
 induction r with
 | nil=>exact True.intro
 | @cons p q ps qs h t ih=>
  obtain⟨h1,_,h2⟩:=h
  by_cases e:p.1=k
  ·have e':q.1=k:=h1.symm.trans e
   have b:atKey (q :: qs) k=some q.2:=by simp[atKey,FF,e']
   rw[bH e,b];exact h2
  ·have e':¬q.1=k:=fun z=>e (h1.trans z)
   have b:atKey (q :: qs) k=atKey qs k:=by simp[atKey,FF,e']
   rw[bI e,b];exact ih
theorem KT.repl {H:Hp} {kvs:List (List bV×V)} {xs:List (List bV×Addr×Value)} (r:KT H kvs xs) (k:List bV) {y:V} {u:Value} (ry:RelV y u):
  KT H (kvs.map fun kv=>if kv.1=k then(kv.1,y)else kv) (xs.map (putAt k u)):=by
 induction r with
 | nil=>exact .nil
 | @cons p q ps qs h t ih=>
  rw[En,En]
  refine .cons ?_ ih
  obtain⟨h1,h2,h3⟩:=h
  unfold putAt
  by_cases e:p.1=k
  ·rw [if_pos e,if_pos (h1.symm.trans e)];exact⟨h1,h2,ry⟩
  ·rw [if_neg e,if_neg (fun z=>e (h1.trans z))];exact⟨h1,h2,h3⟩
theorem KT.put {H:Hp} {kvs:List (List bV×V)} {xs:List (List bV×Addr×Value)} (r:KT H kvs xs) (k:List bV) {b:Addr} {y:V} {u:Value} (hb:H b=some (.tup (k.map kV))) (ry:RelV y u):
  KT H (cH kvs k y) (storedH xs k b u):=by
 have e:(kvs.any fun kv=>decide (kv.1=k))=(atKey xs k).isSome:=by
  rw[cz,(r.val k).isSome_eq,Option.isSome_map]
 unfold cH storedH
 rw[e]
 by_cases q:(atKey xs k).isSome=true
 ·rw [if_pos q,if_pos q];exact r.repl k ry
 ·rw [if_neg q,if_neg q];exact Paired.snoc r ⟨rfl,hb,ry⟩
theorem KT.keeps {H H':Hp} {kvs:List (List bV×V)} {xs:List (List bV×Addr×Value)} (r:KT H kvs xs) (ht:∀b ys,H b=some (.tup ys)->H' b=some (.tup ys)):KT H' kvs xs:=
 Paired.mapP r fun _ _ z=>⟨z.1,ht _ _ z.2.1,z.2.2⟩
section
variable {P:Program} {w:World} {H:Hp} {h:Heap} {a:Addr}
theorem zv {u:HO} (ok:HOk P w H h) (e:Rd H a u):ObjOk P w H h a u:=e.ok ok
theorem rS {kvs:List (bV×V)} (ok:HOk P w H h) (e:Rd H a (.dK kvs)):kvs.length<=sizeLine/\(a==sysModules)=false/\∃vs,KV kvs vs/\h.DictOf (bz P w) a vs:=
 show ObjOk P w H h a (.dK kvs)from zv ok e
theorem rT {kvs:List (bV×V)} (ok:HOk P w H h) (e:H a=some (.dK kvs)):kvs.length<=sizeLine/\(a==sysModules)=false/\∃vs,KV kvs vs/\h.DictOf (bz P w) a vs:=rS ok (.inl e)
theorem nO {ks:List bV} (ok:HOk P w H h) (e:H a=some (.tup (ks.map kV))):(tupleKind (bz P w)).is h ks a:=by
 obtain⟨_,its,r,o,h1,h2,n,h3⟩:=(show ObjOk P w H h a (.tup (ks.map kV))from ok a _ e)
 exact⟨o,its.toArray,n,h1,h2,h3,by simpa using tY r⟩
theorem rV {kvs:List (List bV×V)} (ok:HOk P w H h) (e:Rd H a (.dT kvs)):kvs.length<=sizeLine/\(a==sysModules)=false/\
  ∃xs,KT H kvs xs/\h.DictOfH (tupleKind (bz P w)) a xs:=by
 obtain⟨z,y,xs,r,o,es,ep,h1,h2,h3,h4,h5⟩:=(show ObjOk P w H h a (.dT kvs)from zv ok e)
 refine⟨z,y,xs,r,o,es,ep,h1,h2,h3,h4,fun x hx=>?_,h5⟩
 have all:∀{l:List (List bV×V)} {m:List (List bV×Addr×Value)},KT H l m->∀x∈m,(tupleKind (bz P w)).is h x.1 x.2.1:=by
  intro l m q
  induction q with
  | nil=>intro x hx;exact nomatch hx
  | @cons p q ps qs hq t ih=>
   intro x hx
   rcases Ed.mp hx with e | hx
   ·subst e
    exact nO ok (by rw[<- hq.1];exact hq.2.1)
   ·exact ih x hx
 exact all r x hx
theorem Br {kvs:List (List bV×V)} (ok:HOk P w H h) (e:H a=some (.dT kvs)):kvs.length<=sizeLine/\(a==sysModules)=false/\
 ∃xs,KT H kvs xs/\h.DictOfH (tupleKind (bz P w)) a xs:=rV ok (.inl e)
end
def DGet (H:Hp) (a:Addr) (y:V) (r:Option V):Prop:=
 (∃kvs k,Rd H a (.dK kvs)/\y=kV k/\r=bG kvs k)\/∃kvs k b,Rd H a (.dT kvs)/\y= .ref b/\H b=some (.tup (k.map kV))/\r=bG kvs k
def DPut (H:Hp) (a:Addr) (y v:V) (H':Hp):Prop:=
 (∃kvs k,H a=some (.dK kvs)/\y=kV k/\kvs.length<sizeLine/\H'=aE H a (.dK (cH kvs k v)))\/
 ∃kvs k b,H a=some (.dT kvs)/\y= .ref b/\H b=some (.tup (k.map kV))/\kvs.length<sizeLine/\H'=aE H a (.dT (cH kvs k v))
theorem DGet.k {H:Hp} {a:Addr} {kvs:List (bV×V)} {k:bV} (e:H a=some (.dK kvs)):DGet H a (kV k) (bG kvs k):= .inl ⟨kvs,k,.inl e,rfl,rfl⟩
theorem DPut.k {H:Hp} {a:Addr} {kvs:List (bV×V)} {k:bV} {v:V} (e:H a=some (.dK kvs)) (hl:kvs.length<sizeLine):DPut H a (kV k) v (aE H a (.dK (cH kvs k v))):= .inl ⟨kvs,k,e,rfl,hl,rfl⟩
section
variable {X:Cx} {pins:List (Addr×Obj)} {σ:St} {H:Hp} {s:Shared} {a:Addr} {y v:V} {u r:Value} {o:Option V} {A:Around} {E:Value->Shared->Prop}
theorem Inv.big (I:Inv X pins σ H s):sysModules<s.heap.objs.size:=by
 have h:mainGlobals<s.heap.objs.size:=(I.mod.glob.keeps I.bk).lt
 exact Nat.lt_trans (by decide) h
theorem tZ {Q:Value->Shared->Prop} (hu:A.units+1<cLine) (I:Inv X pins σ H s) (g:DGet H a y (some v)) (ry:RelV y u) (h:∀w' s',Inv X pins σ H s'->RelV v w'->Q w' s'):
  wpAny (model X.prog X.w) A (getItem (.ref a) u) Q E s:=by
 rcases g with⟨kvs,k,e,ey,l⟩ | ⟨kvs,k,b,e,ey,eb,l⟩
 ·subst ey
  obtain⟨z,hd,vs,rel,dd⟩:=rS I.hok e
  obtain⟨w',hw,rw'⟩:=RelO.some_of (v:=v) (o:=valueAt vs k) (by rw[l];exact rel.val k)
  exact wpAny_getItem_of (rR ry) dd.mapOf hw (h w' _ (I.tok _) rw')
 ·subst ey
  cases(show u=Value.ref b from ry)
  obtain⟨z,hd,xs,rel,dd⟩:=rV I.hok e
  obtain⟨w',hw,rw'⟩:=RelO.some_of (v:=v) (o:=(atKey xs k).map (·.2)) (by rw[l];exact rel.val k)
  obtain⟨p,hp,hp2⟩:=DO.mp hw
  refine wpAny_getItem_heap (tupleKind_room_in1 hu) (nO I.hok eb) dd hp ?_
  rw[hp2]
  exact h w' _ (I.tok _) rw'
theorem x6 {Q:Value->Shared->Prop} (hu:A.units+1<cLine) (I:Inv X pins σ H s) (g:DGet H a y o) (ry:RelV y u) (h:∀s',Inv X pins σ H s'->Q (.bool (!o.isSome)) s'):
  wpAny (model X.prog X.w) A (compareOp .NotIn u (.ref a)) Q E s:=by
 rcases g with⟨kvs,k,e,ey,l⟩ | ⟨kvs,k,b,e,ey,eb,l⟩
 ·subst ey
  obtain⟨z,hd,vs,rel,dd⟩:=rS I.hok e
  refine wpAny_notIn_of (rR ry) hd dd.mapOf ?_
  rw[<- (rel.val k).isSome_eq,<- l]
  exact h _ (I.tok _)
 ·subst ey
  cases(show u=Value.ref b from ry)
  obtain⟨z,hd,xs,rel,dd⟩:=rV I.hok e
  refine wpAny_notIn_heap (tupleKind_room_in1 hu) (nO I.hok eb) hd dd ?_
  have q:=(rel.val k).isSome_eq
  rw[Option.isSome_map]at q
  rw[<- q,<- l]
  exact h _ (I.tok _)
theorem rW {h':Heap} {t':Nat} {ob:HO} (I:Inv X pins σ H s) (mu:AV (H a)) (hs:Heap.SameBut a s.heap h') (he:∃q,h'.get? a=some q) (new:ObjOk X.prog X.w (aE H a ob) h' a ob):
  Inv X pins σ (aE H a ob) {s with heap:=h',toks:=t'}:=
 I.write (x:=a) (e:=a) mu (.inl rfl) (fun b q hb z=>(hs.2 b hb).trans z) he new
theorem zX {P:Program} {w:World} {H':Hp} {h':Heap} {kvs:List (bV×V)} {vs:List (bV×Value)} (z:kvs.length<=sizeLine) (hd:(a==sysModules)=false) (rel:KV kvs vs) (dd:h'.DictOf (bz P w) a vs):
 ObjOk P w H' h' a (.dK kvs):=⟨z,hd,vs,rel,dd⟩
theorem t7 {H':Hp} {Q:Unit->Shared->Prop} (hu:A.units+1<cLine) (I:Inv X pins σ H s) (g:DPut H a y v H') (ry:RelV y u) (rv:RelV v r) (h:∀s',Inv X pins σ H' s'->Q () s'):
  wpAny (model X.prog X.w) A (setItem (.ref a) u r) Q E s:=by
 rcases g with⟨kvs,k,e,ey,l,eH⟩ | ⟨kvs,k,b,e,ey,eb,l,eH⟩
 ·subst ey eH
  obtain⟨z,hd,vs,rel,dd⟩:=rT I.hok e
  have hz:vs.length<=sizeLine:=by rw[<- rel.length];exact z
  have hl:(cH kvs k v).length<=sizeLine:=by have:=fS kvs k v;omega
  refine wpAny_setItem_pairs (hsz:=hz) (rR ry) dd fun h' dd' hs=>h _ ?_
  have he:∃q,h'.get? a=some q:=let⟨q,_,_,hq,_⟩:=dd';⟨q,hq⟩
  exact rW I (by rw[e];exact True.intro) hs he (zX hl hd (rel.put k rv) dd')
 ·subst ey eH
  cases(show u=Value.ref b from ry)
  obtain⟨z,hd,xs,rel,dd⟩:=Br I.hok e
  have hz:xs.length<=sizeLine:=by rw[<- Paired.length rel];exact z
  have hl:(cH kvs k v).length<=sizeLine:=by have:=fS kvs k v;omega
  refine wpAny_setItem_heap (hsz:=hz) (tupleKind_room_in1 hu) (nO I.hok eb) dd fun h' dd' hs=>h _ ?_
  obtain⟨q,es,ep,hq,h2,h3,h4,_,h5⟩:=dd'
  refine rW I (by rw[e];exact True.intro) hs ⟨q,hq⟩ ⟨hl,hd,_,(rel.put k eb rv).keeps fun c ys ec=>?_,q,es,ep,hq,h2,h3,h4,h5⟩
  rw[aq (A0 ec e (fun z=>nomatch z))]
  exact ec
end
section
variable {X:Cx} {pins:List (Addr×Obj)} {σ:St} {H:Hp} {s:Shared} {a:Addr} {kvs:List (bV×V)} {k:bV} {u:Value} {A:Around} {E:Value->Shared->Prop}
end
def Bs (i:Expr):Prop:=∀ov iv,subscripted i false ov iv=operate [ov,iv] (getItem ov iv)
theorem x8 {prog:Program} {w:World} {A:Around} {E:Value->Shared->Prop} {s:Shared} {env:Env} {value slice:Expr} {pos:Pos} {T id:String} {Q:Value->Shared->Prop}
  (hl:typeLookup (.type T) "__getitem__"=pure (some (.builtin id))) (hs:Bs slice)
  (h:wpAny (model prog w) A (eval value env) (fun o s₁=>wpAny (model prog w) A (eval slice env) (fun i s₂=>s₂.TypeIs o T/\wpAny (model prog w) A (getItem o i) Q E s₂) E s₁) E s):
  wpAny (model prog w) A (eval (.Subscript value slice pos) env) Q E s:=by
 refine Subscript_ (wpAny_mono h (fun o s₁ h₁=>wpAny_mono h₁ (fun i s₂ h₂=>?_) fun _ _ x=>x) fun _ _ x=>x)
 obtain⟨hT,h₂⟩:=h₂
 unfold subscriptTail
 refine wpAny_bind ?_
 rw[getitemInPython_of_ne hT.not_modules]
 refine wpAny_bind (wpAny_specialOf hT hl ?_)
 have fin:wpAny (model prog w) A (subscripted slice false o i) (fun r s₃=>wpAny (model prog w) A (letTemporaryGo value o r >>= fun _=>pure r) Q E s₃) E s₂:=by
  rw[hs o i]
  exact wpAny_operating (wpAny_mono h₂ (fun r s₃ h₃=>wpAny_bind (wpAny_letTemporaryGo (wpAny_pure h₃))) fun _ _ x=>x)
 first
  | exact wpAny_pure (wpAny_bind fin)
  | exact wpAny_bind (wpAny_pure (wpAny_bind fin))
  | exact wpAny_bind fin
theorem oR {X:Cx} {pins:List (Addr×Obj)} {σ:St} {H:Hp} {s:Shared} {a:Addr} {y:V} {o:Option V} (I:Inv X pins σ H s) (g:DGet H a y o):s.TypeIs (.ref a) "dict":=by
 rcases g with⟨kvs,k,e,_,_⟩ | ⟨kvs,k,b,e,_,_,_⟩
 ·obtain⟨_,_,vs,_,dd⟩:=rS I.hok e
  exact dd.typeIs
 ·obtain⟨_,_,xs,_,dd⟩:=rV I.hok e
  exact dd.typeIs
def Bt (td ty:TE):TE:=fun σ H Q=>td σ H fun x H1=>ty σ H1 fun y H2=>∃a v,x= .ref a/\DGet H2 a y (some v)/\Q v H2
def x9 (ty td:TE):TE:=fun σ H Q=>ty σ H fun y H1=>td σ H1 fun x H2=>∃a o,x= .ref a/\DGet H2 a y o/\Q (.bl (!o.isSome)) H2
def Bu (td ty tv:TE):TS:=fun D σ H=>tv σ H fun v H1=>td σ H1 fun x H2=>ty σ H2 fun y H3=>∃a H4,x= .ref a/\DPut H3 a y v H4/\D.nx σ H4
section
variable {X:Cx} {o i e value:Expr} {pos pos' tpos:Pos} {td ty tv:TE}
theorem rX (hu:X.A.units+1<cLine) (ho:PE X o td) (hi:PE X i ty) (hs:Bs i):PE X (.Subscript o i pos) (Bt td ty):=by
 intro pins s σ H Q I h
 refine x8 PySem.F.slot_dict_getitem.lookup hs (bF (ho pins s σ H _ I h) fun u s1 h1=>?_)
 obtain⟨x,H1,I1,rx,q1⟩:=h1
 refine bF (hi pins s1 σ H1 _ I1 q1) fun iv s2 h2=>?_
 obtain⟨y,H2,I2,ry,a,v,ex,g,q2⟩:=h2
 subst ex
 obtain rfl:u=Value.ref a:=rx
 exact⟨oR I2 g,tZ hu I2 g ry fun w' s3 I3 rw'=>⟨v,H2,I3,rw',q2⟩⟩
theorem mN (hu:X.A.units+1<cLine) (hi:PE X i ty) (ho:PE X o td):PC X .NotIn i o (x9 ty td):=by
 intro pins s σ H Q I h
 refine bF (hi pins s σ H _ I h) fun iv s1 h1=>?_
 obtain⟨y,H1,I1,ry,q1⟩:=h1
 refine bF (ho pins s1 σ H1 _ I1 q1) fun u s2 h2=>?_
 obtain⟨x,H2,I2,rx,a,ov,ex,g,q2⟩:=h2
 subst ex
 obtain rfl:u=Value.ref a:=rx
 exact x6 hu I2 g ry fun s3 I3=>⟨.bl (!ov.isSome),H2,I3,rfl,q2⟩
theorem rY (hu:X.A.units+1<cLine) (ho:PE X o td) (hi:PE X i ty) (hv:PE X value tv) (hs:swapsWith value (some (.Subscript o i pos')) pos.line X.env=pure false):
  PS X (.Assign [.Subscript o i pos'] value pos) (Bu td ty tv):=by
 intro pins s σ H D I h
 refine wpAny_Assign_Subscript (bF (hv pins s σ H _ I h) fun r s1 h1=>?_) hs
 obtain⟨v,H1,I1,rv,q1⟩:=h1
 refine bF (ho pins s1 σ H1 _ I1 q1) fun u s2 h2=>?_
 obtain⟨x,H2,I2,rx,q2⟩:=h2
 refine bF (hi pins s2 σ H2 _ I2 q2) fun iv s3 h3=>?_
 obtain⟨y,H3,I3,ry,a,H4,ex,g,q3⟩:=h3
 subst ex
 obtain rfl:u=Value.ref a:=rx
 exact t7 hu I3 g ry rv fun s4 I4=>⟨σ,H4,I4,q3⟩
end
theorem vH {P:Program} {w:World} {H:Hp} (h:Heap) (hb:sysModules<h.objs.size):ObjOk P w H (h.push {cls:= .type "dict",data:= .dict #[]}) h.objs.size (.dK []):=
 ⟨Eo _,beq_eq_false_iff_ne.mpr (Ne.symm (Eb hb)),[],.nil,Heap.DictOf.new h⟩
def zY:TE:=fun _ H Q=>∀p,H p=none->Q (.ref p) (aE H p (.dK []))
section
variable {X:Cx} {pos:Pos}
theorem oS:PE X (.Dict [] [] pos) zY:=fun pins s σ H Q I h=>
 wpAny_Dict_empty ⟨.ref s.heap.objs.size,_,I.laid (a:=s.heap.objs.size) (o:= .dK []) (t':=s.toks) (fun _ _ q=>Heap.get?_push_of_some _ q) (DS _) (vH s.heap I.big),rfl,h _ (I.hok.fresh (DS _))⟩
end
section
variable {X:Cx} {pins:List (Addr×Obj)} {σ:St} {H:Hp} {s:Shared} {a:Addr} {y d:V} {u r:Value} {o:Option V} {A:Around} {E:Value->Shared->Prop}
end
section
variable {X:Cx} {o e f:Expr} {apos cpos:Pos} {td ty tx:TE}
end
section
variable {X:Cx} {pins:List (Addr×Obj)} {σ:St} {H:Hp} {s:Shared} {a:Addr} {kvs:List (bV×V)} {A:Around} {E:Value->Shared->Prop}
end
section
variable {X:Cx} {pins:List (Addr×Obj)} {σ:St} {H:Hp} {s:Shared} {a:Addr} {y:V} {u:Value} {A:Around} {E:Value->Shared->Prop}
end
end L2
namespace Att
open PySem PySem.W PySem.Calls PyProof.Rows
theorem jT {P:Params} {h:Heap}:∀(ns:List Int) (vs:List Value),WellAll P h vs (ns.map WData.int)->IntsAre vs ns:=by
 intro ns
 induction ns with
 | nil=>
  intro vs w
  rw[FW]at w
  cases w
  exact .nil
 | cons n ns ih=>
  intro vs w
  rw[En]at w
  cases w with
  | cons a b=>
   cases a
   exact .cons _ _ (ih _ b)
theorem t8 {l:OpenLaw} {n:Nat} (hn:l.most=some n) {P:Params} {h:Heap} {args:List WData} {vals:List Value}
  (hpre:l.row.toRowW.claim.pre args=true) (hwl:WellAll P h vals args):
  ∃a vs ns,vals=[Value.ref a]/\args=[WData.list (ns.map WData.int)]/\h.get? a=some {cls:= .type "list",data:= .seq vs.toArray}/\IntsAre vs ns/\ns.length<=n:=by
 have hsh:WShape.hasAll [] args [.list .int]=true:=(pre_splitW hpre).1
 have hc:l.pre.holds [] {args:=args}=true:=(pre_splitW hpre).2
 obtain⟨d,r,rfl,h1,h2⟩:=hasAllW_cons hsh
 obtain rfl:=hasAllW_nil h2
 obtain⟨xs,rfl,h3⟩:=hasW_list h1
 obtain⟨ns,rfl⟩:=items_int h3
 have hlen:ns.length<=n:=by
  unfold OpenLaw.pre at hc
  have h4:(WTm.not (.lt (.lit (.int (n:Int))) (.len (.arg 0)))).holds [] {args:=[.list (ns.map .int)]}=true:=by
   have h4:=(holds_andW hc).1
   rw[hn]at h4
   exact h4
  have h5:=condW_of h4 (w_not (w_lt w_lit (w_len_list (w_arg rfl))))
  rw[DI]at h5
  refine E5 fun q=>?_
  have q':(n:Int)<((ns.length:Nat):Int):=by omega
  first
   | (rw [decide_eq_true q']at h5;exact absurd h5 (by decide))
   | (simp at h5;omega)
 cases hwl with
 | cons w1 w2=>
  cases w2
  cases w1 with
  | list ho hall=>exact⟨_,_,ns,rfl,rfl,ho,jT ns _ hall,hlen⟩
theorem t9 (l:OpenLaw) (args:List WData):l.row.toRowW.claim.post args (.bool true) args=true:=
 postW_of (r:=l.row.toRowW) (X:=(true==true))
  (show WShape.has [] (.bool true) .bool=true by first | rfl | decide | simp[WShape.has,WShape.arms,WShape.armsAll])
  (show(WTm.eq .res (.lit (.bool true))).value [] {args:=args,res:=some (.bool true),after:=args}=some (.bool (true==true))from w_eq_bool (w_res rfl) w_lit) rfl
theorem oT {l:OpenLaw} {n:Nat} {q:Program} {loose:List Str} {XP:(Str->Option Value)->Heap->Prop} {YP:World->Heap->Prop} {d:DefRec}
  (hn:l.most=some n) (hdf:d.params.defaults=[])
  (call:∀(w:World) (s₀ s₁:Shared) (mg mb:Str->Option Value) (fa:Addr) (o:Obj) (pm cd doc:Value) (a:Addr) (vs:List Value) (ns:List Int),
   Ground q loose [] XP w s₀ mg mb s₁.heap->YP w s₁.heap->
   s₁.heap.get? fa=some o->o.data= .func (docDef d.name d.params d.body d.scope pm cd doc)->s₁.heap.CodeRec cd d.name->mg d.name=some (.ref fa)->
   s₁.heap.get? a=some {cls:= .type "list",data:= .seq vs.toArray}->IntsAre vs ns->ns.length<=n->s₁.gens=#[]->
   codeAny (model l.prog w) callerA (.call (.ref fa) ⟨[.ref a],[]⟩) (fun r s'=>r= .ok (.ret (.bool true))/\OldK s₁.heap s'.heap/\s'.os=s₁.os/\AllBare s'.gens) s₁):
  WalkO q loose XP YP l.row.toRowW d [] (fun f vs=>PySem.call f vs):=by
 intro w s₀ s₁ mg mb G Y fa o pm cd doc dV kV ho hd hcd hD hmg hg args vals as hpre hlay hrd hwl hlo
 obtain rfl:dV= .none:=Dflts.none hD hdf
 obtain rfl:kV= .none:=Dflts.noKw hD
 obtain⟨a,vs,ns,rfl,rfl,hobj,hints,hlen⟩:=t8 hn hpre hwl
 refine enter_call (codeAny_mono (call w s₀ s₁ mg mb fa o pm cd doc a vs ns G Y ho (fd_plain hd) hcd hmg hobj hints hlen hg) fun r s' hq=>?_)
 obtain⟨rfl,h2,h3,h4⟩:=hq
 exact⟨.inl ⟨.bool true,.bool true,[],rfl,fun _=>rfl,.bool true,t9 l _,fun _=>⟨List.Pairwise.nil,fun _ hm=>(nomatch hm)⟩⟩,h2,h3,h4⟩
section
variable {prog:Program} {w:World} {A:Around} {E:Value->Shared->Prop} {s:Shared} {K:Frag}
end
end Att
namespace L2
open PySem PySem.Spec PyProof.Rows
theorem i9:∀{vs:List Value} {ns:List Int},IntsAre vs ns->Vals (ns.map V.int) vs:=by
 intro vs ns h
 induction h with
 | nil=>exact .nil
 | cons n t h ih=>exact .cons ⟨t,rfl⟩ ih
def zZ (H:Hp):Prop:=∀b,H b=none\/∃o xs,H b=some (.frz o (.lst xs))
theorem vI {P:Program} {w:World} {K:PySem.W.Frag} {mg mb:Str->Option Value} {CX:ve} {k:Nat} {fa a:Addr} {fd:FuncData} {x:Str} {sp:Sp} {s₁:Shared} {vs:List Value} {ns:List Int}
  (KX:K.In s₁.heap) (hns:s₁.heap.Ns mainGlobals mg) (hb:s₁.heap.Ns builtinsNs mb) (hbb:∀x:Str,x≠"__name__"->mb x=bootBuiltins x) (hlim:s₁.heap.NoLimit) (hg:s₁.gens=#[])
  (ha:s₁.heap.get? a=some {cls:= .type "list",data:= .seq vs.toArray}) (hi:IntsAre vs ns) (hl:ns.length<=sizeLine) (hr:Room k callerA)
  (F:∀base:Heap,K.In base->base.Ns mainGlobals mg->FnOk P w K mg base CX k fa fd [x] sp) (hbind:∀(s:Shared) (u:Value),BindsTo s fd ⟨[u],[]⟩ [(x,u)])
  (hsp:∀H:Hp,zZ H->SqL K H a (ns.map V.int)->sp [.ref a] H (fun v _=>v= .bl true) fun _ _ _=>False)
  (hCX:∀H e s',CX [] H s₁ (fun _ _ _=>False) e s'->False):
  codeAny (model P w) callerA (.call (.ref fa) ⟨[.ref a],[]⟩) (fun r s'=>r= .ok (.ret (.bool true))/\OldK s₁.heap s'.heap/\s'.os=s₁.os/\AllBare s'.gens) s₁:=by
 have rv:=i9 hi
 have lenV:=hi.length
 have core:∀H:Hp,zZ H->SqL K H a (ns.map V.int)->HOk P w H s₁.heap->(∀b,H b≠none->b=a)->(H a≠none->K.lookup a=none)->
   codeAny (model P w) callerA (.call (.ref fa) ⟨[.ref a],[]⟩) (fun r s'=>r= .ok (.ret (.bool true))/\OldK s₁.heap s'.heap/\s'.os=s₁.os/\AllBare s'.gens) s₁:=by
  intro H hO hS hok hA hK
  have base_of:∀{b:Addr} {o:Obj},s₁.heap.get? b=some o->H b=none->(nI s₁.heap H).get? b=some o:=fun e n=>vi e n
  have noA:∀{b:Addr} {o:Obj} {es:Array DictEntry} {ep:Nat},s₁.heap.get? b=some o->o.data= .dict es ep->H b=none:=fun {b o es ep} e d=>by
   cases q:H b with
   | none=>rfl
   | some u=>
    have e':b=a:=hA b (by rw[q];simp)
    subst e'
    rw[ha]at e;cases e
    have d':Data.seq vs.toArray _=Data.dict es ep:=d
    cases d'
  have nsK:∀{b:Addr} {m:Str->Option Value},s₁.heap.Ns b m->(nI s₁.heap H).Ns b m:=fun {b m} ⟨o,es,ep,e,d,r⟩=>⟨o,es,ep,base_of e (noA e d),d,r⟩
  have hKb:K.In (nI s₁.heap H):=fun b o e=>base_of (KX b o e) (by
   cases q:H b with
   | none=>rfl
   | some u=>
    have e':b=a:=hA b (by rw[q];simp)
    subst e'
    rw[hK (by rw[q];simp)]at e;cases e)
  have hM:Mod K mg (nI s₁.heap H):=⟨hKb,nsK hns,⟨mb,nsK hb,hbb⟩,let⟨mc,h1,h2⟩:=hlim;⟨mc,nsK h1,h2⟩⟩
  have e0:Env0 P w K mg (nI s₁.heap H) callerA [] s₁ H:=⟨rfl,hM,fun b o e=>xJ e,Nat.le_of_eq (tL _ _),trivial,fun b hb=>absurd (show b∈([]:List Addr)from hb) (by simp),hok,.of_eq hg⟩
  refine codeAny_mono ((F _ hKb (nsK hns)).run callerA [] s₁ H ⟨[.ref a],[]⟩ [.ref a] [.ref a] _ _ hr e0 (hbind s₁ (.ref a)) (.cons rfl .nil) (hsp H hO hS)) fun r s' h=>?_
  cases r with
  | error e=>exact(hCX H e s' h).elim
  | ok fl=>
   cases fl with
   | next=>exact False.elim h
   | brk=>exact False.elim h
   | cont=>exact False.elim h
   | ret u=>
    obtain⟨v,H',os,bare,un,hok',r',q⟩:=h
    have q':v= .bl true:=q
    subst q'
    obtain rfl:u=Value.bool true:=r'
    refine⟨rfl,OldK.of_keep fun b o e=>?_,os,bare⟩
    cases q:H b with
    | none=>exact un.keep b o e q (by intro z;exact absurd (show b∈([]:List Addr)from z) (by simp)) (by simp)
    | some u=>
     rcases hO b with z | ⟨ob,xs,z⟩
     ·rw [q]at z;cases z
     ·have z2:=un.frzs b ob _ z
      obtain⟨e1,_⟩:=hok b _ z
      obtain⟨e2,_⟩:=hok' b _ z2
      rw[e]at e1;cases e1
      exact e2
 cases hk:K.lookup a with
 | some o=>
  have e:=KX a o hk
  rw[ha]at e
  cases e
  refine core (fun _=>none) (fun _=> .inl rfl) (.inr ⟨_,vs.toArray,_,hk,rfl,rfl,rfl,by rw[DT,lenV];exact hl,by simpa using rv⟩) (fun b u z=>by have z':(none:Option HO)=some u:=z;cases z') (fun b z=>absurd rfl z) fun z=>absurd rfl z
 | none=>
  refine core (fun b=>if b=a then some (.frz {cls:= .type "list",data:= .seq vs.toArray} (.lst (ns.map V.int)))else none) (fun b=>?_) (.inl (.inr ⟨{cls:= .type "list",data:= .seq vs.toArray},if_pos rfl⟩)) (fun b u z=>?_) (fun b z=>?_) fun _=>hk
  ·by_cases hb:b=a
   ·exact .inr ⟨_,_,if_pos hb⟩
   ·exact .inl (if_neg hb)
  ·by_cases hb:b=a
   ·have z':=(if_pos hb).symm.trans z
    cases z'
    subst hb
    exact⟨ha,by rw[DI];exact hl,vs,_,rv,ha⟩
   ·have z':=(if_neg hb).symm.trans z
    cases z'
  ·by_cases hb:b=a
   ·exact hb
   ·exact absurd (if_neg hb) z
abbrev DH {K:PySem.W.Frag} {h:Heap} (_:K.In h):PySem.W.Frag:=K
theorem ya {l:PySem.W.OpenLaw} {n k:Nat} {q:Program} {loose:List Str} {XP:(Str->Option Value)->Heap->Prop} {YP:World->Heap->Prop} {d:DefRec} {K:Params->PySem.W.Frag} {CX:World->ve} {sp:World->Sp} {x:Str}
  (hn:l.most=some n) (hn2:n<=sizeLine) (hdf:d.params.defaults=[]) (hr:Room k callerA)
  (hY:∀(w:World) (h:Heap),YP w h->(K w.params).In h)
  (F:∀(w:World) (mg:Str->Option Value) (fa:Addr) (h:Heap),(K w.params).In h->h.Ns mainGlobals mg->mg d.name=some (.ref fa)->
   ∃fd:FuncData,(∀(s:Shared) (u:Value),BindsTo s fd ⟨[u],[]⟩ [(x,u)])/\
    ∀base:Heap,(K w.params).In base->base.Ns mainGlobals mg->FnOk l.prog w (K w.params) mg base (CX w) k fa fd [x] (sp w))
  (hsp:∀(w:World) (H:Hp) (a:Addr) (ns:List Int),ns.length<=n->zZ H->SqL (K w.params) H a (ns.map V.int)->sp w [.ref a] H (fun v _=>v= .bl true) fun _ _ _=>False)
  (hCX:∀(w:World) (H:Hp) (s:Shared) (e:Value) (s':Shared),CX w [] H s (fun _ _ _=>False) e s'->False):
  PySem.W.WalkO q loose XP YP l.row.toRowW d [] (fun f vs=>PySem.call f vs):=by
 refine Att.oT hn hdf fun w s₀ s₁ mg mb fa o pm cd doc a vs ns G Y ho hd hcd hmg hobj hints hlen hg=>?_
 have KX:=hY w _ Y
 obtain⟨fd,hb,hF⟩:=F w mg fa _ KX G.T.g hmg
 exact vI KX G.T.g G.T.b G.T.builtins G.T.nolimit hg hobj hints (Ek hlen hn2) hr hF hb (fun H hO hS=>hsp w H a ns hlen hO hS) fun H e s'=>hCX w H s₁ e s'
def eZ (s:Stmt):Arguments:=match s with
 | .FunctionDef _ a _ _ _ _ _ _ _ _=>a
 | _=>{posonlyargs:=[],args:=[],vararg:=none,kwonlyargs:=[],kw_defaults:=[],kwarg:=none,defaults:=[]}
def dQ (s:Stmt):List Stmt:=match s with
 | .FunctionDef _ _ b _ _ _ _ _ _ _=>b
 | _=>[]
def au (s:Stmt):Scope:=match s with
 | .FunctionDef _ _ _ _ _ _ sc _ _ _=>sc
 | _=>{kind:= .function,names:=[],isGenerator:=false,isCoroutine:=false}
abbrev aX:ve:=fun _ _ _ _ _ _=>False
abbrev E0:XK:=fun _ _ _=>False
theorem Bv {X:Cx}:qm aX X E0:=fun _ _ _ _ _ _ _ h=>h.elim
structure Fun (K:PySem.W.Frag) (x qual:Str) (st:Stmt) (f:Addr) (fd:FuncData):Prop where
 ex:∃(oc:Value) (od:Option Addr) (kV doc pm:Value) (an:Option Addr) (cdv ct:Value) (osl:Array (Option Value)),
  fd=PySem.W.fnOf x qual (eZ st) (dQ st) (au st) .none kV doc pm an cdv ct/\K.lookup f=some ⟨oc,od,.func fd,osl⟩/\PySem.W.codeIn K cdv qual=true
 kp:PySem.W.keepIn K (.ref f)=true
section
variable {P:Program} {w:World} {K:PySem.W.Frag} {mg:Str->Option Value} {base:Heap}
theorem Fun.ok {x qual:Str} {st:Stmt} {f:Addr} {fd:FuncData} {N ps:List Str} {k:Nat} {sp:Sp} (F:Fun K x qual st f fd) (S:FnScope N ps (au st)) (len:∀vs H Q E,sp vs H Q E->vs.length=ps.length)
  (hbody:∀(cdv:Value) (A:Around) (outer:List Env) (s:Shared) (H:Hp) (vs:List V) (Q:VK) (E:XK),Room k (A.deeper (envOfC qual (au st) s.heap.objs.size f cdv))->sp vs H Q E->
   ∃t,PSs (oJ aX P w K mg base N qual (au st) f cdv A outer s H E).nox (dQ st) t/\t {nx:=fun _ H'=>Q .non H',rt:=Q} (jv N vs) H):FnOk P w K mg base aX (k+1) f fd ps sp:=by
 obtain⟨oc,od,kV,doc,pm,an,cdv,ct,osl,rfl,lk,hcd⟩:=F.ex
 refine Bk lk hcd S len fun A outer s H vs Q E hr hsp=>?_
 obtain⟨t,h,q⟩:=hbody cdv A outer s H vs Q E hr hsp
 exact⟨t,h.nox,q⟩
theorem Fun.binds {x qual:Str} {st:Stmt} {f:Addr} {fd:FuncData} {ps:List Str} (F:Fun K x qual st f fd)
  (h:∀(kV doc pm:Value) (an:Option Addr) (cdv ct:Value) (us:List Value),us.length=ps.length->bindArgs (PySem.W.fnOf x qual (eZ st) (dQ st) (au st) .none kV doc pm an cdv ct) ⟨us,[]⟩=pure (ps.zip us)):Binds K fd ps []:=by
 obtain⟨oc,od,kV,doc,pm,an,cdv,ct,osl,rfl,lk,hcd⟩:=F.ex
 exact .all (h kV doc pm an cdv ct)
theorem Aa {x qual:Str} {st:Stmt} {f:Addr} {oc:Value} {od an:Option Addr} {osl:Array (Option Value)} {kV doc pm cdv ct:Value} (l:K.lookup f=some ⟨oc,od,.func (PySem.W.fnOf x qual (eZ st) (dQ st) (au st) .none kV doc pm an cdv ct),osl⟩)
 (c:PySem.W.codeIn K cdv qual=true) (k:PySem.W.keepIn K (.ref f)=true):Fun K x qual st f (PySem.W.fnOf x qual (eZ st) (dQ st) (au st) .none kV doc pm an cdv ct):=⟨⟨oc,od,kV,doc,pm,an,cdv,ct,osl,rfl,l,c⟩,k⟩
end
theorem aP {A:Around} {k:Nat} (hr:Room k A):A.units+1<cLine:=Fz (F7 (by decide:1<=64) _) hr.units
theorem mO {n:Nat} (h:n<=1000):n<sizeLine:=Fz h (by decide)
section
variable {X:Cx}
theorem pv (i:Nat) {x:Str} {pos:Pos} (hN:X.N[i]?=some x:=by rfl) (hv:A1 X.env.scope x:=by first | exact Or.inl rfl | exact Or.inr (Or.inl rfl) | exact Or.inr (Or.inr rfl)) (hd:(x==("__debug__":Str))=false:=by decide)
 (hcd:(x==("__classdict__":Str))=false:=by decide):PE X (.Name x pos) (A4 i):=zL hN hv hd hcd
end
theorem a9 {A B:Prop} (h:B):if false=true then A else B:=by
 rw[if_neg DU]
 exact h
theorem cb {A B:Prop} (h:A):if true=true then A else B:=by
 rw[if_pos rfl]
 exact h
def Same (H H':Hp):Prop:=∀b o,H b=some o->H' b=some o
theorem Same.refl (H:Hp):Same H H:=fun _ _ h=>h
theorem Same.trans {H H1 H2:Hp} (a:Same H H1) (b:Same H1 H2):Same H H2:=fun c o h=>b c o (a c o h)
theorem Same.free {H H':Hp} (e:Same H H') {l:Addr} (h:H' l=Option.none):H l=Option.none:=by
 cases q:H l with
 | none=>rfl
 | some o=>
  rw[e l o q]at h
  cases h
theorem Same.seq {K:PySem.W.Frag} {H H':Hp} {a:Addr} {xs:List V} (e:Same H H') (h:SqL K H a xs):SqL K H' a xs:=by
 rcases h with(h | ⟨o,h⟩) | h
 ·exact .inl (.inl (e _ _ h))
 ·exact .inl (.inr ⟨o,e _ _ h⟩)
 ·exact .inr h
section
variable {κ:Type} [DecidableEq κ]
theorem vJ {kvs:List (κ×V)} {k:κ} (h:bG kvs k=none):¬k∈kvs.map (·.1):=by
 intro m
 obtain⟨p,hp,e⟩:=DZ.mp m
 have q:(kvs.any fun kv=>decide (kv.1=k))=true:=List.any_eq_true.mpr ⟨p,hp,decide_eq_true e⟩
 rw[cz,h]at q
 exact absurd q (by simp)
theorem gv {l:List κ} {k:κ} (h:l.Nodup) (n:¬k∈l):(l++[k]).Nodup:=List.nodup_append.mpr ⟨h,Fm _ _,fun a ha b hb e=>n (by rw[<- DV.mp hb,<- e];exact ha)⟩
theorem yb {kvs:List (κ×V)} {k:κ} (v:V) (hn:(kvs.map (·.1)).Nodup) (h:bG kvs k=none):((cH kvs k v).map (·.1)).Nodup:=by
 rw[vG v h,DY]
 exact gv hn (vJ h)
end
structure BA where
 cl:List (Str×Addr)
 C:Addr
 s₀:Shared
 H₀:Hp
 ex:List Addr
abbrev mf (X:Cx) (sc:Scope) (N:List Str) (b:BA):Cx:=
 {prog:=X.prog,w:=X.w,K:=X.K,mg:=X.mg,base:=X.base,A:=X.A,N:=N,s₀:=b.s₀,H₀:=b.H₀,env:=compEnvC sc b.cl b.C X.env,outer:=X.stack,stack:=X.stack,ex:=b.ex,fn:=fun _=>false,calm:=X.calm,pn:=[],xe:=fun _ _=>False}
def aU (env:Env):List (Str×Addr)->List (Str×NameKind)->List (Str×Addr)
 | acc,[]=>acc
 | acc,(n,k) :: r=>aU env (if k== .free then(match env.cells.lookup n with | some c=>(n,c) :: acc | none=>acc)else acc) r
theorem vK (env:Env):∀(l:List (Str×NameKind)) (acc:List (Str×Addr)),(∀y∈l,y.2= .free->∃c,env.cells.lookup y.1=some c)->
  (forIn l acc (fun(x:Str×NameKind) (cs:List (Str×Addr))=>(match x with
   | (name,kind)=>if(kind== .free)=true then(do let a <- cellOf env name;pure (ForInStep.yield ((name,a) :: cs)))else pure (ForInStep.yield cs):Sem (ForInStep (List (Str×Addr))))))=(pure (aU env acc l):Sem (List (Str×Addr))):=by
 intro l
 induction l with
 | nil=>intro acc _;rfl
 | cons nk r ih=>
  obtain⟨n,k⟩:=nk
  intro acc h
  have hr:∀y∈r,y.2= .free->∃c,env.cells.lookup y.1=some c:=fun y hy=>h y (Ea _ hy)
  rw[List.forIn_cons]
  by_cases hk:k= .free
  ·subst hk
   obtain⟨c,hc⟩:=h (n,.free) Ei rfl
   have hc':env.cells.lookup n=some c:=hc
   simp only[beq_self_eq_true,if_true,aU,hc']
   have e:cellOf env n=pure c:=by unfold cellOf;rw[hc']
   rw[e,pure_bind,pure_bind]
   exact ih _ hr
  ·have hb:(k==NameKind.free)=false:=by simpa using hk
   simp only[hb,EH,if_false,aU]
   rw[pure_bind]
   exact ih _ hr
theorem rZ {env:Env} {sc:Scope} (h:∀y∈sc.names,y.2= .free->∃c,env.cells.lookup y.1=some c):closureFor sc env=pure (aU env [] sc.names):=by
 unfold closureFor
 exact(congrArg (fun m=>m >>= fun cs=>pure cs) (vK env sc.names [] h)).trans (pure_bind _ _)
theorem cB {env:Env}:∀(l:List (Str×NameKind)) (acc:List (Str×Addr)),(∀x c,acc.lookup x=some c->env.cells.lookup x=some c)->
  ∀x c,(aU env acc l).lookup x=some c->env.cells.lookup x=some c:=by
 intro l
 induction l with
 | nil=>intro acc h x c e;exact h x c e
 | cons nk r ih=>
  obtain⟨n,k⟩:=nk
  intro acc h x c e
  refine ih _ (fun y d q=>?_) x c e
  by_cases hk:(k==NameKind.free)=true
  ·rw [if_pos hk]at q
   cases hl:env.cells.lookup n with
   | none=>rw[hl]at q;exact h y d q
   | some a=>
    rw[hl]at q
    simp only[Ex]at q
    by_cases hy:(y==n)=true
    ·rw [hy]at q
     have e1:y=n:=by simpa using hy
     subst e1
     cases q
     exact hl
    ·rw [Fj]at hy
     rw[hy]at q
     exact h y d q
  ·rw [if_neg hk]at q
   exact h y d q
theorem mP {env:Env}:∀(l:List (Str×NameKind)) (acc:List (Str×Addr)) (x:Str),(acc.lookup x).isSome=true->((aU env acc l).lookup x).isSome=true
 | [],acc,x,h=>h
 | (n,k) :: r,acc,x,h=>by
  refine mP r _ x ?_
  by_cases hk:(k==NameKind.free)=true
  ·rw [if_pos hk]
   cases env.cells.lookup n with
   | none=>exact h
   | some a=>
    show(List.lookup x ((n,a) :: acc)).isSome=true
    rw[Ex]
    by_cases hy:(x==n)=true
    ·rw [hy];rfl
    ·rw [Fj]at hy
     rw[hy];exact h
  ·rw [if_neg hk];exact h
theorem gw {env:Env} (l:List (Str×NameKind)) (acc:List (Str×Addr)) (x:Str) (h:(x,NameKind.free)∈l) (q:∃c,env.cells.lookup x=some c):((aU env acc l).lookup x).isSome=true:=by
 obtain⟨c,hc⟩:=q
 induction l generalizing acc with
 | nil=>cases h
 | cons p r ih=>
  rcases Ed.mp h with e | h
  ·subst e
   refine mP r _ x ?_
   rw[if_pos (beq_self_eq_true _),hc]
   show(List.lookup x ((x,c) :: acc)).isSome=true
   rw[Ex,beq_self_eq_true];rfl
  ·exact ih _ h
theorem kH {env:Env}:∀(l:List (Str×NameKind)) (x:Str) (k:NameKind),(∀y∈l,y.2≠ .cell)->k= .cell\/k= .free->
  (l.map fun(n,k)=>if(k==NameKind.free&&env.scope.kind== .function&&env.kindOf n==some .cell)then(n,NameKind.cell)else(n,k)).lookup x=some k->(x,NameKind.free)∈l:=by
 intro l
 induction l with
 | nil=>intro _ _ _ _ h;simp at h
 | cons nk r ih=>
  obtain⟨n,k'⟩:=nk
  intro x k hc hk h
  rw[En]at h
  by_cases hx:(x==n)=true
  ·have e1:x=n:=by simpa using hx
   subst e1
   by_cases hf:k'= .free
   ·subst hf;exact Ei
   ·exfalso
    have hb:(k'==NameKind.free)=false:=by simpa using hf
    simp only[hb,FX,EH,if_false,Ex,beq_self_eq_true]at h
    have e2:k'=k:=Option.some.inj h
    rcases hk with z | z
    ·exact hc (x,k') Ei (e2.trans z)
    ·exact hf (e2.trans z)
  ·rw [Fj]at hx
   refine Ea _ (ih x k (fun y hy=>hc y (Ea _ hy)) hk ?_)
   by_cases hq:(k'==NameKind.free&&env.scope.kind== .function&&env.kindOf n==some .cell)=true
   ·simp only[hq,if_true,Ex,hx]at h;exact h
   ·rw [Fj]at hq
    simp only[hq,EH,if_false,Ex,hx]at h;exact h
theorem gN {env:Env}:∀(l:List (Str×NameKind)) (x:Str),l.lookup x=some .free->
  ∃k,(k=NameKind.cell\/k=NameKind.free)/\(l.map fun(n,k)=>if(k==NameKind.free&&env.scope.kind== .function&&env.kindOf n==some .cell)then(n,NameKind.cell)else(n,k)).lookup x=some k:=by
 intro l
 induction l with
 | nil=>intro _ h;simp at h
 | cons nk r ih=>
  obtain⟨n,k'⟩:=nk
  intro x h
  rw[En]
  by_cases hx:(x==n)=true
  ·simp only[Ex,hx]at h
   have e2:k'= .free:=Option.some.inj h
   subst e2
   by_cases hq:(NameKind.free==NameKind.free&&env.scope.kind== .function&&env.kindOf n==some .cell)=true
   ·exact⟨.cell,.inl rfl,by simp only[hq,if_true,Ex,hx]⟩
   ·rw [Fj]at hq
    exact⟨.free,.inr rfl,by simp only[hq,EH,if_false,Ex,hx]⟩
  ·rw [Fj]at hx
   simp only[Ex,hx]at h
   obtain⟨k,hk,e⟩:=ih x h
   refine⟨k,hk,?_⟩
   by_cases hq:(k'==NameKind.free&&env.scope.kind== .function&&env.kindOf n==some .cell)=true
   ·simp only[hq,if_true,Ex,hx];exact e
   ·rw [Fj]at hq
    simp only[hq,EH,if_false,Ex,hx];exact e
theorem df {l:List (Str×NameKind)} {x:Str} {k:NameKind}:l.lookup x=some k->(x,k)∈l:=by
 induction l with
 | nil=>intro h;simp at h
 | cons p r ih=>
  intro h
  obtain⟨n,k'⟩:=p
  by_cases hx:(x==n)=true
  ·simp only[Ex,hx]at h
   have e1:x=n:=by simpa using hx
   subst e1
   cases h
   exact Ei
  ·rw [Fj]at hx
   simp only[Ex,hx]at h
   exact Ea _ (ih h)
section
variable {prog:Program} {w:World} {A:Around} {E:Value->Shared->Prop} {R:Result->Shared->Prop} {s:Shared}
abbrev xI:Value->Shared->Prop:=fun _ _=>False
theorem kI {elt target iter:Expr} {ifs:List Expr} {scope:Scope} {pos:Pos} {it acc:Value} {env:Env} (J:Nat->Shared->Prop)
  (turn:∀n s,J n s->wpAny (model prog w) A (pyNext it) (fun r s₁=>(r=none/\R (.ok .next) s₁)\/∃v,r=some v/\
   wpAny (model prog w) A (letOwnedTupleGo target it v) (fun _ s₁'=>wpAny (model prog w) A (assign target env v) (fun _ s₂=>
    wpAny (model prog w) A (forIn ifs true fun c r=>if r=true then do let ok <- isTrue c env (eval c env);pure (ForInStep.yield ok)else pure (ForInStep.yield r)) (fun ok s₃=>
     (ok=true->wpAny (model prog w) A (eval elt env) (fun x s₄=>wpAny (model prog w) A (call (.builtin "list.append") [acc,x]) (fun _ s₅=>∃m,m<n/\J m s₅) xI s₄) xI s₃)/\
     (ok=false->∃m,m<n/\J m s₃)) xI s₂) xI s₁') xI s₁) xI s)
  (n:Nat) (h:J n s):codeAny (model prog w) A (.compLoop (.ListComp elt [⟨target,iter,ifs,0⟩] scope pos) 0 it acc env) R s:=by
 refine codeAny_loop (M:=model prog w) (A:=A) rfl J (fun n s hJ=>?_) n h
 refine wpAny_noted (m:=compTurn (.ListComp elt [⟨target,iter,ifs,0⟩] scope pos) 0 it acc env) ?_
 rw[compTurn_list]
 refine wpAny_bind (wpAny_standAt (wpAny_bind (wpAny_mono (turn n s hJ) (fun r s₁ q=>?_) fun _ _ z=>z.elim)))
 rcases q with⟨e,q⟩ | ⟨v,e,q⟩
 ·subst e
  exact wpAny_pure q
 ·subst e
  refine wpAny_bind (wpAny_mono q (fun _ s₂ q=>?_) fun _ _ z=>z.elim)
  refine wpAny_bind (wpAny_mono q (fun _ s₃ q=>?_) fun _ _ z=>z.elim)
  refine wpAny_bind (wpAny_mono q (fun ok s₄ q=>?_) fun _ _ z=>z.elim)
  cases ok with
  | false=>exact wpAny_pure ⟨rfl,q.2 rfl⟩
  | true=>
   refine wpAny_bind (wpAny_bind (wpAny_mono (q.1 rfl) (fun x s₅ q=>?_) fun _ _ z=>z.elim))
   exact wpAny_bind (wpAny_mono q (fun _ s₆ q=>wpAny_pure (wpAny_pure ⟨rfl,q⟩)) fun _ _ z=>z.elim)
end
def Ab (X:Cx) (ifs:List Expr) (t:TT):Prop:=
 ∀(pins:List (Addr×Obj)) (s:Shared) (σ:St) (H:Hp) (Q:Bool->Hp->Prop),Inv X pins σ H s->t σ H Q->
  wpAny (model X.prog X.w) X.A (forIn ifs true fun c r=>if r=true then do let ok <- isTrue c X.env (eval c X.env);pure (ForInStep.yield ok)else pure (ForInStep.yield r)) (TP X pins σ Q) X.xe s
def gY:TT:=fun _ H Q=>Q true H
theorem bA {X:Cx}:Ab X [] gY:=fun _ _ _ H _ I h=>wpAny_tests_nil ⟨H,I,h⟩
theorem bU {X:Cx} {c:Expr} {t:TT} (h:PT X c t):Ab X [c] t:=fun pins s σ H Q I hw=>wpAny_tests_one (h pins s σ H Q I hw)
def bN (σ:St) (js:List (Option Nat)):St:=js.map fun j=>j.bind fun i=>(σ[i]?).join
def vL (σ σ':St):Prop:=σ'.length=σ.length/\∀(i:Nat) v,σ[i]?=some (some v)->σ'[i]?=some (some v)
def cF (J:It) (H1:Hp) (js:List (Option Nat)) (g:TG) (tc:TT) (te:TE) (σ:St) (Q:VK):Prop:=∀acc,H1 acc=none->
 ∃W:Nat->Nat->List V->Hp->Prop,(∃m,W 0 m [] (aE H1 acc (.lst [])))/\∀i m ys H,W i m ys H->
  (J.stop i H/\Q (.ref acc) H)\/(J.go i H/\∃N:List V->Hp->Prop,(∀ys' H',N ys' H'->∃m',m'<m/\W (i+1) m' ys' H')/\
   ∀x H',J.yld i H x H'->g x (bN σ js) H' fun σ2 H2=>vL (bN σ js) σ2/\tc σ2 H2 fun b H3=>
    (b=true->te σ2 H3 fun y H4=>H4 acc=some (.lst ys)/\ys.length<sizeLine/\N (ys++[y]) (aE H4 acc (.lst (ys++[y]))))/\(b=false->N ys H3))
def r8 (wi:TI) (js:List (Option Nat)) (g:TG) (tc:TT) (te:TE):TE:=fun σ H Q=>wi σ H fun J H1=>cF J H1 js g tc te σ Q
theorem Un.but {fs ex:List Addr} {H H1:Hp} {h h1 h2:Heap} (u:Un fs ex H H1 h h1) (k:∀b o,h.get? b=some o->∀o',h1.get? b=some o'->h2.get? b=some o'):Un fs ex H H1 h h2 where
 keep:=fun b o e n h1 h2=>k b o e _ (u.keep b o e n h1 h2)
 slot:=fun b o e n h1 h2=>let⟨sl,q⟩:=u.slot b o e n h1 h2;⟨sl,k b o e _ q⟩
 free:=u.free
 there:=fun b o e hx=>let⟨o',q⟩:=u.there b o e hx;⟨o',k b o e _ q⟩
 tups:=u.tups
 frzs:=u.frzs
 tbls:=u.tbls
theorem ub {P:Program} {w:World} {H:Hp} {h h':Heap} {C:Addr} (ok:HOk P w H h) (hn:H C=none) (k:∀b o,b≠C->h.get? b=some o->h'.get? b=some o):HOk P w H h':=fun b o e=>by
 refine(ok b o e).stay (fun c u hc q=>k c u ?_ q) (fun _ q=>q) fun _ _ q=>q
 rintro rfl
 rcases hc with z | z
 ·rw [z]at hn;rw[hn]at e;cases e
 ·rw [hn]at z;cases z
theorem bJ {α β:Type} {F:α->β->Prop}:∀{l:List α} {r:List β} {i:Nat} {b:β},Paired F l r->r[i]?=some b->∃a,l[i]?=some a/\F a b:=by
 intro l r i b h
 induction h generalizing i with
 | nil=>intro e;simp at e
 | cons r t ih=>
  intro e
  cases i with
  | zero=>cases e;exact⟨_,rfl,r⟩
  | succ i=>exact ih e
theorem Ac {X:Cx} {pins:List (Addr×Obj)} {σ:St} {H:Hp} {s:Shared} {sc:Scope} {N:List Str} {fp:List Addr} (I:Inv X pins σ H s) (hk:sc.kind= .function)
  (hcell:∀y∈sc.names,y.2≠ .cell) (hcl:∀y∈sc.names,y.2= .free->∃c,X.env.cells.lookup y.1=some c) (f:∀b∈fp,jR X pins H b) (fl:∀b∈fp,b<s.heap.objs.size):
  (mf X sc N ⟨aU X.env [] sc.names,s.heap.objs.size,s,H,fp⟩).Ok where
 mod:=I.ok.mod
 kind:=hk
 glob:=I.ok.glob
 blt:=I.ok.blt
 above:=DS _
 inj:=fun x y c e1 e2=>I.ok.inj x y c (cB _ [] (fun _ _ z=>by simp at z) x c e1) (cB _ [] (fun _ _ z=>by simp at z) y c e2)
 has:=fun x hx=>by
  have m:(x,NameKind.free)∈sc.names:=by
   rcases hx with z | z
   ·exact kH (env:=X.env) sc.names x _ hcell (.inl rfl) z
   ·exact kH (env:=X.env) sc.names x _ hcell (.inr rfl) z
  exact ES.mp (gw sc.names [] x m (hcl _ m rfl))
 cab:=fun _ _ z=>by cases z
 hd:=I.ok.hd
 frames:=I.ok.frames
 stk:= .inl rfl
 exf:=fun b hb=>⟨Eb (fl b hb),fun x c e=>(f b hb).2.2.2.2.1 x c (cB _ [] (fun _ _ z=>by simp at z) x c e)⟩
 bs:=I.bs
 bsz:=Ek I.ok.bsz I.sz
 noex:=fun b o e hb=>by
  rcases(f b hb).2.2.2.1 with z | z
  ·exact I.ok.noex b o e z
  ·exact absurd (Em (Heap.lt_size (I.ok.bs b o e).1) z) (ER _)
 exfs:=fun b hb hs=>by
  rcases Ed.mp (I.stkSub b hs)with z | z
  ·exact(f b hb).2.1 z
  ·exact(f b hb).2.2.1 z
 funs:=I.stack
 frf:=I.stkFree
theorem yc {X:Cx} {pins:List (Addr×Obj)} {σ:St} {H:Hp} {s s4:Shared} {sc:Scope} {N:List Str} {js:List (Option Nat)} {fp:List Addr} {m:Str->Option Value} (I:Inv X pins σ H s)
  (ok:(mf X sc N ⟨aU X.env [] sc.names,s.heap.objs.size,s,H,fp⟩).Ok) (hfree:∀y∈sc.names,y.2= .free->X.env.kindOf y.1=some .cell\/X.env.kindOf y.1=some .free)
  (hN:Paired (fun(j:Option Nat) n=>∀i,j=some i->X.N[i]?=some n/\sc.names.lookup n=some .free) js N)
  (ho:s4.os=s.os) (hg:s4.gens=s.gens) (ns:s4.heap.Ns s.heap.objs.size m) (kp:∀b u,s.heap.get? b=some u->s4.heap.get? b=some u):
  Inv (mf X sc N ⟨aU X.env [] sc.names,s.heap.objs.size,s,H,fp⟩) [] (bN σ js) H s4 where
 ok:=ok
 os:=ho
 bare:=by rw[hg];exact I.bare
 base:=Un.kept kp
 loc:=by
  refine⟨m,ns,fun i x v e1 e2 e3=>?_⟩
  have e1':N[i]?=some x:=e1
  obtain⟨j,ej,fj⟩:=bJ hN e1'
  unfold bN at e2
  rw[DM,ej]at e2
  cases j with
  | none=>cases e2
  | some k=>
   obtain⟨a1,a2⟩:=fj k rfl
   have e2':(σ[k]?).join=some v:=Option.some.inj e2
   have e4:σ[k]?=some (some v):=by
    cases z:σ[k]? with
    | none=>rw[z]at e2';cases e2'
    | some y=>rw[z]at e2';exact congrArg some e2'
   have mem:=df a2
   have kn:=hfree _ mem rfl
   have vis:A1 X.env.scope x:= .inr kn
   obtain⟨m',hn',hl'⟩:=I.loc
   obtain⟨u,ru,lk⟩:=hl' k x v a1 e4 vis
   refine⟨u,ru,.inr ⟨?_,?_⟩⟩
   ·obtain⟨k',hk',e⟩:=gN (env:=X.env) sc.names x a2
    rcases hk' with z | z
    ·subst z;exact .inl e
    ·subst z;exact .inr e
   ·rcases lk with⟨z,_⟩ | ⟨_,c,hc,hcl⟩
    ·rcases kn with q | q
     ·have q':X.env.kindOf x=some .cell:=q
      rw[z]at q';cases q'
     ·have q':X.env.kindOf x=some .free:=q
      rw[z]at q';cases q'
    ·obtain⟨c',e'⟩:=ES.mp (gw (env:=X.env) sc.names [] x mem ⟨c,hc⟩)
     have e2:=cB sc.names [] (fun _ _ z=>by simp at z) x c' e'
     rw[hc]at e2
     cases e2
     obtain⟨o,h1,h2⟩:=hcl
     exact⟨c,e',o,kp c o h1,h2⟩
 cell:=fun x c e=>by
  obtain⟨v,o,h1,h2⟩:=I.cell x c (cB _ [] (fun _ _ z=>by simp at z) x c e)
  exact⟨v,o,kp c o h1,h2⟩
 free:=I.hok.fresh (DS _)
 freeC:=fun x c e=>I.freeC x c (cB _ [] (fun _ _ z=>by simp at z) x c e)
 pin:=fun p hp=>by cases hp
 hok:=I.hok.kept kp
 len:=by
  unfold bN
  rw[DI]
  exact Paired.length hN
set_option maxHeartbeats 4000000 in
theorem kJ {X:Cx} {cpos:Pos} {use:Option (Value->Sem Unit)} {R:Value->Shared->Prop} {pins:List (Addr×Obj)} {s:Shared} {σ:St} {H:Hp} {Q:VK} {elt iter tg:Expr} {ifs:List Expr} {sc:Scope} {pos:Pos} {wi:TI} {g:TG} {tc:TT} {te:TE} (N:List Str) (js:List (Option Nat))
  (hcalm:X.calm=true) (hi:PI X tg iter wi) (hg:∀b,PG (mf X sc N b) tg g) (hc:∀b,Ab (mf X sc N b) ifs tc) (he:∀b,PE (mf X sc N b) elt te)
  (hN:Paired (fun(j:Option Nat) n=>∀i,j=some i->X.N[i]?=some n/\sc.names.lookup n=some .free) js N)
  (hk:sc.kind= .function)
  (hcell:(sc.names.all fun y=>y.2 != .cell)=true)
  (hfree:(sc.names.all fun y=>y.2 != .free||(X.env.scope.names.lookup y.1==some .cell||X.env.scope.names.lookup y.1==some .free))=true)
  (hnames:(sc.names.all fun y=>y.2 != .local||sc.names.lookup y.1==some .local)=true)
  (hs:∀x,foldedSetIterable iter X.env x=pure x) (I:Inv X pins σ H s) (h:r8 wi js g tc te σ H Q)
  (fin0:∀(l C:Addr) (s':Shared) (H':Hp) (m:Str->Option Value),Inv X pins σ H' s'->s'.heap.Ns C m->H' C=none->X.env.locals≠C->X.s₀.heap.objs.size<=C->(∀x c,X.env.cells.lookup x=some c->c≠C)->(∀p∈X.pn++pins,p.1≠C)->Q (.ref l) H'->compPost (model X.prog X.w) X.A X.xe use R (.ref l) C (.ok .next) s'):
  wpAny (model X.prog X.w) X.A (comprehension (.ListComp elt [⟨tg,iter,ifs,0⟩] sc pos) sc X.env cpos (newList []) false (eval iter X.env) use) R X.xe s:=by
 have hcell':∀y∈sc.names,y.2≠ .cell:=fun y hy=>by simpa using ED.mp hcell y hy
 have hfree':∀y∈sc.names,y.2= .free->X.env.kindOf y.1=some .cell\/X.env.kindOf y.1=some .free:=fun y hy e=>by
  have q:=ED.mp hfree y hy
  rw[e]at q
  have q':X.env.scope.names.lookup y.1=some .cell\/X.env.scope.names.lookup y.1=some .free:=by simpa using q
  exact q'
 have hnames':∀y∈sc.names,y.2= .local->sc.names.lookup y.1=some .local:=fun y hy e=>by
  have q:=ED.mp hnames y hy
  rw[e]at q
  simpa using q
 have hcl:∀y∈sc.names,y.2= .free->∃c,X.env.cells.lookup y.1=some c:=fun y hy e=>I.ok.has y.1 (hfree' y hy e)
 refine wpAny_comprehension_free (use:=use) (g:=⟨tg,iter,ifs,0⟩) (gs:=[]) rfl hs (rZ hcl) hk hnames' ?_
 refine bF (hi pins s σ H _ I h) fun v s1 h1=>bF h1 fun itv s2 h2=>?_
 obtain⟨it,fp,tn,J,H2,e,I2,T,st2,f2,q⟩:=h2
 subst e
 obtain⟨W,⟨m0,w0⟩,step⟩:=q _ I2.fresh
 refine wpAny_newObj_type (wpAny_newFunctionEnv hcell' (by intro y hy;simp at hy) (fun h₁ hns hsb=>?_) hk)
 dsimp only at hns hsb ⊢
 have I3:Inv X pins σ (aE H2 s2.heap.objs.size (.lst [])) {s2 with heap:=s2.heap.push {cls:= .type "list",data:= .seq ([]:List Value).toArray},toks:=s2.toks}:=I2.lnew .nil (Eo _)
 generalize hs3:({s2 with heap:=s2.heap.push {cls:= .type "list",data:= .seq ([]:List Value).toArray},toks:=s2.toks}:Shared)=s3 at I3
 generalize hH3:aE H2 s2.heap.objs.size (.lst [])=H3 at I3 w0
 have es3:s3.heap=s2.heap.push {cls:= .type "list",data:= .seq ([]:List Value).toArray}:=by rw[<- hs3]
 have hC:(s2.heap.push {cls:= .type "list",data:= .seq ([]:List Value).toArray}).objs.size=s3.heap.objs.size:=by rw[es3]
 have f3:∀b∈fp,jR X pins H3 b:=fun b hb=>⟨by rw[<- hH3,aq (Eb (by obtain⟨o,e,_⟩:=T.obj _ _ st2 b hb;exact Heap.lt_size e))];exact(f2 b hb).1,(f2 b hb).2⟩
 have fl3:∀b∈fp,b<s3.heap.objs.size:=fun b hb=>by
  obtain⟨o,e,_⟩:=T.obj _ _ st2 b hb
  rw[es3,Heap.size_push]
  exact EC (Heap.lt_size e)
 have ok:=Ac (N:=N) (sc:=sc) (fp:=fp) I3 hk hcell' hcl f3 fl3
 have k23:∀b u,s2.heap.get? b=some u->s3.heap.get? b=some u:=fun b u e=>by rw[es3];exact Heap.get?_push_of_some _ e
 have k34:∀b u,s3.heap.get? b=some u->h₁.get? b=some u:=fun b u e=>by
  rw[hC]at hsb
  refine(hsb.2 b (Eb (Heap.lt_size e))).trans (Heap.get?_push_of_some _ ?_)
  rw[<- es3];exact e
 have I4:=yc (s4:={s2 with heap:=h₁,toks:=s2.toks+([]:List (Str×Value)).length}) (js:=js) I3 ok hfree' hN (by rw[<- hs3]) (by rw[<- hs3]) (by rw[<- hC];exact hns) k34
 have st4:tn 0 h₁:=T.keep _ _ _ st2 fun b _ o e=>k34 b o (k23 b o e)
 generalize hs4:({s2 with heap:=h₁,toks:=s2.toks+([]:List (Str×Value)).length}:Shared)=s4 at I4
 have eh4:s4.heap=h₁:=by rw[<- hs4]
 rw[hC]
 generalize hB:(⟨aU X.env [] sc.names,s3.heap.objs.size,s3,H3,fp⟩:BA)=B at ok I4
 have eC:B.C=s3.heap.objs.size:=by rw[<- hB]
 have stat:∀{H':Hp},(∀b∈fp,H' b=none)->∀b∈fp,jR (mf X sc N B) [] H' b:=fun hn b hb=>by
  refine⟨hn b hb,?_,fun z=>?_,.inl (by rw[<- hB];exact hb),fun x c e=>(ok.exf b (by rw[<- hB];exact hb)).2 x c e,fun p hp=>by cases hp⟩
  ·exact(ok.exf b (by rw[<- hB];exact hb)).1
  ·exact ok.exfs b (by rw[<- hB];exact hb) z
 have fin:∀{s':Shared} {H':Hp} {σ':St},Inv (mf X sc N B) [] σ' H' s'->Q (.ref s2.heap.objs.size) H'->
   compPost (model X.prog X.w) X.A X.xe use R (.ref s2.heap.objs.size) s3.heap.objs.size (.ok .next) s':=fun {s' H' σ'} I' q'=>by
  obtain⟨m,hm,_⟩:=id I'.loc
  have hm':s'.heap.Ns s3.heap.objs.size m:=by rw[<- eC];exact hm
  have u1:Un (gp X.stack) fp H2 H3 s2.heap s3.heap:=by rw[<- hH3];exact Un.laid k23 (DS _) I2.fresh
  have u2:Un (gp X.stack) fp H3 H' s3.heap s'.heap:=by
   have z:=I'.base
   rw[<- hB]at z
   exact z
  have fr':H' s3.heap.objs.size=none:=by rw[<- eC];exact I'.free
  have os':s'.os=s2.os:=by
   have z:=I'.os
   rw[<- hB]at z
   rw[z,<- hs3]
  have Io:Inv X pins σ H' s':=I2.call' (s':=s') (ch:=fp) os' (u1.trans u2) I'.hok I'.bare fun b hb=>⟨(f2 b hb).2.2.2.1,(f2 b hb).2.1,(f2 b hb).2.2.2.2.1,(f2 b hb).2.2.2.2.2⟩
  have ltC:s2.heap.objs.size<s3.heap.objs.size:=by rw[es3,Heap.size_push];exact Fk _
  have cC:∀x c,X.env.cells.lookup x=some c->c≠s3.heap.objs.size:=fun x c e z=>by
   obtain⟨v,q⟩:=I2.cell x c e
   exact absurd q.lt (by rw[z];exact Gk.mpr (ET ltC))
  exact fin0 _ _ s' H' m Io hm' fr' (Eb (Nat.lt_trans I2.lt ltC)) (Ek I2.sz (ET ltC)) cC (fun p hp z=>absurd (Heap.lt_size (I2.pin p hp).1) (by rw[z];exact Gk.mpr (ET ltC))) q'
 have loop:codeAny (model X.prog X.w) X.A (.compLoop (.ListComp elt [⟨tg,iter,ifs,0⟩] sc pos) 0 (.ref it) (.ref s2.heap.objs.size) (mf X sc N B).env)
   (compPost (model X.prog X.w) X.A X.xe use R (.ref s2.heap.objs.size) s3.heap.objs.size) s4:=by
  refine kI (fun n s'=>∃i ys σ' H',Inv (mf X sc N B) [] σ' H' s'/\vL (bN σ js) σ'/\tn i s'.heap/\(∀b∈fp,H' b=none)/\W i n ys H') ?_ m0
   ⟨0,[],bN σ js,H3,I4,⟨rfl,fun _ _ z=>z⟩,by rw[eh4];exact st4,fun b hb=>(f3 b hb).1,w0⟩
  rintro n s5 ⟨i,ys,σ5,H5,I5',kp5,st5,fr5,w5⟩
  have I5:Inv (mf X sc N B) [] (bN σ js) H5 s5:=I5'.weak kp5.1.symm kp5.2
  rcases step i n ys H5 w5 with⟨stop,qn⟩ | ⟨go,N',hN',turn⟩
  ·refine bF (T.done (mf X sc N B) rfl rfl rfl hcalm i [] s5 _ H5 xI I5 (stat fr5) st5 stop) fun r s6 ⟨hr,I6⟩=> .inl ⟨hr,fin I6 qn⟩
  ·refine bF (T.item (mf X sc N B) rfl rfl rfl hcalm i [] s5 _ H5 xI I5 (stat fr5) st5 go) fun r s6 ⟨u,hr,h6⟩=> .inr ⟨u,hr,?_⟩
   refine bF h6 fun _ s7 hq__=>?_
   obtain⟨x,H7,I7,r7,y7,st7,fr7⟩:=hq__
   have I7':=I7.pinned (stat fr7) (T.obj _ _ st7)
   have back:∀{σ8:St} {H8:Hp} {s8:Shared},Inv (mf X sc N B) ([]++i7 fp s7.heap) σ8 H8 s8->tn (i+1) s8.heap/\∀b∈fp,H8 b=none:=fun {σ8 H8 s8} I8=>by
    refine⟨T.keep _ _ _ st7 fun b hb o e=>(I8.pin (b,o) (Eh _ (Eh _ (cS hb e)))).1,fun b hb=>?_⟩
    obtain⟨o,e,d⟩:=T.obj _ _ st7 b hb
    exact(I8.pin (b,o) (Eh _ (Eh _ (cS hb e)))).2.1
   refine bF (hg B _ s7 _ H7 x u _ I7' r7 (turn x H7 y7)) fun _ s8 hq__=>?_
   obtain⟨σ8,H8,I8,kp8,q8⟩:=hq__
   refine bF (hc B _ s8 σ8 H8 _ I8 q8) fun ok s9 ⟨H9,I9,q9⟩=>⟨fun e=>?_,fun e=>?_⟩
   ·refine bF (he B _ s9 σ8 H9 _ I9 (q9.1 e)) fun yv s10 hq__=>?_
    obtain⟨y,H10,I10,r10,q10⟩:=hq__
    obtain⟨e10,l10,n10⟩:=q10
    refine bF (a8 _ s10 σ8 H10 (.ref s2.heap.objs.size) [y] _ _ (fun _ H'=>N' (ys++[y]) H') I10 rfl (.cons r10 .nil) ⟨_,ys,y,rfl,rfl,e10,l10,n10⟩) fun _ s11 hq__=>?_
    obtain⟨_,H11,I11,_,q11⟩:=hq__
    obtain⟨m',hm,w11⟩:=hN' _ _ q11
    obtain⟨st11,fr11⟩:=back I11
    exact⟨m',hm,i+1,ys++[y],σ8,H11,I11.unpinned,kp8,st11,fr11,w11⟩
   ·obtain⟨m',hm,w11⟩:=hN' _ _ (q9.2 e)
    obtain⟨st11,fr11⟩:=back I9
    exact⟨m',hm,i+1,ys,σ8,H9,I9.unpinned,kp8,st11,fr11,w11⟩
 have env_eq:(mf X sc N B).env=compEnvC sc (aU X.env [] sc.names) s3.heap.objs.size X.env:=by rw[<- hB]
 rw[env_eq]at loop
 have st4':tn 0 s4.heap:=by rw[eh4];exact st4
 exact codeAny_compStart_list loop (T.self X.A 0 _ _ _ st4' loop)
theorem aJ {X:Cx} {elt iter tg:Expr} {ifs:List Expr} {sc:Scope} {pos:Pos} {wi:TI} {g:TG} {tc:TT} {te:TE} (N:List Str) (js:List (Option Nat))
  (hcalm:X.calm=true) (hi:PI X tg iter wi) (hg:∀b,PG (mf X sc N b) tg g) (hc:∀b,Ab (mf X sc N b) ifs tc) (he:∀b,PE (mf X sc N b) elt te)
  (hN:Paired (fun(j:Option Nat) n=>∀i,j=some i->X.N[i]?=some n/\sc.names.lookup n=some .free) js N)
  (hk:sc.kind= .function:=by rfl)
  (hcell:(sc.names.all fun y=>y.2 != .cell)=true:=by rfl)
  (hfree:(sc.names.all fun y=>y.2 != .free||(X.env.scope.names.lookup y.1==some .cell||X.env.scope.names.lookup y.1==some .free))=true:=by rfl)
  (hnames:(sc.names.all fun y=>y.2 != .local||sc.names.lookup y.1==some .local)=true:=by rfl)
  (hs:∀x,foldedSetIterable iter X.env x=pure x:=by intro _;rfl):PE X (.ListComp elt [⟨tg,iter,ifs,0⟩] sc pos) (r8 wi js g tc te):=by
 intro pins s σ H Q I h
 rw[eval_ListComp]
 exact kJ (use:=none) N js hcalm hi hg hc he hN hk hcell hfree hnames hs I h fun l C s' H' m Io hm fr lC sz cC pC q'=>⟨m,hm,fun h' sb'=>⟨.ref l,H',Io.turned (t':=s'.toks) (it:=C) (fun b o hb e=>(sb'.2 b hb).trans e) fr lC.symm (.inr sz) cC pC,rfl,q'⟩⟩
theorem e8 {X:Cx} {i₀:Nat} {y₀:Str} {py spos:Pos} {elt iter tg:Expr} {ifs:List Expr} {sc:Scope} {pos:Pos} {wi:TI} {g:TG} {tc:TT} {te:TE} (hN₀:X.N.Nodup) (hi₀:X.N[i₀]?=some y₀) (hx₀:A3 X.env.scope y₀) (N:List Str) (js:List (Option Nat))
  (hcalm:X.calm=true) (hi:PI X tg iter wi) (hg:∀b,PG (mf X sc N b) tg g) (hc:∀b,Ab (mf X sc N b) ifs tc) (he:∀b,PE (mf X sc N b) elt te)
  (hN:Paired (fun(j:Option Nat) n=>∀i,j=some i->X.N[i]?=some n/\sc.names.lookup n=some .free) js N)
  (hk:sc.kind= .function:=by rfl)
  (hcell:(sc.names.all fun y=>y.2 != .cell)=true:=by rfl)
  (hfree:(sc.names.all fun y=>y.2 != .free||(X.env.scope.names.lookup y.1==some .cell||X.env.scope.names.lookup y.1==some .free))=true:=by rfl)
  (hnames:(sc.names.all fun y=>y.2 != .local||sc.names.lookup y.1==some .local)=true:=by rfl)
  (hs:∀x,foldedSetIterable iter X.env x=pure x:=by intro _;rfl) (hsw:swapsWith (.ListComp elt [⟨tg,iter,ifs,0⟩] sc pos) (some (.Name y₀ py)) spos.line X.env=pure true:=by rfl)
  (hf₀:X.fn y₀=true\/X.env.scope.names.lookup y₀=some .local:=by first | exact .inl rfl | exact .inr rfl | assumption):PS X (.Assign [.Name y₀ py] (.ListComp elt [⟨tg,iter,ifs,0⟩] sc pos) spos) (zQ (r8 wi js g tc te) (bS i₀)):=by
 intro pins s σ H D I h
 rw[exec_Assign_Name_used _ _ _ _ hsw]
 refine wpAny_bind (wpAny_standAt (wpAny_bind ?_))
 show wpAny _ X.A (do let _ <- comprehension (.ListComp elt [⟨tg,iter,ifs,0⟩] sc pos) sc X.env _ (newList []) false (eval iter X.env) (some (assign (.Name y₀ py) X.env))) _ _ s
 refine wpAny_bind (wpAny_mono (kJ (use:=some (assign (.Name y₀ py) X.env)) (R:=fun _ s'=>SP X pins D .next s') (Q:=fun x H1=>D.nx (σ.set i₀ (some x)) H1) N js hcalm hi hg hc he hN hk hcell hfree hnames hs I h fun l C s' H' m Io hm fr lC sz cC pC q'=>?_) (fun _ s' hq=>wpAny_pure (wpAny_pure hq)) fun _ _ e=>e)
 show wpAny (model X.prog X.w) X.A (assign (.Name y₀ py) X.env (.ref l)) _ X.xe s'
 refine wpAny_assign_Name (mG Io hN₀ hi₀ hx₀ (v:= .ref l) rfl (fun s'' I'' ⟨a,sb,ha⟩=>?_) hf₀)
 have haC:C≠a:=by
  rcases ha with z | z
  ·rw [z];exact lC.symm
  ·exact(cC _ _ z).symm
 exact⟨m,hm.sameBut sb haC,fun h' sb'=>⟨_,H',I''.turned (t':=s''.toks) (it:=C) (fun b o hb e=>(sb'.2 b hb).trans e) fr lC.symm (.inr sz) cC pC,q'⟩⟩
section
variable {X:Cx} {p:Pos}
theorem Ad (h:X.mg "int"=none) (hg:Gl X "int":=by rfl):PE X (.Name "int" p) (tC (.ty "int")):=j4 hg h PyProof.Rows.boot_int rfl
theorem yd (h:X.mg "bool"=none) (hg:Gl X "bool":=by rfl):PE X (.Name "bool" p) (tC (.ty "bool")):=j4 hg h PyProof.Rows.boot_bool rfl
theorem j9 (h:X.mg "list"=none) (hg:Gl X "list":=by rfl):PE X (.Name "list" p) (tC (.ty "list")):=j4 hg h PyProof.Rows.boot_list rfl
theorem kK (h:X.mg "tuple"=none) (hg:Gl X "tuple":=by rfl):PE X (.Name "tuple" p) (tC (.ty "tuple")):=j4 hg h PyProof.Rows.boot_tuple rfl
theorem vM:cu X (.builtin "isinstance") (fun xs H Q=>∃x Y t b,xs=[x,.ty Y]/\TyOf X.K H x t/\PySem.W.kitOne X.K t (.type Y)=some b/\Q (.bl b) H):=by
 intro pins s σ H xs us Q I r h
 obtain⟨x,Y,t,b,e,ty,ko,q⟩:=h
 subst e
 obtain⟨u,w',e,rx,ry⟩:=rM r
 subst e
 cases ry
 exact tP I rx ty ko fun tk=>⟨.bl b,H,I.tok _,rfl,q⟩
end
structure Def (K:PySem.W.Frag) (mg:Str->Option Value) (x:Str) (st:Stmt) (ps:List Str) (f:Addr) (fd:FuncData):Prop where
 fn:Fun K x x st f fd
 bd:Binds K fd ps []
 at':mg x=some (.ref f)
section
variable {X:Cx} {k:Nat} {x:Str} {st:Stmt} {ps:List Str} {f:Addr} {fd:FuncData} {sp:Sp} {e:Expr} {es:List Expr} {t:TA} {p pos:Pos}
theorem pc (D:Def X.K X.mg x st ps f fd) (F:FnOk X.prog X.w X.K X.mg X.base aX k f fd ps sp) (hr:Room k X.A) (ha:PA X (e :: es) t) (hg:Gl X x:=by rfl) (hdb:(x==("__debug__":Str))=false:=by decide)
  (he:starEach (e :: es) X.env=(false,eval e X.env) :: starEach es X.env:=by rfl) (hpl:(backTo pos (starEach es X.env)).any (·.1)=false:=by rfl):PE X (.Call (.Name x p) (e :: es) [] pos) (zu sp [] E0 t):=
 xR F hr hg D.at' D.fn.kp D.bd .nil Bv ha hdb he hpl
end
theorem Same.new {H:Hp} {a:Addr} {o:HO} (h:H a=none):Same H (aE H a o):=fun b u e=>by rw[aq (aw e h)];exact e
theorem Same.put {H H':Hp} {a:Addr} {o:HO} (s:Same H H') (h:H a=none):Same H (aE H' a o):=fun b u e=>by rw[aq (aw e h)];exact s b u e
theorem Same.to {H H':Hp} {a:Addr} {o:HO} (s:Same H H') (h:H' a=none):Same H (aE H' a o):=s.trans (Same.new h)
inductive DEq (K:PySem.W.Frag) (H:Hp):Nat->V->V->Bool->Prop
 | flat {d:Nat} {x y:V} (fx:de x=true) (fy:de y=true):DEq K H d x y (rQ x y)
 | lst {d:Nat} {a b:Addr} {xs ys:List V} {e:Nat->Bool} (h1:SqL K H a xs) (h2:SqL K H b ys) (hl:xs.length=ys.length)
  (he:∀(j:Nat) x y,xs[j]?=some x->ys[j]?=some y->DEq K H d x y (e j)):DEq K H (d+1) (.ref a) (.ref b) ((DR xs.length).all e)
 | len {d:Nat} {a b:Addr} {xs ys:List V} (h1:SqL K H a xs) (h2:SqL K H b ys) (hl:xs.length≠ys.length):DEq K H (d+1) (.ref a) (.ref b) false
 | tup {d:Nat} {a b:Addr} {xs ys:List V} {e:Nat->Bool} (h1:SqT K H a xs) (h2:SqT K H b ys)
  (he:∀(j:Nat) x y,xs[j]?=some x->ys[j]?=some y->DEq K H d x y (e j)):DEq K H (d+1) (.ref a) (.ref b) ((DR (min xs.length ys.length)).all e&&xs.length==ys.length)
theorem kL:∀{x:V},de x=true->rQ x x=true
 | .non,_=>rfl
 | .bl b,_=>by cases b<;>rfl
 | .int i,_=>by simp[rQ]
 | .str y,_=>by simp[rQ]
theorem DEq.self {X:Cx} {pins:List (Addr×Obj)} {σ:St} {H:Hp} {s:Shared} (I:Inv X pins σ H s) {d:Nat} {x y:V} {b:Bool} (h:DEq X.K H d x y b):x=y->b=true:=by
 induction h with
 | flat fx fy=>intro e;subst e;exact kL fx
 | @lst d a b xs ys e h1 h2 hl he ih=>
  intro z
  cases z
  have q:=I.list_inj h1 h2
  subst q
  rw[ED]
  intro j hj
  have hj':j<xs.length:=Ee.mp hj
  exact ih j _ _ (DJ hj') (DJ hj') rfl
 | len h1 h2 hl=>
  intro z
  cases z
  have q:=I.list_inj h1 h2
  exact absurd (congrArg List.length q) hl
 | @tup d a b xs ys e h1 h2 he ih=>
  intro z
  cases z
  have q:=I.tuple_inj h1 h2
  subst q
  rw[EF,ED]
  refine⟨fun j hj=>?_,by simp⟩
  have hj':j<xs.length:=by have:=Ee.mp hj;omega
  exact ih j _ _ (DJ hj') (DJ hj') rfl
theorem Vals.at {xs:List V} {us:List Value} (r:Vals xs us) {j:Nat} (h:j<us.toArray.size):∃x,xs[j]?=some x/\RelV x us.toArray[j]:=by
 have hl:=r.length
 have h':j<xs.length:=by simpa [hl]using h
 obtain⟨u,e,ru⟩:=r.get (DJ h')
 refine⟨_,DJ h',?_⟩
 have h2:j<us.length:=by simpa using h
 rw[DJ h2]at e
 have e2:us[j]=u:=Option.some.inj e
 simpa [e2]using ru
theorem DEq.at {X:Cx} {pins:List (Addr×Obj)} {σ:St} {H:Hp} {s:Shared} (I:Inv X pins σ H s) {d:Nat} {x y:V} {b:Bool} (h:DEq X.K H d x y b):
  ∀{A:Around} {u v:Value},A.units+d<cLine->RelV x u->RelV y v->SeqAt.EqAt A s u v b:=by
 induction h with
 | flat fx fy=>intro A u v hu rx ry;exact vB rx ry fx fy
 | @lst d a b xs ys e h1 h2 hl he ih=>
  intro A u v hu rx ry
  cases rx;cases ry
  by_cases hab:a=b
  ·have z:(DR xs.length).all e=true:=(DEq.lst h1 h2 hl he).self I (by rw[hab])
   rw[z,hab]
   exact SeqAt.EqAt.same _
  ·obtain⟨its,r,pl,_⟩:=I.list h1
   obtain⟨its2,r2,pl2,_⟩:=I.list h2
   have l1:=r.length
   have l2:=r2.length
   have q:=SeqAt.RcAt.lists (A:=A) (e:=e) pl.isList pl2.isList (by simp;omega) (by omega) fun j j1 j2=>by
    obtain⟨x,ex,rx⟩:=r.at j1
    obtain⟨y,ey,ry⟩:=r2.at j2
    exact ih j x y ex ey (by show A.units+1+d<cLine;omega) rx ry
   refine SeqAt.EqAt.of_refs hab ?_
   simpa [l1]using q
 | @len d a b xs ys h1 h2 hl=>
  intro A u v hu rx ry
  cases rx;cases ry
  have hab:a≠b:=by
   rintro rfl
   exact hl (congrArg List.length (I.list_inj h1 h2))
  obtain⟨its,r,pl,_⟩:=I.list h1
  obtain⟨its2,r2,pl2,_⟩:=I.list h2
  have l1:=r.length
  have l2:=r2.length
  exact SeqAt.EqAt.of_refs hab (SeqAt.RcAt.lists_lengths pl.isList pl2.isList (by simp;omega) (by omega))
 | @tup d a b xs ys e h1 h2 he ih=>
  intro A u v hu rx ry
  cases rx;cases ry
  by_cases hab:a=b
  ·have z:=(DEq.tup h1 h2 he).self I (by rw[hab])
   rw[z,hab]
   exact SeqAt.EqAt.same _
  ·obtain⟨its,r,pl,_⟩:=I.tuple h1
   obtain⟨its2,r2,pl2,_⟩:=I.tuple h2
   have l1:=r.length
   have l2:=r2.length
   have q:=SeqAt.RcAt.tuples (A:=A) (e:=e) (show s.heap.IsTuple a its.toArray from pl) (show s.heap.IsTuple b its2.toArray from pl2) (by omega) fun j j1 j2=>by
    obtain⟨x,ex,rx⟩:=r.at j1
    obtain⟨y,ey,ry⟩:=r2.at j2
    exact ih j x y ex ey (by show A.units+1+d<cLine;omega) rx ry
   refine SeqAt.EqAt.of_refs hab ?_
   simpa [l1,l2]using q
section
variable {X:Cx}
def Bw (K:PySem.W.Frag):R2:=fun x y H Q=>∃d b,DEq K H d x y b/\d<64/\de x=false/\Q (.bl b) H
def Bx (K:PySem.W.Frag):R2:=fun x y H Q=>∃d b,DEq K H d x y b/\d<64/\de x=false/\Q (.bl (!b)) H
theorem Ae (hu:X.A.units+64<cLine):gu X (compareOp .Eq) (Bw X.K):=by
 intro pins s σ H x y v u Q I rx ry h
 obtain⟨d,b,dq,hd,fl,q⟩:=h
 cases dq with
 | flat fx fy=>rw[fx]at fl;cases fl
 | @lst d a b xs ys e h1 h2 hl he=>
  cases rx;cases ry
  obtain⟨its,r,pl,_⟩:=I.list h1
  obtain⟨its2,r2,pl2,_⟩:=I.list h2
  have l1:=r.length
  have l2:=r2.length
  refine SeqAt.eq_listAt (e:=e) pl.isList pl2.isList (by simp;omega) (by omega) (fun j j1 j2=>?_) ?_
  ·obtain⟨x,ex,rx⟩:=r.at j1
   obtain⟨y,ey,ry⟩:=r2.at j2
   exact(he j x y ex ey).at I (by show X.A.units+1+d<cLine;omega) rx ry
  ·refine⟨.bl _,H,I,rfl,?_⟩
   simpa [<- l1]using q
 | @len d a b xs ys h1 h2 hl=>
  cases rx;cases ry
  obtain⟨its,r,pl,_⟩:=I.list h1
  obtain⟨its2,r2,pl2,_⟩:=I.list h2
  have l1:=r.length
  have l2:=r2.length
  exact SeqAt.eq_list_lengthsAt pl.isList pl2.isList (by simp;omega) (by omega) ⟨.bl _,H,I,rfl,q⟩
 | @tup d a b xs ys e h1 h2 he=>
  cases rx;cases ry
  obtain⟨its,r,pl,_⟩:=I.tuple h1
  obtain⟨its2,r2,pl2,_⟩:=I.tuple h2
  have l1:=r.length
  have l2:=r2.length
  refine SeqAt.eq_tupleAt (e:=e) (show s.heap.IsTuple a its.toArray from pl) (show s.heap.IsTuple b its2.toArray from pl2) (by omega) (fun j j1 j2=>?_) ?_
  ·obtain⟨x,ex,rx⟩:=r.at j1
   obtain⟨y,ey,ry⟩:=r2.at j2
   exact(he j x y ex ey).at I (by show X.A.units+1+d<cLine;omega) rx ry
  ·refine⟨.bl _,H,I,rfl,?_⟩
   simpa [<- l1,<- l2]using q
theorem Af (hu:X.A.units+64<cLine):gu X (compareOp .NotEq) (Bx X.K):=by
 intro pins s σ H x y v u Q I rx ry h
 obtain⟨d,b,dq,hd,fl,q⟩:=h
 cases dq with
 | flat fx fy=>rw[fx]at fl;cases fl
 | @lst d a b xs ys e h1 h2 hl he=>
  cases rx;cases ry
  obtain⟨its,r,pl,_⟩:=I.list h1
  obtain⟨its2,r2,pl2,_⟩:=I.list h2
  have l1:=r.length
  have l2:=r2.length
  refine SeqAt.RcNeAt.lists (e:=e) pl.isList pl2.isList (by simp;omega) (by omega) (fun j j1 j2=>?_) _ _ _ _ ?_
  ·obtain⟨x,ex,rx⟩:=r.at j1
   obtain⟨y,ey,ry⟩:=r2.at j2
   exact(he j x y ex ey).at I (by show X.A.units+1+d<cLine;omega) rx ry
  ·refine⟨.bl _,H,I,rfl,?_⟩
   simpa [<- l1]using q
 | @len d a b xs ys h1 h2 hl=>
  cases rx;cases ry
  obtain⟨its,r,pl,_⟩:=I.list h1
  obtain⟨its2,r2,pl2,_⟩:=I.list h2
  have l1:=r.length
  have l2:=r2.length
  exact SeqAt.RcNeAt.lists_lengths pl.isList pl2.isList (by simp;omega) (by omega) _ _ _ _ ⟨.bl _,H,I,rfl,q⟩
 | @tup d a b xs ys e h1 h2 he=>
  cases rx;cases ry
  obtain⟨its,r,pl,_⟩:=I.tuple h1
  obtain⟨its2,r2,pl2,_⟩:=I.tuple h2
  have l1:=r.length
  have l2:=r2.length
  refine SeqAt.RcNeAt.tuples (e:=e) (show s.heap.IsTuple a its.toArray from pl) (show s.heap.IsTuple b its2.toArray from pl2) (by omega) (fun j j1 j2=>?_) _ _ _ _ ?_
  ·obtain⟨x,ex,rx⟩:=r.at j1
   obtain⟨y,ey,ry⟩:=r2.at j2
   exact(he j x y ex ey).at I (by show X.A.units+1+d<cLine;omega) rx ry
  ·refine⟨.bl _,H,I,rfl,?_⟩
   simpa [<- l1,<- l2]using q
theorem vN:cu X (.builtin "all") (fun xs H Q=>∃(hc:X.calm=true) (p:Addr) (bs:List Bool),xs=[.ref p]/\SqL X.K H p (bs.map V.bl)/\Q (.bl (bs.all id)) H):=by
 intro pins s σ H xs us Q I r h
 obtain⟨hc,p,bs,e,hq,q⟩:=h
 subst e
 obtain⟨u,e,rx⟩:=fI r
 subst e
 cases rx
 obtain⟨its,rv,pl,hz⟩:=I.list hq
 have hl:=rv.length
 rw[DI]at hl
 refine call_all_walk (wpAny_pyIter_list pl.isList ?_)
 have hne:p≠s.heap.objs.size:=by
  obtain⟨o,ho,_⟩:=pl.isList
  exact Eb (Heap.lt_size ho)
 refine⟨s.heap.objs.size,_,_,_,_,_,fun i=>bs.getD i true,rfl,Walks.list (A:=X.A.in1) (show X.A.in1.handled=none from I.ok.hd hc) _ p hne its.toArray,?_,?_,?_⟩
 ·refine⟨⟨_,Heap.get?_push_size _ rfl,rfl,rfl⟩,?_⟩
  obtain⟨o,ho,z⟩:=pl.isList
  exact⟨o,Heap.get?_push_of_some _ ho,z⟩
 ·intro i v s' Q' E' hi hq'
  have hi':its[i]?=some v:=by simpa using hi
  have h2:i<bs.length:=by rw[hl];exact(DN.mp hi').1
  obtain⟨u,eu,ru⟩:=rv.get (i:=i) (x:= .bl bs[i]) (by simp[h2])
  rw[hi']at eu
  cases eu
  cases ru
  refine wpAny_truthy_bool ?_
  have:bs.getD i true=bs[i]:=by simp[h2]
  rw[<- this];exact hq'
 ·intro h' tk kp
  refine⟨.bl (bs.all id),H,I.kept (fun b o e=>kp b o ?_ (Heap.get?_push_of_some _ e)),?_,q⟩
  ·have:=Heap.lt_size e
   intro z
   rw[DV]at z
   exact absurd this (by rw[z];exact ER _)
  ·show Value.bool _=Value.bool _
   congr 1
   have e2:its.toArray.size=bs.length:=by simp[hl]
   rw[e2,Fv,ED,ED]
   constructor
   ·intro h x hx
    obtain⟨j,hj,ej⟩:=Ef.mp hx
    have:=h j (Ee.mpr hj)
    simpa [hj,ej]using this
   ·intro h j hj
    have hj':=Ee.mp hj
    have:=h bs[j] (El hj')
    simpa [hj']using this
theorem oU:cu X (.builtin "sorted") (fun xs H Q=>∃(p:Addr) (ns:List Int),xs=[.ref p]/\SqL X.K H p (ns.map V.int)/\ns.length<64/\
  ∀l (ms:List Int),H l=none->ms.Perm ns->ms.Pairwise (· <= ·)->Q (.ref l) (aE H l (.lst (ms.map V.int)))):=by
 intro pins s σ H xs us Q I r h
 obtain⟨p,ns,e,hq,h64,q⟩:=h
 subst e
 obtain⟨u,e,rx⟩:=fI r
 subst e
 cases rx
 obtain⟨its,rv,pl,hz⟩:=I.list hq
 have hl:=rv.length
 rw[DI]at hl
 refine sorted_ints (vs:=its) (ns:=ns) pl.isList (cU rv) (by omega) fun out ns' a1 a2 a3=>?_
 obtain⟨ep,e⟩:=sortedAll_at s.heap its out
 have hn:s.heap.objs.size<=s.heap.objs.size+1:=FU _
 refine⟨.ref (s.heap.objs.size+1),_,I.laid (t':=s.toks) (fun b o eb=>sortedAll_old eb) hn (show ObjOk X.prog X.w _ _ _ (.lst (ns'.map V.int))from⟨?_,out.toList,ep,i9 a1,?_⟩),rfl,q _ ns' (I.hok.fresh hn) a2 a3⟩
 ·rw [DI,a2.length_eq];exact ET (mO (by omega))
 ·simpa [seqObj]using e
end
def SameBut (acc:Addr) (H H':Hp):Prop:=∀b o,b≠acc->H b=some o->H' b=some o
theorem Same.but {acc:Addr} {H H':Hp} (s:Same H H'):SameBut acc H H':=fun b o _ e=>s b o e
theorem SameBut.upd {acc:Addr} {H:Hp} {o:HO}:SameBut acc H (aE H acc o):=fun b u n e=>by rw[aq n];exact e
theorem r9 {n:Nat} (h:n<=1000):n<=sizeLine:=ET (mO h)
theorem cI {n:Nat} (h:Nat.ble n 1000=true:=by rfl):n<=sizeLine:=r9 (Nat.le_of_ble_eq_true h)
theorem kb {n:Nat} (h:n<100000):n<sizeLine:=by rw[sizeLine_eq];omega
theorem vO {x:Option V} {σ:St}:vL (none :: σ) (x :: σ):=⟨rfl,fun i v e=>by
 cases i with
 | zero=>cases e
 | succ i=>exact e⟩
theorem ja {J:It} {H1:Hp} {js:List (Option Nat)} {σ:St} {tc:TT} {te:TE} {Q:VK} (n:Nat) (item:Nat->V) (p:Nat->Bool) (P:Addr->Nat->V->Hp->Prop) (hn:n<100000)
  (mono:∀acc i v H H',P acc i v H->SameBut acc H H'->P acc i v H')
  (hgo:∀i H,i<n->Same H1 H->J.go i H) (hst:∀H,Same H1 H->J.stop n H) (hy:∀i H x H',i<n->Same H1 H->J.yld i H x H'->H'=H/\x=item i)
  (hc:∀i,i<n->∀H2 R,Same H1 H2->R (p i) H2->tc (some (item i) :: bN σ js) H2 R)
  (he:∀acc i,i<n->p i=true->∀H2 R,Same H1 H2->H1 acc=none->H2 acc≠none->(∀v H3,Same H2 H3->P acc i v H3->R v H3)->te (some (item i) :: bN σ js) H2 R)
  (hQ:∀acc vs H',Same H1 H'->H1 acc=none->H' acc=some (.lst vs)->Paired (fun i v=>P acc i v H') ((DR n).filter p) vs->Q (.ref acc) H'):
  cF J H1 (none :: js) (bS 0) tc te σ Q:=by
 intro acc hacc
 refine⟨fun i m ys H=>m=n-i/\i<=n/\Same H1 H/\H acc=some (.lst ys)/\Paired (fun k v=>P acc k v H) ((DR i).filter p) ys,⟨n,by simp,Eo _,Same.new hacc,ae,.nil⟩,?_⟩
 rintro i m ys H ⟨rfl,hi,s1,ha,hp⟩
 by_cases hlt:i<n
 ·refine .inr ⟨hgo i H hlt s1,fun ys' H'=>i<n/\Same H1 H'/\H' acc=some (.lst ys')/\Paired (fun k v=>P acc k v H') ((DR (i+1)).filter p) ys',fun ys' H' ⟨z,a,b,c⟩=>⟨n-(i+1),EO _ _ hlt,rfl,hlt,a,b,c⟩,fun x H' y=>?_⟩
  obtain⟨rfl,rfl⟩:=hy i H x H' hlt s1 y
  refine⟨vO,hc i hlt _ _ s1 ⟨fun hb=>?_,fun hb=>?_⟩⟩
  ·refine he acc i hlt hb _ _ s1 hacc (by rw[ha];simp) fun v H3 s3 pv=>?_
   have hlen:ys.length<=i:=by
    rw[<- Paired.length hp]
    exact Ek (Et _ _) (by simp)
   refine⟨s3 _ _ ha,kb (by omega),hlt,(s1.trans s3).put hacc,ae,?_⟩
   rw[E4,EI]
   have e:F2 p [i]=[i]:=by simp[hb]
   rw[e]
   refine Paired.snoc (Paired.mapP hp fun k v q=>?_) ?_
   ·exact mono acc k v _ _ (mono acc k v _ _ q s3.but) SameBut.upd
   ·exact mono acc i v _ _ pv SameBut.upd
  ·refine⟨hlt,s1,ha,?_⟩
   rw[E4,EI]
   have e:F2 p [i]=[]:=by simp[hb]
   rw[e,Fc]
   exact hp
 ·have e:i=n:=Ff hi (E5 hlt)
  subst e
  exact .inl ⟨hst H s1,hQ acc ys H s1 hacc ha hp⟩
theorem cV {α β:Type} {f:α->β}:∀{l:List α} {r:List β},Paired (fun a b=>b=f a) l r->r=l.map f:=by
 intro l r h
 induction h with
 | nil=>rfl
 | cons h t ih=>rw[h,ih];rfl
section
variable {K:PySem.W.Frag} {H1:Hp} {js:List (Option Nat)} {σ:St} {tc:TT} {te:TE} {Q:VK}
theorem qt {lo:Int} {n:Nat} (f:Nat->V) (hn:n<100000)
  (he:∀i:Nat,i<n->∀H2 R,Same H1 H2->(∀H3,Same H2 H3->R (f i) H3)->te (some (.int (lo+i)) :: bN σ js) H2 R)
  (hQ:∀acc H',Same H1 H'->H1 acc=none->H' acc=some (.lst ((DR n).map f))->Q (.ref acc) H'):cF (rG lo n) H1 (none :: js) (bS 0) gY te σ Q:=
 ja (J:=rG lo n) (H1:=H1) (js:=js) (σ:=σ) (tc:=gY) (te:=te) (Q:=Q) n (fun i=> .int (lo+i)) (fun _=>true) (fun _ i v _=>v=f i) hn (fun _ _ _ _ _ h _=>h)
  (fun _ _ h _=>h) (fun _ _=>DS _) (fun _ _ _ _ _ _ y=>y) (fun _ _ _ _ _ h=>h) (fun _ i hi _ H2 R s _ _ k=>he i hi H2 R s fun H3 s3=>k _ H3 s3 rfl)
  fun acc vs H' s n' e p=>hQ acc H' s n' (by rw[e,cV p,EU.mpr (fun _ _=>rfl)])
theorem uc {a:Addr} {xs:List V} (p:Nat->Bool) (P:Addr->Nat->V->Hp->Prop) (hl:SqL K H1 a xs) (hn:xs.length<100000)
  (mono:∀acc i v H H',P acc i v H->SameBut acc H H'->P acc i v H')
  (hc:∀(i:Nat) x,xs[i]?=some x->∀H2 R,Same H1 H2->R (p i) H2->tc (some x :: bN σ js) H2 R)
  (he:∀acc (i:Nat) x,xs[i]?=some x->p i=true->∀H2 R,Same H1 H2->H1 acc=none->H2 acc≠none->(∀v H3,Same H2 H3->P acc i v H3->R v H3)->te (some x :: bN σ js) H2 R)
  (hQ:∀acc vs H',Same H1 H'->H1 acc=none->H' acc=some (.lst vs)->Paired (fun i v=>P acc i v H') ((DR xs.length).filter p) vs->Q (.ref acc) H'):cF (oI K a) H1 (none :: js) (bS 0) tc te σ Q:=
 ja (J:=oI K a) (H1:=H1) (js:=js) (σ:=σ) (tc:=tc) (te:=te) (Q:=Q) xs.length (fun i=>xs.getD i .non) p P hn mono
  (fun i H h s=>⟨xs,xs[i],s.seq hl,by simp[h]⟩) (fun H s=>⟨xs,s.seq hl,DS _⟩)
  (fun i H x H' h s y=>⟨y.1,by have e:=y.2 xs (s.seq hl);simp[e]⟩)
  (fun i h H2 R s k=>hc i _ (by simp[h]) H2 R s k) (fun acc i h hp H2 R s n1 n2 k=>he acc i _ (by simp[h]) hp H2 R s n1 n2 k) hQ
end
section
variable {X:Cx} {tg l:Expr} {tl:TE} {es:List Expr} {k n:Nat} {t:xG} {pos:Pos} {a:Expr} {ta:TE}
theorem dO (K:PySem.W.Frag) (h:X.K=K:=by rfl):AW X (Bn K):=by subst h;exact xV
theorem e9 (K:PySem.W.Frag) (h:X.K=K:=by rfl):AW X (Bo K):=by subst h;exact zV
theorem CJ (K:PySem.W.Frag) (h:X.K=K:=by rfl):B3 X (Bq K):=by subst h;exact xW
theorem Ag (K:PySem.W.Frag) (h:X.K=K:=by rfl):gu X (compareOp .In) (B5 K false):=by subst h;exact tV
theorem ud (K:PySem.W.Frag) (h:X.K=K:=by rfl):gu X (compareOp .NotIn) (B5 K true):=by subst h;exact nM
theorem B6 (K:PySem.W.Frag) (hu:X.A.units+64<cLine) (h:X.K=K:=by rfl):gu X (compareOp .Eq) (Bw K):=by subst h;exact Ae hu
theorem CZ (K:PySem.W.Frag) (hu:X.A.units+64<cLine) (h:X.K=K:=by rfl):gu X (compareOp .NotEq) (Bx K):=by subst h;exact Af hu
theorem bw (K:PySem.W.Frag) (h:X.K=K:=by rfl):cu X (.builtin "len") (fun xs H Q=>∃x n,xs=[x]/\Bi K x H n/\Q (.int n) H):=by subst h;exact vz
theorem nP (K:PySem.W.Frag) (h:X.K=K:=by rfl):cu X (.builtin "isinstance") (fun xs H Q=>∃x Y t b,xs=[x,.ty Y]/\TyOf K H x t/\PySem.W.kitOne K t (.type Y)=some b/\Q (.bl b) H):=by subst h;exact vM
theorem Ah (K:PySem.W.Frag) (hc:X.calm=true:=by rfl) (h:X.K=K:=by rfl):cu X (.builtin "all") (fun xs H Q=>∃(p:Addr) (bs:List Bool),xs=[.ref p]/\SqL K H p (bs.map V.bl)/\Q (.bl (bs.all id)) H):=by
 subst h
 exact fun pins s σ H xs us Q I r q=>vN pins s σ H xs us Q I r (let⟨p,bs,e⟩:=q;⟨hc,p,bs,e⟩)
theorem ye (K:PySem.W.Frag) (h:X.K=K:=by rfl):cu X (.builtin "sorted") (fun xs H Q=>∃(p:Addr) (ns:List Int),xs=[.ref p]/\SqL K H p (ns.map V.int)/\ns.length<64/\
 ∀l (ms:List Int),H l=none->ms.Perm ns->ms.Pairwise (· <= ·)->Q (.ref l) (aE H l (.lst (ms.map V.int)))):=by subst h;exact oU
theorem eM (K:PySem.W.Frag) (h:X.K=K:=by rfl):cu X (.type "list") (fun xs H Q=>∃p ys,xs=[.ref p]/\(SqL K H p ys\/SqT K H p ys)/\∀l,H l=none->Q (.ref l) (aE H l (.lst ys))):=by subst h;exact nN
theorem gZ (K:PySem.W.Frag) (hl:PE X l tl) (h:X.K=K:=by rfl):PI X tg l (zp K tl):=by subst h;exact xN hl
theorem B7 (K:PySem.W.Frag) (hl:PE X l tl) (h:X.K=K:=by rfl):PI X tg l (Bb K tl):=by subst h;exact zR hl
theorem vP (K:PySem.W.Frag) (hc:X.calm=true) (hg:zN X es t) (h:X.K=K:=by rfl) (hn:(assignEach es X.env).length=n:=by rfl) (hst:(assignEach es X.env).findIdx? (·.1)=none:=by rfl):PG X (.Tuple es k pos) (tM K n t):=by
 subst h;exact zP hc hg hn hst
end
theorem aL {X:Cx} {N:List Str} (h:N.Nodup) (e:X.N=N:=by rfl):X.N.Nodup:=by rw[e];exact h
theorem Ai (xs:List V) (k:Nat):i8 xs none (some (k:Int))=xs.take k:=by
 unfold i8
 rw[HT.j6,HT.oN,List.drop_zero,Nat.sub_zero]
 by_cases h:k<=xs.length
 ·rw [Fg h]
 ·rw [Fy (by omega),EJ (DS _),EJ (by omega)]
theorem vQ (xs:List V) (k:Nat):i8 xs (some (k:Int)) none=xs.drop k:=by
 unfold i8
 rw[HT.j6,HT.oN]
 by_cases h:k<=xs.length
 ·rw [Fg h,EJ (by rw[Fq];omega)]
 ·rw [Fy (by omega),FN,F8,E7 (by omega)]
theorem yf (xs:List V) (i j:Nat):i8 xs (some (i:Int)) (some (j:Int))=(xs.drop i).take (j-i):=by
 unfold i8
 rw[HT.j6,HT.j6]
 by_cases h:i<=xs.length
 ·rw [Fg h]
  by_cases h2:j<=xs.length
  ·rw [Fg h2]
  ·rw [Fy (by omega),EJ (by rw[Fq];omega),EJ (by rw[Fq];omega)]
 ·have e:min i xs.length=xs.length:=Fy (by omega)
  rw[e,E7 (DS _),E7 (l:=xs) (i:=i) (by omega),List.take_nil,List.take_nil]
section
variable {K:PySem.W.Frag} {H:Hp} {a b:Addr}
theorem oW {xs:List V} (h1:SqL K H a xs) (h2:SqL K H b xs) (hf:∀x∈xs,de x=true):DEq K H 1 (.ref a) (.ref b) true:=by
 have q:=DEq.lst (d:=0) (e:=fun _=>true) h1 h2 rfl fun j x y ex ey=>by
  rw[ex]at ey
  cases ey
  have f:=hf x (DQ ex)
  have e:=DEq.flat (K:=K) (H:=H) (d:=0) f f
  rw[kL f]at e
  exact e
 have e:((DR xs.length).all fun _=>true)=true:=ED.mpr fun _ _=>rfl
 rw[e]at q
 exact q
theorem gy {xs:List V} (h1:SqL K H a xs) (h2:SqL K H b []):DEq K H 1 (.ref a) (.ref b) xs.isEmpty:=by
 cases xs with
 | nil=>exact oW h1 h2 fun x hx=>by cases hx
 | cons x r=>exact DEq.len h1 h2 (by simp)
end
theorem By {b:Bool} {A B:Prop} (h1:b=true->A) (h2:b=false->B):if b=true then A else B:=by
 cases b with
 | true=>exact cb (h1 rfl)
 | false=>exact a9 (h2 rfl)
theorem yg {i j:Int} {A B:Prop} (h1:i=j->A) (h2:i≠j->B):if decide (V.int i=V.int j)=true then A else B:=by
 by_cases h:i=j
 ·rw [if_pos (by simp[h])];exact h1 h
 ·rw [if_neg (by simp[h])];exact h2 h
theorem vR {i j:Int} {A B:Prop} (h1:i≠j->A) (h2:i=j->B):if(!decide (V.int i=V.int j))=true then A else B:=by
 by_cases h:i=j
 ·rw [if_neg (by simp[h])];exact h2 h
 ·rw [if_pos (by simp[h])];exact h1 h
theorem zw {c:Prop} [Decidable c] {A B:Prop} (h1:c->A) (h2:¬c->B):if decide c=true then A else B:=by
 by_cases h:c
 ·rw [if_pos (decide_eq_true h)];exact h1 h
 ·rw [if_neg (by simp[h])];exact h2 h
def CK (t u:TS):TS:=fun D σ H=>∃P:L2.St->Hp->Prop,t {D with nx:=P} σ H/\∀σ' H',P σ' H'->u D σ' H'
theorem se {X:Cx} {st:Stmt} {dy:List Stmt} {t u:TS} (h1:PS X st t) (h2:PSs X dy u):PSs X (st :: dy) (CK t u):=by
 intro pins s σ H D I h
 obtain⟨P,ht,hu⟩:=h
 refine wpAny_execs_cons (bF (h1 pins s σ H {D with nx:=P} I ht) fun f s1 q=>?_)
 cases f with
 | next=>
  obtain⟨σ',H',I',q⟩:=q
  exact h2 pins s1 σ' H' D I' (hu σ' H' q)
 | ret v=>exact q
 | brk=>exact q
 | cont=>exact q
section
variable {X:Cx} {tg l:Expr} {tl:TE}
end
section
variable {X:Cx} {es:List Expr} {t:TA}
end
theorem Inv.view {X:Cx} {pins:List (Addr×Obj)} {σ:L2.St} {H:Hp} {s:Shared} {a:Addr} {o:HO} (I:Inv X pins σ H s) (mu:AV (H a)) (new:ObjOk X.prog X.w (aE H a o) s.heap a o):Inv X pins σ (aE H a o) s:=by
 have hex:∃u,s.heap.get? a=some u:=by
  cases q:H a with
  | none=>rw[q]at mu;exact mu.elim
  | some u=>
   have lt:=I.hok.lt q
   have:=I.hok a u q
   rw[q]at mu
   cases u with
   | lst xs=>obtain⟨_,_,_,_,e⟩:=this;exact⟨_,e⟩
   | dK kvs=>obtain⟨_,_,_,_,o,_,_,e,_⟩:=this;exact⟨_,e⟩
   | dT kvs=>obtain⟨_,_,_,_,o,_,_,e,_⟩:=this;exact⟨_,e⟩
   | set S n=>obtain⟨o,_,_,_,e,_⟩:=this;exact⟨_,e⟩
   | ins C dx fs=>obtain⟨_,_,_,e,_⟩:=this;exact⟨_,e⟩
   | ext φ=>obtain⟨_,e,_⟩:=this;exact e
   | _=>exact mu.elim
 exact I.write (h':=s.heap) (x:=a) (e:=a) (t':=s.toks) mu (.inl rfl) (fun _ _ _ e=>e) hex new
theorem di:entryFor table "dict_itemiterator.__iter__"=some Builtin.«dict_keyiterator.__iter__»:=
 entryFor_alias (id':="dict_keyiterator.__iter__") (by kernel_rfl) rfl (by decide +kernel) (by kernel_rfl)
def DW (P:Program) (w:World) (d:Addr) (vs:List (bV×Value)) (ep:Nat):Heap->Prop:=fun h=>h.DictAt (bz P w) d vs ep
theorem DW.ok {P:Program} {w:World} {H:Hp} {h:Heap} {d:Addr} {vs:List (bV×Value)} {ep:Nat} (x:h.DictAt (bz P w) d vs ep):ObjOk P w H h d (.ext (DW P w d vs ep)):=
 ⟨x,by obtain⟨o,_,e,_⟩:=x;exact⟨o,e⟩,fun _ _ y k=>y.at' k⟩
theorem sg {P:Program} {w:World} {k:bV} {u:Value} (h:(bz P w).is k u=true):RelV (kV k) u:=by
 rcases bg (k:=k) (v:=u) h with⟨i,t,e1,e2⟩ | ⟨x,t,e1,e2⟩
 ·subst e1 e2;exact⟨t,rfl⟩
 ·subst e1 e2;exact⟨t,rfl⟩
def B8 (φ:Heap->Prop) (d:Addr) (kvs:List (bV×V)):It:=
 ⟨fun i H=>H d=some (.ext φ)/\i<kvs.length,fun i H x H'=>H'=H/\∃k v,kvs[i]?=some (k,v)/\x=kV k,fun i H=>H d=some (.ext φ)/\kvs.length<=i⟩
def Bz (φ:Heap->Prop) (d:Addr) (kvs:List (bV×V)):It:=
 ⟨fun i H=>H d=some (.ext φ)/\i<kvs.length,fun i H x H'=>∃p k v,H p=none/\kvs[i]?=some (k,v)/\x= .ref p/\H'=aE H p (.tup [kV k,v]),fun i H=>H d=some (.ext φ)/\kvs.length<=i⟩
theorem zx {kvs:List (bV×V)} {vs:List (bV×Value)} (r:KV kvs vs) {i:Nat} (h:i<kvs.length):∃k v u,kvs[i]?=some (k,v)/\vs[i]?=some (k,u)/\RelV v u:=by
 have hl:=r.length
 obtain⟨a,ha,f⟩:=bJ (i:=i) (b:=vs[i]) r (DJ (by omega))
 refine⟨a.1,a.2,vs[i].2,ha,?_,f.2⟩
 rw[DJ (by omega),f.1]
theorem ue {P:Program} {w:World} {K:PySem.W.Frag} {tg:Expr} (d it:Addr) {kvs:List (bV×V)} {vs:List (bV×Value)} {ep:Nat} (r:KV kvs vs):
  Turn P w K tg (B8 (DW P w d vs ep) d kvs) [it] it (fun i h=>h.IsKeyIter it d i vs.length ep) where
 mem:=by simp
 obj:=fun i h st b hb=>by
  have e:b=it:=by simpa using hb
  subst e
  obtain⟨o,e,c,d⟩:=st
  exact⟨o,e,fun v z=>by rw[d]at z;cases z⟩
 keep:=fun i h h' st k=>st.at fun o e=>k it (by simp) o e
 item:=by
  intro X hP hw hK hc i pins s σ H E I hf st hg
  subst hP hw hK
  obtain⟨hd,hi⟩:=hg
  obtain⟨dm,_⟩:=(show ObjOk X.prog X.w H s.heap d (.ext (DW X.prog X.w d vs ep))from I.hok d _ hd)
  obtain⟨k,v,u,e1,e2,_⟩:=zx r hi
  obtain⟨f0,f1,f2,f3,f4,f5⟩:=hf it (by simp)
  refine wpAny_pyNext_dict_item st dm e2 fun key h' hkey st' sb=>?_
  have I1:Inv X pins σ H {s with heap:=h'}:=I.turned (t':=s.toks) (fun b o hb e=>(sb.2 b hb).trans e) f0 f1 f3 f4 f5
  obtain⟨o,e,c,d'⟩:=id st'
  exact⟨key,rfl,rF (s:={s with heap:=h'}) e c d' (by decide) ⟨kV k,H,I1,sg hkey,⟨rfl,k,v,e1,rfl⟩,st',fun b hb=>(hf b hb).1⟩⟩
 done:=by
  intro X hP hw hK hc i pins s σ H E I hf st hg
  subst hP hw hK
  obtain⟨hd,hi⟩:=hg
  obtain⟨dm,_⟩:=(show ObjOk X.prog X.w H s.heap d (.ext (DW X.prog X.w d vs ep))from I.hok d _ hd)
  obtain⟨f0,f1,f2,f3,f4,f5⟩:=hf it (by simp)
  have hl:=r.length
  exact wpAny_pyNext_dict_end (I.ok.hd hc) st dm (EG (by omega)) fun h' eb=>⟨rfl,I.turned (t':=s.toks) (fun b o hb e=>eb b o hb e) f0 f1 f3 f4 f5⟩
 self:=fun _ _ _ _ _ st h=>wpAny_pyIter_keyiter st h
theorem qu {P:Program} {w:World} {K:PySem.W.Frag} {es:List Expr} {k1:Nat} {pos:Pos} (d it:Addr) {kvs:List (bV×V)} {vs:List (bV×Value)} {ep:Nat} (r:KV kvs vs):
  Turn P w K (.Tuple es k1 pos) (Bz (DW P w d vs ep) d kvs) [it] it (fun i h=>∃ok ov,IsItemIter h it d i vs.length ep ok ov) where
 mem:=by simp
 obj:=fun i h st b hb=>by
  have e:b=it:=by simpa using hb
  subst e
  obtain⟨_,_,e⟩:=st
  exact⟨_,e,fun v z=>by
   have z':Data.fields _=Data.cell v:=z
   cases z'⟩
 keep:=fun i h h' st k=>let⟨a,b,e⟩:=st;⟨a,b,k it (by simp) _ e⟩
 item:=by
  intro X hP hw hK hc i pins s σ H E I hf st hg
  subst hP hw hK
  obtain⟨hd,hi⟩:=hg
  obtain⟨ok,ov,st⟩:=st
  obtain⟨dm,_⟩:=(show ObjOk X.prog X.w H s.heap d (.ext (DW X.prog X.w d vs ep))from I.hok d _ hd)
  obtain⟨k,v,u,e1,e2,rv⟩:=zx r hi
  obtain⟨f0,f1,f2,f3,f4,f5⟩:=hf it (by simp)
  refine wpAny_pyNext_items_item st dm e2 fun key h' hkey st' tu hz kp=>?_
  refine⟨_,rfl,wpAny_letOwnedTupleGo_items st' fun h2 st2 sb=>?_⟩
  have hne:s.heap.objs.size≠it:=fun z=>absurd (Heap.lt_size st) (by rw[<- z];exact ER _)
  have I1:Inv X pins σ H {s with heap:=h2}:=I.turned (t':=s.toks) (fun b o hb e=>(sb.2 b hb).trans (kp b o hb e)) f0 f1 f3 f4 f5
  have fr:H s.heap.objs.size=none:=I.fresh
  have e3:h2.get? s.heap.objs.size=some {cls:= .type "tuple",data:= .seq #[key,u]}:=(sb.2 _ hne).trans tu
  have I2:Inv X pins σ (aE H s.heap.objs.size (.tup [kV k,v])) {s with heap:=h2}:=by
   have un:Un (gp X.stack) [it] H (aE H s.heap.objs.size (.tup [kV k,v])) s.heap h2:={
    keep:=fun b o q _ _ hx=>(sb.2 b (by simpa using hx)).trans (kp b o (by simpa using hx) q)
    slot:=fun b o q _ _ hx=>⟨o.slots,(sb.2 b (by simpa using hx)).trans (kp b o (by simpa using hx) q)⟩
    free:=fun b o q n hx=>by rw[aq (Eb (Heap.lt_size q))];exact n
    there:=fun b o q hx=>⟨o,(sb.2 b (by simpa using hx)).trans (kp b o (by simpa using hx) q)⟩
    tups:=fun b xs q=>by rw[aq (aw q fr)];exact q
    frzs:=fun b o xs q=>by rw[aq (aw q fr)];exact q
    tbls:=fun b ps q=>⟨#[],by rw[aq (aw q fr),q];simp⟩}
   refine I.call' (s':={s with heap:=h2}) (ch:=[it]) rfl un (fun b o e=>?_) I.bare (fun b hb=>?_)
   ·by_cases hb:b=s.heap.objs.size
    ·subst hb
     rw[ae]at e
     cases e
     refine⟨cI,[key,u],.cons (sg hkey) (.cons rv .nil),_,e3,rfl,_,rfl⟩
    ·rw [aq hb]at e
     refine(I1.hok b o e).stay (fun _ _ _ q=>q) (fun c q=>by rw[aq (aw q fr)];exact q) fun c xs q=>by rw[aq (aw q fr)];exact q
   ·have e:b=it:=by simpa using hb
    subst e
    exact⟨f3,f1,f4,f5⟩
  exact⟨.ref s.heap.objs.size,_,I2,rfl,⟨_,k,v,fr,e1,rfl,rfl⟩,⟨key,u,st2⟩,fun b hb=>by
   have e:b=it:=by simpa using hb
   subst e
   rw[aq hne.symm];exact f0⟩
 done:=by
  intro X hP hw hK hc i pins s σ H E I hf st hg
  subst hP hw hK
  obtain⟨hd,hi⟩:=hg
  obtain⟨ok,ov,st⟩:=st
  obtain⟨dm,_⟩:=(show ObjOk X.prog X.w H s.heap d (.ext (DW X.prog X.w d vs ep))from I.hok d _ hd)
  obtain⟨f0,f1,f2,f3,f4,f5⟩:=hf it (by simp)
  have hl:=r.length
  exact wpAny_pyNext_items_end (I.ok.hd hc) st dm (EG (by omega)) fun h' eb=>⟨rfl,I.turned (t':=s.toks) (fun b o hb e=>eb b o hb e) f0 f1 f3 f4 f5⟩
 self:=fun A i s Q E st h=>by
  obtain⟨ok,ov,st⟩:=st
  have hT:s.TypeIs (.ref it) "dict_itemiterator":=⟨_,st,rfl⟩
  refine wpAny_pyIter_slot hT F.slot_dict_itemiterator_iter (wpAny_call_entry F.slot_dict_itemiterator_iter hT di ?_ (F.args_dict_itemiterator_iter_1 _))
  show wpAny _ _ (ret (.ref it)) _ _ s
  exact wpAny_pure ⟨_,rfl,"dict_itemiterator",_,hT,F.slot_dict_itemiterator_next.lookup,h⟩
section
variable {X:Cx} {tg l:Expr} {tl:TE}
def BB (tl:TE):TI:=fun σ H R=>tl σ H fun x H1=>∃d kvs,x= .ref d/\H1 d=some (.dK kvs)/\∀φ,R (B8 φ d kvs) (aE H1 d (.ext φ))
theorem yh (hl:PE X l tl):PI X tg l (BB tl):=by
 intro pins s σ H R I h
 refine bF (hl pins s σ H _ I h) fun v s1 hq__=>?_
 obtain⟨x,H1,I1,r1,q1⟩:=hq__
 obtain⟨d,kvs,e,hd,q⟩:=q1
 subst e
 cases r1
 obtain⟨hz,hm,vs,r,dd⟩:=rT I1.hok hd
 obtain⟨ep,da⟩:=dd.dictAt
 have I2:Inv X pins σ (aE H1 d (.ext (DW X.prog X.w d vs ep))) s1:=I1.view (by rw[hd];trivial) (DW.ok da)
 refine wpAny_pyIter_dict hm da ?_
 refine⟨s1.heap.objs.size,[s1.heap.objs.size],_,_,_,rfl,I2.kept (t':=s1.toks) fun b o e=>Heap.get?_push_of_some _ e,ue d _ r,⟨_,Heap.get?_push_size _ rfl,rfl,rfl⟩,fun b hb=>?_,q _⟩
 have e:b=s1.heap.objs.size:=by simpa using hb
 subst e
 exact I2.fpOk (DS _) (I2.hok.fresh (DS _))
def VW (v d:Addr):Heap->Prop:=fun h=>h.IsItemsView v d
theorem vS:CC X "dict.items" (fun x xs H Q=>∃d kvs,x= .ref d/\xs=[]/\H d=some (.dK kvs)/\∀v,H v=none->Q (.ref v) (aE H v (.ext (VW v d)))):=by
 intro pins s σ H x xs v us Q I rx rv h
 obtain⟨d,kvs,e,e2,hd,q⟩:=h
 subst e e2
 cases rx
 have hus:=rv.zero
 subst hus
 obtain⟨hz,hm,vs,r,dd⟩:=rT I.hok hd
 refine call_meetsIn PySem.F.slot_dict_items dd.typeIs PySem.F.entry_dict_items (PySem.F.args_dict_items_1 _) (meets_dict_items (bz X.prog X.w) d hm) ⟨⟨vs,dd⟩,?_⟩
 refine⟨.ref s.heap.objs.size,_,I.laid (t':=s.toks) (fun b o e=>Heap.get?_push_of_some _ e) (DS _) ?_,rfl,q _ I.fresh⟩
 exact⟨⟨_,Heap.get?_push_size _ rfl,rfl,rfl⟩,⟨_,Heap.get?_push_size _ rfl⟩,fun h1 h2 ⟨o,e,c⟩ k=>⟨o,k o e,c⟩⟩
def Aj (tl:TE):TI:=fun σ H R=>tl σ H fun x H1=>∃v d kvs,x= .ref v/\H1 v=some (.ext (VW v d))/\H1 d=some (.dK kvs)/\∀φ,R (Bz φ d kvs) (aE H1 d (.ext φ))
theorem vT {es:List Expr} {k1:Nat} {pos:Pos} (hl:PE X l tl):PI X (.Tuple es k1 pos) l (Aj tl):=by
 intro pins s σ H R I h
 refine bF (hl pins s σ H _ I h) fun v s1 hq__=>?_
 obtain⟨x,H1,I1,r1,q1⟩:=hq__
 obtain⟨v,d,kvs,e,hv,hd,q⟩:=q1
 subst e
 cases r1
 obtain⟨hz,hm,vs,r,dd⟩:=rT I1.hok hd
 obtain⟨ep,da⟩:=dd.dictAt
 obtain⟨vw,_⟩:=(show ObjOk X.prog X.w H1 s1.heap v (.ext (VW v d))from I1.hok v _ hv)
 have I2:Inv X pins σ (aE H1 d (.ext (DW X.prog X.w d vs ep))) s1:=I1.view (by rw[hd];trivial) (DW.ok da)
 refine wpAny_pyIter_items vw da ?_
 refine⟨s1.heap.objs.size,[s1.heap.objs.size],_,_,_,rfl,I2.kept (t':=s1.toks) fun b o e=>Heap.get?_push_of_some _ e,qu d _ r,⟨.none,.none,Heap.get?_push_size _ rfl⟩,fun b hb=>?_,q _⟩
 have e:b=s1.heap.objs.size:=by simpa using hb
 subst e
 exact I2.fpOk (DS _) (I2.hok.fresh (DS _))
theorem uf {φ:Heap->Prop} {d:Addr} {kvs:List (bV×V)} {g:TG} {tb:TS} {D:Ends} {σ:L2.St} {H:Hp} (Pv:Nat->L2.St->Hp->Prop) (h0:Pv 0 σ H) (hw:∀i σ H,i<=kvs.length->Pv i σ H->H d=some (.ext φ))
  (hs:∀i k v σ H p,kvs[i]?=some (k,v)->Pv i σ H->H p=none->g (.ref p) σ (aE H p (.tup [kV k,v])) fun σ2 H2=>tb {D with nx:=Pv (i+1),ct:=Pv (i+1),bk:=D.nx} σ2 H2) (hd:∀σ H,Pv kvs.length σ H->D.nx σ H):
  ∃W:Nat->Nat->L2.St->Hp->Prop,(∃m,W 0 m σ H)/\∀i m σ H,W i m σ H->
   ((Bz φ d kvs).stop i H/\D.nx σ H)\/((Bz φ d kvs).go i H/\∃N:L2.St->Hp->Prop,(∀σ' H',N σ' H'->∃m',m'<m/\W (i+1) m' σ' H')/\∀v H',(Bz φ d kvs).yld i H v H'->g v σ H' fun σ2 H2=>tb {D with nx:=N,ct:=N,bk:=D.nx} σ2 H2):=by
 refine⟨fun i m σ H=>m=kvs.length-i/\i<=kvs.length/\Pv i σ H,⟨kvs.length,by simp,Eo _,h0⟩,?_⟩
 rintro i m σ H ⟨rfl,hi,p⟩
 by_cases hlt:i<kvs.length
 ·refine .inr ⟨⟨hw i σ H hi p,hlt⟩,Pv (i+1),fun σ' H' p'=>⟨kvs.length-(i+1),EO _ _ hlt,rfl,hlt,p'⟩,fun v H' y=>?_⟩
  obtain⟨q,k,v',hn,e,e2,e3⟩:=y
  subst e2 e3
  exact hs i k v' σ H q e p hn
 ·have e:i=kvs.length:=Ff hi (E5 hlt)
  subst e
  exact .inl ⟨⟨hw _ σ H hi p,DS _⟩,hd σ H p⟩
end
theorem ug {H1:Hp} {js:List (Option Nat)} {σ:L2.St} {te:TE} {Q:VK} {φ:Heap->Prop} {d:Addr} {kvs:List (bV×V)} (f:bV->V) (hn:kvs.length<100000) (hd:H1 d=some (.ext φ))
  (he:∀(i:Nat) k v,kvs[i]?=some (k,v)->∀H2 R,Same H1 H2->(∀H3,Same H2 H3->R (f k) H3)->te (some (kV k) :: bN σ js) H2 R)
  (hQ:∀acc H',Same H1 H'->H1 acc=none->H' acc=some (.lst (kvs.map fun p=>f p.1))->Q (.ref acc) H'):cF (B8 φ d kvs) H1 (none :: js) (bS 0) gY te σ Q:=
 ja (J:=B8 φ d kvs) (H1:=H1) (js:=js) (σ:=σ) (tc:=gY) (te:=te) (Q:=Q) kvs.length (fun i=>((kvs[i]?).map fun p=>kV p.1).getD .non) (fun _=>true) (fun _ i v _=>v=((kvs[i]?).map fun p=>f p.1).getD .non) hn (fun _ _ _ _ _ h _=>h)
  (fun _ H h s=>⟨s _ _ hd,h⟩) (fun H s=>⟨s _ _ hd,DS _⟩)
  (fun i H x H' h s y=>⟨y.1,by obtain⟨_,k,v,e,ex⟩:=y;rw[e,ex];rfl⟩)
  (fun _ _ _ _ _ h=>h)
  (fun _ i hi _ H2 R s _ _ k=>by
   have e:kvs[i]?=some (kvs[i].1,kvs[i].2):=DJ hi
   rw[e]
   exact he i _ _ e H2 R s fun H3 s3=>k _ H3 s3 (by rw[e];rfl))
  fun acc vs H' s n' e p=>hQ acc H' s n' (by
   rw[e,cV p,EU.mpr (fun _ _=>rfl)]
   congr 1;congr 1
   apply Ge
   intro i
   rw[DM,DM]
   by_cases hi:i<kvs.length
   ·rw [E9 hi,FG,DJ hi];rfl
   ·rw [EG (by simp;omega),EG (by omega)];rfl)
end L2
namespace L2
abbrev HK:=List (bV×V)
def qe (kvs:HK) (q:Nat):Nat:=(kvs.map (·.2)).count (V.int q)
def uh (p:Prop) [Decidable p]:Nat:=if p then 1 else 0
def fP (as:List Int):HK:=as.map fun b=>(Sum.inl b,V.bl true)
theorem nQ (p q:Nat):(V.int (p:Int)==V.int (q:Int))=decide (q=p):=by
 by_cases h:q=p
 ·subst h;simp
 ·have:¬(V.int (p:Int)=V.int (q:Int)):=fun e=>h (by injection e with e;omega)
  simp[h,this]
theorem yi {kvs:HK} {k:bV} {p q:Nat} (h:bG kvs k=none):qe (cH kvs k (.int p)) q=qe kvs q+uh (q=p):=by
 have a:¬(kvs.any fun kv=>decide (kv.1=k))=true:=by rw[cz,h];simp
 unfold qe cH uh
 rw[if_neg a,DY,List.count_append]
 simp only[En,FW,FH,List.count_nil,nQ]
 by_cases e:q=p<;>simp[e]
theorem qv {k:bV} {y:V} {kvs:HK} (h:¬k∈kvs.map (·.1)):(kvs.map fun kv=>if kv.1=k then(kv.1,y)else kv)=kvs:=by
 induction kvs with
 | nil=>rfl
 | cons p r ih=>
  rw[En,Ed]at h
  rw[En,if_neg (fun e=>h (.inl e.symm)),ih (fun m=>h (.inr m))]
theorem yj:∀{kvs:HK} {k:bV} {p p0 q:Nat},(kvs.map (·.1)).Nodup->bG kvs k=some (.int p0)->qe (cH kvs k (.int p)) q+uh (q=p0)=qe kvs q+uh (q=p):=by
 intro kvs k p p0 q nd h
 have a:(kvs.any fun kv=>decide (kv.1=k))=true:=by rw[cz,h];rfl
 unfold cH
 rw[if_pos a]
 clear a
 induction kvs with
 | nil=>cases h
 | cons e r ih=>
  have nd':(e.1 :: r.map (·.1)).Nodup:=nd
  obtain⟨n1,n2⟩:=Fp.mp nd'
  by_cases ek:e.1=k
  ·rw [bH ek]at h
   have hv:e.2=V.int p0:=Option.some.inj h
   rw[En,if_pos ek,qv (by rw[<- ek];exact n1)]
   unfold qe uh
   rw[En,En,FH,FH,hv,nQ,nQ]
   simp only[decide_eq_true_eq]
   omega
  ·rw [bI ek]at h
   have:=ih n2 h
   rw[En,if_neg ek]
   unfold qe uh at*
   rw[En,En,FH,FH]
   omega
theorem vU {kvs:HK} {k:bV} {v:V} (nd:(kvs.map (·.1)).Nodup):((cH kvs k v).map (·.1)).Nodup:=by
 cases h:bG kvs k with
 | none=>exact yb v nd h
 | some x=>
  have a:(kvs.any fun kv=>decide (kv.1=k))=true:=by rw[cz,h];rfl
  unfold cH
  rw[if_pos a,Eu]
  have e:((fun x:bV×V=>x.1) ∘ fun kv:bV×V=>if kv.1=k then(kv.1,v)else kv)=fun x=>x.1:=by
   funext x
   show(if x.1=k then(x.1,v)else x).1=x.1
   split<;>rfl
  rw[e];exact nd
theorem yk {kvs:HK} {k:bV} {v:V} {e:bV×V} (h:e∈cH kvs k v):e=(k,v)\/e∈kvs:=by
 unfold cH at h
 split at h
 ·obtain⟨x,hx,ex⟩:=DZ.mp h
  by_cases c:x.1=k
  ·rw [if_pos c]at ex
   left;rw[<- ex,c]
  ·rw [if_neg c]at ex
   right;rw[<- ex];exact hx
 ·rcases Eg.mp h with m | m
  ·exact .inr m
  ·exact .inl (DV.mp m)
theorem iG {kvs:HK} {k:bV} {v:V} (h:bG kvs k=some v):(k,v)∈kvs:=by
 unfold bG at h
 obtain⟨x,hx,e⟩:=DO.mp h
 have:=List.find?_some hx
 have e1:x.1=k:=of_decide_eq_true this
 have:=List.mem_of_find?_eq_some hx
 rw[<- e1,<- e];exact this
theorem jw {kvs:HK} {k:bV} {v:V} (nd:(kvs.map (·.1)).Nodup) (m:(k,v)∈kvs):bG kvs k=some v:=by
 induction kvs with
 | nil=>cases m
 | cons e r ih=>
  obtain⟨n1,n2⟩:=Fp.mp (show(e.1 :: r.map (·.1)).Nodup from nd)
  rcases Ed.mp m with h | h
  ·subst h;exact bH rfl
  ·have:¬e.1=k:=fun z=>n1 (by rw[z];exact DZ.mpr ⟨_,h,rfl⟩)
   rw[bI this];exact ih n2 h
theorem oX (as:List Int) (b:Int):bG (fP as) (Sum.inl b)=if b∈as then some (V.bl true)else none:=by
 induction as with
 | nil=>rfl
 | cons a r ih=>
  show bG ((Sum.inl a,V.bl true) :: fP r) _=_
  by_cases e:a=b
  ·subst e;rw[bH rfl];simp
  ·rw [bI (fun z=>e (Sum.inl.inj z)),ih]
   have:¬b=a:=fun z=>e z.symm
   simp[this]
theorem vV {as:List Int} {b:Int} (h:¬b∈as):cH (fP as) (Sum.inl b) (V.bl true)=fP (as++[b]):=by
 have a:¬((fP as).any fun kv=>decide (kv.1=Sum.inl b))=true:=by rw[cz,oX,if_neg h];simp
 unfold cH
 rw[if_neg a]
 unfold fP
 rw[DY];rfl
def Good (ps:List (List Int)) (kvs:HK):Prop:=∀e∈kvs,∃(b:Int) (q:Nat) (p:List Int),e=(Sum.inl b,V.int q)/\ps[q]?=some p/\b∈p
theorem Good.put {ps:List (List Int)} {kvs:HK} (g:Good ps kvs) {b:Int} {q:Nat} {p:List Int} (h:ps[q]?=some p) (hb:b∈p):Good ps (cH kvs (Sum.inl b) (.int q)):=fun e he=>by
 rcases yk he with z | z
 ·exact⟨b,q,p,z,h,hb⟩
 ·exact g e z
theorem Good.val {ps:List (List Int)} {kvs:HK} (g:Good ps kvs) {b:Int} {v:V} (h:bG kvs (Sum.inl b)=some v):∃(q:Nat) (p:List Int),v= .int q/\ps[q]?=some p/\b∈p:=by
 obtain⟨b',q,p,e,h1,h2⟩:=g _ (iG h)
 injection e with e1 e2
 cases e1
 exact⟨q,p,e2,h1,h2⟩
def C0 (ps:List (List Int)) (kvs:HK) (as as':List Int):Prop:=∀b∈as',b∉as->∃(q:Nat) (p:List Int),bG kvs (Sum.inl b)=some (.int q)/\ps[q]?=some p/\∀c∈p,c∈as'
structure Sett (ps:List (List Int)) (U:List Int) (pl:Nat) (kvs:HK) (as:List Int) (ok:Bool) (kvs':HK) (as':List Int):Prop where
 grow:∀b∈as,b∈as'
 nd:as'.Nodup
 sub:∀b∈as',b∈U
 no:ok=false->kvs'=kvs/\(∀p,ps[pl]?=some p->∀b∈p,b∈as')/\C0 ps kvs as as'
 yes:ok=true->(kvs'.map (·.1)).Nodup/\Good ps kvs'/\(∀q,qe kvs' q=qe kvs q+uh (q=pl))/\(∀b∈as,bG kvs' (Sum.inl b)=bG kvs (Sum.inl b))/\kvs'.length<=kvs.length+U.length
structure SLoop (ps:List (List Int)) (U:List Int) (p:List Int) (kvs:HK) (as:List Int) (i:Nat) (ai:List Int):Prop where
 grow:∀b∈as,b∈ai
 nd:ai.Nodup
 sub:∀b∈ai,b∈U
 past:∀b∈p.take i,b∈ai
 clo:C0 ps kvs as ai
theorem gO {p:List Int} {i:Nat} {b c:Int} (h:p[i]?=some b) (hc:c∈p.take (i+1)):c∈p.take i\/c=b:=by
 rw[FJ,h]at hc
 rcases Eg.mp hc with z | z
 ·exact .inl z
 ·exact .inr (by simpa using z)
theorem SLoop.skip {ps:List (List Int)} {U p:List Int} {kvs:HK} {as ai:List Int} {i:Nat} {b:Int} (s:SLoop ps U p kvs as i ai) (h:p[i]?=some b) (hb:b∈ai):SLoop ps U p kvs as (i+1) ai:=
 ⟨s.grow,s.nd,s.sub,fun c hc=>(gO h hc).elim (s.past c) (fun e=>e▸hb),s.clo⟩
theorem SLoop.miss {ps:List (List Int)} {U p:List Int} {kvs:HK} {as ai:List Int} {i q:Nat} {b:Int} {kvs2:HK} {as2:List Int} (s:SLoop ps U p kvs as i ai) (h:p[i]?=some b) (hb:b∉ai) (hq:bG kvs (Sum.inl b)=some (.int q)) (hl:q<ps.length)
  (r:Sett ps U q kvs (ai++[b]) false kvs2 as2):kvs2=kvs/\SLoop ps U p kvs as (i+1) as2:=by
 obtain⟨e,h1,h2⟩:=r.no rfl
 have g:∀c∈ai,c∈as2:=fun c hc=>r.grow c (Es _ hc)
 have gb:b∈as2:=r.grow b (by simp)
 refine⟨e,fun c hc=>g c (s.grow c hc),r.nd,r.sub,fun c hc=>(gO h hc).elim (fun z=>g c (s.past c z)) (fun e=>e▸gb),fun c hc hn=>?_⟩
 by_cases c1:c∈ai
 ·obtain⟨q',p',a1,a2,a3⟩:=s.clo c c1 hn
  exact⟨q',p',a1,a2,fun d hd=>g d (a3 d hd)⟩
 ·by_cases c2:c=b
  ·subst c2
   exact⟨q,ps[q],hq,DJ hl,h1 _ (DJ hl)⟩
  ·exact h2 c hc (by simp[c1,c2])
theorem SLoop.free {ps:List (List Int)} {U p:List Int} {kvs:HK} {as ai:List Int} {i pl:Nat} {b:Int} (s:SLoop ps U p kvs as i ai) (hp:ps[pl]?=some p) (hU:∀b∈p,b∈U) (h:p[i]?=some b) (hb:b∉ai) (hq:bG kvs (Sum.inl b)=none)
  (nd:(kvs.map (·.1)).Nodup) (g:Good ps kvs):Sett ps U pl kvs as true (cH kvs (Sum.inl b) (.int pl)) (ai++[b]) where
 grow:=fun c hc=>Es _ (s.grow c hc)
 nd:=gv s.nd hb
 sub:=fun c hc=>(Eg.mp hc).elim (s.sub c) fun z=>by rw[DV.mp z];exact hU b (DQ h)
 no:=fun e=>by cases e
 yes:=fun _=>⟨vU nd,g.put hp (DQ h),fun q=>yi hq,fun c hc=>by
  rw[oQ,if_neg (fun e=>hb (by cases e;exact s.grow _ hc))],by
  have h1:=fS kvs (Sum.inl b) (V.int (pl:Int))
  have h2:0<U.length:=List.length_pos_of_mem (hU b (DQ h))
  omega⟩
theorem SLoop.turn {ps:List (List Int)} {U p:List Int} {kvs:HK} {as ai:List Int} {i pl q:Nat} {b:Int} {kvs2:HK} {as2:List Int} (s:SLoop ps U p kvs as i ai) (hp:ps[pl]?=some p) (h:p[i]?=some b) (hb:b∉ai)
  (hq:bG kvs (Sum.inl b)=some (.int q)) (r:Sett ps U q kvs (ai++[b]) true kvs2 as2):Sett ps U pl kvs as true (cH kvs2 (Sum.inl b) (.int pl)) as2:=by
 obtain⟨n2,g2,c2,v2,l2⟩:=r.yes rfl
 have hb2:bG kvs2 (Sum.inl b)=some (.int q):=(v2 b (by simp)).trans hq
 refine⟨fun c hc=>r.grow c (Es _ (s.grow c hc)),r.nd,r.sub,(fun e=>by cases e),fun _=>⟨vU n2,g2.put hp (DQ h),fun t=>?_,fun c hc=>?_,?_⟩⟩
 ·have h1:=yj (p:=pl) (q:=t) n2 hb2
  have h2:=c2 t
  omega
 ·rw [oQ,if_neg (fun e=>hb (by cases e;exact s.grow _ hc)),v2 c (Es _ (s.grow c hc))]
 ·have a:(kvs2.any fun kv=>decide (kv.1=Sum.inl b))=true:=by rw[cz,hb2];rfl
  unfold cH
  rw[if_pos a,DI];exact l2
theorem SLoop.done {ps:List (List Int)} {U p:List Int} {kvs:HK} {as ai:List Int} {pl:Nat} (s:SLoop ps U p kvs as p.length ai) (hp:ps[pl]?=some p):Sett ps U pl kvs as false kvs ai:=
 ⟨s.grow,s.nd,s.sub,fun _=>⟨rfl,fun p' e b hb=>by
  rw[hp]at e;cases e
  exact s.past b (by rw[EL];exact hb),s.clo⟩,fun e=>by cases e⟩
theorem ym {U ai as:List Int} {b:Int} (hU:b∈U) (hb:b∉ai) (g:∀c∈as,c∈ai):(U.filter fun c=>decide (c∉ai++[b])).length<(U.filter fun c=>decide (c∉as)).length:=by
 induction U with
 | nil=>cases hU
 | cons u r ih=>
  have le:∀l:List Int,(l.filter fun c=>decide (c∉ai++[b])).length<=(l.filter fun c=>decide (c∉as)).length:=fun l=>by
   induction l with
   | nil=>exact DS _
   | cons x t ih=>
    by_cases hx:x∈as
    ·rw [E1 (by simp[g x hx]),E1 (by simp[hx])];exact ih
    ·rw [Fn (p:=fun c=>decide (c∉as)) (by simp[hx])]
     by_cases hy:x∈ai++[b]
     ·rw [E1 (by simp only[decide_eq_true_eq];exact fun z=>z hy),EK];omega
     ·rw [Fn (by simp only[decide_eq_true_eq];exact hy),EK,EK];omega
  have hbs:b∉as:=fun z=>hb (g b z)
  by_cases e:u=b
  ·subst e
   rw[E1 (by simp),Fn (p:=fun c=>decide (c∉as)) (by simp[hbs]),EK]
   have:=le r
   omega
  ·have hr:b∈r:=(Ed.mp hU).resolve_left fun z=>e z.symm
   have:=ih hr
   by_cases hx:u∈as
   ·rw [E1 (by simp[g u hx]),E1 (by simp[hx])];exact this
   ·rw [Fn (p:=fun c=>decide (c∉as)) (by simp[hx])]
    by_cases hy:u∈ai++[b]
    ·rw [E1 (by simp only[decide_eq_true_eq];exact fun z=>z hy),EK];omega
    ·rw [Fn (by simp only[decide_eq_true_eq];exact hy),EK,EK];omega
structure Deal (ps:List (List Int)) (hs:List Int):Prop where
 len:hs.length=ps.length
 of:∀k (h1:k<hs.length) (h2:k<ps.length),hs[k]∈ps[k]
 nd:hs.Nodup
structure Short (ps:List (List Int)) (ms:List Nat):Prop where
 up:ms.Pairwise (· < ·)
 few:∃X:List Int,X.length<ms.length/\∀q∈ms,∃p,ps[q]?=some p/\∀c∈p,c∈X
structure Held (ps:List (List Int)) (kvs:HK) (n:Nat):Prop where
 nd:(kvs.map (·.1)).Nodup
 good:Good ps kvs
 one:∀q,qe kvs q=uh (q<n)
theorem Held.start {ps:List (List Int)}:Held ps [] 0:=⟨FY,fun _ h=>(by cases h),fun q=>by unfold qe uh;simp⟩
theorem Held.next {ps:List (List Int)} {U:List Int} {kvs kvs':HK} {n:Nat} {as':List Int} (h:Held ps kvs n) (r:Sett ps U n kvs [] true kvs' as'):Held ps kvs' (n+1):=by
 obtain⟨a,b,c,_⟩:=r.yes rfl
 refine⟨a,b,fun q=>?_⟩
 rw[c q,h.one q]
 unfold uh
 by_cases h1:q<n
 ·rw [if_pos h1,if_neg (by omega),if_pos (by omega)]
 ·by_cases h2:q=n
  ·rw [if_neg h1,if_pos h2,if_pos (by omega)]
  ·rw [if_neg h1,if_neg h2,if_neg (by omega)]
theorem kM {α:Type} [DecidableEq α] {l:List α} (h:∀a,l.count a<=1):l.Nodup:=by
 induction l with
 | nil=>exact FY
 | cons x r ih=>
  refine Fp.mpr ⟨fun m=>?_,ih fun a=>?_⟩
  ·have q:=h x
   have h2:=Ga.mpr m
   rw[List.count_cons_self]at q
   exact absurd h2 (Nat.not_lt_of_le (Nat.le_of_succ_le_succ q))
  ·have q:=h a
   rw[FH]at q
   exact Ek (Fe _ _) q
theorem Held.vals {ps:List (List Int)} {kvs:HK} {n:Nat} (h:Held ps kvs n):(kvs.map (·.2)).Nodup:=kM fun a=>by
 by_cases m:a∈kvs.map (·.2)
 ·obtain⟨e,he,ea⟩:=DZ.mp m
  obtain⟨b,q,p,e1,_⟩:=h.good e he
  have ea':a=V.int q:=by rw[<- ea,e1]
  have:=h.one q
  unfold qe uh at this
  rw[ea',this]
  split<;>omega
 ·rw [List.count_eq_zero_of_not_mem m];omega
theorem Held.lt {ps:List (List Int)} {kvs:HK} {n:Nat} (h:Held ps kvs n) {k:bV} {q:Nat} (m:(k,V.int q)∈kvs):q<n:=by
 have h1:V.int (q:Int)∈kvs.map (·.2):=DZ.mpr ⟨_,m,rfl⟩
 have h2:=Ga.mpr h1
 have:=h.one q
 unfold qe uh at this
 rw[this]at h2
 split at h2
 ·assumption
 ·omega
theorem Held.mem {ps:List (List Int)} {kvs:HK} {n q:Nat} (h:Held ps kvs n) (hq:q<n):∃(b:Int) (p:List Int),(Sum.inl b,V.int q)∈kvs/\ps[q]?=some p/\b∈p:=by
 have:=h.one q
 unfold qe uh at this
 rw[if_pos hq]at this
 have h1:V.int (q:Int)∈kvs.map (·.2):=Ga.mp (by omega)
 obtain⟨e,he,ea⟩:=DZ.mp h1
 obtain⟨b,q',p,e1,e2,e3⟩:=h.good e he
 subst e1
 have:q'=q:=by
  have z:V.int (q':Int)=V.int q:=ea
  injection z with z
  omega
 subst this
 exact⟨b,p,he,e2,e3⟩
theorem Held.key {ps:List (List Int)} {kvs:HK} {n q q':Nat} {b:Int} (h:Held ps kvs n) (h1:(Sum.inl b,V.int q)∈kvs) (h2:(Sum.inl b,V.int q')∈kvs):q=q':=by
 have a:=jw h.nd h1
 have c:=jw h.nd h2
 rw[a]at c
 have c:=Option.some.inj c
 injection c with c
 omega
theorem Held.inj {ps:List (List Int)} {kvs:HK} {n q:Nat} {k k':bV} (h:Held ps kvs n) (h1:(k,V.int q)∈kvs) (h2:(k',V.int q)∈kvs):k=k':=by
 obtain⟨i,hi,ei⟩:=Ef.mp h1
 obtain⟨j,hj,ej⟩:=Ef.mp h2
 have nd:=h.vals
 have e:(kvs.map (·.2))[i]'(by simpa using hi)=(kvs.map (·.2))[j]'(by simpa using hj):=by simp[ei,ej]
 have:=(Fi nd).mp e
 subst this
 rw[ei]at ej
 exact congrArg Prod.fst ej
theorem Held.deal {ps:List (List Int)} {kvs:HK} {hs:List Int} (h:Held ps kvs ps.length) (hl:hs.length=ps.length) (e:∀b (q:Nat),(Sum.inl b,V.int q)∈kvs->hs[q]?=some b):Deal ps hs:=by
 refine⟨hl,fun k h1 h2=>?_,?_⟩
 ·obtain⟨b,p,m,e2,e3⟩:=h.mem h2
  have:=e b k m
  rw[DJ h1]at this
  rw[Option.some.inj this]
  rw[DJ h2]at e2
  rw[Option.some.inj e2];exact e3
 ·rw [EV,E8]
  intro i j hi hj hij z
  obtain⟨b,_,m,_,_⟩:=h.mem (q:=i) (by omega)
  obtain⟨c,_,m',_,_⟩:=h.mem (q:=j) (by omega)
  have e1:=e b i m
  have e2:=e c j m'
  rw[DJ hi]at e1
  rw[DJ hj]at e2
  have e1:=Option.some.inj e1
  have e2:=Option.some.inj e2
  have:b=c:=by rw[<- e1,<- e2];exact z
  subst this
  have:=h.key m m'
  omega
def jU (kvs:HK) (b:Int):Int:=match bG kvs (Sum.inl b)with
 | some (.int i)=>i
 | _=>0
theorem iH {kvs:HK} {b i:Int} (h:bG kvs (Sum.inl b)=some (.int i)):jU kvs b=i:=by unfold jU;rw[h]
theorem Held.short {ps:List (List Int)} {U:List Int} {kvs kvs':HK} {n:Nat} {as':List Int} {ms:List Int} (h:Held ps kvs n) (hn:n<ps.length) (r:Sett ps U n kvs [] false kvs' as') (hp:ms.Perm ((n:Int) :: as'.map (jU kvs))) (hs:ms.Pairwise (· <= ·)):
  ∃qs:List Nat,ms=qs.map Int.ofNat/\Short ps qs:=by
 obtain⟨_,h1,h2⟩:=r.no rfl
 have hv:∀b∈as',∃(q:Nat) (p:List Int),bG kvs (Sum.inl b)=some (.int q)/\ps[q]?=some p/\∀c∈p,c∈as':=fun b hb=>h2 b hb (by simp)
 have nd0:((n:Int) :: as'.map (jU kvs)).Nodup:=by
  refine Fp.mpr ⟨fun m=>?_,?_⟩
  ·obtain⟨b,hb,e⟩:=DZ.mp m
   obtain⟨q,p,a1,_⟩:=hv b hb
   rw[iH a1]at e
   have:=h.lt (iG a1)
   omega
  ·rw [EV,Fl]
   refine List.Pairwise.imp_of_mem (R:=(· ≠ ·)) ?_ (EV.mp r.nd)
   intro b c hb hc hne z
   obtain⟨q,p,a1,_⟩:=hv b hb
   obtain⟨q',p',a2,_⟩:=hv c hc
   rw[iH a1,iH a2]at z
   have:q=q':=by omega
   subst this
   have:=h.inj (iG a1) (iG a2)
   exact hne (Sum.inl.inj this)
 have ndm:ms.Nodup:=hp.nodup_iff.mpr nd0
 have nn:∀m∈ms,∃q:Nat,m=Int.ofNat q/\∃p,ps[q]?=some p/\∀c∈p,c∈as':=fun m hm=>by
  rcases Ed.mp (hp.mem_iff.mp hm)with e | e
  ·exact⟨n,e,ps[n],DJ hn,h1 _ (DJ hn)⟩
  ·obtain⟨b,hb,e⟩:=DZ.mp e
   obtain⟨q,p,a1,a2,a3⟩:=hv b hb
   rw[iH a1]at e
   exact⟨q,e.symm,p,a2,a3⟩
 refine⟨ms.map Int.toNat,?_,?_,as',?_,fun q hq=>?_⟩
 ·rw [Eu]
  have:∀m∈ms,(Int.ofNat ∘ Int.toNat) m=m:=fun m hm=>by
   obtain⟨q,e,_⟩:=nn m hm
   rw[e];rfl
  exact((Fb this).trans (List.map_id _)).symm
 ·rw [Fl]
  have both:ms.Pairwise fun a b=>a<=b/\a≠b:=hs.and (EV.mp ndm)
  refine List.Pairwise.imp_of_mem ?_ both
  intro a b ha hb ⟨h1,h2⟩
  obtain⟨q,e,_⟩:=nn a ha
  obtain⟨q',e',_⟩:=nn b hb
  subst e e'
  have:(q:Int)<=q':=h1
  have h3:(q:Int)≠q':=h2
  show q<q'
  omega
 ·rw [DI,hp.length_eq,EK,DI];omega
 ·obtain⟨m,hm,e⟩:=DZ.mp hq
  obtain⟨q',e',z⟩:=nn m hm
  subst e'
  have:q=q':=by rw[<- e];rfl
  subst this
  exact z
end L2
namespace L2
open PySem PySem.Spec PyProof.Rows
def SameX (ex:List Addr) (H H':Hp):Prop:=∀b o,b∉ex->H b=some o->H' b=some o
theorem SameX.refl {ex:List Addr} {H:Hp}:SameX ex H H:=fun _ _ _ h=>h
theorem SameX.trans {ex:List Addr} {H H1 H2:Hp} (a:SameX ex H H1) (b:SameX ex H1 H2):SameX ex H H2:=fun c o n h=>b c o n (a c o n h)
theorem SameX.upd {ex:List Addr} {H:Hp} {a:Addr} {o:HO} (h:a∈ex):SameX ex H (aE H a o):=fun b u n e=>by rw[aq (fun z:b=a=>n (by rw[z];exact h))];exact e
theorem Same.x {ex:List Addr} {H H':Hp} (s:Same H H'):SameX ex H H':=fun b o _ h=>s b o h
def vW (H:Hp) (a:Addr):Prop:=∃kvs,H a=some (.dK kvs)
theorem SameX.seq {K:PySem.W.Frag} {ex:List Addr} {H H':Hp} {a:Addr} {xs:List V} (s:SameX ex H H') (hx:∀x∈ex,vW H x) (h:SqL K H a xs):SqL K H' a xs:=by
 have ne:∀u,H a=some u->(∀kvs,u≠ .dK kvs)->a∉ex:=fun u e n m=>by
  obtain⟨kvs,q⟩:=hx a m
  rw[e]at q
  exact n kvs (Option.some.inj q)
 rcases h with(h | ⟨o,h⟩) | h
 ·exact .inl (.inl (s _ _ (ne _ h (fun _ z=>by cases z)) h))
 ·exact .inl (.inr ⟨o,s _ _ (ne _ h (fun _ z=>by cases z)) h⟩)
 ·exact .inr h
def PoolsL (K:PySem.W.Frag) (H:Hp) (rs:List Addr) (ps:List (List Int)):Prop:=Paired (fun r p=>SqL K H r (p.map V.int)) rs ps
theorem PoolsL.mono {K:PySem.W.Frag} {ex:List Addr} {H H':Hp} {rs:List Addr} {ps:List (List Int)} (h:PoolsL K H rs ps) (s:SameX ex H H') (hx:∀x∈ex,vW H x):PoolsL K H' rs ps:=Paired.mapP h fun _ _ q=>s.seq hx q
theorem PoolsL.same {K:PySem.W.Frag} {H H':Hp} {rs:List Addr} {ps:List (List Int)} (h:PoolsL K H rs ps) (s:Same H H'):PoolsL K H' rs ps:=Paired.mapP h fun _ _ q=>s.seq q
theorem PoolsL.at {K:PySem.W.Frag} {H:Hp} {rs:List Addr} {ps:List (List Int)} (h:PoolsL K H rs ps) {i:Nat} {p:List Int} (e:ps[i]?=some p):∃r,rs[i]?=some r/\SqL K H r (p.map V.int):=bJ (F:=fun(r:Addr) (p:List Int)=>SqL K H r (p.map V.int)) h e
theorem PoolsL.len {K:PySem.W.Frag} {H:Hp} {rs:List Addr} {ps:List (List Int)} (h:PoolsL K H rs ps):rs.length=ps.length:=Paired.length h
theorem ui {α β:Type} {F:α->β->Prop}:∀{l:List α} {r:List β},l.length=r.length->(∀(i:Nat) a b,l[i]?=some a->r[i]?=some b->F a b)->Paired F l r:=by
 intro l
 induction l with
 | nil=>
  intro r h f
  cases r with
  | nil=>exact .nil
  | cons b r=>cases h
 | cons a l ih=>
  intro r h f
  cases r with
  | nil=>cases h
  | cons b r=>exact .cons (f 0 a b rfl rfl) (ih (Nat.succ.inj h) fun i x y e1 e2=>f (i+1) x y e1 e2)
theorem si {ps:List (List Int)} {U:List Int} {kvs:HK} (hU:∀p∈ps,∀b∈p,b∈U) (g:Good ps kvs) (nd:(kvs.map (·.1)).Nodup):kvs.length<=U.length:=by
 have h:(kvs.map (·.1)).length<=(U.map (Sum.inl:Int->bV)).length:=nd.length_le_of_subset fun k hk=>by
  obtain⟨e,he,ek⟩:=DZ.mp hk
  obtain⟨b,q,p,e1,e2,e3⟩:=g e he
  rw[<- ek,e1]
  exact DZ.mpr ⟨b,hU p (DQ e2) b e3,rfl⟩
 simpa using h
theorem cg (b:Int) (bs:List Int):B4 (.int b) (bs.map V.int)=decide (b∈bs):=by
 unfold B4
 induction bs with
 | nil=>rfl
 | cons c r ih=>
  rw[En,FI,ih]
  by_cases h:c=b
  ·subst h;simp[rQ]
  ·have h':¬b=c:=fun z=>h z.symm
   simp[rQ,h,h']
theorem bQ (bs:List Int):(bs.map V.int).all de=true:=by
 rw[ED]
 intro x hx
 obtain⟨i,_,e⟩:=DZ.mp hx
 rw[<- e];rfl
theorem oY {G:Nat->Addr->Prop}:∀{l:List Nat} {vs:List V},Paired (fun i v=>∃r,v= .ref r/\G i r) l vs->∃rs:List Addr,vs=rs.map V.ref/\Paired G l rs:=by
 intro l vs h
 induction h with
 | nil=>exact⟨[],rfl,.nil⟩
 | cons q t ih=>
  obtain⟨r,e,g⟩:=q
  obtain⟨rs,e2,p⟩:=ih
  exact⟨r :: rs,by rw[e,e2];rfl,.cons g p⟩
theorem qw {K:PySem.W.Frag} {H1:Hp} {js:List (Option Nat)} {σ:L2.St} {te:TE} {Q:VK} {a:Addr} {xs:List V} (f:Nat->List V) (hl:SqL K H1 a xs) (hn:xs.length<100000)
  (he:∀(i:Nat) x,xs[i]?=some x->∀H2 R,Same H1 H2->(∀r H3,Same H2 H3->H2 r=none->H3 r=some (.lst (f i))->R (.ref r) H3)->te (some x :: bN σ js) H2 R)
  (hQ:∀acc (rs:List Addr) H',Same H1 H'->H1 acc=none->H' acc=some (.lst (rs.map V.ref))->rs.length=xs.length->(∀(i:Nat) r,rs[i]?=some r->H' r=some (.lst (f i))/\H1 r=none)->(∀r∈rs,r≠acc)->Q (.ref acc) H'):
  cF (oI K a) H1 (none :: js) (bS 0) gY te σ Q:=
 uc (K:=K) (H1:=H1) (js:=js) (σ:=σ) (tc:=gY) (te:=te) (Q:=Q) (a:=a) (xs:=xs) (fun _=>true) (fun acc i v H=>∃r,v= .ref r/\r≠acc/\H1 r=none/\H r=some (.lst (f i))) hl hn
  (fun acc i v H H' ⟨r,e,n,h0,h⟩ s=>⟨r,e,n,h0,s r _ n h⟩) (fun _ _ _ _ _ _ h=>h)
  (fun acc i x hx _ H2 R s n1 n2 k=>he i x hx H2 R s fun r H3 s3 nr h3=>k _ H3 s3 ⟨r,rfl,fun z=>n2 (by rw[<- z];exact nr),s.free nr,h3⟩)
  fun acc vs H' s n' e p=>by
   rw[EU.mpr (fun _ _=>rfl)]at p
   obtain⟨rs,e2,p2⟩:=oY p
   have ln:rs.length=xs.length:=by rw[<- Paired.length p2,Ew]
   have all:∀(i:Nat) r,rs[i]?=some r->r≠acc/\H1 r=none/\H' r=some (.lst (f i)):=fun i r hi=>by
    obtain⟨j,hj,g⟩:=bJ p2 hi
    have lt:i<xs.length:=by rw[<- ln];exact(DN.mp hi).1
    rw[E9 lt]at hj
    cases hj
    exact g
   refine hQ acc rs H' s n' (by rw[e,e2]) ln (fun i r hi=>⟨(all i r hi).2.2,(all i r hi).2.1⟩) fun r hr=>?_
   obtain⟨i,hi,ei⟩:=Ef.mp hr
   exact(all i r (by rw[DJ hi,ei])).1
abbrev mi (xs:List Nat):Prop:=xs.Pairwise (· < ·)
structure CutAt (xs:Array Nat) (j p:Nat):Prop where
 le:p<=xs.size
 lo:∀i (h:i<xs.size),i<p->xs[i]<j
 hi:∀i (h:i<xs.size),p<=i->j<=xs[i]
theorem iI {xs:Array Nat} (r:mi xs.toList) {i k:Nat} (hi:i<xs.size) (hk:k<xs.size) (h:i<k):xs[i]<xs[k]:=by
 have:=E8.mp r i k (by simpa using hi) (by simpa using hk) h
 simpa using this
theorem vX {xs:Array Nat} (r:mi xs.toList) (j:Nat):∀(f lo hi:Nat),hi-lo<=f->lo<=hi->hi<=xs.size->(∀i (h:i<xs.size),i<lo->xs[i]<j)->(∀i (h:i<xs.size),hi<=i->j<=xs[i])->CutAt xs j (SetTable.below.go xs j f lo hi):=by
 intro f
 induction f with
 | zero=>
  intro lo hi hf hl hs h1 h2
  have e:hi=lo:=by omega
  subst e
  exact⟨hs,h1,h2⟩
 | succ f ih=>
  intro lo hi hf hl hs h1 h2
  unfold SetTable.below.go
  by_cases hlt:lo<hi
  ·rw [if_pos hlt]
   have hm:(lo+hi)/2<xs.size:=by omega
   have eg:xs.getD ((lo+hi)/2) j=xs[(lo+hi)/2]:=by simp[hm]
   dsimp only
   rw[eg]
   by_cases hc:xs[(lo+hi)/2]<j
   ·rw [if_pos hc]
    refine ih _ _ (by omega) (by omega) hs (fun i h hi'=>?_) h2
    by_cases e:i=(lo+hi)/2
    ·subst e;exact hc
    ·exact Nat.lt_trans (iI r h hm (by omega)) hc
   ·rw [if_neg hc]
    refine ih _ _ (by omega) (by omega) (by omega) h1 fun i h hi'=>?_
    by_cases e:i=(lo+hi)/2
    ·subst e;omega
    ·have:=iI r hm h (by omega)
     omega
  ·rw [if_neg hlt]
   have e:hi=lo:=by omega
   subst e
   exact⟨hs,h1,h2⟩
theorem mQ {xs:Array Nat} (r:mi xs.toList) (j:Nat):CutAt xs j (SetTable.below xs j):=
 vX r j xs.size 0 xs.size (by omega) (Eo _) (DS _) (fun i _ h=>by omega) fun i h h'=>by omega
theorem CutAt.unique {xs:Array Nat} {j p q:Nat} (a:CutAt xs j p) (b:CutAt xs j q):p=q:=by
 rcases FK p q with h | h | h
 ·have hp:p<xs.size:=Em h b.le
  have:=b.lo p hp h
  have:=a.hi p hp (DS _)
  omega
 ·exact h
 ·have hq:q<xs.size:=Em h a.le
  have:=a.lo q hq h
  have:=b.hi q hq (DS _)
  omega
theorem oZ {xs:Array Nat} {j:Nat} (r:mi xs.toList) (hn:xs[SetTable.below xs j]?≠some j):mi (SetTable.insertAt xs (SetTable.below xs j) j).toList:=by
 have c:=mQ r j
 generalize SetTable.below xs j=p at hn c
 have e:(SetTable.insertAt xs p j).toList=xs.toList.take p++j :: xs.toList.drop p:=by
  unfold SetTable.insertAt
  simp[Array.toList_append,Gf,List.extract_eq_take_drop]
  exact EJ (by simp)
 rw[e]
 refine List.pairwise_append.mpr ⟨r.sublist (List.take_sublist _ _),List.pairwise_cons.mpr ⟨fun x hx=>?_,r.sublist (List.drop_sublist _ _)⟩,fun x hx y hy=>?_⟩
 ·obtain⟨i,hi,ei⟩:=Ef.mp hx
  rw[Fq,Ep]at hi
  rw[List.getElem_drop,F3]at ei
  have h1:=c.hi (p+i) (by omega) (by omega)
  rw[ei]at h1
  by_cases z:x=j
  ·exfalso
   have hp:p<xs.size:=by omega
   have h2:=c.hi p hp (DS _)
   have h3:xs[p]<=xs[p+i]:=by
    by_cases i0:i=0
    ·subst i0;exact DS _
    ·exact ET (iI r hp (by omega) (by omega))
   have h4:xs[p]=j:=by rw[ei,z]at h3;omega
   exact hn (by rw[Ez hp,h4])
  ·omega
 ·obtain⟨i,hi,ei⟩:=Ef.mp hx
  rw[EA,Ep]at hi
  rw[F0,F3]at ei
  have h1:=c.lo i (by omega) (by omega)
  rw[ei]at h1
  rcases Ed.mp hy with z | z
  ·omega
  ·obtain⟨k,hk,ek⟩:=Ef.mp z
   rw[Fq,Ep]at hk
   rw[List.getElem_drop,F3]at ek
   have h2:=c.hi (p+k) (by omega) (by omega)
   omega
theorem mR {t:SetTable} {j:Nat} (h:t.slot j= .empty\/t.slot j= .dummy):t.place[SetTable.below t.place j]?≠some j:=by
 intro z
 have e:t.slot j= .live (SetTable.below t.place j):=by
  unfold SetTable.slot
  dsimp only
  rw[z]
  simp
 rw[e]at h
 rcases h with h | h<;>cases h
theorem qy {t:SetTable} {hh:Nat->Int} {h:Int}:∀(f:Nat) (p:SetTable.Probe) (j:Nat) (d:Option Nat),(∀x,p.dummy=some x->t.slot x= .dummy)->SetTable.probe.go t hh h f p=some (.empty j d)->t.slot j= .empty/\∀x,d=some x->t.slot x= .dummy:=by
 intro f
 induction f with
 | zero=>intro p j d _ e;unfold SetTable.probe.go at e;cases e
 | succ f ih=>
  intro p j d hp e
  unfold SetTable.probe.go at e
  have adv:∀q:SetTable.Probe,(t.advance q).dummy=q.dummy:=fun q=>by
   unfold SetTable.advance
   split<;>rfl
  cases hs:t.slot p.j with
  | empty=>
   rw[hs]at e
   cases e
   exact⟨hs,hp⟩
  | dummy=>
   rw[hs]at e
   refine ih _ j d (fun x hx=>?_) e
   rw[adv]at hx
   cases hx
   exact hs
  | live i=>
   rw[hs]at e
   dsimp only at e
   split at e
   ·cases e
   ·refine ih _ j d (fun x hx=>?_) e
    rw[adv]at hx
    exact hp x hx
theorem mj {t:SetTable} {h:Int} {j:Nat} {b:Bool} (e:t.freeSlot h=some (j,b)):t.place[SetTable.below t.place j]?≠some j:=by
 unfold SetTable.freeSlot at e
 split at e
 ·rename_i j' d hm
  have:=qy (t:=t) (h:=h) _ _ j' d (fun x hx=>by cases hx) hm
  have e':=Option.some.inj e
  cases d with
  | none=>
   have:j'=j:=by have:=congrArg Prod.fst e';simpa using this
   subst this
   exact mR (.inl this.1)
  | some x=>
   have hx:x=j:=by have:=congrArg Prod.fst e';simpa using this
   subst hx
   exact mR (.inr (this.2 x rfl))
 ·cases e
structure TabK (led:Bool) (t:SetTable):Prop where
 led:t.led=led
 rise:t.plain=true->mi t.place.toList
theorem dR {led:Bool} {t:SetTable} (h:t.led=led) (n:Nat):TabK led (t.standIn n):=⟨h,fun z=>by cases z⟩
theorem mq {led:Bool} {t:SetTable} (h:TabK led t) (n:Nat):TabK led (t.orStandIn n):=by
 unfold SetTable.orStandIn
 split
 ·exact h
 ·exact dR h.led n
theorem qz {led:Bool} {t:SetTable} (h:TabK led t) (es:Array (Int×Value)) (hh:Int) (x:Value):TabK led (layNew t es hh x).2.1:=by
 unfold layNew
 cases e:t.freeSlot hh with
 | none=>exact dR h.led _
 | some q=>
  obtain⟨j,b⟩:=q
  refine mq (t:=(t.put j).1) ⟨h.led,fun z=>?_⟩ _
  exact oZ (h.rise z) (mj e)
theorem uj {mask finger moves:Nat} {led plain:Bool} {hs:Array Int} {t:SetTable} {o:Array Nat} (e:SetTable.laid mask finger moves led plain hs=some (t,o)):t.led=led/\mi t.place.toList:=by
 unfold SetTable.laid at e
 obtain⟨ow,_,e2⟩:=DL.mp e
 have e2:=Option.some.inj e2
 have ht:=congrArg Prod.fst e2
 dsimp only at ht
 rw[<- ht]
 refine⟨rfl,?_⟩
 show List.Pairwise (fun a b=>a<b) (List.map (fun x:Nat×Nat=>x.1) _)
 rw[Fl]
 refine List.pairwise_filterMap.mpr ?_
 refine List.Pairwise.imp ?_ List.pairwise_lt_range
 intro a b hab x hx y hy
 obtain⟨u,_,eu⟩:=DO.mp hx
 obtain⟨v,_,ev⟩:=DO.mp hy
 rw[<- eu,<- ev]
 exact hab
theorem nR {led:Bool} {t:SetTable} (h:TabK led t) (es:Array (Int×Value)) (n:Nat):TabK led (relayAll t es n).2.1:=by
 unfold relayAll
 cases e:t.relaid (es.map (·.1)) n with
 | none=>exact dR h.led _
 | some q=>
  obtain⟨t',o⟩:=q
  dsimp only
  split
  ·have:=uj e
   exact⟨this.1.trans h.led,fun _=>this.2⟩
  ·exact dR h.led _
abbrev cD (w:World):Bool:=w.params.followText "set-order"
def Ents (es:List (Int×Value)) (ks:List Int):Prop:=Paired (fun(e:Int×Value) (k:Int)=>∃t,e=(hashInt k,Value.int k t)) es ks
structure SetIn (w:World) (o:Obj) (es:Array (Int×Value)) (ep:Nat) (t:SetTable) (ks:List Int):Prop where
 ex:o.ExactSet
 da:o.data= .set es ep t
 en:Ents es.toList ks
 nd:ks.Nodup
 sz:ks.length<4000
 ft:t.fits es.size=true
 tb:TabK (!cD w) t
def SX (w:World) (a:Addr) (ms:List Int):Heap->Prop:=fun h=>∃o es ep t ks,h.get? a=some o/\SetIn w o es ep t ks/\ks.Perm ms
theorem SX.at {w:World} {a:Addr} {ms:List Int} {h h':Heap} (x:SX w a ms h) (k:∀o,h.get? a=some o->h'.get? a=some o):SX w a ms h':=by
 obtain⟨o,es,ep,t,ks,e,r⟩:=x
 exact⟨o,es,ep,t,ks,k o e,r⟩
theorem SX.lt {w:World} {a:Addr} {ms:List Int} {h:Heap} (x:SX w a ms h):a<h.objs.size:=by
 obtain⟨o,es,ep,t,ks,e,r⟩:=x
 exact Heap.lt_size e
theorem SX.perm {w:World} {a:Addr} {ms ns:List Int} {h:Heap} (x:SX w a ms h) (p:ms.Perm ns):SX w a ns h:=by
 obtain⟨o,es,ep,t,ks,e,r,q⟩:=x
 exact⟨o,es,ep,t,ks,e,r,q.trans p⟩
theorem Ents.mem:∀{es:List (Int×Value)} {ks:List Int},Ents es ks->∀{e:Int×Value},e∈es->∃k t,k∈ks/\e=(hashInt k,Value.int k t):=by
 intro es ks h e
 unfold Ents at h
 induction h with
 | nil=>intro h;cases h
 | cons q r ih=>
  intro h
  obtain⟨t,q⟩:=q
  rcases Ed.mp h with z | z
  ·exact⟨_,t,Ei,z.trans q⟩
  ·obtain⟨k,t,m,q⟩:=ih z
   exact⟨k,t,Ea _ m,q⟩
theorem Ents.elems {P:Program} {w:World} {es:List (Int×Value)} {ks:List Int} (h:Ents es ks):ElemsOf (intKind P w) es:=fun e he=>by
 obtain⟨k,t,_,q⟩:=h.mem he
 subst q
 exact⟨⟨k,intKind_is P w k t,rfl⟩,rfl⟩
theorem Ents.len {es:List (Int×Value)} {ks:List Int} (h:Ents es ks):es.length=ks.length:=Paired.length h
theorem Ents.perm {es es':List (Int×Value)} (p:es'.Perm es):∀{ks:List Int},Ents es ks->∃ks',Ents es' ks'/\ks'.Perm ks:=by
 induction p with
 | nil=>intro ks h;cases h;exact⟨[],.nil,.nil⟩
 | cons x _ ih=>
  intro ks h
  cases h with
  | cons q r=>
   obtain⟨ks',a,b⟩:=ih r
   exact⟨_ :: ks',.cons q a,b.cons _⟩
 | swap x y l=>
  intro ks h
  cases h with
  | cons q r=>
   cases r with
   | cons q' r=>exact⟨_ :: _ :: _,.cons q' (.cons q r),.swap _ _ _⟩
 | trans _ _ ih1 ih2=>
  intro ks h
  obtain⟨k2,a,b⟩:=ih2 h
  obtain⟨k3,c,d⟩:=ih1 a
  exact⟨k3,c,d.trans b⟩
theorem mS (k j:Int) (t:Tok):Value.isInt k (.int j t)=decide (k=j):=by
 by_cases h:k=j
 ·subst h;simp[Value.isInt]
 ·simp [Value.isInt,h]
  exact fun z=>h z.symm
theorem Ents.find {P:Program} {w:World} {k:Int}:∀{es:List (Int×Value)} {ks:List Int},Ents es ks->(es.findIdx? (fun e=>(intKind P w).is k e.2)).isSome=decide (k∈ks):=by
 intro es ks h
 unfold Ents at h
 induction h with
 | nil=>rfl
 | @cons a j es ks q r ih=>
  obtain⟨t,q⟩:=q
  subst q
  rw[List.findIdx?_cons]
  have e:(intKind P w).is k (hashInt j,Value.int j t).2=decide (k=j):=mS k j t
  rw[e]
  by_cases h:k=j
  ·subst h;simp
  ·simp [h,ih]
section
variable {P:Program} {w:World} {A:Around} {E:Value->Shared->Prop} {s:Shared} {a:Addr} {ms ks:List Int} {o:Obj} {es:Array (Int×Value)} {ep:Nat} {t:SetTable}
theorem SetIn.bound (h:SetIn w o es ep t ks):es.size<scanBound:=by
 have:es.size=ks.length:=by rw[<- h.en.len,Ep]
 have:=h.sz
 have e:scanBound=4096:=rfl
 omega
theorem SetIn.size (h:SetIn w o es ep t ks):es.size=ks.length:=by rw[<- h.en.len,Ep]
theorem qA {es':Array (Int×Value)} {t':SetTable} {ks':List Int} (ho:s.heap.get? a=some o) (h:SetIn w o es ep t ks) (en:Ents es'.toList ks') (nd:ks'.Nodup) (sz:ks'.length<4000) (ft:t'.fits es'.size=true) (tb:TabK (!cD w) t'):
  ∃o',(s.heap.update a (Obj.putSet es' t')).get? a=some o'/\SetIn w o' es' (ep+1) t' ks':=by
 have g:=Heap.get?_update_self (Obj.putSet es' t') ho (by rw[putSet_of es' t' h.da];rfl)
 rw[putSet_of es' t' h.da]at g
 exact⟨_,g,⟨h.ex,rfl,en,nd,sz,ft,tb⟩⟩
theorem sj {g:Bool->Sem Unit} {Q:Unit->Shared->Prop} (hg:∀b,g b=match b with | true=>rule "set.scan.the-table-gave-way" | false=>pure ()) (b:Bool) {s:Shared} (h:Q () s):wpAny (model P w) A (g b) Q E s:=by
 rw[hg b]
 cases b with
 | true=>exact wpAny_rule h
 | false=>exact wpAny_pure h
theorem Ak {x:Int} {tk:Tok} {Q:Bool->Shared->Prop} (ho:s.heap.get? a=some o) (hs:SetIn w o es ep t ks) (hl:ks.length+1<4000)
  (h1:x∈ks->Q false s) (h2:x∉ks->∀h',Heap.SameBut a s.heap h'->SX w a (ks++[x]) h'->Q true {s with heap:=h'}):wpAny (model P w) A (setAddHashed a (.int x tk) (hashInt x)) Q E s:=by
 have hel:=hs.en.elems (P:=P) (w:=w)
 have hky:(intKind P w).is x (.int x tk)=true:=intKind_is P w x tk
 unfold setAddHashed setAddHashedIn
 refine wpAny_holding (wpAny_bind (wpAny_setState_of ho hs.da hs.ft ?_))
 dsimp only
 rw[byScan_of (knd:=intKind P w) rfl hs.bound hel,if_pos rfl]
 refine wpAny_bind ?_
 unfold setAddByScan
 refine wpAny_bind (wpAny_rule (wpAny_bind (wpAny_setScan_of (knd:=intKind P w) (k:=x) hky ho hs.da hs.ft hel ?_)))
 have fd:=hs.en.find (P:=P) (w:=w) (k:=x)
 cases hr:List.findIdx? (fun e=>(intKind P w).is x e.2) es.toList with
 | some j=>
  rw[hr]at fd
  exact wpAny_pure (wpAny_pure (h1 (of_decide_eq_true fd.symm)))
 | none=>
  rw[hr]at fd
  have hx:x∉ks:=of_decide_eq_false fd.symm
  have p1:=layNew_perm t es (hashInt x) (Value.int x tk)
  have f1:=layNew_fits t es (hashInt x) (Value.int x tk)
  have t1:=qz hs.tb es (hashInt x) (Value.int x tk)
  generalize layNew t es (hashInt x) (Value.int x tk)=L at p1 f1 t1 ⊢
  obtain⟨e1,u1,wasD,gave⟩:=L
  dsimp only at p1 f1 t1 ⊢
  rw[Gf]at p1
  obtain⟨k1,n1,q1⟩:=Ents.perm p1 (ks:=ks++[x]) (Paired.snoc hs.en ⟨tk,rfl⟩)
  have nd1:k1.Nodup:=q1.nodup_iff.mpr (gv hs.nd hx)
  have l1:k1.length<4000:=by rw[q1.length_eq,DX,Ec];exact hl
  have b1:e1.size<=sizeLine:=by
   have:e1.size=k1.length:=by rw[<- n1.len,Ep]
   exact Ek (by omega) (ET (kb (n:=99999) (by omega)))
  refine wpAny_bind (sj (fun b=>by cases b<;>rfl) gave ?_)
  have tail:∀u2:SetTable,u2.fits e1.size=true->TabK (!cD w) u2->∀R:Option Bool->Shared->Prop,(∀h',Heap.SameBut a s.heap h'->SX w a (ks++[x]) h'->R (some true) {s with heap:=h'})->∀g:Bool->Sem Unit,(∀b,g b=match b with | true=>rule "set.scan.the-table-gave-way" | false=>pure ())->
    wpAny (model P w) A (do
     storeSet a e1 u2
     if(!wasD&&u2.tooFull)=true then
      let(es,t,gave):=relayAll u2 e1 (SetTable.grown e1.size)
      g gave
      storeSet a es t
     return some true) R E s:=by
   intro u2 f2 t2 R hR g hg
   refine wpAny_bind (wpAny_storeSet_of ho hs.da ?_ b1)
   obtain⟨o',ho',hs'⟩:=qA (s:=s) ho hs n1 nd1 l1 f2 t2
   have sb1:=Heap.SameBut.update s.heap a (Obj.putSet e1 u2)
   by_cases hc:(!wasD&&u2.tooFull)=true
   ·rw [if_pos hc]
    have p3:=relayAll_perm u2 e1 (SetTable.grown e1.size)
    have f3:=relayAll_fits u2 e1 (SetTable.grown e1.size)
    have t3:=nR t2 e1 (SetTable.grown e1.size)
    generalize relayAll u2 e1 (SetTable.grown e1.size)=L at p3 f3 t3 ⊢
    obtain⟨e3,u3,gave3⟩:=L
    dsimp only at p3 f3 t3 ⊢
    obtain⟨k3,n3,q3⟩:=Ents.perm p3 n1
    have z3:e3.size=e1.size:=by rw[<- Ep,p3.length_eq,Ep]
    refine wpAny_bind (sj hg gave3 ?_)
    refine wpAny_bind (wpAny_storeSet_of ho' hs'.da ?_ (by rw[z3];exact b1))
    obtain⟨o3,ho3,hs3⟩:=qA (s:={s with heap:=s.heap.update a (Obj.putSet e1 u2)}) ho' hs' n3 (q3.nodup_iff.mpr nd1) (by rw[q3.length_eq];exact l1) f3 t3
    exact wpAny_pure (hR _ (sb1.trans (Heap.SameBut.update _ a _)) ⟨o3,e3,_,u3,k3,ho3,hs3,q3.trans q1⟩)
   ·rw [if_neg hc]
    exact wpAny_pure (hR _ sb1 ⟨o',e1,_,u2,k1,ho',hs',q1⟩)
  by_cases hp:u1.plain=true
  ·rw [if_pos hp]
   refine wpAny_bind ?_
   rw[hashByValue_scannable 8 (x:=Value.int x tk) rfl]
   refine wpAny_pure ?_
   refine tail u1 f1 t1 _ (fun h' sb sx=>?_) _ (fun b=>by cases b<;>rfl)
   exact wpAny_pure (h2 hx h' sb sx)
  ·rw [if_neg hp]
   refine wpAny_bind (wpAny_pure ?_)
   refine tail u1 f1 t1 _ (fun h' sb sx=>?_) _ (fun b=>by cases b<;>rfl)
   exact wpAny_pure (h2 hx h' sb sx)
end
theorem bK:Slot "set_iterator" "__next__" "set_iterator.__next__":= .of (owner:="set_iterator") (n:="__next__") (by rw[typeLookup_type,builtinLookup_eq_fast];kernel_rfl) (by decide +kernel) (by decide +kernel) (by decide +kernel) (.inl (by decide +kernel)) (by rw[isSubtype_type];kernel_rfl)
theorem gP:entryFor table "set_iterator.__next__"=some Builtin.«set_iterator.__next__»:=entryFor_of_tree (by kernel_rfl)
theorem iJ (a:Value):argsOk "set_iterator.__next__" ⟨[a],[]⟩:=by unfold argsOk;kernel_rfl
theorem iK:Slot "set_iterator" "__iter__" "set_iterator.__iter__":= .of (owner:="set_iterator") (n:="__iter__") (by rw[typeLookup_type,builtinLookup_eq_fast];kernel_rfl) (by decide +kernel) (by decide +kernel) (by decide +kernel) (.inl (by decide +kernel)) (by rw[isSubtype_type];kernel_rfl)
theorem mv:entryFor table "set_iterator.__iter__"=some Builtin.«dict_keyiterator.__iter__»:=entryFor_alias (id':="dict_keyiterator.__iter__") (by kernel_rfl) rfl (by decide +kernel) (by kernel_rfl)
theorem nT (a:Value):argsOk "set_iterator.__iter__" ⟨[a],[]⟩:=by unfold argsOk;kernel_rfl
theorem kN:entryFor table "set.__iter__"=some Builtin.«frozenset.__iter__»:=entryFor_alias (id':="frozenset.__iter__") (by kernel_rfl) rfl (by decide +kernel) (by kernel_rfl)
theorem kO {α:Type} {l:List α} {i:Nat} {x:α} (h:l[i]?=some x):l.Perm (x :: l.eraseIdx i):=by
 induction l generalizing i with
 | nil=>simp at h
 | cons y r ih=>
  cases i with
  | zero=>simp at h;subst h;simp
  | succ i=>
   simp at h
   exact((ih h).cons y).trans (.swap _ _ _)
theorem yo {α:Type} (next:Nat->Nat) (f k:Nat) (left:List α) (out:Array α) (h:left.length=f):(pickOrder.go next f k left out).toList.Perm (out.toList++left):=by
 induction f generalizing k left out with
 | zero=>
  have:left=[]:=Fo.mp h
  subst this
  unfold pickOrder.go
  simp
 | succ f ih=>
  unfold pickOrder.go
  have hp:0<left.length:=by omega
  have hl:=Nat.mod_lt (next k) hp
  rw[DJ hl]
  dsimp only
  refine(ih (k+1) _ _ (by rw[Gc hl];omega)).trans ?_
  rw[Gf,FZ]
  exact(kO (DJ hl)).symm.append_left _
theorem jb {α:Type} (next:Nat->Nat) (xs:Array α):(pickOrder next xs).toList.Perm xs.toList:=by
 have:=yo next xs.size 0 xs.toList #[] (by simp)
 unfold pickOrder
 simpa using this
section
variable {M:Model} {A:Around} {E:Value->Shared->Prop} {s:Shared}
theorem qB {src:Source} {n:Nat} {Q:Nat->Shared->Prop} (hn:n≠0) (h:∀i d,i<n->Q i {s with drawn:=d}):wpAny M A (choose src n) Q E s:=fun Γ p _=>by
 show Sem.wp M Γ (.choose src n .pure) _ _ p s
 rw[Sem.wp_choose]
 exact⟨hn,h _ _ (Nat.mod_lt _ (Nat.pos_of_ne_zero hn))⟩
theorem qC {α:Type}:∀(n:Nat) (xs:List α) (s:Shared) (Q:List α->Shared->Prop),xs.length=n->(∀ys d,ys.Perm xs->Q ys {s with drawn:=d})->wpAny M A (drawOrder n xs) Q E s:=by
 intro n
 induction n with
 | zero=>
  intro xs s Q hl h
  have:xs=[]:=Fo.mp hl
  subst this
  unfold drawOrder
  exact wpAny_pure (h [] s.drawn (.refl _))
 | succ n ih=>
  intro xs s Q hl h
  cases xs with
  | nil=>cases hl
  | cons x r=>
   unfold drawOrder
   refine wpAny_bind (qB (by simp) fun i d hi=>?_)
   rw[DJ hi]
   dsimp only
   refine wpAny_bind (ih _ _ _ (by rw[Gc hi,hl];rfl) fun ys d' hp=>wpAny_pure ?_)
   exact h _ d' ((hp.cons _).trans (kO (DJ hi)).symm)
end
abbrev jV (h:Heap) (I:Addr) (first:Value) (i:Nat) (S:Addr) (n ep:Nat):Prop:=
 h.get? I=some {cls:= .type "set_iterator",dict:=none,data:= .fields #[first,.int i 0,.ref S,.int n 0,.int ep 0],slots:=#[]}
section
variable {P:Program} {w:World} {A:Around} {E:Value->Shared->Prop} {s:Shared} {I S:Addr} {ks:List Int} {o:Obj} {es:Array (Int×Value)} {ep i:Nat} {t:SetTable} {first:Value}
theorem sv {Q:Value->Shared->Prop} {n:Nat} (hit:jV s.heap I first i S n ep) (h:Q (.ref I) s):wpAny (model P w) A (pyIter (.ref I)) Q E s:=by
 have hT:s.TypeIs (.ref I) "set_iterator":=⟨_,hit,rfl⟩
 refine wpAny_pyIter_slot hT iK (wpAny_call_entry iK hT mv ?_ (nT _))
 show wpAny _ _ (ret (.ref I)) _ _ s
 exact wpAny_pure ⟨_,rfl,"set_iterator",_,hT,bK.lookup,h⟩
theorem mT {A':Around} {R:Fin->Shared->Prop} {Q:Option Value->Shared->Prop} (hh:A'.handled=none) (h:∀h',(∀b o,s.heap.get? b=some o->h'.get? b=some o)->Q none {s with heap:=h'}):
  wpAny (model P w) A' (do let e <- newExc (.type "StopIteration") [];raiseNew e) R (fun e s'=>wpAny (model P w) A (do let b <- isInstance e (.type "StopIteration");if b=true then pure none else throw e) Q E s') s:=by
 refine wpAny_bind ?_
 simp only[newExc,newTuple]
 refine wpAny_bind (wpAny_newObj_type ?_ (by size_fits))
 refine wpAny_bind (m:=firstArgMember _ _) (wpAny_of_eq (a:=Value.none) (by first | rfl | (simp only[firstArgMember];rfl)) ?_)
 refine wpAny_newObj_type ?_ (by size_fits)
 simp only[raiseNew]
 refine wpAny_bind (wpAny_handled ?_)
 rw[hh]
 refine wpAny_bind (wpAny_pure (wpAny_throw ?_))
 refine wpAny_bind (wpAny_isInstance (T:="StopIteration") (b:=true) ⟨_,Heap.get?_push_size _ rfl,rfl⟩ isSubtype_stop ?_)
 exact wpAny_pure (h _ fun b o e=>Heap.get?_push_of_some _ (Heap.get?_push_of_some _ e))
theorem sC {Q:Option Value->Shared->Prop} {slot:Nat} (hh:A.handled=none) (hit:jV s.heap I (.int slot 0) i S es.size ep) (ho:s.heap.get? S=some o) (hs:SetIn w o es ep t ks) (r:Option (Value×Nat))
  (hr:∀(A':Around) (E':Value->Shared->Prop) (R:Option (Value×Nat)->Shared->Prop),R r s->wpAny (model P w) A' (setNext S slot i ep) R E' s)
  (h1:∀x nx h',r=some (x,nx)->jV h' I (.int nx 0) (i+1) S es.size ep->Heap.SameBut I s.heap h'->Q (some x) {s with heap:=h'})
  (h2:∀h',r=none->(∀b o,b≠I->s.heap.get? b=some o->h'.get? b=some o)->Q none {s with heap:=h'}):wpAny (model P w) A (pyNext (.ref I)) Q E s:=by
 have hT:s.TypeIs (.ref I) "set_iterator":=⟨_,hit,rfl⟩
 unfold pyNext
 refine wpAny_bind (wpAny_attempt (wpAny_callSpecial?_slot (name:=Str.ofString "__next__") hT bK (wpAny_call_entry bK hT gP ?_ (iJ _))))
 unfold Builtin.«set_iterator.__next__»
 refine wpAny_bind (wpAny_pure ?_)
 refine wpAny_bind (wpAny_fieldsOf hit rfl ?_)
 dsimp only
 refine wpAny_bind (wpAny_setEntries_of ho hs.da hs.ft ?_)
 rw[if_neg (by simp)]
 refine wpAny_bind (hr _ _ _ ?_)
 cases r with
 | none=>
  dsimp only
  refine wpAny_bind (wpAny_setField hit rfl (by simp) ?_)
  exact mT (A:=A) (show A.in1.handled=none from hh) fun h' k=>h2 h' rfl fun b o hb e=>k b o ((Heap.get?_update_other _ _ (Ne.symm hb)).trans e)
 | some q=>
  obtain⟨x,nx⟩:=q
  dsimp only
  refine wpAny_bind (wpAny_setField_rec hit (by simp) fun ha ea sa=>?_)
  refine wpAny_bind (wpAny_setField_rec ea (by simp) fun hb eb sb=>wpAny_pure ⟨x,rfl,wpAny_pure (h1 x nx hb rfl ?_ (sa.trans sb))⟩)
  have e:((i+1:Nat):Int)=(i:Int)+1:=by omega
  unfold jV
  rw[e]
  simpa [rawInt]using eb
theorem gQ {Q:Option Value->Shared->Prop} {T:Addr} {ps:List Nat} {m:Nat} (hh:A.handled=none) (hit:jV s.heap I (.ref T) i S es.size ep) (hT2:s.heap.get? T=some {cls:= .type "tuple",data:= .seq (ps.map fun(p:Nat)=>rawInt p).toArray m})
  (ho:s.heap.get? S=some o) (hs:SetIn w o es ep t ks) (hp:∀p∈ps,p<es.size)
  (h1:∀p h',ps[i]?=some p->jV h' I (.ref T) (i+1) S es.size ep->Heap.SameBut I s.heap h'->Q (es[p]?.map (·.2)) {s with heap:=h'})
  (h2:∀h',ps[i]?=none->(∀b o,b≠I->s.heap.get? b=some o->h'.get? b=some o)->Q none {s with heap:=h'}):wpAny (model P w) A (pyNext (.ref I)) Q E s:=by
 have hT:s.TypeIs (.ref I) "set_iterator":=⟨_,hit,rfl⟩
 unfold pyNext
 refine wpAny_bind (wpAny_attempt (wpAny_callSpecial?_slot (name:=Str.ofString "__next__") hT bK (wpAny_call_entry bK hT gP ?_ (iJ _))))
 unfold Builtin.«set_iterator.__next__»
 refine wpAny_bind (wpAny_pure ?_)
 refine wpAny_bind (wpAny_fieldsOf hit rfl ?_)
 dsimp only
 refine wpAny_bind (wpAny_setEntries_of ho hs.da hs.ft ?_)
 rw[if_neg (by simp)]
 refine wpAny_bind (wpAny_seqItems hT2 rfl ?_)
 dsimp only
 have eq:(ps.map fun(p:Nat)=>rawInt p).toArray[(i:Int).toNat]?=(ps[i]?).map fun(p:Nat)=>rawInt p:=by
  rw[Er,List.getElem?_toArray,DM]
 rw[eq]
 cases hpi:ps[i]? with
 | none=>
  dsimp only[Option.map_none]
  refine wpAny_bind (wpAny_setField_rec hit (by simp) fun ha ea sa=>?_)
  refine wpAny_bind (wpAny_setField ea rfl (by simp) ?_)
  refine mT (A:=A) (show A.in1.handled=none from hh) fun h' k=>h2 h' hpi fun b o hb e=>k b o ?_
  exact(Heap.get?_update_other _ _ (Ne.symm hb)).trans ((sa.2 b hb).trans e)
 | some p=>
  have hlt:p<es.size:=hp p (DQ hpi)
  have key:=h1 p
  rw[Ez hlt]at key
  dsimp only[FG,rawInt]
  unfold setNextDrawn
  refine wpAny_bind (wpAny_bind (wpAny_setState_of ho hs.da hs.ft ?_))
  dsimp only
  rw[if_neg (by simp),Er,Ez hlt]
  refine wpAny_pure ?_
  refine wpAny_bind (wpAny_setField_rec hit (by simp) fun ha ea sa=>wpAny_pure ⟨_,rfl,wpAny_pure (key ha hpi ?_ sa)⟩)
  have e:((i+1:Nat):Int)=(i:Int)+1:=by omega
  unfold jV
  rw[e]
  simpa [rawInt]using ea
end
section
variable {P:Program} {w:World} {A:Around} {E:Value->Shared->Prop} {s:Shared} {I S:Addr} {ks:List Int} {o:Obj} {es:Array (Int×Value)} {ep i:Nat} {t:SetTable}
def SetAt (w:World) (S:Addr) (es:Array (Int×Value)) (ep:Nat) (t:SetTable) (ks:List Int) (h:Heap):Prop:=∃o,h.get? S=some o/\SetIn w o es ep t ks
theorem SetAt.at {h h':Heap} (x:SetAt w S es ep t ks h) (k:∀o,h.get? S=some o->h'.get? S=some o):SetAt w S es ep t ks h':=let⟨o,e,r⟩:=x;⟨o,k o e,r⟩
abbrev B9 (vs:List Int):Nat->Value->Prop:=fun i v=>∃t,v= .int (vs.getD i 0) t
theorem sD {l:List (Int×Value)} {vs:List Int} (h:Ents l vs) {i:Nat} {e:Int×Value} (hi:l[i]?=some e):∃tk,e.2=Value.int (vs.getD i 0) tk:=by
 have hl:i<vs.length:=by rw[<- h.len];exact(DN.mp hi).1
 obtain⟨a,ha,q⟩:=bJ h (DJ hl)
 rw[hi]at ha
 cases ha
 obtain⟨tk,q⟩:=q
 exact⟨tk,by rw[q];simp[hl]⟩
theorem kP (hh:A.handled=none) (hne:S≠I) (ord:List (Int×Value)) (vs:List Int) (f:Nat->Nat) (hv:Ents ord vs) (hl:ord.length=es.size)
  (hr:∀(i:Nat) (s:Shared),i<=es.size->SetAt w S es ep t ks s.heap->∀(A':Around) (E':Value->Shared->Prop) (R:Option (Value×Nat)->Shared->Prop),R ((ord[i]?).map fun e=>(e.2,f (i+1))) s->wpAny (model P w) A' (setNext S (f i) i ep) R E' s):
  Walks P w A I [I,S] [I] es.size (B9 vs) (fun i h=>jV h I (.int (f i) 0) i S es.size ep/\SetAt w S es ep t ks h) where
 sub:=fun b hb=>by simp at hb;simp[hb]
 frame:=fun i h h' st k=>⟨k I (by simp) _ st.1,st.2.at fun o e=>k S (by simp) o e⟩
 item:=fun i s Q E hi st hQ=>by
  obtain⟨o,ho,hs⟩:=id st.2
  obtain⟨e,he⟩:∃e,ord[i]?=some e:=⟨_,DJ (by omega)⟩
  refine sC hh st.1 ho hs _ (hr i s (by omega) st.2) (fun x nx h' e2 it' sb=>?_) fun h' e2 _=>by rw[he]at e2;cases e2
  rw[he]at e2
  have e3:=Option.some.inj e2
  have hx:e.2=x:=congrArg Prod.fst e3
  have hn:f (i+1)=nx:=congrArg Prod.snd e3
  subst hx hn
  exact hQ _ h' s.toks (sD hv he) ⟨it',st.2.at fun o e=>(sb.2 S hne).trans e⟩ fun b o hb e=>(sb.2 b (by simpa using hb)).trans e
 done:=fun s Q E st hQ=>by
  obtain⟨o,ho,hs⟩:=id st.2
  have he:ord[es.size]?=none:=EG (by omega)
  refine sC hh st.1 ho hs _ (hr _ s (DS _) st.2) (fun x nx h' e2 it' sb=>by rw[he]at e2;cases e2) fun h' _ k=>?_
  exact hQ h' s.toks fun b o hb e=>k b o (by simpa using hb) e
 self:=fun i s Q E st h=>sv st.1 h
theorem Al {n:Nat} (h:n<=5000):n<=sizeLine:=Ek h (ET (kb (n:=5000) (by omega)))
theorem Am (ps:List Nat) (hp:∀p∈ps,p<es.size):ps.filterMap (es[·]?)=ps.map fun q=>es.getD q (0,.none):=by
 induction ps with
 | nil=>rfl
 | cons q r ih=>
  have hq:=hp q (by simp)
  rw[FP,Ez hq]
  dsimp only
  rw[ih (fun x hx=>hp x (Ea _ hx)),En]
  simp[hq]
theorem o4 {T:Addr} (hh:A.handled=none) (hne:S≠I) (hT:T≠I) (ps:List Nat) (vs:List Int) (hv:Ents (ps.filterMap (es[·]?)) vs) (hp:∀p∈ps,p<es.size) (hl:ps.length=es.size):
  Walks P w A I [I,S,T] [I] es.size (B9 vs) (fun i h=>jV h I (.ref T) i S es.size ep/\SetAt w S es ep t ks h/\h.get? T=some {cls:= .type "tuple",data:= .seq (ps.map fun(p:Nat)=>rawInt p).toArray}) where
 sub:=fun b hb=>by simp at hb;simp[hb]
 frame:=fun i h h' st k=>⟨k I (by simp) _ st.1,st.2.1.at fun o e=>k S (by simp) o e,k T (by simp) _ st.2.2⟩
 item:=fun i s Q E hi st hQ=>by
  obtain⟨o,ho,hs⟩:=id st.2.1
  refine gQ hh st.1 st.2.2 ho hs hp (fun p h' e2 it' sb=>?_) fun h' e2 _=>?_
  ·have hlt:=hp p (DQ e2)
   rw[Ez hlt]
   have e4:(ps.filterMap (es[·]?))[i]?=some es[p]:=by
    have:=Am ps hp
    rw[this,DM,e2]
    simp[hlt]
   exact hQ _ h' s.toks (sD hv e4) ⟨it',st.2.1.at fun o e=>(sb.2 S hne).trans e,(sb.2 T hT).trans st.2.2⟩ fun b o hb e=>(sb.2 b (by simpa using hb)).trans e
  ·rw [DJ (by omega)]at e2
   cases e2
 done:=fun s Q E st hQ=>by
  obtain⟨o,ho,hs⟩:=id st.2.1
  refine gQ hh st.1 st.2.2 ho hs hp (fun p h' e2 it' sb=>?_) fun h' _ k=>?_
  ·rw [EG (by omega)]at e2
   cases e2
  ·exact hQ h' s.toks fun b o hb e=>k b o (by simpa using hb) e
 self:=fun i s Q E st h=>sv st.1 h
theorem qD {l:List Nat} (h:l.length<=1):mi l:=by
 match l,h with
 | [],_=>exact .nil
 | [x],_=>exact Fm _ _
def jc (t:SetTable):Nat->Nat
 | 0=>0
 | i+1=>t.place.getD i 0+1
theorem vY {t:SetTable} (r:mi t.place.toList) {i:Nat} (hi:i<=t.place.size):SetTable.below t.place (jc t i)=i:=by
 refine(mQ r _).unique ⟨hi,fun k hk hlt=>?_,fun k hk hge=>?_⟩
 ·cases i with
  | zero=>omega
  | succ i=>
   have hi':i<t.place.size:=by omega
   have e:t.place.getD i 0=t.place[i]:=by simp[hi']
   show t.place[k]<t.place.getD i 0+1
   rw[e]
   by_cases z:k=i
   ·subst z;omega
   ·have:=iI r hk hi' (by omega)
    omega
 ·cases i with
  | zero=>exact Eo _
  | succ i=>
   have hi':i<t.place.size:=by omega
   have e:t.place.getD i 0=t.place[i]:=by simp[hi']
   show t.place.getD i 0+1<=t.place[k]
   rw[e]
   exact iI r hi' hk (by omega)
theorem uk (h:t.fits es.size=true):t.place.size=es.size:=by
 simp only[SetTable.fits,EF,beq_iff_eq,decide_eq_true_eq]at h
 exact h.1
theorem iL {Q:Array (Int×Value)->Shared->Prop} (bt:cD w=true) (ho:s.heap.get? S=some o) (hs:SetIn w o es ep t ks) (h:Q (pickOrder (w.params.setOrder S ep) es) s):wpAny (model P w) A (setWalk S) Q E s:=by
 unfold setWalk setsByText
 refine wpAny_bind (wpAny_setState_of ho hs.da hs.ft ?_)
 dsimp only
 refine wpAny_bind (wpAny_bind (wpAny_askSetting (wpAny_pure ?_)))
 have bt':(model P w).w.params.followText "set-order"=true:=bt
 rw[bt',if_pos rfl]
 exact wpAny_bind (wpAny_askSetting (wpAny_pure h))
theorem um {slot:Nat} {Q:Option (Value×Nat)->Shared->Prop} (bt:cD w=true) (ho:s.heap.get? S=some o) (hs:SetIn w o es ep t ks)
  (h:Q (((pickOrder (w.params.setOrder S ep) es).toList[i]?).map fun e=>(e.2,slot)) s):wpAny (model P w) A (setNext S slot i ep) Q E s:=by
 unfold setNext
 refine wpAny_bind (wpAny_setState_of ho hs.da hs.ft ?_)
 dsimp only
 refine wpAny_bind ?_
 unfold setsByText
 refine wpAny_bind (wpAny_askSetting (wpAny_pure ?_))
 have bt':(model P w).w.params.followText "set-order"=true:=bt
 rw[bt',if_pos rfl,if_neg (by simp)]
 refine wpAny_bind (iL bt ho hs (wpAny_pure ?_))
 rw[<- EZ]
 exact h
theorem qE {Q:Option (Value×Nat)->Shared->Prop} (bt:cD w=false) (ho:s.heap.get? S=some o) (hs:SetIn w o es ep t ks) (hd:(!t.plain&&decide (es.size>1))=false) (hi:i<=es.size)
  (h:Q ((es.toList[i]?).map fun e=>(e.2,jc t (i+1))) s):wpAny (model P w) A (setNext S (jc t i) i ep) Q E s:=by
 have zs:=uk hs.ft
 have r:mi t.place.toList:=by
  by_cases hp:t.plain=true
  ·exact hs.tb.rise hp
  ·refine qD ?_
   have:t.plain=false:=by simpa using hp
   rw[this]at hd
   simp at hd
   rw[Ep,zs];exact hd
 have ld:t.led=true:=by rw[hs.tb.led,bt];rfl
 unfold setNext
 refine wpAny_bind (wpAny_setState_of ho hs.da hs.ft ?_)
 dsimp only
 refine wpAny_bind ?_
 unfold setsByText
 refine wpAny_bind (wpAny_askSetting (wpAny_pure ?_))
 have bt':(model P w).w.params.followText "set-order"=false:=bt
 rw[bt',if_neg DU]
 show wpAny _ _ (if(!t.plain&&decide (es.size>1))=true then _ else _) _ _ _
 rw[hd,if_neg DU]
 show wpAny _ _ ((if(!t.led&& !es.isEmpty)=true then unsupported "set:maker-not-led" else pure ()) >>= fun _=>pure _) _ _ _
 rw[ld]
 refine wpAny_bind (wpAny_pure (wpAny_pure ?_))
 rw[vY r (by omega)]
 by_cases hlt:i<es.size
 ·have hp:i<t.place.size:=by omega
  rw[Ez hlt,Ez hp]
  rw[EZ,Ez hlt]at h
  have e:jc t (i+1)=t.place[i]+1:=by
   show t.place.getD i 0+1=_
   simp[hp]
  rw[e]at h
  exact h
 ·rw [FD (by omega)]
  rw[EZ,FD (by omega)]at h
  exact h
theorem vZ {Q:Value->Shared->Prop} (hS:SetAt w S es ep t ks s.heap)
  (h:∀(I:Addr) (fp:List Addr) (vs:List Int) (St:Nat->Heap->Prop) (s':Shared),vs.Perm ks->(∀A':Around,A'.handled=none->Walks P w A' I fp [I] es.size (B9 vs) St)->St 0 s'.heap->(∀b∈fp,b<s'.heap.objs.size/\(b=S\/s.heap.objs.size<=b))->s.heap.objs.size<=I->
   (∀b o,s.heap.get? b=some o->s'.heap.get? b=some o)->s'.os=s.os->s'.gens=s.gens->Q (.ref I) s'):wpAny (model P w) A (pyIter (.ref S)) Q E s:=by
 obtain⟨o,ho,hs⟩:=id hS
 have hT:s.TypeIs (.ref S) "set":=⟨o,ho,hs.ex.1⟩
 have hSl:S<s.heap.objs.size:=Heap.lt_size ho
 refine wpAny_pyIter_slot hT F.slot_set_iter (wpAny_call_entry F.slot_set_iter hT kN ?_ (F.args_set_iter_1 _))
 unfold Builtin.«frozenset.__iter__»
 refine wpAny_bind (wpAny_bind (wpAny_pure (wpAny_pure ?_)))
 unfold Builtin.Frozenset.sizeOf
 refine wpAny_bind (wpAny_bind (wpAny_setEntries_of ho hs.da hs.ft (wpAny_pure ?_)))
 refine wpAny_bind (wpAny_bind (wpAny_setState_of ho hs.da hs.ft ?_))
 dsimp only
 unfold setsByText
 refine wpAny_bind (wpAny_bind (wpAny_askSetting (wpAny_pure (wpAny_pure ?_))))
 show wpAny _ _ (if(!cD w&&(!t.plain&&decide (es.size>1)))=true then(drawOrder es.size (DR es.size) >>= fun l=>newTuple (l.map fun(i:Nat)=>rawInt i) >>= fun first=>_)else(pure (rawInt 0) >>= fun first=>_)) _ _ _
 cases bt:cD w with
 | true=>
  simp only[Bool.not_true,FX,EH,if_false]
  refine wpAny_bind (wpAny_pure ?_)
  refine wpAny_bind (wpAny_setEpoch_of ho hs.da hs.ft ?_)
  refine wpAny_bind (wpAny_newObj_type (wpAny_pure ⟨_,rfl,"set_iterator",_,⟨_,Heap.get?_push_size _ rfl,rfl⟩,bK.lookup,?_⟩))
  obtain⟨vs,hv,hp⟩:=Ents.perm (jb (w.params.setOrder S ep) es) hs.en
  refine h s.heap.objs.size [s.heap.objs.size,S] vs (fun i h=>jV h s.heap.objs.size (.int 0 0) i S es.size ep/\SetAt w S es ep t ks h) _ hp (fun A' hA'=>kP (f:=fun _=>0) hA' (Eb hSl) _ vs hv ?_ (fun i s' hi st A2 E2 R hR=>?_))
   ⟨Heap.get?_push_size _ rfl,hS.at fun o e=>Heap.get?_push_of_some _ e⟩ (fun b hb=>?_) (DS _) (fun b o e=>Heap.get?_push_of_some _ e) rfl rfl
  ·have:=(jb (w.params.setOrder S ep) es).length_eq
   rw[this,Ep]
  ·obtain⟨o',ho',hs'⟩:=st
   exact um bt ho' hs' hR
  ·rw [Heap.size_push]
   simp only[Ed,EM,or_false]at hb
   rcases hb with e | e
   ·rw [e];exact⟨Fk _,.inr (DS _)⟩
   ·rw [e];exact⟨EC hSl,.inl rfl⟩
 | false=>
  simp only[Bool.not_false,Bool.true_and]
  cases hd:(!t.plain&&decide (es.size>1))with
  | false=>
   simp only[EH,if_false]
   refine wpAny_bind (wpAny_pure ?_)
   refine wpAny_bind (wpAny_setEpoch_of ho hs.da hs.ft ?_)
   refine wpAny_bind (wpAny_newObj_type (wpAny_pure ⟨_,rfl,"set_iterator",_,⟨_,Heap.get?_push_size _ rfl,rfl⟩,bK.lookup,?_⟩))
   refine h s.heap.objs.size [s.heap.objs.size,S] ks (fun i h=>jV h s.heap.objs.size (.int (jc t i) 0) i S es.size ep/\SetAt w S es ep t ks h) _ (.refl _) (fun A' hA'=>kP (f:=jc t) hA' (Eb hSl) es.toList ks hs.en (by simp) (fun i s' hi st A2 E2 R hR=>?_))
    ⟨Heap.get?_push_size _ rfl,hS.at fun o e=>Heap.get?_push_of_some _ e⟩ (fun b hb=>?_) (DS _) (fun b o e=>Heap.get?_push_of_some _ e) rfl rfl
   ·obtain⟨o',ho',hs'⟩:=st
    exact qE bt ho' hs' hd hi hR
   ·rw [Heap.size_push]
    simp only[Ed,EM,or_false]at hb
    rcases hb with e | e
    ·rw [e];exact⟨Fk _,.inr (DS _)⟩
    ·rw [e];exact⟨EC hSl,.inl rfl⟩
  | true=>
   simp only[if_true]
   refine wpAny_bind (qC es.size (DR es.size) s _ (by simp) fun ps d hp=>?_)
   have hlen:ps.length=es.size:=by rw[hp.length_eq,Ew]
   have zb:=hs.bound
   have eb:scanBound=4096:=rfl
   refine wpAny_bind (wpAny_newTuple ?_ (by rw[DI,hlen];exact Al (by omega)))
   refine wpAny_bind (wpAny_setEpoch_of (Heap.get?_push_of_some _ ho) hs.da hs.ft ?_)
   refine wpAny_bind (wpAny_newObj_type (wpAny_pure ⟨_,rfl,"set_iterator",_,⟨_,Heap.get?_push_size _ rfl,rfl⟩,bK.lookup,?_⟩))
   have hpl:∀p∈ps,p<es.size:=fun p m=>Ee.mp (hp.mem_iff.mp m)
   have pe:(ps.filterMap (es[·]?)).Perm es.toList:=by
    have:=hp.filterMap (es[·]?)
    rw[filterMap_getElem?_range]at this
    exact this
   obtain⟨vs,hv,hq⟩:=Ents.perm pe hs.en
   have sz1:∀ob:Obj,(s.heap.push ob).objs.size=s.heap.objs.size+1:=fun ob=>Heap.size_push _ _
   have key:=h (s.heap.objs.size+1) [s.heap.objs.size+1,S,s.heap.objs.size] vs (fun i h=>jV h (s.heap.objs.size+1) (.ref s.heap.objs.size) i S es.size ep/\SetAt w S es ep t ks h/\h.get? s.heap.objs.size=some {cls:= .type "tuple",data:= .seq (ps.map fun(p:Nat)=>rawInt p).toArray})
    {s with heap:=(s.heap.push {cls:= .type "tuple",data:= .seq (ps.map fun(p:Nat)=>rawInt p).toArray}).push {cls:= .type "set_iterator",data:= .fields #[.ref s.heap.objs.size,.int 0 0,.ref S,.int es.size 0,.int ep 0]},drawn:=d} hq (fun A' hA'=>o4 (t:=t) (ep:=ep) (ks:=ks) (T:=s.heap.objs.size) hA' (Eb (EC hSl)) (Eb (Fk _)) ps vs hv hpl hlen)
    ⟨?it,hS.at fun o e=>Heap.get?_push_of_some _ (Heap.get?_push_of_some _ e),Heap.get?_push_of_some _ (Heap.get?_push_size _ rfl)⟩ (fun b hb=>?fp) (FU _) (fun b o e=>Heap.get?_push_of_some _ (Heap.get?_push_of_some _ e)) rfl rfl
   case it=>
    have:=Heap.get?_push_size (s.heap.push {cls:= .type "tuple",data:= .seq (ps.map fun(p:Nat)=>rawInt p).toArray}) (o:={cls:= .type "set_iterator",data:= .fields #[.ref s.heap.objs.size,.int 0 0,.ref S,.int es.size 0,.int ep 0]}) rfl
    rw[sz1]at this
    exact this
   case fp=>
    show b<((s.heap.push _).push _).objs.size/\_
    rw[Heap.size_push,Heap.size_push]
    simp only[Ed,EM,or_false]at hb
    rcases hb with e | e | e
    ·rw [e];exact⟨Fk _,.inr (FU _)⟩
    ·rw [e];exact⟨EC (EC hSl),.inl rfl⟩
    ·rw [e];exact⟨EC (Fk _),.inr (DS _)⟩
   rw[<- sz1 {cls:= .type "tuple",data:= .seq (ps.map fun(p:Nat)=>rawInt p).toArray}]at key
   exact key
end
section
variable {P:Program} {w:World} {A:Around} {E:Value->Shared->Prop} {s:Shared} {S:Addr} {ks ms:List Int} {o:Obj} {es:Array (Int×Value)} {ep i:Nat} {t:SetTable}
theorem v5 {Q:Bool->Shared->Prop} (hT:s.TypeIs (.ref S) "set") (h:Q false s):wpAny (model P w) A (Builtin.List.listLengthHint (.ref S)) Q E s:=by
 unfold Builtin.List.listLengthHint
 refine wpAny_bind (wpAny_specialOf hT PySem.F.slot_set_len.lookup ?_)
 generalize hid:("set.__len__":String)=id0
 wp_delta
 rw[show splitId id0=some ("set","__len__")from by subst hid;decide +kernel]
 subst hid
 refine wpAny_bind (wpAny_isInstance (T:="set") (b:=true) hT (by rw[isSubtype_type];kernel_rfl) ?_)
 refine wpAny_ite_split (fun hab=>absurd hab (by decide)) (fun _=>?_)
 refine wpAny_ite_split (fun _=>?_) (fun hab=>absurd (by decide +kernel) hab)
 exact wpAny_bind (wpAny_typeOf hT (wpAny_pure h))
theorem qF {vs:List Int} {acc:Array Value} {n:Nat} (h:ItemsOf (B9 vs) acc n) (hn:vs.length=n):IntsAre acc.toList vs:=by
 have all:∀(l:List Value) (vs:List Int),l.length=vs.length->(∀(j:Nat) v,l[j]?=some v->∃t,v=Value.int (vs.getD j 0) t)->IntsAre l vs:=by
  intro l
  induction l with
  | nil=>
   intro vs hl _
   have:vs=[]:=Fo.mp (by simpa using hl.symm)
   subst this
   exact .nil
  | cons x r ih=>
   intro vs hl hv
   cases vs with
   | nil=>simp at hl
   | cons v vs=>
    obtain⟨t,e⟩:=hv 0 x rfl
    have e:x=Value.int v t:=e
    subst e
    exact .cons v t (ih vs (by simpa using hl) fun j y hj=>hv (j+1) y (by simpa using hj))
 exact all acc.toList vs (by rw[Ep,h.1,hn]) fun j v hj=>h.2 j v (by rw[<- EZ];exact hj)
theorem o5 {Q:List Value->Shared->Prop} (hh:A.handled=none) (hS:SetAt w S es ep t ks s.heap)
  (h:∀(vs:List Int) (l:List Value) (s':Shared),vs.Perm ks->IntsAre l vs->(∀b o,s.heap.get? b=some o->s'.heap.get? b=some o)->s'.os=s.os->s'.gens=s.gens->s.heap.objs.size<=s'.heap.objs.size->Q l s'):wpAny (model P w) A (collect (.ref S)) Q E s:=by
 obtain⟨o,ho,hs⟩:=id hS
 have hSl:S<s.heap.objs.size:=Heap.lt_size ho
 have hne:s.heap.objs.size≠S:=FV hSl
 unfold collect
 refine wpAny_bind (wpAny_runValue (codeAny_builtin PySem.F.entry_proto_collect ?_))
 rw[Around.under_plainId PySem.F.plain_proto_collect _]
 show wpAny _ A.in1 (newList [] >>= fun l=>again (.builtin "list.__iadd__" ⟨[l,.ref S],[]⟩)) _ _ s
 refine wpAny_bind (wpAny_newObj_type ?_)
 refine wpAny_pure ⟨plainId_quiet PySem.F.plain_list_iadd _,codeAny_builtin PySem.F.entry_list_iadd ?_⟩
 rw[Around.under_plainId PySem.F.plain_list_iadd _]
 generalize hs1:({s with heap:=s.heap.push {cls:= .type "list",data:= .seq ([]:List Value).toArray}}:Shared)=s1
 have e1:s1.heap=s.heap.push {cls:= .type "list",data:= .seq ([]:List Value).toArray}:=by rw[<- hs1]
 have k1:∀b o,s.heap.get? b=some o->s1.heap.get? b=some o:=fun b o e=>by rw[e1];exact Heap.get?_push_of_some _ e
 have hL1:s1.heap.get? s.heap.objs.size=some {cls:= .type "list",data:= .seq ([]:List Value).toArray}:=by rw[e1];exact Heap.get?_push_size _ rfl
 have hS1:SetAt w S es ep t ks s1.heap:=hS.at (k1 S)
 have hT:∀s2:Shared,(∀b o,s1.heap.get? b=some o->s2.heap.get? b=some o)->s2.TypeIs (.ref S) "set":=fun s2 k=>⟨o,k _ _ (k1 _ _ ho),hs.ex.1⟩
 show wpAny _ A.in1 (Builtin.List.listExtendWith (.ref s.heap.objs.size) (.ref S) (.ref s.heap.objs.size)) _ _ _
 unfold Builtin.List.listExtendWith
 refine wpAny_bind (wpAny_typeOf (hT s1 fun _ _ e=>e) ?_)
 have g1:Builtin.List.listSameRef (.ref s.heap.objs.size) (.ref S)=false:=by simp[Builtin.List.listSameRef,hne]
 have g2:(Value.type "set"==Value.type "list")=false:=by decide
 have g3:(Value.type "set"==Value.type "tuple")=false:=by decide
 simp only[g1,g2,g3,Bool.or_false,EH,if_false]
 refine wpAny_bind (vZ hS1 fun I fp vs St s2 hp W st hfp hI k2 os2 gs2=>?_)
 refine wpAny_bind (wpAny_holding (v5 (hT s2 k2) ?_))
 show wpAny _ A.in1 (rule "list.extend.makes-room" >>= fun _=>Builtin.List.listTouch (.ref s.heap.objs.size) >>= fun _=>
  again (.builtin "list.extend.loop" ⟨[.ref s.heap.objs.size,.ref I,.ref s.heap.objs.size],[]⟩)) _ _ _
 refine wpAny_bind (wpAny_rule (wpAny_bind ?_))
 have hL2:=k2 _ _ hL1
 have lt1:s.heap.objs.size<s1.heap.objs.size:=by rw[e1,Heap.size_push];exact Fk _
 show wpAny _ A.in1 (updateSeq s.heap.objs.size (·.push .none) >>= fun _=>updateSeq s.heap.objs.size (·.pop)) _ _ _
 refine wpAny_bind (wpAny_updateSeq hL2 rfl ?_)
 have hL3:=Heap.get?_update_self (Obj.mapSeq (·.push Value.none)) hL2 rfl
 refine wpAny_updateSeq hL3 rfl ?_
 have hL4:=Heap.get?_update_self (Obj.mapSeq (·.pop)) hL3 rfl
 have W1:=W A.in1 (show A.handled=none from hh)
 have hSf:s.heap.objs.size∉fp:=fun m=>by
  rcases(hfp _ m).2 with z | z
  ·exact hne z
  ·exact absurd lt1 (Gk.mpr z)
 have zb:=hs.bound
 have eb:scanBound=4096:=rfl
 have oth:∀b o,b≠s.heap.objs.size->s2.heap.get? b=some o->((s2.heap.update s.heap.objs.size (Obj.mapSeq (·.push Value.none))).update s.heap.objs.size (Obj.mapSeq (·.pop))).get? b=some o:=
  fun b o hb e=>(Heap.get?_update_other _ _ (Ne.symm hb)).trans ((Heap.get?_update_other _ _ (Ne.symm hb)).trans e)
 refine wpAny_pure ⟨plainId_quiet PySem.F.plain_extend_loop _,codeAny_extend_loopS W1.toS (Al (by omega)) _ hSf _ es.size 0 _ _ _ rfl (Eo _) (W1.frame 0 _ _ st fun b hb o e=>oth b o (fun z=>hSf (z▸hb)) e) hL4 (ItemsOf.nil _) fun s3 acc c hm hL5 hacc=>?_⟩
 show wpAny _ A (load s.heap.objs.size >>= _) _ _ s3
 refine wpAny_bind (wpAny_load hL5 ?_)
 refine wpAny_pure (h vs acc.toList s3 hp (qF hacc (by rw[hp.length_eq,hs.size])) (fun b o e=>?_) ?_ ?_ (ET (Heap.lt_size hL5)))
 ·have hb:b≠s.heap.objs.size:=Eb (Heap.lt_size e)
  have e2:=k2 _ _ (k1 _ _ e)
  refine hm.heap b o (fun m=>?_) (oth b o hb e2)
  rcases Ed.mp m with z | z
  ·exact hb z
  ·have z:b=I:=DV.mp z
   exact absurd (Heap.lt_size (k1 _ _ e)) (by rw[z];exact Gk.mpr hI)
 ·have e2:s3.os=s2.os:=hm.os
  rw[e2,os2,<- hs1]
 ·have e2:s3.gens=s2.gens:=hm.gens
  rw[e2,gs2,<- hs1]
end
section
variable {P:Program} {w:World} {A:Around} {E:Value->Shared->Prop} {s:Shared} {S:Addr} {ks ms:List Int} {o:Obj} {es:Array (Int×Value)} {ep i:Nat} {t:SetTable}
theorem mw {Q:Value->Shared->Prop} (hh:A.handled=none) (hS:SetAt w S es ep t ks s.heap) (h64:ks.length<64)
  (h:∀(L:Addr) (out:Array Value) (ns:List Int) (e:Nat) (s':Shared),IntsAre out.toList ns->ns.Perm ks->ns.Pairwise (· <= ·)->s'.heap.get? L=some (seqObj "list" out e)->s.heap.objs.size<=L->(∀b o,s.heap.get? b=some o->s'.heap.get? b=some o)->s'.os=s.os->s'.gens=s.gens->Q (.ref L) s'):
  wpAny (model P w) A (call (.builtin "sorted") [.ref S]) Q E s:=by
 refine Calls.call_function_entry kind_sorted plain_sorted entry_sorted (args_sorted1 _) ?_
 unfold Builtin.«sorted»
 refine wpAny_bind (m:=checkCount "sorted" 1 1 _) (wpAny_pure ?_)
 refine wpAny_bind (o5 (show A.in1.handled=none from hh) hS fun vs l s1 hp hI k1 os1 gs1 le1=>?_)
 have hl:l.length=vs.length:=IntsAre.length hI
 have hv:vs.length=ks.length:=hp.length_eq
 refine wpAny_bind (wpAny_newList ?_ (Al (by omega)))
 have hoL:(s1.heap.push (seqObj "list" l.toArray 0)).get? s1.heap.objs.size=some (seqObj "list" l.toArray 0):=Heap.get?_push_size _ rfl
 refine wpAny_bind (wpAny_holding (wpAny_call_entry slot_list_sort ⟨_,hoL,rfl⟩ entry_list_sort (list_sort_tree (ns:=vs) hoL hI (by omega) fun out ns' a1 a2 a3=>⟨_,rfl,?_⟩) (args_list_sort _)))
 refine wpAny_pure ⟨_,rfl,?_⟩
 obtain⟨e,he⟩:=sortedHeap_at (out:=out) hoL
 have kp:∀b o,s.heap.get? b=some o->(sortedHeap (s1.heap.push (seqObj "list" l.toArray 0)) s1.heap.objs.size l out).get? b=some o:=fun b o eb=>by
  have e1:=k1 b o eb
  have lt:=Heap.lt_size e1
  rw[sortedHeap_old (Eb lt) (by rw[Heap.size_push];exact EC lt)]
  exact Heap.get?_push_of_some _ e1
 exact h s1.heap.objs.size out ns' e {s1 with heap:=sortedHeap (s1.heap.push (seqObj "list" l.toArray 0)) s1.heap.objs.size l out} a1 (a2.trans hp) a3 he le1 kp os1 gs1
theorem qG {Q:Value->Shared->Prop} (hS:SetAt w S es ep t ks s.heap) (h:∀tk n,Q (.int ks.length tk) {s with toks:=n}):wpAny (model P w) A (call (.builtin "len") [.ref S]) Q E s:=by
 obtain⟨o,ho,hs⟩:=hS
 have zb:=hs.bound
 have eb:scanBound=4096:=rfl
 have e:=hs.size
 refine call_len_set ho hs.ex hs.da hs.ft (by omega) ?_
 rw[e]
 exact h _ _
def cM (acc:List Int) (x:Int):List Int:=if x∈acc then acc else acc++[x]
def dd (ns:List Int):List Int:=ns.foldl cM []
theorem gA (ns:List Int) (x:Int):dd (ns++[x])=cM (dd ns) x:=by unfold dd;rw[List.foldl_append];rfl
theorem uo {acc:List Int} {x y:Int}:y∈cM acc x<->y∈acc\/y=x:=by
 unfold cM
 split
 ·rename_i h
  exact⟨.inl,fun z=>z.elim id fun e=>e▸h⟩
 ·simp
theorem o6:∀(ns acc:List Int) (y:Int),y∈ns.foldl cM acc<->y∈acc\/y∈ns
 | [],acc,y=>by simp
 | x :: r,acc,y=>by
  rw[FS,o6 r,uo,Ed,or_assoc]
theorem aZ {ns:List Int} {y:Int}:y∈dd ns<->y∈ns:=by unfold dd;rw[o6];simp
theorem sE:∀(ns acc:List Int),acc.Nodup->(ns.foldl cM acc).Nodup
 | [],acc,h=>h
 | x :: r,acc,h=>by
  rw[FS]
  refine sE r _ ?_
  unfold cM
  split
  ·exact h
  ·rename_i hx;exact gv h hx
theorem iM (ns:List Int):(dd ns).Nodup:=sE ns [] FY
theorem dk (ns:List Int):(dd ns).length<=ns.length:=(iM ns).length_le_of_subset fun _ h=>aZ.mp h
theorem v7 {x:Int} {tk:Tok} {Q:Bool->Shared->Prop} (hS:SX w S ms s.heap) (hl:ms.length+1<4000)
  (h:∀b h',Heap.SameBut S s.heap h'->SX w S (cM ms x) h'->Q b {s with heap:=h'}):wpAny (model P w) A (setAddHashed S (.int x tk) (hashInt x)) Q E s:=by
 obtain⟨o,es,ep,t,ks,ho,hs,hp⟩:=hS
 refine Ak ho hs (by rw[hp.length_eq];exact hl) (fun hx=>?_) fun hx h' sb sx=>?_
 ·have e:cM ms x=ms:=if_pos (hp.mem_iff.mp hx)
  have:=h false s.heap (Heap.SameBut.refl _ _) (by rw[e];exact⟨o,es,ep,t,ks,ho,hs,hp⟩)
  exact this
 ·have e:cM ms x=ms++[x]:=if_neg fun z=>hx (hp.mem_iff.mpr z)
  exact h true h' sb (by rw[e];exact sx.perm (hp.append_right _))
theorem v8 {I l:Addr} {items:Array Value} {ns:List Int} {R:Result->Shared->Prop} (hh:A.handled=none) (hne:l≠I) (hSI:S≠I) (hSl:S≠l) (hi:IntsAre items.toList ns) (hb:ns.length+1<4000):
  ∀(k i:Nat) (s:Shared),items.size-i=k->i<=items.size->s.heap.IsListIter I l i->s.heap.IsList l items->SX w S (dd (ns.take i)) s.heap->
   (∀s',(∀b o,b≠S->b≠I->s.heap.get? b=some o->s'.heap.get? b=some o)->s'.os=s.os->s'.gens=s.gens->s'.drawn=s.drawn->SX w S (dd ns) s'.heap->R (.ok (.ret .none)) s')->
   codeAny (model P w) A (.builtin "set.update.loop" ⟨[.ref S,.ref I],[]⟩) R s:=by
 have hsz:items.size=ns.length:=by rw[<- Ep];exact IntsAre.length hi
 intro k
 induction k with
 | zero=>
  intro i s hk hil it hl hS hR
  have e:i=items.size:=by omega
  subst e
  refine codeAny_builtin PyProof.Rows.F.entry_set_update_loop ?_
  rw[Around.under_plainId PyProof.Rows.F.plain_set_update_loop _]
  show wpAny _ A.in1 (pyNext (.ref I) >>= _) _ _ s
  refine wpAny_bind (wpAny_pyNext_list_end (show A.in1.handled=none from hh) it hl (by simp) fun h' eb=>?_)
  show wpAny _ A.in1 (ret Value.none) _ _ _
  refine wpAny_pure (hR _ (fun b o _ hb e=>eb b o hb e) rfl rfl rfl ?_)
  rw[EJ (by omega)]at hS
  exact hS.at fun o e=>eb S o hSI e
 | succ k ih=>
  intro i s hk hil it hl hS hR
  have hlt:i<items.size:=by omega
  have hin:i<ns.length:=by omega
  obtain⟨tk,hv⟩:=IntsAre.int_at hi i items[i] (by simp[hlt])
  have egd:ns.getD i 0=ns[i]:=by simp[hin]
  rw[egd]at hv
  refine codeAny_builtin PyProof.Rows.F.entry_set_update_loop ?_
  rw[Around.under_plainId PyProof.Rows.F.plain_set_update_loop _]
  show wpAny _ A.in1 (pyNext (.ref I) >>= _) _ _ s
  refine wpAny_bind (wpAny_pyNext_list_item it hl (x:=items[i]) (by simp[hlt]) fun h1 it1 sb1=>?_)
  rw[hv]
  show wpAny _ A.in1 (holding [Value.int ns[i] tk] (setAdd S (.int ns[i] tk)) >>= _) _ _ _
  refine wpAny_bind (wpAny_holding ?_)
  unfold setAdd
  refine wpAny_holding (wpAny_bind ((intKind P w).pyHash (k:=ns[i]) (intKind_is _ _ _ _) ?_))
  have hS1:SX w S (dd (ns.take i)) h1:=hS.at fun o e=>(sb1.2 S hSI).trans e
  have dl:=dk (ns.take i)
  rw[EA]at dl
  refine v7 (s:={s with heap:=h1,toks:=s.toks+1}) hS1 (by omega) fun b h2 sb2 sx=>?_
  have e2:cM (dd (ns.take i)) ns[i]=dd (ns.take (i+1)):=by rw[List.take_succ_eq_append_getElem hin,gA]
  rw[e2]at sx
  have hl1:h1.IsList l items:=by obtain⟨o,e,r⟩:=hl;exact⟨o,(sb1.2 l hne).trans e,r⟩
  refine wpAny_pure ⟨plainId_quiet PyProof.Rows.F.plain_set_update_loop _,ih (i+1) _ (by omega) hlt ?_ ?_ sx fun s' kp os' gs' ds' sx'=>?_⟩
  ·obtain⟨o,e,r⟩:=it1
   exact⟨o,(sb2.2 I hSI.symm).trans e,r⟩
  ·obtain⟨o,e,r⟩:=hl1
   exact⟨o,(sb2.2 l hSl.symm).trans e,r⟩
  ·exact hR s' (fun b o h1' h2' e=>kp b o h1' h2' ((sb2.2 b h1').trans ((sb1.2 b h2').trans e))) os' gs' ds' sx'
end
end L2
set_option maxHeartbeats 3000000
namespace L2
open PySem PySem.Spec PyProof.Rows
section
variable {P:Program} {w:World} {A:Around} {E:Value->Shared->Prop} {s:Shared} {S:Addr} {ks ms:List Int}
def bD (w:World):Obj:={cls:= .type "set",dict:=none,data:= .set #[] 0 (.fresh 0 0 (!cD w))}
theorem mU {h:Heap} {a:Addr} (e:h.get? a=some (bD w)):SX w a [] h:=
 ⟨_,#[],0,_,[],e,⟨⟨rfl,rfl,rfl⟩,rfl,.nil,FY,by decide,rfl,⟨rfl,fun _=> .nil⟩⟩,.refl _⟩
theorem yp (a:Value) {Q:Value->Shared->Prop} (h:Q (.ref s.heap.objs.size) {s with heap:=s.heap.push (bD w)}):
  codeAny (model P w) A (.call (.builtin "set.__new__") ⟨[.type "set",a],[]⟩) (wants Q E) s:=by
 refine codeAny_of_tree ?_
 show wpAny _ A.in1 (do checkBuiltinCall "set.__new__" ⟨[.type "set",a],[]⟩;again (.builtin "set.__new__" ⟨[.type "set",a],[]⟩)) _ _ s
 refine wpAny_bind (wpAny_of_eq (PySem.F.newCall_set_1 a) (wpAny_pure ⟨plainId_quiet PySem.F.plain_set_new _,codeAny_builtin PySem.F.entry_set_new ?_⟩))
 rw[Around.under_plainId PySem.F.plain_set_new _]
 unfold Builtin.«set.__new__» Builtin.Frozenset.newClass
 have hsub:=sub_set_self
 obtain⟨hp,g,d,tk,os⟩:=s
 dsimp only
 wp_walk
 refine wpAny_askSetting (wpAny_pure ?_)
 dsimp only
 simp only[newObj]
 exact wpAny_bind (wpAny_alloc (wpAny_pure (wpAny_pure h)))
theorem v9 {l:Addr} {items:Array Value} {ns:List Int} {R:Result->Shared->Prop} (hh:A.handled=none) (ho:s.heap.get? S=some (bD w)) (hl:s.heap.IsList l items) (hne:S≠l) (hi:IntsAre items.toList ns) (hb:ns.length+1<4000)
  (hR:∀s',(∀b o,b≠S->s.heap.get? b=some o->s'.heap.get? b=some o)->s'.os=s.os->s'.gens=s.gens->SX w S (dd ns) s'.heap->R (.ok (.ret .none)) s'):
  wpAny (model P w) A.in1 (Builtin.«set.__init__» ⟨[.ref S,.ref l],[]⟩)
   (fun fin s'=>match fin with | .done f=>R (.ok f) s' | .again c'=>c'.quiet=true/\codeAny (model P w) A c' R s') (fun e s'=>R (.error e) s') s:=by
 obtain⟨ol,hol,hcl,nl,hdl⟩:=id hl
 have hT:s.TypeIs (.ref S) "set":=⟨_,ho,rfl⟩
 have hTl:s.TypeIs (.ref l) "list":=⟨_,hol,hcl⟩
 have q1:=PySem.F.sub_list_set
 have q2:=PySem.F.sub_list_frozenset
 unfold Builtin.«set.__init__» noKeywords
 generalize hPI:Builtin.Frozenset.updateFrom=UF
 obtain⟨hp,g,d,tk,os⟩:=s
 unfold bD at ho
 wp_walk
 subst hPI
 unfold Builtin.Frozenset.updateFrom Builtin.Frozenset.isAnySet
 refine wpAny_bind ?_
 show wpAny _ _ (isInstance (.ref l) (.type "set") >>= fun b=>_) _ _ _
 refine wpAny_bind (wpAny_isInstance hTl q1 ?_)
 show wpAny _ _ (isInstance (.ref l) (.type "frozenset")) _ _ _
 refine wpAny_isInstance hTl q2 ?_
 rw[if_neg DU]
 refine wpAny_bind (wpAny_typeOf hTl ?_)
 rw[if_neg (by decide)]
 refine wpAny_bind (wpAny_pyIter_list hl ?_)
 refine wpAny_bind (wpAny_runValue ?_)
 have hSh:S<hp.objs.size:=Heap.lt_size ho
 have hlh:l<hp.objs.size:=Heap.lt_size hol
 refine v8 (show A.in1.handled=none from hh) (Eb hlh) (Eb hSh) hne hi hb (items.size-0) 0 _ rfl (Eo _) ⟨_,Heap.get?_push_size _ rfl,rfl,rfl⟩ ?_ ?_ fun s' kp os' gs' ds' sx=>?_
 ·exact⟨ol,Heap.get?_push_of_some _ hol,hcl,nl,hdl⟩
 ·rw [F8]
  exact mU (Heap.get?_push_of_some _ ho)
 ·refine wpAny_pure (wpAny_pure (hR s' (fun b o hbS e=>kp b o hbS (Eb (Heap.lt_size e)) (Heap.get?_push_of_some _ e)) os' gs' sx))
theorem o7 {l:Addr} {items:Array Value} {ns:List Int} {Q:Value->Shared->Prop} (hh:A.handled=none) (hl:s.heap.IsList l items) (hi:IntsAre items.toList ns) (hb:ns.length+1<4000)
  (h:∀s',SX w s.heap.objs.size (dd ns) s'.heap->(∀b o,s.heap.get? b=some o->s'.heap.get? b=some o)->s'.os=s.os->s'.gens=s.gens->Q (.ref s.heap.objs.size) s'):wpAny (model P w) A (call (.type "set") [.ref l]) Q E s:=by
 obtain⟨c,tl,hmro⟩:=PySem.F.called_set.mro
 have hmade:=PySem.F.called_set.made
 have hsub:=PySem.F.called_set.sub
 have n1:=PySem.F.called_set.notType
 have n2:=PySem.F.called_set.canCreate
 have hct:=PySem.F.typeCall_set_1 (.ref l)
 refine wpAny_call (codeAny_of_tree ?_)
 show wpAny _ _ (callAny (.type "set") _) _ _ _
 refine wpAny_pure ⟨Code.quiet_builtin _ (by decide +kernel),codeAny_builtin PySem.F.entry_type_call ?_⟩
 rw[Around.under_plain (weight_type_call_type "set" [.ref l] []) rfl]
 repeat (any_goals (first | assumption | wp_step))
 refine codeAny_mono (yp (E:=E) (Q:=fun v s1=>v= .ref s.heap.objs.size/\s1={s with heap:=s.heap.push (bD w)}) (.ref l) ⟨rfl,rfl⟩) fun r s1 hr=>?_
 cases r with
 | error e=>exact hr
 | ok fl=>
  cases fl with
  | ret v=>
   obtain⟨e1,e2⟩:=hr
   subst e1 e2
   have hS:(s.heap.push (bD w)).get? s.heap.objs.size=some (bD w):=Heap.get?_push_size _ rfl
   have hT:Shared.TypeIs {s with heap:=s.heap.push (bD w)} (.ref s.heap.objs.size) "set":=⟨_,hS,rfl⟩
   have hlu:=PySem.F.called_set.init.lookup
   have hbd:=PySem.F.called_set.init.bind (.ref s.heap.objs.size)
   repeat (any_goals (first | assumption | wp_step))
   refine codeAny_mono (codeAny_call_builtin (R:=wants (fun r s2=>r= .none/\Q (.ref s.heap.objs.size) s2) E) PySem.F.called_set.init.plain PySem.F.entry_set_init (check_set_init_1 hT ?_)) fun r2 s2 hr2=>?_
   ·obtain⟨ol,hol,hcl⟩:=id hl
    refine v9 (A:=A.in1) (show A.in1.handled=none from hh) hS ⟨ol,Heap.get?_push_of_some _ hol,hcl⟩ (FV (Heap.lt_size hol)) hi hb fun s' kp os' gs' sx=>⟨rfl,h s' sx (fun b o e=>kp b o (Eb (Heap.lt_size e)) (Heap.get?_push_of_some _ e)) os' gs'⟩
   ·cases r2 with
    | error e=>exact hr2
    | ok fl2=>
     cases fl2 with
     | ret v2=>
      obtain⟨e1,hq⟩:=hr2
      subst e1
      repeat (any_goals (first | assumption | wp_step))
     | _=>exact hr2.elim
  | _=>exact hr.elim
end
theorem SX.ok {P:Program} {w:World} {H:Hp} {h:Heap} {a:Addr} {ms:List Int} (x:SX w a ms h):ObjOk P w H h a (.ext (SX w a ms)):=
 ⟨x,by obtain⟨o,_,_,_,_,e,_⟩:=x;exact⟨o,e⟩,fun _ _ y k=>y.at k⟩
section
variable {X:Cx}
theorem Inv.new' {pins:List (Addr×Obj)} {σ:L2.St} {H:Hp} {s s':Shared} {a:Addr} {o:HO} (I:Inv X pins σ H s) (k:∀b u,s.heap.get? b=some u->s'.heap.get? b=some u) (hp:s.heap.objs.size<=a) (hos:s'.os=s.os) (hgs:s'.gens=s.gens)
  (new:ObjOk X.prog X.w (aE H a o) s'.heap a o):Inv X pins σ (aE H a o) s':=
 I.call' (ch:=[]) hos (Un.laid k hp (I.hok.fresh hp)) (I.hok.laid k hp new) (by rw[hgs];exact I.bare) fun b hb=>by cases hb
theorem kQ {w:World} {a:Addr} {ms:List Int} {h:Heap} (x:SX w a ms h):∃es ep t ks,SetAt w a es ep t ks h/\ks.Perm ms:=by
 obtain⟨o,es,ep,t,ks,e,r,p⟩:=x
 exact⟨es,ep,t,ks,⟨o,e,r⟩,p⟩
theorem nU (w:World) (K:PySem.W.Frag) (hc:X.calm=true:=by rfl) (hw:X.w=w:=by rfl) (hK:X.K=K:=by rfl):cu X (.type "set") (fun xs H Q=>∃p ns,xs=[.ref p]/\SqL K H p (ns.map V.int)/\ns.length<3000/\
  ∀a,H a=none->Q (.ref a) (aE H a (.ext (SX w a (dd ns))))):=by
 subst hw hK
 intro pins s σ H xs us Q I r h
 obtain⟨p,ns,e,hq,hl,q⟩:=h
 subst e
 obtain⟨u,e,rx⟩:=fI r
 subst e
 cases rx
 obtain⟨its,rv,pl,hz⟩:=I.list hq
 refine o7 (ns:=ns) (I.ok.hd hc) pl.isList (by simpa using cU rv) (by omega) fun s' sx kp os' gs'=>?_
 exact⟨.ref s.heap.objs.size,_,I.new' kp (DS _) os' gs' sx.ok,rfl,q _ I.fresh⟩
theorem kR (w:World) (hc:X.calm=true:=by rfl) (hw:X.w=w:=by rfl):cu X (.builtin "sorted") (fun xs H Q=>∃p ms,xs=[.ref p]/\H p=some (.ext (SX w p ms))/\ms.length<64/\
  ∀l (ks:List Int),H l=none->ks.Perm ms->ks.Pairwise (· <= ·)->Q (.ref l) (aE H l (.lst (ks.map V.int)))):=by
 subst hw
 intro pins s σ H xs us Q I r h
 obtain⟨p,ms,e,hp,hl,q⟩:=h
 subst e
 obtain⟨u,e,rx⟩:=fI r
 subst e
 cases rx
 obtain⟨sx,_⟩:=(show ObjOk X.prog X.w H s.heap p (.ext (SX X.w p ms))from I.hok p _ hp)
 obtain⟨es,ep,t,ks,sa,pm⟩:=kQ sx
 refine mw (I.ok.hd hc) sa (by rw[pm.length_eq];exact hl) fun L out ns e s' hI hpm hs he le kp os' gs'=>?_
 refine⟨.ref L,_,I.new' kp le os' gs' (show ObjOk X.prog X.w _ _ _ (.lst (ns.map V.int))from⟨?_,out.toList,e,i9 hI,?_⟩),rfl,q _ ns (I.hok.fresh le) (hpm.trans pm) hs⟩
 ·rw [DI,hpm.length_eq,pm.length_eq];exact r9 (by omega)
 ·simpa [seqObj]using he
theorem o8 (w:World) (hw:X.w=w:=by rfl):cu X (.builtin "len") (fun xs H Q=>∃p ms,xs=[.ref p]/\H p=some (.ext (SX w p ms))/\Q (.int ms.length) H):=by
 subst hw
 intro pins s σ H xs us Q I r h
 obtain⟨p,ms,e,hp,q⟩:=h
 subst e
 obtain⟨u,e,rx⟩:=fI r
 subst e
 cases rx
 obtain⟨sx,_⟩:=(show ObjOk X.prog X.w H s.heap p (.ext (SX X.w p ms))from I.hok p _ hp)
 obtain⟨es,ep,t,ks,sa,pm⟩:=kQ sx
 refine qG sa fun tk n=>⟨.int ms.length,H,I.tok n,⟨tk,?_⟩,q⟩
 rw[pm.length_eq]
def yq:V->List V->Hp->VK->Prop:=fun x vs H Q=>∃l xs i y,x= .ref l/\vs=[.int i,y]/\H l=some (.lst xs)/\xs.length<sizeLine/\0<=i/\i<1000000/\Q .non (aE H l (.lst (xs.take i.toNat++y :: xs.drop i.toNat)))
theorem qH (its:List Value) (i:Int) (u:Value) (h0:0<=i):(have k:=if i<0 then(i+(its.toArray.size:Int)).toNat else min i.toNat its.toArray.size;(its.toArray.extract 0 k).push u++its.toArray.extract k)=(its.take i.toNat++u :: its.drop i.toNat).toArray:=by
 dsimp only
 rw[if_neg (by omega),DT]
 by_cases hkl:i.toNat<=its.length
 ·rw [Fg hkl]
  simp
  exact EJ (by simp)
 ·rw [Fy (by omega),EJ (by omega),E7 (by omega)]
  simp
theorem uq:CG X "list.insert" yq:=by
 intro pins s σ H x vs v us Q I rx rv h
 obtain⟨l,xs,i,y,rfl,rfl,hH,hz,h0,h1,q⟩:=h
 cases rx
 obtain⟨u,u',rfl,ru,ry⟩:=rv.two
 obtain⟨t,rfl⟩:=ru
 obtain⟨z,its,n,r,hl,e⟩:=I.lstM hH
 have hfit:¬(!Builtin.List.listFitsIndex i)=true:=by
  have:Builtin.List.listFitsIndex i=true:=fitsIndex_both (by omega) (by omega)
  rw[this];simp
 refine call_meets PySem.F.slot_list_insert ⟨_,e,rfl⟩ PySem.F.entry_list_insert (PySem.F.args_list_insert_3 _ _ _) (AutoSeq1.list_insert_list_int_val_1 l its.toArray n i t u' hfit (by rw[DT];omega)) ⟨e,?_⟩
 refine⟨.non,_,I.lset (its':=its.take i.toNat++u' :: its.drop i.toNat) hH e (qH its i u' h0) ((r.take _).append (.cons ry (r.drop _))) ?_,rfl,q⟩
 rw[DX,EK,<- Nat.add_assoc,<- DX,Fs];exact hz
end
end L2
namespace L2
def C1 (l:List Int):List Int:=l.mergeSort fun a b=>decide (a<=b)
end L2
namespace L2
open PySem PySem.Spec PyProof.Rows
section
variable {X:Cx} {tg:Expr}
end
section
variable {X:Cx} {pos:Pos}
def BC (K:PySem.W.Frag) (n:Nat) (t:xG):TG:=fun v σ H Q=>∃a xs,v= .ref a/\SqL K H a xs/\xs.length=n/\t xs σ H Q
theorem An {es:List Expr} {k:Nat} {t:xG} {n:Nat} (K:PySem.W.Frag) (hc:X.calm=true) (hg:zN X es t) (h:X.K=K:=by rfl) (hn:(assignEach es X.env).length=n:=by rfl) (hst:(assignEach es X.env).findIdx? (·.1)=none:=by rfl):PG X (.Tuple es k pos) (BC K n t):=by
 subst h
 intro pins s σ H v u Q I r hw
 obtain⟨a,xs,e1,hq,hl,hw⟩:=hw
 subst e1
 cases r
 obtain⟨its,rv,ht,hz⟩:=I.list hq
 rw[assign_Tuple]
 refine wpAny_bind (wpAny_standAt ?_)
 unfold unpack
 have en:(assignEach es X.env).length=its.toArray.size:=by simp[hn,<- hl,rv.length]
 rw[en,hst]
 refine wpAny_bind (wpAny_holding (PySem.W.kun_itemsOf (I.ok.hd hc) ht.isList fun h' hx=>?_))
 have I1:Inv X pins σ H {s with heap:=h'}:=I.kept (t':=s.toks) fun b o e=>hx b o (Eb (Heap.lt_size e)) e
 exact hg pins _ σ H xs _ Q I1 (by simpa using rv) hw
end
theorem aH {hs:List Int} {k:Nat} (h:k<hs.length):hs.getD k 0=hs[k]:=by simp[h]
theorem bx {hs:List (List Int)} {k:Nat} (h:k<hs.length):hs.getD k []=hs[k]:=by simp[h]
def lp (mask:Nat):Nat->Nat×Nat->Nat×Nat
 | 0,x=>x
 | n+1,x=>lp mask n (SetTable.leap mask x.1 x.2)
section
variable {P:Program} {w:World} {A:Around} {E:Value->Shared->Prop} {s:Shared} {S:Addr} {ks ms:List Int} {es:Array (Int×Value)} {ep:Nat} {t:SetTable}
theorem Ao {n:Nat} (h:n<5000):n<=sizeLine:=ET (kb (by omega))
theorem SetAt.store {es':Array (Int×Value)} {t':SetTable} {ks':List Int} {Q:Unit->Shared->Prop} (hS:SetAt w S es ep t ks s.heap) (en:Ents es'.toList ks') (nd:ks'.Nodup) (sz:ks'.length<4000) (ft:t'.fits es'.size=true) (tb:TabK (!cD w) t')
  (h:∀h',Heap.SameBut S s.heap h'->SetAt w S es' (ep+1) t' ks' h'->Q () {s with heap:=h'}):wpAny (model P w) A (storeSet S es' t') Q E s:=by
 obtain⟨o,ho,hs⟩:=hS
 have z:es'.size=ks'.length:=by rw[<- en.len,Ep]
 refine wpAny_storeSet_of ho hs.da (h _ (Heap.SameBut.update ..) ?_) (by rw[z];exact Ao (by omega))
 obtain⟨o',ho',hs'⟩:=qA (s:=s) ho hs en nd sz ft tb
 exact⟨o',ho',hs'⟩
theorem SetAt.state {Q:Array (Int×Value)×Nat×SetTable->Shared->Prop} (hS:SetAt w S es ep t ks s.heap) (h:Q (es,ep,t) s):wpAny (model P w) A (setState S) Q E s:=by
 obtain⟨o,ho,hs⟩:=hS
 exact wpAny_setState_of ho hs.da hs.ft h
theorem SetAt.epoch {Q:Nat->Shared->Prop} (hS:SetAt w S es ep t ks s.heap) (h:Q ep s):wpAny (model P w) A (setEpoch S) Q E s:=by
 unfold setEpoch
 exact wpAny_bind (hS.state (wpAny_pure h))
theorem SetAt.entries {Q:Array (Int×Value)->Shared->Prop} (hS:SetAt w S es ep t ks s.heap) (h:Q es s):wpAny (model P w) A (setEntries S) Q E s:=by
 unfold setEntries
 exact wpAny_bind (hS.state (wpAny_pure h))
theorem SetAt.en (hS:SetAt w S es ep t ks s.heap):Ents es.toList ks:=let⟨_,_,hs⟩:=hS;hs.en
theorem SetAt.nd (hS:SetAt w S es ep t ks s.heap):ks.Nodup:=let⟨_,_,hs⟩:=hS;hs.nd
theorem SetAt.ft (hS:SetAt w S es ep t ks s.heap):t.fits es.size=true:=let⟨_,_,hs⟩:=hS;hs.ft
theorem SetAt.tb (hS:SetAt w S es ep t ks s.heap):TabK (!cD w) t:=let⟨_,_,hs⟩:=hS;hs.tb
theorem SetAt.lt4 (hS:SetAt w S es ep t ks s.heap):ks.length<4000:=let⟨_,_,hs⟩:=hS;hs.sz
theorem SetAt.sx (hS:SetAt w S es ep t ks s.heap) (p:ks.Perm ms):SX w S ms s.heap:=let⟨o,e,r⟩:=hS;⟨o,es,ep,t,ks,e,r,p⟩
theorem SetAt.find {x:Int} {tk:Tok} {Q:Option Nat->Shared->Prop} (hS:SetAt w S es ep t ks s.heap) (h1:∀i,ks[i]?=some x->Q (some i) s) (h2:x∉ks->Q none s):wpAny (model P w) A (setFind S (.int x tk) (hashInt x)) Q E s:=by
 obtain⟨o,ho,hs⟩:=hS
 have hel:=hs.en.elems (P:=P) (w:=w)
 have hky:(intKind P w).is x (.int x tk)=true:=intKind_is P w x tk
 unfold setFind setFindIn
 refine wpAny_bind (wpAny_setState_of ho hs.da hs.ft ?_)
 dsimp only
 rw[byScan_of (knd:=intKind P w) rfl hs.bound hel,if_pos rfl]
 refine wpAny_bind (wpAny_rule ?_)
 refine wpAny_bind (wpAny_setScan_of (knd:=intKind P w) (k:=x) hky ho hs.da hs.ft hel ?_)
 have fd:=hs.en.find (P:=P) (w:=w) (k:=x)
 cases hr:List.findIdx? (fun e=>(intKind P w).is x e.2) es.toList with
 | some j=>
  refine wpAny_pure ?_
  rw[Nat.zero_add]
  refine h1 j ?_
  obtain⟨hj,p1,_⟩:=Ft.mp hr
  have hjk:j<ks.length:=by rw[<- hs.en.len];exact hj
  have gk:=DJ hjk
  obtain⟨e',g,tk',q⟩:=bJ hs.en gk
  rw[DJ hj]at g
  have g:=Option.some.inj g
  rw[g,q]at p1
  have:x=ks[j]:=by
   have z:(intKind P w).is x (hashInt ks[j],Value.int ks[j] tk').2=decide (x=ks[j]):=mS x ks[j] tk'
   rw[z]at p1
   exact of_decide_eq_true p1
  rw[gk,this]
 | none=>
  rw[hr]at fd
  exact wpAny_pure (h2 (of_decide_eq_false fd.symm))
end
section
variable {P:Program} {w:World} {A:Around} {E:Value->Shared->Prop} {s:Shared} {S:Addr} {ks ms:List Int} {es:Array (Int×Value)} {ep:Nat} {t:SetTable}
theorem wa {Q:Bool->Shared->Prop} (sets:List Addr) (ho:∀a∈sets,∃ms,SX w a ms s.heap) (h:Q true s):wpAny (model P w) A (setsQuiet sets) Q E s:=by
 unfold setsQuiet
 refine wpAny_bind (wpAny_forIn_list _ (fun dy b s'=>(∀a∈dy,a∈sets)/\b.1=none/\s'=s) _ ?_ ?_ sets _ ⟨fun _ h=>h,rfl,rfl⟩)
 ·rintro a dy b s' ⟨hm,hb,rfl⟩
  obtain⟨ms,sx⟩:=ho a (hm a Ei)
  obtain⟨es,ep,t,ks,sa,pm⟩:=kQ sx
  refine wpAny_bind (sa.entries ?_)
  refine wpAny_bind (PySem.MeetsSeq2.wpAny_forIn_array _ (fun dy b s''=>(∀a∈dy,a∈es.toList)/\b.1=none/\s''=s') _ ?_ ?_ es _ ⟨fun _ h=>h,rfl,rfl⟩)
  ·rintro x dy b s' ⟨hm,hb,rfl⟩
   obtain⟨k,tk,_,e⟩:=Ents.mem (es:=es.toList) sa.en (hm x Ei)
   subst e
   refine wpAny_pure ⟨fun a h=>hm a (Ea _ h),rfl,rfl⟩
  ·rintro⟨b1,b2⟩ s'' ⟨_,hb',rfl⟩
   dsimp only at hb'
   subst hb'
   exact wpAny_pure ⟨fun a h=>hm a (Ea _ h),rfl,rfl⟩
 ·rintro⟨b1,b2⟩ s' ⟨_,hb,rfl⟩
  dsimp only at hb
  subst hb
  exact wpAny_pure h
theorem nV {Q:Bool->Shared->Prop} (h:Q (cD w) s):wpAny (model P w) A setsByText Q E s:=by
 unfold setsByText
 exact wpAny_bind (wpAny_askSetting (wpAny_pure h))
theorem SetAt.walk {others:List Addr} {f:Option Addr} {Q:Array (Int×Value)->Shared->Prop} (hS:SetAt w S es ep t ks s.heap) (ho:∀a∈others,∃ms,SX w a ms s.heap) (hf:∀a,f=some a->a≠S/\SX w a ms s.heap)
  (h:∀xs h',xs.toList.Perm es.toList->(∀b o,f≠some b->s.heap.get? b=some o->h'.get? b=some o)->(∀a,f=some a->SX w a ms h')->Q xs {s with heap:=h'}):wpAny (model P w) A (setWalkUnseen S others f) Q E s:=by
 have hS':=hS
 obtain⟨o,hoo,hs⟩:=hS
 unfold setWalkUnseen
 refine wpAny_bind (hS'.state ?_)
 dsimp only
 refine wpAny_bind (nV ?_)
 have done:∀xs:Array (Int×Value),xs.toList.Perm es.toList->Q xs s:=fun xs p=>h xs s.heap p (fun _ _ _ e=>e) fun a e=>(hf a e).2
 by_cases hc:(cD w||t.led&&t.plain||decide (es.size<=1))=true
 ·rw [if_pos hc]
  by_cases bt:cD w=true
  ·exact iL bt hoo hs (done _ (jb _ _))
  ·unfold setWalk
   have bt0:cD w=false:=by simpa using bt
   have ld:t.led=true:=by rw[hs.tb.led,bt0];rfl
   refine wpAny_bind (hS'.state ?_)
   dsimp only
   refine wpAny_bind (nV ?_)
   rw[bt0,if_neg DU]
   rw[bt0,ld]at hc
   show wpAny _ _ (if(!t.plain&&decide (es.size>1))=true then _ else _) _ _ _
   rw[if_neg (by cases hp:t.plain with | true=>simp | false=>(rw [hp]at hc;simp at hc ⊢;omega))]
   refine wpAny_bind ?_
   show wpAny _ _ (if(!t.led&&decide (es.size>1))=true then unsupported "set:maker-not-led" else pure ()) _ _ _
   rw[if_neg (by rw[ld];simp)]
   exact wpAny_pure (wpAny_pure (done _ (.refl _)))
 ·rw [if_neg hc]
  refine wpAny_bind (wa _ (fun a ha=>?_) ?_)
  ·rcases Ed.mp ha with e | e
   ·subst e;exact⟨ks,hS'.sx (.refl _)⟩
   ·exact ho a e
  rw[if_neg (by simp)]
  refine wpAny_bind (wpAny_rule ?_)
  cases f with
  | none=>exact wpAny_pure (done _ (.refl _))
  | some a=>
   obtain⟨hne,sx⟩:=hf a rfl
   obtain⟨ef,epf,tf,kf,sf,pf⟩:=kQ sx
   refine wpAny_bind (sf.state ?_)
   dsimp only
   by_cases hm:(tf.led&& !t.led||tf.plain&& !t.plain)=true
   ·rw [if_pos hm]
    refine wpAny_bind (sf.store (t':={tf with led:=tf.led&&t.led,plain:=tf.plain&&t.plain}) sf.en sf.nd sf.lt4 sf.ft ⟨by show(tf.led&&t.led)=_;rw[sf.tb.led,hs.tb.led];simp,fun z=>sf.tb.rise (by have z:(tf.plain&&t.plain)=true:=z;simp at z;exact z.1)⟩ fun h' sb st=>?_)
    exact wpAny_pure (h es h' (.refl _) (fun b o n e=>(sb.2 b fun z=>n (by rw[z])).trans e) fun a' e=>by cases e;exact st.sx (s:={s with heap:=h'}) pf)
   ·rw [if_neg hm]
    exact wpAny_pure (done _ (.refl _))
end
section
variable {P:Program} {w:World} {A:Around} {E:Value->Shared->Prop} {s:Shared} {S T:Addr} {ks ms ns:List Int} {es:Array (Int×Value)} {ep:Nat} {t:SetTable}
theorem SX.ty (h:SX w S ms s.heap):s.TypeIs (.ref S) "set":=let⟨o,_,_,_,_,e,r,_⟩:=h;⟨o,e,r.ex.1⟩
theorem jd {Q:Bool->Shared->Prop} (hT:s.TypeIs (.ref S) "set") (h:Q true s):wpAny (model P w) A (Builtin.Frozenset.isAnySet (.ref S)) Q E s:=by
 unfold Builtin.Frozenset.isAnySet
 show wpAny _ _ (isInstance (.ref S) (.type "set") >>= fun b=>_) _ _ _
 refine wpAny_bind (wpAny_isInstance hT sub_set_self ?_)
 exact wpAny_pure h
theorem ur {Q:Value->Shared->Prop} (hT:s.TypeIs (.ref S) "set") (h:Q (.type "set") s):wpAny (model P w) A (Builtin.Frozenset.baseOf S) Q E s:=by
 unfold Builtin.Frozenset.baseOf
 refine wpAny_bind (wpAny_isInstance hT sub_set_self ?_)
 exact wpAny_pure h
theorem uu {Q:Value->Shared->Prop} (h:Q (.ref s.heap.objs.size) {s with heap:=s.heap.push (bD w)}):wpAny (model P w) A (newSet (.type "set")) Q E s:=by
 unfold newSet
 refine wpAny_bind (nV ?_)
 dsimp only
 simp only[newObj]
 exact wpAny_bind (wpAny_alloc (wpAny_pure h))
theorem mV {Q:Nat->Shared->Prop} (hS:SetAt w S es ep t ks s.heap) (h:Q es.size s):wpAny (model P w) A (Builtin.Frozenset.sizeOf S) Q E s:=by
 unfold Builtin.Frozenset.sizeOf
 exact wpAny_bind (hS.entries (wpAny_pure h))
theorem sF {id:String} {Q:Unit->Shared->Prop} (hS:SetAt w S es ep t ks s.heap) (h:Q () s):wpAny (model P w) A (Builtin.Frozenset.unchanged id S ep) Q E s:=by
 unfold Builtin.Frozenset.unchanged
 refine wpAny_bind (hS.epoch ?_)
 rw[if_neg (by simp)]
 exact wpAny_pure h
theorem uv {r:Addr} {xs:Array (Int×Value)} {kx k0:List Int} {f:(Int×Value)->PUnit->Sem (ForInStep PUnit)} {G:Heap->Prop} {Q:PUnit->Shared->Prop} (keep:Int->Bool) (en:Ents xs.toList kx) (nd:kx.Nodup) (dj:∀k∈kx,k∉k0) (hl:kx.length+k0.length+1<4000)
  (hG:∀h h',G h->Heap.SameBut r h h'->G h')
  (hf:∀k tk (s':Shared) (Q':ForInStep PUnit->Shared->Prop) kr,k∈kx->G s'.heap->SX w r kr s'.heap->kr.length+1<4000->(keep k=true->∀h',Heap.SameBut r s'.heap h'->SX w r (cM kr k) h'->Q' (.yield ⟨⟩) {s' with heap:=h'})->(keep k=false->Q' (.yield ⟨⟩) s')->wpAny (model P w) A (f (hashInt k,.int k tk) ⟨⟩) Q' E s')
  (g:G s.heap) (sx:SX w r k0 s.heap)
  (h:∀h',Heap.SameBut r s.heap h'->SX w r (k0++kx.filter keep) h'->Q ⟨⟩ {s with heap:=h'}):wpAny (model P w) A (forIn xs ⟨⟩ f) Q E s:=by
 refine PySem.MeetsSeq2.wpAny_forIn_array f (fun dy _ s'=>∃kr h',Ents dy kr/\kr <:+ kx/\s'={s with heap:=h'}/\Heap.SameBut r s.heap h'/\SX w r (k0++(kx.take (kx.length-kr.length)).filter keep) h'/\G h') _ ?_ ?_ xs ⟨⟩ ⟨kx,s.heap,en,List.suffix_refl _,rfl,Heap.SameBut.refl _ _,by rw[FN,F8];simpa using sx,g⟩
 ·rintro x dy b s' ⟨kr,h1,er,sf,rfl,sb,sx1,g1⟩
  cases er with
  | @cons _ k _ kr' q er'=>
   obtain⟨tk,rfl⟩:=q
   obtain⟨pre,ep⟩:=sf
   have hk:k∈kx:=by rw[<- ep];simp
   have e1:kx.length-(k :: kr').length=pre.length:=by rw[<- ep];simp
   have e2:kx.length-kr'.length=pre.length+1:=by rw[<- ep];simp;omega
   have t1:kx.take pre.length=pre:=by rw[<- ep];simp
   have t2:kx.take (pre.length+1)=pre++[k]:=by
    have:kx=(pre++[k])++kr':=by rw[<- ep];simp
    rw[this]
    have:pre.length+1=(pre++[k]).length:=by simp
    rw[this,List.take_left]
   rw[e1,t1]at sx1
   have kn:k∉pre:=by
    rw[<- ep,List.nodup_append]at nd
    exact fun m=>nd.2.2 k m k (by simp) rfl
   have fl:(pre.filter keep).length<=kx.length:=Ek (Et ..) (by rw[<- ep];simp)
   have sfx:kr' <:+ kx:=⟨pre++[k],by rw[<- ep];simp⟩
   refine hf k tk _ _ _ hk g1 sx1 (by rw[DX];omega) (fun hp h2 sb2 sx2=>?_) fun hp=>?_
   ·refine⟨kr',h2,er',sfx,rfl,sb.trans sb2,?_,hG _ _ g1 sb2⟩
    have ed:cM (k0++pre.filter keep) k=k0++(pre++[k]).filter keep:=by
     have:k∉k0++pre.filter keep:=fun m=>by
      rcases Eg.mp m with m | m
      ·exact dj k hk m
      ·exact kn (Ej.mp m).1
     unfold cM
     rw[if_neg this,EI,FZ]
     simp[hp]
    rw[e2,t2,<- ed]
    exact sx2
   ·refine⟨kr',h1,er',sfx,rfl,sb,?_,g1⟩
    rw[e2,t2,EI]
    simpa [hp]using sx1
 ·rintro b s' ⟨kr,h1,er,sf,rfl,sb,sx1,g1⟩
  cases er
  refine h h1 sb ?_
  rw[List.length_nil,Nat.sub_zero,EL]at sx1
  exact sx1
end
section
variable {P:Program} {w:World} {A:Around} {E:Value->Shared->Prop} {s:Shared} {S T:Addr} {ks ms ns:List Int} {es:Array (Int×Value)} {ep:Nat} {t:SetTable}
theorem sG {a r:Addr} {h h':Heap} (n:a≠r) (sb:Heap.SameBut r h h'):∀o,h.get? a=some o->h'.get? a=some o:=fun o e=>(sb.2 a n).trans e
theorem wb {id:String} {W0 K0 r:Addr} {ew:Array (Int×Value)} {epw:Nat} {tw:SetTable} {kw:List Int} {ka:List Int} {xs:Array (Int×Value)} {kx:List Int} {Q:PUnit->Shared->Prop}
  (hW:SetAt w W0 ew epw tw kw s.heap) (hK:SX w K0 ka s.heap) (n1:W0≠r) (n2:K0≠r) (en:Ents xs.toList kx) (nd:kx.Nodup) (hl:kx.length+1<4000) (sx:SX w r [] s.heap) (c:Bool->Bool)
  {f:(Int×Value)->PUnit->Sem (ForInStep PUnit)}
  (hf:∀x,f x ⟨⟩=(do
   holding [x.2] do
    let q <- setFind K0 x.2 x.1
    if c q.isSome=true then
     let _ <- setAddHashed r x.2 x.1
   Builtin.Frozenset.unchanged id W0 epw
   pure (.yield ⟨⟩)))
  (h:∀h',Heap.SameBut r s.heap h'->SX w r (kx.filter fun k=>c (decide (k∈ka))) h'->Q ⟨⟩ {s with heap:=h'}):wpAny (model P w) A (forIn xs ⟨⟩ f) Q E s:=by
 refine uv (k0:=[]) (G:=fun h=>SetAt w W0 ew epw tw kw h/\SX w K0 ka h) (fun k=>c (decide (k∈ka))) en nd (fun _ _ h=>by cases h) (by simpa using hl) (fun h h' g sb=>⟨g.1.at (sG n1 sb),g.2.at (sG n2 sb)⟩) ?_ ⟨hW,hK⟩ sx (fun h' sb sx'=>h h' sb (by simpa using sx'))
 intro k tk s' Q' kr hk ⟨gW,gK⟩ sxr hlen q1 q2
 rw[hf]
 dsimp only
 obtain⟨ek,epk,tk',kk,sk,pk⟩:=kQ gK
 have fin:∀d:Bool,(decide (k∈ka)=d)->wpAny (model P w) A (if c d=true then(do let _ <- setAddHashed r (.int k tk) (hashInt k);pure PUnit.unit)else pure PUnit.unit) (fun _ s2=>wpAny (model P w) A (do Builtin.Frozenset.unchanged id W0 epw;pure (ForInStep.yield PUnit.unit)) Q' E s2) E s':=fun d hc=>by
  by_cases hcb:c d=true
  ·rw [if_pos hcb]
   refine wpAny_bind (v7 sxr hlen fun _ h' sb sx'=>wpAny_pure ?_)
   refine wpAny_bind (sF (s:={s' with heap:=h'}) (gW.at (sG n1 sb)) (wpAny_pure ?_))
   exact q1 (by rw[hc];exact hcb) h' sb sx'
  ·rw [if_neg hcb]
   refine wpAny_pure ?_
   refine wpAny_bind (sF gW (wpAny_pure ?_))
   exact q2 (by rw[hc];simpa using hcb)
 refine wpAny_bind (wpAny_holding (wpAny_bind (sk.find (fun i hi=>?_) fun hn=>?_)))
 ·exact fin true (decide_eq_true (pk.mem_iff.mp (DQ hi)))
 ·exact fin false (decide_eq_false fun m=>hn (pk.mem_iff.mpr m))
theorem wc {id:String} {Q:Value->Shared->Prop} (hS:SX w S ms s.heap) (hT:SX w T ns s.heap) (hne:S≠T) (hl1:ms.length<3000) (hl2:ns.length<3000)
  (h:∀h' ks,(∀b o,s.heap.get? b=some o->h'.get? b=some o)->SX w s.heap.objs.size ks h'->ks.Nodup->(∀x,x∈ks<->x∈ms/\x∈ns)->Q (.ref s.heap.objs.size) {s with heap:=h'}):wpAny (model P w) A (Builtin.Frozenset.intersection id S (.ref T)) Q E s:=by
 unfold Builtin.Frozenset.intersection
 rw[if_neg (by simp;exact fun z=>hne z.symm)]
 refine wpAny_bind (ur hS.ty (wpAny_bind (uu ?_)))
 have lS:=hS.lt
 have lT:=hT.lt
 have kp:∀b o,s.heap.get? b=some o->(s.heap.push (bD w)).get? b=some o:=fun b o e=>Heap.get?_push_of_some _ e
 have hS1:=hS.at (kp S)
 have hT1:=hT.at (kp T)
 have hR1:SX w s.heap.objs.size [] (s.heap.push (bD w)):=mU (Heap.get?_push_size _ rfl)
 generalize hr:s.heap.objs.size=r at*
 generalize hh1:s.heap.push (bD w)=h1 at*
 refine wpAny_bind (wpAny_pure ?_)
 have ne1:S≠r:=Eb lS
 have ne2:T≠r:=Eb lT
 have aS:=kQ hS1
 have aT:=kQ hT1
 obtain⟨eS,epS,tS,kS,aS,pS⟩:=aS
 obtain⟨eT,epT,tT,kT,aT,pT⟩:=aT
 refine wpAny_bind (wpAny_holding (wpAny_bind (jd (s:={s with heap:=h1}) hT1.ty ?_)))
 rw[if_pos rfl]
 refine wpAny_bind (wpAny_pure ?_)
 refine wpAny_bind (mV (s:={s with heap:=h1}) aT (wpAny_bind (mV (s:={s with heap:=h1}) aS ?_)))
 have core:∀(W0 K0:Addr) (ew:Array (Int×Value)) (epw:Nat) (tw:SetTable) (kw ka:List Int),SetAt w W0 ew epw tw kw h1->SX w K0 ka h1->W0≠r->K0≠r->kw.length<3000->(∀x,x∈kw/\x∈ka<->x∈ms/\x∈ns)->
   wpAny (model P w) A (do
    let was <- setEpoch W0
    let l <- setWalkUnseen W0 [K0,r] (some r)
    forIn l PUnit.unit fun x __s=>match x with
     | (h,x)=>do
      holding [x] do
       let q <- setFind K0 x h
       if q.isSome=true then do
        let _ <- setAddHashed r x h
        pure ()
       else pure ()
      Builtin.Frozenset.unchanged id W0 was
      pure (ForInStep.yield PUnit.unit)
    pure ()) (fun _ s'=>wpAny (model P w) A (pure (Value.ref r)) Q E s') E {s with heap:=h1}:=by
  intro W0 K0 ew epw tw kw ka hW hK n1 n2 hlw hm
  refine wpAny_bind (SetAt.epoch (s:={s with heap:=h1}) hW ?_)
  refine wpAny_bind (SetAt.walk (s:={s with heap:=h1}) (ms:=[]) hW (fun a ha=>?_) (fun a e=>?_) fun xs h2 px k2 f2=>?_)
  ·simp only[Ed,EM,or_false]at ha
   rcases ha with e | e<;>subst e
   ·exact⟨_,hK⟩
   ·exact⟨_,hR1⟩
  ·cases e;exact⟨Ne.symm n1,hR1⟩
  have k2':∀b o,b≠r->h1.get? b=some o->h2.get? b=some o:=fun b o n e=>k2 b o (fun z=>n (Option.some.inj z).symm) e
  obtain⟨kx,nx,qx⟩:=Ents.perm px (SetAt.en (s:={s with heap:=h1}) hW)
  have ndw:=SetAt.nd (s:={s with heap:=h1}) hW
  have ndx:kx.Nodup:=qx.nodup_iff.mpr ndw
  refine wpAny_bind (wb (s:={s with heap:=h2}) (hW.at fun o e=>k2' W0 o n1 e) (hK.at fun o e=>k2' K0 o n2 e) n1 n2 nx ndx (by rw[qx.length_eq];omega) (f2 r rfl) (fun b=>b) (fun x=>rfl) fun h3 sb sx=>wpAny_pure (wpAny_pure ?_))
  refine h h3 _ (fun b o e=>?_) sx (ndx.filter _) fun x=>?_
  ·have nb:b≠r:=by rw[<- hr];exact Eb (Heap.lt_size e)
   exact sG nb sb o (k2' b o nb (kp b o e))
  ·rw [Ej,qx.mem_iff,<- hm x]
   simp
 by_cases hc:eT.size>eS.size
 ·rw [if_pos hc]
  exact core S T eS epS tS kS ns aS hT1 ne1 ne2 (by rw[pS.length_eq];exact hl1) fun x=>by rw[pS.mem_iff]
 ·rw [if_neg hc]
  exact core T S eT epT tT kT ms aT hS1 ne2 ne1 (by rw[pT.length_eq];exact hl2) fun x=>by rw[pT.mem_iff];exact And.comm
end
section
variable {P:Program} {w:World} {A:Around} {E:Value->Shared->Prop} {s:Shared} {S T r:Addr} {ks ms ns:List Int} {es:Array (Int×Value)} {ep:Nat} {t:SetTable}
end
section
variable {P:Program} {w:World} {A:Around} {E:Value->Shared->Prop} {s:Shared} {S T r:Addr} {ks kr ms ns:List Int} {es er:Array (Int×Value)} {ep epr:Nat} {t tr:SetTable}
end
section
variable {P:Program} {w:World} {A:Around} {E:Value->Shared->Prop} {s:Shared} {S T r:Addr} {ks kr ms ns:List Int} {es er:Array (Int×Value)} {ep epr:Nat} {t tr:SetTable}
end
section
variable {P:Program} {w:World} {A:Around} {E:Value->Shared->Prop} {s:Shared} {S T r:Addr} {ks kr ms ns:List Int} {es er:Array (Int×Value)} {ep epr:Nat} {t tr:SetTable}
end
theorem fe:Slot "set" "__and__" "set.__and__":= .of (owner:="set") (n:="__and__") (by rw[typeLookup_type,builtinLookup_eq_fast];kernel_rfl) (by decide +kernel) (by decide +kernel) (by decide +kernel) (.inl (by decide +kernel)) (by rw[isSubtype_type];kernel_rfl)
theorem my:entryFor table "set.__and__"=some Builtin.«frozenset.__and__»:=entryFor_alias (id':="frozenset.__and__") (by kernel_rfl) rfl (by decide +kernel) (by kernel_rfl)
theorem nW (a b:Value):argsOk "set.__and__" ⟨[a,b],[]⟩:=by unfold argsOk;kernel_rfl
theorem nX:fillsNumberSlot (.type "set") "and"=pure true:=fillsNumberSlot_of fe.lookup (by decide +kernel) (r:=some (.builtin "set.__rand__")) (by rw[typeLookup_type,builtinLookup_eq_fast];kernel_rfl)
section
variable {X:Cx}
def BD (w:World) (rel:Int->List Int->List Int->Prop):R2:=fun x y H Q=>∃a b ms ns,x= .ref a/\y= .ref b/\a≠b/\H a=some (.ext (SX w a ms))/\H b=some (.ext (SX w b ns))/\ms.length<64/\ns.length<64/\
 ∀c ks,H c=none->ks.Nodup->(∀x,x∈ks<->rel x ms ns)->Q (.ref c) (aE H c (.ext (SX w c ks)))
theorem yr (w:World) (hw:X.w=w:=by rfl):gu X (binaryOp .BitAnd) (BD w fun x ms ns=>x∈ms/\x∈ns):=by
 subst hw
 intro pins s σ H x y v u Q I rx ry h
 obtain⟨a,b,ms,ns,rfl,rfl,hne,ha,hb,l1,l2,q⟩:=h
 cases rx
 cases ry
 obtain⟨sa,_⟩:=(show ObjOk X.prog X.w H s.heap a (.ext (SX X.w a ms))from I.hok a _ ha)
 obtain⟨sb,_⟩:=(show ObjOk X.prog X.w H s.heap b (.ext (SX X.w b ns))from I.hok b _ hb)
 refine wpAny_binaryOp_same sa.ty sb.ty nX fe (wpAny_call_entry fe sa.ty my ?_ (nW _ _))
 show wpAny _ _ (Builtin.Frozenset.slot1 "__and__" ⟨[.ref a,.ref b],[]⟩ >>= _) _ _ s
 refine wpAny_bind (wpAny_pure ?_)
 refine wpAny_bind ?_
 show wpAny _ _ (Builtin.Frozenset.isAnySet (.ref a) >>= fun c=>_) _ _ _
 refine wpAny_bind (jd sa.ty ?_)
 show wpAny _ _ (Builtin.Frozenset.isAnySet (.ref b)) _ _ _
 refine jd sb.ty ?_
 rw[if_neg (by simp)]
 refine wpAny_bind (wpAny_pure ?_)
 refine wpAny_bind (wc sa sb hne (by omega) (by omega) fun h' ks kp sx nd m=>wpAny_pure ⟨_,rfl,by simp,?_⟩)
 exact⟨.ref s.heap.objs.size,_,I.new' (s':={s with heap:=h'}) kp (DS _) rfl rfl sx.ok,rfl,q _ ks I.fresh nd m⟩
end
def Ap (K:PySem.W.Frag) (a b:Addr):It:=
  ⟨fun i H=>∃xs ys x y,SqL K H a xs/\SqL K H b ys/\xs[i]?=some x/\ys[i]?=some y,
   fun i H v H'=>∃p x y,H p=none/\(∀xs,SqL K H a xs->xs[i]?=some x)/\(∀ys,SqL K H b ys->ys[i]?=some y)/\v= .ref p/\H'=aE H p (.tup [x,y]),
   fun i H=>∃xs ys,SqL K H a xs/\SqL K H b ys/\xs.length<=i⟩
theorem we {fs ex:List Addr} {H:Hp} {h h':Heap} (k:∀b o,b∉ex->h.get? b=some o->h'.get? b=some o):Un fs ex H H h h' where
 keep:=fun b o q _ _ hx=>k b o hx q
 slot:=fun b o q _ _ hx=>⟨o.slots,k b o hx q⟩
 free:=fun _ _ _ n _=>n
 there:=fun b o q hx=>⟨o,k b o hx q⟩
 tups:=fun _ _ q=>q
 frzs:=fun _ _ _ q=>q
 tbls:=fun b ps q=>⟨#[],by rw[q];simp⟩
theorem wg {P:Program} {w:World} {K:PySem.W.Frag} {es:List Expr} {k1:Nat} {pos:Pos} (z TI TO i1 i2 l1 l2:Addr) (D:ZipApart z TI TO i1 i2 l1 l2):
  Turn P w K (.Tuple es k1 pos) (Ap K l1 l2) [z,TI,TO,i1,i2] z (fun i h=>IsZip h z TI TO .none/\IsPair h TI (.ref i1) (.ref i2)/\(∃a b,IsPair h TO a b)/\h.IsListIter i1 l1 i/\h.IsListIter i2 l2 i) where
 mem:=by simp
 obj:=fun i h st b hb=>by
  obtain⟨hz,hTI,⟨a,c,hTO⟩,⟨o1,e1,c1,d1⟩,⟨o2,e2,c2,d2⟩⟩:=st
  simp only[Ed,EM,or_false]at hb
  rcases hb with e | e | e | e | e<;>subst e
  ·exact⟨_,hz,fun v y=>by have y':Data.fields _=Data.cell v:=y;cases y'⟩
  ·exact⟨_,hTI,fun v y=>by have y':Data.seq _ _=Data.cell v:=y;cases y'⟩
  ·exact⟨_,hTO,fun v y=>by have y':Data.seq _ _=Data.cell v:=y;cases y'⟩
  ·exact⟨o1,e1,fun v y=>by rw[d1]at y;cases y⟩
  ·exact⟨o2,e2,fun v y=>by rw[d2]at y;cases y⟩
 keep:=fun i h h' st k=>by
  obtain⟨hz,hTI,⟨a,c,hTO⟩,h1,h2⟩:=st
  exact⟨k z (by simp) _ hz,k TI (by simp) _ hTI,⟨a,c,k TO (by simp) _ hTO⟩,h1.at fun o e=>k i1 (by simp) o e,h2.at fun o e=>k i2 (by simp) o e⟩
 item:=by
  intro X hP hw hK hc i pins s σ H E I hf st hg
  subst hP hw hK
  obtain⟨xs,ys,x,y,hq1,hq2,hx,hy⟩:=hg
  obtain⟨its1,rv1,p1,_⟩:=I.list hq1
  obtain⟨its2,rv2,p2,_⟩:=I.list hq2
  obtain⟨u,hu,ru⟩:=rv1.get hx
  obtain⟨v,hv,rv⟩:=rv2.get hy
  obtain⟨hz,hTI,⟨a,c,hTO⟩,h1,h2⟩:=st
  refine wpAny_pyNext_zip_item D hz hTI hTO h1 h2 p1.isList p2.isList (x:=u) (y:=v) (by simpa using hu) (by simpa using hv) fun h' a1 a2 a3 a4 a5 a6 kp=>?_
  refine⟨_,rfl,wpAny_letOwnedTupleGo_zip a1 fun h2' z2 sb=>?_⟩
  have lt:∀{c o},s.heap.get? c=some o->s.heap.objs.size≠c:=fun e=>FV (Heap.lt_size e)
  have kp2:∀b o,b∉[z,TI,TO,i1,i2]->s.heap.get? b=some o->h2'.get? b=some o:=fun b o hb e=>by
   simp only[Ed,EM,or_false,not_or]at hb
   exact(sb.2 b hb.1).trans (kp b o hb.1 hb.2.2.1 hb.2.2.2.1 hb.2.2.2.2 e)
  have nz:=lt hz
  have nTI:=lt hTI
  have nTO:=lt hTO
  have n1:s.heap.objs.size≠i1:=by obtain⟨_,e,_⟩:=h1;exact lt e
  have n2:s.heap.objs.size≠i2:=by obtain⟨_,e,_⟩:=h2;exact lt e
  have fr:H s.heap.objs.size=none:=I.fresh
  have e3:h2'.get? s.heap.objs.size=some {cls:= .type "tuple",data:= .seq #[u,v]}:=(sb.2 _ nz).trans a5
  have hch:∀b∈[z,TI,TO,i1,i2],(b∈X.ex\/X.s₀.heap.objs.size<=b)/\b≠X.env.locals/\(∀x c,X.env.cells.lookup x=some c->c≠b)/\∀p∈X.pn++pins,p.1≠b:=fun b hb=>by
   obtain⟨f0,f1,f2,f3,f4,f5⟩:=hf b hb
   exact⟨f3,f1,f4,f5⟩
  have off:∀b o,H b=some o->b∉[z,TI,TO,i1,i2]:=fun b o e m=>by rw[(hf b m).1]at e;cases e
  have hok1:HOk X.prog X.w H h2':=fun b o e=>(I.hok b o e).stay (fun c oc hc q=>kp2 c oc (by rcases hc with y | y;exact(by rw[y];exact off b o e);exact off c _ y) q) (fun _ q=>q) fun _ _ q=>q
  have I2:Inv X pins σ (aE H s.heap.objs.size (.tup [x,y])) {s with heap:=h2'}:=by
   have un:Un (gp X.stack) [z,TI,TO,i1,i2] H (aE H s.heap.objs.size (.tup [x,y])) s.heap h2':={
    keep:=fun b o q _ _ hx=>kp2 b o hx q
    slot:=fun b o q _ _ hx=>⟨o.slots,kp2 b o hx q⟩
    free:=fun b o q n hx=>by rw[aq (Eb (Heap.lt_size q))];exact n
    there:=fun b o q hx=>⟨o,kp2 b o hx q⟩
    tups:=fun b xs q=>by rw[aq (aw q fr)];exact q
    frzs:=fun b o xs q=>by rw[aq (aw q fr)];exact q
    tbls:=fun b ps q=>⟨#[],by rw[aq (aw q fr),q];simp⟩}
   refine I.call' (s':={s with heap:=h2'}) (ch:=[z,TI,TO,i1,i2]) rfl un (fun b o e=>?_) I.bare hch
   by_cases hb:b=s.heap.objs.size
   ·subst hb
    rw[ae]at e
    cases e
    refine⟨cI,[u,v],.cons ru (.cons rv .nil),_,e3,rfl,_,rfl⟩
   ·rw [aq hb]at e
    refine(hok1 b o e).stay (fun _ _ _ q=>q) (fun c q=>by rw[aq (aw q fr)];exact q) fun c xs q=>by rw[aq (aw q fr)];exact q
  refine⟨.ref s.heap.objs.size,_,I2,rfl,⟨_,x,y,fr,fun xs' h=>by rw[I.list_inj h hq1];exact hx,fun ys' h=>by rw[I.list_inj h hq2];exact hy,rfl,rfl⟩,⟨z2,?_,⟨u,v,?_⟩,?_,?_⟩,fun b hb=>?_⟩
  ·exact(sb.2 TI D.TIz).trans (kp TI _ D.TIz D.TITO D.TIi1 D.TIi2 hTI)
  ·exact(sb.2 TO D.TOz).trans a2
  ·exact a3.at fun o e=>(sb.2 i1 D.i1z).trans e
  ·exact a4.at fun o e=>(sb.2 i2 D.i2z).trans e
  ·have hne:b≠s.heap.objs.size:=fun q=>by
    subst q
    simp only[Ed,EM,or_false]at hb
    rcases hb with e | e | e | e | e
    ·exact nz e
    ·exact nTI e
    ·exact nTO e
    ·exact n1 e
    ·exact n2 e
   rw[aq hne];exact(hf b hb).1
 done:=by
  intro X hP hw hK hc i pins s σ H E I hf st hg
  subst hP hw hK
  obtain⟨xs,ys,hq1,hq2,hx⟩:=hg
  obtain⟨its1,rv1,p1,_⟩:=I.list hq1
  obtain⟨its2,rv2,p2,_⟩:=I.list hq2
  obtain⟨hz,hTI,⟨a,c,hTO⟩,h1,h2⟩:=st
  have hl:=rv1.length
  have off:∀b o,H b=some o->b∉[z,TI,TO,i1,i2]:=fun b o e m=>by rw[(hf b m).1]at e;cases e
  refine wpAny_pyNext_zip_end (I.ok.hd hc) D hz hTI hTO h1 h2 p1.isList p2.isList (.inl (by simp;omega)) fun h' kp=>⟨rfl,?_⟩
  have kp2:∀b o,b∉[z,TI,TO,i1,i2]->s.heap.get? b=some o->h'.get? b=some o:=fun b o hb e=>by
   simp only[Ed,EM,or_false,not_or]at hb
   exact kp b o hb.1 hb.2.2.1 hb.2.2.2.1 hb.2.2.2.2 e
  refine I.call' (s':={s with heap:=h'}) (ch:=[z,TI,TO,i1,i2]) rfl (we kp2) (fun b o e=>(I.hok b o e).stay (fun c oc hc q=>kp2 c oc (by rcases hc with y | y;exact(by rw[y];exact off b o e);exact off c _ y) q) (fun _ q=>q) fun _ _ q=>q) I.bare fun b hb=>?_
  obtain⟨f0,f1,f2,f3,f4,f5⟩:=hf b hb
  exact⟨f3,f1,f4,f5⟩
 self:=fun _ _ _ _ _ st h=>wpAny_pyIter_zip st.1 h
theorem uw (n l1 l2:Nat) (t1:l1<n) (t2:l2<n):ZipApart (n+4) (n+2) (n+3) n (n+1) l1 l2:=by
 constructor<;>first | exact Eb (by omega) | exact FV (by omega)
section
variable {X:Cx}
def CL (K:PySem.W.Frag) (ta:TA):TI:=fun σ H R=>ta σ H fun vs H1=>∃a b xs ys,vs=[.ref a,.ref b]/\SqL K H1 a xs/\SqL K H1 b ys/\R (Ap K a b) H1
theorem qI {a b:Expr} {ta:TA} {p pos tp:Pos} {es:List Expr} {k1:Nat} (K:PySem.W.Frag) (hg:Gl X "zip") (hm:X.mg "zip"=none) (ha:PA X [a,b] ta) (hK:X.K=K:=by rfl) (hs:starEach [a,b] X.env=[(false,eval a X.env),(false,eval b X.env)]:=by rfl) (hs2:starEach [b] X.env=[(false,eval b X.env)]:=by rfl):
  PI X (.Tuple es k1 tp) (.Call (.Name "zip" p) [a,b] [] pos) (CL K ta):=by
 subst hK
 intro pins s σ H R I h
 refine Call_ (gU I hg hm boot_zip (PyProof.Rows.callWith_type1 (bF (ha pos pins s σ H _ I h) fun us s1 ⟨vs,H1,I1,r1,q1⟩=>?_) (by rw[hs,hs2]) (by rw[hs2];rfl)))
 obtain⟨l1,l2,xs,ys,e,hq1,hq2,q⟩:=q1
 subst e
 cases r1 with
 | cons r rr=>
  cases rr with
  | cons r' rr=>
   cases rr
   cases r
   cases r'
   obtain⟨its1,rv1,p1,_⟩:=I1.list hq1
   obtain⟨its2,rv2,p2,_⟩:=I1.list hq2
   have t1:l1<s1.heap.objs.size:=by obtain⟨o,e,_⟩:=p1.isList;exact Heap.lt_size e
   have t2:l2<s1.heap.objs.size:=by obtain⟨o,e,_⟩:=p2.isList;exact Heap.lt_size e
   refine call_zip_2 p1.isList p2.isList fun h' hz hTI hTO h1 h2 hsz kp=>?_
   refine wpAny_pyIter_zip hz ?_
   have D:=uw s1.heap.objs.size l1 l2 t1 t2
   have I2:Inv X pins σ H1 {s1 with heap:=h'}:=I1.kept (t':=s1.toks) kp
   refine⟨_,[s1.heap.objs.size+4,s1.heap.objs.size+2,s1.heap.objs.size+3,s1.heap.objs.size,s1.heap.objs.size+1],_,_,H1,rfl,I2,wg _ _ _ _ _ _ _ D,⟨hz,hTI,⟨_,_,hTO⟩,h1,h2⟩,fun b hb=>?_,q⟩
   have le:s1.heap.objs.size<=b:=by
    simp only[Ed,EM,or_false]at hb
    rcases hb with e | e | e | e | e<;>subst e
    ·exact Fe _ _
    ·exact Fe _ _
    ·exact Fe _ _
    ·exact DS _
    ·exact Fe _ _
   exact I1.fpOk le (I1.hok.fresh le)
end
theorem sH {K:PySem.W.Frag} {a b:Addr} {xs ys:List V} {g:TG} {tb:TS} {D:Ends} {σ:L2.St} {H:Hp} (hl:xs.length=ys.length) (Pv:Nat->L2.St->Hp->Prop) (h0:Pv 0 σ H) (hw:∀i σ H,i<=xs.length->Pv i σ H->SqL K H a xs/\SqL K H b ys)
  (hs:∀i x y σ H p,xs[i]?=some x->ys[i]?=some y->Pv i σ H->H p=none->g (.ref p) σ (aE H p (.tup [x,y])) fun σ2 H2=>tb {D with nx:=Pv (i+1),ct:=Pv (i+1),bk:=D.nx} σ2 H2) (hd:∀σ H,Pv xs.length σ H->D.nx σ H):
  ∃W:Nat->Nat->L2.St->Hp->Prop,(∃m,W 0 m σ H)/\∀i m σ H,W i m σ H->
   ((Ap K a b).stop i H/\D.nx σ H)\/((Ap K a b).go i H/\∃N:L2.St->Hp->Prop,(∀σ' H',N σ' H'->∃m',m'<m/\W (i+1) m' σ' H')/\∀v H',(Ap K a b).yld i H v H'->g v σ H' fun σ2 H2=>tb {D with nx:=N,ct:=N,bk:=D.nx} σ2 H2):=by
 refine⟨fun i m σ H=>m=xs.length-i/\i<=xs.length/\Pv i σ H,⟨xs.length,by simp,Eo _,h0⟩,?_⟩
 rintro i m σ H ⟨rfl,hi,p⟩
 obtain⟨w1,w2⟩:=hw i σ H hi p
 by_cases hlt:i<xs.length
 ·have hlt2:i<ys.length:=by omega
  refine .inr ⟨⟨xs,ys,xs[i],ys[i],w1,w2,DJ hlt,DJ hlt2⟩,Pv (i+1),fun σ' H' p'=>⟨xs.length-(i+1),EO _ _ hlt,rfl,hlt,p'⟩,fun v H' y=>?_⟩
  obtain⟨q,x,y,hn,e1,e2,e3,e4⟩:=y
  subst e3 e4
  exact hs i x y σ H q (e1 xs w1) (e2 ys w2) p hn
 ·have e:i=xs.length:=Ff hi (E5 hlt)
  subst e
  exact .inl ⟨⟨xs,ys,w1,w2,DS _⟩,hd σ H p⟩
section
variable {X:Cx}
end
section
variable {X:Cx}
end
section
variable {X:Cx}
end
theorem sI (bt:Nat->Nat->Bool):∀k,argBest bt k<=k
 | 0=>DS _
 | k+1=>by
  unfold argBest
  split
  ·exact DS _
  ·have:=sI bt k;omega
theorem kU (val:Nat->Int):∀k i,i<=k->val i<=val (argBest (fun i j=>decide (val i>val j)) k)
 | 0,i,h=>by
  have:i=0:=by omega
  subst this;exact Int.le_refl _
 | k+1,i,h=>by
  unfold argBest
  by_cases c:val (k+1)>val (argBest (fun i j=>decide (val i>val j)) k)
  ·rw [if_pos (decide_eq_true c)]
   by_cases z:i=k+1
   ·subst z;exact Int.le_refl _
   ·have:=kU val k i (by omega);omega
  ·rw [if_neg (by simpa using c)]
   by_cases z:i=k+1
   ·subst z;omega
   ·exact kU val k i (by omega)
section
variable {X:Cx}
theorem BE (K:PySem.W.Frag) (hc:X.calm=true:=by rfl) (h:X.K=K:=by rfl):cu X (.builtin "max") (fun xs H Q=>∃(p:Addr) (ns:List Int),xs=[.ref p]/\SqL K H p (ns.map V.int)/\ns≠[]/\∀m,m∈ns->(∀x∈ns,x<=m)->Q (.int m) H):=by
 subst h
 intro pins s σ H xs us Q I r h
 obtain⟨p,ns,e,hq,hne0,q⟩:=h
 subst e
 obtain⟨u,e,rx⟩:=fI r
 subst e
 cases rx
 obtain⟨its,rv,pl,hz⟩:=I.list hq
 have hl:=rv.length
 rw[DI]at hl
 have h0:0<ns.length:=List.length_pos_iff.mpr hne0
 refine call_max_walk (wpAny_pyIter_list pl.isList ?_)
 have hlt:p<s.heap.objs.size:=by
  obtain⟨o,ho,_⟩:=pl.isList
  exact Heap.lt_size ho
 have hval:∀(i:Nat) (v:Value),its.toArray[i]?=some v->∃t,v= .int (ns.getD i 0) t:=fun i v hi=>by
  have hi':its[i]?=some v:=by simpa using hi
  have h2:i<ns.length:=by rw[hl];exact(DN.mp hi').1
  obtain⟨u,eu,ru⟩:=rv.get (i:=i) (x:= .int ns[i]) (by simp[h2])
  rw[hi']at eu
  cases eu
  obtain⟨t,e⟩:=ru
  exact⟨t,by rw[e];simp[h2]⟩
 refine⟨s.heap.objs.size,_,_,_,_,_,_,rfl,Walks.list (A:=X.A.in1) (show X.A.in1.handled=none from I.ok.hd hc) _ p (Eb hlt) its.toArray,?_,?_,by rw[DT];omega,CmpOf.ints_gt (fun i=>ns.getD i 0) hval,?_⟩
 ·refine⟨⟨_,Heap.get?_push_size _ rfl,rfl,rfl⟩,?_⟩
  obtain⟨o,ho,z⟩:=pl.isList
  exact⟨o,Heap.get?_push_of_some _ ho,z⟩
 ·intro b hb
  rw[Heap.size_push]
  simp only[Ed,EM,or_false]at hb
  rcases hb with z | z<;>subst z
  ·exact Fk _
  ·exact EC hlt
 ·intro v h' tk hP kp
  obtain⟨t,rfl⟩:=hval _ _ hP
  have hb:=sI (fun i j=>decide (ns.getD i 0>ns.getD j 0)) (its.toArray.size-1)
  have hs:its.toArray.size=ns.length:=by rw[DT];omega
  rw[hs]at hb
  refine⟨.int _,H,I.kept (fun b o e=>kp b o ?_ (Heap.get?_push_of_some _ e)),⟨t,rfl⟩,q _ ?_ fun x hx=>?_⟩
  ·have:=Heap.lt_size e
   intro z
   rw[DV]at z
   exact absurd this (by rw[z];exact ER _)
  ·rw [hs,aH (by omega)];exact El _
  ·obtain⟨j,hj,ej⟩:=Ef.mp hx
   have:=kU (fun i=>ns.getD i 0) (ns.length-1) j (by omega)
   rw[hs]
   rw[aH hj,ej]at this
   exact this
end
section
open PySem.AutoSeq1 (wpAny_loadPart')
open PySem.MeetsSeq PySem.MeetsSeq2 PySem.MeetsSeq3
theorem eN {us:List Value} {ns:List Int}:∀(i:Nat),IntsAre us ns->i<ns.length->∃t,us[i]?=some (.int (ns.getD i 0) t):=by
 intro i h hi
 obtain⟨t,e⟩:=IntsAre.int_at h i (us[i]'(by rw[IntsAre.length h];exact hi)) (by rw[DJ])
 exact⟨t,by rw[DJ (by rw[IntsAre.length h];exact hi),e]⟩
theorem wj (p r:Addr) (us vs:Array Value) (n1 n2:Nat) (ns ms:List Int) (hi:IntsAre us.toList ns) (hj:IntsAre vs.toList ms) (k:Nat):
  ∀i:Nat,us.size-i=k->i<=us.size->i<=vs.size->Meets (Builtin.«list.__eq__.loop» ⟨[.ref p,.ref r,rawInt i,rawInt 0],[]⟩)
   (fun _ R s=>s.heap.get? p=some {cls:= .type "list",data:= .seq us n1}/\s.heap.get? r=some {cls:= .type "list",data:= .seq vs n2}/\R (.ok (.ret (.bool (HT.bh (ns.drop i) (ms.drop i))))) s):=by
 have z1:us.size=ns.length:=by rw[<- Ep];exact hi.length
 have z2:vs.size=ms.length:=by rw[<- Ep];exact hj.length
 have stop:∀i:Nat,us.size<=i\/vs.size<=i->Meets (Builtin.«list.__eq__.loop» ⟨[.ref p,.ref r,rawInt i,rawInt 0],[]⟩)
   (fun _ R s=>s.heap.get? p=some {cls:= .type "list",data:= .seq us n1}/\s.heap.get? r=some {cls:= .type "list",data:= .seq vs n2}/\R (.ok (.ret (.bool (decide (us.size<vs.size))))) s):=by
  intro i hor P w A R s hh
  obtain⟨hp,g,d,tk,os⟩:=s
  obtain⟨h1,h2,h3⟩:=hh
  wp_walk using wpAny_loadPart' h1,wpAny_loadPart' h2
  by_cases c:us.size<=i
  ·have e1:us[((i:Nat):Int).toNat]?=none:=by rw[Er];exact FD (by omega)
   rw[e1]
   wp_walk using wpAny_loadPart' h1,wpAny_loadPart' h2
   exact h3
  ·have e2:vs[((i:Nat):Int).toNat]?=none:=by rw[Er];exact FD (by omega)
   have e1:us[((i:Nat):Int).toNat]?=some us[i]:=by rw[Er];exact Ez (by omega)
   rw[e1,e2]
   wp_walk using wpAny_loadPart' h1,wpAny_loadPart' h2
   exact h3
 have last:∀i:Nat,i<=us.size->i<=vs.size->(us.size<=i\/vs.size<=i)->HT.bh (ns.drop i) (ms.drop i)=decide (us.size<vs.size):=fun i b1 b2 hor=>by
  by_cases c:us.size<=i
  ·rw [E7 (show ns.length<=i by omega)]
   by_cases c2:vs.size<=i
   ·rw [E7 (show ms.length<=i by omega),HT.l9]
    exact(decide_eq_false (by omega)).symm
   ·rw [Fu (show i<ms.length by omega),HT.kE]
    exact(decide_eq_true (by omega)).symm
  ·rw [Fu (show i<ns.length by omega),E7 (show ms.length<=i by omega),HT.kF]
   exact(decide_eq_false (by omega)).symm
 induction k with
 | zero=>
  intro i hk b1 b2 P w A R s hh
  rw[last i b1 b2 (.inl (by omega))]at hh
  exact stop i (.inl (by omega)) P w A R s hh
 | succ k ih=>
  intro i hk b1 b2
  by_cases c:vs.size<=i
  ·intro P w A R s hh
   rw[last i b1 b2 (.inr c)]at hh
   exact stop i (.inr c) P w A R s hh
  have l1:i<ns.length:=by omega
  have l2:i<ms.length:=by omega
  intro P w A R s hh
  obtain⟨hp,g,d,tk,os⟩:=s
  obtain⟨h1,h2,h3⟩:=hh
  obtain⟨t1,g1⟩:=eN i hi l1
  obtain⟨t2,g2⟩:=eN i hj l2
  have e1:us[((i:Nat):Int).toNat]?=some (.int (ns.getD i 0) t1):=by rw[Er,<- EZ];exact g1
  have e2:vs[((i:Nat):Int).toNat]?=some (.int (ms.getD i 0) t2):=by rw[Er,<- EZ];exact g2
  have k1:ns.getD i 0=ns[i]:=by simp[l1]
  have k2:ms.getD i 0=ms[i]:=by simp[l2]
  rw[Fu l1,Fu l2,HT.cT,<- k1,<- k2]at h3
  wp_walk using wpAny_loadPart' h1,wpAny_loadPart' h2
  rw[e1,e2]
  have hc:((i:Int)+1)=((i+1:Nat):Int):=by omega
  refine wpAny_bind (wpAny_eqBool_int ?_)
  by_cases q:ns.getD i 0=ms.getD i 0
  ·rw [if_pos q]at h3
   rw[if_pos (by simpa using q)]
   wp_walk
   rw[hc]
   exact⟨plainId_quiet plain_eq_loop _,codeAny_builtin entry_eq_loop (by
    rw[Around.under_plainId plain_eq_loop _]
    exact ih (i+1) (by omega) (by omega) (by omega) P w A R _ ⟨h1,h2,h3⟩)⟩
  ·rw [if_neg q]at h3
   rw[if_neg (by simpa using q)]
   wp_walk using wpAny_loadPart' h1,wpAny_loadPart' h2
   rw[e1,e2]
   have hr:=HT.oM A.in1 ⟨hp,g,d,tk,os⟩ (ns.getD i 0) t1 (ms.getD i 0) t2 P w
   wp_walk using hr
   exact h3
theorem C2 (p r:Addr) (us vs:Array Value) (n1 n2:Nat) (ns ms:List Int) (hi:IntsAre us.toList ns) (hj:IntsAre vs.toList ms):
  Meets (Builtin.«list.__lt__» ⟨[.ref p,.ref r],[]⟩)
   (fun _ R s=>s.heap.get? p=some {cls:= .type "list",data:= .seq us n1}/\s.heap.get? r=some {cls:= .type "list",data:= .seq vs n2}/\R (.ok (.ret (.bool (HT.bh ns ms)))) s):=by
 intro P w A R s hh
 obtain⟨hp,g,d,tk,os⟩:=s
 obtain⟨h1,h2,h3⟩:=hh
 have sub:=AutoSeq1.sub_list_list
 wp_walk using wpAny_loadPart' h1,wpAny_loadPart' h2
 exact⟨plainId_quiet plain_eq_loop _,codeAny_builtin entry_eq_loop (by
  rw[Around.under_plainId plain_eq_loop _]
  exact wj p r us vs n1 n2 ns ms hi hj _ 0 rfl (Eo _) (Eo _) P w A R _ ⟨h1,h2,h3⟩)⟩
end
section
variable {X:Cx}
end
theorem ff {J:It} {H1:Hp} {js:List (Option Nat)} {σ:L2.St} {tc:TT} {te:TE} {Q:VK} (n:Nat) (item:Nat->V) (p:Nat->Bool) (P:Addr->Nat->V->Hp->Prop) (hn:n<100000)
  (mono:∀acc i v H H',P acc i v H->SameBut acc H H'->P acc i v H')
  (hgo:∀i H,i<n->Same H1 H->J.go i H) (hst:∀H,Same H1 H->J.stop n H) (hy:∀i H x H',i<n->Same H1 H->J.yld i H x H'->H'=H/\x=item i)
  (hc:∀i,i<n->∀H2 R,Same H1 H2->(∀H3,Same H2 H3->R (p i) H3)->tc (some (item i) :: bN σ js) H2 R)
  (he:∀acc i,i<n->p i=true->∀H2 R,Same H1 H2->H1 acc=none->H2 acc≠none->(∀v H3,Same H2 H3->P acc i v H3->R v H3)->te (some (item i) :: bN σ js) H2 R)
  (hQ:∀acc vs H',Same H1 H'->H1 acc=none->H' acc=some (.lst vs)->Paired (fun i v=>P acc i v H') ((DR n).filter p) vs->Q (.ref acc) H'):
  cF J H1 (none :: js) (bS 0) tc te σ Q:=by
 intro acc hacc
 refine⟨fun i m ys H=>m=n-i/\i<=n/\Same H1 H/\H acc=some (.lst ys)/\Paired (fun k v=>P acc k v H) ((DR i).filter p) ys,⟨n,by simp,Eo _,Same.new hacc,ae,.nil⟩,?_⟩
 rintro i m ys H ⟨rfl,hi,s1,ha,hp⟩
 by_cases hlt:i<n
 ·refine .inr ⟨hgo i H hlt s1,fun ys' H'=>i<n/\Same H1 H'/\H' acc=some (.lst ys')/\Paired (fun k v=>P acc k v H') ((DR (i+1)).filter p) ys',fun ys' H' ⟨z,a,b,c⟩=>⟨n-(i+1),EO _ _ hlt,rfl,hlt,a,b,c⟩,fun x H' y=>?_⟩
  obtain⟨rfl,rfl⟩:=hy i H x H' hlt s1 y
  refine⟨vO,hc i hlt _ _ s1 fun H2 s2=>⟨fun hb=>?_,fun hb=>?_⟩⟩
  ·have ha2:=s2 _ _ ha
   refine he acc i hlt hb _ _ (s1.trans s2) hacc (by rw[ha2];simp) fun v H3 s3 pv=>?_
   have hlen:ys.length<=i:=by
    rw[<- Paired.length hp]
    exact Ek (Et _ _) (by simp)
   refine⟨s3 _ _ ha2,kb (by omega),hlt,((s1.trans s2).trans s3).put hacc,ae,?_⟩
   rw[E4,EI]
   have e:F2 p [i]=[i]:=by simp[hb]
   rw[e]
   refine Paired.snoc (Paired.mapP hp fun k v q=>?_) ?_
   ·exact mono acc k v _ _ (mono acc k v _ _ q (s2.trans s3).but) SameBut.upd
   ·exact mono acc i v _ _ pv SameBut.upd
  ·refine⟨hlt,s1.trans s2,s2 _ _ ha,?_⟩
   rw[E4,EI]
   have e:F2 p [i]=[]:=by simp[hb]
   rw[e,Fc]
   exact Paired.mapP hp fun k v q=>mono acc k v _ _ q s2.but
 ·have e:i=n:=Ff hi (E5 hlt)
  subst e
  exact .inl ⟨hst H s1,hQ acc ys H s1 hacc ha hp⟩
theorem cW {H1:Hp} {js:List (Option Nat)} {σ:L2.St} {tc:TT} {te:TE} {Q:VK} {n:Nat} (p:Nat->Bool) (hn:n<100000)
  (hc:∀i:Nat,i<n->∀H2 R,Same H1 H2->(∀H3,Same H2 H3->R (p i) H3)->tc (some (.int (0+(i:Int))) :: bN σ js) H2 R)
  (he:∀i:Nat,i<n->∀H2 R,R (.int ((i:Nat):Int)) H2->te (some (.int (0+(i:Int))) :: bN σ js) H2 R)
  (hQ:∀acc H',Same H1 H'->H1 acc=none->H' acc=some (.lst (((DR n).filter p).map fun(i:Nat)=>V.int (i:Int)))->Q (.ref acc) H'):cF (rG 0 n) H1 (none :: js) (bS 0) tc te σ Q:=
 ff (J:=rG 0 n) (H1:=H1) (js:=js) (σ:=σ) (tc:=tc) (te:=te) (Q:=Q) n (fun i=> .int (0+(i:Int))) p (fun _ i v _=>v=V.int (i:Int)) hn (fun _ _ _ _ _ h _=>h)
  (fun _ _ h _=>h) (fun _ _=>DS _) (fun _ _ _ _ _ _ y=>y) hc (fun _ i hi _ H2 R s _ _ k=>he i hi H2 R (k _ H2 (Same.refl _) rfl))
  fun acc vs H' s n' e p=>hQ acc H' s n' (by rw[e,cV p])
theorem Same.seqT {K:PySem.W.Frag} {H H':Hp} {a:Addr} {xs:List V} (e:Same H H') (h:SqT K H a xs):SqT K H' a xs:=by
 rcases h with(h | ⟨o,h⟩) | h
 ·exact .inl (.inl (e _ _ h))
 ·exact .inl (.inr ⟨o,e _ _ h⟩)
 ·exact .inr h
theorem iN {K:PySem.W.Frag} {H1:Hp} {js:List (Option Nat)} {σ:L2.St} {tc:TT} {te:TE} {Q:VK} {a:Addr} {xs:List V} (p:Nat->Bool) (f:Nat->V) (hl:SqT K H1 a xs) (hn:xs.length<100000)
  (hc:∀(i:Nat) x,xs[i]?=some x->∀H2 R,Same H1 H2->(∀H3,Same H2 H3->R (p i) H3)->tc (some x :: bN σ js) H2 R)
  (he:∀(i:Nat) x,xs[i]?=some x->p i=true->∀H2 R,Same H1 H2->(∀H3,Same H2 H3->R (f i) H3)->te (some x :: bN σ js) H2 R)
  (hQ:∀acc H',Same H1 H'->H1 acc=none->H' acc=some (.lst (((DR xs.length).filter p).map f))->Q (.ref acc) H'):cF (zo K a) H1 (none :: js) (bS 0) tc te σ Q:=
 ff (J:=zo K a) (H1:=H1) (js:=js) (σ:=σ) (tc:=tc) (te:=te) (Q:=Q) xs.length (fun i=>xs.getD i .non) p (fun _ i v _=>v=f i) hn (fun _ _ _ _ _ h _=>h)
  (fun i H h s=>⟨xs,xs[i],Same.seqT s hl,by simp[h]⟩) (fun H s=>⟨xs,Same.seqT s hl,DS _⟩)
  (fun i H x H' h s y=>⟨y.1,by have e:=y.2 xs (Same.seqT s hl);simp[e]⟩)
  (fun i h H2 R s k=>hc i _ (by simp[h]) H2 R s k) (fun acc i h hp H2 R s n1 n2 k=>he i _ (by simp[h]) hp H2 R s fun H3 s3=>k _ H3 s3 rfl)
  fun acc vs H' s n' e p=>hQ acc H' s n' (by rw[e,cV p])
def gB (f:Nat->Int) (st:List Nat):Nat:=(dd (st.map f)).length
theorem o9 (f:Nat->Int) (st:List Nat) (i:Nat):gB f (st++[i])=if f i∈st.map f then gB f st else gB f st+1:=by
 unfold gB
 rw[DY,En,FW,gA]
 unfold cM
 by_cases h:f i∈st.map f
 ·rw [if_pos h,if_pos (aZ.mpr h)]
 ·rw [if_neg h,if_neg fun z=>h (aZ.mp z),DX,Ec]
theorem bL {K:PySem.W.Frag} {H1:Hp} {js:List (Option Nat)} {σ:L2.St} {tc:TT} {te:TE} {Q:VK} {a:Addr} {xs:List V} (p:Nat->Bool) (f:Nat->V) (hl:SqL K H1 a xs) (hn:xs.length<100000)
  (hc:∀(i:Nat) x,xs[i]?=some x->∀H2 R,Same H1 H2->(∀H3,Same H2 H3->R (p i) H3)->tc (some x :: bN σ js) H2 R)
  (he:∀(i:Nat) x,xs[i]?=some x->p i=true->∀H2 R,Same H1 H2->(∀H3,Same H2 H3->R (f i) H3)->te (some x :: bN σ js) H2 R)
  (hQ:∀acc H',Same H1 H'->H1 acc=none->H' acc=some (.lst (((DR xs.length).filter p).map f))->Q (.ref acc) H'):cF (oI K a) H1 (none :: js) (bS 0) tc te σ Q:=
 ff (J:=oI K a) (H1:=H1) (js:=js) (σ:=σ) (tc:=tc) (te:=te) (Q:=Q) xs.length (fun i=>xs.getD i .non) p (fun _ i v _=>v=f i) hn (fun _ _ _ _ _ h _=>h)
  (fun i H h s=>⟨xs,xs[i],s.seq hl,by simp[h]⟩) (fun H s=>⟨xs,s.seq hl,DS _⟩)
  (fun i H x H' h s y=>⟨y.1,by have e:=y.2 xs (s.seq hl);simp[e]⟩)
  (fun i h H2 R s k=>hc i _ (by simp[h]) H2 R s k) (fun acc i h hp H2 R s n1 n2 k=>he i _ (by simp[h]) hp H2 R s fun H3 s3=>k _ H3 s3 rfl)
  fun acc vs H' s n' e p=>hQ acc H' s n' (by rw[e,cV p])
theorem CM {α:Type} {st:List Nat} {g:Nat->Bool} {F:Nat->α}:(((DR st.length).filter fun j=>g (st.getD j 0)).map fun j=>F (st.getD j 0))=(st.filter g).map F:=by
 have e0:st=(DR st.length).map fun i=>st.getD i 0:=by
  apply EN
  ·simp
  ·intro i h1 h2;simp[h1]
 conv=>rhs;rw[e0]
 rw[F4,Eu]
 rfl
def brk (f:Nat->Int) (n:Nat) (wd:Str) (k:Int) (st:List Nat):Bool:=
 if wd="most" then decide (k<((gB f (st.filter fun i=>decide (i<n)):Nat):Int))else decide (((gB f (st.filter fun i=>decide (i<n)):Nat):Int)+(st.length:Int)-((st.filter fun i=>decide (i<n)).length:Int)<k)
def fx (hs:List Int) (x:Int):Nat:=hs.findIdx fun y=>decide (y=x)
theorem mW {hs:List Int} {x:Int} (h:x∈hs):hs[fx hs x]?=some x:=by
 have hl:fx hs x<hs.length:=Fx ⟨x,h,by simp⟩
 have:=List.findIdx_getElem (xs:=hs) (p:=fun y=>decide (y=x)) (w:=hl)
 rw[DJ hl]
 exact congrArg some (of_decide_eq_true this)
theorem zy {hs:List Int} {x:Int} {m:Nat} (h:m<fx hs x):hs[m]?≠some x:=fun z=>by
 obtain⟨hm,e⟩:=DN.mp z
 have:=FE h
 rw[e]at this
 simp at this
theorem BF {hs:List Int} {k:Nat} (h:k<hs.length):fx hs (hs.getD k 0)<=k:=by
 refine Decidable.byContradiction fun z=>zy (by omega:k<fx hs (hs.getD k 0)) ?_
 rw[aH h,DJ h]
def qJ (hs:List Int) (k:Nat):Nat:=(dd (hs.take (fx hs (hs.getD k 0)))).length
def iO (hs:List Int):List Nat:=(DR hs.length).map (qJ hs)
theorem gC {hs:List Int}:(iO hs).length=hs.length:=by unfold iO;simp
theorem nY {hs:List Int} {k:Nat} (h:k<hs.length):(iO hs)[k]?=some (qJ hs k):=by
 unfold iO
 rw[DM,E9 h];rfl
theorem jx {H1:Hp} {js:List (Option Nat)} {σ:L2.St} {te:TE} {Q:VK} {n:Nat} (f:Nat->List V) (hn:n<100000)
  (he:∀i:Nat,i<n->∀H2 R,Same H1 H2->(∀r H3,Same H2 H3->H2 r=none->H3 r=some (.lst (f i))->R (.ref r) H3)->te (some (.int (0+(i:Int))) :: bN σ js) H2 R)
  (hQ:∀acc (rs:List Addr) H',Same H1 H'->H1 acc=none->H' acc=some (.lst (rs.map V.ref))->rs.length=n->(∀(i:Nat) r,rs[i]?=some r->H' r=some (.lst (f i))/\H1 r=none)->(∀r∈rs,r≠acc)->Q (.ref acc) H'):
  cF (rG 0 n) H1 (none :: js) (bS 0) gY te σ Q:=
 ff (J:=rG 0 n) (H1:=H1) (js:=js) (σ:=σ) (tc:=gY) (te:=te) (Q:=Q) n (fun i=> .int (0+(i:Int))) (fun _=>true) (fun acc i v H=>∃r,v= .ref r/\r≠acc/\H1 r=none/\H r=some (.lst (f i))) hn
  (fun acc i v H H' ⟨r,e,n,h0,h⟩ s=>⟨r,e,n,h0,s r _ n h⟩) (fun _ _ h _=>h) (fun _ _=>DS _) (fun _ _ _ _ _ _ y=>y) (fun _ _ _ _ _ h=>h _ (Same.refl _))
  (fun acc i hi _ H2 R s n1 n2 k=>he i hi H2 R s fun r H3 s3 nr h3=>k _ H3 s3 ⟨r,rfl,fun z=>n2 (by rw[<- z];exact nr),s.free nr,h3⟩)
  fun acc vs H' s n' e p=>by
   rw[EU.mpr (fun _ _=>rfl)]at p
   have hl:vs.length=n:=by rw[<- Paired.length p,Ew]
   have all:∀(i:Nat) v,vs[i]?=some v->∃r,v= .ref r/\r≠acc/\H1 r=none/\H' r=some (.lst (f i)):=fun i v hv=>by
    obtain⟨k,hk,q⟩:=bJ p hv
    have hi:i<n:=by rw[<- hl];exact(DN.mp hv).1
    rw[E9 hi]at hk
    cases hk
    exact q
   have ex:∃rs:List Addr,vs=rs.map V.ref:=by
    refine⟨vs.map fun v=>match v with | .ref r=>r | _=>0,?_⟩
    rw[Eu]
    apply EN
    ·simp
    ·intro i h1 h2
     obtain⟨r,er,_⟩:=all i vs[i] (DJ h1)
     rw[E6]
     show vs[i]=V.ref (match vs[i]with | .ref r=>r | _=>0)
     rw[er]
   obtain⟨rs,rfl⟩:=ex
   rw[DI]at hl
   refine hQ acc rs H' s n' e hl (fun i r hr=>?_) fun r hr=>?_
   ·obtain⟨r',er,_,h1,h2⟩:=all i (.ref r) (by rw[DM,hr];rfl)
    cases er
    exact⟨h2,h1⟩
   ·obtain⟨i,hi,ei⟩:=Ef.mp hr
    obtain⟨r',er,h0,_⟩:=all i (.ref r) (by rw[DM,DJ hi,ei];rfl)
    cases er
    exact h0
theorem wk {l r:List Int} {b:Int} (h:b∈l):fx (l++r) b=fx l b:=by
 have hl:fx l b<l.length:=Fx ⟨b,h,by simp⟩
 unfold fx at*
 rw[List.findIdx_append,if_pos hl]
theorem Aq {l:List Int} {b:Int} (h:b∉l):fx (l++[b]) b=l.length:=by
 have hl:¬fx l b<l.length:=fun z=>by
  have:=List.findIdx_getElem (xs:=l) (p:=fun y=>decide (y=b)) (w:=z)
  exact h (by rw[<- of_decide_eq_true this];exact El _)
 unfold fx at*
 rw[List.findIdx_append,if_neg hl]
 simp[List.findIdx_cons]
theorem jy {l:List Int} {b:Int} (h:b∈l):fx l b<l.length:=Fx ⟨b,h,by simp⟩
theorem wm {P:List Int->Prop} (h0:P []) (hs:∀l x,P l->P (l++[x])) (l:List Int):P l:=by
 have:∀n,∀l:List Int,l.length=n->P l:=fun n=>by
  induction n with
  | zero=>intro l h;rw[Fo.mp h];exact h0
  | succ n ih=>
   intro l h
   have e:l=l.dropLast++[l.getLast (by intro z;rw[z]at h;simp at h)]:=(F6 _).symm
   rw[e]
   exact hs _ _ (ih _ (by rw[List.length_dropLast];omega))
 exact this _ l rfl
section
variable {X:Cx}
end
def vf (hs:List Int) (b:Int):Nat:=(dd (hs.take (fx hs b))).length
theorem kd (hs:List Int):iO hs=hs.map (vf hs):=by
 apply EN
 ·rw [gC,DI]
 ·intro i h1 h2
  rw[gC]at h1
  have:=nY h1
  rw[DJ (by rw[gC];exact h1)]at this
  rw[Option.some.inj this,E6]
  unfold qJ vf
  rw[aH h1]
theorem wq {hs:List Int} {a b:Int} (ha:a∈hs) (h:fx hs a<fx hs b):vf hs a<vf hs b:=by
 have na:a∉hs.take (fx hs a):=fun m=>by
  obtain⟨i,hi,e⟩:=Ef.mp m
  rw[EA]at hi
  rw[F0]at e
  exact zy (show i<fx hs a by omega) (by rw[DJ (by omega),e])
 have ma:a∈hs.take (fx hs b):=by
  have hl:=jy ha
  have e:=mW ha
  rw[DJ hl]at e
  rw[Ef]
  exact⟨fx hs a,by rw[EA];omega,by rw[F0];exact Option.some.inj e⟩
 have nd:(dd (hs.take (fx hs a))++[a]).Nodup:=gv (iM _) fun z=>na (aZ.mp z)
 have:=nd.length_le_of_subset (l₂:=dd (hs.take (fx hs b))) fun x hx=>by
  rcases Eg.mp hx with z | z
  ·refine aZ.mpr ?_
   have hx':=aZ.mp z
   have:hs.take (fx hs a)=(hs.take (fx hs b)).take (fx hs a):=by rw[Gj,Fg (by omega)]
   rw[this]at hx'
   exact FM hx'
  ·rw [DV.mp z];exact aZ.mpr ma
 rw[DX,Ec]at this
 exact this
theorem sJ {hs:List Int} {a b:Int} (ha:a∈hs) (hb:b∈hs) (h:vf hs a=vf hs b):a=b:=by
 rcases FK (fx hs a) (fx hs b)with z | z | z
 ·have:=wq ha z;omega
 ·have e1:=mW ha
  have e2:=mW hb
  rw[z,e2]at e1
  exact(Option.some.inj e1).symm
 ·have:=wq hb z;omega
theorem qL {g:Int->Int} (l:List Int):(∀x∈l,∀y∈l,g x=g y->x=y)->(dd (l.map g)).length=(dd l).length:=by
 refine wm (P:=fun l=>(∀x∈l,∀y∈l,g x=g y->x=y)->(dd (l.map g)).length=(dd l).length) (fun _=>rfl) (fun l x ih hi=>?_) l
 have ih:=ih fun a ha b hb=>hi a (Es _ ha) b (Es _ hb)
 rw[DY,En,FW,gA,gA]
 unfold cM
 by_cases hx:x∈l
 ·rw [if_pos (aZ.mpr (DZ.mpr ⟨x,hx,rfl⟩)),if_pos (aZ.mpr hx),ih]
 ·have hg:g x∉l.map g:=fun m=>by
   obtain⟨y,hy,e⟩:=DZ.mp m
   have:=hi y (Es _ hy) x (by simp) e
   exact hx (by rw[<- this];exact hy)
  rw[if_neg fun z=>hg (aZ.mp z),if_neg fun z=>hx (aZ.mp z),DX,DX,ih]
  rfl
theorem wu (hs:List Int):(dd ((iO hs).map fun(i:Nat)=>(i:Int))).length=(dd hs).length:=by
 have e:(iO hs).map (fun(i:Nat)=>(i:Int))=hs.map fun b=>((vf hs b:Nat):Int):=by rw[kd,Eu];rfl
 rw[e]
 exact qL hs fun x hx y hy h=>sJ hx hy (by omega)
theorem kW {hs:List Int} {k:Nat} (h:k<=hs.length):iO (hs.take k)=(iO hs).take k:=by
 rw[kd,kd,<- FQ]
 apply Fb
 intro b hb
 have e:fx (hs.take k) b=fx hs b:=by
  have:=wk (r:=hs.drop k) hb
  rw[Fs]at this
  exact this.symm
 unfold vf
 rw[e,Gj,Fg]
 have:=jy hb
 rw[EA]at this
 omega
theorem Ar {hs:List Int} {k:Nat} (h:k<hs.length):qJ hs k<=(dd (hs.take k)).length:=by
 unfold qJ
 refine(iM _).length_le_of_subset fun x hx=>aZ.mpr ?_
 have hx:=aZ.mp hx
 have fl:=BF h
 have:hs.take (fx hs (hs.getD k 0))=(hs.take k).take (fx hs (hs.getD k 0)):=by rw[Gj,Fg fl]
 rw[this]at hx
 exact FM hx
theorem ux {K:PySem.W.Frag} {H:Hp} {d:Nat} {a b:Addr} {ps qs:List Int} (h1:SqL K H a (ps.map V.int)) (h2:SqL K H b (qs.map V.int)):DEq K H (d+1) (.ref a) (.ref b) (decide (ps=qs)):=by
 by_cases hl:ps.length=qs.length
 ·have q:=DEq.lst (d:=d) (e:=fun j=>ps.getD j 0==qs.getD j 0) h1 h2 (by rw[DI,DI];exact hl) fun j x y ex ey=>by
   rw[DM]at ex ey
   obtain⟨p,e1,e2⟩:=DO.mp ex
   obtain⟨r,e3,e4⟩:=DO.mp ey
   subst e2 e4
   have g1:ps.getD j 0=p:=by rw[DK,e1];rfl
   have g2:qs.getD j 0=r:=by rw[DK,e3];rfl
   rw[g1,g2]
   exact DEq.flat (x:= .int p) (y:= .int r) rfl rfl
  have e:((DR (ps.map V.int).length).all fun j=>ps.getD j 0==qs.getD j 0)=decide (ps=qs):=by
   rw[DI,Fv,ED,decide_eq_true_iff]
   constructor
   ·intro h
    apply EN hl
    intro j h1 h2
    have:=h j (Ee.mpr h1)
    rw[aH h1,aH h2]at this
    simpa using this
   ·intro h j _
    rw[h];simp
  rw[e]at q
  exact q
 ·have q:=DEq.len (d:=d) h1 h2 (by rw[DI,DI];exact hl)
  rw[decide_eq_false fun z=>hl (by rw[z])]
  exact q
section
variable {X:Cx} {tg l:Expr} {tl:TE}
def CN (K:PySem.W.Frag) (tl:TE):TI:=fun σ H R=>tl σ H fun x H1=>∃a,x= .ref a/\((∃xs,SqL K H1 a xs)/\R (oI K a) H1\/(∃xs,SqT K H1 a xs)/\R (zo K a) H1)
theorem Di (K:PySem.W.Frag) (hl:PE X l tl) (h:X.K=K:=by rfl):PI X tg l (CN K tl):=by
 subst h
 intro pins s σ H R I h
 refine bF (hl pins s σ H _ I h) fun v s1 hq__=>?_
 obtain⟨x,H1,I1,r1,q1⟩:=hq__
 obtain⟨a,e,q1⟩:=q1
 subst e
 cases r1
 rcases q1 with⟨⟨xs,hq⟩,q⟩ | ⟨⟨xs,hq⟩,q⟩
 ·obtain⟨its,rv,p,hz⟩:=I1.list hq
  refine wpAny_pyIter_list p.isList ?_
  refine⟨s1.heap.objs.size,[s1.heap.objs.size],_,_,H1,rfl,I1.kept (t':=s1.toks) fun b o e=>Heap.get?_push_of_some _ e,mH a _,⟨_,Heap.get?_push_size _ rfl,rfl,rfl⟩,fun b hb=>?_,q⟩
  have e:b=s1.heap.objs.size:=by simpa using hb
  subst e
  exact I1.fpOk (DS _) (I1.hok.fresh (DS _))
 ·obtain⟨its,rv,p,hz⟩:=I1.tuple hq
  refine wpAny_pyIter_tuple (show s1.heap.IsTuple a its.toArray from p) ?_
  refine⟨s1.heap.objs.size,[s1.heap.objs.size],_,_,H1,rfl,I1.kept (t':=s1.toks) fun b o e=>Heap.get?_push_of_some _ e,kA a _,⟨_,Heap.get?_push_size _ rfl,rfl,rfl⟩,fun b hb=>?_,q⟩
  have e:b=s1.heap.objs.size:=by simpa using hb
  subst e
  exact I1.fpOk (DS _) (I1.hok.fresh (DS _))
end
theorem dt {st:List Nat} {j:Nat} {x:V} (hx:(st.map fun(i:Nat)=>V.int (i:Int))[j]?=some x):∃d:Nat,st[j]?=some d/\x=V.int (d:Int)/\st.getD j 0=d:=by
 rw[DM]at hx
 obtain⟨b,h1,h2⟩:=DO.mp hx
 exact⟨b,h1,h2.symm,by rw[DK,h1];rfl⟩
theorem As {d n:Nat}:decide (d<n)=decide ((d:Int)<(n:Int)):=by
 by_cases z:d<n
 ·rw [decide_eq_true z,decide_eq_true (by omega)]
 ·rw [decide_eq_false z,decide_eq_false (by omega)]
theorem nZ {hs:List Int} {st:List Nat}:((DR (st.map fun(i:Nat)=>V.int (i:Int)).length).filter fun _=>true).map (fun j=>V.int (hs.getD (st.getD j 0) 0))=(st.map fun i=>hs.getD i 0).map V.int:=by
 rw[EU.mpr (fun _ _=>rfl),DI]
 apply EN
 ·simp
 ·intro j h1 h2
  simp only[DI,Ew]at h1
  have:st.getD j 0=st[j]:=by simp only[DK,DJ h1,Option.getD_some]
  simp only[E6,FA,this]
section
variable {X:Cx}
end
theorem pd {J:It} {H1:Hp} {js:List (Option Nat)} {σ:L2.St} {te:TE} {Q:VK} (n:Nat) (item:Nat->V) (P:Addr->List V->Hp->Prop) (hn:n<100000)
  (mono:∀acc ys H H',P acc ys H->SameBut acc H H'->P acc ys H') (h0:∀acc H,P acc [] H)
  (hgo:∀i H,i<n->Same H1 H->J.go i H) (hst:∀H,Same H1 H->J.stop n H) (hy:∀i H x H',i<n->Same H1 H->J.yld i H x H'->H'=H/\x=item i)
  (he:∀acc i ys H2 R,i<n->Same H1 H2->H1 acc=none->H2 acc=some (.lst ys)->ys.length=i->P acc ys H2->(∀v H3,Same H2 H3->P acc (ys++[v]) H3->R v H3)->te (some (item i) :: bN σ js) H2 R)
  (hQ:∀acc ys H',Same H1 H'->H1 acc=none->H' acc=some (.lst ys)->ys.length=n->P acc ys H'->Q (.ref acc) H'):
  cF J H1 (none :: js) (bS 0) gY te σ Q:=by
 intro acc hacc
 refine⟨fun i m ys H=>m=n-i/\i<=n/\Same H1 H/\H acc=some (.lst ys)/\ys.length=i/\P acc ys H,⟨n,by simp,Eo _,Same.new hacc,ae,rfl,h0 _ _⟩,?_⟩
 rintro i m ys H ⟨rfl,hi,s1,ha,hl,hp⟩
 by_cases hlt:i<n
 ·refine .inr ⟨hgo i H hlt s1,fun ys' H'=>i<n/\Same H1 H'/\H' acc=some (.lst ys')/\ys'.length=i+1/\P acc ys' H',fun ys' H' ⟨z,a,b,c,d⟩=>⟨n-(i+1),EO _ _ hlt,rfl,hlt,a,b,c,d⟩,fun x H' y=>?_⟩
  obtain⟨rfl,rfl⟩:=hy i H x H' hlt s1 y
  refine⟨vO,⟨fun _=>?_,fun hb=>by cases hb⟩⟩
  refine he acc i ys _ _ hlt s1 hacc ha hl hp fun v H3 s3 pv=>?_
  refine⟨s3 _ _ ha,kb (by omega),hlt,(s1.trans s3).put hacc,ae,by rw[DX,Ec,hl],?_⟩
  exact mono acc _ _ _ pv SameBut.upd
 ·have e:i=n:=Ff hi (E5 hlt)
  subst e
  exact .inl ⟨hst H s1,hQ acc ys H s1 hacc ha hl hp⟩
theorem je {K:PySem.W.Frag} {H1:Hp} {js:List (Option Nat)} {σ:L2.St} {te:TE} {Q:VK} {a:Addr} {xs:List V} (P:Addr->List V->Hp->Prop) (hl:SqL K H1 a xs) (hn:xs.length<100000)
  (mono:∀acc ys H H',P acc ys H->SameBut acc H H'->P acc ys H') (h0:∀acc H,P acc [] H)
  (he:∀acc (i:Nat) x ys H2 R,xs[i]?=some x->Same H1 H2->H1 acc=none->H2 acc=some (.lst ys)->ys.length=i->P acc ys H2->(∀v H3,Same H2 H3->P acc (ys++[v]) H3->R v H3)->te (some x :: bN σ js) H2 R)
  (hQ:∀acc ys H',Same H1 H'->H1 acc=none->H' acc=some (.lst ys)->ys.length=xs.length->P acc ys H'->Q (.ref acc) H'):
  cF (oI K a) H1 (none :: js) (bS 0) gY te σ Q:=
 pd (J:=oI K a) (H1:=H1) (js:=js) (σ:=σ) (te:=te) (Q:=Q) xs.length (fun i=>xs.getD i .non) P hn mono h0
  (fun i H h s=>⟨xs,xs[i],s.seq hl,by simp[h]⟩) (fun H s=>⟨xs,s.seq hl,DS _⟩)
  (fun i H x H' h s y=>⟨y.1,by have e:=y.2 xs (s.seq hl);simp[e]⟩)
  (fun acc i ys H2 R h s n1 n2 ln p k=>he acc i _ ys H2 R (by simp[h]) s n1 n2 ln p k) hQ
theorem mX {H1:Hp} {js:List (Option Nat)} {σ:L2.St} {te:TE} {Q:VK} {n:Nat} (P:Addr->List V->Hp->Prop) (hn:n<100000)
  (mono:∀acc ys H H',P acc ys H->SameBut acc H H'->P acc ys H') (h0:∀acc H,P acc [] H)
  (he:∀acc (i:Nat) ys H2 R,i<n->Same H1 H2->H1 acc=none->H2 acc=some (.lst ys)->ys.length=i->P acc ys H2->(∀v H3,Same H2 H3->P acc (ys++[v]) H3->R v H3)->te (some (.int (0+(i:Int))) :: bN σ js) H2 R)
  (hQ:∀acc ys H',Same H1 H'->H1 acc=none->H' acc=some (.lst ys)->ys.length=n->P acc ys H'->Q (.ref acc) H'):
  cF (rG 0 n) H1 (none :: js) (bS 0) gY te σ Q:=
 pd (J:=rG 0 n) (H1:=H1) (js:=js) (σ:=σ) (te:=te) (Q:=Q) n (fun i=> .int (0+(i:Int))) P hn mono h0
  (fun _ _ h _=>h) (fun _ _=>DS _) (fun _ _ _ _ _ _ y=>y) he hQ
theorem wx {i j:Int}:decide (i=j)=decide (V.int i=V.int j):=by
 by_cases z:i=j
 ·simp [z]
 ·simp [z]
theorem bf {ns:List Int} {j:Nat} (h:j<ns.length):mM (ns.map V.int) (j:Int)=some (.int (ns.getD j 0)):=b9 (by simp[h])
def RowsL (H:Hp) (rs:List Addr) (ps:List (List Int)):Prop:=Paired (fun r p=>H r=some (.lst (p.map V.int))) rs ps
theorem RowsL.len {H:Hp} {rs:List Addr} {ps:List (List Int)} (h:RowsL H rs ps):rs.length=ps.length:=Paired.length h
theorem RowsL.same {H H':Hp} {rs:List Addr} {ps:List (List Int)} (h:RowsL H rs ps) (s:Same H H'):RowsL H' rs ps:=Paired.mapP h fun _ _ q=>s _ _ q
theorem RowsL.pools {K:PySem.W.Frag} {H:Hp} {rs:List Addr} {ps:List (List Int)} (h:RowsL H rs ps):PoolsL K H rs ps:=Paired.mapP h fun _ _ q=>SqL.of q
theorem RowsL.at {H:Hp} {rs:List Addr} {ps:List (List Int)} (h:RowsL H rs ps) {i:Nat} {p:List Int} (e:ps[i]?=some p):∃r,rs[i]?=some r/\H r=some (.lst (p.map V.int)):=bJ (F:=fun(r:Addr) (p:List Int)=>H r=some (.lst (p.map V.int))) h e
theorem RowsL.get {H:Hp} {rs:List Addr} {ps:List (List Int)} (h:RowsL H rs ps) {i:Nat} {r:Addr} (e:rs[i]?=some r):∃p,ps[i]?=some p/\H r=some (.lst (p.map V.int)):=by
 have hi:i<ps.length:=by rw[<- h.len];exact(DN.mp e).1
 obtain⟨r',e1,e2⟩:=h.at (DJ hi)
 rw[e]at e1
 cases e1
 exact⟨_,DJ hi,e2⟩
theorem RowsL.of {H:Hp} {rs:List Addr} {ps:List (List Int)} (hl:rs.length=ps.length) (h:∀(i:Nat) r p,rs[i]?=some r->ps[i]?=some p->H r=some (.lst (p.map V.int))):RowsL H rs ps:=ui hl h
structure TieT (H:Hp) (x:Addr×Addr×Str×Int×List Nat):Prop where
 tp:H x.1=some (.tup [.str x.2.2.1,.int x.2.2.2.1,.ref x.2.1])
 ts:H x.2.1=some (.tup (x.2.2.2.2.map fun(i:Nat)=>V.int (i:Int)))
 wd:x.2.2.1="most"\/x.2.2.1="least"
 sl:x.2.2.2.2.length<=6
theorem TieT.same {H H':Hp} {x:Addr×Addr×Str×Int×List Nat} (h:TieT H x) (s:Same H H'):TieT H' x:=⟨s _ _ h.tp,s _ _ h.ts,h.wd,h.sl⟩
structure TieG (n:Nat) (x:Addr×Addr×Str×Int×List Nat):Prop where
 k1:1<=x.2.2.2.1
 k6:x.2.2.2.1<=6
 ne:x.2.2.2.2≠[]
 lt:∀i∈x.2.2.2.2,i<n
 up:x.2.2.2.2.Pairwise (· < ·)
structure Ties (K:PySem.W.Frag) (H:Hp) (b:Addr) (ts:List (Addr×Addr×Str×Int×List Nat)) (n:Nat):Prop where
 ls:SqL K H b (ts.map fun x=>V.ref x.1)
 ea:∀x∈ts,TieT H x
 ln:ts.length<=n
def mz (f:Nat->Int) (n:Nat) (ts:List (Addr×Addr×Str×Int×List Nat)):Option Nat:=ts.findIdx? fun x=>brk f n x.2.2.1 x.2.2.2.1 x.2.2.2.2
def BG:Option Nat->V
 | none=> .non
 | some i=> .int ((i:Nat):Int)
structure Drawn (H:Hp) (l m L T:Addr) (ms:List Int) (rs:List Addr) (ps:List (List Int)) (ts:List (Addr×Addr×Str×Int×List Nat)) (top:Nat):Prop where
 hl:H l=some (.lst [.ref m,.ref L,.ref T])
 hm:H m=some (.lst (ms.map V.int))
 hL:H L=some (.lst (rs.map V.ref))
 hT:H T=some (.lst (ts.map fun x=>V.ref x.1))
 rows:RowsL H rs ps
 mup:ms.Pairwise (· < ·)
 mne:ms≠[]
 m8:ms.length<=8
 mb:∀b∈ms,1<=b/\b<=10^18
 pup:∀p∈ps,p.Pairwise (· < ·)
 psub:∀p∈ps,∀b∈p,b∈ms
 p1:1<=ps.length
 ptop:ps.length<=top
 p6:ps.length<=6
 tea:∀x∈ts,TieT H x
 tg:∀x∈ts,TieG ps.length x
 t12:ts.length<=12
theorem zz {l r:List Int} (h:∀x∈l,x∈r):(dd l).length<=(dd r).length:=(iM l).length_le_of_subset fun x hx=>aZ.mpr (h x (aZ.mp hx))
theorem yt {f:Nat->Int} {A st:List Nat} (h:∀i∈A,i∈st):gB f A<=gB f st:=zz fun x hx=>by
 obtain⟨i,hi,e⟩:=DZ.mp hx
 exact DZ.mpr ⟨i,h i hi,e⟩
theorem uy {P:List Nat->Prop} (h0:P []) (hs:∀l x,P l->P (l++[x])) (l:List Nat):P l:=by
 have:∀n (l:List Nat),l.length=n->P l:=by
  intro n
  induction n with
  | zero=>intro l e;rw[Fo.mp e];exact h0
  | succ n ih=>
   intro l e
   have hne:l≠[]:=fun z=>by rw[z]at e;simp at e
   rw[<- F6 hne]
   exact hs _ _ (ih _ (by rw[List.length_dropLast,e];rfl))
 exact this _ l rfl
theorem n5 {f g:Nat->Int} (A:List Nat):(∀i∈A,∀j∈A,f i=f j<->g i=g j)->gB f A=gB g A:=by
 refine uy (P:=fun A=>(∀i∈A,∀j∈A,f i=f j<->g i=g j)->gB f A=gB g A) (fun _=>rfl) (fun l x ih h=>?_) A
 have ih':=ih fun i hi j hj=>h i (Es _ hi) j (Es _ hj)
 rw[o9,o9,ih']
 have e:f x∈l.map f<->g x∈l.map g:=by
  constructor
  ·intro m
   obtain⟨i,hi,e⟩:=DZ.mp m
   exact DZ.mpr ⟨i,hi,(h i (Es _ hi) x (by simp)).mp e⟩
  ·intro m
   obtain⟨i,hi,e⟩:=DZ.mp m
   exact DZ.mpr ⟨i,hi,(h i (Es _ hi) x (by simp)).mpr e⟩
 by_cases z:f x∈l.map f
 ·rw [if_pos z,if_pos (e.mp z)]
 ·rw [if_neg z,if_neg fun y=>z (e.mpr y)]
theorem wy {st:List Nat} {p:Nat->Bool}:(st.filter p).length+(st.filter fun i=> !p i).length=st.length:=by
 induction st with
 | nil=>rfl
 | cons x r ih=>
  by_cases h:p x=true
  ·simp [h];omega
  ·have h':p x=false:=by simpa using h
   simp[h'];omega
theorem yu {f:Nat->Int} {st:List Nat} {p:Nat->Bool}:gB f st+(st.filter p).length<=gB f (st.filter p)+st.length:=by
 have:=(iM (st.map f)).length_le_of_subset (l₂:=dd ((st.filter p).map f)++(st.filter fun i=> !p i).map f) fun x hx=>by
  obtain⟨i,hi,e⟩:=DZ.mp (aZ.mp hx)
  by_cases h:p i=true
  ·exact Es _ (aZ.mpr (DZ.mpr ⟨i,Ej.mpr ⟨hi,h⟩,e⟩))
  ·exact Eh _ (DZ.mpr ⟨i,Ej.mpr ⟨hi,by simpa using h⟩,e⟩)
 rw[DX,DI]at this
 have:=wy (st:=st) (p:=p)
 unfold gB
 omega
def kp (f:Nat->Int) (wd:Str) (k:Int) (st:List Nat):Bool:=if wd="most" then decide (((gB f st:Nat):Int)<=k)else decide (k<=((gB f st:Nat):Int))
theorem yw {f g:Nat->Int} {n:Nat} {wd:Str} {k:Int} {st:List Nat} (h:∀i,i<n->∀j,j<n->(f i=f j<->g i=g j)):brk f n wd k st=brk g n wd k st:=by
 unfold brk
 have e:gB f (st.filter fun i=>decide (i<n))=gB g (st.filter fun i=>decide (i<n)):=n5 _ fun i hi j hj=>h i (of_decide_eq_true (Ej.mp hi).2) j (of_decide_eq_true (Ej.mp hj).2)
 rw[e]
theorem n6 {hs:List Int} {i:Nat} (h:i<hs.length):((iO hs).map fun(i:Nat)=>(i:Int)).getD i 0=(vf hs (hs.getD i 0):Int):=by
 rw[kd,Eu]
 simp[h,DK]
theorem kX {hs:List Int} {i j:Nat} (hi:i<hs.length) (hj:j<hs.length):((iO hs).map fun(i:Nat)=>(i:Int)).getD i 0=((iO hs).map fun(i:Nat)=>(i:Int)).getD j 0<->hs.getD i 0=hs.getD j 0:=by
 rw[n6 hi,n6 hj]
 constructor
 ·intro h
  exact sJ (by rw[aH hi];exact El hi) (by rw[aH hj];exact El hj) (by omega)
 ·intro h;rw[h]
theorem Au {f:Nat->Int} {n:Nat} {wd:Str} {k:Int} {st:List Nat} (h:brk f n wd k st=true):kp f wd k st=false:=by
 unfold brk at h
 unfold kp
 by_cases z:wd="most"
 ·rw [if_pos z]at h ⊢
  have h:=of_decide_eq_true h
  have:=yt (f:=f) (A:=st.filter fun i=>decide (i<n)) (st:=st) fun i hi=>(Ej.mp hi).1
  exact decide_eq_false (by omega)
 ·rw [if_neg z]at h ⊢
  have h:=of_decide_eq_true h
  have:=yu (f:=f) (st:=st) (p:=fun i=>decide (i<n))
  exact decide_eq_false (by omega)
theorem uz {f:Nat->Int} {n:Nat} {wd:Str} {k:Int} {st:List Nat} (h:∀i∈st,i<n):brk f n wd k st= !kp f wd k st:=by
 have e:st.filter (fun i=>decide (i<n))=st:=EU.mpr fun i hi=>decide_eq_true (h i hi)
 unfold brk kp
 rw[e]
 by_cases z:wd="most"
 ·rw [if_pos z,if_pos z]
  by_cases y:k<(gB f st:Int)
  ·rw [decide_eq_true y,decide_eq_false (by omega)];rfl
  ·rw [decide_eq_false y,decide_eq_true (by omega)];rfl
 ·rw [if_neg z,if_neg z]
  by_cases y:k<=(gB f st:Int)
  ·rw [decide_eq_false (by omega),decide_eq_true y];rfl
  ·rw [decide_eq_true (by omega),decide_eq_false y];rfl
theorem Av {f g:Nat->Int} {n:Nat} {wd:Str} {k:Int} {st:List Nat} (hl:∀i∈st,i<n) (h:∀i,i<n->∀j,j<n->(f i=f j<->g i=g j)):kp f wd k st=kp g wd k st:=by
 unfold kp
 rw[n5 st fun i hi j hj=>h i (hl i hi) j (hl j hj)]
theorem yx {hs os:List Int} (hl:hs.length=os.length) (h:∀i,i<hs.length->∀j,j<hs.length->(hs.getD i 0=hs.getD j 0<->os.getD i 0=os.getD j 0)) {k:Nat} (hk:k<hs.length):qJ hs k=qJ os k:=by
 have hk':k<os.length:=by omega
 have mh:hs.getD k 0∈hs:=by rw[aH hk];exact El hk
 have mo:os.getD k 0∈os:=by rw[aH hk'];exact El hk'
 have ef:fx hs (hs.getD k 0)=fx os (os.getD k 0):=by
  have a1:=jy mh
  have a2:=jy mo
  have b1:=mW mh
  have b2:=mW mo
  have c1:hs.getD (fx hs (hs.getD k 0)) 0=hs.getD k 0:=by rw[DK,b1];rfl
  have c2:os.getD (fx os (os.getD k 0)) 0=os.getD k 0:=by rw[DK,b2];rfl
  have d1:=(h _ a1 _ hk).mp c1
  have d2:=(h _ (by omega) _ hk).mpr c2
  have g1:∀m,m<fx os (os.getD k 0)->os.getD m 0≠os.getD k 0:=fun m hm e=>by
   have:=FE hm
   rw[aH (by omega:m<os.length)]at e
   simp at this
   exact this (by rw[e,DK])
  have g2:∀m,m<fx hs (hs.getD k 0)->hs.getD m 0≠hs.getD k 0:=fun m hm e=>by
   have:=FE hm
   rw[aH (by omega:m<hs.length)]at e
   simp at this
   exact this (by rw[e,DK])
  rcases FK (fx hs (hs.getD k 0)) (fx os (os.getD k 0))with y | y | y
  ·exact absurd d1 (g1 _ y)
  ·exact y
  ·exact absurd d2 (g2 _ y)
 have el:∀n,n<=hs.length->(dd (hs.take n)).length=(dd (os.take n)).length:=fun n hn=>by
  have e1:∀(l:List Int),n<=l.length->l.take n=(DR n).map fun i=>l.getD i 0:=fun l hl'=>by
   apply EN
   ·simp;omega
   ·intro i h1 h2
    simp only[EA]at h1
    have:i<l.length:=by omega
    simp[this]
  have u:=n5 (f:=fun i=>hs.getD i 0) (g:=fun i=>os.getD i 0) (DR n) fun i hi j hj=>h i (by have:=Ee.mp hi;omega) j (by have:=Ee.mp hj;omega)
  unfold gB at u
  rw[<- e1 hs hn,<- e1 os (by omega)]at u
  exact u
 unfold qJ
 rw[<- ef]
 exact el _ (ET (jy mh))
theorem qM {hs os:List Int} (hl:hs.length=os.length):iO hs=iO os<->∀i,i<hs.length->∀j,j<i->(hs.getD i 0=hs.getD j 0<->os.getD i 0=os.getD j 0):=by
 constructor
 ·intro e i hi j hj
  rw[<- kX hi (by omega),<- kX (hs:=os) (by omega) (by omega),e]
 ·intro h
  have h':∀i,i<hs.length->∀j,j<hs.length->(hs.getD i 0=hs.getD j 0<->os.getD i 0=os.getD j 0):=fun i hi j hj=>by
   rcases FK i j with y | y | y
   ·have:=h j hj i y
    exact⟨fun e=>(this.mp e.symm).symm,fun e=>(this.mpr e.symm).symm⟩
   ·subst y;simp
   ·exact h i hi j y
  unfold iO
  rw[<- hl]
  exact Fb fun k hk=>yx hl h' (Ee.mp hk)
theorem ph (l:List Int) (x:Int):(dd (l++[x])).length=if x∈l then(dd l).length else(dd l).length+1:=by
 rw[gA]
 unfold cM
 by_cases h:x∈l
 ·rw [if_pos h,if_pos (aZ.mpr h)]
 ·rw [if_neg h,if_neg fun z=>h (aZ.mp z),DX,Ec]
def cA (p:List Int):Prop:=p=(iO p).map fun(i:Nat)=>(i:Int)
theorem Aw {hs:List Int} {k:Nat} (h:k<hs.length):qJ hs k<(dd hs).length:=by
 unfold qJ
 have m:hs.getD k 0∈hs:=by rw[aH h];exact El h
 have a:=jy m
 have nm:hs.getD k 0∉hs.take (fx hs (hs.getD k 0)):=fun z=>by
  obtain⟨i,hi,e⟩:=Ef.mp z
  rw[EA]at hi
  have:=FE (show i<fx hs (hs.getD k 0) by omega)
  rw[F0]at e
  simp at this
  exact this (by rw[e,DK])
 have e:=ph (hs.take (fx hs (hs.getD k 0))) (hs.getD k 0)
 rw[if_neg nm]at e
 have:=zz (l:=hs.take (fx hs (hs.getD k 0))++[hs.getD k 0]) (r:=hs) fun x hx=>by
  rcases Eg.mp hx with z | z
  ·exact FM z
  ·rw [DV.mp z];exact m
 omega
theorem wz (p:List Int) (x:Int):iO (p++[x])=iO p++[if x∈p then vf p x else(dd p).length]:=by
 have h1:(iO (p++[x])).take p.length=iO p:=by
  rw[<- kW (by simp),List.take_left'];rfl
 have h2:(iO (p++[x]))[p.length]?=some (qJ (p++[x]) p.length):=nY (by simp)
 have e:iO (p++[x])=(iO (p++[x])).take p.length++[qJ (p++[x]) p.length]:=by
  have hlen:(iO (p++[x])).length=p.length+1:=by rw[gC];simp
  conv=>lhs;rw[<- Fs p.length (iO (p++[x]))]
  congr 1
  apply Ge
  intro i
  rw[List.getElem?_drop]
  cases i with
  | zero=>rw[Nat.add_zero,h2];rfl
  | succ i=>
   rw[EG (by omega)]
   simp
 rw[e,h1]
 congr 2
 have eg:(p++[x]).getD p.length 0=x:=by simp[DK]
 unfold qJ
 rw[eg]
 by_cases z:x∈p
 ·rw [if_pos z,wk z]
  unfold vf
  rw[List.take_append_of_le_length (ET (jy z))]
 ·rw [if_neg z,Aq z,List.take_left'];rfl
theorem uA {p:List Int} (c:cA p) {j:Nat} (h:(j:Int)∈p):vf p (j:Int)=j:=by
 obtain⟨i,hi,e⟩:=Ef.mp h
 have g:=n6 hi
 rw[<- c,aH hi,e]at g
 omega
theorem gE {p:List Int} (c:cA p) {x:Int} (h:x∈p):∃j:Nat,x=(j:Int)/\j<(dd p).length:=by
 rw[c]at h
 obtain⟨j,hj,e⟩:=DZ.mp h
 obtain⟨i,hi,e2⟩:=Ef.mp hj
 rw[gC]at hi
 have g:=nY hi
 rw[DJ (by rw[gC];exact hi),e2]at g
 have:=Aw hi
 refine⟨j,e.symm,?_⟩
 have:j=qJ p i:=Option.some.inj g
 omega
theorem eO {p:List Int} (c:cA p) {j:Nat} (h:j<(dd p).length):(j:Int)∈p:=by
 refine Decidable.byContradiction fun n=>?_
 have:=(iM p).length_le_of_subset (l₂:=((DR (dd p).length).filter fun i=>decide (i≠j)).map fun(i:Nat)=>(i:Int)) fun x hx=>by
  have hx:=aZ.mp hx
  obtain⟨i,e,hi⟩:=gE c hx
  refine DZ.mpr ⟨i,Ej.mpr ⟨Ee.mpr hi,decide_eq_true fun z=>n ?_⟩,e.symm⟩
  rw[<- z,<- e];exact hx
 rw[DI]at this
 have lt:((DR (dd p).length).filter fun i=>decide (i≠j)).length<(DR (dd p).length).length:=by
  refine Nat.lt_of_le_of_ne (Et _ _) fun z=>?_
  have:=List.length_filter_eq_length_iff.mp z j (Ee.mpr h)
  simp at this
 rw[Ew]at lt
 omega
theorem mY:cA []:=rfl
theorem kY {p:List Int} (c:cA p) {j:Nat} (h:j<=(dd p).length):cA (p++[(j:Int)]):=by
 unfold cA
 rw[wz,DY,<- c]
 congr 1
 by_cases z:(j:Int)∈p
 ·rw [if_pos z,uA c z];rfl
 ·rw [if_neg z]
  have:¬j<(dd p).length:=fun y=>z (eO c y)
  have:j=(dd p).length:=by omega
  rw[this];rfl
def fg (p:List Int) (b:Nat):List Nat:=(DR p.length).filter fun i=>decide (p.getD i 0=(b:Int))
theorem dC {p:List Int} {b i:Nat}:i∈fg p b<->i<p.length/\p.getD i 0=(b:Int):=by
 unfold fg
 rw[Ej,Ee,decide_eq_true_iff]
theorem ke {p:List Int} (c:cA p) {b:Nat} (h:b<(dd p).length):fg p b≠[]:=by
 obtain⟨i,hi,e⟩:=Ef.mp (eO c h)
 intro z
 have:i∈fg p b:=dC.mpr ⟨hi,by rw[aH hi,e]⟩
 rw[z]at this
 cases this
def dS (st:List Nat) (may:List (List Int)):List Int:=(may.getD (st.getD 0 0) []).filter fun x=>st.all fun s=>decide (x∈may.getD s [])
def fT (may:List (List Int)) (p:List Int) (b:Nat):List Int:=dS (fg p b) may
def pools (may:List (List Int)) (p:List Int):List (List Int):=(DR (dd p).length).map (fT may p)
theorem cG {may:List (List Int)} {p:List Int}:(pools may p).length=(dd p).length:=by unfold pools;simp
theorem eP {may:List (List Int)} {p:List Int} {b:Nat} (h:b<(dd p).length):(pools may p)[b]?=some (fT may p b):=by
 unfold pools
 rw[DM,E9 h];rfl
theorem jf {st:List Nat} {may:List (List Int)} {x:Int} (h:st≠[]):x∈dS st may<->∀s∈st,x∈may.getD s []:=by
 unfold dS
 rw[Ej,ED]
 constructor
 ·intro⟨_,a⟩ s hs
  exact of_decide_eq_true (a s hs)
 ·intro a
  refine⟨a _ ?_,fun s hs=>decide_eq_true (a s hs)⟩
  cases st with
  | nil=>exact absurd rfl h
  | cons s r=>simp
theorem jg {may:List (List Int)} {p:List Int} {b:Nat} {x:Int} (c:cA p) (h:b<(dd p).length):x∈fT may p b<->∀i,i<p.length->p.getD i 0=(b:Int)->x∈may.getD i []:=by
 unfold fT
 rw[jf (ke c h)]
 exact⟨fun a i h1 h2=>a i (dC.mpr ⟨h1,h2⟩),fun a s hs=>a s (dC.mp hs).1 (dC.mp hs).2⟩
theorem kZ {st:List Nat} {may:List (List Int)} (h:∀p∈may,p.Pairwise (· < ·)):(dS st may).Pairwise (· < ·):=by
 unfold dS
 refine List.Pairwise.filter _ ?_
 by_cases z:st.getD 0 0<may.length
 ·have:may.getD (st.getD 0 0) []=may[st.getD 0 0]:=by rw[DK,DJ z];rfl
  rw[this]
  exact h _ (El z)
 ·have:may.getD (st.getD 0 0) []=[]:=by rw[DK,EG (by omega)];rfl
  rw[this];exact List.Pairwise.nil
abbrev qf:=Str×Int×List Nat
structure IsPlan (may:List (List Int)) (ts:List qf) (hs:List Int):Prop where
 len:hs.length=may.length
 of:∀i,i<hs.length->hs.getD i 0∈may.getD i []
 kp:∀t∈ts,kp (fun i=>hs.getD i 0) t.1 t.2.1 t.2.2=true
def Beg (p hs:List Int):Prop:=p.length<=hs.length/\((iO hs).map fun(i:Nat)=>(i:Int)).take p.length=p
theorem Beg.at {p hs:List Int} (b:Beg p hs) {i:Nat} (h:i<p.length):((iO hs).map fun(i:Nat)=>(i:Int)).getD i 0=p.getD i 0:=by
 rw[<- congrArg (fun l=>List.getD l i 0) b.2]
 simp[DK,Gb,h]
theorem Beg.same {p hs:List Int} (b:Beg p hs) {i j:Nat} (hi:i<p.length) (hj:j<p.length):p.getD i 0=p.getD j 0<->hs.getD i 0=hs.getD j 0:=by
 rw[<- b.at hi,<- b.at hj]
 exact kX (Em hi b.1) (Em hj b.1)
theorem Beg.canon {p hs:List Int} (b:Beg p hs):cA p:=by
 have e:iO p=(iO hs).take p.length:=by
  rw[<- kW b.1]
  refine(qM (by rw[EA];have:=b.1;omega)).mpr fun i hi j hj=>?_
  have e1:(hs.take p.length).getD i 0=hs.getD i 0:=by simp[DK,Gb,hi]
  have e2:(hs.take p.length).getD j 0=hs.getD j 0:=by simp[DK,Gb,(by omega:j<p.length)]
  rw[e1,e2]
  exact b.same hi (by omega)
 unfold cA
 rw[e,FQ]
 exact b.2.symm
theorem Beg.brk {p hs:List Int} (b:Beg p hs) {wd:Str} {k:Int} {st:List Nat} (h:brk (fun i=>p.getD i 0) p.length wd k st=true):L2.kp (fun i=>hs.getD i 0) wd k st=false:=by
 refine Au (n:=p.length) ?_
 rw[<- h]
 exact yw fun i hi j hj=>(b.same hi hj).symm
theorem Beg.short {may:List (List Int)} {p hs:List Int} (b:Beg p hs) (of:∀i,i<hs.length->hs.getD i 0∈may.getD i []) {ms:List Nat} (s:Short (pools may p) ms):False:=by
 obtain⟨X,hX,hq⟩:=s.few
 have c:=b.canon
 have nd:ms.Nodup:=s.up.imp fun h=>Eb h
 have lt:∀q∈ms,q<(dd p).length:=fun q m=>by
  obtain⟨r,e,_⟩:=hq q m
  have:=(DN.mp e).1
  rw[cG]at this
  exact this
 have fs:∀q∈ms,∃i,i<p.length/\p.getD i 0=(q:Int):=fun q m=>by
  obtain⟨i,hi,e⟩:=Ef.mp (eO c (lt q m))
  exact⟨i,hi,by rw[aH hi,e]⟩
 let f:Nat->Int:=fun q=>hs.getD (fx p (q:Int)) 0
 have fa:∀q∈ms,fx p (q:Int)<p.length/\p.getD (fx p (q:Int)) 0=(q:Int):=fun q m=>by
  have:=eO c (lt q m)
  refine⟨jy this,?_⟩
  rw[DK,mW this];rfl
 have nd2:(ms.map f).Nodup:=by
  rw[EV,Fl]
  refine List.Pairwise.imp_of_mem ?_ (EV.mp nd)
  intro q r hq hr hne e
  obtain⟨a1,a2⟩:=fa q hq
  obtain⟨b1,b2⟩:=fa r hr
  have:=(b.same a1 b1).mpr e
  rw[a2,b2]at this
  omega
 have:=nd2.length_le_of_subset (l₂:=X) fun x hx=>by
  obtain⟨q,m,e⟩:=DZ.mp hx
  obtain⟨r,er,hr⟩:=hq q m
  rw[eP (lt q m)]at er
  cases er
  refine hr x ((jg c (lt q m)).mpr fun i hi ei=>?_)
  obtain⟨a1,a2⟩:=fa q m
  have:p.getD (fx p (q:Int)) 0=p.getD i 0:=by rw[a2,ei]
  have:=(b.same a1 hi).mp this
  have h2:=of i (Em hi b.1)
  rw[<- this]at h2
  rw[<- e]
  exact h2
 rw[DI]at this
 omega
theorem Beg.next {p hs:List Int} (b:Beg p hs) (h:p.length<hs.length):∃j:Nat,j<=(dd p).length/\Beg (p++[(j:Int)]) hs:=by
 have c:=b.canon
 have nl:=Ar (hs:=hs) (k:=p.length) h
 have e:(dd (hs.take p.length)).length=(dd p).length:=by
  have h2:=wu (hs.take p.length)
  rw[kW (by omega),FQ,b.2]at h2
  exact h2.symm
 refine⟨qJ hs p.length,by omega,by simp;omega,?_⟩
 rw[DX,Ec,FJ,b.2]
 congr 1
 rw[DM,nY h];rfl
theorem Beg.nil (hs:List Int):Beg [] hs:=⟨Eo _,rfl⟩
theorem yz {may:List (List Int)} {ts:List qf} {p ds:List Int} (c:cA p) (hl:p.length=may.length) (d:Deal (pools may p) ds) (lt:∀t∈ts,∀i∈t.2.2,i<p.length) (nb:∀t∈ts,brk (fun i=>p.getD i 0) p.length t.1 t.2.1 t.2.2=false):
  IsPlan may ts (p.map fun x=>ds.getD x.toNat 0):=by
 have dl:ds.length=(dd p).length:=by rw[d.len,cG]
 have key:∀i,i<p.length->∃b:Nat,p.getD i 0=(b:Int)/\b<(dd p).length/\(p.map fun x=>ds.getD x.toNat 0).getD i 0=ds.getD b 0:=fun i hi=>by
  obtain⟨b,e,hb⟩:=gE c (x:=p.getD i 0) (by rw[aH hi];exact El hi)
  refine⟨b,e,hb,?_⟩
  have:(p.map fun x=>ds.getD x.toNat 0).getD i 0=ds.getD (p.getD i 0).toNat 0:=by simp[DK,hi]
  rw[this,e,Er]
 refine⟨by rw[DI,hl],fun i hi=>?_,fun t ht=>?_⟩
 ·rw [DI]at hi
  obtain⟨b,e,hb,e2⟩:=key i hi
  rw[e2]
  have h1:b<ds.length:=by omega
  have h2:b<(pools may p).length:=by rw[cG];exact hb
  have:=d.of b h1 h2
  have e3:(pools may p)[b]=fT may p b:=by
   have:=eP (may:=may) hb
   rw[DJ h2]at this
   exact Option.some.inj this
  rw[e3]at this
  rw[aH h1]
  exact(jg c hb).mp this i hi e
 ·have h:=nb t ht
  rw[uz (lt t ht)]at h
  have h:L2.kp (fun i=>p.getD i 0) t.1 t.2.1 t.2.2=true:=by simpa using h
  rw[<- h]
  refine Av (lt t ht) fun i hi j hj=>?_
  obtain⟨b,e,hb,e2⟩:=key i hi
  obtain⟨b',e',hb',e2'⟩:=key j hj
  show(p.map fun x=>ds.getD x.toNat 0).getD i 0=(p.map fun x=>ds.getD x.toNat 0).getD j 0<->p.getD i 0=p.getD j 0
  rw[e2,e2',e,e',aH (by omega:b<ds.length),aH (by omega:b'<ds.length),Fi d.nd]
  omega
inductive Pap where
 | tie (j:Nat)
 | short (bs:List Nat)
 | split (ps:List Pap)
inductive Shows (may:List (List Int)) (ts:List qf):List Int->Pap->Prop where
 | tie {p:List Int} {j:Nat} {t:qf} (h:ts[j]?=some t) (b:brk (fun i=>p.getD i 0) p.length t.1 t.2.1 t.2.2=true):Shows may ts p (.tie j)
 | short {p:List Int} {bs:List Nat} (s:Short (pools may p) bs):Shows may ts p (.short bs)
 | split {p:List Int} {ps:List Pap} (hl:p.length<may.length) (hn:ps.length=(dd p).length+1) (h:∀(j:Nat) (q:Pap),ps[j]?=some q->Shows may ts (p++[(j:Int)]) q):Shows may ts p (.split ps)
theorem Shows.none {may:List (List Int)} {ts:List qf} {p:List Int} {q:Pap} (s:Shows may ts p q):∀hs,Beg p hs->¬IsPlan may ts hs:=by
 induction s with
 | tie h b=>
  intro hs g pl
  have:=pl.kp _ (DQ h)
  rw[g.brk b]at this
  cases this
 | short s=>
  intro hs g pl
  exact g.short pl.of s
 | @split p ps hl hn h ih=>
  intro hs g pl
  obtain⟨j,hj,g2⟩:=g.next (by rw[pl.len];exact hl)
  have hj':j<ps.length:=by omega
  exact ih j ps[j] (DJ hj') hs g2 pl
theorem Shows.noplan {may:List (List Int)} {ts:List qf} {q:Pap} (s:Shows may ts [] q) {hs:List Int}:¬IsPlan may ts hs:=s.none hs (Beg.nil hs)
theorem Ax:∀{l r:List Int},l.Pairwise (· < ·)->r.Pairwise (· < ·)->(∀x,x∈l<->x∈r)->l=r:=by
 intro l
 induction l with
 | nil=>
  intro r _ _ h
  cases r with
  | nil=>rfl
  | cons b r=>have:=(h b).mpr Ei;cases this
 | cons a l ih=>
  intro r hl hr h
  cases r with
  | nil=>have:=(h a).mp Ei;cases this
  | cons b r=>
   rw[List.pairwise_cons]at hl hr
   have e:a=b:=by
    rcases Ed.mp ((h a).mp Ei)with z | z
    ·exact z
    ·rcases Ed.mp ((h b).mpr Ei)with y | y
     ·exact y.symm
     ·exact absurd (Int.lt_trans (hr.1 a z) (hl.1 b y)) (Int.lt_irrefl _)
   subst e
   rw[ih hl.2 hr.2 fun x=>?_]
   constructor
   ·intro hx
    rcases Ed.mp ((h x).mp (Ea _ hx))with z | z
    ·exact absurd (hl.1 x hx) (by rw[z];exact Int.lt_irrefl _)
    ·exact z
   ·intro hx
    rcases Ed.mp ((h x).mpr (Ea _ hx))with z | z
    ·exact absurd (hr.1 x hx) (by rw[z];exact Int.lt_irrefl _)
    ·exact z
def Dj (way:Nat) (x:Int) (F S:List Int):Prop:=if way=0 then x∈F/\x∈S else if way=1 then x∈F\/x∈S else x∈F/\x∉S
theorem n8 {ks:List Int} (h:ks.Pairwise (· <= ·)) (nd:ks.Nodup):ks.Pairwise (· < ·):=
 (h.and (EV.mp nd)).imp fun⟨a,b⟩=>by omega
def BH (H H':Hp) (l:Addr) (way:Nat) (F S ks:List Int):Prop:=Same H H'/\H l=none/\H' l=some (.lst (ks.map V.int))/\ks.Pairwise (· < ·)/\∀x,x∈ks<->Dj way x F S
structure Both (K:PySem.W.Frag) (H:Hp) (a b:Addr) (F S U:List Int):Prop where
 fa:SqL K H a (F.map V.int)
 sb:SqL K H b (S.map V.int)
 pf:F.Pairwise (· < ·)
 ps:S.Pairwise (· < ·)
 fu:∀x∈F,x∈U
 su:∀x∈S,x∈U
 ul:U.length<=60
theorem pj {F:List Int} (h:F.Pairwise (· < ·)):F.Nodup:=h.imp fun h=>Int.ne_of_lt h
theorem Both.l1 {K:PySem.W.Frag} {H:Hp} {a b:Addr} {F S U:List Int} (h:Both K H a b F S U):F.length<=60:=Ek ((pj h.pf).length_le_of_subset h.fu) h.ul
theorem Both.l2 {K:PySem.W.Frag} {H:Hp} {a b:Addr} {F S U:List Int} (h:Both K H a b F S U):S.length<=60:=Ek ((pj h.ps).length_le_of_subset h.su) h.ul
def Dk (K:PySem.W.Frag) (way:Nat):Sp:=fun vs H Q _=>∃(a b:Addr) (F S U:List Int),vs=[.ref a,.ref b]/\Both K H a b F S U/\∀l ks H',BH H H' l way F S ks->Q (.ref l) H'
structure May (K:PySem.W.Frag) (H:Hp) (a:Addr) (rs:List Addr) (may:List (List Int)) (U:List Int):Prop where
 ls:SqL K H a (rs.map V.ref)
 po:PoolsL K H rs may
 up:∀p∈may,p.Pairwise (· < ·)
 sub:∀p∈may,∀b∈p,b∈U
 m6:may.length<=6
 u20:U.length<=26
theorem May.same {K:PySem.W.Frag} {H H':Hp} {a:Addr} {rs:List Addr} {may:List (List Int)} {U:List Int} (m:May K H a rs may U) (s:Same H H'):May K H' a rs may U:=⟨s.seq m.ls,m.po.same s,m.up,m.sub,m.m6,m.u20⟩
theorem May.rows {K:PySem.W.Frag} {H:Hp} {a:Addr} {rs:List Addr} {may:List (List Int)} {U:List Int} (m:May K H a rs may U) {i:Nat} (h:i<may.length):∃r,rs[i]?=some r/\SqL K H r ((may.getD i []).map V.int)/\(may.getD i []).Pairwise (· < ·)/\∀b∈may.getD i [],b∈U:=by
 have e:may.getD i []=may[i]:=bx h
 obtain⟨r,e1,e2⟩:=m.po.at (DJ h)
 rw[e]
 exact⟨r,e1,e2,m.up _ (El h),m.sub _ (El h)⟩
theorem qN {st:List Nat} {may:List (List Int)} {s:Nat} (h:st≠[]) (x:Int):x∈dS (st++[s]) may<->x∈dS st may/\x∈may.getD s []:=by
 rw[jf (by simp),jf h]
 constructor
 ·exact fun a=>⟨fun t ht=>a t (Es _ ht),a s (by simp)⟩
 ·rintro⟨a,b⟩ t ht
  rcases Eg.mp ht with z | z
  ·exact a t z
  ·rw [DV.mp z];exact b
theorem uB {may:List (List Int)} {s:Nat}:dS [s] may=may.getD s []:=by
 unfold dS
 show(may.getD s []).filter _=_
 refine EU.mpr fun x hx=>?_
 simp only[List.all_cons,List.all_nil,Bool.and_true]
 exact decide_eq_true hx
theorem g7 {st:List Int} {j:Nat} {x:V} (hx:(st.map V.int)[j]?=some x):∃d:Int,st[j]?=some d/\x=V.int d/\st.getD j 0=d:=by
 rw[DM]at hx
 obtain⟨b,h1,h2⟩:=DO.mp hx
 exact⟨b,h1,h2.symm,by rw[DK,h1];rfl⟩
theorem zA {x y:Option V} {σ:St}:vL (none :: none :: σ) (x :: y :: σ):=⟨rfl,fun i v e=>by
 cases i with
 | zero=>cases e
 | succ i=>
  cases i with
  | zero=>cases e
  | succ i=>exact e⟩
theorem wA {K:PySem.W.Frag} {H1:Hp} {js:List (Option Nat)} {σ:L2.St} {te:TE} {Q:VK} {a b:Addr} {xs ys:List V} (P:Addr->List V->Hp->Prop) (hl:xs.length=ys.length) (h1:SqL K H1 a xs) (h2:SqL K H1 b ys) (hn:xs.length<100000)
  (mono:∀acc ys H H',P acc ys H->SameBut acc H H'->P acc ys H') (h0:∀acc H,P acc [] H)
  (he:∀acc (i:Nat) x y zs H2 R,xs[i]?=some x->ys[i]?=some y->Same H1 H2->H1 acc=none->H2 acc=some (.lst zs)->zs.length=i->P acc zs H2->(∀v H3,Same H2 H3->P acc (zs++[v]) H3->R v H3)->te (some x :: some y :: bN σ js) H2 R)
  (hQ:∀acc zs H',Same H1 H'->H1 acc=none->H' acc=some (.lst zs)->zs.length=xs.length->P acc zs H'->Q (.ref acc) H'):
  cF (Ap K a b) H1 (none :: none :: js) (tM K 2 (iD (bS 0) (iD (bS 1) vn))) gY te σ Q:=by
 intro acc hacc
 refine⟨fun i m zs H=>m=xs.length-i/\i<=xs.length/\Same H1 H/\H acc=some (.lst zs)/\zs.length=i/\P acc zs H,⟨xs.length,by simp,Eo _,Same.new hacc,ae,rfl,h0 _ _⟩,?_⟩
 rintro i m zs H ⟨rfl,hi,s1,ha,hz,hp⟩
 have w1:=s1.seq h1
 have w2:=s1.seq h2
 by_cases hlt:i<xs.length
 ·have hlt2:i<ys.length:=by omega
  refine .inr ⟨⟨xs,ys,xs[i],ys[i],w1,w2,DJ hlt,DJ hlt2⟩,fun zs' H'=>i<xs.length/\Same H1 H'/\H' acc=some (.lst zs')/\zs'.length=i+1/\P acc zs' H',fun zs' H' ⟨z,a,b,c,d⟩=>⟨xs.length-(i+1),EO _ _ hlt,rfl,hlt,a,b,c,d⟩,fun v H' y=>?_⟩
  obtain⟨q,x,y,hq,e1,e2,e3,e4⟩:=y
  subst e3 e4
  have sq:=Same.new (o:= .tup [x,y]) hq
  refine⟨q,[x,y],rfl,SqT.of ae,rfl,x,[y],rfl,y,[],rfl,rfl,zA,fun _=>?_,fun hb=>by cases hb⟩
  refine he acc i x y zs _ _ (e1 xs w1) (e2 ys w2) (s1.trans sq) hacc (sq _ _ ha) hz (mono _ _ _ _ hp sq.but) fun v H3 s3 pv=>?_
  have s13:=(s1.trans sq).trans s3
  refine⟨s3 _ _ (sq _ _ ha),kb (by omega),hlt,s13.put hacc,ae,by rw[DX,Ec,hz],?_⟩
  exact mono acc _ _ _ pv SameBut.upd
 ·have e:i=xs.length:=Ff hi (E5 hlt)
  subst e
  exact .inl ⟨⟨xs,ys,w1,w2,DS _⟩,hQ acc zs H s1 hacc ha hz hp⟩
theorem uC {K:PySem.W.Frag} {H1:Hp} {js:List (Option Nat)} {σ:L2.St} {te:TE} {Q:VK} {a b:Addr} {xs ys:List V} (f:Nat->List Int) (hl:xs.length=ys.length) (h1:SqL K H1 a xs) (h2:SqL K H1 b ys) (hn:xs.length<100000)
  (he:∀(i:Nat) x y H2 R,xs[i]?=some x->ys[i]?=some y->Same H1 H2->(∀r H3,Same H2 H3->H2 r=none->H3 r=some (.lst ((f i).map V.int))->R (.ref r) H3)->te (some x :: some y :: bN σ js) H2 R)
  (hQ:∀acc rs H',Same H1 H'->H1 acc=none->H' acc=some (.lst (rs.map V.ref))->RowsL H' rs ((DR xs.length).map f)->(∀r∈rs,H1 r=none)->Q (.ref acc) H'):
  cF (Ap K a b) H1 (none :: none :: js) (tM K 2 (iD (bS 0) (iD (bS 1) vn))) gY te σ Q:=
 wA (fun acc zs H=>∃rs:List Addr,zs=rs.map V.ref/\RowsL H rs ((DR rs.length).map f)/\∀r∈rs,H1 r=none/\r≠acc) hl h1 h2 hn
  (fun acc zs H H' ⟨rs,e,p,n⟩ sb=>⟨rs,e,RowsL.of p.len fun i r q e1 e2=>by
   obtain⟨q',g1,g2⟩:=p.get e1
   rw[e2]at g1
   cases g1
   exact sb r _ (n r (DQ e1)).2 g2,n⟩) (fun _ _=>⟨[],rfl,.nil,fun _ z=>by cases z⟩)
  (fun acc i x y zs H2 R ex ey s n1 n2 hz ⟨rs,e,p,n⟩ k=>he i x y H2 R ex ey s fun r H3 s3 nr hr=>k _ H3 s3 ⟨rs++[r],by rw[e,DY];rfl,by
   have el:rs.length=i:=by rw[<- hz,e,DI]
   rw[DX,Ec,E4,DY]
   exact Paired.snoc (p.same s3) (by rw[el];exact hr),fun u hu=>by
   rcases Eg.mp hu with z | z
   ·exact n u z
   ·rw [DV.mp z]
    exact⟨s.free nr,fun y=>by rw[y,n2]at nr;cases nr⟩⟩)
  fun acc zs H' s n e hz ⟨rs,e2,p,al⟩=>by
   subst e2
   rw[DI]at hz
   rw[hz]at p
   exact hQ acc rs H' s n e p fun r hr=>(al r hr).1
def hV:Option Int->V
 | none=> .non
 | some b=> .int b
def k4 (p:List Int):Option Int->List Int
 | none=>p
 | some b=>[b]
def bW (may:List (List Int)) (dn:List (Option Int)):List (List Int):=(DR may.length).map fun i=>k4 (may.getD i []) (dn.getD i none)
theorem cX {may:List (List Int)} {dn:List (Option Int)}:(bW may dn).length=may.length:=by unfold bW;simp
theorem wB {may:List (List Int)} {dn:List (Option Int)} {i:Nat} (h:i<may.length):(bW may dn)[i]?=some (k4 (may.getD i []) (dn.getD i none)):=by
 unfold bW
 rw[DM,E9 h];rfl
theorem yA (dn:List (Option Int)):∀x∈dn.map hV,de x=true:=fun x hx=>by
 obtain⟨h,_,e⟩:=DZ.mp hx
 rw[<- e]
 cases h<;>rfl
theorem BI {dn:List (Option Int)} {j:Nat} {x:V} (hx:(dn.map hV)[j]?=some x):x=hV (dn.getD j none):=by
 rw[DM]at hx
 obtain⟨b,h1,h2⟩:=DO.mp hx
 rw[<- h2,DK,h1];rfl
theorem eG {dn:List (Option Int)} {j:Nat} (h:j<dn.length):mM (dn.map hV) (j:Int)=some (hV (dn.getD j none)):=b9 (by rw[DM,DJ h,DK,DJ h];rfl)
theorem g8 {h:Option Int}:decide (hV h=V.non)=h.isNone:=by cases h<;>rfl
theorem wC {K:PySem.W.Frag} {H:Hp} {d:Nat} {a b:Addr} {xs ys:List V} (h1:SqL K H a xs) (h2:SqL K H b ys) (hl:xs.length=ys.length) (he:∀(j:Nat) x y,xs[j]?=some x->ys[j]?=some y->DEq K H d x y true):DEq K H (d+1) (.ref a) (.ref b) true:=by
 have q:=DEq.lst (e:=fun _=>true) h1 h2 hl he
 rw[show((DR xs.length).all fun _=>true)=true from by simp]at q
 exact q
theorem uD {K:PySem.W.Frag} {H:Hp} {d:Nat} {x:V} (f:de x=true):DEq K H d x x true:=by
 have q:=DEq.flat (K:=K) (H:=H) (d:=d) f f
 rw[kL f]at q
 exact q
theorem wD {K:PySem.W.Frag} {H:Hp} {d:Nat} {a b:Addr} {ps:List Int} (h1:SqL K H a (ps.map V.int)) (h2:SqL K H b (ps.map V.int)):DEq K H (d+1) (.ref a) (.ref b) true:=
 wC h1 h2 rfl fun j x y ex ey=>by
  rw[ex]at ey
  cases ey
  obtain⟨i,_,e⟩:=DZ.mp (DQ ex)
  rw[<- e]
  exact uD rfl
def dU (x:Addr×Addr×Str×Int×List Nat):qf:=x.2.2
def CO (hs:List Int) (x:Addr×Addr×Str×Int×List Nat):Bool:=kp (fun i=>hs.getD i 0) x.2.2.1 x.2.2.2.1 x.2.2.2.2
theorem Ay {α β:Type} {ts:List α} {f:α->β} {g:Nat->β} (h:∀(i:Nat) x,ts[i]?=some x->g i=f x):(DR ts.length).map g=ts.map f:=by
 apply Ge
 intro i
 rw[DM,DM]
 by_cases l:i<ts.length
 ·rw [E9 l,DJ l]
  show some (g i)=some (f ts[i])
  rw[h i _ (DJ l)]
 ·rw [EG (by simp;omega),EG (by omega)];rfl
theorem wF {ms:List Int} (c:Int) (h:ms≠[]):∃bj:Nat,bj<ms.length/\c%(((ms.map V.int).length:Nat):Int)=(bj:Int)/\(0:Int)<(((ms.map V.int).length:Nat):Int):=by
 have ms0:0<ms.length:=List.length_pos_iff.mpr h
 have ml:(0:Int)<(((ms.map V.int).length:Nat):Int):=by rw[DI];omega
 have b1:=FT c (show(((ms.map V.int).length:Nat):Int)≠0 by omega)
 have b2:=FB c ml
 exact⟨(c%(((ms.map V.int).length:Nat):Int)).toNat,by rw[DI]at b1 b2 ⊢;omega,by omega,ml⟩
inductive PapAt (H:Hp):V->Pap->Prop where
 | tie {t:Addr} {j:Nat} (ht:H t=some (.tup [.str "tie",.int ((j:Nat):Int)])):PapAt H (.ref t) (.tie j)
 | short {t l:Addr} {bs:List Nat} (ht:H t=some (.tup [.str "short",.ref l])) (hl:H l=some (.lst (bs.map fun(i:Nat)=>V.int (i:Int)))):PapAt H (.ref t) (.short bs)
 | split {t l:Addr} {vs:List V} {ps:List Pap} (ht:H t=some (.tup [.str "split",.ref l])) (hl:H l=some (.lst vs)) (hn:vs.length=ps.length) (h:∀(i:Nat) v q,vs[i]?=some v->ps[i]?=some q->PapAt H v q):PapAt H (.ref t) (.split ps)
theorem PapAt.same {H H':Hp} {v:V} {q:Pap} (p:PapAt H v q) (s:Same H H'):PapAt H' v q:=by
 induction p with
 | tie ht=>exact .tie (s _ _ ht)
 | short ht hl=>exact .short (s _ _ ht) (s _ _ hl)
 | split ht hl hn h ih=>exact .split (s _ _ ht) (s _ _ hl) hn fun i v q e1 e2=>ih i v q e1 e2
def nw (H H':Hp):Hp:=fun a=>match H a with
 | none=>H' a
 | some _=>none
theorem iP {H H':Hp} {a:Addr} {o:HO} (h:nw H H' a=some o):H a=none/\H' a=some o:=by
 unfold nw at h
 cases e:H a with
 | none=>rw[e]at h;exact⟨rfl,h⟩
 | some x=>rw[e]at h;cases h
theorem iQ {H H':Hp} {a:Addr} {o:HO} (h1:H a=none) (h2:H' a=some o):nw H H' a=some o:=by
 unfold nw
 rw[h1];exact h2
theorem BJ {H Hc H' Hx:Hp} (s:∀a,Hc a=none->H a=none) (k:∀a o,Hc a=none->H' a=some o->Hx a=some o):Same (nw Hc H') (nw H Hx):=fun b o e=>by
 obtain⟨e1,e2⟩:=iP e
 exact iQ (s b e1) (k b o e1 e2)
def zB (H H':Hp) (t:Addr) (may:List (List Int)) (ts:List qf) (p:List Int):Prop:=
 (∃(l:Addr) (hs:List Int),H' t=some (.tup [.str "plan",.ref l])/\H' l=some (.lst (hs.map V.int))/\H l=none/\IsPlan may ts hs)\/
 ∃(v:V) (q:Pap),H' t=some (.tup [.str "none",v])/\PapAt (nw H H') v q/\Shows may ts p q
theorem uE {f:Nat->Int} {n j:Nat} {ts:List (Addr×Addr×Str×Int×List Nat)} (h:mz f n ts=some j):∃x,ts[j]?=some x/\brk f n x.2.2.1 x.2.2.2.1 x.2.2.2.2=true:=by
 unfold mz at h
 rw[Ft]at h
 obtain⟨hj,e,_⟩:=h
 exact⟨_,DJ hj,e⟩
theorem uF {f:Nat->Int} {n:Nat} {ts:List (Addr×Addr×Str×Int×List Nat)} (h:mz f n ts=none):∀x∈ts,brk f n x.2.2.1 x.2.2.2.1 x.2.2.2.2=false:=fun x hx=>by
 unfold mz at h
 rw[Gd]at h
 simpa using h x hx
theorem mZ {may:List (List Int)} {p:List Int} {U:List Int} (c:cA p) (hl:p.length<=may.length) (h:∀q∈may,∀b∈q,b∈U):∀q∈pools may p,∀b∈q,b∈U:=fun q hq b hb=>by
 obtain⟨i,hi,e⟩:=Ef.mp hq
 have hi2:=hi
 rw[cG]at hi2
 have g:=eP (may:=may) hi2
 rw[DJ hi,e]at g
 cases g
 obtain⟨j,hj,ej⟩:=Ef.mp (eO c hi2)
 have:=(jg c hi2).mp hb j hj (by rw[aH hj,ej])
 have hj2:j<may.length:=by omega
 rw[bx hj2]at this
 exact h _ (El hj2) b this
theorem wG {o:Option Nat}:decide (BG o=V.non)=o.isNone:=by cases o<;>rfl
def jh (c:Addr) (H:Hp):Hp:=fun a=>if a=c then none else H a
theorem m7 {c a:Addr} {H:Hp} {o:HO} (h:jh c H a=some o):a≠c/\H a=some o:=by
 unfold jh at h
 by_cases z:a=c
 ·rw [if_pos z]at h;cases h
 ·rw [if_neg z]at h;exact⟨z,h⟩
theorem hide_of {c a:Addr} {H:Hp} {o:HO} (n:a≠c) (h:H a=some o):jh c H a=some o:=by
 unfold jh
 rw[if_neg n];exact h
theorem yB {f:Nat->Int} {st:List Nat} (h:st≠[]):1<=gB f st:=by
 obtain⟨i,r,rfl⟩:=List.exists_cons_of_ne_nil h
 have:f i∈dd ((i :: r).map f):=aZ.mpr (by simp)
 exact List.length_pos_of_mem this
theorem Az {f:Nat->Int} {st:List Nat}:gB f st<=st.length:=by
 have:=dk (st.map f)
 rw[DI]at this
 exact this
theorem TieT.but {H H':Hp} {x:Addr×Addr×Str×Int×List Nat} {acc:Addr} (t:TieT H x) (n1:x.1≠acc) (n2:x.2.1≠acc) (s:SameBut acc H H'):TieT H' x:=⟨s _ _ n1 t.tp,s _ _ n2 t.ts,t.wd,t.sl⟩
theorem TieT.apart {H:Hp} {x:Addr×Addr×Str×Int×List Nat} {acc:Addr} {ys:List V} (t:TieT H x) (h:H acc=some (.lst ys)):x.1≠acc/\x.2.1≠acc:=
 ⟨(fun z=>by have:=t.tp;rw[z,h]at this;cases this),(fun z=>by have:=t.ts;rw[z,h]at this;cases this)⟩
theorem RowsL.but {H H':Hp} {rs:List Addr} {ps:List (List Int)} {acc:Addr} (h:RowsL H rs ps) (n:∀r∈rs,r≠acc) (s:SameBut acc H H'):RowsL H' rs ps:=RowsL.of h.len fun i r p e1 e2=>by
 obtain⟨p2,g1,g2⟩:=h.get e1
 rw[e2]at g1
 cases g1
 exact s r _ (n r (DQ e1)) g2
theorem uG {H3 H2:Hp} {hs:List Addr} {may:List (List Int)} (hl:hs.length=may.length) (al:∀(i:Nat) r,hs[i]?=some r->H3 r=some (.lst ((may.getD i []).map V.int))/\H2 r=none):RowsL H3 hs may:=RowsL.of hl fun i r p' e1 e2=>by
 have:=(al i r e1).1
 rw[DK,e2]at this
 exact this
theorem PoolsL.ref {K:PySem.W.Frag} {H:Hp} {rs:List Addr} {may:List (List Int)} (po:PoolsL K H rs may) {i:Nat} {x:V} (hx:(rs.map V.ref)[i]?=some x):∃r,x= .ref r/\SqL K H r ((may.getD i []).map V.int):=by
 rw[DM]at hx
 obtain⟨r,hr,rfl⟩:=DO.mp hx
 have hi:i<may.length:=by rw[<- po.len];exact(DN.mp hr).1
 obtain⟨r',e1,e2⟩:=po.at (DJ hi)
 rw[hr]at e1
 cases e1
 rw[<- bx hi]at e2
 exact⟨r,rfl,e2⟩
theorem uH {K:PySem.W.Frag} {H1:Hp} {js:List (Option Nat)} {σ:L2.St} {te:TE} {Q:VK} {a:Addr} {rs:List Addr} {may:List (List Int)} (hl:SqL K H1 a (rs.map V.ref)) (po:PoolsL K H1 rs may) (m:may.length<=1000)
  (he:∀r ys H2 R,SqL K H2 r ys->(∀l,H2 l=none->R (.ref l) (aE H2 l (.lst ys)))->te (some (.ref r) :: bN σ js) H2 R)
  (hQ:∀acc (hs:List Addr) H',Same H1 H'->H1 acc=none->H' acc=some (.lst (hs.map V.ref))->RowsL H' hs may->(∀r∈hs,H1 r=none/\r≠acc)->Q (.ref acc) H'):
  cF (oI K a) H1 (none :: js) (bS 0) gY te σ Q:=by
 have rl:rs.length=may.length:=po.len
 refine qw (xs:=rs.map V.ref) (fun i=>(may.getD i []).map V.int) hl (by rw[DI];omega) (fun i x hx H3 R s3 k=>?_) fun hd hs H3 s3 nhd hhd hhs hall hne=>?_
 ·obtain⟨r,rfl,hq⟩:=(po.same s3).ref hx
  exact he r _ H3 R hq fun l nl=>k l _ (Same.new nl) nl ae
 ·rw [DI,rl]at hhs
  refine hQ hd hs H3 s3 nhd hhd (uG hhs hall) fun r hr=>⟨?_,hne r hr⟩
  obtain⟨i,hi,ei⟩:=Ef.mp hr
  exact(hall i r (by rw[DJ hi,ei])).2
theorem m9 {may:List (List Int)} {dn:List (Option Int)} {U:List Int} (h1:∀p∈may,∀b∈p,b∈U) (h2:∀b,some b∈dn->b∈U):∀p∈bW may dn,∀b∈p,b∈U:=fun p hp b hb=>by
 obtain⟨i,hi,e⟩:=DZ.mp hp
 have hi:=Ee.mp hi
 subst e
 cases hd:dn.getD i none with
 | none=>
  rw[hd]at hb
  have hb:b∈may.getD i []:=hb
  rw[bx hi]at hb
  exact h1 _ (El hi) b hb
 | some c=>
  rw[hd]at hb
  have hb:b∈[c]:=hb
  rw[DV.mp hb]
  refine h2 c ?_
  by_cases l:i<dn.length
  ·rw [DK,DJ l]at hd
   have:dn[i]=some c:=hd
   rw[<- this];exact El l
  ·rw [DK,EG (by omega)]at hd;cases hd
theorem pz {may:List (List Int)} {dn:List (Option Int)} (h:∀p∈may,p.Pairwise (· < ·)):∀p∈bW may dn,p.Pairwise (· < ·):=fun p hp=>by
 obtain⟨i,hi,e⟩:=DZ.mp hp
 have hi:=Ee.mp hi
 subst e
 cases hd:dn.getD i none with
 | none=>
  show(may.getD i []).Pairwise (· < ·)
  rw[bx hi]
  exact h _ (El hi)
 | some c=>exact Fm _ _
theorem g9 {may:List (List Int)} {dn:List (Option Int)} {i:Nat} (h:i<may.length):(bW may dn).getD i []=k4 (may.getD i []) (dn.getD i none):=by
 rw[DK,wB h];rfl
section
variable {X:Cx}
end
inductive GPap where
 | tie (j:Int)
 | short (bs:List Int)
 | split (ps:List GPap)
instance:Inhabited GPap:=⟨.tie 0⟩
theorem eQ (n:Nat): -(2^62)<=((n:Nat):Int):=by omega
theorem pB (c:Int) {n:Nat} (h:0<n):∃m:Nat,m<n/\c%((n:Nat):Int)=((m:Nat):Int):=by
 have w1:=FT c (show((n:Nat):Int)≠0 by omega)
 have w2:=FB c (show(0:Int)<((n:Nat):Int) by omega)
 exact⟨(c%((n:Nat):Int)).toNat,by omega,by omega⟩
theorem Dm {α:Type} {us:List α} (hl:us.length=1):∃a,us=[a]:=by
 match us,hl with
 | [a],_=>exact⟨a,rfl⟩
theorem Do {α:Type} {us:List α} (hl:us.length=2):∃a b,us=[a,b]:=by
 match us,hl with
 | [a,b],_=>exact⟨a,b,rfl⟩
theorem Dp {α:Type} {us:List α} (hl:us.length=3):∃a b c,us=[a,b,c]:=by
 match us,hl with
 | [a,b,c],_=>exact⟨a,b,c,rfl⟩
theorem Dq {α:Type} {us:List α} (hl:us.length=4):∃a b c d,us=[a,b,c,d]:=by
 match us,hl with
 | [a,b,c,d],_=>exact⟨a,b,c,d,rfl⟩
section
variable {X:Cx}
end
section
variable {X:Cx}
end
section
variable {prog:Program} {w:World} {A:Around} {E:Value->Shared->Prop} {h:Heap} {g:Array GenState} {d:PySem.Drawn} {t:Nat} {os:OsState} {a:Addr} {o:Obj}
end
section
variable {P:Program} {w:World} {A:Around} {R:Result->Shared->Prop} {p d I:Addr} {its:List Value} {vs:List (bV×Value)} {h0:Heap}
end
section
variable {X:Cx}
end
def wH (H:Hp) (a:Addr) (x:Int×Int):Prop:=H a=some (.tup [.int x.1,.int x.2])
def TupsL (H:Hp) (ps:List Addr) (row:List (Int×Int)):Prop:=Paired (wH H) ps row
def RowAt (H:Hp) (r:Addr) (row:List (Int×Int)):Prop:=∃ps:List Addr,H r=some (.lst (ps.map V.ref))/\TupsL H ps row
theorem bB {α β:Type} {F:α->β->Prop} {l:List α} {r:List β} {i:Nat} {a:α} (h:Paired F l r) (e:l[i]?=some a):∃b,r[i]?=some b/\F a b:=by
 induction h generalizing i with
 | nil=>cases e
 | cons x t ih=>
  cases i with
  | zero=>cases e;exact⟨_,rfl,x⟩
  | succ i=>exact ih e
theorem TupsL.same {H H':Hp} {ps:List Addr} {row:List (Int×Int)} (h:TupsL H ps row) (s:Same H H'):TupsL H' ps row:=Paired.mapP h fun _ _ q=>s _ _ q
theorem TupsL.len {H:Hp} {ps:List Addr} {row:List (Int×Int)} (h:TupsL H ps row):ps.length=row.length:=Paired.length h
theorem RowAt.same {H H':Hp} {r:Addr} {row:List (Int×Int)} (h:RowAt H r row) (s:Same H H'):RowAt H' r row:=let⟨ps,a,b⟩:=h;⟨ps,s _ _ a,b.same s⟩
theorem qO {K:PySem.W.Frag} {H1:Hp} {js:List (Option Nat)} {σ:L2.St} {tc:TT} {te:TE} {Q:VK} {r:Addr} {ps:List Addr} {row:List (Int×Int)} (p:Nat->Bool) (P:Addr->Nat->V->Hp->Prop)
  (hr:SqL K H1 r (ps.map V.ref)) (ht:TupsL H1 ps row) (hn:row.length<100000)
  (mono:∀acc i v H H',P acc i v H->SameBut acc H H'->P acc i v H')
  (hc:∀(i:Nat) x,row[i]?=some x->∀H2 R,Same H1 H2->(∀H3,Same H2 H3->R (p i) H3)->tc (some (.int x.1) :: some (.int x.2) :: bN σ js) H2 R)
  (he:∀acc (i:Nat) x,row[i]?=some x->p i=true->∀H2 R,Same H1 H2->H1 acc=none->H2 acc≠none->(∀v H3,Same H2 H3->P acc i v H3->R v H3)->te (some (.int x.1) :: some (.int x.2) :: bN σ js) H2 R)
  (hQ:∀acc vs H',Same H1 H'->H1 acc=none->H' acc=some (.lst vs)->Paired (fun i v=>P acc i v H') ((DR row.length).filter p) vs->Q (.ref acc) H'):
  cF (oI K r) H1 (none :: none :: js) (tM K 2 (iD (bS 0) (iD (bS 1) vn))) tc te σ Q:=by
 have hl:=ht.len
 intro acc hacc
 refine⟨fun i m ys H=>m=row.length-i/\i<=row.length/\Same H1 H/\H acc=some (.lst ys)/\Paired (fun k v=>P acc k v H) ((DR i).filter p) ys,⟨row.length,by simp,Eo _,Same.new hacc,ae,.nil⟩,?_⟩
 rintro i m ys H ⟨rfl,hi,s1,ha,hp⟩
 by_cases hlt:i<row.length
 ·have hps:i<ps.length:=by omega
  have ex:row[i]?=some row[i]:=DJ hlt
  refine .inr ⟨⟨_,.ref ps[i],s1.seq hr,by simp[hps]⟩,fun ys' H'=>i<row.length/\Same H1 H'/\H' acc=some (.lst ys')/\Paired (fun k v=>P acc k v H') ((DR (i+1)).filter p) ys',fun ys' H' ⟨z,a,b,c⟩=>⟨row.length-(i+1),EO _ _ hlt,rfl,hlt,a,b,c⟩,fun x H' y=>?_⟩
  obtain⟨rfl,y⟩:=y
  have y:=y _ (s1.seq hr)
  rw[DM]at y
  obtain⟨a,ea,rfl⟩:=DO.mp y
  obtain⟨x',ex',ft⟩:=bB ht ea
  rw[ex]at ex'
  cases ex'
  refine⟨a,_,rfl,SqT.of (s1 _ _ ft),rfl,_,_,rfl,_,_,rfl,rfl,zA,hc i _ ex _ _ s1 fun H2 s2=>⟨fun hb=>?_,fun hb=>?_⟩⟩
  ·have ha2:=s2 _ _ ha
   refine he acc i _ ex hb _ _ (s1.trans s2) hacc (by rw[ha2];simp) fun v H3 s3 pv=>?_
   have hlen:ys.length<=i:=by
    rw[<- Paired.length hp]
    exact Ek (Et _ _) (by simp)
   refine⟨s3 _ _ ha2,kb (by omega),hlt,((s1.trans s2).trans s3).put hacc,ae,?_⟩
   rw[E4,EI]
   have e:F2 p [i]=[i]:=by simp[hb]
   rw[e]
   refine Paired.snoc (Paired.mapP hp fun k v q=>?_) ?_
   ·exact mono acc k v _ _ (mono acc k v _ _ q (s2.trans s3).but) SameBut.upd
   ·exact mono acc i v _ _ pv SameBut.upd
  ·refine⟨hlt,s1.trans s2,s2 _ _ ha,?_⟩
   rw[E4,EI]
   have e:F2 p [i]=[]:=by simp[hb]
   rw[e,Fc]
   exact Paired.mapP hp fun k v q=>mono acc k v _ _ q s2.but
 ·have e:i=row.length:=by omega
  subst e
  exact .inl ⟨⟨_,s1.seq hr,by rw[DI];omega⟩,hQ acc ys H s1 hacc ha hp⟩
def CP (row:List (Int×Int)) (b:Int):Option Int:=(row.find? fun x=>x.1==b).map (·.2)
theorem k5 {n j:Nat} (h:j<n):xH n (j:Int)=some j:=by
 unfold xH
 rw[if_pos (by omega),if_pos (by omega),Er]
theorem TupsL.but {H:Hp} {l:Addr} {ps:List Addr} {row:List (Int×Int)} {xs:List V} {o:HO} (h:TupsL H ps row) (hl:H l=some (.lst xs)):TupsL (aE H l o) ps row:=
 Paired.mapP h fun a x q=>by
  show aE H l o a=_
  rw[aq (fun z=>by rw[wH,z,hl]at q;cases q)];exact q
theorem aR {α β:Type} {F:α->β->Prop} {l:List α} {r:List β} (h:Paired F l r) {a:α} {b:β} (q:F a b):Paired F (l++[a]) (r++[b]):=Paired.snoc h q
section
variable {X:Cx}
end
theorem k7 {α β:Type} {F:α->β->Prop} {l l2:List α} {r r2:List β} (h:Paired F l r) (h2:Paired F l2 r2):Paired F (l++l2) (r++r2):=by
 induction h with
 | nil=>exact h2
 | cons h _ ih=>exact .cons h ih
def du (ds:List (Int×Int)) (b:Int):Int:=(CP ds b).getD 0
def hA (hs:List (Option Int)) (j:Nat):Option Int:=hs.getD j none
section
variable {X:Cx}
end
theorem bR {α:Type} {l:List α} {i:Nat} {x:α} (h:l[i]?=some x):l.take (i+1)=l.take i++[x]:=by
 rw[FJ,h];rfl
end L2
namespace L2
open PySem PySem.Spec PyProof.Rows PySem.W
def dD {α:Type} (n:Nat) (lt:Nat->Nat->Bool):KasT α->Option α
 | .ret a=>some a
 | .ask i j k=>if decide (i<n)&&decide (j<n)&& !(i==j)then dD n lt (k (lt i j))else none
theorem ng {α:Type} {cmp:Nat->Nat->(Bool->Shared->Prop)->Shared->Prop} {n:Nat} {lt:Nat->Nat->Bool} {s:Shared} (hc:∀i j C,i<n->j<n->i≠j->C (lt i j) s->cmp i j C s) {Q:α->Shared->Prop} {a:α}:
  ∀(t:KasT α),dD n lt t=some a->Q a s->t.kasWp cmp Q s
 | .ret b,h,q=>by cases h;exact q
 | .ask i j k,h,q=>by
  unfold dD at h
  split at h
  ·rename_i hh
   rw[EF,EF]at hh
   obtain⟨⟨h1,h2⟩,h3⟩:=hh
   exact hc i j _ (of_decide_eq_true h1) (of_decide_eq_true h2) (by simpa using h3) (ng hc _ h q)
  ·cases h
section
variable {prog:Program} {w:World} {A:Around} {E:Value->Shared->Prop} {s:Shared}
end
section
variable {X:Cx}
end
theorem wI {α:Type} (x:α) (n:Nat):(Ey n [x]).flatten=Ey n x:=by
 induction n with
 | zero=>rfl
 | succ n ih=>rw[EY,Fw,ih,EY];rfl
section
variable {prog:Program} {w:World} {A:Around} {E:Value->Shared->Prop} {s:Shared}
end
section
variable {X:Cx}
end
theorem uI {α:Type} (row:List (Int×Int)) (d:Int×Int) (p:Int×Int->Bool) (f:Int×Int->α):((DR row.length).filter fun i=>p (row.getD i d)).map (fun i=>f (row.getD i d))=(row.filter p).map f:=by
 have e:(DR row.length).map (fun i=>row.getD i d)=row:=by
  apply EN
  ·rw [DI,Ew]
  ·intro i h1 h2
   rw[E6,FA,DK,DJ h2]
   rfl
 have:=congrArg (fun l=>(l.filter p).map f) e
 simp only[F4,Eu]at this
 exact this
def wJ (es:List (Int×Int)) (s:Int):List Int:=(es.filter fun x=>decide (x.2=s)).map (·.1)
def sL (es:List (Int×Int)) (ts:List Int) (s:Int):Bool:= !decide (s∈ts)&&(wJ es s).all fun a=>decide (a∈ts)
def dg (dn:List (Option Int)):List Int:=((DR dn.length).filter fun i=>(dn.getD i none).isSome).map fun(i:Nat)=>(i:Int)
theorem AA {a b:Int}:decide (V.int a=V.int b)=decide (a=b):=by simp
theorem jz {K:PySem.W.Frag} {H1:Hp} {js:List (Option Nat)} {σ:L2.St} {tc:TT} {te:TE} {Q:VK} {r:Addr} {row:List (Int×Int)} (p:Int×Int->Bool) (f:Int×Int->V)
  (hr:RowAt H1 r row) (hn:row.length<100000)
  (hc:∀(i:Nat) x,row[i]?=some x->∀H2 R,Same H1 H2->(∀H3,Same H2 H3->R (p x) H3)->tc (some (.int x.1) :: some (.int x.2) :: bN σ js) H2 R)
  (he:∀(i:Nat) x,row[i]?=some x->∀H2 R,Same H1 H2->(∀H3,Same H2 H3->R (f x) H3)->te (some (.int x.1) :: some (.int x.2) :: bN σ js) H2 R)
  (hQ:∀acc H',Same H1 H'->H1 acc=none->H' acc=some (.lst ((row.filter p).map f))->Q (.ref acc) H'):
  cF (oI K r) H1 (none :: none :: js) (tM K 2 (iD (bS 0) (iD (bS 1) vn))) tc te σ Q:=by
 obtain⟨ps,h1,h2⟩:=hr
 refine qO (ps:=ps) (row:=row) (fun i=>p (row.getD i (0,0))) (fun _ i v _=>v=f (row.getD i (0,0))) (SqL.of h1) h2 hn (fun _ _ _ _ _ h _=>h) (fun i x ex H2 R s k=>hc i x ex H2 R s fun H3 s3=>?_) (fun acc i x ex _ H2 R s _ _ k=>he i x ex H2 R s fun H3 s3=>k _ H3 s3 ?_) fun acc vs H' s n e pp=>?_
 ·have:=k H3 s3
  rw[DK,ex]at this
  exact this
 ·rw [DK,ex];rfl
 ·exact hQ acc H' s n (by rw[e,cV pp,uI row (0,0) p f])
theorem sM {α:Type} (L:List Int) (g:Int->α):((DR L.length).filter (fun _=>true)).map (fun i=>g (L.getD i 0))=L.map g:=by
 rw[EU.mpr (fun _ _=>rfl)]
 apply EN
 ·simp
 ·intro i h1 h2
  rw[DI]at h2
  rw[E6,E6,FA,DK,DJ h2]
  rfl
theorem RowAt.put {Hx:Hp} {o t:Addr} {ps:List Addr} {row:List (Int×Int)} {x:Int×Int} (hp:Hx o=some (.lst (ps.map V.ref))) (tx:TupsL Hx ps row) (nt:Hx t=none):RowAt (aE (aE Hx t (.tup [.int x.1,.int x.2])) o (.lst (ps.map V.ref++[.ref t]))) o (row++[x]):=by
 have stx:=Same.new (o:= .tup [.int x.1,.int x.2]) nt
 have hp':=stx _ _ hp
 refine⟨ps++[t],by rw[ae,DY];rfl,TupsL.but (aR (tx.same stx) (show wH _ t x from ae)) hp'⟩
theorem eR {as:List Addr} {us:List Value} (h:Vals (as.map V.ref) us):us=as.map Value.ref:=by
 induction as generalizing us with
 | nil=>cases h;rfl
 | cons a as ih=>
  cases h with
  | cons r t=>cases r;rw[ih t];rfl
def BK (K:PySem.W.Frag) (neg:Bool):R2:=fun x y H Q=>∃(p:Addr) (as:List Addr) (d:Nat) (f:Addr->Bool),y= .ref p/\SqL K H p (as.map V.ref)/\d<60/\(∀a∈as,DEq K H d (.ref a) x (f a))/\Q (.bl (if neg then !as.any f else as.any f)) H
def AB (f:Addr->Bool):Value->Bool
 | .ref a=>f a
 | _=>false
section
variable {X:Cx}
theorem pD (as:List Addr) (f:Addr->Bool):(as.map Value.ref).toArray.any (AB f)=as.any f:=by
 rw[List.any_toArray,List.any_map];rfl
theorem Ds (K:PySem.W.Frag) (hu:X.A.units+64<cLine) (hK:X.K=K:=by rfl):gu X (compareOp .In) (BK K false):=by
 subst hK
 intro pins s σ H x y v u Q I rx ry h
 obtain⟨p,as,d,f,rfl,hq,hd,he,q⟩:=h
 cases ry
 obtain⟨its,r,pl,hz⟩:=I.list hq
 have e1:=eR r
 subst e1
 refine SeqAt.in_listAt (AB f) pl.isList (fun w hw=>?_) ⟨.bl _,H,I,rfl,?_⟩
 ·obtain⟨a,ha,rfl⟩:∃a∈as,Value.ref a=w:=by simpa using hw
  exact(he a ha).at I (by show X.A.units+1+d<cLine;omega) rfl rx
 ·rw [pD];exact q
theorem BL (K:PySem.W.Frag) (hu:X.A.units+64<cLine) (hK:X.K=K:=by rfl):gu X (compareOp .NotIn) (BK K true):=by
 subst hK
 intro pins s σ H x y v u Q I rx ry h
 obtain⟨p,as,d,f,rfl,hq,hd,he,q⟩:=h
 cases ry
 obtain⟨its,r,pl,hz⟩:=I.list hq
 have e1:=eR r
 subst e1
 refine SeqAt.notIn_listAt (AB f) pl.isList (fun w hw=>?_) ⟨.bl _,H,I,rfl,?_⟩
 ·obtain⟨a,ha,rfl⟩:∃a∈as,Value.ref a=w:=by simpa using hw
  exact(he a ha).at I (by show X.A.units+1+d<cLine;omega) rfl rx
 ·rw [pD];exact q
end
section
variable {α:Type} [DecidableEq α]
end
section
variable {α:Type} [DecidableEq α]
end
section
variable {α:Type}
end
section
variable {prog:Program} {w:World} {A:Around} {E:Value->Shared->Prop} {s:Shared} {T:String} {r d:Addr} {n:Nat} {P:Nat->Value->Prop} {OK:Heap->Prop}
end
section
variable {X:Cx}
end
theorem k8 {α β:Type} {F G:α->β->Prop}:∀{l:List α} {r:List β},Paired F l r->(∀a∈l,∀b,F a b->G a b)->Paired G l r
 | _,_,.nil,_=> .nil
 | _,_,.cons h t,f=> .cons (f _ Ei _ h) (k8 t fun a ha=>f a (Ea _ ha))
theorem k9 {x y:V} {A B:Prop} (h:x=y) (hB:B):if(!decide (x=y))=true then A else B:=by
 rw[decide_eq_true h];exact a9 hB
def Ca (a b:Str):Prop:=ltCps b.cps.toList a.cps.toList=false
end L2
namespace L2
open PySem PySem.Spec PyProof.Rows
theorem ObjOk.has {P:Program} {w:World} {H:Hp} {h:Heap} {a:Addr}:∀{o:HO},ObjOk P w H h a o->∃ob,h.get? a=some ob:=by
 intro o x
 cases o with
 | lst xs=>obtain⟨_,_,_,_,e⟩:=x;exact⟨_,e⟩
 | tup xs=>obtain⟨_,_,_,ob,e,_⟩:=x;exact⟨_,e⟩
 | dK kvs=>obtain⟨_,_,_,_,ob,_,_,e,_⟩:=x;exact⟨_,e⟩
 | dT kvs=>obtain⟨_,_,_,_,ob,_,_,e,_⟩:=x;exact⟨_,e⟩
 | set S n=>obtain⟨ob,_,_,_,e,_⟩:=x;exact⟨_,e⟩
 | ins C dx fs=>obtain⟨_,_,_,e,_⟩:=x;exact⟨_,e⟩
 | own y=>exact x
 | xd fs=>obtain⟨_,⟨ob,_,_,e,_⟩,_⟩:=x;exact⟨_,e⟩
 | rng lo hi=>obtain⟨_,_,_,e⟩:=x;exact⟨_,e⟩
 | frz ob u=>obtain⟨e,_⟩:=x;exact⟨_,e⟩
 | tbl ps=>exact⟨_,x⟩
 | met f y=>exact⟨_,x⟩
 | ext φ=>exact x.2.1
theorem HOk.stays {P:Program} {w:World} {H:Hp} {h h':Heap} (ok:HOk P w H h) (k:∀b u,(H b).isSome=true->h.get? b=some u->h'.get? b=some u):HOk P w H h':=fun a o q=>
 (ok a o q).stay (fun b u hb e=>k b u (hb.elim (fun y=>by rw[y,q];rfl) fun y=>by rw[y];rfl) e) (fun _ z=>z) fun _ _ z=>z
structure Flies (P:Program) (w:World) (outer:List Env) (H H':Hp) (s:Shared) (ea C:Addr) (a0:Value) (B:Heap) (s':Shared):Prop where
 os:s'.os=s.os
 bare:AllBare s'.gens
 un:Un (gp outer) [] H H' s.heap s'.heap
 hok:HOk P w H' s'.heap
 fl:Heap.FlyingW B outer ea (.ref C) a0 s'.heap
 new:s.heap.get? ea=none
 free:H' ea=none
 cov:∀b o,s'.heap.get? b=some o->b∉gp outer->((s.heap.get? b).isSome=true\/(H' b).isSome=true)->B.get? b=some o
def C3 (P:Program) (w:World):ve:=fun outer H s E e s'=>∃(ea C:Addr) (a0:Value) (B:Heap) (H':Hp),e= .ref ea/\E (.ref C) none H'/\Flies P w outer H H' s ea C a0 B s'
section
variable {P:Program} {w:World} {K:PySem.W.Frag} {mg:Str->Option Value} {base:Heap}
end
section
variable {P:Program} {w:World} {K:PySem.W.Frag} {mg:Str->Option Value} {base:Heap} {N:List Str} {qual:Str} {scope:Scope} {f:Addr} {cd:Value} {A:Around} {outer:List Env} {s₀:Shared} {H₀:Hp} {E:XK}
theorem CQ {pins:List (Addr×Obj)} {σ:St} {H:Hp} {s:Shared} {h':Heap} {e C:Addr} {vs:List Value} (I:Inv (oJ (C3 P w) P w K mg base N qual scope f cd A outer s₀ H₀ E) pins σ H s) (hx:Heap.MadeExcOf s.heap h' e (.ref C) vs)
  (h:E (.ref C) none H):(oJ (C3 P w) P w K mg base N qual scope f cd A outer s₀ H₀ E).xe (.ref e) {s with heap:=h'}:=by
 have st:gp (envOfC qual scope s₀.heap.objs.size f cd :: outer)=s₀.heap.objs.size :: gp outer:=rfl
 have hin:∀env∈(envOfC qual scope s₀.heap.objs.size f cd :: outer),∀a,env.frame=some a->a∈gp (envOfC qual scope s₀.heap.objs.size f cd :: outer):=fun env he a ha=>F9.mpr ⟨env,he,ha⟩
 have fr:s.heap.FunFrames base (envOfC qual scope s₀.heap.objs.size f cd :: outer):=I.stack
 have fr':=PySem.W.funFrames_hide fr hin
 refine wpAny_leaves_madeW (s:={s with heap:=h'}) I.ok.frames rfl (fun b o q=>PySem.W.of_hideAll _ q) fr' hx fun h2 t fl tu bt up=>?_
 have up2:s.heap.UpToSlots h2:=(Heap.UpToSlots.of_keeps hx.keeps).trans up
 have kB:∀b o,s.heap.get? b=some o->b∉gp (envOfC qual scope s₀.heap.objs.size f cd :: outer)->(PySem.W.hideAll s.heap (gp (envOfC qual scope s₀.heap.objs.size f cd :: outer))).get? b=some o:=fun b o q n=>PySem.W.hideAll_get _ q n
 have kp:∀b o,s.heap.get? b=some o->b∉gp (envOfC qual scope s₀.heap.objs.size f cd :: outer)->h2.get? b=some o:=fun b o q n=>fl.1 b o (kB b o q n)
 have old:∀b o,s₀.heap.get? b=some o->b∉gp outer->b∉gp (envOfC qual scope s₀.heap.objs.size f cd :: outer):=fun b o q n z=>by
  rw[st]at z
  rcases Ed.mp z with z | z
  ·rw [z]at q;exact ER _ (Heap.lt_size q)
  ·exact n z
 have tr:∀b,(H b).isSome=true->b∉gp (envOfC qual scope s₀.heap.objs.size f cd :: outer):=fun b q z=>by rw[I.stkFree b z]at q;cases q
 have un0:Un (gp outer) [] H₀ H s₀.heap s.heap:=I.base
 have slots:∀b o,s.heap.get? b=some o->b∈gp outer->∃sl,h2.get? b=some {o with slots:=sl}:=fun b o q m=>by
  obtain⟨_,o',q',nf⟩:=fr.mem (show b∈gp (envOfC qual scope s₀.heap.objs.size f cd :: outer) by rw[st];exact Ea _ m)
  rw[q]at q';cases q'
  exact up2 b o q nf
 refine⟨e,C,.ref t,_,H,rfl,h,I.os,I.bare,⟨fun b o q n nf _=>kp b o (un0.keep b o q n nf (by simp)) (old b o q nf),fun b o q n m _=>?_,fun b o q n _=>un0.free b o q n (by simp),fun b o q _=>?_,un0.tups,un0.frzs,un0.tbls⟩,
  I.hok.stays fun b u q e=>kp b u e (tr b q),fl,?_,?_,fun b o q n z=>?_⟩
 ·obtain⟨sl,q1⟩:=un0.slot b o q n m (by simp)
  obtain⟨sl2,q2⟩:=slots b _ q1 m
  exact⟨sl2,q2⟩
 ·obtain⟨o1,q1⟩:=un0.there b o q (by simp)
  by_cases m:b∈gp outer
  ·obtain⟨sl,q2⟩:=slots b _ q1 m
   exact⟨_,q2⟩
  ·exact⟨o1,kp b o1 q1 (old b o q m)⟩
 ·cases q:s₀.heap.get? e with
  | none=>rfl
  | some o=>
   obtain⟨o1,q1⟩:=un0.there e o q (by simp)
   rw[hx.new]at q1;cases q1
 ·cases q:H e with
  | none=>rfl
  | some o=>
   obtain⟨o1,q1⟩:=(I.hok e o q).has
   rw[hx.new]at q1;cases q1
 ·have nb:b∉gp (envOfC qual scope s₀.heap.objs.size f cd :: outer)/\∃o1,s.heap.get? b=some o1:=by
   rcases z with z | z
   ·obtain⟨o0,q0⟩:=ES.mp z
    obtain⟨o1,q1⟩:=un0.there b o0 q0 (by simp)
    exact⟨old b o0 q0 n,o1,q1⟩
   ·obtain⟨o0,q0⟩:=ES.mp z
    obtain⟨o1,q1⟩:=(I.hok b o0 q0).has
    exact⟨tr b z,o1,q1⟩
  obtain⟨n1,o1,q1⟩:=nb
  have q2:=kp b o1 q1 n1
  have q:h2.get? b=some o:=q
  rw[q]at q2;cases q2
  exact kB b _ q1 n1
end
section
variable {X:Cx} {pins:List (Addr×Obj)} {σ:St} {H H':Hp} {s s':Shared} {ea C:Addr} {a0:Value} {B h2:Heap}
end
section
variable {X:Cx} {k:Nat} {f C:Addr} {fd:FuncData} {ps:List Str} {sp:Sp} {x y:Str} {st:Stmt} {p cpos epos np hpos pos:Pos} {e:Expr} {es:List Expr} {t:TA} {b₀:Stmt} {suite:List Stmt}
end
section
variable {X:Cx} {k i:Nat} {f C:Addr} {fd:FuncData} {ps:List Str} {sp:Sp} {x y n:Str} {st:Stmt} {p cpos epos np hpos pos:Pos} {e:Expr} {es:List Expr} {t:TA} {b₀:Stmt} {suite:List Stmt} {ts:TS} {c:Value}
end
section
open PySem.W PySem.Builtin.ObjectAttr PySem.Builtin PySem.Builtin.Getset_descriptor
variable {K:Frag} {x D:Addr}
variable {prog:Program} {w:World} {A:Around} {s:Shared} {E:Value->Shared->Prop}
end
section
variable {X:Cx} {k:Nat} {f:Addr} {fd:FuncData} {ps:List Str} {sp:Sp} {x:Str} {p pos:Pos} {e:Expr} {es:List Expr} {t:TA} {st:Stmt}
end
abbrev jA:=List (Int×Int)
section
variable {es:jA} {cn k:Nat} {row:List Int}
theorem AC (cn:Nat):((DR cn).map fun(i:Nat)=>(i:Int)).Nodup:=by
 refine Fl.mpr (List.Pairwise.imp (fun h e=>h (by omega)) List.nodup_range)
theorem yC {x:Int}:x∈(DR cn).map (fun(i:Nat)=>(i:Int))<->∃i:Nat,x=(i:Int)/\i<cn:=by
 rw[DZ]
 exact⟨fun⟨i,hi,e⟩=>⟨i,e.symm,Ee.mp hi⟩,fun⟨i,e,hi⟩=>⟨i,Ee.mpr hi,e.symm⟩⟩
end
theorem qP {α:Type} (ns:List Int) (p:Int->Bool) (f:Int->α):((DR ns.length).filter fun i=>p (ns.getD i 0)).map (fun i=>f (ns.getD i 0))=(ns.filter p).map f:=by
 have e:(DR ns.length).map (fun i=>ns.getD i 0)=ns:=by
  apply EN
  ·rw [DI,Ew]
  ·intro i h1 h2
   rw[E6,FA,DK,DJ h2]
   rfl
 have:=congrArg (fun l=>(l.filter p).map f) e
 simp only[F4,Eu]at this
 exact this
theorem qQ {K:PySem.W.Frag} {H1:Hp} {js:List (Option Nat)} {σ:L2.St} {tc:TT} {te:TE} {Q:VK} {a:Addr} {ns:List Int} (p:Int->Bool) (hl:SqL K H1 a (ns.map V.int)) (hn:ns.length<100000)
  (hc:∀x∈ns,∀H2 R,Same H1 H2->(∀H3,Same H2 H3->R (p x) H3)->tc (some (.int x) :: bN σ js) H2 R)
  (he:∀x∈ns,∀H2 R,Same H1 H2->(∀H3,Same H2 H3->R (.int x) H3)->te (some (.int x) :: bN σ js) H2 R)
  (hQ:∀acc H',Same H1 H'->H1 acc=none->H' acc=some (.lst ((ns.filter p).map V.int))->Q (.ref acc) H'):cF (oI K a) H1 (none :: js) (bS 0) tc te σ Q:=by
 refine bL (xs:=ns.map V.int) (fun i=>p (ns.getD i 0)) (fun i=>V.int (ns.getD i 0)) hl (by rw[DI];exact hn) (fun i x hx H2 R s k=>?_) (fun i x hx _ H2 R s k=>?_) fun acc H' s n e=>hQ acc H' s n (by rw[e,DI];exact congrArg (fun l=>some (HO.lst l)) (qP ns p V.int))
 ·rw [DM]at hx
  obtain⟨b,hb,rfl⟩:=DO.mp hx
  rw[DK,hb]at k
  exact hc b (DQ hb) H2 R s k
 ·rw [DM]at hx
  obtain⟨b,hb,rfl⟩:=DO.mp hx
  rw[DK,hb]at k
  exact he b (DQ hb) H2 R s k
theorem AD {α:Type} {x:α} {r:List α}:mM (x :: r) 0=some x:=b9 (j:=0) rfl
def lb (n:Nat):List Int:=(DR n).map fun(i:Nat)=>(i:Int)
theorem yD {r:List Int} {i:Nat} (j:Nat) (h:r.Perm (lb i)):(r.take j++(i:Int) :: r.drop j).Perm (lb (i+1)):=by
 have e:lb (i+1)=lb i++[(i:Int)]:=by unfold lb;rw[E4,DY];rfl
 rw[e]
 refine List.perm_middle.trans ?_
 rw[Fs]
 exact(List.Perm.cons _ h).trans (List.perm_append_singleton _ _).symm
theorem lg {r:List Int} {cn:Nat} (h:r.Perm (lb cn)):r.length=cn/\r.Nodup/\∀x,x∈r<->0<=x/\x<(cn:Int):=by
 refine⟨by rw[h.length_eq];unfold lb;rw[DI,Ew],h.nodup_iff.mpr (AC cn),fun x=>?_⟩
 rw[h.mem_iff]
 unfold lb
 rw[yC]
 constructor
 ·rintro⟨i,rfl,hi⟩;exact⟨by omega,by omega⟩
 ·rintro⟨h0,h1⟩;exact⟨x.toNat,by omega,by omega⟩
section
variable {es:jA} {cn:Nat} {S:List Int}
end
theorem n9 {c:Prop} [Decidable c] {A B:Prop} (h:c) (hB:B):if(!decide c)=true then A else B:=by rw[decide_eq_true h];exact hB
theorem BM {c:Prop} [Decidable c] {A B:Prop} (h:¬c) (hB:B):if decide c=true then A else B:=by rw[decide_eq_false h];exact a9 hB
theorem CS {a b:Nat} (h:(a:Int)≠(b:Int)):∃i j:Nat,i<j/\(if(b:Int)<(a:Int)then(b:Int)else(a:Int))=(i:Int)/\(if(b:Int)>(a:Int)then(b:Int)else(a:Int))=(j:Int)/\(i=a/\j=b\/i=b/\j=a):=by
 by_cases z:(b:Int)<(a:Int)
 ·exact⟨b,a,by omega,if_pos z,if_neg (by omega),.inr ⟨rfl,rfl⟩⟩
 ·exact⟨a,b,by omega,if_neg z,if_pos (by omega),.inl ⟨rfl,rfl⟩⟩
theorem ni {r:List Int} {i:Nat} (h:i<r.length):r[i]?=some (r.getD i 0):=by rw[DK,DJ h];rfl
section
variable {es:jA} {cn:Nat} {r:List Int}
end
end L2
namespace L2
open PySem PySem.Spec PyProof.Rows PySem.W
def bO:Nat->List (List Nat)
 | 0=>[[]]
 | n+1=>bO n++(bO n).map fun l=>l++[n]
def AE (n i j:Nat):Bool:=HT.bh (((bO n).getD i []).map fun(x:Nat)=>(x:Int)) (((bO n).getD j []).map fun(x:Nat)=>(x:Int))
theorem dE (n:Nat):(bO n).length=2^n:=by
 induction n with
 | zero=>rfl
 | succ n ih=>show(bO n++_).length=_;rw[DX,DI,ih,Nat.pow_succ];omega
def iR (h:Heap) (as:List Addr) (ls:List (List Int)):Prop:=as.length=ls.length/\∀(i:Nat) a l,as[i]?=some a->ls[i]?=some l->∃us n,h.get? a=some {cls:= .type "list",data:= .seq us n}/\IntsAre us.toList l
theorem fU {α:Type} {l:List α} {i:Nat} {x d:α} (h:l[i]?=some x):l.getD i d=x:=by rw[DK,h];rfl
section
variable {s:Shared} {A:Around} {w:World} {prog:Program} {E:Value->Shared->Prop}
theorem uJ {as:List Addr} {ls:List (List Int)} (hu:A.units<cLine) (hp:iR s.heap as ls) {i j:Nat} {C:Bool->Shared->Prop} (hi:i<ls.length) (hj:j<ls.length) (h:C (HT.bh (ls.getD i []) (ls.getD j [])) s):
  kas_ask prog w A oneType' (as.map Value.ref) i j C s:=by
 have la:=hp.1
 obtain⟨a,ha⟩:∃a,as[i]?=some a:=⟨_,DJ (by omega)⟩
 obtain⟨b,hb⟩:∃b,as[j]?=some b:=⟨_,DJ (by omega)⟩
 obtain⟨x,hx⟩:∃x,ls[i]?=some x:=⟨_,DJ hi⟩
 obtain⟨y,hy⟩:∃y,ls[j]?=some y:=⟨_,DJ hj⟩
 obtain⟨us,n1,e1,i1⟩:=hp.2 i a x ha hx
 obtain⟨vs,n2,e2,i2⟩:=hp.2 j b y hb hy
 rw[fU hx,fU hy]at h
 unfold kas_ask
 rw[fU (show(as.map Value.ref)[i]?=some (.ref a) by rw[DM,ha];rfl),fU (show(as.map Value.ref)[j]?=some (.ref b) by rw[DM,hb];rfl)]
 rw[keyLt'_oneType,oneLt'_eq];simp only[if_true]
 refine wpAny_bind (wpAny_cRoomFor hu (wpAny_bind (wpAny_callSpecialIfBound?_slot ⟨_,e1,rfl⟩ PySem.F.slot_list_lt ?_)))
 exact call_meets PySem.F.slot_list_lt ⟨_,e1,rfl⟩ PySem.F.entry_list_lt (PySem.F.args_list_lt_2 _ _) (C2 a b us vs n1 n2 x y i1 i2) ⟨e1,e2,wpAny_truthy_bool h⟩
end
theorem oa {f:Nat->Int}:∀(A B:List Nat),(∀x∈A,∀y∈B,(f x=f y<->x=y)/\(f x<f y<->x<y))->HT.bh (A.map f) (B.map f)=HT.bh (A.map fun(x:Nat)=>(x:Int)) (B.map fun(x:Nat)=>(x:Int))
 | [],B,_=>by cases B<;>rfl
 | _ :: _,[],_=>rfl
 | a :: A,b :: B,h=>by
  rw[En,En,En,En,HT.cT,HT.cT,oa A B fun x hx y hy=>h x (Ea _ hx) y (Ea _ hy)]
  obtain⟨h1,h2⟩:=h a Ei b Ei
  by_cases z:a=b
  ·rw [if_pos (h1.mpr z),if_pos (by rw[z])]
  ·rw [if_neg fun q=>z (h1.mp q),if_neg fun q=>z (by omega)]
   by_cases y:a<b
   ·rw [decide_eq_true (h2.mpr y),decide_eq_true (by omega)]
   ·rw [decide_eq_false fun q=>y (h2.mp q),decide_eq_false (by omega)]
theorem gF (n:Nat):∀l∈bO n,∀x∈l,x<n:=by
 induction n with
 | zero=>intro l hl x hx;rw[DV.mp hl]at hx;cases hx
 | succ n ih=>
  intro l hl x hx
  rcases Eg.mp hl with z | z
  ·have:=ih l z x hx;omega
  ·obtain⟨l',h1,rfl⟩:=DZ.mp z
   rcases Eg.mp hx with y | y
   ·have:=ih l' h1 x y;omega
   ·rw [DV.mp y];omega
def cj (st:List Int) (l:List Nat):List Int:=l.map fun k=>st.getD k 0
theorem wK {st:List Int} (up:st.Pairwise (· < ·)) {i j:Nat} (hi:i<st.length) (hj:j<st.length):(st.getD i 0=st.getD j 0<->i=j)/\(st.getD i 0<st.getD j 0<->i<j):=by
 have key:∀a b,a<b->b<st.length->st.getD a 0<st.getD b 0:=fun a b h hb=>by
  rw[fU (DJ (show a<st.length by omega)),fU (DJ hb)]
  exact E8.mp up a b (by omega) hb h
 rcases FK i j with z | z | z
 ·have:=key i j z hj
  exact⟨⟨fun q=>by omega,fun q=>by omega⟩,⟨fun _=>z,fun _=>this⟩⟩
 ·subst z
  exact⟨⟨fun _=>rfl,fun _=>rfl⟩,⟨fun q=>by omega,fun q=>by omega⟩⟩
 ·have:=key j i z hi
  exact⟨⟨fun q=>by omega,fun q=>by omega⟩,⟨fun q=>by omega,fun q=>by omega⟩⟩
def IntsL (H:Hp) (as:List Addr) (ls:List (List Int)):Prop:=Paired (fun a l=>H a=some (.lst (l.map V.int))) as ls
theorem gG {as:List Addr}:∀(q:List Nat),(∀i∈q,i<as.length)->Vals ((q.map fun i=>as.getD i 0).map V.ref) (q.map fun i=>(as.map Value.ref).getD i Value.none)
 | [],_=> .nil
 | i :: q,h=>by
  obtain⟨a,ha⟩:∃a,as[i]?=some a:=⟨_,DJ (h i Ei)⟩
  refine .cons ?_ (gG q fun j hj=>h j (Ea _ hj))
  show(as.map Value.ref).getD i Value.none=Value.ref (as.getD i 0)
  rw[fU ha,fU (show(as.map Value.ref)[i]?=some (.ref a) by rw[DM,ha];rfl)]
section
variable {X:Cx}
end
section
variable {X:Cx} {pins:List (Addr×Obj)} {σ:St} {H:Hp} {s:Shared} {h':Heap}
end
section
variable {X:Cx} {a:Expr} {ta:TA} {p1 p2 kpos pos:Pos}
end
end L2
namespace L2
open PySem PySem.Spec PyProof.Rows
theorem IntsL.same {H H':Hp} {as:List Addr} {ls:List (List Int)} (h:IntsL H as ls) (s:Same H H'):IntsL H' as ls:=Paired.mapP h fun _ _ q=>s _ _ q
theorem IntsL.but {H H':Hp} {acc:Addr} {as:List Addr} {ls:List (List Int)} (h:IntsL H as ls) (ne:∀b∈as,b≠acc) (s:SameBut acc H H'):IntsL H' as ls:=k8 h fun b hb l q=>s b _ (ne b hb) q
theorem yE (n:Nat):∀l∈bO n,l.length<=n:=by
 induction n with
 | zero=>intro l hl;rw[DV.mp hl];exact DS _
 | succ n ih=>
  intro l hl
  rcases Eg.mp hl with z | z
  ·have:=ih l z;omega
  ·obtain⟨l',h1,rfl⟩:=DZ.mp z
   have:=ih l' h1
   rw[DX,Ec]
   omega
theorem uK (st:List Int) (l:List Nat) (j:Nat):cj st (l++[j])=cj st l++[st.getD j 0]:=by unfold cj;rw[DY];rfl
theorem wL (dn:List (Option Int)):(dg dn).Pairwise (· < ·):=by
 unfold dg
 exact Fl.mpr (List.Pairwise.imp (fun h=>by omega) (List.Pairwise.filter _ List.pairwise_lt_range))
theorem fh (dn:List (Option Int)):(dg dn).length<=dn.length:=by
 unfold dg
 rw[DI]
 have:=Et (fun i=>(dn.getD i none).isSome) (DR dn.length)
 rw[Ew]at this
 exact this
def jB (es:jA) (dn:List (Option Int)) (ns:List Int):Bool:=((es.filter fun x=>decide (x.1∈ns)).map (·.2)).all fun s=>decide (s∈ns)||(dn.getD s.toNat none).isNone
theorem yF (es:jA) (dn:List (Option Int)):jB es dn []=true:=by
 unfold jB
 have:(es.filter fun x=>decide (x.1∈([]:List Int)))=[]:=List.filter_eq_nil_iff.mpr fun x _=>by simp
 rw[this]
 rfl
end L2
namespace L2
open PySem PySem.Spec PyProof.Rows PySem.W
abbrev SD:=Array Nat×Array (Nat×Nat×Nat)×Nat
abbrev cJ (κ:SortKind) (it:Array Keyed) (t:SD):SortSt:=SortSt.mk' κ (t.1.map (kas_item it)) t.2.1 t.2.2 none
def jC (n:Nat) (lt:Nat->Nat->Bool) (p:Array Nat) (a b:Nat):Option Bool:=if decide (a<p.size)&&decide (b<p.size)&&decide (p.getD a 0<n)&&decide (p.getD b 0<n)&& !(p.getD a 0==p.getD b 0)then some (lt (p.getD a 0) (p.getD b 0))else none
def fQ {β:Type} (step:Nat->β->SD->Option (Bool×β×SD)):List Nat->β->SD->Option (β×SD)
 | [],b,t=>some (b,t)
 | x :: l,b,t=>(step x b t).bind fun r=>if r.1=true then some (r.2.1,r.2.2)else fQ step l r.2.1 r.2.2
section
variable {prog:Program} {w:World} {E:Value->Shared->Prop} {A:Around} {κ:SortKind} {it:Array Keyed} {s:Shared} {n:Nat} {lt:Nat->Nat->Bool}
theorem dw {β:Type} {step:Nat->β->SD->Option (Bool×β×SD)} {body:Nat->β->StateT SortSt Sem (ForInStep β)}
  (h:∀x b t r,step x b t=some r->∀R:ForInStep β->SortSt->Shared->Prop,R (if r.1=true then .done r.2.1 else .yield r.2.1) (cJ κ it r.2.2) s->kasC (model prog w) A E (body x b) R (cJ κ it t) s)
  {Q:β->SortSt->Shared->Prop}:∀(ls:List Nat) (b:β) (t:SD) (r:β×SD),fQ step ls b t=some r->Q r.1 (cJ κ it r.2) s->kasC (model prog w) A E (forIn ls b body) Q (cJ κ it t) s:=by
 intro ls
 induction ls with
 | nil=>
  intro b t r e q
  cases e
  exact kasC_nil q
 | cons x l ih=>
  intro b t r e q
  obtain⟨y,e1,e2⟩:=DL.mp e
  refine kasC_cons (h x b t y e1 _ ?_)
  by_cases z:y.1=true
  ·rw [if_pos z]at e2 ⊢
   cases e2
   exact q
  ·rw [if_neg z]at e2 ⊢
   exact ih _ _ _ e2 q
def cN (prog:Program) (w:World) (A:Around) (κ:SortKind) (it:Array Keyed) (s:Shared) (n:Nat) (lt:Nat->Nat->Bool):Prop:=∀i j (C:Bool->Shared->Prop),i<n->j<n->i≠j->C (lt i j) s->kas_cmp prog w A κ it i j C s
theorem wM {t:SD} {i:Nat} (hi:i<t.1.size):(arrOf (cJ κ it t))[i]?=some (kas_item it (t.1.getD i 0)):=by
 show(t.1.map (kas_item it))[i]?=_
 rw[Array.getElem?_map,Ez hi]
 have e:t.1.getD i 0=t.1[i]:=by simp[Gg,hi]
 rw[e]
 rfl
theorem sN (ans:cN prog w A κ it s n lt) {t:SD} {i j:Nat} {Q:Option Bool->SortSt->Shared->Prop} (hi:i<n) (hj:j<n) (ne:i≠j) (q:Q (some (lt i j)) (cJ κ it t) s):kasC (model prog w) A E (lt' (kas_item it i) (kas_item it j)) Q (cJ κ it t) s:=by
 rw[lt'_eq]
 refine kasC_bind (kasC_get (kasC_bind (kasC_lift (wpAny_attempt (wpAny_mono (ans i j (fun c s'=>Q (some c) (cJ κ it t) s') hi hj ne q) (fun c s' hc=>?_) fun _ _ hF=>hF.elim)))))
 exact kasC_pure hc
theorem wN {p:Array Nat} {a b:Nat} {c:Bool} (h:jC n lt p a b=some c):a<p.size/\b<p.size/\p.getD a 0<n/\p.getD b 0<n/\p.getD a 0≠p.getD b 0/\c=lt (p.getD a 0) (p.getD b 0):=by
 unfold jC at h
 split at h
 ·rename_i z
  simp only[EF,decide_eq_true_eq,F1,beq_eq_false_iff_ne]at z
  cases h
  exact⟨z.1.1.1.1,z.1.1.1.2,z.1.1.2,z.1.2,z.2,rfl⟩
 ·cases h
theorem cO (ans:cN prog w A κ it s n lt) {t:SD} {a b:Nat} {c:Bool} {Q:Option Bool->SortSt->Shared->Prop} (h:jC n lt t.1 a b=some c) (q:Q (some c) (cJ κ it t) s):kasC (model prog w) A E (ltAt' a b) Q (cJ κ it t) s:=by
 obtain⟨ha,hb,na,nb,ne,rfl⟩:=wN h
 rw[ltAt'_eq]
 refine kasC_bind (kasC_get ?_)
 show kasC _ _ _ (elem' (arrOf (cJ κ it t)) a >>= fun x=>elem' (arrOf (cJ κ it t)) b >>= fun y=>lt' x y) Q _ _
 rw[elem'_eq,elem'_eq,wM ha,wM hb]
 exact kasC_bind (kasC_pure (kasC_bind (kasC_pure (sN ans na nb ne q))))
theorem yG {t:SD} {k l:Nat} {Q:Unit->SortSt->Shared->Prop} (q:Q () (cJ κ it (bubble t.1 k (k-l),t.2)) s):kasC (model prog w) A E (moveDown' k l) Q (cJ κ it t) s:=by
 rw[moveDown'_eq]
 refine kasC_modify ?_
 have e1:bubble (t.1.map (kas_item it)) k (k-l)=(bubble t.1 k (k-l)).map (kas_item it):=kas_swaps_map (kas_item it) (fun i=>k-i) (fun i=>k-i-1) _ t.1
 show Q () (SortSt.mk' κ (bubble (t.1.map (kas_item it)) k (k-l)) t.2.1 t.2.2 none) s
 rw[e1]
 exact q
theorem dz {t:SD} {i j:Nat} {Q:Unit->SortSt->Shared->Prop} (q:Q () (cJ κ it (kas_rev t.1 i j,t.2)) s):kasC (model prog w) A E (reverseSlice' i j) Q (cJ κ it t) s:=by
 rw[reverseSlice'_eq]
 refine kasC_modify ?_
 have e1:mirror (t.1.map (kas_item it)) i j ((j-i)/2)=(kas_rev t.1 i j).map (kas_item it):=kas_swaps_map (kas_item it) (fun k=>i+k) (fun k=>j-1-k) _ t.1
 show Q () (SortSt.mk' κ (mirror (t.1.map (kas_item it)) i j ((j-i)/2)) t.2.1 t.2.2 none) s
 rw[e1]
 exact q
def iS (n:Nat) (lt:Nat->Nat->Bool) (lo k:Nat) (_:Nat) (b:Option Bool×Nat×Nat) (t:SD):Option (Bool×(Option Bool×Nat×Nat)×SD):=
 if b.2.1>=b.2.2 then some (true,(none,b.2.1,b.2.2),t)else(jC n lt t.1 (lo+k) (lo+(b.2.1+b.2.2)/2)).bind fun c=>some (false,if c=true then(none,b.2.1,(b.2.1+b.2.2)/2)else(none,(b.2.1+b.2.2)/2+1,b.2.2),t)
def pE (n:Nat) (lt:Nat->Nat->Bool) (lo:Nat) (k:Nat) (_:Option Bool×Unit) (t:SD):Option (Bool×(Option Bool×Unit)×SD):=
 (fQ (iS n lt lo k) (EX 0 k) (none,0,k) t).bind fun r=>if r.1.1.isSome then none else some (false,(none,()),(bubble r.2.1 (lo+k) (lo+k-(lo+r.1.2.1)),r.2.2))
def AF (n:Nat) (lt:Nat->Nat->Bool) (lo m ok:Nat) (t:SD):Option SD:=(fQ (pE n lt lo) (EX (max ok 1) (m-max ok 1)) (none,()) t).map (·.2)
theorem wO {ls:List Nat} {lo k:Nat}:∀{b:Option Bool×Nat×Nat} {t:SD} {r:(Option Bool×Nat×Nat)×SD},b.1=none->fQ (iS n lt lo k) ls b t=some r->r.1.1=none:=by
 induction ls with
 | nil=>intro b t r hb e;cases e;exact hb
 | cons x l ih=>
  intro b t r hb e
  obtain⟨y,e1,e2⟩:=DL.mp e
  have yn:y.2.1.1=none:=by
   unfold iS at e1
   split at e1
   ·cases e1;rfl
   ·obtain⟨c,_,e3⟩:=DL.mp e1
    cases e3
    cases c<;>rfl
  by_cases z:y.1=true
  ·rw [if_pos z]at e2;cases e2;exact yn
  ·rw [if_neg z]at e2;exact ih yn e2
theorem wQ {lo:Nat} {ls:List Nat}:∀{t:SD} {r:(Option Bool×Unit)×SD},fQ (pE n lt lo) ls (none,()) t=some r->r.1.1=none:=by
 induction ls with
 | nil=>intro t r e;cases e;rfl
 | cons x l ih=>
  intro t r e
  obtain⟨y,e1,e2⟩:=DL.mp e
  unfold pE at e1
  obtain⟨z,_,e3⟩:=DL.mp e1
  split at e3
  ·cases e3
  ·cases e3
   exact ih e2
theorem AG (ans:cN prog w A κ it s n lt) {t t':SD} {lo m ok:Nat} {Q:Bool->SortSt->Shared->Prop} (h:AF n lt lo m ok t=some t') (q:Q true (cJ κ it t') s):kasC (model prog w) A E (binarySort' lo m ok) Q (cJ κ it t) s:=by
 unfold AF at h
 obtain⟨r,e,rfl⟩:=DO.mp h
 rw[binarySort'_eq]
 refine kasC_bind (kasC_range (dw (step:=pE n lt lo) (fun k b u y e1 R hR=>?_) _ _ _ r e ?_))
 ·unfold pE at e1
  obtain⟨z,e2,e3⟩:=DL.mp e1
  have zn:=wO rfl e2
  rw[zn]at e3
  cases e3
  refine kasC_bind (kasC_range (dw (step:=iS n lt lo k) (fun x c v y2 f1 R2 hR2=>?_) _ _ _ z e2 ?_))
  ·unfold iS at f1
   dsimp only
   by_cases g:c.2.1>=c.2.2
   ·rw [if_pos g]at f1 ⊢
    cases f1
    exact kasC_pure hR2
   ·rw [if_neg g]at f1 ⊢
    obtain⟨a,g1,g2⟩:=DL.mp f1
    cases g2
    refine kasC_bind (cO ans g1 ?_)
    cases a
    ·exact kasC_pure hR2
    ·exact kasC_pure hR2
  ·obtain⟨⟨z1,z2,z4⟩,z3⟩:=z
   cases zn
   exact kasC_bind (yG (kasC_pure hR))
 ·have rn:=wQ e
  obtain⟨⟨r1,r2⟩,r3⟩:=r
  cases rn
  exact kasC_pure q
end
def yH:Bool->Keyed->Array Keyed->Nat->Nat->Nat->StateT SortSt Sem (Option Nat):=sortPriv% PySem.Builtin.gallop
def pF:Array Keyed->Array Keyed->StateT SortSt Sem (Array Keyed):=sortPriv% PySem.Builtin.mergeLo
theorem dW {β:Type} {step:Nat->β->SD->Option (Bool×β×SD)} (P:β->SD->Prop) (h:∀x b t r,P b t->step x b t=some r->P r.2.1 r.2.2):∀(ls:List Nat) (b:β) (t:SD) (r:β×SD),P b t->fQ step ls b t=some r->P r.1 r.2:=by
 intro ls
 induction ls with
 | nil=>intro b t r p e;cases e;exact p
 | cons x l ih=>
  intro b t r p e
  obtain⟨y,e1,e2⟩:=DL.mp e
  have py:=h x b t y p e1
  by_cases z:y.1=true
  ·rw [if_pos z]at e2;cases e2;exact py
  ·rw [if_neg z]at e2;exact ih _ _ _ py e2
def uL (n:Nat) (lt:Nat->Nat->Bool) (left:Bool) (k:Nat) (q:Array Nat) (base i:Nat):Option Bool:=if decide (base+i<q.size)&&decide (q.getD (base+i) 0<n)&&decide (k<n)&& !(q.getD (base+i) 0==k)then some (if left=true then lt (q.getD (base+i) 0) k else !lt k (q.getD (base+i) 0))else none
abbrev qg:=Option (Option Nat)×Nat×Nat
section
variable (n:Nat) (lt:Nat->Nat->Bool) (left:Bool) (k:Nat) (q:Array Nat) (base hint mx:Nat)
def wR (_:Nat) (b:qg) (t:SD):Option (Bool×qg×SD):=if b.2.2>=mx then some (true,(none,b.2.1,b.2.2),t)else(uL n lt left k q base (hint+b.2.2)).bind fun c=>if(!c)=true then some (true,(none,b.2.1,b.2.2),t)else some (false,(none,b.2.2,2*b.2.2+1),t)
def lu (_:Nat) (b:qg) (t:SD):Option (Bool×qg×SD):=if b.2.2>=mx then some (true,(none,b.2.1,b.2.2),t)else(uL n lt left k q base (hint-b.2.2)).bind fun c=>if c=true then some (true,(none,b.2.1,b.2.2),t)else some (false,(none,b.2.2,2*b.2.2+1),t)
def nj (_:Nat) (b:qg) (t:SD):Option (Bool×qg×SD):=if b.2.1>=b.2.2 then some (true,(none,b.2.1,b.2.2),t)else(uL n lt left k q base (b.2.1+(b.2.2-b.2.1)/2)).bind fun c=>some (false,if c=true then(none,b.2.1+(b.2.2-b.2.1)/2+1,b.2.2)else(none,b.2.1,b.2.1+(b.2.2-b.2.1)/2),t)
def yI (m:Nat) (lo hi:Nat) (t:SD):Option Nat:=(fQ (nj n lt left k q base) (EX 0 m) (none,lo,hi) t).map (·.1.2.2)
def fm (m:Nat) (t:SD):Option Nat:=(uL n lt left k q base hint).bind fun right=>
 if right=true then(fQ (wR n lt left k q base hint (m-hint)) (EX 0 m) (none,0,1) t).bind fun r=>yI n lt left k q base m (hint+r.1.2.1+1) (hint+min r.1.2.2 (m-hint)) t
 else(fQ (lu n lt left k q base hint (hint+1)) (EX 0 m) (none,0,1) t).bind fun r=>yI n lt left k q base m (hint+1-min r.1.2.2 (hint+1)) (hint-r.1.2.1) t
end
section
variable {prog:Program} {w:World} {E:Value->Shared->Prop} {A:Around} {κ:SortKind} {it:Array Keyed} {s:Shared} {n:Nat} {lt:Nat->Nat->Bool} {left:Bool} {k:Nat} {q:Array Nat} {base hint mx:Nat}
theorem zC {i:Nat} (hi:i<q.size):(q.map (kas_item it))[i]?=some (kas_item it (q.getD i 0)):=wM (κ:=oneType') (t:=(q,#[],0)) hi
theorem lx (ans:cN prog w A κ it s n lt) {t:SD} {i:Nat} {c:Bool} {Q:Option Bool->SortSt->Shared->Prop} (h:uL n lt left k q base i=some c) (hq:Q (some c) (cJ κ it t) s):
  kasC (model prog w) A E (elem' (q.map (kas_item it)) (base+i) >>= fun x=>if left=true then lt' x (kas_item it k)else lt' (kas_item it k) x >>= fun d=>pure (d.map fun x=> !x)) Q (cJ κ it t) s:=by
 unfold uL at h
 split at h
 ·rename_i z
  simp only[EF,decide_eq_true_eq,F1,beq_eq_false_iff_ne]at z
  obtain⟨⟨⟨z1,z2⟩,z3⟩,z4⟩:=z
  cases h
  rw[elem'_eq,zC z1]
  refine kasC_bind (kasC_pure ?_)
  cases left with
  | true=>exact sN ans z2 z3 z4 hq
  | false=>exact kasC_bind (sN ans z3 z2 (Ne.symm z4) (kasC_pure hq))
 ·cases h
theorem AH {ls:List Nat} {b:qg} {t:SD} {r:qg×SD} (h:fQ (wR n lt left k q base hint mx) ls b t=some r) (hb:b.1=none):r.1.1=none/\r.2=t:=by
 refine dW (fun b' t'=>b'.1=none/\t'=t) (fun x b' t' y p e=>?_) ls b t r ⟨hb,rfl⟩ h
 unfold wR at e
 split at e
 ·cases e;exact⟨rfl,p.2⟩
 ·obtain⟨c,_,e3⟩:=DL.mp e
  split at e3<;>(cases e3;exact⟨rfl,p.2⟩)
theorem wU {ls:List Nat} {b:qg} {t:SD} {r:qg×SD} (h:fQ (lu n lt left k q base hint mx) ls b t=some r) (hb:b.1=none):r.1.1=none/\r.2=t:=by
 refine dW (fun b' t'=>b'.1=none/\t'=t) (fun x b' t' y p e=>?_) ls b t r ⟨hb,rfl⟩ h
 unfold lu at e
 split at e
 ·cases e;exact⟨rfl,p.2⟩
 ·obtain⟨c,_,e3⟩:=DL.mp e
  split at e3<;>(cases e3;exact⟨rfl,p.2⟩)
theorem yJ {ls:List Nat} {b:qg} {t:SD} {r:qg×SD} (h:fQ (nj n lt left k q base) ls b t=some r) (hb:b.1=none):r.1.1=none/\r.2=t:=by
 refine dW (fun b' t'=>b'.1=none/\t'=t) (fun x b' t' y p e=>?_) ls b t r ⟨hb,rfl⟩ h
 unfold nj at e
 split at e
 ·cases e;exact⟨rfl,p.2⟩
 ·obtain⟨c,_,e3⟩:=DL.mp e
  cases e3
  cases c<;>exact⟨rfl,p.2⟩
theorem eU (ans:cN prog w A κ it s n lt) {t:SD} {m r:Nat} {Q:Option Nat->SortSt->Shared->Prop} (h:fm n lt left k q base hint m t=some r) (hq:Q (some r) (cJ κ it t) s):
  kasC (model prog w) A E (yH left (kas_item it k) (q.map (kas_item it)) base m hint) Q (cJ κ it t) s:=by
 unfold fm at h
 obtain⟨right,h1,h2⟩:=DL.mp h
 refine kasC_bind (lx ans h1 ?_)
 have mid:∀{lo hi:Nat},yI n lt left k q base m lo hi t=some r->∀{body:Nat->qg->StateT SortSt Sem (ForInStep qg)},(∀x b t' y,nj n lt left k q base x b t'=some y->∀R:ForInStep qg->SortSt->Shared->Prop,R (if y.1=true then .done y.2.1 else .yield y.2.1) (cJ κ it y.2.2) s->kasC (model prog w) A E (body x b) R (cJ κ it t') s)->
   ∀{R:qg->SortSt->Shared->Prop},(∀lo',R (none,lo',r) (cJ κ it t) s)->kasC (model prog w) A E (forIn [:m] (none,lo,hi) body) R (cJ κ it t) s:=by
  intro lo hi e body hb R hR
  unfold yI at e
  obtain⟨z,e1,e2⟩:=DO.mp e
  have kz:=yJ e1 rfl
  refine kasC_range (dw hb _ _ _ z e1 ?_)
  obtain⟨⟨z1,z2,z3⟩,z4⟩:=z
  obtain⟨k1,k2⟩:=kz
  cases k1
  cases k2
  cases e2
  exact hR z2
 cases right with
 | true=>
  obtain⟨z,e1,e2⟩:=DL.mp h2
  have kz:=AH e1 rfl
  refine kasC_bind (kasC_range (dw (step:=wR n lt left k q base hint (m-hint)) (fun x b u y f R hR=>?_) _ _ _ z e1 ?_))
  ·unfold wR at f
   dsimp only
   by_cases g:b.2.2>=m-hint
   ·rw [if_pos g]at f ⊢
    cases f
    exact kasC_pure hR
   ·rw [if_neg g]at f ⊢
    obtain⟨c,g1,g2⟩:=DL.mp f
    refine kasC_bind (lx ans g1 ?_)
    cases c
    ·cases g2;exact kasC_pure hR
    ·cases g2;exact kasC_pure hR
  ·obtain⟨⟨z1,z2,z3⟩,z4⟩:=z
   obtain⟨k1,k2⟩:=kz
   cases k1
   cases k2
   refine kasC_bind (mid e2 (fun x b u y f R hR=>?_) fun lo'=>kasC_pure hq)
   unfold nj at f
   dsimp only
   by_cases g:b.2.1>=b.2.2
   ·rw [if_pos g]at f ⊢
    cases f
    exact kasC_pure hR
   ·rw [if_neg g]at f ⊢
    obtain⟨c,g1,g2⟩:=DL.mp f
    cases g2
    refine kasC_bind (lx ans g1 ?_)
    cases c
    ·exact kasC_pure hR
    ·exact kasC_pure hR
 | false=>
  obtain⟨z,e1,e2⟩:=DL.mp h2
  have kz:=wU e1 rfl
  refine kasC_bind (kasC_range (dw (step:=lu n lt left k q base hint (hint+1)) (fun x b u y f R hR=>?_) _ _ _ z e1 ?_))
  ·unfold lu at f
   dsimp only
   by_cases g:b.2.2>=hint+1
   ·rw [if_pos g]at f ⊢
    cases f
    exact kasC_pure hR
   ·rw [if_neg g]at f ⊢
    obtain⟨c,g1,g2⟩:=DL.mp f
    refine kasC_bind (lx ans g1 ?_)
    cases c
    ·cases g2;exact kasC_pure hR
    ·cases g2;exact kasC_pure hR
  ·obtain⟨⟨z1,z2,z3⟩,z4⟩:=z
   obtain⟨k1,k2⟩:=kz
   cases k1
   cases k2
   refine kasC_bind (mid e2 (fun x b u y f R hR=>?_) fun lo'=>kasC_pure hq)
   unfold nj at f
   dsimp only
   by_cases g:b.2.1>=b.2.2
   ·rw [if_pos g]at f ⊢
    cases f
    exact kasC_pure hR
   ·rw [if_neg g]at f ⊢
    obtain⟨c,g1,g2⟩:=DL.mp f
    cases g2
    refine kasC_bind (lx ans g1 ?_)
    cases c
    ·exact kasC_pure hR
    ·exact kasC_pure hR
end
section
variable {prog:Program} {w:World} {E:Value->Shared->Prop} {A:Around} {κ:SortKind} {it:Array Keyed} {s:Shared} {n:Nat} {lt:Nat->Nat->Bool}
theorem yK {β β':Type} (ψ:β->β') {step:Nat->β->SD->Option (Bool×β×SD)} {body:Nat->β'->StateT SortSt Sem (ForInStep β')}
  (h:∀x b t r,step x b t=some r->∀R:ForInStep β'->SortSt->Shared->Prop,R (if r.1=true then .done (ψ r.2.1)else .yield (ψ r.2.1)) (cJ κ it r.2.2) s->kasC (model prog w) A E (body x (ψ b)) R (cJ κ it t) s)
  {Q:β'->SortSt->Shared->Prop}:∀(ls:List Nat) (b:β) (t:SD) (r:β×SD),fQ step ls b t=some r->Q (ψ r.1) (cJ κ it r.2) s->kasC (model prog w) A E (forIn ls (ψ b) body) Q (cJ κ it t) s:=by
 intro ls
 induction ls with
 | nil=>
  intro b t r e q
  cases e
  exact kasC_nil q
 | cons x l ih=>
  intro b t r e q
  obtain⟨y,e1,e2⟩:=DL.mp e
  refine kasC_cons (h x b t y e1 _ ?_)
  by_cases z:y.1=true
  ·rw [if_pos z]at e2 ⊢
   cases e2
   exact q
  ·rw [if_neg z]at e2 ⊢
   exact ih _ _ _ e2 q
theorem bb {α:Type} {c:Prop} [Decidable c] {m m':StateT SortSt Sem α} {Q:α->SortSt->Shared->Prop} {st:SortSt} (h:c) (k:kasC (model prog w) A E m Q st s):kasC (model prog w) A E (if c then m else m') Q st s:=by rw[if_pos h];exact k
theorem aV {α:Type} {c:Prop} [Decidable c] {m m':StateT SortSt Sem α} {Q:α->SortSt->Shared->Prop} {st:SortSt} (h:¬c) (k:kasC (model prog w) A E m' Q st s):kasC (model prog w) A E (if c then m else m') Q st s:=by rw[if_neg h];exact k
theorem oe {β β':Type} (ψ:β->β') {step:Nat->β->SD->Option (Bool×β×SD)} {body:Nat->β'->StateT SortSt Sem (ForInStep β')} {Q:β'->SortSt->Shared->Prop} {ls:List Nat} {b':β'} {b:β} {t:SD} {r:β×SD} (eb:ψ b=b') (e:fQ step ls b t=some r)
  (h:∀x b t r,step x b t=some r->∀R:ForInStep β'->SortSt->Shared->Prop,R (if r.1=true then .done (ψ r.2.1)else .yield (ψ r.2.1)) (cJ κ it r.2.2) s->kasC (model prog w) A E (body x (ψ b)) R (cJ κ it t) s)
  (q:Q (ψ r.1) (cJ κ it r.2) s):kasC (model prog w) A E (forIn ls b' body) Q (cJ κ it t) s:=by
 subst eb
 exact yK ψ h ls b t r e q
end
def yL (n:Nat) (lt:Nat->Nat->Bool) (qa qb:Array Nat) (ia ib:Nat):Option Bool:=if decide (ib<qb.size)&&decide (ia<qa.size)&&decide (qb.getD ib 0<n)&&decide (qa.getD ia 0<n)&& !(qb.getD ib 0==qa.getD ia 0)then some (lt (qb.getD ib 0) (qa.getD ia 0))else none
abbrev MB (α:Type):=Option (Array α)×Array α×Nat×Nat×Nat×Nat
def ly (it:Array Keyed) (b:MB Nat):MB Keyed:=(b.1.map fun x=>x.map (kas_item it),b.2.1.map (kas_item it),b.2.2)
def yM (n:Nat) (lt:Nat->Nat->Bool) (qa qb:Array Nat) (mg:Nat) (_:Nat) (b:MB Nat) (t:SD):Option (Bool×MB Nat×SD):=
 (yL n lt qa qb b.2.2.1 b.2.2.2.1).bind fun c=>
  if c=true then
   if(b.2.2.2.1+1==qb.size)=true then some (true,(some (b.2.1.push (qb.getD b.2.2.2.1 0)++qa.extract b.2.2.1 qa.size++qb.extract (b.2.2.2.1+1) qb.size),b.2.1.push (qb.getD b.2.2.2.1 0),b.2.2.1,b.2.2.2.1+1,0,b.2.2.2.2.2+1),t)
   else if b.2.2.2.2.2+1>=mg then some (true,(none,b.2.1.push (qb.getD b.2.2.2.1 0),b.2.2.1,b.2.2.2.1+1,0,b.2.2.2.2.2+1),t)else some (false,(none,b.2.1.push (qb.getD b.2.2.2.1 0),b.2.2.1,b.2.2.2.1+1,0,b.2.2.2.2.2+1),t)
  else
   if(b.2.2.1+1+1==qa.size)=true then some (true,(some (b.2.1.push (qa.getD b.2.2.1 0)++qb.extract b.2.2.2.1 qb.size++qa.extract (b.2.2.1+1) qa.size),b.2.1.push (qa.getD b.2.2.1 0),b.2.2.1+1,b.2.2.2.1,b.2.2.2.2.1+1,0),t)
   else if b.2.2.2.2.1+1>=mg then some (true,(none,b.2.1.push (qa.getD b.2.2.1 0),b.2.2.1+1,b.2.2.2.1,b.2.2.2.2.1+1,0),t)else some (false,(none,b.2.1.push (qa.getD b.2.2.1 0),b.2.2.1+1,b.2.2.2.1,b.2.2.2.2.1+1,0),t)
abbrev zD (α:Type):=Option (Array α)×Array α×Nat×Nat×Nat×Nat×Nat
def dX (it:Array Keyed) (b:zD Nat):zD Keyed:=(b.1.map fun x=>x.map (kas_item it),b.2.1.map (kas_item it),b.2.2)
def sO (n:Nat) (lt:Nat->Nat->Bool) (qa qb:Array Nat) (out:Array Nat) (ia ib mg k:Nat) (t:SD):Option (Bool×zD Nat×SD):=
 if ib+1<qb.size then if ia<qa.size then(fm n lt true (qa.getD ia 0) qb (ib+1) 0 (qb.size-(ib+1)) t).bind fun k1=>
  if 0<k1 then if ib+1+k1<qb.size then if ia+1+1<qa.size then
   some (decide (k<7)&&decide (k1<7),(none,(out.push (qb.getD ib 0)++qb.extract (ib+1) (ib+1+k1)).push (qa.getD ia 0),ia+1,ib+1+k1,mg,k,k1),t)
  else none else none else none
 else none else none
def BN (n:Nat) (lt:Nat->Nat->Bool) (qa qb:Array Nat) (_:Nat) (b:zD Nat) (t:SD):Option (Bool×zD Nat×SD):=
 if b.2.2.2.2.1>1 then if b.2.2.2.1<qb.size then(fm n lt false (qb.getD b.2.2.2.1 0) qa b.2.2.1 0 (qa.size-b.2.2.1) (t.1,t.2.1,b.2.2.2.2.1-1)).bind fun k=>
  if k>0 then
   if(b.2.2.1+k+1==qa.size)=true then some (true,(some (b.2.1++qa.extract b.2.2.1 (b.2.2.1+k)++qb.extract b.2.2.2.1 qb.size++qa.extract (b.2.2.1+k) qa.size),b.2.1++qa.extract b.2.2.1 (b.2.2.1+k),b.2.2.1+k,b.2.2.2.1,b.2.2.2.2.1-1,k,b.2.2.2.2.2.2),(t.1,t.2.1,b.2.2.2.2.1-1))
   else if b.2.2.1+k<qa.size then sO n lt qa qb (b.2.1++qa.extract b.2.2.1 (b.2.2.1+k)) (b.2.2.1+k) b.2.2.2.1 (b.2.2.2.2.1-1) k (t.1,t.2.1,b.2.2.2.2.1-1)else none
  else sO n lt qa qb b.2.1 b.2.2.1 b.2.2.2.1 (b.2.2.2.2.1-1) k (t.1,t.2.1,b.2.2.2.2.1-1)
 else none else none
abbrev OB (α:Type):=Option (Array α)×Array α×Nat×Nat×Nat
def uM (it:Array Keyed) (b:OB Nat):OB Keyed:=(b.1.map fun x=>x.map (kas_item it),b.2.1.map (kas_item it),b.2.2)
def BO (n:Nat) (lt:Nat->Nat->Bool) (qa qb:Array Nat) (_:Nat) (b:OB Nat) (t:SD):Option (Bool×OB Nat×SD):=
 (fQ (yM n lt qa qb b.2.2.2.2) (EX 0 (qa.size+qb.size)) (none,b.2.1,b.2.2.1,b.2.2.2.1,0,0) t).bind fun r=>
  match r.1.1 with
  | some x=>some (true,(some x,r.1.2.1,r.1.2.2.1,r.1.2.2.2.1,b.2.2.2.2),t)
  | none=>(fQ (BN n lt qa qb) (EX 0 (qa.size+qb.size)) (none,r.1.2.1,r.1.2.2.1,r.1.2.2.2.1,b.2.2.2.2+1,r.1.2.2.2.2.1,r.1.2.2.2.2.2) t).bind fun q=>
   match q.1.1 with
   | some x=>some (true,(some x,q.1.2.1,q.1.2.2.1,q.1.2.2.2.1,q.1.2.2.2.2.1),q.2)
   | none=>some (false,(none,q.1.2.1,q.1.2.2.1,q.1.2.2.2.1,q.1.2.2.2.2.1+1),(q.2.1,q.2.2.1,q.1.2.2.2.2.1+1))
def lz (n:Nat) (lt:Nat->Nat->Bool) (qa qb:Array Nat) (t:SD):Option (Array Nat×SD):=
 if decide (1<qa.size)&&decide (1<qb.size)then(fQ (BO n lt qa qb) (EX 0 (qa.size+qb.size)) (none,#[qb.getD 0 0],0,1,t.2.2) t).bind fun r=>r.1.1.map fun x=>(x,r.2)else none
section
variable {prog:Program} {w:World} {E:Value->Shared->Prop} {A:Around} {κ:SortKind} {it:Array Keyed} {s:Shared} {n:Nat} {lt:Nat->Nat->Bool} {qa qb:Array Nat} {mg:Nat}
theorem AI {ls:List Nat} {b:MB Nat} {t:SD} {r:MB Nat×SD} (h:fQ (yM n lt qa qb mg) ls b t=some r):r.2=t:=by
 refine dW (fun _ t'=>t'=t) (fun x b' t' y p e=>?_) ls b t r rfl h
 unfold yM at e
 obtain⟨c,_,e3⟩:=DL.mp e
 split at e3<;>(split at e3<;>first | (cases e3;exact p) | (split at e3<;>(cases e3;exact p)))
theorem uN {ia ib:Nat} {c:Bool} (h:yL n lt qa qb ia ib=some c):ib<qb.size/\ia<qa.size/\qb.getD ib 0<n/\qa.getD ia 0<n/\qb.getD ib 0≠qa.getD ia 0/\c=lt (qb.getD ib 0) (qa.getD ia 0):=by
 unfold yL at h
 split at h
 ·rename_i z
  simp only[EF,decide_eq_true_eq,F1,beq_eq_false_iff_ne]at z
  cases h
  exact⟨z.1.1.1.1,z.1.1.1.2,z.1.1.2,z.1.2,z.2,rfl⟩
 ·cases h
theorem eV {q:Array Nat} {i:Nat} {t:SD} {Q:Keyed->SortSt->Shared->Prop} (hi:i<q.size) (hq:Q (kas_item it (q.getD i 0)) (cJ κ it t) s):kasC (model prog w) A E (elem' (q.map (kas_item it)) i) Q (cJ κ it t) s:=by
 rw[elem'_eq,zC hi]
 exact kasC_pure hq
theorem sP (ans:cN prog w A κ it s n lt) {t:SD} {out:Array Nat} {ia ib m k:Nat} {y:Bool×zD Nat×SD} {body:Keyed->StateT SortSt Sem (ForInStep (zD Keyed))} {R:ForInStep (zD Keyed)->SortSt->Shared->Prop} (f:sO n lt qa qb out ia ib m k t=some y) (hR:R (if y.1=true then .done (dX it y.2.1)else .yield (dX it y.2.1)) (cJ κ it y.2.2) s)
  (hb:∀k1 z,0<k1->ib+1+k1<qb.size->ia+1+1<qa.size->ia<qa.size->ib+1<qb.size->fm n lt true (qa.getD ia 0) qb (ib+1) 0 (qb.size-(ib+1)) t=some k1->z=(none,(out.push (qb.getD ib 0)++qb.extract (ib+1) (ib+1+k1)).push (qa.getD ia 0),ia+1,ib+1+k1,m,k,k1)->R (if(decide (k<7)&&decide (k1<7))=true then .done (dX it z)else .yield (dX it z)) (cJ κ it t) s->kasC (model prog w) A E (body (kas_item it (qb.getD ib 0))) R (cJ κ it t) s):
  kasC (model prog w) A E (elem' (qb.map (kas_item it)) ib >>= body) R (cJ κ it t) s:=by
 unfold sO at f
 by_cases h1:ib+1<qb.size
 ·rw [if_pos h1]at f
  by_cases h2:ia<qa.size
  ·rw [if_pos h2]at f
   obtain⟨k1,g,f⟩:=DL.mp f
   by_cases h3:0<k1
   ·rw [if_pos h3]at f
    by_cases h4:ib+1+k1<qb.size
    ·rw [if_pos h4]at f
     by_cases h5:ia+1+1<qa.size
     ·rw [if_pos h5]at f
      cases f
      exact kasC_bind (eV (Nat.lt_of_succ_lt h1) (hb k1 _ h3 h4 h5 h2 h1 g rfl hR))
     ·rw [if_neg h5]at f;cases f
    ·rw [if_neg h4]at f;cases f
   ·rw [if_neg h3]at f;cases f
  ·rw [if_neg h2]at f;cases f
 ·rw [if_neg h1]at f;cases f
theorem qR (ans:cN prog w A κ it s n lt) {t:SD} {r:Array Nat×SD} {Q:Array Keyed->SortSt->Shared->Prop} (h:lz n lt qa qb t=some r) (hq:Q (r.1.map (kas_item it)) (cJ κ it r.2) s):
  kasC (model prog w) A E (pF (qa.map (kas_item it)) (qb.map (kas_item it))) Q (cJ κ it t) s:=by
 unfold lz at h
 split at h
 ·rename_i z
  simp only[EF,decide_eq_true_eq]at z
  obtain⟨z1,z2⟩:=z
  obtain⟨y,e1,e2⟩:=DL.mp h
  obtain⟨x0,e3,rfl⟩:=DO.mp e2
  refine kasC_bind (kasC_lift (wpAny_rule ?_))
  refine kasC_bind (eV (Nat.lt_of_succ_lt z2) ?_)
  dsimp only
  rw[if_neg (by rw[EW];simp;omega),if_neg (by rw[EW];simp;omega)]
  refine kasC_bind (kasC_get (kasC_bind (kasC_range ?_)))
  have e0:(qa.map (kas_item it)).size+(qb.map (kas_item it)).size-0=qa.size+qb.size:=by rw[EW,EW];rfl
  rw[e0]
  refine oe (uM it) (by unfold uM;simp) e1 (fun x b u y2 f R hR=>?_) ?_
  ·unfold BO at f
   obtain⟨c,f1,f⟩:=DL.mp f
   have kc:=AI f1
   obtain⟨b1,out,ia,ib,mg⟩:=b
   dsimp only[uM]at f1 f ⊢
   refine kasC_bind (kasC_range ?_)
   rw[e0]
   refine oe (ly it) (by unfold ly;simp) f1 (fun x b u y2 f R hR=>?_) ?_
   ·unfold yM at f
    obtain⟨c,f1,f2⟩:=DL.mp f
    obtain⟨b1,out,ia,ib,ac,bc⟩:=b
    obtain⟨a1,a2,a3,a4,a5,a6⟩:=uN (show yL n lt qa qb ia ib=some c from f1)
    dsimp only[ly]at f2 ⊢
    refine kasC_bind (eV a1 (kasC_bind (eV a2 (kasC_bind (sN ans a3 a4 a5 ?_)))))
    rw[<- a6]
    cases c with
    | true=>
     refine kasC_bind (eV a1 ?_)
     rw[if_pos rfl]at f2
     by_cases g:(ib+1==qb.size)=true
     ·rw [if_pos g]at f2
      cases f2
      exact bb (by rw[EW];exact g) (kasC_pure (by simpa [ly]using hR))
     ·rw [if_neg g]at f2
      by_cases g2:bc+1>=mg
      ·rw [if_pos g2]at f2
       cases f2
       exact aV (by rw[EW];exact g) (bb g2 (kasC_pure (by simpa [ly]using hR)))
      ·rw [if_neg g2]at f2
       cases f2
       exact aV (by rw[EW];exact g) (aV g2 (kasC_pure (by simpa [ly]using hR)))
    | false=>
     refine kasC_bind (eV a2 ?_)
     rw[if_neg (by simp)]at f2
     by_cases g:(ia+1+1==qa.size)=true
     ·rw [if_pos g]at f2
      cases f2
      exact bb (by rw[EW];exact g) (kasC_pure (by simpa [ly]using hR))
     ·rw [if_neg g]at f2
      by_cases g2:ac+1>=mg
      ·rw [if_pos g2]at f2
       cases f2
       exact aV (by rw[EW];exact g) (bb g2 (kasC_pure (by simpa [ly]using hR)))
      ·rw [if_neg g2]at f2
       cases f2
       exact aV (by rw[EW];exact g) (aV g2 (kasC_pure (by simpa [ly]using hR)))
   ·obtain⟨⟨c1,c2,c3,c4,c5,c6⟩,c7⟩:=c
    cases kc
    cases c1 with
    | some x1=>
     cases f
     exact kasC_pure (by simpa [ly,uM]using hR)
    | none=>
     dsimp only[ly]at f ⊢
     obtain⟨d,f2,f⟩:=DL.mp f
     refine kasC_bind (kasC_lift (wpAny_rule (kasC_bind (kasC_range ?_))))
     rw[e0]
     refine oe (dX it) (by unfold dX;simp) f2 (fun x b u y2 f R hR=>?_) ?_
     ·obtain⟨b1,o,ia,ib,mg,ac,bc⟩:=b
      unfold BN at f
      dsimp only[dX]at f ⊢
      by_cases g1:mg>1
      ·rw [if_pos g1]at f
       by_cases g2:ib<qb.size
       ·rw [if_pos g2]at f
        obtain⟨k,g3,f⟩:=DL.mp f
        refine bb g1 (kasC_bind (kasC_modify ?_))
        refine kasC_bind (eV (t:=(u.1,u.2.1,mg-1)) g2 ?_)
        have es:(qa.map (kas_item it)).size=qa.size:=EW
        have es2:(qb.map (kas_item it)).size=qb.size:=EW
        rw[es,es2]
        refine kasC_bind (eU ans g3 ?_)
        by_cases g4:k>0
        ·rw [if_pos g4]at f
         refine bb g4 ?_
         by_cases g5:(ia+k+1==qa.size)=true
         ·rw [if_pos g5]at f
          cases f
          exact bb g5 (kasC_pure (by simpa [dX]using hR))
         ·rw [if_neg g5]at f
          by_cases g6:ia+k<qa.size
          ·rw [if_pos g6]at f
           refine aV g5 (aV (by simp;omega) ?_)
           refine sP ans f hR fun k1 z a1 a2 a3 a4 a5 a6 ez hz=>?_
           refine aV (by simp;omega) (kasC_bind (eV a4 (kasC_bind (eU ans a6 (bb a1 (aV (by simp;omega) (kasC_bind (eV a4 (aV (by simp;omega) ?_)))))))))
           subst ez
           by_cases c7:(decide (k<7)&&decide (k1<7))=true
           ·rw [if_pos c7]at hz
            exact bb c7 (kasC_pure (by simpa [dX]using hz))
           ·rw [if_neg c7]at hz
            exact aV c7 (kasC_pure (by simpa [dX]using hz))
          ·rw [if_neg g6]at f;cases f
        ·rw [if_neg g4]at f
         refine aV g4 ?_
         refine sP ans f hR fun k1 z a1 a2 a3 a4 a5 a6 ez hz=>?_
         refine aV (by simp;omega) (kasC_bind (eV a4 (kasC_bind (eU ans a6 (bb a1 (aV (by simp;omega) (kasC_bind (eV a4 (aV (by simp;omega) ?_)))))))))
         subst ez
         by_cases c7:(decide (k<7)&&decide (k1<7))=true
         ·rw [if_pos c7]at hz
          exact bb c7 (kasC_pure (by simpa [dX]using hz))
         ·rw [if_neg c7]at hz
          exact aV c7 (kasC_pure (by simpa [dX]using hz))
       ·rw [if_neg g2]at f;cases f
      ·rw [if_neg g1]at f;cases f
     ·obtain⟨⟨d1,d2,d3,d4,d5,d6,d7⟩,d8⟩:=d
      cases d1 with
      | some x1=>
       cases f
       exact kasC_pure (by simpa [dX,uM]using hR)
      | none=>
       cases f
       exact kasC_bind (kasC_modify (kasC_pure (by simpa [dX,uM]using hR)))
  ·obtain⟨⟨y1,y2⟩,y3⟩:=y
   cases e3
   exact kasC_pure hq
 ·cases h
end
def putAt {α:Type} (off:Nat) (m:Array α) (p:Array α):Array α:=m.toList.zipIdx.foldl (fun a x=>a.setIfInBounds (off+x.2) x.1) p
theorem uO {α β:Type} (f:α->β) (off:Nat) (m p:Array α):putAt off (m.map f) (p.map f)=(putAt off m p).map f:=by
 unfold putAt
 rw[Array.toList_map,List.zipIdx_map]
 generalize m.toList.zipIdx=l
 induction l generalizing p with
 | nil=>rfl
 | cons x l ih=>
  rw[En,FS,FS]
  have e:(p.map f).setIfInBounds (off+(Prod.map f id x).2) (Prod.map f id x).1=(p.setIfInBounds (off+x.2) x.1).map f:=by
   rw[Array.map_setIfInBounds];rfl
  rw[e]
  exact ih _
def eW (n:Nat) (lt:Nat->Nat->Bool) (i:Nat) (t:SD):Option SD:=
 (t.2.1[i]?).bind fun a=>(t.2.1[i+1]?).bind fun b=>
  if b.1<t.1.size then
   (fm n lt false (t.1.getD b.1 0) t.1 a.1 0 a.2.1 (t.1,(t.2.1.setIfInBounds i (a.1,a.2.1+b.2.1,a.2.2)).eraseIdxIfInBounds (i+1),t.2.2)).bind fun k=>
    if(a.2.1-k==0)=true then none
    else if a.1+k+(a.2.1-k)-1<t.1.size then
     (fm n lt true (t.1.getD (a.1+k+(a.2.1-k)-1) 0) t.1 b.1 (b.2.1-1) b.2.1 (t.1,(t.2.1.setIfInBounds i (a.1,a.2.1+b.2.1,a.2.2)).eraseIdxIfInBounds (i+1),t.2.2)).bind fun nb=>
      if(nb==0)=true then none
      else if a.2.1-k<=nb then(lz n lt (t.1.extract (a.1+k) b.1) (t.1.extract b.1 (b.1+nb)) (t.1,(t.2.1.setIfInBounds i (a.1,a.2.1+b.2.1,a.2.2)).eraseIdxIfInBounds (i+1),t.2.2)).map fun m=>(putAt (a.1+k) m.1 m.2.1,m.2.2)
      else none
    else none
  else none
section
variable {prog:Program} {w:World} {E:Value->Shared->Prop} {A:Around} {κ:SortKind} {it:Array Keyed} {s:Shared} {n:Nat} {lt:Nat->Nat->Bool}
theorem wV {st st':SortSt} {Q:PUnit->SortSt->Shared->Prop} (h:Q ⟨⟩ st' s):kasC (model prog w) A E (set st':StateT SortSt Sem PUnit) Q st s:=by
 unfold kasC
 rw[StateT.run_set]
 exact wpAny_pure h
theorem qT (ans:cN prog w A κ it s n lt) {t t':SD} {i:Nat} {Q:Bool->SortSt->Shared->Prop} (h:eW n lt i t=some t') (hq:Q true (cJ κ it t') s):kasC (model prog w) A E (mergeAt' i) Q (cJ κ it t) s:=by
 unfold eW at h
 obtain⟨a,ha,h⟩:=DL.mp h
 obtain⟨b,hb,h⟩:=DL.mp h
 obtain⟨sa,na,pw⟩:=a
 obtain⟨sb,nb,pw2⟩:=b
 by_cases zb:sb<t.1.size
 ·rw [if_pos (show(sb,nb,pw2).1<t.1.size from zb)]at h
  obtain⟨k,hk,h⟩:=DL.mp h
  by_cases zk:(na-k==0)=true
  ·rw [if_pos zk]at h;cases h
  rw[if_neg zk]at h
  by_cases zs:sa+k+(na-k)-1<t.1.size
  ·rw [if_pos (show(sa,na,pw).1+k+((sa,na,pw).2.1-k)-1<t.1.size from zs)]at h
   obtain⟨nb',hn,h⟩:=DL.mp h
   by_cases zn:(nb'==0)=true
   ·rw [if_pos zn]at h;cases h
   rw[if_neg zn]at h
   by_cases zl:na-k<=nb'
   ·rw [if_pos (show(sa,na,pw).2.1-k<=nb' from zl)]at h
    obtain⟨m,hm,h⟩:=DO.mp h
    refine kasC_bind (kasC_get ?_)
    show kasC _ _ _ (match(t.2.1[i]?,t.2.1[i+1]?)with | (some (sa,na,power),some (sb,nb,snd))=>_ | x=>_) _ _ _
    rw[ha,hb]
    refine kasC_bind (wV ?_)
    generalize ht1:((t.1,(t.2.1.setIfInBounds i ((sa,na,pw).1,(sa,na,pw).2.1+(sb,nb,pw2).2.1,(sa,na,pw).2.2)).eraseIdxIfInBounds (i+1),t.2.2):SD)=t1 at hk hn hm
    show kasC _ _ _ _ _ (cJ κ it (t.1,(t.2.1.setIfInBounds i ((sa,na,pw).1,(sa,na,pw).2.1+(sb,nb,pw2).2.1,(sa,na,pw).2.2)).eraseIdxIfInBounds (i+1),t.2.2)) _
    rw[ht1]
    refine kasC_bind (eV zb ?_)
    refine kasC_bind (eU ans hk ?_)
    refine aV zk ?_
    refine kasC_bind (eV zs ?_)
    refine kasC_bind (eU ans hn ?_)
    refine aV zn (bb zl ?_)
    have ex:(arrOf (cJ κ it t)).extract (sa+k) sb=(t.1.extract (sa+k) sb).map (kas_item it):=by show(t.1.map (kas_item it)).extract _ _=_;simp
    have ey:(arrOf (cJ κ it t)).extract sb (sb+nb')=(t.1.extract sb (sb+nb')).map (kas_item it):=by show(t.1.map (kas_item it)).extract _ _=_;simp
    show kasC _ _ _ (pF ((arrOf (cJ κ it t)).extract (sa+k) sb) ((arrOf (cJ κ it t)).extract sb (sb+nb')) >>= _) _ _ _
    rw[ex,ey]
    refine kasC_bind (qR ans hm ?_)
    refine kasC_bind (kasC_modify (kasC_bind (kasC_get (kasC_pure ?_))))
    have em:=uO (kas_item it) (sa+k) m.1 m.2.1
    subst ht1
    cases h
    show Q true (SortSt.mk' κ (putAt (sa+k) (m.1.map (kas_item it)) (m.2.1.map (kas_item it))) _ _ none) s
    rw[em]
    exact hq
   ·rw [if_neg (show ¬(sa,na,pw).2.1-k<=nb' from zl)]at h;cases h
  ·rw [if_neg (show ¬(sa,na,pw).1+k+((sa,na,pw).2.1-k)-1<t.1.size from zs)]at h;cases h
 ·rw [if_neg (show ¬(sb,nb,pw2).1<t.1.size from zb)]at h;cases h
end
abbrev zE:=Option (Option Nat)×Nat
abbrev Cb:=Option (Option Nat)×Nat×Nat
section
variable (n:Nat) (lt:Nat->Nat->Bool) (lo nrem:Nat)
def iT (_:Nat) (b:zE) (t:SD):Option (Bool×zE×SD):=(jC n lt t.1 (lo+b.2) (lo+b.2-1)).bind fun c=>if c=true then some (true,(none,b.2),t)else some (false,(none,b.2+1),t)
def hE (_:Nat) (b:Cb) (t:SD):Option (Bool×Cb×SD):=(jC n lt t.1 (lo+b.2.1) (lo+b.2.1-1)).bind fun c=>
 if c=true then some (false,(none,b.2.1+1,0),if b.2.2>0 then(kas_rev t.1 (lo+b.2.1-(b.2.2+1)) (lo+b.2.1),t.2)else t)
 else(jC n lt t.1 (lo+b.2.1-1) (lo+b.2.1)).bind fun d=>if d=true then some (true,(none,b.2.1,b.2.2),t)else some (false,(none,b.2.1+1,b.2.2+1),t)
def yN (from':Nat) (t:SD):Option (Nat×SD):=(fQ (iT n lt lo) (EX from' (nrem-from')) (none,from') t).map fun r=>(r.1.2,r.2)
def sQ (m:Nat) (t:SD):Option (Nat×SD):=(fQ (hE n lt lo) (EX (m+1) (nrem-(m+1))) (none,m+1,0) t).bind fun r=>
 yN n lt lo nrem r.1.2.1 (kas_rev (if r.1.2.2>0 then(kas_rev r.2.1 (lo+r.1.2.1-(r.1.2.2+1)) (lo+r.1.2.1),r.2.2)else r.2:SD).1 lo (lo+r.1.2.1),(if r.1.2.2>0 then(kas_rev r.2.1 (lo+r.1.2.1-(r.1.2.2+1)) (lo+r.1.2.1),r.2.2)else r.2:SD).2)
def countP (t:SD):Option (Nat×SD):=(yN n lt lo nrem 1 t).bind fun r=>
 if(r.1==nrem)=true then some r
 else if r.1>1 then(jC n lt r.2.1 lo (lo+r.1-1)).bind fun rose=>if rose=true then some r else sQ n lt lo nrem r.1 (kas_rev r.2.1 lo (lo+r.1),r.2.2)
 else sQ n lt lo nrem r.1 r.2
end
section
variable {prog:Program} {w:World} {E:Value->Shared->Prop} {A:Around} {κ:SortKind} {it:Array Keyed} {s:Shared} {n:Nat} {lt:Nat->Nat->Bool} {lo nrem:Nat}
theorem yO {ls:List Nat} {b:zE} {t:SD} {r:zE×SD} (h:fQ (iT n lt lo) ls b t=some r) (hb:b.1=none):r.1.1=none:=by
 refine dW (fun b' _=>b'.1=none) (fun x b' t' y p e=>?_) ls b t r hb h
 unfold iT at e
 obtain⟨c,_,e3⟩:=DL.mp e
 split at e3<;>(cases e3;rfl)
theorem pG {ls:List Nat} {b:Cb} {t:SD} {r:Cb×SD} (h:fQ (hE n lt lo) ls b t=some r) (hb:b.1=none):r.1.1=none:=by
 refine dW (fun b' _=>b'.1=none) (fun x b' t' y p e=>?_) ls b t r hb h
 unfold hE at e
 obtain⟨c,_,e3⟩:=DL.mp e
 split at e3
 ·cases e3;rfl
 ·obtain⟨d,_,e4⟩:=DL.mp e3
  split at e4<;>(cases e4;rfl)
theorem lA (ans:cN prog w A κ it s n lt) {t:SD} {fr:Nat} {r:Nat×SD} {body:Nat->zE->StateT SortSt Sem (ForInStep zE)} {Q:zE->SortSt->Shared->Prop} (h:yN n lt lo nrem fr t=some r)
  (hb:∀x b u y,iT n lt lo x b u=some y->∀R:ForInStep zE->SortSt->Shared->Prop,R (if y.1=true then .done y.2.1 else .yield y.2.1) (cJ κ it y.2.2) s->kasC (model prog w) A E (body x b) R (cJ κ it u) s)
  (hq:Q (none,r.1) (cJ κ it r.2) s):kasC (model prog w) A E (forIn [fr:nrem] (none,fr) body) Q (cJ κ it t) s:=by
 unfold yN at h
 obtain⟨z,e1,e2⟩:=DO.mp h
 have kz:=yO e1 rfl
 refine kasC_range (dw hb _ _ _ z e1 ?_)
 obtain⟨⟨z1,z2⟩,z3⟩:=z
 cases kz
 cases e2
 exact hq
theorem wW (ans:cN prog w A κ it s n lt) {t:SD} {r:Nat×SD} {Q:Option Nat->SortSt->Shared->Prop} (h:countP n lt lo nrem t=some r) (hq:Q (some r.1) (cJ κ it r.2) s):kasC (model prog w) A E (countRun' lo nrem) Q (cJ κ it t) s:=by
 unfold countP at h
 obtain⟨r1,h1,h⟩:=DL.mp h
 rw[countRun'_eq]
 refine kasC_bind (lA ans h1 (fun x b u y e R hR=>by
   unfold iT at e
   obtain⟨c,g1,g2⟩:=DL.mp e
   refine kasC_bind (cO ans g1 ?_)
   cases c
   ·cases g2;exact kasC_pure hR
   ·cases g2;exact kasC_pure hR) ?_)
 dsimp only
 by_cases g:(r1.1==nrem)=true
 ·rw [if_pos g]at h
  cases h
  exact bb g (kasC_pure hq)
 ·rw [if_neg g]at h
  refine aV g ?_
  by_cases g1:r1.1>1
  ·rw [if_pos g1]at h
   obtain⟨rose,h2,h⟩:=DL.mp h
   refine bb g1 (kasC_bind (cO ans h2 ?_))
   cases rose
   ·rw [if_neg (by simp)]at h
    refine kasC_bind (dz ?_)
    refine kasC_bind (kasC_lift (wpAny_rule ?_))
    unfold sQ at h
    obtain⟨z,e1,h⟩:=DL.mp h
    have kz:=pG e1 rfl
    refine kasC_bind (kasC_range (dw (step:=hE n lt lo) (fun x b u y e R hR=>?_) _ _ _ z e1 ?_))
    ·unfold hE at e
     obtain⟨c,g1,g2⟩:=DL.mp e
     refine kasC_bind (cO ans g1 ?_)
     cases c
     ·rw [if_neg (by simp)]at g2
      obtain⟨d,g3,g4⟩:=DL.mp g2
      refine kasC_bind (cO ans g3 ?_)
      cases d
      ·cases g4;exact kasC_pure hR
      ·cases g4;exact kasC_pure hR
     ·rw [if_pos rfl]at g2
      cases g2
      by_cases gq:b.2.2>0
      ·rw [if_pos gq]at hR
       exact bb rfl (bb gq (kasC_bind (dz (kasC_pure hR))))
      ·rw [if_neg gq]at hR
       exact bb rfl (aV gq (kasC_pure hR))
    ·obtain⟨⟨z1,z2,z3⟩,z4⟩:=z
     cases kz
     by_cases gq:z3>0
     ·rw [if_pos gq]at h
      refine bb gq (kasC_bind (dz (kasC_bind (dz (kasC_bind (lA ans h (fun x b u y e R hR=>by
       unfold iT at e
       obtain⟨c,g1,g2⟩:=DL.mp e
       refine kasC_bind (cO ans g1 ?_)
       cases c
       ·cases g2;exact kasC_pure hR
       ·cases g2;exact kasC_pure hR) (kasC_pure hq)))))))
     ·rw [if_neg gq]at h
      refine aV gq (kasC_bind (dz (kasC_bind (lA ans h (fun x b u y e R hR=>by
       unfold iT at e
       obtain⟨c,g1,g2⟩:=DL.mp e
       refine kasC_bind (cO ans g1 ?_)
       cases c
       ·cases g2;exact kasC_pure hR
       ·cases g2;exact kasC_pure hR) (kasC_pure hq)))))
   ·rw [if_pos rfl]at h
    cases h
    exact kasC_pure hq
  ·rw [if_neg g1]at h
   refine aV g1 ?_
   refine kasC_bind (kasC_lift (wpAny_rule ?_))
   unfold sQ at h
   obtain⟨z,e1,h⟩:=DL.mp h
   have kz:=pG e1 rfl
   refine kasC_bind (kasC_range (dw (step:=hE n lt lo) (fun x b u y e R hR=>?_) _ _ _ z e1 ?_))
   ·unfold hE at e
    obtain⟨c,g1,g2⟩:=DL.mp e
    refine kasC_bind (cO ans g1 ?_)
    cases c
    ·rw [if_neg (by simp)]at g2
     obtain⟨d,g3,g4⟩:=DL.mp g2
     refine kasC_bind (cO ans g3 ?_)
     cases d
     ·cases g4;exact kasC_pure hR
     ·cases g4;exact kasC_pure hR
    ·rw [if_pos rfl]at g2
     cases g2
     by_cases gq:b.2.2>0
     ·rw [if_pos gq]at hR
      exact bb rfl (bb gq (kasC_bind (dz (kasC_pure hR))))
     ·rw [if_neg gq]at hR
      exact bb rfl (aV gq (kasC_pure hR))
   ·obtain⟨⟨z1,z2,z3⟩,z4⟩:=z
    cases kz
    by_cases gq:z3>0
    ·rw [if_pos gq]at h
     refine bb gq (kasC_bind (dz (kasC_bind (dz (kasC_bind (lA ans h (fun x b u y e R hR=>by
      unfold iT at e
      obtain⟨c,g1,g2⟩:=DL.mp e
      refine kasC_bind (cO ans g1 ?_)
      cases c
      ·cases g2;exact kasC_pure hR
      ·cases g2;exact kasC_pure hR) (kasC_pure hq)))))))
    ·rw [if_neg gq]at h
     refine aV gq (kasC_bind (dz (kasC_bind (lA ans h (fun x b u y e R hR=>by
      unfold iT at e
      obtain⟨c,g1,g2⟩:=DL.mp e
      refine kasC_bind (cO ans g1 ?_)
      cases c
      ·cases g2;exact kasC_pure hR
      ·cases g2;exact kasC_pure hR) (kasC_pure hq)))))
end
abbrev Cc:=Option Unit×Nat
abbrev AY:=Option Unit×Unit
section
variable (n:Nat) (lt:Nat->Nat->Bool) (size mr:Nat)
def pH (lo:Nat) (t:SD):Option (Nat×SD):=(countP n lt lo (size-lo) t).bind fun r=>if r.1<mr then(AF n lt lo (min (size-lo) mr) r.1 r.2).map fun t2=>(min (size-lo) mr,t2)else some r
def fJ (_:Nat) (b:Cc) (t:SD):Option (Bool×Cc×SD):=
 if b.2>=size then some (true,(none,b.2),t)else(pH n lt size mr b.2 t).bind fun r=>
  match r.2.2.1.back? with
  | none=>some (false,(none,b.2+r.1),(r.2.1,r.2.2.1.push (b.2,r.1,0),r.2.2.2))
  | some (s1,n1,_)=>if r.2.2.1.size>1 then none else some (false,(none,b.2+r.1),(r.2.1,(r.2.2.1.modify (r.2.2.1.size-1) fun x=>(x.1,x.2.1,power' size (2*s1+n1) (2*s1+n1+n1+r.1) size)).push (b.2,r.1,0),r.2.2.2))
def qU (_:Nat) (_:AY) (t:SD):Option (Bool×AY×SD):=if t.2.1.size>1 then none else some (true,(none,()),t)
def fV (_:Nat) (_:AY) (t:SD):Option (Bool×AY×SD):=if t.2.1.size<=1 then some (true,(none,()),t)else if t.2.1.size=2 then(eW n lt 0 t).map fun t'=>(false,(none,()),t')else none
def lB (t:SD):Option SD:=(fQ (fJ n lt size mr) (EX 0 size) (none,0) t).bind fun r=>(fQ (fV n lt) (EX 0 size) (none,()) r.2).map (·.2)
end
section
variable {prog:Program} {w:World} {E:Value->Shared->Prop} {A:Around} {κ:SortKind} {it:Array Keyed} {s:Shared} {n:Nat} {lt:Nat->Nat->Bool}
theorem yP {size mr:Nat} {ls:List Nat} {b:Cc} {t:SD} {r:Cc×SD} (h:fQ (fJ n lt size mr) ls b t=some r) (hb:b.1=none):r.1.1=none:=by
 refine dW (fun b' _=>b'.1=none) (fun x b' t' y p e=>?_) ls b t r hb h
 unfold fJ at e
 split at e
 ·cases e;rfl
 ·obtain⟨c,_,e3⟩:=DL.mp e
  split at e3
  ·cases e3;rfl
  ·split at e3
   ·cases e3
   ·cases e3;rfl
theorem yQ {ls:List Nat} {b:AY} {t:SD} {r:AY×SD} (h:fQ (fV n lt) ls b t=some r) (hb:b.1=none):r.1.1=none:=by
 refine dW (fun b' _=>b'.1=none) (fun x b' t' y p e=>?_) ls b t r hb h
 unfold fV at e
 split at e
 ·cases e;rfl
 ·split at e
  ·obtain⟨c,_,e3⟩:=DO.mp e
   cases e3;rfl
  ·cases e
theorem sR {ls:List Nat} {t:SD} (h:¬t.2.1.size>1):fQ qU ls (none,()) t=some ((none,()),t):=by
 cases ls with
 | nil=>rfl
 | cons x l=>show((qU x (none,()) t).bind _)=_;unfold qU;rw[if_neg h];rfl
theorem yR (ans:cN prog w A κ it s n lt) {t t':SD} {size:Nat} {Q:Unit->SortSt->Shared->Prop} (hs:t.1.size=size) (h:lB n lt size (minRun' size size 0) t=some t') (hq:Q () (cJ κ it t') s):kasC (model prog w) A E sortRuns' Q (cJ κ it t) s:=by
 unfold lB at h
 obtain⟨r,h1,h⟩:=DL.mp h
 obtain⟨r2,h2,h⟩:=DO.mp h
 have n1:=yP h1 rfl
 have n2:=yQ h2 rfl
 rw[sortRuns'_eq]
 refine kasC_bind (kasC_get ?_)
 have es:(arrOf (cJ κ it t)).size=size:=by show(t.1.map (kas_item it)).size=size;rw[EW];exact hs
 rw[es]
 refine kasC_bind (kasC_range (dw (step:=fJ n lt size (minRun' size size 0)) (fun x b u y e R hR=>?_) _ _ _ r h1 ?_))
 ·unfold fJ at e
  dsimp only
  by_cases g:b.2>=size
  ·rw [if_pos g]at e
   cases e
   exact bb g (kasC_pure hR)
  ·rw [if_neg g]at e
   refine aV g ?_
   obtain⟨c,g1,e⟩:=DL.mp e
   unfold pH at g1
   obtain⟨c0,g0,g1⟩:=DL.mp g1
   refine kasC_bind (wW ans g0 ?_)
   dsimp only
   by_cases gm:c0.1<minRun' size size 0
   ·rw [if_pos gm]at g1
    obtain⟨t2,g2,g3⟩:=DO.mp g1
    cases g3
    refine bb gm (kasC_bind (kasC_lift (wpAny_rule (kasC_bind (AG ans g2 (aV (by simp) ?_))))))
    refine kasC_bind (kasC_get ?_)
    have ek:(match t2.2.1.back? with | none=>some (false,((none:Option Unit),b.2+min (size-b.2) (minRun' size size 0)),((t2.1,t2.2.1.push (b.2,min (size-b.2) (minRun' size size 0),0),t2.2.2):SD)) | some (s1,n1,_)=>if t2.2.1.size>1 then none else some (false,(none,b.2+min (size-b.2) (minRun' size size 0)),(t2.1,(t2.2.1.modify (t2.2.1.size-1) fun x=>(x.1,x.2.1,power' size (2*s1+n1) (2*s1+n1+n1+min (size-b.2) (minRun' size size 0)) size)).push (b.2,min (size-b.2) (minRun' size size 0),0),t2.2.2)))=some y:=e
    show kasC _ _ _ (match t2.2.1.back? with | some (s1,n1,snd)=>_ | x=>_) _ _ _
    cases hbk:t2.2.1.back? with
    | none=>
     rw[hbk]at ek
     cases ek
     exact kasC_bind (kasC_modify (kasC_pure hR))
    | some z=>
     obtain⟨s1,n1',z3⟩:=z
     rw[hbk]at ek
     by_cases gz:t2.2.1.size>1
     ·dsimp only at ek;rw[if_pos gz]at ek;cases ek
     ·dsimp only at ek
      rw[if_neg gz]at ek
      cases ek
      refine kasC_bind (kasC_range (dw (step:=qU) (fun x b2 u2 y2 e2 R2 hR2=>?_) _ _ _ _ (sR gz) ?_))
      ·unfold qU at e2
       refine kasC_bind (kasC_get ?_)
       show kasC _ _ _ (match(if u2.2.1.size>1 then u2.2.1[u2.2.1.size-2]? else none)with | some (fst,fst_1,older)=>_ | x=>_) _ _ _
       by_cases g6:u2.2.1.size>1
       ·rw [if_pos g6]at e2;cases e2
       ·rw [if_neg g6]at e2
        cases e2
        rw[if_neg g6]
        exact kasC_pure hR2
      ·exact kasC_bind (kasC_modify (kasC_bind (kasC_modify (kasC_pure hR))))
   ·rw [if_neg gm]at g1
    cases g1
    refine aV gm ?_
    refine kasC_bind (kasC_get ?_)
    have ek:(match c.2.2.1.back? with | none=>some (false,((none:Option Unit),b.2+c.1),((c.2.1,c.2.2.1.push (b.2,c.1,0),c.2.2.2):SD)) | some (s1,n1,_)=>if c.2.2.1.size>1 then none else some (false,(none,b.2+c.1),(c.2.1,(c.2.2.1.modify (c.2.2.1.size-1) fun x=>(x.1,x.2.1,power' size (2*s1+n1) (2*s1+n1+n1+c.1) size)).push (b.2,c.1,0),c.2.2.2)))=some y:=e
    show kasC _ _ _ (match c.2.2.1.back? with | some (s1,n1,snd)=>_ | x=>_) _ _ _
    cases hbk:c.2.2.1.back? with
    | none=>
     rw[hbk]at ek
     cases ek
     exact kasC_bind (kasC_modify (kasC_pure hR))
    | some z=>
     obtain⟨s1,n1',z3⟩:=z
     rw[hbk]at ek
     by_cases gz:c.2.2.1.size>1
     ·dsimp only at ek;rw[if_pos gz]at ek;cases ek
     ·dsimp only at ek
      rw[if_neg gz]at ek
      cases ek
      refine kasC_bind (kasC_range (dw (step:=qU) (fun x b2 u2 y2 e2 R2 hR2=>?_) _ _ _ _ (sR gz) ?_))
      ·unfold qU at e2
       refine kasC_bind (kasC_get ?_)
       show kasC _ _ _ (match(if u2.2.1.size>1 then u2.2.1[u2.2.1.size-2]? else none)with | some (fst,fst_1,older)=>_ | x=>_) _ _ _
       by_cases g6:u2.2.1.size>1
       ·rw [if_pos g6]at e2;cases e2
       ·rw [if_neg g6]at e2
        cases e2
        rw[if_neg g6]
        exact kasC_pure hR2
      ·exact kasC_bind (kasC_modify (kasC_bind (kasC_modify (kasC_pure hR))))
 ·obtain⟨⟨r1,r3⟩,r4⟩:=r
  cases n1
  refine kasC_bind (kasC_range (dw (step:=fV n lt) (fun x b u y e R hR=>?_) _ _ _ r2 h2 ?_))
  ·unfold fV at e
   refine kasC_bind (kasC_get ?_)
   by_cases gl:u.2.1.size<=1
   ·rw [if_pos gl]at e
    cases e
    exact bb gl (kasC_pure hR)
   ·rw [if_neg gl]at e
    by_cases g2:u.2.1.size=2
    ·rw [if_pos g2]at e
     obtain⟨t3,e3,e4⟩:=DO.mp e
     cases e4
     refine aV gl ?_
     have ei:(if Option.any (fun x=>decide (x<(u.2.1[u.2.1.size-2+1]?).elim 0 fun x=>x.2.1)) (if u.2.1.size-2>0 then(u.2.1[u.2.1.size-2-1]?).map (fun x=>x.2.1)else none)=true then u.2.1.size-2-1 else u.2.1.size-2)=0:=by simp[g2]
     show kasC _ _ _ (mergeAt' (if Option.any (fun x=>decide (x<(u.2.1[u.2.1.size-2+1]?).elim 0 fun x=>x.2.1)) (if u.2.1.size-2>0 then(u.2.1[u.2.1.size-2-1]?).map (fun x=>x.2.1)else none)=true then u.2.1.size-2-1 else u.2.1.size-2) >>= _) _ _ _
     rw[ei]
     exact kasC_bind (qT ans e3 (aV (by simp) (kasC_pure hR)))
    ·rw [if_neg g2]at e;cases e
  ·obtain⟨⟨q1,q2⟩,q3⟩:=r2
   cases n2
   cases h
   exact kasC_pure hq
end
def wX:SD:=(EE (DR 64),#[],7)
set_option synthInstance.maxSize 4096 in
set_option synthInstance.maxHeartbeats 200000 in
instance dSD:DecidableEq (Nat×SD):=instDecidableEqProd (α:=Nat) (β:=Array Nat×Array (Nat×Nat×Nat)×Nat)
theorem qV {β:Type} {step:Nat->β->SD->Option (Bool×β×SD)} {x:Nat} {l:List Nat} {b b':β} {t t':SD} (h:step x b t=some (false,b',t')):fQ step (x :: l) b t=fQ step l b' t':=by
 rw[fQ,h];rfl
theorem pI {β:Type} {step:Nat->β->SD->Option (Bool×β×SD)} {x:Nat} {l:List Nat} {b b':β} {t t':SD} (h:step x b t=some (true,b',t')):fQ step (x :: l) b t=some (b',t'):=by
 rw[fQ,h];rfl
theorem nq {lt:Nat->Nat->Bool} {a b c:List Nat} {g:Nat} (h1:pH 64 lt 64 32 0 wX=some (32,(a.toArray,#[],7))) (h2:pH 64 lt 64 32 32 (a.toArray,#[(0,32,0)],7)=some (32,(b.toArray,#[(0,32,0)],7)))
  (h3:eW 64 lt 0 (b.toArray,#[(0,32,1),(32,32,0)],7)=some (c.toArray,#[(0,64,1)],g)):lB 64 lt 64 (minRun' 64 64 0) wX=some (c.toArray,#[(0,64,1)],g):=by
 have hm:minRun' 64 64 0=32:=by decide +kernel
 have hp:power' 64 (2*0+32) (2*0+32+32+32) 64=1:=by decide +kernel
 have er:EX 0 64=0 :: 1 :: 2 :: EX 3 61:=rfl
 have s1:fJ 64 lt 64 32 0 (none,0) wX=some (false,(none,32),(a.toArray,#[(0,32,0)],7)):=by
  unfold fJ
  rw[if_neg (by decide),h1]
  rfl
 have s2:fJ 64 lt 64 32 1 (none,32) (a.toArray,#[(0,32,0)],7)=some (false,(none,64),(b.toArray,#[(0,32,1),(32,32,0)],7)):=by
  unfold fJ
  rw[if_neg (by decide),h2]
  show(if(1:Nat)>1 then none else some (false,((none:Option Unit),64),(b.toArray,(#[(0,32,power' 64 (2*0+32) (2*0+32+32+32) 64)]:Array (Nat×Nat×Nat)).push (32,32,0),7)))=_
  rw[hp]
  rfl
 have s3:fJ 64 lt 64 32 2 (none,64) (b.toArray,#[(0,32,1),(32,32,0)],7)=some (true,(none,64),(b.toArray,#[(0,32,1),(32,32,0)],7)):=by
  unfold fJ
  rw[if_pos (by decide)]
 have e1:fV 64 lt 0 (none,()) (b.toArray,#[(0,32,1),(32,32,0)],7)=some (false,(none,()),(c.toArray,#[(0,64,1)],g)):=by
  unfold fV
  rw[if_neg (by simp),if_pos (by simp),h3]
  rfl
 have e2:fV 64 lt 1 (none,()) (c.toArray,#[(0,64,1)],g)=some (true,(none,()),(c.toArray,#[(0,64,1)],g)):=by
  unfold fV
  rw[if_pos (by simp)]
 have l1:fQ (fJ 64 lt 64 32) (EX 0 64) (none,0) wX=some ((none,64),(b.toArray,#[(0,32,1),(32,32,0)],7)):=by
  rw[er,qV s1,qV s2,pI s3]
 have l2:fQ (fV 64 lt) (EX 0 64) (none,()) (b.toArray,#[(0,32,1),(32,32,0)],7)=some ((none,()),(c.toArray,#[(0,64,1)],g)):=by
  rw[er,qV e1,pI e2]
 unfold lB
 rw[hm,l1]
 show Option.map _ (fQ (fV 64 lt) (EX 0 64) (none,()) (b.toArray,#[(0,32,1),(32,32,0)],7))=_
 rw[l2]
 rfl
def pJ:List Nat:=[0,1,2,3,4,5,6,5,4,5,4,3,4,5,4,3,4,3,2,3,4,5,4,3,4,3,2,3,4,3,2,3,2,1,2,3,4,5,4,3,4,3,2,3,4,3,2,3,2,1,2,3,4,3,2,3,2,1,2,3,2,1,2,1]
def AJ (ls:List Nat) (i j:Nat):Bool:=decide (ls.getD i 0<ls.getD j 0)
def wY (a b:List Nat):Bool:=if a.length=b.length then HT.bh (a.map fun(x:Nat)=>(x:Int)) (b.map fun(x:Nat)=>(x:Int))else decide (a.length<b.length)
def CT (n i j:Nat):Bool:=wY ((bO n).getD i []) ((bO n).getD j [])
def C4:List Nat:=[0,1,3,7,15,31,23,11,27,19,5,13,29,21,9,25,17,2,6,14,30,22,10,26,18,4,12,28,20,8,24,16,32,33,34,35,36,37,38,39,40,41,42,43,44,45,46,47,48,49,50,51,52,53,54,55,56,57,58,59,60,61,62,63]
def C5:List Nat:=[0,1,3,7,15,31,23,11,27,19,5,13,29,21,9,25,17,2,6,14,30,22,10,26,18,4,12,28,20,8,24,16,63,47,55,39,59,43,51,35,61,45,53,37,57,41,49,33,62,46,54,38,58,42,50,34,60,44,52,36,56,40,48,32]
def Cd:List Nat:=[0,1,3,7,15,31,63,47,23,55,39,11,27,59,43,19,51,35,5,13,29,61,45,21,53,37,9,25,57,41,17,49,33,2,6,14,30,62,46,22,54,38,10,26,58,42,18,50,34,4,12,28,60,44,20,52,36,8,24,56,40,16,48,32]
def C6:List Nat:=[0,1,2,18,26,30,3,11,15,17,19,23,25,27,29,31,4,8,10,12,14,16,20,22,24,28,5,7,9,13,21,6,32,33,34,35,36,37,38,39,40,41,42,43,44,45,46,47,48,49,50,51,52,53,54,55,56,57,58,59,60,61,62,63]
def C7:List Nat:=[0,1,2,18,26,30,3,11,15,17,19,23,25,27,29,31,4,8,10,12,14,16,20,22,24,28,5,7,9,13,21,6,33,49,57,61,63,32,34,42,46,48,50,54,56,58,60,62,35,39,41,43,45,47,51,53,55,59,36,38,40,44,52,37]
def Ce:List Nat:=[0,1,33,49,57,61,63,2,18,26,30,32,34,42,46,48,50,54,56,58,60,62,3,11,15,17,19,23,25,27,29,31,35,39,41,43,45,47,51,53,55,59,4,8,10,12,14,16,20,22,24,28,36,38,40,44,52,5,7,9,13,21,37,6]
theorem Dt:pH 64 (AE 6) 64 32 0 wX=some (32,(C4.toArray,#[],7)):=by decide +kernel
theorem Du:pH 64 (AE 6) 64 32 32 (C4.toArray,#[(0,32,0)],7)=some (32,(C5.toArray,#[(0,32,0)],7)):=by decide +kernel
theorem Dv:eW 64 (AE 6) 0 (C5.toArray,#[(0,32,1),(32,32,0)],7)=some (Cd.toArray,#[(0,64,1)],7):=by decide +kernel
theorem Dw:lB 64 (AE 6) 64 (minRun' 64 64 0) wX=some (Cd.toArray,#[(0,64,1)],7):=nq Dt Du Dv
theorem Dx:Cd.isPerm (DR 64)=true:=by decide +kernel
theorem Dy:pH 64 (AJ pJ) 64 32 0 wX=some (32,(C6.toArray,#[],7)):=by decide +kernel
theorem Dz:pH 64 (AJ pJ) 64 32 32 (C6.toArray,#[(0,32,0)],7)=some (32,(C7.toArray,#[(0,32,0)],7)):=by decide +kernel
theorem DA:eW 64 (AJ pJ) 0 (C7.toArray,#[(0,32,1),(32,32,0)],7)=some (Ce.toArray,#[(0,64,1)],6):=by decide +kernel
theorem DB:lB 64 (AJ pJ) 64 (minRun' 64 64 0) wX=some (Ce.toArray,#[(0,64,1)],6):=nq Dy Dz DA
theorem DC:Ce.isPerm (DR 64)=true:=by decide +kernel
def Sorts (n:Nat) (lt:Nat->Nat->Bool) (q:List Nat):Prop:=q.Perm (DR n)/\((n<2/\q=DR n)\/(2<=n/\n<64/\dD n lt (kas_sort n)=some q.toArray)\/(n=64/\∃r g,lB 64 lt 64 (minRun' 64 64 0) wX=some (q.toArray,r,g)))
theorem Sorts.few {n:Nat} {lt:Nat->Nat->Bool} {q:List Nat} (S:Sorts n lt q):n<=64:=by
 rcases S.2 with h | h | h<;>omega
theorem Sorts.le {n:Nat} {lt:Nat->Nat->Bool} {q:List Nat} (S:Sorts n lt q):∀i∈q,i<n:=fun i hi=>Ee.mp (S.1.mem_iff.mp hi)
theorem Sorts.len {n:Nat} {lt:Nat->Nat->Bool} {q:List Nat} (S:Sorts n lt q):q.length=n:=by rw[S.1.length_eq,Ew]
theorem fo {α:Type} (vs:List α) (d:α):(DR vs.length).map (fun i=>vs.getD i d)=vs:=by
 apply EN
 ·simp
 ·intro i h1 h2
  rw[E6,FA,DK,DJ h2];rfl
section
variable {prog:Program} {w:World} {E:Value->Shared->Prop} {A:Around} {κ:SortKind} {s:Shared} {n:Nat} {lt:Nat->Nat->Bool} {q:List Nat} {ks vs:List Value}
theorem Sorts.run {Q:SortSt->Shared->Prop} (S:Sorts n lt q) (h2:2<=n) (lk:ks.length=n) (lv:vs.length=n) (ans:∀i j (C:Bool->Shared->Prop),i<n->j<n->i≠j->C (lt i j) s->kas_ask prog w A κ ks i j C s)
  (h:∀st',(arrOf st').map (·.2)=EE (q.map fun i=>vs.getD i Value.none)->failedOf st'=none->Q st' s):
  wpAny (model prog w) A ((sortRuns').run (SortSt.mk' κ (ks.toArray.zip vs.toArray) #[] 7 none)) (fun r s'=>Q r.2 s') E s:=by
 have hl:ks.length=vs.length:=by omega
 rcases S.2 with z | ⟨_,h64,hr⟩ | ⟨e64,r,g,hr⟩
 ·omega
 ·refine kat_run (G:=fun p s'=>p=q.toArray/\s'=s) hl (by omega) (by omega) (fun p st' s' _ a2 a3 a4=>?_) ?_
  ·obtain⟨rfl,rfl⟩:=a4
   exact h st' (kat_snds hl a2) a3
  ·rw [lv]
   exact ng (n:=n) (lt:=lt) (fun i j C hi hj hij hC=>ans i j C hi hj hij hC) _ hr ⟨rfl,rfl⟩
 ·subst e64
  have zs:(ks.toArray.zip vs.toArray).size=64:=by simp[lk,lv]
  have est:SortSt.mk' κ (ks.toArray.zip vs.toArray) #[] 7 none=cJ κ (ks.toArray.zip vs.toArray) wX:=by
   have e:=kas_range (ks.toArray.zip vs.toArray)
   rw[zs]at e
   show SortSt.mk' κ (ks.toArray.zip vs.toArray) #[] 7 none=SortSt.mk' κ ((EE (DR 64)).map (kas_item (ks.toArray.zip vs.toArray))) #[] 7 none
   rw[e]
  rw[est]
  rw[kat_ask_eq hl]at ans
  refine yR (Q:=fun _ st' s'=>Q st' s') ans (show wX.1.size=64 by decide) hr ?_
  exact h _ (kat_snds hl (st:=cJ κ (ks.toArray.zip vs.toArray) (q.toArray,r,g)) rfl) rfl
theorem og {a:Addr} {as:List Addr} {ls:List (List Int)} {e0:Nat} {P:Fin->Shared->Prop} (hu:A.units<cLine) (ho:s.heap.get? a=some (seqObj "list" (as.map Value.ref).toArray e0)) (hp:iR s.heap as ls) (hna:a∉as)
  (S:Sorts ls.length lt q) (hlt:∀i j,i<ls.length->j<ls.length->lt i j=HT.bh (ls.getD i []) (ls.getD j []))
  (h:P (.done (.ret .none)) {s with heap:=sortedHeap s.heap a (as.map Value.ref) (EE (q.map fun i=>(as.map Value.ref).getD i Value.none))}):wpAny (model prog w) A (Builtin.«list.sort» ⟨[.ref a],[]⟩) P E s:=by
 have la:=hp.1
 have h64:=S.few
 have lq:=S.len
 generalize hvs:as.map Value.ref=vs at ho h
 have lv:vs.length=ls.length:=by rw[<- hvs,DI,la]
 rw[list_sort_plain]
 have lta:=Heap.lt_size ho
 obtain⟨e1,empty1⟩:∃e1,(s.heap.update a (Obj.mapSeq fun _=>#[])).get? a=some (seqObj "list" #[] e1):=⟨_,get?_update_seq ho fun _=>#[]⟩
 refine wpAny_bind (listItems_at ho rfl (wpAny_bind (listUpdate_at ho rfl (wpAny_bind (seqEpoch_at empty1 rfl (wpAny_bind (wpAny_newTuple (wpAny_bind (wpAny_newList (wpAny_holding ?_) (Eo _))) (by rw[sizeLine_eq];show vs.length<=_;omega))))) (by rw[sizeLine_eq,DT];omega) (Eo _))))
 have old:∀b o,(s.heap.update a (Obj.mapSeq fun _=>#[])).get? b=some o->(((s.heap.update a (Obj.mapSeq fun _=>#[])).push (seqObj "tuple" vs.toArray 0)).push (seqObj "list" #[] 0)).get? b=some o:=fun b o e=>Heap.get?_push_of_some _ (Heap.get?_push_of_some _ e)
 have ho6:=old _ _ empty1
 have hp':iR (((s.heap.update a (Obj.mapSeq fun _=>#[])).push (seqObj "tuple" vs.toArray 0)).push (seqObj "list" #[] 0)) as ls:=⟨la,fun i b k hb hk=>by
  obtain⟨x,m,e,z⟩:=hp.2 i b k hb hk
  have hne:b≠a:=fun z=>hna (by rw[<- z];exact DQ hb)
  exact⟨x,m,old _ _ (by rw[Heap.get?_update_ne _ _ _ _ hne];exact e),z⟩⟩
 show wpAny (model prog w) A _ P E {s with heap:=(((s.heap.update a (Obj.mapSeq fun _=>#[])).push (seqObj "tuple" vs.toArray 0)).push (seqObj "list" #[] 0))}
 dsimp only
 have size_vs:vs.toArray.size=vs.length:=DT
 by_cases few:vs.toArray.size<2
 ·rw [if_pos few,if_pos few]
  refine wpAny_bind (wpAny_pure ?_);rw[StateT.run_pure];refine wpAny_bind (wpAny_pure ?_);dsimp only
  have eo:(arrOf (SortSt.mk' general' (vs.toArray.zip vs.toArray) #[] 7 none)).map (·.2)=EE ((DR ls.length).map fun i=>vs.getD i Value.none):=by
   have:=kat_snds (ks:=vs) (vs:=vs) rfl (st:=SortSt.mk' general' (vs.toArray.zip vs.toArray) #[] 7 none) (p:=EE (DR ls.length)) (by
    have e:=kas_range (vs.toArray.zip vs.toArray)
    rw[show(vs.toArray.zip vs.toArray).size=ls.length by simp[lv]]at e
    exact e.symm)
   exact this
  have eq:q=DR ls.length:=by
   rcases S.2 with z | z | z
   ·exact z.2
   ·omega
   ·omega
  rw[eo,<- eq]
  refine wpAny_bind (seqEpoch_at ho6 rfl (wpAny_bind (listUpdate_at ho6 rfl ?_ (Eo _) (by rw[DT,DI,lq,sizeLine_eq];omega))))
  simp only[bne_self_eq_false,if_false,EH]
  exact wpAny_pure h
 ·rw [if_neg few,if_neg few]
  refine wpAny_bind (kas_kind (T:= .type "list") (by omega) (fun v hv=>?_) (by decide) (by decide) ?_)
  ·rw [<- hvs]at hv
   obtain⟨b,hb,rfl⟩:=DZ.mp hv
   obtain⟨i,hi⟩:=EB.mp hb
   obtain⟨x,m,e,_⟩:=hp'.2 i b _ hi (DJ (show i<ls.length by have:=(DN.mp hi).1;omega))
   exact(Looks.ld e).andThen .now
  refine wpAny_bind (wpAny_mono (S.run (ks:=vs) (vs:=vs) (Q:=fun st' s'=>(arrOf st').map (·.2)=EE (q.map fun i=>vs.getD i Value.none)/\failedOf st'=none/\s'={s with heap:=((s.heap.update a (Obj.mapSeq fun _=>#[])).push (seqObj "tuple" vs.toArray 0)).push (seqObj "list" #[] 0)})
   (by omega) lv lv (fun i j C hi hj hij hC=>?_) fun st' a1 a2=>⟨a1,a2,rfl⟩) ?_ fun _ _ e=>e)
  ·rw [<- hvs]at hp' ⊢
   rw[hlt i j hi hj]at hC
   rw[<- hvs]at hC
   exact uJ (s:={s with heap:=_}) hu hp' hi hj hC
  ·rintro⟨⟨⟩,st'⟩ s' ⟨e1',e2',rfl⟩
   dsimp only at e1' e2' ⊢
   rw[e1',e2']
   refine wpAny_bind (seqEpoch_at ho6 rfl (wpAny_bind (listUpdate_at ho6 rfl ?_ (Eo _) (by rw[DT,DI,lq,sizeLine_eq];omega))))
   simp only[bne_self_eq_false,if_false,EH]
   exact wpAny_pure h
end
section
variable {X:Cx}
theorem uP (K:PySem.W.Frag) (hu:X.A.units+64<cLine) (hK:X.K=K:=by rfl):cu X (.builtin "sorted") (fun xs H Q=>∃(p:Addr) (as:List Addr) (ls:List (List Int)) (lt:Nat->Nat->Bool) (q:List Nat),xs=[.ref p]/\SqL K H p (as.map V.ref)/\IntsL H as ls/\Sorts ls.length lt q/\
  (∀i j,i<ls.length->j<ls.length->lt i j=HT.bh (ls.getD i []) (ls.getD j []))/\∀l,H l=none->Q (.ref l) (aE H l (.lst ((q.map fun i=>as.getD i 0).map V.ref)))):=by
 subst hK
 intro pins s σ H xs us Q I r h
 obtain⟨p,as,ls,lt,qq,e,hq,il,S,hlt,q⟩:=h
 subst e
 obtain⟨u,e,rx⟩:=fI r
 subst e
 cases rx
 obtain⟨its,rv,pl,hz⟩:=I.list hq
 have ev:=eR rv
 subst ev
 have la:as.length=ls.length:=Paired.length il
 have lim:=S.few
 have lq:=S.len
 have got:iR s.heap as ls:=⟨la,fun i a l ha hl=>by
  obtain⟨l',e1,e2⟩:=bB il ha
  rw[hl]at e1
  cases e1
  obtain⟨z,its',n',r',hl',e⟩:=I.lstM e2
  exact⟨its'.toArray,n',e,cU r'⟩⟩
 have keep:∀b o,s.heap.get? b=some o->b<s.heap.objs.size:=fun b o e=>Heap.lt_size e
 generalize hvs:(as.map Value.ref)=vs at pl
 have lv:vs.length=ls.length:=by rw[<- hvs,DI,la]
 refine Calls.call_function_entry kind_sorted plain_sorted entry_sorted (args_sorted1 _) ?_;unfold Builtin.«sorted»
 refine wpAny_bind (m:=checkCount "sorted" 1 1 _) (wpAny_pure (wpAny_bind (collect_list pl.isList ?_ (by rw[sizeLine_eq];omega))))
 refine wpAny_bind (wpAny_newList (items:=vs) ?_ (by rw[sizeLine_eq];omega))
 have sz1:((s.heap.push (seqObj "list" #[] 0)).update s.heap.objs.size (Obj.mapSeq (· ++vs.toArray))).objs.size=s.heap.objs.size+1:=(Heap.size_update ..).trans (size_push' ..)
 have old1:∀b o,s.heap.get? b=some o->((s.heap.push (seqObj "list" #[] 0)).update s.heap.objs.size (Obj.mapSeq (· ++vs.toArray))).get? b=some o:=fun b o e=>by
  rw[Heap.get?_update_ne _ _ _ _ (Eb (keep b o e)),Heap.get?_push_ne _ _ _ (Eb (keep b o e))];exact e
 show wpAny _ _ _ _ _ {s with heap:=(((s.heap.push (seqObj "list" #[] 0)).update s.heap.objs.size (Obj.mapSeq (· ++vs.toArray))).push (seqObj "list" vs.toArray 0))}
 generalize ((s.heap.push (seqObj "list" #[] 0)).update s.heap.objs.size (Obj.mapSeq (· ++vs.toArray)))=h1 at sz1 old1
 have hoL:(h1.push (seqObj "list" vs.toArray 0)).get? h1.objs.size=some (seqObj "list" vs.toArray 0):=Heap.get?_push_size _ rfl
 have pa:iR (h1.push (seqObj "list" vs.toArray 0)) as ls:=⟨got.1,fun i a l ha hl=>by
  obtain⟨us,m,e,z⟩:=got.2 i a l ha hl
  exact⟨us,m,Heap.get?_push_of_some _ (old1 _ _ e),z⟩⟩
 have nas:h1.objs.size∉as:=fun m=>by
  obtain⟨i,hi⟩:=EB.mp m
  obtain⟨l,_,e2⟩:=bB il hi
  obtain⟨z,its',n',r',hl',e⟩:=I.lstM e2
  exact absurd (keep _ _ e) (by rw[sz1];exact Nat.not_lt_of_le (FU _))
 rw[<- hvs]at hoL
 rw[<- hvs]
 refine wpAny_bind (wpAny_holding (wpAny_call_entry slot_list_sort ⟨_,hoL,rfl⟩ entry_list_sort (og (by show X.A.units+1+1<cLine;omega) hoL (by rw[hvs];exact pa) nas S hlt ⟨_,rfl,?_⟩) (args_list_sort _)))
 refine wpAny_pure ⟨Value.ref h1.objs.size,rfl,?_⟩
 obtain⟨ep,he⟩:=sortedHeap_at (out:=EE (qq.map fun i=>(as.map Value.ref).getD i Value.none)) hoL
 have k2:∀b o,s.heap.get? b=some o->(sortedHeap (h1.push (seqObj "list" (as.map Value.ref).toArray 0)) h1.objs.size (as.map Value.ref) (EE (qq.map fun i=>(as.map Value.ref).getD i Value.none))).get? b=some o:=fun b o eb=>by
  have lt:=keep b o eb
  rw[sortedHeap_old (Eb (Em lt (by rw[sz1];exact FU _))) (by rw[Heap.size_push,sz1];exact EC (EC lt))]
  exact Heap.get?_push_of_some _ (old1 b o eb)
 have hn':s.heap.objs.size<=h1.objs.size:=by omega
 have plt:∀i∈qq,i<as.length:=fun i hi=>by rw[la];exact S.le i hi
 refine⟨.ref h1.objs.size,_,I.laid (t':=s.toks) k2 hn' (show ObjOk X.prog X.w _ _ _ (.lst ((qq.map fun i=>as.getD i 0).map V.ref))from⟨?_,qq.map fun i=>(as.map Value.ref).getD i Value.none,ep,gG qq plt,by simpa [seqObj]using he⟩),rfl,q _ (I.hok.fresh hn')⟩
 rw[DI,DI,lq,sizeLine_eq];omega
end
section
variable {X:Cx} {pins:List (Addr×Obj)} {σ:St} {H:Hp} {s:Shared} {h':Heap}
theorem Inv.grasp {t':Nat} {D:Addr} {o:HO} (I:Inv X pins σ H s) (k:∀b u,b≠D->s.heap.get? b=some u->h'.get? b=some u) (hn:H D=none) (hL:D≠X.env.locals)
  (h1:D∈X.ex\/X.s₀.heap.objs.size<=D) (h2:∀x c,X.env.cells.lookup x=some c->c≠D) (h3:∀p∈X.pn++pins,p.1≠D) (new:ObjOk X.prog X.w (aE H D o) h' D o):Inv X pins σ (aE H D o) {s with heap:=h',toks:=t'}:=by
 have nit:∀b u,H b=some u->b≠D:=fun b u e z=>by rw[z,hn]at e;cases e
 have up:∀b u,H b=some u->aE H D o b=some u:=fun b u q=>by rw[aq (nit b u q)];exact q
 refine I.step (g':=s.gens) (d':=s.drawn) (ch:=[D]) (fun b hb=>?_) (fun b o _ _ hc e _=>k b o (fun z=>hc (by simp[z])) e) (fun b o _ _ hc e _=>⟨o.slots,k b o (fun z=>hc (by simp[z])) e⟩) (fun b u hc _ n=>by rw[aq (fun z=>hc (by simp[z]))];exact n)
  (fun b o hc e=>⟨o,k b o (fun z=>hc (by simp[z])) e⟩) (fun b xs e=>up b _ e) (fun b ob u e=>up b _ e) (fun b ps e=>⟨#[],by rw[up b _ e];simp⟩) (fun m hm=>?_) (fun b u e=>?_) I.bare
 ·have e:b=D:=by simpa using hb
  subst e
  exact⟨h1,hL,h2,h3⟩
 ·obtain⟨o,es,ep,ho,r⟩:=hm
  exact⟨o,es,ep,k _ o (Ne.symm hL) ho,r⟩
 ·by_cases z:b=D
  ·subst z
   rw[ae]at e
   cases e
   exact new
  ·rw [aq z]at e
   refine(I.hok b u e).stay (fun c v hc q=>k c v ?_ q) (fun c q=>up c _ q) fun c xs q=>up c _ q
   rcases hc with y | y
   ·rw [y];exact z
   ·exact nit c _ y
theorem Inv.pinAt {p:Addr×Obj} (I:Inv X (p :: pins) σ H s):s.heap.get? p.1=some p.2/\H p.1=none/\p.1≠X.env.locals/\p.1∉X.fs/\∀v,p.2.data≠ .cell v:=I.pin p (Eh _ Ei)
theorem Inv.noCell {p:Addr×Obj} (I:Inv X (p :: pins) σ H s):∀x c,X.env.cells.lookup x=some c->c≠p.1:=fun x c e z=>by
 obtain⟨v,o,ho,hd⟩:=I.cell x c e
 obtain⟨g,_,_,_,nc⟩:=I.pinAt
 rw[z,g]at ho
 cases ho
 exact nc v hd
theorem Inv.unpin {p:Addr×Obj} (I:Inv X (p :: pins) σ H s):Inv X pins σ H s:=I.pins_of fun q hq=>I.pin q (Eh _ (Ea _ hq))
theorem Inv.repin {p:Addr×Obj} {o':Obj} {t':Nat} (I:Inv X (p :: pins) σ H s) (k:∀b u,b≠p.1->s.heap.get? b=some u->h'.get? b=some u) (g:h'.get? p.1=some o') (nc:∀v,o'.data≠ .cell v) (h1:X.s₀.heap.objs.size<=p.1) (h3:∀x∈X.pn++pins,x.1≠p.1):
  Inv X ((p.1,o') :: pins) σ H {s with heap:=h',toks:=t'}:=by
 obtain⟨_,hn,hL,hf,_⟩:=I.pinAt
 have I1:=I.unpin.turned (t':=t') (it:=p.1) k hn hL (.inr h1) I.noCell h3
 refine I1.pins_of fun q hq=>?_
 rcases Ed.mp hq with e | hq
 ·subst e
  exact⟨g,hn,hL,hf,nc⟩
 ·exact I1.pin q (Eh _ hq)
end
def yS (X:Cx) (f:Value) (r:V->Hp->VK->Prop):Prop:=∀(pins:List (Addr×Obj)) (s:Shared) (σ:St) (H:Hp) (v:V) (u:Value) (Q:VK),Inv X pins σ H s->RelV v u->r v H Q->
 wpAny (model X.prog X.w) X.A.in1.in1 (call f [u]) (EP X pins σ Q) (fun _ _=>False) s
def KeysT (r:V->Hp->VK->Prop):List V->List V->Hp->(List V->Hp->Prop)->Prop
 | [],ks,H,Q=>Q ks H
 | v :: vs,ks,H,Q=>r v H fun k H'=>KeysT r vs (ks++[k]) H' Q
section
variable {X:Cx}
theorem yT:yS X (.builtin "len") (fun v H Q=>∃a l,v= .ref a/\H a=some (.lst l)/\Q (.int l.length) H):=by
 intro pins s σ H v u Q I r h
 obtain⟨a,l,e,hl,q⟩:=h
 subst e
 cases r
 obtain⟨z,it,n,r',ll,e⟩:=I.lstM hl
 exact Calls.call_len_list (items:=it.toArray) ⟨_,e,rfl,n,rfl⟩ (by have:=sizeLine_eq;simp only[DT];omega) ⟨.int l.length,H,I.tok _,by rw[ll];exact⟨_,rfl⟩,q⟩
end
section
variable {X:Cx} {E:Value->Shared->Prop} {f:Value} {r:V->Hp->VK->Prop} {kS D:Addr} {e1:Nat} {pins:List (Addr×Obj)} {σ:St}
theorem sS (kr:yS X f r) {body:Value->PUnit->Sem (ForInStep PUnit)}
  (hb:∀(x:Value) (s:Shared) (C:Shared->Prop),wpAny (model X.prog X.w) X.A.in1.in1 (call f [x]) (fun k s'=>∃(ks:List Value) (e:Nat),ks.length<=64/\s'.heap.get? kS=some (seqObj "list" ks.toArray e)/\C {s' with heap:=s'.heap.update kS (Obj.mapSeq (·.push k))}) (fun _ _=>False) s->
   wpAny (model X.prog X.w) X.A.in1.in1 (body x ⟨⟩) (fun r s'=>r= .yield ⟨⟩/\C s') E s) (h1:X.s₀.heap.objs.size<=kS) (h3:∀x∈X.pn++((D,seqObj "list" #[] e1) :: pins),x.1≠kS) {Q:List V->Hp->Prop}:
  ∀(vs:List V) (us:List Value) (ks:List V) (kv:List Value) (e:Nat) (s:Shared) (H:Hp),Vals vs us->Vals ks kv->ks.length+vs.length<=64->Inv X ((kS,seqObj "list" kv.toArray e) :: (D,seqObj "list" #[] e1) :: pins) σ H s->KeysT r vs ks H Q->
   wpAny (model X.prog X.w) X.A.in1.in1 (forIn us PUnit.unit body) (fun _ s'=>∃ks' kv' e' H',Vals ks' kv'/\ks'.length=ks.length+vs.length/\Inv X ((kS,seqObj "list" kv'.toArray e') :: (D,seqObj "list" #[] e1) :: pins) σ H' s'/\Q ks' H') E s
 | [],us,ks,kv,e,s,H,rv,rk,hl,I,h=>by
  cases rv
  rw[List.forIn_nil]
  exact wpAny_pure ⟨ks,kv,e,H,rk,rfl,I,h⟩
 | v :: vs,us,ks,kv,e,s,H,rv,rk,hl,I,h=>by
  cases rv with
  | @cons _ u _ us rx rv=>
  rw[List.forIn_cons]
  have lk:kv.length=ks.length:=rk.length.symm
  rw[EK]at hl
  refine wpAny_bind (wpAny_mono (hb u s (fun s'=>∃k u' e' H',RelV k u'/\Inv X ((kS,seqObj "list" (kv++[u']).toArray e') :: (D,seqObj "list" #[] e1) :: pins) σ H' s'/\KeysT r vs (ks++[k]) H' Q) (wpAny_mono (kr _ s σ H v u _ I rx h) (fun u' s' hk=>?_) fun _ _ z=>z)) (fun q s' hq=>?_) fun _ _ z=>z)
  ·obtain⟨k,H',I',rk',hk⟩:=hk
   obtain⟨g,_⟩:=I'.pinAt
   have ea:kv.toArray.push u'=(kv++[u']).toArray:=by simp
   have g2:=get?_update_seq g (·.push u')
   rw[ea]at g2
   exact⟨kv,e,by omega,g,k,u',_,H',rk',I'.repin (t':=s'.toks) (fun b o hne hb=>by rw[Heap.get?_update_ne _ _ _ _ hne];exact hb) g2 (fun v z=>by cases z) h1 h3,hk⟩
  ·obtain⟨rfl,k,u',e',H',rk',I',hk⟩:=hq
   refine wpAny_mono (sS kr hb h1 h3 vs us (ks++[k]) (kv++[u']) e' s' H' rv (rk.append (.cons rk' .nil)) (by rw[DX,Ec];omega) I' hk) (fun _ s2 ⟨ks',kv',e2,H2,a1,a2,a3,a4⟩=>⟨ks',kv',e2,H2,a1,?_,a3,a4⟩) fun _ _ z=>z
   rw[a2,DX,Ec,EK];omega
def wZ (X:Cx) (ks:List V) (H:Hp) (n:Nat) (lt:Nat->Nat->Bool):Prop:=∀(pins:List (Addr×Obj)) (σ:St) (s:Shared) (us:List Value),Inv X pins σ H s->Vals ks us->2<=n->us.length=n->∀Q:SortKind->Shared->Prop,
 (∀κ,(∀i j (C:Bool->Shared->Prop),i<n->j<n->i≠j->C (lt i j) s->kas_ask X.prog X.w X.A.in1.in1 κ us i j C s)->Q κ s)->wpAny (model X.prog X.w) X.A.in1.in1 (keyKind' us.toArray) Q (fun _ _=>False) s
theorem yU {as:List Addr} {n:Nat} {lt:Nat->Nat->Bool} {q:List Nat} {H:Hp} {s:Shared} {P:Fin->Shared->Prop} {QQ:Hp->Prop} (kr:yS X f r) (S:Sorts n lt q) (la:as.length=n)
  (I:Inv X ((kS,seqObj "list" #[] 0) :: (D,seqObj "list" #[] e1) :: pins) σ H s) (hk0:X.s₀.heap.objs.size<=kS) (hD0:X.s₀.heap.objs.size<=D) (h3:∀x∈X.pn++((D,seqObj "list" #[] e1) :: pins),x.1≠kS) (h4:∀x∈X.pn++pins,x.1≠D)
  (hk:KeysT r (as.map V.ref) [] H (fun ks H'=>wZ X ks H' n lt/\QQ H')) (h:∀H' s',Inv X pins σ (aE H' D (.lst ((q.map fun i=>as.getD i 0).map V.ref))) s'->H' D=none->QQ H'->P (.done (.ret .none)) s'):
  wpAny (model X.prog X.w) X.A.in1.in1 (ksk_rest D f false (as.map Value.ref).toArray e1 (.ref kS)) P E s:=by
 have h64:=S.few
 have lq:=S.len
 have vv:∀l:List Addr,Vals (l.map V.ref) (l.map Value.ref):=fun l=>by
  induction l with
  | nil=>exact .nil
  | cons x l ih=>exact .cons rfl ih
 generalize hvs:as.map Value.ref=vs
 have lv:vs.length=n:=by rw[<- hvs,DI,la]
 unfold ksk_rest
 refine wpAny_bind (wpAny_rule ?_)
 first
  | rw[List.forIn_toArray]
  | (rw [<- Array.forIn_toList];simp only[List.toList_toArray])
  | rw[<- Array.forIn_toList]
 refine wpAny_bind (wpAny_mono (sS (E:=E) kr (fun x s' C hx=>?_) hk0 h3 (as.map V.ref) vs [] [] 0 s H (by rw[<- hvs];exact vv as) .nil (by rw[DI];simp;omega) I hk) (fun _ s' hd=>?_) fun _ _ z=>z)
 ·refine wpAny_bind (wpAny_attempt (wpAny_mono hx (fun k s'' hk=>?_) fun _ _ hF=>hF.elim))
  obtain⟨ks,e,l64,g,c⟩:=hk
  dsimp only
  exact wpAny_bind (listUpdate_at g rfl (wpAny_pure ⟨rfl,c⟩) (by rw[DT,sizeLine_eq];omega) (Ek (Nat.le_of_eq (Array.size_push ..)) (by rw[DT,sizeLine_eq];omega)))
 ·obtain⟨ks,kv,e,H',rk,lk,I',cm,qq⟩:=hd
  have lkv:kv.length=n:=by rw[<- rk.length,lk,DI];simp[la]
  obtain⟨gk,_⟩:=I'.pinAt
  refine wpAny_bind (listItems_at gk rfl ?_)
  unfold ksk_end
  dsimp only
  rw[if_neg (by simp)]
  have tail:∀st':SortSt,(arrOf st').map (·.2)=EE (q.map fun i=>vs.getD i Value.none)->failedOf st'=none->wpAny (model X.prog X.w) X.A.in1.in1 (ksk_tail D false e1 (.ref kS) st') P E s':=by
   intro st' a1 a2
   have I2:=I'.repin (t':=s'.toks) (h':=s'.heap.update kS (Obj.mapSeq fun _=>#[])) (fun b o hne hb=>by rw[Heap.get?_update_ne _ _ _ _ hne];exact hb) (get?_update_seq gk fun _=>#[]) (fun v z=>by cases z) hk0 h3
   have I3:=I2.unpin
   obtain⟨gD,nD,lD,fD,_⟩:=I3.pinAt
   unfold ksk_tail
   dsimp only
   rw[a1]
   refine wpAny_bind (listUpdate_at gk rfl ?_ (by rw[DT,sizeLine_eq];omega) (Eo _))
   refine wpAny_bind (wpAny_letGo (wpAny_bind (seqEpoch_at gD rfl ?_)))
   refine wpAny_bind (listUpdate_at gD rfl ?_ (Eo _) (by rw[if_neg (by simp),DT,DI,lq,sizeLine_eq];omega))
   rw[a2]
   simp only[bne_self_eq_false,EH,if_false]
   refine wpAny_pure (h H' _ (I3.unpin.grasp (t':=s'.toks) (D:=D) (fun b o hne hb=>by rw[Heap.get?_update_ne _ _ _ _ hne];exact hb) nD lD (.inr hD0) I3.noCell h4 ⟨?_,q.map fun i=>vs.getD i Value.none,_,?_,get?_update_seq gD fun _=>EE (q.map fun i=>vs.getD i Value.none)⟩) nD qq)
   ·rw [DI,DI,lq,sizeLine_eq];omega
   ·rw [<- hvs]
    exact gG q fun i hi=>by rw[la];exact S.le i hi
  by_cases few:vs.toArray.size<2
  ·rw [if_pos few,if_pos few]
   refine wpAny_bind (wpAny_pure ?_);rw[StateT.run_pure];refine wpAny_bind (wpAny_pure ?_);dsimp only
   rw[DT]at few
   refine tail _ ?_ rfl
   have eq:q=DR n:=by
    rcases S.2 with z | z | z
    ·exact z.2
    ·omega
    ·omega
   have:=kat_snds (ks:=kv) (vs:=vs) (by omega) (st:=SortSt.mk' general' (kv.toArray.zip vs.toArray) #[] 7 none) (p:=EE (DR n)) (by
    have e:=kas_range (kv.toArray.zip vs.toArray)
    rw[show(kv.toArray.zip vs.toArray).size=n by simp[lv,lkv]]at e
    exact e.symm)
   rw[eq]
   simpa using this
  ·rw [if_neg few,if_neg few]
   rw[DT]at few
   refine wpAny_bind (wpAny_mono (cm _ _ s' kv I' rk (by omega) lkv (fun κ s2=>(∀i j (C:Bool->Shared->Prop),i<n->j<n->i≠j->C (lt i j) s2->kas_ask X.prog X.w X.A.in1.in1 κ kv i j C s2)/\s2=s') fun κ z=>⟨z,rfl⟩) (fun κ s2 hz=>?_) fun _ _ z=>z.elim)
   obtain⟨ans,rfl⟩:=hz
   rw[if_neg (by simp)]
   refine wpAny_bind (wpAny_mono (S.run (ks:=kv) (vs:=vs) (Q:=fun st' s3=>((arrOf st').map (·.2)=EE (q.map fun i=>vs.getD i Value.none)/\failedOf st'=none)/\s3=s2) (by omega) lkv lv ans fun st' a1 a2=>⟨⟨a1,a2⟩,rfl⟩) (fun r s3 hz=>?_) fun _ _ z=>z)
   obtain⟨⟨⟩,st'⟩:=r
   obtain⟨⟨a1,a2⟩,rfl⟩:=hz
   exact tail st' a1 a2
end
def w4 (K:PySem.W.Frag) (r:V->Hp->VK->Prop) (C:List V->Hp->Nat->(Nat->Nat->Bool)->Prop) (ta:TA):TE:=fun σ H Q=>ta σ H fun vs H1=>∃(p:Addr) (as:List Addr) (lt:Nat->Nat->Bool) (q:List Nat),vs=[.ref p]/\SqL K H1 p (as.map V.ref)/\Sorts as.length lt q/\
 KeysT r (as.map V.ref) [] H1 fun ks H'=>C ks H' as.length lt/\∀D,H1 D=none->H' D=none->Q (.ref D) (aE H' D (.lst ((q.map fun i=>as.getD i 0).map V.ref)))
section
variable {X:Cx} {pins:List (Addr×Obj)} {σ:St} {H:Hp} {s:Shared} {r:V->Hp->VK->Prop} {C:List V->Hp->Nat->(Nat->Nat->Bool)->Prop}
theorem KeysT.mono {Q Q':List V->Hp->Prop} (hr:∀v H (Q Q':VK),(∀k H',Q k H'->Q' k H')->r v H Q->r v H Q') (h:∀ks H',Q ks H'->Q' ks H'):∀(vs ks:List V) (H:Hp),KeysT r vs ks H Q->KeysT r vs ks H Q'
 | [],ks,H,z=>h _ _ z
 | v :: vs,ks,H,z=>hr v H _ _ (fun k H' y=>KeysT.mono hr h vs _ H' y) z
theorem qW {p:Addr} {as:List Addr} {lt:Nat->Nat->Bool} {q:List Nat} {f:Value} {kw:List (Str×Value)} {Q:VK} (kr:yS X f r) (hC:∀ks H' n lt,C ks H' n lt->wZ X ks H' n lt) (hr:∀v H (Q Q':VK),(∀k H',Q k H'->Q' k H')->r v H Q->r v H Q')
  (ha1:argsOk "sorted" ⟨[.ref p],kw⟩) (ha2:∀x,argsOk "list.sort" ⟨[.ref x],kw⟩) (ht:∀x,Builtin.«list.sort» ⟨[.ref x],kw⟩=ksk_tree x f false)
  (I:Inv X pins σ H s) (hq:SqL X.K H p (as.map V.ref)) (S:Sorts as.length lt q) (hk:KeysT r (as.map V.ref) [] H fun ks H'=>C ks H' as.length lt/\∀D,H D=none->H' D=none->Q (.ref D) (aE H' D (.lst ((q.map fun i=>as.getD i 0).map V.ref)))):
  wpAny (model X.prog X.w) X.A (call (.builtin "sorted") [.ref p] kw) (EP X pins σ Q) X.xe s:=by
 obtain⟨its,rv,pl,hz⟩:=I.list hq
 have ev:=eR rv
 subst ev
 have h64:=S.few
 have keep:∀b o,s.heap.get? b=some o->b<s.heap.objs.size:=fun b o e=>Heap.lt_size e
 generalize hvs:(as.map Value.ref)=vs at pl
 have lv:vs.length=as.length:=by rw[<- hvs,DI]
 refine call_function_entry_kw kind_sorted plain_sorted entry_sorted ha1 ?_;unfold Builtin.«sorted»
 refine wpAny_bind (m:=checkCount "sorted" 1 1 _) (wpAny_pure (wpAny_bind (collect_list pl.isList ?_ (by rw[sizeLine_eq];omega))))
 refine wpAny_bind (wpAny_newList (items:=vs) ?_ (by rw[sizeLine_eq];omega))
 have sz1:((s.heap.push (seqObj "list" #[] 0)).update s.heap.objs.size (Obj.mapSeq (· ++vs.toArray))).objs.size=s.heap.objs.size+1:=(Heap.size_update ..).trans (size_push' ..)
 have old1:∀b o,s.heap.get? b=some o->((s.heap.push (seqObj "list" #[] 0)).update s.heap.objs.size (Obj.mapSeq (· ++vs.toArray))).get? b=some o:=fun b o e=>by
  rw[Heap.get?_update_ne _ _ _ _ (Eb (keep b o e)),Heap.get?_push_ne _ _ _ (Eb (keep b o e))];exact e
 show wpAny _ _ _ _ _ {s with heap:=(((s.heap.push (seqObj "list" #[] 0)).update s.heap.objs.size (Obj.mapSeq (· ++vs.toArray))).push (seqObj "list" vs.toArray 0))}
 generalize ((s.heap.push (seqObj "list" #[] 0)).update s.heap.objs.size (Obj.mapSeq (· ++vs.toArray)))=h1 at sz1 old1
 have hoL:(h1.push (seqObj "list" vs.toArray 0)).get? h1.objs.size=some (seqObj "list" vs.toArray 0):=Heap.get?_push_size _ rfl
 refine wpAny_bind (wpAny_holding (wpAny_call_entry_kw slot_list_sort ⟨_,hoL,rfl⟩ entry_list_sort ?body (ha2 _)))
 show wpAny (model X.prog X.w) X.A.in1.in1 (Builtin.«list.sort» ⟨[.ref h1.objs.size],kw⟩) _ _ _
 rw[ht]
 generalize hD:h1.objs.size=D at hoL
 have ho:(h1.push (seqObj "list" vs.toArray 0)).get? D=some (seqObj "list" vs.toArray 0):=hoL
 obtain⟨e1,ho1⟩:∃e1,((h1.push (seqObj "list" vs.toArray 0)).update D (Obj.mapSeq fun _=>(#[]:Array Value))).get? D=some (seqObj "list" #[] e1):=⟨_,get?_update_seq ho fun _=>#[]⟩
 have sz2:(((h1.push (seqObj "list" vs.toArray 0)).update D (Obj.mapSeq fun _=>(#[]:Array Value))).push (seqObj "tuple" vs.toArray 0)).objs.size=D+2:=by rw[size_push',Heap.size_update,size_push',hD]
 have hs:s.heap.objs.size<=D:=by rw[<- hD,sz1];exact FU _
 have far:∀b:Addr,b<s.heap.objs.size->b≠D/\b≠D+2:=fun b hb=>⟨Eb (Em hb hs),Eb (Em hb (Ek hs (Fe _ _)))⟩
 unfold ksk_tree
 refine wpAny_bind (listItems_at ho rfl ?_)
 refine wpAny_bind (listUpdate_at ho rfl ?_ (by rw[DT,sizeLine_eq];omega) (Eo _))
 refine wpAny_bind (seqEpoch_at ho1 rfl ?_)
 refine wpAny_bind (wpAny_newTuple ?_ (by show vs.length<=_;rw[sizeLine_eq];omega))
 refine wpAny_bind (wpAny_newList ?_ (Eo _))
 refine wpAny_holding ?_
 show wpAny _ _ (ksk_rest D f false vs.toArray e1 (.ref (((h1.push (seqObj "list" vs.toArray 0)).update D (Obj.mapSeq fun _=>(#[]:Array Value))).push (seqObj "tuple" vs.toArray 0)).objs.size)) _ _ {s with heap:=((((h1.push (seqObj "list" vs.toArray 0)).update D (Obj.mapSeq fun _=>(#[]:Array Value))).push (seqObj "tuple" vs.toArray 0)).push (seqObj "list" #[] 0))}
 have gk:((((h1.push (seqObj "list" vs.toArray 0)).update D (Obj.mapSeq fun _=>(#[]:Array Value))).push (seqObj "tuple" vs.toArray 0)).push (seqObj "list" #[] 0)).get? (D+2)=some (seqObj "list" #[] 0):=by
  rw[<- sz2];exact Heap.get?_push_size _ rfl
 have gD:((((h1.push (seqObj "list" vs.toArray 0)).update D (Obj.mapSeq fun _=>(#[]:Array Value))).push (seqObj "tuple" vs.toArray 0)).push (seqObj "list" #[] 0)).get? D=some (seqObj "list" #[] e1):=Heap.get?_push_of_some _ (Heap.get?_push_of_some _ ho1)
 have old:∀b o,s.heap.get? b=some o->((((h1.push (seqObj "list" vs.toArray 0)).update D (Obj.mapSeq fun _=>(#[]:Array Value))).push (seqObj "tuple" vs.toArray 0)).push (seqObj "list" #[] 0)).get? b=some o:=fun b o e=>by
  have:=keep b o e
  refine Heap.get?_push_of_some _ (Heap.get?_push_of_some _ ?_)
  rw[Heap.get?_update_ne _ _ _ _ (far b this).1]
  exact Heap.get?_push_of_some _ (old1 b o e)
 rw[sz2]
 generalize ((((h1.push (seqObj "list" vs.toArray 0)).update D (Obj.mapSeq fun _=>(#[]:Array Value))).push (seqObj "tuple" vs.toArray 0)).push (seqObj "list" #[] 0))=h3 at gk gD old
 have I0:Inv X pins σ H {s with heap:=h3,toks:=s.toks}:=I.kept old
 have fD:H D=none:=I.hok.fresh hs
 have fk:H (D+2)=none:=I.hok.fresh (Ek hs (Fe _ _))
 have lt0:=I.lt
 have sz0:=I.sz
 have pl2:∀x∈X.pn++pins,x.1<s.heap.objs.size:=fun x hx=>keep _ _ (I.pin x hx).1
 have I1:Inv X ((D+2,seqObj "list" #[] 0) :: (D,seqObj "list" #[] e1) :: pins) σ H {s with heap:=h3}:=I0.pins_of fun x hx=>by
  rcases Ed.mp hx with e | hx
  ·subst e
   exact⟨gk,fk,fun z=>(far _ lt0).2 z.symm,I.nofs (Ek hs (Fe _ _)),fun v z=>by cases z⟩
  ·rcases Ed.mp hx with e | hx
   ·subst e
    exact⟨gD,fD,fun z=>(far _ lt0).1 z.symm,I.nofs hs,fun v z=>by cases z⟩
   ·exact I0.pin x (Eh _ hx)
 rw[<- hvs]
 refine yU (QQ:=fun H'=>∀D,H D=none->H' D=none->Q (.ref D) (aE H' D (.lst ((q.map fun i=>as.getD i 0).map V.ref)))) kr S rfl I1 (Ek sz0 (Ek hs (Fe _ _))) (Ek sz0 hs) (fun x hx=>?_) (fun x hx=>?_) (KeysT.mono hr (fun ks H' z=>⟨hC _ _ _ _ z.1,z.2⟩) _ _ _ hk) fun H' s' I' nD qq=>?_
 ·rcases Eg.mp hx with hx | hx
  ·exact(far _ (pl2 x (Es _ hx))).2
  ·rcases Ed.mp hx with e | hx
   ·subst e;exact Eb (Nat.lt_add_of_pos_right (by decide))
   ·exact(far _ (pl2 x (Eh _ hx))).2
 ·exact(far _ (pl2 x hx)).1
 ·exact⟨_,rfl,wpAny_pure ⟨_,rfl,.ref D,_,I',rfl,qq D fD nD⟩⟩
end
section
variable {X:Cx} {a:Expr} {ta:TA} {p1 p2 kpos pos:Pos}
def BP:V->Hp->VK->Prop:=fun v H Q=>∃a l,v= .ref a/\H a=some (.lst l)/\Q (.int l.length) H
def zF:List V->Hp->Nat->(Nat->Nat->Bool)->Prop:=fun ks _ n lt=>∃zs:List Int,ks=zs.map V.int/\∀i j,i<n->j<n->lt i j=decide (zs.getD i 0<zs.getD j 0)
theorem jD {zs:List Int} {us:List Value} {i:Nat} (r:Vals (zs.map V.int) us) (hi:i<us.length):∃t,us.getD i Value.none= .int (zs.getD i 0) t:=by
 have ii:=cU r
 clear r
 induction ii generalizing i with
 | nil=>exact absurd hi (Nat.not_lt_zero _)
 | cons n t _ ih=>
  cases i with
  | zero=>exact⟨t,rfl⟩
  | succ i=>exact ih (i:=i) (Nat.lt_of_succ_lt_succ hi)
theorem w6 {ks:List V} {H:Hp} {n:Nat} {lt:Nat->Nat->Bool} (h:zF ks H n lt):wZ X ks H n lt:=by
 intro pins σ s us I r h2 hl Q hQ
 obtain⟨zs,e,hz⟩:=h
 subst e
 have ii:=cU r
 rw[ksk_kind (keys:=us.toArray) (kz:=zs) ii (by rw[DT];omega)]
 refine wpAny_pure (hQ _ fun i j C hi hj hij hC=>?_)
 unfold kas_ask
 obtain⟨ti,ei⟩:=jD r (i:=i) (by omega)
 obtain⟨tj,ej⟩:=jD r (i:=j) (by omega)
 rw[ei,ej]
 refine kat_lt_int ?_
 rw[<- hz i j hi hj]
 exact hC
def i5 (a b:List Int):Bool:=if a.length=b.length then HT.bh a b else decide (a.length<b.length)
end
section
variable {X:Cx} {a:Expr} {ta:TA} {p1 p2 kpos pos:Pos}
theorem uQ (K:PySem.W.Frag) (hg:Gl X "sorted") (hm:X.mg "sorted"=none) (hg2:Gl X "len") (hm2:X.mg "len"=none) (ha:PA X [a] ta) (hK:X.K=K:=by rfl)
  (he:backTo pos (starEach [a] X.env)=(false,eval a X.env) :: backTo pos (starEach [] X.env):=by rfl) (hpl:(backTo pos (starEach [a] X.env)).any (·.1)=false:=by rfl):
  PE X (.Call (.Name "sorted" p1) [a] [⟨some "key",.Name "len" p2,kpos⟩] pos) (w4 K BP zF ta):=by
 subst hK
 intro pins s σ H Q I h
 refine wpAny_Call_Name_kw (gU I hg hm boot_sorted ?_)
 refine PyProof.Rows.callWith_kw (bF (ha pos pins s σ H _ I h) fun us s1 ⟨vs,H1,I1,r,q⟩=>?_) he hpl
 refine wpAny_evalAll_cons (wpAny_bind (gU I1 hg2 hm2 boot_len (wpAny_bind (wpAny_standAt (wpAny_pure (wpAny_evalAll_nil ?_))))))
 obtain⟨p,as,lt,qq,e,hq,S,hk⟩:=q
 subst e
 obtain⟨u,e,rx⟩:=fI r
 subst e
 cases rx
 exact qW (f:= .builtin "len") (kw:=[(Str.ofString "key",.builtin "len")]) yT (fun _ _ _ _ h=>w6 h) (fun v H Q Q' m ⟨a,l,e1,e2,e3⟩=>⟨a,l,e1,e2,m _ _ e3⟩) (ksk_s1 _ _) (fun x=>ksk_l1 _ _) (fun x=>ksk_t4 _ _) I1 hq S hk
end
section
variable {n:Nat} {lt:Nat->Nat->Bool}
def ny (lt:Nat->Nat->Bool) (p:Array Nat) (k:Nat):Prop:=∀i j,i<j->j<k->lt (p.getD i 0) (p.getD j 0)=true
structure Tot (n:Nat) (lt:Nat->Nat->Bool):Prop where
 tr:∀i j k,i<n->j<n->k<n->lt i j=true->lt j k=true->lt i k=true
 as:∀i j,i<n->j<n->lt i j=true->lt j i=false
 to:∀i j,i<n->j<n->i≠j->lt i j=false->lt j i=true
theorem gH {α β:Type} {f:α->KasT β} {a:α}:∀{t:KasT α},dD n lt t=some a->dD n lt (t.bind f)=dD n lt (f a)
 | .ret b,h=>by cases h;rfl
 | .ask i j k,h=>by
  unfold dD at h
  split at h
  ·rename_i z
   have:=gH (f:=f) h
   rw[<- this]
   show(if _ then _ else _)=_
   rw[if_pos z]
  ·cases h
def Perm' (n:Nat) (p:Array Nat):Prop:=p.toList.Perm (DR n)
theorem Perm'.size {p:Array Nat} (h:Perm' n p):p.size=n:=by have:=h.length_eq;rw[Ew,Ep]at this;exact this
theorem Perm'.low {p:Array Nat} (h:Perm' n p) {i:Nat} (hi:i<n):p.getD i 0<n:=by
 have hs:i<p.size:=by rw[h.size];exact hi
 have e:p.getD i 0=p[i]:=by simp[Gg,hs]
 rw[e]
 exact Ee.mp (h.mem_iff.mp (by simp))
theorem Perm'.ne {p:Array Nat} (h:Perm' n p) {i j:Nat} (hi:i<n) (hj:j<n) (hij:i≠j):p.getD i 0≠p.getD j 0:=by
 have hs:i<p.size:=by rw[h.size];exact hi
 have ht:j<p.size:=by rw[h.size];exact hj
 have e:p.getD i 0=p[i]:=by simp[Gg,hs]
 have e':p.getD j 0=p[j]:=by simp[Gg,ht]
 rw[e,e']
 have nd:p.toList.Nodup:=h.nodup_iff.mpr List.nodup_range
 intro z
 exact hij ((Fi (xs:=p.toList) (h₀:=by simpa using hs) (h₁:=by simpa using ht) nd).mp (by simpa using z))
theorem lE {α:Type} {p:Array Nat} {i j:Nat} {f:Bool->KasT α} (h:Perm' n p) (hi:i<n) (hj:j<n) (hij:i≠j):dD n lt (.ask (p.getD i 0) (p.getD j 0) f)=dD n lt (f (lt (p.getD i 0) (p.getD j 0))):=by
 have a:=h.low hi
 have b:=h.low hj
 have c:=h.ne hi hj hij
 show(if _ then _ else _)=_
 rw[if_pos (by rw[decide_eq_true a,decide_eq_true b,beq_false_of_ne c];rfl)]
theorem w8 {p:Array Nat} (T:Tot n lt) (h:Perm' n p):∀(f k:Nat),1<=k->k+f<=n->ny lt p k->∃m,k<=m/\m<=k+f/\ny lt p m/\dD n lt (kas_asc p f k)=some m/\(m<k+f->lt (p.getD m 0) (p.getD (m-1) 0)=true)
 | 0,k,h1,hk,a=>⟨k,DS _,DS _,a,rfl,fun z=>absurd z (ER _)⟩
 | f+1,k,h1,hk,a=>by
  have e:dD n lt (kas_asc p (f+1) k)=dD n lt (if lt (p.getD k 0) (p.getD (k-1) 0)=true then KasT.ret k else kas_asc p f (k+1)):=lE h (by omega) (by omega) (by omega)
  by_cases c:lt (p.getD k 0) (p.getD (k-1) 0)=true
  ·rw [if_pos c]at e
   exact⟨k,DS _,by omega,a,e,fun _=>c⟩
  ·rw [if_neg c]at e
   have up:lt (p.getD (k-1) 0) (p.getD k 0)=true:=T.to _ _ (h.low (by omega)) (h.low (by omega)) (h.ne (by omega) (by omega) (by omega)) (by simpa using c)
   obtain⟨m,m1,m2,m3,m4,m5⟩:=w8 T h f (k+1) (by omega) (by omega) fun i j hij hj=>by
    by_cases z:j=k
    ·subst z
     by_cases y:i=j-1
     ·rw [y];exact up
     ·exact T.tr _ _ _ (h.low (by omega)) (h.low (by omega)) (h.low (by omega)) (a i (j-1) (by omega) (by omega)) up
    ·exact a i j hij (by omega)
   exact⟨m,by omega,by omega,m3,by rw[e];exact m4,fun z=>m5 (by omega)⟩
theorem lF {p:Array Nat} (T:Tot n lt) (h:Perm' n p) {k:Nat} (hk:k<n) (a:ny lt p k):∀(f l r:Nat),l<=r->r<=k->r-l<=f->(∀i,i<l->lt (p.getD i 0) (p.getD k 0)=true)->(∀i,r<=i->i<k->lt (p.getD k 0) (p.getD i 0)=true)->
  ∃m,m<=k/\dD n lt (kas_place p k f l r)=some m/\(∀i,i<m->lt (p.getD i 0) (p.getD k 0)=true)/\∀i,m<=i->i<k->lt (p.getD k 0) (p.getD i 0)=true
 | 0,l,r,h1,h2,h3,lo,hi=>⟨l,by omega,rfl,lo,fun i a b=>hi i (by omega) b⟩
 | f+1,l,r,h1,h2,h3,lo,hi=>by
  by_cases z:l>=r
  ·refine⟨l,by omega,?_,lo,fun i a b=>hi i (by omega) b⟩
   show dD n lt (if l>=r then KasT.ret l else _)=_
   rw[if_pos z];rfl
  ·have e:dD n lt (kas_place p k (f+1) l r)=dD n lt (if lt (p.getD k 0) (p.getD ((l+r)/2) 0)=true then kas_place p k f l ((l+r)/2)else kas_place p k f ((l+r)/2+1) r):=by
    show dD n lt (if l>=r then KasT.ret l else _)=_
    rw[if_neg z]
    exact lE h (by omega) (by omega) (by omega)
   by_cases c:lt (p.getD k 0) (p.getD ((l+r)/2) 0)=true
   ·rw [if_pos c]at e
    rw[e]
    refine lF T h hk a f l _ (by omega) (by omega) (by omega) lo fun i x y=>?_
    by_cases w:i=(l+r)/2
    ·rw [w];exact c
    ·exact T.tr _ _ _ (h.low (by omega)) (h.low (by omega)) (h.low (by omega)) c (a _ _ (by omega) y)
   ·rw [if_neg c]at e
    rw[e]
    have up:lt (p.getD ((l+r)/2) 0) (p.getD k 0)=true:=T.to _ _ (h.low (by omega)) (h.low (by omega)) (h.ne (by omega) (by omega) (by omega)) (by simpa using c)
    refine lF T h hk a f _ r (by omega) (by omega) (by omega) (fun i x=>?_) hi
    by_cases w:i=(l+r)/2
    ·rw [w];exact up
    ·exact T.tr _ _ _ (h.low (by omega)) (h.low (by omega)) (h.low (by omega)) (a _ _ (show i<(l+r)/2 by omega) (by omega)) up
theorem w9 {p:Array Nat} {k m i:Nat} (hk:k<p.size) (hm:m<=k):(bubble p k (k-m)).getD i 0=if i=m then p.getD k 0 else if m<i/\i<=k then p.getD (i-1) 0 else p.getD i 0:=by
 have q:∀(x:Array Nat) j,x.getD j 0=(x[j]?).getD 0:=fun x j=>by simp[Array.getD_eq_getD_getElem?]
 rw[q,getElem?_bubble hk (k-m) (by omega) i,show k-(k-m)=m by omega,q,q,q]
 split
 ·rfl
 ·split<;>rfl
theorem xa (T:Tot n lt):∀(f k:Nat) (p:Array Nat),Perm' n p->k+f=n->ny lt p k->∃q,dD n lt (kas_bin f p k)=some q/\Perm' n q/\ny lt q n
 | 0,k,p,h,e,a=>⟨p,rfl,h,by rw[<- e];exact a⟩
 | f+1,k,p,h,e,a=>by
  have hk:k<n:=by omega
  have hz:k<p.size:=by rw[h.size];exact hk
  obtain⟨m,m1,m2,m3,m4⟩:=lF T h hk a k 0 k (Eo _) (DS _) (by omega) (fun i z=>absurd z (Nat.not_lt_zero _)) fun i z y=>by omega
  have pb:Perm' n (bubble p k (k-m)):=(Array.perm_iff_toList_perm.mp (bubble_perm p k (k-m))).trans h
  obtain⟨q,q1,q2⟩:=xa T f (k+1) (bubble p k (k-m)) pb (by omega) fun i j hij hj=>by
   rw[w9 hz m1,w9 hz m1]
   by_cases x1:i=m
   ·rw [if_pos x1,if_neg (by omega),if_pos (by omega)]
    exact m4 _ (by omega) (by omega)
   ·rw [if_neg x1]
    by_cases x2:m<i/\i<=k
    ·rw [if_pos x2,if_neg (by omega),if_pos (by omega)]
     exact a _ _ (by omega) (by omega)
    ·rw [if_neg x2]
     by_cases x3:j=m
     ·rw [if_pos x3]
      exact m3 _ (by omega)
     ·rw [if_neg x3]
      by_cases x4:m<j/\j<=k
      ·rw [if_pos x4]
       by_cases x5:i=j-1
       ·omega
       ·exact a _ _ (by omega) (by omega)
      ·rw [if_neg x4]
       exact a _ _ hij (by omega)
  exact⟨q,by
   show dD n lt ((kas_place p k k 0 k).bind fun l=>kas_bin f (bubble p k (k-l)) (k+1))=_
   rw[gH m2];exact q1,q2⟩
theorem qX (T:Tot n lt) (h2:2<=n) (h64:n<64) (h0:lt 0 1=true):∃q,Sorts n lt q/\q.Pairwise (fun i j=>lt i j=true):=by
 have p0:Perm' n (EE (DR n)):=List.Perm.refl _
 have g:∀i,i<n->(EE (DR n)).getD i 0=i:=fun i hi=>by simp[Array.getD_eq_getD_getElem?,hi]
 obtain⟨m,m1,m2,m3,m4,m5⟩:=w8 T p0 (n-1) 1 (DS _) (by omega) fun i j x y=>by omega
 have m6:2<=m:=by
  refine Decidable.byContradiction fun z=>?_
  have e:m=1:=by omega
  subst e
  have:=m5 (by omega)
  rw[g _ (by omega),g _ (by omega)]at this
  have w:=T.as 1 0 (by omega) (by omega) this
  rw[h0]at w
  cases w
 have qe:dD n lt (kas_count n (EE (DR n)))=some (m,EE (DR n)):=by
  unfold kas_count
  rw[gH m4]
  by_cases z:(m==n)=true
  ·rw [if_pos z];rfl
  ·rw [if_neg z,if_pos (by omega)]
   refine(lE p0 (by omega) (by omega) (by omega)).trans ?_
   rw[m3 0 (m-1) (by omega) (by omega)]
   rfl
 have fin:∃q:Array Nat,dD n lt (kas_sort n)=some q/\Perm' n q/\ny lt q n:=by
  unfold kas_sort
  rw[gH qe]
  by_cases z:m<n
  ·dsimp only
   rw[if_pos z,show max m 1=m by omega]
   exact xa T (n-m) m _ p0 (by omega) m3
  ·dsimp only
   rw[if_neg z]
   exact⟨_,rfl,p0,fun i j x y=>m3 i j x (by omega)⟩
 obtain⟨q,q1,q2,q3⟩:=fin
 refine⟨q.toList,⟨q2,.inr (.inl ⟨h2,h64,by simpa using q1⟩)⟩,?_⟩
 rw[E8]
 intro i j hi hj hij
 have hi':i<q.size:=by simpa using hi
 have hj':j<q.size:=by simpa using hj
 have:=q3 i j hij (by rw[<- q2.size];exact hj')
 simpa [Gg,hi',hj']using this
end
theorem xb:∀{a b c:List Int},HT.bh a b=true->HT.bh b c=true->HT.bh a c=true
 | [],[],_,h,_=>by cases h
 | [],_ :: _,[],_,h=>by cases h
 | [],_ :: _,_ :: _,_,_=>rfl
 | _ :: _,[],_,h,_=>by cases h
 | _ :: _,_ :: _,[],_,h=>by cases h
 | x :: a,y :: b,z :: c,h,g=>by
  rw[HT.cT]at h g ⊢
  by_cases e:x=y
  ·rw [if_pos e]at h
   subst e
   by_cases f:x=z
   ·rw [if_pos f]at g ⊢
    exact xb h g
   ·rw [if_neg f]at g ⊢
    exact g
  ·rw [if_neg e]at h
   have h:=of_decide_eq_true h
   by_cases f:y=z
   ·subst f
    rw[if_neg e]
    exact decide_eq_true h
   ·rw [if_neg f]at g
    have g:=of_decide_eq_true g
    rw[if_neg (by omega)]
    exact decide_eq_true (by omega)
theorem xc:∀{a b:List Int},HT.bh a b=true->HT.bh b a=false
 | [],[],h=>by cases h
 | [],_ :: _,_=>rfl
 | _ :: _,[],h=>by cases h
 | x :: a,y :: b,h=>by
  rw[HT.cT]at h ⊢
  by_cases e:x=y
  ·rw [if_pos e]at h
   rw[if_pos e.symm]
   exact xc h
  ·rw [if_neg e]at h
   have h:=of_decide_eq_true h
   rw[if_neg fun z=>e z.symm]
   exact decide_eq_false (by omega)
theorem xf:∀{a b:List Int},a≠b->HT.bh a b=false->HT.bh b a=true
 | [],[],h,_=>(h rfl).elim
 | [],_ :: _,_,h=>by cases h
 | _ :: _,[],_,_=>rfl
 | x :: a,y :: b,n,h=>by
  rw[HT.cT]at h ⊢
  by_cases e:x=y
  ·rw [if_pos e]at h
   rw[if_pos e.symm]
   exact xf (fun z=>n (by rw[e,z])) h
  ·rw [if_neg e]at h
   have h:=of_decide_eq_false h
   rw[if_neg fun z=>e z.symm]
   exact decide_eq_true (by omega)
theorem xg {a b c:List Int} (h:i5 a b=true) (g:i5 b c=true):i5 a c=true:=by
 unfold i5 at*
 by_cases e:a.length=b.length
 ·rw [if_pos e]at h
  by_cases f:b.length=c.length
  ·rw [if_pos f]at g
   rw[if_pos (e.trans f)]
   exact xb h g
  ·rw [if_neg f]at g
   rw[if_neg (by omega),e]
   exact g
 ·rw [if_neg e]at h
  have h:=of_decide_eq_true h
  by_cases f:b.length=c.length
  ·rw [if_neg (by omega)]
   exact decide_eq_true (by omega)
  ·rw [if_neg f]at g
   have g:=of_decide_eq_true g
   rw[if_neg (by omega)]
   exact decide_eq_true (by omega)
theorem xh {a b:List Int} (h:i5 a b=true):i5 b a=false:=by
 unfold i5 at*
 by_cases e:a.length=b.length
 ·rw [if_pos e]at h
  rw[if_pos e.symm]
  exact xc h
 ·rw [if_neg e]at h
  have h:=of_decide_eq_true h
  rw[if_neg (by omega)]
  exact decide_eq_false (by omega)
theorem AK {a b:List Int} (n:a≠b) (h:i5 a b=false):i5 b a=true:=by
 unfold i5 at*
 by_cases e:a.length=b.length
 ·rw [if_pos e]at h
  rw[if_pos e.symm]
  exact xf n h
 ·rw [if_neg e]at h
  have h:=of_decide_eq_false h
  rw[if_neg (by omega)]
  exact decide_eq_true (by omega)
def qS:Nat->List Nat
 | 0=>[0]
 | 1=>[0,1]
 | 2=>[0,1,3,2]
 | 3=>[0,1,3,7,5,2,6,4]
 | 4=>[0,1,3,7,15,11,5,13,9,2,6,14,10,4,12,8]
 | 5=>[0,1,3,7,15,31,23,11,27,19,5,13,29,21,9,25,17,2,6,14,30,22,10,26,18,4,12,28,20,8,24,16]
 | _=>Cd
def qK:Nat->List Nat
 | 0=>[0]
 | 1=>[0,1]
 | 2=>[0,1,3,2]
 | 3=>[0,1,5,7,2,4,6,3]
 | 4=>[0,1,9,13,15,2,6,8,10,12,14,3,5,7,11,4]
 | 5=>[0,1,17,25,29,31,2,10,14,16,18,22,24,26,28,30,3,7,9,11,13,15,19,21,23,27,4,6,8,12,20,5]
 | _=>Ce
def lG (n:Nat):List Nat:=(qS n).map fun i=>((bO n).getD i []).length
def vg (n:Nat):List Nat:=(qK n).map fun i=>(qS n).getD i 0
theorem sT {P:Nat->Prop} (h0:P 0) (h1:P 1) (h2:P 2) (h3:P 3) (h4:P 4) (h5:P 5) (h6:P 6):∀n,n<=6->P n
 | 0,_=>h0 | 1,_=>h1 | 2,_=>h2 | 3,_=>h3 | 4,_=>h4 | 5,_=>h5 | 6,_=>h6
 | n+7,h=>absurd h (by omega)
theorem bp {n:Nat} {lt:Nat->Nat->Bool} {q:List Nat} (h2:2<=n) (h64:n<64) (p:q.isPerm (DR n)=true) (r:dD n lt (kas_sort n)=some q.toArray):Sorts n lt q:=⟨F5.mp p,.inr (.inl ⟨h2,h64,r⟩)⟩
theorem sU:∀n,n<=6->Sorts (2^n) (AE n) (qS n):=sT ⟨List.Perm.refl _,.inl ⟨by decide,rfl⟩⟩ (bp (by decide) (by decide) (by decide +kernel) (by decide +kernel)) (bp (by decide) (by decide) (by decide +kernel) (by decide +kernel)) (bp (by decide) (by decide) (by decide +kernel) (by decide +kernel))
 (bp (by decide) (by decide) (by decide +kernel) (by decide +kernel)) (bp (by decide) (by decide) (by decide +kernel) (by decide +kernel)) ⟨F5.mp Dx,.inr (.inr ⟨rfl,_,_,Dw⟩)⟩
theorem xi:lG 6=pJ:=by decide +kernel
theorem zG:∀n,n<=6->Sorts (2^n) (AJ (lG n)) (qK n):=sT ⟨List.Perm.refl _,.inl ⟨by decide,rfl⟩⟩ (bp (by decide) (by decide) (by decide +kernel) (by decide +kernel)) (bp (by decide) (by decide) (by decide +kernel) (by decide +kernel)) (bp (by decide) (by decide) (by decide +kernel) (by decide +kernel))
 (bp (by decide) (by decide) (by decide +kernel) (by decide +kernel)) (bp (by decide) (by decide) (by decide +kernel) (by decide +kernel)) ⟨F5.mp DC,.inr (.inr ⟨rfl,_,_,by rw[xi];exact DB⟩)⟩
def Cf (n:Nat):List Nat->Bool
 | i :: j :: l=>CT n i j&&Cf n (j :: l)
 | _=>true
theorem yV:∀n,n<=6->Cf n (vg n)=true:=sT (by decide +kernel) (by decide +kernel) (by decide +kernel) (by decide +kernel) (by decide +kernel) (by decide +kernel) (by decide +kernel)
theorem iU:∀n,n<=6->(vg n).Perm (DR (2^n)):=fun n h=>F5.mp (sT (P:=fun n=>(vg n).isPerm (DR (2^n))=true) (by decide +kernel) (by decide +kernel) (by decide +kernel) (by decide +kernel) (by decide +kernel) (by decide +kernel) (by decide +kernel) n h)
theorem yW (a b:List Nat):wY a b=i5 (a.map fun(x:Nat)=>(x:Int)) (b.map fun(x:Nat)=>(x:Int)):=by
 unfold wY i5
 rw[DI,DI]
theorem xj {n:Nat}:∀(l:List Nat),Cf n l=true->l.Pairwise fun i j=>CT n i j=true
 | [],_=> .nil
 | [i],_=>Fm _ _
 | i :: j :: l,h=>by
  unfold Cf at h
  rw[EF]at h
  have r:=xj (j :: l) h.2
  refine .cons (fun k hk=>?_) r
  rcases Ed.mp hk with z | z
  ·rw [z];exact h.1
  ·have g:=List.rel_of_pairwise_cons r z
   unfold CT at*
   rw[yW]at*
   exact xg h.1 g
theorem AL {st:List Int} {n:Nat} (up:st.Pairwise (· < ·)) (hn:st.length=n) {A B:List Nat} (hA:A∈bO n) (hB:B∈bO n):i5 (cj st A) (cj st B)=wY A B:=by
 unfold i5 wY
 have e:HT.bh (cj st A) (cj st B)=HT.bh (A.map fun(x:Nat)=>(x:Int)) (B.map fun(x:Nat)=>(x:Int)):=oa _ _ fun x hx y hy=>wK up (by rw[hn];exact gF n A hA x hx) (by rw[hn];exact gF n B hB y hy)
 rw[e]
 unfold cj
 rw[DI,DI]
def sV (st:List Int):List (List Int):=(vg st.length).map fun i=>cj st ((bO st.length).getD i [])
theorem kg {n i:Nat} (h:i<2^n):(bO n).getD i []∈bO n:=by
 rw[<- dE]at h
 rw[fU (DJ h)]
 exact El h
theorem AM {st:List Int} (up:st.Pairwise (· < ·)) (h6:st.length<=6):(sV st).Pairwise fun x y=>i5 x y=true:=by
 unfold sV
 rw[Fl]
 refine List.Pairwise.imp_of_mem (fun {i j} hi hj h=>?_) (xj _ (yV _ h6))
 have m:∀i∈vg st.length,i<2^st.length:=fun i hi=>Ee.mp ((iU _ h6).mem_iff.mp hi)
 rw[AL up rfl (kg (m i hi)) (kg (m j hj))]
 exact h
theorem lH {st:List Int} (h6:st.length<=6):(sV st).Perm ((bO st.length).map (cj st)):=by
 have:=(iU _ h6).map fun i=>cj st ((bO st.length).getD i [])
 have e:(DR (2^st.length)).map (fun i=>cj st ((bO st.length).getD i []))=(bO st.length).map (cj st):=by
  have p:=fo (bO st.length) []
  rw[dE]at p
  conv=>rhs;rw[<- p]
  rw[Eu]
  rfl
 rw[e]at this
 exact this
theorem sW:∀n,∃r,bO n=[] :: r
 | 0=>⟨[],rfl⟩
 | n+1=>by
  obtain⟨r,e⟩:=sW n
  refine⟨r++(bO n).map fun l=>l++[n],?_⟩
  show bO n++_=_
  rw[e]
  rfl
theorem jE {α:Type} (l:List α) (d:α) (P:α->Bool):((DR l.length).filter fun i=>P (l.getD i d)).map (fun i=>l.getD i d)=l.filter P:=by
 conv=>rhs;rw[<- fo l d]
 rw[F4]
 rfl
theorem gI {α:Type} {l:List α} {i:Nat} {d:α} (h:i<l.length):l[i]?=some (l.getD i d):=by
 rw[DK,DJ h];rfl
theorem gJ {H:Hp} {as:List Addr} {ls:List (List Int)} (il:IntsL H as ls):∀(q:List Nat),(∀i∈q,i<ls.length)->IntsL H (q.map fun i=>as.getD i 0) (q.map fun i=>ls.getD i [])
 | [],_=> .nil
 | i :: q,h=>by
  have hi:=h i Ei
  obtain⟨a,e1,e2⟩:=bJ il (gI (d:=[]) hi)
  exact .cons (by show H (as.getD i 0)=_;rw[fU e1];exact e2) (gJ il q fun j hj=>h j (Ea _ hj))
theorem uR {H:Hp} {bs:List Addr} {ls:List (List Int)} (il:IntsL H bs ls) (P:List Int->Bool):∃cs:List Addr,((DR bs.length).filter fun i=>P (ls.getD i [])).map (fun i=>V.ref (bs.getD i 0))=cs.map V.ref/\IntsL H cs (ls.filter P)/\∀b∈cs,b∈bs:=by
 have la:bs.length=ls.length:=Paired.length il
 refine⟨((DR bs.length).filter fun i=>P (ls.getD i [])).map fun i=>bs.getD i 0,by rw[Eu];rfl,?_,fun b hb=>?_⟩
 ·have:=gJ il ((DR bs.length).filter fun i=>P (ls.getD i [])) fun i hi=>by
   have:=Ee.mp (Ej.mp hi).1
   omega
  rw[la,jE]at this
  rw[la]
  exact this
 ·obtain⟨i,hi,rfl⟩:=DZ.mp hb
  have:=Ee.mp (Ej.mp hi).1
  exact DQ (gI this)
def eX (st:List Int):List (List Int):=(bO st.length).map (cj st)
theorem pK {st:List Int} {x:Int} {l:List Nat} (h:∀k∈l,k<st.length):cj (st++[x]) l=cj st l:=by
 unfold cj
 refine Fb fun k hk=>?_
 rw[DK,DK,Fh (h k hk)]
theorem lI (st:List Int) (x:Int):eX (st++[x])=eX st++(eX st).map fun l=>l++[x]:=by
 unfold eX
 rw[DX,Ec]
 show(bO st.length++(bO st.length).map fun l=>l++[st.length]).map (cj (st++[x]))=_
 rw[DY]
 refine congr (congrArg _ ?_) ?_
 ·exact Fb fun l hl=>pK (gF _ l hl)
 ·rw [Eu,Eu]
  refine Fb fun l hl=>?_
  show cj (st++[x]) (l++[st.length])=cj st l++[x]
  rw[uK,pK (gF _ l hl),DK,E3 (DS _),FN]
  rfl
theorem dA (st:List Int):(eX st).length=2^st.length:=by unfold eX;rw[DI,dE]
theorem xk {st:List Int} {l:List Int} (h:l∈eX st):l.length<=st.length:=by
 obtain⟨a,ha,rfl⟩:=DZ.mp h
 unfold cj
 rw[DI]
 exact yE _ a ha
theorem xl {n:Nat} (h:n<=6):2^n<=64:=Nat.pow_le_pow_right (n:=2) (by decide) h
theorem sX {st:List Int} (h6:st.length<=6):(sV st).length=2^st.length:=by rw[(lH h6).length_eq,DI,dE]
theorem yX {st:List Int} (up:st.Pairwise (· < ·)) {i j:Nat} (hi:i<(eX st).length) (hj:j<(eX st).length):AE st.length i j=HT.bh ((eX st).getD i []) ((eX st).getD j []):=by
 rw[dA]at hi hj
 have g:∀i,i<2^st.length->(eX st).getD i []=cj st ((bO st.length).getD i []):=fun i hi=>by
  have:i<(bO st.length).length:=by rw[dE];exact hi
  rw[show(eX st)=(bO st.length).map (cj st)from rfl,fU (show((bO st.length).map (cj st))[i]?=some (cj st (bO st.length)[i]) by rw[DM,DJ this];rfl),fU (DJ this)]
 rw[g i hi,g j hj]
 exact(oa _ _ fun x hx y hy=>wK up (gF _ _ (kg hi) x hx) (gF _ _ (kg hj) y hy)).symm
theorem uS {n:Nat} (h6:n<=6) (as:List Addr):(qK n).map (fun i=>((qS n).map fun i=>as.getD i 0).getD i 0)=(vg n).map fun i=>as.getD i 0:=by
 unfold vg
 rw[Eu]
 refine Fb fun i hi=>?_
 have:i<(qS n).length:=by rw[(sU n h6).len];exact(zG n h6).le i hi
 show((qS n).map fun i=>as.getD i 0).getD i 0=as.getD ((qS n).getD i 0) 0
 rw[DK,DM,DJ this,fU (DJ this)]
 rfl
theorem xm {H:Hp} {as:List Addr} {st:List Int} (h6:st.length<=6) (il:IntsL H as (eX st)):IntsL H ((vg st.length).map fun i=>as.getD i 0) (sV st):=by
 have lt:∀i∈vg st.length,i<2^st.length:=fun i hi=>Ee.mp ((iU _ h6).mem_iff.mp hi)
 have:=gJ il (vg st.length) fun i hi=>by rw[dA];exact lt i hi
 have e:(vg st.length).map (fun i=>(eX st).getD i [])=sV st:=by
  unfold sV
  refine Fb fun i hi=>?_
  have:i<(bO st.length).length:=by rw[dE];exact lt i hi
  show((bO st.length).map (cj st)).getD i []=_
  rw[fU (show((bO st.length).map (cj st))[i]?=some (cj st (bO st.length)[i]) by rw[DM,DJ this];rfl),fU (DJ this)]
 rw[e]at this
 exact this
theorem pL {H:Hp} {Q:List V->Hp->Prop}:∀(as:List Addr) (ls:List (List Int)) (ks:List V),IntsL H as ls->Q (ks++ls.map fun l=>V.int (l.length:Int)) H->KeysT BP (as.map V.ref) ks H Q
 | [],[],ks,_,q=>by rw[FW,Fc]at q;exact q
 | a :: as,l :: ls,ks,.cons h t,q=>⟨a,_,rfl,h,by
  refine pL as ls _ t ?_
  rw[FZ,DI]
  exact q⟩
theorem sY {st:List Int} (h6:st.length<=6) {i:Nat} (hi:i<2^st.length):(((qS st.length).map fun i=>(eX st).getD i []).map fun l=>(l.length:Int)).getD i 0=((lG st.length).getD i 0:Nat):=by
 have hq:i<(qS st.length).length:=by rw[(sU _ h6).len];exact hi
 have hk:(qS st.length)[i]<2^st.length:=(sU _ h6).le _ (El hq)
 have hs:(qS st.length)[i]<(bO st.length).length:=by rw[dE];exact hk
 rw[Eu,DK,DM,DJ hq]
 unfold lG
 rw[DK,DM,DJ hq]
 show((((bO st.length).map (cj st)).getD (qS st.length)[i] []).length:Int)=((((bO st.length).getD (qS st.length)[i] []).length:Nat):Int)
 rw[fU (show((bO st.length).map (cj st))[(qS st.length)[i]]?=some (cj st (bO st.length)[(qS st.length)[i]]) by rw[DM,DJ hs];rfl),fU (DJ hs)]
 unfold cj
 rw[DI]
def AZ (es:jA) (dn:List (Option Int)) (ns:List Int):Bool:=es.all fun x=> !(decide (x.1∈ns)&&((dn.getD x.2.toNat none).isSome&& !decide (x.2∈ns)))
theorem BQ (es:jA) (dn:List (Option Int)) (ns:List Int):AZ es dn ns=jB es dn ns:=by
 unfold AZ jB
 rw[List.all_map,List.all_filter]
 refine List.all_congr rfl fun x=>?_
 show _=(!decide (x.1∈ns)||(decide (x.2∈ns)||(dn.getD x.2.toNat none).isNone))
 cases decide (x.1∈ns)<;>cases decide (x.2∈ns)<;>cases dn.getD x.2.toNat none<;>rfl
theorem xn (dn:List (Option Int)) (x:Option Int):dg (dn++[x])=dg dn++(if x.isSome then [(dn.length:Int)]else []):=by
 unfold dg
 rw[DX,Ec,E4,EI,DY]
 refine congr (congrArg _ ?_) ?_
 ·refine congrArg _ (List.filter_congr fun i hi=>?_)
  rw[DK,DK,Fh (Ee.mp hi)]
 ·have e:(dn++[x]).getD dn.length none=x:=by rw[DK,E3 (DS _),FN];rfl
  rw[FO,e]
  cases x<;>rfl
def Cg (l g:List Int):List Int:=l.filter fun x=> !decide (x∈g)
def BR (may:List (List Int)) (g:List Int):List (List Int):=may.map fun l=>Cg l g
theorem oi {l g:List Int} {x:Int}:x∈Cg l g<->x∈l/\x∉g:=by unfold Cg;rw[Ej];simp
theorem sZ {may:List (List Int)} {g:List Int}:(BR may g).length=may.length:=DI _
theorem qY {may:List (List Int)} {g:List Int} {i:Nat}:(BR may g).getD i []=Cg (may.getD i []) g:=by
 unfold BR
 rw[DK,DM,DK]
 cases may[i]?<;>rfl
theorem yY {may:List (List Int)} {ts:List qf} {g hs:List Int}:IsPlan (BR may g) ts hs<->IsPlan may ts hs/\∀x∈hs,x∉g:=by
 constructor
 ·intro p
  have l:=p.len
  rw[sZ]at l
  refine⟨⟨l,fun i hi=>?_,p.kp⟩,fun x hx=>?_⟩
  ·have:=p.of i hi
   rw[qY,oi]at this
   exact this.1
  ·obtain⟨i,hi,rfl⟩:=Ef.mp hx
   have:=p.of i hi
   rw[qY,oi,aH hi]at this
   exact this.2
 ·rintro⟨p,h⟩
  refine⟨by rw[sZ];exact p.len,fun i hi=>?_,p.kp⟩
  rw[qY,oi]
  exact⟨p.of i hi,h _ (by rw[aH hi];exact El hi)⟩
structure AllOf (may:List (List Int)) (U:List Int):Prop where
 up:U.Pairwise (· < ·)
 mem:∀x,x∈U<->∃p∈may,x∈p
theorem AllOf.sub {may:List (List Int)} {U:List Int} (a:AllOf may U):∀p∈may,∀b∈p,b∈U:=fun p hp b hb=>(a.mem b).mpr ⟨p,hp,hb⟩
theorem xo {may:List (List Int)} {ts:List qf} {hs U:List Int} (p:IsPlan may ts hs) (a:AllOf may U):∀x∈hs,x∈U:=fun x hx=>by
 obtain⟨i,hi,rfl⟩:=Ef.mp hx
 have:=p.of i hi
 rw[aH hi]at this
 have hl:=p.len
 rw[bx (by omega)]at this
 exact a.sub _ (El (by omega)) _ this
theorem nA (P:Int->Bool):∀(n:Nat) (U:List Int),U.length=n->U.filter P∈eX U
 | 0,U,h=>by rw[List.eq_nil_of_length_eq_zero h];exact DV.mpr rfl
 | n+1,U,h=>by
  rcases List.eq_nil_or_concat U with rfl | ⟨V,x,rfl⟩
  ·cases h
  ·rw [List.concat_eq_append]at h ⊢
   rw[DX,Ec]at h
   have ih:=nA P n V (by omega)
   rw[lI,EI,FO,Gi]
   by_cases c:P x=true
   ·rw [if_pos c];exact Eh _ (DZ.mpr ⟨_,ih,rfl⟩)
   ·rw [if_neg c,Fc];exact Es _ ih
theorem uT {U:List Int} (h6:U.length<=6) (P:Int->Bool):U.filter P∈sV U:=(lH h6).mem_iff.mpr (nA P _ U rfl)
theorem C8 {may:List (List Int)} {ts:List qf} {U g:List Int} {Ps:List (List Int)} (A:AllOf may U) (h6:U.length<=6) (pn:∀hs∈Ps,IsPlan may ts hs) (fw:∀s∈sV U,i5 s g=true->∃hs∈Ps,∀x∈hs,x∉s) {S:List Int} (no:∀hs,¬IsPlan (BR may S) ts hs):g.length<=S.length:=by
 refine Decidable.byContradiction fun z=>?_
 have m:=uT h6 (fun x=>decide (x∈S))
 have le:(U.filter fun x=>decide (x∈S)).length<=S.length:=((pj A.up).sublist List.filter_sublist).length_le_of_subset fun x hx=>of_decide_eq_true (Ej.mp hx).2
 obtain⟨hs,hm,hd⟩:=fw _ m (by unfold i5;rw[if_neg (by omega)];exact decide_eq_true (by omega))
 refine no hs (yY.mpr ⟨pn hs hm,fun x hx hS=>hd x hx (Ej.mpr ⟨xo (pn hs hm) A x hx,decide_eq_true hS⟩)⟩)
end L2
namespace L2
open PySem PySem.Spec PyProof.Rows
section
variable {X:Cx} {tg:Expr}
end
section
variable {X:Cx} {k i:Nat} {f C:Addr} {fd:FuncData} {ps:List Str} {sp:Sp} {x y nm:Str} {st:Stmt} {p cpos epos np hpos pos xpos:Pos} {e:Expr} {es:List Expr} {t:TA} {b₀:Stmt} {suite:List Stmt} {ts:TS} {c:Value}
end
end L2
namespace L2
open PySem PySem.Spec PyProof.Rows PySem.W
def iC (dn:List (Option Int)) (ns:List Int):List (Option Int):=(DR dn.length).map fun(i:Nat)=>if(i:Int)∈ns then none else dn.getD i none
theorem kh (dn:List (Option Int)) (ns:List Int):(iC dn ns).length=dn.length:=by unfold iC;rw[DI,Ew]
theorem tz {dn:List (Option Int)} {ns:List Int} {b:Int} (h:some b∈iC dn ns):some b∈dn:=by
 obtain⟨i,hi,e⟩:=DZ.mp h
 by_cases z:(i:Int)∈ns
 ·rw [if_pos z]at e;cases e
 ·rw [if_neg z]at e
  have hl:=Ee.mp hi
  rw[DK,DJ hl]at e
  rw[<- show dn[i]=some b from e]
  exact El hl
def qh (es:jA) (dn:List (Option Int)):List (List Int):=(sV (dg dn)).filter (jB es dn)
theorem xp {es:jA} {dn:List (Option Int)} (h:dn.length<=6):(qh es dn).Pairwise fun x y=>i5 x y=true:=
 (AM (wL dn) (Ek (fh dn) h)).sublist List.filter_sublist
theorem xq {es:jA} {dn:List (Option Int)} (h:dn.length<=6):(qh es dn).length<=64:=by
 refine Ek (Et _ _) ?_
 have:=fh dn
 rw[sX (by omega)]
 exact xl (by omega)
theorem uU {L:List (List Int)} (up:L.Pairwise fun x y=>i5 x y=true) {i:Nat} {g:List Int} (hi:L[i]?=some g):(L.take i).filter (fun s=>decide (s.length<g.length))=L.filter fun s=>decide (s.length<g.length):=by
 conv=>rhs;rw[<- Fs i L]
 rw[EI]
 have:(L.drop i).filter (fun s=>decide (s.length<g.length))=[]:=by
  rw[List.filter_eq_nil_iff]
  intro s hs z
  have z:=of_decide_eq_true z
  obtain⟨hl,e⟩:=DN.mp hi
  obtain⟨k,hk,rfl⟩:=Ef.mp hs
  rw[Fq]at hk
  rw[List.getElem_drop]at z
  rcases Nat.eq_zero_or_pos k with k0 | kp
  ·subst k0
   simp only[Nat.add_zero]at z
   rw[e]at z
   exact ER _ z
  ·have:=E8.mp up i (i+k) hl (by omega) (by omega)
   rw[e]at this
   unfold i5 at this
   by_cases c:g.length=L[i+k].length
   ·omega
   ·rw [if_neg c]at this
    have:=of_decide_eq_true this
    omega
 rw[this,Fc]
def PrAt (may:List (List Int)) (ts:List qf) (dn:List (Option Int)) (H:Hp) (a:Addr) (s:List Int):Prop:=∃(sa:Addr) (v:V) (pp:Pap),H a=some (.tup [.ref sa,v])/\H sa=some (.lst (s.map V.int))/\PapAt H v pp/\Shows (bW may (iC dn s)) ts [] pp
theorem PrAt.same {may:List (List Int)} {ts:List qf} {dn:List (Option Int)} {H H':Hp} {a:Addr} {s:List Int} (h:PrAt may ts dn H a s) (e:Same H H'):PrAt may ts dn H' a s:=by
 obtain⟨sa,v,pp,h1,h2,h3,h4⟩:=h
 exact⟨sa,v,pp,e _ _ h1,e _ _ h2,h3.same e,h4⟩
def MTold (H':Hp) (t:Addr) (may:List (List Int)) (ts:List qf) (es:jA) (dn:List (Option Int)):Prop:=
 (∃(sa lp pl:Addr) (g hs:List Int) (qs:List Addr),H' t=some (.tup [.str "mend",.ref sa,.ref lp,.ref pl])/\H' sa=some (.lst (g.map V.int))/\g∈qh es dn/\H' lp=some (.lst (hs.map V.int))/\IsPlan (bW may (iC dn g)) ts hs/\H' pl=some (.lst (qs.map V.ref))/\Paired (PrAt may ts dn H') qs ((qh es dn).filter fun s=>decide (s.length<g.length)))\/
 ∃(pl:Addr) (qs:List Addr),H' t=some (.tup [.str "none",.ref pl])/\H' pl=some (.lst (qs.map V.ref))/\Paired (PrAt may ts dn H') qs (qh es dn)
theorem lJ {α:Type} {F:Addr->α->Prop} {as:List Addr} {ls:List α} {d:α} (il:Paired F as ls):∀(q:List Nat),(∀i∈q,i<ls.length)->Paired F (q.map fun i=>as.getD i 0) (q.map fun i=>ls.getD i d)
 | [],_=> .nil
 | i :: q,h=>by
  have hi:=h i Ei
  obtain⟨a,e1,e2⟩:=bJ il (gI (d:=d) hi)
  exact .cons (by show F (as.getD i 0) _;rw[fU e1];exact e2) (lJ il q fun j hj=>h j (Ea _ hj))
theorem lK {α:Type} {F:Addr->α->Prop} {bs:List Addr} {ls:List α} (d:α) (il:Paired F bs ls) (P:α->Bool):∃cs:List Addr,((DR bs.length).filter fun i=>P (ls.getD i d)).map (fun i=>V.ref (bs.getD i 0))=cs.map V.ref/\Paired F cs (ls.filter P):=by
 have la:bs.length=ls.length:=Paired.length il
 refine⟨((DR bs.length).filter fun i=>P (ls.getD i d)).map fun i=>bs.getD i 0,by rw[Eu];rfl,?_⟩
 have:=lJ (d:=d) il ((DR bs.length).filter fun i=>P (ls.getD i d)) fun i hi=>by
  have:=Ee.mp (Ej.mp hi).1
  omega
 rw[la,jE]at this
 rw[la]
 exact this
end L2
namespace L2
open PySem PySem.Spec PyProof.Rows
abbrev hZ (X:Cx) (sc:Scope) (N:List Str) (b:BA):Cx:=
 {prog:=X.prog,w:=X.w,K:=X.K,mg:=X.mg,base:=X.base,A:=X.A,N:=N,s₀:=b.s₀,H₀:=b.H₀,env:=compEnvC sc b.cl b.C X.env,outer:=X.stack,stack:=X.stack,ex:=b.ex,fn:=fun x=>sc.names.lookup x==some .cell,calm:=X.calm,pn:=[],xe:=fun _ _=>False}
theorem ji:∀(l:List (Str×NameKind)) (n:Nat) (acc:List (Str×Addr)) (z:Str×Addr),z∈acc->z∈cellsFrom n l acc
 | [],_,_,_,h=>h
 | (y,k) :: r,n,acc,z,h=>by
  unfold cellsFrom
  by_cases hk:(k== .cell)=true
  ·rw [if_pos hk];exact ji r _ _ z (Ea _ h)
  ·rw [if_neg hk];exact ji r _ _ z h
theorem h8:∀(l:List (Str×NameKind)) (n:Nat) (acc acc':List (Str×Addr)),(∀z∈acc,z∈acc')->∀z∈cellsFrom n l acc,z∈cellsFrom n l acc'
 | [],_,_,_,h,z,hz=>h z hz
 | (y,k) :: r,n,acc,acc',h,z,hz=>by
  unfold cellsFrom at hz ⊢
  by_cases hk:(k== .cell)=true
  ·rw [if_pos hk]at hz ⊢
   refine h8 r _ _ _ (fun u hu=>?_) z hz
   rcases Ed.mp hu with e | e
   ·rw [e];exact Ei
   ·exact Ea _ (h u e)
  ·rw [if_neg hk]at hz ⊢;exact h8 r _ _ _ h z hz
theorem fq {x:Str} {c:Addr}:∀(l:List (Str×NameKind)) (n:Nat) (acc:List (Str×Addr)),(cellsFrom n l acc).lookup x=some c->((x,NameKind.cell)∈l/\(x,c)∈cellsFrom n l [])\/acc.lookup x=some c
 | [],_,_,h=> .inr h
 | (y,k) :: r,n,acc,h=>by
  unfold cellsFrom at h ⊢
  by_cases hk:(k== .cell)=true
  ·rw [if_pos hk]at h ⊢
   rcases fq r _ _ h with⟨z1,z2⟩ | z
   ·exact .inl ⟨Ea _ z1,h8 r _ _ _ (fun _ u=>by cases u) _ z2⟩
   ·rw [Ex]at z
    cases hy:x==y with
    | true=>
     rw[hy]at z
     cases z
     have e1:x=y:=by simpa using hy
     have e2:k= .cell:=by simpa using hk
     subst e1
     subst e2
     exact .inl ⟨Ei,ji r _ _ _ Ei⟩
    | false=>rw[hy]at z;exact .inr z
  ·rw [if_neg hk]at h ⊢
   rcases fq r _ _ h with⟨z1,z2⟩ | z
   ·exact .inl ⟨Ea _ z1,z2⟩
   ·exact .inr z
theorem gL {x:Str} {c:Addr}:∀(l:List (Str×NameKind)) (n:Nat) (acc:List (Str×Addr)),(x,NameKind.cell)∈l->(cellsFrom n l acc).lookup x=some c->n<=c
 | (y,k) :: r,n,acc,hm,h=>by
  unfold cellsFrom at h
  by_cases hr:(x,NameKind.cell)∈r
  ·by_cases hk:(k== .cell)=true
   ·rw [if_pos hk]at h;exact Nat.le_of_succ_le (gL r _ _ hr h)
   ·rw [if_neg hk]at h;exact gL r _ _ hr h
  ·rcases Ed.mp hm with e | e
   ·cases e
    rw[if_pos (show(NameKind.cell==NameKind.cell)=true from rfl)]at h
    rcases fq r _ _ h with⟨z1,_⟩ | z
    ·exact absurd z1 hr
    ·rw [Ex,beq_self_eq_true]at z
     cases z
     exact DS _
   ·exact absurd e hr
theorem lL {env:Env}:∀(l:List (Str×NameKind)) (x:Str),(l.map fun(n,k)=>if(k==NameKind.free&&env.scope.kind== .function&&env.kindOf n==some .cell)then(n,NameKind.cell)else(n,k)).lookup x=some .cell\/(l.map fun(n,k)=>if(k==NameKind.free&&env.scope.kind== .function&&env.kindOf n==some .cell)then(n,NameKind.cell)else(n,k)).lookup x=some .free->l.lookup x=some .cell\/l.lookup x=some .free
 | [],_,h=>by rcases h with h | h<;>cases h
 | (n,k) :: r,x,h=>by
  have ih:=lL (env:=env) r x
  rw[En]at h
  dsimp only at h
  by_cases hc:(k==NameKind.free&&env.scope.kind== .function&&env.kindOf n==some .cell)=true
  ·have ek:k= .free:=by
    simp only[EF]at hc
    simpa using hc.1.1
   rw[if_pos hc]at h
   rw[Ex]
   simp only[Ex]at h
   cases hx:x==n with
   | true=>rw[ek];exact .inr rfl
   | false=>rw[hx]at h;exact ih h
  ·rw [if_neg hc]at h
   rw[Ex]
   simp only[Ex]at h
   cases hx:x==n with
   | true=>rw[hx]at h;exact h
   | false=>rw[hx]at h;exact ih h
theorem jW {M:Model} {A:Around} {E:Value->Shared->Prop} {s:Shared} {scope:Scope} {globals:Addr} {cl:List (Str×Addr)} {qual:Str} {env:Env} {Q:Env->Shared->Prop}
  (h:Q {scope:=scope,locals:=s.heap.objs.size,globals:=globals,cells:=cellsFrom (s.heap.objs.size+1) scope.names cl,qual:=qual,func:=none,code:=env.code,frame:=env.frame,builtins:=env.builtins} {s with heap:=pushCells (s.heap.push {cls:= .type "dict",data:= .dict #[]}) scope.names}):
  wpAny M A (newFunctionEnv scope globals cl [] qual none .none (some env)) Q E s:=by
 simp only[newFunctionEnv,Option.isSome_some,if_true]
 refine wpAny_bind (wpAny_alloc ?_)
 refine wpAny_bind (wpAny_layCells _ (fun name kind cells=>by cases hkc:kind==NameKind.cell<;>simp[hkc]) _ _ _ _ ?_)
 rw[show({s with heap:=s.heap.push {cls:= .type "dict",data:= .dict #[]}}:Shared).heap.objs.size=s.heap.objs.size+1 from Heap.size_push ..]
 exact wpAny_bind (wpAny_pure (wpAny_pure h))
theorem cY {X:Cx} {pins:List (Addr×Obj)} {σ:St} {H:Hp} {s:Shared} {sc:Scope} (I:Inv X pins σ H s) (hone:∀y∈sc.names,y.2= .cell->sc.names.lookup y.1=some .cell) {x:Str} {c:Addr}
  (e:(cellsFrom (s.heap.objs.size+1) sc.names (aU X.env [] sc.names)).lookup x=some c):
  (sc.names.lookup x=some .cell/\(x,c)∈cellsFrom (s.heap.objs.size+1) sc.names []/\s.heap.objs.size<c)\/(X.env.cells.lookup x=some c/\c<s.heap.objs.size):=by
 rcases fq _ _ _ e with⟨z1,z2⟩ | z
 ·exact .inl ⟨hone _ z1 rfl,z2,gL _ _ _ z1 e⟩
 ·have k:=cB _ [] (fun _ _ z=>by simp at z) x c z
  obtain⟨v,o,h1,_⟩:=I.cell x c k
  exact .inr ⟨k,Heap.lt_size h1⟩
theorem jF {h:Heap} (sc:Scope):CellsOk (pushCells (h.push {cls:= .type "dict",data:= .dict #[]}) sc.names) (h.objs.size+1) (cellsFrom (h.objs.size+1) sc.names []):=by
 have ok:=cellsFrom_ok sc.names (h.push {cls:= .type "dict",data:= .dict #[]}) (h.objs.size+1) [] ⟨fun _ _ hm=>(nomatch hm),List.Pairwise.nil⟩ (by rw[Heap.size_push];exact DS _)
 rw[Heap.size_push]at ok
 exact ok
theorem yZ {X:Cx} {pins:List (Addr×Obj)} {σ:St} {H:Hp} {s:Shared} {sc:Scope} {N:List Str} {fp:List Addr} (I:Inv X pins σ H s) (hk:sc.kind= .function)
  (hone:∀y∈sc.names,y.2= .cell->sc.names.lookup y.1=some .cell) (hcl:∀y∈sc.names,y.2= .free->∃c,X.env.cells.lookup y.1=some c) (f:∀b∈fp,jR X pins H b) (fl:∀b∈fp,b<s.heap.objs.size):
  (hZ X sc N ⟨cellsFrom (s.heap.objs.size+1) sc.names (aU X.env [] sc.names),s.heap.objs.size,s,H,fp⟩).Ok where
 mod:=I.ok.mod
 kind:=hk
 glob:=I.ok.glob
 blt:=I.ok.blt
 above:=DS _
 inj:=fun x y c e1 e2=>by
  rcases cY I hone e1 with⟨_,a1,a2⟩ | ⟨a1,a2⟩<;>rcases cY I hone e2 with⟨_,b1,b2⟩ | ⟨b1,b2⟩
  ·exact name_of_addr (jF (h:=s.heap) sc).apart a1 b1
  ·exact absurd (Nat.lt_trans a2 b2) (ER _)
  ·exact absurd (Nat.lt_trans a2 b2) (ER _)
  ·exact I.ok.inj x y c a1 b1
 has:=fun x hx=>by
  have m:=lL (env:=X.env) sc.names x hx
  refine ES.mp (PySem.W.cellsFrom_some _ _ _ ?_)
  rcases m with z | z
  ·exact .inl z
  ·exact .inr (gw sc.names [] x (df z) (hcl _ (df z) rfl))
 cab:=fun x c hf e=>by
  have q:sc.names.lookup x=some .cell:=by simpa using hf
  exact ET (gL _ _ _ (df q) e)
 hd:=I.ok.hd
 frames:=I.ok.frames
 stk:= .inl rfl
 exf:=fun b hb=>⟨Eb (fl b hb),fun x c e=>by
  rcases cY I hone e with⟨_,_,a2⟩ | ⟨a1,_⟩
  ·exact FV (Nat.lt_trans (fl b hb) a2)
  ·exact(f b hb).2.2.2.2.1 x c a1⟩
 bs:=I.bs
 bsz:=Ek I.ok.bsz I.sz
 noex:=fun b o e hb=>by
  rcases(f b hb).2.2.2.1 with z | z
  ·exact I.ok.noex b o e z
  ·exact absurd (Em (Heap.lt_size (I.ok.bs b o e).1) z) (ER _)
 exfs:=fun b hb hs=>by
  rcases Ed.mp (I.stkSub b hs)with z | z
  ·exact(f b hb).2.1 z
  ·exact(f b hb).2.2.1 z
 funs:=I.stack
 frf:=I.stkFree
theorem xr {X:Cx} {pins:List (Addr×Obj)} {σ:St} {H:Hp} {s s4:Shared} {sc:Scope} {N:List Str} {js:List (Option Nat)} {fp:List Addr} (I:Inv X pins σ H s)
  (ok:(hZ X sc N ⟨cellsFrom (s.heap.objs.size+1) sc.names (aU X.env [] sc.names),s.heap.objs.size,s,H,fp⟩).Ok) (hone:∀y∈sc.names,y.2= .cell->sc.names.lookup y.1=some .cell)
  (hfree:∀y∈sc.names,y.2= .free->X.env.kindOf y.1=some .cell\/X.env.kindOf y.1=some .free)
  (hN:Paired (fun(j:Option Nat) n=>∀i,j=some i->X.N[i]?=some n/\sc.names.lookup n=some .free) js N)
  (ho:s4.os=s.os) (hg:s4.gens=s.gens) (hp:s4.heap=pushCells (s.heap.push {cls:= .type "dict",data:= .dict #[]}) sc.names) (kp:∀b u,s.heap.get? b=some u->s4.heap.get? b=some u):
  Inv (hZ X sc N ⟨cellsFrom (s.heap.objs.size+1) sc.names (aU X.env [] sc.names),s.heap.objs.size,s,H,fp⟩) [] (bN σ js) H s4 where
 ok:=ok
 os:=ho
 bare:=by rw[hg];exact I.bare
 base:=Un.kept kp
 loc:=by
  refine⟨fun _=>none,by rw[hp];exact(Heap.Ns.new s.heap (.type "dict")).keeps (pushCells_keeps _ _),fun i x v e1 e2 e3=>?_⟩
  have e1':N[i]?=some x:=e1
  obtain⟨j,ej,fj⟩:=bJ hN e1'
  unfold bN at e2
  rw[DM,ej]at e2
  cases j with
  | none=>cases e2
  | some k=>
   obtain⟨a1,a2⟩:=fj k rfl
   have e2':(σ[k]?).join=some v:=Option.some.inj e2
   have e4:σ[k]?=some (some v):=by
    cases z:σ[k]? with
    | none=>rw[z]at e2';cases e2'
    | some y=>rw[z]at e2';exact congrArg some e2'
   have mem:=df a2
   have kn:=hfree _ mem rfl
   have vis:A1 X.env.scope x:= .inr kn
   obtain⟨m',hn',hl'⟩:=I.loc
   obtain⟨u,ru,lk⟩:=hl' k x v a1 e4 vis
   refine⟨u,ru,.inr ⟨?_,?_⟩⟩
   ·obtain⟨k',hk',e⟩:=gN (env:=X.env) sc.names x a2
    rcases hk' with z | z
    ·subst z;exact .inl e
    ·subst z;exact .inr e
   ·rcases lk with⟨z,_⟩ | ⟨_,c,hc,hcl⟩
    ·rcases kn with q | q
     ·have q':X.env.kindOf x=some .cell:=q
      rw[z]at q';cases q'
     ·have q':X.env.kindOf x=some .free:=q
      rw[z]at q';cases q'
    ·obtain⟨c',e'⟩:=ES.mp (PySem.W.cellsFrom_some sc.names (s.heap.objs.size+1) (aU X.env [] sc.names) (.inr (gw (env:=X.env) sc.names [] x mem ⟨c,hc⟩)))
     rcases cY I hone e' with⟨q,_,_⟩ | ⟨q,_⟩
     ·rw [a2]at q;cases q
     ·rw [hc]at q
      cases q
      obtain⟨o,h1,h2⟩:=hcl
      exact⟨c,e',o,kp c o h1,h2⟩
 cell:=fun x c e=>by
  rcases cY I hone e with⟨_,q,_⟩ | ⟨q,_⟩
  ·refine⟨none,?_⟩
   rw[hp]
   exact((jF (h:=s.heap) sc).empty x c q).1
  ·obtain⟨v,o,h1,h2⟩:=I.cell x c q
   exact⟨v,o,kp c o h1,h2⟩
 free:=I.hok.fresh (DS _)
 freeC:=fun x c e=>by
  rcases cY I hone e with⟨_,_,q⟩ | ⟨q,_⟩
  ·exact I.hok.fresh (ET q)
  ·exact I.freeC x c q
 pin:=fun p hp=>by cases hp
 hok:=I.hok.kept kp
 len:=by
  unfold bN
  rw[DI]
  exact Paired.length hN
set_option maxHeartbeats 4000000 in
theorem uV {X:Cx} {elt iter tg:Expr} {ifs:List Expr} {sc:Scope} {pos:Pos} {wi:TI} {g:TG} {tc:TT} {te:TE} (N:List Str) (js:List (Option Nat))
  (hcalm:X.calm=true) (hi:PI X tg iter wi) (hg:∀b,PG (hZ X sc N b) tg g) (hc:∀b,Ab (hZ X sc N b) ifs tc) (he:∀b,PE (hZ X sc N b) elt te)
  (hN:Paired (fun(j:Option Nat) n=>∀i,j=some i->X.N[i]?=some n/\sc.names.lookup n=some .free) js N)
  (hk:sc.kind= .function:=by rfl)
  (hone:(sc.names.all fun y=>y.2 != .cell||sc.names.lookup y.1==some .cell)=true:=by rfl)
  (hfree:(sc.names.all fun y=>y.2 != .free||(X.env.scope.names.lookup y.1==some .cell||X.env.scope.names.lookup y.1==some .free))=true:=by rfl)
  (hnames:(sc.names.all fun y=>y.2 != .local||sc.names.lookup y.1==some .local)=true:=by rfl)
  (hs:∀x,foldedSetIterable iter X.env x=pure x:=by intro _;rfl):PE X (.ListComp elt [⟨tg,iter,ifs,0⟩] sc pos) (r8 wi js g tc te):=by
 intro pins s σ H Q I h
 have hone':∀y∈sc.names,y.2= .cell->sc.names.lookup y.1=some .cell:=fun y hy e=>by
  have q:=ED.mp hone y hy
  rw[e]at q
  simpa using q
 have hfree':∀y∈sc.names,y.2= .free->X.env.kindOf y.1=some .cell\/X.env.kindOf y.1=some .free:=fun y hy e=>by
  have q:=ED.mp hfree y hy
  rw[e]at q
  have q':X.env.scope.names.lookup y.1=some .cell\/X.env.scope.names.lookup y.1=some .free:=by simpa using q
  exact q'
 have hnames':∀y∈sc.names,y.2= .local->sc.names.lookup y.1=some .local:=fun y hy e=>by
  have q:=ED.mp hnames y hy
  rw[e]at q
  simpa using q
 have hcl:∀y∈sc.names,y.2= .free->∃c,X.env.cells.lookup y.1=some c:=fun y hy e=>I.ok.has y.1 (hfree' y hy e)
 rw[eval_ListComp]
 refine wpAny_comprehension_free (use:=none) (g:=⟨tg,iter,ifs,0⟩) (gs:=[]) rfl hs (rZ hcl) hk hnames' ?_
 refine bF (hi pins s σ H _ I h) fun v s1 h1=>bF h1 fun itv s2 h2=>?_
 obtain⟨it,fp,tn,J,H2,e,I2,T,st2,f2,q⟩:=h2
 subst e
 obtain⟨W,⟨m0,w0⟩,step⟩:=q _ I2.fresh
 refine wpAny_newObj_type (jW ?_)
 dsimp only
 have I3:Inv X pins σ (aE H2 s2.heap.objs.size (.lst [])) {s2 with heap:=s2.heap.push {cls:= .type "list",data:= .seq ([]:List Value).toArray},toks:=s2.toks}:=I2.lnew .nil (Eo _)
 generalize hs3:({s2 with heap:=s2.heap.push {cls:= .type "list",data:= .seq ([]:List Value).toArray},toks:=s2.toks}:Shared)=s3 at I3
 generalize hH3:aE H2 s2.heap.objs.size (.lst [])=H3 at I3 w0
 have es3:s3.heap=s2.heap.push {cls:= .type "list",data:= .seq ([]:List Value).toArray}:=by rw[<- hs3]
 have hC:(s2.heap.push {cls:= .type "list",data:= .seq ([]:List Value).toArray}).objs.size=s3.heap.objs.size:=by rw[es3]
 have f3:∀b∈fp,jR X pins H3 b:=fun b hb=>⟨by rw[<- hH3,aq (Eb (by obtain⟨o,e,_⟩:=T.obj _ _ st2 b hb;exact Heap.lt_size e))];exact(f2 b hb).1,(f2 b hb).2⟩
 have fl3:∀b∈fp,b<s3.heap.objs.size:=fun b hb=>by
  obtain⟨o,e,_⟩:=T.obj _ _ st2 b hb
  rw[es3,Heap.size_push]
  exact EC (Heap.lt_size e)
 have ok:=yZ (N:=N) (sc:=sc) (fp:=fp) I3 hk hone' hcl f3 fl3
 have k23:∀b u,s2.heap.get? b=some u->s3.heap.get? b=some u:=fun b u e=>by rw[es3];exact Heap.get?_push_of_some _ e
 generalize hh₁:pushCells ((s2.heap.push {cls:= .type "list",data:= .seq ([]:List Value).toArray}).push {cls:= .type "dict",data:= .dict #[]}) sc.names=h₁
 have hh₁':pushCells (s3.heap.push {cls:= .type "dict",data:= .dict #[]}) sc.names=h₁:=by rw[es3];exact hh₁
 have k34:∀b u,s3.heap.get? b=some u->h₁.get? b=some u:=fun b u e=>by
  rw[<- hh₁']
  exact pushCells_keeps _ _ b u (Heap.get?_push_of_some _ e)
 have I4:=xr (s4:={s2 with heap:=h₁,toks:=s2.toks}) (js:=js) I3 ok hone' hfree' hN (by rw[<- hs3]) (by rw[<- hs3]) hh₁'.symm k34
 have st4:tn 0 h₁:=T.keep _ _ _ st2 fun b _ o e=>k34 b o (k23 b o e)
 generalize hs4:({s2 with heap:=h₁,toks:=s2.toks}:Shared)=s4 at I4
 have eh4:s4.heap=h₁:=by rw[<- hs4]
 rw[hC]
 generalize hB:(⟨cellsFrom (s3.heap.objs.size+1) sc.names (aU X.env [] sc.names),s3.heap.objs.size,s3,H3,fp⟩:BA)=B at ok I4
 have eC:B.C=s3.heap.objs.size:=by rw[<- hB]
 have stat:∀{H':Hp},(∀b∈fp,H' b=none)->∀b∈fp,jR (hZ X sc N B) [] H' b:=fun hn b hb=>by
  refine⟨hn b hb,?_,fun z=>?_,.inl (by rw[<- hB];exact hb),fun x c e=>(ok.exf b (by rw[<- hB];exact hb)).2 x c e,fun p hp=>by cases hp⟩
  ·exact(ok.exf b (by rw[<- hB];exact hb)).1
  ·exact ok.exfs b (by rw[<- hB];exact hb) z
 have fin:∀{s':Shared} {H':Hp} {σ':St},Inv (hZ X sc N B) [] σ' H' s'->Q (.ref s2.heap.objs.size) H'->
   compPost (model X.prog X.w) X.A X.xe none (EP X pins σ Q) (.ref s2.heap.objs.size) s3.heap.objs.size (.ok .next) s':=fun {s' H' σ'} I' q'=>by
  obtain⟨m,hm,_⟩:=id I'.loc
  have hm':s'.heap.Ns s3.heap.objs.size m:=by rw[<- eC];exact hm
  refine⟨m,hm',fun h' hsb'=>⟨.ref s2.heap.objs.size,H',?_,rfl,q'⟩⟩
  have u1:Un (gp X.stack) fp H2 H3 s2.heap s3.heap:=by rw[<- hH3];exact Un.laid k23 (DS _) I2.fresh
  have u2:Un (gp X.stack) fp H3 H' s3.heap s'.heap:=by
   have z:=I'.base
   rw[<- hB]at z
   exact z
  have u3:Un (gp X.stack) fp H2 H' s2.heap h':=(u1.trans u2).but fun b o e o' e'=>(hsb'.2 b (by
   have z:=Heap.lt_size e
   intro w
   rw[w,es3,Heap.size_push]at z
   exact ER _ (Nat.lt_of_succ_lt z))).trans e'
  have fr':H' s3.heap.objs.size=none:=by rw[<- eC];exact I'.free
  have hok':HOk X.prog X.w H' h':=ub I'.hok fr' fun b o hb e=>(hsb'.2 b hb).trans e
  have os':s'.os=s2.os:=by
   have z:=I'.os
   rw[<- hB]at z
   rw[z,<- hs3]
  exact I2.call' (s':={s' with heap:=h'}) (ch:=fp) os' u3 hok' I'.bare fun b hb=>⟨(f2 b hb).2.2.2.1,(f2 b hb).2.1,(f2 b hb).2.2.2.2.1,(f2 b hb).2.2.2.2.2⟩
 have loop:codeAny (model X.prog X.w) X.A (.compLoop (.ListComp elt [⟨tg,iter,ifs,0⟩] sc pos) 0 (.ref it) (.ref s2.heap.objs.size) (hZ X sc N B).env)
   (compPost (model X.prog X.w) X.A X.xe none (EP X pins σ Q) (.ref s2.heap.objs.size) s3.heap.objs.size) s4:=by
  refine kI (fun n s'=>∃i ys σ' H',Inv (hZ X sc N B) [] σ' H' s'/\vL (bN σ js) σ'/\tn i s'.heap/\(∀b∈fp,H' b=none)/\W i n ys H') ?_ m0
   ⟨0,[],bN σ js,H3,I4,⟨rfl,fun _ _ z=>z⟩,by rw[eh4];exact st4,fun b hb=>(f3 b hb).1,w0⟩
  rintro n s5 ⟨i,ys,σ5,H5,I5',kp5,st5,fr5,w5⟩
  have I5:Inv (hZ X sc N B) [] (bN σ js) H5 s5:=I5'.weak kp5.1.symm kp5.2
  rcases step i n ys H5 w5 with⟨stop,qn⟩ | ⟨go,N',hN',turn⟩
  ·refine bF (T.done (hZ X sc N B) rfl rfl rfl hcalm i [] s5 _ H5 xI I5 (stat fr5) st5 stop) fun r s6 ⟨hr,I6⟩=> .inl ⟨hr,fin I6 qn⟩
  ·refine bF (T.item (hZ X sc N B) rfl rfl rfl hcalm i [] s5 _ H5 xI I5 (stat fr5) st5 go) fun r s6 ⟨u,hr,h6⟩=> .inr ⟨u,hr,?_⟩
   refine bF h6 fun _ s7 hq__=>?_
   obtain⟨x,H7,I7,r7,y7,st7,fr7⟩:=hq__
   have I7':=I7.pinned (stat fr7) (T.obj _ _ st7)
   have back:∀{σ8:St} {H8:Hp} {s8:Shared},Inv (hZ X sc N B) ([]++i7 fp s7.heap) σ8 H8 s8->tn (i+1) s8.heap/\∀b∈fp,H8 b=none:=fun {σ8 H8 s8} I8=>by
    refine⟨T.keep _ _ _ st7 fun b hb o e=>(I8.pin (b,o) (Eh _ (Eh _ (cS hb e)))).1,fun b hb=>?_⟩
    obtain⟨o,e,d⟩:=T.obj _ _ st7 b hb
    exact(I8.pin (b,o) (Eh _ (Eh _ (cS hb e)))).2.1
   refine bF (hg B _ s7 _ H7 x u _ I7' r7 (turn x H7 y7)) fun _ s8 hq__=>?_
   obtain⟨σ8,H8,I8,kp8,q8⟩:=hq__
   refine bF (hc B _ s8 σ8 H8 _ I8 q8) fun ok s9 ⟨H9,I9,q9⟩=>⟨fun e=>?_,fun e=>?_⟩
   ·refine bF (he B _ s9 σ8 H9 _ I9 (q9.1 e)) fun yv s10 hq__=>?_
    obtain⟨y,H10,I10,r10,q10⟩:=hq__
    obtain⟨e10,l10,n10⟩:=q10
    refine bF (a8 _ s10 σ8 H10 (.ref s2.heap.objs.size) [y] _ _ (fun _ H'=>N' (ys++[y]) H') I10 rfl (.cons r10 .nil) ⟨_,ys,y,rfl,rfl,e10,l10,n10⟩) fun _ s11 hq__=>?_
    obtain⟨_,H11,I11,_,q11⟩:=hq__
    obtain⟨m',hm,w11⟩:=hN' _ _ q11
    obtain⟨st11,fr11⟩:=back I11
    exact⟨m',hm,i+1,ys++[y],σ8,H11,I11.unpinned,kp8,st11,fr11,w11⟩
   ·obtain⟨m',hm,w11⟩:=hN' _ _ (q9.2 e)
    obtain⟨st11,fr11⟩:=back I9
    exact⟨m',hm,i+1,ys,σ8,H9,I9.unpinned,kp8,st11,fr11,w11⟩
 have env_eq:(hZ X sc N B).env=compEnvC sc (cellsFrom (s3.heap.objs.size+1) sc.names (aU X.env [] sc.names)) s3.heap.objs.size X.env:=by rw[<- hB]
 rw[env_eq]at loop
 have st4':tn 0 s4.heap:=by rw[eh4];exact st4
 exact codeAny_compStart_list loop (T.self X.A 0 _ _ _ st4' loop)
end L2
namespace L2
open PySem PySem.Spec PyProof.Rows PySem.W
def y4 (H:Hp) (s:List Int) (a:Addr):Bool:=match H a with
 | some (.lst l)=>decide (l=s.map V.int)
 | _=>false
theorem oj {K:PySem.W.Frag} {H:Hp} {a b:Addr} {p s:List Int} (h1:H a=some (.lst (p.map V.int))) (h2:SqL K H b (s.map V.int)):DEq K H 1 (.ref a) (.ref b) (y4 H s a):=by
 have e:y4 H s a=decide (p=s):=by
  unfold y4
  rw[h1]
  exact decide_eq_decide.mpr ⟨fun z=>(List.map_inj_right fun x y w=>by injection w).mp z,fun z=>by rw[z]⟩
 rw[e]
 exact ux (SqL.of h1) h2
theorem ki {H:Hp} {s:List Int}:∀{as:List Addr} {ls:List (List Int)},IntsL H as ls->as.any (y4 H s)=decide (s∈ls)
 | _,_,.nil=>rfl
 | a :: as,l :: ls,.cons h t=>by
  have e:y4 H s a=decide (s=l):=by
   unfold y4
   rw[show H a=some (.lst (l.map V.int))from h]
   exact decide_eq_decide.mpr ⟨fun z=>((List.map_inj_right fun x y w=>by injection w).mp z).symm,fun z=>by rw[z]⟩
  rw[FI,ki t,e,<- Bool.decide_or]
  exact decide_eq_decide.mpr Ed.symm
theorem pM {p:List Int} (c:cA p) {b:Nat} (hb:b<(dd p).length):(b:Int)∈p:=by
 obtain⟨i,r,e⟩:=List.exists_cons_of_ne_nil (ke c hb)
 have hi:i∈fg p b:=by rw[e];exact Ei
 obtain⟨h1,h2⟩:=dC.mp hi
 rw[<- h2]
 rw[DK,DJ h1]
 exact El h1
theorem uW {p:List Int} (c:cA p) {m:Int} (hm:m∈p++[-1]) (al:∀x∈p++[-1],x<=m):m+2=(((dd p).length+1:Nat):Int):=by
 have lo:m<((dd p).length:Int):=by
  rcases Eg.mp hm with z | z
  ·obtain⟨b,e,hb⟩:=gE c z
   omega
  ·rw [DV.mp z];omega
 by_cases z:(dd p).length=0
 ·have:=al (-1) (Eh _ (DV.mpr rfl))
  omega
 ·have:=al _ (Es _ (pM c (b:=(dd p).length-1) (by omega)))
  omega
theorem lM {es:jA} {dn:List (Option Int)} (h:dn.length<=6):(qh es dn).Perm ((eX (dg dn)).filter (jB es dn)):=
 (lH (Ek (fh dn) h)).filter _
theorem xt {es:jA} {dn:List (Option Int)} (h:dn.length<=6):(qh es dn).Nodup:=
 (xp h).imp fun {a b} z e=>by
  subst e
  have:=xh z
  rw[z]at this
  cases this
theorem MTold.same {H H':Hp} {t:Addr} {may:List (List Int)} {ts:List qf} {es:jA} {dn:List (Option Int)} (h:MTold H t may ts es dn) (s:Same H H'):MTold H' t may ts es dn:=by
 rcases h with⟨sa,lp,pl,g,hs,qs,h1,h2,h3,h4,h5,h6,h7⟩ | ⟨pl,qs,h1,h2,h3⟩
 ·exact .inl ⟨sa,lp,pl,g,hs,qs,s _ _ h1,s _ _ h2,h3,s _ _ h4,h5,s _ _ h6,Paired.mapP h7 fun a x h=>h.same s⟩
 ·exact .inr ⟨pl,qs,s _ _ h1,s _ _ h2,Paired.mapP h3 fun a x h=>h.same s⟩
theorem qZ {α:Type} {l:List α} (nd:l.Nodup) {i:Nat} {a:α} (h:l[i]?=some a):a∉l.take i:=fun z=>by
 obtain⟨j,hj⟩:=EB.mp z
 have hjl:=(DN.mp hj).1
 rw[EA]at hjl
 rw[List.getElem?_take_of_lt (by omega)]at hj
 obtain⟨h1,e1⟩:=DN.mp h
 obtain⟨h2,e2⟩:=DN.mp hj
 have:=(Fi nd).mp (e1.trans e2.symm)
 omega
section
open PySem.AutoSeq1 (wpAny_loadPart')
open PySem.MeetsSeq PySem.MeetsSeq2 PySem.MeetsSeq3
def xu (p r a1 a2:Addr) (us vs xs ys:Array Value) (n1 n2 m1 m2:Nat) (A:Around) (s:Shared):Prop:=
 s.heap.get? p=some {cls:= .type "list",data:= .seq us n1}/\s.heap.get? r=some {cls:= .type "list",data:= .seq vs n2}/\s.heap.get? a1=some {cls:= .type "list",data:= .seq xs m1}/\s.heap.get? a2=some {cls:= .type "list",data:= .seq ys m2}/\A.in1.units<cLine
theorem BS (p r a1 a2:Addr) (us vs xs ys:Array Value) (n1 n2 m1 m2:Nat) (l1 l2:List Int) (i1:IntsAre xs.toList l1) (i2:IntsAre ys.toList l2) (e1:us[1]?=some (.ref a1)) (e2:vs[1]?=some (.ref a2)):
  Meets (Builtin.«list.__eq__.loop» ⟨[.ref p,.ref r,rawInt (1:Nat),rawInt 0],[]⟩)
   (fun A R s=>xu p r a1 a2 us vs xs ys n1 n2 m1 m2 A s/\SeqAt.EqAt A.in1 s (.ref a1) (.ref a2) false/\R (.ok (.ret (.bool (HT.bh l1 l2)))) s):=by
 intro P w A R s hh
 obtain⟨hp,g,d,tk,os⟩:=s
 obtain⟨⟨h1,h2,g1,g2,hu⟩,eq,h3⟩:=hh
 have e1:us[((1:Nat):Int).toNat]?=some (.ref a1):=e1
 have e2:vs[((1:Nat):Int).toNat]?=some (.ref a2):=e2
 have hr:∀(E:Value->Shared->Prop) (Q:Value->Shared->Prop),Q (.bool (HT.bh l1 l2)) ⟨hp,g,d,tk,os⟩->wpAny (model P w) A.in1 (richCompare .Lt (.ref a1) (.ref a2)) Q E ⟨hp,g,d,tk,os⟩:=fun E Q q=>
  richCompare_meets_room (op:= .Lt) ⟨_,g1,rfl⟩ ⟨_,g2,rfl⟩ PySem.F.slot_list_lt PySem.F.entry_list_lt (PySem.F.args_list_lt_2 _ _) (C2 a1 a2 xs ys m1 m2 l1 l2 i1 i2)
   ⟨g1,g2,show Value.bool (HT.bh l1 l2)≠Value.notImplemented/\_ from⟨(fun x=>nomatch x),q⟩⟩ hu
 wp_walk using wpAny_loadPart' h1,wpAny_loadPart' h2
 rw[e1,e2]
 refine wpAny_bind (eq P w _ _ ?_)
 rw[if_neg DU]
 wp_walk using wpAny_loadPart' h1,wpAny_loadPart' h2
 rw[e1,e2]
 wp_walk using hr
 exact h3
theorem BU (p r a1 a2:Addr) (us vs xs ys:Array Value) (n1 n2 m1 m2:Nat) (k1 k2:Int) (t1 t2:Tok) (l1 l2:List Int) (i1:IntsAre xs.toList l1) (i2:IntsAre ys.toList l2) (f1:us[0]?=some (.int k1 t1)) (f2:vs[0]?=some (.int k2 t2)) (e1:us[1]?=some (.ref a1)) (e2:vs[1]?=some (.ref a2)):
  Meets (Builtin.«list.__eq__.loop» ⟨[.ref p,.ref r,rawInt (0:Nat),rawInt 0],[]⟩)
   (fun A R s=>xu p r a1 a2 us vs xs ys n1 n2 m1 m2 A s/\(k1=k2->SeqAt.EqAt A.in1 s (.ref a1) (.ref a2) false)/\R (.ok (.ret (.bool (if k1=k2 then HT.bh l1 l2 else decide (k1<k2))))) s):=by
 intro P w A R s hh
 obtain⟨hp,g,d,tk,os⟩:=s
 obtain⟨pre,eq,h3⟩:=hh
 obtain⟨h1,h2,g1,g2,hu⟩:=id pre
 have f1:us[((0:Nat):Int).toNat]?=some (.int k1 t1):=f1
 have f2:vs[((0:Nat):Int).toNat]?=some (.int k2 t2):=f2
 wp_walk using wpAny_loadPart' h1,wpAny_loadPart' h2
 rw[f1,f2]
 have hc:(((0:Nat):Int)+1)=((1:Nat):Int):=rfl
 refine wpAny_bind (wpAny_eqBool_int ?_)
 by_cases q:k1=k2
 ·rw [if_pos q]at h3
  rw[if_pos (by simpa using q)]
  wp_walk
  rw[hc]
  exact⟨plainId_quiet plain_eq_loop _,codeAny_builtin entry_eq_loop (by
   rw[Around.under_plainId plain_eq_loop _]
   exact BS p r a1 a2 us vs xs ys n1 n2 m1 m2 l1 l2 i1 i2 e1 e2 P w A R _ ⟨pre,eq q,h3⟩)⟩
 ·rw [if_neg q]at h3
  rw[if_neg (by simpa using q)]
  wp_walk using wpAny_loadPart' h1,wpAny_loadPart' h2
  rw[f1,f2]
  have hr:=HT.oM A.in1 ⟨hp,g,d,tk,os⟩ k1 t1 k2 t2 P w
  wp_walk using hr
  exact h3
theorem CU (p r a1 a2:Addr) (us vs xs ys:Array Value) (n1 n2 m1 m2:Nat) (k1 k2:Int) (t1 t2:Tok) (l1 l2:List Int) (i1:IntsAre xs.toList l1) (i2:IntsAre ys.toList l2) (f1:us[0]?=some (.int k1 t1)) (f2:vs[0]?=some (.int k2 t2)) (e1:us[1]?=some (.ref a1)) (e2:vs[1]?=some (.ref a2)):
  Meets (Builtin.«list.__lt__» ⟨[.ref p,.ref r],[]⟩)
   (fun A R s=>xu p r a1 a2 us vs xs ys n1 n2 m1 m2 A s/\(k1=k2->SeqAt.EqAt A.in1 s (.ref a1) (.ref a2) false)/\R (.ok (.ret (.bool (if k1=k2 then HT.bh l1 l2 else decide (k1<k2))))) s):=by
 intro P w A R s hh
 obtain⟨hp,g,d,tk,os⟩:=s
 obtain⟨pre,eq,h3⟩:=hh
 obtain⟨h1,h2,g1,g2,hu⟩:=id pre
 have sub:=AutoSeq1.sub_list_list
 wp_walk using wpAny_loadPart' h1,wpAny_loadPart' h2
 exact⟨plainId_quiet plain_eq_loop _,codeAny_builtin entry_eq_loop (by
  rw[Around.under_plainId plain_eq_loop _]
  exact BU p r a1 a2 us vs xs ys n1 n2 m1 m2 k1 k2 t1 t2 l1 l2 i1 i2 f1 f2 e1 e2 P w A R _ ⟨pre,eq,h3⟩)⟩
end
theorem rb {A:Around} {s:Shared} {a b:Addr} {xs ys:Array Value} {m1 m2:Nat} {l1 l2:List Int} (g1:s.heap.get? a=some {cls:= .type "list",data:= .seq xs m1}) (g2:s.heap.get? b=some {cls:= .type "list",data:= .seq ys m2}) (i1:IntsAre xs.toList l1) (i2:IntsAre ys.toList l2) (e:l1.length=l2.length) (ne:l1≠l2) (hu:A.units+1<cLine):
  SeqAt.EqAt A s (.ref a) (.ref b) false:=by
 have z1:xs.size=l1.length:=by rw[<- Ep];exact i1.length
 have z2:ys.size=l2.length:=by rw[<- Ep];exact i2.length
 have hab:a≠b:=by
  rintro rfl
  rw[g1]at g2
  cases g2
  refine ne (EN e fun j h1 h2=>?_)
  obtain⟨t,u1⟩:=eN j i1 h1
  obtain⟨t',u2⟩:=eN j i2 h2
  rw[u1]at u2
  have w:=Option.some.inj u2
  injection w with w
  simpa [h1,h2]using w
 have q:=SeqAt.RcAt.lists (A:=A) (e:=fun j=>decide (l1.getD j 0=l2.getD j 0)) (show s.heap.IsList a xs from⟨_,g1,rfl,_,rfl⟩) (show s.heap.IsList b ys from⟨_,g2,rfl,_,rfl⟩) (by omega) (by omega) fun j j1 j2=>by
  obtain⟨t,u1⟩:=eN j i1 (by omega)
  obtain⟨t',u2⟩:=eN j i2 (by omega)
  have w1:xs[j]= .int (l1.getD j 0) t:=by
   rw[EZ,Ez j1]at u1
   exact Option.some.inj u1
  have w2:ys[j]= .int (l2.getD j 0) t':=by
   rw[EZ,Ez j2]at u2
   exact Option.some.inj u2
  rw[w1,w2]
  obtain⟨e',he,hiff⟩:=HT.vA A.in1 s (l1.getD j 0) t (l2.getD j 0) t'
  rw[show decide (l1.getD j 0=l2.getD j 0)=e' from Fv.mpr (by rw[decide_eq_true_iff];exact hiff.symm)]
  exact he
 have no:((DR xs.size).all fun j=>decide (l1.getD j 0=l2.getD j 0))=false:=by
  rw[Bool.eq_false_iff]
  intro z
  refine ne (EN e fun j h1 h2=>?_)
  have:=of_decide_eq_true (ED.mp z j (Ee.mpr (by omega)))
  simpa [h1,h2]using this
 rw[<- no]
 exact SeqAt.EqAt.of_refs hab q
def tD (h:Heap) (z:Addr) (as:List Addr) (ls:List (List Int)):Prop:=as.length=ls.length/\∀(i:Nat) a l,as[i]?=some a->ls[i]?=some l->∃us n t b xs m,h.get? a=some {cls:= .type "list",data:= .seq us n}/\us[0]?=some (.int (l.length:Int) t)/\us[1]?=some (.ref b)/\h.get? b=some {cls:= .type "list",data:= .seq xs m}/\IntsAre xs.toList l/\a≠z/\b≠z
section
variable {s:Shared} {A:Around} {w:World} {prog:Program} {E:Value->Shared->Prop}
theorem y6 {as:List Addr} {ls:List (List Int)} {z:Addr} (hu:A.units+8<cLine) (hp:tD s.heap z as ls) (nd:ls.Nodup) {i j:Nat} {C:Bool->Shared->Prop} (hi:i<ls.length) (hj:j<ls.length) (hij:i≠j) (h:C (i5 (ls.getD i []) (ls.getD j [])) s):
  kas_ask prog w A oneType' (as.map Value.ref) i j C s:=by
 have la:=hp.1
 obtain⟨a,ha⟩:∃a,as[i]?=some a:=⟨_,DJ (by omega)⟩
 obtain⟨b,hb⟩:∃b,as[j]?=some b:=⟨_,DJ (by omega)⟩
 obtain⟨x,hx⟩:∃x,ls[i]?=some x:=⟨_,DJ hi⟩
 obtain⟨y,hy⟩:∃y,ls[j]?=some y:=⟨_,DJ hj⟩
 obtain⟨us,n1,t1,a1,xs,m1,e1,f1,k1,g1,i1,_,_⟩:=hp.2 i a x ha hx
 obtain⟨vs,n2,t2,a2,ys,m2,e2,f2,k2,g2,i2,_,_⟩:=hp.2 j b y hb hy
 have ne:x≠y:=fun q=>hij ((Fi (h₀:=hi) (h₁:=hj) nd).mp (Option.some.inj (by rw[<- DJ,<- DJ,hx,hy,q])))
 rw[fU hx,fU hy]at h
 unfold kas_ask
 rw[fU (show(as.map Value.ref)[i]?=some (.ref a) by rw[DM,ha];rfl),fU (show(as.map Value.ref)[j]?=some (.ref b) by rw[DM,hb];rfl)]
 rw[keyLt'_oneType,oneLt'_eq];simp only[if_true]
 refine wpAny_bind (wpAny_cRoomFor (by omega) (wpAny_bind (wpAny_callSpecialIfBound?_slot ⟨_,e1,rfl⟩ PySem.F.slot_list_lt ?_)))
 refine call_meets PySem.F.slot_list_lt ⟨_,e1,rfl⟩ PySem.F.entry_list_lt (PySem.F.args_list_lt_2 _ _) (CU a b a1 a2 us vs xs ys n1 n2 m1 m2 (x.length:Int) (y.length:Int) t1 t2 x y i1 i2 f1 f2 k1 k2) ⟨⟨e1,e2,g1,g2,?_⟩,fun q=>?_,wpAny_truthy_bool ?_⟩
 ·show A.units+1<cLine
  omega
 ·exact rb g1 g2 i1 i2 (by omega) ne (by show A.units+1+1<cLine;omega)
 ·unfold i5 at h
  by_cases c:x.length=y.length
  ·rw [if_pos (by omega)]
   rw[if_pos c]at h
   exact h
  ·rw [if_neg (by omega)]
   rw[if_neg c]at h
   rw[show decide ((x.length:Int)<(y.length:Int))=decide (x.length<y.length) by simp]
   exact h
end
section
variable {prog:Program} {w:World} {E:Value->Shared->Prop} {A:Around} {κ:SortKind} {s:Shared} {n:Nat} {lt:Nat->Nat->Bool} {q:List Nat} {ks vs:List Value}
theorem mB {a:Addr} {as:List Addr} {ls:List (List Int)} {e0:Nat} {P:Fin->Shared->Prop} (hu:A.units+8<cLine) (ho:s.heap.get? a=some (seqObj "list" (as.map Value.ref).toArray e0)) (hp:tD s.heap a as ls) (nd:ls.Nodup)
  (S:Sorts ls.length lt q) (hlt:∀i j,i<ls.length->j<ls.length->lt i j=i5 (ls.getD i []) (ls.getD j []))
  (h:P (.done (.ret .none)) {s with heap:=sortedHeap s.heap a (as.map Value.ref) (EE (q.map fun i=>(as.map Value.ref).getD i Value.none))}):wpAny (model prog w) A (Builtin.«list.sort» ⟨[.ref a],[]⟩) P E s:=by
 have la:=hp.1
 have h64:=S.few
 have lq:=S.len
 generalize hvs:as.map Value.ref=vs at ho h
 have lv:vs.length=ls.length:=by rw[<- hvs,DI,la]
 rw[list_sort_plain]
 have lta:=Heap.lt_size ho
 obtain⟨e1,empty1⟩:∃e1,(s.heap.update a (Obj.mapSeq fun _=>#[])).get? a=some (seqObj "list" #[] e1):=⟨_,get?_update_seq ho fun _=>#[]⟩
 refine wpAny_bind (listItems_at ho rfl (wpAny_bind (listUpdate_at ho rfl (wpAny_bind (seqEpoch_at empty1 rfl (wpAny_bind (wpAny_newTuple (wpAny_bind (wpAny_newList (wpAny_holding ?_) (Eo _))) (by rw[sizeLine_eq];show vs.length<=_;omega))))) (by rw[sizeLine_eq,DT];omega) (Eo _))))
 have old:∀b o,(s.heap.update a (Obj.mapSeq fun _=>#[])).get? b=some o->(((s.heap.update a (Obj.mapSeq fun _=>#[])).push (seqObj "tuple" vs.toArray 0)).push (seqObj "list" #[] 0)).get? b=some o:=fun b o e=>Heap.get?_push_of_some _ (Heap.get?_push_of_some _ e)
 have ho6:=old _ _ empty1
 have hp':tD (((s.heap.update a (Obj.mapSeq fun _=>#[])).push (seqObj "tuple" vs.toArray 0)).push (seqObj "list" #[] 0)) a as ls:=⟨la,fun i b k hb hk=>by
  obtain⟨us,n,t,c,xs,m,e1,e2,e3,e4,e5,e6,e7⟩:=hp.2 i b k hb hk
  exact⟨us,n,t,c,xs,m,old _ _ (by rw[Heap.get?_update_ne _ _ _ _ e6];exact e1),e2,e3,old _ _ (by rw[Heap.get?_update_ne _ _ _ _ e7];exact e4),e5,e6,e7⟩⟩
 show wpAny (model prog w) A _ P E {s with heap:=(((s.heap.update a (Obj.mapSeq fun _=>#[])).push (seqObj "tuple" vs.toArray 0)).push (seqObj "list" #[] 0))}
 dsimp only
 have size_vs:vs.toArray.size=vs.length:=DT
 by_cases few:vs.toArray.size<2
 ·rw [if_pos few,if_pos few]
  refine wpAny_bind (wpAny_pure ?_);rw[StateT.run_pure];refine wpAny_bind (wpAny_pure ?_);dsimp only
  have eo:(arrOf (SortSt.mk' general' (vs.toArray.zip vs.toArray) #[] 7 none)).map (·.2)=EE ((DR ls.length).map fun i=>vs.getD i Value.none):=by
   have:=kat_snds (ks:=vs) (vs:=vs) rfl (st:=SortSt.mk' general' (vs.toArray.zip vs.toArray) #[] 7 none) (p:=EE (DR ls.length)) (by
    have e:=kas_range (vs.toArray.zip vs.toArray)
    rw[show(vs.toArray.zip vs.toArray).size=ls.length by simp[lv]]at e
    exact e.symm)
   exact this
  have eq:q=DR ls.length:=by
   rcases S.2 with z | z | z
   ·exact z.2
   ·omega
   ·omega
  rw[eo,<- eq]
  refine wpAny_bind (seqEpoch_at ho6 rfl (wpAny_bind (listUpdate_at ho6 rfl ?_ (Eo _) (by rw[DT,DI,lq,sizeLine_eq];omega))))
  simp only[bne_self_eq_false,if_false,EH]
  exact wpAny_pure h
 ·rw [if_neg few,if_neg few]
  refine wpAny_bind (kas_kind (T:= .type "list") (by omega) (fun v hv=>?_) (by decide) (by decide) ?_)
  ·rw [<- hvs]at hv
   obtain⟨b,hb,rfl⟩:=DZ.mp hv
   obtain⟨i,hi⟩:=EB.mp hb
   obtain⟨us,m,_,_,_,_,e,_⟩:=hp'.2 i b _ hi (DJ (show i<ls.length by have:=(DN.mp hi).1;omega))
   exact(Looks.ld e).andThen .now
  refine wpAny_bind (wpAny_mono (S.run (ks:=vs) (vs:=vs) (Q:=fun st' s'=>(arrOf st').map (·.2)=EE (q.map fun i=>vs.getD i Value.none)/\failedOf st'=none/\s'={s with heap:=((s.heap.update a (Obj.mapSeq fun _=>#[])).push (seqObj "tuple" vs.toArray 0)).push (seqObj "list" #[] 0)})
   (by omega) lv lv (fun i j C hi hj hij hC=>?_) fun st' a1 a2=>⟨a1,a2,rfl⟩) ?_ fun _ _ e=>e)
  ·rw [<- hvs]at hp' ⊢
   rw[hlt i j hi hj]at hC
   rw[<- hvs]at hC
   exact y6 (s:={s with heap:=_}) hu hp' nd hi hj hij hC
  ·rintro⟨⟨⟩,st'⟩ s' ⟨e1',e2',rfl⟩
   dsimp only at e1' e2' ⊢
   rw[e1',e2']
   refine wpAny_bind (seqEpoch_at ho6 rfl (wpAny_bind (listUpdate_at ho6 rfl ?_ (Eo _) (by rw[DT,DI,lq,sizeLine_eq];omega))))
   simp only[bne_self_eq_false,if_false,EH]
   exact wpAny_pure h
end
def DD (H:Hp) (a:Addr) (l:List Int):Prop:=∃b,H a=some (.lst [.int l.length,.ref b])/\H b=some (.lst (l.map V.int))
section
variable {X:Cx}
theorem uX (K:PySem.W.Frag) (hu:X.A.units+64<cLine) (hK:X.K=K:=by rfl):cu X (.builtin "sorted") (fun xs H Q=>∃(p:Addr) (as:List Addr) (ls:List (List Int)) (lt:Nat->Nat->Bool) (q:List Nat),xs=[.ref p]/\SqL K H p (as.map V.ref)/\Paired (DD H) as ls/\ls.Nodup/\Sorts ls.length lt q/\
  (∀i j,i<ls.length->j<ls.length->lt i j=i5 (ls.getD i []) (ls.getD j []))/\∀l,H l=none->Q (.ref l) (aE H l (.lst ((q.map fun i=>as.getD i 0).map V.ref)))):=by
 subst hK
 intro pins s σ H xs us Q I r h
 obtain⟨p,as,ls,lt,qq,e,hq,il,nd,S,hlt,q⟩:=h
 subst e
 obtain⟨u,e,rx⟩:=fI r
 subst e
 cases rx
 obtain⟨its,rv,pl,hz⟩:=I.list hq
 have ev:=eR rv
 subst ev
 have la:as.length=ls.length:=Paired.length il
 have lim:=S.few
 have lq:=S.len
 have got:∀(i:Nat) a l,as[i]?=some a->ls[i]?=some l->∃us n t b xs m,s.heap.get? a=some {cls:= .type "list",data:= .seq us n}/\us[0]?=some (.int (l.length:Int) t)/\us[1]?=some (.ref b)/\s.heap.get? b=some {cls:= .type "list",data:= .seq xs m}/\IntsAre xs.toList l:=fun i a l ha hl=>by
  obtain⟨l',e1,b,e2,e3⟩:=bB il ha
  rw[hl]at e1
  cases e1
  obtain⟨z,its',n',r',hl',e⟩:=I.lstM e2
  obtain⟨z2,its2,n2,r2,hl2,e'⟩:=I.lstM e3
  cases r' with
  | cons r1 r'=>
   cases r' with
   | cons r3 r'=>
    cases r'
    obtain⟨k,rfl⟩:=r1
    cases r3
    exact⟨_,n',k,b,_,n2,e,rfl,rfl,e',cU r2⟩
 have keep:∀b o,s.heap.get? b=some o->b<s.heap.objs.size:=fun b o e=>Heap.lt_size e
 generalize hvs:(as.map Value.ref)=vs at pl
 have lv:vs.length=ls.length:=by rw[<- hvs,DI,la]
 refine Calls.call_function_entry kind_sorted plain_sorted entry_sorted (args_sorted1 _) ?_;unfold Builtin.«sorted»
 refine wpAny_bind (m:=checkCount "sorted" 1 1 _) (wpAny_pure (wpAny_bind (collect_list pl.isList ?_ (by rw[sizeLine_eq];omega))))
 refine wpAny_bind (wpAny_newList (items:=vs) ?_ (by rw[sizeLine_eq];omega))
 have sz1:((s.heap.push (seqObj "list" #[] 0)).update s.heap.objs.size (Obj.mapSeq (· ++vs.toArray))).objs.size=s.heap.objs.size+1:=(Heap.size_update ..).trans (size_push' ..)
 have old1:∀b o,s.heap.get? b=some o->((s.heap.push (seqObj "list" #[] 0)).update s.heap.objs.size (Obj.mapSeq (· ++vs.toArray))).get? b=some o:=fun b o e=>by
  rw[Heap.get?_update_ne _ _ _ _ (Eb (keep b o e)),Heap.get?_push_ne _ _ _ (Eb (keep b o e))];exact e
 show wpAny _ _ _ _ _ {s with heap:=(((s.heap.push (seqObj "list" #[] 0)).update s.heap.objs.size (Obj.mapSeq (· ++vs.toArray))).push (seqObj "list" vs.toArray 0))}
 generalize ((s.heap.push (seqObj "list" #[] 0)).update s.heap.objs.size (Obj.mapSeq (· ++vs.toArray)))=h1 at sz1 old1
 have hoL:(h1.push (seqObj "list" vs.toArray 0)).get? h1.objs.size=some (seqObj "list" vs.toArray 0):=Heap.get?_push_size _ rfl
 have pa:tD (h1.push (seqObj "list" vs.toArray 0)) h1.objs.size as ls:=⟨la,fun i a l ha hl=>by
  obtain⟨us,n,t,b,xs,m,e1,e2,e3,e4,e5⟩:=got i a l ha hl
  have q1:=keep _ _ e1
  have q2:=keep _ _ e4
  exact⟨us,n,t,b,xs,m,Heap.get?_push_of_some _ (old1 _ _ e1),e2,e3,Heap.get?_push_of_some _ (old1 _ _ e4),e5,by rw[sz1];exact Eb (EC q1),by rw[sz1];exact Eb (EC q2)⟩⟩
 rw[<- hvs]at hoL
 rw[<- hvs]
 refine wpAny_bind (wpAny_holding (wpAny_call_entry slot_list_sort ⟨_,hoL,rfl⟩ entry_list_sort (mB (by show X.A.units+1+1+8<cLine;omega) hoL (by rw[hvs];exact pa) nd S hlt ⟨_,rfl,?_⟩) (args_list_sort _)))
 refine wpAny_pure ⟨Value.ref h1.objs.size,rfl,?_⟩
 obtain⟨ep,he⟩:=sortedHeap_at (out:=EE (qq.map fun i=>(as.map Value.ref).getD i Value.none)) hoL
 have k2:∀b o,s.heap.get? b=some o->(sortedHeap (h1.push (seqObj "list" (as.map Value.ref).toArray 0)) h1.objs.size (as.map Value.ref) (EE (qq.map fun i=>(as.map Value.ref).getD i Value.none))).get? b=some o:=fun b o eb=>by
  have lt:=keep b o eb
  rw[sortedHeap_old (Eb (Em lt (by rw[sz1];exact FU _))) (by rw[Heap.size_push,sz1];exact EC (EC lt))]
  exact Heap.get?_push_of_some _ (old1 b o eb)
 have hn':s.heap.objs.size<=h1.objs.size:=by omega
 have plt:∀i∈qq,i<as.length:=fun i hi=>by rw[la];exact S.le i hi
 refine⟨.ref h1.objs.size,_,I.laid (t':=s.toks) k2 hn' (show ObjOk X.prog X.w _ _ _ (.lst ((qq.map fun i=>as.getD i 0).map V.ref))from⟨?_,qq.map fun i=>(as.map Value.ref).getD i Value.none,ep,gG qq plt,by simpa [seqObj]using he⟩),rfl,q _ (I.hok.fresh hn')⟩
 rw[DI,DI,lq,sizeLine_eq];omega
end
theorem xv {ls:List (List Int)} (nd:ls.Nodup) (h64:ls.length<64) (h0:ls[0]?=some []):∃q,Sorts ls.length (fun i j=>i5 (ls.getD i []) (ls.getD j [])) q:=by
 by_cases h2:2<=ls.length
 ·have ne:∀i j,i<ls.length->j<ls.length->i≠j->ls.getD i []≠ls.getD j []:=fun i j hi hj hij z=>by
   rw[bx hi,bx hj]at z
   exact hij ((Fi nd).mp z)
  obtain⟨q,S,_⟩:=qX (n:=ls.length) (lt:=fun i j=>i5 (ls.getD i []) (ls.getD j [])) ⟨fun i j k _ _ _ a b=>xg a b,fun i j _ _ a=>xh a,fun i j hi hj hij a=>AK (ne i j hi hj hij) a⟩ h2 h64 (by
   have n01:=ne 0 1 (by omega) (by omega) (by decide)
   show i5 (ls.getD 0 []) (ls.getD 1 [])=true
   rw[fU h0]at n01 ⊢
   unfold i5
   cases e:ls.getD 1 []with
   | nil=>exact absurd e.symm n01
   | cons x r=>rw[if_neg (by simp)];simp)
  exact⟨q,S⟩
 ·exact⟨DR ls.length,List.Perm.refl _,.inl ⟨by omega,rfl⟩⟩
theorem iV {dn:List (Option Int)} {i:Nat}:(i:Int)∈dg dn<->i<dn.length/\(dn.getD i none).isSome=true:=by
 unfold dg
 rw[DZ]
 constructor
 ·rintro⟨j,hj,e⟩
  have:j=i:=by omega
  subst this
  exact⟨Ee.mp (Ej.mp hj).1,(Ej.mp hj).2⟩
 ·rintro⟨h1,h2⟩
  exact⟨i,Ej.mpr ⟨Ee.mpr h1,h2⟩,rfl⟩
theorem pN:∀n,DR n∈bO n
 | 0=>DV.mpr rfl
 | n+1=>by
  rw[E4]
  exact Eh _ (DZ.mpr ⟨_,pN n,rfl⟩)
theorem y8 (st:List Int):st∈eX st:=by
 unfold eX
 refine DZ.mpr ⟨_,pN _,?_⟩
 unfold cj
 exact fo st 0
theorem pO {es:jA} {dn:List (Option Int)} (ok:∀x∈es,0<=x.2/\x.2<(dn.length:Int)):dg dn∈(eX (dg dn)).filter (jB es dn):=by
 refine Ej.mpr ⟨y8 _,?_⟩
 unfold jB
 rw[ED]
 intro s hs
 obtain⟨x,hx,rfl⟩:=DZ.mp hs
 obtain⟨h0,h1⟩:=ok x (Ej.mp hx).1
 obtain⟨k,ek⟩:∃k:Nat,x.2=(k:Int):=⟨x.2.toNat,by omega⟩
 rw[ek,Er]
 cases e:dn.getD k none with
 | none=>simp
 | some v=>
  have:(k:Int)∈dg dn:=iV.mpr ⟨by omega,by rw[e];rfl⟩
  simp[this]
theorem y9 {es:jA} {dn:List (Option Int)}:((eX (dg dn)).filter (jB es dn))[0]?=some []:=by
 obtain⟨r,e⟩:=sW (dg dn).length
 unfold eX
 rw[e,En,show cj (dg dn) []=[]from rfl,FO,if_pos (yF es dn)]
 rfl
def nB (dn:List (Option Int)) (hs:List Int) (i:Nat):Bool:=(dn.getD i none).isSome&& !decide (dn.getD i none=some (hs.getD i 0))
theorem pP {dn:List (Option Int)} {hs:List Int} {i:Nat} (hi:i<dn.length) (h:nB dn hs i=true):(i:Int)∈dg dn:=by
 unfold nB at h
 rw[EF]at h
 exact iV.mpr ⟨hi,h.1⟩
theorem uY {ps:List (List Int)} {ts:List qf} {dn:List (Option Int)} {hs s:List Int} (ln:hs.length=ps.length) (dl:dn.length=ps.length) (hin:∀i,i<ps.length->hs.getD i 0∈ps.getD i []) (kps:∀t∈ts,kp (fun i=>hs.getD i 0) t.1 t.2.1 t.2.2=true) (g:∀i,i<dn.length->nB dn hs i=true->(i:Int)∈s):IsPlan (bW ps (iC dn s)) ts hs:=by
 refine⟨by rw[cX];exact ln,fun i hi=>?_,kps⟩
 have hi':i<ps.length:=by omega
 rw[g9 hi']
 have e:(iC dn s).getD i none=if(i:Int)∈s then none else dn.getD i none:=by
  unfold iC
  rw[DK,DM,E9 (by omega)];rfl
 rw[e]
 by_cases c:(i:Int)∈s
 ·rw [if_pos c]
  exact hin i hi'
 ·rw [if_neg c]
  cases q:dn.getD i none with
  | none=>exact hin i hi'
  | some b=>
   have:b=hs.getD i 0:=Decidable.byContradiction fun ne=>c (g i (by omega) (by
    unfold nB
    rw[q]
    simp only[Option.isSome_some,Bool.true_and,Option.some.injEq,F1,decide_eq_false_iff_not]
    exact ne))
   rw[this]
   exact DV.mpr rfl
theorem uZ {es:jA} {dn:List (Option Int)} (ok:∀x∈es,0<=x.1/\x.1<(dn.length:Int)) (rk:Int->Nat) (hr:∀x∈es,rk x.1<rk x.2) (e:((DR dn.length).filter fun(i:Nat)=>sL es (dg dn) (i:Int))=[]):∀(n i:Nat),rk (i:Int)<=n->i<dn.length->(dn.getD i none).isSome=true:=by
 intro n
 induction n using Nat.strongRecOn with
 | ind n ih=>
  intro i hn hi
  refine Decidable.byContradiction fun no=>?_
  have nf:¬sL es (dg dn) (i:Int)=true:=List.filter_eq_nil_iff.mp e i (Ee.mpr hi)
  refine nf ?_
  unfold sL
  rw[EF]
  refine⟨?_,ED.mpr fun a ha=>?_⟩
  ·rw [decide_eq_false fun z=>no (iV.mp z).2];rfl
  ·unfold wJ at ha
   obtain⟨x,hx,rfl⟩:=DZ.mp ha
   obtain⟨hx1,hx2⟩:=Ej.mp hx
   have e2:=of_decide_eq_true hx2
   obtain⟨o1,o2⟩:=ok x hx1
   have lt:=hr x hx1
   rw[e2]at lt
   obtain⟨k,ek⟩:∃k:Nat,x.1=(k:Int):=⟨x.1.toNat,by omega⟩
   rw[ek]at lt ⊢
   exact decide_eq_true (iV.mpr ⟨by omega,ih (rk (k:Int)) (by omega) k (DS _) (by omega)⟩)
def AN:V->Bool
 | .non=>true
 | _=>false
theorem xw:∀{dn:List (Option Int)} {i:Nat} (v:Int),i<dn.length->dn.getD i none=none->((dn.set i (some v)).map hV).countP AN+1=(dn.map hV).countP AN
 | [],_,_,h,_=>by cases h
 | x :: dn,0,v,_,e=>by
  have e:x=none:=e
  subst e
  rw[List.set_cons_zero,En,En,List.countP_cons_of_neg (by show ¬AN (hV (some v))=true;exact DU),List.countP_cons_of_pos (show AN (hV none)=true from rfl)]
 | x :: dn,i+1,v,h,e=>by
  have ih:=xw (dn:=dn) (i:=i) v (Nat.lt_of_succ_lt_succ h) e
  rw[List.set_cons_succ,En,En,List.countP_cons,List.countP_cons,<- ih]
  omega
theorem AO {dn:List (Option Int)} {hs:List Int} (ln:hs.length=dn.length) (al:∀i,i<dn.length->dn.getD i none=some (hs.getD i 0)):dn.map hV=hs.map V.int:=by
 apply EN
 ·rw [DI,DI,ln]
 ·intro i h1 h2
  rw[DI]at h1 h2
  have:=al i h1
  rw[DK,DJ h1,DK,DJ h2]at this
  have this:dn[i]=some hs[i]:=this
  rw[E6,E6,this]
  rfl
theorem xx {r:List Int} {es:jA} (nd:r.Nodup) (h:∀x∈es,∃i j:Nat,i<j/\r[i]?=some x.1/\r[j]?=some x.2):∀x∈es,r.idxOf x.1<r.idxOf x.2:=fun x hx=>by
 obtain⟨i,j,lt,h1,h2⟩:=h x hx
 obtain⟨l1,e1⟩:=DN.mp h1
 obtain⟨l2,e2⟩:=DN.mp h2
 rw[<- e1,<- e2,nd.idxOf_getElem,nd.idxOf_getElem]
 exact lt
end L2
set_option maxHeartbeats 4000000
namespace My
seal L2.PE L2.PA L2.PS L2.PSs L2.PT L2.PW L2.PI L2.PG L2.zN L2.Ab L2.PO L2.gu L2.cu L2.AW L2.B3 L2.B0
open PySem L2 PyProof.Rows
local macro_rules | `(tactic| walk_at "go")=> `(tactic| repeat (first | refine⟨_,rfl,?_⟩ | refine⟨_,_,rfl,rfl,(show(0:Int)<_ by decide),?_⟩ | refine⟨_,_,rfl,rfl,(show jS _ _ from⟨by decide,by decide⟩),?_⟩ | refine⟨_,_,rfl,rfl,(show Be _ _ from⟨by decide,by decide,by decide⟩),?_⟩ | refine⟨_,_,rfl,rfl,(show CMul _ _ from .inl ⟨by decide,by decide⟩),?_⟩ | refine⟨_,_,rfl,rfl,(show CMul _ _ from .inr ⟨by decide,by decide⟩),?_⟩ | refine⟨_,_,rfl,rfl,?_⟩ | refine⟨rfl,?_⟩))
def top (i:Nat):Stmt:=PySem.Challenge.pw_deskround_k51_files_that_can_be_healed.main.body.getD i (.Pass ⟨0,0,0,0⟩)
abbrev lN:Stmt:=top 1
abbrev jj:Stmt:=top 2
abbrev rd:Stmt:=top 4
abbrev lO:Stmt:=top 5
abbrev dG:Stmt:=top 6
abbrev h9:Stmt:=top 7
abbrev om:Stmt:=top 9
abbrev oo:Stmt:=top 10
abbrev lP:Stmt:=top 12
abbrev dH:Stmt:=top 13
abbrev lQ:Stmt:=top 14
abbrev ie:Stmt:=top 16
abbrev jk:Stmt:=top 17
abbrev rf:Stmt:=top 19
abbrev fW:Stmt:=top 20
abbrev rg:Stmt:=top 21
abbrev fX:Stmt:=top 22
abbrev jm:Stmt:=top 24
abbrev cZ:Stmt:=top 25
abbrev lR:Stmt:=top 26
abbrev rh:Stmt:=top 27
abbrev oq:Stmt:=top 29
abbrev rj:Stmt:=top 30
abbrev jn:Stmt:=top 31
abbrev ig:Stmt:=top 32
abbrev ij:Stmt:=top 34
abbrev fY:Stmt:=top 35
abbrev jo:Stmt:=top 36
abbrev fZ:Stmt:=top 37
abbrev iq:Stmt:=top 38
abbrev ir:Stmt:=top 39
abbrev jq:Stmt:=top 40
abbrev iu:Stmt:=top 41
abbrev fv:Stmt:=top 42
abbrev iw:Stmt:=top 43
abbrev ix:Stmt:=top 44
abbrev gc:Stmt:=top 45
abbrev iy:Stmt:=top 46
abbrev fz:Stmt:=top 47
abbrev iz:Stmt:=top 48
abbrev fA:Stmt:=top 49
abbrev fB:Stmt:=top 50
abbrev dI:Stmt:=top 51
abbrev gd:Stmt:=top 52
abbrev iA:Stmt:=top 53
abbrev dJ:Stmt:=top 54
abbrev xy:Stmt:=top 55
structure Txt (mg:Str->Option Value):Prop where
 z_all:mg "all"=none
 z_bool:mg "bool"=none
 z_int:mg "int"=none
 z_isinstance:mg "isinstance"=none
 z_len:mg "len"=none
 z_list:mg "list"=none
 z_max:mg "max"=none
 z_min:mg "min"=none
 z_range:mg "range"=none
 z_set:mg "set"=none
 z_sorted:mg "sorted"=none
 z_tuple:mg "tuple"=none
 z_zip:mg "zip"=none
structure Dfs (K:PySem.W.Frag) (mg:Str->Option Value) (aF:Nat->Addr) (dF:Nat->FuncData):Prop where
 common:Def K mg "common" lN ["one","other"] (aF 0) (dF 0)
 choices:Def K mg "choices" jj ["numbers"] (aF 1) (dF 1)
 deal:Def K mg "deal" rd ["pools"] (aF 2) (dF 2)
 settle:Def K mg "settle" lO ["pools","holders","place","asked"] (aF 3) (dF 3)
 short_places:Def K mg "short_places" dG ["holders","place","asked"] (aF 4) (dF 4)
 hands_of:Def K mg "hands_of" h9 ["holders","count"] (aF 5) (dF 5)
 width:Def K mg "width" om ["pattern"] (aF 6) (dF 6)
 grown:Def K mg "grown" oo ["pattern"] (aF 7) (dF 7)
 breaks:Def K mg "breaks" lP ["pattern","tie"] (aF 8) (dF 8)
 first_broken:Def K mg "first_broken" dH ["pattern","ties"] (aF 9) (dF 9)
 unlike:Def K mg "unlike" lQ ["row","steps"] (aF 10) (dF 10)
 pools_of:Def K mg "pools_of" ie ["pattern","may"] (aF 11) (dF 11)
 pool_of:Def K mg "pool_of" jk ["block","pattern","may"] (aF 12) (dF 12)
 plan:Def K mg "plan" rf ["may","ties"] (aF 13) (dF 13)
 plan_from:Def K mg "plan_from" fW ["pattern","may","ties"] (aF 14) (dF 14)
 held:Def K mg "held" rg ["may","done"] (aF 15) (dF 15)
 held_step:Def K mg "held_step" fX ["badges","hand"] (aF 16) (dF 16)
 strikes:Def K mg "strikes" jm ["order","done"] (aF 17) (dF 17)
 has_all_behind:Def K mg "has_all_behind" cZ ["some","order","done"] (aF 18) (dF 18)
 struck:Def K mg "struck" lR ["done","steps"] (aF 19) (dF 19)
 mend:Def K mg "mend" rh ["may","ties","order","done"] (aF 20) (dF 20)
 ready:Def K mg "ready" oq ["order","done"] (aF 21) (dF 21)
 free:Def K mg "free" rj ["count","order","there"] (aF 22) (dF 22)
 is_free:Def K mg "is_free" jn ["step","order","there"] (aF 23) (dF 23)
 ahead_of:Def K mg "ahead_of" ig ["step","order"] (aF 24) (dF 24)
 law_cell:Def K mg "_law_cell" ij ["script","k"] (aF 25) (dF 25)
 law_whole:Def K mg "_law_whole" fY ["found"] (aF 26) (dF 26)
 law_row:Def K mg "_law_row" jo ["count","cell"] (aF 27) (dF 27)
 law_order:Def K mg "_law_order" fZ ["cells","row"] (aF 28) (dF 28)
 law_menu:Def K mg "_law_menu" iq ["script","at","wide"] (aF 29) (dF 29)
 law_some:Def K mg "_law_some" ir ["menu","cell","step"] (aF 30) (dF 30)
 law_tie:Def K mg "_law_tie" jq ["number","count"] (aF 31) (dF 31)
 law_fits:Def K mg "_law_fits" iu ["hands","may","ties"] (aF 32) (dF 32)
 law_breaks:Def K mg "_law_breaks" fv ["pattern","tie"] (aF 33) (dF 33)
 law_pool:Def K mg "_law_pool" iw ["pattern","may","block"] (aF 34) (dF 34)
 law_shut:Def K mg "_law_shut" ix ["paper","pattern","may","ties"] (aF 35) (dF 35)
 law_shows:Def K mg "_law_shows" gc ["paper","pattern","may","ties"] (aF 36) (dF 36)
 law_sets:Def K mg "_law_sets" iy ["order","done"] (aF 37) (dF 37)
 law_undone:Def K mg "_law_undone" fz ["done","steps"] (aF 38) (dF 38)
 law_held:Def K mg "_law_held" iz ["may","done"] (aF 39) (dF 39)
 law_papers:Def K mg "_law_papers" fA ["papers","due","problem"] (aF 40) (dF 40)
 law_mended:Def K mg "_law_mended" fB ["found","order","problem"] (aF 41) (dF 41)
 law_kept_tie:Def K mg "_law_kept_tie" dI ["number","hands"] (aF 42) (dF 42)
 law_drawn:Def K mg "_law_drawn" gd ["script"] (aF 43) (dF 43)
 law_most:Def K mg "_law_most" iA ["order","done","hands"] (aF 44) (dF 44)
 law_followed:Def K mg "_law_followed" dJ ["order","done","hands","cell"] (aF 45) (dF 45)
 law:Def K mg "law" xy ["script"] (aF 46) (dF 46)
section
variable {P:Program} {w:World} {K:PySem.W.Frag} {mg:Str->Option Value} {base:Heap} {aF:Nat->Addr} {dF:Nat->FuncData}
def nC (K:PySem.W.Frag):Sp:=Dk K 0
theorem u0:FnScope ["one","other"] ["one","other"] (au lN):=⟨rfl,rfl,rfl,by decide +kernel,rfl,by decide +kernel,by decide +kernel⟩
theorem u5 (D:Dfs K mg aF dF) (T:Txt mg):FnOk P w K mg base aX 1 (aF 0) (dF 0) ["one","other"] (nC K):=by
 refine D.common.fn.ok u0 (fun vs H Q E h=>?_) (fun cdv A outer s H vs Q E hr h=>?_)
 ·obtain⟨a,b,F,S,U,rfl,_⟩:=h;rfl
 ·have hu:=aP hr
  obtain⟨a,b,F,S,U,rfl,bo,q⟩:=h
  refine⟨_,(ag (av (ak (kR w) (by rfl) T.z_sorted boot_sorted (aa (aB (yr w) (aI (nU w K) (by rfl) T.z_set PyProof.Rows.boot_set (aa (pv 0) ab)) (aI (nU w K) (by rfl) T.z_set PyProof.Rows.boot_set (aa (pv 1) ab))) ab)))),?_⟩
  have h1:=bo.l1
  have h2:=bo.l2
  refine⟨_,rfl,a,F,rfl,bo.fa,by omega,fun s1 n1=>⟨_,rfl,b,S,rfl,(Same.new n1).seq bo.sb,by omega,fun s2 n2=>?_⟩⟩
  have d1:=dk F
  have d2:=dk S
  have n12:s1≠s2:=fun z=>by rw[<- z,ae]at n2;cases n2
  refine⟨s1,s2,dd F,dd S,rfl,rfl,n12,by rw[aq n12];exact ae,ae,by omega,by omega,fun c ks nc nd hm=>?_⟩
  have lk:ks.length<=F.length:=nd.length_le_of_subset fun x hx=>aZ.mp ((hm x).mp hx).1
  refine⟨c,ks,rfl,ae,by omega,fun l ms nl pm sr=>?_⟩
  refine q l ms _ ⟨(((Same.new n1).to n2).to nc).to nl,(((Same.new n1).to (o:= .ext (SX w s2 (dd S))) n2).to (o:= .ext (SX w c ks)) nc).free nl,ae,n8 sr (pm.nodup_iff.mpr nd),fun x=>?_⟩
  rw[pm.mem_iff,hm x]
  dsimp only
  rw[aZ,aZ]
  exact Iff.rfl
def lU (K:PySem.W.Frag):Sp:=fun vs H Q _=>∃(a:Addr) (st:List Int),vs=[.ref a]/\SqL K H a (st.map V.int)/\st.Pairwise (· < ·)/\st.length<=6/\∀(l:Addr) (bs:List Addr) (H':Hp),Same H H'->H l=none->H' l=some (.lst (bs.map V.ref))->IntsL H' bs (sV st)->(∀b∈bs,H b=none)->Q (.ref l) H'
theorem fC:FnScope ["numbers","found","number"] ["numbers"] (au jj):=⟨rfl,rfl,rfl,by decide +kernel,rfl,by decide +kernel,by decide +kernel⟩
theorem rm (D:Dfs K mg aF dF) (T:Txt mg):FnOk P w K mg base aX 1 (aF 1) (dF 1) ["numbers"] (lU K):=by
 refine D.choices.fn.ok fC (fun vs H Q E h=>?_) (fun cdv A outer s H vs Q E hr h=>?_)
 ·obtain⟨a,st,rfl,_⟩:=h;rfl
 ·have hu:=aP hr
  obtain⟨a,st,rfl,ha,up,h6,q⟩:=h
  refine⟨_,(af (aA (i:=1) fC.nd rfl (Or.inl rfl) (aG (aa (aG ab) ab)))
   (af (aY PassesOwn.never rfl (gZ K (pv 0)) (ao (i:=2) fC.nd rfl (Or.inr rfl))
    (ag (aA (i:=1) fC.nd rfl (Or.inl rfl) (aB eF (pv 1) (aJ ["some","number"] [none,some 2] rfl (gZ K (pv 1)) (fun _=>ao (i:=0) (aL (N:=["some","number"]) (by decide +kernel)) rfl (Or.inl rfl)) (fun _=>bA) (fun _=>(aB eF (pv 0) (aG (aa (pv 1) ab)))) ((.cons (fun _ e=>by cases e) (.cons (fun _ e=>by cases e;exact⟨rfl,rfl⟩) .nil))))))))
   (ag (av (uQ K rfl T.z_sorted rfl T.z_len (aa (ak (uP K hr.units) (by rfl) T.z_sorted boot_sorted (aa (pv 1) ab)) ab)))))),?_⟩
  refine⟨cI,fun e0 ne0=>⟨cI,fun f0 nf0=>?_⟩⟩
  have s0:=(Same.new (o:= .lst []) ne0).to (o:= .lst [.ref e0]) nf0
  have he0:=(Same.new (o:= .lst [.ref e0]) nf0) _ _ (ae (H:=H) (a:=e0) (o:= .lst []))
  refine⟨_,rfl,a,rfl,⟨_,s0.seq ha⟩,?_⟩
  refine be (K:=K) (a:=a) (xs:=st.map V.int) (fun j σ Hx=>∃(fa:Addr) (as:List Addr) (x:Option V),σ=[some (.ref a),some (.ref fa),x]/\Same H Hx/\Hx fa=some (.lst (as.map V.ref))/\IntsL Hx as (eX (st.take j))/\∀b∈as,H b=none) ⟨f0,[e0],none,rfl,s0,ae,.cons he0 .nil,fun b hb=>by rw[DV.mp hb];exact ne0⟩ (fun j σ Hx _ hq__=>by obtain⟨_,_,_,_,s,_⟩:=hq__;exact s.seq ha) ?_ ?_
  ·rintro j v σ Hx hj ⟨fa,as,x,rfl,sx,hfa,il,fr⟩
   obtain⟨d,hd,rfl,ed⟩:=g7 hj
   have hjl:=(DN.mp hd).1
   have tl:(st.take j).length=j:=by rw[EA];omega
   have la:as.length=2^j:=by rw[Paired.length il,dA,tl]
   have lj:2^j<=64:=xl (by omega)
   refine⟨_,rfl,_,rfl,fa,rfl,⟨_,SqL.of hfa⟩,?_⟩
   refine je (xs:=as.map V.ref) (fun acc ys Hy=>∃bs:List Addr,ys=bs.map V.ref/\IntsL Hy bs (((eX (st.take j)).take ys.length).map fun l=>l++[d])/\(∀b∈bs,b≠acc)/\∀b∈bs,H b=none) (SqL.of hfa) (by rw[DI];omega)
    (fun acc ys H H' ⟨bs,e,ib,ne,fr⟩ sb=>⟨bs,e,ib.but ne sb,ne,fr⟩) (fun _ _=>⟨[],rfl,.nil,(fun _ z=>by cases z),(fun _ z=>by cases z)⟩) (fun acc i x ys H2 R hx s2 nacc hacc yl ⟨bs,e,ib,ne,fb⟩ k=>?_) fun acc ys H2 s2 nacc hacc yl ⟨bs,e,ib,ne,fb⟩=>?_
   ·rw [DM]at hx
    obtain⟨a1,ha1,rfl⟩:=DO.mp hx
    obtain⟨l0,hl0,e1⟩:=bB il ha1
    have l0j:=xk (DQ hl0)
    refine⟨_,rfl,_,rfl,cI,fun p np=>⟨a1,p,_,_,rfl,rfl,Same.new np _ _ (s2 _ _ e1),ae,r9 (by rw[DI];simp;omega),fun c nc=>?_⟩⟩
    have s3:=(Same.new (o:= .lst [V.int d]) np).to (o:= .lst (l0.map V.int++[V.int d])) nc
    have nc2:=((sx.trans s2).to (o:= .lst [V.int d]) np).free nc
    rw[yl]at ib
    refine k (.ref c) _ s3 ⟨bs++[c],by rw[e,DY];rfl,?_,fun b hb=>?_,fun b hb=>?_⟩
    ·rw [DX,Ec,yl,bR hl0,DY]
     refine aR (ib.same s3) ?_
     show _=some (HO.lst ((l0++[d]).map V.int))
     rw[ae,DY]
     rfl
    ·rcases Eg.mp hb with z | z
     ·exact ne b z
     ·rw [DV.mp z]
      intro y
      have:=(Same.new (o:= .lst [V.int d]) np) _ _ hacc
      rw[<- y,nc]at this
      cases this
    ·rcases Eg.mp hb with z | z
     ·exact fb b z
     ·rw [DV.mp z];exact nc2
   ·subst e
    have pl:(eX (st.take j)).length=as.length:=(Paired.length il).symm
    rw[yl,DI,<- pl,EL]at ib
    rw[DI,DI]at yl
    refine⟨fa,acc,_,_,rfl,rfl,s2 _ _ hfa,hacc,r9 (by rw[DI,DI];omega),fun c nc=>?_⟩
    have s3:=Same.new (o:= .lst (as.map V.ref++bs.map V.ref)) nc
    refine⟨c,as++bs,_,rfl,(sx.trans s2).trans s3,by rw[ae,DY],?_,fun b hb=>?_⟩
    ·rw [bR hd,lI]
     exact k7 ((il.same s2).same s3) (ib.same s3)
    ·rcases Eg.mp hb with z | z
     ·exact fr b z
     ·exact fb b z
  ·rintro σ Hx ⟨fa,as,x,rfl,sx,hfa,il,fr⟩
   rw[DI,EL]at il
   have la:as.length=2^st.length:=by rw[Paired.length il,dA]
   have so:=sU _ h6
   have ko:=zG _ h6
   refine⟨_,rfl,fa,as,eX st,AE st.length,qS st.length,rfl,SqL.of hfa,il,by rw[dA];exact so,fun i j hi hj=>yX up hi hj,fun l nl=>?_⟩
   have s1:=Same.new (o:= .lst (((qS st.length).map fun i=>as.getD i 0).map V.ref)) nl
   have hl:aE Hx l (.lst (((qS st.length).map fun i=>as.getD i 0).map V.ref)) l=some (.lst (((qS st.length).map fun i=>as.getD i 0).map V.ref)):=ae
   generalize aE Hx l (.lst (((qS st.length).map fun i=>as.getD i 0).map V.ref))=H1 at s1 hl
   have il1:=gJ (il.same s1) (qS st.length) fun i hi=>by rw[dA];exact so.le i hi
   have le:((qS st.length).map fun i=>as.getD i 0).length=2^st.length:=by rw[DI,so.len]
   refine⟨l,(qS st.length).map fun i=>as.getD i 0,AJ (lG st.length),qK st.length,rfl,SqL.of hl,by rw[le];exact ko,pL _ _ _ il1 ⟨⟨((qS st.length).map fun i=>(eX st).getD i []).map fun l=>(l.length:Int),by simp only[List.nil_append,Eu];rfl,fun i j hi hj=>?_⟩,fun D nD _=>?_⟩⟩
   ·rw [le]at hi hj
    rw[sY h6 hi,sY h6 hj]
    unfold AJ
    exact decide_eq_decide.mpr Int.ofNat_lt.symm
   ·rw [uS h6]
    have s2:=Same.new (o:= .lst (((vg st.length).map fun i=>as.getD i 0).map V.ref)) nD
    refine q D _ _ ((sx.trans s1).trans s2) ((sx.trans s1).free nD) ae (xm h6 ((il.same s1).same s2)) fun b hb=>?_
    obtain⟨i,hi,rfl⟩:=DZ.mp hb
    have:i<as.length:=by rw[la];exact Ee.mp ((iU _ h6).mem_iff.mp hi)
    exact fr _ (DQ (gI this))
def iB (K:PySem.W.Frag) (n:Nat):Sp:=fun vs H Q _=>∃(a hd ad:Addr) (rs:List Addr) (ps:List (List Int)) (U:List Int) (pl:Nat) (kvs:HK) (as:List Int),vs=[.ref a,.ref hd,.int pl,.ref ad]/\
 SqL K H a (rs.map V.ref)/\PoolsL K H rs ps/\pl<ps.length/\(∀p∈ps,∀b∈p,b∈U)/\U.length<=60/\H hd=some (.dK kvs)/\H ad=some (.dK (fP as))/\hd≠ad/\
 (kvs.map (·.1)).Nodup/\Good ps kvs/\as.Nodup/\(∀b∈as,b∈U)/\(U.filter fun c=>decide (c∉as)).length<n/\
 ∀ok kvs' as' H',Sett ps U pl kvs as ok kvs' as'->SameX [hd,ad] H H'->H' hd=some (.dK kvs')->H' ad=some (.dK (fP as'))->Q (.bl ok) H'
def nE (K:PySem.W.Frag):Sp:=iB K 28
theorem nF:FnScope ["pools","holders","place","asked","badge"] ["pools","holders","place","asked"] (au lO):=⟨rfl,rfl,rfl,by decide +kernel,rfl,by decide +kernel,by decide +kernel⟩
theorem u7 (D:Dfs K mg aF dF) (T:Txt mg):FnOk P w K mg base aX 28 (aF 3) (dF 3) ["pools","holders","place","asked"] (nE K):=by
 have all:∀n,FnOk P w K mg base aX n (aF 3) (dF 3) ["pools","holders","place","asked"] (iB K n):=by
  intro n
  induction n with
  | zero=>
   have no:∀vs H Q E,¬iB K 0 vs H Q E:=fun vs H Q E h=>by
    obtain⟨a,hd,ad,rs,ps,U,pl,kvs,as,_,_,_,_,_,_,_,_,_,_,_,_,_,h,_⟩:=h
    omega
   exact⟨fun vs H Q E h=>absurd h (no vs H Q E),fun A outer s H args us vs Q E _ _ _ _ h=>absurd h (no vs H Q E)⟩
  | succ n Gsettle=>
   refine D.settle.fn.ok nF (fun vs H Q E h=>?_) (fun cdv A outer s H vs Q E hr h=>?_)
   ·obtain⟨a,hd,ad,rs,ps,U,pl,kvs,as,rfl,_⟩:=h;rfl
   have hu:A.units+3+1<cLine:=by have:=hr.un;show A.units+3+1<cLine;simp only[Around.deeper]at this;omega
   obtain⟨a,hd,ad,rs,ps,U,pl,kvs,as,rfl,hS,hP,hpl,hU,hU60,hH,hA,hne,nd,g,nda,hsub,hleft,q⟩:=h
   refine⟨_,(af (aY PassesOwn.never rfl (gZ K (az (dO K) (pv 0) (pv 2) (fun _ _=>rfl))) (ao (i:=4) nF.nd rfl (Or.inl rfl))
    (ag (aK (vk (mN hu (pv 4) (pv 3)))
     (af (rY hu (pv 3) (pv 4) bP rfl)
     (ag (aK (PW.pt (cQ (vk (mN hu (pv 4) (pv 1))) (cR (bC (pc D.settle Gsettle hr (aa (pv 0) (aa (pv 1) (aa (rX hu (pv 1) (pv 4) (fun _ _=>rfl)) (aa (pv 3) ab)))))))))
      (af (rY hu (pv 1) (pv 4) (pv 2) rfl)
      (ag (av bP)))
      aC)))
     aC)))
   (ag (av bP))),?_⟩
   have hp:ps[pl]?=some ps[pl]:=DJ hpl
   generalize ps[pl]=p at hp
   obtain⟨r,hr1,hr2⟩:=hP.at hp
   have dk0:∀x∈[hd,ad],vW H x:=fun x hx=>by
    simp only[Ed,EM,or_false]at hx
    rcases hx with e | e<;>subst e
    ·exact⟨_,hH⟩
    ·exact⟨_,hA⟩
   refine⟨_,rfl,_,rfl,a,_,_,_,rfl,rfl,hS,b9 (by rw[DM,hr1];rfl),r,rfl,⟨_,hr2⟩,?_⟩
   refine be (K:=K) (a:=r) (xs:=p.map V.int) (fun i σ H1=>∃ai v,σ=[some (.ref a),some (.ref hd),some (.int pl),some (.ref ad),v]/\SLoop ps U p kvs as i ai/\SameX [hd,ad] H H1/\H1 hd=some (.dK kvs)/\H1 ad=some (.dK (fP ai)))
    ⟨as,none,rfl,⟨fun _ h=>h,nda,hsub,fun _ h=>by simp at h,fun b hb hn=>absurd hb hn⟩,SameX.refl,hH,hA⟩ (fun i σ H1 _ hq__=>by obtain⟨_,_,_,_,s1,_⟩:=hq__;exact s1.seq dk0 hr2) ?_ ?_
   ·rintro i y σ H1 hi ⟨ai,v,rfl,sl,s1,hH1,hA1⟩
    obtain⟨b,hb,rfl⟩:∃b,p[i]?=some b/\y=V.int b:=by
     rw[DM]at hi
     obtain⟨b,h1,h2⟩:=DO.mp hi
     exact⟨b,h1,h2.symm⟩
    have hbU:b∈U:=hU p (DQ hp) b (DQ hb)
    have al:ai.length<=U.length:=sl.nd.length_le_of_subset sl.sub
    have dk1:∀x∈[hd,ad],vW H1 x:=fun x hx=>by
     simp only[Ed,EM,or_false]at hx
     rcases hx with e | e<;>subst e
     ·exact⟨_,hH1⟩
     ·exact⟨_,hA1⟩
    refine⟨_,rfl,_,rfl,ad,_,rfl,DGet.k (k:=Sum.inl b) hA1,_,rfl,?_⟩
    rw[oX]
    by_cases hba:b∈ai
    ·rw [if_pos hba]
     exact a9 ⟨ai,_,rfl,sl.skip hb hba,s1,hH1,hA1⟩
    rw[if_neg hba]
    refine cb ?_
    refine⟨_,rfl,_,rfl,ad,_,rfl,DPut.k (k:=Sum.inl b) hA1 (kb (by unfold fP;rw[DI];omega)),?_⟩
    rw[vV hba]
    have hH2:aE H1 ad (.dK (fP (ai++[b]))) hd=some (.dK kvs):=by rw[aq hne];exact hH1
    have s2:SameX [hd,ad] H (aE H1 ad (.dK (fP (ai++[b])))):=s1.trans (SameX.upd (by simp))
    have dk2:∀x∈[hd,ad],vW (aE H1 ad (.dK (fP (ai++[b])))) x:=fun x hx=>by
     simp only[Ed,EM,or_false]at hx
     rcases hx with e | e<;>subst e
     ·exact⟨_,hH2⟩
     ·exact⟨_,ae⟩
    have kl:=si hU g nd
    refine⟨_,rfl,_,rfl,hd,_,rfl,DGet.k (k:=Sum.inl b) hH2,_,rfl,?_⟩
    cases hv:bG kvs (Sum.inl b)with
    | none=>
     refine cb (cb ?_)
     refine⟨_,rfl,_,rfl,_,rfl,hd,_,rfl,DPut.k (k:=Sum.inl b) hH2 (kb (by omega)),?_⟩
     refine q true _ (ai++[b]) _ (sl.free hp (hU p (DQ hp)) hb hba hv nd g) (s2.trans (SameX.upd (by simp))) ae ?_
     rw[aq hne.symm];exact ae
    | some vv=>
     obtain⟨t,pt,rfl,ht,_⟩:=g.val hv
     have htl:t<ps.length:=(DN.mp ht).1
     refine a9 ?_
     refine⟨_,rfl,_,rfl,_,rfl,_,rfl,hd,_,rfl,(by rw[<- hv];exact DGet.k (k:=Sum.inl b) hH2),_,rfl,?_⟩
     refine⟨a,hd,ad,rs,ps,U,t,kvs,ai++[b],rfl,s2.seq dk0 hS,hP.mono s2 dk0,htl,hU,hU60,hH2,ae,hne,nd,g,gv sl.nd hba,?_,?_,?_⟩
     ·intro c hc
      rcases Eg.mp hc with z | z
      ·exact sl.sub c z
      ·rw [DV.mp z];exact hbU
     ·have:=ym hbU hba sl.grow
      omega
     intro ok kvs2 as2 H3 st s3 hH3 hA3
     refine⟨ok,rfl,?_⟩
     cases ok with
     | false=>
      obtain⟨e,sl2⟩:=sl.miss hb hba hv htl st
      subst e
      exact a9 ⟨as2,_,rfl,sl2,s2.trans s3,hH3,hA3⟩
     | true=>
      obtain⟨n2,g2,_⟩:=st.yes rfl
      have kl2:=si hU g2 n2
      refine cb ?_
      refine⟨_,rfl,_,rfl,_,rfl,hd,_,rfl,DPut.k (k:=Sum.inl b) hH3 (kb (by omega)),?_⟩
      refine q true _ as2 _ (sl.turn hp hb hba hv st) ((s2.trans s3).trans (SameX.upd (by simp))) ae ?_
      rw[aq hne.symm];exact hA3
   ·rintro σ H1 ⟨ai,v,rfl,sl,s1,hH1,hA1⟩
    rw[DI]at sl
    exact q false kvs ai H1 (sl.done hp) s1 hH1 hA1
 exact all 28
def fK (K:PySem.W.Frag):Sp:=fun vs H Q _=>∃(hd ad:Addr) (pl:Nat) (kvs:HK) (as:List Int),vs=[.ref hd,.int pl,.ref ad]/\H hd=some (.dK kvs)/\H ad=some (.dK (fP as))/\hd≠ad/\as.length<=60/\
 (∀b∈as,∃i:Int,bG kvs (Sum.inl b)=some (.int i))/\
 ∀l (ms:List Int) H',SameX [ad] H H'->H l=none->H' l=some (.lst (ms.map V.int))->ms.Perm ((pl:Int) :: as.map (jU kvs))->ms.Pairwise (· <= ·)->Q (.ref l) H'
theorem jX:FnScope ["holders","place","asked"] ["holders","place","asked"] (au dG):=⟨rfl,rfl,rfl,by decide +kernel,rfl,by decide +kernel,by decide +kernel⟩
theorem jY (D:Dfs K mg aF dF) (T:Txt mg):FnOk P w K mg base aX 1 (aF 4) (dF 4) ["holders","place","asked"] (fK K):=by
 refine D.short_places.fn.ok jX (fun vs H Q E h=>?_) (fun cdv A outer s H vs Q E hr h=>?_)
 ·obtain⟨hd,ad,pl,kvs,as,rfl,_⟩:=h;rfl
 ·have hu:=aP hr
  obtain⟨hd,ad,pl,kvs,as,rfl,hH,hA,hne,h60,hv,q⟩:=h
  refine⟨_,(ag (av (ak (ye K) (by rfl) T.z_sorted boot_sorted (aa (aB eF (aG (aa (pv 1) ab)) (aJ ["badge","holders"] [none,some 0] rfl (yh (pv 2)) (fun _=>ao (i:=0) (aL (N:=["badge","holders"]) (by decide +kernel)) rfl (Or.inl rfl)) (fun _=>bA) (fun _=>(rX hu (pv 1) (pv 0) (fun _ _=>rfl))) ((.cons (fun _ e=>by cases e) (.cons (fun _ e=>by cases e;exact⟨rfl,rfl⟩) .nil))))) ab)))),?_⟩
  refine⟨_,rfl,cI,fun l1 n1=>?_⟩
  have nl1:ad≠l1:=aw hA n1
  refine⟨_,rfl,ad,_,rfl,by rw[aq nl1];exact hA,fun φ=>?_⟩
  have hH1:aE (aE H l1 (.lst [.int pl])) ad (.ext φ) hd=some (.dK kvs):=by rw[aq hne,aq (aw hH n1)];exact hH
  refine ug (kvs:=fP as) (fun k=>match k with | .inl b=> .int (jU kvs b) | .inr _=> .non) (by unfold fP;rw[DI];omega) ae (fun i k v hi H2 R s2 kk=>?_) fun acc H2 s2 na hacc=>?_
  ·obtain⟨b,hb,e⟩:∃b,b∈as/\(Sum.inl b,V.bl true)=(k,v):=by
    have m:=DQ hi
    obtain⟨b,hb,e⟩:=DZ.mp m
    exact⟨b,hb,e⟩
   cases e
   obtain⟨z,hz⟩:=hv b hb
   refine⟨_,rfl,_,rfl,hd,_,rfl,(by rw[<- hz];exact DGet.k (k:=Sum.inl b) (s2 _ _ hH1)),?_⟩
   have e:=iH hz
   rw[<- e]
   exact kk H2 (Same.refl _)
  have e1:(fP as).map (fun p=>match p.1 with | Sum.inl b=>V.int (jU kvs b) | Sum.inr _=>V.non)=(as.map (jU kvs)).map V.int:=by
   unfold fP
   rw[Eu,Eu];rfl
  have hacc':H2 acc=some (.lst ((as.map (jU kvs)).map V.int)):=hacc.trans (congrArg (fun z=>some (HO.lst z)) e1)
  have hl2:H2 l1=some (.lst [.int pl]):=s2 _ _ (by rw[aq nl1.symm];exact ae)
  refine⟨l1,acc,_,_,rfl,rfl,hl2,hacc',by rw[DI,DI];exact r9 (by show 1+_<=1000;omega),fun l3 n3=>?_⟩
  refine⟨l3,(pl:Int) :: as.map (jU kvs),rfl,SqL.of ae,by rw[EK,DI];omega,fun l4 ms n4 hp hs=>?_⟩
  have sA:SameX [ad] H H2:=fun b o hb e=>s2 b o (by rw[aq (by simpa using hb),aq (aw e n1)];exact e)
  have n4':H l4=none:=by
   cases z:H l4 with
   | none=>rfl
   | some o=>
    by_cases hb:l4=ad
    ·have:aE H2 l3 (.lst (V.int (pl:Int) :: (as.map (jU kvs)).map V.int)) ad=none:=hb▸n4
     rw[aq (aw (s2 _ _ ae) n3),s2 _ _ ae]at this
     cases this
    ·have z2:=sA l4 o (by simpa using hb) z
     have:aE H2 l3 (.lst (V.int (pl:Int) :: (as.map (jU kvs)).map V.int)) l4=none:=n4
     rw[aq (aw z2 n3),z2]at this
     cases this
  refine q l4 ms _ ?_ n4' ae hp hs
  exact sA.trans (Same.x ((Same.new n3).to n4))
def jG (K:PySem.W.Frag):Sp:=fun vs H Q _=>∃(hd:Addr) (ps:List (List Int)) (kvs:HK),vs=[.ref hd,.int ps.length]/\H hd=some (.dK kvs)/\ps.length<=60/\Held ps kvs ps.length/\
 ∀l (hs:List Int) H',SameX [hd] H H'->H l=none->H' l=some (.lst (hs.map V.int))->Deal ps hs->Q (.ref l) H'
theorem dY:FnScope ["holders","count","hands","badge","place"] ["holders","count"] (au h9):=⟨rfl,rfl,rfl,by decide +kernel,rfl,by decide +kernel,by decide +kernel⟩
theorem pQ (D:Dfs K mg aF dF) (T:Txt mg):FnOk P w K mg base aX 1 (aF 5) (dF 5) ["holders","count"] (jG K):=by
 refine D.hands_of.fn.ok dY (fun vs H Q E h=>?_) (fun cdv A outer s H vs Q E hr h=>?_)
 ·obtain⟨hd,ps,kvs,rfl,_⟩:=h;rfl
 ·have hu:=aP hr
  obtain⟨hd,ps,kvs,rfl,hH,h60,he,q⟩:=h
  refine⟨_,(af (aA (i:=2) dY.nd rfl (Or.inl rfl) (aB vE (aG (aa aj ab)) (pv 1)))
   (af (aY PassesOwn.never rfl (vT (zW PySem.F.plainAttrs_dict PySem.F.slot_dict_items PySem.F.type_dict_items vS (pv 0))) (vP K rfl (aD (ao (i:=3) dY.nd rfl (Or.inl rfl)) (aD (ao (i:=4) dY.nd rfl (Or.inl rfl)) b3)))
    (ag (eE (pv 3) (nJ (pv 2) (pv 4) iE))))
   (ag (av (pv 2))))),?_⟩
  refine⟨cI,fun l0 n0=>⟨_,rfl,l0,_,_,rfl,rfl,ae,by omega,by omega,by show 1*_<=_;exact r9 (by omega),fun l nl=>?_⟩⟩
  have el:(Ey ((ps.length:Int)).toNat [V.int 0]).flatten=(Ey ps.length (0:Int)).map V.int:=by
   have:((ps.length:Int)).toNat=ps.length:=by omega
   rw[this]
   generalize ps.length=m
   induction m with
   | zero=>rfl
   | succ m ih=>rw[EY,Fw,ih,EY];rfl
  rw[el]
  have nhd0:hd≠l0:=aw hH n0
  have nhd:hd≠l:=aw (show aE H l0 (.lst [.int 0]) hd=some _ by rw[aq nhd0];exact hH) nl
  have nl':H l=none:=by
   cases z:H l with
   | none=>rfl
   | some o=>
    rw[aq (aw z n0),z]at nl
    cases nl
  have hH1:aE (aE H l0 (.lst [.int 0])) l (.lst ((Ey ps.length (0:Int)).map V.int)) hd=some (.dK kvs):=by rw[aq nhd,aq nhd0];exact hH
  refine⟨_,rfl,.inr (.inr (.inl ⟨rfl,.inl ⟨_,hH1⟩⟩)),hd,kvs,rfl,rfl,hH1,fun v nv=>?_⟩
  have nvd:hd≠v:=aw hH1 nv
  have nvl:l≠v:=aw ae nv
  refine⟨v,hd,kvs,rfl,ae,by rw[aq nvd];exact hH1,fun φ=>?_⟩
  refine uf (fun i σ H1=>∃(hs:List Int) (x y:Option V),σ=[some (.ref hd),some (.int ps.length),some (.ref l),x,y]/\SameX [hd] H H1/\H1 hd=some (.ext φ)/\H1 l=some (.lst (hs.map V.int))/\hs.length=ps.length/\
    ∀j (b:Int) (t:Nat),j<i->kvs[j]?=some (Sum.inl b,V.int t)->hs[t]?=some b) ⟨Ey ps.length 0,none,none,rfl,?_,ae,?_,by rw[List.length_replicate],fun j b t h=>by omega⟩ (fun i σ H1 _ hq__=>by obtain⟨_,_,_,_,_,h,_⟩:=hq__;exact h) ?_ ?_
  ·intro b o hb e
   have h1:b≠hd:=by simpa using hb
   rw[aq h1,aq (aw (show aE (aE H l0 _) l _ b=some o by rw[aq (aw e nl'),aq (aw e n0)];exact e) nv),aq (aw e nl'),aq (aw e n0)];exact e
  ·rw [aq nhd.symm,aq nvl];exact ae
  ·rintro i k v' σ H1 p hi ⟨hs,x,y,rfl,s1,hx1,hl1,hlen,hin⟩ np
   obtain⟨b,t,pl,e,e2,e3⟩:=he.good _ (DQ hi)
   cases e
   have ht:t<ps.length:=(DN.mp e2).1
   have npl:l≠p:=aw hl1 np
   refine⟨p,_,rfl,SqT.of ae,rfl,_,_,rfl,_,_,rfl,rfl,?_⟩
   refine⟨_,rfl,_,rfl,_,rfl,l,_,_,t,rfl,rfl,by rw[aq npl];exact hl1,?_,?_⟩
   ·unfold xH
    rw[if_pos (by omega),if_pos (by rw[DI];omega)]
    congr 1
   refine⟨hs.set t b,_,_,rfl,?_,?_,?_,by rw[FR];exact hlen,fun j b' t' hj hj'=>?_⟩
   ·intro c o hc e
    rw[aq (aw e nl'),aq (aw (s1 c o hc e) np)];exact s1 c o hc e
   ·rw [aq nhd,aq (aw hx1 np)];exact hx1
   ·rw [ae];congr 1;congr 1
    rw[List.map_set];rfl
   ·by_cases hji:j=i
    ·subst hji
     rw[hi]at hj'
     have z:=Option.some.inj hj'
     injection z with z1 z2
     have z1:=Sum.inl.inj z1
     injection z2 with z2
     have:t=t':=by omega
     subst this z1
     rw[FC (by omega)]
    ·have h1:=hin j b' t' (by omega) hj'
     have:t≠t':=fun z=>by
      subst z
      have nd:=he.vals
      have l1:j<kvs.length:=(DN.mp hj').1
      have l2:i<kvs.length:=(DN.mp hi).1
      rw[DJ l1]at hj'
      rw[DJ l2]at hi
      have e1:(kvs.map (·.2))[j]'(by simpa using l1)=(kvs.map (·.2))[i]'(by simpa using l2):=by simp[Option.some.inj hj',Option.some.inj hi]
      exact hji ((Fi nd).mp e1)
     rw[FL this];exact h1
  ·rintro σ H1 ⟨hs,x,y,rfl,s1,hx1,hl1,hlen,hin⟩
   refine⟨_,rfl,q l hs H1 s1 nl' hl1 (he.deal hlen fun b t m=>?_)⟩
   obtain⟨j,hj,ej⟩:=Ef.mp m
   exact hin j b t hj (by rw[DJ hj,ej])
def CV (H:Hp) (t:Addr) (ps:List (List Int)):Prop:=(∃(l:Addr) (hs:List Int),H t=some (.tup [.str "dealt",.ref l])/\H l=some (.lst (hs.map V.int))/\Deal ps hs)\/
 ∃(l:Addr) (qs:List Nat),H t=some (.tup [.str "short",.ref l])/\H l=some (.lst (qs.map fun(q:Nat)=>V.int (q:Int)))/\Short ps qs
def DE (H H':Hp) (t:Addr):Prop:=H t=none/\∀s l,H' t=some (.tup [.str s,.ref l])->H l=none
def tE (K:PySem.W.Frag):Sp:=fun vs H Q _=>∃(a:Addr) (rs:List Addr) (ps:List (List Int)) (U:List Int),vs=[.ref a]/\SqL K H a (rs.map V.ref)/\PoolsL K H rs ps/\ps.length<=6/\(∀p∈ps,∀b∈p,b∈U)/\U.length<=26/\
 ∀t H',Same H H'->DE H H' t->CV H' t ps->Q (.ref t) H'
theorem kj:FnScope ["pools","holders","place","asked"] ["pools"] (au rd):=⟨rfl,rfl,rfl,by decide +kernel,rfl,by decide +kernel,by decide +kernel⟩
theorem za (D:Dfs K mg aF dF) (T:Txt mg):FnOk P w K mg base aX 29 (aF 2) (dF 2) ["pools"] (tE K):=by
 have Gsettle:FnOk P w K mg base aX 28 (aF 3) (dF 3) ["pools","holders","place","asked"] (nE K):=u7 D T
 have Gshort_places:FnOk P w K mg base aX 1 (aF 4) (dF 4) ["holders","place","asked"] (fK K):=jY D T
 have Ghands_of:FnOk P w K mg base aX 1 (aF 5) (dF 5) ["holders","count"] (jG K):=pQ D T
 refine D.deal.fn.ok kj (fun vs H Q E h=>?_) (fun cdv A outer s H vs Q E hr h=>?_)
 ·obtain⟨a,rs,ps,U,rfl,_⟩:=h;rfl
 ·have hu:=aP hr
  obtain⟨a,rs,ps,U,rfl,hS,hP,h6,hU,hU26,q⟩:=h
  refine⟨_,(af (aA (i:=1) kj.nd rfl (Or.inl rfl) oS)
   (af (aY PassesOwn.never rfl (aM rfl T.z_range (aa (ak (bw K) (by rfl) T.z_len boot_len (aa (pv 0) ab)) ab)) (ao (i:=2) kj.nd rfl (Or.inl rfl))
    (af (aA (i:=3) kj.nd rfl (Or.inl rfl) oS)
    (ag (aK (cw (bC (pc D.settle Gsettle (hr.mono (by decide)) (aa (pv 0) (aa (pv 1) (aa (pv 2) (aa (pv 3) ab)))))))
     (ag (av (cy (aa a7 (aa (pc D.short_places Gshort_places (hr.mono (by decide)) (aa (pv 1) (aa (pv 2) (aa (pv 3) ab)))) ab)))))
     aC))))
   (ag (av (cy (aa a7 (aa (pc D.hands_of Ghands_of (hr.mono (by decide)) (aa (pv 1) (aa (ak (bw K) (by rfl) T.z_len boot_len (aa (pv 0) ab)) ab))) ab))))))),?_⟩
  intro hd nh
  have hl:rs.length=ps.length:=Paired.length hP
  refine⟨_,rfl,_,_,rfl,.inl ⟨_,(Same.new nh).seq hS,rfl⟩,_,rfl,eQ _,by rw[DI];omega,?_⟩
  rw[DI,hl]
  have e0:((ps.length:Int)).toNat=ps.length:=by omega
  rw[e0]
  refine cE (n:=ps.length) (fun i σ H1=>∃(kvs:HK) (x y:Option V),σ=[some (.ref a),some (.ref hd),x,y]/\Same H H1/\H1 hd=some (.dK kvs)/\Held ps kvs i) ⟨[],none,none,rfl,Same.new nh,ae,Held.start⟩ ?_ ?_
  ·rintro i σ H1 hi ⟨kvs,x,y,rfl,s1,hH1,he⟩
   intro ad na
   have hne:hd≠ad:=aw hH1 na
   have na':H ad=none:=s1.free na
   refine⟨_,rfl,_,rfl,_,rfl,_,rfl,?_⟩
   have ei:(0:Int)+(i:Int)=(i:Int):=by omega
   rw[ei]
   have s2:Same H (aE H1 ad (.dK [])):=s1.to na
   have hH2:aE H1 ad (.dK []) hd=some (.dK kvs):=by rw[aq hne];exact hH1
   refine⟨a,hd,ad,rs,ps,U,i,kvs,[],rfl,s2.seq hS,hP.same s2,hi,hU,by omega,hH2,ae,hne,he.nd,he.good,FY,(fun _ h=>by cases h),?_,?_⟩
   ·have:=Et (fun c=>decide (c∉([]:List Int))) U
    omega
   intro ok kvs' as' H3 st s3 hH3 hA3
   have fr:∀b o,H b=some o->b∉[hd,ad]:=fun b o e m=>by
    simp only[Ed,EM,or_false]at m
    rcases m with z | z
    ·rw [z,nh]at e;cases e
    ·rw [z,na']at e;cases e
   have s4:Same H H3:=fun b o e=>s3 b o (fr b o e) (s2 b o e)
   refine⟨ok,rfl,?_⟩
   cases ok with
   | true=>exact a9 ⟨kvs',_,_,rfl,s4,hH3,he.next st⟩
   | false=>
    obtain⟨e,h1,h2⟩:=st.no rfl
    subst e
    refine cb ?_
    refine⟨_,rfl,_,rfl,_,rfl,?_⟩
    have al:as'.length<=U.length:=st.nd.length_le_of_subset st.sub
    refine⟨hd,ad,i,kvs',as',rfl,hH3,hA3,hne,by omega,fun b hb=>?_,fun l ms H4 s5 nl hl4 hp hs=>?_⟩
    ·obtain⟨t,_,e,_⟩:=h2 b hb (by simp)
     exact⟨t,e⟩
    obtain⟨qs,eq,sh⟩:=he.short hi st hp hs
    have s6:Same H H4:=fun b o e=>s5 b o (fun m=>fr b o e (Ea _ m)) (s4 b o e)
    refine⟨cI,fun t nt=>q t _ (s6.to nt) ⟨s6.free nt,fun s l' e=>?_⟩ (.inr ⟨l,qs,ae,?_,sh⟩)⟩
    ·rw [ae]at e
     cases e
     exact s4.free nl
    ·rw [aq (aw hl4 nt),hl4,eq,Eu];rfl
  ·rintro σ H1 ⟨kvs,x,y,rfl,s1,hH1,he⟩
   refine⟨_,rfl,_,rfl,_,_,rfl,.inl ⟨_,s1.seq hS,rfl⟩,?_⟩
   rw[DI,hl]
   refine⟨hd,ps,kvs,rfl,hH1,by omega,he,fun l hs H2 s2 nl hl2 dl=>?_⟩
   have s6:Same H H2:=fun b o e=>s2 b o (fun m=>by
    rw[DV.mp m,nh]at e
    cases e) (s1 b o e)
   refine⟨cI,fun t nt=>q t _ (s6.to nt) ⟨s6.free nt,fun s l' e=>?_⟩ (.inl ⟨l,hs,ae,?_,dl⟩)⟩
   ·rw [ae]at e
    cases e
    exact s1.free nl
   ·rw [aq (aw hl2 nt)];exact hl2
def lV (K:PySem.W.Frag):Sp:=fun vs H Q _=>∃(a:Addr) (ps:List Int),vs=[.ref a]/\SqL K H a (ps.map V.int)/\ps.length<=6/\∀H',Same H H'->Q (.int (((dd ps).length:Nat):Int)) H'
theorem xA:FnScope ["pattern"] ["pattern"] (au om):=⟨rfl,rfl,rfl,by decide +kernel,rfl,by decide +kernel,by decide +kernel⟩
theorem pR (D:Dfs K mg aF dF) (T:Txt mg):FnOk P w K mg base aX 1 (aF 6) (dF 6) ["pattern"] (lV K):=by
 refine D.width.fn.ok xA (fun vs H Q E h=>?_) (fun cdv A outer s H vs Q E hr h=>?_)
 ·obtain⟨a,ps,rfl,_⟩:=h;rfl
 ·have hu:=aP hr
  obtain⟨a,ps,rfl,ha,h6,q⟩:=h
  refine⟨_,(ag (av (ak (o8 w) (by rfl) T.z_len boot_len (aa (aI (nU w K) (by rfl) T.z_set PyProof.Rows.boot_set (aa (pv 0) ab)) ab)))),?_⟩
  exact⟨_,rfl,a,ps,rfl,ha,by omega,fun S nS=>⟨S,_,rfl,ae,q _ (Same.new nS)⟩⟩
def pU (K:PySem.W.Frag):Sp:=fun vs H Q _=>∃(a:Addr) (ps:List Int),vs=[.ref a]/\H a=some (.lst (ps.map V.int))/\ps.length<=6/\
 ∀l (rs:List Addr) H',Same H H'->H l=none->H' l=some (.lst (rs.map V.ref))->rs.length=(dd ps).length+1->(∀(i:Nat) r,rs[i]?=some r->H' r=some (.lst ((ps++[(i:Int)]).map V.int))/\H r=none)->Q (.ref l) H'
theorem xB:FnScope ["pattern"] ["pattern"] (au oo):=⟨rfl,rfl,rfl,by decide +kernel,rfl,by decide +kernel,by decide +kernel⟩
theorem xC (D:Dfs K mg aF dF) (T:Txt mg):FnOk P w K mg base aX 2 (aF 7) (dF 7) ["pattern"] (pU K):=by
 have Gwidth:FnOk P w K mg base aX 1 (aF 6) (dF 6) ["pattern"] (lV K):=pR D T
 refine D.grown.fn.ok xB (fun vs H Q E h=>?_) (fun cdv A outer s H vs Q E hr h=>?_)
 ·obtain⟨a,ps,rfl,_⟩:=h;rfl
 ·have hu:=aP hr
  obtain⟨a,ps,rfl,ha,h6,q⟩:=h
  refine⟨_,(ag (av (aJ ["number","pattern"] [none,some 0] rfl (aM rfl T.z_range (aa (aB b5 (pc D.width Gwidth (hr.mono (by decide)) (aa (pv 0) ab)) aj) ab)) (fun _=>ao (i:=0) (aL (N:=["number","pattern"]) (by decide +kernel)) rfl (Or.inl rfl)) (fun _=>bA) (fun _=>(aB eF (pv 1) (aG (aa (pv 0) ab)))) ((.cons (fun _ e=>by cases e) (.cons (fun _ e=>by cases e;exact⟨rfl,rfl⟩) .nil)))))),?_⟩
  refine⟨_,rfl,a,ps,rfl,SqL.of ha,h6,fun H1 s1=>?_⟩
  have dl:=dk ps
  refine⟨_,_,rfl,rfl,_,rfl,eQ _,by omega,?_⟩
  have e0:(((dd ps).length:Int)+1).toNat=(dd ps).length+1:=by omega
  rw[e0]
  refine jx (n:=(dd ps).length+1) (fun i=>(ps++[(i:Int)]).map V.int) (by omega) (fun i hi H2 R s2 k=>?_) fun acc rs H2 s2 nacc hacc hrs hall hne=>?_
  ·have ei:(0:Int)+(i:Int)=((i:Nat):Int):=by omega
   rw[ei]
   refine⟨_,rfl,_,rfl,cI,fun p np=>?_⟩
   have ha2:=(s1.trans s2) _ _ ha
   refine⟨a,p,_,_,rfl,rfl,Same.new np _ _ ha2,ae,by rw[DI];exact r9 (by simp;omega),fun r nr=>?_⟩
   have e:ps.map V.int++[V.int ((i:Nat):Int)]=(ps++[(i:Int)]).map V.int:=by rw[DY];rfl
   rw[e]
   exact k r _ ((Same.new np).to nr) ((Same.new np).free nr) ae
  ·exact q acc rs H2 (s1.trans s2) (s1.free nacc) hacc hrs fun i r hr=>⟨(hall i r hr).1,s1.free (hall i r hr).2⟩
def nG (K:PySem.W.Frag):Sp:=fun vs H Q _=>∃(a t:Addr) (hs:List Int) (st:List Nat),vs=[.ref a,.ref t]/\SqL K H a (hs.map V.int)/\(SqL K H t (st.map fun(i:Nat)=>V.int (i:Int))\/SqT K H t (st.map fun(i:Nat)=>V.int (i:Int)))/\(∀i∈st,i<hs.length)/\st.length<=6/\
 ∀H',Same H H'->Q (.int ((gB (fun i=>hs.getD i 0) st:Nat):Int)) H'
theorem u9:FnScope ["row","steps"] ["row","steps"] (au lQ):=⟨rfl,rfl,rfl,by decide +kernel,rfl,by decide +kernel,by decide +kernel⟩
theorem va (D:Dfs K mg aF dF) (T:Txt mg):FnOk P w K mg base aX 1 (aF 10) (dF 10) ["row","steps"] (nG K):=by
 refine D.unlike.fn.ok u9 (fun vs H Q E h=>?_) (fun cdv A outer s H vs Q E hr h=>?_)
 ·obtain⟨a,t,hs,st,rfl,_⟩:=h;rfl
 ·have hu:=aP hr
  obtain⟨a,t,hs,st,rfl,ha,ht,hlt,h6,q⟩:=h
  refine⟨_,(ag (av (ak (o8 w) (by rfl) T.z_len boot_len (aa (aI (nU w K) (by rfl) T.z_set PyProof.Rows.boot_set (aa (aJ ["step","row"] [none,some 0] rfl (Di K (pv 1)) (fun _=>ao (i:=0) (aL (N:=["step","row"]) (by decide +kernel)) rfl (Or.inl rfl)) (fun _=>bA) (fun _=>(az (dO K) (pv 1) (pv 0) (fun _ _=>rfl))) ((.cons (fun _ e=>by cases e) (.cons (fun _ e=>by cases e;exact⟨rfl,rfl⟩) .nil)))) ab)) ab)))),?_⟩
  have fin:∀acc H2,Same H H2->H2 acc=some (.lst ((st.map fun i=>hs.getD i 0).map V.int))->∀S,H2 S=none->Q (.int ((gB (fun i=>hs.getD i 0) st:Nat):Int)) (aE H2 S (.ext (SX w S (dd (st.map fun i=>hs.getD i 0))))):=fun acc H2 s2 _ S nS=>q _ (s2.to nS)
  refine⟨_,rfl,t,rfl,?_⟩
  rcases ht with ht | ht
  ·refine .inl ⟨⟨_,ht⟩,bL (xs:=st.map fun(i:Nat)=>V.int (i:Int)) (fun _=>true) (fun j=> .int (hs.getD (st.getD j 0) 0)) ht (by rw[DI];omega) (fun _ _ _ _ _ _ k=>k _ (Same.refl _)) (fun j x hx _ H2 R s2 k=>?_) fun acc H2 s2 nacc hacc=>?_⟩
   ·obtain⟨d,hd,rfl,ed⟩:=dt hx
    rw[ed]at k
    exact⟨_,rfl,_,rfl,a,_,_,_,rfl,rfl,s2.seq ha,bf (hlt d (DQ hd)),k _ (Same.refl _)⟩
   rw[nZ]at hacc
   exact⟨acc,st.map fun i=>hs.getD i 0,rfl,SqL.of hacc,by rw[DI];omega,fun S nS=>⟨S,_,rfl,ae,fin acc H2 s2 hacc S nS⟩⟩
  ·refine .inr ⟨⟨_,ht⟩,iN (xs:=st.map fun(i:Nat)=>V.int (i:Int)) (fun _=>true) (fun j=> .int (hs.getD (st.getD j 0) 0)) ht (by rw[DI];omega) (fun _ _ _ _ _ _ k=>k _ (Same.refl _)) (fun j x hx _ H2 R s2 k=>?_) fun acc H2 s2 nacc hacc=>?_⟩
   ·obtain⟨d,hd,rfl,ed⟩:=dt hx
    rw[ed]at k
    exact⟨_,rfl,_,rfl,a,_,_,_,rfl,rfl,s2.seq ha,bf (hlt d (DQ hd)),k _ (Same.refl _)⟩
   rw[nZ]at hacc
   exact⟨acc,st.map fun i=>hs.getD i 0,rfl,SqL.of hacc,by rw[DI];omega,fun S nS=>⟨S,_,rfl,ae,fin acc H2 s2 hacc S nS⟩⟩
def jr (K:PySem.W.Frag):Sp:=fun vs H Q _=>∃(a tp t:Addr) (hs:List Int) (st:List Nat) (wd:Str) (k:Int),vs=[.ref a,.ref tp]/\SqL K H a (hs.map V.int)/\SqT K H tp [.str wd,.int k,.ref t]/\SqT K H t (st.map fun(i:Nat)=>V.int (i:Int))/\(wd="most"\/wd="least")/\st.length<=6/\
 ∀H',Same H H'->Q (.bl (brk (fun i=>hs.getD i 0) hs.length wd k st)) H'
theorem jt:FnScope ["pattern","tie","steps","numbers_there"] ["pattern","tie"] (au lP):=⟨rfl,rfl,rfl,by decide +kernel,rfl,by decide +kernel,by decide +kernel⟩
theorem vb (D:Dfs K mg aF dF) (T:Txt mg):FnOk P w K mg base aX 2 (aF 8) (dF 8) ["pattern","tie"] (jr K):=by
 have Gunlike:FnOk P w K mg base aX 1 (aF 10) (dF 10) ["row","steps"] (nG K):=va D T
 refine D.breaks.fn.ok jt (fun vs H Q E h=>?_) (fun cdv A outer s H vs Q E hr h=>?_)
 ·obtain⟨a,tp,t,hs,st,wd,k,rfl,_⟩:=h;rfl
 ·have hu:=aP hr
  obtain⟨a,tp,t,hs,st,wd,k,rfl,ha,htp,ht,hwd,h6,q⟩:=h
  refine⟨_,(af (e8 (i₀:=2) jt.nd rfl (Or.inl rfl) ["step","pattern"] [none,some 0] rfl (B7 K (az (e9 K) (pv 1) aj (fun _ _=>rfl))) (fun _=>ao (i:=0) (aL (N:=["step","pattern"]) (by decide +kernel)) rfl (Or.inl rfl)) (fun _=>bU (ax gM (pv 0) (ak (bw K) (by rfl) T.z_len boot_len (aa (pv 1) ab)) (ay _))) (fun _=>(pv 0)) ((.cons (fun _ e=>by cases e) (.cons (fun _ e=>by cases e;exact⟨rfl,rfl⟩) .nil))))
   (af (aA (i:=3) jt.nd rfl (Or.inl rfl) (pc D.unlike Gunlike (hr.mono (by decide)) (aa (pv 0) (aa (pv 2) ab))))
   (af (aK (ax cL (az (e9 K) (pv 1) aj (fun _ _=>rfl)) a7 (ay _))
    (ag (av (b4 rL (pv 3) (az (e9 K) (pv 1) aj (fun _ _=>rfl)) (ay _))))
    aC)
   (ag (av (b4 gM (aB zT (aB b5 (pv 3) (ak (bw K) (by rfl) T.z_len boot_len (aa (az (e9 K) (pv 1) aj (fun _ _=>rfl)) ab))) (ak (bw K) (by rfl) T.z_len boot_len (aa (pv 2) ab))) (az (e9 K) (pv 1) aj (fun _ _=>rfl)) (ay _))))))),?_⟩
  refine⟨_,rfl,tp,_,_,_,rfl,rfl,htp,rfl,t,rfl,⟨_,ht⟩,?_⟩
  refine iN (xs:=st.map fun(i:Nat)=>V.int (i:Int)) (fun j=>decide (st.getD j 0<hs.length)) (fun j=> .int ((st.getD j 0:Nat):Int)) ht (by rw[DI];omega) (fun j x hx H2 R s2 k=>?_) (fun j x hx hp H2 R s2 k=>?_) fun acc H2 s2 nacc hacc=>?_
  ·obtain⟨d,hd,rfl,ed⟩:=dt hx
   rw[ed]at k
   refine⟨_,rfl,_,rfl,_,_,rfl,.inl ⟨_,s2.seq ha,rfl⟩,_,_,rfl,rfl,_,rfl,?_⟩
   have kk:=k H2 (Same.refl _)
   rw[As]at kk
   rw[DI]
   exact kk
  ·obtain⟨d,hd,rfl,ed⟩:=dt hx
   rw[ed]at k
   exact⟨_,rfl,k _ (Same.refl _)⟩
  rw[DI,CM (g:=fun i=>decide (i<hs.length)) (F:=fun(i:Nat)=>V.int (i:Int))]at hacc
  have fl:(st.filter fun i=>decide (i<hs.length)).length<=st.length:=Et ..
  refine⟨_,rfl,_,rfl,a,acc,hs,st.filter fun i=>decide (i<hs.length),rfl,s2.seq ha,.inl (SqL.of hacc),(fun i hi=>of_decide_eq_true (Ej.mp hi).2),by omega,fun H3 s23=>?_⟩
  have s3:=s2.trans s23
  have hacc3:=s23 _ _ hacc
  have q3:=q H3 s3
  refine⟨_,rfl,tp,_,_,_,rfl,rfl,Same.seqT s3 htp,rfl,rfl,_,rfl,?_⟩
  unfold brk at q3
  rcases hwd with e | e<;>subst e
  ·refine cb ?_
   rw[if_pos rfl]at q3
   exact⟨_,rfl,_,rfl,tp,_,_,_,rfl,rfl,Same.seqT s3 htp,rfl,_,_,rfl,rfl,q3⟩
  ·rw [decide_eq_false (by decide)]
   refine a9 ?_
   rw[if_neg (by decide)]at q3
   refine⟨_,rfl,_,rfl,tp,_,_,_,rfl,rfl,Same.seqT s3 htp,rfl,_,_,rfl,.inr ⟨_,Same.seqT s3 ht,rfl⟩,_,_,rfl,rfl,_,rfl,_,_,rfl,.inl ⟨_,SqL.of hacc3,rfl⟩,_,_,rfl,rfl,_,rfl,tp,_,_,_,rfl,rfl,Same.seqT s3 htp,rfl,_,_,rfl,rfl,?_⟩
   rw[DI,DI]
   exact q3
def fL (K:PySem.W.Frag):Sp:=fun vs H Q _=>∃(a b:Addr) (hs:List Int) (ts:List (Addr×Addr×Str×Int×List Nat)),vs=[.ref a,.ref b]/\SqL K H a (hs.map V.int)/\Ties K H b ts 100/\∀H',Same H H'->Q (BG (mz (fun i=>hs.getD i 0) hs.length ts)) H'
theorem fM:FnScope ["pattern","ties","place"] ["pattern","ties"] (au dH):=⟨rfl,rfl,rfl,by decide +kernel,rfl,by decide +kernel,by decide +kernel⟩
theorem jZ (D:Dfs K mg aF dF) (T:Txt mg):FnOk P w K mg base aX 3 (aF 9) (dF 9) ["pattern","ties"] (fL K):=by
 have Gbreaks:FnOk P w K mg base aX 2 (aF 8) (dF 8) ["pattern","tie"] (jr K):=vb D T
 refine D.first_broken.fn.ok fM (fun vs H Q E h=>?_) (fun cdv A outer s H vs Q E hr h=>?_)
 ·obtain⟨a,b,hs,ts,rfl,_⟩:=h;rfl
 ·have hu:=aP hr
  obtain⟨a,b,hs,ts,rfl,ha,tt,q⟩:=h
  refine⟨_,(af (aY PassesOwn.never rfl (aM rfl T.z_range (aa (ak (bw K) (by rfl) T.z_len boot_len (aa (pv 1) ab)) ab)) (ao (i:=2) fM.nd rfl (Or.inl rfl))
    (ag (aK (bC (pc D.breaks Gbreaks (hr.mono (by decide)) (aa (pv 0) (aa (az (dO K) (pv 1) (pv 2) (fun _ _=>rfl)) ab))))
     (ag (av (pv 2)))
     aC)))
   (ag (av cK))),?_⟩
  have ln:=tt.ln
  have sl:(ts.map fun x=>V.ref x.1).length=ts.length:=by rw[DI]
  refine⟨_,rfl,_,_,rfl,.inl ⟨_,tt.ls,rfl⟩,_,rfl,eQ _,by omega,?_⟩
  have e0:(((ts.map fun x=>V.ref x.1).length:Nat):Int).toNat=ts.length:=by omega
  rw[e0]
  refine cE (n:=ts.length) (fun i σ H1=>∃x:Option V,σ=[some (.ref a),some (.ref b),x]/\Same H H1/\∀j,j<i->∀x,ts[j]?=some x->brk (fun i=>hs.getD i 0) hs.length x.2.2.1 x.2.2.2.1 x.2.2.2.2=false) ⟨none,rfl,Same.refl _,fun j h=>by omega⟩ ?_ ?_
  ·rintro i σ H1 hi ⟨x,rfl,s1,no⟩
   have ei:(0:Int)+(i:Int)=((i:Nat):Int):=by omega
   rw[ei]
   have gi:ts[i]?=some ts[i]:=DJ hi
   have te:=tt.ea _ (El hi)
   refine⟨_,rfl,_,rfl,_,rfl,b,_,_,_,rfl,rfl,s1.seq tt.ls,b9 (by rw[DM,gi];rfl),a,ts[i].1,ts[i].2.1,hs,ts[i].2.2.2.2,ts[i].2.2.1,ts[i].2.2.2.1,rfl,s1.seq ha,SqT.of (s1 _ _ te.tp),SqT.of (s1 _ _ te.ts),te.wd,te.sl,fun H2 s2=>⟨_,rfl,?_⟩⟩
   refine By (fun hb=>?_) fun hb=>?_
   ·have e:mz (fun i=>hs.getD i 0) hs.length ts=some i:=by
     unfold mz
     rw[Ft]
     exact⟨hi,hb,fun j hj=>by
      have:=no j hj _ (DJ (by omega))
      simpa using this⟩
    have qq:=q H2 (s1.trans s2)
    rw[e]at qq
    exact⟨_,rfl,qq⟩
   ·refine⟨_,rfl,s1.trans s2,fun j hj x hx=>?_⟩
    by_cases z:j=i
    ·subst z
     rw[gi]at hx
     cases hx
     exact hb
    ·exact no j (by omega) x hx
  ·rintro σ H1 ⟨x,rfl,s1,no⟩
   have e:mz (fun i=>hs.getD i 0) hs.length ts=none:=by
    unfold mz
    rw[Gd]
    intro x hx
    obtain⟨j,hj,ej⟩:=Ef.mp hx
    exact no j hj x (by rw[DJ hj,ej])
   have qq:=q H1 s1
   rw[e]at qq
   exact qq
def lW (K:PySem.W.Frag):Sp:=fun vs H Q _=>∃(b:Nat) (pa ma:Addr) (p:List Int) (rs:List Addr) (may:List (List Int)) (U:List Int),vs=[.int ((b:Nat):Int),.ref pa,.ref ma]/\SqL K H pa (p.map V.int)/\May K H ma rs may U/\cA p/\b<(dd p).length/\p.length<=may.length/\
 ∀l H',Same H H'->H l=none->H' l=some (.lst ((fT may p b).map V.int))->Q (.ref l) H'
theorem dM:FnScope ["block","pattern","may","steps","step","pool"] ["block","pattern","may"] (au jk):=⟨rfl,rfl,rfl,by decide +kernel,rfl,by decide +kernel,by decide +kernel⟩
theorem rq (D:Dfs K mg aF dF) (T:Txt mg):FnOk P w K mg base aX 2 (aF 12) (dF 12) ["block","pattern","may"] (lW K):=by
 have Gcommon:FnOk P w K mg base aX 1 (aF 0) (dF 0) ["one","other"] (nC K):=u5 D T
 refine D.pool_of.fn.ok dM (fun vs H Q E h=>?_) (fun cdv A outer s H vs Q E hr h=>?_)
 ·obtain⟨b,pa,ma,p,rs,may,U,rfl,_⟩:=h;rfl
 ·have hu:=aP hr
  obtain⟨b,pa,ma,p,rs,may,U,rfl,hp,hm,c,hb,hl,q⟩:=h
  refine⟨_,(af (e8 (i₀:=3) dM.nd rfl (Or.inl rfl) ["step","pattern","block"] [none,some 1,some 0] rfl (aM rfl T.z_range (aa (ak (bw K) (by rfl) T.z_len boot_len (aa (pv 1) ab)) ab)) (fun _=>ao (i:=0) (aL (N:=["step","pattern","block"]) (by decide +kernel)) rfl (Or.inl rfl)) (fun _=>bU (ax cL (az (dO K) (pv 1) (pv 0) (fun _ _=>rfl)) (pv 2) (ay _))) (fun _=>(pv 0)) ((.cons (fun _ e=>by cases e) (.cons (fun _ e=>by cases e;exact⟨rfl,rfl⟩) (.cons (fun _ e=>by cases e;exact⟨rfl,rfl⟩) .nil)))))
   (af (aA (i:=5) dM.nd rfl (Or.inl rfl) (aI (eM K) (by rfl) T.z_list boot_list (aa (az (dO K) (pv 2) (az (dO K) (pv 3) aj (fun _ _=>rfl)) (fun _ _=>rfl)) ab)))
   (af (aY PassesOwn.never rfl (gZ K (kG (CJ K) (pv 3) (j7 aj) rN)) (ao (i:=4) dM.nd rfl (Or.inl rfl))
    (ag (aA (i:=5) dM.nd rfl (Or.inl rfl) (pc D.common Gcommon (hr.mono (by decide)) (aa (pv 5) (aa (az (dO K) (pv 2) (pv 4) (fun _ _=>rfl)) ab))))))
   (ag (av (pv 5)))))),?_⟩
  have m6:=hm.m6
  refine⟨_,rfl,_,_,rfl,.inl ⟨_,hp,rfl⟩,_,rfl,eQ _,by rw[DI];omega,?_⟩
  have e0:(((p.map V.int).length:Nat):Int).toNat=p.length:=by rw[DI];omega
  rw[e0]
  refine cW (n:=p.length) (fun i=>decide (p.getD i 0=(b:Int))) (by omega) (fun i hi H3 R s3 k=>?_) (fun i hi H3 R k=>?_) fun sl H3 s3 nsl hsl=>?_
  ·have ei:(0:Int)+(i:Int)=((i:Nat):Int):=by omega
   rw[ei]
   have kk:=k H3 (Same.refl _)
   rw[wx]at kk
   exact⟨_,rfl,_,rfl,pa,_,_,_,rfl,rfl,s3.seq hp,bf hi,_,rfl,rfl,_,rfl,kk⟩
  ·have ei:(0:Int)+(i:Int)=((i:Nat):Int):=by omega
   rw[ei]
   exact⟨_,rfl,k⟩
  have sne:fg p b≠[]:=ke c hb
  have slt:∀i∈fg p b,i<may.length:=fun i hi=>by have:=(dC.mp hi).1;omega
  have hsl:H3 sl=some (.lst ((fg p b).map fun(i:Nat)=>V.int (i:Int))):=hsl
  have q2:∀l H',Same H3 H'->H3 l=none->H' l=some (.lst ((dS (fg p b) may).map V.int))->Q (.ref l) H':=fun l H' s n e=>q l H' (s3.trans s) (s3.free n) e
  have s6:(fg p b).length<=6:=by
   have:=Et (fun i=>decide (p.getD i 0=(b:Int))) (DR p.length)
   rw[Ew]at this
   show((DR p.length).filter fun i=>decide (p.getD i 0=(b:Int))).length<=6
   omega
  have hm3:=hm.same s3
  clear q
  generalize fg p b=st at hsl sne slt q2 s6
  obtain⟨s0,sr,rfl⟩:=List.exists_cons_of_ne_nil sne
  obtain⟨r0,hr0,hq0,up0,sub0⟩:=hm3.rows (slt s0 (by simp))
  refine⟨_,rfl,_,rfl,sl,_,_,_,rfl,rfl,SqL.of hsl,b9 (j:=0) (v:=V.int (s0:Int)) rfl,ma,_,_,_,rfl,rfl,hm3.ls,b9 (by rw[DM,hr0];rfl),r0,_,rfl,.inl hq0,fun l nl=>?_⟩
  have cf:i8 (((s0 :: sr).map fun(i:Nat)=>V.int (i:Int))) (some (1:Int)) none=sr.map fun(i:Nat)=>V.int (i:Int):=vQ _ 1
  refine⟨_,rfl,_,rfl,sl,_,rfl,SqL.of (Same.new nl _ _ hsl),fun cc ncc=>?_⟩
  have s34:=(Same.new (o:= .lst ((may.getD s0 []).map V.int)) nl).to (o:= .lst (sr.map fun(i:Nat)=>V.int (i:Int))) ncc
  have ncl:l≠cc:=fun z=>by rw[<- z,ae]at ncc;cases ncc
  have hl4:aE (aE H3 l (.lst ((may.getD s0 []).map V.int))) cc (.lst (sr.map fun(i:Nat)=>V.int (i:Int))) l=some (.lst ((may.getD s0 []).map V.int)):=by rw[aq ncl];exact ae
  have hcc4:aE (aE H3 l (.lst ((may.getD s0 []).map V.int))) cc (.lst (sr.map fun(i:Nat)=>V.int (i:Int))) cc=some (.lst (sr.map fun(i:Nat)=>V.int (i:Int))):=ae
  rw[cf]
  generalize aE (aE H3 l (.lst ((may.getD s0 []).map V.int))) cc (.lst (sr.map fun(i:Nat)=>V.int (i:Int)))=H4 at s34 hl4 hcc4
  refine⟨cc,rfl,⟨_,SqL.of hcc4⟩,?_⟩
  refine be (K:=K) (a:=cc) (xs:=sr.map fun(i:Nat)=>V.int (i:Int)) (fun i σ H5=>∃(po:Addr) (x:Option V),σ=[some (.int ((b:Nat):Int)),some (.ref pa),some (.ref ma),some (.ref sl),x,some (.ref po)]/\Same H4 H5/\H3 po=none/\H5 po=some (.lst ((dS (s0 :: sr.take i) may).map V.int)))
   ⟨l,none,rfl,Same.refl _,nl,by rw[F8,uB];exact hl4⟩ (fun i σ H5 _ hq__=>by obtain⟨_,_,_,s,_⟩:=hq__;exact s.seq (SqL.of hcc4)) ?_ ?_
  ·rintro i y σ H5 hi ⟨po,x,rfl,s5,npo,hpo⟩
   obtain⟨d,hd,rfl,_⟩:=dt hi
   have hdl:=slt d (Ea _ (DQ hd))
   have hm5:=hm3.same (s34.trans s5)
   obtain⟨r1,hr1,hq1,up1,sub1⟩:=hm5.rows hdl
   refine⟨_,rfl,_,rfl,_,rfl,ma,_,_,_,rfl,rfl,hm5.ls,b9 (by rw[DM,hr1];rfl),po,r1,dS (s0 :: sr.take i) may,may.getD d [],U,rfl,⟨SqL.of hpo,hq1,kZ hm.up,up1,fun x hx=>sub0 x ((Ej.mp hx).1),sub1,by have:=hm.u20;omega⟩,fun l2 ks H6 ⟨t1,t2,t3,t4,t5⟩=>?_⟩
   refine⟨l2,_,rfl,s5.trans t1,(s34.trans s5).free t2,?_⟩
   have et:sr.take (i+1)=sr.take i++[d]:=by rw[FJ,hd];rfl
   have ek:ks=dS (s0 :: sr.take (i+1)) may:=by
    refine Ax t4 (kZ hm.up) fun x=>?_
    rw[t5 x,et,<- List.cons_append,qN (by simp)]
    exact Iff.rfl
   rw[<- ek]
   exact t3
  ·rintro σ H5 ⟨po,x,rfl,s5,npo,hpo⟩
   rw[DI,EL]at hpo
   exact⟨_,rfl,q2 po H5 (s34.trans s5) npo hpo⟩
def jH (K:PySem.W.Frag):Sp:=fun vs H Q _=>∃(pa ma:Addr) (p:List Int) (rs:List Addr) (may:List (List Int)) (U:List Int),vs=[.ref pa,.ref ma]/\SqL K H pa (p.map V.int)/\May K H ma rs may U/\cA p/\p.length<=may.length/\
 ∀l (ls:List Addr) H',Same H H'->H l=none->H' l=some (.lst (ls.map V.ref))->RowsL H' ls (pools may p)->(∀r∈ls,H r=none)->Q (.ref l) H'
theorem pV:FnScope ["pattern","may"] ["pattern","may"] (au ie):=⟨rfl,rfl,rfl,by decide +kernel,rfl,by decide +kernel,by decide +kernel⟩
theorem pW (D:Dfs K mg aF dF) (T:Txt mg):FnOk P w K mg base aX 3 (aF 11) (dF 11) ["pattern","may"] (jH K):=by
 have Gwidth:FnOk P w K mg base aX 1 (aF 6) (dF 6) ["pattern"] (lV K):=pR D T
 have Gpool_of:FnOk P w K mg base aX 2 (aF 12) (dF 12) ["block","pattern","may"] (lW K):=rq D T
 refine D.pools_of.fn.ok pV (fun vs H Q E h=>?_) (fun cdv A outer s H vs Q E hr h=>?_)
 ·obtain⟨pa,ma,p,rs,may,U,rfl,_⟩:=h;rfl
 ·have hu:=aP hr
  obtain⟨pa,ma,p,rs,may,U,rfl,hp,hm,c,hl,q⟩:=h
  refine⟨_,(ag (av (aJ ["block","pattern","may"] [none,some 0,some 1] rfl (aM rfl T.z_range (aa (pc D.width Gwidth (hr.mono (by decide)) (aa (pv 0) ab)) ab)) (fun _=>ao (i:=0) (aL (N:=["block","pattern","may"]) (by decide +kernel)) rfl (Or.inl rfl)) (fun _=>bA) (fun _=>(pc D.pool_of Gpool_of (hr.mono (by decide)) (aa (pv 0) (aa (pv 1) (aa (pv 2) ab))))) ((.cons (fun _ e=>by cases e) (.cons (fun _ e=>by cases e;exact⟨rfl,rfl⟩) (.cons (fun _ e=>by cases e;exact⟨rfl,rfl⟩) .nil))))))),?_⟩
  have m6:=hm.m6
  have dl:=dk p
  refine⟨_,rfl,pa,p,rfl,hp,by omega,fun H1 s1=>?_⟩
  refine⟨_,rfl,eQ _,by omega,?_⟩
  rw[Er]
  refine jx (n:=(dd p).length) (fun i=>(fT may p i).map V.int) (by omega) (fun i hi H2 R s2 k=>?_) fun acc ls H2 s2 nacc hacc hrs hall hne=>?_
  ·have ei:(0:Int)+(i:Int)=((i:Nat):Int):=by omega
   rw[ei]
   have s12:=s1.trans s2
   exact⟨_,rfl,_,rfl,_,rfl,i,pa,ma,p,rs,may,U,rfl,s12.seq hp,hm.same s12,c,hi,hl,fun r H3 s3 nr hr=>k r H3 s3 nr hr⟩
  ·refine q acc ls H2 (s1.trans s2) (s1.free nacc) hacc (RowsL.of (by rw[hrs,cG]) fun i r p' e1 e2=>?_) fun r hr=>?_
   ·have hi:i<(dd p).length:=by rw[<- hrs];exact(DN.mp e1).1
    rw[eP hi]at e2
    cases e2
    exact(hall i r e1).1
   ·obtain⟨i,hi,ei⟩:=Ef.mp hr
    exact s1.free (hall i r (by rw[DJ hi,ei])).2
def eI (K:PySem.W.Frag) (m:Nat):Sp:=fun vs H Q _=>∃(pa ma ta:Addr) (p:List Int) (rs:List Addr) (may:List (List Int)) (U:List Int) (ts:List (Addr×Addr×Str×Int×List Nat)),vs=[.ref pa,.ref ma,.ref ta]/\H pa=some (.lst (p.map V.int))/\May K H ma rs may U/\Ties K H ta ts 100/\(∀x∈ts,TieG may.length x)/\cA p/\p.length<=may.length/\may.length<p.length+m/\
 ∀t H',Same H H'->zB H H' t may (ts.map dU) p->Q (.ref t) H'
def iW (K:PySem.W.Frag):Sp:=eI K 7
theorem ck:FnScope ["pattern","may","ties","broken","dealt","papers","longer","told"] ["pattern","may","ties"] (au fW):=⟨rfl,rfl,rfl,by decide +kernel,rfl,by decide +kernel,by decide +kernel⟩
theorem ot (D:Dfs K mg aF dF) (T:Txt mg):FnOk P w K mg base aX 37 (aF 14) (dF 14) ["pattern","may","ties"] (iW K):=by
 have Gdeal:FnOk P w K mg base aX 29 (aF 2) (dF 2) ["pools"] (tE K):=za D T
 have Ggrown:FnOk P w K mg base aX 2 (aF 7) (dF 7) ["pattern"] (pU K):=xC D T
 have Gfirst_broken:FnOk P w K mg base aX 3 (aF 9) (dF 9) ["pattern","ties"] (fL K):=jZ D T
 have Gpools_of:FnOk P w K mg base aX 3 (aF 11) (dF 11) ["pattern","may"] (jH K):=pW D T
 have all:∀n,FnOk P w K mg base aX (30+n) (aF 14) (dF 14) ["pattern","may","ties"] (eI K n):=by
  intro n
  induction n with
  | zero=>
   have no:∀vs H Q E,¬eI K 0 vs H Q E:=fun vs H Q E h=>by
    obtain⟨pa,ma,ta,p,rs,may,U,ts,_,_,_,_,_,_,h1,h2,_⟩:=h
    omega
   exact⟨fun vs H Q E h=>absurd h (no vs H Q E),fun A outer s H args us vs Q E _ _ _ _ h=>absurd h (no vs H Q E)⟩
  | succ n Gplan_from=>
   refine D.plan_from.fn.ok ck (fun vs H Q E h=>?_) (fun cdv A outer s H vs Q E hr h=>?_)
   ·obtain⟨pa,ma,ta,p,rs,may,U,ts,rfl,_⟩:=h;rfl
   obtain⟨pa,ma,ta,p,rs,may,U,ts,rfl,hpa,hm,tt,tg,c,hl,hlm,q⟩:=h
   have rk:Nat.add 30 n=30+n:=rfl
   refine⟨_,(af (aA (i:=3) ck.nd rfl (Or.inl rfl) (pc D.first_broken Gfirst_broken (hr.mono (by have:=rk;omega)) (aa (pv 0) (aa (pv 2) ab))))
   (af (aK (ax eY (pv 3) cK (ay _))
    (ag (av (cy (aa a7 (aa (cy (aa a7 (aa (pv 3) ab))) ab)))))
    aC)
   (af (aA (i:=4) ck.nd rfl (Or.inr rfl) (pc D.deal Gdeal (hr.mono (by have:=rk;omega)) (aa (pc D.pools_of Gpools_of (hr.mono (by have:=rk;omega)) (aa (pv 0) (aa (pv 1) ab))) ab)))
   (af (aK (ax cL (az (e9 K) (pv 4) aj (fun _ _=>rfl)) a7 (ay _))
    (ag (av (cy (aa a7 (aa (cy (aa a7 (aa (az (e9 K) (pv 4) aj (fun _ _=>rfl)) ab))) ab)))))
    aC)
   (af (aK (ax cL (ak (bw K) (by rfl) T.z_len boot_len (aa (pv 0) ab)) (ak (bw K) (by rfl) T.z_len boot_len (aa (pv 1) ab)) (ay _))
    (ag (av (cy (aa a7 (aa (aJ ["block","dealt"] [none,some 4] rfl (gZ K (pv 0)) (fun _=>ao (i:=0) (aL (N:=["block","dealt"]) (by decide +kernel)) rfl (Or.inl rfl)) (fun _=>bA) (fun _=>(az (dO K) (az (e9 K) (pv 1) aj (fun _ _=>rfl)) (pv 0) (fun _ _=>rfl))) ((.cons (fun _ e=>by cases e) (.cons (fun _ e=>by cases e;exact⟨rfl,rfl⟩) .nil)))) ab)))))
    aC)
   (af (aA (i:=5) ck.nd rfl (Or.inl rfl) (aG ab))
   (af (aY PassesOwn.never rfl (gZ K (pc D.grown Ggrown (hr.mono (by have:=rk;omega)) (aa (pv 0) ab))) (ao (i:=6) ck.nd rfl (Or.inl rfl))
    (af (aA (i:=7) ck.nd rfl (Or.inl rfl) (pc D.plan_from Gplan_from hr (aa (pv 6) (aa (pv 1) (aa (pv 2) ab)))))
    (af (aK (ax cL (az (e9 K) (pv 7) aj (fun _ _=>rfl)) a7 (ay _))
     (ag (av (pv 7)))
     aC)
    (ag (bZ (dP PySem.F.plainAttrs_list PySem.F.slot_list_append PySem.F.type_list_append a8 (pv 5) (aa (az (e9 K) (pv 7) aj (fun _ _=>rfl)) ab)))))))
   (ag (av (cy (aa a7 (aa (cy (aa a7 (aa (pv 5) ab))) ab)))))))))))),?_⟩
   have m6:=hm.m6
   have dl:=dk p
   refine⟨_,rfl,_,rfl,pa,ta,p,ts,rfl,SqL.of hpa,tt,fun H1 s1=>?_⟩
   refine⟨_,rfl,rfl,_,rfl,?_⟩
   rw[wG]
   cases hf:mz (fun i=>p.getD i 0) p.length ts with
   | some j=>
    refine cb ⟨_,rfl,cI,fun t1 n1=>⟨cI,fun t2 n2=>?_⟩⟩
    obtain⟨x,hx,hb⟩:=uE hf
    have n12:t1≠t2:=fun z=>by rw[<- z,ae]at n2;cases n2
    refine q t2 _ ((s1.to n1).to n2) (.inr ⟨.ref t1,.tie j,ae,.tie (iQ (s1.free n1) (by rw[aq n12];exact ae)),.tie (t:=dU x) (by rw[DM,hx];rfl) hb⟩)
   | none=>
    have nb:=uF hf
    refine a9 ?_
    have hm1:=hm.same s1
    refine⟨_,rfl,_,rfl,pa,ma,p,rs,may,U,rfl,SqL.of (s1 _ _ hpa),hm1,c,hl,fun po ls H2 s2 npo hpo R2 fr2=>⟨po,ls,pools may p,U,rfl,SqL.of hpo,R2.pools,by rw[cG];omega,mZ c hl hm.sub,hm.u20,fun t H3 s3 nwt td=>?_⟩⟩
    have s03:=(s1.trans s2).trans s3
    have hpa3:=s03 _ _ hpa
    have hm3:=hm.same s03
    rcases td with⟨dlA,ds,ht,hdl,dl'⟩ | ⟨sl,qs,ht,hsl,sh⟩
    ·refine⟨_,rfl,t,_,_,_,rfl,rfl,SqT.of ht,rfl,rfl,_,rfl,?_⟩
     rw[decide_eq_false (by decide)]
     refine a9 ?_
     refine⟨_,rfl,_,_,rfl,.inl ⟨_,SqL.of hpa3,rfl⟩,_,rfl,_,_,rfl,.inl ⟨_,hm3.ls,rfl⟩,rfl,_,rfl,yg (fun e=>?_) fun ne=>?_⟩
     ·rw [DI,DI,hm.po.len]at e
      have e:p.length=may.length:=by omega
      refine⟨_,rfl,pa,rfl,⟨_,SqL.of hpa3⟩,?_⟩
      have dsl:ds.length=(dd p).length:=by rw[dl'.len,cG]
      refine bL (xs:=p.map V.int) (fun _=>true) (fun j=> .int (ds.getD (p.getD j 0).toNat 0)) (SqL.of hpa3) (by rw[DI];omega) (fun _ _ _ _ _ _ k=>k _ (Same.refl _)) (fun j x hx _ H4 R s4 k=>?_) fun acc H4 s4 nacc hacc=>?_
      ·obtain⟨d,hd,rfl,ed⟩:=g7 hx
       obtain⟨b,eb,hb⟩:=gE c (DQ hd)
       rw[ed]at k
       subst eb
       rw[Er]at k
       exact⟨_,rfl,t,_,_,_,rfl,rfl,SqT.of (s4 _ _ ht),rfl,_,rfl,dlA,_,_,_,rfl,rfl,SqL.of (s4 _ _ hdl),bf (by omega),k _ (Same.refl _)⟩
      rw[EU.mpr (fun _ _=>rfl),DI]at hacc
      have e2:(DR p.length).map (fun j=>V.int (ds.getD (p.getD j 0).toNat 0))=(p.map fun x=>ds.getD x.toNat 0).map V.int:=by
       rw[Eu]
       exact Ay fun i x hx=>by rw[DK (l:=p),hx];rfl
      rw[e2]at hacc
      refine⟨cI,fun t2 n2=>?_⟩
      refine q t2 _ ((s03.trans s4).to n2) (.inl ⟨acc,_,ae,Same.new n2 _ _ hacc,s03.free nacc,yz c e dl' (fun x hx=>?_) fun x hx=>?_⟩)
      ·obtain⟨y,hy,ey⟩:=DZ.mp hx
       rw[<- ey,e]
       exact(tg y hy).lt
      ·obtain⟨y,hy,ey⟩:=DZ.mp hx
       rw[<- ey]
       exact nb y hy
     ·rw [DI,DI,hm.po.len]at ne
      have lt:p.length<may.length:=by omega
      refine⟨cI,fun pl npl=>?_⟩
      have s34:=Same.new (o:= .lst []) npl
      have hpl4:aE H3 pl (.lst []) pl=some (.lst []):=ae
      generalize aE H3 pl (.lst [])=H4 at s34 hpl4
      have s04:=s03.trans s34
      have npl0:H pl=none:=s03.free npl
      refine⟨_,rfl,pa,p,rfl,s04 _ _ hpa,by omega,fun gl gs H5 s45 ngl hgl hgs gall=>⟨gl,rfl,⟨_,SqL.of hgl⟩,?_⟩⟩
      have glp:gl≠pl:=fun z=>by rw[z,hpl4]at ngl;cases ngl
      have gsp:∀(i:Nat) r,gs[i]?=some r->r≠pl:=fun i r hr z=>by have:=(gall i r hr).2;rw[z,hpl4]at this;cases this
      refine be (K:=K) (a:=gl) (xs:=gs.map V.ref) (fun i σ Hx=>∃(vs:List V) (ps:List Pap) (x y:Option V),σ=[some (.ref pa),some (.ref ma),some (.ref ta),some .non,some (.ref t),some (.ref pl),x,y]/\SameBut pl H5 Hx/\Hx pl=some (.lst vs)/\vs.length=i/\ps.length=i/\∀(k:Nat) v q,vs[k]?=some v->ps[k]?=some q->PapAt (jh pl (nw H Hx)) v q/\Shows may (ts.map dU) (p++[(k:Int)]) q)
       ⟨[],[],none,none,rfl,fun _ _ _ h=>h,s45 _ _ hpl4,rfl,rfl,fun k v q h=>by simp at h⟩ (fun i σ Hx _ hq__=>by obtain⟨_,_,_,_,_,sb,_⟩:=hq__;exact SqL.of (sb _ _ glp hgl)) ?_ ?_
      ·rintro i y σ Hx hi ⟨vs,ps,x,y',rfl,sb,hpl,vl,psl,al⟩
       rw[DM]at hi
       obtain⟨r,hr',rfl⟩:=DO.mp hi
       have il:i<(dd p).length+1:=by rw[<- hgs];exact(DN.mp hr').1
       have hrx:=sb _ _ (gsp i r hr') (gall i r hr').1
       have s0x:Same H Hx:=fun b o e=>sb _ _ (fun z=>by rw[z,npl0]at e;cases e) ((s04.trans s45) _ _ e)
       have cx:=kY c (j:=i) (by omega)
       refine⟨_,rfl,_,rfl,_,rfl,r,ma,ta,p++[(i:Int)],rs,may,U,ts,rfl,hrx,hm.same s0x,⟨s0x.seq tt.ls,fun x hx=>(tt.ea x hx).same s0x,tt.ln⟩,tg,cx,by simp;omega,by simp;omega,fun t2 H6 s6 td2=>?_⟩
       have s06:=s0x.trans s6
       rcases td2 with⟨l2,hs2,ht2,hl2,nl2,ip⟩ | ⟨v,qq,ht2,pq,sq⟩
       ·refine⟨_,rfl,t2,_,_,_,rfl,rfl,SqT.of ht2,rfl,rfl,_,rfl,cb ?_⟩
        exact⟨_,rfl,q t2 H6 s06 (.inl ⟨l2,hs2,ht2,hl2,s0x.free nl2,ip⟩)⟩
       ·refine⟨_,rfl,t2,_,_,_,rfl,rfl,SqT.of ht2,rfl,rfl,_,rfl,?_⟩
        rw[decide_eq_false (by decide)]
        refine a9 ?_
        have hpl6:=s6 _ _ hpl
        refine⟨_,rfl,.inl ⟨rfl,_,SqL.of hpl6⟩,_,rfl,t2,_,_,_,rfl,rfl,SqT.of ht2,rfl,pl,_,_,rfl,rfl,hpl6,kb (by omega),?_⟩
        refine⟨vs++[v],ps++[qq],_,_,rfl,fun b o nb' e=>?_,ae,by simp[vl],by simp[psl],fun k v' q' e1 e2=>?_⟩
        ·rw [aq nb']
         exact s6 _ _ (sb _ _ nb' e)
        ·by_cases z:k<i
         ·rw [Fh (by omega)]at e1 e2
          obtain⟨g1,g2⟩:=al k v' q' e1 e2
          refine⟨g1.same fun b o e=>?_,g2⟩
          obtain⟨zb,e⟩:=m7 e
          obtain⟨u1,u2⟩:=iP e
          exact hide_of zb (iQ u1 (by rw[aq zb];exact s6 _ _ u2))
         ·have zi:k=i:=by
           have:=(DN.mp e1).1
           rw[DX,Ec]at this
           omega
          subst zi
          rw[E3 (by omega),vl,FN]at e1
          rw[E3 (by omega),psl,FN]at e2
          cases e1
          cases e2
          refine⟨pq.same fun b o e=>?_,sq⟩
          obtain⟨u1,u2⟩:=iP e
          have zb:b≠pl:=fun z=>by rw[z,hpl]at u1;cases u1
          exact hide_of zb (iQ (s0x.free u1) (by rw[aq zb];exact u2))
      ·rintro σ Hx ⟨vs,ps,x,y',rfl,sb,hpl,vl,psl,al⟩
       rw[DI,hgs]at vl psl
       have s0x:Same H Hx:=fun b o e=>sb _ _ (fun z=>by rw[z,npl0]at e;cases e) ((s04.trans s45) _ _ e)
       refine⟨_,rfl,cI,fun t1 n1=>⟨cI,fun t2 n2=>?_⟩⟩
       have n12:t1≠t2:=fun z=>by rw[<- z,ae]at n2;cases n2
       have npl1:pl≠t1:=aw hpl n1
       have sx2:=(Same.new (o:= .tup [.str "split",.ref pl]) n1).to (o:= .tup [.str "none",.ref t1]) n2
       refine q t2 _ (s0x.trans sx2) (.inr ⟨.ref t1,.split ps,ae,.split (iQ (s0x.free n1) (by rw[aq n12];exact ae)) (iQ npl0 (sx2 _ _ hpl)) (by omega) fun k v' q' e1 e2=>?_,.split lt psl fun j q' e=>?_⟩)
       ·refine(al k v' q' e1 e2).1.same fun b o e=>?_
        obtain⟨zb,e⟩:=m7 e
        obtain⟨u1,u2⟩:=iP e
        exact iQ u1 (sx2 _ _ u2)
       ·have hj:j<vs.length:=by have:=(DN.mp e).1;omega
        exact(al j _ q' (DJ hj) e).2
    ·refine⟨_,rfl,t,_,_,_,rfl,rfl,SqT.of ht,rfl,rfl,_,rfl,cb ?_⟩
     refine⟨_,rfl,t,_,_,_,rfl,rfl,SqT.of ht,rfl,cI,fun t1 n1=>⟨cI,fun t2 n2=>?_⟩⟩
     have n12:t1≠t2:=fun z=>by rw[<- z,ae]at n2;cases n2
     have nsl:H sl=none:=(s1.trans s2).free (nwt.2 _ _ ht)
     have sx2:=(Same.new (o:= .tup [.str "short",.ref sl]) n1).to (o:= .tup [.str "none",.ref t1]) n2
     exact q t2 _ (s03.trans sx2) (.inr ⟨.ref t1,.short qs,ae,.short (iQ (s03.free n1) (by rw[aq n12];exact ae)) (iQ nsl (sx2 _ _ hsl)),.short sh⟩)
 exact all 7
def tF (K:PySem.W.Frag):Sp:=fun vs H Q _=>∃(ma ta:Addr) (rs:List Addr) (may:List (List Int)) (U:List Int) (ts:List (Addr×Addr×Str×Int×List Nat)),vs=[.ref ma,.ref ta]/\May K H ma rs may U/\Ties K H ta ts 100/\(∀x∈ts,TieG may.length x)/\∀t H',Same H H'->zB H H' t may (ts.map dU) []->Q (.ref t) H'
theorem zc:FnScope ["may","ties"] ["may","ties"] (au rf):=⟨rfl,rfl,rfl,by decide +kernel,rfl,by decide +kernel,by decide +kernel⟩
theorem zd (D:Dfs K mg aF dF) (T:Txt mg):FnOk P w K mg base aX 38 (aF 13) (dF 13) ["may","ties"] (tF K):=by
 have Gplan_from:FnOk P w K mg base aX 37 (aF 14) (dF 14) ["pattern","may","ties"] (iW K):=ot D T
 refine D.plan.fn.ok zc (fun vs H Q E h=>?_) (fun cdv A outer s H vs Q E hr h=>?_)
 ·obtain⟨ma,ta,rs,may,U,ts,rfl,_⟩:=h;rfl
 ·have hu:=aP hr
  obtain⟨ma,ta,rs,may,U,ts,rfl,hm,tt,tg,q⟩:=h
  refine⟨_,(ag (av (pc D.plan_from Gplan_from (hr.mono (by decide)) (aa (aG ab) (aa (pv 0) (aa (pv 1) ab)))))),?_⟩
  have m6:=hm.m6
  refine⟨cI,fun pa npa=>?_⟩
  have s1:=Same.new (o:= .lst []) npa
  refine⟨_,rfl,_,rfl,pa,ma,ta,[],rs,may,U,ts,rfl,ae,hm.same s1,⟨s1.seq tt.ls,fun x hx=>(tt.ea x hx).same s1,tt.ln⟩,tg,mY,Eo _,by simp;omega,fun t H' s td=>?_⟩
  refine q t H' (s1.trans s) ?_
  rcases td with⟨l,hs,a1,a2,a3,a4⟩ | ⟨v,qq,a1,a2,a3⟩
  ·exact .inl ⟨l,hs,a1,a2,s1.free a3,a4⟩
  ·exact .inr ⟨v,qq,a1,a2.same (BJ (fun a e=>s1.free e) fun a o _ e=>e),a3⟩
def iX (K:PySem.W.Frag):Sp:=fun vs H Q _=>∃(r:Addr) (p:List Int) (h:Option Int),vs=[.ref r,hV h]/\SqL K H r (p.map V.int)/\∀l H',Same H H'->H l=none->H' l=some (.lst ((k4 p h).map V.int))->Q (.ref l) H'
theorem ou:FnScope ["badges","hand"] ["badges","hand"] (au fX):=⟨rfl,rfl,rfl,by decide +kernel,rfl,by decide +kernel,by decide +kernel⟩
theorem ox (D:Dfs K mg aF dF) (T:Txt mg):FnOk P w K mg base aX 1 (aF 16) (dF 16) ["badges","hand"] (iX K):=by
 refine D.held_step.fn.ok ou (fun vs H Q E h=>?_) (fun cdv A outer s H vs Q E hr h=>?_)
 ·obtain⟨r,p,h,rfl,_⟩:=h;rfl
 ·have hu:=aP hr
  obtain⟨r,p,h,rfl,hr,q⟩:=h
  refine⟨_,(af (aK (ax qj (pv 1) cK (ay _))
    (ag (av (aI (eM K) (by rfl) T.z_list boot_list (aa (pv 0) ab))))
    aC)
   (ag (av (aG (aa (pv 1) ab))))),?_⟩
  refine⟨_,rfl,rfl,_,rfl,?_⟩
  rw[g8]
  cases h with
  | none=>exact cb ⟨_,rfl,r,_,rfl,.inl hr,fun l nl=>q l _ (Same.new nl) nl ae⟩
  | some b=>exact a9 ⟨_,rfl,cI,fun l nl=>q l _ (Same.new nl) nl ae⟩
def tG (K:PySem.W.Frag):Sp:=fun vs H Q _=>∃(ma da:Addr) (rs:List Addr) (may:List (List Int)) (dn:List (Option Int)),vs=[.ref ma,.ref da]/\SqL K H ma (rs.map V.ref)/\PoolsL K H rs may/\SqL K H da (dn.map hV)/\dn.length=may.length/\may.length<=6/\
 ∀l (ls:List Addr) H',Same H H'->H l=none->H' l=some (.lst (ls.map V.ref))->RowsL H' ls (bW may dn)->(∀r∈ls,H r=none)->Q (.ref l) H'
theorem ze:FnScope ["may","done"] ["may","done"] (au rg):=⟨rfl,rfl,rfl,by decide +kernel,rfl,by decide +kernel,by decide +kernel⟩
theorem zf (D:Dfs K mg aF dF) (T:Txt mg):FnOk P w K mg base aX 2 (aF 15) (dF 15) ["may","done"] (tG K):=by
 have Gheld_step:FnOk P w K mg base aX 1 (aF 16) (dF 16) ["badges","hand"] (iX K):=ox D T
 refine D.held.fn.ok ze (fun vs H Q E h=>?_) (fun cdv A outer s H vs Q E hr h=>?_)
 ·obtain⟨ma,da,rs,may,dn,rfl,_⟩:=h;rfl
 ·have hu:=aP hr
  obtain⟨ma,da,rs,may,dn,rfl,hm,po,hd,hl,m6,q⟩:=h
  refine⟨_,(ag (av (aJ ["badges","hand"] [none,none] rfl (qI K rfl T.z_zip (aa (pv 0) (aa (pv 1) ab))) (fun _=>vP K (n:=2) rfl (aD (ao (i:=0) (aL (N:=["badges","hand"]) (by decide +kernel)) rfl (Or.inl rfl)) (aD (ao (i:=1) (aL (N:=["badges","hand"]) (by decide +kernel)) rfl (Or.inl rfl)) b3))) (fun _=>bA) (fun _=>(pc D.held_step Gheld_step (hr.mono (by decide)) (aa (pv 0) (aa (pv 1) ab)))) ((.cons (fun _ e=>by cases e) (.cons (fun _ e=>by cases e) .nil)))))),?_⟩
  have rl:rs.length=may.length:=po.len
  refine⟨_,rfl,_,rfl,ma,da,_,_,rfl,hm,hd,?_⟩
  refine uC (xs:=rs.map V.ref) (ys:=dn.map hV) (fun i=>k4 (may.getD i []) (dn.getD i none)) (by rw[DI,DI];omega) hm hd (by rw[DI];omega) (fun i x y H2 R hx hy s2 k=>?_) fun acc ls H2 s2 nacc hacc hR hn=>?_
  ·rw [DM]at hx
   obtain⟨r,hr,rfl⟩:=DO.mp hx
   have hi:i<may.length:=by rw[<- rl];exact(DN.mp hr).1
   obtain⟨r',e1,e2⟩:=(po.same s2).at (DJ hi)
   rw[hr]at e1
   cases e1
   have e:=BI hy
   subst e
   rw[<- bx hi]at e2
   exact⟨_,rfl,_,rfl,r,_,_,rfl,e2,fun l H3 s3 nl hl3=>k l H3 s3 nl hl3⟩
  ·rw [DI,rl]at hR
   exact q acc ls H2 s2 nacc hacc hR hn
def dZ (K:PySem.W.Frag):Sp:=fun vs H Q _=>∃(f o d:Addr) (ns:List Int) (es:jA) (dn:List (Option Int)),vs=[.ref f,.ref o,.ref d]/\SqL K H f (ns.map V.int)/\RowAt H o es/\es.length<=100/\(∀x∈es,0<=x.2/\x.2<(dn.length:Int))/\SqL K H d (dn.map hV)/\∀H',Same H H'->Q (.bl (jB es dn ns)) H'
theorem ee:FnScope ["some","order","done","behind_some"] ["some","order","done"] (au cZ):=⟨rfl,rfl,rfl,by decide +kernel,rfl,by decide +kernel,by decide +kernel⟩
theorem iY (D:Dfs K mg aF dF) (T:Txt mg):FnOk P w K mg base aX 1 (aF 18) (dF 18) ["some","order","done"] (dZ K):=by
 refine D.has_all_behind.fn.ok ee (fun vs H Q E h=>?_) (fun cdv A outer s H vs Q E hr h=>?_)
 ·obtain⟨f,o,d,ns,es,dn,rfl,_⟩:=h;rfl
 ·have hu:=aP hr
  obtain⟨f,o,d,ns,es,dn,rfl,hf,ho,e1,ok,hd,q⟩:=h
  refine⟨_,(af (e8 (i₀:=3) ee.nd rfl (Or.inl rfl) ["ahead","behind","some"] [none,none,some 0] rfl (gZ K (pv 1)) (fun _=>vP K (n:=2) rfl (aD (ao (i:=0) (aL (N:=["ahead","behind","some"]) (by decide +kernel)) rfl (Or.inl rfl)) (aD (ao (i:=1) (aL (N:=["ahead","behind","some"]) (by decide +kernel)) rfl (Or.inl rfl)) b3))) (fun _=>bU (ax (Ag K) (pv 0) (pv 2) (by with_unfolding_all rfl))) (fun _=>(pv 1)) ((.cons (fun _ e=>by cases e) (.cons (fun _ e=>by cases e) (.cons (fun _ e=>by cases e;exact⟨rfl,rfl⟩) .nil)))))
   (ag (av (ak (Ah K) (by rfl) T.z_all boot_all (aa (aJ ["step","some","done"] [none,some 0,some 2] rfl (gZ K (pv 3)) (fun _=>ao (i:=0) (aL (N:=["step","some","done"]) (by decide +kernel)) rfl (Or.inl rfl)) (fun _=>bA) (fun _=>(A7 (b4 (Ag K) (pv 0) (pv 1) (by with_unfolding_all rfl)) (i6 (b4 qj (az (dO K) (pv 2) (pv 0) (fun _ _=>rfl)) cK (ay _))))) ((.cons (fun _ e=>by cases e) (.cons (fun _ e=>by cases e;exact⟨rfl,rfl⟩) (.cons (fun _ e=>by cases e;exact⟨rfl,rfl⟩) .nil))))) ab))))),?_⟩
  refine⟨_,rfl,o,rfl,⟨_,SqL.of ho.choose_spec.1⟩,?_⟩
  refine jz (fun x=>decide (x.1∈ns)) (fun x=>V.int x.2) ho (by omega) (fun i x hx H2 R s2 k=>?_) (fun i x hx H2 R s2 k=>⟨_,rfl,k H2 (Same.refl _)⟩) fun b H1 s1 nb hb=>?_
  ·refine⟨_,rfl,_,rfl,f,_,rfl,.inl (s2.seq hf),rfl,bQ _,?_⟩
   rw[if_neg DU,cg]
   exact⟨_,rfl,k H2 (Same.refl _)⟩
  have hb:H1 b=some (.lst (((es.filter fun x=>decide (x.1∈ns)).map (·.2)).map V.int)):=by rw[hb,Eu];rfl
  have bl:((es.filter fun x=>decide (x.1∈ns)).map (·.2)).length<=100:=by rw[DI];exact Ek (Et _ _) e1
  have bm:∀s∈(es.filter fun x=>decide (x.1∈ns)).map (·.2),0<=s/\s<(dn.length:Int):=fun s hs=>by
   obtain⟨x,hx,rfl⟩:=DZ.mp hs
   exact ok x (Ej.mp hx).1
  have qq:∀H',Same H H'->Q (.bl (((es.filter fun x=>decide (x.1∈ns)).map (·.2)).all fun s=>decide (s∈ns)||(dn.getD s.toNat none).isNone)) H':=q
  generalize (es.filter fun x=>decide (x.1∈ns)).map (·.2)=L at hb bl bm qq
  refine⟨_,rfl,b,rfl,⟨_,SqL.of hb⟩,?_⟩
  refine bL (xs:=L.map V.int) (fun _=>true) (fun i=> .bl (decide (L.getD i 0∈ns)||(dn.getD (L.getD i 0).toNat none).isNone)) (SqL.of hb) (by rw[DI];omega) (fun _ _ _ _ _ _ k=>k _ (Same.refl _)) (fun j x hx _ H2 R s2 kk=>?_) fun nw H2 s2 nnw hnw=>?_
  ·rw [DM]at hx
   obtain⟨s,hs,rfl⟩:=DO.mp hx
   obtain⟨b0,b1⟩:=bm s (DQ hs)
   have z:R (.bl (decide (L.getD j 0∈ns)||(dn.getD (L.getD j 0).toNat none).isNone)) H2:=kk H2 (Same.refl _)
   rw[fU hs]at z
   refine⟨_,rfl,_,rfl,f,_,rfl,.inl ((s1.trans s2).seq hf),rfl,bQ _,?_⟩
   rw[if_neg DU,cg]
   refine⟨_,rfl,zw (fun m=>?_) fun m=>?_⟩
   ·rw [decide_eq_true m,Bool.true_or]at z
    exact z
   ·rw [decide_eq_false m,Bool.false_or]at z
    have e3:s=((s.toNat:Nat):Int):=by omega
    have hat:mM (dn.map hV) s=some (hV (dn.getD s.toNat none)):=by
     conv=>lhs;rw[e3]
     exact eG (by omega)
    refine⟨_,rfl,_,rfl,d,_,_,_,rfl,rfl,(s1.trans s2).seq hd,hat,?_⟩
    have:=g8 (h:=dn.getD s.toNat none)
    rw[<- this]at z
    exact⟨rfl,z⟩
  ·rw [DI,sM L (fun a=>V.bl (decide (a∈ns)||(dn.getD a.toNat none).isNone))]at hnw
   refine⟨nw,L.map fun a=>decide (a∈ns)||(dn.getD a.toNat none).isNone,rfl,SqL.of (by rw[hnw,Eu];rfl),?_⟩
   rw[List.all_map]
   exact qq H2 (s1.trans s2)
def lX (K:PySem.W.Frag):Sp:=fun vs H Q _=>∃(o d:Addr) (es:jA) (dn:List (Option Int)),vs=[.ref o,.ref d]/\RowAt H o es/\es.length<=100/\(∀x∈es,0<=x.2/\x.2<(dn.length:Int))/\SqL K H d (dn.map hV)/\dn.length<=6/\∀(l:Addr) (cs:List Addr) (H':Hp),Same H H'->H l=none->H' l=some (.lst (cs.map V.ref))->IntsL H' cs ((sV (dg dn)).filter (jB es dn))->(∀b∈cs,H b=none)->Q (.ref l) H'
theorem lY:FnScope ["order","done","steps"] ["order","done"] (au jm):=⟨rfl,rfl,rfl,by decide +kernel,rfl,by decide +kernel,by decide +kernel⟩
theorem rz (D:Dfs K mg aF dF) (T:Txt mg):FnOk P w K mg base aX 2 (aF 17) (dF 17) ["order","done"] (lX K):=by
 have Gchoices:FnOk P w K mg base aX 1 (aF 1) (dF 1) ["numbers"] (lU K):=rm D T
 have Ghas_all_behind:FnOk P w K mg base aX 1 (aF 18) (dF 18) ["some","order","done"] (dZ K):=iY D T
 refine D.strikes.fn.ok lY (fun vs H Q E h=>?_) (fun cdv A outer s H vs Q E hr h=>?_)
 ·obtain⟨o,d,es,dn,rfl,_⟩:=h;rfl
 ·have hu:=aP hr
  obtain⟨o,d,es,dn,rfl,ho,e1,ok,hd,d6,q⟩:=h
  refine⟨_,(af (e8 (i₀:=2) lY.nd rfl (Or.inl rfl) ["step","done"] [none,some 1] rfl (aM rfl T.z_range (aa (ak (bw K) (by rfl) T.z_len boot_len (aa (pv 1) ab)) ab)) (fun _=>ao (i:=0) (aL (N:=["step","done"]) (by decide +kernel)) rfl (Or.inl rfl)) (fun _=>bU (ax eY (az (dO K) (pv 1) (pv 0) (fun _ _=>rfl)) cK (ay _))) (fun _=>(pv 0)) ((.cons (fun _ e=>by cases e) (.cons (fun _ e=>by cases e;exact⟨rfl,rfl⟩) .nil))))
   (ag (av (aJ ["some","order","done"] [none,some 0,some 1] rfl (gZ K (pc D.choices Gchoices (hr.mono (by decide)) (aa (pv 2) ab))) (fun _=>ao (i:=0) (aL (N:=["some","order","done"]) (by decide +kernel)) rfl (Or.inl rfl)) (fun _=>bU (bC (pc D.has_all_behind Ghas_all_behind (hr.mono (by decide)) (aa (pv 0) (aa (pv 1) (aa (pv 2) ab)))))) (fun _=>(pv 0)) ((.cons (fun _ e=>by cases e) (.cons (fun _ e=>by cases e;exact⟨rfl,rfl⟩) (.cons (fun _ e=>by cases e;exact⟨rfl,rfl⟩) .nil)))))))),?_⟩
  refine⟨_,rfl,_,_,rfl,.inl ⟨_,hd,rfl⟩,_,rfl,eQ _,by rw[DI];omega,?_⟩
  have e0:(((dn.map hV).length:Nat):Int).toNat=dn.length:=by rw[DI];omega
  rw[e0]
  refine cW (n:=dn.length) (fun(i:Nat)=>(dn.getD i none).isSome) (by omega) (fun i hi H2 R s2 k=>?_) (fun i hi H2 R k=>?_) fun acc H1 s1 na ha=>?_
  ·have ei:(0:Int)+(i:Int)=((i:Nat):Int):=by omega
   rw[ei]
   refine⟨_,rfl,_,rfl,d,_,_,_,rfl,rfl,s2.seq hd,eG hi,rfl,?_⟩
   have e:(!decide (hV (dn.getD i none)=V.non))=(dn.getD i none).isSome:=by rw[g8];cases dn.getD i none<;>rfl
   rw[e]
   exact⟨_,rfl,k H2 (Same.refl _)⟩
  ·have ei:(0:Int)+(i:Int)=((i:Nat):Int):=by omega
   rw[ei]
   exact⟨_,rfl,k⟩
  have ha:H1 acc=some (.lst ((dg dn).map V.int)):=by rw[ha];unfold dg;rw[Eu];rfl
  have dl:=fh dn
  have d6':(dg dn).length<=6:=by omega
  refine⟨_,rfl,acc,dg dn,rfl,SqL.of ha,wL dn,d6',fun l bs H2 s2 nl hl il fr=>?_⟩
  refine⟨l,rfl,⟨_,SqL.of hl⟩,?_⟩
  have s02:=s1.trans s2
  have la:bs.length=2^(dg dn).length:=by rw[Paired.length il,sX d6']
  have lj:2^(dg dn).length<=64:=xl d6'
  refine bL (xs:=bs.map V.ref) (fun i=>jB es dn ((sV (dg dn)).getD i [])) (fun i=>V.ref (bs.getD i 0)) (SqL.of hl) (by rw[DI];omega) (fun i x hx H3 R s3 kk=>?_) (fun i x hx _ H3 R s3 kk=>?_) fun nw H3 s3 nnw hnw=>?_
  ·rw [DM]at hx
   obtain⟨r,hr',rfl⟩:=DO.mp hx
   obtain⟨ns,hns,e⟩:=bB il hr'
   have z:∀H4,Same H3 H4->R (jB es dn ((sV (dg dn)).getD i [])) H4:=kk
   rw[fU hns]at z
   exact⟨_,rfl,_,rfl,_,rfl,r,o,d,ns,es,dn,rfl,SqL.of (s3 _ _ e),ho.same (s02.trans s3),e1,ok,(s02.trans s3).seq hd,fun H4 s4=>⟨_,rfl,z H4 s4⟩⟩
  ·rw [DM]at hx
   obtain⟨r,hr',rfl⟩:=DO.mp hx
   have z:R (V.ref (bs.getD i 0)) H3:=kk H3 (Same.refl _)
   rw[fU hr']at z
   exact⟨_,rfl,z⟩
  ·obtain⟨cs,e,ic,sub⟩:=uR (il.same s3) (jB es dn)
   rw[DI,e]at hnw
   exact q nw cs H3 (s02.trans s3) (s02.free nnw) hnw ic fun b hb=>s1.free (fr b (sub b hb))
def ju (K:PySem.W.Frag):Sp:=fun vs H Q _=>∃(d t:Addr) (dn:List (Option Int)) (ns:List Int),vs=[.ref d,.ref t]/\SqL K H d (dn.map hV)/\SqL K H t (ns.map V.int)/\dn.length<=6/\∀l H',Same H H'->H l=none->H' l=some (.lst ((iC dn ns).map hV))->Q (.ref l) H'
theorem vc:FnScope ["done","steps"] ["done","steps"] (au lR):=⟨rfl,rfl,rfl,by decide +kernel,rfl,by decide +kernel,by decide +kernel⟩
theorem nH (D:Dfs K mg aF dF) (T:Txt mg):FnOk P w K mg base aX 1 (aF 19) (dF 19) ["done","steps"] (ju K):=by
 refine D.struck.fn.ok vc (fun vs H Q E h=>?_) (fun cdv A outer s H vs Q E hr h=>?_)
 ·obtain⟨d,t,dn,ns,rfl,_⟩:=h;rfl
 ·have hu:=aP hr
  obtain⟨d,t,dn,ns,rfl,hd,ht,d6,q⟩:=h
  refine⟨_,(ag (av (aJ ["step","steps","done"] [none,some 1,some 0] rfl (aM rfl T.z_range (aa (ak (bw K) (by rfl) T.z_len boot_len (aa (pv 0) ab)) ab)) (fun _=>ao (i:=0) (aL (N:=["step","steps","done"]) (by decide +kernel)) rfl (Or.inl rfl)) (fun _=>bA) (fun _=>(vm (ax (Ag K) (pv 0) (pv 1) (by with_unfolding_all rfl)) cK (az (dO K) (pv 2) (pv 0) (fun _ _=>rfl)))) ((.cons (fun _ e=>by cases e) (.cons (fun _ e=>by cases e;exact⟨rfl,rfl⟩) (.cons (fun _ e=>by cases e;exact⟨rfl,rfl⟩) .nil))))))),?_⟩
  refine⟨_,rfl,_,_,rfl,.inl ⟨_,hd,rfl⟩,_,rfl,eQ _,by rw[DI];omega,?_⟩
  have e0:(((dn.map hV).length:Nat):Int).toNat=dn.length:=by rw[DI];omega
  rw[e0]
  refine qt (n:=dn.length) (fun(i:Nat)=>hV (if(i:Int)∈ns then none else dn.getD i none)) (by omega) (fun i hi H2 R s2 k=>?_) fun acc H2 s2 na ha=>q acc H2 s2 na (by rw[ha];unfold iC;rw[Eu];rfl)
  have ei:(0:Int)+(i:Int)=((i:Nat):Int):=by omega
  rw[ei]
  have k1:R (hV (if(i:Int)∈ns then none else dn.getD i none)) H2:=k H2 (Same.refl _)
  refine⟨_,rfl,_,rfl,t,_,rfl,.inl (s2.seq ht),rfl,bQ _,?_⟩
  rw[if_neg DU,cg]
  refine⟨_,rfl,zw (fun m=>?_) fun m=>?_⟩
  ·rw [if_pos m]at k1
   exact k1
  ·rw [if_neg m]at k1
   exact⟨_,rfl,_,rfl,d,_,_,_,rfl,rfl,s2.seq hd,eG hi,k1⟩
theorem oy {c:Addr} {H:Hp}:Same (jh c H) H:=fun b o e=>by
 unfold jh at e
 split at e
 ·cases e
 ·exact e
theorem hide_of {c:Addr} {H:Hp} {b:Addr} {o:HO} (n:b≠c) (e:H b=some o):jh c H b=some o:=by unfold jh;rw[if_neg n];exact e
theorem xD {c:Addr} {H H':Hp} (s:SameBut c H H'):Same (jh c H) (jh c H'):=fun b o e=>by
 by_cases z:b=c
 ·unfold jh at e;rw[if_pos z]at e;cases e
 ·exact hide_of z (s b o z (oy _ _ e))
def tH (K:PySem.W.Frag):Sp:=fun vs H Q _=>∃(ma ta o d:Addr) (rs:List Addr) (may:List (List Int)) (U:List Int) (ts:List (Addr×Addr×Str×Int×List Nat)) (es:jA) (dn:List (Option Int)),vs=[.ref ma,.ref ta,.ref o,.ref d]/\May K H ma rs may U/\Ties K H ta ts 100/\(∀x∈ts,TieG may.length x)/\RowAt H o es/\es.length<=100/\(∀x∈es,0<=x.2/\x.2<(dn.length:Int))/\SqL K H d (dn.map hV)/\dn.length=may.length/\(∀b,some b∈dn->b∈U)/\
 ∀t H',Same H H'->H t=none->MTold H' t may (ts.map dU) es dn->Q (.ref t) H'
theorem kq:FnScope ["may","ties","order","done","papers","some","told"] ["may","ties","order","done"] (au rh):=⟨rfl,rfl,rfl,by decide +kernel,rfl,by decide +kernel,by decide +kernel⟩
theorem zg (D:Dfs K mg aF dF) (T:Txt mg):FnOk P w K mg base aX 39 (aF 20) (dF 20) ["may","ties","order","done"] (tH K):=by
 have Gplan:FnOk P w K mg base aX 38 (aF 13) (dF 13) ["may","ties"] (tF K):=zd D T
 have Gheld:FnOk P w K mg base aX 2 (aF 15) (dF 15) ["may","done"] (tG K):=zf D T
 have Gstrikes:FnOk P w K mg base aX 2 (aF 17) (dF 17) ["order","done"] (lX K):=rz D T
 have Gstruck:FnOk P w K mg base aX 1 (aF 19) (dF 19) ["done","steps"] (ju K):=nH D T
 refine D.mend.fn.ok kq (fun vs H Q E h=>?_) (fun cdv A outer s H vs Q E hr h=>?_)
 ·obtain⟨ma,ta,o,d,rs,may,U,ts,es,dn,rfl,_⟩:=h;rfl
 ·have hu:=aP hr
  obtain⟨ma,ta,o,d,rs,may,U,ts,es,dn,rfl,hm,tt,tg,ho,e1,ok,hd,dl,du,q⟩:=h
  refine⟨_,(af (aA (i:=4) kq.nd rfl (Or.inl rfl) (aG ab))
   (af (aY PassesOwn.never rfl (gZ K (pc D.strikes Gstrikes (hr.mono (by decide)) (aa (pv 2) (aa (pv 3) ab)))) (ao (i:=5) kq.nd rfl (Or.inr rfl))
    (af (aA (i:=6) kq.nd rfl (Or.inl rfl) (pc D.plan Gplan (hr.mono (by decide)) (aa (pc D.held Gheld (hr.mono (by decide)) (aa (pv 0) (aa (pc D.struck Gstruck (hr.mono (by decide)) (aa (pv 3) (aa (pv 5) ab))) ab))) (aa (pv 1) ab))))
    (af (aK (ax cL (az (e9 K) (pv 6) aj (fun _ _=>rfl)) a7 (ay _))
     (ag (av (cy (aa a7 (aa (pv 5) (aa (az (e9 K) (pv 6) aj (fun _ _=>rfl)) (aa (aJ ["pair","some"] [none,some 5] rfl (gZ K (pv 4)) (fun _=>ao (i:=0) (aL (N:=["pair","some"]) (by decide +kernel)) rfl (Or.inl rfl)) (fun _=>bU (ax gM (ak (bw K) (by rfl) T.z_len boot_len (aa (az (e9 K) (pv 0) aj (fun _ _=>rfl)) ab)) (ak (bw K) (by rfl) T.z_len boot_len (aa (pv 1) ab)) (ay _))) (fun _=>(pv 0)) ((.cons (fun _ e=>by cases e) (.cons (fun _ e=>by cases e;exact⟨rfl,rfl⟩) .nil)))) ab)))))))
     aC)
    (ag (bZ (dP PySem.F.plainAttrs_list PySem.F.slot_list_append PySem.F.type_list_append a8 (pv 4) (aa (cy (aa (pv 5) (aa (az (e9 K) (pv 6) aj (fun _ _=>rfl)) ab))) ab)))))))
   (ag (av (cy (aa a7 (aa (pv 4) ab))))))),?_⟩
  have m6:=hm.m6
  have d6:dn.length<=6:=by omega
  refine⟨cI,fun pp npp=>?_⟩
  have s1:=Same.new (o:= .lst []) npp
  have hpp:aE H pp (.lst []) pp=some (.lst []):=ae
  generalize aE H pp (.lst [])=H1 at s1 hpp
  refine⟨_,rfl,_,rfl,o,d,es,dn,rfl,ho.same s1,e1,ok,s1.seq hd,d6,fun l cs H2 s2 nl hl ic fc=>?_⟩
  have ic:IntsL H2 cs (qh es dn):=ic
  have s02:=s1.trans s2
  have hpp2:=s2 _ _ hpp
  have csl:cs.length<=64:=by rw[Paired.length ic];exact xq d6
  have nlp:l≠pp:=fun z=>by rw[z,hpp]at nl;cases nl
  have ncs:∀b∈cs,b≠pp:=fun b hb z=>by have:=fc b hb;rw[z,hpp]at this;cases this
  refine⟨l,rfl,⟨_,SqL.of hl⟩,?_⟩
  refine be (K:=K) (a:=l) (xs:=cs.map V.ref) (fun i σ Hx=>∃(x y:Option V) (qs:List Addr),σ=[some (.ref ma),some (.ref ta),some (.ref o),some (.ref d),some (.ref pp),x,y]/\SameBut pp H2 Hx/\Hx pp=some (.lst (qs.map V.ref))/\Paired (PrAt may (ts.map dU) dn (jh pp Hx)) qs ((qh es dn).take i)) ⟨none,none,[],rfl,fun _ _ _ e=>e,hpp2,.nil⟩ (fun i σ Hx _ hq__=>by obtain⟨_,_,_,_,h,_⟩:=hq__;exact SqL.of (h _ _ nlp hl)) ?_ ?_
  ·rintro i v σ Hx hi ⟨x,y,qs,rfl,sb,hpx,pq⟩
   have sx:Same H Hx:=fun b o e=>sb b o (fun z=>by rw[z,npp]at e;cases e) (s02 b o e)
   rw[DM]at hi
   obtain⟨sa,hsa,rfl⟩:=DO.mp hi
   have hil:=(DN.mp hsa).1
   have icx:=ic.but ncs sb
   obtain⟨g,hg,eg⟩:=bB icx hsa
   have gm:=DQ hg
   have qsl:qs.length=i:=by
    have:=Paired.length pq
    rw[EA]at this
    have:=Paired.length ic
    omega
   refine⟨_,rfl,_,rfl,_,rfl,d,sa,dn,g,rfl,sx.seq hd,SqL.of eg,d6,fun sd H3 s3 nsd hsd=>?_⟩
   have s03:=sx.trans s3
   have hm3:=hm.same s03
   have sl:=kh dn g
   refine⟨ma,sd,rs,may,iC dn g,rfl,hm3.ls,hm3.po,SqL.of hsd,by omega,by omega,fun hl' hls H4 s4 nhl hhl hR hfr=>?_⟩
   have s04:=s03.trans s4
   have hml:(bW may (iC dn g)).length=may.length:=cX
   refine⟨_,rfl,hl',ta,hls,bW may (iC dn g),U,ts,rfl,⟨SqL.of hhl,hR.pools,pz hm.up,m9 hm.sub (fun b hb=>du b (tz hb)),by omega,hm.u20⟩,⟨s04.seq tt.ls,fun x hx=>(tt.ea x hx).same s04,tt.ln⟩,(fun x hx=>by rw[hml];exact tg x hx),fun t H5 s5 td=>?_⟩
   have sx4:=s3.trans s4
   have sx5:=sx4.trans s5
   have s05:=s04.trans s5
   have hp5:=sx5 _ _ hpx
   have eg5:=sx5 _ _ eg
   rcases td with⟨lp,hs,ht,hlp,nlp',ip⟩ | ⟨v,pa,ht,hpa,hsh⟩
   ·refine⟨_,rfl,t,_,_,_,rfl,rfl,SqT.of ht,rfl,rfl,_,rfl,cb ?_⟩
    refine⟨_,rfl,_,rfl,t,_,_,_,rfl,rfl,SqT.of ht,rfl,?_⟩
    refine⟨_,rfl,pp,rfl,⟨_,SqL.of hp5⟩,?_⟩
    have pq5:Paired (PrAt may (ts.map dU) dn H5) qs ((qh es dn).take i):=Paired.mapP pq fun a s h=>(h.same oy).same sx5
    refine bL (xs:=qs.map V.ref) (fun j=>decide ((((qh es dn).take i).getD j []).length<g.length)) (fun j=>V.ref (qs.getD j 0)) (SqL.of hp5) (by rw[DI];omega) (fun j v hv H6 R s6 k=>?_) (fun j v hv _ H6 R s6 k=>?_) fun pl H6 s6 npl hpl=>?_
    ·rw [DM]at hv
     obtain⟨r,hr',rfl⟩:=DO.mp hv
     obtain⟨s,hs',sr,v',pa',f1,f2,_,_⟩:=bB pq5 hr'
     have kk:∀H7,Same H6 H7->R (decide ((((qh es dn).take i).getD j []).length<g.length)) H7:=k
     rw[fU hs']at kk
     refine⟨_,rfl,r,_,_,_,rfl,rfl,SqT.of (s6 _ _ f1),rfl,_,s.length,rfl,.inl ⟨_,SqL.of (s6 _ _ f2),by rw[DI]⟩,_,rfl,_,g.length,rfl,.inl ⟨_,SqL.of (s6 _ _ eg5),by rw[DI]⟩,_,_,rfl,rfl,_,rfl,?_⟩
     have z:=kk H6 (Same.refl _)
     rw[show decide (s.length<g.length)=decide ((s.length:Int)<(g.length:Int))from decide_eq_decide.mpr Int.ofNat_lt.symm]at z
     exact z
    ·rw [DM]at hv
     obtain⟨r,hr',rfl⟩:=DO.mp hv
     have kk:R (V.ref (qs.getD j 0)) H6:=k H6 (Same.refl _)
     rw[fU hr']at kk
     exact⟨_,rfl,kk⟩
    obtain⟨ws,ew,pw⟩:=lK [] pq5 (fun s=>decide (s.length<g.length))
    rw[DI,ew]at hpl
    rw[uU (xp d6) hg]at pw
    refine⟨cI,fun tt' ntt=>?_⟩
    have s7:=Same.new (o:= .tup [.str "mend",.ref sa,.ref lp,.ref pl]) ntt
    have s57:=s6.trans s7
    exact q tt' _ (s05.trans s57) ((s05.trans s6).free ntt) (.inl ⟨sa,lp,pl,g,hs,ws,ae,s57 _ _ eg5,gm,s57 _ _ hlp,ip,s7 _ _ hpl,Paired.mapP pw fun a s h=>h.same s57⟩)
   ·refine⟨_,rfl,t,_,_,_,rfl,rfl,SqT.of ht,rfl,rfl,_,rfl,?_⟩
    rw[decide_eq_false (by decide)]
    refine a9 ?_
    refine⟨_,rfl,.inl ⟨rfl,_,SqL.of hp5⟩,_,rfl,_,rfl,t,_,_,_,rfl,rfl,SqT.of ht,rfl,cI,fun tp ntp=>?_⟩
    have s6:=Same.new (o:= .tup [.ref sa,v]) ntp
    have hp6:=s6 _ _ hp5
    have ntpp:tp≠pp:=fun z=>by rw[z,hp5]at ntp;cases ntp
    refine⟨pp,_,_,rfl,rfl,hp6,kb (by rw[DI];omega),?_⟩
    have sbn:SameBut pp Hx (aE (aE H5 tp (.tup [.ref sa,v])) pp (.lst (qs.map V.ref++[V.ref tp]))):=fun b o hb e=>by rw[aq hb];exact s6 _ _ (sx5 _ _ e)
    refine⟨_,_,qs++[tp],rfl,fun b o hb e=>sbn b o hb (sb b o hb e),by rw[ae,DY];rfl,?_⟩
    rw[bR hg]
    refine aR (Paired.mapP pq fun a s h=>h.same (xD sbn)) ⟨sa,v,pa,hide_of ntpp (by rw[aq ntpp];exact ae),hide_of (ncs sa (DQ hsa)) (sbn _ _ (ncs sa (DQ hsa)) eg),hpa.same fun b o e=>?_,hsh⟩
    obtain⟨n4,e5⟩:=iP e
    have nb:b≠pp:=fun z=>by rw[z,sx4 _ _ hpx]at n4;cases n4
    exact hide_of nb (by rw[aq nb];exact s6 _ _ e5)
  ·rintro σ Hx ⟨x,y,qs,rfl,sb,hpx,pq⟩
   have sx:Same H Hx:=fun b o e=>sb b o (fun z=>by rw[z,npp]at e;cases e) (s02 b o e)
   have e:(qh es dn).take (cs.map V.ref).length=qh es dn:=by rw[DI,Paired.length ic,EL]
   rw[e]at pq
   refine⟨_,rfl,cI,fun t nt=>?_⟩
   have s7:=Same.new (o:= .tup [.str "none",.ref pp]) nt
   exact q t _ (sx.trans s7) (sx.free nt) (.inr ⟨pp,qs,ae,s7 _ _ hpx,Paired.mapP pq fun a s h=>(h.same oy).same s7⟩)
def jI (K:PySem.W.Frag):Sp:=fun vs H Q _=>∃(s:Int) (o:Addr) (es:List (Int×Int)),vs=[.int s,.ref o]/\RowAt H o es/\es.length<=100/\∀l H',Same H H'->H l=none->H' l=some (.lst ((wJ es s).map V.int))->Q (.ref l) H'
theorem pX:FnScope ["step","order"] ["step","order"] (au ig):=⟨rfl,rfl,rfl,by decide +kernel,rfl,by decide +kernel,by decide +kernel⟩
theorem pY (D:Dfs K mg aF dF) (T:Txt mg):FnOk P w K mg base aX 1 (aF 24) (dF 24) ["step","order"] (jI K):=by
 refine D.ahead_of.fn.ok pX (fun vs H Q E h=>?_) (fun cdv A outer s H vs Q E hr h=>?_)
 ·obtain⟨s,o,es,rfl,_⟩:=h;rfl
 ·have hu:=aP hr
  obtain⟨s,o,es,rfl,ho,e1,q⟩:=h
  refine⟨_,(ag (av (aJ ["ahead","behind","step"] [none,none,some 0] rfl (gZ K (pv 1)) (fun _=>vP K (n:=2) rfl (aD (ao (i:=0) (aL (N:=["ahead","behind","step"]) (by decide +kernel)) rfl (Or.inl rfl)) (aD (ao (i:=1) (aL (N:=["ahead","behind","step"]) (by decide +kernel)) rfl (Or.inl rfl)) b3))) (fun _=>bU (ax cL (pv 1) (pv 2) (ay _))) (fun _=>(pv 0)) ((.cons (fun _ e=>by cases e) (.cons (fun _ e=>by cases e) (.cons (fun _ e=>by cases e;exact⟨rfl,rfl⟩) .nil))))))),?_⟩
  refine⟨_,rfl,o,rfl,⟨_,SqL.of ho.choose_spec.1⟩,?_⟩
  refine jz (fun x=>decide (x.2=s)) (fun x=>V.int x.1) ho (by omega) (fun i x hx H2 R s2 k=>⟨_,rfl,_,rfl,rfl,_,rfl,by have:=k H2 (Same.refl _);rw[<- AA]at this;exact this⟩) (fun i x hx H2 R s2 k=>⟨_,rfl,k H2 (Same.refl _)⟩) fun acc H2 s2 na ha=>q acc H2 s2 na ?_
  rw[ha];unfold wJ;rw[Eu];rfl
def lZ (K:PySem.W.Frag):Sp:=fun vs H Q _=>∃(s:Int) (o t:Addr) (es:List (Int×Int)) (ts:List Int),vs=[.int s,.ref o,.ref t]/\RowAt H o es/\es.length<=100/\SqL K H t (ts.map V.int)/\∀H',Same H H'->Q (.bl (sL es ts s)) H'
theorem rB:FnScope ["step","order","there"] ["step","order","there"] (au jn):=⟨rfl,rfl,rfl,by decide +kernel,rfl,by decide +kernel,by decide +kernel⟩
theorem rC (D:Dfs K mg aF dF) (T:Txt mg):FnOk P w K mg base aX 2 (aF 23) (dF 23) ["step","order","there"] (lZ K):=by
 have Gahead_of:FnOk P w K mg base aX 1 (aF 24) (dF 24) ["step","order"] (jI K):=pY D T
 refine D.is_free.fn.ok rB (fun vs H Q E h=>?_) (fun cdv A outer s H vs Q E hr h=>?_)
 ·obtain⟨s,o,t,es,ts,rfl,_⟩:=h;rfl
 ·have hu:=aP hr
  obtain⟨s,o,t,es,ts,rfl,ho,e1,ht,q⟩:=h
  refine⟨_,(ag (av (gX (b4 (ud K) (pv 0) (pv 2) (by with_unfolding_all rfl)) (i6 (ak (Ah K) (by rfl) T.z_all boot_all (aa (aJ ["one","there"] [none,some 2] rfl (gZ K (pc D.ahead_of Gahead_of (hr.mono (by decide)) (aa (pv 0) (aa (pv 1) ab)))) (fun _=>ao (i:=0) (aL (N:=["one","there"]) (by decide +kernel)) rfl (Or.inl rfl)) (fun _=>bA) (fun _=>(b4 (Ag K) (pv 0) (pv 1) (by with_unfolding_all rfl))) ((.cons (fun _ e=>by cases e) (.cons (fun _ e=>by cases e;exact⟨rfl,rfl⟩) .nil)))) ab)))))),?_⟩
  refine⟨_,rfl,_,rfl,t,_,rfl,.inl ht,rfl,bQ _,_,rfl,?_⟩
  rw[if_pos rfl,cg]
  by_cases hm:s∈ts
  ·rw [decide_eq_true hm]
   refine a9 ?_
   have e:sL es ts s=false:=by unfold sL;rw[decide_eq_true hm];rfl
   rw[<- e]
   exact q H (Same.refl _)
  rw[decide_eq_false hm]
  refine cb ?_
  have al:(wJ es s).length<=100:=by unfold wJ;rw[DI];exact Ek (Et _ _) e1
  refine⟨_,rfl,_,rfl,s,o,es,rfl,ho,e1,fun l H1 s1 nl hl=>?_⟩
  refine⟨l,rfl,⟨_,SqL.of hl⟩,?_⟩
  refine bL (xs:=(wJ es s).map V.int) (fun _=>true) (fun i=> .bl (decide ((wJ es s).getD i 0∈ts))) (SqL.of hl) (by rw[DI];omega) (fun _ _ _ _ _ _ k=>k _ (Same.refl _)) (fun j x hx _ H2 R s2 kk=>?_) fun nw H2 s2 nnw hnw=>?_
  ·rw [DM]at hx
   obtain⟨b,hb,rfl⟩:=DO.mp hx
   refine⟨_,rfl,_,rfl,t,_,rfl,.inl ((s1.trans s2).seq ht),rfl,bQ _,?_⟩
   rw[if_neg DU,cg]
   have:=kk H2 (Same.refl _)
   rw[DK,hb]at this
   exact this
  ·rw [DI,sM (wJ es s) (fun a=>V.bl (decide (a∈ts)))]at hnw
   refine⟨nw,(wJ es s).map fun a=>decide (a∈ts),rfl,SqL.of (by rw[hnw,Eu];rfl),?_⟩
   have e:((wJ es s).map fun a=>decide (a∈ts)).all id=sL es ts s:=by
    unfold sL
    rw[decide_eq_false hm,List.all_map]
    rfl
   rw[e]
   exact q H2 (s1.trans s2)
def tI (K:PySem.W.Frag):Sp:=fun vs H Q _=>∃(cn:Nat) (o t:Addr) (es:List (Int×Int)) (ts:List Int),vs=[.int (cn:Int),.ref o,.ref t]/\cn<=100/\RowAt H o es/\es.length<=100/\SqL K H t (ts.map V.int)/\∀l H',Same H H'->H l=none->H' l=some (.lst (((DR cn).filter fun(i:Nat)=>sL es ts (i:Int)).map fun(i:Nat)=>V.int (i:Int)))->Q (.ref l) H'
theorem zh:FnScope ["count","order","there"] ["count","order","there"] (au rj):=⟨rfl,rfl,rfl,by decide +kernel,rfl,by decide +kernel,by decide +kernel⟩
theorem zj (D:Dfs K mg aF dF) (T:Txt mg):FnOk P w K mg base aX 3 (aF 22) (dF 22) ["count","order","there"] (tI K):=by
 have Gis_free:FnOk P w K mg base aX 2 (aF 23) (dF 23) ["step","order","there"] (lZ K):=rC D T
 refine D.free.fn.ok zh (fun vs H Q E h=>?_) (fun cdv A outer s H vs Q E hr h=>?_)
 ·obtain⟨cn,o,t,es,ts,rfl,_⟩:=h;rfl
 ·have hu:=aP hr
  obtain⟨cn,o,t,es,ts,rfl,c6,ho,e1,ht,q⟩:=h
  refine⟨_,(ag (av (aJ ["step","order","there"] [none,some 1,some 2] rfl (aM rfl T.z_range (aa (pv 0) ab)) (fun _=>ao (i:=0) (aL (N:=["step","order","there"]) (by decide +kernel)) rfl (Or.inl rfl)) (fun _=>bU (bC (pc D.is_free Gis_free (hr.mono (by decide)) (aa (pv 0) (aa (pv 1) (aa (pv 2) ab)))))) (fun _=>(pv 0)) ((.cons (fun _ e=>by cases e) (.cons (fun _ e=>by cases e;exact⟨rfl,rfl⟩) (.cons (fun _ e=>by cases e;exact⟨rfl,rfl⟩) .nil))))))),?_⟩
  refine⟨_,rfl,_,rfl,eQ _,by omega,?_⟩
  rw[Er]
  refine cW (n:=cn) (fun(i:Nat)=>sL es ts (i:Int)) (by omega) (fun i hi H2 R s2 k=>?_) (fun i hi H2 R k=>?_) fun acc H2 s2 na ha=>q acc H2 s2 na ha
  ·have ei:(0:Int)+(i:Int)=((i:Nat):Int):=by omega
   rw[ei]
   refine⟨_,rfl,_,rfl,_,rfl,(i:Int),o,t,es,ts,rfl,ho.same s2,e1,s2.seq ht,fun H3 s3=>⟨_,rfl,k H3 s3⟩⟩
  ·have ei:(0:Int)+(i:Int)=((i:Nat):Int):=by omega
   rw[ei]
   exact⟨_,rfl,k⟩
def pZ (K:PySem.W.Frag):Sp:=fun vs H Q _=>∃(o d:Addr) (es:List (Int×Int)) (dn:List (Option Int)),vs=[.ref o,.ref d]/\RowAt H o es/\es.length<=100/\SqL K H d (dn.map hV)/\dn.length<=6/\∀l H',Same H H'->H l=none->H' l=some (.lst (((DR dn.length).filter fun(i:Nat)=>sL es (dg dn) (i:Int)).map fun(i:Nat)=>V.int (i:Int)))->Q (.ref l) H'
theorem xE:FnScope ["order","done"] ["order","done"] (au oq):=⟨rfl,rfl,rfl,by decide +kernel,rfl,by decide +kernel,by decide +kernel⟩
theorem xF (D:Dfs K mg aF dF) (T:Txt mg):FnOk P w K mg base aX 4 (aF 21) (dF 21) ["order","done"] (pZ K):=by
 have Gfree:FnOk P w K mg base aX 3 (aF 22) (dF 22) ["count","order","there"] (tI K):=zj D T
 refine D.ready.fn.ok xE (fun vs H Q E h=>?_) (fun cdv A outer s H vs Q E hr h=>?_)
 ·obtain⟨o,d,es,dn,rfl,_⟩:=h;rfl
 ·have hu:=aP hr
  obtain⟨o,d,es,dn,rfl,ho,e1,hd,d6,q⟩:=h
  refine⟨_,(ag (av (pc D.free Gfree (hr.mono (by decide)) (aa (ak (bw K) (by rfl) T.z_len boot_len (aa (pv 1) ab)) (aa (pv 0) (aa (aJ ["step","done"] [none,some 1] rfl (aM rfl T.z_range (aa (ak (bw K) (by rfl) T.z_len boot_len (aa (pv 1) ab)) ab)) (fun _=>ao (i:=0) (aL (N:=["step","done"]) (by decide +kernel)) rfl (Or.inl rfl)) (fun _=>bU (ax eY (az (dO K) (pv 1) (pv 0) (fun _ _=>rfl)) cK (ay _))) (fun _=>(pv 0)) ((.cons (fun _ e=>by cases e) (.cons (fun _ e=>by cases e;exact⟨rfl,rfl⟩) .nil)))) ab)))))),?_⟩
  refine⟨_,rfl,_,_,rfl,.inl ⟨_,hd,rfl⟩,_,rfl,?_⟩
  refine⟨_,rfl,_,_,rfl,.inl ⟨_,hd,rfl⟩,_,rfl,eQ _,by rw[DI];omega,?_⟩
  have e0:(((dn.map hV).length:Nat):Int).toNat=dn.length:=by rw[DI];omega
  rw[e0]
  refine cW (n:=dn.length) (fun(i:Nat)=>(dn.getD i none).isSome) (by omega) (fun i hi H2 R s2 k=>?_) (fun i hi H2 R k=>?_) fun acc H2 s2 na ha=>?_
  ·have ei:(0:Int)+(i:Int)=((i:Nat):Int):=by omega
   rw[ei]
   refine⟨_,rfl,_,rfl,d,_,_,_,rfl,rfl,s2.seq hd,eG hi,rfl,?_⟩
   have e:(!decide (hV (dn.getD i none)=V.non))=(dn.getD i none).isSome:=by rw[g8];cases dn.getD i none<;>rfl
   rw[e]
   exact⟨_,rfl,k H2 (Same.refl _)⟩
  ·have ei:(0:Int)+(i:Int)=((i:Nat):Int):=by omega
   rw[ei]
   exact⟨_,rfl,k⟩
  ·refine⟨dn.length,o,acc,es,dg dn,by rw[DI];rfl,by omega,ho.same s2,e1,SqL.of (by rw[ha];unfold dg;rw[Eu];rfl),fun l H3 s3 nl hl=>q l H3 (s2.trans s3) (s2.free nl) hl⟩
def cv (ns:List Int) (k:Nat):Int:=if k<ns.length then ns.getD k 0 else if ns=[]then(k:Int)*k*7919+13*k else(ns.getD (k%ns.length) 0+k*k*7919+1)*48271%2147483647
def eh (K:PySem.W.Frag):Sp:=fun vs H Q _=>∃(a:Addr) (ns:List Int) (k:Nat),vs=[.ref a,.int ((k:Nat):Int)]/\SqL K H a (ns.map V.int)/\ns.length<=200/\k<=1000/\∀H',Same H H'->Q (.int (cv ns k)) H'
theorem p4:FnScope ["script","k"] ["script","k"] (au ij):=⟨rfl,rfl,rfl,by decide +kernel,rfl,by decide +kernel,by decide +kernel⟩
theorem gf (D:Dfs K mg aF dF) (T:Txt mg):FnOk P w K mg base aX 1 (aF 25) (dF 25) ["script","k"] (eh K):=by
 refine D.law_cell.fn.ok p4 (fun vs H Q E h=>?_) (fun cdv A outer s H vs Q E hr h=>?_)
 ·obtain⟨a,ns,k,rfl,_⟩:=h;rfl
 ·have hu:=aP hr
  obtain⟨a,ns,k,rfl,hS,hl,hk,q⟩:=h
  refine⟨_,(af (aK (ax gM (pv 1) (ak (bw K) (by rfl) T.z_len boot_len (aa (pv 0) ab)) (ay _))
    (ag (av (az (dO K) (pv 0) (pv 1) (fun _ _=>rfl))))
    aC)
   (af (aK (ax (B6 K hr.units) (pv 0) (aG ab) (ay _))
    (ag (av (aB b5 (aB fR (aB fR (pv 1) (pv 1)) aj) (aB fR aj (pv 1)))))
    aC)
   (ag (av (aB ba (aB fR (aB b5 (aB b5 (az (dO K) (pv 0) (aB ba (pv 1) (ak (bw K) (by rfl) T.z_len boot_len (aa (pv 0) ab))) (fun _ _=>rfl)) (aB fR (aB fR (pv 1) (pv 1)) aj)) aj) aj) aj))))),?_⟩
  refine⟨_,rfl,_,rfl,_,_,rfl,.inl ⟨_,hS,rfl⟩,_,_,rfl,rfl,_,rfl,zw (fun h=>?_) fun h=>?_⟩
  ·rw [DI]at h
   have h':k<ns.length:=by omega
   refine⟨_,rfl,_,rfl,a,_,_,_,rfl,rfl,hS,bf h',?_⟩
   have e:cv ns k=ns.getD k 0:=if_pos h'
   rw[<- e]
   exact q H (Same.refl _)
  ·rw [DI]at h
   have h':¬k<ns.length:=by omega
   refine⟨_,rfl,cI,fun p np=>⟨1,_,gy ((Same.new np).seq hS) (SqL.of ae),by decide,rfl,_,rfl,By (fun h=>?_) fun h=>?_⟩⟩
   ·have e0:ns=[]:=by
     cases ns with
     | nil=>rfl
     | cons x r=>cases h
    have e:cv ns k=(k:Int)*k*7919+13*k:=by unfold cv;rw[if_neg h',if_pos e0]
    have q':=q _ (Same.new (o:= .lst []) np)
    rw[e]at q'
    refine⟨_,rfl,_,rfl,_,_,rfl,rfl,.inl ⟨by omega,by omega⟩,?_⟩
    walk_at "go"
    exact q'
   ·have e0:ns≠[]:=by rintro rfl;cases h
    have hpos:0<ns.length:=List.length_pos_iff.mpr e0
    have e:cv ns k=(ns.getD (k%ns.length) 0+k*k*7919+1)*48271%2147483647:=by unfold cv;rw[if_neg h',if_neg e0]
    have q':=q _ (Same.new (o:= .lst []) np)
    rw[e]at q'
    have hlen:((ns.map V.int).length:Int)=(ns.length:Int):=by rw[DI]
    refine⟨_,rfl,_,rfl,_,rfl,_,_,rfl,.inl ⟨_,(Same.new np).seq hS,rfl⟩,_,_,rfl,rfl,?_,?_⟩
    ·show(0:Int)<((ns.map V.int).length:Int)
     rw[hlen];omega
    ·refine⟨a,_,_,_,rfl,rfl,(Same.new np).seq hS,(?_:mM (ns.map V.int) ((k:Int)%((ns.map V.int).length:Int))=some (.int (ns.getD (k%ns.length) 0))),?_⟩
     ·rw [hlen]
      have e1:(k:Int)%(ns.length:Int)=((k%ns.length:Nat):Int):=by simp
      rw[e1]
      exact bf (Nat.mod_lt _ hpos)
     ·refine⟨_,rfl,_,rfl,_,_,rfl,rfl,.inl ⟨by omega,by omega⟩,?_⟩
      walk_at "go"
      exact q'
def cP (K:PySem.W.Frag):Sp:=fun vs H Q _=>∃(i:Int),vs=[.int i]/\Q (.bl true) H
theorem oz:FnScope ["found"] ["found"] (au fY):=⟨rfl,rfl,rfl,by decide +kernel,rfl,by decide +kernel,by decide +kernel⟩
theorem dB (D:Dfs K mg aF dF) (T:Txt mg):FnOk P w K mg base aX 1 (aF 26) (dF 26) ["found"] (cP K):=by
 refine D.law_whole.fn.ok oz (fun vs H Q E h=>?_) (fun cdv A outer s H vs Q E hr h=>?_)
 ·obtain⟨i,rfl,_⟩:=h;rfl
 ·have hu:=aP hr
  obtain⟨i,rfl,q⟩:=h
  refine⟨_,(ag (av (gX (ak (nP K) (by rfl) T.z_isinstance boot_isinstance (aa (pv 0) (aa (Ad T.z_int) ab))) (i6 (zM (ak (nP K) (by rfl) T.z_isinstance boot_isinstance (aa (pv 0) (aa (yd T.z_bool) ab)))))))),?_⟩
  exact⟨_,rfl,_,_,_,true,rfl,.int _,rfl,_,rfl,cb ⟨_,rfl,_,_,_,false,rfl,.int _,rfl,_,rfl,q⟩⟩
def l5 (K:PySem.W.Frag):Sp:=fun vs H Q _=>∃(cn:Nat) (c:Int),vs=[.int (cn:Int),.int c]/\cn<=6/\∀(l:Addr) (r:List Int) (H':Hp),Same H H'->H l=none->H' l=some (.lst (r.map V.int))->r.Perm (lb cn)->Q (.ref l) H'
theorem dN:FnScope ["count","cell","row","rest","k"] ["count","cell"] (au jo):=⟨rfl,rfl,rfl,by decide +kernel,rfl,by decide +kernel,by decide +kernel⟩
theorem rD (D:Dfs K mg aF dF) (T:Txt mg):FnOk P w K mg base aX 1 (aF 27) (dF 27) ["count","cell"] (l5 K):=by
 refine D.law_row.fn.ok dN (fun vs H Q E h=>?_) (fun cdv A outer s H vs Q E hr h=>?_)
 ·obtain⟨cn,c,rfl,_⟩:=h;rfl
 ·have hu:=aP hr
  obtain⟨cn,c,rfl,c6,q⟩:=h
  refine⟨_,(af (aA (i:=2) dN.nd rfl (Or.inl rfl) (aG ab))
   (af (aA (i:=3) dN.nd rfl (Or.inl rfl) (aB ba (pv 1) (aB nK aj aj)))
   (af (aY PassesOwn.never rfl (aM rfl T.z_range (aa (pv 0) ab)) (ao (i:=4) dN.nd rfl (Or.inl rfl))
    (af (bZ (dP PySem.F.plainAttrs_list PySem.F.slot_list_insert PySem.F.type_list_insert uq (pv 2) (aa (aB ba (pv 3) (aB b5 (pv 4) aj)) (aa (pv 4) ab))))
    (ag (aA (i:=3) dN.nd rfl (Or.inl rfl) (aB b8 (pv 3) aj)))))
   (ag (av (pv 2)))))),?_⟩
  refine⟨cI,fun l nl=>?_⟩
  refine⟨_,rfl,_,_,rfl,rfl,⟨by decide,by decide,by decide⟩,_,_,rfl,rfl,(show(0:Int)<10^(9:Int).toNat by decide),?_⟩
  refine⟨_,rfl,_,rfl,eQ _,by omega,?_⟩
  rw[Er]
  refine cE (n:=cn) (fun i σ Hx=>∃(r:List Int) (x:Int) (y:Option V),σ=[some (.int (cn:Int)),some (.int c),some (.ref l),some (.int x),y]/\Same H Hx/\Hx l=some (.lst (r.map V.int))/\r.Perm (lb i)) ⟨[],_,none,rfl,Same.new nl,ae,.nil⟩ ?_ ?_
  ·rintro i σ Hx hi ⟨r,x,y,rfl,sx,hl,pr⟩
   have ei:(0:Int)+(i:Int)=((i:Nat):Int):=by omega
   rw[ei]
   have lr:=(lg pr).1
   have w0:=FT x (show(i:Int)+1≠0 by omega)
   have w1:=FB x (show(0:Int)<(i:Int)+1 by omega)
   refine⟨_,rfl,.inl ⟨rfl,_,SqL.of hl⟩,_,rfl,_,rfl,_,_,rfl,rfl,_,_,rfl,rfl,(show(0:Int)<(i:Int)+1 by omega),_,rfl,l,_,_,_,rfl,rfl,hl,kb (by rw[DI];omega),w0,(by omega),?_⟩
   refine⟨_,rfl,_,_,rfl,rfl,(show jS _ 7 from⟨by decide,by decide⟩),?_⟩
   exact⟨_,_,_,rfl,sx.put nl,(by rw[ae,<- FQ,<- List.map_drop];exact congrArg (fun z=>some (HO.lst z)) (DY (f:=V.int) (l₁:=r.take (x%((i:Int)+1)).toNat) (l₂:=(i:Int) :: r.drop (x%((i:Int)+1)).toNat)).symm),yD _ pr⟩
  ·rintro σ Hx ⟨r,x,y,rfl,sx,hl,pr⟩
   exact⟨_,rfl,q l r Hx sx nl hl pr⟩
def iZ (K:PySem.W.Frag):Sp:=fun vs H Q _=>∃(c rw':Addr) (cs r:List Int),vs=[.ref c,.ref rw']/\SqL K H c (cs.map V.int)/\cs.length<=100/\H rw'=some (.lst (r.map V.int))/\0<r.length/\r.length<=6/\∀l es H',Same H H'->H l=none->RowAt H' l es->es.length<=cs.length->(∀x∈es,∃i j:Nat,i<j/\r[i]?=some x.1/\r[j]?=some x.2)->Q (.ref l) H'
theorem cq:FnScope ["cells","row","order","number","cell","one","other"] ["cells","row"] (au fZ):=⟨rfl,rfl,rfl,by decide +kernel,rfl,by decide +kernel,by decide +kernel⟩
theorem oA (D:Dfs K mg aF dF) (T:Txt mg):FnOk P w K mg base aX 1 (aF 28) (dF 28) ["cells","row"] (iZ K):=by
 refine D.law_order.fn.ok cq (fun vs H Q E h=>?_) (fun cdv A outer s H vs Q E hr h=>?_)
 ·obtain⟨c,rw',cs,r,rfl,_⟩:=h;rfl
 ·have hu:=aP hr
  obtain⟨c,rw',cs,r,rfl,hc,c1,hw,r0,r6,q⟩:=h
  refine⟨_,(af (aA (i:=2) cq.nd rfl (Or.inl rfl) (aG ab))
   (af (aY PassesOwn.never rfl (gZ K (pv 0)) (ao (i:=3) cq.nd rfl (Or.inl rfl))
    (af (aA (i:=4) cq.nd rfl (Or.inl rfl) (aB ba (aB fR (pv 3) aj) aj))
    (af (aA (i:=5) cq.nd rfl (Or.inl rfl) (aB ba (pv 4) (ak (bw K) (by rfl) T.z_len boot_len (aa (pv 1) ab))))
    (af (aA (i:=6) cq.nd rfl (Or.inl rfl) (aB ba (aB b8 (pv 4) aj) (ak (bw K) (by rfl) T.z_len boot_len (aa (pv 1) ab))))
    (ag (aK (ax fH (pv 5) (pv 6) (ay _))
     (ag (bZ (dP PySem.F.plainAttrs_list PySem.F.slot_list_append PySem.F.type_list_append a8 (pv 2) (aa (cy (aa (az (dO K) (pv 1) (ak (mJ rfl) (by rfl) T.z_min boot_min (aa (pv 5) (aa (pv 6) ab))) (fun _ _=>rfl)) (aa (az (dO K) (pv 1) (ak (mI rfl) (by rfl) T.z_max boot_max (aa (pv 5) (aa (pv 6) ab))) (fun _ _=>rfl)) ab))) ab))))
     aC))))))
   (ag (av (pv 2))))),?_⟩
  refine⟨cI,fun l nl=>?_⟩
  refine⟨_,rfl,c,rfl,⟨_,(Same.new nl).seq hc⟩,?_⟩
  refine be (K:=K) (a:=c) (xs:=cs.map V.int) (fun i σ Hx=>∃(x y z u:Option V) (es:List (Int×Int)),σ=[some (.ref c),some (.ref rw'),some (.ref l),x,y,z,u]/\Same H Hx/\RowAt Hx l es/\es.length<=i/\∀x∈es,∃i j:Nat,i<j/\r[i]?=some x.1/\r[j]?=some x.2) ⟨none,none,none,none,[],rfl,Same.new nl,⟨[],ae,.nil⟩,Eo _,fun _ z=>by cases z⟩ (fun i σ Hx _ hq__=>by obtain⟨_,_,_,_,_,_,s,_⟩:=hq__;exact s.seq hc) ?_ ?_
  ·rintro i y σ Hx hix ⟨x,y',z,u,es,rfl,sx,⟨ps,hp,tx⟩,le,ok⟩
   obtain⟨d,hd,rfl,ed⟩:=g7 hix
   have hi':=(DN.mp hd).1
   have hw2:=sx _ _ hw
   refine⟨_,rfl,_,_,rfl,rfl,(show CMul _ _ from .inr ⟨by decide,by decide⟩),_,_,rfl,rfl,(show(0:Int)<2147483647 by decide),?_⟩
   have rp:(0:Int)<(r.length:Int):=by omega
   refine⟨_,rfl,_,rfl,_,r.length,rfl,.inl ⟨_,SqL.of hw2,by rw[DI]⟩,_,_,rfl,rfl,rp,?_⟩
   refine⟨_,rfl,_,_,rfl,rfl,(show jS _ 6 from⟨by decide,by decide⟩),_,rfl,_,r.length,rfl,.inl ⟨_,SqL.of hw2,by rw[DI]⟩,_,_,rfl,rfl,rp,?_⟩
   dsimp only
   generalize d*48271%2147483647=ce
   obtain⟨a,ha,ea⟩:=pB ce r0
   obtain⟨b,hb,eb⟩:=pB (ce/6) r0
   rw[ea,eb]
   refine⟨_,rfl,_,rfl,rfl,_,rfl,vR (fun ne=>?_) fun _=>⟨_,_,_,_,es,rfl,sx,⟨ps,hp,tx⟩,by omega,ok⟩⟩
   obtain⟨i1,j1,hij,e1,e2,hb'⟩:=CS ne
   have hi1:i1<r.length:=by omega
   have hj1:j1<r.length:=by omega
   have psl:=tx.len
   refine⟨_,rfl,.inl ⟨rfl,_,SqL.of hp⟩,_,rfl,_,rfl,_,rfl,_,_,rfl,rw',_,_,_,rfl,rfl,SqL.of hw2,(by rw[e1];exact bf hi1),_,rfl,_,rfl,_,rfl,_,_,rfl,rw',_,_,_,rfl,rfl,SqL.of hw2,(by rw[e2];exact bf hj1),cI,fun t nt=>?_⟩
   refine⟨l,_,_,rfl,rfl,(Same.new nt) _ _ hp,kb (by rw[DI];omega),?_⟩
   refine⟨_,_,_,_,es++[(r.getD i1 0,r.getD j1 0)],rfl,(sx.to nt).put nl,RowAt.put (x:=(r.getD i1 0,r.getD j1 0)) hp tx nt,by rw[DX,Ec];omega,fun x hx=>?_⟩
   rcases Eg.mp hx with z | z
   ·exact ok x z
   ·rw [DV.mp z];exact⟨i1,j1,hij,ni hi1,ni hj1⟩
  ·rintro σ Hx ⟨x,y,z,u,es,rfl,sx,ra,le,ok⟩
   rw[DI]at le
   exact⟨_,rfl,q l es Hx sx nl ra le ok⟩
def Ci:List Int:=[7,30,10^18]
theorem BV (c:Int):∃d:Int,mM [V.int 7,V.int 30,V.int (10^18)] (c%3)=some (.int d)/\0<d/\d<=10^18:=by
 obtain⟨n,h,e⟩:=pB c (n:=3) (by decide)
 rw[show c%3=((n:Nat):Int)from e]
 exact⟨Ci.getD n 0,(show ∀n:Nat,n<3->mM [V.int 7,V.int 30,V.int (10^18)] (n:Int)=some (.int (Ci.getD n 0))/\0<Ci.getD n 0/\Ci.getD n 0<=10^18 by decide) n h⟩
def jJ (K:PySem.W.Frag):Sp:=fun vs H Q _=>∃(a:Addr) (ns:List Int) (at' wd:Nat),vs=[.ref a,.int ((at':Nat):Int),.int ((wd:Nat):Int)]/\SqL K H a (ns.map V.int)/\ns.length<=200/\at'<=500/\wd<=60/\0<wd/\
 ∀l (ms:List Int) H',Same H H'->H l=none->H' l=some (.lst (ms.map V.int))->ms.Pairwise (· < ·)->ms.length<=wd->ms≠[]->(∀b∈ms,1<=b/\b<=10^18)->Q (.ref l) H'
theorem eA:FnScope ["script","at","wide","badges","k","cell"] ["script","at","wide"] (au iq):=⟨rfl,rfl,rfl,by decide +kernel,rfl,by decide +kernel,by decide +kernel⟩
theorem p7 (D:Dfs K mg aF dF) (T:Txt mg):FnOk P w K mg base aX 2 (aF 29) (dF 29) ["script","at","wide"] (jJ K):=by
 have Glaw_cell:FnOk P w K mg base aX 1 (aF 25) (dF 25) ["script","k"] (eh K):=gf D T
 refine D.law_menu.fn.ok eA (fun vs H Q E h=>?_) (fun cdv A outer s H vs Q E hr h=>?_)
 ·obtain⟨a,ns,at',wd,rfl,_⟩:=h;rfl
 ·have hu:=aP hr
  obtain⟨a,ns,at',wd,rfl,hS,hl,hat,hwd,hwd0,q⟩:=h
  refine⟨_,(af (aA (i:=3) eA.nd rfl (Or.inl rfl) (aG ab))
   (af (aY PassesOwn.never rfl (aM rfl T.z_range (aa (pv 2) ab)) (ao (i:=4) eA.nd rfl (Or.inl rfl))
    (af (aA (i:=5) eA.nd rfl (Or.inl rfl) (pc D.law_cell Glaw_cell (hr.mono (by decide)) (aa (pv 0) (aa (aB b5 (pv 1) (pv 4)) ab))))
    (ag (bZ (dP PySem.F.plainAttrs_list PySem.F.slot_list_append PySem.F.type_list_append a8 (pv 3) (aa (aB b5 aj (aB ba (aB b8 (pv 5) aj) (az (dO K) (aG (aa aj (aa aj (aa (aB nK aj aj) ab)))) (aB ba (pv 5) aj) (fun _ _=>rfl)))) ab))))))
   (ag (av (ak (kR w) (by rfl) T.z_sorted boot_sorted (aa (aI (nU w K) (by rfl) T.z_set PyProof.Rows.boot_set (aa (pv 3) ab)) ab)))))),?_⟩
  refine⟨cI,fun l nl=>?_⟩
  refine⟨_,rfl,_,rfl,eQ _,by omega,?_⟩
  have e0:((wd:Int)).toNat=wd:=by omega
  rw[e0]
  refine cE (n:=wd) (fun i σ H1=>∃(bs:List Int) (x y:Option V),σ=[some (.ref a),some (.int at'),some (.int wd),some (.ref l),x,y]/\Same H H1/\H1 l=some (.lst (bs.map V.int))/\bs.length=i/\∀b∈bs,1<=b/\b<=10^18) ⟨[],none,none,rfl,Same.new nl,ae,rfl,fun _ z=>by cases z⟩ ?_ ?_
  ·rintro i σ H1 hi ⟨bs,x,y,rfl,s1,hl1,hlen,hb⟩
   have ei:(at':Int)+(0+(i:Int))=((at'+i:Nat):Int):=by omega
   refine⟨_,rfl,_,rfl,_,rfl,_,_,rfl,rfl,a,ns,at'+i,(by show [V.ref a,V.int ((at':Int)+(0+(i:Int)))]=_;rw[ei]),s1.seq hS,by omega,by omega,fun H2 s2=>?_⟩
   have hl2:=s2 _ _ hl1
   refine⟨_,rfl,.inl ⟨rfl,_,SqL.of hl2⟩,?_⟩
   walk_at "go"
   refine⟨cI,fun p np=>?_⟩
   obtain⟨d,hd,hd0,hd1⟩:=BV (cv ns (at'+i))
   refine⟨_,rfl,_,_,rfl,rfl,(show(0:Int)<3 by decide),p,_,_,_,rfl,rfl,SqL.of ae,hd,_,_,rfl,rfl,hd0,_,_,rfl,rfl,?_⟩
   have npl:l≠p:=aw hl2 np
   refine⟨l,_,_,rfl,rfl,by rw[aq npl];exact hl2,kb (by rw[DI];omega),?_⟩
   have w1:=FT (cv ns (at'+i)/3) (show d≠0 by omega)
   have w2:=FB (cv ns (at'+i)/3) hd0
   refine⟨bs++[1+cv ns (at'+i)/3%d],_,_,rfl,((s1.trans s2).to np).put nl,?_,by rw[DX,Ec,hlen],fun b hb'=>?_⟩
   ·rw [ae,DY];rfl
   ·rcases Eg.mp hb' with h | h
    ·exact hb b h
    ·rw [DV.mp h];omega
  ·rintro σ H1 ⟨bs,x,y,rfl,s1,hl1,hlen,hb⟩
   have dl:=dk bs
   refine⟨_,rfl,l,bs,rfl,SqL.of hl1,by omega,fun S nS=>⟨S,dd bs,rfl,ae,by omega,fun r ks nr hp hs=>?_⟩⟩
   refine q r ks _ ((s1.to nS).to nr) ?_ ae (n8 hs (hp.nodup_iff.mpr (iM bs))) (by rw[hp.length_eq];omega) ?_ ?_
   ·exact(s1.to nS).free nr
   ·rintro rfl
    have e:=hp.symm.eq_nil
    cases bs with
    | nil=>simp at hlen;omega
    | cons b r=>
     have:b∈dd (b :: r):=aZ.mpr (Ei ..)
     rw[e]at this
     cases this
   ·exact fun b hb'=>hb b (aZ.mp (hp.mem_iff.mp hb'))
def jK (K:PySem.W.Frag):Sp:=fun vs H Q _=>∃(a:Addr) (ms:List Int) (c st:Int),vs=[.ref a,.int c,.int st]/\SqL K H a (ms.map V.int)/\ms.length<=100/\0<st/\st<100/\
 ∀l (ks:List Int) H',Same H H'->H l=none->H' l=some (.lst (ks.map V.int))->ks.Sublist ms->Q (.ref l) H'
theorem dh:FnScope ["menu","cell","step","kept","rest","badge"] ["menu","cell","step"] (au ir):=⟨rfl,rfl,rfl,by decide +kernel,rfl,by decide +kernel,by decide +kernel⟩
theorem p8 (D:Dfs K mg aF dF) (T:Txt mg):FnOk P w K mg base aX 1 (aF 30) (dF 30) ["menu","cell","step"] (jK K):=by
 refine D.law_some.fn.ok dh (fun vs H Q E h=>?_) (fun cdv A outer s H vs Q E hr h=>?_)
 ·obtain⟨a,ms,c,st,rfl,_⟩:=h;rfl
 ·have hu:=aP hr
  obtain⟨a,ms,c,st,rfl,hS,hl,hs0,hs1,q⟩:=h
  refine⟨_,(af (aA (i:=3) dh.nd rfl (Or.inl rfl) (aG ab))
   (af (aA (i:=4) dh.nd rfl (Or.inl rfl) (aB ba (pv 1) (aB nK aj aj)))
   (af (aY PassesOwn.never rfl (gZ K (pv 0)) (ao (i:=5) dh.nd rfl (Or.inl rfl))
    (se (aK (ax cL (aB ba (pv 4) (pv 2)) aj (ay _))
     (ag (bZ (dP PySem.F.plainAttrs_list PySem.F.slot_list_append PySem.F.type_list_append a8 (pv 3) (aa (pv 5) ab))))
     aC)
    (ag (aA (i:=4) dh.nd rfl (Or.inl rfl) (aB b8 (pv 4) (pv 2))))))
   (ag (av (pv 3)))))),?_⟩
  refine⟨cI,fun l nl=>?_⟩
  refine⟨_,rfl,?_⟩
  walk_at "go"
  refine⟨⟨_,(Same.new nl).seq hS⟩,?_⟩
  refine be (K:=K) (a:=a) (xs:=ms.map V.int) (fun i σ H1=>∃(ks:List Int) (re:Int) (x:Option V),σ=[some (.ref a),some (.int c),some (.int st),some (.ref l),some (.int re),x]/\Same H H1/\H1 l=some (.lst (ks.map V.int))/\ks.Sublist (ms.take i))
   ⟨[],_,none,rfl,Same.new nl,ae,List.Sublist.refl _⟩ (fun i σ H1 _ hq__=>by obtain⟨_,_,_,_,s,_⟩:=hq__;exact s.seq hS) ?_ ?_
  ·rintro i y σ H1 hi ⟨ks,re,x,rfl,s1,hl1,hsub⟩
   obtain⟨b,hb,rfl⟩:∃b,ms[i]?=some b/\y=V.int b:=by
    rw[DM]at hi
    obtain⟨b,h1,h2⟩:=DO.mp hi
    exact⟨b,h1,h2.symm⟩
   have hkl:ks.length<=ms.length:=Ek hsub.length_le (by rw[EA];omega)
   refine⟨fun σ H2=>∃ks':List Int,σ=[some (.ref a),some (.int c),some (.int st),some (.ref l),some (.int re),some (.int b)]/\Same H H2/\H2 l=some (.lst (ks'.map V.int))/\ks'.Sublist (ms.take (i+1)),?_,?_⟩
   ·refine⟨_,rfl,_,rfl,_,_,rfl,rfl,hs0,rfl,_,rfl,yg (fun _=>?_) fun _=>⟨ks,rfl,s1,hl1,hsub.trans (List.take_sublist_take_left (by omega))⟩⟩
    refine⟨_,rfl,.inl ⟨rfl,_,SqL.of hl1⟩,_,rfl,l,_,_,rfl,rfl,hl1,kb (by rw[DI];omega),?_⟩
    refine⟨ks++[b],rfl,s1.put nl,?_,?_⟩
    ·rw [ae,DY];rfl
    ·rw [FJ,hb]
     exact hsub.append (List.Sublist.refl _)
   ·rintro σ H2 ⟨ks',rfl,s2,hl2,hsub2⟩
    exact⟨_,rfl,_,rfl,_,_,rfl,rfl,⟨hs0,by omega⟩,ks',_,_,rfl,s2,hl2,hsub2⟩
  ·rintro σ H1 ⟨ks,re,x,rfl,s1,hl1,hsub⟩
   rw[DI,EL]at hsub
   exact⟨_,rfl,q l ks H1 s1 nl hl1 hsub⟩
theorem BW (c:Int):∃wd:Str,mM [V.str "most",V.str "least"] (c%2)=some (.str wd)/\(wd="most"\/wd="least"):=by
 rcases(show c%2=0\/c%2=1 by omega)with e | e
 ·rw [e];exact⟨"most",rfl,.inl rfl⟩
 ·rw [e];exact⟨"least",rfl,.inr rfl⟩
theorem BX (c:Int):∃d:Int,mM [V.int 3,V.int 6] (c%2)=some (.int d)/\0<d/\d<=6:=by
 rcases(show c%2=0\/c%2=1 by omega)with e | e
 ·rw [e];exact⟨3,rfl,by decide,by decide⟩
 ·rw [e];exact⟨6,rfl,by decide,by decide⟩
def vh:List Int:=[1,2,4,8,16,32]
theorem AQ {i:Nat} (h:i<6):mM [V.int 1,V.int 2,V.int 4,V.int 8,V.int 16,V.int 32] (i:Int)=some (.int (vh.getD i 0))/\0<vh.getD i 0/\vh.getD i 0<100:=
 (show ∀i:Nat,i<6->mM [V.int 1,V.int 2,V.int 4,V.int 8,V.int 16,V.int 32] (i:Int)=some (.int (vh.getD i 0))/\0<vh.getD i 0/\vh.getD i 0<100 by decide) i h
def l7 (K:PySem.W.Frag):Sp:=fun vs H Q _=>∃(n:Int) (many:Nat),vs=[.int n,.int ((many:Nat):Int)]/\1<=many/\many<=6/\
 ∀x H',Same H H'->TieT H' x->TieG many x->Q (.ref x.1) H'
theorem fE:FnScope ["number","count","cell","steps"] ["number","count"] (au jq):=⟨rfl,rfl,rfl,by decide +kernel,rfl,by decide +kernel,by decide +kernel⟩
theorem rE (D:Dfs K mg aF dF) (T:Txt mg):FnOk P w K mg base aX 1 (aF 31) (dF 31) ["number","count"] (l7 K):=by
 refine D.law_tie.fn.ok fE (fun vs H Q E h=>?_) (fun cdv A outer s H vs Q E hr h=>?_)
 ·obtain⟨n,many,rfl,_⟩:=h;rfl
 ·have hu:=aP hr
  obtain⟨n,many,rfl,m1,m6,q⟩:=h
  refine⟨_,(af (aA (i:=2) fE.nd rfl (Or.inr rfl) (aB ba (aB fR (pv 0) aj) aj))
   (af (e8 (i₀:=3) fE.nd rfl (Or.inl rfl) ["step","cell"] [none,some 2] rfl (aM rfl T.z_range (aa (pv 1) ab)) (fun _=>ao (i:=0) (aL (N:=["step","cell"]) (by decide +kernel)) rfl (Or.inl rfl)) (fun _=>bU (ax cL (aB ba (aB b8 (pv 1) (az (dO K) (aG (aa aj (aa aj (aa aj (aa aj (aa aj (aa aj ab))))))) (pv 0) (fun _ _=>rfl))) aj) aj (ay _))) (fun _=>(pv 0)) ((.cons (fun _ e=>by cases e) (.cons (fun _ e=>by cases e;exact⟨rfl,rfl⟩) .nil))))
   (se (aK (ax (B6 K hr.units) (pv 3) (aG ab) (ay _))
    (ag (aA (i:=3) fE.nd rfl (Or.inl rfl) (aG (aa (aB ba (aB b8 (pv 2) aj) (pv 1)) ab))))
    aC)
   (ag (av (cy (aa (az (dO K) (aG (aa a7 (aa a7 ab))) (aB ba (aB b8 (pv 2) aj) aj) (fun _ _=>rfl)) (aa (aB b5 aj (aB ba (aB b8 (pv 2) aj) (az (dO K) (aG (aa aj (aa aj ab))) (aB ba (aB b8 (pv 2) aj) aj) (fun _ _=>rfl)))) (aa (aI me (by rfl) T.z_tuple boot_tuple (aa (pv 3) ab)) ab))))))))),?_⟩
  refine⟨_,rfl,_,_,rfl,rfl,(show CMul _ _ from .inr ⟨by decide,by decide⟩),_,_,rfl,rfl,(show(0:Int)<2147483629 by decide),?_⟩
  dsimp only
  generalize n*69621%2147483629=c
  refine⟨_,rfl,_,rfl,eQ _,by omega,?_⟩
  rw[Er]
  refine cW (n:=many) (fun i=>decide (c/vh.getD i 0%2=1)) (by omega) (fun i hi H3 R s3 k=>?_) (fun i hi H3 R k=>?_) fun sl H3 s3 nsl hsl=>?_
  ·have ei:(0:Int)+(i:Int)=((i:Nat):Int):=by omega
   rw[ei]
   obtain⟨g1,g2,g3⟩:=AQ (show i<6 by omega)
   have kk:∀H4,Same H3 H4->R (decide (c/vh.getD i 0%2=1)) H4:=k
   refine⟨_,rfl,cI,fun l nl=>⟨_,rfl,l,_,_,_,rfl,rfl,SqL.of ae,g1,_,_,rfl,rfl,⟨g2,by omega⟩,_,_,rfl,rfl,(show(0:Int)<2 by decide),rfl,_,rfl,?_⟩⟩
   have z:=kk _ (Same.new (o:= .lst [V.int 1,V.int 2,V.int 4,V.int 8,V.int 16,V.int 32]) nl)
   rw[<- AA]at z
   exact z
  ·have ei:(0:Int)+(i:Int)=((i:Nat):Int):=by omega
   rw[ei]
   exact⟨_,rfl,k⟩
  have hst:∀i∈((DR many).filter fun i=>decide (c/vh.getD i 0%2=1)),i<many:=fun i hi=>Ee.mp (Ej.mp hi).1
  have hup:((DR many).filter fun i=>decide (c/vh.getD i 0%2=1)).Pairwise (· < ·):=List.Pairwise.filter _ List.pairwise_lt_range
  have hle:((DR many).filter fun i=>decide (c/vh.getD i 0%2=1)).length<=6:=Ek (Et _ _) (by rw[Ew];exact m6)
  generalize (DR many).filter (fun i=>decide (c/vh.getD i 0%2=1))=st at hsl hst hup hle
  refine⟨fun σ H5=>∃(sl':Addr) (st:List Nat),σ=[some (.int n),some (.int ((many:Nat):Int)),some (.int c),some (.ref sl')]/\Same H H5/\H5 sl'=some (.lst (st.map fun(i:Nat)=>V.int (i:Int)))/\st≠[]/\(∀i∈st,i<many)/\st.Pairwise (· < ·)/\st.length<=6,?_,?_⟩
  ·refine⟨_,rfl,cI,fun p np=>?_⟩
   have s4:=Same.new (o:= .lst []) np
   have s04:=s3.trans s4
   cases hs:st with
   | nil=>
    rw[hs]at hsl
    refine⟨1,true,gy (SqL.of (s4 _ _ hsl)) (SqL.of ae),by decide,rfl,_,rfl,cb ?_⟩
    obtain⟨m,hm,em⟩:=pB (c/64) (n:=many) (by omega)
    refine⟨_,rfl,_,_,rfl,rfl,(show jS _ 64 from⟨by decide,by decide⟩),_,rfl,_,_,rfl,rfl,(show(0:Int)<((many:Nat):Int) by omega),cI,fun l2 nl2=>?_⟩
    refine⟨l2,[m],rfl,s04.to nl2,?_,by simp,fun i hi=>by rw[DV.mp hi];exact hm,Fm _ _,by simp⟩
    rw[ae]
    dsimp only
    rw[em]
    rfl
   | cons i r=>
    rw[hs]at hsl
    refine⟨1,false,gy (SqL.of (s4 _ _ hsl)) (SqL.of ae),by decide,rfl,_,rfl,a9 ?_⟩
    rw[hs]at hst hup hle
    exact⟨sl,i :: r,rfl,s04,s4 _ _ hsl,by simp,hst,hup,hle⟩
  ·rintro σ H5 ⟨sl',st,rfl,s5,hsl,sne,slt,sup,sle⟩
   obtain⟨wd,hwd,hw2⟩:=BW (c/64)
   obtain⟨lm,hlm,l0,l6⟩:=BX (c/896)
   have k1:=FT (c/128) (show lm≠0 by omega)
   have k2:=FB (c/128) l0
   refine⟨cI,fun pa npa=>⟨_,rfl,_,_,rfl,rfl,(show jS _ 64 from⟨by decide,by decide⟩),_,_,rfl,rfl,(show(0:Int)<2 by decide),pa,_,_,_,rfl,rfl,SqL.of ae,hwd,?_⟩⟩
   have s6:=s5.to (o:= .lst [.str "most",.str "least"]) npa
   have hsl6:=(Same.new (o:= .lst [.str "most",.str "least"]) npa) _ _ hsl
   generalize aE H5 pa (.lst [.str "most",.str "least"])=H6 at s6 hsl6
   refine⟨_,rfl,_,_,rfl,rfl,(show jS _ 128 from⟨by decide,by decide⟩),cI,fun pb npb=>⟨_,rfl,_,_,rfl,rfl,(show jS _ 896 from⟨by decide,by decide⟩),_,_,rfl,rfl,(show(0:Int)<2 by decide),pb,_,_,_,rfl,rfl,SqL.of ae,hlm,_,_,rfl,rfl,l0,_,_,rfl,rfl,?_⟩⟩
   have s7:=s6.to (o:= .lst [.int 3,.int 6]) npb
   have hsl7:=(Same.new (o:= .lst [.int 3,.int 6]) npb) _ _ hsl6
   generalize aE H6 pb (.lst [.int 3,.int 6])=H7 at s7 hsl7
   refine⟨_,rfl,sl',_,rfl,.inl ⟨SqL.of hsl7,fun t nt=>⟨cI,fun tp ntp=>?_⟩⟩⟩
   have ntt:t≠tp:=fun z=>by rw[<- z,ae]at ntp;cases ntp
   exact q (tp,t,wd,1+c/128%lm,st) _ ((s7.to nt).to ntp) ⟨ae,by show aE _ tp _ t=_;rw[aq ntt];exact ae,hw2,sle⟩ ⟨by show(1:Int)<=1+c/128%lm;omega,by show 1+c/128%lm<=6;omega,sne,slt,sup⟩
def gg (K:PySem.W.Frag):Sp:=fun vs H Q _=>∃(ha ma ta:Addr) (rs:List Addr) (may:List (List Int)) (ts:List (Addr×Addr×Str×Int×List Nat)) (hs:List Int),vs=[.ref ha,.ref ma,.ref ta]/\H ha=some (.lst (hs.map V.int))/\SqL K H ma (rs.map V.ref)/\PoolsL K H rs may/\may.length<=6/\Ties K H ta ts 100/\(∀x∈ts,TieG may.length x)/\IsPlan may (ts.map dU) hs/\∀H',Same H H'->Q (.bl true) H'
theorem b7:FnScope ["hands","may","ties","badge","some","word","limit","steps","many"] ["hands","may","ties"] (au iu):=⟨rfl,rfl,rfl,by decide +kernel,rfl,by decide +kernel,by decide +kernel⟩
theorem jL (D:Dfs K mg aF dF) (T:Txt mg):FnOk P w K mg base aX 2 (aF 32) (dF 32) ["hands","may","ties"] (gg K):=by
 have Glaw_whole:FnOk P w K mg base aX 1 (aF 26) (dF 26) ["found"] (cP K):=dB D T
 refine D.law_fits.fn.ok b7 (fun vs H Q E h=>?_) (fun cdv A outer s H vs Q E hr h=>?_)
 ·obtain⟨ha,ma,ta,rs,may,ts,hs,rfl,_⟩:=h;rfl
 ·have hu:=aP hr
  obtain⟨ha,ma,ta,rs,may,ts,hs,rfl,hh,hm,po,m6,tt,tg,ip,q⟩:=h
  refine⟨_,(af (aK (PW.pt (cQ (cw (bC (ak (nP K) (by rfl) T.z_isinstance boot_isinstance (aa (pv 0) (aa (j9 T.z_list) ab))))) (cR (ax fH (ak (bw K) (by rfl) T.z_len boot_len (aa (pv 0) ab)) (ak (bw K) (by rfl) T.z_len boot_len (aa (pv 1) ab)) (ay _)))))
    (ag (av bP))
    aC)
   (af (aY PassesOwn.never rfl (qI K rfl T.z_zip (aa (pv 0) (aa (pv 1) ab))) (vP K rfl (aD (ao (i:=3) b7.nd rfl (Or.inl rfl)) (aD (ao (i:=4) b7.nd rfl (Or.inl rfl)) b3)))
    (ag (aK (PW.pt (cQ (cw (bC (pc D.law_whole Glaw_whole (hr.mono (by decide)) (aa (pv 3) ab)))) (cR (ax (ud K) (pv 3) (pv 4) (by with_unfolding_all rfl)))))
     (ag (av bP))
     aC)))
   (af (aY PassesOwn.never rfl (gZ K (pv 2)) (vP K rfl (aD (ao (i:=5) b7.nd rfl (Or.inl rfl)) (aD (ao (i:=6) b7.nd rfl (Or.inl rfl)) (aD (ao (i:=7) b7.nd rfl (Or.inl rfl)) b3))))
    (af (aA (i:=8) b7.nd rfl (Or.inl rfl) (ak (o8 w) (by rfl) T.z_len boot_len (aa (aI (nU w K) (by rfl) T.z_set PyProof.Rows.boot_set (aa (aJ ["step","hands"] [none,some 0] rfl (B7 K (pv 7)) (fun _=>ao (i:=0) (aL (N:=["step","hands"]) (by decide +kernel)) rfl (Or.inl rfl)) (fun _=>bA) (fun _=>(az (dO K) (pv 1) (pv 0) (fun _ _=>rfl))) ((.cons (fun _ e=>by cases e) (.cons (fun _ e=>by cases e;exact⟨rfl,rfl⟩) .nil)))) ab)) ab)))
    (ag (aK (PW.pt (cQ (PW.pt (ku (ax cL (pv 5) a7 (ay _)) (j5 (ax rL (pv 8) (pv 6) (ay _))))) (cR (PW.pt (ku (ax cL (pv 5) a7 (ay _)) (j5 (ax gM (pv 8) (pv 6) (ay _))))))))
     (ag (av bP))
     aC))))
   (ag (av bP))))),?_⟩
  have rl:rs.length=may.length:=po.len
  have hl:=ip.len
  refine⟨_,rfl,_,_,_,true,rfl,.lst hh,rfl,_,rfl,a9 ?_⟩
  refine⟨_,rfl,_,hs.length,rfl,.inl ⟨_,SqL.of hh,by rw[DI]⟩,_,rfl,_,may.length,rfl,.inl ⟨_,hm,by rw[DI,rl]⟩,rfl,_,rfl,k9 (by rw[hl]) ?_⟩
  refine⟨_,rfl,_,rfl,ha,ma,_,_,rfl,SqL.of hh,hm,?_⟩
  refine sH (K:=K) (a:=ha) (b:=ma) (xs:=hs.map V.int) (ys:=rs.map V.ref) (by rw[DI,DI];omega) (fun i σ Hx=>∃x y:Option V,σ=[some (.ref ha),some (.ref ma),some (.ref ta),x,y,none,none,none,none]/\Same H Hx) ⟨none,none,rfl,Same.refl _⟩ (fun i σ Hx _ hq__=>by obtain⟨_,_,_,s⟩:=hq__;exact⟨SqL.of (s _ _ hh),s.seq hm⟩) ?_ ?_
  ·rintro i u v σ Hx p hu' hv ⟨x,y,rfl,sx⟩ np
   obtain⟨d,hd,rfl,ed⟩:=g7 hu'
   have hi:=(DN.mp hd).1
   rw[DM]at hv
   obtain⟨r,hr',rfl⟩:=DO.mp hv
   have s1:=sx.to (o:= .tup [V.int d,V.ref r]) np
   obtain⟨r',e1,e2⟩:=(po.same s1).at (DJ (show i<may.length by omega))
   rw[hr']at e1
   cases e1
   have mem:d∈may[i]'(by omega):=by
    have z:=ip.of i hi
    rw[ed,bx (show i<may.length by omega)]at z
    exact z
   refine⟨p,_,rfl,SqT.of ae,rfl,_,_,rfl,_,_,rfl,rfl,?_⟩
   refine⟨_,rfl,d,rfl,_,rfl,a9 ?_⟩
   refine⟨_,rfl,_,rfl,r,_,rfl,.inl e2,rfl,bQ _,?_⟩
   rw[if_pos rfl,cg]
   exact⟨_,rfl,n9 mem ⟨_,_,rfl,s1⟩⟩
  rintro σ Hx ⟨x,y,rfl,sx⟩
  refine⟨_,rfl,ta,rfl,⟨_,sx.seq tt.ls⟩,?_⟩
  refine be (K:=K) (a:=ta) (xs:=ts.map fun x=>V.ref x.1) (fun i σ Hy=>∃u1 u2 u3 u4:Option V,σ=[some (.ref ha),some (.ref ma),some (.ref ta),x,y,u1,u2,u3,u4]/\Same H Hy) ⟨none,none,none,none,rfl,sx⟩ (fun i σ Hy _ hq__=>by obtain⟨_,_,_,_,_,s⟩:=hq__;exact s.seq tt.ls) ?_ ?_
  ·rintro i v σ Hy hi ⟨u1,u2,u3,u4,rfl,sy⟩
   rw[DM]at hi
   obtain⟨z,hz,rfl⟩:=DO.mp hi
   have zm:=DQ hz
   have te:=(tt.ea z zm).same sy
   have tgz:=tg z zm
   have kz:=ip.kp (dU z) (DZ.mpr ⟨z,zm,rfl⟩)
   obtain⟨tp,t,wd,k,st⟩:=z
   have htp:Hy tp=some (.tup [.str wd,.int k,.ref t]):=te.tp
   have hts:Hy t=some (.tup (st.map fun(i:Nat)=>V.int (i:Int))):=te.ts
   have hwd:wd="most"\/wd="least":=te.wd
   have sl:st.length<=6:=te.sl
   have lt:∀i∈st,i<may.length:=tgz.lt
   have kz:kp (fun i=>hs.getD i 0) wd k st=true:=kz
   refine⟨tp,_,rfl,SqT.of htp,rfl,_,_,rfl,_,_,rfl,_,_,rfl,rfl,?_⟩
   refine⟨_,rfl,t,rfl,⟨_,SqT.of hts⟩,?_⟩
   refine iN (xs:=st.map fun(i:Nat)=>V.int (i:Int)) (fun _=>true) (fun j=> .int (hs.getD (st.getD j 0) 0)) (SqT.of hts) (by rw[DI];omega) (fun _ _ _ _ _ _ k=>k _ (Same.refl _)) (fun j x hx _ H2 R s2 k=>?_) fun acc H2 s2 nacc hacc=>?_
   ·obtain⟨d,hd,rfl,ed⟩:=dt hx
    rw[ed]at k
    exact⟨_,rfl,_,rfl,ha,_,_,_,rfl,rfl,SqL.of ((sy.trans s2) _ _ hh),bf (by have:=lt d (DQ hd);omega),k _ (Same.refl _)⟩
   rw[nZ]at hacc
   refine⟨acc,st.map fun i=>hs.getD i 0,rfl,SqL.of hacc,by rw[DI];omega,fun S nS=>⟨S,_,rfl,ae,?_⟩⟩
   have s3:=(sy.trans s2).to (o:= .ext (SX w S (dd (st.map fun i=>hs.getD i 0)))) nS
   generalize aE H2 S (.ext (SX w S (dd (st.map fun i=>hs.getD i 0))))=H3 at s3
   have eu:(dd (st.map fun i=>hs.getD i 0)).length=gB (fun i=>hs.getD i 0) st:=rfl
   rw[eu]
   unfold kp at kz
   generalize gB (fun i=>hs.getD i 0) st=un at kz
   rcases hwd with e | e<;>subst e
   ·rw [if_pos rfl]at kz
    have kz:=of_decide_eq_true kz
    refine⟨_,rfl,rfl,_,rfl,cb ⟨_,rfl,_,rfl,_,_,rfl,rfl,_,rfl,?_⟩⟩
    refine BM (by omega) ?_
    refine⟨_,rfl,rfl,_,rfl,?_⟩
    rw[decide_eq_false (by decide)]
    exact a9 (a9 ⟨_,_,_,_,rfl,s3⟩)
   ·rw [if_neg (by decide)]at kz
    have kz:=of_decide_eq_true kz
    refine⟨_,rfl,rfl,_,rfl,?_⟩
    rw[decide_eq_false (by decide)]
    refine a9 (a9 ⟨_,rfl,rfl,_,rfl,cb ⟨_,rfl,_,rfl,_,_,rfl,rfl,_,rfl,?_⟩⟩)
    exact BM (by omega) ⟨_,_,_,_,rfl,s3⟩
  ·rintro σ Hy ⟨u1,u2,u3,u4,rfl,sy⟩
   exact q Hy sy
def gR (K:PySem.W.Frag):Sp:=jr K
theorem bq:FnScope ["pattern","tie","word","limit","steps","there","late","step"] ["pattern","tie"] (au fv):=⟨rfl,rfl,rfl,by decide +kernel,rfl,by decide +kernel,by decide +kernel⟩
theorem mC (D:Dfs K mg aF dF) (T:Txt mg):FnOk P w K mg base aX 1 (aF 33) (dF 33) ["pattern","tie"] (gR K):=by
 refine D.law_breaks.fn.ok bq (fun vs H Q E h=>?_) (fun cdv A outer s H vs Q E hr h=>?_)
 ·obtain⟨a,tp,t,hs,st,wd,k,rfl,_⟩:=h;rfl
 ·have hu:=aP hr
  obtain⟨a,tp,t,hs,st,wd,k,rfl,ha,htp,ht,hwd,h6,q⟩:=h
  refine⟨_,(af (eE (pv 1) (vP K rfl (aD (ao (i:=2) bq.nd rfl (Or.inl rfl)) (aD (ao (i:=3) bq.nd rfl (Or.inl rfl)) (aD (ao (i:=4) bq.nd rfl (Or.inl rfl)) b3)))))
   (af (aA (i:=5) bq.nd rfl (Or.inl rfl) (aG ab))
   (af (aA (i:=6) bq.nd rfl (Or.inl rfl) aj)
   (af (aY PassesOwn.never rfl (B7 K (pv 4)) (ao (i:=7) bq.nd rfl (Or.inl rfl))
    (ag (aK (ax Bg (pv 7) (ak (bw K) (by rfl) T.z_len boot_len (aa (pv 0) ab)) (ay _))
     (ag (aA (i:=6) bq.nd rfl (Or.inl rfl) (aB b5 (pv 6) aj)))
     (ag (aK (ax (ud K) (az (dO K) (pv 0) (pv 7) (fun _ _=>rfl)) (pv 5) (by with_unfolding_all rfl))
      (ag (bZ (dP PySem.F.plainAttrs_list PySem.F.slot_list_append PySem.F.type_list_append a8 (pv 5) (aa (az (dO K) (pv 0) (pv 7) (fun _ _=>rfl)) ab))))
      aC)))))
   (af (aK (ax cL (pv 2) a7 (ay _))
    (ag (av (b4 rL (ak (bw K) (by rfl) T.z_len boot_len (aa (pv 5) ab)) (pv 3) (ay _))))
    aC)
   (ag (av (b4 gM (aB b5 (ak (bw K) (by rfl) T.z_len boot_len (aa (pv 5) ab)) (pv 6)) (pv 3) (ay _))))))))),?_⟩
  refine⟨_,rfl,tp,_,rfl,htp,rfl,_,_,rfl,_,_,rfl,_,_,rfl,rfl,?_⟩
  refine⟨cI,fun m nm=>?_⟩
  have s1:=Same.new (o:= .lst []) nm
  refine⟨_,rfl,t,rfl,⟨_,Same.seqT s1 ht⟩,?_⟩
  refine xO (K:=K) (a:=t) (xs:=st.map fun(i:Nat)=>V.int (i:Int)) (fun i σ Hx=>∃(x:Option V),σ=[some (.ref a),some (.ref tp),some (.str wd),some (.int k),some (.ref t),some (.ref m),some (.int (((i-((st.take i).filter fun j=>decide (j<hs.length)).length:Nat)):Int)),x]/\Same H Hx/\Hx m=some (.lst ((dd (((st.take i).filter fun j=>decide (j<hs.length)).map fun i=>hs.getD i 0)).map V.int))/\((st.take i).filter fun j=>decide (j<hs.length)).length<=i) ⟨none,rfl,s1,ae,DS _⟩ (fun i σ Hx _ hq__=>by obtain⟨_,_,s,_⟩:=hq__;exact Same.seqT s ht) ?_ ?_
  ·rintro i v σ Hx hi ⟨x,rfl,sx,hm,fl⟩
   obtain⟨d,hd,rfl,ed⟩:=dt hi
   have il:=(DN.mp hd).1
   have dl:=dk (((st.take i).filter fun j=>decide (j<hs.length)).map fun i=>hs.getD i 0)
   rw[DI]at dl
   rw[bR hd,EI]
   refine⟨_,rfl,_,rfl,_,hs.length,rfl,.inl ⟨_,sx.seq ha,by rw[DI]⟩,_,_,rfl,rfl,_,rfl,zw (fun ge=>?_) fun ge=>?_⟩
   ·have e5:[d].filter (fun j=>decide (j<hs.length))=[]:=by
     rw[FO,if_neg (by rw[decide_eq_false (by omega)];exact DU),Gi]
    rw[e5,Fc]
    refine⟨_,rfl,_,_,rfl,rfl,?_⟩
    refine⟨some (.int (d:Int)),?_,sx,hm,by omega⟩
    rw[show(((i+1-((st.take i).filter fun j=>decide (j<hs.length)).length:Nat)):Int)=(((i-((st.take i).filter fun j=>decide (j<hs.length)).length:Nat)):Int)+1 by omega]
    rfl
   ·have hdl:d<hs.length:=by omega
    have e5:[d].filter (fun j=>decide (j<hs.length))=[d]:=by
     rw[FO,if_pos (decide_eq_true hdl),Gi]
    rw[e5,DY,DX,Ec]
    have e6:dd (((st.take i).filter fun j=>decide (j<hs.length)).map (fun i=>hs.getD i 0)++[d].map fun i=>hs.getD i 0)=cM (dd (((st.take i).filter fun j=>decide (j<hs.length)).map fun i=>hs.getD i 0)) (hs.getD d 0):=gA _ _
    rw[e6]
    have e7:i+1-(((st.take i).filter fun j=>decide (j<hs.length)).length+1)=i-((st.take i).filter fun j=>decide (j<hs.length)).length:=by omega
    rw[e7]
    generalize ((st.take i).filter fun j=>decide (j<hs.length)).length=n at fl dl
    generalize dd (((st.take i).filter fun j=>decide (j<hs.length)).map fun i=>hs.getD i 0)=ms at hm dl
    refine⟨_,rfl,_,rfl,a,_,_,_,rfl,rfl,sx.seq ha,bf hdl,_,rfl,m,_,rfl,.inl (SqL.of hm),rfl,bQ _,?_⟩
    rw[if_pos rfl,cg]
    unfold cM
    refine⟨_,rfl,?_⟩
    by_cases z:hs.getD d 0∈ms
    ·rw [decide_eq_true z,if_pos z]
     exact a9 ⟨_,rfl,sx,hm,by omega⟩
    ·rw [decide_eq_false z,if_neg z]
     refine cb ⟨_,rfl,.inl ⟨rfl,_,SqL.of hm⟩,_,rfl,_,rfl,a,_,_,_,rfl,rfl,sx.seq ha,bf hdl,m,_,_,rfl,rfl,hm,kb (by rw[DI];omega),?_⟩
     exact⟨_,rfl,sx.put nm,by rw[ae,DY];rfl,by omega⟩
  ·rintro σ Hx ⟨x,rfl,sx,hm,fl⟩
   rw[DI,EL]at hm fl
   rw[DI,EL]
   have q3:=q Hx sx
   refine⟨_,rfl,rfl,_,rfl,?_⟩
   unfold brk at q3
   rcases hwd with e | e<;>subst e
   ·refine cb ?_
    rw[if_pos rfl]at q3
    exact⟨_,rfl,_,gB (fun i=>hs.getD i 0) (st.filter fun i=>decide (i<hs.length)),rfl,.inl ⟨_,SqL.of hm,by rw[DI];rfl⟩,_,rfl,_,_,rfl,rfl,q3⟩
   ·rw [decide_eq_false (by decide)]
    refine a9 ?_
    rw[if_neg (by decide)]at q3
    refine⟨_,rfl,_,gB (fun i=>hs.getD i 0) (st.filter fun i=>decide (i<hs.length)),rfl,.inl ⟨_,SqL.of hm,by rw[DI];rfl⟩,_,rfl,_,_,rfl,rfl,_,rfl,_,_,rfl,rfl,?_⟩
    dsimp only
    rw[show(((gB (fun i=>hs.getD i 0) (st.filter fun i=>decide (i<hs.length)):Nat)):Int)+(((st.length-(st.filter fun j=>decide (j<hs.length)).length:Nat)):Int)=(((gB (fun i=>hs.getD i 0) (st.filter fun i=>decide (i<hs.length)):Nat)):Int)+(st.length:Int)-((st.filter fun i=>decide (i<hs.length)).length:Int) by omega]
    exact q3
def jM (K:PySem.W.Frag):Sp:=fun vs H Q _=>∃(b:Nat) (pa ma:Addr) (p:List Int) (rs:List Addr) (may:List (List Int)) (U:List Int),vs=[.ref pa,.ref ma,.int ((b:Nat):Int)]/\SqL K H pa (p.map V.int)/\May K H ma rs may U/\cA p/\b<(dd p).length/\p.length<=may.length/\∀l H',Same H H'->H l=none->H' l=some (.lst ((fT may p b).map V.int))->Q (.ref l) H'
theorem jN:FnScope ["pattern","may","block","steps"] ["pattern","may","block"] (au iw):=⟨rfl,rfl,rfl,by decide +kernel,rfl,by decide +kernel,by decide +kernel⟩
theorem p9 (D:Dfs K mg aF dF) (T:Txt mg):FnOk P w K mg base aX 1 (aF 34) (dF 34) ["pattern","may","block"] (jM K):=by
 refine D.law_pool.fn.ok jN (fun vs H Q E h=>?_) (fun cdv A outer s H vs Q E hr h=>?_)
 ·obtain⟨b,pa,ma,p,rs,may,U,rfl,_⟩:=h;rfl
 ·have hu:=aP hr
  obtain⟨b,pa,ma,p,rs,may,U,rfl,hp,hm,c,hb,hl,q⟩:=h
  refine⟨_,(af (aA (i:=3) jN.nd rfl (Or.inr rfl) (aJ ["k","pattern","block"] [none,some 0,some 2] rfl (aM rfl T.z_range (aa (ak (bw K) (by rfl) T.z_len boot_len (aa (pv 0) ab)) ab)) (fun _=>ao (i:=0) (aL (N:=["k","pattern","block"]) (by decide +kernel)) rfl (Or.inl rfl)) (fun _=>bU (ax cL (az (dO K) (pv 1) (pv 0) (fun _ _=>rfl)) (pv 2) (ay _))) (fun _=>(pv 0)) ((.cons (fun _ e=>by cases e) (.cons (fun _ e=>by cases e;exact⟨rfl,rfl⟩) (.cons (fun _ e=>by cases e;exact⟨rfl,rfl⟩) .nil))))))
   (ag (av (uV ["badge","may","steps"] [none,some 1,some 3] rfl (gZ K (az (dO K) (pv 1) (az (dO K) (pv 3) aj (fun _ _=>rfl)) (fun _ _=>rfl))) (fun _=>ao (i:=0) (aL (N:=["badge","may","steps"]) (by decide +kernel)) rfl (Or.inr rfl)) (fun _=>bU (bC (ak (Ah K) (by rfl) T.z_all boot_all (aa (aJ ["k","badge","may"] [none,some 0,some 1] rfl (gZ K (pv 2)) (fun _=>ao (i:=0) (aL (N:=["k","badge","may"]) (by decide +kernel)) rfl (Or.inl rfl)) (fun _=>bA) (fun _=>(b4 (Ag K) (pv 1) (az (dO K) (pv 2) (pv 0) (fun _ _=>rfl)) (by with_unfolding_all rfl))) ((.cons (fun _ e=>by cases e) (.cons (fun _ e=>by cases e;exact⟨rfl,rfl⟩) (.cons (fun _ e=>by cases e;exact⟨rfl,rfl⟩) .nil))))) ab)))) (fun _=>(pv 0)) ((.cons (fun _ e=>by cases e) (.cons (fun _ e=>by cases e;exact⟨rfl,rfl⟩) (.cons (fun _ e=>by cases e;exact⟨rfl,rfl⟩) .nil)))))))),?_⟩
  have m6:=hm.m6
  have rl:rs.length=may.length:=hm.po.len
  refine⟨_,rfl,_,_,rfl,.inl ⟨_,hp,rfl⟩,_,rfl,eQ _,by rw[DI];omega,?_⟩
  have e0:(((p.map V.int).length:Nat):Int).toNat=p.length:=by rw[DI];omega
  rw[e0]
  refine cW (n:=p.length) (fun i=>decide (p.getD i 0=(b:Int))) (by omega) (fun i hi H2 R s2 k=>?_) (fun i hi H2 R k=>?_) fun sl H1 s1 nsl hsl=>?_
  ·have ei:(0:Int)+(i:Int)=((i:Nat):Int):=by omega
   rw[ei]
   have kk:∀H3,Same H2 H3->R (decide (p.getD i 0=(b:Int))) H3:=k
   refine⟨_,rfl,_,rfl,pa,_,_,_,rfl,rfl,s2.seq hp,bf hi,_,rfl,rfl,?_⟩
   have z:=kk H2 (Same.refl _)
   rw[<- AA]at z
   exact⟨_,rfl,z⟩
  ·have ei:(0:Int)+(i:Int)=((i:Nat):Int):=by omega
   rw[ei]
   exact⟨_,rfl,k⟩
  have ne:=ke c hb
  have hsl:H1 sl=some (.lst ((fg p b).map fun(i:Nat)=>V.int (i:Int))):=hsl
  have bm:∀i∈fg p b,i<may.length:=fun i hi=>by have:=(dC.mp hi).1;omega
  have bl6:(fg p b).length<=6:=by
   unfold fg
   refine Ek (Et _ _) ?_
   rw[Ew]
   omega
  have qq:∀l H',Same H H'->H l=none->H' l=some (.lst ((dS (fg p b) may).map V.int))->Q (.ref l) H':=q
  generalize fg p b=st at hsl ne bm bl6 qq
  obtain⟨s0,sr,rfl⟩:=List.exists_cons_of_ne_nil ne
  have hs0:=bm s0 Ei
  obtain⟨r0,e1,e2,e3,e4⟩:=(hm.same s1).rows hs0
  have l0:(may.getD s0 []).length<=26:=Ek ((pj e3).length_le_of_subset e4) hm.u20
  refine⟨_,rfl,_,rfl,sl,_,_,_,rfl,rfl,SqL.of hsl,AD,ma,_,_,_,rfl,rfl,(hm.same s1).ls,b9 (by rw[DM,e1];rfl),r0,rfl,⟨_,e2⟩,?_⟩
  refine qQ (fun x=>(s0 :: sr).all fun s=>decide (x∈may.getD s [])) e2 (by omega) (fun x _ H2 R s2 k=>?_) (fun x _ H2 R s2 k=>⟨_,rfl,k H2 (Same.refl _)⟩) fun ac H2 s2 na hac=>qq ac H2 (s1.trans s2) (s1.free na) hac
  refine⟨_,rfl,sl,rfl,⟨_,SqL.of (s2 _ _ hsl)⟩,?_⟩
  refine bL (xs:=(s0 :: sr).map fun(i:Nat)=>V.int (i:Int)) (fun _=>true) (fun j=> .bl (decide (x∈may.getD ((s0 :: sr).getD j 0) []))) (SqL.of (s2 _ _ hsl)) (by rw[DI];omega) (fun _ _ _ _ _ _ k=>k _ (Same.refl _)) (fun j v hv _ H3 R' s3 kk=>?_) fun nw H3 s3 nnw hnw=>?_
  ·obtain⟨d,hd,rfl,ed⟩:=dt hv
   have hdl:=bm d (DQ hd)
   have s03:=(s1.trans s2).trans s3
   obtain⟨r,f1,f2,_,_⟩:=(hm.same s03).rows hdl
   have z:R' (.bl (decide (x∈may.getD ((s0 :: sr).getD j 0) []))) H3:=kk H3 (Same.refl _)
   rw[ed]at z
   refine⟨_,rfl,_,rfl,_,rfl,ma,_,_,_,rfl,rfl,(hm.same s03).ls,b9 (by rw[DM,f1];rfl),r,_,rfl,.inl f2,rfl,bQ _,?_⟩
   rw[if_neg DU,cg]
   exact z
  ·have e:((DR ((s0 :: sr).map fun(i:Nat)=>V.int (i:Int)).length).filter fun _=>true).map (fun j=>V.bl (decide (x∈may.getD ((s0 :: sr).getD j 0) [])))=((s0 :: sr).map fun s=>decide (x∈may.getD s [])).map V.bl:=by
    rw[DI,EU.mpr fun _ _=>rfl]
    conv=>rhs;rw[<- fo (s0 :: sr) 0]
    rw[Eu,Eu]
    rfl
   rw[e]at hnw
   refine⟨nw,_,rfl,SqL.of hnw,_,rfl,?_⟩
   rw[List.all_map]
   exact k H3 s3
def jO (K:PySem.W.Frag):Sp:=fun vs H Q _=>∃(tp pa ma ta:Addr) (p:List Int) (rs:List Addr) (may:List (List Int)) (U:List Int) (ts:List (Addr×Addr×Str×Int×List Nat)),vs=[.ref tp,.ref pa,.ref ma,.ref ta]/\SqL K H pa (p.map V.int)/\May K H ma rs may U/\Ties K H ta ts 100/\cA p/\p.length<=may.length/\
 ((∃(j:Nat) (x:Addr×Addr×Str×Int×List Nat),H tp=some (.tup [.str "tie",.int ((j:Nat):Int)])/\ts[j]?=some x/\brk (fun i=>p.getD i 0) p.length x.2.2.1 x.2.2.2.1 x.2.2.2.2=true)\/∃(l:Addr) (bs:List Nat),H tp=some (.tup [.str "short",.ref l])/\H l=some (.lst (bs.map fun(i:Nat)=>V.int (i:Int)))/\Short (pools may p) bs)/\∀H',Same H H'->Q (.bl true) H'
theorem bT:FnScope ["paper","pattern","may","ties","word","rest","last","here","block"] ["paper","pattern","may","ties"] (au ix):=⟨rfl,rfl,rfl,by decide +kernel,rfl,by decide +kernel,by decide +kernel⟩
theorem qc (D:Dfs K mg aF dF) (T:Txt mg):FnOk P w K mg base aX 2 (aF 35) (dF 35) ["paper","pattern","may","ties"] (jO K):=by
 have Glaw_whole:FnOk P w K mg base aX 1 (aF 26) (dF 26) ["found"] (cP K):=dB D T
 have Glaw_breaks:FnOk P w K mg base aX 1 (aF 33) (dF 33) ["pattern","tie"] (gR K):=mC D T
 have Glaw_pool:FnOk P w K mg base aX 1 (aF 34) (dF 34) ["pattern","may","block"] (jM K):=p9 D T
 refine D.law_shut.fn.ok bT (fun vs H Q E h=>?_) (fun cdv A outer s H vs Q E hr h=>?_)
 ·obtain⟨tp,pa,ma,ta,p,rs,may,U,ts,rfl,_⟩:=h;rfl
 ·have hu:=aP hr
  obtain⟨tp,pa,ma,ta,p,rs,may,U,ts,rfl,hp,hm,tt,c,hl,hpp,q⟩:=h
  refine⟨_,(af (eE (pv 0) (vP K rfl (aD (ao (i:=4) bT.nd rfl (Or.inl rfl)) (aD (ao (i:=5) bT.nd rfl (Or.inl rfl)) b3))))
   (af (aK (ax cL (pv 4) a7 (ay _))
    (ag (av (gX (pc D.law_whole Glaw_whole (hr.mono (by decide)) (aa (pv 5) ab)) (gX (b4 zt aj (pv 5) (ay _)) (gX (b4 gM (pv 5) (ak (bw K) (by rfl) T.z_len boot_len (aa (pv 3) ab)) (ay _)) (i6 (pc D.law_breaks Glaw_breaks (hr.mono (by decide)) (aa (pv 1) (aa (az (dO K) (pv 3) (pv 5) (fun _ _=>rfl)) ab)))))))))
    aC)
   (af (aK (PW.pt (cQ (ax fH (pv 4) a7 (ay _)) (cR (cw (bC (ak (nP K) (by rfl) T.z_isinstance boot_isinstance (aa (pv 5) (aa (j9 T.z_list) ab))))))))
    (ag (av bP))
    aC)
   (af (aA (i:=6) bT.nd rfl (Or.inl rfl) (zr vx aj))
   (af (aA (i:=7) bT.nd rfl (Or.inl rfl) (aG ab))
   (af (aY PassesOwn.never rfl (gZ K (pv 5)) (ao (i:=8) bT.nd rfl (Or.inl rfl))
    (af (aK (PW.pt (cQ (cw (bC (pc D.law_whole Glaw_whole (hr.mono (by decide)) (aa (pv 8) ab)))) (cQ (ax zt (pv 8) (pv 6) (ay _)) (cR (ax (ud K) (pv 8) (pv 1) (by with_unfolding_all rfl))))))
     (ag (av bP))
     aC)
    (af (aA (i:=7) bT.nd rfl (Or.inl rfl) (aB eF (pv 7) (pc D.law_pool Glaw_pool (hr.mono (by decide)) (aa (pv 1) (aa (pv 2) (aa (pv 8) ab))))))
    (ag (aA (i:=6) bT.nd rfl (Or.inl rfl) (pv 8))))))
   (ag (av (b4 gM (ak (o8 w) (by rfl) T.z_len boot_len (aa (aI (nU w K) (by rfl) T.z_set PyProof.Rows.boot_set (aa (pv 7) ab)) ab)) (ak (bw K) (by rfl) T.z_len boot_len (aa (pv 5) ab)) (ay _)))))))))),?_⟩
  have m6:=hm.m6
  have dl:=dk p
  rcases hpp with⟨j,x,ht,hx,hbk⟩ | ⟨l,bs,ht,hbl,sh⟩
  ·have jl:=(DN.mp hx).1
   have te:=tt.ea x (DQ hx)
   refine⟨_,rfl,tp,_,rfl,SqT.of ht,rfl,_,_,rfl,_,_,rfl,rfl,?_⟩
   refine⟨_,rfl,rfl,_,rfl,cb ?_⟩
   refine⟨_,rfl,((j:Nat):Int),rfl,_,rfl,cb ?_⟩
   refine⟨_,rfl,_,_,rfl,rfl,_,rfl,?_⟩
   rw[decide_eq_true (by omega)]
   refine cb ?_
   refine⟨_,rfl,_,rfl,_,ts.length,rfl,.inl ⟨_,tt.ls,by rw[DI]⟩,_,_,rfl,rfl,_,rfl,?_⟩
   rw[decide_eq_true (by omega)]
   refine cb ?_
   refine⟨_,rfl,_,rfl,_,rfl,ta,_,_,_,rfl,rfl,tt.ls,b9 (by rw[DM,hx];rfl),pa,x.1,x.2.1,p,x.2.2.2.2,x.2.2.1,x.2.2.2.1,rfl,hp,SqT.of te.tp,SqT.of te.ts,te.wd,te.sl,fun H1 s1=>?_⟩
   rw[hbk]
   exact q H1 s1
  ·obtain⟨X,hX,hq⟩:=sh.few
   have blt:∀b∈bs,b<(dd p).length:=fun b hb=>by
    obtain⟨r,e,_⟩:=hq b hb
    have:=(DN.mp e).1
    rw[cG]at this
    exact this
   have b6:bs.length<=6:=by
    have nd:bs.Nodup:=sh.up.imp fun h=>Eb h
    have:=nd.length_le_of_subset (l₂:=DR (dd p).length) fun i hi=>Ee.mpr (blt i hi)
    rw[Ew]at this
    omega
   have pl26:∀b,b<(dd p).length->(fT may p b).length<=26:=fun b hb=>by
    have z:=mZ (U:=U) c hl hm.sub (fT may p b) (DQ (eP hb))
    exact Ek ((pj (kZ (st:=fg p b) hm.up)).length_le_of_subset z) hm.u20
   refine⟨_,rfl,tp,_,rfl,SqT.of ht,rfl,_,_,rfl,_,_,rfl,rfl,?_⟩
   refine⟨_,rfl,rfl,_,rfl,?_⟩
   rw[decide_eq_false (by decide)]
   refine a9 ?_
   refine⟨_,rfl,rfl,_,rfl,k9 rfl ?_⟩
   refine⟨_,rfl,_,_,_,true,rfl,.lst hbl,rfl,_,rfl,a9 ?_⟩
   refine⟨_,rfl,?_⟩
   refine⟨cI,fun l0 n0=>?_⟩
   have s1:=Same.new (o:= .lst []) n0
   refine⟨_,rfl,l,rfl,⟨_,SqL.of (s1 _ _ hbl)⟩,?_⟩
   refine be (K:=K) (a:=l) (xs:=bs.map fun(i:Nat)=>V.int (i:Int)) (fun i σ Hx=>∃(lh:Addr) (hs:List Int) (la:Int) (x:Option V),σ=[some (.ref tp),some (.ref pa),some (.ref ma),some (.ref ta),some (.str "short"),some (.ref l),some (.int la),some (.ref lh),x]/\Same H Hx/\Hx lh=some (.lst (hs.map V.int))/\(∀x∈hs,x∈X)/\hs.length<=26*i/\(i=0/\la= -1\/∃j d,i=j+1/\bs[j]?=some d/\la=(d:Int))) ⟨l0,[],-1,none,rfl,s1,ae,(fun _ z=>by cases z),Eo _,.inl ⟨rfl,rfl⟩⟩ (fun i σ Hx _ hq__=>by obtain⟨_,_,_,_,_,s,_⟩:=hq__;exact SqL.of (s _ _ hbl)) ?_ ?_
   ·rintro i v σ Hx hi ⟨lh,hs,la,x,rfl,sx,hl1,hsub,hlen,hla⟩
    obtain⟨d,hd,rfl,ed⟩:=dt hi
    have il:=(DN.mp hd).1
    have dm:=DQ hd
    have hdl:=blt d dm
    have lt:la<(d:Int):=by
     rcases hla with⟨_,rfl⟩ | ⟨j,e,rfl,hj,rfl⟩
     ·omega
     ·obtain⟨h1,e1⟩:=DN.mp hj
      obtain⟨h2,e2⟩:=DN.mp hd
      have:=E8.mp sh.up j (j+1) h1 h2 (by omega)
      rw[e1,e2]at this
      omega
    refine⟨_,rfl,(d:Int),rfl,_,rfl,a9 ?_⟩
    refine⟨_,rfl,_,rfl,_,_,rfl,rfl,_,rfl,zw (fun z=>absurd z (by omega)) fun _=>?_⟩
    refine⟨_,rfl,_,rfl,pa,_,rfl,.inl (sx.seq hp),rfl,bQ _,?_⟩
    rw[if_pos rfl,cg]
    refine⟨_,rfl,n9 (pM c hdl) ?_⟩
    refine⟨_,rfl,_,rfl,_,rfl,_,rfl,d,pa,ma,p,rs,may,U,rfl,sx.seq hp,hm.same sx,c,hdl,hl,fun po H3 s3 npo hpo=>?_⟩
    have kl:=pl26 d hdl
    refine⟨lh,po,_,_,rfl,rfl,s3 _ _ hl1,hpo,r9 (by rw[DI,DI];omega),fun cc nc=>?_⟩
    refine⟨_,rfl,cc,hs++fT may p d,(d:Int),some (.int (d:Int)),rfl,(sx.trans s3).to nc,by rw[ae,DY],fun x hx=>?_,by rw[DX];omega,.inr ⟨i,d,rfl,hd,rfl⟩⟩
    rcases Eg.mp hx with z | z
    ·exact hsub x z
    ·obtain⟨r,er,hr'⟩:=hq d dm
     rw[eP hdl]at er
     cases er
     exact hr' x z
   ·rintro σ Hx ⟨lh,hs,la,x,rfl,sx,hl1,hsub,hlen,hla⟩
    rw[DI]at hlen
    have al:(dd hs).length<=X.length:=(iM hs).length_le_of_subset fun x hx=>hsub x (aZ.mp hx)
    refine⟨_,rfl,lh,hs,rfl,SqL.of hl1,by omega,fun S nS=>⟨S,_,rfl,ae,?_⟩⟩
    have s2:=sx.to (o:= .ext (SX w S (dd hs))) nS
    refine⟨_,rfl,_,bs.length,rfl,.inl ⟨_,SqL.of (s2 _ _ hbl),by rw[DI]⟩,_,_,rfl,rfl,?_⟩
    have z:=q _ s2
    rw[<- decide_eq_true (p:=(((dd hs).length:Nat):Int)<((bs.length:Nat):Int)) (by omega)]at z
    exact z
def eJ (K:PySem.W.Frag) (m:Nat):Sp:=fun vs H Q _=>∃(pa ma ta:Addr) (v:V) (p:List Int) (rs:List Addr) (may:List (List Int)) (U:List Int) (ts:List (Addr×Addr×Str×Int×List Nat)) (pp:Pap),vs=[v,.ref pa,.ref ma,.ref ta]/\H pa=some (.lst (p.map V.int))/\May K H ma rs may U/\Ties K H ta ts 100/\cA p/\p.length<=may.length/\may.length<p.length+m/\PapAt H v pp/\Shows may (ts.map dU) p pp/\
 ∀H',Same H H'->Q (.bl true) H'
def i3 (K:PySem.W.Frag):Sp:=eJ K 7
theorem fF:FnScope ["paper","pattern","may","ties","many","block"] ["paper","pattern","may","ties"] (au gc):=⟨rfl,rfl,rfl,by decide +kernel,rfl,by decide +kernel,by decide +kernel⟩
theorem oB (D:Dfs K mg aF dF) (T:Txt mg):FnOk P w K mg base aX 17 (aF 36) (dF 36) ["paper","pattern","may","ties"] (i3 K):=by
 have Glaw_shut:FnOk P w K mg base aX 2 (aF 35) (dF 35) ["paper","pattern","may","ties"] (jO K):=qc D T
 have all:∀n,FnOk P w K mg base aX (10+n) (aF 36) (dF 36) ["paper","pattern","may","ties"] (eJ K n):=by
  intro n
  induction n with
  | zero=>
   have no:∀vs H Q E,¬eJ K 0 vs H Q E:=fun vs H Q E h=>by
    obtain⟨pa,ma,ta,v,p,rs,may,U,ts,pp,_,_,_,_,_,h1,h2,_⟩:=h
    omega
   exact⟨fun vs H Q E h=>absurd h (no vs H Q E),fun A outer s H args us vs Q E _ _ _ _ h=>absurd h (no vs H Q E)⟩
  | succ n Glaw_shows=>
   refine D.law_shows.fn.ok fF (fun vs H Q E h=>?_) (fun cdv A outer s H vs Q E hr h=>?_)
   ·obtain⟨pa,ma,ta,v,p,rs,may,U,ts,pp,rfl,_⟩:=h;rfl
   obtain⟨pa,ma,ta,v,p,rs,may,U,ts,pp,rfl,hpa,hm,tt,c,hl,hlm,pat,sh,q⟩:=h
   have rk:Nat.add 10 n=10+n:=rfl
   refine⟨_,(af (aK (PW.pt (cQ (cw (bC (ak (nP K) (by rfl) T.z_isinstance boot_isinstance (aa (pv 0) (aa (kK T.z_tuple) ab))))) (cR (ax fH (ak (bw K) (by rfl) T.z_len boot_len (aa (pv 0) ab)) aj (ay _)))))
    (ag (av bP))
    aC)
   (af (aK (ax fH (az (e9 K) (pv 0) aj (fun _ _=>rfl)) a7 (ay _))
    (ag (av (pc D.law_shut Glaw_shut (hr.mono (by have:=rk;omega)) (aa (pv 0) (aa (pv 1) (aa (pv 2) (aa (pv 3) ab)))))))
    aC)
   (af (aA (i:=4) fF.nd rfl (Or.inl rfl) (aB b5 (ak (BE K) (by rfl) T.z_max boot_max (aa (aB eF (pv 1) (aG (aa (zr vx aj) ab))) ab)) aj))
   (af (aK (PW.pt (cQ (cw (bC (ak (nP K) (by rfl) T.z_isinstance boot_isinstance (aa (az (e9 K) (pv 0) aj (fun _ _=>rfl)) (aa (j9 T.z_list) ab))))) (cQ (ax fH (ak (bw K) (by rfl) T.z_len boot_len (aa (az (e9 K) (pv 0) aj (fun _ _=>rfl)) ab)) (pv 4) (ay _)) (cR (ax cL (ak (bw K) (by rfl) T.z_len boot_len (aa (pv 1) ab)) (ak (bw K) (by rfl) T.z_len boot_len (aa (pv 2) ab)) (ay _))))))
    (ag (av bP))
    aC)
   (af (aY PassesOwn.never rfl (aM rfl T.z_range (aa (pv 4) ab)) (ao (i:=5) fF.nd rfl (Or.inl rfl))
    (ag (aK (cw (bC (pc D.law_shows Glaw_shows hr (aa (az (dO K) (az (e9 K) (pv 0) aj (fun _ _=>rfl)) (pv 5) (fun _ _=>rfl)) (aa (aB eF (pv 1) (aG (aa (pv 5) ab))) (aa (pv 2) (aa (pv 3) ab)))))))
     (ag (av bP))
     aC)))
   (ag (av bP))))))),?_⟩
   have dl:=dk p
   have m6:=hm.m6
   have rl:rs.length=may.length:=hm.po.len
   cases sh with
   | @tie _ j t hj hbk=>
    cases pat with
    | @tie tp _ ht=>
    refine⟨_,rfl,_,_,_,true,rfl,.tup ht,rfl,_,rfl,a9 ?_⟩
    refine⟨_,rfl,_,_,rfl,.inr ⟨_,SqT.of ht,rfl⟩,rfl,_,rfl,vR (fun h=>absurd rfl h) fun _=>?_⟩
    refine⟨_,rfl,tp,_,_,_,rfl,rfl,SqT.of ht,rfl,rfl,_,rfl,?_⟩
    rw[decide_eq_false (by decide)]
    refine cb ?_
    rw[DM]at hj
    obtain⟨x,hx,rfl⟩:=DO.mp hj
    exact⟨_,rfl,_,rfl,_,rfl,_,rfl,tp,pa,ma,ta,p,rs,may,U,ts,rfl,SqL.of hpa,hm,tt,c,hl,.inl ⟨j,x,ht,hx,hbk⟩,q⟩
   | @short _ bs sh=>
    cases pat with
    | @short tp l _ ht hl'=>
    refine⟨_,rfl,_,_,_,true,rfl,.tup ht,rfl,_,rfl,a9 ?_⟩
    refine⟨_,rfl,_,_,rfl,.inr ⟨_,SqT.of ht,rfl⟩,rfl,_,rfl,vR (fun h=>absurd rfl h) fun _=>?_⟩
    refine⟨_,rfl,tp,_,_,_,rfl,rfl,SqT.of ht,rfl,rfl,_,rfl,?_⟩
    rw[decide_eq_false (by decide)]
    refine cb ?_
    exact⟨_,rfl,_,rfl,_,rfl,_,rfl,tp,pa,ma,ta,p,rs,may,U,ts,rfl,SqL.of hpa,hm,tt,c,hl,.inr ⟨l,bs,ht,hl',sh⟩,q⟩
   | @split _ pps lt hn hs=>
    cases pat with
    | @split tp l vs _ ht hl' hvn hat=>
    refine⟨_,rfl,_,_,_,true,rfl,.tup ht,rfl,_,rfl,a9 ?_⟩
    refine⟨_,rfl,_,_,rfl,.inr ⟨_,SqT.of ht,rfl⟩,rfl,_,rfl,vR (fun h=>absurd rfl h) fun _=>?_⟩
    refine⟨_,rfl,tp,_,_,_,rfl,rfl,SqT.of ht,rfl,rfl,_,rfl,?_⟩
    rw[decide_eq_true rfl]
    refine a9 ?_
    refine⟨_,rfl,_,rfl,cI,fun q0 nq0=>?_⟩
    have sq:=Same.new (o:= .lst [V.int (-1)]) nq0
    refine⟨pa,q0,_,_,rfl,rfl,sq _ _ hpa,ae,r9 (by simp;omega),fun r0 nr0=>?_⟩
    have e0:p.map V.int++[V.int (-1)]=(p++[-1]).map V.int:=by rw[DY];rfl
    rw[e0]
    have s1:=sq.to (o:= .lst ((p++[-1]).map V.int)) nr0
    refine⟨r0,p++[-1],rfl,SqL.of ae,by simp,fun m hm1 hm2=>⟨_,_,rfl,rfl,?_⟩⟩
    generalize aE (aE H q0 (.lst [V.int (-1)])) r0 (.lst ((p++[-1]).map V.int))=H1 at s1
    have em:=uW c hm1 hm2
    dsimp only
    rw[em,<- hn]
    refine⟨_,rfl,tp,_,_,_,rfl,rfl,SqT.of (s1 _ _ ht),rfl,_,_,_,true,rfl,.lst (s1 _ _ hl'),rfl,_,rfl,a9 ?_⟩
    refine⟨_,rfl,tp,_,_,_,rfl,rfl,SqT.of (s1 _ _ ht),rfl,_,vs.length,rfl,.inl ⟨_,SqL.of (s1 _ _ hl'),rfl⟩,_,rfl,rfl,_,rfl,vR (fun h=>absurd ?_ h) fun _=>?_⟩
    ·omega
    refine⟨_,rfl,_,p.length,rfl,.inl ⟨_,SqL.of (s1 _ _ hpa),by rw[DI]⟩,_,rfl,_,may.length,rfl,.inl ⟨_,s1.seq hm.ls,by rw[DI,rl]⟩,rfl,_,rfl,yg (fun e=>absurd e (by omega)) fun _=>?_⟩
    refine⟨_,rfl,_,rfl,eQ _,by omega,?_⟩
    rw[Er]
    refine cE (n:=pps.length) (fun i σ H2=>∃x:Option V,σ=[some (.ref tp),some (.ref pa),some (.ref ma),some (.ref ta),some (.int (pps.length:Int)),x]/\Same H H2) ⟨none,rfl,s1⟩ ?_ ?_
    ·rintro i σ H2 hi ⟨x,rfl,s2⟩
     have ei:(0:Int)+(i:Int)=((i:Nat):Int):=by omega
     rw[ei]
     have hpa2:=s2 _ _ hpa
     have hiv:i<vs.length:=by omega
     refine⟨_,rfl,tp,_,_,_,rfl,rfl,SqT.of (s2 _ _ ht),rfl,_,rfl,l,_,_,_,rfl,rfl,SqL.of (s2 _ _ hl'),b9 (DJ hiv),?_⟩
     refine⟨_,rfl,_,rfl,cI,fun q1 nq1=>?_⟩
     have s3:=Same.new (o:= .lst [V.int ((i:Nat):Int)]) nq1
     refine⟨pa,q1,_,_,rfl,rfl,s3 _ _ hpa2,ae,r9 (by simp;omega),fun r nr=>?_⟩
     have e5:p.map V.int++[V.int ((i:Nat):Int)]=(p++[((i:Nat):Int)]).map V.int:=by rw[DY];rfl
     rw[e5]
     have s4:=s3.to (o:= .lst ((p++[((i:Nat):Int)]).map V.int)) nr
     have s04:=s2.trans s4
     refine⟨_,rfl,_,rfl,r,ma,ta,vs[i],p++[((i:Nat):Int)],rs,may,U,ts,pps[i],rfl,ae,hm.same s04,⟨s04.seq tt.ls,fun x hx=>(tt.ea x hx).same s04,tt.ln⟩,kY c (by omega),by simp;omega,by simp;omega,(hat i _ _ (DJ hiv) (DJ hi)).same s04,hs i _ (DJ hi),fun H5 s5=>⟨_,rfl,a9 ⟨_,rfl,s04.trans s5⟩⟩⟩
    ·rintro σ H2 ⟨x,rfl,s2⟩
     exact q H2 s2
 exact all 7
def gh (K:PySem.W.Frag):Sp:=fun vs H Q _=>∃(o d:Addr) (es:jA) (dn:List (Option Int)),vs=[.ref o,.ref d]/\RowAt H o es/\es.length<=100/\(∀x∈es,0<=x.2/\x.2<(dn.length:Int))/\SqL K H d (dn.map hV)/\dn.length<=6/\∀(l:Addr) (bs:List Addr) (H':Hp),Same H H'->H l=none->H' l=some (.lst (bs.map V.ref))->IntsL H' bs ((eX (dg dn)).filter (jB es dn))->(∀b∈bs,H b=none)->Q (.ref l) H'
theorem br:FnScope ["order","done","rows","step","row","kept","whole","first","second"] ["order","done"] (au iy):=⟨rfl,rfl,rfl,by decide +kernel,rfl,by decide +kernel,by decide +kernel⟩
theorem jP (D:Dfs K mg aF dF) (T:Txt mg):FnOk P w K mg base aX 1 (aF 37) (dF 37) ["order","done"] (gh K):=by
 refine D.law_sets.fn.ok br (fun vs H Q E h=>?_) (fun cdv A outer s H vs Q E hr h=>?_)
 ·obtain⟨o,d,es,dn,rfl,_⟩:=h;rfl
 ·have hu:=aP hr
  obtain⟨o,d,es,dn,rfl,ho,e1,ok,hd,d6,q⟩:=h
  refine⟨_,(af (aA (i:=2) br.nd rfl (Or.inl rfl) (aG (aa (aG ab) ab)))
   (af (aY PassesOwn.never rfl (aM rfl T.z_range (aa (ak (bw K) (by rfl) T.z_len boot_len (aa (pv 1) ab)) ab)) (ao (i:=3) br.nd rfl (Or.inr rfl))
    (ag (aK (ax eY (az (dO K) (pv 1) (pv 3) (fun _ _=>rfl)) cK (ay _))
     (ag (aA (i:=2) br.nd rfl (Or.inl rfl) (aB eF (pv 2) (aJ ["row","step"] [none,some 3] rfl (gZ K (pv 2)) (fun _=>ao (i:=0) (aL (N:=["row","step"]) (by decide +kernel)) rfl (Or.inl rfl)) (fun _=>bA) (fun _=>(aB eF (pv 0) (aG (aa (pv 1) ab)))) ((.cons (fun _ e=>by cases e) (.cons (fun _ e=>by cases e;exact⟨rfl,rfl⟩) .nil)))))))
     aC)))
   (af (aA (i:=5) br.nd rfl (Or.inl rfl) (aG ab))
   (af (aY PassesOwn.never rfl (gZ K (pv 2)) (ao (i:=4) br.nd rfl (Or.inl rfl))
    (af (aA (i:=6) br.nd rfl (Or.inl rfl) bP)
    (af (aY PassesOwn.never rfl (gZ K (pv 0)) (vP K rfl (aD (ao (i:=7) br.nd rfl (Or.inl rfl)) (aD (ao (i:=8) br.nd rfl (Or.inl rfl)) b3)))
     (ag (aK (PW.pt (ku (ax (Ag K) (pv 7) (pv 4) (by with_unfolding_all rfl)) (ku (ax eY (az (dO K) (pv 1) (pv 8) (fun _ _=>rfl)) cK (ay _)) (j5 (ax (ud K) (pv 8) (pv 4) (by with_unfolding_all rfl))))))
      (ag (aA (i:=6) br.nd rfl (Or.inl rfl) bP))
      aC)))
    (ag (aK (bC (pv 6))
     (ag (bZ (dP PySem.F.plainAttrs_list PySem.F.slot_list_append PySem.F.type_list_append a8 (pv 5) (aa (pv 4) ab))))
     aC)))))
   (ag (av (pv 5))))))),?_⟩
  refine⟨cI,fun e0 ne0=>⟨cI,fun f0 nf0=>?_⟩⟩
  have s0:=(Same.new (o:= .lst []) ne0).to (o:= .lst [.ref e0]) nf0
  have he0:=(Same.new (o:= .lst [.ref e0]) nf0) _ _ (ae (H:=H) (a:=e0) (o:= .lst []))
  refine⟨_,rfl,_,_,rfl,.inl ⟨_,s0.seq hd,rfl⟩,_,rfl,eQ _,by rw[DI];omega,?_⟩
  have el:(((dn.map hV).length:Nat):Int).toNat=dn.length:=by rw[DI];omega
  rw[el]
  refine cE (n:=dn.length) (fun j σ Hx=>∃(fa:Addr) (as:List Addr) (x:Option V),σ=[some (.ref o),some (.ref d),some (.ref fa),x,none,none,none,none,none]/\Same H Hx/\Hx fa=some (.lst (as.map V.ref))/\IntsL Hx as (eX (dg (dn.take j)))/\∀b∈as,H b=none) ⟨f0,[e0],none,rfl,s0,ae,.cons he0 .nil,fun b hb=>by rw[DV.mp hb];exact ne0⟩ ?_ ?_
  ·rintro j σ Hx hj ⟨fa,as,x,rfl,sx,hfa,il,fr⟩
   have ej:(0:Int)+(j:Int)=((j:Nat):Int):=by omega
   rw[ej]
   have tl:(dn.take j).length=j:=by rw[EA];omega
   have dl:=fh (dn.take j)
   have la:as.length=2^(dg (dn.take j)).length:=by rw[Paired.length il,dA]
   have lj:2^(dg (dn.take j)).length<=64:=xl (by omega)
   have eS:=xn (dn.take j) (dn.getD j none)
   rw[<- bR (gI hj),tl]at eS
   refine⟨_,rfl,_,rfl,d,_,_,_,rfl,rfl,sx.seq hd,eG hj,rfl,?_⟩
   have e:(!decide (hV (dn.getD j none)=V.non))=(dn.getD j none).isSome:=by rw[g8];cases dn.getD j none<;>rfl
   rw[e]
   refine⟨_,rfl,By (fun hb=>?_) fun hb=>?_⟩
   ·rw [if_pos hb]at eS
    refine⟨_,rfl,_,rfl,fa,rfl,⟨_,SqL.of hfa⟩,?_⟩
    refine je (xs:=as.map V.ref) (fun acc ys Hy=>∃bs:List Addr,ys=bs.map V.ref/\IntsL Hy bs (((eX (dg (dn.take j))).take ys.length).map fun l=>l++[(j:Int)])/\(∀b∈bs,b≠acc)/\∀b∈bs,H b=none) (SqL.of hfa) (by rw[DI];omega)
     (fun acc ys H H' ⟨bs,e,ib,ne,fr⟩ sb=>⟨bs,e,ib.but ne sb,ne,fr⟩) (fun _ _=>⟨[],rfl,.nil,(fun _ z=>by cases z),(fun _ z=>by cases z)⟩) (fun acc i x ys H2 R hx s2 nacc hacc yl ⟨bs,e,ib,ne,fb⟩ k=>?_) fun acc ys H2 s2 nacc hacc yl ⟨bs,e,ib,ne,fb⟩=>?_
    ·rw [DM]at hx
     obtain⟨a1,ha1,rfl⟩:=DO.mp hx
     obtain⟨l0,hl0,e1⟩:=bB il ha1
     have l0j:=xk (DQ hl0)
     refine⟨_,rfl,_,rfl,cI,fun p np=>⟨a1,p,_,_,rfl,rfl,Same.new np _ _ (s2 _ _ e1),ae,r9 (by rw[DI];simp;omega),fun c nc=>?_⟩⟩
     have s3:=(Same.new (o:= .lst [V.int (j:Int)]) np).to (o:= .lst (l0.map V.int++[V.int (j:Int)])) nc
     have nc2:=((sx.trans s2).to (o:= .lst [V.int (j:Int)]) np).free nc
     rw[yl]at ib
     refine k (.ref c) _ s3 ⟨bs++[c],by rw[e,DY];rfl,?_,fun b hb=>?_,fun b hb=>?_⟩
     ·rw [DX,Ec,yl,bR hl0,DY]
      refine aR (ib.same s3) ?_
      show _=some (HO.lst ((l0++[(j:Int)]).map V.int))
      rw[ae,DY]
      rfl
     ·rcases Eg.mp hb with z | z
      ·exact ne b z
      ·rw [DV.mp z]
       intro y
       have:=(Same.new (o:= .lst [V.int (j:Int)]) np) _ _ hacc
       rw[<- y,nc]at this
       cases this
     ·rcases Eg.mp hb with z | z
      ·exact fb b z
      ·rw [DV.mp z];exact nc2
    ·subst e
     have pl:(eX (dg (dn.take j))).length=as.length:=(Paired.length il).symm
     rw[yl,DI,<- pl,EL]at ib
     rw[DI,DI]at yl
     refine⟨fa,acc,_,_,rfl,rfl,s2 _ _ hfa,hacc,r9 (by rw[DI,DI];omega),fun c nc=>?_⟩
     have s3:=Same.new (o:= .lst (as.map V.ref++bs.map V.ref)) nc
     refine⟨c,as++bs,_,rfl,(sx.trans s2).trans s3,by rw[ae,DY],?_,fun b hb=>?_⟩
     ·rw [eS,lI]
      exact k7 ((il.same s2).same s3) (ib.same s3)
     ·rcases Eg.mp hb with z | z
      ·exact fr b z
      ·exact fb b z
   ·rw [if_neg (by rw[hb];exact DU),Fc]at eS
    exact⟨fa,as,_,rfl,sx,hfa,by rw[eS];exact il,fr⟩
  rintro σ Hx ⟨fa,as,x,rfl,sx,hfa,il,fr⟩
  rw[EL]at il
  have dl:=fh dn
  have la:as.length=2^(dg dn).length:=by rw[Paired.length il,dA]
  have lj:2^(dg dn).length<=64:=xl (by omega)
  refine⟨cI,fun kl nkl=>?_⟩
  have nk0:=sx.free nkl
  refine⟨_,rfl,fa,rfl,⟨_,SqL.of ((Same.new nkl) _ _ hfa)⟩,?_⟩
  refine be (K:=K) (a:=fa) (xs:=as.map V.ref) (fun j σ Hy=>∃(ks:List Addr) (u1 u2 u3 u4:Option V),σ=[some (.ref o),some (.ref d),some (.ref fa),x,u1,some (.ref kl),u2,u3,u4]/\Same Hx Hy/\Hy kl=some (.lst (ks.map V.ref))/\IntsL Hy ks (((eX (dg dn)).take j).filter (jB es dn))/\(∀b∈ks,b∈as)/\ks.length<=j) ⟨[],none,none,none,none,rfl,Same.new nkl,ae,.nil,(fun _ z=>by cases z),Eo _⟩ (fun j σ Hy _ hq__=>by obtain⟨_,_,_,_,_,_,s,_⟩:=hq__;exact SqL.of (s _ _ hfa)) ?_ ?_
  ·rintro j v σ Hy hj ⟨ks,u1,u2,u3,u4,rfl,sy,hk,ik,sub,kle⟩
   rw[DM]at hj
   obtain⟨r,hr',rfl⟩:=DO.mp hj
   obtain⟨ns,hns,er⟩:=bB il hr'
   have hjl:=(DN.mp hr').1
   have s0y:=sx.trans sy
   obtain⟨ps,hp,tps⟩:=ho.same s0y
   refine⟨_,rfl,o,rfl,⟨_,SqL.of hp⟩,?_⟩
   refine be (K:=K) (a:=o) (xs:=ps.map V.ref) (fun m σ Hz=>∃(z u:Option V),σ=[some (.ref o),some (.ref d),some (.ref fa),x,some (.ref r),some (.ref kl),some (.bl (AZ (es.take m) dn ns)),z,u]/\Same Hy Hz) ⟨u3,u4,rfl,Same.refl _⟩ (fun m σ Hz _ hq__=>by obtain⟨_,_,_,s⟩:=hq__;exact s.seq (SqL.of hp)) ?_ ?_
   ·rintro m v σ Hz hm ⟨z,u,rfl,sz⟩
    rw[DM]at hm
    obtain⟨t,ht,rfl⟩:=DO.mp hm
    obtain⟨y,hy,py⟩:=bB tps ht
    obtain⟨y0,y1⟩:=ok y (DQ hy)
    have ew:AZ (es.take (m+1)) dn ns=(AZ (es.take m) dn ns&& !(decide (y.1∈ns)&&((dn.getD y.2.toNat none).isSome&& !decide (y.2∈ns)))):=by
     unfold AZ
     rw[bR hy,List.all_append,List.all_cons,List.all_nil,Bool.and_true]
    rw[ew]
    have hrz:=(sy.trans sz) _ _ er
    refine⟨t,_,rfl,SqT.of (sz _ _ py),rfl,_,_,rfl,_,_,rfl,rfl,?_⟩
    refine⟨_,rfl,_,rfl,r,_,rfl,.inl (SqL.of hrz),rfl,bQ _,?_⟩
    rw[if_neg DU,cg]
    refine⟨_,rfl,zw (fun c1=>?_) fun c1=>?_⟩
    ·have e3:y.2=((y.2.toNat:Nat):Int):=by omega
     have hat:mM (dn.map hV) y.2=some (hV (dn.getD y.2.toNat none)):=by
      conv=>lhs;rw[e3]
      exact eG (by omega)
     refine⟨_,rfl,_,rfl,d,_,_,_,rfl,rfl,(s0y.trans sz).seq hd,hat,rfl,?_⟩
     have e:(!decide (hV (dn.getD y.2.toNat none)=V.non))=(dn.getD y.2.toNat none).isSome:=by rw[g8];cases dn.getD y.2.toNat none<;>rfl
     rw[e]
     refine⟨_,rfl,By (fun c2=>?_) fun c2=>?_⟩
     ·refine⟨_,rfl,_,rfl,r,_,rfl,.inl (SqL.of hrz),rfl,bQ _,?_⟩
      rw[if_pos rfl,cg]
      refine⟨_,rfl,?_⟩
      cases c3:decide (y.2∈ns)with
      | true=>
       refine a9 ⟨some (.int y.1),some (.int y.2),?_,sz⟩
       rw[Bool.not_true,Bool.and_false,Bool.and_false,Bool.not_false,Bool.and_true]
       rfl
      | false=>
       refine cb ⟨some (.int y.1),some (.int y.2),?_,sz⟩
       rw[c2,decide_eq_true c1,Bool.not_false,Bool.and_true,Bool.and_true,Bool.not_true,Bool.and_false]
       rfl
     ·refine a9 ⟨some (.int y.1),some (.int y.2),?_,sz⟩
      rw[c2,FX,Bool.and_false,Bool.not_false,Bool.and_true]
      rfl
    ·refine a9 ⟨some (.int y.1),some (.int y.2),?_,sz⟩
     rw[decide_eq_false c1,FX,Bool.not_false,Bool.and_true]
     rfl
   ·rintro σ Hz ⟨z,u,rfl,sz⟩
    have tl:es.take (ps.map V.ref).length=es:=by rw[DI,Paired.length tps,EL]
    rw[tl,BQ]
    have sxz:=sy.trans sz
    rw[bR hns,EI]
    refine⟨_,rfl,_,rfl,?_⟩
    cases hw:jB es dn ns with
    | true=>
     have e5:[ns].filter (jB es dn)=[ns]:=by simp[hw]
     rw[e5]
     have hkz:=sz _ _ hk
     refine cb ⟨_,rfl,.inl ⟨rfl,_,SqL.of hkz⟩,_,rfl,kl,_,_,rfl,rfl,hkz,kb (by rw[DI];rw[DI]at *;omega),?_⟩
     have ne:∀b∈ks++[r],b≠kl:=fun b hb z=>by
      have hb':b∈as:=by
       rcases Eg.mp hb with y | y
       ·exact sub b y
       ·rw [DV.mp y];exact DQ hr'
      have:=fr b hb'
      obtain⟨i,hi⟩:=EB.mp hb'
      obtain⟨l',_,e'⟩:=bB il hi
      rw[z,nkl]at e'
      cases e'
     refine⟨ks++[r],_,_,_,_,rfl,sxz.put nkl,by rw[ae,DY];rfl,?_,fun b hb=>?_,by rw[DX,Ec];omega⟩
     ·exact IntsL.but (acc:=kl) (aR (ik.same sz) (sxz _ _ er)) ne fun b o hb e=>by rw[aq hb];exact e
     ·rcases Eg.mp hb with y | y
      ·exact sub b y
      ·rw [DV.mp y];exact DQ hr'
    | false=>
     have e5:[ns].filter (jB es dn)=[]:=by simp[hw]
     rw[e5,Fc]
     exact a9 ⟨ks,_,_,_,_,rfl,sxz,sz _ _ hk,ik.same sz,sub,by omega⟩
  ·rintro σ Hy ⟨ks,u1,u2,u3,u4,rfl,sy,hk,ik,sub,kle⟩
   have pl:(as.map V.ref).length=(eX (dg dn)).length:=by rw[DI];exact Paired.length il
   rw[pl,EL]at ik
   exact⟨_,rfl,q kl ks Hy (sx.trans sy) nk0 hk ik fun b hb=>fr b (sub b hb)⟩
def c9 (K:PySem.W.Frag):Sp:=fun vs H Q _=>∃(d t:Addr) (dn:List (Option Int)) (ns:List Int),vs=[.ref d,.ref t]/\SqL K H d (dn.map hV)/\SqL K H t (ns.map V.int)/\dn.length<=6/\∀l H',Same H H'->H l=none->H' l=some (.lst ((iC dn ns).map hV))->Q (.ref l) H'
theorem eK:FnScope ["done","steps","left","step"] ["done","steps"] (au fz):=⟨rfl,rfl,rfl,by decide +kernel,rfl,by decide +kernel,by decide +kernel⟩
theorem eL (D:Dfs K mg aF dF) (T:Txt mg):FnOk P w K mg base aX 1 (aF 38) (dF 38) ["done","steps"] (c9 K):=by
 refine D.law_undone.fn.ok eK (fun vs H Q E h=>?_) (fun cdv A outer s H vs Q E hr h=>?_)
 ·obtain⟨d,t,dn,ns,rfl,_⟩:=h;rfl
 ·have hu:=aP hr
  obtain⟨d,t,dn,ns,rfl,hd,ht,d6,q⟩:=h
  refine⟨_,(af (aA (i:=2) eK.nd rfl (Or.inl rfl) (aG ab))
   (af (aY PassesOwn.never rfl (aM rfl T.z_range (aa (ak (bw K) (by rfl) T.z_len boot_len (aa (pv 0) ab)) ab)) (ao (i:=3) eK.nd rfl (Or.inl rfl))
    (ag (aK (ax (Ag K) (pv 3) (pv 1) (by with_unfolding_all rfl))
     (ag (bZ (dP PySem.F.plainAttrs_list PySem.F.slot_list_append PySem.F.type_list_append a8 (pv 2) (aa cK ab))))
     (ag (bZ (dP PySem.F.plainAttrs_list PySem.F.slot_list_append PySem.F.type_list_append a8 (pv 2) (aa (az (dO K) (pv 0) (pv 3) (fun _ _=>rfl)) ab)))))))
   (ag (av (pv 2))))),?_⟩
  refine⟨cI,fun l nl=>?_⟩
  have sn:=Same.new (o:= .lst []) nl
  refine⟨_,rfl,_,_,rfl,.inl ⟨_,sn.seq hd,rfl⟩,_,rfl,eQ _,by rw[DI];omega,?_⟩
  have e0:(((dn.map hV).length:Nat):Int).toNat=dn.length:=by rw[DI];omega
  rw[e0]
  refine cE (n:=dn.length) (fun i σ Hx=>∃(x:Option V),σ=[some (.ref d),some (.ref t),some (.ref l),x]/\Same H Hx/\Hx l=some (.lst (((DR i).map fun(i:Nat)=>if(i:Int)∈ns then none else dn.getD i none).map hV))) ⟨none,rfl,sn,ae⟩ ?_ ?_
  ·rintro i σ Hx hi ⟨x,rfl,sx,hlx⟩
   have ei:(0:Int)+(i:Int)=((i:Nat):Int):=by omega
   rw[ei]
   have er:((DR (i+1)).map fun(i:Nat)=>if(i:Int)∈ns then none else dn.getD i none)=((DR i).map fun(i:Nat)=>if(i:Int)∈ns then none else dn.getD i none)++[if(i:Int)∈ns then none else dn.getD i none]:=by rw[E4,DY];rfl
   rw[er]
   refine⟨_,rfl,_,rfl,t,_,rfl,.inl (sx.seq ht),rfl,bQ _,?_⟩
   rw[if_neg DU,cg]
   refine⟨_,rfl,zw (fun m=>?_) fun m=>?_⟩
   ·rw [if_pos m]
    refine⟨_,rfl,.inl ⟨rfl,_,SqL.of hlx⟩,l,_,_,rfl,rfl,hlx,kb (by rw[DI,DI,Ew];omega),?_⟩
    exact⟨_,rfl,sx.put nl,by rw[ae,DY];rfl⟩
   ·rw [if_neg m]
    refine⟨_,rfl,.inl ⟨rfl,_,SqL.of hlx⟩,_,rfl,_,rfl,d,_,_,_,rfl,rfl,sx.seq hd,eG hi,l,_,_,rfl,rfl,hlx,kb (by rw[DI,DI,Ew];omega),?_⟩
    exact⟨_,rfl,sx.put nl,by rw[ae,DY];rfl⟩
  ·rintro σ Hx ⟨x,rfl,sx,hlx⟩
   exact⟨_,rfl,q l Hx sx nl hlx⟩
def eB (K:PySem.W.Frag):Sp:=fun vs H Q _=>∃(ma d:Addr) (rs:List Addr) (ps:List (List Int)) (dn:List (Option Int)),vs=[.ref ma,.ref d]/\H ma=some (.lst (rs.map V.ref))/\RowsL H rs ps/\SqL K H d (dn.map hV)/\dn.length=ps.length/\ps.length<=6/\∀(l:Addr) (us:List Addr) (H':Hp),Same H H'->H l=none->H' l=some (.lst (us.map V.ref))->RowsL H' us (bW ps dn)->Q (.ref l) H'
theorem eD:FnScope ["may","done","lists","some","hand"] ["may","done"] (au iz):=⟨rfl,rfl,rfl,by decide +kernel,rfl,by decide +kernel,by decide +kernel⟩
theorem gj (D:Dfs K mg aF dF) (T:Txt mg):FnOk P w K mg base aX 1 (aF 39) (dF 39) ["may","done"] (eB K):=by
 refine D.law_held.fn.ok eD (fun vs H Q E h=>?_) (fun cdv A outer s H vs Q E hr h=>?_)
 ·obtain⟨ma,d,rs,ps,dn,rfl,_⟩:=h;rfl
 ·have hu:=aP hr
  obtain⟨ma,d,rs,ps,dn,rfl,hma,rws,hd,dl,p6,q⟩:=h
  refine⟨_,(af (aA (i:=2) eD.nd rfl (Or.inl rfl) (aG ab))
   (af (aY PassesOwn.never rfl (qI K rfl T.z_zip (aa (pv 0) (aa (pv 1) ab))) (vP K rfl (aD (ao (i:=3) eD.nd rfl (Or.inl rfl)) (aD (ao (i:=4) eD.nd rfl (Or.inl rfl)) b3)))
    (ag (aK (ax qj (pv 4) cK (ay _))
     (ag (bZ (dP PySem.F.plainAttrs_list PySem.F.slot_list_append PySem.F.type_list_append a8 (pv 2) (aa (pv 3) ab))))
     (ag (bZ (dP PySem.F.plainAttrs_list PySem.F.slot_list_append PySem.F.type_list_append a8 (pv 2) (aa (aG (aa (pv 4) ab)) ab)))))))
   (ag (av (pv 2))))),?_⟩
  have rl:rs.length=ps.length:=rws.len
  have hml:(bW ps dn).length=ps.length:=cX
  refine⟨cI,fun ll nll=>?_⟩
  have s10:=Same.new (o:= .lst []) nll
  have hll:aE H ll (.lst []) ll=some (.lst []):=ae
  generalize aE H ll (.lst [])=HA at s10 hll
  refine⟨_,rfl,_,rfl,ma,d,_,_,rfl,SqL.of (s10 _ _ hma),s10.seq hd,?_⟩
  refine sH (K:=K) (a:=ma) (b:=d) (xs:=rs.map V.ref) (ys:=dn.map hV) (by rw[DI,DI];omega) (fun i σ Hx=>∃(x y:Option V) (us:List Addr),σ=[some (.ref ma),some (.ref d),some (.ref ll),x,y]/\Same H Hx/\Hx ll=some (.lst (us.map V.ref))/\RowsL Hx us ((bW ps dn).take i)/\(∀u∈us,u≠ll)) ⟨none,none,[],rfl,s10,hll,.nil,fun _ z=>by cases z⟩ (fun i σ Hx _ hq__=>by obtain⟨_,_,_,_,s,_⟩:=hq__;exact⟨SqL.of (s _ _ hma),s.seq hd⟩) ?_ ?_
  ·rintro i u v σ Hx p hu' hv ⟨x,y,us,rfl,sx,hlx,rus,nus⟩ np
   rw[DM]at hu' hv
   obtain⟨r,hr',rfl⟩:=DO.mp hu'
   obtain⟨b,hb,rfl⟩:=DO.mp hv
   have hi:i<ps.length:=by have:=(DN.mp hr').1;omega
   have sp:=Same.new (o:= .tup [V.ref r,hV b]) np
   have hlp':=sp _ _ hlx
   have hgi:(bW ps dn)[i]?=some (k4 (ps.getD i []) b):=by
    rw[DJ (by omega)]
    have z:=g9 (may:=ps) (dn:=dn) hi
    rw[bx (by omega),fU hb]at z
    rw[z]
   obtain⟨r',e1,e2⟩:=rws.at (DJ hi)
   rw[hr']at e1
   cases e1
   rw[<- bx hi]at e2
   have ul:=rus.len
   rw[EA]at ul
   have fin:∀(c:Addr) (Hy:Hp),Same (aE Hx p (.tup [V.ref r,hV b])) Hy->Hy c=some (.lst ((k4 (ps.getD i []) b).map V.int))->c≠ll->Hy ll=some (.lst (us.map V.ref))->(us.map V.ref).length<sizeLine/\(∃us2:List Addr,Same H (aE Hy ll (.lst (us.map V.ref++[.ref c])))/\aE Hy ll (.lst (us.map V.ref++[.ref c])) ll=some (.lst (us2.map V.ref))/\RowsL (aE Hy ll (.lst (us.map V.ref++[.ref c]))) us2 ((bW ps dn).take (i+1))/\∀u∈us2,u≠ll):=fun c Hy sy hc nc hl2=>by
    refine⟨kb (by rw[DI];omega),us++[c],((sx.trans sp).trans sy).put nll,by rw[ae,DY];rfl,?_,fun u hu=>?_⟩
    ·rw [bR hgi]
     exact aR ((rus.same (sp.trans sy)).but nus SameBut.upd) (by rw[aq nc];exact hc)
    ·rcases Eg.mp hu with z | z
     ·exact nus u z
     ·rw [DV.mp z];exact nc
   refine⟨p,_,rfl,SqT.of ae,rfl,_,_,rfl,_,_,rfl,rfl,?_⟩
   have rne:r≠ll:=fun z=>by rw[z,nll]at e2;cases e2
   refine⟨_,rfl,rfl,?_⟩
   rw[g8]
   cases b with
   | none=>
    obtain⟨f1,us2,f2⟩:=fin r _ (Same.refl _) (((sx.trans sp)) _ _ e2) rne hlp'
    exact⟨_,rfl,cb ⟨_,rfl,.inl ⟨rfl,_,SqL.of hlp'⟩,_,rfl,ll,_,_,rfl,rfl,hlp',f1,_,_,us2,rfl,f2⟩⟩
   | some b=>
    refine⟨_,rfl,a9 ⟨_,rfl,.inl ⟨rfl,_,SqL.of hlp'⟩,_,rfl,cI,fun c nc=>?_⟩⟩
    have sc:=Same.new (o:= .lst [V.int b]) nc
    obtain⟨f1,us2,f2⟩:=fin c _ sc ae (fun z=>by rw[z,hlp']at nc;cases nc) (sc _ _ hlp')
    exact⟨ll,_,_,rfl,rfl,sc _ _ hlp',f1,_,_,us2,rfl,f2⟩
  ·rintro σ Hx ⟨x,y,us,rfl,sx,hlx,rus,nus⟩
   rw[DI,EJ (by omega)]at rus
   exact⟨_,rfl,q ll us Hx sx nll hlx rus⟩
def gS (K:PySem.W.Frag):Sp:=fun vs H Q _=>∃(pl du pr ma ta d:Addr) (qs cs rs:List Addr) (S G:List (List Int)) (may:List (List Int)) (U:List Int) (ts:List (Addr×Addr×Str×Int×List Nat)) (dn:List (Option Int)),vs=[.ref pl,.ref du,.ref pr]/\H pr=some (.lst [.ref ma,.ref ta,.ref d])/\H ma=some (.lst (rs.map V.ref))/\RowsL H rs may/\(∀p∈may,p.Pairwise (· < ·))/\(∀p∈may,∀b∈p,b∈U)/\may.length<=6/\U.length<=26/\(∀b,some b∈dn->b∈U)/\Ties K H ta ts 100/\SqL K H d (dn.map hV)/\dn.length=may.length/\H pl=some (.lst (qs.map V.ref))/\Paired (PrAt may (ts.map dU) dn H) qs S/\S.Nodup/\S.length<=64/\H du=some (.lst (cs.map V.ref))/\IntsL H cs G/\S.Perm G/\∀H',Same H H'->Q (.bl true) H'
theorem bM:FnScope ["papers","due","problem","may","ties","done","met","pair","step"] ["papers","due","problem"] (au fA):=⟨rfl,rfl,rfl,by decide +kernel,rfl,by decide +kernel,by decide +kernel⟩
theorem mD (D:Dfs K mg aF dF) (T:Txt mg):FnOk P w K mg base aX 18 (aF 40) (dF 40) ["papers","due","problem"] (gS K):=by
 have Glaw_whole:FnOk P w K mg base aX 1 (aF 26) (dF 26) ["found"] (cP K):=dB D T
 have Glaw_shows:FnOk P w K mg base aX 17 (aF 36) (dF 36) ["paper","pattern","may","ties"] (i3 K):=oB D T
 have Glaw_undone:FnOk P w K mg base aX 1 (aF 38) (dF 38) ["done","steps"] (c9 K):=eL D T
 have Glaw_held:FnOk P w K mg base aX 1 (aF 39) (dF 39) ["may","done"] (eB K):=gj D T
 refine D.law_papers.fn.ok bM (fun vs H Q E h=>?_) (fun cdv A outer s H vs Q E hr h=>?_)
 ·obtain⟨pl,du,pr,ma,ta,d,qs,cs,rs,S,G,may,U,ts,dn,rfl,_⟩:=h;rfl
 ·have hu:=aP hr
  obtain⟨pl,du,pr,ma,ta,d,qs,cs,rs,S,G,may,U,ts,dn,rfl,hpr,hma,rws,up,sub,m6,u26,ds,tt,hd,dl,hpl,pq,nd,S64,hdu,ic,pm,q⟩:=h
  refine⟨_,(af (eE (pv 2) (An K rfl (aD (ao (i:=3) bM.nd rfl (Or.inl rfl)) (aD (ao (i:=4) bM.nd rfl (Or.inl rfl)) (aD (ao (i:=5) bM.nd rfl (Or.inl rfl)) b3)))))
   (af (aK (PW.pt (cQ (cw (bC (ak (nP K) (by rfl) T.z_isinstance boot_isinstance (aa (pv 0) (aa (j9 T.z_list) ab))))) (cR (ax fH (ak (bw K) (by rfl) T.z_len boot_len (aa (pv 0) ab)) (ak (bw K) (by rfl) T.z_len boot_len (aa (pv 1) ab)) (ay _)))))
    (ag (av bP))
    aC)
   (af (aA (i:=6) bM.nd rfl (Or.inl rfl) (aG ab))
   (af (aY PassesOwn.never rfl (gZ K (pv 0)) (ao (i:=7) bM.nd rfl (Or.inl rfl))
    (af (aK (PW.pt (cQ (cw (bC (ak (nP K) (by rfl) T.z_isinstance boot_isinstance (aa (pv 7) (aa (kK T.z_tuple) ab))))) (cQ (ax fH (ak (bw K) (by rfl) T.z_len boot_len (aa (pv 7) ab)) aj (ay _)) (cQ (ax (BL K hr.units) (az (e9 K) (pv 7) aj (fun _ _=>rfl)) (pv 1) (by with_unfolding_all rfl)) (cR (ax (Ds K hr.units) (az (e9 K) (pv 7) aj (fun _ _=>rfl)) (pv 6) (by with_unfolding_all rfl)))))))
     (ag (av bP))
     aC)
    (af (aY PassesOwn.never rfl (gZ K (az (e9 K) (pv 7) aj (fun _ _=>rfl))) (ao (i:=8) bM.nd rfl (Or.inl rfl))
     (ag (aK (cw (bC (pc D.law_whole Glaw_whole (hr.mono (by decide)) (aa (pv 8) ab))))
      (ag (av bP))
      aC)))
    (af (bZ (dP PySem.F.plainAttrs_list PySem.F.slot_list_append PySem.F.type_list_append a8 (pv 6) (aa (az (e9 K) (pv 7) aj (fun _ _=>rfl)) ab)))
    (ag (aK (cw (bC (pc D.law_shows Glaw_shows (hr.mono (by decide)) (aa (az (e9 K) (pv 7) aj (fun _ _=>rfl)) (aa (aG ab) (aa (pc D.law_held Glaw_held (hr.mono (by decide)) (aa (pv 3) (aa (pc D.law_undone Glaw_undone (hr.mono (by decide)) (aa (pv 5) (aa (az (e9 K) (pv 7) aj (fun _ _=>rfl)) ab))) ab))) (aa (pv 4) ab)))))))
     (ag (av bP))
     aC))))))
   (ag (av bP)))))),?_⟩
  have ql:qs.length=S.length:=Paired.length pq
  have cl:cs.length=G.length:=Paired.length ic
  have pe:=pm.length_eq
  refine⟨_,rfl,pr,_,rfl,SqL.of hpr,rfl,_,_,rfl,_,_,rfl,_,_,rfl,rfl,?_⟩
  refine⟨_,rfl,_,_,_,true,rfl,.lst hpl,rfl,_,rfl,a9 ?_⟩
  refine⟨_,rfl,_,S.length,rfl,.inl ⟨_,SqL.of hpl,by rw[DI,ql]⟩,_,rfl,_,S.length,rfl,.inl ⟨_,SqL.of hdu,by rw[DI,cl,pe]⟩,rfl,_,rfl,k9 rfl ?_⟩
  refine⟨cI,fun mt nmt=>?_⟩
  have s1:=Same.new (o:= .lst []) nmt
  have hmt:aE H mt (.lst []) mt=some (.lst []):=ae
  generalize aE H mt (.lst [])=H1 at s1 hmt
  refine⟨_,rfl,pl,rfl,⟨_,SqL.of (s1 _ _ hpl)⟩,?_⟩
  refine be (K:=K) (a:=pl) (xs:=qs.map V.ref) (fun i σ Hx=>∃(x y:Option V) (ms:List Addr),σ=[some (.ref pl),some (.ref du),some (.ref pr),some (.ref ma),some (.ref ta),some (.ref d),some (.ref mt),x,y]/\Same H Hx/\Hx mt=some (.lst (ms.map V.ref))/\IntsL Hx ms (S.take i)/\mt∉ms) ⟨none,none,[],rfl,s1,hmt,.nil,fun z=>by cases z⟩ (fun i σ Hx _ hq__=>by obtain⟨_,_,_,_,s,_⟩:=hq__;exact SqL.of (s _ _ hpl)) ?_ ?_
  ·rintro i v σ Hx hi ⟨x,y,ms,rfl,sx,hmx,im,nm⟩
   rw[DM]at hi
   obtain⟨r,hr',rfl⟩:=DO.mp hi
   obtain⟨s,hs,sa,v',pp,hr,hsa,pap,sh⟩:=bB pq hr'
   have sm:=DQ hs
   have il:=(DN.mp hs).1
   have hrx:=sx _ _ hr
   have hsx:=sx _ _ hsa
   have icx:=ic.same sx
   have ml:=Paired.length im
   rw[EA]at ml
   refine⟨_,rfl,_,_,_,true,rfl,.tup hrx,rfl,_,rfl,a9 ?_⟩
   refine⟨_,rfl,_,2,rfl,.inr ⟨_,SqT.of hrx,rfl⟩,rfl,_,rfl,k9 rfl ?_⟩
   refine⟨_,rfl,r,_,_,_,rfl,rfl,SqT.of hrx,rfl,_,rfl,du,cs,1,y4 Hx s,rfl,SqL.of (sx _ _ hdu),by decide,fun a ha=>?_,_,rfl,?_⟩
   ·obtain⟨j,hj⟩:=EB.mp ha
    obtain⟨_,_,e⟩:=bB icx hj
    exact oj e (SqL.of hsx)
   rw[if_pos rfl,ki icx]
   refine n9 (pm.mem_iff.mp sm) ?_
   refine⟨_,rfl,r,_,_,_,rfl,rfl,SqT.of hrx,rfl,_,rfl,mt,ms,1,y4 Hx s,rfl,SqL.of hmx,by decide,fun a ha=>?_,_,rfl,?_⟩
   ·obtain⟨j,hj⟩:=EB.mp ha
    obtain⟨_,_,e⟩:=bB im hj
    exact oj e (SqL.of hsx)
   rw[if_neg DU,ki im,decide_eq_false (qZ nd hs)]
   refine a9 ?_
   refine⟨_,rfl,r,_,_,_,rfl,rfl,SqT.of hrx,rfl,sa,rfl,⟨_,SqL.of hsx⟩,?_⟩
   refine be (K:=K) (a:=sa) (xs:=s.map V.int) (fun i' σ Hy=>∃(y:Option V),σ=[some (.ref pl),some (.ref du),some (.ref pr),some (.ref ma),some (.ref ta),some (.ref d),some (.ref mt),some (.ref r),y]/\Hy=Hx) ⟨y,rfl,rfl⟩ (fun i σ Hy _ hq__=>by obtain⟨_,_,e⟩:=hq__;exact by rw[e];exact SqL.of hsx) ?_ ?_
   ·rintro i' v σ Hy hi' ⟨y,rfl,rfl⟩
    obtain⟨e,he,rfl,ed⟩:=g7 hi'
    exact⟨_,rfl,e,rfl,_,rfl,a9 ⟨_,rfl,rfl⟩⟩
   rintro σ Hy ⟨y,rfl,rfl⟩
   refine⟨_,rfl,.inl ⟨rfl,_,SqL.of hmx⟩,_,rfl,r,_,_,_,rfl,rfl,SqT.of hrx,rfl,mt,_,_,rfl,rfl,hmx,kb (by rw[DI];omega),?_⟩
   have sam:sa≠mt:=fun z=>by rw[z,nmt]at hsa;cases hsa
   have s2:Same H (aE Hy mt (.lst (ms.map V.ref++[V.ref sa]))):=sx.put nmt
   have hm2:aE Hy mt (.lst (ms.map V.ref++[V.ref sa])) mt=some (.lst ((ms++[sa]).map V.ref)):=by rw[ae,DY];rfl
   have im2:IntsL (aE Hy mt (.lst (ms.map V.ref++[V.ref sa]))) (ms++[sa]) (S.take (i+1)):=by
    rw[bR hs]
    exact aR (IntsL.but (acc:=mt) im (fun u hu z=>nm (z▸hu)) SameBut.upd) (by rw[aq sam];exact hsx)
   have nm2:mt∉ms++[sa]:=fun z=>by
    rcases Eg.mp z with w | w
    ·exact nm w
    ·exact sam (DV.mp w).symm
   generalize aE Hy mt (.lst (ms.map V.ref++[V.ref sa]))=H2 at s2 hm2 im2
   refine⟨_,rfl,r,_,_,_,rfl,rfl,SqT.of (s2 _ _ hr),rfl,cI,fun e0 ne0=>?_⟩
   have s3:=Same.new (o:= .lst []) ne0
   have he0:aE H2 e0 (.lst []) e0=some (.lst []):=ae
   generalize aE H2 e0 (.lst [])=H3 at s3 he0
   have s03:=s2.trans s3
   refine⟨_,rfl,_,rfl,_,rfl,r,_,_,_,rfl,rfl,SqT.of (s03 _ _ hr),rfl,d,sa,dn,s,rfl,s03.seq hd,SqL.of (s03 _ _ hsa),by omega,fun sd H4 s4 nsd hsd=>?_⟩
   have s04:=s03.trans s4
   have sl:=kh dn s
   refine⟨ma,sd,rs,may,iC dn s,rfl,s04 _ _ hma,rws.same s04,SqL.of hsd,by omega,m6,fun hl' us H5 s5 nhl hhl rus=>?_⟩
   have s05:=s04.trans s5
   have hml:(bW may (iC dn s)).length=may.length:=cX
   refine⟨_,rfl,e0,hl',ta,v',[],us,bW may (iC dn s),U,ts,pp,rfl,s5 _ _ (s4 _ _ he0),⟨SqL.of hhl,rus.pools,pz up,m9 sub (fun b hb=>ds b (tz hb)),by omega,u26⟩,⟨s05.seq tt.ls,fun x hx=>(tt.ea x hx).same s05,tt.ln⟩,mY,Eo _,by simp;omega,pap.same s05,sh,fun H6 s6=>⟨_,rfl,a9 ?_⟩⟩
   have s26:=((s3.trans s4).trans s5).trans s6
   exact⟨_,_,ms++[sa],rfl,s05.trans s6,s26 _ _ hm2,im2.same s26,nm2⟩
  ·rintro σ Hx ⟨x,y,ms,rfl,sx,_,_,_⟩
   exact q Hx sx
def gT (K:PySem.W.Frag):Sp:=fun vs H Q _=>∃(tf o pr ma ta d:Addr) (rs:List Addr) (may:List (List Int)) (U:List Int) (ts:List (Addr×Addr×Str×Int×List Nat)) (es:jA) (dn:List (Option Int)),vs=[.ref tf,.ref o,.ref pr]/\H pr=some (.lst [.ref ma,.ref ta,.ref d])/\H ma=some (.lst (rs.map V.ref))/\RowsL H rs may/\(∀p∈may,p.Pairwise (· < ·))/\(∀p∈may,∀b∈p,b∈U)/\may.length<=6/\U.length<=26/\(∀b,some b∈dn->b∈U)/\Ties K H ta ts 100/\(∀x∈ts,TieG may.length x)/\RowAt H o es/\es.length<=100/\(∀x∈es,0<=x.2/\x.2<(dn.length:Int))/\SqL K H d (dn.map hV)/\dn.length=may.length/\MTold H tf may (ts.map dU) es dn/\∀H',Same H H'->Q (.bl true) H'
theorem bY:FnScope ["found","order","problem","may","ties","done","sets","step"] ["found","order","problem"] (au fB):=⟨rfl,rfl,rfl,by decide +kernel,rfl,by decide +kernel,by decide +kernel⟩
theorem mE (D:Dfs K mg aF dF) (T:Txt mg):FnOk P w K mg base aX 19 (aF 41) (dF 41) ["found","order","problem"] (gT K):=by
 have Glaw_whole:FnOk P w K mg base aX 1 (aF 26) (dF 26) ["found"] (cP K):=dB D T
 have Glaw_fits:FnOk P w K mg base aX 2 (aF 32) (dF 32) ["hands","may","ties"] (gg K):=jL D T
 have Glaw_sets:FnOk P w K mg base aX 1 (aF 37) (dF 37) ["order","done"] (gh K):=jP D T
 have Glaw_undone:FnOk P w K mg base aX 1 (aF 38) (dF 38) ["done","steps"] (c9 K):=eL D T
 have Glaw_held:FnOk P w K mg base aX 1 (aF 39) (dF 39) ["may","done"] (eB K):=gj D T
 have Glaw_papers:FnOk P w K mg base aX 18 (aF 40) (dF 40) ["papers","due","problem"] (gS K):=mD D T
 refine D.law_mended.fn.ok bY (fun vs H Q E h=>?_) (fun cdv A outer s H vs Q E hr h=>?_)
 ·obtain⟨tf,o,pr,ma,ta,d,rs,may,U,ts,es,dn,rfl,_⟩:=h;rfl
 ·have hu:=aP hr
  obtain⟨tf,o,pr,ma,ta,d,rs,may,U,ts,es,dn,rfl,hpr,hma,rws,up,sub,m6,u26,ds,tt,tg,ho,e1,ok,hd,dl,td,q⟩:=h
  refine⟨_,(af (eE (pv 2) (An K rfl (aD (ao (i:=3) bY.nd rfl (Or.inl rfl)) (aD (ao (i:=4) bY.nd rfl (Or.inl rfl)) (aD (ao (i:=5) bY.nd rfl (Or.inl rfl)) b3)))))
   (af (aA (i:=6) bY.nd rfl (Or.inl rfl) (pc D.law_sets Glaw_sets (hr.mono (by decide)) (aa (pv 1) (aa (pv 5) ab))))
   (af (aK (PW.pt (cQ (cw (bC (ak (nP K) (by rfl) T.z_isinstance boot_isinstance (aa (pv 0) (aa (kK T.z_tuple) ab))))) (cR (ax gM (ak (bw K) (by rfl) T.z_len boot_len (aa (pv 0) ab)) aj (ay _)))))
    (ag (av bP))
    aC)
   (af (aK (ax cL (az (e9 K) (pv 0) aj (fun _ _=>rfl)) a7 (ay _))
    (ag (av (gX (b4 cL (ak (bw K) (by rfl) T.z_len boot_len (aa (pv 0) ab)) aj (ay _)) (i6 (pc D.law_papers Glaw_papers (hr.mono (by decide)) (aa (az (e9 K) (pv 0) aj (fun _ _=>rfl)) (aa (pv 6) (aa (pv 2) ab))))))))
    aC)
   (af (aK (PW.pt (cQ (ax fH (az (e9 K) (pv 0) aj (fun _ _=>rfl)) a7 (ay _)) (cQ (ax fH (ak (bw K) (by rfl) T.z_len boot_len (aa (pv 0) ab)) aj (ay _)) (cR (ax (BL K hr.units) (az (e9 K) (pv 0) aj (fun _ _=>rfl)) (pv 6) (by with_unfolding_all rfl))))))
    (ag (av bP))
    aC)
   (af (aY PassesOwn.never rfl (gZ K (az (e9 K) (pv 0) aj (fun _ _=>rfl))) (ao (i:=7) bY.nd rfl (Or.inl rfl))
    (ag (aK (cw (bC (pc D.law_whole Glaw_whole (hr.mono (by decide)) (aa (pv 7) ab))))
     (ag (av bP))
     aC)))
   (af (aK (cw (bC (pc D.law_fits Glaw_fits (hr.mono (by decide)) (aa (az (e9 K) (pv 0) aj (fun _ _=>rfl)) (aa (pc D.law_held Glaw_held (hr.mono (by decide)) (aa (pv 3) (aa (pc D.law_undone Glaw_undone (hr.mono (by decide)) (aa (pv 5) (aa (az (e9 K) (pv 0) aj (fun _ _=>rfl)) ab))) ab))) (aa (pv 4) ab))))))
    (ag (av bP))
    aC)
   (ag (av (pc D.law_papers Glaw_papers (hr.mono (by decide)) (aa (az (e9 K) (pv 0) aj (fun _ _=>rfl)) (aa (aJ ["row","found"] [none,some 0] rfl (gZ K (pv 6)) (fun _=>ao (i:=0) (aL (N:=["row","found"]) (by decide +kernel)) rfl (Or.inl rfl)) (fun _=>bU (ax gM (ak (bw K) (by rfl) T.z_len boot_len (aa (pv 0) ab)) (ak (bw K) (by rfl) T.z_len boot_len (aa (az (e9 K) (pv 1) aj (fun _ _=>rfl)) ab)) (ay _))) (fun _=>(pv 0)) ((.cons (fun _ e=>by cases e) (.cons (fun _ e=>by cases e;exact⟨rfl,rfl⟩) .nil)))) (aa (pv 2) ab))))))))))))),?_⟩
  have d6:dn.length<=6:=by omega
  refine⟨_,rfl,pr,_,rfl,SqL.of hpr,rfl,_,_,rfl,_,_,rfl,_,_,rfl,rfl,?_⟩
  refine⟨_,rfl,_,rfl,o,d,es,dn,rfl,ho,e1,ok,hd,d6,fun sl cs H1 s1 nsl hsl ic _=>?_⟩
  have tt1:∀Hx,Same H Hx->Ties K Hx ta ts 100:=fun Hx sx=>⟨sx.seq tt.ls,fun x hx=>(tt.ea x hx).same sx,tt.ln⟩
  have pmS:=lM (es:=es) d6
  have ndS:=xt (es:=es) d6
  have Ca:=xq (es:=es) d6
  rcases td with⟨sa,lp,pl,g,hs,qs,htf,hsa,gm,hlp,ip,hpl,pq⟩ | ⟨pl,qs,htf,hpl,pq⟩
  ·refine⟨_,rfl,_,_,_,true,rfl,.tup (s1 _ _ htf),rfl,_,rfl,a9 ?_⟩
   refine⟨_,rfl,_,4,rfl,.inr ⟨_,SqT.of (s1 _ _ htf),rfl⟩,_,_,rfl,rfl,_,rfl,a9 ?_⟩
   refine⟨_,rfl,tf,_,_,_,rfl,rfl,SqT.of (s1 _ _ htf),rfl,rfl,_,rfl,?_⟩
   rw[decide_eq_false (by decide)]
   refine a9 ?_
   refine⟨_,rfl,tf,_,_,_,rfl,rfl,SqT.of (s1 _ _ htf),rfl,rfl,_,rfl,k9 rfl ?_⟩
   refine⟨_,rfl,_,4,rfl,.inr ⟨_,SqT.of (s1 _ _ htf),rfl⟩,rfl,_,rfl,k9 rfl ?_⟩
   refine⟨_,rfl,tf,_,_,_,rfl,rfl,SqT.of (s1 _ _ htf),rfl,_,rfl,sl,cs,1,y4 H1 g,rfl,SqL.of hsl,by decide,fun a ha=>?_,_,rfl,?_⟩
   ·obtain⟨j,hj⟩:=EB.mp ha
    obtain⟨_,_,e⟩:=bB ic hj
    exact oj e (SqL.of (s1 _ _ hsa))
   rw[if_pos rfl,ki ic]
   refine n9 (pmS.mem_iff.mp gm) ?_
   refine⟨_,rfl,tf,_,_,_,rfl,rfl,SqT.of (s1 _ _ htf),rfl,sa,rfl,⟨_,SqL.of (s1 _ _ hsa)⟩,?_⟩
   refine be (K:=K) (a:=sa) (xs:=g.map V.int) (fun i' σ Hy=>∃(y:Option V),σ=[some (.ref tf),some (.ref o),some (.ref pr),some (.ref ma),some (.ref ta),some (.ref d),some (.ref sl),y]/\Hy=H1) ⟨none,rfl,rfl⟩ (fun i σ Hy _ hq__=>by obtain⟨_,_,e⟩:=hq__;exact by rw[e];exact SqL.of (s1 _ _ hsa)) ?_ ?_
   ·rintro i' v σ Hy hi' ⟨y,rfl,rfl⟩
    obtain⟨e,he,rfl,ed⟩:=g7 hi'
    exact⟨_,rfl,e,rfl,_,rfl,a9 ⟨_,rfl,rfl⟩⟩
   rintro σ Hy ⟨y,rfl,rfl⟩
   refine⟨_,rfl,tf,_,_,_,rfl,rfl,SqT.of (s1 _ _ htf),rfl,_,rfl,_,rfl,_,rfl,tf,_,_,_,rfl,rfl,SqT.of (s1 _ _ htf),rfl,d,sa,dn,g,rfl,s1.seq hd,SqL.of (s1 _ _ hsa),d6,fun sd H4 s4 nsd hsd=>?_⟩
   have s04:=s1.trans s4
   have skl:=kh dn g
   refine⟨ma,sd,rs,may,iC dn g,rfl,s04 _ _ hma,rws.same s04,SqL.of hsd,by omega,m6,fun hl' us H5 s5 nhl hhl rus=>?_⟩
   have s05:=s04.trans s5
   have hml:(bW may (iC dn g)).length=may.length:=cX
   refine⟨_,rfl,lp,hl',ta,us,bW may (iC dn g),ts,hs,rfl,s05 _ _ hlp,SqL.of hhl,rus.pools,by omega,tt1 _ s05,fun x hx=>by rw[hml];exact tg x hx,ip,fun H6 s6=>⟨_,rfl,a9 ?_⟩⟩
   have s06:=s05.trans s6
   have s16:=(s4.trans s5).trans s6
   have ic6:=ic.same s16
   have hsl6:=s16 _ _ hsl
   have csl:cs.length<=64:=by rw[Paired.length ic,<- pmS.length_eq];exact Ca
   refine⟨_,rfl,tf,_,_,_,rfl,rfl,SqT.of (s06 _ _ htf),rfl,_,rfl,sl,rfl,⟨_,SqL.of hsl6⟩,?_⟩
   refine bL (xs:=cs.map V.ref) (fun j=>decide ((((eX (dg dn)).filter (jB es dn)).getD j []).length<g.length)) (fun j=>V.ref (cs.getD j 0)) (SqL.of hsl6) (by rw[DI];omega) (fun j v hv H7 R s7 k=>?_) (fun j v hv _ H7 R s7 k=>?_) fun nl H7 s7 nnl hnl=>?_
   ·rw [DM]at hv
    obtain⟨r,hr',rfl⟩:=DO.mp hv
    obtain⟨s,hs',f2⟩:=bB ic6 hr'
    have kk:∀H8,Same H7 H8->R (decide ((((eX (dg dn)).filter (jB es dn)).getD j []).length<g.length)) H8:=k
    rw[fU hs']at kk
    refine⟨_,rfl,_,s.length,rfl,.inl ⟨_,SqL.of (s7 _ _ f2),by rw[DI]⟩,_,rfl,tf,_,_,_,rfl,rfl,SqT.of ((s06.trans s7) _ _ htf),rfl,_,g.length,rfl,.inl ⟨_,SqL.of ((s06.trans s7) _ _ hsa),by rw[DI]⟩,_,_,rfl,rfl,_,rfl,?_⟩
    have z:=kk H7 (Same.refl _)
    rw[show decide (s.length<g.length)=decide ((s.length:Int)<(g.length:Int))from decide_eq_decide.mpr Int.ofNat_lt.symm]at z
    exact z
   ·rw [DM]at hv
    obtain⟨r,hr',rfl⟩:=DO.mp hv
    have kk:R (V.ref (cs.getD j 0)) H7:=k H7 (Same.refl _)
    rw[fU hr']at kk
    exact⟨_,rfl,kk⟩
   obtain⟨ws,ew,pw⟩:=lK [] (ic6.same s7) (fun s=>decide (s.length<g.length))
   rw[DI,ew]at hnl
   have s07:=s06.trans s7
   exact⟨_,rfl,pl,nl,pr,ma,ta,d,qs,ws,rs,_,_,may,U,ts,dn,rfl,s07 _ _ hpr,s07 _ _ hma,rws.same s07,up,sub,m6,u26,ds,tt1 _ s07,s07.seq hd,dl,s07 _ _ hpl,Paired.mapP pq fun a s h=>h.same s07,ndS.filter _,Ek (Et _ _) Ca,hnl,pw,pmS.filter _,fun H' s'=>q H' (s07.trans s')⟩
  ·refine⟨_,rfl,_,_,_,true,rfl,.tup (s1 _ _ htf),rfl,_,rfl,a9 ?_⟩
   refine⟨_,rfl,_,2,rfl,.inr ⟨_,SqT.of (s1 _ _ htf),rfl⟩,_,_,rfl,rfl,_,rfl,a9 ?_⟩
   refine⟨_,rfl,tf,_,_,_,rfl,rfl,SqT.of (s1 _ _ htf),rfl,rfl,_,rfl,cb ?_⟩
   refine⟨_,rfl,_,2,rfl,.inr ⟨_,SqT.of (s1 _ _ htf),rfl⟩,rfl,_,rfl,cb ?_⟩
   exact⟨_,rfl,tf,_,_,_,rfl,rfl,SqT.of (s1 _ _ htf),rfl,_,rfl,_,rfl,pl,sl,pr,ma,ta,d,qs,cs,rs,_,_,may,U,ts,dn,rfl,s1 _ _ hpr,s1 _ _ hma,rws.same s1,up,sub,m6,u26,ds,tt1 _ s1,s1.seq hd,dl,s1 _ _ hpl,Paired.mapP pq fun a s h=>h.same s1,ndS,Ca,hsl,ic,pmS,fun H' s'=>q H' (s1.trans s')⟩
def fN (K:PySem.W.Frag):Sp:=fun vs H Q _=>∃(n:Int) (a:Addr) (hs:List Int),vs=[.int n,.ref a]/\SqL K H a (hs.map V.int)/\1<=hs.length/\hs.length<=6/\∀x H',Same H H'->TieT H' x->TieG hs.length x->CO hs x=true->Q (.ref x.1) H'
theorem bX:FnScope ["number","hands","word","limit","steps","many"] ["number","hands"] (au dI):=⟨rfl,rfl,rfl,by decide +kernel,rfl,by decide +kernel,by decide +kernel⟩
theorem j0 (D:Dfs K mg aF dF) (T:Txt mg):FnOk P w K mg base aX 2 (aF 42) (dF 42) ["number","hands"] (fN K):=by
 have Glaw_tie:FnOk P w K mg base aX 1 (aF 31) (dF 31) ["number","count"] (l7 K):=rE D T
 refine D.law_kept_tie.fn.ok bX (fun vs H Q E h=>?_) (fun cdv A outer s H vs Q E hr h=>?_)
 ·obtain⟨n,a,hs,rfl,_⟩:=h;rfl
 ·have hu:=aP hr
  obtain⟨n,a,hs,rfl,ha,h1,h6,q⟩:=h
  refine⟨_,(af (eE (pc D.law_tie Glaw_tie (hr.mono (by decide)) (aa (pv 0) (aa (ak (bw K) (by rfl) T.z_len boot_len (aa (pv 1) ab)) ab))) (vP K rfl (aD (ao (i:=2) bX.nd rfl (Or.inl rfl)) (aD (ao (i:=3) bX.nd rfl (Or.inl rfl)) (aD (ao (i:=4) bX.nd rfl (Or.inl rfl)) b3)))))
   (af (aA (i:=5) bX.nd rfl (Or.inl rfl) (ak (o8 w) (by rfl) T.z_len boot_len (aa (aI (nU w K) (by rfl) T.z_set PyProof.Rows.boot_set (aa (aJ ["step","hands"] [none,some 1] rfl (B7 K (pv 4)) (fun _=>ao (i:=0) (aL (N:=["step","hands"]) (by decide +kernel)) rfl (Or.inl rfl)) (fun _=>bA) (fun _=>(az (dO K) (pv 1) (pv 0) (fun _ _=>rfl))) ((.cons (fun _ e=>by cases e) (.cons (fun _ e=>by cases e;exact⟨rfl,rfl⟩) .nil)))) ab)) ab)))
   (af (aK (ax cL (pv 2) a7 (ay _))
    (ag (av (cy (aa (pv 2) (aa (ak (mI rfl) (by rfl) T.z_max boot_max (aa (pv 3) (aa (pv 5) ab))) (aa (pv 4) ab))))))
    aC)
   (ag (av (cy (aa (pv 2) (aa (ak (mJ rfl) (by rfl) T.z_min boot_min (aa (pv 3) (aa (pv 5) ab))) (aa (pv 4) ab))))))))),?_⟩
  refine⟨_,rfl,_,rfl,_,hs.length,rfl,.inl ⟨_,ha,by rw[DI]⟩,n,hs.length,rfl,h1,h6,fun x H1 s1 te tg=>?_⟩
  obtain⟨tp,t,wd,k,st⟩:=x
  have htp:H1 tp=some (.tup [.str wd,.int k,.ref t]):=te.tp
  have hts:H1 t=some (.tup (st.map fun(i:Nat)=>V.int (i:Int))):=te.ts
  have hwd:wd="most"\/wd="least":=te.wd
  have sl:st.length<=6:=te.sl
  have lt:∀i∈st,i<hs.length:=tg.lt
  have k1:1<=k:=tg.k1
  have k6:k<=6:=tg.k6
  have sne:st≠[]:=tg.ne
  have sup:st.Pairwise (· < ·):=tg.up
  refine⟨tp,_,rfl,SqT.of htp,rfl,_,_,rfl,_,_,rfl,_,_,rfl,rfl,?_⟩
  refine⟨_,rfl,t,rfl,⟨_,SqT.of hts⟩,?_⟩
  refine iN (xs:=st.map fun(i:Nat)=>V.int (i:Int)) (fun _=>true) (fun j=> .int (hs.getD (st.getD j 0) 0)) (SqT.of hts) (by rw[DI];omega) (fun _ _ _ _ _ _ k=>k _ (Same.refl _)) (fun j x hx _ H2 R s2 k=>?_) fun acc H2 s2 nacc hacc=>?_
  ·obtain⟨d,hd,rfl,ed⟩:=dt hx
   rw[ed]at k
   exact⟨_,rfl,_,rfl,a,_,_,_,rfl,rfl,(s1.trans s2).seq ha,bf (lt d (DQ hd)),k _ (Same.refl _)⟩
  rw[nZ]at hacc
  refine⟨acc,st.map fun i=>hs.getD i 0,rfl,SqL.of hacc,by rw[DI];omega,fun S nS=>⟨S,_,rfl,ae,?_⟩⟩
  have s3:=(s1.trans s2).to (o:= .ext (SX w S (dd (st.map fun i=>hs.getD i 0)))) nS
  have hts3:=(s2.to (o:= .ext (SX w S (dd (st.map fun i=>hs.getD i 0)))) nS) _ _ hts
  generalize aE H2 S (.ext (SX w S (dd (st.map fun i=>hs.getD i 0))))=H3 at s3 hts3
  have u1:=yB (f:=fun i=>hs.getD i 0) sne
  have u6:=Az (f:=fun i=>hs.getD i 0) (st:=st)
  have eu:(dd (st.map fun i=>hs.getD i 0)).length=gB (fun i=>hs.getD i 0) st:=rfl
  rw[eu]
  generalize hu':gB (fun i=>hs.getD i 0) st=un at u1 u6
  have fin:∀(wd':Str) (k':Int),(wd'="most"\/wd'="least")->1<=k'->k'<=6->kp (fun i=>hs.getD i 0) wd' k' st=true->∀tp2,H3 tp2=none->Q (.ref tp2) (aE H3 tp2 (.tup [.str wd',.int k',.ref t])):=fun wd' k' hw a1 a6 hk tp2 n2=>by
   have s4:=Same.new (o:= .tup [.str wd',.int k',.ref t]) n2
   exact q (tp2,t,wd',k',st) _ (s3.trans s4) ⟨ae,s4 _ _ hts3,hw,sl⟩ ⟨a1,a6,sne,lt,sup⟩ hk
  rcases hwd with e | e<;>subst e
  ·refine⟨_,rfl,rfl,_,rfl,cb ?_⟩
   refine⟨_,rfl,_,rfl,_,rfl,_,_,rfl,_,rfl,cI,fun tp2 n2=>fin "most" _ (.inl rfl) ?_ ?_ ?_ tp2 n2⟩
   ·split<;>omega
   ·split<;>omega
   ·unfold kp
    rw[if_pos rfl,hu']
    exact decide_eq_true (by split<;>omega)
  ·refine⟨_,rfl,rfl,_,rfl,?_⟩
   rw[decide_eq_false (by decide)]
   refine a9 ⟨_,rfl,_,rfl,_,rfl,_,_,rfl,_,rfl,cI,fun tp2 n2=>fin "least" _ (.inr rfl) ?_ ?_ ?_ tp2 n2⟩
   ·split<;>omega
   ·split<;>omega
   ·unfold kp
    rw[if_neg (by decide),hu']
    exact decide_eq_true (by split<;>omega)
theorem DF (m:Nat) (h:m<5):∃d:Int,mM [V.int 6,V.int 12,V.int 24,V.int 48,V.int 96] (m:Int)=some (.int d)/\0<d/\d<1000:=by
 have:∀m:Nat,m<5->mM [V.int 6,V.int 12,V.int 24,V.int 48,V.int 96] (m:Int)=some (.int (([6,12,24,48,96]:List Int).getD m 0))/\0<([6,12,24,48,96]:List Int).getD m 0/\([6,12,24,48,96]:List Int).getD m 0<1000:=by decide
 exact⟨_,this m h⟩
structure Dr (H:Hp) (l ma ta o d hb:Addr) (rs:List Addr) (ps:List (List Int)) (ts:List (Addr×Addr×Str×Int×List Nat)) (es:jA) (dn:List (Option Int)) (hs ms r:List Int):Prop where
 hl:H l=some (.lst [.ref ma,.ref ta,.ref o,.ref d,.ref hb])
 hm:H ma=some (.lst (rs.map V.ref))
 rw:RowsL H rs ps
 up:∀p∈ps,p.Pairwise (· < ·)
 sub:∀p∈ps,∀b∈p,b∈ms
 m5:ms.length<=5
 ht:H ta=some (.lst (ts.map fun x=>V.ref x.1))
 te:∀x∈ts,TieT H x
 tg:∀x∈ts,TieG ps.length x
 t6:ts.length<=6
 ho:RowAt H o es
 e1:es.length<=100
 ok:∀x∈es,∃i j:Nat,i<j/\r[i]?=some x.1/\r[j]?=some x.2
 pr:r.Perm (lb ps.length)
 hd:H d=some (.lst (dn.map hV))
 dl:dn.length=ps.length
 p5:ps.length<=5
 p1:1<=ps.length
 ds:∀b,some b∈dn->b∈ms
 hb:H hb=some (.lst (hs.map V.int))
 ln:hs.length=ps.length
 hin:∀i,i<ps.length->hs.getD i 0∈ps.getD i []
 kp:∀x∈ts,CO hs x=true
def i4 (K:PySem.W.Frag):Sp:=fun vs H Q _=>∃(a:Addr) (ns:List Int),vs=[.ref a]/\SqL K H a (ns.map V.int)/\ns.length<=63/\∀l ma ta o d hb rs ps ts es dn hs ms r H',Same H H'->Dr H' l ma ta o d hb rs ps ts es dn hs ms r->Q (.ref l) H'
theorem aW:FnScope ["script","count","menu","hands","k","row","done","may","many","ties"] ["script"] (au gd):=⟨rfl,rfl,rfl,by decide +kernel,rfl,by decide +kernel,by decide +kernel⟩
theorem oC (D:Dfs K mg aF dF) (T:Txt mg):FnOk P w K mg base aX 3 (aF 43) (dF 43) ["script"] (i4 K):=by
 have Glaw_cell:FnOk P w K mg base aX 1 (aF 25) (dF 25) ["script","k"] (eh K):=gf D T
 have Glaw_row:FnOk P w K mg base aX 1 (aF 27) (dF 27) ["count","cell"] (l5 K):=rD D T
 have Glaw_order:FnOk P w K mg base aX 1 (aF 28) (dF 28) ["cells","row"] (iZ K):=oA D T
 have Glaw_menu:FnOk P w K mg base aX 2 (aF 29) (dF 29) ["script","at","wide"] (jJ K):=p7 D T
 have Glaw_some:FnOk P w K mg base aX 1 (aF 30) (dF 30) ["menu","cell","step"] (jK K):=p8 D T
 have Glaw_kept_tie:FnOk P w K mg base aX 2 (aF 42) (dF 42) ["number","hands"] (fN K):=j0 D T
 refine D.law_drawn.fn.ok aW (fun vs H Q E h=>?_) (fun cdv A outer s H vs Q E hr h=>?_)
 ·obtain⟨a,ns,rfl,_⟩:=h;rfl
 ·have hu:=aP hr
  obtain⟨a,ns,rfl,hS,hl,q⟩:=h
  refine⟨_,(af (aA (i:=1) aW.nd rfl (Or.inl rfl) (aB b5 aj (aB ba (pc D.law_cell Glaw_cell (hr.mono (by decide)) (aa (pv 0) (aa aj ab))) aj)))
   (af (aA (i:=2) aW.nd rfl (Or.inr rfl) (pc D.law_menu Glaw_menu (hr.mono (by decide)) (aa (pv 0) (aa aj (aa aj ab)))))
   (af (aA (i:=3) aW.nd rfl (Or.inr rfl) (aJ ["k","menu","script"] [none,some 2,some 0] rfl (aM rfl T.z_range (aa (pv 1) ab)) (fun _=>ao (i:=0) (aL (N:=["k","menu","script"]) (by decide +kernel)) rfl (Or.inl rfl)) (fun _=>bA) (fun _=>(az (dO K) (pv 1) (aB ba (pc D.law_cell Glaw_cell (hr.mono (by decide)) (aa (pv 2) (aa (aB b5 aj (pv 0)) ab))) (ak (bw K) (by rfl) T.z_len boot_len (aa (pv 1) ab))) (fun _ _=>rfl))) ((.cons (fun _ e=>by cases e) (.cons (fun _ e=>by cases e;exact⟨rfl,rfl⟩) (.cons (fun _ e=>by cases e;exact⟨rfl,rfl⟩) .nil))))))
   (af (aA (i:=5) aW.nd rfl (Or.inl rfl) (pc D.law_row Glaw_row (hr.mono (by decide)) (aa (pv 1) (aa (pc D.law_cell Glaw_cell (hr.mono (by decide)) (aa (pv 0) (aa aj ab))) ab))))
   (af (aA (i:=6) aW.nd rfl (Or.inl rfl) (aB vE (aG (aa cK ab)) (pv 1)))
   (af (aY PassesOwn.never rfl (gZ K (kG (CJ K) (pv 5) rN (j7 (aB ba (pc D.law_cell Glaw_cell (hr.mono (by decide)) (aa (pv 0) (aa aj ab))) (aB b5 (pv 1) aj))))) (ao (i:=4) aW.nd rfl (Or.inl rfl))
    (af (eE (az (dO K) (pv 3) (pv 4) (fun _ _=>rfl)) (nJ (pv 6) (pv 4) iE))
    (ag (aK (ax cL (aB ba (aB b8 (pc D.law_cell Glaw_cell (hr.mono (by decide)) (aa (pv 0) (aa aj ab))) (az (dO K) (aG (aa aj (aa aj (aa aj (aa aj (aa aj ab)))))) (pv 4) (fun _ _=>rfl))) aj) aj (ay _))
     (ag (eE (az (dO K) (pv 2) (aB ba (aB b8 (pc D.law_cell Glaw_cell (hr.mono (by decide)) (aa (pv 0) (aa aj ab))) aj) (ak (bw K) (by rfl) T.z_len boot_len (aa (pv 2) ab))) (fun _ _=>rfl)) (nJ (pv 6) (pv 4) iE)))
     aC))))
   (af (aA (i:=7) aW.nd rfl (Or.inl rfl) (aG ab))
   (af (aY PassesOwn.never rfl (aM rfl T.z_range (aa (pv 1) ab)) (ao (i:=4) aW.nd rfl (Or.inl rfl))
    (ag (bZ (dP PySem.F.plainAttrs_list PySem.F.slot_list_append PySem.F.type_list_append a8 (pv 7) (aa (ak (kR w) (by rfl) T.z_sorted boot_sorted (aa (aI (nU w K) (by rfl) T.z_set PyProof.Rows.boot_set (aa (aB eF (pc D.law_some Glaw_some (hr.mono (by decide)) (aa (pv 2) (aa (pc D.law_cell Glaw_cell (hr.mono (by decide)) (aa (pv 0) (aa (aB b5 aj (pv 4)) ab))) (aa aj ab)))) (aG (aa (az (dO K) (pv 3) (pv 4) (fun _ _=>rfl)) ab))) ab)) ab)) ab)))))
   (af (aA (i:=8) aW.nd rfl (Or.inl rfl) (aB ba (aB b8 (pc D.law_cell Glaw_cell (hr.mono (by decide)) (aa (pv 0) (aa aj ab))) aj) aj))
   (af (e8 (i₀:=9) aW.nd rfl (Or.inl rfl) ["k","script","hands"] [none,some 0,some 3] rfl (aM rfl T.z_range (aa (pv 8) ab)) (fun _=>ao (i:=0) (aL (N:=["k","script","hands"]) (by decide +kernel)) rfl (Or.inl rfl)) (fun _=>bA) (fun _=>(pc D.law_kept_tie Glaw_kept_tie (hr.mono (by decide)) (aa (pc D.law_cell Glaw_cell (hr.mono (by decide)) (aa (pv 1) (aa (aB b5 aj (pv 0)) ab))) (aa (pv 2) ab)))) ((.cons (fun _ e=>by cases e) (.cons (fun _ e=>by cases e;exact⟨rfl,rfl⟩) (.cons (fun _ e=>by cases e;exact⟨rfl,rfl⟩) .nil)))))
   (ag (av (aG (aa (pv 7) (aa (pv 9) (aa (pc D.law_order Glaw_order (hr.mono (by decide)) (aa (kG (CJ K) (pv 0) (j7 aj) (j7 aj)) (aa (pv 5) ab))) (aa (pv 6) (aa (pv 3) ab)))))))))))))))))),?_⟩
  refine⟨_,rfl,a,ns,0,rfl,hS,by omega,by decide,fun H1 s1=>⟨_,_,rfl,rfl,(show(0:Int)<5 by decide),_,_,rfl,rfl,?_⟩⟩
  obtain⟨m,m5,em⟩:=pB (cv ns 0) (n:=5) (by decide)
  have ec:1+cv ns 0%5=((1+m:Nat):Int):=by
   have em:cv ns 0%5=(m:Int):=em
   omega
  dsimp only
  rw[ec]
  obtain⟨cn,ecn⟩:∃cn,cn=1+m:=⟨_,rfl⟩
  rw[<- ecn]
  refine⟨_,rfl,a,ns,3,5,rfl,s1.seq hS,by omega,by decide,by decide,by decide,fun mn ms H2 s2 nmn hmn mup mlen mne mb=>?_⟩
  have s02:=s1.trans s2
  refine⟨_,rfl,_,rfl,eQ _,by omega,?_⟩
  rw[Er]
  refine mX (n:=cn) (fun _ ys _=>∃hs:List Int,ys=hs.map V.int/\∀b∈hs,b∈ms) (by omega) (fun _ _ _ _ h _=>h) (fun _ _=>⟨[],rfl,fun _ z=>by cases z⟩) (fun acc j ys H3 R hj s3 nacc hacc yl ⟨hs,e,hin⟩ k=>?_) fun hb ys H3 s3 nhb hhb yl ⟨hs,e,hin⟩=>?_
  ·have e2:(8:Int)+(0+(j:Int))=((8+j:Nat):Int):=by omega
   refine⟨_,rfl,_,rfl,_,rfl,_,_,rfl,rfl,a,ns,8+j,(by show [V.ref a,V.int (8+(0+(j:Int)))]=_;rw[e2]),(s02.trans s3).seq hS,by omega,by omega,fun H4 s4=>?_⟩
   obtain⟨bj,bl,hbj,ml⟩:=wF (cv ns (8+j)) mne
   have hmn4:=s4 _ _ (s3 _ _ hmn)
   refine⟨_,rfl,_,_,rfl,.inl ⟨_,SqL.of hmn4,rfl⟩,_,_,rfl,rfl,ml,mn,_,_,_,rfl,rfl,SqL.of hmn4,(by(try dsimp only);rw[hbj];exact bf bl),k _ H4 s4 ⟨hs++[ms.getD bj 0],by rw[e,DY];rfl,fun b hb=>?_⟩⟩
   rcases Eg.mp hb with z | z
   ·exact hin b z
   ·rw [DV.mp z,aH bl];exact El bl
  subst e
  rw[DI]at yl
  have s03:=s02.trans s3
  have hmn3:=s3 _ _ hmn
  refine⟨_,rfl,_,rfl,a,ns,1,rfl,s03.seq hS,by omega,by decide,fun H4' s4'=>⟨cn,_,rfl,by omega,fun rw' r H4 s4'' nrw hrw pr=>?_⟩⟩
  have s4:=s4'.trans s4''
  have s04:=s03.trans s4
  have hmn4:=s4 _ _ hmn3
  have hhb4:=s4 _ _ hhb
  obtain⟨rlen,rnd,rin⟩:=lg pr
  refine⟨cI,fun l0 n0=>⟨_,rfl,l0,_,_,rfl,rfl,ae,by omega,by omega,by show 1*_<=_;exact r9 (by omega),fun dl ndl=>?_⟩⟩
  rw[Er,wI]
  have s5:=Same.new (o:= .lst [.non]) n0
  have hmn5:=s5 _ _ hmn4
  have hrw5:=s5 _ _ hrw
  have hhb5:=s5 _ _ hhb4
  generalize aE H4 l0 (.lst [.non])=H5 at s5 hmn5 hrw5 hhb5 ndl
  have s6:=Same.new (o:= .lst (Ey cn .non)) ndl
  have hdl:aE H5 dl (.lst (Ey cn .non)) dl=some (.lst ((Ey cn none).map hV)):=by rw[ae,List.map_replicate];rfl
  have hmn6:=s6 _ _ hmn5
  have hrw6:=s6 _ _ hrw5
  have hhb6:=s6 _ _ hhb5
  have n1:hb≠dl:=fun z=>by rw[z,ndl]at hhb5;cases hhb5
  have n2:mn≠dl:=fun z=>by rw[z,ndl]at hmn5;cases hmn5
  have n3:rw'≠dl:=fun z=>by rw[z,ndl]at hrw5;cases hrw5
  generalize aE H5 dl (.lst (Ey cn .non))=H6 at s6 hdl hmn6 hrw6 hhb6
  have nd0:H dl=none:=(s04.trans s5).free ndl
  have s06:=(s04.trans s5).trans s6
  refine⟨_,rfl,_,rfl,a,ns,2,rfl,s06.seq hS,by omega,by decide,fun H7 s7=>?_⟩
  refine⟨_,rfl,_,_,rfl,rfl,_,_,rfl,rfl,(show(0:Int)<((cn:Nat):Int)+1 by omega),_,rfl,rw',_,rfl,SqL.of (s7 _ _ hrw6),fun ah nah=>?_⟩
  obtain⟨am,ham,eam⟩:=pB (cv ns 2) (n:=cn+1) (by omega)
  have ecu:i8 (r.map V.int) none (some (cv ns 2%((cn:Int)+1)))=(r.take am).map V.int:=by rw[show cv ns 2%((cn:Int)+1)=(am:Int)from eam,Ai,<- FQ]
  rw[ecu]
  have s9:=Same.new (o:= .lst ((r.take am).map V.int)) nah
  have hah:aE H7 ah (.lst ((r.take am).map V.int)) ah=some (.lst ((r.take am).map V.int)):=ae
  have nad:ah≠dl:=fun z=>by have:=s7 _ _ hdl;rw[<- z,nah]at this;cases this
  generalize aE H7 ah (.lst ((r.take am).map V.int))=H9 at s9 hah
  have arin:∀x∈r.take am,0<=x/\x<(cn:Int):=fun x hx=>(rin x).mp (FM hx)
  generalize r.take am=ar at hah arin
  have s69:=s7.trans s9
  have s09:=s06.trans s69
  refine⟨ah,rfl,⟨_,SqL.of hah⟩,?_⟩
  refine be (K:=K) (a:=ah) (xs:=ar.map V.int) (fun i σ Hx=>∃(x:Option V) (dn:List (Option Int)),σ=[some (.ref a),some (.int (cn:Int)),some (.ref mn),some (.ref hb),x,some (.ref rw'),some (.ref dl),none,none,none]/\Same H Hx/\Hx mn=some (.lst (ms.map V.int))/\Hx hb=some (.lst (hs.map V.int))/\Hx rw'=some (.lst (r.map V.int))/\Hx ah=some (.lst (ar.map V.int))/\Hx dl=some (.lst (dn.map hV))/\dn.length=cn/\∀b,some b∈dn->b∈ms) ⟨none,_,rfl,s09,s69 _ _ hmn6,s69 _ _ hhb6,s69 _ _ hrw6,hah,s69 _ _ hdl,List.length_replicate,fun b z=>by rw[List.mem_replicate]at z;cases z.2⟩ (fun i σ Hx _ hq__=>by obtain⟨_,_,_,_,_,_,_,h,_⟩:=hq__;exact SqL.of h) ?_ ?_
  ·rintro i v σ Hx hi ⟨x,dn,rfl,sx,h2,h1,h3,h4,h6,dln,dms⟩
   obtain⟨kv,hk,rfl,_⟩:=g7 hi
   obtain⟨k0,kc⟩:=arin kv (DQ hk)
   obtain⟨kk,rfl⟩:∃kk:Nat,kv=(kk:Int):=⟨kv.toNat,by omega⟩
   have hsm:hs.getD kk 0∈ms:=hin _ (by rw[aH (by omega)];exact El _)
   refine⟨_,rfl,_,rfl,hb,_,_,_,rfl,rfl,SqL.of h1,bf (by omega),_,rfl,_,rfl,dl,_,_,kk,rfl,rfl,h6,k5 (by rw[DI,dln];omega),?_⟩
   have sxa:=sx.put (o:= .lst ((dn.map hV).set kk (.int (hs.getD kk 0)))) nd0
   have h2a:aE Hx dl (.lst ((dn.map hV).set kk (.int (hs.getD kk 0)))) mn=some (.lst (ms.map V.int)):=by rw[aq n2];exact h2
   have h1a:aE Hx dl (.lst ((dn.map hV).set kk (.int (hs.getD kk 0)))) hb=some (.lst (hs.map V.int)):=by rw[aq n1];exact h1
   have h3a:aE Hx dl (.lst ((dn.map hV).set kk (.int (hs.getD kk 0)))) rw'=some (.lst (r.map V.int)):=by rw[aq n3];exact h3
   have h4a:aE Hx dl (.lst ((dn.map hV).set kk (.int (hs.getD kk 0)))) ah=some (.lst (ar.map V.int)):=by rw[aq nad];exact h4
   have h6a:aE Hx dl (.lst ((dn.map hV).set kk (.int (hs.getD kk 0)))) dl=some (.lst ((dn.set kk (some (hs.getD kk 0))).map hV)):=by rw[ae,List.map_set];rfl
   have dla:(dn.set kk (some (hs.getD kk 0))).length=cn:=by rw[FR];exact dln
   have dma:∀b,some b∈dn.set kk (some (hs.getD kk 0))->b∈ms:=fun b hb=>by
    rcases List.mem_or_eq_of_mem_set hb with z | z
    ·exact dms b z
    ·cases z;exact hsm
   generalize aE Hx dl (.lst ((dn.map hV).set kk (.int (hs.getD kk 0))))=Ha at sxa h2a h1a h3a h4a h6a
   generalize dn.set kk (some (hs.getD kk 0))=da at h6a dla dma
   obtain⟨dv,hdv,d0,d9⟩:=DF kk (by omega)
   refine⟨_,rfl,a,ns,2,rfl,sxa.seq hS,by omega,by decide,fun Hb sb=>⟨cI,fun p2 np2=>?_⟩⟩
   have sc:=Same.new (o:= .lst [V.int 6,V.int 12,V.int 24,V.int 48,V.int 96]) np2
   refine⟨_,rfl,p2,_,_,_,rfl,rfl,SqL.of ae,hdv,_,_,rfl,rfl,(show jS _ dv from⟨d0,by omega⟩),_,_,rfl,rfl,(show(0:Int)<2 by decide),rfl,_,rfl,?_⟩
   have sac:=sb.trans sc
   generalize aE Hb p2 (.lst [V.int 6,V.int 12,V.int 24,V.int 48,V.int 96])=Hc at sc sac
   refine yg (fun _=>?_) fun _=>⟨_,da,rfl,sxa.trans sac,sac _ _ h2a,sac _ _ h1a,sac _ _ h3a,sac _ _ h4a,sac _ _ h6a,dla,dma⟩
   obtain⟨bj,bl,hbj,ml⟩:=wF (cv ns 2/192) mne
   refine⟨_,rfl,_,rfl,a,ns,2,rfl,(sxa.trans sac).seq hS,by omega,by decide,fun Hd sd=>?_⟩
   have sad:=sac.trans sd
   refine⟨_,_,rfl,rfl,(show jS _ 192 from⟨by decide,by decide⟩),_,rfl,_,_,rfl,.inl ⟨_,SqL.of (sad _ _ h2a),rfl⟩,_,_,rfl,rfl,ml,mn,_,_,_,rfl,rfl,SqL.of (sad _ _ h2a),(by(try dsimp only);rw[hbj];exact bf bl),_,rfl,_,rfl,dl,_,_,kk,rfl,rfl,sad _ _ h6a,k5 (by rw[DI,dla];omega),?_⟩
   refine⟨_,da.set kk (some (ms.getD bj 0)),rfl,(sxa.trans sad).put nd0,by rw[aq n2];exact sad _ _ h2a,by rw[aq n1];exact sad _ _ h1a,by rw[aq n3];exact sad _ _ h3a,by rw[aq nad];exact sad _ _ h4a,by rw[ae,List.map_set];rfl,by rw[FR];exact dla,fun b hb=>?_⟩
   rcases List.mem_or_eq_of_mem_set hb with z | z
   ·exact dma b z
   ·cases z;rw[aH bl];exact El bl
  rintro σ H10 ⟨x0,dn,rfl,s010,h2,h1,h3,_,h6,dln,dms⟩
  refine⟨cI,fun ml nml=>?_⟩
  have s11:=Same.new (o:= .lst []) nml
  have hml:aE H10 ml (.lst []) ml=some (.lst []):=ae
  have m1:hb≠ml:=fun z=>by rw[z,nml]at h1;cases h1
  have m2:mn≠ml:=fun z=>by rw[z,nml]at h2;cases h2
  have m3:rw'≠ml:=fun z=>by rw[z,nml]at h3;cases h3
  have m4:dl≠ml:=fun z=>by rw[z,nml]at h6;cases h6
  have nm0:H ml=none:=s010.free nml
  generalize aE H10 ml (.lst [])=H11 at s11 hml
  refine⟨_,rfl,_,rfl,eQ _,by omega,?_⟩
  rw[Er]
  refine cE (n:=cn) (fun i σ Hx=>∃(x:Option V) (rs:List Addr) (ps:List (List Int)),σ=[some (.ref a),some (.int (cn:Int)),some (.ref mn),some (.ref hb),x,some (.ref rw'),some (.ref dl),some (.ref ml),none,none]/\Same H Hx/\Hx mn=some (.lst (ms.map V.int))/\Hx hb=some (.lst (hs.map V.int))/\Hx rw'=some (.lst (r.map V.int))/\Hx dl=some (.lst (dn.map hV))/\Hx ml=some (.lst (rs.map V.ref))/\RowsL Hx rs ps/\(∀u∈rs,u≠ml)/\ps.length=i/\(∀p∈ps,p.Pairwise (· < ·))/\(∀p∈ps,∀b∈p,b∈ms)/\∀j,j<i->hs.getD j 0∈ps.getD j []) ⟨x0,[],[],rfl,s010.trans s11,s11 _ _ h2,s11 _ _ h1,s11 _ _ h3,s11 _ _ h6,hml,.nil,(fun _ z=>by cases z),rfl,(fun _ z=>by cases z),(fun _ z=>by cases z),fun j hj=>by omega⟩ ?_ ?_
  ·rintro i σ Hx hi ⟨x,rs,ps,rfl,sx,g2,g1,g3,g6,g5,gr,nrs,pl,pup,psub,din⟩
   have ei:(0:Int)+(i:Int)=((i:Nat):Int):=by omega
   rw[ei]
   have e13:(13:Int)+((i:Nat):Int)=((13+i:Nat):Int):=by omega
   have hs_i:=bf (ns:=hs) (j:=i) (by omega)
   have hsm:hs.getD i 0∈ms:=hin _ (by rw[aH (by omega)];exact El _)
   refine⟨_,rfl,.inl ⟨rfl,_,SqL.of g5⟩,_,rfl,_,rfl,_,rfl,_,_,rfl,rfl,a,ns,13+i,(by show [V.ref a,V.int (13+((i:Nat):Int))]=_;rw[e13]),sx.seq hS,by omega,by omega,fun Ha sa=>?_⟩
   refine⟨mn,ms,_,2,rfl,SqL.of (sa _ _ g2),by omega,by decide,by decide,fun sl ks Hb sb nsl hsl ksub=>?_⟩
   have sab:=sa.trans sb
   have kl:ks.length<=5:=Ek ksub.length_le mlen
   refine⟨_,rfl,_,rfl,hb,_,_,_,rfl,rfl,SqL.of (sab _ _ g1),hs_i,cI,fun p np=>?_⟩
   have s13:=Same.new (o:= .lst [V.int (hs.getD i 0)]) np
   refine⟨sl,p,_,_,rfl,rfl,s13 _ _ hsl,ae,r9 (by simp;omega),fun c nc=>?_⟩
   have e5:ks.map V.int++[V.int (hs.getD i 0)]=(ks++[hs.getD i 0]).map V.int:=by rw[DY];rfl
   rw[e5]
   have s14:=s13.to (o:= .lst ((ks++[hs.getD i 0]).map V.int)) nc
   refine⟨c,_,rfl,SqL.of ae,by simp;omega,fun S nS=>⟨S,dd (ks++[hs.getD i 0]),rfl,ae,by have:=dk (ks++[hs.getD i 0]);rw[DX,Ec]at this;omega,fun r2 k2 nr2 hp C1=>?_⟩⟩
   have s15:=s14.to (o:= .ext (SX w S (dd (ks++[hs.getD i 0])))) nS
   have s16:=s15.to (o:= .lst (k2.map V.int)) nr2
   have hr2:=ae (H:=aE (aE (aE Hb p (.lst [V.int (hs.getD i 0)])) c (.lst ((ks++[hs.getD i 0]).map V.int))) S (.ext (SX w S (dd (ks++[hs.getD i 0]))))) (a:=r2) (o:= .lst (k2.map V.int))
   have mk:∀b,b∈k2<->b∈ks\/b=hs.getD i 0:=fun b=>by rw[hp.mem_iff,aZ];simp
   have r2m:r2≠ml:=fun z=>by have:=s15 _ _ (sab _ _ g5);rw[<- z,nr2]at this;cases this
   have k2u:k2.Pairwise (· < ·):=n8 C1 (hp.nodup_iff.mpr (iM _))
   have sall:=sab.trans s16
   have rl2:=gr.len
   refine⟨ml,_,_,rfl,rfl,sall _ _ g5,kb (by rw[DI];omega),?_⟩
   refine⟨_,rs++[r2],ps++[k2],rfl,(sx.trans sall).put nm0,(by rw[aq m2];exact sall _ _ g2),(by rw[aq m1];exact sall _ _ g1),(by rw[aq m3];exact sall _ _ g3),(by rw[aq m4];exact sall _ _ g6),(by rw[ae,DY];rfl),?_,fun u hu=>?_,by rw[DX,Ec,pl],fun p hp=>?_,fun p hp=>?_,fun j hj=>?_⟩
   ·exact aR ((gr.same sall).but nrs SameBut.upd) (by rw[aq r2m];exact hr2)
   ·rcases Eg.mp hu with z | z
    ·exact nrs u z
    ·rw [DV.mp z];exact r2m
   ·rcases Eg.mp hp with z | z
    ·exact pup p z
    ·rw [DV.mp z];exact k2u
   ·rcases Eg.mp hp with z | z
    ·exact psub p z
    ·rw [DV.mp z]
     intro b hb
     rcases(mk b).mp hb with y | y
     ·exact ksub.subset y
     ·rw [y];exact hsm
   ·by_cases z:j<ps.length
    ·rw [DK (l:=ps++[k2]),Fh z,<- DK]
     exact din j (by omega)
    ·have ej:j=ps.length:=by omega
     rw[DK (l:=ps++[k2]),ej,E3 (DS _),FN]
     rw[pl]
     exact(mk _).mpr (.inr rfl)
  rintro σ Hx ⟨x,rs,ps,rfl,sx,g2,g1,g3,g6,g5,gr,nrs,pl,pup,psub,din⟩
  refine⟨_,rfl,a,ns,1,rfl,sx.seq hS,by omega,by decide,fun H20 s20=>⟨_,_,rfl,rfl,(show jS _ 7 from⟨by decide,by decide⟩),_,_,rfl,rfl,(show(0:Int)<7 by decide),?_⟩⟩
  obtain⟨mt,hmt,emt⟩:=pB (cv ns 1/7) (n:=7) (by decide)
  have emt:cv ns 1/7%7=(mt:Int):=emt
  dsimp only
  rw[emt]
  have s020:=sx.trans s20
  refine⟨_,rfl,_,rfl,eQ _,by omega,?_⟩
  rw[Er]
  refine mX (n:=mt) (fun acc ys Hy=>∃ts:List (Addr×Addr×Str×Int×List Nat),ys=ts.map (fun x=>V.ref x.1)/\∀x∈ts,TieT Hy x/\x.1≠acc/\x.2.1≠acc/\TieG hs.length x/\CO hs x=true) (by omega)
   (fun acc ys Hx Hy ⟨ts',e,al⟩ sb=>⟨ts',e,fun x hx=>⟨(al x hx).1.but (al x hx).2.1 (al x hx).2.2.1 sb,(al x hx).2⟩⟩) (fun _ _=>⟨[],rfl,fun _ z=>by cases z⟩) (fun acc j ys H21 R hj s21 nacc hacc yl3 ⟨ts',e,al3⟩ k=>?_) fun ta ys H21 s21 nta hta yl3 ⟨ts,e,al⟩=>?_
  ·have e2:(18:Int)+(0+(j:Int))=((18+j:Nat):Int):=by omega
   refine⟨_,rfl,_,rfl,_,_,rfl,rfl,a,ns,18+j,(by show [V.ref a,V.int (18+(0+(j:Int)))]=_;rw[e2]),(s020.trans s21).seq hS,by omega,by omega,fun H22 s22=>?_⟩
   refine⟨_,rfl,_,hb,hs,rfl,SqL.of (s22 _ _ (s21 _ _ (s20 _ _ g1))),by omega,by omega,fun x' H23 s23 tx gx kx=>k _ H23 (s22.trans s23) ⟨ts'++[x'],by rw[e,DY];rfl,fun z hz=>?_⟩⟩
   rcases Eg.mp hz with u | u
   ·obtain⟨a1,a2⟩:=al3 z u
    exact⟨a1.same (s22.trans s23),a2⟩
   ·rw [DV.mp u]
    have ap:=tx.apart ((s22.trans s23) _ _ hacc)
    exact⟨tx,ap.1,ap.2,gx,kx⟩
  subst e
  rw[DI]at yl3
  have sx21:=s20.trans s21
  have s021:=sx.trans sx21
  refine⟨_,rfl,_,rfl,_,rfl,_,rfl,_,rfl,a,_,rfl,s021.seq hS,fun c5 nc5=>?_⟩
  have ecut:i8 (ns.map V.int) (some 24) (some 34)=((ns.drop 24).take 10).map V.int:=(yf (ns.map V.int) 24 34).trans (by rw[FQ,List.map_drop])
  rw[ecut]
  have s24:=Same.new (o:= .lst (((ns.drop 24).take 10).map V.int)) nc5
  have hc5:aE H21 c5 (.lst (((ns.drop 24).take 10).map V.int)) c5=some (.lst (((ns.drop 24).take 10).map V.int)):=ae
  have l10:((ns.drop 24).take 10).length<=10:=by rw[EA];omega
  generalize aE H21 c5 (.lst (((ns.drop 24).take 10).map V.int))=H24 at s24 hc5
  refine⟨_,rfl,c5,rw',(ns.drop 24).take 10,r,rfl,SqL.of hc5,by omega,(sx21.trans s24) _ _ g3,by omega,by omega,fun lo es H25 s25 nlo ro le ok=>?_⟩
  have sx25:=(sx21.trans s24).trans s25
  refine⟨_,rfl,_,rfl,cI,fun l nl=>?_⟩
  have s26:=Same.new (o:= .lst [.ref ml,.ref ta,.ref lo,.ref dl,.ref hb]) nl
  have sx26:=sx25.trans s26
  have s2126:=(s24.trans s25).trans s26
  exact q l ml ta lo dl hb rs ps ts es dn hs ms r _ (sx.trans sx26) ⟨ae,sx26 _ _ g5,gr.same sx26,pup,psub,mlen,s2126 _ _ hta,fun x hx=>(al x hx).1.same s2126,fun x hx=>by rw[pl,<- yl];exact(al x hx).2.2.2.1,by omega,ro.same s26,by omega,ok,by rw[pl];exact pr,sx26 _ _ g6,by omega,by omega,by omega,dms,sx26 _ _ g1,by omega,fun i hi=>din i (by omega),fun x hx=>(al x hx).2.2.2.2⟩
def jQ (K:PySem.W.Frag):Sp:=fun vs H Q _=>∃(o d hb:Addr) (es:jA) (dn:List (Option Int)) (hs:List Int),vs=[.ref o,.ref d,.ref hb]/\RowAt H o es/\es.length<=100/\(∀x∈es,0<=x.2/\x.2<(dn.length:Int))/\SqL K H d (dn.map hV)/\dn.length<=5/\SqL K H hb (hs.map V.int)/\hs.length=dn.length/\∀(s:List Int) (H':Hp),Same H H'->s∈(eX (dg dn)).filter (jB es dn)->(∀i,i<dn.length->nB dn hs i=true->(i:Int)∈s)->Q (.int (s.length:Int)) H'
theorem gn:FnScope ["order","done","hands","gone","row"] ["order","done","hands"] (au iA):=⟨rfl,rfl,rfl,by decide +kernel,rfl,by decide +kernel,by decide +kernel⟩
theorem qd (D:Dfs K mg aF dF) (T:Txt mg):FnOk P w K mg base aX 2 (aF 44) (dF 44) ["order","done","hands"] (jQ K):=by
 have Glaw_sets:FnOk P w K mg base aX 1 (aF 37) (dF 37) ["order","done"] (gh K):=jP D T
 refine D.law_most.fn.ok gn (fun vs H Q E h=>?_) (fun cdv A outer s H vs Q E hr h=>?_)
 ·obtain⟨o,d,hb,es,dn,hs,rfl,_⟩:=h;rfl
 ·have hu:=aP hr
  obtain⟨o,d,hb,es,dn,hs,rfl,ho,e1,ok,hd,d5,hhb,ln,q⟩:=h
  refine⟨_,(af (e8 (i₀:=3) gn.nd rfl (Or.inl rfl) ["k","done","hands"] [none,some 1,some 2] rfl (aM rfl T.z_range (aa (ak (bw K) (by rfl) T.z_len boot_len (aa (pv 1) ab)) ab)) (fun _=>ao (i:=0) (aL (N:=["k","done","hands"]) (by decide +kernel)) rfl (Or.inl rfl)) (fun _=>bU (PW.pt (ku (ax eY (az (dO K) (pv 1) (pv 0) (fun _ _=>rfl)) cK (ay _)) (j5 (ax fH (az (dO K) (pv 1) (pv 0) (fun _ _=>rfl)) (az (dO K) (pv 2) (pv 0) (fun _ _=>rfl)) (ay _)))))) (fun _=>(pv 0)) ((.cons (fun _ e=>by cases e) (.cons (fun _ e=>by cases e;exact⟨rfl,rfl⟩) (.cons (fun _ e=>by cases e;exact⟨rfl,rfl⟩) .nil)))))
   (af (aY PassesOwn.never rfl (gZ K (ak (uX K hr.units) (by rfl) T.z_sorted boot_sorted (aa (aJ ["row"] [none] rfl (gZ K (pc D.law_sets Glaw_sets (hr.mono (by decide)) (aa (pv 0) (aa (pv 1) ab)))) (fun _=>ao (i:=0) (aL (N:=["row"]) (by decide +kernel)) rfl (Or.inl rfl)) (fun _=>bA) (fun _=>(aG (aa (ak (bw K) (by rfl) T.z_len boot_len (aa (pv 0) ab)) (aa (pv 0) ab)))) ((.cons (fun _ e=>by cases e) .nil))) ab))) (ao (i:=4) gn.nd rfl (Or.inr rfl))
    (ag (aK (ax (B6 K hr.units) (aJ ["k","row"] [none,some 4] rfl (gZ K (pv 3)) (fun _=>ao (i:=0) (aL (N:=["k","row"]) (by decide +kernel)) rfl (Or.inl rfl)) (fun _=>bU (ax (ud K) (pv 0) (az (dO K) (pv 1) aj (fun _ _=>rfl)) (by with_unfolding_all rfl))) (fun _=>(pv 0)) ((.cons (fun _ e=>by cases e) (.cons (fun _ e=>by cases e;exact⟨rfl,rfl⟩) .nil)))) (aG ab) (ay _))
     (ag (av (az (dO K) (pv 4) aj (fun _ _=>rfl))))
     aC)))
   (ag (av aj)))),?_⟩
  refine⟨_,rfl,_,dn.length,rfl,.inl ⟨_,hd,by rw[DI]⟩,_,rfl,eQ _,by omega,?_⟩
  rw[Er]
  refine cW (n:=dn.length) (nB dn hs) (by omega) (fun i hi H2 R s2 k=>?_) (fun i hi H2 R k=>?_) fun gl H1 s1 ngl hgl=>?_
  ·have ei:(0:Int)+(i:Int)=((i:Nat):Int):=by omega
   rw[ei]
   have kk:R (nB dn hs i) H2:=k H2 (Same.refl _)
   refine⟨_,rfl,_,rfl,d,_,_,_,rfl,rfl,s2.seq hd,eG hi,rfl,?_⟩
   unfold nB at kk
   cases e:dn.getD i none with
   | none=>
    rw[e]at kk
    exact⟨_,rfl,a9 kk⟩
   | some b=>
    rw[e]at kk
    refine⟨_,rfl,cb ⟨_,rfl,_,rfl,d,_,_,_,rfl,rfl,s2.seq hd,eG hi,?_⟩⟩
    rw[e]
    refine⟨_,rfl,_,rfl,hb,_,_,_,rfl,rfl,s2.seq hhb,bf (by omega),rfl,_,rfl,?_⟩
    have z:(!decide (hV (some b)=V.int (hs.getD i 0)))=((some b).isSome&& !decide (some b=some (hs.getD i 0))):=by
     rw[Option.isSome_some,Bool.true_and]
     exact congrArg not (decide_eq_decide.mpr ⟨fun y=>by injection y with y;rw[y],fun y=>by cases y;rfl⟩)
    rw[z]
    exact kk
  ·have ei:(0:Int)+(i:Int)=((i:Nat):Int):=by omega
   rw[ei]
   exact⟨_,rfl,k⟩
  refine⟨_,rfl,_,rfl,o,d,es,dn,rfl,ho.same s1,e1,ok,s1.seq hd,by omega,fun sl cs H2 s2 nsl hsl ic _=>⟨sl,rfl,⟨_,SqL.of hsl⟩,?_⟩⟩
  have d6:dn.length<=6:=by omega
  have pm:=lM (es:=es) d6
  have ndG:((eX (dg dn)).filter (jB es dn)).Nodup:=pm.nodup_iff.mp (xt d6)
  have hdG:=y9 (es:=es) (dn:=dn)
  have allG:=pO (es:=es) ok
  have le32:((eX (dg dn)).filter (jB es dn)).length<=32:=by
   refine Ek (Et _ _) ?_
   rw[dA]
   have:=fh dn
   exact(show 2^(dg dn).length<=2^5 from Nat.pow_le_pow_right (by decide) (by omega))
  have q2:∀(s:List Int) (H':Hp),Same H H'->s∈(eX (dg dn)).filter (jB es dn)->(∀i,i<dn.length->nB dn hs i=true->(i:Int)∈s)->Q (.int (s.length:Int)) H':=q
  generalize (eX (dg dn)).filter (jB es dn)=G at ic ndG hdG allG le32 q2
  have cl:cs.length=G.length:=Paired.length ic
  have s02:=s1.trans s2
  refine je (xs:=cs.map V.ref) (fun acc ys Hy=>∃rs:List Addr,ys=rs.map V.ref/\Paired (fun u l=>u≠acc/\∃b,b≠acc/\Hy u=some (.lst [.int ((l:List Int).length:Int),.ref b])/\Hy b=some (.lst (l.map V.int))) rs (G.take ys.length)) (SqL.of hsl) (by rw[DI];omega) (fun acc ys Hx Hy ⟨rs,e,pq⟩ sb=>⟨rs,e,Paired.mapP pq fun u l ⟨n1,b,n2,h1,h2⟩=>⟨n1,b,n2,sb _ _ n1 h1,sb _ _ n2 h2⟩⟩) (fun _ _=>⟨[],rfl,.nil⟩) (fun acc i x ys H3 R hx s3 nacc hacc yl ⟨rs,e,pq⟩ k=>?_) fun acc ys H3 s3 nacc hacc yl ⟨rs,e,pq⟩=>?_
  ·rw [DM]at hx
   obtain⟨r,hr',rfl⟩:=DO.mp hx
   obtain⟨l,hl,er⟩:=bB ic hr'
   have er3:=s3 _ _ er
   have ra:r≠acc:=fun z=>by rw[z,nacc]at er;cases er
   refine⟨_,rfl,_,l.length,rfl,.inl ⟨_,SqL.of er3,by rw[DI]⟩,_,rfl,cI,fun u nu=>?_⟩
   have ua:u≠acc:=fun z=>by rw[z,hacc]at nu;cases nu
   have s4:=Same.new (o:= .lst [.int (l.length:Int),.ref r]) nu
   refine k _ _ s4 ⟨rs++[u],by rw[e,DY];rfl,?_⟩
   rw[DX,Ec,yl,bR hl]
   rw[yl]at pq
   exact aR (Paired.mapP pq fun u l ⟨n1,b,n2,h1,h2⟩=>⟨n1,b,n2,s4 _ _ h1,s4 _ _ h2⟩) ⟨ua,r,ra,ae,s4 _ _ er3⟩
  subst e
  rw[DI,DI,cl]at yl
  rw[DI,yl,EL]at pq
  obtain⟨qq,S⟩:=xv ndG (by omega) hdG
  refine⟨acc,rs,G,_,qq,rfl,SqL.of hacc,Paired.mapP pq fun u l ⟨_,b,_,h1,h2⟩=>⟨b,h1,h2⟩,ndG,S,fun _ _ _ _=>rfl,fun fl nfl=>⟨fl,rfl,⟨_,SqL.of ae⟩,?_⟩⟩
  have s4:=Same.new (o:= .lst ((qq.map fun i=>rs.getD i 0).map V.ref)) nfl
  have hfl:aE H3 fl (.lst ((qq.map fun i=>rs.getD i 0).map V.ref)) fl=some (.lst ((qq.map fun i=>rs.getD i 0).map V.ref)):=ae
  generalize aE H3 fl (.lst ((qq.map fun i=>rs.getD i 0).map V.ref))=H4 at s4 hfl
  have s04:=(s02.trans s3).trans s4
  have hgl4:=((s2.trans s3).trans s4) _ _ hgl
  refine be (K:=K) (a:=fl) (xs:=(qq.map fun i=>rs.getD i 0).map V.ref) (fun j σ Hx=>∃(x:Option V),σ=[some (.ref o),some (.ref d),some (.ref hb),some (.ref gl),x]/\Same H4 Hx/\∀j' i,j'<j->qq[j']?=some i->¬∀k,k<dn.length->nB dn hs k=true->(k:Int)∈G.getD i []) ⟨none,rfl,Same.refl _,fun j' i z=>by omega⟩ (fun i σ Hx _ hq__=>by obtain⟨_,_,s,_⟩:=hq__;exact SqL.of (s _ _ hfl)) ?_ ?_
  ·rintro j v σ Hx hj ⟨x,rfl,sx,al⟩
   rw[DM,DM]at hj
   obtain⟨u,hu',rfl⟩:=DO.mp hj
   obtain⟨i,hi,rfl⟩:=DO.mp hu'
   have il:=S.le i (DQ hi)
   obtain⟨u,eu,_,b,_,h1,h2⟩:=bJ pq (gI (d:=[]) il)
   rw[show rs.getD i 0=u from fU eu]
   have gm:G.getD i []∈G:=by rw[bx il];exact El il
   have h1x:=sx _ _ (s4 _ _ h1)
   have h2x:=sx _ _ (s4 _ _ h2)
   have hglx:=sx _ _ hgl4
   generalize hGs:G.getD i []=s at h1 h2 h1x h2x gm
   refine⟨_,rfl,gl,rfl,⟨_,SqL.of hglx⟩,?_⟩
   refine bL (xs:=((DR dn.length).filter (nB dn hs)).map fun(i:Nat)=>V.int (i:Int)) (fun k=> !decide (((((DR dn.length).filter (nB dn hs)).getD k 0:Nat):Int)∈s)) (fun k=> .int ((((DR dn.length).filter (nB dn hs)).getD k 0:Nat):Int)) (SqL.of hglx) (by rw[DI];exact Fz (Et _ _) (by rw[Ew];omega)) (fun k v hv H5 R s5 kk=>?_) (fun k v hv _ H5 R s5 kk=>?_) fun nw H5 s5 nnw hnw=>?_
   ·obtain⟨e,he,rfl,ed⟩:=dt hv
    have z:R (!decide (((((DR dn.length).filter (nB dn hs)).getD k 0:Nat):Int)∈s)) H5:=kk H5 (Same.refl _)
    rw[ed]at z
    refine⟨_,rfl,_,rfl,u,_,_,_,rfl,rfl,SqL.of (s5 _ _ h1x),rfl,b,_,rfl,.inl (SqL.of (s5 _ _ h2x)),rfl,bQ _,?_⟩
    rw[if_pos rfl,cg]
    exact⟨_,rfl,z⟩
   ·obtain⟨e,he,rfl,ed⟩:=dt hv
    have z:R (.int ((((DR dn.length).filter (nB dn hs)).getD k 0:Nat):Int)) H5:=kk H5 (Same.refl _)
    rw[ed]at z
    exact⟨_,rfl,z⟩
   refine⟨cI,fun p np=>?_⟩
   have s6:=Same.new (o:= .lst []) np
   refine⟨1,_,gy (SqL.of (s6 _ _ hnw)) (SqL.of ae),by decide,rfl,_,rfl,By (fun h=>?_) fun h=>?_⟩
   ·have sh:=sx.trans (s5.trans s6)
    refine⟨_,rfl,u,_,_,_,rfl,rfl,SqL.of ((s5.trans s6) _ _ h1x),rfl,q2 s _ (s04.trans sh) gm fun k hk g=>?_⟩
    rw[List.isEmpty_iff,List.map_eq_nil_iff,List.filter_eq_nil_iff]at h
    have km:k∈(DR dn.length).filter (nB dn hs):=Ej.mpr ⟨Ee.mpr hk,g⟩
    obtain⟨t,ht⟩:=EB.mp km
    have tl:=(DN.mp ht).1
    have:=h t (Ee.mpr (by rw[DI];exact tl))
    rw[fU ht]at this
    simpa using this
   ·refine⟨_,rfl,sx.trans (s5.trans s6),fun j' i' hj' hi'=>?_⟩
    by_cases z:j'=j
    ·subst z
     rw[hi]at hi'
     cases hi'
     intro al2
     rw[Bool.eq_false_iff]at h
     refine h ?_
     rw[List.isEmpty_iff,List.map_eq_nil_iff,List.filter_eq_nil_iff]
     intro t ht
     rw[DI]at ht
     have tl:=Ee.mp ht
     have tm:=El tl
     obtain⟨a1,a2⟩:=Ej.mp tm
     have:=al2 _ (Ee.mp a1) a2
     rw[show((DR dn.length).filter (nB dn hs)).getD t 0=((DR dn.length).filter (nB dn hs))[t]from fU (DJ tl)]
     rw[hGs]at this
     simp[this]
    ·exact al j' i' (by omega) hi'
  ·rintro σ Hx ⟨x,rfl,sx,al⟩
   obtain⟨t,ht⟩:=EB.mp allG
   have tl:=(DN.mp ht).1
   have tq:t∈qq:=S.1.mem_iff.mpr (Ee.mpr tl)
   obtain⟨j,hj⟩:=EB.mp tq
   have jl:=(DN.mp hj).1
   exact absurd (fun k hk g=>by rw[fU ht];exact pP hk g) (al j t (by rw[DI,DI];exact jl) hj)
def fO (K:PySem.W.Frag):Sp:=fun vs H Q _=>∃(o d hb:Addr) (c:Int) (es:jA) (dn:List (Option Int)) (hs:List Int) (rk:Int->Nat) (H0:Hp),vs=[.ref o,.ref d,.ref hb,.int c]/\Same H0 H/\H0 d=none/\RowAt H0 o es/\es.length<=100/\(∀x∈es,0<=x.1/\x.1<(hs.length:Int))/\(∀x∈es,rk x.1<rk x.2)/\H d=some (.lst (dn.map hV))/\hs.length<=6/\dn.length=hs.length/\(∀i,i<hs.length->dn.getD i none=none\/dn.getD i none=some (hs.getD i 0))/\H0 hb=some (.lst (hs.map V.int))/\∀H',Same H0 H'->H' d=some (.lst (hs.map V.int))->Q (.ref d) H'
theorem bE:FnScope ["order","done","hands","cell","rest","here","step"] ["order","done","hands","cell"] (au dJ):=⟨rfl,rfl,rfl,by decide +kernel,rfl,by decide +kernel,by decide +kernel⟩
theorem j3 (D:Dfs K mg aF dF) (T:Txt mg):FnOk P w K mg base aX 5 (aF 45) (dF 45) ["order","done","hands","cell"] (fO K):=by
 have Gready:FnOk P w K mg base aX 4 (aF 21) (dF 21) ["order","done"] (pZ K):=xF D T
 refine D.law_followed.fn.ok bE (fun vs H Q E h=>?_) (fun cdv A outer s H vs Q E hr h=>?_)
 ·obtain⟨o,d,hb,c,es,dn,hs,rk,H0,rfl,_⟩:=h;rfl
 ·have hu:=aP hr
  obtain⟨o,d,hb,c,es,dn,hs,rk,H0,rfl,s0,nd,ho,e1,ok,hr',hd,h6,dl,da,hhb,q⟩:=h
  refine⟨_,(af (aA (i:=4) bE.nd rfl (Or.inl rfl) (aB ba (pv 3) (aB nK aj aj)))
   (af (aA (i:=5) bE.nd rfl (Or.inl rfl) (pc D.ready Gready (hr.mono (by decide)) (aa (aI (eM K) (by rfl) T.z_list boot_list (aa (pv 0) ab)) (aa (aI (eM K) (by rfl) T.z_list boot_list (aa (pv 1) ab)) ab))))
   (af (vp PassesOwn.never (ax (CZ K hr.units) (pv 5) (aG ab) (ay _))
    (af (aA (i:=6) bE.nd rfl (Or.inl rfl) (az (dO K) (pv 5) (aB ba (pv 4) (ak (bw K) (by rfl) T.z_len boot_len (aa (pv 5) ab))) (fun _ _=>rfl)))
    (af (aA (i:=4) bE.nd rfl (Or.inl rfl) (aB b8 (pv 4) aj))
    (af (aK (ax eY (az (dO K) (pv 1) (pv 6) (fun _ _=>rfl)) cK (ay _))
     (ag (av (aG ab)))
     aC)
    (af (eE (az (dO K) (pv 2) (pv 6) (fun _ _=>rfl)) (nJ (pv 1) (pv 6) iE))
    (ag (aA (i:=5) bE.nd rfl (Or.inl rfl) (pc D.ready Gready (hr.mono (by decide)) (aa (aI (eM K) (by rfl) T.z_list boot_list (aa (pv 0) ab)) (aa (aI (eM K) (by rfl) T.z_list boot_list (aa (pv 1) ab)) ab))))))))))
   (ag (av (pv 1)))))),?_⟩
  refine⟨_,rfl,_,_,rfl,rfl,⟨by decide,by decide,by decide⟩,_,_,rfl,rfl,(show(0:Int)<10^(9:Int).toNat by decide),?_⟩
  obtain⟨qs,hp,tp⟩:=id ho
  refine⟨_,rfl,o,_,rfl,.inl (SqL.of (s0 _ _ hp)),fun o2 no2=>?_⟩
  have s1:=Same.new (o:= .lst (qs.map V.ref)) no2
  have ho2:aE H o2 (.lst (qs.map V.ref)) o2=some (.lst (qs.map V.ref)):=ae
  generalize aE H o2 (.lst (qs.map V.ref))=H1 at s1 ho2
  refine⟨_,rfl,d,_,rfl,.inl (SqL.of (s1 _ _ hd)),fun d2 nd2=>?_⟩
  have s2:=s1.to (o:= .lst (dn.map hV)) nd2
  have ho3:=(Same.new (o:= .lst (dn.map hV)) nd2) _ _ ho2
  have hd2:aE H1 d2 (.lst (dn.map hV)) d2=some (.lst (dn.map hV)):=ae
  generalize aE H1 d2 (.lst (dn.map hV))=H2 at s2 ho3 hd2
  refine⟨o2,d2,es,dn,rfl,⟨qs,ho3,tp.same (s0.trans s2)⟩,e1,SqL.of hd2,by omega,fun l H3 s3 nl hl=>?_⟩
  have s23:=s2.trans s3
  clear ho2 ho3 hd2 no2 nd2
  refine vt (fun σ Hx=>∃(dn:List (Option Int)) (re:Int) (l:Addr) (x:Option V),σ=[some (.ref o),some (.ref d),some (.ref hb),some (.int c),some (.int re),some (.ref l),x]/\Same H0 Hx/\Hx d=some (.lst (dn.map hV))/\dn.length=hs.length/\(∀i,i<hs.length->dn.getD i none=none\/dn.getD i none=some (hs.getD i 0))/\Hx l=some (.lst (((DR dn.length).filter fun(i:Nat)=>sL es (dg dn) (i:Int)).map fun(i:Nat)=>V.int (i:Int)))) (fun _ Hx=>match Hx d with | some (.lst xs)=>xs.countP AN | _=>0) ⟨dn,_,l,none,rfl,s0.trans s23,s23 _ _ hd,dl,da,hl⟩ ?_ ?_
  ·rintro σ Hx ⟨dn,re,l,x,rfl,sx,hdx,dlx,dax,hlx⟩
   refine⟨_,rfl,cI,fun p np=>?_⟩
   have sp:=Same.new (o:= .lst []) np
   have hlp:=sp _ _ hlx
   have hdp:=sp _ _ hdx
   have sxp:=sx.trans sp
   have hpe:aE Hx p (.lst []) p=some (.lst []):=ae
   generalize aE Hx p (.lst [])=Hp at sp hlp hdp sxp hpe
   generalize hfr:((DR dn.length).filter fun(i:Nat)=>sL es (dg dn) (i:Int))=fr at hlx hlp
   cases fr with
   | nil=>
    refine⟨1,true,gy (SqL.of hlp) (SqL.of hpe),by decide,rfl,_,rfl,a9 ?_⟩
    have al:=uZ (dn:=dn) (by rw[dlx];exact ok) rk hr' hfr
    refine⟨_,rfl,q Hp sxp ?_⟩
    rw[hdp,AO dlx.symm fun i hi=>?_]
    rcases dax i (by omega)with z | z
    ·have:=al _ i (DS _) hi
     rw[z]at this
     cases this
    ·exact z
   | cons f0 fr=>
    refine⟨1,false,gy (SqL.of hlp) (SqL.of hpe),by decide,rfl,_,rfl,cb ?_⟩
    obtain⟨m,hm,em⟩:=pB re (n:=(f0 :: fr).length) (by simp)
    obtain⟨st,hst⟩:∃st,(f0 :: fr)[m]?=some st:=⟨_,DJ hm⟩
    have stm:=DQ hst
    rw[<- hfr]at stm
    obtain⟨st1,st2⟩:=Ej.mp stm
    have stl:=Ee.mp st1
    have stn:dn.getD st none=none:=by
     unfold sL at st2
     rw[EF]at st2
     have z:¬(st:Int)∈dg dn:=by simpa using st2.1
     cases e:dn.getD st none with
     | none=>rfl
     | some b=>exact absurd (iV.mpr ⟨stl,by rw[e];rfl⟩) z
    refine⟨_,rfl,_,rfl,_,rfl,_,(f0 :: fr).length,rfl,.inl ⟨_,SqL.of hlp,by rw[DI]⟩,_,_,rfl,rfl,(show(0:Int)<(((f0 :: fr).length:Nat):Int) by rw[EK];omega),l,_,_,_,rfl,rfl,SqL.of hlp,(by rw[em];exact b9 (by rw[DM,hst];rfl)),?_⟩
    refine⟨_,rfl,_,_,rfl,rfl,(show jS _ 5 from⟨by decide,by decide⟩),?_⟩
    refine⟨_,rfl,_,rfl,d,_,_,_,rfl,rfl,SqL.of hdp,eG stl,rfl,?_⟩
    rw[stn]
    refine⟨_,rfl,a9 ?_⟩
    refine⟨_,rfl,_,rfl,hb,_,_,_,rfl,rfl,SqL.of (sxp _ _ hhb),bf (by omega),_,rfl,_,rfl,d,_,_,st,rfl,rfl,hdp,k5 (by rw[DI];exact stl),?_⟩
    have sy:=sxp.put (o:= .lst ((dn.map hV).set st (.int (hs.getD st 0)))) nd
    have hdy:aE Hp d (.lst ((dn.map hV).set st (.int (hs.getD st 0)))) d=some (.lst ((dn.set st (some (hs.getD st 0))).map hV)):=by rw[ae,List.map_set];rfl
    generalize aE Hp d (.lst ((dn.map hV).set st (.int (hs.getD st 0))))=Hy at sy hdy
    have dly:(dn.set st (some (hs.getD st 0))).length=hs.length:=by rw[FR];exact dlx
    refine⟨_,rfl,o,_,rfl,.inl (SqL.of (sy _ _ hp)),fun o2 no2=>?_⟩
    have s1:=Same.new (o:= .lst (qs.map V.ref)) no2
    have ho2:aE Hy o2 (.lst (qs.map V.ref)) o2=some (.lst (qs.map V.ref)):=ae
    generalize aE Hy o2 (.lst (qs.map V.ref))=H4 at s1 ho2
    refine⟨_,rfl,d,_,rfl,.inl (SqL.of (s1 _ _ hdy)),fun d2 nd2=>?_⟩
    have s2:=s1.to (o:= .lst ((dn.set st (some (hs.getD st 0))).map hV)) nd2
    have ho3:=(Same.new (o:= .lst ((dn.set st (some (hs.getD st 0))).map hV)) nd2) _ _ ho2
    have hd2:aE H4 d2 (.lst ((dn.set st (some (hs.getD st 0))).map hV)) d2=some (.lst ((dn.set st (some (hs.getD st 0))).map hV)):=ae
    generalize aE H4 d2 (.lst ((dn.set st (some (hs.getD st 0))).map hV))=H5 at s2 ho3 hd2
    refine⟨o2,d2,es,dn.set st (some (hs.getD st 0)),rfl,⟨qs,ho3,tp.same (sy.trans s2)⟩,e1,SqL.of hd2,by omega,fun l2 H6 s6 nl2 hl2=>?_⟩
    have s26:=s2.trans s6
    refine⟨⟨dn.set st (some (hs.getD st 0)),_,l2,_,rfl,sy.trans s26,s26 _ _ hdy,dly,fun i hi=>?_,hl2⟩,?_⟩
    ·by_cases z:st=i
     ·subst z
      exact .inr (by rw[DK,FC stl];rfl)
     ·rw [DK,FL z,<- DK]
      exact dax i hi
    ·rw [hdx,s26 _ _ hdy]
     have:=xw (dn:=dn) (hs.getD st 0) stl stn
     show((dn.set st (some (hs.getD st 0))).map hV).countP AN<(dn.map hV).countP AN
     omega
  ·rintro σ Hx Q Q' hq ⟨v,e,z,y⟩
   refine⟨v,e,z,fun p np=>?_⟩
   obtain⟨d,b,h1,h2,h3,k,hk,h4⟩:=y p np
   exact⟨d,b,h1,h2,h3,k,hk,hq _ _ h4⟩
def oD (K:PySem.W.Frag):Sp:=fun vs H Q _=>∃(a:Addr) (ns:List Int),vs=[.ref a]/\SqL K H a (ns.map V.int)/\ns.length<=63/\∀H',Q (.bl true) H'
theorem fG:FnScope ["script","may","ties","order","done","hands","found","left","ended"] ["script"] (au xy):=⟨rfl,rfl,rfl,by decide +kernel,rfl,by decide +kernel,by decide +kernel⟩
theorem AR (D:Dfs K mg aF dF) (T:Txt mg):FnOk P w K mg base aX 40 (aF 46) (dF 46) ["script"] (oD K):=by
 have Gstruck:FnOk P w K mg base aX 1 (aF 19) (dF 19) ["done","steps"] (ju K):=nH D T
 have Gmend:FnOk P w K mg base aX 39 (aF 20) (dF 20) ["may","ties","order","done"] (tH K):=zg D T
 have Glaw_cell:FnOk P w K mg base aX 1 (aF 25) (dF 25) ["script","k"] (eh K):=gf D T
 have Glaw_fits:FnOk P w K mg base aX 2 (aF 32) (dF 32) ["hands","may","ties"] (gg K):=jL D T
 have Glaw_undone:FnOk P w K mg base aX 1 (aF 38) (dF 38) ["done","steps"] (c9 K):=eL D T
 have Glaw_held:FnOk P w K mg base aX 1 (aF 39) (dF 39) ["may","done"] (eB K):=gj D T
 have Glaw_mended:FnOk P w K mg base aX 19 (aF 41) (dF 41) ["found","order","problem"] (gT K):=mE D T
 have Glaw_drawn:FnOk P w K mg base aX 3 (aF 43) (dF 43) ["script"] (i4 K):=oC D T
 have Glaw_most:FnOk P w K mg base aX 2 (aF 44) (dF 44) ["order","done","hands"] (jQ K):=qd D T
 have Glaw_followed:FnOk P w K mg base aX 5 (aF 45) (dF 45) ["order","done","hands","cell"] (fO K):=j3 D T
 refine D.law.fn.ok fG (fun vs H Q E h=>?_) (fun cdv A outer s H vs Q E hr h=>?_)
 ·obtain⟨a,ns,rfl,_⟩:=h;rfl
 ·have hu:=aP hr
  obtain⟨a,ns,rfl,hS,hl,q⟩:=h
  refine⟨_,(af (eE (pc D.law_drawn Glaw_drawn (hr.mono (by decide)) (aa (pv 0) ab)) (An K rfl (aD (ao (i:=1) fG.nd rfl (Or.inl rfl)) (aD (ao (i:=2) fG.nd rfl (Or.inl rfl)) (aD (ao (i:=3) fG.nd rfl (Or.inl rfl)) (aD (ao (i:=4) fG.nd rfl (Or.inl rfl)) (aD (ao (i:=5) fG.nd rfl (Or.inl rfl)) b3)))))))
   (af (aA (i:=6) fG.nd rfl (Or.inl rfl) (pc D.mend Gmend (hr.mono (by decide)) (aa (aJ ["some"] [none] rfl (gZ K (pv 1)) (fun _=>ao (i:=0) (aL (N:=["some"]) (by decide +kernel)) rfl (Or.inl rfl)) (fun _=>bA) (fun _=>(aI (eM K) (by rfl) T.z_list boot_list (aa (pv 0) ab))) ((.cons (fun _ e=>by cases e) .nil))) (aa (aI (eM K) (by rfl) T.z_list boot_list (aa (pv 2) ab)) (aa (aI (eM K) (by rfl) T.z_list boot_list (aa (pv 3) ab)) (aa (aI (eM K) (by rfl) T.z_list boot_list (aa (pv 4) ab)) ab))))))
   (af (aK (cw (bC (pc D.law_mended Glaw_mended (hr.mono (by decide)) (aa (pv 6) (aa (pv 3) (aa (aG (aa (pv 1) (aa (pv 2) (aa (pv 4) ab)))) ab))))))
    (ag (av bP))
    aC)
   (af (aK (PW.pt (cQ (ax fH (az (e9 K) (pv 6) aj (fun _ _=>rfl)) a7 (ay _)) (cR (ax rL (ak (bw K) (by rfl) T.z_len boot_len (aa (az (e9 K) (pv 6) aj (fun _ _=>rfl)) ab)) (pc D.law_most Glaw_most (hr.mono (by decide)) (aa (pv 3) (aa (pv 4) (aa (pv 5) ab)))) (ay _)))))
    (ag (av bP))
    aC)
   (af (aA (i:=7) fG.nd rfl (Or.inl rfl) (pc D.struck Gstruck (hr.mono (by decide)) (aa (aI (eM K) (by rfl) T.z_list boot_list (aa (pv 4) ab)) (aa (aI (eM K) (by rfl) T.z_list boot_list (aa (az (e9 K) (pv 6) aj (fun _ _=>rfl)) ab)) ab))))
   (af (aK (ax (CZ K hr.units) (pv 7) (pc D.law_undone Glaw_undone (hr.mono (by decide)) (aa (pv 4) (aa (az (e9 K) (pv 6) aj (fun _ _=>rfl)) ab))) (ay _))
    (ag (av bP))
    aC)
   (af (aA (i:=8) fG.nd rfl (Or.inl rfl) (pc D.law_followed Glaw_followed (hr.mono (by decide)) (aa (pv 3) (aa (aI (eM K) (by rfl) T.z_list boot_list (aa (pv 7) ab)) (aa (az (e9 K) (pv 6) aj (fun _ _=>rfl)) (aa (pc D.law_cell Glaw_cell (hr.mono (by decide)) (aa (pv 0) (aa aj ab))) ab))))))
   (ag (av (gX (b4 (B6 K hr.units) (pv 8) (az (e9 K) (pv 6) aj (fun _ _=>rfl)) (ay _)) (i6 (pc D.law_fits Glaw_fits (hr.mono (by decide)) (aa (pv 8) (aa (pc D.law_held Glaw_held (hr.mono (by decide)) (aa (pv 1) (aa (pv 7) ab))) (aa (pv 2) ab))))))))))))))),?_⟩
  refine⟨_,rfl,a,ns,rfl,hS,hl,fun l ma ta o d hb rs ps ts es dn hs ms r H1 s1 dr=>?_⟩
  refine⟨l,_,rfl,SqL.of dr.hl,rfl,_,_,rfl,_,_,rfl,_,_,rfl,_,_,rfl,_,_,rfl,rfl,?_⟩
  have p5:=dr.p5
  have rl:rs.length=ps.length:=dr.rw.len
  have dl:=dr.dl
  have ml:=dr.m5
  have tl:=dr.t6
  have ln:=dr.ln
  obtain⟨rlen,rnd,rin⟩:=lg dr.pr
  have rank:=xx rnd dr.ok
  have ok1:∀x∈es,0<=x.1/\x.1<(ps.length:Int):=fun x hx=>by
   obtain⟨i,j,_,z1,_⟩:=dr.ok x hx
   exact(rin _).mp (DQ z1)
  have ok2:∀x∈es,0<=x.2/\x.2<(dn.length:Int):=fun x hx=>by
   obtain⟨i,j,_,_,z2⟩:=dr.ok x hx
   rw[dl]
   exact(rin _).mp (DQ z2)
  have kps:∀t∈ts.map dU,kp (fun i=>hs.getD i 0) t.1 t.2.1 t.2.2=true:=fun t ht=>by
   obtain⟨z,hz,rfl⟩:=DZ.mp ht
   exact dr.kp z hz
  have tOk:∀Hx yy,Same H1 Hx->Hx yy=some (.lst (ts.map fun x=>V.ref x.1))->Ties K Hx yy ts 100:=fun Hx yy sx hyy=>⟨SqL.of hyy,fun x hx=>(dr.te x hx).same sx,by omega⟩
  refine⟨_,rfl,ma,rfl,⟨_,SqL.of dr.hm⟩,?_⟩
  refine uH (SqL.of dr.hm) dr.rw.pools (by omega) (fun r ys H5 R hq k=>⟨_,rfl,r,_,rfl,.inl hq,k⟩) fun c1 cs1 H2 s2 nc1 hc1 cR1 cf1=>?_
  refine⟨_,rfl,ta,_,rfl,.inl (SqL.of (s2 _ _ dr.ht)),fun c2 nc2=>?_⟩
  have s3:=Same.new (o:= .lst (ts.map fun x=>V.ref x.1)) nc2
  have hc2:aE H2 c2 (.lst (ts.map fun x=>V.ref x.1)) c2=some (.lst (ts.map fun x=>V.ref x.1)):=ae
  generalize aE H2 c2 (.lst (ts.map fun x=>V.ref x.1))=H3 at s3 hc2
  have s13:=s2.trans s3
  obtain⟨qs,hp,tp⟩:=id dr.ho
  refine⟨_,rfl,o,_,rfl,.inl (SqL.of (s13 _ _ hp)),fun c3 nc3=>?_⟩
  have s4:=Same.new (o:= .lst (qs.map V.ref)) nc3
  have hc3:aE H3 c3 (.lst (qs.map V.ref)) c3=some (.lst (qs.map V.ref)):=ae
  generalize aE H3 c3 (.lst (qs.map V.ref))=H4 at s4 hc3
  have s14:=s13.trans s4
  refine⟨_,rfl,d,_,rfl,.inl (SqL.of (s14 _ _ dr.hd)),fun c4 nc4=>?_⟩
  have s5:=Same.new (o:= .lst (dn.map hV)) nc4
  have hc4:aE H4 c4 (.lst (dn.map hV)) c4=some (.lst (dn.map hV)):=ae
  generalize aE H4 c4 (.lst (dn.map hV))=H5 at s5 hc4
  have s15:=s14.trans s5
  have s25:=(s3.trans s4).trans s5
  have s35:=s4.trans s5
  refine⟨c1,c2,c3,c4,cs1,ps,ms,ts,es,dn,rfl,⟨SqL.of (s25 _ _ hc1),(cR1.same s25).pools,dr.up,dr.sub,by omega,by omega⟩,tOk _ _ s15 (s35 _ _ hc2),dr.tg,⟨qs,s5 _ _ hc3,tp.same s15⟩,dr.e1,ok2,SqL.of hc4,dl,dr.ds,fun t H6 s6 nt td=>?_⟩
  have s16:=s15.trans s6
  clear s3 hc2 s13 s4 hc3 s14 s5 hc4 s25 s35 hc1 cR1 cf1 s2
  refine⟨_,rfl,_,rfl,_,rfl,_,rfl,_,rfl,cI,fun pr npr=>?_⟩
  have sp:=Same.new (o:= .lst [.ref ma,.ref ta,.ref d]) npr
  have hpr:aE H6 pr (.lst [.ref ma,.ref ta,.ref d]) pr=some (.lst [.ref ma,.ref ta,.ref d]):=ae
  generalize aE H6 pr (.lst [.ref ma,.ref ta,.ref d])=H7 at sp hpr
  have s17:=s16.trans sp
  refine⟨t,o,pr,ma,ta,d,rs,ps,ms,ts,es,dn,rfl,hpr,s17 _ _ dr.hm,dr.rw.same s17,dr.up,dr.sub,by omega,by omega,dr.ds,tOk _ _ s17 (s17 _ _ dr.ht),dr.tg,⟨qs,s17 _ _ hp,tp.same s17⟩,dr.e1,ok2,SqL.of (s17 _ _ dr.hd),dl,MTold.same td sp,fun H8 s8=>⟨_,rfl,a9 ?_⟩⟩
  have s18:=s17.trans s8
  have s68:=sp.trans s8
  have d6:dn.length<=6:=by omega
  have pmS:=lM (es:=es) d6
  have full:=pmS.mem_iff.mpr (pO (es:=es) ok2)
  have goodp:∀s,(∀i,i<dn.length->nB dn hs i=true->(i:Int)∈s)->IsPlan (bW ps (iC dn s)) (ts.map dU) hs:=fun s g=>uY ln dl dr.hin kps g
  rcases td with⟨sa,lp,pl,g,hs2,qs2,htf,hsa,gm,hlp,ip,hpl,pq⟩ | ⟨pl,qs2,htf,hpl,pq⟩
  case inr=>
   obtain⟨j,hj⟩:=EB.mp full
   obtain⟨_,_,_,_,pp,_,_,_,sh⟩:=bJ pq hj
   exact absurd (goodp _ fun i hi g=>pP hi g) sh.noplan
  have min:∀s∈qh es dn,(∀i,i<dn.length->nB dn hs i=true->(i:Int)∈s)->g.length<=s.length:=fun s sm gs=>Decidable.byContradiction fun no=>by
   have mm:s∈(qh es dn).filter fun s=>decide (s.length<g.length):=Ej.mpr ⟨sm,decide_eq_true (show s.length<g.length by omega)⟩
   obtain⟨j,hj⟩:=EB.mp mm
   obtain⟨_,_,_,_,pp,_,_,_,sh⟩:=bJ pq hj
   exact absurd (goodp _ gs) sh.noplan
  refine⟨_,rfl,t,_,_,_,rfl,rfl,SqT.of (s68 _ _ htf),rfl,rfl,_,rfl,k9 rfl ?_⟩
  refine⟨_,rfl,t,_,_,_,rfl,rfl,SqT.of (s68 _ _ htf),rfl,_,g.length,rfl,.inl ⟨_,SqL.of (s68 _ _ hsa),by rw[DI]⟩,_,rfl,_,rfl,_,rfl,o,d,hb,es,dn,hs,rfl,⟨qs,s18 _ _ hp,tp.same s18⟩,dr.e1,ok2,SqL.of (s18 _ _ dr.hd),by omega,SqL.of (s18 _ _ dr.hb),by omega,fun s H9 s9 sm gs=>?_⟩
  have le:=min s (pmS.mem_iff.mpr sm) gs
  refine⟨_,_,rfl,rfl,_,rfl,zw (fun z=>absurd z (by omega)) fun _=>?_⟩
  have s19:=s18.trans s9
  have s69:=s68.trans s9
  refine⟨_,rfl,d,_,rfl,.inl (SqL.of (s19 _ _ dr.hd)),fun c6 nc6=>?_⟩
  have s10:=Same.new (o:= .lst (dn.map hV)) nc6
  have hc6:aE H9 c6 (.lst (dn.map hV)) c6=some (.lst (dn.map hV)):=ae
  generalize aE H9 c6 (.lst (dn.map hV))=H10 at s10 hc6
  have s610:=s69.trans s10
  refine⟨_,rfl,t,_,_,_,rfl,rfl,SqT.of (s610 _ _ htf),rfl,sa,_,rfl,.inl (SqL.of (s610 _ _ hsa)),fun c7 nc7=>?_⟩
  have s11:=Same.new (o:= .lst (g.map V.int)) nc7
  have hc7:aE H10 c7 (.lst (g.map V.int)) c7=some (.lst (g.map V.int)):=ae
  have hc67:=s11 _ _ hc6
  generalize aE H10 c7 (.lst (g.map V.int))=H11 at s11 hc7 hc67
  refine⟨c6,c7,dn,g,rfl,SqL.of hc67,SqL.of hc7,d6,fun lf H12 s12 nlf hlf=>?_⟩
  have s1_12:=((s19.trans s10).trans s11).trans s12
  have s6_12:=(s610.trans s11).trans s12
  refine⟨_,rfl,_,rfl,_,rfl,t,_,_,_,rfl,rfl,SqT.of (s6_12 _ _ htf),rfl,d,sa,dn,g,rfl,SqL.of (s1_12 _ _ dr.hd),SqL.of (s6_12 _ _ hsa),d6,fun un H13 s13 nun hun=>?_⟩
  have skl:=kh dn g
  refine⟨1,true,oW (SqL.of (s13 _ _ hlf)) (SqL.of hun) (yA _),by decide,rfl,_,rfl,a9 ?_⟩
  have s1_13:=s1_12.trans s13
  have s6_13:=s6_12.trans s13
  have hlf13:=s13 _ _ hlf
  refine⟨_,rfl,_,rfl,lf,_,rfl,.inl (SqL.of hlf13),fun c8 nc8=>?_⟩
  have s14:=Same.new (o:= .lst ((iC dn g).map hV)) nc8
  have hc8:aE H13 c8 (.lst ((iC dn g).map hV)) c8=some (.lst ((iC dn g).map hV)):=ae
  generalize hH14:aE H13 c8 (.lst ((iC dn g).map hV))=H14 at s14 hc8
  have ipl:hs2.length=ps.length:=by rw[ip.len,cX]
  refine⟨_,rfl,t,_,_,_,rfl,rfl,SqT.of (s14 _ _ (s6_13 _ _ htf)),rfl,_,rfl,a,ns,34,rfl,(s1.trans (s1_13.trans s14)).seq hS,by omega,by decide,fun H15 s15=>?_⟩
  refine⟨o,c8,lp,_,es,iC dn g,hs2,r.idxOf,H13,rfl,s14.trans s15,nc8,⟨qs,s1_13 _ _ hp,tp.same s1_13⟩,dr.e1,(by rw[ipl];exact ok1),rank,s15 _ _ hc8,by omega,by omega,fun i hi=>?_,s6_13 _ _ hlp,fun H16 s16 hc16=>?_⟩
  ·have z:=ip.of i hi
   rw[g9 (by omega)]at z
   cases e:(iC dn g).getD i none with
   | none=>exact .inl rfl
   | some b=>
    rw[e]at z
    rw[DV.mp z]
    exact .inr rfl
  refine⟨_,rfl,_,rfl,t,_,_,_,rfl,rfl,SqT.of (s16 _ _ (s6_13 _ _ htf)),rfl,1,true,wD (SqL.of hc16) (SqL.of (s16 _ _ (s6_13 _ _ hlp))),by decide,rfl,_,rfl,cb ?_⟩
  have s1_16:=s1_13.trans s16
  refine⟨_,rfl,_,rfl,_,rfl,ma,lf,rs,ps,iC dn g,rfl,s1_16 _ _ dr.hm,dr.rw.same s1_16,SqL.of (s16 _ _ hlf13),by omega,by omega,fun hl' us H17 s17' nhl hhl rus=>?_⟩
  have hml:(bW ps (iC dn g)).length=ps.length:=cX
  have s1_17:=s1_16.trans s17'
  exact⟨_,rfl,c8,hl',ta,us,bW ps (iC dn g),ts,hs2,rfl,s17' _ _ hc16,SqL.of hhl,rus.pools,by omega,tOk _ _ s1_17 (s1_17 _ _ dr.ht),fun x hx=>by rw[hml];exact dr.tg x hx,ip,fun H' _=>q H'⟩
end
def Fd (K:PySem.W.Frag) (nm:Str) (st:Stmt) (f:Addr):Prop:=∃(od an:Option Addr) (sl:Array (Option Value)) (oc kV dc pm cd ct:Value),PySem.W.nsIn K mainGlobals nm=some (some (.ref f))/\K.lookup f=some ⟨oc,od,.func (PySem.W.fnOf nm nm (eZ st) (dQ st) (au st) .none kV dc pm an cd ct),sl⟩/\PySem.W.codeIn K cd nm=true/\PySem.W.keepIn K (.ref f)=true
theorem aN {K:PySem.W.Frag} {nm:Str} {st:Stmt} {f:Addr} {h:Heap} {mg:Str->Option Value} {ps:List Str} (X:K.In h) (G:h.Ns mainGlobals mg) (q:Fd K nm st f) (hb:∀(kV dc pm:Value) (an:Option Addr) (cd ct:Value) (us:List Value),us.length=ps.length->bindArgs (PySem.W.fnOf nm nm (eZ st) (dQ st) (au st) .none kV dc pm an cd ct) ⟨us,[]⟩=pure (ps.zip us)):∃fd,Def K mg nm st ps f fd/\∀(s:Shared) (us:List Value),us.length=ps.length->BindsTo s fd ⟨us,[]⟩ (ps.zip us):=by
 obtain⟨od,an,sl,oc,kV,dc,pm,cd,ct,a,l,c,k⟩:=q
 have F:=Aa (st:=st) l c k
 exact⟨_,⟨F,F.binds hb,PySem.W.mg_of X G a⟩,fun s us hl=> .of_eq (hb kV dc pm an cd ct us hl)⟩
theorem AS {F:List Value->Prop} {x0:Str} (h:∀v0,F [v0]):∀us:List Value,us.length=[x0].length->F us:=fun us hl=>by obtain⟨_,rfl⟩:=Dm hl;exact h _
theorem l8 {F:List Value->Prop} {x0 x1:Str} (h:∀v0 v1,F [v0,v1]):∀us:List Value,us.length=[x0,x1].length->F us:=fun us hl=>by obtain⟨_,_,rfl⟩:=Do hl;exact h _ _
theorem vd {F:List Value->Prop} {x0 x1 x2:Str} (h:∀v0 v1 v2,F [v0,v1,v2]):∀us:List Value,us.length=[x0,x1,x2].length->F us:=fun us hl=>by obtain⟨_,_,_,rfl⟩:=Dp hl;exact h _ _ _
theorem BY {F:List Value->Prop} {x0 x1 x2 x3:Str} (h:∀v0 v1 v2 v3,F [v0,v1,v2,v3]):∀us:List Value,us.length=[x0,x1,x2,x3].length->F us:=fun us hl=>by obtain⟨_,_,_,_,rfl⟩:=Dq hl;exact h _ _ _ _
theorem aO {K:PySem.W.Frag} {nm:Str} {st:Stmt} {f:Addr} {od an:Option Addr} {sl:Array (Option Value)} {oc kV dc pm cd ct:Value} (a:PySem.W.nsIn K mainGlobals nm=some (some (.ref f))) (l:K.lookup f=some ⟨oc,od,.func (PySem.W.fnOf nm nm (eZ st) (dQ st) (au st) .none kV dc pm an cd ct),sl⟩) (c:PySem.W.codeIn K cd nm=true) (k:PySem.W.keepIn K (.ref f)=true):Fd K nm st f:=⟨od,an,sl,oc,kV,dc,pm,cd,ct,a,l,c,k⟩
theorem AU {l:PySem.W.OpenLaw} {w:World} {K:PySem.W.Frag} {h:Heap} {mg:Str->Option Value} {fa fl f0 f1 f2 f3 f4 f5 f6 f7 f8 f9 f10 f11 f12 f13 f14 f15 f16 f17 f18 f19 f20 f21 f22 f23 f24 f25 f26 f27 f28 f29 f30 f31 f32 f33 f34 f35 f36 f37 f38 f39 f40 f41 f42 f43 f44 f45:Addr} (X:K.In h) (G:h.Ns mainGlobals mg) (hfa:mg "law"=some (.ref fa))
  (q0:Fd K "common" lN f0)
  (q1:Fd K "choices" jj f1)
  (q2:Fd K "deal" rd f2)
  (q3:Fd K "settle" lO f3)
  (q4:Fd K "short_places" dG f4)
  (q5:Fd K "hands_of" h9 f5)
  (q6:Fd K "width" om f6)
  (q7:Fd K "grown" oo f7)
  (q8:Fd K "breaks" lP f8)
  (q9:Fd K "first_broken" dH f9)
  (q10:Fd K "unlike" lQ f10)
  (q11:Fd K "pools_of" ie f11)
  (q12:Fd K "pool_of" jk f12)
  (q13:Fd K "plan" rf f13)
  (q14:Fd K "plan_from" fW f14)
  (q15:Fd K "held" rg f15)
  (q16:Fd K "held_step" fX f16)
  (q17:Fd K "strikes" jm f17)
  (q18:Fd K "has_all_behind" cZ f18)
  (q19:Fd K "struck" lR f19)
  (q20:Fd K "mend" rh f20)
  (q21:Fd K "ready" oq f21)
  (q22:Fd K "free" rj f22)
  (q23:Fd K "is_free" jn f23)
  (q24:Fd K "ahead_of" ig f24)
  (q25:Fd K "_law_cell" ij f25)
  (q26:Fd K "_law_whole" fY f26)
  (q27:Fd K "_law_row" jo f27)
  (q28:Fd K "_law_order" fZ f28)
  (q29:Fd K "_law_menu" iq f29)
  (q30:Fd K "_law_some" ir f30)
  (q31:Fd K "_law_tie" jq f31)
  (q32:Fd K "_law_fits" iu f32)
  (q33:Fd K "_law_breaks" fv f33)
  (q34:Fd K "_law_pool" iw f34)
  (q35:Fd K "_law_shut" ix f35)
  (q36:Fd K "_law_shows" gc f36)
  (q37:Fd K "_law_sets" iy f37)
  (q38:Fd K "_law_undone" fz f38)
  (q39:Fd K "_law_held" iz f39)
  (q40:Fd K "_law_papers" fA f40)
  (q41:Fd K "_law_mended" fB f41)
  (q42:Fd K "_law_kept_tie" dI f42)
  (q43:Fd K "_law_drawn" gd f43)
  (q44:Fd K "_law_most" iA f44)
  (q45:Fd K "_law_followed" dJ f45)
  (q46:Fd K "law" xy fl)
  (z0:PySem.W.nsIn K mainGlobals "all"=some none)
  (z1:PySem.W.nsIn K mainGlobals "bool"=some none)
  (z2:PySem.W.nsIn K mainGlobals "int"=some none)
  (z3:PySem.W.nsIn K mainGlobals "isinstance"=some none)
  (z4:PySem.W.nsIn K mainGlobals "len"=some none)
  (z5:PySem.W.nsIn K mainGlobals "list"=some none)
  (z6:PySem.W.nsIn K mainGlobals "max"=some none)
  (z7:PySem.W.nsIn K mainGlobals "min"=some none)
  (z8:PySem.W.nsIn K mainGlobals "range"=some none)
  (z9:PySem.W.nsIn K mainGlobals "set"=some none)
  (z10:PySem.W.nsIn K mainGlobals "sorted"=some none)
  (z11:PySem.W.nsIn K mainGlobals "tuple"=some none)
  (z12:PySem.W.nsIn K mainGlobals "zip"=some none)
  :∃fd:FuncData,(∀(s:Shared) (v:Value),BindsTo s fd ⟨[v],[]⟩ [("script",v)])/\∀base:Heap,K.In base->base.Ns mainGlobals mg->FnOk l.prog w K mg base aX 40 fa fd ["script"] (oD K):=by
 obtain⟨dl,Dl,Bl⟩:=aN (ps:=["script"]) X G q46 (fun _ _ _ _ _ _=>AS fun _=>rfl)
 have e:=hfa.symm.trans Dl.at'
 cases e
 have T:Txt mg:=⟨PySem.W.mg_none_of X G z0,PySem.W.mg_none_of X G z1,PySem.W.mg_none_of X G z2,PySem.W.mg_none_of X G z3,PySem.W.mg_none_of X G z4,PySem.W.mg_none_of X G z5,PySem.W.mg_none_of X G z6,PySem.W.mg_none_of X G z7,PySem.W.mg_none_of X G z8,PySem.W.mg_none_of X G z9,PySem.W.mg_none_of X G z10,PySem.W.mg_none_of X G z11,PySem.W.mg_none_of X G z12⟩
 obtain⟨d0,D0,-⟩:=aN (ps:=["one","other"]) X G q0 (fun _ _ _ _ _ _=>l8 fun _ _=>rfl)
 obtain⟨d1,D1,-⟩:=aN (ps:=["numbers"]) X G q1 (fun _ _ _ _ _ _=>AS fun _=>rfl)
 obtain⟨d2,D2,-⟩:=aN (ps:=["pools"]) X G q2 (fun _ _ _ _ _ _=>AS fun _=>rfl)
 obtain⟨d3,D3,-⟩:=aN (ps:=["pools","holders","place","asked"]) X G q3 (fun _ _ _ _ _ _=>BY fun _ _ _ _=>rfl)
 obtain⟨d4,D4,-⟩:=aN (ps:=["holders","place","asked"]) X G q4 (fun _ _ _ _ _ _=>vd fun _ _ _=>rfl)
 obtain⟨d5,D5,-⟩:=aN (ps:=["holders","count"]) X G q5 (fun _ _ _ _ _ _=>l8 fun _ _=>rfl)
 obtain⟨d6,D6,-⟩:=aN (ps:=["pattern"]) X G q6 (fun _ _ _ _ _ _=>AS fun _=>rfl)
 obtain⟨d7,D7,-⟩:=aN (ps:=["pattern"]) X G q7 (fun _ _ _ _ _ _=>AS fun _=>rfl)
 obtain⟨d8,D8,-⟩:=aN (ps:=["pattern","tie"]) X G q8 (fun _ _ _ _ _ _=>l8 fun _ _=>rfl)
 obtain⟨d9,D9,-⟩:=aN (ps:=["pattern","ties"]) X G q9 (fun _ _ _ _ _ _=>l8 fun _ _=>rfl)
 obtain⟨d10,D10,-⟩:=aN (ps:=["row","steps"]) X G q10 (fun _ _ _ _ _ _=>l8 fun _ _=>rfl)
 obtain⟨d11,D11,-⟩:=aN (ps:=["pattern","may"]) X G q11 (fun _ _ _ _ _ _=>l8 fun _ _=>rfl)
 obtain⟨d12,D12,-⟩:=aN (ps:=["block","pattern","may"]) X G q12 (fun _ _ _ _ _ _=>vd fun _ _ _=>rfl)
 obtain⟨d13,D13,-⟩:=aN (ps:=["may","ties"]) X G q13 (fun _ _ _ _ _ _=>l8 fun _ _=>rfl)
 obtain⟨d14,D14,-⟩:=aN (ps:=["pattern","may","ties"]) X G q14 (fun _ _ _ _ _ _=>vd fun _ _ _=>rfl)
 obtain⟨d15,D15,-⟩:=aN (ps:=["may","done"]) X G q15 (fun _ _ _ _ _ _=>l8 fun _ _=>rfl)
 obtain⟨d16,D16,-⟩:=aN (ps:=["badges","hand"]) X G q16 (fun _ _ _ _ _ _=>l8 fun _ _=>rfl)
 obtain⟨d17,D17,-⟩:=aN (ps:=["order","done"]) X G q17 (fun _ _ _ _ _ _=>l8 fun _ _=>rfl)
 obtain⟨d18,D18,-⟩:=aN (ps:=["some","order","done"]) X G q18 (fun _ _ _ _ _ _=>vd fun _ _ _=>rfl)
 obtain⟨d19,D19,-⟩:=aN (ps:=["done","steps"]) X G q19 (fun _ _ _ _ _ _=>l8 fun _ _=>rfl)
 obtain⟨d20,D20,-⟩:=aN (ps:=["may","ties","order","done"]) X G q20 (fun _ _ _ _ _ _=>BY fun _ _ _ _=>rfl)
 obtain⟨d21,D21,-⟩:=aN (ps:=["order","done"]) X G q21 (fun _ _ _ _ _ _=>l8 fun _ _=>rfl)
 obtain⟨d22,D22,-⟩:=aN (ps:=["count","order","there"]) X G q22 (fun _ _ _ _ _ _=>vd fun _ _ _=>rfl)
 obtain⟨d23,D23,-⟩:=aN (ps:=["step","order","there"]) X G q23 (fun _ _ _ _ _ _=>vd fun _ _ _=>rfl)
 obtain⟨d24,D24,-⟩:=aN (ps:=["step","order"]) X G q24 (fun _ _ _ _ _ _=>l8 fun _ _=>rfl)
 obtain⟨d25,D25,-⟩:=aN (ps:=["script","k"]) X G q25 (fun _ _ _ _ _ _=>l8 fun _ _=>rfl)
 obtain⟨d26,D26,-⟩:=aN (ps:=["found"]) X G q26 (fun _ _ _ _ _ _=>AS fun _=>rfl)
 obtain⟨d27,D27,-⟩:=aN (ps:=["count","cell"]) X G q27 (fun _ _ _ _ _ _=>l8 fun _ _=>rfl)
 obtain⟨d28,D28,-⟩:=aN (ps:=["cells","row"]) X G q28 (fun _ _ _ _ _ _=>l8 fun _ _=>rfl)
 obtain⟨d29,D29,-⟩:=aN (ps:=["script","at","wide"]) X G q29 (fun _ _ _ _ _ _=>vd fun _ _ _=>rfl)
 obtain⟨d30,D30,-⟩:=aN (ps:=["menu","cell","step"]) X G q30 (fun _ _ _ _ _ _=>vd fun _ _ _=>rfl)
 obtain⟨d31,D31,-⟩:=aN (ps:=["number","count"]) X G q31 (fun _ _ _ _ _ _=>l8 fun _ _=>rfl)
 obtain⟨d32,D32,-⟩:=aN (ps:=["hands","may","ties"]) X G q32 (fun _ _ _ _ _ _=>vd fun _ _ _=>rfl)
 obtain⟨d33,D33,-⟩:=aN (ps:=["pattern","tie"]) X G q33 (fun _ _ _ _ _ _=>l8 fun _ _=>rfl)
 obtain⟨d34,D34,-⟩:=aN (ps:=["pattern","may","block"]) X G q34 (fun _ _ _ _ _ _=>vd fun _ _ _=>rfl)
 obtain⟨d35,D35,-⟩:=aN (ps:=["paper","pattern","may","ties"]) X G q35 (fun _ _ _ _ _ _=>BY fun _ _ _ _=>rfl)
 obtain⟨d36,D36,-⟩:=aN (ps:=["paper","pattern","may","ties"]) X G q36 (fun _ _ _ _ _ _=>BY fun _ _ _ _=>rfl)
 obtain⟨d37,D37,-⟩:=aN (ps:=["order","done"]) X G q37 (fun _ _ _ _ _ _=>l8 fun _ _=>rfl)
 obtain⟨d38,D38,-⟩:=aN (ps:=["done","steps"]) X G q38 (fun _ _ _ _ _ _=>l8 fun _ _=>rfl)
 obtain⟨d39,D39,-⟩:=aN (ps:=["may","done"]) X G q39 (fun _ _ _ _ _ _=>l8 fun _ _=>rfl)
 obtain⟨d40,D40,-⟩:=aN (ps:=["papers","due","problem"]) X G q40 (fun _ _ _ _ _ _=>vd fun _ _ _=>rfl)
 obtain⟨d41,D41,-⟩:=aN (ps:=["found","order","problem"]) X G q41 (fun _ _ _ _ _ _=>vd fun _ _ _=>rfl)
 obtain⟨d42,D42,-⟩:=aN (ps:=["number","hands"]) X G q42 (fun _ _ _ _ _ _=>l8 fun _ _=>rfl)
 obtain⟨d43,D43,-⟩:=aN (ps:=["script"]) X G q43 (fun _ _ _ _ _ _=>AS fun _=>rfl)
 obtain⟨d44,D44,-⟩:=aN (ps:=["order","done","hands"]) X G q44 (fun _ _ _ _ _ _=>vd fun _ _ _=>rfl)
 obtain⟨d45,D45,-⟩:=aN (ps:=["order","done","hands","cell"]) X G q45 (fun _ _ _ _ _ _=>BY fun _ _ _ _=>rfl)
 exact⟨dl,fun s v=>Bl s [v] rfl,fun base _ _=>AR (aF:=fun i=>List.getD [f0,f1,f2,f3,f4,f5,f6,f7,f8,f9,f10,f11,f12,f13,f14,f15,f16,f17,f18,f19,f20,f21,f22,f23,f24,f25,f26,f27,f28,f29,f30,f31,f32,f33,f34,f35,f36,f37,f38,f39,f40,f41,f42,f43,f44,f45,fa] i fa) (dF:=fun i=>List.getD [d0,d1,d2,d3,d4,d5,d6,d7,d8,d9,d10,d11,d12,d13,d14,d15,d16,d17,d18,d19,d20,d21,d22,d23,d24,d25,d26,d27,d28,d29,d30,d31,d32,d33,d34,d35,d36,d37,d38,d39,d40,d41,d42,d43,d44,d45,dl] i dl) ⟨D0,D1,D2,D3,D4,D5,D6,D7,D8,D9,D10,D11,D12,D13,D14,D15,D16,D17,D18,D19,D20,D21,D22,D23,D24,D25,D26,D27,D28,D29,D30,D31,D32,D33,D34,D35,D36,D37,D38,D39,D40,D41,D42,D43,D44,D45,Dl⟩ T⟩
theorem walk {l:PySem.W.OpenLaw} {q:Program} {loose:List Str} {XP:(Str->Option Value)->Heap->Prop} {YP:World->Heap->Prop} {d:DefRec} {K:Params->PySem.W.Frag} (hn:l.most=some 63) (hdf:d.params.defaults=[])
  (hY:∀(w:World) (h:Heap),YP w h->(K w.params).In h)
  (F:∀(w:World) (mg:Str->Option Value) (fa:Addr) (h:Heap),(K w.params).In h->h.Ns mainGlobals mg->mg d.name=some (.ref fa)->
   ∃fd:FuncData,(∀(s:Shared) (u:Value),BindsTo s fd ⟨[u],[]⟩ [("script",u)])/\∀base:Heap,(K w.params).In base->base.Ns mainGlobals mg->FnOk l.prog w (K w.params) mg base aX 40 fa fd ["script"] (oD (K w.params))):
  PySem.W.WalkO q loose XP YP l.row.toRowW d [] (fun f vs=>PySem.call f vs):=
 L2.ya (n:=63) (k:=40) (x:="script") (CX:=fun _=>aX) (sp:=fun w=>oD (K w.params)) hn (by decide) hdf ⟨rfl,by decide,by decide⟩ hY F (fun _ _ a ns hl _ hS=>⟨a,ns,rfl,hS,hl,fun _=>rfl⟩) fun _ _ _ _ _ z=>z
end My
theorem PySem.W.Fast.tw10084658252329092816:True:=trivial
theorem PySem.W.Fast.tw10108305912562879027:True:=trivial
theorem PySem.W.Fast.tw10155451691809342650:True:=trivial
theorem PySem.W.Fast.tw10161145668756894355:True:=trivial
theorem PySem.W.Fast.tw10176821416629107656:True:=trivial
theorem PySem.W.Fast.tw10584759675923986580:True:=trivial
theorem PySem.W.Fast.tw10648646860111204416:True:=trivial
theorem PySem.W.Fast.tw10650872779329543151:True:=trivial
theorem PySem.W.Fast.tw10793457683411103380:True:=trivial
theorem PySem.W.Fast.tw10817224967858133332:True:=trivial
theorem PySem.W.Fast.tw1094689246337323207:True:=trivial
theorem PySem.W.Fast.tw109922553038041119:True:=trivial
theorem PySem.W.Fast.tw11334673303685622905:True:=trivial
theorem PySem.W.Fast.tw11514443822144775672:True:=trivial
theorem PySem.W.Fast.tw11549356189195204394:True:=trivial
theorem PySem.W.Fast.tw11570158506151099216:True:=trivial
theorem PySem.W.Fast.tw11576391168922802756:True:=trivial
theorem PySem.W.Fast.tw11604564954966084027:True:=trivial
theorem PySem.W.Fast.tw11607112452248550192:True:=trivial
theorem PySem.W.Fast.tw11709299883173333018:True:=trivial
theorem PySem.W.Fast.tw11741560473878590928:True:=trivial
theorem PySem.W.Fast.tw12017832883146093893:True:=trivial
theorem PySem.W.Fast.tw12075822021658638039:True:=trivial
theorem PySem.W.Fast.tw1231025665434695955:True:=trivial
theorem PySem.W.Fast.tw12341069976867531537:True:=trivial
theorem PySem.W.Fast.tw12481643122206453555:True:=trivial
theorem PySem.W.Fast.tw12567724938153813506:True:=trivial
theorem PySem.W.Fast.tw12601131784927349554:True:=trivial
theorem PySem.W.Fast.tw12687093699994020189:True:=trivial
theorem PySem.W.Fast.tw12790059907281082342:True:=trivial
theorem PySem.W.Fast.tw13040636112553983903:True:=trivial
theorem PySem.W.Fast.tw13094964799084635129:True:=trivial
theorem PySem.W.Fast.tw13167443284546906570:True:=trivial
theorem PySem.W.Fast.tw13199462095132776631:True:=trivial
theorem PySem.W.Fast.tw13339707571693629390:True:=trivial
theorem PySem.W.Fast.tw13577872425060963557:True:=trivial
theorem PySem.W.Fast.tw13588418370012403385:True:=trivial
theorem PySem.W.Fast.tw13626629689458779378:True:=trivial
theorem PySem.W.Fast.tw13661920855717676956:True:=trivial
theorem PySem.W.Fast.tw13772461250903710448:True:=trivial
theorem PySem.W.Fast.tw13845854123934674011:True:=trivial
theorem PySem.W.Fast.tw13892531086988899540:True:=trivial
theorem PySem.W.Fast.tw14018923813325966070:True:=trivial
theorem PySem.W.Fast.tw14092675644758296463:True:=trivial
theorem PySem.W.Fast.tw14176544382563929752:True:=trivial
theorem PySem.W.Fast.tw1422845647683188015:True:=trivial
theorem PySem.W.Fast.tw14291317340863901478:True:=trivial
theorem PySem.W.Fast.tw14304722838955488475:True:=trivial
theorem PySem.W.Fast.tw14316771347464934835:True:=trivial
theorem PySem.W.Fast.tw14535162922711747997:True:=trivial
theorem PySem.W.Fast.tw14656394848624995737:True:=trivial
theorem PySem.W.Fast.tw14665549995668476655:True:=trivial
theorem PySem.W.Fast.tw14688315153623942126:True:=trivial
theorem PySem.W.Fast.tw14754267159670163541:True:=trivial
theorem PySem.W.Fast.tw14756160848342041273:True:=trivial
theorem PySem.W.Fast.tw14966046678579274594:True:=trivial
theorem PySem.W.Fast.tw1500662820542392478:True:=trivial
theorem PySem.W.Fast.tw15171835533839497593:True:=trivial
theorem PySem.W.Fast.tw15315585350669587402:True:=trivial
theorem PySem.W.Fast.tw1590002488548131241:True:=trivial
theorem PySem.W.Fast.tw15961451233118472678:True:=trivial
theorem PySem.W.Fast.tw16013482831517190438:True:=trivial
theorem PySem.W.Fast.tw16093010185816066703:True:=trivial
theorem PySem.W.Fast.tw16213247565111159814:True:=trivial
theorem PySem.W.Fast.tw16246936219019952703:True:=trivial
theorem PySem.W.Fast.tw16334990545019308569:True:=trivial
theorem PySem.W.Fast.tw16353828942746734:True:=trivial
theorem PySem.W.Fast.tw16435939083701880500:True:=trivial
theorem PySem.W.Fast.tw16436316245977305857:True:=trivial
theorem PySem.W.Fast.tw1661680643187096217:True:=trivial
theorem PySem.W.Fast.tw16638956797624619626:True:=trivial
theorem PySem.W.Fast.tw16656567433983380331:True:=trivial
theorem PySem.W.Fast.tw167222861423287586:True:=trivial
theorem PySem.W.Fast.tw16750630979833861010:True:=trivial
theorem PySem.W.Fast.tw16819269794344490066:True:=trivial
theorem PySem.W.Fast.tw16885648594490275889:True:=trivial
theorem PySem.W.Fast.tw16915495349560269378:True:=trivial
theorem PySem.W.Fast.tw1694813386204896669:True:=trivial
theorem PySem.W.Fast.tw17065231169193821015:True:=trivial
theorem PySem.W.Fast.tw17249332264585727493:True:=trivial
theorem PySem.W.Fast.tw17282661901859820148:True:=trivial
theorem PySem.W.Fast.tw17291494311651675225:True:=trivial
theorem PySem.W.Fast.tw17298539656536689979:True:=trivial
theorem PySem.W.Fast.tw17355251275361039133:True:=trivial
theorem PySem.W.Fast.tw17374662072729588229:True:=trivial
theorem PySem.W.Fast.tw17384195043052212981:True:=trivial
theorem PySem.W.Fast.tw17427349779805952560:True:=trivial
theorem PySem.W.Fast.tw17549868494103802388:True:=trivial
theorem PySem.W.Fast.tw17576395514570703620:True:=trivial
theorem PySem.W.Fast.tw1771222830019317611:True:=trivial
theorem PySem.W.Fast.tw17887713090521358815:True:=trivial
theorem PySem.W.Fast.tw17890661746849562892:True:=trivial
theorem PySem.W.Fast.tw17908413960928673093:True:=trivial
theorem PySem.W.Fast.tw17920382475466792385:True:=trivial
theorem PySem.W.Fast.tw18054579675731023628:True:=trivial
theorem PySem.W.Fast.tw18101997226354037745:True:=trivial
theorem PySem.W.Fast.tw18347855777230158993:True:=trivial
theorem PySem.W.Fast.tw197972379799704135:True:=trivial
theorem PySem.W.Fast.tw2128522321788697564:True:=trivial
theorem PySem.W.Fast.tw2260730910322152915:True:=trivial
theorem PySem.W.Fast.tw2390091732128521527:True:=trivial
theorem PySem.W.Fast.tw2394639801952576849:True:=trivial
theorem PySem.W.Fast.tw2618061482881154532:True:=trivial
theorem PySem.W.Fast.tw2627862372349785595:True:=trivial
theorem PySem.W.Fast.tw2665384239167954143:True:=trivial
theorem PySem.W.Fast.tw2730854739379545626:True:=trivial
theorem PySem.W.Fast.tw2814548966199120132:True:=trivial
theorem PySem.W.Fast.tw2892697488749182453:True:=trivial
theorem PySem.W.Fast.tw2936233506138537316:True:=trivial
theorem PySem.W.Fast.tw3087555204987914818:True:=trivial
theorem PySem.W.Fast.tw3267793805659673217:True:=trivial
theorem PySem.W.Fast.tw3310899456911919256:True:=trivial
theorem PySem.W.Fast.tw3339997778513014425:True:=trivial
theorem PySem.W.Fast.tw3558619166238340432:True:=trivial
theorem PySem.W.Fast.tw3593148882513601246:True:=trivial
theorem PySem.W.Fast.tw3635451770767857111:True:=trivial
theorem PySem.W.Fast.tw3761255086565978494:True:=trivial
theorem PySem.W.Fast.tw3851747687145355846:True:=trivial
theorem PySem.W.Fast.tw386877139898793952:True:=trivial
theorem PySem.W.Fast.tw3903886188353701357:True:=trivial
theorem PySem.W.Fast.tw3932816606644813596:True:=trivial
theorem PySem.W.Fast.tw4051720305542984121:True:=trivial
theorem PySem.W.Fast.tw4306393114220955592:True:=trivial
theorem PySem.W.Fast.tw4464309538691817671:True:=trivial
theorem PySem.W.Fast.tw4569665909442636769:True:=trivial
theorem PySem.W.Fast.tw4860673379764540597:True:=trivial
theorem PySem.W.Fast.tw5002171816765138806:True:=trivial
theorem PySem.W.Fast.tw5071351115596808940:True:=trivial
theorem PySem.W.Fast.tw5149921971797985765:True:=trivial
theorem PySem.W.Fast.tw5307055996181642717:True:=trivial
theorem PySem.W.Fast.tw5312085073703278825:True:=trivial
theorem PySem.W.Fast.tw5455780343505733016:True:=trivial
theorem PySem.W.Fast.tw5639838948321638907:True:=trivial
theorem PySem.W.Fast.tw5644519524378990817:True:=trivial
theorem PySem.W.Fast.tw5957088615545895077:True:=trivial
theorem PySem.W.Fast.tw5987632833484325366:True:=trivial
theorem PySem.W.Fast.tw6006328463290282833:True:=trivial
theorem PySem.W.Fast.tw6041074667554605800:True:=trivial
theorem PySem.W.Fast.tw6132197969924268298:True:=trivial
theorem PySem.W.Fast.tw6301755824821580142:True:=trivial
theorem PySem.W.Fast.tw6328604705525222814:True:=trivial
theorem PySem.W.Fast.tw639510114656504257:True:=trivial
theorem PySem.W.Fast.tw6606341173860420482:True:=trivial
theorem PySem.W.Fast.tw6712105323322949776:True:=trivial
theorem PySem.W.Fast.tw6760277459358310812:True:=trivial
theorem PySem.W.Fast.tw6929040006227088532:True:=trivial
theorem PySem.W.Fast.tw7006579475212323226:True:=trivial
theorem PySem.W.Fast.tw7018244671996720869:True:=trivial
theorem PySem.W.Fast.tw70255323516467032:True:=trivial
theorem PySem.W.Fast.tw7146838808180084076:True:=trivial
theorem PySem.W.Fast.tw7149922504461625080:True:=trivial
theorem PySem.W.Fast.tw7315188642464062906:True:=trivial
theorem PySem.W.Fast.tw7428044332670205032:True:=trivial
theorem PySem.W.Fast.tw7442636598688612671:True:=trivial
theorem PySem.W.Fast.tw7700460451176231910:True:=trivial
theorem PySem.W.Fast.tw7776548485921505470:True:=trivial
theorem PySem.W.Fast.tw7782243742897457910:True:=trivial
theorem PySem.W.Fast.tw780060085254324175:True:=trivial
theorem PySem.W.Fast.tw8155758942849126411:True:=trivial
theorem PySem.W.Fast.tw834606389058507372:True:=trivial
theorem PySem.W.Fast.tw8514723429167341528:True:=trivial
theorem PySem.W.Fast.tw8574525435418328735:True:=trivial
theorem PySem.W.Fast.tw8665909785395922345:True:=trivial
theorem PySem.W.Fast.tw8683950670619444193:True:=trivial
theorem PySem.W.Fast.tw8772717807200790215:True:=trivial
theorem PySem.W.Fast.tw8792954639990824795:True:=trivial
theorem PySem.W.Fast.tw8807557993719091936:True:=trivial
theorem PySem.W.Fast.tw8950808765262681971:True:=trivial
theorem PySem.W.Fast.tw896122132278271399:True:=trivial
theorem PySem.W.Fast.tw9002619843949602079:True:=trivial
theorem PySem.W.Fast.tw9246551606895227619:True:=trivial
theorem PySem.W.Fast.tw9269510709430274888:True:=trivial
theorem PySem.W.Fast.tw9286717890544431057:True:=trivial
theorem PySem.W.Fast.tw9407695964533204522:True:=trivial
theorem PySem.W.Fast.tw9509988559129805923:True:=trivial
theorem PySem.W.Fast.tw9553502729080177848:True:=trivial
theorem PySem.W.Fast.tw9603871597871150208:True:=trivial
theorem PySem.W.Fast.tw9775286078528917978:True:=trivial
theorem PySem.W.Fast.tw9883275363328960660:True:=trivial
theorem PySem.W.Fast.tw991316815496814106:True:=trivial
theorem PySem.W.Fast.tw9919697831985912325:True:=trivial
open PySem PySem.W PyProof.Rows
set_option maxRecDepth 100000 in
set_option maxHeartbeats 0 in
theorem PySem.Challenge.cw_deskround_k51_files_that_can_be_healed_holds : PySem.Challenge.rw_deskround_k51_files_that_can_be_healed.Holds := by
 w_on;o_law;k_head;(case hw=>w_witness2)
 k_fill
 refine My.walk (l:=PySem.Challenge.rw_deskround_k51_files_that_can_be_healed) rfl rfl (fun w h Y=>PySem.W.kIn_of Y) ?F
 case F=>
  intro w mg fa h KX G hmg
  refine' My.AU KX G hmg ?q0 ?q1 ?q2 ?q3 ?q4 ?q5 ?q6 ?q7 ?q8 ?q9 ?q10 ?q11 ?q12 ?q13 ?q14 ?q15 ?q16 ?q17 ?q18 ?q19 ?q20 ?q21 ?q22 ?q23 ?q24 ?q25 ?q26 ?q27 ?q28 ?q29 ?q30 ?q31 ?q32 ?q33 ?q34 ?q35 ?q36 ?q37 ?q38 ?q39 ?q40 ?q41 ?q42 ?q43 ?q44 ?q45 ?q46 ?z0 ?z1 ?z2 ?z3 ?z4 ?z5 ?z6 ?z7 ?z8 ?z9 ?z10 ?z11 ?z12
  (case q0=>refine' My.aO ?a ?l ?c ?k;(case a=>k_is);(case l=>k_is);(case c=>k_is);(case k=>k_is))
  (case q1=>refine' My.aO ?a ?l ?c ?k;(case a=>k_is);(case l=>k_is);(case c=>k_is);(case k=>k_is))
  (case q2=>refine' My.aO ?a ?l ?c ?k;(case a=>k_is);(case l=>k_is);(case c=>k_is);(case k=>k_is))
  (case q3=>refine' My.aO ?a ?l ?c ?k;(case a=>k_is);(case l=>k_is);(case c=>k_is);(case k=>k_is))
  (case q4=>refine' My.aO ?a ?l ?c ?k;(case a=>k_is);(case l=>k_is);(case c=>k_is);(case k=>k_is))
  (case q5=>refine' My.aO ?a ?l ?c ?k;(case a=>k_is);(case l=>k_is);(case c=>k_is);(case k=>k_is))
  (case q6=>refine' My.aO ?a ?l ?c ?k;(case a=>k_is);(case l=>k_is);(case c=>k_is);(case k=>k_is))
  (case q7=>refine' My.aO ?a ?l ?c ?k;(case a=>k_is);(case l=>k_is);(case c=>k_is);(case k=>k_is))
  (case q8=>refine' My.aO ?a ?l ?c ?k;(case a=>k_is);(case l=>k_is);(case c=>k_is);(case k=>k_is))
  (case q9=>refine' My.aO ?a ?l ?c ?k;(case a=>k_is);(case l=>k_is);(case c=>k_is);(case k=>k_is))
  (case q10=>refine' My.aO ?a ?l ?c ?k;(case a=>k_is);(case l=>k_is);(case c=>k_is);(case k=>k_is))
  (case q11=>refine' My.aO ?a ?l ?c ?k;(case a=>k_is);(case l=>k_is);(case c=>k_is);(case k=>k_is))
  (case q12=>refine' My.aO ?a ?l ?c ?k;(case a=>k_is);(case l=>k_is);(case c=>k_is);(case k=>k_is))
  (case q13=>refine' My.aO ?a ?l ?c ?k;(case a=>k_is);(case l=>k_is);(case c=>k_is);(case k=>k_is))
  (case q14=>refine' My.aO ?a ?l ?c ?k;(case a=>k_is);(case l=>k_is);(case c=>k_is);(case k=>k_is))
  (case q15=>refine' My.aO ?a ?l ?c ?k;(case a=>k_is);(case l=>k_is);(case c=>k_is);(case k=>k_is))
  (case q16=>refine' My.aO ?a ?l ?c ?k;(case a=>k_is);(case l=>k_is);(case c=>k_is);(case k=>k_is))
  (case q17=>refine' My.aO ?a ?l ?c ?k;(case a=>k_is);(case l=>k_is);(case c=>k_is);(case k=>k_is))
  (case q18=>refine' My.aO ?a ?l ?c ?k;(case a=>k_is);(case l=>k_is);(case c=>k_is);(case k=>k_is))
  (case q19=>refine' My.aO ?a ?l ?c ?k;(case a=>k_is);(case l=>k_is);(case c=>k_is);(case k=>k_is))
  (case q20=>refine' My.aO ?a ?l ?c ?k;(case a=>k_is);(case l=>k_is);(case c=>k_is);(case k=>k_is))
  (case q21=>refine' My.aO ?a ?l ?c ?k;(case a=>k_is);(case l=>k_is);(case c=>k_is);(case k=>k_is))
  (case q22=>refine' My.aO ?a ?l ?c ?k;(case a=>k_is);(case l=>k_is);(case c=>k_is);(case k=>k_is))
  (case q23=>refine' My.aO ?a ?l ?c ?k;(case a=>k_is);(case l=>k_is);(case c=>k_is);(case k=>k_is))
  (case q24=>refine' My.aO ?a ?l ?c ?k;(case a=>k_is);(case l=>k_is);(case c=>k_is);(case k=>k_is))
  (case q25=>refine' My.aO ?a ?l ?c ?k;(case a=>k_is);(case l=>k_is);(case c=>k_is);(case k=>k_is))
  (case q26=>refine' My.aO ?a ?l ?c ?k;(case a=>k_is);(case l=>k_is);(case c=>k_is);(case k=>k_is))
  (case q27=>refine' My.aO ?a ?l ?c ?k;(case a=>k_is);(case l=>k_is);(case c=>k_is);(case k=>k_is))
  (case q28=>refine' My.aO ?a ?l ?c ?k;(case a=>k_is);(case l=>k_is);(case c=>k_is);(case k=>k_is))
  (case q29=>refine' My.aO ?a ?l ?c ?k;(case a=>k_is);(case l=>k_is);(case c=>k_is);(case k=>k_is))
  (case q30=>refine' My.aO ?a ?l ?c ?k;(case a=>k_is);(case l=>k_is);(case c=>k_is);(case k=>k_is))
  (case q31=>refine' My.aO ?a ?l ?c ?k;(case a=>k_is);(case l=>k_is);(case c=>k_is);(case k=>k_is))
  (case q32=>refine' My.aO ?a ?l ?c ?k;(case a=>k_is);(case l=>k_is);(case c=>k_is);(case k=>k_is))
  (case q33=>refine' My.aO ?a ?l ?c ?k;(case a=>k_is);(case l=>k_is);(case c=>k_is);(case k=>k_is))
  (case q34=>refine' My.aO ?a ?l ?c ?k;(case a=>k_is);(case l=>k_is);(case c=>k_is);(case k=>k_is))
  (case q35=>refine' My.aO ?a ?l ?c ?k;(case a=>k_is);(case l=>k_is);(case c=>k_is);(case k=>k_is))
  (case q36=>refine' My.aO ?a ?l ?c ?k;(case a=>k_is);(case l=>k_is);(case c=>k_is);(case k=>k_is))
  (case q37=>refine' My.aO ?a ?l ?c ?k;(case a=>k_is);(case l=>k_is);(case c=>k_is);(case k=>k_is))
  (case q38=>refine' My.aO ?a ?l ?c ?k;(case a=>k_is);(case l=>k_is);(case c=>k_is);(case k=>k_is))
  (case q39=>refine' My.aO ?a ?l ?c ?k;(case a=>k_is);(case l=>k_is);(case c=>k_is);(case k=>k_is))
  (case q40=>refine' My.aO ?a ?l ?c ?k;(case a=>k_is);(case l=>k_is);(case c=>k_is);(case k=>k_is))
  (case q41=>refine' My.aO ?a ?l ?c ?k;(case a=>k_is);(case l=>k_is);(case c=>k_is);(case k=>k_is))
  (case q42=>refine' My.aO ?a ?l ?c ?k;(case a=>k_is);(case l=>k_is);(case c=>k_is);(case k=>k_is))
  (case q43=>refine' My.aO ?a ?l ?c ?k;(case a=>k_is);(case l=>k_is);(case c=>k_is);(case k=>k_is))
  (case q44=>refine' My.aO ?a ?l ?c ?k;(case a=>k_is);(case l=>k_is);(case c=>k_is);(case k=>k_is))
  (case q45=>refine' My.aO ?a ?l ?c ?k;(case a=>k_is);(case l=>k_is);(case c=>k_is);(case k=>k_is))
  (case q46=>refine' My.aO ?a ?l ?c ?k;(case a=>k_is);(case l=>k_is);(case c=>k_is);(case k=>k_is))
  (case z0=>k_is);(case z1=>k_is);(case z2=>k_is);(case z3=>k_is);(case z4=>k_is);(case z5=>k_is);(case z6=>k_is);(case z7=>k_is);(case z8=>k_is);(case z9=>k_is);(case z10=>k_is);(case z11=>k_is);(case z12=>k_is)
end
