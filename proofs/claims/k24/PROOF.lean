import PyProof.Rows.All
import Wide.All
import OpenK.AllK
import Wide.FinOn
import Lean
import PyProof.EqAt
import PyProof.EqKinds
import PyProof.TupleCall
import PyProof.NeKinds
import PyProof.DictWalks
import PyProof.DictItems
import PyProof.CollectWalk
import KE.KDictList
import PyProof.AutoSeq1
import PyProof.Rows.Range3
import KE.KUnpack
import PyProof.MeetsSeq2
import PyProof.ZipIter
import KE.KRevSl
import PyProof.MeetsSeq
import PyProof.EnumMake
import PyProof.EnumFor
import PyProof.EnumStmt
import PyProof.MinMaxWalk
import PyProof.WalkInts
import PyProof.SumAny
import KE.KRevIter
import PyProof.Rows.FactsT2
import PyProof.IsiH_list
import PyProof.AttrMiss
import KE.KDictOf
import PyProof.ListRange
import KE.KDictLaws
import KE.KSortTup
import KE.KItemsList
import PyProof.ExcArgs
import KE.KSortKey
import KE.KMinKey
import PyProof.StrBlock
import PySem.Challenge.RW_deskround_k24_papers_of_anything
set_option bootstrap.genMatcherCode false
set_option genSizeOf false
noncomputable section
open List renaming getElem?_eq_getElem->xK,length_map->xM,getD_eq_getElem?_getD->xN,range->xO,getElem?_eq_some_iff->xP,getElem?_map->xR,mem_of_getElem?->xT,size_toArray->xU,length_append->xV,mem_singleton->xX,mem_cons->xY,mem_iff_getElem->xZ,all_eq_true->x6,mem_cons_of_mem->x8,length_singleton->x9,mem_cons_self->yc,mem_append->ye,mem_range->yf,getElem_mem->yh,length_eq_zero_iff->yj,mem_append_right->yk,lookup_cons->ym,mem_filter->yn,map_append->yo,length_range->yp,take_of_length_le->yt,length_take->yu,length_filter_le->yy,getElem?_eq_none->yz,map_map->yA,length_cons->yC,not_mem_nil->yD,filter_eq_self->yE,map_cons->yF,filterMap_cons->yK,getElem?_append_left->yL,pairwise_iff_getElem->yM,ext_getElem->yO,filter_append->yP,mem_map->yQ,length_drop->yS,getElem?_append_right->yU,take_add_one->yY,findIdx_lt_length_of_exists->y0,getElem?_range->y3,map_congr_left->y4,take_length->y6,range_succ->y9,mem_append_left->za,any_cons->ze,nodup_cons->zg,pairwise_singleton->zi,getElem_take->zj,ext_getElem?->zk,getElem?_set_self->zl,drop_of_length_le->zm,take_append_drop->zo,getElem_map->zq,getElem?_set_ne->zr,mem_of_mem_take->zt,append_nil->zu,find?_cons->zv,take_zero->zy,nodup_nil->zz,mem_filterMap->zA,getElem_range->zB,length_eraseIdx_of_lt->zC,map_take->zE,of_mem_zip->zH,foldl_cons->zI,filter->zJ
open Nat renaming le_refl->xQ,ne_of_lt->x5,lt_of_lt_of_le->yb,le_trans->yd,zero_le->yx,le_of_lt->yB,le_of_not_lt->yH,sub_succ_lt_self->yI,lt_succ_of_lt->yJ,lt_succ_self->yT,le_antisymm->yW,lt_irrefl->y2,min_eq_left->y8,ne_of_gt->zc,min_eq_right->zd,lt_of_le_of_lt->zh,le_add_right->zp,add_le_add_left->zw,mod_lt->zx,sub_self->zF,zero_add->zG,not_lt->zK
open Array renaming length_toList->xS,getElem?_eq_getElem->yq,getElem?_toList->yV,getElem_toList->yZ,toList_push->zD,getD->zL
open Bool renaming false_ne_true->xW,false_and->yg,false_eq_true->yr,and_eq_true->yw,not_eq_true->yN,eq_iff_iff->zf
open Option renaming map_eq_some_iff->ya,isSome_iff_exists->yR
open Int renaming toNat_natCast->yi,emod_lt_of_pos->yG,emod_nonneg->yX
set_option Elab.async false
set_option linter.all false
set_option maxRecDepth 100000
namespace L2
open PySem PySem.Spec PyProof.Rows
abbrev cj:=Sum Int Str
def iU:cj->Value->Bool
 | .inl k,v=>Value.isInt k v
 | .inr x,v=>Value.isStrOf x v
def wq (w:World):cj->Int
 | .inl k=>hashInt k
 | .inr x=>hashStr w x
theorem aZ:∀{k:cj} {v:Value},iU k v=true->(∃i t,k=Sum.inl i/\v=Value.int i t)\/(∃x t,k=Sum.inr x/\v=Value.str x t)
 | .inl i,v,h=>by
  obtain⟨t,e⟩:=Value.isInt_shape (k:=i) (v:=v) h
  exact .inl ⟨i,t,rfl,e⟩
 | .inr x,v,h=>by
  obtain⟨t,e⟩:=Value.isStrOf_shape (x:=x) (v:=v) h
  exact .inr ⟨x,t,rfl,e⟩
theorem nv (i:Int) (t:Tok):iU (.inl i) (.int i t)=true:=by simp[iU,Value.isInt]
theorem nA (x:Str) (t:Tok):iU (.inr x) (.str x t)=true:=by simp[iU,Value.isStrOf]
theorem sY (a b:Int):decide ((Sum.inl a:cj)=Sum.inl b)=(a==b):=by
 by_cases e:a=b
 ·subst e;simp
 ·have h:¬(Sum.inl a:cj)=Sum.inl b:=fun q=>e (Sum.inl.inj q)
  rw[decide_eq_false h]
  exact(beq_eq_false_iff_ne.mpr e).symm
theorem sZ (a b:Str):decide ((Sum.inr a:cj)=Sum.inr b)=decide (a=b):=by
 by_cases e:a=b
 ·subst e;simp
 ·have h:¬(Sum.inr a:cj)=Sum.inr b:=fun q=>e (Sum.inr.inj q)
  rw[decide_eq_false h,decide_eq_false e]
theorem tj (a:Int) (b:Str):decide ((Sum.inl a:cj)=Sum.inr b)=false:=decide_eq_false (fun q=>nomatch q)
theorem tq (a:Str) (b:Int):decide ((Sum.inr a:cj)=Sum.inl b)=false:=decide_eq_false (fun q=>nomatch q)
def bA (prog:Program) (w:World):PySem.KeyKind prog w cj where
 is:=iU
 hash:=wq w
 inj:=fun v a b ha hb=>by
  rcases aZ ha with⟨i,t,rfl,rfl⟩ | ⟨x,t,rfl,rfl⟩
  ·rcases aZ hb with⟨j,u,rfl,e⟩ | ⟨y,u,rfl,e⟩
   ·injection e with e1 _;rw[e1]
   ·exact nomatch e
  ·rcases aZ hb with⟨j,u,rfl,e⟩ | ⟨y,u,rfl,e⟩
   ·exact nomatch e
   ·injection e with e1 _;rw[e1]
 byValue:=fun k v h=>by
  rcases aZ h with⟨i,t,rfl,rfl⟩ | ⟨x,t,rfl,rfl⟩<;>rfl
 pyHash:=fun hv h=>by
  rcases aZ hv with⟨i,t,rfl,rfl⟩ | ⟨x,t,rfl,rfl⟩
  ·exact wpAny_pyHash_int h
  ·exact wpAny_pyHash_str h
 eqBool:=fun hu hv h=>by
  rcases aZ hu with⟨i,t,rfl,rfl⟩ | ⟨x,t,rfl,rfl⟩
  ·rcases aZ hv with⟨j,u,rfl,rfl⟩ | ⟨y,u,rfl,rfl⟩
   ·rw [sY]at h;exact wpAny_eqBool_int h
   ·rw [tj]at h;exact SeqAt.EqAt.int_str i t y u _ _ _ _ h
  ·rcases aZ hv with⟨j,u,rfl,rfl⟩ | ⟨y,u,rfl,rfl⟩
   ·rw [tq]at h;exact SeqAt.EqAt.str_int x t j u _ _ _ _ h
   ·rw [sZ]at h;exact wpAny_eqBool_str h
 «strs»:=fun k x t v h=>by
  rcases aZ h with⟨i,u,rfl,e⟩ | ⟨y,u,rfl,e⟩
  ·exact nomatch e
  ·injection e with e1 _
   subst e1
   cases v<;>rfl
theorem kd (prog:Program) (w:World) (i:Int) (t:Tok):(bA prog w).is (.inl i) (.int i t)=true:=nv i t
theorem ke (prog:Program) (w:World) (x:Str) (t:Tok):(bA prog w).is (.inr x) (.str x t)=true:=nA x t
inductive V where
 | non | bl (b:Bool) | int (i:Int) | str (x:Str) | byt (b:Array UInt8) | flt (b:UInt64) | ref (a:Addr) | ty (n:String)
 deriving DecidableEq
def RelV:V->Value->Prop
 | .non,u=>u=Value.none
 | .bl b,u=>u=Value.bool b
 | .int i,u=>∃t,u=Value.int i t
 | .str x,u=>∃t,u=Value.str x t
 | .byt b,u=>∃t,u=Value.bytes b t
 | .flt b,u=>∃t,u=Value.float b t
 | .ref a,u=>u=Value.ref a
 | .ty n,u=>u=Value.type n
abbrev Vals:List V->List Value->Prop:=Paired RelV
theorem Vals.length {xs:List V} {us:List Value} (r:Vals xs us):xs.length=us.length:=Paired.length r
theorem Vals.get:∀{xs:List V} {us:List Value} {i:Nat} {x:V},Vals xs us->xs[i]?=some x->∃u,us[i]?=some u/\RelV x u:=by
 intro xs us i x h
 induction h generalizing i with
 | nil=>intro e;simp at e
 | cons r t ih=>
  intro e
  cases i with
  | zero=>cases e;exact⟨_,rfl,r⟩
  | succ i=>exact ih e
theorem Vals.set {x:V} {u:Value} (r:RelV x u):∀{xs:List V} {us:List Value} (i:Nat),Vals xs us->Vals (xs.set i x) (us.set i u):=by
 intro xs us i h
 induction h generalizing i with
 | nil=>exact .nil
 | cons q t ih=>
  cases i with
  | zero=>exact .cons r t
  | succ i=>exact .cons q (ih i)
theorem Vals.append:∀{xs ys:List V} {us ws:List Value},Vals xs us->Vals ys ws->Vals (xs++ys) (us++ws):=by
 intro xs ys us ws h s
 induction h with
 | nil=>exact s
 | cons r t ih=>exact .cons r ih
theorem Vals.take:∀{xs:List V} {us:List Value} (n:Nat),Vals xs us->Vals (xs.take n) (us.take n):=by
 intro xs us n h
 induction h generalizing n with
 | nil=>cases n<;>exact .nil
 | cons r t ih=>
  cases n with
  | zero=>exact .nil
  | succ n=>exact .cons r (ih n)
theorem Vals.drop:∀{xs:List V} {us:List Value} (n:Nat),Vals xs us->Vals (xs.drop n) (us.drop n):=by
 intro xs us n h
 induction h generalizing n with
 | nil=>cases n<;>exact .nil
 | cons r t ih=>
  cases n with
  | zero=>exact .cons r t
  | succ n=>exact ih n
def RelO:Option V->Option Value->Prop
 | some v,some u=>RelV v u
 | none,none=>True
 | _,_=>False
def KV {κ:Type}:List (κ×V)->List (κ×Value)->Prop:=Paired fun(p:κ×V) (q:κ×Value)=>p.1=q.1/\RelV p.2 q.2
def kV:cj->V
 | .inl i=> .int i
 | .inr x=> .str x
inductive HO where
 | lst (xs:List V)
 | tup (xs:List V)
 | dK (kvs:List (cj×V)) | dT (kvs:List (List cj×V))
 | set (S:Int->Bool) (n:Nat)
 | ins (C dx:Addr) (fs:List (Str×V))
 | own (x:Addr)
 | xd (fs:List (Str×V))
 | met (f x:Addr)
 | rng (lo hi:Int)
 | frz (o:Obj) (u:HO)
 | tbl (ps:Array Value)
 | ext (φ:Heap->Prop)
abbrev Hp:=Addr->Option HO
def aI (H:Hp) (a:Addr) (o:HO):Hp:=fun b=>if b=a then some o else H b
theorem ae {H:Hp} {a:Addr} {o:HO}:aI H a o a=some o:=by unfold aI;rw[if_pos rfl]
theorem ay {H:Hp} {a b:Addr} {o:HO} (h:b≠a):aI H a o b=H b:=by unfold aI;rw[if_neg h]
theorem uU {H:Hp} {a b:Addr} {o u:HO} (h:H a=some o) (h':H b=some u) (d:o≠u):a≠b:=by
 intro e;subst e;rw[h]at h';exact d (Option.some.inj h')
theorem aD {H:Hp} {a b:Addr} {o:HO} (h:H a=some o) (h':H b=none):a≠b:=by
 intro e;subst e;rw[h]at h';cases h'
section
variable (P:Program) (w:World)
def ObjOk (H:Hp) (h:Heap) (a:Addr):HO->Prop
 | .lst xs=>xs.length<=sizeLine/\∃(its:List Value) (n:Nat),Vals xs its/\h.get? a=some {cls:= .type "list",data:= .seq its.toArray n}
 | .tup xs=>xs.length<=sizeLine/\∃its:List Value,Vals xs its/\IsTup h a its.toArray
 | .dK kvs=>kvs.length<=sizeLine/\(a==sysModules)=false/\∃vs,KV kvs vs/\h.DictOf (bA P w) a vs
 | .dT kvs=>kvs.length<=sizeLine/\(a==sysModules)=false/\∃xs:List (List cj×Addr×Value),
  Paired (fun(p:List cj×V) (q:List cj×Addr×Value)=>p.1=q.1/\H q.2.1=some (.tup (p.1.map kV))/\RelV p.2 q.2.2) kvs xs/\
  ∃o es ep,h.get? a=some o/\o.ExactDict/\o.data= .dict es ep/\es.toList=xs.map (entryOfKey (tupleKind (bA P w)))/\(xs.map (·.1)).Nodup
 | .set S n=>h.SetOf (intKind P w) a S n
 | .ins C dx fs=>H dx=some (.own a)/\fs.length<=1000/\dx≠a/\h.get? a=some (PySem.W.instObj C dx)/\
  ∃mA,h.Ns1 dx mA/\(∀f,RelO (fs.lookup f) (mA f))/\PySem.Within mA (fs.map (·.1))
 | .own _=>∃o,h.get? a=some o
 | .xd fs=>∃mA,h.Ns1 a mA/\∀f,RelO (fs.lookup f) (mA f)
 | .rng lo hi=>∃t u v,h.get? a=some {cls:= .type "range",data:= .fields #[.int lo t,.int hi u,.int 1 v]}
 | .frz o u=>h.get? a=some o/\ObjOk H h a u
 | .tbl ps=>h.get? a=some {cls:= .none,data:= .fields ps}
 | .met f x=>h.get? a=some (PySem.W.methodObj (.ref f) (.ref x))
 | .ext φ=>φ h/\(∃o,h.get? a=some o)/\∀h1 h2:Heap,φ h1->(∀o,h1.get? a=some o->h2.get? a=some o)->φ h2
def HOk (H:Hp) (h:Heap):Prop:=∀a o,H a=some o->ObjOk P w H h a o
end
section
variable {P:Program} {w:World} {H H':Hp} {h h':Heap} {a:Addr} {o:HO}
theorem ObjOk.lt (x:ObjOk P w H h a o):a<h.objs.size:=by
 cases o with
 | lst xs=>obtain⟨_,_,_,_,e⟩:=x;exact Heap.lt_size e
 | tup xs=>obtain⟨_,_,_,p⟩:=x;exact p.lt
 | dK kvs=>obtain⟨_,_,_,_,o,_,_,e,_⟩:=x;exact Heap.lt_size e
 | dT kvs=>obtain⟨_,_,_,_,o,_,_,e,_⟩:=x;exact Heap.lt_size e
 | set S n=>obtain⟨o,_,_,_,e,_⟩:=x;exact Heap.lt_size e
 | ins C dx fs=>obtain⟨_,_,_,e,_⟩:=x;exact Heap.lt_size e
 | own y=>obtain⟨_,e⟩:=x;exact Heap.lt_size e
 | xd fs=>obtain⟨_,⟨_,_,_,e,_⟩,_⟩:=x;exact Heap.lt_size e
 | rng lo hi=>obtain⟨_,_,_,e⟩:=x;exact Heap.lt_size e
 | frz ob u=>obtain⟨e,_⟩:=x;exact Heap.lt_size e
 | tbl ps=>exact Heap.lt_size (show h.get? a=some _ from x)
 | met f y=>exact Heap.lt_size (show h.get? a=some _ from x)
 | ext φ=>obtain⟨_,⟨_,e⟩,_⟩:=x;exact Heap.lt_size e
theorem Paired.mapP {α β:Type} {F G:α->β->Prop}:∀{l₁:List α} {l₂:List β},Paired F l₁ l₂->(∀a b,F a b->G a b)->Paired G l₁ l₂:=by
 intro l₁ l₂ h f
 induction h with
 | nil=>exact .nil
 | cons r t ih=>exact .cons (f _ _ r) ih
theorem ObjOk.stay (x:ObjOk P w H h a o) (k:∀b u,(b=a\/H b=some (.own a))->h.get? b=some u->h'.get? b=some u)
  (ho:∀b,H b=some (.own a)->H' b=some (.own a)) (ht:∀b xs,H b=some (.tup xs)->H' b=some (.tup xs)):ObjOk P w H' h' a o:=by
 induction o with
 | lst xs=>obtain⟨z,its,n,r,e⟩:=x;exact⟨z,its,n,r,k _ _ (.inl rfl) e⟩
 | tup xs=>obtain⟨z,its,r,ob,e,c⟩:=x;exact⟨z,its,r,ob,k _ _ (.inl rfl) e,c⟩
 | dK kvs=>obtain⟨z,y,vs,r,ob,es,ep,e,c⟩:=x;exact⟨z,y,vs,r,ob,es,ep,k _ _ (.inl rfl) e,c⟩
 | dT kvs=>
  obtain⟨z,y,xs,r,ob,es,ep,e,c⟩:=x
  exact⟨z,y,xs,Paired.mapP r fun p q z=>⟨z.1,ht _ _ z.2.1,z.2.2⟩,ob,es,ep,k _ _ (.inl rfl) e,c⟩
 | set S n=>obtain⟨ob,es,ep,t,e,c⟩:=x;exact⟨ob,es,ep,t,k _ _ (.inl rfl) e,c⟩
 | ins C dx fs=>
  obtain⟨d,z,ne,e,mA,⟨od,es,ep,e2,c⟩,r⟩:=x
  exact⟨ho _ d,z,ne,k _ _ (.inl rfl) e,mA,⟨od,es,ep,k _ _ (.inr d) e2,c⟩,r⟩
 | own y=>obtain⟨ob,e⟩:=x;exact⟨ob,k _ _ (.inl rfl) e⟩
 | xd fs=>obtain⟨mA,⟨od,es,ep,e,c⟩,r⟩:=x;exact⟨mA,⟨od,es,ep,k _ _ (.inl rfl) e,c⟩,r⟩
 | rng lo hi=>obtain⟨t,u,v,e⟩:=x;exact⟨t,u,v,k _ _ (.inl rfl) e⟩
 | frz ob u ih=>obtain⟨e,q⟩:=x;exact⟨k _ _ (.inl rfl) e,ih q⟩
 | tbl ps=>
  have e:h.get? a=some {cls:= .none,data:= .fields ps}:=x
  show h'.get? a=some {cls:= .none,data:= .fields ps}
  exact k a _ (.inl rfl) e
 | met f y=>
  have e:h.get? a=some (PySem.W.methodObj (.ref f) (.ref y)):=x
  show h'.get? a=some (PySem.W.methodObj (.ref f) (.ref y))
  exact k a _ (.inl rfl) e
 | ext φ=>obtain⟨p,⟨o,e⟩,st⟩:=x;exact⟨st _ _ p fun o q=>k _ _ (.inl rfl) q,⟨o,k _ _ (.inl rfl) e⟩,st⟩
theorem HOk.lt (x:HOk P w H h) (e:H a=some o):a<h.objs.size:=(x a o e).lt
theorem HOk.fresh (x:HOk P w H h) (e:h.objs.size<=a):H a=none:=by
 cases q:H a with
 | none=>rfl
 | some u=>exact absurd (yb (x.lt q) e) (y2 _)
theorem HOk.kept (x:HOk P w H h) (k:∀b u,h.get? b=some u->h'.get? b=some u):HOk P w H h':=fun a o e=>
 (x a o e).stay (fun b u _ q=>k b u q) (fun _ q=>q) fun _ _ q=>q
theorem HOk.laid (x:HOk P w H h) (k:∀b u,h.get? b=some u->h'.get? b=some u) (hp:h.objs.size<=a) (new:ObjOk P w (aI H a o) h' a o):HOk P w (aI H a o) h':=fun b u e=>by
 have hn:=x.fresh hp
 by_cases hb:b=a
 ·subst hb;rw[ae]at e;cases e;exact new
 ·rw [ay hb]at e
  exact(x b u e).stay (fun c v _ q=>k c v q) (fun c q=>by rw[ay (aD q hn)];exact q) fun c xs q=>by rw[ay (aD q hn)];exact q
end
def Rd (H:Hp) (a:Addr) (u:HO):Prop:=H a=some u\/∃o,H a=some (.frz o u)
theorem Rd.ok {P:Program} {w:World} {H:Hp} {h:Heap} {a:Addr} {u:HO} (r:Rd H a u) (x:HOk P w H h):ObjOk P w H h a u:=by
 rcases r with r | ⟨o,r⟩
 ·exact x a u r
 ·obtain⟨_,q⟩:=x a _ r
  exact q
def uV:Option HO->Prop
 | some (.lst _)=>True
 | some (.dK _)=>True
 | some (.dT _)=>True
 | some (.set _ _)=>True
 | some (.ins _ _ _)=>True
 | some (.ext _)=>True
 | _=>False
section
variable {P:Program} {w:World} {H:Hp} {h h':Heap} {x e:Addr} {o':HO}
theorem HOk.write (ok:HOk P w H h) (mu:uV (H x)) (he:e=x\/H e=some (.own x)) (k:∀b u,b≠e->h.get? b=some u->h'.get? b=some u) (heo:∃u,h'.get? e=some u)
  (new:ObjOk P w (aI H x o') h' x o'):HOk P w (aI H x o') h':=fun b u q=>by
 have nown:∀c y,H c=some (.own y)->c≠x:=fun c y r z=>by subst z;rw[r]at mu;exact mu
 have ntup:∀c xs,H c=some (.tup xs)->c≠x:=fun c xs r z=>by subst z;rw[r]at mu;exact mu
 by_cases hb:b=x
 ·subst hb;rw[ae]at q;cases q;exact new
 ·rw [ay hb]at q
  by_cases hbe:b=e
  ·have q':H b=some (.own x):=by
    rcases he with z | z
    ·exact absurd (hbe.trans z) hb
    ·rw [hbe];exact z
   rw[q]at q';cases q'
   obtain⟨v,hv⟩:=heo
   exact⟨v,by rw[hbe];exact hv⟩
  ·refine(ok b u q).stay (fun c v hc r=>k c v ?_ r) (fun c r=>by rw[ay (nown c b r)];exact r) fun c xs r=>by rw[ay (ntup c xs r)];exact r
   rcases hc with rfl | hc
   ·exact hbe
   ·rintro rfl
    rcases he with z | z
    ·exact nown c b hc z
    ·rw [hc]at z;cases z;exact hb rfl
end
structure Un (fs ex:List Addr) (H H':Hp) (h h':Heap):Prop where
 keep:∀b o,h.get? b=some o->H b=none->b∉fs->b∉ex->h'.get? b=some o
 slot:∀b o,h.get? b=some o->H b=none->b∈fs->b∉ex->∃sl,h'.get? b=some {o with slots:=sl}
 free:∀b o,h.get? b=some o->H b=none->b∉ex->H' b=none
 there:∀b o,h.get? b=some o->b∉ex->∃o',h'.get? b=some o'
 tups:∀b xs,H b=some (.tup xs)->H' b=some (.tup xs)
 frzs:∀b o u,H b=some (.frz o u)->H' b=some (.frz o u)
 tbls:∀b ps,H b=some (.tbl ps)->∃more,H' b=some (.tbl (ps++more))
section
variable {fs fs' ex ex':List Addr} {H H1 H2:Hp} {h h1 h2 h':Heap} {a x e:Addr} {o:HO}
theorem Un.any (u:Un fs ex H H1 h h1) {b:Addr} {ob:Obj} (q:h.get? b=some ob) (n:H b=none) (hx:b∉ex):∃sl,h1.get? b=some {ob with slots:=sl}:=by
 by_cases hb:b∈fs
 ·exact u.slot b ob q n hb hx
 ·exact⟨ob.slots,u.keep b ob q n hb hx⟩
theorem Un.trans (a:Un fs ex H H1 h h1) (b:Un fs ex H1 H2 h1 h2):Un fs ex H H2 h h2 where
 keep:=fun c ob q n hc hx=>b.keep c ob (a.keep c ob q n hc hx) (a.free c ob q n hx) hc hx
 slot:=fun c ob q n hc hx=>by
  obtain⟨sl,e1⟩:=a.slot c ob q n hc hx
  obtain⟨sl',e2⟩:=b.slot c _ e1 (a.free c ob q n hx) hc hx
  exact⟨sl',e2⟩
 free:=fun c ob q n hx=>by
  obtain⟨o',e1⟩:=a.there c ob q hx
  exact b.free c o' e1 (a.free c ob q n hx) hx
 there:=fun c ob q hx=>by
  obtain⟨o',e1⟩:=a.there c ob q hx
  exact b.there c o' e1 hx
 tups:=fun c xs q=>b.tups c xs (a.tups c xs q)
 frzs:=fun c ob xs q=>b.frzs c ob xs (a.frzs c ob xs q)
 tbls:=fun c ps q=>by
  obtain⟨m1,e1⟩:=a.tbls c ps q
  obtain⟨m2,e2⟩:=b.tbls c _ e1
  exact⟨m1++m2,by rw[e2,Array.append_assoc]⟩
theorem Un.kept (k:∀b u,h.get? b=some u->h'.get? b=some u):Un fs ex H H h h':=
 ⟨fun b ob q _ _ _=>k b ob q,fun b ob q _ _ _=>⟨ob.slots,k b ob q⟩,fun _ _ _ n _=>n,fun b ob q _=>⟨ob,k b ob q⟩,fun _ _ q=>q,fun _ _ _ q=>q,fun _ ps q=>⟨#[],by rw[q];simp⟩⟩
theorem Un.refl:Un fs ex H H h h:=Un.kept fun _ _ q=>q
theorem Un.laid (k:∀b u,h.get? b=some u->h'.get? b=some u) (hp:h.objs.size<=a) (hn:H a=none):Un fs ex H (aI H a o) h h' where
 keep:=fun b u q _ _ _=>k b u q
 slot:=fun b u q _ _ _=>⟨u.slots,k b u q⟩
 free:=fun b u q n _=>by rw[ay (x5 (yb (Heap.lt_size q) hp))];exact n
 there:=fun b u q _=>⟨u,k b u q⟩
 tups:=fun b xs q=>by rw[ay (aD q hn)];exact q
 frzs:=fun b u xs q=>by rw[ay (aD q hn)];exact q
 tbls:=fun b ps q=>⟨#[],by rw[ay (aD q hn),q];simp⟩
theorem Un.write (mu:uV (H x)) (he:e=x\/H e=some (.own x)) (k:∀b u,b≠e->h.get? b=some u->h'.get? b=some u) (heo:∃u,h'.get? e=some u):Un fs ex H (aI H x o) h h':=by
 have hx:∀b,H b=none->b≠x:=fun b n z=>by subst z;rw[n]at mu;exact mu
 have hb:∀b,H b=none->b≠e:=fun b n z=>by
  subst z
  rcases he with r | r
  ·exact hx b n r
  ·rw [n]at r;cases r
 have hm:∀b u,H b=some u->¬uV (some u)->b≠x:=fun b u q nm z=>by subst z;rw[q]at mu;exact nm mu
 refine⟨fun b u q n _ _=>k b u (hb b n) q,fun b u q n _ _=>⟨u.slots,k b u (hb b n) q⟩,fun b u q n _=>by rw[ay (hx b n)];exact n,fun b u q _=>?_,
  fun b xs q=>by rw[ay (hm b _ q fun z=>z)];exact q,fun b u xs q=>by rw[ay (hm b _ q fun z=>z)];exact q,fun b ps q=>⟨#[],by rw[ay (hm b _ q fun z=>z),q];simp⟩⟩
 by_cases hbe:b=e
 ·subst hbe;exact heo
 ·exact⟨u,k b u hbe q⟩
end
def vY (h:Heap) (H:Hp):List Addr:=(xO h.objs.size).filter fun a=>(H a).isSome
def jv (h:Heap) (H:Hp):Heap:=PySem.W.hideAll h (vY h H)
theorem nB (h:Heap) (H:Hp):(jv h H).objs.size=h.objs.size:=PySem.W.hideAll_size _ _
theorem oU {h:Heap} {H:Hp} {b:Addr} {o:Obj} (e:h.get? b=some o) (n:H b=none):(jv h H).get? b=some o:=
 PySem.W.hideAll_get _ e fun hm=>by
  have q:(H b).isSome=true:=(yn.mp hm).2
  rw[n]at q;simp at q
theorem rb {h:Heap} {H:Hp} {b:Addr} {o:Obj} (e:(jv h H).get? b=some o):h.get? b=some o/\H b=none:=by
 have e':h.get? b=some o:=PySem.W.of_hideAll (vY h H) e
 refine⟨e',?_⟩
 cases q:H b with
 | none=>rfl
 | some x=>
  have hm:b∈vY h H:=yn.mpr ⟨yf.mpr (Heap.lt_size e'),by simp[q]⟩
  have z:(jv h H).get? b=none:=PySem.W.hideAll_none (vY h H) hm
  rw[z]at e;cases e
def rd (g h:Heap) (L:Addr):List (Addr×Obj):=(xO h.objs.size).filterMap fun a=>if a=L\/(g.get? a).isSome=true then none else(h.get? a).map fun o=>(a,o)
def ck (g h:Heap) (L d:Addr):List (Addr×Obj):=(rd g h L).filter fun p=>decide (p.1≠d)
structure Mod (K:PySem.W.Frag) (mg:Str->Option Value) (base:Heap):Prop where
 kin:K.In base
 glob:base.Ns mainGlobals mg
 blt:∃mb,base.Ns builtinsNs mb/\∀x:Str,x≠"__name__"->mb x=bootBuiltins x
 nolimit:base.NoLimit
structure Cx where
 prog:Program
 w:World
 K:PySem.W.Frag
 mg:Str->Option Value
 base:Heap
 A:Around
 N:List Str
 s₀:Shared
 H₀:Hp
 env:Env
 outer:List Env
 stack:List Env
 ex:List Addr
 fn:Str->Bool
 calm:Bool
 pn:List (Addr×Obj)
 xe:Value->Shared->Prop
def fh (l:List Env):List Addr:=l.filterMap (·.frame)
abbrev Cx.fs (X:Cx):List Addr:=fh X.outer
def vZ (sc:Scope) (x:Str):Prop:=sc.names.lookup x=some .local\/sc.names.lookup x=some .cell\/sc.names.lookup x=some .free
def uW (sc:Scope) (x:Str):Prop:=sc.names.lookup x=some .local\/sc.names.lookup x=some .cell
def wu (env:Env) (h:Heap) (m:Str->Option Value) (x:Str) (u:Value):Prop:=
 (env.kindOf x=some .local/\m x=some u)\/((env.kindOf x=some .cell\/env.kindOf x=some .free)/\∃c,env.cells.lookup x=some c/\h.IsCell c (some u))
structure Cx.Ok (X:Cx):Prop where
 mod:Mod X.K X.mg X.base
 kind:X.env.scope.kind= .function
 glob:X.env.globals=mainGlobals
 blt:X.env.builtins=builtinsNs
 above:X.s₀.heap.objs.size<=X.env.locals
 inj:∀x y c,X.env.cells.lookup x=some c->X.env.cells.lookup y=some c->x=y
 has:∀x,(X.env.kindOf x=some .cell\/X.env.kindOf x=some .free)->∃c,X.env.cells.lookup x=some c
 cab:∀x c,X.fn x=true->X.env.cells.lookup x=some c->X.s₀.heap.objs.size<=c
 hd:X.calm=true->X.A.handled=none
 frames:X.A.frames=some X.stack
 stk:X.stack=X.outer\/(X.stack=X.env :: X.outer/\X.env.frame=some X.env.locals)
 exf:∀b∈X.ex,b≠X.env.locals/\∀x c,X.env.cells.lookup x=some c->c≠b
 bs:∀b o,X.base.get? b=some o->X.s₀.heap.get? b=some o/\X.H₀ b=none
 bsz:X.base.objs.size<=X.s₀.heap.objs.size
 noex:∀b o,X.base.get? b=some o->b∉X.ex
 exfs:∀b∈X.ex,b∉X.fs
 funs:X.s₀.heap.FunFrames X.base X.outer
 frf:∀b∈X.fs,X.H₀ b=none
structure Inv (X:Cx) (pins:List (Addr×Obj)) (σ:List (Option V)) (H:Hp) (s:Shared):Prop where
 ok:X.Ok
 os:s.os=X.s₀.os
 bare:AllBare s.gens
 base:Un X.fs X.ex X.H₀ H X.s₀.heap s.heap
 loc:∃m,s.heap.Ns X.env.locals m/\∀(i:Nat) (x:Str) (v:V),X.N[i]?=some x->σ[i]?=some (some v)->vZ X.env.scope x->∃u,RelV v u/\wu X.env s.heap m x u
 cell:∀x c,X.env.cells.lookup x=some c->∃v,s.heap.IsCell c v
 free:H X.env.locals=none
 freeC:∀x c,X.env.cells.lookup x=some c->H c=none
 pin:∀p∈X.pn++pins,s.heap.get? p.1=some p.2/\H p.1=none/\p.1≠X.env.locals/\p.1∉X.fs/\∀v,p.2.data≠ .cell v
 hok:HOk X.prog X.w H s.heap
 len:σ.length=X.N.length
section
variable {X:Cx} {pins:List (Addr×Obj)} {σ:List (Option V)} {H H':Hp} {s:Shared} {h':Heap}
theorem Cx.Ok.nofr (ok:X.Ok) {b:Addr} {o:Obj} (e:X.base.get? b=some o):b∉X.fs:=fun hb=>by
 have:=(ok.funs.mem hb).1
 rw[e]at this;cases this
theorem Inv.bs (I:Inv X pins σ H s):∀b o,X.base.get? b=some o->s.heap.get? b=some o/\H b=none:=fun b o e=>
 ⟨I.base.keep b o (I.ok.bs b o e).1 (I.ok.bs b o e).2 (I.ok.nofr e) (I.ok.noex b o e),I.base.free b o (I.ok.bs b o e).1 (I.ok.bs b o e).2 (I.ok.noex b o e)⟩
theorem Inv.bk (I:Inv X pins σ H s):∀b o,X.base.get? b=some o->s.heap.get? b=some o:=fun b o e=>(I.bs b o e).1
theorem Inv.mod (I:Inv X pins σ H s):Mod X.K X.mg X.base:=I.ok.mod
theorem Inv.kIn (I:Inv X pins σ H s):X.K.In s.heap:=I.ok.mod.kin.keeps I.bk
theorem Inv.fr (I:Inv X pins σ H s):∃m,Fr X.base X.env.locals s.heap m:=
 let⟨m,hn,_⟩:=I.loc
 ⟨m,hn,I.bk,yd I.ok.bsz I.ok.above⟩
theorem Inv.lt (I:Inv X pins σ H s):X.env.locals<s.heap.objs.size:=let⟨_,hn,_⟩:=I.loc;hn.lt
theorem Inv.sz (I:Inv X pins σ H s):X.s₀.heap.objs.size<=s.heap.objs.size:=yd I.ok.above (yB I.lt)
theorem Inv.nofs (I:Inv X pins σ H s) {a:Addr} (h:s.heap.objs.size<=a):a∉X.fs:=fun hb=>by
 obtain⟨_,o,ho,_⟩:=I.ok.funs.mem hb
 exact absurd (yb (Heap.lt_size ho) (yd I.sz h)) (y2 _)
theorem Inv.cne (I:Inv X pins σ H s):∀x c,X.env.cells.lookup x=some c->c≠X.env.locals:=fun x c e z=>by
 obtain⟨v,o,ho,hd⟩:=I.cell x c e
 obtain⟨m,⟨o',es,ep,ho',hd',_⟩,_⟩:=I.loc
 rw[z,ho']at ho;cases ho;rw[hd']at hd;cases hd
theorem Inv.funs (I:Inv X pins σ H s):s.heap.FunFrames X.base X.outer:=by
 have all:∀(l:List Env),(∀b∈fh l,b∈X.fs)->X.s₀.heap.FunFrames X.base l->s.heap.FunFrames X.base l:=by
  intro l
  induction l with
  | nil=>intro _ _;trivial
  | cons env r ih=>
   intro hs hl
   obtain⟨hk,⟨L,o,hf,hn,ho,hd⟩,hr⟩:=hl
   have hL:L∈X.fs:=hs L (by unfold fh;rw[yK,hf];exact yc)
   obtain⟨sl,e⟩:=I.base.slot L o ho (I.ok.frf L hL) hL fun z=>I.ok.exfs L z hL
   exact⟨hk,⟨L,_,hf,hn,e,hd⟩,ih (fun b hb=>hs b (by unfold fh;rw[yK,hf];exact x8 _ hb)) hr⟩
 exact all X.outer (fun _ hb=>hb) I.ok.funs
theorem Inv.stack (I:Inv X pins σ H s):s.heap.FunFrames X.base X.stack:=by
 rcases I.ok.stk with e | ⟨e,hf⟩
 ·rw [e];exact I.funs
 ·rw [e]
  obtain⟨m,hn,_⟩:=I.loc
  refine .cons (by rw[I.ok.kind];decide) hf hn ?_ I.funs
  exact Heap.get?_none_of_le (yd I.ok.bsz I.ok.above)
theorem Inv.stkSub (I:Inv X pins σ H s):∀b∈fh X.stack,b∈X.env.locals :: X.fs:=fun b hb=>by
 rcases I.ok.stk with e | ⟨e,hf⟩
 ·rw [e]at hb;exact x8 _ hb
 ·rw [e]at hb
  unfold fh at hb
  rw[yK,hf]at hb
  exact hb
theorem Inv.stkFree (I:Inv X pins σ H s):∀b∈fh X.stack,H b=none:=fun b hb=>by
 rcases xY.mp (I.stkSub b hb)with e | hb
 ·rw [e];exact I.free
 ·obtain⟨_,o,ho,_⟩:=I.ok.funs.mem hb
  exact I.base.free b o ho (I.ok.frf b hb) fun z=>I.ok.exfs b z hb
theorem Inv.step {g':Array GenState} {t':Nat} {d':Drawn} {ch:List Addr} (I:Inv X pins σ H s)
  (hch:∀b∈ch,(b∈X.ex\/X.s₀.heap.objs.size<=b)/\b≠X.env.locals/\(∀x c,X.env.cells.lookup x=some c->c≠b)/\∀p∈X.pn++pins,p.1≠b)
  (keep:∀b o,b≠X.env.locals->b∉X.fs->b∉ch->s.heap.get? b=some o->H b=none->h'.get? b=some o)
  (slot:∀b o,b≠X.env.locals->b∈X.fs->b∉ch->s.heap.get? b=some o->H b=none->∃sl,h'.get? b=some {o with slots:=sl}) (free:∀b o,b∉ch->s.heap.get? b=some o->H b=none->H' b=none)
  (there:∀b o,b∉ch->s.heap.get? b=some o->∃o',h'.get? b=some o')
  (tups:∀b xs,H b=some (.tup xs)->H' b=some (.tup xs)) (frzs:∀b o u,H b=some (.frz o u)->H' b=some (.frz o u)) (tbls:∀b ps,H b=some (.tbl ps)->∃more,H' b=some (.tbl (ps++more)))
  (ns:∀m,s.heap.Ns X.env.locals m->h'.Ns X.env.locals m) (hok:HOk X.prog X.w H' h') (hg:AllBare g'):
  Inv X pins σ H' {s with heap:=h',gens:=g',drawn:=d',toks:=t'}:=by
 have neL:∀b o,X.s₀.heap.get? b=some o->b≠X.env.locals:=fun b o e=>x5 (yb (Heap.lt_size e) I.ok.above)
 have neC:∀b o,X.s₀.heap.get? b=some o->b∉X.ex->b∉ch:=fun b o e hx hb=>by
  rcases(hch b hb).1 with z | z
  ·exact hx z
  ·exact absurd (yb (Heap.lt_size e) z) (y2 _)
 have cellK:∀x c,X.env.cells.lookup x=some c->∀v,s.heap.IsCell c v->h'.IsCell c v:=fun x c e v ⟨o,ho,hd⟩=>by
  have nch:c∉ch:=fun z=>(hch c z).2.2.1 x c e rfl
  by_cases hc:c∈X.fs
  ·obtain⟨sl,q⟩:=slot c o (I.cne x c e) hc nch ho (I.freeC x c e)
   exact⟨_,q,hd⟩
  ·exact⟨o,keep c o (I.cne x c e) hc nch ho (I.freeC x c e),hd⟩
 refine⟨I.ok,I.os,hg,⟨fun b o e n hb hx=>?_,fun b o e n hb hx=>?_,fun b o e n hx=>?_,fun b o e hx=>?_,fun b xs e=>tups b xs (I.base.tups b xs e),fun b o xs e=>frzs b o xs (I.base.frzs b o xs e),fun b ps e=>?_⟩,?_,fun x c e=>?_,?_,fun x c e=>?_,fun p hp=>?_,hok,I.len⟩
 ·exact keep b o (neL b o e) hb (neC b o e hx) (I.base.keep b o e n hb hx) (I.base.free b o e n hx)
 ·obtain⟨sl,e1⟩:=I.base.slot b o e n hb hx
  obtain⟨sl',e2⟩:=slot b _ (neL b o e) hb (neC b o e hx) e1 (I.base.free b o e n hx)
  exact⟨sl',e2⟩
 ·obtain⟨o',e1⟩:=I.base.there b o e hx
  exact free b o' (neC b o e hx) e1 (I.base.free b o e n hx)
 ·obtain⟨o',e1⟩:=I.base.there b o e hx
  exact there b o' (neC b o e hx) e1
 ·obtain⟨m1,e1⟩:=I.base.tbls b ps e
  obtain⟨m2,e2⟩:=tbls b _ e1
  exact⟨m1++m2,by rw[e2,Array.append_assoc]⟩
 ·obtain⟨m,hn,hl⟩:=I.loc
  refine⟨m,ns m hn,fun i x v e1 e2 e3=>?_⟩
  obtain⟨u,r,l⟩:=hl i x v e1 e2 e3
  refine⟨u,r,?_⟩
  rcases l with l | ⟨k,c,e,z⟩
  ·exact .inl l
  ·exact .inr ⟨k,c,e,cellK x c e _ z⟩
 ·obtain⟨v,z⟩:=I.cell x c e
  exact⟨v,cellK x c e v z⟩
 ·obtain⟨m,⟨o,_,_,ho,_⟩,_⟩:=I.loc
  exact free _ o (fun z=>(hch _ z).2.1 rfl) ho I.free
 ·obtain⟨v,o,ho,hd⟩:=I.cell x c e
  exact free c o (fun z=>(hch c z).2.2.1 x c e rfl) ho (I.freeC x c e)
 ·obtain⟨e,n,ne,nf,d⟩:=I.pin p hp
  have nch:p.1∉ch:=fun z=>(hch p.1 z).2.2.2 p hp rfl
  exact⟨keep p.1 p.2 ne nf nch e n,free p.1 p.2 nch e n,ne,nf,d⟩
theorem Inv.un {t':Nat} (I:Inv X pins σ H s) (u:Un X.fs [] H H' s.heap h') (hok:HOk X.prog X.w H' h'):Inv X pins σ H' {s with heap:=h',toks:=t'}:=by
 obtain⟨m,⟨o,es,ep,ho,r⟩,_⟩:=id I.loc
 obtain⟨sl,hL⟩:=u.any ho I.free (by simp)
 exact I.step (g':=s.gens) (d':=s.drawn) (ch:=[]) (fun _ z=>nomatch z) (fun b o _ hb _ e n=>u.keep b o e n hb (by simp)) (fun b o _ hb _ e n=>u.slot b o e n hb (by simp)) (fun b o _ e n=>u.free b o e n (by simp)) (fun b o _ e=>u.there b o e (by simp)) u.tups u.frzs u.tbls (fun m' hm=>by
  obtain⟨o',es',ep',ho',r'⟩:=hm
  rw[ho]at ho';cases ho'
  exact⟨_,es',ep',hL,r'⟩) hok I.bare
theorem Inv.call {g':Array GenState} {t':Nat} {d':Drawn} {ch:List Addr} (I:Inv X pins σ H s) (u:Un (fh X.stack) ch H H' s.heap h') (hok:HOk X.prog X.w H' h') (hg:AllBare g')
  (hch:∀b∈ch,(b∈X.ex\/X.s₀.heap.objs.size<=b)/\b≠X.env.locals/\(∀x c,X.env.cells.lookup x=some c->c≠b)/\∀p∈X.pn++pins,p.1≠b):
  Inv X pins σ H' {s with heap:=h',gens:=g',drawn:=d',toks:=t'}:=by
 obtain⟨m,⟨o,es,ep,ho,r⟩,_⟩:=id I.loc
 obtain⟨sl,hL⟩:=u.any ho I.free fun z=>(hch _ z).2.1 rfl
 exact I.step (ch:=ch) hch (fun b o hL hb hc e n=>u.keep b o e n (fun z=>(xY.mp (I.stkSub b z)).elim hL hb) hc) (fun b o _ _ hc e n=>u.any e n hc) (fun b o hc e n=>u.free b o e n hc) (fun b o hc e=>u.there b o e hc) u.tups u.frzs u.tbls (fun m' hm=>by
  obtain⟨o',es',ep',ho',r'⟩:=hm
  rw[ho]at ho';cases ho'
  exact⟨_,es',ep',hL,r'⟩) hok hg
theorem Inv.turned {t':Nat} {it:Addr} (I:Inv X pins σ H s) (k:∀b o,b≠it->s.heap.get? b=some o->h'.get? b=some o) (hn:H it=none) (hL:it≠X.env.locals)
  (h1:it∈X.ex\/X.s₀.heap.objs.size<=it) (h2:∀x c,X.env.cells.lookup x=some c->c≠it) (h3:∀p∈X.pn++pins,p.1≠it):Inv X pins σ H {s with heap:=h',toks:=t'}:=by
 have nit:∀b u,H b=some u->b≠it:=fun b u e z=>by rw[z,hn]at e;cases e
 refine I.step (g':=s.gens) (d':=s.drawn) (ch:=[it]) (fun b hb=>?_) (fun b o _ _ hc e _=>k b o (fun z=>hc (by simp[z])) e) (fun b o _ _ hc e _=>⟨o.slots,k b o (fun z=>hc (by simp[z])) e⟩) (fun _ _ _ _ n=>n)
  (fun b o hc e=>⟨o,k b o (fun z=>hc (by simp[z])) e⟩) (fun _ _ e=>e) (fun _ _ _ e=>e) (fun b ps e=>⟨#[],by rw[e];simp⟩) (fun m hm=>?_) (fun b u e=>?_) I.bare
 ·have e:b=it:=by simpa using hb
  subst e
  exact⟨h1,hL,h2,h3⟩
 ·obtain⟨o,es,ep,ho,r⟩:=hm
  exact⟨o,es,ep,k _ o (Ne.symm hL) ho,r⟩
 ·refine(I.hok b u e).stay (fun c v hc q=>k c v ?_ q) (fun _ q=>q) fun _ _ q=>q
  rcases hc with z | z
  ·rw [z];exact nit b u e
  ·exact nit c _ z
theorem Inv.tok (I:Inv X pins σ H s) (t:Nat):Inv X pins σ H {s with toks:=t}:=I.un (h':=s.heap) (t':=t) Un.refl I.hok
theorem Inv.kept {t':Nat} (I:Inv X pins σ H s) (k:∀b u,s.heap.get? b=some u->h'.get? b=some u):Inv X pins σ H {s with heap:=h',toks:=t'}:=I.un (Un.kept k) (I.hok.kept k)
theorem Inv.laid {a:Addr} {o:HO} {t':Nat} (I:Inv X pins σ H s) (k:∀b u,s.heap.get? b=some u->h'.get? b=some u) (hp:s.heap.objs.size<=a) (new:ObjOk X.prog X.w (aI H a o) h' a o):
 Inv X pins σ (aI H a o) {s with heap:=h',toks:=t'}:=I.un (Un.laid k hp (I.hok.fresh hp)) (I.hok.laid k hp new)
theorem Inv.write {x e:Addr} {o:HO} {t':Nat} (I:Inv X pins σ H s) (mu:uV (H x)) (he:e=x\/H e=some (.own x)) (k:∀b u,b≠e->s.heap.get? b=some u->h'.get? b=some u) (heo:∃u,h'.get? e=some u)
 (new:ObjOk X.prog X.w (aI H x o) h' x o):Inv X pins σ (aI H x o) {s with heap:=h',toks:=t'}:=I.un (Un.write mu he k heo) (I.hok.write mu he k heo new)
theorem Inv.weak {σ':List (Option V)} (I:Inv X pins σ H s) (hl:σ'.length=σ.length) (w:∀(i:Nat) v,σ'[i]?=some (some v)->σ[i]?=some (some v)):Inv X pins σ' H s:=
 ⟨I.ok,I.os,I.bare,I.base,let⟨m,hn,hl'⟩:=I.loc;⟨m,hn,fun i x v e1 e2 e3=>hl' i x v e1 (w i v e2) e3⟩,I.cell,I.free,I.freeC,I.pin,I.hok,hl.trans I.len⟩
theorem Inv.pins_of {pins':List (Addr×Obj)} (I:Inv X pins σ H s) (h:∀p∈pins',s.heap.get? p.1=some p.2/\H p.1=none/\p.1≠X.env.locals/\p.1∉X.fs/\∀v,p.2.data≠ .cell v):Inv X pins' σ H s:=
 ⟨I.ok,I.os,I.bare,I.base,I.loc,I.cell,I.free,I.freeC,fun p hp=>(ye.mp hp).elim (fun z=>I.pin p (za _ z)) (h p),I.hok,I.len⟩
theorem kg {N:List Str} (hN:N.Nodup) {i j:Nat} {x:Str} (a:N[i]?=some x) (b:N[j]?=some x):i=j:=by
 obtain⟨h1,e1⟩:=xP.mp a
 obtain⟨h2,e2⟩:=xP.mp b
 exact(List.getElem_inj hN).mp (e1.trans e2.symm)
theorem iV {M:Model} {A:Around} {E:Value->Shared->Prop} {i:Nat} {x:Str} {v:V} {u:Value} {Q:Unit->Shared->Prop} (I:Inv X pins σ H s) (hN:X.N.Nodup) (hi:X.N[i]?=some x) (hx:uW X.env.scope x) (r:RelV v u)
  (h:∀s',Inv X pins (σ.set i (some v)) H s'->(∃a,Heap.SameBut a s.heap s'.heap/\(a=X.env.locals\/X.env.cells.lookup x=some a))->Q () s') (hf:X.fn x=true\/X.env.scope.names.lookup x=some .local:=by first | exact .inl rfl | exact .inr rfl | assumption):wpAny M A (storeName X.env x u) Q E s:=by
 obtain⟨m,hn,hl⟩:=id I.loc
 have hcls:(X.env.scope.kind== .class||(X.env.scope.kind== .module&&X.env.locals != X.env.globals))=false:=by rw[I.ok.kind];rfl
 have hiσ:i<σ.length:=by rw[I.len];exact(xP.mp hi).1
 have cne:=I.cne
 have tracked:∀{a:Addr} {h':Heap},(∃o,s.heap.get? a=some o/\H a=none)->Heap.SameBut a s.heap h'->HOk X.prog X.w H h':=fun {a h'} ha hs b ob e=>by
  obtain⟨_,_,hfree⟩:=ha
  refine(I.hok b ob e).stay (fun c w' hc q=>(hs.2 c ?_).trans q) (fun _ q=>q) fun _ _ q=>q
  rintro rfl
  rcases hc with rfl | hc
  ·rw [hfree]at e;cases e
  ·rw [hfree]at hc;cases hc
 rcases hx with hk | hk
 ·refine wpAny_storeName_local hk hn (fun h' hn' hs=>?_) hcls
  obtain⟨oL,_,_,hoL,_⟩:=id hn
  refine h _ ⟨I.ok,I.os,I.bare,⟨fun b o e n hb hx=>?_,fun b o e n hb hx=>?_,I.base.free,fun b o e hx=>?_,I.base.tups,I.base.frzs,I.base.tbls⟩,⟨_,hn',fun j y v' e1 e2 e3=>?_⟩,fun y c e=>?_,I.free,I.freeC,fun p hp=>?_,tracked ⟨oL,hoL,I.free⟩ hs,by simpa using I.len⟩ ⟨_,hs,.inl rfl⟩
  ·exact(hs.2 b (x5 (yb (Heap.lt_size e) I.ok.above))).trans (I.base.keep b o e n hb hx)
  ·obtain⟨sl,e1⟩:=I.base.slot b o e n hb hx
   exact⟨sl,(hs.2 b (x5 (yb (Heap.lt_size e) I.ok.above))).trans e1⟩
  ·obtain⟨o',e1⟩:=I.base.there b o e hx
   exact⟨o',(hs.2 b (x5 (yb (Heap.lt_size e) I.ok.above))).trans e1⟩
  ·by_cases hj:j=i
   ·subst hj
    rw[hi]at e1;cases e1
    rw[zl hiσ]at e2
    cases e2
    exact⟨u,r,.inl ⟨hk,by simp⟩⟩
   ·rw [zr (Ne.symm hj)]at e2
    obtain⟨u',r',q⟩:=hl j y v' e1 e2 e3
    refine⟨u',r',?_⟩
    rcases q with⟨k,e⟩ | ⟨k,c,e,z⟩
    ·refine .inl ⟨k,?_⟩
     have:y≠x:=fun e=>hj (kg hN e1 (e▸hi))
     simp[this,e]
    ·exact .inr ⟨k,c,e,z.sameBut hs (cne y c e)⟩
  ·obtain⟨w',z⟩:=I.cell y c e
   exact⟨w',z.sameBut hs (cne y c e)⟩
  ·obtain⟨e,n,ne,nf,d⟩:=I.pin p hp
   exact⟨(hs.2 p.1 ne).trans e,n,ne,nf,d⟩
 ·have hfn:X.fn x=true:=by
   rcases hf with z | z
   ·exact z
   ·rw [z]at hk;cases hk
  obtain⟨c,hc⟩:=I.ok.has x (.inl hk)
  obtain⟨w',z⟩:=I.cell x c hc
  refine wpAny_storeName_cell I.ok.kind hk hc z (fun h' hc' hs=>?_)
  obtain⟨oc,hoc,hocd⟩:=id z
  refine h {s with heap:=h'} ⟨I.ok,I.os,I.bare,⟨fun b o e n hb hx=>?_,fun b o e n hb hx=>?_,I.base.free,fun b o e hx=>?_,I.base.tups,I.base.frzs,I.base.tbls⟩,⟨m,hn.sameBut hs (Ne.symm (cne x c hc)),fun j y v' e1 e2 e3=>?_⟩,fun y c' e=>?_,I.free,I.freeC,fun p hp=>?_,tracked ⟨oc,hoc,I.freeC x c hc⟩ hs,by simpa using I.len⟩ ⟨c,hs,.inr hc⟩
  ·exact(hs.2 b (x5 (yb (Heap.lt_size e) (I.ok.cab x c hfn hc)))).trans (I.base.keep b o e n hb hx)
  ·obtain⟨sl,e1⟩:=I.base.slot b o e n hb hx
   exact⟨sl,(hs.2 b (x5 (yb (Heap.lt_size e) (I.ok.cab x c hfn hc)))).trans e1⟩
  ·obtain⟨o',e1⟩:=I.base.there b o e hx
   exact⟨o',(hs.2 b (x5 (yb (Heap.lt_size e) (I.ok.cab x c hfn hc)))).trans e1⟩
  ·by_cases hj:j=i
   ·subst hj
    rw[hi]at e1;cases e1
    rw[zl hiσ]at e2
    cases e2
    exact⟨u,r,.inr ⟨.inl hk,c,hc,hc'⟩⟩
   ·rw [zr (Ne.symm hj)]at e2
    obtain⟨u',r',q⟩:=hl j y v' e1 e2 e3
    refine⟨u',r',?_⟩
    rcases q with q | ⟨k,c',e,z'⟩
    ·exact .inl q
    ·refine .inr ⟨k,c',e,z'.sameBut hs ?_⟩
     rintro rfl
     exact hj (kg hN e1 (I.ok.inj _ _ _ e hc▸hi))
  ·by_cases hcc:c'=c
   ·subst hcc;exact⟨_,hc'⟩
   ·obtain⟨w2,z2⟩:=I.cell y c' e
    exact⟨w2,z2.sameBut hs hcc⟩
  ·obtain⟨e,n,ne,nf,d⟩:=I.pin p hp
   refine⟨(hs.2 p.1 ?_).trans e,n,ne,nf,d⟩
   intro q
   rw[q,hoc]at e
   have q':oc=p.2:=Option.some.inj e
   exact d w' (by rw[<- q'];exact hocd)
theorem kh {M:Model} {A:Around} {E:Value->Shared->Prop} {i:Nat} {x:Str} {v:V} {u:Value} {Q:Unit->Shared->Prop} (I:Inv X pins σ H s) (hN:X.N.Nodup) (hi:X.N[i]?=some x) (hx:uW X.env.scope x) (r:RelV v u)
  (h:∀s',Inv X pins (σ.set i (some v)) H s'->Q () s') (hf:X.fn x=true\/X.env.scope.names.lookup x=some .local:=by first | exact .inl rfl | exact .inr rfl | assumption):wpAny M A (storeName X.env x u) Q E s:=
 iV I hN hi hx r (fun s' I' _=>h s' I') hf
theorem Inv.call' {s':Shared} {ch:List Addr} (I:Inv X pins σ H s) (ho:s'.os=s.os) (u:Un (fh X.stack) ch H H' s.heap s'.heap) (hok:HOk X.prog X.w H' s'.heap) (hg:AllBare s'.gens)
  (hch:∀b∈ch,(b∈X.ex\/X.s₀.heap.objs.size<=b)/\b≠X.env.locals/\(∀x c,X.env.cells.lookup x=some c->c≠b)/\∀p∈X.pn++pins,p.1≠b):Inv X pins σ H' s':=by
 obtain⟨h',g',d',t',o'⟩:=s'
 have e:o'=s.os:=ho
 subst e
 exact I.call (g':=g') (t':=t') (d':=d') u hok hg hch
end
abbrev XK:=Value->Option Addr->Hp->Prop
abbrev St:=List (Option V)
abbrev VK:=V->Hp->Prop
abbrev TE:=St->Hp->VK->Prop
abbrev TT:=St->Hp->(Bool->Hp->Prop)->Prop
abbrev TA:=St->Hp->(List V->Hp->Prop)->Prop
structure Ends where
 nx:St->Hp->Prop
 rt:VK
 bk:St->Hp->Prop:=fun _ _=>False
 ct:St->Hp->Prop:=fun _ _=>False
abbrev TS:=Ends->St->Hp->Prop
def EP (X:Cx) (pins:List (Addr×Obj)) (σ:St) (Q:VK) (u:Value) (s':Shared):Prop:=∃v H',Inv X pins σ H' s'/\RelV v u/\Q v H'
def TP (X:Cx) (pins:List (Addr×Obj)) (σ:St) (Q:Bool->Hp->Prop) (b:Bool) (s':Shared):Prop:=∃H',Inv X pins σ H' s'/\Q b H'
def AP (X:Cx) (pins:List (Addr×Obj)) (σ:St) (Q:List V->Hp->Prop) (us:List Value) (s':Shared):Prop:=∃vs H',Inv X pins σ H' s'/\Vals vs us/\Q vs H'
def SP (X:Cx) (pins:List (Addr×Obj)) (D:Ends) (f:Flow) (s':Shared):Prop:=
 match f with
 | .next=>∃σ' H',Inv X pins σ' H' s'/\D.nx σ' H'
 | .brk=>∃σ' H',Inv X pins σ' H' s'/\D.bk σ' H'
 | .cont=>∃σ' H',Inv X pins σ' H' s'/\D.ct σ' H'
 | .ret u=>∃v σ' H',Inv X pins σ' H' s'/\RelV v u/\D.rt v H'
def PE (X:Cx) (e:Expr) (t:TE):Prop:=
 ∀(pins:List (Addr×Obj)) (s:Shared) (σ:St) (H:Hp) (Q:VK),Inv X pins σ H s->t σ H Q->wpAny (model X.prog X.w) X.A (eval e X.env) (EP X pins σ Q) X.xe s
def PT (X:Cx) (e:Expr) (t:TT):Prop:=
 ∀(pins:List (Addr×Obj)) (s:Shared) (σ:St) (H:Hp) (Q:Bool->Hp->Prop),Inv X pins σ H s->t σ H Q->wpAny (model X.prog X.w) X.A (isTrue e X.env (eval e X.env)) (TP X pins σ Q) X.xe s
def PW (X:Cx) (e:Expr) (t:TT):Prop:=
 ∀(whole:Sem Value) (pins:List (Addr×Obj)) (s:Shared) (σ:St) (H:Hp) (Q:Bool->Hp->Prop),Inv X pins σ H s->t σ H Q->wpAny (model X.prog X.w) X.A (isTrue e X.env whole) (TP X pins σ Q) X.xe s
theorem PW.pt {X:Cx} {e:Expr} {t:TT} (h:PW X e t):PT X e t:=h _
def PA (X:Cx) (es:List Expr) (t:TA):Prop:=
 ∀(pos:Pos) (pins:List (Addr×Obj)) (s:Shared) (σ:St) (H:Hp) (Q:List V->Hp->Prop),Inv X pins σ H s->t σ H Q->wpAny (model X.prog X.w) X.A (spliced (backTo pos (starEach es X.env))) (AP X pins σ Q) X.xe s
def PS (X:Cx) (st:Stmt) (t:TS):Prop:=
 ∀(pins:List (Addr×Obj)) (s:Shared) (σ:St) (H:Hp) (D:Ends),Inv X pins σ H s->t D σ H->wpAny (model X.prog X.w) X.A (exec st X.env) (SP X pins D) X.xe s
def PSs (X:Cx) (st:List Stmt) (t:TS):Prop:=
 ∀(pins:List (Addr×Obj)) (s:Shared) (σ:St) (H:Hp) (D:Ends),Inv X pins σ H s->t D σ H->wpAny (model X.prog X.w) X.A (execs st X.env) (SP X pins D) X.xe s
theorem bB {α:Type} {t:Sem α} {Q Q':α->Shared->Prop} {M:Model} {A:Around} {E:Value->Shared->Prop} {s:Shared} (h:wpAny M A t Q E s) (hQ:∀a s,Q a s->Q' a s):wpAny M A t Q' E s:=wpAny_mono h hQ fun _ _ x=>x
section
variable {X:Cx}
theorem xI {a b:Expr} {ta tb:TE} (ha:PE X a ta) (hb:PE X b tb) {pins:List (Addr×Obj)} {s:Shared} {σ:St} {H:Hp} {R:V->V->Hp->Prop} (I:Inv X pins σ H s) (h:ta σ H fun x H1=>tb σ H1 fun y H2=>R x y H2)
  {α:Type} {Q:α->Shared->Prop} {f:Value->Value->Sem α}
  (hf:∀v u s2 x y H2,Inv X pins σ H2 s2->RelV x v->RelV y u->R x y H2->wpAny (model X.prog X.w) X.A (f v u) Q X.xe s2):
  wpAny (model X.prog X.w) X.A (eval a X.env) (fun v s₁=>wpAny (model X.prog X.w) X.A (eval b X.env) (fun u s₂=>wpAny (model X.prog X.w) X.A (f v u) Q X.xe s₂) X.xe s₁) X.xe s:=by
 refine bB (ha pins s σ H _ I h) fun v s1 hq__=>?_
 obtain⟨x,H1,I1,r1,q1⟩:=hq__
 refine bB (hb pins s1 σ H1 _ I1 q1) fun u s2 hq__=>?_
 obtain⟨y,H2,I2,r2,q2⟩:=hq__
 exact hf v u s2 x y H2 I2 r1 r2 q2
def nC (i:Nat):TE:=fun σ H Q=>∃v,σ[i]?=some (some v)/\Q v H
def tC (v:V):TE:=fun _ H Q=>Q v H
theorem tz {i:Nat} {x:Str} {pos:Pos} (hN:X.N[i]?=some x) (hv:vZ X.env.scope x) (hd:(x==("__debug__":Str))=false:=by decide) (hcd:(x==("__classdict__":Str))=false:=by decide):PE X (.Name x pos) (nC i):=by
 intro pins s σ H Q I h
 obtain⟨v,e,h⟩:=h
 obtain⟨m,hn,hl⟩:=I.loc
 obtain⟨u,r,l⟩:=hl i x v hN e hv
 have fin:EP X pins σ Q u s:=⟨v,H,I,r,h⟩
 rcases l with⟨hk,hm⟩ | ⟨hk,c,hc,hcell⟩
 ·exact wpAny_Name (wpAny_loadName_local I.ok.kind hk hn hm fin) hd
 ·rcases hk with hk | hk
  ·exact wpAny_Name (wpAny_loadName_cell I.ok.kind hk hc hcell fin) hd
  ·exact wpAny_Name (wpAny_loadName_free I.ok.kind hk hc hcell fin hcd) hd
theorem af {i j pos}:PE X (.Constant (.int i) j pos) (tC (.int i)):=fun _ _ _ H _ I h=>wpAny_Constant_int ⟨.int i,H,I.tok _,⟨_,rfl⟩,h⟩
theorem bS {b j pos}:PE X (.Constant (.bool b) j pos) (tC (.bl b)):=fun _ _ _ H _ I h=>Constant_bool ⟨.bl b,H,I,rfl,h⟩
theorem cz {j pos}:PE X (.Constant .none j pos) (tC .non):=fun _ _ _ H _ I h=>Constant_none ⟨.non,H,I,rfl,h⟩
theorem ar {x j pos}:PE X (.Constant (.str x) j pos) (tC (.str x)):=fun _ _ _ H _ I h=>Calls.Constant_str ⟨.str x,H,I.tok _,⟨_,rfl⟩,h⟩
def Gl (X:Cx) (x:Str):Prop:=X.env.kindOf x=some .globalImplicit
theorem rf {E:Value->Shared->Prop} {pins:List (Addr×Obj)} {s:Shared} {σ:St} {H:Hp} {x:Str} {u:Value} {pos:Pos} {Q:Value->Shared->Prop} (I:Inv X pins σ H s) (hg:Gl X x) (hm:X.mg x=some u) (h:Q u s)
  (hd:(x==("__debug__":Str))=false:=by decide):wpAny (model X.prog X.w) X.A (eval (.Name x pos) X.env) Q E s:=
 Calls.Name_function_global I.ok.kind hg (Calls.loadGlobal_global (by rw[I.ok.glob];exact I.mod.glob.keeps I.bk) hm h) hd
theorem fR {E:Value->Shared->Prop} {pins:List (Addr×Obj)} {s:Shared} {σ:St} {H:Hp} {x:Str} {u:Value} {pos:Pos} {Q:Value->Shared->Prop} (I:Inv X pins σ H s) (hg:Gl X x) (hm:X.mg x=none) (hv:bootBuiltins x=some u) (h:Q u s)
  (hn:x≠"__name__":=by decide) (hd:(x==("__debug__":Str))=false:=by decide):wpAny (model X.prog X.w) X.A (eval (.Name x pos) X.env) Q E s:=by
 obtain⟨mb,h1,h2⟩:=I.mod.blt
 exact Calls.Name_function_global I.ok.kind hg (Calls.loadGlobal_builtin (by rw[I.ok.glob];exact I.mod.glob.keeps I.bk) hm (by rw[I.ok.blt];exact h1.keeps I.bk) ((h2 x hn).trans hv) h) hd
theorem gE {x:Str} {v:V} {u:Value} {pos:Pos} (hg:Gl X x) (hm:X.mg x=none) (hv:bootBuiltins x=some u) (r:RelV v u) (hn:x≠"__name__":=by decide) (hd:(x==("__debug__":Str))=false:=by decide):PE X (.Name x pos) (tC v):=
 fun _ _ _ H _ I h=>fR I hg hm hv ⟨v,H,I,r,h⟩ hn hd
variable {a b:Expr} {ta tb:TE} {pos:Pos}
def PC (X:Cx) (op:CmpOp) (a b:Expr) (t:TE):Prop:=
 ∀(pins:List (Addr×Obj)) (s:Shared) (σ:St) (H:Hp) (Q:VK),Inv X pins σ H s->t σ H Q->
  wpAny (model X.prog X.w) X.A (eval a X.env) (fun v s₁=>wpAny (model X.prog X.w) X.A (eval b X.env) (fun u s₂=>wpAny (model X.prog X.w) X.A (compareOp op v u) (EP X pins σ Q) X.xe s₂) X.xe s₁) X.xe s
theorem oW (b:Expr) {op:CmpOp} (h:op≠ .In) (h2:op≠ .NotIn):behindInMarks op b=false:=by
 have e1:(op==CmpOp.In)=false:=by cases op<;>first | rfl | exact absurd rfl h
 have e2:(op==CmpOp.NotIn)=false:=by cases op<;>first | rfl | exact absurd rfl h2
 cases b<;>simp[behindInMarks,e1,e2]
def tB (t:TE):TT:=fun σ H Q=>t σ H fun x H1=>∃c,x= .bl c/\Q c H1
theorem wx {op:CmpOp} {t:TE} (h:PC X op a b t) (h1:behindInMarks op b=false:=by first | exact oW _ (by decide) (by decide) | rfl):PT X (.Compare a [op] [b] pos) (tB t):=by
 intro pins s σ H Q I hw
 refine wpAny_isTrue_Compare1 (bB (h pins s σ H _ I hw) fun v s1 h1=>bB h1 fun u s2 h2=>bB h2 fun c s3 ⟨x,H1,I1,r1,q1⟩=>?_) h1
 obtain⟨d,rfl,q⟩:=q1
 cases r1
 exact wpAny_truthy_bool ⟨H1,I1,q⟩
theorem bg {e:Expr} {t:TE} (h:PE X e t) (he:∀whole,isTrue e X.env whole=(do let v <- whole;standAt e.pos;holding [v] (truthy v)):=by intro _;rfl):PT X e (tB t):=by
 intro pins s σ H Q I hw
 refine isTrue_plain (bB (h pins s σ H _ I hw) fun v s1 ⟨x,H1,I1,r1,q1⟩=>?_) (he _)
 obtain⟨d,rfl,q⟩:=q1
 cases r1
 exact wpAny_truthy_bool ⟨H1,I1,q⟩
variable {tA tB':TT} {ck:List Expr}
def wy (t u:TT):TT:=fun σ H Q=>t σ H fun c H1=>if c=true then u σ H1 Q else Q false H1
def xn (t u:TT):TT:=fun σ H Q=>t σ H fun c H1=>if c=true then Q true H1 else u σ H1 Q
def wz (t:TT):TT:=fun σ H Q=>t σ H fun c H1=>Q (!c) H1
theorem gF (ha:PT X a tA):PW X (.BoolOp .And [a] pos) tA:=by
 intro wh pins s σ H Q I h
 refine isTrue_and (bB (ha pins s σ H Q I h) fun c s1 e=>?_)
 cases c with
 | true=>exact isTrue_and_nil e
 | false=>exact e
theorem dy (ha:PT X a tA):PW X (.BoolOp .Or [a] pos) tA:=by
 intro wh pins s σ H Q I h
 refine isTrue_or (bB (ha pins s σ H Q I h) fun c s1 e=>?_)
 cases c with
 | false=>exact isTrue_or_nil e
 | true=>exact e
theorem jw (ha:PT X a tA) (hb:PW X (.BoolOp .And (b :: ck) pos) tB'):PW X (.BoolOp .And (a :: b :: ck) pos) (wy tA tB'):=by
 intro wh pins s σ H Q I h
 refine isTrue_and (bB (ha pins s σ H _ I h) fun c s1 hq__=>?_)
 obtain⟨H1,I1,q1⟩:=hq__
 cases c with
 | true=>exact hb wh pins s1 σ H1 Q I1 q1
 | false=>exact⟨H1,I1,q1⟩
theorem fk (ha:PT X a tA) (hb:PW X (.BoolOp .Or (b :: ck) pos) tB'):PW X (.BoolOp .Or (a :: b :: ck) pos) (xn tA tB'):=by
 intro wh pins s σ H Q I h
 refine isTrue_or (bB (ha pins s σ H _ I h) fun c s1 hq__=>?_)
 obtain⟨H1,I1,q1⟩:=hq__
 cases c with
 | true=>exact⟨H1,I1,q1⟩
 | false=>exact hb wh pins s1 σ H1 Q I1 q1
theorem cA (ha:PT X a tA):PT X (.UnaryOp .Not a pos) (wz tA):=by
 intro pins s σ H Q I h
 exact isTrue_not (ha pins s σ H (fun c H1=>Q (!c) H1) I h)
def uX (ta tb:TE):TE:=fun σ H Q=>ta σ H fun x H1=>∃c,x= .bl c/\if c=true then tb σ H1 Q else Q (.bl false) H1
def uY (ta:TE):TE:=fun σ H Q=>ta σ H fun x H1=>∃c,x= .bl c/\Q (.bl (!c)) H1
theorem fS {op} {t:TE} (h:PE X a t):PE X (.BoolOp op [a] pos) t:=fun pins s σ H Q I hw=>BoolOp_one (h pins s σ H Q I hw)
theorem cU (ha:PE X a ta) (hb:PE X (.BoolOp .And (b :: ck) pos) tb):PE X (.BoolOp .And (a :: b :: ck) pos) (uX ta tb):=by
 intro pins s σ H Q I h
 refine BoolOp_and (bB (ha pins s σ H _ I h) fun v s1 hq__=>?_)
 obtain⟨x,H1,I1,r1,q1⟩:=hq__
 obtain⟨c,rfl,q1⟩:=q1
 cases r1
 refine wpAny_truthy_bool ?_
 cases c with
 | true=>exact hb pins s1 σ H1 Q I1 q1
 | false=>exact⟨.bl false,H1,I1,rfl,q1⟩
theorem oX (ha:PE X a ta):PE X (.UnaryOp .Not a pos) (uY ta):=by
 intro pins s σ H Q I h
 refine UnaryOp_ (bB (ha pins s σ H _ I h) fun v s1 hq__=>?_)
 obtain⟨x,H1,I1,r1,q1⟩:=hq__
 obtain⟨c,rfl,q1⟩:=q1
 cases r1
 exact not_of (wpAny_truthy_bool ⟨.bl (!c),H1,I1,rfl,q1⟩)
end
def SqL (K:PySem.W.Frag) (H:Hp) (a:Addr) (xs:List V):Prop:=
 Rd H a (.lst xs)\/
  ∃(o:Obj) (its:Array Value) (n:Nat),K.lookup a=some o/\o.cls= .type "list"/\o.dict=none/\o.data= .seq its n/\its.size<=sizeLine/\Vals xs its.toList
def SqT (K:PySem.W.Frag) (H:Hp) (a:Addr) (xs:List V):Prop:=
 Rd H a (.tup xs)\/
  ∃(o:Obj) (its:Array Value) (n:Nat),K.lookup a=some o/\o.cls= .type "tuple"/\o.data= .seq its n/\its.size<=sizeLine/\Vals xs its.toList
def wA:Value->Option V
 | .none=>some .non
 | .bool b=>some (.bl b)
 | .int i _=>some (.int i)
 | .str x _=>some (.str x)
 | .bytes b _=>some (.byt b)
 | .float b _=>some (.flt b)
 | .ref a=>some (.ref a)
 | .type n=>some (.ty n)
 | _=>none
theorem RelV.abs {x:V} {u:Value} (r:RelV x u):wA u=some x:=by
 cases x with
 | non=>cases r;rfl
 | bl _=>cases r;rfl
 | int _=>obtain⟨t,rfl⟩:=r;rfl
 | str _=>obtain⟨t,rfl⟩:=r;rfl
 | byt _=>obtain⟨t,rfl⟩:=r;rfl
 | flt _=>obtain⟨t,rfl⟩:=r;rfl
 | ref _=>cases r;rfl
 | ty _=>cases r;rfl
theorem RelV.inj {x y:V} {u:Value} (r:RelV x u) (q:RelV y u):x=y:=Option.some.inj (r.abs.symm.trans q.abs)
theorem Vals.inj:∀{xs ys:List V} {us:List Value},Vals xs us->Vals ys us->xs=ys:=by
 intro xs ys us h
 induction h generalizing ys with
 | nil=>intro h';cases h';rfl
 | cons r t ih=>
  intro h'
  cases h' with
  | cons r' t'=>rw[r.inj r',ih t']
section
variable {X:Cx} {pins:List (Addr×Obj)} {σ:St} {H:Hp} {s:Shared} {a:Addr} {xs ys:List V}
theorem SqL.of {K:PySem.W.Frag} (h:H a=some (.lst xs)):SqL K H a xs:= .inl (.inl h)
theorem SqT.of {K:PySem.W.Frag} (h:H a=some (.tup xs)):SqT K H a xs:= .inl (.inl h)
theorem Inv.list (I:Inv X pins σ H s) (h:SqL X.K H a xs):∃its:List Value,Vals xs its/\PlainL s.heap a its.toArray/\xs.length<=sizeLine:=by
 rcases h with h | ⟨o,its,n,hk,hc,hd,hs,hz,r⟩
 ·obtain⟨z,its,n,r,e⟩:=h.ok I.hok
  exact⟨its,r,⟨_,n,e,rfl,rfl,rfl⟩,z⟩
 ·refine⟨its.toList,r,⟨o,n,I.kIn a o hk,hc,hd,by simpa using hs⟩,?_⟩
  have e:=r.length
  simp only[xS]at e
  omega
theorem Inv.tuple (I:Inv X pins σ H s) (h:SqT X.K H a xs):∃its:List Value,Vals xs its/\IsTup s.heap a its.toArray/\xs.length<=sizeLine:=by
 rcases h with h | ⟨o,its,n,hk,hc,hs,hz,r⟩
 ·obtain⟨z,its,r,p⟩:=h.ok I.hok
  exact⟨its,r,p,z⟩
 ·refine⟨its.toList,r,⟨o,I.kIn a o hk,hc,n,by simpa using hs⟩,?_⟩
  have e:=r.length
  simp only[xS]at e
  omega
theorem Inv.list_inj (I:Inv X pins σ H s) (h:SqL X.K H a xs) (h':SqL X.K H a ys):xs=ys:=by
 obtain⟨its,r,⟨o,n,e,_,_,d⟩,_⟩:=I.list h
 obtain⟨its',r',⟨o',n',e',_,_,d'⟩,_⟩:=I.list h'
 rw[e]at e';cases e'
 rw[d]at d'
 injection d' with d1 _
 have:its=its':=by simpa using congrArg Array.toList d1
 subst this
 exact r.inj r'
theorem Inv.tuple_inj (I:Inv X pins σ H s) (h:SqT X.K H a xs) (h':SqT X.K H a ys):xs=ys:=by
 obtain⟨its,r,⟨o,e,_,n,d⟩,_⟩:=I.tuple h
 obtain⟨its',r',⟨o',e',_,n',d'⟩,_⟩:=I.tuple h'
 rw[e]at e';cases e'
 rw[d]at d'
 injection d' with d1 _
 have:its=its':=by simpa using congrArg Array.toList d1
 subst this
 exact r.inj r'
end
abbrev Cx.wish (X:Cx) (E:Value->Shared->Prop):Cx:={X with xe:=E}
abbrev Cx.nox (X:Cx):Cx:=X.wish fun _ _=>False
theorem Cx.Ok.wish {X:Cx} (ok:X.Ok) (E:Value->Shared->Prop):(X.wish E).Ok:=
 ⟨ok.mod,ok.kind,ok.glob,ok.blt,ok.above,ok.inj,ok.has,ok.cab,ok.hd,ok.frames,ok.stk,ok.exf,ok.bs,ok.bsz,ok.noex,ok.exfs,ok.funs,ok.frf⟩
theorem Cx.Ok.unwish {X:Cx} {E:Value->Shared->Prop} (ok:(X.wish E).Ok):X.Ok:=
 ⟨ok.mod,ok.kind,ok.glob,ok.blt,ok.above,ok.inj,ok.has,ok.cab,ok.hd,ok.frames,ok.stk,ok.exf,ok.bs,ok.bsz,ok.noex,ok.exfs,ok.funs,ok.frf⟩
section
variable {X:Cx} {pins:List (Addr×Obj)} {σ:St} {H:Hp} {s:Shared} {E:Value->Shared->Prop}
theorem Inv.wish (I:Inv X pins σ H s) (E:Value->Shared->Prop):Inv (X.wish E) pins σ H s:=⟨I.ok.wish E,I.os,I.bare,I.base,I.loc,I.cell,I.free,I.freeC,I.pin,I.hok,I.len⟩
theorem Inv.unwish (I:Inv (X.wish E) pins σ H s):Inv X pins σ H s:=⟨I.ok.unwish,I.os,I.bare,I.base,I.loc,I.cell,I.free,I.freeC,I.pin,I.hok,I.len⟩
theorem SP.unwish {D:Ends} {f:Flow} {s':Shared} (h:SP (X.wish E) pins D f s'):SP X pins D f s':=by
 cases f with
 | next=>obtain⟨σ',H',I,q⟩:=h;exact⟨σ',H',I.unwish,q⟩
 | brk=>obtain⟨σ',H',I,q⟩:=h;exact⟨σ',H',I.unwish,q⟩
 | cont=>obtain⟨σ',H',I,q⟩:=h;exact⟨σ',H',I.unwish,q⟩
 | ret u=>obtain⟨v,σ',H',I,r,q⟩:=h;exact⟨v,σ',H',I.unwish,r,q⟩
theorem PSs.nox {st:List Stmt} {t:TS} (h:PSs X.nox st t):PSs X st t:=fun pins s σ H D I hw=>
 wpAny_mono (h pins s σ H D (I.wish _) hw) (fun _ _ q=>q.unwish) fun _ _ z=>False.elim z
end
section
variable {X:Cx} {st:Stmt} {ck:List Stmt} {t u:TS} {e:Expr} {te:TE} {pos:Pos}
def uZ:TS:=fun D σ H=>D.nx σ H
def rg (t u:TS):TS:=fun D σ H=>t {D with nx:=u D} σ H
theorem aw:PSs X [] uZ:=fun _ _ σ H _ I h=>wpAny_execs_nil ⟨σ,H,I,h⟩
theorem ag (h1:PS X st t) (h2:PSs X ck u):PSs X (st :: ck) (rg t u):=by
 intro pins s σ H D I h
 refine wpAny_execs_cons (bB (h1 pins s σ H {D with nx:=u D} I h) fun f s1 q=>?_)
 cases f with
 | next=>
  obtain⟨σ',H',I',q⟩:=q
  exact h2 pins s1 σ' H' D I' q
 | ret v=>exact q
 | brk=>exact q
 | cont=>exact q
theorem ah (h1:PS X st t):PSs X [st] t:=by
 intro pins s σ H D I h
 refine wpAny_execs_cons (bB (h1 pins s σ H D I h) fun f s1 q=>?_)
 cases f with
 | next=>exact wpAny_execs_nil q
 | ret v=>exact q
 | brk=>exact q
 | cont=>exact q
theorem Inv.quiet {pins:List (Addr×Obj)} {σ:St} {H:Hp} {s:Shared} (I:Inv X pins σ H s):interactive X.env=false:=by simp[interactive,I.ok.kind]
def u0 (te:TE):TS:=fun D σ H=>te σ H fun _ H1=>D.nx σ H1
theorem gG (he:PE X e te) (hs:swapsWith e none pos.line X.env=pure false:=by rfl):PS X (.Expr e pos) (u0 te):=by
 intro pins s σ H D I h
 exact wpAny_Expr_any (bB (he pins s σ H _ I h) fun v s1 ⟨x,H1,I1,r1,q1⟩=>⟨σ,H1,I1,q1⟩) I.quiet hs
def wB (te:TE):TS:=fun D σ H=>te σ H D.rt
theorem aj (he:PE X e te):PS X (.Return (some e) pos) (wB te):=by
 intro pins s σ H D I h
 exact wpAny_Return_some (bB (he pins s σ H _ I h) fun v s1 ⟨x,H1,I1,r1,q1⟩=>⟨x,σ,H1,I1,r1,q1⟩)
def wC (c:TT) (t u:TS):TS:=fun D σ H=>c σ H fun b H1=>if b=true then t D σ H1 else u D σ H1
theorem aK {c:Expr} {a b:List Stmt} {tc:TT} (hc:PT X c tc) (ha:PSs X a t) (hb:PSs X b u):PS X (.If c a b pos) (wC tc t u):=by
 intro pins s σ H D I h
 refine wpAny_If (bB (hc pins s σ H _ I h) fun d s1 hq__=>?_)
 obtain⟨H1,I1,q1⟩:=hq__
 cases d with
 | true=>exact ha pins s1 σ H1 D I1 q1
 | false=>exact hb pins s1 σ H1 D I1 q1
end
abbrev TG:=V->St->Hp->(St->Hp->Prop)->Prop
abbrev qX:=List V->St->Hp->(St->Hp->Prop)->Prop
def PG (X:Cx) (target:Expr) (t:TG):Prop:=
 ∀(pins:List (Addr×Obj)) (s:Shared) (σ:St) (H:Hp) (v:V) (u:Value) (Q:St->Hp->Prop),Inv X pins σ H s->RelV v u->t v σ H Q->
  wpAny (model X.prog X.w) X.A (assign target X.env u) (fun _ s'=>∃σ' H',Inv X pins σ' H' s'/\Q σ' H') X.xe s
def tD (X:Cx) (ts:List Expr) (t:qX):Prop:=
 ∀(pins:List (Addr×Obj)) (s:Shared) (σ:St) (H:Hp) (vs:List V) (us:List Value) (Q:St->Hp->Prop),Inv X pins σ H s->Vals vs us->t vs σ H Q->
  wpAny (model X.prog X.w) X.A (assignInOrder ((assignEach ts X.env).map (·.2)) us) (fun _ s'=>∃σ' H',Inv X pins σ' H' s'/\Q σ' H') X.xe s
abbrev tE:=V->V->V->Hp->(Hp->Prop)->Prop
def u4 (X:Cx) (t:tE):Prop:=
 ∀(pins:List (Addr×Obj)) (s:Shared) (σ:St) (H:Hp) (o i v:V) (ov iv u:Value) (Q:Hp->Prop),Inv X pins σ H s->RelV o ov->RelV i iv->RelV v u->t o i v H Q->
  wpAny (model X.prog X.w) X.A (setItem ov iv u) (fun _ s'=>∃H',Inv X pins σ H' s'/\Q H') X.xe s
section
variable {X:Cx} {pos:Pos}
def bC (i:Nat):TG:=fun v σ H Q=>Q (σ.set i (some v)) H
theorem aA {i:Nat} {x:Str} (hN:X.N.Nodup) (hi:X.N[i]?=some x) (hx:uW X.env.scope x) (hf:X.fn x=true\/X.env.scope.names.lookup x=some .local:=by first | exact .inl rfl | exact .inr rfl | assumption):PG X (.Name x pos) (bC i):=by
 intro pins s σ H v u Q I r h
 exact wpAny_assign_Name (kh I hN hi hx r (fun s' I'=>⟨_,H,I',h⟩) hf)
def tF:qX:=fun vs σ H Q=>vs=[]/\Q σ H
def ki (t:TG) (u:qX):qX:=fun vs σ H Q=>∃v r,vs=v :: r/\t v σ H fun σ' H'=>u r σ' H' Q
theorem jx:tD X [] tF:=by
 intro pins s σ H vs us Q I r h
 obtain⟨e,h⟩:=h
 subst e
 cases r
 exact assignInOrder_nil ⟨σ,H,I,h⟩
theorem cB {e:Expr} {es:List Expr} {t:TG} {u:qX} (h1:PG X e t) (h2:tD X es u)
  (hs:(assignEach (e :: es) X.env).map (·.2)=assign e X.env :: (assignEach es X.env).map (·.2):=by rfl):tD X (e :: es) (ki t u):=by
 intro pins s σ H vs us Q I r h
 obtain⟨v,vr,e1,h⟩:=h
 subst e1
 cases r with
 | cons r rr=>
  rw[hs]
  refine assignInOrder_cons (bB (h1 pins s σ H _ _ _ I r h) fun _ s1 hq__=>?_)
  obtain⟨σ1,H1,I1,q1⟩:=hq__
  exact h2 pins s1 σ1 H1 _ _ Q I1 rr q1
def rh (K:PySem.W.Frag) (n:Nat) (t:qX):TG:=fun v σ H Q=>∃a xs,v= .ref a/\SqT K H a xs/\xs.length=n/\t xs σ H Q
theorem tG {es:List Expr} {k:Nat} {t:qX} {n:Nat} (hc:X.calm=true) (h:tD X es t)
  (hn:(assignEach es X.env).length=n:=by rfl) (hst:(assignEach es X.env).findIdx? (·.1)=none:=by rfl):PG X (.Tuple es k pos) (rh X.K n t):=by
 intro pins s σ H v u Q I r hw
 obtain⟨a,xs,e1,hq,hl,hw⟩:=hw
 subst e1
 cases r
 obtain⟨its,rv,ht,hz⟩:=I.tuple hq
 refine assign_Tuple_tuple (I.ok.hd hc) ht (by simp[hn,<- hl,rv.length]) hst fun h' hx=>?_
 have I1:Inv X pins σ H {s with heap:=h'}:=I.kept (t':=s.toks) fun b o e=>hx b o (x5 (Heap.lt_size e)) e
 exact h pins _ σ H xs _ Q I1 (by simpa using rv) hw
def wD (to ti:TE) (t:tE):TG:=fun v σ H Q=>to σ H fun o H1=>ti σ H1 fun i H2=>t o i v H2 fun H3=>Q σ H3
theorem tH {o i:Expr} {to ti:TE} {t:tE} (ho:PE X o to) (hi:PE X i ti) (hs:u4 X t)
  (ha:∀v,assign (.Subscript o i pos) X.env v=(do
   let ov <- holding [v] (eval o X.env)
   let iv <- holding [v,ov] (eval i X.env)
   standAt pos
   holding [v,ov,iv] (setItem ov iv v)
   release [v,ov,iv] []):=by intro _;rfl):PG X (.Subscript o i pos) (wD to ti t):=by
 intro pins s σ H v u Q I r h
 rw[ha]
 refine wpAny_bind (wpAny_holding (bB (ho pins s σ H _ I h) fun ov s1 hq__=>?_))
 obtain⟨x,H1,I1,r1,q1⟩:=hq__
 refine wpAny_bind (wpAny_holding (bB (hi pins s1 σ H1 _ I1 q1) fun iv s2 hq__=>?_))
 obtain⟨y,H2,I2,r2,q2⟩:=hq__
 refine wpAny_bind (wpAny_standAt (wpAny_bind (wpAny_holding (bB (hs pins s2 σ H2 x y v ov iv u _ I2 r1 r2 r q2) fun _ s3 hq__=>?_))))
 obtain⟨H3,I3,q3⟩:=hq__
 exact wpAny_release ⟨σ,H3,I3,q3⟩
def nD (te:TE) (g:TG):TS:=fun D σ H=>te σ H fun x H1=>g x σ H1 D.nx
theorem lE {tg e:Expr} {te:TE} {g:TG} (he:PE X e te) (hg:PG X tg g) (hs:swapsWithSole [tg] e pos.line X.env=pure false:=by rfl) (hw:swappedStores [tg] e X.env=pure none:=by rfl)
  (h1:(assignEach [tg] X.env).map (·.2)=[assign tg X.env]:=by rfl):PS X (.Assign [tg] e pos) (nD te g):=by
 intro pins s σ H D I h
 refine wpAny_Assign_stores (bB (he pins s σ H _ I h) fun v s1 ⟨x,H1,I1,r1,q1⟩=>?_) hs hw
 rw[h1]
 exact bB (hg pins s1 σ H1 x v _ I1 r1 q1) fun _ s2 q=>q
theorem aC {i:Nat} {x:Str} {e:Expr} {te:TE} {pos':Pos} (hN:X.N.Nodup) (hi:X.N[i]?=some x) (hx:uW X.env.scope x) (he:PE X e te) (hs:swapsWith e (some (.Name x pos')) pos.line X.env=pure false:=by rfl) (hf:X.fn x=true\/X.env.scope.names.lookup x=some .local:=by first | exact .inl rfl | exact .inr rfl | assumption):
  PS X (.Assign [.Name x pos'] e pos) (nD te (bC i)):=by
 intro pins s σ H D I h
 refine wpAny_Assign_Name (bB (he pins s σ H _ I h) fun v s1 ⟨y,H1,I1,r1,q1⟩=>?_) hs
 exact kh I1 hN hi hx r1 (fun s2 I2=>⟨_,H1,I2,q1⟩) hf
end
section
variable {X:Cx} {pos:Pos}
end
structure It where
 go:Nat->Hp->Prop
 yld:Nat->Hp->V->Hp->Prop
 stop:Nat->Hp->Prop
def jy (X:Cx) (pins:List (Addr×Obj)) (H:Hp) (b:Addr):Prop:=
 H b=none/\b≠X.env.locals/\b∉X.fs/\(b∈X.ex\/X.s₀.heap.objs.size<=b)/\(∀x c,X.env.cells.lookup x=some c->c≠b)/\∀p∈X.pn++pins,p.1≠b
theorem Inv.fpOk {X:Cx} {pins:List (Addr×Obj)} {σ:St} {H H':Hp} {s:Shared} {b:Addr} (I:Inv X pins σ H s) (hb:s.heap.objs.size<=b) (hn:H' b=none):jy X pins H' b:=by
 refine⟨hn,zc (yb I.lt hb),I.nofs hb,.inr (yd I.sz hb),fun x c e z=>?_,fun p hp z=>?_⟩
 ·obtain⟨v,q⟩:=I.cell x c e
  exact absurd (yb q.lt (by rw[z];exact hb)) (y2 _)
 ·exact absurd (yb (Heap.lt_size (I.pin p hp).1) (by rw[z];exact hb)) (y2 _)
structure Turn (P:Program) (w:World) (K:PySem.W.Frag) (tg:Expr) (J:It) (fp:List Addr) (it:Addr) (tn:Nat->Heap->Prop):Prop where
 mem:it∈fp
 obj:∀i h,tn i h->∀b∈fp,∃o,h.get? b=some o/\∀v,o.data≠ .cell v
 keep:∀i h h',tn i h->(∀b∈fp,∀o,h.get? b=some o->h'.get? b=some o)->tn i h'
 item:∀(X:Cx),X.prog=P->X.w=w->X.K=K->X.calm=true->∀(i:Nat) (pins:List (Addr×Obj)) (s:Shared) (σ:St) (H:Hp) (E:Value->Shared->Prop),Inv X pins σ H s->(∀b∈fp,jy X pins H b)->tn i s.heap->J.go i H->
  wpAny (model P w) X.A (pyNext (.ref it)) (fun r s1=>∃u,r=some u/\
   wpAny (model P w) X.A (letOwnedTupleGo tg (.ref it) u) (fun _ s2=>∃x H',Inv X pins σ H' s2/\RelV x u/\J.yld i H x H'/\tn (i+1) s2.heap/\∀b∈fp,H' b=none) E s1) E s
 done:∀(X:Cx),X.prog=P->X.w=w->X.K=K->X.calm=true->∀(i:Nat) (pins:List (Addr×Obj)) (s:Shared) (σ:St) (H:Hp) (E:Value->Shared->Prop),Inv X pins σ H s->(∀b∈fp,jy X pins H b)->tn i s.heap->J.stop i H->
  wpAny (model P w) X.A (pyNext (.ref it)) (fun r s1=>r=none/\Inv X pins σ H s1) E s
 self:∀(A:Around) (i:Nat) (s:Shared) (Q:Value->Shared->Prop) (E:Value->Shared->Prop),tn i s.heap->Q (.ref it) s->wpAny (model P w) A (pyIter (.ref it)) Q E s
abbrev TI:=St->Hp->(It->Hp->Prop)->Prop
def w4 (X:Cx) (pins:List (Addr×Obj)) (σ:St) (tg:Expr) (R:It->Hp->Prop) (itv:Value) (s2:Shared):Prop:=
 ∃(it:Addr) (fp:List Addr) (tn:Nat->Heap->Prop) (J:It) (H':Hp),itv= .ref it/\Inv X pins σ H' s2/\Turn X.prog X.w X.K tg J fp it tn/\tn 0 s2.heap/\(∀b∈fp,jy X pins H' b)/\R J H'
def PI (X:Cx) (tg iter:Expr) (wi:TI):Prop:=
 ∀(pins:List (Addr×Obj)) (s:Shared) (σ:St) (H:Hp) (R:It->Hp->Prop),Inv X pins σ H s->wi σ H R->
  wpAny (model X.prog X.w) X.A (eval iter X.env) (fun v s1=>wpAny (model X.prog X.w) X.A (pyIter v) (w4 X pins σ tg R) X.xe s1) X.xe s
theorem oY {M:Model} {A:Around} {E:Value->Shared->Prop} {s:Shared} {tg:Expr} {it:Addr} {u:Value} {o:Obj} {n:String} {vs:Array Value} {Q:Unit->Shared->Prop} (ho:s.heap.get? it=some o) (hc:o.cls= .type n) (hd:o.data= .fields vs)
    (hn:["enumerate","zip","dict_itemiterator","dict_reverseitemiterator","odict_iterator","itertools.zip_longest","itertools.pairwise"].contains n=false) (hQ:Q () s):wpAny M A (letOwnedTupleGo tg (.ref it) u) Q E s:=by
  unfold letOwnedTupleGo
  cases tg<;>first
    | exact wpAny_pure hQ
    | (cases u<;>first
        | exact wpAny_pure hQ
        | (refine wpAny_bind (wpAny_load ho ?_)
           rw[hc,hd]
           show wpAny M A (if(["enumerate","zip","dict_itemiterator","dict_reverseitemiterator","odict_iterator","itertools.zip_longest","itertools.pairwise"].contains n&&vs[0]?==some (rawInt _))=true then _ else _) Q E s
           rw[if_neg (by intro h;rw[hn,yg]at h;cases h)]
           exact wpAny_pure hQ))
def mC (K:PySem.W.Frag) (a:Addr):It:=
 ⟨fun i H=>∃xs x,SqL K H a xs/\xs[i]?=some x,fun i H x H'=>H'=H/\∀xs,SqL K H a xs->xs[i]?=some x,fun i H=>∃xs,SqL K H a xs/\xs.length<=i⟩
def u5 (K:PySem.W.Frag) (a:Addr):It:=
 ⟨fun i H=>∃xs x,SqT K H a xs/\xs[i]?=some x,fun i H x H'=>H'=H/\∀xs,SqT K H a xs->xs[i]?=some x,fun i H=>∃xs,SqT K H a xs/\xs.length<=i⟩
def lA (lo:Int) (n:Nat):It:=⟨fun i _=>i<n,fun i H x H'=>H'=H/\x= .int (lo+i),fun i _=>n<=i⟩
theorem iW {P:Program} {w:World} {K:PySem.W.Frag} {tg:Expr} (a it:Addr):Turn P w K tg (mC K a) [it] it (fun i h=>h.IsListIter it a i) where
 mem:=by simp
 obj:=fun i h st b hb=>by
  have e:b=it:=by simpa using hb
  subst e
  obtain⟨o,e,c,d⟩:=st
  exact⟨o,e,fun v z=>by rw[d]at z;cases z⟩
 keep:=fun i h h' st k=>st.at fun o e=>k it (by simp) o e
 item:=by
  intro X hP hw hK hc i pins s σ H E I hf st hg
  subst hP hw hK
  obtain⟨xs,x,hq,hx⟩:=hg
  obtain⟨its,rv,p,hz⟩:=I.list hq
  obtain⟨u,hu,ru⟩:=rv.get hx
  obtain⟨f0,f1,f2,f3,f4,f5⟩:=hf it (by simp)
  refine wpAny_pyNext_list_item st p.isList (x:=u) (by simpa using hu) fun h' st' sb=>?_
  have I1:Inv X pins σ H {s with heap:=h'}:=I.turned (t':=s.toks) (fun b o hb e=>(sb.2 b hb).trans e) f0 f1 f3 f4 f5
  obtain⟨o,e,c,d⟩:=id st'
  exact⟨u,rfl,oY (s:={s with heap:=h'}) e c d (by decide) ⟨x,H,I1,ru,⟨rfl,fun ys hy=>by rw[I.list_inj hy hq];exact hx⟩,st',fun b hb=>(hf b hb).1⟩⟩
 done:=by
  intro X hP hw hK hc i pins s σ H E I hf st hg
  subst hP hw hK
  obtain⟨xs,hq,hx⟩:=hg
  obtain⟨its,rv,p,hz⟩:=I.list hq
  obtain⟨f0,f1,f2,f3,f4,f5⟩:=hf it (by simp)
  have hl:=rv.length
  exact wpAny_pyNext_list_end (I.ok.hd hc) st p.isList (by simp;omega) fun h' eb=>⟨rfl,I.turned (t':=s.toks) (fun b o hb e=>eb b o hb e) f0 f1 f3 f4 f5⟩
 self:=fun _ _ _ _ _ st h=>wpAny_pyIter_listiter st h
theorem gR {P:Program} {w:World} {K:PySem.W.Frag} {tg:Expr} (a it:Addr):Turn P w K tg (u5 K a) [it] it (fun i h=>h.IsTupleIter it a i) where
 mem:=by simp
 obj:=fun i h st b hb=>by
  have e:b=it:=by simpa using hb
  subst e
  obtain⟨o,e,c,d⟩:=st
  exact⟨o,e,fun v z=>by rw[d]at z;cases z⟩
 keep:=fun i h h' st k=>st.at fun o e=>k it (by simp) o e
 item:=by
  intro X hP hw hK hc i pins s σ H E I hf st hg
  subst hP hw hK
  obtain⟨xs,x,hq,hx⟩:=hg
  obtain⟨its,rv,p,hz⟩:=I.tuple hq
  obtain⟨u,hu,ru⟩:=rv.get hx
  obtain⟨f0,f1,f2,f3,f4,f5⟩:=hf it (by simp)
  refine wpAny_pyNext_tuple_item st (show s.heap.IsTuple a its.toArray from p) (x:=u) (by simpa using hu) fun h' st' sb=>?_
  have I1:Inv X pins σ H {s with heap:=h'}:=I.turned (t':=s.toks) (fun b o hb e=>(sb.2 b hb).trans e) f0 f1 f3 f4 f5
  obtain⟨o,e,c,d⟩:=id st'
  exact⟨u,rfl,oY (s:={s with heap:=h'}) e c d (by decide) ⟨x,H,I1,ru,⟨rfl,fun ys hy=>by rw[I.tuple_inj hy hq];exact hx⟩,st',fun b hb=>(hf b hb).1⟩⟩
 done:=by
  intro X hP hw hK hc i pins s σ H E I hf st hg
  subst hP hw hK
  obtain⟨xs,hq,hx⟩:=hg
  obtain⟨its,rv,p,hz⟩:=I.tuple hq
  obtain⟨f0,f1,f2,f3,f4,f5⟩:=hf it (by simp)
  have hl:=rv.length
  exact wpAny_pyNext_tuple_end (I.ok.hd hc) st (show s.heap.IsTuple a its.toArray from p) (by simp;omega) fun h' eb=>⟨rfl,I.turned (t':=s.toks) (fun b o hb e=>eb b o hb e) f0 f1 f3 f4 f5⟩
 self:=fun _ _ _ _ _ st h=>wpAny_pyIter_tupleiter st h
theorem lF {P:Program} {w:World} {K:PySem.W.Frag} {tg:Expr} (it:Addr) (lo:Int) (n:Nat):Turn P w K tg (lA lo n) [it] it (fun i h=>IsRangeIter h it (lo+(i:Nat)*1) ((n:Int)-(i:Nat)) 1) where
 mem:=by simp
 obj:=fun i h st b hb=>by
  have e:b=it:=by simpa using hb
  subst e
  exact⟨_,st,fun v z=>by
   have z':Data.fields _=Data.cell v:=z
   cases z'⟩
 keep:=fun i h h' st k=>k it (by simp) _ st
 item:=by
  intro X hP hw hK hc i pins s σ H E I hf st hg
  subst hP hw hK
  obtain⟨f0,f1,f2,f3,f4,f5⟩:=hf it (by simp)
  have W:=Walks.range (prog:=X.prog) (w:=X.w) (I.ok.hd hc) it lo 1 n
  refine W.item i s _ _ hg st fun v h' tk hv st' kk=>?_
  obtain⟨t,rfl⟩:=hv
  have I1:Inv X pins σ H {s with heap:=h',toks:=tk}:=I.turned (fun b o hb e=>kk b o (by simpa using hb) e) f0 f1 f3 f4 f5
  refine⟨_,rfl,oY (s:={s with heap:=h',toks:=tk}) (n:="range_iterator") st' rfl rfl (by decide) ⟨.int (lo+i),H,I1,⟨t,?_⟩,⟨rfl,rfl⟩,st',fun b hb=>(hf b hb).1⟩⟩
  rw[Int.mul_one]
 done:=by
  intro X hP hw hK hc i pins s σ H E I hf st hg
  subst hP hw hK
  obtain⟨f0,f1,f2,f3,f4,f5⟩:=hf it (by simp)
  exact wpAny_pyNext_range_end (I.ok.hd hc) st (by have:n<=i:=hg;omega) fun h' eb=>⟨rfl,I.turned (t':=s.toks) (fun b o hb e=>eb b o hb e) f0 f1 f3 f4 f5⟩
 self:=fun _ _ _ _ _ st h=>wpAny_pyIter_rangeiter st h
section
variable {X:Cx} {tg:Expr}
def sI (K:PySem.W.Frag) (tl:TE):TI:=fun σ H R=>tl σ H fun x H1=>∃a,x= .ref a/\(∃xs,SqL K H1 a xs)/\R (mC K a) H1
def u6 (K:PySem.W.Frag) (tl:TE):TI:=fun σ H R=>tl σ H fun x H1=>∃a,x= .ref a/\(∃xs,SqT K H1 a xs)/\R (u5 K a) H1
theorem rj {l:Expr} {tl:TE} (hl:PE X l tl):PI X tg l (sI X.K tl):=by
 intro pins s σ H R I h
 refine bB (hl pins s σ H _ I h) fun v s1 hq__=>?_
 obtain⟨x,H1,I1,r1,q1⟩:=hq__
 obtain⟨a,e,⟨xs,hq⟩,q⟩:=q1
 subst e
 cases r1
 obtain⟨its,rv,p,hz⟩:=I1.list hq
 refine wpAny_pyIter_list p.isList ?_
 refine⟨s1.heap.objs.size,[s1.heap.objs.size],_,_,H1,rfl,I1.kept (t':=s1.toks) fun b o e=>Heap.get?_push_of_some _ e,iW a _,⟨_,Heap.get?_push_size _ rfl,rfl,rfl⟩,fun b hb=>?_,q⟩
 have e:b=s1.heap.objs.size:=by simpa using hb
 subst e
 exact I1.fpOk (xQ _) (I1.hok.fresh (xQ _))
theorem tI {l:Expr} {tl:TE} (hl:PE X l tl):PI X tg l (u6 X.K tl):=by
 intro pins s σ H R I h
 refine bB (hl pins s σ H _ I h) fun v s1 hq__=>?_
 obtain⟨x,H1,I1,r1,q1⟩:=hq__
 obtain⟨a,e,⟨xs,hq⟩,q⟩:=q1
 subst e
 cases r1
 obtain⟨its,rv,p,hz⟩:=I1.tuple hq
 refine wpAny_pyIter_tuple (show s1.heap.IsTuple a its.toArray from p) ?_
 refine⟨s1.heap.objs.size,[s1.heap.objs.size],_,_,H1,rfl,I1.kept (t':=s1.toks) fun b o e=>Heap.get?_push_of_some _ e,gR a _,⟨_,Heap.get?_push_size _ rfl,rfl,rfl⟩,fun b hb=>?_,q⟩
 have e:b=s1.heap.objs.size:=by simpa using hb
 subst e
 exact I1.fpOk (xQ _) (I1.hok.fresh (xQ _))
theorem kj {pins:List (Addr×Obj)} {σ:St} {H:Hp} {s:Shared} {R:It->Hp->Prop} {E:Value->Shared->Prop} {lo hi:Int} {t u v:Tok} {tk:Nat} (I:Inv X pins σ H s) (h1: -(2^62)<=lo) (h2:lo<2^62) (h3: -(2^62)<=hi) (h4:hi<2^62)
  (q:R (lA lo (hi-lo).toNat) H):wpAny (model X.prog X.w) X.A (pyIter (.ref s.heap.objs.size)) (w4 X pins σ tg R) E {s with heap:=s.heap.push {cls:= .type "range",data:= .fields #[.int lo t,.int hi u,.int 1 v]},toks:=tk}:=by
 refine wpAny_pyIter_range (IsRange.new ..) (small_one h1 h2 h3 h4) ?_
 have I1:Inv X pins σ H {s with heap:=s.heap.push {cls:= .type "range",data:= .fields #[.int lo t,.int hi u,.int 1 v]},toks:=tk}:=I.kept fun b o e=>Heap.get?_push_of_some _ e
 refine⟨(s.heap.push {cls:= .type "range",data:= .fields #[.int lo t,.int hi u,.int 1 v]}).objs.size,[(s.heap.push {cls:= .type "range",data:= .fields #[.int lo t,.int hi u,.int 1 v]}).objs.size],_,_,H,rfl,
  I1.kept (t':=tk) fun b o e=>Heap.get?_push_of_some _ e,lF _ lo (hi-lo).toNat,?_,fun b hb=>?_,q⟩
 ·have e1:lo+((0:Nat):Int)*1=lo:=by simp
  have e2:(((hi-lo).toNat:Nat):Int)-((0:Nat):Int)=Builtin.Range.rangeSize lo hi 1:=by rw[rangeSize_one];split<;>omega
  show IsRangeIter _ _ (lo+((0:Nat):Int)*1) ((((hi-lo).toNat:Nat):Int)-((0:Nat):Int)) 1
  rw[e1,e2]
  exact Heap.get?_push_size _ rfl
 ·have e:b=(s.heap.push {cls:= .type "range",data:= .fields #[.int lo t,.int hi u,.int 1 v]}).objs.size:=by simpa using hb
  subst e
  exact I1.fpOk (xQ _) (I1.hok.fresh (xQ _))
def u7 (ta:TA):TI:=fun σ H R=>ta σ H fun vs H1=>∃j:Int,vs=[.int j]/\ -(2^62)<=j/\j<2^62/\R (lA 0 j.toNat) H1
def u9 (ta:TA):TI:=fun σ H R=>ta σ H fun vs H1=>∃i j:Int,vs=[.int i,.int j]/\(-(2^62)<=i/\i<2^62/\ -(2^62)<=j/\j<2^62)/\R (lA i (j-i).toNat) H1
theorem aU {a:Expr} {ta:TA} {p pos:Pos} (hg:Gl X "range") (hm:X.mg "range"=none) (ha:PA X [a] ta) (hs:starEach [a] X.env=[(false,eval a X.env)]:=by rfl):PI X tg (.Call (.Name "range" p) [a] [] pos) (u7 ta):=by
 intro pins s σ H R I h
 refine Call_ (fR I hg hm boot_range (PyProof.Rows.callWith_type1 (bB (ha pos pins s σ H _ I h) fun us s1 ⟨vs,H1,I1,r1,q1⟩=>?_) hs rfl))
 obtain⟨j,e,q1,q2,q⟩:=q1
 subst e
 cases r1 with
 | cons r rr=>
  cases rr
  obtain⟨t,rfl⟩:=r
  exact call_range_1 (kj I1 (by omega) (by omega) q1 q2 (by simpa using q))
theorem iX {a b:Expr} {ta:TA} {p pos:Pos} (hg:Gl X "range") (hm:X.mg "range"=none) (ha:PA X [a,b] ta) (hs:starEach [a,b] X.env=[(false,eval a X.env),(false,eval b X.env)]:=by rfl) (hs2:starEach [b] X.env=[(false,eval b X.env)]:=by rfl):
  PI X tg (.Call (.Name "range" p) [a,b] [] pos) (u9 ta):=by
 intro pins s σ H R I h
 refine Call_ (fR I hg hm boot_range (PyProof.Rows.callWith_type1 (bB (ha pos pins s σ H _ I h) fun us s1 ⟨vs,H1,I1,r1,q1⟩=>?_) (by rw[hs,hs2]) (by rw[hs2];rfl)))
 obtain⟨i,j,e,⟨q1,q2,q3,q4⟩,q⟩:=q1
 subst e
 cases r1 with
 | cons r rr=>
  cases rr with
  | cons r' rr=>
   cases rr
   obtain⟨t,rfl⟩:=r
   obtain⟨t',rfl⟩:=r'
   exact call_range_2 (kj I1 q1 q2 q3 q4 q)
def wF (wi:TI) (g:TG) (tb:TS):TS:=fun D σ H=>wi σ H fun J H1=>∃W:Nat->Nat->St->Hp->Prop,(∃m,W 0 m σ H1)/\∀i m σ H,W i m σ H->
 (J.stop i H/\D.nx σ H)\/(J.go i H/\∃N:St->Hp->Prop,(∀σ' H',N σ' H'->∃m',m'<m/\W (i+1) m' σ' H')/\∀x H',J.yld i H x H'->g x σ H' fun σ2 H2=>tb {D with nx:=N,ct:=N,bk:=D.nx} σ2 H2)
def gS (fp:List Addr) (h:Heap):List (Addr×Obj):=fp.filterMap fun b=>(h.get? b).map fun o=>(b,o)
theorem cV {fp:List Addr} {h:Heap} {b:Addr} {o:Obj} (hb:b∈fp) (e:h.get? b=some o):(b,o)∈gS fp h:=zA.mpr ⟨b,hb,by rw[e];rfl⟩
theorem nE {fp:List Addr} {h:Heap} {p:Addr×Obj} (hp:p∈gS fp h):p.1∈fp/\h.get? p.1=some p.2:=by
 obtain⟨b,hb,e⟩:=zA.mp hp
 cases q:h.get? b with
 | none=>rw[q]at e;cases e
 | some o=>
  rw[q]at e
  have e':(b,o)=p:=Option.some.inj e
  subst e'
  exact⟨hb,q⟩
theorem Inv.pinned {pins:List (Addr×Obj)} {σ:St} {H:Hp} {s:Shared} {fp:List Addr} (I:Inv X pins σ H s) (hf:∀b∈fp,jy X pins H b) (ho:∀b∈fp,∃o,s.heap.get? b=some o/\∀v,o.data≠ .cell v):Inv X (pins++gS fp s.heap) σ H s:=
 I.pins_of fun p hp=>(ye.mp hp).elim (fun z=>I.pin p (yk _ z)) fun z=>by
  obtain⟨hb,e⟩:=nE z
  obtain⟨f0,f1,f2,_⟩:=hf p.1 hb
  obtain⟨o,e',d⟩:=ho p.1 hb
  rw[e]at e';cases e'
  exact⟨e,f0,f1,f2,d⟩
theorem Inv.unpinned {pins pl:List (Addr×Obj)} {σ:St} {H:Hp} {s:Shared} (I:Inv X (pins++pl) σ H s):Inv X pins σ H s:=I.pins_of fun p hp=>I.pin p (yk _ (za _ hp))
theorem bX {iter:Expr} {body:List Stmt} {wi:TI} {g:TG} {tb:TS} {pos:Pos} (hp:PassesOwn (model X.prog X.w) X.A X.env X.xe) (hc:X.calm=true) (hi:PI X tg iter wi) (hg:PG X tg g) (hb:PSs X body tb)
  (hs:∀x,foldedSetIterable iter X.env x=pure x:=by intro _;rfl):PS X (.For tg iter body [] pos) (wF wi g tb):=by
 intro pins s σ H D I h
 refine wpAny_For (bB (hi pins s σ H _ I h) fun v s1 h1=>bB h1 fun itv s2 h2=>?_) hs
 obtain⟨it,fp,tn,J,H2,e,I2,T,st2,f2,W,⟨m0,w0⟩,turn⟩:=h2
 subst e
 have stat:∀{H':Hp},(∀b∈fp,H' b=none)->∀b∈fp,jy X pins H' b:=fun hn b hb=>⟨hn b hb,(f2 b hb).2⟩
 refine codeAny_forLoop_any (fun n s'=>∃i σ' H',Inv X pins σ' H' s'/\tn i s'.heap/\(∀b∈fp,H' b=none)/\W i n σ' H') ?_ m0 ⟨0,σ,H2,I2,st2,fun b hb=>(f2 b hb).1,w0⟩
 rintro n s3 ⟨i,σ3,H3,I3,st3,fr3,w3⟩
 rcases turn i n σ3 H3 w3 with⟨stop,qn⟩ | ⟨go,N,hN,step⟩
 ·refine wpAny_passesOwn hp (bB (T.done X rfl rfl rfl hc i pins s3 σ3 H3 X.xe I3 (stat fr3) st3 stop) fun r s4 hq__=>?_)
  obtain⟨hr,I4⟩:=hq__
  subst hr
  exact wpAny_execs_nil ⟨σ3,H3,I4,qn⟩
 ·refine wpAny_passesOwn hp (bB (T.item X rfl rfl rfl hc i pins s3 σ3 H3 X.xe I3 (stat fr3) st3 go) fun r s4 hq__=>?_)
  obtain⟨u,hr,h4⟩:=hq__
  subst hr
  refine wpAny_passesOwn hp (bB h4 fun _ s5 hq__=>?_)
  obtain⟨x,H5,I5,r5,y5,st5,fr5⟩:=hq__
  have I5':=I5.pinned (stat fr5) (T.obj _ _ st5)
  refine wpAny_passesOwn hp (bB (hg _ s5 σ3 H5 x u _ I5' r5 (step x H5 y5)) fun _ s6 hq__=>?_)
  obtain⟨σ6,H6,I6,q6⟩:=hq__
  refine wpAny_passesOwn hp (bB (hb _ s6 σ6 H6 _ I6 q6) fun f s7 q7=>?_)
  have again:∀{σ7:St} {H7:Hp},Inv X (pins++gS fp s5.heap) σ7 H7 s7->N σ7 H7->∃m,m<n/\∃i σ' H',Inv X pins σ' H' s7/\tn i s7.heap/\(∀b∈fp,H' b=none)/\W i m σ' H':=fun {σ7 H7} I7 n7=>by
   obtain⟨m',hm,w7⟩:=hN σ7 H7 n7
   refine⟨m',hm,i+1,σ7,H7,I7.unpinned,T.keep _ _ _ st5 fun b hb o e=>(I7.pin (b,o) (yk _ (yk _ (cV hb e)))).1,fun b hb=>?_,w7⟩
   obtain⟨o,e,d⟩:=T.obj _ _ st5 b hb
   exact(I7.pin (b,o) (yk _ (yk _ (cV hb e)))).2.1
  cases f with
  | next=>obtain⟨σ7,H7,I7,n7⟩:=q7;exact again I7 n7
  | cont=>obtain⟨σ7,H7,I7,n7⟩:=q7;exact again I7 n7
  | brk=>obtain⟨σ7,H7,I7,q7⟩:=q7;exact⟨σ7,H7,I7.unpinned,q7⟩
  | ret v=>obtain⟨x7,σ7,H7,I7,r7,q7⟩:=q7;exact⟨x7,σ7,H7,I7.unpinned,r7,q7⟩
end
theorem dz {K:PySem.W.Frag} {a:Addr} {xs:List V} {g:TG} {tb:TS} {D:Ends} {σ:St} {H:Hp} (Pv:Nat->St->Hp->Prop) (h0:Pv 0 σ H) (hl:∀i σ H,i<=xs.length->Pv i σ H->SqL K H a xs)
  (hs:∀i x σ H,xs[i]?=some x->Pv i σ H->g x σ H fun σ2 H2=>tb {D with nx:=Pv (i+1),ct:=Pv (i+1),bk:=D.nx} σ2 H2) (hd:∀σ H,Pv xs.length σ H->D.nx σ H):
  ∃W:Nat->Nat->St->Hp->Prop,(∃m,W 0 m σ H)/\∀i m σ H,W i m σ H->
   ((mC K a).stop i H/\D.nx σ H)\/((mC K a).go i H/\∃N:St->Hp->Prop,(∀σ' H',N σ' H'->∃m',m'<m/\W (i+1) m' σ' H')/\∀x H',(mC K a).yld i H x H'->g x σ H' fun σ2 H2=>tb {D with nx:=N,ct:=N,bk:=D.nx} σ2 H2):=by
 refine⟨fun i m σ H=>m=xs.length-i/\i<=xs.length/\Pv i σ H,⟨xs.length,by simp,yx _,h0⟩,?_⟩
 rintro i m σ H ⟨rfl,hi,p⟩
 have q:=hl i σ H hi p
 by_cases hlt:i<xs.length
 ·refine .inr ⟨⟨xs,xs[i],q,by simp[hlt]⟩,Pv (i+1),fun σ' H' p'=>⟨xs.length-(i+1),yI _ _ hlt,rfl,hlt,p'⟩,fun x H' y=>?_⟩
  obtain⟨e,y⟩:=y
  subst e
  exact hs i x σ _ (y xs q) p
 ·have e:i=xs.length:=yW hi (yH hlt)
  subst e
  exact .inl ⟨⟨xs,q,xQ _⟩,hd σ H p⟩
theorem bH {lo:Int} {n:Nat} {g:TG} {tb:TS} {D:Ends} {σ:St} {H:Hp} (Pv:Nat->St->Hp->Prop) (h0:Pv 0 σ H)
  (hs:∀i σ H,i<n->Pv i σ H->g (.int (lo+i)) σ H fun σ2 H2=>tb {D with nx:=Pv (i+1),ct:=Pv (i+1),bk:=D.nx} σ2 H2) (hd:∀σ H,Pv n σ H->D.nx σ H):
  ∃W:Nat->Nat->St->Hp->Prop,(∃m,W 0 m σ H)/\∀i m σ H,W i m σ H->
   ((lA lo n).stop i H/\D.nx σ H)\/((lA lo n).go i H/\∃N:St->Hp->Prop,(∀σ' H',N σ' H'->∃m',m'<m/\W (i+1) m' σ' H')/\∀x H',(lA lo n).yld i H x H'->g x σ H' fun σ2 H2=>tb {D with nx:=N,ct:=N,bk:=D.nx} σ2 H2):=by
 refine⟨fun i m σ H=>m=n-i/\i<=n/\Pv i σ H,⟨n,by simp,yx _,h0⟩,?_⟩
 rintro i m σ H ⟨rfl,hi,p⟩
 by_cases hlt:i<n
 ·refine .inr ⟨hlt,Pv (i+1),fun σ' H' p'=>⟨n-(i+1),yI _ _ hlt,rfl,hlt,p'⟩,fun x H' y=>?_⟩
  obtain⟨e,y⟩:=y
  subst e y
  exact hs i σ _ hlt p
 ·have e:i=n:=yW hi (yH hlt)
  subst e
  exact .inl ⟨xQ _,hd σ H p⟩
abbrev R2:=V->V->Hp->VK->Prop
def dw (X:Cx) (f:Value->Value->Sem Value) (r:R2):Prop:=
 ∀(pins:List (Addr×Obj)) (s:Shared) (σ:St) (H:Hp) (x y:V) (v u:Value) (Q:VK),Inv X pins σ H s->RelV x v->RelV y u->r x y H Q->
  wpAny (model X.prog X.w) X.A (f v u) (EP X pins σ Q) X.xe s
def v7 (X:Cx) (f:Value->Sem Value) (r:V->Hp->VK->Prop):Prop:=
 ∀(pins:List (Addr×Obj)) (s:Shared) (σ:St) (H:Hp) (x:V) (v:Value) (Q:VK),Inv X pins σ H s->RelV x v->r x H Q->
  wpAny (model X.prog X.w) X.A (f v) (EP X pins σ Q) X.xe s
def bL (X:Cx) (f:Value) (r:List V->Hp->VK->Prop):Prop:=
 ∀(pins:List (Addr×Obj)) (s:Shared) (σ:St) (H:Hp) (xs:List V) (us:List Value) (Q:VK),Inv X pins σ H s->Vals xs us->r xs H Q->
  wpAny (model X.prog X.w) X.A (call f us) (EP X pins σ Q) X.xe s
def wG (X:Cx) (r:V->Hp->(Bool->Hp->Prop)->Prop):Prop:=
 ∀(pins:List (Addr×Obj)) (s:Shared) (σ:St) (H:Hp) (x:V) (v:Value) (Q:Bool->Hp->Prop),Inv X pins σ H s->RelV x v->r x H Q->
  wpAny (model X.prog X.w) X.A (truthy v) (TP X pins σ Q) X.xe s
def oP (r:R2) (ta tb:TE):TE:=fun σ H Q=>ta σ H fun x H1=>tb σ H1 fun y H2=>r x y H2 Q
def w6 (r:V->Hp->VK->Prop) (ta:TE):TE:=fun σ H Q=>ta σ H fun x H1=>r x H1 Q
def rI (C:Int->Int->Prop) (g:Int->Int->V):R2:=fun x y H Q=>∃i j,x= .int i/\y= .int j/\C i j/\Q (g i j) H
def sJ (g:Int->Int->V):R2:=fun x y H Q=>∃i j,x= .int i/\y= .int j/\Q (g i j) H
def rU (g:Int->V):V->Hp->VK->Prop:=fun x H Q=>∃i,x= .int i/\Q (g i) H
section
variable {X:Cx} {a b c:Expr} {ta tb tc:TE} {pos:Pos}
theorem tJ (ha:PE X a ta) (hb:PE X b tb) {pins:List (Addr×Obj)} {s:Shared} {σ:St} {H:Hp} {R:V->V->Hp->Prop} (I:Inv X pins σ H s)
  (h:ta σ H fun x H1=>tb σ H1 fun y H2=>R x y H2) {Q:Value->Shared->Prop} {f:Value->Value->Sem Value}
  (hf:∀v u s2 x y H2,Inv X pins σ H2 s2->RelV x v->RelV y u->R x y H2->wpAny (model X.prog X.w) X.A (f v u) Q X.xe s2):
  wpAny (model X.prog X.w) X.A (eval a X.env) (fun v s₁=>wpAny (model X.prog X.w) X.A (eval b X.env) (fun u s₂=>wpAny (model X.prog X.w) X.A (f v u) Q X.xe s₂) X.xe s₁) X.xe s:=by
 refine bB (ha pins s σ H _ I h) fun v s1 hq__=>?_
 obtain⟨x,H1,I1,r1,q1⟩:=hq__
 refine bB (hb pins s1 σ H1 _ I1 q1) fun u s2 hq__=>?_
 obtain⟨y,H2,I2,r2,q2⟩:=hq__
 exact hf v u s2 x y H2 I2 r1 r2 q2
theorem ao {op:Operator} {r:R2} (ho:dw X (binaryOp op) r) (ha:PE X a ta) (hb:PE X b tb):PE X (.BinOp a op b pos) (oP r ta tb):=by
 intro pins s σ H Q I h
 exact wpAny_BinOp (tJ ha hb I h fun v u s2 x y H2 I2 rx ry q=>ho pins s2 σ H2 x y v u Q I2 rx ry q)
theorem sL {op:UnaryOp} {r:V->Hp->VK->Prop} (ho:v7 X (unaryOp op) r) (ha:PE X a ta):PE X (.UnaryOp op a pos) (w6 r ta):=by
 intro pins s σ H Q I h
 exact UnaryOp_ (bB (ha pins s σ H _ I h) fun v s1 ⟨x,H1,I1,r1,q1⟩=>ho pins s1 σ H1 x v Q I1 r1 q1)
theorem v8 {f:Value->Value->Sem Value} {C:Int->Int->Prop} {g:Int->Int->Int}
  (rule:∀(i j:Int) (t u:Tok) (s:Shared) (Q:Value->Shared->Prop) (E:Value->Shared->Prop),C i j->Q (.int (g i j) s.toks) {s with toks:=s.toks+1}->wpAny (model X.prog X.w) X.A (f (.int i t) (.int j u)) Q E s):
  dw X f (rI C fun i j=> .int (g i j)):=by
 intro pins s σ H x y v u Q I rx ry h
 obtain⟨i,j,rfl,rfl,hc,q⟩:=h
 obtain⟨t,rfl⟩:=rx
 obtain⟨t',rfl⟩:=ry
 exact rule i j t t' s _ _ hc ⟨.int (g i j),H,I.tok _,⟨_,rfl⟩,q⟩
theorem va {f:Value->Value->Sem Value} {g:Int->Int->Int}
  (rule:∀(i j:Int) (t u:Tok) (s:Shared) (Q:Value->Shared->Prop) (E:Value->Shared->Prop),Q (.int (g i j) s.toks) {s with toks:=s.toks+1}->wpAny (model X.prog X.w) X.A (f (.int i t) (.int j u)) Q E s):
  dw X f (sJ fun i j=> .int (g i j)):=by
 intro pins s σ H x y v u Q I rx ry h
 obtain⟨i,j,rfl,rfl,q⟩:=h
 obtain⟨t,rfl⟩:=rx
 obtain⟨t',rfl⟩:=ry
 exact rule i j t t' s _ _ ⟨.int (g i j),H,I.tok _,⟨_,rfl⟩,q⟩
theorem tK {f:Value->Value->Sem Value} {g:Int->Int->Bool}
  (rule:∀(i j:Int) (t u:Tok) (s:Shared) (Q:Value->Shared->Prop) (E:Value->Shared->Prop),Q (.bool (g i j)) s->wpAny (model X.prog X.w) X.A (f (.int i t) (.int j u)) Q E s):
  dw X f (sJ fun i j=> .bl (g i j)):=by
 intro pins s σ H x y v u Q I rx ry h
 obtain⟨i,j,rfl,rfl,q⟩:=h
 obtain⟨t,rfl⟩:=rx
 obtain⟨t',rfl⟩:=ry
 exact rule i j t t' s _ _ ⟨.bl (g i j),H,I,rfl,q⟩
def kl (i j:Int):Prop:=0<j/\j<1073741824
def oZ (i j:Int):Prop:=0<=j/\j<=1000000/\i.natAbs<2^64
def CMul (i j:Int):Prop:=(-(2^64)<i/\i<2^64)\/(-(2^64)<j/\j<2^64)
theorem CMul.ok {i j:Int} (h:CMul i j):IntMulOk i j:=by
 rcases h with⟨h1,h2⟩ | ⟨h1,h2⟩
 ·exact .of_left (intBits_le_64 h1 h2)
 ·exact .of_right (intBits_le_64 h1 h2)
theorem bE:dw X (binaryOp .Add) (sJ fun i j=> .int (i+j)):=va fun _ _ _ _ _ _ _ q=>add_int q
theorem dA:dw X (binaryOp .Sub) (sJ fun i j=> .int (i-j)):=va fun _ _ _ _ _ _ _ q=>sub_int q
theorem fT:dw X (binaryOp .Mult) (rI CMul fun i j=> .int (i*j)):=v8 fun _ _ _ _ _ _ _ hc q=>mul_int q hc.ok
theorem bf:dw X (binaryOp .FloorDiv) (rI kl fun i j=> .int (i/j)):=v8 fun i j _ _ _ _ _ hc q=>by
 have h1:(0:Int)<j:=hc.1
 have h2:j<1073741824:=hc.2
 exact floordiv_int (by omega) (by rw[Int.fdiv_eq_ediv_of_nonneg i (by omega)];exact q) (.inl (PyProof.noPylong_small (by omega)))
theorem aQ:dw X (binaryOp .Mod) (rI (fun _ j=>0<j) fun i j=> .int (i%j)):=v8 fun i j _ _ _ _ _ hc q=>by
 have h1:(0:Int)<j:=hc
 exact mod_int' (by omega) (by rw[Int.fmod_eq_emod_of_nonneg i (by omega)];exact q)
theorem lG:dw X (binaryOp .Pow) (rI oZ fun i j=> .int (i^j.toNat)):=v8 fun _ _ _ _ _ _ _ hc q=>pow_int_small hc.1 hc.2.1 hc.2.2 q
theorem xo {f:Value->Sem Value} {g:Int->Int}
  (rule:∀(i:Int) (t:Tok) (s:Shared) (Q:Value->Shared->Prop) (E:Value->Shared->Prop),Q (.int (g i) s.toks) {s with toks:=s.toks+1}->wpAny (model X.prog X.w) X.A (f (.int i t)) Q E s):
  v7 X f (rU fun i=> .int (g i)):=by
 intro pins s σ H x v Q I rx h
 obtain⟨i,rfl,q⟩:=h
 obtain⟨t,rfl⟩:=rx
 exact rule i t s _ _ ⟨.int (g i),H,I.tok _,⟨_,rfl⟩,q⟩
theorem o4:v7 X (unaryOp .USub) (rU fun i=> .int (-i)):=xo fun _ _ _ _ _ q=>neg_int q
end
def nF:V->V->Bool
 | .non,.non=>true | .non,.int _=>true | .int _,.non=>true | .non,.bl _=>true | .bl _,.non=>true | .non,.str _=>true | .str _,.non=>true
 | .int _,.int _=>true | .bl _,.bl _=>true | .str _,.str _=>true | .byt _,.byt _=>true
 | .int _,.str _=>true | .str _,.int _=>true | .bl _,.str _=>true | .str _,.bl _=>true
 | _,_=>false
def xp:R2:=fun x y H Q=>nF x y=true/\Q (.bl (decide (x=y))) H
def xq:R2:=fun x y H Q=>nF x y=true/\Q (.bl (!decide (x=y))) H
theorem dec_int {i j:Int}:decide (V.int i=V.int j)=(i==j):=by
 rw[zf]
 simp
theorem o5 {i j:Bool}:decide (V.bl i=V.bl j)=(i==j):=by
 rw[zf]
 simp
theorem mD {i j:Str}:decide (V.str i=V.str j)=(i==j):=by
 rw[zf]
 simp
theorem mE {i j:Array UInt8}:decide (V.byt i=V.byt j)=(i.toList==j.toList):=by
 rw[zf]
 cases i
 cases j
 simp
section
variable {X:Cx} {a b c:Expr} {ta tb tc:TE} {pos:Pos}
theorem aG {pins:List (Addr×Obj)} {σ:St} {H:Hp} {s:Shared} {Q:VK} {k k':Bool} (I:Inv X pins σ H s) (q:Q (.bl k) H) (e:k=k'):EP X pins σ Q (.bool k') s:=by
 subst e
 exact⟨.bl k,H,I,rfl,q⟩
theorem bM:dw X (compareOp .Eq) xp:=by
 intro pins s σ H x y v u Q I rx ry h
 obtain⟨hs,q⟩:=h
 cases x with
 | non=>
  cases rx
  cases y with
  | non=>cases ry;exact PySem.EqNone.eq_none_none (aG I q (by simp))
  | bl j=>cases ry;exact PySem.EqNone.eq_none_bool (aG I q (by simp))
  | int j=>obtain⟨t',rfl⟩:=ry;exact PySem.EqNone.eq_none_int (aG I q (by simp))
  | str j=>obtain⟨t',rfl⟩:=ry;exact PySem.EqNone.eq_none_str (aG I q (by simp))
  | _=>exact absurd (show false=true from hs) xW
 | bl i=>
  cases rx
  cases y with
  | non=>cases ry;exact PySem.EqNone.eq_bool_none (aG I q (by simp))
  | bl j=>cases ry;exact eq_bool (aG I q o5)
  | str j=>obtain⟨t',rfl⟩:=ry;exact PySem.EqMixed.eq_bool_str (aG I q (by simp))
  | _=>exact absurd (show false=true from hs) xW
 | int i=>
  obtain⟨t,rfl⟩:=rx
  cases y with
  | non=>cases ry;exact PySem.EqNone.eq_int_none (aG I q (by simp))
  | int j=>obtain⟨t',rfl⟩:=ry;exact eq_int (aG I q dec_int)
  | str j=>obtain⟨t',rfl⟩:=ry;exact PySem.EqMixed.eq_int_str (aG I q (by simp))
  | _=>exact absurd (show false=true from hs) xW
 | str i=>
  obtain⟨t,rfl⟩:=rx
  cases y with
  | non=>cases ry;exact PySem.EqNone.eq_str_none (aG I q (by simp))
  | bl j=>cases ry;exact PySem.EqMixed.eq_str_bool (aG I q (by simp))
  | int j=>obtain⟨t',rfl⟩:=ry;exact PySem.EqMixed.eq_str_int (aG I q (by simp))
  | str j=>obtain⟨t',rfl⟩:=ry;exact eq_str (aG I q mD)
  | _=>exact absurd (show false=true from hs) xW
 | byt i=>
  obtain⟨t,rfl⟩:=rx
  cases y with
  | byt j=>obtain⟨t',rfl⟩:=ry;exact PySem.W.eq_bytes (aG I q mE)
  | _=>exact absurd (show false=true from hs) xW
 | _=>cases y<;>exact absurd (show false=true from hs) xW
theorem mF:dw X (compareOp .NotEq) xq:=by
 intro pins s σ H x y v u Q I rx ry h
 obtain⟨hs,q⟩:=h
 cases x with
 | non=>
  cases rx
  cases y with
  | non=>cases ry;exact PySem.EqNone.ne_none_none (aG I q (by simp))
  | bl j=>cases ry;exact PySem.EqNone.ne_none_bool (aG I q (by simp))
  | int j=>obtain⟨t',rfl⟩:=ry;exact PySem.EqNone.ne_none_int (aG I q (by simp))
  | str j=>obtain⟨t',rfl⟩:=ry;exact PySem.EqNone.ne_none_str (aG I q (by simp))
  | _=>exact absurd (show false=true from hs) xW
 | bl i=>
  cases rx
  cases y with
  | non=>cases ry;exact PySem.EqNone.ne_bool_none (aG I q (by simp))
  | bl j=>cases ry;exact ne_bool (aG I q (congrArg not o5))
  | str j=>obtain⟨t',rfl⟩:=ry;exact PySem.EqMixed.ne_bool_str (aG I q (by simp))
  | _=>exact absurd (show false=true from hs) xW
 | int i=>
  obtain⟨t,rfl⟩:=rx
  cases y with
  | non=>cases ry;exact PySem.EqNone.ne_int_none (aG I q (by simp))
  | int j=>obtain⟨t',rfl⟩:=ry;exact ne_int (aG I q (congrArg not dec_int))
  | str j=>obtain⟨t',rfl⟩:=ry;exact PySem.EqMixed.ne_int_str (aG I q (by simp))
  | _=>exact absurd (show false=true from hs) xW
 | str i=>
  obtain⟨t,rfl⟩:=rx
  cases y with
  | non=>cases ry;exact PySem.EqNone.ne_str_none (aG I q (by simp))
  | bl j=>cases ry;exact PySem.EqMixed.ne_str_bool (aG I q (by simp))
  | int j=>obtain⟨t',rfl⟩:=ry;exact PySem.EqMixed.ne_str_int (aG I q (by simp))
  | str j=>obtain⟨t',rfl⟩:=ry;exact ne_str (aG I q (congrArg not mD))
  | _=>exact absurd (show false=true from hs) xW
 | byt i=>
  obtain⟨t,rfl⟩:=rx
  cases y with
  | byt j=>obtain⟨t',rfl⟩:=ry;exact PySem.W.ne_bytes (aG I q (congrArg not mE))
  | _=>exact absurd (show false=true from hs) xW
 | _=>cases y<;>exact absurd (show false=true from hs) xW
theorem cQ:dw X (compareOp .Lt) (sJ fun i j=> .bl (decide (i<j))):=tK fun _ _ _ _ _ _ _ q=>lt_int q
theorem mG:dw X (compareOp .LtE) (sJ fun i j=> .bl (decide (i<=j))):=tK fun _ _ _ _ _ _ _ q=>le_int q
theorem mH:dw X (compareOp .Gt) (sJ fun i j=> .bl (decide (j<i))):=tK fun _ _ _ _ _ _ _ q=>gt_int q
theorem ax (b:Expr) {op:CmpOp} (h:op≠ .In:=by decide) (h2:op≠ .NotIn:=by decide):behindInMarks op b=false:=by
 have e1:(op==CmpOp.In)=false:=by cases op<;>first | rfl | exact absurd rfl h
 have e2:(op==CmpOp.NotIn)=false:=by cases op<;>first | rfl | exact absurd rfl h2
 cases b<;>simp[behindInMarks,e1,e2]
theorem bI {op:CmpOp} {r:R2} (ho:dw X (compareOp op) r) (ha:PE X a ta) (hb:PE X b tb) (hm:behindInMarks op b=false):PE X (.Compare a [op] [b] pos) (oP r ta tb):=by
 intro pins s σ H Q I h
 exact wpAny_Compare1 (tJ ha hb I h fun v u s2 x y H2 I2 rx ry q=>ho pins s2 σ H2 x y v u Q I2 rx ry q) hm
def vb (t:TE):TT:=fun σ H Q=>t σ H fun x H'=>∃k,x= .bl k/\Q k H'
theorem av {op:CmpOp} {r:R2} (ho:dw X (compareOp op) r) (ha:PE X a ta) (hb:PE X b tb) (hm:behindInMarks op b=false):PT X (.Compare a [op] [b] pos) (vb (oP r ta tb)):=by
 intro pins s σ H Q I h
 refine wpAny_isTrue_Compare1 (bB (ha pins s σ H _ I h) fun v s1 h1=>?_) hm
 obtain⟨x,H1,I1,r1,q1⟩:=h1
 refine bB (hb pins s1 σ H1 _ I1 q1) fun u s2 h2=>?_
 obtain⟨y,H2,I2,r2,q2⟩:=h2
 refine bB (ho pins s2 σ H2 x y v u _ I2 r1 r2 q2) fun c s3 h3=>?_
 obtain⟨z,H3,I3,r3,k,e,q3⟩:=h3
 subst e
 cases r3
 exact wpAny_truthy_bool ⟨H3,I3,q3⟩
def tL (r r':R2) (ta tb tc:TE):TE:=fun σ H Q=>ta σ H fun x H1=>tb σ H1 fun y H2=>r x y H2 fun z H3=>∃k,z= .bl k/\
 (if k=true then tc σ H3 fun w' H4=>r' y w' H4 Q else Q (.bl false) H3)
theorem gT {op op':CmpOp} {r r':R2} (ho:dw X (compareOp op) r) (ho':dw X (compareOp op') r') (ha:PE X a ta) (hb:PE X b tb) (hc:PE X c tc)
  (hm:lastMarks [op,op'] [b,c]=false:=by with_unfolding_all rfl):PE X (.Compare a [op,op'] [b,c] pos) (tL r r' ta tb tc):=by
 intro pins s σ H Q I h
 refine Compare_chain (bB (ha pins s σ H _ I h) fun v s1 h1=>?_) hm
 obtain⟨x,H1,I1,r1,q1⟩:=h1
 refine chain_link (bB (hb pins s1 σ H1 _ I1 q1) fun u s2 h2=>?_)
 obtain⟨y,H2,I2,r2,q2⟩:=h2
 refine bB (ho pins s2 σ H2 x y v u _ I2 r1 r2 q2) fun d s3 h3=>?_
 obtain⟨z,H3,I3,r3,k,e,q3⟩:=h3
 subst e
 cases r3
 refine wpAny_truthy_bool ?_
 cases k with
 | false=>exact ite_ff ⟨.bl false,H3,I3,rfl,q3⟩
 | true=>
  refine ite_tt (chain_last (bB (hc pins s3 σ H3 _ I3 q3) fun w' s4 h4=>?_))
  obtain⟨z',H4,I4,r4,q4⟩:=h4
  exact ho' pins s4 σ H4 y z' u w' Q I4 r2 r4 q4
def wH (K:PySem.W.Frag) (x:V) (H:Hp) (k:Bool):Prop:=
 match x with
 | .non=>k=false
 | .bl b=>k=b
 | .int i=>k=(i != 0)
 | .str y=>y.length<=sizeLine/\k=((y.length:Int) != 0)
 | .byt y=>y.size<=sizeLine/\k=((y.size:Int) != 0)
 | .ref p=>(∃xs,SqL K H p xs/\k= !xs.isEmpty)\/(∃xs,SqT K H p xs/\k= !xs.isEmpty)\/∃kvs,H p=some (.dK kvs)/\k= !kvs.isEmpty
 | _=>False
theorem lH {κ:Type} {kvs:List (κ×V)} {vs:List (κ×Value)} (r:KV kvs vs):(!vs.isEmpty)= !kvs.isEmpty:=by
 cases r<;>rfl
theorem gU {xs:List V} {its:List Value} (r:Vals xs its):(!its.toArray.isEmpty)= !xs.isEmpty:=by
 cases r<;>simp
theorem gX:(sizeLine:Nat)<2^63:=by rw[sizeLine_eq];decide
theorem wI:wG X (fun x H Q=>∃k,wH X.K x H k/\Q k H):=by
 intro pins s σ H x v Q I rx h
 obtain⟨k,e,q⟩:=h
 have hl:=gX
 have hs:sizeLine=16777216:=sizeLine_eq
 cases x with
 | non=>
  cases rx
  have e':k=false:=e
  subst e'
  exact truthy_none ⟨H,I,q⟩
 | bl b=>
  cases rx
  have e':k=b:=e
  subst e'
  exact wpAny_truthy_bool ⟨H,I,q⟩
 | int i=>
  obtain⟨t,rfl⟩:=rx
  have e':k=(i != 0):=e
  subst e'
  exact PySem.P.truthy_int ⟨H,I,q⟩
 | str y=>
  obtain⟨t,rfl⟩:=rx
  obtain⟨hy,e'⟩:y.length<=sizeLine/\k=((y.length:Int) != 0):=e
  subst e'
  exact PySem.P.truthy_str (by omega) ⟨H,I.tok _,q⟩
 | byt y=>
  obtain⟨t,rfl⟩:=rx
  obtain⟨hy,e'⟩:y.size<=sizeLine/\k=((y.size:Int) != 0):=e
  subst e'
  exact PySem.W.truthy_bytes (by omega) ⟨H,I.tok _,q⟩
 | ref p=>
  cases rx
  have e':(∃xs,SqL X.K H p xs/\k= !xs.isEmpty)\/(∃xs,SqT X.K H p xs/\k= !xs.isEmpty)\/∃kvs,H p=some (.dK kvs)/\k= !kvs.isEmpty:=e
  rcases e' with⟨xs,hx,e'⟩ | ⟨xs,hx,e'⟩ | ⟨kvs,hx,e'⟩
  ·subst e'
   obtain⟨its,r,pl,hz⟩:=I.list hx
   have hlen:=r.length
   exact wpAny_truthy_list pl.isList (by simp only[xU];omega) ⟨H,I.tok _,by rw[gU r];exact q⟩
  ·subst e'
   obtain⟨its,r,pl,hz⟩:=I.tuple hx
   have hlen:=r.length
   exact truthy_tuple pl (by simp only[xU];omega) ⟨H,I.tok _,by rw[gU r];exact q⟩
  ·subst e'
   obtain⟨hz,hS,vs,r,m⟩:kvs.length<=sizeLine/\(p==sysModules)=false/\∃vs,KV kvs vs/\s.heap.DictOf (bA X.prog X.w) p vs:=I.hok p _ hx
   have hlen:kvs.length=vs.length:=Paired.length r
   exact wpAny_truthy_dict hS m (by omega) ⟨H,I.tok _,by rw[lH r];exact q⟩
 | _=>exact(show False from e).elim
theorem cR {x:V} {us:List Value} (r:Vals [x] us):∃u,us=[u]/\RelV x u:=by
 cases r with
 | cons r1 r2=>cases r2;exact⟨_,rfl,r1⟩
theorem o6 {x y:V} {us:List Value} (r:Vals [x,y] us):∃u w',us=[u,w']/\RelV x u/\RelV y w':=by
 cases r with
 | cons r1 r2=>
  cases r2 with
  | cons r3 r4=>cases r4;exact⟨_,_,rfl,r1,r3⟩
theorem nG (hc:X.calm=true):bL X (.builtin "max") (fun xs H Q=>∃i j,xs=[.int i,.int j]/\Q (.int (if j>i then j else i)) H):=by
 intro pins s σ H xs us Q I r h
 obtain⟨i,j,rfl,q⟩:=h
 obtain⟨u,w',rfl,⟨t,rfl⟩,⟨t',rfl⟩⟩:=o6 r
 refine max_two_ints (I.ok.hd hc) fun h' tk k=>⟨_,H,I.kept k,?_,q⟩
 by_cases hj:j>i
 ·rw [if_pos hj,if_pos hj];exact⟨_,rfl⟩
 ·rw [if_neg hj,if_neg hj];exact⟨_,rfl⟩
theorem nH (hc:X.calm=true):bL X (.builtin "min") (fun xs H Q=>∃i j,xs=[.int i,.int j]/\Q (.int (if j<i then j else i)) H):=by
 intro pins s σ H xs us Q I r h
 obtain⟨i,j,rfl,q⟩:=h
 obtain⟨u,w',rfl,⟨t,rfl⟩,⟨t',rfl⟩⟩:=o6 r
 refine min_two_ints (I.ok.hd hc) fun h' tk k=>⟨_,H,I.kept k,?_,q⟩
 by_cases hj:j<i
 ·rw [if_pos hj,if_pos hj];exact⟨_,rfl⟩
 ·rw [if_neg hj,if_neg hj];exact⟨_,rfl⟩
def tM (K:PySem.W.Frag) (x:V) (H:Hp) (n:Nat):Prop:=
 match x with
 | .str y=>y.length<=sizeLine/\n=y.length
 | .byt y=>y.size<=sizeLine/\n=y.size
 | .ref p=>(∃xs,SqL K H p xs/\n=xs.length)\/∃xs,SqT K H p xs/\n=xs.length
 | _=>False
theorem o7:bL X (.builtin "len") (fun xs H Q=>∃x n,xs=[x]/\tM X.K x H n/\Q (.int n) H):=by
 intro pins s σ H xs us Q I r h
 obtain⟨x,n,rfl,e,q⟩:=h
 obtain⟨u,rfl,rx⟩:=cR r
 have hl:=gX
 have hs:sizeLine=16777216:=sizeLine_eq
 cases x with
 | str y=>
  obtain⟨t,rfl⟩:=rx
  obtain⟨hy,e'⟩:y.length<=sizeLine/\n=y.length:=e
  subst e'
  exact len_str (by omega) ⟨.int _,H,I.tok _,⟨_,rfl⟩,q⟩
 | byt y=>
  obtain⟨t,rfl⟩:=rx
  obtain⟨hy,e'⟩:y.size<=sizeLine/\n=y.size:=e
  subst e'
  exact PySem.W.len_bytes (by omega) ⟨.int _,H,I.tok _,⟨_,rfl⟩,q⟩
 | ref p=>
  cases rx
  have e':(∃xs,SqL X.K H p xs/\n=xs.length)\/∃xs,SqT X.K H p xs/\n=xs.length:=e
  rcases e' with⟨xs,hx,e'⟩ | ⟨xs,hx,e'⟩
  ·subst e'
   obtain⟨its,r',pl,hz⟩:=I.list hx
   have hlen:=r'.length
   exact Calls.call_len_list pl.isList (by simp only[xU];omega) ⟨.int xs.length,H,I.tok _,⟨_,by simp only[xU];rw[hlen]⟩,q⟩
  ·subst e'
   obtain⟨its,r',pl,hz⟩:=I.tuple hx
   have hlen:=r'.length
   exact len_tuple pl (by simp only[xU];omega) ⟨.int xs.length,H,I.tok _,⟨_,by simp only[xU];rw[hlen]⟩,q⟩
 | _=>exact(show False from e).elim
end
structure ObjM (h:Heap) (x dx C:Addr) (mA:Str->Option Value):Prop where
 obj:h.get? x=some (PySem.W.instObj C dx)
 ns:h.Ns1 dx mA
 ne:dx≠x
theorem nI {h:Heap} {dx:Addr} {mA:Str->Option Value} (n:h.Ns1 dx mA):∃od,h.get? dx=some od/\∀name,PySem.W.lookIn name od=some (mA name):=by
 obtain⟨o,es,ep,ho,hd,hk,_,hm⟩:=n
 refine⟨o,ho,fun name=>?_⟩
 have e:=hm name
 unfold nsFind findBy at e
 rw[<- Array.find?_toList]at e
 unfold PySem.W.lookIn
 rw[hd]
 dsimp only
 split
 ·rename_i y q
  rw[q]at e
  exact congrArg some e
 ·rename_i q
  rw[q]at e
  have a:es.toList.any (·.refKey)=false:=by
   rw[List.any_eq_false]
   intro y hy
   obtain⟨z,t,hkey⟩:=hk y (Array.mem_toList_iff.mp hy)
   simp[DictEntry.refKey,hkey]
  have a':¬es.toList.any (·.refKey)=true:=by rw[a];exact xW
  rw[if_neg a']
  exact congrArg some e
theorem ObjM.look {h:Heap} {x dx C:Addr} {mA:Str->Option Value} (I:ObjM h x dx C mA):∃od,PySem.W.InstAt h x (PySem.W.instObj C dx) C (some od)/\∀name,PySem.W.lookIn name od=some (mA name):=
 let⟨od,ho,hl⟩:=nI I.ns
 ⟨od,⟨I.obj,rfl,rfl,ho⟩,hl⟩
section
variable {prog:Program} {w:World} {A:Around} {E:Value->Shared->Prop} {s:Shared} {K:PySem.W.Frag} {x dx C f:Addr} {mA:Str->Option Value} {name:Str} {v:Value}
end
section
variable {P:Program} {w:World} {H H':Hp} {h h':Heap} {a C dx:Addr} {fs fs':List (Str×V)}
theorem rn (hok:HOk P w H h) (e:H a=some (.ins C dx fs)):∃mA,ObjM h a dx C mA/\(∀f,RelO (fs.lookup f) (mA f))/\PySem.Within mA (fs.map (·.1))/\fs.length<=1000/\H dx=some (.own a):=by
 obtain⟨d,z,ne,ob,mA,n,r,q⟩:=(show ObjOk P w H h a (.ins C dx fs)from hok a _ e)
 exact⟨mA,⟨ob,n,ne⟩,r,q,z,d⟩
end
structure Cls (K:PySem.W.Frag) (C:Addr):Prop where
 pg:PySem.W.plainGet K C Str.empty=true
 hd:PySem.W.hasDictIn K C=true
 po:PySem.W.plainOver K C=true
 sa:PySem.W.findIn K (.ref C) "__setattr__"=some (some (.builtin "object.__setattr__"))
theorem Cls.get {K:PySem.W.Frag} {C:Addr} (c:Cls K C) (f:Str):PySem.W.plainGet K C f=true:=c.pg
section
variable {X:Cx} {pins:List (Addr×Obj)} {σ:St} {H:Hp} {s:Shared} {a C dx:Addr} {fs:List (Str×V)} {f:Str} {v:V} {A:Around} {E:Value->Shared->Prop}
end
section
variable {X:Cx} {o e value:Expr} {f:Str} {pos pos' tpos:Pos} {ta tv:TE}
end
section
variable {X:Cx} {pins:List (Addr×Obj)} {σ:St} {H:Hp} {s:Shared} {A:Around} {E:Value->Shared->Prop} {Q:Value->Shared->Prop} {c:Value} {b:Bool}
inductive TyOf (K:PySem.W.Frag) (H:Hp):V->Value->Prop where
 | non:TyOf K H .non (.type "NoneType")
 | bl (x:Bool):TyOf K H (.bl x) (.type "bool")
 | int (i:Int):TyOf K H (.int i) (.type "int")
 | str (x:Str):TyOf K H (.str x) (.type "str")
 | flt (x:UInt64):TyOf K H (.flt x) (.type "float")
 | lst {a:Addr} {xs:List V} (e:H a=some (.lst xs)):TyOf K H (.ref a) (.type "list")
 | frz {a:Addr} {o:Obj} {xs:List V} (e:H a=some (.frz o (.lst xs))):TyOf K H (.ref a) (.type "list")
 | tup {a:Addr} {xs:List V} (e:H a=some (.tup xs)):TyOf K H (.ref a) (.type "tuple")
 | dK {a:Addr} {kvs:List (cj×V)} (e:H a=some (.dK kvs)):TyOf K H (.ref a) (.type "dict")
 | dT {a:Addr} {kvs:List (List cj×V)} (e:H a=some (.dT kvs)):TyOf K H (.ref a) (.type "dict")
 | ins {a C dx:Addr} {fs:List (Str×V)} (e:H a=some (.ins C dx fs)) (cl:Cls K C) (ha:PySem.W.findIn K (.ref C) "__class__"=some (some (.builtin "object.__class__")))
  (hn:PySem.W.specialIn K (.builtin "object.__class__") "__get__"=some (some (.builtin "getset_descriptor.__get__"))) (htk:PySem.W.takesIn K (.builtin "object.__class__")=some true)
  (hm:PySem.W.mroIn K C (.type "object")=some true):TyOf K H (.ref a) (.ref C)
theorem nJ {x:V} {u t:Value} (I:Inv X pins σ H s) (rx:RelV x u) (ty:TyOf X.K H x t) (e:PySem.W.kitOne X.K t c=some b) (h:∀tk,Q (.bool b) {s with toks:=tk}):
  wpAny (model X.prog X.w) A (call (.builtin "isinstance") [u,c]) Q E s:=by
 cases ty with
 | non=>cases(show u=Value.none from rx);exact PySem.W.kia_one PySem.W.kitx_none I.kIn True.intro e (fun z=>nomatch z) h
 | bl y=>cases(show u=Value.bool y from rx);exact PySem.W.kia_one PySem.W.kitx_bool I.kIn True.intro e (fun z=>nomatch z) h
 | int i=>obtain⟨t,q⟩:=(show ∃t,u=Value.int i t from rx);cases q;exact PySem.W.kia_one PySem.W.kitx_int I.kIn True.intro e (fun z=>nomatch z) h
 | str y=>obtain⟨t,q⟩:=(show ∃t,u=Value.str y t from rx);cases q;exact PySem.W.kia_one PySem.W.kitx_str I.kIn True.intro e (fun z=>nomatch z) h
 | flt y=>obtain⟨t,q⟩:=(show ∃t,u=Value.float y t from rx);cases q;exact PySem.W.kia_one PySem.W.kitx_float I.kIn True.intro e (fun z=>nomatch z) h
 | @lst a xs ea=>
  cases(show u=Value.ref a from rx)
  obtain⟨_,_,n,_,h1⟩:=(show ObjOk X.prog X.w H s.heap a (.lst xs)from I.hok a _ ea)
  exact PySem.W.kia_one PySem.W.kitx_list I.kIn ⟨_,h1,rfl⟩ e (fun z=>nomatch z) h
 | @frz a ob xs ea=>
  cases(show u=Value.ref a from rx)
  obtain⟨_,_,_,n,_,h1⟩:=(show ObjOk X.prog X.w H s.heap a (.frz ob (.lst xs))from I.hok a _ ea)
  exact PySem.W.kia_one PySem.W.kitx_list I.kIn ⟨_,h1,rfl⟩ e (fun z=>nomatch z) h
 | @tup a xs ea=>
  cases(show u=Value.ref a from rx)
  obtain⟨_,_,_,p⟩:=(show ObjOk X.prog X.w H s.heap a (.tup xs)from I.hok a _ ea)
  obtain⟨o,h1,h2,_⟩:=p
  exact PySem.W.kia_one PySem.W.kitx_tuple I.kIn ⟨o,h1,h2⟩ e (fun z=>nomatch z) h
 | @dK a kvs ea=>
  cases(show u=Value.ref a from rx)
  obtain⟨_,_,vs,_,p⟩:=(show ObjOk X.prog X.w H s.heap a (.dK kvs)from I.hok a _ ea)
  obtain⟨o,es,ep,h1,h2,_⟩:=p
  exact PySem.W.kia_one PySem.W.kitx_dict I.kIn ⟨o,h1,h2.1⟩ e (fun z=>nomatch z) h
 | @dT a kvs ea=>
  cases(show u=Value.ref a from rx)
  obtain⟨_,_,xs,_,o,es,ep,h1,h2,_⟩:=(show ObjOk X.prog X.w H s.heap a (.dT kvs)from I.hok a _ ea)
  exact PySem.W.kia_one PySem.W.kitx_dict I.kIn ⟨o,h1,h2.1⟩ e (fun z=>nomatch z) h
 | @ins a C dx fs ea cl ha hn htk hm=>
  cases(show u=Value.ref a from rx)
  obtain⟨mA,O,_⟩:=rn I.hok ea
  obtain⟨od,J,_⟩:=O.look
  exact PySem.W.kia_one (PySem.W.kitx_own (cl.get _) cl.hd ha hn htk hm) I.kIn J e (fun z=>nomatch z) h
end
structure Room (k:Nat) (A:Around):Prop where
 hd:A.handled=none
 dp:A.depth+3*k+5<recursionLimit
 un:A.units+16*k+200<cLine
theorem Room.mono {j k:Nat} {A:Around} (r:Room k A) (h:j<=k):Room j A:=⟨r.hd,zh (Nat.add_le_add_right (zw (Nat.mul_le_mul_left 3 h) _) 5) r.dp,zh (Nat.add_le_add_right (zw (Nat.mul_le_mul_left 16 h) _) 200) r.un⟩
theorem Room.deeper {k:Nat} {A:Around} (r:Room (k+1) A) (env:Env):Room k (A.deeper env):=
 ⟨r.hd,by have:=r.dp;show A.depth+1+3*k+5<_;omega,by have:=r.un;show A.units+3+16*k+200<_;omega⟩
theorem Room.depth {k:Nat} {A:Around} (r:Room k A):A.depth<recursionLimit:=by have:=r.dp;omega
theorem Room.units {k:Nat} {A:Around} (r:Room k A):A.units+64<cLine:=by have:=r.un;omega
def vc:TA:=fun _ H Q=>Q [] H
def o8 (ta:TE) (tr:TA):TA:=fun σ H Q=>ta σ H fun x H1=>tr σ H1 fun xs H2=>Q (x :: xs) H2
section
variable {X:Cx} {e:Expr} {es:List Expr} {te:TE} {t:TA} {pos:Pos}
theorem ab:PA X [] vc:=fun _ _ _ _ H Q I h=>Calls.spliced_nil ⟨[],H,I,.nil,h⟩
theorem aa (ha:PE X e te) (hr:PA X es t) (hs:starEach (e :: es) X.env=(false,eval e X.env) :: starEach es X.env:=by rfl):PA X (e :: es) (o8 te t):=by
 intro pos pins s σ H Q I h
 rw[hs]
 show wpAny _ _ (spliced ((false,eval e X.env) :: backTo pos (starEach es X.env))) _ _ s
 refine Calls.spliced_cons (bB (ha pins s σ H _ I h) fun u s1 hq__=>?_)
 obtain⟨x,H1,I1,r1,q1⟩:=hq__
 exact bB (hr pos pins s1 σ H1 _ I1 q1) fun us s2 ⟨xs,H2,I2,r2,q2⟩=>⟨x :: xs,H2,I2,.cons r1 r2,q2⟩
def tN (t:TA):TE:=fun σ H Q=>t σ H fun xs H1=>xs.length<=sizeLine/\∀p,H1 p=none->Q (.ref p) (aI H1 p (.tup xs))
def tO (t:TA):TE:=fun σ H Q=>t σ H fun xs H1=>xs.length<=sizeLine/\∀p,H1 p=none->Q (.ref p) (aI H1 p (.lst xs))
theorem au {x1} (h:PA X es t):PE X (.Tuple es x1 pos) (tN t):=by
 intro pins s σ H Q I hq
 refine wpAny_Tuple_spliced (bB (h pos pins s σ H _ I hq) fun us s1 ⟨xs,H1,I1,r,z,q⟩=>⟨by rw[<- r.length];exact z,?_⟩)
 have hf:H1 s1.heap.objs.size=none:=I1.hok.fresh (xQ _)
 refine⟨.ref s1.heap.objs.size,aI H1 s1.heap.objs.size (.tup xs),I1.laid (t':=s1.toks) (fun b u e=>Heap.get?_push_of_some _ e) (xQ _) ?_,rfl,q _ hf⟩
 exact⟨z,us,r,⟨_,Heap.get?_push_size _ rfl,rfl,_,rfl⟩⟩
theorem aq (h:PA X es t):PE X (.List es pos) (tO t):=by
 intro pins s σ H Q I hq
 refine wpAny_List_spliced (bB (h pos pins s σ H _ I hq) fun us s1 ⟨xs,H1,I1,r,z,q⟩=>⟨by rw[<- r.length];exact z,?_⟩)
 have hf:H1 s1.heap.objs.size=none:=I1.hok.fresh (xQ _)
 refine⟨.ref s1.heap.objs.size,aI H1 s1.heap.objs.size (.lst xs),I1.laid (t':=s1.toks) (fun b u e=>Heap.get?_push_of_some _ e) (xQ _) ?_,rfl,q _ hf⟩
 exact⟨z,us,0,r,Heap.get?_push_size _ rfl⟩
end
abbrev Sp:=List V->Hp->VK->XK->Prop
abbrev oQ:=List Env->Hp->Shared->XK->Value->Shared->Prop
structure Env0 (P:Program) (w:World) (K:PySem.W.Frag) (mg:Str->Option Value) (base:Heap) (A:Around) (outer:List Env) (s:Shared) (H:Hp):Prop where
 frames:A.frames=some outer
 mod:Mod K mg base
 bs:∀b o,base.get? b=some o->s.heap.get? b=some o/\H b=none
 bsz:base.objs.size<=s.heap.objs.size
 funs:s.heap.FunFrames base outer
 frf:∀b∈fh outer,H b=none
 hok:HOk P w H s.heap
 bare:AllBare s.gens
def CE (outer:List Env) (P:Program) (w:World) (H:Hp) (s:Shared) (Q:VK) (u:Value) (s':Shared):Prop:=
 ∃v H',s'.os=s.os/\AllBare s'.gens/\Un (fh outer) [] H H' s.heap s'.heap/\HOk P w H' s'.heap/\RelV v u/\Q v H'
def CR (CX:oQ) (outer:List Env) (P:Program) (w:World) (H:Hp) (s:Shared) (Q:VK) (E:XK) (r:Result) (s':Shared):Prop:=
 match r with
 | .ok (.ret u)=>CE outer P w H s Q u s'
 | .ok _=>False
 | .error e=>CX outer H s E e s'
structure FnOk (P:Program) (w:World) (K:PySem.W.Frag) (mg:Str->Option Value) (base:Heap) (CX:oQ) (k:Nat) (f:Addr) (fd:FuncData) (ps:List Str) (sp:Sp):Prop where
 len:∀vs H Q E,sp vs H Q E->vs.length=ps.length
 run:∀(A:Around) (outer:List Env) (s:Shared) (H:Hp) (args:Args) (us:List Value) (vs:List V) (Q:VK) (E:XK),Room k A->Env0 P w K mg base A outer s H->BindsTo s fd args (ps.zip us)->Vals vs us->sp vs H Q E->
  codeAny (model P w) A (.call (.ref f) args) (CR CX outer P w H s Q E) s
section
variable {X:Cx} {pins:List (Addr×Obj)} {σ:St} {H:Hp} {s s':Shared}
theorem Inv.env0 (I:Inv X pins σ H s):Env0 X.prog X.w X.K X.mg X.base X.A X.stack s H:=
 ⟨I.ok.frames,I.ok.mod,I.bs,yd I.ok.bsz I.sz,I.stack,I.stkFree,I.hok,I.bare⟩
theorem Inv.after {Q:VK} {u:Value} (I:Inv X pins σ H s) (h:CE X.stack X.prog X.w H s Q u s'):EP X pins σ Q u s':=by
 obtain⟨v,H',os,bare,un,hok,r,q⟩:=h
 obtain⟨hh,g,d,t,os'⟩:=s'
 obtain rfl:os'=s.os:=os
 exact⟨v,H',I.call (h':=hh) (g':=g) (d':=d) (t':=t) (ch:=[]) un hok bare (fun b z=>absurd z (by simp)),r,q⟩
end
def sM (sp:Sp) (dvs:List V) (E:XK) (t:TA):TE:=fun σ H Q=>t σ H fun vs H1=>sp (vs++dvs) H1 Q E
def Binds (K:PySem.W.Frag) (fd:FuncData) (ps:List Str) (ds:List Value):Prop:=
 ∀(s:Shared) (us:List Value),K.In s.heap->(us++ds).length=ps.length->BindsTo s fd ⟨us,[]⟩ (ps.zip (us++ds))
theorem Binds.all {K:PySem.W.Frag} {fd:FuncData} {ps:List Str} (h:∀us:List Value,us.length=ps.length->bindArgs fd ⟨us,[]⟩=pure (ps.zip us)):Binds K fd ps []:=fun s us _ hl=>by
 rw[zu]at hl ⊢
 exact .of_eq (h us hl)
def lI (CX:oQ) (X:Cx) (E:XK):Prop:=∀(pins:List (Addr×Obj)) (σ:St) (H:Hp) (s:Shared) (e:Value) (s':Shared),Inv X pins σ H s->CX X.stack H s E e s'->X.xe e s'
section
variable {X:Cx} {CX:oQ} {k:Nat} {f C:Addr} {fd:FuncData} {ps:List Str} {sp:Sp} {dvs:List V} {ds:List Value} {E:XK} {x m:Str} {p pos apos:Pos} {e o:Expr} {es:List Expr} {ta:TE} {t:TA}
theorem tP {pins:List (Addr×Obj)} {σ:St} {H:Hp} {s:Shared} {Q:VK} {us:List Value} {vs:List V} (F:FnOk X.prog X.w X.K X.mg X.base CX k f fd ps sp) (hr:Room k X.A) (hb:Binds X.K fd ps ds) (hd:Vals dvs ds) (hx:lI CX X E)
  (I:Inv X pins σ H s) (r:Vals vs us) (h:sp (vs++dvs) H Q E):wpAny (model X.prog X.w) X.A (call (.ref f) us) (EP X pins σ Q) X.xe s:=by
 have r2:Vals (vs++dvs) (us++ds):=r.append hd
 have hl:(us++ds).length=ps.length:=by rw[<- r2.length];exact F.len _ _ _ _ h
 refine wpAny_call (codeAny_mono (F.run X.A X.stack s H ⟨us,[]⟩ (us++ds) (vs++dvs) Q E hr I.env0 (hb s us I.kIn hl) r2 h) fun r s' hq=>?_)
 cases r with
 | error e=>exact hx pins σ H s e s' I hq
 | ok fl=>
  cases fl with
  | ret u=>exact I.after hq
  | next=>exact False.elim hq
  | brk=>exact False.elim hq
  | cont=>exact False.elim hq
theorem rp (F:FnOk X.prog X.w X.K X.mg X.base CX k f fd ps sp) (hr:Room k X.A) (hg:Gl X x) (hm:X.mg x=some (.ref f)) (hk:PySem.W.keepIn X.K (.ref f)=true) (hb:Binds X.K fd ps ds) (hd:Vals dvs ds) (hx:lI CX X E)
  (ha:PA X (e :: es) t) (hdb:(x==("__debug__":Str))=false:=by decide) (he:starEach (e :: es) X.env=(false,eval e X.env) :: starEach es X.env:=by rfl) (hpl:(backTo pos (starEach es X.env)).any (·.1)=false:=by rfl):
  PE X (.Call (.Name x p) (e :: es) [] pos) (sM sp dvs E t):=by
 intro pins s σ H Q I h
 refine wpAny_Call_Name_kw (rf I hg hm ?_ hdb)
 refine PySem.W.callWith_K (h₀:=X.base) I.ok.mod.kin hk (bB (ha pos pins s σ H _ I h) fun us s1 ⟨vs,H1,I1,r,q⟩=>⟨I1.kIn,?_⟩) he hpl
 exact tP F hr hb hd hx I1 r q
end
section
variable {X:Cx} {CX:oQ} {k:Nat} {f C:Addr} {fd:FuncData} {ps ks:List Str} {sp:Sp} {E:XK} {x m:Str} {p pos apos kpos:Pos} {e o:Expr} {es:List Expr} {kws:List Keyword} {te ta:TE} {t tk:TA} {nm:Option Str}
variable {g:List Value->List Value->List Value} {gV:List V->List V->List V}
end
structure FnScope (N P:List Str) (sc:Scope):Prop where
 kind:sc.kind= .function
 co:sc.isCoroutine=false
 gen:sc.isGenerator=false
 nd:N.Nodup
 pre:N.take P.length=P
 par:∀x∈P,sc.names.lookup x=some .local\/sc.names.lookup x=some .cell
 nofree:∀y∈sc.names,y.2≠ .free
theorem iY {kindOf:Str->Option NameKind} {x:Str}:∀{binds:List (Str×Value)} {m:Str->Option Value},(∀v,(x,v)∉binds)->bindL kindOf binds m x=m x
 | [],_,_=>rfl
 | (n,v) :: r,m,h=>by
  unfold bindL
  rw[iY fun w hw=>h w (x8 _ hw)]
  split
  ·have:x≠n:=by rintro rfl;exact h v yc
   simp[this]
  ·rfl
theorem iZ {kindOf:Str->Option NameKind} {x:Str}:∀{binds:List (Str×Value)} {m:Str->Option Value},(∀v,(x,v)∉binds)->bindC kindOf binds m x=m x
 | [],_,_=>rfl
 | (n,v) :: r,m,h=>by
  unfold bindC
  rw[iZ fun w hw=>h w (x8 _ hw)]
  split
  ·rfl
  ·have:x≠n:=by rintro rfl;exact h v yc
   simp[this]
theorem nK {kindOf:Str->Option NameKind} {x:Str} {v:Value}:∀{P:List Str} {vs:List Value} {i:Nat} {m:Str->Option Value},P.Nodup->P[i]?=some x->vs[i]?=some v->kindOf x=some .local->
  bindL kindOf (P.zip vs) m x=some v:=by
 intro P
 induction P with
 | nil=>intro vs i m _ h;cases h
 | cons p P ih=>
  intro vs i m nd h1 h2 hk
  cases vs with
  | nil=>cases h2
  | cons w vs=>
   show bindL kindOf ((p,w) :: P.zip vs) m x=_
   unfold bindL
   cases i with
   | zero=>
    cases h1;cases h2
    rw[iY fun v hv=>(zg.mp nd).1 (zH hv).1,if_pos hk]
    simp
   | succ i=>exact ih (zg.mp nd).2 h1 h2 hk
theorem nM {kindOf:Str->Option NameKind} {x:Str} {v:Value}:∀{P:List Str} {vs:List Value} {i:Nat} {m:Str->Option Value},P.Nodup->P[i]?=some x->vs[i]?=some v->kindOf x≠some .local->
  bindC kindOf (P.zip vs) m x=some v:=by
 intro P
 induction P with
 | nil=>intro vs i m _ h;cases h
 | cons p P ih=>
  intro vs i m nd h1 h2 hk
  cases vs with
  | nil=>cases h2
  | cons w vs=>
   show bindC kindOf ((p,w) :: P.zip vs) m x=_
   unfold bindC
   cases i with
   | zero=>
    cases h1;cases h2
    rw[iZ fun v hv=>(zg.mp nd).1 (zH hv).1,if_neg hk]
    simp
   | succ i=>exact ih (zg.mp nd).2 h1 h2 hk
def gu (N:List Str) (vs:List V):St:=vs.map some++List.replicate (N.length-vs.length) none
def km (CX:oQ) (P:Program) (w:World) (K:PySem.W.Frag) (mg:Str->Option Value) (base:Heap) (N:List Str) (qual:Str) (scope:Scope) (f:Addr) (cd:Value) (A:Around) (outer:List Env) (s:Shared) (H:Hp) (E:XK):Cx where
 prog:=P
 w:=w
 K:=K
 mg:=mg
 base:=base
 A:=A.deeper (envOfC qual scope s.heap.objs.size f cd)
 N:=N
 s₀:=s
 H₀:=H
 env:=envOfC qual scope s.heap.objs.size f cd
 outer:=outer
 stack:=envOfC qual scope s.heap.objs.size f cd :: outer
 ex:=[]
 calm:=true
 fn:=fun _=>true
 pn:=[]
 xe:=fun e s'=>wpAny (model P w) (A.deeper (envOfC qual scope s.heap.objs.size f cd)) (leaving (envOfC qual scope s.heap.objs.size f cd) e) (fun _ s''=>CX outer H s E e s'') (fun e' s''=>CX outer H s E e' s'') s'
theorem ku {sc:Scope} {n:Nat} {x:Str} (h:sc.names.lookup x=some .cell):∃c,(cellsFrom n sc.names []).lookup x=some c:=by
 have q:=PySem.W.cellsFrom_some sc.names n [] (.inl h)
 exact yR.mp q
theorem nN {CX:oQ} {P:Program} {w:World} {K:PySem.W.Frag} {mg:Str->Option Value} {base:Heap} {N ps:List Str} {qual:Str} {scope:Scope} {f:Addr} {cd:Value} {A:Around} {outer:List Env} {s s1:Shared} {H:Hp} {E:XK} {us:List Value} {vs:List V}
  (S:FnScope N ps scope) (hd:A.handled=none) (e0:Env0 P w K mg base A outer s H) (hl:vs.length=ps.length) (r:Vals vs us)
  (x:InCallC s s.heap.objs.size (bindL (envOfC qual scope s.heap.objs.size f cd).kindOf (ps.zip us) fun _=>none) (cellsFrom (s.heap.objs.size+1) scope.names []) (bindC (envOfC qual scope s.heap.objs.size f cd).kindOf (ps.zip us) fun _=>none) s1):
  Inv (km CX P w K mg base N qual scope f cd A outer s H E) [] (gu N vs) H s1:=by
 have hpl:ps.length<=N.length:=by have:=congrArg List.length S.pre;rw[yu]at this;omega
 obtain⟨h1,tk,rfl,hk⟩:=x.done
 have noA:∀b:Addr,b∉(km CX P w K mg base N qual scope f cd A outer s H E).ex:=fun b z=>absurd (show b∈([]:List Addr)from z) (by simp)
 refine⟨⟨e0.mod,S.kind,rfl,rfl,xQ _,fun y z c h1 h2=>?_,fun y hy=>?_,fun y c _ h=>?_,fun _=>hd,Around.frames_deeper e0.frames,.inr ⟨rfl,rfl⟩,fun b z=>absurd z (noA b),e0.bs,e0.bsz,fun b _ _=>noA b,fun b z=>absurd z (noA b),e0.funs,e0.frf⟩,
  rfl,e0.bare,Un.kept hk,⟨_,x.toInCall.ns,fun i y v h1 h2 h3=>?_⟩,fun y c h=>⟨_,x.cell y c h⟩,e0.hok.fresh (xQ _),fun y c h=>?_,fun p hp=>absurd (show p∈([]:List (Addr×Obj))from hp) (by simp),e0.hok.kept hk,?_⟩
 ·exact name_of_addr x.apart (PySem.mem_of_lookup h1) (PySem.mem_of_lookup h2)
 ·have hy:scope.names.lookup y=some .cell\/scope.names.lookup y=some .free:=hy
  rcases hy with hy | hy
  ·exact ku hy
  ·exact absurd rfl (S.nofree _ (PySem.mem_of_lookup hy))
 ·exact yB (x.above y c (PySem.mem_of_lookup h))
 ·have hi:i<vs.length:=by
   unfold gu at h2
   by_cases hi:i<vs.length
   ·exact hi
   ·rw [yU (by simpa using hi)]at h2
    rw[List.getElem?_replicate]at h2
    split at h2<;>cases h2
  have ha:vs[i]?=some v:=by
   unfold gu at h2
   rw[yL (by simpa using hi),xR]at h2
   cases e:vs[i]? with
   | none=>rw[e]at h2;cases h2
   | some a=>rw[e]at h2;cases h2;rfl
  obtain⟨u,hu,rv⟩:=r.get ha
  have hp:ps[i]?=some y:=by
   rw[<- S.pre,List.getElem?_take_of_lt (by omega)];exact h1
  have ndP:ps.Nodup:=by rw[<- S.pre];exact S.nd.sublist (List.take_sublist _ _)
  refine⟨u,rv,?_⟩
  rcases S.par y (xT hp)with k | k
  ·exact .inl ⟨k,nK ndP hp hu k⟩
  ·obtain⟨c,e⟩:=ku (n:=s.heap.objs.size+1) k
   refine .inr ⟨.inl k,c,e,?_⟩
   have q:=x.cell y c e
   rw[nM ndP hp hu (by show scope.names.lookup y≠_;rw[k];decide)]at q
   exact q
 ·exact e0.hok.fresh (yB (x.above y c (PySem.mem_of_lookup h)))
 ·unfold gu
  show _=N.length
  rw[xV,xM,List.length_replicate]
  omega
theorem vd {CX:oQ} {P:Program} {w:World} {K:PySem.W.Frag} {mg:Str->Option Value} {base:Heap} {k:Nat} {f:Addr} {name qual:Str} {params:Arguments} {body:List Stmt} {scope:Scope} {dV kV doc pm cdv ct oc:Value} {an od:Option Addr}
  {osl:Array (Option Value)} {N ps:List Str} {sp:Sp} (lk:K.lookup f=some ⟨oc,od,.func (PySem.W.fnOf name qual params body scope dV kV doc pm an cdv ct),osl⟩) (hcd:PySem.W.codeIn K cdv qual=true) (S:FnScope N ps scope)
  (len:∀vs H Q E,sp vs H Q E->vs.length=ps.length)
  (hbody:∀(A:Around) (outer:List Env) (s:Shared) (H:Hp) (vs:List V) (Q:VK) (E:XK),Room k (A.deeper (envOfC qual scope s.heap.objs.size f cdv))->sp vs H Q E->
   ∃t,PSs (km CX P w K mg base N qual scope f cdv A outer s H E) body t/\t {nx:=fun _ H'=>Q .non H',rt:=Q} (gu N vs) H):
  FnOk P w K mg base CX (k+1) f (PySem.W.fnOf name qual params body scope dV kV doc pm an cdv ct) ps sp:=by
 refine⟨len,fun A outer s H args us vs Q E hr e0 hb r hsp=>?_⟩
 have hl:=len _ _ _ _ hsp
 have KX:K.In s.heap:=e0.mod.kin.keeps fun b o e=>(e0.bs b o e).1
 have lim:s.heap.NoLimit:=e0.mod.nolimit.keeps fun b o e=>(e0.bs b o e).1
 have hkind:∀y∈ps.zip us,scope.names.lookup y.1=some .local\/(scope.names.lookup y.1=some .cell/\((cellsFrom (s.heap.objs.size+1) scope.names []).lookup y.1).isSome=true):=fun⟨n,v⟩ hy=>by
  rcases S.par n (zH hy).1 with q | q
  ·exact .inl q
  ·exact .inr ⟨q,PySem.W.cellsFrom_some _ _ _ (.inl q)⟩
 refine codeAny_call_function hr.depth (KX _ _ lk) rfl S.co S.gen rfl (PySem.W.codeRec_of KX hcd) (hb _ _ _ _ ?_)
 refine wpAny_newFunctionEnv_cells S.kind hkind fun env he s1 x=>?_
 subst he
 refine⟨lim.keeps x.toInCall.keep,codeAny_func ?_⟩
 obtain⟨t,ht,hq⟩:=hbody A outer s H vs Q E (hr.deeper _) hsp
 have I:Inv (km CX P w K mg base N qual scope f cdv A outer s H E) [] (gu N vs) H s1:=nN S hr.hd e0 hl r x
 refine wpAny_mono (ht [] s1 (gu N vs) H _ I hq) (fun fl s' hs=>?_) fun e s' hs=>hs
 have fin:∀{σ':St} {H':Hp} {v:V} {u:Value},Inv (km CX P w K mg base N qual scope f cdv A outer s H E) [] σ' H' s'->RelV v u->Q v H'->CE outer P w H s Q u s':=
  fun {σ' H' v u} J rv q=>⟨v,H',J.os,J.bare,J.base,J.hok,rv,q⟩
 cases fl with
 | ret u=>
  obtain⟨v,σ',H',J,rv,q⟩:=hs
  exact fin J rv q
 | next=>
  obtain⟨σ',H',J,q⟩:=hs
  exact fin (v:=V.non) (u:=Value.none) J rfl q
 | brk=>
  obtain⟨_,_,_,q⟩:=hs
  exact False.elim q
 | cont=>
  obtain⟨_,_,_,q⟩:=hs
  exact False.elim q
section
variable {X:Cx} {x:Str} {p pos:Pos} {e:Expr} {es:List Expr} {t:TA} {id T:String} {r:List V->Hp->VK->Prop}
def w8 (r:List V->Hp->VK->Prop) (t:TA):TE:=fun σ H Q=>t σ H fun vs H1=>r vs H1 Q
theorem ai (hc:bL X (.builtin id) r) (hg:Gl X x) (hm:X.mg x=none) (hv:bootBuiltins x=some (.builtin id)) (ha:PA X (e :: es) t) (hn:x≠"__name__":=by decide) (hdb:(x==("__debug__":Str))=false:=by decide)
  (he:starEach (e :: es) X.env=(false,eval e X.env) :: starEach es X.env:=by rfl) (hpl:(backTo pos (starEach es X.env)).any (·.1)=false:=by rfl):PE X (.Call (.Name x p) (e :: es) [] pos) (w8 r t):=by
 intro pins s σ H Q I h
 refine wpAny_Call_Name_kw (fR I hg hm hv ?_ hn hdb)
 exact PyProof.Rows.callWith_builtin1 (bB (ha pos pins s σ H _ I h) fun us s1 ⟨vs,H1,I1,r1,q1⟩=>hc pins s1 σ H1 vs us Q I1 r1 q1) he hpl
theorem aJ (hc:bL X (.type T) r) (hg:Gl X x) (hm:X.mg x=none) (hv:bootBuiltins x=some (.type T)) (ha:PA X (e :: es) t) (hn:x≠"__name__":=by decide) (hdb:(x==("__debug__":Str))=false:=by decide)
  (he:starEach (e :: es) X.env=(false,eval e X.env) :: starEach es X.env:=by rfl) (hpl:(backTo pos (starEach es X.env)).any (·.1)=false:=by rfl):PE X (.Call (.Name x p) (e :: es) [] pos) (w8 r t):=by
 intro pins s σ H Q I h
 refine wpAny_Call_Name_kw (fR I hg hm hv ?_ hn hdb)
 exact PyProof.Rows.callWith_type1 (bB (ha pos pins s σ H _ I h) fun us s1 ⟨vs,H1,I1,r1,q1⟩=>hc pins s1 σ H1 vs us Q I1 r1 q1) he hpl
end
end L2
namespace HT
open PySem PyProof.Rows
def sN:List Int->List Int->Bool
 | [],[]=>false
 | [],_ :: _=>true
 | _ :: _,[]=>false
 | x :: xs,y :: ys=>if x=y then sN xs ys else decide (x<y)
section
open PySem.SeqAt
open PySem.AutoSeq1 (wpAny_loadPart')
open PySem.MeetsSeq PySem.MeetsSeq2 PySem.MeetsSeq3
end
section
variable {prog:Program} {w:World} {A:Around} {E:Value->Shared->Prop} {s:Shared}
def cm (n d:Nat):Option Int->Nat
 | none=>d
 | some v=>if v<0 then(v+(n:Int)).toNat else min v.toNat n
theorem kz (n d:Nat):cm n d none=d:=rfl
theorem fm (n d k:Nat):cm n d (some (k:Int))=min k n:=by
 show(if(k:Int)<0 then((k:Int)+(n:Int)).toNat else min (k:Int).toNat n)=min k n
 rw[if_neg (by omega),yi]
theorem tQ (n d:Nat) (hd:d<=n) (o:Option Int):cm n d o<=n:=by
 cases o with
 | none=>exact hd
 | some v=>
  show(if v<0 then(v+(n:Int)).toNat else min v.toNat n)<=n
  by_cases hv:v<0
  ·rw [if_pos hv];omega
  ·rw [if_neg hv];exact Nat.min_le_right _ _
theorem jz (v:Int) (n d:Nat):(if v<0 then max (v+(n:Int)) 0 else min v (n:Int))=((cm n d (some v):Nat):Int):=by
 show _=(((if v<0 then(v+(n:Int)).toNat else min v.toNat n):Nat):Int)
 by_cases hv:v<0
 ·rw [if_pos hv,if_pos hv,Int.ofNat_toNat]
 ·rw [if_neg hv,if_neg hv]
  obtain⟨k,rfl⟩:=Int.eq_ofNat_of_zero_le (Int.not_lt.mp hv)
  show min (k:Int) (n:Int)=((min k n:Nat):Int)
  rcases Nat.le_total k n with h | h
  ·rw [y8 h,Int.min_eq_left (Int.ofNat_le.mpr h)]
  ·rw [zd h,Int.min_eq_right (Int.ofNat_le.mpr h)]
theorem lJ (lo hi:Option Int) (n:Nat):Builtin.Slice.sliceAdjust lo hi 1 (n:Int)=(((cm n 0 lo:Nat):Int),((cm n n hi:Nat):Int)):=by
 have h1:¬((1:Int)<0):=by omega
 unfold Builtin.Slice.sliceAdjust
 simp only[h1,if_false]
 refine Prod.ext ?_ ?_
 ·cases lo with
  | none=>rfl
  | some v=>exact jz v n 0
 ·cases hi with
  | none=>rfl
  | some v=>exact jz v n n
theorem lK (i j:Nat):Builtin.Slice.slicePlaces (i:Int) (j:Int) 1=j-i:=by
 show(if(1:Int)>0 then(if(i:Int)<(j:Int)then((j:Int)-i-1)/1+1 else 0)else _).toNat=j-i
 rw[if_pos (by decide),Int.ediv_one,Int.sub_add_cancel]
 by_cases h:(i:Int)<(j:Int)
 ·rw [if_pos h,Int.toNat_sub]
 ·rw [if_neg h]
  exact(Nat.sub_eq_zero_of_le (Int.ofNat_le.mp (Int.not_lt.mp h))).symm
theorem gY {v:Value} {o:Option Int} {Q:Option Int->Shared->Prop} (p:IsPart v o) (h:Q o s):wpAny (model prog w) A (Builtin.Slice.slicePartIndex v) Q E s:=by
 cases p with
 | none=>exact slicePart_none h
 | int i t=>exact slicePart_int h
theorem fU {sl:Addr} {vl vu:Value} {lo hi:Option Int} {n:Nat} {Q:Int×Int×Nat->Shared->Prop} (hs:s.heap.IsSliceOf sl vl vu .none) (pl:IsPart vl lo) (pu:IsPart vu hi)
  (h:Q (((cm n 0 lo:Nat):Int),1,cm n n hi-cm n 0 lo) s):wpAny (model prog w) A (Builtin.Slice.sliceApplied (.ref sl) (pure (n:Int))) Q E s:=by
 obtain⟨os,hos,hcs,hds⟩:=id hs
 unfold Builtin.Slice.sliceApplied Builtin.Slice.sliceFields
 refine wpAny_bind (wpAny_bind (wpAny_field hos hds (x:=vl) rfl (wpAny_bind (wpAny_field hos hds (x:=vu) rfl (wpAny_bind (wpAny_field hos hds (x:= .none) rfl (wpAny_pure ?_)))))))
 refine wpAny_bind (slicePart_none ?_)
 show wpAny _ _ (if((1:Int)==0)=true then _ else _) _ _ s
 rw[if_neg (by decide)]
 refine wpAny_bind (gY pl (wpAny_bind (gY pu (wpAny_bind (wpAny_pure ?_)))))
 show wpAny _ _ (match Builtin.Slice.sliceAdjust lo hi 1 (n:Int)with | (lo,hi)=>pure (lo,(1:Int),Builtin.Slice.slicePlaces lo hi 1)) _ _ s
 rw[lJ lo hi n]
 show wpAny _ _ (pure (((cm n 0 lo:Nat):Int),(1:Int),Builtin.Slice.slicePlaces ((cm n 0 lo:Nat):Int) ((cm n n hi:Nat):Int) 1)) _ _ s
 rw[lK]
 exact wpAny_pure h
theorem o9 (xs:Array Value) (i k:Nat):((xO k).filterMap fun(m:Nat)=>xs[((i:Int)+(m:Int)*1).toNat]?).toArray=((xs.toList.drop i).take k).toArray:=by
 have e:(fun(m:Nat)=>xs[((i:Int)+(m:Int)*1).toNat]?)=fun m=>xs[i+m]?:=by
  funext m
  have:((i:Int)+(m:Int)*1).toNat=i+m:=by omega
  rw[this]
 rw[e]
 have:=pick_run xs i k
 rw[List.filterMap_map]at this
 have e2:((fun x=>xs[x]?) ∘ fun x=>i+x)=fun m=>xs[i+m]?:=rfl
 rw[e2]at this
 rw[this]
theorem fo {t sl:Addr} {items:Array Value} {vl vu:Value} {lo hi:Option Int} {Q:Value->Shared->Prop} (ht:IsTup s.heap t items) (hs:s.heap.IsSliceOf sl vl vu .none) (pl:IsPart vl lo) (pu:IsPart vu hi)
  (hw:¬(cm items.size 0 lo=0/\cm items.size items.size hi=items.size))
  (h:Q (.ref s.heap.objs.size) {s with heap:=s.heap.push {cls:= .type "tuple",data:= .seq ((items.toList.drop (cm items.size 0 lo)).take (cm items.size items.size hi-cm items.size 0 lo)).toArray}})
  (hsz:items.size<=sizeLine):wpAny (model prog w) A (getItem (.ref t) (.ref sl)) Q E s:=by
 have htake:sizeOk (.seq ((items.toList.drop (cm items.size 0 lo)).take (cm items.size items.size hi-cm items.size 0 lo)).toArray):=by
  show((items.toList.drop (cm items.size 0 lo)).take (cm items.size items.size hi-cm items.size 0 lo)).toArray.size<=sizeLine
  rw[xU,yu,yS,xS]
  exact yd (Nat.min_le_right _ _) (yd (Nat.sub_le _ _) hsz)
 have hj:cm items.size items.size hi<=items.size:=tQ _ _ (xQ _) hi
 obtain⟨os,hos,hcs,hds⟩:=id hs
 have hTs:s.TypeIs (.ref sl) "slice":=⟨os,hos,hcs⟩
 unfold getItem
 try with_reducible refine wpAny_holding ?_
 first | refine wpAny_bind (wpAny_pure ?_) | skip
 refine wpAny_bind (wpAny_sequenceKey ht.typeIs (by decide) ?_)
 refine wpAny_bind (wpAny_callSpecial?_slot (name:=Str.ofString "__getitem__") ht.typeIs PyProof.Rows.slot_tuple_getitem
  (wpAny_call_entry PyProof.Rows.slot_tuple_getitem ht.typeIs entry_tuple_getitem ?_ (args_tuple_getitem _ _)))
 show wpAny _ _ (Builtin.Tuple.tupleItemsOf (.ref t) >>= _) _ _ s
 refine wpAny_bind (tupleItemsOf_ ht ?_)
 refine wpAny_bind (wpAny_typeOf hTs ?_)
 rw[if_pos (by decide)]
 refine wpAny_bind (fU hs pl pu ?_)
 have hno:¬((((cm items.size 0 lo:Nat):Int)==0&&(1:Int)==1&&(cm items.size items.size hi-cm items.size 0 lo)==items.size)=true):=by
  intro q
  rw[yw,yw]at q
  have q1:((cm items.size 0 lo:Nat):Int)=0:=eq_of_beq q.1.1
  have q2:cm items.size items.size hi-cm items.size 0 lo=items.size:=eq_of_beq q.2
  have q3:cm items.size 0 lo=0:=Int.ofNat_eq_zero.mp q1
  exact hw ⟨q3,by rw[q3,Nat.sub_zero]at q2;exact q2⟩
 show wpAny _ _ (if(((cm items.size 0 lo:Nat):Int)==0&&(1:Int)==1&&(cm items.size items.size hi-cm items.size 0 lo)==items.size)=true then _ else _) _ _ s
 rw[if_neg hno,o9]
 first
  | exact wpAny_bind (m:=Builtin.Tuple.tupleExact _) (wpAny_newObj_type (wpAny_pure ⟨_,rfl,wpAny_pure h⟩) htake)
  | exact wpAny_bind (m:=Builtin.Tuple.tupleExact _) (wpAny_newObj_type (wpAny_bind (wpAny_pure (wpAny_pure ⟨_,rfl,wpAny_pure h⟩))) htake)
  | exact wpAny_bind (wpAny_bind (m:=Builtin.Tuple.tupleExact _) (wpAny_newObj_type (wpAny_pure (wpAny_pure ⟨_,rfl,wpAny_pure h⟩)) htake))
  | exact wpAny_bind (wpAny_bind (m:=Builtin.Tuple.tupleExact _) (wpAny_newObj_type (wpAny_pure ⟨_,rfl,wpAny_pure h⟩) htake))
end
end HT
namespace L2
open PySem PySem.Spec PyProof.Rows
abbrev TO:=St->Hp->(Option Int->Hp->Prop)->Prop
def PO (X:Cx) (e:Option Expr) (t:TO):Prop:=
 ∀(pins:List (Addr×Obj)) (s:Shared) (σ:St) (H:Hp) (Q:Option Int->Hp->Prop),Inv X pins σ H s->t σ H Q->
  wpAny (model X.prog X.w) X.A (evalPart e X.env) (fun u s'=>∃o H',Inv X pins σ H' s'/\IsPart u o/\Q o H') X.xe s
def rq:TO:=fun _ H Q=>Q none H
def ve (t:TE):TO:=fun σ H Q=>t σ H fun x H1=>∃i,x= .int i/\Q (some i) H1
theorem gZ {ns:List Int}:∀{us:List Value},Vals (ns.map V.int) us->IntsAre us ns:=by
 induction ns with
 | nil=>intro us r;rw[List.map_nil]at r;cases r;exact .nil
 | cons n ns ih=>
  intro us r
  rw[yF]at r
  cases r with
  | cons r1 r2=>
   obtain⟨t,e⟩:=r1
   subst e
   exact .cons n t (ih r2)
section
variable {X:Cx} {e:Expr} {te:TE} {lo hi:Option Expr} {tl th:TO} {pos p2:Pos}
theorem mI:PO X none rq:=by
 intro pins s σ H Q I h
 rw[evalPart_none]
 exact wpAny_pure ⟨none,H,I,.none,h⟩
theorem gH (h:PE X e te):PO X (some e) (ve te):=by
 intro pins s σ H Q I hw
 rw[evalPart_some]
 refine bB (h pins s σ H _ I hw) fun u s1 hq__=>?_
 obtain⟨x,H1,I1,r1,q1⟩:=hq__
 obtain⟨i,rfl,q⟩:=q1
 obtain⟨t,rfl⟩:=r1
 exact⟨some i,H1,I1,.int i t,q⟩
def SlR (X:Cx) (r:V->Option Int->Option Int->Hp->VK->Prop):Prop:=
 ∀(pins:List (Addr×Obj)) (s:Shared) (σ:St) (H:Hp) (x:V) (v vl vu:Value) (lo hi:Option Int) (sl:Addr) (Q:VK),Inv X pins σ H s->RelV x v->s.heap.IsSliceOf sl vl vu .none->IsPart vl lo->IsPart vu hi->r x lo hi H Q->
  ∃T id,typeLookup (.type T) "__getitem__"=pure (some (.builtin id))/\s.TypeIs v T/\wpAny (model X.prog X.w) X.A (getItem v (.ref sl)) (EP X pins σ Q) X.xe s
theorem SlR.or {r r':V->Option Int->Option Int->Hp->VK->Prop} (h:SlR X r) (h':SlR X r'):SlR X (fun x lo hi H Q=>r x lo hi H Q\/r' x lo hi H Q):=by
 intro pins s σ H x v vl vu lo hi sl Q I rx hs pl pu q
 rcases q with q | q
 ·exact h pins s σ H x v vl vu lo hi sl Q I rx hs pl pu q
 ·exact h' pins s σ H x v vl vu lo hi sl Q I rx hs pl pu q
def xr (r:V->Option Int->Option Int->Hp->VK->Prop) (te:TE) (tl th:TO):TE:=fun σ H Q=>te σ H fun x H1=>tl σ H1 fun l H2=>th σ H2 fun u H3=>r x l u H3 Q
theorem g4 {r:V->Option Int->Option Int->Hp->VK->Prop} (hr:SlR X r) (he:PE X e te) (hl:PO X lo tl) (hu:PO X hi th):PE X (.Subscript e (.Slice lo hi none p2) pos) (xr r te tl th):=by
 intro pins s σ H Q I h
 refine Subscript_ (bB (he pins s σ H _ I h) fun v s1 h1=>?_)
 obtain⟨x,H1,I1,r1,q1⟩:=h1
 refine wpAny_Slice (bB (hl pins s1 σ H1 _ I1 q1) fun vl s2 h2=>?_)
 obtain⟨l,H2,I2,pl,q2⟩:=h2
 refine bB (hu pins s2 σ H2 _ I2 q2) fun vu s3 h3=>?_
 obtain⟨u,H3,I3,pu,q3⟩:=h3
 rw[evalPart_none]
 refine wpAny_pure ?_
 have I4:Inv X pins σ H3 {s3 with heap:=s3.heap.push {cls:= .type "slice",data:= .fields #[vl,vu,.none]}}:=I3.kept (t':=s3.toks) fun b ob q=>Heap.get?_push_of_some _ q
 obtain⟨T,id,hT,ht,hg⟩:=hr pins {s3 with heap:=s3.heap.push {cls:= .type "slice",data:= .fields #[vl,vu,.none]}} σ H3 x v vl vu l u s3.heap.objs.size Q I4 r1 (Heap.IsSliceOf.new ..) pl pu q3
 show wpAny (model X.prog X.w) X.A (subscriptTail e (.Slice lo hi none p2) v (.ref s3.heap.objs.size)) (EP X pins σ Q) X.xe {s3 with heap:=s3.heap.push {cls:= .type "slice",data:= .fields #[vl,vu,.none]}}
 exact tail_any (ops:=[.ref s3.heap.objs.size,v]) ht hT hg (by with_unfolding_all rfl)
def eN (xs:List V) (lo hi:Option Int):List V:=(xs.drop (HT.cm xs.length 0 lo)).take (HT.cm xs.length xs.length hi-HT.cm xs.length 0 lo)
theorem gv (xs:List V) (lo hi:Option Int):(eN xs lo hi).length<=xs.length:=by
 unfold eN
 rw[yu,yS]
 exact yd (Nat.min_le_right _ _) (Nat.sub_le _ _)
def vf (K:PySem.W.Frag):V->Option Int->Option Int->Hp->VK->Prop:=fun x lo hi H Q=>∃a xs,x= .ref a/\SqT K H a xs/\
 ¬(HT.cm xs.length 0 lo=0/\HT.cm xs.length xs.length hi=xs.length)/\∀p,H p=none->Q (.ref p) (aI H p (.tup (eN xs lo hi)))
theorem tR:SlR X (vf X.K):=by
 intro pins s σ H x v vl vu lo hi sl Q I rx hs pl pu h
 obtain⟨a,xs,rfl,hx,hw,q⟩:=h
 cases rx
 obtain⟨its,r,ht,hz⟩:=I.tuple hx
 have hlen:its.toArray.size=xs.length:=by rw[xU];exact r.length.symm
 refine⟨"tuple",_,PyProof.Rows.slot_tuple_getitem.lookup,ht.typeIs,?_⟩
 refine HT.fo ht hs pl pu (by rw[hlen];exact hw) ?_ (by rw[hlen];exact hz)
 rw[hlen]
 refine⟨.ref s.heap.objs.size,_,I.laid (t':=s.toks) (o:= .tup (eN xs lo hi)) (fun b ob q=>Heap.get?_push_of_some _ q) (xQ _) ?_,rfl,q _ (I.hok.fresh (xQ _))⟩
 exact⟨yd (gv xs lo hi) hz,_,(r.drop (HT.cm xs.length 0 lo)).take (HT.cm xs.length xs.length hi-HT.cm xs.length 0 lo),IsTup.new _ _⟩
end
def tU (n:Nat) (i:Int):Option Nat:=if 0<=i then(if i<n then some i.toNat else none)else if -(n:Int)<=i then some (i+n).toNat else none
def g5 {α:Type} (xs:List α) (i:Int):Option α:=(tU xs.length i).bind fun j=>xs[j]?
theorem mJ {n:Nat} {i:Int} {j:Nat} (h:tU n i=some j):seqIndex? i n=some j/\j<n/\ -(n:Int)<=i/\i<n:=by
 unfold tU at h
 by_cases h0:0<=i
 ·rw [if_pos h0]at h
  by_cases h1:i<n
  ·rw [if_pos h1]at h
   have e:i.toNat=j:=Option.some.inj h
   exact⟨by rw[seqIndex_of h0 h1,e],by omega,by omega,h1⟩
  ·rw [if_neg h1]at h;cases h
 ·rw [if_neg h0]at h
  by_cases h1: -(n:Int)<=i
  ·rw [if_pos h1]at h
   have e:(i+n).toNat=j:=Option.some.inj h
   exact⟨by rw[seqIndex_neg (by omega) h1,e],by omega,h1,by omega⟩
  ·rw [if_neg h1]at h;cases h
theorem mK {α:Type} {xs:List α} {i:Int} {v:α} (h:g5 xs i=some v):∃j,seqIndex? i xs.length=some j/\xs[j]?=some v/\j<xs.length/\ -(xs.length:Int)<=i/\i<xs.length:=by
 unfold g5 at h
 cases e:tU xs.length i with
 | none=>rw[e]at h;cases h
 | some j=>
  rw[e]at h
  obtain⟨h1,h2,h3,h4⟩:=mJ e
  exact⟨j,h1,h,h2,h3,h4⟩
theorem aO {α:Type} {xs:List α} {j:Nat} {v:α} (h:xs[j]?=some v):g5 xs (j:Int)=some v:=by
 have hj:j<xs.length:=(xP.mp h).1
 have e:tU xs.length (j:Int)=some j:=by
  unfold tU
  rw[if_pos (by omega),if_pos (by omega)];simp
 unfold g5;rw[e];exact h
def rz (b:Expr):Prop:=∀o i,subscripted b false o i=operate [o,i] (getItem o i)
def IxR (X:Cx) (r:R2):Prop:=
 ∀(value slice:Expr) (pins:List (Addr×Obj)) (s:Shared) (σ:St) (H:Hp) (x y:V) (v u:Value) (Q:VK),Inv X pins σ H s->RelV x v->RelV y u->r x y H Q->
  subscripted slice false v u=operate [v,u] (getItem v u)->wpAny (model X.prog X.w) X.A (subscriptTail value slice v u) (EP X pins σ Q) X.xe s
def wJ (X:Cx) (id:String) (r:V->List V->Hp->VK->Prop):Prop:=
 ∀(pins:List (Addr×Obj)) (s:Shared) (σ:St) (H:Hp) (x:V) (xs:List V) (v:Value) (us:List Value) (Q:VK),Inv X pins σ H s->RelV x v->Vals xs us->r x xs H Q->
  wpAny (model X.prog X.w) X.A (call (.builtin id) (v :: us)) (EP X pins σ Q) X.xe s
section
variable {X:Cx} {a b:Expr} {ta tb:TE} {pos:Pos}
theorem IxR.or {r r':R2} (h:IxR X r) (h':IxR X r'):IxR X (fun x y H Q=>r x y H Q\/r' x y H Q):=by
 intro value slice pins s σ H x y v u Q I rx ry q hs
 rcases q with q | q
 ·exact h value slice pins s σ H x y v u Q I rx ry q hs
 ·exact h' value slice pins s σ H x y v u Q I rx ry q hs
theorem aB {r:R2} (hr:IxR X r) (ha:PE X a ta) (hb:PE X b tb) (hs:rz b):PE X (.Subscript a b pos) (oP r ta tb):=by
 intro pins s σ H Q I h
 exact Subscript_ (tJ ha hb I h fun v u s2 x y H2 I2 rx ry q=>hr a b pins s2 σ H2 x y v u Q I2 rx ry q (hs _ _))
def tV (K:PySem.W.Frag):R2:=fun x y H Q=>∃p xs i v,x= .ref p/\y= .int i/\SqL K H p xs/\g5 xs i=some v/\Q v H
def tW (K:PySem.W.Frag):R2:=fun x y H Q=>∃p xs i v,x= .ref p/\y= .int i/\SqT K H p xs/\g5 xs i=some v/\Q v H
theorem mM:IxR X (tV X.K):=by
 intro value slice pins s σ H x y v u Q I rx ry h hs
 obtain⟨p,xs,i,z,rfl,rfl,hq,he,q⟩:=h
 cases rx
 obtain⟨t,rfl⟩:=ry
 obtain⟨its,r,pl,hz⟩:=I.list hq
 obtain⟨j,h1,h2,h3,h4,h5⟩:=mK he
 obtain⟨w,ew,rw'⟩:=r.get h2
 have hl:=r.length
 have hn:=gX
 have fin:EP X pins σ Q w s:=⟨z,H,I,rw',q⟩
 by_cases h0:0<=i
 ·have hj:i.toNat=j:=by
   rw[seqIndex_of h0 h5]at h1
   exact Option.some.inj h1
  exact item_listR pl.isList h0 (by omega) (by rw[hj];simpa using ew) fin hs
 ·have hj:(i+(its.toArray.size:Int)).toNat=j:=by
   rw[seqIndex_neg (by omega) h4]at h1
   rw[xU,<- hl]
   exact Option.some.inj h1
  exact subscriptTail_builtinR (x:=w) pl.isList.typeIs slot_list_getitem.lookup
   (wpAny_getItem_list_neg (Q:=fun r s'=>r=w/\EP X pins σ Q r s') pl.isList (by omega) (by rw[xU]<;>omega) (by omega) (by rw[hj];simpa using ew) ⟨rfl,fin⟩) hs
theorem pb:IxR X (tW X.K):=by
 intro value slice pins s σ H x y v u Q I rx ry h hs
 obtain⟨p,xs,i,z,rfl,rfl,hq,he,q⟩:=h
 cases rx
 obtain⟨t,rfl⟩:=ry
 obtain⟨its,r,pl,hz⟩:=I.tuple hq
 obtain⟨j,h1,h2,h3,h4,h5⟩:=mK he
 obtain⟨w,ew,rw'⟩:=r.get h2
 have hl:=r.length
 have hn:=gX
 have fin:EP X pins σ Q w s:=⟨z,H,I,rw',q⟩
 exact subscriptTail_builtinR (x:=w) pl.typeIs slot_tuple_getitem.lookup
  (getItem_tuple (j:=j) (Q:=fun r s'=>r=w/\EP X pins σ Q r s') pl (by omega) (by omega) (by rw[xU,<- hl];exact h1) (by simpa using ew) ⟨rfl,fin⟩) hs
theorem lL (its:List Value) (n j:Nat) (u:Value):Obj.mapSeq (·.setIfInBounds j u) {cls:= .type "list",data:= .seq its.toArray n}={cls:= .type "list",data:= .seq (its.set j u).toArray n}:=by
 simp[Obj.mapSeq]
theorem Inv.lst {pins:List (Addr×Obj)} {σ:St} {H:Hp} {s:Shared} {p:Addr} {xs:List V} (I:Inv X pins σ H s) (h:H p=some (.lst xs)):
  ∃(its:List Value) (n:Nat),Vals xs its/\s.heap.get? p=some {cls:= .type "list",data:= .seq its.toArray n}/\xs.length<=sizeLine:=by
 obtain⟨z,its,n,r,e⟩:=I.hok p _ h
 exact⟨its,n,r,e,z⟩
theorem Inv.lstUpd {pins:List (Addr×Obj)} {σ:St} {H:Hp} {s:Shared} {p:Addr} {xs ys:List V} {its its':List Value} {n n':Nat} {f:Obj->Obj} (I:Inv X pins σ H s) (h:H p=some (.lst xs))
  (ho:s.heap.get? p=some {cls:= .type "list",data:= .seq its.toArray n}) (hf:f {cls:= .type "list",data:= .seq its.toArray n}={cls:= .type "list",data:= .seq its'.toArray n'}) (r:Vals ys its') (hz:ys.length<=sizeLine) (t:Nat):
  Inv X pins σ (aI H p (.lst ys)) {s with heap:=s.heap.update p f,toks:=t}:=by
 have e:(s.heap.update p f).get? p=some {cls:= .type "list",data:= .seq its'.toArray n'}:=by
  rw[Heap.get?_update_self f ho (by rw[hf]<;>rfl),hf]
 refine I.write (x:=p) (e:=p) (by rw[h];trivial) (.inl rfl) (fun b u hb q=>(Heap.get?_update_other _ _ (Ne.symm hb)).trans q) ⟨_,e⟩ ?_
 exact⟨hz,its',n',r,e⟩
def vg:V->V->V->Hp->(Hp->Prop)->Prop:=fun o i v H Q=>∃p xs k j,o= .ref p/\i= .int k/\H p=some (.lst xs)/\tU xs.length k=some j/\Q (aI H p (.lst (xs.set j v)))
theorem pd:u4 X vg:=by
 intro pins s σ H o i v ov iv u Q I ro ri rv h
 obtain⟨p,xs,k,j,rfl,rfl,hp,hj,q⟩:=h
 cases ro
 obtain⟨t,rfl⟩:=ri
 obtain⟨its,n,r,ho,hz⟩:=I.lst hp
 obtain⟨h1,h2,h3,h4⟩:=mJ hj
 have hl:=r.length
 have hn:=gX
 have I':Inv X pins σ (aI H p (.lst (xs.set j v))) {s with heap:=s.heap.update p (Obj.mapSeq (·.setIfInBounds j u))}:=
  I.lstUpd hp ho (lL its n j u) (r.set rv j) (by rw[List.length_set];exact hz) s.toks
 by_cases h0:0<=k
 ·have hk:k.toNat=j:=by
   rw[seqIndex_of h0 h4]at h1
   exact Option.some.inj h1
  exact PySem.W.ki_setAt ho h0 (by omega) (by rw[xU,<- hl];exact h4) (by rw[hk];exact⟨_,I',q⟩)
 ·have hk:(k+(its.toArray.size:Int)).toNat=j:=by
   rw[seqIndex_neg (by omega) h3]at h1
   rw[xU,<- hl]
   exact Option.some.inj h1
  exact PySem.W.ki_setBack ho (by omega) (by rw[xU,<- hl];exact h3) (by omega) (by rw[hk];exact⟨_,I',q⟩)
theorem jA (lo hi:Option Int) (n:Nat):(sliceBounds lo hi none n).1=((HT.cm n 0 lo:Nat):Int)/\(sliceBounds lo hi none n).2.1=((HT.cm n n hi:Nat):Int)/\(sliceBounds lo hi none n).2.2=1:=by
 have one:∀(i:Int) (d:Nat),max 0 (min (if i<0 then i+(n:Int)else i) (n:Int))=((HT.cm n d (some i):Nat):Int):=fun i d=>by
  rw[<- HT.jz]
  by_cases h:i<0
  ·rw [if_pos h,if_pos h,Int.min_eq_left (by omega),Int.max_comm]
  ·rw [if_neg h,if_neg h,Int.max_eq_right (Int.le_min.mpr ⟨Int.not_lt.mp h,Int.natCast_nonneg n⟩)]
 refine⟨?_,?_,rfl⟩
 ·cases lo with
  | none=>rfl
  | some i=>exact one i 0
 ·cases hi with
  | none=>rfl
  | some i=>exact one i n
theorem iE (its:List Value) (lo hi:Option Int):slicePick its.toArray lo hi none=((its.drop (HT.cm its.length 0 lo)).take (HT.cm its.length its.length hi-HT.cm its.length 0 lo)).toArray:=by
 obtain⟨h1,h2,h3⟩:=jA lo hi its.toArray.size
 unfold slicePick
 rw[h1,h2,h3]
 simp only[sliceRange_one,pick_run,xU]<;>rfl
def tX (K:PySem.W.Frag):V->Option Int->Option Int->Hp->VK->Prop:=fun x lo hi H Q=>∃a xs,x= .ref a/\SqL K H a xs/\∀p,H p=none->Q (.ref p) (aI H p (.lst (eN xs lo hi)))
theorem mN:SlR X (tX X.K):=by
 intro pins s σ H x v vl vu lo hi sl Q I rx hs pl pu h
 obtain⟨a,xs,rfl,hx,q⟩:=h
 cases rx
 obtain⟨its,r,ht,hz⟩:=I.list hx
 have hlen:=r.length
 refine⟨"list",_,slot_list_getitem.lookup,ht.isList.typeIs,?_⟩
 refine wpAny_getItem_list_slice ht.isList hs pl pu .none (by simp) ?_ (by rw[xU]<;>omega)
 rw[iE,<- hlen]
 refine⟨.ref s.heap.objs.size,_,I.laid (t':=s.toks) (o:= .lst (eN xs lo hi)) (fun b ob q=>Heap.get?_push_of_some _ q) (xQ _) ?_,rfl,q _ (I.hok.fresh (xQ _))⟩
 exact⟨yd (gv xs lo hi) hz,_,0,(r.drop (HT.cm xs.length 0 lo)).take (HT.cm xs.length xs.length hi-HT.cm xs.length 0 lo),Heap.get?_push_size _ rfl⟩
def b8:V->Bool
 | .non=>true
 | .bl _=>true
 | .int _=>true
 | .str _=>true
 | _=>false
def mO:V->V->Bool
 | .non,.non=>true
 | .bl a,.bl b=>a==b
 | .bl a,.int b=>(if a then 1 else 0)==b
 | .int a,.bl b=>a==(if b then 1 else 0)
 | .int a,.int b=>a==b
 | .str a,.str b=>a==b
 | _,_=>false
theorem ph {A:Around} {s:Shared} {y x:V} {u v:Value} (ry:RelV y u) (rx:RelV x v) (fy:b8 y=true) (fx:b8 x=true):SeqAt.EqAt A s u v (mO y x):=by
 cases y with
 | non=>
  cases ry
  cases x with
  | non=>cases rx;exact SeqAt.EqAt.same _
  | bl b=>cases rx;exact SeqAt.EqAt.none_bool b
  | int b=>obtain⟨t,rfl⟩:=rx;exact SeqAt.EqAt.none_int b t
  | str b=>obtain⟨t,rfl⟩:=rx;exact SeqAt.EqAt.none_str b t
  | _=>exact absurd (show false=true from fx) xW
 | bl a=>
  cases ry
  cases x with
  | non=>cases rx;exact SeqAt.EqAt.bool_none a
  | bl b=>cases rx;exact SeqAt.EqAt.bool_bool a b
  | int b=>obtain⟨t,rfl⟩:=rx;exact SeqAt.EqAt.bool_int a b t
  | str b=>obtain⟨t,rfl⟩:=rx;exact SeqAt.EqAt.bool_str a b t
  | _=>exact absurd (show false=true from fx) xW
 | int a=>
  obtain⟨t',rfl⟩:=ry
  cases x with
  | non=>cases rx;exact SeqAt.EqAt.int_none a t'
  | bl b=>cases rx;exact SeqAt.EqAt.int_bool a t' b
  | int b=>obtain⟨t,rfl⟩:=rx;exact SeqAt.EqAt.int_int a t' b t
  | str b=>obtain⟨t,rfl⟩:=rx;exact SeqAt.EqAt.int_str a t' b t
  | _=>exact absurd (show false=true from fx) xW
 | str a=>
  obtain⟨t',rfl⟩:=ry
  cases x with
  | non=>cases rx;exact SeqAt.EqAt.str_none a t'
  | bl b=>cases rx;exact SeqAt.EqAt.str_bool a t' b
  | int b=>obtain⟨t,rfl⟩:=rx;exact SeqAt.EqAt.str_int a t' b t
  | str b=>obtain⟨t,rfl⟩:=rx;exact SeqAt.EqAt.str_str a t' b t
  | _=>exact absurd (show false=true from fx) xW
 | _=>exact absurd (show false=true from fy) xW
def lM (x:V) (u:Value):Bool:=match u with
 | .none=>mO .non x
 | .bool b=>mO (.bl b) x
 | .int i _=>mO (.int i) x
 | .str z _=>mO (.str z) x
 | _=>false
theorem pj {x y:V} {u:Value} (r:RelV y u) (f:b8 y=true):lM x u=mO y x:=by
 cases y with
 | non=>cases r;rfl
 | bl b=>cases r;rfl
 | int i=>obtain⟨t,rfl⟩:=r;rfl
 | str z=>obtain⟨t,rfl⟩:=r;rfl
 | _=>exact absurd (show false=true from f) xW
theorem gI {x:V}:∀{xs:List V} {us:List Value},Vals xs us->xs.all b8=true->us.any (lM x)=xs.any fun y=>mO y x:=by
 intro xs us h
 induction h with
 | nil=>intro _;rfl
 | cons r t ih=>
  intro f
  rw[List.all_cons,yw]at f
  rw[ze,ze,pj r f.1,ih f.2]
theorem fq {A:Around} {s:Shared} {x:V} {v:Value} (rx:RelV x v) (fx:b8 x=true):∀{xs:List V} {us:List Value},Vals xs us->xs.all b8=true->∀u∈us,SeqAt.EqAt A s u v (lM x u):=by
 intro xs us h
 induction h with
 | nil=>intro _ u hu;cases hu
 | cons r t ih=>
  intro f u' hu
  rw[List.all_cons,yw]at f
  rcases xY.mp hu with rfl | hu
  ·rw [pj r f.1];exact ph r rx f.1 fx
  ·exact ih f.2 u' hu
def uO (x:V) (xs:List V):Bool:=xs.any fun y=>mO y x
def v9 (K:PySem.W.Frag) (neg:Bool):R2:=fun x y H Q=>∃p xs,y= .ref p/\(SqL K H p xs\/SqT K H p xs)/\b8 x=true/\xs.all b8=true/\Q (.bl (if neg then !uO x xs else uO x xs)) H
theorem nO:dw X (compareOp .In) (v9 X.K false):=by
 intro pins s σ H x y v u Q I rx ry h
 obtain⟨p,xs,rfl,hq,fx,fs,q⟩:=h
 cases ry
 rcases hq with hq | hq
 ·obtain⟨its,r,pl,hz⟩:=I.list hq
  refine SeqAt.in_listAt (lM x) pl.isList (fun w hw=>fq rx fx r fs w (by simpa using hw)) ⟨.bl _,H,I,rfl,?_⟩
  rw[show its.toArray.any (lM x)=its.any (lM x) by simp,gI r fs]
  exact q
 ·obtain⟨its,r,pl,hz⟩:=I.tuple hq
  refine SeqAt.in_tupleAt (lM x) pl (fun w hw=>fq rx fx r fs w (by simpa using hw)) ⟨.bl _,H,I,rfl,?_⟩
  rw[show its.toArray.any (lM x)=its.any (lM x) by simp,gI r fs]
  exact q
theorem jB:dw X (compareOp .NotIn) (v9 X.K true):=by
 intro pins s σ H x y v u Q I rx ry h
 obtain⟨p,xs,rfl,hq,fx,fs,q⟩:=h
 cases ry
 rcases hq with hq | hq
 ·obtain⟨its,r,pl,hz⟩:=I.list hq
  refine SeqAt.notIn_listAt (lM x) pl.isList (fun w hw=>fq rx fx r fs w (by simpa using hw)) ⟨.bl _,H,I,rfl,?_⟩
  rw[show its.toArray.any (lM x)=its.any (lM x) by simp,gI r fs]
  exact q
 ·obtain⟨its,r,pl,hz⟩:=I.tuple hq
  refine SeqAt.notIn_tupleAt (lM x) pl (fun w hw=>fq rx fx r fs w (by simpa using hw)) ⟨.bl _,H,I,rfl,?_⟩
  rw[show its.toArray.any (lM x)=its.any (lM x) by simp,gI r fs]
  exact q
theorem jC:bL X (.type "list") (fun xs H Q=>∃p ys,xs=[.ref p]/\(SqL X.K H p ys\/SqT X.K H p ys)/\∀l,H l=none->Q (.ref l) (aI H l (.lst ys))):=by
 intro pins s σ H xs us Q I r h
 obtain⟨p,ys,rfl,hq,q⟩:=h
 obtain⟨u,rfl,rx⟩:=cR r
 cases rx
 have fin:∀(its:List Value),Vals ys its->ys.length<=sizeLine->∀(h':Heap) (c':Nat),(∀b o',s.heap.get? b=some o'->h'.get? b=some o')->
   h'.get? s.heap.objs.size=some {cls:= .type "list",dict:=none,data:= .seq its.toArray c',slots:=#[]}->EP X pins σ Q (.ref s.heap.objs.size) {s with heap:=h'}:=fun its r' hz h' c' kp e=>
  ⟨.ref s.heap.objs.size,_,I.laid (t':=s.toks) kp (xQ _) (show ObjOk X.prog X.w _ h' _ (.lst ys)from⟨hz,its,c',r',e⟩),rfl,q _ (I.hok.fresh (xQ _))⟩
 rcases hq with hq | hq
 ·obtain⟨its,r',pl,hz⟩:=I.list hq
  have hlen:=r'.length
  obtain⟨o,ho,hc,n,hd⟩:=pl.isList
  exact call_list_seq p (.inl rfl) ho hc hd (fun h' c' kp e=>fin its r' hz h' c' kp e) (by simp only[xU]<;>omega)
 ·obtain⟨its,r',pl,hz⟩:=I.tuple hq
  have hlen:=r'.length
  obtain⟨o,ho,hc,n,hd⟩:=pl
  exact call_list_seq p (.inr rfl) ho hc hd (fun h' c' kp e=>fin its r' hz h' c' kp e) (by simp only[xU]<;>omega)
theorem eE:bL X (.type "tuple") (fun xs H Q=>∃p ys,xs=[.ref p]/\((SqL X.K H p ys/\∀l,H l=none->Q (.ref l) (aI H l (.tup ys)))\/(SqT X.K H p ys/\Q (.ref p) H))):=by
 intro pins s σ H xs us Q I r h
 obtain⟨p,ys,rfl,h⟩:=h
 obtain⟨u,rfl,rx⟩:=cR r
 cases rx
 rcases h with⟨hq,q⟩ | ⟨hq,q⟩
 ·obtain⟨its,r',pl,hz⟩:=I.list hq
  have hlen:=r'.length
  refine call_tuple_list pl.isList (fun h' kp=>?_) (by simp only[xU]<;>omega)
  have I1:Inv X pins σ H {s with heap:=h'}:=I.kept (t':=s.toks) kp
  have I2:Inv X pins σ (aI H h'.objs.size (.tup ys)) {s with heap:=h'.push {cls:= .type "tuple",data:= .seq its.toArray}}:=
   I1.laid (t':=s.toks) (fun b o e=>Heap.get?_push_of_some _ e) (xQ _) (show ObjOk X.prog X.w _ _ _ (.tup ys)from⟨hz,its,r',IsTup.new _ _⟩)
  exact⟨.ref h'.objs.size,_,I2,rfl,q _ (I1.hok.fresh (xQ _))⟩
 ·obtain⟨its,r',pl,hz⟩:=I.tuple hq
  exact call_tuple_same pl ⟨.ref p,H,I,rfl,q⟩
def wK (K:PySem.W.Frag) (T:String) (x:V) (H:Hp):Prop:=match x with
 | .str _=>T="str"
 | .int _=>T="int"
 | .ref p=>(T="list"/\∃xs,SqL K H p xs)\/(T="tuple"/\∃o,K.lookup p=some o/\o.cls= .type "tuple"/\o.dict=none)\/
  (T="dict"/\((∃kvs,H p=some (.dK kvs))\/∃kvs,H p=some (.dT kvs)))\/(T="set"/\∃S n,H p=some (.set S n))
 | _=>False
theorem pq {pins:List (Addr×Obj)} {σ:St} {H:Hp} {s:Shared} {T:String} {x:V} {v:Value} (I:Inv X pins σ H s) (r:RelV x v) (ty:wK X.K T x H):
  s.TypeIs v T/\∀a,v= .ref a->∃ob,s.heap.get? a=some ob/\ob.dict=none:=by
 cases x with
 | str z=>
  obtain⟨t,rfl⟩:=r
  cases(show T="str" from ty)
  exact⟨typeIs_str s z t,fun _ e=>nomatch e⟩
 | int i=>
  obtain⟨t,rfl⟩:=r
  cases(show T="int" from ty)
  exact⟨typeIs_int s i t,fun _ e=>nomatch e⟩
 | ref p=>
  cases r
  rcases ty with⟨rfl,xs,hq⟩ | ⟨rfl,o,hk,hc,hd⟩ | ⟨rfl,hk⟩ | ⟨rfl,S,n,hk⟩
  ·obtain⟨its,_,pl,_⟩:=I.list hq
   refine⟨pl.isList.typeIs,fun a e=>?_⟩
   cases e
   obtain⟨o,n,e,c,hd,_⟩:=pl
   exact⟨o,e,hd⟩
  ·refine⟨⟨o,I.kIn p o hk,hc⟩,fun a e=>?_⟩
   cases e
   exact⟨o,I.kIn _ o hk,hd⟩
  ·have z:∃o,s.heap.get? p=some o/\o.ExactDict:=by
    rcases hk with⟨kvs,hk⟩ | ⟨kvs,hk⟩
    ·obtain⟨_,_,_,_,o,_,_,e,ex,_⟩:=I.hok p _ hk
     exact⟨o,e,ex⟩
    ·obtain⟨_,_,_,_,o,_,_,e,ex,_⟩:=I.hok p _ hk
     exact⟨o,e,ex⟩
   obtain⟨o,e,ex⟩:=z
   refine⟨⟨o,e,ex.1⟩,fun a e2=>?_⟩
   cases e2
   exact⟨o,e,ex.2.1⟩
  ·obtain⟨o,_,_,_,e,ex,_⟩:=I.hok p _ hk
   refine⟨⟨o,e,ex.1⟩,fun a e2=>?_⟩
   cases e2
   exact⟨o,e,ex.2.1⟩
 | _=>exact False.elim ty
def wL (K:PySem.W.Frag) (T:String) (r:V->List V->Hp->VK->Prop) (to:TE):TE:=fun σ H Q=>to σ H fun x H1=>wK K T x H1/\r x [] H1 Q
def xt (K:PySem.W.Frag) (T:String) (r:V->List V->Hp->VK->Prop) (to:TE) (t:TA):TE:=fun σ H Q=>to σ H fun x H1=>wK K T x H1/\t σ H1 fun xs H2=>r x xs H2 Q
variable {o e:Expr} {es:List Expr} {to:TE} {t:TA} {name:Str} {apos cpos:Pos} {T id:String} {r:V->List V->Hp->VK->Prop}
theorem tY (pa:PlainAttrs T) (slot:Slot T name id) (hty:typeOf (.builtin id)=pure (.type "method_descriptor")) (hm:wJ X id r) (ho:PE X o to)
  (hbase:attributeBase o name X.env (eval o X.env)=eval o X.env:=by rfl) (hline:(apos.endLine==cpos.line)=true:=by rfl):PE X (.Call (.Attribute o name apos) [] [] cpos) (wL X.K T r to):=by
 intro pins s σ H Q I h
 refine wpAny_Call_method0_late hbase hline (bB (ho pins s σ H _ I h) fun v s1 hq__=>?_)
 obtain⟨x,H1,I1,r1,ty,q1⟩:=hq__
 obtain⟨h1,h2⟩:=pq I1 r1 ty
 exact⟨T,id,pa,slot,hty,h1,h2,Calls.callWith_builtin rfl (PySem.evalArgs_none (hm pins s1 σ H1 x [] v [] Q I1 r1 .nil q1))⟩
theorem mP (pa:PlainAttrs T) (slot:Slot T name id) (hty:typeOf (.builtin id)=pure (.type "method_descriptor")) (hm:wJ X id r) (ho:PE X o to) (ha:PA X (e :: es) t)
  (hbase:attributeBase o name X.env (eval o X.env)=eval o X.env:=by rfl)
  (hfew:((backTo cpos (starEach (e :: es) X.env)).all (fun x=> !x.1)&&(backToKw cpos (keywordEach [] X.env)).all (fun x=>x.1.isSome)
   &&decide ((e :: es).length+([]:List Keyword).length+(if([]:List Keyword).isEmpty then 0 else 1)<30))=true:=by rfl)
  (hline:(apos.endLine==cpos.line)=true:=by rfl) (hs:starEach (e :: es) X.env=(false,eval e X.env) :: starEach es X.env:=by rfl) (hplain:(backTo cpos (starEach es X.env)).any (·.1)=false:=by rfl):
  PE X (.Call (.Attribute o name apos) (e :: es) [] cpos) (xt X.K T r to t):=by
 intro pins s σ H Q I h
 refine wpAny_Call_method_late hbase hfew hline rfl (bB (ho pins s σ H _ I h) fun v s1 hq__=>?_)
 obtain⟨x,H1,I1,r1,ty,q1⟩:=hq__
 obtain⟨h1,h2⟩:=pq I1 r1 ty
 refine⟨T,id,pa,slot,hty,h1,h2,?_⟩
 have hA:=ha cpos pins s1 σ H1 _ I1 q1
 rw[hs]at hA ⊢
 refine Calls.callWith_builtin (by show(false||(backTo cpos (starEach es X.env)).any (·.1))=false;rw[hplain]<;>rfl) (Calls.evalArgs_plain ?_)
 exact bB hA fun us s2 ⟨vs,H2,I2,r2,q2⟩=>hm pins s2 σ H2 x vs v us Q I2 r1 r2 q2
end
def wa (X:Cx) (id:String) (r:V->List V->Hp->VK->Prop):Prop:=
 ∀(pins:List (Addr×Obj)) (s:Shared) (σ:St) (H:Hp) (x:V) (xs:List V) (v:Value) (us:List Value) (Q:VK),Inv X pins σ H s->RelV x v->Vals xs us->r x xs H Q->
  wpAny (model X.prog X.w) X.A (call (.builtin id) (v :: us)) (EP X pins σ Q) X.xe s
theorem Vals.one:∀{x:V} {us:List Value},Vals [x] us->∃u,us=[u]/\RelV x u:=by
 intro x us h
 cases h with
 | cons r t=>cases t;exact⟨_,rfl,r⟩
theorem Vals.zero:∀{us:List Value},Vals [] us->us=[]
 | _,.nil=>rfl
theorem Vals.eraseIdx:∀{xs:List V} {us:List Value} (i:Nat),Vals xs us->Vals (xs.eraseIdx i) (us.eraseIdx i)
 | _,_,_,.nil=> .nil
 | _,_,0,.cons _ t=>t
 | _,_,i+1,.cons r t=> .cons r (Vals.eraseIdx i t)
section
variable {X:Cx} {pins:List (Addr×Obj)} {σ:St} {H:Hp} {s:Shared} {l b:Addr} {xs ys zs:List V}
theorem Inv.lset {its its':List Value} {n:Nat} {f:Array Value->Array Value} {t':Nat} (I:Inv X pins σ H s) (hH:H l=some (.lst xs))
  (e:s.heap.get? l=some {cls:= .type "list",data:= .seq its.toArray n}) (hf:f its.toArray=its'.toArray) (hv:Vals ys its') (hz:ys.length<=sizeLine):
  Inv X pins σ (aI H l (.lst ys)) {s with heap:=s.heap.update l (Obj.mapSeq f),toks:=t'}:=by
 have q:=PySem.IsL.update e f
 rw[hf]at q
 refine I.write (x:=l) (e:=l) (by rw[hH];exact trivial) (.inl rfl) (fun b' u hb hu=>(Heap.get?_update_other s.heap (Obj.mapSeq f) (Ne.symm hb)).trans hu) ⟨_,q⟩ ?_
 exact⟨hz,its',_,hv,q⟩
theorem Inv.lnew {its:List Value} {t':Nat} (I:Inv X pins σ H s) (hv:Vals ys its) (hz:ys.length<=sizeLine):
  Inv X pins σ (aI H s.heap.objs.size (.lst ys)) {s with heap:=s.heap.push {cls:= .type "list",data:= .seq its.toArray},toks:=t'}:=
 I.laid (fun _ _ q=>Heap.get?_push_of_some _ q) (xQ _) ⟨hz,its,0,hv,Heap.get?_push_size _ rfl⟩
theorem Inv.fresh (I:Inv X pins σ H s):H s.heap.objs.size=none:=I.hok.fresh (xQ _)
theorem Inv.lstM (I:Inv X pins σ H s) (hH:H l=some (.lst xs)):xs.length<=sizeLine/\∃(its:List Value) (n:Nat),Vals xs its/\xs.length=its.length/\s.heap.get? l=some {cls:= .type "list",data:= .seq its.toArray n}:=by
 obtain⟨z,its,n,r,e⟩:=I.hok l _ hH
 exact⟨z,its,n,r,r.length,e⟩
theorem pw {n:Nat} (h:n<=sizeLine):Builtin.List.listTooLong n=false:=by
 unfold Builtin.List.listTooLong
 exact decide_eq_false (by omega)
end
section
variable {X:Cx}
def rB:V->List V->Hp->VK->Prop:=fun x vs H Q=>∃l xs y,x= .ref l/\vs=[y]/\H l=some (.lst xs)/\xs.length<sizeLine/\Q .non (aI H l (.lst (xs++[y])))
theorem dW:wa X "list.append" rB:=by
 intro pins s σ H x vs v us Q I rx rv h
 obtain⟨l,xs,y,rfl,rfl,hH,hz,q⟩:=h
 cases rx
 obtain⟨u,rfl,ru⟩:=rv.one
 obtain⟨z,its,n,r,hl,e⟩:=I.lstM hH
 refine call_meets F.slot_list_append ⟨_,e,rfl⟩ F.entry_list_append (F.args_list_append_2 _ _) (PySem.list_append l its.toArray n u (by rw[xU];omega)) ⟨e,?_⟩
 refine⟨.non,_,I.lset (its':=its++[u]) hH e (by simp) (r.append (.cons ru .nil)) ?_,rfl,q⟩
 rw[xV,x9]
 omega
def rC:V->List V->Hp->VK->Prop:=fun x vs H Q=>∃l b xs zs,x= .ref l/\vs=[.ref b]/\H l=some (.lst xs)/\H b=some (.lst zs)/\xs.length+zs.length<=sizeLine/\Q .non (aI H l (.lst (xs++zs)))
theorem uP:wa X "list.extend" rC:=by
 intro pins s σ H x vs v us Q I rx rv h
 obtain⟨l,b,xs,zs,rfl,rfl,hH,hB,hz,q⟩:=h
 cases rx
 obtain⟨u,rfl,ru⟩:=rv.one
 cases ru
 obtain⟨z,its,n,r,hl,e⟩:=I.lstM hH
 obtain⟨z2,its2,n2,r2,hl2,e2⟩:=I.lstM hB
 have hsz:its.toArray.size+its2.toArray.size<=sizeLine:=by rw[xU,xU];omega
 have hlong:¬(!its.toArray.isEmpty&&Builtin.List.listTooLong (its.toArray.size+its2.toArray.size))=true:=by
  rw[pw hsz,Bool.and_false]
  exact xW
 refine call_meets F.slot_list_extend ⟨_,e,rfl⟩ F.entry_list_extend (F.args_list_extend_2 _ _)
  (AutoSeq1.list_extend_list_list_0 l its.toArray n b its2.toArray n2 hlong (by rw[xU];omega) (by omega)) ⟨e,e2,?_⟩
 refine⟨.non,_,I.lset (its':=its++its2) hH e (by simp) (r.append r2) ?_,rfl,q⟩
 rw[xV]
 omega
def pB:R2:=fun x y H Q=>∃l b xs zs,x= .ref l/\y= .ref b/\H l=some (.lst xs)/\H b=some (.lst zs)/\xs.length+zs.length<=sizeLine/\∀p,H p=none->Q (.ref p) (aI H p (.lst (xs++zs)))
theorem cW:dw X (binaryOp .Add) pB:=by
 intro pins s σ H x y v u Q I rx ry h
 obtain⟨l,b,xs,zs,rfl,rfl,hH,hB,hz,q⟩:=h
 cases rx
 cases ry
 obtain⟨z,its,n,r,hl,e⟩:=I.lstM hH
 obtain⟨z2,its2,n2,r2,hl2,e2⟩:=I.lstM hB
 refine PySem.P.add_list e e2 ?_ (by rw[xU,xU];omega)
 have ea:its.toArray++its2.toArray=(its++its2).toArray:=by simp
 rw[ea]
 exact⟨.ref _,_,I.lnew (t':=s.toks) (r.append r2) (by rw[xV];omega),rfl,q _ I.fresh⟩
end
section
variable {prog:Program} {w:World} {A:Around} {E:Value->Shared->Prop} {s:Shared}
end
section
variable {X:Cx}
end
section
variable {κ:Type} [DecidableEq κ]
def jD (kvs:List (κ×V)) (k:κ):Option V:=(kvs.find? fun kv=>decide (kv.1=k)).map (·.2)
def eB (kvs:List (κ×V)) (k:κ) (v:V):List (κ×V):=
 if(kvs.any fun kv=>decide (kv.1=k))=true then kvs.map (fun kv=>if kv.1=k then(kv.1,v)else kv)else kvs++[(k,v)]
theorem g8 {p:κ×V} {r:List (κ×V)} {k:κ} (e:p.1=k):jD (p :: r) k=some p.2:=by simp[jD,zv,e]
theorem g9 {p:κ×V} {r:List (κ×V)} {k:κ} (e:¬p.1=k):jD (p :: r) k=jD r k:=by simp[jD,zv,e]
theorem hU (k:κ) (kvs:List (κ×V)):(kvs.any fun kv=>decide (kv.1=k))=(jD kvs k).isSome:=by
 induction kvs with
 | nil=>rfl
 | cons p r ih=>
  rw[ze]
  by_cases e:p.1=k
  ·simp only[g8 e,decide_eq_true e,Bool.true_or,Option.isSome_some]
  ·rw [g9 e,decide_eq_false e,Bool.false_or];exact ih
theorem gw (kvs:List (κ×V)) (k:κ) (v:V):(eB kvs k v).length<=kvs.length+1:=by
 unfold eB
 split
 ·rw [xM];omega
 ·rw [xV,yC,List.length_nil];omega
theorem RelO.isSome_eq {o:Option V} {u:Option Value} (r:RelO o u):o.isSome=u.isSome:=by
 cases o with
 | none=>cases u with
  | none=>rfl
  | some _=>exact(show False from r).elim
 | some _=>cases u with
  | none=>exact(show False from r).elim
  | some _=>rfl
theorem KV.any {kvs:List (κ×V)} {vs:List (κ×Value)} (r:KV kvs vs) (k:κ):(kvs.any fun kv=>decide (kv.1=k))=vs.any fun kv=>decide (kv.1=k):=by
 unfold KV at r
 induction r with
 | nil=>rfl
 | cons h t ih=>rw[ze,ze,ih,h.1]
theorem KV.repl {kvs:List (κ×V)} {vs:List (κ×Value)} (r:KV kvs vs) (k:κ) {y:V} {u:Value} (ry:RelV y u):
  KV (kvs.map fun kv=>if kv.1=k then(kv.1,y)else kv) (vs.map fun kv=>if kv.1=k then(kv.1,u)else kv):=by
 unfold KV at r ⊢
 induction r with
 | nil=>exact .nil
 | @cons p q ps qs h t ih=>
  rw[yF,yF]
  refine .cons ?_ ih
  obtain⟨h1,h2⟩:=h
  by_cases e:p.1=k
  ·rw [if_pos e,if_pos (h1.symm.trans e)];exact⟨h1,ry⟩
  ·rw [if_neg e,if_neg (fun z=>e (h1.trans z))];exact⟨h1,h2⟩
theorem KV.put {kvs:List (κ×V)} {vs:List (κ×Value)} (r:KV kvs vs) (k:κ) {y:V} {u:Value} (ry:RelV y u):KV (eB kvs k y) (stored vs k u):=by
 unfold eB stored
 rw[r.any k]
 by_cases e:(vs.any fun kv=>decide (kv.1=k))=true
 ·rw [if_pos e,if_pos e];exact r.repl k ry
 ·rw [if_neg e,if_neg e];exact Paired.snoc r ⟨rfl,ry⟩
theorem KV.length {kvs:List (κ×V)} {vs:List (κ×Value)} (r:KV kvs vs):kvs.length=vs.length:=Paired.length r
end
theorem sO {P:Program} {w:World} {k:cj} {u:Value} (r:RelV (kV k) u):(bA P w).is k u=true:=by
 cases k with
 | inl i=>obtain⟨t,e⟩:=(show ∃t,u=Value.int i t from r);subst e;exact kd P w i t
 | inr x=>obtain⟨t,e⟩:=(show ∃t,u=Value.str x t from r);subst e;exact ke P w x t
theorem nP {P:Program} {w:World} {ks:List cj} {us:List Value} (r:Vals (ks.map kV) us):ItemsAre (bA P w) ks us:=by
 induction ks generalizing us with
 | nil=>cases r;exact .nil
 | cons k ks ih=>
  cases r with
  | cons h t=>exact .cons (sO h) (ih t)
abbrev KT (H:Hp):List (List cj×V)->List (List cj×Addr×Value)->Prop:=Paired fun p q=>p.1=q.1/\H q.2.1=some (.tup (p.1.map kV))/\RelV p.2 q.2.2
theorem KT.val {H:Hp} {kvs:List (List cj×V)} {xs:List (List cj×Addr×Value)} (r:KT H kvs xs) (k:List cj):RelO (jD kvs k) ((atKey xs k).map (·.2)):=by
 induction r with
 | nil=>exact True.intro
 | @cons p q ps qs h t ih=>
  obtain⟨h1,_,h2⟩:=h
  by_cases e:p.1=k
  ·have e':q.1=k:=h1.symm.trans e
   have b:atKey (q :: qs) k=some q.2:=by simp[atKey,zv,e']
   rw[g8 e,b];exact h2
  ·have e':¬q.1=k:=fun z=>e (h1.trans z)
   have b:atKey (q :: qs) k=atKey qs k:=by simp[atKey,zv,e']
   rw[g9 e,b];exact ih
theorem KT.repl {H:Hp} {kvs:List (List cj×V)} {xs:List (List cj×Addr×Value)} (r:KT H kvs xs) (k:List cj) {y:V} {u:Value} (ry:RelV y u):
  KT H (kvs.map fun kv=>if kv.1=k then(kv.1,y)else kv) (xs.map (putAt k u)):=by
 induction r with
 | nil=>exact .nil
 | @cons p q ps qs h t ih=>
  rw[yF,yF]
  refine .cons ?_ ih
  obtain⟨h1,h2,h3⟩:=h
  unfold putAt
  by_cases e:p.1=k
  ·rw [if_pos e,if_pos (h1.symm.trans e)];exact⟨h1,h2,ry⟩
  ·rw [if_neg e,if_neg (fun z=>e (h1.trans z))];exact⟨h1,h2,h3⟩
theorem KT.put {H:Hp} {kvs:List (List cj×V)} {xs:List (List cj×Addr×Value)} (r:KT H kvs xs) (k:List cj) {b:Addr} {y:V} {u:Value} (hb:H b=some (.tup (k.map kV))) (ry:RelV y u):
  KT H (eB kvs k y) (storedH xs k b u):=by
 have e:(kvs.any fun kv=>decide (kv.1=k))=(atKey xs k).isSome:=by
  rw[hU,(r.val k).isSome_eq,Option.isSome_map]
 unfold eB storedH
 rw[e]
 by_cases q:(atKey xs k).isSome=true
 ·rw [if_pos q,if_pos q];exact r.repl k ry
 ·rw [if_neg q,if_neg q];exact Paired.snoc r ⟨rfl,hb,ry⟩
theorem KT.keeps {H H':Hp} {kvs:List (List cj×V)} {xs:List (List cj×Addr×Value)} (r:KT H kvs xs) (ht:∀b ys,H b=some (.tup ys)->H' b=some (.tup ys)):KT H' kvs xs:=
 Paired.mapP r fun _ _ z=>⟨z.1,ht _ _ z.2.1,z.2.2⟩
section
variable {P:Program} {w:World} {H:Hp} {h:Heap} {a:Addr}
theorem sP {u:HO} (ok:HOk P w H h) (e:Rd H a u):ObjOk P w H h a u:=e.ok ok
theorem sQ {kvs:List (cj×V)} (ok:HOk P w H h) (e:Rd H a (.dK kvs)):kvs.length<=sizeLine/\(a==sysModules)=false/\∃vs,KV kvs vs/\h.DictOf (bA P w) a vs:=
 show ObjOk P w H h a (.dK kvs)from sP ok e
theorem vh {kvs:List (cj×V)} (ok:HOk P w H h) (e:H a=some (.dK kvs)):kvs.length<=sizeLine/\(a==sysModules)=false/\∃vs,KV kvs vs/\h.DictOf (bA P w) a vs:=sQ ok (.inl e)
theorem pD {ks:List cj} (ok:HOk P w H h) (e:H a=some (.tup (ks.map kV))):(tupleKind (bA P w)).is h ks a:=by
 obtain⟨_,its,r,o,h1,h2,n,h3⟩:=(show ObjOk P w H h a (.tup (ks.map kV))from ok a _ e)
 exact⟨o,its.toArray,n,h1,h2,h3,by simpa using nP r⟩
theorem vi {kvs:List (List cj×V)} (ok:HOk P w H h) (e:Rd H a (.dT kvs)):kvs.length<=sizeLine/\(a==sysModules)=false/\
  ∃xs,KT H kvs xs/\h.DictOfH (tupleKind (bA P w)) a xs:=by
 obtain⟨z,y,xs,r,o,es,ep,h1,h2,h3,h4,h5⟩:=(show ObjOk P w H h a (.dT kvs)from sP ok e)
 refine⟨z,y,xs,r,o,es,ep,h1,h2,h3,h4,fun x hx=>?_,h5⟩
 have all:∀{l:List (List cj×V)} {m:List (List cj×Addr×Value)},KT H l m->∀x∈m,(tupleKind (bA P w)).is h x.1 x.2.1:=by
  intro l m q
  induction q with
  | nil=>intro x hx;exact nomatch hx
  | @cons p q ps qs hq t ih=>
   intro x hx
   rcases xY.mp hx with e | hx
   ·subst e
    exact pD ok (by rw[<- hq.1];exact hq.2.1)
   ·exact ih x hx
 exact all r x hx
theorem vj {kvs:List (List cj×V)} (ok:HOk P w H h) (e:H a=some (.dT kvs)):kvs.length<=sizeLine/\(a==sysModules)=false/\
 ∃xs,KT H kvs xs/\h.DictOfH (tupleKind (bA P w)) a xs:=vi ok (.inl e)
end
def DPut (H:Hp) (a:Addr) (y v:V) (H':Hp):Prop:=
 (∃kvs k,H a=some (.dK kvs)/\y=kV k/\kvs.length<sizeLine/\H'=aI H a (.dK (eB kvs k v)))\/
 ∃kvs k b,H a=some (.dT kvs)/\y= .ref b/\H b=some (.tup (k.map kV))/\kvs.length<sizeLine/\H'=aI H a (.dT (eB kvs k v))
theorem DPut.k {H:Hp} {a:Addr} {kvs:List (cj×V)} {k:cj} {v:V} (e:H a=some (.dK kvs)) (hl:kvs.length<sizeLine):DPut H a (kV k) v (aI H a (.dK (eB kvs k v))):= .inl ⟨kvs,k,e,rfl,hl,rfl⟩
section
variable {X:Cx} {pins:List (Addr×Obj)} {σ:St} {H:Hp} {s:Shared} {a:Addr} {y v:V} {u r:Value} {o:Option V} {A:Around} {E:Value->Shared->Prop}
theorem Inv.big (I:Inv X pins σ H s):sysModules<s.heap.objs.size:=by
 have h:mainGlobals<s.heap.objs.size:=(I.mod.glob.keeps I.bk).lt
 exact Nat.lt_trans (by decide) h
theorem mQ {h':Heap} {t':Nat} {ob:HO} (I:Inv X pins σ H s) (mu:uV (H a)) (hs:Heap.SameBut a s.heap h') (he:∃q,h'.get? a=some q) (new:ObjOk X.prog X.w (aI H a ob) h' a ob):
  Inv X pins σ (aI H a ob) {s with heap:=h',toks:=t'}:=
 I.write (x:=a) (e:=a) mu (.inl rfl) (fun b q hb z=>(hs.2 b hb).trans z) he new
theorem tZ {P:Program} {w:World} {H':Hp} {h':Heap} {kvs:List (cj×V)} {vs:List (cj×Value)} (z:kvs.length<=sizeLine) (hd:(a==sysModules)=false) (rel:KV kvs vs) (dd:h'.DictOf (bA P w) a vs):
 ObjOk P w H' h' a (.dK kvs):=⟨z,hd,vs,rel,dd⟩
theorem nQ {H':Hp} {Q:Unit->Shared->Prop} (hu:A.units+1<cLine) (I:Inv X pins σ H s) (g:DPut H a y v H') (ry:RelV y u) (rv:RelV v r) (h:∀s',Inv X pins σ H' s'->Q () s'):
  wpAny (model X.prog X.w) A (setItem (.ref a) u r) Q E s:=by
 rcases g with⟨kvs,k,e,ey,l,eH⟩ | ⟨kvs,k,b,e,ey,eb,l,eH⟩
 ·subst ey eH
  obtain⟨z,hd,vs,rel,dd⟩:=vh I.hok e
  have hz:vs.length<=sizeLine:=by rw[<- rel.length];exact z
  have hl:(eB kvs k v).length<=sizeLine:=by have:=gw kvs k v;omega
  refine wpAny_setItem_pairs (hsz:=hz) (sO ry) dd fun h' dd' hs=>h _ ?_
  have he:∃q,h'.get? a=some q:=let⟨q,_,_,hq,_⟩:=dd';⟨q,hq⟩
  exact mQ I (by rw[e];exact True.intro) hs he (tZ hl hd (rel.put k rv) dd')
 ·subst ey eH
  cases(show u=Value.ref b from ry)
  obtain⟨z,hd,xs,rel,dd⟩:=vj I.hok e
  have hz:xs.length<=sizeLine:=by rw[<- Paired.length rel];exact z
  have hl:(eB kvs k v).length<=sizeLine:=by have:=gw kvs k v;omega
  refine wpAny_setItem_heap (hsz:=hz) (tupleKind_room_in1 hu) (pD I.hok eb) dd fun h' dd' hs=>h _ ?_
  obtain⟨q,es,ep,hq,h2,h3,h4,_,h5⟩:=dd'
  refine mQ I (by rw[e];exact True.intro) hs ⟨q,hq⟩ ⟨hl,hd,_,(rel.put k eb rv).keeps fun c ys ec=>?_,q,es,ep,hq,h2,h3,h4,h5⟩
  rw[ay (uU ec e (fun z=>nomatch z))]
  exact ec
end
section
variable {X:Cx} {pins:List (Addr×Obj)} {σ:St} {H:Hp} {s:Shared} {a:Addr} {kvs:List (cj×V)} {k:cj} {u:Value} {A:Around} {E:Value->Shared->Prop}
theorem vk {Q:Value->Shared->Prop} (I:Inv X pins σ H s) (e:Rd H a (.dK kvs)) (h:∀t s',Inv X pins σ H s'->Q (.int kvs.length t) s'):wpAny (model X.prog X.w) A (call (.builtin "len") [.ref a]) Q E s:=by
 obtain⟨z,hd,vs,rel,dd⟩:=sQ I.hok e
 refine call_len_dict hd dd (by rw[<- rel.length];rw[sizeLine_eq]at z;omega) ?_
 rw[<- rel.length]
 exact h _ _ (I.tok _)
end
def vm (td ty tv:TE):TS:=fun D σ H=>tv σ H fun v H1=>td σ H1 fun x H2=>ty σ H2 fun y H3=>∃a H4,x= .ref a/\DPut H3 a y v H4/\D.nx σ H4
section
variable {X:Cx} {o i e value:Expr} {pos pos' tpos:Pos} {td ty tv:TE}
theorem rD (hu:X.A.units+1<cLine) (ho:PE X o td) (hi:PE X i ty) (hv:PE X value tv) (hs:swapsWith value (some (.Subscript o i pos')) pos.line X.env=pure false):
  PS X (.Assign [.Subscript o i pos'] value pos) (vm td ty tv):=by
 intro pins s σ H D I h
 refine wpAny_Assign_Subscript (bB (hv pins s σ H _ I h) fun r s1 h1=>?_) hs
 obtain⟨v,H1,I1,rv,q1⟩:=h1
 refine bB (ho pins s1 σ H1 _ I1 q1) fun u s2 h2=>?_
 obtain⟨x,H2,I2,rx,q2⟩:=h2
 refine bB (hi pins s2 σ H2 _ I2 q2) fun iv s3 h3=>?_
 obtain⟨y,H3,I3,ry,a,H4,ex,g,q3⟩:=h3
 subst ex
 obtain rfl:u=Value.ref a:=rx
 exact nQ hu I3 g ry rv fun s4 I4=>⟨σ,H4,I4,q3⟩
end
theorem pE {P:Program} {w:World} {H:Hp} (h:Heap) (hb:sysModules<h.objs.size):ObjOk P w H (h.push {cls:= .type "dict",data:= .dict #[]}) h.objs.size (.dK []):=
 ⟨yx _,beq_eq_false_iff_ne.mpr (Ne.symm (x5 hb)),[],.nil,Heap.DictOf.new h⟩
def t7:TE:=fun _ H Q=>∀p,H p=none->Q (.ref p) (aI H p (.dK []))
section
variable {X:Cx} {pos:Pos}
theorem pF:PE X (.Dict [] [] pos) t7:=fun pins s σ H Q I h=>
 wpAny_Dict_empty ⟨.ref s.heap.objs.size,_,I.laid (a:=s.heap.objs.size) (o:= .dK []) (t':=s.toks) (fun _ _ q=>Heap.get?_push_of_some _ q) (xQ _) (pE s.heap I.big),rfl,h _ (I.hok.fresh (xQ _))⟩
end
section
variable {X:Cx} {pins:List (Addr×Obj)} {σ:St} {H:Hp} {s:Shared} {a:Addr} {y d:V} {u r:Value} {o:Option V} {A:Around} {E:Value->Shared->Prop}
end
section
variable {X:Cx} {o e f:Expr} {apos cpos:Pos} {td ty tx:TE}
end
section
variable {X:Cx} {pins:List (Addr×Obj)} {σ:St} {H:Hp} {s:Shared} {a:Addr} {kvs:List (cj×V)} {A:Around} {E:Value->Shared->Prop}
end
section
variable {X:Cx} {pins:List (Addr×Obj)} {σ:St} {H:Hp} {s:Shared} {a:Addr} {y:V} {u:Value} {A:Around} {E:Value->Shared->Prop}
end
end L2
namespace Att
open PySem PySem.W PySem.Calls PyProof.Rows
theorem gC {P:Params} {h:Heap}:∀(ns:List Int) (vs:List Value),WellAll P h vs (ns.map WData.int)->IntsAre vs ns:=by
 intro ns
 induction ns with
 | nil=>
  intro vs w
  rw[List.map_nil]at w
  cases w
  exact .nil
 | cons n ns ih=>
  intro vs w
  rw[yF]at w
  cases w with
  | cons a b=>
   cases a
   exact .cons _ _ (ih _ b)
theorem nR {l:OpenLaw} {n:Nat} (hn:l.most=some n) {P:Params} {h:Heap} {args:List WData} {vals:List Value}
  (hpre:l.row.toRowW.claim.pre args=true) (hwl:WellAll P h vals args):
  ∃a vs ns,vals=[Value.ref a]/\args=[WData.list (ns.map WData.int)]/\h.get? a=some {cls:= .type "list",data:= .seq vs.toArray}/\IntsAre vs ns/\ns.length<=n:=by
 have hsh:WShape.hasAll [] args [.list .int]=true:=(pre_splitW hpre).1
 have hc:l.pre.holds [] {args:=args}=true:=(pre_splitW hpre).2
 obtain⟨d,r,rfl,h1,h2⟩:=hasAllW_cons hsh
 obtain rfl:=hasAllW_nil h2
 obtain⟨xs,rfl,h3⟩:=hasW_list h1
 obtain⟨ns,rfl⟩:=items_int h3
 have hlen:ns.length<=n:=by
  unfold OpenLaw.pre at hc
  have h4:(WTm.not (.lt (.lit (.int (n:Int))) (.len (.arg 0)))).holds [] {args:=[.list (ns.map .int)]}=true:=by
   have h4:=(holds_andW hc).1
   rw[hn]at h4
   exact h4
  have h5:=condW_of h4 (w_not (w_lt w_lit (w_len_list (w_arg rfl))))
  rw[xM]at h5
  refine yH fun q=>?_
  have q':(n:Int)<((ns.length:Nat):Int):=by omega
  first
   | (rw [decide_eq_true q']at h5;exact absurd h5 (by decide))
   | (simp at h5;omega)
 cases hwl with
 | cons w1 w2=>
  cases w2
  cases w1 with
  | list ho hall=>exact⟨_,_,ns,rfl,rfl,ho,gC ns _ hall,hlen⟩
theorem nU (l:OpenLaw) (args:List WData):l.row.toRowW.claim.post args (.bool true) args=true:=
 postW_of (r:=l.row.toRowW) (X:=(true==true))
  (show WShape.has [] (.bool true) .bool=true by first | rfl | decide | simp[WShape.has,WShape.arms,WShape.armsAll])
  (show(WTm.eq .res (.lit (.bool true))).value [] {args:=args,res:=some (.bool true),after:=args}=some (.bool (true==true))from w_eq_bool (w_res rfl) w_lit) rfl
theorem kA {l:OpenLaw} {n:Nat} {q:Program} {loose:List Str} {XP:(Str->Option Value)->Heap->Prop} {YP:World->Heap->Prop} {d:DefRec}
  (hn:l.most=some n) (hdf:d.params.defaults=[])
  (call:∀(w:World) (s₀ s₁:Shared) (mg mb:Str->Option Value) (fa:Addr) (o:Obj) (pm cd doc:Value) (a:Addr) (vs:List Value) (ns:List Int),
   Ground q loose [] XP w s₀ mg mb s₁.heap->YP w s₁.heap->
   s₁.heap.get? fa=some o->o.data= .func (docDef d.name d.params d.body d.scope pm cd doc)->s₁.heap.CodeRec cd d.name->mg d.name=some (.ref fa)->
   s₁.heap.get? a=some {cls:= .type "list",data:= .seq vs.toArray}->IntsAre vs ns->ns.length<=n->s₁.gens=#[]->
   codeAny (model l.prog w) callerA (.call (.ref fa) ⟨[.ref a],[]⟩) (fun r s'=>r= .ok (.ret (.bool true))/\OldK s₁.heap s'.heap/\s'.os=s₁.os/\AllBare s'.gens) s₁):
  WalkO q loose XP YP l.row.toRowW d [] (fun f vs=>PySem.call f vs):=by
 intro w s₀ s₁ mg mb G Y fa o pm cd doc dV kV ho hd hcd hD hmg hg args vals as hpre hlay hrd hwl hlo
 obtain rfl:dV= .none:=Dflts.none hD hdf
 obtain rfl:kV= .none:=Dflts.noKw hD
 obtain⟨a,vs,ns,rfl,rfl,hobj,hints,hlen⟩:=nR hn hpre hwl
 refine enter_call (codeAny_mono (call w s₀ s₁ mg mb fa o pm cd doc a vs ns G Y ho (fd_plain hd) hcd hmg hobj hints hlen hg) fun r s' hq=>?_)
 obtain⟨rfl,h2,h3,h4⟩:=hq
 exact⟨.inl ⟨.bool true,.bool true,[],rfl,fun _=>rfl,.bool true,nU l _,fun _=>⟨List.Pairwise.nil,fun _ hm=>(nomatch hm)⟩⟩,h2,h3,h4⟩
section
variable {prog:Program} {w:World} {A:Around} {E:Value->Shared->Prop} {s:Shared} {K:Frag}
end
end Att
namespace L2
open PySem PySem.Spec PyProof.Rows
theorem fV:∀{vs:List Value} {ns:List Int},IntsAre vs ns->Vals (ns.map V.int) vs:=by
 intro vs ns h
 induction h with
 | nil=>exact .nil
 | cons n t h ih=>exact .cons ⟨t,rfl⟩ ih
def t8 (H:Hp):Prop:=∀b,H b=none\/∃o xs,H b=some (.frz o (.lst xs))
theorem pG {P:Program} {w:World} {K:PySem.W.Frag} {mg mb:Str->Option Value} {CX:oQ} {k:Nat} {fa a:Addr} {fd:FuncData} {x:Str} {sp:Sp} {s₁:Shared} {vs:List Value} {ns:List Int}
  (KX:K.In s₁.heap) (hns:s₁.heap.Ns mainGlobals mg) (hb:s₁.heap.Ns builtinsNs mb) (hbb:∀x:Str,x≠"__name__"->mb x=bootBuiltins x) (hlim:s₁.heap.NoLimit) (hg:s₁.gens=#[])
  (ha:s₁.heap.get? a=some {cls:= .type "list",data:= .seq vs.toArray}) (hi:IntsAre vs ns) (hl:ns.length<=sizeLine) (hr:Room k callerA)
  (F:∀base:Heap,K.In base->base.Ns mainGlobals mg->FnOk P w K mg base CX k fa fd [x] sp) (hbind:∀(s:Shared) (u:Value),BindsTo s fd ⟨[u],[]⟩ [(x,u)])
  (hsp:∀H:Hp,t8 H->SqL K H a (ns.map V.int)->sp [.ref a] H (fun v _=>v= .bl true) fun _ _ _=>False)
  (hCX:∀H e s',CX [] H s₁ (fun _ _ _=>False) e s'->False):
  codeAny (model P w) callerA (.call (.ref fa) ⟨[.ref a],[]⟩) (fun r s'=>r= .ok (.ret (.bool true))/\OldK s₁.heap s'.heap/\s'.os=s₁.os/\AllBare s'.gens) s₁:=by
 have rv:=fV hi
 have lenV:=hi.length
 have core:∀H:Hp,t8 H->SqL K H a (ns.map V.int)->HOk P w H s₁.heap->(∀b,H b≠none->b=a)->(H a≠none->K.lookup a=none)->
   codeAny (model P w) callerA (.call (.ref fa) ⟨[.ref a],[]⟩) (fun r s'=>r= .ok (.ret (.bool true))/\OldK s₁.heap s'.heap/\s'.os=s₁.os/\AllBare s'.gens) s₁:=by
  intro H hO hS hok hA hK
  have base_of:∀{b:Addr} {o:Obj},s₁.heap.get? b=some o->H b=none->(jv s₁.heap H).get? b=some o:=fun e n=>oU e n
  have noA:∀{b:Addr} {o:Obj} {es:Array DictEntry} {ep:Nat},s₁.heap.get? b=some o->o.data= .dict es ep->H b=none:=fun {b o es ep} e d=>by
   cases q:H b with
   | none=>rfl
   | some u=>
    have e':b=a:=hA b (by rw[q];simp)
    subst e'
    rw[ha]at e;cases e
    have d':Data.seq vs.toArray _=Data.dict es ep:=d
    cases d'
  have nsK:∀{b:Addr} {m:Str->Option Value},s₁.heap.Ns b m->(jv s₁.heap H).Ns b m:=fun {b m} ⟨o,es,ep,e,d,r⟩=>⟨o,es,ep,base_of e (noA e d),d,r⟩
  have hKb:K.In (jv s₁.heap H):=fun b o e=>base_of (KX b o e) (by
   cases q:H b with
   | none=>rfl
   | some u=>
    have e':b=a:=hA b (by rw[q];simp)
    subst e'
    rw[hK (by rw[q];simp)]at e;cases e)
  have hM:Mod K mg (jv s₁.heap H):=⟨hKb,nsK hns,⟨mb,nsK hb,hbb⟩,let⟨mc,h1,h2⟩:=hlim;⟨mc,nsK h1,h2⟩⟩
  have e0:Env0 P w K mg (jv s₁.heap H) callerA [] s₁ H:=⟨rfl,hM,fun b o e=>rb e,Nat.le_of_eq (nB _ _),trivial,fun b hb=>absurd (show b∈([]:List Addr)from hb) (by simp),hok,.of_eq hg⟩
  refine codeAny_mono ((F _ hKb (nsK hns)).run callerA [] s₁ H ⟨[.ref a],[]⟩ [.ref a] [.ref a] _ _ hr e0 (hbind s₁ (.ref a)) (.cons rfl .nil) (hsp H hO hS)) fun r s' h=>?_
  cases r with
  | error e=>exact(hCX H e s' h).elim
  | ok fl=>
   cases fl with
   | next=>exact False.elim h
   | brk=>exact False.elim h
   | cont=>exact False.elim h
   | ret u=>
    obtain⟨v,H',os,bare,un,hok',r',q⟩:=h
    have q':v= .bl true:=q
    subst q'
    obtain rfl:u=Value.bool true:=r'
    refine⟨rfl,OldK.of_keep fun b o e=>?_,os,bare⟩
    cases q:H b with
    | none=>exact un.keep b o e q (by intro z;exact absurd (show b∈([]:List Addr)from z) (by simp)) (by simp)
    | some u=>
     rcases hO b with z | ⟨ob,xs,z⟩
     ·rw [q]at z;cases z
     ·have z2:=un.frzs b ob _ z
      obtain⟨e1,_⟩:=hok b _ z
      obtain⟨e2,_⟩:=hok' b _ z2
      rw[e]at e1;cases e1
      exact e2
 cases hk:K.lookup a with
 | some o=>
  have e:=KX a o hk
  rw[ha]at e
  cases e
  refine core (fun _=>none) (fun _=> .inl rfl) (.inr ⟨_,vs.toArray,_,hk,rfl,rfl,rfl,by rw[xU,lenV];exact hl,by simpa using rv⟩) (fun b u z=>by have z':(none:Option HO)=some u:=z;cases z') (fun b z=>absurd rfl z) fun z=>absurd rfl z
 | none=>
  refine core (fun b=>if b=a then some (.frz {cls:= .type "list",data:= .seq vs.toArray} (.lst (ns.map V.int)))else none) (fun b=>?_) (.inl (.inr ⟨{cls:= .type "list",data:= .seq vs.toArray},if_pos rfl⟩)) (fun b u z=>?_) (fun b z=>?_) fun _=>hk
  ·by_cases hb:b=a
   ·exact .inr ⟨_,_,if_pos hb⟩
   ·exact .inl (if_neg hb)
  ·by_cases hb:b=a
   ·have z':=(if_pos hb).symm.trans z
    cases z'
    subst hb
    exact⟨ha,by rw[xM];exact hl,vs,_,rv,ha⟩
   ·have z':=(if_neg hb).symm.trans z
    cases z'
  ·by_cases hb:b=a
   ·exact hb
   ·exact absurd (if_neg hb) z
abbrev xJ {K:PySem.W.Frag} {h:Heap} (_:K.In h):PySem.W.Frag:=K
theorem rE {l:PySem.W.OpenLaw} {n k:Nat} {q:Program} {loose:List Str} {XP:(Str->Option Value)->Heap->Prop} {YP:World->Heap->Prop} {d:DefRec} {K:Params->PySem.W.Frag} {CX:World->oQ} {sp:World->Sp} {x:Str}
  (hn:l.most=some n) (hn2:n<=sizeLine) (hdf:d.params.defaults=[]) (hr:Room k callerA)
  (hY:∀(w:World) (h:Heap),YP w h->(K w.params).In h)
  (F:∀(w:World) (mg:Str->Option Value) (fa:Addr) (h:Heap),(K w.params).In h->h.Ns mainGlobals mg->mg d.name=some (.ref fa)->
   ∃fd:FuncData,(∀(s:Shared) (u:Value),BindsTo s fd ⟨[u],[]⟩ [(x,u)])/\
    ∀base:Heap,(K w.params).In base->base.Ns mainGlobals mg->FnOk l.prog w (K w.params) mg base (CX w) k fa fd [x] (sp w))
  (hsp:∀(w:World) (H:Hp) (a:Addr) (ns:List Int),ns.length<=n->t8 H->SqL (K w.params) H a (ns.map V.int)->sp w [.ref a] H (fun v _=>v= .bl true) fun _ _ _=>False)
  (hCX:∀(w:World) (H:Hp) (s:Shared) (e:Value) (s':Shared),CX w [] H s (fun _ _ _=>False) e s'->False):
  PySem.W.WalkO q loose XP YP l.row.toRowW d [] (fun f vs=>PySem.call f vs):=by
 refine Att.kA hn hdf fun w s₀ s₁ mg mb fa o pm cd doc a vs ns G Y ho hd hcd hmg hobj hints hlen hg=>?_
 have KX:=hY w _ Y
 obtain⟨fd,hb,hF⟩:=F w mg fa _ KX G.T.g hmg
 exact pG KX G.T.g G.T.b G.T.builtins G.T.nolimit hg hobj hints (yd hlen hn2) hr hF hb (fun H hO hS=>hsp w H a ns hlen hO hS) fun H e s'=>hCX w H s₁ e s'
def cX (s:Stmt):Arguments:=match s with
 | .FunctionDef _ a _ _ _ _ _ _ _ _=>a
 | _=>{posonlyargs:=[],args:=[],vararg:=none,kwonlyargs:=[],kw_defaults:=[],kwarg:=none,defaults:=[]}
def cG (s:Stmt):List Stmt:=match s with
 | .FunctionDef _ _ b _ _ _ _ _ _ _=>b
 | _=>[]
def ak (s:Stmt):Scope:=match s with
 | .FunctionDef _ _ _ _ _ _ sc _ _ _=>sc
 | _=>{kind:= .function,names:=[],isGenerator:=false,isCoroutine:=false}
abbrev aY:oQ:=fun _ _ _ _ _ _=>False
abbrev E0:XK:=fun _ _ _=>False
theorem vn {X:Cx}:lI aY X E0:=fun _ _ _ _ _ _ _ h=>h.elim
structure Fun (K:PySem.W.Frag) (x qual:Str) (st:Stmt) (f:Addr) (fd:FuncData):Prop where
 ex:∃(oc:Value) (od:Option Addr) (kV doc pm:Value) (an:Option Addr) (cdv ct:Value) (osl:Array (Option Value)),
  fd=PySem.W.fnOf x qual (cX st) (cG st) (ak st) .none kV doc pm an cdv ct/\K.lookup f=some ⟨oc,od,.func fd,osl⟩/\PySem.W.codeIn K cdv qual=true
 kp:PySem.W.keepIn K (.ref f)=true
section
variable {P:Program} {w:World} {K:PySem.W.Frag} {mg:Str->Option Value} {base:Heap}
theorem Fun.ok {x qual:Str} {st:Stmt} {f:Addr} {fd:FuncData} {N ps:List Str} {k:Nat} {sp:Sp} (F:Fun K x qual st f fd) (S:FnScope N ps (ak st)) (len:∀vs H Q E,sp vs H Q E->vs.length=ps.length)
  (hbody:∀(cdv:Value) (A:Around) (outer:List Env) (s:Shared) (H:Hp) (vs:List V) (Q:VK) (E:XK),Room k (A.deeper (envOfC qual (ak st) s.heap.objs.size f cdv))->sp vs H Q E->
   ∃t,PSs (km aY P w K mg base N qual (ak st) f cdv A outer s H E).nox (cG st) t/\t {nx:=fun _ H'=>Q .non H',rt:=Q} (gu N vs) H):FnOk P w K mg base aY (k+1) f fd ps sp:=by
 obtain⟨oc,od,kV,doc,pm,an,cdv,ct,osl,rfl,lk,hcd⟩:=F.ex
 refine vd lk hcd S len fun A outer s H vs Q E hr hsp=>?_
 obtain⟨t,h,q⟩:=hbody cdv A outer s H vs Q E hr hsp
 exact⟨t,h.nox,q⟩
theorem Fun.binds {x qual:Str} {st:Stmt} {f:Addr} {fd:FuncData} {ps:List Str} (F:Fun K x qual st f fd)
  (h:∀(kV doc pm:Value) (an:Option Addr) (cdv ct:Value) (us:List Value),us.length=ps.length->bindArgs (PySem.W.fnOf x qual (cX st) (cG st) (ak st) .none kV doc pm an cdv ct) ⟨us,[]⟩=pure (ps.zip us)):Binds K fd ps []:=by
 obtain⟨oc,od,kV,doc,pm,an,cdv,ct,osl,rfl,lk,hcd⟩:=F.ex
 exact .all (h kV doc pm an cdv ct)
theorem t9 {x qual:Str} {st:Stmt} {f:Addr} {oc:Value} {od an:Option Addr} {osl:Array (Option Value)} {kV doc pm cdv ct:Value} (l:K.lookup f=some ⟨oc,od,.func (PySem.W.fnOf x qual (cX st) (cG st) (ak st) .none kV doc pm an cdv ct),osl⟩)
 (c:PySem.W.codeIn K cdv qual=true) (k:PySem.W.keepIn K (.ref f)=true):Fun K x qual st f (PySem.W.fnOf x qual (cX st) (cG st) (ak st) .none kV doc pm an cdv ct):=⟨⟨oc,od,kV,doc,pm,an,cdv,ct,osl,rfl,l,c⟩,k⟩
end
theorem aV {A:Around} {k:Nat} (hr:Room k A):A.units+1<cLine:=zh (zw (by decide:1<=64) _) hr.units
theorem i3 {n:Nat} (h:n<=1000):n<sizeLine:=zh h (by decide)
section
variable {X:Cx}
theorem pv (i:Nat) {x:Str} {pos:Pos} (hN:X.N[i]?=some x:=by rfl) (hv:vZ X.env.scope x:=by first | exact Or.inl rfl | exact Or.inr (Or.inl rfl) | exact Or.inr (Or.inr rfl)) (hd:(x==("__debug__":Str))=false:=by decide)
 (hcd:(x==("__classdict__":Str))=false:=by decide):PE X (.Name x pos) (nC i):=tz hN hv hd hcd
theorem nV:bL X (.builtin "len") (fun xs H Q=>∃a kvs,xs=[V.ref a]/\H a=some (.dK kvs)/\Q (.int kvs.length) H):=by
 intro pins s σ H xs us Q I r h
 obtain⟨a,kvs,rfl,ha,q⟩:=h
 obtain⟨u,rfl,ru⟩:=cR r
 cases ru
 exact vk I (.inl ha) fun t s' I'=>⟨.int kvs.length,H,I',⟨t,rfl⟩,q⟩
end
theorem aW {A B:Prop} (h:B):if false=true then A else B:=by
 rw[if_neg xW]
 exact h
theorem bh {A B:Prop} (h:A):if true=true then A else B:=by
 rw[if_pos rfl]
 exact h
def Same (H H':Hp):Prop:=∀b o,H b=some o->H' b=some o
theorem Same.refl (H:Hp):Same H H:=fun _ _ h=>h
theorem Same.trans {H H1 H2:Hp} (a:Same H H1) (b:Same H1 H2):Same H H2:=fun c o h=>b c o (a c o h)
theorem Same.free {H H':Hp} (e:Same H H') {l:Addr} (h:H' l=Option.none):H l=Option.none:=by
 cases q:H l with
 | none=>rfl
 | some o=>
  rw[e l o q]at h
  cases h
theorem Same.seq {K:PySem.W.Frag} {H H':Hp} {a:Addr} {xs:List V} (e:Same H H') (h:SqL K H a xs):SqL K H' a xs:=by
 rcases h with(h | ⟨o,h⟩) | h
 ·exact .inl (.inl (e _ _ h))
 ·exact .inl (.inr ⟨o,e _ _ h⟩)
 ·exact .inr h
section
variable {κ:Type} [DecidableEq κ]
theorem gJ {l:List κ} {k:κ} (h:l.Nodup) (n:¬k∈l):(l++[k]).Nodup:=List.nodup_append.mpr ⟨h,zi _ _,fun a ha b hb e=>n (by rw[<- xX.mp hb,<- e];exact ha)⟩
end
structure BA where
 cl:List (Str×Addr)
 C:Addr
 s₀:Shared
 H₀:Hp
 ex:List Addr
abbrev iF (X:Cx) (sc:Scope) (N:List Str) (b:BA):Cx:=
 {prog:=X.prog,w:=X.w,K:=X.K,mg:=X.mg,base:=X.base,A:=X.A,N:=N,s₀:=b.s₀,H₀:=b.H₀,env:=compEnvC sc b.cl b.C X.env,outer:=X.stack,stack:=X.stack,ex:=b.ex,fn:=fun _=>false,calm:=X.calm,pn:=[],xe:=fun _ _=>False}
def bp (env:Env):List (Str×Addr)->List (Str×NameKind)->List (Str×Addr)
 | acc,[]=>acc
 | acc,(n,k) :: r=>bp env (if k== .free then(match env.cells.lookup n with | some c=>(n,c) :: acc | none=>acc)else acc) r
theorem pH (env:Env):∀(l:List (Str×NameKind)) (acc:List (Str×Addr)),(∀y∈l,y.2= .free->∃c,env.cells.lookup y.1=some c)->
  (forIn l acc (fun(x:Str×NameKind) (cs:List (Str×Addr))=>(match x with
   | (name,kind)=>if(kind== .free)=true then(do let a <- cellOf env name;pure (ForInStep.yield ((name,a) :: cs)))else pure (ForInStep.yield cs):Sem (ForInStep (List (Str×Addr))))))=(pure (bp env acc l):Sem (List (Str×Addr))):=by
 intro l
 induction l with
 | nil=>intro acc _;rfl
 | cons nk r ih=>
  obtain⟨n,k⟩:=nk
  intro acc h
  have hr:∀y∈r,y.2= .free->∃c,env.cells.lookup y.1=some c:=fun y hy=>h y (x8 _ hy)
  rw[List.forIn_cons]
  by_cases hk:k= .free
  ·subst hk
   obtain⟨c,hc⟩:=h (n,.free) yc rfl
   have hc':env.cells.lookup n=some c:=hc
   simp only[beq_self_eq_true,if_true,bp,hc']
   have e:cellOf env n=pure c:=by unfold cellOf;rw[hc']
   rw[e,pure_bind,pure_bind]
   exact ih _ hr
  ·have hb:(k==NameKind.free)=false:=by simpa using hk
   simp only[hb,yr,if_false,bp]
   rw[pure_bind]
   exact ih _ hr
theorem rF {env:Env} {sc:Scope} (h:∀y∈sc.names,y.2= .free->∃c,env.cells.lookup y.1=some c):closureFor sc env=pure (bp env [] sc.names):=by
 unfold closureFor
 exact(congrArg (fun m=>m >>= fun cs=>pure cs) (pH env sc.names [] h)).trans (pure_bind _ _)
theorem bY {env:Env}:∀(l:List (Str×NameKind)) (acc:List (Str×Addr)),(∀x c,acc.lookup x=some c->env.cells.lookup x=some c)->
  ∀x c,(bp env acc l).lookup x=some c->env.cells.lookup x=some c:=by
 intro l
 induction l with
 | nil=>intro acc h x c e;exact h x c e
 | cons nk r ih=>
  obtain⟨n,k⟩:=nk
  intro acc h x c e
  refine ih _ (fun y d q=>?_) x c e
  by_cases hk:(k==NameKind.free)=true
  ·rw [if_pos hk]at q
   cases hl:env.cells.lookup n with
   | none=>rw[hl]at q;exact h y d q
   | some a=>
    rw[hl]at q
    simp only[ym]at q
    by_cases hy:(y==n)=true
    ·rw [hy]at q
     have e1:y=n:=by simpa using hy
     subst e1
     cases q
     exact hl
    ·rw [yN]at hy
     rw[hy]at q
     exact h y d q
  ·rw [if_neg hk]at q
   exact h y d q
theorem i4 {env:Env}:∀(l:List (Str×NameKind)) (acc:List (Str×Addr)) (x:Str),(acc.lookup x).isSome=true->((bp env acc l).lookup x).isSome=true
 | [],acc,x,h=>h
 | (n,k) :: r,acc,x,h=>by
  refine i4 r _ x ?_
  by_cases hk:(k==NameKind.free)=true
  ·rw [if_pos hk]
   cases env.cells.lookup n with
   | none=>exact h
   | some a=>
    show(List.lookup x ((n,a) :: acc)).isSome=true
    rw[ym]
    by_cases hy:(x==n)=true
    ·rw [hy];rfl
    ·rw [yN]at hy
     rw[hy];exact h
  ·rw [if_neg hk];exact h
theorem i5 {env:Env} (l:List (Str×NameKind)) (acc:List (Str×Addr)) (x:Str) (h:(x,NameKind.free)∈l) (q:∃c,env.cells.lookup x=some c):((bp env acc l).lookup x).isSome=true:=by
 obtain⟨c,hc⟩:=q
 induction l generalizing acc with
 | nil=>cases h
 | cons p r ih=>
  rcases xY.mp h with e | h
  ·subst e
   refine i4 r _ x ?_
   rw[if_pos (beq_self_eq_true _),hc]
   show(List.lookup x ((x,c) :: acc)).isSome=true
   rw[ym,beq_self_eq_true];rfl
  ·exact ih _ h
theorem hX {env:Env}:∀(l:List (Str×NameKind)) (x:Str) (k:NameKind),(∀y∈l,y.2≠ .cell)->k= .cell\/k= .free->
  (l.map fun(n,k)=>if(k==NameKind.free&&env.scope.kind== .function&&env.kindOf n==some .cell)then(n,NameKind.cell)else(n,k)).lookup x=some k->(x,NameKind.free)∈l:=by
 intro l
 induction l with
 | nil=>intro _ _ _ _ h;simp at h
 | cons nk r ih=>
  obtain⟨n,k'⟩:=nk
  intro x k hc hk h
  rw[yF]at h
  by_cases hx:(x==n)=true
  ·have e1:x=n:=by simpa using hx
   subst e1
   by_cases hf:k'= .free
   ·subst hf;exact yc
   ·exfalso
    have hb:(k'==NameKind.free)=false:=by simpa using hf
    simp only[hb,yg,yr,if_false,ym,beq_self_eq_true]at h
    have e2:k'=k:=Option.some.inj h
    rcases hk with z | z
    ·exact hc (x,k') yc (e2.trans z)
    ·exact hf (e2.trans z)
  ·rw [yN]at hx
   refine x8 _ (ih x k (fun y hy=>hc y (x8 _ hy)) hk ?_)
   by_cases hq:(k'==NameKind.free&&env.scope.kind== .function&&env.kindOf n==some .cell)=true
   ·simp only[hq,if_true,ym,hx]at h;exact h
   ·rw [yN]at hq
    simp only[hq,yr,if_false,ym,hx]at h;exact h
theorem iG {env:Env}:∀(l:List (Str×NameKind)) (x:Str),l.lookup x=some .free->
  ∃k,(k=NameKind.cell\/k=NameKind.free)/\(l.map fun(n,k)=>if(k==NameKind.free&&env.scope.kind== .function&&env.kindOf n==some .cell)then(n,NameKind.cell)else(n,k)).lookup x=some k:=by
 intro l
 induction l with
 | nil=>intro _ h;simp at h
 | cons nk r ih=>
  obtain⟨n,k'⟩:=nk
  intro x h
  rw[yF]
  by_cases hx:(x==n)=true
  ·simp only[ym,hx]at h
   have e2:k'= .free:=Option.some.inj h
   subst e2
   by_cases hq:(NameKind.free==NameKind.free&&env.scope.kind== .function&&env.kindOf n==some .cell)=true
   ·exact⟨.cell,.inl rfl,by simp only[hq,if_true,ym,hx]⟩
   ·rw [yN]at hq
    exact⟨.free,.inr rfl,by simp only[hq,yr,if_false,ym,hx]⟩
  ·rw [yN]at hx
   simp only[ym,hx]at h
   obtain⟨k,hk,e⟩:=ih x h
   refine⟨k,hk,?_⟩
   by_cases hq:(k'==NameKind.free&&env.scope.kind== .function&&env.kindOf n==some .cell)=true
   ·simp only[hq,if_true,ym,hx];exact e
   ·rw [yN]at hq
    simp only[hq,yr,if_false,ym,hx];exact e
theorem kC {l:List (Str×NameKind)} {x:Str} {k:NameKind}:l.lookup x=some k->(x,k)∈l:=by
 induction l with
 | nil=>intro h;simp at h
 | cons p r ih=>
  intro h
  obtain⟨n,k'⟩:=p
  by_cases hx:(x==n)=true
  ·simp only[ym,hx]at h
   have e1:x=n:=by simpa using hx
   subst e1
   cases h
   exact yc
  ·rw [yN]at hx
   simp only[ym,hx]at h
   exact x8 _ (ih h)
section
variable {prog:Program} {w:World} {A:Around} {E:Value->Shared->Prop} {R:Result->Shared->Prop} {s:Shared}
abbrev sR:Value->Shared->Prop:=fun _ _=>False
theorem lN {elt target iter:Expr} {ifs:List Expr} {scope:Scope} {pos:Pos} {it acc:Value} {env:Env} (J:Nat->Shared->Prop)
  (turn:∀n s,J n s->wpAny (model prog w) A (pyNext it) (fun r s₁=>(r=none/\R (.ok .next) s₁)\/∃v,r=some v/\
   wpAny (model prog w) A (letOwnedTupleGo target it v) (fun _ s₁'=>wpAny (model prog w) A (assign target env v) (fun _ s₂=>
    wpAny (model prog w) A (forIn ifs true fun c r=>if r=true then do let ok <- isTrue c env (eval c env);pure (ForInStep.yield ok)else pure (ForInStep.yield r)) (fun ok s₃=>
     (ok=true->wpAny (model prog w) A (eval elt env) (fun x s₄=>wpAny (model prog w) A (call (.builtin "list.append") [acc,x]) (fun _ s₅=>∃m,m<n/\J m s₅) sR s₄) sR s₃)/\
     (ok=false->∃m,m<n/\J m s₃)) sR s₂) sR s₁') sR s₁) sR s)
  (n:Nat) (h:J n s):codeAny (model prog w) A (.compLoop (.ListComp elt [⟨target,iter,ifs,0⟩] scope pos) 0 it acc env) R s:=by
 refine codeAny_loop (M:=model prog w) (A:=A) rfl J (fun n s hJ=>?_) n h
 refine wpAny_noted (m:=compTurn (.ListComp elt [⟨target,iter,ifs,0⟩] scope pos) 0 it acc env) ?_
 rw[compTurn_list]
 refine wpAny_bind (wpAny_standAt (wpAny_bind (wpAny_mono (turn n s hJ) (fun r s₁ q=>?_) fun _ _ z=>z.elim)))
 rcases q with⟨e,q⟩ | ⟨v,e,q⟩
 ·subst e
  exact wpAny_pure q
 ·subst e
  refine wpAny_bind (wpAny_mono q (fun _ s₂ q=>?_) fun _ _ z=>z.elim)
  refine wpAny_bind (wpAny_mono q (fun _ s₃ q=>?_) fun _ _ z=>z.elim)
  refine wpAny_bind (wpAny_mono q (fun ok s₄ q=>?_) fun _ _ z=>z.elim)
  cases ok with
  | false=>exact wpAny_pure ⟨rfl,q.2 rfl⟩
  | true=>
   refine wpAny_bind (wpAny_bind (wpAny_mono (q.1 rfl) (fun x s₅ q=>?_) fun _ _ z=>z.elim))
   exact wpAny_bind (wpAny_mono q (fun _ s₆ q=>wpAny_pure (wpAny_pure ⟨rfl,q⟩)) fun _ _ z=>z.elim)
end
def uQ (X:Cx) (ifs:List Expr) (t:TT):Prop:=
 ∀(pins:List (Addr×Obj)) (s:Shared) (σ:St) (H:Hp) (Q:Bool->Hp->Prop),Inv X pins σ H s->t σ H Q->
  wpAny (model X.prog X.w) X.A (forIn ifs true fun c r=>if r=true then do let ok <- isTrue c X.env (eval c X.env);pure (ForInStep.yield ok)else pure (ForInStep.yield r)) (TP X pins σ Q) X.xe s
def fv:TT:=fun _ H Q=>Q true H
theorem bJ {X:Cx}:uQ X [] fv:=fun _ _ _ H _ I h=>wpAny_tests_nil ⟨H,I,h⟩
theorem dX {X:Cx} {c:Expr} {t:TT} (h:PT X c t):uQ X [c] t:=fun pins s σ H Q I hw=>wpAny_tests_one (h pins s σ H Q I hw)
def bV (σ:St) (js:List (Option Nat)):St:=js.map fun j=>j.bind fun i=>(σ[i]?).join
def rG (σ σ':St):Prop:=σ'.length=σ.length/\∀(i:Nat) v,σ[i]?=some (some v)->σ'[i]?=some (some v)
def b9 (J:It) (H1:Hp) (js:List (Option Nat)) (g:TG) (tc:TT) (te:TE) (σ:St) (Q:VK):Prop:=∀acc,H1 acc=none->
 ∃W:Nat->Nat->List V->Hp->Prop,(∃m,W 0 m [] (aI H1 acc (.lst [])))/\∀i m ys H,W i m ys H->
  (J.stop i H/\Q (.ref acc) H)\/(J.go i H/\∃N:List V->Hp->Prop,(∀ys' H',N ys' H'->∃m',m'<m/\W (i+1) m' ys' H')/\
   ∀x H',J.yld i H x H'->g x (bV σ js) H' fun σ2 H2=>rG (bV σ js) σ2/\tc σ2 H2 fun b H3=>
    (b=true->te σ2 H3 fun y H4=>H4 acc=some (.lst ys)/\ys.length<sizeLine/\N (ys++[y]) (aI H4 acc (.lst (ys++[y]))))/\(b=false->N ys H3))
def pI (wi:TI) (js:List (Option Nat)) (g:TG) (tc:TT) (te:TE):TE:=fun σ H Q=>wi σ H fun J H1=>b9 J H1 js g tc te σ Q
theorem Un.but {fs ex:List Addr} {H H1:Hp} {h h1 h2:Heap} (u:Un fs ex H H1 h h1) (k:∀b o,h.get? b=some o->∀o',h1.get? b=some o'->h2.get? b=some o'):Un fs ex H H1 h h2 where
 keep:=fun b o e n h1 h2=>k b o e _ (u.keep b o e n h1 h2)
 slot:=fun b o e n h1 h2=>let⟨sl,q⟩:=u.slot b o e n h1 h2;⟨sl,k b o e _ q⟩
 free:=u.free
 there:=fun b o e hx=>let⟨o',q⟩:=u.there b o e hx;⟨o',k b o e _ q⟩
 tups:=u.tups
 frzs:=u.frzs
 tbls:=u.tbls
theorem uR {P:Program} {w:World} {H:Hp} {h h':Heap} {C:Addr} (ok:HOk P w H h) (hn:H C=none) (k:∀b o,b≠C->h.get? b=some o->h'.get? b=some o):HOk P w H h':=fun b o e=>by
 refine(ok b o e).stay (fun c u hc q=>k c u ?_ q) (fun _ q=>q) fun _ _ q=>q
 rintro rfl
 rcases hc with z | z
 ·rw [z]at hn;rw[hn]at e;cases e
 ·rw [hn]at z;cases z
theorem bW {α β:Type} {F:α->β->Prop}:∀{l:List α} {r:List β} {i:Nat} {b:β},Paired F l r->r[i]?=some b->∃a,l[i]?=some a/\F a b:=by
 intro l r i b h
 induction h generalizing i with
 | nil=>intro e;simp at e
 | cons r t ih=>
  intro e
  cases i with
  | zero=>cases e;exact⟨_,rfl,r⟩
  | succ i=>exact ih e
theorem ua {X:Cx} {pins:List (Addr×Obj)} {σ:St} {H:Hp} {s:Shared} {sc:Scope} {N:List Str} {fp:List Addr} (I:Inv X pins σ H s) (hk:sc.kind= .function)
  (hcell:∀y∈sc.names,y.2≠ .cell) (hcl:∀y∈sc.names,y.2= .free->∃c,X.env.cells.lookup y.1=some c) (f:∀b∈fp,jy X pins H b) (fl:∀b∈fp,b<s.heap.objs.size):
  (iF X sc N ⟨bp X.env [] sc.names,s.heap.objs.size,s,H,fp⟩).Ok where
 mod:=I.ok.mod
 kind:=hk
 glob:=I.ok.glob
 blt:=I.ok.blt
 above:=xQ _
 inj:=fun x y c e1 e2=>I.ok.inj x y c (bY _ [] (fun _ _ z=>by simp at z) x c e1) (bY _ [] (fun _ _ z=>by simp at z) y c e2)
 has:=fun x hx=>by
  have m:(x,NameKind.free)∈sc.names:=by
   rcases hx with z | z
   ·exact hX (env:=X.env) sc.names x _ hcell (.inl rfl) z
   ·exact hX (env:=X.env) sc.names x _ hcell (.inr rfl) z
  exact yR.mp (i5 sc.names [] x m (hcl _ m rfl))
 cab:=fun _ _ z=>by cases z
 hd:=I.ok.hd
 frames:=I.ok.frames
 stk:= .inl rfl
 exf:=fun b hb=>⟨x5 (fl b hb),fun x c e=>(f b hb).2.2.2.2.1 x c (bY _ [] (fun _ _ z=>by simp at z) x c e)⟩
 bs:=I.bs
 bsz:=yd I.ok.bsz I.sz
 noex:=fun b o e hb=>by
  rcases(f b hb).2.2.2.1 with z | z
  ·exact I.ok.noex b o e z
  ·exact absurd (yb (Heap.lt_size (I.ok.bs b o e).1) z) (y2 _)
 exfs:=fun b hb hs=>by
  rcases xY.mp (I.stkSub b hs)with z | z
  ·exact(f b hb).2.1 z
  ·exact(f b hb).2.2.1 z
 funs:=I.stack
 frf:=I.stkFree
theorem rH {X:Cx} {pins:List (Addr×Obj)} {σ:St} {H:Hp} {s s4:Shared} {sc:Scope} {N:List Str} {js:List (Option Nat)} {fp:List Addr} {m:Str->Option Value} (I:Inv X pins σ H s)
  (ok:(iF X sc N ⟨bp X.env [] sc.names,s.heap.objs.size,s,H,fp⟩).Ok) (hfree:∀y∈sc.names,y.2= .free->X.env.kindOf y.1=some .cell\/X.env.kindOf y.1=some .free)
  (hN:Paired (fun(j:Option Nat) n=>∀i,j=some i->X.N[i]?=some n/\sc.names.lookup n=some .free) js N)
  (ho:s4.os=s.os) (hg:s4.gens=s.gens) (ns:s4.heap.Ns s.heap.objs.size m) (kp:∀b u,s.heap.get? b=some u->s4.heap.get? b=some u):
  Inv (iF X sc N ⟨bp X.env [] sc.names,s.heap.objs.size,s,H,fp⟩) [] (bV σ js) H s4 where
 ok:=ok
 os:=ho
 bare:=by rw[hg];exact I.bare
 base:=Un.kept kp
 loc:=by
  refine⟨m,ns,fun i x v e1 e2 e3=>?_⟩
  have e1':N[i]?=some x:=e1
  obtain⟨j,ej,fj⟩:=bW hN e1'
  unfold bV at e2
  rw[xR,ej]at e2
  cases j with
  | none=>cases e2
  | some k=>
   obtain⟨a1,a2⟩:=fj k rfl
   have e2':(σ[k]?).join=some v:=Option.some.inj e2
   have e4:σ[k]?=some (some v):=by
    cases z:σ[k]? with
    | none=>rw[z]at e2';cases e2'
    | some y=>rw[z]at e2';exact congrArg some e2'
   have mem:=kC a2
   have kn:=hfree _ mem rfl
   have vis:vZ X.env.scope x:= .inr kn
   obtain⟨m',hn',hl'⟩:=I.loc
   obtain⟨u,ru,lk⟩:=hl' k x v a1 e4 vis
   refine⟨u,ru,.inr ⟨?_,?_⟩⟩
   ·obtain⟨k',hk',e⟩:=iG (env:=X.env) sc.names x a2
    rcases hk' with z | z
    ·subst z;exact .inl e
    ·subst z;exact .inr e
   ·rcases lk with⟨z,_⟩ | ⟨_,c,hc,hcl⟩
    ·rcases kn with q | q
     ·have q':X.env.kindOf x=some .cell:=q
      rw[z]at q';cases q'
     ·have q':X.env.kindOf x=some .free:=q
      rw[z]at q';cases q'
    ·obtain⟨c',e'⟩:=yR.mp (i5 (env:=X.env) sc.names [] x mem ⟨c,hc⟩)
     have e2:=bY sc.names [] (fun _ _ z=>by simp at z) x c' e'
     rw[hc]at e2
     cases e2
     obtain⟨o,h1,h2⟩:=hcl
     exact⟨c,e',o,kp c o h1,h2⟩
 cell:=fun x c e=>by
  obtain⟨v,o,h1,h2⟩:=I.cell x c (bY _ [] (fun _ _ z=>by simp at z) x c e)
  exact⟨v,o,kp c o h1,h2⟩
 free:=I.hok.fresh (xQ _)
 freeC:=fun x c e=>I.freeC x c (bY _ [] (fun _ _ z=>by simp at z) x c e)
 pin:=fun p hp=>by cases hp
 hok:=I.hok.kept kp
 len:=by
  unfold bV
  rw[xM]
  exact Paired.length hN
set_option maxHeartbeats 4000000 in
theorem hZ {X:Cx} {cpos:Pos} {use:Option (Value->Sem Unit)} {R:Value->Shared->Prop} {pins:List (Addr×Obj)} {s:Shared} {σ:St} {H:Hp} {Q:VK} {elt iter tg:Expr} {ifs:List Expr} {sc:Scope} {pos:Pos} {wi:TI} {g:TG} {tc:TT} {te:TE} (N:List Str) (js:List (Option Nat))
  (hcalm:X.calm=true) (hi:PI X tg iter wi) (hg:∀b,PG (iF X sc N b) tg g) (hc:∀b,uQ (iF X sc N b) ifs tc) (he:∀b,PE (iF X sc N b) elt te)
  (hN:Paired (fun(j:Option Nat) n=>∀i,j=some i->X.N[i]?=some n/\sc.names.lookup n=some .free) js N)
  (hk:sc.kind= .function)
  (hcell:(sc.names.all fun y=>y.2 != .cell)=true)
  (hfree:(sc.names.all fun y=>y.2 != .free||(X.env.scope.names.lookup y.1==some .cell||X.env.scope.names.lookup y.1==some .free))=true)
  (hnames:(sc.names.all fun y=>y.2 != .local||sc.names.lookup y.1==some .local)=true)
  (hs:∀x,foldedSetIterable iter X.env x=pure x) (I:Inv X pins σ H s) (h:pI wi js g tc te σ H Q)
  (fin0:∀(l C:Addr) (s':Shared) (H':Hp) (m:Str->Option Value),Inv X pins σ H' s'->s'.heap.Ns C m->H' C=none->X.env.locals≠C->X.s₀.heap.objs.size<=C->(∀x c,X.env.cells.lookup x=some c->c≠C)->(∀p∈X.pn++pins,p.1≠C)->Q (.ref l) H'->compPost (model X.prog X.w) X.A X.xe use R (.ref l) C (.ok .next) s'):
  wpAny (model X.prog X.w) X.A (comprehension (.ListComp elt [⟨tg,iter,ifs,0⟩] sc pos) sc X.env cpos (newList []) false (eval iter X.env) use) R X.xe s:=by
 have hcell':∀y∈sc.names,y.2≠ .cell:=fun y hy=>by simpa using x6.mp hcell y hy
 have hfree':∀y∈sc.names,y.2= .free->X.env.kindOf y.1=some .cell\/X.env.kindOf y.1=some .free:=fun y hy e=>by
  have q:=x6.mp hfree y hy
  rw[e]at q
  have q':X.env.scope.names.lookup y.1=some .cell\/X.env.scope.names.lookup y.1=some .free:=by simpa using q
  exact q'
 have hnames':∀y∈sc.names,y.2= .local->sc.names.lookup y.1=some .local:=fun y hy e=>by
  have q:=x6.mp hnames y hy
  rw[e]at q
  simpa using q
 have hcl:∀y∈sc.names,y.2= .free->∃c,X.env.cells.lookup y.1=some c:=fun y hy e=>I.ok.has y.1 (hfree' y hy e)
 refine wpAny_comprehension_free (use:=use) (g:=⟨tg,iter,ifs,0⟩) (gs:=[]) rfl hs (rF hcl) hk hnames' ?_
 refine bB (hi pins s σ H _ I h) fun v s1 h1=>bB h1 fun itv s2 h2=>?_
 obtain⟨it,fp,tn,J,H2,e,I2,T,st2,f2,q⟩:=h2
 subst e
 obtain⟨W,⟨m0,w0⟩,step⟩:=q _ I2.fresh
 refine wpAny_newObj_type (wpAny_newFunctionEnv hcell' (by intro y hy;simp at hy) (fun h₁ hns hsb=>?_) hk)
 dsimp only at hns hsb ⊢
 have I3:Inv X pins σ (aI H2 s2.heap.objs.size (.lst [])) {s2 with heap:=s2.heap.push {cls:= .type "list",data:= .seq ([]:List Value).toArray},toks:=s2.toks}:=I2.lnew .nil (yx _)
 generalize hs3:({s2 with heap:=s2.heap.push {cls:= .type "list",data:= .seq ([]:List Value).toArray},toks:=s2.toks}:Shared)=s3 at I3
 generalize hH3:aI H2 s2.heap.objs.size (.lst [])=H3 at I3 w0
 have es3:s3.heap=s2.heap.push {cls:= .type "list",data:= .seq ([]:List Value).toArray}:=by rw[<- hs3]
 have hC:(s2.heap.push {cls:= .type "list",data:= .seq ([]:List Value).toArray}).objs.size=s3.heap.objs.size:=by rw[es3]
 have f3:∀b∈fp,jy X pins H3 b:=fun b hb=>⟨by rw[<- hH3,ay (x5 (by obtain⟨o,e,_⟩:=T.obj _ _ st2 b hb;exact Heap.lt_size e))];exact(f2 b hb).1,(f2 b hb).2⟩
 have fl3:∀b∈fp,b<s3.heap.objs.size:=fun b hb=>by
  obtain⟨o,e,_⟩:=T.obj _ _ st2 b hb
  rw[es3,Heap.size_push]
  exact yJ (Heap.lt_size e)
 have ok:=ua (N:=N) (sc:=sc) (fp:=fp) I3 hk hcell' hcl f3 fl3
 have k23:∀b u,s2.heap.get? b=some u->s3.heap.get? b=some u:=fun b u e=>by rw[es3];exact Heap.get?_push_of_some _ e
 have k34:∀b u,s3.heap.get? b=some u->h₁.get? b=some u:=fun b u e=>by
  rw[hC]at hsb
  refine(hsb.2 b (x5 (Heap.lt_size e))).trans (Heap.get?_push_of_some _ ?_)
  rw[<- es3];exact e
 have I4:=rH (s4:={s2 with heap:=h₁,toks:=s2.toks+([]:List (Str×Value)).length}) (js:=js) I3 ok hfree' hN (by rw[<- hs3]) (by rw[<- hs3]) (by rw[<- hC];exact hns) k34
 have st4:tn 0 h₁:=T.keep _ _ _ st2 fun b _ o e=>k34 b o (k23 b o e)
 generalize hs4:({s2 with heap:=h₁,toks:=s2.toks+([]:List (Str×Value)).length}:Shared)=s4 at I4
 have eh4:s4.heap=h₁:=by rw[<- hs4]
 rw[hC]
 generalize hB:(⟨bp X.env [] sc.names,s3.heap.objs.size,s3,H3,fp⟩:BA)=B at ok I4
 have eC:B.C=s3.heap.objs.size:=by rw[<- hB]
 have stat:∀{H':Hp},(∀b∈fp,H' b=none)->∀b∈fp,jy (iF X sc N B) [] H' b:=fun hn b hb=>by
  refine⟨hn b hb,?_,fun z=>?_,.inl (by rw[<- hB];exact hb),fun x c e=>(ok.exf b (by rw[<- hB];exact hb)).2 x c e,fun p hp=>by cases hp⟩
  ·exact(ok.exf b (by rw[<- hB];exact hb)).1
  ·exact ok.exfs b (by rw[<- hB];exact hb) z
 have fin:∀{s':Shared} {H':Hp} {σ':St},Inv (iF X sc N B) [] σ' H' s'->Q (.ref s2.heap.objs.size) H'->
   compPost (model X.prog X.w) X.A X.xe use R (.ref s2.heap.objs.size) s3.heap.objs.size (.ok .next) s':=fun {s' H' σ'} I' q'=>by
  obtain⟨m,hm,_⟩:=id I'.loc
  have hm':s'.heap.Ns s3.heap.objs.size m:=by rw[<- eC];exact hm
  have u1:Un (fh X.stack) fp H2 H3 s2.heap s3.heap:=by rw[<- hH3];exact Un.laid k23 (xQ _) I2.fresh
  have u2:Un (fh X.stack) fp H3 H' s3.heap s'.heap:=by
   have z:=I'.base
   rw[<- hB]at z
   exact z
  have fr':H' s3.heap.objs.size=none:=by rw[<- eC];exact I'.free
  have os':s'.os=s2.os:=by
   have z:=I'.os
   rw[<- hB]at z
   rw[z,<- hs3]
  have Io:Inv X pins σ H' s':=I2.call' (s':=s') (ch:=fp) os' (u1.trans u2) I'.hok I'.bare fun b hb=>⟨(f2 b hb).2.2.2.1,(f2 b hb).2.1,(f2 b hb).2.2.2.2.1,(f2 b hb).2.2.2.2.2⟩
  have ltC:s2.heap.objs.size<s3.heap.objs.size:=by rw[es3,Heap.size_push];exact yT _
  have cC:∀x c,X.env.cells.lookup x=some c->c≠s3.heap.objs.size:=fun x c e z=>by
   obtain⟨v,q⟩:=I2.cell x c e
   exact absurd q.lt (by rw[z];exact zK.mpr (yB ltC))
  exact fin0 _ _ s' H' m Io hm' fr' (x5 (Nat.lt_trans I2.lt ltC)) (yd I2.sz (yB ltC)) cC (fun p hp z=>absurd (Heap.lt_size (I2.pin p hp).1) (by rw[z];exact zK.mpr (yB ltC))) q'
 have loop:codeAny (model X.prog X.w) X.A (.compLoop (.ListComp elt [⟨tg,iter,ifs,0⟩] sc pos) 0 (.ref it) (.ref s2.heap.objs.size) (iF X sc N B).env)
   (compPost (model X.prog X.w) X.A X.xe use R (.ref s2.heap.objs.size) s3.heap.objs.size) s4:=by
  refine lN (fun n s'=>∃i ys σ' H',Inv (iF X sc N B) [] σ' H' s'/\rG (bV σ js) σ'/\tn i s'.heap/\(∀b∈fp,H' b=none)/\W i n ys H') ?_ m0
   ⟨0,[],bV σ js,H3,I4,⟨rfl,fun _ _ z=>z⟩,by rw[eh4];exact st4,fun b hb=>(f3 b hb).1,w0⟩
  rintro n s5 ⟨i,ys,σ5,H5,I5',kp5,st5,fr5,w5⟩
  have I5:Inv (iF X sc N B) [] (bV σ js) H5 s5:=I5'.weak kp5.1.symm kp5.2
  rcases step i n ys H5 w5 with⟨stop,qn⟩ | ⟨go,N',hN',turn⟩
  ·refine bB (T.done (iF X sc N B) rfl rfl rfl hcalm i [] s5 _ H5 sR I5 (stat fr5) st5 stop) fun r s6 ⟨hr,I6⟩=> .inl ⟨hr,fin I6 qn⟩
  ·refine bB (T.item (iF X sc N B) rfl rfl rfl hcalm i [] s5 _ H5 sR I5 (stat fr5) st5 go) fun r s6 ⟨u,hr,h6⟩=> .inr ⟨u,hr,?_⟩
   refine bB h6 fun _ s7 hq__=>?_
   obtain⟨x,H7,I7,r7,y7,st7,fr7⟩:=hq__
   have I7':=I7.pinned (stat fr7) (T.obj _ _ st7)
   have back:∀{σ8:St} {H8:Hp} {s8:Shared},Inv (iF X sc N B) ([]++gS fp s7.heap) σ8 H8 s8->tn (i+1) s8.heap/\∀b∈fp,H8 b=none:=fun {σ8 H8 s8} I8=>by
    refine⟨T.keep _ _ _ st7 fun b hb o e=>(I8.pin (b,o) (yk _ (yk _ (cV hb e)))).1,fun b hb=>?_⟩
    obtain⟨o,e,d⟩:=T.obj _ _ st7 b hb
    exact(I8.pin (b,o) (yk _ (yk _ (cV hb e)))).2.1
   refine bB (hg B _ s7 _ H7 x u _ I7' r7 (turn x H7 y7)) fun _ s8 hq__=>?_
   obtain⟨σ8,H8,I8,kp8,q8⟩:=hq__
   refine bB (hc B _ s8 σ8 H8 _ I8 q8) fun ok s9 ⟨H9,I9,q9⟩=>⟨fun e=>?_,fun e=>?_⟩
   ·refine bB (he B _ s9 σ8 H9 _ I9 (q9.1 e)) fun yv s10 hq__=>?_
    obtain⟨y,H10,I10,r10,q10⟩:=hq__
    obtain⟨e10,l10,n10⟩:=q10
    refine bB (dW _ s10 σ8 H10 (.ref s2.heap.objs.size) [y] _ _ (fun _ H'=>N' (ys++[y]) H') I10 rfl (.cons r10 .nil) ⟨_,ys,y,rfl,rfl,e10,l10,n10⟩) fun _ s11 hq__=>?_
    obtain⟨_,H11,I11,_,q11⟩:=hq__
    obtain⟨m',hm,w11⟩:=hN' _ _ q11
    obtain⟨st11,fr11⟩:=back I11
    exact⟨m',hm,i+1,ys++[y],σ8,H11,I11.unpinned,kp8,st11,fr11,w11⟩
   ·obtain⟨m',hm,w11⟩:=hN' _ _ (q9.2 e)
    obtain⟨st11,fr11⟩:=back I9
    exact⟨m',hm,i+1,ys,σ8,H9,I9.unpinned,kp8,st11,fr11,w11⟩
 have env_eq:(iF X sc N B).env=compEnvC sc (bp X.env [] sc.names) s3.heap.objs.size X.env:=by rw[<- hB]
 rw[env_eq]at loop
 have st4':tn 0 s4.heap:=by rw[eh4];exact st4
 exact codeAny_compStart_list loop (T.self X.A 0 _ _ _ st4' loop)
theorem bb {X:Cx} {elt iter tg:Expr} {ifs:List Expr} {sc:Scope} {pos:Pos} {wi:TI} {g:TG} {tc:TT} {te:TE} (N:List Str) (js:List (Option Nat))
  (hcalm:X.calm=true) (hi:PI X tg iter wi) (hg:∀b,PG (iF X sc N b) tg g) (hc:∀b,uQ (iF X sc N b) ifs tc) (he:∀b,PE (iF X sc N b) elt te)
  (hN:Paired (fun(j:Option Nat) n=>∀i,j=some i->X.N[i]?=some n/\sc.names.lookup n=some .free) js N)
  (hk:sc.kind= .function:=by rfl)
  (hcell:(sc.names.all fun y=>y.2 != .cell)=true:=by rfl)
  (hfree:(sc.names.all fun y=>y.2 != .free||(X.env.scope.names.lookup y.1==some .cell||X.env.scope.names.lookup y.1==some .free))=true:=by rfl)
  (hnames:(sc.names.all fun y=>y.2 != .local||sc.names.lookup y.1==some .local)=true:=by rfl)
  (hs:∀x,foldedSetIterable iter X.env x=pure x:=by intro _;rfl):PE X (.ListComp elt [⟨tg,iter,ifs,0⟩] sc pos) (pI wi js g tc te):=by
 intro pins s σ H Q I h
 rw[eval_ListComp]
 exact hZ (use:=none) N js hcalm hi hg hc he hN hk hcell hfree hnames hs I h fun l C s' H' m Io hm fr lC sz cC pC q'=>⟨m,hm,fun h' sb'=>⟨.ref l,H',Io.turned (t':=s'.toks) (it:=C) (fun b o hb e=>(sb'.2 b hb).trans e) fr lC.symm (.inr sz) cC pC,rfl,q'⟩⟩
theorem fz {X:Cx} {i₀:Nat} {y₀:Str} {py spos:Pos} {elt iter tg:Expr} {ifs:List Expr} {sc:Scope} {pos:Pos} {wi:TI} {g:TG} {tc:TT} {te:TE} (hN₀:X.N.Nodup) (hi₀:X.N[i₀]?=some y₀) (hx₀:uW X.env.scope y₀) (N:List Str) (js:List (Option Nat))
  (hcalm:X.calm=true) (hi:PI X tg iter wi) (hg:∀b,PG (iF X sc N b) tg g) (hc:∀b,uQ (iF X sc N b) ifs tc) (he:∀b,PE (iF X sc N b) elt te)
  (hN:Paired (fun(j:Option Nat) n=>∀i,j=some i->X.N[i]?=some n/\sc.names.lookup n=some .free) js N)
  (hk:sc.kind= .function:=by rfl)
  (hcell:(sc.names.all fun y=>y.2 != .cell)=true:=by rfl)
  (hfree:(sc.names.all fun y=>y.2 != .free||(X.env.scope.names.lookup y.1==some .cell||X.env.scope.names.lookup y.1==some .free))=true:=by rfl)
  (hnames:(sc.names.all fun y=>y.2 != .local||sc.names.lookup y.1==some .local)=true:=by rfl)
  (hs:∀x,foldedSetIterable iter X.env x=pure x:=by intro _;rfl) (hsw:swapsWith (.ListComp elt [⟨tg,iter,ifs,0⟩] sc pos) (some (.Name y₀ py)) spos.line X.env=pure true:=by rfl)
  (hf₀:X.fn y₀=true\/X.env.scope.names.lookup y₀=some .local:=by first | exact .inl rfl | exact .inr rfl | assumption):PS X (.Assign [.Name y₀ py] (.ListComp elt [⟨tg,iter,ifs,0⟩] sc pos) spos) (nD (pI wi js g tc te) (bC i₀)):=by
 intro pins s σ H D I h
 rw[exec_Assign_Name_used _ _ _ _ hsw]
 refine wpAny_bind (wpAny_standAt (wpAny_bind ?_))
 show wpAny _ X.A (do let _ <- comprehension (.ListComp elt [⟨tg,iter,ifs,0⟩] sc pos) sc X.env _ (newList []) false (eval iter X.env) (some (assign (.Name y₀ py) X.env))) _ _ s
 refine wpAny_bind (wpAny_mono (hZ (use:=some (assign (.Name y₀ py) X.env)) (R:=fun _ s'=>SP X pins D .next s') (Q:=fun x H1=>D.nx (σ.set i₀ (some x)) H1) N js hcalm hi hg hc he hN hk hcell hfree hnames hs I h fun l C s' H' m Io hm fr lC sz cC pC q'=>?_) (fun _ s' hq=>wpAny_pure (wpAny_pure hq)) fun _ _ e=>e)
 show wpAny (model X.prog X.w) X.A (assign (.Name y₀ py) X.env (.ref l)) _ X.xe s'
 refine wpAny_assign_Name (iV Io hN₀ hi₀ hx₀ (v:= .ref l) rfl (fun s'' I'' ⟨a,sb,ha⟩=>?_) hf₀)
 have haC:C≠a:=by
  rcases ha with z | z
  ·rw [z];exact lC.symm
  ·exact(cC _ _ z).symm
 exact⟨m,hm.sameBut sb haC,fun h' sb'=>⟨_,H',I''.turned (t':=s''.toks) (it:=C) (fun b o hb e=>(sb'.2 b hb).trans e) fr lC.symm (.inr sz) cC pC,q'⟩⟩
section
variable {X:Cx} {p:Pos}
theorem pJ (h:X.mg "int"=none) (hg:Gl X "int":=by rfl):PE X (.Name "int" p) (tC (.ty "int")):=gE hg h PyProof.Rows.boot_int rfl
theorem jE (h:X.mg "bool"=none) (hg:Gl X "bool":=by rfl):PE X (.Name "bool" p) (tC (.ty "bool")):=gE hg h PyProof.Rows.boot_bool rfl
theorem cY (h:X.mg "list"=none) (hg:Gl X "list":=by rfl):PE X (.Name "list" p) (tC (.ty "list")):=gE hg h PyProof.Rows.boot_list rfl
theorem kD (h:X.mg "tuple"=none) (hg:Gl X "tuple":=by rfl):PE X (.Name "tuple" p) (tC (.ty "tuple")):=gE hg h PyProof.Rows.boot_tuple rfl
theorem pK:bL X (.builtin "isinstance") (fun xs H Q=>∃x Y t b,xs=[x,.ty Y]/\TyOf X.K H x t/\PySem.W.kitOne X.K t (.type Y)=some b/\Q (.bl b) H):=by
 intro pins s σ H xs us Q I r h
 obtain⟨x,Y,t,b,e,ty,ko,q⟩:=h
 subst e
 obtain⟨u,w',e,rx,ry⟩:=o6 r
 subst e
 cases ry
 exact nJ I rx ty ko fun tk=>⟨.bl b,H,I.tok _,rfl,q⟩
end
structure Def (K:PySem.W.Frag) (mg:Str->Option Value) (x:Str) (st:Stmt) (ps:List Str) (f:Addr) (fd:FuncData):Prop where
 fn:Fun K x x st f fd
 bd:Binds K fd ps []
 at':mg x=some (.ref f)
section
variable {X:Cx} {k:Nat} {x:Str} {st:Stmt} {ps:List Str} {f:Addr} {fd:FuncData} {sp:Sp} {e:Expr} {es:List Expr} {t:TA} {p pos:Pos}
theorem pc (D:Def X.K X.mg x st ps f fd) (F:FnOk X.prog X.w X.K X.mg X.base aY k f fd ps sp) (hr:Room k X.A) (ha:PA X (e :: es) t) (hg:Gl X x:=by rfl) (hdb:(x==("__debug__":Str))=false:=by decide)
  (he:starEach (e :: es) X.env=(false,eval e X.env) :: starEach es X.env:=by rfl) (hpl:(backTo pos (starEach es X.env)).any (·.1)=false:=by rfl):PE X (.Call (.Name x p) (e :: es) [] pos) (sM sp [] E0 t):=
 rp F hr hg D.at' D.fn.kp D.bd .nil vn ha hdb he hpl
end
theorem Same.new {H:Hp} {a:Addr} {o:HO} (h:H a=none):Same H (aI H a o):=fun b u e=>by rw[ay (aD e h)];exact e
theorem Same.put {H H':Hp} {a:Addr} {o:HO} (s:Same H H') (h:H a=none):Same H (aI H' a o):=fun b u e=>by rw[ay (aD e h)];exact s b u e
theorem Same.to {H H':Hp} {a:Addr} {o:HO} (s:Same H H') (h:H' a=none):Same H (aI H' a o):=s.trans (Same.new h)
inductive DEq (K:PySem.W.Frag) (H:Hp):Nat->V->V->Bool->Prop
 | flat {d:Nat} {x y:V} (fx:b8 x=true) (fy:b8 y=true):DEq K H d x y (mO x y)
 | lst {d:Nat} {a b:Addr} {xs ys:List V} {e:Nat->Bool} (h1:SqL K H a xs) (h2:SqL K H b ys) (hl:xs.length=ys.length)
  (he:∀(j:Nat) x y,xs[j]?=some x->ys[j]?=some y->DEq K H d x y (e j)):DEq K H (d+1) (.ref a) (.ref b) ((xO xs.length).all e)
 | len {d:Nat} {a b:Addr} {xs ys:List V} (h1:SqL K H a xs) (h2:SqL K H b ys) (hl:xs.length≠ys.length):DEq K H (d+1) (.ref a) (.ref b) false
 | tup {d:Nat} {a b:Addr} {xs ys:List V} {e:Nat->Bool} (h1:SqT K H a xs) (h2:SqT K H b ys)
  (he:∀(j:Nat) x y,xs[j]?=some x->ys[j]?=some y->DEq K H d x y (e j)):DEq K H (d+1) (.ref a) (.ref b) ((xO (min xs.length ys.length)).all e&&xs.length==ys.length)
theorem h9:∀{x:V},b8 x=true->mO x x=true
 | .non,_=>rfl
 | .bl b,_=>by cases b<;>rfl
 | .int i,_=>by simp[mO]
 | .str y,_=>by simp[mO]
theorem DEq.self {X:Cx} {pins:List (Addr×Obj)} {σ:St} {H:Hp} {s:Shared} (I:Inv X pins σ H s) {d:Nat} {x y:V} {b:Bool} (h:DEq X.K H d x y b):x=y->b=true:=by
 induction h with
 | flat fx fy=>intro e;subst e;exact h9 fx
 | @lst d a b xs ys e h1 h2 hl he ih=>
  intro z
  cases z
  have q:=I.list_inj h1 h2
  subst q
  rw[x6]
  intro j hj
  have hj':j<xs.length:=yf.mp hj
  exact ih j _ _ (xK hj') (xK hj') rfl
 | len h1 h2 hl=>
  intro z
  cases z
  have q:=I.list_inj h1 h2
  exact absurd (congrArg List.length q) hl
 | @tup d a b xs ys e h1 h2 he ih=>
  intro z
  cases z
  have q:=I.tuple_inj h1 h2
  subst q
  rw[yw,x6]
  refine⟨fun j hj=>?_,by simp⟩
  have hj':j<xs.length:=by have:=yf.mp hj;omega
  exact ih j _ _ (xK hj') (xK hj') rfl
theorem Vals.at {xs:List V} {us:List Value} (r:Vals xs us) {j:Nat} (h:j<us.toArray.size):∃x,xs[j]?=some x/\RelV x us.toArray[j]:=by
 have hl:=r.length
 have h':j<xs.length:=by simpa [hl]using h
 obtain⟨u,e,ru⟩:=r.get (xK h')
 refine⟨_,xK h',?_⟩
 have h2:j<us.length:=by simpa using h
 rw[xK h2]at e
 have e2:us[j]=u:=Option.some.inj e
 simpa [e2]using ru
theorem DEq.at {X:Cx} {pins:List (Addr×Obj)} {σ:St} {H:Hp} {s:Shared} (I:Inv X pins σ H s) {d:Nat} {x y:V} {b:Bool} (h:DEq X.K H d x y b):
  ∀{A:Around} {u v:Value},A.units+d<cLine->RelV x u->RelV y v->SeqAt.EqAt A s u v b:=by
 induction h with
 | flat fx fy=>intro A u v hu rx ry;exact ph rx ry fx fy
 | @lst d a b xs ys e h1 h2 hl he ih=>
  intro A u v hu rx ry
  cases rx;cases ry
  by_cases hab:a=b
  ·have z:(xO xs.length).all e=true:=(DEq.lst h1 h2 hl he).self I (by rw[hab])
   rw[z,hab]
   exact SeqAt.EqAt.same _
  ·obtain⟨its,r,pl,_⟩:=I.list h1
   obtain⟨its2,r2,pl2,_⟩:=I.list h2
   have l1:=r.length
   have l2:=r2.length
   have q:=SeqAt.RcAt.lists (A:=A) (e:=e) pl.isList pl2.isList (by simp;omega) (by omega) fun j j1 j2=>by
    obtain⟨x,ex,rx⟩:=r.at j1
    obtain⟨y,ey,ry⟩:=r2.at j2
    exact ih j x y ex ey (by show A.units+1+d<cLine;omega) rx ry
   refine SeqAt.EqAt.of_refs hab ?_
   simpa [l1]using q
 | @len d a b xs ys h1 h2 hl=>
  intro A u v hu rx ry
  cases rx;cases ry
  have hab:a≠b:=by
   rintro rfl
   exact hl (congrArg List.length (I.list_inj h1 h2))
  obtain⟨its,r,pl,_⟩:=I.list h1
  obtain⟨its2,r2,pl2,_⟩:=I.list h2
  have l1:=r.length
  have l2:=r2.length
  exact SeqAt.EqAt.of_refs hab (SeqAt.RcAt.lists_lengths pl.isList pl2.isList (by simp;omega) (by omega))
 | @tup d a b xs ys e h1 h2 he ih=>
  intro A u v hu rx ry
  cases rx;cases ry
  by_cases hab:a=b
  ·have z:=(DEq.tup h1 h2 he).self I (by rw[hab])
   rw[z,hab]
   exact SeqAt.EqAt.same _
  ·obtain⟨its,r,pl,_⟩:=I.tuple h1
   obtain⟨its2,r2,pl2,_⟩:=I.tuple h2
   have l1:=r.length
   have l2:=r2.length
   have q:=SeqAt.RcAt.tuples (A:=A) (e:=e) (show s.heap.IsTuple a its.toArray from pl) (show s.heap.IsTuple b its2.toArray from pl2) (by omega) fun j j1 j2=>by
    obtain⟨x,ex,rx⟩:=r.at j1
    obtain⟨y,ey,ry⟩:=r2.at j2
    exact ih j x y ex ey (by show A.units+1+d<cLine;omega) rx ry
   refine SeqAt.EqAt.of_refs hab ?_
   simpa [l1,l2]using q
section
variable {X:Cx}
def vo (K:PySem.W.Frag):R2:=fun x y H Q=>∃d b,DEq K H d x y b/\d<64/\b8 x=false/\Q (.bl b) H
def vp (K:PySem.W.Frag):R2:=fun x y H Q=>∃d b,DEq K H d x y b/\d<64/\b8 x=false/\Q (.bl (!b)) H
theorem ub (hu:X.A.units+64<cLine):dw X (compareOp .Eq) (vo X.K):=by
 intro pins s σ H x y v u Q I rx ry h
 obtain⟨d,b,dq,hd,fl,q⟩:=h
 cases dq with
 | flat fx fy=>rw[fx]at fl;cases fl
 | @lst d a b xs ys e h1 h2 hl he=>
  cases rx;cases ry
  obtain⟨its,r,pl,_⟩:=I.list h1
  obtain⟨its2,r2,pl2,_⟩:=I.list h2
  have l1:=r.length
  have l2:=r2.length
  refine SeqAt.eq_listAt (e:=e) pl.isList pl2.isList (by simp;omega) (by omega) (fun j j1 j2=>?_) ?_
  ·obtain⟨x,ex,rx⟩:=r.at j1
   obtain⟨y,ey,ry⟩:=r2.at j2
   exact(he j x y ex ey).at I (by show X.A.units+1+d<cLine;omega) rx ry
  ·refine⟨.bl _,H,I,rfl,?_⟩
   simpa [<- l1]using q
 | @len d a b xs ys h1 h2 hl=>
  cases rx;cases ry
  obtain⟨its,r,pl,_⟩:=I.list h1
  obtain⟨its2,r2,pl2,_⟩:=I.list h2
  have l1:=r.length
  have l2:=r2.length
  exact SeqAt.eq_list_lengthsAt pl.isList pl2.isList (by simp;omega) (by omega) ⟨.bl _,H,I,rfl,q⟩
 | @tup d a b xs ys e h1 h2 he=>
  cases rx;cases ry
  obtain⟨its,r,pl,_⟩:=I.tuple h1
  obtain⟨its2,r2,pl2,_⟩:=I.tuple h2
  have l1:=r.length
  have l2:=r2.length
  refine SeqAt.eq_tupleAt (e:=e) (show s.heap.IsTuple a its.toArray from pl) (show s.heap.IsTuple b its2.toArray from pl2) (by omega) (fun j j1 j2=>?_) ?_
  ·obtain⟨x,ex,rx⟩:=r.at j1
   obtain⟨y,ey,ry⟩:=r2.at j2
   exact(he j x y ex ey).at I (by show X.A.units+1+d<cLine;omega) rx ry
  ·refine⟨.bl _,H,I,rfl,?_⟩
   simpa [<- l1,<- l2]using q
theorem uc (hu:X.A.units+64<cLine):dw X (compareOp .NotEq) (vp X.K):=by
 intro pins s σ H x y v u Q I rx ry h
 obtain⟨d,b,dq,hd,fl,q⟩:=h
 cases dq with
 | flat fx fy=>rw[fx]at fl;cases fl
 | @lst d a b xs ys e h1 h2 hl he=>
  cases rx;cases ry
  obtain⟨its,r,pl,_⟩:=I.list h1
  obtain⟨its2,r2,pl2,_⟩:=I.list h2
  have l1:=r.length
  have l2:=r2.length
  refine SeqAt.RcNeAt.lists (e:=e) pl.isList pl2.isList (by simp;omega) (by omega) (fun j j1 j2=>?_) _ _ _ _ ?_
  ·obtain⟨x,ex,rx⟩:=r.at j1
   obtain⟨y,ey,ry⟩:=r2.at j2
   exact(he j x y ex ey).at I (by show X.A.units+1+d<cLine;omega) rx ry
  ·refine⟨.bl _,H,I,rfl,?_⟩
   simpa [<- l1]using q
 | @len d a b xs ys h1 h2 hl=>
  cases rx;cases ry
  obtain⟨its,r,pl,_⟩:=I.list h1
  obtain⟨its2,r2,pl2,_⟩:=I.list h2
  have l1:=r.length
  have l2:=r2.length
  exact SeqAt.RcNeAt.lists_lengths pl.isList pl2.isList (by simp;omega) (by omega) _ _ _ _ ⟨.bl _,H,I,rfl,q⟩
 | @tup d a b xs ys e h1 h2 he=>
  cases rx;cases ry
  obtain⟨its,r,pl,_⟩:=I.tuple h1
  obtain⟨its2,r2,pl2,_⟩:=I.tuple h2
  have l1:=r.length
  have l2:=r2.length
  refine SeqAt.RcNeAt.tuples (e:=e) (show s.heap.IsTuple a its.toArray from pl) (show s.heap.IsTuple b its2.toArray from pl2) (by omega) (fun j j1 j2=>?_) _ _ _ _ ?_
  ·obtain⟨x,ex,rx⟩:=r.at j1
   obtain⟨y,ey,ry⟩:=r2.at j2
   exact(he j x y ex ey).at I (by show X.A.units+1+d<cLine;omega) rx ry
  ·refine⟨.bl _,H,I,rfl,?_⟩
   simpa [<- l1,<- l2]using q
theorem pL:bL X (.builtin "all") (fun xs H Q=>∃(hc:X.calm=true) (p:Addr) (bs:List Bool),xs=[.ref p]/\SqL X.K H p (bs.map V.bl)/\Q (.bl (bs.all id)) H):=by
 intro pins s σ H xs us Q I r h
 obtain⟨hc,p,bs,e,hq,q⟩:=h
 subst e
 obtain⟨u,e,rx⟩:=cR r
 subst e
 cases rx
 obtain⟨its,rv,pl,hz⟩:=I.list hq
 have hl:=rv.length
 rw[xM]at hl
 refine call_all_walk (wpAny_pyIter_list pl.isList ?_)
 have hne:p≠s.heap.objs.size:=by
  obtain⟨o,ho,_⟩:=pl.isList
  exact x5 (Heap.lt_size ho)
 refine⟨s.heap.objs.size,_,_,_,_,_,fun i=>bs.getD i true,rfl,Walks.list (A:=X.A.in1) (show X.A.in1.handled=none from I.ok.hd hc) _ p hne its.toArray,?_,?_,?_⟩
 ·refine⟨⟨_,Heap.get?_push_size _ rfl,rfl,rfl⟩,?_⟩
  obtain⟨o,ho,z⟩:=pl.isList
  exact⟨o,Heap.get?_push_of_some _ ho,z⟩
 ·intro i v s' Q' E' hi hq'
  have hi':its[i]?=some v:=by simpa using hi
  have h2:i<bs.length:=by rw[hl];exact(xP.mp hi').1
  obtain⟨u,eu,ru⟩:=rv.get (i:=i) (x:= .bl bs[i]) (by simp[h2])
  rw[hi']at eu
  cases eu
  cases ru
  refine wpAny_truthy_bool ?_
  have:bs.getD i true=bs[i]:=by simp[h2]
  rw[<- this];exact hq'
 ·intro h' tk kp
  refine⟨.bl (bs.all id),H,I.kept (fun b o e=>kp b o ?_ (Heap.get?_push_of_some _ e)),?_,q⟩
  ·have:=Heap.lt_size e
   intro z
   rw[xX]at z
   exact absurd this (by rw[z];exact y2 _)
  ·show Value.bool _=Value.bool _
   congr 1
   have e2:its.toArray.size=bs.length:=by simp[hl]
   rw[e2,zf,x6,x6]
   constructor
   ·intro h x hx
    obtain⟨j,hj,ej⟩:=xZ.mp hx
    have:=h j (yf.mpr hj)
    simpa [hj,ej]using this
   ·intro h j hj
    have hj':=yf.mp hj
    have:=h bs[j] (yh hj')
    simpa [hj']using this
theorem kE:bL X (.builtin "sorted") (fun xs H Q=>∃(p:Addr) (ns:List Int),xs=[.ref p]/\SqL X.K H p (ns.map V.int)/\ns.length<64/\
  ∀l (ms:List Int),H l=none->ms.Perm ns->ms.Pairwise (· <= ·)->Q (.ref l) (aI H l (.lst (ms.map V.int)))):=by
 intro pins s σ H xs us Q I r h
 obtain⟨p,ns,e,hq,h64,q⟩:=h
 subst e
 obtain⟨u,e,rx⟩:=cR r
 subst e
 cases rx
 obtain⟨its,rv,pl,hz⟩:=I.list hq
 have hl:=rv.length
 rw[xM]at hl
 refine sorted_ints (vs:=its) (ns:=ns) pl.isList (gZ rv) (by omega) fun out ns' a1 a2 a3=>?_
 obtain⟨ep,e⟩:=sortedAll_at s.heap its out
 have hn:s.heap.objs.size<=s.heap.objs.size+1:=Nat.le_succ _
 refine⟨.ref (s.heap.objs.size+1),_,I.laid (t':=s.toks) (fun b o eb=>sortedAll_old eb) hn (show ObjOk X.prog X.w _ _ _ (.lst (ns'.map V.int))from⟨?_,out.toList,ep,fV a1,?_⟩),rfl,q _ ns' (I.hok.fresh hn) a2 a3⟩
 ·rw [xM,a2.length_eq];exact yB (i3 (by omega))
 ·simpa [seqObj]using e
end
def SameBut (acc:Addr) (H H':Hp):Prop:=∀b o,b≠acc->H b=some o->H' b=some o
theorem Same.but {acc:Addr} {H H':Hp} (s:Same H H'):SameBut acc H H':=fun b o _ e=>s b o e
theorem SameBut.upd {acc:Addr} {H:Hp} {o:HO}:SameBut acc H (aI H acc o):=fun b u n e=>by rw[ay n];exact e
theorem oR {n:Nat} (h:n<=1000):n<=sizeLine:=yB (i3 h)
theorem cb {n:Nat} (h:Nat.ble n 1000=true:=by rfl):n<=sizeLine:=oR (Nat.le_of_ble_eq_true h)
theorem oS {n:Nat} (h:n<100000):n<sizeLine:=by rw[sizeLine_eq];omega
theorem mR {x:Option V} {σ:St}:rG (none :: σ) (x :: σ):=⟨rfl,fun i v e=>by
 cases i with
 | zero=>cases e
 | succ i=>exact e⟩
theorem i6 {J:It} {H1:Hp} {js:List (Option Nat)} {σ:St} {tc:TT} {te:TE} {Q:VK} (n:Nat) (item:Nat->V) (p:Nat->Bool) (P:Addr->Nat->V->Hp->Prop) (hn:n<100000)
  (mono:∀acc i v H H',P acc i v H->SameBut acc H H'->P acc i v H')
  (hgo:∀i H,i<n->Same H1 H->J.go i H) (hst:∀H,Same H1 H->J.stop n H) (hy:∀i H x H',i<n->Same H1 H->J.yld i H x H'->H'=H/\x=item i)
  (hc:∀i,i<n->∀H2 R,Same H1 H2->R (p i) H2->tc (some (item i) :: bV σ js) H2 R)
  (he:∀acc i,i<n->p i=true->∀H2 R,Same H1 H2->H1 acc=none->H2 acc≠none->(∀v H3,Same H2 H3->P acc i v H3->R v H3)->te (some (item i) :: bV σ js) H2 R)
  (hQ:∀acc vs H',Same H1 H'->H1 acc=none->H' acc=some (.lst vs)->Paired (fun i v=>P acc i v H') ((xO n).filter p) vs->Q (.ref acc) H'):
  b9 J H1 (none :: js) (bC 0) tc te σ Q:=by
 intro acc hacc
 refine⟨fun i m ys H=>m=n-i/\i<=n/\Same H1 H/\H acc=some (.lst ys)/\Paired (fun k v=>P acc k v H) ((xO i).filter p) ys,⟨n,by simp,yx _,Same.new hacc,ae,.nil⟩,?_⟩
 rintro i m ys H ⟨rfl,hi,s1,ha,hp⟩
 by_cases hlt:i<n
 ·refine .inr ⟨hgo i H hlt s1,fun ys' H'=>i<n/\Same H1 H'/\H' acc=some (.lst ys')/\Paired (fun k v=>P acc k v H') ((xO (i+1)).filter p) ys',fun ys' H' ⟨z,a,b,c⟩=>⟨n-(i+1),yI _ _ hlt,rfl,hlt,a,b,c⟩,fun x H' y=>?_⟩
  obtain⟨rfl,rfl⟩:=hy i H x H' hlt s1 y
  refine⟨mR,hc i hlt _ _ s1 ⟨fun hb=>?_,fun hb=>?_⟩⟩
  ·refine he acc i hlt hb _ _ s1 hacc (by rw[ha];simp) fun v H3 s3 pv=>?_
   have hlen:ys.length<=i:=by
    rw[<- Paired.length hp]
    exact yd (yy _ _) (by simp)
   refine⟨s3 _ _ ha,oS (by omega),hlt,(s1.trans s3).put hacc,ae,?_⟩
   rw[y9,yP]
   have e:zJ p [i]=[i]:=by simp[hb]
   rw[e]
   refine Paired.snoc (Paired.mapP hp fun k v q=>?_) ?_
   ·exact mono acc k v _ _ (mono acc k v _ _ q s3.but) SameBut.upd
   ·exact mono acc i v _ _ pv SameBut.upd
  ·refine⟨hlt,s1,ha,?_⟩
   rw[y9,yP]
   have e:zJ p [i]=[]:=by simp[hb]
   rw[e,zu]
   exact hp
 ·have e:i=n:=yW hi (yH hlt)
  subst e
  exact .inl ⟨hst H s1,hQ acc ys H s1 hacc ha hp⟩
theorem cZ {α β:Type} {f:α->β}:∀{l:List α} {r:List β},Paired (fun a b=>b=f a) l r->r=l.map f:=by
 intro l r h
 induction h with
 | nil=>rfl
 | cons h t ih=>rw[h,ih];rfl
section
variable {K:PySem.W.Frag} {H1:Hp} {js:List (Option Nat)} {σ:St} {tc:TT} {te:TE} {Q:VK}
theorem lO {lo:Int} {n:Nat} (f:Nat->V) (hn:n<100000)
  (he:∀i:Nat,i<n->∀H2 R,Same H1 H2->(∀H3,Same H2 H3->R (f i) H3)->te (some (.int (lo+i)) :: bV σ js) H2 R)
  (hQ:∀acc H',Same H1 H'->H1 acc=none->H' acc=some (.lst ((xO n).map f))->Q (.ref acc) H'):b9 (lA lo n) H1 (none :: js) (bC 0) fv te σ Q:=
 i6 (J:=lA lo n) (H1:=H1) (js:=js) (σ:=σ) (tc:=fv) (te:=te) (Q:=Q) n (fun i=> .int (lo+i)) (fun _=>true) (fun _ i v _=>v=f i) hn (fun _ _ _ _ _ h _=>h)
  (fun _ _ h _=>h) (fun _ _=>xQ _) (fun _ _ _ _ _ _ y=>y) (fun _ _ _ _ _ h=>h) (fun _ i hi _ H2 R s _ _ k=>he i hi H2 R s fun H3 s3=>k _ H3 s3 rfl)
  fun acc vs H' s n' e p=>hQ acc H' s n' (by rw[e,cZ p,yE.mpr (fun _ _=>rfl)])
theorem nW {a:Addr} {xs:List V} (p:Nat->Bool) (P:Addr->Nat->V->Hp->Prop) (hl:SqL K H1 a xs) (hn:xs.length<100000)
  (mono:∀acc i v H H',P acc i v H->SameBut acc H H'->P acc i v H')
  (hc:∀(i:Nat) x,xs[i]?=some x->∀H2 R,Same H1 H2->R (p i) H2->tc (some x :: bV σ js) H2 R)
  (he:∀acc (i:Nat) x,xs[i]?=some x->p i=true->∀H2 R,Same H1 H2->H1 acc=none->H2 acc≠none->(∀v H3,Same H2 H3->P acc i v H3->R v H3)->te (some x :: bV σ js) H2 R)
  (hQ:∀acc vs H',Same H1 H'->H1 acc=none->H' acc=some (.lst vs)->Paired (fun i v=>P acc i v H') ((xO xs.length).filter p) vs->Q (.ref acc) H'):b9 (mC K a) H1 (none :: js) (bC 0) tc te σ Q:=
 i6 (J:=mC K a) (H1:=H1) (js:=js) (σ:=σ) (tc:=tc) (te:=te) (Q:=Q) xs.length (fun i=>xs.getD i .non) p P hn mono
  (fun i H h s=>⟨xs,xs[i],s.seq hl,by simp[h]⟩) (fun H s=>⟨xs,s.seq hl,xQ _⟩)
  (fun i H x H' h s y=>⟨y.1,by have e:=y.2 xs (s.seq hl);simp[e]⟩)
  (fun i h H2 R s k=>hc i _ (by simp[h]) H2 R s k) (fun acc i h hp H2 R s n1 n2 k=>he acc i _ (by simp[h]) hp H2 R s n1 n2 k) hQ
end
section
variable {X:Cx} {tg l:Expr} {tl:TE} {es:List Expr} {k n:Nat} {t:qX} {pos:Pos} {a:Expr} {ta:TE}
theorem cP (K:PySem.W.Frag) (h:X.K=K:=by rfl):IxR X (tV K):=by subst h;exact mM
theorem i7 (K:PySem.W.Frag) (h:X.K=K:=by rfl):IxR X (tW K):=by subst h;exact pb
theorem w9 (K:PySem.W.Frag) (h:X.K=K:=by rfl):SlR X (tX K):=by subst h;exact mN
theorem xu (K:PySem.W.Frag) (h:X.K=K:=by rfl):dw X (compareOp .In) (v9 K false):=by subst h;exact nO
theorem ud (K:PySem.W.Frag) (h:X.K=K:=by rfl):dw X (compareOp .NotIn) (v9 K true):=by subst h;exact jB
theorem xv (K:PySem.W.Frag) (hu:X.A.units+64<cLine) (h:X.K=K:=by rfl):dw X (compareOp .Eq) (vo K):=by subst h;exact ub hu
theorem xa (K:PySem.W.Frag) (hu:X.A.units+64<cLine) (h:X.K=K:=by rfl):dw X (compareOp .NotEq) (vp K):=by subst h;exact uc hu
theorem bx (K:PySem.W.Frag) (h:X.K=K:=by rfl):bL X (.builtin "len") (fun xs H Q=>∃x n,xs=[x]/\tM K x H n/\Q (.int n) H):=by subst h;exact o7
theorem fA (K:PySem.W.Frag) (h:X.K=K:=by rfl):bL X (.builtin "isinstance") (fun xs H Q=>∃x Y t b,xs=[x,.ty Y]/\TyOf K H x t/\PySem.W.kitOne K t (.type Y)=some b/\Q (.bl b) H):=by subst h;exact pK
theorem rJ (K:PySem.W.Frag) (hc:X.calm=true:=by rfl) (h:X.K=K:=by rfl):bL X (.builtin "all") (fun xs H Q=>∃(p:Addr) (bs:List Bool),xs=[.ref p]/\SqL K H p (bs.map V.bl)/\Q (.bl (bs.all id)) H):=by
 subst h
 exact fun pins s σ H xs us Q I r q=>pL pins s σ H xs us Q I r (let⟨p,bs,e⟩:=q;⟨hc,p,bs,e⟩)
theorem rK (K:PySem.W.Frag) (h:X.K=K:=by rfl):bL X (.builtin "sorted") (fun xs H Q=>∃(p:Addr) (ns:List Int),xs=[.ref p]/\SqL K H p (ns.map V.int)/\ns.length<64/\
 ∀l (ms:List Int),H l=none->ms.Perm ns->ms.Pairwise (· <= ·)->Q (.ref l) (aI H l (.lst (ms.map V.int)))):=by subst h;exact kE
theorem mS (K:PySem.W.Frag) (h:X.K=K:=by rfl):bL X (.type "list") (fun xs H Q=>∃p ys,xs=[.ref p]/\(SqL K H p ys\/SqT K H p ys)/\∀l,H l=none->Q (.ref l) (aI H l (.lst ys))):=by subst h;exact jC
theorem pM (K:PySem.W.Frag) (hl:PE X l tl) (h:X.K=K:=by rfl):PI X tg l (sI K tl):=by subst h;exact rj hl
theorem xb (K:PySem.W.Frag) (hl:PE X l tl) (h:X.K=K:=by rfl):PI X tg l (u6 K tl):=by subst h;exact tI hl
theorem xc (K:PySem.W.Frag) (hc:X.calm=true) (hg:tD X es t) (h:X.K=K:=by rfl) (hn:(assignEach es X.env).length=n:=by rfl) (hst:(assignEach es X.env).findIdx? (·.1)=none:=by rfl):PG X (.Tuple es k pos) (rh K n t):=by
 subst h;exact tG hc hg hn hst
end
theorem bq {X:Cx} {N:List Str} (h:N.Nodup) (e:X.N=N:=by rfl):X.N.Nodup:=by rw[e];exact h
theorem ue (xs:List V) (k:Nat):eN xs none (some (k:Int))=xs.take k:=by
 unfold eN
 rw[HT.fm,HT.kz,List.drop_zero,Nat.sub_zero]
 by_cases h:k<=xs.length
 ·rw [y8 h]
 ·rw [zd (by omega),yt (xQ _),yt (by omega)]
theorem pN (xs:List V) (k:Nat):eN xs (some (k:Int)) none=xs.drop k:=by
 unfold eN
 rw[HT.fm,HT.kz]
 by_cases h:k<=xs.length
 ·rw [y8 h,yt (by rw[yS];omega)]
 ·rw [zd (by omega),zF,zy,zm (by omega)]
theorem rM (xs:List V) (i j:Nat):eN xs (some (i:Int)) (some (j:Int))=(xs.drop i).take (j-i):=by
 unfold eN
 rw[HT.fm,HT.fm]
 by_cases h:i<=xs.length
 ·rw [y8 h]
  by_cases h2:j<=xs.length
  ·rw [y8 h2]
  ·rw [zd (by omega),yt (by rw[yS];omega),yt (by rw[yS];omega)]
 ·have e:min i xs.length=xs.length:=zd (by omega)
  rw[e,zm (xQ _),zm (l:=xs) (i:=i) (by omega),List.take_nil,List.take_nil]
section
variable {K:PySem.W.Frag} {H:Hp} {a b:Addr}
theorem kF {xs:List V} (h1:SqL K H a xs) (h2:SqL K H b xs) (hf:∀x∈xs,b8 x=true):DEq K H 1 (.ref a) (.ref b) true:=by
 have q:=DEq.lst (d:=0) (e:=fun _=>true) h1 h2 rfl fun j x y ex ey=>by
  rw[ex]at ey
  cases ey
  have f:=hf x (xT ex)
  have e:=DEq.flat (K:=K) (H:=H) (d:=0) f f
  rw[h9 f]at e
  exact e
 have e:((xO xs.length).all fun _=>true)=true:=x6.mpr fun _ _=>rfl
 rw[e]at q
 exact q
theorem nX {ns:List Int}:∀x∈ns.map V.int,b8 x=true:=fun x hx=>by
 obtain⟨i,_,rfl⟩:=yQ.mp hx
 rfl
theorem mT {xs:List V} (h1:SqL K H a xs) (h2:SqL K H b []):DEq K H 1 (.ref a) (.ref b) xs.isEmpty:=by
 cases xs with
 | nil=>exact kF h1 h2 fun x hx=>by cases hx
 | cons x r=>exact DEq.len h1 h2 (by simp)
end
theorem eF {b:Bool} {A B:Prop} (h1:b=false->A) (h2:b=true->B):if(!b)=true then A else B:=by
 cases b with
 | true=>exact aW (h2 rfl)
 | false=>exact bh (h1 rfl)
theorem pO {b:Bool} {A B:Prop} (h1:b=true->A) (h2:b=false->B):if b=true then A else B:=by
 cases b with
 | true=>exact bh (h1 rfl)
 | false=>exact aW (h2 rfl)
theorem eO {i j:Int} {A B:Prop} (h1:i=j->A) (h2:i≠j->B):if decide (V.int i=V.int j)=true then A else B:=by
 by_cases h:i=j
 ·rw [if_pos (by simp[h])];exact h1 h
 ·rw [if_neg (by simp[h])];exact h2 h
theorem uf {i j:Int} {A B:Prop} (h1:i≠j->A) (h2:i=j->B):if(!decide (V.int i=V.int j))=true then A else B:=by
 by_cases h:i=j
 ·rw [if_neg (by simp[h])];exact h2 h
 ·rw [if_pos (by simp[h])];exact h1 h
theorem qY {c:Prop} [Decidable c] {A B:Prop} (h1:c->A) (h2:¬c->B):if decide c=true then A else B:=by
 by_cases h:c
 ·rw [if_pos (decide_eq_true h)];exact h1 h
 ·rw [if_neg (by simp[h])];exact h2 h
def wM (t u:TS):TS:=fun D σ H=>∃P:L2.St->Hp->Prop,t {D with nx:=P} σ H/\∀σ' H',P σ' H'->u D σ' H'
theorem mU {X:Cx} {st:Stmt} {ck:List Stmt} {t u:TS} (h1:PS X st t) (h2:PSs X ck u):PSs X (st :: ck) (wM t u):=by
 intro pins s σ H D I h
 obtain⟨P,ht,hu⟩:=h
 refine wpAny_execs_cons (bB (h1 pins s σ H {D with nx:=P} I ht) fun f s1 q=>?_)
 cases f with
 | next=>
  obtain⟨σ',H',I',q⟩:=q
  exact h2 pins s1 σ' H' D I' (hu σ' H' q)
 | ret v=>exact q
 | brk=>exact q
 | cont=>exact q
section
variable {X:Cx} {tg l:Expr} {tl:TE}
end
section
variable {X:Cx} {es:List Expr} {t:TA}
end
section
variable {X:Cx} {tg l:Expr} {tl:TE}
end
end L2
namespace L2
abbrev HK:=List (cj×V)
def i8 (kvs:HK) (q:Nat):Nat:=(kvs.map (·.2)).count (V.int q)
def c0 (as:List Int):HK:=as.map fun b=>(Sum.inl b,V.bl true)
theorem kG (as:List Int) (b:Int):jD (c0 as) (Sum.inl b)=if b∈as then some (V.bl true)else none:=by
 induction as with
 | nil=>rfl
 | cons a r ih=>
  show jD ((Sum.inl a,V.bl true) :: c0 r) _=_
  by_cases e:a=b
  ·subst e;rw[g8 rfl];simp
  ·rw [g9 (fun z=>e (Sum.inl.inj z)),ih]
   have:¬b=a:=fun z=>e z.symm
   simp[this]
theorem pP {as:List Int} {b:Int} (h:¬b∈as):eB (c0 as) (Sum.inl b) (V.bl true)=c0 (as++[b]):=by
 have a:¬((c0 as).any fun kv=>decide (kv.1=Sum.inl b))=true:=by rw[hU,kG,if_neg h];simp
 unfold eB
 rw[if_neg a]
 unfold c0
 rw[yo];rfl
end L2
namespace L2
open PySem PySem.Spec PyProof.Rows
def PoolsL (K:PySem.W.Frag) (H:Hp) (rs:List Addr) (ps:List (List Int)):Prop:=Paired (fun r p=>SqL K H r (p.map V.int)) rs ps
theorem PoolsL.same {K:PySem.W.Frag} {H H':Hp} {rs:List Addr} {ps:List (List Int)} (h:PoolsL K H rs ps) (s:Same H H'):PoolsL K H' rs ps:=Paired.mapP h fun _ _ q=>s.seq q
theorem PoolsL.at {K:PySem.W.Frag} {H:Hp} {rs:List Addr} {ps:List (List Int)} (h:PoolsL K H rs ps) {i:Nat} {p:List Int} (e:ps[i]?=some p):∃r,rs[i]?=some r/\SqL K H r (p.map V.int):=bW (F:=fun(r:Addr) (p:List Int)=>SqL K H r (p.map V.int)) h e
theorem PoolsL.len {K:PySem.W.Frag} {H:Hp} {rs:List Addr} {ps:List (List Int)} (h:PoolsL K H rs ps):rs.length=ps.length:=Paired.length h
theorem i9 {α β:Type} {F:α->β->Prop}:∀{l:List α} {r:List β},l.length=r.length->(∀(i:Nat) a b,l[i]?=some a->r[i]?=some b->F a b)->Paired F l r:=by
 intro l
 induction l with
 | nil=>
  intro r h f
  cases r with
  | nil=>exact .nil
  | cons b r=>cases h
 | cons a l ih=>
  intro r h f
  cases r with
  | nil=>cases h
  | cons b r=>exact .cons (f 0 a b rfl rfl) (ih (Nat.succ.inj h) fun i x y e1 e2=>f (i+1) x y e1 e2)
theorem gL (b:Int) (bs:List Int):uO (.int b) (bs.map V.int)=decide (b∈bs):=by
 unfold uO
 induction bs with
 | nil=>rfl
 | cons c r ih=>
  rw[yF,ze,ih]
  by_cases h:c=b
  ·subst h;simp[mO]
  ·have h':¬b=c:=fun z=>h z.symm
   simp[mO,h,h']
theorem dB (bs:List Int):(bs.map V.int).all b8=true:=by
 rw[x6]
 intro x hx
 obtain⟨i,_,e⟩:=yQ.mp hx
 rw[<- e];rfl
theorem nY {K:PySem.W.Frag} {H:Hp} {a b:Addr} {rs rs':List Addr} {ps:List (List Int)} (h1:SqL K H a (rs.map V.ref)) (p1:PoolsL K H rs ps) (h2:SqL K H b (rs'.map V.ref)) (p2:PoolsL K H rs' ps):DEq K H 2 (.ref a) (.ref b) true:=by
 have q:=DEq.lst (d:=1) (e:=fun _=>true) h1 h2 (by rw[xM,xM,p1.len,p2.len]) fun j x y ex ey=>by
  rw[xR]at ex ey
  obtain⟨r,e1,e2⟩:=ya.mp ex
  obtain⟨r',e3,e4⟩:=ya.mp ey
  subst e2 e4
  have hj:j<ps.length:=by rw[<- p1.len];exact(xP.mp e1).1
  obtain⟨u,eu,su⟩:=p1.at (xK hj)
  obtain⟨u',eu',su'⟩:=p2.at (xK hj)
  rw[e1]at eu
  rw[e3]at eu'
  cases eu
  cases eu'
  exact kF su su' nX
 have e:((xO (rs.map V.ref).length).all fun _=>true)=true:=x6.mpr fun _ _=>rfl
 rw[e]at q
 exact q
theorem kH {G:Nat->Addr->Prop}:∀{l:List Nat} {vs:List V},Paired (fun i v=>∃r,v= .ref r/\G i r) l vs->∃rs:List Addr,vs=rs.map V.ref/\Paired G l rs:=by
 intro l vs h
 induction h with
 | nil=>exact⟨[],rfl,.nil⟩
 | cons q t ih=>
  obtain⟨r,e,g⟩:=q
  obtain⟨rs,e2,p⟩:=ih
  exact⟨r :: rs,by rw[e,e2];rfl,.cons g p⟩
theorem lP {K:PySem.W.Frag} {H1:Hp} {js:List (Option Nat)} {σ:L2.St} {te:TE} {Q:VK} {a:Addr} {xs:List V} (f:Nat->List V) (hl:SqL K H1 a xs) (hn:xs.length<100000)
  (he:∀(i:Nat) x,xs[i]?=some x->∀H2 R,Same H1 H2->(∀r H3,Same H2 H3->H2 r=none->H3 r=some (.lst (f i))->R (.ref r) H3)->te (some x :: bV σ js) H2 R)
  (hQ:∀acc (rs:List Addr) H',Same H1 H'->H1 acc=none->H' acc=some (.lst (rs.map V.ref))->rs.length=xs.length->(∀(i:Nat) r,rs[i]?=some r->H' r=some (.lst (f i))/\H1 r=none)->(∀r∈rs,r≠acc)->Q (.ref acc) H'):
  b9 (mC K a) H1 (none :: js) (bC 0) fv te σ Q:=
 nW (K:=K) (H1:=H1) (js:=js) (σ:=σ) (tc:=fv) (te:=te) (Q:=Q) (a:=a) (xs:=xs) (fun _=>true) (fun acc i v H=>∃r,v= .ref r/\r≠acc/\H1 r=none/\H r=some (.lst (f i))) hl hn
  (fun acc i v H H' ⟨r,e,n,h0,h⟩ s=>⟨r,e,n,h0,s r _ n h⟩) (fun _ _ _ _ _ _ h=>h)
  (fun acc i x hx _ H2 R s n1 n2 k=>he i x hx H2 R s fun r H3 s3 nr h3=>k _ H3 s3 ⟨r,rfl,fun z=>n2 (by rw[<- z];exact nr),s.free nr,h3⟩)
  fun acc vs H' s n' e p=>by
   rw[yE.mpr (fun _ _=>rfl)]at p
   obtain⟨rs,e2,p2⟩:=kH p
   have ln:rs.length=xs.length:=by rw[<- Paired.length p2,yp]
   have all:∀(i:Nat) r,rs[i]?=some r->r≠acc/\H1 r=none/\H' r=some (.lst (f i)):=fun i r hi=>by
    obtain⟨j,hj,g⟩:=bW p2 hi
    have lt:i<xs.length:=by rw[<- ln];exact(xP.mp hi).1
    rw[y3 lt]at hj
    cases hj
    exact g
   refine hQ acc rs H' s n' (by rw[e,e2]) ln (fun i r hi=>⟨(all i r hi).2.2,(all i r hi).2.1⟩) fun r hr=>?_
   obtain⟨i,hi,ei⟩:=xZ.mp hr
   exact(all i r (by rw[xK hi,ei])).1
abbrev ib (xs:List Nat):Prop:=xs.Pairwise (· < ·)
structure CutAt (xs:Array Nat) (j p:Nat):Prop where
 le:p<=xs.size
 lo:∀i (h:i<xs.size),i<p->xs[i]<j
 hi:∀i (h:i<xs.size),p<=i->j<=xs[i]
theorem fB {xs:Array Nat} (r:ib xs.toList) {i k:Nat} (hi:i<xs.size) (hk:k<xs.size) (h:i<k):xs[i]<xs[k]:=by
 have:=yM.mp r i k (by simpa using hi) (by simpa using hk) h
 simpa using this
theorem pQ {xs:Array Nat} (r:ib xs.toList) (j:Nat):∀(f lo hi:Nat),hi-lo<=f->lo<=hi->hi<=xs.size->(∀i (h:i<xs.size),i<lo->xs[i]<j)->(∀i (h:i<xs.size),hi<=i->j<=xs[i])->CutAt xs j (SetTable.below.go xs j f lo hi):=by
 intro f
 induction f with
 | zero=>
  intro lo hi hf hl hs h1 h2
  have e:hi=lo:=by omega
  subst e
  exact⟨hs,h1,h2⟩
 | succ f ih=>
  intro lo hi hf hl hs h1 h2
  unfold SetTable.below.go
  by_cases hlt:lo<hi
  ·rw [if_pos hlt]
   have hm:(lo+hi)/2<xs.size:=by omega
   have eg:xs.getD ((lo+hi)/2) j=xs[(lo+hi)/2]:=by simp[hm]
   dsimp only
   rw[eg]
   by_cases hc:xs[(lo+hi)/2]<j
   ·rw [if_pos hc]
    refine ih _ _ (by omega) (by omega) hs (fun i h hi'=>?_) h2
    by_cases e:i=(lo+hi)/2
    ·subst e;exact hc
    ·exact Nat.lt_trans (fB r h hm (by omega)) hc
   ·rw [if_neg hc]
    refine ih _ _ (by omega) (by omega) (by omega) h1 fun i h hi'=>?_
    by_cases e:i=(lo+hi)/2
    ·subst e;omega
    ·have:=fB r hm h (by omega)
     omega
  ·rw [if_neg hlt]
   have e:hi=lo:=by omega
   subst e
   exact⟨hs,h1,h2⟩
theorem ja {xs:Array Nat} (r:ib xs.toList) (j:Nat):CutAt xs j (SetTable.below xs j):=
 pQ r j xs.size 0 xs.size (by omega) (yx _) (xQ _) (fun i _ h=>by omega) fun i h h'=>by omega
theorem CutAt.unique {xs:Array Nat} {j p q:Nat} (a:CutAt xs j p) (b:CutAt xs j q):p=q:=by
 rcases Nat.lt_trichotomy p q with h | h | h
 ·have hp:p<xs.size:=yb h b.le
  have:=b.lo p hp h
  have:=a.hi p hp (xQ _)
  omega
 ·exact h
 ·have hq:q<xs.size:=yb h a.le
  have:=a.lo q hq h
  have:=b.hi q hq (xQ _)
  omega
theorem kI {xs:Array Nat} {j:Nat} (r:ib xs.toList) (hn:xs[SetTable.below xs j]?≠some j):ib (SetTable.insertAt xs (SetTable.below xs j) j).toList:=by
 have c:=ja r j
 generalize SetTable.below xs j=p at hn c
 have e:(SetTable.insertAt xs p j).toList=xs.toList.take p++j :: xs.toList.drop p:=by
  unfold SetTable.insertAt
  simp[Array.toList_append,zD,List.extract_eq_take_drop]
  exact yt (by simp)
 rw[e]
 refine List.pairwise_append.mpr ⟨r.sublist (List.take_sublist _ _),List.pairwise_cons.mpr ⟨fun x hx=>?_,r.sublist (List.drop_sublist _ _)⟩,fun x hx y hy=>?_⟩
 ·obtain⟨i,hi,ei⟩:=xZ.mp hx
  rw[yS,xS]at hi
  rw[List.getElem_drop,yZ]at ei
  have h1:=c.hi (p+i) (by omega) (by omega)
  rw[ei]at h1
  by_cases z:x=j
  ·exfalso
   have hp:p<xs.size:=by omega
   have h2:=c.hi p hp (xQ _)
   have h3:xs[p]<=xs[p+i]:=by
    by_cases i0:i=0
    ·subst i0;exact xQ _
    ·exact yB (fB r hp (by omega) (by omega))
   have h4:xs[p]=j:=by rw[ei,z]at h3;omega
   exact hn (by rw[yq hp,h4])
  ·omega
 ·obtain⟨i,hi,ei⟩:=xZ.mp hx
  rw[yu,xS]at hi
  rw[zj,yZ]at ei
  have h1:=c.lo i (by omega) (by omega)
  rw[ei]at h1
  rcases xY.mp hy with z | z
  ·omega
  ·obtain⟨k,hk,ek⟩:=xZ.mp z
   rw[yS,xS]at hk
   rw[List.getElem_drop,yZ]at ek
   have h2:=c.hi (p+k) (by omega) (by omega)
   omega
theorem jb {t:SetTable} {j:Nat} (h:t.slot j= .empty\/t.slot j= .dummy):t.place[SetTable.below t.place j]?≠some j:=by
 intro z
 have e:t.slot j= .live (SetTable.below t.place j):=by
  unfold SetTable.slot
  dsimp only
  rw[z]
  simp
 rw[e]at h
 rcases h with h | h<;>cases h
theorem lQ {t:SetTable} {hh:Nat->Int} {h:Int}:∀(f:Nat) (p:SetTable.Probe) (j:Nat) (d:Option Nat),(∀x,p.dummy=some x->t.slot x= .dummy)->SetTable.probe.go t hh h f p=some (.empty j d)->t.slot j= .empty/\∀x,d=some x->t.slot x= .dummy:=by
 intro f
 induction f with
 | zero=>intro p j d _ e;unfold SetTable.probe.go at e;cases e
 | succ f ih=>
  intro p j d hp e
  unfold SetTable.probe.go at e
  have adv:∀q:SetTable.Probe,(t.advance q).dummy=q.dummy:=fun q=>by
   unfold SetTable.advance
   split<;>rfl
  cases hs:t.slot p.j with
  | empty=>
   rw[hs]at e
   cases e
   exact⟨hs,hp⟩
  | dummy=>
   rw[hs]at e
   refine ih _ j d (fun x hx=>?_) e
   rw[adv]at hx
   cases hx
   exact hs
  | live i=>
   rw[hs]at e
   dsimp only at e
   split at e
   ·cases e
   ·refine ih _ j d (fun x hx=>?_) e
    rw[adv]at hx
    exact hp x hx
theorem iH {t:SetTable} {h:Int} {j:Nat} {b:Bool} (e:t.freeSlot h=some (j,b)):t.place[SetTable.below t.place j]?≠some j:=by
 unfold SetTable.freeSlot at e
 split at e
 ·rename_i j' d hm
  have:=lQ (t:=t) (h:=h) _ _ j' d (fun x hx=>by cases hx) hm
  have e':=Option.some.inj e
  cases d with
  | none=>
   have:j'=j:=by have:=congrArg Prod.fst e';simpa using this
   subst this
   exact jb (.inl this.1)
  | some x=>
   have hx:x=j:=by have:=congrArg Prod.fst e';simpa using this
   subst hx
   exact jb (.inr (this.2 x rfl))
 ·cases e
structure TabK (led:Bool) (t:SetTable):Prop where
 led:t.led=led
 rise:t.plain=true->ib t.place.toList
theorem cH {led:Bool} {t:SetTable} (h:t.led=led) (n:Nat):TabK led (t.standIn n):=⟨h,fun z=>by cases z⟩
theorem iI {led:Bool} {t:SetTable} (h:TabK led t) (n:Nat):TabK led (t.orStandIn n):=by
 unfold SetTable.orStandIn
 split
 ·exact h
 ·exact cH h.led n
theorem lR {led:Bool} {t:SetTable} (h:TabK led t) (es:Array (Int×Value)) (hh:Int) (x:Value):TabK led (layNew t es hh x).2.1:=by
 unfold layNew
 cases e:t.freeSlot hh with
 | none=>exact cH h.led _
 | some q=>
  obtain⟨j,b⟩:=q
  refine iI (t:=(t.put j).1) ⟨h.led,fun z=>?_⟩ _
  exact kI (h.rise z) (iH e)
theorem jc {mask finger moves:Nat} {led plain:Bool} {hs:Array Int} {t:SetTable} {o:Array Nat} (e:SetTable.laid mask finger moves led plain hs=some (t,o)):t.led=led/\ib t.place.toList:=by
 unfold SetTable.laid at e
 obtain⟨ow,_,e2⟩:=Option.bind_eq_some_iff.mp e
 have e2:=Option.some.inj e2
 have ht:=congrArg Prod.fst e2
 dsimp only at ht
 rw[<- ht]
 refine⟨rfl,?_⟩
 show List.Pairwise (fun a b=>a<b) (List.map (fun x:Nat×Nat=>x.1) _)
 rw[List.pairwise_map]
 refine List.pairwise_filterMap.mpr ?_
 refine List.Pairwise.imp ?_ List.pairwise_lt_range
 intro a b hab x hx y hy
 obtain⟨u,_,eu⟩:=ya.mp hx
 obtain⟨v,_,ev⟩:=ya.mp hy
 rw[<- eu,<- ev]
 exact hab
theorem jF {led:Bool} {t:SetTable} (h:TabK led t) (es:Array (Int×Value)) (n:Nat):TabK led (relayAll t es n).2.1:=by
 unfold relayAll
 cases e:t.relaid (es.map (·.1)) n with
 | none=>exact cH h.led _
 | some q=>
  obtain⟨t',o⟩:=q
  dsimp only
  split
  ·have:=jc e
   exact⟨this.1.trans h.led,fun _=>this.2⟩
  ·exact cH h.led _
abbrev bw (w:World):Bool:=w.params.followText "set-order"
def Ents (es:List (Int×Value)) (ks:List Int):Prop:=Paired (fun(e:Int×Value) (k:Int)=>∃t,e=(hashInt k,Value.int k t)) es ks
structure SetIn (w:World) (o:Obj) (es:Array (Int×Value)) (ep:Nat) (t:SetTable) (ks:List Int):Prop where
 ex:o.ExactSet
 da:o.data= .set es ep t
 en:Ents es.toList ks
 nd:ks.Nodup
 sz:ks.length<4000
 ft:t.fits es.size=true
 tb:TabK (!bw w) t
def SX (w:World) (a:Addr) (ms:List Int):Heap->Prop:=fun h=>∃o es ep t ks,h.get? a=some o/\SetIn w o es ep t ks/\ks.Perm ms
theorem SX.at {w:World} {a:Addr} {ms:List Int} {h h':Heap} (x:SX w a ms h) (k:∀o,h.get? a=some o->h'.get? a=some o):SX w a ms h':=by
 obtain⟨o,es,ep,t,ks,e,r⟩:=x
 exact⟨o,es,ep,t,ks,k o e,r⟩
theorem SX.lt {w:World} {a:Addr} {ms:List Int} {h:Heap} (x:SX w a ms h):a<h.objs.size:=by
 obtain⟨o,es,ep,t,ks,e,r⟩:=x
 exact Heap.lt_size e
theorem SX.perm {w:World} {a:Addr} {ms ns:List Int} {h:Heap} (x:SX w a ms h) (p:ms.Perm ns):SX w a ns h:=by
 obtain⟨o,es,ep,t,ks,e,r,q⟩:=x
 exact⟨o,es,ep,t,ks,e,r,q.trans p⟩
theorem Ents.mem:∀{es:List (Int×Value)} {ks:List Int},Ents es ks->∀{e:Int×Value},e∈es->∃k t,k∈ks/\e=(hashInt k,Value.int k t):=by
 intro es ks h e
 unfold Ents at h
 induction h with
 | nil=>intro h;cases h
 | cons q r ih=>
  intro h
  obtain⟨t,q⟩:=q
  rcases xY.mp h with z | z
  ·exact⟨_,t,yc,z.trans q⟩
  ·obtain⟨k,t,m,q⟩:=ih z
   exact⟨k,t,x8 _ m,q⟩
theorem Ents.elems {P:Program} {w:World} {es:List (Int×Value)} {ks:List Int} (h:Ents es ks):ElemsOf (intKind P w) es:=fun e he=>by
 obtain⟨k,t,_,q⟩:=h.mem he
 subst q
 exact⟨⟨k,intKind_is P w k t,rfl⟩,rfl⟩
theorem Ents.len {es:List (Int×Value)} {ks:List Int} (h:Ents es ks):es.length=ks.length:=Paired.length h
theorem Ents.perm {es es':List (Int×Value)} (p:es'.Perm es):∀{ks:List Int},Ents es ks->∃ks',Ents es' ks'/\ks'.Perm ks:=by
 induction p with
 | nil=>intro ks h;cases h;exact⟨[],.nil,.nil⟩
 | cons x _ ih=>
  intro ks h
  cases h with
  | cons q r=>
   obtain⟨ks',a,b⟩:=ih r
   exact⟨_ :: ks',.cons q a,b.cons _⟩
 | swap x y l=>
  intro ks h
  cases h with
  | cons q r=>
   cases r with
   | cons q' r=>exact⟨_ :: _ :: _,.cons q' (.cons q r),.swap _ _ _⟩
 | trans _ _ ih1 ih2=>
  intro ks h
  obtain⟨k2,a,b⟩:=ih2 h
  obtain⟨k3,c,d⟩:=ih1 a
  exact⟨k3,c,d.trans b⟩
theorem jd (k j:Int) (t:Tok):Value.isInt k (.int j t)=decide (k=j):=by
 by_cases h:k=j
 ·subst h;simp[Value.isInt]
 ·simp [Value.isInt,h]
  exact fun z=>h z.symm
theorem Ents.find {P:Program} {w:World} {k:Int}:∀{es:List (Int×Value)} {ks:List Int},Ents es ks->(es.findIdx? (fun e=>(intKind P w).is k e.2)).isSome=decide (k∈ks):=by
 intro es ks h
 unfold Ents at h
 induction h with
 | nil=>rfl
 | @cons a j es ks q r ih=>
  obtain⟨t,q⟩:=q
  subst q
  rw[List.findIdx?_cons]
  have e:(intKind P w).is k (hashInt j,Value.int j t).2=decide (k=j):=jd k j t
  rw[e]
  by_cases h:k=j
  ·subst h;simp
  ·simp [h,ih]
section
variable {P:Program} {w:World} {A:Around} {E:Value->Shared->Prop} {s:Shared} {a:Addr} {ms ks:List Int} {o:Obj} {es:Array (Int×Value)} {ep:Nat} {t:SetTable}
theorem SetIn.bound (h:SetIn w o es ep t ks):es.size<scanBound:=by
 have:es.size=ks.length:=by rw[<- h.en.len,xS]
 have:=h.sz
 have e:scanBound=4096:=rfl
 omega
theorem SetIn.size (h:SetIn w o es ep t ks):es.size=ks.length:=by rw[<- h.en.len,xS]
theorem lU {es':Array (Int×Value)} {t':SetTable} {ks':List Int} (ho:s.heap.get? a=some o) (h:SetIn w o es ep t ks) (en:Ents es'.toList ks') (nd:ks'.Nodup) (sz:ks'.length<4000) (ft:t'.fits es'.size=true) (tb:TabK (!bw w) t'):
  ∃o',(s.heap.update a (Obj.putSet es' t')).get? a=some o'/\SetIn w o' es' (ep+1) t' ks':=by
 have g:=Heap.get?_update_self (Obj.putSet es' t') ho (by rw[putSet_of es' t' h.da];rfl)
 rw[putSet_of es' t' h.da]at g
 exact⟨_,g,⟨h.ex,rfl,en,nd,sz,ft,tb⟩⟩
theorem mV {g:Bool->Sem Unit} {Q:Unit->Shared->Prop} (hg:∀b,g b=match b with | true=>rule "set.scan.the-table-gave-way" | false=>pure ()) (b:Bool) {s:Shared} (h:Q () s):wpAny (model P w) A (g b) Q E s:=by
 rw[hg b]
 cases b with
 | true=>exact wpAny_rule h
 | false=>exact wpAny_pure h
theorem ug {x:Int} {tk:Tok} {Q:Bool->Shared->Prop} (ho:s.heap.get? a=some o) (hs:SetIn w o es ep t ks) (hl:ks.length+1<4000)
  (h1:x∈ks->Q false s) (h2:x∉ks->∀h',Heap.SameBut a s.heap h'->SX w a (ks++[x]) h'->Q true {s with heap:=h'}):wpAny (model P w) A (setAddHashed a (.int x tk) (hashInt x)) Q E s:=by
 have hel:=hs.en.elems (P:=P) (w:=w)
 have hky:(intKind P w).is x (.int x tk)=true:=intKind_is P w x tk
 unfold setAddHashed setAddHashedIn
 refine wpAny_holding (wpAny_bind (wpAny_setState_of ho hs.da hs.ft ?_))
 dsimp only
 rw[byScan_of (knd:=intKind P w) rfl hs.bound hel,if_pos rfl]
 refine wpAny_bind ?_
 unfold setAddByScan
 refine wpAny_bind (wpAny_rule (wpAny_bind (wpAny_setScan_of (knd:=intKind P w) (k:=x) hky ho hs.da hs.ft hel ?_)))
 have fd:=hs.en.find (P:=P) (w:=w) (k:=x)
 cases hr:List.findIdx? (fun e=>(intKind P w).is x e.2) es.toList with
 | some j=>
  rw[hr]at fd
  exact wpAny_pure (wpAny_pure (h1 (of_decide_eq_true fd.symm)))
 | none=>
  rw[hr]at fd
  have hx:x∉ks:=of_decide_eq_false fd.symm
  have p1:=layNew_perm t es (hashInt x) (Value.int x tk)
  have f1:=layNew_fits t es (hashInt x) (Value.int x tk)
  have t1:=lR hs.tb es (hashInt x) (Value.int x tk)
  generalize layNew t es (hashInt x) (Value.int x tk)=L at p1 f1 t1 ⊢
  obtain⟨e1,u1,wasD,gave⟩:=L
  dsimp only at p1 f1 t1 ⊢
  rw[zD]at p1
  obtain⟨k1,n1,q1⟩:=Ents.perm p1 (ks:=ks++[x]) (Paired.snoc hs.en ⟨tk,rfl⟩)
  have nd1:k1.Nodup:=q1.nodup_iff.mpr (gJ hs.nd hx)
  have l1:k1.length<4000:=by rw[q1.length_eq,xV,x9];exact hl
  have b1:e1.size<=sizeLine:=by
   have:e1.size=k1.length:=by rw[<- n1.len,xS]
   exact yd (by omega) (yB (oS (n:=99999) (by omega)))
  refine wpAny_bind (mV (fun b=>by cases b<;>rfl) gave ?_)
  have tail:∀u2:SetTable,u2.fits e1.size=true->TabK (!bw w) u2->∀R:Option Bool->Shared->Prop,(∀h',Heap.SameBut a s.heap h'->SX w a (ks++[x]) h'->R (some true) {s with heap:=h'})->∀g:Bool->Sem Unit,(∀b,g b=match b with | true=>rule "set.scan.the-table-gave-way" | false=>pure ())->
    wpAny (model P w) A (do
     storeSet a e1 u2
     if(!wasD&&u2.tooFull)=true then
      let(es,t,gave):=relayAll u2 e1 (SetTable.grown e1.size)
      g gave
      storeSet a es t
     return some true) R E s:=by
   intro u2 f2 t2 R hR g hg
   refine wpAny_bind (wpAny_storeSet_of ho hs.da ?_ b1)
   obtain⟨o',ho',hs'⟩:=lU (s:=s) ho hs n1 nd1 l1 f2 t2
   have sb1:=Heap.SameBut.update s.heap a (Obj.putSet e1 u2)
   by_cases hc:(!wasD&&u2.tooFull)=true
   ·rw [if_pos hc]
    have p3:=relayAll_perm u2 e1 (SetTable.grown e1.size)
    have f3:=relayAll_fits u2 e1 (SetTable.grown e1.size)
    have t3:=jF t2 e1 (SetTable.grown e1.size)
    generalize relayAll u2 e1 (SetTable.grown e1.size)=L at p3 f3 t3 ⊢
    obtain⟨e3,u3,gave3⟩:=L
    dsimp only at p3 f3 t3 ⊢
    obtain⟨k3,n3,q3⟩:=Ents.perm p3 n1
    have z3:e3.size=e1.size:=by rw[<- xS,p3.length_eq,xS]
    refine wpAny_bind (mV hg gave3 ?_)
    refine wpAny_bind (wpAny_storeSet_of ho' hs'.da ?_ (by rw[z3];exact b1))
    obtain⟨o3,ho3,hs3⟩:=lU (s:={s with heap:=s.heap.update a (Obj.putSet e1 u2)}) ho' hs' n3 (q3.nodup_iff.mpr nd1) (by rw[q3.length_eq];exact l1) f3 t3
    exact wpAny_pure (hR _ (sb1.trans (Heap.SameBut.update _ a _)) ⟨o3,e3,_,u3,k3,ho3,hs3,q3.trans q1⟩)
   ·rw [if_neg hc]
    exact wpAny_pure (hR _ sb1 ⟨o',e1,_,u2,k1,ho',hs',q1⟩)
  by_cases hp:u1.plain=true
  ·rw [if_pos hp]
   refine wpAny_bind ?_
   rw[hashByValue_scannable 8 (x:=Value.int x tk) rfl]
   refine wpAny_pure ?_
   refine tail u1 f1 t1 _ (fun h' sb sx=>?_) _ (fun b=>by cases b<;>rfl)
   exact wpAny_pure (h2 hx h' sb sx)
  ·rw [if_neg hp]
   refine wpAny_bind (wpAny_pure ?_)
   refine tail u1 f1 t1 _ (fun h' sb sx=>?_) _ (fun b=>by cases b<;>rfl)
   exact wpAny_pure (h2 hx h' sb sx)
end
theorem bc:Slot "set_iterator" "__next__" "set_iterator.__next__":= .of (owner:="set_iterator") (n:="__next__") (by rw[typeLookup_type,builtinLookup_eq_fast];kernel_rfl) (by decide +kernel) (by decide +kernel) (by decide +kernel) (.inl (by decide +kernel)) (by rw[isSubtype_type];kernel_rfl)
theorem eG:entryFor table "set_iterator.__next__"=some Builtin.«set_iterator.__next__»:=entryFor_of_tree (by kernel_rfl)
theorem fC (a:Value):argsOk "set_iterator.__next__" ⟨[a],[]⟩:=by unfold argsOk;kernel_rfl
theorem fD:Slot "set_iterator" "__iter__" "set_iterator.__iter__":= .of (owner:="set_iterator") (n:="__iter__") (by rw[typeLookup_type,builtinLookup_eq_fast];kernel_rfl) (by decide +kernel) (by decide +kernel) (by decide +kernel) (.inl (by decide +kernel)) (by rw[isSubtype_type];kernel_rfl)
theorem iJ:entryFor table "set_iterator.__iter__"=some Builtin.«dict_keyiterator.__iter__»:=entryFor_alias (id':="dict_keyiterator.__iter__") (by kernel_rfl) rfl (by decide +kernel) (by kernel_rfl)
theorem jG (a:Value):argsOk "set_iterator.__iter__" ⟨[a],[]⟩:=by unfold argsOk;kernel_rfl
theorem ic:entryFor table "set.__iter__"=some Builtin.«frozenset.__iter__»:=entryFor_alias (id':="frozenset.__iter__") (by kernel_rfl) rfl (by decide +kernel) (by kernel_rfl)
theorem ie {α:Type} {l:List α} {i:Nat} {x:α} (h:l[i]?=some x):l.Perm (x :: l.eraseIdx i):=by
 induction l generalizing i with
 | nil=>simp at h
 | cons y r ih=>
  cases i with
  | zero=>simp at h;subst h;simp
  | succ i=>
   simp at h
   exact((ih h).cons y).trans (.swap _ _ _)
theorem rN {α:Type} (next:Nat->Nat) (f k:Nat) (left:List α) (out:Array α) (h:left.length=f):(pickOrder.go next f k left out).toList.Perm (out.toList++left):=by
 induction f generalizing k left out with
 | zero=>
  have:left=[]:=yj.mp h
  subst this
  unfold pickOrder.go
  simp
 | succ f ih=>
  unfold pickOrder.go
  have hp:0<left.length:=by omega
  have hl:=zx (next k) hp
  rw[xK hl]
  dsimp only
  refine(ih (k+1) _ _ (by rw[zC hl];omega)).trans ?_
  rw[zD,List.append_assoc]
  exact(ie (xK hl)).symm.append_left _
theorem fW {α:Type} (next:Nat->Nat) (xs:Array α):(pickOrder next xs).toList.Perm xs.toList:=by
 have:=rN next xs.size 0 xs.toList #[] (by simp)
 unfold pickOrder
 simpa using this
section
variable {M:Model} {A:Around} {E:Value->Shared->Prop} {s:Shared}
theorem lV {src:Source} {n:Nat} {Q:Nat->Shared->Prop} (hn:n≠0) (h:∀i d,i<n->Q i {s with drawn:=d}):wpAny M A (choose src n) Q E s:=fun Γ p _=>by
 show Sem.wp M Γ (.choose src n .pure) _ _ p s
 rw[Sem.wp_choose]
 exact⟨hn,h _ _ (zx _ (Nat.pos_of_ne_zero hn))⟩
theorem lW {α:Type}:∀(n:Nat) (xs:List α) (s:Shared) (Q:List α->Shared->Prop),xs.length=n->(∀ys d,ys.Perm xs->Q ys {s with drawn:=d})->wpAny M A (drawOrder n xs) Q E s:=by
 intro n
 induction n with
 | zero=>
  intro xs s Q hl h
  have:xs=[]:=yj.mp hl
  subst this
  unfold drawOrder
  exact wpAny_pure (h [] s.drawn (.refl _))
 | succ n ih=>
  intro xs s Q hl h
  cases xs with
  | nil=>cases hl
  | cons x r=>
   unfold drawOrder
   refine wpAny_bind (lV (by simp) fun i d hi=>?_)
   rw[xK hi]
   dsimp only
   refine wpAny_bind (ih _ _ _ (by rw[zC hi,hl];rfl) fun ys d' hp=>wpAny_pure ?_)
   exact h _ d' ((hp.cons _).trans (ie (xK hi)).symm)
end
abbrev gD (h:Heap) (I:Addr) (first:Value) (i:Nat) (S:Addr) (n ep:Nat):Prop:=
 h.get? I=some {cls:= .type "set_iterator",dict:=none,data:= .fields #[first,.int i 0,.ref S,.int n 0,.int ep 0],slots:=#[]}
section
variable {P:Program} {w:World} {A:Around} {E:Value->Shared->Prop} {s:Shared} {I S:Addr} {ks:List Int} {o:Obj} {es:Array (Int×Value)} {ep i:Nat} {t:SetTable} {first:Value}
theorem mW {Q:Value->Shared->Prop} {n:Nat} (hit:gD s.heap I first i S n ep) (h:Q (.ref I) s):wpAny (model P w) A (pyIter (.ref I)) Q E s:=by
 have hT:s.TypeIs (.ref I) "set_iterator":=⟨_,hit,rfl⟩
 refine wpAny_pyIter_slot hT fD (wpAny_call_entry fD hT iJ ?_ (jG _))
 show wpAny _ _ (ret (.ref I)) _ _ s
 exact wpAny_pure ⟨_,rfl,"set_iterator",_,hT,bc.lookup,h⟩
theorem je {A':Around} {R:Fin->Shared->Prop} {Q:Option Value->Shared->Prop} (hh:A'.handled=none) (h:∀h',(∀b o,s.heap.get? b=some o->h'.get? b=some o)->Q none {s with heap:=h'}):
  wpAny (model P w) A' (do let e <- newExc (.type "StopIteration") [];raiseNew e) R (fun e s'=>wpAny (model P w) A (do let b <- isInstance e (.type "StopIteration");if b=true then pure none else throw e) Q E s') s:=by
 refine wpAny_bind ?_
 simp only[newExc,newTuple]
 refine wpAny_bind (wpAny_newObj_type ?_ (by size_fits))
 refine wpAny_bind (m:=firstArgMember _ _) (wpAny_of_eq (a:=Value.none) (by first | rfl | (simp only[firstArgMember];rfl)) ?_)
 refine wpAny_newObj_type ?_ (by size_fits)
 simp only[raiseNew]
 refine wpAny_bind (wpAny_handled ?_)
 rw[hh]
 refine wpAny_bind (wpAny_pure (wpAny_throw ?_))
 refine wpAny_bind (wpAny_isInstance (T:="StopIteration") (b:=true) ⟨_,Heap.get?_push_size _ rfl,rfl⟩ isSubtype_stop ?_)
 exact wpAny_pure (h _ fun b o e=>Heap.get?_push_of_some _ (Heap.get?_push_of_some _ e))
theorem mX {Q:Option Value->Shared->Prop} {slot:Nat} (hh:A.handled=none) (hit:gD s.heap I (.int slot 0) i S es.size ep) (ho:s.heap.get? S=some o) (hs:SetIn w o es ep t ks) (r:Option (Value×Nat))
  (hr:∀(A':Around) (E':Value->Shared->Prop) (R:Option (Value×Nat)->Shared->Prop),R r s->wpAny (model P w) A' (setNext S slot i ep) R E' s)
  (h1:∀x nx h',r=some (x,nx)->gD h' I (.int nx 0) (i+1) S es.size ep->Heap.SameBut I s.heap h'->Q (some x) {s with heap:=h'})
  (h2:∀h',r=none->(∀b o,b≠I->s.heap.get? b=some o->h'.get? b=some o)->Q none {s with heap:=h'}):wpAny (model P w) A (pyNext (.ref I)) Q E s:=by
 have hT:s.TypeIs (.ref I) "set_iterator":=⟨_,hit,rfl⟩
 unfold pyNext
 refine wpAny_bind (wpAny_attempt (wpAny_callSpecial?_slot (name:=Str.ofString "__next__") hT bc (wpAny_call_entry bc hT eG ?_ (fC _))))
 unfold Builtin.«set_iterator.__next__»
 refine wpAny_bind (wpAny_pure ?_)
 refine wpAny_bind (wpAny_fieldsOf hit rfl ?_)
 dsimp only
 refine wpAny_bind (wpAny_setEntries_of ho hs.da hs.ft ?_)
 rw[if_neg (by simp)]
 refine wpAny_bind (hr _ _ _ ?_)
 cases r with
 | none=>
  dsimp only
  refine wpAny_bind (wpAny_setField hit rfl (by simp) ?_)
  exact je (A:=A) (show A.in1.handled=none from hh) fun h' k=>h2 h' rfl fun b o hb e=>k b o ((Heap.get?_update_other _ _ (Ne.symm hb)).trans e)
 | some q=>
  obtain⟨x,nx⟩:=q
  dsimp only
  refine wpAny_bind (wpAny_setField_rec hit (by simp) fun ha ea sa=>?_)
  refine wpAny_bind (wpAny_setField_rec ea (by simp) fun hb eb sb=>wpAny_pure ⟨x,rfl,wpAny_pure (h1 x nx hb rfl ?_ (sa.trans sb))⟩)
  have e:((i+1:Nat):Int)=(i:Int)+1:=by omega
  unfold gD
  rw[e]
  simpa [rawInt]using eb
theorem eI {Q:Option Value->Shared->Prop} {T:Addr} {ps:List Nat} {m:Nat} (hh:A.handled=none) (hit:gD s.heap I (.ref T) i S es.size ep) (hT2:s.heap.get? T=some {cls:= .type "tuple",data:= .seq (ps.map fun(p:Nat)=>rawInt p).toArray m})
  (ho:s.heap.get? S=some o) (hs:SetIn w o es ep t ks) (hp:∀p∈ps,p<es.size)
  (h1:∀p h',ps[i]?=some p->gD h' I (.ref T) (i+1) S es.size ep->Heap.SameBut I s.heap h'->Q (es[p]?.map (·.2)) {s with heap:=h'})
  (h2:∀h',ps[i]?=none->(∀b o,b≠I->s.heap.get? b=some o->h'.get? b=some o)->Q none {s with heap:=h'}):wpAny (model P w) A (pyNext (.ref I)) Q E s:=by
 have hT:s.TypeIs (.ref I) "set_iterator":=⟨_,hit,rfl⟩
 unfold pyNext
 refine wpAny_bind (wpAny_attempt (wpAny_callSpecial?_slot (name:=Str.ofString "__next__") hT bc (wpAny_call_entry bc hT eG ?_ (fC _))))
 unfold Builtin.«set_iterator.__next__»
 refine wpAny_bind (wpAny_pure ?_)
 refine wpAny_bind (wpAny_fieldsOf hit rfl ?_)
 dsimp only
 refine wpAny_bind (wpAny_setEntries_of ho hs.da hs.ft ?_)
 rw[if_neg (by simp)]
 refine wpAny_bind (wpAny_seqItems hT2 rfl ?_)
 dsimp only
 have eq:(ps.map fun(p:Nat)=>rawInt p).toArray[(i:Int).toNat]?=(ps[i]?).map fun(p:Nat)=>rawInt p:=by
  rw[yi,List.getElem?_toArray,xR]
 rw[eq]
 cases hpi:ps[i]? with
 | none=>
  dsimp only[Option.map_none]
  refine wpAny_bind (wpAny_setField_rec hit (by simp) fun ha ea sa=>?_)
  refine wpAny_bind (wpAny_setField ea rfl (by simp) ?_)
  refine je (A:=A) (show A.in1.handled=none from hh) fun h' k=>h2 h' hpi fun b o hb e=>k b o ?_
  exact(Heap.get?_update_other _ _ (Ne.symm hb)).trans ((sa.2 b hb).trans e)
 | some p=>
  have hlt:p<es.size:=hp p (xT hpi)
  have key:=h1 p
  rw[yq hlt]at key
  dsimp only[Option.map_some,rawInt]
  unfold setNextDrawn
  refine wpAny_bind (wpAny_bind (wpAny_setState_of ho hs.da hs.ft ?_))
  dsimp only
  rw[if_neg (by simp),yi,yq hlt]
  refine wpAny_pure ?_
  refine wpAny_bind (wpAny_setField_rec hit (by simp) fun ha ea sa=>wpAny_pure ⟨_,rfl,wpAny_pure (key ha hpi ?_ sa)⟩)
  have e:((i+1:Nat):Int)=(i:Int)+1:=by omega
  unfold gD
  rw[e]
  simpa [rawInt]using ea
end
section
variable {P:Program} {w:World} {A:Around} {E:Value->Shared->Prop} {s:Shared} {I S:Addr} {ks:List Int} {o:Obj} {es:Array (Int×Value)} {ep i:Nat} {t:SetTable}
def SetAt (w:World) (S:Addr) (es:Array (Int×Value)) (ep:Nat) (t:SetTable) (ks:List Int) (h:Heap):Prop:=∃o,h.get? S=some o/\SetIn w o es ep t ks
theorem SetAt.at {h h':Heap} (x:SetAt w S es ep t ks h) (k:∀o,h.get? S=some o->h'.get? S=some o):SetAt w S es ep t ks h':=let⟨o,e,r⟩:=x;⟨o,k o e,r⟩
abbrev wb (vs:List Int):Nat->Value->Prop:=fun i v=>∃t,v= .int (vs.getD i 0) t
theorem mY {l:List (Int×Value)} {vs:List Int} (h:Ents l vs) {i:Nat} {e:Int×Value} (hi:l[i]?=some e):∃tk,e.2=Value.int (vs.getD i 0) tk:=by
 have hl:i<vs.length:=by rw[<- h.len];exact(xP.mp hi).1
 obtain⟨a,ha,q⟩:=bW h (xK hl)
 rw[hi]at ha
 cases ha
 obtain⟨tk,q⟩:=q
 exact⟨tk,by rw[q];simp[hl]⟩
theorem ig (hh:A.handled=none) (hne:S≠I) (ord:List (Int×Value)) (vs:List Int) (f:Nat->Nat) (hv:Ents ord vs) (hl:ord.length=es.size)
  (hr:∀(i:Nat) (s:Shared),i<=es.size->SetAt w S es ep t ks s.heap->∀(A':Around) (E':Value->Shared->Prop) (R:Option (Value×Nat)->Shared->Prop),R ((ord[i]?).map fun e=>(e.2,f (i+1))) s->wpAny (model P w) A' (setNext S (f i) i ep) R E' s):
  Walks P w A I [I,S] [I] es.size (wb vs) (fun i h=>gD h I (.int (f i) 0) i S es.size ep/\SetAt w S es ep t ks h) where
 sub:=fun b hb=>by simp at hb;simp[hb]
 frame:=fun i h h' st k=>⟨k I (by simp) _ st.1,st.2.at fun o e=>k S (by simp) o e⟩
 item:=fun i s Q E hi st hQ=>by
  obtain⟨o,ho,hs⟩:=id st.2
  obtain⟨e,he⟩:∃e,ord[i]?=some e:=⟨_,xK (by omega)⟩
  refine mX hh st.1 ho hs _ (hr i s (by omega) st.2) (fun x nx h' e2 it' sb=>?_) fun h' e2 _=>by rw[he]at e2;cases e2
  rw[he]at e2
  have e3:=Option.some.inj e2
  have hx:e.2=x:=congrArg Prod.fst e3
  have hn:f (i+1)=nx:=congrArg Prod.snd e3
  subst hx hn
  exact hQ _ h' s.toks (mY hv he) ⟨it',st.2.at fun o e=>(sb.2 S hne).trans e⟩ fun b o hb e=>(sb.2 b (by simpa using hb)).trans e
 done:=fun s Q E st hQ=>by
  obtain⟨o,ho,hs⟩:=id st.2
  have he:ord[es.size]?=none:=yz (by omega)
  refine mX hh st.1 ho hs _ (hr _ s (xQ _) st.2) (fun x nx h' e2 it' sb=>by rw[he]at e2;cases e2) fun h' _ k=>?_
  exact hQ h' s.toks fun b o hb e=>k b o (by simpa using hb) e
 self:=fun i s Q E st h=>mW st.1 h
theorem uh {n:Nat} (h:n<=5000):n<=sizeLine:=yd h (yB (oS (n:=5000) (by omega)))
theorem ui (ps:List Nat) (hp:∀p∈ps,p<es.size):ps.filterMap (es[·]?)=ps.map fun q=>es.getD q (0,.none):=by
 induction ps with
 | nil=>rfl
 | cons q r ih=>
  have hq:=hp q (by simp)
  rw[yK,yq hq]
  dsimp only
  rw[ih (fun x hx=>hp x (x8 _ hx)),yF]
  simp[hq]
theorem kJ {T:Addr} (hh:A.handled=none) (hne:S≠I) (hT:T≠I) (ps:List Nat) (vs:List Int) (hv:Ents (ps.filterMap (es[·]?)) vs) (hp:∀p∈ps,p<es.size) (hl:ps.length=es.size):
  Walks P w A I [I,S,T] [I] es.size (wb vs) (fun i h=>gD h I (.ref T) i S es.size ep/\SetAt w S es ep t ks h/\h.get? T=some {cls:= .type "tuple",data:= .seq (ps.map fun(p:Nat)=>rawInt p).toArray}) where
 sub:=fun b hb=>by simp at hb;simp[hb]
 frame:=fun i h h' st k=>⟨k I (by simp) _ st.1,st.2.1.at fun o e=>k S (by simp) o e,k T (by simp) _ st.2.2⟩
 item:=fun i s Q E hi st hQ=>by
  obtain⟨o,ho,hs⟩:=id st.2.1
  refine eI hh st.1 st.2.2 ho hs hp (fun p h' e2 it' sb=>?_) fun h' e2 _=>?_
  ·have hlt:=hp p (xT e2)
   rw[yq hlt]
   have e4:(ps.filterMap (es[·]?))[i]?=some es[p]:=by
    have:=ui ps hp
    rw[this,xR,e2]
    simp[hlt]
   exact hQ _ h' s.toks (mY hv e4) ⟨it',st.2.1.at fun o e=>(sb.2 S hne).trans e,(sb.2 T hT).trans st.2.2⟩ fun b o hb e=>(sb.2 b (by simpa using hb)).trans e
  ·rw [xK (by omega)]at e2
   cases e2
 done:=fun s Q E st hQ=>by
  obtain⟨o,ho,hs⟩:=id st.2.1
  refine eI hh st.1 st.2.2 ho hs hp (fun p h' e2 it' sb=>?_) fun h' _ k=>?_
  ·rw [yz (by omega)]at e2
   cases e2
  ·exact hQ h' s.toks fun b o hb e=>k b o (by simpa using hb) e
 self:=fun i s Q E st h=>mW st.1 h
theorem lX {l:List Nat} (h:l.length<=1):ib l:=by
 match l,h with
 | [],_=>exact .nil
 | [x],_=>exact zi _ _
def fX (t:SetTable):Nat->Nat
 | 0=>0
 | i+1=>t.place.getD i 0+1
theorem pU {t:SetTable} (r:ib t.place.toList) {i:Nat} (hi:i<=t.place.size):SetTable.below t.place (fX t i)=i:=by
 refine(ja r _).unique ⟨hi,fun k hk hlt=>?_,fun k hk hge=>?_⟩
 ·cases i with
  | zero=>omega
  | succ i=>
   have hi':i<t.place.size:=by omega
   have e:t.place.getD i 0=t.place[i]:=by simp[hi']
   show t.place[k]<t.place.getD i 0+1
   rw[e]
   by_cases z:k=i
   ·subst z;omega
   ·have:=fB r hk hi' (by omega)
    omega
 ·cases i with
  | zero=>exact yx _
  | succ i=>
   have hi':i<t.place.size:=by omega
   have e:t.place.getD i 0=t.place[i]:=by simp[hi']
   show t.place.getD i 0+1<=t.place[k]
   rw[e]
   exact fB r hi' hk (by omega)
theorem fY (h:t.fits es.size=true):t.place.size=es.size:=by
 simp only[SetTable.fits,yw,beq_iff_eq,decide_eq_true_eq]at h
 exact h.1
theorem fE {Q:Array (Int×Value)->Shared->Prop} (bt:bw w=true) (ho:s.heap.get? S=some o) (hs:SetIn w o es ep t ks) (h:Q (pickOrder (w.params.setOrder S ep) es) s):wpAny (model P w) A (setWalk S) Q E s:=by
 unfold setWalk setsByText
 refine wpAny_bind (wpAny_setState_of ho hs.da hs.ft ?_)
 dsimp only
 refine wpAny_bind (wpAny_bind (wpAny_askSetting (wpAny_pure ?_)))
 have bt':(model P w).w.params.followText "set-order"=true:=bt
 rw[bt',if_pos rfl]
 exact wpAny_bind (wpAny_askSetting (wpAny_pure h))
theorem nZ {slot:Nat} {Q:Option (Value×Nat)->Shared->Prop} (bt:bw w=true) (ho:s.heap.get? S=some o) (hs:SetIn w o es ep t ks)
  (h:Q (((pickOrder (w.params.setOrder S ep) es).toList[i]?).map fun e=>(e.2,slot)) s):wpAny (model P w) A (setNext S slot i ep) Q E s:=by
 unfold setNext
 refine wpAny_bind (wpAny_setState_of ho hs.da hs.ft ?_)
 dsimp only
 refine wpAny_bind ?_
 unfold setsByText
 refine wpAny_bind (wpAny_askSetting (wpAny_pure ?_))
 have bt':(model P w).w.params.followText "set-order"=true:=bt
 rw[bt',if_pos rfl,if_neg (by simp)]
 refine wpAny_bind (fE bt ho hs (wpAny_pure ?_))
 rw[<- yV]
 exact h
theorem lY {Q:Option (Value×Nat)->Shared->Prop} (bt:bw w=false) (ho:s.heap.get? S=some o) (hs:SetIn w o es ep t ks) (hd:(!t.plain&&decide (es.size>1))=false) (hi:i<=es.size)
  (h:Q ((es.toList[i]?).map fun e=>(e.2,fX t (i+1))) s):wpAny (model P w) A (setNext S (fX t i) i ep) Q E s:=by
 have zs:=fY hs.ft
 have r:ib t.place.toList:=by
  by_cases hp:t.plain=true
  ·exact hs.tb.rise hp
  ·refine lX ?_
   have:t.plain=false:=by simpa using hp
   rw[this]at hd
   simp at hd
   rw[xS,zs];exact hd
 have ld:t.led=true:=by rw[hs.tb.led,bt];rfl
 unfold setNext
 refine wpAny_bind (wpAny_setState_of ho hs.da hs.ft ?_)
 dsimp only
 refine wpAny_bind ?_
 unfold setsByText
 refine wpAny_bind (wpAny_askSetting (wpAny_pure ?_))
 have bt':(model P w).w.params.followText "set-order"=false:=bt
 rw[bt',if_neg xW]
 show wpAny _ _ (if(!t.plain&&decide (es.size>1))=true then _ else _) _ _ _
 rw[hd,if_neg xW]
 show wpAny _ _ ((if(!t.led&& !es.isEmpty)=true then unsupported "set:maker-not-led" else pure ()) >>= fun _=>pure _) _ _ _
 rw[ld]
 refine wpAny_bind (wpAny_pure (wpAny_pure ?_))
 rw[pU r (by omega)]
 by_cases hlt:i<es.size
 ·have hp:i<t.place.size:=by omega
  rw[yq hlt,yq hp]
  rw[yV,yq hlt]at h
  have e:fX t (i+1)=t.place[i]+1:=by
   show t.place.getD i 0+1=_
   simp[hp]
  rw[e]at h
  exact h
 ·rw [Array.getElem?_eq_none (by omega)]
  rw[yV,Array.getElem?_eq_none (by omega)]at h
  exact h
theorem pV {Q:Value->Shared->Prop} (hS:SetAt w S es ep t ks s.heap)
  (h:∀(I:Addr) (fp:List Addr) (vs:List Int) (St:Nat->Heap->Prop) (s':Shared),vs.Perm ks->(∀A':Around,A'.handled=none->Walks P w A' I fp [I] es.size (wb vs) St)->St 0 s'.heap->(∀b∈fp,b<s'.heap.objs.size/\(b=S\/s.heap.objs.size<=b))->s.heap.objs.size<=I->
   (∀b o,s.heap.get? b=some o->s'.heap.get? b=some o)->s'.os=s.os->s'.gens=s.gens->Q (.ref I) s'):wpAny (model P w) A (pyIter (.ref S)) Q E s:=by
 obtain⟨o,ho,hs⟩:=id hS
 have hT:s.TypeIs (.ref S) "set":=⟨o,ho,hs.ex.1⟩
 have hSl:S<s.heap.objs.size:=Heap.lt_size ho
 refine wpAny_pyIter_slot hT F.slot_set_iter (wpAny_call_entry F.slot_set_iter hT ic ?_ (F.args_set_iter_1 _))
 unfold Builtin.«frozenset.__iter__»
 refine wpAny_bind (wpAny_bind (wpAny_pure (wpAny_pure ?_)))
 unfold Builtin.Frozenset.sizeOf
 refine wpAny_bind (wpAny_bind (wpAny_setEntries_of ho hs.da hs.ft (wpAny_pure ?_)))
 refine wpAny_bind (wpAny_bind (wpAny_setState_of ho hs.da hs.ft ?_))
 dsimp only
 unfold setsByText
 refine wpAny_bind (wpAny_bind (wpAny_askSetting (wpAny_pure (wpAny_pure ?_))))
 show wpAny _ _ (if(!bw w&&(!t.plain&&decide (es.size>1)))=true then(drawOrder es.size (xO es.size) >>= fun l=>newTuple (l.map fun(i:Nat)=>rawInt i) >>= fun first=>_)else(pure (rawInt 0) >>= fun first=>_)) _ _ _
 cases bt:bw w with
 | true=>
  simp only[Bool.not_true,yg,yr,if_false]
  refine wpAny_bind (wpAny_pure ?_)
  refine wpAny_bind (wpAny_setEpoch_of ho hs.da hs.ft ?_)
  refine wpAny_bind (wpAny_newObj_type (wpAny_pure ⟨_,rfl,"set_iterator",_,⟨_,Heap.get?_push_size _ rfl,rfl⟩,bc.lookup,?_⟩))
  obtain⟨vs,hv,hp⟩:=Ents.perm (fW (w.params.setOrder S ep) es) hs.en
  refine h s.heap.objs.size [s.heap.objs.size,S] vs (fun i h=>gD h s.heap.objs.size (.int 0 0) i S es.size ep/\SetAt w S es ep t ks h) _ hp (fun A' hA'=>ig (f:=fun _=>0) hA' (x5 hSl) _ vs hv ?_ (fun i s' hi st A2 E2 R hR=>?_))
   ⟨Heap.get?_push_size _ rfl,hS.at fun o e=>Heap.get?_push_of_some _ e⟩ (fun b hb=>?_) (xQ _) (fun b o e=>Heap.get?_push_of_some _ e) rfl rfl
  ·have:=(fW (w.params.setOrder S ep) es).length_eq
   rw[this,xS]
  ·obtain⟨o',ho',hs'⟩:=st
   exact nZ bt ho' hs' hR
  ·rw [Heap.size_push]
   simp only[xY,yD,or_false]at hb
   rcases hb with e | e
   ·rw [e];exact⟨yT _,.inr (xQ _)⟩
   ·rw [e];exact⟨yJ hSl,.inl rfl⟩
 | false=>
  simp only[Bool.not_false,Bool.true_and]
  cases hd:(!t.plain&&decide (es.size>1))with
  | false=>
   simp only[yr,if_false]
   refine wpAny_bind (wpAny_pure ?_)
   refine wpAny_bind (wpAny_setEpoch_of ho hs.da hs.ft ?_)
   refine wpAny_bind (wpAny_newObj_type (wpAny_pure ⟨_,rfl,"set_iterator",_,⟨_,Heap.get?_push_size _ rfl,rfl⟩,bc.lookup,?_⟩))
   refine h s.heap.objs.size [s.heap.objs.size,S] ks (fun i h=>gD h s.heap.objs.size (.int (fX t i) 0) i S es.size ep/\SetAt w S es ep t ks h) _ (.refl _) (fun A' hA'=>ig (f:=fX t) hA' (x5 hSl) es.toList ks hs.en (by simp) (fun i s' hi st A2 E2 R hR=>?_))
    ⟨Heap.get?_push_size _ rfl,hS.at fun o e=>Heap.get?_push_of_some _ e⟩ (fun b hb=>?_) (xQ _) (fun b o e=>Heap.get?_push_of_some _ e) rfl rfl
   ·obtain⟨o',ho',hs'⟩:=st
    exact lY bt ho' hs' hd hi hR
   ·rw [Heap.size_push]
    simp only[xY,yD,or_false]at hb
    rcases hb with e | e
    ·rw [e];exact⟨yT _,.inr (xQ _)⟩
    ·rw [e];exact⟨yJ hSl,.inl rfl⟩
  | true=>
   simp only[if_true]
   refine wpAny_bind (lW es.size (xO es.size) s _ (by simp) fun ps d hp=>?_)
   have hlen:ps.length=es.size:=by rw[hp.length_eq,yp]
   have zb:=hs.bound
   have eb:scanBound=4096:=rfl
   refine wpAny_bind (wpAny_newTuple ?_ (by rw[xM,hlen];exact uh (by omega)))
   refine wpAny_bind (wpAny_setEpoch_of (Heap.get?_push_of_some _ ho) hs.da hs.ft ?_)
   refine wpAny_bind (wpAny_newObj_type (wpAny_pure ⟨_,rfl,"set_iterator",_,⟨_,Heap.get?_push_size _ rfl,rfl⟩,bc.lookup,?_⟩))
   have hpl:∀p∈ps,p<es.size:=fun p m=>yf.mp (hp.mem_iff.mp m)
   have pe:(ps.filterMap (es[·]?)).Perm es.toList:=by
    have:=hp.filterMap (es[·]?)
    rw[filterMap_getElem?_range]at this
    exact this
   obtain⟨vs,hv,hq⟩:=Ents.perm pe hs.en
   have sz1:∀ob:Obj,(s.heap.push ob).objs.size=s.heap.objs.size+1:=fun ob=>Heap.size_push _ _
   have key:=h (s.heap.objs.size+1) [s.heap.objs.size+1,S,s.heap.objs.size] vs (fun i h=>gD h (s.heap.objs.size+1) (.ref s.heap.objs.size) i S es.size ep/\SetAt w S es ep t ks h/\h.get? s.heap.objs.size=some {cls:= .type "tuple",data:= .seq (ps.map fun(p:Nat)=>rawInt p).toArray})
    {s with heap:=(s.heap.push {cls:= .type "tuple",data:= .seq (ps.map fun(p:Nat)=>rawInt p).toArray}).push {cls:= .type "set_iterator",data:= .fields #[.ref s.heap.objs.size,.int 0 0,.ref S,.int es.size 0,.int ep 0]},drawn:=d} hq (fun A' hA'=>kJ (t:=t) (ep:=ep) (ks:=ks) (T:=s.heap.objs.size) hA' (x5 (yJ hSl)) (x5 (yT _)) ps vs hv hpl hlen)
    ⟨?it,hS.at fun o e=>Heap.get?_push_of_some _ (Heap.get?_push_of_some _ e),Heap.get?_push_of_some _ (Heap.get?_push_size _ rfl)⟩ (fun b hb=>?fp) (Nat.le_succ _) (fun b o e=>Heap.get?_push_of_some _ (Heap.get?_push_of_some _ e)) rfl rfl
   case it=>
    have:=Heap.get?_push_size (s.heap.push {cls:= .type "tuple",data:= .seq (ps.map fun(p:Nat)=>rawInt p).toArray}) (o:={cls:= .type "set_iterator",data:= .fields #[.ref s.heap.objs.size,.int 0 0,.ref S,.int es.size 0,.int ep 0]}) rfl
    rw[sz1]at this
    exact this
   case fp=>
    show b<((s.heap.push _).push _).objs.size/\_
    rw[Heap.size_push,Heap.size_push]
    simp only[xY,yD,or_false]at hb
    rcases hb with e | e | e
    ·rw [e];exact⟨yT _,.inr (Nat.le_succ _)⟩
    ·rw [e];exact⟨yJ (yJ hSl),.inl rfl⟩
    ·rw [e];exact⟨yJ (yT _),.inr (xQ _)⟩
   rw[<- sz1 {cls:= .type "tuple",data:= .seq (ps.map fun(p:Nat)=>rawInt p).toArray}]at key
   exact key
end
section
variable {P:Program} {w:World} {A:Around} {E:Value->Shared->Prop} {s:Shared} {S:Addr} {ks ms:List Int} {o:Obj} {es:Array (Int×Value)} {ep i:Nat} {t:SetTable}
theorem pW {Q:Bool->Shared->Prop} (hT:s.TypeIs (.ref S) "set") (h:Q false s):wpAny (model P w) A (Builtin.List.listLengthHint (.ref S)) Q E s:=by
 unfold Builtin.List.listLengthHint
 refine wpAny_bind (wpAny_specialOf hT PySem.F.slot_set_len.lookup ?_)
 generalize hid:("set.__len__":String)=id0
 wp_delta
 rw[show splitId id0=some ("set","__len__")from by subst hid;decide +kernel]
 subst hid
 refine wpAny_bind (wpAny_isInstance (T:="set") (b:=true) hT (by rw[isSubtype_type];kernel_rfl) ?_)
 refine wpAny_ite_split (fun hab=>absurd hab (by decide)) (fun _=>?_)
 refine wpAny_ite_split (fun _=>?_) (fun hab=>absurd (by decide +kernel) hab)
 exact wpAny_bind (wpAny_typeOf hT (wpAny_pure h))
theorem lZ {vs:List Int} {acc:Array Value} {n:Nat} (h:ItemsOf (wb vs) acc n) (hn:vs.length=n):IntsAre acc.toList vs:=by
 have all:∀(l:List Value) (vs:List Int),l.length=vs.length->(∀(j:Nat) v,l[j]?=some v->∃t,v=Value.int (vs.getD j 0) t)->IntsAre l vs:=by
  intro l
  induction l with
  | nil=>
   intro vs hl _
   have:vs=[]:=yj.mp (by simpa using hl.symm)
   subst this
   exact .nil
  | cons x r ih=>
   intro vs hl hv
   cases vs with
   | nil=>simp at hl
   | cons v vs=>
    obtain⟨t,e⟩:=hv 0 x rfl
    have e:x=Value.int v t:=e
    subst e
    exact .cons v t (ih vs (by simpa using hl) fun j y hj=>hv (j+1) y (by simpa using hj))
 exact all acc.toList vs (by rw[xS,h.1,hn]) fun j v hj=>h.2 j v (by rw[<- yV];exact hj)
theorem kK {Q:List Value->Shared->Prop} (hh:A.handled=none) (hS:SetAt w S es ep t ks s.heap)
  (h:∀(vs:List Int) (l:List Value) (s':Shared),vs.Perm ks->IntsAre l vs->(∀b o,s.heap.get? b=some o->s'.heap.get? b=some o)->s'.os=s.os->s'.gens=s.gens->s.heap.objs.size<=s'.heap.objs.size->Q l s'):wpAny (model P w) A (collect (.ref S)) Q E s:=by
 obtain⟨o,ho,hs⟩:=id hS
 have hSl:S<s.heap.objs.size:=Heap.lt_size ho
 have hne:s.heap.objs.size≠S:=zc hSl
 unfold collect
 refine wpAny_bind (wpAny_runValue (codeAny_builtin PySem.F.entry_proto_collect ?_))
 rw[Around.under_plainId PySem.F.plain_proto_collect _]
 show wpAny _ A.in1 (newList [] >>= fun l=>again (.builtin "list.__iadd__" ⟨[l,.ref S],[]⟩)) _ _ s
 refine wpAny_bind (wpAny_newObj_type ?_)
 refine wpAny_pure ⟨plainId_quiet PySem.F.plain_list_iadd _,codeAny_builtin PySem.F.entry_list_iadd ?_⟩
 rw[Around.under_plainId PySem.F.plain_list_iadd _]
 generalize hs1:({s with heap:=s.heap.push {cls:= .type "list",data:= .seq ([]:List Value).toArray}}:Shared)=s1
 have e1:s1.heap=s.heap.push {cls:= .type "list",data:= .seq ([]:List Value).toArray}:=by rw[<- hs1]
 have k1:∀b o,s.heap.get? b=some o->s1.heap.get? b=some o:=fun b o e=>by rw[e1];exact Heap.get?_push_of_some _ e
 have hL1:s1.heap.get? s.heap.objs.size=some {cls:= .type "list",data:= .seq ([]:List Value).toArray}:=by rw[e1];exact Heap.get?_push_size _ rfl
 have hS1:SetAt w S es ep t ks s1.heap:=hS.at (k1 S)
 have hT:∀s2:Shared,(∀b o,s1.heap.get? b=some o->s2.heap.get? b=some o)->s2.TypeIs (.ref S) "set":=fun s2 k=>⟨o,k _ _ (k1 _ _ ho),hs.ex.1⟩
 show wpAny _ A.in1 (Builtin.List.listExtendWith (.ref s.heap.objs.size) (.ref S) (.ref s.heap.objs.size)) _ _ _
 unfold Builtin.List.listExtendWith
 refine wpAny_bind (wpAny_typeOf (hT s1 fun _ _ e=>e) ?_)
 have g1:Builtin.List.listSameRef (.ref s.heap.objs.size) (.ref S)=false:=by simp[Builtin.List.listSameRef,hne]
 have g2:(Value.type "set"==Value.type "list")=false:=by decide
 have g3:(Value.type "set"==Value.type "tuple")=false:=by decide
 simp only[g1,g2,g3,Bool.or_false,yr,if_false]
 refine wpAny_bind (pV hS1 fun I fp vs St s2 hp W st hfp hI k2 os2 gs2=>?_)
 refine wpAny_bind (wpAny_holding (pW (hT s2 k2) ?_))
 show wpAny _ A.in1 (rule "list.extend.makes-room" >>= fun _=>Builtin.List.listTouch (.ref s.heap.objs.size) >>= fun _=>
  again (.builtin "list.extend.loop" ⟨[.ref s.heap.objs.size,.ref I,.ref s.heap.objs.size],[]⟩)) _ _ _
 refine wpAny_bind (wpAny_rule (wpAny_bind ?_))
 have hL2:=k2 _ _ hL1
 have lt1:s.heap.objs.size<s1.heap.objs.size:=by rw[e1,Heap.size_push];exact yT _
 show wpAny _ A.in1 (updateSeq s.heap.objs.size (·.push .none) >>= fun _=>updateSeq s.heap.objs.size (·.pop)) _ _ _
 refine wpAny_bind (wpAny_updateSeq hL2 rfl ?_)
 have hL3:=Heap.get?_update_self (Obj.mapSeq (·.push Value.none)) hL2 rfl
 refine wpAny_updateSeq hL3 rfl ?_
 have hL4:=Heap.get?_update_self (Obj.mapSeq (·.pop)) hL3 rfl
 have W1:=W A.in1 (show A.handled=none from hh)
 have hSf:s.heap.objs.size∉fp:=fun m=>by
  rcases(hfp _ m).2 with z | z
  ·exact hne z
  ·exact absurd lt1 (zK.mpr z)
 have zb:=hs.bound
 have eb:scanBound=4096:=rfl
 have oth:∀b o,b≠s.heap.objs.size->s2.heap.get? b=some o->((s2.heap.update s.heap.objs.size (Obj.mapSeq (·.push Value.none))).update s.heap.objs.size (Obj.mapSeq (·.pop))).get? b=some o:=
  fun b o hb e=>(Heap.get?_update_other _ _ (Ne.symm hb)).trans ((Heap.get?_update_other _ _ (Ne.symm hb)).trans e)
 refine wpAny_pure ⟨plainId_quiet PySem.F.plain_extend_loop _,codeAny_extend_loopS W1.toS (uh (by omega)) _ hSf _ es.size 0 _ _ _ rfl (yx _) (W1.frame 0 _ _ st fun b hb o e=>oth b o (fun z=>hSf (z▸hb)) e) hL4 (ItemsOf.nil _) fun s3 acc c hm hL5 hacc=>?_⟩
 show wpAny _ A (load s.heap.objs.size >>= _) _ _ s3
 refine wpAny_bind (wpAny_load hL5 ?_)
 refine wpAny_pure (h vs acc.toList s3 hp (lZ hacc (by rw[hp.length_eq,hs.size])) (fun b o e=>?_) ?_ ?_ (yB (Heap.lt_size hL5)))
 ·have hb:b≠s.heap.objs.size:=x5 (Heap.lt_size e)
  have e2:=k2 _ _ (k1 _ _ e)
  refine hm.heap b o (fun m=>?_) (oth b o hb e2)
  rcases xY.mp m with z | z
  ·exact hb z
  ·have z:b=I:=xX.mp z
   exact absurd (Heap.lt_size (k1 _ _ e)) (by rw[z];exact zK.mpr hI)
 ·have e2:s3.os=s2.os:=hm.os
  rw[e2,os2,<- hs1]
 ·have e2:s3.gens=s2.gens:=hm.gens
  rw[e2,gs2,<- hs1]
end
section
variable {P:Program} {w:World} {A:Around} {E:Value->Shared->Prop} {s:Shared} {S:Addr} {ks ms:List Int} {o:Obj} {es:Array (Int×Value)} {ep i:Nat} {t:SetTable}
theorem iK {Q:Value->Shared->Prop} (hh:A.handled=none) (hS:SetAt w S es ep t ks s.heap) (h64:ks.length<64)
  (h:∀(L:Addr) (out:Array Value) (ns:List Int) (e:Nat) (s':Shared),IntsAre out.toList ns->ns.Perm ks->ns.Pairwise (· <= ·)->s'.heap.get? L=some (seqObj "list" out e)->s.heap.objs.size<=L->(∀b o,s.heap.get? b=some o->s'.heap.get? b=some o)->s'.os=s.os->s'.gens=s.gens->Q (.ref L) s'):
  wpAny (model P w) A (call (.builtin "sorted") [.ref S]) Q E s:=by
 refine Calls.call_function_entry kind_sorted plain_sorted entry_sorted (args_sorted1 _) ?_
 unfold Builtin.«sorted»
 refine wpAny_bind (m:=checkCount "sorted" 1 1 _) (wpAny_pure ?_)
 refine wpAny_bind (kK (show A.in1.handled=none from hh) hS fun vs l s1 hp hI k1 os1 gs1 le1=>?_)
 have hl:l.length=vs.length:=IntsAre.length hI
 have hv:vs.length=ks.length:=hp.length_eq
 refine wpAny_bind (wpAny_newList ?_ (uh (by omega)))
 have hoL:(s1.heap.push (seqObj "list" l.toArray 0)).get? s1.heap.objs.size=some (seqObj "list" l.toArray 0):=Heap.get?_push_size _ rfl
 refine wpAny_bind (wpAny_holding (wpAny_call_entry slot_list_sort ⟨_,hoL,rfl⟩ entry_list_sort (list_sort_tree (ns:=vs) hoL hI (by omega) fun out ns' a1 a2 a3=>⟨_,rfl,?_⟩) (args_list_sort _)))
 refine wpAny_pure ⟨_,rfl,?_⟩
 obtain⟨e,he⟩:=sortedHeap_at (out:=out) hoL
 have kp:∀b o,s.heap.get? b=some o->(sortedHeap (s1.heap.push (seqObj "list" l.toArray 0)) s1.heap.objs.size l out).get? b=some o:=fun b o eb=>by
  have e1:=k1 b o eb
  have lt:=Heap.lt_size e1
  rw[sortedHeap_old (x5 lt) (by rw[Heap.size_push];exact yJ lt)]
  exact Heap.get?_push_of_some _ e1
 exact h s1.heap.objs.size out ns' e {s1 with heap:=sortedHeap (s1.heap.push (seqObj "list" l.toArray 0)) s1.heap.objs.size l out} a1 (a2.trans hp) a3 he le1 kp os1 gs1
theorem l4 {Q:Value->Shared->Prop} (hS:SetAt w S es ep t ks s.heap) (h:∀tk n,Q (.int ks.length tk) {s with toks:=n}):wpAny (model P w) A (call (.builtin "len") [.ref S]) Q E s:=by
 obtain⟨o,ho,hs⟩:=hS
 have zb:=hs.bound
 have eb:scanBound=4096:=rfl
 have e:=hs.size
 refine call_len_set ho hs.ex hs.da hs.ft (by omega) ?_
 rw[e]
 exact h _ _
def bF (acc:List Int) (x:Int):List Int:=if x∈acc then acc else acc++[x]
def dd (ns:List Int):List Int:=ns.foldl bF []
theorem jH (ns:List Int) (x:Int):dd (ns++[x])=bF (dd ns) x:=by unfold dd;rw[List.foldl_append];rfl
theorem jf {acc:List Int} {x y:Int}:y∈bF acc x<->y∈acc\/y=x:=by
 unfold bF
 split
 ·rename_i h
  exact⟨.inl,fun z=>z.elim id fun e=>e▸h⟩
 ·simp
theorem ij:∀(ns acc:List Int) (y:Int),y∈ns.foldl bF acc<->y∈acc\/y∈ns
 | [],acc,y=>by simp
 | x :: r,acc,y=>by
  rw[zI,ij r,jf,xY,or_assoc]
theorem br {ns:List Int} {y:Int}:y∈dd ns<->y∈ns:=by unfold dd;rw[ij];simp
theorem jI:∀(ns acc:List Int),acc.Nodup->(ns.foldl bF acc).Nodup
 | [],acc,h=>h
 | x :: r,acc,h=>by
  rw[zI]
  refine jI r _ ?_
  unfold bF
  split
  ·exact h
  ·rename_i hx;exact gJ h hx
theorem jg (ns:List Int):(dd ns).Nodup:=jI ns [] zz
theorem bZ (ns:List Int):(dd ns).length<=ns.length:=(jg ns).length_le_of_subset fun _ h=>br.mp h
theorem l5 {x:Int} {tk:Tok} {Q:Bool->Shared->Prop} (hS:SX w S ms s.heap) (hl:ms.length+1<4000)
  (h:∀b h',Heap.SameBut S s.heap h'->SX w S (bF ms x) h'->Q b {s with heap:=h'}):wpAny (model P w) A (setAddHashed S (.int x tk) (hashInt x)) Q E s:=by
 obtain⟨o,es,ep,t,ks,ho,hs,hp⟩:=hS
 refine ug ho hs (by rw[hp.length_eq];exact hl) (fun hx=>?_) fun hx h' sb sx=>?_
 ·have e:bF ms x=ms:=if_pos (hp.mem_iff.mp hx)
  have:=h false s.heap (Heap.SameBut.refl _ _) (by rw[e];exact⟨o,es,ep,t,ks,ho,hs,hp⟩)
  exact this
 ·have e:bF ms x=ms++[x]:=if_neg fun z=>hx (hp.mem_iff.mpr z)
  exact h true h' sb (by rw[e];exact sx.perm (hp.append_right _))
theorem pX {I l:Addr} {items:Array Value} {ns:List Int} {R:Result->Shared->Prop} (hh:A.handled=none) (hne:l≠I) (hSI:S≠I) (hSl:S≠l) (hi:IntsAre items.toList ns) (hb:ns.length+1<4000):
  ∀(k i:Nat) (s:Shared),items.size-i=k->i<=items.size->s.heap.IsListIter I l i->s.heap.IsList l items->SX w S (dd (ns.take i)) s.heap->
   (∀s',(∀b o,b≠S->b≠I->s.heap.get? b=some o->s'.heap.get? b=some o)->s'.os=s.os->s'.gens=s.gens->s'.drawn=s.drawn->SX w S (dd ns) s'.heap->R (.ok (.ret .none)) s')->
   codeAny (model P w) A (.builtin "set.update.loop" ⟨[.ref S,.ref I],[]⟩) R s:=by
 have hsz:items.size=ns.length:=by rw[<- xS];exact IntsAre.length hi
 intro k
 induction k with
 | zero=>
  intro i s hk hil it hl hS hR
  have e:i=items.size:=by omega
  subst e
  refine codeAny_builtin PyProof.Rows.F.entry_set_update_loop ?_
  rw[Around.under_plainId PyProof.Rows.F.plain_set_update_loop _]
  show wpAny _ A.in1 (pyNext (.ref I) >>= _) _ _ s
  refine wpAny_bind (wpAny_pyNext_list_end (show A.in1.handled=none from hh) it hl (by simp) fun h' eb=>?_)
  show wpAny _ A.in1 (ret Value.none) _ _ _
  refine wpAny_pure (hR _ (fun b o _ hb e=>eb b o hb e) rfl rfl rfl ?_)
  rw[yt (by omega)]at hS
  exact hS.at fun o e=>eb S o hSI e
 | succ k ih=>
  intro i s hk hil it hl hS hR
  have hlt:i<items.size:=by omega
  have hin:i<ns.length:=by omega
  obtain⟨tk,hv⟩:=IntsAre.int_at hi i items[i] (by simp[hlt])
  have egd:ns.getD i 0=ns[i]:=by simp[hin]
  rw[egd]at hv
  refine codeAny_builtin PyProof.Rows.F.entry_set_update_loop ?_
  rw[Around.under_plainId PyProof.Rows.F.plain_set_update_loop _]
  show wpAny _ A.in1 (pyNext (.ref I) >>= _) _ _ s
  refine wpAny_bind (wpAny_pyNext_list_item it hl (x:=items[i]) (by simp[hlt]) fun h1 it1 sb1=>?_)
  rw[hv]
  show wpAny _ A.in1 (holding [Value.int ns[i] tk] (setAdd S (.int ns[i] tk)) >>= _) _ _ _
  refine wpAny_bind (wpAny_holding ?_)
  unfold setAdd
  refine wpAny_holding (wpAny_bind ((intKind P w).pyHash (k:=ns[i]) (intKind_is _ _ _ _) ?_))
  have hS1:SX w S (dd (ns.take i)) h1:=hS.at fun o e=>(sb1.2 S hSI).trans e
  have dl:=bZ (ns.take i)
  rw[yu]at dl
  refine l5 (s:={s with heap:=h1,toks:=s.toks+1}) hS1 (by omega) fun b h2 sb2 sx=>?_
  have e2:bF (dd (ns.take i)) ns[i]=dd (ns.take (i+1)):=by rw[List.take_succ_eq_append_getElem hin,jH]
  rw[e2]at sx
  have hl1:h1.IsList l items:=by obtain⟨o,e,r⟩:=hl;exact⟨o,(sb1.2 l hne).trans e,r⟩
  refine wpAny_pure ⟨plainId_quiet PyProof.Rows.F.plain_set_update_loop _,ih (i+1) _ (by omega) hlt ?_ ?_ sx fun s' kp os' gs' ds' sx'=>?_⟩
  ·obtain⟨o,e,r⟩:=it1
   exact⟨o,(sb2.2 I hSI.symm).trans e,r⟩
  ·obtain⟨o,e,r⟩:=hl1
   exact⟨o,(sb2.2 l hSl.symm).trans e,r⟩
  ·exact hR s' (fun b o h1' h2' e=>kp b o h1' h2' ((sb2.2 b h1').trans ((sb1.2 b h2').trans e))) os' gs' ds' sx'
end
end L2
set_option maxHeartbeats 3000000
namespace L2
open PySem PySem.Spec PyProof.Rows
section
variable {P:Program} {w:World} {A:Around} {E:Value->Shared->Prop} {s:Shared} {S:Addr} {ks ms:List Int}
def aH (w:World):Obj:={cls:= .type "set",dict:=none,data:= .set #[] 0 (.fresh 0 0 (!bw w))}
theorem jh {h:Heap} {a:Addr} (e:h.get? a=some (aH w)):SX w a [] h:=
 ⟨_,#[],0,_,[],e,⟨⟨rfl,rfl,rfl⟩,rfl,.nil,zz,by decide,rfl,⟨rfl,fun _=> .nil⟩⟩,.refl _⟩
theorem rO (a:Value) {Q:Value->Shared->Prop} (h:Q (.ref s.heap.objs.size) {s with heap:=s.heap.push (aH w)}):
  codeAny (model P w) A (.call (.builtin "set.__new__") ⟨[.type "set",a],[]⟩) (wants Q E) s:=by
 refine codeAny_of_tree ?_
 show wpAny _ A.in1 (do checkBuiltinCall "set.__new__" ⟨[.type "set",a],[]⟩;again (.builtin "set.__new__" ⟨[.type "set",a],[]⟩)) _ _ s
 refine wpAny_bind (wpAny_of_eq (PySem.F.newCall_set_1 a) (wpAny_pure ⟨plainId_quiet PySem.F.plain_set_new _,codeAny_builtin PySem.F.entry_set_new ?_⟩))
 rw[Around.under_plainId PySem.F.plain_set_new _]
 unfold Builtin.«set.__new__» Builtin.Frozenset.newClass
 have hsub:=sub_set_self
 obtain⟨hp,g,d,tk,os⟩:=s
 dsimp only
 wp_walk
 refine wpAny_askSetting (wpAny_pure ?_)
 dsimp only
 simp only[newObj]
 exact wpAny_bind (wpAny_alloc (wpAny_pure (wpAny_pure h)))
theorem pY {l:Addr} {items:Array Value} {ns:List Int} {R:Result->Shared->Prop} (hh:A.handled=none) (ho:s.heap.get? S=some (aH w)) (hl:s.heap.IsList l items) (hne:S≠l) (hi:IntsAre items.toList ns) (hb:ns.length+1<4000)
  (hR:∀s',(∀b o,b≠S->s.heap.get? b=some o->s'.heap.get? b=some o)->s'.os=s.os->s'.gens=s.gens->SX w S (dd ns) s'.heap->R (.ok (.ret .none)) s'):
  wpAny (model P w) A.in1 (Builtin.«set.__init__» ⟨[.ref S,.ref l],[]⟩)
   (fun fin s'=>match fin with | .done f=>R (.ok f) s' | .again c'=>c'.quiet=true/\codeAny (model P w) A c' R s') (fun e s'=>R (.error e) s') s:=by
 obtain⟨ol,hol,hcl,nl,hdl⟩:=id hl
 have hT:s.TypeIs (.ref S) "set":=⟨_,ho,rfl⟩
 have hTl:s.TypeIs (.ref l) "list":=⟨_,hol,hcl⟩
 have q1:=PySem.F.sub_list_set
 have q2:=PySem.F.sub_list_frozenset
 unfold Builtin.«set.__init__» noKeywords
 generalize hPI:Builtin.Frozenset.updateFrom=UF
 obtain⟨hp,g,d,tk,os⟩:=s
 unfold aH at ho
 wp_walk
 subst hPI
 unfold Builtin.Frozenset.updateFrom Builtin.Frozenset.isAnySet
 refine wpAny_bind ?_
 show wpAny _ _ (isInstance (.ref l) (.type "set") >>= fun b=>_) _ _ _
 refine wpAny_bind (wpAny_isInstance hTl q1 ?_)
 show wpAny _ _ (isInstance (.ref l) (.type "frozenset")) _ _ _
 refine wpAny_isInstance hTl q2 ?_
 rw[if_neg xW]
 refine wpAny_bind (wpAny_typeOf hTl ?_)
 rw[if_neg (by decide)]
 refine wpAny_bind (wpAny_pyIter_list hl ?_)
 refine wpAny_bind (wpAny_runValue ?_)
 have hSh:S<hp.objs.size:=Heap.lt_size ho
 have hlh:l<hp.objs.size:=Heap.lt_size hol
 refine pX (show A.in1.handled=none from hh) (x5 hlh) (x5 hSh) hne hi hb (items.size-0) 0 _ rfl (yx _) ⟨_,Heap.get?_push_size _ rfl,rfl,rfl⟩ ?_ ?_ fun s' kp os' gs' ds' sx=>?_
 ·exact⟨ol,Heap.get?_push_of_some _ hol,hcl,nl,hdl⟩
 ·rw [zy]
  exact jh (Heap.get?_push_of_some _ ho)
 ·refine wpAny_pure (wpAny_pure (hR s' (fun b o hbS e=>kp b o hbS (x5 (Heap.lt_size e)) (Heap.get?_push_of_some _ e)) os' gs' sx))
theorem kL {l:Addr} {items:Array Value} {ns:List Int} {Q:Value->Shared->Prop} (hh:A.handled=none) (hl:s.heap.IsList l items) (hi:IntsAre items.toList ns) (hb:ns.length+1<4000)
  (h:∀s',SX w s.heap.objs.size (dd ns) s'.heap->(∀b o,s.heap.get? b=some o->s'.heap.get? b=some o)->s'.os=s.os->s'.gens=s.gens->Q (.ref s.heap.objs.size) s'):wpAny (model P w) A (call (.type "set") [.ref l]) Q E s:=by
 obtain⟨c,tl,hmro⟩:=PySem.F.called_set.mro
 have hmade:=PySem.F.called_set.made
 have hsub:=PySem.F.called_set.sub
 have n1:=PySem.F.called_set.notType
 have n2:=PySem.F.called_set.canCreate
 have hct:=PySem.F.typeCall_set_1 (.ref l)
 refine wpAny_call (codeAny_of_tree ?_)
 show wpAny _ _ (callAny (.type "set") _) _ _ _
 refine wpAny_pure ⟨Code.quiet_builtin _ (by decide +kernel),codeAny_builtin PySem.F.entry_type_call ?_⟩
 rw[Around.under_plain (weight_type_call_type "set" [.ref l] []) rfl]
 repeat (any_goals (first | assumption | wp_step))
 refine codeAny_mono (rO (E:=E) (Q:=fun v s1=>v= .ref s.heap.objs.size/\s1={s with heap:=s.heap.push (aH w)}) (.ref l) ⟨rfl,rfl⟩) fun r s1 hr=>?_
 cases r with
 | error e=>exact hr
 | ok fl=>
  cases fl with
  | ret v=>
   obtain⟨e1,e2⟩:=hr
   subst e1 e2
   have hS:(s.heap.push (aH w)).get? s.heap.objs.size=some (aH w):=Heap.get?_push_size _ rfl
   have hT:Shared.TypeIs {s with heap:=s.heap.push (aH w)} (.ref s.heap.objs.size) "set":=⟨_,hS,rfl⟩
   have hlu:=PySem.F.called_set.init.lookup
   have hbd:=PySem.F.called_set.init.bind (.ref s.heap.objs.size)
   repeat (any_goals (first | assumption | wp_step))
   refine codeAny_mono (codeAny_call_builtin (R:=wants (fun r s2=>r= .none/\Q (.ref s.heap.objs.size) s2) E) PySem.F.called_set.init.plain PySem.F.entry_set_init (check_set_init_1 hT ?_)) fun r2 s2 hr2=>?_
   ·obtain⟨ol,hol,hcl⟩:=id hl
    refine pY (A:=A.in1) (show A.in1.handled=none from hh) hS ⟨ol,Heap.get?_push_of_some _ hol,hcl⟩ (zc (Heap.lt_size hol)) hi hb fun s' kp os' gs' sx=>⟨rfl,h s' sx (fun b o e=>kp b o (x5 (Heap.lt_size e)) (Heap.get?_push_of_some _ e)) os' gs'⟩
   ·cases r2 with
    | error e=>exact hr2
    | ok fl2=>
     cases fl2 with
     | ret v2=>
      obtain⟨e1,hq⟩:=hr2
      subst e1
      repeat (any_goals (first | assumption | wp_step))
     | _=>exact hr2.elim
  | _=>exact hr.elim
end
theorem SX.ok {P:Program} {w:World} {H:Hp} {h:Heap} {a:Addr} {ms:List Int} (x:SX w a ms h):ObjOk P w H h a (.ext (SX w a ms)):=
 ⟨x,by obtain⟨o,_,_,_,_,e,_⟩:=x;exact⟨o,e⟩,fun _ _ y k=>y.at k⟩
section
variable {X:Cx}
theorem Inv.new' {pins:List (Addr×Obj)} {σ:L2.St} {H:Hp} {s s':Shared} {a:Addr} {o:HO} (I:Inv X pins σ H s) (k:∀b u,s.heap.get? b=some u->s'.heap.get? b=some u) (hp:s.heap.objs.size<=a) (hos:s'.os=s.os) (hgs:s'.gens=s.gens)
  (new:ObjOk X.prog X.w (aI H a o) s'.heap a o):Inv X pins σ (aI H a o) s':=
 I.call' (ch:=[]) hos (Un.laid k hp (I.hok.fresh hp)) (I.hok.laid k hp new) (by rw[hgs];exact I.bare) fun b hb=>by cases hb
theorem fF {w:World} {a:Addr} {ms:List Int} {h:Heap} (x:SX w a ms h):∃es ep t ks,SetAt w a es ep t ks h/\ks.Perm ms:=by
 obtain⟨o,es,ep,t,ks,e,r,p⟩:=x
 exact⟨es,ep,t,ks,⟨o,e,r⟩,p⟩
theorem iL (w:World) (K:PySem.W.Frag) (hc:X.calm=true:=by rfl) (hw:X.w=w:=by rfl) (hK:X.K=K:=by rfl):bL X (.type "set") (fun xs H Q=>∃p ns,xs=[.ref p]/\SqL K H p (ns.map V.int)/\ns.length<3000/\
  ∀a,H a=none->Q (.ref a) (aI H a (.ext (SX w a (dd ns))))):=by
 subst hw hK
 intro pins s σ H xs us Q I r h
 obtain⟨p,ns,e,hq,hl,q⟩:=h
 subst e
 obtain⟨u,e,rx⟩:=cR r
 subst e
 cases rx
 obtain⟨its,rv,pl,hz⟩:=I.list hq
 refine kL (ns:=ns) (I.ok.hd hc) pl.isList (by simpa using gZ rv) (by omega) fun s' sx kp os' gs'=>?_
 exact⟨.ref s.heap.objs.size,_,I.new' kp (xQ _) os' gs' sx.ok,rfl,q _ I.fresh⟩
theorem ik (w:World) (hc:X.calm=true:=by rfl) (hw:X.w=w:=by rfl):bL X (.builtin "sorted") (fun xs H Q=>∃p ms,xs=[.ref p]/\H p=some (.ext (SX w p ms))/\ms.length<64/\
  ∀l (ks:List Int),H l=none->ks.Perm ms->ks.Pairwise (· <= ·)->Q (.ref l) (aI H l (.lst (ks.map V.int)))):=by
 subst hw
 intro pins s σ H xs us Q I r h
 obtain⟨p,ms,e,hp,hl,q⟩:=h
 subst e
 obtain⟨u,e,rx⟩:=cR r
 subst e
 cases rx
 obtain⟨sx,_⟩:=(show ObjOk X.prog X.w H s.heap p (.ext (SX X.w p ms))from I.hok p _ hp)
 obtain⟨es,ep,t,ks,sa,pm⟩:=fF sx
 refine iK (I.ok.hd hc) sa (by rw[pm.length_eq];exact hl) fun L out ns e s' hI hpm hs he le kp os' gs'=>?_
 refine⟨.ref L,_,I.new' kp le os' gs' (show ObjOk X.prog X.w _ _ _ (.lst (ns.map V.int))from⟨?_,out.toList,e,fV hI,?_⟩),rfl,q _ ns (I.hok.fresh le) (hpm.trans pm) hs⟩
 ·rw [xM,hpm.length_eq,pm.length_eq];exact oR (by omega)
 ·simpa [seqObj]using he
theorem kM (w:World) (hw:X.w=w:=by rfl):bL X (.builtin "len") (fun xs H Q=>∃p ms,xs=[.ref p]/\H p=some (.ext (SX w p ms))/\Q (.int ms.length) H):=by
 subst hw
 intro pins s σ H xs us Q I r h
 obtain⟨p,ms,e,hp,q⟩:=h
 subst e
 obtain⟨u,e,rx⟩:=cR r
 subst e
 cases rx
 obtain⟨sx,_⟩:=(show ObjOk X.prog X.w H s.heap p (.ext (SX X.w p ms))from I.hok p _ hp)
 obtain⟨es,ep,t,ks,sa,pm⟩:=fF sx
 refine l4 sa fun tk n=>⟨.int ms.length,H,I.tok n,⟨tk,?_⟩,q⟩
 rw[pm.length_eq]
end
end L2
namespace L2
end L2
namespace L2
open PySem PySem.Spec PyProof.Rows
section
variable {X:Cx} {tg:Expr}
end
section
variable {X:Cx} {pos:Pos}
def vq (K:PySem.W.Frag) (n:Nat) (t:qX):TG:=fun v σ H Q=>∃a xs,v= .ref a/\SqL K H a xs/\xs.length=n/\t xs σ H Q
theorem wN {es:List Expr} {k:Nat} {t:qX} {n:Nat} (K:PySem.W.Frag) (hc:X.calm=true) (hg:tD X es t) (h:X.K=K:=by rfl) (hn:(assignEach es X.env).length=n:=by rfl) (hst:(assignEach es X.env).findIdx? (·.1)=none:=by rfl):PG X (.Tuple es k pos) (vq K n t):=by
 subst h
 intro pins s σ H v u Q I r hw
 obtain⟨a,xs,e1,hq,hl,hw⟩:=hw
 subst e1
 cases r
 obtain⟨its,rv,ht,hz⟩:=I.list hq
 rw[assign_Tuple]
 refine wpAny_bind (wpAny_standAt ?_)
 unfold unpack
 have en:(assignEach es X.env).length=its.toArray.size:=by simp[hn,<- hl,rv.length]
 rw[en,hst]
 refine wpAny_bind (wpAny_holding (PySem.W.kun_itemsOf (I.ok.hd hc) ht.isList fun h' hx=>?_))
 have I1:Inv X pins σ H {s with heap:=h'}:=I.kept (t':=s.toks) fun b o e=>hx b o (x5 (Heap.lt_size e)) e
 exact hg pins _ σ H xs _ Q I1 (by simpa using rv) hw
end
theorem aL {hs:List Int} {k:Nat} (h:k<hs.length):hs.getD k 0=hs[k]:=by simp[h]
theorem dY {hs:List (List Int)} {k:Nat} (h:k<hs.length):hs.getD k []=hs[k]:=by simp[h]
def oT (M:Nat):Nat->Nat->Nat
 | 0,i=>i
 | j+1,i=>oT M j ((i*5+1)%M)
def uj (M:Nat):Nat->Nat->List Nat
 | 0,_=>[]
 | n+1,i=>i :: uj M n ((i*5+1)%M)
theorem gM (M:Nat):∀(a b i:Nat),oT M (a+b) i=oT M b (oT M a i)
 | 0,b,i=>by rw[zG];rfl
 | a+1,b,i=>by
  have e:a+1+b=(a+b)+1:=by omega
  rw[e]
  show oT M (a+b) ((i*5+1)%M)=oT M b (oT M a ((i*5+1)%M))
  exact gM M a b _
theorem rP (M:Nat) (n i t:Nat) (h:t∈uj M n i):∃b,b<n/\oT M b i=t:=by
 induction n generalizing i with
 | zero=>cases h
 | succ n ih=>
  rcases xY.mp h with e | e
  ·exact⟨0,Nat.succ_pos _,e.symm⟩
  ·obtain⟨b,hb,e⟩:=ih _ e
   exact⟨b+1,Nat.succ_lt_succ hb,e⟩
theorem mZ (M:Nat):∀(n i:Nat),(uj M n i).length=n
 | 0,_=>rfl
 | n+1,i=>by rw[uj,yC,mZ M n]
theorem pZ {M:Nat} (hM:0<M):∀(n i:Nat),i<M->∀t∈uj M n i,t<M
 | 0,_,_,t,h=>by cases h
 | n+1,i,hi,t,h=>by
  rcases xY.mp h with e | e
  ·omega
  ·exact pZ hM n _ (zx _ hM) t e
def sS (M:Nat):Prop:=∀i,i<M->∀t,t<M->∃j,j<M/\oT M j i=t
theorem uk {M:Nat} (hM:0<M) (nd:(uj M M 0).Nodup) (h0:oT M M 0=0):sS M:=by
 have all:∀t,t<M->∃b,b<M/\oT M b 0=t:=fun t ht=>by
  refine rP M M 0 t (Decidable.byContradiction fun hn=>?_)
  have:(t :: uj M M 0).length<=(xO M).length:=(zg.mpr ⟨hn,nd⟩).length_le_of_subset fun x hx=>by
   rw[yf]
   rcases xY.mp hx with e | e
   ·omega
   ·exact pZ hM M 0 hM x e
  rw[yC,mZ,yp]at this
  omega
 intro i hi t ht
 obtain⟨a,ha,ea⟩:=all i hi
 obtain⟨b,hb,eb⟩:=all t ht
 by_cases h:a<=b
 ·refine⟨b-a,by omega,?_⟩
  rw[<- ea,<- gM,<- eb]
  congr 1;omega
 ·refine⟨M+b-a,by omega,?_⟩
  rw[<- ea,<- gM]
  have e:a+(M+b-a)=M+b:=by omega
  rw[e,gM,h0,eb]
theorem fZ {M:Nat} (h:M∈[8,16,32,64,128,256]):sS M:=by
 simp only[xY,yD,or_false]at h
 rcases h with e | e | e | e | e | e<;>subst e
 all_goals exact uk (by decide) (by decide +kernel) (by decide +kernel)
theorem eP:∀n,n<256->SetTable.sizeAbove n∈[8,16,32,64,128,256]/\n<SetTable.sizeAbove n:=by decide +kernel
def lp (mask:Nat):Nat->Nat×Nat->Nat×Nat
 | 0,x=>x
 | n+1,x=>lp mask n (SetTable.leap mask x.1 x.2)
theorem p4 (mask:Nat):∀(a b:Nat) (x:Nat×Nat),lp mask (a+b) x=lp mask b (lp mask a x)
 | 0,b,x=>by rw[zG];rfl
 | a+1,b,x=>by
  have e:a+1+b=(a+b)+1:=by omega
  rw[e]
  exact p4 mask a b _
theorem um (mask:Nat) (n:Nat) (x:Nat×Nat):(lp mask n x).2=x.2/32^n:=by
 induction n generalizing x with
 | zero=>simp[lp]
 | succ n ih=>
  rw[lp,ih]
  show x.2/32/32^n=x.2/32^(n+1)
  rw[Nat.div_div_eq_div_mul,Nat.pow_succ,Nat.mul_comm]
theorem uo (mask:Nat) (n i p:Nat) (h:p<32):(lp mask n (i,p)).1=oT (mask+1) n i:=by
 induction n generalizing i p with
 | zero=>rfl
 | succ n ih=>
  have e:p/32=0:=Nat.div_eq_of_lt h
  have e2:SetTable.leap mask i p=((i*5+1)%(mask+1),0):=by unfold SetTable.leap;rw[e]
  rw[lp]
  show(lp mask n (SetTable.leap mask i p)).1=_
  rw[e2,ih _ 0 (by decide)]
  rfl
theorem sT (mask:Nat):∀(n:Nat) (x:Nat×Nat),x.1<mask+1->(lp mask n x).1<mask+1
 | 0,x,h=>h
 | n+1,x,h=>by
  rw[lp]
  exact sT mask n _ (zx _ (by omega))
theorem p5 (mask:Nat) (ow:Array (Option Nat)):∀(f n i p:Nat),n<f->(ow.getD (lp mask n (i,p)).1 (some 0)).isNone=true->∃j,SetTable.layClean.free mask ow f i p=some j:=by
 intro f
 induction f with
 | zero=>intro n i p h;cases h
 | succ f ih=>
  intro n i p h hn
  unfold SetTable.layClean.free
  cases hf:(xO (SetTable.runEnd mask i+1-i)).find? (fun k=>(ow.getD (i+k) (some 0)).isNone)with
  | some k=>exact⟨i+k,rfl⟩
  | none=>
   dsimp only
   cases n with
   | zero=>
    exfalso
    rw[List.find?_eq_none]at hf
    have m:0∈xO (SetTable.runEnd mask i+1-i):=by
     rw[yf]
     unfold SetTable.runEnd
     split<;>omega
    exact hf 0 m hn
   | succ n=>exact ih n _ _ (Nat.lt_of_succ_lt_succ h) hn
theorem n9 (mask:Nat) (ow:Array (Option Nat)) (f i p j:Nat) (h:SetTable.layClean.free mask ow f i p=some j):(ow.getD j (some 0)).isNone=true:=by
 induction f generalizing i p with
 | zero=>unfold SetTable.layClean.free at h;cases h
 | succ f ih=>
  unfold SetTable.layClean.free at h
  cases hf:(xO (SetTable.runEnd mask i+1-i)).find? (fun k=>(ow.getD (i+k) (some 0)).isNone)with
  | some k=>
   rw[hf]at h
   have e:=Option.some.inj h
   rw[<- e]
   exact List.find?_some (p:=fun k=>(ow.getD (i+k) (some 0)).isNone) hf
  | none=>
   rw[hf]at h
   exact ih _ _ h
theorem rQ (h:Int):SetTable.bits h<2^64:=by
 unfold SetTable.bits
 have h1:=yX h (show(2^64:Int)≠0 by decide)
 have h2:=yG h (show(0:Int)<2^64 by decide)
 omega
theorem oa {mask:Nat} (c:sS (mask+1)) (ow:Array (Option Nat)) (h:Int) {t:Nat} (ht:t<mask+1) (hn:(ow.getD t (some 0)).isNone=true):
  ∃j,SetTable.layClean.free mask ow (SetTable.turns mask) (SetTable.bits h%(mask+1)) (SetTable.bits h)=some j:=by
 have hi:(lp mask 12 (SetTable.bits h%(mask+1),SetTable.bits h)).1<mask+1:=sT mask 12 _ (zx _ (by omega))
 have hp:(lp mask 12 (SetTable.bits h%(mask+1),SetTable.bits h)).2<32:=by
  rw[um]
  have:=rQ h
  show SetTable.bits h/32^12<32
  omega
 obtain⟨j,hj,ej⟩:=c _ hi t ht
 refine p5 mask ow _ (12+j) _ _ (by unfold SetTable.turns;omega) ?_
 rw[p4]
 generalize lp mask 12 (SetTable.bits h%(mask+1),SetTable.bits h)=x at hi hp ej
 obtain⟨a,b⟩:=x
 rw[uo mask j a b hp]
 dsimp only at ej
 rw[ej]
 exact hn
structure Ownd (mask:Nat) (ow:Array (Option Nat)) (k:Nat):Prop where
 sz:ow.size=mask+1
 pm:(ow.toList.filterMap id).Perm (xO k)
theorem Ownd.gap {mask:Nat} {ow:Array (Option Nat)} {k:Nat} (o:Ownd mask ow k) (h:k<mask+1):∃t,t<mask+1/\(ow.getD t (some 0)).isNone=true:=by
 refine Decidable.byContradiction fun hn=>?_
 have all:∀a∈ow.toList,(id a).isSome=true:=fun a ha=>by
  obtain⟨t,ht,e⟩:=xZ.mp ha
  rw[xS]at ht
  cases a with
  | some x=>rfl
  | none=>
   refine absurd ⟨t,by rw[<- o.sz];exact ht,?_⟩ hn
   have:ow.getD t (some 0)=none:=by
    rw[yZ]at e
    simp[zL,ht,e]
   rw[this];rfl
 have:=List.filterMap_length_eq_length.mpr all
 rw[o.pm.length_eq,yp,xS,o.sz]at this
 omega
theorem Ownd.set {mask:Nat} {ow:Array (Option Nat)} {k j:Nat} (o:Ownd mask ow k) (h:(ow.getD j (some 0)).isNone=true):Ownd mask (ow.setIfInBounds j (some k)) (k+1) where
 sz:=by rw[Array.size_setIfInBounds];exact o.sz
 pm:=by
  have hj:j<ow.size:=by
   refine Decidable.byContradiction fun hn=>?_
   have:ow.getD j (some 0)=some 0:=by simp[zL,hn]
   rw[this]at h;cases h
  have e:ow.toList[j]'(by rw[xS];exact hj)=none:=by
   have:ow.getD j (some 0)=ow[j]:=by simp[zL,hj]
   rw[this]at h
   rw[yZ]
   exact Option.isNone_iff_eq_none.mp h
  have hjl:j<ow.toList.length:=by rw[xS];exact hj
  rw[Array.toList_setIfInBounds,List.set_eq_take_append_cons_drop,if_pos hjl,List.filterMap_append,yK]
  dsimp only[id]
  have e1:ow.toList=ow.toList.take j++none :: ow.toList.drop (j+1):=by
   conv=>lhs;rw[<- zo j ow.toList,List.drop_eq_getElem_cons hjl,e]
  have p:=o.pm
  rw[e1,List.filterMap_append,yK]at p
  dsimp only[id]at p
  rw[y9]
  exact(List.perm_middle.trans (p.cons k)).trans (List.perm_append_singleton k _).symm
theorem p7 {mask:Nat} (c:sS (mask+1)):∀(hs:List Int) (ow:Array (Option Nat)) (k:Nat),Ownd mask ow k->k+hs.length<=mask+1->
  ∃ow',hs.foldl (fun(acc:Option (Array (Option Nat)×Nat)) h=>do
   let(owner,k) <- acc
   let j <- SetTable.layClean.free mask owner (SetTable.turns mask) (SetTable.bits h%(mask+1)) (SetTable.bits h)
   pure (owner.setIfInBounds j (some k),k+1)) (some (ow,k))=some (ow',k+hs.length)/\Ownd mask ow' (k+hs.length):=by
 intro hs
 induction hs with
 | nil=>intro ow k o _;exact⟨ow,rfl,o⟩
 | cons h r ih=>
  intro ow k o hl
  rw[yC]at hl
  obtain⟨t,ht,hn⟩:=o.gap (by omega)
  obtain⟨j,ej⟩:=oa c ow h ht hn
  have o':=o.set (n9 _ _ _ _ _ _ ej)
  obtain⟨ow',e,o2⟩:=ih _ (k+1) o' (by omega)
  have ek:k+(h :: r).length=k+1+r.length:=by rw[yC];omega
  rw[ek]
  refine⟨ow',?_,o2⟩
  rw[zI]
  refine Eq.trans (congrArg (fun z=>List.foldl _ z r) ?_) e
  show(SetTable.layClean.free mask ow (SetTable.turns mask) (SetTable.bits h%(mask+1)) (SetTable.bits h)).bind (fun j=>some (ow.setIfInBounds j (some k),k+1))=_
  rw[ej];rfl
structure Laid (t:SetTable) (o:Array Nat) (mask n:Nat) (led plain:Bool):Prop where
 pm:o.toList.Perm (xO n)
 ft:t.fits n=true
 ms:t.mask=mask
 dm:t.dummies=#[]
 ld:t.led=led
 pl:t.plain=plain
 rs:ib t.place.toList
theorem ji {mask finger moves:Nat} {led plain:Bool} {hs:Array Int} (c:sS (mask+1)) (hl:hs.size<=mask):∃t o,SetTable.laid mask finger moves led plain hs=some (t,o)/\Laid t o mask hs.size led plain:=by
 have o0:Ownd mask (Array.replicate (mask+1) none) 0:=⟨Array.size_replicate,by simp⟩
 obtain⟨ow,e,o⟩:=p7 c hs.toList _ 0 o0 (by rw[xS];omega)
 rw[zG,xS]at e o
 have el:SetTable.layClean mask hs=some ow:=by
  unfold SetTable.layClean
  rw[<- Array.foldl_toList,e];rfl
 have eq:SetTable.laid mask finger moves led plain hs=some ({mask,place:=(((xO (mask+1)).filterMap fun j=>(ow.getD j none).map (j,·)).map (·.1)).toArray,dummies:=#[],finger,led,moves,plain},(((xO (mask+1)).filterMap fun j=>(ow.getD j none).map (j,·)).map (·.2)).toArray):=by
  unfold SetTable.laid
  rw[el];rfl
 have es:((xO (mask+1)).filterMap fun j=>(ow.getD j none).map (j,·)).map (·.2)=ow.toList.filterMap id:=by
  have eo:ow.toList=(xO (mask+1)).map fun j=>ow.getD j none:=by
   apply yO
   ·simp [o.sz]
   ·intro i h1 h2
    rw[xS]at h1
    simp[zL,h1]
  conv=>rhs;rw[eo]
  rw[List.filterMap_map,List.map_filterMap]
  congr 1
  funext j
  show Option.map (fun x=>x.snd) (Option.map (fun x=>(j,x)) (ow.getD j none))=ow.getD j none
  cases ow.getD j none<;>rfl
 have pm:(((xO (mask+1)).filterMap fun j=>(ow.getD j none).map (j,·)).map (·.2)).Perm (xO hs.size):=by rw[es];exact o.pm
 have ln:=pm.length_eq
 rw[xM,yp]at ln
 obtain⟨r1,r2⟩:=jc eq
 refine⟨_,_,eq,⟨pm,?_,rfl,rfl,rfl,rfl,r2⟩⟩
 unfold SetTable.fits SetTable.fill
 simp only[xU,xM,ln,Array.size_empty,Nat.add_zero]
 simp[hl]
theorem rR {α β:Type} {f:α->Option β} {g:α->β} (l:List α) (h:∀a∈l,f a=some (g a)):l.filterMap f=l.map g:=by
 induction l with
 | nil=>rfl
 | cons a r ih=>rw[yK,h a yc,yF,ih fun b hb=>h b (x8 _ hb)]
theorem p8 (es:Array (Int×Value)):(xO es.size).filterMap (fun i=>es[i]?)=es.toList:=by
 rw[rR (g:=fun i=>es.getD i (0,.none)) _ fun i hi=>by have:=yf.mp hi;simp[this]]
 apply yO
 ·simp
 ·intro i h1 h2
  rw[xS]at h2
  simp[h2]
theorem eQ {es:Array (Int×Value)} {o:Array Nat} (pm:o.toList.Perm (xO es.size)):(o.filterMap (es[·]?)).toList.Perm es.toList:=by
 rw[Array.toList_filterMap]
 have:=pm.filterMap (fun i=>es[i]?)
 rw[p8]at this
 exact this
section
variable {P:Program} {w:World} {A:Around} {E:Value->Shared->Prop} {s:Shared} {S:Addr} {ks ms:List Int} {es:Array (Int×Value)} {ep:Nat} {t:SetTable}
theorem kN {g:Array (Int×Value)->Option (SetTable×Array Nat)->Sem (Array (Int×Value)×SetTable)} {es:Array (Int×Value)} {t:SetTable} {o:Array Nat} {Q:Array (Int×Value)×SetTable->Shared->Prop}
  (hg:g es (some (t,o))=(do
   if((o.filterMap (es[·]?)).size != es.size)=true then unsupported "internal:set-table-lost-an-element"
   pure (o.filterMap (es[·]?),t))) (pm:o.toList.Perm (xO es.size)) (h:Q (o.filterMap (es[·]?),t) s):wpAny (model P w) A (g es (some (t,o))) Q E s:=by
 have pp:=(eQ pm).length_eq
 rw[xS,xS]at pp
 rw[hg,if_neg (by rw[pp];simp)]
 exact wpAny_pure h
theorem p9 {n:Nat} (h:n<5000):n<=sizeLine:=yB (oS (by omega))
theorem SetAt.store {es':Array (Int×Value)} {t':SetTable} {ks':List Int} {Q:Unit->Shared->Prop} (hS:SetAt w S es ep t ks s.heap) (en:Ents es'.toList ks') (nd:ks'.Nodup) (sz:ks'.length<4000) (ft:t'.fits es'.size=true) (tb:TabK (!bw w) t')
  (h:∀h',Heap.SameBut S s.heap h'->SetAt w S es' (ep+1) t' ks' h'->Q () {s with heap:=h'}):wpAny (model P w) A (storeSet S es' t') Q E s:=by
 obtain⟨o,ho,hs⟩:=hS
 have z:es'.size=ks'.length:=by rw[<- en.len,xS]
 refine wpAny_storeSet_of ho hs.da (h _ (Heap.SameBut.update ..) ?_) (by rw[z];exact p9 (by omega))
 obtain⟨o',ho',hs'⟩:=lU (s:=s) ho hs en nd sz ft tb
 exact⟨o',ho',hs'⟩
theorem SetAt.state {Q:Array (Int×Value)×Nat×SetTable->Shared->Prop} (hS:SetAt w S es ep t ks s.heap) (h:Q (es,ep,t) s):wpAny (model P w) A (setState S) Q E s:=by
 obtain⟨o,ho,hs⟩:=hS
 exact wpAny_setState_of ho hs.da hs.ft h
theorem SetAt.epoch {Q:Nat->Shared->Prop} (hS:SetAt w S es ep t ks s.heap) (h:Q ep s):wpAny (model P w) A (setEpoch S) Q E s:=by
 unfold setEpoch
 exact wpAny_bind (hS.state (wpAny_pure h))
theorem SetAt.entries {Q:Array (Int×Value)->Shared->Prop} (hS:SetAt w S es ep t ks s.heap) (h:Q es s):wpAny (model P w) A (setEntries S) Q E s:=by
 unfold setEntries
 exact wpAny_bind (hS.state (wpAny_pure h))
theorem SetAt.en (hS:SetAt w S es ep t ks s.heap):Ents es.toList ks:=let⟨_,_,hs⟩:=hS;hs.en
theorem SetAt.nd (hS:SetAt w S es ep t ks s.heap):ks.Nodup:=let⟨_,_,hs⟩:=hS;hs.nd
theorem SetAt.ft (hS:SetAt w S es ep t ks s.heap):t.fits es.size=true:=let⟨_,_,hs⟩:=hS;hs.ft
theorem SetAt.tb (hS:SetAt w S es ep t ks s.heap):TabK (!bw w) t:=let⟨_,_,hs⟩:=hS;hs.tb
theorem SetAt.sz (hS:SetAt w S es ep t ks s.heap):es.size=ks.length:=let⟨_,_,hs⟩:=hS;hs.size
theorem SetAt.lt4 (hS:SetAt w S es ep t ks s.heap):ks.length<4000:=let⟨_,_,hs⟩:=hS;hs.sz
theorem SetAt.sx (hS:SetAt w S es ep t ks s.heap) (p:ks.Perm ms):SX w S ms s.heap:=let⟨o,e,r⟩:=hS;⟨o,es,ep,t,ks,e,r,p⟩
theorem SetAt.relay {wanted:Nat} {Q:Unit->Shared->Prop} (hS:SetAt w S es ep t ks s.heap) (hw:wanted<256) (hz:es.size<SetTable.sizeAbove wanted)
  (h:∀h' es' t' ks',Heap.SameBut S s.heap h'->SetAt w S es' (ep+1) t' ks' h'->ks'.Perm ks->t'.mask+1=SetTable.sizeAbove wanted->t'.dummies=#[]->Q () {s with heap:=h'}):wpAny (model P w) A (setRelay S wanted) Q E s:=by
 obtain⟨m1,m2⟩:=eP wanted hw
 have c:=fZ m1
 have big:SetTable.sizeAbove wanted<=256/\8<=SetTable.sizeAbove wanted:=by
  exact(show ∀x∈[8,16,32,64,128,256],x<=256/\8<=x by decide) _ m1
 unfold setRelay
 refine wpAny_bind (hS.state ?_)
 dsimp only
 rw[if_neg (by have:=p9 (n:=SetTable.sizeAbove wanted) (by omega);omega)]
 have eM:SetTable.sizeAbove wanted-1+1=SetTable.sizeAbove wanted:=by omega
 have c':sS (SetTable.sizeAbove wanted-1+1):=by rw[eM];exact c
 have hsz:(es.map (·.1)).size=es.size:=Array.size_map ..
 obtain⟨t',o,e,L⟩:=ji (mask:=SetTable.sizeAbove wanted-1) (finger:=t.finger) (moves:=t.movedTo (SetTable.sizeAbove wanted-1)) (led:=t.led) (plain:=t.plain) (hs:=es.map (·.1)) c' (by rw[hsz];omega)
 have e2:t.relaid (es.map (·.1)) wanted=some (t',o):=e
 rw[e2]
 have pm:=L.pm
 rw[hsz]at pm
 refine wpAny_bind (kN (by rfl) pm ?_)
 dsimp only
 have pp:=eQ pm
 obtain⟨ks',n',q'⟩:=Ents.perm pp hS.en
 have z:(o.filterMap (es[·]?)).size=es.size:=by have:=pp.length_eq;rw[xS,xS]at this;exact this
 refine hS.store n' (q'.nodup_iff.mpr hS.nd) (by rw[q'.length_eq];exact hS.lt4) (by rw[z,<- hsz];exact L.ft) ⟨by rw[L.ld];exact hS.tb.led,fun _=>L.rs⟩ fun h' sb st=>?_
 exact h h' _ t' ks' sb st q' (by rw[L.ms];omega) L.dm
theorem SetAt.find {x:Int} {tk:Tok} {Q:Option Nat->Shared->Prop} (hS:SetAt w S es ep t ks s.heap) (h1:∀i,ks[i]?=some x->Q (some i) s) (h2:x∉ks->Q none s):wpAny (model P w) A (setFind S (.int x tk) (hashInt x)) Q E s:=by
 obtain⟨o,ho,hs⟩:=hS
 have hel:=hs.en.elems (P:=P) (w:=w)
 have hky:(intKind P w).is x (.int x tk)=true:=intKind_is P w x tk
 unfold setFind setFindIn
 refine wpAny_bind (wpAny_setState_of ho hs.da hs.ft ?_)
 dsimp only
 rw[byScan_of (knd:=intKind P w) rfl hs.bound hel,if_pos rfl]
 refine wpAny_bind (wpAny_rule ?_)
 refine wpAny_bind (wpAny_setScan_of (knd:=intKind P w) (k:=x) hky ho hs.da hs.ft hel ?_)
 have fd:=hs.en.find (P:=P) (w:=w) (k:=x)
 cases hr:List.findIdx? (fun e=>(intKind P w).is x e.2) es.toList with
 | some j=>
  refine wpAny_pure ?_
  rw[zG]
  refine h1 j ?_
  obtain⟨hj,p1,_⟩:=List.findIdx?_eq_some_iff_getElem.mp hr
  have hjk:j<ks.length:=by rw[<- hs.en.len];exact hj
  have gk:=xK hjk
  obtain⟨e',g,tk',q⟩:=bW hs.en gk
  rw[xK hj]at g
  have g:=Option.some.inj g
  rw[g,q]at p1
  have:x=ks[j]:=by
   have z:(intKind P w).is x (hashInt ks[j],Value.int ks[j] tk').2=decide (x=ks[j]):=jd x ks[j] tk'
   rw[z]at p1
   exact of_decide_eq_true p1
  rw[gk,this]
 | none=>
  rw[hr]at fd
  exact wpAny_pure (h2 (of_decide_eq_false fd.symm))
end
section
variable {P:Program} {w:World} {A:Around} {E:Value->Shared->Prop} {s:Shared} {S:Addr} {ks ms:List Int} {es:Array (Int×Value)} {ep:Nat} {t:SetTable}
theorem qc {Q:Bool->Shared->Prop} (sets:List Addr) (ho:∀a∈sets,∃ms,SX w a ms s.heap) (h:Q true s):wpAny (model P w) A (setsQuiet sets) Q E s:=by
 unfold setsQuiet
 refine wpAny_bind (wpAny_forIn_list _ (fun ck b s'=>(∀a∈ck,a∈sets)/\b.1=none/\s'=s) _ ?_ ?_ sets _ ⟨fun _ h=>h,rfl,rfl⟩)
 ·rintro a ck b s' ⟨hm,hb,rfl⟩
  obtain⟨ms,sx⟩:=ho a (hm a yc)
  obtain⟨es,ep,t,ks,sa,pm⟩:=fF sx
  refine wpAny_bind (sa.entries ?_)
  refine wpAny_bind (PySem.MeetsSeq2.wpAny_forIn_array _ (fun ck b s''=>(∀a∈ck,a∈es.toList)/\b.1=none/\s''=s') _ ?_ ?_ es _ ⟨fun _ h=>h,rfl,rfl⟩)
  ·rintro x ck b s' ⟨hm,hb,rfl⟩
   obtain⟨k,tk,_,e⟩:=Ents.mem (es:=es.toList) sa.en (hm x yc)
   subst e
   refine wpAny_pure ⟨fun a h=>hm a (x8 _ h),rfl,rfl⟩
  ·rintro⟨b1,b2⟩ s'' ⟨_,hb',rfl⟩
   dsimp only at hb'
   subst hb'
   exact wpAny_pure ⟨fun a h=>hm a (x8 _ h),rfl,rfl⟩
 ·rintro⟨b1,b2⟩ s' ⟨_,hb,rfl⟩
  dsimp only at hb
  subst hb
  exact wpAny_pure h
theorem jJ {Q:Bool->Shared->Prop} (h:Q (bw w) s):wpAny (model P w) A setsByText Q E s:=by
 unfold setsByText
 exact wpAny_bind (wpAny_askSetting (wpAny_pure h))
theorem SetAt.walk {others:List Addr} {f:Option Addr} {Q:Array (Int×Value)->Shared->Prop} (hS:SetAt w S es ep t ks s.heap) (ho:∀a∈others,∃ms,SX w a ms s.heap) (hf:∀a,f=some a->a≠S/\SX w a ms s.heap)
  (h:∀xs h',xs.toList.Perm es.toList->(∀b o,f≠some b->s.heap.get? b=some o->h'.get? b=some o)->(∀a,f=some a->SX w a ms h')->Q xs {s with heap:=h'}):wpAny (model P w) A (setWalkUnseen S others f) Q E s:=by
 have hS':=hS
 obtain⟨o,hoo,hs⟩:=hS
 unfold setWalkUnseen
 refine wpAny_bind (hS'.state ?_)
 dsimp only
 refine wpAny_bind (jJ ?_)
 have done:∀xs:Array (Int×Value),xs.toList.Perm es.toList->Q xs s:=fun xs p=>h xs s.heap p (fun _ _ _ e=>e) fun a e=>(hf a e).2
 by_cases hc:(bw w||t.led&&t.plain||decide (es.size<=1))=true
 ·rw [if_pos hc]
  by_cases bt:bw w=true
  ·exact fE bt hoo hs (done _ (fW _ _))
  ·unfold setWalk
   have bt0:bw w=false:=by simpa using bt
   have ld:t.led=true:=by rw[hs.tb.led,bt0];rfl
   refine wpAny_bind (hS'.state ?_)
   dsimp only
   refine wpAny_bind (jJ ?_)
   rw[bt0,if_neg xW]
   rw[bt0,ld]at hc
   show wpAny _ _ (if(!t.plain&&decide (es.size>1))=true then _ else _) _ _ _
   rw[if_neg (by cases hp:t.plain with | true=>simp | false=>(rw [hp]at hc;simp at hc ⊢;omega))]
   refine wpAny_bind ?_
   show wpAny _ _ (if(!t.led&&decide (es.size>1))=true then unsupported "set:maker-not-led" else pure ()) _ _ _
   rw[if_neg (by rw[ld];simp)]
   exact wpAny_pure (wpAny_pure (done _ (.refl _)))
 ·rw [if_neg hc]
  refine wpAny_bind (qc _ (fun a ha=>?_) ?_)
  ·rcases xY.mp ha with e | e
   ·subst e;exact⟨ks,hS'.sx (.refl _)⟩
   ·exact ho a e
  rw[if_neg (by simp)]
  refine wpAny_bind (wpAny_rule ?_)
  cases f with
  | none=>exact wpAny_pure (done _ (.refl _))
  | some a=>
   obtain⟨hne,sx⟩:=hf a rfl
   obtain⟨ef,epf,tf,kf,sf,pf⟩:=fF sx
   refine wpAny_bind (sf.state ?_)
   dsimp only
   by_cases hm:(tf.led&& !t.led||tf.plain&& !t.plain)=true
   ·rw [if_pos hm]
    refine wpAny_bind (sf.store (t':={tf with led:=tf.led&&t.led,plain:=tf.plain&&t.plain}) sf.en sf.nd sf.lt4 sf.ft ⟨by show(tf.led&&t.led)=_;rw[sf.tb.led,hs.tb.led];simp,fun z=>sf.tb.rise (by have z:(tf.plain&&t.plain)=true:=z;simp at z;exact z.1)⟩ fun h' sb st=>?_)
    exact wpAny_pure (h es h' (.refl _) (fun b o n e=>(sb.2 b fun z=>n (by rw[z])).trans e) fun a' e=>by cases e;exact st.sx (s:={s with heap:=h'}) pf)
   ·rw [if_neg hm]
    exact wpAny_pure (done _ (.refl _))
end
section
variable {P:Program} {w:World} {A:Around} {E:Value->Shared->Prop} {s:Shared} {S T:Addr} {ks ms ns:List Int} {es:Array (Int×Value)} {ep:Nat} {t:SetTable}
theorem SX.ty (h:SX w S ms s.heap):s.TypeIs (.ref S) "set":=let⟨o,_,_,_,_,e,r,_⟩:=h;⟨o,e,r.ex.1⟩
theorem cy {Q:Bool->Shared->Prop} (hT:s.TypeIs (.ref S) "set") (h:Q true s):wpAny (model P w) A (Builtin.Frozenset.isAnySet (.ref S)) Q E s:=by
 unfold Builtin.Frozenset.isAnySet
 show wpAny _ _ (isInstance (.ref S) (.type "set") >>= fun b=>_) _ _ _
 refine wpAny_bind (wpAny_isInstance hT sub_set_self ?_)
 exact wpAny_pure h
theorem jj {Q:Value->Shared->Prop} (hT:s.TypeIs (.ref S) "set") (h:Q (.type "set") s):wpAny (model P w) A (Builtin.Frozenset.baseOf S) Q E s:=by
 unfold Builtin.Frozenset.baseOf
 refine wpAny_bind (wpAny_isInstance hT sub_set_self ?_)
 exact wpAny_pure h
theorem jk {Q:Value->Shared->Prop} (h:Q (.ref s.heap.objs.size) {s with heap:=s.heap.push (aH w)}):wpAny (model P w) A (newSet (.type "set")) Q E s:=by
 unfold newSet
 refine wpAny_bind (jJ ?_)
 dsimp only
 simp only[newObj]
 exact wpAny_bind (wpAny_alloc (wpAny_pure h))
theorem jm {Q:Nat->Shared->Prop} (hS:SetAt w S es ep t ks s.heap) (h:Q es.size s):wpAny (model P w) A (Builtin.Frozenset.sizeOf S) Q E s:=by
 unfold Builtin.Frozenset.sizeOf
 exact wpAny_bind (hS.entries (wpAny_pure h))
theorem jK {id:String} {Q:Unit->Shared->Prop} (hS:SetAt w S es ep t ks s.heap) (h:Q () s):wpAny (model P w) A (Builtin.Frozenset.unchanged id S ep) Q E s:=by
 unfold Builtin.Frozenset.unchanged
 refine wpAny_bind (hS.epoch ?_)
 rw[if_neg (by simp)]
 exact wpAny_pure h
theorem oe {r:Addr} {xs:Array (Int×Value)} {kx k0:List Int} {f:(Int×Value)->PUnit->Sem (ForInStep PUnit)} {G:Heap->Prop} {Q:PUnit->Shared->Prop} (keep:Int->Bool) (en:Ents xs.toList kx) (nd:kx.Nodup) (dj:∀k∈kx,k∉k0) (hl:kx.length+k0.length+1<4000)
  (hG:∀h h',G h->Heap.SameBut r h h'->G h')
  (hf:∀k tk (s':Shared) (Q':ForInStep PUnit->Shared->Prop) kr,k∈kx->G s'.heap->SX w r kr s'.heap->kr.length+1<4000->(keep k=true->∀h',Heap.SameBut r s'.heap h'->SX w r (bF kr k) h'->Q' (.yield ⟨⟩) {s' with heap:=h'})->(keep k=false->Q' (.yield ⟨⟩) s')->wpAny (model P w) A (f (hashInt k,.int k tk) ⟨⟩) Q' E s')
  (g:G s.heap) (sx:SX w r k0 s.heap)
  (h:∀h',Heap.SameBut r s.heap h'->SX w r (k0++kx.filter keep) h'->Q ⟨⟩ {s with heap:=h'}):wpAny (model P w) A (forIn xs ⟨⟩ f) Q E s:=by
 refine PySem.MeetsSeq2.wpAny_forIn_array f (fun ck _ s'=>∃kr h',Ents ck kr/\kr <:+ kx/\s'={s with heap:=h'}/\Heap.SameBut r s.heap h'/\SX w r (k0++(kx.take (kx.length-kr.length)).filter keep) h'/\G h') _ ?_ ?_ xs ⟨⟩ ⟨kx,s.heap,en,List.suffix_refl _,rfl,Heap.SameBut.refl _ _,by rw[zF,zy];simpa using sx,g⟩
 ·rintro x ck b s' ⟨kr,h1,er,sf,rfl,sb,sx1,g1⟩
  cases er with
  | @cons _ k _ kr' q er'=>
   obtain⟨tk,rfl⟩:=q
   obtain⟨pre,ep⟩:=sf
   have hk:k∈kx:=by rw[<- ep];simp
   have e1:kx.length-(k :: kr').length=pre.length:=by rw[<- ep];simp
   have e2:kx.length-kr'.length=pre.length+1:=by rw[<- ep];simp;omega
   have t1:kx.take pre.length=pre:=by rw[<- ep];simp
   have t2:kx.take (pre.length+1)=pre++[k]:=by
    have:kx=(pre++[k])++kr':=by rw[<- ep];simp
    rw[this]
    have:pre.length+1=(pre++[k]).length:=by simp
    rw[this,List.take_left]
   rw[e1,t1]at sx1
   have kn:k∉pre:=by
    rw[<- ep,List.nodup_append]at nd
    exact fun m=>nd.2.2 k m k (by simp) rfl
   have fl:(pre.filter keep).length<=kx.length:=yd (yy ..) (by rw[<- ep];simp)
   have sfx:kr' <:+ kx:=⟨pre++[k],by rw[<- ep];simp⟩
   refine hf k tk _ _ _ hk g1 sx1 (by rw[xV];omega) (fun hp h2 sb2 sx2=>?_) fun hp=>?_
   ·refine⟨kr',h2,er',sfx,rfl,sb.trans sb2,?_,hG _ _ g1 sb2⟩
    have ed:bF (k0++pre.filter keep) k=k0++(pre++[k]).filter keep:=by
     have:k∉k0++pre.filter keep:=fun m=>by
      rcases ye.mp m with m | m
      ·exact dj k hk m
      ·exact kn (yn.mp m).1
     unfold bF
     rw[if_neg this,yP,List.append_assoc]
     simp[hp]
    rw[e2,t2,<- ed]
    exact sx2
   ·refine⟨kr',h1,er',sfx,rfl,sb,?_,g1⟩
    rw[e2,t2,yP]
    simpa [hp]using sx1
 ·rintro b s' ⟨kr,h1,er,sf,rfl,sb,sx1,g1⟩
  cases er
  refine h h1 sb ?_
  rw[List.length_nil,Nat.sub_zero,y6]at sx1
  exact sx1
end
section
variable {P:Program} {w:World} {A:Around} {E:Value->Shared->Prop} {s:Shared} {S T:Addr} {ks ms ns:List Int} {es:Array (Int×Value)} {ep:Nat} {t:SetTable}
theorem eJ {a r:Addr} {h h':Heap} (n:a≠r) (sb:Heap.SameBut r h h'):∀o,h.get? a=some o->h'.get? a=some o:=fun o e=>(sb.2 a n).trans e
theorem qd {id:String} {W0 K0 r:Addr} {ew:Array (Int×Value)} {epw:Nat} {tw:SetTable} {kw:List Int} {ka:List Int} {xs:Array (Int×Value)} {kx:List Int} {Q:PUnit->Shared->Prop}
  (hW:SetAt w W0 ew epw tw kw s.heap) (hK:SX w K0 ka s.heap) (n1:W0≠r) (n2:K0≠r) (en:Ents xs.toList kx) (nd:kx.Nodup) (hl:kx.length+1<4000) (sx:SX w r [] s.heap) (c:Bool->Bool)
  {f:(Int×Value)->PUnit->Sem (ForInStep PUnit)}
  (hf:∀x,f x ⟨⟩=(do
   holding [x.2] do
    let q <- setFind K0 x.2 x.1
    if c q.isSome=true then
     let _ <- setAddHashed r x.2 x.1
   Builtin.Frozenset.unchanged id W0 epw
   pure (.yield ⟨⟩)))
  (h:∀h',Heap.SameBut r s.heap h'->SX w r (kx.filter fun k=>c (decide (k∈ka))) h'->Q ⟨⟩ {s with heap:=h'}):wpAny (model P w) A (forIn xs ⟨⟩ f) Q E s:=by
 refine oe (k0:=[]) (G:=fun h=>SetAt w W0 ew epw tw kw h/\SX w K0 ka h) (fun k=>c (decide (k∈ka))) en nd (fun _ _ h=>by cases h) (by simpa using hl) (fun h h' g sb=>⟨g.1.at (eJ n1 sb),g.2.at (eJ n2 sb)⟩) ?_ ⟨hW,hK⟩ sx (fun h' sb sx'=>h h' sb (by simpa using sx'))
 intro k tk s' Q' kr hk ⟨gW,gK⟩ sxr hlen q1 q2
 rw[hf]
 dsimp only
 obtain⟨ek,epk,tk',kk,sk,pk⟩:=fF gK
 have fin:∀d:Bool,(decide (k∈ka)=d)->wpAny (model P w) A (if c d=true then(do let _ <- setAddHashed r (.int k tk) (hashInt k);pure PUnit.unit)else pure PUnit.unit) (fun _ s2=>wpAny (model P w) A (do Builtin.Frozenset.unchanged id W0 epw;pure (ForInStep.yield PUnit.unit)) Q' E s2) E s':=fun d hc=>by
  by_cases hcb:c d=true
  ·rw [if_pos hcb]
   refine wpAny_bind (l5 sxr hlen fun _ h' sb sx'=>wpAny_pure ?_)
   refine wpAny_bind (jK (s:={s' with heap:=h'}) (gW.at (eJ n1 sb)) (wpAny_pure ?_))
   exact q1 (by rw[hc];exact hcb) h' sb sx'
  ·rw [if_neg hcb]
   refine wpAny_pure ?_
   refine wpAny_bind (jK gW (wpAny_pure ?_))
   exact q2 (by rw[hc];simpa using hcb)
 refine wpAny_bind (wpAny_holding (wpAny_bind (sk.find (fun i hi=>?_) fun hn=>?_)))
 ·exact fin true (decide_eq_true (pk.mem_iff.mp (xT hi)))
 ·exact fin false (decide_eq_false fun m=>hn (pk.mem_iff.mpr m))
theorem qe {id:String} {Q:Value->Shared->Prop} (hS:SX w S ms s.heap) (hT:SX w T ns s.heap) (hne:S≠T) (hl1:ms.length<3000) (hl2:ns.length<3000)
  (h:∀h' ks,(∀b o,s.heap.get? b=some o->h'.get? b=some o)->SX w s.heap.objs.size ks h'->ks.Nodup->(∀x,x∈ks<->x∈ms/\x∈ns)->Q (.ref s.heap.objs.size) {s with heap:=h'}):wpAny (model P w) A (Builtin.Frozenset.intersection id S (.ref T)) Q E s:=by
 unfold Builtin.Frozenset.intersection
 rw[if_neg (by simp;exact fun z=>hne z.symm)]
 refine wpAny_bind (jj hS.ty (wpAny_bind (jk ?_)))
 have lS:=hS.lt
 have lT:=hT.lt
 have kp:∀b o,s.heap.get? b=some o->(s.heap.push (aH w)).get? b=some o:=fun b o e=>Heap.get?_push_of_some _ e
 have hS1:=hS.at (kp S)
 have hT1:=hT.at (kp T)
 have hR1:SX w s.heap.objs.size [] (s.heap.push (aH w)):=jh (Heap.get?_push_size _ rfl)
 generalize hr:s.heap.objs.size=r at*
 generalize hh1:s.heap.push (aH w)=h1 at*
 refine wpAny_bind (wpAny_pure ?_)
 have ne1:S≠r:=x5 lS
 have ne2:T≠r:=x5 lT
 have aS:=fF hS1
 have aT:=fF hT1
 obtain⟨eS,epS,tS,kS,aS,pS⟩:=aS
 obtain⟨eT,epT,tT,kT,aT,pT⟩:=aT
 refine wpAny_bind (wpAny_holding (wpAny_bind (cy (s:={s with heap:=h1}) hT1.ty ?_)))
 rw[if_pos rfl]
 refine wpAny_bind (wpAny_pure ?_)
 refine wpAny_bind (jm (s:={s with heap:=h1}) aT (wpAny_bind (jm (s:={s with heap:=h1}) aS ?_)))
 have core:∀(W0 K0:Addr) (ew:Array (Int×Value)) (epw:Nat) (tw:SetTable) (kw ka:List Int),SetAt w W0 ew epw tw kw h1->SX w K0 ka h1->W0≠r->K0≠r->kw.length<3000->(∀x,x∈kw/\x∈ka<->x∈ms/\x∈ns)->
   wpAny (model P w) A (do
    let was <- setEpoch W0
    let l <- setWalkUnseen W0 [K0,r] (some r)
    forIn l PUnit.unit fun x __s=>match x with
     | (h,x)=>do
      holding [x] do
       let q <- setFind K0 x h
       if q.isSome=true then do
        let _ <- setAddHashed r x h
        pure ()
       else pure ()
      Builtin.Frozenset.unchanged id W0 was
      pure (ForInStep.yield PUnit.unit)
    pure ()) (fun _ s'=>wpAny (model P w) A (pure (Value.ref r)) Q E s') E {s with heap:=h1}:=by
  intro W0 K0 ew epw tw kw ka hW hK n1 n2 hlw hm
  refine wpAny_bind (SetAt.epoch (s:={s with heap:=h1}) hW ?_)
  refine wpAny_bind (SetAt.walk (s:={s with heap:=h1}) (ms:=[]) hW (fun a ha=>?_) (fun a e=>?_) fun xs h2 px k2 f2=>?_)
  ·simp only[xY,yD,or_false]at ha
   rcases ha with e | e<;>subst e
   ·exact⟨_,hK⟩
   ·exact⟨_,hR1⟩
  ·cases e;exact⟨Ne.symm n1,hR1⟩
  have k2':∀b o,b≠r->h1.get? b=some o->h2.get? b=some o:=fun b o n e=>k2 b o (fun z=>n (Option.some.inj z).symm) e
  obtain⟨kx,nx,qx⟩:=Ents.perm px (SetAt.en (s:={s with heap:=h1}) hW)
  have ndw:=SetAt.nd (s:={s with heap:=h1}) hW
  have ndx:kx.Nodup:=qx.nodup_iff.mpr ndw
  refine wpAny_bind (qd (s:={s with heap:=h2}) (hW.at fun o e=>k2' W0 o n1 e) (hK.at fun o e=>k2' K0 o n2 e) n1 n2 nx ndx (by rw[qx.length_eq];omega) (f2 r rfl) (fun b=>b) (fun x=>rfl) fun h3 sb sx=>wpAny_pure (wpAny_pure ?_))
  refine h h3 _ (fun b o e=>?_) sx (ndx.filter _) fun x=>?_
  ·have nb:b≠r:=by rw[<- hr];exact x5 (Heap.lt_size e)
   exact eJ nb sb o (k2' b o nb (kp b o e))
  ·rw [yn,qx.mem_iff,<- hm x]
   simp
 by_cases hc:eT.size>eS.size
 ·rw [if_pos hc]
  exact core S T eS epS tS kS ns aS hT1 ne1 ne2 (by rw[pS.length_eq];exact hl1) fun x=>by rw[pS.mem_iff]
 ·rw [if_neg hc]
  exact core T S eT epT tT kT ms aT hS1 ne2 ne1 (by rw[pT.length_eq];exact hl2) fun x=>by rw[pT.mem_iff];exact And.comm
end
section
variable {P:Program} {w:World} {A:Around} {E:Value->Shared->Prop} {s:Shared} {S T r:Addr} {ks ms ns:List Int} {es:Array (Int×Value)} {ep:Nat} {t:SetTable}
theorem kO {h:Heap} (e:h.get? r=some (aH w)):SetAt w r #[] 0 (.fresh 0 0 (!bw w)) [] h:=
 ⟨_,e,⟨⟨rfl,rfl,rfl⟩,rfl,.nil,zz,by decide,rfl,⟨rfl,fun _=> .nil⟩⟩⟩
theorem l8 {n:Nat} {Q:Unit->Shared->Prop} (hr:s.heap.get? r=some (aH w)) (hn:n<128)
  (h:∀h' ep' t',Heap.SameBut r s.heap h'->SetAt w r #[] ep' t' [] h'->sS (t'.mask+1)->n<=t'.mask->t'.dummies=#[]->Q () {s with heap:=h'}):wpAny (model P w) A (setRoomFor r n) Q E s:=by
 have a:=kO hr
 unfold setRoomFor
 refine wpAny_bind (a.state ?_)
 dsimp only
 by_cases hc:(0+n)*5>=7*3
 ·have e:(SetTable.fresh 0 0 (!bw w)).roomFor n=some ((0+n)*2):=if_pos hc
  rw[e]
  dsimp only
  obtain⟨m1,m2⟩:=eP ((0+n)*2) (by omega)
  refine a.relay (by omega) (by show 0<_;omega) fun h' es' t' ks' sb st p mk dm=>?_
  have:ks'=[]:=yj.mp (by rw[p.length_eq];rfl)
  subst this
  have e0:es'=#[]:=by
   have:=st.en (s:={s with heap:=h'})
   have l:=this.len
   exact Array.eq_empty_of_size_eq_zero (by rw[<- xS,l];rfl)
  subst e0
  exact h h' _ t' sb st (by rw[mk];exact fZ m1) (by omega) dm
 ·have e:(SetTable.fresh 0 0 (!bw w)).roomFor n=none:=if_neg hc
  rw[e]
  exact wpAny_pure (h s.heap 0 _ (Heap.SameBut.refl _ _) a (show sS 8 from fZ (by decide)) (by show n<=7;omega) rfl)
theorem gx {each:Sem Unit} {Q:Unit->Shared->Prop} (hr:s.heap.get? r=some (aH w)) (hS:SetAt w S es ep t ks s.heap) (hne:r≠S) (hl:ks.length<128) (h0:ks=[]->Q () s)
  (h:∀h' er ep' tr kr,ks≠[]->Heap.SameBut r s.heap h'->SetAt w r er ep' tr kr h'->kr.Perm ks->Q () {s with heap:=h'}):wpAny (model P w) A (setMerge r S each) Q E s:=by
 have sz:=hS.sz
 unfold setMerge
 rw[if_neg (by simpa using hne)]
 refine wpAny_bind (hS.state ?_)
 dsimp only
 by_cases he:es.isEmpty=true
 ·rw [if_pos he]
  refine wpAny_pure (h0 (yj.mp ?_))
  rw[<- sz];simpa using he
 rw[if_neg he]
 have kne:ks≠[]:=fun z=>he (by rw[z]at sz;simpa using sz)
 refine wpAny_bind (l8 hr (by omega) fun h1 ep1 t1 sb1 a1 c1 n1 d1=>?_)
 have hS1:SetAt w S es ep t ks h1:=hS.at (eJ (Ne.symm hne) sb1)
 refine wpAny_bind (SetAt.state (s:={s with heap:=h1}) a1 ?_)
 dsimp only
 have tb1:=SetAt.tb (s:={s with heap:=h1}) a1
 have tbS:=hS.tb
 have ft1:=SetAt.ft (s:={s with heap:=h1}) a1
 have p0:t1.place.size=0:=by
  have:=ft1
  simp only[SetTable.fits,yw,beq_iff_eq]at this
  exact this.1
 have fl:t1.fill=0:=by unfold SetTable.fill;rw[p0,d1];rfl
 have ld:(t1.led&&t.led)= !bw w:=by rw[tb1.led,tbS.led];simp
 by_cases hc:(t1.mask==t.mask&&t.dummies.isEmpty)=true
 ·have er:t1.road t= .slotForSlot:=by unfold SetTable.road;rw[fl];simp only[bne_self_eq_false,yr,if_false];rw[if_pos hc]
  rw[er]
  dsimp only
  refine SetAt.store (s:={s with heap:=h1}) a1 hS.en hS.nd hS.lt4 hS.ft ⟨ld,fun z=>tbS.rise ?_⟩ fun h2 sb2 a2=>?_
  ·have z:(t1.plain&&t.plain)=true:=z
   simp at z;exact z.2
  ·exact h h2 _ _ _ _ kne (sb1.trans sb2) a2 (.refl _)
 ·have er:t1.road t= .clean:=by unfold SetTable.road;rw[fl];simp only[bne_self_eq_false,yr,if_false];rw[if_neg hc]
  rw[er]
  dsimp only
  have hsz:(es.map (·.1)).size=es.size:=Array.size_map ..
  obtain⟨t',o,e,L⟩:=ji (mask:=t1.mask) (finger:=t1.finger) (moves:=t1.moves) (led:=t1.led&&t.led) (plain:=t1.plain&&t.plain) (hs:=es.map (·.1)) c1 (by rw[hsz];exact n1)
  rw[e]
  have pm:=L.pm
  rw[hsz]at pm
  refine wpAny_bind (kN (by rfl) pm ?_)
  dsimp only
  have pp:=eQ pm
  obtain⟨ks',n',q'⟩:=Ents.perm pp hS.en
  have z:(o.filterMap (es[·]?)).size=es.size:=by have:=pp.length_eq;rw[xS,xS]at this;exact this
  refine SetAt.store (s:={s with heap:=h1}) a1 n' (q'.nodup_iff.mpr hS.nd) (by rw[q'.length_eq];exact hS.lt4) (by rw[z,<- hsz];exact L.ft) ⟨by rw[L.ld];exact ld,fun _=>L.rs⟩ fun h2 sb2 a2=>?_
  exact h h2 _ _ _ _ kne (sb1.trans sb2) a2 q'
theorem rS {Q:Value->Shared->Prop} (hS:SX w S ms s.heap) (hl:ms.length<128)
  (h:∀h' er ep' tr kr,(∀b o,s.heap.get? b=some o->h'.get? b=some o)->SetAt w s.heap.objs.size er ep' tr kr h'->kr.Perm ms->(ms=[]->h'.get? s.heap.objs.size=some (aH w))->Q (.ref s.heap.objs.size) {s with heap:=h'}):wpAny (model P w) A (Builtin.Frozenset.copyOf S) Q E s:=by
 unfold Builtin.Frozenset.copyOf
 refine wpAny_bind (jj hS.ty (wpAny_bind (jk ?_)))
 have hne:s.heap.objs.size≠S:=zc hS.lt
 have kp:∀b o,s.heap.get? b=some o->(s.heap.push (aH w)).get? b=some o:=fun b o e=>Heap.get?_push_of_some _ e
 have hr:(s.heap.push (aH w)).get? s.heap.objs.size=some (aH w):=Heap.get?_push_size _ rfl
 obtain⟨es,ep,t,ks,aS,pS⟩:=fF (hS.at (kp S))
 refine wpAny_bind (wpAny_pure (wpAny_bind (gx (s:={s with heap:=s.heap.push (aH w)}) hr aS hne (by rw[pS.length_eq];exact hl) (fun e=>?_) fun h' er ep' tr kr kne sb a p=>?_)))
 ·subst e
  have em:ms=[]:=yj.mp (by rw[<- pS.length_eq];rfl)
  exact wpAny_pure (h _ _ _ _ _ kp (kO hr) (by rw[em]) fun _=>hr)
 ·refine wpAny_pure (h h' er ep' tr kr (fun b o e=>eJ (x5 (Heap.lt_size e)) sb o (kp b o e)) a (p.trans pS) fun e=>?_)
  subst e
  exact absurd (yj.mp (by rw[pS.length_eq];rfl)) kne
end
theorem og (acc:List Int) (x:Int):(bF acc x).length<=acc.length+1:=by
 unfold bF
 split
 ·omega
 ·simp
section
variable {P:Program} {w:World} {A:Around} {E:Value->Shared->Prop} {s:Shared} {S T r:Addr} {ks kr ms ns:List Int} {es er:Array (Int×Value)} {ep epr:Nat} {t tr:SetTable}
theorem SX.nd {h:Heap} (x:SX w S ms h):ms.Nodup:=by
 obtain⟨o,es,ep,t,ks,e,r,p⟩:=x
 exact p.nodup_iff.mp r.nd
theorem SetAt.room {n:Nat} {Q:Unit->Shared->Prop} (hR:SetAt w r er epr tr kr s.heap) (hn:kr.length+n<128)
  (h:∀h' er' ep' t' kr',Heap.SameBut r s.heap h'->SetAt w r er' ep' t' kr' h'->kr'.Perm kr->Q () {s with heap:=h'}):wpAny (model P w) A (setRoomFor r n) Q E s:=by
 have sz:=hR.sz
 have pz:=fY hR.ft
 unfold setRoomFor
 refine wpAny_bind (hR.state ?_)
 dsimp only
 by_cases hc:(tr.fill+n)*5>=tr.mask*3
 ·have e:tr.roomFor n=some ((tr.place.size+n)*2):=if_pos hc
  rw[e]
  dsimp only
  obtain⟨m1,m2⟩:=eP ((tr.place.size+n)*2) (by omega)
  exact hR.relay (by omega) (by omega) fun h' es' t' ks' sb st p _ _=>h h' _ _ _ _ sb st p
 ·have e:tr.roomFor n=none:=if_neg hc
  rw[e]
  exact wpAny_pure (h s.heap _ _ _ _ (Heap.SameBut.refl _ _) hR (.refl _))
theorem l9 {each:Sem Unit} {Q:Unit->Shared->Prop} (hR:SetAt w r er epr tr kr s.heap) (hS:SetAt w S es ep t ks s.heap) (hne:r≠S) (hl:kr.length+ks.length<128) (hkr:kr≠[])
  (heach:∀(s':Shared) (Q':Unit->Shared->Prop),SetAt w S es ep t ks s'.heap->Q' () s'->wpAny (model P w) A each Q' E s')
  (h:∀h' acc,(∀b o,b≠r->s.heap.get? b=some o->h'.get? b=some o)->SX w r acc h'->(∀x,x∈acc<->x∈kr\/x∈ks)->Q () {s with heap:=h'}):wpAny (model P w) A (setMerge r S each) Q E s:=by
 have sz:=hS.sz
 unfold setMerge
 rw[if_neg (by simpa using hne)]
 refine wpAny_bind (hS.state ?_)
 dsimp only
 by_cases he:es.isEmpty=true
 ·rw [if_pos he]
  have:ks=[]:=yj.mp (by rw[<- sz];simpa using he)
  refine wpAny_pure (h s.heap kr (fun _ _ _ e=>e) (hR.sx (.refl _)) fun x=>?_)
  rw[this];simp
 rw[if_neg he]
 refine wpAny_bind (hR.room (by omega) fun h1 er1 ep1 t1 kr1 sb1 a1 p1=>?_)
 have hS1:SetAt w S es ep t ks h1:=hS.at (eJ (Ne.symm hne) sb1)
 refine wpAny_bind (SetAt.state (s:={s with heap:=h1}) a1 ?_)
 dsimp only
 have sz1:=SetAt.sz (s:={s with heap:=h1}) a1
 have pz1:=fY (SetAt.ft (s:={s with heap:=h1}) a1)
 have fl:t1.fill≠0:=by
  unfold SetTable.fill
  have:kr1.length≠0:=by rw[p1.length_eq];exact fun z=>hkr (yj.mp z)
  omega
 have er':t1.road t= .oneByOne:=by unfold SetTable.road;rw[if_pos (by simpa using fl)]
 rw[er']
 dsimp only
 have sx1:SX w r kr h1:=SetAt.sx (s:={s with heap:=h1}) a1 p1
 refine wpAny_bind (SetAt.walk (s:={s with heap:=h1}) (ms:=kr) hS1 (fun a ha=>?_) (fun a e=>?_) fun xs h2 px k2 f2=>?_)
 ·rw [xX.mp ha];exact⟨_,sx1⟩
 ·cases e;exact⟨hne,sx1⟩
 have k2':∀b o,b≠r->h1.get? b=some o->h2.get? b=some o:=fun b o n e=>k2 b o (fun z=>n (Option.some.inj z).symm) e
 obtain⟨kx,nx,qx⟩:=Ents.perm px (SetAt.en (s:={s with heap:=h1}) hS1)
 refine wpAny_bind (PySem.MeetsSeq2.wpAny_forIn_array _ (fun ck _ s'=>∃kq acc h',Ents ck kq/\s'={s with heap:=h'}/\(∀b o,b≠r->h2.get? b=some o->h'.get? b=some o)/\SX w r acc h'/\(∀x,x∈acc\/x∈kq<->x∈kr\/x∈kx)/\acc.length+kq.length<128) _ ?_ ?_ xs _ ⟨kx,kr,h2,nx,rfl,(fun _ _ _ e=>e),f2 r rfl,fun x=>Iff.rfl,by rw[qx.length_eq];exact hl⟩)
 ·rintro x ck b s' ⟨kq,acc,h3,eq,rfl,k3,sx3,m3,l3⟩
  cases eq with
  | @cons _ k _ kq' q eq'=>
   obtain⟨tk,rfl⟩:=q
   rw[yC]at l3
   dsimp only
   refine wpAny_bind (wpAny_holding (l5 (s:={s with heap:=h3}) sx3 (by omega) fun _ h4 sb4 sx4=>?_))
   have k4:∀b o,b≠r->h2.get? b=some o->h4.get? b=some o:=fun b o n e=>eJ n sb4 o (k3 b o n e)
   have hS4:SetAt w S es ep t ks h4:=hS1.at fun o e=>k4 S o (Ne.symm hne) (k2' S o (Ne.symm hne) e)
   refine wpAny_bind (heach {s with heap:=h4} _ hS4 ?_)
   refine wpAny_bind (SetAt.state (s:={s with heap:=h4}) hS4 ?_)
   dsimp only
   rw[if_neg (by simp)]
   refine wpAny_pure ⟨kq',_,h4,eq',rfl,k4,sx4,fun x=>?_,?_⟩
   ·rw [jf,<- m3 x,xY,or_assoc]
   ·have:=og acc k;omega
 ·rintro b s' ⟨kq,acc,h3,eq,rfl,k3,sx3,m3,l3⟩
  cases eq
  refine wpAny_pure (h h3 acc (fun b o n e=>k3 b o n (k2' b o n (eJ n sb1 o e))) sx3 fun x=>?_)
  rw[<- qx.mem_iff (a:=x),<- m3 x];simp
end
section
variable {P:Program} {w:World} {A:Around} {E:Value->Shared->Prop} {s:Shared} {S T r:Addr} {ks kr ms ns:List Int} {es er:Array (Int×Value)} {ep epr:Nat} {t tr:SetTable}
theorem qf {id:String} {Q:Value->Shared->Prop} (hS:SX w S ms s.heap) (hT:SX w T ns s.heap) (hne:S≠T) (hl:ms.length+ns.length<128)
  (h:∀h' ks,(∀b o,s.heap.get? b=some o->h'.get? b=some o)->SX w s.heap.objs.size ks h'->(∀x,x∈ks<->x∈ms\/x∈ns)->Q (.ref s.heap.objs.size) {s with heap:=h'}):
  wpAny (model P w) A (do
   let result <- Builtin.Frozenset.copyOf S
   if(Value.ref T != Value.ref S)=true then
    let a <- Builtin.Frozenset.addrOf result
    holding [result] (Builtin.Frozenset.updateFrom id a (.ref T))
   return result) Q E s:=by
 refine wpAny_bind (rS hS (by omega) fun h1 er ep1 tr kr kp aR pR fr=>?_)
 have lT:=hT.lt
 have hTr:s.heap.objs.size≠T:=zc lT
 have hT1:SX w T ns h1:=hT.at (kp T)
 obtain⟨eT,epT,tT,kT,aT,pT⟩:=fF hT1
 rw[if_pos (by simp;exact fun z=>hne z.symm)]
 refine wpAny_bind (wpAny_pure (wpAny_bind (wpAny_holding ?_)))
 unfold Builtin.Frozenset.updateFrom
 refine wpAny_bind (cy (s:={s with heap:=h1}) hT1.ty ?_)
 rw[if_pos rfl]
 refine wpAny_bind (wpAny_pure ?_)
 unfold Builtin.Frozenset.merge
 refine wpAny_bind (SetAt.epoch (s:={s with heap:=h1}) aT ?_)
 have lenT:=pT.length_eq
 by_cases em:ms=[]
 ·refine gx (s:={s with heap:=h1}) (fr em) aT hTr (by omega) (fun e=>?_) fun h2 er2 ep2 tr2 kr2 _ sb2 a2 p2=>?_
  ·refine wpAny_pure (h h1 kr kp (SetAt.sx (s:={s with heap:=h1}) aR (.refl _)) fun x=>?_)
   rw[pR.mem_iff,<- pT.mem_iff (a:=x),e];simp
  ·refine wpAny_pure (h h2 kr2 (fun b o e=>eJ (x5 (Heap.lt_size e)) sb2 o (kp b o e)) (SetAt.sx (s:={s with heap:=h2}) a2 (.refl _)) fun x=>?_)
   rw[p2.mem_iff,pT.mem_iff,em];simp
 ·refine l9 (s:={s with heap:=h1}) aR aT hTr (by rw[pR.length_eq,lenT];exact hl) (fun z=>em ?_) (fun s' Q' a q=>jK a q) fun h2 acc k2 sx2 m2=>?_
  ·subst z;exact yj.mp (by rw[<- pR.length_eq];rfl)
  ·refine wpAny_pure (h h2 acc (fun b o e=>k2 b o (x5 (Heap.lt_size e)) (kp b o e)) sx2 fun x=>?_)
   rw[m2,pR.mem_iff,pT.mem_iff]
end
section
variable {P:Program} {w:World} {A:Around} {E:Value->Shared->Prop} {s:Shared} {S T r:Addr} {ks kr ms ns:List Int} {es er:Array (Int×Value)} {ep epr:Nat} {t tr:SetTable}
end
theorem c3:Slot "set" "__and__" "set.__and__":= .of (owner:="set") (n:="__and__") (by rw[typeLookup_type,builtinLookup_eq_fast];kernel_rfl) (by decide +kernel) (by decide +kernel) (by decide +kernel) (.inl (by decide +kernel)) (by rw[isSubtype_type];kernel_rfl)
theorem iM:entryFor table "set.__and__"=some Builtin.«frozenset.__and__»:=entryFor_alias (id':="frozenset.__and__") (by kernel_rfl) rfl (by decide +kernel) (by kernel_rfl)
theorem jL (a b:Value):argsOk "set.__and__" ⟨[a,b],[]⟩:=by unfold argsOk;kernel_rfl
theorem jM:fillsNumberSlot (.type "set") "and"=pure true:=fillsNumberSlot_of c3.lookup (by decide +kernel) (r:=some (.builtin "set.__rand__")) (by rw[typeLookup_type,builtinLookup_eq_fast];kernel_rfl)
theorem dC:Slot "set" "__or__" "set.__or__":= .of (owner:="set") (n:="__or__") (by rw[typeLookup_type,builtinLookup_eq_fast];kernel_rfl) (by decide +kernel) (by decide +kernel) (by decide +kernel) (.inl (by decide +kernel)) (by rw[isSubtype_type];kernel_rfl)
theorem jN:entryFor table "set.__or__"=some Builtin.«frozenset.__or__»:=entryFor_alias (id':="frozenset.__or__") (by kernel_rfl) rfl (by decide +kernel) (by kernel_rfl)
theorem kP (a b:Value):argsOk "set.__or__" ⟨[a,b],[]⟩:=by unfold argsOk;kernel_rfl
theorem kQ:fillsNumberSlot (.type "set") "or"=pure true:=fillsNumberSlot_of dC.lookup (by decide +kernel) (r:=some (.builtin "set.__ror__")) (by rw[typeLookup_type,builtinLookup_eq_fast];kernel_rfl)
section
variable {X:Cx}
def sU (w:World) (rel:Int->List Int->List Int->Prop):R2:=fun x y H Q=>∃a b ms ns,x= .ref a/\y= .ref b/\a≠b/\H a=some (.ext (SX w a ms))/\H b=some (.ext (SX w b ns))/\ms.length<64/\ns.length<64/\
 ∀c ks,H c=none->ks.Nodup->(∀x,x∈ks<->rel x ms ns)->Q (.ref c) (aI H c (.ext (SX w c ks)))
theorem rV (w:World) (hw:X.w=w:=by rfl):dw X (binaryOp .BitAnd) (sU w fun x ms ns=>x∈ms/\x∈ns):=by
 subst hw
 intro pins s σ H x y v u Q I rx ry h
 obtain⟨a,b,ms,ns,rfl,rfl,hne,ha,hb,l1,l2,q⟩:=h
 cases rx
 cases ry
 obtain⟨sa,_⟩:=(show ObjOk X.prog X.w H s.heap a (.ext (SX X.w a ms))from I.hok a _ ha)
 obtain⟨sb,_⟩:=(show ObjOk X.prog X.w H s.heap b (.ext (SX X.w b ns))from I.hok b _ hb)
 refine wpAny_binaryOp_same sa.ty sb.ty jM c3 (wpAny_call_entry c3 sa.ty iM ?_ (jL _ _))
 show wpAny _ _ (Builtin.Frozenset.slot1 "__and__" ⟨[.ref a,.ref b],[]⟩ >>= _) _ _ s
 refine wpAny_bind (wpAny_pure ?_)
 refine wpAny_bind ?_
 show wpAny _ _ (Builtin.Frozenset.isAnySet (.ref a) >>= fun c=>_) _ _ _
 refine wpAny_bind (cy sa.ty ?_)
 show wpAny _ _ (Builtin.Frozenset.isAnySet (.ref b)) _ _ _
 refine cy sb.ty ?_
 rw[if_neg (by simp)]
 refine wpAny_bind (wpAny_pure ?_)
 refine wpAny_bind (qe sa sb hne (by omega) (by omega) fun h' ks kp sx nd m=>wpAny_pure ⟨_,rfl,by simp,?_⟩)
 exact⟨.ref s.heap.objs.size,_,I.new' (s':={s with heap:=h'}) kp (xQ _) rfl rfl sx.ok,rfl,q _ ks I.fresh nd m⟩
theorem uq (w:World) (hw:X.w=w:=by rfl):dw X (binaryOp .BitOr) (sU w fun x ms ns=>x∈ms\/x∈ns):=by
 subst hw
 intro pins s σ H x y v u Q I rx ry h
 obtain⟨a,b,ms,ns,rfl,rfl,hne,ha,hb,l1,l2,q⟩:=h
 cases rx
 cases ry
 obtain⟨sa,_⟩:=(show ObjOk X.prog X.w H s.heap a (.ext (SX X.w a ms))from I.hok a _ ha)
 obtain⟨sb,_⟩:=(show ObjOk X.prog X.w H s.heap b (.ext (SX X.w b ns))from I.hok b _ hb)
 refine wpAny_binaryOp_same sa.ty sb.ty kQ dC (wpAny_call_entry dC sa.ty jN ?_ (kP _ _))
 show wpAny _ _ (Builtin.Frozenset.slot1 "__or__" ⟨[.ref a,.ref b],[]⟩ >>= _) _ _ s
 refine wpAny_bind (wpAny_pure ?_)
 refine wpAny_bind ?_
 show wpAny _ _ (Builtin.Frozenset.isAnySet (.ref a) >>= fun c=>_) _ _ _
 refine wpAny_bind (cy sa.ty ?_)
 show wpAny _ _ (Builtin.Frozenset.isAnySet (.ref b)) _ _ _
 refine cy sb.ty ?_
 rw[if_neg (by simp)]
 refine wpAny_bind (wpAny_pure ?_)
 refine wpAny_bind ?_
 refine qf (id:=toString "frozenset."++toString "__or__") sa sb hne (by omega) fun h' ks kp sx m=>?_
 refine wpAny_pure ⟨_,rfl,by simp,?_⟩
 exact⟨.ref s.heap.objs.size,_,I.new' (s':={s with heap:=h'}) kp (xQ _) rfl rfl sx.ok,rfl,q _ ks I.fresh sx.nd m⟩
end
def wc (K:PySem.W.Frag) (a b:Addr):It:=
  ⟨fun i H=>∃xs ys x y,SqL K H a xs/\SqL K H b ys/\xs[i]?=some x/\ys[i]?=some y,
   fun i H v H'=>∃p x y,H p=none/\(∀xs,SqL K H a xs->xs[i]?=some x)/\(∀ys,SqL K H b ys->ys[i]?=some y)/\v= .ref p/\H'=aI H p (.tup [x,y]),
   fun i H=>∃xs ys,SqL K H a xs/\SqL K H b ys/\xs.length<=i⟩
theorem qg {fs ex:List Addr} {H:Hp} {h h':Heap} (k:∀b o,b∉ex->h.get? b=some o->h'.get? b=some o):Un fs ex H H h h' where
 keep:=fun b o q _ _ hx=>k b o hx q
 slot:=fun b o q _ _ hx=>⟨o.slots,k b o hx q⟩
 free:=fun _ _ _ n _=>n
 there:=fun b o q hx=>⟨o,k b o hx q⟩
 tups:=fun _ _ q=>q
 frzs:=fun _ _ _ q=>q
 tbls:=fun b ps q=>⟨#[],by rw[q];simp⟩
theorem qh {P:Program} {w:World} {K:PySem.W.Frag} {es:List Expr} {k1:Nat} {pos:Pos} (z TI TO i1 i2 l1 l2:Addr) (D:ZipApart z TI TO i1 i2 l1 l2):
  Turn P w K (.Tuple es k1 pos) (wc K l1 l2) [z,TI,TO,i1,i2] z (fun i h=>IsZip h z TI TO .none/\IsPair h TI (.ref i1) (.ref i2)/\(∃a b,IsPair h TO a b)/\h.IsListIter i1 l1 i/\h.IsListIter i2 l2 i) where
 mem:=by simp
 obj:=fun i h st b hb=>by
  obtain⟨hz,hTI,⟨a,c,hTO⟩,⟨o1,e1,c1,d1⟩,⟨o2,e2,c2,d2⟩⟩:=st
  simp only[xY,yD,or_false]at hb
  rcases hb with e | e | e | e | e<;>subst e
  ·exact⟨_,hz,fun v y=>by have y':Data.fields _=Data.cell v:=y;cases y'⟩
  ·exact⟨_,hTI,fun v y=>by have y':Data.seq _ _=Data.cell v:=y;cases y'⟩
  ·exact⟨_,hTO,fun v y=>by have y':Data.seq _ _=Data.cell v:=y;cases y'⟩
  ·exact⟨o1,e1,fun v y=>by rw[d1]at y;cases y⟩
  ·exact⟨o2,e2,fun v y=>by rw[d2]at y;cases y⟩
 keep:=fun i h h' st k=>by
  obtain⟨hz,hTI,⟨a,c,hTO⟩,h1,h2⟩:=st
  exact⟨k z (by simp) _ hz,k TI (by simp) _ hTI,⟨a,c,k TO (by simp) _ hTO⟩,h1.at fun o e=>k i1 (by simp) o e,h2.at fun o e=>k i2 (by simp) o e⟩
 item:=by
  intro X hP hw hK hc i pins s σ H E I hf st hg
  subst hP hw hK
  obtain⟨xs,ys,x,y,hq1,hq2,hx,hy⟩:=hg
  obtain⟨its1,rv1,p1,_⟩:=I.list hq1
  obtain⟨its2,rv2,p2,_⟩:=I.list hq2
  obtain⟨u,hu,ru⟩:=rv1.get hx
  obtain⟨v,hv,rv⟩:=rv2.get hy
  obtain⟨hz,hTI,⟨a,c,hTO⟩,h1,h2⟩:=st
  refine wpAny_pyNext_zip_item D hz hTI hTO h1 h2 p1.isList p2.isList (x:=u) (y:=v) (by simpa using hu) (by simpa using hv) fun h' a1 a2 a3 a4 a5 a6 kp=>?_
  refine⟨_,rfl,wpAny_letOwnedTupleGo_zip a1 fun h2' z2 sb=>?_⟩
  have lt:∀{c o},s.heap.get? c=some o->s.heap.objs.size≠c:=fun e=>zc (Heap.lt_size e)
  have kp2:∀b o,b∉[z,TI,TO,i1,i2]->s.heap.get? b=some o->h2'.get? b=some o:=fun b o hb e=>by
   simp only[xY,yD,or_false,not_or]at hb
   exact(sb.2 b hb.1).trans (kp b o hb.1 hb.2.2.1 hb.2.2.2.1 hb.2.2.2.2 e)
  have nz:=lt hz
  have nTI:=lt hTI
  have nTO:=lt hTO
  have n1:s.heap.objs.size≠i1:=by obtain⟨_,e,_⟩:=h1;exact lt e
  have n2:s.heap.objs.size≠i2:=by obtain⟨_,e,_⟩:=h2;exact lt e
  have fr:H s.heap.objs.size=none:=I.fresh
  have e3:h2'.get? s.heap.objs.size=some {cls:= .type "tuple",data:= .seq #[u,v]}:=(sb.2 _ nz).trans a5
  have hch:∀b∈[z,TI,TO,i1,i2],(b∈X.ex\/X.s₀.heap.objs.size<=b)/\b≠X.env.locals/\(∀x c,X.env.cells.lookup x=some c->c≠b)/\∀p∈X.pn++pins,p.1≠b:=fun b hb=>by
   obtain⟨f0,f1,f2,f3,f4,f5⟩:=hf b hb
   exact⟨f3,f1,f4,f5⟩
  have off:∀b o,H b=some o->b∉[z,TI,TO,i1,i2]:=fun b o e m=>by rw[(hf b m).1]at e;cases e
  have hok1:HOk X.prog X.w H h2':=fun b o e=>(I.hok b o e).stay (fun c oc hc q=>kp2 c oc (by rcases hc with y | y;exact(by rw[y];exact off b o e);exact off c _ y) q) (fun _ q=>q) fun _ _ q=>q
  have I2:Inv X pins σ (aI H s.heap.objs.size (.tup [x,y])) {s with heap:=h2'}:=by
   have un:Un (fh X.stack) [z,TI,TO,i1,i2] H (aI H s.heap.objs.size (.tup [x,y])) s.heap h2':={
    keep:=fun b o q _ _ hx=>kp2 b o hx q
    slot:=fun b o q _ _ hx=>⟨o.slots,kp2 b o hx q⟩
    free:=fun b o q n hx=>by rw[ay (x5 (Heap.lt_size q))];exact n
    there:=fun b o q hx=>⟨o,kp2 b o hx q⟩
    tups:=fun b xs q=>by rw[ay (aD q fr)];exact q
    frzs:=fun b o xs q=>by rw[ay (aD q fr)];exact q
    tbls:=fun b ps q=>⟨#[],by rw[ay (aD q fr),q];simp⟩}
   refine I.call' (s':={s with heap:=h2'}) (ch:=[z,TI,TO,i1,i2]) rfl un (fun b o e=>?_) I.bare hch
   by_cases hb:b=s.heap.objs.size
   ·subst hb
    rw[ae]at e
    cases e
    refine⟨cb,[u,v],.cons ru (.cons rv .nil),_,e3,rfl,_,rfl⟩
   ·rw [ay hb]at e
    refine(hok1 b o e).stay (fun _ _ _ q=>q) (fun c q=>by rw[ay (aD q fr)];exact q) fun c xs q=>by rw[ay (aD q fr)];exact q
  refine⟨.ref s.heap.objs.size,_,I2,rfl,⟨_,x,y,fr,fun xs' h=>by rw[I.list_inj h hq1];exact hx,fun ys' h=>by rw[I.list_inj h hq2];exact hy,rfl,rfl⟩,⟨z2,?_,⟨u,v,?_⟩,?_,?_⟩,fun b hb=>?_⟩
  ·exact(sb.2 TI D.TIz).trans (kp TI _ D.TIz D.TITO D.TIi1 D.TIi2 hTI)
  ·exact(sb.2 TO D.TOz).trans a2
  ·exact a3.at fun o e=>(sb.2 i1 D.i1z).trans e
  ·exact a4.at fun o e=>(sb.2 i2 D.i2z).trans e
  ·have hne:b≠s.heap.objs.size:=fun q=>by
    subst q
    simp only[xY,yD,or_false]at hb
    rcases hb with e | e | e | e | e
    ·exact nz e
    ·exact nTI e
    ·exact nTO e
    ·exact n1 e
    ·exact n2 e
   rw[ay hne];exact(hf b hb).1
 done:=by
  intro X hP hw hK hc i pins s σ H E I hf st hg
  subst hP hw hK
  obtain⟨xs,ys,hq1,hq2,hx⟩:=hg
  obtain⟨its1,rv1,p1,_⟩:=I.list hq1
  obtain⟨its2,rv2,p2,_⟩:=I.list hq2
  obtain⟨hz,hTI,⟨a,c,hTO⟩,h1,h2⟩:=st
  have hl:=rv1.length
  have off:∀b o,H b=some o->b∉[z,TI,TO,i1,i2]:=fun b o e m=>by rw[(hf b m).1]at e;cases e
  refine wpAny_pyNext_zip_end (I.ok.hd hc) D hz hTI hTO h1 h2 p1.isList p2.isList (.inl (by simp;omega)) fun h' kp=>⟨rfl,?_⟩
  have kp2:∀b o,b∉[z,TI,TO,i1,i2]->s.heap.get? b=some o->h'.get? b=some o:=fun b o hb e=>by
   simp only[xY,yD,or_false,not_or]at hb
   exact kp b o hb.1 hb.2.2.1 hb.2.2.2.1 hb.2.2.2.2 e
  refine I.call' (s':={s with heap:=h'}) (ch:=[z,TI,TO,i1,i2]) rfl (qg kp2) (fun b o e=>(I.hok b o e).stay (fun c oc hc q=>kp2 c oc (by rcases hc with y | y;exact(by rw[y];exact off b o e);exact off c _ y) q) (fun _ q=>q) fun _ _ q=>q) I.bare fun b hb=>?_
  obtain⟨f0,f1,f2,f3,f4,f5⟩:=hf b hb
  exact⟨f3,f1,f4,f5⟩
 self:=fun _ _ _ _ _ st h=>wpAny_pyIter_zip st.1 h
theorem oi (n l1 l2:Nat) (t1:l1<n) (t2:l2<n):ZipApart (n+4) (n+2) (n+3) n (n+1) l1 l2:=by
 constructor<;>first | exact x5 (by omega) | exact zc (by omega)
section
variable {X:Cx}
def wO (K:PySem.W.Frag) (ta:TA):TI:=fun σ H R=>ta σ H fun vs H1=>∃a b xs ys,vs=[.ref a,.ref b]/\SqL K H1 a xs/\SqL K H1 b ys/\R (wc K a b) H1
theorem ur {a b:Expr} {ta:TA} {p pos tp:Pos} {es:List Expr} {k1:Nat} (K:PySem.W.Frag) (hg:Gl X "zip") (hm:X.mg "zip"=none) (ha:PA X [a,b] ta) (hK:X.K=K:=by rfl) (hs:starEach [a,b] X.env=[(false,eval a X.env),(false,eval b X.env)]:=by rfl) (hs2:starEach [b] X.env=[(false,eval b X.env)]:=by rfl):
  PI X (.Tuple es k1 tp) (.Call (.Name "zip" p) [a,b] [] pos) (wO K ta):=by
 subst hK
 intro pins s σ H R I h
 refine Call_ (fR I hg hm boot_zip (PyProof.Rows.callWith_type1 (bB (ha pos pins s σ H _ I h) fun us s1 ⟨vs,H1,I1,r1,q1⟩=>?_) (by rw[hs,hs2]) (by rw[hs2];rfl)))
 obtain⟨l1,l2,xs,ys,e,hq1,hq2,q⟩:=q1
 subst e
 cases r1 with
 | cons r rr=>
  cases rr with
  | cons r' rr=>
   cases rr
   cases r
   cases r'
   obtain⟨its1,rv1,p1,_⟩:=I1.list hq1
   obtain⟨its2,rv2,p2,_⟩:=I1.list hq2
   have t1:l1<s1.heap.objs.size:=by obtain⟨o,e,_⟩:=p1.isList;exact Heap.lt_size e
   have t2:l2<s1.heap.objs.size:=by obtain⟨o,e,_⟩:=p2.isList;exact Heap.lt_size e
   refine call_zip_2 p1.isList p2.isList fun h' hz hTI hTO h1 h2 hsz kp=>?_
   refine wpAny_pyIter_zip hz ?_
   have D:=oi s1.heap.objs.size l1 l2 t1 t2
   have I2:Inv X pins σ H1 {s1 with heap:=h'}:=I1.kept (t':=s1.toks) kp
   refine⟨_,[s1.heap.objs.size+4,s1.heap.objs.size+2,s1.heap.objs.size+3,s1.heap.objs.size,s1.heap.objs.size+1],_,_,H1,rfl,I2,qh _ _ _ _ _ _ _ D,⟨hz,hTI,⟨_,_,hTO⟩,h1,h2⟩,fun b hb=>?_,q⟩
   have le:s1.heap.objs.size<=b:=by
    simp only[xY,yD,or_false]at hb
    rcases hb with e | e | e | e | e<;>subst e
    ·exact zp _ _
    ·exact zp _ _
    ·exact zp _ _
    ·exact xQ _
    ·exact zp _ _
   exact I1.fpOk le (I1.hok.fresh le)
end
def uS (c:Int):Value->Bool
 | .int a _=>a==c
 | _=>false
theorem m4 {ns:List Int} {its:List Value} (r:Vals (ns.map V.int) its) (c:Int) (t:Tok):∀y,y∈its.toArray->MeetsSeq.EqGives y (.int c t) (uS c y):=fun y hy=>by
 have hy:y∈its:=by simpa using hy
 obtain⟨i,hi,e⟩:=xZ.mp hy
 obtain⟨x,hx,rx⟩:=bW r (xK hi)
 rw[xR]at hx
 obtain⟨k,_,ek⟩:=ya.mp hx
 subst ek
 obtain⟨t',et⟩:=rx
 rw[<- e,et]
 exact MeetsSeq.EqGives.int k c t' t
theorem gN {ns:List Int} {its:List Value} (r:Vals (ns.map V.int) its) (c:Int) {i:Nat} (hi:i<its.toArray.size) (hn:i<ns.length):uS c its.toArray[i]=(ns[i]==c):=by
 have hi':i<its.length:=by simpa using hi
 obtain⟨x,hx,rx⟩:=bW r (xK hi')
 rw[xR,xK hn]at hx
 have hx:=Option.some.inj hx
 subst hx
 obtain⟨t',et⟩:=rx
 have:its.toArray[i]=its[i]:=by simp
 rw[this,et];rfl
section
variable {X:Cx}
def uu:V->List V->Hp->VK->Prop:=fun x vs H Q=>∃(l:Addr) (ns:List Int) (c:Int) (j:Nat),x= .ref l/\vs=[.int c]/\H l=some (.lst (ns.map V.int))/\ns[j]?=some c/\(∀m,m<j->ns[m]?≠some c)/\ns.length<100000/\Q (.int ((j:Nat):Int)) H
theorem vt:wa X "list.index" uu:=by
 intro pins s σ H x vs v us Q I rx rv h
 obtain⟨l,ns,c,j,rfl,rfl,hH,hj,hno,hz,q⟩:=h
 cases rx
 obtain⟨u,e1,ru⟩:=cR rv
 subst e1
 obtain⟨t,rfl⟩:=ru
 obtain⟨z,its,n,r,hl,e⟩:=I.lstM hH
 have hlen:=r.length
 rw[xM]at hlen
 have hjl:=(xP.mp hj).1
 have hji:j<its.toArray.size:=by rw[xU];omega
 have hit:uS c its.toArray[j]=true:=by
  rw[gN r c hji hjl]
  have:=(xP.mp hj).2
  rw[this];simp
 refine call_meets PySem.F.slot_list_index ⟨_,e,rfl⟩ PySem.F.entry_list_index (PySem.F.args_list_index_2 _ _) (MeetsSeq.list_index l its.toArray n (.int c t) (uS c) (m4 r c t) j hji (by omega) hit fun m hm hlt=>?_) ⟨e,?_⟩
 ·have hmn:m<ns.length:=by rw[xU]at hm;omega
  rw[gN r c hm hmn]
  have:=hno m hlt
  rw[xK hmn]at this
  simpa using this
 ·exact⟨.int ((j:Nat):Int),H,I.tok _,⟨_,rfl⟩,q⟩
def rW:V->List V->Hp->VK->Prop:=fun x vs H Q=>∃(l:Addr) (ns:List Int) (c:Int) (j:Nat),x= .ref l/\vs=[.int c]/\H l=some (.lst (ns.map V.int))/\ns[j]?=some c/\(∀m,m<j->ns[m]?≠some c)/\Q .non (aI H l (.lst ((ns.eraseIdx j).map V.int)))
theorem oj:wa X "list.remove" rW:=by
 intro pins s σ H x vs v us Q I rx rv h
 obtain⟨l,ns,c,j,rfl,rfl,hH,hj,hno,q⟩:=h
 cases rx
 obtain⟨u,e1,ru⟩:=cR rv
 subst e1
 obtain⟨t,rfl⟩:=ru
 obtain⟨z,its,n,r,hl,e⟩:=I.lstM hH
 have hlen:=r.length
 have hlen2:=hlen
 rw[xM]at hlen
 have hjl:=(xP.mp hj).1
 have hji:j<its.toArray.size:=by rw[xU];omega
 have hit:uS c its.toArray[j]=true:=by
  rw[gN r c hji hjl]
  have:=(xP.mp hj).2
  rw[this];simp
 refine call_meets PySem.F.slot_list_remove ⟨_,e,rfl⟩ PySem.F.entry_list_remove (PySem.F.args_list_remove_2 _ _) (MeetsSeq.list_remove l its.toArray n (.int c t) (uS c) (m4 r c t) j hji hit (fun m hm hlt=>?_) (by rw[xU];omega)) ⟨e,?_⟩
 ·have hmn:m<ns.length:=by rw[xU]at hm;omega
  rw[gN r c hm hmn]
  have:=hno m hlt
  rw[xK hmn]at this
  simpa using this
 ·refine⟨.non,_,I.lset (its':=its.eraseIdx j) hH e ?_ ?_ ?_,rfl,q⟩
  ·simp
  ·have:(ns.eraseIdx j).map V.int=(ns.map V.int).eraseIdx j:=by
    rw[List.eraseIdx_eq_take_drop_succ,List.eraseIdx_eq_take_drop_succ,yo,zE,List.map_drop]
   rw[this];exact r.eraseIdx j
  ·rw [xM];exact yd (List.length_eraseIdx_le ..) (by rw[xM]at z;exact z)
end
section
variable {X:Cx}
end
section
variable {X:Cx}
end
section
variable {X:Cx}
end
section
open PySem.AutoSeq1 (wpAny_loadPart')
open PySem.MeetsSeq PySem.MeetsSeq2 PySem.MeetsSeq3
end
section
variable {X:Cx}
end
theorem c4 {J:It} {H1:Hp} {js:List (Option Nat)} {σ:L2.St} {tc:TT} {te:TE} {Q:VK} (n:Nat) (item:Nat->V) (p:Nat->Bool) (P:Addr->Nat->V->Hp->Prop) (hn:n<100000)
  (mono:∀acc i v H H',P acc i v H->SameBut acc H H'->P acc i v H')
  (hgo:∀i H,i<n->Same H1 H->J.go i H) (hst:∀H,Same H1 H->J.stop n H) (hy:∀i H x H',i<n->Same H1 H->J.yld i H x H'->H'=H/\x=item i)
  (hc:∀i,i<n->∀H2 R,Same H1 H2->(∀H3,Same H2 H3->R (p i) H3)->tc (some (item i) :: bV σ js) H2 R)
  (he:∀acc i,i<n->p i=true->∀H2 R,Same H1 H2->H1 acc=none->H2 acc≠none->(∀v H3,Same H2 H3->P acc i v H3->R v H3)->te (some (item i) :: bV σ js) H2 R)
  (hQ:∀acc vs H',Same H1 H'->H1 acc=none->H' acc=some (.lst vs)->Paired (fun i v=>P acc i v H') ((xO n).filter p) vs->Q (.ref acc) H'):
  b9 J H1 (none :: js) (bC 0) tc te σ Q:=by
 intro acc hacc
 refine⟨fun i m ys H=>m=n-i/\i<=n/\Same H1 H/\H acc=some (.lst ys)/\Paired (fun k v=>P acc k v H) ((xO i).filter p) ys,⟨n,by simp,yx _,Same.new hacc,ae,.nil⟩,?_⟩
 rintro i m ys H ⟨rfl,hi,s1,ha,hp⟩
 by_cases hlt:i<n
 ·refine .inr ⟨hgo i H hlt s1,fun ys' H'=>i<n/\Same H1 H'/\H' acc=some (.lst ys')/\Paired (fun k v=>P acc k v H') ((xO (i+1)).filter p) ys',fun ys' H' ⟨z,a,b,c⟩=>⟨n-(i+1),yI _ _ hlt,rfl,hlt,a,b,c⟩,fun x H' y=>?_⟩
  obtain⟨rfl,rfl⟩:=hy i H x H' hlt s1 y
  refine⟨mR,hc i hlt _ _ s1 fun H2 s2=>⟨fun hb=>?_,fun hb=>?_⟩⟩
  ·have ha2:=s2 _ _ ha
   refine he acc i hlt hb _ _ (s1.trans s2) hacc (by rw[ha2];simp) fun v H3 s3 pv=>?_
   have hlen:ys.length<=i:=by
    rw[<- Paired.length hp]
    exact yd (yy _ _) (by simp)
   refine⟨s3 _ _ ha2,oS (by omega),hlt,((s1.trans s2).trans s3).put hacc,ae,?_⟩
   rw[y9,yP]
   have e:zJ p [i]=[i]:=by simp[hb]
   rw[e]
   refine Paired.snoc (Paired.mapP hp fun k v q=>?_) ?_
   ·exact mono acc k v _ _ (mono acc k v _ _ q (s2.trans s3).but) SameBut.upd
   ·exact mono acc i v _ _ pv SameBut.upd
  ·refine⟨hlt,s1.trans s2,s2 _ _ ha,?_⟩
   rw[y9,yP]
   have e:zJ p [i]=[]:=by simp[hb]
   rw[e,zu]
   exact Paired.mapP hp fun k v q=>mono acc k v _ _ q s2.but
 ·have e:i=n:=yW hi (yH hlt)
  subst e
  exact .inl ⟨hst H s1,hQ acc ys H s1 hacc ha hp⟩
theorem gc {H1:Hp} {js:List (Option Nat)} {σ:L2.St} {tc:TT} {te:TE} {Q:VK} {n:Nat} (p:Nat->Bool) (hn:n<100000)
  (hc:∀i:Nat,i<n->∀H2 R,Same H1 H2->(∀H3,Same H2 H3->R (p i) H3)->tc (some (.int (0+(i:Int))) :: bV σ js) H2 R)
  (he:∀i:Nat,i<n->∀H2 R,R (.int ((i:Nat):Int)) H2->te (some (.int (0+(i:Int))) :: bV σ js) H2 R)
  (hQ:∀acc H',Same H1 H'->H1 acc=none->H' acc=some (.lst (((xO n).filter p).map fun(i:Nat)=>V.int (i:Int)))->Q (.ref acc) H'):b9 (lA 0 n) H1 (none :: js) (bC 0) tc te σ Q:=
 c4 (J:=lA 0 n) (H1:=H1) (js:=js) (σ:=σ) (tc:=tc) (te:=te) (Q:=Q) n (fun i=> .int (0+(i:Int))) p (fun _ i v _=>v=V.int (i:Int)) hn (fun _ _ _ _ _ h _=>h)
  (fun _ _ h _=>h) (fun _ _=>xQ _) (fun _ _ _ _ _ _ y=>y) hc (fun _ i hi _ H2 R s _ _ k=>he i hi H2 R (k _ H2 (Same.refl _) rfl))
  fun acc vs H' s n' e p=>hQ acc H' s n' (by rw[e,cZ p])
theorem Same.seqT {K:PySem.W.Frag} {H H':Hp} {a:Addr} {xs:List V} (e:Same H H') (h:SqT K H a xs):SqT K H' a xs:=by
 rcases h with(h | ⟨o,h⟩) | h
 ·exact .inl (.inl (e _ _ h))
 ·exact .inl (.inr ⟨o,e _ _ h⟩)
 ·exact .inr h
theorem fG {K:PySem.W.Frag} {H1:Hp} {js:List (Option Nat)} {σ:L2.St} {tc:TT} {te:TE} {Q:VK} {a:Addr} {xs:List V} (p:Nat->Bool) (f:Nat->V) (hl:SqT K H1 a xs) (hn:xs.length<100000)
  (hc:∀(i:Nat) x,xs[i]?=some x->∀H2 R,Same H1 H2->(∀H3,Same H2 H3->R (p i) H3)->tc (some x :: bV σ js) H2 R)
  (he:∀(i:Nat) x,xs[i]?=some x->p i=true->∀H2 R,Same H1 H2->(∀H3,Same H2 H3->R (f i) H3)->te (some x :: bV σ js) H2 R)
  (hQ:∀acc H',Same H1 H'->H1 acc=none->H' acc=some (.lst (((xO xs.length).filter p).map f))->Q (.ref acc) H'):b9 (u5 K a) H1 (none :: js) (bC 0) tc te σ Q:=
 c4 (J:=u5 K a) (H1:=H1) (js:=js) (σ:=σ) (tc:=tc) (te:=te) (Q:=Q) xs.length (fun i=>xs.getD i .non) p (fun _ i v _=>v=f i) hn (fun _ _ _ _ _ h _=>h)
  (fun i H h s=>⟨xs,xs[i],Same.seqT s hl,by simp[h]⟩) (fun H s=>⟨xs,Same.seqT s hl,xQ _⟩)
  (fun i H x H' h s y=>⟨y.1,by have e:=y.2 xs (Same.seqT s hl);simp[e]⟩)
  (fun i h H2 R s k=>hc i _ (by simp[h]) H2 R s k) (fun acc i h hp H2 R s n1 n2 k=>he i _ (by simp[h]) hp H2 R s fun H3 s3=>k _ H3 s3 rfl)
  fun acc vs H' s n' e p=>hQ acc H' s n' (by rw[e,cZ p])
def lB (f:Nat->Int) (st:List Nat):Nat:=(dd (st.map f)).length
theorem qi (f:Nat->Int) (st:List Nat) (i:Nat):lB f (st++[i])=if f i∈st.map f then lB f st else lB f st+1:=by
 unfold lB
 rw[yo,yF,List.map_nil,jH]
 unfold bF
 by_cases h:f i∈st.map f
 ·rw [if_pos h,if_pos (br.mpr h)]
 ·rw [if_neg h,if_neg fun z=>h (br.mp z),xV,x9]
theorem b3 {K:PySem.W.Frag} {H1:Hp} {js:List (Option Nat)} {σ:L2.St} {tc:TT} {te:TE} {Q:VK} {a:Addr} {xs:List V} (p:Nat->Bool) (f:Nat->V) (hl:SqL K H1 a xs) (hn:xs.length<100000)
  (hc:∀(i:Nat) x,xs[i]?=some x->∀H2 R,Same H1 H2->(∀H3,Same H2 H3->R (p i) H3)->tc (some x :: bV σ js) H2 R)
  (he:∀(i:Nat) x,xs[i]?=some x->p i=true->∀H2 R,Same H1 H2->(∀H3,Same H2 H3->R (f i) H3)->te (some x :: bV σ js) H2 R)
  (hQ:∀acc H',Same H1 H'->H1 acc=none->H' acc=some (.lst (((xO xs.length).filter p).map f))->Q (.ref acc) H'):b9 (mC K a) H1 (none :: js) (bC 0) tc te σ Q:=
 c4 (J:=mC K a) (H1:=H1) (js:=js) (σ:=σ) (tc:=tc) (te:=te) (Q:=Q) xs.length (fun i=>xs.getD i .non) p (fun _ i v _=>v=f i) hn (fun _ _ _ _ _ h _=>h)
  (fun i H h s=>⟨xs,xs[i],s.seq hl,by simp[h]⟩) (fun H s=>⟨xs,s.seq hl,xQ _⟩)
  (fun i H x H' h s y=>⟨y.1,by have e:=y.2 xs (s.seq hl);simp[e]⟩)
  (fun i h H2 R s k=>hc i _ (by simp[h]) H2 R s k) (fun acc i h hp H2 R s n1 n2 k=>he i _ (by simp[h]) hp H2 R s fun H3 s3=>k _ H3 s3 rfl)
  fun acc vs H' s n' e p=>hQ acc H' s n' (by rw[e,cZ p])
theorem vv {α:Type} {st:List Nat} {g:Nat->Bool} {F:Nat->α}:(((xO st.length).filter fun j=>g (st.getD j 0)).map fun j=>F (st.getD j 0))=(st.filter g).map F:=by
 have e0:st=(xO st.length).map fun i=>st.getD i 0:=by
  apply yO
  ·simp
  ·intro i h1 h2;simp[h1]
 conv=>rhs;rw[e0]
 rw[List.filter_map,yA]
 rfl
def brk (f:Nat->Int) (n:Nat) (wd:Str) (k:Int) (st:List Nat):Bool:=
 if wd="most" then decide (k<((lB f (st.filter fun i=>decide (i<n)):Nat):Int))else decide (((lB f (st.filter fun i=>decide (i<n)):Nat):Int)+(st.length:Int)-((st.filter fun i=>decide (i<n)).length:Int)<k)
def fx (hs:List Int) (x:Int):Nat:=hs.findIdx fun y=>decide (y=x)
theorem vw {hs:List Int} {x:Int} (h:x∈hs):hs[fx hs x]?=some x:=by
 have hl:fx hs x<hs.length:=y0 ⟨x,h,by simp⟩
 have:=List.findIdx_getElem (xs:=hs) (p:=fun y=>decide (y=x)) (w:=hl)
 rw[xK hl]
 exact congrArg some (of_decide_eq_true this)
theorem vx {hs:List Int} {x:Int} {m:Nat} (h:m<fx hs x):hs[m]?≠some x:=fun z=>by
 obtain⟨hm,e⟩:=xP.mp z
 have:=List.not_of_lt_findIdx h
 rw[e]at this
 simp at this
def rX (hs:List Int) (k:Nat):Nat:=(dd (hs.take (fx hs (hs.getD k 0)))).length
def kc (hs:List Int):List Nat:=(xO hs.length).map (rX hs)
theorem dZ {hs:List Int}:(kc hs).length=hs.length:=by unfold kc;simp
theorem md {hs:List Int} {k:Nat} (h:k<hs.length):(kc hs)[k]?=some (rX hs k):=by
 unfold kc
 rw[xR,y3 h];rfl
theorem gy {H1:Hp} {js:List (Option Nat)} {σ:L2.St} {te:TE} {Q:VK} {n:Nat} (f:Nat->List V) (hn:n<100000)
  (he:∀i:Nat,i<n->∀H2 R,Same H1 H2->(∀r H3,Same H2 H3->H2 r=none->H3 r=some (.lst (f i))->R (.ref r) H3)->te (some (.int (0+(i:Int))) :: bV σ js) H2 R)
  (hQ:∀acc (rs:List Addr) H',Same H1 H'->H1 acc=none->H' acc=some (.lst (rs.map V.ref))->rs.length=n->(∀(i:Nat) r,rs[i]?=some r->H' r=some (.lst (f i))/\H1 r=none)->(∀r∈rs,r≠acc)->Q (.ref acc) H'):
  b9 (lA 0 n) H1 (none :: js) (bC 0) fv te σ Q:=
 c4 (J:=lA 0 n) (H1:=H1) (js:=js) (σ:=σ) (tc:=fv) (te:=te) (Q:=Q) n (fun i=> .int (0+(i:Int))) (fun _=>true) (fun acc i v H=>∃r,v= .ref r/\r≠acc/\H1 r=none/\H r=some (.lst (f i))) hn
  (fun acc i v H H' ⟨r,e,n,h0,h⟩ s=>⟨r,e,n,h0,s r _ n h⟩) (fun _ _ h _=>h) (fun _ _=>xQ _) (fun _ _ _ _ _ _ y=>y) (fun _ _ _ _ _ h=>h _ (Same.refl _))
  (fun acc i hi _ H2 R s n1 n2 k=>he i hi H2 R s fun r H3 s3 nr h3=>k _ H3 s3 ⟨r,rfl,fun z=>n2 (by rw[<- z];exact nr),s.free nr,h3⟩)
  fun acc vs H' s n' e p=>by
   rw[yE.mpr (fun _ _=>rfl)]at p
   have hl:vs.length=n:=by rw[<- Paired.length p,yp]
   have all:∀(i:Nat) v,vs[i]?=some v->∃r,v= .ref r/\r≠acc/\H1 r=none/\H' r=some (.lst (f i)):=fun i v hv=>by
    obtain⟨k,hk,q⟩:=bW p hv
    have hi:i<n:=by rw[<- hl];exact(xP.mp hv).1
    rw[y3 hi]at hk
    cases hk
    exact q
   have ex:∃rs:List Addr,vs=rs.map V.ref:=by
    refine⟨vs.map fun v=>match v with | .ref r=>r | _=>0,?_⟩
    rw[yA]
    apply yO
    ·simp
    ·intro i h1 h2
     obtain⟨r,er,_⟩:=all i vs[i] (xK h1)
     rw[zq]
     show vs[i]=V.ref (match vs[i]with | .ref r=>r | _=>0)
     rw[er]
   obtain⟨rs,rfl⟩:=ex
   rw[xM]at hl
   refine hQ acc rs H' s n' e hl (fun i r hr=>?_) fun r hr=>?_
   ·obtain⟨r',er,_,h1,h2⟩:=all i (.ref r) (by rw[xR,hr];rfl)
    cases er
    exact⟨h2,h1⟩
   ·obtain⟨i,hi,ei⟩:=xZ.mp hr
    obtain⟨r',er,h0,_⟩:=all i (.ref r) (by rw[xR,xK hi,ei];rfl)
    cases er
    exact h0
theorem qj {l r:List Int} {b:Int} (h:b∈l):fx (l++r) b=fx l b:=by
 have hl:fx l b<l.length:=y0 ⟨b,h,by simp⟩
 unfold fx at*
 rw[List.findIdx_append,if_pos hl]
theorem uv {l:List Int} {b:Int} (h:b∉l):fx (l++[b]) b=l.length:=by
 have hl:¬fx l b<l.length:=fun z=>by
  have:=List.findIdx_getElem (xs:=l) (p:=fun y=>decide (y=b)) (w:=z)
  exact h (by rw[<- of_decide_eq_true this];exact yh _)
 unfold fx at*
 rw[List.findIdx_append,if_neg hl]
 simp[List.findIdx_cons]
theorem qk {l:List Int} {b:Int} (h:b∈l):fx l b<l.length:=y0 ⟨b,h,by simp⟩
section
variable {X:Cx}
end
def num (hs:List Int) (b:Int):Nat:=(dd (hs.take (fx hs b))).length
theorem jO (hs:List Int):kc hs=hs.map (num hs):=by
 apply yO
 ·rw [dZ,xM]
 ·intro i h1 h2
  rw[dZ]at h1
  have:=md h1
  rw[xK (by rw[dZ];exact h1)]at this
  rw[Option.some.inj this,zq]
  unfold rX num
  rw[aL h1]
theorem ql {hs:List Int} {k:Nat} (h:k<=hs.length):kc (hs.take k)=(kc hs).take k:=by
 rw[jO,jO,<- zE]
 apply y4
 intro b hb
 have e:fx (hs.take k) b=fx hs b:=by
  have:=qj (r:=hs.drop k) hb
  rw[zo]at this
  exact this.symm
 unfold num
 rw[e,List.take_take,y8]
 have:=qk hb
 rw[yu]at this
 omega
section
variable {X:Cx} {tg l:Expr} {tl:TE}
def wQ (K:PySem.W.Frag) (tl:TE):TI:=fun σ H R=>tl σ H fun x H1=>∃a,x= .ref a/\((∃xs,SqL K H1 a xs)/\R (mC K a) H1\/(∃xs,SqT K H1 a xs)/\R (u5 K a) H1)
theorem xf (K:PySem.W.Frag) (hl:PE X l tl) (h:X.K=K:=by rfl):PI X tg l (wQ K tl):=by
 subst h
 intro pins s σ H R I h
 refine bB (hl pins s σ H _ I h) fun v s1 hq__=>?_
 obtain⟨x,H1,I1,r1,q1⟩:=hq__
 obtain⟨a,e,q1⟩:=q1
 subst e
 cases r1
 rcases q1 with⟨⟨xs,hq⟩,q⟩ | ⟨⟨xs,hq⟩,q⟩
 ·obtain⟨its,rv,p,hz⟩:=I1.list hq
  refine wpAny_pyIter_list p.isList ?_
  refine⟨s1.heap.objs.size,[s1.heap.objs.size],_,_,H1,rfl,I1.kept (t':=s1.toks) fun b o e=>Heap.get?_push_of_some _ e,iW a _,⟨_,Heap.get?_push_size _ rfl,rfl,rfl⟩,fun b hb=>?_,q⟩
  have e:b=s1.heap.objs.size:=by simpa using hb
  subst e
  exact I1.fpOk (xQ _) (I1.hok.fresh (xQ _))
 ·obtain⟨its,rv,p,hz⟩:=I1.tuple hq
  refine wpAny_pyIter_tuple (show s1.heap.IsTuple a its.toArray from p) ?_
  refine⟨s1.heap.objs.size,[s1.heap.objs.size],_,_,H1,rfl,I1.kept (t':=s1.toks) fun b o e=>Heap.get?_push_of_some _ e,gR a _,⟨_,Heap.get?_push_size _ rfl,rfl,rfl⟩,fun b hb=>?_,q⟩
  have e:b=s1.heap.objs.size:=by simpa using hb
  subst e
  exact I1.fpOk (xQ _) (I1.hok.fresh (xQ _))
end
theorem eR {st:List Nat} {j:Nat} {x:V} (hx:(st.map fun(i:Nat)=>V.int (i:Int))[j]?=some x):∃d:Nat,st[j]?=some d/\x=V.int (d:Int)/\st.getD j 0=d:=by
 rw[xR]at hx
 obtain⟨b,h1,h2⟩:=ya.mp hx
 exact⟨b,h1,h2.symm,by rw[xN,h1];rfl⟩
theorem uw {d n:Nat}:decide (d<n)=decide ((d:Int)<(n:Int)):=by
 by_cases z:d<n
 ·rw [decide_eq_true z,decide_eq_true (by omega)]
 ·rw [decide_eq_false z,decide_eq_false (by omega)]
theorem jP {hs:List Int} {st:List Nat}:((xO (st.map fun(i:Nat)=>V.int (i:Int)).length).filter fun _=>true).map (fun j=>V.int (hs.getD (st.getD j 0) 0))=(st.map fun i=>hs.getD i 0).map V.int:=by
 rw[yE.mpr (fun _ _=>rfl),xM]
 apply yO
 ·simp
 ·intro j h1 h2
  simp only[xM,yp]at h1
  have:st.getD j 0=st[j]:=by simp only[xN,xK h1,Option.getD_some]
  simp only[zq,zB,this]
section
variable {X:Cx}
end
theorem kR {J:It} {H1:Hp} {js:List (Option Nat)} {σ:L2.St} {te:TE} {Q:VK} (n:Nat) (item:Nat->V) (P:Addr->List V->Hp->Prop) (hn:n<100000)
  (mono:∀acc ys H H',P acc ys H->SameBut acc H H'->P acc ys H') (h0:∀acc H,P acc [] H)
  (hgo:∀i H,i<n->Same H1 H->J.go i H) (hst:∀H,Same H1 H->J.stop n H) (hy:∀i H x H',i<n->Same H1 H->J.yld i H x H'->H'=H/\x=item i)
  (he:∀acc i ys H2 R,i<n->Same H1 H2->H1 acc=none->H2 acc=some (.lst ys)->ys.length=i->P acc ys H2->(∀v H3,Same H2 H3->P acc (ys++[v]) H3->R v H3)->te (some (item i) :: bV σ js) H2 R)
  (hQ:∀acc ys H',Same H1 H'->H1 acc=none->H' acc=some (.lst ys)->ys.length=n->P acc ys H'->Q (.ref acc) H'):
  b9 J H1 (none :: js) (bC 0) fv te σ Q:=by
 intro acc hacc
 refine⟨fun i m ys H=>m=n-i/\i<=n/\Same H1 H/\H acc=some (.lst ys)/\ys.length=i/\P acc ys H,⟨n,by simp,yx _,Same.new hacc,ae,rfl,h0 _ _⟩,?_⟩
 rintro i m ys H ⟨rfl,hi,s1,ha,hl,hp⟩
 by_cases hlt:i<n
 ·refine .inr ⟨hgo i H hlt s1,fun ys' H'=>i<n/\Same H1 H'/\H' acc=some (.lst ys')/\ys'.length=i+1/\P acc ys' H',fun ys' H' ⟨z,a,b,c,d⟩=>⟨n-(i+1),yI _ _ hlt,rfl,hlt,a,b,c,d⟩,fun x H' y=>?_⟩
  obtain⟨rfl,rfl⟩:=hy i H x H' hlt s1 y
  refine⟨mR,⟨fun _=>?_,fun hb=>by cases hb⟩⟩
  refine he acc i ys _ _ hlt s1 hacc ha hl hp fun v H3 s3 pv=>?_
  refine⟨s3 _ _ ha,oS (by omega),hlt,(s1.trans s3).put hacc,ae,by rw[xV,x9,hl],?_⟩
  exact mono acc _ _ _ pv SameBut.upd
 ·have e:i=n:=yW hi (yH hlt)
  subst e
  exact .inl ⟨hst H s1,hQ acc ys H s1 hacc ha hl hp⟩
theorem om {K:PySem.W.Frag} {H1:Hp} {js:List (Option Nat)} {σ:L2.St} {te:TE} {Q:VK} {a:Addr} {xs:List V} (P:Addr->List V->Hp->Prop) (hl:SqL K H1 a xs) (hn:xs.length<100000)
  (mono:∀acc ys H H',P acc ys H->SameBut acc H H'->P acc ys H') (h0:∀acc H,P acc [] H)
  (he:∀acc (i:Nat) x ys H2 R,xs[i]?=some x->Same H1 H2->H1 acc=none->H2 acc=some (.lst ys)->ys.length=i->P acc ys H2->(∀v H3,Same H2 H3->P acc (ys++[v]) H3->R v H3)->te (some x :: bV σ js) H2 R)
  (hQ:∀acc ys H',Same H1 H'->H1 acc=none->H' acc=some (.lst ys)->ys.length=xs.length->P acc ys H'->Q (.ref acc) H'):
  b9 (mC K a) H1 (none :: js) (bC 0) fv te σ Q:=
 kR (J:=mC K a) (H1:=H1) (js:=js) (σ:=σ) (te:=te) (Q:=Q) xs.length (fun i=>xs.getD i .non) P hn mono h0
  (fun i H h s=>⟨xs,xs[i],s.seq hl,by simp[h]⟩) (fun H s=>⟨xs,s.seq hl,xQ _⟩)
  (fun i H x H' h s y=>⟨y.1,by have e:=y.2 xs (s.seq hl);simp[e]⟩)
  (fun acc i ys H2 R h s n1 n2 ln p k=>he acc i _ ys H2 R (by simp[h]) s n1 n2 ln p k) hQ
theorem oo {H1:Hp} {js:List (Option Nat)} {σ:L2.St} {te:TE} {Q:VK} {n:Nat} (P:Addr->List V->Hp->Prop) (hn:n<100000)
  (mono:∀acc ys H H',P acc ys H->SameBut acc H H'->P acc ys H') (h0:∀acc H,P acc [] H)
  (he:∀acc (i:Nat) ys H2 R,i<n->Same H1 H2->H1 acc=none->H2 acc=some (.lst ys)->ys.length=i->P acc ys H2->(∀v H3,Same H2 H3->P acc (ys++[v]) H3->R v H3)->te (some (.int (0+(i:Int))) :: bV σ js) H2 R)
  (hQ:∀acc ys H',Same H1 H'->H1 acc=none->H' acc=some (.lst ys)->ys.length=n->P acc ys H'->Q (.ref acc) H'):
  b9 (lA 0 n) H1 (none :: js) (bC 0) fv te σ Q:=
 kR (J:=lA 0 n) (H1:=H1) (js:=js) (σ:=σ) (te:=te) (Q:=Q) n (fun i=> .int (0+(i:Int))) P hn mono h0
  (fun _ _ h _=>h) (fun _ _=>xQ _) (fun _ _ _ _ _ _ y=>y) he hQ
theorem kU {i j:Int}:decide (i=j)=decide (V.int i=V.int j):=by
 by_cases z:i=j
 ·simp [z]
 ·simp [z]
theorem bK {ns:List Int} {j:Nat} (h:j<ns.length):g5 (ns.map V.int) (j:Int)=some (.int (ns.getD j 0)):=aO (by simp[h])
def RowsL (H:Hp) (rs:List Addr) (ps:List (List Int)):Prop:=Paired (fun r p=>H r=some (.lst (p.map V.int))) rs ps
theorem RowsL.len {H:Hp} {rs:List Addr} {ps:List (List Int)} (h:RowsL H rs ps):rs.length=ps.length:=Paired.length h
theorem RowsL.same {H H':Hp} {rs:List Addr} {ps:List (List Int)} (h:RowsL H rs ps) (s:Same H H'):RowsL H' rs ps:=Paired.mapP h fun _ _ q=>s _ _ q
theorem RowsL.pools {K:PySem.W.Frag} {H:Hp} {rs:List Addr} {ps:List (List Int)} (h:RowsL H rs ps):PoolsL K H rs ps:=Paired.mapP h fun _ _ q=>SqL.of q
theorem RowsL.at {H:Hp} {rs:List Addr} {ps:List (List Int)} (h:RowsL H rs ps) {i:Nat} {p:List Int} (e:ps[i]?=some p):∃r,rs[i]?=some r/\H r=some (.lst (p.map V.int)):=bW (F:=fun(r:Addr) (p:List Int)=>H r=some (.lst (p.map V.int))) h e
theorem RowsL.get {H:Hp} {rs:List Addr} {ps:List (List Int)} (h:RowsL H rs ps) {i:Nat} {r:Addr} (e:rs[i]?=some r):∃p,ps[i]?=some p/\H r=some (.lst (p.map V.int)):=by
 have hi:i<ps.length:=by rw[<- h.len];exact(xP.mp e).1
 obtain⟨r',e1,e2⟩:=h.at (xK hi)
 rw[e]at e1
 cases e1
 exact⟨_,xK hi,e2⟩
theorem RowsL.of {H:Hp} {rs:List Addr} {ps:List (List Int)} (hl:rs.length=ps.length) (h:∀(i:Nat) r p,rs[i]?=some r->ps[i]?=some p->H r=some (.lst (p.map V.int))):RowsL H rs ps:=i9 hl h
theorem RowsL.set {H:Hp} {rs:List Addr} {ps:List (List Int)} (h:RowsL H rs ps) (nd:rs.Nodup) {j:Nat} {r:Addr} (e:rs[j]?=some r) (p:List Int):RowsL (aI H r (.lst (p.map V.int))) rs (ps.set j p):=by
 refine RowsL.of (by rw[List.length_set,h.len]) fun i r' p' e1 e2=>?_
 by_cases z:i=j
 ·subst z
  rw[e]at e1
  cases e1
  have hi:i<ps.length:=by rw[<- h.len];exact(xP.mp e).1
  rw[zl hi]at e2
  cases e2
  exact ae
 ·rw [zr (fun y=>z y.symm)]at e2
  have ne:r'≠r:=fun y=>by
   subst y
   obtain⟨h1,h1'⟩:=xP.mp e1
   obtain⟨h2,h2'⟩:=xP.mp e
   exact z ((List.getElem_inj nd).mp (h1'.trans h2'.symm))
  obtain⟨p2,e3,e4⟩:=h.get e1
  rw[e2]at e3
  cases e3
  rw[ay ne]
  exact e4
structure TieT (H:Hp) (x:Addr×Addr×Str×Int×List Nat):Prop where
 tp:H x.1=some (.tup [.str x.2.2.1,.int x.2.2.2.1,.ref x.2.1])
 ts:H x.2.1=some (.tup (x.2.2.2.2.map fun(i:Nat)=>V.int (i:Int)))
 wd:x.2.2.1="most"\/x.2.2.1="least"
 sl:x.2.2.2.2.length<=6
theorem TieT.same {H H':Hp} {x:Addr×Addr×Str×Int×List Nat} (h:TieT H x) (s:Same H H'):TieT H' x:=⟨s _ _ h.tp,s _ _ h.ts,h.wd,h.sl⟩
theorem TieT.put {H:Hp} {x:Addr×Addr×Str×Int×List Nat} {r:Addr} {xs ys:List V} (h:TieT H x) (hr:H r=some (.lst xs)):TieT (aI H r (.lst ys)) x:=by
 have n1:x.1≠r:=fun z=>by have:=h.tp;rw[z,hr]at this;cases this
 have n2:x.2.1≠r:=fun z=>by have:=h.ts;rw[z,hr]at this;cases this
 exact⟨by rw[ay n1];exact h.tp,by rw[ay n2];exact h.ts,h.wd,h.sl⟩
structure TieG (n:Nat) (x:Addr×Addr×Str×Int×List Nat):Prop where
 k1:1<=x.2.2.2.1
 k6:x.2.2.2.1<=6
 ne:x.2.2.2.2≠[]
 lt:∀i∈x.2.2.2.2,i<n
 up:x.2.2.2.2.Pairwise (· < ·)
structure Ties (K:PySem.W.Frag) (H:Hp) (b:Addr) (ts:List (Addr×Addr×Str×Int×List Nat)) (n:Nat):Prop where
 ls:SqL K H b (ts.map fun x=>V.ref x.1)
 ea:∀x∈ts,TieT H x
 ln:ts.length<=n
structure Drawn (H:Hp) (l m L T:Addr) (ms:List Int) (rs:List Addr) (ps:List (List Int)) (ts:List (Addr×Addr×Str×Int×List Nat)) (top:Nat):Prop where
 hl:H l=some (.lst [.ref m,.ref L,.ref T])
 hm:H m=some (.lst (ms.map V.int))
 hL:H L=some (.lst (rs.map V.ref))
 hT:H T=some (.lst (ts.map fun x=>V.ref x.1))
 rows:RowsL H rs ps
 mup:ms.Pairwise (· < ·)
 mne:ms≠[]
 m8:ms.length<=8
 mb:∀b∈ms,1<=b/\b<=10^18
 pup:∀p∈ps,p.Pairwise (· < ·)
 psub:∀p∈ps,∀b∈p,b∈ms
 p1:1<=ps.length
 ptop:ps.length<=top
 p6:ps.length<=6
 tea:∀x∈ts,TieT H x
 tg:∀x∈ts,TieG ps.length x
 t12:ts.length<=12
theorem Drawn.same {H H':Hp} {l m L T:Addr} {ms:List Int} {rs:List Addr} {ps:List (List Int)} {ts:List (Addr×Addr×Str×Int×List Nat)} {top:Nat} (d:Drawn H l m L T ms rs ps ts top) (s:Same H H'):Drawn H' l m L T ms rs ps ts top:=
 ⟨s _ _ d.hl,s _ _ d.hm,s _ _ d.hL,s _ _ d.hT,d.rows.same s,d.mup,d.mne,d.m8,d.mb,d.pup,d.psub,d.p1,d.ptop,d.p6,fun x hx=>(d.tea x hx).same s,d.tg,d.t12⟩
theorem qm:∀m,m<7->∀x,x<64->1<=x->x<2^m->∃i,i<m/\x/2^i%2=1:=by decide
theorem vy {l r:List Int} (h:∀x∈l,x∈r):(dd l).length<=(dd r).length:=(jg l).length_le_of_subset fun x hx=>br.mpr (h x (br.mp hx))
def kp (f:Nat->Int) (wd:Str) (k:Int) (st:List Nat):Bool:=if wd="most" then decide (((lB f st:Nat):Int)<=k)else decide (k<=((lB f st:Nat):Int))
theorem rY {hs:List Int} {i:Nat} (h:i<hs.length):((kc hs).map fun(i:Nat)=>(i:Int)).getD i 0=(num hs (hs.getD i 0):Int):=by
 rw[jO,yA]
 simp[h,xN]
theorem kW (l:List Int) (x:Int):(dd (l++[x])).length=if x∈l then(dd l).length else(dd l).length+1:=by
 rw[jH]
 unfold bF
 by_cases h:x∈l
 ·rw [if_pos h,if_pos (br.mpr h)]
 ·rw [if_neg h,if_neg fun z=>h (br.mp z),xV,x9]
def bO (p:List Int):Prop:=p=(kc p).map fun(i:Nat)=>(i:Int)
theorem ux {hs:List Int} {k:Nat} (h:k<hs.length):rX hs k<(dd hs).length:=by
 unfold rX
 have m:hs.getD k 0∈hs:=by rw[aL h];exact yh h
 have a:=qk m
 have nm:hs.getD k 0∉hs.take (fx hs (hs.getD k 0)):=fun z=>by
  obtain⟨i,hi,e⟩:=xZ.mp z
  rw[yu]at hi
  have:=List.not_of_lt_findIdx (show i<fx hs (hs.getD k 0) by omega)
  rw[zj]at e
  simp at this
  exact this (by rw[e,xN])
 have e:=kW (hs.take (fx hs (hs.getD k 0))) (hs.getD k 0)
 rw[if_neg nm]at e
 have:=vy (l:=hs.take (fx hs (hs.getD k 0))++[hs.getD k 0]) (r:=hs) fun x hx=>by
  rcases ye.mp hx with z | z
  ·exact zt z
  ·rw [xX.mp z];exact m
 omega
theorem qo (p:List Int) (x:Int):kc (p++[x])=kc p++[if x∈p then num p x else(dd p).length]:=by
 have h1:(kc (p++[x])).take p.length=kc p:=by
  rw[<- ql (by simp),List.take_left'];rfl
 have h2:(kc (p++[x]))[p.length]?=some (rX (p++[x]) p.length):=md (by simp)
 have e:kc (p++[x])=(kc (p++[x])).take p.length++[rX (p++[x]) p.length]:=by
  have hlen:(kc (p++[x])).length=p.length+1:=by rw[dZ];simp
  conv=>lhs;rw[<- zo p.length (kc (p++[x]))]
  congr 1
  apply zk
  intro i
  rw[List.getElem?_drop]
  cases i with
  | zero=>rw[Nat.add_zero,h2];rfl
  | succ i=>
   rw[yz (by omega)]
   simp
 rw[e,h1]
 congr 2
 have eg:(p++[x]).getD p.length 0=x:=by simp[xN]
 unfold rX
 rw[eg]
 by_cases z:x∈p
 ·rw [if_pos z,qj z]
  unfold num
  rw[List.take_append_of_le_length (yB (qk z))]
 ·rw [if_neg z,uv z,List.take_left'];rfl
theorem oq {p:List Int} (c:bO p) {j:Nat} (h:(j:Int)∈p):num p (j:Int)=j:=by
 obtain⟨i,hi,e⟩:=xZ.mp h
 have g:=rY hi
 rw[<- c,aL hi,e]at g
 omega
theorem ee {p:List Int} (c:bO p) {x:Int} (h:x∈p):∃j:Nat,x=(j:Int)/\j<(dd p).length:=by
 rw[c]at h
 obtain⟨j,hj,e⟩:=yQ.mp h
 obtain⟨i,hi,e2⟩:=xZ.mp hj
 rw[dZ]at hi
 have g:=md hi
 rw[xK (by rw[dZ];exact hi),e2]at g
 have:=ux hi
 refine⟨j,e.symm,?_⟩
 have:j=rX p i:=Option.some.inj g
 omega
theorem ez {p:List Int} (c:bO p) {j:Nat} (h:j<(dd p).length):(j:Int)∈p:=by
 refine Decidable.byContradiction fun n=>?_
 have:=(jg p).length_le_of_subset (l₂:=((xO (dd p).length).filter fun i=>decide (i≠j)).map fun(i:Nat)=>(i:Int)) fun x hx=>by
  have hx:=br.mp hx
  obtain⟨i,e,hi⟩:=ee c hx
  refine yQ.mpr ⟨i,yn.mpr ⟨yf.mpr hi,decide_eq_true fun z=>n ?_⟩,e.symm⟩
  rw[<- z,<- e];exact hx
 rw[xM]at this
 have lt:((xO (dd p).length).filter fun i=>decide (i≠j)).length<(xO (dd p).length).length:=by
  refine Nat.lt_of_le_of_ne (yy _ _) fun z=>?_
  have:=List.length_filter_eq_length_iff.mp z j (yf.mpr h)
  simp at this
 rw[yp]at lt
 omega
theorem gf:bO []:=rfl
theorem eU {p:List Int} (c:bO p) {j:Nat} (h:j<=(dd p).length):bO (p++[(j:Int)]):=by
 unfold bO
 rw[qo,yo,<- c]
 congr 1
 by_cases z:(j:Int)∈p
 ·rw [if_pos z,oq c z];rfl
 ·rw [if_neg z]
  have:¬j<(dd p).length:=fun y=>z (ez c y)
  have:j=(dd p).length:=by omega
  rw[this];rfl
def eD (p:List Int) (b:Nat):List Nat:=(xO p.length).filter fun i=>decide (p.getD i 0=(b:Int))
theorem cS {p:List Int} {b i:Nat}:i∈eD p b<->i<p.length/\p.getD i 0=(b:Int):=by
 unfold eD
 rw[yn,yf,decide_eq_true_iff]
theorem jQ {p:List Int} (c:bO p) {b:Nat} (h:b<(dd p).length):eD p b≠[]:=by
 obtain⟨i,hi,e⟩:=xZ.mp (ez c h)
 intro z
 have:i∈eD p b:=cS.mpr ⟨hi,by rw[aL hi,e]⟩
 rw[z]at this
 cases this
def cI (st:List Nat) (may:List (List Int)):List Int:=(may.getD (st.getD 0 0) []).filter fun x=>st.all fun s=>decide (x∈may.getD s [])
def bT (may:List (List Int)) (p:List Int) (b:Nat):List Int:=cI (eD p b) may
def pools (may:List (List Int)) (p:List Int):List (List Int):=(xO (dd p).length).map (bT may p)
theorem jn {may:List (List Int)} {p:List Int}:(pools may p).length=(dd p).length:=by unfold pools;simp
theorem dD {may:List (List Int)} {p:List Int} {b:Nat} (h:b<(dd p).length):(pools may p)[b]?=some (bT may p b):=by
 unfold pools
 rw[xR,y3 h];rfl
theorem gg {st:List Nat} {may:List (List Int)} {x:Int} (h:st≠[]):x∈cI st may<->∀s∈st,x∈may.getD s []:=by
 unfold cI
 rw[yn,x6]
 constructor
 ·intro⟨_,a⟩ s hs
  exact of_decide_eq_true (a s hs)
 ·intro a
  refine⟨a _ ?_,fun s hs=>decide_eq_true (a s hs)⟩
  cases st with
  | nil=>exact absurd rfl h
  | cons s r=>simp
theorem ot {may:List (List Int)} {p:List Int} {b:Nat} {x:Int} (c:bO p) (h:b<(dd p).length):x∈bT may p b<->∀i,i<p.length->p.getD i 0=(b:Int)->x∈may.getD i []:=by
 unfold bT
 rw[gg (jQ c h)]
 exact⟨fun a i h1 h2=>a i (cS.mpr ⟨h1,h2⟩),fun a s hs=>a s (cS.mp hs).1 (cS.mp hs).2⟩
theorem il {st:List Nat} {may:List (List Int)} (h:∀p∈may,p.Pairwise (· < ·)):(cI st may).Pairwise (· < ·):=by
 unfold cI
 refine List.Pairwise.filter _ ?_
 by_cases z:st.getD 0 0<may.length
 ·have:may.getD (st.getD 0 0) []=may[st.getD 0 0]:=by rw[xN,xK z];rfl
  rw[this]
  exact h _ (yh z)
 ·have:may.getD (st.getD 0 0) []=[]:=by rw[xN,yz (by omega)];rfl
  rw[this];exact List.Pairwise.nil
abbrev rZ:=Str×Int×List Nat
structure IsPlan (may:List (List Int)) (ts:List rZ) (hs:List Int):Prop where
 len:hs.length=may.length
 of:∀i,i<hs.length->hs.getD i 0∈may.getD i []
 kp:∀t∈ts,kp (fun i=>hs.getD i 0) t.1 t.2.1 t.2.2=true
theorem uy:∀{l r:List Int},l.Pairwise (· < ·)->r.Pairwise (· < ·)->(∀x,x∈l<->x∈r)->l=r:=by
 intro l
 induction l with
 | nil=>
  intro r _ _ h
  cases r with
  | nil=>rfl
  | cons b r=>have:=(h b).mpr yc;cases this
 | cons a l ih=>
  intro r hl hr h
  cases r with
  | nil=>have:=(h a).mp yc;cases this
  | cons b r=>
   rw[List.pairwise_cons]at hl hr
   have e:a=b:=by
    rcases xY.mp ((h a).mp yc)with z | z
    ·exact z
    ·rcases xY.mp ((h b).mpr yc)with y | y
     ·exact y.symm
     ·exact absurd (Int.lt_trans (hr.1 a z) (hl.1 b y)) (Int.lt_irrefl _)
   subst e
   rw[ih hl.2 hr.2 fun x=>?_]
   constructor
   ·intro hx
    rcases xY.mp ((h x).mp (x8 _ hx))with z | z
    ·exact absurd (hl.1 x hx) (by rw[z];exact Int.lt_irrefl _)
    ·exact z
   ·intro hx
    rcases xY.mp ((h x).mpr (x8 _ hx))with z | z
    ·exact absurd (hr.1 x hx) (by rw[z];exact Int.lt_irrefl _)
    ·exact z
def xw (way:Nat) (x:Int) (F S:List Int):Prop:=if way=0 then x∈F/\x∈S else if way=1 then x∈F\/x∈S else x∈F/\x∉S
theorem gO {ks:List Int} (h:ks.Pairwise (· <= ·)) (nd:ks.Nodup):ks.Pairwise (· < ·):=
 (h.and (List.nodup_iff_pairwise_ne.mp nd)).imp fun⟨a,b⟩=>by omega
def vz (H H':Hp) (l:Addr) (way:Nat) (F S ks:List Int):Prop:=Same H H'/\H l=none/\H' l=some (.lst (ks.map V.int))/\ks.Pairwise (· < ·)/\∀x,x∈ks<->xw way x F S
structure Both (K:PySem.W.Frag) (H:Hp) (a b:Addr) (F S U:List Int):Prop where
 fa:SqL K H a (F.map V.int)
 sb:SqL K H b (S.map V.int)
 pf:F.Pairwise (· < ·)
 ps:S.Pairwise (· < ·)
 fu:∀x∈F,x∈U
 su:∀x∈S,x∈U
 ul:U.length<=60
theorem kX {F:List Int} (h:F.Pairwise (· < ·)):F.Nodup:=h.imp fun h=>Int.ne_of_lt h
theorem Both.l1 {K:PySem.W.Frag} {H:Hp} {a b:Addr} {F S U:List Int} (h:Both K H a b F S U):F.length<=60:=yd ((kX h.pf).length_le_of_subset h.fu) h.ul
theorem Both.l2 {K:PySem.W.Frag} {H:Hp} {a b:Addr} {F S U:List Int} (h:Both K H a b F S U):S.length<=60:=yd ((kX h.ps).length_le_of_subset h.su) h.ul
def xg (K:PySem.W.Frag) (way:Nat):Sp:=fun vs H Q _=>∃(a b:Addr) (F S U:List Int),vs=[.ref a,.ref b]/\Both K H a b F S U/\∀l ks H',vz H H' l way F S ks->Q (.ref l) H'
structure May (K:PySem.W.Frag) (H:Hp) (a:Addr) (rs:List Addr) (may:List (List Int)) (U:List Int):Prop where
 ls:SqL K H a (rs.map V.ref)
 po:PoolsL K H rs may
 up:∀p∈may,p.Pairwise (· < ·)
 sub:∀p∈may,∀b∈p,b∈U
 m6:may.length<=6
 u20:U.length<=26
theorem May.same {K:PySem.W.Frag} {H H':Hp} {a:Addr} {rs:List Addr} {may:List (List Int)} {U:List Int} (m:May K H a rs may U) (s:Same H H'):May K H' a rs may U:=⟨s.seq m.ls,m.po.same s,m.up,m.sub,m.m6,m.u20⟩
theorem May.rows {K:PySem.W.Frag} {H:Hp} {a:Addr} {rs:List Addr} {may:List (List Int)} {U:List Int} (m:May K H a rs may U) {i:Nat} (h:i<may.length):∃r,rs[i]?=some r/\SqL K H r ((may.getD i []).map V.int)/\(may.getD i []).Pairwise (· < ·)/\∀b∈may.getD i [],b∈U:=by
 have e:may.getD i []=may[i]:=dY h
 obtain⟨r,e1,e2⟩:=m.po.at (xK h)
 rw[e]
 exact⟨r,e1,e2,m.up _ (yh h),m.sub _ (yh h)⟩
theorem Drawn.may {K:PySem.W.Frag} {H:Hp} {l m L T:Addr} {ms:List Int} {rs:List Addr} {ps:List (List Int)} {ts:List (Addr×Addr×Str×Int×List Nat)} {top:Nat} (d:Drawn H l m L T ms rs ps ts top):May K H L rs ps ms:=
 ⟨SqL.of d.hL,d.rows.pools,d.pup,d.psub,d.p6,by have:=d.m8;omega⟩
theorem me {st:List Nat} {may:List (List Int)} {s:Nat} (h:st≠[]) (x:Int):x∈cI (st++[s]) may<->x∈cI st may/\x∈may.getD s []:=by
 rw[gg (by simp),gg h]
 constructor
 ·exact fun a=>⟨fun t ht=>a t (za _ ht),a s (by simp)⟩
 ·rintro⟨a,b⟩ t ht
  rcases ye.mp ht with z | z
  ·exact a t z
  ·rw [xX.mp z];exact b
theorem ou {may:List (List Int)} {s:Nat}:cI [s] may=may.getD s []:=by
 unfold cI
 show(may.getD s []).filter _=_
 refine yE.mpr fun x hx=>?_
 simp only[List.all_cons,List.all_nil,Bool.and_true]
 exact decide_eq_true hx
theorem gh {st:List Int} {j:Nat} {x:V} (hx:(st.map V.int)[j]?=some x):∃d:Int,st[j]?=some d/\x=V.int d/\st.getD j 0=d:=by
 rw[xR]at hx
 obtain⟨b,h1,h2⟩:=ya.mp hx
 exact⟨b,h1,h2.symm,by rw[xN,h1];rfl⟩
theorem vA {st:List Int} {g:Int->Bool}:(((xO st.length).filter fun j=>g (st.getD j 0)).map fun j=>V.int (st.getD j 0))=(st.filter g).map V.int:=by
 have e0:st=(xO st.length).map fun i=>st.getD i 0:=by
  apply yO
  ·simp
  ·intro i h1 h2;simp[h1]
 conv=>rhs;rw[e0]
 rw[List.filter_map,yA]
 rfl
theorem vB {x y:Option V} {σ:St}:rG (none :: none :: σ) (x :: y :: σ):=⟨rfl,fun i v e=>by
 cases i with
 | zero=>cases e
 | succ i=>
  cases i with
  | zero=>cases e
  | succ i=>exact e⟩
theorem qp {K:PySem.W.Frag} {H1:Hp} {js:List (Option Nat)} {σ:L2.St} {te:TE} {Q:VK} {a b:Addr} {xs ys:List V} (P:Addr->List V->Hp->Prop) (hl:xs.length=ys.length) (h1:SqL K H1 a xs) (h2:SqL K H1 b ys) (hn:xs.length<100000)
  (mono:∀acc ys H H',P acc ys H->SameBut acc H H'->P acc ys H') (h0:∀acc H,P acc [] H)
  (he:∀acc (i:Nat) x y zs H2 R,xs[i]?=some x->ys[i]?=some y->Same H1 H2->H1 acc=none->H2 acc=some (.lst zs)->zs.length=i->P acc zs H2->(∀v H3,Same H2 H3->P acc (zs++[v]) H3->R v H3)->te (some x :: some y :: bV σ js) H2 R)
  (hQ:∀acc zs H',Same H1 H'->H1 acc=none->H' acc=some (.lst zs)->zs.length=xs.length->P acc zs H'->Q (.ref acc) H'):
  b9 (wc K a b) H1 (none :: none :: js) (rh K 2 (ki (bC 0) (ki (bC 1) tF))) fv te σ Q:=by
 intro acc hacc
 refine⟨fun i m zs H=>m=xs.length-i/\i<=xs.length/\Same H1 H/\H acc=some (.lst zs)/\zs.length=i/\P acc zs H,⟨xs.length,by simp,yx _,Same.new hacc,ae,rfl,h0 _ _⟩,?_⟩
 rintro i m zs H ⟨rfl,hi,s1,ha,hz,hp⟩
 have w1:=s1.seq h1
 have w2:=s1.seq h2
 by_cases hlt:i<xs.length
 ·have hlt2:i<ys.length:=by omega
  refine .inr ⟨⟨xs,ys,xs[i],ys[i],w1,w2,xK hlt,xK hlt2⟩,fun zs' H'=>i<xs.length/\Same H1 H'/\H' acc=some (.lst zs')/\zs'.length=i+1/\P acc zs' H',fun zs' H' ⟨z,a,b,c,d⟩=>⟨xs.length-(i+1),yI _ _ hlt,rfl,hlt,a,b,c,d⟩,fun v H' y=>?_⟩
  obtain⟨q,x,y,hq,e1,e2,e3,e4⟩:=y
  subst e3 e4
  have sq:=Same.new (o:= .tup [x,y]) hq
  refine⟨q,[x,y],rfl,SqT.of ae,rfl,x,[y],rfl,y,[],rfl,rfl,vB,fun _=>?_,fun hb=>by cases hb⟩
  refine he acc i x y zs _ _ (e1 xs w1) (e2 ys w2) (s1.trans sq) hacc (sq _ _ ha) hz (mono _ _ _ _ hp sq.but) fun v H3 s3 pv=>?_
  have s13:=(s1.trans sq).trans s3
  refine⟨s3 _ _ (sq _ _ ha),oS (by omega),hlt,s13.put hacc,ae,by rw[xV,x9,hz],?_⟩
  exact mono acc _ _ _ pv SameBut.upd
 ·have e:i=xs.length:=yW hi (yH hlt)
  subst e
  exact .inl ⟨⟨xs,ys,w1,w2,xQ _⟩,hQ acc zs H s1 hacc ha hz hp⟩
theorem ox {K:PySem.W.Frag} {H1:Hp} {js:List (Option Nat)} {σ:L2.St} {te:TE} {Q:VK} {a b:Addr} {xs ys:List V} (f:Nat->V) (hl:xs.length=ys.length) (h1:SqL K H1 a xs) (h2:SqL K H1 b ys) (hn:xs.length<100000)
  (he:∀(i:Nat) x y H2 R,xs[i]?=some x->ys[i]?=some y->Same H1 H2->(∀H3,Same H2 H3->R (f i) H3)->te (some x :: some y :: bV σ js) H2 R)
  (hQ:∀acc H',Same H1 H'->H1 acc=none->H' acc=some (.lst ((xO xs.length).map f))->Q (.ref acc) H'):
  b9 (wc K a b) H1 (none :: none :: js) (rh K 2 (ki (bC 0) (ki (bC 1) tF))) fv te σ Q:=
 qp (fun _ zs _=>zs=(xO zs.length).map f) hl h1 h2 hn (fun _ _ _ _ h _=>h) (fun _ _=>rfl)
  (fun acc i x y zs H2 R ex ey s _ _ hz hp k=>he i x y H2 R ex ey s fun H3 s3=>k _ H3 s3 (by
   rw[xV,x9,y9,yo,<- hp,hz];rfl))
  fun acc zs H' s n e hz hp=>hQ acc H' s n (by rw[e,<- hz,<- hp])
theorem kY {K:PySem.W.Frag} {H:Hp} {d:Nat} {a b:Addr} {xs ys:List V} (h1:SqL K H a xs) (h2:SqL K H b ys) (hl:xs.length=ys.length) (he:∀(j:Nat) x y,xs[j]?=some x->ys[j]?=some y->DEq K H d x y true):DEq K H (d+1) (.ref a) (.ref b) true:=by
 have q:=DEq.lst (e:=fun _=>true) h1 h2 hl he
 rw[show((xO xs.length).all fun _=>true)=true from by simp]at q
 exact q
theorem jo {K:PySem.W.Frag} {H:Hp} {d:Nat} {a b:Addr} {xs ys:List V} (h1:SqT K H a xs) (h2:SqT K H b ys) (hl:xs.length=ys.length) (he:∀(j:Nat) x y,xs[j]?=some x->ys[j]?=some y->DEq K H d x y true):DEq K H (d+1) (.ref a) (.ref b) true:=by
 have q:=DEq.tup (e:=fun _=>true) h1 h2 he
 rw[show((xO (min xs.length ys.length)).all (fun _=>true)&&xs.length==ys.length)=true from by simp[hl]]at q
 exact q
theorem gj {K:PySem.W.Frag} {H:Hp} {d:Nat} {x:V} (f:b8 x=true):DEq K H d x x true:=by
 have q:=DEq.flat (K:=K) (H:=H) (d:=d) f f
 rw[h9 f]at q
 exact q
theorem TieT.self {K:PySem.W.Frag} {H:Hp} {x:Addr×Addr×Str×Int×List Nat} (t:TieT H x):DEq K H 2 (.ref x.1) (.ref x.1) true:=
 jo (SqT.of t.tp) (SqT.of t.tp) rfl fun j u v eu ev=>by
  rw[eu]at ev
  cases ev
  rcases j with _ | _ | _ | j
  ·cases eu;exact gj rfl
  ·cases eu;exact gj rfl
  ·cases eu
   refine jo (SqT.of t.ts) (SqT.of t.ts) rfl fun j u v eu ev=>?_
   rw[eu]at ev
   cases ev
   obtain⟨i,_,e⟩:=yQ.mp (xT eu)
   rw[<- e]
   exact gj rfl
  ·cases eu
theorem qr {K:PySem.W.Frag} {H:Hp} {a b:Addr} {ts:List (Addr×Addr×Str×Int×List Nat)} (h1:SqL K H a (ts.map fun x=>V.ref x.1)) (h2:SqL K H b (ts.map fun x=>V.ref x.1)) (ea:∀x∈ts,TieT H x):DEq K H 3 (.ref a) (.ref b) true:=
 kY h1 h2 rfl fun j u v eu ev=>by
  rw[eu]at ev
  cases ev
  obtain⟨x,hx,e⟩:=yQ.mp (xT eu)
  rw[<- e]
  exact(ea x hx).self
theorem DEq.up {K:PySem.W.Frag} {H:Hp} {d:Nat} {x y:V} {b:Bool} (h:DEq K H d x y b):DEq K H (d+1) x y b:=by
 induction h with
 | flat fx fy=>exact .flat fx fy
 | lst h1 h2 hl he ih=>exact .lst h1 h2 hl ih
 | len h1 h2 hl=>exact .len h1 h2 hl
 | tup h1 h2 he ih=>exact .tup h1 h2 ih
def bD (x:Addr×Addr×Str×Int×List Nat):rZ:=x.2.2
theorem qt {α β:Type} {ts:List α} {f:α->β} {g:Nat->β} (h:∀(i:Nat) x,ts[i]?=some x->g i=f x):(xO ts.length).map g=ts.map f:=by
 apply zk
 intro i
 rw[xR,xR]
 by_cases l:i<ts.length
 ·rw [y3 l,xK l]
  show some (g i)=some (f ts[i])
  rw[h i _ (xK l)]
 ·rw [yz (by simp;omega),yz (by omega)];rfl
def nw (H H':Hp):Hp:=fun a=>match H a with
 | none=>H' a
 | some _=>none
theorem jR {H H':Hp} {a:Addr} {o:HO} (h:nw H H' a=some o):H a=none/\H' a=some o:=by
 unfold nw at h
 cases e:H a with
 | none=>rw[e]at h;exact⟨rfl,h⟩
 | some x=>rw[e]at h;cases h
theorem gz {H H':Hp} {a:Addr} {o:HO} (h1:H a=none) (h2:H' a=some o):nw H H' a=some o:=by
 unfold nw
 rw[h1];exact h2
theorem fH {H H':Hp}:Same (nw H H') H':=fun b o e=>(jR e).2
theorem sV {H Hc H' Hx:Hp} (s:∀a,Hc a=none->H a=none) (k:∀a o,Hc a=none->H' a=some o->Hx a=some o):Same (nw Hc H') (nw H Hx):=fun b o e=>by
 obtain⟨e1,e2⟩:=jR e
 exact gz (s b e1) (k b o e1 e2)
theorem jq {may:List (List Int)} {p:List Int} {U:List Int} (c:bO p) (hl:p.length<=may.length) (h:∀q∈may,∀b∈q,b∈U):∀q∈pools may p,∀b∈q,b∈U:=fun q hq b hb=>by
 obtain⟨i,hi,e⟩:=xZ.mp hq
 have hi2:=hi
 rw[jn]at hi2
 have g:=dD (may:=may) hi2
 rw[xK hi,e]at g
 cases g
 obtain⟨j,hj,ej⟩:=xZ.mp (ez c hi2)
 have:=(ot c hi2).mp hb j hj (by rw[aL hj,ej])
 have hj2:j<may.length:=by omega
 rw[dY hj2]at this
 exact h _ (yh hj2) b this
theorem oy {H3 H2:Hp} {hs:List Addr} {may:List (List Int)} (hl:hs.length=may.length) (al:∀(i:Nat) r,hs[i]?=some r->H3 r=some (.lst ((may.getD i []).map V.int))/\H2 r=none):RowsL H3 hs may:=RowsL.of hl fun i r p' e1 e2=>by
 have:=(al i r e1).1
 rw[xN,e2]at this
 exact this
theorem PoolsL.ref {K:PySem.W.Frag} {H:Hp} {rs:List Addr} {may:List (List Int)} (po:PoolsL K H rs may) {i:Nat} {x:V} (hx:(rs.map V.ref)[i]?=some x):∃r,x= .ref r/\SqL K H r ((may.getD i []).map V.int):=by
 rw[xR]at hx
 obtain⟨r,hr,rfl⟩:=ya.mp hx
 have hi:i<may.length:=by rw[<- po.len];exact(xP.mp hr).1
 obtain⟨r',e1,e2⟩:=po.at (xK hi)
 rw[hr]at e1
 cases e1
 rw[<- dY hi]at e2
 exact⟨r,rfl,e2⟩
theorem oz {K:PySem.W.Frag} {H1:Hp} {js:List (Option Nat)} {σ:L2.St} {te:TE} {Q:VK} {a:Addr} {rs:List Addr} {may:List (List Int)} (hl:SqL K H1 a (rs.map V.ref)) (po:PoolsL K H1 rs may) (m:may.length<=1000)
  (he:∀r ys H2 R,SqL K H2 r ys->(∀l,H2 l=none->R (.ref l) (aI H2 l (.lst ys)))->te (some (.ref r) :: bV σ js) H2 R)
  (hQ:∀acc (hs:List Addr) H',Same H1 H'->H1 acc=none->H' acc=some (.lst (hs.map V.ref))->RowsL H' hs may->(∀r∈hs,H1 r=none/\r≠acc)->Q (.ref acc) H'):
  b9 (mC K a) H1 (none :: js) (bC 0) fv te σ Q:=by
 have rl:rs.length=may.length:=po.len
 refine lP (xs:=rs.map V.ref) (fun i=>(may.getD i []).map V.int) hl (by rw[xM];omega) (fun i x hx H3 R s3 k=>?_) fun hd hs H3 s3 nhd hhd hhs hall hne=>?_
 ·obtain⟨r,rfl,hq⟩:=(po.same s3).ref hx
  exact he r _ H3 R hq fun l nl=>k l _ (Same.new nl) nl ae
 ·rw [xM,rl]at hhs
  refine hQ hd hs H3 s3 nhd hhd (oy hhs hall) fun r hr=>⟨?_,hne r hr⟩
  obtain⟨i,hi,ei⟩:=xZ.mp hr
  exact(hall i r (by rw[xK hi,ei])).2
section
variable {X:Cx}
theorem xx (K:PySem.W.Frag) (h:X.K=K:=by rfl):IxR X (fun x y H Q=>tV K x y H Q\/tW K x y H Q):=by subst h;exact mM.or pb
theorem xy (K:PySem.W.Frag) (h:X.K=K:=by rfl):SlR X (fun x lo hi H Q=>tX K x lo hi H Q\/vf K x lo hi H Q):=by subst h;exact mN.or tR
end
theorem mf {as:List Int} {b:Int} (h:b∈as):eB (c0 as) (Sum.inl b) (V.bl true)=c0 as:=by
 have a:((c0 as).any fun kv=>decide (kv.1=Sum.inl b))=true:=by rw[hU,kG,if_pos h];rfl
 unfold eB
 rw[if_pos a]
 unfold c0
 rw[yA]
 refine y4 fun c _=>?_
 show(if(Sum.inl c:cj)=Sum.inl b then((Sum.inl c:cj),V.bl true)else(Sum.inl c,V.bl true))=(Sum.inl c,V.bl true)
 split<;>rfl
theorem r8 {as:List Int} {b:Int}:eB (c0 as) (Sum.inl b) (V.bl true)=c0 (bF as b):=by
 unfold bF
 by_cases h:b∈as
 ·rw [if_pos h];exact mf h
 ·rw [if_neg h];exact pP h
inductive GPap where
 | tie (j:Int)
 | short (bs:List Int)
 | split (ps:List GPap)
instance:Inhabited GPap:=⟨.tie 0⟩
def kZ (ns:List Int):Bool:=(xO (ns.length-1)).all fun k=>decide (ns.getD k 0<ns.getD (k+1) 0)
theorem k5 {ns:List Int}:kZ ns=true<->ns.Pairwise (· < ·):=by
 unfold kZ
 rw[x6]
 constructor
 ·intro h
  have st:∀i,i+1<ns.length->ns.getD i 0<ns.getD (i+1) 0:=fun i hi=>of_decide_eq_true (h i (yf.mpr (by omega)))
  have lt:∀d i,i+d+1<ns.length->ns.getD i 0<ns.getD (i+d+1) 0:=by
   intro d
   induction d with
   | zero=>intro i hi;exact st i hi
   | succ d ih=>intro i hi;exact Int.lt_trans (ih i (by omega)) (st (i+d+1) (by omega))
  rw[yM]
  intro i j h1 h2 h3
  have:=lt (j-i-1) i (by omega)
  have e:i+(j-i-1)+1=j:=by omega
  rw[e,aL h1,aL h2]at this
  exact this
 ·intro h i hi
  have:=yf.mp hi
  have:=yM.mp h i (i+1) (by omega) (by omega) (by omega)
  rw[aL (by omega),aL (by omega)]
  exact decide_eq_true this
def be (may:List (List Int)) (p:List Int) (bs:List Int):List Int:=bs.flatMap fun b=>bT may p b.toNat
def sW (p:List Int) (bs:List Int):Bool:=bs.all fun b=>decide (0<=b/\b<(((dd p).length:Nat):Int))
def b4 (may:List (List Int)) (p:List Int) (bs:List Int):Bool:=kZ bs&&sW p bs&&decide ((dd (be may p bs)).length<bs.length)
theorem fI (n:Nat): -(2^62)<=((n:Nat):Int):=by omega
theorem qu (c:Int) {n:Nat} (h:0<n):∃m:Nat,m<n/\c%((n:Nat):Int)=((m:Nat):Int):=by
 have w1:=yX c (show((n:Nat):Int)≠0 by omega)
 have w2:=yG c (show(0:Int)<((n:Nat):Int) by omega)
 exact⟨(c%((n:Nat):Int)).toNat,by omega,by omega⟩
theorem xA {α:Type} {us:List α} (hl:us.length=1):∃a,us=[a]:=by
 match us,hl with
 | [a],_=>exact⟨a,rfl⟩
theorem xB {α:Type} {us:List α} (hl:us.length=2):∃a b,us=[a,b]:=by
 match us,hl with
 | [a,b],_=>exact⟨a,b,rfl⟩
theorem xC {α:Type} {us:List α} (hl:us.length=3):∃a b c,us=[a,b,c]:=by
 match us,hl with
 | [a,b,c],_=>exact⟨a,b,c,rfl⟩
theorem xD {α:Type} {us:List α} (hl:us.length=4):∃a b c d,us=[a,b,c,d]:=by
 match us,hl with
 | [a,b,c,d],_=>exact⟨a,b,c,d,rfl⟩
theorem xE {α:Type} {us:List α} (hl:us.length=5):∃a b c d e,us=[a,b,c,d,e]:=by
 match us,hl with
 | [a,b,c,d,e],_=>exact⟨a,b,c,d,e,rfl⟩
section
variable {X:Cx}
end
section
variable {X:Cx}
end
section
variable {prog:Program} {w:World} {A:Around} {E:Value->Shared->Prop} {h:Heap} {g:Array GenState} {d:PySem.Drawn} {t:Nat} {os:OsState} {a:Addr} {o:Obj}
end
section
variable {P:Program} {w:World} {A:Around} {R:Result->Shared->Prop} {p d I:Addr} {its:List Value} {vs:List (cj×Value)} {h0:Heap}
end
section
variable {X:Cx}
end
section
variable {X:Cx}
theorem r9:bL X (.type "range") (fun xs H Q=>∃n:Nat,xs=[.int (n:Int)]/\n<=1000/\∀r,H r=none->Q (.ref r) (aI H r (.rng 0 (n:Int)))):=by
 intro pins s σ H xs us Q I r h
 obtain⟨n,e,hn,q⟩:=h
 subst e
 obtain⟨u,e,rx⟩:=cR r
 subst e
 obtain⟨t,e⟩:=rx
 subst e
 refine call_range_1 ?_
 exact⟨.ref s.heap.objs.size,_,I.laid (fun b o e=>Heap.get?_push_of_some _ e) (xQ _) (show ObjOk X.prog X.w _ _ _ (.rng 0 (n:Int))from⟨_,_,_,Heap.get?_push_size _ rfl⟩),rfl,q _ (I.hok.fresh (xQ _))⟩
theorem uz (K:PySem.W.Frag) (hc:X.calm=true:=by rfl) (hK:X.K=K:=by rfl):bL X (.type "list") (fun xs H Q=>∃(r:Addr) (n:Nat),xs=[.ref r]/\H r=some (.rng 0 (n:Int))/\n<=1000/\∀l,H l=none->Q (.ref l) (aI H l (.lst ((xO n).map fun(i:Nat)=>V.int (i:Int))))):=by
 subst hK
 intro pins s σ H xs us Q I r h
 obtain⟨a,n,e,hr,hn,q⟩:=h
 subst e
 obtain⟨u,e,rx⟩:=cR r
 subst e
 cases rx
 obtain⟨t,u,v,ho⟩:=(show ObjOk X.prog X.w H s.heap a (.rng 0 (n:Int))from I.hok a _ hr)
 have e0:Builtin.Range.rangeSize 0 (n:Int) 1=n:=by rw[rangeSize_one];split<;>omega
 refine call_list_range (n:=n) (I.ok.hd hc) ho (small_one (by decide) (by decide) (by omega) (by omega)) e0 (yd hn (by decide)) fun h' tk acc' c' kp ho' ia=>?_
 refine⟨.ref s.heap.objs.size,_,I.laid (t':=tk) kp (xQ _) (show ObjOk X.prog X.w _ h' _ (.lst ((xO n).map fun(i:Nat)=>V.int (i:Int)))from⟨by rw[xM,yp,sizeLine_eq];omega,acc'.toList,c',?_,?_⟩),rfl,q _ (I.hok.fresh (xQ _))⟩
 ·refine i9 (by rw[xM,yp,xS];exact ia.1.symm) fun i x y ex ey=>?_
  rw[xR]at ex
  obtain⟨j,ej,rfl⟩:=ya.mp ex
  obtain⟨hj,ej⟩:=xP.mp ej
  rw[zB]at ej
  subst ej
  obtain⟨t,e⟩:=ia.2 i y (by rw[<- yV];exact ey)
  exact⟨t,by rw[e];simp⟩
 ·rw [Array.toArray_toList];exact ho'
end
def m5 (w:Nat):List Int:=(xO w).map fun(i:Nat)=>(i:Int)
def cu (lf:Addr) (H:Hp):Hp:=fun b=>if b=lf then none else H b
theorem bQ {lf b:Addr} {H:Hp} (h:b≠lf):cu lf H b=H b:=if_neg h
theorem c5 {lf b:Addr} {H:Hp} {o:HO} (h:cu lf H b=some o):b≠lf/\H b=some o:=by
 unfold cu at h
 split at h
 ·cases h
 ·rename_i n;exact⟨n,h⟩
theorem k8 {lf:Addr} {H:Hp}:Same (cu lf H) H:=fun b o h=>(c5 h).2
theorem cT {lf:Addr} {H H':Hp} (s:Same H H'):Same (cu lf H) (cu lf H'):=fun b o h=>by
 obtain⟨n,h⟩:=c5 h
 rw[bQ n]
 exact s _ _ h
theorem qv {lf:Addr} {H:Hp} {o:HO}:cu lf (aI H lf o)=cu lf H:=by
 funext b
 unfold cu
 split
 ·rfl
 ·rename_i n;exact ay n
theorem qw {H1:Hp} {js:List (Option Nat)} {σ:L2.St} {te:TE} {Q:VK} {n:Nat} (P:Addr->List V->Hp->Prop) (hn:n<100000)
  (mono:∀acc ys H o,P acc ys H->P acc ys (aI H acc o)) (h0:∀acc,H1 acc=none->P acc [] (aI H1 acc (.lst [])))
  (he:∀acc (i:Nat) ys H2 R,i<n->H1 acc=none->H2 acc=some (.lst ys)->ys.length=i->P acc ys H2->(∀v H3,H3 acc=some (.lst ys)->P acc (ys++[v]) H3->R v H3)->te (some (.int (0+(i:Int))) :: bV σ js) H2 R)
  (hQ:∀acc ys H',H1 acc=none->H' acc=some (.lst ys)->ys.length=n->P acc ys H'->Q (.ref acc) H'):
  b9 (lA 0 n) H1 (none :: js) (bC 0) fv te σ Q:=by
 intro acc hacc
 refine⟨fun i m ys H=>m=n-i/\i<=n/\H acc=some (.lst ys)/\ys.length=i/\P acc ys H,⟨n,by simp,yx _,ae,rfl,h0 acc hacc⟩,?_⟩
 rintro i m ys H ⟨rfl,hi,ha,hl,hp⟩
 by_cases hlt:i<n
 ·refine .inr ⟨hlt,fun ys' H'=>i<n/\H' acc=some (.lst ys')/\ys'.length=i+1/\P acc ys' H',fun ys' H' ⟨z,a,b,c⟩=>⟨n-(i+1),yI _ _ hlt,rfl,hlt,a,b,c⟩,fun x H' y=>?_⟩
  obtain⟨rfl,rfl⟩:=y
  refine⟨mR,fun _=>?_,fun hb=>by cases hb⟩
  refine he acc i ys _ _ hlt hacc ha hl hp fun v H3 h3 pv=>⟨h3,oS (by omega),hlt,ae,by rw[xV,x9,hl],mono _ _ _ _ pv⟩
 ·have e:i=n:=yW hi (yH hlt)
  subst e
  exact .inl ⟨xQ _,hQ acc ys H hacc ha hl hp⟩
def cq (G H H':Hp):Hp:=fun b=>match H b with
 | none=>H' b
 | some _=>G b
theorem aX {G H H':Hp} {b:Addr} {o:HO} (h:H b=none) (e:H' b=some o):cq G H H' b=some o:=by unfold cq;rw[h];exact e
theorem jS {G H H':Hp} (s:Same G H):Same G (cq G H H'):=fun b o e=>by unfold cq;rw[s _ _ e];exact e
theorem qy {G H H':Hp} {b:Addr} {o:HO} (e:cq G H H' b=some o):(H b=none/\H' b=some o)\/((∃u,H b=some u)/\G b=some o):=by
 unfold cq at e
 cases h:H b with
 | none=>rw[h]at e;exact .inl ⟨rfl,e⟩
 | some u=>rw[h]at e;exact .inr ⟨⟨u,rfl⟩,e⟩
def uT:Hp:=fun _=>none
theorem iq {H H':Hp} {b:Addr} {o:HO} (e:cq uT H H' b=some o):H b=none/\H' b=some o:=by
 rcases qy e with z | ⟨_,z⟩
 ·exact z
 ·cases z
theorem qz {H H':Hp}:Same (cq uT H H') H':=fun b o e=>(iq e).2
def Kept1 (lf:Addr) (H H':Hp):Prop:=Same (cu lf H) (cu lf H')/\∃o,H' lf=some o
theorem Kept1.there {lf:Addr} {H H':Hp} (k:Kept1 lf H H') {b:Addr} (h:H' b=none):H b=none:=by
 cases e:H b with
 | none=>rfl
 | some o=>
  by_cases z:b=lf
  ·obtain⟨o',h'⟩:=k.2
   rw[z,h']at h
   cases h
  ·have:=k.1 b o (by rw[bQ z];exact e)
   rw[bQ z,h]at this
   cases this
theorem Kept1.at {lf:Addr} {H H':Hp} (k:Kept1 lf H H') {b:Addr} {o:HO} (n:b≠lf) (h:H b=some o):H' b=some o:=by
 have:=k.1 b o (by rw[bQ n];exact h)
 rw[bQ n]at this
 exact this
def hA (hs:List (Option Int)) (j:Nat):Option Int:=hs.getD j none
section
variable {X:Cx}
end
end L2
namespace L2
open PySem PySem.Spec PyProof.Rows PySem.W
section
variable {prog:Program} {w:World} {A:Around} {E:Value->Shared->Prop} {s:Shared}
end
section
variable {X:Cx}
end
section
variable {prog:Program} {w:World} {A:Around} {E:Value->Shared->Prop} {s:Shared}
end
section
variable {X:Cx}
end
section
variable {X:Cx}
end
section
variable {α:Type} [DecidableEq α]
end
section
variable {α:Type} [DecidableEq α]
end
section
variable {α:Type}
end
section
variable {prog:Program} {w:World} {A:Around} {E:Value->Shared->Prop} {s:Shared} {T:String} {r d:Addr} {n:Nat} {P:Nat->Value->Prop} {OK:Heap->Prop}
end
section
variable {X:Cx}
end
end L2
namespace L2
open PySem PySem.Spec PyProof.Rows
theorem ObjOk.has {P:Program} {w:World} {H:Hp} {h:Heap} {a:Addr}:∀{o:HO},ObjOk P w H h a o->∃ob,h.get? a=some ob:=by
 intro o x
 cases o with
 | lst xs=>obtain⟨_,_,_,_,e⟩:=x;exact⟨_,e⟩
 | tup xs=>obtain⟨_,_,_,ob,e,_⟩:=x;exact⟨_,e⟩
 | dK kvs=>obtain⟨_,_,_,_,ob,_,_,e,_⟩:=x;exact⟨_,e⟩
 | dT kvs=>obtain⟨_,_,_,_,ob,_,_,e,_⟩:=x;exact⟨_,e⟩
 | set S n=>obtain⟨ob,_,_,_,e,_⟩:=x;exact⟨_,e⟩
 | ins C dx fs=>obtain⟨_,_,_,e,_⟩:=x;exact⟨_,e⟩
 | own y=>exact x
 | xd fs=>obtain⟨_,⟨ob,_,_,e,_⟩,_⟩:=x;exact⟨_,e⟩
 | rng lo hi=>obtain⟨_,_,_,e⟩:=x;exact⟨_,e⟩
 | frz ob u=>obtain⟨e,_⟩:=x;exact⟨_,e⟩
 | tbl ps=>exact⟨_,x⟩
 | met f y=>exact⟨_,x⟩
 | ext φ=>exact x.2.1
theorem HOk.stays {P:Program} {w:World} {H:Hp} {h h':Heap} (ok:HOk P w H h) (k:∀b u,(H b).isSome=true->h.get? b=some u->h'.get? b=some u):HOk P w H h':=fun a o q=>
 (ok a o q).stay (fun b u hb e=>k b u (hb.elim (fun y=>by rw[y,q];rfl) fun y=>by rw[y];rfl) e) (fun _ z=>z) fun _ _ z=>z
structure Flies (P:Program) (w:World) (outer:List Env) (H H':Hp) (s:Shared) (ea C:Addr) (a0:Value) (B:Heap) (s':Shared):Prop where
 os:s'.os=s.os
 bare:AllBare s'.gens
 un:Un (fh outer) [] H H' s.heap s'.heap
 hok:HOk P w H' s'.heap
 fl:Heap.FlyingW B outer ea (.ref C) a0 s'.heap
 new:s.heap.get? ea=none
 free:H' ea=none
 cov:∀b o,s'.heap.get? b=some o->b∉fh outer->((s.heap.get? b).isSome=true\/(H' b).isSome=true)->B.get? b=some o
def xh (P:Program) (w:World):oQ:=fun outer H s E e s'=>∃(ea C:Addr) (a0:Value) (B:Heap) (H':Hp),e= .ref ea/\E (.ref C) none H'/\Flies P w outer H H' s ea C a0 B s'
section
variable {P:Program} {w:World} {K:PySem.W.Frag} {mg:Str->Option Value} {base:Heap}
end
section
variable {P:Program} {w:World} {K:PySem.W.Frag} {mg:Str->Option Value} {base:Heap} {N:List Str} {qual:Str} {scope:Scope} {f:Addr} {cd:Value} {A:Around} {outer:List Env} {s₀:Shared} {H₀:Hp} {E:XK}
theorem wR {pins:List (Addr×Obj)} {σ:St} {H:Hp} {s:Shared} {h':Heap} {e C:Addr} {vs:List Value} (I:Inv (km (xh P w) P w K mg base N qual scope f cd A outer s₀ H₀ E) pins σ H s) (hx:Heap.MadeExcOf s.heap h' e (.ref C) vs)
  (h:E (.ref C) none H):(km (xh P w) P w K mg base N qual scope f cd A outer s₀ H₀ E).xe (.ref e) {s with heap:=h'}:=by
 have st:fh (envOfC qual scope s₀.heap.objs.size f cd :: outer)=s₀.heap.objs.size :: fh outer:=rfl
 have hin:∀env∈(envOfC qual scope s₀.heap.objs.size f cd :: outer),∀a,env.frame=some a->a∈fh (envOfC qual scope s₀.heap.objs.size f cd :: outer):=fun env he a ha=>zA.mpr ⟨env,he,ha⟩
 have fr:s.heap.FunFrames base (envOfC qual scope s₀.heap.objs.size f cd :: outer):=I.stack
 have fr':=PySem.W.funFrames_hide fr hin
 refine wpAny_leaves_madeW (s:={s with heap:=h'}) I.ok.frames rfl (fun b o q=>PySem.W.of_hideAll _ q) fr' hx fun h2 t fl tu bt up=>?_
 have up2:s.heap.UpToSlots h2:=(Heap.UpToSlots.of_keeps hx.keeps).trans up
 have kB:∀b o,s.heap.get? b=some o->b∉fh (envOfC qual scope s₀.heap.objs.size f cd :: outer)->(PySem.W.hideAll s.heap (fh (envOfC qual scope s₀.heap.objs.size f cd :: outer))).get? b=some o:=fun b o q n=>PySem.W.hideAll_get _ q n
 have kp:∀b o,s.heap.get? b=some o->b∉fh (envOfC qual scope s₀.heap.objs.size f cd :: outer)->h2.get? b=some o:=fun b o q n=>fl.1 b o (kB b o q n)
 have old:∀b o,s₀.heap.get? b=some o->b∉fh outer->b∉fh (envOfC qual scope s₀.heap.objs.size f cd :: outer):=fun b o q n z=>by
  rw[st]at z
  rcases xY.mp z with z | z
  ·rw [z]at q;exact y2 _ (Heap.lt_size q)
  ·exact n z
 have tr:∀b,(H b).isSome=true->b∉fh (envOfC qual scope s₀.heap.objs.size f cd :: outer):=fun b q z=>by rw[I.stkFree b z]at q;cases q
 have un0:Un (fh outer) [] H₀ H s₀.heap s.heap:=I.base
 have slots:∀b o,s.heap.get? b=some o->b∈fh outer->∃sl,h2.get? b=some {o with slots:=sl}:=fun b o q m=>by
  obtain⟨_,o',q',nf⟩:=fr.mem (show b∈fh (envOfC qual scope s₀.heap.objs.size f cd :: outer) by rw[st];exact x8 _ m)
  rw[q]at q';cases q'
  exact up2 b o q nf
 refine⟨e,C,.ref t,_,H,rfl,h,I.os,I.bare,⟨fun b o q n nf _=>kp b o (un0.keep b o q n nf (by simp)) (old b o q nf),fun b o q n m _=>?_,fun b o q n _=>un0.free b o q n (by simp),fun b o q _=>?_,un0.tups,un0.frzs,un0.tbls⟩,
  I.hok.stays fun b u q e=>kp b u e (tr b q),fl,?_,?_,fun b o q n z=>?_⟩
 ·obtain⟨sl,q1⟩:=un0.slot b o q n m (by simp)
  obtain⟨sl2,q2⟩:=slots b _ q1 m
  exact⟨sl2,q2⟩
 ·obtain⟨o1,q1⟩:=un0.there b o q (by simp)
  by_cases m:b∈fh outer
  ·obtain⟨sl,q2⟩:=slots b _ q1 m
   exact⟨_,q2⟩
  ·exact⟨o1,kp b o1 q1 (old b o q m)⟩
 ·cases q:s₀.heap.get? e with
  | none=>rfl
  | some o=>
   obtain⟨o1,q1⟩:=un0.there e o q (by simp)
   rw[hx.new]at q1;cases q1
 ·cases q:H e with
  | none=>rfl
  | some o=>
   obtain⟨o1,q1⟩:=(I.hok e o q).has
   rw[hx.new]at q1;cases q1
 ·have nb:b∉fh (envOfC qual scope s₀.heap.objs.size f cd :: outer)/\∃o1,s.heap.get? b=some o1:=by
   rcases z with z | z
   ·obtain⟨o0,q0⟩:=yR.mp z
    obtain⟨o1,q1⟩:=un0.there b o0 q0 (by simp)
    exact⟨old b o0 q0 n,o1,q1⟩
   ·obtain⟨o0,q0⟩:=yR.mp z
    obtain⟨o1,q1⟩:=(I.hok b o0 q0).has
    exact⟨tr b z,o1,q1⟩
  obtain⟨n1,o1,q1⟩:=nb
  have q2:=kp b o1 q1 n1
  have q:h2.get? b=some o:=q
  rw[q]at q2;cases q2
  exact kB b _ q1 n1
end
section
variable {X:Cx} {pins:List (Addr×Obj)} {σ:St} {H H':Hp} {s s':Shared} {ea C:Addr} {a0:Value} {B h2:Heap}
end
section
variable {X:Cx} {k:Nat} {f C:Addr} {fd:FuncData} {ps:List Str} {sp:Sp} {x y:Str} {st:Stmt} {p cpos epos np hpos pos:Pos} {e:Expr} {es:List Expr} {t:TA} {b₀:Stmt} {suite:List Stmt}
end
section
variable {X:Cx} {k i:Nat} {f C:Addr} {fd:FuncData} {ps:List Str} {sp:Sp} {x y n:Str} {st:Stmt} {p cpos epos np hpos pos:Pos} {e:Expr} {es:List Expr} {t:TA} {b₀:Stmt} {suite:List Stmt} {ts:TS} {c:Value}
end
section
open PySem.W PySem.Builtin.ObjectAttr PySem.Builtin PySem.Builtin.Getset_descriptor
variable {K:Frag} {x D:Addr}
variable {prog:Program} {w:World} {A:Around} {s:Shared} {E:Value->Shared->Prop}
end
section
variable {X:Cx} {k:Nat} {f:Addr} {fd:FuncData} {ps:List Str} {sp:Sp} {x:Str} {p pos:Pos} {e:Expr} {es:List Expr} {t:TA} {st:Stmt}
end
abbrev wU:=List (Int×Int)
section
variable {es:wU} {cn k:Nat} {row:List Int}
end
section
variable {es:wU} {cn:Nat} {S:List Int}
end
section
variable {es:wU} {cn:Nat} {r:List Int}
end
end L2
namespace L2
open PySem PySem.Spec PyProof.Rows PySem.W
def fJ:Nat->List (List Nat)
 | 0=>[[]]
 | n+1=>fJ n++(fJ n).map fun l=>l++[n]
theorem qA (n:Nat):(fJ n).length=2^n:=by
 induction n with
 | zero=>rfl
 | succ n ih=>show(fJ n++_).length=_;rw[xV,xM,ih,Nat.pow_succ];omega
section
variable {s:Shared} {A:Around} {w:World} {prog:Program} {E:Value->Shared->Prop}
end
theorem m7 (n:Nat):∀l∈fJ n,∀x∈l,x<n:=by
 induction n with
 | zero=>intro l hl x hx;rw[xX.mp hl]at hx;cases hx
 | succ n ih=>
  intro l hl x hx
  rcases ye.mp hl with z | z
  ·have:=ih l z x hx;omega
  ·obtain⟨l',h1,rfl⟩:=yQ.mp z
   rcases ye.mp hx with y | y
   ·have:=ih l' h1 x y;omega
   ·rw [xX.mp y];omega
def eV (st:List Int) (l:List Nat):List Int:=l.map fun k=>st.getD k 0
section
variable {X:Cx}
end
section
variable {X:Cx} {pins:List (Addr×Obj)} {σ:St} {H:Hp} {s:Shared} {h':Heap}
end
section
variable {X:Cx} {a:Expr} {ta:TA} {p1 p2 kpos pos:Pos}
end
end L2
namespace L2
open PySem PySem.Spec PyProof.Rows
theorem oA (st:List Int) (l:List Nat) (j:Nat):eV st (l++[j])=eV st l++[st.getD j 0]:=by unfold eV;rw[yo];rfl
end L2
namespace L2
open PySem PySem.Spec PyProof.Rows PySem.W
abbrev SD:=Array Nat×Array (Nat×Nat×Nat)×Nat
section
variable {prog:Program} {w:World} {E:Value->Shared->Prop} {A:Around} {κ:SortKind} {it:Array Keyed} {s:Shared} {n:Nat} {lt:Nat->Nat->Bool}
end
section
variable (n:Nat) (lt:Nat->Nat->Bool) (left:Bool) (k:Nat) (q:Array Nat) (base hint mx:Nat)
end
section
variable {prog:Program} {w:World} {E:Value->Shared->Prop} {A:Around} {κ:SortKind} {it:Array Keyed} {s:Shared} {n:Nat} {lt:Nat->Nat->Bool} {left:Bool} {k:Nat} {q:Array Nat} {base hint mx:Nat}
end
section
variable {prog:Program} {w:World} {E:Value->Shared->Prop} {A:Around} {κ:SortKind} {it:Array Keyed} {s:Shared} {n:Nat} {lt:Nat->Nat->Bool}
end
section
variable {prog:Program} {w:World} {E:Value->Shared->Prop} {A:Around} {κ:SortKind} {it:Array Keyed} {s:Shared} {n:Nat} {lt:Nat->Nat->Bool} {qa qb:Array Nat} {mg:Nat}
end
def putAt {α:Type} (off:Nat) (m:Array α) (p:Array α):Array α:=m.toList.zipIdx.foldl (fun a x=>a.setIfInBounds (off+x.2) x.1) p
section
variable {prog:Program} {w:World} {E:Value->Shared->Prop} {A:Around} {κ:SortKind} {it:Array Keyed} {s:Shared} {n:Nat} {lt:Nat->Nat->Bool}
end
section
variable (n:Nat) (lt:Nat->Nat->Bool) (lo nrem:Nat)
end
section
variable {prog:Program} {w:World} {E:Value->Shared->Prop} {A:Around} {κ:SortKind} {it:Array Keyed} {s:Shared} {n:Nat} {lt:Nat->Nat->Bool} {lo nrem:Nat}
end
section
variable (n:Nat) (lt:Nat->Nat->Bool) (size mr:Nat)
end
section
variable {prog:Program} {w:World} {E:Value->Shared->Prop} {A:Around} {κ:SortKind} {it:Array Keyed} {s:Shared} {n:Nat} {lt:Nat->Nat->Bool}
end
set_option synthInstance.maxSize 4096 in
set_option synthInstance.maxHeartbeats 200000 in
instance dSD:DecidableEq (Nat×SD):=instDecidableEqProd (α:=Nat) (β:=Array Nat×Array (Nat×Nat×Nat)×Nat)
def xF:List Nat:=[0,1,3,7,15,31,63,47,23,55,39,11,27,59,43,19,51,35,5,13,29,61,45,21,53,37,9,25,57,41,17,49,33,2,6,14,30,62,46,22,54,38,10,26,58,42,18,50,34,4,12,28,60,44,20,52,36,8,24,56,40,16,48,32]
def xG:List Nat:=[0,1,33,49,57,61,63,2,18,26,30,32,34,42,46,48,50,54,56,58,60,62,3,11,15,17,19,23,25,27,29,31,35,39,41,43,45,47,51,53,55,59,4,8,10,12,14,16,20,22,24,28,36,38,40,44,52,5,7,9,13,21,37,6]
theorem mh {α:Type} (vs:List α) (d:α):(xO vs.length).map (fun i=>vs.getD i d)=vs:=by
 apply yO
 ·simp
 ·intro i h1 h2
  rw[zq,zB,xN,xK h2];rfl
section
variable {prog:Program} {w:World} {E:Value->Shared->Prop} {A:Around} {κ:SortKind} {s:Shared} {n:Nat} {lt:Nat->Nat->Bool} {q:List Nat} {ks vs:List Value}
end
section
variable {X:Cx}
end
section
variable {X:Cx} {pins:List (Addr×Obj)} {σ:St} {H:Hp} {s:Shared} {h':Heap}
end
section
variable {X:Cx}
end
section
variable {X:Cx} {E:Value->Shared->Prop} {f:Value} {r:V->Hp->VK->Prop} {kS D:Addr} {e1:Nat} {pins:List (Addr×Obj)} {σ:St}
end
section
variable {X:Cx} {pins:List (Addr×Obj)} {σ:St} {H:Hp} {s:Shared} {r:V->Hp->VK->Prop} {C:List V->Hp->Nat->(Nat->Nat->Bool)->Prop}
end
section
variable {X:Cx} {a:Expr} {ta:TA} {p1 p2 kpos pos:Pos}
def xi (a b:List Int):Bool:=if a.length=b.length then HT.sN a b else decide (a.length<b.length)
end
section
variable {X:Cx} {a:Expr} {ta:TA} {p1 p2 kpos pos:Pos}
end
section
variable {n:Nat} {lt:Nat->Nat->Bool}
end
def qS:Nat->List Nat
 | 0=>[0]
 | 1=>[0,1]
 | 2=>[0,1,3,2]
 | 3=>[0,1,3,7,5,2,6,4]
 | 4=>[0,1,3,7,15,11,5,13,9,2,6,14,10,4,12,8]
 | 5=>[0,1,3,7,15,31,23,11,27,19,5,13,29,21,9,25,17,2,6,14,30,22,10,26,18,4,12,28,20,8,24,16]
 | _=>xF
def qK:Nat->List Nat
 | 0=>[0]
 | 1=>[0,1]
 | 2=>[0,1,3,2]
 | 3=>[0,1,5,7,2,4,6,3]
 | 4=>[0,1,9,13,15,2,6,8,10,12,14,3,5,7,11,4]
 | 5=>[0,1,17,25,29,31,2,10,14,16,18,22,24,26,28,30,3,7,9,11,13,15,19,21,23,27,4,6,8,12,20,5]
 | _=>xG
def wV (n:Nat):List Nat:=(qK n).map fun i=>(qS n).getD i 0
theorem vC {P:Nat->Prop} (h0:P 0) (h1:P 1) (h2:P 2) (h3:P 3) (h4:P 4) (h5:P 5) (h6:P 6):∀n,n<=6->P n
 | 0,_=>h0 | 1,_=>h1 | 2,_=>h2 | 3,_=>h3 | 4,_=>h4 | 5,_=>h5 | 6,_=>h6
 | n+7,h=>absurd h (by omega)
theorem qB:∀n,n<=6->(wV n).Perm (xO (2^n)):=fun n h=>List.isPerm_iff.mp (vC (P:=fun n=>(wV n).isPerm (xO (2^n))=true) (by decide +kernel) (by decide +kernel) (by decide +kernel) (by decide +kernel) (by decide +kernel) (by decide +kernel) (by decide +kernel) n h)
def wW (st:List Int):List (List Int):=(wV st.length).map fun i=>eV st ((fJ st.length).getD i [])
theorem qC {st:List Int} (h6:st.length<=6):(wW st).Perm ((fJ st.length).map (eV st)):=by
 have:=(qB _ h6).map fun i=>eV st ((fJ st.length).getD i [])
 have e:(xO (2^st.length)).map (fun i=>eV st ((fJ st.length).getD i []))=(fJ st.length).map (eV st):=by
  have p:=mh (fJ st.length) []
  rw[qA]at p
  conv=>rhs;rw[<- p]
  rw[yA]
  rfl
 rw[e]at this
 exact this
def vD (st:List Int):List (List Int):=(fJ st.length).map (eV st)
theorem k9 {st:List Int} {x:Int} {l:List Nat} (h:∀k∈l,k<st.length):eV (st++[x]) l=eV st l:=by
 unfold eV
 refine y4 fun k hk=>?_
 rw[xN,xN,yL (h k hk)]
theorem qD (st:List Int) (x:Int):vD (st++[x])=vD st++(vD st).map fun l=>l++[x]:=by
 unfold vD
 rw[xV,x9]
 show(fJ st.length++(fJ st.length).map fun l=>l++[st.length]).map (eV (st++[x]))=_
 rw[yo]
 refine congr (congrArg _ ?_) ?_
 ·exact y4 fun l hl=>k9 (m7 _ l hl)
 ·rw [yA,yA]
  refine y4 fun l hl=>?_
  show eV (st++[x]) (l++[st.length])=eV st l++[x]
  rw[oA,k9 (m7 _ l hl),xN,yU (xQ _),zF]
  rfl
def we (l g:List Int):List Int:=l.filter fun x=> !decide (x∈g)
def vE (may:List (List Int)) (g:List Int):List (List Int):=may.map fun l=>we l g
theorem jT {l g:List Int} {x:Int}:x∈we l g<->x∈l/\x∉g:=by unfold we;rw[yn];simp
theorem m9 {may:List (List Int)} {g:List Int}:(vE may g).length=may.length:=xM _
theorem mi {may:List (List Int)} {g:List Int} {i:Nat}:(vE may g).getD i []=we (may.getD i []) g:=by
 unfold vE
 rw[xN,xR,xN]
 cases may[i]?<;>rfl
theorem sd {may:List (List Int)} {ts:List rZ} {g hs:List Int}:IsPlan (vE may g) ts hs<->IsPlan may ts hs/\∀x∈hs,x∉g:=by
 constructor
 ·intro p
  have l:=p.len
  rw[m9]at l
  refine⟨⟨l,fun i hi=>?_,p.kp⟩,fun x hx=>?_⟩
  ·have:=p.of i hi
   rw[mi,jT]at this
   exact this.1
  ·obtain⟨i,hi,rfl⟩:=xZ.mp hx
   have:=p.of i hi
   rw[mi,jT,aL hi]at this
   exact this.2
 ·rintro⟨p,h⟩
  refine⟨by rw[m9];exact p.len,fun i hi=>?_,p.kp⟩
  rw[mi,jT]
  exact⟨p.of i hi,h _ (by rw[aL hi];exact yh hi)⟩
structure AllOf (may:List (List Int)) (U:List Int):Prop where
 up:U.Pairwise (· < ·)
 mem:∀x,x∈U<->∃p∈may,x∈p
theorem AllOf.sub {may:List (List Int)} {U:List Int} (a:AllOf may U):∀p∈may,∀b∈p,b∈U:=fun p hp b hb=>(a.mem b).mpr ⟨p,hp,hb⟩
theorem qE {may:List (List Int)} {ts:List rZ} {hs U:List Int} (p:IsPlan may ts hs) (a:AllOf may U):∀x∈hs,x∈U:=fun x hx=>by
 obtain⟨i,hi,rfl⟩:=xZ.mp hx
 have:=p.of i hi
 rw[aL hi]at this
 have hl:=p.len
 rw[dY (by omega)]at this
 exact a.sub _ (yh (by omega)) _ this
theorem jr (P:Int->Bool):∀(n:Nat) (U:List Int),U.length=n->U.filter P∈vD U
 | 0,U,h=>by rw[List.eq_nil_of_length_eq_zero h];exact xX.mpr rfl
 | n+1,U,h=>by
  rcases List.eq_nil_or_concat U with rfl | ⟨V,x,rfl⟩
  ·cases h
  ·rw [List.concat_eq_append]at h ⊢
   rw[xV,x9]at h
   have ih:=jr P n V (by omega)
   rw[qD,yP,List.filter_cons,List.filter_nil]
   by_cases c:P x=true
   ·rw [if_pos c];exact yk _ (yQ.mpr ⟨_,ih,rfl⟩)
   ·rw [if_neg c,zu];exact za _ ih
theorem oB {U:List Int} (h6:U.length<=6) (P:Int->Bool):U.filter P∈wW U:=(qC h6).mem_iff.mpr (jr P _ U rfl)
theorem xj {may:List (List Int)} {ts:List rZ} {U g:List Int} {Ps:List (List Int)} (A:AllOf may U) (h6:U.length<=6) (pn:∀hs∈Ps,IsPlan may ts hs) (fw:∀s∈wW U,xi s g=true->∃hs∈Ps,∀x∈hs,x∉s) {S:List Int} (no:∀hs,¬IsPlan (vE may S) ts hs):g.length<=S.length:=by
 refine Decidable.byContradiction fun z=>?_
 have m:=oB h6 (fun x=>decide (x∈S))
 have le:(U.filter fun x=>decide (x∈S)).length<=S.length:=((kX A.up).sublist List.filter_sublist).length_le_of_subset fun x hx=>of_decide_eq_true (yn.mp hx).2
 obtain⟨hs,hm,hd⟩:=fw _ m (by unfold xi;rw[if_neg (by omega)];exact decide_eq_true (by omega))
 refine no hs (sd.mpr ⟨pn hs hm,fun x hx hS=>hd x hx (yn.mpr ⟨qE (pn hs hm) A x hx,decide_eq_true hS⟩)⟩)
end L2
namespace L2
open PySem PySem.Spec PyProof.Rows
section
variable {X:Cx} {tg:Expr}
end
section
variable {X:Cx} {k i:Nat} {f C:Addr} {fd:FuncData} {ps:List Str} {sp:Sp} {x y nm:Str} {st:Stmt} {p cpos epos np hpos pos xpos:Pos} {e:Expr} {es:List Expr} {t:TA} {b₀:Stmt} {suite:List Stmt} {ts:TS} {c:Value}
end
end L2
namespace L2
open PySem PySem.Spec PyProof.Rows PySem.W
end L2
namespace L2
open PySem PySem.Spec PyProof.Rows
end L2
namespace L2
open PySem PySem.Spec PyProof.Rows PySem.W
section
open PySem.AutoSeq1 (wpAny_loadPart')
open PySem.MeetsSeq PySem.MeetsSeq2 PySem.MeetsSeq3
end
section
variable {s:Shared} {A:Around} {w:World} {prog:Program} {E:Value->Shared->Prop}
end
section
variable {prog:Program} {w:World} {E:Value->Shared->Prop} {A:Around} {κ:SortKind} {s:Shared} {n:Nat} {lt:Nat->Nat->Bool} {q:List Nat} {ks vs:List Value}
end
section
variable {X:Cx}
end
inductive BPap where
 | tie (j:Int)
 | short (bs:List Int)
 | split (ps:List BPap)
 | dear (pr:List Int) (es:List (Int×Int))
instance:Inhabited BPap:=⟨.tie 0⟩
section
variable {X:Cx} {a de:Expr} {ta:TA} {td:TE} {p1 kpos pos:Pos}
end
section
variable {X:Cx} {a de:Expr} {ta:TA} {td:TE} {p1 kpos pos:Pos}
end
section
variable {X:Cx}
end
section
variable {X:Cx}
def se (K:PySem.W.Frag) (H:Hp) (x:V):Prop:=∃(a:Addr) (vs:List V),x= .ref a/\(SqL K H a vs\/SqT K H a vs)
def vF (K:PySem.W.Frag):R2:=fun x y H Q=>(∃c:Str,y= .str c)/\(nF x y=true\/se K H x)/\Q (.bl (decide (x=y))) H
def vG (K:PySem.W.Frag):R2:=fun x y H Q=>(∃c:Str,y= .str c)/\(nF x y=true\/se K H x)/\Q (.bl (!decide (x=y))) H
theorem uA (hu:X.A.units<cLine):dw X (compareOp .Eq) (vF X.K):=by
 intro pins s σ H x y v u Q I rx ry h
 obtain⟨⟨c,rfl⟩,hs | ⟨a,vs,rfl,hs⟩,q⟩:=h
 ·exact bM _ _ _ _ _ _ _ _ _ I rx ry ⟨hs,q⟩
 ·cases rx
  obtain⟨t,rfl⟩:=ry
  have e:decide (V.ref a=V.str c)=false:=decide_eq_false (fun z=>by cases z)
  rcases hs with hs | hs
  ·obtain⟨its,r,pl,_⟩:=I.list hs
   exact SeqAt.RcAt.list_str c t pl.isList hu _ _ _ _ (aG I q e)
  ·obtain⟨its,r,pl,_⟩:=I.tuple hs
   exact SeqAt.RcAt.tuple_str c t (show s.heap.IsTuple a its.toArray from pl) hu _ _ _ _ (aG I q e)
theorem uB (hu:X.A.units<cLine):dw X (compareOp .NotEq) (vG X.K):=by
 intro pins s σ H x y v u Q I rx ry h
 obtain⟨⟨c,rfl⟩,hs | ⟨a,vs,rfl,hs⟩,q⟩:=h
 ·exact mF _ _ _ _ _ _ _ _ _ I rx ry ⟨hs,q⟩
 ·cases rx
  obtain⟨t,rfl⟩:=ry
  have e:(!decide (V.ref a=V.str c))=true:=by rw[decide_eq_false (fun z=>by cases z)];rfl
  rcases hs with hs | hs
  ·obtain⟨its,r,pl,_⟩:=I.list hs
   exact SeqAt.RcNeAt.list_str c t pl.isList hu _ _ _ _ (aG I q e)
  ·obtain⟨its,r,pl,_⟩:=I.tuple hs
   exact SeqAt.RcNeAt.tuple_str c t (show s.heap.IsTuple a its.toArray from pl) hu _ _ _ _ (aG I q e)
theorem eqT (K:PySem.W.Frag) (hu:X.A.units+64<cLine) (h:X.K=K:=by rfl):dw X (compareOp .Eq) (vF K):=by subst h;exact uA (by omega)
theorem xH (K:PySem.W.Frag) (hu:X.A.units+64<cLine) (h:X.K=K:=by rfl):dw X (compareOp .NotEq) (vG K):=by subst h;exact uB (by omega)
end
inductive Th where
 | non
 | bl (b:Bool)
 | int (i:Int)
 | str (c:Str)
 | lst (ts:List Th)
 | tup (ts:List Th)
instance:Inhabited Th:=⟨.non⟩
inductive ThAt (H:Hp):V->Th->Prop where
 | non:ThAt H .non .non
 | bl {b:Bool}:ThAt H (.bl b) (.bl b)
 | int {i:Int}:ThAt H (.int i) (.int i)
 | str {c:Str}:ThAt H (.str c) (.str c)
 | lst {l:Addr} {vs:List V} {ts:List Th} (hl:H l=some (.lst vs)) (hn:vs.length=ts.length) (h:∀(i:Nat) v t,vs[i]?=some v->ts[i]?=some t->ThAt H v t):ThAt H (.ref l) (.lst ts)
 | tup {l:Addr} {vs:List V} {ts:List Th} (hl:H l=some (.tup vs)) (hn:vs.length=ts.length) (h:∀(i:Nat) v t,vs[i]?=some v->ts[i]?=some t->ThAt H v t):ThAt H (.ref l) (.tup ts)
theorem ThAt.same {H H':Hp} {v:V} {q:Th} (p:ThAt H v q) (s:Same H H'):ThAt H' v q:=by
 induction p with
 | non=>exact .non
 | bl=>exact .bl
 | int=>exact .int
 | str=>exact .str
 | lst hl hn h ih=>exact .lst (s _ _ hl) hn fun i v q e1 e2=>ih i v q e1 e2
 | tup hl hn h ih=>exact .tup (s _ _ hl) hn fun i v q e1 e2=>ih i v q e1 e2
def Th.isStr (c:Str):Th->Bool
 | .str d=>decide (d=c)
 | _=>false
def Th.isInt:Th->Bool
 | .int _=>true
 | _=>false
def Th.isLst:Th->Bool
 | .lst _=>true
 | _=>false
def Th.isTup:Th->Bool
 | .tup _=>true
 | _=>false
def Th.num:Th->Int
 | .int i=>i
 | _=>0
def Th.parts:Th->List Th
 | .lst ts=>ts
 | .tup ts=>ts
 | _=>[]
theorem ThAt.eqT {K:PySem.W.Frag} {H:Hp} {v:V} {t:Th} (p:ThAt H v t) (c:Str):(nF v (.str c)=true\/se K H v)/\decide (v= .str c)=t.isStr c:=by
 cases p with
 | non=>exact⟨.inl rfl,rfl⟩
 | bl=>exact⟨.inl rfl,rfl⟩
 | int=>exact⟨.inl rfl,rfl⟩
 | @str d=>
  refine⟨.inl rfl,?_⟩
  show decide (V.str d=V.str c)=decide (d=c)
  by_cases z:d=c
  ·rw [decide_eq_true z,decide_eq_true (by rw[z])]
  ·rw [decide_eq_false z,decide_eq_false (fun y=>z (by injection y))]
 | lst hl hn h=>exact⟨.inr ⟨_,_,rfl,.inl (SqL.of hl)⟩,rfl⟩
 | tup hl hn h=>exact⟨.inr ⟨_,_,rfl,.inr (SqT.of hl)⟩,rfl⟩
inductive TBnd:Th->Prop where
 | non:TBnd .non
 | bl {b:Bool}:TBnd (.bl b)
 | int {i:Int}:TBnd (.int i)
 | str {c:Str}:TBnd (.str c)
 | lst {ts:List Th} (hl:ts.length<=1000) (h:∀t∈ts,TBnd t):TBnd (.lst ts)
 | tup {ts:List Th} (hl:ts.length<=1000) (h:∀t∈ts,TBnd t):TBnd (.tup ts)
def oC (ts:List rZ) (p:List Int) (r:Th):Bool:=r.isInt&&(decide (0<=r.num)&&(decide (r.num<(ts.length:Int))&&((ts[r.num.toNat]?).elim false fun t=>brk (fun i=>p.getD i 0) p.length t.1 t.2.1 t.2.2)))
def eW (may:List (List Int)) (p:List Int) (r:Th):Bool:=r.isLst&&(r.parts.all Th.isInt&&b4 may p (r.parts.map Th.num))
def bU (may:List (List Int)) (ts:List rZ):Nat->List Int->Th->Bool
  | 0,_,_=>false
  | m+1,p,t=>t.isTup&&(decide (t.parts.length=2)&&
      (let w:=t.parts.getD 0 .non
       let r:=t.parts.getD 1 .non
       if w.isStr "tie" then oC ts p r
       else if w.isStr "short" then eW may p r
       else if w.isStr "split" then(decide (p.length<may.length)&&(r.isLst&&decide (r.parts.length=(dd p).length+1)))&&(xO r.parts.length).all fun j=>bU may ts m (p++[(j:Int)]) (r.parts.getD j .non)
       else false))
def eX (may:List (List Int)) (ts:List rZ) (m:Nat) (p:List Int) (r:Th):Bool:=(decide (p.length<may.length)&&(r.isLst&&decide (r.parts.length=(dd p).length+1)))&&(xO r.parts.length).all fun j=>bU may ts m (p++[(j:Int)]) (r.parts.getD j .non)
theorem ThAt.ints {H:Hp} {v:V} {t:Th} (p:ThAt H v t) (h1:t.isLst=true) (h2:t.parts.all Th.isInt=true):∃(a:Addr) (bs:List Int),v= .ref a/\H a=some (.lst (bs.map V.int))/\t.parts.map Th.num=bs:=by
 cases p with
 | non=>cases h1
 | bl=>cases h1
 | int=>cases h1
 | str=>cases h1
 | tup _ _ _=>cases h1
 | @lst a us ts hl hn hat=>
  refine⟨a,ts.map Th.num,rfl,?_,rfl⟩
  have eus:us=(ts.map Th.num).map V.int:=by
   refine zk fun i=>?_
   rw[yA,xR]
   cases et:ts[i]? with
   | none=>
    have:=List.getElem?_eq_none_iff.mp et
    exact yz (by omega)
   | some t=>
    have hi:=(xP.mp et).1
    have hu:us[i]?=some us[i]:=xK (by omega)
    have a:=hat i _ _ hu et
    have b:=x6.mp h2 t (xT et)
    rw[hu]
    clear hu
    generalize us[i]=x at a
    cases a<;>first | rfl | cases b
  rw[hl,eus]
theorem mj {α:Type} {l:List α} (h:l.length=2):∃a b,l=[a,b]:=by
 match l,h with
 | [a,b],_=>exact⟨a,b,rfl⟩
theorem ng {ts:List Th} (h:∀t∈ts,TBnd t) (j:Nat):TBnd (ts.getD j .non):=by
 rw[xN]
 cases e:ts[j]? with
 | none=>exact .non
 | some t=>exact h t (xT e)
theorem qZ {H H1 H2:Hp} (s:Same H1 H2):Same (nw H H1) (nw H H2):=sV (fun _ h=>h) fun _ _ _ h=>s _ _ h
theorem wg {H H1 H2:Hp} (s:Same H H1):Same (nw H1 H2) (nw H H2):=sV (fun _ h=>s.free h) fun _ _ _ h=>h
def gm (te:TE) (t:Th):Prop:=∀(σ:St) (H:Hp) (Q:VK),(∀v H',Same H H'->ThAt (nw H H') v t->Q v H')->te σ H Q
def AllTh (H:Hp) (vs:List V) (ts:List Th):Prop:=∀(i:Nat) v t,vs[i]?=some v->ts[i]?=some t->ThAt H v t
theorem AllTh.same {H H':Hp} {vs:List V} {ts:List Th} (h:AllTh H vs ts) (s:Same H H'):AllTh H' vs ts:=fun i v t a b=>(h i v t a b).same s
def oD (ta:TA) (ts:List Th):Prop:=∀(σ:St) (H:Hp) (Q:List V->Hp->Prop),(∀vs H',Same H H'->vs.length=ts.length->AllTh (nw H H') vs ts->Q vs H')->ta σ H Q
theorem mn {i:Int}:gm (tC (.int i)) (.int i):=fun _ H _ k=>k _ H (Same.refl _) .int
theorem qF {c:Str}:gm (tC (.str c)) (.str c):=fun _ H _ k=>k _ H (Same.refl _) .str
theorem vH {b:Bool}:gm (tC (.bl b)) (.bl b):=fun _ H _ k=>k _ H (Same.refl _) .bl
theorem uC:gm (tC .non) .non:=fun _ H _ k=>k _ H (Same.refl _) .non
theorem uD {i:Int}:gm (w6 (rU fun i=> .int (-i)) (tC (.int i))) (.int (-i)):=fun _ H _ k=>⟨i,rfl,k _ H (Same.refl _) .int⟩
theorem uE {i j:Int} (hc:oZ i j):gm (oP (rI oZ fun i j=> .int (i^j.toNat)) (tC (.int i)) (tC (.int j))) (.int (i^j.toNat)):=fun _ H _ k=>⟨i,j,rfl,rfl,hc,k _ H (Same.refl _) .int⟩
theorem uF {ta:TA} {ts:List Th} (h:oD ta ts) (hs:Nat.ble ts.length 1000=true):gm (tO ta) (.lst ts):=fun σ H Q k=>h σ H _ fun vs H1 s1 hn e=>⟨oR (by have:=Nat.le_of_ble_eq_true hs;omega),fun p np=>by
 have s2:=Same.new (o:= .lst vs) np
 exact k _ _ (s1.trans s2) (.lst (gz (s1.free np) ae) hn (e.same (qZ s2)))⟩
theorem uG {ta:TA} {ts:List Th} (h:oD ta ts) (hs:Nat.ble ts.length 1000=true):gm (tN ta) (.tup ts):=fun σ H Q k=>h σ H _ fun vs H1 s1 hn e=>⟨oR (by have:=Nat.le_of_ble_eq_true hs;omega),fun p np=>by
 have s2:=Same.new (o:= .tup vs) np
 exact k _ _ (s1.trans s2) (.tup (gz (s1.free np) ae) hn (e.same (qZ s2)))⟩
theorem gP:oD vc []:=fun σ H Q k=>k [] H (Same.refl _) rfl fun i v t a _=>by cases a
theorem qG {te:TE} {ta:TA} {t:Th} {ts:List Th} (h:gm te t) (hr:oD ta ts):oD (o8 te ta) (t :: ts):=fun σ H Q k=>h σ H _ fun x H1 s1 a1=>hr σ H1 _ fun xs H2 s2 hn e=>k (x :: xs) H2 (s1.trans s2) (by rw[yC,yC,hn]) fun i v t hv ht=>by
 cases i with
 | zero=>cases hv;cases ht;exact a1.same (qZ s2)
 | succ i=>exact(e i v t hv ht).same (wg s1)
theorem ThAt.lstD {H:Hp} {v:V} {ts:List Th} (p:ThAt H v (.lst ts)):∃l vs,v= .ref l/\H l=some (.lst vs)/\vs.length=ts.length/\AllTh H vs ts:=by
 cases p with
 | lst hl hn h=>exact⟨_,_,rfl,hl,hn,h⟩
theorem mq {H:Hp} {vs us:List V} {ts rs:List Th} (h1:vs.length=ts.length) (e1:AllTh H vs ts) (e2:AllTh H us rs):AllTh H (vs++us) (ts++rs):=fun i v t hv ht=>by
 by_cases z:i<vs.length
 ·rw [yL z]at hv
  rw[yL (by omega)]at ht
  exact e1 i v t hv ht
 ·rw [yU (by omega)]at hv ht
  rw[<- h1]at ht
  exact e2 _ v t hv ht
theorem sg {te:TE} {H H0:Hp} {σ:St} {Q:VK} {ts rs:List Th} {v0:V} (s0:Same H H0) (a0:ThAt (nw H H0) v0 (.lst ts)) (h:gm te (.lst rs)) (hz:Nat.ble (ts.length+rs.length) 1000=true) (k:∀v H2,Same H H2->ThAt (nw H H2) v (.lst (ts++rs))->Q v H2):te σ H0 (fun y H2=>pB v0 y H2 Q):=h σ H0 _ fun v1 H1 s1 a1=>by
 obtain⟨l0,vs,rfl,h0,n0,e0⟩:=a0.lstD
 obtain⟨l1,us,rfl,h1,n1,e1⟩:=a1.lstD
 have hz:=Nat.le_of_ble_eq_true hz
 refine⟨l0,l1,vs,us,rfl,rfl,s1 _ _ (fH _ _ h0),fH _ _ h1,oR (by omega),fun p np=>?_⟩
 have s2:=Same.new (o:= .lst (vs++us)) np
 have s01:=s0.trans s1
 refine k _ _ (s01.trans s2) (.lst (gz (s01.free np) ae) (by rw[xV,xV,n0,n1]) (mq n0 (e0.same (qZ (s1.trans s2))) (e1.same ((wg s0).trans (qZ s2)))))
theorem uH {te:TE} {u:TS} {i:Nat} {t:Th} {D:Ends} {σ:L2.St} {H:Hp} (h:gm te t) (k:∀v H',Same H H'->ThAt (nw H H') v t->u D (σ.set i (some v)) H'):rg (nD te (bC i)) u D σ H:=h σ H _ k
theorem gQ {te:TE} {u:TS} {i j:Nat} {v0:V} {ts rs:List Th} {D:Ends} {σ:L2.St} {H H0:Hp} (hv:σ[i]?=some (some v0)) (s0:Same H H0) (a0:ThAt (nw H H0) v0 (.lst ts)) (h:gm te (.lst rs)) (hz:Nat.ble (ts.length+rs.length) 1000=true) (k:∀v H2,Same H H2->ThAt (nw H H2) v (.lst (ts++rs))->u D (σ.set j (some v)) H2):rg (nD (oP pB (nC i) te) (bC j)) u D σ H0:=⟨v0,hv,sg s0 a0 h hz k⟩
theorem nh {H:Hp} {vs:List V} {ts:List Th} {n:Nat} (hn:vs.length=ts.length) (e:AllTh H vs ts) (hl:ts.length=n) (h0:0<n) (c:Int):∃v t,g5 vs (c%(n:Int))=some v/\t∈ts/\ThAt H v t:=by
 obtain⟨k,hk,ek⟩:=qu c h0
 have hkv:k<vs.length:=by omega
 have hkt:k<ts.length:=by omega
 refine⟨vs[k],ts[k],?_,yh hkt,e k _ _ (xK hkv) (xK hkt)⟩
 rw[ek]
 exact aO (xK hkv)
def oE:Nat->Th->Bool
 | 0,_=>false
 | n+1,.lst ts=>decide (ts.length<=1000)&&ts.all (oE n)
 | n+1,.tup ts=>decide (ts.length<=1000)&&ts.all (oE n)
 | _+1,_=>true
theorem uI:∀(n:Nat) (t:Th),oE n t=true->TBnd t:=by
 intro n
 induction n with
 | zero=>intro t h;cases h
 | succ n ih=>
  intro t h
  cases t with
  | non=>exact .non
  | bl=>exact .bl
  | int=>exact .int
  | str=>exact .str
  | lst ts=>
   obtain⟨h1,h2⟩:=Bool.and_eq_true_iff.mp (show(decide (ts.length<=1000)&&ts.all (oE n))=true from h)
   exact .lst (of_decide_eq_true h1) fun t ht=>ih t (x6.mp h2 t ht)
  | tup ts=>
   obtain⟨h1,h2⟩:=Bool.and_eq_true_iff.mp (show(decide (ts.length<=1000)&&ts.all (oE n))=true from h)
   exact .tup (of_decide_eq_true h1) fun t ht=>ih t (x6.mp h2 t ht)
def wX (i:Int):Th:= .int i
theorem fK {H:Hp} {l:Addr} {bs:List Int} (h:H l=some (.lst (bs.map V.int))):ThAt H (.ref l) (.lst (bs.map wX)):= .lst h (by rw[xM,xM]) fun i v t hv ht=>by
 rw[xR]at hv ht
 cases e:bs[i]? with
 | none=>rw[e]at hv;cases hv
 | some b=>rw[e]at hv ht;cases hv;cases ht;exact .int
theorem dE {bs:List Int} (h:bs.length<=1000):TBnd (.lst (bs.map wX)):= .lst (by rw[xM];exact h) fun t ht=>by
 obtain⟨x,_,rfl⟩:=yQ.mp ht;exact .int
theorem dG {H:Hp} {t:Addr} {x y:V} {a b:Th} (ht:H t=some (.tup [x,y])) (hx:ThAt H x a) (hy:ThAt H y b):ThAt H (.ref t) (.tup [a,b]):= .tup ht rfl fun i v t hv ht=>by
 match i with
 | 0=>cases hv;cases ht;exact hx
 | 1=>cases hv;cases ht;exact hy
 | i+2=>cases hv
theorem qH {H:Hp} {t:Addr} {x y z:V} {a b c:Th} (ht:H t=some (.tup [x,y,z])) (hx:ThAt H x a) (hy:ThAt H y b) (hz:ThAt H z c):ThAt H (.ref t) (.tup [a,b,c]):= .tup ht rfl fun i v t hv ht=>by
 match i with
 | 0=>cases hv;cases ht;exact hx
 | 1=>cases hv;cases ht;exact hy
 | 2=>cases hv;cases ht;exact hz
 | i+3=>cases hv
theorem fL {a b:Th} (ha:TBnd a) (hb:TBnd b):TBnd (.tup [a,b]):= .tup (Nat.le_of_ble_eq_true rfl) fun t ht=>by
 rcases xY.mp ht with z | z
 ·rw [z];exact ha
 ·rw [xX.mp z];exact hb
theorem oF {a b c:Th} (ha:TBnd a) (hb:TBnd b) (hc:TBnd c):TBnd (.tup [a,b,c]):= .tup (Nat.le_of_ble_eq_true rfl) fun t ht=>by
 rcases xY.mp ht with z | z
 ·rw [z];exact ha
 rcases xY.mp z with z | z
 ·rw [z];exact hb
 ·rw [xX.mp z];exact hc
def uJ (c:Str):Str:=⟨PySem.placed c fun _ c=>Unicode.upperOf c⟩
section
variable {X:Cx}
theorem qI:wJ X "str.upper" (fun x xs H Q=>∃c:Str,x= .str c/\xs=[]/\Builtin.Str.tooLong (uJ c).length=false/\Q (.str (uJ c)) H):=by
 intro pins s σ H x xs v us Q I rx rv h
 obtain⟨c,e,e2,hf,q⟩:=h
 subst e e2
 obtain⟨t,rfl⟩:=rx
 have hus:=rv.zero
 subst hus
 refine call_gives PySem.F.slot_str_upper (typeIs_str _ _ _) PySem.F.entry_str_upper (PySem.F.args_str_upper_1 _) (gives_str_upper c t hf) ?_
 exact⟨by have:=hf;unfold Builtin.Str.tooLong at this;exact yH (of_decide_eq_false this),⟨.str (uJ c),H,I.tok _,⟨_,rfl⟩,q⟩⟩
end
section
variable {X:Cx}
def vI (K:PySem.W.Frag):R2:=fun x y H Q=>(∃c:Int,y= .int c)/\(nF x y=true\/se K H x)/\Q (.bl (decide (x=y))) H
theorem uK (hu:X.A.units<cLine):dw X (compareOp .Eq) (vI X.K):=by
 intro pins s σ H x y v u Q I rx ry h
 obtain⟨⟨c,rfl⟩,hs | ⟨a,vs,rfl,hs⟩,q⟩:=h
 ·exact bM _ _ _ _ _ _ _ _ _ I rx ry ⟨hs,q⟩
 ·cases rx
  obtain⟨t,rfl⟩:=ry
  have e:decide (V.ref a=V.int c)=false:=decide_eq_false (fun z=>by cases z)
  rcases hs with hs | hs
  ·obtain⟨its,r,pl,_⟩:=I.list hs
   exact SeqAt.RcAt.list_int c t pl.isList hu _ _ _ _ (aG I q e)
  ·obtain⟨its,r,pl,_⟩:=I.tuple hs
   exact SeqAt.RcAt.tuple_int c t (show s.heap.IsTuple a its.toArray from pl) hu _ _ _ _ (aG I q e)
theorem xk (K:PySem.W.Frag) (hu:X.A.units+64<cLine) (h:X.K=K:=by rfl):dw X (compareOp .Eq) (vI K):=by subst h;exact uK (by omega)
end
def ni (σ:L2.St) (te:TE) (t:Th):Prop:=∀(H:Hp) (Q:VK),(∀v H',Same H H'->ThAt (nw H H') v t->Q v H')->te σ H Q
def vJ (σ:L2.St) (ta:TA) (ts:List Th):Prop:=∀(H:Hp) (Q:List V->Hp->Prop),(∀vs H',Same H H'->vs.length=ts.length->AllTh (nw H H') vs ts->Q vs H')->ta σ H Q
theorem gn {σ:L2.St} {te:TE} {t:Th} (h:gm te t):ni σ te t:=h σ
theorem mv {σ:L2.St} {ta:TA} {ts:List Th} (h:oD ta ts):vJ σ ta ts:=h σ
theorem si {σ:L2.St} {i:Nat} {j:Int} (h:σ[i]?=some (some (.int j))):ni σ (nC i) (.int j):=fun H _ k=>⟨_,h,k _ H (Same.refl _) .int⟩
theorem qJ {σ:L2.St} {C:Int->Int->Prop} {g:Int->Int->V} {ta tb:TE} {i j r:Int} (ha:ni σ ta (.int i)) (hb:ni σ tb (.int j)) (hc:C i j) (hg:g i j= .int r):ni σ (oP (rI C g) ta tb) (.int r):=fun H Q k=>ha H _ fun x H1 s1 a1=>hb H1 _ fun y H2 s2 a2=>by
 cases a1;cases a2
 exact⟨i,j,rfl,rfl,hc,hg▸k _ H2 (s1.trans s2) .int⟩
theorem sj {σ:L2.St} {g:Int->Int->V} {ta tb:TE} {i j r:Int} (ha:ni σ ta (.int i)) (hb:ni σ tb (.int j)) (hg:g i j= .int r):ni σ (oP (sJ g) ta tb) (.int r):=fun H Q k=>ha H _ fun x H1 s1 a1=>hb H1 _ fun y H2 s2 a2=>by
 cases a1;cases a2
 exact⟨i,j,rfl,rfl,hg▸k _ H2 (s1.trans s2) .int⟩
theorem nj {σ:L2.St} {ta:TA} {ts:List Th} (h:vJ σ ta ts) (hs:Nat.ble ts.length 1000=true):ni σ (tO ta) (.lst ts):=fun H Q k=>h H _ fun vs H1 s1 hn e=>⟨oR (by have:=Nat.le_of_ble_eq_true hs;omega),fun p np=>by
 have s2:=Same.new (o:= .lst vs) np
 exact k _ _ (s1.trans s2) (.lst (gz (s1.free np) ae) hn (e.same (qZ s2)))⟩
theorem sm {σ:L2.St} {ta:TA} {ts:List Th} (h:vJ σ ta ts) (hs:Nat.ble ts.length 1000=true):ni σ (tN ta) (.tup ts):=fun H Q k=>h H _ fun vs H1 s1 hn e=>⟨oR (by have:=Nat.le_of_ble_eq_true hs;omega),fun p np=>by
 have s2:=Same.new (o:= .tup vs) np
 exact k _ _ (s1.trans s2) (.tup (gz (s1.free np) ae) hn (e.same (qZ s2)))⟩
theorem cD {σ:L2.St} {te:TE} {ta:TA} {t:Th} {ts:List Th} (h:ni σ te t) (hr:vJ σ ta ts):vJ σ (o8 te ta) (t :: ts):=fun H Q k=>h H _ fun x H1 s1 a1=>hr H1 _ fun xs H2 s2 hn e=>k (x :: xs) H2 (s1.trans s2) (by rw[yC,yC,hn]) fun i v t hv ht=>by
 cases i with
 | zero=>cases hv;cases ht;exact a1.same (qZ s2)
 | succ i=>exact(e i v t hv ht).same (wg s1)
theorem qL {te:TE} {H H0:Hp} {σ:L2.St} {Q:VK} {ts rs:List Th} {v0:V} (s0:Same H H0) (a0:ThAt (nw H H0) v0 (.lst ts)) (h:ni σ te (.lst rs)) (hz:Nat.ble (ts.length+rs.length) 1000=true) (k:∀v H2,Same H H2->ThAt (nw H H2) v (.lst (ts++rs))->Q v H2):te σ H0 (fun y H2=>pB v0 y H2 Q):=h H0 _ fun v1 H1 s1 a1=>by
 obtain⟨l0,vs,rfl,h0,n0,e0⟩:=a0.lstD
 obtain⟨l1,us,rfl,h1,n1,e1⟩:=a1.lstD
 have hz:=Nat.le_of_ble_eq_true hz
 refine⟨l0,l1,vs,us,rfl,rfl,s1 _ _ (fH _ _ h0),fH _ _ h1,oR (by omega),fun p np=>?_⟩
 have s2:=Same.new (o:= .lst (vs++us)) np
 have s01:=s0.trans s1
 refine k _ _ (s01.trans s2) (.lst (gz (s01.free np) ae) (by rw[xV,xV,n0,n1]) (mq n0 (e0.same (qZ (s1.trans s2))) (e1.same ((wg s0).trans (qZ s2)))))
theorem qM {te:TE} {u:TS} {i j:Nat} {v0:V} {ts rs:List Th} {D:Ends} {σ:L2.St} {H H0:Hp} (hv:σ[i]?=some (some v0)) (s0:Same H H0) (a0:ThAt (nw H H0) v0 (.lst ts)) (h:ni σ te (.lst rs)) (hz:Nat.ble (ts.length+rs.length) 1000=true) (k:∀v H2,Same H H2->ThAt (nw H H2) v (.lst (ts++rs))->u D (σ.set j (some v)) H2):rg (nD (oP pB (nC i) te) (bC j)) u D σ H0:=⟨v0,hv,qL s0 a0 h hz k⟩
theorem mw {H:Hp} {l:Addr} {v:V} {t:Th} (h:H l=some (.lst [v])) (a:ThAt H v t):ThAt H (.ref l) (.lst [t]):= .lst h rfl fun i x y hx hy=>by
 match i with
 | 0=>cases hx;cases hy;exact a
 | i+1=>cases hx
theorem qN {H:Hp} {l:Addr} {v:V} {t:Th} (h:H l=some (.tup [v])) (a:ThAt H v t):ThAt H (.ref l) (.tup [t]):= .tup h rfl fun i x y hx hy=>by
 match i with
 | 0=>cases hx;cases hy;exact a
 | i+1=>cases hx
theorem my {t:Th} (h:TBnd t):TBnd (.lst [t]):= .lst (Nat.le_of_ble_eq_true rfl) fun x hx=>by rw[xX.mp hx];exact h
theorem qO {t:Th} (h:TBnd t):TBnd (.tup [t]):= .tup (Nat.le_of_ble_eq_true rfl) fun x hx=>by rw[xX.mp hx];exact h
end L2
set_option maxHeartbeats 4000000
namespace My
seal L2.PE L2.PA L2.PS L2.PSs L2.PT L2.PW L2.PI L2.PG L2.tD L2.uQ L2.PO L2.dw L2.bL L2.IxR L2.SlR L2.v7
open PySem L2 PyProof.Rows
local macro_rules | `(tactic| walk_at "go")=> `(tactic| repeat (first | refine⟨_,rfl,?_⟩ | refine⟨_,_,rfl,rfl,(show(0:Int)<_ by decide),?_⟩ | refine⟨_,_,rfl,rfl,(show kl _ _ from⟨by decide,by decide⟩),?_⟩ | refine⟨_,_,rfl,rfl,(show oZ _ _ from⟨by decide,by decide,by decide⟩),?_⟩ | refine⟨_,_,rfl,rfl,(show CMul _ _ from .inl ⟨by decide,by decide⟩),?_⟩ | refine⟨_,_,rfl,rfl,(show CMul _ _ from .inr ⟨by decide,by decide⟩),?_⟩ | refine⟨_,_,rfl,rfl,?_⟩ | refine⟨rfl,?_⟩))
theorem aE {X:Cx} {ss:List Stmt} {D:Ends} {σ:L2.St} {H:Hp} (n:Nat) {t:TS} (h:PSs X (ss.drop n) t) (g:let q:=t;PSs X (ss.drop n) q->∃t,PSs X ss t/\t D σ H):∃t,PSs X ss t/\t D σ H:=g h
def top (i:Nat):Stmt:=PySem.Challenge.pw_deskround_k24_papers_of_anything.main.body.getD i (.Pass ⟨0,0,0,0⟩)
abbrev eY:Stmt:=top 1
abbrev dH:Stmt:=top 2
abbrev ir:Stmt:=top 3
abbrev iu:Stmt:=top 4
abbrev jU:Stmt:=top 6
abbrev jV:Stmt:=top 7
abbrev iw:Stmt:=top 9
abbrev ix:Stmt:=top 10
abbrev eZ:Stmt:=top 12
abbrev gp:Stmt:=top 13
abbrev jW:Stmt:=top 14
abbrev dI:Stmt:=top 15
abbrev dJ:Stmt:=top 16
abbrev cK:Stmt:=top 17
abbrev bN:Stmt:=top 18
abbrev cL:Stmt:=top 19
abbrev fb:Stmt:=top 20
abbrev fc:Stmt:=top 22
abbrev dM:Stmt:=top 23
abbrev fe:Stmt:=top 24
abbrev ff:Stmt:=top 25
abbrev dN:Stmt:=top 26
abbrev c7:Stmt:=top 27
abbrev c8:Stmt:=top 28
abbrev c9:Stmt:=top 29
abbrev fg:Stmt:=top 30
abbrev dO:Stmt:=top 31
abbrev dP:Stmt:=top 32
abbrev df:Stmt:=top 33
abbrev gq:Stmt:=top 34
abbrev dg:Stmt:=top 35
abbrev di:Stmt:=top 36
abbrev dk:Stmt:=top 37
abbrev dQ:Stmt:=top 38
abbrev cM:Stmt:=top 39
abbrev qP:Stmt:=top 40
structure Txt (mg:Str->Option Value):Prop where
 z_all:mg "all"=none
 z_bool:mg "bool"=none
 z_int:mg "int"=none
 z_isinstance:mg "isinstance"=none
 z_len:mg "len"=none
 z_list:mg "list"=none
 z_max:mg "max"=none
 z_min:mg "min"=none
 z_range:mg "range"=none
 z_set:mg "set"=none
 z_sorted:mg "sorted"=none
 z_tuple:mg "tuple"=none
 z_zip:mg "zip"=none
structure Dfs (K:PySem.W.Frag) (mg:Str->Option Value) (aF:Nat->Addr) (dF:Nat->FuncData):Prop where
 is_whole:Def K mg "is_whole" eY ["thing"] (aF 0) (dF 0)
 is_rising:Def K mg "is_rising" dH ["numbers"] (aF 1) (dF 1)
 common:Def K mg "common" ir ["one","other"] (aF 2) (dF 2)
 joined:Def K mg "joined" iu ["one","other"] (aF 3) (dF 3)
 width:Def K mg "width" jU ["pattern"] (aF 4) (dF 4)
 grown:Def K mg "grown" jV ["pattern"] (aF 5) (dF 5)
 breaks:Def K mg "breaks" iw ["pattern","tie"] (aF 6) (dF 6)
 unlike:Def K mg "unlike" ix ["row","steps"] (aF 7) (dF 7)
 pools_of:Def K mg "pools_of" eZ ["pattern","may"] (aF 8) (dF 8)
 pool_of:Def K mg "pool_of" gp ["block","pattern","may"] (aF 9) (dF 9)
 shows:Def K mg "shows" jW ["may","ties","paper"] (aF 10) (dF 10)
 shows_for:Def K mg "shows_for" dI ["pattern","may","ties","paper"] (aF 11) (dF 11)
 tie_shows:Def K mg "tie_shows" dJ ["pattern","ties","place"] (aF 12) (dF 12)
 short_shows:Def K mg "short_shows" cK ["pattern","may","blocks"] (aF 13) (dF 13)
 is_list_of_blocks:Def K mg "is_list_of_blocks" bN ["pattern","blocks"] (aF 14) (dF 14)
 split_shows:Def K mg "split_shows" cL ["pattern","may","ties","papers"] (aF 15) (dF 15)
 is_split:Def K mg "is_split" fb ["pattern","count","papers"] (aF 16) (dF 16)
 law_cell:Def K mg "_law_cell" fc ["script","k"] (aF 17) (dF 17)
 law_whole:Def K mg "_law_whole" dM ["found"] (aF 18) (dF 18)
 law_menu:Def K mg "_law_menu" fe ["script","at","wide"] (aF 19) (dF 19)
 law_bond:Def K mg "_law_bond" ff ["cell","many"] (aF 20) (dF 20)
 law_drawn:Def K mg "_law_drawn" dN ["script","top"] (aF 21) (dF 21)
 law_unlike:Def K mg "_law_unlike" c7 ["things","steps"] (aF 22) (dF 22)
 law_breaks:Def K mg "_law_breaks" c8 ["pattern","tie"] (aF 23) (dF 23)
 law_in_all:Def K mg "_law_in_all" c9 ["badge","lists","steps"] (aF 24) (dF 24)
 law_pool:Def K mg "_law_pool" fg ["pattern","lists","block"] (aF 25) (dF 25)
 law_short:Def K mg "_law_short" dO ["pattern","lists","blocks"] (aF 26) (dF 26)
 law_shows:Def K mg "_law_shows" dP ["pattern","lists","ties","paper"] (aF 27) (dF 27)
 law_blocks:Def K mg "_law_blocks" df ["pattern","lists"] (aF 28) (dF 28)
 law_odd:Def K mg "_law_odd" gq ["cell"] (aF 29) (dF 29)
 law_truths:Def K mg "_law_truths" dg ["rest"] (aF 30) (dF 30)
 law_turned:Def K mg "_law_turned" di ["paper","cell"] (aF 31) (dF 31)
 law_honest:Def K mg "_law_honest" dk ["pattern","lists","ties","left","cell"] (aF 32) (dF 32)
 law_paper:Def K mg "_law_paper" dQ ["pattern","lists","ties","left","cell"] (aF 33) (dF 33)
 law_wrapped:Def K mg "_law_wrapped" cM ["thing","cells"] (aF 34) (dF 34)
 law:Def K mg "law" qP ["script"] (aF 35) (dF 35)
section
variable {P:Program} {w:World} {K:PySem.W.Frag} {mg:Str->Option Value} {base:Heap} {aF:Nat->Addr} {dF:Nat->FuncData}
inductive sp_is_whole (K:PySem.W.Frag) (vs:List V) (H:Hp) (Q:VK) (E:XK):Prop where
 | mk (v:V) (t:Th) (_:vs=[v]) (_:ThAt H v t) (_:Q (.bl t.isInt) H)
theorem la:FnScope ["thing"] ["thing"] (ak eY):=⟨rfl,rfl,rfl,by decide +kernel,rfl,by decide +kernel,by decide +kernel⟩
theorem gA (D:Dfs K mg aF dF) (T:Txt mg):FnOk P w K mg base aY 1 (aF 0) (dF 0) ["thing"] (sp_is_whole K):=by
 refine D.is_whole.fn.ok la (fun vs H Q E h=>?_) (fun cdv A outer s H vs Q E hr h=>?_)
 ·obtain⟨v,t,rfl,_⟩:=h;rfl
 ·have hu:=aV hr
  obtain⟨v,t,rfl,ht,q⟩:=h
  refine⟨_,(ah (aj (cU (ai (fA K) (by rfl) T.z_isinstance boot_isinstance (aa (pv 0) (aa (pJ T.z_int) ab))) (fS (oX (ai (fA K) (by rfl) T.z_isinstance boot_isinstance (aa (pv 0) (aa (jE T.z_bool) ab)))))))),?_⟩
  cases ht with
  | non=>exact⟨_,rfl,_,_,_,false,rfl,.non,rfl,_,rfl,aW q⟩
  | bl=>exact⟨_,rfl,_,_,_,true,rfl,.bl _,rfl,_,rfl,bh ⟨_,rfl,_,_,_,true,rfl,.bl _,rfl,_,rfl,q⟩⟩
  | int=>exact⟨_,rfl,_,_,_,true,rfl,.int _,rfl,_,rfl,bh ⟨_,rfl,_,_,_,false,rfl,.int _,rfl,_,rfl,q⟩⟩
  | str=>exact⟨_,rfl,_,_,_,false,rfl,.str _,rfl,_,rfl,aW q⟩
  | lst hl hn h=>exact⟨_,rfl,_,_,_,false,rfl,.lst hl,rfl,_,rfl,aW q⟩
  | tup hl hn h=>exact⟨_,rfl,_,_,_,false,rfl,.tup hl,rfl,_,rfl,aW q⟩
inductive sp_is_rising (K:PySem.W.Frag) (vs:List V) (H:Hp) (Q:VK) (E:XK):Prop where
 | mk (a:Addr) (ns:List Int) (_:vs=[.ref a]) (_:SqL K H a (ns.map V.int)) (_:ns.length<=1000) (_:∀H',Same H H'->Q (.bl (kZ ns)) H')
theorem jX:FnScope ["numbers"] ["numbers"] (ak dH):=⟨rfl,rfl,rfl,by decide +kernel,rfl,by decide +kernel,by decide +kernel⟩
theorem jY (D:Dfs K mg aF dF) (T:Txt mg):FnOk P w K mg base aY 1 (aF 1) (dF 1) ["numbers"] (sp_is_rising K):=by
 refine D.is_rising.fn.ok jX (fun vs H Q E h=>?_) (fun cdv A outer s H vs Q E hr h=>?_)
 ·obtain⟨a,ns,rfl,_⟩:=h;rfl
 ·have hu:=aV hr
  obtain⟨a,ns,rfl,hS,hl,q⟩:=h
  refine⟨_,(ah (aj (ai (rJ K) (by rfl) T.z_all boot_all (aa (bb ["place","numbers"] [none,some 0] rfl (iX rfl T.z_range (aa af (aa (ai (bx K) (by rfl) T.z_len boot_len (aa (pv 0) ab)) ab))) (fun _=>aA (i:=0) (bq (N:=["place","numbers"]) (by decide +kernel)) rfl (Or.inl rfl)) (fun _=>bJ) (fun _=>(bI cQ (aB (cP K) (pv 1) (ao dA (pv 0) af) (fun _ _=>rfl)) (aB (cP K) (pv 1) (pv 0) (fun _ _=>rfl)) (ax _))) ((.cons (fun _ e=>by cases e) (.cons (fun _ e=>by cases e;exact⟨rfl,rfl⟩) .nil)))) ab)))),?_⟩
  refine⟨_,rfl,_,_,rfl,.inl ⟨_,hS,rfl⟩,_,_,rfl,⟨by decide,by decide,by omega,?_⟩,?_⟩
  ·rw [xM];omega
  rw[xM]
  have e:((ns.length:Int)-1).toNat=ns.length-1:=by omega
  rw[e]
  refine lO (n:=ns.length-1) (fun k=> .bl (decide (ns.getD k 0<ns.getD (k+1) 0))) (by omega) (fun i hi H2 R s2 k=>?_) fun acc H' s1 n1 h1=>?_
  ·have e1:(1:Int)+(i:Int)-1=(i:Int):=by omega
   have e2:(1:Int)+(i:Int)=((i+1:Nat):Int):=by omega
   refine⟨_,rfl,_,rfl,_,_,rfl,rfl,a,_,_,_,rfl,rfl,s2.seq hS,by rw[e1];exact bK (by omega),_,rfl,_,rfl,a,_,_,_,rfl,rfl,s2.seq hS,by rw[e2];exact bK (by omega),_,_,rfl,rfl,k H2 (Same.refl _)⟩
  ·refine⟨acc,(xO (ns.length-1)).map fun k=>decide (ns.getD k 0<ns.getD (k+1) 0),rfl,SqL.of ?_,?_⟩
   ·rw [h1,yA];rfl
   ·rw [List.all_map]
    exact q H' s1
def jt (K:PySem.W.Frag):Sp:=xg K 0
theorem oG:FnScope ["one","other"] ["one","other"] (ak ir):=⟨rfl,rfl,rfl,by decide +kernel,rfl,by decide +kernel,by decide +kernel⟩
theorem oH (D:Dfs K mg aF dF) (T:Txt mg):FnOk P w K mg base aY 1 (aF 2) (dF 2) ["one","other"] (jt K):=by
 refine D.common.fn.ok oG (fun vs H Q E h=>?_) (fun cdv A outer s H vs Q E hr h=>?_)
 ·obtain⟨a,b,F,S,U,rfl,_⟩:=h;rfl
 ·have hu:=aV hr
  obtain⟨a,b,F,S,U,rfl,bo,q⟩:=h
  refine⟨_,(ah (aj (ai (ik w) (by rfl) T.z_sorted boot_sorted (aa (ao (rV w) (aJ (iL w K) (by rfl) T.z_set PyProof.Rows.boot_set (aa (pv 0) ab)) (aJ (iL w K) (by rfl) T.z_set PyProof.Rows.boot_set (aa (pv 1) ab))) ab)))),?_⟩
  have h1:=bo.l1
  have h2:=bo.l2
  refine⟨_,rfl,a,F,rfl,bo.fa,by omega,fun s1 n1=>⟨_,rfl,b,S,rfl,(Same.new n1).seq bo.sb,by omega,fun s2 n2=>?_⟩⟩
  have d1:=bZ F
  have d2:=bZ S
  have n12:s1≠s2:=fun z=>by rw[<- z,ae]at n2;cases n2
  refine⟨s1,s2,dd F,dd S,rfl,rfl,n12,by rw[ay n12];exact ae,ae,by omega,by omega,fun c ks nc nd hm=>?_⟩
  have lk:ks.length<=F.length:=nd.length_le_of_subset fun x hx=>br.mp ((hm x).mp hx).1
  refine⟨c,ks,rfl,ae,by omega,fun l ms nl pm sr=>?_⟩
  refine q l ms _ ⟨(((Same.new n1).to n2).to nc).to nl,(((Same.new n1).to (o:= .ext (SX w s2 (dd S))) n2).to (o:= .ext (SX w c ks)) nc).free nl,ae,gO sr (pm.nodup_iff.mpr nd),fun x=>?_⟩
  rw[pm.mem_iff,hm x]
  dsimp only
  rw[br,br]
  exact Iff.rfl
def ju (K:PySem.W.Frag):Sp:=xg K 1
theorem oI:FnScope ["one","other"] ["one","other"] (ak iu):=⟨rfl,rfl,rfl,by decide +kernel,rfl,by decide +kernel,by decide +kernel⟩
theorem oJ (D:Dfs K mg aF dF) (T:Txt mg):FnOk P w K mg base aY 1 (aF 3) (dF 3) ["one","other"] (ju K):=by
 refine D.joined.fn.ok oI (fun vs H Q E h=>?_) (fun cdv A outer s H vs Q E hr h=>?_)
 ·obtain⟨a,b,F,S,U,rfl,_⟩:=h;rfl
 ·have hu:=aV hr
  obtain⟨a,b,F,S,U,rfl,bo,q⟩:=h
  refine⟨_,(ah (aj (ai (ik w) (by rfl) T.z_sorted boot_sorted (aa (ao (uq w) (aJ (iL w K) (by rfl) T.z_set PyProof.Rows.boot_set (aa (pv 0) ab)) (aJ (iL w K) (by rfl) T.z_set PyProof.Rows.boot_set (aa (pv 1) ab))) ab)))),?_⟩
  have h1:=bo.l1
  have h2:=bo.l2
  refine⟨_,rfl,a,F,rfl,bo.fa,by omega,fun s1 n1=>⟨_,rfl,b,S,rfl,(Same.new n1).seq bo.sb,by omega,fun s2 n2=>?_⟩⟩
  have d1:=bZ F
  have d2:=bZ S
  have n12:s1≠s2:=fun z=>by rw[<- z,ae]at n2;cases n2
  refine⟨s1,s2,dd F,dd S,rfl,rfl,n12,by rw[ay n12];exact ae,ae,by omega,by omega,fun c ks nc nd hm=>?_⟩
  have lk:ks.length<=U.length:=nd.length_le_of_subset fun x hx=>((hm x).mp hx).elim (fun h=>bo.fu x (br.mp h)) fun h=>bo.su x (br.mp h)
  have ul:=bo.ul
  refine⟨c,ks,rfl,ae,by omega,fun l ms nl pm sr=>?_⟩
  refine q l ms _ ⟨(((Same.new n1).to n2).to nc).to nl,(((Same.new n1).to (o:= .ext (SX w s2 (dd S))) n2).to (o:= .ext (SX w c ks)) nc).free nl,ae,gO sr (pm.nodup_iff.mpr nd),fun x=>?_⟩
  rw[pm.mem_iff,hm x]
  dsimp only
  rw[br,br]
  exact Iff.rfl
inductive sp_width (K:PySem.W.Frag) (vs:List V) (H:Hp) (Q:VK) (E:XK):Prop where
 | mk (a:Addr) (ps:List Int) (_:vs=[.ref a]) (_:SqL K H a (ps.map V.int)) (_:ps.length<=6) (_:∀H',Same H H'->Q (.int (((dd ps).length:Nat):Int)) H')
theorem qQ:FnScope ["pattern"] ["pattern"] (ak jU):=⟨rfl,rfl,rfl,by decide +kernel,rfl,by decide +kernel,by decide +kernel⟩
theorem iy (D:Dfs K mg aF dF) (T:Txt mg):FnOk P w K mg base aY 1 (aF 4) (dF 4) ["pattern"] (sp_width K):=by
 refine D.width.fn.ok qQ (fun vs H Q E h=>?_) (fun cdv A outer s H vs Q E hr h=>?_)
 ·obtain⟨a,ps,rfl,_⟩:=h;rfl
 ·have hu:=aV hr
  obtain⟨a,ps,rfl,ha,h6,q⟩:=h
  refine⟨_,(ah (aj (ai (kM w) (by rfl) T.z_len boot_len (aa (aJ (iL w K) (by rfl) T.z_set PyProof.Rows.boot_set (aa (pv 0) ab)) ab)))),?_⟩
  exact⟨_,rfl,a,ps,rfl,ha,by omega,fun S nS=>⟨S,_,rfl,ae,q _ (Same.new nS)⟩⟩
inductive sp_grown (K:PySem.W.Frag) (vs:List V) (H:Hp) (Q:VK) (E:XK):Prop where
 | mk (a:Addr) (ps:List Int) (_:vs=[.ref a]) (_:H a=some (.lst (ps.map V.int))) (_:ps.length<=6) (_:∀l (rs:List Addr) H',Same H H'->H l=none->H' l=some (.lst (rs.map V.ref))->rs.length=(dd ps).length+1->(∀(i:Nat) r,rs[i]?=some r->H' r=some (.lst ((ps++[(i:Int)]).map V.int))/\H r=none)->Q (.ref l) H')
theorem qR:FnScope ["pattern"] ["pattern"] (ak jV):=⟨rfl,rfl,rfl,by decide +kernel,rfl,by decide +kernel,by decide +kernel⟩
theorem lb (D:Dfs K mg aF dF) (T:Txt mg):FnOk P w K mg base aY 2 (aF 5) (dF 5) ["pattern"] (sp_grown K):=by
 have Gwidth:FnOk P w K mg base aY 1 (aF 4) (dF 4) ["pattern"] (sp_width K):=iy D T
 refine D.grown.fn.ok qR (fun vs H Q E h=>?_) (fun cdv A outer s H vs Q E hr h=>?_)
 ·obtain⟨a,ps,rfl,_⟩:=h;rfl
 ·have hu:=aV hr
  obtain⟨a,ps,rfl,ha,h6,q⟩:=h
  refine⟨_,(ah (aj (bb ["number","pattern"] [none,some 0] rfl (aU rfl T.z_range (aa (ao bE (pc D.width Gwidth (hr.mono (by decide)) (aa (pv 0) ab)) af) ab)) (fun _=>aA (i:=0) (bq (N:=["number","pattern"]) (by decide +kernel)) rfl (Or.inl rfl)) (fun _=>bJ) (fun _=>(ao cW (pv 1) (aq (aa (pv 0) ab)))) ((.cons (fun _ e=>by cases e) (.cons (fun _ e=>by cases e;exact⟨rfl,rfl⟩) .nil)))))),?_⟩
  refine⟨_,rfl,a,ps,rfl,SqL.of ha,h6,fun H1 s1=>?_⟩
  have dl:=bZ ps
  refine⟨_,_,rfl,rfl,_,rfl,fI _,by omega,?_⟩
  have e0:(((dd ps).length:Int)+1).toNat=(dd ps).length+1:=by omega
  rw[e0]
  refine gy (n:=(dd ps).length+1) (fun i=>(ps++[(i:Int)]).map V.int) (by omega) (fun i hi H2 R s2 k=>?_) fun acc rs H2 s2 nacc hacc hrs hall hne=>?_
  ·have ei:(0:Int)+(i:Int)=((i:Nat):Int):=by omega
   rw[ei]
   refine⟨_,rfl,_,rfl,cb,fun p np=>?_⟩
   have ha2:=(s1.trans s2) _ _ ha
   refine⟨a,p,_,_,rfl,rfl,Same.new np _ _ ha2,ae,by rw[xM];exact oR (by simp;omega),fun r nr=>?_⟩
   have e:ps.map V.int++[V.int ((i:Nat):Int)]=(ps++[(i:Int)]).map V.int:=by rw[yo];rfl
   rw[e]
   exact k r _ ((Same.new np).to nr) ((Same.new np).free nr) ae
  ·exact q acc rs H2 (s1.trans s2) (s1.free nacc) hacc hrs fun i r hr=>⟨(hall i r hr).1,s1.free (hall i r hr).2⟩
inductive sp_unlike (K:PySem.W.Frag) (vs:List V) (H:Hp) (Q:VK) (E:XK):Prop where
 | mk (a t:Addr) (hs:List Int) (st:List Nat) (_:vs=[.ref a,.ref t]) (_:SqL K H a (hs.map V.int)) (_:(SqL K H t (st.map fun(i:Nat)=>V.int (i:Int))\/SqT K H t (st.map fun(i:Nat)=>V.int (i:Int)))) (_:(∀i∈st,i<hs.length)) (_:st.length<=6) (_:∀H',Same H H'->Q (.int ((lB (fun i=>hs.getD i 0) st:Nat):Int)) H')
theorem oK:FnScope ["row","steps"] ["row","steps"] (ak ix):=⟨rfl,rfl,rfl,by decide +kernel,rfl,by decide +kernel,by decide +kernel⟩
theorem oM (D:Dfs K mg aF dF) (T:Txt mg):FnOk P w K mg base aY 1 (aF 7) (dF 7) ["row","steps"] (sp_unlike K):=by
 refine D.unlike.fn.ok oK (fun vs H Q E h=>?_) (fun cdv A outer s H vs Q E hr h=>?_)
 ·obtain⟨a,t,hs,st,rfl,_⟩:=h;rfl
 ·have hu:=aV hr
  obtain⟨a,t,hs,st,rfl,ha,ht,hlt,h6,q⟩:=h
  refine⟨_,(ah (aj (ai (kM w) (by rfl) T.z_len boot_len (aa (aJ (iL w K) (by rfl) T.z_set PyProof.Rows.boot_set (aa (bb ["step","row"] [none,some 0] rfl (xf K (pv 1)) (fun _=>aA (i:=0) (bq (N:=["step","row"]) (by decide +kernel)) rfl (Or.inl rfl)) (fun _=>bJ) (fun _=>(aB (cP K) (pv 1) (pv 0) (fun _ _=>rfl))) ((.cons (fun _ e=>by cases e) (.cons (fun _ e=>by cases e;exact⟨rfl,rfl⟩) .nil)))) ab)) ab)))),?_⟩
  have fin:∀acc H2,Same H H2->H2 acc=some (.lst ((st.map fun i=>hs.getD i 0).map V.int))->∀S,H2 S=none->Q (.int ((lB (fun i=>hs.getD i 0) st:Nat):Int)) (aI H2 S (.ext (SX w S (dd (st.map fun i=>hs.getD i 0))))):=fun acc H2 s2 _ S nS=>q _ (s2.to nS)
  refine⟨_,rfl,t,rfl,?_⟩
  rcases ht with ht | ht
  ·refine .inl ⟨⟨_,ht⟩,b3 (xs:=st.map fun(i:Nat)=>V.int (i:Int)) (fun _=>true) (fun j=> .int (hs.getD (st.getD j 0) 0)) ht (by rw[xM];omega) (fun _ _ _ _ _ _ k=>k _ (Same.refl _)) (fun j x hx _ H2 R s2 k=>?_) fun acc H2 s2 nacc hacc=>?_⟩
   ·obtain⟨d,hd,rfl,ed⟩:=eR hx
    rw[ed]at k
    exact⟨_,rfl,_,rfl,a,_,_,_,rfl,rfl,s2.seq ha,bK (hlt d (xT hd)),k _ (Same.refl _)⟩
   rw[jP]at hacc
   exact⟨acc,st.map fun i=>hs.getD i 0,rfl,SqL.of hacc,by rw[xM];omega,fun S nS=>⟨S,_,rfl,ae,fin acc H2 s2 hacc S nS⟩⟩
  ·refine .inr ⟨⟨_,ht⟩,fG (xs:=st.map fun(i:Nat)=>V.int (i:Int)) (fun _=>true) (fun j=> .int (hs.getD (st.getD j 0) 0)) ht (by rw[xM];omega) (fun _ _ _ _ _ _ k=>k _ (Same.refl _)) (fun j x hx _ H2 R s2 k=>?_) fun acc H2 s2 nacc hacc=>?_⟩
   ·obtain⟨d,hd,rfl,ed⟩:=eR hx
    rw[ed]at k
    exact⟨_,rfl,_,rfl,a,_,_,_,rfl,rfl,s2.seq ha,bK (hlt d (xT hd)),k _ (Same.refl _)⟩
   rw[jP]at hacc
   exact⟨acc,st.map fun i=>hs.getD i 0,rfl,SqL.of hacc,by rw[xM];omega,fun S nS=>⟨S,_,rfl,ae,fin acc H2 s2 hacc S nS⟩⟩
inductive sp_breaks (K:PySem.W.Frag) (vs:List V) (H:Hp) (Q:VK) (E:XK):Prop where
 | mk (a tp t:Addr) (hs:List Int) (st:List Nat) (wd:Str) (k:Int) (_:vs=[.ref a,.ref tp]) (_:SqL K H a (hs.map V.int)) (_:SqT K H tp [.str wd,.int k,.ref t]) (_:SqT K H t (st.map fun(i:Nat)=>V.int (i:Int))) (_:(wd="most"\/wd="least")) (_:st.length<=6) (_:∀H',Same H H'->Q (.bl (brk (fun i=>hs.getD i 0) hs.length wd k st)) H')
theorem gr:FnScope ["pattern","tie","steps","numbers_there"] ["pattern","tie"] (ak iw):=⟨rfl,rfl,rfl,by decide +kernel,rfl,by decide +kernel,by decide +kernel⟩
theorem oN (D:Dfs K mg aF dF) (T:Txt mg):FnOk P w K mg base aY 2 (aF 6) (dF 6) ["pattern","tie"] (sp_breaks K):=by
 have Gunlike:FnOk P w K mg base aY 1 (aF 7) (dF 7) ["row","steps"] (sp_unlike K):=oM D T
 refine D.breaks.fn.ok gr (fun vs H Q E h=>?_) (fun cdv A outer s H vs Q E hr h=>?_)
 ·obtain⟨a,tp,t,hs,st,wd,k,rfl,_⟩:=h;rfl
 ·have hu:=aV hr
  obtain⟨a,tp,t,hs,st,wd,k,rfl,ha,htp,ht,hwd,h6,q⟩:=h
  refine aE 3 (ah (aj (bI cQ (ao dA (ao bE (pv 3) (ai (bx K) (by rfl) T.z_len boot_len (aa (aB (i7 K) (pv 1) af (fun _ _=>rfl)) ab))) (ai (bx K) (by rfl) T.z_len boot_len (aa (pv 2) ab))) (aB (i7 K) (pv 1) af (fun _ _=>rfl)) (ax _)))) ?_
  intro Z0 z0
  refine aE 2 (ag (aK (av bM (aB (i7 K) (pv 1) af (fun _ _=>rfl)) ar (ax _))
    (ah (aj (bI mH (pv 3) (aB (i7 K) (pv 1) af (fun _ _=>rfl)) (ax _))))
    aw) z0) ?_
  intro Z0 z0
  refine aE 1 (ag (aC (i:=3) gr.nd rfl (Or.inl rfl) (pc D.unlike Gunlike (hr.mono (by decide)) (aa (pv 0) (aa (pv 2) ab)))) z0) ?_
  intro Z0 z0
  refine⟨_,(ag (fz (i₀:=2) gr.nd rfl (Or.inl rfl) ["step","pattern"] [none,some 0] rfl (xb K (aB (i7 K) (pv 1) af (fun _ _=>rfl))) (fun _=>aA (i:=0) (bq (N:=["step","pattern"]) (by decide +kernel)) rfl (Or.inl rfl)) (fun _=>dX (av cQ (pv 0) (ai (bx K) (by rfl) T.z_len boot_len (aa (pv 1) ab)) (ax _))) (fun _=>(pv 0)) ((.cons (fun _ e=>by cases e) (.cons (fun _ e=>by cases e;exact⟨rfl,rfl⟩) .nil)))) z0),?_⟩
  refine⟨_,rfl,tp,_,_,_,rfl,rfl,htp,rfl,t,rfl,⟨_,ht⟩,?_⟩
  refine fG (xs:=st.map fun(i:Nat)=>V.int (i:Int)) (fun j=>decide (st.getD j 0<hs.length)) (fun j=> .int ((st.getD j 0:Nat):Int)) ht (by rw[xM];omega) (fun j x hx H2 R s2 k=>?_) (fun j x hx hp H2 R s2 k=>?_) fun acc H2 s2 nacc hacc=>?_
  ·obtain⟨d,hd,rfl,ed⟩:=eR hx
   rw[ed]at k
   refine⟨_,rfl,_,rfl,_,_,rfl,.inl ⟨_,s2.seq ha,rfl⟩,_,_,rfl,rfl,_,rfl,?_⟩
   have kk:=k H2 (Same.refl _)
   rw[uw]at kk
   rw[xM]
   exact kk
  ·obtain⟨d,hd,rfl,ed⟩:=eR hx
   rw[ed]at k
   exact⟨_,rfl,k _ (Same.refl _)⟩
  rw[xM,vv (g:=fun i=>decide (i<hs.length)) (F:=fun(i:Nat)=>V.int (i:Int))]at hacc
  have fl:(st.filter fun i=>decide (i<hs.length)).length<=st.length:=yy ..
  refine⟨_,rfl,_,rfl,a,acc,hs,st.filter fun i=>decide (i<hs.length),rfl,s2.seq ha,.inl (SqL.of hacc),(fun i hi=>of_decide_eq_true (yn.mp hi).2),by omega,fun H3 s23=>?_⟩
  have s3:=s2.trans s23
  have hacc3:=s23 _ _ hacc
  have q3:=q H3 s3
  refine⟨_,rfl,tp,_,_,_,rfl,rfl,Same.seqT s3 htp,rfl,rfl,_,rfl,?_⟩
  unfold brk at q3
  rcases hwd with e | e<;>subst e
  ·refine bh ?_
   rw[if_pos rfl]at q3
   exact⟨_,rfl,_,rfl,tp,_,_,_,rfl,rfl,Same.seqT s3 htp,rfl,_,_,rfl,rfl,q3⟩
  ·rw [decide_eq_false (by decide)]
   refine aW ?_
   rw[if_neg (by decide)]at q3
   refine⟨_,rfl,_,rfl,tp,_,_,_,rfl,rfl,Same.seqT s3 htp,rfl,_,_,rfl,.inr ⟨_,Same.seqT s3 ht,rfl⟩,_,_,rfl,rfl,_,rfl,_,_,rfl,.inl ⟨_,SqL.of hacc3,rfl⟩,_,_,rfl,rfl,_,rfl,tp,_,_,_,rfl,rfl,Same.seqT s3 htp,rfl,_,_,rfl,rfl,?_⟩
   rw[xM,xM]
   exact q3
inductive sp_pool_of (K:PySem.W.Frag) (vs:List V) (H:Hp) (Q:VK) (E:XK):Prop where
 | mk (b:Nat) (pa ma:Addr) (p:List Int) (rs:List Addr) (may:List (List Int)) (U:List Int) (_:vs=[.int ((b:Nat):Int),.ref pa,.ref ma]) (_:SqL K H pa (p.map V.int)) (_:May K H ma rs may U) (_:bO p) (_:b<(dd p).length) (_:p.length<=may.length) (_:∀l H',Same H H'->H l=none->H' l=some (.lst ((bT may p b).map V.int))->Q (.ref l) H')
theorem cE:FnScope ["block","pattern","may","steps","step","pool"] ["block","pattern","may"] (ak gp):=⟨rfl,rfl,rfl,by decide +kernel,rfl,by decide +kernel,by decide +kernel⟩
theorem mz (D:Dfs K mg aF dF) (T:Txt mg):FnOk P w K mg base aY 2 (aF 9) (dF 9) ["block","pattern","may"] (sp_pool_of K):=by
 have Gcommon:FnOk P w K mg base aY 1 (aF 2) (dF 2) ["one","other"] (jt K):=oH D T
 refine D.pool_of.fn.ok cE (fun vs H Q E h=>?_) (fun cdv A outer s H vs Q E hr h=>?_)
 ·obtain⟨b,pa,ma,p,rs,may,U,rfl,_⟩:=h;rfl
 ·have hu:=aV hr
  obtain⟨b,pa,ma,p,rs,may,U,rfl,hp,hm,c,hb,hl,q⟩:=h
  refine aE 3 (ah (aj (pv 5))) ?_
  intro Z0 z0
  refine aE 2 (ag (bX PassesOwn.never rfl (pM K (g4 (w9 K) (pv 3) (gH af) mI)) (aA (i:=4) cE.nd rfl (Or.inl rfl))
    (ah (aC (i:=5) cE.nd rfl (Or.inl rfl) (pc D.common Gcommon (hr.mono (by decide)) (aa (pv 5) (aa (aB (cP K) (pv 2) (pv 4) (fun _ _=>rfl)) ab)))))) z0) ?_
  intro Z0 z0
  refine aE 1 (ag (aC (i:=5) cE.nd rfl (Or.inl rfl) (aJ (mS K) (by rfl) T.z_list boot_list (aa (aB (cP K) (pv 2) (aB (cP K) (pv 3) af (fun _ _=>rfl)) (fun _ _=>rfl)) ab))) z0) ?_
  intro Z0 z0
  refine⟨_,(ag (fz (i₀:=3) cE.nd rfl (Or.inl rfl) ["step","pattern","block"] [none,some 1,some 0] rfl (aU rfl T.z_range (aa (ai (bx K) (by rfl) T.z_len boot_len (aa (pv 1) ab)) ab)) (fun _=>aA (i:=0) (bq (N:=["step","pattern","block"]) (by decide +kernel)) rfl (Or.inl rfl)) (fun _=>dX (av bM (aB (cP K) (pv 1) (pv 0) (fun _ _=>rfl)) (pv 2) (ax _))) (fun _=>(pv 0)) ((.cons (fun _ e=>by cases e) (.cons (fun _ e=>by cases e;exact⟨rfl,rfl⟩) (.cons (fun _ e=>by cases e;exact⟨rfl,rfl⟩) .nil))))) z0),?_⟩
  have m6:=hm.m6
  refine⟨_,rfl,_,_,rfl,.inl ⟨_,hp,rfl⟩,_,rfl,fI _,by rw[xM];omega,?_⟩
  have e0:(((p.map V.int).length:Nat):Int).toNat=p.length:=by rw[xM];omega
  rw[e0]
  refine gc (n:=p.length) (fun i=>decide (p.getD i 0=(b:Int))) (by omega) (fun i hi H3 R s3 k=>?_) (fun i hi H3 R k=>?_) fun sl H3 s3 nsl hsl=>?_
  ·have ei:(0:Int)+(i:Int)=((i:Nat):Int):=by omega
   rw[ei]
   have kk:=k H3 (Same.refl _)
   rw[kU]at kk
   exact⟨_,rfl,_,rfl,pa,_,_,_,rfl,rfl,s3.seq hp,bK hi,_,rfl,rfl,_,rfl,kk⟩
  ·have ei:(0:Int)+(i:Int)=((i:Nat):Int):=by omega
   rw[ei]
   exact⟨_,rfl,k⟩
  have sne:eD p b≠[]:=jQ c hb
  have slt:∀i∈eD p b,i<may.length:=fun i hi=>by have:=(cS.mp hi).1;omega
  have hsl:H3 sl=some (.lst ((eD p b).map fun(i:Nat)=>V.int (i:Int))):=hsl
  have q2:∀l H',Same H3 H'->H3 l=none->H' l=some (.lst ((cI (eD p b) may).map V.int))->Q (.ref l) H':=fun l H' s n e=>q l H' (s3.trans s) (s3.free n) e
  have s6:(eD p b).length<=6:=by
   have:=yy (fun i=>decide (p.getD i 0=(b:Int))) (xO p.length)
   rw[yp]at this
   show((xO p.length).filter fun i=>decide (p.getD i 0=(b:Int))).length<=6
   omega
  have hm3:=hm.same s3
  clear q
  generalize eD p b=st at hsl sne slt q2 s6
  obtain⟨s0,sr,rfl⟩:=List.exists_cons_of_ne_nil sne
  obtain⟨r0,hr0,hq0,up0,sub0⟩:=hm3.rows (slt s0 (by simp))
  refine⟨_,rfl,_,rfl,sl,_,_,_,rfl,rfl,SqL.of hsl,aO (j:=0) (v:=V.int (s0:Int)) rfl,ma,_,_,_,rfl,rfl,hm3.ls,aO (by rw[xR,hr0];rfl),r0,_,rfl,.inl hq0,fun l nl=>?_⟩
  have cf:eN (((s0 :: sr).map fun(i:Nat)=>V.int (i:Int))) (some (1:Int)) none=sr.map fun(i:Nat)=>V.int (i:Int):=pN _ 1
  refine⟨_,rfl,_,rfl,sl,_,rfl,SqL.of (Same.new nl _ _ hsl),fun cc ncc=>?_⟩
  have s34:=(Same.new (o:= .lst ((may.getD s0 []).map V.int)) nl).to (o:= .lst (sr.map fun(i:Nat)=>V.int (i:Int))) ncc
  have ncl:l≠cc:=fun z=>by rw[<- z,ae]at ncc;cases ncc
  have hl4:aI (aI H3 l (.lst ((may.getD s0 []).map V.int))) cc (.lst (sr.map fun(i:Nat)=>V.int (i:Int))) l=some (.lst ((may.getD s0 []).map V.int)):=by rw[ay ncl];exact ae
  have hcc4:aI (aI H3 l (.lst ((may.getD s0 []).map V.int))) cc (.lst (sr.map fun(i:Nat)=>V.int (i:Int))) cc=some (.lst (sr.map fun(i:Nat)=>V.int (i:Int))):=ae
  rw[cf]
  generalize aI (aI H3 l (.lst ((may.getD s0 []).map V.int))) cc (.lst (sr.map fun(i:Nat)=>V.int (i:Int)))=H4 at s34 hl4 hcc4
  refine⟨cc,rfl,⟨_,SqL.of hcc4⟩,?_⟩
  refine dz (K:=K) (a:=cc) (xs:=sr.map fun(i:Nat)=>V.int (i:Int)) (fun i σ H5=>∃(po:Addr) (x:Option V),σ=[some (.int ((b:Nat):Int)),some (.ref pa),some (.ref ma),some (.ref sl),x,some (.ref po)]/\Same H4 H5/\H3 po=none/\H5 po=some (.lst ((cI (s0 :: sr.take i) may).map V.int)))
   ⟨l,none,rfl,Same.refl _,nl,by rw[zy,ou];exact hl4⟩ (fun i σ H5 _ hq__=>by obtain⟨_,_,_,s,_⟩:=hq__;exact s.seq (SqL.of hcc4)) ?_ ?_
  ·rintro i y σ H5 hi ⟨po,x,rfl,s5,npo,hpo⟩
   obtain⟨d,hd,rfl,_⟩:=eR hi
   have hdl:=slt d (x8 _ (xT hd))
   have hm5:=hm3.same (s34.trans s5)
   obtain⟨r1,hr1,hq1,up1,sub1⟩:=hm5.rows hdl
   refine⟨_,rfl,_,rfl,_,rfl,ma,_,_,_,rfl,rfl,hm5.ls,aO (by rw[xR,hr1];rfl),po,r1,cI (s0 :: sr.take i) may,may.getD d [],U,rfl,⟨SqL.of hpo,hq1,il hm.up,up1,fun x hx=>sub0 x ((yn.mp hx).1),sub1,by have:=hm.u20;omega⟩,fun l2 ks H6 ⟨t1,t2,t3,t4,t5⟩=>?_⟩
   refine⟨l2,_,rfl,s5.trans t1,(s34.trans s5).free t2,?_⟩
   have et:sr.take (i+1)=sr.take i++[d]:=by rw[yY,hd];rfl
   have ek:ks=cI (s0 :: sr.take (i+1)) may:=by
    refine uy t4 (il hm.up) fun x=>?_
    rw[t5 x,et,<- List.cons_append,me (by simp)]
    exact Iff.rfl
   rw[<- ek]
   exact t3
  ·rintro σ H5 ⟨po,x,rfl,s5,npo,hpo⟩
   rw[xM,y6]at hpo
   exact⟨_,rfl,q2 po H5 (s34.trans s5) npo hpo⟩
inductive sp_pools_of (K:PySem.W.Frag) (vs:List V) (H:Hp) (Q:VK) (E:XK):Prop where
 | mk (pa ma:Addr) (p:List Int) (rs:List Addr) (may:List (List Int)) (U:List Int) (_:vs=[.ref pa,.ref ma]) (_:SqL K H pa (p.map V.int)) (_:May K H ma rs may U) (_:bO p) (_:p.length<=may.length) (_:∀l (ls:List Addr) H',Same H H'->H l=none->H' l=some (.lst (ls.map V.ref))->RowsL H' ls (pools may p)->(∀r∈ls,H r=none)->Q (.ref l) H')
theorem lg:FnScope ["pattern","may"] ["pattern","may"] (ak eZ):=⟨rfl,rfl,rfl,by decide +kernel,rfl,by decide +kernel,by decide +kernel⟩
theorem lj (D:Dfs K mg aF dF) (T:Txt mg):FnOk P w K mg base aY 3 (aF 8) (dF 8) ["pattern","may"] (sp_pools_of K):=by
 have Gwidth:FnOk P w K mg base aY 1 (aF 4) (dF 4) ["pattern"] (sp_width K):=iy D T
 have Gpool_of:FnOk P w K mg base aY 2 (aF 9) (dF 9) ["block","pattern","may"] (sp_pool_of K):=mz D T
 refine D.pools_of.fn.ok lg (fun vs H Q E h=>?_) (fun cdv A outer s H vs Q E hr h=>?_)
 ·obtain⟨pa,ma,p,rs,may,U,rfl,_⟩:=h;rfl
 ·have hu:=aV hr
  obtain⟨pa,ma,p,rs,may,U,rfl,hp,hm,c,hl,q⟩:=h
  refine⟨_,(ah (aj (bb ["block","pattern","may"] [none,some 0,some 1] rfl (aU rfl T.z_range (aa (pc D.width Gwidth (hr.mono (by decide)) (aa (pv 0) ab)) ab)) (fun _=>aA (i:=0) (bq (N:=["block","pattern","may"]) (by decide +kernel)) rfl (Or.inl rfl)) (fun _=>bJ) (fun _=>(pc D.pool_of Gpool_of (hr.mono (by decide)) (aa (pv 0) (aa (pv 1) (aa (pv 2) ab))))) ((.cons (fun _ e=>by cases e) (.cons (fun _ e=>by cases e;exact⟨rfl,rfl⟩) (.cons (fun _ e=>by cases e;exact⟨rfl,rfl⟩) .nil))))))),?_⟩
  have m6:=hm.m6
  have dl:=bZ p
  refine⟨_,rfl,pa,p,rfl,hp,by omega,fun H1 s1=>?_⟩
  refine⟨_,rfl,fI _,by omega,?_⟩
  rw[yi]
  refine gy (n:=(dd p).length) (fun i=>(bT may p i).map V.int) (by omega) (fun i hi H2 R s2 k=>?_) fun acc ls H2 s2 nacc hacc hrs hall hne=>?_
  ·have ei:(0:Int)+(i:Int)=((i:Nat):Int):=by omega
   rw[ei]
   have s12:=s1.trans s2
   exact⟨_,rfl,_,rfl,_,rfl,i,pa,ma,p,rs,may,U,rfl,s12.seq hp,hm.same s12,c,hi,hl,fun r H3 s3 nr hr=>k r H3 s3 nr hr⟩
  ·refine q acc ls H2 (s1.trans s2) (s1.free nacc) hacc (RowsL.of (by rw[hrs,jn]) fun i r p' e1 e2=>?_) fun r hr=>?_
   ·have hi:i<(dd p).length:=by rw[<- hrs];exact(xP.mp e1).1
    rw[dD hi]at e2
    cases e2
    exact(hall i r e1).1
   ·obtain⟨i,hi,ei⟩:=xZ.mp hr
    exact s1.free (hall i r (by rw[xK hi,ei])).2
inductive sp_tie_shows (K:PySem.W.Frag) (vs:List V) (H:Hp) (Q:VK) (E:XK):Prop where
 | mk (pa ta:Addr) (v:V) (r:Th) (p:List Int) (ts:List (Addr×Addr×Str×Int×List Nat)) (_:vs=[.ref pa,.ref ta,v]) (_:SqL K H pa (p.map V.int)) (_:Ties K H ta ts 100) (_:ThAt H v r) (_:∀H',Same H H'->Q (.bl (oC (ts.map bD) p r)) H')
theorem jZ:FnScope ["pattern","ties","place"] ["pattern","ties","place"] (ak dJ):=⟨rfl,rfl,rfl,by decide +kernel,rfl,by decide +kernel,by decide +kernel⟩
theorem j3 (D:Dfs K mg aF dF) (T:Txt mg):FnOk P w K mg base aY 3 (aF 12) (dF 12) ["pattern","ties","place"] (sp_tie_shows K):=by
 have Gis_whole:FnOk P w K mg base aY 1 (aF 0) (dF 0) ["thing"] (sp_is_whole K):=gA D T
 have Gbreaks:FnOk P w K mg base aY 2 (aF 6) (dF 6) ["pattern","tie"] (sp_breaks K):=oN D T
 refine D.tie_shows.fn.ok jZ (fun vs H Q E h=>?_) (fun cdv A outer s H vs Q E hr h=>?_)
 ·obtain⟨pa,ta,v,r,p,ts,rfl,_⟩:=h;rfl
 ·have hu:=aV hr
  obtain⟨pa,ta,v,r,p,ts,rfl,hp,tt,ht,q⟩:=h
  refine⟨_,(ah (aj (cU (pc D.is_whole Gis_whole (hr.mono (by decide)) (aa (pv 2) ab)) (cU (gT mG cQ af (pv 2) (ai (bx K) (by rfl) T.z_len boot_len (aa (pv 1) ab))) (fS (pc D.breaks Gbreaks (hr.mono (by decide)) (aa (pv 0) (aa (aB (cP K) (pv 1) (pv 2) (fun _ _=>rfl)) ab)))))))),?_⟩
  refine⟨_,rfl,v,r,rfl,ht,_,rfl,?_⟩
  unfold oC at q
  rw[xM]at q
  cases ht with
  | @int j=>
   change ∀H',Same H H'->Q (.bl (decide (0<=j)&&(decide (j<(ts.length:Int))&&(((ts.map bD)[j.toNat]?).elim false fun t=>brk (fun i=>p.getD i 0) p.length t.1 t.2.1 t.2.2)))) H' at q
   refine bh ?_
   refine⟨_,rfl,_,_,rfl,rfl,_,rfl,qY (fun j0=>?_) fun j0=>?_⟩
   ·rw [decide_eq_true j0,Bool.true_and]at q
    refine⟨_,rfl,_,_,rfl,.inl ⟨_,tt.ls,rfl⟩,_,_,rfl,rfl,_,rfl,?_⟩
    by_cases jl:j<(ts.length:Int)
    ·rw [decide_eq_true (by rw[xM];exact jl)]
     refine bh ?_
     obtain⟨n,en⟩:∃n:Nat,j=(n:Int):=⟨j.toNat,by omega⟩
     subst en
     have nl:n<ts.length:=by omega
     have hx:=xK nl
     rw[decide_eq_true jl,Bool.true_and,yi,xR,hx]at q
     have te:=tt.ea _ (xT hx)
     exact⟨_,rfl,_,rfl,_,rfl,ta,_,_,_,rfl,rfl,tt.ls,aO (by rw[xR,hx];rfl),pa,ts[n].1,ts[n].2.1,p,ts[n].2.2.2.2,ts[n].2.2.1,ts[n].2.2.2.1,rfl,hp,SqT.of te.tp,SqT.of te.ts,te.wd,te.sl,fun H1 s1=>q H1 s1⟩
    ·rw [decide_eq_false (by rw[xM];exact jl)]
     rw[decide_eq_false jl,yg]at q
     exact aW (q H (Same.refl _))
   ·rw [decide_eq_false j0,yg]at q
    exact⟨_,rfl,aW (q H (Same.refl _))⟩
  | non=>exact aW (q H (Same.refl _))
  | bl=>exact aW (q H (Same.refl _))
  | str=>exact aW (q H (Same.refl _))
  | lst=>exact aW (q H (Same.refl _))
  | tup=>exact aW (q H (Same.refl _))
inductive sp_is_list_of_blocks (K:PySem.W.Frag) (vs:List V) (H:Hp) (Q:VK) (E:XK):Prop where
 | mk (pa:Addr) (v:V) (p:List Int) (r:Th) (_:vs=[.ref pa,v]) (_:SqL K H pa (p.map V.int)) (_:p.length<=6) (_:ThAt H v r) (_:TBnd r) (_:∀H',Same H H'->Q (.bl (r.isLst&&(r.parts.all Th.isInt&&(kZ (r.parts.map Th.num)&&sW p (r.parts.map Th.num))))) H')
theorem dR:FnScope ["pattern","blocks"] ["pattern","blocks"] (ak bN):=⟨rfl,rfl,rfl,by decide +kernel,rfl,by decide +kernel,by decide +kernel⟩
theorem dS (D:Dfs K mg aF dF) (T:Txt mg):FnOk P w K mg base aY 2 (aF 14) (dF 14) ["pattern","blocks"] (sp_is_list_of_blocks K):=by
 have Gis_whole:FnOk P w K mg base aY 1 (aF 0) (dF 0) ["thing"] (sp_is_whole K):=gA D T
 have Gis_rising:FnOk P w K mg base aY 1 (aF 1) (dF 1) ["numbers"] (sp_is_rising K):=jY D T
 have Gwidth:FnOk P w K mg base aY 1 (aF 4) (dF 4) ["pattern"] (sp_width K):=iy D T
 refine D.is_list_of_blocks.fn.ok dR (fun vs H Q E h=>?_) (fun cdv A outer s H vs Q E hr h=>?_)
 ·obtain⟨pa,v,p,r,rfl,_⟩:=h;rfl
 ·have hu:=aV hr
  obtain⟨pa,v,p,r,rfl,hp,p6,ht,tb,q⟩:=h
  refine⟨_,(ag (aK (PW.pt (fk (cA (bg (ai (fA K) (by rfl) T.z_isinstance boot_isinstance (aa (pv 1) (aa (cY T.z_list) ab))))) (dy (cA (bg (ai (rJ K) (by rfl) T.z_all boot_all (aa (bb ["block"] [none] rfl (pM K (pv 1)) (fun _=>aA (i:=0) (bq (N:=["block"]) (by decide +kernel)) rfl (Or.inl rfl)) (fun _=>bJ) (fun _=>(pc D.is_whole Gis_whole (hr.mono (by decide)) (aa (pv 0) ab))) ((.cons (fun _ e=>by cases e) .nil))) ab)))))))
    (ah (aj bS))
    aw)
   (ah (aj (cU (pc D.is_rising Gis_rising (hr.mono (by decide)) (aa (pv 1) ab)) (fS (ai (rJ K) (by rfl) T.z_all boot_all (aa (bb ["block","pattern"] [none,some 0] rfl (pM K (pv 1)) (fun _=>aA (i:=0) (bq (N:=["block","pattern"]) (by decide +kernel)) rfl (Or.inl rfl)) (fun _=>bJ) (fun _=>(gT mG cQ af (pv 0) (pc D.width Gwidth (hr.mono (by decide)) (aa (pv 1) ab)))) ((.cons (fun _ e=>by cases e) (.cons (fun _ e=>by cases e;exact⟨rfl,rfl⟩) .nil)))) ab))))))),?_⟩
  cases ht with
  | non=>exact⟨_,rfl,_,_,_,false,rfl,.non,rfl,_,rfl,bh (q H (Same.refl _))⟩
  | bl=>exact⟨_,rfl,_,_,_,false,rfl,.bl _,rfl,_,rfl,bh (q H (Same.refl _))⟩
  | int=>exact⟨_,rfl,_,_,_,false,rfl,.int _,rfl,_,rfl,bh (q H (Same.refl _))⟩
  | str=>exact⟨_,rfl,_,_,_,false,rfl,.str _,rfl,_,rfl,bh (q H (Same.refl _))⟩
  | tup hl hn h=>exact⟨_,rfl,_,_,_,false,rfl,.tup hl,rfl,_,rfl,bh (q H (Same.refl _))⟩
  | @lst ba us ts hba hn hat=>
  change ∀H',Same H H'->Q (.bl (ts.all Th.isInt&&(kZ (ts.map Th.num)&&sW p (ts.map Th.num)))) H' at q
  have tl:ts.length<=1000:=by cases tb;assumption
  refine⟨_,rfl,_,_,_,true,rfl,.lst hba,rfl,_,rfl,aW ?_⟩
  refine⟨_,rfl,ba,rfl,⟨_,SqL.of hba⟩,?_⟩
  refine b3 (xs:=us) (fun _=>true) (fun j=> .bl (ts.getD j .non).isInt) (SqL.of hba) (by omega) (fun _ _ _ _ _ _ k=>k _ (Same.refl _)) (fun j x hx _ H2 R s2 k=>?_) fun acc H2 s2 nacc hacc=>?_
  ·have hj:=(xP.mp hx).1
   have hjt:j<ts.length:=by omega
   have e:ts.getD j .non=ts[j]:=by rw[xN,xK hjt];rfl
   rw[e]at k
   exact⟨_,rfl,x,ts[j],rfl,(hat j x _ hx (xK hjt)).same s2,k H2 (Same.refl _)⟩
  rw[yE.mpr (fun _ _=>rfl)]at hacc
  have e1:(xO us.length).map (fun j=>V.bl (ts.getD j .non).isInt)=(ts.map Th.isInt).map V.bl:=by
   rw[hn,yA]
   exact qt fun i x hx=>by rw[xN,hx];rfl
  rw[e1]at hacc
  refine⟨acc,_,rfl,SqL.of hacc,_,rfl,?_⟩
  have e2:(ts.map Th.isInt).all id=ts.all Th.isInt:=by rw[List.all_map];rfl
  rw[e2]
  refine eF (fun h1=>?_) fun h1=>?_
  ·rw [h1,yg]at q
   exact q H2 s2
  rw[h1,Bool.true_and]at q
  have eus:us=(ts.map Th.num).map V.int:=by
   refine zk fun i=>?_
   rw[yA,xR]
   cases et:ts[i]? with
   | none=>
    have:=List.getElem?_eq_none_iff.mp et
    exact yz (by omega)
   | some t=>
    have hi:=(xP.mp et).1
    have hu:us[i]?=some us[i]:=xK (by omega)
    have a:=hat i _ _ hu et
    have b:=x6.mp h1 t (xT et)
    rw[hu]
    clear hu
    generalize us[i]=x at a
    cases a<;>first | rfl | cases b
  rw[eus]at hba
  generalize ebs:ts.map Th.num=bs at q hba
  have bl:bs.length<=1000:=by rw[<- ebs,xM];exact tl
  refine⟨_,rfl,ba,bs,rfl,SqL.of (s2 _ _ hba),bl,fun H3 s3=>⟨_,rfl,pO (fun h1=>?_) fun h1=>?_⟩⟩
  ·have s23:=s2.trans s3
   refine⟨_,rfl,ba,rfl,⟨_,SqL.of (s23 _ _ hba)⟩,?_⟩
   refine b3 (xs:=bs.map V.int) (fun _=>true) (fun j=> .bl (decide (0<=bs.getD j 0/\bs.getD j 0<(((dd p).length:Nat):Int)))) (SqL.of (s23 _ _ hba)) (by rw[xM];omega) (fun _ _ _ _ _ _ k=>k _ (Same.refl _)) (fun j x hx _ H4 R s4 k=>?_) fun acc2 H4 s4 nacc2 hacc2=>?_
   ·obtain⟨d,hd,rfl,ed⟩:=gh hx
    rw[ed]at k
    refine⟨_,rfl,_,_,rfl,rfl,_,rfl,qY (fun z=>?_) fun z=>?_⟩
    ·refine⟨_,rfl,pa,p,rfl,(s23.trans s4).seq hp,p6,fun H5 s5=>⟨_,_,rfl,rfl,?_⟩⟩
     have kk:=k H5 s5
     have e:decide (0<=d/\d<(((dd p).length:Nat):Int))=decide (d<(((dd p).length:Nat):Int)):=by
      by_cases y:d<(((dd p).length:Nat):Int)
      ·rw [decide_eq_true y,decide_eq_true ⟨z,y⟩]
      ·rw [decide_eq_false y,decide_eq_false fun w=>y w.2]
     rw[e]at kk
     exact kk
    ·have kk:=k H4 (Same.refl _)
     rw[decide_eq_false fun w=>z w.1]at kk
     exact kk
   rw[yE.mpr (fun _ _=>rfl),xM]at hacc2
   have e3:(xO bs.length).map (fun j=>V.bl (decide (0<=bs.getD j 0/\bs.getD j 0<(((dd p).length:Nat):Int))))=(bs.map fun b=>decide (0<=b/\b<(((dd p).length:Nat):Int))).map V.bl:=by
    rw[yA]
    exact qt fun i x hx=>by rw[xN,hx];rfl
   rw[e3]at hacc2
   refine⟨acc2,_,rfl,SqL.of hacc2,?_⟩
   have e4:(bs.map fun b=>decide (0<=b/\b<(((dd p).length:Nat):Int))).all id=sW p bs:=by unfold sW;rw[List.all_map];rfl
   rw[e4]
   have qq:=q H4 (s23.trans s4)
   rw[h1,Bool.true_and]at qq
   exact qq
  ·have qq:=q H3 (s2.trans s3)
   rw[h1,yg]at qq
   exact qq
inductive sp_short_shows (K:PySem.W.Frag) (vs:List V) (H:Hp) (Q:VK) (E:XK):Prop where
 | mk (pa ma:Addr) (v:V) (p:List Int) (rs:List Addr) (may:List (List Int)) (U:List Int) (r:Th) (_:vs=[.ref pa,.ref ma,v]) (_:SqL K H pa (p.map V.int)) (_:May K H ma rs may U) (_:bO p) (_:p.length<=may.length) (_:ThAt H v r) (_:TBnd r) (_:∀H',Same H H'->Q (.bl (eW may p r)) H')
theorem bG:FnScope ["pattern","may","blocks","pools","badges","block"] ["pattern","may","blocks"] (ak cK):=⟨rfl,rfl,rfl,by decide +kernel,rfl,by decide +kernel,by decide +kernel⟩
theorem iz (D:Dfs K mg aF dF) (T:Txt mg):FnOk P w K mg base aY 4 (aF 13) (dF 13) ["pattern","may","blocks"] (sp_short_shows K):=by
 have Gjoined:FnOk P w K mg base aY 1 (aF 3) (dF 3) ["one","other"] (ju K):=oJ D T
 have Gpools_of:FnOk P w K mg base aY 3 (aF 8) (dF 8) ["pattern","may"] (sp_pools_of K):=lj D T
 have Gis_list_of_blocks:FnOk P w K mg base aY 2 (aF 14) (dF 14) ["pattern","blocks"] (sp_is_list_of_blocks K):=dS D T
 refine D.short_shows.fn.ok bG (fun vs H Q E h=>?_) (fun cdv A outer s H vs Q E hr h=>?_)
 ·obtain⟨pa,ma,v,p,rs,may,U,r,rfl,_⟩:=h;rfl
 ·have hu:=aV hr
  obtain⟨pa,ma,v,p,rs,may,U,r,rfl,hp,hm,c,hl,ht,tb,q⟩:=h
  refine aE 4 (ah (aj (bI cQ (ai (bx K) (by rfl) T.z_len boot_len (aa (pv 4) ab)) (ai (bx K) (by rfl) T.z_len boot_len (aa (pv 2) ab)) (ax _)))) ?_
  intro Z0 z0
  refine aE 3 (ag (bX PassesOwn.never rfl (pM K (pv 2)) (aA (i:=5) bG.nd rfl (Or.inl rfl))
    (ah (aC (i:=4) bG.nd rfl (Or.inl rfl) (pc D.joined Gjoined (hr.mono (by decide)) (aa (pv 4) (aa (aB (cP K) (pv 3) (pv 5) (fun _ _=>rfl)) ab)))))) z0) ?_
  intro Z0 z0
  refine aE 2 (ag (aC (i:=4) bG.nd rfl (Or.inl rfl) (aq ab)) z0) ?_
  intro Z0 z0
  refine aE 1 (ag (aC (i:=3) bG.nd rfl (Or.inl rfl) (pc D.pools_of Gpools_of (hr.mono (by decide)) (aa (pv 0) (aa (pv 1) ab)))) z0) ?_
  intro Z0 z0
  refine⟨_,(ag (aK (cA (bg (pc D.is_list_of_blocks Gis_list_of_blocks (hr.mono (by decide)) (aa (pv 0) (aa (pv 2) ab)))))
    (ah (aj bS))
    aw) z0),?_⟩
  have m6:=hm.m6
  refine⟨_,rfl,_,rfl,pa,v,p,r,rfl,hp,by omega,ht,tb,fun H1 s1=>⟨_,rfl,eF (fun h1=>?_) fun h1=>?_⟩⟩
  ·have qq:=q H1 s1
   unfold eW b4 at qq
   have e:(r.isLst&&(r.parts.all Th.isInt&&(kZ (r.parts.map Th.num)&&sW p (r.parts.map Th.num)&&decide ((dd (be may p (r.parts.map Th.num))).length<(r.parts.map Th.num).length))))=false:=by
    revert h1
    cases r.isLst<;>cases r.parts.all Th.isInt<;>cases kZ (r.parts.map Th.num)<;>cases sW p (r.parts.map Th.num)<;>intro h1<;>first | rfl | cases h1
   rw[e]at qq
   exact qq
  obtain⟨h2,h3⟩:=Bool.and_eq_true_iff.mp h1
  obtain⟨h3,h1⟩:=Bool.and_eq_true_iff.mp h3
  unfold eW at q
  rw[h2,h3,Bool.true_and,Bool.true_and]at q
  obtain⟨ba,bs,rfl,hba,ebs⟩:=ht.ints h2 h3
  rw[ebs]at q h1
  clear ht h2 h3 ebs tb
  have hin:∀b∈bs,0<=b/\b<(((dd p).length:Nat):Int):=fun b hb=>of_decide_eq_true (x6.mp (Bool.and_eq_true_iff.mp h1).2 b hb)
  have hm1:=hm.same s1
  refine⟨_,rfl,_,rfl,pa,ma,p,rs,may,U,rfl,s1.seq hp,hm1,c,hl,fun po ls H2 s2 npo hpo R2 fr2=>⟨cb,fun b0 nb0=>?_⟩⟩
  have s23:=Same.new (o:= .lst []) nb0
  have s03:=(s1.trans s2).trans s23
  have hb3:aI H2 b0 (.lst []) b0=some (.lst []):=ae
  generalize aI H2 b0 (.lst [])=H3 at s23 s03 hb3
  have u26:=hm.u20
  refine⟨_,rfl,ba,rfl,⟨_,SqL.of (s03 _ _ hba)⟩,?_⟩
  refine dz (K:=K) (a:=ba) (xs:=bs.map V.int) (fun i σ Hx=>∃(x:Addr) (ks:List Int) (y:Option V),σ=[some (.ref pa),some (.ref ma),some (.ref ba),some (.ref po),some (.ref x),y]/\Same H3 Hx/\Hx x=some (.lst (ks.map V.int))/\ks.Pairwise (· < ·)/\(∀b∈ks,b∈U)/\∀b,b∈ks<->b∈be may p (bs.take i)) ⟨b0,[],none,rfl,Same.refl _,hb3,List.Pairwise.nil,(fun _ z=>by cases z),fun b=>Iff.rfl⟩ (fun i σ Hx _ hq__=>by obtain⟨_,_,_,_,s,_⟩:=hq__;exact s.seq (SqL.of (s03 _ _ hba))) ?_ ?_
  ·rintro i y σ Hx hi ⟨x,ks,y',rfl,sx,hx,up,sub,mem⟩
   obtain⟨d,hd,rfl,ed⟩:=gh hi
   obtain⟨d0,d1⟩:=hin d (xT hd)
   obtain⟨b,eb⟩:∃b:Nat,d=(b:Int):=⟨d.toNat,by omega⟩
   subst eb
   have bl':b<(dd p).length:=by omega
   have s2x:=s23.trans sx
   obtain⟨r,er,hr'⟩:=(R2.same s2x).at (dD bl')
   have psub:=jq c hl hm.sub (bT may p b) (xT (dD bl'))
   refine⟨_,rfl,_,rfl,_,rfl,po,_,_,_,rfl,rfl,SqL.of (s2x _ _ hpo),aO (by rw[xR,er];rfl),x,r,ks,bT may p b,U,rfl,⟨SqL.of hx,SqL.of hr',up,il hm.up,sub,psub,by omega⟩,fun l2 ks2 H4 ⟨t1,t2,t3,t4,t5⟩=>?_⟩
   refine⟨l2,ks2,_,rfl,sx.trans t1,t3,t4,fun b' hb'=>?_,fun b'=>?_⟩
   ·rcases(t5 b').mp hb' with z | z
    ·exact sub b' z
    ·exact psub b' z
   ·have et:bs.take (i+1)=bs.take i++[(b:Int)]:=by rw[yY,hd];rfl
    rw[t5 b',et]
    unfold be
    rw[List.flatMap_append,ye]
    have e2:[(b:Int)].flatMap (fun b=>bT may p b.toNat)=bT may p b:=by rw[List.flatMap_singleton,yi]
    rw[e2]
    exact or_congr (mem b') Iff.rfl
  ·rintro σ Hx ⟨x,ks,y',rfl,sx,hx,up,sub,mem⟩
   rw[xM,y6]at mem
   refine⟨_,rfl,_,_,rfl,.inl ⟨_,SqL.of hx,rfl⟩,_,rfl,_,_,rfl,.inl ⟨_,SqL.of (sx _ _ (s03 _ _ hba)),rfl⟩,_,_,rfl,rfl,?_⟩
   have el:ks.length=(dd (be may p bs)).length:=by
    have nd:=kX up
    have a1:=nd.length_le_of_subset (l₂:=dd (be may p bs)) fun b hb=>br.mpr ((mem b).mp hb)
    have a2:=(jg (be may p bs)).length_le_of_subset (l₂:=ks) fun b hb=>(mem b).mpr (br.mp hb)
    omega
   have qq:=q Hx (s03.trans sx)
   have e:b4 may p bs=decide ((((ks.map V.int).length:Nat):Int)<(((bs.map V.int).length:Nat):Int)):=by
    unfold b4
    rw[h1,Bool.true_and,xM,xM,el]
    by_cases z:(dd (be may p bs)).length<bs.length
    ·rw [decide_eq_true z,decide_eq_true (by omega)]
    ·rw [decide_eq_false z,decide_eq_false (by omega)]
   rw[e]at qq
   exact qq
inductive sp_is_split (K:PySem.W.Frag) (vs:List V) (H:Hp) (Q:VK) (E:XK):Prop where
 | mk (pa:Addr) (v:V) (r:Th) (p:List Int) (c:Nat) (_:vs=[.ref pa,.int (c:Int),v]) (_:H pa=some (.lst (p.map V.int))) (_:ThAt H v r) (_:c<=6) (_:∀H',Same H H'->Q (.bl (decide (p.length<c)&&(r.isLst&&decide (r.parts.length=(dd p).length+1)))) H')
theorem ll:FnScope ["pattern","count","papers"] ["pattern","count","papers"] (ak fb):=⟨rfl,rfl,rfl,by decide +kernel,rfl,by decide +kernel,by decide +kernel⟩
theorem lq (D:Dfs K mg aF dF) (T:Txt mg):FnOk P w K mg base aY 3 (aF 16) (dF 16) ["pattern","count","papers"] (sp_is_split K):=by
 have Ggrown:FnOk P w K mg base aY 2 (aF 5) (dF 5) ["pattern"] (sp_grown K):=lb D T
 refine D.is_split.fn.ok ll (fun vs H Q E h=>?_) (fun cdv A outer s H vs Q E hr h=>?_)
 ·obtain⟨pa,v,r,p,c,rfl,_⟩:=h;rfl
 ·have hu:=aV hr
  obtain⟨pa,v,r,p,c,rfl,hpa,ht,c6,q⟩:=h
  refine⟨_,(ah (aj (cU (bI cQ (ai (bx K) (by rfl) T.z_len boot_len (aa (pv 0) ab)) (pv 1) (ax _)) (cU (ai (fA K) (by rfl) T.z_isinstance boot_isinstance (aa (pv 2) (aa (cY T.z_list) ab))) (fS (bI bM (ai (bx K) (by rfl) T.z_len boot_len (aa (pv 2) ab)) (ai (bx K) (by rfl) T.z_len boot_len (aa (pc D.grown Ggrown (hr.mono (by decide)) (aa (pv 0) ab)) ab)) (ax _))))))),?_⟩
  refine⟨_,rfl,_,_,rfl,.inl ⟨_,SqL.of hpa,rfl⟩,_,rfl,_,_,rfl,rfl,_,rfl,qY (fun lt=>?_) fun ge=>?_⟩
  ·rw [xM]at lt
   rw[decide_eq_true (show p.length<c by omega),Bool.true_and]at q
   cases ht with
   | non=>exact⟨_,rfl,_,_,_,false,rfl,.non,rfl,_,rfl,aW (q H (Same.refl _))⟩
   | bl=>exact⟨_,rfl,_,_,_,false,rfl,.bl _,rfl,_,rfl,aW (q H (Same.refl _))⟩
   | int=>exact⟨_,rfl,_,_,_,false,rfl,.int _,rfl,_,rfl,aW (q H (Same.refl _))⟩
   | str=>exact⟨_,rfl,_,_,_,false,rfl,.str _,rfl,_,rfl,aW (q H (Same.refl _))⟩
   | tup hl hn h=>exact⟨_,rfl,_,_,_,false,rfl,.tup hl,rfl,_,rfl,aW (q H (Same.refl _))⟩
   | @lst l vs' ts hl hn h=>
    refine⟨_,rfl,_,_,_,true,rfl,.lst hl,rfl,_,rfl,bh ?_⟩
    refine⟨_,rfl,_,_,rfl,.inl ⟨_,SqL.of hl,rfl⟩,_,rfl,pa,p,rfl,hpa,by omega,fun gl gs H1 s1 ngl hgl hgs gall=>?_⟩
    refine⟨_,_,rfl,.inl ⟨_,SqL.of hgl,rfl⟩,rfl,?_⟩
    have qq:=q H1 s1
    have e:(Th.isLst (.lst ts)&&decide ((Th.lst ts).parts.length=(dd p).length+1))=decide (V.int ((vs'.length:Nat):Int)=V.int ((((gs.map V.ref).length:Nat)):Int)):=by
     rw[xM,hgs]
     show(true&&decide (ts.length=(dd p).length+1))=_
     rw[Bool.true_and]
     by_cases z:vs'.length=(dd p).length+1
     ·rw [decide_eq_true (show ts.length=_ by omega),decide_eq_true (by rw[z])]
     ·rw [decide_eq_false (fun y=>z (by omega)),decide_eq_false (fun y=>z (by injection y with y;omega))]
    rw[e]at qq
    exact qq
  ·rw [xM]at ge
   have qq:=q H (Same.refl _)
   rw[decide_eq_false (show ¬p.length<c by omega),yg]at qq
   exact qq
inductive spN_shows_for (K:PySem.W.Frag) (m:Nat) (vs:List V) (H:Hp) (Q:VK) (E:XK):Prop where
 | mk (pa ma ta:Addr) (v:V) (p:List Int) (rs:List Addr) (may:List (List Int)) (U:List Int) (ts:List (Addr×Addr×Str×Int×List Nat)) (t:Th) (_:vs=[.ref pa,.ref ma,.ref ta,v]) (_:H pa=some (.lst (p.map V.int))) (_:May K H ma rs may U) (_:Ties K H ta ts 100) (_:bO p) (_:p.length<=may.length) (_:may.length<p.length+m) (_:ThAt H v t) (_:TBnd t) (_:∀H',Same H H'->Q (.bl (bU may (ts.map bD) m p t)) H')
inductive spN_split_shows (K:PySem.W.Frag) (m:Nat) (vs:List V) (H:Hp) (Q:VK) (E:XK):Prop where
 | mk (pa ma ta:Addr) (v:V) (p:List Int) (rs:List Addr) (may:List (List Int)) (U:List Int) (ts:List (Addr×Addr×Str×Int×List Nat)) (r:Th) (_:vs=[.ref pa,.ref ma,.ref ta,v]) (_:H pa=some (.lst (p.map V.int))) (_:May K H ma rs may U) (_:Ties K H ta ts 100) (_:bO p) (_:p.length<=may.length) (_:may.length<=p.length+m) (_:ThAt H v r) (_:TBnd r) (_:∀H',Same H H'->Q (.bl (eX may (ts.map bD) m p r)) H')
theorem iA:FnScope ["pattern","may","ties","papers"] ["pattern","may","ties","papers"] (ak cL):=⟨rfl,rfl,rfl,by decide +kernel,rfl,by decide +kernel,by decide +kernel⟩
theorem iB (D:Dfs K mg aF dF) (T:Txt mg) (n:Nat) (Gshows_for:FnOk P w K mg base aY (10+2*n) (aF 11) (dF 11) ["pattern","may","ties","paper"] (spN_shows_for K n)):FnOk P w K mg base aY (10+2*n+1) (aF 15) (dF 15) ["pattern","may","ties","papers"] (spN_split_shows K n):=by
 have Ggrown:FnOk P w K mg base aY 2 (aF 5) (dF 5) ["pattern"] (sp_grown K):=lb D T
 have Gis_split:FnOk P w K mg base aY 3 (aF 16) (dF 16) ["pattern","count","papers"] (sp_is_split K):=lq D T
 refine D.split_shows.fn.ok iA (fun vs H Q E h=>?_) (fun cdv A outer s H vs Q E hr h=>?_)
 ·obtain⟨pa,ma,ta,v,p,rs,may,U,ts,r,rfl,_⟩:=h;rfl
 obtain⟨pa,ma,ta,v,p,rs,may,U,ts,r,rfl,hpa,hm,tt,c,hl,hlm,ht,tb,q⟩:=h
 have rk:Nat.add 10 (Nat.mul 2 n)=10+2*n:=rfl
 refine⟨_,(ag (aK (cA (bg (pc D.is_split Gis_split (hr.mono (by have:=rk;omega)) (aa (pv 0) (aa (ai (bx K) (by rfl) T.z_len boot_len (aa (pv 1) ab)) (aa (pv 3) ab))))))
    (ah (aj bS))
    aw)
   (ah (aj (ai (rJ K) (by rfl) T.z_all boot_all (aa (bb ["one","paper","may","ties"] [none,none,some 1,some 2] rfl (ur K rfl T.z_zip (aa (pc D.grown Ggrown (hr.mono (by have:=rk;omega)) (aa (pv 0) ab)) (aa (pv 3) ab))) (fun _=>xc K (n:=2) rfl (cB (aA (i:=0) (bq (N:=["one","paper","may","ties"]) (by decide +kernel)) rfl (Or.inl rfl)) (cB (aA (i:=1) (bq (N:=["one","paper","may","ties"]) (by decide +kernel)) rfl (Or.inl rfl)) jx))) (fun _=>bJ) (fun _=>(pc D.shows_for Gshows_for (hr.mono (by have:=rk;omega)) (aa (pv 0) (aa (pv 2) (aa (pv 3) (aa (pv 1) ab)))))) ((.cons (fun _ e=>by cases e) (.cons (fun _ e=>by cases e) (.cons (fun _ e=>by cases e;exact⟨rfl,rfl⟩) (.cons (fun _ e=>by cases e;exact⟨rfl,rfl⟩) .nil)))))) ab))))),?_⟩
 have m6:=hm.m6
 have dl:=bZ p
 have el:((rs.map V.ref).length:Int)=((may.length:Nat):Int):=by rw[xM,hm.po.len]
 refine⟨_,rfl,_,rfl,_,_,rfl,.inl ⟨_,hm.ls,rfl⟩,_,rfl,pa,v,r,p,may.length,(by rw[el];rfl),hpa,ht,by omega,fun H0 s0=>⟨_,rfl,eF (fun h1=>?_) fun h1=>?_⟩⟩
 ·have qq:=q H0 s0
  unfold eX at qq
  rw[h1,yg]at qq
  exact qq
 unfold eX at q
 rw[h1,Bool.true_and]at q
 obtain⟨h2,h1⟩:=Bool.and_eq_true_iff.mp h1
 obtain⟨h3,h1⟩:=Bool.and_eq_true_iff.mp h1
 have lt:=of_decide_eq_true h2
 have e:=of_decide_eq_true h1
 cases ht with
 | non=>cases h3
 | bl=>cases h3
 | int=>cases h3
 | str=>cases h3
 | tup _ _ _=>cases h3
 | @lst l vs' ps hl' hvn hat=>
  change ∀H',Same H H'->Q (.bl ((xO ps.length).all fun j=>bU may (ts.map bD) n (p++[(j:Int)]) (ps.getD j .non))) H' at q
  change ps.length=(dd p).length+1 at e
  have gb:∀t∈ps,TBnd t:=by cases tb;assumption
  refine⟨_,rfl,pa,p,rfl,s0 _ _ hpa,by omega,fun gl gs H1 s1 ngl hgl hgs gall=>?_⟩
  have s1:=s0.trans s1
  refine⟨_,rfl,gl,l,_,_,rfl,SqL.of hgl,SqL.of (s1 _ _ hl'),?_⟩
  refine ox (xs:=gs.map V.ref) (ys:=vs') (fun j=> .bl (bU may (ts.map bD) n (p++[(j:Int)]) (ps.getD j .non))) (by rw[xM];omega) (SqL.of hgl) (SqL.of (s1 _ _ hl')) (by rw[xM];omega) (fun j x y H2 R hx hy s2 k=>?_) fun acc H2 s2 nacc hacc=>?_
  ·rw [xR]at hx
   obtain⟨r,hr',rfl⟩:=ya.mp hx
   have hj:=(xP.mp hr').1
   have hjp:j<ps.length:=by omega
   have s02:=s1.trans s2
   have eg:ps.getD j .non=ps[j]:=by rw[xN,xK hjp];rfl
   exact⟨_,rfl,_,rfl,_,rfl,_,rfl,r,ma,ta,y,p++[(j:Int)],rs,may,U,ts,ps.getD j .non,rfl,s2 _ _ (gall j r hr').1,hm.same s02,⟨s02.seq tt.ls,fun x hx=>(tt.ea x hx).same s02,tt.ln⟩,eU c (by omega),by simp;omega,by simp;omega,by rw[eg];exact(hat j y ps[j] hy (xK hjp)).same s02,ng gb j,fun H3 s3=>k H3 s3⟩
  ·rw [xM]at hacc
   have e3:(xO gs.length).map (fun(j:Nat)=>V.bl (bU may (ts.map bD) n (p++[(j:Int)]) (ps.getD j .non)))=((xO ps.length).map fun(j:Nat)=>bU may (ts.map bD) n (p++[(j:Int)]) (ps.getD j .non)).map V.bl:=by
    rw[yA,show gs.length=ps.length by omega];rfl
   rw[e3]at hacc
   refine⟨acc,_,rfl,SqL.of hacc,?_⟩
   rw[List.all_map]
   exact q H2 (s1.trans s2)
def fM (K:PySem.W.Frag):Sp:=spN_shows_for K 7
theorem j4:FnScope ["pattern","may","ties","paper"] ["pattern","may","ties","paper"] (ak dI):=⟨rfl,rfl,rfl,by decide +kernel,rfl,by decide +kernel,by decide +kernel⟩
theorem j5 (D:Dfs K mg aF dF) (T:Txt mg):FnOk P w K mg base aY 24 (aF 11) (dF 11) ["pattern","may","ties","paper"] (fM K):=by
 have Gtie_shows:FnOk P w K mg base aY 3 (aF 12) (dF 12) ["pattern","ties","place"] (sp_tie_shows K):=j3 D T
 have Gshort_shows:FnOk P w K mg base aY 4 (aF 13) (dF 13) ["pattern","may","blocks"] (sp_short_shows K):=iz D T
 have all:∀n,FnOk P w K mg base aY (10+2*n) (aF 11) (dF 11) ["pattern","may","ties","paper"] (spN_shows_for K n):=by
  intro n
  induction n with
  | zero=>
   have no:∀vs H Q E,¬spN_shows_for K 0 vs H Q E:=fun vs H Q E h=>by
    obtain⟨pa,ma,ta,v,p,rs,may,U,ts,t,_,_,_,_,_,h1,h2,_⟩:=h
    omega
   exact⟨fun vs H Q E h=>absurd h (no vs H Q E),fun A outer s H args us vs Q E _ _ _ _ h=>absurd h (no vs H Q E)⟩
  | succ n Gshows_for=>
   have Gsplit_shows:=iB D T n Gshows_for
   refine D.shows_for.fn.ok j4 (fun vs H Q E h=>?_) (fun cdv A outer s H vs Q E hr h=>?_)
   ·obtain⟨pa,ma,ta,v,p,rs,may,U,ts,t,rfl,_⟩:=h;rfl
   obtain⟨pa,ma,ta,v,p,rs,may,U,ts,t,rfl,hpa,hm,tt,c,hl,hlm,ht,tb,q⟩:=h
   have rk:Nat.add 10 (Nat.mul 2 n+1)=10+(2*n+1):=rfl
   refine aE 4 (ah (aj bS)) ?_
   intro Z0 z0
   refine aE 3 (ag (aK (av (eqT K hr.units) (aB (i7 K) (pv 3) af (fun _ _=>rfl)) ar (ax _))
    (ah (aj (pc D.split_shows Gsplit_shows (hr.mono (by have:=rk;omega)) (aa (pv 0) (aa (pv 1) (aa (pv 2) (aa (aB (i7 K) (pv 3) af (fun _ _=>rfl)) ab)))))))
    aw) z0) ?_
   intro Z0 z0
   refine aE 2 (ag (aK (av (eqT K hr.units) (aB (i7 K) (pv 3) af (fun _ _=>rfl)) ar (ax _))
    (ah (aj (pc D.short_shows Gshort_shows (hr.mono (by have:=rk;omega)) (aa (pv 0) (aa (pv 1) (aa (aB (i7 K) (pv 3) af (fun _ _=>rfl)) ab))))))
    aw) z0) ?_
   intro Z0 z0
   refine aE 1 (ag (aK (av (eqT K hr.units) (aB (i7 K) (pv 3) af (fun _ _=>rfl)) ar (ax _))
    (ah (aj (pc D.tie_shows Gtie_shows (hr.mono (by have:=rk;omega)) (aa (pv 0) (aa (pv 2) (aa (aB (i7 K) (pv 3) af (fun _ _=>rfl)) ab))))))
    aw) z0) ?_
   intro Z0 z0
   refine⟨_,(ag (aK (PW.pt (fk (cA (bg (ai (fA K) (by rfl) T.z_isinstance boot_isinstance (aa (pv 3) (aa (kD T.z_tuple) ab))))) (dy (av mF (ai (bx K) (by rfl) T.z_len boot_len (aa (pv 3) ab)) af (ax _)))))
    (ah (aj bS))
    aw) z0),?_⟩
   have m6:=hm.m6
   cases ht with
   | non=>exact⟨_,rfl,_,_,_,false,rfl,.non,rfl,_,rfl,bh (q H (Same.refl _))⟩
   | bl=>exact⟨_,rfl,_,_,_,false,rfl,.bl _,rfl,_,rfl,bh (q H (Same.refl _))⟩
   | int=>exact⟨_,rfl,_,_,_,false,rfl,.int _,rfl,_,rfl,bh (q H (Same.refl _))⟩
   | str=>exact⟨_,rfl,_,_,_,false,rfl,.str _,rfl,_,rfl,bh (q H (Same.refl _))⟩
   | lst hl _ _=>exact⟨_,rfl,_,_,_,false,rfl,.lst hl,rfl,_,rfl,bh (q H (Same.refl _))⟩
   | @tup tp us us' ht hn hat=>
    have gb:∀t∈us',TBnd t:=by cases tb;assumption
    refine⟨_,rfl,_,_,_,true,rfl,.tup ht,rfl,_,rfl,aW ?_⟩
    refine⟨_,rfl,_,_,rfl,.inr ⟨_,SqT.of ht,rfl⟩,rfl,_,rfl,uf (fun h2=>?_) fun h2=>?_⟩
    ·have e:bU may (ts.map bD) (n+1) p (.tup us')=false:=by
      unfold bU
      rw[decide_eq_false (show ¬(Th.tup us').parts.length=2 from fun z=>h2 (by rw[hn];exact congrArg _ z)),yg,Bool.and_false]
     rw[e]at q
     exact q H (Same.refl _)
    have u2:us.length=2:=by omega
    match us,us',hn,u2,ht,hat,gb,q with
    | [w0,r0],[wt,rt],_,_,ht,hat,gb,q=>
    have hw:=hat 0 w0 wt rfl rfl
    have hr0:=hat 1 r0 rt rfl rfl
    have tb:=gb rt (.tail _ (.head _))
    rw[show bU may (ts.map bD) (n+1) p (.tup [wt,rt])=if wt.isStr "tie" then oC (ts.map bD) p rt else if wt.isStr "short" then eW may p rt else if wt.isStr "split" then eX may (ts.map bD) n p rt else false from rfl]at q
    obtain⟨e1,e2⟩:=hw.eqT (K:=K) "tie"
    refine⟨_,rfl,tp,_,_,_,rfl,rfl,SqT.of ht,rfl,⟨_,rfl⟩,e1,_,rfl,?_⟩
    rw[e2]
    refine pO (fun h=>?_) fun h=>?_
    ·rw [if_pos h]at q
     exact⟨_,rfl,_,rfl,_,rfl,tp,_,_,_,rfl,rfl,SqT.of ht,rfl,pa,ta,r0,rt,p,ts,rfl,SqL.of hpa,tt,hr0,q⟩
    rw[if_neg (by rw[h];decide)]at q
    obtain⟨e1,e2⟩:=hw.eqT (K:=K) "short"
    refine⟨_,rfl,tp,_,_,_,rfl,rfl,SqT.of ht,rfl,⟨_,rfl⟩,e1,_,rfl,?_⟩
    rw[e2]
    refine pO (fun h=>?_) fun h=>?_
    ·rw [if_pos h]at q
     exact⟨_,rfl,_,rfl,_,rfl,tp,_,_,_,rfl,rfl,SqT.of ht,rfl,pa,ma,r0,p,rs,may,U,rt,rfl,SqL.of hpa,hm,c,hl,hr0,tb,q⟩
    rw[if_neg (by rw[h];decide)]at q
    obtain⟨e1,e2⟩:=hw.eqT (K:=K) "split"
    refine⟨_,rfl,tp,_,_,_,rfl,rfl,SqT.of ht,rfl,⟨_,rfl⟩,e1,_,rfl,?_⟩
    rw[e2]
    refine pO (fun h=>?_) fun h=>?_
    ·rw [if_pos h]at q
     exact⟨_,rfl,_,rfl,_,rfl,_,rfl,tp,_,_,_,rfl,rfl,SqT.of ht,rfl,pa,ma,ta,r0,p,rs,may,U,ts,rt,rfl,hpa,hm,tt,c,hl,by omega,hr0,tb,q⟩
    rw[if_neg (by rw[h];decide)]at q
    exact q H (Same.refl _)
 exact all 7
inductive sp_shows (K:PySem.W.Frag) (vs:List V) (H:Hp) (Q:VK) (E:XK):Prop where
 | mk (ma ta:Addr) (v:V) (rs:List Addr) (may:List (List Int)) (U:List Int) (ts:List (Addr×Addr×Str×Int×List Nat)) (t:Th) (_:vs=[.ref ma,.ref ta,v]) (_:May K H ma rs may U) (_:Ties K H ta ts 100) (_:ThAt H v t) (_:TBnd t) (_:∀H',Same H H'->Q (.bl (bU may (ts.map bD) 7 [] t)) H')
theorem qT:FnScope ["may","ties","paper"] ["may","ties","paper"] (ak jW):=⟨rfl,rfl,rfl,by decide +kernel,rfl,by decide +kernel,by decide +kernel⟩
theorem qU (D:Dfs K mg aF dF) (T:Txt mg):FnOk P w K mg base aY 25 (aF 10) (dF 10) ["may","ties","paper"] (sp_shows K):=by
 have Gshows_for:FnOk P w K mg base aY 24 (aF 11) (dF 11) ["pattern","may","ties","paper"] (fM K):=j5 D T
 refine D.shows.fn.ok qT (fun vs H Q E h=>?_) (fun cdv A outer s H vs Q E hr h=>?_)
 ·obtain⟨ma,ta,v,rs,may,U,ts,t,rfl,_⟩:=h;rfl
 ·have hu:=aV hr
  obtain⟨ma,ta,v,rs,may,U,ts,t,rfl,hm,tt,ht,tb,q⟩:=h
  refine⟨_,(ah (aj (pc D.shows_for Gshows_for (hr.mono (by decide)) (aa (aq ab) (aa (pv 0) (aa (pv 1) (aa (pv 2) ab))))))),?_⟩
  have m6:=hm.m6
  refine⟨cb,fun e ne=>?_⟩
  have s1:=Same.new (o:= .lst []) ne
  exact⟨_,rfl,_,rfl,_,rfl,e,ma,ta,v,[],rs,may,U,ts,t,rfl,ae,hm.same s1,⟨s1.seq tt.ls,fun x hx=>(tt.ea x hx).same s1,tt.ln⟩,gf,yx _,by simp;omega,ht.same s1,tb,fun H' s=>q H' (s1.trans s)⟩
def cv (ns:List Int) (k:Nat):Int:=if k<ns.length then ns.getD k 0 else if ns=[]then(k:Int)*k*7919+13*k else(ns.getD (k%ns.length) 0+k*k*7919+1)*48271%2147483647
inductive sp_law_cell (K:PySem.W.Frag) (vs:List V) (H:Hp) (Q:VK) (E:XK):Prop where
 | mk (a:Addr) (ns:List Int) (k:Nat) (_:vs=[.ref a,.int ((k:Nat):Int)]) (_:SqL K H a (ns.map V.int)) (_:ns.length<=200) (_:k<=1000) (_:∀H',Same H H'->Q (.int (cv ns k)) H')
theorem lr:FnScope ["script","k"] ["script","k"] (ak fc):=⟨rfl,rfl,rfl,by decide +kernel,rfl,by decide +kernel,by decide +kernel⟩
theorem dU (D:Dfs K mg aF dF) (T:Txt mg):FnOk P w K mg base aY 1 (aF 17) (dF 17) ["script","k"] (sp_law_cell K):=by
 refine D.law_cell.fn.ok lr (fun vs H Q E h=>?_) (fun cdv A outer s H vs Q E hr h=>?_)
 ·obtain⟨a,ns,k,rfl,_⟩:=h;rfl
 ·have hu:=aV hr
  obtain⟨a,ns,k,rfl,hS,hl,hk,q⟩:=h
  refine aE 2 (ah (aj (ao aQ (ao fT (ao bE (ao bE (aB (cP K) (pv 0) (ao aQ (pv 1) (ai (bx K) (by rfl) T.z_len boot_len (aa (pv 0) ab))) (fun _ _=>rfl)) (ao fT (ao fT (pv 1) (pv 1)) af)) af) af) af))) ?_
  intro Z0 z0
  refine aE 1 (ag (aK (av (xv K hr.units) (pv 0) (aq ab) (ax _))
    (ah (aj (ao bE (ao fT (ao fT (pv 1) (pv 1)) af) (ao fT af (pv 1)))))
    aw) z0) ?_
  intro Z0 z0
  refine⟨_,(ag (aK (av cQ (pv 1) (ai (bx K) (by rfl) T.z_len boot_len (aa (pv 0) ab)) (ax _))
    (ah (aj (aB (cP K) (pv 0) (pv 1) (fun _ _=>rfl))))
    aw) z0),?_⟩
  refine⟨_,rfl,_,rfl,_,_,rfl,.inl ⟨_,hS,rfl⟩,_,_,rfl,rfl,_,rfl,qY (fun h=>?_) fun h=>?_⟩
  ·rw [xM]at h
   have h':k<ns.length:=by omega
   refine⟨_,rfl,_,rfl,a,_,_,_,rfl,rfl,hS,bK h',?_⟩
   have e:cv ns k=ns.getD k 0:=if_pos h'
   rw[<- e]
   exact q H (Same.refl _)
  ·rw [xM]at h
   have h':¬k<ns.length:=by omega
   refine⟨_,rfl,cb,fun p np=>⟨1,_,mT ((Same.new np).seq hS) (SqL.of ae),by decide,rfl,_,rfl,pO (fun h=>?_) fun h=>?_⟩⟩
   ·have e0:ns=[]:=by
     cases ns with
     | nil=>rfl
     | cons x r=>cases h
    have e:cv ns k=(k:Int)*k*7919+13*k:=by unfold cv;rw[if_neg h',if_pos e0]
    have q':=q _ (Same.new (o:= .lst []) np)
    rw[e]at q'
    refine⟨_,rfl,_,rfl,_,_,rfl,rfl,.inl ⟨by omega,by omega⟩,?_⟩
    walk_at "go"
    exact q'
   ·have e0:ns≠[]:=by rintro rfl;cases h
    have hpos:0<ns.length:=List.length_pos_iff.mpr e0
    have e:cv ns k=(ns.getD (k%ns.length) 0+k*k*7919+1)*48271%2147483647:=by unfold cv;rw[if_neg h',if_neg e0]
    have q':=q _ (Same.new (o:= .lst []) np)
    rw[e]at q'
    have hlen:((ns.map V.int).length:Int)=(ns.length:Int):=by rw[xM]
    refine⟨_,rfl,_,rfl,_,rfl,_,_,rfl,.inl ⟨_,(Same.new np).seq hS,rfl⟩,_,_,rfl,rfl,?_,?_⟩
    ·show(0:Int)<((ns.map V.int).length:Int)
     rw[hlen];omega
    ·refine⟨a,_,_,_,rfl,rfl,(Same.new np).seq hS,(?_:g5 (ns.map V.int) ((k:Int)%((ns.map V.int).length:Int))=some (.int (ns.getD (k%ns.length) 0))),?_⟩
     ·rw [hlen]
      have e1:(k:Int)%(ns.length:Int)=((k%ns.length:Nat):Int):=by simp
      rw[e1]
      exact bK (zx _ hpos)
     ·refine⟨_,rfl,_,rfl,_,_,rfl,rfl,.inl ⟨by omega,by omega⟩,?_⟩
      walk_at "go"
      exact q'
theorem sv {H:Hp} {v:V} {t:Th} (a:ThAt H v t) (h:t.isInt=true):v= .int t.num:=by cases a<;>first | rfl | cases h
inductive sp_law_whole (K:PySem.W.Frag) (vs:List V) (H:Hp) (Q:VK) (E:XK):Prop where
 | mk (v:V) (t:Th) (_:vs=[v]) (_:ThAt H v t) (_:Q (.bl t.isInt) H)
theorem j6:FnScope ["found"] ["found"] (ak dM):=⟨rfl,rfl,rfl,by decide +kernel,rfl,by decide +kernel,by decide +kernel⟩
theorem fN (D:Dfs K mg aF dF) (T:Txt mg):FnOk P w K mg base aY 1 (aF 18) (dF 18) ["found"] (sp_law_whole K):=by
 refine D.law_whole.fn.ok j6 (fun vs H Q E h=>?_) (fun cdv A outer s H vs Q E hr h=>?_)
 ·obtain⟨v,t,rfl,_⟩:=h;rfl
 ·have hu:=aV hr
  obtain⟨v,t,rfl,ht,q⟩:=h
  refine⟨_,(ah (aj (cU (ai (fA K) (by rfl) T.z_isinstance boot_isinstance (aa (pv 0) (aa (pJ T.z_int) ab))) (fS (oX (ai (fA K) (by rfl) T.z_isinstance boot_isinstance (aa (pv 0) (aa (jE T.z_bool) ab)))))))),?_⟩
  cases ht with
  | non=>exact⟨_,rfl,_,_,_,false,rfl,.non,rfl,_,rfl,aW q⟩
  | bl=>exact⟨_,rfl,_,_,_,true,rfl,.bl _,rfl,_,rfl,bh ⟨_,rfl,_,_,_,true,rfl,.bl _,rfl,_,rfl,q⟩⟩
  | int=>exact⟨_,rfl,_,_,_,true,rfl,.int _,rfl,_,rfl,bh ⟨_,rfl,_,_,_,false,rfl,.int _,rfl,_,rfl,q⟩⟩
  | str=>exact⟨_,rfl,_,_,_,false,rfl,.str _,rfl,_,rfl,aW q⟩
  | lst hl hn h=>exact⟨_,rfl,_,_,_,false,rfl,.lst hl,rfl,_,rfl,aW q⟩
  | tup hl hn h=>exact⟨_,rfl,_,_,_,false,rfl,.tup hl,rfl,_,rfl,aW q⟩
def wj:List Int:=[7,30,10^18]
theorem vK (c:Int):∃d:Int,g5 [V.int 7,V.int 30,V.int (10^18)] (c%3)=some (.int d)/\0<d/\d<=10^18:=by
 obtain⟨n,h,e⟩:=qu c (n:=3) (by decide)
 rw[show c%3=((n:Nat):Int)from e]
 exact⟨wj.getD n 0,(show ∀n:Nat,n<3->g5 [V.int 7,V.int 30,V.int (10^18)] (n:Int)=some (.int (wj.getD n 0))/\0<wj.getD n 0/\wj.getD n 0<=10^18 by decide) n h⟩
inductive sp_law_menu (K:PySem.W.Frag) (vs:List V) (H:Hp) (Q:VK) (E:XK):Prop where
 | mk (a:Addr) (ns:List Int) (at' wd:Nat) (_:vs=[.ref a,.int ((at':Nat):Int),.int ((wd:Nat):Int)]) (_:SqL K H a (ns.map V.int)) (_:ns.length<=200) (_:at'<=500) (_:wd<=60) (_:0<wd) (_:∀l (ms:List Int) H',Same H H'->H l=none->H' l=some (.lst (ms.map V.int))->ms.Pairwise (· < ·)->ms.length<=wd->ms≠[]->(∀b∈ms,1<=b/\b<=10^18)->Q (.ref l) H')
theorem cJ:FnScope ["script","at","wide","badges","k","cell"] ["script","at","wide"] (ak fe):=⟨rfl,rfl,rfl,by decide +kernel,rfl,by decide +kernel,by decide +kernel⟩
theorem lu (D:Dfs K mg aF dF) (T:Txt mg):FnOk P w K mg base aY 2 (aF 19) (dF 19) ["script","at","wide"] (sp_law_menu K):=by
 have Glaw_cell:FnOk P w K mg base aY 1 (aF 17) (dF 17) ["script","k"] (sp_law_cell K):=dU D T
 refine D.law_menu.fn.ok cJ (fun vs H Q E h=>?_) (fun cdv A outer s H vs Q E hr h=>?_)
 ·obtain⟨a,ns,at',wd,rfl,_⟩:=h;rfl
 ·have hu:=aV hr
  obtain⟨a,ns,at',wd,rfl,hS,hl,hat,hwd,hwd0,q⟩:=h
  refine aE 2 (ah (aj (ai (ik w) (by rfl) T.z_sorted boot_sorted (aa (aJ (iL w K) (by rfl) T.z_set PyProof.Rows.boot_set (aa (pv 3) ab)) ab)))) ?_
  intro Z0 z0
  refine aE 1 (ag (bX PassesOwn.never rfl (aU rfl T.z_range (aa (pv 2) ab)) (aA (i:=4) cJ.nd rfl (Or.inl rfl))
    (ag (aC (i:=5) cJ.nd rfl (Or.inl rfl) (pc D.law_cell Glaw_cell (hr.mono (by decide)) (aa (pv 0) (aa (ao bE (pv 1) (pv 4)) ab))))
    (ah (gG (mP PySem.F.plainAttrs_list PySem.F.slot_list_append PySem.F.type_list_append dW (pv 3) (aa (ao bE af (ao aQ (ao bf (pv 5) af) (aB (cP K) (aq (aa af (aa af (aa (ao lG af af) ab)))) (ao aQ (pv 5) af) (fun _ _=>rfl)))) ab)))))) z0) ?_
  intro Z0 z0
  refine⟨_,(ag (aC (i:=3) cJ.nd rfl (Or.inl rfl) (aq ab)) z0),?_⟩
  refine⟨cb,fun l nl=>?_⟩
  refine⟨_,rfl,_,rfl,fI _,by omega,?_⟩
  have e0:((wd:Int)).toNat=wd:=by omega
  rw[e0]
  refine bH (n:=wd) (fun i σ H1=>∃(bs:List Int) (x y:Option V),σ=[some (.ref a),some (.int at'),some (.int wd),some (.ref l),x,y]/\Same H H1/\H1 l=some (.lst (bs.map V.int))/\bs.length=i/\∀b∈bs,1<=b/\b<=10^18) ⟨[],none,none,rfl,Same.new nl,ae,rfl,fun _ z=>by cases z⟩ ?_ ?_
  ·rintro i σ H1 hi ⟨bs,x,y,rfl,s1,hl1,hlen,hb⟩
   have ei:(at':Int)+(0+(i:Int))=((at'+i:Nat):Int):=by omega
   refine⟨_,rfl,_,rfl,_,rfl,_,_,rfl,rfl,a,ns,at'+i,(by show [V.ref a,V.int ((at':Int)+(0+(i:Int)))]=_;rw[ei]),s1.seq hS,by omega,by omega,fun H2 s2=>?_⟩
   have hl2:=s2 _ _ hl1
   refine⟨_,rfl,.inl ⟨rfl,_,SqL.of hl2⟩,?_⟩
   walk_at "go"
   refine⟨cb,fun p np=>?_⟩
   obtain⟨d,hd,hd0,hd1⟩:=vK (cv ns (at'+i))
   refine⟨_,rfl,_,_,rfl,rfl,(show(0:Int)<3 by decide),p,_,_,_,rfl,rfl,SqL.of ae,hd,_,_,rfl,rfl,hd0,_,_,rfl,rfl,?_⟩
   have npl:l≠p:=aD hl2 np
   refine⟨l,_,_,rfl,rfl,by rw[ay npl];exact hl2,oS (by rw[xM];omega),?_⟩
   have w1:=yX (cv ns (at'+i)/3) (show d≠0 by omega)
   have w2:=yG (cv ns (at'+i)/3) hd0
   refine⟨bs++[1+cv ns (at'+i)/3%d],_,_,rfl,((s1.trans s2).to np).put nl,?_,by rw[xV,x9,hlen],fun b hb'=>?_⟩
   ·rw [ae,yo];rfl
   ·rcases ye.mp hb' with h | h
    ·exact hb b h
    ·rw [xX.mp h];omega
  ·rintro σ H1 ⟨bs,x,y,rfl,s1,hl1,hlen,hb⟩
   have dl:=bZ bs
   refine⟨_,rfl,l,bs,rfl,SqL.of hl1,by omega,fun S nS=>⟨S,dd bs,rfl,ae,by omega,fun r ks nr hp hs=>?_⟩⟩
   refine q r ks _ ((s1.to nS).to nr) ?_ ae (gO hs (hp.nodup_iff.mpr (jg bs))) (by rw[hp.length_eq];omega) ?_ ?_
   ·exact(s1.to nS).free nr
   ·rintro rfl
    have e:=hp.symm.eq_nil
    cases bs with
    | nil=>simp at hlen;omega
    | cons b r=>
     have:b∈dd (b :: r):=br.mpr (yc ..)
     rw[e]at this
     cases this
   ·exact fun b hb'=>hb b (br.mp (hp.mem_iff.mp hb'))
theorem vL (c:Int):∃wd:Str,g5 [V.str "most",V.str "least"] (c%2)=some (.str wd)/\(wd="most"\/wd="least"):=by
 rcases(show c%2=0\/c%2=1 by omega)with e | e
 ·rw [e];exact⟨"most",rfl,.inl rfl⟩
 ·rw [e];exact⟨"least",rfl,.inr rfl⟩
def wk:List Int:=[0,1,3,7,15,31,63]
theorem vM {m:Nat} (h1:1<=m) (h6:m<=6):∃d:Int,g5 [V.int 1,V.int 3,V.int 7,V.int 15,V.int 31,V.int 63] ((m:Int)-1)=some (.int d)/\0<d/\d+1=((2^m:Nat):Int):=
 ⟨wk.getD m 0,(show ∀m:Nat,m<7->1<=m->g5 [V.int 1,V.int 3,V.int 7,V.int 15,V.int 31,V.int 63] ((m:Int)-1)=some (.int (wk.getD m 0))/\0<wk.getD m 0/\wk.getD m 0+1=((2^m:Nat):Int) by decide) m (Nat.lt_succ_of_le h6) h1⟩
def lD:List Int:=[1,2,4,8,16,32]
theorem qV {i:Nat} (h:i<6):g5 [V.int 1,V.int 2,V.int 4,V.int 8,V.int 16,V.int 32] (i:Int)=some (.int (lD.getD i 0))/\0<lD.getD i 0/\lD.getD i 0<100/\lD.getD i 0=((2^i:Nat):Int):=
 (show ∀i:Nat,i<6->g5 [V.int 1,V.int 2,V.int 4,V.int 8,V.int 16,V.int 32] (i:Int)=some (.int (lD.getD i 0))/\0<lD.getD i 0/\lD.getD i 0<100/\lD.getD i 0=((2^i:Nat):Int) by decide) i h
theorem dec_int {i j:Int} {b:Bool} (h:b=decide (i=j)):b=decide (V.int i=V.int j):=by
 rw[h]
 by_cases z:i=j
 ·simp [z]
 ·simp [z]
theorem sA {m:Nat} {x d:Int} (h6:m<=6) (h0:0<d) (hd:d+1=((2^m:Nat):Int)):((xO m).filter fun i=>decide ((1+x%d)/lD.getD i 0%2=1))≠[]:=by
 have w1:=yX x (show d≠0 by omega)
 have w2:=yG x h0
 have p64:2^m<=2^6:=Nat.pow_le_pow_right (by decide) h6
 obtain⟨y,hy⟩:∃y:Nat,1+x%d=(y:Int):=⟨(1+x%d).toNat,by omega⟩
 obtain⟨i,hi,e⟩:=qm m (by omega) y (by omega) (by omega) (by omega)
 intro z
 have:i∈((xO m).filter fun i=>decide ((1+x%d)/lD.getD i 0%2=1)):=by
  refine yn.mpr ⟨yf.mpr hi,decide_eq_true ?_⟩
  rw[hy,(qV (show i<6 by omega)).2.2.2]
  have:(y:Int)/((2^i:Nat):Int)=((y/2^i:Nat):Int):=(Int.natCast_ediv _ _).symm
  rw[this]
  omega
 rw[z]at this
 cases this
inductive sp_law_bond (K:PySem.W.Frag) (vs:List V) (H:Hp) (Q:VK) (E:XK):Prop where
 | mk (c:Int) (many:Nat) (_:vs=[.int c,.int ((many:Nat):Int)]) (_:1<=many) (_:many<=6) (_:∀x H',Same H H'->TieT H' x->TieG many x->H x.1=none->H x.2.1=none->Q (.ref x.1) H')
theorem cg:FnScope ["cell","many","mask","steps","limit"] ["cell","many"] (ak ff):=⟨rfl,rfl,rfl,by decide +kernel,rfl,by decide +kernel,by decide +kernel⟩
theorem lx (D:Dfs K mg aF dF) (T:Txt mg):FnOk P w K mg base aY 1 (aF 20) (dF 20) ["cell","many"] (sp_law_bond K):=by
 refine D.law_bond.fn.ok cg (fun vs H Q E h=>?_) (fun cdv A outer s H vs Q E hr h=>?_)
 ·obtain⟨c,many,rfl,_⟩:=h;rfl
 ·have hu:=aV hr
  obtain⟨c,many,rfl,m1,m6,q⟩:=h
  refine aE 4 (ah (aj (au (aa (aB (cP K) (aq (aa ar (aa ar ab))) (ao aQ (pv 0) af) (fun _ _=>rfl)) (aa (pv 4) (aa (aJ eE (by rfl) T.z_tuple boot_tuple (aa (pv 3) ab)) ab)))))) ?_
  intro Z0 z0
  refine aE 3 (mU (aK (av mH (ao aQ (ao bf (pv 0) af) af) af (ax _))
    (ah (aC (i:=4) cg.nd rfl (Or.inl rfl) (ao bE af (ao aQ (ao dA (pv 4) af) (ai (bx K) (by rfl) T.z_len boot_len (aa (pv 3) ab))))))
    aw) z0) ?_
  intro Z0 z0
  refine aE 2 (ag (aC (i:=4) cg.nd rfl (Or.inl rfl) (ao bE af (ao aQ (ao bf (pv 0) af) af))) z0) ?_
  intro Z0 z0
  refine aE 1 (ag (fz (i₀:=3) cg.nd rfl (Or.inl rfl) ["k","mask"] [none,some 2] rfl (aU rfl T.z_range (aa (pv 1) ab)) (fun _=>aA (i:=0) (bq (N:=["k","mask"]) (by decide +kernel)) rfl (Or.inl rfl)) (fun _=>dX (av bM (ao aQ (ao bf (pv 1) (aB (cP K) (aq (aa af (aa af (aa af (aa af (aa af (aa af ab))))))) (pv 0) (fun _ _=>rfl))) af) af (ax _))) (fun _=>(pv 0)) ((.cons (fun _ e=>by cases e) (.cons (fun _ e=>by cases e;exact⟨rfl,rfl⟩) .nil)))) z0) ?_
  intro Z0 z0
  refine⟨_,(ag (aC (i:=2) cg.nd rfl (Or.inr rfl) (ao bE af (ao aQ (ao bf (pv 0) af) (aB (cP K) (aq (aa af (aa af (aa af (aa af (aa af (aa af ab))))))) (ao dA (pv 1) af) (fun _ _=>rfl))))) z0),?_⟩
  obtain⟨wd,hwd,hw2⟩:=vL c
  obtain⟨dm,hdm,hdm0,hdm1⟩:=vM m1 m6
  refine⟨_,rfl,?_⟩
  walk_at "go"
  refine⟨cb,fun p2 np2=>?_⟩
  refine⟨_,rfl,_,_,rfl,rfl,p2,_,_,_,rfl,rfl,SqL.of ae,hdm,_,_,rfl,rfl,hdm0,_,_,rfl,rfl,?_⟩
  generalize hH2:aI H p2 _=H2
  have s2:Same H H2:=by rw[<- hH2];exact Same.new np2
  refine⟨_,rfl,_,rfl,fI _,by omega,?_⟩
  rw[yi]
  refine gc (n:=many) (fun i=>decide ((1+c/12%dm)/lD.getD i 0%2=1)) (by omega) (fun i hi H3 R s3 k=>?_) (fun i hi H3 R k=>?_) fun sl H3 s3 nsl hsl=>?_
  ·have ei:(0:Int)+(i:Int)=((i:Nat):Int):=by omega
   rw[ei]
   obtain⟨g1,g2,g3,_⟩:=qV (show i<6 by omega)
   refine⟨_,rfl,cb,fun l nl=>⟨_,rfl,l,_,_,_,rfl,rfl,SqL.of ae,g1,_,_,rfl,rfl,⟨g2,by omega⟩,_,_,rfl,rfl,(show(0:Int)<2 by decide),rfl,_,rfl,?_⟩⟩
   generalize hH4:aI H3 l _=H4
   have s34:Same H3 H4:=by rw[<- hH4];exact Same.new nl
   have kk:=k H4 s34
   dsimp only at kk ⊢
   rw[dec_int (i:=(1+c/12%dm)/lD.getD i 0%2) (j:=1) rfl]at kk
   exact kk
  ·have ei:(0:Int)+(i:Int)=((i:Nat):Int):=by omega
   rw[ei]
   exact⟨_,rfl,k⟩
  have sne:=sA (x:=c/12) m6 hdm0 hdm1
  have hst:∀i∈((xO many).filter fun i=>decide ((1+c/12%dm)/lD.getD i 0%2=1)),i<many:=fun i hi=>yf.mp (yn.mp hi).1
  have hup:((xO many).filter fun i=>decide ((1+c/12%dm)/lD.getD i 0%2=1)).Pairwise (· < ·):=List.Pairwise.filter _ List.pairwise_lt_range
  have hle:((xO many).filter fun i=>decide ((1+c/12%dm)/lD.getD i 0%2=1)).length<=6:=yd (yy _ _) (by rw[yp];exact m6)
  generalize (xO many).filter (fun i=>decide ((1+c/12%dm)/lD.getD i 0%2=1))=st at hsl sne hst hup hle
  have spos:0<st.length:=List.length_pos_iff.mpr sne
  have k1:=yX (c/2) (show(6:Int)≠0 by decide)
  have k2:=yG (c/2) (show(0:Int)<6 by decide)
  refine⟨_,rfl,?_⟩
  walk_at "go"
  refine⟨fun σ H5=>∃lim:Int,σ=[some (.int c),some (.int ((many:Nat):Int)),some (.int (1+c/12%dm)),some (.ref sl),some (.int lim)]/\H5=H3/\1<=lim/\lim<=6,?_,?_⟩
  ·refine⟨_,rfl,?_⟩
   walk_at "go"
   refine qY (fun _=>?_) fun _=>⟨_,rfl,rfl,by omega,by omega⟩
   have hlp:(0:Int)<(((st.map fun(i:Nat)=>V.int (i:Int)).length:Nat):Int):=by rw[xM];omega
   refine⟨_,rfl,_,_,rfl,rfl,_,rfl,_,_,rfl,.inl ⟨_,SqL.of hsl,rfl⟩,_,_,rfl,rfl,hlp,_,_,rfl,rfl,?_⟩
   have z1:=yX (1+c/2%6-1) (show(((st.map fun(i:Nat)=>V.int (i:Int)).length:Nat):Int)≠0 by omega)
   have z2:=yG (1+c/2%6-1) hlp
   refine⟨_,rfl,rfl,by omega,?_⟩
   have z3:(((st.map fun(i:Nat)=>V.int (i:Int)).length:Nat):Int)<=6:=by rw[xM];omega
   omega
  ·rintro σ H5 ⟨lim,rfl,rfl,l1,l6⟩
   refine⟨cb,fun p np=>?_⟩
   refine⟨_,rfl,_,_,rfl,rfl,(show(0:Int)<2 by decide),p,_,_,_,rfl,rfl,SqL.of ae,hwd,_,rfl,_,rfl,?_⟩
   have s4:=Same.new (o:= .lst [.str "most",.str "least"]) np
   have hsl4:=s4 _ _ hsl
   generalize aI H5 p (.lst [.str "most",.str "least"])=H6 at s4 hsl4 ⊢
   refine⟨sl,_,rfl,.inl ⟨SqL.of hsl4,fun t nt=>?_⟩⟩
   refine⟨cb,fun tp ntp=>?_⟩
   have ntt:t≠tp:=fun z=>by rw[<- z,ae]at ntp;cases ntp
   have s05:=(s2.trans s3).trans s4
   exact q (tp,t,wd,lim,st) _ ((s05.to nt).to ntp) ⟨ae,by show aI _ tp _ t=_;rw[ay ntt];exact ae,hw2,hle⟩ ⟨l1,l6,sne,hst,hup⟩ ((s05.to nt).free ntp) (s05.free nt)
theorem vN (c:Int):∃d:Nat,g5 [V.int 3,V.int 5,V.int 5,V.int 8] (c%4)=some (.int ((d:Nat):Int))/\0<d/\d<=8:=by
 obtain⟨n,h,e⟩:=qu c (n:=4) (by decide)
 rw[show c%4=((n:Nat):Int)from e]
 exact⟨[3,5,5,8].getD n 0,(show ∀n:Nat,n<4->g5 [V.int 3,V.int 5,V.int 5,V.int 8] (n:Int)=some (.int (([3,5,5,8].getD n 0:Nat):Int))/\0<[3,5,5,8].getD n 0/\[3,5,5,8].getD n 0<=8 by decide) n h⟩
theorem vO (c:Int):∃d:Nat,g5 [V.int 1,V.int 2,V.int 3,V.int 4,V.int 4,V.int 5,V.int 3,V.int 6] (c%8)=some (.int ((d:Nat):Int))/\1<=d/\d<=6:=by
 obtain⟨n,h,e⟩:=qu c (n:=8) (by decide)
 rw[show c%8=((n:Nat):Int)from e]
 exact⟨[1,2,3,4,4,5,3,6].getD n 0,(show ∀n:Nat,n<8->g5 [V.int 1,V.int 2,V.int 3,V.int 4,V.int 4,V.int 5,V.int 3,V.int 6] (n:Int)=some (.int (([1,2,3,4,4,5,3,6].getD n 0:Nat):Int))/\1<=[1,2,3,4,4,5,3,6].getD n 0/\[1,2,3,4,4,5,3,6].getD n 0<=6 by decide) n h⟩
def wm:List Int:=[6,14,40]
theorem vP (c:Int):∃d:Int,g5 [V.int 6,V.int 14,V.int 40] (c%3)=some (.int d)/\0<d/\d<=40:=by
 obtain⟨n,h,e⟩:=qu c (n:=3) (by decide)
 rw[show c%3=((n:Nat):Int)from e]
 exact⟨wm.getD n 0,(show ∀n:Nat,n<3->g5 [V.int 6,V.int 14,V.int 40] (n:Int)=some (.int (wm.getD n 0))/\0<wm.getD n 0/\wm.getD n 0<=40 by decide) n h⟩
theorem vQ {i j:Int} {A B R S:Prop} (h1:i=j->(S->R)->A) (h2:i≠j->(S->R)->B) (r:S->R):if decide (V.int i=V.int j)=true then A else B:=eO (fun h=>h1 h r) fun h=>h2 h r
def xl (H:Hp) (a m L T:Addr) (top i8:Nat) (fi ra:Int) (ms:List Int) (rs:List Addr) (σ:L2.St) (Hx:Hp):Prop:=∃(ps:List (List Int)) (ts:List (Addr×Addr×Str×Int×List Nat)) (x y z:Option V),σ=[some (.ref a),some (.int ((top:Nat):Int)),some (.int fi),some (.ref m),some (.int ((i8:Nat):Int)),some (.int ra),some (.ref L),x,some (.ref T),y,z]/\Same H Hx/\Hx m=some (.lst (ms.map V.int))/\Hx L=some (.lst (rs.map V.ref))/\Hx T=some (.lst (ts.map fun x=>V.ref x.1))/\RowsL Hx rs ps/\(∀p∈ps,p.Nodup)/\(∀p∈ps,∀b∈p,b∈ms)/\(∀x∈ts,TieT Hx x)/\(∀x∈ts,TieG i8 x)/\ts.length<=12
inductive sp_law_drawn (K:PySem.W.Frag) (vs:List V) (H:Hp) (Q:VK) (E:XK):Prop where
 | mk (a:Addr) (ns:List Int) (top:Nat) (_:vs=[.ref a,.int ((top:Nat):Int)]) (_:SqL K H a (ns.map V.int)) (_:ns.length<=63) (_:1<=top) (_:top<=6) (_:∀l m L T ms rs ps ts H',Same H H'->Drawn H' l m L T ms rs ps ts top->H l=none->Q (.ref l) H')
theorem aP:FnScope ["script","top","first","menu","count","rare","lists","k","ties","cell","badge"] ["script","top"] (ak dN):=⟨rfl,rfl,rfl,by decide +kernel,rfl,by decide +kernel,by decide +kernel⟩
theorem j7 (D:Dfs K mg aF dF) (T:Txt mg):FnOk P w K mg base aY 3 (aF 21) (dF 21) ["script","top"] (sp_law_drawn K):=by
 have Glaw_cell:FnOk P w K mg base aY 1 (aF 17) (dF 17) ["script","k"] (sp_law_cell K):=dU D T
 have Glaw_menu:FnOk P w K mg base aY 2 (aF 19) (dF 19) ["script","at","wide"] (sp_law_menu K):=lu D T
 have Glaw_bond:FnOk P w K mg base aY 1 (aF 20) (dF 20) ["cell","many"] (sp_law_bond K):=lx D T
 refine D.law_drawn.fn.ok aP (fun vs H Q E h=>?_) (fun cdv A outer s H vs Q E hr h=>?_)
 ·obtain⟨a,ns,top,rfl,_⟩:=h;rfl
 ·have hu:=aV hr
  obtain⟨a,ns,top,rfl,hS,hl,t1,t6,q⟩:=h
  refine aE 7 (ah (aj (aq (aa (pv 3) (aa (bb ["row"] [none] rfl (pM K (pv 6)) (fun _=>aA (i:=0) (bq (N:=["row"]) (by decide +kernel)) rfl (Or.inl rfl)) (fun _=>bJ) (fun _=>(ai (rK K) (by rfl) T.z_sorted boot_sorted (aa (pv 0) ab))) ((.cons (fun _ e=>by cases e) .nil))) (aa (pv 8) ab)))))) ?_
  intro Z0 z0
  refine aE 6 (ag (bX PassesOwn.never rfl (iX rfl T.z_range (aa af (aa (ai (nG rfl) (by rfl) T.z_max boot_max (aa (ai (bx K) (by rfl) T.z_len boot_len (aa (pv 0) ab)) (aa af ab))) ab))) (aA (i:=7) aP.nd rfl (Or.inl rfl))
    (ag (aC (i:=9) aP.nd rfl (Or.inl rfl) (pc D.law_cell Glaw_cell (hr.mono (by decide)) (aa (pv 0) (aa (pv 7) ab))))
    (ag (aC (i:=10) aP.nd rfl (Or.inl rfl) (aB (cP K) (pv 3) (ao aQ (ao bf (pv 9) (pv 5)) (ai (bx K) (by rfl) T.z_len boot_len (aa (pv 3) ab))) (fun _ _=>rfl)))
    (ah (aK (PW.pt (jw (av bM (ao aQ (pv 9) (pv 5)) af (ax _)) (gF (av cQ (ai (bx K) (by rfl) T.z_len boot_len (aa (pv 8) ab)) af (ax _)))))
     (ah (gG (mP PySem.F.plainAttrs_list PySem.F.slot_list_append PySem.F.type_list_append dW (pv 8) (aa (pc D.law_bond Glaw_bond (hr.mono (by decide)) (aa (ao bf (pv 9) (pv 5)) (aa (pv 4) ab))) ab))))
     (ah (aK (av (xu K) (pv 10) (aB (cP K) (pv 6) (ao aQ (pv 7) (pv 4)) (fun _ _=>rfl)) (by with_unfolding_all rfl))
      (ah (gG (mP PySem.F.plainAttrs_list PySem.F.slot_list_remove PySem.F.type_list_remove oj (aB (cP K) (pv 6) (ao aQ (pv 7) (pv 4)) (fun _ _=>rfl)) (aa (pv 10) ab))))
      (ah (gG (mP PySem.F.plainAttrs_list PySem.F.slot_list_append PySem.F.type_list_append dW (aB (cP K) (pv 6) (ao aQ (pv 7) (pv 4)) (fun _ _=>rfl)) (aa (pv 10) ab))))))))))) z0) ?_
  intro Z0 z0
  refine aE 5 (ag (aC (i:=8) aP.nd rfl (Or.inl rfl) (aq ab)) z0) ?_
  intro Z0 z0
  refine aE 4 (ag (fz (i₀:=6) aP.nd rfl (Or.inl rfl) ["k","menu"] [none,some 3] rfl (aU rfl T.z_range (aa (pv 4) ab)) (fun _=>aA (i:=0) (bq (N:=["k","menu"]) (by decide +kernel)) rfl (Or.inl rfl)) (fun _=>bJ) (fun _=>(aJ (mS K) (by rfl) T.z_list boot_list (aa (pv 1) ab))) ((.cons (fun _ e=>by cases e) (.cons (fun _ e=>by cases e;exact⟨rfl,rfl⟩) .nil)))) z0) ?_
  intro Z0 z0
  refine aE 3 (ag (aC (i:=5) aP.nd rfl (Or.inl rfl) (aB (cP K) (aq (aa af (aa af (aa af ab)))) (ao aQ (ao bf (pv 2) af) af) (fun _ _=>rfl))) z0) ?_
  intro Z0 z0
  refine aE 2 (ag (aC (i:=4) aP.nd rfl (Or.inl rfl) (ai (nH rfl) (by rfl) T.z_min boot_min (aa (pv 1) (aa (aB (cP K) (aq (aa af (aa af (aa af (aa af (aa af (aa af (aa af (aa af ab))))))))) (ao aQ (pv 2) af) (fun _ _=>rfl)) ab)))) z0) ?_
  intro Z0 z0
  refine aE 1 (ag (aC (i:=3) aP.nd rfl (Or.inr rfl) (pc D.law_menu Glaw_menu (hr.mono (by decide)) (aa (pv 0) (aa af (aa (aB (cP K) (aq (aa af (aa af (aa af (aa af ab))))) (ao aQ (ao bf (pv 2) af) af) (fun _ _=>rfl)) ab))))) z0) ?_
  intro Z0 z0
  refine⟨_,(ag (aC (i:=2) aP.nd rfl (Or.inl rfl) (pc D.law_cell Glaw_cell (hr.mono (by decide)) (aa (pv 0) (aa af ab)))) z0),?_⟩
  refine⟨_,rfl,a,ns,0,rfl,hS,by omega,by omega,fun H1 s1=>?_⟩
  generalize cv ns 0=fi
  obtain⟨wd,hwd,wd0,wd8⟩:=vN (fi/24)
  refine⟨_,rfl,cb,fun p np=>?_⟩
  walk_at "go"
  refine⟨p,_,_,_,rfl,rfl,SqL.of ae,hwd,?_⟩
  refine⟨a,ns,1,wd,rfl,(s1.to np).seq hS,by omega,by omega,by omega,wd0,fun m ms H2 s2 nm hm mup mlen mne mb=>?_⟩
  have s02:=(s1.to np).trans s2
  have ms0:0<ms.length:=List.length_pos_iff.mpr mne
  obtain⟨d8,hd8,d81,d86⟩:=vO fi
  refine⟨_,rfl,cb,fun p2 np2=>?_⟩
  walk_at "go"
  refine⟨p2,_,_,_,rfl,rfl,SqL.of ae,hd8,_,_,rfl,?_⟩
  obtain⟨i8,hcnt,c1,ct,c6⟩:∃i8:Nat,(if(d8:Int)<(top:Int)then(d8:Int)else(top:Int))=(i8:Int)/\1<=i8/\i8<=top/\i8<=6:=by
   by_cases z:(d8:Int)<(top:Int)
   ·exact⟨d8,by rw[if_pos z],d81,by omega,d86⟩
   ·exact⟨top,by rw[if_neg z],t1,by omega,t6⟩
  dsimp only
  rw[hcnt]
  have s03:=s02.to (o:= .lst [.int 1,.int 2,.int 3,.int 4,.int 4,.int 5,.int 3,.int 6]) np2
  have hm3:=(Same.new (o:= .lst [.int 1,.int 2,.int 3,.int 4,.int 4,.int 5,.int 3,.int 6]) np2) _ _ hm
  generalize aI H2 p2 (.lst [.int 1,.int 2,.int 3,.int 4,.int 4,.int 5,.int 3,.int 6])=H3 at s03 hm3 ⊢
  obtain⟨ra,hra,ra0,ra40⟩:=vP (fi/8)
  refine⟨cb,fun p3 np3=>?_⟩
  walk_at "go"
  refine⟨p3,_,_,_,rfl,rfl,SqL.of ae,hra,?_⟩
  have s04:=s03.to (o:= .lst [.int 6,.int 14,.int 40]) np3
  have hm4:=(Same.new (o:= .lst [.int 6,.int 14,.int 40]) np3) _ _ hm3
  generalize aI H3 p3 (.lst [.int 6,.int 14,.int 40])=H4 at s04 hm4 ⊢
  refine⟨_,rfl,_,rfl,fI _,by omega,?_⟩
  rw[yi]
  refine oo (n:=i8) (fun acc ys Hx=>∃rs:List Addr,ys=rs.map V.ref/\rs.Nodup/\∀r∈rs,r≠acc/\H4 r=none/\Hx r=some (.lst (ms.map V.int))) (by omega)
   (fun acc ys Hx Hy ⟨rs,e,nd,al⟩ sb=>⟨rs,e,nd,fun r hr=>⟨(al r hr).1,(al r hr).2.1,sb r _ (al r hr).1 (al r hr).2.2⟩⟩) (fun acc Hx=>⟨[],rfl,zz,fun _ z=>by cases z⟩) (fun acc i ys H5 R hi s5 nacc hacc ylen ⟨rs,e,nd,al⟩ k=>?_) fun L ys H5 s5 nL hL ylen ⟨rs,e,nd,al⟩=>?_
  ·refine⟨_,rfl,m,_,rfl,.inl (SqL.of (s5 _ _ hm4)),fun l nl=>k (.ref l) _ (Same.new nl) ⟨rs++[l],by rw[e,yo];rfl,gJ nd fun z=>?_,fun r hr=>?_⟩⟩
   ·have:=(al l z).2.2
    rw[nl]at this
    cases this
   ·rcases ye.mp hr with z | z
    ·exact⟨(al r z).1,(al r z).2.1,Same.new nl _ _ (al r z).2.2⟩
    ·rw [xX.mp z]
     exact⟨(fun y=>by rw[y,hacc]at nl;cases nl),s5.free nl,ae⟩
  subst e
  rw[xM]at ylen
  have s05:=s04.trans s5
  have hm5:=s5 _ _ hm4
  refine⟨cb,fun T nT=>?_⟩
  have nTL:L≠T:=aD hL nT
  have nTm:m≠T:=aD hm5 nT
  have mL:m≠L:=fun z=>by rw[<- z,hm4]at nL;cases nL
  have rL:∀r∈rs,r≠L:=fun r hr=>(al r hr).1
  have rm:∀r∈rs,r≠m:=fun r hr z=>by have:=(al r hr).2.1;rw[z,hm4]at this;cases this
  have rT:∀r∈rs,r≠T:=fun r hr=>aD (al r hr).2.2 nT
  have r0:∀r∈rs,H r=none:=fun r hr=>s04.free (al r hr).2.1
  have nT0:H T=none:=s05.free nT
  have nL0:H L=none:=s04.free nL
  refine⟨_,rfl,_,_,rfl,.inl ⟨_,(s05.to nT).seq hS,rfl⟩,_,_,rfl,_,_,rfl,⟨by omega,by omega,?_,?_⟩,?_⟩
  ·rw [xM];split<;>omega
  ·rw [xM];split<;>omega
  obtain⟨tn,htn,tn60⟩:∃tn:Nat,((if(21:Int)>(((ns.map V.int).length:Nat):Int)then(21:Int)else(((ns.map V.int).length:Nat):Int))-9).toNat=tn/\tn<=60:=⟨_,rfl,by rw[xM];split<;>omega⟩
  rw[htn]
  refine bH (n:=tn) (fun _ σ Hx=>xl H a m L T top i8 fi ra ms rs σ Hx)
   ⟨List.replicate i8 ms,[],none,none,none,rfl,s05.to nT,Same.new nT _ _ hm5,Same.new nT _ _ hL,ae (H:=H5) (a:=T) (o:= .lst []),RowsL.of (by rw[List.length_replicate,ylen]) fun i r p' e1 e2=>?_,fun p' hp=>?_,fun p' hp b hb=>?_,(fun _ z=>by cases z),(fun _ z=>by cases z),by decide⟩ ?_ ?_
  ·have hp:=List.eq_of_mem_replicate (xT e2)
   rw[hp]
   exact Same.new nT _ _ (al r (xT e1)).2.2
  ·rw [List.eq_of_mem_replicate hp];exact mup.imp fun h=>Int.ne_of_lt h
  ·rw [List.eq_of_mem_replicate hp]at hb;exact hb
  ·rintro i σ Hx hi ⟨ps,ts,x,y,z,rfl,s6,hm6,hL6,hT6,rows,pnd,psub,tea,tg,t12⟩
   have ei:(9:Int)+(i:Int)=((9+i:Nat):Int):=by omega
   rw[ei]
   refine⟨_,rfl,_,rfl,a,ns,9+i,rfl,s6.seq hS,by omega,by omega,fun H7 s7=>?_⟩
   generalize cv ns (9+i)=c
   have hm7:=s7 _ _ hm6
   have hL7:=s7 _ _ hL6
   have hT7:=s7 _ _ hT6
   have rows7:=rows.same s7
   have s07:=s6.trans s7
   have tea7:∀x∈ts,TieT H7 x:=fun x hx=>(tea x hx).same s7
   have ml:(0:Int)<(((ms.map V.int).length:Nat):Int):=by rw[xM];omega
   have b1:=yX (c/ra) (show(((ms.map V.int).length:Nat):Int)≠0 by omega)
   have b2:=yG (c/ra) ml
   obtain⟨bj,hbj⟩:∃bj:Nat,c/ra%(((ms.map V.int).length:Nat):Int)=(bj:Int):=⟨(c/ra%(((ms.map V.int).length:Nat):Int)).toNat,by omega⟩
   have bl:bj<ms.length:=by rw[xM]at b2 hbj;omega
   refine⟨_,rfl,_,rfl,_,rfl,_,_,rfl,rfl,⟨ra0,by omega⟩,_,rfl,_,_,rfl,.inl ⟨_,SqL.of hm7,rfl⟩,_,_,rfl,rfl,ml,m,_,_,_,rfl,rfl,SqL.of hm7,(by(try dsimp only);rw[hbj];exact bK bl),?_⟩
   have bm:ms.getD bj 0∈ms:=by rw[aL bl];exact yh bl
   generalize ms.getD bj 0=bd at bm ⊢
   clear hbj b1 b2 bl ml
   obtain⟨j,hj⟩:∃j:Nat,((9+i:Nat):Int)%((i8:Nat):Int)=(j:Int):=⟨(9+i)%i8,by simp⟩
   have cpos:(0:Int)<((i8:Nat):Int):=by omega
   have jl:j<rs.length:=by
    have:=yG ((9+i:Nat):Int) cpos
    omega
   have jp:j<ps.length:=by rw[<- rows.len];exact jl
   have grs:rs[j]?=some rs[j]:=xK jl
   have mrs:rs[j]∈rs:=yh jl
   obtain⟨row,hrow,hrr⟩:=rows7.get grs
   have mrow:row∈ps:=xT hrow
   have hix:g5 (rs.map V.ref) (((9+i:Nat):Int)%((i8:Nat):Int))=some (.ref rs[j]):=by rw[hj];exact aO (by rw[xR,grs];rfl)
   have rlen:row.length<=8:=by
    have:=(pnd row mrow).length_le_of_subset fun b hb=>psub row mrow b hb
    omega
   refine⟨_,rfl,_,rfl,_,_,rfl,rfl,ra0,rfl,_,rfl,vQ (S:=True) (fun _ k=>?_) (fun _ k=>aW (k trivial)) ?_⟩
   ·refine⟨_,rfl,_,_,rfl,.inl ⟨_,SqL.of hT7,rfl⟩,_,_,rfl,rfl,_,rfl,qY (fun lt12=>?_) fun _=>k trivial⟩
    rw[xM]at lt12
    refine⟨_,rfl,.inl ⟨rfl,_,SqL.of hT7⟩,_,rfl,_,rfl,_,_,rfl,rfl,⟨ra0,by omega⟩,_,rfl,_,i8,rfl,c1,c6,fun tx H8 s8 tx1 tx2 _ _=>?_⟩
    refine⟨T,_,_,rfl,rfl,s8 _ _ hT7,oS (by rw[xM];omega),?_⟩
    have s08:=s07.trans s8
    have nxT:∀{u:Addr} {xs:List V},H8 u=some (.tup xs)->u≠T:=fun {u xs} hu z=>by rw[z,s8 _ _ hT7]at hu;cases hu
    refine⟨ps,ts++[tx],_,_,_,rfl,s08.put nT0,by rw[ay nTm];exact s8 _ _ hm7,by rw[ay nTL];exact s8 _ _ hL7,by rw[ae,yo];rfl,?_,pnd,psub,fun x hx=>?_,fun x hx=>?_,by rw[xV,x9];omega⟩
    ·refine RowsL.of rows.len fun i' r' p' e1 e2=>?_
     rw[ay (rT r' (xT e1))]
     obtain⟨p2,e3,e4⟩:=(rows7.same s8).get e1
     rw[e2]at e3
     cases e3
     exact e4
    ·rcases ye.mp hx with h | h
     ·exact((tea7 x h).same s8).put (s8 _ _ hT7)
     ·rw [xX.mp h];exact tx1.put (s8 _ _ hT7)
    ·rcases ye.mp hx with h | h
     ·exact tg x h
     ·rw [xX.mp h];exact tx2
   intro _
   have upds:∀nr:List Int,nr.Nodup->(∀b∈nr,b∈ms)->xl H a m L T top i8 fi ra ms rs [some (.ref a),some (.int ((top:Nat):Int)),some (.int fi),some (.ref m),some (.int ((i8:Nat):Int)),some (.int ra),some (.ref L),some (.int ((9+i:Nat):Int)),some (.ref T),some (.int c),some (.int bd)] (aI H7 rs[j] (.lst (nr.map V.int))):=by
    intro nr nn nm'
    refine⟨ps.set j nr,ts,_,_,_,rfl,s07.put (r0 _ mrs),by rw[ay fun z=>rm _ mrs z.symm];exact hm7,by rw[ay fun z=>rL _ mrs z.symm];exact hL7,by rw[ay fun z=>rT _ mrs z.symm];exact hT7,rows7.set nd grs nr,fun p' hp=>?_,fun p' hp=>?_,fun x hx=>(tea7 x hx).put hrr,tg,t12⟩
    ·rcases List.mem_or_eq_of_mem_set hp with h | h
     ·exact pnd p' h
     ·rw [h];exact nn
    ·rcases List.mem_or_eq_of_mem_set hp with h | h
     ·exact psub p' h
     ·rw [h];exact nm'
   refine⟨_,rfl,_,rfl,_,rfl,_,rfl,_,_,rfl,rfl,cpos,L,_,_,_,rfl,rfl,SqL.of hL7,hix,?_⟩
   refine⟨rs[j],_,rfl,.inl (SqL.of hrr),rfl,dB _,_,rfl,?_⟩
   rw[if_neg (by decide),gL]
   refine qY (fun hin=>?_) fun hin=>?_
   ·refine⟨_,rfl,_,rfl,_,rfl,_,_,rfl,rfl,cpos,L,_,_,_,rfl,rfl,SqL.of hL7,hix,.inl ⟨rfl,_,SqL.of hrr⟩,_,rfl,?_⟩
    have g0:=vw hin
    refine⟨rs[j],row,bd,fx row bd,rfl,rfl,hrr,g0,fun mm hmm=>vx hmm,?_⟩
    exact upds (row.eraseIdx (fx row bd)) ((pnd row mrow).sublist (List.eraseIdx_sublist ..)) fun b hb=>psub row mrow b ((List.eraseIdx_sublist ..).subset hb)
   ·refine⟨_,rfl,_,rfl,_,rfl,_,_,rfl,rfl,cpos,L,_,_,_,rfl,rfl,SqL.of hL7,hix,.inl ⟨rfl,_,SqL.of hrr⟩,_,rfl,?_⟩
    refine⟨rs[j],_,_,rfl,rfl,hrr,oS (by rw[xM];omega),?_⟩
    have e:row.map V.int++[V.int bd]=(row++[bd]).map V.int:=by rw[yo];rfl
    rw[e]
    exact upds (row++[bd]) (gJ (pnd row mrow) hin) fun b hb=>by
     rcases ye.mp hb with h | h
     ·exact psub row mrow b h
     ·rw [xX.mp h];exact bm
  ·rintro σ Hx ⟨ps,ts,x,y,z,rfl,s6,hm6,hL6,hT6,rows,pnd,psub,tea,tg,t12⟩
   have pl:ps.length=i8:=by rw[<- rows.len,ylen]
   refine⟨_,rfl,_,rfl,L,rfl,⟨_,SqL.of hL6⟩,?_⟩
   refine om (fun acc ys Hy=>∃(rs':List Addr) (ps':List (List Int)),ys=rs'.map V.ref/\RowsL Hy rs' ps'/\(∀r∈rs',r≠acc)/\∀(i:Nat) p',ps'[i]?=some p'->∃p0,ps[i]?=some p0/\p'.Perm p0/\p'.Pairwise (· <= ·)) (SqL.of hL6) (by rw[xM,ylen];omega)
    (fun acc ys Hy Hz ⟨rs',ps',e,rw',ne,al'⟩ sb=>⟨rs',ps',e,RowsL.of rw'.len fun i' r' p' e1 e2=>?_,ne,al'⟩) (fun acc Hy=>⟨[],[],rfl,.nil,fun _ z=>(by cases z),fun _ _ z=>by simp at z⟩) (fun acc i x ys Hy R hx sy nacc hacc yl ⟨rs',ps',e,rw',ne,al'⟩ k=>?_) fun L2' ys Hy sy nL2 hL2 yl ⟨rs',ps',e,rw',ne,al'⟩=>?_
   ·obtain⟨p2,e3,e4⟩:=rw'.get e1
    rw[e2]at e3
    cases e3
    exact sb r' _ (ne r' (xT e1)) e4
   ·rw [xR]at hx
    obtain⟨r,hr,rfl⟩:=ya.mp hx
    obtain⟨row,hrow,hrr⟩:=rows.get hr
    have mrow:=xT hrow
    have rlen:row.length<=8:=by
     have:=(pnd row mrow).length_le_of_subset fun b hb=>psub row mrow b hb
     omega
    refine⟨_,rfl,r,row,rfl,SqL.of (sy _ _ hrr),by omega,fun l ks nl pm sr=>k (.ref l) _ (Same.new nl) ⟨rs'++[l],ps'++[ks],by rw[e,yo];rfl,?_,fun r' hr'=>?_,fun i' p' hp'=>?_⟩⟩
    ·exact Paired.snoc (Paired.mapP rw' fun _ _ q'=>Same.new nl _ _ q') ae
    ·rcases ye.mp hr' with h | h
     ·exact ne r' h
     ·rw [xX.mp h]
      exact fun z'=>by rw[z',hacc]at nl;cases nl
    ·have el:ps'.length=i:=by rw[<- rw'.len,<- yl,e,xM]
     by_cases z':i'<ps'.length
     ·rw [yL z']at hp'
      exact al' i' p' hp'
     ·have z2:i'=ps'.length:=by
       have:=(xP.mp hp').1
       rw[xV,x9]at this
       omega
      rw[z2,yU (xQ _),zF]at hp'
      cases hp'
      exact⟨row,by rw[z2,el];exact hrow,pm,sr⟩
   ·have plen:ps'.length=ps.length:=by rw[<- rw'.len,<- rows.len,<- xM (f:=V.ref) (as:=rs'),<- e,yl,xM]
    refine⟨_,rfl,cb,fun l nl=>?_⟩
    have sl:=Same.new (o:= .lst [.ref m,.ref L2',.ref T]) nl
    have s6y:=s6.trans sy
    have fact:∀p'∈ps',∃p0∈ps,p'.Perm p0/\p'.Pairwise (· <= ·):=fun p' hp=>by
     obtain⟨i',hi',e'⟩:=xZ.mp hp
     obtain⟨p0,g1,g2,g3⟩:=al' i' p' (by rw[xK hi',e'])
     exact⟨p0,xT g1,g2,g3⟩
    refine q l m L2' T ms rs' ps' ts _ (s6y.to nl) ⟨ae,sl _ _ (sy _ _ hm6),by rw[<- e];exact sl _ _ hL2,sl _ _ (sy _ _ hT6),rw'.same sl,mup,mne,by omega,mb,fun p' hp=>?_,fun p' hp b hb=>?_,by omega,by omega,by omega,fun x hx=>((tea x hx).same sy).same sl,fun x hx=>by rw[plen,pl];exact tg x hx,t12⟩ (s6y.free nl)
    ·obtain⟨p0,m0,pm,sr⟩:=fact p' hp
     exact gO sr (pm.nodup_iff.mpr (pnd p0 m0))
    ·obtain⟨p0,m0,pm,sr⟩:=fact p' hp
     exact psub p0 m0 b (pm.mem_iff.mp hb)
inductive sp_law_unlike (K:PySem.W.Frag) (vs:List V) (H:Hp) (Q:VK) (E:XK):Prop where
 | mk (a b:Addr) (hs:List Int) (st:List Nat) (_:vs=[.ref a,.ref b]) (_:SqL K H a (hs.map V.int)) (_:(SqL K H b (st.map fun(i:Nat)=>V.int (i:Int))\/SqT K H b (st.map fun(i:Nat)=>V.int (i:Int)))) (_:(∀i∈st,i<hs.length)) (_:st.length<=6) (_:∀H',Same H H'->Q (.int ((lB (fun i=>hs.getD i 0) st:Nat):Int)) H')
theorem b5:FnScope ["things","steps","count","k"] ["things","steps"] (ak c7):=⟨rfl,rfl,rfl,by decide +kernel,rfl,by decide +kernel,by decide +kernel⟩
theorem iN (D:Dfs K mg aF dF) (T:Txt mg):FnOk P w K mg base aY 1 (aF 22) (dF 22) ["things","steps"] (sp_law_unlike K):=by
 refine D.law_unlike.fn.ok b5 (fun vs H Q E h=>?_) (fun cdv A outer s H vs Q E hr h=>?_)
 ·obtain⟨a,b,hs,st,rfl,_⟩:=h;rfl
 ·have hu:=aV hr
  obtain⟨a,b,hs,st,rfl,ha,hb,hlt,h6,q⟩:=h
  refine aE 2 (ah (aj (pv 2))) ?_
  intro Z0 z0
  refine aE 1 (ag (bX PassesOwn.never rfl (aU rfl T.z_range (aa (ai (bx K) (by rfl) T.z_len boot_len (aa (pv 1) ab)) ab)) (aA (i:=3) b5.nd rfl (Or.inl rfl))
    (ah (aK (av (ud K) (aB (cP K) (pv 0) (aB (xx K) (pv 1) (pv 3) (fun _ _=>rfl)) (fun _ _=>rfl)) (bb ["step","things"] [none,some 0] rfl (xf K (g4 (xy K) (pv 1) mI (gH (pv 3)))) (fun _=>aA (i:=0) (bq (N:=["step","things"]) (by decide +kernel)) rfl (Or.inl rfl)) (fun _=>bJ) (fun _=>(aB (cP K) (pv 1) (pv 0) (fun _ _=>rfl))) ((.cons (fun _ e=>by cases e) (.cons (fun _ e=>by cases e;exact⟨rfl,rfl⟩) .nil)))) (by with_unfolding_all rfl))
     (ah (aC (i:=2) b5.nd rfl (Or.inl rfl) (ao bE (pv 2) af)))
     aw))) z0) ?_
  intro Z0 z0
  refine⟨_,(ag (aC (i:=2) b5.nd rfl (Or.inl rfl) af) z0),?_⟩
  have sl:(st.map fun(i:Nat)=>V.int (i:Int)).length=st.length:=by rw[xM]
  have hlen:tM K (.ref b) H (st.map fun(i:Nat)=>V.int (i:Int)).length:=by
   rcases hb with hb | hb
   ·exact .inl ⟨_,hb,rfl⟩
   ·exact .inr ⟨_,hb,rfl⟩
  refine⟨_,rfl,_,_,rfl,hlen,_,rfl,fI _,by omega,?_⟩
  have e0:(((st.map fun(i:Nat)=>V.int (i:Int)).length:Nat):Int).toNat=st.length:=by omega
  rw[e0]
  refine bH (n:=st.length) (fun i σ H1=>∃x:Option V,σ=[some (.ref a),some (.ref b),some (.int ((lB (fun i=>hs.getD i 0) (st.take i):Nat):Int)),x]/\Same H H1) ⟨none,rfl,Same.refl _⟩ ?_ ?_
  ·rintro i σ H1 hi ⟨x,rfl,s1⟩
   have ei:(0:Int)+(i:Int)=((i:Nat):Int):=by omega
   rw[ei]
   have gi:(st.map fun(i:Nat)=>V.int (i:Int))[i]?=some (.int ((st[i]:Nat):Int)):=by rw[xR,xK hi];rfl
   have hl:=hlt _ (yh hi)
   have et:st.take (i+1)=st.take i++[st[i]]:=by rw[yY,xK hi];rfl
   have ek:eN (st.map fun(i:Nat)=>V.int (i:Int)) none (some (i:Int))=(st.take i).map fun(i:Nat)=>V.int (i:Int):=by rw[ue,<- zE]
   have us:=qi (fun i=>hs.getD i 0) (st.take i) st[i]
   have elt:∀(Hc:Hp) (j:Nat) (x:V),Same H1 Hc->((st.take i).map fun(i:Nat)=>V.int (i:Int))[j]?=some x->∃d:Nat,x=V.int (d:Int)/\(st.take i).getD j 0=d/\d<hs.length:=fun Hc j x _ hx=>by
    obtain⟨d,hd,rfl,ed⟩:=eR hx
    exact⟨d,rfl,ed,hlt d (zt (xT hd))⟩
   have fin:∀acc Hc,Same H1 Hc->Hc acc=some (.lst (((st.take i).map fun i=>hs.getD i 0).map V.int))->∀R1 R2:Prop,(hs.getD st[i] 0∉(st.take i).map (fun i=>hs.getD i 0)->R1)->(hs.getD st[i] 0∈(st.take i).map (fun i=>hs.getD i 0)->R2)->if(if true=true then !uO (.int (hs.getD st[i] 0)) (((st.take i).map fun i=>hs.getD i 0).map V.int)else uO (.int (hs.getD st[i] 0)) (((st.take i).map fun i=>hs.getD i 0).map V.int))=true then R1 else R2:=fun acc Hc _ _ R1 R2 f1 f2=>by
    rw[if_pos rfl,gL]
    exact eF (fun hn=>f1 (of_decide_eq_false hn)) fun hin=>f2 (of_decide_eq_true hin)
   have r1:hs.getD st[i] 0∉(st.take i).map (fun i=>hs.getD i 0)->lB (fun i=>hs.getD i 0) (st.take (i+1))=lB (fun i=>hs.getD i 0) (st.take i)+1:=fun h=>by rw[et,us,if_neg h]
   have r2:hs.getD st[i] 0∈(st.take i).map (fun i=>hs.getD i 0)->lB (fun i=>hs.getD i 0) (st.take (i+1))=lB (fun i=>hs.getD i 0) (st.take i):=fun h=>by rw[et,us,if_pos h]
   rcases hb with hb | hb
   ·refine⟨_,rfl,_,rfl,_,rfl,.inl ⟨b,_,_,_,rfl,rfl,s1.seq hb,aO gi,a,_,_,_,rfl,rfl,s1.seq ha,bK hl,?_⟩⟩
    refine⟨_,rfl,_,rfl,_,rfl,.inl ⟨b,_,rfl,s1.seq hb,fun c nc=>?_⟩⟩
    rw[ek]
    refine⟨c,rfl,.inl ⟨⟨_,SqL.of ae⟩,?_⟩⟩
    refine b3 (xs:=(st.take i).map fun(i:Nat)=>V.int (i:Int)) (fun _=>true) (fun j=> .int (hs.getD ((st.take i).getD j 0) 0)) (SqL.of ae) (by rw[xM,yu];omega) (fun _ _ _ _ _ _ k=>k _ (Same.refl _)) (fun j x hx _ H2 R s2 k=>?_) fun acc H2 s2 nacc hacc=>?_
    ·obtain⟨d,rfl,ed,hdl⟩:=elt H1 j x (Same.refl _) hx
     rw[ed]at k
     exact⟨_,rfl,_,rfl,a,_,_,_,rfl,rfl,((s1.to nc).trans s2).seq ha,bK hdl,k _ (Same.refl _)⟩
    rw[jP]at hacc
    have s12:=(Same.new (o:= .lst ((st.take i).map fun(i:Nat)=>V.int (i:Int))) nc).trans s2
    refine⟨acc,_,rfl,.inl (SqL.of hacc),rfl,dB _,_,rfl,fin acc H2 s12 hacc _ _ (fun h=>?_) fun h=>?_⟩
    ·refine⟨_,rfl,_,_,rfl,rfl,some (.int ((i:Nat):Int)),?_,s1.trans s12⟩
     rw[r1 h];rfl
    ·refine⟨some (.int ((i:Nat):Int)),?_,s1.trans s12⟩
     rw[r2 h];rfl
   ·refine⟨_,rfl,_,rfl,_,rfl,.inr ⟨b,_,_,_,rfl,rfl,Same.seqT s1 hb,aO gi,a,_,_,_,rfl,rfl,s1.seq ha,bK hl,?_⟩⟩
    refine⟨_,rfl,_,rfl,_,rfl,.inr ⟨b,_,rfl,Same.seqT s1 hb,?_,fun c nc=>?_⟩⟩
    ·rintro⟨_,z⟩
     rw[HT.fm,sl]at z
     omega
    rw[ek]
    refine⟨c,rfl,.inr ⟨⟨_,SqT.of ae⟩,?_⟩⟩
    refine fG (xs:=(st.take i).map fun(i:Nat)=>V.int (i:Int)) (fun _=>true) (fun j=> .int (hs.getD ((st.take i).getD j 0) 0)) (SqT.of ae) (by rw[xM,yu];omega) (fun _ _ _ _ _ _ k=>k _ (Same.refl _)) (fun j x hx _ H2 R s2 k=>?_) fun acc H2 s2 nacc hacc=>?_
    ·obtain⟨d,rfl,ed,hdl⟩:=elt H1 j x (Same.refl _) hx
     rw[ed]at k
     exact⟨_,rfl,_,rfl,a,_,_,_,rfl,rfl,((s1.to nc).trans s2).seq ha,bK hdl,k _ (Same.refl _)⟩
    rw[jP]at hacc
    have s12:=(Same.new (o:= .tup ((st.take i).map fun(i:Nat)=>V.int (i:Int))) nc).trans s2
    refine⟨acc,_,rfl,.inl (SqL.of hacc),rfl,dB _,_,rfl,fin acc H2 s12 hacc _ _ (fun h=>?_) fun h=>?_⟩
    ·refine⟨_,rfl,_,_,rfl,rfl,some (.int ((i:Nat):Int)),?_,s1.trans s12⟩
     rw[r1 h];rfl
    ·refine⟨some (.int ((i:Nat):Int)),?_,s1.trans s12⟩
     rw[r2 h];rfl
  ·rintro σ H1 ⟨x,rfl,s1⟩
   rw[y6]
   exact⟨_,rfl,q H1 s1⟩
def cN (K:PySem.W.Frag):Sp:=sp_breaks K
theorem cO:FnScope ["pattern","tie","here","many"] ["pattern","tie"] (ak c8):=⟨rfl,rfl,rfl,by decide +kernel,rfl,by decide +kernel,by decide +kernel⟩
theorem eK (D:Dfs K mg aF dF) (T:Txt mg):FnOk P w K mg base aY 2 (aF 23) (dF 23) ["pattern","tie"] (cN K):=by
 have Glaw_unlike:FnOk P w K mg base aY 1 (aF 22) (dF 22) ["things","steps"] (sp_law_unlike K):=iN D T
 refine D.law_breaks.fn.ok cO (fun vs H Q E h=>?_) (fun cdv A outer s H vs Q E hr h=>?_)
 ·obtain⟨a,tp,t,hs,st,wd,k,rfl,_⟩:=h;rfl
 ·have hu:=aV hr
  obtain⟨a,tp,t,hs,st,wd,k,rfl,ha,htp,ht,hwd,h6,q⟩:=h
  refine aE 3 (ah (aj (bI cQ (ao dA (ao bE (pv 3) (ai (bx K) (by rfl) T.z_len boot_len (aa (aB (i7 K) (pv 1) af (fun _ _=>rfl)) ab))) (ai (bx K) (by rfl) T.z_len boot_len (aa (pv 2) ab))) (aB (i7 K) (pv 1) af (fun _ _=>rfl)) (ax _)))) ?_
  intro Z0 z0
  refine aE 2 (ag (aK (av bM (aB (i7 K) (pv 1) af (fun _ _=>rfl)) ar (ax _))
    (ah (aj (bI mH (pv 3) (aB (i7 K) (pv 1) af (fun _ _=>rfl)) (ax _))))
    aw) z0) ?_
  intro Z0 z0
  refine aE 1 (ag (aC (i:=3) cO.nd rfl (Or.inl rfl) (pc D.law_unlike Glaw_unlike (hr.mono (by decide)) (aa (pv 0) (aa (pv 2) ab)))) z0) ?_
  intro Z0 z0
  refine⟨_,(ag (fz (i₀:=2) cO.nd rfl (Or.inl rfl) ["step","pattern"] [none,some 0] rfl (xb K (aB (i7 K) (pv 1) af (fun _ _=>rfl))) (fun _=>aA (i:=0) (bq (N:=["step","pattern"]) (by decide +kernel)) rfl (Or.inl rfl)) (fun _=>dX (av cQ (pv 0) (ai (bx K) (by rfl) T.z_len boot_len (aa (pv 1) ab)) (ax _))) (fun _=>(pv 0)) ((.cons (fun _ e=>by cases e) (.cons (fun _ e=>by cases e;exact⟨rfl,rfl⟩) .nil)))) z0),?_⟩
  refine⟨_,rfl,tp,_,_,_,rfl,rfl,htp,rfl,t,rfl,⟨_,ht⟩,?_⟩
  refine fG (xs:=st.map fun(i:Nat)=>V.int (i:Int)) (fun j=>decide (st.getD j 0<hs.length)) (fun j=> .int ((st.getD j 0:Nat):Int)) ht (by rw[xM];omega) (fun j x hx H2 R s2 k=>?_) (fun j x hx hp H2 R s2 k=>?_) fun acc H2 s2 nacc hacc=>?_
  ·obtain⟨d,hd,rfl⟩:∃d:Nat,st[j]?=some d/\x=V.int (d:Int):=by
    rw[xR]at hx
    obtain⟨b,h1,h2⟩:=ya.mp hx
    exact⟨b,h1,h2.symm⟩
   have ed:st.getD j 0=d:=by rw[xN,hd];rfl
   rw[ed]at k
   refine⟨_,rfl,_,rfl,_,_,rfl,.inl ⟨_,s2.seq ha,rfl⟩,_,_,rfl,rfl,_,rfl,?_⟩
   have kk:=k H2 (Same.refl _)
   have e:decide (d<hs.length)=decide ((d:Int)<(((hs.map V.int).length:Nat):Int)):=by
    rw[xM]
    by_cases z:d<hs.length
    ·rw [decide_eq_true z,decide_eq_true (by omega)]
    ·rw [decide_eq_false z,decide_eq_false (by omega)]
   rw[e]at kk
   exact kk
  ·obtain⟨d,hd,rfl⟩:∃d:Nat,st[j]?=some d/\x=V.int (d:Int):=by
    rw[xR]at hx
    obtain⟨b,h1,h2⟩:=ya.mp hx
    exact⟨b,h1,h2.symm⟩
   have ed:st.getD j 0=d:=by rw[xN,hd];rfl
   rw[ed]at k
   exact⟨_,rfl,k _ (Same.refl _)⟩
  rw[xM,vv (g:=fun i=>decide (i<hs.length)) (F:=fun(i:Nat)=>V.int (i:Int))]at hacc
  have fl:(st.filter fun i=>decide (i<hs.length)).length<=st.length:=yy ..
  refine⟨_,rfl,_,rfl,a,acc,hs,st.filter fun i=>decide (i<hs.length),rfl,s2.seq ha,.inl (SqL.of hacc),(fun i hi=>of_decide_eq_true (yn.mp hi).2),by omega,fun H3 s23=>?_⟩
  have s3:=s2.trans s23
  have hacc3:=s23 _ _ hacc
  have q3:=q H3 s3
  refine⟨_,rfl,tp,_,_,_,rfl,rfl,Same.seqT s3 htp,rfl,rfl,_,rfl,?_⟩
  unfold brk at q3
  rcases hwd with e | e<;>subst e
  ·refine bh ?_
   rw[if_pos rfl]at q3
   exact⟨_,rfl,_,rfl,tp,_,_,_,rfl,rfl,Same.seqT s3 htp,rfl,_,_,rfl,rfl,q3⟩
  ·rw [decide_eq_false (by decide)]
   refine aW ?_
   rw[if_neg (by decide)]at q3
   refine⟨_,rfl,_,rfl,tp,_,_,_,rfl,rfl,Same.seqT s3 htp,rfl,_,_,rfl,.inr ⟨_,Same.seqT s3 ht,rfl⟩,_,_,rfl,rfl,_,rfl,_,_,rfl,.inl ⟨_,SqL.of hacc3,rfl⟩,_,_,rfl,rfl,_,rfl,tp,_,_,_,rfl,rfl,Same.seqT s3 htp,rfl,_,_,rfl,rfl,?_⟩
   rw[xM,xM]
   exact q3
inductive sp_law_in_all (K:PySem.W.Frag) (vs:List V) (H:Hp) (Q:VK) (E:XK):Prop where
 | mk (b:Int) (ma sa:Addr) (rs:List Addr) (may:List (List Int)) (U:List Int) (st:List Nat) (_:vs=[.int b,.ref ma,.ref sa]) (_:May K H ma rs may U) (_:SqL K H sa (st.map fun(i:Nat)=>V.int (i:Int))) (_:(∀s∈st,s<may.length)) (_:∀H',Same H H'->Q (.bl (st.all fun s=>decide (b∈may.getD s []))) H')
theorem eL:FnScope ["badge","lists","steps","step"] ["badge","lists","steps"] (ak c9):=⟨rfl,rfl,rfl,by decide +kernel,rfl,by decide +kernel,by decide +kernel⟩
theorem iO (D:Dfs K mg aF dF) (T:Txt mg):FnOk P w K mg base aY 1 (aF 24) (dF 24) ["badge","lists","steps"] (sp_law_in_all K):=by
 refine D.law_in_all.fn.ok eL (fun vs H Q E h=>?_) (fun cdv A outer s H vs Q E hr h=>?_)
 ·obtain⟨b,ma,sa,rs,may,U,st,rfl,_⟩:=h;rfl
 ·have hu:=aV hr
  obtain⟨b,ma,sa,rs,may,U,st,rfl,hm,hs,lt,q⟩:=h
  refine⟨_,(ag (bX PassesOwn.never rfl (pM K (pv 2)) (aA (i:=3) eL.nd rfl (Or.inl rfl))
    (ah (aK (av (ud K) (pv 0) (aB (cP K) (pv 1) (pv 3) (fun _ _=>rfl)) (by with_unfolding_all rfl))
     (ah (aj bS))
     aw)))
   (ah (aj bS))),?_⟩
  refine⟨_,rfl,sa,rfl,⟨_,hs⟩,?_⟩
  refine dz (K:=K) (a:=sa) (xs:=st.map fun(i:Nat)=>V.int (i:Int)) (fun i σ H1=>∃x:Option V,σ=[some (.int b),some (.ref ma),some (.ref sa),x]/\Same H H1/\∀s∈st.take i,b∈may.getD s []) ⟨none,rfl,Same.refl _,fun s z=>by cases z⟩ (fun i σ H1 _ hq__=>by obtain⟨_,_,s,_⟩:=hq__;exact s.seq hs) ?_ ?_
  ·rintro i y σ H1 hi ⟨x,rfl,s1,al⟩
   obtain⟨d,hd,rfl,_⟩:=eR hi
   have hm1:=hm.same s1
   obtain⟨r,hr,hq,_,_⟩:=hm1.rows (lt d (xT hd))
   refine⟨_,rfl,_,rfl,_,rfl,ma,_,_,_,rfl,rfl,hm1.ls,aO (by rw[xR,hr];rfl),r,_,rfl,.inl hq,rfl,dB _,_,rfl,?_⟩
   rw[if_pos rfl,gL]
   refine eF (fun hn=>?_) fun hin=>?_
   ·have e:(st.all fun s=>decide (b∈may.getD s []))=false:=by
     rw[Bool.eq_false_iff]
     intro z
     have:=of_decide_eq_true (x6.mp z d (xT hd))
     exact of_decide_eq_false hn this
    have qq:=q H1 s1
    rw[e]at qq
    exact qq
   ·refine⟨_,rfl,s1,fun s hs'=>?_⟩
    rw[yY,hd]at hs'
    rcases ye.mp hs' with z | z
    ·exact al s z
    ·rw [xX.mp z];exact of_decide_eq_true hin
  ·rintro σ H1 ⟨x,rfl,s1,al⟩
   rw[xM,y6]at al
   have e:(st.all fun s=>decide (b∈may.getD s []))=true:=x6.mpr fun s hs'=>decide_eq_true (al s hs')
   have qq:=q H1 s1
   rw[e]at qq
   exact qq
inductive sp_law_pool (K:PySem.W.Frag) (vs:List V) (H:Hp) (Q:VK) (E:XK):Prop where
 | mk (b:Nat) (pa ma:Addr) (p:List Int) (rs:List Addr) (may:List (List Int)) (U:List Int) (_:vs=[.ref pa,.ref ma,.int ((b:Nat):Int)]) (_:SqL K H pa (p.map V.int)) (_:May K H ma rs may U) (_:bO p) (_:b<(dd p).length) (_:p.length<=may.length) (_:∀l H',Same H H'->H l=none->H' l=some (.lst ((bT may p b).map V.int))->Q (.ref l) H')
theorem gB:FnScope ["pattern","lists","block","steps"] ["pattern","lists","block"] (ak fg):=⟨rfl,rfl,rfl,by decide +kernel,rfl,by decide +kernel,by decide +kernel⟩
theorem ly (D:Dfs K mg aF dF) (T:Txt mg):FnOk P w K mg base aY 2 (aF 25) (dF 25) ["pattern","lists","block"] (sp_law_pool K):=by
 have Glaw_in_all:FnOk P w K mg base aY 1 (aF 24) (dF 24) ["badge","lists","steps"] (sp_law_in_all K):=iO D T
 refine D.law_pool.fn.ok gB (fun vs H Q E h=>?_) (fun cdv A outer s H vs Q E hr h=>?_)
 ·obtain⟨b,pa,ma,p,rs,may,U,rfl,_⟩:=h;rfl
 ·have hu:=aV hr
  obtain⟨b,pa,ma,p,rs,may,U,rfl,hp,hm,c,hb,hl,q⟩:=h
  refine⟨_,(ag (aC (i:=3) gB.nd rfl (Or.inr rfl) (bb ["k","pattern","block"] [none,some 0,some 2] rfl (aU rfl T.z_range (aa (ai (bx K) (by rfl) T.z_len boot_len (aa (pv 0) ab)) ab)) (fun _=>aA (i:=0) (bq (N:=["k","pattern","block"]) (by decide +kernel)) rfl (Or.inl rfl)) (fun _=>dX (av bM (aB (cP K) (pv 1) (pv 0) (fun _ _=>rfl)) (pv 2) (ax _))) (fun _=>(pv 0)) ((.cons (fun _ e=>by cases e) (.cons (fun _ e=>by cases e;exact⟨rfl,rfl⟩) (.cons (fun _ e=>by cases e;exact⟨rfl,rfl⟩) .nil))))))
   (ah (aj (bb ["badge","lists","steps"] [none,some 1,some 3] rfl (pM K (aB (cP K) (pv 1) (aB (cP K) (pv 3) af (fun _ _=>rfl)) (fun _ _=>rfl))) (fun _=>aA (i:=0) (bq (N:=["badge","lists","steps"]) (by decide +kernel)) rfl (Or.inl rfl)) (fun _=>dX (bg (pc D.law_in_all Glaw_in_all (hr.mono (by decide)) (aa (pv 0) (aa (pv 1) (aa (pv 2) ab)))))) (fun _=>(pv 0)) ((.cons (fun _ e=>by cases e) (.cons (fun _ e=>by cases e;exact⟨rfl,rfl⟩) (.cons (fun _ e=>by cases e;exact⟨rfl,rfl⟩) .nil)))))))),?_⟩
  have m6:=hm.m6
  refine⟨_,rfl,_,_,rfl,.inl ⟨_,hp,rfl⟩,_,rfl,fI _,by rw[xM];omega,?_⟩
  have e0:(((p.map V.int).length:Nat):Int).toNat=p.length:=by rw[xM];omega
  rw[e0]
  refine gc (n:=p.length) (fun i=>decide (p.getD i 0=(b:Int))) (by omega) (fun i hi H3 R s3 k=>?_) (fun i hi H3 R k=>?_) fun sl H3 s3 nsl hsl=>?_
  ·have ei:(0:Int)+(i:Int)=((i:Nat):Int):=by omega
   rw[ei]
   have kk:=k H3 (Same.refl _)
   rw[kU]at kk
   exact⟨_,rfl,_,rfl,pa,_,_,_,rfl,rfl,s3.seq hp,bK hi,_,rfl,rfl,_,rfl,kk⟩
  ·have ei:(0:Int)+(i:Int)=((i:Nat):Int):=by omega
   rw[ei]
   exact⟨_,rfl,k⟩
  have sne:eD p b≠[]:=jQ c hb
  have slt:∀i∈eD p b,i<may.length:=fun i hi=>by have:=(cS.mp hi).1;omega
  have hsl:H3 sl=some (.lst ((eD p b).map fun(i:Nat)=>V.int (i:Int))):=hsl
  have q2:∀l H',Same H3 H'->H3 l=none->H' l=some (.lst ((cI (eD p b) may).map V.int))->Q (.ref l) H':=fun l H' s n e=>q l H' (s3.trans s) (s3.free n) e
  have hm3:=hm.same s3
  clear q
  generalize eD p b=st at hsl sne slt q2
  obtain⟨s0,sr,rfl⟩:=List.exists_cons_of_ne_nil sne
  obtain⟨r0,hr0,hq0,up0,sub0⟩:=hm3.rows (slt s0 (by simp))
  refine⟨_,rfl,_,rfl,sl,_,_,_,rfl,rfl,SqL.of hsl,aO (j:=0) (v:=V.int (s0:Int)) rfl,ma,_,_,_,rfl,rfl,hm3.ls,aO (by rw[xR,hr0];rfl),r0,rfl,⟨_,hq0⟩,?_⟩
  have r26:(may.getD s0 []).length<=26:=yd ((kX up0).length_le_of_subset sub0) hm.u20
  refine b3 (xs:=(may.getD s0 []).map V.int) (fun j=>(s0 :: sr).all fun s=>decide ((may.getD s0 []).getD j 0∈may.getD s [])) (fun j=> .int ((may.getD s0 []).getD j 0)) hq0 (by rw[xM];omega) (fun j x hx H2 R s2 k=>?_) (fun j x hx _ H2 R s2 k=>?_) fun acc H2 s2 nacc hacc=>?_
  ·obtain⟨d,hd,rfl,ed⟩:=gh hx
   rw[ed]at k
   exact⟨_,rfl,_,rfl,_,rfl,d,ma,sl,rs,may,U,s0 :: sr,rfl,hm3.same s2,SqL.of (s2 _ _ hsl),slt,fun H4 s4=>⟨_,rfl,k H4 s4⟩⟩
  ·obtain⟨d,hd,rfl,ed⟩:=gh hx
   rw[ed]at k
   exact⟨_,rfl,k _ (Same.refl _)⟩
  ·refine q2 acc H2 s2 nacc ?_
   rw[hacc,xM,vA (g:=fun x=>(s0 :: sr).all fun s=>decide (x∈may.getD s []))]
   rfl
theorem uL (l r:List Int):dd (l++r)=r.foldl bF (dd l):=by unfold dd;rw[List.foldl_append]
theorem wY {c:Prop} [Decidable c] {A B R S:Prop} (h1:c->(S->R)->A) (h2:¬c->(S->R)->B) (r:S->R):if decide c=true then A else B:=qY (fun h=>h1 h r) fun h=>h2 h r
inductive sp_law_short (K:PySem.W.Frag) (vs:List V) (H:Hp) (Q:VK) (E:XK):Prop where
 | mk (pa ma:Addr) (v:V) (p:List Int) (rs:List Addr) (may:List (List Int)) (U:List Int) (r:Th) (_:vs=[.ref pa,.ref ma,v]) (_:SqL K H pa (p.map V.int)) (_:May K H ma rs may U) (_:bO p) (_:p.length<=may.length) (_:ThAt H v r) (_:TBnd r) (_:∀H',Same H H'->Q (.bl (eW may p r)) H')
theorem cw:FnScope ["pattern","lists","blocks","some","k","badge"] ["pattern","lists","blocks"] (ak dO):=⟨rfl,rfl,rfl,by decide +kernel,rfl,by decide +kernel,by decide +kernel⟩
theorem fO (D:Dfs K mg aF dF) (T:Txt mg):FnOk P w K mg base aY 3 (aF 26) (dF 26) ["pattern","lists","blocks"] (sp_law_short K):=by
 have Glaw_whole:FnOk P w K mg base aY 1 (aF 18) (dF 18) ["found"] (sp_law_whole K):=fN D T
 have Glaw_pool:FnOk P w K mg base aY 2 (aF 25) (dF 25) ["pattern","lists","block"] (sp_law_pool K):=ly D T
 refine D.law_short.fn.ok cw (fun vs H Q E h=>?_) (fun cdv A outer s H vs Q E hr h=>?_)
 ·obtain⟨pa,ma,v,p,rs,may,U,r,rfl,_⟩:=h;rfl
 ·have hu:=aV hr
  obtain⟨pa,ma,v,p,rs,may,U,r,rfl,hp,hm,c,hl,ht,tb,q⟩:=h
  refine aE 3 (ah (aj (bI cQ (ai nV (by rfl) T.z_len boot_len (aa (pv 3) ab)) (ai (bx K) (by rfl) T.z_len boot_len (aa (pv 2) ab)) (ax _)))) ?_
  intro Z0 z0
  refine aE 2 (ag (bX PassesOwn.never rfl (aU rfl T.z_range (aa (ai (bx K) (by rfl) T.z_len boot_len (aa (pv 2) ab)) ab)) (aA (i:=4) cw.nd rfl (Or.inl rfl))
    (ag (aK (PW.pt (fk (cA (bg (pc D.law_whole Glaw_whole (hr.mono (by decide)) (aa (aB (cP K) (pv 2) (pv 4) (fun _ _=>rfl)) ab)))) (dy (av (ud K) (aB (cP K) (pv 2) (pv 4) (fun _ _=>rfl)) (pv 0) (by with_unfolding_all rfl)))))
     (ah (aj bS))
     aw)
    (ag (aK (PW.pt (jw (av mH (pv 4) af (ax _)) (gF (av mG (aB (cP K) (pv 2) (pv 4) (fun _ _=>rfl)) (aB (cP K) (pv 2) (ao dA (pv 4) af) (fun _ _=>rfl)) (ax _)))))
     (ah (aj bS))
     aw)
    (ah (bX PassesOwn.never rfl (pM K (pc D.law_pool Glaw_pool (hr.mono (by decide)) (aa (pv 0) (aa (pv 1) (aa (aB (cP K) (pv 2) (pv 4) (fun _ _=>rfl)) ab))))) (aA (i:=5) cw.nd rfl (Or.inl rfl))
     (ah (rD hu (pv 3) (pv 5) bS rfl))))))) z0) ?_
  intro Z0 z0
  refine aE 1 (ag (aC (i:=3) cw.nd rfl (Or.inl rfl) pF) z0) ?_
  intro Z0 z0
  refine⟨_,(ag (aK (cA (bg (ai (fA K) (by rfl) T.z_isinstance boot_isinstance (aa (pv 2) (aa (cY T.z_list) ab)))))
    (ah (aj bS))
    aw) z0),?_⟩
  have m6:=hm.m6
  have dl:=bZ p
  have u26:=hm.u20
  cases ht with
  | non=>exact⟨_,rfl,_,_,_,false,rfl,.non,rfl,_,rfl,bh (q H (Same.refl _))⟩
  | bl=>exact⟨_,rfl,_,_,_,false,rfl,.bl _,rfl,_,rfl,bh (q H (Same.refl _))⟩
  | int=>exact⟨_,rfl,_,_,_,false,rfl,.int _,rfl,_,rfl,bh (q H (Same.refl _))⟩
  | str=>exact⟨_,rfl,_,_,_,false,rfl,.str _,rfl,_,rfl,bh (q H (Same.refl _))⟩
  | tup hl hn h=>exact⟨_,rfl,_,_,_,false,rfl,.tup hl,rfl,_,rfl,bh (q H (Same.refl _))⟩
  | @lst ba us ts hba hn hat=>
  have tl:ts.length<=1000:=by cases tb;assumption
  have q:∀H',Same H H'->Q (.bl (ts.all Th.isInt&&b4 may p (ts.map Th.num))) H':=q
  obtain⟨bs,ebs⟩:∃bs,ts.map Th.num=bs:=⟨_,rfl⟩
  rw[ebs]at q
  have bl:bs.length=us.length:=by rw[<- ebs,xM,hn]
  refine⟨_,rfl,_,_,_,true,rfl,.lst hba,rfl,_,rfl,aW ?_⟩
  intro so nso
  have s1:=Same.new (o:= .dK []) nso
  refine⟨_,rfl,_,_,rfl,.inl ⟨_,SqL.of (s1 _ _ hba),rfl⟩,_,rfl,fI _,by omega,?_⟩
  rw[yi]
  have psub:∀b:Nat,b<(dd p).length->∀x∈bT may p b,x∈U:=fun b hb=>jq c hl hm.sub (bT may p b) (xT (dD hb))
  refine bH (n:=us.length) (fun i σ H1=>∃(x y:Option V),σ=[some (.ref pa),some (.ref ma),some (.ref ba),some (.ref so),x,y]/\Same H H1/\H1 so=some (.dK (c0 (dd (be may p (bs.take i)))))/\(∀b∈bs.take i,b∈p)/\(bs.take i).Pairwise (· < ·)/\∀j,j<i->us[j]?=some (.int (bs.getD j 0))/\(ts.getD j .non).isInt=true) ⟨none,none,rfl,s1,ae,(fun _ z=>by cases z),.nil,fun j z=>absurd z (Nat.not_lt_zero j)⟩ ?_ ?_
  ·rintro i σ H1 hi ⟨x,y,rfl,s01,hso,inn,up,inz⟩
   have ei:(0:Int)+(i:Int)=((i:Nat):Int):=by omega
   rw[ei]
   have hm1:=hm.same s01
   have hb1:=s01 _ _ hba
   have hib:i<bs.length:=by omega
   have hit:i<ts.length:=by omega
   have hu:us[i]?=some us[i]:=xK hi
   have ht':ts[i]?=some ts[i]:=xK hit
   have hbi:bs[i]?=some (bs.getD i 0):=by rw[xN,xK hib];rfl
   have et:bs.take (i+1)=bs.take i++[bs.getD i 0]:=by rw[yY,hbi];rfl
   have eg:ts.getD i .non=ts[i]:=by rw[xN,ht'];rfl
   have eb0:bs.getD i 0=ts[i].num:=by rw[<- ebs,xN,xR,ht'];rfl
   have at':=hat i _ _ hu ht'
   refine⟨_,rfl,_,rfl,ba,_,_,_,rfl,rfl,SqL.of hb1,aO hu,us[i],ts[i],rfl,at'.same s01,_,rfl,eF (fun h0=>?_) fun h0=>?_⟩
   ·have e:ts.all Th.isInt=false:=by
     rw[List.all_eq_false]
     exact⟨ts[i],yh hit,by rw[h0];exact xW⟩
    have qq:=q H1 s01
    rw[e,yg]at qq
    exact qq
   have hui:us[i]?=some (.int (bs.getD i 0)):=by rw[hu,sv at' h0,eb0]
   refine⟨_,rfl,_,rfl,ba,_,_,_,rfl,rfl,SqL.of hb1,aO hui,_,rfl,pa,_,rfl,.inl (s01.seq hp),rfl,dB _,_,rfl,?_⟩
   rw[if_pos rfl,gL]
   refine eF (fun h1=>?_) fun h1=>?_
   ·have e:b4 may p bs=false:=by
     cases z:b4 may p bs with
     | false=>rfl
     | true=>
      unfold b4 at z
      rw[yw,yw]at z
      have w:=of_decide_eq_true (x6.mp z.1.2 _ (xT hbi))
      refine absurd ?_ (of_decide_eq_false h1)
      have:=ez c (j:=(bs.getD i 0).toNat) (by omega)
      rw[show(((bs.getD i 0).toNat:Nat):Int)=bs.getD i 0 by omega]at this
      exact this
    have qq:=q H1 s01
    rw[e,Bool.and_false]at qq
    exact qq
   have hin:=of_decide_eq_true h1
   obtain⟨b,eb,hb⟩:=ee c hin
   refine⟨_,rfl,_,_,rfl,rfl,_,rfl,wY (S:=∀y∈bs.take i,y<bs.getD i 0) (fun pos k=>?_) (fun npos k=>aW (k ?_)) fun hup=>?_⟩
   ·have e1:(i:Int)-1=((i-1:Nat):Int):=by omega
    have i1:i-1<bs.length:=by omega
    have hu1:=(inz (i-1) (by omega)).1
    refine⟨_,rfl,_,rfl,ba,_,_,_,rfl,rfl,SqL.of hb1,aO hui,_,rfl,_,rfl,_,_,rfl,rfl,ba,_,_,_,rfl,rfl,SqL.of hb1,(by(try dsimp only);rw[e1];exact aO hu1),_,_,rfl,rfl,_,rfl,qY (fun le=>?_) fun nle=>k ?_⟩
    ·have e:b4 may p bs=false:=by
      cases z:b4 may p bs with
      | false=>rfl
      | true=>
       unfold b4 at z
       rw[yw,yw]at z
       have:=yM.mp (k5.mp z.1.1) (i-1) i i1 hib (by omega)
       rw[aL i1,aL hib]at le
       omega
     have qq:=q H1 s01
     rw[e,Bool.and_false]at qq
     exact qq
    ·intro y hy
     have hl1:bs.getD (i-1) 0∈bs.take i:=by
      rw[aL i1]
      exact List.mem_take_iff_getElem.mpr ⟨i-1,by omega,rfl⟩
     obtain⟨j,hj,ej⟩:=List.mem_take_iff_getElem.mp hy
     by_cases z:j=i-1
     ·subst z
      rw[<- ej,<- aL i1]
      omega
     ·have h2:=yM.mp up j (i-1) (by rw[yu];omega) (by rw[yu];omega) (by omega)
      rw[zj,zj,ej,<- aL i1]at h2
      omega
   ·intro y hy
    have:i=0:=by omega
    subst this
    cases hy
   refine⟨_,rfl,_,rfl,_,rfl,_,rfl,ba,_,_,_,rfl,rfl,SqL.of hb1,aO hui,b,pa,ma,p,rs,may,U,(by rw[eb];rfl),s01.seq hp,hm1,c,hb,hl,fun po H2 s2 npo hpo=>⟨po,rfl,⟨_,SqL.of hpo⟩,?_⟩⟩
   have hso2:=s2 _ _ hso
   have npso:po≠so:=fun z=>by rw[z,hso]at npo;cases npo
   have nd0:=jg (be may p (bs.take i))
   have pUsub:∀z∈dd (be may p (bs.take i)),z∈U:=fun z hz=>by
    obtain⟨b',hb',hz'⟩:=List.mem_flatMap.mp (br.mp hz)
    obtain⟨j,ej,hj⟩:=ee c (inn b' hb')
    rw[ej,yi]at hz'
    exact psub j hj z hz'
   refine dz (K:=K) (a:=po) (xs:=(bT may p b).map V.int) (fun j σ H3=>∃(y:Option V),σ=[some (.ref pa),some (.ref ma),some (.ref ba),some (.ref so),some (.int ((i:Nat):Int)),y]/\SameBut so H2 H3/\H3 so=some (.dK (c0 (((bT may p b).take j).foldl bF (dd (be may p (bs.take i))))))) ⟨_,rfl,fun _ _ _ h=>h,hso2⟩ (fun j σ H3 _ hq__=>by obtain⟨_,_,sb,_⟩:=hq__;exact SqL.of (sb _ _ npso hpo)) ?_ ?_
   ·rintro j y σ H3 hj ⟨y',rfl,sb,hso3⟩
    obtain⟨d,hd,rfl,_⟩:=gh hj
    have al:(((bT may p b).take j).foldl bF (dd (be may p (bs.take i)))).length<=U.length:=by
     refine(jI _ _ nd0).length_le_of_subset fun z hz=>?_
     rcases(ij _ _ _).mp hz with z1 | z1
     ·exact pUsub z z1
     ·exact psub b hb z (zt z1)
    refine⟨_,rfl,_,rfl,so,_,rfl,DPut.k (k:=Sum.inl d) hso3 (oS (by unfold c0;rw[xM];omega)),?_⟩
    rw[r8]
    have et2:(bT may p b).take (j+1)=(bT may p b).take j++[d]:=by rw[yY,hd];rfl
    refine⟨_,rfl,fun b o nb e=>by rw[ay nb];exact sb _ _ nb e,?_⟩
    rw[ae,et2,List.foldl_append];rfl
   ·rintro σ H3 ⟨y',rfl,sb,hso3⟩
    rw[xM,y6]at hso3
    refine⟨_,_,rfl,fun b o e=>sb _ _ (fun z=>by rw[z,nso]at e;cases e) ((s01.trans s2) _ _ e),?_,fun z hz=>?_,?_,fun j hj=>?_⟩
    ·rw [hso3,et]
     have:be may p (bs.take i++[bs.getD i 0])=be may p (bs.take i)++bT may p b:=by
      unfold be
      rw[List.flatMap_append,List.flatMap_singleton,eb,yi]
     rw[this,uL]
    ·rw [et]at hz
     rcases ye.mp hz with y1 | y1
     ·exact inn z y1
     ·rw [xX.mp y1];exact hin
    ·rw [et]
     exact List.pairwise_append.mpr ⟨up,zi ..,fun a ha b' hb'=>by rw[xX.mp hb'];exact hup a ha⟩
    ·by_cases z:j=i
     ·subst z;exact⟨hui,by rw[eg];exact h0⟩
     ·exact inz j (by omega)
  ·rintro σ H1 ⟨x,y,rfl,s01,hso,inn,up,inz⟩
   rw[yt (by omega)]at hso inn up
   have el:(c0 (dd (be may p bs))).length=(dd (be may p bs)).length:=by unfold c0;rw[xM]
   refine⟨_,rfl,so,_,rfl,hso,_,rfl,_,_,rfl,.inl ⟨_,SqL.of (s01 _ _ hba),rfl⟩,_,_,rfl,rfl,?_⟩
   have e:decide (((c0 (dd (be may p bs))).length:Int)<((us.length:Nat):Int))=b4 may p bs:=by
    unfold b4
    rw[k5.mpr up,show sW p bs=true from x6.mpr fun b hb=>by
     obtain⟨j,ej,hj⟩:=ee c (inn b hb)
     exact decide_eq_true (by omega),Bool.true_and,Bool.true_and,el]
    by_cases z:(dd (be may p bs)).length<bs.length
    ·rw [decide_eq_true z,decide_eq_true (by omega)]
    ·rw [decide_eq_false z,decide_eq_false (by omega)]
   have ea:ts.all Th.isInt=true:=x6.mpr fun t ht=>by
    obtain⟨j,hj,rfl⟩:=xZ.mp ht
    have:=(inz j (by omega)).2
    rw[xN,xK hj]at this
    exact this
   rw[ea,Bool.true_and]at q
   show Q (V.bl (decide (((c0 (dd (be may p bs))).length:Int)<((us.length:Nat):Int)))) H1
   rw[e]
   exact q H1 s01
theorem oO {may:List (List Int)} {ts:List rZ} {m:Nat} {p:List Int} {r:Th} (h:r.isLst=false):eX may ts m p r=false:=by
 unfold eX;rw[h,yg,Bool.and_false,yg]
inductive spN_law_shows (K:PySem.W.Frag) (m:Nat) (vs:List V) (H:Hp) (Q:VK) (E:XK):Prop where
 | mk (pa ma ta:Addr) (v:V) (p:List Int) (rs:List Addr) (may:List (List Int)) (U:List Int) (ts:List (Addr×Addr×Str×Int×List Nat)) (t:Th) (_:vs=[.ref pa,.ref ma,.ref ta,v]) (_:H pa=some (.lst (p.map V.int))) (_:May K H ma rs may U) (_:Ties K H ta ts 100) (_:bO p) (_:p.length<=may.length) (_:may.length<p.length+m) (_:ThAt H v t) (_:TBnd t) (_:∀H',Same H H'->Q (.bl (bU may (ts.map bD) m p t)) H')
def fP (K:PySem.W.Frag):Sp:=spN_law_shows K 7
theorem cx:FnScope ["pattern","lists","ties","paper","rest","wide","k"] ["pattern","lists","ties","paper"] (ak dP):=⟨rfl,rfl,rfl,by decide +kernel,rfl,by decide +kernel,by decide +kernel⟩
theorem j8 (D:Dfs K mg aF dF) (T:Txt mg):FnOk P w K mg base aY 17 (aF 27) (dF 27) ["pattern","lists","ties","paper"] (fP K):=by
 have Glaw_whole:FnOk P w K mg base aY 1 (aF 18) (dF 18) ["found"] (sp_law_whole K):=fN D T
 have Glaw_breaks:FnOk P w K mg base aY 2 (aF 23) (dF 23) ["pattern","tie"] (cN K):=eK D T
 have Glaw_short:FnOk P w K mg base aY 3 (aF 26) (dF 26) ["pattern","lists","blocks"] (sp_law_short K):=fO D T
 have all:∀n,FnOk P w K mg base aY (10+n) (aF 27) (dF 27) ["pattern","lists","ties","paper"] (spN_law_shows K n):=by
  intro n
  induction n with
  | zero=>
   have no:∀vs H Q E,¬spN_law_shows K 0 vs H Q E:=fun vs H Q E h=>by
    obtain⟨pa,ma,ta,v,p,rs,may,U,ts,t,_,_,_,_,_,h1,h2,_⟩:=h
    omega
   exact⟨fun vs H Q E h=>absurd h (no vs H Q E),fun A outer s H args us vs Q E _ _ _ _ h=>absurd h (no vs H Q E)⟩
  | succ n Glaw_shows=>
   refine D.law_shows.fn.ok cx (fun vs H Q E h=>?_) (fun cdv A outer s H vs Q E hr h=>?_)
   ·obtain⟨pa,ma,ta,v,p,rs,may,U,ts,t,rfl,_⟩:=h;rfl
   obtain⟨pa,ma,ta,v,p,rs,may,U,ts,t,rfl,hpa,hm,tt,c,hl,hlm,ht,tb,q⟩:=h
   have rk:Nat.add 10 n=10+n:=rfl
   refine aE 7 (ah (aj bS)) ?_
   intro Z0 z0
   refine aE 6 (ag (bX PassesOwn.never rfl (aU rfl T.z_range (aa (ao bE (pv 5) af) ab)) (aA (i:=6) cx.nd rfl (Or.inl rfl))
    (ah (aK (PW.pt (fk (av bM (ai (bx K) (by rfl) T.z_len boot_len (aa (pv 0) ab)) (ai (bx K) (by rfl) T.z_len boot_len (aa (pv 1) ab)) (ax _)) (dy (cA (bg (pc D.law_shows Glaw_shows hr (aa (ao cW (pv 0) (aq (aa (pv 6) ab))) (aa (pv 1) (aa (pv 2) (aa (aB (cP K) (pv 4) (pv 6) (fun _ _=>rfl)) ab))))))))))
     (ah (aj bS))
     aw))) z0) ?_
   intro Z0 z0
   refine aE 5 (ag (aK (PW.pt (fk (av (xH K hr.units) (aB (i7 K) (pv 3) af (fun _ _=>rfl)) ar (ax _)) (fk (cA (bg (ai (fA K) (by rfl) T.z_isinstance boot_isinstance (aa (pv 4) (aa (cY T.z_list) ab))))) (dy (av mF (ai (bx K) (by rfl) T.z_len boot_len (aa (pv 4) ab)) (ao bE (pv 5) af) (ax _))))))
    (ah (aj bS))
    aw) z0) ?_
   intro Z0 z0
   refine aE 4 (ag (aC (i:=5) cx.nd rfl (Or.inl rfl) (ai (kM w) (by rfl) T.z_len boot_len (aa (aJ (iL w K) (by rfl) T.z_set PyProof.Rows.boot_set (aa (pv 0) ab)) ab))) z0) ?_
   intro Z0 z0
   refine aE 3 (ag (aK (av (eqT K hr.units) (aB (i7 K) (pv 3) af (fun _ _=>rfl)) ar (ax _))
    (ah (aj (pc D.law_short Glaw_short (hr.mono (by have:=rk;omega)) (aa (pv 0) (aa (pv 1) (aa (pv 4) ab))))))
    aw) z0) ?_
   intro Z0 z0
   refine aE 2 (ag (aK (av (eqT K hr.units) (aB (i7 K) (pv 3) af (fun _ _=>rfl)) ar (ax _))
    (ah (aj (cU (pc D.law_whole Glaw_whole (hr.mono (by have:=rk;omega)) (aa (pv 4) ab)) (cU (gT mG cQ af (pv 4) (ai (bx K) (by rfl) T.z_len boot_len (aa (pv 2) ab))) (fS (pc D.law_breaks Glaw_breaks (hr.mono (by have:=rk;omega)) (aa (pv 0) (aa (aB (cP K) (pv 2) (pv 4) (fun _ _=>rfl)) ab))))))))
    aw) z0) ?_
   intro Z0 z0
   refine aE 1 (ag (aC (i:=4) cx.nd rfl (Or.inl rfl) (aB (i7 K) (pv 3) af (fun _ _=>rfl))) z0) ?_
   intro Z0 z0
   refine⟨_,(ag (aK (PW.pt (fk (cA (bg (ai (fA K) (by rfl) T.z_isinstance boot_isinstance (aa (pv 3) (aa (kD T.z_tuple) ab))))) (dy (av mF (ai (bx K) (by rfl) T.z_len boot_len (aa (pv 3) ab)) af (ax _)))))
    (ah (aj bS))
    aw) z0),?_⟩
   have m6:=hm.m6
   have dl:=bZ p
   cases ht with
   | non=>exact⟨_,rfl,_,_,_,false,rfl,.non,rfl,_,rfl,bh (q H (Same.refl _))⟩
   | bl=>exact⟨_,rfl,_,_,_,false,rfl,.bl _,rfl,_,rfl,bh (q H (Same.refl _))⟩
   | int=>exact⟨_,rfl,_,_,_,false,rfl,.int _,rfl,_,rfl,bh (q H (Same.refl _))⟩
   | str=>exact⟨_,rfl,_,_,_,false,rfl,.str _,rfl,_,rfl,bh (q H (Same.refl _))⟩
   | lst hl _ _=>exact⟨_,rfl,_,_,_,false,rfl,.lst hl,rfl,_,rfl,bh (q H (Same.refl _))⟩
   | @tup tp us us' ht hn hat=>
    have gb:∀t∈us',TBnd t:=by cases tb;assumption
    refine⟨_,rfl,_,_,_,true,rfl,.tup ht,rfl,_,rfl,aW ?_⟩
    refine⟨_,rfl,_,_,rfl,.inr ⟨_,SqT.of ht,rfl⟩,rfl,_,rfl,uf (fun h2=>?_) fun h2=>?_⟩
    ·have e:bU may (ts.map bD) (n+1) p (.tup us')=false:=by
      unfold bU
      rw[decide_eq_false (show ¬(Th.tup us').parts.length=2 from fun z=>h2 (by rw[hn];exact congrArg _ z)),yg,Bool.and_false]
     rw[e]at q
     exact q H (Same.refl _)
    obtain⟨w0,r0,rfl⟩:=mj (show us.length=2 by omega)
    obtain⟨wt,rt,rfl⟩:=mj (hn.symm.trans (show [w0,r0].length=2 from rfl))
    have hw:=hat 0 w0 wt rfl rfl
    have hr0:=hat 1 r0 rt rfl rfl
    have tb:=gb rt (.tail _ (.head _))
    rw[show bU may (ts.map bD) (n+1) p (.tup [wt,rt])=if wt.isStr "tie" then oC (ts.map bD) p rt else if wt.isStr "short" then eW may p rt else if wt.isStr "split" then eX may (ts.map bD) n p rt else false from rfl]at q
    refine⟨_,rfl,tp,_,_,_,rfl,rfl,SqT.of ht,rfl,?_⟩
    obtain⟨e1,e2⟩:=hw.eqT (K:=K) "tie"
    refine⟨_,rfl,tp,_,_,_,rfl,rfl,SqT.of ht,rfl,⟨_,rfl⟩,e1,_,rfl,?_⟩
    rw[e2]
    refine pO (fun h=>?_) fun h=>?_
    ·rw [if_pos h]at q
     refine⟨_,rfl,r0,rt,rfl,hr0,_,rfl,?_⟩
     unfold oC at q
     rw[xM]at q
     cases hr0 with
     | @int j=>
      change ∀H',Same H H'->Q (.bl (decide (0<=j)&&(decide (j<(ts.length:Int))&&(((ts.map bD)[j.toNat]?).elim false fun t=>brk (fun i=>p.getD i 0) p.length t.1 t.2.1 t.2.2)))) H' at q
      refine bh ?_
      refine⟨_,rfl,_,_,rfl,rfl,_,rfl,qY (fun j0=>?_) fun j0=>?_⟩
      ·rw [decide_eq_true j0,Bool.true_and]at q
       refine⟨_,rfl,_,_,rfl,.inl ⟨_,tt.ls,rfl⟩,_,_,rfl,rfl,_,rfl,?_⟩
       by_cases jl:j<(ts.length:Int)
       ·rw [decide_eq_true (by rw[xM];exact jl)]
        refine bh ?_
        obtain⟨k,en⟩:∃k:Nat,j=(k:Int):=⟨j.toNat,by omega⟩
        subst en
        have nl:k<ts.length:=by omega
        have hx:=xK nl
        rw[decide_eq_true jl,Bool.true_and,yi,xR,hx]at q
        have te:=tt.ea _ (xT hx)
        exact⟨_,rfl,_,rfl,_,rfl,ta,_,_,_,rfl,rfl,tt.ls,aO (by rw[xR,hx];rfl),pa,ts[k].1,ts[k].2.1,p,ts[k].2.2.2.2,ts[k].2.2.1,ts[k].2.2.2.1,rfl,SqL.of hpa,SqT.of te.tp,SqT.of te.ts,te.wd,te.sl,fun H1 s1=>q H1 s1⟩
       ·rw [decide_eq_false (by rw[xM];exact jl)]
        rw[decide_eq_false jl,yg]at q
        exact aW (q H (Same.refl _))
      ·rw [decide_eq_false j0,yg]at q
       exact⟨_,rfl,aW (q H (Same.refl _))⟩
     | non=>exact aW (q H (Same.refl _))
     | bl=>exact aW (q H (Same.refl _))
     | str=>exact aW (q H (Same.refl _))
     | lst=>exact aW (q H (Same.refl _))
     | tup=>exact aW (q H (Same.refl _))
    rw[if_neg (by rw[h];decide)]at q
    obtain⟨e1,e2⟩:=hw.eqT (K:=K) "short"
    refine⟨_,rfl,tp,_,_,_,rfl,rfl,SqT.of ht,rfl,⟨_,rfl⟩,e1,_,rfl,?_⟩
    rw[e2]
    refine pO (fun h=>?_) fun h=>?_
    ·rw [if_pos h]at q
     exact⟨_,rfl,_,rfl,_,rfl,pa,ma,r0,p,rs,may,U,rt,rfl,SqL.of hpa,hm,c,hl,hr0,tb,q⟩
    rw[if_neg (by rw[h];decide)]at q
    refine⟨_,rfl,pa,p,rfl,SqL.of hpa,by omega,fun S nS=>⟨S,_,rfl,ae,?_⟩⟩
    have s1:=Same.new (o:= .ext (SX w S (dd p))) nS
    generalize aI H S (.ext (SX w S (dd p)))=H1 at s1
    obtain⟨e1,e2⟩:=(hw.same s1).eqT (K:=K) "split"
    refine⟨_,rfl,tp,_,_,_,rfl,rfl,SqT.of (s1 _ _ ht),rfl,⟨_,rfl⟩,e1,_,rfl,?_⟩
    rw[e2]
    refine eF (fun h=>?_) fun h=>?_
    ·rw [if_neg (by rw[h];decide)]at q
     exact q H1 s1
    rw[if_pos h]at q
    have no:rt.isLst=false->Q (.bl false) H1:=fun z=>by rw[oO z]at q;exact q H1 s1
    cases hr0 with
    | non=>exact⟨_,rfl,_,_,_,false,rfl,.non,rfl,_,rfl,bh (no rfl)⟩
    | bl=>exact⟨_,rfl,_,_,_,false,rfl,.bl _,rfl,_,rfl,bh (no rfl)⟩
    | int=>exact⟨_,rfl,_,_,_,false,rfl,.int _,rfl,_,rfl,bh (no rfl)⟩
    | str=>exact⟨_,rfl,_,_,_,false,rfl,.str _,rfl,_,rfl,bh (no rfl)⟩
    | tup hl _ _=>exact⟨_,rfl,_,_,_,false,rfl,.tup (s1 _ _ hl),rfl,_,rfl,bh (no rfl)⟩
    | @lst l vs ps hl' hvn hat2=>
    clear no hw hat e1 e2
    have gbs:∀q∈ps,TBnd q:=by cases tb;assumption
    refine⟨_,rfl,_,_,_,true,rfl,.lst (s1 _ _ hl'),rfl,_,rfl,aW ?_⟩
    have q:∀H',Same H H'->Q (.bl ((decide (p.length<may.length)&&(true&&decide (ps.length=(dd p).length+1)))&&(xO ps.length).all fun j=>bU may (ts.map bD) n (p++[(j:Int)]) (ps.getD j .non))) H':=q
    refine⟨_,rfl,_,_,rfl,.inl ⟨_,SqL.of (s1 _ _ hl'),rfl⟩,_,rfl,_,_,rfl,rfl,rfl,_,rfl,uf (fun ne=>?_) fun eq=>?_⟩
    ·rw [decide_eq_false (show ¬ps.length=(dd p).length+1 by omega),Bool.and_false,Bool.and_false,yg]at q
     exact q H1 s1
    have eqn:ps.length=(dd p).length+1:=by omega
    rw[decide_eq_true eqn,Bool.true_and,Bool.and_true]at q
    refine⟨_,rfl,_,_,rfl,rfl,_,rfl,fI _,by omega,?_⟩
    have e0:((((dd p).length:Nat):Int)+1).toNat=(dd p).length+1:=by omega
    rw[e0]
    by_cases hlt:p.length<may.length
    ·rw [decide_eq_true hlt,Bool.true_and]at q
     refine bH (n:=(dd p).length+1) (fun i σ H2=>∃x:Option V,σ=[some (.ref pa),some (.ref ma),some (.ref ta),some (.ref tp),some (.ref l),some (.int (((dd p).length:Nat):Int)),x]/\Same H H2/\∀j,j<i->bU may (ts.map bD) n (p++[(j:Int)]) (ps.getD j .non)=true) ⟨none,rfl,s1,fun _ z=>absurd z (Nat.not_lt_zero _)⟩ ?_ ?_
     ·rintro i σ H2 hi ⟨x,rfl,s2,pre⟩
      have ei:(0:Int)+(i:Int)=((i:Nat):Int):=by omega
      rw[ei]
      have hm2:=hm.same s2
      have hpa2:=s2 _ _ hpa
      have hiv:i<vs.length:=by omega
      have hip:i<ps.length:=by omega
      refine⟨_,rfl,_,_,rfl,.inl ⟨_,SqL.of hpa2,rfl⟩,_,rfl,_,_,rfl,.inl ⟨_,hm2.ls,rfl⟩,rfl,_,rfl,eO (fun e=>?_) fun e=>?_⟩
      ·rw [xM,xM,hm.po.len]at e
       omega
      refine⟨_,rfl,_,rfl,cb,fun q1 nq1=>?_⟩
      have s3:=Same.new (o:= .lst [V.int ((i:Nat):Int)]) nq1
      refine⟨pa,q1,_,_,rfl,rfl,s3 _ _ hpa2,ae,oR (by simp;omega),fun r nr=>?_⟩
      have e5:p.map V.int++[V.int ((i:Nat):Int)]=(p++[((i:Nat):Int)]).map V.int:=by rw[yo];rfl
      rw[e5]
      have s4:=s3.to (o:= .lst ((p++[((i:Nat):Int)]).map V.int)) nr
      have hr4:aI (aI H2 q1 (.lst [V.int ((i:Nat):Int)])) r (.lst ((p++[((i:Nat):Int)]).map V.int)) r=some (.lst ((p++[((i:Nat):Int)]).map V.int)):=ae
      generalize aI (aI H2 q1 (.lst [V.int ((i:Nat):Int)])) r (.lst ((p++[((i:Nat):Int)]).map V.int))=H4 at s4 hr4
      have s24:=s2.trans s4
      have eg:ps.getD i .non=ps[i]:=by rw[xN,xK hip];rfl
      refine⟨_,rfl,_,rfl,_,rfl,_,rfl,l,_,_,_,rfl,rfl,SqL.of (s24 _ _ hl'),aO (xK hiv),r,ma,ta,vs[i],p++[(i:Int)],rs,may,U,ts,ps.getD i .non,rfl,hr4,hm.same s24,⟨s24.seq tt.ls,fun x hx=>(tt.ea x hx).same s24,tt.ln⟩,eU c (by omega),by simp;omega,by simp;omega,by rw[eg];exact(hat2 i _ _ (xK hiv) (xK hip)).same s24,ng gbs i,fun H5 s5=>⟨_,rfl,eF (fun h1=>?_) fun h1=>?_⟩⟩
      ·have e6:((xO ps.length).all fun j=>bU may (ts.map bD) n (p++[(j:Int)]) (ps.getD j .non))=false:=by
        rw[List.all_eq_false]
        exact⟨i,yf.mpr hip,by rw[h1];exact xW⟩
       have qq:=q H5 (s24.trans s5)
       rw[e6]at qq
       exact qq
      ·refine⟨_,rfl,s24.trans s5,fun j hj=>?_⟩
       by_cases z:j=i
       ·subst z;exact h1
       ·exact pre j (by omega)
     ·rintro σ H2 ⟨x,rfl,s2,pre⟩
      have e7:((xO ps.length).all fun j=>bU may (ts.map bD) n (p++[(j:Int)]) (ps.getD j .non))=true:=x6.mpr fun j hj=>pre j (by have:=yf.mp hj;omega)
      have qq:=q H2 s2
      rw[e7]at qq
      exact qq
    ·rw [decide_eq_false hlt,yg]at q
     refine bH (n:=(dd p).length+1) (fun i σ H2=>i=0/\∃x:Option V,σ=[some (.ref pa),some (.ref ma),some (.ref ta),some (.ref tp),some (.ref l),some (.int (((dd p).length:Nat):Int)),x]/\Same H H2) ⟨rfl,none,rfl,s1⟩ ?_ ?_
     ·rintro i σ H2 hi ⟨_,x,rfl,s2⟩
      have hm2:=hm.same s2
      refine⟨_,rfl,_,_,rfl,.inl ⟨_,SqL.of (s2 _ _ hpa),rfl⟩,_,rfl,_,_,rfl,.inl ⟨_,hm2.ls,rfl⟩,rfl,_,rfl,eO (fun e=>?_) fun e=>absurd ?_ e⟩
      ·exact q H2 s2
      ·rw [xM,xM,hm.po.len]
       omega
     ·rintro σ H2 ⟨h,_⟩
      cases h
 exact all 7
inductive sp_law_blocks (K:PySem.W.Frag) (vs:List V) (H:Hp) (Q:VK) (E:XK):Prop where
 | mk (pa ma:Addr) (p:List Int) (rs:List Addr) (may:List (List Int)) (U:List Int) (_:vs=[.ref pa,.ref ma]) (_:SqL K H pa (p.map V.int)) (_:May K H ma rs may U) (_:bO p) (_:p.length<=may.length) (_:∀l (bs:List Int) H',Same H H'->H l=none->H' l=some (.lst (bs.map V.int))->bs.length<=100->Q (.ref l) H')
theorem bP:FnScope ["pattern","lists","wide","one","two","every"] ["pattern","lists"] (ak df):=⟨rfl,rfl,rfl,by decide +kernel,rfl,by decide +kernel,by decide +kernel⟩
theorem iP (D:Dfs K mg aF dF) (T:Txt mg):FnOk P w K mg base aY 4 (aF 28) (dF 28) ["pattern","lists"] (sp_law_blocks K):=by
 have Glaw_short:FnOk P w K mg base aY 3 (aF 26) (dF 26) ["pattern","lists","blocks"] (sp_law_short K):=fO D T
 refine D.law_blocks.fn.ok bP (fun vs H Q E h=>?_) (fun cdv A outer s H vs Q E hr h=>?_)
 ·obtain⟨pa,ma,p,rs,may,U,rfl,_⟩:=h;rfl
 ·have hu:=aV hr
  obtain⟨pa,ma,p,rs,may,U,rfl,hp,hm,c,hl,q⟩:=h
  refine aE 4 (ah (aj (aq ab))) ?_
  intro Z0 z0
  refine aE 3 (ag (aK (bg (pc D.law_short Glaw_short (hr.mono (by decide)) (aa (pv 0) (aa (pv 1) (aa (pv 5) ab)))))
    (ah (aj (pv 5)))
    aw) z0) ?_
  intro Z0 z0
  refine aE 2 (ag (aC (i:=5) bP.nd rfl (Or.inl rfl) (aJ (uz K) (by rfl) T.z_list boot_list (aa (aJ r9 (by rfl) T.z_range boot_range (aa (pv 2) ab)) ab))) z0) ?_
  intro Z0 z0
  refine aE 1 (ag (bX PassesOwn.never rfl (aU rfl T.z_range (aa (pv 2) ab)) (aA (i:=3) bP.nd rfl (Or.inl rfl))
    (ag (aK (bg (pc D.law_short Glaw_short (hr.mono (by decide)) (aa (pv 0) (aa (pv 1) (aa (aq (aa (pv 3) ab)) ab)))))
     (ah (aj (aq (aa (pv 3) ab))))
     aw)
    (ah (bX PassesOwn.never rfl (aU rfl T.z_range (aa (pv 3) ab)) (aA (i:=4) bP.nd rfl (Or.inl rfl))
     (ah (aK (bg (pc D.law_short Glaw_short (hr.mono (by decide)) (aa (pv 0) (aa (pv 1) (aa (aq (aa (pv 4) (aa (pv 3) ab))) ab)))))
      (ah (aj (aq (aa (pv 4) (aa (pv 3) ab)))))
      aw)))))) z0) ?_
  intro Z0 z0
  refine⟨_,(ag (aC (i:=2) bP.nd rfl (Or.inl rfl) (ai (kM w) (by rfl) T.z_len boot_len (aa (aJ (iL w K) (by rfl) T.z_set PyProof.Rows.boot_set (aa (pv 0) ab)) ab))) z0),?_⟩
  have m6:=hm.m6
  have dl:=bZ p
  refine⟨_,rfl,pa,p,rfl,hp,by omega,fun S nS=>⟨S,_,rfl,ae,?_⟩⟩
  have s0:=Same.new (o:= .ext (SX w S (dd p))) nS
  generalize aI H S (.ext (SX w S (dd p)))=H0 at s0
  refine⟨_,rfl,_,rfl,fI _,by omega,?_⟩
  rw[yi]
  refine bH (n:=(dd p).length) (fun i σ Hx=>∃x y z:Option V,σ=[some (.ref pa),some (.ref ma),some (.int (((dd p).length:Nat):Int)),x,y,z]/\Same H Hx) ⟨none,none,none,rfl,s0⟩ ?_ ?_
  ·rintro i σ Hx hi ⟨x,y,z,rfl,sx⟩
   have ei:(0:Int)+(i:Int)=((i:Nat):Int):=by omega
   rw[ei]
   refine⟨_,rfl,_,rfl,_,rfl,cb,fun b1 nb1=>?_⟩
   have s1:=Same.new (o:= .lst [.int ((i:Nat):Int)]) nb1
   have hb1:aI Hx b1 (.lst [.int ((i:Nat):Int)]) b1=some (.lst ([((i:Nat):Int)].map V.int)):=ae
   generalize aI Hx b1 (.lst [.int ((i:Nat):Int)])=H1 at s1 hb1
   have s01:=sx.trans s1
   refine⟨pa,ma,.ref b1,p,rs,may,U,_,rfl,s01.seq hp,hm.same s01,c,hl,fK hb1,dE (Nat.le_of_ble_eq_true rfl),fun H2 s2=>⟨_,rfl,pO (fun h1=>?_) fun h1=>?_⟩⟩
   ·exact⟨_,rfl,cb,fun l nl=>q l [((i:Nat):Int)] _ ((s01.trans s2).to nl) ((s01.trans s2).free nl) ae (Nat.le_of_ble_eq_true rfl)⟩
   have s02:=s01.trans s2
   refine⟨_,rfl,_,rfl,fI _,by omega,?_⟩
   rw[yi]
   refine bH (n:=i) (fun j σ Hy=>∃y z:Option V,σ=[some (.ref pa),some (.ref ma),some (.int (((dd p).length:Nat):Int)),some (.int ((i:Nat):Int)),y,z]/\Same H Hy) ⟨y,z,rfl,s02⟩ ?_ ?_
   ·rintro j σ Hy hj ⟨y,z,rfl,sy⟩
    have ej:(0:Int)+(j:Int)=((j:Nat):Int):=by omega
    rw[ej]
    refine⟨_,rfl,_,rfl,_,rfl,_,rfl,cb,fun b2 nb2=>?_⟩
    have s3:=Same.new (o:= .lst [.int ((j:Nat):Int),.int ((i:Nat):Int)]) nb2
    have hb2:aI Hy b2 (.lst [.int ((j:Nat):Int),.int ((i:Nat):Int)]) b2=some (.lst ([((j:Nat):Int),((i:Nat):Int)].map V.int)):=ae
    generalize aI Hy b2 (.lst [.int ((j:Nat):Int),.int ((i:Nat):Int)])=H3 at s3 hb2
    have s03:=sy.trans s3
    refine⟨pa,ma,.ref b2,p,rs,may,U,_,rfl,s03.seq hp,hm.same s03,c,hl,fK hb2,dE (Nat.le_of_ble_eq_true rfl),fun H4 s4=>⟨_,rfl,pO (fun h2=>?_) fun h2=>?_⟩⟩
    ·exact⟨_,rfl,_,rfl,cb,fun l nl=>q l [((j:Nat):Int),((i:Nat):Int)] _ ((s03.trans s4).to nl) ((s03.trans s4).free nl) ae (Nat.le_of_ble_eq_true rfl)⟩
    ·exact⟨_,_,rfl,s03.trans s4⟩
   ·rintro σ Hy ⟨y,z,rfl,sy⟩
    exact⟨_,_,_,rfl,sy⟩
  ·rintro σ Hx ⟨x,y,z,rfl,sx⟩
   refine⟨_,rfl,(dd p).length,rfl,by omega,fun r nr=>⟨r,(dd p).length,rfl,ae,by omega,fun ev nev=>?_⟩⟩
   have s1:=(Same.new (o:= .rng 0 (((dd p).length:Nat):Int)) nr).to (o:= .lst ((xO (dd p).length).map fun(i:Nat)=>V.int (i:Int))) nev
   have hev:aI (aI Hx r (.rng 0 (((dd p).length:Nat):Int))) ev (.lst ((xO (dd p).length).map fun(i:Nat)=>V.int (i:Int))) ev=some (.lst ((m5 (dd p).length).map V.int)):=by rw[ae];unfold m5;rw[yA];rfl
   have nev0:Hx ev=none:=(Same.new nr).free nev
   generalize aI (aI Hx r (.rng 0 (((dd p).length:Nat):Int))) ev (.lst ((xO (dd p).length).map fun(i:Nat)=>V.int (i:Int)))=H1 at s1 hev
   have s01:=sx.trans s1
   have ul:(m5 (dd p).length).length<=100:=by unfold m5;simp;omega
   refine⟨_,rfl,_,rfl,_,rfl,pa,ma,.ref ev,p,rs,may,U,_,rfl,s01.seq hp,hm.same s01,c,hl,fK hev,dE (by omega),fun H2 s2=>⟨_,rfl,pO (fun h1=>?_) fun h1=>?_⟩⟩
   ·exact⟨_,rfl,q ev _ H2 (s01.trans s2) (sx.free nev0) (s2 _ _ hev) ul⟩
   ·exact⟨cb,fun l nl=>q l [] _ ((s01.trans s2).to nl) ((s01.trans s2).free nl) ae (yx _)⟩
local macro_rules | `(tactic| walk_at "th")=> `(tactic| repeat (first | exact mn | exact qF | exact vH | exact uC | exact gP | refine qG ?_ ?_ | refine uG ?_ rfl | refine uF ?_ rfl | exact uD))
def vR:List Th:=[.non,.bl true,.int 0,.str "tie",.str "",.lst [],.tup [],.tup [.str "tie"],.tup [.str "tie",.non],.tup [.str "tie",.bl true],.tup [.str "tie",.bl false],.tup [.str "tie",.int (-1)]]
def vS:List Th:=[.tup [.str "tie",.lst [.int 0]],.lst [.str "tie",.int 0],.tup [.str "tie",.int 0,.int 0],.tup [.str "tie",.str "0"],.tup [.str "tie",.tup [.int 0]],.tup [.str "short",.non],.tup [.str "short",.int 0]]
def vT:List Th:=[.tup [.str "short",.tup [.int 0]],.tup [.str "short",.lst [.bl false]],.tup [.str "short",.lst [.non]],.tup [.str "short",.lst [.str "0"]],.tup [.str "short",.lst [.int 0,.int 0]]]
def vU:List Th:=[.tup [.str "short",.lst [.int (-1)]],.tup [.str "short",.lst [.lst [.int 0]]],.tup [.str "split",.non],.tup [.str "split",.tup []],.tup [.str "split",.lst []],.tup [.str "split",.int 0]]
def vV:List Th:=[.tup [.str "split",.str "split"],.tup [.str "split",.lst [.non,.non]],.tup [.str "Tie",.int 0],.tup [.int 0,.str "tie"],.tup [.str "plan",.lst [.int 1]],.tup [.non,.non]]
def vW (x:Int):List Th:=[.tup [.str "none",.tup [.str "tie",.int 0]],.tup [.lst [.str "tie"],.int 0],.tup [.str "short",.lst [.int x]],.int (0-x)]
def vX (x:Int):List Th:=((((vR++vS)++vT)++vU)++vV)++vW x
theorem sC (x:Int):∀t∈vX x,TBnd t:=fun t ht=>uI 5 t (x6.mp (show(vX x).all (oE 5)=true from rfl) t ht)
def iC (K:PySem.W.Frag):Sp:=fun vs H Q _=>∃c:Int,vs=[.int c]/\∀v t H',Same H H'->ThAt (nw H H') v t->TBnd t->Q v H'
theorem bR:FnScope ["cell","odd"] ["cell"] (ak gq):=⟨rfl,rfl,rfl,by decide +kernel,rfl,by decide +kernel,by decide +kernel⟩
theorem mB (D:Dfs K mg aF dF) (T:Txt mg):FnOk P w K mg base aY 1 (aF 29) (dF 29) ["cell"] (iC K):=by
 refine D.law_odd.fn.ok bR (fun vs H Q E h=>?_) (fun cdv A outer s H vs Q E hr h=>?_)
 ·obtain⟨c,rfl,_⟩:=h;rfl
 ·have hu:=aV hr
  obtain⟨c,rfl,q⟩:=h
  refine aE 6 (ah (aj (aB (cP K) (pv 1) (ao aQ (pv 0) (ai (bx K) (by rfl) T.z_len boot_len (aa (pv 1) ab))) (fun _ _=>rfl)))) ?_
  intro Z0 z0
  refine aE 5 (ag (aC (i:=1) bR.nd rfl (Or.inl rfl) (ao cW (pv 1) (aq (aa (au (aa ar (aa (au (aa ar (aa af ab))) ab))) (aa (au (aa (aq (aa ar ab)) (aa af ab))) (aa (au (aa ar (aa (aq (aa (ao aQ (ao bf (pv 0) af) (ao lG af af)) ab)) ab))) (aa (ao dA af (ao aQ (ao bf (pv 0) af) (ao lG af af))) ab))))))) z0) ?_
  intro Z0 z0
  refine aE 4 (ag (aC (i:=1) bR.nd rfl (Or.inl rfl) (ao cW (pv 1) (aq (aa (au (aa ar (aa ar ab))) (aa (au (aa ar (aa (aq (aa cz (aa cz ab))) ab))) (aa (au (aa ar (aa af ab))) (aa (au (aa af (aa ar ab))) (aa (au (aa ar (aa (aq (aa af ab)) ab))) (aa (au (aa cz (aa cz ab))) ab))))))))) z0) ?_
  intro Z0 z0
  refine aE 3 (ag (aC (i:=1) bR.nd rfl (Or.inl rfl) (ao cW (pv 1) (aq (aa (au (aa ar (aa (aq (aa (sL o4 af) ab)) ab))) (aa (au (aa ar (aa (aq (aa (aq (aa af ab)) ab)) ab))) (aa (au (aa ar (aa cz ab))) (aa (au (aa ar (aa (au ab) ab))) (aa (au (aa ar (aa (aq ab) ab))) (aa (au (aa ar (aa af ab))) ab))))))))) z0) ?_
  intro Z0 z0
  refine aE 2 (ag (aC (i:=1) bR.nd rfl (Or.inl rfl) (ao cW (pv 1) (aq (aa (au (aa ar (aa (au (aa af ab)) ab))) (aa (au (aa ar (aa (aq (aa bS ab)) ab))) (aa (au (aa ar (aa (aq (aa cz ab)) ab))) (aa (au (aa ar (aa (aq (aa ar ab)) ab))) (aa (au (aa ar (aa (aq (aa af (aa af ab))) ab))) ab)))))))) z0) ?_
  intro Z0 z0
  refine aE 1 (ag (aC (i:=1) bR.nd rfl (Or.inl rfl) (ao cW (pv 1) (aq (aa (au (aa ar (aa (aq (aa af ab)) ab))) (aa (aq (aa ar (aa af ab))) (aa (au (aa ar (aa af (aa af ab)))) (aa (au (aa ar (aa ar ab))) (aa (au (aa ar (aa (au (aa af ab)) ab))) (aa (au (aa ar (aa cz ab))) (aa (au (aa ar (aa af ab))) ab)))))))))) z0) ?_
  intro Z0 z0
  refine⟨_,(ag (aC (i:=1) bR.nd rfl (Or.inl rfl) (aq (aa cz (aa bS (aa af (aa ar (aa ar (aa (aq ab) (aa (au ab) (aa (au (aa ar ab)) (aa (au (aa ar (aa cz ab))) (aa (au (aa ar (aa bS ab))) (aa (au (aa ar (aa bS ab))) (aa (au (aa ar (aa (sL o4 af) ab))) ab)))))))))))))) z0),?_⟩
  refine uH (t:= .lst vR) (by walk_at "th") fun v0 H0 s0 a0=>?_
  refine gQ rfl s0 a0 (rs:=vS) (by walk_at "th") rfl fun v1 H1 s1 a1=>?_
  refine gQ rfl s1 a1 (rs:=vT) (by walk_at "th") rfl fun v2 H2 s2 a2=>?_
  refine gQ rfl s2 a2 (rs:=vU) (by walk_at "th") rfl fun v3 H3 s3 a3=>?_
  refine gQ rfl s3 a3 (rs:=vV) (by walk_at "th") rfl fun v4 H4 s4 a4=>?_
  refine qM rfl s4 a4 (rs:=vW (c/41%(10:Int)^((60:Int).toNat))) ?_ rfl fun v5 H5 s5 a5=>?_
  ·have x:∀σ:L2.St,σ[0]?=some (some (.int c))->ni σ (oP (rI (fun _ j=>0<j) fun i j=> .int (i%j)) (oP (rI kl fun i j=> .int (i/j)) (nC 0) (tC (.int 41))) (oP (rI oZ fun i j=> .int (i^j.toNat)) (tC (.int 10)) (tC (.int 60)))) (.int (c/41%(10:Int)^((60:Int).toNat))):=fun σ h=>qJ (qJ (si h) (gn mn) ⟨by decide,by decide⟩ rfl) (gn (uE ⟨by decide,by decide,by decide⟩)) (by decide +kernel) rfl
   exact nj (cD (gn (by walk_at "th")) (cD (gn (by walk_at "th")) (cD (sm (cD (gn qF) (cD (nj (cD (x _ rfl) (mv gP)) rfl) (mv gP))) rfl) (cD (sj (gn mn) (x _ rfl) rfl) (mv gP))))) rfl
  obtain⟨l,us,rfl,hl,nl,el⟩:=a5.lstD
  have hlH:=fH _ _ hl
  have up:0<us.length:=by rw[nl];exact Nat.le_of_ble_eq_true rfl
  obtain⟨v,t,hv,tm,ta⟩:=nh nl el nl.symm up c
  exact⟨_,rfl,_,rfl,_,rfl,_,us.length,rfl,.inl ⟨_,SqL.of hlH,rfl⟩,_,_,rfl,rfl,(show(0:Int)<(us.length:Int) by omega),l,_,_,_,rfl,rfl,SqL.of hlH,hv,q _ _ _ s5 ta (sC _ t tm)⟩
inductive TrOk:Th->Prop where
 | int {j:Int}:TrOk (.int j)
 | lst {ts:List Th} (hn:ts.length<=100) (h:∀t∈ts,(∃j,t= .int j)\/∃us,t= .tup us):TrOk (.lst ts)
inductive sp_law_truths (K:PySem.W.Frag) (vs:List V) (H:Hp) (Q:VK) (E:XK):Prop where
 | mk (v:V) (r:Th) (_:vs=[v]) (_:ThAt H v r) (_:TrOk r) (_:∀v' t H',Same H H'->ThAt (nw H H') v' t->TBnd t->Q v' H')
theorem iQ:FnScope ["rest"] ["rest"] (ak dg):=⟨rfl,rfl,rfl,by decide +kernel,rfl,by decide +kernel,by decide +kernel⟩
theorem iR (D:Dfs K mg aF dF) (T:Txt mg):FnOk P w K mg base aY 1 (aF 30) (dF 30) ["rest"] (sp_law_truths K):=by
 refine D.law_truths.fn.ok iQ (fun vs H Q E h=>?_) (fun cdv A outer s H vs Q E hr h=>?_)
 ·obtain⟨v,r,rfl,_⟩:=h;rfl
 ·have hu:=aV hr
  obtain⟨v,r,rfl,ht,ok,q⟩:=h
  refine⟨_,(ag (aK (bg (ai (fA K) (by rfl) T.z_isinstance boot_isinstance (aa (pv 0) (aa (cY T.z_list) ab))))
    (ah (aj (bb ["number"] [none] rfl (pM K (pv 0)) (fun _=>aA (i:=0) (bq (N:=["number"]) (by decide +kernel)) rfl (Or.inl rfl)) (fun _=>bJ) (fun _=>(bI (xk K hr.units) (pv 0) af (ax _))) ((.cons (fun _ e=>by cases e) .nil)))))
    aw)
   (ah (aj (bI (xk K hr.units) (pv 0) af (ax _))))),?_⟩
  cases ok with
  | @int j=>
   cases ht
   exact⟨_,rfl,_,_,_,false,rfl,.int _,rfl,_,rfl,aW ⟨_,rfl,⟨_,rfl⟩,.inl rfl,q _ _ H (Same.refl _) .bl .bl⟩⟩
  | @lst ts hn' ok=>
  cases ht with
  | @lst l us _ hl hn hat=>
  refine⟨_,rfl,_,_,_,true,rfl,.lst hl,rfl,_,rfl,bh ?_⟩
  refine⟨_,rfl,l,rfl,⟨_,SqL.of hl⟩,?_⟩
  refine b3 (xs:=us) (fun _=>true) (fun j=> .bl (decide (us.getD j .non= .int 1))) (SqL.of hl) (by omega) (fun _ _ _ _ _ _ k=>k _ (Same.refl _)) (fun j x hx _ H2 R s2 k=>?_) fun acc H2 s2 nacc hacc=>?_
  ·have hj:=(xP.mp hx).1
   have hjt:j<ts.length:=by omega
   have a:=(hat j x _ hx (xK hjt)).same s2
   have e:us.getD j .non=x:=by rw[xN,hx];rfl
   rw[e]at k
   refine⟨_,rfl,⟨_,rfl⟩,?_,k H2 (Same.refl _)⟩
   rcases ok _ (yh hjt)with⟨i,z⟩ | ⟨ws,z⟩
   ·rw [z]at a;cases a;exact .inl rfl
   ·rw [z]at a
    cases a with
    | tup h _ _=>exact .inr ⟨_,_,rfl,.inr (SqT.of h)⟩
  rw[yE.mpr (fun _ _=>rfl)]at hacc
  refine q _ (.lst ((xO us.length).map fun j=> .bl (decide (us.getD j .non= .int 1)))) H2 s2 (.lst (gz nacc hacc) (by rw[xM,xM]) fun i v t hv ht=>?_) (.lst (by rw[xM,yp];omega) fun t ht=>?_)
  ·rw [xR]at hv ht
   obtain⟨j,hj,rfl⟩:=ya.mp hv
   rw[hj]at ht
   cases ht
   exact .bl
  ·obtain⟨j,_,rfl⟩:=yQ.mp ht
   exact .bl
inductive sp_law_turned (K:PySem.W.Frag) (vs:List V) (H:Hp) (Q:VK) (E:XK):Prop where
 | mk (v:V) (cell:Int) (c:Str) (r:Th) (G:Hp) (_:vs=[v,.int cell]) (_:Same G H) (_:ThAt G v (.tup [.str c,r])) (_:TBnd r) (_:TrOk r) (_:Builtin.Str.tooLong (uJ c).length=false) (_:∀v' t' H',Same H H'->ThAt (cq G H H') v' t'->TBnd t'->Q v' H')
theorem sD {i j:Int} {A B R:Prop} (h1:i=j->R->A) (h2:i≠j->R->B) (r:R):if decide (V.int i=V.int j)=true then A else B:=eO (fun h=>h1 h r) fun h=>h2 h r
theorem qW {G H H':Hp}:Same (nw H H') (cq G H H'):=fun b o e=>by
 obtain⟨h1,h2⟩:=jR e
 exact aX h1 h2
theorem sE {H:Hp} {v:V} {ts:List Th} (p:ThAt H v (.tup ts)):∃l vs,v= .ref l/\H l=some (.tup vs)/\vs.length=ts.length/\AllTh H vs ts:=by
 cases p with
 | tup hl hn h=>exact⟨_,_,rfl,hl,hn,h⟩
theorem lz {H:Hp} {ys:List V} {us:List Th} {v:V} {t:Th} (hn:ys.length=us.length) (h:AllTh H ys us) (a:ThAt H v t):AllTh H (ys++[v]) (us++[t]):=mq hn h fun i x y hx hy=>by
 match i with
 | 0=>cases hx;cases hy;exact a
 | i+1=>cases hx
theorem b6:FnScope ["paper","cell","word","rest","way"] ["paper","cell"] (ak di):=⟨rfl,rfl,rfl,by decide +kernel,rfl,by decide +kernel,by decide +kernel⟩
theorem iS (D:Dfs K mg aF dF) (T:Txt mg):FnOk P w K mg base aY 2 (aF 31) (dF 31) ["paper","cell"] (sp_law_turned K):=by
 have Glaw_odd:FnOk P w K mg base aY 1 (aF 29) (dF 29) ["cell"] (iC K):=mB D T
 have Glaw_truths:FnOk P w K mg base aY 1 (aF 30) (dF 30) ["rest"] (sp_law_truths K):=iR D T
 refine D.law_turned.fn.ok b6 (fun vs H Q E h=>?_) (fun cdv A outer s H vs Q E hr h=>?_)
 ·obtain⟨v,cell,c,r,G,rfl,_⟩:=h;rfl
 ·have hu:=aV hr
  obtain⟨v,cell,c,r,G,rfl,sG,pat,tb,ok,sh,q⟩:=h
  refine aE 10 (ah (aj (au (aa (pv 2) (aa (pc D.law_truths Glaw_truths (hr.mono (by decide)) (aa (pv 3) ab)) ab))))) ?_
  intro Z0 z0
  refine aE 9 (ag (aK (av bM (pv 4) af (ax _))
    (ah (aj (au (aa (pv 2) (aa cz ab)))))
    aw) z0) ?_
  intro Z0 z0
  refine aE 8 (ag (aK (av bM (pv 4) af (ax _))
    (ah (aj (au (aa (tY PySem.F.plainAttrs_str PySem.F.slot_str_upper PySem.F.type_str_upper qI (pv 2)) (aa (pv 3) ab)))))
    aw) z0) ?_
  intro Z0 z0
  refine aE 7 (ag (aK (PW.pt (jw (av bM (pv 4) af (ax _)) (gF (bg (ai (fA K) (by rfl) T.z_isinstance boot_isinstance (aa (pv 3) (aa (cY T.z_list) ab)))))))
    (ah (aj (au (aa (pv 2) (aa (ao cW (pv 3) (aq (aa cz ab))) ab)))))
    aw) z0) ?_
  intro Z0 z0
  refine aE 6 (ag (aK (PW.pt (jw (av bM (pv 4) af (ax _)) (gF (bg (ai (fA K) (by rfl) T.z_isinstance boot_isinstance (aa (pv 3) (aa (cY T.z_list) ab)))))))
    (ah (aj (au (aa (pv 2) (aa (aJ eE (by rfl) T.z_tuple boot_tuple (aa (pv 3) ab)) ab)))))
    aw) z0) ?_
  intro Z0 z0
  refine aE 5 (ag (aK (av bM (pv 4) af (ax _))
    (ah (aj (au (aa (pv 2) ab))))
    aw) z0) ?_
  intro Z0 z0
  refine aE 4 (ag (aK (av bM (pv 4) af (ax _))
    (ah (aj (au (aa (pv 2) (aa (pv 3) (aa (pv 3) ab))))))
    aw) z0) ?_
  intro Z0 z0
  refine aE 3 (ag (aK (av bM (pv 4) af (ax _))
    (ah (aj (aq (aa (pv 2) (aa (pv 3) ab)))))
    aw) z0) ?_
  intro Z0 z0
  refine aE 2 (ag (aK (av bM (ao aQ (pv 1) af) af (ax _))
    (ah (aj (pc D.law_odd Glaw_odd (hr.mono (by decide)) (aa (ao bf (pv 1) af) ab))))
    aw) z0) ?_
  intro Z0 z0
  refine aE 1 (ag (aC (i:=4) b6.nd rfl (Or.inl rfl) (ao aQ (ao bf (pv 1) af) af)) z0) ?_
  intro Z0 z0
  refine⟨_,(ag (lE (pv 0) (xc K rfl (cB (aA (i:=2) b6.nd rfl (Or.inl rfl)) (cB (aA (i:=3) b6.nd rfl (Or.inl rfl)) jx)))) z0),?_⟩
  obtain⟨tp,xs,rfl,htG,hn,hat⟩:=sE pat
  obtain⟨w0,r0,rfl⟩:=mj (show xs.length=2 from hn)
  have hw:=hat 0 w0 _ rfl rfl
  have hr0:=hat 1 r0 r rfl rfl
  clear hat
  cases hw
  have ht:=sG _ _ htG
  refine⟨_,rfl,tp,_,rfl,SqT.of ht,rfl,_,_,rfl,_,_,rfl,rfl,?_⟩
  refine⟨_,rfl,_,_,rfl,rfl,(show kl _ 2 from⟨by decide,by decide⟩),_,_,rfl,rfl,(show(0:Int)<8 by decide),?_⟩
  refine⟨_,rfl,_,_,rfl,rfl,(show(0:Int)<2 by decide),rfl,_,rfl,eO (fun e=>?_) fun n=>?_⟩
  ·exact⟨_,rfl,_,_,rfl,rfl,(show kl _ 2 from⟨by decide,by decide⟩),_,rfl,fun v t H' s a b=>q v t H' s (a.same qW) b⟩
  have old:∀{H'},Same H H'->ThAt (cq G H H') r0 r:=fun s=>hr0.same (jS sG)
  refine⟨_,rfl,rfl,_,rfl,eO (fun e=>?_) fun n=>?_⟩
  ·refine⟨_,rfl,_,rfl,cb,fun l nl=>q _ (.lst [.str c,r]) _ (Same.new nl) (.lst (aX nl ae) rfl fun i v t hv ht=>?_) (.lst (Nat.le_of_ble_eq_true rfl) fun t ht=>?_)⟩
   ·match i with
    | 0=>cases hv;cases ht;exact .str
    | 1=>cases hv;cases ht;exact old (Same.new nl)
    | i+2=>cases hv
   ·rcases xY.mp ht with z | z
    ·rw [z];exact .str
    ·rw [xX.mp z];exact tb
  refine⟨_,rfl,rfl,_,rfl,eO (fun e=>?_) fun n=>?_⟩
  ·exact⟨_,rfl,_,rfl,_,rfl,cb,fun l nl=>q _ _ _ (Same.new nl) (qH (aX nl ae) .str (old (Same.new nl)) (old (Same.new nl))) (oF .str tb tb)⟩
  refine⟨_,rfl,rfl,_,rfl,eO (fun e=>?_) fun n=>?_⟩
  ·exact⟨_,rfl,cb,fun l nl=>q _ _ _ (Same.new nl) (qN (aX nl ae) .str) (qO .str)⟩
  have fin:∀(v:V) (t:Th) (x:Str) (H1:Hp),Same H H1->ThAt (cq G H H1) v t->TBnd t->∀l,H1 l=none->Q (.ref l) (aI H1 l (.tup [.str x,v])):=fun v t x H1 s1 a b l nl=>
   q _ _ _ (s1.to nl) (dG (aX (s1.free nl) ae) .str (a.same fun b u h=>by
    rcases qy h with⟨h1,h2⟩ | ⟨⟨u',h1⟩,h2⟩
    ·exact aX h1 (Same.new nl _ _ h2)
    ·exact jS sG _ _ h2)) (fL .str b)
  cases ok with
  | @int j=>
   cases hr0
   refine⟨_,rfl,rfl,_,rfl,sD (fun e k=>⟨_,rfl,_,_,_,false,rfl,.int _,rfl,_,rfl,aW k⟩) (fun n k=>aW k) ?_⟩
   refine⟨_,rfl,rfl,_,rfl,sD (fun e k=>⟨_,rfl,_,_,_,false,rfl,.int _,rfl,_,rfl,aW k⟩) (fun n k=>aW k) ?_⟩
   refine⟨_,rfl,rfl,_,rfl,eO (fun e=>?_) fun n=>?_⟩
   ·exact⟨_,rfl,rfl,c,rfl,rfl,sh,_,rfl,cb,fun l nl=>fin _ _ (uJ c) H (Same.refl _) (old (Same.refl _)) tb l nl⟩
   refine⟨_,rfl,rfl,_,rfl,eO (fun e=>?_) fun n=>?_⟩
   ·exact⟨_,rfl,cb,fun l nl=>fin .non .non c H (Same.refl _) .non .non l nl⟩
   exact⟨_,rfl,_,rfl,_,_,rfl,.int,.int,fun v' t H' s a b=>⟨cb,fun l nl=>fin v' t c H' s (a.same qW) b l nl⟩⟩
  | @lst us hu oku=>
   obtain⟨l,vs,rfl,hlG,hvn,hat⟩:=hr0.lstD
   have hl:=sG _ _ hlG
   have tbs:∀t∈us,TBnd t:=by cases tb;assumption
   refine⟨_,rfl,rfl,_,rfl,sD (fun e k=>⟨_,rfl,_,_,_,true,rfl,.lst hl,rfl,_,rfl,bh ?_⟩) (fun n k=>aW k) ?_⟩
   ·refine⟨_,rfl,_,rfl,l,vs,rfl,.inl ⟨SqL.of hl,fun z nz=>⟨cb,fun l nl=>fin (.ref z) (.tup us) c _ (Same.new nz) (.tup (aX nz ae) hvn (AllTh.same hat (jS sG))) (.tup (by omega) tbs) l nl⟩⟩⟩
   refine⟨_,rfl,rfl,_,rfl,sD (fun e k=>⟨_,rfl,_,_,_,true,rfl,.lst hl,rfl,_,rfl,bh ?_⟩) (fun n k=>aW k) ?_⟩
   ·refine⟨_,rfl,_,rfl,cb,fun z nz=>⟨l,z,_,_,rfl,rfl,Same.new nz _ _ hl,ae,oR (by rw[x9];omega),fun y ny=>⟨cb,fun l nl=>?_⟩⟩⟩
    have s2:=(Same.new (o:= .lst [V.non]) nz).to (o:= .lst (vs++[V.non])) ny
    refine fin (.ref y) (.lst (us++[.non])) c _ s2 (.lst (aX ((Same.new nz).free ny) ae) (by rw[xV,xV,hvn];rfl) (lz hvn (AllTh.same hat (jS sG)) .non)) (.lst (by rw[xV,x9];omega) fun t ht=>?_) l nl
    rcases ye.mp ht with x | x
    ·exact tbs t x
    ·rw [xX.mp x];exact .non
   refine⟨_,rfl,rfl,_,rfl,eO (fun e=>?_) fun n=>?_⟩
   ·exact⟨_,rfl,rfl,c,rfl,rfl,sh,_,rfl,cb,fun l nl=>fin _ _ (uJ c) H (Same.refl _) (old (Same.refl _)) tb l nl⟩
   refine⟨_,rfl,rfl,_,rfl,eO (fun e=>?_) fun n=>?_⟩
   ·exact⟨_,rfl,cb,fun l nl=>fin .non .non c H (Same.refl _) .non .non l nl⟩
   exact⟨_,rfl,_,rfl,_,_,rfl,hr0.same sG,.lst hu oku,fun v' t H' s a b=>⟨cb,fun l nl=>fin v' t c H' s (a.same qW) b l nl⟩⟩
inductive spN_law_paper (K:PySem.W.Frag) (m:Nat) (vs:List V) (H:Hp) (Q:VK) (E:XK):Prop where
 | mk (pa ma ta lf:Addr) (p:List Int) (rs:List Addr) (may:List (List Int)) (U:List Int) (ts:List (Addr×Addr×Str×Int×List Nat)) (n cell:Int) (_:vs=[.ref pa,.ref ma,.ref ta,.ref lf,.int cell]) (_:cu lf H pa=some (.lst (p.map V.int))) (_:May K (cu lf H) ma rs may U) (_:Ties K (cu lf H) ta ts 100) (_:bO p) (_:p.length<=may.length) (_:may.length<p.length+m) (_:H lf=some (.lst [.int n])) (_:∀v t (n':Int) H',Kept1 lf H H'->n'<=n->H' lf=some (.lst [.int n'])->ThAt (cq uT H H') v t->TBnd t->(n<=0->∃us,t= .tup us)->Q v H')
inductive spN_law_honest (K:PySem.W.Frag) (m:Nat) (vs:List V) (H:Hp) (Q:VK) (E:XK):Prop where
 | mk (pa ma ta lf:Addr) (p:List Int) (rs:List Addr) (may:List (List Int)) (U:List Int) (ts:List (Addr×Addr×Str×Int×List Nat)) (n cell:Int) (_:vs=[.ref pa,.ref ma,.ref ta,.ref lf,.int cell]) (_:cu lf H pa=some (.lst (p.map V.int))) (_:May K (cu lf H) ma rs may U) (_:Ties K (cu lf H) ta ts 100) (_:bO p) (_:p.length<=may.length) (_:may.length<=p.length+m) (_:H lf=some (.lst [.int n])) (_:∀v (c:Str) (r:Th) (n':Int) H',Kept1 lf H H'->n'<=n->H' lf=some (.lst [.int n'])->ThAt (cq uT H H') v (.tup [.str c,r])->TBnd r->Builtin.Str.tooLong (uJ c).length=false->(n<=0->TrOk r)->Q v H')
theorem eA {lf:Addr} {H H':Hp} {o:HO} (h:H lf=some o) (s:Same H H'):Kept1 lf H H':=⟨cT s,o,s _ _ h⟩
theorem nq {bs:List Int} (h:bs.length<=100):TrOk (.lst (bs.map wX)):= .lst (by rw[xM];exact h) fun t ht=>by
 obtain⟨x,_,rfl⟩:=yQ.mp ht;exact .inl ⟨_,rfl⟩
theorem b7:FnScope ["pattern","lists","ties","left","cell","place","blocks","wide"] ["pattern","lists","ties","left","cell"] (ak dk):=⟨rfl,rfl,rfl,by decide +kernel,rfl,by decide +kernel,by decide +kernel⟩
theorem iT (D:Dfs K mg aF dF) (T:Txt mg) (n:Nat) (Glaw_paper:FnOk P w K mg base aY (10+2*n) (aF 33) (dF 33) ["pattern","lists","ties","left","cell"] (spN_law_paper K n)):FnOk P w K mg base aY (10+2*n+1) (aF 32) (dF 32) ["pattern","lists","ties","left","cell"] (spN_law_honest K n):=by
 have Glaw_breaks:FnOk P w K mg base aY 2 (aF 23) (dF 23) ["pattern","tie"] (cN K):=eK D T
 have Glaw_blocks:FnOk P w K mg base aY 4 (aF 28) (dF 28) ["pattern","lists"] (sp_law_blocks K):=iP D T
 refine D.law_honest.fn.ok b7 (fun vs H Q E h=>?_) (fun cdv A outer s H vs Q E hr h=>?_)
 ·obtain⟨pa,ma,ta,lf,p,rs,may,U,ts,k0,cell,rfl,_⟩:=h;rfl
 obtain⟨pa,ma,ta,lf,p,rs,may,U,ts,k0,cell,rfl,hpa,hm,tt,c,hl,hlm,hlf,q⟩:=h
 have rk:Nat.add 10 (Nat.mul 2 n)=10+2*n:=rfl
 have hu:=aV hr
 refine aE 4 (ah (aj (au (aa ar (aa (bb ["k","pattern","lists","ties","left","cell"] [none,some 0,some 1,some 2,some 3,some 4] rfl (aU rfl T.z_range (aa (ao bE (pv 7) af) ab)) (fun _=>aA (i:=0) (bq (N:=["k","pattern","lists","ties","left","cell"]) (by decide +kernel)) rfl (Or.inl rfl)) (fun _=>bJ) (fun _=>(pc D.law_paper Glaw_paper (hr.mono (by have:=rk;omega)) (aa (ao cW (pv 1) (aq (aa (pv 0) ab))) (aa (pv 2) (aa (pv 3) (aa (pv 4) (aa (pv 5) ab))))))) ((.cons (fun _ e=>by cases e) (.cons (fun _ e=>by cases e;exact⟨rfl,rfl⟩) (.cons (fun _ e=>by cases e;exact⟨rfl,rfl⟩) (.cons (fun _ e=>by cases e;exact⟨rfl,rfl⟩) (.cons (fun _ e=>by cases e;exact⟨rfl,rfl⟩) (.cons (fun _ e=>by cases e;exact⟨rfl,rfl⟩) .nil)))))))) ab))))) ?_
 intro Z0 z0
 refine aE 3 (ag (aC (i:=7) b7.nd rfl (Or.inl rfl) (ai (kM w) (by rfl) T.z_len boot_len (aa (aJ (iL w K) (by rfl) T.z_set PyProof.Rows.boot_set (aa (pv 0) ab)) ab))) z0) ?_
 intro Z0 z0
 refine aE 2 (ag (aK (PW.pt (fk (av (xa K hr.units) (pv 6) (aq ab) (ax _)) (dy (av bM (ai (bx K) (by rfl) T.z_len boot_len (aa (pv 0) ab)) (ai (bx K) (by rfl) T.z_len boot_len (aa (pv 1) ab)) (ax _)))))
    (ah (aj (au (aa ar (aa (pv 6) ab)))))
    aw) z0) ?_
 intro Z0 z0
 refine aE 1 (ag (aC (i:=6) b7.nd rfl (Or.inl rfl) (pc D.law_blocks Glaw_blocks (hr.mono (by have:=rk;omega)) (aa (pv 0) (aa (pv 1) ab)))) z0) ?_
 intro Z0 z0
 refine⟨_,(ag (bX PassesOwn.never rfl (aU rfl T.z_range (aa (ai (bx K) (by rfl) T.z_len boot_len (aa (pv 2) ab)) ab)) (aA (i:=5) b7.nd rfl (Or.inl rfl))
    (ah (aK (bg (pc D.law_breaks Glaw_breaks (hr.mono (by have:=rk;omega)) (aa (pv 0) (aa (aB (cP K) (pv 2) (pv 5) (fun _ _=>rfl)) ab))))
     (ah (aj (au (aa ar (aa (pv 5) ab)))))
     aw))) z0),?_⟩
 have m6:=hm.m6
 have dl:=bZ p
 have sH:Same (cu lf H) H:=k8
 have hmH:=hm.same sH
 have ttL:=sH.seq tt.ls
 have ttE:∀x∈ts,TieT H x:=fun x hx=>(tt.ea x hx).same sH
 have tln:=tt.ln
 have hpaH:=sH _ _ hpa
 refine⟨_,rfl,_,_,rfl,.inl ⟨_,ttL,rfl⟩,_,rfl,fI _,by rw[xM];omega,?_⟩
 have e0:(((ts.map fun x=>V.ref x.1).length:Nat):Int).toNat=ts.length:=by rw[xM];omega
 rw[e0]
 refine bH (n:=ts.length) (fun i σ Hx=>∃x:Option V,σ=[some (.ref pa),some (.ref ma),some (.ref ta),some (.ref lf),some (.int cell),x,none,none]/\Same H Hx) ⟨none,rfl,Same.refl _⟩ ?_ ?_
 ·rintro i σ Hx hi ⟨x,rfl,sx⟩
  have ei:(0:Int)+(i:Int)=((i:Nat):Int):=by omega
  rw[ei]
  have hx:ts[i]?=some ts[i]:=xK hi
  generalize ts[i]=tx at hx
  have te:=(ttE tx (xT hx)).same sx
  refine⟨_,rfl,_,rfl,_,rfl,ta,_,_,_,rfl,rfl,sx.seq ttL,aO (by rw[xR,hx];rfl),pa,tx.1,tx.2.1,p,tx.2.2.2.2,tx.2.2.1,tx.2.2.2.1,rfl,SqL.of (sx _ _ hpaH),SqT.of te.tp,SqT.of te.ts,te.wd,te.sl,fun H1 s1=>⟨_,rfl,pO (fun hb=>?_) fun hb=>?_⟩⟩
  ·refine⟨_,rfl,cb,fun t nt=>?_⟩
   have s2:=(sx.trans s1).to (o:= .tup [.str "tie",.int ((i:Nat):Int)]) nt
   exact q _ _ _ k0 _ (eA hlf s2) (Int.le_refl _) (s2 _ _ hlf) (dG (aX ((sx.trans s1).free nt) ae) .str .int) .int rfl fun _=> .int
  ·exact⟨_,rfl,sx.trans s1⟩
 rintro σ H1 ⟨x,rfl,s1⟩
 refine⟨_,rfl,_,rfl,pa,ma,p,rs,may,U,rfl,SqL.of (s1 _ _ hpaH),hmH.same s1,c,hl,fun bk bs H2 s2 nbk hbk bl=>?_⟩
 have s02:=s1.trans s2
 have nbk0:=s1.free nbk
 refine⟨_,rfl,cb,fun e ne=>?_⟩
 have s3:=Same.new (o:= .lst []) ne
 refine⟨1,_,mT (SqL.of (s3 _ _ hbk)) (SqL.of ae),by decide,rfl,_,rfl,eF (fun he=>?_) fun he=>?_⟩
 ·refine⟨_,rfl,cb,fun t nt=>?_⟩
  have s4:=(s02.trans s3).to (o:= .tup [.str "short",.ref bk]) nt
  exact q _ _ _ k0 _ (eA hlf s4) (Int.le_refl _) (s4 _ _ hlf) (dG (aX ((s02.trans s3).free nt) ae) .str (fK (aX nbk0 ((s3.to nt) _ _ hbk)))) (dE (by omega)) rfl fun _=>nq bl
 have s03:=s02.trans s3
 have hbk3:=s3 _ _ hbk
 generalize aI H2 e (.lst [])=H3 at s03 hbk3
 refine⟨_,rfl,_,_,rfl,.inl ⟨_,SqL.of (s03 _ _ hpaH),rfl⟩,_,rfl,_,_,rfl,.inl ⟨_,(hmH.same s03).ls,rfl⟩,rfl,_,rfl,eO (fun e=>?_) fun e=>?_⟩
 ·refine⟨_,rfl,cb,fun t nt=>?_⟩
  have s4:=s03.to (o:= .tup [.str "short",.ref bk]) nt
  exact q _ _ _ k0 _ (eA hlf s4) (Int.le_refl _) (s4 _ _ hlf) (dG (aX (s03.free nt) ae) .str (fK (aX nbk0 ((Same.new nt) _ _ hbk3)))) (dE (by omega)) rfl fun _=>nq bl
 rw[xM,xM,hm.po.len]at e
 have hlt:p.length<may.length:=by omega
 refine⟨_,rfl,pa,p,rfl,SqL.of (s03 _ _ hpaH),by omega,fun S nS=>⟨S,_,rfl,ae,?_⟩⟩
 have s4:=Same.new (o:= .ext (SX w S (dd p))) nS
 have s04:=s03.trans s4
 generalize aI H3 S (.ext (SX w S (dd p)))=H4 at s4 s04
 refine⟨_,rfl,_,_,rfl,rfl,_,rfl,fI _,by omega,?_⟩
 have e1:((((dd p).length:Nat):Int)+1).toNat=(dd p).length+1:=by omega
 rw[e1]
 refine qw (n:=(dd p).length+1) (fun acc ys Hx=>acc≠lf/\H acc=none/\Kept1 lf H Hx/\(∃n':Int,n'<=k0/\Hx lf=some (.lst [.int n']))/\∃us:List Th,ys.length=us.length/\AllTh (cu acc (cq uT H Hx)) ys us/\(∀t∈us,TBnd t)/\(k0<=0->∀t∈us,∃xs,t= .tup xs)) (by omega) ?_ ?_ ?_ ?_
 ·rintro acc ys Hx o ⟨a1,a2,a3,⟨n',a4,a5⟩,us,a6,a7,a8,a9⟩
  refine⟨a1,a2,⟨fun b u h=>?_,.lst [.int n'],?_⟩,⟨n',a4,?_⟩,us,a6,a7.same fun b u h=>?_,a8,a9⟩
  ·obtain⟨nb,h'⟩:=c5 h
   rw[bQ nb,ay (aD h' a2)]
   exact a3.at nb h'
  ·rw [ay a1.symm];exact a5
  ·rw [ay a1.symm];exact a5
  ·obtain⟨nb,h'⟩:=c5 h
   obtain⟨h1,h2⟩:=iq h'
   rw[bQ nb]
   exact aX h1 (by rw[ay nb];exact h2)
 ·intro acc nacc
  have nlf:acc≠lf:=fun z=>by rw[z,s04 _ _ hlf]at nacc;cases nacc
  exact⟨nlf,s04.free nacc,eA hlf (s04.to nacc),⟨k0,Int.le_refl _,(s04.to nacc) _ _ hlf⟩,[],rfl,(fun i v t h _=>by cases h),(fun t h=>by cases h),fun _ t h=>by cases h⟩
 ·rintro acc i ys H5 R hi nacc hacc hys ⟨a1,a2,a3,⟨n',a4,a5⟩,us,a6,a7,a8,a9⟩ k
  have ei:(0:Int)+(i:Int)=((i:Nat):Int):=by omega
  rw[ei]
  have npa:pa≠lf:=(c5 hpa).1
  have hpa5:=a3.1 _ _ hpa
  refine⟨_,rfl,_,rfl,cb,fun q1 nq1=>?_⟩
  have t1:=Same.new (o:= .lst [V.int ((i:Nat):Int)]) nq1
  refine⟨pa,q1,_,_,rfl,rfl,t1 _ _ (k8 _ _ hpa5),ae,oR (by simp;omega),fun r nr=>?_⟩
  have e5:p.map V.int++[V.int ((i:Nat):Int)]=(p++[((i:Nat):Int)]).map V.int:=by rw[yo];rfl
  rw[e5]
  have t2:=t1.to (o:= .lst ((p++[((i:Nat):Int)]).map V.int)) nr
  have hr6:aI (aI H5 q1 (.lst [V.int ((i:Nat):Int)])) r (.lst ((p++[((i:Nat):Int)]).map V.int)) r=some (.lst ((p++[((i:Nat):Int)]).map V.int)):=ae
  have nrlf:r≠lf:=fun z=>by rw[z,t1 _ _ a5]at nr;cases nr
  generalize aI (aI H5 q1 (.lst [V.int ((i:Nat):Int)])) r (.lst ((p++[((i:Nat):Int)]).map V.int))=H6 at t2 hr6
  have s6:Same (cu lf H) (cu lf H6):=a3.1.trans (cT t2)
  refine⟨_,rfl,_,rfl,_,rfl,_,rfl,r,ma,ta,lf,p++[(i:Int)],rs,may,U,ts,n',cell,rfl,by rw[bQ nrlf];exact hr6,hm.same s6,⟨s6.seq tt.ls,fun x hx=>(tt.ea x hx).same s6,tt.ln⟩,eU c (by omega),by simp;omega,by simp;omega,t2 _ _ a5,fun v t n2 H7 k7 ln l7 g7 tb tu=>?_⟩
  have kk:Kept1 lf H H7:=⟨s6.trans k7.1,_,l7⟩
  refine k v H7 (k7.at a1 (t2 _ _ hacc)) ⟨a1,a2,kk,⟨n2,by omega,l7⟩,us++[t],by rw[xV,xV,a6];rfl,lz a6 (a7.same fun b u h=>?_) (g7.same fun b u h=>?_),fun x hx=>?_,fun z x hx=>?_⟩
  ·have k57:Kept1 lf H5 H7:=⟨(cT t2).trans k7.1,_,l7⟩
   obtain⟨nb,h'⟩:=c5 h
   obtain⟨h1,h2⟩:=iq h'
   rw[bQ nb]
   exact aX h1 (k57.at (fun z=>by rw[z,hlf]at h1;cases h1) h2)
  ·obtain⟨h1,h2⟩:=iq h
   have nb:b≠acc:=fun z=>by rw[z,t2 _ _ hacc]at h1;cases h1
   rw[bQ nb]
   have k6:Kept1 lf H H6:=⟨s6,_,t2 _ _ a5⟩
   exact aX (k6.there h1) h2
  ·rcases ye.mp hx with y | y
   ·exact a8 x y
   ·rw [xX.mp y];exact tb
  ·rcases ye.mp hx with y | y
   ·exact a9 z x y
   ·rw [xX.mp y];exact tu (by omega)
 ·rintro acc ys H5 nacc hacc hys ⟨a1,a2,a3,⟨n',a4,a5⟩,us,a6,a7,a8,a9⟩
  refine⟨cb,fun t nt=>?_⟩
  have t1:=Same.new (o:= .tup [.str "split",.ref acc]) nt
  refine q _ _ (.lst us) n' _ ⟨a3.1.trans (cT t1),_,t1 _ _ a5⟩ a4 (t1 _ _ a5) (dG (aX (a3.there nt) ae) .str (.lst (aX a2 (t1 _ _ hacc)) a6 (a7.same fun b u h=>?_))) (.lst (by omega) a8) rfl fun z=> .lst (by omega) fun x hx=> .inr (a9 z x hx)
  obtain⟨nb,h'⟩:=c5 h
  obtain⟨h1,h2⟩:=iq h'
  exact aX h1 (t1 _ _ h2)
def fQ (K:PySem.W.Frag):Sp:=spN_law_paper K 7
theorem dt:FnScope ["pattern","lists","ties","left","cell","here","paper"] ["pattern","lists","ties","left","cell"] (ak dQ):=⟨rfl,rfl,rfl,by decide +kernel,rfl,by decide +kernel,by decide +kernel⟩
theorem j9 (D:Dfs K mg aF dF) (T:Txt mg):FnOk P w K mg base aY 24 (aF 33) (dF 33) ["pattern","lists","ties","left","cell"] (fQ K):=by
 have Glaw_turned:FnOk P w K mg base aY 2 (aF 31) (dF 31) ["paper","cell"] (sp_law_turned K):=iS D T
 have all:∀n,FnOk P w K mg base aY (10+2*n) (aF 33) (dF 33) ["pattern","lists","ties","left","cell"] (spN_law_paper K n):=by
  intro n
  induction n with
  | zero=>
   have no:∀vs H Q E,¬spN_law_paper K 0 vs H Q E:=fun vs H Q E h=>by
    obtain⟨pa,ma,ta,lf,p,rs,may,U,ts,k0,cell,_,_,_,_,_,h1,h2,_⟩:=h
    omega
   exact⟨fun vs H Q E h=>absurd h (no vs H Q E),fun A outer s H args us vs Q E _ _ _ _ h=>absurd h (no vs H Q E)⟩
  | succ n Glaw_paper=>
   have Glaw_honest:=iT D T n Glaw_paper
   refine D.law_paper.fn.ok dt (fun vs H Q E h=>?_) (fun cdv A outer s H vs Q E hr h=>?_)
   ·obtain⟨pa,ma,ta,lf,p,rs,may,U,ts,k0,cell,rfl,_⟩:=h;rfl
   obtain⟨pa,ma,ta,lf,p,rs,may,U,ts,k0,cell,rfl,hpa,hm,tt,c,hl,hlm,hlf,q⟩:=h
   have rk:Nat.add 10 (Nat.mul 2 n+1)=10+(2*n+1):=rfl
   refine aE 4 (ah (aj (pv 6))) ?_
   intro Z0 z0
   refine aE 3 (ag (aK (bg (pv 5))
    (ah (aj (pc D.law_turned Glaw_turned (hr.mono (by have:=rk;omega)) (aa (pv 6) (aa (pv 4) ab)))))
    aw) z0) ?_
   intro Z0 z0
   refine aE 2 (ag (aC (i:=6) dt.nd rfl (Or.inl rfl) (pc D.law_honest Glaw_honest (hr.mono (by have:=rk;omega)) (aa (pv 0) (aa (pv 1) (aa (pv 2) (aa (pv 3) (aa (pv 4) ab))))))) z0) ?_
   intro Z0 z0
   refine aE 1 (ag (aC (i:=5) dt.nd rfl (Or.inl rfl) (bI bM (aB (cP K) (pv 3) af (fun _ _=>rfl)) af (ax _))) z0) ?_
   intro Z0 z0
   refine⟨_,(ag (lE (ao dA (aB (cP K) (pv 3) af (fun _ _=>rfl)) af) (tH (pv 3) af pd)) z0),?_⟩
   have m6:=hm.m6
   refine⟨_,rfl,lf,_,_,_,rfl,rfl,SqL.of hlf,rfl,_,_,rfl,rfl,_,rfl,lf,_,_,0,rfl,rfl,hlf,rfl,?_⟩
   have eh:cu lf (aI H lf (.lst [.int (k0-1)]))=cu lf H:=qv
   have hlf1:aI H lf (.lst [.int (k0-1)]) lf=some (.lst [.int (k0-1)]):=ae
   have dom:∀b,aI H lf (.lst [.int (k0-1)]) b=none->H b=none:=fun b hb=>by
    by_cases z:b=lf
    ·rw [z,ae]at hb;cases hb
    ·rw [ay z]at hb;exact hb
   generalize hE1:aI H lf _=H1
   have hE1:aI H lf (.lst [.int (k0-1)])=H1:=hE1
   rw[hE1]at eh hlf1 dom
   refine⟨_,rfl,lf,_,_,_,rfl,rfl,SqL.of hlf1,rfl,rfl,?_⟩
   refine⟨_,rfl,_,rfl,_,rfl,_,rfl,_,rfl,pa,ma,ta,lf,p,rs,may,U,ts,k0-1,cell,rfl,by rw[eh];exact hpa,by rw[eh];exact hm,by rw[eh];exact tt,c,hl,by omega,hlf1,fun v x r n' H2 k2 ln l2 g2 tb sh tr=>?_⟩
   have kk:Kept1 lf H H2:=⟨by rw[<- eh];exact k2.1,_,l2⟩
   refine⟨_,rfl,_,rfl,eO (fun z=>?_) fun z=>?_⟩
   ·refine⟨_,rfl,_,rfl,v,cell,x,r,cq uT H1 H2,rfl,qz,g2,tb,tr (by omega),sh,fun v' t' H3 s3 g3 tb3=>?_⟩
    refine q v' t' n' H3 ⟨kk.1.trans (cT s3),_,s3 _ _ l2⟩ (by omega) (s3 _ _ l2) (g3.same fun b u h=>?_) tb3 fun z=>by omega
    rcases qy h with⟨h1,h2⟩ | ⟨⟨u',h1⟩,h2⟩
    ·exact aX (kk.there h1) h2
    ·obtain⟨h3,h4⟩:=iq h2
     exact aX (dom b h3) (s3 _ _ h4)
   ·refine⟨_,rfl,q v _ n' H2 kk (by omega) l2 (g2.same fun b u h=>?_) (fL .str tb) fun _=>⟨_,rfl⟩⟩
    obtain⟨h3,h4⟩:=iq h
    exact aX (dom b h3) h4
 exact all 7
inductive sp_law_wrapped (K:PySem.W.Frag) (vs:List V) (H:Hp) (Q:VK) (E:XK):Prop where
 | mk (v:V) (t:Th) (ca:Addr) (cs:List Int) (_:vs=[v,.ref ca]) (_:SqL K H ca (cs.map V.int)) (_:ThAt H v t) (_:TBnd t) (_:∀v' t' H',Same H H'->ThAt H' v' t'->TBnd t'->Q v' H')
theorem cF:FnScope ["thing","cells","cell"] ["thing","cells"] (ak cM):=⟨rfl,rfl,rfl,by decide +kernel,rfl,by decide +kernel,by decide +kernel⟩
theorem iD (D:Dfs K mg aF dF) (T:Txt mg):FnOk P w K mg base aY 1 (aF 34) (dF 34) ["thing","cells"] (sp_law_wrapped K):=by
 refine D.law_wrapped.fn.ok cF (fun vs H Q E h=>?_) (fun cdv A outer s H vs Q E hr h=>?_)
 ·obtain⟨v,t,ca,cs,rfl,_⟩:=h;rfl
 ·have hu:=aV hr
  obtain⟨v,t,ca,cs,rfl,hS,ht,tb,q⟩:=h
  refine⟨_,(ag (bX PassesOwn.never rfl (pM K (pv 1)) (aA (i:=2) cF.nd rfl (Or.inl rfl))
    (ah (aC (i:=0) cF.nd rfl (Or.inl rfl) (aB (cP K) (aq (aa (aq (aa (pv 0) ab)) (aa (au (aa (pv 0) ab)) (aa (au (aa ar (aa (aq (aa (pv 0) ab)) ab))) (aa (au (aa ar (aa (pv 0) ab))) (aa (au (aa ar (aa (aq (aa (pv 0) ab)) ab))) ab)))))) (ao aQ (pv 2) af) (fun _ _=>rfl)))))
   (ah (aj (pv 0)))),?_⟩
  refine⟨_,rfl,ca,rfl,⟨_,hS⟩,?_⟩
  refine dz (K:=K) (a:=ca) (xs:=cs.map V.int) (fun i σ Hx=>∃(v:V) (t:Th) (y:Option V),σ=[some v,some (.ref ca),y]/\Same H Hx/\ThAt Hx v t/\TBnd t) ⟨v,t,none,rfl,Same.refl _,ht,tb⟩ (fun i σ Hx _ hq__=>by obtain⟨_,_,_,_,s,_⟩:=hq__;exact s.seq hS) ?_ ?_
  ·rintro i y σ Hx hi ⟨v,t,y',rfl,sx,ht,tb⟩
   obtain⟨d,hd,rfl,ed⟩:=gh hi
   refine⟨_,rfl,cb,fun a1 n1=>?_⟩
   have s1:=Same.new (o:= .lst [v]) n1
   have h1:aI Hx a1 (.lst [v]) a1=some (.lst [v]):=ae
   generalize aI Hx a1 (.lst [v])=H1 at s1 h1
   refine⟨_,rfl,cb,fun a2 n2=>?_⟩
   have s2:=Same.new (o:= .tup [v]) n2
   have h2:aI H1 a2 (.tup [v]) a2=some (.tup [v]):=ae
   generalize aI H1 a2 (.tup [v])=H2 at s2 h2
   refine⟨_,rfl,cb,fun a3 n3=>⟨cb,fun a4 n4=>?_⟩⟩
   have s4:=(Same.new (o:= .lst [v]) n3).to (o:= .tup [.str "split",.ref a3]) n4
   have h3:aI (aI H2 a3 (.lst [v])) a4 (.tup [.str "split",.ref a3]) a3=some (.lst [v]):=Same.new n4 _ _ ae
   have h4:aI (aI H2 a3 (.lst [v])) a4 (.tup [.str "split",.ref a3]) a4=some (.tup [.str "split",.ref a3]):=ae
   generalize aI (aI H2 a3 (.lst [v])) a4 (.tup [.str "split",.ref a3])=H4 at s4 h3 h4
   refine⟨_,rfl,cb,fun a5 n5=>?_⟩
   have s5:=Same.new (o:= .tup [.str "tie",v]) n5
   have h5:aI H4 a5 (.tup [.str "tie",v]) a5=some (.tup [.str "tie",v]):=ae
   generalize aI H4 a5 (.tup [.str "tie",v])=H5 at s5 h5
   refine⟨_,rfl,cb,fun a6 n6=>⟨cb,fun a7 n7=>?_⟩⟩
   have s7:=(Same.new (o:= .lst [v]) n6).to (o:= .tup [.str "short",.ref a6]) n7
   have h6:aI (aI H5 a6 (.lst [v])) a7 (.tup [.str "short",.ref a6]) a6=some (.lst [v]):=Same.new n7 _ _ ae
   have h7:aI (aI H5 a6 (.lst [v])) a7 (.tup [.str "short",.ref a6]) a7=some (.tup [.str "short",.ref a6]):=ae
   generalize aI (aI H5 a6 (.lst [v])) a7 (.tup [.str "short",.ref a6])=H7 at s7 h6 h7
   refine⟨cb,fun a8 n8=>?_⟩
   have s8:=Same.new (o:= .lst [.ref a1,.ref a2,.ref a4,.ref a5,.ref a7]) n8
   have h8:aI H7 a8 (.lst [.ref a1,.ref a2,.ref a4,.ref a5,.ref a7]) a8=some (.lst [.ref a1,.ref a2,.ref a4,.ref a5,.ref a7]):=ae
   generalize aI H7 a8 (.lst [.ref a1,.ref a2,.ref a4,.ref a5,.ref a7])=H8 at s8 h8
   have s78:=s7.trans s8
   have s58:=s5.trans s78
   have s48:=s4.trans s58
   have s28:=s2.trans s48
   have s08:=s1.trans s28
   have ht8:=ht.same s08
   have e8:AllTh H8 [.ref a1,.ref a2,.ref a4,.ref a5,.ref a7] [.lst [t],.tup [t],.tup [.str "split",.lst [t]],.tup [.str "tie",t],.tup [.str "short",.lst [t]]]:=fun i x z hx hz=>by
    match i with
    | 0=>cases hx;cases hz;exact mw (s28 _ _ h1) ht8
    | 1=>cases hx;cases hz;exact qN (s48 _ _ h2) ht8
    | 2=>cases hx;cases hz;exact dG (s58 _ _ h4) .str (mw (s58 _ _ h3) ht8)
    | 3=>cases hx;cases hz;exact dG (s78 _ _ h5) .str ht8
    | 4=>cases hx;cases hz;exact dG (s8 _ _ h7) .str (mw (s8 _ _ h6) ht8)
    | i+5=>cases hx
   obtain⟨x,z,hx,hz,az⟩:=nh (n:=5) rfl e8 rfl (by decide) d
   have bz:TBnd z:=(show ∀z∈[.lst [t],.tup [t],.tup [.str "split",.lst [t]],.tup [.str "tie",t],.tup [.str "short",.lst [t]]],TBnd z from List.forall_mem_cons.mpr ⟨my tb,List.forall_mem_cons.mpr ⟨qO tb,List.forall_mem_cons.mpr ⟨fL .str (my tb),List.forall_mem_cons.mpr ⟨fL .str tb,List.forall_mem_cons.mpr ⟨fL .str (my tb),fun _ z=>nomatch z⟩⟩⟩⟩⟩) z hz
   exact⟨_,rfl,_,_,rfl,rfl,(show(0:Int)<5 by decide),a8,_,_,_,rfl,rfl,SqL.of h8,hx,x,z,_,rfl,sx.trans s08,az,bz⟩
  ·rintro σ Hx ⟨v,t,y',rfl,sx,ht,tb⟩
   exact⟨_,rfl,q v t Hx sx ht tb⟩
def kb (K:PySem.W.Frag):Sp:=fun vs H Q _=>∃(a:Addr) (ns:List Int),vs=[.ref a]/\SqL K H a (ns.map V.int)/\ns.length<=63/\∀H',Q (.bl true) H'
theorem dv:FnScope ["script","menu","lists","ties","left","paper","handed","found"] ["script"] (ak qP):=⟨rfl,rfl,rfl,by decide +kernel,rfl,by decide +kernel,by decide +kernel⟩
theorem uM (D:Dfs K mg aF dF) (T:Txt mg):FnOk P w K mg base aY 26 (aF 35) (dF 35) ["script"] (kb K):=by
 have Gshows:FnOk P w K mg base aY 25 (aF 10) (dF 10) ["may","ties","paper"] (sp_shows K):=qU D T
 have Glaw_cell:FnOk P w K mg base aY 1 (aF 17) (dF 17) ["script","k"] (sp_law_cell K):=dU D T
 have Glaw_drawn:FnOk P w K mg base aY 3 (aF 21) (dF 21) ["script","top"] (sp_law_drawn K):=j7 D T
 have Glaw_shows:FnOk P w K mg base aY 17 (aF 27) (dF 27) ["pattern","lists","ties","paper"] (fP K):=j8 D T
 have Glaw_paper:FnOk P w K mg base aY 24 (aF 33) (dF 33) ["pattern","lists","ties","left","cell"] (fQ K):=j9 D T
 have Glaw_wrapped:FnOk P w K mg base aY 1 (aF 34) (dF 34) ["thing","cells"] (sp_law_wrapped K):=iD D T
 refine D.law.fn.ok dv (fun vs H Q E h=>?_) (fun cdv A outer s H vs Q E hr h=>?_)
 ·obtain⟨a,ns,rfl,_⟩:=h;rfl
 ·have hu:=aV hr
  obtain⟨a,ns,rfl,hS,hl,q⟩:=h
  refine aE 7 (ah (aj (bI bM (pv 7) (pc D.law_shows Glaw_shows (hr.mono (by decide)) (aa (aq ab) (aa (pv 2) (aa (pv 3) (aa (pv 5) ab))))) (ax _)))) ?_
  intro Z0 z0
  refine aE 6 (ag (aK (PW.pt (fk (cA (bg (ai (fA K) (by rfl) T.z_isinstance boot_isinstance (aa (pv 7) (aa (jE T.z_bool) ab))))) (dy (av (xa K hr.units) (pv 6) (aq (aa (pv 2) (aa (pv 3) ab))) (ax _)))))
    (ah (aj bS))
    aw) z0) ?_
  intro Z0 z0
  refine aE 5 (ag (aC (i:=7) dv.nd rfl (Or.inl rfl) (pc D.shows Gshows (hr.mono (by decide)) (aa (aB (cP K) (pv 6) af (fun _ _=>rfl)) (aa (aB (cP K) (pv 6) af (fun _ _=>rfl)) (aa (pv 5) ab))))) z0) ?_
  intro Z0 z0
  refine aE 4 (ag (aC (i:=6) dv.nd rfl (Or.inl rfl) (aq (aa (bb ["row"] [none] rfl (pM K (pv 2)) (fun _=>aA (i:=0) (bq (N:=["row"]) (by decide +kernel)) rfl (Or.inl rfl)) (fun _=>bJ) (fun _=>(aJ (mS K) (by rfl) T.z_list boot_list (aa (pv 0) ab))) ((.cons (fun _ e=>by cases e) .nil))) (aa (aJ (mS K) (by rfl) T.z_list boot_list (aa (pv 3) ab)) ab)))) z0) ?_
  intro Z0 z0
  refine aE 3 (mU (aK (av bM (ao aQ (ao bf (pc D.law_cell Glaw_cell (hr.mono (by decide)) (aa (pv 0) (aa af ab))) af) af) af (ax _))
    (ah (aC (i:=5) dv.nd rfl (Or.inl rfl) (pc D.law_wrapped Glaw_wrapped (hr.mono (by decide)) (aa (pv 5) (aa (g4 (w9 K) (pv 0) (gH af) (gH af)) ab)))))
    aw) z0) ?_
  intro Z0 z0
  refine aE 2 (ag (aC (i:=5) dv.nd rfl (Or.inl rfl) (pc D.law_paper Glaw_paper (hr.mono (by decide)) (aa (aq ab) (aa (pv 2) (aa (pv 3) (aa (pv 4) (aa (pc D.law_cell Glaw_cell (hr.mono (by decide)) (aa (pv 0) (aa (ao bE (ao bf (ai (bx K) (by rfl) T.z_len boot_len (aa (pv 0) ab)) af) af) ab))) ab))))))) z0) ?_
  intro Z0 z0
  refine aE 1 (ag (aC (i:=4) dv.nd rfl (Or.inl rfl) (aq (aa (ao bE af (ao aQ (pc D.law_cell Glaw_cell (hr.mono (by decide)) (aa (pv 0) (aa (ao bf (ai (bx K) (by rfl) T.z_len boot_len (aa (pv 0) ab)) af) ab))) af)) ab))) z0) ?_
  intro Z0 z0
  refine⟨_,(ag (lE (pc D.law_drawn Glaw_drawn (hr.mono (by decide)) (aa (pv 0) (aa af ab))) (wN K rfl (cB (aA (i:=1) dv.nd rfl (Or.inl rfl)) (cB (aA (i:=2) dv.nd rfl (Or.inl rfl)) (cB (aA (i:=3) dv.nd rfl (Or.inl rfl)) jx))))) z0),?_⟩
  refine⟨_,rfl,a,ns,4,rfl,hS,hl,by decide,by decide,fun l m L T ms rs ps ts H1 s1 d nl=>?_⟩
  refine⟨l,_,rfl,SqL.of d.hl,rfl,_,_,rfl,_,_,rfl,_,_,rfl,rfl,?_⟩
  have m6:=d.p6
  have m8:=d.m8
  have t12:=d.t12
  have hS1:=s1.seq hS
  have ediv:((ns.map V.int).length:Int)/2=((ns.length/2:Nat):Int):=by rw[xM];omega
  refine⟨_,rfl,_,rfl,_,_,rfl,.inl ⟨_,hS1,rfl⟩,_,_,rfl,rfl,(show kl _ 2 from⟨by decide,by decide⟩),a,ns,ns.length/2,(by show [V.ref a,V.int (((ns.map V.int).length:Int)/2)]=_;rw[ediv]),hS1,by omega,by omega,fun H2 s12=>?_⟩
  generalize cv ns (ns.length/2)=cl
  refine⟨_,_,rfl,rfl,(show(0:Int)<12 by decide),_,_,rfl,rfl,cb,fun lf nlf=>?_⟩
  have s23:=Same.new (o:= .lst [.int (1+cl%12)]) nlf
  have hlf:aI H2 lf (.lst [.int (1+cl%12)]) lf=some (.lst [.int (1+cl%12)]):=ae
  have nlf1:=s12.free nlf
  generalize hE:aI H2 lf _=H3
  have hE:aI H2 lf (.lst [.int (1+cl%12)])=H3:=hE
  rw[hE]at s23 hlf
  have s13:=s12.trans s23
  refine⟨cb,fun e ne=>?_⟩
  have s34:=Same.new (o:= .lst []) ne
  have he:aI H3 e (.lst []) e=some (.lst []):=ae
  have nelf:e≠lf:=fun z=>by rw[z,hlf]at ne;cases ne
  generalize aI H3 e (.lst [])=H4 at s34 he
  have s14:=s13.trans s34
  have hS4:=s14.seq hS1
  refine⟨_,rfl,_,rfl,_,rfl,_,rfl,_,rfl,_,_,rfl,.inl ⟨_,hS4,rfl⟩,_,_,rfl,rfl,(show kl _ 2 from⟨by decide,by decide⟩),_,_,rfl,rfl,a,ns,ns.length/2+1,(by show [V.ref a,V.int (((ns.map V.int).length:Int)/2+1)]=_;rw[ediv];rfl),hS4,by omega,by omega,fun H5 s45=>?_⟩
  have s15:=s14.trans s45
  have s35:=s34.trans s45
  have hidS:Same H1 (cu lf H5):=fun b o h=>by
   have nb:b≠lf:=aD h nlf1
   rw[bQ nb]
   exact s15 _ _ h
  have dh:=d.same hidS
  refine⟨e,L,T,lf,[],rs,ps,ms,ts,_,_,rfl,by rw[bQ nelf];exact s45 _ _ he,dh.may,⟨SqL.of dh.hT,dh.tea,by omega⟩,gf,yx _,by simp;omega,s35 _ _ hlf,fun v t n' H6 k6 ln l6 g6 tb6 _=>?_⟩
  have s16:Same H1 H6:=fun b o h=>k6.at (aD h nlf1) (s15 _ _ h)
  have g6:=g6.same qz
  clear k6 dh hidS he s35 s15 s45 s14 s34 s13 hS4
  refine⟨fun σ H'=>∃v t,σ=[some (.ref a),some (.ref m),some (.ref L),some (.ref T),some (.ref lf),some v,none,none]/\Same H1 H'/\ThAt H' v t/\TBnd t,?_,?_⟩
  ·refine⟨_,rfl,a,ns,0,rfl,s16.seq hS1,by omega,by omega,fun H7 s67=>?_⟩
   have s17:=s16.trans s67
   refine⟨_,_,rfl,rfl,(show kl _ 96 from⟨by decide,by decide⟩),_,_,rfl,rfl,(show(0:Int)<4 by decide),rfl,_,rfl,eO (fun e=>?_) fun e=>?_⟩
   ·refine⟨_,rfl,_,rfl,_,rfl,_,rfl,a,_,rfl,s17.seq hS1,fun c nc=>?_⟩
    rw[show eN (ns.map V.int) (some 9) (some 39)=(((ns.drop 9).take 30).map V.int)from(rM _ 9 39).trans (by rw[zE,List.map_drop])]
    have s78:=Same.new (o:= .lst (((ns.drop 9).take 30).map V.int)) nc
    exact⟨v,t,c,_,rfl,SqL.of ae,g6.same (s67.trans s78),tb6,fun v' t' H' s' a' b'=>⟨v',t',rfl,(s17.trans s78).trans s',a',b'⟩⟩
   ·exact⟨v,t,rfl,s17,g6.same s67,tb6⟩
  rintro σ H2 ⟨v,t,rfl,s12',g2,tb⟩
  have d2:=d.same s12'
  have rl:rs.length=ps.length:=d.rows.len
  refine⟨_,rfl,L,rfl,⟨_,SqL.of d2.hL⟩,?_⟩
  refine oz (SqL.of d2.hL) d2.rows.pools (by omega) (fun r ys H5 R hq k=>⟨_,rfl,r,_,rfl,.inl hq,k⟩) fun h0 hr0 H3 s23 nh0 hh0 hR hfr=>?_
  refine⟨_,rfl,T,_,rfl,.inl (SqL.of (s23 _ _ d2.hT)),fun h1 nh1=>⟨cb,fun hd nhd=>?_⟩⟩
  have s34:=(Same.new (o:= .lst (ts.map fun x=>V.ref x.1)) nh1).to (o:= .lst [.ref h0,.ref h1]) nhd
  have g1:aI (aI H3 h1 (.lst (ts.map fun x=>V.ref x.1))) hd (.lst [.ref h0,.ref h1]) h1=some (.lst (ts.map fun x=>V.ref x.1)):=Same.new nhd _ _ ae
  have gd:aI (aI H3 h1 (.lst (ts.map fun x=>V.ref x.1))) hd (.lst [.ref h0,.ref h1]) hd=some (.lst [.ref h0,.ref h1]):=ae
  generalize aI (aI H3 h1 (.lst (ts.map fun x=>V.ref x.1))) hd (.lst [.ref h0,.ref h1])=H4 at s34 g1 gd
  have s24:=s23.trans s34
  have d4:=d2.same s24
  have hh4:=s34 _ _ hh0
  have hR4:=hR.same s34
  have eqH:∀{Hx:Hp} {nn:Addr},Same H4 Hx->Hx nn=some (.lst [.ref L,.ref T])->DEq K Hx 4 (.ref hd) (.ref nn) true:=fun {Hx nn} s hn=>kY (SqL.of (s _ _ gd)) (SqL.of hn) rfl fun j u v eu ev=>by
   rcases j with _ | _ | j
   ·cases eu;cases ev
    exact(nY (SqL.of (s _ _ hh4)) (hR4.same s).pools (SqL.of (d4.same s).hL) (d4.same s).rows.pools).up
   ·cases eu;cases ev
    exact qr (SqL.of (s _ _ g1)) (SqL.of (d4.same s).hT) (d4.same s).tea
   ·cases eu
  refine⟨_,rfl,hd,_,_,_,rfl,rfl,SqL.of gd,rfl,_,rfl,hd,_,_,_,rfl,rfl,SqL.of gd,rfl,_,rfl,h0,h1,v,hr0,ps,ms,ts,t,rfl,⟨SqL.of hh4,hR4.pools,d.pup,d.psub,m6,by omega⟩,⟨SqL.of g1,d4.tea,by omega⟩,g2.same s24,tb,fun H5 s45=>?_⟩
  refine⟨_,rfl,_,_,_,true,rfl,.bl _,rfl,_,rfl,aW ?_⟩
  refine⟨_,rfl,_,rfl,_,rfl,cb,fun n1 nn1=>?_⟩
  have s56:=Same.new (o:= .lst [.ref L,.ref T]) nn1
  have s46:=s45.trans s56
  refine⟨4,true,eqH s46 ae,by decide,rfl,_,rfl,aW ?_⟩
  generalize aI H5 n1 (.lst [.ref L,.ref T])=H6 at s46 s56
  refine⟨_,rfl,cb,fun e ne=>?_⟩
  have s67:=Same.new (o:= .lst []) ne
  have s27:=(s24.trans s46).trans s67
  have d7:=d2.same s27
  refine⟨_,rfl,_,rfl,_,rfl,e,L,T,v,[],rs,ps,ms,ts,t,rfl,ae,d7.may,⟨SqL.of d7.hT,d7.tea,by omega⟩,gf,yx _,by simp;omega,g2.same s27,tb,fun H9 s89=>⟨rfl,?_⟩⟩
  generalize bU ps (ts.map bD) 7 [] t=b
  have e9:decide (V.bl b=V.bl b)=true:=decide_eq_true rfl
  rw[e9]
  exact q H9
end
def Fd (K:PySem.W.Frag) (nm:Str) (st:Stmt) (f:Addr):Prop:=∃(od an:Option Addr) (sl:Array (Option Value)) (oc kV dc pm cd ct:Value),PySem.W.nsIn K mainGlobals nm=some (some (.ref f))/\K.lookup f=some ⟨oc,od,.func (PySem.W.fnOf nm nm (cX st) (cG st) (ak st) .none kV dc pm an cd ct),sl⟩/\PySem.W.codeIn K cd nm=true/\PySem.W.keepIn K (.ref f)=true
theorem aM {K:PySem.W.Frag} {nm:Str} {st:Stmt} {f:Addr} {h:Heap} {mg:Str->Option Value} {ps:List Str} (X:K.In h) (G:h.Ns mainGlobals mg) (q:Fd K nm st f) (hb:∀(kV dc pm:Value) (an:Option Addr) (cd ct:Value) (us:List Value),us.length=ps.length->bindArgs (PySem.W.fnOf nm nm (cX st) (cG st) (ak st) .none kV dc pm an cd ct) ⟨us,[]⟩=pure (ps.zip us)):∃fd,Def K mg nm st ps f fd/\∀(s:Shared) (us:List Value),us.length=ps.length->BindsTo s fd ⟨us,[]⟩ (ps.zip us):=by
 obtain⟨od,an,sl,oc,kV,dc,pm,cd,ct,a,l,c,k⟩:=q
 have F:=t9 (st:=st) l c k
 exact⟨_,⟨F,F.binds hb,PySem.W.mg_of X G a⟩,fun s us hl=> .of_eq (hb kV dc pm an cd ct us hl)⟩
theorem sX {F:List Value->Prop} {x0:Str} (h:∀v0,F [v0]):∀us:List Value,us.length=[x0].length->F us:=fun us hl=>by obtain⟨_,rfl⟩:=xA hl;exact h _
theorem nu {F:List Value->Prop} {x0 x1:Str} (h:∀v0 v1,F [v0,v1]):∀us:List Value,us.length=[x0,x1].length->F us:=fun us hl=>by obtain⟨_,_,rfl⟩:=xB hl;exact h _ _
theorem sF {F:List Value->Prop} {x0 x1 x2:Str} (h:∀v0 v1 v2,F [v0,v1,v2]):∀us:List Value,us.length=[x0,x1,x2].length->F us:=fun us hl=>by obtain⟨_,_,_,rfl⟩:=xC hl;exact h _ _ _
theorem wZ {F:List Value->Prop} {x0 x1 x2 x3:Str} (h:∀v0 v1 v2 v3,F [v0,v1,v2,v3]):∀us:List Value,us.length=[x0,x1,x2,x3].length->F us:=fun us hl=>by obtain⟨_,_,_,_,rfl⟩:=xD hl;exact h _ _ _ _
theorem xm {F:List Value->Prop} {x0 x1 x2 x3 x4:Str} (h:∀v0 v1 v2 v3 v4,F [v0,v1,v2,v3,v4]):∀us:List Value,us.length=[x0,x1,x2,x3,x4].length->F us:=fun us hl=>by obtain⟨_,_,_,_,_,rfl⟩:=xE hl;exact h _ _ _ _ _
theorem aN {K:PySem.W.Frag} {nm:Str} {st:Stmt} {f:Addr} {od an:Option Addr} {sl:Array (Option Value)} {oc kV dc pm cd ct:Value} (a:PySem.W.nsIn K mainGlobals nm=some (some (.ref f))) (l:K.lookup f=some ⟨oc,od,.func (PySem.W.fnOf nm nm (cX st) (cG st) (ak st) .none kV dc pm an cd ct),sl⟩) (c:PySem.W.codeIn K cd nm=true) (k:PySem.W.keepIn K (.ref f)=true):Fd K nm st f:=⟨od,an,sl,oc,kV,dc,pm,cd,ct,a,l,c,k⟩
theorem uN {l:PySem.W.OpenLaw} {w:World} {K:PySem.W.Frag} {h:Heap} {mg:Str->Option Value} {fa fl f0 f1 f2 f3 f4 f5 f6 f7 f8 f9 f10 f11 f12 f13 f14 f15 f16 f17 f18 f19 f20 f21 f22 f23 f24 f25 f26 f27 f28 f29 f30 f31 f32 f33 f34:Addr} (X:K.In h) (G:h.Ns mainGlobals mg) (hfa:mg "law"=some (.ref fa))
  (q0:Fd K "is_whole" eY f0)
  (q1:Fd K "is_rising" dH f1)
  (q2:Fd K "common" ir f2)
  (q3:Fd K "joined" iu f3)
  (q4:Fd K "width" jU f4)
  (q5:Fd K "grown" jV f5)
  (q6:Fd K "breaks" iw f6)
  (q7:Fd K "unlike" ix f7)
  (q8:Fd K "pools_of" eZ f8)
  (q9:Fd K "pool_of" gp f9)
  (q10:Fd K "shows" jW f10)
  (q11:Fd K "shows_for" dI f11)
  (q12:Fd K "tie_shows" dJ f12)
  (q13:Fd K "short_shows" cK f13)
  (q14:Fd K "is_list_of_blocks" bN f14)
  (q15:Fd K "split_shows" cL f15)
  (q16:Fd K "is_split" fb f16)
  (q17:Fd K "_law_cell" fc f17)
  (q18:Fd K "_law_whole" dM f18)
  (q19:Fd K "_law_menu" fe f19)
  (q20:Fd K "_law_bond" ff f20)
  (q21:Fd K "_law_drawn" dN f21)
  (q22:Fd K "_law_unlike" c7 f22)
  (q23:Fd K "_law_breaks" c8 f23)
  (q24:Fd K "_law_in_all" c9 f24)
  (q25:Fd K "_law_pool" fg f25)
  (q26:Fd K "_law_short" dO f26)
  (q27:Fd K "_law_shows" dP f27)
  (q28:Fd K "_law_blocks" df f28)
  (q29:Fd K "_law_odd" gq f29)
  (q30:Fd K "_law_truths" dg f30)
  (q31:Fd K "_law_turned" di f31)
  (q32:Fd K "_law_honest" dk f32)
  (q33:Fd K "_law_paper" dQ f33)
  (q34:Fd K "_law_wrapped" cM f34)
  (q35:Fd K "law" qP fl)
  (z0:PySem.W.nsIn K mainGlobals "all"=some none)
  (z1:PySem.W.nsIn K mainGlobals "bool"=some none)
  (z2:PySem.W.nsIn K mainGlobals "int"=some none)
  (z3:PySem.W.nsIn K mainGlobals "isinstance"=some none)
  (z4:PySem.W.nsIn K mainGlobals "len"=some none)
  (z5:PySem.W.nsIn K mainGlobals "list"=some none)
  (z6:PySem.W.nsIn K mainGlobals "max"=some none)
  (z7:PySem.W.nsIn K mainGlobals "min"=some none)
  (z8:PySem.W.nsIn K mainGlobals "range"=some none)
  (z9:PySem.W.nsIn K mainGlobals "set"=some none)
  (z10:PySem.W.nsIn K mainGlobals "sorted"=some none)
  (z11:PySem.W.nsIn K mainGlobals "tuple"=some none)
  (z12:PySem.W.nsIn K mainGlobals "zip"=some none)
  :∃fd:FuncData,(∀(s:Shared) (v:Value),BindsTo s fd ⟨[v],[]⟩ [("script",v)])/\∀base:Heap,K.In base->base.Ns mainGlobals mg->FnOk l.prog w K mg base aY 26 fa fd ["script"] (kb K):=by
 obtain⟨dl,Dl,Bl⟩:=aM (ps:=["script"]) X G q35 (fun _ _ _ _ _ _=>sX fun _=>rfl)
 have e:=hfa.symm.trans Dl.at'
 cases e
 have T:Txt mg:=⟨PySem.W.mg_none_of X G z0,PySem.W.mg_none_of X G z1,PySem.W.mg_none_of X G z2,PySem.W.mg_none_of X G z3,PySem.W.mg_none_of X G z4,PySem.W.mg_none_of X G z5,PySem.W.mg_none_of X G z6,PySem.W.mg_none_of X G z7,PySem.W.mg_none_of X G z8,PySem.W.mg_none_of X G z9,PySem.W.mg_none_of X G z10,PySem.W.mg_none_of X G z11,PySem.W.mg_none_of X G z12⟩
 obtain⟨d0,D0,-⟩:=aM (ps:=["thing"]) X G q0 (fun _ _ _ _ _ _=>sX fun _=>rfl)
 obtain⟨d1,D1,-⟩:=aM (ps:=["numbers"]) X G q1 (fun _ _ _ _ _ _=>sX fun _=>rfl)
 obtain⟨d2,D2,-⟩:=aM (ps:=["one","other"]) X G q2 (fun _ _ _ _ _ _=>nu fun _ _=>rfl)
 obtain⟨d3,D3,-⟩:=aM (ps:=["one","other"]) X G q3 (fun _ _ _ _ _ _=>nu fun _ _=>rfl)
 obtain⟨d4,D4,-⟩:=aM (ps:=["pattern"]) X G q4 (fun _ _ _ _ _ _=>sX fun _=>rfl)
 obtain⟨d5,D5,-⟩:=aM (ps:=["pattern"]) X G q5 (fun _ _ _ _ _ _=>sX fun _=>rfl)
 obtain⟨d6,D6,-⟩:=aM (ps:=["pattern","tie"]) X G q6 (fun _ _ _ _ _ _=>nu fun _ _=>rfl)
 obtain⟨d7,D7,-⟩:=aM (ps:=["row","steps"]) X G q7 (fun _ _ _ _ _ _=>nu fun _ _=>rfl)
 obtain⟨d8,D8,-⟩:=aM (ps:=["pattern","may"]) X G q8 (fun _ _ _ _ _ _=>nu fun _ _=>rfl)
 obtain⟨d9,D9,-⟩:=aM (ps:=["block","pattern","may"]) X G q9 (fun _ _ _ _ _ _=>sF fun _ _ _=>rfl)
 obtain⟨d10,D10,-⟩:=aM (ps:=["may","ties","paper"]) X G q10 (fun _ _ _ _ _ _=>sF fun _ _ _=>rfl)
 obtain⟨d11,D11,-⟩:=aM (ps:=["pattern","may","ties","paper"]) X G q11 (fun _ _ _ _ _ _=>wZ fun _ _ _ _=>rfl)
 obtain⟨d12,D12,-⟩:=aM (ps:=["pattern","ties","place"]) X G q12 (fun _ _ _ _ _ _=>sF fun _ _ _=>rfl)
 obtain⟨d13,D13,-⟩:=aM (ps:=["pattern","may","blocks"]) X G q13 (fun _ _ _ _ _ _=>sF fun _ _ _=>rfl)
 obtain⟨d14,D14,-⟩:=aM (ps:=["pattern","blocks"]) X G q14 (fun _ _ _ _ _ _=>nu fun _ _=>rfl)
 obtain⟨d15,D15,-⟩:=aM (ps:=["pattern","may","ties","papers"]) X G q15 (fun _ _ _ _ _ _=>wZ fun _ _ _ _=>rfl)
 obtain⟨d16,D16,-⟩:=aM (ps:=["pattern","count","papers"]) X G q16 (fun _ _ _ _ _ _=>sF fun _ _ _=>rfl)
 obtain⟨d17,D17,-⟩:=aM (ps:=["script","k"]) X G q17 (fun _ _ _ _ _ _=>nu fun _ _=>rfl)
 obtain⟨d18,D18,-⟩:=aM (ps:=["found"]) X G q18 (fun _ _ _ _ _ _=>sX fun _=>rfl)
 obtain⟨d19,D19,-⟩:=aM (ps:=["script","at","wide"]) X G q19 (fun _ _ _ _ _ _=>sF fun _ _ _=>rfl)
 obtain⟨d20,D20,-⟩:=aM (ps:=["cell","many"]) X G q20 (fun _ _ _ _ _ _=>nu fun _ _=>rfl)
 obtain⟨d21,D21,-⟩:=aM (ps:=["script","top"]) X G q21 (fun _ _ _ _ _ _=>nu fun _ _=>rfl)
 obtain⟨d22,D22,-⟩:=aM (ps:=["things","steps"]) X G q22 (fun _ _ _ _ _ _=>nu fun _ _=>rfl)
 obtain⟨d23,D23,-⟩:=aM (ps:=["pattern","tie"]) X G q23 (fun _ _ _ _ _ _=>nu fun _ _=>rfl)
 obtain⟨d24,D24,-⟩:=aM (ps:=["badge","lists","steps"]) X G q24 (fun _ _ _ _ _ _=>sF fun _ _ _=>rfl)
 obtain⟨d25,D25,-⟩:=aM (ps:=["pattern","lists","block"]) X G q25 (fun _ _ _ _ _ _=>sF fun _ _ _=>rfl)
 obtain⟨d26,D26,-⟩:=aM (ps:=["pattern","lists","blocks"]) X G q26 (fun _ _ _ _ _ _=>sF fun _ _ _=>rfl)
 obtain⟨d27,D27,-⟩:=aM (ps:=["pattern","lists","ties","paper"]) X G q27 (fun _ _ _ _ _ _=>wZ fun _ _ _ _=>rfl)
 obtain⟨d28,D28,-⟩:=aM (ps:=["pattern","lists"]) X G q28 (fun _ _ _ _ _ _=>nu fun _ _=>rfl)
 obtain⟨d29,D29,-⟩:=aM (ps:=["cell"]) X G q29 (fun _ _ _ _ _ _=>sX fun _=>rfl)
 obtain⟨d30,D30,-⟩:=aM (ps:=["rest"]) X G q30 (fun _ _ _ _ _ _=>sX fun _=>rfl)
 obtain⟨d31,D31,-⟩:=aM (ps:=["paper","cell"]) X G q31 (fun _ _ _ _ _ _=>nu fun _ _=>rfl)
 obtain⟨d32,D32,-⟩:=aM (ps:=["pattern","lists","ties","left","cell"]) X G q32 (fun _ _ _ _ _ _=>xm fun _ _ _ _ _=>rfl)
 obtain⟨d33,D33,-⟩:=aM (ps:=["pattern","lists","ties","left","cell"]) X G q33 (fun _ _ _ _ _ _=>xm fun _ _ _ _ _=>rfl)
 obtain⟨d34,D34,-⟩:=aM (ps:=["thing","cells"]) X G q34 (fun _ _ _ _ _ _=>nu fun _ _=>rfl)
 exact⟨dl,fun s v=>Bl s [v] rfl,fun base _ _=>uM (aF:=fun i=>List.getD [f0,f1,f2,f3,f4,f5,f6,f7,f8,f9,f10,f11,f12,f13,f14,f15,f16,f17,f18,f19,f20,f21,f22,f23,f24,f25,f26,f27,f28,f29,f30,f31,f32,f33,f34,fa] i fa) (dF:=fun i=>List.getD [d0,d1,d2,d3,d4,d5,d6,d7,d8,d9,d10,d11,d12,d13,d14,d15,d16,d17,d18,d19,d20,d21,d22,d23,d24,d25,d26,d27,d28,d29,d30,d31,d32,d33,d34,dl] i dl) ⟨D0,D1,D2,D3,D4,D5,D6,D7,D8,D9,D10,D11,D12,D13,D14,D15,D16,D17,D18,D19,D20,D21,D22,D23,D24,D25,D26,D27,D28,D29,D30,D31,D32,D33,D34,Dl⟩ T⟩
theorem walk {l:PySem.W.OpenLaw} {q:Program} {loose:List Str} {XP:(Str->Option Value)->Heap->Prop} {YP:World->Heap->Prop} {d:DefRec} {K:Params->PySem.W.Frag} (hn:l.most=some 63) (hdf:d.params.defaults=[])
  (hY:∀(w:World) (h:Heap),YP w h->(K w.params).In h)
  (F:∀(w:World) (mg:Str->Option Value) (fa:Addr) (h:Heap),(K w.params).In h->h.Ns mainGlobals mg->mg d.name=some (.ref fa)->
   ∃fd:FuncData,(∀(s:Shared) (u:Value),BindsTo s fd ⟨[u],[]⟩ [("script",u)])/\∀base:Heap,(K w.params).In base->base.Ns mainGlobals mg->FnOk l.prog w (K w.params) mg base aY 26 fa fd ["script"] (kb (K w.params))):
  PySem.W.WalkO q loose XP YP l.row.toRowW d [] (fun f vs=>PySem.call f vs):=
 L2.rE (n:=63) (k:=26) (x:="script") (CX:=fun _=>aY) (sp:=fun w=>kb (K w.params)) hn (by decide) hdf ⟨rfl,by decide,by decide⟩ hY F (fun _ _ a ns hl _ hS=>⟨a,ns,rfl,hS,hl,fun _=>rfl⟩) fun _ _ _ _ _ z=>z
end My
theorem PySem.W.Fast.tw10379627218742528787:True:=trivial
theorem PySem.W.Fast.tw10657938480757138336:True:=trivial
theorem PySem.W.Fast.tw10708807814053899694:True:=trivial
theorem PySem.W.Fast.tw10758535444407790147:True:=trivial
theorem PySem.W.Fast.tw10772798109370087883:True:=trivial
theorem PySem.W.Fast.tw10876276069604352221:True:=trivial
theorem PySem.W.Fast.tw10903239304559672357:True:=trivial
theorem PySem.W.Fast.tw10929994673407446492:True:=trivial
theorem PySem.W.Fast.tw10984415298435622279:True:=trivial
theorem PySem.W.Fast.tw11119036384255632318:True:=trivial
theorem PySem.W.Fast.tw11187288489992183088:True:=trivial
theorem PySem.W.Fast.tw11196840393347053868:True:=trivial
theorem PySem.W.Fast.tw11248677427445616106:True:=trivial
theorem PySem.W.Fast.tw11419888794644132023:True:=trivial
theorem PySem.W.Fast.tw11514808042438320486:True:=trivial
theorem PySem.W.Fast.tw11972485922619903268:True:=trivial
theorem PySem.W.Fast.tw12085788841469239890:True:=trivial
theorem PySem.W.Fast.tw12333475197492938941:True:=trivial
theorem PySem.W.Fast.tw12629186707218504326:True:=trivial
theorem PySem.W.Fast.tw12817910655647091236:True:=trivial
theorem PySem.W.Fast.tw12866719759910428753:True:=trivial
theorem PySem.W.Fast.tw1304797579443387460:True:=trivial
theorem PySem.W.Fast.tw13061273363529612641:True:=trivial
theorem PySem.W.Fast.tw13089427060482026124:True:=trivial
theorem PySem.W.Fast.tw13292537054278868105:True:=trivial
theorem PySem.W.Fast.tw13346707030410879526:True:=trivial
theorem PySem.W.Fast.tw13888857931572958045:True:=trivial
theorem PySem.W.Fast.tw13943376153201429190:True:=trivial
theorem PySem.W.Fast.tw14064696165074087322:True:=trivial
theorem PySem.W.Fast.tw14667178134281815481:True:=trivial
theorem PySem.W.Fast.tw14729991496073983311:True:=trivial
theorem PySem.W.Fast.tw14741070429771995998:True:=trivial
theorem PySem.W.Fast.tw14783145214456350682:True:=trivial
theorem PySem.W.Fast.tw14853918742607706812:True:=trivial
theorem PySem.W.Fast.tw15049368458631036904:True:=trivial
theorem PySem.W.Fast.tw15139124412900343663:True:=trivial
theorem PySem.W.Fast.tw15559124816813572733:True:=trivial
theorem PySem.W.Fast.tw15670783226333951696:True:=trivial
theorem PySem.W.Fast.tw15738575420423836321:True:=trivial
theorem PySem.W.Fast.tw15949024090898631349:True:=trivial
theorem PySem.W.Fast.tw15956289271350313804:True:=trivial
theorem PySem.W.Fast.tw15956643964672792622:True:=trivial
theorem PySem.W.Fast.tw16072470558727926933:True:=trivial
theorem PySem.W.Fast.tw16106062078849366596:True:=trivial
theorem PySem.W.Fast.tw16157825191673054198:True:=trivial
theorem PySem.W.Fast.tw16174350232175156467:True:=trivial
theorem PySem.W.Fast.tw1619080912939096441:True:=trivial
theorem PySem.W.Fast.tw16454961365773087949:True:=trivial
theorem PySem.W.Fast.tw16492218417336988585:True:=trivial
theorem PySem.W.Fast.tw16496124015617200385:True:=trivial
theorem PySem.W.Fast.tw16543236395241252687:True:=trivial
theorem PySem.W.Fast.tw16638019968377800261:True:=trivial
theorem PySem.W.Fast.tw16844331751291293812:True:=trivial
theorem PySem.W.Fast.tw169161737659624169:True:=trivial
theorem PySem.W.Fast.tw16968700004178707617:True:=trivial
theorem PySem.W.Fast.tw1712921192535752460:True:=trivial
theorem PySem.W.Fast.tw17133334812061594053:True:=trivial
theorem PySem.W.Fast.tw17211412874920124831:True:=trivial
theorem PySem.W.Fast.tw1725946545342113093:True:=trivial
theorem PySem.W.Fast.tw17298935356885509374:True:=trivial
theorem PySem.W.Fast.tw17305322353399524251:True:=trivial
theorem PySem.W.Fast.tw1732411445977419266:True:=trivial
theorem PySem.W.Fast.tw17689890239312216207:True:=trivial
theorem PySem.W.Fast.tw18176636010858907855:True:=trivial
theorem PySem.W.Fast.tw18196387653269150061:True:=trivial
theorem PySem.W.Fast.tw18255531711111714198:True:=trivial
theorem PySem.W.Fast.tw18402009323274451661:True:=trivial
theorem PySem.W.Fast.tw18445752621274364761:True:=trivial
theorem PySem.W.Fast.tw1851042889061244938:True:=trivial
theorem PySem.W.Fast.tw1874342974740568432:True:=trivial
theorem PySem.W.Fast.tw1882621204415285385:True:=trivial
theorem PySem.W.Fast.tw1885034494394541915:True:=trivial
theorem PySem.W.Fast.tw2017082320003473783:True:=trivial
theorem PySem.W.Fast.tw2052673425142477533:True:=trivial
theorem PySem.W.Fast.tw2075999633389397191:True:=trivial
theorem PySem.W.Fast.tw218222333921942172:True:=trivial
theorem PySem.W.Fast.tw2537868023747896516:True:=trivial
theorem PySem.W.Fast.tw255920414888663843:True:=trivial
theorem PySem.W.Fast.tw2574900431519696059:True:=trivial
theorem PySem.W.Fast.tw2619035232662670063:True:=trivial
theorem PySem.W.Fast.tw2778219002078565492:True:=trivial
theorem PySem.W.Fast.tw2930483497942702500:True:=trivial
theorem PySem.W.Fast.tw3112113113859197824:True:=trivial
theorem PySem.W.Fast.tw3190565195470691791:True:=trivial
theorem PySem.W.Fast.tw3368103050523345912:True:=trivial
theorem PySem.W.Fast.tw3471961261650998364:True:=trivial
theorem PySem.W.Fast.tw3700608154825279236:True:=trivial
theorem PySem.W.Fast.tw3787480543540688718:True:=trivial
theorem PySem.W.Fast.tw3796601214282834774:True:=trivial
theorem PySem.W.Fast.tw3810028118351868134:True:=trivial
theorem PySem.W.Fast.tw3902882439523792260:True:=trivial
theorem PySem.W.Fast.tw397408943500075413:True:=trivial
theorem PySem.W.Fast.tw398699628130404973:True:=trivial
theorem PySem.W.Fast.tw4152456922419925658:True:=trivial
theorem PySem.W.Fast.tw4366115263713519545:True:=trivial
theorem PySem.W.Fast.tw4576071455966745148:True:=trivial
theorem PySem.W.Fast.tw462038764152425042:True:=trivial
theorem PySem.W.Fast.tw480378834377193113:True:=trivial
theorem PySem.W.Fast.tw4880262929202946103:True:=trivial
theorem PySem.W.Fast.tw5052166743312212268:True:=trivial
theorem PySem.W.Fast.tw5307016661514400190:True:=trivial
theorem PySem.W.Fast.tw5405532991172879399:True:=trivial
theorem PySem.W.Fast.tw5420756309016149355:True:=trivial
theorem PySem.W.Fast.tw5744725759936047267:True:=trivial
theorem PySem.W.Fast.tw5885243410744142533:True:=trivial
theorem PySem.W.Fast.tw5894313282520673946:True:=trivial
theorem PySem.W.Fast.tw6147275761948589156:True:=trivial
theorem PySem.W.Fast.tw6334230025171340460:True:=trivial
theorem PySem.W.Fast.tw6394989372479694797:True:=trivial
theorem PySem.W.Fast.tw6409834240462763427:True:=trivial
theorem PySem.W.Fast.tw6670877141472103292:True:=trivial
theorem PySem.W.Fast.tw6801930718911562854:True:=trivial
theorem PySem.W.Fast.tw6833542527957894440:True:=trivial
theorem PySem.W.Fast.tw6975802535023801984:True:=trivial
theorem PySem.W.Fast.tw7056568671934771998:True:=trivial
theorem PySem.W.Fast.tw7232594521266059966:True:=trivial
theorem PySem.W.Fast.tw7306232669292673199:True:=trivial
theorem PySem.W.Fast.tw7721216048841536418:True:=trivial
theorem PySem.W.Fast.tw7761088777756304576:True:=trivial
theorem PySem.W.Fast.tw7787069364917533119:True:=trivial
theorem PySem.W.Fast.tw7847541986285316432:True:=trivial
theorem PySem.W.Fast.tw7949560088661993265:True:=trivial
theorem PySem.W.Fast.tw836328361284647272:True:=trivial
theorem PySem.W.Fast.tw8493854549271266500:True:=trivial
theorem PySem.W.Fast.tw8716908405821741459:True:=trivial
theorem PySem.W.Fast.tw8873334341284406754:True:=trivial
theorem PySem.W.Fast.tw8991080768915933953:True:=trivial
theorem PySem.W.Fast.tw9063227955887000183:True:=trivial
theorem PySem.W.Fast.tw909674186132778404:True:=trivial
theorem PySem.W.Fast.tw9103877057782346703:True:=trivial
theorem PySem.W.Fast.tw9174458229034907159:True:=trivial
theorem PySem.W.Fast.tw9296819660400625366:True:=trivial
theorem PySem.W.Fast.tw933046174942516269:True:=trivial
theorem PySem.W.Fast.tw9402924622707060026:True:=trivial
theorem PySem.W.Fast.tw9438153552109571354:True:=trivial
theorem PySem.W.Fast.tw9460830959245313295:True:=trivial
theorem PySem.W.Fast.tw9490062067659043969:True:=trivial
theorem PySem.W.Fast.tw9505796607640141118:True:=trivial
theorem PySem.W.Fast.tw9577151041550967105:True:=trivial
theorem PySem.W.Fast.tw9589487193476063589:True:=trivial
theorem PySem.W.Fast.tw9715211730908003819:True:=trivial
theorem PySem.W.Fast.tw9912684589839972038:True:=trivial
theorem PySem.W.Fast.tw9998220672045950582:True:=trivial
open PySem PySem.W PyProof.Rows
set_option maxRecDepth 100000 in
set_option maxHeartbeats 0 in
theorem PySem.Challenge.cw_deskround_k24_papers_of_anything_holds : PySem.Challenge.rw_deskround_k24_papers_of_anything.Holds := by
 w_on;o_law;k_head;(case hw=>w_witness2)
 k_fill
 refine My.walk (l:=PySem.Challenge.rw_deskround_k24_papers_of_anything) rfl rfl (fun w h Y=>PySem.W.kIn_of Y) ?F
 case F=>
  intro w mg fa h KX G hmg
  refine' My.uN KX G hmg ?q0 ?q1 ?q2 ?q3 ?q4 ?q5 ?q6 ?q7 ?q8 ?q9 ?q10 ?q11 ?q12 ?q13 ?q14 ?q15 ?q16 ?q17 ?q18 ?q19 ?q20 ?q21 ?q22 ?q23 ?q24 ?q25 ?q26 ?q27 ?q28 ?q29 ?q30 ?q31 ?q32 ?q33 ?q34 ?q35 ?z0 ?z1 ?z2 ?z3 ?z4 ?z5 ?z6 ?z7 ?z8 ?z9 ?z10 ?z11 ?z12
  (case q0=>refine' My.aN ?a ?l ?c ?k;(case a=>k_is);(case l=>k_is);(case c=>k_is);(case k=>k_is))
  (case q1=>refine' My.aN ?a ?l ?c ?k;(case a=>k_is);(case l=>k_is);(case c=>k_is);(case k=>k_is))
  (case q2=>refine' My.aN ?a ?l ?c ?k;(case a=>k_is);(case l=>k_is);(case c=>k_is);(case k=>k_is))
  (case q3=>refine' My.aN ?a ?l ?c ?k;(case a=>k_is);(case l=>k_is);(case c=>k_is);(case k=>k_is))
  (case q4=>refine' My.aN ?a ?l ?c ?k;(case a=>k_is);(case l=>k_is);(case c=>k_is);(case k=>k_is))
  (case q5=>refine' My.aN ?a ?l ?c ?k;(case a=>k_is);(case l=>k_is);(case c=>k_is);(case k=>k_is))
  (case q6=>refine' My.aN ?a ?l ?c ?k;(case a=>k_is);(case l=>k_is);(case c=>k_is);(case k=>k_is))
  (case q7=>refine' My.aN ?a ?l ?c ?k;(case a=>k_is);(case l=>k_is);(case c=>k_is);(case k=>k_is))
  (case q8=>refine' My.aN ?a ?l ?c ?k;(case a=>k_is);(case l=>k_is);(case c=>k_is);(case k=>k_is))
  (case q9=>refine' My.aN ?a ?l ?c ?k;(case a=>k_is);(case l=>k_is);(case c=>k_is);(case k=>k_is))
  (case q10=>refine' My.aN ?a ?l ?c ?k;(case a=>k_is);(case l=>k_is);(case c=>k_is);(case k=>k_is))
  (case q11=>refine' My.aN ?a ?l ?c ?k;(case a=>k_is);(case l=>k_is);(case c=>k_is);(case k=>k_is))
  (case q12=>refine' My.aN ?a ?l ?c ?k;(case a=>k_is);(case l=>k_is);(case c=>k_is);(case k=>k_is))
  (case q13=>refine' My.aN ?a ?l ?c ?k;(case a=>k_is);(case l=>k_is);(case c=>k_is);(case k=>k_is))
  (case q14=>refine' My.aN ?a ?l ?c ?k;(case a=>k_is);(case l=>k_is);(case c=>k_is);(case k=>k_is))
  (case q15=>refine' My.aN ?a ?l ?c ?k;(case a=>k_is);(case l=>k_is);(case c=>k_is);(case k=>k_is))
  (case q16=>refine' My.aN ?a ?l ?c ?k;(case a=>k_is);(case l=>k_is);(case c=>k_is);(case k=>k_is))
  (case q17=>refine' My.aN ?a ?l ?c ?k;(case a=>k_is);(case l=>k_is);(case c=>k_is);(case k=>k_is))
  (case q18=>refine' My.aN ?a ?l ?c ?k;(case a=>k_is);(case l=>k_is);(case c=>k_is);(case k=>k_is))
  (case q19=>refine' My.aN ?a ?l ?c ?k;(case a=>k_is);(case l=>k_is);(case c=>k_is);(case k=>k_is))
  (case q20=>refine' My.aN ?a ?l ?c ?k;(case a=>k_is);(case l=>k_is);(case c=>k_is);(case k=>k_is))
  (case q21=>refine' My.aN ?a ?l ?c ?k;(case a=>k_is);(case l=>k_is);(case c=>k_is);(case k=>k_is))
  (case q22=>refine' My.aN ?a ?l ?c ?k;(case a=>k_is);(case l=>k_is);(case c=>k_is);(case k=>k_is))
  (case q23=>refine' My.aN ?a ?l ?c ?k;(case a=>k_is);(case l=>k_is);(case c=>k_is);(case k=>k_is))
  (case q24=>refine' My.aN ?a ?l ?c ?k;(case a=>k_is);(case l=>k_is);(case c=>k_is);(case k=>k_is))
  (case q25=>refine' My.aN ?a ?l ?c ?k;(case a=>k_is);(case l=>k_is);(case c=>k_is);(case k=>k_is))
  (case q26=>refine' My.aN ?a ?l ?c ?k;(case a=>k_is);(case l=>k_is);(case c=>k_is);(case k=>k_is))
  (case q27=>refine' My.aN ?a ?l ?c ?k;(case a=>k_is);(case l=>k_is);(case c=>k_is);(case k=>k_is))
  (case q28=>refine' My.aN ?a ?l ?c ?k;(case a=>k_is);(case l=>k_is);(case c=>k_is);(case k=>k_is))
  (case q29=>refine' My.aN ?a ?l ?c ?k;(case a=>k_is);(case l=>k_is);(case c=>k_is);(case k=>k_is))
  (case q30=>refine' My.aN ?a ?l ?c ?k;(case a=>k_is);(case l=>k_is);(case c=>k_is);(case k=>k_is))
  (case q31=>refine' My.aN ?a ?l ?c ?k;(case a=>k_is);(case l=>k_is);(case c=>k_is);(case k=>k_is))
  (case q32=>refine' My.aN ?a ?l ?c ?k;(case a=>k_is);(case l=>k_is);(case c=>k_is);(case k=>k_is))
  (case q33=>refine' My.aN ?a ?l ?c ?k;(case a=>k_is);(case l=>k_is);(case c=>k_is);(case k=>k_is))
  (case q34=>refine' My.aN ?a ?l ?c ?k;(case a=>k_is);(case l=>k_is);(case c=>k_is);(case k=>k_is))
  (case q35=>refine' My.aN ?a ?l ?c ?k;(case a=>k_is);(case l=>k_is);(case c=>k_is);(case k=>k_is))
  (case z0=>k_is);(case z1=>k_is);(case z2=>k_is);(case z3=>k_is);(case z4=>k_is);(case z5=>k_is);(case z6=>k_is);(case z7=>k_is);(case z8=>k_is);(case z9=>k_is);(case z10=>k_is);(case z11=>k_is);(case z12=>k_is)
end
