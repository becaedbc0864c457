import PyProof.Rows.All
import Wide.All
import OpenK.AllK
import Wide.FinOn
import Lean
import PyProof.EqAt
import PyProof.EqKinds
import PyProof.TupleCall
import PySem.Challenge.RW_warnloop_k07_stretches_kept
set_option linter.all false
set_option Elab.async false
set_option maxRecDepth 100000
set_option maxHeartbeats 4000000
local macro_rules|`(tactic|trivial)=>`(tactic|decide +kernel)
open PySem.W (instObj hideAll hideAll_get lookIn plainGet hasDictIn findIn isFn emptyDict looks_findIn keepIn methodCall_KW kitOne kia_one callWith_K fnOf codeIn nsIn mg_of excIn subIn looks_subIn kat_cons mg_none_of)
abbrev Qaa:=@PyProof.Rows.slot_tupleiter_next
abbrev Qab:=@PyProof.Rows.slot_tuple_getitem
abbrev Qac:=@PySem.F.slot_dict_itemiterator_next
abbrev Qad:=@PySem.F.slot_dict_keyiterator_next
abbrev Qae:=@PyProof.Rows.callWith_type1
abbrev Qaf:=@Array.getElem?_eq_some_iff
abbrev Qag:=@List.getD_eq_getElem?_getD
abbrev Qah:=@List.getElem?_eq_some_iff
abbrev Qai:=@Classical.byContradiction
abbrev Qaj:=@List.drop_eq_getElem_cons
abbrev Qak:=@List.pairwise_iff_getElem
abbrev Qal:=@PySem.F.slot_list_append
abbrev Qam:=@PySem.F.type_list_append
abbrev Qan:=@List.getElem?_eq_getElem
abbrev Qao:=@PySem.F.slot_list_extend
abbrev Qap:=@PySem.F.type_list_extend
abbrev Qaq:=@PySem.F.plainAttrs_list
abbrev Qar:=@PySem.wpAny_callSpecial?_slot
abbrev Qas:=@PySem.wpAny_getItem_str_slice
abbrev Qat:=@List.pairwise_singleton
abbrev Qau:=@List.filter_cons_of_neg
abbrev Qav:=@PySem.Heap.get?_push_of_some
abbrev Qaw:=@Option.map_eq_some_iff
abbrev Qax:=@PySem.Heap.get?_update_other
abbrev QaA:=@List.mem_append_right
abbrev QaB:=@List.length_singleton
abbrev QaC:=@PySem.Heap.get?_update_self
abbrev QaD:=@List.mem_of_getElem?
abbrev QaE:=@List.mem_cons_of_mem
abbrev QaF:=@List.mem_append_left
abbrev QaG:=@List.getElem?_of_mem
abbrev QaH:=@List.mem_of_mem_take
abbrev QaI:=@PySem.Heap.get?_push_size
abbrev QaJ:=@beq_eq_false_iff_ne
abbrev QaK:=@Array.length_toList
abbrev QaL:=@List.flatMap_append
abbrev QaM:=@List.map_congr_left
abbrev QaN:=@PySem.Heap.SameBut.update
abbrev QaO:=@PySem.mem_of_lookup
abbrev QaP:=@Int.toNat_of_nonneg
abbrev QaQ:=@List.length_append
abbrev QaR:=@List.mem_cons_self
abbrev QaS:=@Bool.false_ne_true
abbrev QaT:=@List.set_cons_zero
abbrev QaU:=@List.set_cons_succ
abbrev QaW:=@Nat.lt_of_lt_of_le
abbrev QaX:=@List.mem_singleton
abbrev QaY:=@PySem.wpAny_pyIter_tuple
abbrev QaZ:=@PySem.wpAny_setField_rec
abbrev Qba:=@decide_eq_true_iff
abbrev Qbb:=@Int.emod_lt_of_pos
abbrev Qbc:=@PySem.wpAny_Call_Name_kw
abbrev Qbd:=@PySem.tupleKind_room_in1
abbrev Qbe:=@PySem.Calls.spliced_cons
abbrev Qbg:=@List.size_toArray
abbrev Qbh:=@List.append_assoc
abbrev Qbi:=@List.getElem?_map
abbrev Qbj:=@of_decide_eq_true
abbrev Qbk:=@Int.toNat_natCast
abbrev Qbl:=@List.flatMap_cons
abbrev Qbm:=@PySem.wpAny_truthy_bool
abbrev Qbn:=@PySem.wpAny_newObj_type
abbrev Qbo:=@List.length_range
abbrev Qbp:=@PySem.wpAny_pyIter_list
abbrev Qbq:=@PySem.wpAny_loadPart_at
abbrev Qbr:=@List.length_cons
abbrev Qbs:=@List.length_take
abbrev Qbt:=@List.take_length
abbrev Qbu:=@List.not_mem_nil
abbrev Qbv:=@PySem.wpAny_call_entry
abbrev Qbw:=@Bool.and_eq_true
abbrev Qbx:=@List.length_drop
abbrev Qby:=@Nat.lt_succ_self
abbrev Qbz:=@List.mem_flatMap
abbrev QbA:=@List.cons_append
abbrev QbB:=@List.length_map
abbrev QbC:=@List.map_append
abbrev QbD:=@List.mem_append
abbrev QbE:=@PySem.PassesOwn.never
abbrev QbF:=@List.append_nil
abbrev QbG:=@decide_eq_false
abbrev QbH:=@Option.some.inj
abbrev QbJ:=@List.nodup_cons
abbrev QbK:=@List.mem_filter
abbrev QbL:=@Bool.eq_iff_iff
abbrev QbN:=@PySem.wpAny_passesOwn
abbrev QbO:=@Nat.not_lt_zero
abbrev QbP:=@Int.emod_nonneg
abbrev QbQ:=@List.find?_cons
abbrev QbR:=@List.nil_append
abbrev QbS:=@decide_eq_true
abbrev QbT:=@PySem.Heap.size_push
abbrev QbU:=@List.mem_range
abbrev QbV:=@List.nodup_nil
abbrev QbW:=@PySem.wpAny_seqItems
abbrev QbX:=@PySem.Paired.length
abbrev QbY:=@List.mem_cons
abbrev QbZ:=@List.map_cons
abbrev Qcb:=@Nat.lt_irrefl
abbrev Qcc:=@PySem.wpAny_holding
abbrev Qcd:=@List.any_cons
abbrev Qce:=@PySem.wpAny_standAt
abbrev Qcf:=@Bool.or_false
abbrev Qcg:=@PySem.wpAny_attempt
abbrev Qch:=@PySem.Heap.lt_size
abbrev Qci:=@List.mem_map
abbrev Qcj:=@Nat.ne_of_lt
abbrev Qck:=@Nat.le_trans
abbrev Qcl:=@List.map_map
abbrev Qcm:=@Nat.ne_of_gt
abbrev Qcn:=@Nat.le_of_lt
abbrev Qco:=@Int.zero_add
abbrev Qcp:=@PySem.codeAny_mono
abbrev Qcq:=@Nat.le_refl
abbrev Qcr:=@Nat.zero_le
abbrev Qcs:=@PySem.Paired.snoc
abbrev Qct:=@PySem.wpAny_field
abbrev Qcu:=@PySem.sizeLine_eq
abbrev Qcv:=@PySem.wpAny_bind
abbrev Qcw:=@PySem.wpAny_pure
abbrev Qcx:=@PySem.wpAny_mono
abbrev Qcy:=@PyProof.Rows.take_snoc
abbrev Qcz:=@or_false
namespace L2
open PySem PySem.Spec PyProof.Rows
abbrev Key:=Sum Int Str
def QV:Key->Value->Bool
 | .inl k,v=>Value.isInt k v
 | .inr x,v=>Value.isStrOf x v
def IJ (w:World):Key->Int
 | .inl k=>hashInt k
 | .inr x=>hashStr w x
theorem Ea:∀{k:Key} {v:Value},QV k v=true->(∃i t,k=Sum.inl i/\v=Value.int i t)\/(∃x t,k=Sum.inr x/\v=Value.str x t)
 | .inl i,v,h=>by
  obtain⟨t,e⟩:=Value.isInt_shape (k:=i) (v:=v) h
  exact .inl ⟨i,t,rfl,e⟩
 | .inr x,v,h=>by
  obtain⟨t,e⟩:=Value.isStrOf_shape (x:=x) (v:=v) h
  exact .inr ⟨x,t,rfl,e⟩
theorem iG (i:Int) (t:Tok):QV (.inl i) (.int i t)=true:=by simp[QV,Value.isInt]
theorem iD (x:Str) (t:Tok):QV (.inr x) (.str x t)=true:=by simp[QV,Value.isStrOf]
theorem wW (a b:Int):decide ((Sum.inl a:Key)=Sum.inl b)=(a == b):=by
 by_cases e:a=b
 ·subst e;simp
 ·have h:¬(Sum.inl a:Key)=Sum.inl b:=λq=>e (Sum.inl.inj q)
  rw[QbG h]
  exact (QaJ.mpr e).symm
theorem wR (a b:Str):decide ((Sum.inr a:Key)=Sum.inr b)=decide (a=b):=by
 by_cases e:a=b
 ·subst e;simp
 ·have h:¬(Sum.inr a:Key)=Sum.inr b:=λq=>e (Sum.inr.inj q)
  rw[QbG h,QbG e]
theorem wV (a:Int) (b:Str):decide ((Sum.inl a:Key)=Sum.inr b)=false:=QbG (λq=>nomatch q)
theorem wU (a:Str) (b:Int):decide ((Sum.inr a:Key)=Sum.inl b)=false:=QbG (λq=>nomatch q)
def Bx (prog:Program) (w:World):PySem.KeyKind prog w Key where
 is:=QV
 hash:=IJ w
 inj:=λv a b ha hb=>by
  rcases Ea ha with⟨i,t,rfl,rfl⟩|⟨x,t,rfl,rfl⟩
  ·rcases Ea hb with⟨j,u,rfl,e⟩|⟨y,u,rfl,e⟩
   ·injection e with e1 _;rw[e1]
   ·exact nomatch e
  ·rcases Ea hb with⟨j,u,rfl,e⟩|⟨y,u,rfl,e⟩
   ·exact nomatch e
   ·injection e with e1 _;rw[e1]
 byValue:=λk v h=>by
  rcases Ea h with⟨i,t,rfl,rfl⟩|⟨x,t,rfl,rfl⟩ <;> rfl
 pyHash:=λhv h=>by
  rcases Ea hv with⟨i,t,rfl,rfl⟩|⟨x,t,rfl,rfl⟩
  ·exact wpAny_pyHash_int h
  ·exact wpAny_pyHash_str h
 eqBool:=λhu hv h=>by
  rcases Ea hu with⟨i,t,rfl,rfl⟩|⟨x,t,rfl,rfl⟩
  ·rcases Ea hv with⟨j,u,rfl,rfl⟩|⟨y,u,rfl,rfl⟩
   ·rw[wW] at h;exact wpAny_eqBool_int h
   ·rw[wV] at h;exact SeqAt.EqAt.int_str i t y u _ _ _ _ h
  ·rcases Ea hv with⟨j,u,rfl,rfl⟩|⟨y,u,rfl,rfl⟩
   ·rw[wU] at h;exact SeqAt.EqAt.str_int x t j u _ _ _ _ h
   ·rw[wR] at h;exact wpAny_eqBool_str h
 «strs»:=λk x t v h=>by
  rcases Ea h with⟨i,u,rfl,e⟩|⟨y,u,rfl,e⟩
  ·exact nomatch e
  ·injection e with e1 _
   subst e1
   cases v <;> rfl
theorem YX (prog:Program) (w:World) (i:Int) (t:Tok):(Bx prog w).is (.inl i) (.int i t)=true:=iG i t
theorem YW (prog:Program) (w:World) (x:Str) (t:Tok):(Bx prog w).is (.inr x) (.str x t)=true:=iD x t
inductive V where
 | non | bl (b:Bool) | int (i:Int) | str (x:Str) | byt (b:Array UInt8) | flt (b:UInt64) | ref (a:Addr) | ty (n:String)
 deriving DecidableEq
def RelV:V->Value->Prop
 | .non,u=>u=Value.none
 | .bl b,u=>u=Value.bool b
 | .int i,u=>∃t,u=Value.int i t
 | .str x,u=>∃t,u=Value.str x t
 | .byt b,u=>∃t,u=Value.bytes b t
 | .flt b,u=>∃t,u=Value.float b t
 | .ref a,u=>u=Value.ref a
 | .ty n,u=>u=Value.type n
abbrev Vals:List V->List Value->Prop:=Paired RelV
theorem Vals.length {xs:List V} {us:List Value} (r:Vals xs us):xs.length=us.length:=QbX r
theorem Vals.get:∀{xs:List V} {us:List Value} {i:Nat} {x:V},Vals xs us->xs[i]?=some x->∃u,us[i]?=some u/\RelV x u
 | _,_,_,_,.nil,e=>by simp at e
 | _,_,0,_,.cons r _,e=>by simp at e;subst e;exact⟨_,rfl,r⟩
 | _,_,i+1,x,.cons _ t,e=>by
  obtain⟨u,h1,h2⟩:=Vals.get (i:=i) (x:=x) t (by simpa using e)
  exact⟨u,by simpa using h1,h2⟩
theorem Vals.set {x:V} {u:Value} (r:RelV x u):∀{xs:List V} {us:List Value} (i:Nat),Vals xs us->Vals (xs.set i x) (us.set i u)
 | _,_,_,.nil=>.nil
 | _,_,0,.cons _ t=>.cons r t
 | _,_,i+1,.cons q t=>.cons q (Vals.set r i t)
theorem Vals.append:∀{xs ys:List V} {us ws:List Value},Vals xs us->Vals ys ws->Vals (xs++ys) (us++ws)
 | _,_,_,_,.nil,s=>s
 | _,_,_,_,.cons r t,s=>.cons r (Vals.append t s)
theorem Vals.take:∀{xs:List V} {us:List Value} (n:Nat),Vals xs us->Vals (xs.take n) (us.take n)
 | _,_,0,_=>.nil
 | _,_,_+1,.nil=>.nil
 | _,_,n+1,.cons r t=>.cons r (Vals.take n t)
theorem Vals.drop:∀{xs:List V} {us:List Value} (n:Nat),Vals xs us->Vals (xs.drop n) (us.drop n)
 | _,_,0,r=>r
 | _,_,_+1,.nil=>.nil
 | _,_,n+1,.cons _ t=>Vals.drop n t
def Hj:Option V->Option Value->Prop
 | some v,some u=>RelV v u
 | none,none=>True
 | _,_=>False
def KV {κ : Type}:List (κ×V)->List (κ×Value)->Prop:=Paired λ(p:κ×V) (q:κ×Value)=>p.1=q.1/\RelV p.2 q.2
def kV:Key->V
 | .inl i=>.int i
 | .inr x=>.str x
inductive HO where
 | lst (xs:List V)
 | tup (xs:List V)
 | dK (kvs:List (Key×V)) | dT (kvs:List (List Key×V))
 | set (S:Int->Bool) (n:Nat)
 | ins (C dx:Addr) (fs:List (Str×V))
 | own (x:Addr)
 | xd (fs:List (Str×V))
 | met (f x:Addr)
 | rng (lo hi:Int)
 | frz (o:Obj) (u:HO)
 | tbl (ps:Array Value)
 | ext (φ : Heap->Prop)
abbrev Hp:=Addr->Option HO
def upd (H:Hp) (a:Addr) (o:HO):Hp:=λb=>if b=a then some o else H b
theorem Ac {H:Hp} {a:Addr} {o:HO}:upd H a o a=some o:=by unfold upd;rw[if_pos rfl]
theorem Al {H:Hp} {a b:Addr} {o:HO} (h:b≠a):upd H a o b=H b:=by unfold upd;rw[if_neg h]
theorem Qz {H:Hp} {a:Addr} {o u:HO}:upd (upd H a o) a u=upd H a u:=by
 funext b;unfold upd;split <;> rfl
theorem cj {H:Hp} {a b:Addr} {o u:HO} (h:H a=some o) (h':H b=some u) (d:o≠u):a≠b:=by
 intro e;subst e;rw[h] at h';exact d (QbH h')
theorem Av {H:Hp} {a b:Addr} {o:HO} (h:H a=some o) (h':H b=none):a≠b:=by
 intro e;subst e;rw[h] at h';cases h'
section
variable (P:Program) (w:World)
def Bp (H:Hp) (h:Heap) (a:Addr):HO->Prop
 | .lst xs=>xs.length<=sizeLine/\∃(its:List Value) (n:Nat),Vals xs its/\h.get? a=some { cls:=.type "list",data:=.seq its.toArray n }
 | .tup xs=>xs.length<=sizeLine/\∃its:List Value,Vals xs its/\IsTup h a its.toArray
 | .dK kvs=>kvs.length<=sizeLine/\(a == sysModules)=false/\∃vs,KV kvs vs/\h.DictOf (Bx P w) a vs
 | .dT kvs=>kvs.length<=sizeLine/\(a == sysModules)=false/\∃xs:List (List Key×Addr×Value),
   Paired (λ(p:List Key×V) (q:List Key×Addr×Value)=>p.1=q.1/\H q.2.1=some (.tup (p.1.map kV))/\RelV p.2 q.2.2) kvs xs /\
   ∃o es ep,h.get? a=some o/\o.ExactDict/\o.data=.dict es ep/\es.toList=xs.map (entryOfKey (tupleKind (Bx P w)))/\(xs.map (·.1)).Nodup
 | .set S n=>h.SetOf (intKind P w) a S n
 | .ins C dx fs=>H dx=some (.own a)/\fs.length<=1000/\dx≠a/\h.get? a=some (instObj C dx) /\
   ∃mA,h.Ns1 dx mA/\(∀f,Hj (fs.lookup f) (mA f))/\PySem.Within mA (fs.map (·.1))
 | .own _=>∃o,h.get? a=some o
 | .xd fs=>∃mA,h.Ns1 a mA/\∀f,Hj (fs.lookup f) (mA f)
 | .rng lo hi=>∃t u v,h.get? a=some { cls:=.type "range",data:=.fields #[.int lo t,.int hi u,.int 1 v] }
 | .frz o u=>h.get? a=some o/\Bp H h a u
 | .tbl ps=>h.get? a=some { cls:=.none,data:=.fields ps }
 | .met f x=>h.get? a=some (PySem.W.methodObj (.ref f) (.ref x))
 | .ext φ=>φ h/\(∃o,h.get? a=some o)/\∀h1 h2:Heap,φ h1->(∀o,h1.get? a=some o->h2.get? a=some o)->φ h2
def HOk (H:Hp) (h:Heap):Prop:=∀a o,H a=some o->Bp P w H h a o
end
section
variable {P:Program} {w:World} {H H':Hp} {h h':Heap} {a:Addr} {o:HO}
theorem Bp.lt (x:Bp P w H h a o):a < h.objs.size:=by
 cases o with
 | lst xs=>obtain⟨_,_,_,_,e⟩:=x;exact Qch e
 | tup xs=>obtain⟨_,_,_,p⟩:=x;exact p.lt
 | dK kvs=>obtain⟨_,_,_,_,o,_,_,e,_⟩:=x;exact Qch e
 | dT kvs=>obtain⟨_,_,_,_,o,_,_,e,_⟩:=x;exact Qch e
 | set S n=>obtain⟨o,_,_,_,e,_⟩:=x;exact Qch e
 | ins C dx fs=>obtain⟨_,_,_,e,_⟩:=x;exact Qch e
 | own y=>obtain⟨_,e⟩:=x;exact Qch e
 | xd fs=>obtain⟨_,⟨_,_,_,e,_⟩,_⟩:=x;exact Qch e
 | rng lo hi=>obtain⟨_,_,_,e⟩:=x;exact Qch e
 | frz ob u=>obtain⟨e,_⟩:=x;exact Qch e
 | tbl ps=>exact Qch (show h.get? a=some _ from x)
 | met f y=>exact Qch (show h.get? a=some _ from x)
 | ext φ=>obtain⟨_,⟨_,e⟩,_⟩:=x;exact Qch e
theorem Paired.Bb {α β : Type} {F G:α->β->Prop}:∀{l₁ : List α} {l₂ : List β},Paired F l₁ l₂->(∀a b,F a b->G a b)->Paired G l₁ l₂
 | _,_,.nil,_=>.nil
 | _,_,.cons r t,f=>.cons (f _ _ r) (Paired.Bb t f)
theorem Bp.stay (x:Bp P w H h a o) (k:∀b u,(b=a\/H b=some (.own a))->h.get? b=some u->h'.get? b=some u)
  (ho:∀b,H b=some (.own a)->H' b=some (.own a)) (ht:∀b xs,H b=some (.tup xs)->H' b=some (.tup xs)):Bp P w H' h' a o:=by
 induction o with
 | lst xs=>obtain⟨z,its,n,r,e⟩:=x;exact⟨z,its,n,r,k _ _ (.inl rfl) e⟩
 | tup xs=>obtain⟨z,its,r,ob,e,c⟩:=x;exact⟨z,its,r,ob,k _ _ (.inl rfl) e,c⟩
 | dK kvs=>obtain⟨z,y,vs,r,ob,es,ep,e,c⟩:=x;exact⟨z,y,vs,r,ob,es,ep,k _ _ (.inl rfl) e,c⟩
 | dT kvs=>
  obtain⟨z,y,xs,r,ob,es,ep,e,c⟩:=x
  exact⟨z,y,xs,Paired.Bb r λp q z=>⟨z.1,ht _ _ z.2.1,z.2.2⟩,ob,es,ep,k _ _ (.inl rfl) e,c⟩
 | set S n=>obtain⟨ob,es,ep,t,e,c⟩:=x;exact⟨ob,es,ep,t,k _ _ (.inl rfl) e,c⟩
 | ins C dx fs=>
  obtain⟨d,z,ne,e,mA,⟨od,es,ep,e2,c⟩,r⟩:=x
  exact⟨ho _ d,z,ne,k _ _ (.inl rfl) e,mA,⟨od,es,ep,k _ _ (.inr d) e2,c⟩,r⟩
 | own y=>obtain⟨ob,e⟩:=x;exact⟨ob,k _ _ (.inl rfl) e⟩
 | xd fs=>obtain⟨mA,⟨od,es,ep,e,c⟩,r⟩:=x;exact⟨mA,⟨od,es,ep,k _ _ (.inl rfl) e,c⟩,r⟩
 | rng lo hi=>obtain⟨t,u,v,e⟩:=x;exact⟨t,u,v,k _ _ (.inl rfl) e⟩
 | frz ob u ih=>obtain⟨e,q⟩:=x;exact⟨k _ _ (.inl rfl) e,ih q⟩
 | tbl ps=>
  have e:h.get? a=some { cls:=.none,data:=.fields ps }:=x
  show h'.get? a=some { cls:=.none,data:=.fields ps }
  exact k a _ (.inl rfl) e
 | met f y=>
  have e:h.get? a=some (PySem.W.methodObj (.ref f) (.ref y)):=x
  show h'.get? a=some (PySem.W.methodObj (.ref f) (.ref y))
  exact k a _ (.inl rfl) e
 | ext φ=>obtain⟨p,⟨o,e⟩,st⟩:=x;exact⟨st _ _ p λo q=>k _ _ (.inl rfl) q,⟨o,k _ _ (.inl rfl) e⟩,st⟩
theorem HOk.lt (x:HOk P w H h) (e:H a=some o):a < h.objs.size:=(x a o e).lt
theorem HOk.fresh (x:HOk P w H h) (e:h.objs.size<=a):H a=none:=by
 cases q:H a with
 | none=>rfl
 | some u=>exact absurd (QaW (x.lt q) e) (Qcb _)
theorem HOk.kept (x:HOk P w H h) (k:∀b u,h.get? b=some u->h'.get? b=some u):HOk P w H h':=λa o e=>
 (x a o e).stay (λb u _ q=>k b u q) (λ_ q=>q) λ_ _ q=>q
theorem HOk.laid (x:HOk P w H h) (k:∀b u,h.get? b=some u->h'.get? b=some u) (hp:h.objs.size<=a) (new:Bp P w (upd H a o) h' a o):HOk P w (upd H a o) h':=λb u e=>by
 have hn:=x.fresh hp
 by_cases hb:b=a
 ·subst hb;rw[Ac] at e;cases e;exact new
 ·rw[Al hb] at e
  exact (x b u e).stay (λc v _ q=>k c v q) (λc q=>by rw[Al (Av q hn)];exact q) λc xs q=>by rw[Al (Av q hn)];exact q
end
def Rd (H:Hp) (a:Addr) (u:HO):Prop:=H a=some u\/∃o,H a=some (.frz o u)
theorem Rd.ok {P:Program} {w:World} {H:Hp} {h:Heap} {a:Addr} {u:HO} (r:Rd H a u) (x:HOk P w H h):Bp P w H h a u:=by
 rcases r with r |⟨o,r⟩
 ·exact x a u r
 ·obtain⟨_,q⟩:=x a _ r
  exact q
def Mut:Option HO->Prop
 | some (.lst _)=>True
 | some (.dK _)=>True
 | some (.dT _)=>True
 | some (.set _ _)=>True
 | some (.ins _ _ _)=>True
 | some (.ext _)=>True
 | _=>False
section
variable {P:Program} {w:World} {H:Hp} {h h':Heap} {x e:Addr} {o':HO}
theorem HOk.write (ok:HOk P w H h) (mu:Mut (H x)) (he:e=x\/H e=some (.own x)) (k:∀b u,b≠e->h.get? b=some u->h'.get? b=some u) (heo:∃u,h'.get? e=some u)
  (new:Bp P w (upd H x o') h' x o'):HOk P w (upd H x o') h':=λb u q=>by
 have wF:∀c y,H c=some (.own y)->c≠x:=λc y r z=>by subst z;rw[r] at mu;exact mu
 have Fy:∀c xs,H c=some (.tup xs)->c≠x:=λc xs r z=>by subst z;rw[r] at mu;exact mu
 by_cases hb:b=x
 ·subst hb;rw[Ac] at q;cases q;exact new
 ·rw[Al hb] at q
  by_cases hbe:b=e
  ·have q':H b=some (.own x):=by
    rcases he with z | z
    ·exact absurd (hbe.trans z) hb
    ·rw[hbe];exact z
   rw[q] at q';cases q'
   obtain⟨v,hv⟩:=heo
   exact⟨v,by rw[hbe];exact hv⟩
  ·refine (ok b u q).stay (λc v hc r=>k c v ?_ r) (λc r=>by rw[Al (wF c b r)];exact r) λc xs r=>by rw[Al (Fy c xs r)];exact r
   rcases hc with rfl | hc
   ·exact hbe
   ·rintro rfl
    rcases he with z | z
    ·exact wF c b hc z
    ·rw[hc] at z;cases z;exact hb rfl
end
structure Un (fs ex:List Addr) (H H':Hp) (h h':Heap):Prop where
 keep:∀b o,h.get? b=some o->H b=none->b∉fs->b∉ex->h'.get? b=some o
 slot:∀b o,h.get? b=some o->H b=none->b∈fs->b∉ex->∃sl,h'.get? b=some { o with slots:=sl }
 free:∀b o,h.get? b=some o->H b=none->b∉ex->H' b=none
 there:∀b o,h.get? b=some o->b∉ex->∃o',h'.get? b=some o'
 tups:∀b xs,H b=some (.tup xs)->H' b=some (.tup xs)
 Hi:∀b o u,H b=some (.frz o u)->H' b=some (.frz o u)
 Il:∀b ps,H b=some (.tbl ps)->∃more,H' b=some (.tbl (ps++more))
section
variable {fs fs' ex ex':List Addr} {H H1 H2:Hp} {h h1 h2 h':Heap} {a x e:Addr} {o:HO}
theorem Un.any (u:Un fs ex H H1 h h1) {b:Addr} {ob:Obj} (q:h.get? b=some ob) (n:H b=none) (hx:b∉ex):∃sl,h1.get? b=some { ob with slots:=sl }:=by
 by_cases hb:b∈fs
 ·exact u.slot b ob q n hb hx
 ·exact⟨ob.slots,u.keep b ob q n hb hx⟩
theorem Un.kept (k:∀b u,h.get? b=some u->h'.get? b=some u):Un fs ex H H h h':=
 ⟨λb ob q _ _ _=>k b ob q,λb ob q _ _ _=>⟨ob.slots,k b ob q⟩,λ_ _ _ n _=>n,λb ob q _=>⟨ob,k b ob q⟩,λ_ _ q=>q,λ_ _ _ q=>q,λ_ ps q=>⟨#[],by rw[q];simp⟩⟩
theorem Un.refl:Un fs ex H H h h:=Un.kept λ_ _ q=>q
theorem Un.laid (k:∀b u,h.get? b=some u->h'.get? b=some u) (hp:h.objs.size<=a) (hn:H a=none):Un fs ex H (upd H a o) h h' where
 keep:=λb u q _ _ _=>k b u q
 slot:=λb u q _ _ _=>⟨u.slots,k b u q⟩
 free:=λb u q n _=>by rw[Al (Qcj (QaW (Qch q) hp))];exact n
 there:=λb u q _=>⟨u,k b u q⟩
 tups:=λb xs q=>by rw[Al (Av q hn)];exact q
 Hi:=λb u xs q=>by rw[Al (Av q hn)];exact q
 Il:=λb ps q=>⟨#[],by rw[Al (Av q hn),q];simp⟩
theorem Un.write (mu:Mut (H x)) (he:e=x\/H e=some (.own x)) (k:∀b u,b≠e->h.get? b=some u->h'.get? b=some u) (heo:∃u,h'.get? e=some u):Un fs ex H (upd H x o) h h':=by
 have hx:∀b,H b=none->b≠x:=λb n z=>by subst z;rw[n] at mu;exact mu
 have hb:∀b,H b=none->b≠e:=λb n z=>by
  subst z
  rcases he with r | r
  ·exact hx b n r
  ·rw[n] at r;cases r
 have hm:∀b u,H b=some u->¬Mut (some u)->b≠x:=λb u q nm z=>by subst z;rw[q] at mu;exact nm mu
 refine⟨λb u q n _ _=>k b u (hb b n) q,λb u q n _ _=>⟨u.slots,k b u (hb b n) q⟩,λb u q n _=>by rw[Al (hx b n)];exact n,λb u q _=>?_,
  λb xs q=>by rw[Al (hm b _ q λz=>z)];exact q,λb u xs q=>by rw[Al (hm b _ q λz=>z)];exact q,λb ps q=>⟨#[],by rw[Al (hm b _ q λz=>z),q];simp⟩⟩
 by_cases hbe:b=e
 ·subst hbe;exact heo
 ·exact⟨u,k b u hbe q⟩
end
def trk (h:Heap) (H:Hp):List Addr:=(List.range h.objs.size).filter λa=>(H a).isSome
def O5 (h:Heap) (H:Hp):Heap:=hideAll h (trk h H)
theorem iR (h:Heap) (H:Hp):(O5 h H).objs.size=h.objs.size:=PySem.W.hideAll_size _ _
theorem pD {h:Heap} {H:Hp} {b:Addr} {o:Obj} (e:h.get? b=some o) (n:H b=none):(O5 h H).get? b=some o:=
 hideAll_get _ e λhm=>by
  have q:(H b).isSome=true:=(QbK.mp hm).2
  rw[n] at q;simp at q
theorem tH {h:Heap} {H:Hp} {b:Addr} {o:Obj} (e:(O5 h H).get? b=some o):h.get? b=some o/\H b=none:=by
 have e':h.get? b=some o:=PySem.W.of_hideAll (trk h H) e
 refine⟨e',?_⟩
 cases q:H b with
 | none=>rfl
 | some x=>
  have hm:b∈trk h H:=QbK.mpr ⟨QbU.mpr (Qch e'),by simp[q]⟩
  have z:(O5 h H).get? b=none:=PySem.W.hideAll_none (trk h H) hm
  rw[z] at e;cases e
def Q7 (g h:Heap) (L:Addr):List (Addr×Obj):=(List.range h.objs.size).filterMap λa=>if a=L\/(g.get? a).isSome=true then none else (h.get? a).map λo=>(a,o)
theorem NK {g h:Heap} {L a:Addr} {o:Obj} (h1:a≠L) (h2:g.get? a=none) (h3:h.get? a=some o):(a,o)∈Q7 g h L:=
 List.mem_filterMap.mpr ⟨a,QbU.mpr (Qch h3),by simp[h1,h2,h3]⟩
theorem Um {g h:Heap} {L:Addr} {p:Addr×Obj} (hp:p∈Q7 g h L):p.1≠L/\g.get? p.1=none/\h.get? p.1=some p.2:=by
 obtain⟨b,_,e⟩:=List.mem_filterMap.mp hp
 split at e
 ·cases e
 ·rename_i hn
  cases q:h.get? b with
  | none=>rw[q] at e;simp at e
  | some u=>
   rw[q] at e
   simp only[Option.map_some,Option.some.injEq] at e
   subst e
   refine⟨λz=>hn (.inl z),?_,q⟩
   show g.get? b=none
   cases r:g.get? b with
   | none=>rfl
   | some v=>exact (hn (.inr (by simp[r]))).elim
def rest (g h:Heap) (L d:Addr):List (Addr×Obj):=(Q7 g h L).filter λp=>decide (p.1≠d)
theorem mO {g h:Heap} {L:Addr}:News g L h (Q7 g h L):=λp hp=>let ⟨a,b,c⟩:=Um hp;⟨c,a,b⟩
structure Mod (K:PySem.W.Frag) (mg:Str->Option Value) (base:Heap):Prop where
 kin:K.In base
 glob:base.Ns mainGlobals mg
 blt:∃mb,base.Ns builtinsNs mb/\∀x:Str,x≠"__name__"->mb x=bootBuiltins x
 nolimit:base.NoLimit
structure Cx where
 prog:Program
 w:World
 K:PySem.W.Frag
 mg:Str->Option Value
 base:Heap
 A:Around
 N:List Str
 s₀ : Shared
 H₀ : Hp
 env:Env
 outer:List Env
 stack:List Env
 ex:List Addr
 fn:Str->Bool
 calm:Bool
 pn:List (Addr×Obj)
 xe:Value->Shared->Prop
def frs (l:List Env):List Addr:=l.filterMap (·.frame)
abbrev Cx.fs (X:Cx):List Addr:=frs X.outer
def Vis (sc:Scope) (x:Str):Prop:=sc.names.lookup x=some .local\/sc.names.lookup x=some .cell\/sc.names.lookup x=some .free
def Loc (sc:Scope) (x:Str):Prop:=sc.names.lookup x=some .local\/sc.names.lookup x=some .cell
def Look (env:Env) (h:Heap) (m:Str->Option Value) (x:Str) (u:Value):Prop:=
 (env.kindOf x=some .local/\m x=some u)\/((env.kindOf x=some .cell\/env.kindOf x=some .free)/\∃c,env.cells.lookup x=some c/\h.IsCell c (some u))
structure Cx.Ok (X:Cx):Prop where
 mod:Mod X.K X.mg X.base
 kind:X.env.scope.kind=.function
 glob:X.env.globals=mainGlobals
 blt:X.env.builtins=builtinsNs
 above:X.s₀.heap.objs.size<=X.env.locals
 inj:∀x y c,X.env.cells.lookup x=some c->X.env.cells.lookup y=some c->x=y
 has:∀x,(X.env.kindOf x=some .cell\/X.env.kindOf x=some .free)->∃c,X.env.cells.lookup x=some c
 cab:∀x c,X.fn x=true->X.env.cells.lookup x=some c->X.s₀.heap.objs.size<=c
 hd:X.calm=true->X.A.handled=none
 frames:X.A.frames=some X.stack
 stk:X.stack=X.outer\/(X.stack=X.env::X.outer/\X.env.frame=some X.env.locals)
 exf:∀b∈X.ex,b≠X.env.locals/\∀x c,X.env.cells.lookup x=some c->c≠b
 bs:∀b o,X.base.get? b=some o->X.s₀.heap.get? b=some o/\X.H₀ b=none
 bsz:X.base.objs.size<=X.s₀.heap.objs.size
 M6:∀b o,X.base.get? b=some o->b∉X.ex
 Kr:∀b∈X.ex,b∉X.fs
 Gy:X.s₀.heap.FunFrames X.base X.outer
 frf:∀b∈X.fs,X.H₀ b=none
structure Inv (X:Cx) (pins:List (Addr×Obj)) (σ : List (Option V)) (H:Hp) (s:Shared):Prop where
 ok:X.Ok
 os:s.os=X.s₀.os
 bare:AllBare s.gens
 base:Un X.fs X.ex X.H₀ H X.s₀.heap s.heap
 loc:∃m,s.heap.Ns X.env.locals m/\∀(i:Nat) (x:Str) (v:V),X.N[i]?=some x->σ[i]?=some (some v)->Vis X.env.scope x->∃u,RelV v u/\Look X.env s.heap m x u
 cell:∀x c,X.env.cells.lookup x=some c->∃v,s.heap.IsCell c v
 free:H X.env.locals=none
 Ew:∀x c,X.env.cells.lookup x=some c->H c=none
 pin:∀p∈X.pn++pins,s.heap.get? p.1=some p.2/\H p.1=none/\p.1≠X.env.locals/\p.1∉X.fs/\∀v,p.2.data≠.cell v
 hok:HOk X.prog X.w H s.heap
 len:σ.length=X.N.length
section
variable {X:Cx} {pins:List (Addr×Obj)} {σ : List (Option V)} {H H':Hp} {s:Shared} {h':Heap}
theorem Cx.Ok.IB (ok:X.Ok) {b:Addr} {o:Obj} (e:X.base.get? b=some o):b∉X.fs:=λhb=>by
 have:=(ok.Gy.mem hb).1
 rw[e] at this;cases this
theorem Inv.bs (I:Inv X pins σ H s):∀b o,X.base.get? b=some o->s.heap.get? b=some o/\H b=none:=λb o e=>
 ⟨I.base.keep b o (I.ok.bs b o e).1 (I.ok.bs b o e).2 (I.ok.IB e) (I.ok.M6 b o e),I.base.free b o (I.ok.bs b o e).1 (I.ok.bs b o e).2 (I.ok.M6 b o e)⟩
theorem Inv.bk (I:Inv X pins σ H s):∀b o,X.base.get? b=some o->s.heap.get? b=some o:=λb o e=>(I.bs b o e).1
theorem Inv.mod (I:Inv X pins σ H s):Mod X.K X.mg X.base:=I.ok.mod
theorem Inv.kIn (I:Inv X pins σ H s):X.K.In s.heap:=I.ok.mod.kin.keeps I.bk
theorem Inv.nolimit (I:Inv X pins σ H s):s.heap.NoLimit:=I.ok.mod.nolimit.keeps I.bk
theorem Inv.fr (I:Inv X pins σ H s):∃m,Fr X.base X.env.locals s.heap m:=
 let ⟨m,hn,_⟩:=I.loc
 ⟨m,hn,I.bk,Qck I.ok.bsz I.ok.above⟩
theorem Inv.lt (I:Inv X pins σ H s):X.env.locals < s.heap.objs.size:=let ⟨_,hn,_⟩:=I.loc;hn.lt
theorem Inv.sz (I:Inv X pins σ H s):X.s₀.heap.objs.size<=s.heap.objs.size:=Qck I.ok.above (Qcn I.lt)
theorem Inv.mJ (I:Inv X pins σ H s) {a:Addr} (h:s.heap.objs.size<=a):a∉X.fs:=λhb=>by
 obtain⟨_,o,ho,_⟩:=I.ok.Gy.mem hb
 exact absurd (QaW (Qch ho) (Qck I.sz h)) (Qcb _)
theorem Inv.cne (I:Inv X pins σ H s):∀x c,X.env.cells.lookup x=some c->c≠X.env.locals:=λx c e z=>by
 obtain⟨v,o,ho,hd⟩:=I.cell x c e
 obtain⟨m,⟨o',es,ep,ho',hd',_⟩,_⟩:=I.loc
 rw[z,ho'] at ho;cases ho;rw[hd'] at hd;cases hd
theorem Inv.Gy (I:Inv X pins σ H s):s.heap.FunFrames X.base X.outer:=by
 have all:∀(l:List Env),(∀b∈frs l,b∈X.fs)->X.s₀.heap.FunFrames X.base l->s.heap.FunFrames X.base l:=by
  intro l
  induction l with
  | nil=>intro _ _;trivial
  | cons env r ih=>
   intro hs hl
   obtain⟨hk,⟨L,o,hf,hn,ho,hd⟩,hr⟩:=hl
   have hL:L∈X.fs:=hs L (by unfold frs;rw[List.filterMap_cons,hf];exact QaR)
   obtain⟨sl,e⟩:=I.base.slot L o ho (I.ok.frf L hL) hL λz=>I.ok.Kr L z hL
   exact⟨hk,⟨L,_,hf,hn,e,hd⟩,ih (λb hb=>hs b (by unfold frs;rw[List.filterMap_cons,hf];exact QaE _ hb)) hr⟩
 exact all X.outer (λ_ hb=>hb) I.ok.Gy
theorem Inv.stack (I:Inv X pins σ H s):s.heap.FunFrames X.base X.stack:=by
 rcases I.ok.stk with e |⟨e,hf⟩
 ·rw[e];exact I.Gy
 ·rw[e]
  obtain⟨m,hn,_⟩:=I.loc
  refine .cons (by rw[I.ok.kind];decide) hf hn ?_ I.Gy
  exact Heap.get?_none_of_le (Qck I.ok.bsz I.ok.above)
theorem Inv.Sy (I:Inv X pins σ H s):∀b∈frs X.stack,b∈X.env.locals::X.fs:=λb hb=>by
 rcases I.ok.stk with e |⟨e,hf⟩
 ·rw[e] at hb;exact QaE _ hb
 ·rw[e] at hb
  unfold frs at hb
  rw[List.filterMap_cons,hf] at hb
  exact hb
theorem Inv.Ua (I:Inv X pins σ H s):∀b∈frs X.stack,H b=none:=λb hb=>by
 rcases QbY.mp (I.Sy b hb) with e | hb
 ·rw[e];exact I.free
 ·obtain⟨_,o,ho,_⟩:=I.ok.Gy.mem hb
  exact I.base.free b o ho (I.ok.frf b hb) λz=>I.ok.Kr b z hb
theorem Inv.step {g':Array GenState} {t':Nat} {d':Drawn} {ch:List Addr} (I:Inv X pins σ H s)
  (hch:∀b∈ch,(b∈X.ex\/X.s₀.heap.objs.size<=b)/\b≠X.env.locals/\(∀x c,X.env.cells.lookup x=some c->c≠b)/\∀p∈X.pn++pins,p.1≠b)
  (keep:∀b o,b≠X.env.locals->b∉X.fs->b∉ch->s.heap.get? b=some o->H b=none->h'.get? b=some o)
  (slot:∀b o,b≠X.env.locals->b∈X.fs->b∉ch->s.heap.get? b=some o->H b=none->∃sl,h'.get? b=some { o with slots:=sl }) (free:∀b o,b∉ch->s.heap.get? b=some o->H b=none->H' b=none)
  (there:∀b o,b∉ch->s.heap.get? b=some o->∃o',h'.get? b=some o')
  (tups:∀b xs,H b=some (.tup xs)->H' b=some (.tup xs)) (Hi:∀b o u,H b=some (.frz o u)->H' b=some (.frz o u)) (Il:∀b ps,H b=some (.tbl ps)->∃more,H' b=some (.tbl (ps++more)))
  (ns:∀m,s.heap.Ns X.env.locals m->h'.Ns X.env.locals m) (hok:HOk X.prog X.w H' h') (hg:AllBare g') :
  Inv X pins σ H' { s with heap:=h',gens:=g',drawn:=d',toks:=t' }:=by
 have neL:∀b o,X.s₀.heap.get? b=some o->b≠X.env.locals:=λb o e=>Qcj (QaW (Qch e) I.ok.above)
 have neC:∀b o,X.s₀.heap.get? b=some o->b∉X.ex->b∉ch:=λb o e hx hb=>by
  rcases (hch b hb).1 with z | z
  ·exact hx z
  ·exact absurd (QaW (Qch e) z) (Qcb _)
 have cellK:∀x c,X.env.cells.lookup x=some c->∀v,s.heap.IsCell c v->h'.IsCell c v:=λx c e v ⟨o,ho,hd⟩=>by
  have nch:c∉ch:=λz=>(hch c z).2.2.1 x c e rfl
  by_cases hc:c∈X.fs
  ·obtain⟨sl,q⟩:=slot c o (I.cne x c e) hc nch ho (I.Ew x c e)
   exact⟨_,q,hd⟩
  ·exact⟨o,keep c o (I.cne x c e) hc nch ho (I.Ew x c e),hd⟩
 refine⟨I.ok,I.os,hg,⟨λb o e n hb hx=>?_,λb o e n hb hx=>?_,λb o e n hx=>?_,λb o e hx=>?_,λb xs e=>tups b xs (I.base.tups b xs e),λb o xs e=>Hi b o xs (I.base.Hi b o xs e),λb ps e=>?_⟩,?_,λx c e=>?_,?_,λx c e=>?_,λp hp=>?_,hok,I.len⟩
 ·exact keep b o (neL b o e) hb (neC b o e hx) (I.base.keep b o e n hb hx) (I.base.free b o e n hx)
 ·obtain⟨sl,e1⟩:=I.base.slot b o e n hb hx
  obtain⟨sl',e2⟩:=slot b _ (neL b o e) hb (neC b o e hx) e1 (I.base.free b o e n hx)
  exact⟨sl',e2⟩
 ·obtain⟨o',e1⟩:=I.base.there b o e hx
  exact free b o' (neC b o e hx) e1 (I.base.free b o e n hx)
 ·obtain⟨o',e1⟩:=I.base.there b o e hx
  exact there b o' (neC b o e hx) e1
 ·obtain⟨m1,e1⟩:=I.base.Il b ps e
  obtain⟨m2,e2⟩:=Il b _ e1
  exact⟨m1++m2,by rw[e2,Array.append_assoc]⟩
 ·obtain⟨m,hn,hl⟩:=I.loc
  refine⟨m,ns m hn,λi x v e1 e2 e3=>?_⟩
  obtain⟨u,r,l⟩:=hl i x v e1 e2 e3
  refine⟨u,r,?_⟩
  rcases l with l |⟨k,c,e,z⟩
  ·exact .inl l
  ·exact .inr ⟨k,c,e,cellK x c e _ z⟩
 ·obtain⟨v,z⟩:=I.cell x c e
  exact⟨v,cellK x c e v z⟩
 ·obtain⟨m,⟨o,_,_,ho,_⟩,_⟩:=I.loc
  exact free _ o (λz=>(hch _ z).2.1 rfl) ho I.free
 ·obtain⟨v,o,ho,hd⟩:=I.cell x c e
  exact free c o (λz=>(hch c z).2.2.1 x c e rfl) ho (I.Ew x c e)
 ·obtain⟨e,n,ne,nf,d⟩:=I.pin p hp
  have nch:p.1∉ch:=λz=>(hch p.1 z).2.2.2 p hp rfl
  exact⟨keep p.1 p.2 ne nf nch e n,free p.1 p.2 nch e n,ne,nf,d⟩
theorem Inv.un {t':Nat} (I:Inv X pins σ H s) (u:Un X.fs [] H H' s.heap h') (hok:HOk X.prog X.w H' h'):Inv X pins σ H' { s with heap:=h',toks:=t' }:=by
 obtain⟨m,⟨o,es,ep,ho,r⟩,_⟩:=id I.loc
 obtain⟨sl,hL⟩:=u.any ho I.free (by simp)
 exact I.step (g':=s.gens) (d':=s.drawn) (ch:=[]) (λ_ z=>nomatch z) (λb o _ hb _ e n=>u.keep b o e n hb (by simp)) (λb o _ hb _ e n=>u.slot b o e n hb (by simp)) (λb o _ e n=>u.free b o e n (by simp)) (λb o _ e=>u.there b o e (by simp)) u.tups u.Hi u.Il (λm' hm=>by
  obtain⟨o',es',ep',ho',r'⟩:=hm
  rw[ho] at ho';cases ho'
  exact⟨_,es',ep',hL,r'⟩) hok I.bare
theorem Inv.call {g':Array GenState} {t':Nat} {d':Drawn} {ch:List Addr} (I:Inv X pins σ H s) (u:Un (frs X.stack) ch H H' s.heap h') (hok:HOk X.prog X.w H' h') (hg:AllBare g')
  (hch:∀b∈ch,(b∈X.ex\/X.s₀.heap.objs.size<=b)/\b≠X.env.locals/\(∀x c,X.env.cells.lookup x=some c->c≠b)/\∀p∈X.pn++pins,p.1≠b) :
  Inv X pins σ H' { s with heap:=h',gens:=g',drawn:=d',toks:=t' }:=by
 obtain⟨m,⟨o,es,ep,ho,r⟩,_⟩:=id I.loc
 obtain⟨sl,hL⟩:=u.any ho I.free λz=>(hch _ z).2.1 rfl
 exact I.step (ch:=ch) hch (λb o hL hb hc e n=>u.keep b o e n (λz=>(QbY.mp (I.Sy b z)).elim hL hb) hc) (λb o _ _ hc e n=>u.any e n hc) (λb o hc e n=>u.free b o e n hc) (λb o hc e=>u.there b o e hc) u.tups u.Hi u.Il (λm' hm=>by
  obtain⟨o',es',ep',ho',r'⟩:=hm
  rw[ho] at ho';cases ho'
  exact⟨_,es',ep',hL,r'⟩) hok hg
theorem Inv.turned {t':Nat} {it:Addr} (I:Inv X pins σ H s) (k:∀b o,b≠it->s.heap.get? b=some o->h'.get? b=some o) (hn:H it=none) (hL:it≠X.env.locals)
  (h1:it∈X.ex\/X.s₀.heap.objs.size<=it) (h2:∀x c,X.env.cells.lookup x=some c->c≠it) (h3:∀p∈X.pn++pins,p.1≠it):Inv X pins σ H { s with heap:=h',toks:=t' }:=by
 have nit:∀b u,H b=some u->b≠it:=λb u e z=>by rw[z,hn] at e;cases e
 refine I.step (g':=s.gens) (d':=s.drawn) (ch:=[it]) (λb hb=>?_) (λb o _ _ hc e _=>k b o (λz=>hc (by simp[z])) e) (λb o _ _ hc e _=>⟨o.slots,k b o (λz=>hc (by simp[z])) e⟩) (λ_ _ _ _ n=>n)
  (λb o hc e=>⟨o,k b o (λz=>hc (by simp[z])) e⟩) (λ_ _ e=>e) (λ_ _ _ e=>e) (λb ps e=>⟨#[],by rw[e];simp⟩) (λm hm=>?_) (λb u e=>?_) I.bare
 ·have e:b=it:=by simpa using hb
  subst e
  exact⟨h1,hL,h2,h3⟩
 ·obtain⟨o,es,ep,ho,r⟩:=hm
  exact⟨o,es,ep,k _ o (Ne.symm hL) ho,r⟩
 ·refine (I.hok b u e).stay (λc v hc q=>k c v ?_ q) (λ_ q=>q) λ_ _ q=>q
  rcases hc with z | z
  ·rw[z];exact nit b u e
  ·exact nit c _ z
theorem Inv.tok (I:Inv X pins σ H s) (t:Nat):Inv X pins σ H { s with toks:=t }:=I.un (h':=s.heap) (t':=t) Un.refl I.hok
theorem Inv.kept {t':Nat} (I:Inv X pins σ H s) (k:∀b u,s.heap.get? b=some u->h'.get? b=some u):Inv X pins σ H { s with heap:=h',toks:=t' }:=I.un (Un.kept k) (I.hok.kept k)
theorem Inv.laid {a:Addr} {o:HO} {t':Nat} (I:Inv X pins σ H s) (k:∀b u,s.heap.get? b=some u->h'.get? b=some u) (hp:s.heap.objs.size<=a) (new:Bp X.prog X.w (upd H a o) h' a o) :
  Inv X pins σ (upd H a o) { s with heap:=h',toks:=t' }:=I.un (Un.laid k hp (I.hok.fresh hp)) (I.hok.laid k hp new)
theorem Inv.write {x e:Addr} {o:HO} {t':Nat} (I:Inv X pins σ H s) (mu:Mut (H x)) (he:e=x\/H e=some (.own x)) (k:∀b u,b≠e->s.heap.get? b=some u->h'.get? b=some u) (heo:∃u,h'.get? e=some u)
  (new:Bp X.prog X.w (upd H x o) h' x o):Inv X pins σ (upd H x o) { s with heap:=h',toks:=t' }:=I.un (Un.write mu he k heo) (I.hok.write mu he k heo new)
theorem Inv.QT {Hq:List (Addr×Obj)} (I:Inv X pins σ H s) (h:∀p∈Hq,s.heap.get? p.1=some p.2/\H p.1=none/\p.1≠X.env.locals/\p.1∉X.fs/\∀v,p.2.data≠.cell v):Inv X Hq σ H s:=
 ⟨I.ok,I.os,I.bare,I.base,I.loc,I.cell,I.free,I.Ew,λp hp=>(QbD.mp hp).elim (λz=>I.pin p (QaF _ z)) (h p),I.hok,I.len⟩
theorem RN {N:List Str} (hN:N.Nodup) {i j:Nat} {x:Str} (a:N[i]?=some x) (b:N[j]?=some x):i=j:=by
 obtain⟨h1,e1⟩:=Qah.mp a
 obtain⟨h2,e2⟩:=Qah.mp b
 exact (List.getElem_inj hN).mp (e1.trans e2.symm)
theorem fu {M:Model} {A:Around} {E:Value->Shared->Prop} {i:Nat} {x:Str} {v:V} {u:Value} {Q:Unit->Shared->Prop} (I:Inv X pins σ H s) (hN:X.N.Nodup) (hi:X.N[i]?=some x) (hx:Loc X.env.scope x) (r:RelV v u)
  (h:∀s',Inv X pins (σ.set i (some v)) H s'->(∃a,Heap.SameBut a s.heap s'.heap/\(a=X.env.locals\/X.env.cells.lookup x=some a))->Q () s') (hf:X.fn x=true\/X.env.scope.names.lookup x=some .local:=by first | exact .inl rfl | exact .inr rfl | assumption):wpAny M A (storeName X.env x u) Q E s:=by
 obtain⟨m,hn,hl⟩:=id I.loc
 have hcls:(X.env.scope.kind == .class || (X.env.scope.kind == .module&&X.env.locals != X.env.globals))=false:=by rw[I.ok.kind];rfl
 have hiσ : i < σ.length:=by rw[I.len];exact (Qah.mp hi).1
 have cne:=I.cne
 have tracked:∀{a:Addr} {h':Heap},(∃o,s.heap.get? a=some o/\H a=none)->Heap.SameBut a s.heap h'->HOk X.prog X.w H h':=λ{a h'} ha hs b ob e=>by
  obtain⟨_,_,hfree⟩:=ha
  refine (I.hok b ob e).stay (λc w' hc q=>(hs.2 c ?_).trans q) (λ_ q=>q) λ_ _ q=>q
  rintro rfl
  rcases hc with rfl | hc
  ·rw[hfree] at e;cases e
  ·rw[hfree] at hc;cases hc
 rcases hx with hk | hk
 ·refine wpAny_storeName_local hk hn (λh' hn' hs=>?_) hcls
  obtain⟨oL,_,_,hoL,_⟩:=id hn
  refine h _ ⟨I.ok,I.os,I.bare,⟨λb o e n hb hx=>?_,λb o e n hb hx=>?_,I.base.free,λb o e hx=>?_,I.base.tups,I.base.Hi,I.base.Il⟩,⟨_,hn',λj y v' e1 e2 e3=>?_⟩,λy c e=>?_,I.free,I.Ew,λp hp=>?_,tracked ⟨oL,hoL,I.free⟩ hs,by simpa using I.len⟩ ⟨_,hs,.inl rfl⟩
  ·exact (hs.2 b (Qcj (QaW (Qch e) I.ok.above))).trans (I.base.keep b o e n hb hx)
  ·obtain⟨sl,e1⟩:=I.base.slot b o e n hb hx
   exact⟨sl,(hs.2 b (Qcj (QaW (Qch e) I.ok.above))).trans e1⟩
  ·obtain⟨o',e1⟩:=I.base.there b o e hx
   exact⟨o',(hs.2 b (Qcj (QaW (Qch e) I.ok.above))).trans e1⟩
  ·by_cases hj:j=i
   ·subst hj
    rw[hi] at e1;cases e1
    rw[List.getElem?_set_self hiσ] at e2
    cases e2
    exact⟨u,r,.inl ⟨hk,by simp⟩⟩
   ·rw[List.getElem?_set_ne (Ne.symm hj)] at e2
    obtain⟨u',r',q⟩:=hl j y v' e1 e2 e3
    refine⟨u',r',?_⟩
    rcases q with⟨k,e⟩|⟨k,c,e,z⟩
    ·refine .inl ⟨k,?_⟩
     have:y≠x:=λe=>hj (RN hN e1 (e ▸ hi))
     simp[this,e]
    ·exact .inr ⟨k,c,e,z.sameBut hs (cne y c e)⟩
  ·obtain⟨w',z⟩:=I.cell y c e
   exact⟨w',z.sameBut hs (cne y c e)⟩
  ·obtain⟨e,n,ne,nf,d⟩:=I.pin p hp
   exact⟨(hs.2 p.1 ne).trans e,n,ne,nf,d⟩
 ·have hfn:X.fn x=true:=by
   rcases hf with z | z
   ·exact z
   ·rw[z] at hk;cases hk
  obtain⟨c,hc⟩:=I.ok.has x (.inl hk)
  obtain⟨w',z⟩:=I.cell x c hc
  refine wpAny_storeName_cell I.ok.kind hk hc z (λh' hc' hs=>?_)
  obtain⟨oc,hoc,Lv⟩:=id z
  refine h { s with heap:=h' } ⟨I.ok,I.os,I.bare,⟨λb o e n hb hx=>?_,λb o e n hb hx=>?_,I.base.free,λb o e hx=>?_,I.base.tups,I.base.Hi,I.base.Il⟩,⟨m,hn.sameBut hs (Ne.symm (cne x c hc)),λj y v' e1 e2 e3=>?_⟩,λy c' e=>?_,I.free,I.Ew,λp hp=>?_,tracked ⟨oc,hoc,I.Ew x c hc⟩ hs,by simpa using I.len⟩ ⟨c,hs,.inr hc⟩
  ·exact (hs.2 b (Qcj (QaW (Qch e) (I.ok.cab x c hfn hc)))).trans (I.base.keep b o e n hb hx)
  ·obtain⟨sl,e1⟩:=I.base.slot b o e n hb hx
   exact⟨sl,(hs.2 b (Qcj (QaW (Qch e) (I.ok.cab x c hfn hc)))).trans e1⟩
  ·obtain⟨o',e1⟩:=I.base.there b o e hx
   exact⟨o',(hs.2 b (Qcj (QaW (Qch e) (I.ok.cab x c hfn hc)))).trans e1⟩
  ·by_cases hj:j=i
   ·subst hj
    rw[hi] at e1;cases e1
    rw[List.getElem?_set_self hiσ] at e2
    cases e2
    exact⟨u,r,.inr ⟨.inl hk,c,hc,hc'⟩⟩
   ·rw[List.getElem?_set_ne (Ne.symm hj)] at e2
    obtain⟨u',r',q⟩:=hl j y v' e1 e2 e3
    refine⟨u',r',?_⟩
    rcases q with q |⟨k,c',e,z'⟩
    ·exact .inl q
    ·refine .inr ⟨k,c',e,z'.sameBut hs ?_⟩
     rintro rfl
     exact hj (RN hN e1 (I.ok.inj _ _ _ e hc ▸ hi))
  ·by_cases hcc:c'=c
   ·subst hcc;exact⟨_,hc'⟩
   ·obtain⟨w2,z2⟩:=I.cell y c' e
    exact⟨w2,z2.sameBut hs hcc⟩
  ·obtain⟨e,n,ne,nf,d⟩:=I.pin p hp
   refine⟨(hs.2 p.1 ?_).trans e,n,ne,nf,d⟩
   intro q
   rw[q,hoc] at e
   have q':oc=p.2:=QbH e
   exact d w' (by rw[<-q'];exact Lv)
theorem Ml {M:Model} {A:Around} {E:Value->Shared->Prop} {i:Nat} {x:Str} {v:V} {u:Value} {Q:Unit->Shared->Prop} (I:Inv X pins σ H s) (hN:X.N.Nodup) (hi:X.N[i]?=some x) (hx:Loc X.env.scope x) (r:RelV v u)
  (h:∀s',Inv X pins (σ.set i (some v)) H s'->Q () s') (hf:X.fn x=true\/X.env.scope.names.lookup x=some .local:=by first | exact .inl rfl | exact .inr rfl | assumption):wpAny M A (storeName X.env x u) Q E s:=
 fu I hN hi hx r (λs' I' _=>h s' I') hf
theorem Inv.call' {s':Shared} {ch:List Addr} (I:Inv X pins σ H s) (ho:s'.os=s.os) (u:Un (frs X.stack) ch H H' s.heap s'.heap) (hok:HOk X.prog X.w H' s'.heap) (hg:AllBare s'.gens)
  (hch:∀b∈ch,(b∈X.ex\/X.s₀.heap.objs.size<=b)/\b≠X.env.locals/\(∀x c,X.env.cells.lookup x=some c->c≠b)/\∀p∈X.pn++pins,p.1≠b):Inv X pins σ H' s':=by
 obtain⟨h',g',d',t',o'⟩:=s'
 have e:o'=s.os:=ho
 subst e
 exact I.call (g':=g') (t':=t') (d':=d') u hok hg hch
end
abbrev XK:=Value->Option Addr->Hp->Prop
abbrev St:=List (Option V)
abbrev VK:=V->Hp->Prop
abbrev TE:=St->Hp->VK->Prop
abbrev TT:=St->Hp->(Bool->Hp->Prop)->Prop
abbrev TA:=St->Hp->(List V->Hp->Prop)->Prop
structure Ends where
 nx:St->Hp->Prop
 rt:VK
 bk:St->Hp->Prop:=λ_ _=>False
 ct:St->Hp->Prop:=λ_ _=>False
abbrev TS:=Ends->St->Hp->Prop
def EP (X:Cx) (pins:List (Addr×Obj)) (σ : St) (Q:VK) (u:Value) (s':Shared):Prop:=∃v H',Inv X pins σ H' s'/\RelV v u/\Q v H'
def TP (X:Cx) (pins:List (Addr×Obj)) (σ : St) (Q:Bool->Hp->Prop) (b:Bool) (s':Shared):Prop:=∃H',Inv X pins σ H' s'/\Q b H'
def AP (X:Cx) (pins:List (Addr×Obj)) (σ : St) (Q:List V->Hp->Prop) (us:List Value) (s':Shared):Prop:=∃vs H',Inv X pins σ H' s'/\Vals vs us/\Q vs H'
def SP (X:Cx) (pins:List (Addr×Obj)) (D:Ends) (f:Flow) (s':Shared):Prop:=
 match f with
 | .next=>∃ σ' H',Inv X pins σ' H' s'/\D.nx σ' H'
 | .brk=>∃ σ' H',Inv X pins σ' H' s'/\D.bk σ' H'
 | .cont=>∃ σ' H',Inv X pins σ' H' s'/\D.ct σ' H'
 | .ret u=>∃v σ' H',Inv X pins σ' H' s'/\RelV v u/\D.rt v H'
def PE (X:Cx) (e:Expr) (t:TE):Prop:=
 ∀(pins:List (Addr×Obj)) (s:Shared) (σ : St) (H:Hp) (Q:VK),Inv X pins σ H s->t σ H Q->wpAny (model X.prog X.w) X.A (eval e X.env) (EP X pins σ Q) X.xe s
def PT (X:Cx) (e:Expr) (t:TT):Prop:=
 ∀(pins:List (Addr×Obj)) (s:Shared) (σ : St) (H:Hp) (Q:Bool->Hp->Prop),Inv X pins σ H s->t σ H Q->wpAny (model X.prog X.w) X.A (isTrue e X.env (eval e X.env)) (TP X pins σ Q) X.xe s
def PW (X:Cx) (e:Expr) (t:TT):Prop:=
 ∀(whole:Sem Value) (pins:List (Addr×Obj)) (s:Shared) (σ : St) (H:Hp) (Q:Bool->Hp->Prop),Inv X pins σ H s->t σ H Q->wpAny (model X.prog X.w) X.A (isTrue e X.env whole) (TP X pins σ Q) X.xe s
theorem PW.pt {X:Cx} {e:Expr} {t:TT} (h:PW X e t):PT X e t:=h _
def PA (X:Cx) (es:List Expr) (t:TA):Prop:=
 ∀(pos:Pos) (pins:List (Addr×Obj)) (s:Shared) (σ : St) (H:Hp) (Q:List V->Hp->Prop),Inv X pins σ H s->t σ H Q->wpAny (model X.prog X.w) X.A (spliced (backTo pos (starEach es X.env))) (AP X pins σ Q) X.xe s
def PS (X:Cx) (st:Stmt) (t:TS):Prop:=
 ∀(pins:List (Addr×Obj)) (s:Shared) (σ : St) (H:Hp) (D:Ends),Inv X pins σ H s->t D σ H->wpAny (model X.prog X.w) X.A (exec st X.env) (SP X pins D) X.xe s
def PSs (X:Cx) (st:List Stmt) (t:TS):Prop:=
 ∀(pins:List (Addr×Obj)) (s:Shared) (σ : St) (H:Hp) (D:Ends),Inv X pins σ H s->t D σ H->wpAny (model X.prog X.w) X.A (execs st X.env) (SP X pins D) X.xe s
theorem thn {α : Type} {t:Sem α} {Q Q':α->Shared->Prop} {M:Model} {A:Around} {E:Value->Shared->Prop} {s:Shared} (h:wpAny M A t Q E s) (hQ:∀a s,Q a s->Q' a s):wpAny M A t Q' E s:=Qcx h hQ λ_ _ x=>x
section
variable {X:Cx}
theorem bin {a b:Expr} {ta tb:TE} (ha:PE X a ta) (hb:PE X b tb) {pins:List (Addr×Obj)} {s:Shared} {σ : St} {H:Hp} {R:V->V->Hp->Prop} (I:Inv X pins σ H s) (h:ta σ H λx H1=>tb σ H1 λy H2=>R x y H2)
  {α : Type} {Q:α->Shared->Prop} {f:Value->Value->Sem α}
  (hf:∀v u s2 x y H2,Inv X pins σ H2 s2->RelV x v->RelV y u->R x y H2->wpAny (model X.prog X.w) X.A (f v u) Q X.xe s2) :
  wpAny (model X.prog X.w) X.A (eval a X.env) (λv s₁=>wpAny (model X.prog X.w) X.A (eval b X.env) (λu s₂=>wpAny (model X.prog X.w) X.A (f v u) Q X.xe s₂) X.xe s₁) X.xe s:=by
 refine thn (ha pins s σ H _ I h) λv s1 ⟨x,H1,I1,r1,q1⟩=>?_
 refine thn (hb pins s1 σ H1 _ I1 q1) λu s2 ⟨y,H2,I2,r2,q2⟩=>?_
 exact hf v u s2 x y H2 I2 r1 r2 q2
def uW (i:Nat):TE:=fun σ H Q=>∃v,σ[i]?=some (some v)/\Q v H
def tC (v:V):TE:=λ_ H Q=>Q v H
theorem vY {i:Nat} {x:Str} {pos:Pos} (hN:X.N[i]?=some x) (hv:Vis X.env.scope x) (hd:(x == ("__debug__":Str))=false:=by decide) (hcd:(x == ("__classdict__":Str))=false:=by decide):PE X (.Name x pos) (uW i):=by
 intro pins s σ H Q I h
 obtain⟨v,e,h⟩:=h
 obtain⟨m,hn,hl⟩:=I.loc
 obtain⟨u,r,l⟩:=hl i x v hN e hv
 have fin:EP X pins σ Q u s:=⟨v,H,I,r,h⟩
 rcases l with⟨hk,hm⟩|⟨hk,c,hc,hcell⟩
 ·exact wpAny_Name (wpAny_loadName_local I.ok.kind hk hn hm fin) hd
 ·rcases hk with hk | hk
  ·exact wpAny_Name (wpAny_loadName_cell I.ok.kind hk hc hcell fin) hd
  ·exact wpAny_Name (wpAny_loadName_free I.ok.kind hk hc hcell fin hcd) hd
theorem Ae {i j pos}:PE X (.Constant (.int i) j pos) (tC (.int i)):=λ_ _ _ H _ I h=>wpAny_Constant_int ⟨.int i,H,I.tok _,⟨_,rfl⟩,h⟩
theorem Fw {b j pos}:PE X (.Constant (.bool b) j pos) (tC (.bl b)):=λ_ _ _ H _ I h=>Constant_bool ⟨.bl b,H,I,rfl,h⟩
theorem JK {j pos}:PE X (.Constant .none j pos) (tC .non):=λ_ _ _ H _ I h=>Constant_none ⟨.non,H,I,rfl,h⟩
theorem Bh {x j pos}:PE X (.Constant (.str x) j pos) (tC (.str x)):=λ_ _ _ H _ I h=>Calls.Constant_str ⟨.str x,H,I.tok _,⟨_,rfl⟩,h⟩
def Gl (X:Cx) (x:Str):Prop:=X.env.kindOf x=some .globalImplicit
theorem Mg {E:Value->Shared->Prop} {pins:List (Addr×Obj)} {s:Shared} {σ : St} {H:Hp} {x:Str} {u:Value} {pos:Pos} {Q:Value->Shared->Prop} (I:Inv X pins σ H s) (hg:Gl X x) (hm:X.mg x=some u) (h:Q u s)
  (hd:(x == ("__debug__":Str))=false:=by decide):wpAny (model X.prog X.w) X.A (eval (.Name x pos) X.env) Q E s:=
 Calls.Name_function_global I.ok.kind hg (Calls.loadGlobal_global (by rw[I.ok.glob];exact I.mod.glob.keeps I.bk) hm h) hd
theorem K8 {E:Value->Shared->Prop} {pins:List (Addr×Obj)} {s:Shared} {σ : St} {H:Hp} {x:Str} {u:Value} {pos:Pos} {Q:Value->Shared->Prop} (I:Inv X pins σ H s) (hg:Gl X x) (hm:X.mg x=none) (hv:bootBuiltins x=some u) (h:Q u s)
  (hn:x≠"__name__":=by decide) (hd:(x == ("__debug__":Str))=false:=by decide):wpAny (model X.prog X.w) X.A (eval (.Name x pos) X.env) Q E s:=by
 obtain⟨mb,h1,h2⟩:=I.mod.blt
 exact Calls.Name_function_global I.ok.kind hg (Calls.loadGlobal_builtin (by rw[I.ok.glob];exact I.mod.glob.keeps I.bk) hm (by rw[I.ok.blt];exact h1.keeps I.bk) ((h2 x hn).trans hv) h) hd
theorem Ei {x:Str} {v:V} {u:Value} {pos:Pos} (hg:Gl X x) (hm:X.mg x=some u) (r:RelV v u) (hd:(x == ("__debug__":Str))=false:=by decide):PE X (.Name x pos) (tC v):=
 λ_ _ _ H _ I h=>Mg I hg hm ⟨v,H,I,r,h⟩ hd
theorem Oa {x:Str} {v:V} {u:Value} {pos:Pos} (hg:Gl X x) (hm:X.mg x=none) (hv:bootBuiltins x=some u) (r:RelV v u) (hn:x≠"__name__":=by decide) (hd:(x == ("__debug__":Str))=false:=by decide):PE X (.Name x pos) (tC v):=
 λ_ _ _ H _ I h=>K8 I hg hm hv ⟨v,H,I,r,h⟩ hn hd
variable {a b:Expr} {ta tb:TE} {pos:Pos}
def PC (X:Cx) (op:CmpOp) (a b:Expr) (t:TE):Prop:=
 ∀(pins:List (Addr×Obj)) (s:Shared) (σ : St) (H:Hp) (Q:VK),Inv X pins σ H s->t σ H Q ->
  wpAny (model X.prog X.w) X.A (eval a X.env) (λv s₁=>wpAny (model X.prog X.w) X.A (eval b X.env) (λu s₂=>wpAny (model X.prog X.w) X.A (compareOp op v u) (EP X pins σ Q) X.xe s₂) X.xe s₁) X.xe s
theorem mK (b:Expr) {op:CmpOp} (h:op≠.In) (h2:op≠.NotIn):behindInMarks op b=false:=by
 have e1:(op == CmpOp.In)=false:=by cases op <;> first | rfl | exact absurd rfl h
 have e2:(op == CmpOp.NotIn)=false:=by cases op <;> first | rfl | exact absurd rfl h2
 cases b <;> simp[behindInMarks,e1,e2]
def tB (t:TE):TT:=fun σ H Q=>t σ H λx H1=>∃c,x=.bl c/\Q c H1
theorem Qd {op:CmpOp} {t:TE} (h:PC X op a b t) (h1:behindInMarks op b=false:=by first | exact mK _ (by decide) (by decide) | rfl):PT X (.Compare a [op] [b] pos) (tB t):=by
 intro pins s σ H Q I hw
 refine wpAny_isTrue_Compare1 (thn (h pins s σ H _ I hw) λv s1 h1=>thn h1 λu s2 h2=>thn h2 λc s3 ⟨x,H1,I1,r1,q1⟩=>?_) h1
 obtain⟨d,rfl,q⟩:=q1
 cases r1
 exact Qbm ⟨H1,I1,q⟩
theorem FQ {e:Expr} {t:TE} (h:PE X e t) (he:∀whole,isTrue e X.env whole=(do let v <-whole;standAt e.pos;holding [v] (truthy v)):=by intro _;rfl):PT X e (tB t):=by
 intro pins s σ H Q I hw
 refine isTrue_plain (thn (h pins s σ H _ I hw) λv s1 ⟨x,H1,I1,r1,q1⟩=>?_) (he _)
 obtain⟨d,rfl,q⟩:=q1
 cases r1
 exact Qbm ⟨H1,I1,q⟩
variable {tA tB':TT} {rest:List Expr}
def B5 (t u:TT):TT:=fun σ H Q=>t σ H λc H1=>if c=true then u σ H1 Q else Q false H1
def tOr (t u:TT):TT:=fun σ H Q=>t σ H λc H1=>if c=true then Q true H1 else u σ H1 Q
def BY (t:TT):TT:=fun σ H Q=>t σ H λc H1=>Q (!c) H1
theorem rW (ha:PT X a tA):PW X (.BoolOp .And [a] pos) tA:=by
 intro wh pins s σ H Q I h
 refine isTrue_and (thn (ha pins s σ H Q I h) λc s1 e=>?_)
 cases c with
 | true=>exact isTrue_and_nil e
 | false=>exact e
theorem N8 (ha:PT X a tA):PW X (.BoolOp .Or [a] pos) tA:=by
 intro wh pins s σ H Q I h
 refine isTrue_or (thn (ha pins s σ H Q I h) λc s1 e=>?_)
 cases c with
 | false=>exact isTrue_or_nil e
 | true=>exact e
theorem vU (ha:PT X a tA) (hb:PW X (.BoolOp .And (b::rest) pos) tB'):PW X (.BoolOp .And (a::b::rest) pos) (B5 tA tB'):=by
 intro wh pins s σ H Q I h
 refine isTrue_and (thn (ha pins s σ H _ I h) λc s1 ⟨H1,I1,q1⟩=>?_)
 cases c with
 | true=>exact hb wh pins s1 σ H1 Q I1 q1
 | false=>exact⟨H1,I1,q1⟩
theorem Ov (ha:PT X a tA) (hb:PW X (.BoolOp .Or (b::rest) pos) tB'):PW X (.BoolOp .Or (a::b::rest) pos) (tOr tA tB'):=by
 intro wh pins s σ H Q I h
 refine isTrue_or (thn (ha pins s σ H _ I h) λc s1 ⟨H1,I1,q1⟩=>?_)
 cases c with
 | true=>exact⟨H1,I1,q1⟩
 | false=>exact hb wh pins s1 σ H1 Q I1 q1
theorem FT (ha:PT X a tA):PT X (.UnaryOp .Not a pos) (BY tA):=by
 intro pins s σ H Q I h
 exact isTrue_not (ha pins s σ H (λc H1=>Q (!c) H1) I h)
def AJ (ta tb:TE):TE:=fun σ H Q=>ta σ H λx H1=>∃c,x=.bl c/\if c=true then tb σ H1 Q else Q (.bl false) H1
def AF (ta:TE):TE:=fun σ H Q=>ta σ H λx H1=>∃c,x=.bl c/\Q (.bl (!c)) H1
theorem Ep {op} {t:TE} (h:PE X a t):PE X (.BoolOp op [a] pos) t:=λpins s σ H Q I hw=>BoolOp_one (h pins s σ H Q I hw)
theorem Es (ha:PE X a ta) (hb:PE X (.BoolOp .And (b::rest) pos) tb):PE X (.BoolOp .And (a::b::rest) pos) (AJ ta tb):=by
 intro pins s σ H Q I h
 refine BoolOp_and (thn (ha pins s σ H _ I h) λv s1 ⟨x,H1,I1,r1,q1⟩=>?_)
 obtain⟨c,rfl,q1⟩:=q1
 cases r1
 refine Qbm ?_
 cases c with
 | true=>exact hb pins s1 σ H1 Q I1 q1
 | false=>exact⟨.bl false,H1,I1,rfl,q1⟩
theorem vZ (ha:PE X a ta):PE X (.UnaryOp .Not a pos) (AF ta):=by
 intro pins s σ H Q I h
 refine UnaryOp_ (thn (ha pins s σ H _ I h) λv s1 ⟨x,H1,I1,r1,q1⟩=>?_)
 obtain⟨c,rfl,q1⟩:=q1
 cases r1
 exact not_of (Qbm ⟨.bl (!c),H1,I1,rfl,q1⟩)
end
def SqL (K:PySem.W.Frag) (H:Hp) (a:Addr) (xs:List V):Prop:=
 Rd H a (.lst xs) \/
  ∃(o:Obj) (its:Array Value) (n:Nat),K.lookup a=some o/\o.cls=.type "list"/\o.dict=none/\o.data=.seq its n/\its.size<=sizeLine/\Vals xs its.toList
def SqT (K:PySem.W.Frag) (H:Hp) (a:Addr) (xs:List V):Prop:=
 Rd H a (.tup xs) \/
  ∃(o:Obj) (its:Array Value) (n:Nat),K.lookup a=some o/\o.cls=.type "tuple"/\o.data=.seq its n/\its.size<=sizeLine/\Vals xs its.toList
def Rs:Value->Option V
 | .none=>some .non
 | .bool b=>some (.bl b)
 | .int i _=>some (.int i)
 | .str x _=>some (.str x)
 | .bytes b _=>some (.byt b)
 | .float b _=>some (.flt b)
 | .ref a=>some (.ref a)
 | .type n=>some (.ty n)
 | _=>none
theorem RelV.abs {x:V} {u:Value} (r:RelV x u):Rs u=some x:=by
 cases x with
 | non=>cases r;rfl
 | bl _=>cases r;rfl
 | int _=>obtain⟨t,rfl⟩:=r;rfl
 | str _=>obtain⟨t,rfl⟩:=r;rfl
 | byt _=>obtain⟨t,rfl⟩:=r;rfl
 | flt _=>obtain⟨t,rfl⟩:=r;rfl
 | ref _=>cases r;rfl
 | ty _=>cases r;rfl
theorem RelV.inj {x y:V} {u:Value} (r:RelV x u) (q:RelV y u):x=y:=QbH (r.abs.symm.trans q.abs)
theorem Vals.inj:∀{xs ys:List V} {us:List Value},Vals xs us->Vals ys us->xs=ys
 | _,_,_,.nil,.nil=>rfl
 | _,_,_,.cons r t,.cons r' t'=>by rw[r.inj r',Vals.inj t t']
section
variable {X:Cx} {pins:List (Addr×Obj)} {σ : St} {H:Hp} {s:Shared} {a:Addr} {xs ys:List V}
theorem SqL.of {K:PySem.W.Frag} (h:H a=some (.lst xs)):SqL K H a xs:=.inl (.inl h)
theorem SqT.of {K:PySem.W.Frag} (h:H a=some (.tup xs)):SqT K H a xs:=.inl (.inl h)
theorem Inv.list (I:Inv X pins σ H s) (h:SqL X.K H a xs):∃its:List Value,Vals xs its/\PlainL s.heap a its.toArray/\xs.length<=sizeLine:=by
 rcases h with h |⟨o,its,n,hk,hc,hd,hs,hz,r⟩
 ·obtain⟨z,its,n,r,e⟩:=h.ok I.hok
  exact⟨its,r,⟨_,n,e,rfl,rfl,rfl⟩,z⟩
 ·refine⟨its.toList,r,⟨o,n,I.kIn a o hk,hc,hd,by simpa using hs⟩,?_⟩
  have e:=r.length
  simp only[QaK] at e
  omega
theorem Inv.tuple (I:Inv X pins σ H s) (h:SqT X.K H a xs):∃its:List Value,Vals xs its/\IsTup s.heap a its.toArray/\xs.length<=sizeLine:=by
 rcases h with h |⟨o,its,n,hk,hc,hs,hz,r⟩
 ·obtain⟨z,its,r,p⟩:=h.ok I.hok
  exact⟨its,r,p,z⟩
 ·refine⟨its.toList,r,⟨o,I.kIn a o hk,hc,n,by simpa using hs⟩,?_⟩
  have e:=r.length
  simp only[QaK] at e
  omega
theorem Inv.XM (I:Inv X pins σ H s) (h:SqL X.K H a xs) (h':SqL X.K H a ys):xs=ys:=by
 obtain⟨its,r,⟨o,n,e,_,_,d⟩,_⟩:=I.list h
 obtain⟨its',r',⟨o',n',e',_,_,d'⟩,_⟩:=I.list h'
 rw[e] at e';cases e'
 rw[d] at d'
 injection d' with d1 _
 have:its=its':=by simpa using congrArg Array.toList d1
 subst this
 exact r.inj r'
theorem Inv.U7 (I:Inv X pins σ H s) (h:SqT X.K H a xs) (h':SqT X.K H a ys):xs=ys:=by
 obtain⟨its,r,⟨o,e,_,n,d⟩,_⟩:=I.tuple h
 obtain⟨its',r',⟨o',e',_,n',d'⟩,_⟩:=I.tuple h'
 rw[e] at e';cases e'
 rw[d] at d'
 injection d' with d1 _
 have:its=its':=by simpa using congrArg Array.toList d1
 subst this
 exact r.inj r'
end
abbrev Cx.wish (X:Cx) (E:Value->Shared->Prop):Cx:={ X with xe:=E }
abbrev Cx.nox (X:Cx):Cx:=X.wish λ_ _=>False
theorem Cx.Ok.wish {X:Cx} (ok:X.Ok) (E:Value->Shared->Prop):(X.wish E).Ok:=
 ⟨ok.mod,ok.kind,ok.glob,ok.blt,ok.above,ok.inj,ok.has,ok.cab,ok.hd,ok.frames,ok.stk,ok.exf,ok.bs,ok.bsz,ok.M6,ok.Kr,ok.Gy,ok.frf⟩
theorem Cx.Ok.KD {X:Cx} {E:Value->Shared->Prop} (ok:(X.wish E).Ok):X.Ok:=
 ⟨ok.mod,ok.kind,ok.glob,ok.blt,ok.above,ok.inj,ok.has,ok.cab,ok.hd,ok.frames,ok.stk,ok.exf,ok.bs,ok.bsz,ok.M6,ok.Kr,ok.Gy,ok.frf⟩
section
variable {X:Cx} {pins:List (Addr×Obj)} {σ : St} {H:Hp} {s:Shared} {E:Value->Shared->Prop}
theorem Inv.wish (I:Inv X pins σ H s) (E:Value->Shared->Prop):Inv (X.wish E) pins σ H s:=⟨I.ok.wish E,I.os,I.bare,I.base,I.loc,I.cell,I.free,I.Ew,I.pin,I.hok,I.len⟩
theorem Inv.KD (I:Inv (X.wish E) pins σ H s):Inv X pins σ H s:=⟨I.ok.KD,I.os,I.bare,I.base,I.loc,I.cell,I.free,I.Ew,I.pin,I.hok,I.len⟩
theorem SP.KD {D:Ends} {f:Flow} {s':Shared} (h:SP (X.wish E) pins D f s'):SP X pins D f s':=by
 cases f with
 | next=>obtain⟨σ',H',I,q⟩:=h;exact⟨σ',H',I.KD,q⟩
 | brk=>obtain⟨σ',H',I,q⟩:=h;exact⟨σ',H',I.KD,q⟩
 | cont=>obtain⟨σ',H',I,q⟩:=h;exact⟨σ',H',I.KD,q⟩
 | ret u=>obtain⟨v,σ',H',I,r,q⟩:=h;exact⟨v,σ',H',I.KD,r,q⟩
theorem PSs.nox {st:List Stmt} {t:TS} (h:PSs X.nox st t):PSs X st t:=λpins s σ H D I hw=>
 Qcx (h pins s σ H D (I.wish _) hw) (λ_ _ q=>q.KD) λ_ _ z=>False.elim z
end
section
variable {X:Cx} {st:Stmt} {rest:List Stmt} {t u:TS} {e:Expr} {te:TE} {pos:Pos}
def AG:TS:=λD σ H=>D.nx σ H
def uX (t u:TS):TS:=λD σ H=>t { D with nx:=u D } σ H
theorem BX:PSs X [] AG:=λ_ _ σ H _ I h=>wpAny_execs_nil ⟨σ,H,I,h⟩
theorem Ah (h1:PS X st t) (h2:PSs X rest u):PSs X (st::rest) (uX t u):=by
 intro pins s σ H D I h
 refine wpAny_execs_cons (thn (h1 pins s σ H { D with nx:=u D } I h) λf s1 q=>?_)
 cases f with
 | next=>
  obtain⟨σ',H',I',q⟩:=q
  exact h2 pins s1 σ' H' D I' q
 | ret v=>exact q
 | brk=>exact q
 | cont=>exact q
theorem Aj (h1:PS X st t):PSs X [st] t:=by
 intro pins s σ H D I h
 refine wpAny_execs_cons (thn (h1 pins s σ H D I h) λf s1 q=>?_)
 cases f with
 | next=>exact wpAny_execs_nil q
 | ret v=>exact q
 | brk=>exact q
 | cont=>exact q
theorem Inv.quiet {pins:List (Addr×Obj)} {σ : St} {H:Hp} {s:Shared} (I:Inv X pins σ H s):interactive X.env=false:=by simp[interactive,I.ok.kind]
def AH (te:TE):TS:=λD σ H=>te σ H λ_ H1=>D.nx σ H1
theorem Bj (he:PE X e te) (hs:swapsWith e none pos.line X.env=pure false:=by rfl):PS X (.Expr e pos) (AH te):=by
 intro pins s σ H D I h
 exact wpAny_Expr_any (thn (he pins s σ H _ I h) λv s1 ⟨x,H1,I1,r1,q1⟩=>⟨σ,H1,I1,q1⟩) I.quiet hs
def BU (te:TE):TS:=λD σ H=>te σ H D.rt
theorem Bc (he:PE X e te):PS X (.Return (some e) pos) (BU te):=by
 intro pins s σ H D I h
 exact wpAny_Return_some (thn (he pins s σ H _ I h) λv s1 ⟨x,H1,I1,r1,q1⟩=>⟨x,σ,H1,I1,r1,q1⟩)
def vf (c:TT) (t u:TS):TS:=λD σ H=>c σ H λb H1=>if b=true then t D σ H1 else u D σ H1
theorem BW {c:Expr} {a b:List Stmt} {tc:TT} (hc:PT X c tc) (ha:PSs X a t) (hb:PSs X b u):PS X (.If c a b pos) (vf tc t u):=by
 intro pins s σ H D I h
 refine wpAny_If (thn (hc pins s σ H _ I h) λd s1 ⟨H1,I1,q1⟩=>?_)
 cases d with
 | true=>exact ha pins s1 σ H1 D I1 q1
 | false=>exact hb pins s1 σ H1 D I1 q1
def uZ:TS:=λ_ _ _=>False
theorem lG:PS X st uZ:=λ_ _ _ _ _ _ h=>h.elim
end
abbrev TG:=V->St->Hp->(St->Hp->Prop)->Prop
abbrev TGs:=List V->St->Hp->(St->Hp->Prop)->Prop
def PG (X:Cx) (target:Expr) (t:TG):Prop:=
 ∀(pins:List (Addr×Obj)) (s:Shared) (σ : St) (H:Hp) (v:V) (u:Value) (Q:St->Hp->Prop),Inv X pins σ H s->RelV v u->t v σ H Q ->
  wpAny (model X.prog X.w) X.A (assign target X.env u) (λ_ s'=>∃ σ' H',Inv X pins σ' H' s'/\Q σ' H') X.xe s
def PGs (X:Cx) (ts:List Expr) (t:TGs):Prop:=
 ∀(pins:List (Addr×Obj)) (s:Shared) (σ : St) (H:Hp) (vs:List V) (us:List Value) (Q:St->Hp->Prop),Inv X pins σ H s->Vals vs us->t vs σ H Q ->
  wpAny (model X.prog X.w) X.A (assignInOrder ((assignEach ts X.env).map (·.2)) us) (λ_ s'=>∃ σ' H',Inv X pins σ' H' s'/\Q σ' H') X.xe s
abbrev p8:=V->V->V->Hp->(Hp->Prop)->Prop
def An (X:Cx) (t:p8):Prop:=
 ∀(pins:List (Addr×Obj)) (s:Shared) (σ : St) (H:Hp) (o i v:V) (ov iv u:Value) (Q:Hp->Prop),Inv X pins σ H s->RelV o ov->RelV i iv->RelV v u->t o i v H Q ->
  wpAny (model X.prog X.w) X.A (setItem ov iv u) (λ_ s'=>∃H',Inv X pins σ H' s'/\Q H') X.xe s
section
variable {X:Cx} {pos:Pos}
def Ii (i:Nat):TG:=λv σ H Q=>Q (σ.set i (some v)) H
theorem Ak {i:Nat} {x:Str} (hN:X.N.Nodup) (hi:X.N[i]?=some x) (hx:Loc X.env.scope x) (hf:X.fn x=true\/X.env.scope.names.lookup x=some .local:=by first | exact .inl rfl | exact .inr rfl | assumption):PG X (.Name x pos) (Ii i):=by
 intro pins s σ H v u Q I r h
 exact wpAny_assign_Name (Ml I hN hi hx r (λs' I'=>⟨_,H,I',h⟩) hf)
def MU:TGs:=λvs σ H Q=>vs=[]/\Q σ H
def Bi (t:TG) (u:TGs):TGs:=λvs σ H Q=>∃v r,vs=v::r/\t v σ H fun σ' H'=>u r σ' H' Q
theorem BK:PGs X [] MU:=by
 intro pins s σ H vs us Q I r h
 obtain⟨e,h⟩:=h
 subst e
 cases r
 exact assignInOrder_nil ⟨σ,H,I,h⟩
theorem Aq {e:Expr} {es:List Expr} {t:TG} {u:TGs} (h1:PG X e t) (h2:PGs X es u)
  (hs:(assignEach (e::es) X.env).map (·.2)=assign e X.env::(assignEach es X.env).map (·.2):=by rfl):PGs X (e::es) (Bi t u):=by
 intro pins s σ H vs us Q I r h
 obtain⟨v,vr,e1,h⟩:=h
 subst e1
 cases r with
 | cons r rr=>
  rw[hs]
  refine assignInOrder_cons (thn (h1 pins s σ H _ _ _ I r h) λ_ s1 ⟨σ1,H1,I1,q1⟩=>?_)
  exact h2 pins s1 σ1 H1 _ _ Q I1 rr q1
def yr (K:PySem.W.Frag) (n:Nat) (t:TGs):TG:=λv σ H Q=>∃a xs,v=.ref a/\SqT K H a xs/\xs.length=n/\t xs σ H Q
theorem Df {es:List Expr} {k:Nat} {t:TGs} {n:Nat} (hc:X.calm=true) (h:PGs X es t)
  (hn:(assignEach es X.env).length=n:=by rfl) (hst:(assignEach es X.env).findIdx? (·.1)=none:=by rfl):PG X (.Tuple es k pos) (yr X.K n t):=by
 intro pins s σ H v u Q I r hw
 obtain⟨a,xs,e1,hq,hl,hw⟩:=hw
 subst e1
 cases r
 obtain⟨its,rv,ht,hz⟩:=I.tuple hq
 refine assign_Tuple_tuple (I.ok.hd hc) ht (by simp[hn,<-hl,rv.length]) hst λh' hx=>?_
 have I1:Inv X pins σ H { s with heap:=h' }:=I.kept (t':=s.toks) λb o e=>hx b o (Qcj (Qch e)) e
 exact h pins _ σ H xs _ Q I1 (by simpa using rv) hw
def MT (to ti:TE) (t:p8):TG:=λv σ H Q=>to σ H λo H1=>ti σ H1 λi H2=>t o i v H2 λH3=>Q σ H3
theorem Xi {o i:Expr} {to ti:TE} {t:p8} (ho:PE X o to) (hi:PE X i ti) (hs:An X t)
  (ha:∀v,assign (.Subscript o i pos) X.env v=(do
   let ov <-holding [v] (eval o X.env)
   let iv <-holding [v,ov] (eval i X.env)
   standAt pos
   holding [v,ov,iv] (setItem ov iv v)
   release [v,ov,iv] []):=by intro _;rfl):PG X (.Subscript o i pos) (MT to ti t):=by
 intro pins s σ H v u Q I r h
 rw[ha]
 refine Qcv (Qcc (thn (ho pins s σ H _ I h) λov s1 ⟨x,H1,I1,r1,q1⟩=>?_))
 refine Qcv (Qcc (thn (hi pins s1 σ H1 _ I1 q1) λiv s2 ⟨y,H2,I2,r2,q2⟩=>?_))
 refine Qcv (Qce (Qcv (Qcc (thn (hs pins s2 σ H2 x y v ov iv u _ I2 r1 r2 r q2) λ_ s3 ⟨H3,I3,q3⟩=>?_))))
 exact wpAny_release ⟨σ,H3,I3,q3⟩
def bA (te:TE) (g:TG):TS:=λD σ H=>te σ H λx H1=>g x σ H1 D.nx
theorem KN {tg e:Expr} {te:TE} {g:TG} (he:PE X e te) (hg:PG X tg g) (hs:swapsWithSole [tg] e pos.line X.env=pure false:=by rfl) (hw:swappedStores [tg] e X.env=pure none:=by rfl)
  (h1:(assignEach [tg] X.env).map (·.2)=[assign tg X.env]:=by rfl):PS X (.Assign [tg] e pos) (bA te g):=by
 intro pins s σ H D I h
 refine wpAny_Assign_stores (thn (he pins s σ H _ I h) λv s1 ⟨x,H1,I1,r1,q1⟩=>?_) hs hw
 rw[h1]
 exact thn (hg pins s1 σ H1 x v _ I1 r1 q1) λ_ s2 q=>q
theorem Bd {i:Nat} {x:Str} {e:Expr} {te:TE} {pos':Pos} (hN:X.N.Nodup) (hi:X.N[i]?=some x) (hx:Loc X.env.scope x) (he:PE X e te) (hs:swapsWith e (some (.Name x pos')) pos.line X.env=pure false:=by rfl) (hf:X.fn x=true\/X.env.scope.names.lookup x=some .local:=by first | exact .inl rfl | exact .inr rfl | assumption) :
  PS X (.Assign [.Name x pos'] e pos) (bA te (Ii i)):=by
 intro pins s σ H D I h
 refine wpAny_Assign_Name (thn (he pins s σ H _ I h) λv s1 ⟨y,H1,I1,r1,q1⟩=>?_) hs
 exact Ml I1 hN hi hx r1 (λs2 I2=>⟨_,H1,I2,q1⟩) hf
end
section
variable {X:Cx} {pos:Pos}
end
structure It where
 go:Nat->Hp->Prop
 yld:Nat->Hp->V->Hp->Prop
 stop:Nat->Hp->Prop
def GC (X:Cx) (pins:List (Addr×Obj)) (H:Hp) (b:Addr):Prop:=
 H b=none/\b≠X.env.locals/\b∉X.fs/\(b∈X.ex\/X.s₀.heap.objs.size<=b)/\(∀x c,X.env.cells.lookup x=some c->c≠b)/\∀p∈X.pn++pins,p.1≠b
theorem Inv.Qp {X:Cx} {pins:List (Addr×Obj)} {σ : St} {H H':Hp} {s:Shared} {b:Addr} (I:Inv X pins σ H s) (hb:s.heap.objs.size<=b) (hn:H' b=none):GC X pins H' b:=by
 refine⟨hn,Qcm (QaW I.lt hb),I.mJ hb,.inr (Qck I.sz hb),λx c e z=>?_,λp hp z=>?_⟩
 ·obtain⟨v,q⟩:=I.cell x c e
  exact absurd (QaW q.lt (by rw[z];exact hb)) (Qcb _)
 ·exact absurd (QaW (Qch (I.pin p hp).1) (by rw[z];exact hb)) (Qcb _)
structure Turn (P:Program) (w:World) (K:PySem.W.Frag) (tg:Expr) (J:It) (fp:List Addr) (it:Addr) (tn:Nat->Heap->Prop):Prop where
 mem:it∈fp
 obj:∀i h,tn i h->∀b∈fp,∃o,h.get? b=some o/\∀v,o.data≠.cell v
 keep:∀i h h',tn i h->(∀b∈fp,∀o,h.get? b=some o->h'.get? b=some o)->tn i h'
 item:∀(X:Cx),X.prog=P->X.w=w->X.K=K->X.calm=true->∀(i:Nat) (pins:List (Addr×Obj)) (s:Shared) (σ : St) (H:Hp) (E:Value->Shared->Prop),Inv X pins σ H s->(∀b∈fp,GC X pins H b)->tn i s.heap->J.go i H ->
  wpAny (model P w) X.A (pyNext (.ref it)) (λr s1=>∃u,r=some u /\
   wpAny (model P w) X.A (letOwnedTupleGo tg (.ref it) u) (λ_ s2=>∃x H',Inv X pins σ H' s2/\RelV x u/\J.yld i H x H'/\tn (i+1) s2.heap/\∀b∈fp,H' b=none) E s1) E s
 done:∀(X:Cx),X.prog=P->X.w=w->X.K=K->X.calm=true->∀(i:Nat) (pins:List (Addr×Obj)) (s:Shared) (σ : St) (H:Hp) (E:Value->Shared->Prop),Inv X pins σ H s->(∀b∈fp,GC X pins H b)->tn i s.heap->J.stop i H ->
  wpAny (model P w) X.A (pyNext (.ref it)) (λr s1=>r=none/\Inv X pins σ H s1) E s
 self:∀(A:Around) (i:Nat) (s:Shared) (Q:Value->Shared->Prop) (E:Value->Shared->Prop),tn i s.heap->Q (.ref it) s->wpAny (model P w) A (pyIter (.ref it)) Q E s
abbrev TI:=St->Hp->(It->Hp->Prop)->Prop
def PIE (X:Cx) (pins:List (Addr×Obj)) (σ : St) (tg:Expr) (R:It->Hp->Prop) (itv:Value) (s2:Shared):Prop:=
 ∃(it:Addr) (fp:List Addr) (tn:Nat->Heap->Prop) (J:It) (H':Hp),itv=.ref it/\Inv X pins σ H' s2/\Turn X.prog X.w X.K tg J fp it tn/\tn 0 s2.heap/\(∀b∈fp,GC X pins H' b)/\R J H'
def PI (X:Cx) (tg iter:Expr) (wi:TI):Prop:=
 ∀(pins:List (Addr×Obj)) (s:Shared) (σ : St) (H:Hp) (R:It->Hp->Prop),Inv X pins σ H s->wi σ H R ->
  wpAny (model X.prog X.w) X.A (eval iter X.env) (λv s1=>wpAny (model X.prog X.w) X.A (pyIter v) (PIE X pins σ tg R) X.xe s1) X.xe s
theorem Wa {M:Model} {A:Around} {E:Value->Shared->Prop} {s:Shared} {tg:Expr} {it:Addr} {u:Value} {o:Obj} {n:String} {vs:Array Value} {Q:Unit->Shared->Prop} (ho:s.heap.get? it=some o) (hc:o.cls=.type n) (hd:o.data=.fields vs)
    (hn:["enumerate","zip","dict_itemiterator","dict_reverseitemiterator","odict_iterator","itertools.zip_longest","itertools.pairwise"].contains n=false) (hQ:Q () s):wpAny M A (letOwnedTupleGo tg (.ref it) u) Q E s:=by
  unfold letOwnedTupleGo
  cases tg <;> first
    | exact Qcw hQ
    | (cases u <;> first
        | exact Qcw hQ
        | (refine Qcv (wpAny_load ho ?_)
           rw[hc,hd]
           show wpAny M A (if (["enumerate","zip","dict_itemiterator","dict_reverseitemiterator","odict_iterator","itertools.zip_longest","itertools.pairwise"].contains n&&vs[0]? == some (rawInt _))=true then _ else _) Q E s
           rw[if_neg (by intro h;rw[hn,Bool.false_and] at h;cases h)]
           exact Qcw hQ))
def Itl (K:PySem.W.Frag) (a:Addr):It:=
 ⟨λi H=>∃xs x,SqL K H a xs/\xs[i]?=some x,λi H x H'=>H'=H/\∀xs,SqL K H a xs->xs[i]?=some x,λi H=>∃xs,SqL K H a xs/\xs.length<=i⟩
def Itt (K:PySem.W.Frag) (a:Addr):It:=
 ⟨λi H=>∃xs x,SqT K H a xs/\xs[i]?=some x,λi H x H'=>H'=H/\∀xs,SqT K H a xs->xs[i]?=some x,λi H=>∃xs,SqT K H a xs/\xs.length<=i⟩
def Itr (lo:Int) (n:Nat):It:=⟨λi _=>i < n,λi H x H'=>H'=H/\x=.int (lo+i),λi _=>n<=i⟩
theorem eU {P:Program} {w:World} {K:PySem.W.Frag} {tg:Expr} (a it:Addr):Turn P w K tg (Itl K a) [it] it (λi h=>h.IsListIter it a i) where
 mem:=by simp
 obj:=λi h st b hb=>by
  have e:b=it:=by simpa using hb
  subst e
  obtain⟨o,e,c,d⟩:=st
  exact⟨o,e,λv z=>by rw[d] at z;cases z⟩
 keep:=λi h h' st k=>st.at λo e=>k it (by simp) o e
 item:=by
  intro X hP hw hK hc i pins s σ H E I hf st hg
  subst hP hw hK
  obtain⟨xs,x,hq,hx⟩:=hg
  obtain⟨its,rv,p,hz⟩:=I.list hq
  obtain⟨u,hu,ru⟩:=rv.get hx
  obtain⟨f0,f1,f2,f3,f4,f5⟩:=hf it (by simp)
  refine wpAny_pyNext_list_item st p.isList (x:=u) (by simpa using hu) λh' st' sb=>?_
  have I1:Inv X pins σ H { s with heap:=h' }:=I.turned (t':=s.toks) (λb o hb e=>(sb.2 b hb).trans e) f0 f1 f3 f4 f5
  obtain⟨o,e,c,d⟩:=id st'
  exact⟨u,rfl,Wa (s:={ s with heap:=h' }) e c d (by decide) ⟨x,H,I1,ru,⟨rfl,λys hy=>by rw[I.XM hy hq];exact hx⟩,st',λb hb=>(hf b hb).1⟩⟩
 done:=by
  intro X hP hw hK hc i pins s σ H E I hf st hg
  subst hP hw hK
  obtain⟨xs,hq,hx⟩:=hg
  obtain⟨its,rv,p,hz⟩:=I.list hq
  obtain⟨f0,f1,f2,f3,f4,f5⟩:=hf it (by simp)
  have hl:=rv.length
  exact wpAny_pyNext_list_end (I.ok.hd hc) st p.isList (by simp;omega) λh' eb=>⟨rfl,I.turned (t':=s.toks) (λb o hb e=>eb b o hb e) f0 f1 f3 f4 f5⟩
 self:=λ_ _ _ _ _ st h=>wpAny_pyIter_listiter st h
theorem aQ {P:Program} {w:World} {K:PySem.W.Frag} {tg:Expr} (a it:Addr):Turn P w K tg (Itt K a) [it] it (λi h=>h.IsTupleIter it a i) where
 mem:=by simp
 obj:=λi h st b hb=>by
  have e:b=it:=by simpa using hb
  subst e
  obtain⟨o,e,c,d⟩:=st
  exact⟨o,e,λv z=>by rw[d] at z;cases z⟩
 keep:=λi h h' st k=>st.at λo e=>k it (by simp) o e
 item:=by
  intro X hP hw hK hc i pins s σ H E I hf st hg
  subst hP hw hK
  obtain⟨xs,x,hq,hx⟩:=hg
  obtain⟨its,rv,p,hz⟩:=I.tuple hq
  obtain⟨u,hu,ru⟩:=rv.get hx
  obtain⟨f0,f1,f2,f3,f4,f5⟩:=hf it (by simp)
  refine wpAny_pyNext_tuple_item st (show s.heap.IsTuple a its.toArray from p) (x:=u) (by simpa using hu) λh' st' sb=>?_
  have I1:Inv X pins σ H { s with heap:=h' }:=I.turned (t':=s.toks) (λb o hb e=>(sb.2 b hb).trans e) f0 f1 f3 f4 f5
  obtain⟨o,e,c,d⟩:=id st'
  exact⟨u,rfl,Wa (s:={ s with heap:=h' }) e c d (by decide) ⟨x,H,I1,ru,⟨rfl,λys hy=>by rw[I.U7 hy hq];exact hx⟩,st',λb hb=>(hf b hb).1⟩⟩
 done:=by
  intro X hP hw hK hc i pins s σ H E I hf st hg
  subst hP hw hK
  obtain⟨xs,hq,hx⟩:=hg
  obtain⟨its,rv,p,hz⟩:=I.tuple hq
  obtain⟨f0,f1,f2,f3,f4,f5⟩:=hf it (by simp)
  have hl:=rv.length
  exact wpAny_pyNext_tuple_end (I.ok.hd hc) st (show s.heap.IsTuple a its.toArray from p) (by simp;omega) λh' eb=>⟨rfl,I.turned (t':=s.toks) (λb o hb e=>eb b o hb e) f0 f1 f3 f4 f5⟩
 self:=λ_ _ _ _ _ st h=>wpAny_pyIter_tupleiter st h
theorem aR {P:Program} {w:World} {K:PySem.W.Frag} {tg:Expr} (it:Addr) (lo:Int) (n:Nat):Turn P w K tg (Itr lo n) [it] it (λi h=>IsRangeIter h it (lo+(i:Nat)*1) ((n:Int) - (i:Nat)) 1) where
 mem:=by simp
 obj:=λi h st b hb=>by
  have e:b=it:=by simpa using hb
  subst e
  exact⟨_,st,λv z=>by
   have z':Data.fields _=Data.cell v:=z
   cases z'⟩
 keep:=λi h h' st k=>k it (by simp) _ st
 item:=by
  intro X hP hw hK hc i pins s σ H E I hf st hg
  subst hP hw hK
  obtain⟨f0,f1,f2,f3,f4,f5⟩:=hf it (by simp)
  have W:=Walks.range (prog:=X.prog) (w:=X.w) (I.ok.hd hc) it lo 1 n
  refine W.item i s _ _ hg st λv h' tk hv st' kk=>?_
  obtain⟨t,rfl⟩:=hv
  have I1:Inv X pins σ H { s with heap:=h',toks:=tk }:=I.turned (λb o hb e=>kk b o (by simpa using hb) e) f0 f1 f3 f4 f5
  refine⟨_,rfl,Wa (s:={ s with heap:=h',toks:=tk }) (n:="range_iterator") st' rfl rfl (by decide) ⟨.int (lo+i),H,I1,⟨t,?_⟩,⟨rfl,rfl⟩,st',λb hb=>(hf b hb).1⟩⟩
  rw[Int.mul_one]
 done:=by
  intro X hP hw hK hc i pins s σ H E I hf st hg
  subst hP hw hK
  obtain⟨f0,f1,f2,f3,f4,f5⟩:=hf it (by simp)
  exact wpAny_pyNext_range_end (I.ok.hd hc) st (by have:n<=i:=hg;omega) λh' eb=>⟨rfl,I.turned (t':=s.toks) (λb o hb e=>eb b o hb e) f0 f1 f3 f4 f5⟩
 self:=λ_ _ _ _ _ st h=>wpAny_pyIter_rangeiter st h
section
variable {X:Cx} {tg:Expr}
def A8 (K:PySem.W.Frag) (tl:TE):TI:=fun σ H R=>tl σ H λx H1=>∃a,x=.ref a/\(∃xs,SqL K H1 a xs)/\R (Itl K a) H1
def KW (K:PySem.W.Frag) (tl:TE):TI:=fun σ H R=>tl σ H λx H1=>∃a,x=.ref a/\(∃xs,SqT K H1 a xs)/\R (Itt K a) H1
theorem DQ {l:Expr} {tl:TE} (hl:PE X l tl):PI X tg l (A8 X.K tl):=by
 intro pins s σ H R I h
 refine thn (hl pins s σ H _ I h) λv s1 ⟨x,H1,I1,r1,q1⟩=>?_
 obtain⟨a,e,⟨xs,hq⟩,q⟩:=q1
 subst e
 cases r1
 obtain⟨its,rv,p,hz⟩:=I1.list hq
 refine Qbp p.isList ?_
 refine⟨s1.heap.objs.size,[s1.heap.objs.size],_,_,H1,rfl,I1.kept (t':=s1.toks) λb o e=>Qav _ e,eU a _,⟨_,QaI _ rfl,rfl,rfl⟩,λb hb=>?_,q⟩
 have e:b=s1.heap.objs.size:=by simpa using hb
 subst e
 exact I1.Qp (Qcq _) (I1.hok.fresh (Qcq _))
theorem FW {l:Expr} {tl:TE} (hl:PE X l tl):PI X tg l (KW X.K tl):=by
 intro pins s σ H R I h
 refine thn (hl pins s σ H _ I h) λv s1 ⟨x,H1,I1,r1,q1⟩=>?_
 obtain⟨a,e,⟨xs,hq⟩,q⟩:=q1
 subst e
 cases r1
 obtain⟨its,rv,p,hz⟩:=I1.tuple hq
 refine QaY (show s1.heap.IsTuple a its.toArray from p) ?_
 refine⟨s1.heap.objs.size,[s1.heap.objs.size],_,_,H1,rfl,I1.kept (t':=s1.toks) λb o e=>Qav _ e,aQ a _,⟨_,QaI _ rfl,rfl,rfl⟩,λb hb=>?_,q⟩
 have e:b=s1.heap.objs.size:=by simpa using hb
 subst e
 exact I1.Qp (Qcq _) (I1.hok.fresh (Qcq _))
theorem lD {pins:List (Addr×Obj)} {σ : St} {H:Hp} {s:Shared} {R:It->Hp->Prop} {E:Value->Shared->Prop} {lo hi:Int} {t u v:Tok} {tk:Nat} (I:Inv X pins σ H s) (h1:-(2 ^ 62)<=lo) (h2:lo < 2 ^ 62) (h3:-(2 ^ 62)<=hi) (h4:hi < 2 ^ 62)
  (q:R (Itr lo (hi - lo).toNat) H):wpAny (model X.prog X.w) X.A (pyIter (.ref s.heap.objs.size)) (PIE X pins σ tg R) E { s with heap:=s.heap.push { cls:=.type "range",data:=.fields #[.int lo t,.int hi u,.int 1 v] },toks:=tk }:=by
 refine wpAny_pyIter_range (IsRange.new ..) (small_one h1 h2 h3 h4) ?_
 have I1:Inv X pins σ H { s with heap:=s.heap.push { cls:=.type "range",data:=.fields #[.int lo t,.int hi u,.int 1 v] },toks:=tk }:=I.kept λb o e=>Qav _ e
 refine⟨(s.heap.push { cls:=.type "range",data:=.fields #[.int lo t,.int hi u,.int 1 v] }).objs.size,[(s.heap.push { cls:=.type "range",data:=.fields #[.int lo t,.int hi u,.int 1 v] }).objs.size],_,_,H,rfl,
  I1.kept (t':=tk) λb o e=>Qav _ e,aR _ lo (hi - lo).toNat,?_,λb hb=>?_,q⟩
 ·have e1:lo+((0:Nat):Int)*1=lo:=by simp
  have e2:(((hi - lo).toNat:Nat):Int) - ((0:Nat):Int)=Builtin.Range.rangeSize lo hi 1:=by rw[rangeSize_one];split <;> omega
  show IsRangeIter _ _ (lo+((0:Nat):Int)*1) ((((hi - lo).toNat:Nat):Int) - ((0:Nat):Int)) 1
  rw[e1,e2]
  exact QaI _ rfl
 ·have e:b=(s.heap.push { cls:=.type "range",data:=.fields #[.int lo t,.int hi u,.int 1 v] }).objs.size:=by simpa using hb
  subst e
  exact I1.Qp (Qcq _) (I1.hok.fresh (Qcq _))
def A7 (ta:TA):TI:=fun σ H R=>ta σ H λvs H1=>∃j:Int,vs=[.int j]/\-(2 ^ 62)<=j/\j < 2 ^ 62/\R (Itr 0 j.toNat) H1
theorem Cv {a:Expr} {ta:TA} {p pos:Pos} (hg:Gl X "range") (hm:X.mg "range"=none) (ha:PA X [a] ta) (hs:starEach [a] X.env=[(false,eval a X.env)]:=by rfl):PI X tg (.Call (.Name "range" p) [a] [] pos) (A7 ta):=by
 intro pins s σ H R I h
 refine Call_ (K8 I hg hm boot_range (Qae (thn (ha pos pins s σ H _ I h) λus s1 ⟨vs,H1,I1,r1,q1⟩=>?_) hs rfl))
 obtain⟨j,e,q1,q2,q⟩:=q1
 subst e
 cases r1 with
 | cons r rr=>
  cases rr
  obtain⟨t,rfl⟩:=r
  exact call_range_1 (lD I1 (by omega) (by omega) q1 q2 (by simpa using q))
def B1 (wi:TI) (g:TG) (tb:TS):TS:=λD σ H=>wi σ H λJ H1=>∃W:Nat->Nat->St->Hp->Prop,(∃m,W 0 m σ H1)/\∀i m σ H,W i m σ H ->
 (J.stop i H/\D.nx σ H)\/(J.go i H/\∃N:St->Hp->Prop,(∀ σ' H',N σ' H'->∃m',m' < m/\W (i+1) m' σ' H')/\∀x H',J.yld i H x H'->g x σ H' fun σ2 H2=>tb { D with nx:=N,ct:=N,bk:=D.nx } σ2 H2)
def Mx (fp:List Addr) (h:Heap):List (Addr×Obj):=fp.filterMap λb=>(h.get? b).map λo=>(b,o)
theorem JN {fp:List Addr} {h:Heap} {b:Addr} {o:Obj} (hb:b∈fp) (e:h.get? b=some o):(b,o)∈Mx fp h:=List.mem_filterMap.mpr ⟨b,hb,by rw[e];rfl⟩
theorem gR {fp:List Addr} {h:Heap} {p:Addr×Obj} (hp:p∈Mx fp h):p.1∈fp/\h.get? p.1=some p.2:=by
 obtain⟨b,hb,e⟩:=List.mem_filterMap.mp hp
 cases q:h.get? b with
 | none=>rw[q] at e;cases e
 | some o=>
  rw[q] at e
  have e':(b,o)=p:=QbH e
  subst e'
  exact⟨hb,q⟩
theorem Inv.pinned {pins:List (Addr×Obj)} {σ : St} {H:Hp} {s:Shared} {fp:List Addr} (I:Inv X pins σ H s) (hf:∀b∈fp,GC X pins H b) (ho:∀b∈fp,∃o,s.heap.get? b=some o/\∀v,o.data≠.cell v):Inv X (pins++Mx fp s.heap) σ H s:=
 I.QT λp hp=>(QbD.mp hp).elim (λz=>I.pin p (QaA _ z)) λz=>by
  obtain⟨hb,e⟩:=gR z
  obtain⟨f0,f1,f2,_⟩:=hf p.1 hb
  obtain⟨o,e',d⟩:=ho p.1 hb
  rw[e] at e';cases e'
  exact⟨e,f0,f1,f2,d⟩
theorem Inv.Ht {pins pl:List (Addr×Obj)} {σ : St} {H:Hp} {s:Shared} (I:Inv X (pins++pl) σ H s):Inv X pins σ H s:=I.QT λp hp=>I.pin p (QaA _ (QaF _ hp))
theorem BZ {iter:Expr} {body:List Stmt} {wi:TI} {g:TG} {tb:TS} {pos:Pos} (hp:PassesOwn (model X.prog X.w) X.A X.env X.xe) (hc:X.calm=true) (hi:PI X tg iter wi) (hg:PG X tg g) (hb:PSs X body tb)
  (hs:∀x,foldedSetIterable iter X.env x=pure x:=by intro _;rfl):PS X (.For tg iter body [] pos) (B1 wi g tb):=by
 intro pins s σ H D I h
 refine wpAny_For (thn (hi pins s σ H _ I h) λv s1 h1=>thn h1 λitv s2 h2=>?_) hs
 obtain⟨it,fp,tn,J,H2,e,I2,T,st2,f2,W,⟨m0,w0⟩,turn⟩:=h2
 subst e
 have stat:∀{H':Hp},(∀b∈fp,H' b=none)->∀b∈fp,GC X pins H' b:=λhn b hb=>⟨hn b hb,(f2 b hb).2⟩
 refine codeAny_forLoop_any (λn s'=>∃i σ' H',Inv X pins σ' H' s'/\tn i s'.heap/\(∀b∈fp,H' b=none)/\W i n σ' H') ?_ m0 ⟨0,σ,H2,I2,st2,λb hb=>(f2 b hb).1,w0⟩
 rintro n s3 ⟨i,σ3,H3,I3,st3,fr3,w3⟩
 rcases turn i n σ3 H3 w3 with⟨stop,qn⟩|⟨go,N,hN,step⟩
 ·refine QbN hp (thn (T.done X rfl rfl rfl hc i pins s3 σ3 H3 X.xe I3 (stat fr3) st3 stop) λr s4 ⟨hr,I4⟩=>?_)
  subst hr
  exact wpAny_execs_nil ⟨σ3,H3,I4,qn⟩
 ·refine QbN hp (thn (T.item X rfl rfl rfl hc i pins s3 σ3 H3 X.xe I3 (stat fr3) st3 go) λr s4 ⟨u,hr,h4⟩=>?_)
  subst hr
  refine QbN hp (thn h4 λ_ s5 ⟨x,H5,I5,r5,y5,st5,fr5⟩=>?_)
  have I5':=I5.pinned (stat fr5) (T.obj _ _ st5)
  refine QbN hp (thn (hg _ s5 σ3 H5 x u _ I5' r5 (step x H5 y5)) λ_ s6 ⟨σ6,H6,I6,q6⟩=>?_)
  refine QbN hp (thn (hb _ s6 σ6 H6 _ I6 q6) λf s7 q7=>?_)
  have again:∀{σ7:St} {H7:Hp},Inv X (pins++Mx fp s5.heap) σ7 H7 s7->N σ7 H7->∃m,m < n/\∃i σ' H',Inv X pins σ' H' s7/\tn i s7.heap/\(∀b∈fp,H' b=none)/\W i m σ' H':=λ{σ7 H7} I7 n7=>by
   obtain⟨m',hm,w7⟩:=hN σ7 H7 n7
   refine⟨m',hm,i+1,σ7,H7,I7.Ht,T.keep _ _ _ st5 λb hb o e=>(I7.pin (b,o) (QaA _ (QaA _ (JN hb e)))).1,λb hb=>?_,w7⟩
   obtain⟨o,e,d⟩:=T.obj _ _ st5 b hb
   exact (I7.pin (b,o) (QaA _ (QaA _ (JN hb e)))).2.1
  cases f with
  | next=>obtain⟨σ7,H7,I7,n7⟩:=q7;exact again I7 n7
  | cont=>obtain⟨σ7,H7,I7,n7⟩:=q7;exact again I7 n7
  | brk=>obtain⟨σ7,H7,I7,q7⟩:=q7;exact⟨σ7,H7,I7.Ht,q7⟩
  | ret v=>obtain⟨x7,σ7,H7,I7,r7,q7⟩:=q7;exact⟨x7,σ7,H7,I7.Ht,r7,q7⟩
end
theorem R0 {K:PySem.W.Frag} {a:Addr} {xs:List V} {g:TG} {tb:TS} {D:Ends} {σ : St} {H:Hp} (Pv:Nat->St->Hp->Prop) (h0:Pv 0 σ H) (hl:∀i σ H,i<=xs.length->Pv i σ H->SqL K H a xs)
  (hs:∀i x σ H,xs[i]?=some x->Pv i σ H->g x σ H fun σ2 H2=>tb { D with nx:=Pv (i+1),ct:=Pv (i+1),bk:=D.nx } σ2 H2) (hd:∀ σ H,Pv xs.length σ H->D.nx σ H) :
  ∃W:Nat->Nat->St->Hp->Prop,(∃m,W 0 m σ H)/\∀i m σ H,W i m σ H ->
   ((Itl K a).stop i H/\D.nx σ H)\/((Itl K a).go i H/\∃N:St->Hp->Prop,(∀ σ' H',N σ' H'->∃m',m' < m/\W (i+1) m' σ' H')/\∀x H',(Itl K a).yld i H x H'->g x σ H' fun σ2 H2=>tb { D with nx:=N,ct:=N,bk:=D.nx } σ2 H2):=by
 refine⟨λi m σ H=>m=xs.length - i/\i<=xs.length/\Pv i σ H,⟨xs.length,by simp,Qcr _,h0⟩,?_⟩
 rintro i m σ H ⟨rfl,hi,p⟩
 have q:=hl i σ H hi p
 by_cases hlt:i < xs.length
 ·refine .inr ⟨⟨xs,xs[i],q,by simp[hlt]⟩,Pv (i+1),fun σ' H' p'=>⟨xs.length - (i+1),by omega,rfl,hlt,p'⟩,λx H' y=>?_⟩
  obtain⟨e,y⟩:=y
  subst e
  exact hs i x σ _ (y xs q) p
 ·have e:i=xs.length:=by omega
  subst e
  exact .inl ⟨⟨xs,q,Qcq _⟩,hd σ H p⟩
theorem Mh {K:PySem.W.Frag} {a:Addr} {xs:List V} {g:TG} {tb:TS} {D:Ends} {σ : St} {H:Hp} (Pv:Nat->St->Hp->Prop) (h0:Pv 0 σ H) (hl:∀i σ H,i<=xs.length->Pv i σ H->SqT K H a xs)
  (hs:∀i x σ H,xs[i]?=some x->Pv i σ H->g x σ H fun σ2 H2=>tb { D with nx:=Pv (i+1),ct:=Pv (i+1),bk:=D.nx } σ2 H2) (hd:∀ σ H,Pv xs.length σ H->D.nx σ H) :
  ∃W:Nat->Nat->St->Hp->Prop,(∃m,W 0 m σ H)/\∀i m σ H,W i m σ H ->
   ((Itt K a).stop i H/\D.nx σ H)\/((Itt K a).go i H/\∃N:St->Hp->Prop,(∀ σ' H',N σ' H'->∃m',m' < m/\W (i+1) m' σ' H')/\∀x H',(Itt K a).yld i H x H'->g x σ H' fun σ2 H2=>tb { D with nx:=N,ct:=N,bk:=D.nx } σ2 H2):=by
 refine⟨λi m σ H=>m=xs.length - i/\i<=xs.length/\Pv i σ H,⟨xs.length,by simp,Qcr _,h0⟩,?_⟩
 rintro i m σ H ⟨rfl,hi,p⟩
 have q:=hl i σ H hi p
 by_cases hlt:i < xs.length
 ·refine .inr ⟨⟨xs,xs[i],q,by simp[hlt]⟩,Pv (i+1),fun σ' H' p'=>⟨xs.length - (i+1),by omega,rfl,hlt,p'⟩,λx H' y=>?_⟩
  obtain⟨e,y⟩:=y
  subst e
  exact hs i x σ _ (y xs q) p
 ·have e:i=xs.length:=by omega
  subst e
  exact .inl ⟨⟨xs,q,Qcq _⟩,hd σ H p⟩
theorem Du {lo:Int} {n:Nat} {g:TG} {tb:TS} {D:Ends} {σ : St} {H:Hp} (Pv:Nat->St->Hp->Prop) (h0:Pv 0 σ H)
  (hs:∀i σ H,i < n->Pv i σ H->g (.int (lo+i)) σ H fun σ2 H2=>tb { D with nx:=Pv (i+1),ct:=Pv (i+1),bk:=D.nx } σ2 H2) (hd:∀ σ H,Pv n σ H->D.nx σ H) :
  ∃W:Nat->Nat->St->Hp->Prop,(∃m,W 0 m σ H)/\∀i m σ H,W i m σ H ->
   ((Itr lo n).stop i H/\D.nx σ H)\/((Itr lo n).go i H/\∃N:St->Hp->Prop,(∀ σ' H',N σ' H'->∃m',m' < m/\W (i+1) m' σ' H')/\∀x H',(Itr lo n).yld i H x H'->g x σ H' fun σ2 H2=>tb { D with nx:=N,ct:=N,bk:=D.nx } σ2 H2):=by
 refine⟨λi m σ H=>m=n - i/\i<=n/\Pv i σ H,⟨n,by simp,Qcr _,h0⟩,?_⟩
 rintro i m σ H ⟨rfl,hi,p⟩
 by_cases hlt:i < n
 ·refine .inr ⟨hlt,Pv (i+1),fun σ' H' p'=>⟨n - (i+1),by omega,rfl,hlt,p'⟩,λx H' y=>?_⟩
  obtain⟨e,y⟩:=y
  subst e y
  exact hs i σ _ hlt p
 ·have e:i=n:=by omega
  subst e
  exact .inl ⟨Qcq _,hd σ H p⟩
abbrev R2:=V->V->Hp->VK->Prop
def OpR (X:Cx) (f:Value->Value->Sem Value) (r:R2):Prop:=
 ∀(pins:List (Addr×Obj)) (s:Shared) (σ : St) (H:Hp) (x y:V) (v u:Value) (Q:VK),Inv X pins σ H s->RelV x v->RelV y u->r x y H Q ->
  wpAny (model X.prog X.w) X.A (f v u) (EP X pins σ Q) X.xe s
def UnR (X:Cx) (f:Value->Sem Value) (r:V->Hp->VK->Prop):Prop:=
 ∀(pins:List (Addr×Obj)) (s:Shared) (σ : St) (H:Hp) (x:V) (v:Value) (Q:VK),Inv X pins σ H s->RelV x v->r x H Q ->
  wpAny (model X.prog X.w) X.A (f v) (EP X pins σ Q) X.xe s
def Eb (X:Cx) (f:Value) (r:List V->Hp->VK->Prop):Prop:=
 ∀(pins:List (Addr×Obj)) (s:Shared) (σ : St) (H:Hp) (xs:List V) (us:List Value) (Q:VK),Inv X pins σ H s->Vals xs us->r xs H Q ->
  wpAny (model X.prog X.w) X.A (call f us) (EP X pins σ Q) X.xe s
def tOp (r:R2) (ta tb:TE):TE:=fun σ H Q=>ta σ H λx H1=>tb σ H1 λy H2=>r x y H2 Q
def tUn (r:V->Hp->VK->Prop) (ta:TE):TE:=fun σ H Q=>ta σ H λx H1=>r x H1 Q
def rI (C:Int->Int->Prop) (g:Int->Int->V):R2:=λx y H Q=>∃i j,x=.int i/\y=.int j/\C i j/\Q (g i j) H
def rI0 (g:Int->Int->V):R2:=λx y H Q=>∃i j,x=.int i/\y=.int j/\Q (g i j) H
def rU (g:Int->V):V->Hp->VK->Prop:=λx H Q=>∃i,x=.int i/\Q (g i) H
section
variable {X:Cx} {a b c:Expr} {ta tb tc:TE} {pos:Pos}
theorem pY (ha:PE X a ta) (hb:PE X b tb) {pins:List (Addr×Obj)} {s:Shared} {σ : St} {H:Hp} {R:V->V->Hp->Prop} (I:Inv X pins σ H s)
  (h:ta σ H λx H1=>tb σ H1 λy H2=>R x y H2) {Q:Value->Shared->Prop} {f:Value->Value->Sem Value}
  (hf:∀v u s2 x y H2,Inv X pins σ H2 s2->RelV x v->RelV y u->R x y H2->wpAny (model X.prog X.w) X.A (f v u) Q X.xe s2) :
  wpAny (model X.prog X.w) X.A (eval a X.env) (λv s₁=>wpAny (model X.prog X.w) X.A (eval b X.env) (λu s₂=>wpAny (model X.prog X.w) X.A (f v u) Q X.xe s₂) X.xe s₁) X.xe s:=by
 refine thn (ha pins s σ H _ I h) λv s1 ⟨x,H1,I1,r1,q1⟩=>?_
 refine thn (hb pins s1 σ H1 _ I1 q1) λu s2 ⟨y,H2,I2,r2,q2⟩=>?_
 exact hf v u s2 x y H2 I2 r1 r2 q2
theorem Bg {op:Operator} {r:R2} (ho:OpR X (binaryOp op) r) (ha:PE X a ta) (hb:PE X b tb):PE X (.BinOp a op b pos) (tOp r ta tb):=by
 intro pins s σ H Q I h
 exact wpAny_BinOp (pY ha hb I h λv u s2 x y H2 I2 rx ry q=>ho pins s2 σ H2 x y v u Q I2 rx ry q)
theorem V5 {op:UnaryOp} {r:V->Hp->VK->Prop} (ho:UnR X (unaryOp op) r) (ha:PE X a ta):PE X (.UnaryOp op a pos) (tUn r ta):=by
 intro pins s σ H Q I h
 exact UnaryOp_ (thn (ha pins s σ H _ I h) λv s1 ⟨x,H1,I1,r1,q1⟩=>ho pins s1 σ H1 x v Q I1 r1 q1)
theorem opI {f:Value->Value->Sem Value} {C:Int->Int->Prop} {g:Int->Int->Int}
  (rule:∀(i j:Int) (t u:Tok) (s:Shared) (Q:Value->Shared->Prop) (E:Value->Shared->Prop),C i j->Q (.int (g i j) s.toks) { s with toks:=s.toks+1 }->wpAny (model X.prog X.w) X.A (f (.int i t) (.int j u)) Q E s) :
  OpR X f (rI C λi j=>.int (g i j)):=by
 intro pins s σ H x y v u Q I rx ry h
 obtain⟨i,j,rfl,rfl,hc,q⟩:=h
 obtain⟨t,rfl⟩:=rx
 obtain⟨t',rfl⟩:=ry
 exact rule i j t t' s _ _ hc ⟨.int (g i j),H,I.tok _,⟨_,rfl⟩,q⟩
theorem wz {f:Value->Value->Sem Value} {g:Int->Int->Int}
  (rule:∀(i j:Int) (t u:Tok) (s:Shared) (Q:Value->Shared->Prop) (E:Value->Shared->Prop),Q (.int (g i j) s.toks) { s with toks:=s.toks+1 }->wpAny (model X.prog X.w) X.A (f (.int i t) (.int j u)) Q E s) :
  OpR X f (rI0 λi j=>.int (g i j)):=by
 intro pins s σ H x y v u Q I rx ry h
 obtain⟨i,j,rfl,rfl,q⟩:=h
 obtain⟨t,rfl⟩:=rx
 obtain⟨t',rfl⟩:=ry
 exact rule i j t t' s _ _ ⟨.int (g i j),H,I.tok _,⟨_,rfl⟩,q⟩
theorem bQ {f:Value->Value->Sem Value} {g:Int->Int->Bool}
  (rule:∀(i j:Int) (t u:Tok) (s:Shared) (Q:Value->Shared->Prop) (E:Value->Shared->Prop),Q (.bool (g i j)) s->wpAny (model X.prog X.w) X.A (f (.int i t) (.int j u)) Q E s) :
  OpR X f (rI0 λi j=>.bl (g i j)):=by
 intro pins s σ H x y v u Q I rx ry h
 obtain⟨i,j,rfl,rfl,q⟩:=h
 obtain⟨t,rfl⟩:=rx
 obtain⟨t',rfl⟩:=ry
 exact rule i j t t' s _ _ ⟨.bl (g i j),H,I,rfl,q⟩
def RE (i j:Int):Prop:=0 < j/\j < 1073741824
def RC (i j:Int):Prop:=0<=j/\j<=1000000/\i.natAbs < 2 ^ 64
def d8 (i j:Int):Prop:=(-(2 ^ 64) < i/\i < 2 ^ 64)\/(-(2 ^ 64) < j/\j < 2 ^ 64)
theorem d8.ok {i j:Int} (h:d8 i j):IntMulOk i j:=by
 rcases h with⟨h1,h2⟩|⟨h1,h2⟩
 ·exact .of_left (intBits_le_64 h1 h2)
 ·exact .of_right (intBits_le_64 h1 h2)
theorem Cp:OpR X (binaryOp .Add) (rI0 λi j=>.int (i+j)):=wz λ_ _ _ _ _ _ _ q=>add_int q
theorem v8:OpR X (binaryOp .Sub) (rI0 λi j=>.int (i - j)):=wz λ_ _ _ _ _ _ _ q=>sub_int q
theorem Hz:OpR X (binaryOp .Mult) (rI d8 λi j=>.int (i*j)):=opI λ_ _ _ _ _ _ _ hc q=>mul_int q hc.ok
theorem Ul:OpR X (binaryOp .FloorDiv) (rI RE λi j=>.int (i / j)):=opI λi j _ _ _ _ _ hc q=>by
 have h1:(0:Int) < j:=hc.1
 have h2:j < 1073741824:=hc.2
 exact floordiv_int (by omega) (by rw[Int.fdiv_eq_ediv_of_nonneg i (by omega)];exact q) (.inl (PyProof.noPylong_small (by omega)))
theorem K7:OpR X (binaryOp .Mod) (rI (λ_ j=>0 < j) λi j=>.int (i % j)):=opI λi j _ _ _ _ _ hc q=>by
 have h1:(0:Int) < j:=hc
 exact mod_int' (by omega) (by rw[Int.fmod_eq_emod_of_nonneg i (by omega)];exact q)
theorem Xl:OpR X (binaryOp .Pow) (rI RC λi j=>.int (i ^ j.toNat)):=opI λ_ _ _ _ _ _ _ hc q=>pow_int_small hc.1 hc.2.1 hc.2.2 q
theorem unI {f:Value->Sem Value} {g:Int->Int}
  (rule:∀(i:Int) (t:Tok) (s:Shared) (Q:Value->Shared->Prop) (E:Value->Shared->Prop),Q (.int (g i) s.toks) { s with toks:=s.toks+1 }->wpAny (model X.prog X.w) X.A (f (.int i t)) Q E s) :
  UnR X f (rU λi=>.int (g i)):=by
 intro pins s σ H x v Q I rx h
 obtain⟨i,rfl,q⟩:=h
 obtain⟨t,rfl⟩:=rx
 exact rule i t s _ _ ⟨.int (g i),H,I.tok _,⟨_,rfl⟩,q⟩
theorem Sw:UnR X (unaryOp .USub) (rU λi=>.int (-i)):=unI λ_ _ _ _ _ q=>neg_int q
end
def vK:V->V->Bool
 | .non,.non=>true | .non,.int _=>true | .int _,.non=>true | .non,.bl _=>true | .bl _,.non=>true | .non,.str _=>true | .str _,.non=>true
 | .int _,.int _=>true | .bl _,.bl _=>true | .str _,.str _=>true | .byt _,.byt _=>true
 | .int _,.str _=>true | .str _,.int _=>true | .bl _,.str _=>true | .str _,.bl _=>true
 | _,_=>false
def rEq:R2:=λx y H Q=>vK x y=true/\Q (.bl (decide (x=y))) H
def rNe:R2:=λx y H Q=>vK x y=true/\Q (.bl (!decide (x=y))) H
theorem aH {i j:Int}:decide (V.int i=V.int j)=(i == j):=by
 rw[QbL]
 simp
theorem jr {i j:Bool}:decide (V.bl i=V.bl j)=(i == j):=by
 rw[QbL]
 simp
theorem aG {i j:Str}:decide (V.str i=V.str j)=(i == j):=by
 rw[QbL]
 simp
theorem aJ {i j:Array UInt8}:decide (V.byt i=V.byt j)=(i.toList == j.toList):=by
 rw[QbL]
 cases i
 cases j
 simp
section
variable {X:Cx} {a b c:Expr} {ta tb tc:TE} {pos:Pos}
theorem BJ {pins:List (Addr×Obj)} {σ : St} {H:Hp} {s:Shared} {Q:VK} {k k':Bool} (I:Inv X pins σ H s) (q:Q (.bl k) H) (e:k=k'):EP X pins σ Q (.bool k') s:=by
 subst e
 exact⟨.bl k,H,I,rfl,q⟩
theorem Hs:OpR X (compareOp .Eq) rEq:=by
 intro pins s σ H x y v u Q I rx ry h
 obtain⟨hs,q⟩:=h
 cases x with
 | non=>
  cases rx
  cases y with
  | non=>cases ry;exact PySem.EqNone.eq_none_none (BJ I q (by simp))
  | bl j=>cases ry;exact PySem.EqNone.eq_none_bool (BJ I q (by simp))
  | int j=>obtain⟨t',rfl⟩:=ry;exact PySem.EqNone.eq_none_int (BJ I q (by simp))
  | str j=>obtain⟨t',rfl⟩:=ry;exact PySem.EqNone.eq_none_str (BJ I q (by simp))
  | _=>exact absurd (show false=true from hs) QaS
 | bl i=>
  cases rx
  cases y with
  | non=>cases ry;exact PySem.EqNone.eq_bool_none (BJ I q (by simp))
  | bl j=>cases ry;exact eq_bool (BJ I q jr)
  | str j=>obtain⟨t',rfl⟩:=ry;exact PySem.EqMixed.eq_bool_str (BJ I q (by simp))
  | _=>exact absurd (show false=true from hs) QaS
 | int i=>
  obtain⟨t,rfl⟩:=rx
  cases y with
  | non=>cases ry;exact PySem.EqNone.eq_int_none (BJ I q (by simp))
  | int j=>obtain⟨t',rfl⟩:=ry;exact eq_int (BJ I q aH)
  | str j=>obtain⟨t',rfl⟩:=ry;exact PySem.EqMixed.eq_int_str (BJ I q (by simp))
  | _=>exact absurd (show false=true from hs) QaS
 | str i=>
  obtain⟨t,rfl⟩:=rx
  cases y with
  | non=>cases ry;exact PySem.EqNone.eq_str_none (BJ I q (by simp))
  | bl j=>cases ry;exact PySem.EqMixed.eq_str_bool (BJ I q (by simp))
  | int j=>obtain⟨t',rfl⟩:=ry;exact PySem.EqMixed.eq_str_int (BJ I q (by simp))
  | str j=>obtain⟨t',rfl⟩:=ry;exact eq_str (BJ I q aG)
  | _=>exact absurd (show false=true from hs) QaS
 | byt i=>
  obtain⟨t,rfl⟩:=rx
  cases y with
  | byt j=>obtain⟨t',rfl⟩:=ry;exact PySem.W.eq_bytes (BJ I q aJ)
  | _=>exact absurd (show false=true from hs) QaS
 | _=>cases y <;> exact absurd (show false=true from hs) QaS
theorem qK:OpR X (compareOp .NotEq) rNe:=by
 intro pins s σ H x y v u Q I rx ry h
 obtain⟨hs,q⟩:=h
 cases x with
 | non=>
  cases rx
  cases y with
  | non=>cases ry;exact PySem.EqNone.ne_none_none (BJ I q (by simp))
  | bl j=>cases ry;exact PySem.EqNone.ne_none_bool (BJ I q (by simp))
  | int j=>obtain⟨t',rfl⟩:=ry;exact PySem.EqNone.ne_none_int (BJ I q (by simp))
  | str j=>obtain⟨t',rfl⟩:=ry;exact PySem.EqNone.ne_none_str (BJ I q (by simp))
  | _=>exact absurd (show false=true from hs) QaS
 | bl i=>
  cases rx
  cases y with
  | non=>cases ry;exact PySem.EqNone.ne_bool_none (BJ I q (by simp))
  | bl j=>cases ry;exact ne_bool (BJ I q (congrArg not jr))
  | str j=>obtain⟨t',rfl⟩:=ry;exact PySem.EqMixed.ne_bool_str (BJ I q (by simp))
  | _=>exact absurd (show false=true from hs) QaS
 | int i=>
  obtain⟨t,rfl⟩:=rx
  cases y with
  | non=>cases ry;exact PySem.EqNone.ne_int_none (BJ I q (by simp))
  | int j=>obtain⟨t',rfl⟩:=ry;exact ne_int (BJ I q (congrArg not aH))
  | str j=>obtain⟨t',rfl⟩:=ry;exact PySem.EqMixed.ne_int_str (BJ I q (by simp))
  | _=>exact absurd (show false=true from hs) QaS
 | str i=>
  obtain⟨t,rfl⟩:=rx
  cases y with
  | non=>cases ry;exact PySem.EqNone.ne_str_none (BJ I q (by simp))
  | bl j=>cases ry;exact PySem.EqMixed.ne_str_bool (BJ I q (by simp))
  | int j=>obtain⟨t',rfl⟩:=ry;exact PySem.EqMixed.ne_str_int (BJ I q (by simp))
  | str j=>obtain⟨t',rfl⟩:=ry;exact ne_str (BJ I q (congrArg not aG))
  | _=>exact absurd (show false=true from hs) QaS
 | byt i=>
  obtain⟨t,rfl⟩:=rx
  cases y with
  | byt j=>obtain⟨t',rfl⟩:=ry;exact PySem.W.ne_bytes (BJ I q (congrArg not aJ))
  | _=>exact absurd (show false=true from hs) QaS
 | _=>cases y <;> exact absurd (show false=true from hs) QaS
theorem V7:OpR X (compareOp .Lt) (rI0 λi j=>.bl (decide (i < j))):=bQ λ_ _ _ _ _ _ _ q=>lt_int q
theorem Nj:OpR X (compareOp .LtE) (rI0 λi j=>.bl (decide (i<=j))):=bQ λ_ _ _ _ _ _ _ q=>le_int q
theorem V8:OpR X (compareOp .Gt) (rI0 λi j=>.bl (decide (j < i))):=bQ λ_ _ _ _ _ _ _ q=>gt_int q
theorem AW:OpR X (compareOp .GtE) (rI0 λi j=>.bl (decide (j<=i))):=bQ λ_ _ _ _ _ _ _ q=>ge_int q
theorem gJ:OpR X (compareOp .In) (λx y H Q=>∃i j,x=.str i/\y=.str j/\Q (.bl (!(Builtin.Str.occurrences j i 0 j.length 1).isEmpty)) H):=by
 intro pins s σ H x y v u Q I rx ry h
 obtain⟨i,j,rfl,rfl,q⟩:=h
 obtain⟨t,rfl⟩:=rx
 obtain⟨t',rfl⟩:=ry
 exact in_str (BJ I q rfl)
theorem wj:OpR X (compareOp .Is) (λx y H Q=>y=.non/\Q (.bl (decide (x=.non))) H):=by
 intro pins s σ H x y v u Q I rx ry h
 obtain⟨rfl,q⟩:=h
 cases ry
 refine is_none_gen (BJ I q ?_)
 cases x <;> first
  | (cases rx;rfl)
  | (obtain⟨t,rfl⟩:=rx;rfl)
theorem sH:OpR X (compareOp .IsNot) (λx y H Q=>y=.non/\Q (.bl (!decide (x=.non))) H):=by
 intro pins s σ H x y v u Q I rx ry h
 obtain⟨rfl,q⟩:=h
 cases ry
 refine isnot_none_gen (BJ I q ?_)
 cases x <;> first
  | (cases rx;rfl)
  | (obtain⟨t,rfl⟩:=rx;rfl)
theorem BP (b:Expr) {op:CmpOp} (h:op≠.In:=by decide) (h2:op≠.NotIn:=by decide):behindInMarks op b=false:=by
 have e1:(op == CmpOp.In)=false:=by cases op <;> first | rfl | exact absurd rfl h
 have e2:(op == CmpOp.NotIn)=false:=by cases op <;> first | rfl | exact absurd rfl h2
 cases b <;> simp[behindInMarks,e1,e2]
theorem Kg {op:CmpOp} {r:R2} (ho:OpR X (compareOp op) r) (ha:PE X a ta) (hb:PE X b tb) (hm:behindInMarks op b=false):PE X (.Compare a [op] [b] pos) (tOp r ta tb):=by
 intro pins s σ H Q I h
 exact wpAny_Compare1 (pY ha hb I h λv u s2 x y H2 I2 rx ry q=>ho pins s2 σ H2 x y v u Q I2 rx ry q) hm
def AD (t:TE):TT:=fun σ H Q=>t σ H λx H'=>∃k,x=.bl k/\Q k H'
theorem Bs {op:CmpOp} {r:R2} (ho:OpR X (compareOp op) r) (ha:PE X a ta) (hb:PE X b tb) (hm:behindInMarks op b=false):PT X (.Compare a [op] [b] pos) (AD (tOp r ta tb)):=by
 intro pins s σ H Q I h
 refine wpAny_isTrue_Compare1 (thn (ha pins s σ H _ I h) λv s1 ⟨x,H1,I1,r1,q1⟩=>thn (hb pins s1 σ H1 _ I1 q1) λu s2 ⟨y,H2,I2,r2,q2⟩=>
  thn (ho pins s2 σ H2 x y v u _ I2 r1 r2 q2) λc s3 ⟨z,H3,I3,r3,k,e,q3⟩=>?_) hm
 subst e
 cases r3
 exact Qbm ⟨H3,I3,q3⟩
def vp (r r':R2) (ta tb tc:TE):TE:=fun σ H Q=>ta σ H λx H1=>tb σ H1 λy H2=>r x y H2 λz H3=>∃k,z=.bl k /\
 (if k=true then tc σ H3 λw' H4=>r' y w' H4 Q else Q (.bl false) H3)
theorem Ox {op op':CmpOp} {r r':R2} (ho:OpR X (compareOp op) r) (ho':OpR X (compareOp op') r') (ha:PE X a ta) (hb:PE X b tb) (hc:PE X c tc)
  (hm:lastMarks [op,op'] [b,c]=false:=by with_unfolding_all rfl):PE X (.Compare a [op,op'] [b,c] pos) (vp r r' ta tb tc):=by
 intro pins s σ H Q I h
 refine Compare_chain (thn (ha pins s σ H _ I h) λv s1 ⟨x,H1,I1,r1,q1⟩=>chain_link (thn (hb pins s1 σ H1 _ I1 q1) λu s2 ⟨y,H2,I2,r2,q2⟩=>
  thn (ho pins s2 σ H2 x y v u _ I2 r1 r2 q2) λd s3 ⟨z,H3,I3,r3,k,e,q3⟩=>?_)) hm
 subst e
 cases r3
 refine Qbm ?_
 cases k with
 | false=>exact ite_ff ⟨.bl false,H3,I3,rfl,q3⟩
 | true=>exact ite_tt (chain_last (thn (hc pins s3 σ H3 _ I3 q3) λw' s4 ⟨z',H4,I4,r4,q4⟩=>ho' pins s4 σ H4 y z' u w' Q I4 r2 r4 q4))
theorem Og:(sizeLine:Nat) < 2 ^ 63:=by rw[Qcu];decide
theorem Tc:OpR X (binaryOp .Add) (λx y H Q=>∃i j,x=.str i/\y=.str j/\i.length+j.length<=sizeLine/\Q (.str (i++j)) H):=by
 intro pins s σ H x y v u Q I rx ry h
 obtain⟨i,j,rfl,rfl,hz,q⟩:=h
 obtain⟨t,rfl⟩:=rx
 obtain⟨t',rfl⟩:=ry
 exact add_str (λt' tk=>⟨.str (i++j),H,I.tok _,⟨_,rfl⟩,q⟩) hz
theorem vals1 {x:V} {us:List Value} (r:Vals [x] us):∃u,us=[u]/\RelV x u:=by
 cases r with
 | cons r1 r2=>cases r2;exact⟨_,rfl,r1⟩
theorem vals2 {x y:V} {us:List Value} (r:Vals [x,y] us):∃u w',us=[u,w']/\RelV x u/\RelV y w':=by
 cases r with
 | cons r1 r2=>
  cases r2 with
  | cons r3 r4=>cases r4;exact⟨_,_,rfl,r1,r3⟩
theorem Yu:Eb X (.builtin "abs") (λxs H Q=>∃i,xs=[.int i]/\Q (.int (if i < 0 then -i else i)) H):=by
 intro pins s σ H xs us Q I r h
 obtain⟨i,rfl,q⟩:=h
 obtain⟨u,rfl,t,rfl⟩:=vals1 r
 exact call_abs_int λu tk=>⟨.int (if i < 0 then -i else i),H,I.tok _,⟨_,rfl⟩,q⟩
theorem jC (hc:X.calm=true):Eb X (.builtin "max") (λxs H Q=>∃i j,xs=[.int i,.int j]/\Q (.int (if j > i then j else i)) H):=by
 intro pins s σ H xs us Q I r h
 obtain⟨i,j,rfl,q⟩:=h
 obtain⟨u,w',rfl,⟨t,rfl⟩,⟨t',rfl⟩⟩:=vals2 r
 refine max_two_ints (I.ok.hd hc) λh' tk k=>⟨_,H,I.kept k,?_,q⟩
 by_cases hj:j > i
 ·rw[if_pos hj,if_pos hj];exact⟨_,rfl⟩
 ·rw[if_neg hj,if_neg hj];exact⟨_,rfl⟩
theorem Vo (hc:X.calm=true):Eb X (.builtin "min") (λxs H Q=>∃i j,xs=[.int i,.int j]/\Q (.int (if j < i then j else i)) H):=by
 intro pins s σ H xs us Q I r h
 obtain⟨i,j,rfl,q⟩:=h
 obtain⟨u,w',rfl,⟨t,rfl⟩,⟨t',rfl⟩⟩:=vals2 r
 refine min_two_ints (I.ok.hd hc) λh' tk k=>⟨_,H,I.kept k,?_,q⟩
 by_cases hj:j < i
 ·rw[if_pos hj,if_pos hj];exact⟨_,rfl⟩
 ·rw[if_neg hj,if_neg hj];exact⟨_,rfl⟩
theorem jF:Eb X (.type "int") (λxs H Q=>(∃i,xs=[.int i]/\Q (.int i) H)\/∃k,xs=[.bl k]/\Q (.int (if k then 1 else 0)) H):=by
 intro pins s σ H xs us Q I r h
 rcases h with⟨i,rfl,q⟩|⟨k,rfl,q⟩
 ·obtain⟨u,rfl,t,rfl⟩:=vals1 r
  exact call_int_int ⟨.int i,H,I,⟨_,rfl⟩,q⟩
 ·obtain⟨u,rfl,r1⟩:=vals1 r
  cases r1
  exact call_int_bool ⟨.int (if k then 1 else 0),H,I.tok _,⟨_,rfl⟩,q⟩
end
structure Sq (h:Heap) (x dx C:Addr) (mA:Str->Option Value):Prop where
 obj:h.get? x=some (instObj C dx)
 ns:h.Ns1 dx mA
 ne:dx≠x
theorem iz {h:Heap} {dx:Addr} {mA:Str->Option Value} (n:h.Ns1 dx mA):∃od,h.get? dx=some od/\∀name,lookIn name od=some (mA name):=by
 obtain⟨o,es,ep,ho,hd,hk,_,hm⟩:=n
 refine⟨o,ho,λname=>?_⟩
 have e:=hm name
 unfold nsFind findBy at e
 rw[<-Array.find?_toList] at e
 unfold lookIn
 rw[hd]
 dsimp only
 split
 ·rename_i y q
  rw[q] at e
  exact congrArg some e
 ·rename_i q
  rw[q] at e
  have a:es.toList.any (·.refKey)=false:=by
   rw[List.any_eq_false]
   intro y hy
   obtain⟨z,t,hkey⟩:=hk y (Array.mem_toList_iff.mp hy)
   simp[DictEntry.refKey,hkey]
  have a':¬es.toList.any (·.refKey)=true:=by rw[a];exact QaS
  rw[if_neg a']
  exact congrArg some e
theorem Sq.look {h:Heap} {x dx C:Addr} {mA:Str->Option Value} (I:Sq h x dx C mA):∃od,PySem.W.InstAt h x (instObj C dx) C (some od)/\∀name,lookIn name od=some (mA name):=
 let ⟨od,ho,hl⟩:=iz I.ns
 ⟨od,⟨I.obj,rfl,rfl,ho⟩,hl⟩
section
variable {prog:Program} {w:World} {A:Around} {E:Value->Shared->Prop} {s:Shared} {K:PySem.W.Frag} {x dx C f:Addr} {mA:Str->Option Value} {name:Str} {v:Value}
theorem get_map {expr:Bool} {Q:Value->Shared->Prop} (X:K.In s.heap) (I:Sq s.heap x dx C mA) (hg:plainGet K C name=true) (hh:hasDictIn K C=true)
  (ha:findIn K (.ref C) name=some none) (hv:mA name=some v) (hv':PySem.W.handedIn v=true) (h:Q v { s with toks:=s.toks+1 }) :
  wpAny (model prog w) A (getAttr (.ref x) name expr) Q E s:=by
 obtain⟨od,J,hl⟩:=I.look
 exact PySem.W.get_value X J (PySem.W.plainGet_of hg).1 (PySem.W.findObj_own hh ha rfl (by rw[hl,hv])) hv' h
theorem pG {pl:Sem Bool} {Q:Value×List Value->Shared->Prop} (X:K.In s.heap) (I:Sq s.heap x dx C mA) (hg:plainGet K C name=true)
  (hf:findIn K (.ref C) name=some (some (.ref f))) (ht:isFn K (.ref f)=true) (hv:mA name=none) (h:Q (.ref f,[.ref x]) s) :
  wpAny (model prog w) A (getMethod (.ref x) name pl) Q E s:=by
 obtain⟨od,J,hl⟩:=I.look
 exact PySem.W.method_fn X J (PySem.W.plainGet_of hg).1 (PySem.W.plainGet_of hg).2 hf (beq_iff_eq.mp ht) (by show (lookIn name od).map (·.isSome)=some false;rw[hl,hv];rfl) h
theorem rN {ns:List Str} {Q:Unit->Shared->Prop} (X:K.In s.heap) (I:Sq s.heap x dx C mA)
  (hs:findIn K (.ref C) "__setattr__"=some (some (.builtin "object.__setattr__"))) (hp:PySem.W.plainOver K C=true) (ht:PySem.W.takerIn K C name=some none) (hh:hasDictIn K C=true)
  (hw:PySem.Within mA ns) (hsz:ns.length<=sizeLine)
  (h:∀h',Sq h' x dx C (λy=>if y=name then some v else mA y)->Heap.SameBut dx s.heap h'->Q () { s with heap:=h',toks:=s.toks+2 }) :
  wpAny (model prog w) A (setAttr (.ref x) name v) Q E s:=by
 obtain⟨od,J,hl⟩:=I.look
 refine PySem.W.set_plain X J hs (PySem.W.osa_open (s:={ s with toks:=s.toks+1 }) (r:=none) X J hp ht λb=>?_)
 obtain⟨cd,hc,hd'⟩:=PySem.W.any_some hh
 have hx:s.heap.get? x=some ⟨.ref C,some dx,.plain,#[]⟩:=I.obj
 refine Qcv (Qcw (Qcv (Qcv (wpAny_loadPart hx (Qcv (PySem.W.Looks.here (s:={ s with toks:=s.toks+1 }) (PySem.W.looks_clsIn X hc) ?_))))))
 rw[hd']
 refine Qcw (a:=some dx) (Qcv (Qcw (Qcv ?_)))
 refine wpAny_nsSet1 (s:={ s with toks:=s.toks+1 }) I.ns λh' hn2 hs2=>?_
 obtain⟨oD,esD,epD,hoD,hdD,hcD⟩:=hn2.count (PySem.Within.cons name v hw)
 refine Qcv (wpAny_lookBehind hoD (by rw[hdD];exact pastItsLine_dict (Qck hcD (by rw[Qbr];omega))) ?_)
 exact Qcw (h _ ⟨(hs2.2 _ (Ne.symm I.ne)).trans I.obj,hn2,I.ne⟩ hs2)
theorem mX {R:Result->Shared->Prop} {vs:List Value} {kw:List (Str×Value)} (X:K.In s.heap) (hm:PySem.W.makesIn K C=true)
  (hi:findIn K (.ref C) "__init__"=some (some (.ref f))) (hf:PySem.W.typeIn K (.ref f)=some (.type "function"))
  (h:codeAny (model prog w) (A.under (.builtin "type.__call__" ⟨.ref C::vs,kw⟩)) (.call (.ref f) ⟨.ref (s.heap.objs.size+1)::vs,kw⟩) (PySem.W.InitBack (s.heap.objs.size+1) R)
   { s with heap:=(s.heap.push emptyDict).push (instObj C s.heap.objs.size) }) :
  codeAny (model prog w) A (.call (.ref C) ⟨vs,kw⟩) R s:=by
 obtain⟨hh,g,d,t,os⟩:=s
 exact PySem.W.make_core (PySem.W.makes_of X hm) (looks_findIn X hi) (λself=>PySem.W.bind_fn X self hf) (.inl rfl) h
end
def Hh (f:Str) (v:V):List (Str×V)->List (Str×V)
 | []=>[(f,v)]
 | (g,x)::r=>if g=f then (g,v)::r else (g,x)::Hh f v r
theorem Rt (f g:Str) (v:V):∀fs:List (Str×V),(Hh f v fs).lookup g=if g=f then some v else fs.lookup g
 | []=>by
  show List.lookup g [(f,v)]=_
  by_cases h:g=f
  ·have hb:(g == f)=true:=beq_iff_eq.mpr h
   simp only[List.lookup,hb,if_pos h]
  ·have hb:(g == f)=false:=QaJ.mpr h
   simp only[List.lookup,hb,if_neg h]
 | (k,x)::r=>by
  have ih:=Rt f g v r
  rw[show Hh f v ((k,x)::r)=(if k=f then (k,v)::r else (k,x)::Hh f v r) from rfl]
  by_cases hk:k=f
  ·rw[if_pos hk]
   by_cases h:g=k
   ·have hb:(g == k)=true:=beq_iff_eq.mpr h
    simp only[List.lookup,hb,if_pos (h.trans hk)]
   ·have hb:(g == k)=false:=QaJ.mpr h
    simp only[List.lookup,hb,if_neg (λe:g=f=>h (e.trans hk.symm))]
  ·rw[if_neg hk]
   by_cases h:g=k
   ·have hb:(g == k)=true:=beq_iff_eq.mpr h
    simp only[List.lookup,hb,if_neg (λe:g=f=>hk (h.symm.trans e))]
   ·have hb:(g == k)=false:=QaJ.mpr h
    simp only[List.lookup,hb]
    exact ih
theorem Qm (f:Str) (v:V):∀fs:List (Str×V),f∈(Hh f v fs).map (·.1)/\∀g,g∈fs.map (·.1)->g∈(Hh f v fs).map (·.1)
 | []=>⟨by simp[Hh],λg h=>by simp at h⟩
 | (k,x)::r=>by
  obtain⟨i1,i2⟩:=Qm f v r
  rw[show Hh f v ((k,x)::r)=(if k=f then (k,v)::r else (k,x)::Hh f v r) from rfl]
  by_cases hk:k=f
  ·rw[if_pos hk]
   subst hk
   exact⟨by simp,λg h=>by simpa using h⟩
  ·rw[if_neg hk]
   refine⟨?_,λg h=>?_⟩
   ·rw[QbZ]
    exact QaE _ i1
   ·rw[QbZ] at h ⊢
    rcases QbY.mp h with e | e
    ·exact QbY.mpr (.inl e)
    ·exact QaE _ (i2 g e)
theorem Ru (f:Str) (v:V):∀fs:List (Str×V),(Hh f v fs).length<=fs.length+1
 | []=>by simp[Hh]
 | (k,x)::r=>by
  have ih:=Ru f v r
  rw[show Hh f v ((k,x)::r)=(if k=f then (k,v)::r else (k,x)::Hh f v r) from rfl]
  by_cases hk:k=f
  ·rw[if_pos hk,Qbr,Qbr];omega
  ·rw[if_neg hk,Qbr,Qbr];omega
theorem Hj.some_of {v:V} {o:Option Value} (r:Hj (some v) o):∃u,o=some u/\RelV v u:=by
 cases o with
 | none=>exact (show False from r).elim
 | some u=>exact⟨u,rfl,r⟩
theorem Hj.none_of {o:Option Value} (r:Hj none o):o=none:=by
 cases o with
 | none=>rfl
 | some u=>exact (show False from r).elim
theorem iU {v:V} {u:Value} (r:RelV v u):PySem.W.handedIn u=true:=by
 cases v with
 | non=>cases (show u=Value.none from r);rfl
 | bl b=>cases (show u=Value.bool b from r);rfl
 | int i=>obtain⟨t,e⟩:=(show ∃t,u=Value.int i t from r);cases e;rfl
 | str x=>obtain⟨t,e⟩:=(show ∃t,u=Value.str x t from r);cases e;rfl
 | byt b=>obtain⟨t,e⟩:=(show ∃t,u=Value.bytes b t from r);cases e;rfl
 | flt b=>obtain⟨t,e⟩:=(show ∃t,u=Value.float b t from r);cases e;rfl
 | ref a=>cases (show u=Value.ref a from r);rfl
 | ty n=>cases (show u=Value.type n from r);rfl
section
variable {P:Program} {w:World} {H H':Hp} {h h':Heap} {a C dx:Addr} {fs fs':List (Str×V)}
theorem QX (hok:HOk P w H h) (e:H a=some (.ins C dx fs)):∃mA,Sq h a dx C mA/\(∀f,Hj (fs.lookup f) (mA f))/\PySem.Within mA (fs.map (·.1))/\fs.length<=1000/\H dx=some (.own a):=by
 obtain⟨d,z,ne,ob,mA,n,r,q⟩:=(show Bp P w H h a (.ins C dx fs) from hok a _ e)
 exact⟨mA,⟨ob,n,ne⟩,r,q,z,d⟩
end
structure Cls (K:PySem.W.Frag) (C:Addr):Prop where
 pg:plainGet K C Str.empty=true
 hd:hasDictIn K C=true
 po:PySem.W.plainOver K C=true
 sa:findIn K (.ref C) "__setattr__"=some (some (.builtin "object.__setattr__"))
theorem Cls.get {K:PySem.W.Frag} {C:Addr} (c:Cls K C) (f:Str):plainGet K C f=true:=c.pg
def Jd (K:PySem.W.Frag) (C:Addr) (f:Str):Prop:=findIn K (.ref C) f=some none
theorem Jd.taker {K:PySem.W.Frag} {C:Addr} {f:Str} (n:Jd K C f):PySem.W.takerIn K C f=some none:=by
 unfold PySem.W.takerIn
 rw[show findIn K (.ref C) f=some none from n]
 rfl
structure Meth (K:PySem.W.Frag) (C:Addr) (m:Str) (f:Addr):Prop where
 at_:findIn K (.ref C) m=some (some (.ref f))
 fn:isFn K (.ref f)=true
 kp:keepIn K (.ref f)=true
section
variable {X:Cx} {pins:List (Addr×Obj)} {σ : St} {H:Hp} {s:Shared} {a C dx:Addr} {fs:List (Str×V)} {f:Str} {v:V} {A:Around} {E:Value->Shared->Prop}
theorem cW {b:Bool} {Q:Value->Shared->Prop} (I:Inv X pins σ H s) (e:H a=some (.ins C dx fs)) (c:Cls X.K C) (n:Jd X.K C f) (l:fs.lookup f=some v)
  (h:∀u s',Inv X pins σ H s'->RelV v u->Q u s'):wpAny (model X.prog X.w) A (getAttr (.ref a) f b) Q E s:=by
 obtain⟨mA,O,r,_,_,_⟩:=QX I.hok e
 obtain⟨u,hu,ru⟩:=Hj.some_of (v:=v) (o:=mA f) (by rw[<-l];exact r f)
 exact get_map I.kIn O (c.get f) c.hd n hu (iU ru) (h u _ (I.tok _) ru)
theorem Lw {m:Str} {g:Addr} {pl:Sem Bool} {Q:Value×List Value->Shared->Prop} (I:Inv X pins σ H s) (e:H a=some (.ins C dx fs)) (c:Cls X.K C) (k:Meth X.K C m g) (l:fs.lookup m=none)
  (h:Q (.ref g,[.ref a]) s):wpAny (model X.prog X.w) A (getMethod (.ref a) m pl) Q E s:=by
 obtain⟨mA,O,r,_,_,_⟩:=QX I.hok e
 have hn:mA m=none:=Hj.none_of (by rw[<-l];exact r m)
 exact pG I.kIn O (c.get m) k.at_ k.fn hn h
theorem bF {y:V} {u:Value} {Q:Unit->Shared->Prop} (I:Inv X pins σ H s) (e:H a=some (.ins C dx fs)) (c:Cls X.K C) (n:Jd X.K C f) (hl:fs.length < 1000) (ry:RelV y u)
  (h:∀s',Inv X pins σ (upd H a (.ins C dx (Hh f y fs))) s'->Q () s'):wpAny (model X.prog X.w) A (setAttr (.ref a) f u) Q E s:=by
 obtain⟨mA,O,r,wi,_,ho⟩:=QX I.hok e
 have hz:(fs.map (·.1)).length<=sizeLine:=by rw[QbB,Qcu];omega
 refine rN I.kIn O c.sa c.po n.taker c.hd wi hz λh' O' sb=>h _ ?_
 have hd:∃o,h'.get? dx=some o:=let ⟨o,_,_,e',_⟩:=O'.ns;⟨o,e'⟩
 refine I.write (x:=a) (e:=dx) (by rw[e];exact True.intro) (.inr ho) (λb q hb z=>(sb.2 b hb).trans z) hd ?_
 refine⟨by rw[Al O.ne];exact ho,?_,O.ne,O'.obj,_,O'.ns,λg=>?_,λg hg=>?_⟩
 ·have:=Ru f y fs;omega
 ·show Hj ((Hh f y fs).lookup g) (if g=f then some u else mA g)
  rw[Rt]
  by_cases q:g=f
  ·rw[if_pos q,if_pos q];exact ry
  ·rw[if_neg q,if_neg q];exact r g
 ·by_cases q:g=f
  ·rw[q];exact (Qm f y fs).1
  ·refine (Qm f y fs).2 g (wi g λz=>hg ?_)
   show (if g=f then some u else mA g)=none
   rw[if_neg q];exact z
theorem Inv.made (I:Inv X pins σ H s):Inv X pins σ (upd (upd H s.heap.objs.size (.own (s.heap.objs.size+1))) (s.heap.objs.size+1) (.ins C s.heap.objs.size []))
  { s with heap:=(s.heap.push emptyDict).push (instObj C s.heap.objs.size) }:=by
 have e1:(s.heap.push emptyDict).get? s.heap.objs.size=some emptyDict:=QaI s.heap rfl
 have e2:((s.heap.push emptyDict).push (instObj C s.heap.objs.size)).get? (s.heap.objs.size+1)=some (instObj C s.heap.objs.size):=by
  have:=QaI (s.heap.push emptyDict) (o:=instObj C s.heap.objs.size) rfl
  rwa [QbT] at this
 have e3:(s.heap.push emptyDict).Ns s.heap.objs.size (λ_=>none):=⟨emptyDict,#[],_,e1,rfl,(λe he=>absurd he (by simp)),λ_=>rfl⟩
 have I1:=I.laid (a:=s.heap.objs.size) (o:=.own (s.heap.objs.size+1)) (h':=s.heap.push emptyDict) (t':=s.toks) (λb u q=>Qav _ q) (Qcq _) ⟨_,e1⟩
 refine I1.laid (a:=s.heap.objs.size+1) (o:=.ins C s.heap.objs.size []) (t':=s.toks) (λb u q=>Qav _ q) (Nat.le_of_eq (QbT _ _)) ?_
 have ne:s.heap.objs.size≠s.heap.objs.size+1:=Qcj (Qby _)
 refine⟨by rw[Al ne,Ac],Qcr _,ne,e2,λ_=>none,(Heap.Ns1.of_empty e3).at λo q=>Qav _ q,λ_=>True.intro,λy hy=>absurd rfl hy⟩
theorem uH {prog:Program} {w:World} {env:Env} {e:Expr} {f:Str} {pos:Pos} {s:Shared} {Q:Value->Shared->Prop} (hb:attributeBase e f env (eval e env)=eval e env)
  (h:wpAny (model prog w) A (eval e env) (λo s₁=>wpAny (model prog w) A (getAttr o f true) Q E s₁) E s):wpAny (model prog w) A (eval (.Attribute e f pos) env) Q E s:=
 Attribute_any_ h (by rw[arm_eval_Attribute,hb])
end
def B2 (K:PySem.W.Frag) (ta:TE) (f:Str):TE:=fun σ H Q=>ta σ H λx H1=>∃a C dx fs v,x=.ref a/\H1 a=some (.ins C dx fs)/\Cls K C/\Jd K C f/\fs.lookup f=some v/\Q v H1
section
variable {X:Cx} {o e value:Expr} {f:Str} {pos pos' tpos:Pos} {ta tv:TE}
theorem JL (he:PE X e ta) (hb:attributeBase e f X.env (eval e X.env)=eval e X.env):PE X (.Attribute e f pos) (B2 X.K ta f):=by
 intro pins s σ H Q I h
 refine uH hb (thn (he pins s σ H _ I h) λu s1 ⟨x,H1,I1,rx,a,C,dx,fs,v,ex,ea,c,n,l,q⟩=>?_)
 subst ex
 obtain rfl:u=Value.ref a:=rx
 exact cW I1 ea c n l λu' s2 I2 ru=>⟨v,H1,I2,ru,q⟩
theorem Au {pl:Sem Bool} {m:Str} {apos:Pos} {args:List Expr} {pins:List (Addr×Obj)} {s:Shared} {σ : St} {H:Hp} {Q:Value->Shared->Prop} {te:TE} (he:PE X e te) (I:Inv X pins σ H s)
  (h:te σ H λx H1=>∃a C dx fs g,x=.ref a/\H1 a=some (.ins C dx fs)/\Cls X.K C/\Meth X.K C m g/\fs.lookup m=none /\
   ∀s1,Inv X pins σ H1 s1->wpAny (model X.prog X.w) X.A (callWith pos (.ref g) [.ref a] (backTo pos (starEach args X.env)) (backToKw pos (keywordEach [] X.env))) Q X.xe s1)
  (ht:eval (.Call (.Attribute e m apos) args [] pos) X.env=(do
   let ov <-eval e X.env
   standAt apos.atName
   let (f,first) <-holding [ov] (getMethod ov m pl)
   callWith pos f first (backTo pos (starEach args X.env)) (backToKw pos (keywordEach [] X.env)))) :
  wpAny (model X.prog X.w) X.A (eval (.Call (.Attribute e m apos) args [] pos) X.env) Q X.xe s:=by
 refine methodCall_KW (pl:=pl) (thn (he pins s σ H _ I h) λu s1 ⟨x,H1,I1,rx,a,C,dx,fs,g,ex,ea,c,k,l,q⟩=>?_) ht
 subst ex
 obtain rfl:u=Value.ref a:=rx
 exact Lw I1 ea c k l (q s1 I1)
end
section
variable {X:Cx} {pins:List (Addr×Obj)} {σ : St} {H:Hp} {s:Shared} {A:Around} {E:Value->Shared->Prop} {Q:Value->Shared->Prop} {c:Value} {b:Bool}
inductive Ku (K:PySem.W.Frag) (H:Hp):V->Value->Prop where
 | non:Ku K H .non (.type "NoneType")
 | bl (x:Bool):Ku K H (.bl x) (.type "bool")
 | int (i:Int):Ku K H (.int i) (.type "int")
 | str (x:Str):Ku K H (.str x) (.type "str")
 | flt (x:UInt64):Ku K H (.flt x) (.type "float")
 | lst {a:Addr} {xs:List V} (e:H a=some (.lst xs)):Ku K H (.ref a) (.type "list")
 | frz {a:Addr} {o:Obj} {xs:List V} (e:H a=some (.frz o (.lst xs))):Ku K H (.ref a) (.type "list")
 | tup {a:Addr} {xs:List V} (e:H a=some (.tup xs)):Ku K H (.ref a) (.type "tuple")
 | dK {a:Addr} {kvs:List (Key×V)} (e:H a=some (.dK kvs)):Ku K H (.ref a) (.type "dict")
 | dT {a:Addr} {kvs:List (List Key×V)} (e:H a=some (.dT kvs)):Ku K H (.ref a) (.type "dict")
 | ins {a C dx:Addr} {fs:List (Str×V)} (e:H a=some (.ins C dx fs)) (cl:Cls K C) (ha:findIn K (.ref C) "__class__"=some (some (.builtin "object.__class__")))
   (hn:PySem.W.specialIn K (.builtin "object.__class__") "__get__"=some (some (.builtin "getset_descriptor.__get__"))) (htk:PySem.W.takesIn K (.builtin "object.__class__")=some true)
   (hm:PySem.W.mroIn K C (.type "object")=some true):Ku K H (.ref a) (.ref C)
theorem iH {x:V} {u t:Value} (I:Inv X pins σ H s) (rx:RelV x u) (ty:Ku X.K H x t) (e:kitOne X.K t c=some b) (h:∀tk,Q (.bool b) { s with toks:=tk }) :
  wpAny (model X.prog X.w) A (call (.builtin "isinstance") [u,c]) Q E s:=by
 cases ty with
 | non=>cases (show u=Value.none from rx);exact kia_one PySem.W.kitx_none I.kIn True.intro e (λz=>nomatch z) h
 | bl y=>cases (show u=Value.bool y from rx);exact kia_one PySem.W.kitx_bool I.kIn True.intro e (λz=>nomatch z) h
 | int i=>obtain⟨t,q⟩:=(show ∃t,u=Value.int i t from rx);cases q;exact kia_one PySem.W.kitx_int I.kIn True.intro e (λz=>nomatch z) h
 | str y=>obtain⟨t,q⟩:=(show ∃t,u=Value.str y t from rx);cases q;exact kia_one PySem.W.kitx_str I.kIn True.intro e (λz=>nomatch z) h
 | flt y=>obtain⟨t,q⟩:=(show ∃t,u=Value.float y t from rx);cases q;exact kia_one PySem.W.kitx_float I.kIn True.intro e (λz=>nomatch z) h
 | @lst a xs ea=>
  cases (show u=Value.ref a from rx)
  obtain⟨_,_,n,_,h1⟩:=(show Bp X.prog X.w H s.heap a (.lst xs) from I.hok a _ ea)
  exact kia_one PySem.W.kitx_list I.kIn ⟨_,h1,rfl⟩ e (λz=>nomatch z) h
 | @frz a ob xs ea=>
  cases (show u=Value.ref a from rx)
  obtain⟨_,_,_,n,_,h1⟩:=(show Bp X.prog X.w H s.heap a (.frz ob (.lst xs)) from I.hok a _ ea)
  exact kia_one PySem.W.kitx_list I.kIn ⟨_,h1,rfl⟩ e (λz=>nomatch z) h
 | @tup a xs ea=>
  cases (show u=Value.ref a from rx)
  obtain⟨_,_,_,p⟩:=(show Bp X.prog X.w H s.heap a (.tup xs) from I.hok a _ ea)
  obtain⟨o,h1,h2,_⟩:=p
  exact kia_one PySem.W.kitx_tuple I.kIn ⟨o,h1,h2⟩ e (λz=>nomatch z) h
 | @dK a kvs ea=>
  cases (show u=Value.ref a from rx)
  obtain⟨_,_,vs,_,p⟩:=(show Bp X.prog X.w H s.heap a (.dK kvs) from I.hok a _ ea)
  obtain⟨o,es,ep,h1,h2,_⟩:=p
  exact kia_one PySem.W.kitx_dict I.kIn ⟨o,h1,h2.1⟩ e (λz=>nomatch z) h
 | @dT a kvs ea=>
  cases (show u=Value.ref a from rx)
  obtain⟨_,_,xs,_,o,es,ep,h1,h2,_⟩:=(show Bp X.prog X.w H s.heap a (.dT kvs) from I.hok a _ ea)
  exact kia_one PySem.W.kitx_dict I.kIn ⟨o,h1,h2.1⟩ e (λz=>nomatch z) h
 | @ins a C dx fs ea cl ha hn htk hm=>
  cases (show u=Value.ref a from rx)
  obtain⟨mA,O,_⟩:=QX I.hok ea
  obtain⟨od,J,_⟩:=O.look
  exact kia_one (PySem.W.kitx_own (cl.get _) cl.hd ha hn htk hm) I.kIn J e (λz=>nomatch z) h
end
structure Cu (k:Nat) (A:Around):Prop where
 hd:A.handled=none
 dp:A.depth+3*k+5 < recursionLimit
 un:A.units+16*k+200 < cLine
theorem Cu.mono {j k:Nat} {A:Around} (r:Cu k A) (h:j<=k):Cu j A:=⟨r.hd,by have:=r.dp;omega,by have:=r.un;omega⟩
theorem Cu.deeper {k:Nat} {A:Around} (r:Cu (k+1) A) (env:Env):Cu k (A.deeper env):=
 ⟨r.hd,by have:=r.dp;show A.depth+1+3*k+5 < _;omega,by have:=r.un;show A.units+3+16*k+200 < _;omega⟩
theorem Cu.in1 {k:Nat} {A:Around} (r:Cu (k+1) A):Cu k A.in1:=
 ⟨r.hd,by have:=r.dp;show A.depth+3*k+5 < _;omega,by have:=r.un;show A.units+1+16*k+200 < _;omega⟩
theorem cD {A:Around} {C:Addr} {us:List Value} {kw:List (Str×Value)}:(A.under (.builtin "type.__call__" ⟨.ref C::us,kw⟩)).depth=A.depth+1:=by
 first | rfl | simp[Around.under,Code.weight,Code.isCreation,Code.isGuard,Code.isCaller,Code.frames,Code.isFrame,guardIds]
theorem cC {A:Around} {C:Addr} {us:List Value} {kw:List (Str×Value)}:(A.under (.builtin "type.__call__" ⟨.ref C::us,kw⟩)).units=A.units+1:=by
 first | rfl | simp[Around.under,Code.cUnits,Code.frames,Code.isFrame]
theorem Cu.make {k:Nat} {A:Around} (r:Cu (k+1) A) (C:Addr) (us:List Value) (kw:List (Str×Value)):Cu k (A.under (.builtin "type.__call__" ⟨.ref C::us,kw⟩)):=
 ⟨r.hd,by have:=r.dp;rw[cD];omega,by have:=r.un;rw[cC];omega⟩
theorem Cu.depth {k:Nat} {A:Around} (r:Cu k A):A.depth < recursionLimit:=by have:=r.dp;omega
theorem Cu.units {k:Nat} {A:Around} (r:Cu k A):A.units+64 < cLine:=by have:=r.un;omega
def bh:TA:=λ_ H Q=>Q [] H
def qz (ta:TE) (tr:TA):TA:=fun σ H Q=>ta σ H λx H1=>tr σ H1 λxs H2=>Q (x::xs) H2
section
variable {X:Cx} {e:Expr} {es:List Expr} {te:TE} {t:TA} {pos:Pos}
theorem Ab:PA X [] bh:=λ_ _ _ _ H Q I h=>Calls.spliced_nil ⟨[],H,I,.nil,h⟩
theorem Aa (ha:PE X e te) (hr:PA X es t) (hs:starEach (e::es) X.env=(false,eval e X.env)::starEach es X.env:=by rfl):PA X (e::es) (qz te t):=by
 intro pos pins s σ H Q I h
 rw[hs]
 show wpAny _ _ (spliced ((false,eval e X.env)::backTo pos (starEach es X.env))) _ _ s
 refine Qbe (thn (ha pins s σ H _ I h) λu s1 ⟨x,H1,I1,r1,q1⟩=>?_)
 exact thn (hr pos pins s1 σ H1 _ I1 q1) λus s2 ⟨xs,H2,I2,r2,q2⟩=>⟨x::xs,H2,I2,.cons r1 r2,q2⟩
def BS (t:TA):TE:=fun σ H Q=>t σ H λxs H1=>xs.length<=sizeLine/\∀p,H1 p=none->Q (.ref p) (upd H1 p (.tup xs))
def B0 (t:TA):TE:=fun σ H Q=>t σ H λxs H1=>xs.length<=sizeLine/\∀p,H1 p=none->Q (.ref p) (upd H1 p (.lst xs))
theorem Bk {x1} (h:PA X es t):PE X (.Tuple es x1 pos) (BS t):=by
 intro pins s σ H Q I hq
 refine wpAny_Tuple_spliced (thn (h pos pins s σ H _ I hq) λus s1 ⟨xs,H1,I1,r,z,q⟩=>⟨by rw[<-r.length];exact z,?_⟩)
 have hf:H1 s1.heap.objs.size=none:=I1.hok.fresh (Qcq _)
 refine⟨.ref s1.heap.objs.size,upd H1 s1.heap.objs.size (.tup xs),I1.laid (t':=s1.toks) (λb u e=>Qav _ e) (Qcq _) ?_,rfl,q _ hf⟩
 exact⟨z,us,r,⟨_,QaI _ rfl,rfl,_,rfl⟩⟩
theorem BR (h:PA X es t):PE X (.List es pos) (B0 t):=by
 intro pins s σ H Q I hq
 refine wpAny_List_spliced (thn (h pos pins s σ H _ I hq) λus s1 ⟨xs,H1,I1,r,z,q⟩=>⟨by rw[<-r.length];exact z,?_⟩)
 have hf:H1 s1.heap.objs.size=none:=I1.hok.fresh (Qcq _)
 refine⟨.ref s1.heap.objs.size,upd H1 s1.heap.objs.size (.lst xs),I1.laid (t':=s1.toks) (λb u e=>Qav _ e) (Qcq _) ?_,rfl,q _ hf⟩
 exact⟨z,us,0,r,QaI _ rfl⟩
end
abbrev Sp:=List V->Hp->VK->XK->Prop
abbrev CXT:=List Env->Hp->Shared->XK->Value->Shared->Prop
structure Li (P:Program) (w:World) (K:PySem.W.Frag) (mg:Str->Option Value) (base:Heap) (A:Around) (outer:List Env) (s:Shared) (H:Hp):Prop where
 frames:A.frames=some outer
 mod:Mod K mg base
 bs:∀b o,base.get? b=some o->s.heap.get? b=some o/\H b=none
 bsz:base.objs.size<=s.heap.objs.size
 Gy:s.heap.FunFrames base outer
 frf:∀b∈frs outer,H b=none
 hok:HOk P w H s.heap
 bare:AllBare s.gens
def CE (outer:List Env) (P:Program) (w:World) (H:Hp) (s:Shared) (Q:VK) (u:Value) (s':Shared):Prop:=
 ∃v H',s'.os=s.os/\AllBare s'.gens/\Un (frs outer) [] H H' s.heap s'.heap/\HOk P w H' s'.heap/\RelV v u/\Q v H'
def CR (CX:CXT) (outer:List Env) (P:Program) (w:World) (H:Hp) (s:Shared) (Q:VK) (E:XK) (r:Result) (s':Shared):Prop:=
 match r with
 | .ok (.ret u)=>CE outer P w H s Q u s'
 | .ok _=>False
 | .error e=>CX outer H s E e s'
structure GD (P:Program) (w:World) (K:PySem.W.Frag) (mg:Str->Option Value) (base:Heap) (CX:CXT) (k:Nat) (f:Addr) (fd:FuncData) (ps:List Str) (sp:Sp):Prop where
 len:∀vs H Q E,sp vs H Q E->vs.length=ps.length
 run:∀(A:Around) (outer:List Env) (s:Shared) (H:Hp) (args:Args) (us:List Value) (vs:List V) (Q:VK) (E:XK),Cu k A->Li P w K mg base A outer s H->BindsTo s fd args (ps.zip us)->Vals vs us->sp vs H Q E ->
  codeAny (model P w) A (.call (.ref f) args) (CR CX outer P w H s Q E) s
theorem GD.imp {P:Program} {w:World} {K:PySem.W.Frag} {mg:Str->Option Value} {base:Heap} {CX:CXT} {k:Nat} {f:Addr} {fd:FuncData} {ps:List Str} {sp sp':Sp} (F:GD P w K mg base CX k f fd ps sp)
  (h:∀vs H Q E,sp' vs H Q E->sp vs H Q E):GD P w K mg base CX k f fd ps sp':=
 ⟨λvs H Q E q=>F.len vs H Q E (h _ _ _ _ q),λA outer s H args us vs Q E hr he hb hv hs=>F.run A outer s H args us vs Q E hr he hb hv (h _ _ _ _ hs)⟩
theorem Li.make {P:Program} {w:World} {K:PySem.W.Frag} {mg:Str->Option Value} {base:Heap} {A:Around} {outer:List Env} {s:Shared} {H:Hp} (e:Li P w K mg base A outer s H) (C:Addr) (us:List Value) (kw:List (Str×Value)) :
  Li P w K mg base (A.under (.builtin "type.__call__" ⟨.ref C::us,kw⟩)) outer s H:=⟨by first | exact e.frames | (simpa [Around.under,Code.envs,Code.isFrame,pushEnvs] using e.frames),e.mod,e.bs,e.bsz,e.Gy,e.frf,e.hok,e.bare⟩
theorem Li.in1 {P:Program} {w:World} {K:PySem.W.Frag} {mg:Str->Option Value} {base:Heap} {A:Around} {outer:List Env} {s:Shared} {H:Hp} (e:Li P w K mg base A outer s H) :
  Li P w K mg base A.in1 outer s H:=⟨e.frames,e.mod,e.bs,e.bsz,e.Gy,e.frf,e.hok,e.bare⟩
section
variable {X:Cx} {pins:List (Addr×Obj)} {σ : St} {H:Hp} {s s':Shared}
theorem Inv.env0 (I:Inv X pins σ H s):Li X.prog X.w X.K X.mg X.base X.A X.stack s H:=
 ⟨I.ok.frames,I.ok.mod,I.bs,Qck I.ok.bsz I.sz,I.stack,I.Ua,I.hok,I.bare⟩
theorem Inv.after {Q:VK} {u:Value} (I:Inv X pins σ H s) (h:CE X.stack X.prog X.w H s Q u s'):EP X pins σ Q u s':=by
 obtain⟨v,H',os,bare,un,hok,r,q⟩:=h
 obtain⟨hh,g,d,t,os'⟩:=s'
 obtain rfl:os'=s.os:=os
 exact⟨v,H',I.call (h':=hh) (g':=g) (d':=d) (t':=t) (ch:=[]) un hok bare (λb z=>absurd z (by simp)),r,q⟩
end
def bx (sp:Sp) (dvs:List V) (E:XK) (t:TA):TE:=fun σ H Q=>t σ H λvs H1=>sp (vs++dvs) H1 Q E
def V1 (C:Addr) (m:Str) (sp:Sp) (dvs:List V) (E:XK) (ta:TE) (t:TA):TE:=fun σ H Q=>ta σ H λx H1=>∃a dx fs,x=.ref a/\H1 a=some (.ins C dx fs)/\fs.lookup m=none /\
 t σ H1 λvs H2=>sp (x::(vs++dvs)) H2 Q E
def qy (C:Addr) (sp:Sp) (dvs:List V) (E:XK) (t:TA):TE:=fun σ H Q=>t σ H λvs H1=>∀x dx,H1 x=none->H1 dx=none->dx≠x ->
 sp (.ref x::(vs++dvs)) (upd (upd H1 dx (.own x)) x (.ins C dx [])) (λv H2=>v=.non/\Q (.ref x) H2) E
def Binds (K:PySem.W.Frag) (fd:FuncData) (ps:List Str) (ds:List Value):Prop:=
 ∀(s:Shared) (us:List Value),K.In s.heap->(us++ds).length=ps.length->BindsTo s fd ⟨us,[]⟩ (ps.zip (us++ds))
theorem Binds.all {K:PySem.W.Frag} {fd:FuncData} {ps:List Str} (h:∀us:List Value,us.length=ps.length->bindArgs fd ⟨us,[]⟩=pure (ps.zip us)):Binds K fd ps []:=λs us _ hl=>by
 rw[QbF] at hl ⊢
 exact .of_eq (h us hl)
def Passes (CX:CXT) (X:Cx) (E:XK):Prop:=∀(pins:List (Addr×Obj)) (σ : St) (H:Hp) (s:Shared) (e:Value) (s':Shared),Inv X pins σ H s->CX X.stack H s E e s'->X.xe e s'
section
variable {X:Cx} {CX:CXT} {k:Nat} {f C:Addr} {fd:FuncData} {ps:List Str} {sp:Sp} {dvs:List V} {ds:List Value} {E:XK} {x m:Str} {p pos apos:Pos} {e o:Expr} {es:List Expr} {ta:TE} {t:TA}
theorem W8 {pins:List (Addr×Obj)} {σ : St} {H:Hp} {s:Shared} {Q:VK} {us:List Value} {vs:List V} (F:GD X.prog X.w X.K X.mg X.base CX k f fd ps sp) (hr:Cu k X.A) (hb:Binds X.K fd ps ds) (hd:Vals dvs ds) (hx:Passes CX X E)
  (I:Inv X pins σ H s) (r:Vals vs us) (h:sp (vs++dvs) H Q E):wpAny (model X.prog X.w) X.A (call (.ref f) us) (EP X pins σ Q) X.xe s:=by
 have r2:Vals (vs++dvs) (us++ds):=r.append hd
 have hl:(us++ds).length=ps.length:=by rw[<-r2.length];exact F.len _ _ _ _ h
 refine wpAny_call (Qcp (F.run X.A X.stack s H ⟨us,[]⟩ (us++ds) (vs++dvs) Q E hr I.env0 (hb s us I.kIn hl) r2 h) λr s' hq=>?_)
 cases r with
 | error e=>exact hx pins σ H s e s' I hq
 | ok fl=>
  cases fl with
  | ret u=>exact I.after hq
  | next=>exact False.elim hq
  | brk=>exact False.elim hq
  | cont=>exact False.elim hq
theorem sy (F:GD X.prog X.w X.K X.mg X.base CX k f fd ps sp) (hr:Cu k X.A) (hg:Gl X x) (hm:X.mg x=some (.ref f)) (hk:keepIn X.K (.ref f)=true) (hb:Binds X.K fd ps ds) (hd:Vals dvs ds) (hx:Passes CX X E)
  (ha:PA X (e::es) t) (hdb:(x == ("__debug__":Str))=false:=by decide) (he:starEach (e::es) X.env=(false,eval e X.env)::starEach es X.env:=by rfl) (hpl:(backTo pos (starEach es X.env)).any (·.1)=false:=by rfl) :
  PE X (.Call (.Name x p) (e::es) [] pos) (bx sp dvs E t):=by
 intro pins s σ H Q I h
 refine Qbc (Mg I hg hm ?_ hdb)
 refine callWith_K (h₀:=X.base) I.ok.mod.kin hk (thn (ha pos pins s σ H _ I h) λus s1 ⟨vs,H1,I1,r,q⟩=>⟨I1.kIn,?_⟩) he hpl
 exact W8 F hr hb hd hx I1 r q
theorem rZ {pl:Sem Bool} (he:PE X o ta) (c:Cls X.K C) (hm:Meth X.K C m f) (F:GD X.prog X.w X.K X.mg X.base CX k f fd ps sp) (hr:Cu k X.A) (hb:Binds X.K fd ps ds) (hd:Vals dvs ds) (hx:Passes CX X E) (ha:PA X (e::es) t)
  (hst:starEach (e::es) X.env=(false,eval e X.env)::starEach es X.env:=by rfl) (hpl:(backTo pos (starEach es X.env)).any (·.1)=false:=by rfl)
  (ht:eval (.Call (.Attribute o m apos) (e::es) [] pos) X.env=(do
   let ov <-eval o X.env
   standAt apos.atName
   let (f,first) <-holding [ov] (getMethod ov m pl)
   callWith pos f first (backTo pos (starEach (e::es) X.env)) (backToKw pos (keywordEach [] X.env))):=by rfl) :
  PE X (.Call (.Attribute o m apos) (e::es) [] pos) (V1 C m sp dvs E ta t):=by
 intro pins s σ H Q I h
 refine methodCall_KW (pl:=pl) (thn (he pins s σ H _ I h) λu s1 ⟨x,H1,I1,rx,a,dx,fs,ex,ea,l,q⟩=>?_) ht
 subst ex
 obtain rfl:u=Value.ref a:=rx
 refine Lw I1 ea c hm l ?_
 refine callWith_K (first:=[.ref a]) (h₀:=X.base) I.ok.mod.kin hm.kp (thn (ha pos pins s1 σ H1 _ I1 q) λus s2 ⟨vs,H2,I2,r,q2⟩=>⟨I2.kIn,?_⟩) hst hpl
 exact W8 (us:=.ref a::us) (vs:=.ref a::vs) F hr hb hd hx I2 (.cons rfl r) q2
theorem lM {pl:Sem Bool} (he:PE X o ta) (c:Cls X.K C) (hm:Meth X.K C m f) (F:GD X.prog X.w X.K X.mg X.base CX k f fd ps sp) (hr:Cu k X.A) (hb:Binds X.K fd ps ds) (hd:Vals dvs ds) (hx:Passes CX X E)
  (ht:eval (.Call (.Attribute o m apos) [] [] pos) X.env=(do
   let ov <-eval o X.env
   standAt apos.atName
   let (f,first) <-holding [ov] (getMethod ov m pl)
   callWith pos f first (backTo pos (starEach [] X.env)) (backToKw pos (keywordEach [] X.env))):=by rfl) :
  PE X (.Call (.Attribute o m apos) [] [] pos) (V1 C m sp dvs E ta bh):=by
 intro pins s σ H Q I h
 refine methodCall_KW (pl:=pl) (thn (he pins s σ H _ I h) λu s1 ⟨x,H1,I1,rx,a,dx,fs,ex,ea,l,q⟩=>?_) ht
 subst ex
 obtain rfl:u=Value.ref a:=rx
 refine Lw I1 ea c hm l ?_
 exact PySem.W.callWith_K0 (first:=[.ref a]) I1.kIn hm.kp (W8 (us:=[.ref a]) (vs:=[.ref a]) F hr hb hd hx I1 (.cons rfl .nil) q)
structure Mk (K:PySem.W.Frag) (C f:Addr):Prop where
 makes:PySem.W.makesIn K C=true
 init:findIn K (.ref C) "__init__"=some (some (.ref f))
 fn:isFn K (.ref f)=true
 kp:keepIn K (.ref C)=true
theorem kZ {pins:List (Addr×Obj)} {σ : St} {H:Hp} {s:Shared} {Q:VK} {us:List Value} {vs:List V} (M:Mk X.K C f) (F:GD X.prog X.w X.K X.mg X.base CX k f fd ps sp) (hr:Cu (k+1) X.A) (hb:Binds X.K fd ps ds) (hd:Vals dvs ds)
  (hx:Passes CX X E) (I:Inv X pins σ H s) (r:Vals vs us)
  (h:∀x dx,H x=none->H dx=none->dx≠x->sp (.ref x::(vs++dvs)) (upd (upd H dx (.own x)) x (.ins C dx [])) (λv H2=>v=.non/\Q (.ref x) H2) E) :
  wpAny (model X.prog X.w) X.A (call (.ref C) us) (EP X pins σ Q) X.xe s:=by
 have hq:=h (s.heap.objs.size+1) s.heap.objs.size (I.hok.fresh (Nat.le_succ _)) (I.hok.fresh (Qcq _)) (Qcj (Qby _))
 have I2:=Inv.made (C:=C) I
 have r2:Vals (V.ref (s.heap.objs.size+1)::(vs++dvs)) (Value.ref (s.heap.objs.size+1)::(us++ds)):=.cons rfl (r.append hd)
 have hl:(Value.ref (s.heap.objs.size+1)::us++ds).length=ps.length:=by
  have e:=r2.length
  rw[F.len _ _ _ _ hq] at e
  exact e.symm
 refine wpAny_call (mX (f:=f) I.kIn M.makes M.init (beq_iff_eq.mp M.fn) (Qcp (F.run _ X.stack _ _ ⟨Value.ref (s.heap.objs.size+1)::us,[]⟩ (Value.ref (s.heap.objs.size+1)::(us++ds)) _ _ E (hr.make C us [])
  (I2.env0.make C us []) (hb _ (Value.ref (s.heap.objs.size+1)::us) I2.kIn hl) r2 hq) λr s' hq'=>?_))
 cases r with
 | error e=>exact hx pins σ _ _ e s' I2 hq'
 | ok fl=>
  cases fl with
  | ret u=>
   obtain⟨v,H',I3,rv,ev,q3⟩:=I2.after hq'
   subst ev
   exact⟨rv,⟨V.ref (s.heap.objs.size+1),H',I3,rfl,q3⟩⟩
  | next=>exact False.elim hq'
  | brk=>exact False.elim hq'
  | cont=>exact False.elim hq'
theorem su (M:Mk X.K C f) (F:GD X.prog X.w X.K X.mg X.base CX k f fd ps sp) (hr:Cu (k+1) X.A) (hg:Gl X x) (hm:X.mg x=some (.ref C)) (hb:Binds X.K fd ps ds) (hd:Vals dvs ds) (hx:Passes CX X E)
  (ha:PA X (e::es) t) (hdb:(x == ("__debug__":Str))=false:=by decide) (he:starEach (e::es) X.env=(false,eval e X.env)::starEach es X.env:=by rfl) (hpl:(backTo pos (starEach es X.env)).any (·.1)=false:=by rfl) :
  PE X (.Call (.Name x p) (e::es) [] pos) (qy C sp dvs E t):=by
 intro pins s σ H Q I h
 refine Qbc (Mg I hg hm ?_ hdb)
 refine callWith_K (h₀:=X.base) I.ok.mod.kin M.kp (thn (ha pos pins s σ H _ I h) λus s1 ⟨vs,H1,I1,r,q⟩=>⟨I1.kIn,?_⟩) he hpl
 exact kZ M F hr hb hd hx I1 r q
end
def PK (X:Cx) (kws:List Keyword) (t:TA):Prop:=
 ∀(pos:Pos) (pins:List (Addr×Obj)) (s:Shared) (σ : St) (H:Hp) (Q:List V->Hp->Prop),Inv X pins σ H s->t σ H Q->wpAny (model X.prog X.w) X.A (evalAll ((backToKw pos (keywordEach kws X.env)).map (·.2))) (AP X pins σ Q) X.xe s
section
variable {X:Cx} {CX:CXT} {k:Nat} {f C:Addr} {fd:FuncData} {ps ks:List Str} {sp:Sp} {E:XK} {x m:Str} {p pos apos kpos:Pos} {e o:Expr} {es:List Expr} {kws:List Keyword} {te ta:TE} {t tk:TA} {nm:Option Str}
theorem vX:PK X [] bh:=λ_ _ _ _ H Q I h=>wpAny_evalAll_nil ⟨[],H,I,.nil,h⟩
theorem rY (ha:PE X e te) (hr:PK X kws t):PK X (⟨nm,e,kpos⟩::kws) (qz te t):=by
 intro pos pins s σ H Q I h
 show wpAny _ _ (evalAll ((do let v <-eval e X.env;standAt pos;pure v)::(backToKw pos (keywordEach kws X.env)).map (·.2))) _ _ s
 refine wpAny_evalAll_cons (Qcv (thn (ha pins s σ H _ I h) λu s1 ⟨x,H1,I1,r1,q1⟩=>Qcv (Qce (Qcw ?_))))
 exact thn (hr pos pins s1 σ H1 _ I1 q1) λus s2 ⟨xs,H2,I2,r2,q2⟩=>⟨x::xs,H2,I2,.cons r1 r2,q2⟩
variable {g:List Value->List Value->List Value} {gV:List V->List V->List V}
end
structure Ba (N P:List Str) (sc:Scope):Prop where
 kind:sc.kind=.function
 co:sc.isCoroutine=false
 gen:sc.isGenerator=false
 nd:N.Nodup
 pre:N.take P.length=P
 par:∀x∈P,sc.names.lookup x=some .local\/sc.names.lookup x=some .cell
 XC:∀y∈sc.names,y.2≠.free
theorem Vr {kindOf:Str->Option NameKind} {x:Str}:∀{binds:List (Str×Value)} {m:Str->Option Value},(∀v,(x,v)∉binds)->bindL kindOf binds m x=m x
 | [],_,_=>rfl
 | (n,v)::r,m,h=>by
  unfold bindL
  rw[Vr λw hw=>h w (QaE _ hw)]
  split
  ·have:x≠n:=by rintro rfl;exact h v QaR
   simp[this]
  ·rfl
theorem Vt {kindOf:Str->Option NameKind} {x:Str}:∀{binds:List (Str×Value)} {m:Str->Option Value},(∀v,(x,v)∉binds)->bindC kindOf binds m x=m x
 | [],_,_=>rfl
 | (n,v)::r,m,h=>by
  unfold bindC
  rw[Vt λw hw=>h w (QaE _ hw)]
  split
  ·rfl
  ·have:x≠n:=by rintro rfl;exact h v QaR
   simp[this]
theorem Vs {kindOf:Str->Option NameKind} {x:Str} {v:Value}:∀{P:List Str} {vs:List Value} {i:Nat} {m:Str->Option Value},P.Nodup->P[i]?=some x->vs[i]?=some v->kindOf x=some .local ->
  bindL kindOf (P.zip vs) m x=some v
 | [],_,_,_,_,h,_,_=>by simp at h
 | _::_,[],_,_,_,_,h,_=>by simp at h
 | p::P,w::vs,0,m,nd,h1,h2,hk=>by
  simp at h1 h2;subst h1;subst h2
  show bindL kindOf ((p,w)::P.zip vs) m p=_
  unfold bindL
  rw[Vr λv hv=>(QbJ.mp nd).1 (List.of_mem_zip hv).1,if_pos hk]
  simp
 | p::P,w::vs,i+1,m,nd,h1,h2,hk=>by
  show bindL kindOf ((p,w)::P.zip vs) m x=_
  unfold bindL
  exact Vs (i:=i) (QbJ.mp nd).2 (by simpa using h1) (by simpa using h2) hk
theorem Vu {kindOf:Str->Option NameKind} {x:Str} {v:Value}:∀{P:List Str} {vs:List Value} {i:Nat} {m:Str->Option Value},P.Nodup->P[i]?=some x->vs[i]?=some v->kindOf x≠some .local ->
  bindC kindOf (P.zip vs) m x=some v
 | [],_,_,_,_,h,_,_=>by simp at h
 | _::_,[],_,_,_,_,h,_=>by simp at h
 | p::P,w::vs,0,m,nd,h1,h2,hk=>by
  simp at h1 h2;subst h1;subst h2
  show bindC kindOf ((p,w)::P.zip vs) m p=_
  unfold bindC
  rw[Vt λv hv=>(QbJ.mp nd).1 (List.of_mem_zip hv).1,if_neg hk]
  simp
 | p::P,w::vs,i+1,m,nd,h1,h2,hk=>by
  show bindC kindOf ((p,w)::P.zip vs) m x=_
  unfold bindC
  exact Vu (i:=i) (QbJ.mp nd).2 (by simpa using h1) (by simpa using h2) hk
def start (N:List Str) (vs:List V):St:=vs.map some++List.replicate (N.length - vs.length) none
def Lf (CX:CXT) (P:Program) (w:World) (K:PySem.W.Frag) (mg:Str->Option Value) (base:Heap) (N:List Str) (qual:Str) (scope:Scope) (f:Addr) (cd:Value) (A:Around) (outer:List Env) (s:Shared) (H:Hp) (E:XK):Cx where
 prog:=P
 w:=w
 K:=K
 mg:=mg
 base:=base
 A:=A.deeper (envOfC qual scope s.heap.objs.size f cd)
 N:=N
 s₀:=s
 H₀:=H
 env:=envOfC qual scope s.heap.objs.size f cd
 outer:=outer
 stack:=envOfC qual scope s.heap.objs.size f cd::outer
 ex:=[]
 calm:=true
 fn:=λ_=>true
 pn:=[]
 xe:=λe s'=>wpAny (model P w) (A.deeper (envOfC qual scope s.heap.objs.size f cd)) (leaving (envOfC qual scope s.heap.objs.size f cd) e) (λ_ s''=>CX outer H s E e s'') (λe' s''=>CX outer H s E e' s'') s'
theorem Yq {sc:Scope} {n:Nat} {x:Str} (h:sc.names.lookup x=some .cell):∃c,(cellsFrom n sc.names []).lookup x=some c:=by
 have q:=PySem.W.cellsFrom_some sc.names n [] (.inl h)
 exact Option.isSome_iff_exists.mp q
theorem Vj {CX:CXT} {P:Program} {w:World} {K:PySem.W.Frag} {mg:Str->Option Value} {base:Heap} {N ps:List Str} {qual:Str} {scope:Scope} {f:Addr} {cd:Value} {A:Around} {outer:List Env} {s s1:Shared} {H:Hp} {E:XK} {us:List Value} {vs:List V}
  (S:Ba N ps scope) (hd:A.handled=none) (e0:Li P w K mg base A outer s H) (hl:vs.length=ps.length) (r:Vals vs us)
  (x:InCallC s s.heap.objs.size (bindL (envOfC qual scope s.heap.objs.size f cd).kindOf (ps.zip us) λ_=>none) (cellsFrom (s.heap.objs.size+1) scope.names []) (bindC (envOfC qual scope s.heap.objs.size f cd).kindOf (ps.zip us) λ_=>none) s1) :
  Inv (Lf CX P w K mg base N qual scope f cd A outer s H E) [] (start N vs) H s1:=by
 have hpl:ps.length<=N.length:=by have:=congrArg List.length S.pre;rw[Qbs] at this;omega
 obtain⟨h1,tk,rfl,hk⟩:=x.done
 have noA:∀b:Addr,b∉(Lf CX P w K mg base N qual scope f cd A outer s H E).ex:=λb z=>absurd (show b∈([]:List Addr) from z) (by simp)
 refine⟨⟨e0.mod,S.kind,rfl,rfl,Qcq _,λy z c h1 h2=>?_,λy hy=>?_,λy c _ h=>?_,λ_=>hd,Around.frames_deeper e0.frames,.inr ⟨rfl,rfl⟩,λb z=>absurd z (noA b),e0.bs,e0.bsz,λb _ _=>noA b,λb z=>absurd z (noA b),e0.Gy,e0.frf⟩,
  rfl,e0.bare,Un.kept hk,⟨_,x.toInCall.ns,λi y v h1 h2 h3=>?_⟩,λy c h=>⟨_,x.cell y c h⟩,e0.hok.fresh (Qcq _),λy c h=>?_,λp hp=>absurd (show p∈([]:List (Addr×Obj)) from hp) (by simp),e0.hok.kept hk,?_⟩
 ·exact name_of_addr x.apart (QaO h1) (QaO h2)
 ·have hy:scope.names.lookup y=some .cell\/scope.names.lookup y=some .free:=hy
  rcases hy with hy | hy
  ·exact Yq hy
  ·exact absurd rfl (S.XC _ (QaO hy))
 ·exact Qcn (x.above y c (QaO h))
 ·have hi:i < vs.length:=by
   unfold start at h2
   by_cases hi:i < vs.length
   ·exact hi
   ·rw[List.getElem?_append_right (by simpa using hi)] at h2
    rw[List.getElem?_replicate] at h2
    split at h2 <;> cases h2
  have ha:vs[i]?=some v:=by
   unfold start at h2
   rw[List.getElem?_append_left (by simpa using hi),Qbi] at h2
   cases e:vs[i]? with
   | none=>rw[e] at h2;cases h2
   | some a=>rw[e] at h2;cases h2;rfl
  obtain⟨u,hu,rv⟩:=r.get ha
  have hp:ps[i]?=some y:=by
   rw[<-S.pre,List.getElem?_take_of_lt (by omega)];exact h1
  have ndP:ps.Nodup:=by rw[<-S.pre];exact S.nd.sublist (List.take_sublist _ _)
  refine⟨u,rv,?_⟩
  rcases S.par y (QaD hp) with k | k
  ·exact .inl ⟨k,Vs ndP hp hu k⟩
  ·obtain⟨c,e⟩:=Yq (n:=s.heap.objs.size+1) k
   refine .inr ⟨.inl k,c,e,?_⟩
   have q:=x.cell y c e
   rw[Vu ndP hp hu (by show scope.names.lookup y≠_;rw[k];decide)] at q
   exact q
 ·exact e0.hok.fresh (Qcn (x.above y c (QaO h)))
 ·unfold start
  show _=N.length
  rw[QaQ,QbB,List.length_replicate]
  omega
theorem qR {CX:CXT} {P:Program} {w:World} {K:PySem.W.Frag} {mg:Str->Option Value} {base:Heap} {k:Nat} {f:Addr} {name qual:Str} {params:Arguments} {body:List Stmt} {scope:Scope} {dV kV doc pm cdv ct oc:Value} {an od:Option Addr}
  {osl:Array (Option Value)} {N ps:List Str} {sp:Sp} (lk:K.lookup f=some ⟨oc,od,.func (fnOf name qual params body scope dV kV doc pm an cdv ct),osl⟩) (hcd:codeIn K cdv qual=true) (S:Ba N ps scope)
  (len:∀vs H Q E,sp vs H Q E->vs.length=ps.length)
  (hbody:∀(A:Around) (outer:List Env) (s:Shared) (H:Hp) (vs:List V) (Q:VK) (E:XK),Cu k (A.deeper (envOfC qual scope s.heap.objs.size f cdv))->sp vs H Q E ->
   ∃t,PSs (Lf CX P w K mg base N qual scope f cdv A outer s H E) body t/\t { nx:=λ_ H'=>Q .non H',rt:=Q } (start N vs) H) :
  GD P w K mg base CX (k+1) f (fnOf name qual params body scope dV kV doc pm an cdv ct) ps sp:=by
 refine⟨len,λA outer s H args us vs Q E hr e0 hb r hsp=>?_⟩
 have hl:=len _ _ _ _ hsp
 have KX:K.In s.heap:=e0.mod.kin.keeps λb o e=>(e0.bs b o e).1
 have lim:s.heap.NoLimit:=e0.mod.nolimit.keeps λb o e=>(e0.bs b o e).1
 have hkind:∀y∈ps.zip us,scope.names.lookup y.1=some .local\/(scope.names.lookup y.1=some .cell/\((cellsFrom (s.heap.objs.size+1) scope.names []).lookup y.1).isSome=true):=λ⟨n,v⟩ hy=>by
  rcases S.par n (List.of_mem_zip hy).1 with q | q
  ·exact .inl q
  ·exact .inr ⟨q,PySem.W.cellsFrom_some _ _ _ (.inl q)⟩
 refine codeAny_call_function hr.depth (KX _ _ lk) rfl S.co S.gen rfl (PySem.W.codeRec_of KX hcd) (hb _ _ _ _ ?_)
 refine wpAny_newFunctionEnv_cells S.kind hkind λenv he s1 x=>?_
 subst he
 refine⟨lim.keeps x.toInCall.keep,codeAny_func ?_⟩
 obtain⟨t,ht,hq⟩:=hbody A outer s H vs Q E (hr.deeper _) hsp
 have I:Inv (Lf CX P w K mg base N qual scope f cdv A outer s H E) [] (start N vs) H s1:=Vj S hr.hd e0 hl r x
 refine Qcx (ht [] s1 (start N vs) H _ I hq) (λfl s' hs=>?_) λe s' hs=>hs
 have fin:∀{σ':St} {H':Hp} {v:V} {u:Value},Inv (Lf CX P w K mg base N qual scope f cdv A outer s H E) [] σ' H' s'->RelV v u->Q v H'->CE outer P w H s Q u s':=
  λ{σ' H' v u} J rv q=>⟨v,H',J.os,J.bare,J.base,J.hok,rv,q⟩
 cases fl with
 | ret u=>
  obtain⟨v,σ',H',J,rv,q⟩:=hs
  exact fin J rv q
 | next=>
  obtain⟨σ',H',J,q⟩:=hs
  exact fin (v:=V.non) (u:=Value.none) J rfl q
 | brk=>
  obtain⟨_,_,_,q⟩:=hs
  exact False.elim q
 | cont=>
  obtain⟨_,_,_,q⟩:=hs
  exact False.elim q
section
variable {X:Cx} {x:Str} {p pos:Pos} {e:Expr} {es:List Expr} {t:TA} {id T:String} {r:List V->Hp->VK->Prop}
def tCB (r:List V->Hp->VK->Prop) (t:TA):TE:=fun σ H Q=>t σ H λvs H1=>r vs H1 Q
theorem Aw (hc:Eb X (.builtin id) r) (hg:Gl X x) (hm:X.mg x=none) (hv:bootBuiltins x=some (.builtin id)) (ha:PA X (e::es) t) (hn:x≠"__name__":=by decide) (hdb:(x == ("__debug__":Str))=false:=by decide)
  (he:starEach (e::es) X.env=(false,eval e X.env)::starEach es X.env:=by rfl) (hpl:(backTo pos (starEach es X.env)).any (·.1)=false:=by rfl):PE X (.Call (.Name x p) (e::es) [] pos) (tCB r t):=by
 intro pins s σ H Q I h
 refine Qbc (K8 I hg hm hv ?_ hn hdb)
 exact PyProof.Rows.callWith_builtin1 (thn (ha pos pins s σ H _ I h) λus s1 ⟨vs,H1,I1,r1,q1⟩=>hc pins s1 σ H1 vs us Q I1 r1 q1) he hpl
theorem EY (hc:Eb X (.type T) r) (hg:Gl X x) (hm:X.mg x=none) (hv:bootBuiltins x=some (.type T)) (ha:PA X (e::es) t) (hn:x≠"__name__":=by decide) (hdb:(x == ("__debug__":Str))=false:=by decide)
  (he:starEach (e::es) X.env=(false,eval e X.env)::starEach es X.env:=by rfl) (hpl:(backTo pos (starEach es X.env)).any (·.1)=false:=by rfl):PE X (.Call (.Name x p) (e::es) [] pos) (tCB r t):=by
 intro pins s σ H Q I h
 refine Qbc (K8 I hg hm hv ?_ hn hdb)
 exact Qae (thn (ha pos pins s σ H _ I h) λus s1 ⟨vs,H1,I1,r1,q1⟩=>hc pins s1 σ H1 vs us Q I1 r1 q1) he hpl
end
end L2
namespace HT
open PySem PyProof.Rows
section
open PySem.SeqAt
open PySem.AutoSeq1 (wpAny_loadPart')
open PySem.MeetsSeq PySem.MeetsSeq2 PySem.MeetsSeq3
end
section
variable {prog:Program} {w:World} {A:Around} {E:Value->Shared->Prop} {s:Shared}
theorem uE {t b:Addr} {vs ws:List Value} {Q:Value->Shared->Prop} (ht:IsTup s.heap t vs.toArray) (hb:IsTup s.heap b ws.toArray) (hv:vs≠[])
  (h1:ws=[]->Q (.ref t) s) (h2:ws≠[]->Q (.ref s.heap.objs.size) { s with heap:=s.heap.push { cls:=.type "tuple",data:=.seq (vs++ws).toArray } })
  (hsz:vs.length+ws.length<=sizeLine):wpAny (model prog w) A (binaryOp .Add (.ref t) (.ref b)) Q E s:=by
 obtain⟨⟨cls,dd,data,sl⟩,ho,hc,n,hd⟩:=id ht
 obtain⟨⟨cls2,dd2,data2,sl2⟩,ho2,hc2,n2,hd2⟩:=id hb
 simp only at hc hd hc2 hd2
 subst hc hd hc2 hd2
 have e:vs.toArray++ws.toArray=(vs++ws).toArray:=by simp
 by_cases hw:ws=[]
 ·exact concat_meets ⟨_,ho,rfl⟩ ⟨_,ho2,rfl⟩ noFill_tuple_add seq_tuple_add PySem.F.slot_tuple_add PySem.F.entry_tuple_add (PySem.F.args_tuple_add_2 _ _)
   (tuple_addW1 t b vs.toArray ws.toArray n n2 dd dd2 sl sl2 (by simpa using hv) (by simp[hw])) ⟨ho,ho2,h1 hw⟩
 ·refine concat_meets ⟨_,ho,rfl⟩ ⟨_,ho2,rfl⟩ noFill_tuple_add seq_tuple_add PySem.F.slot_tuple_add PySem.F.entry_tuple_add (PySem.F.args_tuple_add_2 _ _)
   (tuple_addW2 t b vs.toArray ws.toArray n n2 dd dd2 sl sl2 (by simpa using hv) (by simpa using hw) (by rw[Qbg,Qbg];exact hsz)) ⟨ho,ho2,?_⟩
  rw[e]
  exact h2 hw
def sIx (n d:Nat):Option Int->Nat
 | none=>d
 | some v=>if v < 0 then (v+(n:Int)).toNat else min v.toNat n
theorem W2 (n d:Nat):sIx n d none=d:=rfl
theorem ZS (n d k:Nat):sIx n d (some (k:Int))=min k n:=by
 show (if (k:Int) < 0 then ((k:Int)+(n:Int)).toNat else min (k:Int).toNat n)=min k n
 rw[if_neg (by omega),Qbk]
theorem vM (n d:Nat) (hd:d<=n) (o:Option Int):sIx n d o<=n:=by
 cases o with
 | none=>exact hd
 | some v=>
  show (if v < 0 then (v+(n:Int)).toNat else min v.toNat n)<=n
  by_cases hv:v < 0
  ·rw[if_pos hv];omega
  ·rw[if_neg hv];exact Nat.min_le_right _ _
theorem aK (v:Int) (n d:Nat):(if v < 0 then max (v+(n:Int)) 0 else min v (n:Int))=((sIx n d (some v):Nat):Int):=by
 show (if v < 0 then max (v+(n:Int)) 0 else min v (n:Int))=(((if v < 0 then (v+(n:Int)).toNat else min v.toNat n):Nat):Int)
 by_cases hv:v < 0
 ·simp only[if_pos hv];omega
 ·simp only[if_neg hv];omega
theorem dM (lo hi:Option Int) (n:Nat):Builtin.Slice.sliceAdjust lo hi 1 (n:Int)=(((sIx n 0 lo:Nat):Int),((sIx n n hi:Nat):Int)):=by
 have h1:¬((1:Int) < 0):=by omega
 unfold Builtin.Slice.sliceAdjust
 simp only[h1,if_false]
 refine Prod.ext ?_ ?_
 ·cases lo with
  | none=>rfl
  | some v=>exact aK v n 0
 ·cases hi with
  | none=>rfl
  | some v=>exact aK v n n
theorem bO (i j:Nat):Builtin.Slice.slicePlaces (i:Int) (j:Int) 1=j - i:=by
 unfold Builtin.Slice.slicePlaces
 have h1:(1:Int) > 0:=by omega
 simp only[h1,if_true,Int.ediv_one]
 split <;> omega
theorem SX {v:Value} {o:Option Int} {Q:Option Int->Shared->Prop} (p:IsPart v o) (h:Q o s):wpAny (model prog w) A (Builtin.Slice.slicePartIndex v) Q E s:=by
 cases p with
 | none=>exact slicePart_none h
 | int i t=>exact slicePart_int h
theorem Mr {sl:Addr} {vl vu:Value} {lo hi:Option Int} {n:Nat} {Q:Int×Int×Nat->Shared->Prop} (hs:s.heap.IsSliceOf sl vl vu .none) (pl:IsPart vl lo) (pu:IsPart vu hi)
  (h:Q (((sIx n 0 lo:Nat):Int),1,sIx n n hi - sIx n 0 lo) s):wpAny (model prog w) A (Builtin.Slice.sliceApplied (.ref sl) (pure (n:Int))) Q E s:=by
 obtain⟨os,hos,hcs,hds⟩:=id hs
 unfold Builtin.Slice.sliceApplied Builtin.Slice.sliceFields
 refine Qcv (Qcv (Qct hos hds (x:=vl) rfl (Qcv (Qct hos hds (x:=vu) rfl (Qcv (Qct hos hds (x:=.none) rfl (Qcw ?_)))))))
 refine Qcv (slicePart_none ?_)
 show wpAny _ _ (if ((1:Int) == 0)=true then _ else _) _ _ s
 rw[if_neg (by decide)]
 refine Qcv (SX pl (Qcv (SX pu (Qcv (Qcw ?_)))))
 show wpAny _ _ (match Builtin.Slice.sliceAdjust lo hi 1 (n:Int) with | (lo,hi)=>pure (lo,(1:Int),Builtin.Slice.slicePlaces lo hi 1)) _ _ s
 rw[dM lo hi n]
 show wpAny _ _ (pure (((sIx n 0 lo:Nat):Int),(1:Int),Builtin.Slice.slicePlaces ((sIx n 0 lo:Nat):Int) ((sIx n n hi:Nat):Int) 1)) _ _ s
 rw[bO]
 exact Qcw h
theorem lH (xs:Array Value) (i k:Nat):((List.range k).filterMap λ(m:Nat)=>xs[((i:Int)+(m:Int)*1).toNat]?).toArray=((xs.toList.drop i).take k).toArray:=by
 have e:(λ(m:Nat)=>xs[((i:Int)+(m:Int)*1).toNat]?)=λm=>xs[i+m]?:=by
  funext m
  have:((i:Int)+(m:Int)*1).toNat=i+m:=by omega
  rw[this]
 rw[e]
 have:=pick_run xs i k
 rw[List.filterMap_map] at this
 have e2:((λx=>xs[x]?) ∘ λx=>i+x)=λm=>xs[i+m]?:=rfl
 rw[e2] at this
 rw[this]
theorem Ri {t sl:Addr} {items:Array Value} {vl vu:Value} {lo hi:Option Int} {Q:Value->Shared->Prop} (ht:IsTup s.heap t items) (hs:s.heap.IsSliceOf sl vl vu .none) (pl:IsPart vl lo) (pu:IsPart vu hi)
  (hw:¬(sIx items.size 0 lo=0/\sIx items.size items.size hi=items.size))
  (h:Q (.ref s.heap.objs.size) { s with heap:=s.heap.push { cls:=.type "tuple",data:=.seq ((items.toList.drop (sIx items.size 0 lo)).take (sIx items.size items.size hi - sIx items.size 0 lo)).toArray } })
  (hsz:items.size<=sizeLine):wpAny (model prog w) A (getItem (.ref t) (.ref sl)) Q E s:=by
 have V9:sizeOk (.seq ((items.toList.drop (sIx items.size 0 lo)).take (sIx items.size items.size hi - sIx items.size 0 lo)).toArray):=by
  show ((items.toList.drop (sIx items.size 0 lo)).take (sIx items.size items.size hi - sIx items.size 0 lo)).toArray.size<=sizeLine
  rw[Qbg,Qbs,Qbx,QaK]
  omega
 have hj:sIx items.size items.size hi<=items.size:=vM _ _ (Qcq _) hi
 obtain⟨os,hos,hcs,hds⟩:=id hs
 have hTs:s.TypeIs (.ref sl) "slice":=⟨os,hos,hcs⟩
 unfold getItem
 try with_reducible refine Qcc ?_
 first | refine Qcv (Qcw ?_) | skip
 refine Qcv (wpAny_sequenceKey ht.typeIs (by decide) ?_)
 refine Qcv (Qar (name:=Str.ofString "__getitem__") ht.typeIs Qab
  (Qbv Qab ht.typeIs entry_tuple_getitem ?_ (args_tuple_getitem _ _)))
 show wpAny _ _ (Builtin.Tuple.tupleItemsOf (.ref t) >>= _) _ _ s
 refine Qcv (tupleItemsOf_ ht ?_)
 refine Qcv (wpAny_typeOf hTs ?_)
 rw[if_pos (by decide)]
 refine Qcv (Mr hs pl pu ?_)
 have hno:¬((((sIx items.size 0 lo:Nat):Int) == 0&&(1:Int) == 1&&(sIx items.size items.size hi - sIx items.size 0 lo) == items.size)=true):=by
  intro q
  rw[Qbw,Qbw] at q
  have q1:((sIx items.size 0 lo:Nat):Int)=0:=eq_of_beq q.1.1
  have q2:sIx items.size items.size hi - sIx items.size 0 lo=items.size:=eq_of_beq q.2
  exact hw ⟨by omega,by omega⟩
 show wpAny _ _ (if (((sIx items.size 0 lo:Nat):Int) == 0&&(1:Int) == 1&&(sIx items.size items.size hi - sIx items.size 0 lo) == items.size)=true then _ else _) _ _ s
 rw[if_neg hno,lH]
 first
  | exact Qcv (m:=Builtin.Tuple.tupleExact _) (Qbn (Qcw ⟨_,rfl,Qcw h⟩) V9)
  | exact Qcv (m:=Builtin.Tuple.tupleExact _) (Qbn (Qcv (Qcw (Qcw ⟨_,rfl,Qcw h⟩))) V9)
  | exact Qcv (Qcv (m:=Builtin.Tuple.tupleExact _) (Qbn (Qcw (Qcw ⟨_,rfl,Qcw h⟩)) V9))
  | exact Qcv (Qcv (m:=Builtin.Tuple.tupleExact _) (Qbn (Qcw ⟨_,rfl,Qcw h⟩) V9))
end
end HT
namespace L2
open PySem PySem.Spec PyProof.Rows
abbrev TO:=St->Hp->(Option Int->Hp->Prop)->Prop
def PO (X:Cx) (e:Option Expr) (t:TO):Prop:=
 ∀(pins:List (Addr×Obj)) (s:Shared) (σ : St) (H:Hp) (Q:Option Int->Hp->Prop),Inv X pins σ H s->t σ H Q ->
  wpAny (model X.prog X.w) X.A (evalPart e X.env) (λu s'=>∃o H',Inv X pins σ H' s'/\IsPart u o/\Q o H') X.xe s
def rE:TO:=λ_ H Q=>Q none H
def AE (t:TE):TO:=fun σ H Q=>t σ H λx H1=>∃i,x=.int i/\Q (some i) H1
theorem intsAre_of {ns:List Int}:∀{us:List Value},Vals (ns.map V.int) us->IntsAre us ns:=by
 induction ns with
 | nil=>intro us r;rw[List.map_nil] at r;cases r;exact .nil
 | cons n ns ih=>
  intro us r
  rw[QbZ] at r
  cases r with
  | cons r1 r2=>
   obtain⟨t,e⟩:=r1
   subst e
   exact .cons n t (ih r2)
section
variable {X:Cx} {e:Expr} {te:TE} {lo hi:Option Expr} {tl th:TO} {pos p2:Pos}
theorem Mf:PO X none rE:=by
 intro pins s σ H Q I h
 rw[evalPart_none]
 exact Qcw ⟨none,H,I,.none,h⟩
theorem Ma (h:PE X e te):PO X (some e) (AE te):=by
 intro pins s σ H Q I hw
 rw[evalPart_some]
 refine thn (h pins s σ H _ I hw) λu s1 ⟨x,H1,I1,r1,q1⟩=>?_
 obtain⟨i,rfl,q⟩:=q1
 obtain⟨t,rfl⟩:=r1
 exact⟨some i,H1,I1,.int i t,q⟩
def SlR (X:Cx) (r:V->Option Int->Option Int->Hp->VK->Prop):Prop:=
 ∀(pins:List (Addr×Obj)) (s:Shared) (σ : St) (H:Hp) (x:V) (v vl vu:Value) (lo hi:Option Int) (sl:Addr) (Q:VK),Inv X pins σ H s->RelV x v->s.heap.IsSliceOf sl vl vu .none->IsPart vl lo->IsPart vu hi->r x lo hi H Q ->
  ∃T id,typeLookup (.type T) "__getitem__"=pure (some (.builtin id))/\s.TypeIs v T/\wpAny (model X.prog X.w) X.A (getItem v (.ref sl)) (EP X pins σ Q) X.xe s
def tSl (r:V->Option Int->Option Int->Hp->VK->Prop) (te:TE) (tl th:TO):TE:=fun σ H Q=>te σ H λx H1=>tl σ H1 λl H2=>th σ H2 λu H3=>r x l u H3 Q
theorem Kf {r:V->Option Int->Option Int->Hp->VK->Prop} (hr:SlR X r) (he:PE X e te) (hl:PO X lo tl) (hu:PO X hi th):PE X (.Subscript e (.Slice lo hi none p2) pos) (tSl r te tl th):=by
 intro pins s σ H Q I h
 refine Subscript_ (thn (he pins s σ H _ I h) λv s1 ⟨x,H1,I1,r1,q1⟩=>?_)
 refine wpAny_Slice (thn (hl pins s1 σ H1 _ I1 q1) λvl s2 ⟨l,H2,I2,pl,q2⟩=>thn (hu pins s2 σ H2 _ I2 q2) λvu s3 ⟨u,H3,I3,pu,q3⟩=>?_)
 rw[evalPart_none]
 refine Qcw ?_
 have I4:Inv X pins σ H3 { s3 with heap:=s3.heap.push { cls:=.type "slice",data:=.fields #[vl,vu,.none] } }:=I3.kept (t':=s3.toks) λb ob q=>Qav _ q
 obtain⟨T,id,hT,ht,hg⟩:=hr pins { s3 with heap:=s3.heap.push { cls:=.type "slice",data:=.fields #[vl,vu,.none] } } σ H3 x v vl vu l u s3.heap.objs.size Q I4 r1 (Heap.IsSliceOf.new ..) pl pu q3
 show wpAny (model X.prog X.w) X.A (subscriptTail e (.Slice lo hi none p2) v (.ref s3.heap.objs.size)) (EP X pins σ Q) X.xe { s3 with heap:=s3.heap.push { cls:=.type "slice",data:=.fields #[vl,vu,.none] } }
 exact tail_any (ops:=[.ref s3.heap.objs.size,v]) ht hT hg (by with_unfolding_all rfl)
def Jj (xs:List V) (lo hi:Option Int):List V:=(xs.drop (HT.sIx xs.length 0 lo)).take (HT.sIx xs.length xs.length hi - HT.sIx xs.length 0 lo)
theorem Rv (xs:List V) (lo hi:Option Int):(Jj xs lo hi).length<=xs.length:=by
 unfold Jj
 rw[Qbs,Qbx]
 omega
def DA (K:PySem.W.Frag):V->Option Int->Option Int->Hp->VK->Prop:=λx lo hi H Q=>∃a xs,x=.ref a/\SqT K H a xs /\
 ¬(HT.sIx xs.length 0 lo=0/\HT.sIx xs.length xs.length hi=xs.length)/\∀p,H p=none->Q (.ref p) (upd H p (.tup (Jj xs lo hi)))
theorem vI:SlR X (DA X.K):=by
 intro pins s σ H x v vl vu lo hi sl Q I rx hs pl pu h
 obtain⟨a,xs,rfl,hx,hw,q⟩:=h
 cases rx
 obtain⟨its,r,ht,hz⟩:=I.tuple hx
 have hlen:its.toArray.size=xs.length:=by rw[Qbg];exact r.length.symm
 refine⟨"tuple",_,Qab.lookup,ht.typeIs,?_⟩
 refine HT.Ri ht hs pl pu (by rw[hlen];exact hw) ?_ (by rw[hlen];exact hz)
 rw[hlen]
 refine⟨.ref s.heap.objs.size,_,I.laid (t':=s.toks) (o:=.tup (Jj xs lo hi)) (λb ob q=>Qav _ q) (Qcq _) ?_,rfl,q _ (I.hok.fresh (Qcq _))⟩
 exact⟨Qck (Rv xs lo hi) hz,_,(r.drop (HT.sIx xs.length 0 lo)).take (HT.sIx xs.length xs.length hi - HT.sIx xs.length 0 lo),IsTup.new _ _⟩
def AQ (K:PySem.W.Frag):R2:=λx y H Q=>∃a b xs ys,x=.ref a/\y=.ref b/\SqT K H a xs/\SqT K H b ys/\xs≠[]/\xs.length+ys.length<=sizeLine /\
 (ys=[]->Q (.ref a) H)/\(ys≠[]->∀p,H p=none->Q (.ref p) (upd H p (.tup (xs++ys))))
theorem Vals.Uq {xs:List V} {us:List Value} (r:Vals xs us):us=[] ↔ xs=[]:=by
 cases r with
 | nil=>simp
 | cons _ _=>simp
theorem sI:OpR X (binaryOp .Add) (AQ X.K):=by
 intro pins s σ H x y v u Q I rx ry h
 obtain⟨a,b,xs,ys,rfl,rfl,ha,hb,hx,hz,q1,q2⟩:=h
 cases rx
 cases ry
 obtain⟨its,r1,p1,_⟩:=I.tuple ha
 obtain⟨its2,r2,p2,_⟩:=I.tuple hb
 refine HT.uE p1 p2 (λz=>hx (r1.Uq.mp z)) (λz=>⟨.ref a,H,I,rfl,q1 (r2.Uq.mp z)⟩) (λz=>?_) (by rw[<-r1.length,<-r2.length];exact hz)
 refine⟨.ref s.heap.objs.size,_,I.laid (t':=s.toks) (o:=.tup (xs++ys)) (λb ob q=>Qav _ q) (Qcq _) ?_,rfl,q2 (λw=>z (r2.Uq.mpr w)) _ (I.hok.fresh (Qcq _))⟩
 exact⟨by rw[QaQ];exact hz,_,r1.append r2,IsTup.new _ _⟩
end
def ixN (n:Nat) (i:Int):Option Nat:=if 0<=i then (if i < n then some i.toNat else none) else if -(n:Int)<=i then some (i+n).toNat else none
def atI {α : Type} (xs:List α) (i:Int):Option α:=(ixN xs.length i).bind λj=>xs[j]?
theorem ak {n:Nat} {i:Int} {j:Nat} (h:ixN n i=some j):seqIndex? i n=some j/\j < n/\-(n:Int)<=i/\i < n:=by
 unfold ixN at h
 by_cases h0:0<=i
 ·rw[if_pos h0] at h
  by_cases h1:i < n
  ·rw[if_pos h1] at h
   have e:i.toNat=j:=QbH h
   exact⟨by rw[seqIndex_of h0 h1,e],by omega,by omega,h1⟩
  ·rw[if_neg h1] at h;cases h
 ·rw[if_neg h0] at h
  by_cases h1:-(n:Int)<=i
  ·rw[if_pos h1] at h
   have e:(i+n).toNat=j:=QbH h
   exact⟨by rw[seqIndex_neg (by omega) h1,e],by omega,h1,by omega⟩
  ·rw[if_neg h1] at h;cases h
theorem U0 {α : Type} {xs:List α} {i:Int} {v:α} (h:atI xs i=some v):∃j,seqIndex? i xs.length=some j/\xs[j]?=some v/\j < xs.length/\-(xs.length:Int)<=i/\i < xs.length:=by
 unfold atI at h
 cases e:ixN xs.length i with
 | none=>rw[e] at h;cases h
 | some j=>
  rw[e] at h
  obtain⟨h1,h2,h3,h4⟩:=ak e
  exact⟨j,h1,h,h2,h3,h4⟩
theorem Gz {α : Type} {xs:List α} {j:Nat} {v:α} (h:xs[j]?=some v):atI xs (j:Int)=some v:=by
 have hj:j < xs.length:=(Qah.mp h).1
 have e:ixN xs.length (j:Int)=some j:=by
  unfold ixN
  rw[if_pos (by omega),if_pos (by omega)];simp
 unfold atI;rw[e];exact h
def uK (b:Expr):Prop:=∀o i,subscripted b false o i=operate [o,i] (getItem o i)
def IxR (X:Cx) (r:R2):Prop:=
 ∀(value slice:Expr) (pins:List (Addr×Obj)) (s:Shared) (σ : St) (H:Hp) (x y:V) (v u:Value) (Q:VK),Inv X pins σ H s->RelV x v->RelV y u->r x y H Q ->
  subscripted slice false v u=operate [v,u] (getItem v u)->wpAny (model X.prog X.w) X.A (subscriptTail value slice v u) (EP X pins σ Q) X.xe s
def MtR (X:Cx) (id:String) (r:V->List V->Hp->VK->Prop):Prop:=
 ∀(pins:List (Addr×Obj)) (s:Shared) (σ : St) (H:Hp) (x:V) (xs:List V) (v:Value) (us:List Value) (Q:VK),Inv X pins σ H s->RelV x v->Vals xs us->r x xs H Q ->
  wpAny (model X.prog X.w) X.A (call (.builtin id) (v::us)) (EP X pins σ Q) X.xe s
section
variable {X:Cx} {a b:Expr} {ta tb:TE} {pos:Pos}
theorem Bq {r:R2} (hr:IxR X r) (ha:PE X a ta) (hb:PE X b tb) (hs:uK b):PE X (.Subscript a b pos) (tOp r ta tb):=by
 intro pins s σ H Q I h
 exact Subscript_ (pY ha hb I h λv u s2 x y H2 I2 rx ry q=>hr a b pins s2 σ H2 x y v u Q I2 rx ry q (hs _ _))
def DF (K:PySem.W.Frag):R2:=λx y H Q=>∃p xs i v,x=.ref p/\y=.int i/\SqL K H p xs/\atI xs i=some v/\Q v H
def vP (K:PySem.W.Frag):R2:=λx y H Q=>∃p xs i v,x=.ref p/\y=.int i/\SqT K H p xs/\atI xs i=some v/\Q v H
def DE:R2:=λx y H Q=>∃z i c,x=.str z/\y=.int i/\z.length<=sizeLine/\atI z.cps.toList i=some c/\Q (.str ⟨#[c]⟩) H
theorem CG:IxR X (DF X.K):=by
 intro value slice pins s σ H x y v u Q I rx ry h hs
 obtain⟨p,xs,i,z,rfl,rfl,hq,he,q⟩:=h
 cases rx
 obtain⟨t,rfl⟩:=ry
 obtain⟨its,r,pl,hz⟩:=I.list hq
 obtain⟨j,h1,h2,h3,h4,h5⟩:=U0 he
 obtain⟨w,ew,rw'⟩:=r.get h2
 have hl:=r.length
 have hn:=Og
 have fin:EP X pins σ Q w s:=⟨z,H,I,rw',q⟩
 by_cases h0:0<=i
 ·have hj:i.toNat=j:=by
   rw[seqIndex_of h0 h5] at h1
   exact QbH h1
  exact item_listR pl.isList h0 (by omega) (by rw[hj];simpa using ew) fin hs
 ·have hj:(i+(its.toArray.size:Int)).toNat=j:=by
   rw[seqIndex_neg (by omega) h4] at h1
   rw[Qbg,<-hl]
   exact QbH h1
  exact subscriptTail_builtinR (x:=w) pl.isList.typeIs slot_list_getitem.lookup
   (wpAny_getItem_list_neg (Q:=λr s'=>r=w/\EP X pins σ Q r s') pl.isList (by omega) (by rw[Qbg] <;> omega) (by omega) (by rw[hj];simpa using ew) ⟨rfl,fin⟩) hs
theorem Cr:IxR X (vP X.K):=by
 intro value slice pins s σ H x y v u Q I rx ry h hs
 obtain⟨p,xs,i,z,rfl,rfl,hq,he,q⟩:=h
 cases rx
 obtain⟨t,rfl⟩:=ry
 obtain⟨its,r,pl,hz⟩:=I.tuple hq
 obtain⟨j,h1,h2,h3,h4,h5⟩:=U0 he
 obtain⟨w,ew,rw'⟩:=r.get h2
 have hl:=r.length
 have hn:=Og
 have fin:EP X pins σ Q w s:=⟨z,H,I,rw',q⟩
 exact subscriptTail_builtinR (x:=w) pl.typeIs slot_tuple_getitem.lookup
  (getItem_tuple (j:=j) (Q:=λr s'=>r=w/\EP X pins σ Q r s') pl (by omega) (by omega) (by rw[Qbg,<-hl];exact h1) (by simpa using ew) ⟨rfl,fin⟩) hs
theorem wY:IxR X DE:=by
 intro value slice pins s σ H x y v u Q I rx ry h hs
 obtain⟨z,i,c,rfl,rfl,hz,he,q⟩:=h
 obtain⟨t,rfl⟩:=rx
 obtain⟨t',rfl⟩:=ry
 obtain⟨j,h1,h2,h3,h4,h5⟩:=U0 he
 have hl:z.cps.toList.length=z.length:=by simp[Str.length]
 rw[hl] at h1 h4 h5
 have hn:=Og
 exact tail_any (typeIs_str s z t) slot_str_getitem.lookup (getItem_str (c:=c) (by
  have e1:decide (i < -(2 ^ 63:Int))=false:=QbG (by omega)
  have e2:decide (i ≥ 2 ^ 63)=false:=QbG (by omega)
  rw[e1,e2,Qcf]) (by rw[h1];simpa using h2) ⟨.str ⟨#[c]⟩,H,I.tok _,⟨_,rfl⟩,q⟩) hs
theorem cB (its:List Value) (n j:Nat) (u:Value):Obj.mapSeq (·.setIfInBounds j u) { cls:=.type "list",data:=.seq its.toArray n }={ cls:=.type "list",data:=.seq (its.set j u).toArray n }:=by
 simp[Obj.mapSeq]
theorem Inv.lst {pins:List (Addr×Obj)} {σ : St} {H:Hp} {s:Shared} {p:Addr} {xs:List V} (I:Inv X pins σ H s) (h:H p=some (.lst xs)) :
  ∃(its:List Value) (n:Nat),Vals xs its/\s.heap.get? p=some { cls:=.type "list",data:=.seq its.toArray n }/\xs.length<=sizeLine:=by
 obtain⟨z,its,n,r,e⟩:=I.hok p _ h
 exact⟨its,n,r,e,z⟩
theorem Inv.wN {pins:List (Addr×Obj)} {σ : St} {H:Hp} {s:Shared} {p:Addr} {xs ys:List V} {its its':List Value} {n n':Nat} {f:Obj->Obj} (I:Inv X pins σ H s) (h:H p=some (.lst xs))
  (ho:s.heap.get? p=some { cls:=.type "list",data:=.seq its.toArray n }) (hf:f { cls:=.type "list",data:=.seq its.toArray n }={ cls:=.type "list",data:=.seq its'.toArray n' }) (r:Vals ys its') (hz:ys.length<=sizeLine) (t:Nat) :
  Inv X pins σ (upd H p (.lst ys)) { s with heap:=s.heap.update p f,toks:=t }:=by
 have e:(s.heap.update p f).get? p=some { cls:=.type "list",data:=.seq its'.toArray n' }:=by
  rw[QaC f ho (by rw[hf] <;> rfl),hf]
 refine I.write (x:=p) (e:=p) (by rw[h];trivial) (.inl rfl) (λb u hb q=>(Qax _ _ (Ne.symm hb)).trans q) ⟨_,e⟩ ?_
 exact⟨hz,its',n',r,e⟩
def AO:V->V->V->Hp->(Hp->Prop)->Prop:=λo i v H Q=>∃p xs k j,o=.ref p/\i=.int k/\H p=some (.lst xs)/\ixN xs.length k=some j/\Q (upd H p (.lst (xs.set j v)))
theorem set_list:An X AO:=by
 intro pins s σ H o i v ov iv u Q I ro ri rv h
 obtain⟨p,xs,k,j,rfl,rfl,hp,hj,q⟩:=h
 cases ro
 obtain⟨t,rfl⟩:=ri
 obtain⟨its,n,r,ho,hz⟩:=I.lst hp
 obtain⟨h1,h2,h3,h4⟩:=ak hj
 have hl:=r.length
 have hn:=Og
 have I':Inv X pins σ (upd H p (.lst (xs.set j v))) { s with heap:=s.heap.update p (Obj.mapSeq (·.setIfInBounds j u)) }:=
  I.wN hp ho (cB its n j u) (r.set rv j) (by rw[List.length_set];exact hz) s.toks
 by_cases h0:0<=k
 ·have hk:k.toNat=j:=by
   rw[seqIndex_of h0 h4] at h1
   exact QbH h1
  exact PySem.W.ki_setAt ho h0 (by omega) (by rw[Qbg,<-hl];exact h4) (by rw[hk];exact⟨_,I',q⟩)
 ·have hk:(k+(its.toArray.size:Int)).toNat=j:=by
   rw[seqIndex_neg (by omega) h3] at h1
   rw[Qbg,<-hl]
   exact QbH h1
  exact PySem.W.ki_setBack ho (by omega) (by rw[Qbg,<-hl];exact h3) (by omega) (by rw[hk];exact⟨_,I',q⟩)
theorem WL (lo hi:Option Int) (n:Nat):(sliceBounds lo hi none n).1=((HT.sIx n 0 lo:Nat):Int)/\(sliceBounds lo hi none n).2.1=((HT.sIx n n hi:Nat):Int)/\(sliceBounds lo hi none n).2.2=1:=by
 refine⟨?_,?_,rfl⟩
 ·cases lo with
  | none=>simp[sliceBounds,HT.sIx]
  | some i=>
   simp only[sliceBounds,HT.sIx,Option.getD_none,show (1:Int) > 0 by decide,if_true]
   by_cases h:i < 0
   ·simp only[h,if_true] <;> omega
   ·simp only[h,if_false] <;> omega
 ·cases hi with
  | none=>simp[sliceBounds,HT.sIx]
  | some i=>
   simp only[sliceBounds,HT.sIx,Option.getD_none,show (1:Int) > 0 by decide,if_true]
   by_cases h:i < 0
   ·simp only[h,if_true] <;> omega
   ·simp only[h,if_false] <;> omega
theorem Vy (its:List Value) (lo hi:Option Int):slicePick its.toArray lo hi none=((its.drop (HT.sIx its.length 0 lo)).take (HT.sIx its.length its.length hi - HT.sIx its.length 0 lo)).toArray:=by
 obtain⟨h1,h2,h3⟩:=WL lo hi its.toArray.size
 unfold slicePick
 rw[h1,h2,h3]
 simp only[sliceRange_one,pick_run,Qbg] <;> rfl
def DB (K:PySem.W.Frag):V->Option Int->Option Int->Hp->VK->Prop:=λx lo hi H Q=>∃a xs,x=.ref a/\SqL K H a xs/\∀p,H p=none->Q (.ref p) (upd H p (.lst (Jj xs lo hi)))
theorem rK:SlR X (DB X.K):=by
 intro pins s σ H x v vl vu lo hi sl Q I rx hs pl pu h
 obtain⟨a,xs,rfl,hx,q⟩:=h
 cases rx
 obtain⟨its,r,ht,hz⟩:=I.list hx
 have hlen:=r.length
 refine⟨"list",_,slot_list_getitem.lookup,ht.isList.typeIs,?_⟩
 refine wpAny_getItem_list_slice ht.isList hs pl pu .none (by simp) ?_ (by rw[Qbg] <;> omega)
 rw[Vy,<-hlen]
 refine⟨.ref s.heap.objs.size,_,I.laid (t':=s.toks) (o:=.lst (Jj xs lo hi)) (λb ob q=>Qav _ q) (Qcq _) ?_,rfl,q _ (I.hok.fresh (Qcq _))⟩
 exact⟨Qck (Rv xs lo hi) hz,_,0,(r.drop (HT.sIx xs.length 0 lo)).take (HT.sIx xs.length xs.length hi - HT.sIx xs.length 0 lo),QaI _ rfl⟩
def Ky:V->Bool
 | .non=>true
 | .bl _=>true
 | .int _=>true
 | .str _=>true
 | _=>false
def eqV:V->V->Bool
 | .non,.non=>true
 | .bl a,.bl b=>a == b
 | .bl a,.int b=>(if a then 1 else 0) == b
 | .int a,.bl b=>a == (if b then 1 else 0)
 | .int a,.int b=>a == b
 | .str a,.str b=>a == b
 | _,_=>false
theorem yx {A:Around} {s:Shared} {y x:V} {u v:Value} (ry:RelV y u) (rx:RelV x v) (fy:Ky y=true) (fx:Ky x=true):SeqAt.EqAt A s u v (eqV y x):=by
 cases y with
 | non=>
  cases ry
  cases x with
  | non=>cases rx;exact SeqAt.EqAt.same _
  | bl b=>cases rx;exact SeqAt.EqAt.none_bool b
  | int b=>obtain⟨t,rfl⟩:=rx;exact SeqAt.EqAt.none_int b t
  | str b=>obtain⟨t,rfl⟩:=rx;exact SeqAt.EqAt.none_str b t
  | _=>exact absurd (show false=true from fx) QaS
 | bl a=>
  cases ry
  cases x with
  | non=>cases rx;exact SeqAt.EqAt.bool_none a
  | bl b=>cases rx;exact SeqAt.EqAt.bool_bool a b
  | int b=>obtain⟨t,rfl⟩:=rx;exact SeqAt.EqAt.bool_int a b t
  | str b=>obtain⟨t,rfl⟩:=rx;exact SeqAt.EqAt.bool_str a b t
  | _=>exact absurd (show false=true from fx) QaS
 | int a=>
  obtain⟨t',rfl⟩:=ry
  cases x with
  | non=>cases rx;exact SeqAt.EqAt.int_none a t'
  | bl b=>cases rx;exact SeqAt.EqAt.int_bool a t' b
  | int b=>obtain⟨t,rfl⟩:=rx;exact SeqAt.EqAt.int_int a t' b t
  | str b=>obtain⟨t,rfl⟩:=rx;exact SeqAt.EqAt.int_str a t' b t
  | _=>exact absurd (show false=true from fx) QaS
 | str a=>
  obtain⟨t',rfl⟩:=ry
  cases x with
  | non=>cases rx;exact SeqAt.EqAt.str_none a t'
  | bl b=>cases rx;exact SeqAt.EqAt.str_bool a t' b
  | int b=>obtain⟨t,rfl⟩:=rx;exact SeqAt.EqAt.str_int a t' b t
  | str b=>obtain⟨t,rfl⟩:=rx;exact SeqAt.EqAt.str_str a t' b t
  | _=>exact absurd (show false=true from fx) QaS
 | _=>exact absurd (show false=true from fy) QaS
def eqU (x:V) (u:Value):Bool:=match u with
 | .none=>eqV .non x
 | .bool b=>eqV (.bl b) x
 | .int i _=>eqV (.int i) x
 | .str z _=>eqV (.str z) x
 | _=>false
theorem jm {x y:V} {u:Value} (r:RelV y u) (f:Ky y=true):eqU x u=eqV y x:=by
 cases y with
 | non=>cases r;rfl
 | bl b=>cases r;rfl
 | int i=>obtain⟨t,rfl⟩:=r;rfl
 | str z=>obtain⟨t,rfl⟩:=r;rfl
 | _=>exact absurd (show false=true from f) QaS
theorem Oj {x:V}:∀{xs:List V} {us:List Value},Vals xs us->xs.all Ky=true->us.any (eqU x)=xs.any λy=>eqV y x
 | _,_,.nil,_=>rfl
 | y::xs,u::us,.cons r t,f=>by
  rw[List.all_cons,Qbw] at f
  rw[Qcd,Qcd,jm r f.1,Oj t f.2]
theorem M7 {A:Around} {s:Shared} {x:V} {v:Value} (rx:RelV x v) (fx:Ky x=true):∀{xs:List V} {us:List Value},Vals xs us->xs.all Ky=true->∀u∈us,SeqAt.EqAt A s u v (eqU x u)
 | _,_,.nil,_=>λu hu=>by cases hu
 | y::xs,u::us,.cons r t,f=>λu' hu=>by
  rw[List.all_cons,Qbw] at f
  rcases QbY.mp hu with rfl | hu
  ·rw[jm r f.1];exact yx r rx f.1 fx
  ·exact M7 rx fx t f.2 u' hu
def inV (x:V) (xs:List V):Bool:=xs.any λy=>eqV y x
def rIn (K:PySem.W.Frag) (neg:Bool):R2:=λx y H Q=>∃p xs,y=.ref p/\(SqL K H p xs\/SqT K H p xs)/\Ky x=true/\xs.all Ky=true/\Q (.bl (if neg then !inV x xs else inV x xs)) H
theorem Qj:OpR X (compareOp .In) (rIn X.K false):=by
 intro pins s σ H x y v u Q I rx ry h
 obtain⟨p,xs,rfl,hq,fx,fs,q⟩:=h
 cases ry
 rcases hq with hq | hq
 ·obtain⟨its,r,pl,hz⟩:=I.list hq
  refine SeqAt.in_listAt (eqU x) pl.isList (λw hw=>M7 rx fx r fs w (by simpa using hw)) ⟨.bl _,H,I,rfl,?_⟩
  rw[show its.toArray.any (eqU x)=its.any (eqU x) by simp,Oj r fs]
  exact q
 ·obtain⟨its,r,pl,hz⟩:=I.tuple hq
  refine SeqAt.in_tupleAt (eqU x) pl (λw hw=>M7 rx fx r fs w (by simpa using hw)) ⟨.bl _,H,I,rfl,?_⟩
  rw[show its.toArray.any (eqU x)=its.any (eqU x) by simp,Oj r fs]
  exact q
theorem Xm:OpR X (compareOp .NotIn) (rIn X.K true):=by
 intro pins s σ H x y v u Q I rx ry h
 obtain⟨p,xs,rfl,hq,fx,fs,q⟩:=h
 cases ry
 rcases hq with hq | hq
 ·obtain⟨its,r,pl,hz⟩:=I.list hq
  refine SeqAt.notIn_listAt (eqU x) pl.isList (λw hw=>M7 rx fx r fs w (by simpa using hw)) ⟨.bl _,H,I,rfl,?_⟩
  rw[show its.toArray.any (eqU x)=its.any (eqU x) by simp,Oj r fs]
  exact q
 ·obtain⟨its,r,pl,hz⟩:=I.tuple hq
  refine SeqAt.notIn_tupleAt (eqU x) pl (λw hw=>M7 rx fx r fs w (by simpa using hw)) ⟨.bl _,H,I,rfl,?_⟩
  rw[show its.toArray.any (eqU x)=its.any (eqU x) by simp,Oj r fs]
  exact q
theorem Bu:Eb X (.builtin "len") (λxs H Q=>∃p ys,xs=[.ref p]/\(SqL X.K H p ys\/SqT X.K H p ys)/\Q (.int ys.length) H):=by
 intro pins s σ H xs us Q I r h
 obtain⟨p,ys,rfl,hq,q⟩:=h
 obtain⟨u,rfl,rx⟩:=vals1 r
 cases rx
 have hn:=Og
 rcases hq with hq | hq
 ·obtain⟨its,r',pl,hz⟩:=I.list hq
  have hlen:=r'.length
  exact Calls.call_len_list pl.isList (by simp only[Qbg] <;> omega) ⟨.int ys.length,H,I.tok _,⟨s.toks+1,by rw[Qbg,hlen]⟩,q⟩
 ·obtain⟨its,r',pl,hz⟩:=I.tuple hq
  have hlen:=r'.length
  exact len_tuple pl (by simp only[Qbg] <;> omega) ⟨.int ys.length,H,I.tok _,⟨s.toks+1,by rw[Qbg,hlen]⟩,q⟩
theorem Yt:Eb X (.builtin "len") (λxs H Q=>∃z,xs=[.str z]/\z.length<=sizeLine/\Q (.int z.length) H):=by
 intro pins s σ H xs us Q I r h
 obtain⟨z,rfl,hz,q⟩:=h
 obtain⟨u,rfl,t,rfl⟩:=vals1 r
 have hn:=Og
 exact len_str (by omega) ⟨.int z.length,H,I.tok _,⟨_,rfl⟩,q⟩
theorem G3:Eb X (.type "tuple") (λxs H Q=>∃p ys,xs=[.ref p]/\((SqL X.K H p ys/\∀l,H l=none->Q (.ref l) (upd H l (.tup ys)))\/(SqT X.K H p ys/\Q (.ref p) H))):=by
 intro pins s σ H xs us Q I r h
 obtain⟨p,ys,rfl,h⟩:=h
 obtain⟨u,rfl,rx⟩:=vals1 r
 cases rx
 rcases h with⟨hq,q⟩|⟨hq,q⟩
 ·obtain⟨its,r',pl,hz⟩:=I.list hq
  have hlen:=r'.length
  refine call_tuple_list pl.isList (λh' kp=>?_) (by simp only[Qbg] <;> omega)
  have I1:Inv X pins σ H { s with heap:=h' }:=I.kept (t':=s.toks) kp
  have I2:Inv X pins σ (upd H h'.objs.size (.tup ys)) { s with heap:=h'.push { cls:=.type "tuple",data:=.seq its.toArray } }:=
   I1.laid (t':=s.toks) (λb o e=>Qav _ e) (Qcq _) (show Bp X.prog X.w _ _ _ (.tup ys) from⟨hz,its,r',IsTup.new _ _⟩)
  exact⟨.ref h'.objs.size,_,I2,rfl,q _ (I1.hok.fresh (Qcq _))⟩
 ·obtain⟨its,r',pl,hz⟩:=I.tuple hq
  exact call_tuple_same pl ⟨.ref p,H,I,rfl,q⟩
def tyV (K:PySem.W.Frag) (T:String) (x:V) (H:Hp):Prop:=match x with
 | .str _=>T="str"
 | .int _=>T="int"
 | .ref p=>(T="list"/\∃xs,SqL K H p xs)\/(T="tuple"/\∃o,K.lookup p=some o/\o.cls=.type "tuple"/\o.dict=none) \/
   (T="dict"/\((∃kvs,H p=some (.dK kvs))\/∃kvs,H p=some (.dT kvs)))\/(T="set"/\∃S n,H p=some (.set S n))
 | _=>False
theorem eO {pins:List (Addr×Obj)} {σ : St} {H:Hp} {s:Shared} {T:String} {x:V} {v:Value} (I:Inv X pins σ H s) (r:RelV x v) (ty:tyV X.K T x H) :
  s.TypeIs v T/\∀a,v=.ref a->∃ob,s.heap.get? a=some ob/\ob.dict=none:=by
 cases x with
 | str z=>
  obtain⟨t,rfl⟩:=r
  cases (show T="str" from ty)
  exact⟨typeIs_str s z t,λ_ e=>nomatch e⟩
 | int i=>
  obtain⟨t,rfl⟩:=r
  cases (show T="int" from ty)
  exact⟨typeIs_int s i t,λ_ e=>nomatch e⟩
 | ref p=>
  cases r
  rcases ty with⟨rfl,xs,hq⟩|⟨rfl,o,hk,hc,hd⟩|⟨rfl,hk⟩|⟨rfl,S,n,hk⟩
  ·obtain⟨its,_,pl,_⟩:=I.list hq
   refine⟨pl.isList.typeIs,λa e=>?_⟩
   cases e
   obtain⟨o,n,e,c,hd,_⟩:=pl
   exact⟨o,e,hd⟩
  ·refine⟨⟨o,I.kIn p o hk,hc⟩,λa e=>?_⟩
   cases e
   exact⟨o,I.kIn _ o hk,hd⟩
  ·have z:∃o,s.heap.get? p=some o/\o.ExactDict:=by
    rcases hk with⟨kvs,hk⟩|⟨kvs,hk⟩
    ·obtain⟨_,_,_,_,o,_,_,e,ex,_⟩:=I.hok p _ hk
     exact⟨o,e,ex⟩
    ·obtain⟨_,_,_,_,o,_,_,e,ex,_⟩:=I.hok p _ hk
     exact⟨o,e,ex⟩
   obtain⟨o,e,ex⟩:=z
   refine⟨⟨o,e,ex.1⟩,λa e2=>?_⟩
   cases e2
   exact⟨o,e,ex.2.1⟩
  ·obtain⟨o,_,_,_,e,ex,_⟩:=I.hok p _ hk
   refine⟨⟨o,e,ex.1⟩,λa e2=>?_⟩
   cases e2
   exact⟨o,e,ex.2.1⟩
 | _=>exact False.elim ty
def B4 (K:PySem.W.Frag) (T:String) (r:V->List V->Hp->VK->Prop) (to:TE):TE:=fun σ H Q=>to σ H λx H1=>tyV K T x H1/\r x [] H1 Q
def tBM (K:PySem.W.Frag) (T:String) (r:V->List V->Hp->VK->Prop) (to:TE) (t:TA):TE:=fun σ H Q=>to σ H λx H1=>tyV K T x H1/\t σ H1 λxs H2=>r x xs H2 Q
variable {o e:Expr} {es:List Expr} {to:TE} {t:TA} {name:Str} {apos cpos:Pos} {T id:String} {r:V->List V->Hp->VK->Prop}
theorem v7 (pa:PlainAttrs T) (slot:Slot T name id) (hty:typeOf (.builtin id)=pure (.type "method_descriptor")) (hm:MtR X id r) (ho:PE X o to)
  (hbase:attributeBase o name X.env (eval o X.env)=eval o X.env:=by rfl) (hline:(apos.endLine == cpos.line)=true:=by rfl):PE X (.Call (.Attribute o name apos) [] [] cpos) (B4 X.K T r to):=by
 intro pins s σ H Q I h
 refine wpAny_Call_method0_late hbase hline (thn (ho pins s σ H _ I h) λv s1 ⟨x,H1,I1,r1,ty,q1⟩=>?_)
 obtain⟨h1,h2⟩:=eO I1 r1 ty
 exact⟨T,id,pa,slot,hty,h1,h2,Calls.callWith_builtin rfl (PySem.evalArgs_none (hm pins s1 σ H1 x [] v [] Q I1 r1 .nil q1))⟩
theorem CQ (pa:PlainAttrs T) (slot:Slot T name id) (hty:typeOf (.builtin id)=pure (.type "method_descriptor")) (hm:MtR X id r) (ho:PE X o to) (ha:PA X (e::es) t)
  (hbase:attributeBase o name X.env (eval o X.env)=eval o X.env:=by rfl)
  (hfew:((backTo cpos (starEach (e::es) X.env)).all (λx=>!x.1)&&(backToKw cpos (keywordEach [] X.env)).all (λx=>x.1.isSome)
  &&decide ((e::es).length+([]:List Keyword).length+(if ([]:List Keyword).isEmpty then 0 else 1) < 30))=true:=by rfl)
  (hline:(apos.endLine == cpos.line)=true:=by rfl) (hs:starEach (e::es) X.env=(false,eval e X.env)::starEach es X.env:=by rfl) (hplain:(backTo cpos (starEach es X.env)).any (·.1)=false:=by rfl) :
  PE X (.Call (.Attribute o name apos) (e::es) [] cpos) (tBM X.K T r to t):=by
 intro pins s σ H Q I h
 refine wpAny_Call_method_late hbase hfew hline rfl (thn (ho pins s σ H _ I h) λv s1 ⟨x,H1,I1,r1,ty,q1⟩=>?_)
 obtain⟨h1,h2⟩:=eO I1 r1 ty
 refine⟨T,id,pa,slot,hty,h1,h2,?_⟩
 have hA:=ha cpos pins s1 σ H1 _ I1 q1
 rw[hs] at hA ⊢
 refine Calls.callWith_builtin (by show (false || (backTo cpos (starEach es X.env)).any (·.1))=false;rw[hplain] <;> rfl) (Calls.evalArgs_plain ?_)
 exact thn hA λus s2 ⟨vs,H2,I2,r2,q2⟩=>hm pins s2 σ H2 x vs v us Q I2 r1 r2 q2
end
def MtM (X:Cx) (id:String) (r:V->List V->Hp->VK->Prop):Prop:=
 ∀(pins:List (Addr×Obj)) (s:Shared) (σ : St) (H:Hp) (x:V) (xs:List V) (v:Value) (us:List Value) (Q:VK),Inv X pins σ H s->RelV x v->Vals xs us->r x xs H Q ->
  wpAny (model X.prog X.w) X.A (call (.builtin id) (v::us)) (EP X pins σ Q) X.xe s
theorem Vals.one:∀{x:V} {us:List Value},Vals [x] us->∃u,us=[u]/\RelV x u
 | _,_,.cons r .nil=>⟨_,rfl,r⟩
theorem Vals.zero:∀{us:List Value},Vals [] us->us=[]
 | _,.nil=>rfl
theorem Vals.dropLast {xs:List V} {us:List Value} (h:Vals xs us):Vals xs.dropLast us.dropLast:=by
 induction h with
 | nil=>exact .nil
 | cons r t ih=>
  cases t with
  | nil=>exact .nil
  | cons q t'=>exact .cons r ih
theorem Vals.eraseIdx:∀{xs:List V} {us:List Value} (i:Nat),Vals xs us->Vals (xs.eraseIdx i) (us.eraseIdx i)
 | _,_,_,.nil=>.nil
 | _,_,0,.cons _ t=>t
 | _,_,i+1,.cons r t=>.cons r (Vals.eraseIdx i t)
theorem Vals.rep {xs:List V} {us:List Value} (h:Vals xs us):∀k:Nat,Vals (List.replicate k xs).flatten (List.replicate k us).flatten
 | 0=>.nil
 | k+1=>by
  rw[List.replicate_succ,List.replicate_succ,List.flatten_cons,List.flatten_cons]
  exact Vals.append h (Vals.rep h k)
theorem dz {α : Type} (l:List α):l.eraseIdx (l.length - 1)=l.dropLast:=by
 induction l with
 | nil=>rfl
 | cons a r ih=>
  cases r with
  | nil=>rfl
  | cons b r=>
   have e:(a::b::r).length - 1=((b::r).length - 1)+1:=by
    have h1:(a::b::r).length=r.length+2:=rfl
    have h2:(b::r).length=r.length+1:=rfl
    omega
   rw[e,List.eraseIdx_cons_succ,ih]
   all_goals rfl
theorem Vh {α : Type}:∀(l:List α) (i:Nat),(l.eraseIdx i).length<=l.length
 | [],_=>Qcq _
 | _::_,0=>Nat.le_succ _
 | _::r,i+1=>Nat.succ_le_succ (Vh r i)
theorem foldl_rep (its:List Value):∀(k:Nat) (acc:List Value),
  List.foldl (λx1 x2=>x1++x2) acc.toArray (List.replicate k its.toArray)=(acc++(List.replicate k its).flatten).toArray
 | 0,acc=>by simp
 | k+1,acc=>by
  have e:acc.toArray++its.toArray=(acc++its).toArray:=by simp
  have e2:(acc++its)++(List.replicate k its).flatten=acc++(List.replicate (k+1) its).flatten:=by
   rw[List.replicate_succ,List.flatten_cons,Qbh]
  rw[<-e2,<-foldl_rep its k (acc++its),<-e,List.replicate_succ,List.foldl_cons]
section
variable {X:Cx} {pins:List (Addr×Obj)} {σ : St} {H:Hp} {s:Shared} {l b:Addr} {xs ys zs:List V}
theorem Inv.XF {its its':List Value} {n:Nat} {f:Array Value->Array Value} {t':Nat} (I:Inv X pins σ H s) (hH:H l=some (.lst xs))
  (e:s.heap.get? l=some { cls:=.type "list",data:=.seq its.toArray n }) (hf:f its.toArray=its'.toArray) (hv:Vals ys its') (hz:ys.length<=sizeLine) :
  Inv X pins σ (upd H l (.lst ys)) { s with heap:=s.heap.update l (Obj.mapSeq f),toks:=t' }:=by
 have q:=PySem.IsL.update e f
 rw[hf] at q
 refine I.write (x:=l) (e:=l) (by rw[hH];exact trivial) (.inl rfl) (λb' u hb hu=>(Qax s.heap (Obj.mapSeq f) (Ne.symm hb)).trans hu) ⟨_,q⟩ ?_
 exact⟨hz,its',_,hv,q⟩
theorem Inv.wO {its:List Value} {t':Nat} (I:Inv X pins σ H s) (hv:Vals ys its) (hz:ys.length<=sizeLine) :
  Inv X pins σ (upd H s.heap.objs.size (.lst ys)) { s with heap:=s.heap.push { cls:=.type "list",data:=.seq its.toArray },toks:=t' }:=
 I.laid (λ_ _ q=>Qav _ q) (Qcq _) ⟨hz,its,0,hv,QaI _ rfl⟩
theorem Inv.fresh (I:Inv X pins σ H s):H s.heap.objs.size=none:=I.hok.fresh (Qcq _)
theorem Inv.M8 (I:Inv X pins σ H s) (hH:H l=some (.lst xs)):xs.length<=sizeLine/\∃(its:List Value) (n:Nat),Vals xs its/\xs.length=its.length/\s.heap.get? l=some { cls:=.type "list",data:=.seq its.toArray n }:=by
 obtain⟨z,its,n,r,e⟩:=I.hok l _ hH
 exact⟨z,its,n,r,r.length,e⟩
theorem Xz {n:Nat} (h:n<=sizeLine):Builtin.List.listTooLong n=false:=by
 unfold Builtin.List.listTooLong
 exact QbG (by omega)
end
section
variable {X:Cx}
def rT:V->List V->Hp->VK->Prop:=λx vs H Q=>∃l xs y,x=.ref l/\vs=[y]/\H l=some (.lst xs)/\xs.length < sizeLine/\Q .non (upd H l (.lst (xs++[y])))
theorem Cg:MtM X "list.append" rT:=by
 intro pins s σ H x vs v us Q I rx rv h
 obtain⟨l,xs,y,rfl,rfl,hH,hz,q⟩:=h
 cases rx
 obtain⟨u,rfl,ru⟩:=rv.one
 obtain⟨z,its,n,r,hl,e⟩:=I.M8 hH
 refine call_meets F.slot_list_append ⟨_,e,rfl⟩ F.entry_list_append (F.args_list_append_2 _ _) (PySem.list_append l its.toArray n u (by rw[Qbg];omega)) ⟨e,?_⟩
 refine⟨.non,_,I.XF (its':=its++[u]) hH e (by simp) (r.append (.cons ru .nil)) ?_,rfl,q⟩
 rw[QaQ,QaB]
 omega
def rQ:V->List V->Hp->VK->Prop:=λx vs H Q=>∃l b xs zs,x=.ref l/\vs=[.ref b]/\H l=some (.lst xs)/\H b=some (.lst zs)/\xs.length+zs.length<=sizeLine/\Q .non (upd H l (.lst (xs++zs)))
theorem Jw:MtM X "list.extend" rQ:=by
 intro pins s σ H x vs v us Q I rx rv h
 obtain⟨l,b,xs,zs,rfl,rfl,hH,hB,hz,q⟩:=h
 cases rx
 obtain⟨u,rfl,ru⟩:=rv.one
 cases ru
 obtain⟨z,its,n,r,hl,e⟩:=I.M8 hH
 obtain⟨z2,its2,n2,r2,hl2,e2⟩:=I.M8 hB
 have hsz:its.toArray.size+its2.toArray.size<=sizeLine:=by rw[Qbg,Qbg];omega
 have cT:¬(!its.toArray.isEmpty&&Builtin.List.listTooLong (its.toArray.size+its2.toArray.size))=true:=by
  rw[Xz hsz,Bool.and_false]
  exact QaS
 refine call_meets F.slot_list_extend ⟨_,e,rfl⟩ F.entry_list_extend (F.args_list_extend_2 _ _)
  (AutoSeq1.list_extend_list_list_0 l its.toArray n b its2.toArray n2 cT (by rw[Qbg];omega) (by omega)) ⟨e,e2,?_⟩
 refine⟨.non,_,I.XF (its':=its++its2) hH e (by simp) (r.append r2) ?_,rfl,q⟩
 rw[QaQ]
 omega
def DD:V->List V->Hp->VK->Prop:=λx vs H Q=>∃l xs y,x=.ref l/\vs=[]/\H l=some (.lst xs)/\xs[xs.length - 1]?=some y/\Q y (upd H l (.lst xs.dropLast))
theorem RI:MtM X "list.pop" DD:=by
 intro pins s σ H x vs v us Q I rx rv h
 obtain⟨l,xs,y,rfl,rfl,hH,hy,q⟩:=h
 cases rx
 have hus:=rv.zero
 subst hus
 obtain⟨z,its,n,r,hl,e⟩:=I.M8 hH
 obtain⟨u,hu,ru⟩:=r.get hy
 have hy':its.toArray[its.toArray.size - 1]?=some u:=by
  show its.toArray[its.length - 1]?=some u
  rw[<-Array.getElem?_toList,<-hl]
  exact hu
 refine call_meets F.slot_list_pop ⟨_,e,rfl⟩ F.entry_list_pop (F.args_list_pop_1 _) (MeetsSeq.list_pop_last l its.toArray n u hy' (by rw[Qbg];omega)) ⟨e,?_⟩
 refine⟨y,_,I.XF (its':=its.dropLast) hH e ?_ r.dropLast ?_,ru,q⟩
 ·show its.toArray.eraseIdxIfInBounds (its.toArray.size - 1)=its.dropLast.toArray
  rw[Qbg,List.eraseIdxIfInBounds_toArray,dz]
 ·rw[List.length_dropLast]
  omega
def vO:V->List V->Hp->VK->Prop:=λx vs H Q=>∃l xs i k y,x=.ref l/\vs=[.int i]/\H l=some (.lst xs)/\-(2 ^ 63)<=i/\i < 2 ^ 63/\seqIndex? i xs.length=some k/\xs[k]?=some y/\Q y (upd H l (.lst (xs.eraseIdx k)))
theorem XD:MtM X "list.pop" vO:=by
 intro pins s σ H x vs v us Q I rx rv h
 obtain⟨l,xs,i,k,y,rfl,rfl,hH,h1,h2,hk,hy,q⟩:=h
 cases rx
 obtain⟨u,rfl,ru⟩:=rv.one
 obtain⟨t,rfl⟩:=ru
 obtain⟨z,its,n,r,hl,e⟩:=I.M8 hH
 obtain⟨w,hw,rw'⟩:=r.get hy
 refine call_meets F.slot_list_pop ⟨_,e,rfl⟩ F.entry_list_pop (F.args_list_pop_2 _ _)
  (MeetsSeq.list_pop_at l its.toArray n i t k w (fitsIndex_both h1 h2) (by rw[Qbg,<-hl];exact hk) (by rw[<-Array.getElem?_toList];exact hw) (by rw[Qbg];omega)) ⟨e,?_⟩
 refine⟨y,_,I.XF (its':=its.eraseIdx k) hH e ?_ (r.eraseIdx k) ?_,rw',q⟩
 ·show its.toArray.eraseIdxIfInBounds k=(its.eraseIdx k).toArray
  rw[List.eraseIdxIfInBounds_toArray]
 ·have:=Vh xs k
  omega
def vQ:V->List V->Hp->VK->Prop:=λx vs H Q=>∃l xs,x=.ref l/\vs=[]/\H l=some (.lst xs)/\Q .non (upd H l (.lst []))
theorem mW:MtM X "list.clear" vQ:=by
 intro pins s σ H x vs v us Q I rx rv h
 obtain⟨l,xs,rfl,rfl,hH,q⟩:=h
 cases rx
 have hus:=rv.zero
 subst hus
 obtain⟨z,its,n,r,hl,e⟩:=I.M8 hH
 refine call_meets F.slot_list_clear ⟨_,e,rfl⟩ F.entry_list_clear (F.args_list_clear_1 _) (AutoSeq1.list_clear_list_0 l its.toArray n (by rw[Qbg];omega)) ⟨e,?_⟩
 exact⟨.non,_,I.XF (its':=[]) (ys:=[]) hH e rfl .nil (Qcr _),rfl,q⟩
def DH:R2:=λx y H Q=>∃l b xs zs,x=.ref l/\y=.ref b/\H l=some (.lst xs)/\H b=some (.lst zs)/\xs.length+zs.length<=sizeLine/\∀p,H p=none->Q (.ref p) (upd H p (.lst (xs++zs)))
theorem Xn:OpR X (binaryOp .Add) DH:=by
 intro pins s σ H x y v u Q I rx ry h
 obtain⟨l,b,xs,zs,rfl,rfl,hH,hB,hz,q⟩:=h
 cases rx
 cases ry
 obtain⟨z,its,n,r,hl,e⟩:=I.M8 hH
 obtain⟨z2,its2,n2,r2,hl2,e2⟩:=I.M8 hB
 refine PySem.P.add_list e e2 ?_ (by rw[Qbg,Qbg];omega)
 have ea:its.toArray++its2.toArray=(its++its2).toArray:=by simp
 rw[ea]
 exact⟨.ref _,_,I.wO (t':=s.toks) (r.append r2) (by rw[QaQ];omega),rfl,q _ I.fresh⟩
def DC:R2:=λx y H Q=>∃l k xs,x=.ref l/\y=.int k/\H l=some (.lst xs)/\-(2 ^ 63)<=k/\k < 2 ^ 63/\xs.length*k.toNat<=sizeLine /\
 ∀p,H p=none->Q (.ref p) (upd H p (.lst (List.replicate k.toNat xs).flatten))
theorem len_rep {α : Type} (xs:List α) (k:Nat):(List.replicate k xs).flatten.length=k*xs.length:=by
 induction k with
 | zero=>simp
 | succ k ih=>rw[List.replicate_succ,List.flatten_cons,QaQ,ih,Nat.succ_mul,Nat.add_comm]
theorem gG:OpR X (binaryOp .Mult) DC:=by
 intro pins s σ H x y v u Q I rx ry h
 obtain⟨l,k,xs,rfl,rfl,hH,h1,h2,hz,q⟩:=h
 cases rx
 obtain⟨t,rfl⟩:=ry
 obtain⟨z,its,n,r,hl,e⟩:=I.M8 hH
 have hlen:its.toArray.size*k.toNat<=sizeLine:=by rw[Qbg,<-hl];exact hz
 have hcap:¬its.toArray.size*k.toNat > (2 ^ 63 - 1) / 8:=by
  have:(sizeLine:Nat)<=(2 ^ 63 - 1) / 8:=by decide
  omega
 have hfit:¬(!Builtin.List.listFitsIndex k)=true:=by
  rw[fitsIndex_both h1 h2]
  exact QaS
 have cT:¬Builtin.List.listTooLong (its.toArray.size*k.toNat)=true:=by
  rw[Xz hlen]
  exact QaS
 have hnew:List.foldl (λx1 x2=>x1++x2) #[] (List.replicate (if its.toArray.isEmpty=true then 0 else k.toNat) its.toArray)=(List.replicate k.toNat its).flatten.toArray:=by
  have f0:∀m:Nat,List.foldl (λx1 x2=>x1++x2) #[] (List.replicate m its.toArray)=(List.replicate m its).flatten.toArray:=λm=>by
   have:=foldl_rep its m []
   rw[QbR] at this
   exact this
  rw[f0]
  cases its with
  | nil=>simp
  | cons a r'=>rw[if_neg (by simp)]
 refine wpAny_binaryOp_repeat_ref (T:="list") (U:="int") (by decide) ⟨_,e,rfl⟩ (λs'=>typeIs_int s' k t) noFill_list_mul F.fills_int_mul F.slot_int_rmul repeat_list F.slot_int_index.lookup
  (call_meets F.slot_int_rmul (typeIs_int s k t) F.entry_int_rmul (F.args_int_rmul_2 _ _) (int___rmul___int_list k t l its.toArray n)
   ⟨e,rfl,⟨_,e,rfl⟩,call_meets F.slot_list_mul ⟨_,e,rfl⟩ F.entry_list_mul (F.args_list_mul_2 _ _) (AutoListH.list___mul___list_int_3 l its.toArray n k t hfit hcap cT) ⟨e,?_⟩⟩)
 rw[hnew]
 exact⟨.ref _,_,I.wO (t':=s.toks) (r.rep k.toNat) (by rw[len_rep,Nat.mul_comm];exact hz),rfl,q _ I.fresh⟩
end
section
variable {prog:Program} {w:World} {A:Around} {E:Value->Shared->Prop} {s:Shared}
set_option maxRecDepth 100000 in
end
section
variable {X:Cx}
end
end L2
namespace Att
open PySem PySem.W PySem.Calls PyProof.Rows
theorem Tt {P:Params} {h:Heap}:∀(ns:List Int) (vs:List Value),WellAll P h vs (ns.map WData.int)->IntsAre vs ns:=by
 intro ns
 induction ns with
 | nil=>
  intro vs w
  rw[List.map_nil] at w
  cases w
  exact .nil
 | cons n ns ih=>
  intro vs w
  rw[QbZ] at w
  cases w with
  | cons a b=>
   cases a
   exact .cons _ _ (ih _ b)
theorem fV {l:OpenLaw} {n:Nat} (hn:l.most=some n) {P:Params} {h:Heap} {args:List WData} {vals:List Value}
  (hpre:l.row.toRowW.claim.pre args=true) (hwl:WellAll P h vals args) :
  ∃a vs ns,vals=[Value.ref a]/\args=[WData.list (ns.map WData.int)]/\h.get? a=some { cls:=.type "list",data:=.seq vs.toArray }/\IntsAre vs ns/\ns.length<=n:=by
 have hsh:WShape.hasAll [] args [.list .int]=true:=(pre_splitW hpre).1
 have hc:l.pre.holds [] { args:=args }=true:=(pre_splitW hpre).2
 obtain⟨d,r,rfl,h1,h2⟩:=hasAllW_cons hsh
 obtain rfl:=hasAllW_nil h2
 obtain⟨xs,rfl,h3⟩:=hasW_list h1
 obtain⟨ns,rfl⟩:=items_int h3
 have hlen:ns.length<=n:=by
  unfold OpenLaw.pre at hc
  have h4:(WTm.not (.lt (.lit (.int (n:Int))) (.len (.arg 0)))).holds [] { args:=[.list (ns.map .int)] }=true:=by
   have h4:=(holds_andW hc).1
   rw[hn] at h4
   exact h4
  have h5:=condW_of h4 (w_not (w_lt w_lit (w_len_list (w_arg rfl))))
  rw[QbB] at h5
  refine Nat.le_of_not_lt λq=>?_
  have q':(n:Int) < ((ns.length:Nat):Int):=by omega
  first
   | (rw[QbS q'] at h5;exact absurd h5 (by decide))
   | (simp at h5;omega)
 cases hwl with
 | cons w1 w2=>
  cases w2
  cases w1 with
  | list ho hall=>exact⟨_,_,ns,rfl,rfl,ho,Tt ns _ hall,hlen⟩
theorem gk (l:OpenLaw) (args:List WData):l.row.toRowW.claim.post args (.bool true) args=true:=
 postW_of (r:=l.row.toRowW) (X:=(true == true))
  (show WShape.has [] (.bool true) .bool=true by first | rfl | decide | simp[WShape.has,WShape.arms,WShape.armsAll])
  (show (WTm.eq .res (.lit (.bool true))).value [] { args:=args,res:=some (.bool true),after:=args }=some (.bool (true == true)) from w_eq_bool (w_res rfl) w_lit) rfl
theorem Zg {l:OpenLaw} {n:Nat} {q:Program} {loose:List Str} {XP:(Str->Option Value)->Heap->Prop} {YP:World->Heap->Prop} {d:DefRec}
  (hn:l.most=some n) (hdf:d.params.defaults=[])
  (call:∀(w:World) (s₀ s₁ : Shared) (mg mb:Str->Option Value) (fa:Addr) (o:Obj) (pm cd doc:Value) (a:Addr) (vs:List Value) (ns:List Int),
   Ground q loose [] XP w s₀ mg mb s₁.heap->YP w s₁.heap ->
   s₁.heap.get? fa=some o->o.data=.func (docDef d.name d.params d.body d.scope pm cd doc)->s₁.heap.CodeRec cd d.name->mg d.name=some (.ref fa) ->
   s₁.heap.get? a=some { cls:=.type "list",data:=.seq vs.toArray }->IntsAre vs ns->ns.length<=n->s₁.gens=#[] ->
   codeAny (model l.prog w) callerA (.call (.ref fa) ⟨[.ref a],[]⟩) (λr s'=>r=.ok (.ret (.bool true))/\OldK s₁.heap s'.heap/\s'.os=s₁.os/\AllBare s'.gens) s₁) :
  WalkO q loose XP YP l.row.toRowW d [] (λf vs=>PySem.call f vs):=by
 intro w s₀ s₁ mg mb G Y fa o pm cd doc dV kV ho hd hcd hD hmg hg args vals as hpre hlay hrd hwl hlo
 obtain rfl:dV=.none:=Dflts.none hD hdf
 obtain rfl:kV=.none:=Dflts.noKw hD
 obtain⟨a,vs,ns,rfl,rfl,hobj,hints,hlen⟩:=fV hn hpre hwl
 refine enter_call (Qcp (call w s₀ s₁ mg mb fa o pm cd doc a vs ns G Y ho (fd_plain hd) hcd hmg hobj hints hlen hg) λr s' hq=>?_)
 obtain⟨rfl,h2,h3,h4⟩:=hq
 exact⟨.inl ⟨.bool true,.bool true,[],rfl,λ_=>rfl,.bool true,gk l _,λ_=>⟨List.Pairwise.nil,λ_ hm=>(nomatch hm)⟩⟩,h2,h3,h4⟩
section
variable {prog:Program} {w:World} {A:Around} {E:Value->Shared->Prop} {s:Shared} {K:Frag}
def Te (h:Heap):Heap:={ h with objs:=#[] }
theorem Lq (h:Heap) (b:Addr):(Te h).get? b=none:=by
 cases e:(Te h).get? b with
 | none=>rfl
 | some o=>exact absurd (Qch e) (QbO _)
theorem yu {h:Heap} {L:Addr} {m:Str->Option Value} (n:h.Ns L m):Fr (Te h) L h m:=
 ⟨n,λb o e=>(by rw[Lq] at e;cases e),Qcr _⟩
end
end Att
namespace L2
open PySem PySem.Spec PyProof.Rows
theorem PX:∀{vs:List Value} {ns:List Int},IntsAre vs ns->Vals (ns.map V.int) vs
 | _,_,.nil=>.nil
 | _,_,.cons n t h=>.cons ⟨t,rfl⟩ (PX h)
def Only (H:Hp):Prop:=∀b,H b=none\/∃o xs,H b=some (.frz o (.lst xs))
theorem mZ {P:Program} {w:World} {K:PySem.W.Frag} {mg mb:Str->Option Value} {CX:CXT} {k:Nat} {fa a:Addr} {fd:FuncData} {x:Str} {sp:Sp} {s₁ : Shared} {vs:List Value} {ns:List Int}
  (KX:K.In s₁.heap) (hns:s₁.heap.Ns mainGlobals mg) (hb:s₁.heap.Ns builtinsNs mb) (hbb:∀x:Str,x≠"__name__"->mb x=bootBuiltins x) (hlim:s₁.heap.NoLimit) (hg:s₁.gens=#[])
  (ha:s₁.heap.get? a=some { cls:=.type "list",data:=.seq vs.toArray }) (hi:IntsAre vs ns) (hl:ns.length<=sizeLine) (hr:Cu k callerA)
  (F:∀base:Heap,K.In base->base.Ns mainGlobals mg->GD P w K mg base CX k fa fd [x] sp) (hbind:∀(s:Shared) (u:Value),BindsTo s fd ⟨[u],[]⟩ [(x,u)])
  (hsp:∀H:Hp,Only H->SqL K H a (ns.map V.int)->sp [.ref a] H (λv _=>v=.bl true) λ_ _ _=>False)
  (hCX:∀H e s',CX [] H s₁ (λ_ _ _=>False) e s'->False) :
  codeAny (model P w) callerA (.call (.ref fa) ⟨[.ref a],[]⟩) (λr s'=>r=.ok (.ret (.bool true))/\OldK s₁.heap s'.heap/\s'.os=s₁.os/\AllBare s'.gens) s₁:=by
 have rv:=PX hi
 have lenV:=hi.length
 have core:∀H:Hp,Only H->SqL K H a (ns.map V.int)->HOk P w H s₁.heap->(∀b,H b≠none->b=a)->(H a≠none->K.lookup a=none) ->
   codeAny (model P w) callerA (.call (.ref fa) ⟨[.ref a],[]⟩) (λr s'=>r=.ok (.ret (.bool true))/\OldK s₁.heap s'.heap/\s'.os=s₁.os/\AllBare s'.gens) s₁:=by
  intro H hO hS hok hA hK
  have aL:∀{b:Addr} {o:Obj},s₁.heap.get? b=some o->H b=none->(O5 s₁.heap H).get? b=some o:=λe n=>pD e n
  have noA:∀{b:Addr} {o:Obj} {es:Array DictEntry} {ep:Nat},s₁.heap.get? b=some o->o.data=.dict es ep->H b=none:=λ{b o es ep} e d=>by
   cases q:H b with
   | none=>rfl
   | some u=>
    have e':b=a:=hA b (by rw[q];simp)
    subst e'
    rw[ha] at e;cases e
    have d':Data.seq vs.toArray _=Data.dict es ep:=d
    cases d'
  have nsK:∀{b:Addr} {m:Str->Option Value},s₁.heap.Ns b m->(O5 s₁.heap H).Ns b m:=λ{b m} ⟨o,es,ep,e,d,r⟩=>⟨o,es,ep,aL e (noA e d),d,r⟩
  have hKb:K.In (O5 s₁.heap H):=λb o e=>aL (KX b o e) (by
   cases q:H b with
   | none=>rfl
   | some u=>
    have e':b=a:=hA b (by rw[q];simp)
    subst e'
    rw[hK (by rw[q];simp)] at e;cases e)
  have hM:Mod K mg (O5 s₁.heap H):=⟨hKb,nsK hns,⟨mb,nsK hb,hbb⟩,let ⟨mc,h1,h2⟩:=hlim;⟨mc,nsK h1,h2⟩⟩
  have e0:Li P w K mg (O5 s₁.heap H) callerA [] s₁ H:=⟨rfl,hM,λb o e=>tH e,Nat.le_of_eq (iR _ _),trivial,λb hb=>absurd (show b∈([]:List Addr) from hb) (by simp),hok,.of_eq hg⟩
  refine Qcp ((F _ hKb (nsK hns)).run callerA [] s₁ H ⟨[.ref a],[]⟩ [.ref a] [.ref a] _ _ hr e0 (hbind s₁ (.ref a)) (.cons rfl .nil) (hsp H hO hS)) λr s' h=>?_
  cases r with
  | error e=>exact (hCX H e s' h).elim
  | ok fl=>
   cases fl with
   | next=>exact False.elim h
   | brk=>exact False.elim h
   | cont=>exact False.elim h
   | ret u=>
    obtain⟨v,H',os,bare,un,hok',r',q⟩:=h
    have q':v=.bl true:=q
    subst q'
    obtain rfl:u=Value.bool true:=r'
    refine⟨rfl,OldK.of_keep λb o e=>?_,os,bare⟩
    cases q:H b with
    | none=>exact un.keep b o e q (by intro z;exact absurd (show b∈([]:List Addr) from z) (by simp)) (by simp)
    | some u=>
     rcases hO b with z |⟨ob,xs,z⟩
     ·rw[q] at z;cases z
     ·have z2:=un.Hi b ob _ z
      obtain⟨e1,_⟩:=hok b _ z
      obtain⟨e2,_⟩:=hok' b _ z2
      rw[e] at e1;cases e1
      exact e2
 cases hk:K.lookup a with
 | some o=>
  have e:=KX a o hk
  rw[ha] at e
  cases e
  refine core (λ_=>none) (λ_=>.inl rfl) (.inr ⟨_,vs.toArray,_,hk,rfl,rfl,rfl,by rw[Qbg,lenV];exact hl,by simpa using rv⟩) (λb u z=>by have z':(none:Option HO)=some u:=z;cases z') (λb z=>absurd rfl z) λz=>absurd rfl z
 | none=>
  refine core (λb=>if b=a then some (.frz { cls:=.type "list",data:=.seq vs.toArray } (.lst (ns.map V.int))) else none) (λb=>?_) (.inl (.inr ⟨{ cls:=.type "list",data:=.seq vs.toArray },if_pos rfl⟩)) (λb u z=>?_) (λb z=>?_) λ_=>hk
  ·by_cases hb:b=a
   ·exact .inr ⟨_,_,if_pos hb⟩
   ·exact .inl (if_neg hb)
  ·by_cases hb:b=a
   ·have z':=(if_pos hb).symm.trans z
    cases z'
    subst hb
    exact⟨ha,by rw[QbB];exact hl,vs,_,rv,ha⟩
   ·have z':=(if_neg hb).symm.trans z
    cases z'
  ·by_cases hb:b=a
   ·exact hb
   ·exact absurd (if_neg hb) z
theorem rA {l:PySem.W.OpenLaw} {n k:Nat} {q:Program} {loose:List Str} {XP:(Str->Option Value)->Heap->Prop} {YP:World->Heap->Prop} {d:DefRec} {K:Params->PySem.W.Frag} {CX:World->CXT} {sp:World->Sp} {x:Str}
  (hn:l.most=some n) (hn2:n<=sizeLine) (hdf:d.params.defaults=[]) (hr:Cu k callerA)
  (hY:∀(w:World) (h:Heap),YP w h->(K w.params).In h)
  (F:∀(w:World) (mg:Str->Option Value) (fa:Addr) (h:Heap),(K w.params).In h->h.Ns mainGlobals mg->mg d.name=some (.ref fa) ->
   ∃fd:FuncData,(∀(s:Shared) (u:Value),BindsTo s fd ⟨[u],[]⟩ [(x,u)]) /\
    ∀base:Heap,(K w.params).In base->base.Ns mainGlobals mg->GD l.prog w (K w.params) mg base (CX w) k fa fd [x] (sp w))
  (hsp:∀(w:World) (H:Hp) (a:Addr) (ns:List Int),ns.length<=n->Only H->SqL (K w.params) H a (ns.map V.int)->sp w [.ref a] H (λv _=>v=.bl true) λ_ _ _=>False)
  (hCX:∀(w:World) (H:Hp) (s:Shared) (e:Value) (s':Shared),CX w [] H s (λ_ _ _=>False) e s'->False) :
  PySem.W.WalkO q loose XP YP l.row.toRowW d [] (λf vs=>PySem.call f vs):=by
 refine Att.Zg hn hdf λw s₀ s₁ mg mb fa o pm cd doc a vs ns G Y ho hd hcd hmg hobj hints hlen hg=>?_
 have KX:=hY w _ Y
 obtain⟨fd,hb,hF⟩:=F w mg fa _ KX G.T.g hmg
 exact mZ KX G.T.g G.T.b G.T.builtins G.T.nolimit hg hobj hints (Qck hlen hn2) hr hF hb (λH hO hS=>hsp w H a ns hlen hO hS) λH e s'=>hCX w H s₁ e s'
def inClass (s:Stmt) (j:Nat):Stmt:=match s with
 | .ClassDef _ _ _ body _ _ _ _ _ _ _=>body.getD j (.Pass ⟨0,0,0,0⟩)
 | _=>.Pass ⟨0,0,0,0⟩
def Az (s:Stmt):Arguments:=match s with
 | .FunctionDef _ a _ _ _ _ _ _ _ _=>a
 | _=>{ posonlyargs:=[],args:=[],vararg:=none,kwonlyargs:=[],kw_defaults:=[],kwarg:=none,defaults:=[] }
def Ax (s:Stmt):List Stmt:=match s with
 | .FunctionDef _ _ b _ _ _ _ _ _ _=>b
 | _=>[]
def Ag (s:Stmt):Scope:=match s with
 | .FunctionDef _ _ _ _ _ _ sc _ _ _=>sc
 | _=>{ kind:=.function,names:=[],isGenerator:=false,isCoroutine:=false }
abbrev CX0:CXT:=λ_ _ _ _ _ _=>False
abbrev E0:XK:=λ_ _ _=>False
theorem V6 {X:Cx}:Passes CX0 X E0:=λ_ _ _ _ _ _ _ h=>h.elim
structure Fun (K:PySem.W.Frag) (x qual:Str) (st:Stmt) (f:Addr) (fd:FuncData):Prop where
 ex:∃(oc:Value) (od:Option Addr) (kV doc pm:Value) (an:Option Addr) (cdv ct:Value) (osl:Array (Option Value)),
  fd=fnOf x qual (Az st) (Ax st) (Ag st) .none kV doc pm an cdv ct/\K.lookup f=some ⟨oc,od,.func fd,osl⟩/\codeIn K cdv qual=true
 kp:keepIn K (.ref f)=true
section
variable {P:Program} {w:World} {K:PySem.W.Frag} {mg:Str->Option Value} {base:Heap}
theorem Fun.ok {x qual:Str} {st:Stmt} {f:Addr} {fd:FuncData} {N ps:List Str} {k:Nat} {sp:Sp} (F:Fun K x qual st f fd) (S:Ba N ps (Ag st)) (len:∀vs H Q E,sp vs H Q E->vs.length=ps.length)
  (hbody:∀(cdv:Value) (A:Around) (outer:List Env) (s:Shared) (H:Hp) (vs:List V) (Q:VK) (E:XK),Cu k (A.deeper (envOfC qual (Ag st) s.heap.objs.size f cdv))->sp vs H Q E ->
   ∃t,PSs (Lf CX0 P w K mg base N qual (Ag st) f cdv A outer s H E).nox (Ax st) t/\t { nx:=λ_ H'=>Q .non H',rt:=Q } (start N vs) H):GD P w K mg base CX0 (k+1) f fd ps sp:=by
 obtain⟨oc,od,kV,doc,pm,an,cdv,ct,osl,rfl,lk,hcd⟩:=F.ex
 refine qR lk hcd S len λA outer s H vs Q E hr hsp=>?_
 obtain⟨t,h,q⟩:=hbody cdv A outer s H vs Q E hr hsp
 exact⟨t,h.nox,q⟩
theorem Fun.binds {x qual:Str} {st:Stmt} {f:Addr} {fd:FuncData} {ps:List Str} (F:Fun K x qual st f fd)
  (h:∀(kV doc pm:Value) (an:Option Addr) (cdv ct:Value) (us:List Value),us.length=ps.length->bindArgs (fnOf x qual (Az st) (Ax st) (Ag st) .none kV doc pm an cdv ct) ⟨us,[]⟩=pure (ps.zip us)):Binds K fd ps []:=by
 obtain⟨oc,od,kV,doc,pm,an,cdv,ct,osl,rfl,lk,hcd⟩:=F.ex
 exact .all (h kV doc pm an cdv ct)
theorem GX {x qual:Str} {st:Stmt} {f:Addr} {oc:Value} {od an:Option Addr} {osl:Array (Option Value)} {kV doc pm cdv ct:Value} (l:K.lookup f=some ⟨oc,od,.func (fnOf x qual (Az st) (Ax st) (Ag st) .none kV doc pm an cdv ct),osl⟩)
  (c:codeIn K cdv qual=true) (k:keepIn K (.ref f)=true):Fun K x qual st f (fnOf x qual (Az st) (Ax st) (Ag st) .none kV doc pm an cdv ct):=⟨⟨oc,od,kV,doc,pm,an,cdv,ct,osl,rfl,l,c⟩,k⟩
end
theorem Dh {A:Around} {k:Nat} (hr:Cu k A):A.units+1 < cLine:=Nat.lt_of_le_of_lt (Nat.add_le_add_left (by decide:1<=64) _) hr.units
theorem Ao {n:Nat} (h:n<=1000):n < sizeLine:=Nat.lt_of_le_of_lt h (by decide)
section
variable {X:Cx}
theorem pv (i:Nat) {x:Str} {pos:Pos} (hN:X.N[i]?=some x:=by rfl) (hv:Vis X.env.scope x:=by first | exact Or.inl rfl | exact Or.inr (Or.inl rfl) | exact Or.inr (Or.inr rfl)) (hd:(x == ("__debug__":Str))=false:=by decide)
  (hcd:(x == ("__classdict__":Str))=false:=by decide):PE X (.Name x pos) (uW i):=vY hN hv hd hcd
end
theorem Cy {A B:Prop} (h:B):if false=true then A else B:=by
 rw[if_neg QaS]
 exact h
theorem Ce {A B:Prop} (h:A):if true=true then A else B:=by
 rw[if_pos rfl]
 exact h
theorem Gn {c A B:Prop} [Decidable c] (h1:c->A) (h2:¬c->B):if c then A else B:=by
 by_cases h:c
 ·rw[if_pos h]
  exact h1 h
 ·rw[if_neg h]
  exact h2 h
theorem A4 {c A B:Prop} [Decidable c] (hc:c) (h:B):if (!decide c)=true then A else B:=by
 rw[QbS hc]
 exact Cy h
def Same (H H':Hp):Prop:=∀b o,H b=some o->H' b=some o
theorem Same.refl (H:Hp):Same H H:=λ_ _ h=>h
theorem Same.trans {H H1 H2:Hp} (a:Same H H1) (b:Same H1 H2):Same H H2:=λc o h=>b c o (a c o h)
theorem Same.free {H H':Hp} (e:Same H H') {l:Addr} (h:H' l=Option.none):H l=Option.none:=by
 cases q:H l with
 | none=>rfl
 | some o=>
  rw[e l o q] at h
  cases h
theorem Same.seq {K:PySem.W.Frag} {H H':Hp} {a:Addr} {xs:List V} (e:Same H H') (h:SqL K H a xs):SqL K H' a xs:=by
 rcases h with (h |⟨o,h⟩) | h
 ·exact .inl (.inl (e _ _ h))
 ·exact .inl (.inr ⟨o,e _ _ h⟩)
 ·exact .inr h
def Ey (env:Env):List (Str×NameKind)->List (Str×Addr)->List (Str×Addr)
 | [],cs=>cs
 | (n,k)::r,cs=>Ey env r (if (k == .free)=true then (match env.cells.lookup n with | some c=>(n,c)::cs | none=>cs) else cs)
theorem Yp {env:Env}:∀(names:List (Str×NameKind)) (cs:List (Str×Addr)),(∀p∈names,p.2=.free->∃c,env.cells.lookup p.1=some c) ->
  (forIn names cs λ(p:Str×NameKind) (r:List (Str×Addr))=>(if (p.2 == .free)=true then do
    let c <-cellOf env p.1
    pure (ForInStep.yield ((p.1,c)::r))
   else pure (ForInStep.yield r):Sem (ForInStep (List (Str×Addr)))))=pure (Ey env names cs)
 | [],cs,_=>rfl
 | (n,k)::rest,cs,h=>by
  have ih:=λcs'=>Yp rest cs' λp hp=>h p (QaE _ hp)
  rw[List.forIn_cons]
  cases hk:(k == NameKind.free) with
  | true=>
   obtain⟨c,hc⟩:=h (n,k) QaR (eq_of_beq hk)
   have e1:cellOf env n=pure c:=by unfold cellOf;rw[hc]
   have e2:Ey env ((n,k)::rest) cs=Ey env rest ((n,c)::cs):=by simp only[Ey,hk,if_true,hc]
   rw[e2,<-ih]
   simp only[hk,if_true,e1,pure_bind]
  | false=>
   have e2:Ey env ((n,k)::rest) cs=Ey env rest cs:=by simp only[Ey,hk,Bool.false_eq_true,if_false]
   rw[e2,<-ih]
   simp only[hk,Bool.false_eq_true,if_false,pure_bind]
theorem Pg {env:Env} {scope:Scope} (h:∀p∈scope.names,p.2=.free->∃c,env.cells.lookup p.1=some c):closureFor scope env=pure (Ey env scope.names []):=by
 have e:=Yp (env:=env) scope.names [] h
 unfold closureFor
 simp only[bind_pure]
 exact e
theorem Yo {env:Env}:∀(names:List (Str×NameKind)) (cs:List (Str×Addr)),(∀x c,cs.lookup x=some c->env.cells.lookup x=some c) ->
  ∀x c,(Ey env names cs).lookup x=some c->env.cells.lookup x=some c
 | [],cs,h,x,c,e=>h x c e
 | (n,k)::rest,cs,h,x,c,e=>by
  refine Yo rest _ (λy d z=>?_) x c e
  split at z
  ·split at z
   ·rename_i c' hc'
    rw[List.lookup_cons] at z
    cases q:y == n with
    | true=>rw[q] at z;cases z;rw[eq_of_beq q];exact hc'
    | false=>rw[q] at z;exact h y d z
   ·exact h y d z
  ·exact h y d z
theorem R9 {env:Env}:∀(names:List (Str×NameKind)) (cs:List (Str×Addr)) (x:Str),((cs.lookup x).isSome=true\/((x,NameKind.free)∈names/\∃c,env.cells.lookup x=some c)) ->
  ∃c,(Ey env names cs).lookup x=some c
 | [],cs,x,h=>by
  rcases h with h |⟨h,_⟩
  ·exact Option.isSome_iff_exists.mp h
  ·cases h
 | (n,k)::rest,cs,x,h=>by
  refine R9 rest _ x ?_
  have grow:(cs.lookup x).isSome=true->(List.lookup x (if (k == .free)=true then (match env.cells.lookup n with | some c=>(n,c)::cs | none=>cs) else cs)).isSome=true:=λz=>by
   split
   ·split
    ·rw[List.lookup_cons]
     cases x == n with
     | true=>rfl
     | false=>exact z
    ·exact z
   ·exact z
  rcases h with h |⟨h,c,hc⟩
  ·exact .inl (grow h)
  ·rcases QbY.mp h with z | z
   ·cases z
    refine .inl ?_
    simp[hc,List.lookup_cons]
   ·exact .inr ⟨z,c,hc⟩
def Mt (env:Env) (n:Str) (k:NameKind):NameKind:=if (k == .free&&env.scope.kind == .function&&env.kindOf n == some .cell)=true then .cell else k
theorem Ti (env:Env):∀(l:List (Str×NameKind)) (x:Str),
  (l.map λ(n,k)=>if (k == NameKind.free&&env.scope.kind == .function&&env.kindOf n == some .cell) then (n,NameKind.cell) else (n,k)).lookup x=(l.lookup x).map (Mt env x)
 | [],_=>rfl
 | (n,k)::r,x=>by
  have ih:=Ti env r x
  have e:(if (k == NameKind.free&&env.scope.kind == .function&&env.kindOf n == some .cell)=true then (n,NameKind.cell) else (n,k))=(n,Mt env n k):=by
   unfold Mt;split <;> rfl
  rw[QbZ]
  show List.lookup x ((if (k == NameKind.free&&env.scope.kind == .function&&env.kindOf n == some .cell)=true then (n,NameKind.cell) else (n,k))::_)=_
  rw[e,List.lookup_cons,List.lookup_cons]
  cases q:x == n with
  | true=>rw[eq_of_beq q];rfl
  | false=>exact ih
theorem lg {env:Env} {n:Str} {k:NameKind} (h:Mt env n k=.cell\/Mt env n k=.free):k=.cell\/k=.free:=by
 unfold Mt at h
 split at h
 ·rename_i q
  simp only[Qbw] at q
  exact .inr (eq_of_beq q.1.1)
 ·exact h
theorem jz {prog:Program} {w:World} {A:Around} {R:Result->Shared->Prop} {s:Shared} {elt target iter:Expr} {ifs:List Expr} {scope:Scope} {pos:Pos} {it acc:Value} {env:Env} (J:Nat->Shared->Prop)
  (turn:∀n s,J n s->wpAny (model prog w) A (pyNext it) (λr s1=>match r with
   | none=>R (.ok .next) s1
   | some v=>wpAny (model prog w) A (letOwnedTupleGo target it v) (λ_ s2=>wpAny (model prog w) A (assign target env v) (λ_ s3=>
     wpAny (model prog w) A (forIn ifs true λc r=>if r=true then do let ok <-isTrue c env (eval c env);pure (ForInStep.yield ok) else pure (ForInStep.yield r)) (λok s4=>
      if ok=true then wpAny (model prog w) A (eval elt env) (λx s5=>wpAny (model prog w) A (call (.builtin "list.append") [acc,x]) (λ_ s6=>∃m,m < n/\J m s6) (λ_ _=>False) s5) (λ_ _=>False) s4
      else ∃m,m < n/\J m s4) (λ_ _=>False) s3) (λ_ _=>False) s2) (λ_ _=>False) s1) (λ_ _=>False) s)
  (n:Nat) (h:J n s):codeAny (model prog w) A (.compLoop (.ListComp elt [⟨target,iter,ifs,0⟩] scope pos) 0 it acc env) R s:=by
 refine codeAny_loop rfl J (λk s' hk=>?_) n h
 show wpAny _ A (Sem.onRaise (compTurn (.ListComp elt [⟨target,iter,ifs,0⟩] scope pos) 0 it acc env) (λx=>do noteFrame x env;theTreesLotGoes x)) _ _ s'
 refine wpAny_noted ?_
 rw[compTurn_list]
 refine Qcv (Qce (Qcv (Qcx (turn k s' hk) (λr s1 q1=>?_) λ_ _ f=>f.elim)))
 cases r with
 | none=>exact Qcw q1
 | some v=>
  refine Qcv (Qcx q1 (λ_ s2 q2=>Qcv (Qcx q2 (λ_ s3 q3=>Qcv (Qcx q3 (λok s4 q4=>?_) λ_ _ f=>f.elim)) λ_ _ f=>f.elim)) λ_ _ f=>f.elim)
  cases ok with
  | false=>exact Qcw ⟨rfl,q4⟩
  | true=>exact Qcv (Qcv (Qcx q4 (λx s5 q5=>Qcv (Qcx q5 (λ_ s6 q6=>Qcw (Qcw ⟨rfl,q6⟩)) λ_ _ f=>f.elim)) λ_ _ f=>f.elim))
def cxC (X:Cx) (N':List Str) (scope:Scope) (s3:Shared) (H3:Hp) (fp:List Addr) (pn:List (Addr×Obj)):Cx where
 prog:=X.prog
 w:=X.w
 K:=X.K
 mg:=X.mg
 base:=X.base
 A:=X.A
 N:=N'
 s₀:=s3
 H₀:=H3
 env:=compEnvC scope (Ey X.env scope.names []) s3.heap.objs.size X.env
 outer:=X.stack
 stack:=X.stack
 ex:=fp
 fn:=λ_=>false
 calm:=X.calm
 pn:=pn
 xe:=λ_ _=>False
structure Bm (X:Cx) (N':List Str) (src:List (Option Nat)) (sc:Scope):Prop where
 kind:sc.kind=.function
 IW:∀y∈sc.names,y.2≠.cell
 loc:∀y∈sc.names,y.2=.local->sc.names.lookup y.1=some .local
 fv:∀y∈sc.names,y.2=.free->X.env.kindOf y.1=some .cell\/X.env.kindOf y.1=some .free
 len:src.length=N'.length
 src:∀(i:Nat) (x:Str) (j:Nat),N'[i]?=some x->src[i]?=some (some j)->X.N[j]?=some x/\sc.names.lookup x=some .free
def JD (src:List (Option Nat)) (σ : St):St:=src.map λo=>match o with | none=>none | some j=>(σ[j]?).join
def PF (X:Cx) (ifs:List Expr) (t:TT):Prop:=
 ∀(pins:List (Addr×Obj)) (s:Shared) (σ : St) (H:Hp) (Q:Bool->Hp->Prop),Inv X pins σ H s->t σ H Q ->
  wpAny (model X.prog X.w) X.A (forIn ifs true λc r=>if r=true then do let ok <-isTrue c X.env (eval c X.env);pure (ForInStep.yield ok) else pure (ForInStep.yield r)) (TP X pins σ Q) X.xe s
theorem CT {X:Cx}:PF X [] (λ_ H Q=>Q true H):=λ_ _ _ H _ I h=>wpAny_tests_nil ⟨H,I,h⟩
theorem MF {X:Cx} {c:Expr} {t:TT} (hc:PT X c t):PF X [c] t:=λpins s σ H Q I h=>wpAny_tests_one (hc pins s σ H Q I h)
theorem Un.ahead {fs ex:List Addr} {H H':Hp} {h h1 h':Heap} (u:Un fs ex H H' h h1) (k:∀b o,b < h.objs.size->h1.get? b=some o->h'.get? b=some o):Un fs ex H H' h h' where
 keep:=λb o e n hb hx=>k b o (Qch e) (u.keep b o e n hb hx)
 slot:=λb o e n hb hx=>by
  obtain⟨sl,q⟩:=u.slot b o e n hb hx
  exact⟨sl,k b _ (Qch e) q⟩
 free:=u.free
 there:=λb o e hx=>by
  obtain⟨o',q⟩:=u.there b o e hx
  exact⟨o',k b _ (Qch e) q⟩
 tups:=u.tups
 Hi:=u.Hi
 Il:=u.Il
section
variable {X:Cx} {N':List Str} {src:List (Option Nat)} {sc:Scope} {pins:List (Addr×Obj)} {σ : St} {H:Hp} {s3:Shared} {fp:List Addr} {h1:Heap} {tk:Nat}
theorem R6 (S:Bm X N' src sc) (I:Inv X pins σ H s3) (hf:∀b∈fp,GC X pins H b) (ht:∀b∈fp,b < s3.heap.objs.size)
  (ns:h1.Ns s3.heap.objs.size λ_=>none) (kp:∀b o,s3.heap.get? b=some o->h1.get? b=some o) :
  Inv (cxC X N' sc s3 H fp (X.pn++pins)) [] (JD src σ) H { s3 with heap:=h1,toks:=tk }:=by
 have hcl:∀x c,(Ey X.env sc.names []).lookup x=some c->X.env.cells.lookup x=some c:=Yo sc.names [] λx c e=>by cases e
 have old:∀x c,(Ey X.env sc.names []).lookup x=some c->∃o,s3.heap.get? c=some o:=λx c e=>by
  obtain⟨v,o,ho,_⟩:=I.cell x c (hcl x c e)
  exact⟨o,ho⟩
 have fvh:∀x,(x,NameKind.free)∈sc.names->∃c,X.env.cells.lookup x=some c:=λx hx=>I.ok.has x (S.fv _ hx rfl)
 have vA:∀b,b≠X.env.locals->b∉X.fs->b∉frs X.stack:=λb h1 h2 hb=>(QbY.mp (I.Sy b hb)).elim h1 h2
 have kindOf_eq:∀x,(compEnvC sc (Ey X.env sc.names []) s3.heap.objs.size X.env).kindOf x=(sc.names.lookup x).map (Mt X.env x):=λx=>Ti X.env sc.names x
 refine⟨⟨I.ok.mod,S.kind,I.ok.glob,I.ok.blt,Qcq _,λx y c e1 e2=>I.ok.inj x y c (hcl x c e1) (hcl y c e2),λx hx=>?_,λx c hf=>absurd hf QaS,I.ok.hd,I.ok.frames,.inl rfl,λb hb=>?_,I.bs,Qck I.ok.bsz I.sz,
  λb o e hb=>?_,λb hb=>?_,I.stack,I.Ua⟩,rfl,I.bare,Un.kept kp,⟨_,ns,λi x v e1 e2 e3=>?_⟩,λx c e=>?_,I.hok.fresh (Qcq _),λx c e=>I.Ew x c (hcl x c e),λp hp=>?_,I.hok.kept kp,?_⟩
 ·
  have hx':(sc.names.lookup x).map (Mt X.env x)=some .cell\/(sc.names.lookup x).map (Mt X.env x)=some .free:=by
   rw[<-kindOf_eq x];exact hx
  cases q:sc.names.lookup x with
  | none=>rw[q] at hx';rcases hx' with z | z <;> cases z
  | some k=>
   rw[q] at hx'
   have hk:k=.cell\/k=.free:=lg (env:=X.env) (n:=x) (hx'.imp (λz=>QbH z) λz=>QbH z)
   have hm:=QaO q
   rcases hk with rfl | rfl
   ·exact absurd rfl (S.IW _ hm)
   ·exact R9 sc.names [] x (.inr ⟨hm,fvh x hm⟩)
 ·
  obtain⟨f0,f1,f2,f3,f4,f5⟩:=hf b hb
  exact⟨Qcj (ht b hb),λx c e=>f4 x c (hcl x c e)⟩
 ·
  obtain⟨f0,f1,f2,f3,f4,f5⟩:=hf b hb
  rcases f3 with z | z
  ·exact I.ok.M6 b o e z
  ·exact absurd (QaW (Qch e) (Qck I.ok.bsz z)) (Qcb _)
 ·
  obtain⟨f0,f1,f2,f3,f4,f5⟩:=hf b hb
  exact vA b f1 f2
 ·
  have e2':(JD src σ)[i]?=some (some v):=e2
  unfold JD at e2'
  rw[Qbi] at e2'
  cases q:src[i]? with
  | none=>rw[q] at e2';cases e2'
  | some oj=>
   rw[q] at e2'
   cases oj with
   | none=>cases e2'
   | some j=>
    have e4:(σ[j]?).join=some v:=QbH e2'
    have e5:σ[j]?=some (some v):=by
     cases r:σ[j]? with
     | none=>rw[r] at e4;cases e4
     | some z=>rw[r] at e4;cases z with
      | none=>cases e4
      | some y=>cases e4;rfl
    obtain⟨hN,hfr⟩:=S.src i x j e1 q
    have hm:=QaO hfr
    have kx:=S.fv _ hm rfl
    obtain⟨m,hn,hl⟩:=I.loc
    obtain⟨u,r,l⟩:=hl j x v hN e5 (.inr kx)
    refine⟨u,r,?_⟩
    rcases l with⟨k1,_⟩|⟨_,c,hc,hcell⟩
    ·rcases kx with z | z <;> (rw[z] at k1;cases k1)
    ·obtain⟨c',hc'⟩:=R9 (env:=X.env) sc.names [] x (.inr ⟨hm,c,hc⟩)
     have e6:c'=c:=by
      have:=hcl x c' hc'
      rw[hc] at this
      exact (QbH this).symm
     subst e6
     refine .inr ⟨?_,c',hc',?_⟩
     ·have:(compEnvC sc (Ey X.env sc.names []) s3.heap.objs.size X.env).kindOf x=some (Mt X.env x .free):=by rw[kindOf_eq x,hfr];rfl
      show (compEnvC sc (Ey X.env sc.names []) s3.heap.objs.size X.env).kindOf x=some .cell\/(compEnvC sc (Ey X.env sc.names []) s3.heap.objs.size X.env).kindOf x=some .free
      rw[this]
      unfold Mt
      split
      ·exact .inl rfl
      ·exact .inr rfl
     ·obtain⟨o,ho,hd⟩:=hcell
      exact⟨o,kp _ o ho,hd⟩
 ·
  obtain⟨v,o,ho,hd⟩:=I.cell x c (hcl x c e)
  exact⟨v,o,kp _ o ho,hd⟩
 ·
  have hp':p∈X.pn++pins:=(QbD.mp hp).elim id λz=>by cases z
  obtain⟨a1,a2,a3,a4,a5⟩:=I.pin p hp'
  exact⟨kp _ _ a1,a2,Qcj (Qch a1),vA p.1 a3 a4,a5⟩
 ·show (JD src σ).length=N'.length
  unfold JD
  rw[QbB]
  exact S.len
theorem Qs {s1:Shared} {σ':St} {H':Hp} {h':Heap} (I:Inv X pins σ H s3) (hf:∀b∈fp,GC X pins H b) (I':Inv (cxC X N' sc s3 H fp (X.pn++pins)) [] σ' H' s1)
  (sb:Heap.SameBut s3.heap.objs.size s1.heap h'):Inv X pins σ H' { s1 with heap:=h' }:=by
 have fr:H' s3.heap.objs.size=none:=I'.free
 refine I.call' (s':={ s1 with heap:=h' }) (ch:=fp) I'.os ?_ ?_ I'.bare λb hb=>?_
 ·exact Un.ahead (h:=s3.heap) (h1:=s1.heap) I'.base λb o hb e=>sb.extBut b o (Qcj hb) e
 ·exact λb u e=>(I'.hok b u e).stay (λc v hc q=>sb.extBut c v (by
   intro z
   rcases hc with y | y
   ·rw[<-y,z,fr] at e;cases e
   ·rw[z,fr] at y;cases y) q) (λ_ q=>q) λ_ _ q=>q
 ·obtain⟨f0,f1,f2,f3,f4,f5⟩:=hf b hb
  exact⟨f3,f1,f4,λp hp=>f5 p hp⟩
end
@[irreducible] def Gd (J:It) (g:TG) (tt:TT) (te:TE) (Q:VK) (σ0:St) (H0:Hp) (l:Addr):Prop:=∃W:Nat->Nat->St->Hp->Prop,(∃m,W 0 m σ0 H0) /\
 ∀i m σ' H',W i m σ' H'->(J.stop i H'/\Q (.ref l) H')\/(J.go i H'/\∃N:St->Hp->Prop,(∀ σ3 H3,N σ3 H3->∃m',m' < m/\W (i+1) m' σ3 H3)/\∀x H2,J.yld i H' x H2->g x σ' H2 fun σ3 H3=>tt σ3 H3 λb H4=>
  if b=true then te σ3 H4 λy H5=>∃xs,H5 l=some (.lst xs)/\xs.length < sizeLine/\N σ3 (upd H5 l (.lst (xs++[y]))) else N σ3 H4)
def bw (wi:TI) (src:List (Option Nat)) (g:TG) (tt:TT) (te:TE):TE:=fun σ H Q=>wi σ H λJ H1=>∀l,H1 l=none->Gd J g tt te Q (JD src σ) (upd H1 l (.lst [])) l
theorem Vn {X:Cx} {N':List Str} {src:List (Option Nat)} {sc:Scope} {elt tg iter:Expr} {ifs:List Expr} {pos pos':Pos} {wi:TI} {g:TG} {tt:TT} {te:TE} {use:Option (Value->Sem Unit)} {R:Value->Shared->Prop} (hc:X.calm=true) (S:Bm X N' src sc)
  (hi:PI X tg iter wi) (hg:∀s3 H3 fp pn,PG (cxC X N' sc s3 H3 fp pn) tg g) (ht:∀s3 H3 fp pn,PF (cxC X N' sc s3 H3 fp pn) ifs tt) (he:∀s3 H3 fp pn,PE (cxC X N' sc s3 H3 fp pn) elt te)
  (hs:∀x,foldedSetIterable iter X.env x=pure x) {pins:List (Addr×Obj)} {s:Shared} {σ : St} {H:Hp} {Q:VK} (I:Inv X pins σ H s) (h:bw wi src g tt te σ H Q)
  (fin:∀s3 H3 fp σ4 H4 s5 l,Inv X pins σ H3 s3->(∀b∈fp,GC X pins H3 b)->Inv (cxC X N' sc s3 H3 fp (X.pn++pins)) [] σ4 H4 s5->Q (.ref l) H4 ->
   compPost (model X.prog X.w) X.A X.xe use R (.ref l) s3.heap.objs.size (.ok .next) s5) :
  wpAny (model X.prog X.w) X.A (comprehension (.ListComp elt [⟨tg,iter,ifs,0⟩] sc pos) sc X.env pos' (newList []) false (eval iter X.env) use) R X.xe s:=by
 refine wpAny_comprehension_free (use:=use) (cl:=Ey X.env sc.names []) rfl hs (Pg λp hp e=>I.ok.has p.1 (S.fv p hp e)) S.kind S.loc ?_
 refine thn (hi pins s σ H _ I h) λv s1 h1=>thn h1 λitv s2 h2=>?_
 obtain⟨it,fp,tn,J,H2,rfl,I2,T,st2,f2,q⟩:=h2
 have q':=q s2.heap.objs.size (I2.hok.fresh (Qcq _))
 unfold Gd at q'
 obtain⟨W,⟨m0,w0⟩,turn⟩:=q'
 refine Qbn (wpAny_newFunctionEnv S.IW (by intro y hy;simp at hy) (λha hns hsb=>?_) S.kind)
 have I3:Inv X pins σ (upd H2 s2.heap.objs.size (.lst [])) { s2 with heap:=s2.heap.push { cls:=.type "list",dict:=none,data:=.seq ([]:List Value).toArray } }:=
  I2.laid (t':=s2.toks) (λb u e=>Qav _ e) (Qcq _) ⟨Qcr _,[],0,.nil,QaI _ rfl⟩
 have hfl:∀b∈fp,b < s2.heap.objs.size:=λb hb=>by
  obtain⟨o,e,_⟩:=T.obj 0 _ st2 b hb
  exact Qch e
 have f3:∀b∈fp,GC X pins (upd H2 s2.heap.objs.size (.lst [])) b:=λb hb=>⟨by rw[Al (Qcj (hfl b hb))];exact (f2 b hb).1,(f2 b hb).2⟩
 generalize hs3:({ s2 with heap:=s2.heap.push { cls:=.type "list",dict:=none,data:=.seq ([]:List Value).toArray } }:Shared)=s3 at *
 have hsz:s2.heap.objs.size < s3.heap.objs.size:=by rw[<-hs3];show s2.heap.objs.size < (s2.heap.push _).objs.size;rw[QbT];exact Qby _
 have kp:∀b o,s3.heap.get? b=some o->ha.get? b=some o:=λb o e=>hsb.extBut b o (Qcj (Qch e)) (Qav _ e)
 have st3:tn 0 ha:=T.keep 0 _ _ st2 λb hb o e=>kp b o (by rw[<-hs3];exact Qav _ e)
 have I4:Inv (cxC X N' sc s3 (upd H2 s2.heap.objs.size (.lst [])) fp (X.pn++pins)) [] (JD src σ) (upd H2 s2.heap.objs.size (.lst [])) { s3 with heap:=ha,toks:=s3.toks+([]:List (Str×Value)).length }:=
  R6 S I3 f3 (λb hb=>Nat.lt_trans (hfl b hb) hsz) hns kp
 have loop:codeAny (model X.prog X.w) X.A (.compLoop (.ListComp elt [⟨tg,iter,ifs,0⟩] sc pos) 0 (.ref it) (.ref s2.heap.objs.size) (compEnvC sc (Ey X.env sc.names []) s3.heap.objs.size X.env))
   (compPost (model X.prog X.w) X.A X.xe use R (.ref s2.heap.objs.size) s3.heap.objs.size) { s3 with heap:=ha,toks:=s3.toks+([]:List (Str×Value)).length }:=by
  refine jz (λn s'=>∃i σ' H',Inv (cxC X N' sc s3 (upd H2 s2.heap.objs.size (.lst [])) fp (X.pn++pins)) [] σ' H' s'/\tn i s'.heap/\(∀b∈fp,H' b=none)/\W i n σ' H') ?_ m0 ⟨0,_,_,I4,st3,λb hb=>(f3 b hb).1,w0⟩
  rintro n s4 ⟨i,σ4,H4,J4,st4,fr4,w4⟩
  have stat:∀{H':Hp},(∀b∈fp,H' b=none)->∀b∈fp,GC (cxC X N' sc s3 (upd H2 s2.heap.objs.size (.lst [])) fp (X.pn++pins)) [] H' b:=λhn b hb=>
   ⟨hn b hb,(I4.ok.exf b hb).1,I4.ok.Kr b hb,.inl hb,λx c e=>(I4.ok.exf b hb).2 x c e,λp hp=>(f3 b hb).2.2.2.2.2 p ((QbD.mp hp).elim id λz=>by cases z)⟩
  rcases turn i n σ4 H4 w4 with⟨stop,qn⟩|⟨go,N,hN,step⟩
  ·refine thn (T.done (cxC X N' sc s3 (upd H2 s2.heap.objs.size (.lst [])) fp (X.pn++pins)) rfl rfl rfl hc i [] s4 σ4 H4 _ J4 (stat fr4) st4 stop) λr s5 ⟨hr,J5⟩=>?_
   subst hr
   exact fin s3 _ fp σ4 H4 s5 _ I3 f3 J5 qn
  ·refine thn (T.item (cxC X N' sc s3 (upd H2 s2.heap.objs.size (.lst [])) fp (X.pn++pins)) rfl rfl rfl hc i [] s4 σ4 H4 _ J4 (stat fr4) st4 go) λr s5 ⟨u,hr,h5⟩=>?_
   subst hr
   refine thn h5 λ_ s6 ⟨x,H6,J6,r6,y6,st6,fr6⟩=>?_
   have J6':=J6.pinned (stat fr6) (T.obj _ _ st6)
   have back:∀{pl:List (Addr×Obj)} {σ7:St} {H7:Hp} {s7:Shared},Inv (cxC X N' sc s3 (upd H2 s2.heap.objs.size (.lst [])) fp (X.pn++pins)) ([]++Mx fp s6.heap) σ7 H7 s7->N σ7 H7 ->
     ∃m',m' < n/\∃i σ' H',Inv (cxC X N' sc s3 (upd H2 s2.heap.objs.size (.lst [])) fp (X.pn++pins)) [] σ' H' s7/\tn i s7.heap/\(∀b∈fp,H' b=none)/\W i m' σ' H':=λ{pl σ7 H7 s7} J7 w7=>by
    obtain⟨m',hm,w7⟩:=hN _ _ w7
    have pinned:∀b∈fp,∀o,s6.heap.get? b=some o->s7.heap.get? b=some o/\H7 b=none:=λb hb o e=>by
     have:=J7.pin (b,o) (QaA _ (QaA _ (JN hb e)))
     exact⟨this.1,this.2.1⟩
    refine⟨m',hm,i+1,σ7,H7,J7.Ht,T.keep _ _ _ st6 λb hb o e=>(pinned b hb o e).1,λb hb=>?_,w7⟩
    obtain⟨o,e,_⟩:=T.obj _ _ st6 b hb
    exact (pinned b hb o e).2
   refine thn (hg s3 _ fp _ _ s6 σ4 H6 x u _ J6' r6 (step x H6 y6)) λ_ s7 ⟨σ7,H7,J7,q7⟩=>?_
   refine thn (ht s3 _ fp _ _ s7 σ7 H7 _ J7 q7) λok s8 ⟨H8,J8,q8⟩=>?_
   cases ok with
   | false=>
    rw[if_neg QaS] at q8 ⊢
    exact back (pl:=[]) J8 q8
   | true=>
    rw[if_pos rfl] at q8 ⊢
    refine thn (he s3 _ fp _ _ s8 σ7 H8 _ J8 q8) λy s9 ⟨yv,H9,J9,r9,xs,hl9,hz9,q9⟩=>?_
    refine thn (Cg _ s9 σ7 H9 (.ref s2.heap.objs.size) [yv] (.ref s2.heap.objs.size) [y] (λ_ H'=>N σ7 H') J9 rfl (.cons r9 .nil) ⟨_,xs,yv,rfl,rfl,hl9,hz9,q9⟩) λ_ s10 ⟨_,H10,J10,_,q10⟩=>?_
    exact back (pl:=[]) J10 q10
 exact codeAny_compStart_list loop (T.self X.A 0 _ _ _ st3 loop)
theorem Cq {X:Cx} {N':List Str} {src:List (Option Nat)} {sc:Scope} {elt tg iter:Expr} {ifs:List Expr} {pos:Pos} {wi:TI} {g:TG} {tt:TT} {te:TE} (hc:X.calm=true) (S:Bm X N' src sc)
  (hi:PI X tg iter wi) (hg:∀s3 H3 fp pn,PG (cxC X N' sc s3 H3 fp pn) tg g) (ht:∀s3 H3 fp pn,PF (cxC X N' sc s3 H3 fp pn) ifs tt) (he:∀s3 H3 fp pn,PE (cxC X N' sc s3 H3 fp pn) elt te)
  (hs:∀x,foldedSetIterable iter X.env x=pure x:=by intro _;rfl):PE X (.ListComp elt [⟨tg,iter,ifs,0⟩] sc pos) (bw wi src g tt te):=by
 intro pins s σ H Q I h
 rw[eval_ListComp]
 refine Vn (use:=none) hc S hi hg ht he hs I h λs3 H3 fp σ4 H4 s5 l I3 f3 J5 q=>?_
 obtain⟨m,hn,_⟩:=J5.loc
 exact⟨m,hn,λh' sb=>⟨.ref l,H4,Qs I3 f3 J5 sb,rfl,q⟩⟩
theorem Z0 {X:Cx} {N':List Str} {src:List (Option Nat)} {sc:Scope} {elt tg iter:Expr} {ifs:List Expr} {pos spos px:Pos} {wi:TI} {g:TG} {tt:TT} {te:TE} {i:Nat} {x:Str} (hN:X.N.Nodup) (hi0:X.N[i]?=some x) (hx:Loc X.env.scope x) (hc:X.calm=true) (S:Bm X N' src sc)
  (hi:PI X tg iter wi) (hg:∀s3 H3 fp pn,PG (cxC X N' sc s3 H3 fp pn) tg g) (ht:∀s3 H3 fp pn,PF (cxC X N' sc s3 H3 fp pn) ifs tt) (he:∀s3 H3 fp pn,PE (cxC X N' sc s3 H3 fp pn) elt te)
  (hsw:swapsWith (.ListComp elt [⟨tg,iter,ifs,0⟩] sc pos) (some (.Name x px)) spos.line X.env=pure true:=by rfl) (hs:∀x,foldedSetIterable iter X.env x=pure x:=by intro _;rfl)
  (hf:X.fn x=true\/X.env.scope.names.lookup x=some .local:=by first | exact .inl rfl | exact .inr rfl | assumption) :
  PS X (.Assign [.Name x px] (.ListComp elt [⟨tg,iter,ifs,0⟩] sc pos) spos) (bA (bw wi src g tt te) (Ii i)):=by
 intro pins s σ H D I h
 rw[exec_Assign_Name_used _ _ _ _ hsw]
 refine Qcv (Qce (Qcv ?_))
 show wpAny _ X.A (do let _ <-comprehension (.ListComp elt [⟨tg,iter,ifs,0⟩] sc pos) sc X.env _ (newList []) false (eval iter X.env) (some (assign (.Name x px) X.env))) _ _ s
 refine Qcv (thn (Vn (R:=λ_ s'=>SP X pins D .next s') hc S hi hg ht he hs I h λs3 H3 fp σ4 H4 s5 l I3 f3 J5 q=>?_) λ_ s' hq=>Qcw (Qcw hq))
 obtain⟨m,⟨oC,es,ep,hoC,r⟩,_⟩:=J5.loc
 have I6:Inv X pins σ H4 { s5 with heap:=s5.heap }:=Qs I3 f3 J5 (Heap.SameBut.refl _ _)
 have hCn:H4 s3.heap.objs.size=none:=J5.free
 have neL:s3.heap.objs.size≠X.env.locals:=Qcm I3.lt
 have mQ:∀v,oC.data≠.cell v:=λv z=>by rw[r.1] at z;cases z
 have I7:Inv X (pins++[(s3.heap.objs.size,oC)]) σ H4 s5:=I6.QT λp hp=>(QbD.mp hp).elim (λz=>I6.pin p (QaA _ z)) λz=>by
  cases QaX.mp z
  exact⟨hoC,hCn,neL,I3.mJ (Qcq _),mQ⟩
 show wpAny _ X.A (assign (.Name x px) X.env (.ref l)) _ _ s5
 refine wpAny_assign_Name (Ml (v:=.ref l) I7 hN hi0 hx rfl (λs6 I8=>?_) hf)
 have k8:=(I8.pin (s3.heap.objs.size,oC) (QaA _ (QaA _ (QaX.mpr rfl)))).1
 refine⟨m,⟨oC,es,ep,k8,r⟩,λh' sb=>⟨_,H4,?_,q⟩⟩
 have I9:=I8.Ht
 refine I9.turned (t':=s6.toks) (λb o hb e=>sb.extBut b o hb e) hCn neL (.inr I3.sz) (λy c e z=>?_) (λp hp z=>?_)
 ·obtain⟨v,o,ho,_⟩:=I3.cell y c e
  exact absurd (Qch ho) (by rw[z];exact Qcb _)
 ·have:=(I3.pin p hp).1
  exact absurd (Qch this) (by rw[z];exact Qcb _)
theorem Bm.of {X:Cx} {N':List Str} {src:List (Option Nat)} {sc:Scope} (fsc:Scope) (N:List Str) (hX:X.env.scope=fsc) (hN:X.N=N) (kind:sc.kind=.function) (IW:∀y∈sc.names,y.2≠.cell) (loc:∀y∈sc.names,y.2=.local->sc.names.lookup y.1=some .local)
  (fv:∀y∈sc.names,y.2=.free->fsc.names.lookup y.1=some .cell) (len:src.length=N'.length)
  (sr:((N'.zip src).all λp=>match p.2 with | none=>true | some j=>decide (N[j]?=some p.1)&&decide (sc.names.lookup p.1=some .free))=true):Bm X N' src sc where
 kind:=kind
 IW:=IW
 loc:=loc
 fv:=λy hy e=>.inl (by show X.env.scope.names.lookup y.1=some .cell;rw[hX];exact fv y hy e)
 len:=len
 src:=λi x j e1 e2=>by
  rw[List.all_eq_true] at sr
  have hm:(x,some j)∈N'.zip src:=by
   refine QaD (i:=i) ?_
   rw[List.getElem?_zip_eq_some]
   exact⟨e1,e2⟩
  have:=sr _ hm
  simp only[Qbw,decide_eq_true_eq] at this
  rw[hN]
  exact this
section
variable {X:Cx}
@[irreducible] def Nx (K:PySem.W.Frag):List V->Hp->VK->Prop:=λxs H Q=>∃x T t b,xs=[x,.ty T]/\Ku K H x t/\kitOne K t (.type T)=some b/\Q (.bl b) H
theorem Ph:Eb X (.builtin "isinstance") (Nx X.K):=by
 intro pins s σ H xs us Q I r h
 unfold Nx at h
 obtain⟨x,T,t,b,rfl,ty,e,q⟩:=h
 obtain⟨u,w',rfl,rx,rt⟩:=vals2 r
 cases rt
 exact iH I rx ty e λtk=>⟨.bl b,H,I.tok tk,rfl,q⟩
theorem Y0 {K:PySem.W.Frag}:kitOne K (.type "int") (.type "int")=some true:=by rfl
theorem XS {K:PySem.W.Frag}:kitOne K (.type "int") (.type "bool")=some false:=by rfl
theorem X3 {K:PySem.W.Frag}:kitOne K (.type "bool") (.type "int")=some true:=by rfl
theorem VN {K:PySem.W.Frag}:kitOne K (.type "bool") (.type "bool")=some true:=by rfl
theorem XQ {K:PySem.W.Frag}:kitOne K (.type "NoneType") (.type "int")=some false:=by rfl
theorem YZ {K:PySem.W.Frag}:kitOne K (.type "str") (.type "int")=some false:=by rfl
theorem XR {K:PySem.W.Frag}:kitOne K (.type "list") (.type "int")=some false:=by rfl
theorem VH {K:PySem.W.Frag}:kitOne K (.type "tuple") (.type "int")=some false:=by rfl
theorem Ut {K:PySem.W.Frag}:kitOne K (.type "NoneType") (.type "tuple")=some false:=by rfl
theorem Uv {K:PySem.W.Frag}:kitOne K (.type "bool") (.type "tuple")=some false:=by rfl
theorem VL {K:PySem.W.Frag}:kitOne K (.type "int") (.type "tuple")=some false:=by rfl
theorem VJ {K:PySem.W.Frag}:kitOne K (.type "str") (.type "tuple")=some false:=by rfl
theorem Uu {K:PySem.W.Frag}:kitOne K (.type "list") (.type "tuple")=some false:=by rfl
theorem Tn {K:PySem.W.Frag}:kitOne K (.type "tuple") (.type "tuple")=some true:=by rfl
def Kn (H:Hp):V->Prop
 | .non=>True
 | .bl _=>True
 | .int _=>True
 | .str _=>True
 | .ref a=>(∃xs,H a=some (.lst xs))\/∃xs,H a=some (.tup xs)
 | _=>False
def isI:V->Bool
 | .int _=>true
 | .bl _=>true
 | _=>false
def isB:V->Bool
 | .bl _=>true
 | _=>false
def isW:V->Bool
 | .int _=>true
 | _=>false
def Ho (H:Hp):V->Option (List V)
 | .ref a=>match H a with
  | some (.tup xs)=>some xs
  | _=>none
 | _=>none
theorem Dp {H:Hp} {a:Addr} {xs:List V} (h:H a=some (.tup xs)):Ho H (.ref a)=some xs:=by
 show (match H a with | some (.tup xs)=>some xs | _=>none)=some xs
 rw[h]
theorem U8 {H:Hp} {a:Addr} {xs:List V} (h:H a=some (.lst xs)):Ho H (.ref a)=none:=by
 show (match H a with | some (.tup xs)=>some xs | _=>none)=none
 rw[h]
theorem RM {H:Hp} {v:V} {xs:List V} (h:Ho H v=some xs):∃a,v=.ref a/\H a=some (.tup xs):=by
 cases v with
 | ref a=>
  refine⟨a,rfl,?_⟩
  have h':(match H a with | some (.tup xs)=>some xs | _=>none)=some xs:=h
  split at h'
  ·rename_i e;cases h';exact e
  ·cases h'
 | _=>cases h
theorem Kn.same {H H':Hp} {v:V} (s:Same H H') (k:Kn H v):Kn H' v:=by
 cases v with
 | ref a=>exact k.imp (λ⟨xs,e⟩=>⟨xs,s _ _ e⟩) λ⟨xs,e⟩=>⟨xs,s _ _ e⟩
 | _=>exact k
theorem uo {K:PySem.W.Frag} {H:Hp} {x:V} {Q:VK} (k:Kn H x) (q:Q (.bl (isI x)) H):Nx K [x,.ty "int"] H Q:=by
 unfold Nx
 cases x with
 | non=>exact⟨_,_,_,_,rfl,.non,XQ,q⟩
 | bl b=>exact⟨_,_,_,_,rfl,.bl b,X3,q⟩
 | int i=>exact⟨_,_,_,_,rfl,.int i,Y0,q⟩
 | str z=>exact⟨_,_,_,_,rfl,.str z,YZ,q⟩
 | ref a=>
  rcases k with⟨xs,e⟩|⟨xs,e⟩
  ·exact⟨_,_,_,_,rfl,.lst e,XR,q⟩
  ·exact⟨_,_,_,_,rfl,.tup e,VH,q⟩
 | _=>exact k.elim
theorem o9 {K:PySem.W.Frag} {H:Hp} {x:V} {Q:VK} (k:isI x=true) (q:Q (.bl (isB x)) H):Nx K [x,.ty "bool"] H Q:=by
 unfold Nx
 cases x with
 | bl b=>exact⟨_,_,_,_,rfl,.bl b,VN,q⟩
 | int i=>exact⟨_,_,_,_,rfl,.int i,XS,q⟩
 | _=>cases k
theorem iI {K:PySem.W.Frag} {H:Hp} {x:V} {Q:VK} (k:Kn H x) (q:Q (.bl (Ho H x).isSome) H):Nx K [x,.ty "tuple"] H Q:=by
 unfold Nx
 cases x with
 | non=>exact⟨_,_,_,_,rfl,.non,Ut,q⟩
 | bl b=>exact⟨_,_,_,_,rfl,.bl b,Uv,q⟩
 | int i=>exact⟨_,_,_,_,rfl,.int i,VL,q⟩
 | str z=>exact⟨_,_,_,_,rfl,.str z,VJ,q⟩
 | ref a=>
  rcases k with⟨xs,e⟩|⟨xs,e⟩
  ·rw[U8 e] at q
   exact⟨_,_,_,_,rfl,.lst e,Uu,q⟩
  ·rw[Dp e] at q
   exact⟨_,_,_,_,rfl,.tup e,Tn,q⟩
 | _=>exact k.elim
theorem Yw:∀{bs:List Bool} {us:List Value},Vals (bs.map V.bl) us->LSm.BoolsAre us bs
 | [],_,.nil=>.nil
 | b::r,_,.cons h t=>by
  cases (show _=Value.bool b from h)
  exact .cons b (Yw t)
theorem HW (hc:X.calm=true):Eb X (.builtin "all") (λxs H Q=>∃(p:Addr) (bs:List Bool),xs=[.ref p]/\SqL X.K H p (bs.map V.bl)/\Q (.bl (bs.all id)) H):=by
 intro pins s σ H xs us Q I r h
 obtain⟨p,bs,rfl,hq,q⟩:=h
 obtain⟨u,rfl,rx⟩:=vals1 r
 cases rx
 obtain⟨its,rv,pl,hz⟩:=I.list hq
 have hb:=Yw rv
 have hl:=pl.isList
 have hlt:p < s.heap.objs.size:=by obtain⟨_,e,_⟩:=hl;exact Qch e
 refine call_all_walk (Qbp hl ?_)
 refine⟨s.heap.objs.size,[s.heap.objs.size,p],[s.heap.objs.size],its.toArray.size,_,_,λi=>(bs[i]?).getD true,rfl,Walks.list (A:=X.A.in1) (I.ok.hd hc) _ p (Qcj hlt) its.toArray,
  ⟨⟨_,QaI _ rfl,rfl,rfl⟩,hl.push _⟩,λi v s' Q' E' hP hQ=>?_,λh' tk hk=>?_⟩
 ·obtain⟨b,e,rfl⟩:=hb.get i v (by simpa using hP)
  simp only[e,Option.getD_some] at hQ
  exact Qbm hQ
 ·have e:((List.range its.toArray.size).all λi=>(bs[i]?).getD true)=bs.all id:=by
   rw[Qbg,hb.length];exact LSm.range_all bs
  rw[e]
  exact⟨.bl (bs.all id),H,I.kept (LSm.kept_iter hk),rfl,q⟩
def vR (K:PySem.W.Frag):R2:=λx y H Q=>∃a b ys,x=.ref a/\y=.ref b/\SqT K H a []/\SqT K H b ys/\Q (.ref b) H
theorem lX:OpR X (binaryOp .Add) (vR X.K):=by
 intro pins s σ H x y v u Q I rx ry h
 obtain⟨a,b,ys,rfl,rfl,ha,hb,q⟩:=h
 cases rx
 cases ry
 obtain⟨its,r1,p1,_⟩:=I.tuple ha
 obtain⟨its2,r2,p2,_⟩:=I.tuple hb
 cases r1
 obtain⟨⟨cls,dd,data,sl⟩,ho,hc,n,hd⟩:=id p1
 obtain⟨⟨cls2,dd2,data2,sl2⟩,ho2,hc2,n2,hd2⟩:=id p2
 simp only at hc hd hc2 hd2
 subst hc hd hc2 hd2
 exact concat_meets ⟨_,ho,rfl⟩ ⟨_,ho2,rfl⟩ noFill_tuple_add seq_tuple_add PySem.F.slot_tuple_add PySem.F.entry_tuple_add (PySem.F.args_tuple_add_2 _ _)
  (tuple_addW0 a b #[] its2.toArray n n2 dd dd2 sl sl2 rfl) ⟨ho,ho2,⟨.ref b,H,I,rfl,q⟩⟩
theorem M5:OpR X (binaryOp .Add) (λx y H Q=>∃a b xs ys,x=.ref a/\y=.ref b/\H a=some (.tup xs)/\H b=some (.tup ys)/\xs.length+ys.length<=sizeLine /\
  ∀p H',H' p=some (.tup (xs++ys))->Same H H'->Q (.ref p) H'):=by
 intro pins s σ H x y v u Q I rx ry h
 obtain⟨a,b,xs,ys,rfl,rfl,ha,hb,hz,q⟩:=h
 cases xs with
 | nil=>exact lX pins s σ H _ _ v u Q I rx ry ⟨a,b,ys,rfl,rfl,SqT.of ha,SqT.of hb,q b H hb (Same.refl H)⟩
 | cons x0 xr=>
  refine sI pins s σ H _ _ v u Q I rx ry ⟨a,b,x0::xr,ys,rfl,rfl,SqT.of ha,SqT.of hb,(λz=>by cases z),hz,λz=>?_,λz p hp=>?_⟩
  ·subst z
   exact q a H (by rw[QbF];exact ha) (Same.refl H)
  ·refine q p _ Ac λc o e=>?_
   rw[Al (Av e hp)]
   exact e
mutual
inductive Rep (H:Hp):V->PyData->Prop
 | non:Rep H .non .none
 | bl (b:Bool):Rep H (.bl b) (.bool b)
 | int (i:Int):Rep H (.int i) (.int i)
 | str (x:Str):Rep H (.str x) (.str x)
 | tup {a:Addr} {xs:List V} {ds:List PyData}:H a=some (.tup xs)->Lh H xs ds->Rep H (.ref a) (.tuple ds)
 | lst {a:Addr} {xs:List V} {ds:List PyData}:H a=some (.lst xs)->Lh H xs ds->Rep H (.ref a) (.list ds)
inductive Lh (H:Hp):List V->List PyData->Prop
 | nil:Lh H [] []
 | cons {x:V} {d:PyData} {xs:List V} {ds:List PyData}:Rep H x d->Lh H xs ds->Lh H (x::xs) (d::ds)
end
mutual
theorem Rep.reads {P:Program} {w:World} {H:Hp} {h:Heap} (ok:HOk P w H h):∀{v:V} {d:PyData} {u:Value},Rep H v d->RelV v u->∃as,Reads h u d as
 | _,_,_,.non,r=>by cases (show _=Value.none from r);exact⟨_,.none⟩
 | _,_,_,.bl b,r=>by cases (show _=Value.bool b from r);exact⟨_,.bool b⟩
 | _,_,_,.int i,r=>by obtain⟨t,rfl⟩:=(show ∃t,_=Value.int i t from r);exact⟨_,.int i t⟩
 | _,_,_,.str x,r=>by obtain⟨t,rfl⟩:=(show ∃t,_=Value.str x t from r);exact⟨_,.str x t⟩
 | _,_,_,.tup (a:=a) (xs:=xs) e q,r=>by
  cases (show _=Value.ref a from r)
  obtain⟨_,its,rv,o,ho,hc,n,hd⟩:=(show Bp P w H h a (.tup xs) from ok a _ e)
  obtain⟨as,z⟩:=Lh.reads ok q rv
  exact⟨_,.tuple ho hc hd (by simpa using z)⟩
 | _,_,_,.lst (a:=a) (xs:=xs) e q,r=>by
  cases (show _=Value.ref a from r)
  obtain⟨_,its,n,rv,ho⟩:=(show Bp P w H h a (.lst xs) from ok a _ e)
  obtain⟨as,z⟩:=Lh.reads ok q rv
  exact⟨_,.list ho rfl rfl (by simpa using z)⟩
theorem Lh.reads {P:Program} {w:World} {H:Hp} {h:Heap} (ok:HOk P w H h):∀{xs:List V} {ds:List PyData} {us:List Value},Lh H xs ds->Vals xs us->∃as,ReadsAll h us ds as
 | _,_,_,.nil,.nil=>⟨_,.nil⟩
 | _,_,_,.cons p q,.cons r t=>by
  obtain⟨as,a1⟩:=Rep.reads ok p r
  obtain⟨bs,b1⟩:=Lh.reads ok q t
  exact⟨_,.cons a1 b1⟩
end
theorem wu (hu:X.A.units+64 < cLine):OpR X (compareOp .Eq) (λx y H Q=>∃d e,Rep H x d/\Rep H y e/\SeqAt.shaped d=true/\SeqAt.shaped e=true/\Q (.bl (PyData.eqv d e)) H):=by
 intro pins s σ H x y v u Q I rx ry h
 obtain⟨d,e,p,p',sd,se,q⟩:=h
 obtain⟨as,r1⟩:=p.reads I.hok rx
 obtain⟨bs,r2⟩:=p'.reads I.hok ry
 exact eq_dataH r1 r2 sd se hu ⟨.bl (PyData.eqv d e),H,I,rfl,q⟩
theorem gH (hu:X.A.units+64 < cLine):OpR X (compareOp .NotEq) (λx y H Q=>∃d e,Rep H x d/\Rep H y e/\SeqAt.shaped d=true/\SeqAt.shaped e=true/\Q (.bl (!PyData.eqv d e)) H):=by
 intro pins s σ H x y v u Q I rx ry h
 obtain⟨d,e,p,p',sd,se,q⟩:=h
 obtain⟨as,r1⟩:=p.reads I.hok rx
 obtain⟨bs,r2⟩:=p'.reads I.hok ry
 exact ne_dataH r1 r2 sd se hu ⟨.bl (!PyData.eqv d e),H,I,rfl,q⟩
end
structure Code (K:PySem.W.Frag) (mg:Str->Option Value) (x:Str) (st:Stmt) (ps:List Str):Prop where
 ex:∃(f:Addr) (fd:FuncData),Fun K x x st f fd/\mg x=some (.ref f)/\Binds K fd ps []
structure Good (P:Program) (w:World) (K:PySem.W.Frag) (mg:Str->Option Value) (base:Heap) (x:Str) (k:Nat) (ps:List Str) (sp:Sp):Prop where
 ex:∃(f:Addr) (fd:FuncData),mg x=some (.ref f)/\keepIn K (.ref f)=true/\Binds K fd ps []/\GD P w K mg base CX0 k f fd ps sp
theorem Code.good {P:Program} {w:World} {K:PySem.W.Frag} {mg:Str->Option Value} {base:Heap} {x:Str} {st:Stmt} {ps N:List Str} {k:Nat} {sp:Sp} (C:Code K mg x st ps) (S:Ba N ps (Ag st)) (len:∀vs H Q E,sp vs H Q E->vs.length=ps.length)
  (hbody:∀(f:Addr) (cdv:Value) (A:Around) (outer:List Env) (s:Shared) (H:Hp) (vs:List V) (Q:VK) (E:XK),Cu k (A.deeper (envOfC x (Ag st) s.heap.objs.size f cdv))->sp vs H Q E ->
   ∃t,PSs (Lf CX0 P w K mg base N x (Ag st) f cdv A outer s H E).nox (Ax st) t/\t { nx:=λ_ H'=>Q .non H',rt:=Q } (start N vs) H):Good P w K mg base x (k+1) ps sp:=by
 obtain⟨f,fd,F,m,b⟩:=C.ex
 exact⟨f,fd,m,F.kp,b,F.ok S len λcdv A outer s H vs Q E hr h=>hbody f cdv A outer s H vs Q E hr h⟩
theorem Ay {X:Cx} {k k':Nat} {ps:List Str} {sp:Sp} {x:Str} {p pos:Pos} {e:Expr} {es:List Expr} {t:TA} (g:Good X.prog X.w X.K X.mg X.base x k ps sp) (hr:Cu k' X.A) (ha:PA X (e::es) t) (hk:k<=k':=by decide) (hg:Gl X x:=by rfl)
  (hdb:(x == ("__debug__":Str))=false:=by decide) (he:starEach (e::es) X.env=(false,eval e X.env)::starEach es X.env:=by rfl) (hpl:(backTo pos (starEach es X.env)).any (·.1)=false:=by rfl) :
  PE X (.Call (.Name x p) (e::es) [] pos) (bx sp [] E0 t):=by
 intro pins s σ H Q I h
 obtain⟨f,fd,m,kp,b,F⟩:=g.ex
 exact sy F (hr.mono hk) hg m kp b .nil V6 ha hdb he hpl pins s σ H Q I h
theorem Code.of {K:PySem.W.Frag} {mg:Str->Option Value} {h:Heap} {x:Str} {st:Stmt} {ps:List Str} {f:Addr} {oc:Value} {od an:Option Addr} {osl:Array (Option Value)} {kV doc pm cdv ct:Value} (X:K.In h) (G:h.Ns mainGlobals mg)
  (a:nsIn K mainGlobals x=some (some (.ref f))) (l:K.lookup f=some ⟨oc,od,.func (fnOf x x (Az st) (Ax st) (Ag st) .none kV doc pm an cdv ct),osl⟩) (c:codeIn K cdv x=true) (k:keepIn K (.ref f)=true)
  (hb:∀(kV doc pm:Value) (an:Option Addr) (cdv ct:Value) (us:List Value),us.length=ps.length->bindArgs (fnOf x x (Az st) (Ax st) (Ag st) .none kV doc pm an cdv ct) ⟨us,[]⟩=pure (ps.zip us)):Code K mg x st ps:=by
 have F:=GX (st:=st) l c k
 exact⟨f,_,F,mg_of X G a,F.binds hb⟩
theorem Af {H:Hp} {p:Addr} (h:H p=none) (o:HO):Same H (upd H p o):=λb u q=>by rw[Al (Av q h)];exact q
theorem Bm.plain {X:Cx} {N':List Str} {sc:Scope} (kind:sc.kind=.function) (IW:∀y∈sc.names,y.2≠.cell) (loc:∀y∈sc.names,y.2=.local->sc.names.lookup y.1=some .local) (XC:∀y∈sc.names,y.2≠.free) :
  Bm X N' (N'.map λ_=>none) sc where
 kind:=kind
 IW:=IW
 loc:=loc
 fv:=λy hy e=>absurd e (XC y hy)
 len:=by simp
 src:=λi x j _ e=>by
  rw[Qbi] at e
  cases q:N'[i]? with
  | none=>rw[q] at e;cases e
  | some z=>rw[q] at e;cases e
theorem R8 {K:PySem.W.Frag} {a l:Addr} {xs:List V} {g:TG} {tt:TT} {te:TE} {Q:VK} {σ0:St} {H0:Hp} (Pv:Nat->St->Hp->Prop)
  (h0:Pv 0 σ0 H0) (hl:∀i σ H',i<=xs.length->Pv i σ H'->SqT K H' a xs)
  (hs:∀i x σ H',xs[i]?=some x->Pv i σ H'->g x σ H' fun σ3 H3=>tt σ3 H3 λb H4=>if b=true then te σ3 H4 λy H5=>∃ys,H5 l=some (.lst ys)/\ys.length < sizeLine/\Pv (i+1) σ3 (upd H5 l (.lst (ys++[y]))) else Pv (i+1) σ3 H4)
  (hd:∀ σ H',Pv xs.length σ H'->Q (.ref l) H'):Gd (Itt K a) g tt te Q σ0 H0 l:=by
 unfold Gd
 refine⟨λi m σ H'=>m=xs.length - i/\i<=xs.length/\Pv i σ H',⟨xs.length,by simp,Qcr _,h0⟩,?_⟩
 rintro i m σ H' ⟨rfl,hi,p⟩
 have q:=hl i σ H' hi p
 by_cases hlt:i < xs.length
 ·refine .inr ⟨⟨xs,xs[i],q,by simp[hlt]⟩,Pv (i+1),fun σ3 H3 p'=>⟨xs.length - (i+1),by omega,rfl,hlt,p'⟩,λx H2 y=>?_⟩
  obtain⟨e,y⟩:=y
  subst e
  exact hs i x σ _ (y xs q) p
 ·have e:i=xs.length:=by omega
  subst e
  exact .inl ⟨⟨xs,q,Qcq _⟩,hd σ H' p⟩
theorem GJ {K:PySem.W.Frag} {a l:Addr} {xs:List V} {g:TG} {tt:TT} {te:TE} {Q:VK} {σ0:St} {H0:Hp} (Pv:Nat->St->Hp->Prop)
  (h0:Pv 0 σ0 H0) (hl:∀i σ H',i<=xs.length->Pv i σ H'->SqL K H' a xs)
  (hs:∀i x σ H',xs[i]?=some x->Pv i σ H'->g x σ H' fun σ3 H3=>tt σ3 H3 λb H4=>if b=true then te σ3 H4 λy H5=>∃ys,H5 l=some (.lst ys)/\ys.length < sizeLine/\Pv (i+1) σ3 (upd H5 l (.lst (ys++[y]))) else Pv (i+1) σ3 H4)
  (hd:∀ σ H',Pv xs.length σ H'->Q (.ref l) H'):Gd (Itl K a) g tt te Q σ0 H0 l:=by
 unfold Gd
 refine⟨λi m σ H'=>m=xs.length - i/\i<=xs.length/\Pv i σ H',⟨xs.length,by simp,Qcr _,h0⟩,?_⟩
 rintro i m σ H' ⟨rfl,hi,p⟩
 have q:=hl i σ H' hi p
 by_cases hlt:i < xs.length
 ·refine .inr ⟨⟨xs,xs[i],q,by simp[hlt]⟩,Pv (i+1),fun σ3 H3 p'=>⟨xs.length - (i+1),by omega,rfl,hlt,p'⟩,λx H2 y=>?_⟩
  obtain⟨e,y⟩:=y
  subst e
  exact hs i x σ _ (y xs q) p
 ·have e:i=xs.length:=by omega
  subst e
  exact .inl ⟨⟨xs,q,Qcq _⟩,hd σ H' p⟩
theorem Ly {lo:Int} {n:Nat} {l:Addr} {g:TG} {tt:TT} {te:TE} {Q:VK} {σ0:St} {H0:Hp} (Pv:Nat->St->Hp->Prop) (h0:Pv 0 σ0 H0)
  (hs:∀i σ H',i < n->Pv i σ H'->g (.int (lo+i)) σ H' fun σ3 H3=>tt σ3 H3 λb H4=>if b=true then te σ3 H4 λy H5=>∃ys,H5 l=some (.lst ys)/\ys.length < sizeLine/\Pv (i+1) σ3 (upd H5 l (.lst (ys++[y]))) else Pv (i+1) σ3 H4)
  (hd:∀ σ H',Pv n σ H'->Q (.ref l) H'):Gd (Itr lo n) g tt te Q σ0 H0 l:=by
 unfold Gd
 refine⟨λi m σ H'=>m=n - i/\i<=n/\Pv i σ H',⟨n,by simp,Qcr _,h0⟩,?_⟩
 rintro i m σ H' ⟨rfl,hi,p⟩
 by_cases hlt:i < n
 ·refine .inr ⟨hlt,Pv (i+1),fun σ3 H3 p'=>⟨n - (i+1),by omega,rfl,hlt,p'⟩,λx H2 y=>?_⟩
  obtain⟨e,y⟩:=y
  subst e y
  exact hs i σ _ hlt p
 ·have e:i=n:=by omega
  subst e
  exact .inl ⟨Qcq _,hd σ H' p⟩
section
variable {X:Cx}
theorem Vp (hc:X.calm=true):Eb X (.builtin "max") (λxs H Q=>∃(p:Addr) (ns:List Int),xs=[.ref p]/\SqL X.K H p (ns.map V.int)/\0 < ns.length/\∀M,M∈ns->(∀a,a∈ns->a<=M)->Q (.int M) H):=by
 intro pins s σ H xs us Q I r h
 obtain⟨p,ns,rfl,hq,hne,q⟩:=h
 obtain⟨u,rfl,rx⟩:=vals1 r
 cases rx
 obtain⟨its,rv,pl,hz⟩:=I.list hq
 have hi:IntsAre its ns:=intsAre_of rv
 obtain⟨zs,e⟩:=hi.allInts.items
 have hl:=pl.isList
 rw[e] at hl
 have hns:ns=zs.toList.map (·.1):=by rw[<-hi.numsOf,<-nums_intItems,<-e]
 have hsz:0 < zs.size:=by
  have h3:=hne
  rw[hns,QbB,QaK] at h3
  exact h3
 refine max_intList (I.ok.hd hc) hl hsz λv h' tk hv hk=>?_
 obtain⟨t,rfl⟩:=intItems_at hv
 obtain⟨_,h2⟩:=argBest_gt (numAt zs) (zs.size - 1)
 refine⟨.int _,H,I.kept hk,⟨t,rfl⟩,q _ ?_ λa ha=>?_⟩
 ·rw[hns,numAt_eq]
  exact getD_mem (by rw[QbB,QaK];have:=(argBest_gt (numAt zs) (zs.size - 1)).1;omega)
 ·rw[hns] at ha
  obtain⟨j,hj,rfl⟩:=mem_getD ha
  rw[QbB,QaK] at hj
  rw[<-numAt_eq]
  exact h2 j (by omega)
theorem iK:∀{us:List Value} {ns:List Int},IntsAre us ns->Vals (ns.map V.int) us:=λh=>PX h
theorem Yr:Eb X (.builtin "sorted") (λxs H Q=>∃(p:Addr) (ns:List Int),xs=[.ref p]/\SqL X.K H p (ns.map V.int)/\ns.length < 64 /\
  ∀(ms:List Int) l,ms.Perm ns->ms.Pairwise (·<=·)->H l=none->Q (.ref l) (upd H l (.lst (ms.map V.int)))):=by
 intro pins s σ H xs us Q I r h
 obtain⟨p,ns,rfl,hq,h64,q⟩:=h
 obtain⟨u,rfl,rx⟩:=vals1 r
 cases rx
 obtain⟨its,rv,pl,hz⟩:=I.list hq
 have hi:IntsAre its ns:=intsAre_of rv
 have hlen:=hi.length
 refine sorted_ints pl.isList hi (by omega) λout ms a1 a2 a3=>?_
 obtain⟨e,he⟩:=sortedAll_at s.heap its out
 have hml:=a2.length_eq
 refine⟨.ref (s.heap.objs.size+1),_,I.laid (t':=s.toks) (o:=.lst (ms.map V.int)) (λb o q=>sortedAll_old q) (Nat.le_succ _) ?_,rfl,q ms _ a2 a3 (I.hok.fresh (Nat.le_succ _))⟩
 exact⟨by rw[QbB];exact Qcn (Ao (by omega)),out.toList,e,iK a1,he⟩
theorem Zw:∀{ys:List Str} {us:List Value},Vals (ys.map V.str) us->StrsAre us ys
 | [],_,.nil=>.nil
 | y::r,_,.cons h t=>by
  obtain⟨t',e⟩:=(show ∃t,_=Value.str y t from h)
  cases e
  exact .cons y t' (Zw t)
def rJoin (K:PySem.W.Frag):V->List V->Hp->VK->Prop:=λx vs H Q=>∃(z:Str) (p:Addr) (ys:List Str),x=.str z/\vs=[.ref p]/\SqL K H p (ys.map V.str)/\(ys.map (·.length)).sum+ys.length*z.length<=16777216/\Q (.str (Txt.join z ys)) H
theorem uf:MtR X "str.join" (rJoin X.K):=by
 intro pins s σ H x vs v us Q I rx rv h
 obtain⟨z,p,ys,rfl,rfl,hq,hz,q⟩:=h
 obtain⟨t,rfl⟩:=rx
 obtain⟨u,rfl,ru⟩:=rv.one
 cases ru
 obtain⟨its,r',pl,_⟩:=I.list hq
 exact join_list pl.isList (Zw r') hz λt' k=>⟨.str (Txt.join z ys),H,I.tok k,⟨t',rfl⟩,q⟩
def Its (z:Str):It:=⟨λi _=>i < z.cps.size,λi H x H'=>H'=H/\∃c,z.cps[i]?=some c/\x=.str ⟨#[c]⟩,λi _=>i=z.cps.size⟩
def K0 (tl:TE):TI:=fun σ H R=>tl σ H λx H1=>∃z,x=.str z/\R (Its z) H1
end
section
variable {X:Cx} {tg:Expr}
theorem Wj {P:Program} {w:World} {K:PySem.W.Frag} {tg:Expr} (z:Str) (t:Tok) (it:Addr) (ty:String) (hty:["enumerate","zip","dict_itemiterator","dict_reverseitemiterator","odict_iterator","itertools.zip_longest","itertools.pairwise"].contains ty=false)
  (W:∀A':Around,A'.handled=none->Walks P w A' it [it] [it] z.cps.size (SignAt z) (λi h=>h.IsStrIter it ty z t i))
  (hself:∀(A:Around) (i:Nat) (s:Shared) (Q:Value->Shared->Prop) (E:Value->Shared->Prop),s.heap.IsStrIter it ty z t i->Q (.ref it) s->wpAny (model P w) A (pyIter (.ref it)) Q E s) :
  Turn P w K tg (Its z) [it] it (λi h=>h.IsStrIter it ty z t i) where
 mem:=QaX.mpr rfl
 obj:=λi h st b hb=>by
  cases QaX.mp hb
  obtain⟨o,e,c,d⟩:=st
  exact⟨o,e,λv z'=>by rw[d] at z';cases z'⟩
 keep:=λi h h' st k=>by
  obtain⟨o,e,r⟩:=st
  exact⟨o,k it (QaX.mpr rfl) o e,r⟩
 item:=by
  intro X hP hw hK hc i pins s σ H E I hf st hg
  subst hP hw hK
  obtain⟨f0,f1,f2,f3,f4,f5⟩:=hf it (QaX.mpr rfl)
  refine (W X.A (I.ok.hd hc)).item i s _ _ hg st λv h' tk hv st' kk=>?_
  obtain⟨c,u,hcu,rfl⟩:=hv
  have I1:Inv X pins σ H { s with heap:=h',toks:=tk }:=I.turned (λb o hb e=>kk b o (λhm=>hb (QaX.mp hm)) e) f0 f1 f3 f4 f5
  obtain⟨o,e,cl,d⟩:=id st'
  exact⟨_,rfl,Wa (s:={ s with heap:=h',toks:=tk }) e cl d hty ⟨.str ⟨#[c]⟩,H,I1,⟨u,rfl⟩,⟨rfl,c,hcu,rfl⟩,st',λb hb=>(hf b hb).1⟩⟩
 done:=by
  intro X hP hw hK hc i pins s σ H E I hf st hg
  subst hP hw hK
  obtain⟨f0,f1,f2,f3,f4,f5⟩:=hf it (QaX.mpr rfl)
  cases (show i=z.cps.size from hg)
  exact (W X.A (I.ok.hd hc)).done s _ _ st λh' tk kk=>⟨rfl,I.turned (λb o hb e=>kk b o (λhm=>hb (QaX.mp hm)) e) f0 f1 f3 f4 f5⟩
 self:=λA i s Q E st h=>hself A i s Q E st h
theorem gq {l:Expr} {tl:TE} (hl:PE X l tl):PI X tg l (K0 tl):=by
 intro pins s σ H R I h
 refine thn (hl pins s σ H _ I h) λv s1 ⟨x,H1,I1,r1,z,e,q⟩=>?_
 subst e
 obtain⟨t,rfl⟩:=r1
 have fp:∀o:Obj,∀b∈[s1.heap.objs.size],GC X pins H1 b:=λo b hb=>by
  cases QaX.mp hb
  exact I1.Qp (Qcq _) (I1.hok.fresh (Qcq _))
 cases ha:z.cps.all (· < 128) with
 | true=>
  refine wpAny_pyIter_ascii ha ?_
  exact⟨s1.heap.objs.size,[s1.heap.objs.size],_,_,H1,rfl,I1.kept (t':=s1.toks) λb o e=>Qav _ e,Wj z t _ "str_ascii_iterator" (by decide) (λA' hA=>Walks.strAscii hA _ z t) (λ_ _ _ _ _ st h=>wpAny_pyIter_striter_ascii st h),
   ⟨_,QaI _ rfl,rfl,rfl⟩,fp { cls:=.none,data:=.fields #[] },q⟩
 | false=>
  refine wpAny_pyIter_wide ha ?_
  exact⟨s1.heap.objs.size,[s1.heap.objs.size],_,_,H1,rfl,I1.kept (t':=s1.toks) λb o e=>Qav _ e,Wj z t _ "str_iterator" (by decide) (λA' hA=>Walks.strWide hA _ z t) (λ_ _ _ _ _ st h=>wpAny_pyIter_striter_wide st h),
   ⟨_,QaI _ rfl,rfl,rfl⟩,fp { cls:=.none,data:=.fields #[] },q⟩
theorem Yn {z:Str} {l:Addr} {g:TG} {tt:TT} {te:TE} {Q:VK} {σ0:St} {H0:Hp} (Pv:Nat->St->Hp->Prop) (h0:Pv 0 σ0 H0)
  (hs:∀i c σ H',z.cps[i]?=some c->Pv i σ H'->g (.str ⟨#[c]⟩) σ H' fun σ3 H3=>tt σ3 H3 λb H4=>if b=true then te σ3 H4 λy H5=>∃ys,H5 l=some (.lst ys)/\ys.length < sizeLine/\Pv (i+1) σ3 (upd H5 l (.lst (ys++[y]))) else Pv (i+1) σ3 H4)
  (hd:∀ σ H',Pv z.cps.size σ H'->Q (.ref l) H'):Gd (Its z) g tt te Q σ0 H0 l:=by
 unfold Gd
 refine⟨λi m σ H'=>m=z.cps.size - i/\i<=z.cps.size/\Pv i σ H',⟨z.cps.size,by simp,Qcr _,h0⟩,?_⟩
 rintro i m σ H' ⟨rfl,hi,p⟩
 by_cases hlt:i < z.cps.size
 ·refine .inr ⟨hlt,Pv (i+1),fun σ3 H3 p'=>⟨z.cps.size - (i+1),by omega,rfl,hlt,p'⟩,λx H2 y=>?_⟩
  obtain⟨e,c,hc,rfl⟩:=y
  subst e
  exact hs i c σ _ hc p
 ·have e:i=z.cps.size:=by omega
  subst e
  exact .inl ⟨rfl,hd σ H' p⟩
end
end L2
namespace HT
open PySem PyProof.Rows
section
variable {prog:Program} {w:World} {A:Around} {E:Value->Shared->Prop} {s:Shared}
theorem Rj {t sl:Addr} {items:Array Value} {vl vu:Value} {lo hi:Option Int} {Q:Value->Shared->Prop} (ht:IsTup s.heap t items) (hs:s.heap.IsSliceOf sl vl vu .none) (pl:IsPart vl lo) (pu:IsPart vu hi)
  (hw:sIx items.size 0 lo=0/\sIx items.size items.size hi=items.size) (h:Q (.ref t) s):wpAny (model prog w) A (getItem (.ref t) (.ref sl)) Q E s:=by
 obtain⟨os,hos,hcs,hds⟩:=id hs
 have hTs:s.TypeIs (.ref sl) "slice":=⟨os,hos,hcs⟩
 unfold getItem
 try with_reducible refine Qcc ?_
 first | refine Qcv (Qcw ?_) | skip
 refine Qcv (wpAny_sequenceKey ht.typeIs (by decide) ?_)
 refine Qcv (Qar (name:=Str.ofString "__getitem__") ht.typeIs Qab (Qbv Qab ht.typeIs entry_tuple_getitem ?_ (args_tuple_getitem _ _)))
 show wpAny _ _ (Builtin.Tuple.tupleItemsOf (.ref t) >>= _) _ _ s
 refine Qcv (tupleItemsOf_ ht ?_)
 refine Qcv (wpAny_typeOf hTs ?_)
 rw[if_pos (by decide)]
 refine Qcv (Mr hs pl pu ?_)
 rw[hw.1,hw.2]
 show wpAny _ _ (if (((0:Nat):Int) == 0&&(1:Int) == 1&&(items.size - 0) == items.size)=true then _ else _) _ _ s
 rw[if_pos (by simp)]
 refine Qcv ?_
 unfold Builtin.Tuple.tupleIsExact
 refine Qcv (wpAny_typeOf ht.typeIs (Qcw ?_))
 rw[if_pos (by decide)]
 exact Qcv (wpAny_rule (Qcw ⟨_,rfl,Qcw h⟩))
end
end HT
namespace L2
open PySem PySem.Spec PyProof.Rows
section
variable {X:Cx}
theorem Ub:SlR X (λx lo hi H Q=>∃a xs,x=.ref a/\H a=some (.tup xs)/\∀p H',H' p=some (.tup (Jj xs lo hi))->Same H H'->Q (.ref p) H'):=by
 intro pins s σ H x v vl vu lo hi sl Q I rx hs pl pu h
 obtain⟨a,xs,rfl,hx,q⟩:=h
 by_cases hw:HT.sIx xs.length 0 lo=0/\HT.sIx xs.length xs.length hi=xs.length
 ·cases rx
  obtain⟨its,r,ht,hz⟩:=I.tuple (SqT.of hx)
  have hlen:its.toArray.size=xs.length:=by rw[Qbg];exact r.length.symm
  refine⟨"tuple",_,Qab.lookup,ht.typeIs,?_⟩
  refine HT.Rj ht hs pl pu (by rw[hlen];exact hw) ⟨.ref a,H,I,rfl,q a H ?_ (Same.refl H)⟩
  have e:Jj xs lo hi=xs:=by unfold Jj;rw[hw.1,hw.2];simp
  rw[e]
  exact hx
 ·exact vI pins s σ H _ v vl vu lo hi sl Q I rx hs pl pu ⟨a,xs,rfl,SqT.of hx,hw,λp hp=>q p _ Ac (λc o e=>by rw[Al (Av e hp)];exact e)⟩
theorem fP:SlR X (λx lo hi H Q=>∃z,x=.str z/\z.length<=sizeLine/\Q (.str (Txt.slice z lo hi)) H):=by
 intro pins s σ H x v vl vu lo hi sl Q I rx hs pl pu h
 obtain⟨z,rfl,hz,q⟩:=h
 obtain⟨t,rfl⟩:=rx
 refine⟨"str",_,F.slot_str_getitem.lookup,typeIs_str _ _ _,?_⟩
 have fin:∀t' k,EP X pins σ Q (.str (Txt.slice z lo hi) t') { s with toks:=k }:=λt' k=>⟨.str (Txt.slice z lo hi),H,I.tok k,⟨t',rfl⟩,q⟩
 cases pl with
 | none=>
  cases pu with
  | none=>exact Qas (l:=none) (u:=none) (st:=none) hs rfl (post_val_or_str ⟨Qck (Txt.slice_le z _ _) hz,fin⟩)
  | int j tj=>exact Qas (l:=none) (u:=some (j,tj)) (st:=none) hs rfl (post_val_or_str ⟨Qck (Txt.slice_le z _ _) hz,fin⟩)
 | int i ti=>
  cases pu with
  | none=>exact Qas (l:=some (i,ti)) (u:=none) (st:=none) hs rfl (post_val_or_str ⟨Qck (Txt.slice_le z _ _) hz,fin⟩)
  | int j tj=>exact Qas (l:=some (i,ti)) (u:=some (j,tj)) (st:=none) hs rfl (post_val_or_str ⟨Qck (Txt.slice_le z _ _) hz,fin⟩)
end
structure Dv (K:PySem.W.Frag) (C:Addr) (m qn:Str) (st:Stmt) (ps:List Str):Prop where
 ex:∃(f:Addr) (fd:FuncData),Fun K m qn st f fd/\Meth K C m f/\Binds K fd ps []
structure T5 (P:Program) (w:World) (K:PySem.W.Frag) (mg:Str->Option Value) (base:Heap) (C:Addr) (m:Str) (k:Nat) (ps:List Str) (sp:Sp):Prop where
 ex:∃(f:Addr) (fd:FuncData),Meth K C m f/\Binds K fd ps []/\GD P w K mg base CX0 k f fd ps sp
structure dY (P:Program) (w:World) (K:PySem.W.Frag) (mg:Str->Option Value) (base:Heap) (C:Addr) (k:Nat) (ps:List Str) (sp:Sp):Prop where
 ex:∃(f:Addr) (fd:FuncData),Mk K C f/\Binds K fd ps []/\GD P w K mg base CX0 k f fd ps sp
theorem Dv.good {P:Program} {w:World} {K:PySem.W.Frag} {mg:Str->Option Value} {base:Heap} {C:Addr} {m qn:Str} {st:Stmt} {ps N:List Str} {k:Nat} {sp:Sp} (c:Dv K C m qn st ps) (S:Ba N ps (Ag st)) (len:∀vs H Q E,sp vs H Q E->vs.length=ps.length)
  (hbody:∀(f:Addr) (cdv:Value) (A:Around) (outer:List Env) (s:Shared) (H:Hp) (vs:List V) (Q:VK) (E:XK),Cu k (A.deeper (envOfC qn (Ag st) s.heap.objs.size f cdv))->sp vs H Q E ->
   ∃t,PSs (Lf CX0 P w K mg base N qn (Ag st) f cdv A outer s H E).nox (Ax st) t/\t { nx:=λ_ H'=>Q .non H',rt:=Q } (start N vs) H):T5 P w K mg base C m (k+1) ps sp:=by
 obtain⟨f,fd,F,M,b⟩:=c.ex
 exact⟨f,fd,M,b,F.ok S len λcdv A outer s H vs Q E hr h=>hbody f cdv A outer s H vs Q E hr h⟩
theorem RS {X:Cx} {pl:Sem Bool} {k k':Nat} {C:Addr} {ps:List Str} {sp:Sp} {m:Str} {apos pos:Pos} {o e:Expr} {es:List Expr} {ta:TE} {t:TA} (he:PE X o ta) (c:Cls X.K C) (g:T5 X.prog X.w X.K X.mg X.base C m k ps sp) (hr:Cu k' X.A) (ha:PA X (e::es) t) (hk:k<=k':=by decide)
  (hst:starEach (e::es) X.env=(false,eval e X.env)::starEach es X.env:=by rfl) (hpl:(backTo pos (starEach es X.env)).any (·.1)=false:=by rfl)
  (ht:eval (.Call (.Attribute o m apos) (e::es) [] pos) X.env=(do
   let ov <-eval o X.env
   standAt apos.atName
   let (f,first) <-holding [ov] (getMethod ov m pl)
   callWith pos f first (backTo pos (starEach (e::es) X.env)) (backToKw pos (keywordEach [] X.env))):=by rfl) :
  PE X (.Call (.Attribute o m apos) (e::es) [] pos) (V1 C m sp [] E0 ta t):=by
 intro pins s σ H Q I h
 obtain⟨f,fd,M,b,F⟩:=g.ex
 exact rZ (pl:=pl) he c M F (hr.mono hk) b .nil V6 ha hst hpl ht pins s σ H Q I h
theorem vV {X:Cx} {pl:Sem Bool} {k k':Nat} {C:Addr} {ps:List Str} {sp:Sp} {m:Str} {apos pos:Pos} {o:Expr} {ta:TE} (he:PE X o ta) (c:Cls X.K C) (g:T5 X.prog X.w X.K X.mg X.base C m k ps sp) (hr:Cu k' X.A) (hk:k<=k':=by decide)
  (ht:eval (.Call (.Attribute o m apos) [] [] pos) X.env=(do
   let ov <-eval o X.env
   standAt apos.atName
   let (f,first) <-holding [ov] (getMethod ov m pl)
   callWith pos f first (backTo pos (starEach [] X.env)) (backToKw pos (keywordEach [] X.env))):=by rfl) :
  PE X (.Call (.Attribute o m apos) [] [] pos) (V1 C m sp [] E0 ta bh):=by
 intro pins s σ H Q I h
 obtain⟨f,fd,M,b,F⟩:=g.ex
 exact lM (pl:=pl) he c M F (hr.mono hk) b .nil V6 ht pins s σ H Q I h
theorem AS {X:Cx} {k k':Nat} {C:Addr} {ps:List Str} {sp:Sp} {x:Str} {p pos:Pos} {e:Expr} {es:List Expr} {t:TA} (g:dY X.prog X.w X.K X.mg X.base C k ps sp) (hr:Cu k' X.A) (hm:X.mg x=some (.ref C)) (ha:PA X (e::es) t) (hk:k+1<=k':=by decide) (hg:Gl X x:=by rfl)
  (hdb:(x == ("__debug__":Str))=false:=by decide) (he:starEach (e::es) X.env=(false,eval e X.env)::starEach es X.env:=by rfl) (hpl:(backTo pos (starEach es X.env)).any (·.1)=false:=by rfl) :
  PE X (.Call (.Name x p) (e::es) [] pos) (qy C sp [] E0 t):=by
 intro pins s σ H Q I h
 obtain⟨f,fd,M,b,F⟩:=g.ex
 exact su M F (hr.mono hk) hg hm b .nil V6 ha hdb he hpl pins s σ H Q I h
theorem Qg {X:Cx} {x:Str} {v:V} {pos:Pos} (hg:Gl X x) (hm:∃u,X.mg x=some u/\RelV v u) (hd:(x == ("__debug__":Str))=false:=by decide):PE X (.Name x pos) (tC v):=by
 obtain⟨u,h,r⟩:=hm
 exact Ei hg h r hd
theorem Yd:∀{fs:List (Str×V)} {i:Nat} {f:Str} {v:V},(fs.map (·.1)).Nodup->fs[i]?=some (f,v)->fs.lookup f=some v
 | [],_,_,_,_,h=>by simp at h
 | (g,u)::fs,0,f,v,_,h=>by simp at h;obtain⟨rfl,rfl⟩:=h;simp[List.lookup]
 | (g,u)::fs,i+1,f,v,hn,h=>by
  rw[QbZ,QbJ] at hn
  have h':fs[i]?=some (f,v):=by simpa using h
  have hm:f∈fs.map (·.1):=Qci.mpr ⟨(f,v),QaD h',rfl⟩
  have hne:(f == g)=false:=QaJ.mpr λe=>hn.1 (e ▸ hm)
  rw[List.lookup,hne]
  exact Yd hn.2 h'
theorem qT:∀{fs:List (Str×V)} {m:Str},m∉fs.map (·.1)->fs.lookup m=none
 | [],_,_=>rfl
 | (g,u)::fs,m,h=>by
  rw[QbZ,QbY] at h
  have hne:(m == g)=false:=QaJ.mpr λe=>h (.inl e)
  rw[List.lookup,hne]
  exact qT λz=>h (.inr z)
theorem Qq {y:V}:∀{fs:List (Str×V)} {f:Str},f∉fs.map (·.1)->Hh f y fs=fs++[(f,y)]
 | [],_,_=>rfl
 | (g,u)::fs,f,h=>by
  rw[QbZ,QbY] at h
  show (if g=f then (g,y)::fs else (g,u)::Hh f y fs)=_
  rw[if_neg λe=>h (.inl e.symm),Qq λz=>h (.inr z)]
  rfl
def Am (H H':Hp):Prop:=∀c xs,H c=some (.tup xs)->H' c=some (.tup xs)
theorem Am.trans {H H1 H2:Hp} (a:Am H H1) (b:Am H1 H2):Am H H2:=λc xs e=>b c xs (a c xs e)
theorem Am.of {H H1:Hp} (s:Same H H1):Am H H1:=λc xs e=>s c _ e
theorem Am.upd {H:Hp} {b:Addr} {o:HO} (h:∀xs,H b≠some (.tup xs)):Am H (upd H b o):=λc xs e=>by
 have n:c≠b:=λz=>h xs (z ▸ e)
 rw[Al n]
 exact e
def Ai (b:Addr) (H H':Hp):Prop:=∀c o,H c=some o->c≠b->H' c=some o
theorem Ai.trans {b:Addr} {H H1 H2:Hp} (x:Ai b H H1) (y:Ai b H1 H2):Ai b H H2:=λc o e n=>y c o (x c o e n) n
theorem Ai.of {b:Addr} {H H1:Hp} (x:Same H H1):Ai b H H1:=λc o e _=>x c o e
theorem Ai.refl (b:Addr) (H:Hp):Ai b H H:=λ_ _ e _=>e
theorem Ai.upd {b:Addr} {H:Hp} {o:HO}:Ai b H (upd H b o):=λc u e n=>by rw[Al n];exact e
theorem Ai.tup {b:Addr} {H H':Hp} (x:Ai b H H') (h:∀xs,H b≠some (.tup xs)):Am H H':=λc xs e=>x c _ e λz=>h xs (z ▸ e)
theorem Ai.free {b:Addr} {H H':Hp} (x:Ai b H H') (hb:∃o,H' b=some o) {l:Addr} (h:H' l=none):H l=none:=by
 cases e:H l with
 | none=>rfl
 | some o=>
  by_cases n:l=b
  ·obtain⟨o',e'⟩:=hb
   rw[n,e'] at h
   cases h
  ·rw[x l o e n] at h
   cases h
def AM (K:PySem.W.Frag) (ta tv:TE) (f:Str):TS:=λD σ H=>tv σ H λy H1=>ta σ H1 λx H2=>∃a C dx fs fs',x=.ref a/\H2 a=some (.ins C dx fs)/\Cls K C/\Jd K C f/\fs.length < 1000/\Hh f y fs=fs' /\
 ∀H',H' a=some (.ins C dx fs')->Ai a H2 H'->D.nx σ H'
section
variable {X:Cx} {o e value:Expr} {f:Str} {pos pos' tpos:Pos} {ta tv:TE}
theorem QS (ha:PE X o ta) (hv:PE X value tv) (hs:swapsWith value (some (.Attribute o f pos')) pos.line X.env=pure false):PS X (.Assign [.Attribute o f pos'] value pos) (AM X.K ta tv f):=by
 intro pins s σ H D I h
 refine plainObj_wpAny_Assign_Attribute (thn (hv pins s σ H _ I h) λu s1 ⟨y,H1,I1,ry,q⟩=>thn (ha pins s1 σ H1 _ I1 q) λov s2 ⟨x,H2,I2,rx,a,C,dx,fs,fs',ex,ea,c,n,l,ep,q2⟩=>?_) hs
 subst ex
 obtain rfl:ov=Value.ref a:=rx
 refine bF I2 ea c n l ry λs3 I3=>⟨σ,_,I3,q2 _ ?_ Ai.upd⟩
 rw[Ac,ep]
end
theorem PS.weak {X:Cx} {s:Stmt} {t t':TS} (h:PS X s t) (i:∀D σ H,t' D σ H->t D σ H):PS X s t':=λpins sh σ H D I q=>h pins sh σ H D I (i D σ H q)
section
variable {X:Cx} {K:PySem.W.Frag}
theorem aj (h:X.K=K):IxR X (vP K):=h ▸ Cr
theorem S9 (h:X.K=K):OpR X (compareOp .In) (rIn K false):=h ▸ Qj
theorem Px (h:X.K=K):OpR X (compareOp .NotIn) (rIn K true):=h ▸ Xm
end
end L2
namespace PySem
open Sem (wp)
section
variable {prog:Program} {w:World} {A:Around} {E:Value->Shared->Prop} {s:Shared}
end
end PySem
namespace L2
open PySem PySem.Spec PyProof.Rows
section
variable {X:Cx} {pos:Pos}
end
structure Has (H:Hp) (l:List (Addr×HO)):Prop where
 nd:(l.map (·.1)).Nodup
 at_:∀x∈l,H x.1=some x.2
theorem Has.AZ {H:Hp} {l:List (Addr×HO)} {a:Addr} (h:Has H l) (e:H a=none):a∉l.map (·.1):=λz=>by
 obtain⟨x,hx,rfl⟩:=Qci.mp z
 rw[h.at_ x hx] at e
 cases e
theorem Has.new {H H':Hp} {l:List (Addr×HO)} {a:Addr} {o:HO} (h:Has H l) (n:H a=none) (s:Same H H') (e:H' a=some o):Has H' (l++[(a,o)]):=by
 refine⟨?_,λx hx=>?_⟩
 ·rw[QbC,List.nodup_append]
  refine⟨h.nd,by simp,λx hx y hy z=>?_⟩
  have:y=a:=by simpa using hy
  subst this
  exact h.AZ n (z ▸ hx)
 ·rcases QbD.mp hx with z | z
  ·exact s _ _ (h.at_ x z)
  ·have:x=(a,o):=by simpa using z
   subst this
   exact e
theorem Has.nil (H:Hp):Has H []:=⟨QbV,λx hx=>by cases hx⟩
theorem Same.Bv {H0 H H':Hp} {a:Addr} (s:Same H0 H) (b:Ai a H H') (f:H0 a=none):Same H0 H':=λc o e=>b _ _ (s _ _ e) λz=>by rw[z,f] at e;cases e
section
variable {κ : Type} [DecidableEq κ]
def Eu (kvs:List (κ×V)) (k:κ):Option V:=(kvs.find? λkv=>decide (kv.1=k)).map (·.2)
def putK (kvs:List (κ×V)) (k:κ) (v:V):List (κ×V):=
 if (kvs.any λkv=>decide (kv.1=k))=true then kvs.map (λkv=>if kv.1=k then (kv.1,v) else kv) else kvs++[(k,v)]
theorem Ol {p:κ×V} {r:List (κ×V)} {k:κ} (e:p.1=k):Eu (p::r) k=some p.2:=by simp[Eu,QbQ,e]
theorem JX {p:κ×V} {r:List (κ×V)} {k:κ} (e:¬p.1=k):Eu (p::r) k=Eu r k:=by simp[Eu,QbQ,e]
theorem JZ (k:κ):∀kvs:List (κ×V),(kvs.any λkv=>decide (kv.1=k))=(Eu kvs k).isSome
 | []=>rfl
 | p::r=>by
  rw[Qcd]
  by_cases e:p.1=k
  ·simp only[Ol e,QbS e,Bool.true_or,Option.isSome_some]
  ·rw[JX e,QbG e,Bool.false_or];exact JZ k r
theorem Ja (kvs:List (κ×V)) (k:κ) (v:V):(putK kvs k v).length<=kvs.length+1:=by
 unfold putK
 split
 ·rw[QbB];omega
 ·rw[QaQ,Qbr,List.length_nil];omega
theorem Mu {kvs:List (κ×V)} {k:κ} (v:V) (h:Eu kvs k=none):putK kvs k v=kvs++[(k,v)]:=by
 unfold putK
 rw[JZ,h]
 exact if_neg (by decide)
theorem Hj.La {o:Option V} {u:Option Value} (r:Hj o u):o.isSome=u.isSome:=by
 cases o with
 | none=>cases u with
  | none=>rfl
  | some _=>exact (show False from r).elim
 | some _=>cases u with
  | none=>exact (show False from r).elim
  | some _=>rfl
theorem Hj.getD {o:Option V} {u:Option Value} {d:V} {d':Value} (r:Hj o u) (rd:RelV d d'):RelV (o.getD d) (u.getD d'):=by
 cases o with
 | none=>cases u with
  | none=>exact rd
  | some _=>exact (show False from r).elim
 | some _=>cases u with
  | none=>exact (show False from r).elim
  | some _=>exact r
theorem KV.val {kvs:List (κ×V)} {vs:List (κ×Value)} (r:KV kvs vs) (k:κ):Hj (Eu kvs k) (valueAt vs k):=by
 unfold KV at r
 induction r with
 | nil=>exact True.intro
 | @cons p q ps qs h t ih=>
  obtain⟨h1,h2⟩:=h
  by_cases e:p.1=k
  ·have e':q.1=k:=h1.symm.trans e
   have b:valueAt (q::qs) k=some q.2:=by simp[valueAt,QbQ,e']
   rw[Ol e,b];exact h2
  ·have e':¬q.1=k:=λz=>e (h1.trans z)
   have b:valueAt (q::qs) k=valueAt qs k:=by simp[valueAt,QbQ,e']
   rw[JX e,b];exact ih
theorem KV.any {kvs:List (κ×V)} {vs:List (κ×Value)} (r:KV kvs vs) (k:κ):(kvs.any λkv=>decide (kv.1=k))=vs.any λkv=>decide (kv.1=k):=by
 unfold KV at r
 induction r with
 | nil=>rfl
 | cons h t ih=>rw[Qcd,Qcd,ih,h.1]
theorem KV.repl {kvs:List (κ×V)} {vs:List (κ×Value)} (r:KV kvs vs) (k:κ) {y:V} {u:Value} (ry:RelV y u) :
  KV (kvs.map λkv=>if kv.1=k then (kv.1,y) else kv) (vs.map λkv=>if kv.1=k then (kv.1,u) else kv):=by
 unfold KV at r ⊢
 induction r with
 | nil=>exact .nil
 | @cons p q ps qs h t ih=>
  rw[QbZ,QbZ]
  refine .cons ?_ ih
  obtain⟨h1,h2⟩:=h
  by_cases e:p.1=k
  ·rw[if_pos e,if_pos (h1.symm.trans e)];exact⟨h1,ry⟩
  ·rw[if_neg e,if_neg (λz=>e (h1.trans z))];exact⟨h1,h2⟩
theorem KV.put {kvs:List (κ×V)} {vs:List (κ×Value)} (r:KV kvs vs) (k:κ) {y:V} {u:Value} (ry:RelV y u):KV (putK kvs k y) (stored vs k u):=by
 unfold putK stored
 rw[r.any k]
 by_cases e:(vs.any λkv=>decide (kv.1=k))=true
 ·rw[if_pos e,if_pos e];exact r.repl k ry
 ·rw[if_neg e,if_neg e];exact Qcs r ⟨rfl,ry⟩
theorem KV.keys {kvs:List (κ×V)} {vs:List (κ×Value)} (r:KV kvs vs):kvs.map (·.1)=vs.map (·.1):=by
 unfold KV at r
 induction r with
 | nil=>rfl
 | cons h t ih=>rw[QbZ,QbZ,ih,h.1]
theorem KV.length {kvs:List (κ×V)} {vs:List (κ×Value)} (r:KV kvs vs):kvs.length=vs.length:=QbX r
end
theorem QW {P:Program} {w:World} {k:Key} {u:Value} (r:RelV (kV k) u):(Bx P w).is k u=true:=by
 cases k with
 | inl i=>obtain⟨t,e⟩:=(show ∃t,u=Value.int i t from r);subst e;exact YX P w i t
 | inr x=>obtain⟨t,e⟩:=(show ∃t,u=Value.str x t from r);subst e;exact YW P w x t
theorem Vi {P:Program} {w:World}:∀{ks:List Key} {us:List Value},Vals (ks.map kV) us->ItemsAre (Bx P w) ks us
 | [],_,r=>by rw[List.map_nil] at r;cases r;exact .nil
 | k::ks,_,r=>by
  rw[QbZ] at r
  cases r with
  | cons h t=>exact .cons (QW h) (Vi t)
abbrev KT (H:Hp):List (List Key×V)->List (List Key×Addr×Value)->Prop:=Paired λp q=>p.1=q.1/\H q.2.1=some (.tup (p.1.map kV))/\RelV p.2 q.2.2
theorem KT.val {H:Hp} {kvs:List (List Key×V)} {xs:List (List Key×Addr×Value)} (r:KT H kvs xs) (k:List Key):Hj (Eu kvs k) ((atKey xs k).map (·.2)):=by
 induction r with
 | nil=>exact True.intro
 | @cons p q ps qs h t ih=>
  obtain⟨h1,_,h2⟩:=h
  by_cases e:p.1=k
  ·have e':q.1=k:=h1.symm.trans e
   have b:atKey (q::qs) k=some q.2:=by simp[atKey,QbQ,e']
   rw[Ol e,b];exact h2
  ·have e':¬q.1=k:=λz=>e (h1.trans z)
   have b:atKey (q::qs) k=atKey qs k:=by simp[atKey,QbQ,e']
   rw[JX e,b];exact ih
theorem KT.repl {H:Hp} {kvs:List (List Key×V)} {xs:List (List Key×Addr×Value)} (r:KT H kvs xs) (k:List Key) {y:V} {u:Value} (ry:RelV y u) :
  KT H (kvs.map λkv=>if kv.1=k then (kv.1,y) else kv) (xs.map (putAt k u)):=by
 induction r with
 | nil=>exact .nil
 | @cons p q ps qs h t ih=>
  rw[QbZ,QbZ]
  refine .cons ?_ ih
  obtain⟨h1,h2,h3⟩:=h
  unfold putAt
  by_cases e:p.1=k
  ·rw[if_pos e,if_pos (h1.symm.trans e)];exact⟨h1,h2,ry⟩
  ·rw[if_neg e,if_neg (λz=>e (h1.trans z))];exact⟨h1,h2,h3⟩
theorem KT.put {H:Hp} {kvs:List (List Key×V)} {xs:List (List Key×Addr×Value)} (r:KT H kvs xs) (k:List Key) {b:Addr} {y:V} {u:Value} (hb:H b=some (.tup (k.map kV))) (ry:RelV y u) :
  KT H (putK kvs k y) (storedH xs k b u):=by
 have e:(kvs.any λkv=>decide (kv.1=k))=(atKey xs k).isSome:=by
  rw[JZ,(r.val k).La,Option.isSome_map]
 unfold putK storedH
 rw[e]
 by_cases q:(atKey xs k).isSome=true
 ·rw[if_pos q,if_pos q];exact r.repl k ry
 ·rw[if_neg q,if_neg q];exact Qcs r ⟨rfl,hb,ry⟩
theorem KT.keeps {H H':Hp} {kvs:List (List Key×V)} {xs:List (List Key×Addr×Value)} (r:KT H kvs xs) (ht:∀b ys,H b=some (.tup ys)->H' b=some (.tup ys)):KT H' kvs xs:=
 Paired.Bb r λ_ _ z=>⟨z.1,ht _ _ z.2.1,z.2.2⟩
section
variable {P:Program} {w:World} {H:Hp} {h:Heap} {a:Addr}
theorem qI {u:HO} (ok:HOk P w H h) (e:Rd H a u):Bp P w H h a u:=e.ok ok
theorem O9 {kvs:List (Key×V)} (ok:HOk P w H h) (e:Rd H a (.dK kvs)):kvs.length<=sizeLine/\(a == sysModules)=false/\∃vs,KV kvs vs/\h.DictOf (Bx P w) a vs:=
 show Bp P w H h a (.dK kvs) from qI ok e
theorem qX {kvs:List (Key×V)} (ok:HOk P w H h) (e:H a=some (.dK kvs)):kvs.length<=sizeLine/\(a == sysModules)=false/\∃vs,KV kvs vs/\h.DictOf (Bx P w) a vs:=O9 ok (.inl e)
theorem JQ {ks:List Key} (ok:HOk P w H h) (e:H a=some (.tup (ks.map kV))):(tupleKind (Bx P w)).is h ks a:=by
 obtain⟨_,its,r,o,h1,h2,n,h3⟩:=(show Bp P w H h a (.tup (ks.map kV)) from ok a _ e)
 exact⟨o,its.toArray,n,h1,h2,h3,by simpa using Vi r⟩
theorem Q6 {kvs:List (List Key×V)} (ok:HOk P w H h) (e:Rd H a (.dT kvs)):kvs.length<=sizeLine/\(a == sysModules)=false /\
  ∃xs,KT H kvs xs/\h.DictOfH (tupleKind (Bx P w)) a xs:=by
 obtain⟨z,y,xs,r,o,es,ep,h1,h2,h3,h4,h5⟩:=(show Bp P w H h a (.dT kvs) from qI ok e)
 refine⟨z,y,xs,r,o,es,ep,h1,h2,h3,h4,λx hx=>?_,h5⟩
 have all:∀{l:List (List Key×V)} {m:List (List Key×Addr×Value)},KT H l m->∀x∈m,(tupleKind (Bx P w)).is h x.1 x.2.1:=by
  intro l m q
  induction q with
  | nil=>intro x hx;exact nomatch hx
  | @cons p q ps qs hq t ih=>
   intro x hx
   rcases QbY.mp hx with e | hx
   ·subst e
    exact JQ ok (by rw[<-hq.1];exact hq.2.1)
   ·exact ih x hx
 exact all r x hx
theorem qU {kvs:List (List Key×V)} (ok:HOk P w H h) (e:H a=some (.dT kvs)):kvs.length<=sizeLine/\(a == sysModules)=false /\
  ∃xs,KT H kvs xs/\h.DictOfH (tupleKind (Bx P w)) a xs:=Q6 ok (.inl e)
end
def GR (H:Hp) (a:Addr) (y:V) (r:Option V):Prop:=
 (∃kvs k,Rd H a (.dK kvs)/\y=kV k/\r=Eu kvs k)\/∃kvs k b,Rd H a (.dT kvs)/\y=.ref b/\H b=some (.tup (k.map kV))/\r=Eu kvs k
def Hl (H:Hp) (a:Addr) (y v:V) (H':Hp):Prop:=
 (∃kvs k,H a=some (.dK kvs)/\y=kV k/\kvs.length < sizeLine/\H'=upd H a (.dK (putK kvs k v))) \/
 ∃kvs k b,H a=some (.dT kvs)/\y=.ref b/\H b=some (.tup (k.map kV))/\kvs.length < sizeLine/\H'=upd H a (.dT (putK kvs k v))
theorem GR.k {H:Hp} {a:Addr} {kvs:List (Key×V)} {k:Key} (e:H a=some (.dK kvs)):GR H a (kV k) (Eu kvs k):=.inl ⟨kvs,k,.inl e,rfl,rfl⟩
theorem GR.t {H:Hp} {a b:Addr} {kvs:List (List Key×V)} {k:List Key} (e:H a=some (.dT kvs)) (eb:H b=some (.tup (k.map kV))):GR H a (.ref b) (Eu kvs k):=.inr ⟨kvs,k,b,.inl e,rfl,eb,rfl⟩
theorem Hl.k {H:Hp} {a:Addr} {kvs:List (Key×V)} {k:Key} {v:V} (e:H a=some (.dK kvs)) (hl:kvs.length < sizeLine):Hl H a (kV k) v (upd H a (.dK (putK kvs k v))):=.inl ⟨kvs,k,e,rfl,hl,rfl⟩
theorem Hl.t {H:Hp} {a b:Addr} {kvs:List (List Key×V)} {k:List Key} {v:V} (e:H a=some (.dT kvs)) (eb:H b=some (.tup (k.map kV))) (hl:kvs.length < sizeLine) :
  Hl H a (.ref b) v (upd H a (.dT (putK kvs k v))):=.inr ⟨kvs,k,b,e,rfl,eb,hl,rfl⟩
section
variable {X:Cx} {pins:List (Addr×Obj)} {σ : St} {H:Hp} {s:Shared} {a:Addr} {y v:V} {u r:Value} {o:Option V} {A:Around} {E:Value->Shared->Prop}
theorem Inv.big (I:Inv X pins σ H s):sysModules < s.heap.objs.size:=by
 have h:mainGlobals < s.heap.objs.size:=(I.mod.glob.keeps I.bk).lt
 exact Nat.lt_trans (by decide) h
theorem jw {Q:Value->Shared->Prop} (hu:A.units+1 < cLine) (I:Inv X pins σ H s) (g:GR H a y (some v)) (ry:RelV y u) (h:∀w' s',Inv X pins σ H s'->RelV v w'->Q w' s') :
  wpAny (model X.prog X.w) A (getItem (.ref a) u) Q E s:=by
 rcases g with⟨kvs,k,e,ey,l⟩|⟨kvs,k,b,e,ey,eb,l⟩
 ·subst ey
  obtain⟨z,hd,vs,rel,dd⟩:=O9 I.hok e
  obtain⟨w',hw,rw'⟩:=Hj.some_of (v:=v) (o:=valueAt vs k) (by rw[l];exact rel.val k)
  exact wpAny_getItem_of (QW ry) dd.mapOf hw (h w' _ (I.tok _) rw')
 ·subst ey
  cases (show u=Value.ref b from ry)
  obtain⟨z,hd,xs,rel,dd⟩:=Q6 I.hok e
  obtain⟨w',hw,rw'⟩:=Hj.some_of (v:=v) (o:=(atKey xs k).map (·.2)) (by rw[l];exact rel.val k)
  obtain⟨p,hp,hp2⟩:=Qaw.mp hw
  refine wpAny_getItem_heap (Qbd hu) (JQ I.hok eb) dd hp ?_
  rw[hp2]
  exact h w' _ (I.tok _) rw'
theorem Of {Q:Value->Shared->Prop} (hu:A.units+1 < cLine) (I:Inv X pins σ H s) (g:GR H a y o) (ry:RelV y u) (h:∀s',Inv X pins σ H s'->Q (.bool o.isSome) s') :
  wpAny (model X.prog X.w) A (compareOp .In u (.ref a)) Q E s:=by
 rcases g with⟨kvs,k,e,ey,l⟩|⟨kvs,k,b,e,ey,eb,l⟩
 ·subst ey
  obtain⟨z,hd,vs,rel,dd⟩:=O9 I.hok e
  refine wpAny_in_of (QW ry) hd dd.mapOf ?_
  rw[<-(rel.val k).La,<-l]
  exact h _ (I.tok _)
 ·subst ey
  cases (show u=Value.ref b from ry)
  obtain⟨z,hd,xs,rel,dd⟩:=Q6 I.hok e
  refine wpAny_in_heap (Qbd hu) (JQ I.hok eb) hd dd ?_
  have q:=(rel.val k).La
  rw[Option.isSome_map] at q
  rw[<-q,<-l]
  exact h _ (I.tok _)
theorem uD {Q:Value->Shared->Prop} (hu:A.units+1 < cLine) (I:Inv X pins σ H s) (g:GR H a y o) (ry:RelV y u) (h:∀s',Inv X pins σ H s'->Q (.bool (!o.isSome)) s') :
  wpAny (model X.prog X.w) A (compareOp .NotIn u (.ref a)) Q E s:=by
 rcases g with⟨kvs,k,e,ey,l⟩|⟨kvs,k,b,e,ey,eb,l⟩
 ·subst ey
  obtain⟨z,hd,vs,rel,dd⟩:=O9 I.hok e
  refine wpAny_notIn_of (QW ry) hd dd.mapOf ?_
  rw[<-(rel.val k).La,<-l]
  exact h _ (I.tok _)
 ·subst ey
  cases (show u=Value.ref b from ry)
  obtain⟨z,hd,xs,rel,dd⟩:=Q6 I.hok e
  refine wpAny_notIn_heap (Qbd hu) (JQ I.hok eb) hd dd ?_
  have q:=(rel.val k).La
  rw[Option.isSome_map] at q
  rw[<-q,<-l]
  exact h _ (I.tok _)
theorem Oi {h':Heap} {t':Nat} {ob:HO} (I:Inv X pins σ H s) (mu:Mut (H a)) (hs:Heap.SameBut a s.heap h') (he:∃q,h'.get? a=some q) (new:Bp X.prog X.w (upd H a ob) h' a ob) :
  Inv X pins σ (upd H a ob) { s with heap:=h',toks:=t' }:=
 I.write (x:=a) (e:=a) mu (.inl rfl) (λb q hb z=>(hs.2 b hb).trans z) he new
theorem jq {P:Program} {w:World} {H':Hp} {h':Heap} {kvs:List (Key×V)} {vs:List (Key×Value)} (z:kvs.length<=sizeLine) (hd:(a == sysModules)=false) (rel:KV kvs vs) (dd:h'.DictOf (Bx P w) a vs) :
  Bp P w H' h' a (.dK kvs):=⟨z,hd,vs,rel,dd⟩
theorem ju {H':Hp} {Q:Unit->Shared->Prop} (hu:A.units+1 < cLine) (I:Inv X pins σ H s) (g:Hl H a y v H') (ry:RelV y u) (rv:RelV v r) (h:∀s',Inv X pins σ H' s'->Q () s') :
  wpAny (model X.prog X.w) A (setItem (.ref a) u r) Q E s:=by
 rcases g with⟨kvs,k,e,ey,l,eH⟩|⟨kvs,k,b,e,ey,eb,l,eH⟩
 ·subst ey eH
  obtain⟨z,hd,vs,rel,dd⟩:=qX I.hok e
  have hz:vs.length<=sizeLine:=by rw[<-rel.length];exact z
  have hl:(putK kvs k v).length<=sizeLine:=by have:=Ja kvs k v;omega
  refine wpAny_setItem_pairs (hsz:=hz) (QW ry) dd λh' dd' hs=>h _ ?_
  have he:∃q,h'.get? a=some q:=let ⟨q,_,_,hq,_⟩:=dd';⟨q,hq⟩
  exact Oi I (by rw[e];exact True.intro) hs he (jq hl hd (rel.put k rv) dd')
 ·subst ey eH
  cases (show u=Value.ref b from ry)
  obtain⟨z,hd,xs,rel,dd⟩:=qU I.hok e
  have hz:xs.length<=sizeLine:=by rw[<-QbX rel];exact z
  have hl:(putK kvs k v).length<=sizeLine:=by have:=Ja kvs k v;omega
  refine wpAny_setItem_heap (hsz:=hz) (Qbd hu) (JQ I.hok eb) dd λh' dd' hs=>h _ ?_
  obtain⟨q,es,ep,hq,h2,h3,h4,_,h5⟩:=dd'
  refine Oi I (by rw[e];exact True.intro) hs ⟨q,hq⟩ ⟨hl,hd,_,(rel.put k eb rv).keeps λc ys ec=>?_,q,es,ep,hq,h2,h3,h4,h5⟩
  rw[Al (cj ec e (λz=>nomatch z))]
  exact ec
end
section
variable {X:Cx} {pins:List (Addr×Obj)} {σ : St} {H:Hp} {s:Shared} {a:Addr} {kvs:List (Key×V)} {k:Key} {u:Value} {A:Around} {E:Value->Shared->Prop}
theorem Bz {Q:Value->Shared->Prop} (I:Inv X pins σ H s) (e:Rd H a (.dK kvs)) (h:∀t s',Inv X pins σ H s'->Q (.int kvs.length t) s'):wpAny (model X.prog X.w) A (call (.builtin "len") [.ref a]) Q E s:=by
 obtain⟨z,hd,vs,rel,dd⟩:=O9 I.hok e
 refine call_len_dict hd dd (by rw[<-rel.length];rw[Qcu] at z;omega) ?_
 rw[<-rel.length]
 exact h _ _ (I.tok _)
end
def Ap (i:Expr):Prop:=∀ov iv,subscripted i false ov iv=operate [ov,iv] (getItem ov iv)
theorem rG {prog:Program} {w:World} {A:Around} {E:Value->Shared->Prop} {s:Shared} {env:Env} {value slice:Expr} {pos:Pos} {T id:String} {Q:Value->Shared->Prop}
  (hl:typeLookup (.type T) "__getitem__"=pure (some (.builtin id))) (hs:Ap slice)
  (h:wpAny (model prog w) A (eval value env) (λo s₁=>wpAny (model prog w) A (eval slice env) (λi s₂=>s₂.TypeIs o T/\wpAny (model prog w) A (getItem o i) Q E s₂) E s₁) E s) :
  wpAny (model prog w) A (eval (.Subscript value slice pos) env) Q E s:=by
 refine Subscript_ (Qcx h (λo s₁ h₁=>Qcx h₁ (λi s₂ h₂=>?_) λ_ _ x=>x) λ_ _ x=>x)
 obtain⟨hT,h₂⟩:=h₂
 unfold subscriptTail
 refine Qcv ?_
 rw[getitemInPython_of_ne hT.not_modules]
 refine Qcv (wpAny_specialOf hT hl ?_)
 have fin:wpAny (model prog w) A (subscripted slice false o i) (λr s₃=>wpAny (model prog w) A (letTemporaryGo value o r >>= λ_=>pure r) Q E s₃) E s₂:=by
  rw[hs o i]
  exact wpAny_operating (Qcx h₂ (λr s₃ h₃=>Qcv (wpAny_letTemporaryGo (Qcw h₃))) λ_ _ x=>x)
 first
  | exact Qcw (Qcv fin)
  | exact Qcv (Qcw (Qcv fin))
  | exact Qcv fin
theorem Zb {X:Cx} {pins:List (Addr×Obj)} {σ : St} {H:Hp} {s:Shared} {a:Addr} {y:V} {o:Option V} (I:Inv X pins σ H s) (g:GR H a y o):s.TypeIs (.ref a) "dict":=by
 rcases g with⟨kvs,k,e,_,_⟩|⟨kvs,k,b,e,_,_,_⟩
 ·obtain⟨_,_,vs,_,dd⟩:=O9 I.hok e
  exact dd.typeIs
 ·obtain⟨_,_,xs,_,dd⟩:=Q6 I.hok e
  exact dd.typeIs
def AI (td ty:TE):TE:=fun σ H Q=>td σ H λx H1=>ty σ H1 λy H2=>∃a v,x=.ref a/\GR H2 a y (some v)/\Q v H2
def B3 (ty td:TE):TE:=fun σ H Q=>ty σ H λy H1=>td σ H1 λx H2=>∃a o,x=.ref a/\GR H2 a y o/\Q (.bl o.isSome) H2
def rF (ty td:TE):TE:=fun σ H Q=>ty σ H λy H1=>td σ H1 λx H2=>∃a o,x=.ref a/\GR H2 a y o/\Q (.bl (!o.isSome)) H2
def AN (td ty tv:TE):TS:=λD σ H=>tv σ H λv H1=>td σ H1 λx H2=>ty σ H2 λy H3=>∃a H4,x=.ref a/\Hl H3 a y v H4/\D.nx σ H4
section
variable {X:Cx} {o i e value:Expr} {pos pos' tpos:Pos} {td ty tv:TE}
theorem Uk (hu:X.A.units+1 < cLine) (ho:PE X o td) (hi:PE X i ty) (hs:Ap i):PE X (.Subscript o i pos) (AI td ty):=by
 intro pins s σ H Q I h
 refine rG PySem.F.slot_dict_getitem.lookup hs (thn (ho pins s σ H _ I h) λu s1 ⟨x,H1,I1,rx,q1⟩=>thn (hi pins s1 σ H1 _ I1 q1) λiv s2 ⟨y,H2,I2,ry,a,v,ex,g,q2⟩=>?_)
 subst ex
 obtain rfl:u=Value.ref a:=rx
 exact⟨Zb I2 g,jw hu I2 g ry λw' s3 I3 rw'=>⟨v,H2,I3,rw',q2⟩⟩
theorem gD (hu:X.A.units+1 < cLine) (hi:PE X i ty) (ho:PE X o td):PC X .In i o (B3 ty td):=by
 intro pins s σ H Q I h
 refine thn (hi pins s σ H _ I h) λiv s1 ⟨y,H1,I1,ry,q1⟩=>thn (ho pins s1 σ H1 _ I1 q1) λu s2 ⟨x,H2,I2,rx,a,ov,ex,g,q2⟩=>?_
 subst ex
 obtain rfl:u=Value.ref a:=rx
 exact Of hu I2 g ry λs3 I3=>⟨.bl ov.isSome,H2,I3,rfl,q2⟩
theorem Qh (hu:X.A.units+1 < cLine) (hi:PE X i ty) (ho:PE X o td):PC X .NotIn i o (rF ty td):=by
 intro pins s σ H Q I h
 refine thn (hi pins s σ H _ I h) λiv s1 ⟨y,H1,I1,ry,q1⟩=>thn (ho pins s1 σ H1 _ I1 q1) λu s2 ⟨x,H2,I2,rx,a,ov,ex,g,q2⟩=>?_
 subst ex
 obtain rfl:u=Value.ref a:=rx
 exact uD hu I2 g ry λs3 I3=>⟨.bl (!ov.isSome),H2,I3,rfl,q2⟩
theorem Fg (hu:X.A.units+1 < cLine) (ho:PE X o td) (hi:PE X i ty) (hv:PE X value tv) (hs:swapsWith value (some (.Subscript o i pos')) pos.line X.env=pure false) :
  PS X (.Assign [.Subscript o i pos'] value pos) (AN td ty tv):=by
 intro pins s σ H D I h
 refine wpAny_Assign_Subscript (thn (hv pins s σ H _ I h) λr s1 ⟨v,H1,I1,rv,q1⟩=>thn (ho pins s1 σ H1 _ I1 q1) λu s2 ⟨x,H2,I2,rx,q2⟩=>thn (hi pins s2 σ H2 _ I2 q2) λiv s3 ⟨y,H3,I3,ry,a,H4,ex,g,q3⟩=>?_) hs
 subst ex
 obtain rfl:u=Value.ref a:=rx
 exact ju hu I3 g ry rv λs4 I4=>⟨σ,H4,I4,q3⟩
end
theorem Yj {P:Program} {w:World} {H:Hp} (h:Heap) (hb:sysModules < h.objs.size):Bp P w H (h.push { cls:=.type "dict",data:=.dict #[] }) h.objs.size (.dK []):=
 ⟨Qcr _,QaJ.mpr (Ne.symm (Qcj hb)),[],.nil,Heap.DictOf.new h⟩
theorem Yi {P:Program} {w:World} {H:Hp} (h:Heap) (hb:sysModules < h.objs.size):Bp P w H (h.push { cls:=.type "dict",data:=.dict #[] }) h.objs.size (.dT []):=
 ⟨Qcr _,QaJ.mpr (Ne.symm (Qcj hb)),[],.nil,_,#[],0,QaI _ rfl,⟨rfl,rfl,rfl⟩,rfl,rfl,QbV⟩
def vo:TE:=λ_ H Q=>∀p,H p=none->Q (.ref p) (upd H p (.dK []))
def vm:TE:=λ_ H Q=>∀p,H p=none->Q (.ref p) (upd H p (.dT []))
section
variable {X:Cx} {pos:Pos}
theorem Xk:PE X (.Dict [] [] pos) vo:=λpins s σ H Q I h=>
 wpAny_Dict_empty ⟨.ref s.heap.objs.size,_,I.laid (a:=s.heap.objs.size) (o:=.dK []) (t':=s.toks) (λ_ _ q=>Qav _ q) (Qcq _) (Yj s.heap I.big),rfl,h _ (I.hok.fresh (Qcq _))⟩
theorem lO:PE X (.Dict [] [] pos) vm:=λpins s σ H Q I h=>
 wpAny_Dict_empty ⟨.ref s.heap.objs.size,_,I.laid (a:=s.heap.objs.size) (o:=.dT []) (t':=s.toks) (λ_ _ q=>Qav _ q) (Qcq _) (Yi s.heap I.big),rfl,h _ (I.hok.fresh (Qcq _))⟩
end
structure M1 (X:Cx) (o:Expr) (m:Str) (apos:Pos) (e:Expr) (cpos:Pos):Prop where
 base:attributeBase o m X.env (eval o X.env)=eval o X.env
 few:((backTo cpos (starEach [e] X.env)).all (λx=>!x.1)&&(backToKw cpos (keywordEach [] X.env)).all (λx=>x.1.isSome)
 &&decide (([e]:List Expr).length+([]:List Keyword).length+(if ([]:List Keyword).isEmpty then 0 else 1) < 30))=true
 line:(apos.endLine == cpos.line)=true
 trees:backTo cpos (starEach [e] X.env)=[(false,eval e X.env)]
structure M2 (X:Cx) (o:Expr) (m:Str) (apos:Pos) (e f:Expr) (cpos:Pos):Prop where
 base:attributeBase o m X.env (eval o X.env)=eval o X.env
 few:((backTo cpos (starEach [e,f] X.env)).all (λx=>!x.1)&&(backToKw cpos (keywordEach [] X.env)).all (λx=>x.1.isSome)
 &&decide (([e,f]:List Expr).length+([]:List Keyword).length+(if ([]:List Keyword).isEmpty then 0 else 1) < 30))=true
 line:(apos.endLine == cpos.line)=true
 trees:backTo cpos (starEach [e,f] X.env)=[(false,eval e X.env),(false,eval f X.env)]
def IsD (H:Hp) (a:Addr):Prop:=(∃kvs,Rd H a (.dK kvs))\/∃kvs,Rd H a (.dT kvs)
theorem iJ {X:Cx} {pins:List (Addr×Obj)} {σ : St} {H:Hp} {s:Shared} {a:Addr} (I:Inv X pins σ H s) (d:IsD H a) :
  s.TypeIs (.ref a) "dict"/\(∀b,Value.ref a=.ref b->∃ob,s.heap.get? b=some ob/\ob.dict=none)/\(a == sysModules)=false:=by
 rcases d with⟨kvs,e⟩|⟨kvs,e⟩
 ·obtain⟨_,hd,vs,_,dd⟩:=O9 I.hok e
  refine⟨dd.typeIs,λb q=>?_,hd⟩
  cases q
  obtain⟨ob,_,_,h1,h2,_⟩:=dd
  exact⟨ob,h1,h2.2.1⟩
 ·obtain⟨_,hd,xs,_,dd⟩:=Q6 I.hok e
  refine⟨dd.typeIs,λb q=>?_,hd⟩
  cases q
  obtain⟨ob,_,_,h1,h2,_⟩:=dd
  exact⟨ob,h1,h2.2.1⟩
section
variable {X:Cx} {pins:List (Addr×Obj)} {σ : St} {H:Hp} {s:Shared} {a:Addr} {y d:V} {u r:Value} {o:Option V} {A:Around} {E:Value->Shared->Prop}
end
section
variable {X:Cx} {o e f:Expr} {apos cpos:Pos} {td ty tx:TE}
end
section
variable {X:Cx} {pins:List (Addr×Obj)} {σ : St} {H:Hp} {s:Shared} {a:Addr} {kvs:List (Key×V)} {A:Around} {E:Value->Shared->Prop}
end
section
variable {X:Cx} {pins:List (Addr×Obj)} {σ : St} {H:Hp} {s:Shared} {a:Addr} {y:V} {u:Value} {A:Around} {E:Value->Shared->Prop}
end
section
variable {X:Cx}
theorem jD:Eb X (.builtin "len") (λxs H Q=>∃a kvs,xs=[V.ref a]/\H a=some (.dK kvs)/\Q (.int kvs.length) H):=by
 intro pins s σ H xs us Q I r h
 obtain⟨a,kvs,rfl,ha,q⟩:=h
 obtain⟨u,rfl,ru⟩:=vals1 r
 cases ru
 exact Bz I (.inl ha) λt s' I'=>⟨.int kvs.length,H,I',⟨t,rfl⟩,q⟩
end
section
variable {κ : Type} [DecidableEq κ]
theorem Z5:∀{l:List κ} {k:κ},l.Nodup->¬k∈l->(l++[k]).Nodup
 | [],k,_,_=>by simp
 | a::r,k,h,hk=>by
  obtain⟨h1,h2⟩:=QbJ.mp h
  show (a::(r++[k])).Nodup
  refine QbJ.mpr ⟨λm=>?_,Z5 h2 λm=>hk (QbY.mpr (Or.inr m))⟩
  rcases QbD.mp m with q | q
  ·exact h1 q
  ·exact hk (QbY.mpr (Or.inl (QaX.mp q).symm))
end
theorem TF {prog:Program} {w:World} {A:Around} {R:Result->Shared->Prop} {s:Shared} {kx vx target iter:Expr} {ifs:List Expr} {scope:Scope} {pos:Pos} {it:Value} {D:Addr} {env:Env} (J:Nat->Shared->Prop)
  (turn:∀n s,J n s->wpAny (model prog w) A (pyNext it) (λr s1=>match r with
   | none=>R (.ok .next) s1
   | some v=>wpAny (model prog w) A (letOwnedTupleGo target it v) (λ_ s2=>wpAny (model prog w) A (assign target env v) (λ_ s3=>
     wpAny (model prog w) A (forIn ifs true λc r=>if r=true then do let ok <-isTrue c env (eval c env);pure (ForInStep.yield ok) else pure (ForInStep.yield r)) (λok s4=>
      if ok=true then wpAny (model prog w) A (eval kx env) (λkv s5=>wpAny (model prog w) A (eval vx env) (λvv s6=>wpAny (model prog w) A (dictSet D kv vv) (λ_ s7=>∃m,m < n/\J m s7) (λ_ _=>False) s6) (λ_ _=>False) s5) (λ_ _=>False) s4
      else ∃m,m < n/\J m s4) (λ_ _=>False) s3) (λ_ _=>False) s2) (λ_ _=>False) s1) (λ_ _=>False) s)
  (n:Nat) (h:J n s):codeAny (model prog w) A (.compLoop (.DictComp kx vx [⟨target,iter,ifs,0⟩] scope pos) 0 it (.ref D) env) R s:=by
 refine codeAny_loop rfl J (λk s' hk=>?_) n h
 show wpAny _ A (Sem.onRaise (compTurn (.DictComp kx vx [⟨target,iter,ifs,0⟩] scope pos) 0 it (.ref D) env) (λx=>do noteFrame x env;theTreesLotGoes x)) _ _ s'
 refine wpAny_noted ?_
 rw[compTurn_dict]
 refine Qcv (Qce (Qcv (Qcx (turn k s' hk) (λr s1 q1=>?_) λ_ _ f=>f.elim)))
 cases r with
 | none=>exact Qcw q1
 | some v=>
  refine Qcv (Qcx q1 (λ_ s2 q2=>Qcv (Qcx q2 (λ_ s3 q3=>Qcv (Qcx q3 (λok s4 q4=>?_) λ_ _ f=>f.elim)) λ_ _ f=>f.elim)) λ_ _ f=>f.elim)
  cases ok with
  | false=>exact Qcw ⟨rfl,q4⟩
  | true=>exact Qcv (Qcv (Qcx q4 (λkv s5 q5=>Qcv (Qcc (Qcx q5 (λvv s6 q6=>Qcv (Qce (Qcc (Qcx q6 (λ_ s7 q7=>Qcw ⟨rfl,q7⟩) λ_ _ f=>f.elim)))) λ_ _ f=>f.elim))) λ_ _ f=>f.elim))
theorem jx {X:Cx} {pins:List (Addr×Obj)} {σ : St} {H:Hp} {s:Shared} {A:Around} {E:Value->Shared->Prop} {a:Addr} {kvs:List (Key×V)} {k:Key} {v:V} {u r:Value} {Q:Unit->Shared->Prop} (I:Inv X pins σ H s) (e:H a=some (.dK kvs)) (l:kvs.length < sizeLine) (ry:RelV (kV k) u) (rv:RelV v r)
  (h:∀s',Inv X pins σ (upd H a (.dK (putK kvs k v))) s'->Q () s'):wpAny (model X.prog X.w) A (dictSet a u r) Q E s:=by
 obtain⟨z,hd,vs,rel,dd⟩:=qX I.hok e
 have hz:vs.length<=sizeLine:=by rw[<-rel.length];exact z
 have hl:(putK kvs k v).length<=sizeLine:=by have:=Ja kvs k v;omega
 refine wpAny_dictSet_pairs (hsz:=hz) (QW ry) dd λh' dd' hs=>h _ ?_
 have he:∃q,h'.get? a=some q:=let ⟨q,_,_,hq,_⟩:=dd';⟨q,hq⟩
 exact Oi I (by rw[e];exact True.intro) hs he (jq hl hd (rel.put k rv) dd')
@[irreducible] def Q9 (J:It) (g:TG) (tt:TT) (tk tv:TE) (Q:VK) (σ0:St) (H0:Hp) (l:Addr):Prop:=∃W:Nat->Nat->St->Hp->Prop,(∃m,W 0 m σ0 H0) /\
 ∀i m σ' H',W i m σ' H'->(J.stop i H'/\Q (.ref l) H')\/(J.go i H'/\∃N:St->Hp->Prop,(∀ σ3 H3,N σ3 H3->∃m',m' < m/\W (i+1) m' σ3 H3)/\∀x H2,J.yld i H' x H2->g x σ' H2 fun σ3 H3=>tt σ3 H3 λb H4=>
  if b=true then tk σ3 H4 λy H5=>tv σ3 H5 λz H6=>∃(kvs:List (Key×V)) (k:Key),H6 l=some (.dK kvs)/\y=kV k/\kvs.length < sizeLine/\N σ3 (upd H6 l (.dK (putK kvs k z))) else N σ3 H4)
def Wm (wi:TI) (src:List (Option Nat)) (g:TG) (tt:TT) (tk tv:TE):TE:=fun σ H Q=>wi σ H λJ H1=>∀l,H1 l=none->Q9 J g tt tk tv Q (JD src σ) (upd H1 l (.dK [])) l
theorem TJ {X:Cx} {N':List Str} {src:List (Option Nat)} {sc:Scope} {kx vx tg iter:Expr} {ifs:List Expr} {pos pos':Pos} {wi:TI} {g:TG} {tt:TT} {tk tv:TE} {use:Option (Value->Sem Unit)} {R:Value->Shared->Prop} (hc:X.calm=true) (S:Bm X N' src sc)
  (hi:PI X tg iter wi) (hg:∀s3 H3 fp pn,PG (cxC X N' sc s3 H3 fp pn) tg g) (ht:∀s3 H3 fp pn,PF (cxC X N' sc s3 H3 fp pn) ifs tt) (hk:∀s3 H3 fp pn,PE (cxC X N' sc s3 H3 fp pn) kx tk) (hv:∀s3 H3 fp pn,PE (cxC X N' sc s3 H3 fp pn) vx tv)
  (hs:∀x,foldedSetIterable iter X.env x=pure x) {pins:List (Addr×Obj)} {s:Shared} {σ : St} {H:Hp} {Q:VK} (I:Inv X pins σ H s) (h:Wm wi src g tt tk tv σ H Q)
  (fin:∀s3 H3 fp σ4 H4 s5 l,Inv X pins σ H3 s3->(∀b∈fp,GC X pins H3 b)->Inv (cxC X N' sc s3 H3 fp (X.pn++pins)) [] σ4 H4 s5->Q (.ref l) H4 ->
   compPost (model X.prog X.w) X.A X.xe use R (.ref l) s3.heap.objs.size (.ok .next) s5) :
  wpAny (model X.prog X.w) X.A (comprehension (.DictComp kx vx [⟨tg,iter,ifs,0⟩] sc pos) sc X.env pos' newDict false (eval iter X.env) use) R X.xe s:=by
 refine wpAny_comprehension_free (use:=use) (cl:=Ey X.env sc.names []) rfl hs (Pg λp hp e=>I.ok.has p.1 (S.fv p hp e)) S.kind S.loc ?_
 refine thn (hi pins s σ H _ I h) λv s1 h1=>thn h1 λitv s2 h2=>?_
 obtain⟨it,fp,tn,J,H2,rfl,I2,T,st2,f2,q⟩:=h2
 have q':=q s2.heap.objs.size (I2.hok.fresh (Qcq _))
 unfold Q9 at q'
 obtain⟨W,⟨m0,w0⟩,turn⟩:=q'
 refine Qbn (wpAny_newFunctionEnv S.IW (by intro y hy;simp at hy) (λha hns hsb=>?_) S.kind)
 have I3:Inv X pins σ (upd H2 s2.heap.objs.size (.dK [])) { s2 with heap:=s2.heap.push { cls:=.type "dict",data:=.dict #[] } }:=
  I2.laid (t':=s2.toks) (λb u e=>Qav _ e) (Qcq _) (Yj s2.heap I2.big)
 have hfl:∀b∈fp,b < s2.heap.objs.size:=λb hb=>by
  obtain⟨o,e,_⟩:=T.obj 0 _ st2 b hb
  exact Qch e
 have f3:∀b∈fp,GC X pins (upd H2 s2.heap.objs.size (.dK [])) b:=λb hb=>⟨by rw[Al (Qcj (hfl b hb))];exact (f2 b hb).1,(f2 b hb).2⟩
 generalize hs3:({ s2 with heap:=s2.heap.push { cls:=.type "dict",data:=.dict #[] } }:Shared)=s3 at *
 have hsz:s2.heap.objs.size < s3.heap.objs.size:=by rw[<-hs3];show s2.heap.objs.size < (s2.heap.push _).objs.size;rw[QbT];exact Qby _
 have kp:∀b o,s3.heap.get? b=some o->ha.get? b=some o:=λb o e=>hsb.extBut b o (Qcj (Qch e)) (Qav _ e)
 have st3:tn 0 ha:=T.keep 0 _ _ st2 λb hb o e=>kp b o (by rw[<-hs3];exact Qav _ e)
 have I4:Inv (cxC X N' sc s3 (upd H2 s2.heap.objs.size (.dK [])) fp (X.pn++pins)) [] (JD src σ) (upd H2 s2.heap.objs.size (.dK [])) { s3 with heap:=ha,toks:=s3.toks+([]:List (Str×Value)).length }:=
  R6 S I3 f3 (λb hb=>Nat.lt_trans (hfl b hb) hsz) hns kp
 have loop:codeAny (model X.prog X.w) X.A (.compLoop (.DictComp kx vx [⟨tg,iter,ifs,0⟩] sc pos) 0 (.ref it) (.ref s2.heap.objs.size) (compEnvC sc (Ey X.env sc.names []) s3.heap.objs.size X.env))
   (compPost (model X.prog X.w) X.A X.xe use R (.ref s2.heap.objs.size) s3.heap.objs.size) { s3 with heap:=ha,toks:=s3.toks+([]:List (Str×Value)).length }:=by
  refine TF (λn s'=>∃i σ' H',Inv (cxC X N' sc s3 (upd H2 s2.heap.objs.size (.dK [])) fp (X.pn++pins)) [] σ' H' s'/\tn i s'.heap/\(∀b∈fp,H' b=none)/\W i n σ' H') ?_ m0 ⟨0,_,_,I4,st3,λb hb=>(f3 b hb).1,w0⟩
  rintro n s4 ⟨i,σ4,H4,J4,st4,fr4,w4⟩
  have stat:∀{H':Hp},(∀b∈fp,H' b=none)->∀b∈fp,GC (cxC X N' sc s3 (upd H2 s2.heap.objs.size (.dK [])) fp (X.pn++pins)) [] H' b:=λhn b hb=>
   ⟨hn b hb,(I4.ok.exf b hb).1,I4.ok.Kr b hb,.inl hb,λx c e=>(I4.ok.exf b hb).2 x c e,λp hp=>(f3 b hb).2.2.2.2.2 p ((QbD.mp hp).elim id λz=>by cases z)⟩
  rcases turn i n σ4 H4 w4 with⟨stop,qn⟩|⟨go,N,hN,step⟩
  ·refine thn (T.done (cxC X N' sc s3 (upd H2 s2.heap.objs.size (.dK [])) fp (X.pn++pins)) rfl rfl rfl hc i [] s4 σ4 H4 _ J4 (stat fr4) st4 stop) λr s5 ⟨hr,J5⟩=>?_
   subst hr
   exact fin s3 _ fp σ4 H4 s5 _ I3 f3 J5 qn
  ·refine thn (T.item (cxC X N' sc s3 (upd H2 s2.heap.objs.size (.dK [])) fp (X.pn++pins)) rfl rfl rfl hc i [] s4 σ4 H4 _ J4 (stat fr4) st4 go) λr s5 ⟨u,hr,h5⟩=>?_
   subst hr
   refine thn h5 λ_ s6 ⟨x,H6,J6,r6,y6,st6,fr6⟩=>?_
   have J6':=J6.pinned (stat fr6) (T.obj _ _ st6)
   have back:∀{pl:List (Addr×Obj)} {σ7:St} {H7:Hp} {s7:Shared},Inv (cxC X N' sc s3 (upd H2 s2.heap.objs.size (.dK [])) fp (X.pn++pins)) ([]++Mx fp s6.heap) σ7 H7 s7->N σ7 H7 ->
     ∃m',m' < n/\∃i σ' H',Inv (cxC X N' sc s3 (upd H2 s2.heap.objs.size (.dK [])) fp (X.pn++pins)) [] σ' H' s7/\tn i s7.heap/\(∀b∈fp,H' b=none)/\W i m' σ' H':=λ{pl σ7 H7 s7} J7 w7=>by
    obtain⟨m',hm,w7⟩:=hN _ _ w7
    have pinned:∀b∈fp,∀o,s6.heap.get? b=some o->s7.heap.get? b=some o/\H7 b=none:=λb hb o e=>by
     have:=J7.pin (b,o) (QaA _ (QaA _ (JN hb e)))
     exact⟨this.1,this.2.1⟩
    refine⟨m',hm,i+1,σ7,H7,J7.Ht,T.keep _ _ _ st6 λb hb o e=>(pinned b hb o e).1,λb hb=>?_,w7⟩
    obtain⟨o,e,_⟩:=T.obj _ _ st6 b hb
    exact (pinned b hb o e).2
   refine thn (hg s3 _ fp _ _ s6 σ4 H6 x u _ J6' r6 (step x H6 y6)) λ_ s7 ⟨σ7,H7,J7,q7⟩=>?_
   refine thn (ht s3 _ fp _ _ s7 σ7 H7 _ J7 q7) λok s8 ⟨H8,J8,q8⟩=>?_
   cases ok with
   | false=>
    rw[if_neg QaS] at q8 ⊢
    exact back (pl:=[]) J8 q8
   | true=>
    rw[if_pos rfl] at q8 ⊢
    refine thn (hk s3 _ fp _ _ s8 σ7 H8 _ J8 q8) λy s9 ⟨yv,H9,J9,r9,q9⟩=>?_
    refine thn (hv s3 _ fp _ _ s9 σ7 H9 _ J9 q9) λz s10 ⟨zv,H10,J10,r10,kvs,k,hl,ey,hz,q10⟩=>?_
    subst ey
    refine jx (X:=cxC X N' sc s3 (upd H2 s2.heap.objs.size (.dK [])) fp (X.pn++pins)) J10 hl hz r9 r10 λs11 J11=>?_
    exact back (pl:=[]) J11 q10
 exact codeAny_compStart_dict loop (T.self X.A 0 _ _ _ st3 loop)
theorem lQ {X:Cx} {N':List Str} {src:List (Option Nat)} {sc:Scope} {kx vx tg iter:Expr} {ifs:List Expr} {pos:Pos} {wi:TI} {g:TG} {tt:TT} {tk tv:TE} (hc:X.calm=true) (S:Bm X N' src sc)
  (hi:PI X tg iter wi) (hg:∀s3 H3 fp pn,PG (cxC X N' sc s3 H3 fp pn) tg g) (ht:∀s3 H3 fp pn,PF (cxC X N' sc s3 H3 fp pn) ifs tt) (hk:∀s3 H3 fp pn,PE (cxC X N' sc s3 H3 fp pn) kx tk) (hv:∀s3 H3 fp pn,PE (cxC X N' sc s3 H3 fp pn) vx tv)
  (hs:∀x,foldedSetIterable iter X.env x=pure x:=by intro _;rfl):PE X (.DictComp kx vx [⟨tg,iter,ifs,0⟩] sc pos) (Wm wi src g tt tk tv):=by
 intro pins s σ H Q I h
 rw[arm_eval_DictComp]
 refine TJ (use:=none) hc S hi hg ht hk hv hs I h λs3 H3 fp σ4 H4 s5 l I3 f3 J5 q=>?_
 obtain⟨m,hn,_⟩:=J5.loc
 exact⟨m,hn,λh' sb=>⟨.ref l,H4,Qs I3 f3 J5 sb,rfl,q⟩⟩
end L2
namespace PySem
open Sem (wp)
section
variable {prog:Program} {w:World} {A:Around} {E:Value->Shared->Prop} {s:Shared}
theorem Nk {it l:Addr} {i:Nat} {items:Array Value} {x:Value} {Q:Value->Shared->Prop} (hit:s.heap.IsTupleIter it l i) (hl:s.heap.IsTuple l items) (hx:items[i]?=some x)
  (hQ:∀h',h'.IsTupleIter it l (i+1)->Heap.SameBut it s.heap h'->Q x { s with heap:=h' }):wpAny (model prog w) A (Builtin.SmallTypes.nextOf (.ref it)) Q E s:=by
 obtain⟨o,ho,hc,hd⟩:=id hit
 obtain⟨ol,hol,_,nl,hdl⟩:=hl
 unfold Builtin.SmallTypes.nextOf
 refine Qcv (Qar (name:=Str.ofString "__next__") hit.typeIs Qaa (Qbv Qaa hit.typeIs PyProof.Rows.entry_tupleiter_next ?_ (PyProof.Rows.args_tupleiter_next _)))
 show wpAny _ _ (field (.ref it) 0 >>= _) _ _ s
 refine Qcv (Qct ho hd (x:=.ref l) rfl ?_)
 show wpAny _ _ (if (Value.ref l == Value.none)=true then _ else _) _ _ s
 rw[if_neg (show ¬((Value.ref l == Value.none)=true) from QaS)]
 show wpAny _ _ (field (.ref it) 1 >>= _) _ _ s
 refine Qcv (Qct ho hd (x:=.int i 0) rfl ?_)
 show wpAny _ _ (seqItems? (.ref l) >>= _) _ _ s
 refine Qcv (QbW hol hdl ?_)
 simp only[Qbk,hx]
 refine Qcv (wpAny_setField ho hd (by simp) (Qcw ⟨x,rfl,Qcw (hQ _ ?_ (QaN ..))⟩))
 exact⟨_,QaC _ ho (Obj.isFreed_of_fields (Obj.data_mapFields hd _)),(Obj.cls_mapFields ..).trans hc,by rw[Obj.data_mapFields hd];simp[rawInt]⟩
theorem Kh {it l:Addr} {i:Nat} {items:Array Value} {Q:Value->Shared->Prop} (hh:A.handled=none) (hit:s.heap.IsTupleIter it l i) (hl:s.heap.IsTuple l items) (hx:items[i]?=none)
  (hE:∀h' e,Heap.ExtBut it s.heap h'->(∃o,h'.get? e=some o/\o.cls=.type "StopIteration")->E (.ref e) { s with heap:=h' }):wpAny (model prog w) A (Builtin.SmallTypes.nextOf (.ref it)) Q E s:=by
 obtain⟨o,ho,hc,hd⟩:=id hit
 obtain⟨ol,hol,_,nl,hdl⟩:=hl
 unfold Builtin.SmallTypes.nextOf
 refine Qcv (Qar (name:=Str.ofString "__next__") hit.typeIs Qaa (Qbv Qaa hit.typeIs PyProof.Rows.entry_tupleiter_next ?_ (PyProof.Rows.args_tupleiter_next _)))
 show wpAny _ _ (field (.ref it) 0 >>= _) _ _ s
 refine Qcv (Qct ho hd (x:=.ref l) rfl ?_)
 show wpAny _ _ (if (Value.ref l == Value.none)=true then _ else _) _ _ s
 rw[if_neg (show ¬((Value.ref l == Value.none)=true) from QaS)]
 show wpAny _ _ (field (.ref it) 1 >>= _) _ _ s
 refine Qcv (Qct ho hd (x:=.int i 0) rfl ?_)
 show wpAny _ _ (seqItems? (.ref l) >>= _) _ _ s
 refine Qcv (QbW hol hdl ?_)
 simp only[Qbk,hx]
 refine Qcv (wpAny_rule (Qcv (wpAny_setField ho hd (by simp) ?_)))
 show wpAny _ _ (newExc (.type "StopIteration") [] >>= _) _ _ _
 refine Qcv ?_
 simp only[newExc,newTuple]
 refine Qcv (Qbn ?_ (by size_fits))
 refine Qcv (m:=firstArgMember _ _) (wpAny_of_eq (a:=Value.none) (by first | rfl | (simp only[firstArgMember];rfl)) ?_)
 refine Qbn ?_ (by size_fits)
 simp only[raiseNew]
 refine Qcv (wpAny_handled ?_)
 first | rw[show A.in1.handled=none from hh] | rw[hh]
 refine Qcv (Qcw (wpAny_throw ?_))
 exact hE _ _ (((QaN ..).extBut.push _).push _) ⟨_,QaI _ rfl,rfl⟩
theorem Yh {e it l:Addr} {i:Nat} {j:Int} {items:Array Value} {old:Value} {Q:Option Value->Shared->Prop} (hh:A.handled=none) (he:IsEnum s.heap e it j old) (hit:s.heap.IsTupleIter it l i) (hl:s.heap.IsTuple l items) (hx:items[i]?=none)
  (hQ:∀h',Heap.ExtBut it s.heap h'->Q none { s with heap:=h' }):wpAny (model prog w) A (pyNext (.ref e)) Q E s:=by
 have hT:s.TypeIs (.ref e) "enumerate":=⟨_,he,rfl⟩
 unfold pyNext
 refine Qcv (Qcg (Qar (name:=Str.ofString "__next__") hT F.slot_enumerate_next (Qbv F.slot_enumerate_next hT F.entry_enumerate_next ?_ (F.args_enumerate_next_1 _))))
 show wpAny _ _ (field (.ref e) 2 >>= _) _ _ _
 refine Qcv (Qct he rfl (x:=.ref it) rfl (Qcv (Kh hh hit hl hx λh' x he' hx'=>?_)))
 obtain⟨o,ho,hc⟩:=hx'
 exact Qcv (wpAny_isInstance (T:="StopIteration") (b:=true) ⟨o,ho,hc⟩ isSubtype_stop (Qcw (hQ _ he')))
end
theorem Draws.tup {prog:Program} {w:World} {A:Around} (hh:A.handled=none) (it l:Addr) (hne:l≠it) (items:Array Value) :
  Draws prog w A it [it,l] items.size (λi v=>items[i]?=some v) (λi h=>h.IsTupleIter it l i/\h.IsTuple l items) where
 live:=λ_ _ st=>let ⟨o,ho,_⟩:=st.1;⟨o,ho⟩
 frame:=λ_ _ _ st hk=>⟨st.1.at λo e=>hk it (by simp) o e,let ⟨o,e,r⟩:=st.2;⟨o,hk l (by simp) o e,r⟩⟩
 item:=λi s Q E hi st hQ=>Nk st.1 st.2 (x:=items[i]) (by simp[hi]) λh' hit' hs'=>hQ _ h' s.toks (by simp[hi]) ⟨hit',let ⟨o,e,r⟩:=st.2;⟨o,hs'.extBut _ _ hne e,r⟩⟩ hs'
 done:=λs Q E st hE=>Kh hh st.1 st.2 (by simp) hE
theorem Draws.from {prog:Program} {w:World} {A:Around} {it:Addr} {fp:List Addr} {n:Nat} {P:Nat->Value->Prop} {St:Nat->Heap->Prop} (D:Draws prog w A it fp n P St) (k:Nat) :
  Draws prog w A it fp (k+n) (λj v=>∃i,j=k+i/\P i v) (λj h=>∃i,j=k+i/\i<=n/\St i h) where
 live:=λ_ _ ⟨i,_,_,st⟩=>D.live i _ st
 frame:=λ_ _ _ ⟨i,e,hi,st⟩ hk=>⟨i,e,hi,D.frame i _ _ st hk⟩
 item:=λj s Q E hj ⟨i,e,hi,st⟩ hQ=>D.item i s Q E (by omega) st λx h' tk p st' sb=>hQ x h' tk ⟨i,e,p⟩ ⟨i+1,by omega,by omega,st'⟩ sb
 done:=λs Q E ⟨i,e,hi,st⟩ hE=>by
  have:i=n:=by omega
  subst this
  exact D.done s Q E st hE
end PySem
namespace L2
open PySem PySem.Spec PyProof.Rows
section
variable {X:Cx} {pins:List (Addr×Obj)} {σ : St} {H:Hp} {s:Shared} {h':Heap}
theorem Inv.Ni {t':Nat} {fp:List Addr} {t:Addr} {o:HO} (I:Inv X pins σ H s) (ht:s.heap.objs.size<=t) (k:∀b u,b∉fp->s.heap.get? b=some u->h'.get? b=some u) (hf:∀b∈fp,GC X pins H b) (new:Bp X.prog X.w (upd H t o) h' t o) :
  Inv X pins σ (upd H t o) { s with heap:=h',toks:=t' }:=by
 have nt:=I.hok.fresh ht
 have old:∀b u,s.heap.get? b=some u->b≠t:=λb u e z=>absurd (QaW (Qch e) ht) (by rw[z];exact Qcb _)
 have nf:∀b u,H b=some u->b∉fp:=λb u e z=>by rw[(hf b z).1] at e;cases e
 have tr:∀b u,H b=some u->(upd H t o) b=some u:=λb u e=>by rw[Al (Av e nt)];exact e
 refine I.step (g':=s.gens) (d':=s.drawn) (ch:=fp) (λb hb=>?_) (λb u _ _ hc e _=>k b u hc e) (λb u _ _ hc e _=>⟨u.slots,k b u hc e⟩) (λb u hc e n=>by rw[Al (old b u e)];exact n)
  (λb u hc e=>⟨u,k b u hc e⟩) (λ_ _ e=>tr _ _ e) (λ_ _ _ e=>tr _ _ e) (λb ps e=>⟨#[],by rw[tr _ _ e];simp⟩) (λm hm=>?_) (λb u e=>?_) I.bare
 ·obtain⟨_,f1,_,f3,f4,f5⟩:=hf b hb
  exact⟨f3,f1,f4,f5⟩
 ·obtain⟨u,es,ep,hu,r⟩:=hm
  exact⟨u,es,ep,k _ u (λz=>(hf _ z).2.1 rfl) hu,r⟩
 ·by_cases hb:b=t
  ·subst hb
   rw[Ac] at e
   cases e
   exact new
  ·rw[Al hb] at e
   refine (I.hok b u e).stay (λc v hc q=>k c v ?_ q) (λc q=>tr _ _ q) λc xs q=>tr _ _ q
   rcases hc with z | z
   ·rw[z];exact nf b u e
   ·exact nf c _ z
theorem Inv.QD {t':Nat} {fp:List Addr} (I:Inv X pins σ H s) (k:∀b u,b∉fp->s.heap.get? b=some u->h'.get? b=some u) (hf:∀b∈fp,GC X pins H b):Inv X pins σ H { s with heap:=h',toks:=t' }:=by
 have nf:∀b u,H b=some u->b∉fp:=λb u e z=>by rw[(hf b z).1] at e;cases e
 refine I.step (g':=s.gens) (d':=s.drawn) (ch:=fp) (λb hb=>?_) (λb u _ _ hc e _=>k b u hc e) (λb u _ _ hc e _=>⟨u.slots,k b u hc e⟩) (λb u hc e n=>n)
  (λb u hc e=>⟨u,k b u hc e⟩) (λ_ _ e=>e) (λ_ _ _ e=>e) (λb ps e=>⟨#[],by rw[e];simp⟩) (λm hm=>?_) (λb u e=>?_) I.bare
 ·obtain⟨_,f1,_,f3,f4,f5⟩:=hf b hb
  exact⟨f3,f1,f4,f5⟩
 ·obtain⟨u,es,ep,hu,r⟩:=hm
  exact⟨u,es,ep,k _ u (λz=>(hf _ z).2.1 rfl) hu,r⟩
 ·refine (I.hok b u e).stay (λc v hc q=>k c v ?_ q) (λ_ q=>q) λ_ _ q=>q
  rcases hc with z | z
  ·rw[z];exact nf b u e
  ·exact nf c _ z
end
def Nh (K:PySem.W.Frag) (a:Addr) (lo:Nat):It:=
 ⟨λi H=>∃xs x,SqT K H a xs/\xs[i]?=some x,λi H v H'=>∃p x,H p=none/\v=.ref p/\H'=upd H p (.tup [.int ((lo+i:Nat):Int),x])/\∀xs,SqT K H a xs->xs[i]?=some x,λi H=>∃xs,SqT K H a xs/\xs.length<=i⟩
theorem aU {P:Program} {w:World} {K:PySem.W.Frag} {elts:List Expr} {k:Nat} {pos:Pos} (a e it:Addr) (lo:Nat) (nei:e≠it):Turn P w K (.Tuple elts k pos) (Nh K a lo) [e,it] e (λi h=>(∃old,IsEnum h e it ((lo+i:Nat):Int) old)/\h.IsTupleIter it a i) where
 mem:=by simp
 obj:=λi h st b hb=>by
  obtain⟨⟨old,he⟩,o,ho,hc,hd⟩:=st
  rcases QbY.mp hb with rfl | hb
  ·exact⟨_,he,λv z=>by cases (show Data.fields _=Data.cell v from z)⟩
  ·have:b=it:=by simpa using hb
   subst this
   exact⟨o,ho,λv z=>by rw[hd] at z;cases z⟩
 keep:=λi h h' st k=>by
  obtain⟨⟨old,he⟩,hi⟩:=st
  exact⟨⟨old,k e (by simp) _ he⟩,hi.at λo q=>k it (by simp) o q⟩
 item:=by
  intro X hP hw hK hc i pins s σ H E I hf st hg
  subst hP hw hK
  obtain⟨xs,x,hq,hx⟩:=hg
  obtain⟨its,rv,p,hz⟩:=I.tuple hq
  obtain⟨u,hu,ru⟩:=rv.get hx
  obtain⟨⟨old,he⟩,hit⟩:=st
  have hts:s.heap.IsTuple a its.toArray:=p
  have ane:a≠e:=λz=>by
   obtain⟨o,ho,hcl,_⟩:=hts
   rw[z,he] at ho
   cases ho
   injection hcl with q
   exact absurd q (by decide)
  have ani:a≠it:=λz=>by
   obtain⟨o,ho,hcl,_⟩:=hts
   obtain⟨o',ho',hcl',_⟩:=hit
   rw[z,ho'] at ho
   cases ho
   rw[hcl'] at hcl
   injection hcl with q
   exact absurd q (by decide)
  have hlt:i < its.toArray.size:=by
   have:=(Qah.mp hu).1
   simpa using this
  have D:=(Draws.tup (prog:=X.prog) (w:=X.w) (A:=X.A.in1) (I.ok.hd hc) it a ani its.toArray).from lo
  refine wpAny_pyNext_enum_itemD D he ⟨i,rfl,Qcn hlt,hit,hts⟩ (by omega) nei (by simp[nei,ane.symm]) λy h1 tk hP ho hst hT hsz hk=>?_
  obtain⟨i',ei,hy⟩:=hP
  have:i'=i:=by omega
  subst this
  have ey:y=u:=by
   have h2:its.toArray[i']?=some u:=by simpa using hu
   rw[h2] at hy
   exact (QbH hy).symm
  subst ey
  refine⟨_,rfl,wpAny_letOwnedTupleGo_enum ho λh2 he2 hs2=>?_⟩
  have hlt2:s.heap.objs.size≠e:=Qcm (Qch he)
  have hT2:h2.get? s.heap.objs.size=some { cls:=.type "tuple",data:=.seq #[.int ((lo+i':Nat):Int) tk,y] }:=(hs2.2 _ hlt2).trans hT
  have new:Bp X.prog X.w (upd H s.heap.objs.size (.tup [.int ((lo+i':Nat):Int),x])) h2 s.heap.objs.size (.tup [.int ((lo+i':Nat):Int),x]):=
   ⟨by show 2<=sizeLine;decide,[.int ((lo+i':Nat):Int) tk,y],.cons ⟨tk,rfl⟩ (.cons ru .nil),_,hT2,rfl,0,rfl⟩
  have I1:=I.Ni (h':=h2) (t':=tk+1) (Qcq _) (λb q hb z=>(hs2.2 b (λw=>hb (by simp[w]))).trans (hk b q (λw=>hb (by simp[w])) (λw=>hb (by simp[w])) z)) hf new
  refine⟨.ref s.heap.objs.size,_,I1,rfl,⟨s.heap.objs.size,x,I.hok.fresh (Qcq _),rfl,rfl,λys hy'=>by rw[I.U7 hy' hq];exact hx⟩,⟨⟨y,?_⟩,?_⟩,λb hb=>?_⟩
  ·have:=he2
   rw[show ((lo+(i'+1):Nat):Int)=((lo+i':Nat):Int)+1 by omega]
   exact this
  ·obtain⟨i2,e2,_,st2,_⟩:=hst
   have:i2=i'+1:=by omega
   subst this
   exact st2.at λo q=>(hs2.2 it (Ne.symm nei)).trans q
  ·have hb':b < s.heap.objs.size:=by
    rcases QbY.mp hb with rfl | hb
    ·exact Qch he
    ·have:b=it:=by simpa using hb
     subst this
     obtain⟨o,ho',_⟩:=hit
     exact Qch ho'
   rw[Al (Qcj hb')]
   exact (hf b hb).1
 done:=by
  intro X hP hw hK hc i pins s σ H E I hf st hg
  subst hP hw hK
  obtain⟨xs,hq,hx⟩:=hg
  obtain⟨its,rv,p,hz⟩:=I.tuple hq
  obtain⟨⟨old,he⟩,hit⟩:=st
  have hl:=rv.length
  exact Yh (I.ok.hd hc) he hit (show s.heap.IsTuple a its.toArray from p) (by simp;omega) λh' eb=>⟨rfl,I.QD (t':=s.toks) (λb o hb q=>eb b o (λz=>hb (by simp[z])) q) hf⟩
 self:=λ_ _ _ _ _ st h=>let ⟨⟨_,he⟩,_⟩:=st;wpAny_pyIter_enum he h
end L2
namespace PySem
open Sem (wp)
open AutoSeq1 (wpAny_loadPart')
theorem Us (l:Addr) (items:Array Value) (n:Nat) (dct:Option Addr) (sl:Array (Option Value)) :
  Meets (Builtin.«enumerate.__new__» ⟨[.type "enumerate",.ref l],[]⟩) (λ_ R s=>s.heap.get? l=some { cls:=.type "tuple",dict:=dct,data:=.seq items n,slots:=sl } /\
   R (.ok (.ret (.ref (s.heap.push { cls:=.type "tuple_iterator",data:=.fields #[.ref l,.int 0 0] }).objs.size)))
    { s with heap:=(s.heap.push { cls:=.type "tuple_iterator",data:=.fields #[.ref l,.int 0 0] }).push { cls:=.type "enumerate",data:=.fields #[.none,.bool false,.ref s.heap.objs.size,rawInt 0,.none,.none] } }):=
 .of_wp λprog w A R s h=>by
  obtain⟨hp,g,d,tk,os⟩:=s;obtain⟨hl,h⟩:=h
  have hsub:=sub_enumerate
  have hL:Heap.IsTuple (Shared.heap ⟨hp,g,d,tk,os⟩) l items:=⟨_,hl,rfl,n,rfl⟩
  wp_walk using wpAny_loadPart' hl
  refine wpAny_stack_any λst=>Qcw ?_
  split
  ·rename_i c _ _ _ _ _
   cases (c == Value.type "enumerate")
   ·wp_walk using wpAny_loadPart' hl,QaY hL
    exact⟨_,rfl,h⟩
   ·wp_walk using wpAny_loadPart' hl,QaY hL
    exact⟨_,rfl,h⟩
  ·wp_walk using wpAny_loadPart' hl,QaY hL
   exact⟨_,rfl,h⟩
theorem Tg (l:Addr) (items:Array Value) (n:Nat) (dct:Option Addr) (sl:Array (Option Value)) (t:Tok) :
  Meets (Builtin.«enumerate.__new__» ⟨[.type "enumerate",.ref l],[("start",.int 1 t)]⟩) (λ_ R s=>s.heap.get? l=some { cls:=.type "tuple",dict:=dct,data:=.seq items n,slots:=sl } /\
   R (.ok (.ret (.ref (s.heap.push { cls:=.type "tuple_iterator",data:=.fields #[.ref l,.int 0 0] }).objs.size)))
    { s with heap:=(s.heap.push { cls:=.type "tuple_iterator",data:=.fields #[.ref l,.int 0 0] }).push { cls:=.type "enumerate",data:=.fields #[.none,.bool false,.ref s.heap.objs.size,rawInt 1,.none,.none] } }):=
 .of_wp λprog w A R s h=>by
  obtain⟨hp,g,d,tk,os⟩:=s;obtain⟨hl,h⟩:=h
  have hsub:=sub_enumerate
  have hL:Heap.IsTuple (Shared.heap ⟨hp,g,d,tk,os⟩) l items:=⟨_,hl,rfl,n,rfl⟩
  wp_walk using wpAny_loadPart' hl
  refine wpAny_stack_any λst=>Qcw ?_
  split
  ·rename_i c _ _ _ _ _
   cases (c == Value.type "enumerate")
   ·wp_walk using wpAny_loadPart' hl,QaY hL
    exact⟨_,rfl,h⟩
   ·wp_walk using wpAny_loadPart' hl,QaY hL
    exact⟨_,rfl,h⟩
  ·wp_walk using wpAny_loadPart' hl,QaY hL
   exact⟨_,rfl,h⟩
end PySem
namespace PySem
open Sem (wp)
section
variable {prog:Program} {w:World} {A:Around} {E:Value->Shared->Prop} {s:Shared}
theorem Uo {T newId:String} {self:Value} {rest:List Value} {kw:List (Str×Value)} (hl:typeLookup (.type T) "__init__"=pure (some (.builtin "object.__init__")))
  (hm:Bind.madeBy (.type T)=pure (some newId)) (hne:(some newId != some "object.__new__")=true) :
  Meets (Builtin.«object.__init__» ⟨self::rest,kw⟩) (λ_ R s=>s.TypeIs self T/\R (.ok (.ret .none)) s):=by
 refine Meets.of_wp λprog w A R s hs=>?_
 obtain⟨hT,hq⟩:=hs
 cases rest with
 | nil=>
  cases kw with
  | nil=>exact Qcw ⟨_,rfl,hq⟩
  | cons k kw=>
   repeat (any_goals (first | assumption | wp_step))
   exact⟨_,rfl,hq⟩
 | cons a rest=>
  repeat (any_goals (first | assumption | wp_step))
  exact⟨_,rfl,hq⟩
theorem jG {T newId:String} {Bn:Builtin} {args:List Value} {kw:List (Str×Value)} {S:Spec} {Q:Value->Shared->Prop} (ft:TypeCalled T newId "object.__init__") (hne:(some newId != some "object.__new__")=true)
  (hct:checkTypeCall T ⟨args,kw⟩=pure ()) (hcn:checkBuiltinCall newId ⟨.type T::args,kw⟩=pure ()) (hok:∀obj,argsOk "object.__init__" ⟨obj::args,kw⟩)
  (entryN:entryFor table newId=some Bn) (g:Meets (Bn ⟨.type T::args,kw⟩) S) (h:S A.in1 (wants (λobj s₁=>s₁.TypeIs obj T/\Q obj s₁) E) s) :
  wpAny (model prog w) A (call (.type T) args kw) Q E s:=by
 obtain⟨c,tl,hmro⟩:=ft.mro
 have hmade:=ft.made
 have hsub:=ft.sub
 refine wpAny_call (codeAny_of_tree ?_)
 show wpAny _ _ (callAny (.type T) _) _ _ _
 refine Qcw ⟨Code.quiet_builtin _ (by trivial),codeAny_builtin F.entry_type_call ?_⟩
 rw[Around.under_plain (weight_type_call_type T args kw) (units_type_call_type T args kw)]
 have h1:=ft.notType
 have h2:=ft.canCreate
 repeat (any_goals (first | assumption | wp_step))
 refine Qcp (codeAny_call_builtin ft.plain entryN (wpAny_of_eq hcn (g prog w A.in1 _ s h))) λr s₁ hr=>?_
 cases r with
 | error e=>exact hr
 | ok fl=>
  cases fl with
  | ret obj=>
   obtain⟨hT,hq⟩:=hr
   have hli:=ft.init.lookup
   have hbi:=ft.init.bind obj
   repeat (any_goals (first | assumption | wp_step))
   refine Qcp (codeAny_call_builtin ft.init.plain F.entry_object_init (ft.init.check _ _ _ _ _ _ _ _ hT (hok obj) (Uo ft.init.lookup ft.made hne prog w A.in1 (wants (λr s₂=>r=.none/\Q obj s₂) E) s₁ ⟨hT,rfl,hq⟩))) λr₂ s₂ hr₂=>?_
   cases r₂ with
   | error e=>exact hr₂
   | ok fl₂=>
    cases fl₂ with
    | ret r=>
     obtain⟨rfl,hq2⟩:=hr₂
     repeat (any_goals (first | assumption | wp_step))
    | _=>exact hr₂.elim
  | _=>exact hr.elim
end
end PySem
namespace PyProof.Rows
open PySem
section
variable {M:Model} {A:Around} {E:Value->Shared->Prop} {s:Shared} {env:Env}
theorem TQ {pos:Pos} {T:String} {e:Expr} {rest:List Expr} {kws:List Keyword} {Q:Value->Shared->Prop}
  (h:wpAny M A (spliced (backTo pos (starEach (e::rest) env))) (λvs s₁=>wpAny M A (evalAll ((backToKw pos (keywordEach kws env)).map (·.2))) (λkvs s₂=>wpAny M A (call (.type T) vs (((backToKw pos (keywordEach kws env)).filterMap (·.1)).zip kvs)) Q E s₂) E s₁) E s)
  (he:backTo pos (starEach (e::rest) env)=(false,eval e env)::backTo pos (starEach rest env):=by rfl) (hplain:(backTo pos (starEach (e::rest) env)).any (·.1)=false:=by rfl)
  (hall:(backToKw pos (keywordEach kws env)).all (·.1.isSome)=true:=by rfl) (hkw:(backToKw pos (keywordEach kws env)).any (·.1.isNone)=false:=by rfl) :
  wpAny M A (callWith pos (.type T) [] (backTo pos (starEach (e::rest) env)) (backToKw pos (keywordEach kws env))) Q E s:=by
 have h2:wpAny M A (evalArgs (.type T) true (backTo pos (starEach (e::rest) env)) (backToKw pos (keywordEach kws env))) (λa s₁=>wpAny M A (call (.type T) ([]++a.pos) a.kw) Q E s₁) E s:=by
  rw[he] at h ⊢
  exact evalArgs_kwB hall h
 unfold callWith
 refine Qcv (Qcc (Qcx h2 (λa s₁ h₁=>Qcv (Qce ?_)) λ_ _ x=>x))
 simp only[hplain,hkw,Qcf]
 exact Qcv (Qcw (Qcv (Qcx h₁ (λr s₂ hr=>Qcv (Qcc (wpAny_point (Qcw hr)))) λ_ _ x=>x)))
end
end PyProof.Rows
namespace L2
open PySem PySem.Spec PyProof.Rows
section
variable {X:Cx}
theorem aD {pins:List (Addr×Obj)} {σ : St} {H:Hp} {s:Shared} {R:It->Hp->Prop} {E:Value->Shared->Prop} {elts:List Expr} {k:Nat} {pos:Pos} {a:Addr} {lo:Nat} {tk:Nat} (I:Inv X pins σ H s) (q:R (Nh X.K a lo) H) :
  wpAny (model X.prog X.w) X.A (pyIter (.ref (s.heap.objs.size+1))) (PIE X pins σ (.Tuple elts k pos) R) E
   { s with heap:=(s.heap.push { cls:=.type "tuple_iterator",data:=.fields #[.ref a,.int 0 0] }).push { cls:=.type "enumerate",data:=.fields #[.none,.bool false,.ref s.heap.objs.size,rawInt (lo:Int),.none,.none] },toks:=tk }:=by
 have hz:(s.heap.push { cls:=.type "tuple_iterator",data:=.fields #[.ref a,.int 0 0] }).objs.size=s.heap.objs.size+1:=QbT ..
 have he:IsEnum ((s.heap.push { cls:=.type "tuple_iterator",data:=.fields #[.ref a,.int 0 0] }).push { cls:=.type "enumerate",data:=.fields #[.none,.bool false,.ref s.heap.objs.size,rawInt (lo:Int),.none,.none] }) (s.heap.objs.size+1) s.heap.objs.size (lo:Int) .none:=by
  have:=QaI (s.heap.push { cls:=.type "tuple_iterator",data:=.fields #[.ref a,.int 0 0] }) (o:={ cls:=.type "enumerate",data:=.fields #[.none,.bool false,.ref s.heap.objs.size,rawInt (lo:Int),.none,.none] }) rfl
  rw[hz] at this
  exact this
 refine wpAny_pyIter_enum he ⟨s.heap.objs.size+1,[s.heap.objs.size+1,s.heap.objs.size],_,_,H,rfl,I.kept (t':=tk) λb o e=>Qav _ (Qav _ e),aU a (s.heap.objs.size+1) s.heap.objs.size lo (Nat.succ_ne_self _),⟨⟨.none,he⟩,⟨_,Qav _ (QaI _ rfl),rfl,rfl⟩⟩,λb hb=>?_,q⟩
 have hb':s.heap.objs.size<=b:=by
  simp only[QbY,Qbu,Qcz] at hb
  rcases hb with rfl | rfl
  ·exact Nat.le_succ _
  ·exact Qcq _
 exact I.Qp hb' (I.hok.fresh hb')
end
section
variable {X:Cx}
def qO (K:PySem.W.Frag) (lo:Nat) (tl:TE):TI:=fun σ H R=>tl σ H λx H1=>∃a,x=.ref a/\(∃xs,SqT K H1 a xs)/\R (Nh K a lo) H1
theorem dJ {pins:List (Addr×Obj)} {σ : St} {H:Hp} {s:Shared} {R:It->Hp->Prop} {elts:List Expr} {k:Nat} {pos:Pos} {a:Addr} {xs:List V} (I:Inv X pins σ H s) (hq:SqT X.K H a xs) (q:R (Nh X.K a 0) H) :
  wpAny (model X.prog X.w) X.A (call (.type "enumerate") [.ref a]) (λv s1=>wpAny (model X.prog X.w) X.A (pyIter v) (PIE X pins σ (.Tuple elts k pos) R) X.xe s1) X.xe s:=by
 obtain⟨its,rv,p,hz⟩:=I.tuple hq
 obtain⟨⟨c,dct,dt,sl⟩,hl,hc,n,hd⟩:=id p
 replace hc:c=.type "tuple":=hc
 replace hd:dt=.seq its.toArray n:=hd
 subst hc hd
 refine callType_new F.called_enumerate (by decide) (F.typeCall_enumerate_1 _) (F.newCall_enumerate_1 _) (λobj=>F.args_object_init_2 obj _) F.entry_enumerate_new (Us a its.toArray n dct sl) ⟨hl,?_⟩
 have hz:(s.heap.push { cls:=.type "tuple_iterator",data:=.fields #[.ref a,.int 0 0] }).objs.size=s.heap.objs.size+1:=QbT ..
 show _/\_
 refine⟨⟨_,QaI _ rfl,rfl⟩,?_⟩
 rw[hz]
 exact aD (lo:=0) (tk:=s.toks) I q
end
section
variable {X:Cx}
theorem RD {x:Expr} {tx:TE} {p pos tp:Pos} {elts:List Expr} {k:Nat} (hg:Gl X "enumerate") (hm:X.mg "enumerate"=none) (hl:PE X x tx) (hs:starEach [x] X.env=[(false,eval x X.env)]:=by rfl):PI X (.Tuple elts k tp) (.Call (.Name "enumerate" p) [x] [] pos) (qO X.K 0 tx):=by
 intro pins s σ H R I h
 refine Call_ (K8 I hg hm boot_enumerate (Qae (thn ((Aa hl Ab (by rw[hs];rfl)) pos pins s σ H (λvs H1=>match vs with | [v]=>∃a,v=.ref a/\(∃xs,SqT X.K H1 a xs)/\R (Nh X.K a 0) H1 | _=>False) I h) λus s1 ⟨vs,H1,I1,r1,q1⟩=>?_) hs rfl))
 cases r1 with
 | nil=>exact False.elim q1
 | cons r rr=>
  cases rr with
  | nil=>
   obtain⟨a,e,⟨xs,hq⟩,q⟩:=q1
   subst e
   cases r
   exact dJ I1 hq q
  | cons _ _=>exact False.elim q1
theorem dI {pins:List (Addr×Obj)} {σ : St} {H:Hp} {s:Shared} {R:It->Hp->Prop} {elts:List Expr} {k:Nat} {pos:Pos} {a:Addr} {xs:List V} {t:Tok} (I:Inv X pins σ H s) (hq:SqT X.K H a xs) (q:R (Nh X.K a 1) H) :
  wpAny (model X.prog X.w) X.A (call (.type "enumerate") [.ref a] [("start",.int 1 t)]) (λv s1=>wpAny (model X.prog X.w) X.A (pyIter v) (PIE X pins σ (.Tuple elts k pos) R) X.xe s1) X.xe s:=by
 obtain⟨its,rv,p,hz⟩:=I.tuple hq
 obtain⟨⟨c,dct,dt,sl⟩,hl,hc,n,hd⟩:=id p
 replace hc:c=.type "tuple":=hc
 replace hd:dt=.seq its.toArray n:=hd
 subst hc hd
 refine jG F.called_enumerate (by decide) (by kernel_rfl) (by kernel_rfl) (λobj=>?ok) F.entry_enumerate_new (Tg a its.toArray n dct sl t) ⟨hl,?_⟩
 case ok=>
  unfold argsOk
  rw[signature?_of (id:="object.__init__") (n:=['_','_','t','i','n','i','_','_']) (o:=['t','c','e','j','b','o']) (by kernel_rfl) F.owner_object]
  kernel_rfl
 have hz:(s.heap.push { cls:=.type "tuple_iterator",data:=.fields #[.ref a,.int 0 0] }).objs.size=s.heap.objs.size+1:=QbT ..
 show _/\_
 refine⟨⟨_,QaI _ rfl,rfl⟩,?_⟩
 rw[hz]
 exact aD (lo:=1) (tk:=s.toks) I q
theorem Mz {x one:Expr} {tx:TE} {p pos tp kp:Pos} {elts:List Expr} {k:Nat} (hg:Gl X "enumerate") (hm:X.mg "enumerate"=none) (hl:PE X x tx) (h1:PE X one (tC (.int 1))) (hs:starEach [x] X.env=[(false,eval x X.env)]:=by rfl)
  (hall:(backToKw pos (keywordEach [⟨some "start",one,kp⟩] X.env)).all (·.1.isSome)=true:=by rfl) (hkw:(backToKw pos (keywordEach [⟨some "start",one,kp⟩] X.env)).any (·.1.isNone)=false:=by rfl)
  (hks:(backToKw pos (keywordEach [⟨some "start",one,kp⟩] X.env)).filterMap (·.1)=(["start"]:List Str):=by rfl) :
  PI X (.Tuple elts k tp) (.Call (.Name "enumerate" p) [x] [⟨some "start",one,kp⟩] pos) (qO X.K 1 tx):=by
 intro pins s σ H R I h
 refine Qbc (K8 I hg hm boot_enumerate (PyProof.Rows.TQ (thn ((Aa hl Ab (by rw[hs];rfl)) pos pins s σ H (λvs H1=>match vs with | [v]=>∃a,v=.ref a/\(∃xs,SqT X.K H1 a xs)/\R (Nh X.K a 1) H1 | _=>False) I h) λus s1 ⟨vs,H1,I1,r1,q1⟩=>?_) (by rw[hs];rfl) (by rw[hs];rfl) hall hkw))
 refine thn ((rY h1 vX) pos pins s1 σ H1 (λks H2=>H2=H1/\ks=[.int 1]) I1 ⟨rfl,rfl⟩) λws s2 ⟨zs,H2,I2,rz,e2,ez⟩=>?_
 subst e2 ez
 cases rz with
 | cons rz1 rz2=>
  cases rz2
  obtain⟨t,rfl⟩:=rz1
  rw[hks]
  cases r1 with
  | nil=>exact False.elim q1
  | cons r rr=>
   cases rr with
   | nil=>
    obtain⟨a,e,⟨xs,hq⟩,q⟩:=q1
    subst e
    cases r
    exact dI I2 hq q
   | cons _ _=>exact False.elim q1
theorem Ji {K:PySem.W.Frag} {a:Addr} {lo:Nat} {xs:List V} {g:TG} {tb:TS} {D:Ends} {σ : St} {H:Hp} (Pv:Nat->St->Hp->Prop) (h0:Pv 0 σ H) (hl:∀i σ H',i<=xs.length->Pv i σ H'->SqT K H' a xs)
  (hs:∀i x p σ H',xs[i]?=some x->Pv i σ H'->H' p=none->g (.ref p) σ (upd H' p (.tup [.int ((lo+i:Nat):Int),x])) fun σ2 H2=>tb { D with nx:=Pv (i+1),ct:=Pv (i+1),bk:=D.nx } σ2 H2) (hd:∀ σ H',Pv xs.length σ H'->D.nx σ H') :
  ∃W:Nat->Nat->St->Hp->Prop,(∃m,W 0 m σ H)/\∀i m σ H,W i m σ H ->
   ((Nh K a lo).stop i H/\D.nx σ H)\/((Nh K a lo).go i H/\∃N:St->Hp->Prop,(∀ σ' H',N σ' H'->∃m',m' < m/\W (i+1) m' σ' H')/\∀x H',(Nh K a lo).yld i H x H'->g x σ H' fun σ2 H2=>tb { D with nx:=N,ct:=N,bk:=D.nx } σ2 H2):=by
 refine⟨λi m σ H=>m=xs.length - i/\i<=xs.length/\Pv i σ H,⟨xs.length,by simp,Qcr _,h0⟩,?_⟩
 rintro i m σ H ⟨rfl,hi,p⟩
 have q:=hl i σ H hi p
 by_cases hlt:i < xs.length
 ·refine .inr ⟨⟨xs,xs[i],q,by simp[hlt]⟩,Pv (i+1),fun σ3 H3 p'=>⟨xs.length - (i+1),by omega,rfl,hlt,p'⟩,λv H2 y=>?_⟩
  obtain⟨pa,x,hn,rfl,rfl,hx⟩:=y
  exact hs i x pa σ _ (hx xs q) p hn
 ·have e:i=xs.length:=by omega
  subst e
  exact .inl ⟨⟨xs,q,Qcq _⟩,hd σ H p⟩
theorem jA {K:PySem.W.Frag} {a l:Addr} {lo:Nat} {xs:List V} {g:TG} {tt:TT} {te:TE} {Q:VK} {σ0:St} {H0:Hp} (Pv:Nat->St->Hp->Prop)
  (h0:Pv 0 σ0 H0) (hl:∀i σ H',i<=xs.length->Pv i σ H'->SqT K H' a xs)
  (hs:∀i x p σ H',xs[i]?=some x->Pv i σ H'->H' p=none->g (.ref p) σ (upd H' p (.tup [.int ((lo+i:Nat):Int),x])) fun σ3 H3=>tt σ3 H3 λb H4=>if b=true then te σ3 H4 λy H5=>∃ys,H5 l=some (.lst ys)/\ys.length < sizeLine/\Pv (i+1) σ3 (upd H5 l (.lst (ys++[y]))) else Pv (i+1) σ3 H4)
  (hd:∀ σ H',Pv xs.length σ H'->Q (.ref l) H'):Gd (Nh K a lo) g tt te Q σ0 H0 l:=by
 unfold Gd
 refine⟨λi m σ H'=>m=xs.length - i/\i<=xs.length/\Pv i σ H',⟨xs.length,by simp,Qcr _,h0⟩,?_⟩
 rintro i m σ H' ⟨rfl,hi,p⟩
 have q:=hl i σ H' hi p
 by_cases hlt:i < xs.length
 ·refine .inr ⟨⟨xs,xs[i],q,by simp[hlt]⟩,Pv (i+1),fun σ3 H3 p'=>⟨xs.length - (i+1),by omega,rfl,hlt,p'⟩,λv H2 y=>?_⟩
  obtain⟨pa,x,hn,rfl,rfl,hx⟩:=y
  exact hs i x pa σ _ (hx xs q) p hn
 ·have e:i=xs.length:=by omega
  subst e
  exact .inl ⟨⟨xs,q,Qcq _⟩,hd σ H' p⟩
end
section
variable {X:Cx}
end
end L2
namespace PySem.ZZ
open PySem
section
variable {prog:Program} {w:World} {A:Around} {E:Value->Shared->Prop} {s:Shared}
theorem R3 {M:Model} {α β : Type} {Q:β->Shared->Prop} {body:α->β->Sem (ForInStep β)} (J:List α->β->Shared->Prop) (hnil:∀b s,J [] b s->Q b s)
  (hstep:∀x r b s,J (x::r) b s->wpAny M A (body x b) (λst s'=>match st with | .yield b'=>J r b' s' | .done b'=>Q b' s') E s):∀(l:List α) (b:β) (s:Shared),J l b s->wpAny M A (forIn l b body) Q E s
 | [],b,s,h=>by
  rw[List.forIn_nil]
  exact Qcw (hnil b s h)
 | x::r,b,s,h=>by
  rw[List.forIn_cons]
  refine Qcv (Qcx (hstep x r b s h) (λst s' q=>?_) λ_ _ e=>e)
  cases st with
  | yield b'=>exact R3 J hnil hstep r b' s' q
  | done b'=>exact Qcw q
structure Src where
 it:Addr
 a:Addr
 items:Array Value
def SrcAt (h:Heap) (x:Src) (i:Nat):Prop:=(h.IsListIter x.it x.a i/\h.IsList x.a x.items)\/(h.IsTupleIter x.it x.a i/\h.IsTuple x.a x.items)
theorem SrcAt.keep {h h':Heap} {x:Src} {i:Nat} (q:SrcAt h x i) (k1:∀o,h.get? x.it=some o->h'.get? x.it=some o) (k2:∀o,h.get? x.a=some o->h'.get? x.a=some o):SrcAt h' x i:=by
 rcases q with⟨q1,q2⟩|⟨q1,o,e,r⟩
 ·exact .inl ⟨q1.at k1,q2.at k2⟩
 ·exact .inr ⟨q1.at k1,o,k2 o e,r⟩
theorem SrcAt.ne {h:Heap} {x:Src} {i:Nat} (q:SrcAt h x i):x.a≠x.it:=λz=>by
 rcases q with⟨⟨o,e,c,_⟩,⟨o',e',c',_⟩⟩|⟨⟨o,e,c,_⟩,⟨o',e',c',_⟩⟩
 ·rw[z,e] at e';cases e';rw[c] at c';injection c' with y;exact absurd y (by decide)
 ·rw[z,e] at e';cases e';rw[c] at c';injection c' with y;exact absurd y (by decide)
theorem Ws {x:Src} {i:Nat} {v:Value} {Q:Value->Shared->Prop} (q:SrcAt s.heap x i) (hx:x.items[i]?=some v) (hQ:∀h',SrcAt h' x (i+1)->Heap.SameBut x.it s.heap h'->Q v { s with heap:=h' }) :
  wpAny (model prog w) A (Builtin.SmallTypes.nextOf (.ref x.it)) Q E s:=by
 have ne:=q.ne
 rcases q with⟨q1,q2⟩|⟨q1,q2⟩
 ·exact wpAny_nextOf_list_item q1 q2 hx λh' i1 sb=>hQ h' (.inl ⟨i1,q2.at λo e=>sb.extBut _ _ ne e⟩) sb
 ·exact Nk q1 q2 hx λh' i1 sb=>hQ h' (.inr ⟨i1,let ⟨o,e,r⟩:=q2;⟨o,sb.extBut _ _ ne e,r⟩⟩) sb
theorem rJ {x:Src} {i:Nat} {Q:Value->Shared->Prop} (hh:A.handled=none) (q:SrcAt s.heap x i) (hx:x.items[i]?=none)
  (hE:∀h' e,Heap.ExtBut x.it s.heap h'->(∃o,h'.get? e=some o/\o.cls=.type "StopIteration")->E (.ref e) { s with heap:=h' }):wpAny (model prog w) A (Builtin.SmallTypes.nextOf (.ref x.it)) Q E s:=by
 rcases q with⟨q1,q2⟩|⟨q1,q2⟩
 ·exact wpAny_nextOf_list_end hh q1 q2 hx hE
 ·exact Kh hh q1 q2 hx hE
abbrev IsZ (h:Heap) (z TI TO:Addr) (f0 f1:Value):Prop:=h.get? z=some { cls:=.type "zip",dict:=none,data:=.fields #[f0,f1,.bool false,.ref TI,.ref TO],slots:=#[] }
abbrev Dm (h:Heap) (T:Addr) (xs:List Value):Prop:=h.get? T=some { cls:=.type "tuple",data:=.seq xs.toArray }
structure Apart (z TI TO:Addr) (ls:List Src):Prop where
 TIz:TI≠z
 TOz:TO≠z
 TITO:TI≠TO
 it:∀x∈ls,x.it≠z/\x.it≠TI/\x.it≠TO
 a:∀x∈ls,x.a≠z/\x.a≠TO
 ai:∀x∈ls,∀y∈ls,x.a≠y.it
 nd:(ls.map (·.it)).Nodup
def Rest (z TO:Addr) (ls:List Src) (h h':Heap):Prop:=∀c o,c≠z->c≠TO->c∉ls.map (·.it)->h.get? c=some o->h'.get? c=some o
theorem rM {xs olds:List Value} {k:Nat} {v:Value} (hk:k < olds.length) (hx:xs.length=olds.length) (e:xs[k]?=some v):(xs.take k++olds.drop k).toArray.setIfInBounds k v=(xs.take (k+1)++olds.drop (k+1)).toArray:=by
 rw[List.setIfInBounds_toArray]
 congr 1
 have hl:(xs.take k).length=k:=by rw[Qbs];omega
 rw[List.set_append_right _ _ (by omega),hl,Nat.sub_self,Qaj hk,QaT,List.take_add_one,e]
 simp
structure Mid (z TI TO:Addr) (ls:List Src) (xs olds:List Value) (i:Nat) (f0 f1:Value) (h:Heap) (k:Nat) (h':Heap):Prop where
 hz:IsZ h' z TI TO f0 f1
 hTI:Dm h' TI (ls.map λx=>.ref x.it)
 done:∀j x,ls[j]?=some x->SrcAt h' x (if j < k then i+1 else i)
 rest:Rest z TO ls h h'
 size:h'.objs.size=h.objs.size
theorem Mid.draw {z TI TO:Addr} {ls:List Src} {xs olds:List Value} {i:Nat} {f0 f1:Value} {h h1 h2:Heap} {k:Nat} {x:Src} (D:Apart z TI TO ls) (m:Mid z TI TO ls xs olds i f0 f1 h k h1) (hx:ls[k]?=some x) (q:SrcAt h2 x (i+1)) (sb:Heap.SameBut x.it h1 h2) :
  Mid z TI TO ls xs olds i f0 f1 h (k+1) h2:=by
 have hm:=QaD hx
 have hi:=D.it x hm
 refine⟨sb.extBut _ _ hi.1.symm m.hz,sb.extBut _ _ hi.2.1.symm m.hTI,λj y hy=>?_,λc o c1 c2 c3 e=>sb.extBut _ _ (λz=>c3 (z ▸ Qci.mpr ⟨x,hm,rfl⟩)) (m.rest c o c1 c2 c3 e),by rw[sb.1,m.size]⟩
 by_cases hj:j=k
 ·subst hj
  rw[hx] at hy
  cases hy
  rw[if_pos (Qby _)]
  exact q
 ·have h1:=m.done j y hy
  have hne:y.it≠x.it:=λz=>hj (by
   have e1:(ls.map (·.it))[j]?=some y.it:=by rw[Qbi,hy];rfl
   have e2:(ls.map (·.it))[k]?=some x.it:=by rw[Qbi,hx];rfl
   rw[z] at e1
   have l1:=(Qah.mp e1)
   have l2:=(Qah.mp e2)
   exact (List.getElem_inj D.nd).mp (l1.2.trans l2.2.symm))
  have hc:(if j < k+1 then i+1 else i)=(if j < k then i+1 else i):=by
   by_cases c:j < k
   ·rw[if_pos c,if_pos (by omega)]
   ·rw[if_neg c,if_neg (by omega)]
  rw[hc]
  exact h1.keep (λo e=>sb.extBut _ _ hne e) (λo e=>sb.extBut _ _ (D.ai y (QaD hy) x hm) e)
theorem Mid.other {z TI TO:Addr} {ls:List Src} {xs olds:List Value} {i:Nat} {f0 f1:Value} {h h1 h2:Heap} {k:Nat} (D:Apart z TI TO ls) (m:Mid z TI TO ls xs olds i f0 f1 h k h1) (sb:Heap.SameBut TO h1 h2):Mid z TI TO ls xs olds i f0 f1 h k h2:=by
 refine⟨sb.extBut _ _ D.TOz.symm m.hz,sb.extBut _ _ D.TITO m.hTI,λj y hy=>?_,λc o c1 c2 c3 e=>sb.extBut _ _ c2 (m.rest c o c1 c2 c3 e),by rw[sb.1,m.size]⟩
 have hm:=QaD hy
 exact (m.done j y hy).keep (λo e=>sb.extBut _ _ (D.it y hm).2.2 e) (λo e=>sb.extBut _ _ (D.a y hm).2 e)
theorem Vx {z TI TO:Addr} {ls:List Src} {xs olds:List Value} {i:Nat} {f1:Value} {Q:Value->Shared->Prop} (D:Apart z TI TO ls) (hz:IsZ s.heap z TI TO .none f1) (hTI:Dm s.heap TI (ls.map λx=>.ref x.it)) (hTO:Dm s.heap TO olds)
  (hat:∀x∈ls,SrcAt s.heap x i) (hne:ls≠[]) (hl1:xs.length=ls.length) (hl2:olds.length=ls.length) (hx:∀(j:Nat) (x:Src),ls[j]?=some x->∃v,xs[j]?=some v/\x.items[i]?=some v) (hsz:ls.length<=100)
  (hQ:∀h',IsZ h' z TI TO (rawInt s.heap.objs.size) (.bool false)->Dm h' TI (ls.map λx=>.ref x.it)->Dm h' TO xs->(∀x∈ls,SrcAt h' x (i+1))->Dm h' s.heap.objs.size xs->h'.objs.size=s.heap.objs.size+1->Rest z TO ls s.heap h'->Q (.ref s.heap.objs.size) { s with heap:=h' }) :
  wpAny (model prog w) A (Builtin.«zip.__next__» ⟨[.ref z],[]⟩) (λfin s'=>∃v,fin=.done (.ret v)/\Q v s') E s:=by
 show wpAny _ _ (field (.ref z) 2 >>= _) _ _ _
 refine Qcv (Qct hz rfl (x:=.bool false) rfl ?_)
 show wpAny _ _ (field (.ref z) 3 >>= _) _ _ _
 refine Qcv (Qct hz rfl (x:=.ref TI) rfl ?_)
 refine Qcv (QbW hTI rfl ?_)
 dsimp only
 rw[if_neg (by cases ls with | nil=>exact absurd rfl hne | cons a r=>simp)]
 show wpAny _ _ (Builtin.SmallTypes.ownedTupleIsFree (.ref z) >>= _) _ _ _
 refine Qcv ?_
 unfold Builtin.SmallTypes.ownedTupleIsFree
 refine Qcv (Qct hz rfl (x:=.none) rfl (Qcw ?_))
 simp only[if_true]
 refine Qcv (wpAny_rule ?_)
 refine Qcv (Qct hz rfl (x:=.ref TO) rfl ?_)
 refine Qcv (QaZ hz (by simp) λh₁ hz₁ hs₁=>?_)
 replace hz₁ : IsZ h₁ z TI TO .ellipsis f1:=hz₁
 refine Qcv ?_
 have m0:Mid z TI TO ls xs olds i .ellipsis f1 s.heap 0 h₁:=by
  refine⟨hz₁,hs₁.extBut _ _ D.TIz hTI,λj x hj=>?_,λc o c1 _ _ e=>hs₁.extBut _ _ c1 e,hs₁.1⟩
  have hm:=QaD hj
  rw[if_neg (QbO _)]
  exact (hat x hm).keep (λo e=>hs₁.extBut _ _ (D.it x hm).1 e) (λo e=>hs₁.extBut _ _ (D.a x hm).1 e)
 have X7 : Dm h₁ TO (xs.take 0++olds.drop 0):=hs₁.extBut _ _ D.TOz hTO
 refine R3 (λl b s'=>∃k h',k<=ls.length/\l=((ls.map λx=>Value.ref x.it).drop k).zipIdx k/\b=⟨none,⟨⟩⟩/\s'={ s with heap:=h' }/\Mid z TI TO ls xs olds i .ellipsis f1 s.heap k h'/\Dm h' TO (xs.take k++olds.drop k)) (λb s' h=>?_) (λx r b s' h=>?_) _ _ _ ⟨0,h₁,Qcr _,rfl,rfl,rfl,m0,X7⟩
 ·obtain⟨k,h',hk,e1,rfl,rfl,m,hT⟩:=h
  have hkl:k=ls.length:=by
   have:=congrArg List.length e1
   rw[List.length_nil,List.length_zipIdx,Qbx,QbB] at this
   omega
  subst hkl
  rw[<-hl1,Qbt,hl1,<-hl2,List.drop_length,QbF] at hT
  dsimp only
  refine Qcv (QbW hT rfl ?_)
  refine Qcv (wpAny_newTuple ?_ (by show xs.length<=sizeLine;rw[Qcu];omega))
  have hkl:∀j x,ls[j]?=some x->SrcAt h' x (i+1):=λj x hj=>by
   have:=m.done j x hj
   rw[if_pos (Qah.mp hj).1] at this
   exact this
  have hzlt:z < h'.objs.size:=Qch m.hz
  have hTOlt:TO < h'.objs.size:=Qch hT
  show wpAny _ _ (Builtin.SmallTypes.ownedTupleHandOut (.ref z) (.ref h'.objs.size) >>= _) _ _ _
  refine Qcv ?_
  unfold Builtin.SmallTypes.ownedTupleHandOut
  have hz₆ : IsZ (h'.push { cls:=.type "tuple",data:=.seq xs.toArray }) z TI TO .ellipsis f1:=Qav _ m.hz
  refine Qcv (QaZ hz₆ (by simp) λh₇ hz₇ hs₇=>?_)
  replace hz₇ : IsZ h₇ z TI TO (rawInt h'.objs.size) f1:=hz₇
  refine QaZ hz₇ (by simp) λh₈ hz₈ hs₈=>?_
  replace hz₈ : IsZ h₈ z TI TO (rawInt h'.objs.size) (.bool false):=hz₈
  have up:∀c o,c≠z->h'.get? c=some o->h₈.get? c=some o:=λc o c1 e=>hs₈.extBut _ _ c1 (hs₇.extBut _ _ c1 (Qav _ e))
  have hT₈ : Dm h₈ h'.objs.size xs:=hs₈.extBut _ _ (Qcm hzlt) (hs₇.extBut _ _ (Qcm hzlt) (QaI _ rfl))
  have hz8:h₈.objs.size=h'.objs.size+1:=by rw[hs₈.1,hs₇.1,QbT]
  have hsz':=m.size
  rw[hsz'] at hz₈ hT₈ hz8
  refine Qcw ⟨_,rfl,?_⟩
  show Q (.ref h'.objs.size) _
  rw[hsz']
  refine hQ h₈ hz₈ (up _ _ D.TIz m.hTI) (up _ _ D.TOz hT) (λx hm=>?_) hT₈ hz8 λc o c1 c2 c3 e=>up c o c1 (m.rest c o c1 c2 c3 e)
  obtain⟨j,hj⟩:=QaG hm
  exact (hkl j x hj).keep (λo e=>up _ o (D.it x hm).1 e) (λo e=>up _ o (D.a x hm).1 e)
 ·obtain⟨k,h',hk,e1,rfl,rfl,m,hT⟩:=h
  have hkl:k < ls.length:=by
   have:=congrArg List.length e1
   rw[Qbr,List.length_zipIdx,Qbx,QbB] at this
   omega
  obtain⟨y,hy⟩ : ∃y,ls[k]?=some y:=⟨_,Qan hkl⟩
  have hm:=QaD hy
  rw[Qaj (by rw[QbB];exact hkl),List.zipIdx_cons,List.getElem_map] at e1
  have ey:ls[k]=y:=(Qah.mp hy).2
  rw[ey] at e1
  injection e1 with e1 e2
  subst e1 e2
  obtain⟨v,hv1,hv2⟩:=hx k y hy
  refine Qcv (wpAny_onRaise ?_)
  show wpAny _ _ (Builtin.SmallTypes.nextOf (.ref y.it) >>= _) _ _ _
  have q0:=m.done k y hy
  rw[if_neg (Qcb _)] at q0
  refine Qcv (Ws q0 hv2 λh2 q2 sb2=>Qcw ?_)
  have m2:=m.draw D hy q2 sb2
  have hT2:Dm h2 TO (xs.take k++olds.drop k):=sb2.extBut _ _ (D.it y hm).2.2.symm hT
  have hln:(xs.take k++olds.drop k).length<=100:=by rw[QaQ,Qbs,Qbx];omega
  have hsm:=rM (xs:=xs) (olds:=olds) (k:=k) (v:=v) (by omega) (by omega) hv1
  refine Qcv (QbW hT2 rfl ?_)
  refine Qcv (wpAny_updateSeq hT2 rfl ?_ (by rw[Qbg,Qcu];omega) (by rw[hsm,Qbg,Qcu,QaQ,Qbs,Qbx];omega))
  have sb3:Heap.SameBut TO h2 (h2.update TO (Obj.mapSeq λx=>x.setIfInBounds k v)):=QaN ..
  have hT3:Dm (h2.update TO (Obj.mapSeq λx=>x.setIfInBounds k v)) TO (xs.take (k+1)++olds.drop (k+1)):=by
   show (h2.update TO _).get? TO=_
   rw[QaC _ hT2 rfl,<-hsm]
   simp[Obj.mapSeq]
  refine Qcv (wpAny_letGo (Qcw ?_))
  exact⟨k+1,_,hkl,rfl,rfl,rfl,m2.other D sb3,hT3⟩
theorem Wd {z TI TO:Addr} {ls:List Src} {olds:List Value} {i:Nat} {f1:Value} {Q:Fin->Shared->Prop} (hh:A.handled=none) (D:Apart z TI TO ls) (hz:IsZ s.heap z TI TO .none f1) (hTI:Dm s.heap TI (ls.map λx=>.ref x.it)) (hTO:Dm s.heap TO olds)
  (hat:∀x∈ls,SrcAt s.heap x i) (hne:ls≠[]) (hl2:olds.length=ls.length) (hsz:ls.length<=100) (hend:∃x∈ls,x.items[i]?=none)
  (hE:∀h' e,Rest z TO ls s.heap h'->(∃o,h'.get? e=some o/\o.cls=.type "StopIteration")->E (.ref e) { s with heap:=h' }) :
  wpAny (model prog w) A (Builtin.«zip.__next__» ⟨[.ref z],[]⟩) Q E s:=by
 show wpAny _ _ (field (.ref z) 2 >>= _) _ _ _
 refine Qcv (Qct hz rfl (x:=.bool false) rfl ?_)
 show wpAny _ _ (field (.ref z) 3 >>= _) _ _ _
 refine Qcv (Qct hz rfl (x:=.ref TI) rfl ?_)
 refine Qcv (QbW hTI rfl ?_)
 dsimp only
 rw[if_neg (by cases ls with | nil=>exact absurd rfl hne | cons a r=>simp)]
 show wpAny _ _ (Builtin.SmallTypes.ownedTupleIsFree (.ref z) >>= _) _ _ _
 refine Qcv ?_
 unfold Builtin.SmallTypes.ownedTupleIsFree
 refine Qcv (Qct hz rfl (x:=.none) rfl (Qcw ?_))
 simp only[if_true]
 refine Qcv (wpAny_rule ?_)
 refine Qcv (Qct hz rfl (x:=.ref TO) rfl ?_)
 refine Qcv (QaZ hz (by simp) λh₁ hz₁ hs₁=>?_)
 replace hz₁ : IsZ h₁ z TI TO .ellipsis f1:=hz₁
 refine Qcv ?_
 have m0:Mid z TI TO ls [] olds i .ellipsis f1 s.heap 0 h₁:=by
  refine⟨hz₁,hs₁.extBut _ _ D.TIz hTI,λj x hj=>?_,λc o c1 _ _ e=>hs₁.extBut _ _ c1 e,hs₁.1⟩
  have hm:=QaD hj
  rw[if_neg (QbO _)]
  exact (hat x hm).keep (λo e=>hs₁.extBut _ _ (D.it x hm).1 e) (λo e=>hs₁.extBut _ _ (D.a x hm).1 e)
 have X7 : Dm h₁ TO olds:=hs₁.extBut _ _ D.TOz hTO
 refine R3 (λl b s'=>∃k h' ys,k<=ls.length/\l=((ls.map λx=>Value.ref x.it).drop k).zipIdx k/\b=⟨none,⟨⟩⟩/\s'={ s with heap:=h' }/\Mid z TI TO ls [] olds i .ellipsis f1 s.heap k h'/\Dm h' TO ys/\ys.length=ls.length/\∃x∈ls.drop k,x.items[i]?=none) (λb s' h=>?_) (λx r b s' h=>?_) _ _ _ ⟨0,h₁,olds,Qcr _,rfl,rfl,rfl,m0,X7,hl2,hend⟩
 ·obtain⟨k,h',ys,hk,e1,rfl,rfl,m,hT,hy,x,hx,_⟩:=h
  have:k=ls.length:=by
   have:=congrArg List.length e1
   rw[List.length_nil,List.length_zipIdx,Qbx,QbB] at this
   omega
  subst this
  rw[List.drop_length] at hx
  cases hx
 ·obtain⟨k,h',ys,hk,e1,rfl,rfl,m,hT,hys,xe,hxe,hxn⟩:=h
  have hkl:k < ls.length:=by
   have:=congrArg List.length e1
   rw[Qbr,List.length_zipIdx,Qbx,QbB] at this
   omega
  obtain⟨y,hy⟩ : ∃y,ls[k]?=some y:=⟨_,Qan hkl⟩
  have hm:=QaD hy
  rw[Qaj (by rw[QbB];exact hkl),List.zipIdx_cons,List.getElem_map] at e1
  have ey:ls[k]=y:=(Qah.mp hy).2
  rw[ey] at e1
  injection e1 with e1 e2
  subst e1 e2
  refine Qcv (wpAny_onRaise ?_)
  show wpAny _ _ (Builtin.SmallTypes.nextOf (.ref y.it) >>= _) _ _ _
  have q0:=m.done k y hy
  rw[if_neg (Qcb _)] at q0
  cases hv:y.items[i]? with
  | none=>
   refine Qcv (rJ hh q0 hv λh₂ e hs₂ he=>?_)
   obtain⟨oe,hoe,hce⟩:=he
   have hz₂ : IsZ h₂ z TI TO .ellipsis f1:=hs₂ _ _ (D.it y hm).1.symm m.hz
   have hez:e≠z:=λx=>by subst x;rw[hz₂] at hoe;cases hoe;simp at hce
   refine QaZ hz₂ (by simp) λh₃ _ hs₃=>hE h₃ e (λc o c1 c2 c3 x=>hs₃.extBut _ _ c1 (hs₂ _ _ (λq=>c3 (q ▸ Qci.mpr ⟨y,hm,rfl⟩)) (m.rest c o c1 c2 c3 x))) ⟨oe,hs₃.extBut _ _ hez hoe,hce⟩
  | some v=>
   refine Qcv (Ws q0 hv λh2 q2 sb2=>Qcw ?_)
   have m2:=m.draw D hy q2 sb2
   have hT2:Dm h2 TO ys:=sb2.extBut _ _ (D.it y hm).2.2.symm hT
   refine Qcv (QbW hT2 rfl ?_)
   refine Qcv (wpAny_updateSeq hT2 rfl ?_ (by rw[Qbg,Qcu];omega) (by rw[Array.size_setIfInBounds,Qbg,Qcu];omega))
   have sb3:Heap.SameBut TO h2 (h2.update TO (Obj.mapSeq λx=>x.setIfInBounds k v)):=QaN ..
   have hT3:Dm (h2.update TO (Obj.mapSeq λx=>x.setIfInBounds k v)) TO (ys.set k v):=by
    show (h2.update TO _).get? TO=_
    rw[QaC _ hT2 rfl,<-List.setIfInBounds_toArray]
    simp[Obj.mapSeq]
   refine Qcv (wpAny_letGo (Qcw ?_))
   refine⟨k+1,_,ys.set k v,hkl,rfl,rfl,rfl,m2.other D sb3,hT3,by rw[List.length_set];exact hys,xe,?_,hxn⟩
   rw[Qaj hkl,ey] at hxe
   rcases QbY.mp hxe with z | z
   ·subst z;rw[hv] at hxn;cases hxn
   ·exact z
theorem bN {z TI TO:Addr} {f0 f1:Value} {Q:Option Value->Shared->Prop} (hz:IsZ s.heap z TI TO f0 f1) {Qi:Value->Shared->Prop} (h:wpAny (model prog w) A.in1 (Builtin.«zip.__next__» ⟨[.ref z],[]⟩) (λfin s'=>∃v,fin=.done (.ret v)/\Qi v s') (λ_ _=>False) s) (hQ:∀v s',Qi v s'->Q (some v) s') :
  wpAny (model prog w) A (pyNext (.ref z)) Q E s:=by
 have hT:s.TypeIs (.ref z) "zip":=⟨_,hz,rfl⟩
 unfold pyNext
 refine Qcv (Qcg (Qar (name:=Str.ofString "__next__") hT F.slot_zip_next (Qbv F.slot_zip_next hT F.entry_zip_next (Qcx h (λfin s' q=>?_) λ_ _ f=>f.elim) (F.args_zip_next_1 _))))
 obtain⟨v,e,q⟩:=q
 exact⟨v,e,Qcw (hQ v s' q)⟩
theorem Uj {z TI TO:Addr} {f0 f1:Value} {Q:Option Value->Shared->Prop} {R:Heap->Prop} (hz:IsZ s.heap z TI TO f0 f1)
  (h:wpAny (model prog w) A.in1 (Builtin.«zip.__next__» ⟨[.ref z],[]⟩) (λ_ _=>False) (λv s'=>∃h' e,v=.ref e/\s'={ s with heap:=h' }/\R h'/\∃o,h'.get? e=some o/\o.cls=.type "StopIteration") s) (hQ:∀h',R h'->Q none { s with heap:=h' }) :
  wpAny (model prog w) A (pyNext (.ref z)) Q E s:=by
 have hT:s.TypeIs (.ref z) "zip":=⟨_,hz,rfl⟩
 unfold pyNext
 refine Qcv (Qcg (Qar (name:=Str.ofString "__next__") hT F.slot_zip_next (Qbv F.slot_zip_next hT F.entry_zip_next (Qcx h (λ_ _ f=>f.elim) λv s' q=>?_) (F.args_zip_next_1 _))))
 obtain⟨h',e,rfl,rfl,r,o,ho,hc⟩:=q
 exact Qcv (wpAny_isInstance (T:="StopIteration") (b:=true) ⟨o,ho,hc⟩ isSubtype_stop (Qcw (hQ _ r)))
theorem S7 {z TI TO:Addr} {f0 f1:Value} {Q:Value->Shared->Prop} (hz:IsZ s.heap z TI TO f0 f1) (h:Q (.ref z) s):wpAny (model prog w) A (pyIter (.ref z)) Q E s:=by
 have hT:s.TypeIs (.ref z) "zip":=⟨_,hz,rfl⟩
 refine wpAny_pyIter_slot hT F.slot_zip_iter (Qbv F.slot_zip_iter hT F.entry_zip_iter ?_ (F.args_zip_iter_1 _))
 show wpAny _ _ (ret (.ref z)) _ _ s
 exact Qcw ⟨_,rfl,"zip",_,hT,F.slot_zip_next.lookup,h⟩
theorem iB {elts:List Expr} {x1} {pos:Pos} {z TI TO T:Addr} {f1:Value} {Q:Unit->Shared->Prop} (hz:IsZ s.heap z TI TO (rawInt T) f1)
  (hQ:∀h',IsZ h' z TI TO .none f1->Heap.SameBut z s.heap h'->Q () { s with heap:=h' }):wpAny (model prog w) A (letOwnedTupleGo (.Tuple elts x1 pos) (.ref z) (.ref T)) Q E s:=by
 unfold letOwnedTupleGo
 refine Qcv (wpAny_load hz ?_)
 show wpAny _ _ (if (["enumerate","zip","dict_itemiterator","dict_reverseitemiterator","odict_iterator","itertools.zip_longest","itertools.pairwise"].contains "zip" &&
   (#[rawInt T,f1,.bool false,.ref TI,.ref TO]:Array Value)[0]? == some (rawInt T))=true then _ else _) Q E s
 rw[if_pos (by simp)]
 refine Qcv (wpAny_rule ?_)
 show wpAny _ _ (setField (.ref z) 0 .none) Q E s
 exact QaZ hz (by simp) λh' hz' hs'=>hQ h' hz' hs'
end
end PySem.ZZ
namespace PySem
namespace F
end F
end PySem
namespace PySem.ZZ
open PySem
def Qv (h:Heap) (a:Addr) (xs:Array Value) (c:String):Prop:=(c="list_iterator"/\h.IsList a xs)\/(c="tuple_iterator"/\h.IsTuple a xs)
theorem Qv.src {h h':Heap} {a it:Addr} {xs:Array Value} {c:String} (q:Qv h a xs c) (k:∀o,h.get? a=some o->h'.get? a=some o) (e:h'.get? it=some { cls:=.type c,data:=.fields #[.ref a,.int 0 0] }):SrcAt h' ⟨it,a,xs⟩ 0:=by
 rcases q with⟨rfl,q⟩|⟨rfl,o,ho,r⟩
 ·exact .inl ⟨⟨_,e,rfl,rfl⟩,q.at k⟩
 ·exact .inr ⟨⟨_,e,rfl,rfl⟩,o,k o ho,r⟩
theorem Qv.lt {h:Heap} {a:Addr} {xs:Array Value} {c:String} (q:Qv h a xs c):a < h.objs.size:=by
 rcases q with⟨rfl,o,e,_⟩|⟨rfl,o,e,_⟩
 ·exact Qch e
 ·exact Qch e
abbrev itO (c:String) (l:Addr):Obj:={ cls:=.type c,data:=.fields #[.ref l,.int 0 0] }
abbrev tuO (xs:Array Value):Obj:={ cls:=.type "tuple",data:=.seq xs }
abbrev z2a (h:Heap) (c1 c2:String) (l1 l2:Addr):Heap:=((((h.push (itO c1 l1)).push (itO c2 l2)).push (tuO #[.ref h.objs.size,.ref (h.push (itO c1 l1)).objs.size])).push (tuO #[.none,.none]))
abbrev z2 (h:Heap) (c1 c2:String) (l1 l2:Addr):Heap:=(z2a h c1 c2 l1 l2).push
 { cls:=.type "zip",data:=.fields #[.none,.bool false,.bool false,.ref ((h.push (itO c1 l1)).push (itO c2 l2)).objs.size,.ref (((h.push (itO c1 l1)).push (itO c2 l2)).push (tuO #[.ref h.objs.size,.ref (h.push (itO c1 l1)).objs.size])).objs.size] }
theorem cA (l1 l2:Addr) (xs ys:Array Value) (c1 c2:String):Meets (Builtin.«zip.__new__» ⟨[.type "zip",.ref l1,.ref l2],[]⟩) (λ_ R s=>Qv s.heap l1 xs c1/\Qv s.heap l2 ys c2/\R (.ok (.ret (.ref (z2a s.heap c1 c2 l1 l2).objs.size))) { s with heap:=z2 s.heap c1 c2 l1 l2 }):=
 .of_wp λprog w A R s h=>by
  obtain⟨hp,g,d,tk,os⟩:=s
  obtain⟨hl1,hl2,h⟩:=h
  have hsub:=sub_zip
  rcases hl1 with⟨rfl,hl1⟩|⟨rfl,hl1⟩
  ·have hL1:Heap.IsList (Shared.heap ⟨hp,g,d,tk,os⟩) l1 xs:=hl1
   rcases hl2 with⟨rfl,hl2⟩|⟨rfl,hl2⟩
   ·have hL2:Heap.IsList (Shared.heap ⟨hp.push (itO "list_iterator" l1),g,d,tk,os⟩) l2 ys:=Heap.IsList.push hl2 _
    wp_walk using Qbp hL1,Qbp hL2
    exact⟨_,rfl,h⟩
   ·have hL2:Heap.IsTuple (Shared.heap ⟨hp.push (itO "list_iterator" l1),g,d,tk,os⟩) l2 ys:=Heap.IsTuple.push hl2 _
    wp_walk using Qbp hL1,QaY hL2
    exact⟨_,rfl,h⟩
  ·have hL1:Heap.IsTuple (Shared.heap ⟨hp,g,d,tk,os⟩) l1 xs:=hl1
   rcases hl2 with⟨rfl,hl2⟩|⟨rfl,hl2⟩
   ·have hL2:Heap.IsList (Shared.heap ⟨hp.push (itO "tuple_iterator" l1),g,d,tk,os⟩) l2 ys:=Heap.IsList.push hl2 _
    wp_walk using QaY hL1,Qbp hL2
    exact⟨_,rfl,h⟩
   ·have hL2:Heap.IsTuple (Shared.heap ⟨hp.push (itO "tuple_iterator" l1),g,d,tk,os⟩) l2 ys:=Heap.IsTuple.push hl2 _
    wp_walk using QaY hL1,QaY hL2
    exact⟨_,rfl,h⟩
abbrev z3a (h:Heap) (c1 c2 c3:String) (l1 l2 l3:Addr):Heap:=(((((h.push (itO c1 l1)).push (itO c2 l2)).push (itO c3 l3)).push (tuO #[.ref h.objs.size,.ref (h.push (itO c1 l1)).objs.size,.ref ((h.push (itO c1 l1)).push (itO c2 l2)).objs.size])).push (tuO #[.none,.none,.none]))
abbrev z3 (h:Heap) (c1 c2 c3:String) (l1 l2 l3:Addr):Heap:=(z3a h c1 c2 c3 l1 l2 l3).push
 { cls:=.type "zip",data:=.fields #[.none,.bool false,.bool false,.ref (((h.push (itO c1 l1)).push (itO c2 l2)).push (itO c3 l3)).objs.size,.ref ((((h.push (itO c1 l1)).push (itO c2 l2)).push (itO c3 l3)).push (tuO #[.ref h.objs.size,.ref (h.push (itO c1 l1)).objs.size,.ref ((h.push (itO c1 l1)).push (itO c2 l2)).objs.size])).objs.size] }
structure BH (h:Heap) (z TI TO:Addr) (ls:List Src) (h':Heap):Prop where
 hz:IsZ h' z TI TO .none (.bool false)
 hTI:Dm h' TI (ls.map λx=>.ref x.it)
 hTO:Dm h' TO (ls.map λ_=>.none)
 at_:∀x∈ls,SrcAt h' x 0
 ap:Apart z TI TO ls
 new:h.objs.size<=z/\h.objs.size<=TI/\h.objs.size<=TO/\∀x∈ls,h.objs.size<=x.it
 keep:∀c o,h.get? c=some o->h'.get? c=some o
theorem na {a b:Nat} (h:a≠b):@Ne Addr a b:=h
theorem apart2 {n l1 l2:Nat} {xs ys:Array Value} (a1:l1 < n) (a2:l2 < n):Apart (n+1+1+1+1:Nat) (n+1+1:Nat) (n+1+1+1:Nat) [⟨n,l1,xs⟩,⟨(n+1:Nat),l2,ys⟩]:=by
 refine⟨na (by omega),na (by omega),na (by omega),λx hx=>?_,λx hx=>?_,λx hx y hy=>?_,?_⟩
 ·rcases QbY.mp hx with rfl | hx
  ·exact⟨na (by dsimp only;omega),na (by dsimp only;omega),na (by dsimp only;omega)⟩
  ·cases QaX.mp hx
   exact⟨na (by dsimp only;omega),na (by dsimp only;omega),na (by dsimp only;omega)⟩
 ·rcases QbY.mp hx with rfl | hx
  ·exact⟨na (by dsimp only;omega),na (by dsimp only;omega)⟩
  ·cases QaX.mp hx
   exact⟨na (by dsimp only;omega),na (by dsimp only;omega)⟩
 ·rcases QbY.mp hx with rfl | hx
  ·rcases QbY.mp hy with rfl | hy
   ·exact na (by dsimp only;omega)
   ·cases QaX.mp hy
    exact na (by dsimp only;omega)
  ·cases QaX.mp hx
   rcases QbY.mp hy with rfl | hy
   ·exact na (by dsimp only;omega)
   ·cases QaX.mp hy
    exact na (by dsimp only;omega)
 ·show List.Nodup ([n,n+1]:List Nat)
  simp
section
variable {prog:Program} {w:World} {A:Around} {E:Value->Shared->Prop} {s:Shared}
theorem jB {l1 l2:Addr} {xs ys:Array Value} {c1 c2:String} {Q:Value->Shared->Prop} (hl1:Qv s.heap l1 xs c1) (hl2:Qv s.heap l2 ys c2)
  (h:∀h' z TI TO i1 i2,BH s.heap z TI TO [⟨i1,l1,xs⟩,⟨i2,l2,ys⟩] h'->Q (.ref z) { s with heap:=h' }):wpAny (model prog w) A (call (.type "zip") [.ref l1,.ref l2]) Q E s:=by
 refine callType_new F.called_zip (by decide) (F.typeCall_zip_2 _ _) (F.newCall_zip_2 _ _) (λobj=>F.args_object_init_3 obj _ _) F.entry_zip_new (cA l1 l2 xs ys c1 c2) ⟨hl1,hl2,?_⟩
 have g5:(z2 s.heap c1 c2 l1 l2).get? (z2a s.heap c1 c2 l1 l2).objs.size=some _:=QaI _ rfl
 have g4:(z2 s.heap c1 c2 l1 l2).get? (((s.heap.push (itO c1 l1)).push (itO c2 l2)).push (tuO #[.ref s.heap.objs.size,.ref (s.heap.push (itO c1 l1)).objs.size])).objs.size=some (tuO #[.none,.none]):=Qav _ (QaI _ rfl)
 have g3:(z2 s.heap c1 c2 l1 l2).get? ((s.heap.push (itO c1 l1)).push (itO c2 l2)).objs.size=some (tuO #[.ref s.heap.objs.size,.ref (s.heap.push (itO c1 l1)).objs.size]):=Qav _ (Qav _ (QaI _ rfl))
 have g2:(z2 s.heap c1 c2 l1 l2).get? (s.heap.push (itO c1 l1)).objs.size=some (itO c2 l2):=Qav _ (Qav _ (Qav _ (QaI _ rfl)))
 have g1:(z2 s.heap c1 c2 l1 l2).get? s.heap.objs.size=some (itO c1 l1):=Qav _ (Qav _ (Qav _ (Qav _ (QaI _ rfl))))
 have kp:∀c o,s.heap.get? c=some o->(z2 s.heap c1 c2 l1 l2).get? c=some o:=λc o x=>Qav _ (Qav _ (Qav _ (Qav _ (Qav _ x))))
 have a1:=hl1.lt
 have a2:=hl2.lt
 refine⟨⟨_,g5,rfl⟩,h _ _ _ _ s.heap.objs.size (s.heap.push (itO c1 l1)).objs.size ⟨g5,g3,g4,?_,?_,?_,kp⟩⟩
 ·intro x hx
  rcases QbY.mp hx with rfl | hx
  ·exact hl1.src (λo e=>kp _ _ e) g1
  ·rcases QbY.mp hx with rfl | hx
   ·exact hl2.src (λo e=>kp _ _ e) g2
   ·cases hx
 ·simp only[QbT]
  exact apart2 a1 a2
 ·simp only[QbT,QbY,Qbu,Qcz,forall_eq_or_imp,forall_eq];omega
end
end PySem.ZZ
namespace PySem
namespace F
end F
end PySem
namespace PySem.ZZ
open PySem
section
variable {prog:Program} {w:World} {A:Around} {E:Value->Shared->Prop} {s:Shared}
structure Run (hb:Heap) (z TI TO:Addr) (ls:List Src) (rows:Nat->List Value) (S:Addr) (ts:List Addr) (h:Heap):Prop where
 inc:ts.Pairwise (· < ·)
 lo:∀t∈ts,S < t/\t < h.objs.size
 at_:∀j t,ts[j]?=some t->Dm h t (rows j)
 keep:∀c o,hb.get? c=some o->h.get? c=some o
 hTI:Dm h TI (ls.map λx=>.ref x.it)
 hTO:∃olds,Dm h TO olds/\olds.length=ls.length
 src:∀x∈ls,SrcAt h x ts.length
 hz:(ts=[]/\IsZ h z TI TO .none (.bool false))\/∃(T:Addr) (f1:Value),ts[0]?=some T/\IsZ h z TI TO (rawInt T) f1
structure Below (hb:Heap) (z TI TO:Addr) (ls:List Src) (S:Addr):Prop where
 ap:Apart z TI TO ls
 old:hb.objs.size<=z/\hb.objs.size<=TI/\hb.objs.size<=TO/\∀x∈ls,hb.objs.size<=x.it
 lz:z < S
 lTI:TI < S
 lTO:TO < S
 it:∀x∈ls,x.it < S/\x.a < S
 base:hb.objs.size<=S
theorem Run.frame {hb:Heap} {z TI TO:Addr} {ls:List Src} {rows:Nat->List Value} {S:Addr} {ts:List Addr} {h h':Heap} (B:Below hb z TI TO ls S) (r:Run hb z TI TO ls rows S ts h) (hs:h'.objs.size=h.objs.size) (k:∀c o,c≠S->h.get? c=some o->h'.get? c=some o):Run hb z TI TO ls rows S ts h':=by
 obtain⟨olds,o1,o2⟩:=r.hTO
 refine⟨r.inc,λt ht=>by rw[hs];exact r.lo t ht,λj t e=>k _ _ (Qcm (r.lo t (QaD e)).1) (r.at_ j t e),λc o e=>k _ _ (Qcj (QaW (Qch e) B.base)) (r.keep c o e),k _ _ (Qcj B.lTI) r.hTI,⟨olds,k _ _ (Qcj B.lTO) o1,o2⟩,λx hx=>?_,?_⟩
 ·exact (r.src x hx).keep (λo e=>k _ _ (Qcj (B.it x hx).1) e) (λo e=>k _ _ (Qcj (B.it x hx).2) e)
 ·rcases r.hz with⟨e,q⟩|⟨T,f1,e,q⟩
  ·exact .inl ⟨e,k _ _ (Qcj B.lz) q⟩
  ·exact .inr ⟨T,f1,e,k _ _ (Qcj B.lz) q⟩
theorem Run.more {hb:Heap} {z TI TO:Addr} {ls:List Src} {rows:Nat->List Value} {S:Addr} {ts:List Addr} {h h':Heap} (B:Below hb z TI TO ls S) (r:Run hb z TI TO ls rows S ts h) (hS:S < h.objs.size) (hs:h'.objs.size=h.objs.size+1) (hr:Rest z TO ls h h')
  (hTI:Dm h' TI (ls.map λx=>.ref x.it)) (hTO:∃olds,Dm h' TO olds/\olds.length=ls.length) (src:∀x∈ls,SrcAt h' x (ts.length+1)) (new:Dm h' h.objs.size (rows ts.length)) (hz:∃(T:Addr) (f1:Value),(ts++[h.objs.size])[0]?=some T/\IsZ h' z TI TO (rawInt T) f1):Run hb z TI TO ls rows S (ts++[h.objs.size]) h':=by
 have fr:∀t,S < t->t≠z/\t≠TO/\t∉ls.map (·.it):=λt ht=>⟨λe=>by rw[e] at ht;exact Nat.lt_asymm ht B.lz,λe=>by rw[e] at ht;exact Nat.lt_asymm ht B.lTO,λe=>by
  obtain⟨x,hx,e'⟩:=Qci.mp e
  rw[<-e'] at ht
  exact Nat.lt_asymm ht (B.it x hx).1⟩
 refine⟨?_,λt ht=>?_,λj t e=>?_,λc o e=>?_,hTI,hTO,λx hx=>by rw[QaQ];exact src x hx,.inr hz⟩
 ·exact List.pairwise_append.mpr ⟨r.inc,Qat _ _,λa ha b hb'=>by
   have:b=h.objs.size:=by simpa using hb'
   rw[this]
   exact (r.lo a ha).2⟩
 ·rw[hs]
  rcases QbD.mp ht with ht | ht
  ·have:=r.lo t ht;exact⟨this.1,Nat.lt_succ_of_lt this.2⟩
  ·have:t=h.objs.size:=by simpa using ht
   rw[this]
   exact⟨hS,Qby _⟩
 ·by_cases c:j < ts.length
  ·rw[List.getElem?_append_left c] at e
   have hlo:=r.lo t (QaD e)
   obtain⟨f1,f2,f3⟩:=fr t hlo.1
   exact hr t _ f1 f2 f3 (r.at_ j t e)
  ·rw[List.getElem?_append_right (Nat.le_of_not_lt c)] at e
   have hj:j - ts.length=0:=by
    have:=(Qah.mp e).1
    rw[QaB] at this
    omega
   rw[hj] at e
   cases e
   have:j=ts.length:=by omega
   rw[this]
   exact new
 ·have hlt:=Qch e
  refine hr c o (λq=>?_) (λq=>?_) (λq=>?_) (r.keep c o e)
  ·rw[q] at hlt;exact absurd hlt (Nat.not_lt.mpr B.old.1)
  ·rw[q] at hlt;exact absurd hlt (Nat.not_lt.mpr B.old.2.2.1)
  ·obtain⟨x,hx,e'⟩:=Qci.mp q
   rw[<-e'] at hlt
   exact absurd hlt (Nat.not_lt.mpr (B.old.2.2.2 x hx))
end
end PySem.ZZ
namespace PySem.ZZ
open PySem
section
variable {prog:Program} {w:World} {A:Around} {E:Value->Shared->Prop} {s:Shared}
structure Rows (ls:List Src) (n:Nat) (rows:Nat->List Value):Prop where
 row:∀j,j < n->(rows j).length=ls.length/\∀(k:Nat) (x:Src),ls[k]?=some x->∃v,(rows j)[k]?=some v/\x.items[j]?=some v
 stop:∃x∈ls,x.items[n]?=none
 ne:ls≠[]
 few:ls.length<=100
 most:n<=1000
end
end PySem.ZZ
namespace L2
open PySem PySem.Spec PyProof.Rows
theorem GZ {h:Heap} {p q:Addr} {o o':Obj} (e:h.get? p=some o) (e':h.get? q=some o') (n:o.cls≠o'.cls):p≠q:=λz=>by
 rw[z,e'] at e
 cases e
 exact n rfl
theorem Km {h:Heap} {a:Addr} {xs ys:Array Value} (h1:h.IsList a xs) (h2:h.IsTuple a ys):False:=by
 obtain⟨o,e,c,_⟩:=h1
 obtain⟨o',e',c',_⟩:=h2
 rw[e'] at e
 cases e
 rw[c'] at c
 injection c with q
 exact absurd q (by decide)
section
variable {X:Cx}
end
mutual
inductive Kv (K:PySem.W.Frag) (H:Hp):V->PyData->Prop
 | non:Kv K H .non .none
 | bl (b:Bool):Kv K H (.bl b) (.bool b)
 | int (i:Int):Kv K H (.int i) (.int i)
 | str (x:Str):Kv K H (.str x) (.str x)
 | tup {a:Addr} {xs:List V} {ds:List PyData}:SqT K H a xs->Lz K H xs ds->Kv K H (.ref a) (.tuple ds)
inductive Lz (K:PySem.W.Frag) (H:Hp):List V->List PyData->Prop
 | nil:Lz K H [] []
 | cons {x:V} {d:PyData} {xs:List V} {ds:List PyData}:Kv K H x d->Lz K H xs ds->Lz K H (x::xs) (d::ds)
end
section
variable {X:Cx} {pins:List (Addr×Obj)} {σ : St} {H:Hp} {s:Shared}
mutual
theorem Kv.reads (I:Inv X pins σ H s):∀{v:V} {d:PyData} {u:Value},Kv X.K H v d->RelV v u->∃as,Reads s.heap u d as
 | _,_,_,.non,r=>by cases (show _=Value.none from r);exact⟨_,.none⟩
 | _,_,_,.bl b,r=>by cases (show _=Value.bool b from r);exact⟨_,.bool b⟩
 | _,_,_,.int i,r=>by obtain⟨t,rfl⟩:=(show ∃t,_=Value.int i t from r);exact⟨_,.int i t⟩
 | _,_,_,.str x,r=>by obtain⟨t,rfl⟩:=(show ∃t,_=Value.str x t from r);exact⟨_,.str x t⟩
 | _,_,_,.tup (a:=a) (xs:=xs) e q,r=>by
  cases (show _=Value.ref a from r)
  obtain⟨its,rv,⟨o,ho,hc,n,hd⟩,_⟩:=I.tuple e
  obtain⟨as,z⟩:=Lz.reads I q rv
  exact⟨_,.tuple ho hc hd (by simpa using z)⟩
theorem Lz.reads (I:Inv X pins σ H s):∀{xs:List V} {ds:List PyData} {us:List Value},Lz X.K H xs ds->Vals xs us->∃as,ReadsAll s.heap us ds as
 | _,_,_,.nil,.nil=>⟨_,.nil⟩
 | _,_,_,.cons p q,.cons r t=>by
  obtain⟨as,a1⟩:=Kv.reads I p r
  obtain⟨bs,b1⟩:=Lz.reads I q t
  exact⟨_,.cons a1 b1⟩
end
end
section
variable {X:Cx} {K:PySem.W.Frag}
theorem gK (h:X.K=K) (hu:X.A.units+64 < cLine):OpR X (compareOp .Eq) (λx y H Q=>∃d e,Kv K H x d/\Kv K H y e/\SeqAt.shaped d=true/\SeqAt.shaped e=true/\Q (.bl (PyData.eqv d e)) H):=by
 subst h
 intro pins s σ H x y v u Q I rx ry h
 obtain⟨d,e,p,p',sd,se,q⟩:=h
 obtain⟨as,r1⟩:=p.reads I rx
 obtain⟨bs,r2⟩:=p'.reads I ry
 exact eq_dataH r1 r2 sd se hu ⟨.bl (PyData.eqv d e),H,I,rfl,q⟩
theorem Jv {es:List Expr} {k:Nat} {pos:Pos} {t:TGs} {n:Nat} (hK:X.K=K) (hc:X.calm=true) (h:PGs X es t)
  (hn:(assignEach es X.env).length=n:=by rfl) (hst:(assignEach es X.env).findIdx? (·.1)=none:=by rfl):PG X (.Tuple es k pos) (yr K n t):=hK ▸ Df hc h hn hst
end
end L2
namespace L2
open PySem PySem.Spec PyProof.Rows
abbrev qu:List Value:=[.type "ValueError",.type "Exception",.type "BaseException",.type "object"]
structure XCl (K:PySem.W.Frag) (C:Addr):Prop where
 ex:excIn K C qu "ValueError.__new__"=true
 ga:findIn K (.ref C) "__getattribute__"=some (some (.builtin "BaseException.__getattribute__"))
 gn:findIn K (.ref C) "__getattr__"=some none
 ca:findIn K (.ref C) "__class__"=some (some (.builtin "object.__class__"))
 mo:subIn K (.ref C) (.type "object")=some true
 mb:subIn K (.ref C) (.type "BaseException")=some true
 kp:keepIn K (.ref C)=true
section
variable {K:PySem.W.Frag} {C:Addr}
theorem XCl.look (T:XCl K C):∃dd cd sl,K.lookup C=some ⟨.type "type",dd,.cls cd,sl⟩:=by
 have q:=T.ex
 unfold excIn at q
 split at q
 ·rename_i dd cd sl ho
  exact⟨dd,cd,sl,ho⟩
 ·cases q
theorem XCl.obj (T:XCl K C) {h:Heap} (X:K.In h):∃bm N nm q bs hdct sn sub ab col dd k0 k1 k2 k3 k5 mN,h.get? C=some (excClassObj nm q C N bs bm hdct sn sub ab col dd k0 k1 k2 k3 k5 "ValueError.__new__")/\h.Ns N mN/\mN "__init__"=none/\OwnTail h qu bm:=by
 have q:=T.ex
 unfold excIn at q
 split at q
 ·rename_i dd cd sl ho
  split at q
  ·rename_i C' bm k0 k1 k2 k3 n k5 hm hs
   simp only[Qbw,beq_iff_eq,Bool.not_eq_true'] at q
   obtain⟨⟨⟨⟨⟨rfl,rfl⟩,hdel⟩,ht⟩,hok⟩,hni⟩:=q
   obtain⟨nm,bs,mro,ns,qn,hd,sn,sub,ab,col,del⟩:=cd
   dsimp only at hm hdel hok hni
   subst hm hdel
   have hsl:sl=#[k0,k1,k2,k3,some (.builtin "ValueError.__new__"),k5]:=by
    obtain⟨l⟩:=sl
    simp only at hs
    rw[hs]
   subst hsl
   exact⟨bm,ns,nm,qn,bs,hd,sn,sub,ab,col,dd,k0,k1,k2,k3,k5,_,X _ _ ho,.of_isNs (PySem.W.isNs_of_in X hok),PySem.W.nsMap_none_of_in X hok hni,PySem.W.tail_of_in X ht⟩
  ·cases q
 ·cases q
end
def XAt (a C:Addr) (h:Heap):Prop:=∃o vs,h.get? a=some o/\o.cls=.ref C/\o.data=.fields vs/\vs[2]?=some .none
section
variable {prog:Program} {w:World} {A:Around} {E:Value->Shared->Prop} {h:Heap} {g:Array GenState} {d:Drawn} {t:Nat} {os:OsState} {K:PySem.W.Frag} {a C:Addr} {o:Obj}
theorem aN {R:Result->Shared->Prop} (X:K.In h) (T:XCl K C) (hx:h.get? a=some o) (hc:o.cls=.ref C) (hq:R (.ok (.ret (.ref C))) ⟨h,g,d,t,os⟩) :
  codeAny (model prog w) A (.call (.builtin "getset_descriptor.__get__") ⟨[.builtin "object.__class__",.ref a,.ref C],[]⟩) R ⟨h,g,d,t,os⟩:=by
 have hT5:(⟨h,g,d,t,os⟩ : Shared).TypeIs (.builtin "object.__class__") "getset_descriptor":=F.typeOf_object_class
 have f8:PySem.W.Looks (model prog w) h (isSubtype (.ref C) (.type (".".intercalate ("object.__class__".cutAt '.').dropLast))) true:=by
  rw[F.owner_object_class];exact looks_subIn X T.mo
 refine codeAny_call_builtin F.slot_gs_get.plain F.entry_gs_get (F.slot_gs_get.check _ _ _ _ _ _ _ _ hT5 (F.args_gs_get _ _ _) ?_)
 repeat (any_goals (first | assumption | (with_reducible refine Qbq hx ?_;rw[hc]) | with_reducible refine f8.at ?_ | wp_step))
 refine⟨Code.quiet_builtin _ (by trivial),codeAny_builtin F.entry_object_class ?_⟩
 repeat (any_goals (first | assumption | (with_reducible refine Qbq hx ?_;rw[hc]) | wp_step))
theorem Wf {tk:Tok} {Q:Fin->Shared->Prop} (X:K.In h) (T:XCl K C) (hx:h.get? a=some o) (hc:o.cls=.ref C) (hq:Q (.done (.ret (.ref C))) ⟨h,g,d,t,os⟩) :
  wpAny (model prog w) A (Builtin.«object.__getattribute__» ⟨[.ref a,.str "__class__" tk],[]⟩) Q E ⟨h,g,d,t,os⟩:=by
 have hT5:(⟨h,g,d,t,os⟩ : Shared).TypeIs (.builtin "object.__class__") "getset_descriptor":=F.typeOf_object_class
 have f4:=looks_findIn (M:=model prog w) X T.ca
 have f5:=F.typeOf_object_class
 have f6:=F.slot_gs_get.lookup
 have f7:=F.slot_gs_set.lookup
 repeat (any_goals (first | assumption | (with_reducible refine Qbq hx ?_;rw[hc]) | with_reducible refine f4.at ?_ | wp_step))
 refine aN X T hx hc ?_
 repeat (any_goals (first | assumption | wp_step))
theorem eE {M:Model} {nameV:Value} {Q:Unit->Shared->Prop} (X:K.In h) (T:XCl K C) (hx:h.get? a=some o) (hc:o.cls=.ref C) (hq:Q () ⟨h,g,d,t,os⟩) :
  wpAny M A (checkBuiltinCall "BaseException.__getattribute__" ⟨[.ref a,nameV],[]⟩) Q E ⟨h,g,d,t,os⟩:=by
 have hk:builtinKind "BaseException.__getattribute__"=some .slot:=by trivial
 have hsplit:splitId "BaseException.__getattribute__"=some ("BaseException","__getattribute__"):=by trivial
 have f1:=looks_subIn (M:=M) X T.mb
 have ha:=F.args_bexc_ga (.ref a) nameV
 simp only[checkBuiltinCall,hk,hsplit]
 refine Qcv ?_
 ·unfold isInstance
  repeat (first | (with_reducible refine Qbq hx ?_;rw[hc]) | with_reducible refine f1.at ?_ | wp_step)
  exact hq
theorem YH {tk:Tok} {R:Result->Shared->Prop} (X:K.In h) (T:XCl K C) (hx:h.get? a=some o) (hc:o.cls=.ref C) (hq:R (.ok (.ret (.ref C))) ⟨h,g,d,t,os⟩) :
  codeAny (model prog w) A (.call (.builtin "BaseException.__getattribute__") ⟨[.ref a,.str "__class__" tk],[]⟩) R ⟨h,g,d,t,os⟩:=
 codeAny_call_builtin F.attr_ValueError.ga.plain F.entry_bexc_ga (eE X T hx hc (Wf X T hx hc hq))
theorem d9 {tk:Tok} {fill expr:Bool} {Q:Value->Shared->Prop} (X:K.In h) (T:XCl K C) (hx:h.get? a=some o) (hc:o.cls=.ref C) (hq:Q (.ref C) ⟨h,g,d,t,os⟩) :
  wpAny (model prog w) A (getAttrBy (.ref a) (.str "__class__" tk) fill expr) Q E ⟨h,g,d,t,os⟩:=by
 have f1:=looks_findIn (M:=model prog w) X T.ga
 have f2:=looks_findIn (M:=model prog w) X T.gn
 have f3:=F.attr_ValueError.ga.bind (.ref a)
 have hx0:(expr&&onTheHeap (Value.builtin "BaseException.__getattribute__"))=false:=by cases expr <;> rfl
 have hx2:(Value.builtin "BaseException.__getattribute__" == Value.builtin "object.__getattribute__")=false:=by trivial
 have hx1:(onTheHeap (Value.ref C)&&Value.builtin "BaseException.__getattribute__" == Value.builtin "object.__getattribute__")=false:=by rw[hx2];rfl
 repeat (any_goals (first | assumption | (with_reducible refine Qbq hx ?_;rw[hc]) | with_reducible refine f1.at ?_ | with_reducible refine f2.at ?_ | wp_step))
 refine YH X T hx hc ?_
 repeat (any_goals (first | assumption | wp_step))
theorem YJ {Q:Option Value->Shared->Prop} (X:K.In h) (T:XCl K C) (hx:h.get? a=some o) (hc:o.cls=.ref C) (hq:Q (some (.ref C)) ⟨h,g,d,t+1,os⟩):wpAny (model prog w) A (getAttr? (.ref a) "__class__") Q E ⟨h,g,d,t,os⟩:=by
 unfold getAttr? getAttrBy?
 repeat (any_goals (first | assumption | with_reducible apply d9 X T hx hc | wp_step))
end
theorem m6 {K:PySem.W.Frag} {a C:Addr} (T:XCl K C):PySem.W.KitX K (.ref a) (.ref C) (XAt a C) where
 ty:=λM h X p=>by
  obtain⟨o,vs,h1,h2,_⟩:=p
  exact h2 ▸ (PySem.W.Looks.ld h1).andThen .now
 it:=λ_ _ X _=>by
  obtain⟨dd,cd,sl,ho⟩:=T.look
  intro A' Q' E' s' k q
  unfold isType loadHead
  exact Qcv (wpAny_loadPart (k _ _ (X _ _ ho)) (Qcw q))
 ne:=λh tp dd its n sl X htp=>by
  obtain⟨_,cd,_,ho⟩:=T.look
  refine Bool.eq_false_iff.mpr λq=>?_
  have e:C=tp:=Value.ref.inj (beq_iff_eq.mp q)
  subst e
  have z:=congrArg Obj.data (QbH ((X _ _ ho).symm.trans htp))
  cases z
 ca:=λ{_ _ _ _ _ s} X p k=>by
  obtain⟨h,g,d,t,os⟩:=s
  obtain⟨o,vs,h1,h2,_⟩:=p
  exact YJ X T h1 h2 k
def xo (a C:Addr):HO:=.ext (XAt a C)
section
variable {X:Cx} {pins:List (Addr×Obj)} {σ : St} {H:Hp} {s:Shared}
theorem AA {a C:Addr} (I:Inv X pins σ H s) (e:H a=some (xo a C)):XAt a C s.heap:=(show Bp X.prog X.w H s.heap a (xo a C) from I.hok a _ e).1
theorem Tr {A:Around} {E:Value->Shared->Prop} {Q:Value->Shared->Prop} {a C:Addr} {c:Value} {b:Bool} (I:Inv X pins σ H s) (T:XCl X.K C) (e:H a=some (xo a C)) (k:kitOne X.K (.ref C) c=some b) (h:∀tk,Q (.bool b) { s with toks:=tk }) :
  wpAny (model X.prog X.w) A (call (.builtin "isinstance") [.ref a,c]) Q E s:=
 kia_one (m6 T) I.kIn (AA I e) k (λz=>nomatch z) h
end
def XT (B:Heap) (e C:Addr) (fl:Option Value) (h:Heap):Prop:=
 ∃oe vs,h.get? e=some oe/\oe.cls=.ref C/\oe.data=.fields vs/\vs[2]?=some .none /\
  match fl with
  | none=>vs[1]?=some .none
  | some f=>∃T oT ts,vs[1]?=some (.ref T)/\B.get? T=none/\T≠e/\h.get? T=some oT/\oT.data=.fields ts/\ts[3]?=some f
structure Fl (B:Heap) (l:List Env) (e C:Addr) (fl:Option Value) (h:Heap):Prop where
 stays:B.StaysIn h
 new:B.get? e=none
 fr:h.FunFrames B l
 tr:XT B e C fl h
theorem XT.at {B h:Heap} {e C:Addr} {fl:Option Value} (x:XT B e C fl h):XAt e C h:=by
 obtain⟨oe,vs,h1,h2,h3,h4,_⟩:=x
 exact⟨oe,vs,h1,h2,h3,h4⟩
section
variable {M:Model} {A:Around} {E:Value->Shared->Prop} {s:Shared} {B:Heap} {env:Env} {outer l:List Env} {L e C:Addr} {Q:Unit->Shared->Prop}
theorem Ye {oe:Obj} {vs:Array Value} {head:Value} {hadNext:Bool} (hfr:A.frames=some (env::outer)) (hf:env.frame=some L) (st:B.StaysIn s.heap) (new:B.get? e=none) (fr:s.heap.FunFrames B (env::outer))
  (he:s.heap.get? e=some oe) (hc:oe.cls=.ref C) (hd:oe.data=.fields vs) (h2:vs[2]?=some .none) (hq:∀h',Fl B (env::outer) e C (some (rawInt L)) h'->s.heap.UpToSlots h'->Q () { s with heap:=h' }) :
  wpAny M A (do let fo <-frameOf env;let pl <-entryPlaceOf L hadNext;let tb <-EntryCells.newEntry head fo .none (rawInt L) .none pl;setField (.ref e) 1 tb) Q E s:=by
 have hsz:2 < vs.size:=(Qaf.mp h2).1
 have nf:e∉(env::outer).filterMap (·.frame):=λhm=>by
  obtain⟨_,of,hof,nof⟩:=fr.mem hm
  rw[he] at hof
  cases hof
  exact nof vs hd
 refine Qcv (wpAny_frameOf_fun hfr fr hf λhA sA=>?_)
 refine Qcv (wpAny_entryPlaceOf λpl ipl=>?_)
 unfold EntryCells.newEntry newFields
 refine Qcv (Qbn ?_ (ipl.sizeOk5 _ _ _ _ _))
 have eA:hA.get? e=some oe:=(sA.2.1 e nf).trans he
 have stA:B.StaysIn hA:=λb o q=>(sA.2.1 b λhm=>by rw[(fr.mem hm).1] at q;cases q).trans (st b o q)
 have key:∀(ob:Obj) (ts:Array Value),ob.data=.fields ts->ob.isFreed=false->ts[3]?=some (rawInt L)->wpAny M A (setField (.ref e) 1 (.ref hA.objs.size)) Q E { s with heap:=hA.push ob }:=λob ts dT nfr iT=>by
  have eP:=Qav (h:=hA) ob eA
  refine wpAny_setField eP hd (by omega) (hq _ ?_ ?_)
  ·have hTe:hA.objs.size≠e:=Qcm (Qch eA)
   have dN:=Obj.data_mapFields hd (·.setIfInBounds 1 (Value.ref hA.objs.size))
   have eN:=QaC (Obj.mapFields (·.setIfInBounds 1 (Value.ref hA.objs.size))) eP (Obj.isFreed_of_fields dN)
   have keep:∀b o,b≠e->hA.get? b=some o->((hA.push ob).update e (Obj.mapFields (·.setIfInBounds 1 (Value.ref hA.objs.size)))).get? b=some o:=λb o hb q=>by
    rw[Qax _ _ (Ne.symm hb)]
    exact Qav _ q
   refine⟨λb o q=>keep b o (λz=>by rw[z,new] at q;cases q) (stA b o q),new,fr.of_keeps λb o q nb=>?_,⟨_,_,eN,(Obj.cls_mapFields _ _).trans hc,dN,?_,hA.objs.size,ob,ts,?_,stA.fresh,hTe,?_,dT,iT⟩⟩
   ·obtain⟨sl,q'⟩:=sA.2.2 b o q
    exact⟨_,keep b _ (λz=>by rw[z,he] at q;cases q;exact nb vs hd) q',rfl⟩
   ·rw[Array.getElem?_setIfInBounds_ne (by decide)]
    exact h2
   ·simp[show 1 < vs.size by omega]
   ·rw[Qax _ _ (Ne.symm hTe)]
    exact QaI hA nfr
  ·intro b o q nb
   obtain⟨sl,q'⟩:=sA.2.2 b o q
   refine⟨sl,?_⟩
   rw[Qax _ _ (λz=>by rw[<-z,he] at q;cases q;exact nb vs hd)]
   exact Qav _ q'
 refine key _ _ rfl rfl ?_
 first | (simp;done) | (rcases ipl with rfl |⟨_,_,_,_,_,_,_,rfl⟩ <;> simp)
theorem aA {fl:Option Value} (hfl:fl=none\/fl=some .none) (hfr:A.frames=some (env::outer)) (hf:env.frame=some L) (x:Fl B (env::outer) e C fl s.heap)
  (hq:∀h',Fl B (env::outer) e C (some (rawInt L)) h'->s.heap.UpToSlots h'->Q () { s with heap:=h' }):wpAny M A (noteFrame (.ref e) env) Q E s:=by
 obtain⟨st,new,fr,oe,vs,he,hc,hd,h2,ht⟩:=x
 unfold noteFrame
 simp only[hf]
 rcases hfl with rfl | rfl
 ·refine Qcv (Qct he hd (show vs[1]?=some .none from ht) ?_)
  rw[if_neg (by decide)]
  exact Ye hfr hf st new fr he hc hd h2 hq
 ·obtain⟨T,oT,ts,h1,nT,hTe,hT,dT,iT⟩:=ht
  refine Qcv (Qct he hd h1 ?_)
  rw[if_pos (show (Value.ref T != Value.none)=true from by simp)]
  refine Qcv (Qct hT dT iT ?_)
  rw[if_neg (show ¬((Value.none == rawInt L)=true) from by simp[rawInt])]
  refine Qcv (wpAny_setField hT dT (Qaf.mp iT).1 ?_)
  have oth:∀b o,b≠T->s.heap.get? b=some o->(s.heap.update T (Obj.mapFields (·.setIfInBounds 3 Value.none))).get? b=some o:=λb o hb q=>(Qax _ _ (Ne.symm hb)).trans q
  have Xy:∀b o,s.heap.get? b=some o->(∀ws,o.data≠.fields ws)->b≠T:=λb o q nb z=>by rw[z,hT] at q;cases q;exact nb ts dT
  refine Ye (s:={ s with heap:=s.heap.update T (Obj.mapFields (·.setIfInBounds 3 Value.none)) }) hfr hf (λb o q=>oth b o (λz=>by rw[z,nT] at q;cases q) (st b o q)) new
   (fr.of_keeps λb o q nb=>⟨o,oth b o (Xy b o q nb) q,rfl⟩) (oth e oe (Ne.symm hTe) he) hc hd h2 λh' y u=>hq h' y ?_
  exact λb o q nb=>u b o (oth b o (Xy b o q nb) q) nb
theorem Yc {f:Value} (x:Fl B l e C (some f) s.heap) (hq:∀h',Fl B l e C (some .none) h'->s.heap.UpToSlots h'->Q () { s with heap:=h' }):wpAny M A (setFlight (.ref e) none) Q E s:=by
 obtain⟨st,new,fr,oe,vs,he,hc,hd,h2,T,oT,ts,h1,nT,hTe,hT,dT,iT⟩:=x
 have hsz:3 < ts.size:=(Qaf.mp iT).1
 have oth:∀b o,b≠T->s.heap.get? b=some o->(s.heap.update T (Obj.mapFields (·.setIfInBounds 3 Value.none))).get? b=some o:=λb o hb q=>(Qax _ _ (Ne.symm hb)).trans q
 have Xy:∀b o,s.heap.get? b=some o->(∀ws,o.data≠.fields ws)->b≠T:=λb o q nb z=>by rw[z,hT] at q;cases q;exact nb ts dT
 unfold setFlight
 refine Qcv (Qct he hd h1 ?_)
 rw[if_pos (show (Value.ref T != Value.none)=true from by simp)]
 refine wpAny_setField hT dT hsz (hq (s.heap.update T (Obj.mapFields (·.setIfInBounds 3 Value.none))) ⟨λb o q=>oth b o (λz=>by rw[z,nT] at q;cases q) (st b o q),new,fr.of_keeps λb o q nb=>⟨o,oth b o (Xy b o q nb) q,rfl⟩,?_⟩
  λb o q nb=>⟨o.slots,oth b o (Xy b o q nb) q⟩)
 have dN:=Obj.data_mapFields dT (·.setIfInBounds 3 Value.none)
 exact⟨oe,vs,oth e oe (Ne.symm hTe) he,hc,hd,h2,T,_,_,h1,nT,hTe,QaC _ hT (Obj.isFreed_of_fields dN),dN,by simp[hsz]⟩
theorem pN {fl:Option Value} (hfl:fl=none\/fl=some .none) (hfr:A.frames=some (env::outer)) (hf:env.frame=some L) (x:Fl B (env::outer) e C fl s.heap)
  (hq:∀h',Fl B outer e C (some .none) h'->s.heap.UpToSlots h'->Q () { s with heap:=h' }):wpAny M A (leaving env (.ref e)) Q E s:=by
 unfold leaving
 refine Qcv (aA hfl hfr hf x λh1 y u1=>?_)
 refine Yc y λh2 z u2=>hq h2 ⟨z.stays,z.new,z.fr.2.2,z.tr⟩ (u1.trans u2)
end
theorem Bp.there {P:Program} {w:World} {H:Hp} {h:Heap} {a:Addr} {o:HO} (x:Bp P w H h a o):∃u,h.get? a=some u:=by
 cases o with
 | lst xs=>obtain⟨_,its,n,_,q⟩:=x;exact⟨_,q⟩
 | tup xs=>obtain⟨_,its,_,ob,q,_⟩:=x;exact⟨_,q⟩
 | dK kvs=>obtain⟨_,_,vs,_,ob,es,ep,q,_⟩:=x;exact⟨_,q⟩
 | dT kvs=>obtain⟨_,_,xs,_,ob,es,ep,q,_⟩:=x;exact⟨_,q⟩
 | set S n=>obtain⟨ob,es,ep,t,q,_⟩:=x;exact⟨_,q⟩
 | ins C dx fs=>obtain⟨_,_,_,q,_⟩:=x;exact⟨_,q⟩
 | own y=>exact x
 | xd fs=>obtain⟨mA,⟨od,es,ep,q,_⟩,_⟩:=x;exact⟨_,q⟩
 | rng lo hi=>obtain⟨t,u,v,q⟩:=x;exact⟨_,q⟩
 | frz ob u=>exact⟨_,x.1⟩
 | tbl ps=>exact⟨_,x⟩
 | met f y=>exact⟨_,x⟩
 | ext φ=>exact x.2.1
structure Exc (P:Program) (w:World) (outer:List Env) (H:Hp) (s:Shared) (e C:Addr) (B:Heap) (H':Hp) (s':Shared):Prop where
 os:s'.os=s.os
 bare:AllBare s'.gens
 fl:∃fl,(fl=none\/fl=some .none)/\Fl B outer e C fl s'.heap
 un:Un (frs outer) [] H H' s.heap s'.heap
 hok:HOk P w H' s'.heap
 tin:∀b o,s'.heap.get? b=some o->H' b≠none->B.get? b=some o
 old:∀b o,s.heap.get? b=some o->H b=none->b∉frs outer->B.get? b=some o
 ex:∀b o,s.heap.get? b=some o->b∉frs outer->∃o',B.get? b=some o'
def CX1 (P:Program) (w:World):CXT:=λouter H s E ev s'=>∃e C B H',ev=.ref e/\Exc P w outer H s e C B H' s'/\E (.ref C) none H'
section
variable {P:Program} {w:World} {outer:List Env} {H H':Hp} {s s':Shared} {e C:Addr} {B h2:Heap} {fl:Option Value}
theorem Exc.qP (x:Exc P w outer H s e C B H' s') (st:B.StaysIn h2):HOk P w H' h2:=λa o q=>
 (x.hok a o q).stay (λb u hb hu=>st b u (x.tin b u hu (by
  rcases hb with rfl | hb
  ·rw[q];exact λz=>nomatch z
  ·rw[hb];exact λz=>nomatch z))) (λ_ z=>z) λ_ _ z=>z
theorem Exc.BO (x:Exc P w outer H s e C B H' s') (f:Fl B outer e C fl h2) (u:s'.heap.UpToSlots h2):Un (frs outer) [] H H' s.heap h2:=by
 refine⟨λb o q n hb _=>f.stays b o (x.old b o q n hb),λb o q n hb hx=>?_,x.un.free,λb o q hx=>?_,x.un.tups,x.un.Hi,x.un.Il⟩
 ·obtain⟨sl,q1⟩:=x.un.slot b o q n hb hx
  obtain⟨_,_,g⟩:=x.fl
  obtain⟨_,o1,q2,nf⟩:=g.fr.mem hb
  rw[q1] at q2
  cases q2
  obtain⟨sl2,q3⟩:=u b _ q1 nf
  exact⟨sl2,q3⟩
 ·by_cases hb:b∈frs outer
  ·obtain⟨_,o1,q2,_⟩:=f.fr.mem hb
   exact⟨o1,q2⟩
  ·obtain⟨o1,q1⟩:=x.ex b o q hb
   exact⟨o1,f.stays b o1 q1⟩
theorem Exc.AB (x:Exc P w outer H s e C B H' s') (st:B.StaysIn h2):∀b o,h2.get? b=some o->H' b≠none->B.get? b=some o:=λb o q hb=>by
 cases hq:H' b with
 | none=>exact absurd hq hb
 | some v=>
  obtain⟨o1,q1⟩:=(x.hok b v hq).there
  have q2:=x.tin b o1 q1 hb
  have q3:=st b o1 q2
  rw[q] at q3
  cases q3
  exact q2
theorem Exc.free (x:Exc P w outer H s e C B H' s'):H' e=none:=by
 cases hq:H' e with
 | none=>rfl
 | some v=>
  obtain⟨o1,q1⟩:=(x.hok e v hq).there
  have q2:=x.tin e o1 q1 (by rw[hq];exact λz=>nomatch z)
  obtain⟨_,_,g⟩:=x.fl
  rw[g.new] at q2
  cases q2
theorem Exc.fresh (x:Exc P w outer H s e C B H' s'):s.heap.get? e=none:=by
 cases hq:s.heap.get? e with
 | none=>rfl
 | some o=>
  obtain⟨_,_,g⟩:=x.fl
  by_cases hb:e∈frs outer
  ·obtain⟨_,o1,q1,nf⟩:=g.fr.mem hb
   obtain⟨oe,vs,q2,_,q3,_⟩:=g.tr
   rw[q1] at q2
   cases q2
   exact absurd q3 (nf vs)
  ·obtain⟨o1,q1⟩:=x.ex e o hq hb
   rw[g.new] at q1
   cases q1
end
section
variable {X:Cx} {pins:List (Addr×Obj)} {σ : St} {H H':Hp} {s s':Shared} {e C:Addr} {B h2:Heap} {fl:Option Value}
theorem Exc.made {args:List Value} {h':Heap} (I:Inv X pins σ H s) (hx:Heap.MadeExcOf s.heap h' e (.ref C) args):Exc X.prog X.w X.stack H s e C (hideAll s.heap (frs X.stack)) H { s with heap:=h' }:=by
 have st:(hideAll s.heap (frs X.stack)).StaysIn s.heap:=λb o q=>PySem.W.of_hideAll _ q
 refine⟨rfl,I.bare,⟨none,.inl rfl,⟨λb o q=>hx.keeps b o (st b o q),?_,?_,?_⟩⟩,Un.kept hx.keeps,I.hok.kept hx.keeps,λb o q hb=>?_,λb o q n hb=>hideAll_get _ q hb,λb o q hb=>⟨o,hideAll_get _ q hb⟩⟩
 ·cases hq:(hideAll s.heap (frs X.stack)).get? e with
  | none=>rfl
  | some o=>
   have q:=st e o hq
   rw[hx.new] at q
   cases q
 ·have f0:s.heap.FunFrames (hideAll s.heap (frs X.stack)) X.stack:=PySem.W.funFrames_hide I.stack λenv he a ha=>List.mem_filterMap.mpr ⟨env,he,ha⟩
  exact f0.of_keeps λb o q _=>⟨o,hx.keeps b o q,rfl⟩
 ·obtain⟨t,q,_⟩:=hx.there
  exact⟨_,_,q,rfl,rfl,rfl,rfl⟩
 ·cases hq:H b with
  | none=>exact absurd hq hb
  | some v=>
   obtain⟨o1,q1⟩:=(I.hok b v hq).there
   have q2:=hx.keeps b o1 q1
   have q':h'.get? b=some o:=q
   rw[q'] at q2
   cases q2
   refine hideAll_get _ q1 λhm=>?_
   rw[I.Ua b hm] at hq
   cases hq
theorem Exc.leave {M:Model} {E1:Value->Shared->Prop} {Q:Unit->Shared->Prop} (I:Inv X pins σ H s) (hs:X.stack=X.env::X.outer) (hf:X.env.frame=some X.env.locals) (hx:X.ex=[]) (x:Exc X.prog X.w X.stack H s e C B H' s')
  (hq:∀h2,Exc X.prog X.w X.outer X.H₀ X.s₀ e C B H' { s' with heap:=h2 }->Q () { s' with heap:=h2 }):wpAny M X.A (leaving X.env (.ref e)) Q E1 s':=by
 obtain⟨fl,hfl,f⟩:=x.fl
 have f':=f
 rw[hs] at f'
 have nl:∀b o,X.s₀.heap.get? b=some o->b≠X.env.locals:=λb o q=>Qcj (QaW (Qch q) I.ok.above)
 have ns:∀b o,X.s₀.heap.get? b=some o->b∉X.fs->b∉frs X.stack:=λb o q hb hm=>(QbY.mp (I.Sy b hm)).elim (nl b o q) hb
 have yt:∀b,b∈X.fs->b∈frs X.stack:=λb hb=>by
  rw[hs]
  unfold frs
  rw[List.filterMap_cons,hf]
  exact QaE _ hb
 have nx:∀b:Addr,b∉X.ex:=λb=>by rw[hx];simp
 refine pN hfl (I.ok.frames.trans (congrArg some hs)) hf f' λh2 g u=>hq h2 ⟨x.os.trans I.os,x.bare,⟨_,.inr rfl,g⟩,?_,x.qP g.stays,x.AB g.stays,λb o q n hb=>?_,λb o q hb=>?_⟩
 ·refine⟨λb o q n hb _=>?_,λb o q n hb _=>?_,λb o q n _=>?_,λb o q _=>?_,λb xs q=>x.un.tups b xs (I.base.tups b xs q),λb o v q=>x.un.Hi b o v (I.base.Hi b o v q),λb ps q=>?_⟩
  ·exact g.stays b o (x.old b o (I.base.keep b o q n hb (nx b)) (I.base.free b o q n (nx b)) (ns b o q hb))
  ·obtain⟨sl,q1⟩:=I.base.slot b o q n hb (nx b)
   obtain⟨sl2,q2⟩:=x.un.slot b _ q1 (I.base.free b o q n (nx b)) (yt b hb) (by simp)
   obtain⟨_,o1,q3,nf⟩:=f.fr.mem (yt b hb)
   rw[q2] at q3
   cases q3
   obtain⟨sl3,q4⟩:=u b _ q2 nf
   exact⟨sl3,q4⟩
  ·obtain⟨o1,q1⟩:=I.base.there b o q (nx b)
   exact x.un.free b o1 q1 (I.base.free b o q n (nx b)) (by simp)
  ·by_cases hb:b∈X.fs
   ·obtain⟨_,o1,q1,_⟩:=g.fr.mem hb
    exact⟨o1,q1⟩
   ·obtain⟨o1,q1⟩:=I.base.there b o q (nx b)
    obtain⟨o2,q2⟩:=x.ex b o1 q1 (ns b o q hb)
    exact⟨o2,g.stays b o2 q2⟩
  ·obtain⟨m1,q1⟩:=I.base.Il b ps q
   obtain⟨m2,q2⟩:=x.un.Il b _ q1
   exact⟨m1++m2,by rw[q2,Array.append_assoc]⟩
 ·exact x.old b o (I.base.keep b o q n hb (nx b)) (I.base.free b o q n (nx b)) (ns b o q hb)
 ·obtain⟨o1,q1⟩:=I.base.there b o q (nx b)
  exact x.ex b o1 q1 (ns b o q hb)
theorem Exc.caught (I:Inv X pins σ H s) (x:Exc X.prog X.w X.stack H s e C B H' s') (f:Fl B X.stack e C fl h2) (u:s'.heap.UpToSlots h2):Inv X pins σ (upd H' e (xo e C)) { s' with heap:=h2 }:=by
 have v:=x.BO f u
 have he:=x.fresh
 have hn:=x.free
 have ne:∀b o,s.heap.get? b=some o->b≠e:=λb o q z=>by rw[z,he] at q;cases q
 have un:Un (frs X.stack) [] H (upd H' e (xo e C)) s.heap h2:=⟨v.keep,v.slot,λb o q n hx=>by rw[Al (ne b o q)];exact v.free b o q n hx,v.there,λb xs q=>by rw[Al (Av (v.tups b xs q) hn)];exact v.tups b xs q,
  λb o w q=>by rw[Al (Av (v.Hi b o w q) hn)];exact v.Hi b o w q,λb ps q=>by
   obtain⟨m,q1⟩:=v.Il b ps q
   exact⟨m,by rw[Al (Av q1 hn)];exact q1⟩⟩
 have hok:HOk X.prog X.w (upd H' e (xo e C)) h2:=λb o q=>by
  by_cases hb:b=e
  ·subst hb
   rw[Ac] at q
   cases q
   have at_:=f.tr.at
   refine⟨at_,?_,λh1 h3 p k=>?_⟩
   ·obtain⟨oe,vs,q1,_⟩:=at_
    exact⟨oe,q1⟩
   ·obtain⟨oe,vs,q1,q2⟩:=p
    exact⟨oe,vs,k oe q1,q2⟩
  ·rw[Al hb] at q
   exact (x.qP f.stays b o q).stay (λc w _ q1=>q1) (λc q1=>by rw[Al (Av q1 hn)];exact q1) λc xs q1=>by rw[Al (Av q1 hn)];exact q1
 exact I.call' (s':={ s' with heap:=h2 }) x.os un hok x.bare λb z=>absurd z (by simp)
end
def Pq (X:Cx) (EX:St->XK):Prop:=∀(pins:List (Addr×Obj)) (σ : St) (H:Hp) (s:Shared) (ev:Value) (s':Shared),Inv X pins σ H s->CX1 X.prog X.w X.stack H s (EX σ) ev s'->X.xe ev s'
theorem Ob {X:Cx}:Pq X (λ_=>E0):=λ_ _ _ _ _ _ _ h=>by
 obtain⟨_,_,_,_,_,_,z⟩:=h
 exact z.elim
theorem lR {P:Program} {w:World} {K:PySem.W.Frag} {mg:Str->Option Value} {base:Heap} {N:List Str} {qual:Str} {scope:Scope} {f:Addr} {cd:Value} {A:Around} {outer:List Env} {s:Shared} {H:Hp} {E:XK} :
  Pq (Lf (CX1 P w) P w K mg base N qual scope f cd A outer s H E) (λ_=>E):=λpins σ H1 s1 ev s' I h=>by
 obtain⟨e,C,B,H',rfl,x,q⟩:=h
 exact x.leave I rfl rfl rfl λh2 y=>⟨e,C,B,H',rfl,y,q⟩
def uY (C:Addr) (EX:St->XK) (t:TA):TS:=λ_ σ H=>t σ H λvs H1=>vs.length<=sizeLine/\EX σ (.ref C) none H1
theorem Xf {X:Cx} {EX:St->XK} {C:Addr} {x:Str} {np cpos pos:Pos} {e:Expr} {es:List Expr} {t:TA} (hc:X.calm=true) (T:XCl X.K C) (hg:Gl X x) (hm:X.mg x=some (.ref C)) (hx:Pq X EX) (ha:PA X (e::es) t)
  (hdb:(x == ("__debug__":Str))=false:=by decide) (he:starEach (e::es) X.env=(false,eval e X.env)::starEach es X.env:=by rfl) (hpl:(backTo cpos (starEach es X.env)).any (·.1)=false:=by rfl) :
  PS X (.Raise (some (.Call (.Name x np) (e::es) [] cpos)) none pos) (uY C EX t):=by
 intro pins s σ H D I h
 obtain⟨bm,N,nm,q,bs,hdct,sn,sub,ab,col,dd,k0,k1,k2,k3,k5,mN,hC,hN,hni,TL⟩:=T.obj I.mod.kin
 refine wpAny_Raise_call_subT F.excBase_ValueError (bm:=bm) (nm:=nm) (C:=C) (q:=q) (bs:=bs) (N:=N) (sn:=sn) (hdct:=hdct) (sub:=sub) (col:=col) (ab:=ab) (dd:=dd) (k5:=k5) (k3:=k3) (k2:=k2) (k1:=k1) (k0:=k0) (TL.hasType (by trivial)) (I.ok.hd hc) (by rw[he];show (false || (backTo cpos (starEach es X.env)).any (·.1))=false;rw[hpl];rfl) hni (Mg I hg hm ⟨rfl,?_⟩ hdb)
 have h2:=ha cpos pins s σ H _ I h
 rw[he] at h2 ⊢
 refine Calls.evalArgs_plain (thn h2 λus s2 ⟨vs,H2,I2,r,hl,hE⟩=>⟨rfl,?_⟩)
 refine⟨by rw[<-r.length];exact hl,I2.bk _ _ hC,hN.keeps I2.bk,TL.keeps I2.bk,λh' ea mx=>?_⟩
 exact hx pins σ H2 s2 (.ref ea) { s2 with heap:=h' } I2 ⟨ea,C,_,H2,rfl,Exc.made I2 mx,hE⟩
section
variable {M:Model} {A:Around} {E:Value->Shared->Prop} {h:Heap} {g:Array GenState} {d:Drawn} {t:Nat} {os:OsState} {K:PySem.W.Frag} {e C HC:Addr}
theorem uR {Q:Bool->Shared->Prop} (X:K.In h) (TH:XCl K HC) (hs:subIn K (.ref C) (.ref HC)=some true) (x:XAt e C h) (hq:Q true ⟨h,g,d,t,os⟩):wpAny M A (excMatches (.ref e) (.ref HC)) Q E ⟨h,g,d,t,os⟩:=by
 obtain⟨oe,vs,he,hc,_⟩:=x
 obtain⟨dd,cd,sl,ho⟩:=TH.look
 have hH:=X _ _ ho
 have f1:=looks_subIn (M:=M) X TH.mb
 have f2:=looks_subIn (M:=M) X hs
 have f3:=tc_notTuple
 unfold excMatches
 repeat (first | (with_reducible refine Qbq he ?_;rw[hc]) | with_reducible refine Qbq hH ?_ | with_reducible refine f1.at ?_ | with_reducible refine f2.at ?_ | wp_step)
 exact hq
end
abbrev Cx.by (X:Cx) (pn:List (Addr×Obj)) (E:Value->Shared->Prop):Cx:={ X with pn:=pn,xe:=E }
abbrev Cx.suite (X:Cx) (pn:List (Addr×Obj)) (ev:Value):Cx:={ X with pn:=pn,xe:=λ_ _=>False,A:=X.A.mark (some ev),calm:=false }
section
variable {X:Cx} {pins Hq pn:List (Addr×Obj)} {σ : St} {H:Hp} {s:Shared} {E:Value->Shared->Prop} {ev:Value}
theorem Inv.by (I:Inv X pins σ H s) (E:Value->Shared->Prop):Inv (X.by (X.pn++pins) E) [] σ H s:=
 ⟨⟨I.ok.mod,I.ok.kind,I.ok.glob,I.ok.blt,I.ok.above,I.ok.inj,I.ok.has,I.ok.cab,I.ok.hd,I.ok.frames,I.ok.stk,I.ok.exf,I.ok.bs,I.ok.bsz,I.ok.M6,I.ok.Kr,I.ok.Gy,I.ok.frf⟩,I.os,I.bare,I.base,I.loc,I.cell,I.free,I.Ew,
  λp hp=>I.pin p (by simpa using hp),I.hok,I.len⟩
theorem Inv.Om (I:Inv (X.by (X.pn++pins) E) Hq σ H s):Inv X pins σ H s:=
 ⟨⟨I.ok.mod,I.ok.kind,I.ok.glob,I.ok.blt,I.ok.above,I.ok.inj,I.ok.has,I.ok.cab,I.ok.hd,I.ok.frames,I.ok.stk,I.ok.exf,I.ok.bs,I.ok.bsz,I.ok.M6,I.ok.Kr,I.ok.Gy,I.ok.frf⟩,I.os,I.bare,I.base,I.loc,I.cell,I.free,I.Ew,
  λp hp=>I.pin p (QaF _ hp),I.hok,I.len⟩
theorem Inv.suite (I:Inv (X.by pn E) Hq σ H s) (ev:Value):Inv (X.suite pn ev) Hq σ H s:=
 ⟨⟨I.ok.mod,I.ok.kind,I.ok.glob,I.ok.blt,I.ok.above,I.ok.inj,I.ok.has,I.ok.cab,(λz=>nomatch z),I.ok.frames,I.ok.stk,I.ok.exf,I.ok.bs,I.ok.bsz,I.ok.M6,I.ok.Kr,I.ok.Gy,I.ok.frf⟩,I.os,I.bare,I.base,I.loc,I.cell,I.free,I.Ew,
  I.pin,I.hok,I.len⟩
theorem Inv.QC (hd:X.calm=true->X.A.handled=none) (I:Inv (X.suite (X.pn++pins) ev) Hq σ H s):Inv X pins σ H s:=
 ⟨⟨I.ok.mod,I.ok.kind,I.ok.glob,I.ok.blt,I.ok.above,I.ok.inj,I.ok.has,I.ok.cab,hd,I.ok.frames,I.ok.stk,I.ok.exf,I.ok.bs,I.ok.bsz,I.ok.M6,I.ok.Kr,I.ok.Gy,I.ok.frf⟩,I.os,I.bare,I.base,I.loc,I.cell,I.free,I.Ew,
  λp hp=>I.pin p (QaF _ hp),I.hok,I.len⟩
theorem SP.Om {D:Ends} {f:Flow} (h:SP (X.by (X.pn++pins) E) Hq D f s):SP X pins D f s:=by
 cases f with
 | next=>obtain⟨σ',H',I,q⟩:=h;exact⟨σ',H',I.Om,q⟩
 | brk=>obtain⟨σ',H',I,q⟩:=h;exact⟨σ',H',I.Om,q⟩
 | cont=>obtain⟨σ',H',I,q⟩:=h;exact⟨σ',H',I.Om,q⟩
 | ret u=>obtain⟨v,σ',H',I,r,q⟩:=h;exact⟨v,σ',H',I.Om,r,q⟩
theorem QZ {M:Model} {A:Around} {E1:Value->Shared->Prop} {i:Nat} {n:Str} {pos:Pos} {Q:Unit->Shared->Prop} (I:Inv X pins σ H s) (hN:X.N.Nodup) (hi:X.N[i]?=some n) (hl:X.env.scope.names.lookup n=some .local)
  (hq:∀s',Inv X pins (σ.set i none) H s'->Q () s'):wpAny M A (do bindName X.env n .none;unbindBehindTheSuite X.env n pos) Q E1 s:=by
 obtain⟨m,hn,hm⟩:=id I.loc
 have hcls:(X.env.scope.kind == .class || (X.env.scope.kind == .module&&X.env.locals != X.env.globals))=false:=by rw[I.ok.kind];rfl
 refine wpAny_nameGoes_keeps hl hn hcls λh' v nsv sb=>?_
 have hiσ : i < σ.length:=by rw[I.len];exact (Qah.mp hi).1
 obtain⟨oL,_,_,hoL,_⟩:=id hn
 have below:∀b o,X.s₀.heap.get? b=some o->b≠X.env.locals:=λb o q=>Qcj (QaW (Qch q) I.ok.above)
 refine hq _ ⟨I.ok,I.os,I.bare,⟨λb o q nn hb hx=>?_,λb o q nn hb hx=>?_,I.base.free,λb o q hx=>?_,I.base.tups,I.base.Hi,I.base.Il⟩,⟨_,nsv,λj y w e1 e2 e3=>?_⟩,λy c q=>?_,I.free,I.Ew,λp hp=>?_,λb ob q=>?_,?_⟩
 ·exact (sb.2 b (below b o q)).trans (I.base.keep b o q nn hb hx)
 ·obtain⟨sl,q1⟩:=I.base.slot b o q nn hb hx
  exact⟨sl,(sb.2 b (below b o q)).trans q1⟩
 ·obtain⟨o',q1⟩:=I.base.there b o q hx
  exact⟨o',(sb.2 b (below b o q)).trans q1⟩
 ·by_cases hj:j=i
  ·subst hj
   rw[List.getElem?_set_self hiσ] at e2
   cases e2
  ·rw[List.getElem?_set_ne (Ne.symm hj)] at e2
   obtain⟨u,r,q⟩:=hm j y w e1 e2 e3
   refine⟨u,r,?_⟩
   rcases q with⟨k,q⟩|⟨k,c,q,z⟩
   ·have ny:y≠n:=λz=>hj (RN hN e1 (z ▸ hi))
    exact .inl ⟨k,by simp[ny,q]⟩
   ·exact .inr ⟨k,c,q,z.sameBut sb (I.cne y c q)⟩
 ·obtain⟨u,z⟩:=I.cell y c q
  exact⟨u,z.sameBut sb (I.cne y c q)⟩
 ·obtain⟨q,nn,ne,nf,dd⟩:=I.pin p hp
  exact⟨(sb.2 p.1 ne).trans q,nn,ne,nf,dd⟩
 ·refine (I.hok b ob q).stay (λc u hc q1=>(sb.2 c ?_).trans q1) (λ_ z=>z) λ_ _ z=>z
  rintro rfl
  rcases hc with rfl | hc
  ·rw[I.free] at q;cases q
  ·rw[I.free] at hc;cases hc
 ·rw[List.length_set];exact I.len
end
def Ends.drop (D:Ends) (i:Nat):Ends where
 nx:=fun σ H=>D.nx (σ.set i none) H
 rt:=D.rt
 bk:=fun σ H=>D.bk (σ.set i none) H
 ct:=fun σ H=>D.ct (σ.set i none) H
def dw (K:PySem.W.Frag) (HC:Addr) (i:Nat) (th:Addr->TS) (D:Ends):St->XK:=fun σ cls _ H=>∃C,cls=.ref C/\XCl K C/\subIn K (.ref C) (.ref HC)=some true/\∀e,H e=none->th e (D.drop i) (σ.set i (some (.ref e))) (upd H e (xo e C))
def BT (K:PySem.W.Frag) (HC:Addr) (i:Nat) (tb:(St->XK)->TS) (th:Addr->TS):TS:=λD σ H=>tb (dw K HC i th D) D σ H
theorem gb {X:Cx} {HC:Addr} {i:Nat} {n x:Str} {tb:(St->XK)->TS} {th:Addr->TS} {body suite:List Stmt} {b₀ : Stmt} {np hpos pos:Pos} (hN:X.N.Nodup) (hi:X.N[i]?=some n) (hl:X.env.scope.names.lookup n=some .local) (hst:X.stack=X.env::X.outer)
  (hf:X.env.frame=some X.env.locals) (hg:Gl X x) (hm:X.mg x=some (.ref HC)) (TH:XCl X.K HC)
  (h1:∀pn E1 EX,Pq (X.by pn E1) EX->PSs (X.by pn E1) body (tb EX)) (h2:∀pn (e:Addr),PSs (X.suite pn (.ref e)) (b₀::suite) (th e)) (hdb:(x == ("__debug__":Str))=false:=by decide) :
  PS X (.Try body [.ExceptHandler (some (.Name x np)) (some n) (b₀::suite) hpos] [] [] pos) (BT X.K HC i tb th):=by
 intro pins s σ H D I h
 have hfr:X.A.frames=some (X.env::X.outer):=I.ok.frames.trans (congrArg some hst)
 let E1:Value->Shared->Prop:=λev s''=>∃(Hq:List (Addr×Obj)) (σ':St) (H':Hp) (s':Shared),Inv (X.by (X.pn++pins) λ_ _=>False) Hq σ' H' s'/\CX1 X.prog X.w X.stack H' s' (dw X.K HC i th D σ') ev s''
 have hp:Pq (X.by (X.pn++pins) E1) (dw X.K HC i th D):=λHq σ' H' s' ev s'' I' c=>⟨Hq,σ',H',s',⟨⟨I'.ok.mod,I'.ok.kind,I'.ok.glob,I'.ok.blt,I'.ok.above,I'.ok.inj,I'.ok.has,I'.ok.cab,I'.ok.hd,I'.ok.frames,I'.ok.stk,I'.ok.exf,I'.ok.bs,I'.ok.bsz,I'.ok.M6,I'.ok.Kr,I'.ok.Gy,I'.ok.frf⟩,I'.os,I'.bare,I'.base,I'.loc,I'.cell,I'.free,I'.Ew,I'.pin,I'.hok,I'.len⟩,c⟩
 refine wpAny_Try_except (Qcx (h1 _ E1 _ hp [] s σ H D (I.by E1) h) (λf s1 q=>?_) λev s1 q=>?_)
 ·cases f with
  | next=>exact wpAny_execs_nil q.Om
  | brk=>exact q.Om
  | cont=>exact q.Om
  | ret u=>exact q.Om
 ·obtain⟨Hq,σ',H',s',I',e,C,B,H2,rfl,x1,D1,hC,T,hs,hth⟩:=q
  cases hC
  obtain⟨fl,hfl,f0⟩:=x1.fl
  rw[hst] at f0
  refine aA hfl hfr hf f0 λha fa ua=>?_
  refine Yc fa λhb fb ub=>?_
  have fb':Fl B X.stack e C (some .none) hb:=by rw[hst];exact fb
  have J:=Exc.caught I' x1 fb' (ua.trans ub)
  have JS:=J.suite (Value.ref e)
  refine wpAny_handleBy_cons (codeAny_handlers_test (Mg JS hg hm ?_ hdb)) (by intro q;cases q)
  refine uR JS.kIn TH hs fb.tr.at (codeAny_handlers_suite_as ?_)
  refine Yc fb λhc fc uc=>?_
  have fc':Fl B X.stack e C (some .none) hc:=by rw[hst];exact fc
  have J2:=(Exc.caught I' x1 fc' ((ua.trans ub).trans uc)).suite (Value.ref e)
  refine Ml (X:=X.suite (X.pn++pins) (.ref e)) (v:=.ref e) (i:=i) J2 hN hi (.inl hl) rfl (λs4 J4=>?_) (.inr hl)
  refine Qcx (h2 _ _ Hq s4 _ _ (D.drop i) J4 (hth e x1.free)) (λf s5 q=>?_) λ_ _ z=>z.elim
  cases f with
  | next=>
   obtain⟨σ5,H5,I5,q5⟩:=q
   exact QZ (I5.QC I.ok.hd) hN hi hl λs6 I6=>⟨_,_,I6,q5⟩
  | brk=>
   obtain⟨σ5,H5,I5,q5⟩:=q
   exact QZ (I5.QC I.ok.hd) hN hi hl λs6 I6=>⟨_,_,I6,q5⟩
  | cont=>
   obtain⟨σ5,H5,I5,q5⟩:=q
   exact QZ (I5.QC I.ok.hd) hN hi hl λs6 I6=>⟨_,_,I6,q5⟩
  | ret u=>
   obtain⟨v5,σ5,H5,I5,r5,q5⟩:=q
   exact QZ (I5.QC I.ok.hd) hN hi hl λs6 I6=>⟨v5,_,_,I6,r5,q5⟩
structure Kz (k:Nat) (A:Around):Prop where
 dp:A.depth+3*k+5 < recursionLimit
 un:A.units+16*k+200 < cLine
theorem Cu.inH {k:Nat} {A:Around} (r:Cu k A) (h:Option Value):Kz k (A.mark h):=⟨r.dp,r.un⟩
theorem Kz.deeper {k:Nat} {A:Around} (r:Kz (k+1) A) (env:Env):Kz k (A.deeper env):=
 ⟨by have:=r.dp;show A.depth+1+3*k+5 < _;omega,by have:=r.un;show A.units+3+16*k+200 < _;omega⟩
theorem Kz.mono {j k:Nat} {A:Around} (r:Kz k A) (h:j<=k):Kz j A:=⟨by have:=r.dp;omega,by have:=r.un;omega⟩
structure Wb (P:Program) (w:World) (K:PySem.W.Frag) (mg:Str->Option Value) (base:Heap) (x:Str) (k:Nat) (ps:List Str) (sp:Sp):Prop where
 ex:∃(f:Addr) (fd:FuncData),mg x=some (.ref f)/\keepIn K (.ref f)=true/\Binds K fd ps []/\(∀vs H Q E,sp vs H Q E->vs.length=ps.length) /\
  ∀(A:Around) (outer:List Env) (s:Shared) (H:Hp) (args:Args) (us:List Value) (vs:List V) (Q:VK),Kz k A->Li P w K mg base A outer s H->BindsTo s fd args (ps.zip us)->Vals vs us->sp vs H Q E0 ->
   codeAny (model P w) A (.call (.ref f) args) (CR CX0 outer P w H s Q E0) s
abbrev cxH (P:Program) (w:World) (K:PySem.W.Frag) (mg:Str->Option Value) (base:Heap) (N:List Str) (qual:Str) (scope:Scope) (f:Addr) (cd:Value) (A:Around) (outer:List Env) (s:Shared) (H:Hp):Cx:=
 { Lf CX0 P w K mg base N qual scope f cd A outer s H E0 with calm:=false,xe:=λ_ _=>False }
theorem Code.A9 {P:Program} {w:World} {K:PySem.W.Frag} {mg:Str->Option Value} {base:Heap} {x:Str} {st:Stmt} {ps N:List Str} {k:Nat} {sp:Sp} (C:Code K mg x st ps) (S:Ba N ps (Ag st)) (len:∀vs H Q E,sp vs H Q E->vs.length=ps.length)
  (hbody:∀(f:Addr) (cdv:Value) (A:Around) (outer:List Env) (s:Shared) (H:Hp) (vs:List V) (Q:VK),Kz k (A.deeper (envOfC x (Ag st) s.heap.objs.size f cdv))->sp vs H Q E0 ->
   ∃t,PSs (cxH P w K mg base N x (Ag st) f cdv A outer s H) (Ax st) t/\t { nx:=λ_ H'=>Q .non H',rt:=Q } (start N vs) H):Wb P w K mg base x (k+1) ps sp:=by
 obtain⟨f,fd,F,m,b⟩:=C.ex
 refine⟨f,fd,m,F.kp,b,len,λA outer s H args us vs Q hr e0 hb r hsp=>?_⟩
 obtain⟨oc,od,kV,doc,pm,an,cdv,ct,osl,rfl,lk,hcd⟩:=F.ex
 have hlen:=len _ _ _ _ hsp
 have KX:K.In s.heap:=e0.mod.kin.keeps λb o q=>(e0.bs b o q).1
 have lim:s.heap.NoLimit:=e0.mod.nolimit.keeps λb o q=>(e0.bs b o q).1
 have hkind:∀y∈ps.zip us,(Ag st).names.lookup y.1=some .local\/((Ag st).names.lookup y.1=some .cell/\((cellsFrom (s.heap.objs.size+1) (Ag st).names []).lookup y.1).isSome=true):=λ⟨n,v⟩ hy=>by
  rcases S.par n (List.of_mem_zip hy).1 with q | q
  ·exact .inl q
  ·exact .inr ⟨q,PySem.W.cellsFrom_some _ _ _ (.inl q)⟩
 refine codeAny_call_function (by have:=hr.dp;omega) (KX _ _ lk) rfl S.co S.gen rfl (PySem.W.codeRec_of KX hcd) (hb _ _ _ _ ?_)
 refine wpAny_newFunctionEnv_cells S.kind hkind λenv he s1 ic=>?_
 subst he
 refine⟨lim.keeps ic.toInCall.keep,codeAny_func ?_⟩
 obtain⟨t,ht,hq⟩:=hbody f cdv A outer s H vs Q (hr.deeper _) hsp
 have e1:Li P w K mg base { A with handled:=none } outer s H:=⟨e0.frames,e0.mod,e0.bs,e0.bsz,e0.Gy,e0.frf,e0.hok,e0.bare⟩
 have I0:Inv (Lf CX0 P w K mg base N x (Ag st) f cdv { A with handled:=none } outer s H E0) [] (start N vs) H s1:=Vj S rfl e1 hlen r ic
 have I:Inv (cxH P w K mg base N x (Ag st) f cdv A outer s H) [] (start N vs) H s1:=
  ⟨⟨I0.ok.mod,I0.ok.kind,I0.ok.glob,I0.ok.blt,I0.ok.above,I0.ok.inj,I0.ok.has,I0.ok.cab,(λz=>nomatch z),Around.frames_deeper e0.frames,I0.ok.stk,I0.ok.exf,I0.ok.bs,I0.ok.bsz,I0.ok.M6,I0.ok.Kr,I0.ok.Gy,I0.ok.frf⟩,I0.os,I0.bare,I0.base,I0.loc,I0.cell,I0.free,I0.Ew,
   I0.pin,I0.hok,I0.len⟩
 refine Qcx (ht [] s1 (start N vs) H _ I hq) (λfl s' hs=>?_) λe s' z=>z.elim
 have fin:∀{σ':St} {H':Hp} {v:V} {u:Value},Inv (cxH P w K mg base N x (Ag st) f cdv A outer s H) [] σ' H' s'->RelV v u->Q v H'->CE outer P w H s Q u s':=λ{σ' H' v u} J rv q=>⟨v,H',J.os,J.bare,J.base,J.hok,rv,q⟩
 cases fl with
 | ret u=>
  obtain⟨v,σ',H',J,rv,q⟩:=hs
  exact fin J rv q
 | next=>
  obtain⟨σ',H',J,q⟩:=hs
  exact fin (v:=V.non) (u:=Value.none) J rfl q
 | brk=>obtain⟨_,_,_,q⟩:=hs;exact False.elim q
 | cont=>obtain⟨_,_,_,q⟩:=hs;exact False.elim q
theorem gC {X:Cx} {k k':Nat} {ps:List Str} {sp:Sp} {x:Str} {p pos:Pos} {e:Expr} {es:List Expr} {t:TA} (g:Wb X.prog X.w X.K X.mg X.base x k ps sp) (hr:Kz k' X.A) (ha:PA X (e::es) t) (hk:k<=k':=by decide)
  (hg:Gl X x:=by rfl) (hdb:(x == ("__debug__":Str))=false:=by decide) (he:starEach (e::es) X.env=(false,eval e X.env)::starEach es X.env:=by rfl) (hpl:(backTo pos (starEach es X.env)).any (·.1)=false:=by rfl) :
  PE X (.Call (.Name x p) (e::es) [] pos) (bx sp [] E0 t):=by
 intro pins s σ H Q I h
 obtain⟨f,fd,m,kp,b,len,run⟩:=g.ex
 refine Qbc (Mg I hg m ?_ hdb)
 refine callWith_K (h₀:=X.base) I.ok.mod.kin kp (thn (ha pos pins s σ H _ I h) λus s1 ⟨vs,H1,I1,r,q⟩=>⟨I1.kIn,?_⟩) he hpl
 have q:sp (vs++[]) H1 Q E0:=q
 rw[QbF] at q
 have hl:us.length=ps.length:=by rw[<-r.length];exact len _ _ _ _ q
 have bd:=b s1 us I1.kIn (by rw[QbF];exact hl)
 rw[QbF] at bd
 refine wpAny_call (Qcp (run X.A X.stack s1 H1 ⟨us,[]⟩ us vs Q (hr.mono hk) I1.env0 bd r q) λrr s' hq=>?_)
 cases rr with
 | error ev=>exact False.elim hq
 | ok fl=>
  cases fl with
  | ret u=>exact I1.after hq
  | next=>exact False.elim hq
  | brk=>exact False.elim hq
  | cont=>exact False.elim hq
@[irreducible] def bM (K:PySem.W.Frag):List V->Hp->VK->Prop:=λxs H Q=>∃a D C b,xs=[.ref a,.ref D]/\H a=some (xo a C)/\XCl K C/\kitOne K (.ref C) (.ref D)=some b/\Q (.bl b) H
theorem DX {X:Cx}:Eb X (.builtin "isinstance") (bM X.K):=by
 intro pins s σ H xs us Q I r h
 unfold bM at h
 obtain⟨a,D,C,b,rfl,ea,T,k,q⟩:=h
 obtain⟨u,w',rfl,rx,rt⟩:=vals2 r
 cases rx
 cases rt
 exact Tr I T ea k λtk=>⟨.bl b,H,I.tok tk,rfl,q⟩
@[irreducible] def V4 (K:PySem.W.Frag):List V->Hp->VK->Prop:=λxs H Q=>∃a T C b,xs=[.ref a,.ty T]/\H a=some (xo a C)/\XCl K C/\kitOne K (.ref C) (.type T)=some b/\Q (.bl b) H
theorem jE {X:Cx}:Eb X (.builtin "isinstance") (V4 X.K):=by
 intro pins s σ H xs us Q I r h
 unfold V4 at h
 obtain⟨a,T,C,b,rfl,ea,TC,k,q⟩:=h
 obtain⟨u,w',rfl,rx,rt⟩:=vals2 r
 cases rx
 cases rt
 exact Tr I TC ea k λtk=>⟨.bl b,H,I.tok tk,rfl,q⟩
end L2
namespace L2
open PySem PySem.Spec PyProof.Rows PySem.SeqAt
theorem Bf {c:Const} {k:Nat} {p:Pos} {es:List Expr} {env:Env}:starEach (.Constant c k p::es) env=(false,eval (.Constant c k p) env)::starEach es env:=by rfl
theorem JC {as:List Expr} {k:Nat} {p:Pos} {es:List Expr} {env:Env}:starEach (.Tuple as k p::es) env=(false,eval (.Tuple as k p) env)::starEach es env:=by rfl
def isT:Value->Bool
 | .bool b=>b
 | _=>false
theorem Yx:∀{bs:List Bool} {us:List Value},Vals (bs.map V.bl) us->us=bs.map Value.bool
 | [],_,.nil=>rfl
 | b::bs,_,.cons r t=>by
  cases (show _=Value.bool b from r)
  rw[Yx t]
  rfl
section
variable {X:Cx}
@[irreducible] def QM:V->List V->Hp->VK->Prop:=λx xs H Q=>∃(l:Addr) (bs:List Bool),x=.ref l/\xs=[.bl true]/\H l=some (.lst (bs.map V.bl))/\Q (.int ((bs.countP id:Nat):Int)) H
theorem eqT {A:Around} {s:Shared} {bs:List Bool}:∀y,y∈(bs.map Value.bool).toArray->EqAt A s y (.bool true) (isT y):=λy hy=>by
 have hy':y∈bs.map Value.bool:=by simpa using hy
 obtain⟨b,_,rfl⟩:=Qci.mp hy'
 have:=EqAt.bool_bool (A:=A) (s:=s) b true
 rw[show (b == true)=isT (.bool b) by cases b <;> rfl] at this
 exact this
theorem jy {l:Addr} {bs:List Bool} {H:Hp} {Q:VK} (h:H l=some (.lst (bs.map V.bl))) (q:Q (.int ((bs.countP id:Nat):Int)) H):QM (.ref l) [.bl true] H Q:=by
 unfold QM
 exact⟨l,bs,rfl,rfl,h,q⟩
theorem iw:MtM X "list.count" QM:=by
 intro pins s σ H x vs v us Q I rx rv h
 unfold QM at h
 obtain⟨l,bs,rfl,rfl,hH,q⟩:=h
 cases rx
 obtain⟨u,rfl,ru⟩:=rv.one
 cases (show _=Value.bool true from ru)
 obtain⟨z,its,n,r,hl,e⟩:=I.M8 hH
 have hi:=Yx r
 subst hi
 refine call_meets F.slot_list_count ⟨_,e,rfl⟩ F.entry_list_count (F.args_list_count_2 _ _) (list_countAt l (bs.map Value.bool).toArray n none #[] (.bool true) isT) ⟨e,eqT,?_⟩
 refine⟨.int ((bs.countP id:Nat):Int),H,I.tok _,⟨s.toks,?_⟩,q⟩
 have hc:(bs.map Value.bool).countP isT=bs.countP id:=by
  rw[List.countP_map]
  congr 1
 simp only[hc]
@[irreducible] def QL:V->List V->Hp->VK->Prop:=λx xs H Q=>∃(l:Addr) (bs:List Bool) (j:Nat),x=.ref l/\xs=[.bl true]/\H l=some (.lst (bs.map V.bl))/\j<=1000/\bs[j]?=some true/\(∀m,m < j->bs[m]?=some false)/\Q (.int (j:Int)) H
theorem iM {l:Addr} {bs:List Bool} {j:Nat} {H:Hp} {Q:VK} (h:H l=some (.lst (bs.map V.bl))) (h1:j<=1000) (h2:bs[j]?=some true) (h3:∀m,m < j->bs[m]?=some false) (q:Q (.int (j:Int)) H):QL (.ref l) [.bl true] H Q:=by
 unfold QL
 exact⟨l,bs,j,rfl,rfl,h,h1,h2,h3,q⟩
theorem iu:MtM X "list.index" QL:=by
 intro pins s σ H x vs v us Q I rx rv h
 unfold QL at h
 obtain⟨l,bs,j,rfl,rfl,hH,hj1,hj,hno,q⟩:=h
 cases rx
 obtain⟨u,rfl,ru⟩:=rv.one
 cases (show _=Value.bool true from ru)
 obtain⟨z,its,n,r,hl,e⟩:=I.M8 hH
 have hi:=Yx r
 subst hi
 have hjl:j < bs.length:=(Qah.mp hj).1
 have hj2:j < (bs.map Value.bool).toArray.size:=by simpa using hjl
 have hit:isT ((bs.map Value.bool).toArray[j]'hj2)=true:=by
  have h1:bs[j]=true:=(Qah.mp hj).2
  simp[h1,isT]
 have hn:∀m (hm:m < (bs.map Value.bool).toArray.size),m < j->isT (bs.map Value.bool).toArray[m]=false:=λm hm hmj=>by
  have h1:=(Qah.mp (hno m hmj)).2
  simp[h1,isT]
 refine call_meets F.slot_list_index ⟨_,e,rfl⟩ F.entry_list_index (F.args_list_index_2 _ _) (list_indexAt l (bs.map Value.bool).toArray n none #[] (.bool true) isT j hj2 (Int.lt_of_le_of_lt (b:=1000) (by omega) (by trivial)) hit hn) ⟨e,eqT,?_⟩
 exact⟨.int (j:Int),H,I.tok _,⟨_,rfl⟩,q⟩
end
theorem Gx {K:PySem.W.Frag} {a D C:Addr} {b:Bool} {H:Hp} {Q:VK} (h:H a=some (xo a C)) (T:XCl K C) (k:kitOne K (.ref C) (.ref D)=some b) (q:Q (.bl b) H):bM K [.ref a,.ref D] H Q:=by
 unfold bM
 exact⟨a,D,C,b,rfl,h,T,k,q⟩
theorem uh {K:PySem.W.Frag} {a C:Addr} {T:String} {b:Bool} {H:Hp} {Q:VK} (h:H a=some (xo a C)) (TC:XCl K C) (k:kitOne K (.ref C) (.type T)=some b) (q:Q (.bl b) H):V4 K [.ref a,.ty T] H Q:=by
 unfold V4
 exact⟨a,T,C,b,rfl,h,TC,k,q⟩
section
variable {prog:Program} {w:World} {A:Around} {E:Value->Shared->Prop} {s:Shared}
end
end L2
namespace L2
open PySem PySem.Spec PyProof.Rows
section
variable {X:Cx} {pins:List (Addr×Obj)} {σ : St} {H:Hp} {s:Shared} {a:Addr} {kvs:List (Key×V)} {o:Obj}
end
theorem PJ:entryFor table "dict_itemiterator.__iter__"=some Builtin.«dict_keyiterator.__iter__»:=entryFor_alias (id':="dict_keyiterator.__iter__") (by kernel_rfl) rfl (by trivial) (by kernel_rfl)
theorem VP {prog:Program} {w:World} {A:Around} {E:Value->Shared->Prop} {s:Shared} {it d:Addr} {i n ep:Nat} {ok ov:Value} {Q:Value->Shared->Prop} (hit:IsItemIter s.heap it d i n ep ok ov) (h:Q (.ref it) s) :
  wpAny (model prog w) A (pyIter (.ref it)) Q E s:=by
 have hT:s.TypeIs (.ref it) "dict_itemiterator":=⟨_,hit,rfl⟩
 refine wpAny_pyIter_slot hT F.slot_dict_itemiterator_iter (Qbv F.slot_dict_itemiterator_iter hT PJ ?_ (F.args_dict_itemiterator_iter_1 _))
 exact Qcw ⟨_,rfl,"dict_itemiterator",_,hT,Qac.lookup,h⟩
section
variable {a l:Addr} {o:Obj} {kvs:List (Key×V)} {g:TG} {tb:TS} {D:Ends} {σ : St} {H:Hp} {tt:TT} {te tk tv:TE} {Q:VK}
theorem jt {K:PySem.W.Frag} {xs:List V} {σ0:St} {H0:Hp} (Pv:Nat->St->Hp->Prop) (h0:Pv 0 σ0 H0) (hl:∀i σ H',i<=xs.length->Pv i σ H'->SqT K H' a xs)
  (hs:∀i x σ H',xs[i]?=some x->Pv i σ H'->g x σ H' fun σ3 H3=>tt σ3 H3 λb H4=>if b=true then tk σ3 H4 λy H5=>tv σ3 H5 λz H6=>∃(kvs:List (Key×V)) (k:Key),H6 l=some (.dK kvs)/\y=kV k/\kvs.length < sizeLine/\Pv (i+1) σ3 (upd H6 l (.dK (putK kvs k z))) else Pv (i+1) σ3 H4)
  (hd:∀ σ H',Pv xs.length σ H'->Q (.ref l) H'):Q9 (Itt K a) g tt tk tv Q σ0 H0 l:=by
 unfold Q9
 refine⟨λi m σ H'=>m=xs.length - i/\i<=xs.length/\Pv i σ H',⟨xs.length,by simp,Qcr _,h0⟩,?_⟩
 rintro i m σ H' ⟨rfl,hi,p⟩
 have q:=hl i σ H' hi p
 by_cases hlt:i < xs.length
 ·refine .inr ⟨⟨xs,xs[i],q,by simp[hlt]⟩,Pv (i+1),fun σ3 H3 p'=>⟨xs.length - (i+1),by omega,rfl,hlt,p'⟩,λx H2 y=>?_⟩
  obtain⟨e,y⟩:=y
  subst e
  exact hs i x σ _ (y xs q) p
 ·have e:i=xs.length:=by omega
  subst e
  exact .inl ⟨⟨xs,q,Qcq _⟩,hd σ H' p⟩
end
open PySem.W (KasT kas_asc kas_desc kas_rev kas_tail3 kas_descPart kas_count kas_place kas_bin kas_sort)
def GQ {α : Type} (n:Nat) (P:α->Prop):KasT α->Prop
 | .ret a=>P a
 | .ask i j k=>i < n/\j < n/\∀b,GQ n P (k b)
theorem Jz {α β : Type} {n:Nat} {P:α->Prop} {Q:β->Prop} {f:α->KasT β}:∀t:KasT α,GQ n P t->(∀a,P a->GQ n Q (f a))->GQ n Q (t.bind f)
 | .ret a,h,q=>q a h
 | .ask i j k,h,q=>⟨h.1,h.2.1,λb=>Jz (k b) (h.2.2 b) q⟩
def Pm (n:Nat) (p:Array Nat):Prop:=p.toList.Perm (List.range n)
theorem Pm.rev {n:Nat} {p:Array Nat} (h:Pm n p) (i j:Nat):Pm n (kas_rev p i j):=(Array.perm_iff_toList_perm.mp (mirror_perm p i j ((j - i) / 2))).trans h
theorem Pm.bub {n:Nat} {p:Array Nat} (h:Pm n p) (k d:Nat):Pm n (bubble p k d):=(Array.perm_iff_toList_perm.mp (bubble_perm p k d)).trans h
theorem Pm.lt {n:Nat} {p:Array Nat} (h:Pm n p) (n0:0 < n) (i:Nat):p.getD i 0 < n:=by
 by_cases hi:i < p.size
 ·have e:p.getD i 0=p[i]:=by simp[hi]
  rw[e]
  have hm:p[i]∈p.toList:=by simp
  exact QbU.mp (h.mem_iff.mp hm)
 ·have e:p.getD i 0=0:=by simp[hi]
  rw[e];exact n0
section
variable {n:Nat} (n0:0 < n)
include n0
theorem U3 {p:Array Nat} (h:Pm n p):∀f k,GQ n (λ_=>True) (kas_asc p f k)
 | 0,k=>trivial
 | f+1,k=>⟨h.lt n0 _,h.lt n0 _,λb=>by
  cases b with
  | true=>exact trivial
  | false=>exact U3 h f (k+1)⟩
theorem Pj:∀f (p:Array Nat),Pm n p->∀k q,GQ n (λr:Array Nat×Nat×Nat=>Pm n r.1) (kas_desc f p k q)
 | 0,p,h,k,q=>h
 | f+1,p,h,k,q=>⟨h.lt n0 _,h.lt n0 _,λb=>by
  cases b with
  | true=>
   show GQ n _ (if q > 0 then kas_desc f (kas_rev p (k - (q+1)) k) (k+1) 0 else kas_desc f p (k+1) 0)
   split
   ·exact Pj f _ (h.rev _ _) _ _
   ·exact Pj f _ h _ _
  | false=>exact⟨h.lt n0 _,h.lt n0 _,λd=>by
    cases d with
    | true=>exact h
    | false=>exact Pj f _ h _ _⟩⟩
theorem Yz {p:Array Nat} (h:Pm n p) (a b:Nat):GQ n (λr:Nat×Array Nat=>Pm n r.2) (kas_tail3 a b p):=
 Jz _ (U3 n0 (h.rev 0 a) _ _) λm _=>h.rev 0 a
theorem Qu {p:Array Nat} (h:Pm n p) (a b:Nat):GQ n (λr:Nat×Array Nat=>Pm n r.2) (kas_descPart a b p):=
 Jz _ (Pj n0 _ p h _ _) λr hr=>by
  show GQ n _ (if r.2.2 > 0 then _ else _)
  split
  ·exact Yz n0 (Pm.rev hr _ _) _ _
  ·exact Yz n0 hr _ _
theorem Vv {p:Array Nat} (h:Pm n p) (a:Nat):GQ n (λr:Nat×Array Nat=>Pm n r.2) (kas_count a p):=
 Jz _ (U3 n0 h _ _) λm _=>by
  show GQ n _ (if (m == a)=true then _ else if m > 1 then _ else _)
  split
  ·exact h
  ·split
   ·refine⟨h.lt n0 _,h.lt n0 _,λb=>?_⟩
    cases b with
    | true=>exact h
    | false=>exact Qu n0 (h.rev _ _) _ _
   ·exact Qu n0 h _ _
theorem Qt {p:Array Nat} (h:Pm n p) (k:Nat):∀f l r,GQ n (λ_=>True) (kas_place p k f l r)
 | 0,_,_=>trivial
 | f+1,l,r=>by
  show GQ n _ (if l ≥ r then _ else _)
  split
  ·exact trivial
  ·refine⟨h.lt n0 _,h.lt n0 _,λb=>?_⟩
   cases b with
   | true=>exact Qt h k f _ _
   | false=>exact Qt h k f _ _
theorem aM:∀f (p:Array Nat),Pm n p->∀k,GQ n (Pm n) (kas_bin f p k)
 | 0,p,h,_=>h
 | f+1,p,h,k=>Jz _ (Qt n0 h k _ _ _) λl _=>aM f _ (h.bub _ _) _
theorem YB:GQ n (Pm n) (kas_sort n):=
 Jz _ (Vv n0 (p:=List.toArray (List.range n)) (show Pm n _ by unfold Pm;exact List.Perm.refl _) n) λr hr=>by
  show GQ n _ (if r.1 < n then _ else _)
  split
  ·exact aM n0 _ _ hr _
  ·exact hr
end
section
variable {prog:Program} {w:World} {A:Around} {E:Value->Shared->Prop} {s:Shared}
theorem WK {l:Addr} {vs:List Value} {Q:Value->Shared->Prop} (hl:s.heap.IsList l vs.toArray) (h1:vs.length < 2)
  (h:∀D h' c,s.heap.objs.size<=D->h'.get? D=some (seqObj "list" vs.toArray c)->(∀b o,s.heap.get? b=some o->h'.get? b=some o)->Q (.ref D) { s with heap:=h' }):wpAny (model prog w) A (call (.builtin "sorted") [.ref l]) Q E s:=by
 have h2:vs.toArray.size < 2:=by rw[Qbg];exact h1
 have hz:vs.length<=sizeLine:=Qcn (Ao (by omega))
 refine Calls.call_function_entry (Q:=Q) kind_sorted plain_sorted entry_sorted (args_sorted1 (.ref l)) ?_
 unfold Builtin.«sorted»
 refine Qcv (m:=checkCount "sorted" 1 1 [Value.ref l].length) (Qcw ?_)
 refine Qcv (collect_list (vs:=vs) hl ?_ hz)
 have k1:∀b o,s.heap.get? b=some o->((s.heap.push (seqObj "list" #[] 0)).update s.heap.objs.size (Obj.mapSeq (·++vs.toArray))).get? b=some o:=λb o q=>by
  rw[Qax _ _ (Qcm (Qch q))]
  exact Qav _ q
 have z1:((s.heap.push (seqObj "list" #[] 0)).update s.heap.objs.size (Obj.mapSeq (·++vs.toArray))).objs.size=s.heap.objs.size+1:=by rw[Heap.size_update,QbT]
 generalize ((s.heap.push (seqObj "list" #[] 0)).update s.heap.objs.size (Obj.mapSeq (·++vs.toArray)))=g1 at k1 z1
 refine Qcv (wpAny_newList ?_ hz)
 have oD:(g1.push (seqObj "list" vs.toArray 0)).get? g1.objs.size=some (seqObj "list" vs.toArray 0):=QaI _ rfl
 have k2:∀b o,s.heap.get? b=some o->b≠g1.objs.size/\(g1.push (seqObj "list" vs.toArray 0)).get? b=some o:=λb o q=>⟨by rw[z1];exact Qcj (Nat.lt_succ_of_lt (Qch q)),Qav _ (k1 b o q)⟩
 refine Qcv (Qcc (Qbv slot_list_sort ⟨_,oD,rfl⟩ entry_list_sort ?_ (args_list_sort _)))
 rw[list_sort_plain]
 have zD:s.heap.objs.size<=g1.objs.size:=by rw[z1];exact Nat.le_succ _
 generalize g1.objs.size=D at oD k2 zD
 generalize hg2:g1.push (seqObj "list" vs.toArray 0)=g2 at oD k2
 refine Qcv (listItems_at (a:=D) oD rfl ?_)
 refine Qcv (listUpdate_at (a:=D) oD rfl ?_ (by rw[Qbg];exact hz) (Qcr _))
 obtain⟨e1,o1⟩ : ∃e1,(g2.update D (Obj.mapSeq λ_=>(#[]:Array Value))).get? D=some (seqObj "list" #[] e1):=⟨_,get?_update_seq oD λ_=>#[]⟩
 have k3:∀b o,s.heap.get? b=some o->b≠D/\(g2.update D (Obj.mapSeq λ_=>(#[]:Array Value))).get? b=some o:=λb o q=>⟨(k2 b o q).1,by rw[Qax _ _ (Ne.symm (k2 b o q).1)];exact (k2 b o q).2⟩
 have zip2:(arrOf (SortSt.mk' general' (vs.toArray.zip vs.toArray) #[] 7 none)).map (·.2)=vs.toArray:=by
  show (vs.toArray.zip vs.toArray).map (·.2)=vs.toArray
  apply Array.toList_inj.mp
  simp[Array.toList_zip,List.map_snd_zip]
 dsimp only
 generalize g2.update D (Obj.mapSeq λ_=>(#[]:Array Value))=g3 at o1 k3 ⊢
 refine Qcv (seqEpoch_at (a:=D) o1 rfl ?_)
 refine Qcv (wpAny_newTuple ?_ (by simpa using hz))
 refine Qcv (wpAny_newList (items:=[]) ?_ (Qcr _))
 refine Qcc ?_
 have o5:∀x y:Obj,((g3.push x).push y).get? D=some (seqObj "list" #[] e1):=λx y=>Qav _ (Qav _ o1)
 have k5:∀x y:Obj,∀b o,s.heap.get? b=some o->b≠D/\((g3.push x).push y).get? b=some o:=λx y b o q=>⟨(k3 b o q).1,Qav _ (Qav _ (k3 b o q).2)⟩
 dsimp only
 rw[if_pos h2,if_pos h2]
 refine Qcv (Qcw ?_)
 rw[StateT.run_pure]
 refine Qcv (Qcw ?_)
 dsimp only
 refine Qcv (seqEpoch_at (a:=D) (o5 _ _) rfl ?_)
 rw[zip2]
 refine Qcv (listUpdate_at (a:=D) (o5 _ _) rfl ?_ (Qcr _) (by first | (rw[Qbg];exact hz) | (rw[Qbg];omega)))
 simp only[bne_self_eq_false,Bool.false_eq_true,if_false]
 obtain⟨c,oF⟩ : ∃c,(((g3.push { cls:=.type "tuple",data:=.seq vs.toArray }).push { cls:=.type "list",data:=.seq #[] }).update D (Obj.mapSeq λ_=>vs.toArray)).get? D=some (seqObj "list" vs.toArray c):=⟨_,get?_update_seq (o5 _ _) λ_=>vs.toArray⟩
 refine Qcw ⟨_,rfl,Qcw ⟨_,rfl,h D _ c zD oF λb o q=>?_⟩⟩
 rw[Qax _ _ (Ne.symm (k3 b o q).1)]
 exact (k5 _ _ b o q).2
end
theorem tO {h:Heap} {a:Addr} {m m':Str->Option Value} (x:h.Ns a m) (y:h.Ns a m'):m=m':=by
 obtain⟨o,es,ep,h1,h2,_,h3⟩:=x
 obtain⟨o',es',ep',g1,g2,_,g3⟩:=y
 rw[h1] at g1
 cases g1
 rw[h2] at g2
 cases g2
 funext k
 rw[<-h3,<-g3]
theorem Vd {α β : Type} (d:α) (e:β):∀{vs:List α} {its:List β} {F:α->β->Prop} {is:List Nat},Paired F vs its->(∀i∈is,i < vs.length)->Paired F (is.map λi=>vs.getD i d) (is.map λi=>its.getD i e)
 | vs,its,F,[],_,_=>.nil
 | vs,its,F,i::is,r,h=>by
  refine .cons ?_ (Vd d e r λj hj=>h j (QaE _ hj))
  have hi:=h i (QaR ..)
  have go:∀{l:List α} {m:List β} {i:Nat},Paired F l m->i < l.length->F (l.getD i d) (m.getD i e):=by
   intro l m i r
   induction r generalizing i with
   | nil=>intro h;exact absurd h (QbO _)
   | cons a t ih=>
    intro h
    cases i with
    | zero=>exact a
    | succ i=>exact ih (Nat.lt_of_succ_lt_succ h)
  exact go r hi
theorem range_getD {α : Type} (d:α) (vs:List α):(List.range vs.length).map (λi=>vs.getD i d)=vs:=by
 apply List.ext_getElem
 ·simp
 ·intro i h1 h2
  simp[h2]
def dO (K:PySem.W.Frag) (H:Hp) (vs:List V):Prop:=∀v∈vs,∃t ns,v=.ref t/\SqT K H t ((ns:List Int).map V.int)/\0 < ns.length
theorem Z8 {X:Cx} {pins:List (Addr×Obj)} {σ : St} {H:Hp} {s:Shared} {h':Heap} (I:Inv X pins σ H s) (k:∀b o,H b≠none\/(∃u,X.base.get? b=some u)->s.heap.get? b=some o->h'.get? b=some o):∀{vs:List V} {its:List Value},Vals vs its->dO X.K H vs ->
  ∃fs,PySem.W.KatTups h' its fs/\fs.length=its.length/\∀f∈fs,∃i t,f=Value.int i t
 | _,_,.nil,_=>⟨[],trivial,rfl,λf h=>nomatch h⟩
 | _,_,.cons r t,h=>by
  obtain⟨fs,f1,f2,f3⟩:=Z8 I k t λv hv=>h v (QaE _ hv)
  obtain⟨tp,ns,rfl,hq,hn⟩:=h _ (QaR ..)
  cases r
  obtain⟨its,rv,⟨o,ho,hc,n,hd⟩,_⟩:=I.tuple hq
  have ho':h'.get? tp=some o:=by
   refine k tp o ?_ ho
   rcases hq with (e |⟨_,e⟩) |⟨_,_,_,e,_⟩
   ·exact .inl (by rw[e];exact λz=>nomatch z)
   ·exact .inl (by rw[e];exact λz=>nomatch z)
   ·exact .inr ⟨_,I.mod.kin _ _ e⟩
  cases ns with
  | nil=>exact absurd hn (Qcb _)
  | cons n0 nr=>
   cases rv with
   | cons r0 rr=>
    obtain⟨tk,rfl⟩:=r0
    exact⟨Value.int n0 tk::fs,PySem.W.KatTups.cons ho' hc hd (by simp) f1,by simp[f2],λf hf=>by
     rcases QbY.mp hf with rfl | hf
     ·exact⟨_,_,rfl⟩
     ·exact f3 f hf⟩
end L2
namespace L2
open PySem PySem.Spec PyProof.Rows
theorem XH:typeLookup (.type "list") "keys"=pure none:=by rw[typeLookup_type,builtinLookup_eq_fast];kernel_rfl
theorem XJ:typeLookup (.type "list") "__getattr__"=pure none:=by rw[typeLookup_type,builtinLookup_eq_fast];kernel_rfl
theorem Wo:isSubtype (.type "AttributeError") (.type "AttributeError")=pure true:=by rw[isSubtype_type];kernel_rfl
section
variable {M:Model} {A:Around} {E:Value->Shared->Prop} {s:Shared}
theorem mH {e:Addr} {o:Obj} {x nm T:Value} {Q:Unit->Shared->Prop} (ho:s.heap.get? e=some o) (hc:o.cls=.type "AttributeError") (hd:o.data=.fields #[T,.none,.none,.none,.bool false,.none,unsetMember,unsetMember])
  (h:∀h',(∀b u,b≠e->s.heap.get? b=some u->h'.get? b=some u)->(∃o',h'.get? e=some o'/\o'.cls=.type "AttributeError")->Q () { s with heap:=h' }):wpAny M A (noteAttr (.ref e) x nm) Q E s:=by
 obtain⟨oc,od,oa,os⟩:=o
 cases hc
 cases hd
 have hT:s.TypeIs (.ref e) "AttributeError":=⟨_,ho,rfl⟩
 unfold noteAttr
 refine Qcv ?_
 unfold lacksNameAndObj
 refine Qcv (wpAny_isInstance hT Wo ?_)
 simp only[Bool.not_true,Bool.false_eq_true,if_false]
 refine Qcv (wpAny_load ho ?_)
 refine Qcw ?_
 rw[if_pos rfl]
 refine Qcv (wpAny_rule ?_)
 refine Qcv (wpAny_typeOf hT ?_)
 show wpAny _ _ (layMembers e 6 #[nm,x]) _ _ _
 unfold layMembers
 refine Qcv (wpAny_load ho ?_)
 refine wpAny_update ho ?_
 refine h _ (λb u nb q=>?_) ⟨_,QaC _ ho rfl,rfl⟩
 rw[Qax _ _ (Ne.symm nb)]
 exact q
end
section
variable {prog:Program} {w:World} {A:Around} {E:Value->Shared->Prop} {s:Shared}
theorem lE {α : Type} {x:Value} {nm msg:Str} {Q:α->Shared->Prop} (hm:msg.length<=sizeLine) (hh:A.handled=none) (hq:∀h' tk' e o,(∀b u,s.heap.get? b=some u->h'.get? b=some u)->h'.get? e=some o->o.cls=.type "AttributeError"->E (.ref e) { s with heap:=h',toks:=tk' }) :
  wpAny (model prog w) A (raiseAttrError x nm msg:Sem α) Q E s:=by
 unfold raiseAttrError
 refine Qcv (wpAny_mkStr (Qcv ?_) hm)
 unfold newExc newTuple
 refine Qcv (Qbn ?_)
 refine Qcv (m:=firstArgMember _ _) (wpAny_of_eq (a:=Value.none) (by kernel_rfl) ?_)
 refine Qbn ?_
 refine Qcv (wpAny_mkText (Qcv ?_))
 refine mH (QaI _ rfl) rfl rfl λh' k1 ⟨o',k2,k3⟩=>?_
 unfold raiseNew
 refine Qcv (wpAny_handled ?_)
 rw[hh]
 first
  | refine wpAny_throw ?_
  | refine Qcv (Qcw (wpAny_throw ?_))
 exact hq _ _ _ o' (λb u q=>k1 b u (Qcj (by rw[QbT];exact Nat.lt_succ_of_lt (Qch q))) (Qav _ (Qav _ q))) k2 k3
end
section
variable {prog:Program} {w:World} {A:Around} {E:Value->Shared->Prop} {h:Heap} {g:Array GenState} {d:Drawn} {t:Nat} {os:OsState} {a:Addr} {xs:Array Value} {c:Nat}
theorem mL {tk:Tok} {Q:Fin->Shared->Prop} (hh:A.handled=none) (hx:h.get? a=some (seqObj "list" xs c)) (hq:∀h' tk' e o,(∀b u,h.get? b=some u->h'.get? b=some u)->h'.get? e=some o->o.cls=.type "AttributeError"->E (.ref e) ⟨h',g,d,tk',os⟩) :
  wpAny (model prog w) A (Builtin.«object.__getattribute__» ⟨[.ref a,.str "keys" tk],[]⟩) Q E ⟨h,g,d,t,os⟩:=by
 have hT:(⟨h,g,d,t,os⟩ : Shared).TypeIs (.ref a) "list":=⟨_,hx,rfl⟩
 have f4:=XH
 repeat (any_goals (first | assumption | wp_step))
 exact lE (Qcn (Ao (by trivial))) hh λh' tk' e o k1 k2 k3=>hq h' tk' e o k1 k2 k3
theorem tQ {tk:Tok} {R:Result->Shared->Prop} (hh:A.handled=none) (hx:h.get? a=some (seqObj "list" xs c)) (hq:∀h' tk' e o,(∀b u,h.get? b=some u->h'.get? b=some u)->h'.get? e=some o->o.cls=.type "AttributeError"->R (.error (.ref e)) ⟨h',g,d,tk',os⟩) :
  codeAny (model prog w) A (.call (.builtin "list.__getattribute__") ⟨[.ref a,.str "keys" tk],[]⟩) R ⟨h,g,d,t,os⟩:=
 codeAny_call_builtin F.slot_list_getattribute.plain F.entry_list_ga (F.slot_list_getattribute.check _ _ _ _ _ _ _ _ (show (⟨h,g,d,t,os⟩ : Shared).TypeIs (.ref a) "list" from⟨_,hx,rfl⟩) (F.args_list_getattribute_2 _ _) (mL hh hx hq))
theorem A0 {tk:Tok} {Q:Value->Shared->Prop} (hh:A.handled=none) (hx:h.get? a=some (seqObj "list" xs c)) (hq:∀h' tk' e o,(∀b u,h.get? b=some u->h'.get? b=some u)->h'.get? e=some o->o.cls=.type "AttributeError"->E (.ref e) ⟨h',g,d,tk',os⟩):wpAny (model prog w) A (getAttrBy (.ref a) (.str "keys" tk) false) Q E ⟨h,g,d,t,os⟩:=by
 have hT:(⟨h,g,d,t,os⟩ : Shared).TypeIs (.ref a) "list":=⟨_,hx,rfl⟩
 have f2:=F.slot_list_getattribute.lookup
 have f3:=F.slot_list_getattribute.bind (.ref a)
 have f5:=XJ
 repeat (any_goals (first | assumption | wp_step))
 refine tQ hh hx λh' tk' e o k1 k2 k3=>?_
 have hT2:(⟨h',g,d,tk',os⟩ : Shared).TypeIs (.ref e) "AttributeError":=⟨_,k2,k3⟩
 have f6:=Wo
 repeat (any_goals (first | assumption | wp_step))
 all_goals exact hq h' tk' e o k1 k2 k3
theorem tR {Q:Option Value->Shared->Prop} (hh:A.handled=none) (hx:h.get? a=some (seqObj "list" xs c)) (hq:∀h' tk',(∀b u,h.get? b=some u->h'.get? b=some u)->Q none ⟨h',g,d,tk',os⟩):wpAny (model prog w) A (getAttr? (.ref a) "keys") Q E ⟨h,g,d,t,os⟩:=by
 unfold getAttr? getAttrBy?
 refine Qcv (wpAny_mkText (Qcv (Qcg ?_)))
 refine A0 hh hx λh' tk' e o k1 k2 k3=>?_
 have hT2:(⟨h',g,d,tk',os⟩ : Shared).TypeIs (.ref e) "AttributeError":=⟨_,k2,k3⟩
 refine Qcv (wpAny_isInstance hT2 Wo ?_)
 rw[if_pos rfl]
 exact Qcw (hq _ _ k1)
end
theorem Ig:plainId "dict.update.loop"=true:=by trivial
theorem Oh:entryFor table "dict.update.loop"=some Builtin.«dict.update.loop»:=entryFor_of_fast (by kernel_rfl)
section
variable {prog:Program} {w:World} {κ : Type} [DecidableEq κ] {knd:KeyKind prog w κ} {A:Around} {E:Value->Shared->Prop} {s:Shared} {R:Result->Shared->Prop}
end
section
variable {prog:Program} {w:World} {κ : Type} [DecidableEq κ] {knd:KeyKind prog w κ} {A:Around} {E:Value->Shared->Prop} {s:Shared}
end
structure Cd (P:Program) (w:World) (K:PySem.W.Frag) (mg:Str->Option Value) (base:Heap) (C:Addr) (m:Str) (k:Nat) (ps:List Str) (sp:Sp):Prop where
 ex:∃(f:Addr) (fd:FuncData),Meth K C m f/\Binds K fd ps []/\GD P w K mg base (CX1 P w) k f fd ps sp
theorem Dv.Nr {P:Program} {w:World} {K:PySem.W.Frag} {mg:Str->Option Value} {base:Heap} {C:Addr} {m qn:Str} {st:Stmt} {ps N:List Str} {k:Nat} {sp:Sp} (c:Dv K C m qn st ps) (S:Ba N ps (Ag st)) (len:∀vs H Q E,sp vs H Q E->vs.length=ps.length)
  (hbody:∀(X:Cx) (f:Addr) (cdv:Value) (A:Around) (outer:List Env) (s:Shared) (H:Hp) (vs:List V) (Q:VK) (E:XK),X=Lf (CX1 P w) P w K mg base N qn (Ag st) f cdv A outer s H E->Pq X (λ_=>E)->Cu k X.A->sp vs H Q E ->
   ∃t,PSs X (Ax st) t/\t { nx:=λ_ H'=>Q .non H',rt:=Q } (start N vs) H):Cd P w K mg base C m (k+1) ps sp:=by
 obtain⟨f,fd,F,M,b⟩:=c.ex
 refine⟨f,fd,M,b,?_⟩
 obtain⟨oc,od,kV,doc,pm,an,cdv,ct,osl,rfl,lk,hcd⟩:=F.ex
 exact qR lk hcd S len λA outer s H vs Q E hr hsp=>hbody _ f cdv A outer s H vs Q E rfl lR hr hsp
def vd (C:Addr) (m:Str) (sp:Sp) (EX:St->XK) (ta:TE) (t:TA):TE:=fun σ H Q=>ta σ H λx H1=>∃a dx fs,x=.ref a/\H1 a=some (.ins C dx fs)/\fs.lookup m=none/\t σ H1 λvs H2=>sp (x::vs) H2 Q (EX σ)
theorem Dw {X:Cx} {EX:St->XK} {pl:Sem Bool} {k k':Nat} {C:Addr} {ps:List Str} {sp:Sp} {m:Str} {apos pos:Pos} {o e:Expr} {es:List Expr} {ta:TE} {t:TA} (he0:PE X o ta) (c:Cls X.K C) (g:Cd X.prog X.w X.K X.mg X.base C m k ps sp) (hr:Cu k' X.A) (hx:Pq X EX) (ha:PA X (e::es) t) (hk:k<=k':=by decide)
  (hst:starEach (e::es) X.env=(false,eval e X.env)::starEach es X.env:=by rfl) (hpl:(backTo pos (starEach es X.env)).any (·.1)=false:=by rfl)
  (ht:eval (.Call (.Attribute o m apos) (e::es) [] pos) X.env=(do
   let ov <-eval o X.env
   standAt apos.atName
   let (f,first) <-holding [ov] (getMethod ov m pl)
   callWith pos f first (backTo pos (starEach (e::es) X.env)) (backToKw pos (keywordEach [] X.env))):=by rfl) :
  PE X (.Call (.Attribute o m apos) (e::es) [] pos) (vd C m sp EX ta t):=by
 intro pins s σ H Q I h
 obtain⟨f,fd,hm,b,F⟩:=g.ex
 refine methodCall_KW (pl:=pl) (thn (he0 pins s σ H _ I h) λu s1 ⟨x,H1,I1,rx,a,dx,fs,ex,ea,l,q⟩=>?_) ht
 subst ex
 obtain rfl:u=Value.ref a:=rx
 refine Lw I1 ea c hm l ?_
 refine callWith_K (first:=[.ref a]) (h₀:=X.base) I.ok.mod.kin hm.kp (thn (ha pos pins s1 σ H1 _ I1 q) λus s2 ⟨vs,H2,I2,r,q2⟩=>⟨I2.kIn,?_⟩) hst hpl
 have r':Vals (.ref a::vs) (Value.ref a::us):=.cons rfl r
 have hl:(Value.ref a::us).length=ps.length:=by rw[<-r'.length];exact F.len _ _ _ _ q2
 have bd:=b s2 (Value.ref a::us) I2.kIn (by rw[QbF];exact hl)
 rw[QbF] at bd
 refine wpAny_call (Qcp (F.run X.A X.stack s2 H2 ⟨Value.ref a::us,[]⟩ (Value.ref a::us) (.ref a::vs) Q (EX σ) (hr.mono hk) I2.env0 bd r' q2) λrr s' hq=>?_)
 cases rr with
 | error ev=>exact hx pins σ H2 s2 ev s' I2 hq
 | ok fl=>
  cases fl with
  | ret u=>exact I2.after hq
  | next=>exact False.elim hq
  | brk=>exact False.elim hq
  | cont=>exact False.elim hq
open PySem.W (KasT kas_asc kas_desc kas_rev kas_tail3 kas_descPart kas_count kas_place kas_bin kas_sort)
def Ft {α : Type} (lt:Nat->Nat->Bool):KasT α->α
 | .ret a=>a
 | .ask i j k=>Ft lt (k (lt i j))
theorem Jy {α β : Type} {lt:Nat->Nat->Bool} {f:α->KasT β}:∀t:KasT α,Ft lt (t.bind f)=Ft lt (f (Ft lt t))
 | .ret a=>rfl
 | .ask i j k=>Jy (k (lt i j))
theorem RQ {α : Type} {lt:Nat->Nat->Bool} {n:Nat} {P:α->Prop}:∀t:KasT α,GQ n P t->P (Ft lt t)
 | .ret a,h=>h
 | .ask i j k,h=>RQ (k (lt i j)) (h.2.2 _)
theorem Z9 {α : Type} {lt:Nat->Nat->Bool} {n:Nat} {P:α->Prop} {Q:α->Shared->Prop} {s:Shared} {cmp:Nat->Nat->(Bool->Shared->Prop)->Shared->Prop} (hc:∀i j C,i < n->j < n->C (lt i j) s->cmp i j C s):∀t:KasT α,GQ n P t->Q (Ft lt t) s->t.kasWp cmp Q s
 | .ret a,h,q=>q
 | .ask i j k,h,q=>hc i j _ h.1 h.2.1 (Z9 hc (k (lt i j)) (h.2.2 _) q)
section
variable {n:Nat} {ky:Nat->Int}
def Gk (ky:Nat->Int) (p:Array Nat) (i:Nat):Int:=ky (p.getD i 0)
def ltK (ky:Nat->Int) (i j:Nat):Bool:=decide (ky i < ky j)
def Inj (n:Nat) (ky:Nat->Int):Prop:=∀i j,i < n->j < n->ky i=ky j->i=j
def U4 (ky:Nat->Int) (p:Array Nat) (m:Nat):Prop:=∀i,i+1 < m->Gk ky p i < Gk ky p (i+1)
def Fall (ky:Nat->Int) (p:Array Nat) (m:Nat):Prop:=∀i,i+1 < m->Gk ky p (i+1) < Gk ky p i
def KC (ky:Nat->Int) (p:Array Nat) (m:Nat):Prop:=∀i j,i < j->j < m->Gk ky p i < Gk ky p j
theorem U4.all {p:Array Nat} {m:Nat} (h:U4 ky p m):KC ky p m:=λi j hij hj=>by
 induction j with
 | zero=>omega
 | succ j ih=>
  have h1:=h j hj
  by_cases e:i=j
  ·rw[e];exact h1
  ·exact Int.lt_trans (ih (by omega) (by omega)) h1
theorem gW {α : Type} {l:List α} (nd:l.Nodup) {i j:Nat} (hi:i < l.length) (hj:j < l.length) (e:l[i]=l[j]):i=j:=by
 rcases Nat.lt_trichotomy i j with h | h | h
 ·exact absurd e (Qak.mp nd i j hi hj h)
 ·exact h
 ·exact absurd e.symm (Qak.mp nd j i hj hi h)
theorem Pm.size {p:Array Nat} (h:Pm n p):p.size=n:=by
 have:=List.Perm.length_eq h
 simpa using this
theorem Pm.ne (hi:Inj n ky) {p:Array Nat} (h:Pm n p) {i j:Nat} (a:i < n) (b:j < n) (ne:i≠j):Gk ky p i≠Gk ky p j:=λe=>by
 have n0:0 < n:=by omega
 have hs:=h.size
 have e:=hi _ _ (h.lt n0 i) (h.lt n0 j) e
 have nd:p.toList.Nodup:=(List.Perm.nodup_iff h).mpr List.nodup_range
 have e1:p.getD i 0=p.toList[i]'(by simp[hs,a]):=by simp[hs,a]
 have e2:p.getD j 0=p.toList[j]'(by simp[hs,b]):=by simp[hs,b]
 rw[e1,e2] at e
 exact ne (gW nd _ _ e)
theorem Uh (hi:Inj n ky) {p:Array Nat} (h:Pm n p):∀f k,1<=k->k+f<=n->U4 ky p k->∃m,Ft (ltK ky) (kas_asc p f k)=m/\k<=m/\m<=k+f/\U4 ky p m/\(m < k+f->Gk ky p m < Gk ky p (m - 1))
 | 0,k,_,_,r=>⟨k,rfl,Qcq _,Qcq _,r,λz=>absurd z (Qcb _)⟩
 | f+1,k,h1,h2,r=>by
  show ∃m,Ft (ltK ky) (if ltK ky (p.getD k 0) (p.getD (k - 1) 0)=true then KasT.ret k else kas_asc p f (k+1))=m/\_
  by_cases c:Gk ky p k < Gk ky p (k - 1)
  ·rw[if_pos (show ltK ky _ _=true from QbS c)]
   exact⟨k,rfl,Qcq _,by omega,r,λ_=>c⟩
  ·rw[if_neg (show ¬ltK ky _ _=true from λz=>c (Qbj z))]
   obtain⟨m,e,a,b,d,g⟩:=Uh hi h f (k+1) (by omega) (by omega) (λi hi'=>by
    by_cases e:i+1=k
    ·have:=h.ne hi (i:=i) (j:=i+1) (by omega) (by omega) (by omega)
     have c:¬Gk ky p (i+1) < Gk ky p i:=by rw[<-e] at c;exact c
     omega
    ·exact r i (by omega))
   exact⟨m,e,by omega,by omega,d,λz=>g (by omega)⟩
theorem Xa (hi:Inj n ky) {p:Array Nat} (h:Pm n p):∀f k,1<=k->k+f<=n->Fall ky p k->∃m,Ft (ltK ky) (kas_desc f p k 0)=(p,m,0)/\k<=m/\m<=k+f/\Fall ky p m
 | 0,k,_,_,r=>⟨k,rfl,Qcq _,Qcq _,r⟩
 | f+1,k,h1,h2,r=>by
  show ∃m,Ft (ltK ky) (if ltK ky (p.getD k 0) (p.getD (k - 1) 0)=true then (if 0 > 0 then kas_desc f (kas_rev p (k - (0+1)) k) (k+1) 0 else kas_desc f p (k+1) 0) else KasT.ask (p.getD (k - 1) 0) (p.getD k 0) λd=>if d=true then KasT.ret (p,k,0) else kas_desc f p (k+1) (0+1))=(p,m,0)/\_
  by_cases c:Gk ky p k < Gk ky p (k - 1)
  ·rw[if_pos (show ltK ky _ _=true from QbS c),if_neg (Qcb 0)]
   obtain⟨m,e,a,b,d⟩:=Xa hi h f (k+1) (by omega) (by omega) (λi hi'=>by
    by_cases e:i+1=k
    ·rw[<-e] at c;exact c
    ·exact r i (by omega))
   exact⟨m,e,by omega,by omega,d⟩
  ·rw[if_neg (show ¬ltK ky _ _=true from λz=>c (Qbj z))]
   have ne:=h.ne hi (i:=k) (j:=k - 1) (by omega) (by omega) (by omega)
   show ∃m,Ft (ltK ky) (if ltK ky (p.getD (k - 1) 0) (p.getD k 0)=true then KasT.ret (p,k,0) else kas_desc f p (k+1) (0+1))=(p,m,0)/\_
   rw[if_pos (show ltK ky _ _=true from QbS (show Gk ky p (k - 1) < Gk ky p k by omega))]
   exact⟨k,rfl,Qcq _,by omega,r⟩
theorem Wc {p q:Array Nat} {i j:Nat} (e:p[i]?=q[j]?):Gk ky p i=Gk ky q j:=by
 unfold Gk
 rw[Array.getD_eq_getD_getElem?,Array.getD_eq_getD_getElem?,e]
theorem jN {p:Array Nat} {m i:Nat} (hm:m<=p.size) (hi:i < m):Gk ky (kas_rev p 0 m) i=Gk ky p (m - 1 - i):=by
 apply Wc
 unfold kas_rev
 rw[getElem?_mirror_all hm,if_pos ⟨Qcr _,hi⟩]
 congr 1
 omega
theorem jO {p:Array Nat} {k l i:Nat} (hk:k < p.size) (hl:l<=k):Gk ky (bubble p k (k - l)) i=if i=l then Gk ky p k else if l < i/\i<=k then Gk ky p (i - 1) else Gk ky p i:=by
 have e:=getElem?_bubble hk (k - l) (by omega) i
 rw[show k - (k - l)=l by omega] at e
 split at e
 ·rename_i h;rw[if_pos h];exact Wc e
 ·rename_i h
  rw[if_neg h]
  split at e
  ·rename_i h;rw[if_pos h];exact Wc e
  ·rename_i h;rw[if_neg h];exact Wc e
def Done (n:Nat) (ky:Nat->Int) (r:Nat×Array Nat):Prop:=1<=r.1/\r.1<=n/\U4 ky r.2 r.1
theorem kW (hi:Inj n ky) {p:Array Nat} (h:Pm n p) {m:Nat} (h1:1<=m) (h2:m<=n) (f:Fall ky p m):Done n ky (Ft (ltK ky) (kas_tail3 m n p)):=by
 have hs:=h.size
 have r0:U4 ky (kas_rev p 0 m) m:=λi hi'=>by
  rw[jN (by omega) (by omega),jN (by omega) (by omega)]
  have:=f (m - 1 - (i+1)) (by omega)
  rw[show m - 1 - (i+1)+1=m - 1 - i by omega] at this
  exact this
 obtain⟨k,e,a,b,d,_⟩:=Uh hi (h.rev 0 m) (n - m) m h1 (by omega) r0
 unfold kas_tail3
 rw[Jy,e]
 exact⟨by show 1<=k;omega,by show k<=n;omega,d⟩
theorem fX (hi:Inj n ky) {p:Array Nat} (h:Pm n p) (n0:2<=n):Done n ky (Ft (ltK ky) (kas_count n p)):=by
 obtain⟨m,e,a,b,d,g⟩:=Uh hi h (n - 1) 1 (Qcq _) (by omega) (λi hi'=>by omega)
 unfold kas_count
 rw[Jy,e]
 by_cases c1:m=n
 ·rw[if_pos (by rw[c1];exact beq_self_eq_true n)]
  exact⟨a,by show m<=n;omega,d⟩
 ·rw[if_neg (λz=>c1 (eq_of_beq z))]
  by_cases c2:m > 1
  ·rw[if_pos c2]
   show Done n ky (Ft (ltK ky) (if ltK ky (p.getD 0 0) (p.getD (m - 1) 0)=true then KasT.ret (m,p) else kas_descPart m n (kas_rev p 0 m)))
   rw[if_pos (show ltK ky _ _=true from QbS (d.all 0 (m - 1) (by omega) (by omega)))]
   exact⟨a,by show m<=n;omega,d⟩
  ·rw[if_neg c2]
   have m1:m=1:=by omega
   subst m1
   have g:=g (by omega)
   obtain⟨k,e,a,b,d⟩:=Xa hi h (n - (1+1)) (1+1) (by omega) (by omega) (λi hi'=>by
    have:i=0:=by omega
    subst this
    exact g)
   unfold kas_descPart
   rw[Jy,e]
   show Done n ky (Ft (ltK ky) (if 0 > 0 then _ else kas_tail3 k n p))
   rw[if_neg (Qcb 0)]
   exact kW hi h (by omega) (by omega) d
theorem Qc (hi:Inj n ky) {p:Array Nat} (h:Pm n p) {k:Nat} (hk:k < n) (R:KC ky p k):∀f l r,r<=l+f->l<=r->r<=k->(∀i,i < l->Gk ky p i < Gk ky p k)->(∀i,r<=i->i < k->Gk ky p k < Gk ky p i)->∃m,Ft (ltK ky) (kas_place p k f l r)=m/\m<=k/\(∀i,i < m->Gk ky p i < Gk ky p k)/\∀i,m<=i->i < k->Gk ky p k < Gk ky p i
 | 0,l,r,h1,h2,h3,h4,h5=>⟨l,rfl,by omega,h4,λi a b=>h5 i (by omega) b⟩
 | f+1,l,r,h1,h2,h3,h4,h5=>by
  unfold kas_place
  by_cases c:l ≥ r
  ·rw[if_pos c]
   exact⟨l,rfl,by omega,h4,λi a b=>h5 i (by omega) b⟩
  ·rw[if_neg c]
   show ∃m,Ft (ltK ky) (if ltK ky (p.getD k 0) (p.getD ((l+r) / 2) 0)=true then kas_place p k f l ((l+r) / 2) else kas_place p k f ((l+r) / 2+1) r)=m/\_
   have hm:(l+r) / 2 < r/\l<=(l+r) / 2:=by omega
   generalize (l+r) / 2=q at hm ⊢
   by_cases d:Gk ky p k < Gk ky p q
   ·rw[if_pos (show ltK ky _ _=true from QbS d)]
    refine Qc hi h hk R f l q (by omega) (by omega) (by omega) h4 λi a b=>?_
    by_cases e:i=q
    ·rw[e];exact d
    ·exact Int.lt_trans d (R q i (by omega) b)
   ·rw[if_neg (show ¬ltK ky _ _=true from λz=>d (Qbj z))]
    refine Qc hi h hk R f (q+1) r (by omega) (by omega) (by omega) (λi a=>?_) h5
    have ne:=h.ne hi (i:=q) (j:=k) (by omega) (by omega) (by omega)
    have lt:Gk ky p q < Gk ky p k:=by omega
    by_cases e:i=q
    ·rw[e];exact lt
    ·exact Int.lt_trans (R i q (by omega) (by omega)) lt
theorem ZV (hi:Inj n ky):∀f (p:Array Nat),Pm n p->∀k,k+f=n->KC ky p k->KC ky (Ft (ltK ky) (kas_bin f p k)) n
 | 0,p,h,k,e,R=>by rw[<-e];exact R
 | f+1,p,h,k,e,R=>by
  have hs:=h.size
  show KC ky (Ft (ltK ky) ((kas_place p k k 0 k).bind λl=>kas_bin f (bubble p k (k - l)) (k+1))) n
  rw[Jy]
  obtain⟨l,el,a,b,c⟩:=Qc hi h (k:=k) (by omega) R k 0 k (by omega) (Qcr _) (Qcq _) (λi z=>absurd z (QbO _)) (λi x y=>by omega)
  rw[el]
  refine ZV hi f _ (h.bub _ _) (k+1) (by omega) λi j hij hj=>?_
  rw[jO (by omega) a,jO (by omega) a]
  by_cases ei:i=l
  ·rw[if_pos ei,if_neg (by omega),if_pos ⟨by omega,by omega⟩]
   exact c _ (by omega) (by omega)
  ·rw[if_neg ei]
   by_cases ej:j=l
   ·rw[if_neg (by omega),if_pos ej]
    exact b _ (by omega)
   ·rw[if_neg ej]
    by_cases gi:l < i
    ·rw[if_pos ⟨gi,by omega⟩,if_pos ⟨by omega,by omega⟩]
     exact R _ _ (by omega) (by omega)
    ·rw[if_neg (λz=>gi z.1)]
     by_cases gj:l < j
     ·rw[if_pos ⟨gj,by omega⟩]
      exact R _ _ (by omega) (by omega)
     ·rw[if_neg (λz=>gj z.1)]
      exact R _ _ (by omega) (by omega)
theorem kY (hi:Inj n ky) (n0:2<=n):KC ky (Ft (ltK ky) (kas_sort n)) n:=by
 have h0:Pm n (List.toArray (List.range n)):=by unfold Pm;exact List.Perm.refl _
 obtain⟨a,b,c⟩:=fX hi h0 n0
 have hp:=RQ (lt:=ltK ky) _ (Vv (by omega) h0 n)
 unfold kas_sort
 rw[Jy]
 generalize Ft (ltK ky) (kas_count n (List.toArray (List.range n)))=r at a b c hp
 show KC ky (Ft (ltK ky) (if r.1 < n then kas_bin (n - max r.1 1) r.2 (max r.1 1) else KasT.ret r.2)) n
 have em:max r.1 1=r.1:=by omega
 by_cases d:r.1 < n
 ·rw[if_pos d,em]
  exact ZV hi _ _ hp _ (by omega) c.all
 ·rw[if_neg d]
  have:r.1=n:=by omega
  rw[<-this]
  exact c.all
theorem KC.list {p:Array Nat} (h:Pm n p) (R:KC ky p n):(p.toList.map ky).Pairwise (· < ·):=by
 have hs:=h.size
 rw[Qak]
 intro i j hi hj hij
 have hi':i < n:=by simpa [hs] using hi
 have hj':j < n:=by simpa [hs] using hj
 have:=R i j hij hj'
 unfold Gk at this
 have e1:p.getD i 0=p[i]'(by omega):=by simp[hs,hi']
 have e2:p.getD j 0=p[j]'(by omega):=by simp[hs,hj']
 rw[e1,e2] at this
 simpa using this
end
theorem YM {α β : Type} (d:α) (e:β) {F:α->β->Prop}:∀{l:List α} {m:List β} {i:Nat},Paired F l m->i < l.length->F (l.getD i d) (m.getD i e):=by
 intro l m i r
 induction r generalizing i with
 | nil=>intro h;exact absurd h (QbO _)
 | cons a t ih=>
  intro h
  cases i with
  | zero=>exact a
  | succ i=>exact ih (Nat.lt_of_succ_lt_succ h)
section
variable {prog:Program} {w:World} {A:Around} {s:Shared}
theorem wQ {fin:Bool} {C:Bool->Shared->Prop} (hC:C fin s):∀(l:List Value),(∀y∈l,∃a t,y=Value.int a t)->∀i,PySem.W.KatLex prog w A true fin C (l.zip l) i s
 | [],_,_=>hC
 | y::r,h,i=>by
  obtain⟨a,t,rfl⟩:=h y (QaR ..)
  rw[List.zip_cons_cons]
  refine kat_cons (wpAny_eqBool_int ?_)
  rw[show (a == a)=true from beq_self_eq_true a]
  exact PySem.W.kat_yes (wQ hC r (λy hy=>h y (QaE _ hy)) (i+1))
end
end L2
namespace PySem
open Sem (wp)
open AutoSeq1 (wpAny_loadPart')
section
variable {prog:Program} {w:World} {A:Around} {E:Value->Shared->Prop} {s:Shared}
theorem UL {e it l:Addr} {i:Nat} {j:Int} {items:Array Value} {old:Value} {Q:Option Value->Shared->Prop} (hh:A.handled=none) (he:IsEnum s.heap e it j old) (hit:s.heap.IsListIter it l i) (hl:s.heap.IsList l items) (hx:items[i]?=none)
  (hQ:∀h',Heap.ExtBut it s.heap h'->Q none { s with heap:=h' }):wpAny (model prog w) A (pyNext (.ref e)) Q E s:=by
 have hT:s.TypeIs (.ref e) "enumerate":=⟨_,he,rfl⟩
 unfold pyNext
 refine Qcv (Qcg (Qar (name:=Str.ofString "__next__") hT F.slot_enumerate_next (Qbv F.slot_enumerate_next hT F.entry_enumerate_next ?_ (F.args_enumerate_next_1 _))))
 show wpAny _ _ (field (.ref e) 2 >>= _) _ _ _
 refine Qcv (Qct he rfl (x:=.ref it) rfl (Qcv (wpAny_nextOf_list_end hh hit hl hx λh' x he' hx'=>?_)))
 obtain⟨o,ho,hc⟩:=hx'
 exact Qcv (wpAny_isInstance (T:="StopIteration") (b:=true) ⟨o,ho,hc⟩ isSubtype_stop (Qcw (hQ _ he')))
end
end PySem
namespace L2
open PySem PySem.Spec PyProof.Rows
def Qw (K:PySem.W.Frag) (a:Addr) (lo:Nat):It:=
 ⟨λi H=>∃xs x,SqL K H a xs/\xs[i]?=some x,λi H v H'=>∃p x,H p=none/\v=.ref p/\H'=upd H p (.tup [.int ((lo+i:Nat):Int),x])/\∀xs,SqL K H a xs->xs[i]?=some x,λi H=>∃xs,SqL K H a xs/\xs.length<=i⟩
theorem aV {P:Program} {w:World} {K:PySem.W.Frag} {elts:List Expr} {k:Nat} {pos:Pos} (a e it:Addr) (lo:Nat) (nei:e≠it):Turn P w K (.Tuple elts k pos) (Qw K a lo) [e,it] e (λi h=>(∃old,IsEnum h e it ((lo+i:Nat):Int) old)/\h.IsListIter it a i) where
 mem:=by simp
 obj:=λi h st b hb=>by
  obtain⟨⟨old,he⟩,o,ho,hc,hd⟩:=st
  rcases QbY.mp hb with rfl | hb
  ·exact⟨_,he,λv z=>by cases (show Data.fields _=Data.cell v from z)⟩
  ·have:b=it:=by simpa using hb
   subst this
   exact⟨o,ho,λv z=>by rw[hd] at z;cases z⟩
 keep:=λi h h' st k=>by
  obtain⟨⟨old,he⟩,hi⟩:=st
  exact⟨⟨old,k e (by simp) _ he⟩,hi.at λo q=>k it (by simp) o q⟩
 item:=by
  intro X hP hw hK hc i pins s σ H E I hf st hg
  subst hP hw hK
  obtain⟨xs,x,hq,hx⟩:=hg
  obtain⟨its,rv,p,hz⟩:=I.list hq
  obtain⟨u,hu,ru⟩:=rv.get hx
  obtain⟨⟨old,he⟩,hit⟩:=st
  have hts:s.heap.IsList a its.toArray:=p.isList
  have ane:a≠e:=λz=>by
   obtain⟨o,ho,hcl,_⟩:=hts
   rw[z,he] at ho
   cases ho
   injection hcl with q
   exact absurd q (by decide)
  have ani:a≠it:=λz=>by
   obtain⟨o,ho,hcl,_⟩:=hts
   obtain⟨o',ho',hcl',_⟩:=hit
   rw[z,ho'] at ho
   cases ho
   rw[hcl'] at hcl
   injection hcl with q
   exact absurd q (by decide)
  have hlt:i < its.toArray.size:=by
   have:=(Qah.mp hu).1
   simpa using this
  have D:=(Draws.list (prog:=X.prog) (w:=X.w) (A:=X.A.in1) (I.ok.hd hc) it a ani its.toArray).from lo
  refine wpAny_pyNext_enum_itemD D he ⟨i,rfl,Qcn hlt,hit,hts⟩ (by omega) nei (by simp[nei,ane.symm]) λy h1 tk hP ho hst hT hsz hk=>?_
  obtain⟨i',ei,hy⟩:=hP
  have:i'=i:=by omega
  subst this
  have ey:y=u:=by
   have h2:its.toArray[i']?=some u:=by simpa using hu
   rw[h2] at hy
   exact (QbH hy).symm
  subst ey
  refine⟨_,rfl,wpAny_letOwnedTupleGo_enum ho λh2 he2 hs2=>?_⟩
  have hlt2:s.heap.objs.size≠e:=Qcm (Qch he)
  have hT2:h2.get? s.heap.objs.size=some { cls:=.type "tuple",data:=.seq #[.int ((lo+i':Nat):Int) tk,y] }:=(hs2.2 _ hlt2).trans hT
  have new:Bp X.prog X.w (upd H s.heap.objs.size (.tup [.int ((lo+i':Nat):Int),x])) h2 s.heap.objs.size (.tup [.int ((lo+i':Nat):Int),x]):=
   ⟨by show 2<=sizeLine;decide,[.int ((lo+i':Nat):Int) tk,y],.cons ⟨tk,rfl⟩ (.cons ru .nil),_,hT2,rfl,0,rfl⟩
  have I1:=I.Ni (h':=h2) (t':=tk+1) (Qcq _) (λb q hb z=>(hs2.2 b (λw=>hb (by simp[w]))).trans (hk b q (λw=>hb (by simp[w])) (λw=>hb (by simp[w])) z)) hf new
  refine⟨.ref s.heap.objs.size,_,I1,rfl,⟨s.heap.objs.size,x,I.hok.fresh (Qcq _),rfl,rfl,λys hy'=>by rw[I.XM hy' hq];exact hx⟩,⟨⟨y,?_⟩,?_⟩,λb hb=>?_⟩
  ·have:=he2
   rw[show ((lo+(i'+1):Nat):Int)=((lo+i':Nat):Int)+1 by omega]
   exact this
  ·obtain⟨i2,e2,_,st2,_⟩:=hst
   have:i2=i'+1:=by omega
   subst this
   exact st2.at λo q=>(hs2.2 it (Ne.symm nei)).trans q
  ·have hb':b < s.heap.objs.size:=by
    rcases QbY.mp hb with rfl | hb
    ·exact Qch he
    ·have:b=it:=by simpa using hb
     subst this
     obtain⟨o,ho',_⟩:=hit
     exact Qch ho'
   rw[Al (Qcj hb')]
   exact (hf b hb).1
 done:=by
  intro X hP hw hK hc i pins s σ H E I hf st hg
  subst hP hw hK
  obtain⟨xs,hq,hx⟩:=hg
  obtain⟨its,rv,p,hz⟩:=I.list hq
  obtain⟨⟨old,he⟩,hit⟩:=st
  have hl:=rv.length
  exact UL (I.ok.hd hc) he hit p.isList (by simp;omega) λh' eb=>⟨rfl,I.QD (t':=s.toks) (λb o hb q=>eb b o (λz=>hb (by simp[z])) q) hf⟩
 self:=λ_ _ _ _ _ st h=>let ⟨⟨_,he⟩,_⟩:=st;wpAny_pyIter_enum he h
section
variable {X:Cx}
theorem pO {pins:List (Addr×Obj)} {σ : St} {H:Hp} {s:Shared} {R:It->Hp->Prop} {E:Value->Shared->Prop} {elts:List Expr} {k:Nat} {pos:Pos} {a:Addr} {lo:Nat} {tk:Nat} (I:Inv X pins σ H s) (q:R (Qw X.K a lo) H) :
  wpAny (model X.prog X.w) X.A (pyIter (.ref (s.heap.objs.size+1))) (PIE X pins σ (.Tuple elts k pos) R) E
   { s with heap:=(s.heap.push { cls:=.type "list_iterator",data:=.fields #[.ref a,.int 0 0] }).push { cls:=.type "enumerate",data:=.fields #[.none,.bool false,.ref s.heap.objs.size,rawInt (lo:Int),.none,.none] },toks:=tk }:=by
 have hz:(s.heap.push { cls:=.type "list_iterator",data:=.fields #[.ref a,.int 0 0] }).objs.size=s.heap.objs.size+1:=QbT ..
 have he:IsEnum ((s.heap.push { cls:=.type "list_iterator",data:=.fields #[.ref a,.int 0 0] }).push { cls:=.type "enumerate",data:=.fields #[.none,.bool false,.ref s.heap.objs.size,rawInt (lo:Int),.none,.none] }) (s.heap.objs.size+1) s.heap.objs.size (lo:Int) .none:=by
  have:=QaI (s.heap.push { cls:=.type "list_iterator",data:=.fields #[.ref a,.int 0 0] }) (o:={ cls:=.type "enumerate",data:=.fields #[.none,.bool false,.ref s.heap.objs.size,rawInt (lo:Int),.none,.none] }) rfl
  rw[hz] at this
  exact this
 refine wpAny_pyIter_enum he ⟨s.heap.objs.size+1,[s.heap.objs.size+1,s.heap.objs.size],_,_,H,rfl,I.kept (t':=tk) λb o e=>Qav _ (Qav _ e),aV a (s.heap.objs.size+1) s.heap.objs.size lo (Nat.succ_ne_self _),⟨⟨.none,he⟩,⟨_,Qav _ (QaI _ rfl),rfl,rfl⟩⟩,λb hb=>?_,q⟩
 have hb':s.heap.objs.size<=b:=by
  simp only[QbY,Qbu,Qcz] at hb
  rcases hb with rfl | rfl
  ·exact Nat.le_succ _
  ·exact Qcq _
 exact I.Qp hb' (I.hok.fresh hb')
end
section
variable {X:Cx}
def xg (K:PySem.W.Frag) (lo:Nat) (tl:TE):TI:=fun σ H R=>tl σ H λx H1=>∃a,x=.ref a/\(∃xs,SqL K H1 a xs)/\R (Qw K a lo) H1
theorem Ze {pins:List (Addr×Obj)} {σ : St} {H:Hp} {s:Shared} {R:It->Hp->Prop} {elts:List Expr} {k:Nat} {pos:Pos} {a:Addr} {xs:List V} (I:Inv X pins σ H s) (hq:SqL X.K H a xs) (q:R (Qw X.K a 0) H) :
  wpAny (model X.prog X.w) X.A (call (.type "enumerate") [.ref a]) (λv s1=>wpAny (model X.prog X.w) X.A (pyIter v) (PIE X pins σ (.Tuple elts k pos) R) X.xe s1) X.xe s:=by
 obtain⟨its,rv,p,hz⟩:=I.list hq
 obtain⟨⟨c,dct,dt,sl⟩,hl,hc,n,hd⟩:=p.isList
 replace hc:c=.type "list":=hc
 replace hd:dt=.seq its.toArray n:=hd
 subst hc hd
 refine callType_new F.called_enumerate (by decide) (F.typeCall_enumerate_1 _) (F.newCall_enumerate_1 _) (λobj=>F.args_object_init_2 obj _) F.entry_enumerate_new (meets_enumerate_newL a its.toArray n dct sl) ⟨hl,?_⟩
 have hz:(s.heap.push { cls:=.type "list_iterator",data:=.fields #[.ref a,.int 0 0] }).objs.size=s.heap.objs.size+1:=QbT ..
 show _/\_
 refine⟨⟨_,QaI _ rfl,rfl⟩,?_⟩
 rw[hz]
 exact pO (lo:=0) (tk:=s.toks) I q
end
section
variable {X:Cx}
theorem gA {x:Expr} {tx:TE} {p pos tp:Pos} {elts:List Expr} {k:Nat} (hg:Gl X "enumerate") (hm:X.mg "enumerate"=none) (hl:PE X x tx) (hs:starEach [x] X.env=[(false,eval x X.env)]:=by rfl):PI X (.Tuple elts k tp) (.Call (.Name "enumerate" p) [x] [] pos) (xg X.K 0 tx):=by
 intro pins s σ H R I h
 refine Call_ (K8 I hg hm boot_enumerate (Qae (thn ((Aa hl Ab (by rw[hs];rfl)) pos pins s σ H (λvs H1=>match vs with | [v]=>∃a,v=.ref a/\(∃xs,SqL X.K H1 a xs)/\R (Qw X.K a 0) H1 | _=>False) I h) λus s1 ⟨vs,H1,I1,r1,q1⟩=>?_) hs rfl))
 cases r1 with
 | nil=>exact False.elim q1
 | cons r rr=>
  cases rr with
  | nil=>
   obtain⟨a,e,⟨xs,hq⟩,q⟩:=q1
   subst e
   cases r
   exact Ze I1 hq q
  | cons _ _=>exact False.elim q1
theorem jj {K:PySem.W.Frag} {a:Addr} {lo:Nat} {xs:List V} {g:TG} {tb:TS} {D:Ends} {σ : St} {H:Hp} (Pv:Nat->St->Hp->Prop) (h0:Pv 0 σ H) (hl:∀i σ H',i<=xs.length->Pv i σ H'->SqL K H' a xs)
  (hs:∀i x p σ H',xs[i]?=some x->Pv i σ H'->H' p=none->g (.ref p) σ (upd H' p (.tup [.int ((lo+i:Nat):Int),x])) fun σ2 H2=>tb { D with nx:=Pv (i+1),ct:=Pv (i+1),bk:=D.nx } σ2 H2) (hd:∀ σ H',Pv xs.length σ H'->D.nx σ H') :
  ∃W:Nat->Nat->St->Hp->Prop,(∃m,W 0 m σ H)/\∀i m σ H,W i m σ H ->
   ((Qw K a lo).stop i H/\D.nx σ H)\/((Qw K a lo).go i H/\∃N:St->Hp->Prop,(∀ σ' H',N σ' H'->∃m',m' < m/\W (i+1) m' σ' H')/\∀x H',(Qw K a lo).yld i H x H'->g x σ H' fun σ2 H2=>tb { D with nx:=N,ct:=N,bk:=D.nx } σ2 H2):=by
 refine⟨λi m σ H=>m=xs.length - i/\i<=xs.length/\Pv i σ H,⟨xs.length,by simp,Qcr _,h0⟩,?_⟩
 rintro i m σ H ⟨rfl,hi,p⟩
 have q:=hl i σ H hi p
 by_cases hlt:i < xs.length
 ·refine .inr ⟨⟨xs,xs[i],q,by simp[hlt]⟩,Pv (i+1),fun σ3 H3 p'=>⟨xs.length - (i+1),by omega,rfl,hlt,p'⟩,λv H2 y=>?_⟩
  obtain⟨pa,x,hn,rfl,rfl,hx⟩:=y
  exact hs i x pa σ _ (hx xs q) p hn
 ·have e:i=xs.length:=by omega
  subst e
  exact .inl ⟨⟨xs,q,Qcq _⟩,hd σ H p⟩
end
theorem lF {X:Cx} {N':List Str} {src:List (Option Nat)} {sc:Scope} {kx vx tg iter:Expr} {ifs:List Expr} {pos spos px:Pos} {wi:TI} {g:TG} {tt:TT} {tk tv:TE} {i:Nat} {x:Str} (hN:X.N.Nodup) (hi0:X.N[i]?=some x) (hx:Loc X.env.scope x) (hc:X.calm=true) (S:Bm X N' src sc)
  (hi:PI X tg iter wi) (hg:∀s3 H3 fp pn,PG (cxC X N' sc s3 H3 fp pn) tg g) (ht:∀s3 H3 fp pn,PF (cxC X N' sc s3 H3 fp pn) ifs tt) (hk:∀s3 H3 fp pn,PE (cxC X N' sc s3 H3 fp pn) kx tk) (hv:∀s3 H3 fp pn,PE (cxC X N' sc s3 H3 fp pn) vx tv)
  (hsw:swapsWith (.DictComp kx vx [⟨tg,iter,ifs,0⟩] sc pos) (some (.Name x px)) spos.line X.env=pure true:=by rfl) (hs:∀x,foldedSetIterable iter X.env x=pure x:=by intro _;rfl)
  (hf:X.fn x=true\/X.env.scope.names.lookup x=some .local:=by first | exact .inl rfl | exact .inr rfl | assumption) :
  PS X (.Assign [.Name x px] (.DictComp kx vx [⟨tg,iter,ifs,0⟩] sc pos) spos) (bA (Wm wi src g tt tk tv) (Ii i)):=by
 intro pins s σ H D I h
 rw[exec_Assign_Name_used _ _ _ _ hsw]
 refine Qcv (Qce (Qcv ?_))
 show wpAny _ X.A (do let _ <-comprehension (.DictComp kx vx [⟨tg,iter,ifs,0⟩] sc pos) sc X.env _ newDict false (eval iter X.env) (some (assign (.Name x px) X.env))) _ _ s
 refine Qcv (thn (TJ (R:=λ_ s'=>SP X pins D .next s') hc S hi hg ht hk hv hs I h λs3 H3 fp σ4 H4 s5 l I3 f3 J5 q=>?_) λ_ s' hq=>Qcw (Qcw hq))
 obtain⟨m,⟨oC,es,ep,hoC,r⟩,_⟩:=J5.loc
 have I6:Inv X pins σ H4 { s5 with heap:=s5.heap }:=Qs I3 f3 J5 (Heap.SameBut.refl _ _)
 have hCn:H4 s3.heap.objs.size=none:=J5.free
 have neL:s3.heap.objs.size≠X.env.locals:=Qcm I3.lt
 have mQ:∀v,oC.data≠.cell v:=λv z=>by rw[r.1] at z;cases z
 have I7:Inv X (pins++[(s3.heap.objs.size,oC)]) σ H4 s5:=I6.QT λp hp=>(QbD.mp hp).elim (λz=>I6.pin p (QaA _ z)) λz=>by
  cases QaX.mp z
  exact⟨hoC,hCn,neL,I3.mJ (Qcq _),mQ⟩
 show wpAny _ X.A (assign (.Name x px) X.env (.ref l)) _ _ s5
 refine wpAny_assign_Name (Ml (v:=.ref l) I7 hN hi0 hx rfl (λs6 I8=>?_) hf)
 have k8:=(I8.pin (s3.heap.objs.size,oC) (QaA _ (QaA _ (QaX.mpr rfl)))).1
 refine⟨m,⟨oC,es,ep,k8,r⟩,λh' sb=>⟨_,H4,?_,q⟩⟩
 have I9:=I8.Ht
 refine I9.turned (t':=s6.toks) (λb o hb e=>sb.extBut b o hb e) hCn neL (.inr I3.sz) (λy c e z=>?_) (λp hp z=>?_)
 ·obtain⟨v,o,ho,_⟩:=I3.cell y c e
  exact absurd (Qch ho) (by rw[z];exact Qcb _)
 ·have:=(I3.pin p hp).1
  exact absurd (Qch this) (by rw[z];exact Qcb _)
end L2
namespace L2
open PySem
theorem N7 {x:Str} {p:Pos} {es:List Expr} {env:Env}:starEach (.Name x p::es) env=(false,eval (.Name x p) env)::starEach es env:=by rfl
theorem vG {as:List Expr} {p:Pos} {es:List Expr} {env:Env}:starEach (.List as p::es) env=(false,eval (.List as p) env)::starEach es env:=by rfl
theorem vB {a b:Expr} {p:Pos} {es:List Expr} {env:Env}:starEach (.Subscript a b p::es) env=(false,eval (.Subscript a b p) env)::starEach es env:=by rfl
end L2
namespace L2
open PySem PySem.Spec PyProof.Rows
def dW (K:PySem.W.Frag) (a b:Addr):It:=
  ⟨λi H=>∃xs ys x y,H a=some (.tup xs)/\H b=some (.tup ys)/\xs[i]?=some x/\ys[i]?=some y,
   λi H v H'=>∃p x y,H p=none/\v=.ref p/\H'=upd H p (.tup [x,y])/\(∀xs,H a=some (.tup xs)->xs[i]?=some x)/\∀ys,H b=some (.tup ys)->ys[i]?=some y,
   λi H=>∃xs ys,H a=some (.tup xs)/\H b=some (.tup ys)/\(xs.length<=i\/ys.length<=i)⟩
theorem aP {P:Program} {w:World} {K:PySem.W.Frag} {elts:List Expr} {k:Nat} {pos:Pos} (a b z TI TO i1 i2:Addr) (nd:[z,TI,TO,i1,i2].Nodup) :
  Turn P w K (.Tuple elts k pos) (dW K a b) [z,TI,TO,i1,i2] z (λi h=>(∃f1,ZZ.IsZ h z TI TO .none f1)/\ZZ.Dm h TI [.ref i1,.ref i2]/\(∃olds:List Value,ZZ.Dm h TO olds/\olds.length=2)/\h.IsTupleIter i1 a i/\h.IsTupleIter i2 b i) where
 mem:=by simp
 obj:=λi h st c hc=>by
  obtain⟨⟨f1,hz⟩,hTI,⟨olds,hTO,_⟩,⟨o1,e1,_,d1⟩,o2,e2,_,d2⟩:=st
  simp only[QbY,Qbu,Qcz] at hc
  rcases hc with rfl | rfl | rfl | rfl | rfl
  ·exact⟨_,hz,λv q=>by cases (show Data.fields _=Data.cell v from q)⟩
  ·exact⟨_,hTI,λv q=>by cases (show Data.seq _ _=Data.cell v from q)⟩
  ·exact⟨_,hTO,λv q=>by cases (show Data.seq _ _=Data.cell v from q)⟩
  ·exact⟨o1,e1,λv q=>by rw[d1] at q;cases q⟩
  ·exact⟨o2,e2,λv q=>by rw[d2] at q;cases q⟩
 keep:=λi h h' st k=>by
  obtain⟨⟨f1,hz⟩,hTI,⟨olds,hTO,l⟩,h1,h2⟩:=st
  exact⟨⟨f1,k z (by simp) _ hz⟩,k TI (by simp) _ hTI,⟨olds,k TO (by simp) _ hTO,l⟩,h1.at λo e=>k i1 (by simp) o e,h2.at λo e=>k i2 (by simp) o e⟩
 item:=by
  intro X hP hw hK hc i pins s σ H E I hf st hg
  subst hP hw hK
  obtain⟨xs,ys,x,y,hq1,hq2,hx,hy⟩:=hg
  obtain⟨us,ru,p1,z1⟩:=I.tuple (SqT.of hq1)
  obtain⟨ws,rw',p2,z2⟩:=I.tuple (SqT.of hq2)
  obtain⟨u,hu,ru'⟩:=ru.get hx
  obtain⟨v,hv,rv'⟩:=rw'.get hy
  obtain⟨⟨f1,hz⟩,hTI,⟨olds,hTO,lo⟩,hi1,hi2⟩:=st
  simp only[QbJ,QbY,Qbu,Qcz,not_or,QbV,not_false_eq_true,and_true] at nd
  obtain⟨⟨n1,n2,n3,n4⟩,⟨n5,n6,n7⟩,⟨n8,n9⟩,n10⟩:=nd
  have D:ZZ.Apart z TI TO [⟨i1,a,us.toArray⟩,⟨i2,b,ws.toArray⟩]:=by
   obtain⟨oa,ea,ca,_⟩:=id p1
   obtain⟨ob,eb,cb,_⟩:=id p2
   obtain⟨o1,e1,c1,_⟩:=id hi1
   obtain⟨o2,e2,c2,_⟩:=id hi2
   have aTO:a≠TO:=λq=>by
    have:=(hf TO (by simp)).1
    rw[<-q,hq1] at this
    cases this
   have bTO:b≠TO:=λq=>by
    have:=(hf TO (by simp)).1
    rw[<-q,hq2] at this
    cases this
   have t1:Value.type "tuple"≠Value.type "zip":=λq=>absurd (by injection q) (show ¬("tuple"="zip") by decide)
   have t2:Value.type "tuple"≠Value.type "tuple_iterator":=λq=>absurd (by injection q) (show ¬("tuple"="tuple_iterator") by decide)
   refine⟨Ne.symm n1,Ne.symm n2,n5,λq hq=>?_,λq hq=>?_,λq hq r hr=>?_,?_⟩
   ·simp only[QbY,Qbu,Qcz] at hq
    rcases hq with rfl | rfl
    ·exact⟨Ne.symm n3,Ne.symm n6,Ne.symm n8⟩
    ·exact⟨Ne.symm n4,Ne.symm n7,Ne.symm n9⟩
   ·simp only[QbY,Qbu,Qcz] at hq
    rcases hq with rfl | rfl
    ·exact⟨GZ ea hz (by rw[ca];exact t1),aTO⟩
    ·exact⟨GZ eb hz (by rw[cb];exact t1),bTO⟩
   ·simp only[QbY,Qbu,Qcz] at hq hr
    rcases hq with rfl | rfl <;> rcases hr with rfl | rfl
    ·exact GZ ea e1 (by rw[ca,c1];exact t2)
    ·exact GZ ea e2 (by rw[ca,c2];exact t2)
    ·exact GZ eb e1 (by rw[cb,c1];exact t2)
    ·exact GZ eb e2 (by rw[cb,c2];exact t2)
   ·simp[n10]
  have hat:∀q∈([⟨i1,a,us.toArray⟩,⟨i2,b,ws.toArray⟩]:List ZZ.Src),ZZ.SrcAt s.heap q i:=λq hq=>by
   simp only[QbY,Qbu,Qcz] at hq
   rcases hq with rfl | rfl
   ·exact .inr ⟨hi1,p1⟩
   ·exact .inr ⟨hi2,p2⟩
  refine ZZ.bN hz (Qi:=λr s'=>∃h',r=.ref s.heap.objs.size/\s'={ s with heap:=h' }/\ZZ.IsZ h' z TI TO (rawInt s.heap.objs.size) (.bool false)/\ZZ.Dm h' TI [.ref i1,.ref i2]/\ZZ.Dm h' TO [u,v]/\(∀q∈([⟨i1,a,us.toArray⟩,⟨i2,b,ws.toArray⟩]:List ZZ.Src),ZZ.SrcAt h' q (i+1))/\ZZ.Dm h' s.heap.objs.size [u,v]/\ZZ.Rest z TO [⟨i1,a,us.toArray⟩,⟨i2,b,ws.toArray⟩] s.heap h')
   (ZZ.Vx (xs:=[u,v]) D hz hTI hTO hat (by simp) rfl lo (λj q hj=>?_) (by show 2<=100;decide) λh' a1 a2 a3 a4 a5 a6 a7=>⟨h',rfl,rfl,a1,a2,a3,a4,a5,a7⟩) λr s' hQ=>?_
  ·match j,hj with
   | 0,hj=>cases hj;exact⟨u,rfl,by simpa using hu⟩
   | 1,hj=>cases hj;exact⟨v,rfl,by simpa using hv⟩
  obtain⟨h',rfl,rfl,a1,a2,a3,a4,a5,a7⟩:=hQ
  refine⟨_,rfl,ZZ.iB (s:={ s with heap:=h' }) a1 λh2 hz2 sb=>?_⟩
  have hlt2:s.heap.objs.size≠z:=Qcm (Qch hz)
  have hT2:ZZ.Dm h2 s.heap.objs.size [u,v]:=(sb.2 _ hlt2).trans a5
  have new:Bp X.prog X.w (upd H s.heap.objs.size (.tup [x,y])) h2 s.heap.objs.size (.tup [x,y]):=
   ⟨by show 2<=sizeLine;decide,[u,v],.cons ru' (.cons rv' .nil),_,hT2,rfl,0,rfl⟩
  have I1:=I.Ni (h':=h2) (t':=s.toks) (Qcq _) (λc q hc e=>(sb.2 c (λw=>hc (by simp[w]))).trans (a7 c q (λw=>hc (by simp[w])) (λw=>hc (by simp[w])) (λw=>hc (by simp only[QbZ,List.map_nil,QbY,Qbu,Qcz] at w;rcases w with w | w <;> simp[w])) e)) hf new
  have qZ:∀{it l:Addr} {items:Array Value},l≠z->l≠TO->l≠i1->l≠i2->it≠z->s.heap.IsTuple l items->ZZ.SrcAt h' ⟨it,l,items⟩ (i+1)->h2.IsTupleIter it l (i+1):=λm1 m2 m3 m4 m5 hl q=>by
   rcases q with⟨_,q2⟩|⟨q1,_⟩
   ·obtain⟨o,e,r⟩:=hl
    exact (Km q2 ⟨o,a7 _ o m1 m2 (by simp[m3,m4]) e,r⟩).elim
   ·exact q1.at λo e=>(sb.2 _ m5).trans e
  refine⟨.ref s.heap.objs.size,_,I1,rfl,⟨s.heap.objs.size,x,y,I.hok.fresh (Qcq _),rfl,rfl,λys' hy'=>by (rw[hq1] at hy';cases hy';exact hx),λys' hy'=>by (rw[hq2] at hy';cases hy';exact hy)⟩,⟨⟨_,hz2⟩,(sb.2 _ (Ne.symm n1)).trans a2,⟨[u,v],(sb.2 _ (Ne.symm n2)).trans a3,rfl⟩,?_,?_⟩,λc hc=>?_⟩
  ·exact qZ (D.a ⟨i1,a,us.toArray⟩ (by simp)).1 (D.a ⟨i1,a,us.toArray⟩ (by simp)).2 (D.ai ⟨i1,a,us.toArray⟩ (by simp) ⟨i1,a,us.toArray⟩ (by simp)) (D.ai ⟨i1,a,us.toArray⟩ (by simp) ⟨i2,b,ws.toArray⟩ (by simp)) (Ne.symm n3) p1 (a4 _ (by simp))
  ·exact qZ (D.a ⟨i2,b,ws.toArray⟩ (by simp)).1 (D.a ⟨i2,b,ws.toArray⟩ (by simp)).2 (D.ai ⟨i2,b,ws.toArray⟩ (by simp) ⟨i1,a,us.toArray⟩ (by simp)) (D.ai ⟨i2,b,ws.toArray⟩ (by simp) ⟨i2,b,ws.toArray⟩ (by simp)) (Ne.symm n4) p2 (a4 _ (by simp))
  ·have hlc:c≠s.heap.objs.size:=by
    have hmem:∃o,s.heap.get? c=some o:=by
     simp only[QbY,Qbu,Qcz] at hc
     rcases hc with rfl | rfl | rfl | rfl | rfl
     ·exact⟨_,hz⟩
     ·exact⟨_,hTI⟩
     ·exact⟨_,hTO⟩
     ·obtain⟨o,e,_⟩:=hi1;exact⟨o,e⟩
     ·obtain⟨o,e,_⟩:=hi2;exact⟨o,e⟩
    obtain⟨o,e⟩:=hmem
    exact Qcj (Qch e)
   rw[Al hlc]
   exact (hf c hc).1
 done:=by
  intro X hP hw hK hc i pins s σ H E I hf st hg
  subst hP hw hK
  obtain⟨xs,ys,hq1,hq2,hend⟩:=hg
  obtain⟨us,ru,p1,z1⟩:=I.tuple (SqT.of hq1)
  obtain⟨ws,rw',p2,z2⟩:=I.tuple (SqT.of hq2)
  obtain⟨⟨f1,hz⟩,hTI,⟨olds,hTO,lo⟩,hi1,hi2⟩:=st
  simp only[QbJ,QbY,Qbu,Qcz,not_or,QbV,not_false_eq_true,and_true] at nd
  obtain⟨⟨n1,n2,n3,n4⟩,⟨n5,n6,n7⟩,⟨n8,n9⟩,n10⟩:=nd
  have D:ZZ.Apart z TI TO [⟨i1,a,us.toArray⟩,⟨i2,b,ws.toArray⟩]:=by
   obtain⟨oa,ea,ca,_⟩:=id p1
   obtain⟨ob,eb,cb,_⟩:=id p2
   obtain⟨o1,e1,c1,_⟩:=id hi1
   obtain⟨o2,e2,c2,_⟩:=id hi2
   have aTO:a≠TO:=λq=>by
    have:=(hf TO (by simp)).1
    rw[<-q,hq1] at this
    cases this
   have bTO:b≠TO:=λq=>by
    have:=(hf TO (by simp)).1
    rw[<-q,hq2] at this
    cases this
   have t1:Value.type "tuple"≠Value.type "zip":=λq=>absurd (by injection q) (show ¬("tuple"="zip") by decide)
   have t2:Value.type "tuple"≠Value.type "tuple_iterator":=λq=>absurd (by injection q) (show ¬("tuple"="tuple_iterator") by decide)
   refine⟨Ne.symm n1,Ne.symm n2,n5,λq hq=>?_,λq hq=>?_,λq hq r hr=>?_,?_⟩
   ·simp only[QbY,Qbu,Qcz] at hq
    rcases hq with rfl | rfl
    ·exact⟨Ne.symm n3,Ne.symm n6,Ne.symm n8⟩
    ·exact⟨Ne.symm n4,Ne.symm n7,Ne.symm n9⟩
   ·simp only[QbY,Qbu,Qcz] at hq
    rcases hq with rfl | rfl
    ·exact⟨GZ ea hz (by rw[ca];exact t1),aTO⟩
    ·exact⟨GZ eb hz (by rw[cb];exact t1),bTO⟩
   ·simp only[QbY,Qbu,Qcz] at hq hr
    rcases hq with rfl | rfl <;> rcases hr with rfl | rfl
    ·exact GZ ea e1 (by rw[ca,c1];exact t2)
    ·exact GZ ea e2 (by rw[ca,c2];exact t2)
    ·exact GZ eb e1 (by rw[cb,c1];exact t2)
    ·exact GZ eb e2 (by rw[cb,c2];exact t2)
   ·simp[n10]
  have hat:∀q∈([⟨i1,a,us.toArray⟩,⟨i2,b,ws.toArray⟩]:List ZZ.Src),ZZ.SrcAt s.heap q i:=λq hq=>by
   simp only[QbY,Qbu,Qcz] at hq
   rcases hq with rfl | rfl
   ·exact .inr ⟨hi1,p1⟩
   ·exact .inr ⟨hi2,p2⟩
  have l1:=ru.length
  have l2:=rw'.length
  refine ZZ.Uj hz (R:=λh'=>ZZ.Rest z TO [⟨i1,a,us.toArray⟩,⟨i2,b,ws.toArray⟩] s.heap h') (ZZ.Wd (I.ok.hd hc) D hz hTI hTO hat (by simp) lo (by show 2<=100;decide) ?_ λh' e r st=>⟨h',e,rfl,rfl,r,st⟩) λh' r=>⟨rfl,I.QD (h':=h') (t':=s.toks) (λc q hc e=>r c q (λw=>hc (by simp[w])) (λw=>hc (by simp[w])) (λw=>hc (by simp only[QbZ,List.map_nil,QbY,Qbu,Qcz] at w;rcases w with w | w <;> simp[w])) e) hf⟩
  rcases hend with h | h
  ·exact⟨_,QaR ..,by simp;omega⟩
  ·exact⟨_,QaE _ (QaR ..),by simp;omega⟩
 self:=λ_ _ _ _ _ st h=>ZZ.S7 st.1.choose_spec h
def w6 (K:PySem.W.Frag) (ta:TA):TI:=fun σ H R=>ta σ H λvs H1=>∃a b,vs=[.ref a,.ref b]/\(∃xs,H1 a=some (.tup xs))/\(∃ys,H1 b=some (.tup ys))/\R (dW K a b) H1
section
variable {X:Cx}
theorem lJ {a b:Expr} {ta:TA} {p pos tp:Pos} {elts:List Expr} {k:Nat} (hg:Gl X "zip") (hm:X.mg "zip"=none) (ha:PA X [a,b] ta)
  (hs:starEach [a,b] X.env=[(false,eval a X.env),(false,eval b X.env)]:=by rfl) (hs2:starEach [b] X.env=[(false,eval b X.env)]:=by rfl):PI X (.Tuple elts k tp) (.Call (.Name "zip" p) [a,b] [] pos) (w6 X.K ta):=by
 intro pins s σ H R I h
 refine Call_ (K8 I hg hm (u:=.type "zip") (by trivial) (Qae (thn (ha pos pins s σ H _ I h) λus s1 ⟨vs,H1,I1,r1,q1⟩=>?_) (by rw[hs,hs2]) (by rw[hs2];rfl)))
 obtain⟨a,b,e,⟨xs,hx⟩,⟨ys,hy⟩,q⟩:=q1
 subst e
 cases r1 with
 | cons r rr=>
  cases rr with
  | cons r' rr=>
   cases rr
   cases r
   cases r'
   obtain⟨us,ru,k1,z1⟩:=I1.tuple (SqT.of hx)
   obtain⟨ws,rw',k2,z2⟩:=I1.tuple (SqT.of hy)
   refine ZZ.jB (c1:="tuple_iterator") (c2:="tuple_iterator") (.inr ⟨rfl,k1⟩) (.inr ⟨rfl,k2⟩) λh' z TI TO i1 i2 f=>?_
   refine ZZ.S7 (s:={ s1 with heap:=h' }) f.hz ?_
   have nd:[z,TI,TO,i1,i2].Nodup:=by
    have a1:=f.ap.it ⟨i1,a,us.toArray⟩ (by simp)
    have a2:=f.ap.it ⟨i2,b,ws.toArray⟩ (by simp)
    have a3:i1≠i2:=by
     have:=f.ap.nd
     simpa using this
    simp only[QbJ,QbY,Qbu,Qcz,not_or,QbV,not_false_eq_true,and_true]
    exact⟨⟨Ne.symm f.ap.TIz,Ne.symm f.ap.TOz,Ne.symm a1.1,Ne.symm a2.1⟩,⟨f.ap.TITO,Ne.symm a1.2.1,Ne.symm a2.2.1⟩,⟨Ne.symm a1.2.2,Ne.symm a2.2.2⟩,a3⟩
   have at1:h'.IsTupleIter i1 a 0:=by
    rcases f.at_ ⟨i1,a,us.toArray⟩ (by simp) with⟨_,x2⟩|⟨x1,_⟩
    ·obtain⟨o,e,r⟩:=id k1
     exact (Km x2 ⟨o,f.keep _ o e,r⟩).elim
    ·exact x1
   have at2:h'.IsTupleIter i2 b 0:=by
    rcases f.at_ ⟨i2,b,ws.toArray⟩ (by simp) with⟨_,x2⟩|⟨x1,_⟩
    ·obtain⟨o,e,r⟩:=id k2
     exact (Km x2 ⟨o,f.keep _ o e,r⟩).elim
    ·exact x1
   refine⟨z,[z,TI,TO,i1,i2],_,_,H1,rfl,I1.kept (t':=s1.toks) λc o e=>f.keep c o e,aP a b z TI TO i1 i2 nd,⟨⟨_,f.hz⟩,f.hTI,⟨_,f.hTO,rfl⟩,at1,at2⟩,λc hc=>?_,q⟩
   have hn:=f.new
   have hcs:s1.heap.objs.size<=c:=by
    simp only[QbY,Qbu,Qcz] at hc
    rcases hc with rfl | rfl | rfl | rfl | rfl
    ·exact hn.1
    ·exact hn.2.1
    ·exact hn.2.2.1
    ·exact hn.2.2.2 ⟨c,a,us.toArray⟩ (by simp)
    ·exact hn.2.2.2 ⟨c,b,ws.toArray⟩ (by simp)
   exact I1.Qp hcs (I1.hok.fresh hcs)
end
theorem dF {K:PySem.W.Frag} {a b l:Addr} {xs ys:List V} {g:TG} {tt:TT} {te:TE} {Q:VK} {σ0:St} {H0:Hp} (n:Nat) (hx:n<=xs.length) (hy:n<=ys.length) (hn:xs.length<=n\/ys.length<=n) (Pv:Nat->St->Hp->Prop)
  (h0:Pv 0 σ0 H0) (hl:∀i σ H',i<=n->Pv i σ H'->H' a=some (.tup xs)/\H' b=some (.tup ys))
  (hs:∀i x y p σ H',xs[i]?=some x->ys[i]?=some y->Pv i σ H'->H' p=none->g (.ref p) σ (upd H' p (.tup [x,y])) fun σ3 H3=>tt σ3 H3 λb H4=>if b=true then te σ3 H4 λy H5=>∃ys,H5 l=some (.lst ys)/\ys.length < sizeLine/\Pv (i+1) σ3 (upd H5 l (.lst (ys++[y]))) else Pv (i+1) σ3 H4)
  (hd:∀ σ H',Pv n σ H'->Q (.ref l) H'):Gd (dW K a b) g tt te Q σ0 H0 l:=by
 unfold Gd
 refine⟨λi m σ H'=>m=n - i/\i<=n/\Pv i σ H',⟨n,by simp,Qcr _,h0⟩,?_⟩
 rintro i m σ H' ⟨rfl,hi,p⟩
 obtain⟨q1,q2⟩:=hl i σ H' hi p
 by_cases hlt:i < n
 ·have hlt1:i < xs.length:=by omega
  have hlt2:i < ys.length:=by omega
  refine .inr ⟨⟨xs,ys,xs[i],ys[i],q1,q2,Qan hlt1,Qan hlt2⟩,Pv (i+1),fun σ3 H3 p'=>⟨n - (i+1),by omega,rfl,hlt,p'⟩,λv H2 y=>?_⟩
  obtain⟨pp,x',y',hp,rfl,rfl,e1,e2⟩:=y
  exact hs i x' y' pp σ _ (e1 xs q1) (e2 ys q2) p hp
 ·exact .inl ⟨⟨xs,ys,q1,q2,by omega⟩,by
   have:i=n:=by omega
   subst this
   exact hd _ _ p⟩
section
variable {X:Cx}
def BV (ta tb:TE):TE:=fun σ H Q=>ta σ H λx H1=>x=.non/\tb σ H1 Q
theorem Xj {a b:Expr} {rest:List Expr} {pos:Pos} {ta tb:TE} (ha:PE X a ta) (hb:PE X (.BoolOp .Or (b::rest) pos) tb):PE X (.BoolOp .Or (a::b::rest) pos) (BV ta tb):=by
 intro pins s σ H Q I h
 refine BoolOp_or (thn (ha pins s σ H _ I h) λv s1 ⟨x,H1,I1,r1,e,q1⟩=>?_)
 subst e
 cases r1
 exact truthy_none (hb pins s1 σ H1 Q I1 q1)
end
theorem dD {X:Cx} {pins:List (Addr×Obj)} {σ : St} {H:Hp} {s:Shared} {A:Around} {E:Value->Shared->Prop} {a b:Addr} {kvs:List (List Key×V)} {k:List Key} {v:V} {u r:Value} {Q:Unit->Shared->Prop} (hu:A.units < cLine) (I:Inv X pins σ H s) (e:H a=some (.dT kvs)) (eb:H b=some (.tup (k.map kV))) (l:kvs.length < sizeLine) (ry:RelV (.ref b) u) (rv:RelV v r)
  (h:∀s',Inv X pins σ (upd H a (.dT (putK kvs k v))) s'->Q () s'):wpAny (model X.prog X.w) A (dictSet a u r) Q E s:=by
 cases (show u=Value.ref b from ry)
 obtain⟨z,hd,xs,rel,dd⟩:=qU I.hok e
 have hz:xs.length<=sizeLine:=by rw[<-QbX rel];exact z
 have hl:(putK kvs k v).length<=sizeLine:=by have:=Ja kvs k v;omega
 refine wpAny_dictSet_heap (hsz:=hz) hu (JQ I.hok eb) dd λh' dd' hs=>h _ ?_
 obtain⟨q,es,ep,hq,h2,h3,h4,_,h5⟩:=dd'
 refine Oi I (by rw[e];exact True.intro) hs ⟨q,hq⟩ ⟨hl,hd,_,(rel.put k eb rv).keeps λc ys ec=>?_,q,es,ep,hq,h2,h3,h4,h5⟩
 rw[Al (cj ec e (λz=>nomatch z))]
 exact ec
@[irreducible] def T6 (J:It) (g:TG) (tt:TT) (tk tv:TE) (Q:VK) (σ0:St) (H0:Hp) (l:Addr):Prop:=∃W:Nat->Nat->St->Hp->Prop,(∃m,W 0 m σ0 H0) /\
 ∀i m σ' H',W i m σ' H'->(J.stop i H'/\Q (.ref l) H')\/(J.go i H'/\∃N:St->Hp->Prop,(∀ σ3 H3,N σ3 H3->∃m',m' < m/\W (i+1) m' σ3 H3)/\∀x H2,J.yld i H' x H2->g x σ' H2 fun σ3 H3=>tt σ3 H3 λb H4=>
  if b=true then tk σ3 H4 λy H5=>tv σ3 H5 λz H6=>∃(kvs:List (List Key×V)) (k:List Key) (b:Addr),H6 l=some (.dT kvs)/\y=.ref b/\H6 b=some (.tup (k.map kV))/\kvs.length < sizeLine/\N σ3 (upd H6 l (.dT (putK kvs k z))) else N σ3 H4)
def Zu (wi:TI) (src:List (Option Nat)) (g:TG) (tt:TT) (tk tv:TE):TE:=fun σ H Q=>wi σ H λJ H1=>∀l,H1 l=none->T6 J g tt tk tv Q (JD src σ) (upd H1 l (.dT [])) l
theorem Zd {X:Cx} {N':List Str} {src:List (Option Nat)} {sc:Scope} {kx vx tg iter:Expr} {ifs:List Expr} {pos pos':Pos} {wi:TI} {g:TG} {tt:TT} {tk tv:TE} {use:Option (Value->Sem Unit)} {R:Value->Shared->Prop} (hu:X.A.units+1 < cLine) (hc:X.calm=true) (S:Bm X N' src sc)
  (hi:PI X tg iter wi) (hg:∀s3 H3 fp pn,PG (cxC X N' sc s3 H3 fp pn) tg g) (ht:∀s3 H3 fp pn,PF (cxC X N' sc s3 H3 fp pn) ifs tt) (hk:∀s3 H3 fp pn,PE (cxC X N' sc s3 H3 fp pn) kx tk) (hv:∀s3 H3 fp pn,PE (cxC X N' sc s3 H3 fp pn) vx tv)
  (hs:∀x,foldedSetIterable iter X.env x=pure x) {pins:List (Addr×Obj)} {s:Shared} {σ : St} {H:Hp} {Q:VK} (I:Inv X pins σ H s) (h:Zu wi src g tt tk tv σ H Q)
  (fin:∀s3 H3 fp σ4 H4 s5 l,Inv X pins σ H3 s3->(∀b∈fp,GC X pins H3 b)->Inv (cxC X N' sc s3 H3 fp (X.pn++pins)) [] σ4 H4 s5->Q (.ref l) H4 ->
   compPost (model X.prog X.w) X.A X.xe use R (.ref l) s3.heap.objs.size (.ok .next) s5) :
  wpAny (model X.prog X.w) X.A (comprehension (.DictComp kx vx [⟨tg,iter,ifs,0⟩] sc pos) sc X.env pos' newDict false (eval iter X.env) use) R X.xe s:=by
 refine wpAny_comprehension_free (use:=use) (cl:=Ey X.env sc.names []) rfl hs (Pg λp hp e=>I.ok.has p.1 (S.fv p hp e)) S.kind S.loc ?_
 refine thn (hi pins s σ H _ I h) λv s1 h1=>thn h1 λitv s2 h2=>?_
 obtain⟨it,fp,tn,J,H2,rfl,I2,T,st2,f2,q⟩:=h2
 have q':=q s2.heap.objs.size (I2.hok.fresh (Qcq _))
 unfold T6 at q'
 obtain⟨W,⟨m0,w0⟩,turn⟩:=q'
 refine Qbn (wpAny_newFunctionEnv S.IW (by intro y hy;simp at hy) (λha hns hsb=>?_) S.kind)
 have I3:Inv X pins σ (upd H2 s2.heap.objs.size (.dT [])) { s2 with heap:=s2.heap.push { cls:=.type "dict",data:=.dict #[] } }:=
  I2.laid (t':=s2.toks) (λb u e=>Qav _ e) (Qcq _) (Yi s2.heap I2.big)
 have hfl:∀b∈fp,b < s2.heap.objs.size:=λb hb=>by
  obtain⟨o,e,_⟩:=T.obj 0 _ st2 b hb
  exact Qch e
 have f3:∀b∈fp,GC X pins (upd H2 s2.heap.objs.size (.dT [])) b:=λb hb=>⟨by rw[Al (Qcj (hfl b hb))];exact (f2 b hb).1,(f2 b hb).2⟩
 generalize hs3:({ s2 with heap:=s2.heap.push { cls:=.type "dict",data:=.dict #[] } }:Shared)=s3 at *
 have hsz:s2.heap.objs.size < s3.heap.objs.size:=by rw[<-hs3];show s2.heap.objs.size < (s2.heap.push _).objs.size;rw[QbT];exact Qby _
 have kp:∀b o,s3.heap.get? b=some o->ha.get? b=some o:=λb o e=>hsb.extBut b o (Qcj (Qch e)) (Qav _ e)
 have st3:tn 0 ha:=T.keep 0 _ _ st2 λb hb o e=>kp b o (by rw[<-hs3];exact Qav _ e)
 have I4:Inv (cxC X N' sc s3 (upd H2 s2.heap.objs.size (.dT [])) fp (X.pn++pins)) [] (JD src σ) (upd H2 s2.heap.objs.size (.dT [])) { s3 with heap:=ha,toks:=s3.toks+([]:List (Str×Value)).length }:=
  R6 S I3 f3 (λb hb=>Nat.lt_trans (hfl b hb) hsz) hns kp
 have loop:codeAny (model X.prog X.w) X.A (.compLoop (.DictComp kx vx [⟨tg,iter,ifs,0⟩] sc pos) 0 (.ref it) (.ref s2.heap.objs.size) (compEnvC sc (Ey X.env sc.names []) s3.heap.objs.size X.env))
   (compPost (model X.prog X.w) X.A X.xe use R (.ref s2.heap.objs.size) s3.heap.objs.size) { s3 with heap:=ha,toks:=s3.toks+([]:List (Str×Value)).length }:=by
  refine TF (λn s'=>∃i σ' H',Inv (cxC X N' sc s3 (upd H2 s2.heap.objs.size (.dT [])) fp (X.pn++pins)) [] σ' H' s'/\tn i s'.heap/\(∀b∈fp,H' b=none)/\W i n σ' H') ?_ m0 ⟨0,_,_,I4,st3,λb hb=>(f3 b hb).1,w0⟩
  rintro n s4 ⟨i,σ4,H4,J4,st4,fr4,w4⟩
  have stat:∀{H':Hp},(∀b∈fp,H' b=none)->∀b∈fp,GC (cxC X N' sc s3 (upd H2 s2.heap.objs.size (.dT [])) fp (X.pn++pins)) [] H' b:=λhn b hb=>
   ⟨hn b hb,(I4.ok.exf b hb).1,I4.ok.Kr b hb,.inl hb,λx c e=>(I4.ok.exf b hb).2 x c e,λp hp=>(f3 b hb).2.2.2.2.2 p ((QbD.mp hp).elim id λz=>by cases z)⟩
  rcases turn i n σ4 H4 w4 with⟨stop,qn⟩|⟨go,N,hN,step⟩
  ·refine thn (T.done (cxC X N' sc s3 (upd H2 s2.heap.objs.size (.dT [])) fp (X.pn++pins)) rfl rfl rfl hc i [] s4 σ4 H4 _ J4 (stat fr4) st4 stop) λr s5 ⟨hr,J5⟩=>?_
   subst hr
   exact fin s3 _ fp σ4 H4 s5 _ I3 f3 J5 qn
  ·refine thn (T.item (cxC X N' sc s3 (upd H2 s2.heap.objs.size (.dT [])) fp (X.pn++pins)) rfl rfl rfl hc i [] s4 σ4 H4 _ J4 (stat fr4) st4 go) λr s5 ⟨u,hr,h5⟩=>?_
   subst hr
   refine thn h5 λ_ s6 ⟨x,H6,J6,r6,y6,st6,fr6⟩=>?_
   have J6':=J6.pinned (stat fr6) (T.obj _ _ st6)
   have back:∀{pl:List (Addr×Obj)} {σ7:St} {H7:Hp} {s7:Shared},Inv (cxC X N' sc s3 (upd H2 s2.heap.objs.size (.dT [])) fp (X.pn++pins)) ([]++Mx fp s6.heap) σ7 H7 s7->N σ7 H7 ->
     ∃m',m' < n/\∃i σ' H',Inv (cxC X N' sc s3 (upd H2 s2.heap.objs.size (.dT [])) fp (X.pn++pins)) [] σ' H' s7/\tn i s7.heap/\(∀b∈fp,H' b=none)/\W i m' σ' H':=λ{pl σ7 H7 s7} J7 w7=>by
    obtain⟨m',hm,w7⟩:=hN _ _ w7
    have pinned:∀b∈fp,∀o,s6.heap.get? b=some o->s7.heap.get? b=some o/\H7 b=none:=λb hb o e=>by
     have:=J7.pin (b,o) (QaA _ (QaA _ (JN hb e)))
     exact⟨this.1,this.2.1⟩
    refine⟨m',hm,i+1,σ7,H7,J7.Ht,T.keep _ _ _ st6 λb hb o e=>(pinned b hb o e).1,λb hb=>?_,w7⟩
    obtain⟨o,e,_⟩:=T.obj _ _ st6 b hb
    exact (pinned b hb o e).2
   refine thn (hg s3 _ fp _ _ s6 σ4 H6 x u _ J6' r6 (step x H6 y6)) λ_ s7 ⟨σ7,H7,J7,q7⟩=>?_
   refine thn (ht s3 _ fp _ _ s7 σ7 H7 _ J7 q7) λok s8 ⟨H8,J8,q8⟩=>?_
   cases ok with
   | false=>
    rw[if_neg QaS] at q8 ⊢
    exact back (pl:=[]) J8 q8
   | true=>
    rw[if_pos rfl] at q8 ⊢
    refine thn (hk s3 _ fp _ _ s8 σ7 H8 _ J8 q8) λy s9 ⟨yv,H9,J9,r9,q9⟩=>?_
    refine thn (hv s3 _ fp _ _ s9 σ7 H9 _ J9 q9) λz s10 ⟨zv,H10,J10,r10,kvs,k,bb,hl,ey,eb,hz,q10⟩=>?_
    subst ey
    refine dD (X:=cxC X N' sc s3 (upd H2 s2.heap.objs.size (.dT [])) fp (X.pn++pins)) (show X.A.units < cLine by omega) J10 hl eb hz r9 r10 λs11 J11=>?_
    exact back (pl:=[]) J11 q10
 exact codeAny_compStart_dict loop (T.self X.A 0 _ _ _ st3 loop)
theorem Qf {X:Cx} {N':List Str} {src:List (Option Nat)} {sc:Scope} {kx vx tg iter:Expr} {ifs:List Expr} {pos:Pos} {wi:TI} {g:TG} {tt:TT} {tk tv:TE} (hu:X.A.units+1 < cLine) (hc:X.calm=true) (S:Bm X N' src sc)
  (hi:PI X tg iter wi) (hg:∀s3 H3 fp pn,PG (cxC X N' sc s3 H3 fp pn) tg g) (ht:∀s3 H3 fp pn,PF (cxC X N' sc s3 H3 fp pn) ifs tt) (hk:∀s3 H3 fp pn,PE (cxC X N' sc s3 H3 fp pn) kx tk) (hv:∀s3 H3 fp pn,PE (cxC X N' sc s3 H3 fp pn) vx tv)
  (hs:∀x,foldedSetIterable iter X.env x=pure x:=by intro _;rfl):PE X (.DictComp kx vx [⟨tg,iter,ifs,0⟩] sc pos) (Zu wi src g tt tk tv):=by
 intro pins s σ H Q I h
 rw[arm_eval_DictComp]
 refine Zd (use:=none) hu hc S hi hg ht hk hv hs I h λs3 H3 fp σ4 H4 s5 l I3 f3 J5 q=>?_
 obtain⟨m,hn,_⟩:=J5.loc
 exact⟨m,hn,λh' sb=>⟨.ref l,H4,Qs I3 f3 J5 sb,rfl,q⟩⟩
section
variable {a l:Addr} {g:TG} {tt:TT} {tk tv:TE} {Q:VK}
theorem Zc {K:PySem.W.Frag} {xs:List V} {σ0:St} {H0:Hp} (Pv:Nat->St->Hp->Prop) (h0:Pv 0 σ0 H0) (hl:∀i σ H',i<=xs.length->Pv i σ H'->SqL K H' a xs)
  (hs:∀i x σ H',xs[i]?=some x->Pv i σ H'->g x σ H' fun σ3 H3=>tt σ3 H3 λb H4=>if b=true then tk σ3 H4 λy H5=>tv σ3 H5 λz H6=>∃(kvs:List (Key×V)) (k:Key),H6 l=some (.dK kvs)/\y=kV k/\kvs.length < sizeLine/\Pv (i+1) σ3 (upd H6 l (.dK (putK kvs k z))) else Pv (i+1) σ3 H4)
  (hd:∀ σ H',Pv xs.length σ H'->Q (.ref l) H'):Q9 (Itl K a) g tt tk tv Q σ0 H0 l:=by
 unfold Q9
 refine⟨λi m σ H'=>m=xs.length - i/\i<=xs.length/\Pv i σ H',⟨xs.length,by simp,Qcr _,h0⟩,?_⟩
 rintro i m σ H' ⟨rfl,hi,p⟩
 have q:=hl i σ H' hi p
 by_cases hlt:i < xs.length
 ·refine .inr ⟨⟨xs,xs[i],q,by simp[hlt]⟩,Pv (i+1),fun σ3 H3 p'=>⟨xs.length - (i+1),by omega,rfl,hlt,p'⟩,λx H2 y=>?_⟩
  obtain⟨rfl,y⟩:=y
  exact hs i x σ _ (y xs q) p
 ·exact .inl ⟨⟨xs,q,by omega⟩,by
   have:i=xs.length:=by omega
   subst this
   exact hd _ _ p⟩
theorem NZ {K:PySem.W.Frag} {xs:List V} {σ0:St} {H0:Hp} (Pv:Nat->St->Hp->Prop) (h0:Pv 0 σ0 H0) (hl:∀i σ H',i<=xs.length->Pv i σ H'->SqL K H' a xs)
  (hs:∀i x σ H',xs[i]?=some x->Pv i σ H'->g x σ H' fun σ3 H3=>tt σ3 H3 λb H4=>if b=true then tk σ3 H4 λy H5=>tv σ3 H5 λz H6=>∃(kvs:List (List Key×V)) (k:List Key) (b:Addr),H6 l=some (.dT kvs)/\y=.ref b/\H6 b=some (.tup (k.map kV))/\kvs.length < sizeLine/\Pv (i+1) σ3 (upd H6 l (.dT (putK kvs k z))) else Pv (i+1) σ3 H4)
  (hd:∀ σ H',Pv xs.length σ H'->Q (.ref l) H'):T6 (Itl K a) g tt tk tv Q σ0 H0 l:=by
 unfold T6
 refine⟨λi m σ H'=>m=xs.length - i/\i<=xs.length/\Pv i σ H',⟨xs.length,by simp,Qcr _,h0⟩,?_⟩
 rintro i m σ H' ⟨rfl,hi,p⟩
 have q:=hl i σ H' hi p
 by_cases hlt:i < xs.length
 ·refine .inr ⟨⟨xs,xs[i],q,by simp[hlt]⟩,Pv (i+1),fun σ3 H3 p'=>⟨xs.length - (i+1),by omega,rfl,hlt,p'⟩,λx H2 y=>?_⟩
  obtain⟨rfl,y⟩:=y
  exact hs i x σ _ (y xs q) p
 ·exact .inl ⟨⟨xs,q,by omega⟩,by
   have:i=xs.length:=by omega
   subst this
   exact hd _ _ p⟩
end
def Ng (h:Heap) (d:Addr) (es:Array DictEntry) (ep:Nat):Prop:=∃o,h.get? d=some o/\o.ExactDict/\o.data=.dict es ep
section
variable {prog:Program} {w:World} {A:Around} {E:Value->Shared->Prop} {s:Shared}
theorem lA {it d:Addr} {i ep:Nat} {es:Array DictEntry} {en:DictEntry} {Q:Option Value->Shared->Prop} (K:s.heap.IsKeyIter it d i es.size ep) (R:Ng s.heap d es ep) (hx:es[i]?=some en)
  (q:∀h',h'.IsKeyIter it d (i+1) es.size ep->Heap.SameBut it s.heap h'->Q (some en.key) { s with heap:=h' }):wpAny (model prog w) A (pyNext (.ref it)) Q E s:=by
 have T:=K.typeIs
 obtain⟨oi,hoi,ci,di⟩:=K
 obtain⟨od,hod,xd,dd⟩:=R
 have hlt:i < es.size:=(Qaf.mp hx).1
 obtain⟨KU,A5,A6,wZ⟩:=oi
 obtain⟨R5,Pa,Pb,Nf⟩:=od
 dsimp only at ci di dd
 subst ci di dd
 obtain⟨hp,g,dr,tk,os⟩:=s
 unfold pyNext
 refine Qcv (Qcg (Qar (name:=Str.ofString "__next__") T Qad (Qbv Qad T F.entry_dict_keyiterator_next ?_ (F.args_dict_keyiterator_next_1 _))))
 have e1:typeName (.type "dict_keyiterator")=pure "dict_keyiterator":=by unfold typeName;rw[find?_eq_fast];kernel_rfl
 have e2:=mroOf_keyiter
 wp_walk
 have hidx:(if (i:Int) < 0 then none else es[((i:Int)).toNat]?)=some en:=by rw[if_neg (by omega),Qbk];exact hx
 simp only[hidx]
 wp_walk
 refine⟨_,rfl,Qcw (q _ ⟨_,QaC _ hoi ?_,rfl,?_⟩ (QaN ..))⟩
 all_goals first | rfl | trace_state
theorem rP {it d:Addr} {i ep:Nat} {es:Array DictEntry} {Q:Option Value->Shared->Prop} (hh:A.handled=none) (K:s.heap.IsKeyIter it d i es.size ep) (R:Ng s.heap d es ep) (hx:es[i]?=none)
  (q:∀h',Heap.ExtBut it s.heap h'->Q none { s with heap:=h' }):wpAny (model prog w) A (pyNext (.ref it)) Q E s:=by
 have T:=K.typeIs
 obtain⟨oi,hoi,ci,di⟩:=K
 obtain⟨od,hod,xd,dd⟩:=R
 obtain⟨KU,A5,A6,wZ⟩:=oi
 obtain⟨R5,Pa,Pb,Nf⟩:=od
 dsimp only at ci di dd
 subst ci di dd
 obtain⟨hp,g,dr,tk,os⟩:=s
 unfold pyNext
 refine Qcv (Qcg (Qar (name:=Str.ofString "__next__") T Qad (Qbv Qad T F.entry_dict_keyiterator_next ?_ (F.args_dict_keyiterator_next_1 _))))
 have e1:typeName (.type "dict_keyiterator")=pure "dict_keyiterator":=by unfold typeName;rw[find?_eq_fast];kernel_rfl
 have e2:=mroOf_keyiter
 have hh1:A.in1.handled=none:=hh
 wp_walk
 have hidx:(if (i:Int) < 0 then none else es[((i:Int)).toNat]?)=none:=by rw[if_neg (by omega),Qbk];exact hx
 simp only[hidx]
 wp_walk
 unfold raiseNew
 wp_walk
 refine wpAny_of_eq isSubtype_stop ?_
 wp_walk
 exact q _ (((QaN ..).extBut.push _).push _)
theorem lB {d:Addr} {ep:Nat} {es:Array DictEntry} {Q:Value->Shared->Prop} (lo:(d == sysModules)=false) (R:Ng s.heap d es ep)
  (q:Q (.ref s.heap.objs.size) { s with heap:=s.heap.push { cls:=.type "dict_keyiterator",data:=.fields #[.ref d,.int 0 0,.int es.size 0,.int ep 0] } }):wpAny (model prog w) A (pyIter (.ref d)) Q E s:=by
 obtain⟨od,hod,xd,dd⟩:=R
 have T:s.TypeIs (.ref d) "dict":=⟨od,hod,xd.1⟩
 obtain⟨R5,Pa,Pb,Nf⟩:=od
 obtain⟨x1,x2⟩:=xd
 dsimp only at dd x1
 subst dd x1
 refine wpAny_pyIter_slot T F.slot_dict_iter (Qbv F.slot_dict_iter T F.entry_dict_iter ?_ (F.args_dict_iter_1 _))
 unfold Builtin.«dict.__iter__»
 wp_walk
 exact⟨_,rfl,"dict_keyiterator",_,⟨_,QaI _ rfl,rfl⟩,Qad.lookup,q⟩
theorem fY {d:Addr} {ep:Nat} {es:Array DictEntry} (lo:(d == sysModules)=false) :
  MeetsIn prog w (Builtin.«dict.items» ⟨[.ref d],[]⟩) (λ_ R s=>Ng s.heap d es ep/\R (.ok (.ret (.ref s.heap.objs.size))) { s with heap:=s.heap.push { cls:=.type "dict_items",data:=.fields #[.ref d] } }):=
 .of_wp λA R s ⟨hm,h⟩=>by
  obtain⟨od,hod,xd,dd⟩:=hm
  have T:s.TypeIs (.ref d) "dict":=⟨od,hod,xd.1⟩
  obtain⟨R5,Pa,Pb,Nf⟩:=od
  obtain⟨x1,x2⟩:=xd
  dsimp only at dd x1
  subst dd x1
  unfold Builtin.«dict.items»
  wp_walk
  exact⟨_,rfl,h⟩
theorem Ui {v d:Addr} {es:Array DictEntry} {ep:Nat} {Q:Value->Shared->Prop} (hv:s.heap.IsItemsView v d) (R:Ng s.heap d es ep)
  (q:Q (.ref s.heap.objs.size) { s with heap:=s.heap.push { cls:=.type "dict_itemiterator",data:=.fields #[.none,.bool false,.ref d,.int 0 0,.int es.size 0,.int ep 0,.none,.none] } }) :
  wpAny (model prog w) A (pyIter (.ref v)) Q E s:=by
 have T:=hv.typeIs
 obtain⟨ov,hov,hcv,hdv⟩:=hv
 obtain⟨od,hod,xd,dd⟩:=R
 obtain⟨Sa,RO,RR,RF⟩:=ov
 obtain⟨R5,Pa,Pb,Nf⟩:=od
 dsimp only at hcv hdv dd
 subst hcv hdv dd
 refine wpAny_pyIter_slot T F.slot_dict_items_iter (Qbv F.slot_dict_items_iter T F.entry_dict_items_iter ?_ (F.args_dict_items_iter_1 _))
 unfold Builtin.«dict_items.__iter__»
 wp_walk
 have hown:Builtin.Dict_items.ownsTuple "dict_itemiterator"=true:=by decide
 refine⟨_,rfl,"dict_itemiterator",_,⟨_,QaI _ rfl,rfl⟩,Qac.lookup,?_⟩
 simpa [rawInt,hown,Builtin.Dict_items.ownedTupleFields] using q
theorem lC {it d:Addr} {i ep:Nat} {es:Array DictEntry} {en:DictEntry} {ok ov:Value} {Q:Option Value->Shared->Prop} (K:IsItemIter s.heap it d i es.size ep ok ov) (R:Ng s.heap d es ep) (hx:es[i]?=some en)
  (q:∀h',IsItemIterOut h' it d (i+1) es.size ep en.key en.val s.heap.objs.size->h'.get? s.heap.objs.size=some { cls:=.type "tuple",data:=.seq #[en.key,en.val] }->(∀b o,b≠it->s.heap.get? b=some o->h'.get? b=some o)->Q (some (.ref s.heap.objs.size)) { s with heap:=h' }) :
  wpAny (model prog w) A (pyNext (.ref it)) Q E s:=by
 have hT:s.TypeIs (.ref it) "dict_itemiterator":=⟨_,K,rfl⟩
 obtain⟨od,hod,xd,dd⟩:=R
 have hlt:i < es.size:=(Qaf.mp hx).1
 obtain⟨R5,Pa,Pb,Nf⟩:=od
 dsimp only at dd
 subst dd
 obtain⟨hp,g,dr,tk,os⟩:=s
 unfold pyNext
 refine Qcv (Qcg (Qar (name:=Str.ofString "__next__") hT Qac (Qbv Qac hT F.entry_dict_itemiterator_next ?_ (F.args_dict_itemiterator_next_1 _))))
 have e1:typeName (.type "dict_itemiterator")=pure "dict_itemiterator":=by unfold typeName;rw[find?_eq_fast];kernel_rfl
 have e2:=mroOf_itemiter
 wp_walk
 have hidx:(if (i:Int) < 0 then none else es[((i:Int)).toNat]?)=some en:=by rw[if_neg (by omega),Qbk];exact hx
 simp only[hidx]
 have hown:Builtin.Dict_items.ownsTuple "dict_itemiterator"=true:=by decide
 refine Qcv ?_
 first | refine Qcv (wpAny_typeNameOfWhole_itemiter hT (Qcw ?_)) | refine Qcv (wpAny_typeNameOf_itemiter hT (Qcw ?_))
 refine Qcv (wpAny_isOneOf_itemiter hT ?_)
 simp only[hown,if_true]
 show wpAny _ _ (setField (.ref it) 3 (rawInt ((i:Int)+1)) >>= _) _ _ _
 refine Qcv (QaZ K (by simp) λh1 k1 s1=>?_)
 have s1:Heap.SameBut it hp h1:=s1
 have k1:IsItemIter h1 it d (i+1) es.size ep ok ov:=by
  have e:((i+1:Nat):Int)=(i:Int)+1:=by omega
  unfold IsItemIter;rw[e];simpa [rawInt] using k1
 have hT1:Shared.TypeIs ⟨h1,g,dr,tk,os⟩ (.ref it) "dict_itemiterator":=⟨_,k1,rfl⟩
 refine Qcv (Qcc (Qcv (wpAny_isOneOf_itemiter hT1 (Qcv (wpAny_isOneOf_itemiter hT1 ?_)))))
 show wpAny _ _ (Builtin.Dict_items.pairFromOwner (.ref it) 6 en.key en.val) _ _ ⟨h1,g,dr,tk,os⟩
 unfold Builtin.Dict_items.pairFromOwner
 refine Qcv (wpAny_newTuple ?_)
 have k2:IsItemIter (h1.push { cls:=.type "tuple",data:=.seq #[en.key,en.val] }) it d (i+1) es.size ep ok ov:=Qav _ k1
 have z1:h1.objs.size=hp.objs.size:=s1.1
 have n1:(h1.push { cls:=.type "tuple",data:=.seq #[en.key,en.val] }).get? hp.objs.size=some { cls:=.type "tuple",data:=.seq #[en.key,en.val] }:=by rw[<-z1];exact QaI _ rfl
 have p1:∀b o,b≠it->hp.get? b=some o->(h1.push { cls:=.type "tuple",data:=.seq #[en.key,en.val] }).get? b=some o:=λb o hb e=>Qav _ (s1.extBut b o hb e)
 have nit:hp.objs.size≠it:=Qcm (Qch K)
 rw[z1]
 show wpAny _ _ (Builtin.Dict_items.ownedTupleIsFree (.ref it) >>= _) _ _ ⟨h1.push { cls:=.type "tuple",data:=.seq #[en.key,en.val] },g,dr,tk,os⟩
 generalize h1.push { cls:=.type "tuple",data:=.seq #[en.key,en.val] }=h2 at k2 n1 p1
 refine Qcv ?_
 unfold Builtin.Dict_items.ownedTupleIsFree
 refine Qcv (Qct k2 rfl (x:=.none) rfl (Qcw ?_))
 simp only[if_true]
 refine Qcv (Qct k2 rfl (x:=ok) rfl ?_)
 refine Qcv (Qct k2 rfl (x:=ov) rfl ?_)
 refine Qcv (QaZ k2 (by simp) λh3 k3 s3=>?_)
 refine Qcv (QaZ k3 (by simp) λh4 k4 s4=>?_)
 refine Qcv (QaZ k4 (by simp) λh5 k5 s5=>?_)
 refine Qcv (QaZ k5 (by simp) λh6 k6 s6=>?_)
 have f:∀b o,b≠it->h2.get? b=some o->h6.get? b=some o:=λb o hb e=>s6.extBut b o hb (s5.extBut b o hb (s4.extBut b o hb (s3.extBut b o hb e)))
 exact Qcv (wpAny_letGo (Qcw (Qcw ⟨_,rfl,Qcw (q h6 k6 (f _ _ nit n1) λb o hb e=>f b o hb (p1 b o hb e))⟩)))
theorem Xd {it d:Addr} {i ep:Nat} {es:Array DictEntry} {ok ov:Value} {Q:Option Value->Shared->Prop} (hh:A.handled=none) (K:IsItemIter s.heap it d i es.size ep ok ov) (R:Ng s.heap d es ep) (hx:es[i]?=none)
  (q:∀h',Heap.ExtBut it s.heap h'->Q none { s with heap:=h' }):wpAny (model prog w) A (pyNext (.ref it)) Q E s:=by
 have hT:s.TypeIs (.ref it) "dict_itemiterator":=⟨_,K,rfl⟩
 obtain⟨od,hod,xd,dd⟩:=R
 obtain⟨R5,Pa,Pb,Nf⟩:=od
 dsimp only at dd
 subst dd
 obtain⟨hp,g,dr,tk,os⟩:=s
 unfold pyNext
 refine Qcv (Qcg (Qar (name:=Str.ofString "__next__") hT Qac (Qbv Qac hT F.entry_dict_itemiterator_next ?_ (F.args_dict_itemiterator_next_1 _))))
 have e1:typeName (.type "dict_itemiterator")=pure "dict_itemiterator":=by unfold typeName;rw[find?_eq_fast];kernel_rfl
 have e2:=mroOf_itemiter
 have hh1:A.in1.handled=none:=hh
 wp_walk
 have hidx:(if (i:Int) < 0 then none else es[((i:Int)).toNat]?)=none:=by rw[if_neg (by omega),Qbk];exact hx
 simp only[hidx]
 wp_walk
 unfold raiseNew
 wp_walk
 refine wpAny_of_eq isSubtype_stop ?_
 wp_walk
 exact q _ (((QaN ..).extBut.push _).push _)
end
section
variable {X:Cx} {pins:List (Addr×Obj)} {σ : St} {H:Hp} {s:Shared} {a:Addr} {kvs:List (List Key×V)} {o:Obj}
theorem Inv.uy (I:Inv X pins σ H s) (e:H a=some (.dT kvs)):∃o,s.heap.get? a=some o/\Inv X pins σ (upd H a (.frz o (.dT kvs))) s:=by
 obtain⟨o,ho⟩:=(I.hok a _ e).there
 have n0:∀b,H b=none->b≠a:=λb n z=>by rw[z,e] at n;cases n
 have n1:∀b u,H b=some u->u≠.dT kvs->b≠a:=λb u q nu z=>by rw[z,e] at q;exact nu (QbH q).symm
 refine⟨o,ho,I.step (h':=s.heap) (g':=s.gens) (d':=s.drawn) (t':=s.toks) (ch:=[]) (λb hb=>absurd hb (by simp)) (λb u _ _ _ q _=>q) (λb u _ _ _ q _=>⟨u.slots,q⟩) (λb u _ q n=>by rw[Al (n0 b n)];exact n)
  (λb u _ q=>⟨u,q⟩) (λb xs q=>by rw[Al (n1 b _ q (by intro z;cases z))];exact q) (λb u v q=>by rw[Al (n1 b _ q (by intro z;cases z))];exact q)
  (λb ps q=>⟨#[],by rw[Al (n1 b _ q (by intro z;cases z)),q];simp⟩) (λm hm=>hm) (λb u q=>?_) I.bare⟩
 have st:∀b u,Bp X.prog X.w H s.heap b u->Bp X.prog X.w (upd H a (.frz o (.dT kvs))) s.heap b u:=λb u x=>
  x.stay (λ_ _ _ q=>q) (λc q=>by rw[Al (n1 c _ q (by intro z;cases z))];exact q) λc xs q=>by rw[Al (n1 c _ q (by intro z;cases z))];exact q
 by_cases hb:b=a
 ·subst hb
  rw[Ac] at q
  cases q
  exact⟨ho,st _ _ (I.hok _ _ e)⟩
 ·rw[Al hb] at q
  exact st _ _ (I.hok b u q)
theorem Inv.AC (I:Inv X pins σ H s) (e:H a=some (.frz o (.dT kvs))) (h0:∀o' u,X.H₀ a≠some (.frz o' u)):Inv X pins σ (upd H a (.dT kvs)) s:=by
 have n0:∀b,H b=none->b≠a:=λb n z=>by rw[z,e] at n;cases n
 have n1:∀b u,H b=some u->u≠.frz o (.dT kvs)->b≠a:=λb u q nu z=>by rw[z,e] at q;exact nu (QbH q).symm
 refine⟨I.ok,I.os,I.bare,⟨I.base.keep,I.base.slot,λb u q n hx=>?_,I.base.there,λb xs q=>?_,λb u v q=>?_,λb ps q=>?_⟩,I.loc,I.cell,?_,λx c q=>?_,λp hp=>?_,λb u q=>?_,I.len⟩
 ·rw[Al (n0 b (I.base.free b u q n hx))]
  exact I.base.free b u q n hx
 ·have z:=I.base.tups b xs q
  rw[Al (n1 b _ z (by intro w;cases w))]
  exact z
 ·have z:=I.base.Hi b u v q
  have nb:b≠a:=λw=>h0 u v (by rw[<-w];exact q)
  rw[Al nb]
  exact z
 ·obtain⟨m,z⟩:=I.base.Il b ps q
  exact⟨m,by rw[Al (n1 b _ z (by intro w;cases w))];exact z⟩
 ·rw[Al (n0 _ I.free)];exact I.free
 ·rw[Al (n0 _ (I.Ew x c q))];exact I.Ew x c q
 ·obtain⟨p1,p2,p3⟩:=I.pin p hp
  exact⟨p1,by rw[Al (n0 _ p2)];exact p2,p3⟩
 ·have st:∀b u,Bp X.prog X.w H s.heap b u->Bp X.prog X.w (upd H a (.dT kvs)) s.heap b u:=λb u x=>
   x.stay (λ_ _ _ q=>q) (λc q=>by rw[Al (n1 c _ q (by intro z;cases z))];exact q) λc xs q=>by rw[Al (n1 c _ q (by intro z;cases z))];exact q
  by_cases hb:b=a
  ·subst hb
   rw[Ac] at q
   cases q
   exact st _ _ (show Bp X.prog X.w H s.heap b (.frz o (.dT kvs)) from I.hok _ _ e).2
  ·rw[Al hb] at q
   exact st _ _ (I.hok b u q)
end
def BE (H0 H:Hp) (P:Hp->Prop):Prop:=∃a o kvs,H a=some (.frz o (.dT kvs))/\(∀o' u,H0 a≠some (.frz o' u))/\P (upd H a (.dT kvs))
def rD (H0:Hp) (t:TE):TE:=fun σ H Q=>t σ H λv H1=>BE H0 H1 (Q v)
theorem lK {X:Cx} {x:Expr} {t:TE} {H0:Hp} (h0:X.H₀=H0) (h:PE X x t):PE X x (rD H0 t):=by
 subst h0
 intro pins s σ H Q I q
 refine thn (h pins s σ H _ I q) λu s1 ⟨v,H',I',r,a,o,kvs,e,n,q'⟩=>⟨v,_,I'.AC e n,r,q'⟩
def dX (a:Addr) (o:Obj) (kvs:List (List Key×V)):It:=
 ⟨λi H=>i < kvs.length/\H a=some (.frz o (.dT kvs)),λi H x H'=>∃p b kv,H p=none/\kvs[i]?=some kv/\H b=some (.tup (kv.1.map kV))/\x=.ref p/\H'=upd H p (.tup [.ref b,kv.2]),λi H=>i=kvs.length/\H a=some (.frz o (.dT kvs))⟩
def KTr (P:Program) (w:World) (H:Hp) (kvs:List (List Key×V)) (es:Array DictEntry):Prop:=es.size=kvs.length/\∀(i:Nat) (kv:List Key×V),kvs[i]?=some kv->∃b en,es[i]?=some en/\en.key=.ref b/\H b=some (.tup (kv.1.map kV))/\RelV kv.2 en.val
theorem Tj {P:Program} {w:World} {H:Hp} {kvs:List (List Key×V)} {xs:List (List Key×Addr×Value)} {es:Array DictEntry} (r:Paired (λ(p:List Key×V) (q:List Key×Addr×Value)=>p.1=q.1/\H q.2.1=some (.tup (p.1.map kV))/\RelV p.2 q.2.2) kvs xs) (e:es.toList=xs.map (entryOfKey (tupleKind (Bx P w)))):KTr P w H kvs es:=by
 refine⟨by rw[size_of_entries e,QbX r],λi kv hkv=>?_⟩
 have go:∀{l:List (List Key×V)} {m:List (List Key×Addr×Value)} {i:Nat} {p:List Key×V},Paired (λ(p:List Key×V) (q:List Key×Addr×Value)=>p.1=q.1/\H q.2.1=some (.tup (p.1.map kV))/\RelV p.2 q.2.2) l m->l[i]?=some p->∃x,m[i]?=some x/\H x.2.1=some (.tup (p.1.map kV))/\RelV p.2 x.2.2:=by
  intro l m i p r
  induction r generalizing i with
  | nil=>intro h;cases h
  | cons a t ih=>
   intro h
   cases i with
   | zero=>cases h;exact⟨_,rfl,a.2⟩
   | succ i=>exact ih h
 obtain⟨x,hx,h1,h2⟩:=go r hkv
 exact⟨x.2.1,_,by rw[entry_at e i,hx];rfl,rfl,h1,h2⟩
theorem Vk {X:Cx} {pins:List (Addr×Obj)} {σ : St} {H:Hp} {s:Shared} {a:Addr} {kvs:List (List Key×V)} {o:Obj} {es:Array DictEntry} {ep:Nat} (I:Inv X pins σ H s) (e:H a=some (.frz o (.dT kvs))) (ho:o.data=.dict es ep) :
  (a == sysModules)=false/\KTr X.prog X.w H kvs es/\Ng s.heap a es ep:=by
 obtain⟨h1,_,h2,xs,h3,ob,es',ep',h4,h5,h6,h7,_⟩:=(show Bp X.prog X.w H s.heap a (.frz o (.dT kvs)) from I.hok a _ e)
 have z:=h1.symm.trans h4
 cases z
 rw[ho] at h6
 cases h6
 exact⟨h2,Tj h3 h7,o,h1,h5,ho⟩
theorem j8 {P:Program} {w:World} {K:PySem.W.Frag} {elts:List Expr} {k:Nat} {pos:Pos} (a it:Addr) (o:Obj) (kvs:List (List Key×V)) {es:Array DictEntry} {ep:Nat} (ho:o.data=.dict es ep) (hes:es.size=kvs.length) :
  Turn P w K (.Tuple elts k pos) (dX a o kvs) [it] it (λi h=>∃ok ov,IsItemIter h it a i kvs.length ep ok ov) where
 mem:=by simp
 obj:=λi h st b hb=>by
  have e:b=it:=by simpa using hb
  subst e
  obtain⟨ok,ov,q⟩:=st
  exact⟨_,q,λv z=>by cases (show Data.fields _=Data.cell v from z)⟩
 keep:=λi h h' st k=>by
  obtain⟨ok,ov,q⟩:=st
  exact⟨ok,ov,k it (by simp) _ q⟩
 item:=by
  intro X hP hw hK hc i pins s σ H E I hf st hg
  subst hP hw hK
  obtain⟨hi,hfz⟩:=hg
  obtain⟨ok,ov,st⟩:=st
  obtain⟨_,⟨hz,rel⟩,da⟩:=Vk I hfz ho
  obtain⟨kv,hkv⟩ : ∃kv,kvs[i]?=some kv:=⟨kvs[i],by simp[hi]⟩
  obtain⟨b,en,hen,hkey,hb,hval⟩:=rel i kv hkv
  rw[<-hes] at st
  refine lC st da hen λh' hout htup hkeep=>?_
  refine⟨_,rfl,wpAny_letOwnedTupleGo_items hout λh2 he2 hs2=>?_⟩
  have nit:s.heap.objs.size≠it:=Qcm (Qch st)
  have new:Bp X.prog X.w (upd H s.heap.objs.size (.tup [.ref b,kv.2])) h2 s.heap.objs.size (.tup [.ref b,kv.2]):=
   ⟨by show 2<=sizeLine;decide,[en.key,en.val],.cons (by rw[hkey];exact rfl) (.cons hval .nil),_,(hs2.2 _ nit).trans htup,rfl,0,rfl⟩
  have I1:=I.Ni (h':=h2) (t':=s.toks) (Qcq _) (λb q hb z=>(hs2.2 b (λw=>hb (by simp[w]))).trans (hkeep b q (λw=>hb (by simp[w])) z)) hf new
  refine⟨.ref s.heap.objs.size,_,I1,rfl,⟨s.heap.objs.size,b,kv,I.hok.fresh (Qcq _),hkv,hb,rfl,rfl⟩,⟨en.key,en.val,?_⟩,λb hb=>?_⟩
  ·rw[<-hes];exact he2
  ·have z:b=it:=by simpa using hb
   subst z
   rw[Al (Ne.symm nit)]
   exact (hf b hb).1
 done:=by
  intro X hP hw hK hc i pins s σ H E I hf st hg
  subst hP hw hK
  obtain⟨hi,hfz⟩:=hg
  obtain⟨ok,ov,st⟩:=st
  obtain⟨_,⟨hz,rel⟩,da⟩:=Vk I hfz ho
  rw[<-hes] at st
  exact Xd (I.ok.hd hc) st da (by simp;omega) λh' ext=>⟨rfl,I.QD (t':=s.toks) (λb ob hb q=>ext b ob (λz=>hb (by simp[z])) q) hf⟩
 self:=λA i s Q E st q=>by
  obtain⟨ok,ov,st⟩:=st
  exact VP st q
def uq (td:TE):TI:=fun σ H R=>td σ H λx H1=>∃a kvs,x=.ref a/\H1 a=some (.dT kvs)/\∀o,R (dX a o kvs) (upd H1 a (.frz o (.dT kvs)))
theorem gw {X:Cx} {d:Expr} {td:TE} {elts:List Expr} {k:Nat} {tp apos cpos:Pos} (hd:PE X d td) (hbase:attributeBase d "items" X.env (eval d X.env)=eval d X.env:=by rfl) (hline:(apos.endLine == cpos.line)=true:=by rfl) :
  PI X (.Tuple elts k tp) (.Call (.Attribute d "items" apos) [] [] cpos) (uq td):=by
 intro pins s σ H R I h
 refine wpAny_Call_method0_late hbase hline (thn (hd pins s σ H _ I h) λv s1 ⟨x,H1,I1,r1,a,kvs,ex,e,q⟩=>?_)
 subst ex
 cases r1
 obtain⟨t1,t2,hsm⟩:=iJ I1 (.inr ⟨kvs,.inl e⟩)
 obtain⟨o,ho,I2⟩:=I1.uy e
 obtain⟨_,_,xs,h3,ob,es,ep,h4,h5,h6,h7,_⟩:=(show Bp X.prog X.w H1 s1.heap a (.dT kvs) from I1.hok a _ e)
 rw[ho] at h4
 cases h4
 have hes:=(Tj h3 h7).1
 have da:Ng s1.heap a es ep:=⟨o,ho,h5,h6⟩
 refine⟨"dict","dict.items",F.plainAttrs_dict,F.slot_dict_items,F.type_dict_items,t1,t2,Calls.callWith_builtin rfl (PySem.evalArgs_none ?_)⟩
 refine call_meetsIn F.slot_dict_items t1 F.entry_dict_items (F.args_dict_items_1 _) (fY (es:=es) (ep:=ep) hsm) ⟨da,?_⟩
 have hz:(s1.heap.push { cls:=.type "dict_items",data:=.fields #[.ref a] }).objs.size=s1.heap.objs.size+1:=QbT ..
 refine Ui (d:=a) (es:=es) (ep:=ep) ⟨_,QaI _ rfl,rfl,rfl⟩ ⟨o,Qav _ ho,h5,h6⟩ ?_
 refine⟨(s1.heap.push { cls:=.type "dict_items",data:=.fields #[.ref a] }).objs.size,[(s1.heap.push { cls:=.type "dict_items",data:=.fields #[.ref a] }).objs.size],_,_,_,rfl,
  I2.kept (t':=s1.toks) λb u q=>Qav _ (Qav _ q),j8 a _ o kvs h6 hes,?_,λb hb=>?_,q o⟩
 ·rw[<-hes]
  exact⟨_,_,QaI _ rfl⟩
 ·have z:b=(s1.heap.push { cls:=.type "dict_items",data:=.fields #[.ref a] }).objs.size:=by simpa using hb
  have z2:s1.heap.objs.size<=b:=by rw[z,hz];exact Nat.le_succ _
  exact I2.Qp z2 (I2.hok.fresh z2)
theorem pR {a l:Addr} {o:Obj} {kvs:List (List Key×V)} {g:TG} {tt:TT} {te:TE} {Q:VK} {σ0:St} {H0:Hp} (Pv:Nat->St->Hp->Prop) (h0:Pv 0 σ0 H0) (hl:∀i σ H',i<=kvs.length->Pv i σ H'->H' a=some (.frz o (.dT kvs)))
  (hs:∀i kv p b σ H',kvs[i]?=some kv->Pv i σ H'->H' p=none->H' b=some (.tup (kv.1.map kV))->g (.ref p) σ (upd H' p (.tup [.ref b,kv.2])) fun σ3 H3=>tt σ3 H3 λb H4=>if b=true then te σ3 H4 λy H5=>∃ys,H5 l=some (.lst ys)/\ys.length < sizeLine/\Pv (i+1) σ3 (upd H5 l (.lst (ys++[y]))) else Pv (i+1) σ3 H4)
  (hd:∀ σ H',Pv kvs.length σ H'->Q (.ref l) H'):Gd (dX a o kvs) g tt te Q σ0 H0 l:=by
 unfold Gd
 refine⟨λi m σ H'=>m=kvs.length - i/\i<=kvs.length/\Pv i σ H',⟨kvs.length,by simp,Qcr _,h0⟩,?_⟩
 rintro i m σ H' ⟨rfl,hi,p⟩
 have q:=hl i σ H' hi p
 by_cases hlt:i < kvs.length
 ·refine .inr ⟨⟨hlt,q⟩,Pv (i+1),fun σ3 H3 p'=>⟨kvs.length - (i+1),by omega,rfl,hlt,p'⟩,λx H2 y=>?_⟩
  obtain⟨pa,b,kv,hp,hkv,hb,rfl,rfl⟩:=y
  exact hs i kv pa b σ H' hkv p hp hb
 ·have e:i=kvs.length:=by omega
  subst e
  exact .inl ⟨⟨rfl,q⟩,hd σ H' p⟩
theorem rO {prog:Program} {w:World} {d:Addr} {es:Array DictEntry} {ep:Nat} (lo:(d == sysModules)=false):PySem.W.KdlSrc prog w "dict" d d es.size (λi v=>∃en,es[i]?=some en/\v=en.key) (λh=>Ng h d es ep) where
 type:=λ_ ⟨o,ho,hx,_⟩=>⟨o,ho,hx.1⟩
 there:=λ_ ⟨o,ho,_⟩=>⟨Qch ho,Qch ho⟩
 keep:=λ_ _ ⟨o,ho,hx⟩ hk=>⟨o,hk d (.inl rfl) o ho,hx⟩
 notList:=by decide
 notTuple:=by decide
 hint:=λ_ _ _ _ ⟨o,ho,hx,_⟩ hq=>PySem.W.kdl_hint_dict ⟨o,ho,hx.1⟩ hq
 iter:=λA s hh hm=>⟨_,λi h=>h.IsKeyIter s.heap.objs.size d i es.size ep/\Ng h d es ep,(λ_ _ hq=>lB lo hm hq),{
   sub:=λb hb=>by simp at hb;simp[hb]
   frame:=λ_ _ _ st hk=>⟨st.1.at λo e=>hk s.heap.objs.size (by simp) o e,let ⟨o,ho,r⟩:=st.2;⟨o,hk d (by simp) o ho,r⟩⟩
   item:=λi s' Q E hi st hQ=>by
    have hne:d≠s.heap.objs.size:=let ⟨o,ho,_⟩:=hm;Qcj (Qch ho)
    have hx:es[i]?=some es[i]:=by simp[hi]
    refine lA st.1 st.2 hx λh' hit' hs'=>?_
    obtain⟨o,ho,r⟩:=st.2
    exact hQ es[i].key h' s'.toks ⟨es[i],hx,rfl⟩ ⟨hit',o,hs'.extBut d o hne ho,r⟩ λb o hb e=>hs'.extBut b o (λh=>hb (by simp[h])) e
   done:=λs' Q E st hQ=>rP hh st.1 st.2 (by simp) λh' he'=>hQ h' s'.toks λb o hb e=>he' b o (λh=>hb (by simp[h])) e
   self:=λ_ _ _ _ st hQ=>wpAny_pyIter_keyiter st.1 hQ },⟨⟨_,QaI _ rfl,rfl,rfl⟩,let ⟨o,ho,r⟩:=hm;⟨o,Qav _ ho,r⟩⟩⟩
@[irreducible] def QK:List V->Hp->VK->Prop:=λxs H Q=>∃(a:Addr) (kvs:List (List Key×V)),xs=[.ref a]/\H a=some (.dT kvs)/\∀l bs,H l=none->Paired (λb (kv:List Key×V)=>H b=some (.tup (kv.1.map kV))) bs kvs->Q (.ref l) (upd H l (.lst (bs.map V.ref)))
theorem Ql {a:Addr} {kvs:List (List Key×V)} {H:Hp} {Q:VK} (h:H a=some (.dT kvs)) (q:∀l bs,H l=none->Paired (λb (kv:List Key×V)=>H b=some (.tup (kv.1.map kV))) bs kvs->Q (.ref l) (upd H l (.lst (bs.map V.ref)))):QK [.ref a] H Q:=by
 unfold QK
 exact⟨a,kvs,rfl,h,q⟩
theorem Tq {H:Hp}:∀{kvs:List (List Key×V)} {us:List Value},us.length=kvs.length->(∀(j:Nat) (u:Value),us[j]?=some u->∃(kv:List Key×V) (b:Addr),kvs[j]?=some kv/\u=.ref b/\H b=some (.tup (kv.1.map kV)))->∃bs:List Addr,Vals (bs.map V.ref) us/\Paired (λb (kv:List Key×V)=>H b=some (.tup (kv.1.map kV))) bs kvs
 | [],[],_,_=>⟨[],.nil,.nil⟩
 | [],_::_,h,_=>by simp at h
 | _::_,[],h,_=>by simp at h
 | kv::r,u::us,h,g=>by
  obtain⟨bs,h1,h2⟩:=Tq (H:=H) (kvs:=r) (us:=us) (by simpa using h) λj u hu=>by
   obtain⟨kv',b,e,q⟩:=g (j+1) u (by simpa using hu)
   exact⟨kv',b,by simpa using e,q⟩
  obtain⟨kv',b,e,e2,q⟩:=g 0 u rfl
  cases e
  exact⟨b::bs,.cons e2 h1,.cons q h2⟩
theorem N5 {X:Cx} (hc:X.calm=true):Eb X (.type "list") QK:=by
 intro pins s σ H xs us Q I r h
 unfold QK at h
 obtain⟨a,kvs,rfl,e,q⟩:=h
 obtain⟨u,rfl,rx⟩:=vals1 r
 cases rx
 obtain⟨z,lo,xs,h3,ob,es,ep,h4,h5,h6,h7,_⟩:=(show Bp X.prog X.w H s.heap a (.dT kvs) from I.hok a _ e)
 obtain⟨hz,rel⟩:=Tj h3 h7
 refine PySem.W.kdl_call (rO (es:=es) (ep:=ep) lo) (I.ok.hd hc) ⟨ob,h4,h5,h6⟩ (by omega) λh' tk acc c' hk hS hacc=>?_
 obtain⟨bs,b1,b2⟩:=Tq (H:=H) (kvs:=kvs) (us:=acc.toList) (by rw[QaK,hacc.1,hz]) λj u hu=>by
  obtain⟨en,hen,e2⟩:=hacc.2 j u (by rw[<-Array.getElem?_toList];exact hu)
  have hj:j < kvs.length:=by
   have:=(Qaf.mp hen).1
   omega
  obtain⟨b,en',h8,h9,h10,_⟩:=rel j kvs[j] (Qan hj)
  rw[hen] at h8
  cases h8
  exact⟨kvs[j],b,Qan hj,by rw[e2,h9],h10⟩
 have fr:=I.hok.fresh (Qcq s.heap.objs.size)
 refine⟨.ref s.heap.objs.size,_,I.laid (t':=tk) (o:=.lst (bs.map V.ref)) (λb o q=>hk b o q) (Qcq _) ?_,rfl,q _ bs fr b2⟩
 exact⟨by rw[QbB,QbX b2];exact z,acc.toList,c',b1,hS⟩
theorem dH {X:Cx}:Eb X (.builtin "len") (λxs H Q=>∃a kvs,xs=[V.ref a]/\H a=some (.dT kvs)/\Q (.int kvs.length) H):=by
 intro pins s σ H xs us Q I r h
 obtain⟨a,kvs,rfl,e,q⟩:=h
 obtain⟨u,rfl,rx⟩:=vals1 r
 cases rx
 obtain⟨z,lo,xs,h3,ob,es,ep,h4,h5,h6,h7,_⟩:=(show Bp X.prog X.w H s.heap a (.dT kvs) from I.hok a _ e)
 obtain⟨hz,rel⟩:=Tj h3 h7
 have T:s.TypeIs (.ref a) "dict":=⟨ob,h4,h5.1⟩
 obtain⟨R5,Pa,Pb,Nf⟩:=ob
 obtain⟨x1,x2⟩:=h5
 dsimp only at h6 x1
 subst h6 x1
 refine Calls.call_function_entry kind_len plain_len entry_len (args_len1 _) ?_
 unfold Builtin.«len»
 refine Qcv (m:=oneArg "len" _) (Qcw ?_)
 refine Qcv (m:=callSpecial? (.ref a) (Str.ofString "__len__")) (Qar (name:=Str.ofString "__len__") T F.slot_dict_len (Qbv F.slot_dict_len T F.entry_dict_len ?_ (F.args_dict_len_1 _)))
 unfold Builtin.«dict.__len__»
 wp_walk
 have e0:((es.size:Int)+((0:Nat):Int))=(kvs.length:Int):=by rw[hz];exact Int.add_zero _
 refine⟨_,rfl,?_⟩
 rw[e0]
 have hs:=Qcu
 refine Qcv (Qcc (Qcw ?_))
 refine Qcv (wpAny_letGo ?_)
 show wpAny _ _ (if ((kvs.length:Nat):Int) < 0 then _ else _) _ _ _
 rw[if_neg (by omega)]
 show wpAny _ _ (if ((kvs.length:Nat):Int) ≥ 2 ^ 63 then _ else _) _ _ _
 rw[if_neg (by omega)]
 exact Qcv (wpAny_mkInt (Qcw ⟨_,rfl,.int kvs.length,H,I.tok _,⟨_,rfl⟩,q⟩))
theorem Vm {α β : Type} (f:α->β):∀(l:List α) (j:Nat),(l.map f).eraseIdx j=(l.eraseIdx j).map f
 | [],_=>rfl
 | _::_,0=>rfl
 | a::r,j+1=>by
  show f a::(r.map f).eraseIdx j=f a::(r.eraseIdx j).map f
  rw[Vm f r j]
theorem O8 {α β : Type} {F:α->β->Prop}:∀{l:List α} {m:List β} (j:Nat),Paired F l m->Paired F (l.eraseIdx j) (m.eraseIdx j)
 | _,_,_,.nil=>.nil
 | _,_,0,.cons _ t=>t
 | _,_,j+1,.cons a t=>.cons a (O8 j t)
theorem sG {H:Hp}:∀{l:List (List Key×V)} {m:List (List Key×Addr×Value)} {i:Nat} {p:List Key×V},Paired (λ(p:List Key×V) (q:List Key×Addr×Value)=>p.1=q.1/\H q.2.1=some (.tup (p.1.map kV))/\RelV p.2 q.2.2) l m->l[i]?=some p->∃x,m[i]?=some x/\p.1=x.1/\H x.2.1=some (.tup (p.1.map kV))/\RelV p.2 x.2.2:=by
 intro l m i p r
 induction r generalizing i with
 | nil=>intro h;cases h
 | cons a t ih=>
  intro h
  cases i with
  | zero=>cases h;exact⟨_,rfl,a⟩
  | succ i=>exact ih h
theorem Vf {H:Hp}:∀{l:List (List Key×V)} {m:List (List Key×Addr×Value)} {i:Nat} {x:List Key×Addr×Value},Paired (λ(p:List Key×V) (q:List Key×Addr×Value)=>p.1=q.1/\H q.2.1=some (.tup (p.1.map kV))/\RelV p.2 q.2.2) l m->m[i]?=some x->∃p,l[i]?=some p/\p.1=x.1/\H x.2.1=some (.tup (p.1.map kV))/\RelV p.2 x.2.2:=by
 intro l m i x r
 induction r generalizing i with
 | nil=>intro h;cases h
 | cons a t ih=>
  intro h
  cases i with
  | zero=>cases h;exact⟨_,rfl,a⟩
  | succ i=>exact ih h
theorem eZ {prog:Program} {w:World} {K:Type} [DecidableEq K] {knd:HeapKind prog w K} {A:Around} {E:Value->Shared->Prop} {s:Shared} {d a:Addr} {o:Obj} {es:Array DictEntry} {ep:Nat} {xs:List (K×Addr×Value)} {k:K} {Q:Option DictEntry->Shared->Prop} (hu:knd.room A) (hkey:knd.is s.heap k a)
  (ho:s.heap.get? d=some o) (hc:o.ExactDict) (hd:o.data=.dict es ep) (he:es.toList=xs.map (entryOfKey knd)) (his:∀x∈xs,knd.is s.heap x.1 x.2.1) (hn:(xs.map (·.1)).Nodup) (hz:xs.length<=sizeLine)
  (hnone:(∀(j:Nat) (p:Addr×Value),xs[j]?≠some (k,p))->Q none { s with toks:=s.toks+knd.draws k })
  (hsome:∀(j:Nat) (p:Addr×Value),xs[j]?=some (k,p)->∀h' o' es',h'.get? d=some o'->o'.ExactDict->o'.data=.dict es' (ep+1)->es'.toList=(xs.eraseIdx j).map (entryOfKey knd)->Heap.SameBut d s.heap h'->Q (some (entryOfKey knd (k,p))) { s with heap:=h',toks:=s.toks+knd.draws k }) :
  wpAny (model prog w) A (Builtin.Dict.takeOut d (.ref a)) Q E s:=by
 unfold Builtin.Dict.takeOut
 try with_reducible refine Qcc ?_
 refine Qcv (knd.pyHash hu hkey (Qcv (wpAny_dictFind_heap (s:={ s with toks:=s.toks+knd.draws k }) hu hkey ho hd he his hn (λhno=>Qcw (hnone hno)) λj p hj=>?_)))
 refine Qcv (wpAny_dictEntries (s:={ s with toks:=s.toks+knd.draws k }) ho hd ?_)
 rw[entry_at he j,hj]
 have hsz:=size_of_entries he
 have hle:(es.eraseIdxIfInBounds j).toList=(xs.eraseIdx j).map (entryOfKey knd):=by
  rw[Array.toList_eraseIdxIfInBounds,he,Vm]
 refine Qcv (wpAny_updateDictKeys (hz:=by omega) (hf:=by have h1:=congrArg List.length hle;rw[QaK,QbB] at h1;have:=List.length_eraseIdx_le xs j;omega) (s:={ s with toks:=s.toks+knd.draws k }) ho hd ?_)
 exact Qcw (hsome j p hj _ _ _ (QaC _ ho (Obj.isFreed_of_dict (Obj.data_mapDictKeys hd _))) (hc.mapDictKeys _) (Obj.data_mapDictKeys hd _) hle (QaN ..))
def vh (td ty tx:TE):TE:=fun σ H Q=>td σ H λx H1=>∃a,x=.ref a/\IsD H1 a/\ty σ H1 λy H2=>tx σ H2 λz H3=>∃kvs k b,H3 a=some (.dT kvs)/\y=.ref b/\H3 b=some (.tup (k.map kV)) /\
 (∀(j:Nat) (v:V),kvs[j]?=some (k,v)->Q v (upd H3 a (.dT (kvs.eraseIdx j))))/\((∀(j:Nat) (v:V),kvs[j]?≠some (k,v))->Q z H3)
theorem yG {X:Cx} {pins:List (Addr×Obj)} {σ : St} {H:Hp} {s:Shared} {A:Around} {E:Value->Shared->Prop} {a b:Addr} {kvs:List (List Key×V)} {k:List Key} {r:Value} {Q:Value->Shared->Prop} (hu:A.units+1 < cLine) (I:Inv X pins σ H s) (e:H a=some (.dT kvs)) (eb:H b=some (.tup (k.map kV)))
  (h1:∀(j:Nat) (v:V),kvs[j]?=some (k,v)->∀w' s',Inv X pins σ (upd H a (.dT (kvs.eraseIdx j))) s'->RelV v w'->Q w' s') (h2:(∀(j:Nat) (v:V),kvs[j]?≠some (k,v))->∀s',Inv X pins σ H s'->Q r s'):wpAny (model X.prog X.w) A (call (.builtin "dict.pop") [.ref a,.ref b,r]) Q E s:=by
 obtain⟨z,lo,xs,rel,ob,es,ep,h4,h5,h6,h7,h8⟩:=(show Bp X.prog X.w H s.heap a (.dT kvs) from I.hok a _ e)
 have T:s.TypeIs (.ref a) "dict":=⟨ob,h4,h5.1⟩
 refine Qbv F.slot_dict_pop T F.entry_dict_pop ?_ (F.args_dict_pop_3 _ _ _)
 unfold Builtin.«dict.pop»
 refine Qcv ?_
 unfold Builtin.Dict.keyAndDefault
 refine Qcv (wpAny_notOrdered_dict T ?_)
 show wpAny _ _ (pure (a,Value.ref b,some r)) _ _ s
 refine Qcw ?_
 dsimp only
 rw[if_neg (show ¬((keyPart (Value.ref b)).isSome=true) from QaS)]
 have hlen:xs.length=kvs.length:=(QbX rel).symm
 have hkey:=JQ I.hok eb
 have none_of:(∀(j:Nat) (p:Addr×Value),xs[j]?≠some (k,p))->∀(j:Nat) (v:V),kvs[j]?≠some (k,v):=λhno j v hj=>by
  obtain⟨q,hq,e1,_⟩:=sG rel hj
  have e1:k=q.1:=e1
  exact hno j q.2 (by rw[hq,e1])
 have fin:∀tk,(∀(j:Nat) (v:V),kvs[j]?≠some (k,v))->Q r { s with toks:=tk }:=λtk hno=>h2 hno _ (I.tok _)
 refine Qcv (wpAny_dictEntries h4 h6 (Qcv (Qcw ?_)))
 have miss:∀(tk:Nat),(∀(j:Nat) (v:V),kvs[j]?≠some (k,v))->wpAny (model X.prog X.w) A.in1 (do Builtin.Dict.missedRemoval a (Value.ref b);rule "dict.pop.default";ret r) (λfin s'=>∃v,fin=PySem.Fin.done (Flow.ret v)/\Q v s') E { s with toks:=tk }:=λtk hno=>by
  unfold Builtin.Dict.missedRemoval
  rw[if_neg (by rw[lo];exact QaS)]
  exact Qcv (Qcw (Qcv (wpAny_rule (Qcw ⟨_,rfl,fin tk hno⟩))))
 by_cases hem:es.isEmpty=true
 ·rw[if_pos hem]
  have hk0:kvs=[]:=by
   have h1:=size_of_entries h7
   have h2:es.size=0:=by simpa using hem
   exact List.length_eq_zero_iff.mp (by omega)
  have h3:=miss s.toks λj v hj=>by rw[hk0] at hj;cases hj
  exact Qcv (wpAny_rule (Qcv (Qcw h3)))
 ·rw[if_neg hem]
  refine Qcv (eZ (knd:=tupleKind (Bx X.prog X.w)) (Qbd hu) hkey h4 h5 h6 h7 ?_ h8 (by omega) (λhno=>miss _ (none_of hno)) λj p hj h' o' es' g1 g2 g3 g4 sb=>?_)
  ·intro x hx
   obtain⟨i,hi⟩:=QaG hx
   obtain⟨pv,_,e1,hb,_⟩:=Vf rel hi
   rw[<-e1]
   exact JQ I.hok hb
  ·obtain⟨pv,hp,e1,_,rv⟩:=Vf rel hj
   have hp:kvs[j]?=some (k,pv.2):=by
    rw[hp]
    have:pv.1=k:=e1
    rw[<-this]
   have nd:((xs.eraseIdx j).map (·.1)).Nodup:=(List.Sublist.map _ (List.eraseIdx_sublist xs j)).nodup h8
   refine Qcv (wpAny_letGo (Qcw ⟨_,rfl,h1 j pv.2 hp _ _ ?_ rv⟩))
   refine Oi I (by rw[e];exact True.intro) sb ⟨o',g1⟩ ⟨by have:=List.length_eraseIdx_le kvs j;omega,lo,xs.eraseIdx j,?_,o',es',_,g1,g2,g3,g4,nd⟩
   refine Paired.Bb (O8 j rel) λx y hxy=>⟨hxy.1,?_,hxy.2.2⟩
   rw[Al (cj hxy.2.1 e (λz=>nomatch z))]
   exact hxy.2.1
section
variable {X:Cx} {o e f:Expr} {apos cpos:Pos} {td ty tx:TE}
theorem lN (hu:X.A.units+1 < cLine) (ho:PE X o td) (he:PE X e ty) (hf:PE X f tx) (m:M2 X o "pop" apos e f cpos):PE X (.Call (.Attribute o "pop" apos) [e,f] [] cpos) (vh td ty tx):=by
 intro pins s σ H Q I h
 refine wpAny_Call_method m.base m.few m.line PySem.F.plainAttrs_dict PySem.F.slot_dict_pop PySem.F.type_dict_pop (thn (ho pins s σ H _ I h) λu s1 ⟨x,H1,I1,rx,a,ex,d,q1⟩=>?_)
 subst ex
 obtain rfl:u=Value.ref a:=rx
 obtain⟨t1,t2,_⟩:=iJ I1 d
 refine⟨t1,t2,?_⟩
 rw[m.trees]
 refine Calls.callWith_builtin rfl (Calls.evalArgs_plain (Qbe (thn (he pins s1 σ H1 _ I1 q1) λiv s2 ⟨y,H2,I2,ry,q2⟩=>
  Qbe (thn (hf pins s2 σ H2 _ I2 q2) λfv s3 ⟨z,H3,I3,rz,kvs,k,b,ea,ey,eb,q3,q4⟩=>Calls.spliced_nil ?_))))
 subst ey
 obtain rfl:iv=Value.ref b:=ry
 exact yG hu I3 ea eb (λj v hj w' s4 I4 rw'=>⟨v,_,I4,rw',q3 j v hj⟩) λhno s4 I4=>⟨z,H3,I4,rz,q4 hno⟩
end
section
variable {prog:Program} {w:World} {A:Around} {E:Value->Shared->Prop} {s:Shared} {R:Result->Shared->Prop}
theorem OD {h h':Heap} {k:List Key} {a:Addr} (x:(tupleKind (Bx prog w)).is h k a) (f:∀o,h.get? a=some o->h'.get? a=some o):(tupleKind (Bx prog w)).is h' k a:=by
 obtain⟨o,its,n,h1,r⟩:=x
 exact⟨o,its,n,f o h1,r⟩
theorem iC {h:Heap} {k:List Key} {a:Addr} (x:(tupleKind (Bx prog w)).is h k a):∃o,h.get? a=some o:=by
 obtain⟨o,its,n,h1,r⟩:=x
 exact⟨o,h1⟩
theorem Tz {h h':Heap} {d:Addr} {xs:List (List Key×Addr×Value)} (m:h.DictOfH (tupleKind (Bx prog w)) d xs) (f:∀o,h.get? d=some o->h'.get? d=some o) (g:∀x∈xs,∀o,h.get? x.2.1=some o->h'.get? x.2.1=some o):h'.DictOfH (tupleKind (Bx prog w)) d xs:=by
 obtain⟨o,es,ep,h1,h2,h3,h4,h5,h6⟩:=m
 exact⟨o,es,ep,f o h1,h2,h3,h4,λx hx=>OD (h5 x hx) (g x hx),h6⟩
theorem pZ {xs:List (List Key×Addr×Value)} {k:List Key} (h:∀x∈xs,x.1≠k):atKey xs k=none:=atKey_none_of_get λj p hj=>h _ (QaD hj) rfl
theorem U6 {d it l:Addr} {items:List Value} {res:Value} (hu:A.units+1 < cLine) (hh:A.handled=none) (ndi:d≠it) (nld:l≠d) (nli:l≠it):∀(rs:List (Addr×List Key×Addr×Value)) (i:Nat) (acc:List (List Key×Addr×Value)) (s:Shared),s.heap.IsListIter it l i->s.heap.IsList l items.toArray ->
  items.drop i=rs.map (λr=>Value.ref r.1)->(∀r∈rs,s.heap.IsTuple r.1 #[.ref r.2.2.1,r.2.2.2]/\(tupleKind (Bx prog w)).is s.heap r.2.1 r.2.2.1/\(r.1≠d/\r.1≠it)/\r.2.2.1≠d/\r.2.2.1≠it)->(∀x∈acc,x.2.1≠d/\x.2.1≠it)->(acc.map (·.1)++rs.map (·.2.1)).Nodup->s.heap.DictOfH (tupleKind (Bx prog w)) d acc->acc.length+rs.length<=sizeLine ->
  (∀h' tk,h'.DictOfH (tupleKind (Bx prog w)) d (acc++rs.map λr=>(r.2.1,r.2.2.1,r.2.2.2))->(∀b o,b≠d->b≠it->s.heap.get? b=some o->h'.get? b=some o)->R (.ok (.ret res)) { s with heap:=h',toks:=tk }) ->
  codeAny (model prog w) A (.builtin "dict.update.loop" ⟨[.ref d,.ref it,rawInt i,res],[]⟩) R s
 | [],i,acc,s,hit,hl,hd,_,ha,nd,hm,hz,hR=>by
  refine codeAny_builtin Oh ?_
  rw[Around.under_plainId Ig _]
  show wpAny _ A.in1 (pyNext (.ref it) >>= _) _ _ s
  have hx:items.toArray[i]?=none:=by
   have:items.length<=i:=by simpa using hd
   simp[this]
  refine Qcv (wpAny_pyNext_list_end (show A.in1.handled=none from hh) hit hl hx λh' ex=>?_)
  refine Qcv (Qcw ?_)
  refine Qcw ?_
  rw[List.map_nil,QbF] at hR
  exact hR h' s.toks (Tz hm (λo e=>ex _ _ ndi e) λx hx o e=>ex _ _ (ha x hx).2 e) λb o nb nt q=>ex b o nt q
 | (t,k,kb,v)::rs,i,acc,s,hit,hl,hd,hr,ha,nd0,hm,hz,hR=>by
  refine codeAny_builtin Oh ?_
  rw[Around.under_plainId Ig _]
  show wpAny _ A.in1 (pyNext (.ref it) >>= _) _ _ s
  have hx:items.toArray[i]?=some (.ref t):=by
   have:=congrArg List.head? hd
   rw[List.head?_drop] at this
   simpa using this
  have hd':items.drop (i+1)=rs.map (λr=>Value.ref r.1):=by
   rw[<-List.tail_drop,hd];rfl
  obtain⟨⟨ot,ho,hc,n,hdt⟩,hk,⟨nd,ni⟩,kd,ki⟩:=hr _ (QaR ..)
  refine Qcv (wpAny_pyNext_list_item hit hl hx λh1 hit1 sb1=>?_)
  have k1:∀b o,b≠it->s.heap.get? b=some o->h1.get? b=some o:=λb o nb q=>(sb1.2 b nb).trans q
  refine Qcv (Qcc ?_)
  refine Qcv (wpAny_tryCatch ?_)
  have hT:(⟨h1,s.gens,s.drawn,s.toks,s.os⟩ : Shared).TypeIs (.ref t) "tuple":=⟨ot,k1 _ _ ni ho,hc⟩
  unfold Builtin.Dict.pairItems
  refine Qcv (wpAny_typeOf hT ?_)
  rw[if_pos (by decide)]
  refine Qcv (QbW (k1 _ _ ni ho) hdt (Qcw ?_))
  show wpAny _ A.in1 (holding [.ref kb,v] (dictSet d (.ref kb) v)) _ _ _
  have hm1:h1.DictOfH (tupleKind (Bx prog w)) d acc:=Tz hm (λo e=>k1 _ _ ndi e) λx hx o e=>k1 _ _ (ha x hx).2 e
  have hk1:=OD hk λo e=>k1 _ _ ki e
  have hnew:atKey acc k=none:=pZ λx hx e=>by
   have:=(List.nodup_append.mp nd0).2.2 x.1 (Qci.mpr ⟨x,hx,rfl⟩) k (QaR ..)
   exact this e
  have hz0:acc.length+(rs.length+1)<=sizeLine:=hz
  refine Qcc (wpAny_dictSet_heap (show (tupleKind (Bx prog w)).room A.in1 from Qbd hu) hk1 hm1 (λh2 hm2 sb2=>?_) (by omega))
  rw[storedH_new hnew] at hm2
  have k2:∀b o,b≠d->h1.get? b=some o->h2.get? b=some o:=λb o nb q=>(sb2.2 b nb).trans q
  refine Qcw ⟨plainId_quiet Ig _,?_⟩
  have key:∀j:Int,rawInt (j+1)=rawInt (j+1):=λ_=>rfl
  have e1:rawInt ((i:Int)+1)=rawInt ((i+1:Nat):Int):=by rw[Int.natCast_add];rfl
  show codeAny (model prog w) A (.builtin "dict.update.loop" ⟨[.ref d,.ref it,rawInt ((i:Int)+1),res],[]⟩) R _
  rw[e1]
  obtain⟨oi,b1,b2⟩:=hit1
  obtain⟨ol,c1,c2⟩:=hl
  refine U6 hu hh ndi nld nli rs (i+1) (acc++[(k,kb,v)]) _ ⟨oi,k2 _ _ (Ne.symm ndi) b1,b2⟩ ⟨ol,k2 _ _ nld (k1 _ _ nli c1),c2⟩ hd' (λr hrm=>?_) (λx hx=>?_) ?_ hm2 ?_ λh' tk x y=>hR h' tk (by rw[Qbh] at x;exact x) λb o nb nt q=>y b o nb nt (k2 _ _ nb (k1 _ _ nt q))
  ·obtain⟨⟨ob,d1,d2⟩,d3,⟨d4,d5⟩,d6,d7⟩:=hr r (QaE _ hrm)
   exact⟨⟨ob,k2 _ _ d4 (k1 _ _ d5 d1),d2⟩,OD d3 λo e=>k2 _ _ d6 (k1 _ _ d7 e),⟨d4,d5⟩,d6,d7⟩
  ·rcases QbD.mp hx with h | h
   ·exact ha x h
   ·have:x=(k,kb,v):=by simpa using h
    rw[this]
    exact⟨kd,ki⟩
  ·rw[QbC,Qbh]
   exact nd0
  ·rw[QaQ]
   show acc.length+1+rs.length<=sizeLine
   omega
end
section
variable {prog:Program} {w:World} {A:Around} {E:Value->Shared->Prop} {s:Shared}
theorem VR {l:Addr} {items:List Value} {c:Nat} {rs:List (Addr×List Key×Addr×Value)} {Q:Value->Shared->Prop} (hu:A.units+2 < cLine) (hh:A.handled=none) (hl:s.heap.get? l=some (seqObj "list" items.toArray c)) (hi:items=rs.map (λr=>Value.ref r.1))
  (hr:∀r∈rs,s.heap.IsTuple r.1 #[.ref r.2.2.1,r.2.2.2]/\(tupleKind (Bx prog w)).is s.heap r.2.1 r.2.2.1) (nd:(rs.map (·.2.1)).Nodup) (hz:rs.length<=sizeLine)
  (h:∀d h' tk,s.heap.objs.size<=d->h'.DictOfH (tupleKind (Bx prog w)) d (rs.map λr=>(r.2.1,r.2.2.1,r.2.2.2))->(∀b o,s.heap.get? b=some o->h'.get? b=some o)->Q (.ref d) { s with heap:=h',toks:=tk }) :
  wpAny (model prog w) A (call (.type "dict") [.ref l]) Q E s:=by
 refine callType_codes (Q₁:=λobj s₁=>obj=.ref s.heap.objs.size/\s₁={ s with heap:=s.heap.push { cls:=.type "dict",data:=.dict #[] } }) F.kt_called_dict (F.kt_typeCall_dict_1 _) F.entry_dict_init (kt_code_dict_new _ ⟨rfl,rfl⟩) ?_
 rintro obj s₁ ⟨rfl,rfl⟩
 have hnew:(s.heap.push { cls:=.type "dict",data:=.dict #[] }).DictOfH (tupleKind (Bx prog w)) s.heap.objs.size []:=Heap.DictOfH.new s.heap
 have k1:∀b o,s.heap.get? b=some o->b≠s.heap.objs.size/\(s.heap.push { cls:=.type "dict",data:=.dict #[] }).get? b=some o:=λb o q=>⟨Qcj (Qch q),Qav _ q⟩
 generalize hd:s.heap.objs.size=d at hnew k1
 have ld:s.heap.objs.size<=d:=Nat.le_of_eq hd
 generalize s.heap.push { cls:=.type "dict",data:=.dict #[] }=g1 at hnew k1
 refine⟨hnew.typeIs,F.args_dict_init_2 _ _,?_⟩
 unfold Builtin.«dict.__init__»
 refine Qcv ?_
 unfold Builtin.Dict.selfAndRest
 refine Qcv (wpAny_notOrdered_dict hnew.typeIs ?_)
 show wpAny _ _ (pure (d,[Value.ref l])) _ _ _
 refine Qcw ?_
 show wpAny _ _ (Builtin.Dict.updateFrom "dict.__init__" d (.ref l) [] .none) _ _ _
 unfold Builtin.Dict.updateFrom
 have hl1:=(k1 _ _ hl).2
 refine Qcv (wpAny_typeOf (show (⟨g1,s.gens,s.drawn,s.toks,s.os⟩ : Shared).TypeIs (.ref l) "list" from⟨_,hl1,rfl⟩) ?_)
 rw[if_pos (by decide)]
 refine Qcv (tR (show A.in1.in1.handled=none from hh) hl1 λg2 tk k2=>?_)
 rw[show (none:Option Value).isNone=true from rfl,if_pos rfl]
 refine Qcv (wpAny_rule ?_)
 have hl2:=k2 _ _ hl1
 refine Qcv (Qbp (items:=items.toArray) ⟨_,hl2,rfl,_,rfl⟩ ?_)
 obtain⟨od,es,ep,a1,a2⟩:=hnew
 have nit:∀b o,g2.get? b=some o->b≠g2.objs.size:=λb o q=>Qcj (Qch q)
 have k3:∀b o,g2.get? b=some o->(g2.push { cls:=.type "list_iterator",data:=.fields #[.ref l,.int 0 0] }).get? b=some o:=λb o q=>Qav _ q
 refine Qcw ⟨plainId_quiet Ig _,?_⟩
 have kk:∀b o,s.heap.get? b=some o->(b≠d/\b≠g2.objs.size)/\(g2.push { cls:=.type "list_iterator",data:=.fields #[.ref l,.int 0 0] }).get? b=some o:=λb o q=>⟨⟨(k1 _ _ q).1,nit _ _ (k2 _ _ (k1 _ _ q).2)⟩,k3 _ _ (k2 _ _ (k1 _ _ q).2)⟩
 refine U6 (items:=items) (show A.in1.units+1 < cLine from hu) (show A.in1.handled=none from hh) (nit _ _ (k2 _ _ a1)) (k1 _ _ hl).1 (nit _ _ hl2) rs 0 [] _ ⟨_,QaI _ rfl,rfl,rfl⟩ ⟨_,k3 _ _ hl2,rfl,_,rfl⟩ (by rw[List.drop_zero];exact hi) (λr hrm=>?_) (λx hx=>by cases hx) nd ?_ (by rw[List.length_nil];omega) λh' tk' x y=>⟨rfl,h d h' tk' ld x λb o q=>y b o (k1 _ _ q).1 (kk _ _ q).1.2 (kk _ _ q).2⟩
 ·obtain⟨⟨ob,d1,d2⟩,d3⟩:=hr r hrm
  obtain⟨oo,e0⟩:=iC d3
  exact⟨⟨ob,(kk _ _ d1).2,d2⟩,OD d3 λo e=>(kk _ _ e).2,(kk _ _ d1).1,(kk _ _ e0).1⟩
 ·exact⟨od,es,ep,k3 _ _ (k2 _ _ a1),a2.1,a2.2.1,a2.2.2.1,(λx hx=>by cases hx),QbV⟩
end
def YC (H:Hp) (v:V) (r:List Key×V):Prop:=∃t b,v=.ref t/\H t=some (.tup [.ref b,r.2])/\H b=some (.tup (r.1.map kV))
theorem Xb {P:Program} {w:World} {H:Hp} {h:Heap} (ok:HOk P w H h):∀{vs:List V} {rows:List (List Key×V)} {us:List Value},Paired (YC H) vs rows->Vals vs us ->
  ∃rs:List (Addr×List Key×Addr×Value),us=rs.map (λr=>Value.ref r.1)/\(∀r∈rs,h.IsTuple r.1 #[.ref r.2.2.1,r.2.2.2]/\(tupleKind (Bx P w)).is h r.2.1 r.2.2.1)/\Paired (λ(p:List Key×V) (q:List Key×Addr×Value)=>p.1=q.1/\H q.2.1=some (.tup (p.1.map kV))/\RelV p.2 q.2.2) rows (rs.map λr=>(r.2.1,r.2.2.1,r.2.2.2))/\rs.length=rows.length/\rs.map (·.2.1)=rows.map (·.1)
 | _,_,_,.nil,.nil=>⟨[],rfl,(λ_ h=>by cases h),.nil,rfl,rfl⟩
 | _,_,_,.cons (b:=row) ⟨t,b,e,ht,hb⟩ p,.cons r q=>by
  obtain⟨rs,h1,h2,h3,h4,h5⟩:=Xb ok p q
  subst e
  cases r
  obtain⟨_,its,rv,o,ho,hc,n,hd⟩:=ok t _ ht
  cases rv with
  | cons a1 rv=>
   rename_i u1 us1
   cases rv with
   | cons a2 rv=>
    rename_i u2 us2
    cases rv
    cases (show u1=Value.ref b from a1)
    refine⟨(t,row.1,b,u2)::rs,by rw[h1];rfl,λr hr=>?_,.cons ⟨rfl,hb,a2⟩ h3,by rw[Qbr,h4];rfl,by rw[QbZ,h5];rfl⟩
    rcases QbY.mp hr with e | e
    ·rw[e];exact⟨⟨o,ho,hc,n,hd⟩,JQ ok hb⟩
    ·exact h2 r e
def rR:List V->Hp->VK->Prop:=λxs H Q=>∃l vs rows,xs=[.ref l]/\H l=some (.lst vs)/\Paired (YC H) vs rows/\(rows.map (·.1)).Nodup/\rows.length < 1000/\∀d,H d=none->Q (.ref d) (upd H d (.dT rows))
theorem Zf {X:Cx} (hu:X.A.units+64 < cLine) (hc:X.calm=true):Eb X (.type "dict") rR:=by
 intro pins s σ H xs us Q I r h
 obtain⟨l,vs,rows,rfl,hl,pr,nd,hz,q⟩:=h
 obtain⟨u,rfl,rx⟩:=vals1 r
 cases rx
 obtain⟨_,its,n,rv,ho⟩:=(show Bp X.prog X.w H s.heap l (.lst vs) from I.hok l _ hl)
 obtain⟨rs,h1,h2,h3,h4,h5⟩:=Xb I.hok pr rv
 have zz:rows.length<=sizeLine:=Qcn (Ao (Qcn hz))
 refine VR (by omega) (I.ok.hd hc) ho h1 h2 (by rw[h5];exact nd) (by rw[h4];exact zz) λd h' tk ld hd kp=>?_
 have fr:=I.hok.fresh ld
 have hb:=I.big
 obtain⟨o,es,ep,g1,g2,g3,g4,_,g6⟩:=hd
 refine⟨.ref d,_,I.laid (t':=tk) (o:=.dT rows) kp ld ⟨zz,QaJ.mpr (Qcm (QaW hb ld)),_,Paired.Bb h3 λx y hxy=>⟨hxy.1,?_,hxy.2.2⟩,o,es,ep,g1,g2,g3,g4,g6⟩,rfl,q d fr⟩
 rw[Al (Av hxy.2.1 fr)]
 exact hxy.2.1
open PySem.W (KasT kas_asc kas_desc kas_rev kas_tail3 kas_descPart kas_count kas_place kas_bin kas_sort)
structure C3 (a b c k:Int):Prop where
 b0:0<=b
 b1:b < 100
 c0:0<=c
 c1:c < 100
 k:k=a*10000+b*100+c
def T4 (K:PySem.W.Frag) (H:Hp) (v:V) (k:Int):Prop:=∃t a b c,v=.ref t/\SqT K H t [.int a,.int b,.int c]/\C3 a b c k
theorem qH {K:PySem.W.Frag} {H:Hp}:∀{vs:List V} {ks:List Int},Paired (T4 K H) vs ks->dO K H vs
 | _,_,.nil,_,h=>nomatch h
 | _,_,.cons x r,v,h=>by
  rcases QbY.mp h with rfl | h
  ·obtain⟨t,a,b,c,e,q,_⟩:=x
   exact⟨t,[a,b,c],e,q,Nat.succ_pos _⟩
  ·exact qH r v h
section
variable {prog:Program} {w:World} {A:Around} {s:Shared}
theorem IF {fin:Bool} {C:Bool->Shared->Prop} {a b c k a' b' c' k':Int} {t1 t2 t3 u1 u2 u3:Tok} (x:C3 a b c k) (y:C3 a' b' c' k') (ne:k≠k') (hC:C (decide (k < k')) s):PySem.W.KatLex prog w A true fin C ([Value.int a t1,Value.int b t2,Value.int c t3].zip [Value.int a' u1,Value.int b' u2,Value.int c' u3]) 0 s:=by
 have x1:=x.b0
 have x2:=x.b1
 have x3:=x.c0
 have x4:=x.c1
 have x5:=x.k
 have y1:=y.b0
 have y2:=y.b1
 have y3:=y.c0
 have y4:=y.c1
 have y5:=y.k
 rw[List.zip_cons_cons]
 refine kat_cons (wpAny_eqBool_int ?_)
 by_cases ha:a=a'
 ·rw[show (a == a')=true by rw[ha];exact beq_self_eq_true a']
  refine PySem.W.kat_yes ?_
  rw[List.zip_cons_cons]
  refine kat_cons (wpAny_eqBool_int ?_)
  by_cases hb:b=b'
  ·rw[show (b == b')=true by rw[hb];exact beq_self_eq_true b']
   refine PySem.W.kat_yes ?_
   rw[List.zip_cons_cons]
   refine kat_cons (wpAny_eqBool_int ?_)
   have hc:c≠c':=λz=>ne (by rw[x5,y5,ha,hb,z])
   rw[show (c == c')=false from QaJ.mpr hc]
   refine PySem.W.kat_no (PySem.W.kat_one _ _ (lt_int ?_))
   rw[show decide (c < c')=decide (k < k') by rw[QbL,Qba,Qba];subst ha hb;constructor <;> intro h <;> omega]
   exact hC
  ·rw[show (b == b')=false from QaJ.mpr hb]
   refine PySem.W.kat_no (PySem.W.kat_one _ _ (lt_int ?_))
   rw[show decide (b < b')=decide (k < k') by rw[QbL,Qba,Qba];subst ha;constructor <;> intro h <;> omega]
   exact hC
 ·rw[show (a == a')=false from QaJ.mpr ha]
  refine PySem.W.kat_no (oneLt_int ?_)
  rw[show decide (a < a')=decide (k < k') by rw[QbL,Qba,Qba];constructor <;> intro h <;> omega]
  exact hC
end
@[irreducible] def S6 (K:PySem.W.Frag):List V->Hp->VK->Prop:=λxs H Q=>∃(p:Addr) (vs:List V) (ks:List Int),xs=[.ref p]/\SqL K H p vs/\vs.length < 64/\Paired (T4 K H) vs ks/\ks.Nodup /\
 ∀(is:List Nat) l,is.Perm (List.range vs.length)->(is.map λi=>ks.getD i 0).Pairwise (· < ·)->H l=none->Q (.ref l) (upd H l (.lst (is.map λi=>vs.getD i .non)))
theorem kj {K:PySem.W.Frag} {p:Addr} {vs:List V} {ks:List Int} {H:Hp} {Q:VK} (h1:SqL K H p vs) (h2:vs.length < 64) (h3:Paired (T4 K H) vs ks) (h4:ks.Nodup)
  (q:∀(is:List Nat) l,is.Perm (List.range vs.length)->(is.map λi=>ks.getD i 0).Pairwise (· < ·)->H l=none->Q (.ref l) (upd H l (.lst (is.map λi=>vs.getD i .non)))):S6 K [.ref p] H Q:=by
 unfold S6
 exact⟨p,vs,ks,rfl,h1,h2,h3,h4,q⟩
theorem Ys {X:Cx}:Eb X (.builtin "sorted") (S6 X.K):=by
 intro pins s σ H xs us Q I r h
 unfold S6 at h
 obtain⟨p,vs,ks,rfl,hq,h64,hK,hnd,q⟩:=h
 have hR:dO X.K H vs:=qH hK
 have hkl:vs.length=ks.length:=QbX hK
 obtain⟨u,rfl,rx⟩:=vals1 r
 cases rx
 obtain⟨its,rv,pl,hz⟩:=I.list hq
 have hlen:vs.length=its.length:=rv.length
 by_cases h2:2<=its.length
 ·obtain⟨m,hn,_⟩:=id I.loc
  refine PySem.W.kat_sorted (Att.yu hn) (mO (g:=Att.Te s.heap) (h:=s.heap) (L:=X.env.locals)) pl.isList h2 (by omega) λD e1 h' F' N' hD=>?_
  have kp:∀b o,b≠X.env.locals->s.heap.get? b=some o->h'.get? b=some o:=λb o hb e=>(N' (b,o) (QaE _ (NK hb (Att.Lq _ _) e))).1
  have nl:∀b,H b≠none\/(∃u,X.base.get? b=some u)->b≠X.env.locals:=λb hb z=>by
   rcases hb with hb |⟨u,hb⟩
   ·exact hb (by rw[z];exact I.free)
   ·have:=Qch hb
    rw[z] at this
    exact absurd (QaW this (Qck I.ok.bsz I.ok.above)) (Qcb _)
  obtain⟨fs,f1,f2,f3⟩:=Z8 (h':=h') I (λb o hb e=>kp b o (nl b hb) e) rv hR
  refine PySem.W.kat_kind f1 (by omega) (λv hv=>by obtain⟨i,t,rfl⟩:=f3 v hv;exact PySem.W.Looks.of_pure rfl) (T:=.type "int") (by decide) ?_
  have inj:Inj its.length (λi=>ks.getD i 0):=λi j hi hj e=>by
   have e:ks.getD i 0=ks.getD j 0:=e
   have e1:ks.getD i 0=ks[i]'(by omega):=by simp[show i < ks.length by omega]
   have e2:ks.getD j 0=ks[j]'(by omega):=by simp[show j < ks.length by omega]
   rw[e1,e2] at e
   exact gW hnd _ _ e
  have hp:=RQ (lt:=ltK λi=>ks.getD i 0) _ (YB (n:=its.length) (by omega))
  have O2:=KC.list hp (kY inj h2)
  refine Z9 (lt:=ltK λi=>ks.getD i 0) (n:=its.length) (λi j C hi hj hC=>?_) _ (YB (by omega)) ?_
  ·have qw:∀i,i < its.length->∃(x:Addr) (ox:Obj) (ws:Array Value) (n:Nat),its.getD i Value.none=.ref x/\h'.get? x=some ox/\ox.data=.seq ws n/\(∃a b c t1 t2 t3,ws.toList=[Value.int a t1,Value.int b t2,Value.int c t3]/\C3 a b c (ks.getD i 0))/\∀y∈ws.toList,∃a t,y=Value.int a t:=λi hi=>by
    have hvi:i < vs.length:=by omega
    obtain⟨u,hu,ru⟩:=rv.get (x:=vs[i]) (i:=i) (by simp[hvi])
    obtain⟨tp,ka,kb,kc,e,hq',hC3⟩:=YM V.non (0:Int) hK hvi
    have hq':SqT X.K H tp (([ka,kb,kc]:List Int).map V.int):=hq'
    have ev:vs.getD i V.non=vs[i]:=by simp[hvi]
    rw[ev] at e
    rw[e] at ru
    cases ru
    obtain⟨ws,rw',⟨o,ho,hc,n,hd⟩,_⟩:=I.tuple hq'
    have go:∀{ns:List Int} {ws:List Value},Vals (ns.map V.int) ws->∀y∈ws,∃a t,y=Value.int a t:=by
     intro ns
     induction ns with
     | nil=>intro ws r;cases r;exact λy hy=>nomatch hy
     | cons n0 nr ih=>
      intro ws r
      cases r with
      | cons r0 rr=>
       intro y hy
       rcases QbY.mp hy with rfl | hy
       ·obtain⟨t,e⟩:=r0;exact⟨_,_,e⟩
       ·exact ih rr y hy
    refine⟨tp,o,ws.toArray,n,?_,kp tp o (nl tp ?_) ho,hd,?_,λy hy=>go rw' y (by simpa using hy)⟩
    ·rw[Qag,hu];rfl
    ·rcases hq' with (z |⟨_,z⟩) |⟨_,_,_,z,_⟩
     ·exact .inl (by rw[z];exact λz=>nomatch z)
     ·exact .inl (by rw[z];exact λz=>nomatch z)
     ·exact .inr ⟨_,I.mod.kin _ _ z⟩
    ·cases rw' with
     | cons r0 rr=>
      cases rr with
      | cons r1 rr=>
       cases rr with
       | cons r2 rr=>
        cases rr
        obtain⟨t0,e0⟩:=r0
        obtain⟨t1,e1⟩:=r1
        obtain⟨t2,e2⟩:=r2
        exact⟨ka,kb,kc,t0,t1,t2,by rw[e0,e1,e2],hC3⟩
   obtain⟨x,ox,wx,nx,ex,hx,dx,⟨xa,xb,xc,x1,x2,x3,fx,cx⟩,ix⟩:=qw i hi
   obtain⟨y,oy,wy,ny,ey,hy,dy,⟨ya,yb,yc,y1,y2,y3,fy,cy⟩,iy⟩:=qw j hj
   unfold PySem.W.kas_ask
   rw[ex,ey]
   refine PySem.W.kat_lt hx dx hy dy ?_
   by_cases ne:i=j
   ·subst ne
    rw[ex] at ey
    cases ey
    rw[hx] at hy
    cases hy
    rw[dx] at dy
    cases dy
    have e0:ltK (λi=>ks.getD i 0) i i=false:=QbG (Int.lt_irrefl _)
    rw[e0] at hC
    have e1:decide (wx.size < wx.size)=false:=QbG (Qcb _)
    rw[e1]
    exact wQ hC _ ix 0
   ·rw[fx,fy]
    exact IF cx cy (λz=>ne (inj i j hi hj z)) hC
  ·refine PySem.W.KasFin.intro F' N' (.head λq hq=>Qcj (hD q hq)) λh2' c F2 N2=>?_
   generalize Ft (ltK λi=>ks.getD i 0) (kas_sort its.length)=pp at hp O2 N2 ⊢
   have kp2:∀b o,b≠X.env.locals->s.heap.get? b=some o->h2'.get? b=some o:=λb o hb e=>(N2 (b,o) (QaE _ (NK hb (Att.Lq _ _) e))).1
   obtain⟨oD,DL,_⟩:=N2 (D,_) (QaR ..)
   have nD:∀b o,s.heap.get? b=some o->b≠D:=λb o e z=>by
    by_cases hb:b=X.env.locals
    ·exact DL (by rw[<-z];exact hb)
    ·have:=hD (b,o) (NK hb (Att.Lq _ _) e)
     rw[z] at this
     exact Qcb _ this
   have hDn:H D=none:=by
    cases e:H D with
    | none=>rfl
    | some v=>
     obtain⟨o,ho⟩:=(I.hok D v e).there
     exact absurd rfl (nD D o ho)
   have tr:∀(o:HO) b u,H b=some u->(upd H D o) b=some u:=λo b u e=>by rw[Al (Av e hDn)];exact e
   have hmem:∀i∈pp.toList,i < vs.length:=λi hi=>by rw[hlen];exact QbU.mp (hp.mem_iff.mp hi)
   have rv2:Vals (pp.toList.map λi=>vs.getD i .non) (pp.toList.map λi=>its.getD i Value.none):=Vd V.non Value.none rv hmem
   have pm:(pp.toList.map λi=>vs.getD i .non).Perm vs:=by
    have:=hp.map λi=>vs.getD i V.non
    rw[<-hlen,range_getD] at this
    exact this
   have I2:Inv X pins σ (upd H D (.lst (pp.toList.map λi=>vs.getD i .non))) { s with heap:=h2' }:=by
    refine I.step (h':=h2') (g':=s.gens) (d':=s.drawn) (t':=s.toks) (ch:=[]) (λb hb=>absurd hb (by simp)) (λb u hb _ _ e _=>kp2 b u hb e) (λb u hb _ _ e _=>⟨u.slots,kp2 b u hb e⟩) (λb u _ e n=>by rw[Al (nD b u e)];exact n)
     (λb u _ e=>?_) (λb ys e=>tr _ _ _ e) (λb u v e=>tr _ _ _ e) (λb ps e=>⟨#[],by rw[tr _ _ _ e];simp⟩) (λm' hm'=>by rw[tO hm' hn];exact F2.ns) (λb u e=>?_) I.bare
    ·by_cases hb:b=X.env.locals
     ·obtain⟨o,_,_,ho,_⟩:=F2.ns
      exact⟨o,by rw[hb];exact ho⟩
     ·exact⟨u,kp2 b u hb e⟩
    ·by_cases hb:b=D
     ·subst hb
      rw[Ac] at e
      cases e
      exact⟨by rw[pm.length_eq];exact Qcn (Ao (by omega)),_,c,rv2,oD⟩
     ·rw[Al hb] at e
      refine (I.hok b u e).stay (λx v hx e1=>kp2 x v ?_ e1) (λx e1=>tr _ _ _ e1) λx ys e1=>tr _ _ _ e1
      intro z
      rcases hx with hx | hx
      ·rw[<-hx,z,I.free] at e;cases e
      ·rw[z,I.free] at hx;cases hx
   exact⟨.ref D,_,I2,rfl,q _ D (by rw[hlen];exact hp) O2 hDn⟩
 ·refine WK pl.isList (by omega) λD h' c hD oD kp=>?_
  refine⟨.ref D,_,I.laid (t':=s.toks) (o:=.lst vs) kp hD ?_,rfl,?_⟩
  ·exact⟨Qcn (Ao (by omega)),its,c,rv,oD⟩
  ·have z:=q (List.range vs.length) D (List.Perm.refl _) (by
    rw[hkl,range_getD]
    match ks,(show ks.length < 2 by omega) with
    | [],_=>exact List.Pairwise.nil
    | [k],_=>exact Qat _ _) (I.hok.fresh hD)
   rw[range_getD] at z
   exact z
end L2
namespace K07
open PySem L2
def top (i:Nat):Stmt:=PySem.Challenge.pw_warnloop_k07_stretches_kept.main.body.getD i (.Pass ⟨0,0,0,0⟩)
theorem Bo:bootBuiltins "isinstance"=some (.builtin "isinstance"):=by trivial
theorem jJ:bootBuiltins "int"=some (.type "int"):=by trivial
theorem uG:bootBuiltins "bool"=some (.type "bool"):=by trivial
theorem Ks:bootBuiltins "tuple"=some (.type "tuple"):=by trivial
theorem UW:bootBuiltins "list"=some (.type "list"):=by trivial
theorem zT:bootBuiltins "str"=some (.type "str"):=by trivial
theorem Dg:bootBuiltins "len"=some (.builtin "len"):=by trivial
theorem Ld:bootBuiltins "all"=some (.builtin "all"):=by trivial
theorem jK:bootBuiltins "abs"=some (.builtin "abs"):=by trivial
theorem Yv:bootBuiltins "max"=some (.builtin "max"):=by trivial
theorem Vq:bootBuiltins "sorted"=some (.builtin "sorted"):=by trivial
theorem jH:bootBuiltins "min"=some (.builtin "min"):=by trivial
theorem uF:bootBuiltins "dict"=some (.type "dict"):=by trivial
structure Nm (mg:Str->Option Value):Prop where
 isinstance:mg "isinstance"=none
 int:mg "int"=none
 bool:mg "bool"=none
 tuple:mg "tuple"=none
 list:mg "list"=none
 str:mg "str"=none
 len:mg "len"=none
 all:mg "all"=none
 abs:mg "abs"=none
 max:mg "max"=none
 min:mg "min"=none
 range:mg "range"=none
 sorted:mg "sorted"=none
 any:mg "any"=none
 sum:mg "sum"=none
 enumerate:mg "enumerate"=none
 zip:mg "zip"=none
 reversed:mg "reversed"=none
 dict:mg "dict"=none
 ord:mg "ord"=none
abbrev LR:Stmt:=top 52
abbrev Oe:List Str:=["_law_script","_law_k"]
theorem Rz:Ba ["_law_script","_law_k","_law_cell"] Oe (Ag LR):=⟨rfl,rfl,rfl,by trivial,rfl,by trivial,by trivial⟩
abbrev J3:Stmt:=top 53
abbrev Gi:List Str:=["_law_bag_here","_law_many"]
theorem Jk:Ba ["_law_bag_here","_law_many","_law_digit","_law_primes","_law_step","_law_base","_law_found"] Gi (Ag J3):=⟨rfl,rfl,rfl,by trivial,rfl,by trivial,by trivial⟩
theorem w5 (v:V):isW v=(isI v&&!isB v):=by cases v <;> rfl
def Br (H:Hp) (b:Addr) (n:Nat):Prop:=∃x y z:Int,H b=some (.lst [.int x,.int y,.int z])/\0<=x/\0<=y/\y<=4294967296/\0<=z/\z<=n
theorem Br.same {H H':Hp} {b:Addr} {n:Nat} (h:Br H b n) (s:Same H H'):Br H' b n:=by
 obtain⟨x,y,z,e,r⟩:=h
 exact⟨x,y,z,s _ _ e,r⟩
theorem Br.mono {H:Hp} {b:Addr} {n m:Nat} (h:Br H b n) (l:n<=m):Br H b m:=by
 obtain⟨x,y,z,e,h1,h2,h3,h4,h5⟩:=h
 exact⟨x,y,z,e,h1,h2,h3,h4,by omega⟩
theorem Br.nb {H:Hp} {b p:Addr} {n:Nat} (h:Br H b n) (hp:H p=none):b≠p:=by obtain⟨_,_,_,e,_⟩:=h;exact Av e hp
theorem Br.Fy {H:Hp} {b:Addr} {n:Nat} (h:Br H b n):∀xs,H b≠some (.tup xs):=λxs z=>by obtain⟨_,_,_,e,_⟩:=h;rw[e] at z;cases z
theorem Br.ex {H:Hp} {b:Addr} {n:Nat} (h:Br H b n):∃o,H b=some o:=by obtain⟨_,_,_,e,_⟩:=h;exact⟨_,e⟩
theorem Br.Cz {H H':Hp} {a b:Addr} {n:Nat} (h:Br H b n) (s:Ai a H H') (ne:b≠a):Br H' b n:=by
 obtain⟨x,y,z,e,r⟩:=h
 exact⟨x,y,z,s _ _ e ne,r⟩
theorem Ar {n:Nat} (h:n<=1000):n<=sizeLine:=Qcn (Ao h)
def qG (K:PySem.W.Frag):Sp:=λvs H Q _=>∃(a:Addr) (ns:List Int) (k:Int),vs=[.ref a,.int k]/\SqL K H a (ns.map V.int)/\ns.length<=63/\0<=k/\k<=100/\∀p o,H p=none->Br (upd H p o) p 0->Q (.ref p) (upd H p o)
def Mq:Sp:=λvs H Q _=>∃(b:Addr) (n:Nat) (m:Int),vs=[.ref b,.int m]/\Br H b n/\n<=10000/\0 < m/\m < 1073741824/\∀r H',0<=r->r < m->Br H' b (n+1)->Ai b H H'->Q (.int r) H'
def V2 (K:PySem.W.Frag):Sp:=λvs H Q _=>∃(a:Addr) (ns:List Int),vs=[.ref a]/\SqL K H a (ns.map V.int)/\ns.length<=63/\∀H',Q (.bl true) H'
theorem at7 {i:Int} (h0:0<=i) (h7:i < 7) {a b c d e f g:Int} (P:Int->Prop) (ha:P a) (hb:P b) (hc:P c) (hd:P d) (he:P e) (hf:P f) (hg:P g):∃p,atI [V.int a,.int b,.int c,.int d,.int e,.int f,.int g] i=some (.int p)/\P p:=by
 have:i=0\/i=1\/i=2\/i=3\/i=4\/i=5\/i=6:=by omega
 rcases this with rfl | rfl | rfl | rfl | rfl | rfl | rfl
 ·exact⟨_,rfl,ha⟩
 ·exact⟨_,rfl,hb⟩
 ·exact⟨_,rfl,hc⟩
 ·exact⟨_,rfl,hd⟩
 ·exact⟨_,rfl,he⟩
 ·exact⟨_,rfl,hf⟩
 ·exact⟨_,rfl,hg⟩
theorem yJ {x:Int} {b:Bool}:d8 x (if b=true then 1 else 0):=.inr (by cases b <;> exact⟨by decide,by decide⟩)
section
variable {P:Program} {w:World} {K:PySem.W.Frag} {mg:Str->Option Value} {base:Heap}
theorem mD (C:Code K mg "_law_bag" LR Oe) (T:Nm mg):Good P w K mg base "_law_bag" 1 Oe (qG K):=by
 refine C.good Rz (λvs H Q E h=>?_) (λf cdv A outer s H vs Q E hr h=>?_)
 ·obtain⟨a,ns,k,rfl,_⟩:=h
  rfl
 obtain⟨a,ns,k,rfl,hS,h63,h0,h1,q⟩:=h
 refine⟨_,(Ah (Bd (i:=2) Rz.nd rfl (Or.inl rfl) (Bg Cp (Bg Cp (Bg Hz (Bg Hz Ae (pv 1)) (pv 1)) (Bg Hz Ae (pv 1))) Ae))
 (Ah (BW (Bs V7 (pv 1) (Aw Bu rfl T.len Dg (Aa (pv 0) Ab)) (BP _)) (Aj (Bd (i:=2) Rz.nd rfl (Or.inl rfl) (Bq CG (pv 0) (pv 1) (λ_ _=>rfl)))) BX)
 (Aj (Bc (BR (Aa (Bg Hz (Aw Yu rfl T.abs jK (Aa (pv 2) Ab)) (EY jF rfl T.int jJ (Aa (Kg AW (Aw Yu rfl T.abs jK (Aa (pv 2) Ab)) (Bg Xl Ae Ae) (BP _)) Ab))) (Aa (Bg Cp (Bg K7 (pv 2) Ae) (Bg Hz Ae (pv 1))) (Aa Ae Ab)))))))),?_⟩
 refine⟨_,rfl,_,_,rfl,rfl,.inl ⟨by decide,by decide⟩,_,rfl,_,_,rfl,rfl,.inr ⟨by omega,by omega⟩,_,rfl,_,_,rfl,rfl,.inl ⟨by decide,by decide⟩,_,_,rfl,rfl,_,_,rfl,rfl,?_⟩
 refine⟨_,rfl,_,rfl,a,_,rfl,.inl hS,_,_,rfl,rfl,_,rfl,?_⟩
 have hl:(ns.map V.int).length=ns.length:=QbB _
 have fin:∀(c:Int) (p:Addr),H p=none->Q (.ref p) (upd H p (.lst [.int ((if c < 0 then -c else c)*(if decide ((10:Int) ^ (18:Int).toNat<=(if c < 0 then -c else c))=true then 1 else 0)),.int (c % 2147483647+37*k),.int 0])):=λc p hp=>by
  refine q p _ hp ⟨_,_,_,Ac,?_,?_,?_,by omega,by omega⟩
  ·refine Int.mul_nonneg ?_ ?_
   ·split <;> omega
   ·split <;> omega
  ·have:=QbP c (show (2147483647:Int)≠0 by decide)
   omega
  ·have:=Qbb c (show (0:Int) < 2147483647 by decide)
   omega
 refine Gn (λc1=>?_) (λc1=>?_)
 ·have c':k < (((ns.map V.int).length:Nat):Int):=Qbj c1
  rw[hl] at c'
  have hk:k.toNat < ns.length:=by omega
  have hat:atI (ns.map V.int) ((k.toNat:Nat):Int)=some (.int ns[k.toNat]):=Gz (by rw[Qbi];simp[hk])
  rw[QaP h0] at hat
  refine⟨_,rfl,_,rfl,a,_,_,_,rfl,rfl,hS,hat,?_⟩
  exact⟨_,rfl,_,rfl,_,rfl,_,rfl,_,_,rfl,rfl,⟨by decide,by decide,by decide⟩,_,_,rfl,rfl,.inr ⟨_,rfl,_,_,rfl,rfl,yJ,_,rfl,_,_,rfl,rfl,(by show (0:Int) < 2147483647;decide),_,rfl,_,_,rfl,rfl,.inl ⟨by decide,by decide⟩,_,_,rfl,rfl,
   (by show 3<=sizeLine;decide),λl hl'=>fin _ l hl'⟩⟩
 ·exact⟨_,rfl,_,rfl,_,rfl,_,rfl,_,_,rfl,rfl,⟨by decide,by decide,by decide⟩,_,_,rfl,rfl,.inr ⟨_,rfl,_,_,rfl,rfl,yJ,_,rfl,_,_,rfl,rfl,(by show (0:Int) < 2147483647;decide),_,rfl,_,_,rfl,rfl,.inl ⟨by decide,by decide⟩,_,_,rfl,rfl,
   (by show 3<=sizeLine;decide),λl hl'=>fin _ l hl'⟩⟩
theorem gP (C:Code K mg "_law_take" J3 Gi) (T:Nm mg):Good P w K mg base "_law_take" 1 Gi Mq:=by
 refine C.good Jk (λvs H Q E h=>?_) (λf cdv A outer s H vs Q E hr h=>?_)
 ·obtain⟨b,n,m,rfl,_⟩:=h
  rfl
 obtain⟨b,n,m,rfl,⟨x,y,z,hb,x0,y0,y1,z0,z1⟩,hn,m0,m1,q⟩:=h
 refine⟨_,(Ah (BW (Bs V8 (Bq CG (pv 0) Ae (λ_ _=>rfl)) Ae (BP _)) (Ah (Bd (i:=2) Jk.nd rfl (Or.inl rfl) (Bg K7 (Bq CG (pv 0) Ae (λ_ _=>rfl)) (pv 1)))
 (Ah (KN (Bg Ul (Bq CG (pv 0) Ae (λ_ _=>rfl)) (pv 1)) (Xi (pv 0) Ae set_list))
 (Aj (Bc (pv 2))))) BX)
 (Ah (Bd (i:=3) Jk.nd rfl (Or.inl rfl) (@Bk _ _ _ _ _ (@Aa _ _ _ _ _ (@Ae _ _ _ _) (@Aa _ _ _ _ _ (@Ae _ _ _ _) (@Aa _ _ _ _ _ (@Ae _ _ _ _) (@Aa _ _ _ _ _ (@Ae _ _ _ _) (@Aa _ _ _ _ _ (@Ae _ _ _ _) (@Aa _ _ _ _ _ (@Ae _ _ _ _) (@Aa _ _ _ _ _ (@Ae _ _ _ _) (@Ab _) Bf) Bf) Bf) Bf) Bf) Bf) Bf)))
 (Ah (KN (Bg Cp (Bq CG (pv 0) Ae (λ_ _=>rfl)) Ae) (Xi (pv 0) Ae set_list))
 (Ah (Bd (i:=4) Jk.nd rfl (Or.inl rfl) (Bq CG (pv 0) Ae (λ_ _=>rfl)))
 (Ah (Bd (i:=5) Jk.nd rfl (Or.inl rfl) (Bg Cp (Bg Cp (Bg Hz (Bq CG (pv 0) Ae (λ_ _=>rfl)) (Bg Cp (Bg Hz Ae (pv 4)) Ae)) (Bg Hz (Bg Hz Ae (pv 4)) (pv 4))) Ae))
 (Ah (Bd (i:=6) Jk.nd rfl (Or.inl rfl) (Bg K7 (Bg Xl (pv 5) Ae) (Bq Cr (pv 3) (Bg K7 (pv 4) Ae) (λ_ _=>rfl))))
 (Aj (Bc (Bg K7 (Bg Ul (Bg K7 (Bg Hz (pv 6) (Bg Cp (Bg Ul (pv 6) Ae) Ae)) (Bq Cr (pv 3) (Bg K7 (Bg Cp (pv 4) Ae) Ae) (λ_ _=>rfl))) Ae) (pv 1)))))))))),?_⟩
 refine⟨_,rfl,b,_,_,_,rfl,rfl,SqL.of hb,rfl,_,_,rfl,rfl,_,rfl,?_⟩
 refine Gn (λc1=>?_) (λc1=>?_)
 ·have c':0 < x:=Qbj c1
  refine⟨_,rfl,b,_,_,_,rfl,rfl,SqL.of hb,rfl,_,rfl,_,_,rfl,rfl,m0,?_⟩
  refine⟨_,rfl,b,_,_,_,rfl,rfl,SqL.of hb,rfl,_,rfl,_,_,rfl,rfl,⟨m0,m1⟩,_,rfl,b,_,_,_,rfl,rfl,hb,rfl,?_⟩
  exact⟨_,rfl,q _ _ (QbP x (by omega)) (Qbb x m0) ⟨x / m,y,z,Ac,Int.ediv_nonneg x0 (by omega),y0,y1,z0,by omega⟩ Ai.upd⟩
 ·refine⟨(by show 7<=sizeLine;decide),λtp htp=>?_⟩
  have nbt:b≠tp:=Av hb htp
  have hb1:∀o,(upd H tp o) b=some (.lst [.int x,.int y,.int z]):=λo=>by rw[Al nbt];exact hb
  have ht1:∀o u,(upd (upd H tp o) b u) tp=some o:=λo u=>by rw[Al nbt.symm,Ac]
  refine⟨_,rfl,b,_,_,_,rfl,rfl,SqL.of (hb1 _),rfl,_,_,rfl,rfl,_,rfl,b,_,_,_,rfl,rfl,hb1 _,rfl,?_⟩
  refine⟨_,rfl,b,_,_,_,rfl,rfl,SqL.of Ac,rfl,?_⟩
  have s0:0<=z+1:=by omega
  have s1:z+1<=10001:=by omega
  refine⟨_,rfl,b,_,_,_,rfl,rfl,SqL.of Ac,rfl,_,rfl,_,_,rfl,rfl,.inl ⟨by decide,by decide⟩,_,_,rfl,rfl,_,_,rfl,rfl,.inl ⟨by omega,by omega⟩,_,rfl,_,_,rfl,rfl,.inl ⟨by decide,by decide⟩,_,rfl,_,_,rfl,rfl,.inr ⟨by omega,by omega⟩,
   _,_,rfl,rfl,_,_,rfl,rfl,?_⟩
  have hbase:(y*(2*(z+1)+1)+6007*(z+1)*(z+1)+29).natAbs < 2 ^ 64:=by
   have h1:0<=y*(2*(z+1)+1):=Int.mul_nonneg y0 (by omega)
   have h2:y*(2*(z+1)+1)<=4294967296*20003:=Int.mul_le_mul y1 (by omega) (by omega) (by omega)
   have h3:0<=6007*(z+1)*(z+1):=Int.mul_nonneg (by omega) s0
   have h4:6007*(z+1)*(z+1)<=(6007*10001)*10001:=Int.mul_le_mul (by omega) s1 s0 (by omega)
   omega
  obtain⟨p1,e1,p10,p11⟩:=at7 (i:=(z+1) % 7) (QbP _ (by decide)) (Qbb _ (by decide)) (a:=2147483629) (b:=2147483587) (c:=2147483579) (d:=2147483563) (e:=2147483549) (f:=2147483543) (g:=2147483497)
   (λp=>0 < p/\p < 2147483648) (by decide) (by decide) (by decide) (by decide) (by decide) (by decide) (by decide)
  obtain⟨p2,e2,p20,p21⟩:=at7 (i:=(z+1+3) % 7) (QbP _ (by decide)) (Qbb _ (by decide)) (a:=2147483629) (b:=2147483587) (c:=2147483579) (d:=2147483563) (e:=2147483549) (f:=2147483543) (g:=2147483497)
   (λp=>0 < p/\p < 2147483648) (by decide) (by decide) (by decide) (by decide) (by decide) (by decide) (by decide)
  refine⟨_,rfl,_,_,rfl,rfl,⟨by decide,by decide,hbase⟩,_,rfl,_,rfl,_,_,rfl,rfl,(by show (0:Int) < 7;decide),tp,_,_,_,rfl,rfl,SqT.of (ht1 _ _),e1,_,_,rfl,rfl,p10,?_⟩
  generalize hF:(y*(2*(z+1)+1)+6007*(z+1)*(z+1)+29) ^ (3:Int).toNat % p1=F
  have F0:0<=F:=by rw[<-hF];exact QbP _ (by omega)
  have F1:F < p1:=by rw[<-hF];exact Qbb _ p10
  refine⟨_,rfl,_,rfl,_,_,rfl,rfl,⟨by decide,by decide⟩,_,_,rfl,rfl,_,_,rfl,rfl,.inl ⟨by omega,by omega⟩,_,rfl,_,rfl,_,_,rfl,rfl,_,_,rfl,rfl,(by show (0:Int) < 7;decide),tp,_,_,_,rfl,rfl,SqT.of (ht1 _ _),e2,_,_,rfl,rfl,p20,
   _,_,rfl,rfl,⟨by decide,by decide⟩,_,rfl,_,_,rfl,rfl,m0,?_⟩
  refine q _ _ (QbP _ (by omega)) (Qbb _ m0) ⟨x,y,z+1,Ac,x0,y0,y1,s0,by omega⟩ λc o e nc=>?_
  rw[Al nc,Al (Av e htp)]
  exact e
end
abbrev Jg:Stmt:=top 54
abbrev MK:List Str:=["_law_bag_here"]
theorem Vb:Ba ["_law_bag_here","_law_letters"] MK (Ag Jg):=⟨rfl,rfl,rfl,by trivial,rfl,by trivial,by trivial⟩
abbrev Hw:Stmt:=top 55
abbrev KY:List Str:=["_law_bag_here","_law_many"]
theorem JG:Ba ["_law_bag_here","_law_many","_law_found","_law_place","_law_name_here"] KY (Ag Hw):=⟨rfl,rfl,rfl,by trivial,rfl,by trivial,by trivial⟩
theorem um {K:PySem.W.Frag} {H:Hp} {z:Str} {Q:VK} (q:Q (.bl true) H):Nx K [.str z,.ty "str"] H Q:=by
 unfold Nx
 exact⟨_,_,_,_,rfl,.str z,by rfl,q⟩
def abc:Str:="abcdefghijklmnopqrstuvwxyz"
def okS (z:Str):Prop:=∀c∈z.cps.toList,c∈abc.cps.toList
theorem okS.append {x y:Str} (h:okS x) (h':okS y):okS (x++y):=by
 intro c hc
 have:c∈x.cps.toList++y.cps.toList:=by
  have e:(x++y).cps=x.cps++y.cps:=rfl
  rw[e,Array.toList_append] at hc
  exact hc
 rcases QbD.mp this with z | z
 ·exact h c z
 ·exact h' c z
theorem okS.slice {x:Str} (h:okS x) (l u:Option Int):okS (Txt.slice x l u):=by
 unfold Txt.slice
 split
 ·exact h
 ·intro c hc
  have hc':c∈(Builtin.Str.strSliceIndices l u 1 x.length).filterMap (x.cps[·]?):=by simpa using hc
  obtain⟨i,_,e⟩:=List.mem_filterMap.mp hc'
  exact h c (Array.mem_toList_iff.mpr (Array.mem_of_getElem? e))
theorem okS.join {sep:Str} (hs:okS sep):∀{ts:List Str},(∀t∈ts,okS t)->okS (Str.join sep ts)
 | [],_=>λc hc=>by cases hc
 | [x],h=>h x (QaR ..)
 | x::y::r,h=>((h x (QaR ..)).append hs).append (okS.join hs (ts:=y::r) λt ht=>h t (QaE _ ht))
theorem Q8:abc.cps.toList.length=26:=by trivial
theorem zY:abc.cps.toList.Nodup:=by trivial
theorem jM:okS abc:=λc hc=>hc
theorem X4:∀ts:List Str,(Str.join "" ts).length=(ts.map (·.length)).sum
 | []=>rfl
 | [x]=>by show x.length=_;simp
 | x::y::r=>by
  show ((x++"")++Str.join "" (y::r)).length=_
  rw[Str.length_append,Str.length_append,X4 (y::r),QbZ (a:=x),List.sum_cons]
  have:(Str.ofString "").length=0:=by trivial
  rw[this]
  omega
theorem KS (n:Nat):(Builtin.Str.strSliceIndices (some 1) none 1 n).length<=n - 1:=by
 unfold Builtin.Str.strSliceIndices sliceRange
 simp only[show (1:Int) > 0 by decide,if_true,QbB,Qbo,show ¬((1:Int) < 0) by decide,if_false]
 split
 ·rw[Int.ediv_one];omega
 ·exact Qcr _
theorem fO (z:Str):(Txt.slice z (some 1) none).length<=z.length - 1:=by
 have h:=KS z.length
 unfold Txt.slice
 split
 ·rename_i hc
  rw[Qbw] at hc
  have:=eq_of_beq hc.2
  omega
 ·show (List.filterMap _ _).toArray.size<=_
  rw[Qbg]
  exact Qck (List.length_filterMap_le _ _) h
theorem zZ {r:Int} (h0:0<=r) (h1:r < 26):∃c,atI abc.cps.toList r=some c/\okS ⟨#[c]⟩:=by
 have hl:r.toNat < abc.cps.toList.length:=by rw[Q8];omega
 refine⟨abc.cps.toList[r.toNat],?_,λc hc=>?_⟩
 ·have:=Gz (xs:=abc.cps.toList) (j:=r.toNat) (Qan hl)
  rw[QaP h0] at this
  exact this
 ·have:c=abc.cps.toList[r.toNat]:=by simpa using hc
  rw[this]
  exact jM _ (List.getElem_mem hl)
theorem Wn:∀{ys:List Str},(∀y∈ys,y.length=1)->(ys.map (·.length)).sum=ys.length
 | [],_=>rfl
 | y::r,h=>by
  rw[QbZ,List.sum_cons,h y (QaR ..),Wn (ys:=r) λt ht=>h t (QaE _ ht),Qbr]
  omega
theorem Vl (ys:List Str):(ys.map V.str).all Ky=true:=by
 rw[List.all_map,List.all_eq_true]
 intro _ _
 rfl
theorem OJ (z:Str):∀ys:List Str,inV (.str z) (ys.map V.str)=true ↔ z∈ys
 | []=>by constructor <;> intro h <;> cases h
 | y::r=>by
  have ih:=OJ z r
  unfold inV at ih ⊢
  rw[QbZ,Qcd,Bool.or_eq_true,ih,QbY]
  have:eqV (.str y) (.str z)=true ↔ z=y:=by
   show (y == z)=true ↔ z=y
   rw[beq_iff_eq]
   exact⟨λh=>h.symm,λh=>h.symm⟩
  rw[this]
theorem Vg:∀{l m:List Str},l.Nodup->(∀x∈l,x∈m)->l.length<=m.length
 | [],_,_,_=>Qcr _
 | a::r,m,nd,h=>by
  have ha:=h a (QaR ..)
  obtain⟨n1,n2⟩:=QbJ.mp nd
  have:=Vg (l:=r) (m:=m.erase a) n2 λx hx=>(List.mem_erase_of_ne (λe=>n1 (by rw[<-e];exact hx))).mpr (h x (QaE _ hx))
  rw[List.length_erase_of_mem ha] at this
  have hp:=List.length_pos_of_mem ha
  rw[Qbr]
  omega
theorem Za (rest:Str) {ys:List Str} (h:ys.length < 26):∃(i c:Nat),abc.cps[i]?=some c/\((⟨#[c]⟩ : Str)++rest)∉ys:=by
 refine Qai λhn=>?_
 have hall:∀x∈abc.cps.toList.map (λc=>(⟨#[c]⟩ : Str)++rest),x∈ys:=λx hx=>by
  obtain⟨c,hc,rfl⟩:=Qci.mp hx
  obtain⟨i,hi⟩:=QaG hc
  refine Qai λhm=>hn ⟨i,c,by simpa using hi,hm⟩
 have nd:(abc.cps.toList.map (λc=>(⟨#[c]⟩ : Str)++rest)).Nodup:=by
  refine List.pairwise_map.mpr (zY.imp λ{c d} hne e=>hne ?_)
  have e1:(#[c]++rest.cps:Array Nat)=#[d]++rest.cps:=congrArg Str.cps e
  have e2:=congrArg Array.toList e1
  rw[Array.toList_append,Array.toList_append] at e2
  injection e2
 have:=Vg nd hall
 rw[QbB,Q8] at this
 omega
theorem Qcy {α : Type} {l:List α} {i:Nat} {x:α} (h:l[i]?=some x):l.take (i+1)=l.take i++[x]:=by rw[List.take_add_one,h];rfl
theorem dG {X:Cx} {K:PySem.W.Frag} (h:X.K=K) (hc:X.calm=true):Eb X (.builtin "max") (λxs H Q=>∃(p:Addr) (ns:List Int),xs=[.ref p]/\SqL K H p (ns.map V.int)/\0 < ns.length/\∀M,M∈ns->(∀a,a∈ns->a<=M)->Q (.int M) H):=h ▸ Vp hc
theorem Ai.Lj {a b:Addr} {H HH H':Hp} (s:Ai b H HH) (t:Ai a HH H') (f:H a=none):Ai b H H':=λc o e n=>t _ _ (s _ _ e n) λz=>by rw[z,f] at e;cases e
theorem Pw {i:Int} (h0:0<=i) (h6:i < 6) {a b c d e f:Int} (P:Int->Prop) (ha:P a) (hb:P b) (hc:P c) (hd:P d) (he:P e) (hf:P f):∃p,atI [V.int a,.int b,.int c,.int d,.int e,.int f] i=some (.int p)/\P p:=by
 have:i=0\/i=1\/i=2\/i=3\/i=4\/i=5:=by omega
 rcases this with rfl | rfl | rfl | rfl | rfl | rfl
 ·exact⟨_,rfl,ha⟩
 ·exact⟨_,rfl,hb⟩
 ·exact⟨_,rfl,hc⟩
 ·exact⟨_,rfl,hd⟩
 ·exact⟨_,rfl,he⟩
 ·exact⟨_,rfl,hf⟩
def fJ:Sp:=λvs H Q _=>∃(b:Addr) (n:Nat),vs=[.ref b]/\Br H b n/\n<=9000/\∀z H',1<=z.length->z.length<=8->okS z->Br H' b (n+9)->Ai b H H'->Q (.str z) H'
def ZK:Sp:=λvs H Q _=>∃(b:Addr) (n many:Nat),vs=[.ref b,.int many]/\Br H b n/\n<=8000/\many<=20 /\
 ∀l (ys:List Str) H',H l=none->ys.length=many->(∀y∈ys,(1<=y.length/\y.length<=8)/\okS y)->ys.Nodup->H' l=some (.lst (ys.map V.str))->Br H' b (n+9*many)->Ai b H H'->Q (.ref l) H'
section
variable {P:Program} {w:World} {K:PySem.W.Frag} {mg:Str->Option Value} {base:Heap}
theorem sO (C:Code K mg "_law_name" Jg MK) (T:Nm mg) (Bl:Good P w K mg base "_law_take" 1 Gi Mq):Good P w K mg base "_law_name" 2 MK fJ:=by
 refine C.good Vb (λvs H Q E h=>?_) (λf cdv A outer s H vs Q E hr h=>?_)
 ·obtain⟨b,n,rfl,_⟩:=h
  rfl
 obtain⟨b,n,rfl,hb,hn,q⟩:=h
 refine⟨_,(Ah (Bd (i:=1) Vb.nd rfl (Or.inr rfl) Bh)
 (Aj (Bc (CQ PySem.F.plainAttrs_str PySem.F.slot_str_join PySem.F.type_str_join uf Bh (Aa (Cq (N':=["_law_place","_law_letters","_law_bag_here"]) rfl (Bm.of (src:=[none,some 1,some 0]) (Ag Jg) ["_law_bag_here","_law_letters"] rfl rfl rfl (by trivial) (by trivial) (by trivial) rfl (by trivial)) (Cv rfl T.range (Aa (Bg Cp Ae (Ay Bl hr (Aa (pv 0) (Aa Ae Ab)))) Ab)) (λ_ _ _ _=>(Ak (i:=0) (show List.Nodup (["_law_place","_law_letters","_law_bag_here"]:List Str) by trivial) rfl (Or.inl rfl))) (λ_ _ _ _=>CT) (λ_ _ _ _=>(Bq wY (pv 1) (Ay Bl hr (Aa (pv 2) (Aa Ae Ab))) (λ_ _=>rfl)))) Ab))))),?_⟩
 refine⟨rfl,_,rfl,b,n,8,rfl,hb,by omega,by decide,by decide,λr H1 r0 r1 hb1 sb1=>⟨_,_,rfl,rfl,_,rfl,by omega,by omega,λl hl=>?_⟩⟩
 have nbl:b≠l:=hb1.nb hl
 have fl:H l=none:=sb1.free hb1.ex hl
 refine Ly (λi σ HH=>∃(u:Option V) (ys:List Str),σ=[u,some (.str abc),some (.ref b)]/\HH l=some (.lst (ys.map V.str))/\ys.length=i/\(∀y∈ys,y.length=1/\okS y)/\Br HH b (n+1+i)/\Ai b H HH)
  ⟨none,[],rfl,Ac,rfl,(λy hy=>by cases hy),hb1.same (Af hl _),sb1.trans (Ai.of (Af hl _))⟩ (λi σ HH hi h=>?_) (fun σ HH h=>?_)
 ·obtain⟨u,ys,rfl,e1,e2,e3,e4,e5⟩:=h
  refine⟨_,rfl,_,rfl,b,_,26,rfl,e4,by omega,by decide,by decide,λr' HA r0' r1' hbA sA=>?_⟩
  obtain⟨c,ec,oc⟩:=zZ r0' r1'
  have eA:=sA _ _ e1 nbl.symm
  refine⟨_,_,c,rfl,rfl,Ar (by show abc.cps.size<=1000;rw[<-QaK,Q8];decide),ec,_,eA,Ao (by rw[QbB];omega),_,ys++[⟨#[c]⟩],rfl,?_,?_,λy hy=>?_,hbA.Cz Ai.upd nbl,?_⟩
  ·rw[Ac,QbC];rfl
  ·rw[QaQ,e2];rfl
  ·rcases QbD.mp hy with h | h
   ·exact e3 y h
   ·have:y=⟨#[c]⟩:=by simpa using h
    rw[this]
    exact⟨rfl,oc⟩
  ·exact λc o e ne=>Ai.upd _ _ (sA _ _ (e5 _ _ e ne) ne) λz=>by rw[z,fl] at e;cases e
 obtain⟨u,ys,rfl,e1,e2,e3,e4,e5⟩:=h
 have hs:=Wn λy hy=>(e3 y hy).1
 refine⟨_,l,ys,rfl,rfl,SqL.of e1,?_,?_⟩
 ·rw[hs]
  have:(Str.ofString "").length=0:=by trivial
  rw[this]
  omega
 ·have hj:=X4 ys
  rw[hs] at hj
  refine q _ HH ?_ ?_ ?_ (e4.mono (by omega)) e5
  ·show 1<=(Builtin.Str.glued _ ys).length
   rw[StrLaws.glued_eq_join]
   show 1<=(Str.join "" ys).length
   omega
  ·show (Builtin.Str.glued _ ys).length<=8
   rw[StrLaws.glued_eq_join]
   show (Str.join "" ys).length<=8
   omega
  ·show okS (Builtin.Str.glued _ ys)
   rw[StrLaws.glued_eq_join]
   exact okS.join (λc hc=>by cases hc) λy hy=>(e3 y hy).2
theorem mz (C:Code K mg "_law_names" Hw KY) (T:Nm mg) (pI:Good P w K mg base "_law_name" 2 MK fJ):Good P w K mg base "_law_names" 3 KY ZK:=by
 refine C.good JG (λvs H Q E h=>?_) (λf cdv A outer s H vs Q E hr h=>?_)
 ·obtain⟨b,n,many,rfl,_⟩:=h
  rfl
 obtain⟨b,n,many,rfl,hb,hn,hm,q⟩:=h
 refine⟨_,(Ah (Bd (i:=2) JG.nd rfl (Or.inr rfl) (BR Ab))
 (Ah (BZ QbE rfl (Cv rfl T.range (Aa (pv 1) Ab)) (Ak (i:=3) JG.nd rfl (Or.inl rfl))
 (Ah (Bd (i:=4) JG.nd rfl (Or.inr rfl) (Ay pI hr (Aa (pv 0) Ab)))
 (Ah (BW (Bs Qj (pv 4) (pv 2) (by with_unfolding_all rfl)) (Aj (Bd (i:=4) JG.nd rfl (Or.inr rfl) (Bq CG (Cq (N':=["_law_one","_law_name_here","_law_found"]) rfl (Bm.of (src:=[none,some 4,some 2]) (Ag Hw) ["_law_bag_here","_law_many","_law_found","_law_place","_law_name_here"] rfl rfl rfl (by trivial) (by trivial) (by trivial) rfl (by trivial)) (gq Bh) (λ_ _ _ _=>(Ak (i:=0) (show List.Nodup (["_law_one","_law_name_here","_law_found"]:List Str) by trivial) rfl (Or.inl rfl))) (λ_ _ _ _=>(MF (Bs (Px (K:=K) rfl) (Bg Tc (pv 0) (Kf fP (pv 1) (Ma Ae) Mf)) (pv 2) (by with_unfolding_all rfl)))) (λ_ _ _ _=>(Bg Tc (pv 0) (Kf fP (pv 1) (Ma Ae) Mf)))) Ae (λ_ _=>rfl)))) BX)
 (Aj (Bj (CQ Qaq Qal Qam Cg (pv 2) (Aa (pv 4) Ab)))))))
 (Aj (Bc (pv 2))))),?_⟩
 refine⟨Ar (by show 0<=1000;decide),λlf hlf=>?_⟩
 have s1:=Af hlf (.lst [])
 have nbf:b≠lf:=hb.nb hlf
 refine⟨_,rfl,_,rfl,by omega,by omega,?_⟩
 rw[Qbk]
 refine Du (λi σ HH=>∃u3 u4 ys,σ=[some (.ref b),some (.int many),some (.ref lf),u3,u4]/\HH lf=some (.lst (ys.map V.str))/\ys.length=i/\(∀y∈ys,(1<=y.length/\y.length<=8)/\okS y)/\Br HH b (n+9*i)/\Ai b H HH/\ys.Nodup)
  ⟨_,_,[],rfl,Ac,rfl,(λy hy=>by cases hy),hb.same s1,Ai.of s1,QbV⟩ (λi σ HH hi h=>?_) (fun σ HH h=>?_)
 ·obtain⟨u3,u4,ys,rfl,e1,e2,e3,e4,e5,e6⟩:=h
  refine⟨_,rfl,b,_,rfl,e4,by omega,λz HA hz1 hz oz hbA sA=>?_⟩
  have eA:=sA _ _ e1 nbf.symm
  have s5:Ai b H HA:=e5.trans sA
  have fin:∀(y:Str) (HB:Hp),(1<=y.length/\y.length<=8)->okS y->y∉ys->HB lf=some (.lst (ys.map V.str))->Br HB b (n+9*i+9)->Ai b H HB->∃(u3 u4:Option V) (ys':List Str),[some (V.ref b),some (.int many),some (.ref lf),some (.int (0+(i:Int))),some (.str y)]=[some (.ref b),some (.int many),some (.ref lf),u3,u4] /\
    upd HB lf (.lst (ys.map V.str++[.str y])) lf=some (.lst (ys'.map V.str))/\ys'.length=i+1/\(∀y∈ys',(1<=y.length/\y.length<=8)/\okS y)/\Br (upd HB lf (.lst (ys.map V.str++[.str y]))) b (n+9*(i+1))/\Ai b H (upd HB lf (.lst (ys.map V.str++[.str y])))/\ys'.Nodup:=λy HB hy oy hny hB bB sB=>by
   refine⟨_,_,ys++[y],rfl,?_,?_,λx hx=>?_,(bB.Cz Ai.upd nbf).mono (by omega),Ai.Lj sB Ai.upd hlf,Z5 e6 hny⟩
   ·rw[Ac,QbC];rfl
   ·rw[QaQ,e2];rfl
   ·rcases QbD.mp hx with h | h
    ·exact e3 x h
    ·have:x=y:=by simpa using h
     rw[this]
     exact⟨hy,oy⟩
  refine⟨_,rfl,_,rfl,lf,_,rfl,.inl (SqL.of eA),rfl,Vl ys,_,rfl,Gn (λ_=>?_) (λhnz=>?_)⟩
  ·refine⟨_,rfl,λl2 hl2=>?_⟩
   have nfl:lf≠l2:=Av eA hl2
   have hsl:(Txt.slice z (some 1) none).length<=7:=Qck (fO z) (by omega)
   have osl:=oz.slice (some 1) none
   refine Yn (λi σ HH=>∃(u:Option V) (ws:List Str),σ=[u,some (.str z),some (.ref lf)]/\HH=upd HA l2 (.lst (ws.map V.str))/\ws.length<=i/\(∀y∈ws,((1<=y.length/\y.length<=8)/\okS y)/\y∉ys)/\((∃j c,j < i/\abc.cps[j]?=some c/\((⟨#[c]⟩ : Str)++Txt.slice z (some 1) none)∉ys)->ws≠[]))
    ⟨none,[],rfl,rfl,Qcq _,(λy hy=>by cases hy),λ⟨j,c,hj,_⟩=>absurd hj (QbO _)⟩ (λj c σ HH hc h=>?_) (fun σ HH h=>?_)
   ·obtain⟨u,ws,rfl,rfl,l1,l2',l3⟩:=h
    have hj:j < 26:=by
     have:=(Qaf.mp hc).1
     rw[<-QaK] at this
     have e:=Q8
     unfold abc at e
     omega
    have oc:okS ⟨#[c]⟩:=λd hd=>by
     have:d=c:=by simpa using hd
     rw[this]
     exact jM c (Array.mem_toList_iff.mpr (Array.mem_of_getElem? hc))
    have hlen:(⟨#[c]⟩ : Str).length+(Txt.slice z (some 1) none).length<=sizeLine:=by
     show 1+_<=sizeLine
     rw[Qcu]
     omega
    have hzl:z.length<=sizeLine:=by rw[Qcu];omega
    have eB:upd HA l2 (.lst (ws.map V.str)) lf=some (.lst (ys.map V.str)):=by rw[Al nfl];exact eA
    refine⟨_,rfl,_,rfl,_,rfl,_,rfl,hzl,_,_,rfl,rfl,hlen,_,rfl,lf,_,rfl,.inl (SqL.of eB),rfl,Vl ys,_,rfl,Gn (λt=>?_) (λt=>?_)⟩
    ·refine⟨_,rfl,_,rfl,_,rfl,_,rfl,hzl,_,_,rfl,rfl,hlen,_,Ac,Ao (by rw[QbB];omega),_,ws++[(⟨#[c]⟩ : Str)++Txt.slice z (some 1) none],rfl,?_,?_,λy hy=>?_,λ_ e=>?_⟩
     ·rw[Qz,QbC];rfl
     ·rw[QaQ];show _+1<=_;omega
     ·rcases QbD.mp hy with h | h
      ·exact l2' y h
      ·have e:y=(⟨#[c]⟩ : Str)++Txt.slice z (some 1) none:=by simpa using h
       rw[e]
       refine⟨⟨⟨by rw[Str.length_append];show 1<=1+_;omega,by rw[Str.length_append];show 1+_<=8;omega⟩,oc.append osl⟩,λhin=>?_⟩
       have t:(!inV (.str ((⟨#[c]⟩ : Str)++Txt.slice z (some 1) none)) (ys.map V.str))=true:=t
       rw[(OJ _ ys).mpr hin] at t
       cases t
     ·have:=congrArg List.length e
      rw[QaQ] at this
      simp at this
    ·refine⟨_,ws,rfl,rfl,by omega,l2',λ⟨j',c',hj',hc',hn'⟩=>?_⟩
     by_cases ej:j'=j
     ·subst ej
      have ec:c'=c:=by
       have e1:abc.cps[j']?=some c:=hc
       rw[hc'] at e1
       exact QbH e1
      subst ec
      exfalso
      apply t
      show (!inV (.str ((⟨#[c']⟩ : Str)++Txt.slice z (some 1) none)) (ys.map V.str))=true
      cases e:inV (.str ((⟨#[c']⟩ : Str)++Txt.slice z (some 1) none)) (ys.map V.str) with
      | false=>rfl
      | true=>exact absurd ((OJ _ ys).mp e) hn'
     ·exact l3 ⟨j',c',by omega,hc',hn'⟩
   ·obtain⟨u,ws,rfl,rfl,l1,l2',l3⟩:=h
    obtain⟨j,c,hc,hnot⟩:=Za (Txt.slice z (some 1) none) (ys:=ys) (by omega)
    have hws:=l3 ⟨j,c,(Qaf.mp hc).1,hc,hnot⟩
    cases ws with
    | nil=>exact absurd rfl hws
    | cons w0 wr=>
     obtain⟨⟨y1,y2⟩,y3⟩:=l2' w0 (QaR ..)
     have s2:=Af hl2 (.lst ((w0::wr).map V.str))
     have eB:=s2 _ _ eA
     refine⟨l2,_,_,_,rfl,rfl,SqL.of Ac,Gz (xs:=(w0::wr).map V.str) (j:=0) rfl,?_⟩
     refine⟨_,rfl,.inl ⟨rfl,_,SqL.of eB⟩,_,rfl,lf,_,_,rfl,rfl,eB,Ao (by rw[QbB];omega),?_⟩
     exact fin w0 _ y1 y2 y3 eB (hbA.same s2) (s5.trans (Ai.of s2))
  ·refine⟨_,rfl,.inl ⟨rfl,_,SqL.of eA⟩,_,rfl,lf,_,_,rfl,rfl,eA,Ao (by rw[QbB];omega),?_⟩
   exact fin z HA ⟨hz1,hz⟩ oz (λhin=>hnz ((OJ _ ys).mpr hin)) eA hbA s5
 ·obtain⟨u3,u4,ys,rfl,e1,e2,e3,e4,e5,e6⟩:=h
  exact⟨_,rfl,q lf ys HH hlf e2 e3 e6 e1 e4 e5⟩
end
structure Dev where
 kind:Str
 addr:Int
structure Place where
 kind:Str
 addr:Int
 spur:List Dev
def JV (H:Hp) (v:V) (d:Dev):Prop:=∃t,v=.ref t/\H t=some (.tup [.str d.kind,.int d.addr])
def Dt (H:Hp) (v:V) (p:Place):Prop:=∃t u vs,v=.ref t/\H t=some (.tup [.str p.kind,.int p.addr,.ref u])/\H u=some (.tup vs)/\Paired (JV H) vs p.spur
def LoopAt (H:Hp) (v:V) (ps:List Place):Prop:=∃t vs,v=.ref t/\H t=some (.tup vs)/\Paired (Dt H) vs ps
theorem JV.tups {H H':Hp} (s:Am H H') {v:V} {d:Dev} (h:JV H v d):JV H' v d:=by
 obtain⟨t,e,q⟩:=h
 exact⟨t,e,s _ _ q⟩
theorem Dt.tups {H H':Hp} (s:Am H H') {v:V} {d:Place} (h:Dt H v d):Dt H' v d:=by
 obtain⟨t,u,vs,e,q1,q2,q3⟩:=h
 exact⟨t,u,vs,e,s _ _ q1,s _ _ q2,Paired.Bb q3 λ_ _ z=>z.tups s⟩
theorem LoopAt.tups {H H':Hp} (s:Am H H') {v:V} {d:List Place} (h:LoopAt H v d):LoopAt H' v d:=by
 obtain⟨t,vs,e,q1,q2⟩:=h
 exact⟨t,vs,e,s _ _ q1,Paired.Bb q2 λ_ _ z=>z.tups s⟩
theorem Paired.Cm {α β : Type} {F:α->β->Prop}:∀{l₁ : List α} {l₂ : List β} {i:Nat} {x:α},Paired F l₁ l₂->l₁[i]?=some x->∃y,l₂[i]?=some y/\F x y
 | _,_,_,_,.nil,h=>by simp at h
 | _,_,0,_,.cons a _,h=>by simp at h;subst h;exact⟨_,rfl,a⟩
 | _,_,i+1,x,.cons _ t,h=>by
  obtain⟨y,h1,h2⟩:=Paired.Cm (i:=i) (x:=x) t (by simpa using h)
  exact⟨y,by simpa using h1,h2⟩
theorem Qcs {α β : Type} {F:α->β->Prop} {a:α} {b:β} (h:F a b):∀{l₁ : List α} {l₂ : List β},Paired F l₁ l₂->Paired F (l₁++[a]) (l₂++[b])
 | _,_,.nil=>.cons h .nil
 | _,_,.cons x t=>.cons x (Qcs h t)
def CP (k:Str):Prop:=k="seeker"\/k="knob"\/k="bell"\/k="door"
structure OkP (p:Place):Prop where
 spur:p.spur.length<=3
 kinds:∀d∈p.spur,CP d.kind
 form:(p.kind="opener"/\p.addr=0/\p.spur=[])\/CP p.kind
structure Zone where
 name:Str
 adr:List Int
def Jc (H:Hp) (v:V) (z:Zone):Prop:=∃t u,v=.ref t/\H t=some (.tup [.str z.name,.ref u])/\H u=some (.tup (z.adr.map V.int))
theorem Jc.tups {H H':Hp} (s:Am H H') {v:V} {z:Zone} (h:Jc H v z):Jc H' v z:=by
 obtain⟨t,u,e,q1,q2⟩:=h
 exact⟨t,u,e,s _ _ q1,s _ _ q2⟩
def En (k:Str):Bool:=inV (.str k) [.str "seeker",.str "knob"]
def Fx (p:Place):List Dev:=⟨p.kind,p.addr⟩::p.spur
def Ik (ds:List Dev):List Int:=(ds.filter λd=>En d.kind).map (·.addr)
def Jf (ps:List Place):List Int:=ps.flatMap λp=>Ik (Fx p)
def Et (ls:List (List Place)):List Int:=ls.flatMap Jf
theorem eG (ds:List Dev) (d:Dev):Ik (ds++[d])=Ik ds++(if En d.kind=true then [d.addr] else []):=by
 unfold Ik
 rw[List.filter_append,QbC]
 congr 1
 by_cases h:En d.kind=true
 ·rw[if_pos h];simp[List.filter,h]
 ·rw[if_neg h];simp[List.filter,h]
theorem eF (ps:List Place) (p:Place):Jf (ps++[p])=Jf ps++Ik (Fx p):=by unfold Jf;rw[QaL];simp
theorem aO (ls:List (List Place)) (ps:List Place):Et (ls++[ps])=Et ls++Jf ps:=by unfold Et;rw[QaL];simp
def ptS (a:List Int×Int) (p:Place):List Int×Int:=if V.str p.kind=V.str "opener" then (a.1++[a.2],0) else (a.1,a.2+1+(p.spur.length:Int))
def pst (ps:List Place):List Int×Int:=ps.foldl ptS ([],0)
def Hr (ps:List Place):List Int:=(pst ps).1++[(pst ps).2]
theorem Xe (ps:List Place) (p:Place):pst (ps++[p])=ptS (pst ps) p:=by unfold pst;rw[List.foldl_append];rfl
abbrev Ka:Stmt:=top 56
abbrev MN:List Str:=["_law_bag_here","_law_numbers","_law_most_places"]
theorem Jl:Ba ["_law_bag_here","_law_numbers","_law_most_places","_law_places","_law_at","_law_many","_law_some","_law_way"] MN (Ag Ka):=⟨rfl,rfl,rfl,by trivial,rfl,by trivial,by trivial⟩
abbrev Jo:Stmt:=top 57
abbrev KR:List Str:=["_law_places"]
theorem JF:Ba ["_law_places","_law_found","_law_kind_here","_law_address","_law_spur"] KR (Ag Jo):=⟨rfl,rfl,rfl,by trivial,rfl,by trivial,by trivial⟩
def Di (a b:Addr) (H H':Hp):Prop:=∀c o,H c=some o->c≠a->c≠b->H' c=some o
theorem Di.trans {a b:Addr} {H H1 H2:Hp} (x:Di a b H H1) (y:Di a b H1 H2):Di a b H H2:=λc o e n m=>y _ _ (x _ _ e n m) n m
theorem Di.l {a b:Addr} {H H1:Hp} (x:Ai a H H1):Di a b H H1:=λc o e n _=>x _ _ e n
theorem Di.r {a b:Addr} {H H1:Hp} (x:Ai b H H1):Di a b H H1:=λc o e _ m=>x _ _ e m
theorem Di.of {a b:Addr} {H H1:Hp} (x:Same H H1):Di a b H H1:=λc o e _ _=>x _ _ e
theorem Di.Lj {a b p:Addr} {H HH H':Hp} (s:Di a b H HH) (t:Ai p HH H') (f:H p=none):Di a b H H':=λc o e n m=>t _ _ (s _ _ e n m) λz=>by rw[z,f] at e;cases e
def adP (p:Place):List Int:=if V.str p.kind=V.str "opener" then [] else p.addr::p.spur.map (·.addr)
def adL (ps:List Place):List Int:=ps.flatMap adP
theorem Sh (ps:List Place) (p:Place):adL (ps++[p])=adL ps++adP p:=by unfold adL;rw[QaL];simp
def opP:Place:=⟨"opener",0,[]⟩
theorem AV:OkP opP:=⟨by show 0<=3;decide,(λd hd=>by cases hd),.inl ⟨rfl,rfl,rfl⟩⟩
theorem zX:adP opP=[]:=if_pos rfl
theorem Tp {k:Str} (h:CP k):¬V.str k=V.str "opener":=by
 rcases h with rfl | rfl | rfl | rfl <;> decide +kernel
theorem uI {i:Int} (h0:0<=i) (h4:i < 4):∃k,atI [V.str "seeker",.str "knob",.str "bell",.str "door"] i=some (.str k)/\CP k:=by
 have:i=0\/i=1\/i=2\/i=3:=by omega
 rcases this with rfl | rfl | rfl | rfl
 ·exact⟨_,rfl,.inl rfl⟩
 ·exact⟨_,rfl,.inr (.inl rfl)⟩
 ·exact⟨_,rfl,.inr (.inr (.inl rfl))⟩
 ·exact⟨_,rfl,.inr (.inr (.inr rfl))⟩
theorem R7 {xs:List V} {k:Nat} (h:k<=xs.length):Jj xs (some (k:Int)) none=xs.drop k:=by
 unfold Jj
 rw[HT.W2,HT.ZS,Nat.min_eq_left h]
 exact List.take_of_length_le (by rw[Qbx];omega)
theorem fQ {n:Nat} (h:0 < n):seqIndex? 0 n=some 0:=by
 unfold seqIndex?
 simp only[if_neg (show ¬(0:Int) < 0 by decide)]
 rw[if_pos (by simp;omega)]
 rfl
def fK:Sp:=λvs H Q _=>∃(b nb:Addr) (n mp:Nat) (ns:List Int),vs=[.ref b,.ref nb,.int mp]/\Br H b n/\n<=5000/\b≠nb/\H nb=some (.lst (ns.map V.int))/\1<=mp/\mp<=12/\ns.length<=100 /\
 ∀t ps ns' H',LoopAt H' (.ref t) ps->(∀p∈ps,OkP p)->1<=ps.length->ps.length<=mp->ns=adL ps++ns'->H' nb=some (.lst (ns'.map V.int))->Br H' b (n+100)->Di b nb H H'->Q (.ref t) H'
def Ww:Sp:=λvs H Q _=>∃(t:Addr) (ps:List Place),vs=[.ref t]/\LoopAt H (.ref t) ps/\(∀p∈ps,OkP p)/\ps.length<=100/\∀l H',H' l=some (.lst ((Hr ps).map V.int))->Same H H'->Q (.ref l) H'
def rm (b nb lp:Addr) (mp:Int) (H:Hp) (n:Nat) (ns:List Int) (i:Nat) (σ : St) (HH:Hp):Prop:=
 ∃u4 u5 u6 u7 vs ps ns',σ=[some (.ref b),some (.ref nb),some (.int mp),some (.ref lp),u4,u5,u6,u7]/\HH lp=some (.lst vs)/\Paired (Dt HH) vs ps/\ps.length=i/\(∀p∈ps,OkP p)/\ns=adL ps++ns'/\HH nb=some (.lst (ns'.map V.int))/\Br HH b (n+1+7*i)/\Di b nb H HH
section
variable {P:Program} {w:World} {K:PySem.W.Frag} {mg:Str->Option Value} {base:Heap}
theorem sY (C:Code K mg "_law_loop" Ka MN) (T:Nm mg) (Bl:Good P w K mg base "_law_take" 1 Gi Mq):Good P w K mg base "_law_loop" 2 MN fK:=by
 refine C.good Jl (λvs H Q E h=>?_) (λf cdv A outer s H vs Q E hr h=>?_)
 ·obtain⟨b,nb,n,mp,ns,rfl,_⟩:=h
  rfl
 obtain⟨b,nb,n,mp,ns,rfl,hb,hn,nbn,hnb,Se,hmp,hns,q⟩:=h
 refine⟨_,(Ah (Bd (i:=3) Jl.nd rfl (Or.inl rfl) (BR Ab))
 (Ah (BZ QbE rfl (Cv rfl T.range (Aa (Bg Cp Ae (Ay Bl hr (Aa (pv 0) (Aa (pv 2) Ab)))) Ab)) (Ak (i:=4) Jl.nd rfl (Or.inl rfl))
 (Ah (Bd (i:=5) Jl.nd rfl (Or.inl rfl) (Bg Cp Ae (Bq CG (@BR _ _ _ _ (@Aa _ _ _ _ _ (@Ae _ _ _ _) (@Aa _ _ _ _ _ (@Ae _ _ _ _) (@Aa _ _ _ _ _ (@Ae _ _ _ _) (@Aa _ _ _ _ _ (@Ae _ _ _ _) (@Aa _ _ _ _ _ (@Ae _ _ _ _) (@Aa _ _ _ _ _ (@Ae _ _ _ _) (@Ab _) Bf) Bf) Bf) Bf) Bf) Bf)) (Ay Bl hr (Aa (pv 0) (Aa Ae Ab))) (λ_ _=>rfl))))
 (Aj (BW (PW.pt (Ov (Bs Hs (Ay Bl hr (Aa (pv 0) (Aa Ae Ab))) Ae (BP _)) (N8 (Bs V7 (Aw Bu rfl T.len Dg (Aa (pv 1) Ab)) (pv 5) (BP _))))) (Aj (Bj (CQ Qaq Qal Qam Cg (pv 3) (Aa (Bk (Aa Bh (Aa Ae (Aa (Bk Ab) Ab)))) Ab)))) (Ah (Bd (i:=6) Jl.nd rfl (Or.inl rfl) (BR Ab))
 (Ah (BZ QbE rfl (Cv rfl T.range (Aa (pv 5) Ab)) (Ak (i:=7) Jl.nd rfl (Or.inl rfl))
 (Aj (Bj (CQ Qaq Qal Qam Cg (pv 6) (Aa (Bk (Aa (Bq CG (BR (Aa Bh (Aa Bh (Aa Bh (Aa Bh Ab))))) (Ay Bl hr (Aa (pv 0) (Aa Ae Ab))) (λ_ _=>rfl)) (Aa (CQ Qaq PySem.F.slot_list_pop PySem.F.type_list_pop XD (pv 1) (Aa Ae Ab)) Ab))) Ab)))))
 (Aj (Bj (CQ Qaq Qal Qam Cg (pv 3) (Aa (Bg M5 (Bq CG (pv 6) Ae (λ_ _=>rfl)) (Bk (Aa (EY G3 rfl T.tuple Ks (Aa (Kf rK (pv 6) (Ma Ae) Mf) Ab)) Ab))) Ab))))))))))
 (Aj (Bc (EY G3 rfl T.tuple Ks (Aa (pv 3) Ab)))))),?_⟩
 refine⟨Ar (by show 0<=1000;decide),λlp hlp=>?_⟩
 have s0:=Af hlp (.lst [])
 have nlb:b≠lp:=hb.nb hlp
 have nln:nb≠lp:=Av hnb hlp
 refine⟨_,rfl,_,rfl,b,n,_,rfl,hb.same s0,by omega,by omega,by omega,λr H1 r0 r1 hb1 sb1=>⟨_,_,rfl,rfl,_,rfl,by omega,by omega,?_⟩⟩
 obtain⟨rn,hrn⟩ : ∃rn:Nat,r=rn:=⟨r.toNat,by omega⟩
 subst hrn
 rw[show ((1:Int)+(rn:Int)).toNat=rn+1 by omega]
 have RH:∀{H2 H3:Hp},H2 lp=some (.lst [])->True:=λ_=>True.intro
 refine Du (rm b nb lp mp H n ns) ⟨_,_,_,_,[],[],ns,rfl,sb1 _ _ Ac nlb.symm,.nil,rfl,(λp hp=>by cases hp),rfl,sb1 _ _ (s0 _ _ hnb) nbn.symm,hb1,(Di.of s0).trans (Di.l sb1)⟩ (λi σ HH hi h=>?_) (fun σ HH h=>?_)
 ·obtain⟨u4,u5,u6,u7,vs,ps,ns',rfl,e1,e2,e3,e4,e5,e6,e7,e8⟩:=h
  have LG:i < 12:=by omega
  have hlv:=QbX e2
  refine⟨Ar (by show 6<=1000;decide),λl6 hl6=>?_⟩
  have s6:=Af hl6 (.lst [.int 0,.int 0,.int 0,.int 1,.int 2,.int 3])
  refine⟨_,rfl,b,_,6,rfl,e7.same s6,by omega,by decide,by decide,λr2 HA r20 r21 hbA sA=>?_⟩
  obtain⟨m,em,m0,m3⟩:=Pw r20 r21 (a:=0) (b:=0) (c:=0) (d:=1) (e:=2) (f:=3) (λp=>0<=p/\p<=3) (by decide) (by decide) (by decide) (by decide) (by decide) (by decide)
  obtain⟨mn,hmn⟩ : ∃mn:Nat,m=mn:=⟨m.toNat,by omega⟩
  subst hmn
  refine⟨l6,_,_,_,rfl,rfl,SqL.of (sA _ _ Ac (e7.nb hl6).symm),em,_,_,rfl,rfl,?_⟩
  refine⟨_,rfl,b,_,4,rfl,hbA,by omega,by decide,by decide,λr3 HB r30 r31 hbB sB=>⟨rfl,_,rfl,?_⟩⟩
  have sHB:Ai b HH HB:=((Ai.of s6).trans sA).trans sB
  have tHB:Am HH HB:=sHB.tup e7.Fy
  have f1:=sHB _ _ e1 nlb.symm
  have f2:Paired (Dt HB) vs ps:=Paired.Bb e2 λ_ _ z=>z.tups tHB
  have f6:=sHB _ _ e6 nbn.symm
  have f8:Di b nb H HB:=e8.trans (Di.l sHB)
  have opn:∀eo,HB eo=none->∀t,upd HB eo (.tup []) t=none->rm b nb lp mp H n ns (i+1) [some (.ref b),some (.ref nb),some (.int mp),some (.ref lp),some (.int (0+(i:Int))),some (.int (1+(mn:Int))),u6,u7] (upd (upd (upd HB eo (.tup [])) t (.tup [.str "opener",.int 0,.ref eo])) lp (.lst (vs++[.ref t]))):=λeo heo t ht=>by
   have t1:=Af heo (.tup [])
   have t2:=Af ht (.tup [.str "opener",.int 0,.ref eo])
   have f1':=t2 _ _ (t1 _ _ f1)
   have nt:∀zs,(upd (upd HB eo (.tup [])) t (.tup [.str "opener",.int 0,.ref eo])) lp≠some (.tup zs):=λzs z=>by rw[f1'] at z;cases z
   have tu:=Am.upd (o:=.lst (vs++[.ref t])) nt
   refine⟨_,_,_,_,vs++[.ref t],ps++[opP],ns',rfl,Ac,?_,by rw[QaQ,e3];rfl,λp hp=>?_,?_,?_,?_,?_⟩
   ·refine Qcs ⟨t,eo,[],rfl,tu _ _ Ac,tu _ _ (t2 _ _ Ac),.nil⟩ (Paired.Bb f2 λ_ _ z=>(z.tups (Am.of (t1.trans t2))).tups tu)
   ·rcases QbD.mp hp with z | z
    ·exact e4 p z
    ·have:p=opP:=by simpa using z
     rw[this];exact AV
   ·rw[Sh,zX,QbF];exact e5
   ·rw[Al nln];exact t2 _ _ (t1 _ _ f6)
   ·exact (((hbB.same t1).same t2).Cz Ai.upd nlb).mono (by omega)
   ·exact (f8.trans (Di.of (t1.trans t2))).Lj Ai.upd hlp
  refine Gn (λ_=>?_) (λ_=>?_)
  ·refine⟨_,rfl,.inl ⟨rfl,_,SqL.of f1⟩,Ar (by show 0<=1000;decide),λeo heo=>⟨Ar (by show 3<=1000;decide),λt ht=>⟨lp,_,_,rfl,rfl,Af ht _ _ _ (Af heo _ _ _ f1),Ao (by omega),opn eo heo t ht⟩⟩⟩
  ·refine⟨_,rfl,nb,_,rfl,.inl (SqL.of f6),_,rfl,_,_,rfl,rfl,_,rfl,Gn (λ_=>?_) (λcc=>?_)⟩
   ·refine⟨_,rfl,.inl ⟨rfl,_,SqL.of f1⟩,Ar (by show 0<=1000;decide),λeo heo=>⟨Ar (by show 3<=1000;decide),λt ht=>⟨lp,_,_,rfl,rfl,Af ht _ _ _ (Af heo _ _ _ f1),Ao (by omega),opn eo heo t ht⟩⟩⟩
   ·have cc:¬(((ns'.map V.int).length:Nat):Int) < 1+(mn:Int):=λz=>cc (QbS z)
    rw[QbB] at cc
    refine⟨Ar (by show 0<=1000;decide),λls hls=>?_⟩
    have sl:=Af hls (.lst [])
    have IC:lp≠ls:=Av f1 hls
    have wG:nb≠ls:=Av f6 hls
    have wH:b≠ls:=hbB.nb hls
    refine⟨_,rfl,_,rfl,by omega,by omega,?_⟩
    rw[show ((1:Int)+(mn:Int)).toNat=mn+1 by omega]
    have Si:H ls=none->True:=λ_=>True.intro
    refine Du (λj σ HC=>∃u7 xs ds ns2,σ=[some (.ref b),some (.ref nb),some (.int mp),some (.ref lp),some (.int (0+(i:Int))),some (.int (1+(mn:Int))),some (.ref ls),u7]/\HC ls=some (.lst xs)/\Paired (JV HC) xs ds/\ds.length=j/\(∀d∈ds,CP d.kind)/\ns'=ds.map (·.addr)++ns2/\HC nb=some (.lst (ns2.map V.int))/\Br HC b (n+1+7*i+1+1+j)/\HC lp=some (.lst vs)/\Paired (Dt HC) vs ps/\(∀c o,HB c=some o->c≠b->c≠nb->HC c=some o))
     ⟨_,[],[],ns',rfl,Ac,.nil,rfl,(λd hd=>by cases hd),rfl,sl _ _ f6,hbB.same sl,sl _ _ f1,Paired.Bb f2 λ_ _ z=>z.tups (Am.of sl),λc o e _ _=>sl _ _ e⟩ (λj σ HC hj h=>?_) (fun σ HC h=>?_)
    ·obtain⟨u7,xs,ds,ns2,rfl,g1,g2,g3,g4,g5,g6,g7,g8,g9,g10⟩:=h
     refine⟨_,rfl,.inl ⟨rfl,_,SqL.of g1⟩,Ar (by show 4<=1000;decide),λl4 hl4=>?_⟩
     have s4:=Af hl4 (.lst [.str "seeker",.str "knob",.str "bell",.str "door"])
     refine⟨_,rfl,b,_,4,rfl,g7.same s4,by omega,by decide,by decide,λr4 HD r40 r41 hbD sD=>?_⟩
     obtain⟨k,ek,hk⟩:=uI r40 r41
     have sCD:Ai b HC HD:=(Ai.of s4).trans sD
     have tCD:Am HC HD:=sCD.tup g7.Fy
     have g6':=sCD _ _ g6 nbn.symm
     cases ns2 with
     | nil=>
      rw[QbF] at g5
      have:=congrArg List.length g5
      rw[QbB,g3] at this
      omega
     | cons a0 ns3=>
      refine⟨l4,_,_,_,rfl,rfl,SqL.of (sD _ _ Ac (g7.nb hl4).symm),ek,_,rfl,.inl ⟨rfl,_,SqL.of g6'⟩,nb,_,0,0,.int a0,rfl,rfl,g6',by decide,by decide,fQ (by rw[QbB];show 0 < _+1;omega),rfl,Ar (by show 2<=1000;decide),λt ht=>?_⟩
      have tn:Am HD (upd HD nb (.lst (((a0::ns3).map V.int).eraseIdx 0))):=Am.upd λzs z=>by rw[g6'] at z;cases z
      have tt:=Af ht (.tup [.str k,.int a0])
      have gls:upd HD nb (.lst (((a0::ns3).map V.int).eraseIdx 0)) ls=some (.lst xs):=by rw[Al wG.symm];exact sCD _ _ g1 wH.symm
      refine⟨ls,_,_,rfl,rfl,tt _ _ gls,Ao (by rw[QbX g2];omega),?_⟩
      have nt:∀zs,(upd (upd HD nb (.lst (((a0::ns3).map V.int).eraseIdx 0))) t (.tup [.str k,.int a0])) ls≠some (.tup zs):=λzs z=>by rw[tt _ _ gls] at z;cases z
      have tu:=Am.upd (o:=.lst (xs++[.ref t])) nt
      have uV:Am HC (upd (upd (upd HD nb (.lst (((a0::ns3).map V.int).eraseIdx 0))) t (.tup [.str k,.int a0])) ls (.lst (xs++[.ref t]))):=(tCD.trans tn).trans ((Am.of tt).trans tu)
      refine⟨_,xs++[.ref t],ds++[⟨k,a0⟩],ns3,rfl,Ac,Qcs ⟨t,rfl,tu _ _ Ac⟩ (Paired.Bb g2 λ_ _ z=>z.tups uV),by rw[QaQ,g3];rfl,λd hd=>?_,?_,?_,?_,?_,Paired.Bb g9 λ_ _ z=>z.tups uV,λc o e n1 n2=>?_⟩
      ·rcases QbD.mp hd with z | z
       ·exact g4 d z
       ·have:d=⟨k,a0⟩:=by simpa using z
        rw[this];exact hk
      ·rw[g5,QbC,Qbh];rfl
      ·rw[Al wG,tt _ _ Ac];rfl
      ·exact ((hbD.Cz Ai.upd nbn).same tt).Cz Ai.upd wH
      ·rw[Al IC,tt _ _ (by rw[Al nln.symm];exact sCD _ _ g8 nlb.symm)]
      ·have e':=sCD _ _ (g10 _ _ e n1 n2) n1
       rw[Al (λz=>by rw[z,hls] at e;cases e),tt _ _ (by rw[Al n2];exact e')]
    ·obtain⟨u7,xs,ds,ns2,rfl,g1,g2,g3,g4,g5,g6,g7,g8,g9,g10⟩:=h
     cases ds with
     | nil=>cases g3
     | cons d0 dr=>
      cases g2 with
      | @cons x0 _ xr _ hd0 hdr=>
       obtain⟨t0,rfl,ht0⟩:=hd0
       have lxr:=QbX hdr
       have ldr:dr.length=mn:=by simpa using g3
       refine⟨_,rfl,.inl ⟨rfl,_,SqL.of g8⟩,_,rfl,ls,_,_,_,rfl,rfl,SqL.of g1,Gz (xs:=.ref t0::xr) (j:=0) rfl,_,rfl,_,rfl,ls,_,rfl,SqL.of g1,λp1 hp1=>?_⟩
       have ec:Jj (.ref t0::xr) (some 1) none=xr:=R7 (xs:=.ref t0::xr) (k:=1) (by simp)
       rw[ec] at *
       have sp1:=Af hp1 (.lst xr)
       refine⟨p1,_,rfl,.inl ⟨SqL.of Ac,λtu htu=>⟨Ar (by show 1<=1000;decide),λt1 ht1=>?_⟩⟩⟩
       have sp2:=Af htu (.tup xr)
       have sp3:=Af ht1 (.tup [.ref tu])
       have sp:=(sp1.trans sp2).trans sp3
       refine⟨t0,t1,_,_,rfl,rfl,sp _ _ ht0,Ac,Ar (by show 2+1<=1000;decide),λtp HE hE sE=>?_⟩
       have spE:=sp.trans sE
       have g8':=spE _ _ g8
       refine⟨lp,_,_,rfl,rfl,g8',Ao (by omega),?_⟩
       have nt:∀zs,HE lp≠some (.tup zs):=λzs z=>by rw[g8'] at z;cases z
       have tv:=Am.upd (o:=.lst (vs++[.ref tp])) nt
       have okp:OkP ⟨d0.kind,d0.addr,dr⟩:=⟨by show dr.length<=3;omega,λd hd=>g4 d (QaE _ hd),.inr (g4 d0 (QaR ..))⟩
       refine⟨_,_,_,_,vs++[.ref tp],ps++[⟨d0.kind,d0.addr,dr⟩],ns2,rfl,Ac,?_,by rw[QaQ,e3];rfl,λp hp=>?_,?_,?_,?_,?_⟩
       ·refine Qcs ⟨tp,tu,xr,rfl,tv _ _ hE,tv _ _ (sE _ _ (sp3 _ _ Ac)),Paired.Bb hdr λ_ _ z=>(z.tups (Am.of spE)).tups tv⟩ (Paired.Bb g9 λ_ _ z=>(z.tups (Am.of spE)).tups tv)
       ·rcases QbD.mp hp with z | z
        ·exact e4 p z
        ·have:p=⟨d0.kind,d0.addr,dr⟩:=by simpa using z
         rw[this];exact okp
       ·rw[Sh,e5,g5,Qbh]
        congr 1
        have:adP ⟨d0.kind,d0.addr,dr⟩=d0.addr::dr.map (·.addr):=if_neg (Tp (g4 d0 (QaR ..)))
        rw[this]
        rfl
       ·rw[Al nln];exact spE _ _ g6
       ·exact ((g7.same spE).Cz Ai.upd nlb).mono (by omega)
       ·refine Di.Lj (λc o e n1 n2=>spE _ _ (g10 _ _ (f8 _ _ e n1 n2) n1 n2)) Ai.upd hlp
 ·obtain⟨u4,u5,u6,u7,vs,ps,ns',rfl,e1,e2,e3,e4,e5,e6,e7,e8⟩:=h
  refine⟨_,rfl,lp,_,rfl,.inl ⟨SqL.of e1,λt ht=>?_⟩⟩
  have st:=Af ht (.tup vs)
  exact q t ps ns' _ ⟨t,vs,rfl,Ac,Paired.Bb e2 λ_ _ z=>z.tups (Am.of st)⟩ e4 (by omega) (by omega) e5 (st _ _ e6) ((e7.same st).mono (by omega)) (e8.trans (Di.of st))
end
abbrev GK:Stmt:=top 58
abbrev MJ:List Str:=["_law_bag_here","_law_most_loops","_law_most_places"]
theorem BL:Ba ["_law_bag_here","_law_most_loops","_law_most_places","_law_start","_law_stride","_law_numbers","_law_own","_law_first","_law_at","_law_loops","_law_loop_here","_law_most","_law_told","_law_places","_law_kind_here","_law_address","_law_spur","_law_zones","_law_names_here","_law_name_here","_law_some"] MJ (Ag GK):=⟨rfl,rfl,rfl,by trivial,rfl,by trivial,by trivial⟩
theorem Yy (xs:List V) (y:V):atI (xs++[y]) (-1)=some y:=by
 unfold atI ixN
 rw[if_neg (by decide),QaQ,QaB,if_pos (by omega),show (-1+((xs.length+1:Nat):Int)).toNat=xs.length by omega]
 show (xs++[y])[xs.length]?=some y
 rw[List.getElem?_append_right (Qcq _),Nat.sub_self]
 rfl
theorem o8 (xs:List V) (y:V):ixN (xs++[y]).length (-1)=some xs.length:=by
 unfold ixN
 rw[if_neg (by decide),QaQ,QaB,if_pos (by omega),show (-1+((xs.length+1:Nat):Int)).toNat=xs.length by omega]
theorem kE (xs:List V) (y z:V):(xs++[y]).set xs.length z=xs++[z]:=by
 rw[List.set_append_right _ _ (Qcq _),Nat.sub_self]
 rfl
theorem Pt {i:Int} (h0:0<=i) (h9:i < 9) {a b c d e f g h k:Int} (P:Int->Prop) (ha:P a) (hb:P b) (hc:P c) (hd:P d) (he:P e) (hf:P f) (hg:P g) (hh:P h) (hk:P k):∃p,atI [V.int a,.int b,.int c,.int d,.int e,.int f,.int g,.int h,.int k] i=some (.int p)/\P p:=by
 have:i=0\/i=1\/i=2\/i=3\/i=4\/i=5\/i=6\/i=7\/i=8:=by omega
 rcases this with rfl | rfl | rfl | rfl | rfl | rfl | rfl | rfl | rfl
 ·exact⟨_,rfl,ha⟩
 ·exact⟨_,rfl,hb⟩
 ·exact⟨_,rfl,hc⟩
 ·exact⟨_,rfl,hd⟩
 ·exact⟨_,rfl,he⟩
 ·exact⟨_,rfl,hf⟩
 ·exact⟨_,rfl,hg⟩
 ·exact⟨_,rfl,hh⟩
 ·exact⟨_,rfl,hk⟩
theorem jk (ns:List Int):(ns.map V.int).all Ky=true:=by
 rw[List.all_map,List.all_eq_true]
 intro _ _
 rfl
theorem yH {xs:List V} {m:Nat} (h:m<=xs.length):Jj xs none (some (m:Int))=xs.take m:=by
 unfold Jj
 rw[HT.W2,HT.ZS,Nat.min_eq_left h]
 rfl
theorem Paired.qx {α β : Type} {F:α->β->Prop}:∀{l:List α} {r:List β} (n:Nat),Paired F l r->Paired F (l.take n) (r.take n)
 | _,_,0,_=>.nil
 | _,_,_+1,.nil=>.nil
 | _,_,n+1,.cons h t=>.cons h (Paired.qx n t)
theorem Paired.qW {α β : Type} {F:α->β->Prop}:∀{l:List α} {r:List β} (n:Nat),Paired F l r->Paired F (l.drop n) (r.drop n)
 | _,_,0,h=>h
 | _,_,_+1,.nil=>.nil
 | _,_,n+1,.cons h t=>Paired.qW n t
theorem Paired.app {α β : Type} {F:α->β->Prop}:∀{a₁ b₁ : List α} {a₂ b₂ : List β},Paired F a₁ a₂->Paired F b₁ b₂->Paired F (a₁++b₁) (a₂++b₂)
 | _,_,_,_,.nil,t=>t
 | _,_,_,_,.cons r s,t=>.cons r (Paired.app s t)
theorem ZX:∀(ps:List Place) (a:List Int×Int),(ps.foldl ptS a).1.sum+(ps.foldl ptS a).2=a.1.sum+a.2+((adL ps).length:Int)
 | [],a=>by show _=_+_+((0:Nat):Int);simp
 | p::r,a=>by
  rw[List.foldl_cons,ZX r]
  have e:adL (p::r)=adP p++adL r:=by unfold adL;rw[Qbl]
  rw[e,QaQ]
  unfold ptS adP
  by_cases h:V.str p.kind=V.str "opener"
  ·rw[if_pos h,if_pos h,List.sum_append]
   simp
  ·rw[if_neg h,if_neg h,Qbr,QbB]
   simp only
   omega
theorem fZ:∀(ps:List Place) (a:List Int×Int),(∀m∈a.1,0<=m)->0<=a.2->(∀m∈(ps.foldl ptS a).1,0<=m)/\0<=(ps.foldl ptS a).2
 | [],a,h1,h2=>⟨h1,h2⟩
 | p::r,a,h1,h2=>by
  rw[List.foldl_cons]
  refine fZ r _ ?_ ?_
  ·unfold ptS
   split
   ·intro m hm
    rcases QbD.mp hm with z | z
    ·exact h1 m z
    ·have:m=a.2:=by simpa using z
     rw[this];exact h2
   ·exact h1
  ·unfold ptS
   split
   ·exact Int.le_refl _
   ·show 0<=a.2+1+(p.spur.length:Int)
    omega
theorem fj:∀{l:List Int},(∀m∈l,0<=m)->0<=l.sum/\∀m∈l,m<=l.sum
 | [],_=>⟨Int.le_refl _,λm h=>by cases h⟩
 | x::r,h=>by
  obtain⟨h1,h2⟩:=fj (l:=r) λm hm=>h m (QaE _ hm)
  have h0:=h x (QaR ..)
  rw[List.sum_cons]
  refine⟨by omega,λm hm=>?_⟩
  rcases QbY.mp hm with rfl | hm
  ·omega
  ·have:=h2 m hm
   omega
theorem lV (ps:List Place):∀m∈Hr ps,0<=m:=by
 have h:=fZ ps ([],0) (λm hm=>by cases hm) (Int.le_refl _)
 intro m hm
 rcases QbD.mp hm with z | z
 ·exact h.1 m z
 ·have:m=(pst ps).2:=by simpa using z
  rw[this];exact h.2
theorem Ve (ps:List Place):(Hr ps).sum=((adL ps).length:Int):=by
 have h:=ZX ps ([],0)
 unfold Hr
 rw[List.sum_append]
 have:(pst ps).1.sum+(pst ps).2=((adL ps).length:Int):=by
  have e:(pst ps).1.sum+(pst ps).2=([]:List Int).sum+0+((adL ps).length:Int):=h
  rw[e];simp
 simp
 omega
theorem lW (ps:List Place):∀m∈Hr ps,m<=((adL ps).length:Int):=λm hm=>by
 have:=(fj (lV ps)).2 m hm
 rw[Ve] at this
 exact this
theorem Zv:∀{l:List Int},1<=l.sum->∃m∈l,1<=m
 | [],h=>by simp at h
 | x::r,h=>by
  rw[List.sum_cons] at h
  by_cases hx:1<=x
  ·exact⟨x,QaR ..,hx⟩
  ·obtain⟨m,h1,h2⟩:=Zv (l:=r) (by omega)
   exact⟨m,QaE _ h1,h2⟩
structure OkL (ps:List Place):Prop where
 lo:1<=ps.length
 hi:ps.length<=12
 ok:∀p∈ps,OkP p
def Ck (ls:List (List Place)):List Int:=ls.flatMap adL
structure YD (most:Int) (loops:List (List Place)) (zones:List Zone):Prop where
 nd:(Ck loops).Nodup
 bd:∀x∈Ck loops,1<=x/\x<=99
 cnt:1<=(Ck loops).length/\(Ck loops).length<=30
 mo:1<=most/\most<=30
 few:∀ps∈loops,∀m∈Hr ps,m<=most
 zin:∀z∈zones,∀x∈z.adr,x∈Et loops
 znd:(zones.flatMap (·.adr)).Nodup
 zup:∀z∈zones,z.adr.Pairwise (· < ·)/\1<=z.adr.length/\z.adr.length<=30
 uQ:zones.length<=8
 znm:∀z∈zones,(1<=z.name.length/\z.name.length<=8)/\okS z.name
 zdi:(zones.map (·.name)).Nodup
def fH:Sp:=λvs H Q _=>∃(b:Addr) (n ml mp:Nat),vs=[.ref b,.int ml,.int mp]/\Br H b n/\n<=1000/\1<=ml/\ml<=3/\2<=mp/\mp<=12 /\
 ∀t Ls zs vs zvs loops zones most H',H' t=some (.tup [.int most,.ref Ls,.ref zs])->H' Ls=some (.tup vs)->Paired (LoopAt H') vs loops->(∀ps∈loops,OkL ps)->1<=loops.length->loops.length<=3->H' zs=some (.tup zvs)->Paired (Jc H') zvs zones->YD most loops zones->Br H' b (n+3000)->Ai b H H'->Q (.ref t) H'
def vg:TS:=λD σ H=>∃(b nb f0:Addr) (n mp:Nat) (ns:List Int),σ[0]?=some (some (.ref b))/\σ[5]?=some (some (.ref nb))/\σ[2]?=some (some (.int mp))/\σ[7]?=some (some (.ref f0))/\H f0=some (.tup [])/\Br H b n/\n<=4000/\b≠nb/\H nb=some (.lst (ns.map V.int))/\2<=mp/\mp<=12/\ns.length<=100 /\
 ∀t vs ps ns' H',H' t=some (.tup vs)->Paired (Dt H') vs ps->(∀p∈ps,OkP p)->ps.length+1<=mp->ns=adL ps++ns'->H' nb=some (.lst (ns'.map V.int))->Br H' b (n+101)->Di b nb H H'->D.nx (σ.set 7 (some (.ref t))) H'
section
variable {P:Program} {w:World} {K:PySem.W.Frag} {mg:Str->Option Value} {base:Heap}
theorem gO (C:Code K mg "_law_parts" Jo KR) (T:Nm mg):Good P w K mg base "_law_parts" 1 KR Ww:=by
 refine C.good JF (λvs H Q E h=>?_) (λf cdv A outer s H vs Q E hr h=>?_)
 ·obtain⟨t,ps,rfl,_⟩:=h
  rfl
 obtain⟨t,ps,rfl,⟨t',vs,et,ht,hps⟩,hok,h100,q⟩:=h
 cases et
 refine⟨_,(Ah (Bd (i:=1) JF.nd rfl (Or.inl rfl) (BR (Aa Ae Ab)))
 (Ah (BZ QbE rfl (FW (pv 0)) (Df rfl (Aq (Ak (i:=2) JF.nd rfl (Or.inl rfl)) (Aq (Ak (i:=3) JF.nd rfl (Or.inl rfl)) (Aq (Ak (i:=4) JF.nd rfl (Or.inl rfl)) BK))))
 (Aj (BW (Bs Hs (pv 2) Bh (BP _)) (Aj (Bj (CQ Qaq Qal Qam Cg (pv 1) (Aa Ae Ab)))) (Aj (KN (Bg Cp (Bg Cp (Bq CG (pv 1) (V5 Sw Ae) (λ_ _=>rfl)) Ae) (Aw Bu rfl T.len Dg (Aa (pv 4) Ab))) (Xi (pv 1) (V5 Sw Ae) set_list))))))
 (Aj (Bc (pv 1))))),?_⟩
 refine⟨Ar (by show 1<=1000;decide),λlf hlf=>?_⟩
 have s1:=Af hlf (.lst [.int 0])
 have lvs:=QbX hps
 refine⟨_,rfl,t,rfl,⟨_,SqT.of (s1 _ _ ht)⟩,?_⟩
 refine Mh (xs:=vs) (λi σ HH=>∃(u2 u3 u4:Option V),σ=[some (.ref t),some (.ref lf),u2,u3,u4]/\HH lf=some (.lst ((pst (ps.take i)).1.map V.int++[.int (pst (ps.take i)).2]))/\(pst (ps.take i)).1.length<=i/\Same H HH) ⟨_,_,_,rfl,Ac,Qcq _,s1⟩ (λi σ HH _ h=>?_) (λi x σ HH hx h=>?_) (fun σ HH h=>?_)
 ·obtain⟨u2,u3,u4,rfl,e1,e2,e3⟩:=h
  exact SqT.of (e3 _ _ ht)
 ·obtain⟨u2,u3,u4,rfl,e1,e2,e3⟩:=h
  obtain⟨p,hp,tp,up,ws,rfl,h1,h2,h3⟩:=Paired.Cm hps hx
  have hi:=(Qah.mp hx).1
  have et:pst (ps.take (i+1))=ptS (pst (ps.take i)) p:=by rw[Qcy hp,Xe]
  have lws:=QbX h3
  generalize pst (ps.take i)=a at *
  refine⟨tp,_,rfl,SqT.of (e3 _ _ h1),rfl,_,_,rfl,_,_,rfl,_,_,rfl,rfl,?_⟩
  refine⟨_,rfl,rfl,_,rfl,Gn (λhc=>?_) (λhc=>?_)⟩
  ·have hc:V.str p.kind=V.str "opener":=Qbj hc
   have et:pst (ps.take (i+1))=(a.1++[a.2],0):=by rw[et];exact if_pos hc
   refine⟨_,rfl,.inl ⟨rfl,_,SqL.of e1⟩,lf,_,_,rfl,rfl,e1,Ao (by rw[QaQ,QbB];show _+1<=_;omega),_,_,_,rfl,?_,?_,e3.Bv Ai.upd hlf⟩
   ·rw[Ac,et,QbC];rfl
   ·rw[et,QaQ];show _+1<=_;omega
  ·have hc:¬V.str p.kind=V.str "opener":=λz=>hc (QbS z)
   have et:pst (ps.take (i+1))=(a.1,a.2+1+(p.spur.length:Int)):=by rw[et];exact if_neg hc
   refine⟨_,rfl,_,rfl,lf,_,_,_,rfl,rfl,SqL.of e1,Yy _ _,_,_,rfl,rfl,_,rfl,up,_,rfl,.inr (SqT.of (e3 _ _ h2)),_,_,rfl,rfl,_,rfl,_,rfl,lf,_,_,_,rfl,rfl,e1,o8 _ _,_,_,_,rfl,?_,by rw[et];show a.1.length<=_;omega,e3.Bv Ai.upd hlf⟩
   rw[Ac,kE,et,<-lws]
 ·obtain⟨u2,u3,u4,rfl,e1,e2,e3⟩:=h
  rw[lvs,Qbt] at e1
  refine⟨_,rfl,q lf HH (by unfold Hr;rw[QbC];exact e1) e3⟩
end
theorem vJ {α : Type} {l:List α} {i:Nat} {x:α} (h:l[i]?=some x):l.set i x=l:=by
 obtain⟨hi,e⟩:=Qah.mp h
 subst e
 exact List.set_getElem_self hi
theorem Ln.tups {H H':Hp} {vs:List V} {ls:List (List Place)} (s:Am H H') (h:Paired (LoopAt H) vs ls):Paired (LoopAt H') vs ls:=Paired.Bb h λ_ _ z=>z.tups s
theorem Pn.tups {H H':Hp} {vs:List V} {ls:List Place} (s:Am H H') (h:Paired (Dt H) vs ls):Paired (Dt H') vs ls:=Paired.Bb h λ_ _ z=>z.tups s
theorem Mi (a b:List Place):adL (a++b)=adL a++adL b:=by unfold adL;rw[QaL]
theorem Vw (ls:List (List Place)) (ps:List Place):Ck (ls++[ps])=Ck ls++adL ps:=by unfold Ck;rw[QaL];simp
def wr (ds:List Dev):Nat:=(ds.filter λd=>!decide (V.str d.kind=V.str "opener")).length
theorem RT (w:Int):∀ws:List Int,inV (.int w) (ws.map V.int)=decide (w∈ws)
 | []=>rfl
 | x::r=>by
  have ih:=RT w r
  unfold inV at ih ⊢
  rw[QbZ,Qcd,ih]
  have h2:eqV (.int x) (.int w)=decide (w=x):=by
   show (x == w)=decide (w=x)
   rw[QbL,beq_iff_eq,Qba]
   exact⟨λh=>h.symm,λh=>h.symm⟩
  rw[h2,QbL,Bool.or_eq_true,Qba,Qba,Qba,QbY]
def Eo (p:Int):Prop:=p=1\/p=2\/p=4\/p=5\/p=7\/p=8\/p=10\/p=13\/p=98
def Nz (r sd:Int) (n:Nat):List Int:=(List.range n).map λk:Nat=>(r+sd*(0+(k:Int))) % 99+1
theorem gU (r sd:Int) (n:Nat):Nz r sd (n+1)=Nz r sd n++[(r+sd*(0+(n:Int))) % 99+1]:=by
 unfold Nz
 rw[List.range_succ,QbC]
 rfl
theorem tL (r sd:Int) (n:Nat):∀x∈Nz r sd n,1<=x/\x<=99:=λx hx=>by
 obtain⟨k,_,rfl⟩:=Qci.mp hx
 have h1:=QbP (r+sd*(0+(k:Int))) (show (99:Int)≠0 by decide)
 have h2:=Qbb (r+sd*(0+(k:Int))) (show (0:Int) < 99 by decide)
 omega
theorem tK {r sd:Int} (h:Eo sd):(Nz r sd 30).Nodup:=by
 unfold Nz
 refine List.pairwise_map.mpr ?_
 refine List.Pairwise.imp_of_mem (λ{i j} hi hj hlt=>?_) (List.pairwise_lt_range (n:=30))
 have hi:=QbU.mp hi
 have hj:=QbU.mp hj
 intro e
 unfold Eo at h
 rcases h with rfl | rfl | rfl | rfl | rfl | rfl | rfl | rfl | rfl <;> omega
theorem Zt:∀{ds:List Dev},(Ik ds).Sublist (ds.map (·.addr))
 | ds=>by unfold Ik;exact List.Sublist.map _ (List.filter_sublist ..)
theorem Wg {p:Place} (h:OkP p):(Ik (Fx p)).Sublist (adP p):=by
 rcases h.form with⟨f1,f2,f3⟩| f1
 ·have e:adP p=[]:=if_pos (by rw[f1])
  have e2:Ik (Fx p)=[]:=by
   unfold Fx Ik
   rw[f3,f1]
   have:En "opener"=false:=by trivial
   rw[Qau (by rw[this];decide)]
   rfl
  rw[e,e2]
  exact .slnil
 ·have e:adP p=(Fx p).map (·.addr):=if_neg (Tp f1)
  rw[e]
  exact Zt
theorem Rw:∀{ps:List Place},(∀p∈ps,OkP p)->(Jf ps).Sublist (adL ps)
 | [],_=>.slnil
 | p::r,h=>by
  have e1:Jf (p::r)=Ik (Fx p)++Jf r:=by unfold Jf;rw[Qbl]
  have e2:adL (p::r)=adP p++adL r:=by unfold adL;rw[Qbl]
  rw[e1,e2]
  exact (Wg (h p (QaR ..))).append (Rw λq hq=>h q (QaE _ hq))
theorem PN:∀{ls:List (List Place)},(∀ps∈ls,OkL ps)->(Et ls).Sublist (Ck ls)
 | [],_=>.slnil
 | ps::r,h=>by
  have e1:Et (ps::r)=Jf ps++Et r:=by unfold Et;rw[Qbl]
  have e2:Ck (ps::r)=adL ps++Ck r:=by unfold Ck;rw[Qbl]
  rw[e1,e2]
  exact (Rw (h ps (QaR ..)).ok).append (PN λq hq=>h q (QaE _ hq))
theorem au {ps:List Place}:∀(loops:List (List Place)),ps∈loops->(adL ps).length<=(Ck loops).length
 | [],h=>by cases h
 | a::r,h=>by
  have e:Ck (a::r)=adL a++Ck r:=by unfold Ck;rw[Qbl]
  rw[e,QaQ]
  rcases QbY.mp h with rfl | h
  ·omega
  ·have:=au r h
   omega
structure Pk (ws:List Int) (ts:List Int) (zones:List Zone) (ys:List Str):Prop where
 nd:(zones.flatMap (·.adr)++ts).Nodup
 sub:∀x∈zones.flatMap (·.adr)++ts,x∈ws
 up:∀z∈zones,z.adr.Pairwise (· < ·)/\1<=z.adr.length/\z.adr.length<=30
 nm:(zones.map (·.name)).Sublist ys
theorem Pk.next {ws ts ms ss:List Int} {zones:List Zone} {ys:List Str} {y:Str} (h:Pk ws ts zones ys) (hp:ms.Perm ss) (hsub:ss.Sublist ts) (hr:ms.Pairwise (·<=·)) (h30:ms.length<=30) (y1:1<=ms.length):Pk ws (ts.filter λx=>!decide (x∈ms)) (zones++[⟨y,ms⟩]) (ys++[y]):=by
 obtain⟨n1,n2,n3⟩:=List.nodup_append.mp h.nd
 have nms:ms.Nodup:=hp.nodup_iff.mpr (hsub.nodup n2)
 have hin:∀x∈ms,x∈ts:=λx hx=>hsub.subset (hp.mem_iff.mp hx)
 have e:(zones++[(⟨y,ms⟩ : Zone)]).flatMap (·.adr)=zones.flatMap (·.adr)++ms:=by rw[QaL];simp
 refine⟨?_,λx hx=>?_,λz hz=>?_,?_⟩
 ·rw[e,List.nodup_append]
  refine⟨List.nodup_append.mpr ⟨n1,nms,λa ha b hb=>n3 a ha b (hin b hb)⟩,n2.filter _,λa ha b hb=>?_⟩
  obtain⟨hb1,hb2⟩:=QbK.mp hb
  rcases QbD.mp ha with ha | ha
  ·exact n3 a ha b hb1
  ·rintro rfl
   rw[QbS ha] at hb2
   cases hb2
 ·rw[e] at hx
  rcases QbD.mp hx with hx | hx
  ·rcases QbD.mp hx with hx | hx
   ·exact h.sub x (QaF _ hx)
   ·exact h.sub x (QaA _ (hin x hx))
  ·exact h.sub x (QaA _ (QbK.mp hx).1)
 ·rcases QbD.mp hz with hz | hz
  ·exact h.up z hz
  ·have:z=⟨y,ms⟩:=by simpa using hz
   rw[this]
   refine⟨?_,y1,h30⟩
   refine List.Pairwise.imp₂ (S:=λa b:Int=>a≠b) (λa b h1 h2=>by omega) hr nms
 ·rw[QbC]
  exact h.nm.append (List.Sublist.refl _)
theorem Pk.none {ws ts:List Int} {zones:List Zone} {ys:List Str} {y:Str} {g:Int->Bool} (h:Pk ws ts zones ys):Pk ws (ts.filter g) zones (ys++[y]):=by
 obtain⟨n1,n2,n3⟩:=List.nodup_append.mp h.nd
 refine⟨List.nodup_append.mpr ⟨n1,n2.filter _,λa ha b hb=>n3 a ha b (QbK.mp hb).1⟩,λx hx=>?_,h.up,h.nm.trans (List.sublist_append_left ..)⟩
 rcases QbD.mp hx with hx | hx
 ·exact h.sub x (QaF _ hx)
 ·exact h.sub x (QaA _ (QbK.mp hx).1)
section
variable {P:Program} {w:World} {K:PySem.W.Frag} {mg:Str->Option Value} {base:Heap}
theorem sJ (C:Code K mg "_law_plan" GK MJ) (T:Nm mg) (Bl:Good P w K mg base "_law_take" 1 Gi Mq) (X8:Good P w K mg base "_law_loop" 2 MN fK) (iY:Good P w K mg base "_law_parts" 1 KR Ww) (iZ:Good P w K mg base "_law_names" 3 KY ZK) :
  Good P w K mg base "_law_plan" 4 MJ fH:=by
 refine C.good BL (λvs H Q E h=>?_) (λf cdv A outer s H vs Q E hr h=>?_)
 ·obtain⟨b,n,ml,mp,rfl,_⟩:=h
  rfl
 obtain⟨b,n,ml,mp,rfl,hb,hn,Sf,hml,LE,hmp,q⟩:=h
 refine⟨_,(Ah (Bd (i:=3) BL.nd rfl (Or.inr rfl) (Ay Bl hr (Aa (pv 0) (Aa Ae Ab))))
 (Ah (Bd (i:=4) BL.nd rfl (Or.inr rfl) (Bq CG (@BR _ _ _ _ (@Aa _ _ _ _ _ (@Ae _ _ _ _) (@Aa _ _ _ _ _ (@Ae _ _ _ _) (@Aa _ _ _ _ _ (@Ae _ _ _ _) (@Aa _ _ _ _ _ (@Ae _ _ _ _) (@Aa _ _ _ _ _ (@Ae _ _ _ _) (@Aa _ _ _ _ _ (@Ae _ _ _ _) (@Aa _ _ _ _ _ (@Ae _ _ _ _) (@Aa _ _ _ _ _ (@Ae _ _ _ _) (@Aa _ _ _ _ _ (@Ae _ _ _ _) (@Ab _) Bf) Bf) Bf) Bf) Bf) Bf) Bf) Bf) Bf)) (Ay Bl hr (Aa (pv 0) (Aa Ae Ab))) (λ_ _=>rfl)))
 (Ah (Z0 (i:=5) BL.nd rfl (Or.inl rfl) (N':=["_law_k","_law_start","_law_stride"]) rfl (Bm.of (src:=[none,some 3,some 4]) (Ag GK) ["_law_bag_here","_law_most_loops","_law_most_places","_law_start","_law_stride","_law_numbers","_law_own","_law_first","_law_at","_law_loops","_law_loop_here","_law_most","_law_told","_law_places","_law_kind_here","_law_address","_law_spur","_law_zones","_law_names_here","_law_name_here","_law_some"] rfl rfl rfl (by trivial) (by trivial) (by trivial) rfl (by trivial)) (Cv rfl T.range (Aa Ae Ab)) (λ_ _ _ _=>(Ak (i:=0) (show List.Nodup (["_law_k","_law_start","_law_stride"]:List Str) by trivial) rfl (Or.inl rfl))) (λ_ _ _ _=>CT) (λ_ _ _ _=>(Bg Cp (Bg K7 (Bg Cp (pv 1) (Bg Hz (pv 2) (pv 0))) Ae) Ae)))
 (Ah (Bd (i:=6) BL.nd rfl (Or.inl rfl) (CQ Qaq PySem.F.slot_list_pop PySem.F.type_list_pop XD (pv 5) (Aa Ae Ab)))
 (Ah (Bd (i:=7) BL.nd rfl (Or.inl rfl) (Bk Ab))
 (Ah (PS.weak (t':=vg) (BW (Bs V8 (Ay Bl hr (Aa (pv 0) (Aa Ae Ab))) Ae (BP _)) (Aj (Bd (i:=7) BL.nd rfl (Or.inl rfl) (Ay X8 hr (Aa (pv 0) (Aa (pv 5) (Aa (Bg v8 (pv 2) Ae) Ab)))))) BX) (λD σ H h=>by
    obtain⟨b,nb,f0,n,mp,ns,e0,e5,e2,e7,hf0,hb,hn,nbn,hnb,hmp,RY,hns,q⟩:=h
    refine⟨_,e0,b,n,8,rfl,hb,by omega,by decide,by decide,λr H1 r0 r1 hb1 sb1=>⟨_,_,rfl,rfl,_,rfl,Gn (λ_=>?_) (λ_=>?_)⟩⟩
    ·refine⟨_,e0,_,e5,_,e2,_,_,rfl,rfl,b,nb,n+1,mp - 1,ns,?_,hb1,by omega,nbn,sb1 _ _ hnb nbn.symm,by omega,by omega,hns,λt ps ns' H2 ⟨t',vs,et,ht,hp⟩ hok h1 h2 hns' hnb' hb2 s2=>?_⟩
     ·show [V.ref b,.ref nb,.int ((mp:Int) - 1)]++[]=_
      rw[show ((mp:Int) - 1)=((mp - 1:Nat):Int) by omega]
      rfl
     ·cases et
      exact q t vs ps ns' H2 ht hp hok (by omega) hns' hnb' (hb2.mono (by omega)) ((Di.l sb1).trans s2)
    ·have q:=q f0 [] [] ns H1 (sb1.tup hb.Fy _ _ hf0) .nil (λp hp=>by cases hp) (by show 0+1<=mp;omega) rfl (sb1 _ _ hnb nbn.symm) (hb1.mono (by omega)) (Di.l sb1)
     rw[vJ e7] at q
     exact q))
 (Ah (Bd (i:=8) BL.nd rfl (Or.inl rfl) (Ay Bl hr (Aa (pv 0) (Aa (Bg Cp (Aw Bu rfl T.len Dg (Aa (pv 7) Ab)) Ae) Ab))))
 (Ah (Bd (i:=9) BL.nd rfl (Or.inl rfl) (BR (Aa (Bg M5 (Bg M5 (Kf Ub (pv 7) Mf (Ma (pv 8))) (Bk (Aa (Bk (Aa Bh (Aa (pv 6) (Aa (Bk Ab) Ab)))) Ab))) (Kf Ub (pv 7) (Ma (pv 8)) Mf)) Ab)))
 (Ah (BZ QbE rfl (Cv rfl T.range (Aa (Ay Bl hr (Aa (pv 0) (Aa (pv 1) Ab))) Ab)) (Ak (i:=10) BL.nd rfl (Or.inl rfl))
 (Aj (Bj (CQ Qaq Qal Qam Cg (pv 9) (Aa (Ay X8 hr (Aa (pv 0) (Aa (pv 5) (Aa (pv 2) Ab)))) Ab)))))
 (Ah (Bd (i:=11) BL.nd rfl (Or.inl rfl) (Aw (Vp rfl) rfl T.max Yv (Aa (Cq (N':=["_law_places"]) rfl (Bm.plain rfl (by trivial) (by trivial) (by trivial)) (DQ (pv 9)) (λ_ _ _ _=>(Ak (i:=0) (show List.Nodup (["_law_places"]:List Str) by trivial) rfl (Or.inl rfl))) (λ_ _ _ _=>CT) (λ_ _ _ _=>(Aw (dG (K:=K) rfl rfl) rfl T.max Yv (Aa (Ay iY hr (Aa (pv 0) Ab)) Ab)))) Ab)))
 (Ah (Bd (i:=12) BL.nd rfl (Or.inl rfl) (BR Ab))
 (Ah (BZ QbE rfl (DQ (pv 9)) (Ak (i:=13) BL.nd rfl (Or.inl rfl))
 (Aj (BZ QbE rfl (FW (pv 13)) (Df rfl (Aq (Ak (i:=14) BL.nd rfl (Or.inl rfl)) (Aq (Ak (i:=15) BL.nd rfl (Or.inl rfl)) (Aq (Ak (i:=16) BL.nd rfl (Or.inl rfl)) BK))))
 (Aj (Bj (CQ Qaq Qao Qap Jw (pv 12) (Aa (Cq (N':=["_law_other","_law_number"]) rfl (Bm.plain rfl (by trivial) (by trivial) (by trivial)) (FW (Bg M5 (Bk (Aa (Bk (Aa (pv 14) (Aa (pv 15) Ab))) Ab)) (pv 16))) (λ_ _ _ _=>(Jv (K:=K) (n:=2) rfl rfl (Aq (Ak (i:=0) (show List.Nodup (["_law_other","_law_number"]:List Str) by trivial) rfl (Or.inl rfl)) (Aq (Ak (i:=1) (show List.Nodup (["_law_other","_law_number"]:List Str) by trivial) rfl (Or.inl rfl)) BK)))) (λ_ _ _ _=>(MF (Bs (S9 (K:=K) rfl) (pv 0) (Bk (Aa Bh (Aa Bh Ab))) (by with_unfolding_all rfl)))) (λ_ _ _ _=>(pv 1))) Ab)))))))
 (Ah (Bd (i:=17) BL.nd rfl (Or.inl rfl) (BR Ab))
 (Ah (Bd (i:=18) BL.nd rfl (Or.inl rfl) (Ay iZ hr (Aa (pv 0) (Aa (Ay Bl hr (Aa (pv 0) (Aa Ae Ab))) Ab))))
 (Ah (BZ QbE rfl (DQ (pv 18)) (Ak (i:=19) BL.nd rfl (Or.inl rfl))
 (Ah (Bd (i:=20) BL.nd rfl (Or.inr rfl) (Aw Yr rfl T.sorted Vq (Aa (Cq (N':=["_law_number","_law_bag_here"]) rfl (Bm.of (src:=[none,some 0]) (Ag GK) ["_law_bag_here","_law_most_loops","_law_most_places","_law_start","_law_stride","_law_numbers","_law_own","_law_first","_law_at","_law_loops","_law_loop_here","_law_most","_law_told","_law_places","_law_kind_here","_law_address","_law_spur","_law_zones","_law_names_here","_law_name_here","_law_some"] rfl rfl rfl (by trivial) (by trivial) (by trivial) rfl (by trivial)) (DQ (pv 12)) (λ_ _ _ _=>(Ak (i:=0) (show List.Nodup (["_law_number","_law_bag_here"]:List Str) by trivial) rfl (Or.inl rfl))) (λ_ _ _ _=>(MF (Bs Hs (Ay Bl hr (Aa (pv 1) (Aa Ae Ab))) Ae (BP _)))) (λ_ _ _ _=>(pv 0))) Ab)))
 (Ah (Z0 (i:=12) BL.nd rfl (Or.inl rfl) (N':=["_law_number","_law_some"]) rfl (Bm.of (src:=[none,some 20]) (Ag GK) ["_law_bag_here","_law_most_loops","_law_most_places","_law_start","_law_stride","_law_numbers","_law_own","_law_first","_law_at","_law_loops","_law_loop_here","_law_most","_law_told","_law_places","_law_kind_here","_law_address","_law_spur","_law_zones","_law_names_here","_law_name_here","_law_some"] rfl rfl rfl (by trivial) (by trivial) (by trivial) rfl (by trivial)) (DQ (pv 12)) (λ_ _ _ _=>(Ak (i:=0) (show List.Nodup (["_law_number","_law_some"]:List Str) by trivial) rfl (Or.inl rfl))) (λ_ _ _ _=>(MF (Bs (Px (K:=K) rfl) (pv 0) (pv 1) (by with_unfolding_all rfl)))) (λ_ _ _ _=>(pv 0)))
 (Aj (BW (Bs V8 (Aw Bu rfl T.len Dg (Aa (pv 20) Ab)) Ae (BP _)) (Aj (Bj (CQ Qaq Qal Qam Cg (pv 17) (Aa (Bk (Aa (pv 19) (Aa (EY G3 rfl T.tuple Ks (Aa (pv 20) Ab)) Ab))) Ab)))) BX)))))
 (Aj (Bc (Bk (Aa (Aw (Vo rfl) rfl T.min jH (Aa Ae (Aa (Bg Cp (pv 11) (Ay Bl hr (Aa (pv 0) (Aa Ae Ab)))) Ab))) (Aa (EY G3 rfl T.tuple Ks (Aa (pv 9) Ab)) (Aa (EY G3 rfl T.tuple Ks (Aa (pv 17) Ab)) Ab))))))))))))))))))))),?_⟩
 generalize hst:L2.start _ _=σ0
 have e0:σ0=[some (.ref b),some (.int ml),some (.int mp),none,none,none,none,none,none,none,none,none,none,none,none,none,none,none,none,none,none]:=hst.symm
 clear hst
 subst e0
 refine⟨_,rfl,b,n,99,rfl,hb,by omega,by decide,by decide,λr1 H1 r10 r11 hb1 sb1=>?_⟩
 simp only[QaU,QaT]
 refine⟨Ar (by show 9<=1000;decide),λl9 hl9=>?_⟩
 have s9:=Af hl9 (.lst [.int 1,.int 2,.int 4,.int 5,.int 7,.int 8,.int 10,.int 13,.int 98])
 refine⟨_,rfl,b,_,9,rfl,hb1.same s9,by omega,by decide,by decide,λr2 H2 r20 r21 hb2 sb2=>?_⟩
 obtain⟨sd,esd,⟨sd0,sd1⟩,sdk⟩:=Pt r20 r21 (a:=1) (b:=2) (c:=4) (d:=5) (e:=7) (f:=8) (g:=10) (h:=13) (k:=98) (λp=>(0<=p/\p<=98)/\Eo p) (by unfold Eo;decide) (by unfold Eo;decide) (by unfold Eo;decide) (by unfold Eo;decide) (by unfold Eo;decide) (by unfold Eo;decide) (by unfold Eo;decide) (by unfold Eo;decide) (by unfold Eo;decide)
 refine⟨l9,_,_,_,rfl,rfl,SqL.of (sb2 _ _ Ac (hb1.nb hl9).symm),esd,?_⟩
 simp only[QaU,QaT]
 have sB2:Ai b H H2:=(sb1.trans (Ai.of s9)).trans sb2
 refine⟨_,rfl,by decide,by decide,λnb pC=>?_⟩
 have nbn:b≠nb:=hb2.nb pC
 have fnb:H nb=none:=sB2.free hb2.ex pC
 refine Ly (λi σ HH=>∃(u:Option V) (ns:List Int),σ=[u,some (.int r1),some (.int sd)]/\HH=upd H2 nb (.lst (ns.map V.int))/\ns=Nz r1 sd i) ⟨none,[],rfl,rfl,rfl⟩ (λi σ HH hi h=>?_) (fun σ HH h=>?_)
 ·obtain⟨u,ns,rfl,rfl,e1⟩:=h
  have hi:i < 30:=hi
  have e1l:ns.length=i:=by rw[e1];unfold Nz;rw[QbB,Qbo]
  refine⟨_,rfl,_,rfl,_,rfl,_,_,rfl,rfl,.inl ⟨by omega,by omega⟩,_,_,rfl,rfl,_,_,rfl,rfl,(by show (0:Int) < 99;decide),_,_,rfl,rfl,_,Ac,Ao (by rw[QbB];omega),_,ns++[(r1+sd*(0+(i:Int))) % 99+1],rfl,?_,by rw[gU,e1]⟩
  rw[Qz,QbC]
  rfl
 obtain⟨u,mG,rfl,rfl,e30⟩:=h
 have pP:mG=Nz r1 sd 30:=e30
 have e30:mG.length=30:=by rw[pP];unfold Nz;rw[QbB,Qbo]
 simp only[QaU,QaT]
 cases mG with
 | nil=>cases e30
 | cons own Im=>
 have e29:Im.length=29:=by simpa using e30
 have AT:(own::Im).Nodup:=by rw[pP];exact tK sdk
 have AU:∀x∈own::Im,1<=x/\x<=99:=by rw[pP];exact tL r1 sd 30
 have sN:=Af pC (.lst ((own::Im).map V.int))
 refine⟨_,rfl,.inl ⟨rfl,_,SqL.of Ac⟩,nb,_,0,0,.int own,rfl,rfl,Ac,by decide,by decide,fQ (by rw[QbB];show 0 < _+1;omega),rfl,?_⟩
 simp only[QaU,QaT]
 have xJ:upd (upd H2 nb (.lst ((own::Im).map V.int))) nb (.lst (((own::Im).map V.int).eraseIdx 0)) nb=some (.lst (Im.map V.int)):=by rw[Ac];rfl
 have hb4:Br (upd (upd H2 nb (.lst ((own::Im).map V.int))) nb (.lst (((own::Im).map V.int).eraseIdx 0))) b (n+1+1):=(hb2.same sN).Cz Ai.upd nbn
 have sB4:Ai b H (upd (upd H2 nb (.lst ((own::Im).map V.int))) nb (.lst (((own::Im).map V.int).eraseIdx 0))):=Ai.Lj (sB2.trans (Ai.of sN)) Ai.upd fnb
 generalize upd (upd H2 nb (.lst ((own::Im).map V.int))) nb (.lst (((own::Im).map V.int).eraseIdx 0))=H4 at xJ hb4 sB4
 refine⟨Ar (by show 0<=1000;decide),λf0 hf0=>?_⟩
 simp only[QaU,QaT]
 have s5:=Af hf0 (.tup [])
 refine⟨b,nb,f0,_,mp,Im,rfl,rfl,rfl,rfl,Ac,hb4.same s5,by omega,nbn,s5 _ _ xJ,LE,hmp,by omega,λft fv fp ns1 H5 hft hfp xT hfl LA LB hb5 s45=>?_⟩
 simp only[QaU,QaT]
 have sB5:Ai b H H5:=λc o e nc=>s45 _ _ (s5 _ _ (sB4 _ _ e nc)) nc (λz=>by rw[z,fnb] at e;cases e)
 have lfv:=QbX hfp
 refine⟨_,rfl,_,rfl,ft,_,rfl,.inr (SqT.of hft),_,_,rfl,rfl,b,_,_,rfl,hb5,by omega,by omega,by omega,λr4 H6 r40 r41 hb6 sb6=>?_⟩
 simp only[QaU,QaT]
 obtain⟨an,han⟩ : ∃an:Nat,r4=an:=⟨r4.toNat,by omega⟩
 subst han
 have xP:=(sb6.tup hb5.Fy) _ _ hft
 have xR:=Pn.tups (sb6.tup hb5.Fy) hfp
 have xH:=sb6 _ _ LB nbn.symm
 have sB6:=sB5.trans sb6
 refine⟨_,rfl,_,rfl,_,rfl,ft,fv,rfl,xP,λp1 H7 hp1 s7=>?_⟩
 rw[yH (by omega)] at hp1
 refine⟨_,rfl,Ar (by show 0<=1000;decide),λe0 he0=>⟨Ar (by show 3<=1000;decide),λt3 ht3=>⟨Ar (by show 1<=1000;decide),λt1 ht1=>?_⟩⟩⟩
 have q1:=Af he0 (.tup [])
 have q2:=Af ht3 (.tup [.str "seeker",.int own,.ref e0])
 have q3:=Af ht1 (.tup [.ref t3])
 have q13:=(q1.trans q2).trans q3
 have hown:Dt (upd (upd (upd H7 e0 (.tup [])) t3 (.tup [.str "seeker",.int own,.ref e0])) t1 (.tup [.ref t3])) (.ref t3) ⟨"seeker",own,[]⟩:=⟨t3,e0,[],rfl,q3 _ _ Ac,q3 _ _ (q2 _ _ Ac),.nil⟩
 refine⟨p1,t1,_,_,rfl,rfl,q13 _ _ hp1,Ac,Ar (by rw[Qbs];show _+1<=1000;omega),λp2 H8 hp2 s8=>?_⟩
 have s68:=(s7.trans q13).trans s8
 refine⟨_,rfl,_,rfl,_,rfl,ft,fv,rfl,s68 _ _ xP,λp3 H9 hp3 s9'=>?_⟩
 rw[R7 (by omega)] at hp3
 refine⟨p2,p3,_,_,rfl,rfl,s9' _ _ hp2,hp3,Ar (by rw[QaQ,Qbs,Qbx];show _+1+_<=1000;omega),λp4 H10 hp4 s10=>⟨Ar (by show 1<=1000;decide),λll hll=>?_⟩⟩
 simp only[QaU,QaT]
 have W7:=(s68.trans s9').trans s10
 have s11:=Af hll (.lst [.ref p4])
 have W3:=W7.trans s11
 have hL0:LoopAt (upd H10 ll (.lst [.ref p4])) (.ref p4) ((fp.take an++[⟨"seeker",own,[]⟩])++fp.drop an):=by
  refine⟨p4,_,rfl,s11 _ _ hp4,Paired.app (Paired.app (Pn.tups (Am.of W3) (Paired.qx an xR)) (.cons ?_ .nil)) (Pn.tups (Am.of W3) (Paired.qW an xR))⟩
  exact hown.tups (Am.of (((s8.trans s9').trans s10).trans s11))
 have wD:OkL ((fp.take an++[⟨"seeker",own,[]⟩])++fp.drop an):=by
  refine⟨?_,?_,λp hp=>?_⟩
  ·rw[QaQ,QaQ];show 1<=_+1+_;omega
  ·rw[QaQ,QaQ,Qbs,Qbx];show _+1+_<=12;omega
  ·rcases QbD.mp hp with z | z
   ·rcases QbD.mp z with z | z
    ·exact xT p (QaH z)
    ·have:p=⟨"seeker",own,[]⟩:=by simpa using z
     rw[this]
     exact⟨by show 0<=3;decide,(λd hd=>by cases hd),.inr (.inl rfl)⟩
   ·exact xT p (List.mem_of_mem_drop z)
 have pm0:(adL ((fp.take an++[⟨"seeker",own,[]⟩])++fp.drop an)++ns1).Perm (own::Im):=by
  have h2:adL fp=adL (fp.take an)++adL (fp.drop an):=by rw[<-Mi,List.take_append_drop]
  have h3:adL [(⟨"seeker",own,[]⟩ : Place)]=[own]:=by
   have:adP ⟨"seeker",own,[]⟩=[own]:=if_neg (Tp (.inl rfl))
   show [(⟨"seeker",own,[]⟩ : Place)].flatMap adP=[own]
   simp[this]
  rw[Mi,Mi,h3,LA,h2,Qbh,Qbh,Qbh]
  exact (List.perm_middle (l₁:=adL (fp.take an)) (a:=own) (l₂:=adL (fp.drop an)++ns1))
 have BB:1<=(adL ((fp.take an++[⟨"seeker",own,[]⟩])++fp.drop an)).length:=by
  have h3:adL [(⟨"seeker",own,[]⟩ : Place)]=[own]:=by
   have:adP ⟨"seeker",own,[]⟩=[own]:=if_neg (Tp (.inl rfl))
   show [(⟨"seeker",own,[]⟩ : Place)].flatMap adP=[own]
   simp[this]
  rw[Mi,Mi,h3,QaQ,QaQ]
  show 1<=_+1+_
  omega
 generalize Sk:(fp.take an++[⟨"seeker",own,[]⟩])++fp.drop an=L0 at hL0 wD pm0 BB
 have hbL:Br (upd H10 ll (.lst [.ref p4])) b (n+1+1+101+1):=hb6.same W3
 have xG:=W3 _ _ xH
 have sBL:Ai b H (upd H10 ll (.lst [.ref p4])):=sB6.trans (Ai.of W3)
 have xM:upd H10 ll (.lst [.ref p4]) ll=some (.lst [.ref p4]):=Ac
 have fll:H ll=none:=(sB6.trans (Ai.of W7)).free (hb6.same W7).ex hll
 have nbl:b≠ll:=(hb6.same W7).nb hll
 have nnl:nb≠ll:=Av (W7 _ _ xH) hll
 generalize upd H10 ll (.lst [.ref p4])=HL at hL0 hbL xG sBL xM
 refine⟨_,rfl,_,rfl,b,_,_,rfl,hbL,by omega,by omega,by omega,λr5 HM r50 r51 hbM sbM=>⟨_,rfl,by omega,by omega,?_⟩⟩
 obtain⟨lnn,LF⟩ : ∃lnn:Nat,r5=lnn:=⟨r5.toNat,by omega⟩
 subst LF
 rw[Qbk]
 have tM:=sbM.tup hbL.Fy
 have EU:∀ps∈[L0],OkL ps:=λps hps=>by
  have:ps=L0:=by simpa using hps
  rw[this];exact wD
 refine Du (λi σ HH=>∃(u10:Option V) (vs:List V) (loops:List (List Place)) (ns':List Int),σ=[some (.ref b),some (.int ml),some (.int mp),some (.int r1),some (.int sd),some (.ref nb),some (.int own),some (.ref ft),some (.int (an:Int)),some (.ref ll),u10,none,none,none,none,none,none,none,none,none,none] /\
   HH ll=some (.lst vs)/\Paired (LoopAt HH) vs loops/\loops.length=1+i/\(∀ps∈loops,OkL ps)/\((Ck loops++ns').Perm (own::Im)/\∃L,loops=L0::L)/\HH nb=some (.lst (ns'.map V.int))/\Br HH b (n+105+101*i)/\Ai b H HH)
  ⟨_,[.ref p4],[L0],ns1,rfl,sbM _ _ xM nbl.symm,.cons (hL0.tups tM) .nil,rfl,EU,⟨(by show ([L0].flatMap adL++_).Perm _;simpa using pm0),[],rfl⟩,sbM _ _ xG nbn.symm,hbM.mono (by omega),sBL.trans sbM⟩ (λi σ HH hi h=>?_) (fun σ HH h=>?_)
 ·obtain⟨u10,vs,loops,ns',rfl,e1,e2,e3,e4,⟨e5p,Lr,hLr⟩,e6,e7,e8⟩:=h
  have e5:(Ck loops).length+ns'.length=30:=by
   have:=e5p.length_eq
   rw[QaQ,Qbr,e29] at this
   exact this
  simp only[QaU,QaT]
  refine⟨_,rfl,.inl ⟨rfl,_,SqL.of e1⟩,_,rfl,_,rfl,_,rfl,b,nb,_,mp,ns',rfl,e7,by omega,nbn,e6,by omega,by omega,by omega,λt ps IA H' hL hok h1 h2 hns hnb' hb' s2=>?_⟩
  have e1':=s2 _ _ e1 nbl.symm nnl.symm
  have t2:Am HH H':=λc xs e=>s2 _ _ e (λz=>e7.Fy _ (z ▸ e)) (λz=>by rw[z,e6] at e;cases e)
  refine⟨ll,_,_,rfl,rfl,e1',Ao (by rw[QbX e2];omega),?_⟩
  have tv0:∀zs,H' ll≠some (.tup zs):=λzs z=>by rw[e1'] at z;cases z
  have tv:=Am.upd (o:=.lst (vs++[.ref t])) tv0
  refine⟨_,vs++[.ref t],loops++[ps],IA,rfl,Ac,Qcs (hL.tups tv) (Ln.tups tv (Ln.tups t2 e2)),by rw[QaQ,e3];show _+1=_;omega,λp hp=>?_,?_,by rw[Al nnl];exact hnb',(hb'.Cz Ai.upd nbl).mono (by omega),λc o e nc=>?_⟩
  ·rcases QbD.mp hp with z | z
   ·exact e4 p z
   ·have:p=ps:=by simpa using z
    rw[this];exact⟨h1,by omega,hok⟩
  ·refine⟨?_,Lr++[ps],by rw[hLr];rfl⟩
   rw[Vw,Qbh,<-hns]
   exact e5p
  ·rw[Al (λz=>by rw[z,fll] at e;cases e)]
   exact s2 _ _ (e8 _ _ e nc) nc (λz=>by rw[z,fnb] at e;cases e)
 obtain⟨u10,vs,loops,ns',rfl,e1,e2,e3,e4,⟨e5p,iQ⟩,e6,e7,e8⟩:=h
 have e5:(Ck loops).length+ns'.length=30:=by
  have:=e5p.length_eq
  rw[QaQ,Qbr,e29] at this
  exact this
 have lvs:=QbX e2
 have ndA:(Ck loops).Nodup:=(List.nodup_append.mp (e5p.nodup_iff.mpr AT)).1
 have bdA:∀x∈Ck loops,1<=x/\x<=99:=λx hx=>AU x (e5p.mem_iff.mp (QaF _ hx))
 have uT:=PN e4
 refine⟨_,rfl,ll,rfl,⟨_,SqL.of e1⟩,λlm hlm=>?_⟩
 have nlm:ll≠lm:=Av e1 hlm
 refine GJ (xs:=vs) (λi σ H'=>∃(u:Option V) (ms:List Int),σ=[u]/\H' lm=some (.lst (ms.map V.int))/\ms.length=i/\Same HH H'/\∀ps∈loops.take i,∀m∈Hr ps,∃M∈ms,m<=M) ⟨none,[],rfl,Ac,rfl,Af hlm _,(λps hps=>by cases hps)⟩ (λi σ H' _ h=>?_) (λi x σ H' hx h=>?_) (fun σ H' h=>?_)
 ·obtain⟨u,ms,rfl,m1,m2,m3,m4⟩:=h
  exact SqL.of (m3 _ _ e1)
 ·obtain⟨u,ms,rfl,m1,m2,m3,m4⟩:=h
  obtain⟨ps,hps,hL⟩:=Paired.Cm e2 hx
  obtain⟨tx,wx,rfl,hx1,hx2⟩:=id hL
  have okl:=e4 ps (QaD hps)
  refine⟨_,rfl,tx,ps,rfl,hL.tups (Am.of m3),okl.ok,by have:=okl.hi;omega,λlq H'' hq s'=>⟨lq,Hr ps,rfl,SqL.of hq,(by unfold Hr;rw[QaQ];show 0 < _+1;omega),λM hMi hMm=>?_⟩⟩
  have hi:=(Qah.mp hx).1
  refine⟨_,s' _ _ m1,Ao (by rw[QbB];omega),_,ms++[M],rfl,by rw[Ac,QbC];rfl,by rw[QaQ,m2];rfl,(m3.trans s').Bv Ai.upd hlm,λqs hqs m hm=>?_⟩
  rw[Qcy hps] at hqs
  rcases QbD.mp hqs with hqs | hqs
  ·obtain⟨M',h1,h2⟩:=m4 qs hqs m hm
   exact⟨M',QaF _ h1,h2⟩
  ·have:qs=ps:=by simpa using hqs
   rw[this] at hm
   exact⟨M,QaA _ (QaR ..),hMm m hm⟩
 obtain⟨u,ms,rfl,m1,m2,m3,m4⟩:=h
 refine⟨lm,ms,rfl,SqL.of m1,by omega,λM hMi hMm=>?_⟩
 have wL:∀ps∈loops,∀m∈Hr ps,m<=M:=λps hps m hm=>by
  obtain⟨M',h1,h2⟩:=m4 ps (by rw[lvs,Qbt];exact hps) m hm
  have:=hMm M' h1
  omega
 simp only[QaU,QaT]
 have e1:=m3 _ _ e1
 have e2:=Ln.tups (Am.of m3) e2
 have e7:=e7.same m3
 have e8:=e8.trans (Ai.of m3)
 clear m1 m2
 refine⟨Ar (by show 0<=1000;decide),λlt hlt=>?_⟩
 simp only[QaU,QaT]
 have sT:=Af hlt (.lst [])
 have nbt:b≠lt:=e7.nb hlt
 refine⟨_,rfl,ll,rfl,⟨_,SqL.of (sT _ _ e1)⟩,?_⟩
 refine R0 (xs:=vs) (λi σ HT=>∃(u13 u14 u15 u16:Option V) (ts:List Int),σ=[some (.ref b),some (.int ml),some (.int mp),some (.int r1),some (.int sd),some (.ref nb),some (.int own),some (.ref ft),some (.int (an:Int)),some (.ref ll),u10,some (.int M),some (.ref lt),u13,u14,u15,u16,none,none,none,none] /\
   HT lt=some (.lst (ts.map V.int))/\ts=Et (loops.take i)/\Same H' HT) ⟨_,_,_,_,[],rfl,Ac,rfl,sT⟩ (λi σ HT _ h=>?_) (λi x σ HT hx h=>?_) (fun σ HT h=>?_)
 ·obtain⟨u13,u14,u15,u16,ts,rfl,t1,t2,t3⟩:=h
  exact SqL.of (t3 _ _ e1)
 ·obtain⟨u13,u14,u15,u16,ts,rfl,t1,t2,t3⟩:=h
  simp only[QaU,QaT]
  obtain⟨ps,hps,hL⟩:=Paired.Cm e2 hx
  obtain⟨tx,wx,rfl,hx1,hx2⟩:=id hL
  have okl:=e4 ps (QaD hps)
  have lwx:=QbX hx2
  have etk:Ck (loops.take (i+1))=Ck (loops.take i)++adL ps:=by rw[Qcy hps,Vw]
  have tot:(Ck (loops.take (i+1))).length<=30:=by
   have:Ck loops=Ck (loops.take (i+1))++Ck (loops.drop (i+1)):=by unfold Ck;rw[<-QaL,List.take_append_drop]
   have h2:=congrArg List.length this
   rw[QaQ] at h2
   omega
  rw[etk,QaQ] at tot
  have wle:(Et (loops.take i)).length<=(Ck (loops.take i)).length:=(PN λqs hqs=>e4 qs (QaH hqs)).length_le
  have wtk:Et (loops.take (i+1))=Et (loops.take i)++Jf ps:=by rw[Qcy hps,aO]
  refine⟨_,rfl,tx,rfl,⟨_,SqT.of (t3 _ _ hx1)⟩,?_⟩
  refine Mh (xs:=wx) (λj σ HT=>∃(u14 u15 u16:Option V) (ts:List Int),σ=[some (.ref b),some (.int ml),some (.int mp),some (.int r1),some (.int sd),some (.ref nb),some (.int own),some (.ref ft),some (.int (an:Int)),some (.ref ll),u10,some (.int M),some (.ref lt),some (.ref tx),u14,u15,u16,none,none,none,none] /\
    HT lt=some (.lst (ts.map V.int))/\ts=Et (loops.take i)++Jf (ps.take j)/\Same H' HT) ⟨_,_,_,ts,rfl,t1,(by rw[t2];show _=_++[];rw[QbF]),t3⟩ (λj σ HT _ h=>?_) (λj y σ HT hy h=>?_) (fun σ HT h=>?_)
  ·obtain⟨u14,u15,u16,ts,rfl,t1,t2,t3⟩:=h
   exact SqT.of (t3 _ _ hx1)
  ·obtain⟨u14,u15,u16,ts,rfl,t1,t2,t3⟩:=h
   obtain⟨p,hp,hP⟩:=Paired.Cm hx2 hy
   obtain⟨tp,up,wp',rfl,hp1,hp2,hp3⟩:=hP.tups (Am.of t3)
   have okp:=okl.ok p (QaD hp)
   have etj:adL (ps.take (j+1))=adL (ps.take j)++adP p:=by rw[Qcy hp,Sh]
   have tj:(adL (ps.take (j+1))).length<=(adL ps).length:=by
    have:adL ps=adL (ps.take (j+1))++adL (ps.drop (j+1)):=by rw[<-Mi,List.take_append_drop]
    have h2:=congrArg List.length this
    rw[QaQ] at h2
    omega
   rw[etj,QaQ] at tj
   have wlj:(Jf (ps.take j)).length<=(adL (ps.take j)).length:=(Rw λqs hqs=>okl.ok qs (QaH hqs)).length_le
   have wtj:Jf (ps.take (j+1))=Jf (ps.take j)++Ik (Fx p):=by rw[Qcy hp,eF]
   have t2l:ts.length<=(Ck (loops.take i)).length+(adL (ps.take j)).length:=by rw[t2,QaQ];omega
   refine⟨tp,_,rfl,SqT.of hp1,rfl,_,_,rfl,_,_,rfl,_,_,rfl,rfl,?_⟩
   simp only[QaU,QaT]
   refine⟨_,rfl,.inl ⟨rfl,_,SqL.of t1⟩,_,rfl,_,rfl,Ar (by show 2<=1000;decide),λta hta=>⟨Ar (by show 1<=1000;decide),λtb htb=>?_⟩⟩
   have v1:=Af hta (.tup [.str p.kind,.int p.addr])
   have v2:=Af htb (.tup [.ref ta])
   have v12:=v1.trans v2
   refine⟨_,rfl,tb,up,_,_,rfl,rfl,Ac,v12 _ _ hp2,Ar (by have:=okp.spur;show 1+_<=1000;rw[QbX hp3];omega),λtc HC hC sC=>⟨tc,rfl,⟨_,SqT.of hC⟩,λl hl=>?_⟩⟩
   have vC:=v12.trans sC
   have hds:Paired (JV HC) ([.ref ta]++wp') (⟨p.kind,p.addr⟩::p.spur):=.cons ⟨ta,rfl,sC _ _ (v2 _ _ Ac)⟩ (Paired.Bb hp3 λ_ _ z=>z.tups (Am.of vC))
   have lds:=QbX hds
   refine R8 (xs:=[.ref ta]++wp') (λk σ H5=>∃(u v:Option V) (ys:List Int),σ=[u,v]/\H5 l=some (.lst (ys.map V.int))/\ys=Ik ((Fx p).take k)/\Same HC H5) ⟨none,none,[],rfl,Ac,rfl,Af hl _⟩ (λk σ H5 _ h=>?_) (λk x σ H5 hk h=>?_) (fun σ H5 h=>?_)
   ·obtain⟨u,v,ys,rfl,y1,y2,y3⟩:=h
    exact SqT.of (y3 _ _ hC)
   ·obtain⟨u,v,ys,rfl,y1,y2,y3⟩:=h
    obtain⟨d,hd,td,rfl,htd⟩:=Paired.Cm hds hk
    have hkl:=(Qah.mp hd).1
    have hsp:=okp.spur
    have hkk:k < 4:=by rw[Qbr] at hkl;omega
    have hdv:(Fx p)[k]?=some d:=hd
    have hws:Ik ((Fx p).take (k+1))=Ik ((Fx p).take k)++(if En d.kind=true then [d.addr] else []):=by rw[Qcy hdv,eG]
    have y2l:ys.length<=k:=by
     rw[y2]
     have:=(Zt (ds:=(Fx p).take k)).length_le
     rw[QbB,Qbs] at this
     omega
    refine⟨td,_,rfl,SqT.of (y3 _ _ htd),rfl,_,_,rfl,_,_,rfl,rfl,?_⟩
    refine⟨_,rfl,Ar (by show 2<=1000;decide),λtq htq=>?_⟩
    have vq:=Af htq (.tup [.str "seeker",.str "knob"])
    refine⟨tq,_,rfl,.inr (SqT.of Ac),rfl,rfl,_,rfl,Gn (λcc=>?_) (λcc=>?_)⟩
    ·have cc:En d.kind=true:=cc
     rw[if_pos cc] at hws
     refine⟨_,rfl,_,vq _ _ y1,Ao (by rw[QbB];omega),_,_,ys++[d.addr],rfl,by rw[Ac,QbC];rfl,by rw[hws,y2],(y3.trans vq).Bv Ai.upd hl⟩
    ·have cc:¬En d.kind=true:=cc
     rw[if_neg cc,QbF] at hws
     refine⟨_,_,ys,rfl,vq _ _ y1,by rw[hws];exact y2,y3.trans vq⟩
   obtain⟨u,v,ys,rfl,y1,y2,y3⟩:=h
   have y2':ys=Ik (Fx p):=by
    rw[y2,lds]
    congr 1
    exact Qbt ..
   have y2l:ys.length<=(adP p).length:=by rw[y2'];exact (Wg okp).length_le
   have t1':=y3 _ _ (vC _ _ t1)
   refine⟨lt,l,_,_,rfl,rfl,t1',y1,Ar (by rw[QbB,QbB];omega),?_⟩
   refine⟨_,_,_,ts++ys,rfl,by rw[Ac,QbC],?_,((t3.trans vC).trans y3).Bv Ai.upd hlt⟩
   rw[wtj,t2,y2',Qbh]
  ·obtain⟨u14,u15,u16,ts,rfl,t1,t2,t3⟩:=h
   rw[lwx,Qbt] at t2
   exact⟨_,_,_,_,ts,rfl,t1,by rw[wtk];exact t2,t3⟩
 obtain⟨u13,u14,u15,u16,ts,rfl,t1,t2,t3⟩:=h
 rw[lvs,Qbt] at t2
 have j9:ts.length<=30:=by rw[t2];have:=uT.length_le;omega
 have zk0:Pk (Et loops) ts [] []:=by
  rw[t2]
  exact⟨uT.nodup ndA,(λx hx=>hx),(λz hz=>by cases hz),List.Sublist.refl _⟩
 have e1:=t3 _ _ e1
 have e2:=Ln.tups (Am.of t3) e2
 have e7:=e7.same t3
 have e8:=e8.trans (Ai.of t3)
 refine⟨Ar (by show 0<=1000;decide),λlz hlz=>?_⟩
 simp only[QaU,QaT]
 have sZ:=Af hlz (.lst [])
 have nzl:ll≠lz:=Av e1 hlz
 have nzt:lt≠lz:=Av t1 hlz
 have nzb:b≠lz:=e7.nb hlz
 have flz:H lz=none:=e8.free e7.ex hlz
 refine⟨_,rfl,_,rfl,b,_,5,rfl,e7.same sZ,by omega,by decide,by decide,λr6 HU r60 r61 hbU sU=>?_⟩
 obtain⟨rn,hrn⟩ : ∃rn:Nat,r6=rn:=⟨r6.toNat,by omega⟩
 subst hrn
 refine⟨b,_,rn,rfl,hbU,by omega,by omega,λln ys HV hln ly hys BN cU hbV sV=>?_⟩
 simp only[QaU,QaT]
 have sUV:Ai b _ HV:=((Ai.of sZ).trans sU).trans sV
 have nzn:ln≠lz:=λz=>by rw[z,sU _ _ Ac nzb.symm] at hln;cases hln
 have e1:=sUV _ _ e1 nbl.symm
 have e2:=Ln.tups (sUV.tup e7.Fy) e2
 have e8:=e8.trans sUV
 have hzV:HV lz=some (.lst []):=sV _ _ (sU _ _ Ac nzb.symm) nzb.symm
 have t1:=sUV _ _ t1 nbt.symm
 have hbV:=hbV.mono (show _<=n+500 by omega)
 have tl3:loops.length<=3:=by omega
 have nln:b≠ln:=hbU.nb hln
 refine⟨_,rfl,ln,rfl,⟨_,SqL.of cU⟩,?_⟩
 refine R0 (xs:=ys.map V.str) (λi σ HH=>∃(lt:Addr) (u19 u20:Option V) (ts:List Int) (zs:List V),σ=[some (.ref b),some (.int ml),some (.int mp),some (.int r1),some (.int sd),some (.ref nb),some (.int own),some (.ref ft),some (.int (an:Int)),some (.ref ll),u10,some (.int M),some (.ref lt),u13,u14,u15,u16,some (.ref lz),some (.ref ln),u19,u20] /\
   HH lt=some (.lst (ts.map V.int))/\ts.length<=30/\b≠lt/\lt≠lz/\HH lz=some (.lst zs)/\(∃zones,Paired (Jc HH) zs zones/\Pk (Et loops) ts zones (ys.take i))/\HH ln=some (.lst (ys.map V.str))/\HH ll=some (.lst vs)/\Paired (LoopAt HH) vs loops/\Br HH b (n+500+30*i)/\Ai b H HH)
  ⟨lt,_,_,ts,[],rfl,t1,j9,nbt,nzt,hzV,⟨[],.nil,zk0⟩,cU,e1,e2,hbV,e8⟩ (λi σ HH _ h=>?_) (λi x σ HH hx h=>?_) (fun σ HH h=>?_)
 ·obtain⟨lt,u19,u20,ts,zs,rfl,z1,z2,z3,z4,z5,z6,z7,z8,z9,z10,z11⟩:=h
  exact SqL.of z7
 ·clear t1 t2 t3 j9 nbt nzt hzV cU e1 e2 hbV e8
  obtain⟨lt,u19,u20,ts,zs,rfl,z1,z2,z3,z4,z5,z6,z7,z8,z9,z10,z11⟩:=h
  obtain⟨zones,zp,zk⟩:=z6
  have BM:zs.length<=5:=by
   have h1:=QbX zp
   have h2:=zk.nm.length_le
   rw[QbB,Qbs] at h2
   omega
  obtain⟨yi,hyi,rfl⟩ : ∃yi,ys[i]?=some yi/\x=.str yi:=by
   rw[Qbi] at hx
   obtain⟨yi,h1,h2⟩:=Qaw.mp hx
   exact⟨yi,h1,h2.symm⟩
  have ytk:ys.take (i+1)=ys.take i++[yi]:=Qcy hyi
  have hil:i < 5:=by
   have:=(Qah.mp hx).1
   rw[QbB] at this
   omega
  simp only[QaU,QaT]
  refine⟨_,rfl,lt,rfl,⟨_,SqL.of z1⟩,λlc hlc=>?_⟩
  have nbc:b≠lc:=z10.nb hlc
  have ntc:lt≠lc:=Av z1 hlc
  have sC:=Af hlc (.lst [])
  refine GJ (xs:=ts.map V.int) (λk σ HC=>∃(u:Option V) (ss:List Int),σ=[u,some (.ref b)]/\HC lc=some (.lst (ss.map V.int))/\ss.Sublist (ts.take k)/\Br HC b (n+500+30*i+k)/\Ai b HH HC) ⟨none,[],rfl,Ac,List.Sublist.refl _,z10.same sC,Ai.of sC⟩ (λk σ HC _ h=>?_) (λk x σ HC hk h=>?_) (fun σ HC h=>?_)
  ·obtain⟨u,ss,rfl,c1,c2,c3,c4⟩:=h
   exact SqL.of (c4 _ _ z1 z3.symm)
  ·obtain⟨u,ss,rfl,c1,c2,c3,c4⟩:=h
   have hkl:k < 30:=by
    have:=(Qah.mp hk).1
    rw[QbB] at this
    omega
   refine⟨_,rfl,b,_,3,rfl,c3,by omega,by decide,by decide,λr HD _ _ hbD sD=>⟨rfl,_,rfl,?_⟩⟩
   have c1':=sD _ _ c1 nbc.symm
   rw[Qbi] at hk
   obtain⟨a,hka,rfl⟩:=Qaw.mp hk
   have tka:ts.take (k+1)=ts.take k++[a]:=Qcy hka
   have ssl:ss.length<=k:=Qck c2.length_le (by rw[Qbs];omega)
   refine Gn (λcc=>?_) (λcc=>?_)
   ·refine⟨_,rfl,_,c1',Ao (by rw[QbB];omega),_,ss++[a],rfl,by rw[Ac,QbC];rfl,by rw[tka];exact c2.append (List.Sublist.refl _),hbD.Cz Ai.upd nbc,Ai.Lj (c4.trans sD) Ai.upd hlc⟩
   ·exact⟨_,ss,rfl,c1',by rw[tka];exact c2.trans (List.sublist_append_left ..),hbD,c4.trans sD⟩
  obtain⟨u,ss,rfl,c1,c2,c3,c4⟩:=h
  rw[QbB] at c2 c3
  rw[Qbt] at c2
  have ssl:ss.length<=30:=Qck c2.length_le z2
  refine⟨lc,ss,rfl,SqL.of c1,by omega,λms ls hperm O2 hls=>?_⟩
  simp only[QaU,QaT]
  have sS:=Af hls (.lst (ms.map V.int))
  have c5:Ai b HH (upd HC ls (.lst (ms.map V.int))):=c4.trans (Ai.of sS)
  have c6:=c3.same sS
  have c7:(upd HC ls (.lst (ms.map V.int))) ls=some (.lst (ms.map V.int)):=Ac
  generalize upd HC ls (.lst (ms.map V.int))=HS at c5 c6 c7
  have lms:ms.length<=30:=by have:=hperm.length_eq;omega
  have z1:=c5 _ _ z1 z3.symm
  refine⟨_,rfl,lt,rfl,⟨_,SqL.of z1⟩,λlw hlw=>?_⟩
  have nbw:b≠lw:=c6.nb hlw
  have nsw:ls≠lw:=Av c7 hlw
  have nzw:lw≠lz:=(Av (c5 _ _ z5 nzb.symm) hlw).symm
  refine GJ (xs:=ts.map V.int) (λk σ HC=>∃(u:Option V) (ss:List Int),σ=[u,some (.ref ls)]/\HC lw=some (.lst (ss.map V.int))/\ss=(ts.take k).filter (λx=>!decide (x∈ms))/\Same HS HC) ⟨none,[],rfl,Ac,rfl,Af hlw _⟩ (λk σ HC _ h=>?_) (λk x σ HC hk h=>?_) (fun σ HC h=>?_)
  ·obtain⟨u,ss,rfl,d1,d2,d3⟩:=h
   exact SqL.of (d3 _ _ z1)
  ·obtain⟨u,ss,rfl,d1,d2,d3⟩:=h
   have hkl:k < 30:=by
    have:=(Qah.mp hk).1
    rw[QbB] at this
    omega
   rw[Qbi] at hk
   obtain⟨a,hka,rfl⟩:=Qaw.mp hk
   have tka:(ts.take (k+1)).filter (λx=>!decide (x∈ms))=(ts.take k).filter (λx=>!decide (x∈ms))++[a].filter (λx=>!decide (x∈ms)):=by rw[Qcy hka,List.filter_append]
   have ssl:ss.length<=30:=by
    rw[d2]
    have h1:=List.length_filter_le (λx=>!decide (x∈ms)) (ts.take k)
    rw[Qbs] at h1
    omega
   refine⟨_,rfl,_,rfl,ls,_,rfl,.inl (SqL.of (d3 _ _ c7)),rfl,jk ms,_,rfl,Gn (λcc=>?_) (λcc=>?_)⟩
   ·have cc:(!inV (.int a) (ms.map V.int))=true:=cc
    rw[RT] at cc
    rw[show List.filter (λx=>!decide (x∈ms)) [a]=[a] from List.filter_cons_of_pos (p:=λx=>!decide (x∈ms)) cc] at tka
    refine⟨_,rfl,_,d1,Ao (by rw[QbB];omega),_,ss++[a],rfl,by rw[Ac,QbC];rfl,by rw[tka,d2],d3.Bv Ai.upd hlw⟩
   ·have cc:¬(!inV (.int a) (ms.map V.int))=true:=cc
    rw[RT] at cc
    rw[show List.filter (λx=>!decide (x∈ms)) [a]=[] from Qau (p:=λx=>!decide (x∈ms)) cc] at tka
    exact⟨_,ss,rfl,d1,by rw[tka,d2];exact (QbF _).symm,d3⟩
  obtain⟨u,ws,rfl,d1,d2,d3⟩:=h
  rw[QbB,Qbt] at d2
  have wsl:ws.length<=30:=by rw[d2];exact Qck (List.length_filter_le _ _) z2
  simp only[QaU,QaT]
  have c8:=c5.trans (Ai.of d3)
  have z5:=c8 _ _ z5 nzb.symm
  have z7:=c8 _ _ z7 nln.symm
  have z8:=c8 _ _ z8 nbl.symm
  have z9:=Ln.tups (c8.tup z10.Fy) z9
  have zp:Paired (Jc HC) zs zones:=Paired.Bb zp λ_ _ z=>z.tups (c8.tup z10.Fy)
  have z10:=(c6.same d3).mono (show _<=n+500+30*(i+1) by omega)
  have z11:=z11.trans c8
  have c7:=d3 _ _ c7
  have zkn:(ms.map V.int).length=ms.length:=QbB _
  refine⟨_,rfl,ls,_,rfl,.inl (SqL.of c7),_,_,rfl,rfl,_,rfl,Gn (λcc=>?_) (λcc=>?_)⟩
  ·refine⟨_,rfl,.inl ⟨rfl,_,SqL.of z5⟩,_,rfl,_,rfl,ls,_,rfl,.inl ⟨SqL.of c7,λtt htt=>⟨Ar (by show 2<=1000;decide),λta hta=>?_⟩⟩⟩
   have f1:=Af htt (.tup (ms.map V.int))
   have f2:=Af hta (.tup [.str yi,.ref tt])
   have f12:=f1.trans f2
   have z5:=f12 _ _ z5
   refine⟨lz,_,_,rfl,rfl,z5,Ao (by omega),?_⟩
   have tz0:∀zs',(upd (upd HC tt (.tup (ms.map V.int))) ta (.tup [.str yi,.ref tt])) lz≠some (.tup zs'):=λzs' z=>by rw[z5] at z;cases z
   have tz:=Am.upd (o:=.lst (zs++[.ref ta])) tz0
   have LD:1<=ms.length:=by
    have cc:=Qbj cc
    rw[zkn] at cc
    omega
   have zp':Paired (Jc (upd (upd (upd HC tt (.tup (ms.map V.int))) ta (.tup [.str yi,.ref tt])) lz (.lst (zs++[.ref ta])))) (zs++[.ref ta]) (zones++[⟨yi,ms⟩]):=Qcs ⟨ta,tt,rfl,tz _ _ Ac,tz _ _ (f2 _ _ Ac)⟩ (Paired.Bb zp λ_ _ z=>(z.tups (Am.of f12)).tups tz)
   have zk':Pk (Et loops) ws (zones++[⟨yi,ms⟩]) (ys.take (i+1)):=by rw[d2,ytk];exact zk.next hperm c2 O2 lms LD
   exact⟨lw,_,_,ws,zs++[.ref ta],rfl,by rw[Al nzw];exact f12 _ _ d1,by omega,nbw,nzw,Ac,⟨_,zp',zk'⟩,by rw[Al nzn];exact f12 _ _ z7,by rw[Al nzl];exact f12 _ _ z8,Ln.tups tz (Ln.tups (Am.of f12) z9),(z10.same f12).Cz Ai.upd nzb,Ai.Lj (z11.trans (Ai.of f12)) Ai.upd flz⟩
  ·exact⟨lw,_,_,ws,zs,rfl,d1,by omega,nbw,nzw,z5,⟨zones,zp,by rw[d2,ytk];exact zk.none⟩,z7,z8,z9,z10,z11⟩
 clear t1 t2 t3 j9 nbt nzt hzV cU e1 e2 hbV e8
 obtain⟨lt,u19,u20,ts,zs,rfl,z1,z2,z3,z4,z5,z6,z7,z8,z9,z10,z11⟩:=h
 rw[QbB] at z10
 obtain⟨zones,zp,zk⟩:=z6
 rw[QbB,Qbt] at zk
 have BM:zs.length<=5:=by
  have h1:=QbX zp
  have h2:=zk.nm.length_le
  rw[QbB] at h2
  omega
 refine⟨_,rfl,_,rfl,b,_,3,rfl,z10,by omega,by decide,by decide,λr7 HX _ _ hbX sX=>⟨_,_,rfl,rfl,_,_,rfl,_,rfl,ll,_,rfl,.inl ⟨SqL.of (sX _ _ z8 nbl.symm),λtl htl=>?_⟩⟩⟩
 have g1:=Af htl (.tup vs)
 refine⟨_,rfl,lz,_,rfl,.inl ⟨SqL.of (g1 _ _ (sX _ _ z5 nzb.symm)),λtz htz=>⟨Ar (by show 3<=1000;decide),λt ht=>?_⟩⟩⟩
 have g2:=Af htz (.tup zs)
 have g3:=Af ht (.tup [.int (if M+r7 < 30 then M+r7 else 30),.ref tl,.ref tz])
 have dj:=(g1.trans g2).trans g3
 have cnt:1<=(Ck loops).length:=by
  obtain⟨L,hL⟩ : ∃L,loops=L0::L:=iQ
  rw[hL]
  have:Ck (L0::L)=adL L0++Ck L:=by unfold Ck;rw[Qbl]
  rw[this,QaQ]
  omega
 have M1:1<=M:=by
  obtain⟨L,hL⟩ : ∃L,loops=L0::L:=iQ
  obtain⟨m,h1,h2⟩:=Zv (l:=Hr L0) (by rw[Ve];omega)
  have:=wL L0 (by rw[hL];exact QaR ..) m h1
  omega
 have pok:YD (if M+r7 < 30 then M+r7 else 30) loops zones:=by
  refine⟨ndA,bdA,⟨cnt,by omega⟩,⟨by split <;> omega,by split <;> omega⟩,λps hps m hm=>?_,λz hz x hx=>?_,(List.nodup_append.mp zk.nd).1,zk.up,?_,λz hz=>?_,zk.nm.nodup BN⟩
  ·have h1:=wL ps hps m hm
   have h2:=lW ps m hm
   have h3:(adL ps).length<=(Ck loops).length:=by
    exact au loops hps
   split <;> omega
  ·exact zk.sub x (QaF _ (Qbz.mpr ⟨z,hz,hx⟩))
  ·have h1:=QbX zp
   omega
  ·exact hys z.name (zk.nm.subset (Qci.mpr ⟨z,hz,rfl⟩))
 exact q t tl tz vs zs loops zones _ _ Ac (g3 _ _ (g2 _ _ Ac)) (Ln.tups (Am.of dj) (Ln.tups (sX.tup z10.Fy) z9)) e4 (by omega) tl3 (g3 _ _ Ac) (Paired.Bb zp λ_ _ z=>(z.tups (sX.tup z10.Fy)).tups (Am.of dj)) pok ((hbX.same dj).mono (by omega)) ((z11.trans sX).trans (Ai.of dj))
end
abbrev Ef:Stmt:=top 38
abbrev Ej:List Str:=["loop","at","place"]
theorem CJ:Ba ["loop","at","place","kind","address","spur","told","number","spur_kind","spur_address"] Ej (Ag Ef):=⟨rfl,rfl,rfl,by trivial,rfl,by trivial,by trivial⟩
structure Sd where
 lp:Int
 at_:Int
 n:Int
 kind:Str
 addr:Int
def Ia (H:Hp) (v:V) (d:Sd):Prop:=∃t u,v=.ref t/\H t=some (.tup [.ref u,.str d.kind,.int d.addr])/\H u=some (.tup [.int d.lp,.int d.at_,.int d.n])
theorem Ia.tups {H H':Hp} (s:Am H H') {v:V} {d:Sd} (h:Ia H v d):Ia H' v d:=by
 obtain⟨t,u,e,q1,q2⟩:=h
 exact⟨t,u,e,s _ _ q1,s _ _ q2⟩
def Ca (lp at_:Int):Nat->List Dev->List Sd
 | _,[]=>[]
 | n,d::r=>⟨lp,at_,n,d.kind,d.addr⟩::Ca lp at_ (n+1) r
def Bt (lp at_:Int) (p:Place):List Sd:=if V.str p.kind=V.str "opener" then [] else ⟨lp,at_,0,p.kind,p.addr⟩::Ca lp at_ 1 p.spur
theorem Nu (lp at_:Int):∀(n:Nat) (ds:List Dev) (i:Nat) (d:Dev),ds[i]?=some d->Ca lp at_ n (ds.take (i+1))=Ca lp at_ n (ds.take i)++[⟨lp,at_,(n+i:Nat),d.kind,d.addr⟩]
 | n,[],i,d,h=>by simp at h
 | n,x::r,0,d,h=>by
  simp at h
  subst h
  simp[Ca]
 | n,x::r,i+1,d,h=>by
  have h':r[i]?=some d:=by simpa using h
  have ih:=Nu lp at_ (n+1) r i d h'
  rw[List.take_succ_cons,List.take_succ_cons]
  show _::Ca lp at_ (n+1) (r.take (i+1))=(_::Ca lp at_ (n+1) (r.take i))++_
  rw[ih,show n+1+i=n+(i+1) by omega]
  rfl
structure Tx (K:PySem.W.Frag) (mg:Str->Option Value) (op oe:Addr):Prop extends Nm mg where
 OPENER:∃u,mg "OPENER"=some u/\RelV (.ref op) u
 opT:∀H,SqT K H op [.str "opener",.int 0,.ref oe]
 opE:∀H,SqT K H oe []
def kh:Sp:=λvs H Q _=>∃(lp at_:Int) (v:V) (p:Place),vs=[.int lp,.int at_,v]/\Dt H v p/\p.spur.length<=3/\∀l xs H',H l=none->H' l=some (.lst xs)->Paired (Ia H') xs (Bt lp at_ p)->Same H H'->Q (.ref l) H'
section
variable {P:Program} {w:World} {K:PySem.W.Frag} {mg:Str->Option Value} {base:Heap} {op oe:Addr}
theorem RG (c:Code K mg "place_devices" Ef Ej) (T:Tx K mg op oe):Good P w K mg base "place_devices" 1 Ej kh:=by
 refine c.good CJ (λvs H Q E h=>?_) (λf cdv A outer s H vs Q E hr h=>?_)
 ·obtain⟨lp,at_,v,p,rfl,_⟩:=h
  rfl
 obtain⟨lp,at_,v,p,rfl,⟨t,u,vs,rfl,ht,hu,hd⟩,h3,q⟩:=h
 refine⟨_,(Ah (KN (pv 2) (Df rfl (Aq (Ak (i:=3) CJ.nd rfl (Or.inl rfl)) (Aq (Ak (i:=4) CJ.nd rfl (Or.inl rfl)) (Aq (Ak (i:=5) CJ.nd rfl (Or.inl rfl)) BK)))))
 (Ah (BW (Bs Hs (pv 3) Bh (BP _)) (Aj (Bc (BR Ab))) BX)
 (Ah (Bd (i:=6) CJ.nd rfl (Or.inl rfl) (BR (Aa (Bk (Aa (Bk (Aa (pv 0) (Aa (pv 1) (Aa Ae Ab)))) (Aa (pv 3) (Aa (pv 4) Ab)))) Ab)))
 (Ah (BZ QbE rfl (Mz rfl T.enumerate (pv 5) Ae) (Df rfl (Aq (Ak (i:=7) CJ.nd rfl (Or.inl rfl)) (Aq (Df rfl (Aq (Ak (i:=8) CJ.nd rfl (Or.inl rfl)) (Aq (Ak (i:=9) CJ.nd rfl (Or.inl rfl)) BK))) BK)))
 (Aj (Bj (CQ Qaq Qal Qam Cg (pv 6) (Aa (Bk (Aa (Bk (Aa (pv 0) (Aa (pv 1) (Aa (pv 7) Ab)))) (Aa (pv 8) (Aa (pv 9) Ab)))) Ab)))))
 (Aj (Bc (pv 6))))))),?_⟩
 generalize hst:L2.start _ _=σ0
 have e0:σ0=[some (.int lp),some (.int at_),some (.ref t),none,none,none,none,none,none,none]:=hst.symm
 clear hst
 subst e0
 refine⟨_,rfl,t,_,rfl,SqT.of ht,rfl,_,_,rfl,_,_,rfl,_,_,rfl,rfl,?_⟩
 simp only[QaU,QaT]
 refine⟨_,rfl,rfl,_,rfl,?_⟩
 by_cases ck:V.str p.kind=V.str "opener"
 ·rw[QbS ck]
  have e:Bt lp at_ p=[]:=if_pos ck
  rw[e] at q
  exact Ce ⟨(by show 0<=sizeLine;decide),λl hl=>q l [] _ hl Ac .nil (Af hl _)⟩
 ·rw[QbG ck]
  have e:Bt lp at_ p=⟨lp,at_,0,p.kind,p.addr⟩::Ca lp at_ 1 p.spur:=if_neg ck
  rw[e] at q
  refine Cy ⟨_,rfl,_,rfl,(by show 3<=sizeLine;decide),λus hus=>⟨_,rfl,_,rfl,(by show 3<=sizeLine;decide),λts hts=>⟨(by show 1<=sizeLine;decide),λl hl=>?_⟩⟩⟩
  have s1:=Af hus (.tup [.int lp,.int at_,.int 0])
  have s2:=Af hts (.tup [.ref us,.str p.kind,.int p.addr])
  have s3:=Af hl (.lst [.ref ts])
  have sm:=s1.trans (s2.trans s3)
  have hl0:=s1.free (s2.free hl)
  have el:_=some (HO.lst [.ref ts]):=Ac (H:=upd (upd H us (.tup [.int lp,.int at_,.int 0])) ts (.tup [.ref us,.str p.kind,.int p.addr])) (a:=l) (o:=.lst [.ref ts])
  have es:Ia _ (.ref ts) ⟨lp,at_,0,p.kind,p.addr⟩:=⟨ts,us,rfl,s3 _ _ Ac,s3 _ _ (s2 _ _ Ac)⟩
  generalize hX:upd (upd (upd H us (.tup [.int lp,.int at_,.int 0])) ts (.tup [.ref us,.str p.kind,.int p.addr])) l (.lst [.ref ts])=H1 at sm el es
  simp only[QaU,QaT]
  have hu1:=sm _ _ hu
  have sd0:Paired (Ia H1) [.ref ts] (⟨lp,at_,0,p.kind,p.addr⟩::Ca lp at_ 1 (p.spur.take 0)):=.cons es .nil
  have IH:vs.length=p.spur.length:=QbX hd
  refine⟨_,rfl,u,rfl,⟨vs,SqT.of hu1⟩,Ji (xs:=vs) (lo:=1) (λi σ HH=>∃ys u7 u8 u9,σ=[some (.int lp),some (.int at_),some (.ref t),some (.str p.kind),some (.int p.addr),some (.ref u),some (.ref l),u7,u8,u9]/\Ai l H1 HH/\HH l=some (.lst ys)/\Paired (Ia HH) ys (⟨lp,at_,0,p.kind,p.addr⟩::Ca lp at_ 1 (p.spur.take i))/\ys.length<=i+1)
   ⟨[.ref ts],_,_,_,rfl,Ai.refl l H1,el,sd0,Qcq _⟩ (λi σ HH _ h=>?_) (λi x pt σ HH hx h hpt=>?_) (fun σ HH h=>?_)⟩
  ·obtain⟨ys,_,_,_,_,sb,_⟩:=h
   exact SqT.of (sb _ _ hu1 (λz=>by rw[z,el] at hu1;cases hu1))
  ·obtain⟨ys,u7,u8,u9,rfl,sb,hy,pd,ly⟩:=h
   obtain⟨d,hdi,td,rfl,htd⟩:=Paired.Cm hd hx
   have nl:∀zs,H1 l≠some (.tup zs):=λzs z=>by rw[el] at z;cases z
   have nl2:∀zs,HH l≠some (.tup zs):=λzs z=>by rw[hy] at z;cases z
   have Lm:=(sb.tup nl) _ _ (sm _ _ htd)
   have t0:=Af hpt (.tup [.int ((1+i:Nat):Int),.ref td])
   refine⟨pt,_,rfl,SqT.of Ac,rfl,_,_,rfl,_,_,rfl,td,_,rfl,SqT.of (t0 _ _ Lm),rfl,_,_,rfl,_,_,rfl,rfl,rfl,?_⟩
   simp only[QaU,QaT]
   have hy0:=t0 _ _ hy
   refine⟨_,rfl,.inl ⟨rfl,_,SqL.of hy0⟩,_,rfl,_,rfl,_,rfl,(by show 3<=sizeLine;decide),λus2 K2=>⟨_,rfl,_,rfl,(by show 3<=sizeLine;decide),λts2 Lc=>?_⟩⟩
   have t1:=Af K2 (.tup [.int lp,.int at_,.int ((1+i:Nat):Int)])
   have t2:=Af Lc (.tup [.ref us2,.str d.kind,.int d.addr])
   have hy2:=t2 _ _ (t1 _ _ hy0)
   have il:=(Qah.mp hx).1
   refine⟨l,_,_,rfl,rfl,hy2,Ao (by omega),?_⟩
   refine⟨ys++[.ref ts2],_,_,_,rfl,sb.trans ((Ai.of (t0.trans (t1.trans t2))).trans Ai.upd),Ac,?_,by rw[QaQ];simp only[QaB];omega⟩
   rw[Nu lp at_ 1 p.spur i d hdi]
   have nlx:∀zs,(upd (upd (upd HH pt (.tup [.int ((1+i:Nat):Int),.ref td])) us2 (.tup [.int lp,.int at_,.int ((1+i:Nat):Int)])) ts2 (.tup [.ref us2,.str d.kind,.int d.addr])) l≠some (.tup zs):=λzs z=>by rw[hy2] at z;cases z
   have tt:=Am.upd (o:=.lst (ys++[.ref ts2])) nlx
   exact Qcs (l₂:=_::Ca lp at_ 1 (p.spur.take i)) ⟨ts2,us2,rfl,tt _ _ Ac,tt _ _ (t2 _ _ Ac)⟩ (Paired.Bb pd λ_ _ z=>(z.tups (Am.of (t0.trans (t1.trans t2)))).tups tt)
  ·obtain⟨ys,u7,u8,u9,rfl,sb,hy,pd,ly⟩:=h
   rw[IH,Qbt] at pd
   exact⟨_,rfl,q l ys HH hl0 hy pd λc o e=>sb _ _ (sm _ _ e) (Av e hl0)⟩
end
structure Sp3 where
 lp:Int
 at_:Int
 n:Int
def Sd.spot (d:Sd):Sp3:=⟨d.lp,d.at_,d.n⟩
def Gq (H:Hp) (v:V) (d:Sp3):Prop:=∃u,v=.ref u/\H u=some (.tup [.int d.lp,.int d.at_,.int d.n])
theorem Gq.tups {H H':Hp} (s:Am H H') {v:V} {d:Sp3} (h:Gq H v d):Gq H' v d:=by
 obtain⟨u,e,q⟩:=h
 exact⟨u,e,s _ _ q⟩
theorem Jx {k:Str} (h:CP k):¬V.str k=V.str "opener":=by
 rcases h with rfl | rfl | rfl | rfl <;> decide +kernel
theorem RP {k:Str} (h:CP k):(PyData.str k).canLay0=true:=by
 rcases h with rfl | rfl | rfl | rfl <;> decide +kernel
def NT (d:Dev):PyData:=.tuple [.str d.kind,.int d.addr]
def Mw (p:Place):PyData:=.tuple [.str p.kind,.int p.addr,.tuple (p.spur.map NT)]
def opD:PyData:=.tuple [.str "opener",.int 0,.tuple []]
theorem Yl:∀{ds:List Dev},(∀d∈ds,CP d.kind)->PyData.canLayAll0 (ds.map NT)=true/\PyData.depthAll (ds.map NT)<=1
 | [],_=>⟨rfl,by show 0<=1;decide⟩
 | d::ds,h=>by
  have ih:=Yl (ds:=ds) λx hx=>h x (QaE _ hx)
  refine⟨?_,?_⟩
  ·show ((PyData.canLay0 (.str d.kind)&&(true&&true))&&PyData.canLayAll0 (ds.map NT))=true
   rw[RP (h d QaR),ih.1];rfl
  ·show max (max 0 (max 0 0)+1) (PyData.depthAll (ds.map NT))<=1
   exact Nat.max_le.mpr ⟨by decide,ih.2⟩
theorem wg:PyData.canLay0 (.str "opener")=true:=by trivial
theorem Qe {p:Place} (h:OkP p):SeqAt.shaped (Mw p)=true:=by
 have hk:PyData.canLay0 (.str p.kind)=true:=by
  rcases h.form with⟨e,_⟩| e
  ·rw[e];exact wg
  ·exact RP e
 have hd:=Yl h.kinds
 show ((PyData.canLay0 (.str p.kind)&&(true&&(PyData.canLayAll0 (p.spur.map NT)&&true)))&&decide (max 0 (max 0 (max (PyData.depthAll (p.spur.map NT)+1) 0))+1<=64))=true
 rw[hk,hd.1]
 have:max 0 (max 0 (max (PyData.depthAll (p.spur.map NT)+1) 0))+1<=64:=by omega
 rw[QbS this]
 rfl
theorem Vc {p:Place} (h:OkP p):PyData.eqv (Mw p) opD=decide (V.str p.kind=V.str "opener"):=by
 rcases h.form with⟨e1,e2,e3⟩| e
 ·rw[show Mw p=opD by unfold Mw opD;rw[e1,e2,e3];rfl,e1]
  decide +kernel
 ·rw[QbG (Jx e)]
  have:(p.kind == ("opener":Str))=false:=QaJ.mpr λz=>Jx e (by rw[z])
  show (((p.kind == ("opener":Str))&&_))=false
  rw[this]
  rfl
theorem JV.rep {K:PySem.W.Frag} {H:Hp} {v:V} {d:Dev} (h:JV H v d):Kv K H v (NT d):=by
 obtain⟨t,rfl,e⟩:=h
 exact .tup (SqT.of e) (.cons (.str _) (.cons (.int _) .nil))
theorem Yk {K:PySem.W.Frag} {H:Hp}:∀{vs:List V} {ds:List Dev},Paired (JV H) vs ds->Lz K H vs (ds.map NT)
 | _,_,.nil=>.nil
 | _,_,.cons h t=>.cons h.rep (Yk t)
theorem Dt.rep {K:PySem.W.Frag} {H:Hp} {v:V} {p:Place} (h:Dt H v p):Kv K H v (Mw p):=by
 obtain⟨t,u,vs,rfl,e1,e2,e3⟩:=h
 exact .tup (SqT.of e1) (.cons (.str _) (.cons (.int _) (.cons (.tup (SqT.of e2) (Yk e3)) .nil)))
theorem Lk (lp at_:Int):∀(n:Nat) (ds:List Dev),(Ca lp at_ n ds).length=ds.length
 | _,[]=>rfl
 | n,d::r=>by show (Ca lp at_ (n+1) r).length+1=r.length+1;rw[Lk]
abbrev Ju:Stmt:=top 39
abbrev GF:List Str:=["plan"]
theorem Ib:Ba ["plan","told","loop","places","at","place"] GF (Ag Ju):=⟨rfl,rfl,rfl,by trivial,rfl,by trivial,by trivial⟩
abbrev Gf:Stmt:=top 40
abbrev Iu:List Str:=["plan"]
theorem Ec:Ba ["plan","told","loop","places","at","kind","address","spur"] Iu (Ag Gf):=⟨rfl,rfl,rfl,by trivial,rfl,by trivial,by trivial⟩
abbrev Hv:Stmt:=top 41
abbrev KQ:List Str:=["plan"]
theorem Lp:Ba ["plan","told","loop","places"] KQ (Ag Hv):=⟨rfl,rfl,rfl,by trivial,rfl,by trivial,by trivial⟩
def up {α : Type} (f:Nat->List α) (i:Nat):List α:=(List.range i).flatMap f
theorem CW {α : Type} (f:Nat->List α) (i:Nat):up f (i+1)=up f i++f i:=by
 unfold up
 rw[List.range_succ,QaL]
 simp
theorem J0 {α : Type} (f:Nat->List α):up f 0=[]:=rfl
theorem FJ {α : Type} {f:Nat->List α} {c:Nat} (h:∀i,(f i).length<=c):∀i,(up f i).length<=c*i
 | 0=>Qcq _
 | i+1=>by
  have:=FJ h i
  have:=h i
  rw[CW,QaQ,Nat.mul_succ]
  omega
def ifs {α β : Type} (o:Option α) (g:α->List β):List β:=match o with | none=>[] | some x=>g x
theorem Dr {α β : Type} {o:Option α} {g:α->List β} {x:α} (h:o=some x):ifs o g=g x:=by rw[h];rfl
structure Gt where
 lp:Int
 at_:Int
def Pr (H:Hp) (v:V) (d:Gt):Prop:=∃u,v=.ref u/\H u=some (.tup [.int d.lp,.int d.at_])
theorem Pr.tups {H H':Hp} (s:Am H H') {v:V} {d:Gt} (h:Pr H v d):Pr H' v d:=by
 obtain⟨u,e,q⟩:=h
 exact⟨u,e,s _ _ q⟩
def pd1 (lp:Int) (ps:List Place) (i:Nat):List Sd:=ifs ps[i]? λp=>Bt lp ((1+i:Nat):Int) p
def pdL (loops:List (List Place)) (k:Nat):List Sd:=ifs loops[k]? λps=>up (pd1 k ps) ps.length
def st1 (lp:Int) (ps:List Place) (i:Nat):List Sp3:=ifs ps[i]? λp=>(List.range (p.spur.length+1)).map λn:Nat=>⟨lp,((1+i:Nat):Int),(n:Int)⟩
def stL (loops:List (List Place)) (k:Nat):List Sp3:=ifs loops[k]? λps=>⟨k,0,0⟩::up (st1 k ps) ps.length
def gt1 (lp:Int) (ps:List Place) (i:Nat):List Gt:=ifs ps[i]? λp=>if V.str p.kind=V.str "opener" then [⟨lp,((1+i:Nat):Int)⟩] else []
def gtL (loops:List (List Place)) (k:Nat):List Gt:=ifs loops[k]? λps=>(⟨k,0⟩::up (gt1 k ps) ps.length)++[⟨k,(ps.length:Int)+1⟩]
structure Fv (loops:List (List Place)):Prop where
 ok:∀ps∈loops,OkL ps
 hi:loops.length<=3
theorem Rq {lp a:Int} {p:Place} (h:OkP p):(Bt lp a p).length<=4:=by
 unfold Bt
 have:=h.spur
 split
 ·exact Qcr _
 ·rw[Qbr,Lk];omega
theorem Z4 {lp:Int} {ps:List Place} (h:∀p∈ps,OkP p) (i:Nat):(pd1 lp ps i).length<=4:=by
 unfold pd1
 cases e:ps[i]? with
 | none=>exact Qcr _
 | some p=>exact Rq (h p (QaD e))
theorem ZC {lp:Int} {ps:List Place} (h:∀p∈ps,OkP p) (i:Nat):(st1 lp ps i).length<=4:=by
 unfold st1
 cases e:ps[i]? with
 | none=>exact Qcr _
 | some p=>
  have:=(h p (QaD e)).spur
  show ((List.range _).map _).length<=4
  rw[QbB,Qbo]
  omega
theorem Uy {lp:Int} {ps:List Place} (i:Nat):(gt1 lp ps i).length<=1:=by
 unfold gt1
 cases e:ps[i]? with
 | none=>exact Qcr _
 | some p=>
  show (if _ then _ else _:List Gt).length<=1
  split
  ·exact Qcq _
  ·exact Qcr _
theorem Z2 {loops:List (List Place)} (h:Fv loops) (k:Nat):(pdL loops k).length<=48:=by
 unfold pdL
 cases e:loops[k]? with
 | none=>exact Qcr _
 | some ps=>
  have o:=h.ok ps (QaD e)
  have:=FJ (Z4 (lp:=k) o.ok) ps.length
  have:=o.hi
  show (up _ _).length<=48
  omega
theorem Zy {loops:List (List Place)} (h:Fv loops) (k:Nat):(stL loops k).length<=49:=by
 unfold stL
 cases e:loops[k]? with
 | none=>exact Qcr _
 | some ps=>
  have o:=h.ok ps (QaD e)
  have:=FJ (ZC (lp:=k) o.ok) ps.length
  have:=o.hi
  show (up _ _).length+1<=49
  omega
theorem aq {loops:List (List Place)} (h:Fv loops) (k:Nat):(gtL loops k).length<=14:=by
 unfold gtL
 cases e:loops[k]? with
 | none=>exact Qcr _
 | some ps=>
  have o:=h.ok ps (QaD e)
  have:=FJ (Uy (lp:=k) (ps:=ps)) ps.length
  have:=o.hi
  show ((_::up _ _)++[_]).length<=14
  rw[QaQ,Qbr]
  show _+1+1<=14
  omega
def TV (H:Hp) (pl:Addr) (loops:List (List Place)):Prop:=∃v0 v2 Ls vs,H pl=some (.tup [v0,.ref Ls,v2])/\H Ls=some (.tup vs)/\Paired (LoopAt H) vs loops
def SQ:Sp:=λvs H Q _=>∃(pl:Addr) (loops:List (List Place)),vs=[.ref pl]/\TV H pl loops/\Fv loops/\∀l xs H',H l=none->H' l=some (.lst xs)->Paired (Ia H') xs (up (pdL loops) loops.length)->Same H H'->Q (.ref l) H'
def qD:Sp:=λvs H Q _=>∃(pl:Addr) (loops:List (List Place)),vs=[.ref pl]/\TV H pl loops/\Fv loops/\∀l xs H',H l=none->H' l=some (.lst xs)->Paired (Gq H') xs (up (stL loops) loops.length)->Same H H'->Q (.ref l) H'
def qF:Sp:=λvs H Q _=>∃(pl:Addr) (loops:List (List Place)),vs=[.ref pl]/\TV H pl loops/\Fv loops/\∀l xs H',H l=none->H' l=some (.lst xs)->Paired (Pr H') xs (up (gtL loops) loops.length)->Same H H'->Q (.ref l) H'
section
variable {P:Program} {w:World} {K:PySem.W.Frag} {mg:Str->Option Value} {base:Heap} {op oe:Addr}
theorem cg (c:Code K mg "devices" Ju GF) (T:Tx K mg op oe) (JT:Good P w K mg base "place_devices" 1 Ej kh):Good P w K mg base "devices" 2 GF SQ:=by
 refine c.good Ib (λvs H Q E h=>?_) (λf cdv A outer s H vs Q E hr h=>?_)
 ·obtain⟨pl,loops,rfl,_⟩:=h
  rfl
 obtain⟨pl,loops,rfl,⟨v0,v2,Ls,vs,hpl,hLs,hlo⟩,ok,q⟩:=h
 refine⟨_,(Ah (Bd (i:=1) Ib.nd rfl (Or.inl rfl) (BR Ab))
 (Ah (BZ QbE rfl (RD rfl T.enumerate (Bq Cr (pv 0) Ae (λ_ _=>rfl))) (Df rfl (Aq (Ak (i:=2) Ib.nd rfl (Or.inl rfl)) (Aq (Ak (i:=3) Ib.nd rfl (Or.inl rfl)) BK)))
 (Aj (BZ QbE rfl (Mz rfl T.enumerate (pv 3) Ae) (Df rfl (Aq (Ak (i:=4) Ib.nd rfl (Or.inl rfl)) (Aq (Ak (i:=5) Ib.nd rfl (Or.inl rfl)) BK)))
 (Aj (Bj (CQ Qaq Qao Qap Jw (pv 1) (Aa (Ay JT hr (Aa (pv 2) (Aa (pv 4) (Aa (pv 5) Ab)))) Ab)))))))
 (Aj (Bc (pv 1))))),?_⟩
 generalize hst:L2.start _ _=σ0
 have e0:σ0=[some (.ref pl),none,none,none,none,none]:=hst.symm
 clear hst
 subst e0
 refine⟨Ar (by show 0<=1000;decide),λl fl=>?_⟩
 simp only[QaU,QaT]
 have s1:=Af fl (.lst [])
 have lvs:=QbX hlo
 refine⟨_,rfl,pl,_,_,_,rfl,rfl,SqT.of (s1 _ _ hpl),rfl,Ls,rfl,⟨vs,SqT.of (s1 _ _ hLs)⟩,?_⟩
 refine Ji (xs:=vs) (lo:=0) (λi σ HH=>∃(ys:List V) (u2 u3 u4 u5:Option V),σ=[some (.ref pl),some (.ref l),u2,u3,u4,u5]/\Same H HH/\HH l=some (.lst ys)/\Paired (Ia HH) ys (up (pdL loops) i)) ⟨[],_,_,_,_,rfl,s1,Ac,.nil⟩ (λi σ HH _ h=>?_) (λi x pt σ HH hx h hpt=>?_) (fun σ HH h=>?_)
 ·obtain⟨ys,_,_,_,_,_,sm,_⟩:=h
  exact SqT.of (sm _ _ hLs)
 ·obtain⟨ys,u2,u3,u4,u5,rfl,sm,hy,py⟩:=h
  obtain⟨ps,hps,hL⟩:=Paired.Cm hlo hx
  obtain⟨t,ws,rfl,ht,hws⟩:=id hL
  have okl:=ok.ok ps (QaD hps)
  have ek:pdL loops i=up (pd1 i ps) ps.length:=Dr hps
  have lws:=QbX hws
  have t0:=Af hpt (.tup [.int ((0+i:Nat):Int),.ref t])
  refine⟨pt,_,rfl,SqT.of Ac,rfl,_,_,rfl,_,_,rfl,rfl,?_⟩
  have sm0:=sm.trans t0
  have hy0:=t0 _ _ hy
  have py0:=Paired.Bb py λ_ _ (z:Ia HH _ _)=>z.tups (Am.of t0)
  generalize upd HH pt (.tup [.int ((0+i:Nat):Int),.ref t])=HA at sm0 hy0 py0
  simp only[QaU,QaT,Nat.zero_add]
  have hil:=(Qah.mp hps).1
  have lu:=FJ (Z2 ok) i
  have hhi:=ok.hi
  refine⟨_,rfl,t,rfl,⟨ws,SqT.of (sm0 _ _ ht)⟩,?_⟩
  refine Ji (xs:=ws) (lo:=1) (λj σ HJ=>∃(ys:List V) (u4 u5:Option V),σ=[some (.ref pl),some (.ref l),some (.int (i:Int)),some (.ref t),u4,u5]/\Same H HJ/\HJ l=some (.lst ys)/\Paired (Ia HJ) ys (up (pdL loops) i++up (pd1 i ps) j)) ⟨ys,_,_,rfl,sm0,hy0,by rw[J0,QbF];exact py0⟩ (λj σ HJ _ h=>?_) (λj x pt σ HJ hx h hpt=>?_) (fun σ HJ h=>?_)
  ·obtain⟨ys,_,_,_,sj,_⟩:=h
   exact SqT.of (sj _ _ ht)
  ·obtain⟨ys,u4,u5,rfl,sj,hyj,pj⟩:=h
   obtain⟨p,hp,hP⟩:=Paired.Cm hws hx
   have okp:=okl.ok p (QaD hp)
   have ej:pd1 i ps j=Bt i ((1+j:Nat):Int) p:=Dr hp
   have t1:=Af hpt (.tup [.int ((1+j:Nat):Int),x])
   refine⟨pt,_,rfl,SqT.of Ac,rfl,_,_,rfl,_,_,rfl,rfl,?_⟩
   simp only[QaU,QaT]
   have hjl:=(Qah.mp hp).1
   have lj:=FJ (Z4 (lp:=i) okl.ok) j
   have lys:=QbX pj
   rw[QaQ] at lys
   have h12:=okl.hi
   refine⟨_,rfl,.inl ⟨rfl,_,SqL.of (t1 _ _ hyj)⟩,_,rfl,_,rfl,_,rfl,(i:Int),((1+j:Nat):Int),x,p,rfl,hP.tups (Am.of (sj.trans t1)),okp.spur,λld xs' HB fld hld pdd sB=>?_⟩
   have t2:=t1.trans sB
   have hyB:=t2 _ _ hyj
   have lx:=QbX pdd
   have lpl:=Rq (lp:=i) (a:=((1+j:Nat):Int)) okp
   refine⟨l,ld,_,_,rfl,rfl,hyB,hld,Ar (by omega),?_⟩
   have n0:∀zs,HB l≠some (.tup zs):=λzs z=>by rw[hyB] at z;cases z
   have tt:=Am.upd (o:=.lst (ys++xs')) n0
   refine⟨ys++xs',_,_,rfl,(sj.trans t2).Bv Ai.upd fl,Ac,?_⟩
   rw[CW,ej,<-Qbh]
   exact Paired.app (Paired.Bb pj λ_ _ z=>(z.tups (Am.of t2)).tups tt) (Paired.Bb pdd λ_ _ z=>z.tups tt)
  ·obtain⟨ys,u4,u5,rfl,sj,hyj,pj⟩:=h
   exact⟨ys,_,_,_,_,rfl,sj,hyj,by rw[CW,ek,<-lws];exact pj⟩
 ·obtain⟨ys,u2,u3,u4,u5,rfl,sm,hy,py⟩:=h
  rw[lvs] at py
  exact⟨_,rfl,q l ys HH fl hy py sm⟩
theorem Xo (c:Code K mg "stretches" Gf Iu) (T:Tx K mg op oe):Good P w K mg base "stretches" 1 Iu qD:=by
 refine c.good Ec (λvs H Q E h=>?_) (λf cdv A outer s H vs Q E hr h=>?_)
 ·obtain⟨pl,loops,rfl,_⟩:=h
  rfl
 obtain⟨pl,loops,rfl,⟨v0,v2,Ls,vs,hpl,hLs,hlo⟩,ok,q⟩:=h
 refine⟨_,(Ah (Bd (i:=1) Ec.nd rfl (Or.inl rfl) (BR Ab))
 (Ah (BZ QbE rfl (RD rfl T.enumerate (Bq Cr (pv 0) Ae (λ_ _=>rfl))) (Df rfl (Aq (Ak (i:=2) Ec.nd rfl (Or.inr rfl)) (Aq (Ak (i:=3) Ec.nd rfl (Or.inl rfl)) BK)))
 (Ah (Bj (CQ Qaq Qal Qam Cg (pv 1) (Aa (Bk (Aa (pv 2) (Aa Ae (Aa Ae Ab)))) Ab)))
 (Aj (BZ QbE rfl (Mz rfl T.enumerate (pv 3) Ae) (Df rfl (Aq (Ak (i:=4) Ec.nd rfl (Or.inr rfl)) (Aq (Df rfl (Aq (Ak (i:=5) Ec.nd rfl (Or.inl rfl)) (Aq (Ak (i:=6) Ec.nd rfl (Or.inl rfl)) (Aq (Ak (i:=7) Ec.nd rfl (Or.inl rfl)) BK)))) BK)))
 (Aj (Bj (CQ Qaq Qao Qap Jw (pv 1) (Aa (Cq (N':=["number","loop","at"]) rfl (Bm.of (src:=[none,some 2,some 4]) (Ag Gf) ["plan","told","loop","places","at","kind","address","spur"] rfl rfl rfl (by trivial) (by trivial) (by trivial) rfl (by trivial)) (Cv rfl T.range (Aa (Bg Cp (Aw Bu rfl T.len Dg (Aa (pv 7) Ab)) Ae) Ab)) (λ_ _ _ _=>(Ak (i:=0) (show List.Nodup (["number","loop","at"]:List Str) by trivial) rfl (Or.inl rfl))) (λ_ _ _ _=>CT) (λ_ _ _ _=>(Bk (Aa (pv 1) (Aa (pv 2) (Aa (pv 0) Ab)))))) Ab))))))))
 (Aj (Bc (pv 1))))),?_⟩
 generalize hst:L2.start _ _=σ0
 have e0:σ0=[some (.ref pl),none,none,none,none,none,none,none]:=hst.symm
 clear hst
 subst e0
 refine⟨Ar (by show 0<=1000;decide),λl fl=>?_⟩
 simp only[QaU,QaT]
 have s1:=Af fl (.lst [])
 have lvs:=QbX hlo
 refine⟨_,rfl,pl,_,_,_,rfl,rfl,SqT.of (s1 _ _ hpl),rfl,Ls,rfl,⟨vs,SqT.of (s1 _ _ hLs)⟩,?_⟩
 refine Ji (xs:=vs) (lo:=0) (λi σ HH=>∃(ys:List V) (u2 u3 u4 u5 u6 u7:Option V),σ=[some (.ref pl),some (.ref l),u2,u3,u4,u5,u6,u7]/\Same H HH/\HH l=some (.lst ys)/\Paired (Gq HH) ys (up (stL loops) i)) ⟨[],_,_,_,_,_,_,rfl,s1,Ac,.nil⟩ (λi σ HH _ h=>?_) (λi x pt σ HH hx h hpt=>?_) (fun σ HH h=>?_)
 ·obtain⟨ys,_,_,_,_,_,_,_,sm,_⟩:=h
  exact SqT.of (sm _ _ hLs)
 ·obtain⟨ys,u2,u3,u4,u5,u6,u7,rfl,sm,hy,py⟩:=h
  obtain⟨ps,hps,hL⟩:=Paired.Cm hlo hx
  obtain⟨t,ws,rfl,ht,hws⟩:=id hL
  have okl:=ok.ok ps (QaD hps)
  have ek:stL loops i=⟨i,0,0⟩::up (st1 i ps) ps.length:=Dr hps
  have lws:=QbX hws
  have t0:=Af hpt (.tup [.int ((0+i:Nat):Int),.ref t])
  refine⟨pt,_,rfl,SqT.of Ac,rfl,_,_,rfl,_,_,rfl,rfl,?_⟩
  have sm0:=sm.trans t0
  have hy0:=t0 _ _ hy
  have py0:=Paired.Bb py λ_ _ (z:Gq HH _ _)=>z.tups (Am.of t0)
  generalize upd HH pt (.tup [.int ((0+i:Nat):Int),.ref t])=HA at sm0 hy0 py0
  simp only[QaU,QaT,Nat.zero_add]
  have hil:=(Qah.mp hps).1
  have lu:=FJ (Zy ok) i
  have hhi:=ok.hi
  have ly0:=QbX py0
  refine⟨_,rfl,.inl ⟨rfl,_,SqL.of hy0⟩,_,rfl,Ar (by show 3<=1000;decide),λtz htz=>?_⟩
  have t3:=Af htz (.tup [.int (i:Int),.int 0,.int 0])
  refine⟨l,_,_,rfl,rfl,t3 _ _ hy0,Ao (by omega),?_⟩
  have n0:∀zs,(upd HA tz (.tup [.int (i:Int),.int 0,.int 0])) l≠some (.tup zs):=λzs z=>by rw[t3 _ _ hy0] at z;cases z
  have tt:=Am.upd (o:=.lst (ys++[.ref tz])) n0
  have sm1:Same H (upd (upd HA tz (.tup [.int (i:Int),.int 0,.int 0])) l (.lst (ys++[.ref tz]))):=(sm0.trans t3).Bv Ai.upd fl
  have py1:Paired (Gq _) (ys++[.ref tz]) (up (stL loops) i++[⟨(i:Int),0,0⟩]):=Qcs ⟨tz,rfl,tt _ _ Ac⟩ (Paired.Bb py0 λ_ _ z=>(z.tups (Am.of t3)).tups tt)
  have hy1:(upd (upd HA tz (.tup [.int (i:Int),.int 0,.int 0])) l (.lst (ys++[.ref tz]))) l=some (.lst (ys++[.ref tz])):=Ac
  generalize upd (upd HA tz (.tup [.int (i:Int),.int 0,.int 0])) l (.lst (ys++[.ref tz]))=HB at sm1 py1 hy1
  generalize ys++[.ref tz]=ys1 at py1 hy1
  refine⟨_,rfl,t,rfl,⟨ws,SqT.of (sm1 _ _ ht)⟩,?_⟩
  refine Ji (xs:=ws) (lo:=1) (λj σ HJ=>∃(ys:List V) (u4 u5 u6 u7:Option V),σ=[some (.ref pl),some (.ref l),some (.int (i:Int)),some (.ref t),u4,u5,u6,u7]/\Same H HJ/\HJ l=some (.lst ys)/\Paired (Gq HJ) ys (up (stL loops) i++⟨(i:Int),0,0⟩::up (st1 i ps) j)) ⟨ys1,_,_,_,_,rfl,sm1,hy1,by rw[J0];exact py1⟩ (λj σ HJ _ h=>?_) (λj x pt σ HJ hx h hpt=>?_) (fun σ HJ h=>?_)
  ·obtain⟨ys,_,_,_,_,_,sj,_⟩:=h
   exact SqT.of (sj _ _ ht)
  ·obtain⟨ys,u4,u5,u6,u7,rfl,sj,hyj,pj⟩:=h
   obtain⟨p,hp,hP⟩:=Paired.Cm hws hx
   have okp:=okl.ok p (QaD hp)
   have ej:st1 i ps j=(List.range (p.spur.length+1)).map λn:Nat=>⟨(i:Int),((1+j:Nat):Int),(n:Int)⟩:=Dr hp
   have t1:=Af hpt (.tup [.int ((1+j:Nat):Int),x])
   obtain⟨tp,ua,wp',rfl,hp1,hp2,hp3⟩:=hP.tups (Am.of (sj.trans t1))
   refine⟨pt,_,rfl,SqT.of Ac,rfl,_,_,rfl,_,_,rfl,tp,_,rfl,SqT.of hp1,rfl,_,_,rfl,_,_,rfl,_,_,rfl,rfl,rfl,?_⟩
   simp only[QaU,QaT]
   have hjl:=(Qah.mp hp).1
   have lj:=FJ (ZC (lp:=i) okl.ok) j
   have lys:=QbX pj
   rw[QaQ,Qbr] at lys
   have h12:=okl.hi
   have lwp:=QbX hp3
   have hsp:=okp.spur
   refine⟨_,rfl,.inl ⟨rfl,_,SqL.of (t1 _ _ hyj)⟩,_,rfl,ua,_,rfl,.inr (SqT.of hp2),_,_,rfl,rfl,_,rfl,by omega,by omega,λl2 hl2=>?_⟩
   rw[show ((wp'.length:Int)+1).toNat=p.spur.length+1 by omega]
   have sjt:=sj.trans t1
   have hyt:=t1 _ _ hyj
   have pjt:=Paired.Bb pj λ_ _ (z:Gq HJ _ _)=>z.tups (Am.of t1)
   generalize upd HJ pt (.tup [.int ((1+j:Nat):Int),.ref tp])=HT at sjt hyt pjt hl2
   refine Ly (λk σ HC=>∃(u:Option V) (zs:List V),σ=[u,some (.int (i:Int)),some (.int ((1+j:Nat):Int))]/\HC l2=some (.lst zs)/\Same HT HC/\Paired (Gq HC) zs ((List.range k).map λn:Nat=>⟨(i:Int),((1+j:Nat):Int),(n:Int)⟩)) ⟨none,[],rfl,Ac,Af hl2 _,.nil⟩ (λk σ HC hk h=>?_) (fun σ HC h=>?_)
   ·obtain⟨u,zs,rfl,c1,c2,c3⟩:=h
    refine⟨_,rfl,_,rfl,_,rfl,Ar (by show 3<=1000;decide),λtq htq=>?_⟩
    have s3:=Af htq (.tup [.int (i:Int),.int ((1+j:Nat):Int),.int (0+(k:Int))])
    have c1':=s3 _ _ c1
    have lz:=QbX c3
    rw[QbB,Qbo] at lz
    have n1:∀zs',(upd HC tq (.tup [.int (i:Int),.int ((1+j:Nat):Int),.int (0+(k:Int))])) l2≠some (.tup zs'):=λzs' z=>by rw[c1'] at z;cases z
    have t4:=Am.upd (o:=.lst (zs++[.ref tq])) n1
    refine⟨_,c1',Ao (by omega),_,zs++[.ref tq],rfl,Ac,(c2.trans s3).Bv Ai.upd hl2,?_⟩
    rw[List.range_succ,QbC]
    refine Qcs ⟨tq,rfl,?_⟩ (Paired.Bb c3 λ_ _ z=>(z.tups (Am.of s3)).tups t4)
    refine t4 _ _ ?_
    rw[Ac,Qco]
   obtain⟨u,zs,rfl,c1,c2,c3⟩:=h
   have lz:=QbX c3
   rw[QbB,Qbo] at lz
   have hyC:=c2 _ _ hyt
   refine⟨l,l2,_,_,rfl,rfl,hyC,c1,Ar (by omega),?_⟩
   have n2:∀zs',HC l≠some (.tup zs'):=λzs' z=>by rw[hyC] at z;cases z
   have t5:=Am.upd (o:=.lst (ys++zs)) n2
   refine⟨ys++zs,_,_,_,_,rfl,(sjt.trans c2).Bv Ai.upd fl,Ac,?_⟩
   rw[CW,ej,show ∀(a:List Sp3) (x:Sp3) (b c:List Sp3),a++x::(b++c)=(a++x::b)++c from λa x b c=>by simp]
   exact Paired.app (Paired.Bb pjt λ_ _ z=>(z.tups (Am.of c2)).tups t5) (Paired.Bb c3 λ_ _ z=>z.tups t5)
  ·obtain⟨ys,u4,u5,u6,u7,rfl,sj,hyj,pj⟩:=h
   exact⟨ys,_,_,_,_,_,_,rfl,sj,hyj,by rw[CW,ek,<-lws];exact pj⟩
 ·obtain⟨ys,u2,u3,u4,u5,u6,u7,rfl,sm,hy,py⟩:=h
  rw[lvs] at py
  exact⟨_,rfl,q l ys HH fl hy py sm⟩
theorem bT (c:Code K mg "openers" Hv KQ) (T:Tx K mg op oe):Good P w K mg base "openers" 1 KQ qF:=by
 refine c.good Lp (λvs H Q E h=>?_) (λf cdv A outer s H vs Q E hr h=>?_)
 ·obtain⟨pl,loops,rfl,_⟩:=h
  rfl
 obtain⟨pl,loops,rfl,⟨v0,v2,Ls,vs,hpl,hLs,hlo⟩,ok,q⟩:=h
 refine⟨_,(Ah (Bd (i:=1) Lp.nd rfl (Or.inl rfl) (BR Ab))
 (Ah (BZ QbE rfl (RD rfl T.enumerate (Bq Cr (pv 0) Ae (λ_ _=>rfl))) (Df rfl (Aq (Ak (i:=2) Lp.nd rfl (Or.inr rfl)) (Aq (Ak (i:=3) Lp.nd rfl (Or.inl rfl)) BK)))
 (Ah (Bj (CQ Qaq Qal Qam Cg (pv 1) (Aa (Bk (Aa (pv 2) (Aa Ae Ab))) Ab)))
 (Ah (Bj (CQ Qaq Qao Qap Jw (pv 1) (Aa (Cq (N':=["at","place","loop"]) rfl (Bm.of (src:=[none,none,some 2]) (Ag Hv) ["plan","told","loop","places"] rfl rfl rfl (by trivial) (by trivial) (by trivial) rfl (by trivial)) (Mz rfl T.enumerate (pv 3) Ae) (λ_ _ _ _=>(Jv (K:=K) (n:=2) rfl rfl (Aq (Ak (i:=0) (show List.Nodup (["at","place","loop"]:List Str) by trivial) rfl (Or.inl rfl)) (Aq (Ak (i:=1) (show List.Nodup (["at","place","loop"]:List Str) by trivial) rfl (Or.inl rfl)) BK)))) (λ_ _ _ _=>(MF (Bs (gK (K:=K) rfl hr.units) (pv 1) (Qg rfl T.OPENER) (BP _)))) (λ_ _ _ _=>(Bk (Aa (pv 2) (Aa (pv 0) Ab))))) Ab)))
 (Aj (Bj (CQ Qaq Qal Qam Cg (pv 1) (Aa (Bk (Aa (pv 2) (Aa (Bg Cp (Aw Bu rfl T.len Dg (Aa (pv 3) Ab)) Ae) Ab))) Ab)))))))
 (Aj (Bc (pv 1))))),?_⟩
 generalize hst:L2.start _ _=σ0
 have e0:σ0=[some (.ref pl),none,none,none]:=hst.symm
 clear hst
 subst e0
 refine⟨Ar (by show 0<=1000;decide),λl fl=>?_⟩
 simp only[QaU,QaT]
 have s1:=Af fl (.lst [])
 have lvs:=QbX hlo
 refine⟨_,rfl,pl,_,_,_,rfl,rfl,SqT.of (s1 _ _ hpl),rfl,Ls,rfl,⟨vs,SqT.of (s1 _ _ hLs)⟩,?_⟩
 refine Ji (xs:=vs) (lo:=0) (λi σ HH=>∃(ys:List V) (u2 u3:Option V),σ=[some (.ref pl),some (.ref l),u2,u3]/\Same H HH/\HH l=some (.lst ys)/\Paired (Pr HH) ys (up (gtL loops) i)) ⟨[],_,_,rfl,s1,Ac,.nil⟩ (λi σ HH _ h=>?_) (λi x pt σ HH hx h hpt=>?_) (fun σ HH h=>?_)
 ·obtain⟨ys,_,_,_,sm,_⟩:=h
  exact SqT.of (sm _ _ hLs)
 ·obtain⟨ys,u2,u3,rfl,sm,hy,py⟩:=h
  obtain⟨ps,hps,hL⟩:=Paired.Cm hlo hx
  obtain⟨t,ws,rfl,ht,hws⟩:=id hL
  have okl:=ok.ok ps (QaD hps)
  have ek:gtL loops i=(⟨i,0⟩::up (gt1 i ps) ps.length)++[⟨(i:Int),(ps.length:Int)+1⟩]:=Dr hps
  have lws:=QbX hws
  have t0:=Af hpt (.tup [.int ((0+i:Nat):Int),.ref t])
  refine⟨pt,_,rfl,SqT.of Ac,rfl,_,_,rfl,_,_,rfl,rfl,?_⟩
  have sm0:=sm.trans t0
  have hy0:=t0 _ _ hy
  have py0:=Paired.Bb py λ_ _ (z:Pr HH _ _)=>z.tups (Am.of t0)
  generalize upd HH pt (.tup [.int ((0+i:Nat):Int),.ref t])=HA at sm0 hy0 py0
  simp only[QaU,QaT,Nat.zero_add]
  have hil:=(Qah.mp hps).1
  have lu:=FJ (aq ok) i
  have hhi:=ok.hi
  have ly0:=QbX py0
  refine⟨_,rfl,.inl ⟨rfl,_,SqL.of hy0⟩,_,rfl,Ar (by show 2<=1000;decide),λtz htz=>?_⟩
  have t3:=Af htz (.tup [.int (i:Int),.int 0])
  refine⟨l,_,_,rfl,rfl,t3 _ _ hy0,Ao (by omega),?_⟩
  have n0:∀zs,(upd HA tz (.tup [.int (i:Int),.int 0])) l≠some (.tup zs):=λzs z=>by rw[t3 _ _ hy0] at z;cases z
  have tt:=Am.upd (o:=.lst (ys++[.ref tz])) n0
  have sm1:Same H (upd (upd HA tz (.tup [.int (i:Int),.int 0])) l (.lst (ys++[.ref tz]))):=(sm0.trans t3).Bv Ai.upd fl
  have py1:Paired (Pr _) (ys++[.ref tz]) (up (gtL loops) i++[⟨(i:Int),0⟩]):=Qcs ⟨tz,rfl,tt _ _ Ac⟩ (Paired.Bb py0 λ_ _ z=>(z.tups (Am.of t3)).tups tt)
  have hy1:(upd (upd HA tz (.tup [.int (i:Int),.int 0])) l (.lst (ys++[.ref tz]))) l=some (.lst (ys++[.ref tz])):=Ac
  generalize upd (upd HA tz (.tup [.int (i:Int),.int 0])) l (.lst (ys++[.ref tz]))=HB at sm1 py1 hy1
  generalize ys++[.ref tz]=ys1 at py1 hy1
  have ly1:=QbX py1
  rw[QaQ] at ly1
  have ly1:ys1.length<=14*i+1:=by rw[ly1];show _+1<=_;omega
  refine⟨_,rfl,.inl ⟨rfl,_,SqL.of hy1⟩,_,rfl,t,rfl,⟨ws,SqT.of (sm1 _ _ ht)⟩,λl2 hl2=>?_⟩
  refine jA (xs:=ws) (lo:=1) (λk σ HC=>∃(u v:Option V) (zs:List V),σ=[u,v,some (.int (i:Int))]/\HC l2=some (.lst zs)/\Same HB HC/\Paired (Pr HC) zs (up (gt1 i ps) k)) ⟨none,none,[],rfl,Ac,Af hl2 _,.nil⟩ (λk σ HC _ h=>?_) (λk x pt σ HC hx h hpt=>?_) (fun σ HC h=>?_)
  ·obtain⟨_,_,zs,_,_,sc,_⟩:=h
   exact SqT.of (sc _ _ (sm1 _ _ ht))
  ·obtain⟨u,v,zs,rfl,c1,c2,c3⟩:=h
   obtain⟨p,hp,hP⟩:=Paired.Cm hws hx
   have okp:=okl.ok p (QaD hp)
   have ej:gt1 i ps k=if V.str p.kind=V.str "opener" then [⟨(i:Int),((1+k:Nat):Int)⟩] else []:=Dr hp
   have hkl:=(Qah.mp hp).1
   have h12:=okl.hi
   have lk:=FJ (Uy (lp:=i) (ps:=ps)) k
   have lz:=QbX c3
   have t1:=Af hpt (.tup [.int ((1+k:Nat):Int),x])
   have hpa:=hP.tups (Am.of ((sm1.trans c2).trans t1))
   refine⟨pt,_,rfl,SqT.of Ac,rfl,_,_,rfl,_,_,rfl,rfl,?_⟩
   refine⟨_,rfl,Mw p,opD,hpa.rep,.tup (T.opT _) (.cons (.str _) (.cons (.int _) (.cons (.tup (T.opE _) .nil) .nil))),Qe okp,(by trivial),_,rfl,?_⟩
   rw[Vc okp]
   by_cases ck:V.str p.kind=V.str "opener"
   ·rw[QbS ck]
    rw[if_pos ck] at ej
    refine Ce ⟨_,rfl,_,rfl,Ar (by show 2<=1000;decide),λtq htq=>?_⟩
    have s3:=Af htq (.tup [.int (i:Int),.int ((1+k:Nat):Int)])
    have t13:=t1.trans s3
    have c1':=t13 _ _ c1
    have n1:∀zs',(upd (upd HC pt (.tup [.int ((1+k:Nat):Int),x])) tq (.tup [.int (i:Int),.int ((1+k:Nat):Int)])) l2≠some (.tup zs'):=λzs' z=>by rw[c1'] at z;cases z
    have t4:=Am.upd (o:=.lst (zs++[.ref tq])) n1
    refine⟨_,c1',Ao (by omega),_,_,zs++[.ref tq],rfl,Ac,(c2.trans t13).Bv Ai.upd hl2,?_⟩
    rw[CW,ej]
    exact Qcs ⟨tq,rfl,t4 _ _ Ac⟩ (Paired.Bb c3 λ_ _ z=>(z.tups (Am.of t13)).tups t4)
   ·rw[QbG ck]
    rw[if_neg ck] at ej
    refine Cy ⟨_,_,zs,rfl,t1 _ _ c1,c2.trans t1,?_⟩
    rw[CW,ej,QbF]
    exact Paired.Bb c3 λ_ _ z=>z.tups (Am.of t1)
  obtain⟨u,v,zs,rfl,c1,c2,c3⟩:=h
  have lz:=QbX c3
  have lk:=FJ (Uy (lp:=i) (ps:=ps)) ws.length
  have h12:=okl.hi
  have hyC:=c2 _ _ hy1
  refine⟨l,l2,_,_,rfl,rfl,hyC,c1,Ar (by omega),?_⟩
  have n2:∀zs',HC l≠some (.tup zs'):=λzs' z=>by rw[hyC] at z;cases z
  have t5:=Am.upd (o:=.lst (ys1++zs)) n2
  have sm2:Same H (upd HC l (.lst (ys1++zs))):=(sm1.trans c2).Bv Ai.upd fl
  have py2:Paired (Pr _) (ys1++zs) ((up (gtL loops) i++[⟨(i:Int),0⟩])++up (gt1 i ps) ws.length):=Paired.app (Paired.Bb py1 λ_ _ z=>(z.tups (Am.of c2)).tups t5) (Paired.Bb c3 λ_ _ z=>z.tups t5)
  have hy2:(upd HC l (.lst (ys1++zs))) l=some (.lst (ys1++zs)):=Ac
  have ly2:(ys1++zs).length<=100:=by rw[QaQ];omega
  generalize upd HC l (.lst (ys1++zs))=HD at sm2 py2 hy2
  generalize ys1++zs=ys2 at py2 hy2 ly2
  refine⟨_,rfl,.inl ⟨rfl,_,SqL.of hy2⟩,_,rfl,_,rfl,t,_,rfl,.inr (SqT.of (sm2 _ _ ht)),_,_,rfl,rfl,Ar (by show 2<=1000;decide),λte hte=>?_⟩
  have t6:=Af hte (.tup [.int (i:Int),.int ((ws.length:Int)+1)])
  have hy3:=t6 _ _ hy2
  refine⟨l,_,_,rfl,rfl,hy3,Ao (by omega),?_⟩
  have n3:∀zs',(upd HD te (.tup [.int (i:Int),.int ((ws.length:Int)+1)])) l≠some (.tup zs'):=λzs' z=>by rw[hy3] at z;cases z
  have t7:=Am.upd (o:=.lst (ys2++[.ref te])) n3
  refine⟨ys2++[.ref te],_,_,rfl,(sm2.trans t6).Bv Ai.upd fl,Ac,?_⟩
  rw[CW,ek,<-lws,show ∀(a:List Gt) (x:Gt) (b c:List Gt),a++(x::b++c)=(a++[x]++b)++c from λa x b c=>by simp]
  exact Qcs ⟨te,rfl,t7 _ _ Ac⟩ (Paired.Bb py2 λ_ _ z=>(z.tups (Am.of t6)).tups t7)
 ·obtain⟨ys,u2,u3,rfl,sm,hy,py⟩:=h
  rw[lvs] at py
  exact⟨_,rfl,q l ys HH fl hy py sm⟩
end
abbrev LQ:Stmt:=top 42
abbrev Od:List Str:=["plan","loop"]
theorem Ot:Ba ["plan","loop","told","at","place"] Od (Ag LQ):=⟨rfl,rfl,rfl,by trivial,rfl,by trivial,by trivial⟩
def stP (lp:Int) (ps:List Place):Nat->List (List Sp3)×List Sp3
 | 0=>([],[])
 | i+1=>match ps[i]? with
  | none=>stP lp ps i
  | some p=>if V.str p.kind=V.str "opener" then ((stP lp ps i).1++[(stP lp ps i).2],[]) else ((stP lp ps i).1,(stP lp ps i).2++(Bt lp ((1+i:Nat):Int) p).map Sd.spot)
theorem SJ {lp:Int} {ps:List Place} {i:Nat} {p:Place} (h:ps[i]?=some p) (k:V.str p.kind=V.str "opener"):stP lp ps (i+1)=((stP lp ps i).1++[(stP lp ps i).2],[]):=by
 show (match ps[i]? with | none=>stP lp ps i | some p=>if V.str p.kind=V.str "opener" then ((stP lp ps i).1++[(stP lp ps i).2],[]) else ((stP lp ps i).1,(stP lp ps i).2++(Bt lp ((1+i:Nat):Int) p).map Sd.spot))=_
 rw[h]
 exact if_pos k
theorem QG {lp:Int} {ps:List Place} {i:Nat} {p:Place} (h:ps[i]?=some p) (k:¬V.str p.kind=V.str "opener"):stP lp ps (i+1)=((stP lp ps i).1,(stP lp ps i).2++(Bt lp ((1+i:Nat):Int) p).map Sd.spot):=by
 show (match ps[i]? with | none=>stP lp ps i | some p=>if V.str p.kind=V.str "opener" then ((stP lp ps i).1++[(stP lp ps i).2],[]) else ((stP lp ps i).1,(stP lp ps i).2++(Bt lp ((1+i:Nat):Int) p).map Sd.spot))=_
 rw[h]
 exact if_neg k
theorem Ny {α β : Type} {F G:α->β->Prop}:∀{l₁ : List α} {l₂ : List β},Paired F l₁ l₂->(∀a∈l₁,∀b,F a b->G a b)->Paired G l₁ l₂
 | _,_,.nil,_=>.nil
 | _,_,.cons r t,f=>.cons (f _ QaR _ r) (Ny t λa ha b=>f a (QaE _ ha) b)
theorem S8 {α β : Type} {F:α->β->Prop}:∀{l₁ : List α} {l₂ : List β} {a:α},Paired F l₁ l₂->a∈l₁->∃b,F a b
 | _,_,_,.nil,h=>by cases h
 | _,_,_,.cons r t,h=>by
  rcases QbY.mp h with rfl | h
  ·exact⟨_,r⟩
  ·exact S8 t h
theorem Pu {α β : Type} {F:α->β->Prop}:∀{a₁ b₁ : List α} {a₂ b₂ : List β},Paired F a₁ a₂->Paired F b₁ b₂->Paired F (a₁++b₁) (a₂++b₂)
 | _,_,_,_,.nil,t=>t
 | _,_,_,_,.cons r s,t=>.cons r (Pu s t)
def Le (H:Hp) (v:V) (sp:List Sp3):Prop:=∃q ys,v=.ref q/\H q=some (.lst ys)/\Paired (Gq H) ys sp
def ZJ:Sp:=λvs H Q _=>∃(pl Ls t:Addr) (v0 v2:V) (ls ws:List V) (k:Nat) (ps:List Place),vs=[.ref pl,.int (k:Int)]/\H pl=some (.tup [v0,.ref Ls,v2])/\H Ls=some (.tup ls)/\ls[k]?=some (.ref t)/\H t=some (.tup ws)/\Paired (Dt H) ws ps/\(∀p∈ps,OkP p)/\ps.length<=12 /\
 ∀l xs H',H l=none->H' l=some (.lst xs)->Paired (Le H') xs ((stP k ps ps.length).1++[(stP k ps ps.length).2])->(∀x∈xs,∃q,x=.ref q/\H q=none/\q≠l)->Same H H'->Q (.ref l) H'
section
variable {P:Program} {w:World} {K:PySem.W.Frag} {mg:Str->Option Value} {base:Heap} {op oe:Addr}
theorem mq (c:Code K mg "parts" LQ Od) (T:Tx K mg op oe) (JT:Good P w K mg base "place_devices" 1 Ej kh):Good P w K mg base "parts" 2 Od ZJ:=by
 refine c.good Ot (λvs H Q E h=>?_) (λf cdv A outer s H vs Q E hr h=>?_)
 ·obtain⟨pl,Ls,t,v0,v2,ls,ws,k,ps,rfl,_⟩:=h
  rfl
 obtain⟨pl,Ls,t,v0,v2,ls,ws,k,ps,rfl,hpl,hLs,hk,ht,hps,hok,h12,q⟩:=h
 refine⟨_,(Ah (Bd (i:=2) Ot.nd rfl (Or.inl rfl) (BR (Aa (BR Ab) Ab)))
 (Ah (BZ QbE rfl (Mz rfl T.enumerate (Bq Cr (Bq Cr (pv 0) Ae (λ_ _=>rfl)) (pv 1) (λ_ _=>rfl)) Ae) (Df rfl (Aq (Ak (i:=3) Ot.nd rfl (Or.inl rfl)) (Aq (Ak (i:=4) Ot.nd rfl (Or.inl rfl)) BK)))
 (Aj (BW (Bs (gK (K:=K) rfl hr.units) (pv 4) (Qg rfl T.OPENER) (BP _)) (Aj (Bj (CQ Qaq Qal Qam Cg (pv 2) (Aa (BR Ab) Ab)))) (Aj (Bj (CQ Qaq Qao Qap Jw (Bq CG (pv 2) (V5 Sw Ae) (λ_ _=>rfl)) (Aa (Cq (N':=["spot","kind","address"]) rfl (Bm.plain rfl (by trivial) (by trivial) (by trivial)) (DQ (Ay JT hr (Aa (pv 1) (Aa (pv 3) (Aa (pv 4) Ab))))) (λ_ _ _ _=>(Jv (K:=K) (n:=3) rfl rfl (Aq (Ak (i:=0) (show List.Nodup (["spot","kind","address"]:List Str) by trivial) rfl (Or.inl rfl)) (Aq (Ak (i:=1) (show List.Nodup (["spot","kind","address"]:List Str) by trivial) rfl (Or.inl rfl)) (Aq (Ak (i:=2) (show List.Nodup (["spot","kind","address"]:List Str) by trivial) rfl (Or.inl rfl)) BK))))) (λ_ _ _ _=>CT) (λ_ _ _ _=>(pv 0))) Ab)))))))
 (Aj (Bc (pv 2))))),?_⟩
 generalize hst:L2.start _ _=σ0
 have e0:σ0=[some (.ref pl),some (.int (k:Int)),none,none,none]:=hst.symm
 clear hst
 subst e0
 refine⟨(by show 0<=sizeLine;decide),λq0 hq0=>⟨(by show 1<=sizeLine;decide),λl hl=>?_⟩⟩
 have s1:=Af hq0 (.lst [])
 have s2:=Af hl (.lst [.ref q0])
 have sm:=s1.trans s2
 have hl0:=s1.free hl
 have el:_=some (HO.lst [.ref q0]):=Ac (H:=upd H q0 (.lst [])) (a:=l) (o:=.lst [.ref q0])
 have eq0:_=some (HO.lst []):=s2 _ _ (Ac (H:=H) (a:=q0) (o:=.lst []))
 have nq:q0≠l:=Av (Ac (H:=H) (a:=q0) (o:=.lst [])) hl
 generalize hX:upd (upd H q0 (.lst [])) l (.lst [.ref q0])=H1 at sm el eq0
 simp only[QaU,QaT]
 have IG:ws.length=ps.length:=QbX hps
 refine⟨_,rfl,pl,_,_,_,rfl,rfl,SqT.of (sm _ _ hpl),rfl,_,rfl,Ls,_,_,_,rfl,rfl,SqT.of (sm _ _ hLs),Gz hk,t,rfl,⟨ws,SqT.of (sm _ _ ht)⟩,?_⟩
 refine Ji (xs:=ws) (lo:=1) (λi σ HH=>∃qs ql u3 u4,σ=[some (.ref pl),some (.int (k:Int)),some (.ref l),u3,u4]/\Same H HH/\HH l=some (.lst (qs++[.ref ql]))/\Paired (Le HH) qs (stP k ps i).1/\Le HH (.ref ql) (stP k ps i).2 /\
   (∀x∈qs,∃q,x=.ref q/\H q=none/\q≠l/\q≠ql)/\H ql=none/\ql≠l/\qs.length<=i/\(stP k ps i).2.length<=4*i)
  ⟨[],q0,_,_,rfl,sm,el,.nil,⟨q0,[],rfl,eq0,.nil⟩,λx hx=>(by cases hx),hq0,nq,Qcq _,Qcq _⟩ (λi σ HH _ h=>?_) (λi x pt σ HH hx h hpt=>?_) (fun σ HH h=>?_)
 ·obtain⟨qs,ql,_,_,_,sb,_⟩:=h
  exact SqT.of (sb _ _ ht)
 ·obtain⟨qs,ql,u3,u4,rfl,sb,hy,pd,pc,fq,fl,nl,lq,lc⟩:=h
  obtain⟨p,hpi,hpa⟩:=Paired.Cm hps hx
  have okp:=hok p (QaD hpi)
  have hpa:=hpa.tups (Am.of sb)
  have t0:=Af hpt (.tup [.int ((1+i:Nat):Int),x])
  have pB:=hpa.tups (Am.of t0)
  have il:i < ps.length:=(Qah.mp hpi).1
  have sb0:=sb.trans t0
  have hy0:=t0 _ _ hy
  have pd0:=Paired.Bb pd λ_ _ (z:Le HH _ _)=>(show Le (upd HH pt (.tup [.int ((1+i:Nat):Int),x])) _ _ from let ⟨a,ys,e1,e2,e3⟩:=z;⟨a,ys,e1,t0 _ _ e2,Paired.Bb e3 λ_ _ y=>y.tups (Am.of t0)⟩)
  have pc0:Le (upd HH pt (.tup [.int ((1+i:Nat):Int),x])) (.ref ql) (stP k ps i).2:=let ⟨a,ys,e1,e2,e3⟩:=pc;⟨a,ys,e1,t0 _ _ e2,Paired.Bb e3 λ_ _ y=>y.tups (Am.of t0)⟩
  refine⟨pt,_,rfl,SqT.of Ac,rfl,_,_,rfl,_,_,rfl,rfl,?_⟩
  generalize upd HH pt (.tup [.int ((1+i:Nat):Int),x])=HA at pB sb0 hy0 pd0 pc0
  simp only[QaU,QaT]
  refine⟨_,rfl,Mw p,opD,pB.rep,.tup (T.opT HA) (.cons (.str _) (.cons (.int _) (.cons (.tup (T.opE HA) .nil) .nil))),Qe okp,(by trivial),_,rfl,?_⟩
  rw[Vc okp]
  by_cases ck:V.str p.kind=V.str "opener"
  ·rw[QbS ck]
   refine Ce ⟨_,rfl,.inl ⟨rfl,_,SqL.of hy0⟩,(by show 0<=sizeLine;decide),λqn hqn=>?_⟩
   have t1:=Af hqn (.lst [])
   refine⟨l,_,_,rfl,rfl,t1 _ _ hy0,Ao (by rw[QaQ];simp only[QaB];omega),?_⟩
   have nln:l≠qn:=Av hy0 hqn
   have sS:Ai l HA (upd (upd HA qn (.lst [])) l (.lst (qs++[.ref ql]++[.ref qn]))):=(Ai.of t1).trans Ai.upd
   have eqn:(upd (upd HA qn (.lst [])) l (.lst (qs++[.ref ql]++[.ref qn]))) qn=some (.lst []):=by rw[Al nln.symm,Ac]
   have ell:(upd (upd HA qn (.lst [])) l (.lst (qs++[.ref ql]++[.ref qn]))) l=some (.lst (qs++[.ref ql]++[.ref qn])):=Ac
   have nlt:∀zs,HA l≠some (.tup zs):=λzs z=>by rw[hy0] at z;cases z
   generalize upd (upd HA qn (.lst [])) l (.lst (qs++[.ref ql]++[.ref qn]))=HB at sS eqn ell
   have keep:∀v sp,Le HA v sp->v≠.ref l->Le HB v sp:=λv sp z n=>by
    obtain⟨a,ys,e1,e2,e3⟩:=z
    exact⟨a,ys,e1,sS _ _ e2 (λw=>n (by rw[e1,w])),Paired.Bb e3 λ_ _ y=>y.tups (sS.tup nlt)⟩
   have fqn:=sb0.free hqn
   refine⟨qs++[.ref ql],qn,_,_,rfl,sb0.Bv sS hl0,ell,?_,⟨qn,[],rfl,eqn,?_⟩,λy hy'=>?_,fqn,nln.symm,by rw[QaQ];simp only[QaB];omega,?_⟩
   ·rw[SJ hpi ck]
    refine Qcs (keep _ _ pc0 λz=>nl (by injection z)) ?_
    exact Ny pd0 λy hy' sp z=>keep _ _ z λw=>by
     obtain⟨a,e,_,n,_⟩:=fq y hy'
     rw[e] at w
     injection w with w
     exact n w
   ·rw[SJ hpi ck];exact .nil
   ·rcases QbD.mp hy' with z | z
    ·obtain⟨a,e,f1,n1,n2⟩:=fq y z
     have hm:y∈qs:=z
     refine⟨a,e,f1,n1,λw=>?_⟩
     obtain⟨sp,Lu⟩:=S8 pd0 hm
     obtain⟨a',ys,e1,e2,_⟩:=Lu
     rw[e] at e1
     injection e1 with e1
     rw[<-e1,w,hqn] at e2
     cases e2
    ·have hz:y=.ref ql:=by simpa using z
     refine⟨ql,hz,fl,nl,λw=>?_⟩
     obtain⟨a',ys,e1,e2,_⟩:=pc0
     injection e1 with e1
     rw[<-e1,w,hqn] at e2
     cases e2
   ·rw[SJ hpi ck];exact Qcr _
  ·rw[QbG ck]
   obtain⟨a,yc,ea,eyc,pcs⟩:=id pc0
   injection ea with ea
   subst ea
   refine Cy ⟨_,rfl,_,rfl,l,_,_,_,rfl,rfl,SqL.of hy0,Yy qs (.ref ql),.inl ⟨rfl,_,SqL.of eyc⟩,?_⟩
   refine⟨_,rfl,_,rfl,_,rfl,(k:Int),((1+i:Nat):Int),x,p,rfl,pB,okp.spur,λld xs' HB fld hld pdd sB=>⟨ld,rfl,⟨xs',SqL.of hld⟩,λl2 hl2=>?_⟩⟩
   have lsd:(Bt k ((1+i:Nat):Int) p).length<=4:=by
    unfold Bt
    rw[if_neg ck,Qbr,Lk]
    have:=okp.spur
    omega
   have lx:xs'.length<=4:=by rw[QbX pdd];exact lsd
   refine GJ (xs:=xs') (λj σ HH2=>∃u v w ys,σ=[u,v,w]/\HH2=upd HB l2 (.lst ys)/\ys.length<=j/\Paired (Gq HB) ys (((Bt k ((1+i:Nat):Int) p).take j).map Sd.spot)) ⟨none,none,none,[],rfl,rfl,Qcq _,.nil⟩ (λj σ HH2 _ h=>?_) (λj y σ HH2 hyj h=>?_) (fun σ HH2 h=>?_)
   ·obtain⟨u,v,w,ys,rfl,rfl,_⟩:=h
    exact SqL.of (Af hl2 _ _ _ hld)
   ·obtain⟨u,v,w,ys,rfl,rfl,lys,pys⟩:=h
    obtain⟨d,hdj,td,ud,rfl,e1,e2⟩:=Paired.Cm pdd hyj
    have jl:=(Qah.mp hyj).1
    refine⟨td,_,rfl,SqT.of (Af hl2 _ _ _ e1),rfl,_,_,rfl,_,_,rfl,_,_,rfl,rfl,_,rfl,ys,Ac,Ao (by omega),_,_,_,ys++[.ref ud],rfl,Qz,by rw[QaQ];simp only[QaB];omega,?_⟩
    rw[List.take_succ,hdj,QbC]
    exact Qcs ⟨ud,rfl,e2⟩ pys
   ·obtain⟨u,v,w,ys,rfl,rfl,lys,pys⟩:=h
    rw[QbX pdd,Qbt] at pys
    have t2:=Af hl2 (.lst ys)
    have s02:=sB.trans t2
    have nq2:ql≠l2:=Av (sB _ _ eyc) hl2
    have lyc:yc.length<=4*i:=by rw[QbX pcs];exact lc
    refine⟨ql,l2,_,_,rfl,rfl,s02 _ _ eyc,Ac,Ar (by omega),?_⟩
    have sS:Ai ql HA (upd (upd HB l2 (.lst ys)) ql (.lst (yc++ys))):=(Ai.of s02).trans Ai.upd
    have eql:(upd (upd HB l2 (.lst ys)) ql (.lst (yc++ys))) ql=some (.lst (yc++ys)):=Ac
    have nqt:∀zs,(upd HB l2 (.lst ys)) ql≠some (.tup zs):=λzs z=>by rw[s02 _ _ eyc] at z;cases z
    have tE:Am HB (upd (upd HB l2 (.lst ys)) ql (.lst (yc++ys))):=(Am.of t2).trans (Am.upd nqt)
    have nqa:∀zs,HA ql≠some (.tup zs):=λzs z=>by rw[eyc] at z;cases z
    generalize upd (upd HB l2 (.lst ys)) ql (.lst (yc++ys))=HC at sS eql tE
    refine⟨qs,ql,_,_,rfl,sb0.Bv sS fl,sS _ _ hy0 nl.symm,?_,⟨ql,yc++ys,rfl,eql,?_⟩,fq,fl,nl,by omega,?_⟩
    ·rw[QG hpi ck]
     exact Ny pd0 λy hy' sp z=>by
      obtain⟨a',ys',e1,e2,e3⟩:=z
      obtain⟨b',f1,_,_,f4⟩:=fq y hy'
      refine⟨a',ys',e1,sS _ _ e2 (λw=>f4 ?_),Paired.Bb e3 λ_ _ y=>y.tups (sS.tup nqa)⟩
      rw[e1] at f1
      injection f1 with f1
      rw[<-f1,w]
    ·rw[QG hpi ck]
     exact Pu (Paired.Bb pcs λ_ _ y=>y.tups (sS.tup nqa)) (Paired.Bb pys λ_ _ y=>y.tups tE)
    ·rw[QG hpi ck,QaQ,QbB]
     omega
 ·obtain⟨qs,ql,u3,u4,rfl,sb,hy,pd,pc,fq,fl,nl,_⟩:=h
  rw[IG] at pd pc
  refine⟨_,rfl,q l _ HH hl0 hy (Qcs pc pd) (λx hx=>?_) sb⟩
  rcases QbD.mp hx with z | z
  ·obtain⟨a,e,n,m,_⟩:=fq x z
   exact⟨a,e,n,m⟩
  ·have:x=.ref ql:=by simpa using z
   exact⟨ql,this,fl,nl⟩
end
abbrev GP:Stmt:=top 18
abbrev FZ:List Str:=["thing"]
theorem YL:Ba ["thing"] FZ (Ag GP):=⟨rfl,rfl,rfl,by trivial,rfl,by trivial,by trivial⟩
abbrev G5:Stmt:=top 19
abbrev Fb:List Str:=["thing","low","high"]
theorem WM:Ba ["thing","low","high"] Fb (Ag G5):=⟨rfl,rfl,rfl,by trivial,rfl,by trivial,by trivial⟩
abbrev Ke:Stmt:=top 20
abbrev Dq:List Str:=["thing","least","most"]
theorem fW:Ba ["thing","least","most"] Dq (Ag Ke):=⟨rfl,rfl,rfl,by trivial,rfl,by trivial,by trivial⟩
abbrev Gu:Stmt:=top 21
abbrev Gw:List Str:=["thing","many"]
theorem Vz:Ba ["thing","many"] Gw (Ag Gu):=⟨rfl,rfl,rfl,by trivial,rfl,by trivial,by trivial⟩
theorem KP {b:Bool} {A B:Prop} (h1:b=true->A) (h2:b=false->B):if b=true then A else B:=by
 cases b with
 | true=>exact Ce (h1 rfl)
 | false=>exact Cy (h2 rfl)
theorem Va {I R:TS} {D:Ends} {σ : St} {H:Hp} (P:St->Hp->Prop) (hR:∀ σ' H',P σ' H'->R D σ' H') (hI:∀D':Ends,(∀ σ' H',P σ' H'->D'.nx σ' H')->I D' σ H):uX I R D σ H:=hI { D with nx:=fun σ H=>R D σ H } hR
def iv (xs:List Int):List V:=xs.map V.int
def spW:Sp:=λvs H Q _=>∃i:Int,vs=[.int i]/\Q (.bl true) H
def Mp:Sp:=λvs H Q _=>∃x lo hi:Int,vs=[.int x,.int lo,.int hi]/\Q (.bl (decide (lo<=x/\x<=hi))) H
def vH:Sp:=λvs H Q _=>∃v,vs=[v]/\Kn H v/\Q (.bl (isW v)) H
def RB (o:Option (List V)) (a b:Int):Bool:=match o with
 | some xs=>decide (a<=xs.length)&&decide ((xs.length:Int)<=b)
 | none=>false
def Hu:Sp:=λvs H Q _=>∃v a b,vs=[v,.int a,.int b]/\Kn H v/\Q (.bl (RB (Ho H v) a b)) H
structure Th (H:Hp) (v:V):Prop where
 kn:Kn H v
 parts:∀xs,Ho H v=some xs->xs.length<=100/\∀y∈xs,Kn H y
def LC (o:Option (List V)) (n:Int):Bool:=match o with
 | some xs=>RB (some xs) n n&&xs.all isW
 | none=>false
theorem Mj {xs:List V} {n:Int}:LC (some xs) n=(RB (some xs) n n&&xs.all isW):=rfl
def P0:Sp:=λvs H Q _=>∃v n,vs=[v,.int n]/\Th H v/\∀H',Same H H'->Q (.bl (LC (Ho H v) n)) H'
theorem Uw {v:V} (h:isW v=true):∃i,v=.int i:=by
 cases v with
 | int i=>exact⟨i,rfl⟩
 | _=>cases h
theorem ur {P:Program} {w:World} {K:PySem.W.Frag} {mg:Str->Option Value} {base:Heap} {x:Str} {k:Nat} {ps:List Str} {sp sp':Sp} (g:Good P w K mg base x k ps sp) (h:∀vs H Q E,sp' vs H Q E->sp vs H Q E):Good P w K mg base x k ps sp':=⟨let ⟨f,fd,a,b,c,F⟩:=g.ex;⟨f,fd,a,b,c,F.imp h⟩⟩
section
variable {P:Program} {w:World} {K:PySem.W.Frag} {mg:Str->Option Value} {base:Heap}
theorem Qk (c:Code K mg "is_whole" GP FZ) (T:Nm mg):Good P w K mg base "is_whole" 1 FZ vH:=by
 refine c.good YL (λvs H Q E h=>?_) (λf cdv A outer s H vs Q E hr h=>?_)
 ·obtain⟨v,rfl,_⟩:=h
  rfl
 obtain⟨v,rfl,k,q⟩:=h
 refine⟨_,(Aj (Bc (Es (Aw Ph rfl T.isinstance Bo (Aa (pv 0) (Aa (Oa (v:=.ty "int") rfl T.int jJ rfl) Ab))) (Ep (vZ (Aw Ph rfl T.isinstance Bo (Aa (pv 0) (Aa (Oa (v:=.ty "bool") rfl T.bool uG rfl) Ab)))))))),?_⟩
 refine⟨_,rfl,uo k ⟨_,rfl,?_⟩⟩
 rw[w5] at q
 cases e:isI v with
 | false=>rw[e] at q;exact Cy q
 | true=>rw[e] at q;exact Ce ⟨_,rfl,o9 e ⟨_,rfl,q⟩⟩
theorem YS (c:Code K mg "is_whole" GP FZ) (T:Nm mg):Good P w K mg base "is_whole" 1 FZ spW:=ur (Qk c T) λvs H Q E h=>let ⟨i,e,q⟩:=h;⟨.int i,e,True.intro,q⟩
theorem Xp (c:Code K mg "is_within" G5 Fb) (T:Nm mg) (O7:Good P w K mg base "is_whole" 1 FZ spW):Good P w K mg base "is_within" 2 Fb Mp:=by
 refine c.good WM (λvs H Q E h=>?_) (λf cdv A outer s H vs Q E hr h=>?_)
 ·obtain⟨x,lo,hi,rfl,_⟩:=h
  rfl
 obtain⟨x,lo,hi,rfl,q⟩:=h
 refine⟨_,(Aj (Bc (Es (Ay O7 hr (Aa (pv 0) Ab)) (Ep (Ox Nj Nj (pv 1) (pv 0) (pv 2)))))),?_⟩
 refine⟨_,rfl,x,rfl,_,rfl,Ce ⟨_,rfl,_,rfl,_,_,rfl,rfl,_,rfl,?_⟩⟩
 by_cases h1:lo<=x
 ·rw[QbS h1]
  refine Ce ⟨_,rfl,_,_,rfl,rfl,?_⟩
  by_cases h2:x<=hi
  ·rw[QbS ⟨h1,h2⟩] at q
   show Q (.bl (decide (x<=hi))) H
   rw[QbS h2]
   exact q
  ·rw[QbG (λz=>h2 z.2)] at q
   show Q (.bl (decide (x<=hi))) H
   rw[QbG h2]
   exact q
 ·rw[QbG (λz=>h1 z.1)] at q
  rw[QbG h1]
  exact Cy q
theorem gQ (c:Code K mg "is_row" Ke Dq) (T:Nm mg):Good P w K mg base "is_row" 1 Dq Hu:=by
 refine c.good fW (λvs H Q E h=>?_) (λf cdv A outer s H vs Q E hr h=>?_)
 ·obtain⟨v,a,b,rfl,_⟩:=h
  rfl
 obtain⟨v,a,b,rfl,k,q⟩:=h
 refine⟨_,(Aj (Bc (Es (Aw Ph rfl T.isinstance Bo (Aa (pv 0) (Aa (Oa (v:=.ty "tuple") rfl T.tuple Ks rfl) Ab))) (Ep (Ox Nj Nj (pv 1) (Aw Bu rfl T.len Dg (Aa (pv 0) Ab)) (pv 2)))))),?_⟩
 refine⟨_,rfl,iI k ⟨_,rfl,?_⟩⟩
 cases e:Ho H v with
 | none=>rw[e] at q;exact Cy q
 | some xs=>
  rw[e] at q
  obtain⟨p,rfl,hp⟩:=RM e
  refine Ce ⟨_,rfl,_,rfl,p,xs,rfl,.inr (SqT.of hp),_,_,rfl,rfl,_,rfl,?_⟩
  by_cases h1:a<=(xs.length:Int)
  ·rw[QbS h1]
   refine Ce ⟨_,rfl,_,_,rfl,rfl,?_⟩
   simpa [RB,h1] using q
  ·rw[QbG h1]
   refine Cy ?_
   simpa [RB,h1] using q
theorem VF (c:Code K mg "are_wholes" Gu Gw) (T:Nm mg) (O7:Good P w K mg base "is_whole" 1 FZ vH) (Cj:Good P w K mg base "is_row" 1 Dq Hu):Good P w K mg base "are_wholes" 2 Gw P0:=by
 refine c.good Vz (λvs H Q E h=>?_) (λf cdv A outer s H vs Q E hr h=>?_)
 ·obtain⟨v,n,rfl,_⟩:=h
  rfl
 obtain⟨v,n,rfl,t,q⟩:=h
 refine⟨_,(Aj (Bc (Es (Ay Cj hr (Aa (pv 0) (Aa (pv 1) (Aa (pv 1) Ab)))) (Ep (Aw (HW rfl) rfl T.all Ld (Aa (Cq (N':=["part"]) rfl (Bm.plain rfl (by trivial) (by trivial) (by trivial)) (FW (pv 0)) (λ_ _ _ _=>(Ak (i:=0) (show List.Nodup (["part"]:List Str) by trivial) rfl (Or.inl rfl))) (λ_ _ _ _=>CT) (λ_ _ _ _=>(Ay O7 hr (Aa (pv 0) Ab)))) Ab)))))),?_⟩
 refine⟨_,rfl,_,rfl,_,rfl,v,n,n,rfl,t.kn,_,rfl,?_⟩
 cases e:Ho H v with
 | none=>exact Cy (by have:=q H (Same.refl H);rw[e] at this;exact this)
 | some xs=>
  obtain⟨p,rfl,hp⟩:=RM e
  have tp:=t.parts xs e
  cases eb:RB (some xs) n n with
  | false=>exact Cy (by have:=q H (Same.refl H);rw[e,Mj,eb] at this;exact this)
  | true=>
   refine Ce ⟨_,rfl,p,rfl,⟨xs,SqT.of hp⟩,λl hl=>?_⟩
   have hpl:p≠l:=Av hp hl
   refine R8 (xs:=xs) (λi σ H'=>∃u,σ=[u]/\H'=upd H l (.lst ((xs.take i).map λy=>V.bl (isW y)))) ⟨none,rfl,rfl⟩ (λi σ H' _ h=>?_) (λi x σ H' hx h=>?_) (fun σ H' h=>?_)
   ·obtain⟨u,rfl,rfl⟩:=h
    exact SqT.of (by rw[Al hpl];exact hp)
   ·obtain⟨u,rfl,rfl⟩:=h
    have sm:Same H (upd H l (.lst ((xs.take i).map λy=>V.bl (isW y)))):=Af hl _
    have et:(xs.take (i+1)).map (λy=>V.bl (isW y))=(xs.take i).map (λy=>V.bl (isW y))++[V.bl (isW x)]:=by rw[List.take_succ,hx];simp
    refine⟨_,rfl,x,rfl,(tp.2 x (QaD hx)).same sm,_,Ac,Ao (by rw[QbB,Qbs];omega),_,rfl,?_⟩
    rw[Qz,et]
   ·obtain⟨u,rfl,rfl⟩:=h
    refine⟨l,xs.map isW,rfl,SqL.of ?_,?_⟩
    ·rw[Ac,Qbt,Qcl]
     rfl
    ·have:=q _ (Af hl (.lst ((xs.take xs.length).map λy=>V.bl (isW y))))
     rw[e,Mj,eb,Bool.true_and] at this
     rw[List.all_map]
     exact this
end
abbrev G6:Stmt:=top 22
abbrev Iw:List Str:=["row"]
theorem WQ:Ba ["row"] Iw (Ag G6):=⟨rfl,rfl,rfl,by trivial,rfl,by trivial,by trivial⟩
abbrev Cw:Stmt:=top 23
abbrev Dy:List Str:=["thing","least","most","low","high"]
theorem Ou:Ba ["thing","least","most","low","high"] Dy (Ag Cw):=⟨rfl,rfl,rfl,by trivial,rfl,by trivial,by trivial⟩
abbrev Js:Stmt:=top 24
abbrev K5:List Str:=["thing"]
theorem bI:Ba ["thing"] K5 (Ag Js):=⟨rfl,rfl,rfl,by trivial,rfl,by trivial,by trivial⟩
abbrev G8:Stmt:=top 29
abbrev Hg:List Str:=["kind","address"]
theorem WT:Ba ["kind","address"] Hg (Ag G8):=⟨rfl,rfl,rfl,by trivial,rfl,by trivial,by trivial⟩
abbrev DK:Stmt:=top 30
abbrev Fj:List Str:=["thing"]
theorem Ra:Ba ["thing"] Fj (Ag DK):=⟨rfl,rfl,rfl,by trivial,rfl,by trivial,by trivial⟩
abbrev Jq:Stmt:=top 31
abbrev K3:List Str:=["thing"]
theorem bH:Ba ["thing"] K3 (Ag Jq):=⟨rfl,rfl,rfl,by trivial,rfl,by trivial,by trivial⟩
abbrev Ie:Stmt:=top 32
abbrev JM:List Str:=["thing"]
theorem Ir:Ba ["thing","kind","address","spur"] JM (Ag Ie):=⟨rfl,rfl,rfl,by trivial,rfl,by trivial,by trivial⟩
abbrev Jt:Stmt:=top 33
abbrev K6:List Str:=["thing"]
theorem bJ:Ba ["thing"] K6 (Ag Jt):=⟨rfl,rfl,rfl,by trivial,rfl,by trivial,by trivial⟩
abbrev Jp:Stmt:=top 34
abbrev K1:List Str:=["thing"]
theorem bG:Ba ["thing"] K1 (Ag Jp):=⟨rfl,rfl,rfl,by trivial,rfl,by trivial,by trivial⟩
abbrev Hf:Stmt:=top 35
abbrev IV:List Str:=["thing"]
theorem WX:Ba ["thing"] IV (Ag Hf):=⟨rfl,rfl,rfl,by trivial,rfl,by trivial,by trivial⟩
abbrev G9:Stmt:=top 36
abbrev IK:List Str:=["thing"]
theorem WW:Ba ["thing"] IK (Ag G9):=⟨rfl,rfl,rfl,by trivial,rfl,by trivial,by trivial⟩
abbrev Jr:Stmt:=top 37
abbrev K4:List Str:=["thing"]
theorem JH:Ba ["thing","most","loops","zones"] K4 (Ag Jr):=⟨rfl,rfl,rfl,by trivial,rfl,by trivial,by trivial⟩
structure Ty (K:PySem.W.Frag) (mg:Str->Option Value) (op oe kd wk:Addr):Prop extends Tx K mg op oe where
 KINDS:∃u,mg "KINDS"=some u/\RelV (.ref kd) u
 kdT:∀H,SqT K H kd [.str "seeker",.str "knob",.str "bell",.str "door"]
 WARNING_KINDS:∃u,mg "WARNING_KINDS"=some u/\RelV (.ref wk) u
 wkT:∀H,SqT K H wk [.str "seeker",.str "knob"]
 SMALL_LETTERS:∃u,mg "SMALL_LETTERS"=some u/\RelV (.str abc) u
theorem uJ:∀c∈abc.cps.toList,(!(Builtin.Str.occurrences abc ⟨#[c]⟩ 0 abc.length 1).isEmpty)=true:=by
 have h:abc.cps.toList.all (λc=>!(Builtin.Str.occurrences abc ⟨#[c]⟩ 0 abc.length 1).isEmpty)=true:=by trivial
 exact λc hc=>List.all_eq_true.mp h c hc
theorem ug {k:Str} (h:CP k):inV (.str k) [.str "seeker",.str "knob",.str "bell",.str "door"]=true:=by
 rcases h with rfl | rfl | rfl | rfl <;> decide +kernel
theorem Lb {K:PySem.W.Frag} {a l:Addr} {xs:List V} {te:TE} {Q:VK} {r:St} {H:Hp} (hl:H l=none) (ha:H a=some (.tup xs)) (h100:xs.length<=100)
  (hs:∀(i:Nat) (x:V) (HH:Hp),xs[i]?=some x->Same H HH->∀R:VK,(∀H',Same HH H'->R (.bl true) H')->te (some x::r) HH R)
  (hq:∀H',H' l=some (.lst ((List.replicate xs.length true).map V.bl))->Same H H'->Q (.ref l) H'):Gd (Itt K a) (Ii 0) (λ_ H Q=>Q true H) te Q (none::r) (upd H l (.lst [])) l:=by
 refine R8 (xs:=xs) (λi σ HH=>∃u,σ=u::r/\HH l=some (.lst ((List.replicate i true).map V.bl))/\Same H HH) ⟨_,rfl,Ac,Af hl _⟩ (λi σ HH _ h=>?_) (λi x σ HH hx h=>?_) (fun σ HH h=>?_)
 ·obtain⟨u,rfl,_,s⟩:=h
  exact SqT.of (s _ _ ha)
 ·obtain⟨u,rfl,e,s⟩:=h
  have hi:=(Qah.mp hx).1
  unfold Ii
  dsimp only
  refine Ce (hs i x HH hx s _ λH' s'=>⟨_,s' _ _ e,Ao (by rw[QbB,List.length_replicate];omega),_,rfl,?_,(s.trans s').Bv Ai.upd hl⟩)
  rw[Ac,List.replicate_succ',QbC]
  rfl
 ·obtain⟨u,rfl,e,s⟩:=h
  exact hq _ e s
theorem Jb {H:Hp} {a:Addr} {xs:List V} (h:H a=some (.tup xs)):Kn H (.ref a):=by
 unfold Kn
 first
  | exact⟨_,h,True.intro⟩
  | exact .inr ⟨_,h⟩
  | exact⟨xs,.inr h⟩
theorem Ez {xs:List V} {a b:Int} (h1:a<=xs.length) (h2:(xs.length:Int)<=b):RB (some xs) a b=true:=by
 show (decide (a<=xs.length)&&decide ((xs.length:Int)<=b))=true
 rw[QbS h1,QbS h2]
 rfl
theorem Sg {n:Nat}:(List.replicate n true).all id=true:=by simp
structure RA (p:Place):Prop where
 ok:OkP p
 bd:∀x∈adP p,1<=x/\x<=99
def ZL:Sp:=λvs H Q _=>∃z:Str,vs=[.str z]/\1<=z.length/\z.length<=8/\okS z/\∀H',Same H H'->Q (.bl true) H'
def fD:Sp:=λvs H Q _=>∃(a:Addr) (ns:List Int),vs=[.ref a]/\H a=some (.tup (ns.map V.int))/\ns.Pairwise (· < ·)/\ns.length<=100/\∀H',Same H H'->Q (.bl true) H'
def fC:Sp:=λvs H Q _=>∃(a:Addr) (ns:List Int) (lo hi l h:Int),vs=[.ref a,.int lo,.int hi,.int l,.int h]/\H a=some (.tup (ns.map V.int))/\ns.Pairwise (· < ·)/\ns.length<=100/\lo<=ns.length/\(ns.length:Int)<=hi/\(∀x∈ns,l<=x/\x<=h)/\∀H',Same H H'->Q (.bl true) H'
def Wz:Sp:=λvs H Q _=>∃(k:Str) (x:Int),vs=[.str k,.int x]/\CP k/\1<=x/\x<=99/\Q (.bl true) H
def Wu:Sp:=λvs H Q _=>∃v d,vs=[v]/\JV H v d/\CP d.kind/\1<=d.addr/\d.addr<=99/\Q (.bl true) H
def ZG:Sp:=λvs H Q _=>∃u ws ds,vs=[.ref u]/\H u=some (.tup ws)/\Paired (JV H) ws ds/\ds.length<=3/\(∀d∈ds,CP d.kind/\1<=d.addr/\d.addr<=99)/\∀H',Same H H'->Q (.bl true) H'
def Wv:Sp:=λvs H Q _=>∃v p,vs=[v]/\Dt H v p/\RA p/\∀H',Same H H'->Q (.bl true) H'
def ZM:Sp:=λvs H Q _=>∃v ps,vs=[v]/\LoopAt H v ps/\OkL ps/\(∀x∈adL ps,1<=x/\x<=99)/\∀H',Same H H'->Q (.bl true) H'
def Wy:Sp:=λvs H Q _=>∃Ls ws loops,vs=[.ref Ls]/\H Ls=some (.tup ws)/\Paired (LoopAt H) ws loops/\(∀ps∈loops,OkL ps)/\(∀x∈Ck loops,1<=x/\x<=99)/\1<=loops.length/\loops.length<=3/\∀H',Same H H'->Q (.bl true) H'
structure ZnB (z:Zone):Prop where
 nm:(1<=z.name.length/\z.name.length<=8)/\okS z.name
 up:z.adr.Pairwise (· < ·)/\1<=z.adr.length/\z.adr.length<=30
 bd:∀x∈z.adr,1<=x/\x<=99
def ZD:Sp:=λvs H Q _=>∃v z,vs=[v]/\Jc H v z/\ZnB z/\∀H',Same H H'->Q (.bl true) H'
def Wt:Sp:=λvs H Q _=>∃zs ws zones,vs=[.ref zs]/\H zs=some (.tup ws)/\Paired (Jc H) ws zones/\(∀z∈zones,ZnB z)/\zones.length<=8/\(zones.map (·.name)).Nodup/\∀H',Same H H'->Q (.bl true) H'
structure Ij (H:Hp) (pl:Addr) (most:Int) (loops:List (List Place)) (zones:List Zone):Prop where
 at_:∃Ls zs vs zvs,H pl=some (.tup [.int most,.ref Ls,.ref zs])/\H Ls=some (.tup vs)/\Paired (LoopAt H) vs loops/\H zs=some (.tup zvs)/\Paired (Jc H) zvs zones
 ok:Fv loops
 lo:1<=loops.length
 pok:YD most loops zones
theorem Ij.tups {H H':Hp} {pl:Addr} {most:Int} {loops:List (List Place)} {zones:List Zone} (h:Ij H pl most loops zones) (s:Am H H'):Ij H' pl most loops zones:=by
 obtain⟨Ls,zs,vs,zvs,e1,e2,e3,e4,e5⟩:=h.at_
 exact⟨⟨Ls,zs,vs,zvs,s _ _ e1,s _ _ e2,Paired.Bb e3 λ_ _ z=>z.tups s,s _ _ e4,Paired.Bb e5 λ_ _ z=>z.tups s⟩,h.ok,h.lo,h.pok⟩
theorem Ij.same {H H':Hp} {pl:Addr} {most:Int} {loops:List (List Place)} {zones:List Zone} (h:Ij H pl most loops zones) (s:Same H H'):Ij H' pl most loops zones:=h.tups (Am.of s)
theorem Ij.plan {H:Hp} {pl:Addr} {most:Int} {loops:List (List Place)} {zones:List Zone} (h:Ij H pl most loops zones):TV H pl loops:=by
 obtain⟨Ls,zs,vs,zvs,e1,e2,e3,e4,e5⟩:=h.at_
 exact⟨_,_,Ls,vs,e1,e2,e3⟩
def QH:Sp:=λvs H Q _=>∃pl most loops zones,vs=[.ref pl]/\Ij H pl most loops zones/\∀H',Same H H'->Q (.bl true) H'
theorem Wi {α β γ : Type} {h:α->List β} {φ : γ->β} {g:Nat->α->List γ} (l:List α) (hg:∀i x,l[i]?=some x->(g i x).map φ=h x):∀n,n<=l.length->(up (λi=>ifs l[i]? (g i)) n).map φ=(l.take n).flatMap h
 | 0,_=>by rw[J0];simp
 | n+1,hn=>by
  have hi:l[n]?=some l[n]:=Qan (by omega)
  rw[CW,QbC,Wi l hg n (by omega),Qcy hi,QaL,Dr hi,hg n _ hi]
  simp
theorem Rn (lp a:Int):∀(n:Nat) (ds:List Dev),(Ca lp a n ds).map (·.addr)=ds.map (·.addr)
 | _,[]=>rfl
 | n,d::r=>by
  show d.addr::(Ca lp a (n+1) r).map (·.addr)=d.addr::r.map (·.addr)
  rw[Rn]
theorem Xh (lp a:Int) (p:Place):(Bt lp a p).map (·.addr)=adP p:=by
 unfold Bt adP
 split
 ·rfl
 ·rw[QbZ,Rn]
theorem JB (loops:List (List Place)):(up (pdL loops) loops.length).map (·.addr)=Ck loops:=by
 have:=Wi (φ:=Sd.addr) (h:=adL) (g:=λk ps=>up (pd1 (k:Int) ps) ps.length) loops (λk ps _=>by
  have:=Wi (φ:=Sd.addr) (h:=adP) (g:=λi p=>Bt (k:Int) ((1+i:Nat):Int) p) ps (λi p _=>Xh _ _ p) ps.length (Qcq _)
  rw[Qbt] at this
  exact this) loops.length (Qcq _)
 rw[Qbt] at this
 exact this
theorem j7 {loops:List (List Place)} (h:Fv loops) {x:Int} (hx:x∈Et loops):x∈Ck loops:=by
 obtain⟨ps,hps,hx⟩:=Qbz.mp hx
 obtain⟨p,hp,hx⟩:=Qbz.mp hx
 refine Qbz.mpr ⟨ps,hps,Qbz.mpr ⟨p,hp,?_⟩⟩
 obtain⟨d,hd,rfl⟩:=Qci.mp hx
 obtain⟨hd,hw⟩:=QbK.mp hd
 rcases ((h.ok ps hps).ok p hp).form with⟨e1,e2,e3⟩| hk
 ·have:d=⟨p.kind,p.addr⟩:=by
   unfold Fx at hd
   rw[e3] at hd
   simpa using hd
  rw[this] at hw
  have hw:En p.kind=true:=hw
  rw[e1] at hw
  exact absurd hw (by trivial)
 ·unfold adP
  rw[if_neg (Jx hk)]
  unfold Fx at hd
  rcases QbY.mp hd with rfl | hd
  ·exact QaR ..
  ·exact QaE _ (Qci.mpr ⟨d,hd,rfl⟩)
section
variable {P:Program} {w:World} {K:PySem.W.Frag} {mg:Str->Option Value} {base:Heap} {op oe kd wk:Addr}
theorem bY (C:Code K mg "is_name" Js K5) (T:Ty K mg op oe kd wk):Good P w K mg base "is_name" 1 K5 ZL:=by
 refine C.good bI (λvs H Q E h=>?_) (λf cdv A outer s H vs Q E hr h=>?_)
 ·obtain⟨z,rfl,_⟩:=h
  rfl
 obtain⟨z,rfl,h1,h8,oz,q⟩:=h
 refine⟨_,(Ah (BW (FT (FQ (Aw Ph rfl T.isinstance Bo (Aa (pv 0) (Aa (Oa (v:=.ty "str") rfl T.str zT rfl) Ab))))) (Aj (Bc Fw)) BX)
 (Aj (Bc (Es (Ox Nj Nj Ae (Aw Yt rfl T.len Dg (Aa (pv 0) Ab)) Ae) (Ep (Aw (HW rfl) rfl T.all Ld (Aa (Cq (N':=["sign"]) rfl (Bm.plain rfl (by trivial) (by trivial) (by trivial)) (gq (pv 0)) (λ_ _ _ _=>(Ak (i:=0) (show List.Nodup (["sign"]:List Str) by trivial) rfl (Or.inl rfl))) (λ_ _ _ _=>CT) (λ_ _ _ _=>(Kg gJ (pv 0) (Qg rfl T.SMALL_LETTERS) (by with_unfolding_all rfl)))) Ab))))))),?_⟩
 refine⟨_,rfl,um ⟨_,rfl,Cy ⟨_,rfl,z,rfl,Ar (by show z.length<=1000;omega),_,_,rfl,rfl,_,rfl,?_⟩⟩⟩
 have g1:decide ((1:Int)<=(z.length:Int))=true:=QbS (by omega)
 rw[g1]
 refine Ce ⟨_,_,rfl,rfl,_,rfl,?_⟩
 have g2:decide ((z.length:Int)<=8)=true:=QbS (by omega)
 rw[g2]
 refine Ce ⟨_,rfl,z,rfl,λl hl'=>?_⟩
 refine Yn (λi σ HH=>∃u,σ=[u]/\HH l=some (.lst ((List.replicate i true).map V.bl))/\Same H HH) ⟨_,rfl,Ac,Af hl' _⟩ (λi c σ HH hc h=>?_) (fun σ HH h=>?_)
 ·obtain⟨u,rfl,e1,e2⟩:=h
  have hi:i < z.cps.size:=(Qaf.mp hc).1
  have hz:z.cps.size<=8:=h8
  unfold Ii
  dsimp only
  refine Ce ⟨_,rfl,_,_,rfl,rfl,_,e1,Ao (by simp;omega),_,rfl,?_,e2.Bv Ai.upd hl'⟩
  rw[Ac,uJ c (oz c (Array.mem_toList_iff.mpr (Array.mem_of_getElem? hc))),List.replicate_succ',QbC]
  rfl
 ·obtain⟨u,rfl,e1,e2⟩:=h
  refine⟨l,List.replicate z.cps.size true,rfl,SqL.of e1,?_⟩
  rw[Sg]
  exact q _ e2
theorem Xq (C:Code K mg "is_rising" G6 Iw) (T:Ty K mg op oe kd wk):Good P w K mg base "is_rising" 1 Iw fD:=by
 refine C.good WQ (λvs H Q E h=>?_) (λf cdv A outer s H vs Q E hr h=>?_)
 ·obtain⟨a,ns,rfl,_⟩:=h
  rfl
 obtain⟨a,ns,rfl,ha,hp,h100,q⟩:=h
 refine⟨_,(Aj (Bc (Aw (HW rfl) rfl T.all Ld (Aa (Cq (N':=["one","other"]) rfl (Bm.plain rfl (by trivial) (by trivial) (by trivial)) (lJ rfl T.zip (Aa (pv 0) (Aa (Kf Ub (pv 0) (Ma Ae) Mf) Ab))) (λ_ _ _ _=>(Jv (K:=K) (n:=2) rfl rfl (Aq (Ak (i:=0) (show List.Nodup (["one","other"]:List Str) by trivial) rfl (Or.inl rfl)) (Aq (Ak (i:=1) (show List.Nodup (["one","other"]:List Str) by trivial) rfl (Or.inl rfl)) BK)))) (λ_ _ _ _=>CT) (λ_ _ _ _=>(Kg V7 (pv 0) (pv 1) (BP _)))) Ab)))),?_⟩
 refine⟨_,rfl,_,rfl,_,rfl,a,_,rfl,ha,λb H1 hb s1=>?_⟩
 have ha1:=s1 _ _ ha
 refine⟨a,b,rfl,⟨_,ha1⟩,⟨_,hb⟩,λl hl=>?_⟩
 have hlen:(ns.map V.int).length=ns.length:=QbB ..
 have ec:Jj (ns.map V.int) (some (1:Int)) none=(ns.map V.int).drop 1:=by
  by_cases h0:1<=(ns.map V.int).length
  ·exact R7 (k:=1) h0
  ·have:ns.map V.int=[]:=List.length_eq_zero_iff.mp (by omega)
   rw[this]
   rfl
 rw[ec] at hb
 refine dF (xs:=ns.map V.int) (ys:=(ns.map V.int).drop 1) (ns.length - 1) (by omega) (by rw[Qbx];omega) (.inr (by rw[Qbx];omega)) (λi σ HH=>∃u1 u2,σ=[u1,u2]/\HH l=some (.lst ((List.replicate i true).map V.bl))/\Same H1 HH) ⟨_,_,rfl,Ac,Af hl _⟩ (λi σ HH _ h=>?_) (λi x y p σ HH hx hy h hpn=>?_) (fun σ HH h=>?_)
 ·obtain⟨u1,u2,rfl,e1,e2⟩:=h
  exact⟨e2 _ _ ha1,e2 _ _ hb⟩
 ·obtain⟨u1,u2,rfl,e1,e2⟩:=h
  rw[List.getElem?_drop] at hy
  rw[Qbi] at hx hy
  obtain⟨n1,hn1,rfl⟩:=Qaw.mp hx
  obtain⟨n2,hn2,rfl⟩:=Qaw.mp hy
  obtain⟨i1,g1⟩:=Qah.mp hn1
  obtain⟨i2,g2⟩:=Qah.mp hn2
  have lt:n1 < n2:=by
   rw[<-g1,<-g2]
   exact Qak.mp hp i (1+i) i1 i2 (by omega)
  have s2:=Af hpn (.tup [.int n1,.int n2])
  refine⟨p,_,rfl,SqT.of Ac,rfl,_,_,rfl,_,_,rfl,rfl,?_⟩
  refine Ce ⟨_,rfl,_,rfl,_,_,rfl,rfl,_,s2 _ _ e1,Ao (by simp;omega),_,_,rfl,?_,(e2.trans s2).Bv Ai.upd hl⟩
  rw[Ac]
  show some (HO.lst (_++[V.bl (decide (n1 < n2))]))=_
  rw[QbS lt,List.replicate_succ',QbC]
  rfl
 ·obtain⟨u1,u2,rfl,e1,e2⟩:=h
  refine⟨l,List.replicate (ns.length - 1) true,rfl,SqL.of e1,?_⟩
  rw[Sg]
  exact q _ (s1.trans e2)
theorem VG (C:Code K mg "are_rising_within" Cw Dy) (T:Ty K mg op oe kd wk) (Cj:Good P w K mg base "is_row" 1 Dq Hu) (Gp:Good P w K mg base "is_within" 2 Fb Mp) (Y6:Good P w K mg base "is_rising" 1 Iw fD):Good P w K mg base "are_rising_within" 3 Dy fC:=by
 refine C.good Ou (λvs H Q E h=>?_) (λf cdv A outer s H vs Q E hr h=>?_)
 ·obtain⟨a,ns,lo,hi,l,h,rfl,_⟩:=h
  rfl
 obtain⟨a,ns,lo,hi,l,h,rfl,ha,hp,h100,h1,h2,h3,q⟩:=h
 refine⟨_,(Ah (BW (FT (FQ (Ay Cj hr (Aa (pv 0) (Aa (pv 1) (Aa (pv 2) Ab)))))) (Aj (Bc Fw)) BX)
 (Aj (Bc (Es (Aw (HW rfl) rfl T.all Ld (Aa (Cq (N':=["part","low","high"]) rfl (Bm.of (src:=[none,some 3,some 4]) (Ag Cw) ["thing","least","most","low","high"] rfl rfl rfl (by trivial) (by trivial) (by trivial) rfl (by trivial)) (FW (pv 0)) (λ_ _ _ _=>(Ak (i:=0) (show List.Nodup (["part","low","high"]:List Str) by trivial) rfl (Or.inl rfl))) (λ_ _ _ _=>CT) (λ_ _ _ _=>(Ay Gp hr (Aa (pv 0) (Aa (pv 1) (Aa (pv 2) Ab)))))) Ab)) (Ep (Ay Y6 hr (Aa (pv 0) Ab))))))),?_⟩
 have hlen:(ns.map V.int).length=ns.length:=QbB ..
 refine⟨_,rfl,_,rfl,_,rfl,.ref a,lo,hi,rfl,Jb ha,_,rfl,?_⟩
 rw[Dp ha,Ez (by rw[hlen];exact h1) (by rw[hlen];exact h2)]
 refine Cy ⟨_,rfl,a,rfl,⟨_,SqT.of ha⟩,λl2 hl2=>?_⟩
 refine Lb (r:=[some (.int l),some (.int h)]) hl2 ha (by omega) (λi x HH hx s1 R hR=>?_) (λH' e s1=>?_)
 ·rw[Qbi] at hx
  obtain⟨n1,hn1,rfl⟩:=Qaw.mp hx
  refine⟨_,rfl,_,rfl,_,rfl,n1,l,h,rfl,?_⟩
  rw[QbS (h3 n1 (QaD hn1))]
  exact hR _ (Same.refl _)
 ·refine⟨l2,List.replicate (ns.map V.int).length true,rfl,SqL.of e,_,rfl,?_⟩
  rw[Sg]
  exact Ce ⟨_,rfl,a,ns,rfl,s1 _ _ ha,hp,h100,λH2 s2=>q _ (s1.trans s2)⟩
theorem Xu (C:Code K mg "is_device" G8 Hg) (T:Ty K mg op oe kd wk) (Gp:Good P w K mg base "is_within" 2 Fb Mp):Good P w K mg base "is_device" 3 Hg Wz:=by
 refine C.good WT (λvs H Q E h=>?_) (λf cdv A outer s H vs Q E hr h=>?_)
 ·obtain⟨k,x,rfl,_⟩:=h
  rfl
 obtain⟨k,x,rfl,hk,h1,h2,q⟩:=h
 refine⟨_,(Aj (Bc (Es (Kg Qj (pv 0) (Qg rfl T.KINDS) (by with_unfolding_all rfl)) (Ep (Ay Gp hr (Aa (pv 1) (Aa Ae (Aa Ae Ab)))))))),?_⟩
 refine⟨_,rfl,kd,_,rfl,.inr (T.kdT H),rfl,rfl,_,rfl,?_⟩
 rw[if_neg QaS,ug hk]
 refine Ce ⟨_,rfl,x,1,99,rfl,?_⟩
 rw[QbS ⟨h1,h2⟩]
 exact q
theorem Rg (C:Code K mg "is_spur_device" DK Fj) (T:Ty K mg op oe kd wk) (Cj:Good P w K mg base "is_row" 1 Dq Hu) (NQ:Good P w K mg base "is_device" 3 Hg Wz):Good P w K mg base "is_spur_device" 4 Fj Wu:=by
 refine C.good Ra (λvs H Q E h=>?_) (λf cdv A outer s H vs Q E hr h=>?_)
 ·obtain⟨v,d,rfl,_⟩:=h
  rfl
 obtain⟨v,d,rfl,⟨t,rfl,ht⟩,hk,h1,h2,q⟩:=h
 refine⟨_,(Aj (Bc (Es (Ay Cj hr (Aa (pv 0) (Aa Ae (Aa Ae Ab)))) (Ep (Ay NQ hr (Aa (Bq Cr (pv 0) Ae (λ_ _=>rfl)) (Aa (Bq Cr (pv 0) Ae (λ_ _=>rfl)) Ab))))))),?_⟩
 refine⟨_,rfl,.ref t,2,2,rfl,Jb ht,_,rfl,?_⟩
 rw[Dp ht,Ez (by show (2:Int)<=2;decide) (by show (2:Int)<=2;decide)]
 exact Ce ⟨_,rfl,t,_,_,_,rfl,rfl,SqT.of ht,rfl,_,rfl,t,_,_,_,rfl,rfl,SqT.of ht,rfl,d.kind,d.addr,rfl,hk,h1,h2,q⟩
theorem bV (C:Code K mg "is_spur" Jq K3) (T:Ty K mg op oe kd wk) (Cj:Good P w K mg base "is_row" 1 Dq Hu) (RW:Good P w K mg base "is_spur_device" 4 Fj Wu):Good P w K mg base "is_spur" 5 K3 ZG:=by
 refine C.good bH (λvs H Q E h=>?_) (λf cdv A outer s H vs Q E hr h=>?_)
 ·obtain⟨u,ws,ds,rfl,_⟩:=h
  rfl
 obtain⟨u,ws,ds,rfl,hu,hd,h3,hk,q⟩:=h
 have lw:=QbX hd
 refine⟨_,(Aj (Bc (Es (Ay Cj hr (Aa (pv 0) (Aa Ae (Aa Ae Ab)))) (Ep (Aw (HW rfl) rfl T.all Ld (Aa (Cq (N':=["part"]) rfl (Bm.plain rfl (by trivial) (by trivial) (by trivial)) (FW (pv 0)) (λ_ _ _ _=>(Ak (i:=0) (show List.Nodup (["part"]:List Str) by trivial) rfl (Or.inl rfl))) (λ_ _ _ _=>CT) (λ_ _ _ _=>(Ay RW hr (Aa (pv 0) Ab)))) Ab)))))),?_⟩
 refine⟨_,rfl,.ref u,0,3,rfl,Jb hu,_,rfl,?_⟩
 rw[Dp hu,Ez (by omega) (by omega)]
 refine Ce ⟨_,rfl,u,rfl,⟨_,SqT.of hu⟩,λl2 hl2=>?_⟩
 refine Lb (r:=[]) hl2 hu (by omega) (λi x HH hx s1 R hR=>?_) (λH' e s1=>?_)
 ·obtain⟨d,hdi,had⟩:=Paired.Cm hd hx
  have:=hk d (QaD hdi)
  exact⟨_,rfl,x,d,rfl,had.tups (Am.of s1),this.1,this.2.1,this.2.2,hR _ (Same.refl _)⟩
 ·refine⟨l2,List.replicate ws.length true,rfl,SqL.of e,?_⟩
  rw[Sg]
  exact q _ s1
theorem YT (C:Code K mg "is_place" Ie JM) (T:Ty K mg op oe kd wk) (Cj:Good P w K mg base "is_row" 1 Dq Hu) (Gp:Good P w K mg base "is_within" 2 Fb Mp) (NQ:Good P w K mg base "is_device" 3 Hg Wz) (je:Good P w K mg base "is_spur" 5 K3 ZG):Good P w K mg base "is_place" 6 JM Wv:=by
 have sc:=Ir
 refine C.good Ir (λvs H Q E h=>?_) (λf cdv A outer s H vs Q E hr h=>?_)
 ·obtain⟨v,p,rfl,_⟩:=h
  rfl
 obtain⟨v,p,rfl,⟨t,u,ws,rfl,ht,hu,hd⟩,⟨ok,bd⟩,q⟩:=h
 have lw:=QbX hd
 have h3:=ok.spur
 refine⟨_,(Ah (BW (FT (FQ (Ay Cj hr (Aa (pv 0) (Aa Ae (Aa Ae Ab)))))) (Aj (Bc Fw)) BX)
 (Ah (KN (pv 0) (Df rfl (Aq (Ak (i:=1) Ir.nd rfl (Or.inl rfl)) (Aq (Ak (i:=2) Ir.nd rfl (Or.inl rfl)) (Aq (Ak (i:=3) Ir.nd rfl (Or.inl rfl)) BK)))))
 (Ah (BW (Bs Hs (pv 1) Bh (BP _)) (Aj (Bc (Es (Ay Gp hr (Aa (pv 2) (Aa Ae (Aa Ae Ab)))) (Ep (Ay Cj hr (Aa (pv 3) (Aa Ae (Aa Ae Ab)))))))) BX)
 (Aj (Bc (Es (Ay NQ hr (Aa (pv 1) (Aa (pv 2) Ab))) (Ep (Ay je hr (Aa (pv 3) Ab))))))))),?_⟩
 refine⟨_,rfl,.ref t,3,3,rfl,Jb ht,_,rfl,?_⟩
 rw[Dp ht,Ez (by show (3:Int)<=3;decide) (by show (3:Int)<=3;decide)]
 refine Cy ⟨_,rfl,t,_,rfl,SqT.of ht,rfl,_,_,rfl,_,_,rfl,_,_,rfl,rfl,?_⟩
 refine⟨_,rfl,rfl,_,rfl,?_⟩
 rcases ok.form with⟨e1,e2,e3⟩| hk
 ·rw[show decide (V.str p.kind=V.str "opener")=true by rw[e1];rfl]
  have lw0:ws.length=0:=by rw[lw,e3];rfl
  refine Ce ⟨_,rfl,p.addr,0,0,rfl,_,rfl,?_⟩
  rw[show decide ((0:Int)<=p.addr/\p.addr<=0)=true by rw[e2];rfl]
  refine Ce ⟨_,rfl,.ref u,0,0,rfl,Jb hu,?_⟩
  rw[Dp hu,Ez (by omega) (by omega)]
  exact q _ (Same.refl _)
 ·have ea:adP p=p.addr::p.spur.map (·.addr):=if_neg (Jx hk)
  rw[ea] at bd
  rw[QbG (Jx hk)]
  have b0:=bd p.addr (QaR ..)
  refine Cy ⟨_,rfl,_,rfl,p.kind,p.addr,rfl,hk,b0.1,b0.2,_,rfl,?_⟩
  exact Ce ⟨_,rfl,u,ws,p.spur,rfl,hu,hd,h3,λd hdm=>⟨ok.kinds d hdm,bd d.addr (QaE _ (Qci.mpr ⟨d,hdm,rfl⟩))⟩,q⟩
theorem bZ (C:Code K mg "is_loop" Jt K6) (T:Ty K mg op oe kd wk) (Cj:Good P w K mg base "is_row" 1 Dq Hu) (cY:Good P w K mg base "is_place" 6 JM Wv):Good P w K mg base "is_loop" 7 K6 ZM:=by
 refine C.good bJ (λvs H Q E h=>?_) (λf cdv A outer s H vs Q E hr h=>?_)
 ·obtain⟨v,ps,rfl,_⟩:=h
  rfl
 obtain⟨v,ps,rfl,⟨t,ws,rfl,ht,hd⟩,ok,bd,q⟩:=h
 have lw:=QbX hd
 have l1:=ok.lo
 have l2:=ok.hi
 refine⟨_,(Aj (Bc (Es (Ay Cj hr (Aa (pv 0) (Aa Ae (Aa Ae Ab)))) (Ep (Aw (HW rfl) rfl T.all Ld (Aa (Cq (N':=["part"]) rfl (Bm.plain rfl (by trivial) (by trivial) (by trivial)) (FW (pv 0)) (λ_ _ _ _=>(Ak (i:=0) (show List.Nodup (["part"]:List Str) by trivial) rfl (Or.inl rfl))) (λ_ _ _ _=>CT) (λ_ _ _ _=>(Ay cY hr (Aa (pv 0) Ab)))) Ab)))))),?_⟩
 refine⟨_,rfl,.ref t,1,12,rfl,Jb ht,_,rfl,?_⟩
 rw[Dp ht,Ez (by omega) (by omega)]
 refine Ce ⟨_,rfl,t,rfl,⟨_,SqT.of ht⟩,λl2 hl2=>?_⟩
 refine Lb (r:=[]) hl2 ht (by omega) (λi x HH hx s1 R hR=>?_) (λH' e s1=>?_)
 ·obtain⟨p,hpi,hap⟩:=Paired.Cm hd hx
  have hm:=QaD hpi
  exact⟨_,rfl,x,p,rfl,hap.tups (Am.of s1),⟨ok.ok p hm,λy hy=>bd y (Qbz.mpr ⟨p,hm,hy⟩)⟩,λH2 s2=>hR _ s2⟩
 ·refine⟨l2,List.replicate ws.length true,rfl,SqL.of e,?_⟩
  rw[Sg]
  exact q _ s1
theorem Xw (C:Code K mg "are_loops" Hf IV) (T:Ty K mg op oe kd wk) (Cj:Good P w K mg base "is_row" 1 Dq Hu) (jh:Good P w K mg base "is_loop" 7 K6 ZM):Good P w K mg base "are_loops" 8 IV Wy:=by
 refine C.good WX (λvs H Q E h=>?_) (λf cdv A outer s H vs Q E hr h=>?_)
 ·obtain⟨Ls,ws,loops,rfl,_⟩:=h
  rfl
 obtain⟨t,ws,loops,rfl,ht,hd,ok,bd,l1,l2,q⟩:=h
 have lw:=QbX hd
 refine⟨_,(Aj (Bc (Es (Ay Cj hr (Aa (pv 0) (Aa Ae (Aa Ae Ab)))) (Ep (Aw (HW rfl) rfl T.all Ld (Aa (Cq (N':=["part"]) rfl (Bm.plain rfl (by trivial) (by trivial) (by trivial)) (FW (pv 0)) (λ_ _ _ _=>(Ak (i:=0) (show List.Nodup (["part"]:List Str) by trivial) rfl (Or.inl rfl))) (λ_ _ _ _=>CT) (λ_ _ _ _=>(Ay jh hr (Aa (pv 0) Ab)))) Ab)))))),?_⟩
 refine⟨_,rfl,.ref t,1,3,rfl,Jb ht,_,rfl,?_⟩
 rw[Dp ht,Ez (by omega) (by omega)]
 refine Ce ⟨_,rfl,t,rfl,⟨_,SqT.of ht⟩,λl2 hl2=>?_⟩
 refine Lb (r:=[]) hl2 ht (by omega) (λi x HH hx s1 R hR=>?_) (λH' e s1=>?_)
 ·obtain⟨p,hpi,hap⟩:=Paired.Cm hd hx
  have hm:=QaD hpi
  exact⟨_,rfl,x,p,rfl,hap.tups (Am.of s1),ok p hm,λy hy=>bd y (Qbz.mpr ⟨p,hm,hy⟩),λH2 s2=>hR _ s2⟩
 ·refine⟨l2,List.replicate ws.length true,rfl,SqL.of e,?_⟩
  rw[Sg]
  exact q _ s1
theorem bU (C:Code K mg "is_zone" Jp K1) (T:Ty K mg op oe kd wk) (Cj:Good P w K mg base "is_row" 1 Dq Hu) (jg:Good P w K mg base "is_name" 1 K5 ZL) (PB:Good P w K mg base "are_rising_within" 3 Dy fC):Good P w K mg base "is_zone" 4 K1 ZD:=by
 refine C.good bG (λvs H Q E h=>?_) (λf cdv A outer s H vs Q E hr h=>?_)
 ·obtain⟨v,z,rfl,_⟩:=h
  rfl
 obtain⟨v,z,rfl,⟨t,u,rfl,ht,hu⟩,ok,q⟩:=h
 refine⟨_,(Aj (Bc (Es (Ay Cj hr (Aa (pv 0) (Aa Ae (Aa Ae Ab)))) (Es (Ay jg hr (Aa (Bq Cr (pv 0) Ae (λ_ _=>rfl)) Ab)) (Ep (Ay PB hr (@Aa _ _ _ _ _ (Bq Cr (pv 0) Ae (λ_ _=>rfl)) (@Aa _ _ _ _ _ (@Ae _ _ _ _) (@Aa _ _ _ _ _ (@Ae _ _ _ _) (@Aa _ _ _ _ _ (@Ae _ _ _ _) (@Aa _ _ _ _ _ (@Ae _ _ _ _) (@Ab _) Bf) Bf) Bf) Bf) vB))))))),?_⟩
 refine⟨_,rfl,.ref t,2,2,rfl,Jb ht,_,rfl,?_⟩
 rw[Dp ht,Ez (by show (2:Int)<=2;decide) (by show (2:Int)<=2;decide)]
 refine Ce ⟨_,rfl,t,_,_,_,rfl,rfl,SqT.of ht,rfl,z.name,rfl,ok.nm.1.1,ok.nm.1.2,ok.nm.2,λH1 s1=>⟨_,rfl,Ce ?_⟩⟩
 have u1:=ok.up.2.1
 have u2:=ok.up.2.2
 exact⟨_,rfl,t,_,_,_,rfl,rfl,SqT.of (s1 _ _ ht),rfl,u,z.adr,1,30,1,99,rfl,s1 _ _ hu,ok.up.1,by omega,by omega,by omega,ok.bd,λH2 s2=>q _ (s1.trans s2)⟩
end
abbrev Eh:Stmt:=top 43
abbrev Ga:List Str:=["plan"]
theorem DG:Ba ["plan","seen","spot","kind","address"] Ga (Ag Eh):=⟨rfl,rfl,rfl,by trivial,rfl,by trivial,by trivial⟩
abbrev Fe:Stmt:=top 44
abbrev Gv:List Str:=["plan"]
theorem FP:Ba ["plan","loop","number","spots"] Gv (Ag Fe):=⟨rfl,rfl,rfl,by trivial,rfl,by trivial,by trivial⟩
abbrev Dn:Stmt:=top 45
abbrev Ed:List Str:=["plan"]
theorem CZ:Ba ["plan","warners","name","addresses","address"] Ed (Ag Dn):=⟨rfl,rfl,rfl,by trivial,rfl,by trivial,by trivial⟩
abbrev DN:Stmt:=top 46
abbrev Fo:List Str:=["plan"]
theorem Ds:Ba ["plan","seen","name","addresses","address"] Fo (Ag DN):=⟨rfl,rfl,rfl,by trivial,rfl,by trivial,by trivial⟩
abbrev LK:Stmt:=top 47
abbrev Oc:List Str:=["plan"]
theorem kJ:Ba ["plan"] Oc (Ag LK):=⟨rfl,rfl,rfl,by trivial,rfl,by trivial,by trivial⟩
abbrev G7:Stmt:=top 48
abbrev Iz:List Str:=["thing"]
theorem WR:Ba ["thing"] Iz (Ag G7):=⟨rfl,rfl,rfl,by trivial,rfl,by trivial,by trivial⟩
def Ip:Sp:=λvs H Q _=>∃pl most loops zones,vs=[.ref pl]/\Ij H pl most loops zones/\∀H',Same H H'->Q .non H'
def Ih {α : Type} (f:α->Key) (xs:List α):List (Key×V):=xs.map λx=>(f x,V.bl true)
theorem Np {α : Type} {f:α->Key} {k:Key}:∀{xs:List α},(∀x∈xs,f x≠k)->Eu (Ih f xs) k=none
 | [],_=>rfl
 | x::r,h=>by
  have:Ih f (x::r)=(f x,V.bl true)::Ih f r:=rfl
  rw[this,JX (p:=(f x,V.bl true)) (h x (QaR ..))]
  exact Np λy hy=>h y (QaE _ hy)
theorem K9 {α : Type} (f:α->Key) (xs:List α):(Ih f xs).length=xs.length:=QbB ..
theorem Nq {α : Type} {f:α->Key} {xs:List α} {x:α} (h:∀y∈xs,f y≠f x):putK (Ih f xs) (f x) (.bl true)=Ih f (xs++[x]):=by
 rw[Mu _ (Np h)]
 unfold Ih
 rw[QbC]
 rfl
theorem Ur {α : Type} {l:List α} (h:l.Nodup) {i:Nat} {x:α} (hx:l[i]?=some x):∀y∈l.take i,y≠x:=λy hy e=>by
 subst e
 obtain⟨j,hj⟩:=QaG hy
 rw[List.getElem?_take] at hj
 split at hj
 ·rename_i hji
  obtain⟨h1,e1⟩:=Qah.mp hj
  obtain⟨h2,e2⟩:=Qah.mp hx
  have:=Qak.mp h j i h1 h2 hji
  exact this (by rw[e1,e2])
 ·cases hj
theorem Kw {α β : Type} {f:α->β} {l:List α} (h:(l.map f).Nodup) {i:Nat} {x:α} (hx:l[i]?=some x):∀y∈l.take i,f y≠f x:=λy hy e=>by
 have:=Ur h (i:=i) (x:=f x) (by rw[Qbi,hx];rfl) (f y) (by rw[<-List.map_take];exact Qci.mpr ⟨y,hy,rfl⟩)
 exact this e
theorem Zx {lp:Int} {ps:List Place}:∀i,i<=ps.length->(stP lp ps i).1.map (λz=>(z.length:Int))=(pst (ps.take i)).1/\((stP lp ps i).2.length:Int)=(pst (ps.take i)).2
 | 0,_=>⟨rfl,rfl⟩
 | i+1,h=>by
  have hi:ps[i]?=some ps[i]:=Qan (by omega)
  obtain⟨h1,h2⟩:=Zx (lp:=lp) (ps:=ps) i (by omega)
  rw[Qcy hi,Xe]
  unfold ptS
  by_cases k:V.str ps[i].kind=V.str "opener"
  ·rw[SJ hi k,if_pos k]
   refine⟨?_,rfl⟩
   rw[QbC,h1,<-h2]
   rfl
  ·rw[QG hi k,if_neg k]
   refine⟨h1,?_⟩
   show (((stP lp ps i).2++(Bt lp ((1+i:Nat):Int) ps[i]).map Sd.spot).length:Int)=_
   rw[QaQ,QbB,<-h2]
   have:(Bt lp ((1+i:Nat):Int) ps[i]).length=1+ps[i].spur.length:=by
    unfold Bt
    rw[if_neg k,Qbr,Lk]
    omega
   rw[this]
   push_cast
   omega
theorem lU {lp:Int} {ps:List Place}:∀z∈(stP lp ps ps.length).1++[(stP lp ps ps.length).2],(z.length:Int)∈Hr ps:=λz hz=>by
 obtain⟨h1,h2⟩:=Zx (lp:=lp) (ps:=ps) ps.length (Qcq _)
 rw[Qbt] at h1 h2
 unfold Hr
 rw[<-h1,<-h2]
 rcases QbD.mp hz with h | h
 ·exact QaF _ (Qci.mpr ⟨z,h,rfl⟩)
 ·have:z=(stP lp ps ps.length).2:=by simpa using h
  rw[this]
  exact QaA _ (QaX.mpr rfl)
theorem pL {zones:List Zone} (h:∀z∈zones,z.adr.length<=30):(zones.flatMap (·.adr)).length<=30*zones.length:=by
 induction zones with
 | nil=>exact Qcq _
 | cons a r ih=>
  have h1:=ih λz hz=>h z (QaE _ hz)
  have h2:=h a (QaR ..)
  rw[Qbl,QaQ,Qbr]
  omega
theorem pK {a b:List Zone} (h:a.Sublist b):(a.flatMap (·.adr)).Sublist (b.flatMap (·.adr)):=by
 induction h with
 | slnil=>exact .slnil
 | cons x _ ih=>rw[Qbl];exact List.Sublist.trans ih (List.sublist_append_right _ _)
 | cons_cons x _ ih=>rw[Qbl,Qbl];exact List.Sublist.append_left ih _
theorem U9 (lp a:Int):∀(n:Nat) (ds:List Dev) (d:Dev),d∈ds->∃z∈Ca lp a n ds,z.kind=d.kind/\z.addr=d.addr
 | _,[],d,h=>by cases h
 | n,x::r,d,h=>by
  rcases QbY.mp h with rfl | h
  ·exact⟨_,QaR ..,rfl,rfl⟩
  ·obtain⟨z,h1,h2⟩:=U9 lp a (n+1) r d h
   exact⟨z,QaE _ h1,h2⟩
theorem V0 {α : Type} {f:Nat->List α} {x:α} {i:Nat} (h:x∈f i):∀{n:Nat},i < n->x∈up f n
 | 0,hn=>by omega
 | n+1,hn=>by
  rw[CW]
  by_cases e:i=n
  ·subst e;exact QaA _ h
  ·exact QaF _ (V0 h (by omega))
theorem rB {loops:List (List Place)} (h:Fv loops) {x:Int} (hx:x∈Et loops):∃z∈(up (pdL loops) loops.length).filter (λz=>En z.kind),z.addr=x:=by
 obtain⟨ps,hps,hx⟩:=Qbz.mp hx
 obtain⟨p,hp,hx⟩:=Qbz.mp hx
 obtain⟨d,hd,rfl⟩:=Qci.mp hx
 obtain⟨hd,hw⟩:=QbK.mp hd
 obtain⟨k,hk⟩:=QaG hps
 obtain⟨i,hi⟩:=QaG hp
 have hkl:=(Qah.mp hk).1
 have hil:=(Qah.mp hi).1
 have hop:¬V.str p.kind=V.str "opener":=by
  rcases ((h.ok ps hps).ok p hp).form with⟨e1,e2,e3⟩| hk
  ·have:d=⟨p.kind,p.addr⟩:=by
    unfold Fx at hd
    rw[e3] at hd
    simpa using hd
   rw[this] at hw
   have hw:En p.kind=true:=hw
   rw[e1] at hw
   exact absurd hw (by trivial)
  ·exact Jx hk
 have key:∃z∈Bt (k:Int) ((1+i:Nat):Int) p,z.kind=d.kind/\z.addr=d.addr:=by
  unfold Bt
  rw[if_neg hop]
  unfold Fx at hd
  rcases QbY.mp hd with rfl | hd
  ·exact⟨_,QaR ..,rfl,rfl⟩
  ·obtain⟨z,h1,h2⟩:=U9 (k:Int) ((1+i:Nat):Int) 1 p.spur d hd
   exact⟨z,QaE _ h1,h2⟩
 obtain⟨z,hz,e1,e2⟩:=key
 refine⟨z,QbK.mpr ⟨V0 (i:=k) ?_ hkl,by show En z.kind=true;rw[e1];exact hw⟩,e2⟩
 unfold pdL
 rw[Dr hk]
 refine V0 (i:=i) ?_ hil
 unfold pd1
 rw[Dr hi]
 exact hz
section
variable {P:Program} {w:World} {K:PySem.W.Frag} {mg:Str->Option Value} {base:Heap} {op oe kd wk:Addr}
theorem Xv (C:Code K mg "are_zones" G9 IK) (T:Ty K mg op oe kd wk) (Cj:Good P w K mg base "is_row" 1 Dq Hu) (jd:Good P w K mg base "is_zone" 4 K1 ZD):Good P w K mg base "are_zones" 5 IK Wt:=by
 refine C.good WW (λvs H Q E h=>?_) (λf cdv A outer s H vs Q E hr h=>?_)
 ·obtain⟨zs,ws,zones,rfl,_⟩:=h
  rfl
 obtain⟨t,ws,zones,rfl,ht,hd,ok,l8,nd,q⟩:=h
 have lw:=QbX hd
 refine⟨_,(Ah (BW (PW.pt (Ov (FT (FQ (Ay Cj hr (Aa (pv 0) (Aa Ae (Aa Ae Ab)))))) (N8 (FT (FQ (Aw (HW rfl) rfl T.all Ld (Aa (Cq (N':=["part"]) rfl (Bm.plain rfl (by trivial) (by trivial) (by trivial)) (FW (pv 0)) (λ_ _ _ _=>(Ak (i:=0) (show List.Nodup (["part"]:List Str) by trivial) rfl (Or.inl rfl))) (λ_ _ _ _=>CT) (λ_ _ _ _=>(Ay jd hr (Aa (pv 0) Ab)))) Ab))))))) (Aj (Bc Fw)) BX)
 (Aj (Bc (Kg Hs (Aw jD rfl T.len Dg (Aa (lQ (N':=["name","addresses"]) rfl (Bm.plain rfl (by trivial) (by trivial) (by trivial)) (FW (pv 0)) (λ_ _ _ _=>(Jv (K:=K) (n:=2) rfl rfl (Aq (Ak (i:=0) (show List.Nodup (["name","addresses"]:List Str) by trivial) rfl (Or.inl rfl)) (Aq (Ak (i:=1) (show List.Nodup (["name","addresses"]:List Str) by trivial) rfl (Or.inl rfl)) BK)))) (λ_ _ _ _=>CT) (λ_ _ _ _=>(pv 0)) (λ_ _ _ _=>Fw)) Ab)) (Aw Bu rfl T.len Dg (Aa (pv 0) Ab)) (BP _))))),?_⟩
 refine⟨_,rfl,.ref t,0,8,rfl,Jb ht,_,rfl,?_⟩
 rw[Dp ht,Ez (by omega) (by omega)]
 refine Cy ⟨_,rfl,t,rfl,⟨_,SqT.of ht⟩,λl2 hl2=>?_⟩
 refine Lb (r:=[]) hl2 ht (by omega) (λi x HH hx s1 R hR=>?_) (λH' e s1=>?_)
 ·obtain⟨z,hzi,haz⟩:=Paired.Cm hd hx
  exact⟨_,rfl,x,z,rfl,haz.tups (Am.of s1),ok z (QaD hzi),λH2 s2=>hR _ s2⟩
 refine⟨l2,List.replicate ws.length true,rfl,SqL.of e,_,rfl,?_⟩
 rw[Sg]
 have ht1:=s1 _ _ ht
 refine Cy ⟨_,rfl,t,rfl,⟨_,SqT.of ht1⟩,λl hl=>?_⟩
 refine jt (xs:=ws) (λi σ HH=>∃u1 u2,σ=[u1,u2]/\HH l=some (.dK (Ih (λz:Zone=>Sum.inr z.name) (zones.take i)))/\Same H' HH) ⟨_,_,rfl,Ac,Af hl _⟩ (λi σ HH _ h=>?_) (λi x σ HH hx h=>?_) (fun σ HH h=>?_)
 ·obtain⟨u1,u2,rfl,e1,e2⟩:=h
  exact SqT.of (e2 _ _ ht1)
 ·obtain⟨u1,u2,rfl,e1,e2⟩:=h
  obtain⟨z,hzi,tz,uz,rfl,h1,h2⟩:=Paired.Cm hd hx
  refine⟨tz,_,rfl,SqT.of (e2 _ _ (s1 _ _ h1)),rfl,_,_,rfl,_,_,rfl,rfl,?_⟩
  refine Ce ⟨_,rfl,_,Sum.inr z.name,e1,rfl,Ao (by rw[K9,Qbs];omega),_,_,rfl,?_,e2.Bv Ai.upd hl⟩
  rw[Ac,Nq (f:=λz:Zone=>Sum.inr z.name) (x:=z),Qcy hzi]
  exact λy hy e=>Kw nd hzi y hy (Sum.inr.inj e)
 ·obtain⟨u1,u2,rfl,e1,e2⟩:=h
  rw[lw,Qbt] at e1
  refine⟨l,_,rfl,e1,_,rfl,t,_,rfl,.inr (SqT.of (e2 _ _ ht1)),rfl,?_⟩
  rw[K9,lw]
  have:decide (V.int (zones.length:Int)=V.int (zones.length:Int))=true:=QbS rfl
  rw[this]
  exact q _ (s1.trans e2)
theorem bW (C:Code K mg "is_plan" Jr K4) (T:Ty K mg op oe kd wk) (Cj:Good P w K mg base "is_row" 1 Dq Hu) (Gp:Good P w K mg base "is_within" 2 Fb Mp) (Y9:Good P w K mg base "are_loops" 8 IV Wy) (Y8:Good P w K mg base "are_zones" 5 IK Wt) (HN:Good P w K mg base "devices" 2 GF SQ):Good P w K mg base "is_plan" 9 K4 QH:=by
 have sc:=JH
 refine C.good JH (λvs H Q E h=>?_) (λf cdv A outer s H vs Q E hr h=>?_)
 ·obtain⟨pl,most,loops,zones,rfl,_⟩:=h
  rfl
 obtain⟨pl,most,loops,zones,rfl,pa,q⟩:=h
 obtain⟨Ls,zs,ws,zvs,e1,e2,e3,e4,e5⟩:=pa.at_
 refine⟨_,(Ah (BW (FT (FQ (Ay Cj hr (Aa (pv 0) (Aa Ae (Aa Ae Ab)))))) (Aj (Bc Fw)) BX)
 (Ah (KN (pv 0) (Df rfl (Aq (Ak (i:=1) JH.nd rfl (Or.inl rfl)) (Aq (Ak (i:=2) JH.nd rfl (Or.inl rfl)) (Aq (Ak (i:=3) JH.nd rfl (Or.inl rfl)) BK)))))
 (Ah (BW (PW.pt (Ov (FT (FQ (Ay Gp hr (Aa (pv 1) (Aa Ae (Aa Ae Ab)))))) (Ov (FT (FQ (Ay Y9 hr (Aa (pv 2) Ab)))) (N8 (FT (FQ (Ay Y8 hr (Aa (pv 3) Ab)))))))) (Aj (Bc Fw)) BX)
 (Aj (Bc (Ox Nj Nj Ae (Aw Bu rfl T.len Dg (Aa (Ay HN hr (Aa (pv 0) Ab)) Ab)) Ae)))))),?_⟩
 refine⟨_,rfl,.ref pl,3,3,rfl,Jb e1,_,rfl,?_⟩
 rw[Dp e1,Ez (by show (3:Int)<=3;decide) (by show (3:Int)<=3;decide)]
 refine Cy ⟨_,rfl,pl,_,rfl,SqT.of e1,rfl,_,_,rfl,_,_,rfl,_,_,rfl,rfl,?_⟩
 refine⟨_,rfl,most,1,30,rfl,_,rfl,?_⟩
 rw[QbS pa.pok.mo]
 refine Cy ⟨_,rfl,Ls,ws,loops,rfl,e2,e3,pa.ok.ok,pa.pok.bd,pa.lo,pa.ok.hi,λH1 s1=>⟨_,rfl,Cy ?_⟩⟩
 refine⟨_,rfl,zs,zvs,zones,rfl,s1 _ _ e4,Paired.Bb e5 λ_ _ z=>z.tups (Am.of s1),λz hz=>⟨pa.pok.znm z hz,pa.pok.zup z hz,λx hx=>pa.pok.bd x (j7 pa.ok (pa.pok.zin z hz x hx))⟩,pa.pok.uQ,pa.pok.zdi,λH2 s2=>⟨_,rfl,Cy ?_⟩⟩
 have s12:=s1.trans s2
 refine⟨_,rfl,pl,loops,rfl,(pa.same s12).plan,pa.ok,λl xs H3 hl hx hp s3=>?_⟩
 have lx:=QbX hp
 have la:(up (pdL loops) loops.length).length=(Ck loops).length:=by rw[<-JB loops,QbB]
 have c1:=pa.pok.cnt.1
 have c2:=pa.pok.cnt.2
 refine⟨l,_,rfl,.inl (SqL.of hx),_,_,rfl,rfl,_,rfl,?_⟩
 have g1:decide ((1:Int)<=(xs.length:Int))=true:=QbS (by omega)
 rw[g1]
 refine Ce ⟨_,_,rfl,rfl,?_⟩
 have g2:decide ((xs.length:Int)<=30)=true:=QbS (by omega)
 show Q (.bl (decide ((xs.length:Int)<=30))) H3
 rw[g2]
 exact q _ (s12.trans s3)
theorem RK (C:Code K mg "address_twice" Eh Ga) (T:Ty K mg op oe kd wk) (HN:Good P w K mg base "devices" 2 GF SQ):Good P w K mg base "address_twice" 3 Ga Ip:=by
 have sc:=DG
 refine C.good DG (λvs H Q E h=>?_) (λf cdv A outer s H vs Q E hr h=>?_)
 ·obtain⟨pl,most,loops,zones,rfl,_⟩:=h
  rfl
 obtain⟨pl,most,loops,zones,rfl,pa,q⟩:=h
 refine⟨_,(Ah (Bd (i:=1) DG.nd rfl (Or.inl rfl) Xk)
 (Ah (BZ QbE rfl (DQ (Ay HN hr (Aa (pv 0) Ab))) (Df rfl (Aq (Ak (i:=2) DG.nd rfl (Or.inl rfl)) (Aq (Ak (i:=3) DG.nd rfl (Or.inl rfl)) (Aq (Ak (i:=4) DG.nd rfl (Or.inl rfl)) BK))))
 (Ah (BW (Qd (gD (Dh hr) (pv 4) (pv 1))) (Aj (Bc (Bk (Aa Bh (Aa (pv 4) Ab))))) BX)
 (Aj (Fg (Dh hr) (pv 1) (pv 4) Fw rfl))))
 (Aj (Bc JK)))),?_⟩
 refine λd hd=>?_
 have s0:=Af hd (.dK [])
 refine⟨_,rfl,pl,loops,rfl,(pa.same s0).plan,pa.ok,λl xs H1 hl hx hp s1=>⟨l,rfl,⟨_,SqL.of hx⟩,?_⟩⟩
 have lx:=QbX hp
 have la:(up (pdL loops) loops.length).length=(Ck loops).length:=by rw[<-JB loops,QbB]
 have c2:=pa.pok.cnt.2
 have nd:((up (pdL loops) loops.length).map (·.addr)).Nodup:=by rw[JB];exact pa.pok.nd
 generalize up (pdL loops) loops.length=ds at *
 have hd1:H1 d=some (.dK []):=s1 _ _ Ac
 have nld:l≠d:=λz=>by rw[z,hd1] at hx;cases hx
 have nt:∀HH:Hp,(∃kvs,HH d=some (.dK kvs))->∀zs,HH d≠some (.tup zs):=λHH ⟨kvs,e⟩ zs z=>by rw[e] at z;cases z
 refine R0 (xs:=xs) (λi σ HH=>∃u2 u3 u4,σ=[some (.ref pl),some (.ref d),u2,u3,u4]/\HH d=some (.dK (Ih (λz:Sd=>Sum.inl z.addr) (ds.take i)))/\Ai d H1 HH) ⟨_,_,_,rfl,hd1,Ai.refl d H1⟩ (λi σ HH _ h=>?_) (λi x σ HH hx' h=>?_) (fun σ HH h=>?_)
 ·obtain⟨u2,u3,u4,rfl,e1,e2⟩:=h
  exact SqL.of (e2 _ _ hx nld)
 ·obtain⟨u2,u3,u4,rfl,e1,e2⟩:=h
  obtain⟨z,hzi,tz,uz,rfl,h1,h2⟩:=Paired.Cm hp hx'
  have sT:=e2.tup (nt H1 ⟨_,hd1⟩)
  have fr:∀y∈ds.take i,(Sum.inl y.addr:Key)≠Sum.inl z.addr:=λy hy e=>Kw nd hzi y hy (Sum.inl.inj e)
  refine⟨tz,_,rfl,SqT.of (sT _ _ h1),rfl,_,_,rfl,_,_,rfl,_,_,rfl,rfl,?_⟩
  refine⟨_,rfl,_,rfl,d,_,rfl,GR.k (k:=Sum.inl z.addr) e1,_,rfl,?_⟩
  rw[Np fr]
  refine Cy ⟨_,rfl,_,rfl,d,_,rfl,Hl.k (k:=Sum.inl z.addr) e1 (Ao (by rw[K9,Qbs];omega)),_,_,_,rfl,?_,e2.trans Ai.upd⟩
  rw[Ac,Nq (f:=λz:Sd=>Sum.inl z.addr) (x:=z) fr,Qcy hzi]
 ·obtain⟨u2,u3,u4,rfl,e1,e2⟩:=h
  exact q _ ((s0.trans s1).Bv e2 hd)
theorem Pz (C:Code K mg "address_stranger" Dn Ed) (T:Ty K mg op oe kd wk) (HN:Good P w K mg base "devices" 2 GF SQ):Good P w K mg base "address_stranger" 3 Ed Ip:=by
 have sc:=CZ
 refine C.good CZ (λvs H Q E h=>?_) (λf cdv A outer s H vs Q E hr h=>?_)
 ·obtain⟨pl,most,loops,zones,rfl,_⟩:=h
  rfl
 obtain⟨pl,most,loops,zones,rfl,pa,q⟩:=h
 refine⟨_,(Ah (lF (i:=1) CZ.nd rfl (Or.inl rfl) (N':=["spot","kind","address"]) rfl (Bm.plain rfl (by trivial) (by trivial) (by trivial)) (DQ (Ay HN hr (Aa (pv 0) Ab))) (λ_ _ _ _=>(Jv (K:=K) (n:=3) rfl rfl (Aq (Ak (i:=0) (show List.Nodup (["spot","kind","address"]:List Str) by trivial) rfl (Or.inl rfl)) (Aq (Ak (i:=1) (show List.Nodup (["spot","kind","address"]:List Str) by trivial) rfl (Or.inl rfl)) (Aq (Ak (i:=2) (show List.Nodup (["spot","kind","address"]:List Str) by trivial) rfl (Or.inl rfl)) BK))))) (λ_ _ _ _=>(MF (Bs (S9 (K:=K) rfl) (pv 1) (Qg rfl T.WARNING_KINDS) (by with_unfolding_all rfl)))) (λ_ _ _ _=>(pv 2)) (λ_ _ _ _=>Fw))
 (Ah (BZ QbE rfl (FW (Bq Cr (pv 0) Ae (λ_ _=>rfl))) (Df rfl (Aq (Ak (i:=2) CZ.nd rfl (Or.inl rfl)) (Aq (Ak (i:=3) CZ.nd rfl (Or.inl rfl)) BK)))
 (Aj (BZ QbE rfl (FW (pv 3)) (Ak (i:=4) CZ.nd rfl (Or.inl rfl))
 (Aj (BW (Qd (Qh (Dh hr) (pv 4) (pv 1))) (Aj (Bc (Bk (Aa Bh (Aa (pv 2) (Aa (pv 4) Ab)))))) BX)))))
 (Aj (Bc JK)))),?_⟩
 refine⟨_,rfl,pl,loops,rfl,pa.plan,pa.ok,λl xs H1 hl hx hp s1=>⟨l,rfl,⟨_,SqL.of hx⟩,λd hd=>?_⟩⟩
 have lx:=QbX hp
 have la:(up (pdL loops) loops.length).length=(Ck loops).length:=by rw[<-JB loops,QbB]
 have c2:=pa.pok.cnt.2
 have nd:((up (pdL loops) loops.length).map (·.addr)).Nodup:=by rw[JB];exact pa.pok.nd
 have hw:∀x∈Et loops,∃z∈(up (pdL loops) loops.length).filter (λz=>En z.kind),z.addr=x:=λx hx=>rB pa.ok hx
 generalize up (pdL loops) loops.length=ds at *
 have nld:l≠d:=Av hx hd
 refine Zc (xs:=xs) (λi σ HH=>∃u2 u3 u4,σ=[u2,u3,u4]/\HH d=some (.dK (Ih (λz:Sd=>Sum.inl z.addr) ((ds.take i).filter λz=>En z.kind)))/\Same H1 HH) ⟨_,_,_,rfl,Ac,Af hd _⟩ (λi σ HH _ h=>?_) (λi x σ HH hx' h=>?_) (fun σ HH h=>?_)
 ·obtain⟨u2,u3,u4,rfl,e1,e2⟩:=h
  exact SqL.of (e2 _ _ hx)
 ·obtain⟨u2,u3,u4,rfl,e1,e2⟩:=h
  obtain⟨z,hzi,tz,uz,rfl,h1,h2⟩:=Paired.Cm hp hx'
  have fr:∀y∈(ds.take i).filter (λz=>En z.kind),(Sum.inl y.addr:Key)≠Sum.inl z.addr:=λy hy e=>Kw nd hzi y (QbK.mp hy).1 (Sum.inl.inj e)
  have et:(ds.take (i+1)).filter (λz=>En z.kind)=(ds.take i).filter (λz=>En z.kind)++[z].filter (λz=>En z.kind):=by rw[Qcy hzi,List.filter_append]
  refine⟨tz,_,rfl,SqT.of (e2 _ _ h1),rfl,_,_,rfl,_,_,rfl,_,_,rfl,rfl,?_⟩
  refine⟨_,rfl,wk,_,rfl,.inr (T.wkT HH),rfl,rfl,_,rfl,?_⟩
  rw[if_neg QaS]
  refine KP (λhc=>?_) (λhc=>?_)
  ·refine⟨_,rfl,_,Sum.inl z.addr,e1,rfl,Ao ?_,_,_,_,rfl,?_,e2.Bv Ai.upd hd⟩
   ·rw[K9]
    have:=List.length_filter_le (λz:Sd=>En z.kind) (ds.take i)
    rw[Qbs] at this
    omega
   ·rw[Ac,Nq (f:=λz:Sd=>Sum.inl z.addr) (x:=z) fr,et,show [z].filter (λz=>En z.kind)=[z] from List.filter_cons_of_pos (p:=λz:Sd=>En z.kind) hc]
  ·refine⟨_,_,_,rfl,?_,e2⟩
   rw[et,show [z].filter (λz=>En z.kind)=[] from Qau (p:=λz:Sd=>En z.kind) (by show ¬En z.kind=true;rw[show En z.kind=false from hc];decide),QbF]
   exact e1
 obtain⟨u2,u3,u4,rfl,e1,e2⟩:=h
 rw[lx,Qbt] at e1
 have s2:=s1.trans e2
 obtain⟨Ls,zs,ws,zvs,f1,f2,f3,f4,f5⟩:=pa.at_
 refine⟨_,rfl,pl,_,_,_,rfl,rfl,SqT.of (s2 _ _ f1),rfl,zs,rfl,⟨_,SqT.of (s2 _ _ f4)⟩,?_⟩
 refine Mh (xs:=zvs) (λi σ HX=>∃u2 u3 u4,σ=[some (.ref pl),some (.ref d),u2,u3,u4]/\HX=HH) ⟨_,_,_,rfl,rfl⟩ (λi σ HX _ h=>?_) (λi x σ HX hx' h=>?_) (fun σ HX h=>?_)
 ·obtain⟨u2,u3,u4,rfl,rfl⟩:=h
  exact SqT.of (s2 _ _ f4)
 ·obtain⟨u2,u3,u4,rfl,rfl⟩:=h
  obtain⟨z,hzi,tz,uz,rfl,h1,h2⟩:=Paired.Cm f5 hx'
  refine⟨tz,_,rfl,SqT.of (s2 _ _ h1),rfl,_,_,rfl,_,_,rfl,rfl,?_⟩
  refine⟨_,rfl,uz,rfl,⟨_,SqT.of (s2 _ _ h2)⟩,?_⟩
  refine Mh (xs:=z.adr.map V.int) (λi σ HY=>∃u4,σ=[some (.ref pl),some (.ref d),some (.str z.name),some (.ref uz),u4]/\HY=HX) ⟨_,rfl,rfl⟩ (λi σ HY _ h=>?_) (λi x σ HY hx2 h=>?_) (fun σ HY h=>?_)
  ·obtain⟨u4,rfl,rfl⟩:=h
   exact SqT.of (s2 _ _ h2)
  ·obtain⟨u4,rfl,rfl⟩:=h
   rw[Qbi] at hx2
   obtain⟨n1,hn1,rfl⟩:=Qaw.mp hx2
   obtain⟨y,hy,ey⟩:=hw n1 (pa.pok.zin z (QaD hzi) n1 (QaD hn1))
   have hs:(Eu (Ih (λz:Sd=>Sum.inl z.addr) (ds.filter λz=>En z.kind)) (Sum.inl n1)).isSome=true:=by
    rw[<-JZ,List.any_eq_true]
    exact⟨_,Qci.mpr ⟨y,hy,rfl⟩,QbS (by show (Sum.inl y.addr:Key)=_;rw[ey])⟩
   refine⟨_,rfl,_,rfl,d,_,rfl,GR.k (k:=Sum.inl n1) e1,_,rfl,?_⟩
   rw[hs]
   exact Cy ⟨_,rfl,rfl⟩
  ·obtain⟨u4,rfl,rfl⟩:=h
   exact⟨_,_,_,rfl,rfl⟩
 ·obtain⟨u2,u3,u4,rfl,rfl⟩:=h
  exact q _ s2
theorem Rh (C:Code K mg "address_shared" DN Fo) (T:Ty K mg op oe kd wk):Good P w K mg base "address_shared" 1 Fo Ip:=by
 have sc:=Ds
 refine C.good Ds (λvs H Q E h=>?_) (λf cdv A outer s H vs Q E hr h=>?_)
 ·obtain⟨pl,most,loops,zones,rfl,_⟩:=h
  rfl
 obtain⟨pl,most,loops,zones,rfl,pa,q⟩:=h
 refine⟨_,(Ah (Bd (i:=1) Ds.nd rfl (Or.inl rfl) Xk)
 (Ah (BZ QbE rfl (FW (Bq Cr (pv 0) Ae (λ_ _=>rfl))) (Df rfl (Aq (Ak (i:=2) Ds.nd rfl (Or.inl rfl)) (Aq (Ak (i:=3) Ds.nd rfl (Or.inl rfl)) BK)))
 (Aj (BZ QbE rfl (FW (pv 3)) (Ak (i:=4) Ds.nd rfl (Or.inl rfl))
 (Ah (BW (Qd (gD (Dh hr) (pv 4) (pv 1))) (Aj (Bc (Bk (Aa Bh (Aa (pv 2) (Aa (pv 4) Ab)))))) BX)
 (Aj (Fg (Dh hr) (pv 1) (pv 4) Fw rfl))))))
 (Aj (Bc JK)))),?_⟩
 refine λd hd=>?_
 have s0:=Af hd (.dK [])
 obtain⟨Ls,zs,ws,zvs,f1,f2,f3,f4,f5⟩:=pa.at_
 have nd:=pa.pok.znd
 have zl:=QbX f5
 have c8:=pa.pok.uQ
 have LH:∀i,((zones.take i).flatMap (·.adr)).length<=30*(zones.take i).length:=λi=>pL λz hz=>(pa.pok.zup z (QaH hz)).2.2
 refine⟨_,rfl,pl,_,_,_,rfl,rfl,SqT.of (s0 _ _ f1),rfl,zs,rfl,⟨_,SqT.of (s0 _ _ f4)⟩,?_⟩
 refine Mh (xs:=zvs) (λi σ HX=>∃u2 u3 u4,σ=[some (.ref pl),some (.ref d),u2,u3,u4]/\HX d=some (.dK (Ih Sum.inl ((zones.take i).flatMap (·.adr))))/\Same H HX) ⟨_,_,_,rfl,Ac,s0⟩ (λi σ HX _ h=>?_) (λi x σ HX hx' h=>?_) (fun σ HX h=>?_)
 ·obtain⟨u2,u3,u4,rfl,e1,e2⟩:=h
  exact SqT.of (e2 _ _ f4)
 ·obtain⟨u2,u3,u4,rfl,e1,e2⟩:=h
  obtain⟨z,hzi,tz,uz,rfl,h1,h2⟩:=Paired.Cm f5 hx'
  have hm:=QaD hzi
  refine⟨tz,_,rfl,SqT.of (e2 _ _ h1),rfl,_,_,rfl,_,_,rfl,rfl,?_⟩
  refine⟨_,rfl,uz,rfl,⟨_,SqT.of (e2 _ _ h2)⟩,?_⟩
  have Sj:=(pa.pok.zup z hm).2.2
  have hlen:(z.adr.map V.int).length=z.adr.length:=QbB ..
  have hsp:(zones.take (i+1)).flatMap (·.adr)=(zones.take i).flatMap (·.adr)++z.adr:=by rw[Qcy hzi,QaL];simp
  have ndz:((zones.take i).flatMap (·.adr)++z.adr).Nodup:=by
   rw[<-hsp]
   exact (pK (List.take_sublist (i+1) zones)).nodup nd
  have hc:=LH i
  have hti:(zones.take i).length<=8:=by rw[Qbs];omega
  refine Mh (xs:=z.adr.map V.int) (λj σ HY=>∃u4,σ=[some (.ref pl),some (.ref d),some (.str z.name),some (.ref uz),u4]/\HY d=some (.dK (Ih Sum.inl ((zones.take i).flatMap (·.adr)++z.adr.take j)))/\Same H HY) ⟨_,rfl,by rw[List.take_zero,QbF];exact e1,e2⟩ (λj σ HY _ h=>?_) (λj x σ HY hx2 h=>?_) (fun σ HY h=>?_)
  ·obtain⟨u4,rfl,_,e⟩:=h
   exact SqT.of (e _ _ h2)
  ·obtain⟨u4,rfl,g1,g2⟩:=h
   rw[Qbi] at hx2
   obtain⟨n1,hn1,rfl⟩:=Qaw.mp hx2
   have fr:∀y∈(zones.take i).flatMap (·.adr)++z.adr.take j,(Sum.inl y:Key)≠Sum.inl n1:=λy hy e=>by
    have e:=Sum.inl.inj e
    subst e
    obtain⟨_,n2,n3⟩:=List.nodup_append.mp ndz
    rcases QbD.mp hy with h | h
    ·exact n3 y h y (QaD hn1) rfl
    ·exact Ur n2 hn1 y h rfl
   refine⟨_,rfl,_,rfl,d,_,rfl,GR.k (k:=Sum.inl n1) g1,_,rfl,?_⟩
   rw[Np fr]
   refine Cy ⟨_,rfl,_,rfl,d,_,rfl,Hl.k (k:=Sum.inl n1) g1 (Ao ?_),_,rfl,?_,g2.Bv Ai.upd hd⟩
   ·rw[K9,QaQ,Qbs]
    omega
   ·rw[Ac,Nq (f:=Sum.inl) (x:=n1) fr,Qcy hn1,Qbh]
  ·obtain⟨u4,rfl,g1,g2⟩:=h
   rw[hlen,Qbt,<-hsp] at g1
   exact⟨_,_,_,rfl,g1,g2⟩
 ·obtain⟨u2,u3,u4,rfl,e1,e2⟩:=h
  exact q _ e2
theorem Td (C:Code K mg "part_crowded" Fe Gv) (T:Ty K mg op oe kd wk) (ux:Good P w K mg base "parts" 2 Od ZJ):Good P w K mg base "part_crowded" 3 Gv Ip:=by
 have sc:=FP
 refine C.good FP (λvs H Q E h=>?_) (λf cdv A outer s H vs Q E hr h=>?_)
 ·obtain⟨pl,most,loops,zones,rfl,_⟩:=h
  rfl
 obtain⟨pl,most,loops,zones,rfl,pa,q⟩:=h
 refine⟨_,(Ah (BZ QbE rfl (Cv rfl T.range (Aa (Aw Bu rfl T.len Dg (Aa (Bq Cr (pv 0) Ae (λ_ _=>rfl)) Ab)) Ab)) (Ak (i:=1) FP.nd rfl (Or.inl rfl))
 (Aj (BZ QbE rfl (gA rfl T.enumerate (Ay ux hr (Aa (pv 0) (Aa (pv 1) Ab)))) (Df rfl (Aq (Ak (i:=2) FP.nd rfl (Or.inl rfl)) (Aq (Ak (i:=3) FP.nd rfl (Or.inl rfl)) BK)))
 (Aj (BW (Bs V8 (Aw Bu rfl T.len Dg (Aa (pv 3) Ab)) (Bq Cr (pv 0) Ae (λ_ _=>rfl)) (BP _)) (Aj (Bc (Bk (Aa Bh (Aa (pv 1) (Aa (pv 2) Ab)))))) BX)))))
 (Aj (Bc JK))),?_⟩
 obtain⟨Ls,zs,ws,zvs,f1,f2,f3,f4,f5⟩:=pa.at_
 have lw:=QbX f3
 have l3:=pa.ok.hi
 refine⟨_,rfl,pl,_,_,_,rfl,rfl,SqT.of f1,rfl,Ls,_,rfl,.inr (SqT.of f2),_,rfl,by omega,by omega,?_⟩
 rw[Qbk]
 refine Du (λi σ HX=>∃u1 u2 u3,σ=[some (.ref pl),u1,u2,u3]/\Same H HX) ⟨_,_,_,rfl,Same.refl H⟩ (λi σ HX hi h=>?_) (fun σ HX h=>?_)
 ·obtain⟨u1,u2,u3,rfl,e1⟩:=h
  have hwi:ws[i]?=some ws[i]:=Qan hi
  obtain⟨ps,hpi,t,vs',ev,ht,hps⟩:=Paired.Cm f3 hwi
  have hm:=QaD hpi
  have okl:=pa.ok.ok ps hm
  refine⟨_,rfl,_,rfl,pl,Ls,t,_,_,ws,vs',i,ps,?_,e1 _ _ f1,e1 _ _ f2,by rw[hwi,ev],e1 _ _ ht,Paired.Bb hps λ_ _ z=>z.tups (Am.of e1),okl.ok,okl.hi,λl xs H1 hl hx hp hfr s1=>⟨l,rfl,⟨_,SqL.of hx⟩,?_⟩⟩
  ·show [V.ref pl,.int (0+(i:Int))]++[]=_
   rw[Qco]
   rfl
  refine jj (xs:=xs) (lo:=0) (λj σ HY=>∃u2 u3,σ=[some (.ref pl),some (.int (0+(i:Int))),u2,u3]/\Same H1 HY) ⟨_,_,rfl,Same.refl H1⟩ (λj σ HY _ h=>?_) (λj x p σ HY hx' h hp'=>?_) (fun σ HY h=>?_)
  ·obtain⟨u2,u3,rfl,g1⟩:=h
   exact SqL.of (g1 _ _ hx)
  ·obtain⟨u2,u3,rfl,g1⟩:=h
   obtain⟨sps,hsi,qq,ys,rfl,hq1,hq2⟩:=Paired.Cm hp hx'
   have ly:=QbX hq2
   have s2:=Af hp' (.tup [.int ((0+j:Nat):Int),.ref qq])
   have g2:=g1.trans s2
   have hfew:(sps.length:Int)<=most:=pa.pok.few ps hm _ (lU (lp:=i) sps (QaD hsi))
   refine⟨p,_,rfl,SqT.of Ac,rfl,_,_,rfl,_,_,rfl,rfl,?_⟩
   refine⟨_,rfl,qq,_,rfl,.inl (SqL.of (g2 _ _ hq1)),_,rfl,pl,_,_,_,rfl,rfl,SqT.of (g2 _ _ (s1 _ _ (e1 _ _ f1))),rfl,_,_,rfl,rfl,_,rfl,?_⟩
   have hg:decide ((ys.length:Int) > most)=false:=QbG (by omega)
   rw[show decide (most < (ys.length:Int))=false from hg]
   exact Cy ⟨_,_,rfl,g2⟩
  ·obtain⟨u2,u3,rfl,g1⟩:=h
   exact⟨_,_,_,rfl,e1.trans (s1.trans g1)⟩
 ·obtain⟨u1,u2,u3,rfl,e1⟩:=h
  exact q _ e1
theorem lY (C:Code K mg "wrong" LK Oc) (T:Ty K mg op oe kd wk) (Tv:Good P w K mg base "address_twice" 3 Ga Ip) (Uz:Good P w K mg base "part_crowded" 3 Gv Ip) (Qo:Good P w K mg base "address_stranger" 3 Ed Ip) (RZ:Good P w K mg base "address_shared" 1 Fo Ip):Good P w K mg base "wrong" 4 Oc Ip:=by
 refine C.good kJ (λvs H Q E h=>?_) (λf cdv A outer s H vs Q E hr h=>?_)
 ·obtain⟨pl,most,loops,zones,rfl,_⟩:=h
  rfl
 obtain⟨pl,most,loops,zones,rfl,pa,q⟩:=h
 refine⟨_,(Aj (Bc (Xj (Ay Tv hr (Aa (pv 0) Ab)) (Xj (Ay Uz hr (Aa (pv 0) Ab)) (Xj (Ay Qo hr (Aa (pv 0) Ab)) (Ep (Ay RZ hr (Aa (pv 0) Ab)))))))),?_⟩
 exact⟨_,rfl,pl,most,loops,zones,rfl,pa,λH1 s1=>⟨rfl,_,rfl,pl,most,loops,zones,rfl,pa.same s1,λH2 s2=>⟨rfl,_,rfl,pl,most,loops,zones,rfl,(pa.same s1).same s2,λH3 s3=>⟨rfl,_,rfl,pl,most,loops,zones,rfl,((pa.same s1).same s2).same s3,λH4 s4=>q _ (s1.trans (s2.trans (s3.trans s4)))⟩⟩⟩⟩
theorem Xr (C:Code K mg "is_let_by" G7 Iz) (T:Ty K mg op oe kd wk) (jf:Good P w K mg base "is_plan" 9 K4 QH) (uw:Good P w K mg base "wrong" 4 Oc Ip):Good P w K mg base "is_let_by" 10 Iz QH:=by
 refine C.good WR (λvs H Q E h=>?_) (λf cdv A outer s H vs Q E hr h=>?_)
 ·obtain⟨pl,most,loops,zones,rfl,_⟩:=h
  rfl
 obtain⟨pl,most,loops,zones,rfl,pa,q⟩:=h
 refine⟨_,(Aj (Bc (Es (Ay jf hr (Aa (pv 0) Ab)) (Ep (Kg wj (Ay uw hr (Aa (pv 0) Ab)) JK (BP _)))))),?_⟩
 exact⟨_,rfl,pl,most,loops,zones,rfl,pa,λH1 s1=>⟨_,rfl,Ce ⟨_,rfl,pl,most,loops,zones,rfl,pa.same s1,λH2 s2=>⟨rfl,q _ (s1.trans s2)⟩⟩⟩⟩
end
abbrev Kc:Stmt:=top 59
abbrev MP:List Str:=["_law_e"]
theorem KJ:Ba ["_law_e","_law_kinds","_law_names_here"] MP (Ag Kc):=⟨rfl,rfl,rfl,by trivial,rfl,by trivial,by trivial⟩
structure Er (K:PySem.W.Frag) (mg:Str->Option Value) (hc c0 c1 c2 c3 c4 c5 c6 c7 c8 c9 c10 c11 c12:Addr):Prop where
 ve:mg "ValueError"=none
 Rr:mg "HouseError"=some (.ref hc)
 Rk:XCl K hc
 tW:mg "NoPlan"=some (.ref c0)
 tV:mg "NoText"=some (.ref c1)
 Tf:mg "NoStretch"=some (.ref c2)
 Z6:mg "NoSpot"=some (.ref c3)
 ig:mg "NoOpener"=some (.ref c4)
 cu:mg "NoAddress"=some (.ref c5)
 mU:mg "NoRules"=some (.ref c6)
 tY:mg "NoHand"=some (.ref c7)
 mV:mg "NoPanel"=some (.ref c8)
 tX:mg "NoLink"=some (.ref c9)
 wK:mg "NoLog"=some (.ref c10)
 tZ:mg "NoDeed"=some (.ref c11)
 wJ:mg "NoRow"=some (.ref c12)
structure Knd (K:PySem.W.Frag) (hc C:Addr) (cs:List Addr) (j:Nat):Prop where
 xc:XCl K C
 sub:subIn K (.ref C) (.ref hc)=some true
 kit:∀i d,cs[i]?=some d->kitOne K (.ref C) (.ref d)=some (decide (i=j))
 kv:kitOne K (.ref C) (.type "ValueError")=some true
def qN (j:Nat):Str:=(["plan","text","stretch","spot","opener","address","rules","hand","panel","link","log","deed","row"]:List Str).getD j ""
def bsl (j:Nat):List Bool:=[decide (0=j),decide (1=j),decide (2=j),decide (3=j),decide (4=j),decide (5=j),decide (6=j),decide (7=j),decide (8=j),decide (9=j),decide (10=j),decide (11=j),decide (12=j)]
theorem jL:∀j,j < 13->(bsl j).countP id=1:=by decide
theorem zV:∀j,j < 13->(bsl j)[j]?=some true:=by decide
theorem zU:∀j,j < 13->∀m,m < j->(bsl j)[m]?=some false:=by decide
theorem wordAt:∀j,j < 13->([.str "plan",.str "text",.str "stretch",.str "spot",.str "opener",.str "address",.str "rules",.str "hand",.str "panel",.str "link",.str "log",.str "deed",.str "row"]:List V)[j]?=some (.str (qN j))
 | 0,_=>rfl
 | 1,_=>rfl
 | 2,_=>rfl
 | 3,_=>rfl
 | 4,_=>rfl
 | 5,_=>rfl
 | 6,_=>rfl
 | 7,_=>rfl
 | 8,_=>rfl
 | 9,_=>rfl
 | 10,_=>rfl
 | 11,_=>rfl
 | 12,_=>rfl
 | n+13,h=>absurd h (by omega)
def fL (K:PySem.W.Frag) (hc:Addr) (cs:List Addr):Sp:=λvs H Q _=>∃(e C:Addr) (j:Nat),vs=[.ref e]/\H e=some (xo e C)/\Knd K hc C cs j/\j < 13/\∀H',Same H H'->Q (.str (qN j)) H'
section
variable {P:Program} {w:World} {K:PySem.W.Frag} {mg:Str->Option Value} {base:Heap} {hc c0 c1 c2 c3 c4 c5 c6 c7 c8 c9 c10 c11 c12:Addr}
theorem tD (C:Code K mg "_law_kind" Kc MP) (T:Nm mg) (XE:Er K mg hc c0 c1 c2 c3 c4 c5 c6 c7 c8 c9 c10 c11 c12):Wb P w K mg base "_law_kind" 1 MP (fL K hc [c0,c1,c2,c3,c4,c5,c6,c7,c8,c9,c10,c11,c12]):=by
 refine C.A9 KJ (λvs H Q E h=>?_) (λf cdv A outer s H vs Q hr h=>?_)
 ·obtain⟨e,C,j,rfl,_⟩:=h
  rfl
 obtain⟨e,C,j,rfl,he,k,hj,q⟩:=h
 refine⟨_,(@Ah _ _ _ _ _ (@Bd _ _ 1 _ _ _ _ KJ.nd rfl (Or.inl rfl) (BR (Aa (Aw DX rfl T.isinstance Bo (Aa (pv 0) (Aa (Ei (v:=.ref _) rfl XE.tW rfl) Ab))) (Aa (Aw DX rfl T.isinstance Bo (Aa (pv 0) (Aa (Ei (v:=.ref _) rfl XE.tV rfl) Ab))) (Aa (Aw DX rfl T.isinstance Bo (Aa (pv 0) (Aa (Ei (v:=.ref _) rfl XE.Tf rfl) Ab))) (Aa (Aw DX rfl T.isinstance Bo (Aa (pv 0) (Aa (Ei (v:=.ref _) rfl XE.Z6 rfl) Ab))) Ab))))) (by rfl) (by first | exact .inl rfl | exact .inr rfl))
 (@Ah _ _ _ _ _ (@Bd _ _ 1 _ _ _ _ KJ.nd rfl (Or.inl rfl) (@Bg _ _ _ _ _ _ _ _ Xn (pv 1) (BR (Aa (Aw DX rfl T.isinstance Bo (Aa (pv 0) (Aa (Ei (v:=.ref _) rfl XE.ig rfl) Ab))) (Aa (Aw DX rfl T.isinstance Bo (Aa (pv 0) (Aa (Ei (v:=.ref _) rfl XE.cu rfl) Ab))) (Aa (Aw DX rfl T.isinstance Bo (Aa (pv 0) (Aa (Ei (v:=.ref _) rfl XE.mU rfl) Ab))) (Aa (Aw DX rfl T.isinstance Bo (Aa (pv 0) (Aa (Ei (v:=.ref _) rfl XE.tY rfl) Ab))) Ab)))))) (by rfl) (by first | exact .inl rfl | exact .inr rfl))
 (@Ah _ _ _ _ _ (@Bd _ _ 1 _ _ _ _ KJ.nd rfl (Or.inl rfl) (@Bg _ _ _ _ _ _ _ _ Xn (pv 1) (BR (Aa (Aw DX rfl T.isinstance Bo (Aa (pv 0) (Aa (Ei (v:=.ref _) rfl XE.mV rfl) Ab))) (Aa (Aw DX rfl T.isinstance Bo (Aa (pv 0) (Aa (Ei (v:=.ref _) rfl XE.tX rfl) Ab))) (Aa (Aw DX rfl T.isinstance Bo (Aa (pv 0) (Aa (Ei (v:=.ref _) rfl XE.wK rfl) Ab))) (Aa (Aw DX rfl T.isinstance Bo (Aa (pv 0) (Aa (Ei (v:=.ref _) rfl XE.tZ rfl) Ab))) Ab)))))) (by rfl) (by first | exact .inl rfl | exact .inr rfl))
 (@Ah _ _ _ _ _ (Bj (CQ Qaq Qal Qam Cg (pv 1) (Aa (Aw DX rfl T.isinstance Bo (Aa (pv 0) (Aa (Ei (v:=.ref _) rfl XE.wJ rfl) Ab))) Ab)))
 (@Ah _ _ _ _ _ (@Bd _ _ 2 _ _ _ _ KJ.nd rfl (Or.inl rfl) (@BR _ _ _ _ (@Aa _ _ _ _ _ (@Bh _ _ _ _) (@Aa _ _ _ _ _ (@Bh _ _ _ _) (@Aa _ _ _ _ _ (@Bh _ _ _ _) (@Aa _ _ _ _ _ (@Bh _ _ _ _) (@Aa _ _ _ _ _ (@Bh _ _ _ _) (@Aa _ _ _ _ _ (@Bh _ _ _ _) (@Aa _ _ _ _ _ (@Bh _ _ _ _) (@Aa _ _ _ _ _ (@Bh _ _ _ _) (@Aa _ _ _ _ _ (@Bh _ _ _ _) (@Aa _ _ _ _ _ (@Bh _ _ _ _) (@Aa _ _ _ _ _ (@Bh _ _ _ _) (@Aa _ _ _ _ _ (@Bh _ _ _ _) (@Ab _) Bf) Bf) Bf) Bf) Bf) Bf) Bf) Bf) Bf) Bf) Bf) Bf)) (by rfl) (by first | exact .inl rfl | exact .inr rfl))
 (@Ah _ _ _ _ _ (Bj (CQ Qaq Qal Qam Cg (pv 2) (Aa Bh Ab)))
 (@Ah _ _ _ _ _ (BW (PW.pt (Ov (FT (FQ (Aw jE rfl T.isinstance Bo (Aa (pv 0) (Aa (Oa (v:=.ty "ValueError") rfl XE.ve PyProof.Rows.Boot.«ValueError» rfl) Ab))))) (N8 (Bs qK (CQ Qaq PySem.F.slot_list_count PySem.F.type_list_count iw (pv 1) (Aa Fw Ab)) Ae (BP _))))) (@Aj _ _ _ (Bc Bh)) BX)
 (@Aj _ _ _ (Bc (Bq CG (pv 2) (CQ Qaq PySem.F.slot_list_index PySem.F.type_list_index iu (pv 1) (Aa Fw Ab)) (λ_ _=>rfl))))))))))),?_⟩
 refine⟨_,rfl,Gx he k.xc (k.kit 0 _ rfl) ⟨_,rfl,Gx he k.xc (k.kit 1 _ rfl) ⟨_,rfl,Gx he k.xc (k.kit 2 _ rfl) ⟨_,rfl,Gx he k.xc (k.kit 3 _ rfl) ⟨Ar (by show 4<=1000;decide),λl1 hl1=>?_⟩⟩⟩⟩⟩
 have s1:=Af hl1 (.lst [V.bl (decide (0=j)),.bl (decide (1=j)),.bl (decide (2=j)),.bl (decide (3=j))])
 have e1:upd H l1 (.lst [V.bl (decide (0=j)),.bl (decide (1=j)),.bl (decide (2=j)),.bl (decide (3=j))]) l1=some (.lst [V.bl (decide (0=j)),.bl (decide (1=j)),.bl (decide (2=j)),.bl (decide (3=j))]):=Ac
 generalize upd H l1 (.lst [V.bl (decide (0=j)),.bl (decide (1=j)),.bl (decide (2=j)),.bl (decide (3=j))])=H1 at s1 e1 ⊢
 have he1:=s1 _ _ he
 refine⟨_,rfl,⟨_,rfl,Gx he1 k.xc (k.kit 4 _ rfl) ⟨_,rfl,Gx he1 k.xc (k.kit 5 _ rfl) ⟨_,rfl,Gx he1 k.xc (k.kit 6 _ rfl) ⟨_,rfl,Gx he1 k.xc (k.kit 7 _ rfl) ⟨Ar (by show 4<=1000;decide),λla hla=>⟨l1,la,_,_,rfl,rfl,Af hla _ _ _ e1,Ac,Ar (by show 8<=1000;decide),λlb hlb=>?_⟩⟩⟩⟩⟩⟩⟩
 have sa:=Af hla (.lst [V.bl (decide (4=j)),.bl (decide (5=j)),.bl (decide (6=j)),.bl (decide (7=j))])
 have sb:=Af hlb (.lst ([V.bl (decide (0=j)),.bl (decide (1=j)),.bl (decide (2=j)),.bl (decide (3=j))]++[V.bl (decide (4=j)),.bl (decide (5=j)),.bl (decide (6=j)),.bl (decide (7=j))]))
 have e2:upd (upd H1 la (.lst [V.bl (decide (4=j)),.bl (decide (5=j)),.bl (decide (6=j)),.bl (decide (7=j))])) lb (.lst ([V.bl (decide (0=j)),.bl (decide (1=j)),.bl (decide (2=j)),.bl (decide (3=j))]++[V.bl (decide (4=j)),.bl (decide (5=j)),.bl (decide (6=j)),.bl (decide (7=j))])) lb=some (.lst ([V.bl (decide (0=j)),.bl (decide (1=j)),.bl (decide (2=j)),.bl (decide (3=j))]++[V.bl (decide (4=j)),.bl (decide (5=j)),.bl (decide (6=j)),.bl (decide (7=j))])):=Ac
 have s2:=s1.trans (sa.trans sb)
 generalize upd (upd H1 la (.lst [V.bl (decide (4=j)),.bl (decide (5=j)),.bl (decide (6=j)),.bl (decide (7=j))])) lb (.lst ([V.bl (decide (0=j)),.bl (decide (1=j)),.bl (decide (2=j)),.bl (decide (3=j))]++[V.bl (decide (4=j)),.bl (decide (5=j)),.bl (decide (6=j)),.bl (decide (7=j))]))=H2 at sb e2 s2 ⊢
 have he2:=s2 _ _ he
 refine⟨_,rfl,⟨_,rfl,Gx he2 k.xc (k.kit 8 _ rfl) ⟨_,rfl,Gx he2 k.xc (k.kit 9 _ rfl) ⟨_,rfl,Gx he2 k.xc (k.kit 10 _ rfl) ⟨_,rfl,Gx he2 k.xc (k.kit 11 _ rfl) ⟨Ar (by show 4<=1000;decide),λlc hlc=>⟨lb,lc,_,_,rfl,rfl,Af hlc _ _ _ e2,Ac,Ar (by show 12<=1000;decide),λld hld=>?_⟩⟩⟩⟩⟩⟩⟩
 have sc:=Af hlc (.lst [V.bl (decide (8=j)),.bl (decide (9=j)),.bl (decide (10=j)),.bl (decide (11=j))])
 have sd:=Af hld (.lst ([V.bl (decide (0=j)),.bl (decide (1=j)),.bl (decide (2=j)),.bl (decide (3=j))]++[V.bl (decide (4=j)),.bl (decide (5=j)),.bl (decide (6=j)),.bl (decide (7=j))]++[V.bl (decide (8=j)),.bl (decide (9=j)),.bl (decide (10=j)),.bl (decide (11=j))]))
 have e3:upd (upd H2 lc (.lst [V.bl (decide (8=j)),.bl (decide (9=j)),.bl (decide (10=j)),.bl (decide (11=j))])) ld (.lst ([V.bl (decide (0=j)),.bl (decide (1=j)),.bl (decide (2=j)),.bl (decide (3=j))]++[V.bl (decide (4=j)),.bl (decide (5=j)),.bl (decide (6=j)),.bl (decide (7=j))]++[V.bl (decide (8=j)),.bl (decide (9=j)),.bl (decide (10=j)),.bl (decide (11=j))])) ld=some (.lst ([V.bl (decide (0=j)),.bl (decide (1=j)),.bl (decide (2=j)),.bl (decide (3=j))]++[V.bl (decide (4=j)),.bl (decide (5=j)),.bl (decide (6=j)),.bl (decide (7=j))]++[V.bl (decide (8=j)),.bl (decide (9=j)),.bl (decide (10=j)),.bl (decide (11=j))])):=Ac
 have s3:=s2.trans (sc.trans sd)
 have fd:H ld=none:=s2.free (sc.free hld)
 generalize upd (upd H2 lc (.lst [V.bl (decide (8=j)),.bl (decide (9=j)),.bl (decide (10=j)),.bl (decide (11=j))])) ld (.lst ([V.bl (decide (0=j)),.bl (decide (1=j)),.bl (decide (2=j)),.bl (decide (3=j))]++[V.bl (decide (4=j)),.bl (decide (5=j)),.bl (decide (6=j)),.bl (decide (7=j))]++[V.bl (decide (8=j)),.bl (decide (9=j)),.bl (decide (10=j)),.bl (decide (11=j))]))=H3 at sd e3 s3 ⊢
 have he3:=s3 _ _ he
 refine⟨_,rfl,.inl ⟨rfl,_,SqL.of e3⟩,_,rfl,Gx he3 k.xc (k.kit 12 _ rfl) ⟨ld,_,_,rfl,rfl,e3,Ao (by show 12<=1000;decide),?_⟩⟩
 have e4:upd H3 ld (.lst ([V.bl (decide (0=j)),.bl (decide (1=j)),.bl (decide (2=j)),.bl (decide (3=j))]++[V.bl (decide (4=j)),.bl (decide (5=j)),.bl (decide (6=j)),.bl (decide (7=j))]++[V.bl (decide (8=j)),.bl (decide (9=j)),.bl (decide (10=j)),.bl (decide (11=j))]++[.bl (decide (12=j))])) ld=some (.lst ((bsl j).map V.bl)):=Ac
 have s4:Same H (upd H3 ld (.lst ([V.bl (decide (0=j)),.bl (decide (1=j)),.bl (decide (2=j)),.bl (decide (3=j))]++[V.bl (decide (4=j)),.bl (decide (5=j)),.bl (decide (6=j)),.bl (decide (7=j))]++[V.bl (decide (8=j)),.bl (decide (9=j)),.bl (decide (10=j)),.bl (decide (11=j))]++[.bl (decide (12=j))]))):=s3.Bv Ai.upd fd
 generalize upd H3 ld (.lst ([V.bl (decide (0=j)),.bl (decide (1=j)),.bl (decide (2=j)),.bl (decide (3=j))]++[V.bl (decide (4=j)),.bl (decide (5=j)),.bl (decide (6=j)),.bl (decide (7=j))]++[V.bl (decide (8=j)),.bl (decide (9=j)),.bl (decide (10=j)),.bl (decide (11=j))]++[.bl (decide (12=j))]))=H4 at e4 s4 ⊢
 have he4:=s4 _ _ he
 refine⟨Ar (by show 12<=1000;decide),λln hln=>?_⟩
 have nd:ld≠ln:=Av e4 hln
 have fn:H ln=none:=s4.free hln
 have s5:=s4.trans (Af hln (.lst [V.str "plan",.str "text",.str "stretch",.str "spot",.str "opener",.str "address",.str "rules",.str "hand",.str "panel",.str "link",.str "log",.str "deed"]))
 have e5:=Af hln (.lst [V.str "plan",.str "text",.str "stretch",.str "spot",.str "opener",.str "address",.str "rules",.str "hand",.str "panel",.str "link",.str "log",.str "deed"]) _ _ e4
 refine⟨_,rfl,.inl ⟨rfl,_,SqL.of Ac⟩,ln,_,_,rfl,rfl,Ac,Ao (by show 12<=1000;decide),?_⟩
 generalize upd H4 ln (.lst [V.str "plan",.str "text",.str "stretch",.str "spot",.str "opener",.str "address",.str "rules",.str "hand",.str "panel",.str "link",.str "log",.str "deed"])=H5 at s5 e5 ⊢
 have e6:∀o,upd H5 ln o ld=some (.lst ((bsl j).map V.bl)):=λo=>by rw[Al nd];exact e5
 have s6:∀o,Same H (upd H5 ln o):=λo=>s5.Bv Ai.upd fn
 refine⟨_,rfl,uh (s6 _ _ _ he) k.xc k.kv ⟨_,rfl,Cy ?_⟩⟩
 refine⟨_,rfl,.inl ⟨rfl,_,SqL.of (e6 _)⟩,jy (e6 _) ⟨rfl,_,rfl,?_⟩⟩
 rw[jL j hj]
 refine A4 rfl ?_
 refine⟨_,rfl,_,rfl,.inl ⟨rfl,_,SqL.of (e6 _)⟩,iM (e6 _) (by omega) (zV j hj) (zU j hj) ⟨ln,_,_,_,rfl,rfl,SqL.of Ac,Gz (wordAt j hj),q _ (s6 _)⟩⟩
end
instance:DecidableEq Sp3:=λa b=>if h:a.lp=b.lp/\a.at_=b.at_/\a.n=b.n then isTrue (by cases a;cases b;simp at h;obtain⟨h1,h2,h3⟩:=h;subst h1 h2 h3;rfl) else isFalse λe=>h (by rw[e];exact⟨rfl,rfl,rfl⟩)
def cd3 (s:Sp3):Int:=s.lp*10000+s.at_*100+s.n
structure Bd3 (s:Sp3):Prop where
 l0:0<=s.lp
 l1:s.lp<=2
 a0:0<=s.at_
 a1:s.at_<=12
 n0:0<=s.n
 n1:s.n<=3
theorem Bd3.inj {s t:Sp3} (h:Bd3 s) (k:Bd3 t) (e:cd3 s=cd3 t):s=t:=by
 unfold cd3 at e
 have h1:=h.l0;have h2:=h.l1;have h3:=h.a0;have h4:=h.a1;have h5:=h.n0;have h6:=h.n1
 have k1:=k.l0;have k2:=k.l1;have k3:=k.a0;have k4:=k.a1;have k5:=k.n0;have k6:=k.n1
 cases s
 cases t
 dsimp only at *
 congr 1 <;> omega
theorem Bd3.c3 {s:Sp3} (h:Bd3 s):C3 s.lp s.at_ s.n (cd3 s):=⟨h.a0,by have:=h.a1;omega,h.n0,by have:=h.n1;omega,rfl⟩
theorem N6 {α : Type} {c:α->Int} {f:Nat->List α} {g:Nat->Int} (hg:∀i,g i<=g (i+1)) (h1:∀i,((f i).map c).Pairwise (· < ·)) (h2:∀i,∀x∈f i,g i<=c x/\c x < g (i+1)):∀n,((up f n).map c).Pairwise (· < ·)/\∀x∈up f n,g 0<=c x/\c x < g n
 | 0=>by rw[J0];exact⟨List.Pairwise.nil,λx h=>by cases h⟩
 | n+1=>by
  obtain⟨a,b⟩:=N6 hg h1 h2 n
  have g0:∀m,g 0<=g m:=λm=>by
   induction m with
   | zero=>exact Int.le_refl _
   | succ m ih=>exact Int.le_trans ih (hg m)
  rw[CW,QbC]
  refine⟨List.pairwise_append.mpr ⟨a,h1 n,λx hx y hy=>?_⟩,λx hx=>?_⟩
  ·obtain⟨x',hx',rfl⟩:=Qci.mp hx
   obtain⟨y',hy',rfl⟩:=Qci.mp hy
   have:=b x' hx'
   have:=h2 n y' hy'
   omega
  ·rcases QbD.mp hx with h | h
   ·have:=b x h
    have:=hg n
    omega
   ·have:=h2 n x h
    have:=g0 n
    omega
theorem bL (k:Int):∀m:Nat,((List.range m).map λn:Nat=>k+(n:Int)).Pairwise (· < ·):=λm=>by
 rw[List.pairwise_map]
 exact List.pairwise_lt_range.imp λ{a b} h=>by omega
theorem Rm (lp a:Int):∀(n:Nat) (ds:List Dev),(Ca lp a n ds).map (λd=>cd3 d.spot)=(List.range' n ds.length).map λj:Nat=>lp*10000+a*100+(j:Int)
 | _,[]=>rfl
 | n,d::r=>by
  rw[Qbr,List.range'_succ,QbZ,<-Rm lp a (n+1) r]
  rfl
theorem Xg (lp a:Int) (p:Place):((Bt lp a p).map λd=>cd3 d.spot).Pairwise (· < ·):=by
 unfold Bt
 split
 ·exact List.Pairwise.nil
 ·rw[QbZ,Rm]
  refine List.pairwise_cons.mpr ⟨λx hx=>?_,?_⟩
  ·obtain⟨j,hj,rfl⟩:=Qci.mp hx
   have:=List.mem_range'_1.mp hj
   show lp*10000+a*100+0 < _
   omega
  ·rw[List.pairwise_map]
   exact (List.pairwise_lt_range').imp λ{x y} h=>by omega
theorem SN (lp a:Int):∀(n:Nat) (ds:List Dev) (d:Sd),d∈Ca lp a n ds->d.lp=lp/\d.at_=a/\(n:Int)<=d.n/\d.n < (n:Int)+ds.length
 | _,[],d,h=>by cases h
 | n,x::r,d,h=>by
  rcases QbY.mp h with rfl | h
  ·exact⟨rfl,rfl,Int.le_refl _,by show (n:Int) < (n:Int)+((r.length+1:Nat):Int);omega⟩
  ·obtain⟨h1,h2,h3,h4⟩:=SN lp a (n+1) r d h
   exact⟨h1,h2,by omega,by rw[Qbr];omega⟩
theorem Rp {lp a:Int} {p:Place} (h:p.spur.length<=3) {d:Sd} (hd:d∈Bt lp a p):d.lp=lp/\d.at_=a/\0<=d.n/\d.n<=3:=by
 unfold Bt at hd
 split at hd
 ·cases hd
 ·rcases QbY.mp hd with rfl | hd
  ·exact⟨rfl,rfl,Int.le_refl _,by show (0:Int)<=3;decide⟩
  ·obtain⟨h1,h2,h3,h4⟩:=SN lp a 1 p.spur d hd
   exact⟨h1,h2,by omega,by omega⟩
theorem Ko {α β : Type} {o:Option α} {g:α->List β} {x:β} (h:x∈ifs o g):∃a,o=some a/\x∈g a:=by
 cases o with
 | none=>cases h
 | some a=>exact⟨a,rfl,h⟩
theorem J1 {α : Type} {f:Nat->List α} {x:α}:∀{n:Nat},x∈up f n->∃i,i < n/\x∈f i
 | 0,h=>by rw[J0] at h;cases h
 | n+1,h=>by
  rw[CW] at h
  rcases QbD.mp h with h | h
  ·obtain⟨i,a,b⟩:=J1 h
   exact⟨i,by omega,b⟩
  ·exact⟨n,Qby n,h⟩
theorem O1 {α β : Type} {c:β->Int} {o:Option α} {g:α->List β} (h:∀a,o=some a->((g a).map c).Pairwise (· < ·)):((ifs o g).map c).Pairwise (· < ·):=by
 cases o with
 | none=>exact List.Pairwise.nil
 | some a=>exact h a rfl
theorem aF {loops:List (List Place)} (ok:Fv loops) {k:Nat} {d:Sd} (h:d∈pdL loops k):d.lp=(k:Int)/\1<=d.at_/\d.at_<=12/\0<=d.n/\d.n<=3:=by
 obtain⟨ps,hps,h⟩:=Ko h
 have okl:=ok.ok ps (QaD hps)
 obtain⟨i,hi,h⟩:=J1 h
 obtain⟨p,hp,h⟩:=Ko h
 obtain⟨h1,h2,h3,h4⟩:=Rp (okl.ok p (QaD hp)).spur h
 have:=okl.hi
 exact⟨h1,by rw[h2];omega,by rw[h2];omega,h3,h4⟩
theorem Ym {loops:List (List Place)} (ok:Fv loops):((up (pdL loops) loops.length).map λd=>cd3 d.spot).Pairwise (· < ·):=by
 refine (N6 (g:=λi=>(i:Int)*10000) (λi=>by omega) (λk=>O1 λps hps=>?_) (λk d hd=>?_) loops.length).1
 ·have okl:=ok.ok ps (QaD hps)
  refine (N6 (g:=λi=>(k:Int)*10000+(1+i:Int)*100) (λi=>by omega) (λi=>O1 λp hp=>Xg _ _ p) (λi d hd=>?_) ps.length).1
  obtain⟨p,hp,hd⟩:=Ko hd
  obtain⟨h1,h2,h3,h4⟩:=Rp (okl.ok p (QaD hp)).spur hd
  show (k:Int)*10000+(1+i:Int)*100<=d.lp*10000+d.at_*100+d.n/\d.lp*10000+d.at_*100+d.n < (k:Int)*10000+(1+((i+1:Nat):Int))*100
  rw[h1,h2]
  push_cast
  omega
 ·obtain⟨h1,h2,h3,h4,h5⟩:=aF ok hd
  show (k:Int)*10000<=d.lp*10000+d.at_*100+d.n/\d.lp*10000+d.at_*100+d.n < ((k+1:Nat):Int)*10000
  rw[h1]
  push_cast
  omega
theorem yE {loops:List (List Place)} (ok:Fv loops):∀d∈up (pdL loops) loops.length,Bd3 d.spot:=λd hd=>by
 obtain⟨k,hk,hd⟩:=J1 hd
 obtain⟨h1,h2,h3,h4,h5⟩:=aF ok hd
 have:=ok.hi
 exact⟨by show 0<=d.lp;omega,by show d.lp<=2;omega,by show 0<=d.at_;omega,h3,h4,h5⟩
theorem Zz {lp:Int} {ps:List Place} (ok:OkL ps) {i:Nat} {s:Sp3} (h:s∈st1 lp ps i):s.lp=lp/\s.at_=((1+i:Nat):Int)/\i < ps.length/\0<=s.n/\s.n<=3:=by
 obtain⟨p,hp,h⟩:=Ko h
 have h3:=(ok.ok p (QaD hp)).spur
 obtain⟨n,hn,rfl⟩:=Qci.mp h
 have:=QbU.mp hn
 exact⟨rfl,rfl,(Qah.mp hp).1,by show (0:Int)<=(n:Int);omega,by show (n:Int)<=3;omega⟩
theorem fB {loops:List (List Place)} (ok:Fv loops) {k:Nat} {s:Sp3} (h:s∈stL loops k):s.lp=(k:Int)/\0<=s.at_/\s.at_<=12/\0<=s.n/\s.n<=3:=by
 obtain⟨ps,hps,h⟩:=Ko h
 have okl:=ok.ok ps (QaD hps)
 have LG:=okl.hi
 rcases QbY.mp h with rfl | h
 ·exact⟨rfl,by show (0:Int)<=0;decide,by show (0:Int)<=12;decide,by show (0:Int)<=0;decide,by show (0:Int)<=3;decide⟩
 ·obtain⟨i,hi,h⟩:=J1 h
  obtain⟨h1,h2,h3,h4,h5⟩:=Zz okl h
  exact⟨h1,by rw[h2];omega,by rw[h2];omega,h4,h5⟩
theorem rH {loops:List (List Place)} (ok:Fv loops):((up (stL loops) loops.length).map cd3).Pairwise (· < ·):=by
 refine (N6 (g:=λi=>(i:Int)*10000) (λi=>by omega) (λk=>O1 λps hps=>?_) (λk d hd=>?_) loops.length).1
 ·have okl:=ok.ok ps (QaD hps)
  obtain⟨a,b⟩:=N6 (c:=cd3) (f:=st1 (k:Int) ps) (g:=λi=>(k:Int)*10000+(1+i:Int)*100) (λi=>by omega) (λi=>O1 λp hp=>by
   rw[Qcl]
   have:=bL ((k:Int)*10000+((1+i:Nat):Int)*100) (p.spur.length+1)
   exact this) (λi s hs=>by
   obtain⟨h1,h2,h3,h4,h5⟩:=Zz okl hs
   show (k:Int)*10000+(1+i:Int)*100<=s.lp*10000+s.at_*100+s.n/\s.lp*10000+s.at_*100+s.n < (k:Int)*10000+(1+((i+1:Nat):Int))*100
   rw[h1,h2]
   push_cast
   omega) ps.length
  rw[QbZ]
  refine List.pairwise_cons.mpr ⟨λx hx=>?_,a⟩
  obtain⟨s,hs,rfl⟩:=Qci.mp hx
  have h0:=(b s hs).1
  have h0:(k:Int)*10000+(1+((0:Nat):Int))*100<=cd3 s:=h0
  show (k:Int)*10000+0*100+0 < cd3 s
  omega
 ·obtain⟨h1,h2,h3,h4,h5⟩:=fB ok hd
  show (k:Int)*10000<=d.lp*10000+d.at_*100+d.n/\d.lp*10000+d.at_*100+d.n < ((k+1:Nat):Int)*10000
  rw[h1]
  push_cast
  omega
theorem AK {loops:List (List Place)} (ok:Fv loops):∀s∈up (stL loops) loops.length,Bd3 s:=λs hs=>by
 obtain⟨k,hk,hs⟩:=J1 hs
 obtain⟨h1,h2,h3,h4,h5⟩:=fB ok hs
 have:=ok.hi
 exact⟨by omega,by omega,h2,h3,h4,h5⟩
theorem ZW {α : Type} {c:α->Int} {l:List α} (h:(l.map c).Pairwise (· < ·)):l.Nodup:=by
 rw[List.pairwise_map] at h
 exact h.imp λ{a b} hab e=>by rw[e] at hab;omega
abbrev Dk:Stmt:=(inClass (top 50) 0)
abbrev DW:List Str:=["self","plan"]
theorem Rf:Ba ["self","plan"] DW (Ag Dk):=⟨rfl,rfl,rfl,by trivial,rfl,by trivial,by trivial⟩
abbrev Ci:Stmt:=(inClass (top 50) 1)
abbrev Bw:List Str:=["self","stretch"]
theorem Nv:Ba ["self","stretch"] Bw (Ag Ci):=⟨rfl,rfl,rfl,by trivial,rfl,by trivial,by trivial⟩
abbrev CK:Stmt:=(inClass (top 50) 2)
abbrev CN:List Str:=["self","spot"]
theorem Py:Ba ["self","spot"] CN (Ag CK):=⟨rfl,rfl,rfl,by trivial,rfl,by trivial,by trivial⟩
abbrev Gh:Stmt:=(inClass (top 50) 3)
abbrev Gm:List Str:=["self","stretch"]
theorem W0:Ba ["self","stretch"] Gm (Ag Gh):=⟨rfl,rfl,rfl,by trivial,rfl,by trivial,by trivial⟩
abbrev El:Stmt:=(inClass (top 50) 4)
abbrev Em:List Str:=["self","stretch"]
theorem Ue:Ba ["self","stretch"] Em (Ag El):=⟨rfl,rfl,rfl,by trivial,rfl,by trivial,by trivial⟩
abbrev Fi:Stmt:=(inClass (top 50) 5)
abbrev Fp:List Str:=["self","stretch"]
theorem VB:Ba ["self","stretch"] Fp (Ag Fi):=⟨rfl,rfl,rfl,by trivial,rfl,by trivial,by trivial⟩
abbrev Gg:Stmt:=(inClass (top 50) 6)
abbrev Gj:List Str:=["self","stretch"]
theorem WY:Ba ["self","stretch"] Gj (Ag Gg):=⟨rfl,rfl,rfl,by trivial,rfl,by trivial,by trivial⟩
abbrev Dj:Stmt:=(inClass (top 50) 7)
abbrev Dl:List Str:=["self","spot"]
theorem Rb:Ba ["self","spot"] Dl (Ag Dj):=⟨rfl,rfl,rfl,by trivial,rfl,by trivial,by trivial⟩
abbrev DP:Stmt:=(inClass (top 50) 8)
abbrev DR:List Str:=["self","spot","kind","address"]
theorem S5:Ba ["self","spot","kind","address"] DR (Ag DP):=⟨rfl,rfl,rfl,by trivial,rfl,by trivial,by trivial⟩
abbrev Ek:Stmt:=(inClass (top 50) 9)
abbrev Fz:List Str:=["self"]
theorem Ud:Ba ["self"] Fz (Ag Ek):=⟨rfl,rfl,rfl,by trivial,rfl,by trivial,by trivial⟩
structure Tw (K:PySem.W.Frag) (mg:Str->Option Value) (op oe kd wk C:Addr):Prop extends Ty K mg op oe kd wk where
 cl:Cls K C
 mgC:mg "Wires"=some (.ref C)
 gY:Jd K C "plan"
 Jh:Jd K C "states"
 Kl:Jd K C "filled"
 gZ:Jd K C "gaps"
def ff (pl d1 d2 d3:Addr):List (Str×V):=[("plan",.ref pl),("states",.ref d1),("filled",.ref d2),("gaps",.ref d3)]
theorem mR:(["plan","states","filled","gaps"]:List Str).Nodup:=by trivial
section
variable (pl d1 d2 d3:Addr)
theorem fnd:((ff pl d1 d2 d3).map (·.1)).Nodup:=mR
theorem JR:List.lookup ("states":Str) (ff pl d1 d2 d3)=some (V.ref d1):=Yd (i:=1) (fnd pl d1 d2 d3) rfl
theorem Lx:List.lookup ("filled":Str) (ff pl d1 d2 d3)=some (V.ref d2):=Yd (i:=2) (fnd pl d1 d2 d3) rfl
end
theorem fno {pl d1 d2 d3:Addr} {x:Str} (h:x∉(["plan","states","filled","gaps"]:List Str)):(ff pl d1 d2 d3).lookup x=none:=qT h
def k3 (s:Sp3):List Key:=[.inl s.lp,.inl s.at_,.inl s.n]
theorem Gb {s t:Sp3} (h:k3 s=k3 t):s=t:=by
 cases s
 cases t
 simp[k3] at h
 obtain⟨h1,h2,h3⟩:=h
 subst h1 h2 h3
 rfl
def stV (hs:List (Sp3×Str)):List (List Key×V):=hs.map λx=>(k3 x.1,.str x.2)
theorem Qy {α : Type} {f:α->List Key×V}:∀{l:List α} {i:Nat} {x:α},(l.map λy=>(f y).1).Nodup->l[i]?=some x->Eu (l.map f) (f x).1=some (f x).2
 | [],_,_,_,h=>by simp at h
 | a::r,0,x,nd,h=>by
  simp at h
  subst h
  exact Ol (p:=f a) rfl
 | a::r,i+1,x,nd,h=>by
  have h:r[i]?=some x:=by simpa using h
  obtain⟨n1,n2⟩:=QbJ.mp nd
  rw[QbZ,JX (p:=f a) (λe=>n1 (by show (f a).1∈_;rw[e];exact Qci.mpr ⟨x,QaD h,rfl⟩))]
  exact Qy n2 h
theorem JW {κ : Type} [DecidableEq κ]:∀{l:List (κ×V)} {k:κ},(∀x∈l,x.1≠k)->Eu l k=none
 | [],_,_=>rfl
 | a::r,k,h=>by rw[JX (h a (QaR ..))];exact JW λx hx=>h x (QaE _ hx)
theorem Ow {κ : Type} [DecidableEq κ] {l:List (κ×V)} {k:κ} {v:V} (h:∃x∈l,x.1=k):putK l k v=l.map λkv=>if kv.1=k then (kv.1,v) else kv:=by
 unfold putK
 obtain⟨x,hx,e⟩:=h
 exact if_pos (List.any_eq_true.mpr ⟨x,hx,QbS e⟩)
def Dc {β : Type} (l:List (Sp3×β)) (s:Sp3) (v:β):List (Sp3×β):=l.map λx=>if x.1=s then (x.1,v) else x
theorem Ge {β : Type} (l:List (Sp3×β)) (s:Sp3) (v:β):(Dc l s v).map (·.1)=l.map (·.1):=by
 unfold Dc
 rw[Qcl]
 refine QaM λx _=>?_
 show (if x.1=s then (x.1,v) else x).1=x.1
 split <;> rfl
theorem Ms {β : Type} (l:List (Sp3×β)) (s:Sp3) (v:β):(Dc l s v).length=l.length:=QbB ..
theorem QF {hs:List (Sp3×Str)} {s:Sp3} {z:Str} (h:s∈hs.map (·.1)):putK (stV hs) (k3 s) (.str z)=stV (Dc hs s z):=by
 obtain⟨x,hx,e⟩:=Qci.mp h
 rw[Ow (l:=stV hs) ⟨_,Qci.mpr ⟨x,hx,rfl⟩,by show k3 x.1=_;rw[e]⟩]
 unfold stV Dc
 rw[Qcl,Qcl]
 refine QaM λy _=>?_
 show (if k3 y.1=k3 s then (k3 y.1,V.str z) else (k3 y.1,V.str y.2))=(k3 (if y.1=s then (y.1,z) else y).1,V.str (if y.1=s then (y.1,z) else y).2)
 by_cases e:y.1=s
 ·rw[if_pos (by rw[e]),if_pos e]
 ·rw[if_neg (λz=>e (Gb z)),if_neg e]
def HeldAt (H:Hp) (v:V):Option (Str×Int)->Prop
 | none=>v=.non
 | some d=>∃t,v=.ref t/\H t=some (.tup [.str d.1,.int d.2])
def Dz (H:Hp) (kv:List Key×V) (x:Sp3×Option (Str×Int)):Prop:=kv.1=k3 x.1/\HeldAt H kv.2 x.2
theorem Dz.tups {H H':Hp} (s:Am H H') {kv:List Key×V} {x:Sp3×Option (Str×Int)} (h:Dz H kv x):Dz H' kv x:=by
 obtain⟨h1,h2⟩:=h
 refine⟨h1,?_⟩
 cases e:x.2 with
 | none=>rw[e] at h2;exact h2
 | some d=>
  rw[e] at h2
  obtain⟨t,a,b⟩:=h2
  exact⟨t,a,s _ _ b⟩
structure WAt (C:Addr) (H:Hp) (p pl d1 d2 d3:Addr) (hs:List (Sp3×Str)) (fl:List (Sp3×Option (Str×Int))):Prop where
 ins:∃dx,H p=some (.ins C dx (ff pl d1 d2 d3))
 st:H d1=some (.dT (stV hs))
 fi:∃kvs,H d2=some (.dT kvs)/\Paired (Dz H) kvs fl
 nd1:(hs.map (·.1)).Nodup
 nd2:(fl.map (·.1)).Nodup
 l1:hs.length<=200
 l2:fl.length<=200
theorem WAt.same {C:Addr} {H H':Hp} {p pl d1 d2 d3:Addr} {hs:List (Sp3×Str)} {fl:List (Sp3×Option (Str×Int))} (h:WAt C H p pl d1 d2 d3 hs fl) (s:Same H H'):WAt C H' p pl d1 d2 d3 hs fl:=by
 obtain⟨dx,e⟩:=h.ins
 obtain⟨kvs,e2,e3⟩:=h.fi
 exact⟨⟨dx,s _ _ e⟩,s _ _ h.st,⟨kvs,s _ _ e2,Paired.Bb e3 λ_ _ z=>z.tups (Am.of s)⟩,h.nd1,h.nd2,h.l1,h.l2⟩
theorem WAt.Cz {C b:Addr} {H H':Hp} {p pl d1 d2 d3:Addr} {hs:List (Sp3×Str)} {fl:List (Sp3×Option (Str×Int))} (h:WAt C H p pl d1 d2 d3 hs fl) (s:Ai b H H') (nt:∀zs,H b≠some (.tup zs)) (n0:p≠b) (n1:d1≠b) (n2:d2≠b):WAt C H' p pl d1 d2 d3 hs fl:=by
 obtain⟨dx,e⟩:=h.ins
 obtain⟨kvs,e2,e3⟩:=h.fi
 exact⟨⟨dx,s _ _ e n0⟩,s _ _ h.st n1,⟨kvs,s _ _ e2 n2,Paired.Bb e3 λ_ _ z=>z.tups (s.tup nt)⟩,h.nd1,h.nd2,h.l1,h.l2⟩
def Lg (H:Hp) (v:V) (ss:List Sp3):Prop:=∃b s,v=.ref b/\H b=some (.tup [.int s.lp,.int s.at_,.int s.n])/\s∈ss
def Qa (C ca:Addr):Sp:=λvs H Q E=>∃p pl d1 d2 d3 hs fl v,vs=[.ref p,v]/\WAt C H p pl d1 d2 d3 hs fl/\Th H v/\(Lg H v (hs.map (·.1))->∀H',Same H H'->Q .non H')/\(¬Lg H v (hs.map (·.1))->∀H',Same H H'->E (.ref ca) none H')
def WD (C ca:Addr):Sp:=λvs H Q E=>∃p pl d1 d2 d3 hs fl v,vs=[.ref p,v]/\WAt C H p pl d1 d2 d3 hs fl/\Th H v/\(Lg H v (fl.map (·.1))->∀H',Same H H'->Q .non H')/\(¬Lg H v (fl.map (·.1))->∀H',Same H H'->E (.ref ca) none H')
def Oo (C ca:Addr) (z:Str):Sp:=λvs H Q E=>∃p pl d1 d2 d3 hs fl v,vs=[.ref p,v]/\WAt C H p pl d1 d2 d3 hs fl/\d1≠d2/\Th H v/\(∀b s,v=.ref b->H b=some (.tup [.int s.lp,.int s.at_,.int s.n])->s∈hs.map (·.1)->∀H',WAt C H' p pl d1 d2 d3 (Dc hs s z) fl->Ai d1 H H'->Q .non H')/\(¬Lg H v (hs.map (·.1))->∀H',Same H H'->E (.ref ca) none H')
def bD (C ca:Addr):Sp:=λvs H Q E=>∃p pl d1 d2 d3 hs fl v,vs=[.ref p,v]/\WAt C H p pl d1 d2 d3 hs fl/\Th H v/\(∀b x,v=.ref b->H b=some (.tup [.int x.1.lp,.int x.1.at_,.int x.1.n])->x∈hs->∀H',Same H H'->Q (.str x.2) H')/\(¬Lg H v (hs.map (·.1))->∀H',Same H H'->E (.ref ca) none H')
def Wx (C ca:Addr):Sp:=λvs H Q E=>∃p pl d1 d2 d3 hs fl v,vs=[.ref p,v]/\WAt C H p pl d1 d2 d3 hs fl/\d1≠d2/\Th H v/\(∀b s,v=.ref b->H b=some (.tup [.int s.lp,.int s.at_,.int s.n])->s∈fl.map (·.1)->∀H',WAt C H' p pl d1 d2 d3 hs (Dc fl s none)->Ai d2 H H'->Q .non H')/\(¬Lg H v (fl.map (·.1))->∀H',Same H H'->E (.ref ca) none H')
def bC (C ca:Addr):Sp:=λvs H Q E=>∃p pl d1 d2 d3 hs fl v k x,vs=[.ref p,v,.str k,.int x]/\WAt C H p pl d1 d2 d3 hs fl/\d1≠d2/\Th H v/\(∀b s,v=.ref b->H b=some (.tup [.int s.lp,.int s.at_,.int s.n])->s∈fl.map (·.1)->∀H',WAt C H' p pl d1 d2 d3 hs (Dc fl s (some (k,x)))->Ai d2 H H'->Q .non H')/\(¬Lg H v (fl.map (·.1))->∀H',Same H H'->E (.ref ca) none H')
def FN (fl:List (Sp3×Option (Str×Int))):List Sd:=fl.filterMap λx=>x.2.map λd=>⟨x.1.lp,x.1.at_,x.1.n,d.1,d.2⟩
def ZF (C:Addr):Sp:=λvs H Q _=>∃p pl d1 d2 d3 hs fl,vs=[.ref p]/\WAt C H p pl d1 d2 d3 hs fl/\∀l xs H',H l=none->H' l=some (.lst xs)->Paired (Ia H') xs (FN fl)->Same H H'->Q (.ref l) H'
theorem aZ {xs:List V} (hl:xs.length=3) (h:xs.all isW=true):∃a b c,xs=[.int a,.int b,.int c]:=by
 match xs,hl with
 | [x1,x2,x3],_=>
  simp only[List.all_cons,List.all_nil,Bool.and_true,Qbw] at h
  obtain⟨h1,h2,h3⟩:=h
  obtain⟨a,rfl⟩:=Uw h1
  obtain⟨b,rfl⟩:=Uw h2
  obtain⟨c,rfl⟩:=Uw h3
  exact⟨a,b,c,rfl⟩
theorem Zr {H:Hp} {v:V} (h:LC (Ho H v) 3=true):∃b a c d,v=.ref b/\H b=some (.tup [.int a,.int c,.int d]):=by
 cases e:Ho H v with
 | none=>rw[e] at h;cases h
 | some xs=>
  rw[e,Mj,Qbw] at h
  have h1:(decide ((3:Int)<=xs.length)&&decide ((xs.length:Int)<=3))=true:=h.1
  rw[Qbw] at h1
  have h2:=Qbj h1.1
  have h3:=Qbj h1.2
  obtain⟨a,c,d,rfl⟩:=aZ (by omega) h.2
  obtain⟨b,rfl,hb⟩:=RM e
  exact⟨b,a,c,d,rfl,hb⟩
theorem Ro {H:Hp} {v:V} {ss:List Sp3} (h:Lg H v ss):LC (Ho H v) 3=true:=by
 obtain⟨b,s,rfl,hb,_⟩:=h
 rw[Dp hb]
 rfl
theorem Kq {H:Hp}:∀{kvs:List (List Key×V)} {fl:List (Sp3×Option (Str×Int))},Paired (Dz H) kvs fl->kvs.map (·.1)=fl.map λx=>k3 x.1
 | _,_,.nil=>rfl
 | _,_,.cons h t=>by rw[QbZ,QbZ,h.1,Kq t]
theorem R4 {H':Hp} {s:Sp3} {v:V} {o:Option (Str×Int)} (hv:HeldAt H' v o):∀{kvs:List (List Key×V)} {fl:List (Sp3×Option (Str×Int))},Paired (Dz H') kvs fl->Paired (Dz H') (kvs.map λkv=>if kv.1=k3 s then (kv.1,v) else kv) (Dc fl s o)
 | _,_,.nil=>.nil
 | _,_,.cons (a:=kv) (b:=x) h t=>by
  have ih:=R4 (s:=s) hv t
  refine .cons ?_ ih
  show Dz H' (if kv.1=k3 s then (kv.1,v) else kv) (if x.1=s then (x.1,o) else x)
  by_cases e:x.1=s
  ·rw[if_pos e,if_pos (by rw[h.1,e])]
   exact⟨h.1,hv⟩
  ·rw[if_neg e,if_neg (λz=>e (Gb (by rw[<-h.1,z])))]
   exact h
section
variable {P:Program} {w:World} {K:PySem.W.Frag} {mg:Str->Option Value} {base:Heap} {op oe kd wk C:Addr} {hc c0 c1 c2 c3 c4 c5 c6 c7 c8 c9 c10 c11 c12:Addr}
theorem RJ (c:Dv K C "check_stretch" "Wires.check_stretch" Ci Bw) (T:Tw K mg op oe kd wk C) (XE:Er K mg hc c0 c1 c2 c3 c4 c5 c6 c7 c8 c9 c10 c11 c12) (Fd:Knd K hc c2 [c0,c1,c2,c3,c4,c5,c6,c7,c8,c9,c10,c11,c12] 2) (Nb:Good P w K mg base "are_wholes" 2 Gw P0):Cd P w K mg base C "check_stretch" 3 Bw (Qa C c2):=by
 refine c.Nr Nv (λvs H Q E h=>?_) (λX f cdv A outer s H vs Q E eX hx hr h=>?_)
 ·obtain⟨p,pl,d1,d2,d3,hs,fl,v,rfl,_⟩:=h
  rfl
 subst eX
 obtain⟨p,pl,d1,d2,d3,hs,fl,v,rfl,R,th,q,qE⟩:=h
 refine⟨_,(Aj (BW (PW.pt (Ov (FT (FQ (Ay Nb hr (Aa (pv 1) (Aa Ae Ab))))) (N8 (Qd (Qh (Dh hr) (pv 1) (JL (pv 0) rfl)))))) (Aj (Xf rfl Fd.xc rfl XE.Tf hx (Aa Bh Ab))) BX)),?_⟩
 refine⟨_,rfl,v,3,rfl,th,λH1 s1=>⟨_,rfl,?_⟩⟩
 cases ew:LC (Ho H v) 3 with
 | false=>exact Ce ⟨Ar (by show 1<=1000;decide),qE (λz=>by rw[Ro z] at ew;cases ew) _ s1⟩
 | true=>
  obtain⟨b,a1,a2,a3,rfl,hb⟩:=Zr ew
  have R1:=R.same s1
  obtain⟨dx,hp⟩:=R1.ins
  refine Cy ⟨_,rfl,_,rfl,p,C,dx,_,_,rfl,hp,T.cl,T.Jh,JR pl d1 d2 d3,d1,_,rfl,GR.t (k:=k3 ⟨a1,a2,a3⟩) R1.st (s1 _ _ hb),_,rfl,?_⟩
  by_cases hin:(⟨a1,a2,a3⟩ : Sp3)∈hs.map (·.1)
  ·have hs':(Eu (stV hs) (k3 ⟨a1,a2,a3⟩)).isSome=true:=by
    obtain⟨x,hx,e⟩:=Qci.mp hin
    rw[<-JZ,List.any_eq_true]
    exact⟨_,Qci.mpr ⟨x,hx,rfl⟩,QbS (by show k3 x.1=_;rw[e])⟩
   rw[hs']
   exact Cy (q ⟨b,⟨a1,a2,a3⟩,rfl,hb,hin⟩ _ s1)
  ·have hn:Eu (stV hs) (k3 ⟨a1,a2,a3⟩)=none:=JW λx hx e=>by
    obtain⟨y,hy,rfl⟩:=Qci.mp hx
    exact hin (Qci.mpr ⟨y,hy,Gb e⟩)
   rw[hn]
   refine Ce ⟨Ar (by show 1<=1000;decide),qE (λ⟨b',s',e1,e2,e3⟩=>?_) _ s1⟩
   cases e1
   rw[hb] at e2
   cases s'
   cases e2
   exact hin e3
theorem VD (c:Dv K C "check_spot" "Wires.check_spot" CK CN) (T:Tw K mg op oe kd wk C) (XE:Er K mg hc c0 c1 c2 c3 c4 c5 c6 c7 c8 c9 c10 c11 c12) (Fq:Knd K hc c3 [c0,c1,c2,c3,c4,c5,c6,c7,c8,c9,c10,c11,c12] 3) (Nb:Good P w K mg base "are_wholes" 2 Gw P0):Cd P w K mg base C "check_spot" 3 CN (WD C c3):=by
 refine c.Nr Py (λvs H Q E h=>?_) (λX f cdv A outer s H vs Q E eX hx hr h=>?_)
 ·obtain⟨p,pl,d1,d2,d3,hs,fl,v,rfl,_⟩:=h
  rfl
 subst eX
 obtain⟨p,pl,d1,d2,d3,hs,fl,v,rfl,R,th,q,qE⟩:=h
 refine⟨_,(Aj (BW (PW.pt (Ov (FT (FQ (Ay Nb hr (Aa (pv 1) (Aa Ae Ab))))) (N8 (Qd (Qh (Dh hr) (pv 1) (JL (pv 0) rfl)))))) (Aj (Xf rfl Fq.xc rfl XE.Z6 hx (Aa Bh Ab))) BX)),?_⟩
 refine⟨_,rfl,v,3,rfl,th,λH1 s1=>⟨_,rfl,?_⟩⟩
 cases ew:LC (Ho H v) 3 with
 | false=>exact Ce ⟨Ar (by show 1<=1000;decide),qE (λz=>by rw[Ro z] at ew;cases ew) _ s1⟩
 | true=>
  obtain⟨b,a1,a2,a3,rfl,hb⟩:=Zr ew
  have R1:=R.same s1
  obtain⟨dx,hp⟩:=R1.ins
  obtain⟨kvs,hk,hf⟩:=R1.fi
  have xQ:=Kq hf
  refine Cy ⟨_,rfl,_,rfl,p,C,dx,_,_,rfl,hp,T.cl,T.Kl,Lx pl d1 d2 d3,d2,_,rfl,GR.t (k:=k3 ⟨a1,a2,a3⟩) hk (s1 _ _ hb),_,rfl,?_⟩
  by_cases hin:(⟨a1,a2,a3⟩ : Sp3)∈fl.map (·.1)
  ·have hs':(Eu kvs (k3 ⟨a1,a2,a3⟩)).isSome=true:=by
    obtain⟨x,hx,e⟩:=Qci.mp hin
    have:k3 x.1∈kvs.map (·.1):=by rw[xQ];exact Qci.mpr ⟨x,hx,rfl⟩
    obtain⟨kv,hkv,ekv⟩:=Qci.mp this
    rw[<-JZ,List.any_eq_true]
    exact⟨kv,hkv,QbS (by rw[ekv,e])⟩
   rw[hs']
   exact Cy (q ⟨b,⟨a1,a2,a3⟩,rfl,hb,hin⟩ _ s1)
  ·have hn:Eu kvs (k3 ⟨a1,a2,a3⟩)=none:=JW λx hx e=>by
    have:x.1∈kvs.map (·.1):=Qci.mpr ⟨x,hx,rfl⟩
    rw[xQ] at this
    obtain⟨y,hy,ey⟩:=Qci.mp this
    exact hin (Qci.mpr ⟨y,hy,Gb (by rw[ey,e])⟩)
   rw[hn]
   refine Ce ⟨Ar (by show 1<=1000;decide),qE (λ⟨b',s',e1,e2,e3⟩=>?_) _ s1⟩
   cases e1
   rw[hb] at e2
   cases s'
   cases e2
   exact hin e3
theorem wC {ca:Addr} (c:Dv K C "cut" "Wires.cut" Gh Gm) (T:Tw K mg op oe kd wk C) (CV:Cd P w K mg base C "check_stretch" 3 Bw (Qa C ca)):Cd P w K mg base C "cut" 4 Gm (Oo C ca "cut"):=by
 refine c.Nr W0 (λvs H Q E h=>?_) (λX f cdv A outer s H vs Q E eX hx hr h=>?_)
 ·obtain⟨p,pl,d1,d2,d3,hs,fl,v,rfl,_⟩:=h
  rfl
 subst eX
 obtain⟨p,pl,d1,d2,d3,hs,fl,v,rfl,R,n12,th,q,qE⟩:=h
 refine⟨_,(Ah (Bj (Dw (pv 0) T.cl CV hr hx (Aa (pv 1) Ab)))
 (Aj (Fg (Dh hr) (JL (pv 0) rfl) (pv 1) Bh rfl))),?_⟩
 obtain⟨dx,hp⟩:=R.ins
 refine⟨_,rfl,p,dx,_,rfl,hp,fno (by trivial),_,rfl,p,pl,d1,d2,d3,hs,fl,v,rfl,R,th,(λhin H1 s1=>?_),qE⟩
 obtain⟨b,s',rfl,hb,hin⟩:=hin
 have R1:=R.same s1
 obtain⟨dx1,hp1⟩:=R1.ins
 have hd1:=R1.st
 have npd:p≠d1:=λz=>by rw[z,hd1] at hp1;cases hp1
 have nt:∀zs,H1 d1≠some (.tup zs):=λzs z=>by rw[hd1] at z;cases z
 have l1:=R.l1
 refine⟨_,rfl,p,C,dx1,_,_,rfl,hp1,T.cl,T.Jh,JR pl d1 d2 d3,_,rfl,d1,_,rfl,Hl.t (k:=k3 s') hd1 (s1 _ _ hb) (Ao (by unfold stV;rw[QbB];omega)),?_⟩
 rw[QF hin]
 obtain⟨kvs,hk,hf⟩:=R1.fi
 have sT:=Am.upd (o:=.dT (stV (Dc hs s' "cut"))) nt
 exact q b s' rfl hb hin _ ⟨⟨dx1,by rw[Al npd];exact hp1⟩,Ac,⟨kvs,by rw[Al n12.symm];exact hk,Paired.Bb hf λ_ _ z=>z.tups sT⟩,by rw[Ge];exact R.nd1,R.nd2,by rw[Ms];exact l1,R.l2⟩ ((Ai.of s1).trans Ai.upd)
theorem mj {ca:Addr} (c:Dv K C "short" "Wires.short" El Em) (T:Tw K mg op oe kd wk C) (CV:Cd P w K mg base C "check_stretch" 3 Bw (Qa C ca)):Cd P w K mg base C "short" 4 Em (Oo C ca "short"):=by
 refine c.Nr Ue (λvs H Q E h=>?_) (λX f cdv A outer s H vs Q E eX hx hr h=>?_)
 ·obtain⟨p,pl,d1,d2,d3,hs,fl,v,rfl,_⟩:=h
  rfl
 subst eX
 obtain⟨p,pl,d1,d2,d3,hs,fl,v,rfl,R,n12,th,q,qE⟩:=h
 refine⟨_,(Ah (Bj (Dw (pv 0) T.cl CV hr hx (Aa (pv 1) Ab)))
 (Aj (Fg (Dh hr) (JL (pv 0) rfl) (pv 1) Bh rfl))),?_⟩
 obtain⟨dx,hp⟩:=R.ins
 refine⟨_,rfl,p,dx,_,rfl,hp,fno (by trivial),_,rfl,p,pl,d1,d2,d3,hs,fl,v,rfl,R,th,(λhin H1 s1=>?_),qE⟩
 obtain⟨b,s',rfl,hb,hin⟩:=hin
 have R1:=R.same s1
 obtain⟨dx1,hp1⟩:=R1.ins
 have hd1:=R1.st
 have npd:p≠d1:=λz=>by rw[z,hd1] at hp1;cases hp1
 have nt:∀zs,H1 d1≠some (.tup zs):=λzs z=>by rw[hd1] at z;cases z
 have l1:=R.l1
 refine⟨_,rfl,p,C,dx1,_,_,rfl,hp1,T.cl,T.Jh,JR pl d1 d2 d3,_,rfl,d1,_,rfl,Hl.t (k:=k3 s') hd1 (s1 _ _ hb) (Ao (by unfold stV;rw[QbB];omega)),?_⟩
 rw[QF hin]
 obtain⟨kvs,hk,hf⟩:=R1.fi
 have sT:=Am.upd (o:=.dT (stV (Dc hs s' "short"))) nt
 exact q b s' rfl hb hin _ ⟨⟨dx1,by rw[Al npd];exact hp1⟩,Ac,⟨kvs,by rw[Al n12.symm];exact hk,Paired.Bb hf λ_ _ z=>z.tups sT⟩,by rw[Ge];exact R.nd1,R.nd2,by rw[Ms];exact l1,R.l2⟩ ((Ai.of s1).trans Ai.upd)
theorem sW {ca:Addr} (c:Dv K C "mend" "Wires.mend" Fi Fp) (T:Tw K mg op oe kd wk C) (CV:Cd P w K mg base C "check_stretch" 3 Bw (Qa C ca)):Cd P w K mg base C "mend" 4 Fp (Oo C ca "whole"):=by
 refine c.Nr VB (λvs H Q E h=>?_) (λX f cdv A outer s H vs Q E eX hx hr h=>?_)
 ·obtain⟨p,pl,d1,d2,d3,hs,fl,v,rfl,_⟩:=h
  rfl
 subst eX
 obtain⟨p,pl,d1,d2,d3,hs,fl,v,rfl,R,n12,th,q,qE⟩:=h
 refine⟨_,(Ah (Bj (Dw (pv 0) T.cl CV hr hx (Aa (pv 1) Ab)))
 (Aj (Fg (Dh hr) (JL (pv 0) rfl) (pv 1) Bh rfl))),?_⟩
 obtain⟨dx,hp⟩:=R.ins
 refine⟨_,rfl,p,dx,_,rfl,hp,fno (by trivial),_,rfl,p,pl,d1,d2,d3,hs,fl,v,rfl,R,th,(λhin H1 s1=>?_),qE⟩
 obtain⟨b,s',rfl,hb,hin⟩:=hin
 have R1:=R.same s1
 obtain⟨dx1,hp1⟩:=R1.ins
 have hd1:=R1.st
 have npd:p≠d1:=λz=>by rw[z,hd1] at hp1;cases hp1
 have nt:∀zs,H1 d1≠some (.tup zs):=λzs z=>by rw[hd1] at z;cases z
 have l1:=R.l1
 refine⟨_,rfl,p,C,dx1,_,_,rfl,hp1,T.cl,T.Jh,JR pl d1 d2 d3,_,rfl,d1,_,rfl,Hl.t (k:=k3 s') hd1 (s1 _ _ hb) (Ao (by unfold stV;rw[QbB];omega)),?_⟩
 rw[QF hin]
 obtain⟨kvs,hk,hf⟩:=R1.fi
 have sT:=Am.upd (o:=.dT (stV (Dc hs s' "whole"))) nt
 exact q b s' rfl hb hin _ ⟨⟨dx1,by rw[Al npd];exact hp1⟩,Ac,⟨kvs,by rw[Al n12.symm];exact hk,Paired.Bb hf λ_ _ z=>z.tups sT⟩,by rw[Ge];exact R.nd1,R.nd2,by rw[Ms];exact l1,R.l2⟩ ((Ai.of s1).trans Ai.upd)
theorem wB {ca:Addr} (c:Dv K C "how" "Wires.how" Gg Gj) (T:Tw K mg op oe kd wk C) (CV:Cd P w K mg base C "check_stretch" 3 Bw (Qa C ca)):Cd P w K mg base C "how" 4 Gj (bD C ca):=by
 refine c.Nr WY (λvs H Q E h=>?_) (λX f cdv A outer s H vs Q E eX hx hr h=>?_)
 ·obtain⟨p,pl,d1,d2,d3,hs,fl,v,rfl,_⟩:=h
  rfl
 subst eX
 obtain⟨p,pl,d1,d2,d3,hs,fl,v,rfl,R,th,q,qE⟩:=h
 refine⟨_,(Ah (Bj (Dw (pv 0) T.cl CV hr hx (Aa (pv 1) Ab)))
 (Aj (Bc (Uk (Dh hr) (JL (pv 0) rfl) (pv 1) (λ_ _=>rfl))))),?_⟩
 obtain⟨dx,hp⟩:=R.ins
 refine⟨_,rfl,p,dx,_,rfl,hp,fno (by trivial),_,rfl,p,pl,d1,d2,d3,hs,fl,v,rfl,R,th,(λhin H1 s1=>?_),qE⟩
 obtain⟨b,s',rfl,hb,hin⟩:=hin
 obtain⟨x,hx',e⟩:=Qci.mp hin
 obtain⟨i,hi⟩:=QaG hx'
 subst e
 have hv:Eu (stV hs) (k3 x.1)=some (.str x.2):=Qy (f:=λx:Sp3×Str=>(k3 x.1,V.str x.2)) (by
  have:=R.nd1
  rw[List.nodup_iff_pairwise_ne,List.pairwise_map] at this
  rw[List.nodup_iff_pairwise_ne,List.pairwise_map]
  exact this.imp λ{a b} h e=>h (Gb e)) hi
 have R1:=R.same s1
 obtain⟨dx1,hp1⟩:=R1.ins
 have g:=GR.t (k:=k3 x.1) R1.st (s1 _ _ hb)
 rw[hv] at g
 exact⟨_,rfl,p,C,dx1,_,_,rfl,hp1,T.cl,T.Jh,JR pl d1 d2 d3,_,rfl,d1,_,rfl,g,q b x rfl hb hx' _ s1⟩
theorem YQ {ca:Addr} (c:Dv K C "take_out" "Wires.take_out" Dj Dl) (T:Tw K mg op oe kd wk C) (Kp:Cd P w K mg base C "check_spot" 3 CN (WD C ca)):Cd P w K mg base C "take_out" 4 Dl (Wx C ca):=by
 refine c.Nr Rb (λvs H Q E h=>?_) (λX f cdv A outer s H vs Q E eX hx hr h=>?_)
 ·obtain⟨p,pl,d1,d2,d3,hs,fl,v,rfl,_⟩:=h
  rfl
 subst eX
 obtain⟨p,pl,d1,d2,d3,hs,fl,v,rfl,R,n12,th,q,qE⟩:=h
 refine⟨_,(Ah (Bj (Dw (pv 0) T.cl Kp hr hx (Aa (pv 1) Ab)))
 (Aj (Fg (Dh hr) (JL (pv 0) rfl) (pv 1) JK rfl))),?_⟩
 obtain⟨dx,hp⟩:=R.ins
 refine⟨_,rfl,p,dx,_,rfl,hp,fno (by trivial),_,rfl,p,pl,d1,d2,d3,hs,fl,v,rfl,R,th,(λhin H1 s1=>?_),qE⟩
 obtain⟨b,s',rfl,hb,hin⟩:=hin
 have R1:=R.same s1
 obtain⟨dx1,hp1⟩:=R1.ins
 obtain⟨kvs,hk,hf⟩:=R1.fi
 have lk:=QbX hf
 have l2:=R.l2
 have npd:p≠d2:=λz=>by rw[z,hk] at hp1;cases hp1
 have nt:∀zs,H1 d2≠some (.tup zs):=λzs z=>by rw[hk] at z;cases z
 refine⟨_,rfl,p,C,dx1,_,_,rfl,hp1,T.cl,T.Kl,Lx pl d1 d2 d3,_,rfl,d2,_,rfl,Hl.t (k:=k3 s') hk (s1 _ _ hb) (Ao (by omega)),?_⟩
 have hold:∃x∈kvs,x.1=k3 s':=by
  obtain⟨y,hy,e⟩:=Qci.mp hin
  have:k3 y.1∈kvs.map (·.1):=by rw[Kq hf];exact Qci.mpr ⟨y,hy,rfl⟩
  obtain⟨kv,hkv,ekv⟩:=Qci.mp this
  exact⟨kv,hkv,by rw[ekv,e]⟩
 rw[Ow hold]
 have sT:=Am.upd (o:=.dT (kvs.map λkv=>if kv.1=k3 s' then (kv.1,V.non) else kv)) nt
 refine q b s' rfl hb hin _ ⟨⟨dx1,by rw[Al npd];exact hp1⟩,by rw[Al n12];exact R1.st,⟨_,Ac,R4 (s:=s') (v:=.non) (o:=none) rfl (Paired.Bb hf λ_ _ z=>z.tups sT)⟩,R.nd1,by rw[Ge];exact R.nd2,R.l1,by rw[Ms];exact l2⟩ ((Ai.of s1).trans Ai.upd)
theorem gM {ca:Addr} (c:Dv K C "put_in" "Wires.put_in" DP DR) (T:Tw K mg op oe kd wk C) (Kp:Cd P w K mg base C "check_spot" 3 CN (WD C ca)):Cd P w K mg base C "put_in" 4 DR (bC C ca):=by
 refine c.Nr S5 (λvs H Q E h=>?_) (λX f cdv A outer s H vs Q E eX hx hr h=>?_)
 ·obtain⟨p,pl,d1,d2,d3,hs,fl,v,k,x,rfl,_⟩:=h
  rfl
 subst eX
 obtain⟨p,pl,d1,d2,d3,hs,fl,v,k,x,rfl,R,n12,th,q,qE⟩:=h
 refine⟨_,(Ah (Bj (Dw (pv 0) T.cl Kp hr hx (Aa (pv 1) Ab)))
 (Aj (Fg (Dh hr) (JL (pv 0) rfl) (pv 1) (Bk (Aa (pv 2) (Aa (pv 3) Ab))) rfl))),?_⟩
 obtain⟨dx,hp⟩:=R.ins
 refine⟨_,rfl,p,dx,_,rfl,hp,fno (by trivial),_,rfl,p,pl,d1,d2,d3,hs,fl,v,rfl,R,th,(λhin H0 s0=>?_),qE⟩
 obtain⟨b,s',rfl,hb,hin⟩:=hin
 refine⟨_,rfl,_,rfl,Ar (by show 2<=1000;decide),λt ht=>?_⟩
 have s1:Same H (upd H0 t (.tup [.str k,.int x])):=s0.trans (Af ht _)
 have ht1:(upd H0 t (.tup [.str k,.int x])) t=some (.tup [.str k,.int x]):=Ac
 generalize upd H0 t (.tup [.str k,.int x])=H1 at *
 have R1:=R.same s1
 obtain⟨dx1,hp1⟩:=R1.ins
 obtain⟨kvs,hk,hf⟩:=R1.fi
 have lk:=QbX hf
 have l2:=R.l2
 have npd:p≠d2:=λz=>by rw[z,hk] at hp1;cases hp1
 have nt:∀zs,H1 d2≠some (.tup zs):=λzs z=>by rw[hk] at z;cases z
 refine⟨_,rfl,p,C,dx1,_,_,rfl,hp1,T.cl,T.Kl,Lx pl d1 d2 d3,_,rfl,d2,_,rfl,Hl.t (k:=k3 s') hk (s1 _ _ hb) (Ao (by omega)),?_⟩
 have hold:∃x∈kvs,x.1=k3 s':=by
  obtain⟨y,hy,e⟩:=Qci.mp hin
  have:k3 y.1∈kvs.map (·.1):=by rw[Kq hf];exact Qci.mpr ⟨y,hy,rfl⟩
  obtain⟨kv,hkv,ekv⟩:=Qci.mp this
  exact⟨kv,hkv,by rw[ekv,e]⟩
 rw[Ow hold]
 have sT:=Am.upd (o:=.dT (kvs.map λkv=>if kv.1=k3 s' then (kv.1,V.ref t) else kv)) nt
 refine q b s' rfl hb hin _ ⟨⟨dx1,by rw[Al npd];exact hp1⟩,by rw[Al n12];exact R1.st,⟨_,Ac,R4 (s:=s') (v:=.ref t) (o:=some (k,x)) (show HeldAt _ (.ref t) (some (k,x)) from⟨t,rfl,sT _ _ ht1⟩) (Paired.Bb hf λ_ _ z=>z.tups sT)⟩,R.nd1,by rw[Ge];exact R.nd2,R.l1,by rw[Ms];exact l2⟩ ((Ai.of s1).trans Ai.upd)
end
theorem eV {H HH:Hp} {d:Addr} {o:Obj} {u:HO} (s:Same (upd H d (.frz o u)) HH) (h:H d=some u):Same H (upd HH d u):=λc x e=>by
 by_cases z:c=d
 ·subst z
  rw[Ac,<-h,e]
 ·rw[Al z]
  exact s _ _ (by rw[Al z];exact e)
theorem aX (fl:List (Sp3×Option (Str×Int))) (x:Sp3×Option (Str×Int)):FN (fl++[x])=FN fl++FN [x]:=by unfold FN;rw[List.filterMap_append]
theorem aY (s:Sp3):FN [(s,none)]=[]:=rfl
theorem aW (s:Sp3) (d:Str×Int):FN [(s,some d)]=[⟨s.lp,s.at_,s.n,d.1,d.2⟩]:=rfl
def hs0 (loops:List (List Place)):List (Sp3×Str):=(up (stL loops) loops.length).map λs=>(s,"whole")
def fl0 (loops:List (List Place)):List (Sp3×Option (Str×Int)):=(up (pdL loops) loops.length).map λd=>(d.spot,some (d.kind,d.addr))
theorem Ux (loops:List (List Place)):(hs0 loops).map (·.1)=up (stL loops) loops.length:=by unfold hs0;rw[Qcl];exact List.map_id _
theorem Q5 (loops:List (List Place)):(fl0 loops).map (·.1)=(up (pdL loops) loops.length).map Sd.spot:=by unfold fl0;rw[Qcl];rfl
theorem Wr {loops:List (List Place)} (ok:Fv loops):(up (stL loops) loops.length).length<=200:=by
 have:=FJ (f:=stL loops) (c:=49) (Zy ok) loops.length
 have:=ok.hi
 omega
theorem jo {loops:List (List Place)} (ok:Fv loops):(up (pdL loops) loops.length).length<=200:=by
 have:=FJ (f:=pdL loops) (c:=48) (Z2 ok) loops.length
 have:=ok.hi
 omega
theorem v9 {loops:List (List Place)} (ok:Fv loops):(up (gtL loops) loops.length).length<=200:=by
 have:=FJ (f:=gtL loops) (c:=14) (aq ok) loops.length
 have:=ok.hi
 omega
theorem qC {loops:List (List Place)} (ok:Fv loops):(up (stL loops) loops.length).Nodup:=ZW (rH ok)
theorem dB {loops:List (List Place)} (ok:Fv loops):((up (pdL loops) loops.length).map Sd.spot).Nodup:=ZW (c:=cd3) (by rw[Qcl];exact Ym ok)
def ZQ (C:Addr):Sp:=λvs H Q _=>∃p dx pl most loops zones,vs=[.ref p,.ref pl]/\H p=some (.ins C dx [])/\Ij H pl most loops zones/\∀d1 d2 d3 H',H d1=none->H d2=none->d1≠d2->WAt C H' p pl d1 d2 d3 (hs0 loops) (fl0 loops)->Ai p H H'->Q .non H'
section
variable {P:Program} {w:World} {K:PySem.W.Frag} {mg:Str->Option Value} {base:Heap} {op oe kd wk C:Addr}
theorem lZ (c:Dv K C "there" "Wires.there" Ek Fz) (T:Tw K mg op oe kd wk C):T5 P w K mg base C "there" 1 Fz (ZF C):=by
 refine c.good Ud (λvs H Q E h=>?_) (λf cdv A outer s H vs Q E hr h=>?_)
 ·obtain⟨p,pl,d1,d2,d3,hs,fl,rfl,_⟩:=h
  rfl
 obtain⟨p,pl,d1,d2,d3,hs,fl,rfl,R,q⟩:=h
 refine⟨_,(Aj (Bc (lK rfl (Cq (N':=["spot","held"]) rfl (Bm.plain rfl (by trivial) (by trivial) (by trivial)) (gw (JL (pv 0) rfl)) (λ_ _ _ _=>(Jv (K:=K) (n:=2) rfl rfl (Aq (Ak (i:=0) (show List.Nodup (["spot","held"]:List Str) by trivial) rfl (Or.inl rfl)) (Aq (Ak (i:=1) (show List.Nodup (["spot","held"]:List Str) by trivial) rfl (Or.inl rfl)) BK)))) (λ_ _ _ _=>(MF (Bs sH (pv 1) JK (BP _)))) (λ_ _ _ _=>(Bk (Aa (pv 0) (Aa (Bq (aj (K:=K) rfl) (pv 1) Ae (λ_ _=>rfl)) (Aa (Bq (aj (K:=K) rfl) (pv 1) Ae (λ_ _=>rfl)) Ab))))))))),?_⟩
 obtain⟨dx,hp⟩:=R.ins
 obtain⟨kvs,hk,hf⟩:=R.fi
 have lk:=QbX hf
 have l2:=R.l2
 have nfz:∀o' u,H d2≠some (.frz o' u):=λo' u z=>by rw[hk] at z;cases z
 have nt:∀zs,H d2≠some (.tup zs):=λzs z=>by rw[hk] at z;cases z
 refine⟨_,rfl,p,C,dx,_,_,rfl,hp,T.cl,T.Kl,Lx pl d1 d2 d3,d2,kvs,rfl,hk,λo l hl=>?_⟩
 have nl:l≠d2:=λz=>by rw[z,Ac] at hl;cases hl
 have MV:H l=none:=by rw[Al nl] at hl;exact hl
 have sT:Am H (upd H d2 (.frz o (.dT kvs))):=Am.upd nt
 refine pR (λi σ HH=>(∃u v,σ=[u,v])/\(∃tv,HH l=some (.lst tv)/\Paired (Ia HH) tv (FN (fl.take i))/\tv.length<=i)/\Same (upd H d2 (.frz o (.dT kvs))) HH) ⟨⟨none,none,rfl⟩,⟨[],Ac,.nil,Qcq _⟩,Af hl _⟩ (λi σ HH _ h=>h.2.2 _ _ Ac) (λi kv p' b σ HH hkv h hp' hb=>?_) (fun σ HH h=>?_)
 ·obtain⟨⟨u,v,rfl⟩,⟨tv,e1,e2,e3⟩,s1⟩:=h
  obtain⟨x,hx,hfx⟩:=Paired.Cm hf hkv
  have hi:=(Qah.mp hkv).1
  have t1:=Af hp' (.tup [.ref b,kv.2])
  have et:FN (fl.take (i+1))=FN (fl.take i)++FN [x]:=by rw[Qcy hx,aX]
  refine⟨p',_,rfl,SqT.of Ac,rfl,_,_,rfl,_,_,rfl,rfl,?_⟩
  refine⟨_,rfl,rfl,_,rfl,?_⟩
  obtain⟨k1,k2⟩:=hfx
  obtain⟨xs,xo⟩:=x
  cases xo with
  | none=>
   have k2:kv.2=.non:=k2
   rw[k2]
   refine Cy ⟨⟨_,_,rfl⟩,⟨tv,?_,?_,by omega⟩,?_⟩
   ·rw[k2] at t1
    exact t1 _ _ e1
   ·rw[et,aY,QbF]
    rw[k2] at t1
    exact Paired.Bb e2 λ_ _ z=>z.tups (Am.of t1)
   ·rw[k2] at t1
    exact s1.trans t1
  | some d=>
   obtain⟨t,k2,ht⟩ : ∃t,kv.2=.ref t/\H t=some (.tup [.str d.1,.int d.2]):=k2
   rw[k2] at t1 ⊢
   have s2:=s1.trans t1
   have ht1:=s2 _ _ (sT _ _ ht)
   have hb1:=t1 _ _ hb
   rw[k1] at hb1
   refine Ce ⟨_,rfl,_,rfl,t,_,_,_,rfl,rfl,SqT.of ht1,rfl,_,rfl,t,_,_,_,rfl,rfl,SqT.of ht1,rfl,Ar (by show 3<=1000;decide),λtt htt=>?_⟩
   have t2:=Af htt (.tup [.ref b,.str d.1,.int d.2])
   have e1':=t2 _ _ (t1 _ _ e1)
   have ntl:∀zs,(upd (upd HH p' (.tup [.ref b,.ref t])) tt (.tup [.ref b,.str d.1,.int d.2])) l≠some (.tup zs):=λzs z=>by rw[e1'] at z;cases z
   have sL:=Am.upd (o:=.lst (tv++[.ref tt])) ntl
   refine⟨tv,e1',Ao (by omega),⟨_,_,rfl⟩,⟨tv++[.ref tt],Ac,?_,by rw[QaQ];show _+1<=_;omega⟩,(s2.trans t2).Bv Ai.upd hl⟩
   rw[et,aW]
   exact Qcs ⟨tt,b,rfl,sL _ _ Ac,sL _ _ (t2 _ _ hb1)⟩ (Paired.Bb e2 λ_ _ z=>(z.tups (Am.of (t1.trans t2))).tups sL)
 ·obtain⟨_,⟨tv,e1,e2,e3⟩,s1⟩:=h
  rw[lk,Qbt] at e2
  have hfz:=s1 _ _ Ac
  have ntz:∀zs,HH d2≠some (.tup zs):=λzs z=>by rw[hfz] at z;cases z
  exact⟨d2,o,kvs,hfz,nfz,q l tv _ MV (by rw[Al nl];exact e1) (Paired.Bb e2 λ_ _ z=>z.tups (Am.upd ntz)) (eV s1 hk)⟩
theorem mF (F:∃f fd,Fun K "__init__" "Wires.__init__" Dk f fd/\Mk K C f/\Binds K fd DW []) (T:Tw K mg op oe kd wk C) (Y7:Good P w K mg base "is_let_by" 10 Iz QH) (Y4:Good P w K mg base "stretches" 1 Iu qD) (HN:Good P w K mg base "devices" 2 GF SQ) (iV:Good P w K mg base "openers" 1 KQ qF):dY P w K mg base C 11 DW (ZQ C):=by
 obtain⟨f,fd,F,Mk,b⟩:=F
 refine⟨f,fd,Mk,b,F.ok Rf (λvs H Q E h=>?_) (λcdv A outer s H vs Q E hr h=>?_)⟩
 ·obtain⟨p,dx,pl,most,loops,zones,rfl,_⟩:=h
  rfl
 obtain⟨p,dx,pl,most,loops,zones,rfl,hp,pa,q⟩:=h
 refine⟨_,(Ah (BW (FT (FQ (Ay Y7 hr (Aa (pv 1) Ab)))) (Aj lG) BX)
 (Ah (QS (pv 0) (pv 1) rfl)
 (Ah (QS (pv 0) (Qf (Dh hr) (N':=["stretch"]) rfl (Bm.plain rfl (by trivial) (by trivial) (by trivial)) (DQ (Ay Y4 hr (Aa (pv 1) Ab))) (λ_ _ _ _=>(Ak (i:=0) (show List.Nodup (["stretch"]:List Str) by trivial) rfl (Or.inl rfl))) (λ_ _ _ _=>CT) (λ_ _ _ _=>(pv 0)) (λ_ _ _ _=>Bh)) rfl)
 (Ah (QS (pv 0) (Qf (Dh hr) (N':=["spot","kind","address"]) rfl (Bm.plain rfl (by trivial) (by trivial) (by trivial)) (DQ (Ay HN hr (Aa (pv 1) Ab))) (λ_ _ _ _=>(Jv (K:=K) (n:=3) rfl rfl (Aq (Ak (i:=0) (show List.Nodup (["spot","kind","address"]:List Str) by trivial) rfl (Or.inl rfl)) (Aq (Ak (i:=1) (show List.Nodup (["spot","kind","address"]:List Str) by trivial) rfl (Or.inl rfl)) (Aq (Ak (i:=2) (show List.Nodup (["spot","kind","address"]:List Str) by trivial) rfl (Or.inl rfl)) BK))))) (λ_ _ _ _=>CT) (λ_ _ _ _=>(pv 0)) (λ_ _ _ _=>(Bk (Aa (pv 1) (Aa (pv 2) Ab))))) rfl)
 (Aj (QS (pv 0) (Qf (Dh hr) (N':=["opener"]) rfl (Bm.plain rfl (by trivial) (by trivial) (by trivial)) (DQ (Ay iV hr (Aa (pv 1) Ab))) (λ_ _ _ _=>(Ak (i:=0) (show List.Nodup (["opener"]:List Str) by trivial) rfl (Or.inl rfl))) (λ_ _ _ _=>CT) (λ_ _ _ _=>(pv 0)) (λ_ _ _ _=>Fw)) rfl)))))),?_⟩
 have ok:=pa.ok
 have ntp:∀zs,H p≠some (.tup zs):=λzs z=>by rw[hp] at z;cases z
 refine⟨_,rfl,pl,most,loops,zones,rfl,pa,λH0 s0=>⟨_,rfl,Cy ?_⟩⟩
 refine⟨_,rfl,_,rfl,p,C,dx,_,_,rfl,s0 _ _ hp,T.cl,T.gY,(by show 0 < 1000;decide),Qq (by show _∉([]:List Str);decide +kernel),λH1 h1 s1=>?_⟩
 have r1:Ai p H H1:=(Ai.of s0).trans s1
 have pa1:=pa.tups (r1.tup ntp)
 refine⟨_,rfl,pl,loops,rfl,pa1.plan,ok,λla xa H2 hla hxa hpa s2=>⟨la,rfl,⟨_,SqL.of hxa⟩,λd1 f1=>?_⟩⟩
 have lxa:=QbX hpa
 have A2:=Wr ok
 have nda:=qC ok
 refine NZ (xs:=xa) (λi σ HH=>(∃u,σ=[u])/\HH d1=some (.dT (stV (((up (stL loops) loops.length).take i).map λs=>(s,"whole"))))/\Same H2 HH) ⟨⟨_,rfl⟩,Ac,Af f1 _⟩ (λi σ HH _ h=>SqL.of (h.2.2 _ _ hxa)) (λi x σ HH hx h=>?_) (fun σ HH h=>?_)
 ·obtain⟨⟨u,rfl⟩,e1,e2⟩:=h
  obtain⟨sp,hsp,t,rfl,ht⟩:=Paired.Cm hpa hx
  have hi:=(Qah.mp hx).1
  unfold Ii
  dsimp only
  refine Ce ⟨_,rfl,_,k3 sp,t,e1,rfl,e2 _ _ ht,Ao (by unfold stV;rw[QbB,QbB,Qbs];omega),⟨_,rfl⟩,?_,e2.Bv Ai.upd f1⟩
  rw[Ac,Mu,Qcy hsp]
  ·unfold stV
   rw[QbC,QbC]
   rfl
  ·refine JW λy hy e=>?_
   unfold stV at hy
   rw[Qcl] at hy
   obtain⟨z,hz,rfl⟩:=Qci.mp hy
   exact Ur nda hsp z hz (Gb e)
 obtain⟨_,e1,e2⟩:=h
 rw[lxa,Qbt] at e1
 have e1:HH d1=some (.dT (stV (hs0 loops))):=e1
 have r2:Ai p H HH:=r1.trans (Ai.of (s2.trans e2))
 refine⟨_,rfl,p,C,dx,_,_,rfl,e2 _ _ (s2 _ _ h1),T.cl,T.Jh,(by show 1 < 1000;decide),Qq (by show _∉(["plan"]:List Str);decide +kernel),λH3 h3 s3=>?_⟩
 have np1:d1≠p:=λz=>by rw[z,s2 _ _ h1] at f1;cases f1
 have u1:=s3 _ _ e1 np1
 have r3:Ai p H H3:=r2.trans s3
 have f1':H d1=none:=by
  cases e:H d1 with
  | none=>rfl
  | some v=>have:=r1.trans (Ai.of s2) _ _ e np1;rw[f1] at this;cases this
 clear s3 e1 e2 r2
 have pa3:=pa.tups (r3.tup ntp)
 refine⟨_,rfl,pl,loops,rfl,pa3.plan,ok,λlb xb H4 hlb hxb hpb s4=>⟨lb,rfl,⟨_,SqL.of hxb⟩,λd2 f2=>?_⟩⟩
 have lxb:=QbX hpb
 have A1:=jo ok
 have ndb:=dB ok
 refine NZ (xs:=xb) (λi σ HH=>(∃u v t,σ=[u,v,t])/\(∃kvs,HH d2=some (.dT kvs)/\Paired (Dz HH) kvs (((up (pdL loops) loops.length).take i).map λd=>(d.spot,some (d.kind,d.addr))))/\Same H4 HH) ⟨⟨_,_,_,rfl⟩,⟨[],Ac,.nil⟩,Af f2 _⟩ (λi σ HH _ h=>SqL.of (h.2.2 _ _ hxb)) (λi x σ HH hx h=>?_) (fun σ HH h=>?_)
 ·obtain⟨⟨u,v,t,rfl⟩,⟨kvs,e1,e3⟩,e2⟩:=h
  obtain⟨d,hd,tt,uu,rfl,h5,h6⟩:=Paired.Cm hpb hx
  have hi:=(Qah.mp hx).1
  have lk:=QbX e3
  rw[QbB,Qbs] at lk
  refine⟨tt,_,rfl,SqT.of (e2 _ _ h5),rfl,_,_,rfl,_,_,rfl,_,_,rfl,rfl,?_⟩
  refine Ce ⟨_,rfl,_,rfl,_,rfl,Ar (by show 2<=1000;decide),λtn htn=>?_⟩
  have t1:=Af htn (.tup [.str d.kind,.int d.addr])
  have e1':=t1 _ _ e1
  have ntd:∀zs,(upd HH tn (.tup [.str d.kind,.int d.addr])) d2≠some (.tup zs):=λzs z=>by rw[e1'] at z;cases z
  refine⟨kvs,k3 d.spot,uu,e1',rfl,t1 _ _ (e2 _ _ h6),Ao (by omega),⟨_,_,_,rfl⟩,⟨_,Ac,?_⟩,(e2.trans t1).Bv Ai.upd f2⟩
  rw[Mu,Qcy hd,QbC]
  ·have sL:=Am.upd (o:=.dT (kvs++[(k3 d.spot,V.ref tn)])) ntd
   exact Qcs ⟨rfl,⟨tn,rfl,sL _ _ Ac⟩⟩ (Paired.Bb e3 λ_ _ z=>(z.tups (Am.of t1)).tups sL)
  ·refine JW λy hy e=>?_
   have:y.1∈kvs.map (·.1):=Qci.mpr ⟨y,hy,rfl⟩
   rw[Kq e3,Qcl] at this
   obtain⟨z,hz,ez⟩:=Qci.mp this
   exact Kw ndb hd z hz (Gb (by rw[<-e,<-ez];rfl))
 obtain⟨_,⟨kvs,e1,e3⟩,e2⟩:=h
 rw[lxb,Qbt] at e3
 have e3:Paired (Dz HH) kvs (fl0 loops):=e3
 have h4:=e2 _ _ (s4 _ _ h3)
 have Ix:∀zs,HH p≠some (.tup zs):=λzs z=>by rw[h4] at z;cases z
 have u2:=e2 _ _ (s4 _ _ u1)
 refine⟨_,rfl,p,C,dx,_,_,rfl,h4,T.cl,T.Kl,(by show 2 < 1000;decide),Qq (by show _∉(["plan","states"]:List Str);decide +kernel),λH5 h5 s5=>?_⟩
 have np2:d2≠p:=λz=>by rw[z,s4 _ _ h3] at f2;cases f2
 have n12:d1≠d2:=Av (s4 _ _ u1) f2
 have u3:=s5 _ _ u2 np1
 have v3:=s5 _ _ e1 np2
 have w3:Paired (Dz H5) kvs (fl0 loops):=Paired.Bb e3 λ_ _ z=>z.tups (s5.tup Ix)
 have r5:Ai p H H5:=r3.trans ((Ai.of (s4.trans e2)).trans s5)
 have f2':H d2=none:=by
  cases e:H d2 with
  | none=>rfl
  | some v=>have:=r3.trans (Ai.of s4) _ _ e np2;rw[f2] at this;cases this
 clear s5 e1 e2 e3 u1 u2 h3 h4
 have pa5:=pa.tups (r5.tup ntp)
 have Sb:∀zs,H5 p≠some (.tup zs):=λzs z=>by rw[h5] at z;cases z
 refine⟨_,rfl,pl,loops,rfl,pa5.plan,ok,λlc xc H6 hlc hxc hpc s6=>⟨lc,rfl,⟨_,SqL.of hxc⟩,λd3 f3=>?_⟩⟩
 have lxc:=QbX hpc
 have RU:=v9 ok
 refine NZ (xs:=xc) (λi σ HH=>(∃u,σ=[u])/\(∃kvs,HH d3=some (.dT kvs)/\kvs.length<=i)/\Same H6 HH) ⟨⟨_,rfl⟩,⟨[],Ac,Qcq _⟩,Af f3 _⟩ (λi σ HH _ h=>SqL.of (h.2.2 _ _ hxc)) (λi x σ HH hx h=>?_) (fun σ HH h=>?_)
 ·obtain⟨⟨u,rfl⟩,⟨kvs',e1,e3⟩,e2⟩:=h
  obtain⟨g,hg,t,rfl,ht⟩:=Paired.Cm hpc hx
  have hi:=(Qah.mp hx).1
  unfold Ii
  dsimp only
  have:=Ja kvs' [Sum.inl g.lp,Sum.inl g.at_] (.bl false)
  exact Ce ⟨_,rfl,kvs',[.inl g.lp,.inl g.at_],t,e1,rfl,e2 _ _ ht,Ao (by omega),⟨_,rfl⟩,⟨_,Ac,by omega⟩,e2.Bv Ai.upd f3⟩
 obtain⟨_,⟨kvs',e1,e3⟩,e2⟩:=h
 have s7:=s6.trans e2
 refine⟨_,rfl,p,C,dx,_,_,rfl,s7 _ _ h5,T.cl,T.gZ,(by show 3 < 1000;decide),Qq (by show _∉(["plan","states","filled"]:List Str);decide +kernel),λH8 h8 s8=>?_⟩
 have Iq:∀zs,HH p≠some (.tup zs):=λzs z=>by rw[s7 _ _ h5] at z;cases z
 exact q d1 d2 d3 H8 f1' f2' n12 ⟨⟨dx,h8⟩,s8 _ _ (s7 _ _ u3) np1,⟨kvs,s8 _ _ (s7 _ _ v3) np2,Paired.Bb w3 λ_ _ z=>(z.tups (Am.of s7)).tups (s8.tup Iq)⟩,by rw[Ux];exact nda,by rw[Q5];exact ndb,by unfold hs0;rw[QbB];exact A2,by unfold fl0;rw[QbB];exact A1⟩ (r5.trans ((Ai.of s7).trans s8))
end
abbrev Hy:Stmt:=top 60
abbrev KZ:List Str:=["_law_plan_here"]
theorem DY:Ba ["_law_plan_here","_law_wires","_law_spots","_law_loop_here","_law_at","_law_kind_here","_law_address","_law_spur","_law_way"] KZ (Ag Hy):=⟨rfl,rfl,rfl,by trivial,rfl,by trivial,by trivial⟩
def gF (d:Sd):Sp3×Option (Str×Int):=(d.spot,some (d.kind,d.addr))
theorem QB {α : Type} {f:Nat->List α} {k:Nat}:∀{n:Nat},k<=n->up f k <+: up f n
 | 0,h=>by rw[show k=0 by omega];exact List.prefix_refl _
 | n+1,h=>by
  by_cases e:k=n+1
  ·rw[e];exact List.prefix_refl _
  ·rw[CW]
   exact List.IsPrefix.trans (QB (by omega)) (List.prefix_append _ _)
theorem Wh {α : Type} {f:Nat->List α} {k n:Nat} (h:k < n) {l:List α} (hl:l <+: f k):up f k++l <+: up f n:=by
 refine List.IsPrefix.trans ?_ (QB (f:=f) (show k+1<=n by omega))
 rw[CW]
 exact (List.prefix_append_right_inj _).mpr hl
theorem SM (lp a:Int):∀(n:Nat) (ds:List Dev) (m:Nat),Ca lp a n (ds.take m) <+: Ca lp a n ds
 | _,[],m=>by rw[List.take_nil];exact List.prefix_refl _
 | n,d::r,0=>List.nil_prefix
 | n,d::r,m+1=>by
  rw[List.take_succ_cons]
  show _::Ca lp a (n+1) (r.take m) <+: _::Ca lp a (n+1) r
  exact List.cons_prefix_cons.mpr ⟨rfl,SM lp a (n+1) r m⟩
theorem Z1 {l m:List Sd} {e:Sd} (h:l++[e] <+: m) (nd:(m.map Sd.spot).Nodup):∀z∈l,z.spot≠e.spot:=λz hz=>by
 have:=(List.Sublist.map Sd.spot h.sublist).nodup nd
 rw[QbC] at this
 exact (List.nodup_append.mp this).2.2 z.spot (Qci.mpr ⟨z,hz,rfl⟩) e.spot (QaR ..)
theorem Yg {H H':Hp} {kvs:List (List Key×V)} {l:List Sd} {e:Sd} {v:V} (h:Paired (Dz H) kvs (l.map gF)) (hn:∀z∈l,z.spot≠e.spot) (hv:HeldAt H' v (some (e.kind,e.addr))) (t:Am H H'):putK kvs (k3 e.spot) v=kvs++[(k3 e.spot,v)]/\Paired (Dz H') (kvs++[(k3 e.spot,v)]) ((l++[e]).map gF):=by
 refine⟨Mu _ (JW λy hy ey=>?_),?_⟩
 ·have:y.1∈kvs.map (·.1):=Qci.mpr ⟨y,hy,rfl⟩
  rw[Kq h,Qcl] at this
  obtain⟨z,hz,ez⟩:=Qci.mp this
  exact hn z hz (Gb (by rw[<-ey,<-ez];rfl))
 ·rw[QbC]
  exact Qcs ⟨rfl,hv⟩ (Paired.Bb h λ_ _ z=>z.tups t)
def ZP:Sp:=λvs H Q _=>∃pl most loops zones,vs=[.ref pl]/\Ij H pl most loops zones/\∀t l d xs kvs H',H l=none->H d=none->H' t=some (.tup [.ref l,.ref d])->H' l=some (.lst xs)->Paired (Gq H') xs (up (stL loops) loops.length)->H' d=some (.dT kvs)->Paired (Dz H') kvs ((up (pdL loops) loops.length).map gF)->Same H H'->Q (.ref t) H'
structure Two (H0 H:Hp) (l d:Addr) (W:List Sp3) (S:List Sd):Prop where
 ls:∃xs,H l=some (.lst xs)/\Paired (Gq H) xs W
 ds:∃kvs,H d=some (.dT kvs)/\Paired (Dz H) kvs (S.map gF)
 sm:Same H0 H
theorem Two.same {H0 H H':Hp} {l d:Addr} {W:List Sp3} {S:List Sd} (h:Two H0 H l d W S) (s:Same H H'):Two H0 H' l d W S:=by
 obtain⟨xs,e1,e2⟩:=h.ls
 obtain⟨kvs,e3,e4⟩:=h.ds
 exact⟨⟨xs,s _ _ e1,Paired.Bb e2 λ_ _ z=>z.tups (Am.of s)⟩,⟨kvs,s _ _ e3,Paired.Bb e4 λ_ _ z=>z.tups (Am.of s)⟩,h.sm.trans s⟩
theorem Two.put {H0 H:Hp} {l d t u:Addr} {W:List Sp3} {S:List Sd} {e:Sd} {m:List Sd} (h:Two H0 H l d W S) (hd:H0 d=none) (nld:l≠d) (hpre:S++[e] <+: m) (nd:(m.map Sd.spot).Nodup) (hm:m.length<=200) (ht:H t=some (.tup [.int e.lp,.int e.at_,.int e.n])) (hu:H u=some (.tup [.str e.kind,.int e.addr])) :
  ∃H',Hl H d (.ref t) (.ref u) H'/\Two H0 H' l d W (S++[e]):=by
 obtain⟨xs,e1,e2⟩:=h.ls
 obtain⟨kvs,e3,e4⟩:=h.ds
 have lk:=QbX e4
 rw[QbB] at lk
 have ll:=hpre.length_le
 rw[QaQ] at ll
 have nt:∀zs,H d≠some (.tup zs):=λzs z=>by rw[e3] at z;cases z
 have hsz:kvs.length < sizeLine:=Ao (by omega)
 have sT:∀o,Am H (upd H d o):=λo=>Am.upd nt
 obtain⟨g1,_⟩:=Yg (H':=H) (v:=.ref u) e4 (Z1 hpre nd) ⟨u,rfl,hu⟩ (Am.of (Same.refl H))
 refine⟨_,Hl.t (k:=k3 e.spot) e3 ht hsz,?_⟩
 rw[g1]
 have g2:=(Yg (H':=upd H d (.dT (kvs++[(k3 e.spot,.ref u)]))) (v:=.ref u) e4 (Z1 hpre nd) ⟨u,rfl,sT _ _ _ hu⟩ (sT _)).2
 exact⟨⟨xs,by rw[Al nld];exact e1,Paired.Bb e2 λ_ _ z=>z.tups (sT _)⟩,⟨_,Ac,g2⟩,h.sm.Bv Ai.upd hd⟩
section
variable {P:Program} {w:World} {K:PySem.W.Frag} {mg:Str->Option Value} {base:Heap} {op oe kd wk C:Addr}
theorem mC (c:Code K mg "_law_lists" Hy KZ) (T:Tw K mg op oe kd wk C):Good P w K mg base "_law_lists" 1 KZ ZP:=by
 have sc:=DY
 refine c.good DY (λvs H Q E h=>?_) (λf cdv A outer s H vs Q E hr h=>?_)
 ·obtain⟨pl,most,loops,zones,rfl,_⟩:=h
  rfl
 obtain⟨pl,most,loops,zones,rfl,pa,q⟩:=h
 refine⟨_,(Ah (Bd (i:=1) DY.nd rfl (Or.inl rfl) (BR Ab))
 (Ah (Bd (i:=2) DY.nd rfl (Or.inl rfl) lO)
 (Ah (BZ QbE rfl (Cv rfl T.range (Aa (Aw Bu rfl T.len Dg (Aa (Bq Cr (pv 0) Ae (λ_ _=>rfl)) Ab)) Ab)) (Ak (i:=3) DY.nd rfl (Or.inr rfl))
 (Ah (Bj (CQ Qaq Qal Qam Cg (pv 1) (Aa (Bk (Aa (pv 3) (Aa Ae (Aa Ae Ab)))) Ab)))
 (Aj (BZ QbE rfl (Cv rfl T.range (Aa (Aw Bu rfl T.len Dg (Aa (Bq Cr (Bq Cr (pv 0) Ae (λ_ _=>rfl)) (pv 3) (λ_ _=>rfl)) Ab)) Ab)) (Ak (i:=4) DY.nd rfl (Or.inr rfl))
 (Ah (KN (Bq Cr (Bq Cr (Bq Cr (pv 0) Ae (λ_ _=>rfl)) (pv 3) (λ_ _=>rfl)) (pv 4) (λ_ _=>rfl)) (Df rfl (Aq (Ak (i:=5) DY.nd rfl (Or.inl rfl)) (Aq (Ak (i:=6) DY.nd rfl (Or.inl rfl)) (Aq (Ak (i:=7) DY.nd rfl (Or.inl rfl)) BK)))))
 (Ah (BW (Bs qK (pv 5) Bh (BP _)) (Aj (Fg (Dh hr) (pv 2) (Bk (Aa (pv 3) (Aa (Bg Cp (pv 4) Ae) (Aa Ae Ab)))) (Bk (Aa (pv 5) (Aa (pv 6) Ab))) rfl)) BX)
 (Ah (BZ QbE rfl (Cv rfl T.range (Aa (Aw Bu rfl T.len Dg (Aa (pv 7) Ab)) Ab)) (Ak (i:=8) DY.nd rfl (Or.inl rfl))
 (Aj (Fg (Dh hr) (pv 2) (Bk (Aa (pv 3) (Aa (Bg Cp (pv 4) Ae) (Aa (Bg Cp (pv 8) Ae) Ab)))) (Bq Cr (pv 7) (pv 8) (λ_ _=>rfl)) rfl)))
 (Aj (Bj (CQ Qaq Qao Qap Jw (pv 1) (Aa (Cq (N':=["_law_way","_law_loop_here","_law_at"]) rfl (Bm.of (src:=[none,some 3,some 4]) (Ag Hy) ["_law_plan_here","_law_wires","_law_spots","_law_loop_here","_law_at","_law_kind_here","_law_address","_law_spur","_law_way"] rfl rfl rfl (by trivial) (by trivial) (by trivial) rfl (by trivial)) (Cv rfl T.range (Aa (Bg Cp (Aw Bu rfl T.len Dg (Aa (pv 7) Ab)) Ae) Ab)) (λ_ _ _ _=>(Ak (i:=0) (show List.Nodup (["_law_way","_law_loop_here","_law_at"]:List Str) by trivial) rfl (Or.inl rfl))) (λ_ _ _ _=>CT) (λ_ _ _ _=>(Bk (Aa (pv 1) (Aa (Bg Cp (pv 2) Ae) (Aa (pv 0) Ab)))))) Ab)))))))))))
 (Aj (Bc (Bk (Aa (pv 1) (Aa (pv 2) Ab)))))))),?_⟩
 have ok:=pa.ok
 have nd:=dB ok
 have wM:=jo ok
 have vN:=Wr ok
 obtain⟨Ls,zs,ws,zvs,f1,f2,f3,f4,f5⟩:=pa.at_
 have lw:=QbX f3
 have l3:=ok.hi
 refine⟨Ar (by show 0<=1000;decide),λl hl=>?_⟩
 refine λd hd=>?_
 have n1:=Af hl (.lst [])
 have n2:=Af hd (.dT [])
 have hd0:H d=none:=n1.free hd
 have nld:l≠d:=Av Ac hd
 have t0:Two H (upd (upd H l (.lst [])) d (.dT [])) l d [] []:=⟨⟨[],n2 _ _ Ac,.nil⟩,⟨[],Ac,.nil⟩,n1.trans n2⟩
 generalize upd (upd H l (.lst [])) d (.dT [])=H1 at *
 have s1:=t0.sm
 refine⟨_,rfl,pl,_,_,_,rfl,rfl,SqT.of (s1 _ _ f1),rfl,Ls,_,rfl,.inr (SqT.of (s1 _ _ f2)),_,rfl,by omega,by omega,?_⟩
 rw[Qbk]
 refine Du (λk σ HH=>∃u3 u4 u5 u6 u7 u8,σ=[some (.ref pl),some (.ref l),some (.ref d),u3,u4,u5,u6,u7,u8]/\Two H HH l d (up (stL loops) k) (up (pdL loops) k)) ⟨_,_,_,_,_,_,rfl,t0⟩ (λk σ HH hk h=>?_) (fun σ HH h=>?_)
 ·obtain⟨u3,u4,u5,u6,u7,u8,rfl,tw⟩:=h
  have hwk:ws[k]?=some ws[k]:=Qan hk
  obtain⟨ps,hps,t,vs',ev,ht,hpp⟩:=Paired.Cm f3 hwk
  have lv:=QbX hpp
  have hkl:k < loops.length:=by omega
  have okl:=ok.ok ps (QaD hps)
  have l12:=okl.hi
  have yw:stL loops k=⟨k,0,0⟩::up (st1 k ps) ps.length:=Dr hps
  have yC:pdL loops k=up (pd1 k ps) ps.length:=Dr hps
  obtain⟨xs,e1,e2⟩:=tw.ls
  have lx:=QbX e2
  have lst:(up (stL loops) k).length<=200:=Qck (QB (f:=stL loops) (Qcn hkl)).length_le vN
  refine⟨_,rfl,.inl ⟨rfl,_,SqL.of e1⟩,_,rfl,Ar (by show 3<=1000;decide),λta hta=>?_⟩
  rw[Qco]
  have a1:=Af hta (.tup [.int (k:Int),.int 0,.int 0])
  have e1a:=a1 _ _ e1
  refine⟨l,_,_,rfl,rfl,e1a,Ao (by omega),?_⟩
  have ntl:∀zs,(upd HH ta (.tup [.int (k:Int),.int 0,.int 0])) l≠some (.tup zs):=λzs z=>by rw[e1a] at z;cases z
  have sL:=Am.upd (o:=.lst (xs++[.ref ta])) ntl
  have tw1:Two H (upd (upd HH ta (.tup [.int (k:Int),.int 0,.int 0])) l (.lst (xs++[.ref ta]))) l d (up (stL loops) k++⟨k,0,0⟩::up (st1 k ps) 0) (up (pdL loops) k++up (pd1 k ps) 0):=by
   obtain⟨kvs,e3,e4⟩:=tw.ds
   refine⟨⟨_,Ac,?_⟩,⟨kvs,by rw[Al nld.symm];exact a1 _ _ e3,?_⟩,(tw.sm.trans a1).Bv Ai.upd hl⟩
   ·rw[J0]
    exact Qcs ⟨ta,rfl,sL _ _ Ac⟩ (Paired.Bb e2 λ_ _ z=>(z.tups (Am.of a1)).tups sL)
   ·rw[J0,QbF]
    exact Paired.Bb e4 λ_ _ z=>(z.tups (Am.of a1)).tups sL
  generalize upd (upd HH ta (.tup [.int (k:Int),.int 0,.int 0])) l (.lst (xs++[.ref ta]))=H2 at *
  have s2:=tw1.sm
  have xV:atI ws (k:Int)=some (.ref t):=Gz (by rw[hwk,ev])
  refine⟨_,rfl,pl,_,_,_,rfl,rfl,SqT.of (s2 _ _ f1),rfl,_,rfl,Ls,_,_,_,rfl,rfl,SqT.of (s2 _ _ f2),xV,t,_,rfl,.inr (SqT.of (s2 _ _ ht)),_,rfl,by omega,by omega,?_⟩
  rw[Qbk]
  refine Du (λi σ HX=>∃u4 u5 u6 u7 u8,σ=[some (.ref pl),some (.ref l),some (.ref d),some (.int (k:Int)),u4,u5,u6,u7,u8]/\Two H HX l d (up (stL loops) k++⟨k,0,0⟩::up (st1 k ps) i) (up (pdL loops) k++up (pd1 k ps) i)) ⟨_,_,_,_,_,rfl,tw1⟩ (λi σ HX hi h=>?_) (fun σ HX h=>?_)
  ·obtain⟨u4,u5,u6,u7,u8,rfl,tx⟩:=h
   have hvi:vs'[i]?=some vs'[i]:=Qan hi
   obtain⟨p,hp,tp,up',wsp,ep,hpt,hpu,hpd⟩:=Paired.Cm hpp hvi
   have okp:=okl.ok p (QaD hp)
   have sp3:=okp.spur
   have lwp:=QbX hpd
   have hil:i < ps.length:=by omega
   have MW:st1 (k:Int) ps i=(List.range (p.spur.length+1)).map λn:Nat=>⟨k,((1+i:Nat):Int),(n:Int)⟩:=Dr hp
   have yD:pd1 (k:Int) ps i=Bt k ((1+i:Nat):Int) p:=Dr hp
   have s3:=tx.sm
   have LL:atI vs' ((0:Int)+(i:Int))=some (.ref tp):=by rw[Qco];exact Gz (by rw[hvi,ep])
   refine⟨_,rfl,pl,_,_,_,rfl,rfl,SqT.of (s3 _ _ f1),rfl,_,rfl,Ls,_,_,_,rfl,rfl,SqT.of (s3 _ _ f2),xV,_,rfl,t,_,_,_,rfl,rfl,SqT.of (s3 _ _ ht),LL,tp,_,rfl,SqT.of (s3 _ _ hpt),rfl,_,_,rfl,_,_,rfl,_,_,rfl,rfl,?_⟩
   simp only[QaU,QaT]
   rw[Qco]
   have hpre:∀l',l' <+: Bt (k:Int) ((1+i:Nat):Int) p->(up (pdL loops) k++up (pd1 k ps) i)++l' <+: up (pdL loops) loops.length:=λl' hl'=>by
    rw[Qbh]
    refine Wh hkl ?_
    rw[yC]
    exact Wh hil (by rw[yD];exact hl')
   have e1i:((1+i:Nat):Int)=(i:Int)+1:=by omega
   refine Va (fun σ' H'=>σ'=[some (.ref pl),some (.ref l),some (.ref d),some (.int (k:Int)),some (.int (i:Int)),some (.str p.kind),some (.int p.addr),some (.ref up'),u8]/\Two H H' l d (up (stL loops) k++⟨k,0,0⟩::up (st1 k ps) i) ((up (pdL loops) k++up (pd1 k ps) i)++(if V.str p.kind=V.str "opener" then [] else [⟨k,((1+i:Nat):Int),0,p.kind,p.addr⟩]))) (fun σ' H' h=>?_) (λD' hD=>?_)
   ·obtain⟨rfl,ty⟩:=h
    have s4:=ty.sm
    refine⟨_,rfl,up',_,rfl,.inr (SqT.of (s4 _ _ hpu)),_,rfl,by omega,by omega,?_⟩
    rw[Qbk]
    refine Du (λj σ HY=>∃u8,σ=[some (.ref pl),some (.ref l),some (.ref d),some (.int (k:Int)),some (.int (i:Int)),some (.str p.kind),some (.int p.addr),some (.ref up'),u8]/\Two H HY l d (up (stL loops) k++⟨k,0,0⟩::up (st1 k ps) i) ((up (pdL loops) k++up (pd1 k ps) i)++((if V.str p.kind=V.str "opener" then [] else [⟨k,((1+i:Nat):Int),0,p.kind,p.addr⟩])++Ca k ((1+i:Nat):Int) 1 (p.spur.take j)))) ⟨_,rfl,by rw[List.take_zero];show Two _ _ _ _ _ (_++(_++[]));rw[QbF];exact ty⟩ (λj σ HY hj h=>?_) (fun σ HY h=>?_)
    ·obtain⟨u8,rfl,tz⟩:=h
     have hop:¬V.str p.kind=V.str "opener":=λz=>by
      rcases okp.form with⟨_,_,e3⟩| hk'
      ·rw[e3] at lwp
       rw[lwp] at hj
       exact absurd hj (QbO _)
      ·exact Jx hk' z
     rw[if_neg hop] at tz ⊢
     have hwj:wsp[j]?=some wsp[j]:=Qan hj
     obtain⟨dv,hdv,td,etd,htd⟩:=Paired.Cm hpd hwj
     have s5:=tz.sm
     have LJ:atI wsp ((0:Int)+(j:Int))=some (.ref td):=by rw[Qco];exact Gz (by rw[hwj,etd])
     refine⟨_,rfl,_,rfl,up',_,_,_,rfl,rfl,SqT.of (s5 _ _ hpu),LJ,_,rfl,_,rfl,_,rfl,_,_,rfl,rfl,_,rfl,_,_,rfl,rfl,Ar (by show 3<=1000;decide),λtk htk=>?_⟩
     have b1:=Af htk (.tup [.int (k:Int),.int ((i:Int)+1),.int (0+(j:Int)+1)])
     have hnew:Ca (k:Int) ((1+i:Nat):Int) 1 (p.spur.take (j+1))=Ca k ((1+i:Nat):Int) 1 (p.spur.take j)++[⟨k,((1+i:Nat):Int),((1+j:Nat):Int),dv.kind,dv.addr⟩]:=Nu _ _ 1 p.spur j dv hdv
     obtain⟨HZ,O4,tz2⟩:=(tz.same b1).put (t:=tk) (u:=td) (e:=⟨k,((1+i:Nat):Int),((1+j:Nat):Int),dv.kind,dv.addr⟩) hd0 nld (m:=up (pdL loops) loops.length) (by
      have hh:=hpre (⟨k,((1+i:Nat):Int),0,p.kind,p.addr⟩::Ca k ((1+i:Nat):Int) 1 (p.spur.take (j+1))) (by
       unfold Bt
       rw[if_neg hop]
       exact List.cons_prefix_cons.mpr ⟨rfl,SM _ _ 1 p.spur (j+1)⟩)
      rw[hnew] at hh
      simpa only [Qbh,QbA,QbR] using hh) nd wM (by
      rw[Ac]
      show _=some (HO.tup [.int (k:Int),.int ((1+i:Nat):Int),.int ((1+j:Nat):Int)])
      rw[e1i,show ((1+j:Nat):Int)=0+(j:Int)+1 by omega]) (b1 _ _ (s5 _ _ htd))
     refine⟨d,HZ,rfl,O4,_,rfl,?_⟩
     rw[hnew,<-Qbh,<-Qbh]
     rw[<-Qbh] at tz2
     exact tz2
    ·obtain⟨u8,rfl,tz⟩:=h
     rw[lwp,Qbt] at tz
     have epl:(if V.str p.kind=V.str "opener" then [] else [(⟨k,((1+i:Nat):Int),0,p.kind,p.addr⟩ : Sd)])++Ca k ((1+i:Nat):Int) 1 p.spur=pd1 (k:Int) ps i:=by
      rw[yD]
      unfold Bt
      by_cases hop:V.str p.kind=V.str "opener"
      ·rw[if_pos hop,if_pos hop]
       rcases okp.form with⟨_,_,e3⟩| hk'
       ·rw[e3];rfl
       ·exact absurd hop (Jx hk')
      ·rw[if_neg hop,if_neg hop];rfl
     rw[epl,Qbh,<-CW] at tz
     obtain⟨ys,e5,e6⟩:=tz.ls
     have ly:=QbX e6
     have s6:=tz.sm
     refine⟨_,rfl,.inl ⟨rfl,_,SqL.of e5⟩,_,rfl,up',_,rfl,.inr (SqT.of (s6 _ _ hpu)),_,_,rfl,rfl,_,rfl,by omega,by omega,λl2 hl2=>?_⟩
     have nl2:l≠l2:=Av e5 hl2
     have f2':H l2=none:=s6.free hl2
     rw[show ((wsp.length:Int)+1).toNat=wsp.length+1 by omega]
     refine Ly (λj σ HZ=>∃u,σ=[u,some (.int (k:Int)),some (.int (i:Int))]/\(∃zs,HZ l2=some (.lst zs)/\Paired (Gq HZ) zs ((List.range j).map λn:Nat=>⟨k,((1+i:Nat):Int),(n:Int)⟩))/\Same HY HZ) ⟨_,rfl,⟨[],Ac,.nil⟩,Af hl2 _⟩ (λj σ HZ hj h=>?_) (fun σ HZ h=>?_)
     ·obtain⟨u,rfl,⟨zs',e7,e8⟩,e9⟩:=h
      have lz:=QbX e8
      rw[QbB,Qbo] at lz
      refine⟨_,rfl,_,rfl,_,_,rfl,rfl,_,rfl,Ar (by show 3<=1000;decide),λtk htk=>?_⟩
      have b1:=Af htk (.tup [.int (k:Int),.int ((i:Int)+1),.int (0+(j:Int))])
      have e7':=b1 _ _ e7
      have Iy:∀zs,(upd HZ tk (.tup [.int (k:Int),.int ((i:Int)+1),.int (0+(j:Int))])) l2≠some (.tup zs):=λzs z=>by rw[e7'] at z;cases z
      have sL:=Am.upd (o:=.lst (zs'++[.ref tk])) Iy
      refine⟨zs',e7',Ao (by omega),_,rfl,⟨_,Ac,?_⟩,(e9.trans b1).Bv Ai.upd hl2⟩
      rw[List.range_succ,QbC]
      refine Qcs ⟨tk,rfl,?_⟩ (Paired.Bb e8 λ_ _ z=>(z.tups (Am.of b1)).tups sL)
      rw[sL _ _ Ac]
      show _=some (HO.tup [.int (k:Int),.int ((1+i:Nat):Int),.int (j:Int)])
      rw[e1i,Qco]
     ·obtain⟨u,rfl,⟨zs',e7,e8⟩,e9⟩:=h
      have lz:=QbX e8
      rw[QbB,Qbo] at lz
      have e5':=e9 _ _ e5
      have Sc:ys.length<=200:=by
       rw[ly]
       refine Qck (List.IsPrefix.length_le (l₂:=up (stL loops) loops.length) ?_) vN
       refine Wh hkl ?_
       rw[yw]
       exact List.cons_prefix_cons.mpr ⟨rfl,QB (Qcn hil)⟩
      refine⟨l,l2,_,_,rfl,rfl,e5',e7,Ar (by rw[lz];omega),?_⟩
      have ntl:∀zs,HZ l≠some (.tup zs):=λzs z=>by rw[e5'] at z;cases z
      have sL:=Am.upd (o:=.lst (ys++zs')) ntl
      obtain⟨kvs,e10,e11⟩:=tz.ds
      refine⟨_,_,_,_,_,rfl,⟨_,Ac,?_⟩,⟨kvs,by rw[Al nld.symm];exact e9 _ _ e10,Paired.Bb e11 λ_ _ z=>(z.tups (Am.of e9)).tups sL⟩,(s6.trans e9).Bv Ai.upd hl⟩
      rw[CW,MW]
      rw[<-QbA,<-Qbh]
      refine Paired.app (Paired.Bb e6 λ_ _ z=>(z.tups (Am.of e9)).tups sL) ?_
      rw[lwp] at e8
      exact Paired.Bb e8 λ_ _ z=>z.tups sL
   ·refine⟨_,rfl,rfl,_,rfl,?_⟩
    by_cases hop:V.str p.kind=V.str "opener"
    ·rw[show (!decide (V.str p.kind=V.str "opener"))=false by rw[QbS hop];rfl]
     refine Cy (hD _ _ ⟨rfl,?_⟩)
     rw[if_pos hop,QbF]
     exact tx
    ·rw[show (!decide (V.str p.kind=V.str "opener"))=true by rw[QbG hop];rfl]
     refine Ce ⟨_,rfl,_,rfl,Ar (by show 2<=1000;decide),λtu htu=>⟨_,rfl,_,rfl,_,rfl,_,_,rfl,rfl,Ar (by show 3<=1000;decide),λtk htk=>?_⟩⟩
     have b1:=Af htu (.tup [.str p.kind,.int p.addr])
     have b2:=Af htk (.tup [.int (k:Int),.int ((i:Int)+1),.int 0])
     obtain⟨HZ,O4,tz2⟩:=(tx.same (b1.trans b2)).put (t:=tk) (u:=tu) (e:=⟨k,((1+i:Nat):Int),0,p.kind,p.addr⟩) hd0 nld (m:=up (pdL loops) loops.length) (by
      refine hpre _ ?_
      unfold Bt
      rw[if_neg hop]
      exact List.cons_prefix_cons.mpr ⟨rfl,List.nil_prefix⟩) nd wM (by
      rw[Ac]
      show _=some (HO.tup [.int (k:Int),.int ((1+i:Nat):Int),.int 0])
      rw[e1i]) (b2 _ _ Ac)
     refine⟨d,HZ,rfl,O4,hD _ _ ⟨rfl,?_⟩⟩
     rw[if_neg hop]
     exact tz2
  ·obtain⟨u4,u5,u6,u7,u8,rfl,tx⟩:=h
   refine⟨_,_,_,_,_,_,rfl,?_⟩
   rw[lv] at tx
   rw[CW,CW,yw,yC]
   exact tx
 ·obtain⟨u3,u4,u5,u6,u7,u8,rfl,tw⟩:=h
  rw[lw] at tw
  obtain⟨xs,e1,e2⟩:=tw.ls
  obtain⟨kvs,e3,e4⟩:=tw.ds
  refine⟨_,rfl,_,rfl,Ar (by show 2<=1000;decide),λt ht=>?_⟩
  have b1:=Af ht (.tup [.ref l,.ref d])
  exact q t l d xs kvs _ hl hd0 Ac (b1 _ _ e1) (Paired.Bb e2 λ_ _ z=>z.tups (Am.of b1)) (b1 _ _ e3) (Paired.Bb e4 λ_ _ z=>z.tups (Am.of b1)) (tw.sm.trans b1)
end
abbrev G4:Stmt:=top 62
abbrev Iv:List Str:=["_law_bag_here","_law_wires","_law_hows","_law_every"]
theorem Dd:Ba ["_law_bag_here","_law_wires","_law_hows","_law_every","_law_odd","_law_thing","_law_kinds","_law_way","_law_e"] Iv (Ag G4):=⟨rfl,rfl,rfl,by trivial,rfl,by trivial,by trivial⟩
theorem gB {X:Cx} {K:PySem.W.Frag} {o e:Expr} {es:List Expr} {to:TE} {t:TA} {name:Str} {apos cpos:Pos} {T id:String} {r:V->List V->Hp->VK->Prop} (hK:X.K=K) (pa:PlainAttrs T) (slot:Slot T name id) (hty:typeOf (.builtin id)=pure (.type "method_descriptor")) (hm:MtR X id r) (ho:PE X o to) (ha:PA X (e::es) t)
  (hbase:attributeBase o name X.env (eval o X.env)=eval o X.env:=by rfl)
  (hfew:((backTo cpos (starEach (e::es) X.env)).all (λx=>!x.1)&&(backToKw cpos (keywordEach [] X.env)).all (λx=>x.1.isSome)
  &&decide ((e::es).length+([]:List Keyword).length+(if ([]:List Keyword).isEmpty then 0 else 1) < 30))=true:=by rfl)
  (hline:(apos.endLine == cpos.line)=true:=by rfl) (hs:starEach (e::es) X.env=(false,eval e X.env)::starEach es X.env:=by rfl) (hplain:(backTo cpos (starEach es X.env)).any (·.1)=false:=by rfl) :
  PE X (.Call (.Attribute o name apos) (e::es) [] cpos) (tBM K T r to t):=hK ▸ CQ pa slot hty hm ho ha hbase hfew hline hs hplain
def Mv:V->Bool
 | .non=>true
 | .bl _=>true
 | .int _=>true
 | _=>false
theorem Mv.kn {H:Hp} {v:V} (h:Mv v=true):Kn H v:=by
 cases v <;> first | exact True.intro | cases h
def Odd (H:Hp) (b:Addr) (v:V):Prop:=v=.non\/(∃z,v=.str z)\/(∃a xs,v=.ref a/\H a=some (.lst xs)/\a≠b)\/∃a xs,v=.ref a/\H a=some (.tup xs)/\xs.length<=100/\(∀y∈xs,Mv y=true)/\∀s,Bd3 s->xs≠[.int s.lp,.int s.at_,.int s.n]
theorem Odd.Cz {H H':Hp} {b:Addr} {v:V} (h:Odd H b v) (s:Ai b H H') (nt:∀zs,H b≠some (.tup zs)):Odd H' b v:=by
 rcases h with h | h |⟨a,xs,h1,h2,h3⟩|⟨a,xs,h1,h2,h3⟩
 ·exact .inl h
 ·exact .inr (.inl h)
 ·exact .inr (.inr (.inl ⟨a,xs,h1,s _ _ h2 h3,h3⟩))
 ·exact .inr (.inr (.inr ⟨a,xs,h1,(s.tup nt) _ _ h2,h3⟩))
theorem Odd.same {H H':Hp} {b:Addr} {v:V} (h:Odd H b v) (s:Same H H'):Odd H' b v:=by
 rcases h with h | h |⟨a,xs,h1,h2,h3⟩|⟨a,xs,h1,h2,h3⟩
 ·exact .inl h
 ·exact .inr (.inl h)
 ·exact .inr (.inr (.inl ⟨a,xs,h1,s _ _ h2,h3⟩))
 ·exact .inr (.inr (.inr ⟨a,xs,h1,s _ _ h2,h3⟩))
theorem Odd.th {H:Hp} {b:Addr} {v:V} (h:Odd H b v):Th H v:=by
 rcases h with rfl |⟨z,rfl⟩|⟨a,xs,rfl,h2,h3⟩|⟨a,xs,rfl,h2,h3,h4,h5⟩
 ·exact⟨True.intro,λxs e=>by cases e⟩
 ·exact⟨True.intro,λxs e=>by cases e⟩
 ·exact⟨.inl ⟨xs,h2⟩,λys e=>by rw[U8 h2] at e;cases e⟩
 ·exact⟨.inr ⟨xs,h2⟩,λys e=>by
   rw[Dp h2] at e
   cases e
   exact⟨h3,λy hy=>Mv.kn (h4 y hy)⟩⟩
theorem Odd.no {H:Hp} {b:Addr} {v:V} (h:Odd H b v) {ss:List Sp3} (hs:∀s∈ss,Bd3 s):¬Lg H v ss:=λ⟨c,s,e1,e2,e3⟩=>by
 rcases h with h |⟨z,h⟩|⟨a,xs,h,h2,h3⟩|⟨a,xs,h,h2,h3,h4,h5⟩
 ·rw[h] at e1;cases e1
 ·rw[h] at e1;cases e1
 ·rw[h] at e1
  cases e1
  rw[h2] at e2
  cases e2
 ·rw[h] at e1
  cases e1
  rw[h2] at e2
  exact h5 s (hs s e3) (HO.tup.inj (QbH e2))
theorem Xx {a b c:Int} (h:∀s,Bd3 s->¬(s.lp=a/\s.at_=b/\s.n=c)):∀s,Bd3 s->([.int a,.int b,.int c]:List V)≠[.int s.lp,.int s.at_,.int s.n]:=λs hs e=>by
 injection e with e1 e2
 injection e2 with e2 e3
 injection e3 with e3 _
 injection e1 with e1
 injection e2 with e2
 injection e3 with e3
 exact h s hs ⟨e1.symm,e2.symm,e3.symm⟩
theorem BC {i:Int} (h0:0<=i) (h12:i < 12) {a b c d e f g h k l m n:V} (P:V->Prop) (ha:P a) (hb:P b) (hc:P c) (hd:P d) (he:P e) (hf:P f) (hg:P g) (hh:P h) (hk:P k) (hl:P l) (hm:P m) (hn:P n):∃p,atI [a,b,c,d,e,f,g,h,k,l,m,n] i=some p/\P p:=by
 have:i=0\/i=1\/i=2\/i=3\/i=4\/i=5\/i=6\/i=7\/i=8\/i=9\/i=10\/i=11:=by omega
 rcases this with rfl | rfl | rfl | rfl | rfl | rfl | rfl | rfl | rfl | rfl | rfl | rfl
 ·exact⟨_,rfl,ha⟩
 ·exact⟨_,rfl,hb⟩
 ·exact⟨_,rfl,hc⟩
 ·exact⟨_,rfl,hd⟩
 ·exact⟨_,rfl,he⟩
 ·exact⟨_,rfl,hf⟩
 ·exact⟨_,rfl,hg⟩
 ·exact⟨_,rfl,hh⟩
 ·exact⟨_,rfl,hk⟩
 ·exact⟨_,rfl,hl⟩
 ·exact⟨_,rfl,hm⟩
 ·exact⟨_,rfl,hn⟩
theorem KH {H:Hp}:∀zs:List Str,Lh H (zs.map V.str) (zs.map PyData.str)
 | []=>.nil
 | z::r=>.cons (.str z) (KH r)
def fG (C:Addr):Sp:=λvs H Q _=>∃b n p pl d1 d2 d3 hs fl x y,vs=[.ref b,.ref p,x,y]/\Br H b n/\n<=9000/\WAt C H p pl d1 d2 d3 hs fl/\d1≠d2/\(∀s∈hs.map (·.1),Bd3 s)/\(∀s∈fl.map (·.1),Bd3 s)/\∀H',Br H' b (n+2)->Ai b H H'->Q (.bl true) H'
section
variable {P:Program} {w:World} {K:PySem.W.Frag} {mg:Str->Option Value} {base:Heap} {op oe kd wk C:Addr} {hc c0 c1 c2 c3 c4 c5 c6 c7 c8 c9 c10 c11 c12:Addr}
theorem bR (c:Code K mg "_law_refused" G4 Iv) (T:Tw K mg op oe kd wk C) (XE:Er K mg hc c0 c1 c2 c3 c4 c5 c6 c7 c8 c9 c10 c11 c12) (Fd:Knd K hc c2 [c0,c1,c2,c3,c4,c5,c6,c7,c8,c9,c10,c11,c12] 2) (Fq:Knd K hc c3 [c0,c1,c2,c3,c4,c5,c6,c7,c8,c9,c10,c11,c12] 3)
  (Bl:Good P w K mg base "_law_take" 1 Gi Mq) (UJ:Cd P w K mg base C "cut" 4 Gm (Oo C c2 "cut")) (Qn:Cd P w K mg base C "short" 4 Em (Oo C c2 "short")) (RV:Cd P w K mg base C "mend" 4 Fp (Oo C c2 "whole")) (UG:Cd P w K mg base C "how" 4 Gj (bD C c2))
  (M9:Cd P w K mg base C "take_out" 4 Dl (Wx C c3)) (O6:Cd P w K mg base C "put_in" 4 DR (bC C c3)) (X6:Wb P w K mg base "_law_kind" 1 MP (fL K hc [c0,c1,c2,c3,c4,c5,c6,c7,c8,c9,c10,c11,c12])):Good P w K mg base "_law_refused" 5 Iv (fG C):=by
 have sc:=Dd
 refine c.good Dd (λvs H Q E h=>?_) (λf cdv A outer s H vs Q E hr h=>?_)
 ·obtain⟨b,n,p,pl,d1,d2,d3,hs,fl,x,y,rfl,_⟩:=h
  rfl
 obtain⟨b,n,p,pl,d1,d2,d3,hs,fl,x,y,rfl,hb,hn,R,n12,bs,bf,q⟩:=h
 refine⟨_,(@Ah _ _ _ _ _ (@Bd _ _ 4 _ _ _ _ Dd.nd rfl (Or.inl rfl) (@BR _ _ _ _ (@Aa _ _ _ _ _ JK (@Aa _ _ _ _ _ (Bk (Aa Ae (Aa Fw (Aa Ae Ab)))) (@Aa _ _ _ _ _ (BR (Aa Ae (Aa Ae (Aa Ae Ab)))) (@Aa _ _ _ _ _ (Bk (Aa Ae (Aa Ae Ab))) (@Aa _ _ _ _ _ (Bk (Aa Ae (Aa Ae (Aa Ae (Aa Ae Ab))))) (@Aa _ _ _ _ _ (@Bh _ _ _ _) (@Aa _ _ _ _ _ (Bk (Aa Ae (Aa Ae (Aa Ae Ab)))) (@Aa _ _ _ _ _ (Bk (Aa Ae (Aa Ae (Aa Ae Ab)))) (@Aa _ _ _ _ _ (Bk (Aa (V5 Sw Ae) (Aa Ae (Aa Ae Ab)))) (@Aa _ _ _ _ _ (Bk (Aa Ae (Aa Ae (Aa Ae Ab)))) (@Aa _ _ _ _ _ (Bk (Aa Ae (Aa (@Bg _ _ _ _ _ _ _ _ Xl Ae Ae) (Aa Ae Ab)))) (@Aa _ _ _ _ _ (Bk (Aa Ae (Aa Ae (Aa JK Ab)))) (@Ab _) JC) JC) JC) JC) JC) JC) Bf) JC) JC) vG) JC) Bf)) (by rfl) (by first | exact .inl rfl | exact .inr rfl))
 (@Ah _ _ _ _ _ (@Bd _ _ 5 _ _ _ _ Dd.nd rfl (Or.inl rfl) (Bq CG (pv 4) (Ay Bl hr (Aa (pv 0) (Aa Ae Ab))) (λ_ _=>rfl)) (by rfl) (by first | exact .inl rfl | exact .inr rfl))
 (@Ah _ _ _ _ _ (@Bd _ _ 6 _ _ _ _ Dd.nd rfl (Or.inl rfl) (BR Ab) (by rfl) (by first | exact .inl rfl | exact .inr rfl))
 (@Ah _ _ _ _ _ (BZ QbE rfl (Cv rfl T.range (Aa Ae Ab)) (Ak (i:=7) Dd.nd rfl (Or.inl rfl))
 (@Aj _ _ _ (gb (i:=8) Dd.nd rfl rfl rfl rfl rfl XE.Rr XE.Rk (λpn E1 EX hx=>(@Aj _ _ _ (BW (Bs Hs (pv 7) Ae (BP _)) (@Aj _ _ _ (Bj (Dw (pv 1) T.cl UJ hr hx (Aa (pv 5) Ab)))) (@Aj _ _ _ (BW (Bs Hs (pv 7) Ae (BP _)) (@Aj _ _ _ (Bj (Dw (pv 1) T.cl Qn hr hx (Aa (pv 5) Ab)))) (@Aj _ _ _ (BW (Bs Hs (pv 7) Ae (BP _)) (@Aj _ _ _ (Bj (Dw (pv 1) T.cl RV hr hx (Aa (pv 5) Ab)))) (@Aj _ _ _ (Bj (Dw (pv 1) T.cl UG hr hx (Aa (pv 5) Ab)))))))))))
 (λpn ea=>(@Aj _ _ _ (Bj (gB (K:=K) rfl Qaq Qal Qam Cg (pv 6) (Aa (gC X6 (hr.inH _) (Aa (pv 8) Ab)) Ab))))))))
 (@Ah _ _ _ _ _ (@Bd _ _ 5 _ _ _ _ Dd.nd rfl (Or.inl rfl) (Bq CG (pv 4) (Ay Bl hr (Aa (pv 0) (Aa Ae Ab))) (λ_ _=>rfl)) (by rfl) (by first | exact .inl rfl | exact .inr rfl))
 (@Ah _ _ _ _ _ (BZ QbE rfl (Cv rfl T.range (Aa Ae Ab)) (Ak (i:=7) Dd.nd rfl (Or.inl rfl))
 (@Aj _ _ _ (gb (i:=8) Dd.nd rfl rfl rfl rfl rfl XE.Rr XE.Rk (λpn E1 EX hx=>(@Aj _ _ _ (BW (Bs Hs (pv 7) Ae (BP _)) (@Aj _ _ _ (Bj (Dw (pv 1) T.cl M9 hr hx (Aa (pv 5) Ab)))) (@Aj _ _ _ (Bj (Dw (pv 1) T.cl O6 hr hx (Aa (pv 5) (Aa Bh (Aa Ae Ab)))))))))
 (λpn ea=>(@Aj _ _ _ (Bj (gB (K:=K) rfl Qaq Qal Qam Cg (pv 6) (Aa (gC X6 (hr.inH _) (Aa (pv 8) Ab)) Ab))))))))
 (@Aj _ _ _ (Bc (Kg (wu hr.units) (pv 6) (@Bg _ _ _ _ _ _ _ _ Xn (@Bg _ _ _ _ _ _ _ _ gG (BR (Aa Bh Ab)) Ae) (@Bg _ _ _ _ _ _ _ _ gG (BR (Aa Bh Ab)) Ae)) (BP _)))))))))),?_⟩
 have z3:3<=sizeLine:=Ar (by decide)
 refine⟨z3,λt1 ht1=>?_⟩
 refine⟨z3,λt2 ht2=>?_⟩
 refine⟨Ar (by show 2<=1000;decide),λt3 ht3=>?_⟩
 refine⟨Ar (by show 4<=1000;decide),λt4 ht4=>?_⟩
 refine⟨z3,λt5 ht5=>?_⟩
 refine⟨z3,λt6 ht6=>?_⟩
 refine⟨_,rfl,z3,λt7 ht7=>?_⟩
 refine⟨z3,λt8 ht8=>?_⟩
 refine⟨_,_,rfl,rfl,⟨by decide,by decide,by decide⟩,z3,λt9 ht9=>?_⟩
 refine⟨z3,λt10 xq=>?_⟩
 refine⟨Ar (by show 12<=1000;decide),λlo hlo=>?_⟩
 have g1:=Af ht1 (.tup [.int 0,.bl true,.int 0])
 have g2:=Af ht2 (.lst [.int 0,.int 0,.int 0])
 have g3:=Af ht3 (.tup [.int 0,.int 0])
 have g4:=Af ht4 (.tup [.int 0,.int 0,.int 0,.int 0])
 have g5:=Af ht5 (.tup [.int 9,.int 0,.int 0])
 have g6:=Af ht6 (.tup [.int 0,.int 13,.int 0])
 have g7:=Af ht7 (.tup [.int (-1),.int 0,.int 0])
 have g8:=Af ht8 (.tup [.int 0,.int 1,.int 4])
 have g9:=Af ht9 (.tup [.int 0,.int ((10:Int) ^ (20:Int).toNat),.int 0])
 have g10:=Af xq (.tup [.int 0,.int 0,.non])
 have gl:=Af hlo (.lst [.non,.ref t1,.ref t2,.ref t3,.ref t4,.str "000",.ref t5,.ref t6,.ref t7,.ref t8,.ref t9,.ref t10])
 have r10:=g10.trans gl
 have r9:=g9.trans r10
 have r8:=g8.trans r9
 have r7:=g7.trans r8
 have r6:=g6.trans r7
 have r5:=g5.trans r6
 have r4:=g4.trans r5
 have r3:=g3.trans r4
 have r2:=g2.trans r3
 have r1:=g1.trans r2
 have k1:=r2 _ _ (Ac (H:=H) (a:=t1) (o:=.tup [.int 0,.bl true,.int 0]))
 have k2:=r3 _ _ Ac
 have k3:=r4 _ _ Ac
 have k4:=r5 _ _ Ac
 have k5:=r6 _ _ Ac
 have k6:=r7 _ _ Ac
 have k7:=r8 _ _ Ac
 have k8:=r9 _ _ Ac
 have k9:=r10 _ _ Ac
 have k10:=gl _ _ Ac
 have nb2:t2≠b:=((hb.same g1).nb ht2).symm
 have nbl:lo≠b:=((hb.same (g1.trans (g2.trans (g3.trans (g4.trans (g5.trans (g6.trans (g7.trans (g8.trans (g9.trans g10)))))))))).nb hlo).symm
 have klo:_=some (HO.lst [.non,.ref t1,.ref t2,.ref t3,.ref t4,.str "000",.ref t5,.ref t6,.ref t7,.ref t8,.ref t9,.ref t10]):=Ac (H:=(upd (upd (upd (upd (upd (upd (upd (upd (upd (upd H t1 (.tup [.int 0,.bl true,.int 0])) t2 (.lst [.int 0,.int 0,.int 0])) t3 (.tup [.int 0,.int 0])) t4 (.tup [.int 0,.int 0,.int 0,.int 0])) t5 (.tup [.int 9,.int 0,.int 0])) t6 (.tup [.int 0,.int 13,.int 0])) t7 (.tup [.int (-1),.int 0,.int 0])) t8 (.tup [.int 0,.int 1,.int 4])) t9 (.tup [.int 0,.int ((10:Int) ^ (20:Int).toNat),.int 0])) t10 (.tup [.int 0,.int 0,.non]))) (a:=lo)
 have hbL:=hb.same r1
 have RL:=R.same r1
 clear g1 g2 g3 g4 g5 g6 g7 g8 g9 g10 gl r2 r3 r4 r5 r6 r7 r8 r9 r10 ht1 ht2 ht3 ht4 ht5 ht6 ht7 ht8 ht9 xq hlo
 generalize (upd (upd (upd (upd (upd (upd (upd (upd (upd (upd (upd H t1 _) t2 _) t3 _) t4 _) t5 _) t6 _) t7 _) t8 _) t9 _) t10 _) lo _)=HL at *
 have odd:∀i:Int,0<=i->i < 12->∃v,atI [.non,.ref t1,.ref t2,.ref t3,.ref t4,.str "000",.ref t5,.ref t6,.ref t7,.ref t8,.ref t9,.ref t10] i=some v/\Odd HL b v:=λi h0 h12=>by
  have tp:∀{t:Addr} {xs:List V},HL t=some (.tup xs)->xs.length<=100->(∀y∈xs,Mv y=true)->(∀s,Bd3 s->xs≠[.int s.lp,.int s.at_,.int s.n])->Odd HL b (.ref t):=λ{t xs} a1 a2 a3 a4=>.inr (.inr (.inr ⟨t,xs,rfl,a1,a2,a3,a4⟩))
  have pk:∀{xs:List V},xs.all Mv=true->∀y∈xs,Mv y=true:=λh=>List.all_eq_true.mp h
  refine BC h0 h12 (Odd HL b) (.inl rfl) (tp k1 (by decide) (pk rfl) λs _ e=>?_) (.inr (.inr (.inl ⟨t2,_,rfl,k2,nb2⟩))) (tp k3 (by decide) (pk rfl) λs _ e=>?_) (tp k4 (by decide) (pk rfl) λs _ e=>?_) (.inr (.inl ⟨_,rfl⟩))
   (tp k5 (by decide) (pk rfl) (Xx λs hs=>?_)) (tp k6 (by decide) (pk rfl) (Xx λs hs=>?_)) (tp k7 (by decide) (pk rfl) (Xx λs hs=>?_)) (tp k8 (by decide) (pk rfl) (Xx λs hs=>?_)) (tp k9 (by decide) (pk rfl) (Xx λs hs=>?_)) (tp k10 (by decide) (pk rfl) λs _ e=>?_)
  ·simp at e
  ·simp at e
  ·simp at e
  ·have:=hs.l1;omega
  ·have:=hs.a1;omega
  ·have:=hs.l0;omega
  ·have:=hs.n1;omega
  ·have:=hs.a1
   have h20:((10:Int) ^ (20:Int).toNat)=100000000000000000000:=by decide
   rw[h20]
   omega
  ·simp at e
 clear k1 k2 k3 k4 k5 k6 k7 k8 k9 k10 nb2
 refine⟨_,rfl,_,rfl,b,n,12,rfl,hbL,by omega,by decide,by decide,λr H1 r0 r1' hb1 sb1=>?_⟩
 have ntL:∀zs,HL b≠some (.tup zs):=hbL.Fy
 obtain⟨v,hv,ov⟩:=odd r r0 r1'
 have ov1:=ov.Cz sb1 ntL
 have lo1:=sb1 _ _ klo nbl
 have npb:p≠b:=λz=>by obtain⟨_,_,_,e,_⟩:=hbL;obtain⟨dx,e2⟩:=RL.ins;rw[z,e] at e2;cases e2
 have nd1:d1≠b:=λz=>by obtain⟨_,_,_,e,_⟩:=hbL;have e2:=RL.st;rw[z,e] at e2;cases e2
 have nd2:d2≠b:=λz=>by obtain⟨_,_,_,e,_⟩:=hbL;obtain⟨kvs,e2,_⟩:=RL.fi;rw[z,e] at e2;cases e2
 have R1:=RL.Cz sb1 ntL npb nd1 nd2
 refine⟨lo,_,_,_,rfl,rfl,SqL.of lo1,hv,?_⟩
 refine⟨Ar (by show 0<=1000;decide),λlk hlk=>?_⟩
 refine⟨_,rfl,by decide,by decide,?_⟩
 rw[show (4:Int).toNat=4 from rfl]
 refine Du (λi σ HH=>∃u7 u8,σ=[some (.ref b),some (.ref p),some x,some y,some (.ref lo),some v,some (.ref lk),u7,u8]/\HH lk=some (.lst ((List.replicate i ("stretch":Str)).map V.str))/\Same H1 HH) ⟨_,_,rfl,Ac,Af hlk _⟩ (λi σ HH hi h=>?_) (fun σ HH h=>?_)
 ·obtain⟨u7,u8,rfl,e1,e2⟩:=h
  have RX:=R1.same e2
  have ox:=ov1.same e2
  obtain⟨dx,hpx⟩:=RX.ins
  refine⟨_,rfl,rfl,_,rfl,Gn (λ_=>?_) (λ_=>⟨_,rfl,rfl,_,rfl,Gn (λ_=>?_) (λ_=>⟨_,rfl,rfl,_,rfl,Gn (λ_=>?_) (λ_=>?_)⟩)⟩)⟩
  all_goals first
   | refine⟨_,rfl,p,dx,_,rfl,hpx,fno (by trivial),_,rfl,p,pl,d1,d2,d3,hs,fl,v,rfl,RX,n12,ox.th,(λb' s' e1 e2 e3=>absurd ⟨b',s',e1,e2,e3⟩ (ox.no bs)),λ_ H' s'=>?_⟩
   | refine⟨_,rfl,p,dx,_,rfl,hpx,fno (by trivial),_,rfl,p,pl,d1,d2,d3,hs,fl,v,rfl,RX,ox.th,(λb' x' e1 e2 e3=>absurd ⟨b',x'.1,e1,e2,Qci.mpr ⟨x',e3,rfl⟩⟩ (ox.no bs)),λ_ H' s'=>?_⟩
  all_goals
   refine⟨_,rfl,Fd.xc,Fd.sub,λe he=>?_⟩
   have s3:=Af he (xo e c2)
   have eK:=s3 _ _ (s' _ _ e1)
   refine⟨_,rfl,.inl ⟨rfl,_,SqL.of eK⟩,_,rfl,e,_,2,rfl,Ac,Fd,by decide,λHB sB=>⟨lk,_,_,rfl,rfl,sB _ _ eK,Ao (by simp;omega),_,_,rfl,?_,(e2.trans (s'.trans (s3.trans sB))).Bv Ai.upd hlk⟩⟩
   rw[Ac,List.replicate_succ',QbC]
   rfl
 obtain⟨u7,u8,rfl,e1,e2⟩:=h
 have sb2:Ai b H1 HH:=Ai.of e2
 refine⟨_,rfl,_,rfl,b,n+1,12,rfl,hb1.same e2,by omega,by decide,by decide,λr' H3 r0' DI hb3 sb3=>?_⟩
 have sb4:Ai b H1 H3:=sb2.trans sb3
 have nt1:∀zs,H1 b≠some (.tup zs):=hb1.Fy
 obtain⟨v',hv',ov'⟩:=odd r' r0' DI
 have ov3:=ov'.Cz sb1 ntL
 have nlk:lk≠b:=(hb1.nb hlk).symm
 have e3:=sb3 _ _ e1 nlk
 refine⟨lo,_,_,_,rfl,rfl,SqL.of (sb4 _ _ lo1 nbl),hv',?_⟩
 refine⟨_,rfl,by decide,by decide,?_⟩
 rw[show (2:Int).toNat=2 from rfl]
 refine Du (λi σ HH=>∃u7 u8,σ=[some (.ref b),some (.ref p),some x,some y,some (.ref lo),some v',some (.ref lk),u7,u8]/\HH lk=some (.lst ((List.replicate 4 ("stretch":Str)++List.replicate i ("spot":Str)).map V.str))/\Br HH b (n+2)/\Ai b H1 HH) ⟨_,_,rfl,by rw[List.replicate_zero,QbF];exact e3,hb3,sb4⟩ (λi σ HH hi h=>?_) (fun σ HH h=>?_)
 ·obtain⟨u7,u8,rfl,e1,e2,e4⟩:=h
  have RX:=R1.Cz e4 nt1 npb nd1 nd2
  have ox:=ov3.Cz e4 nt1
  obtain⟨dx,hpx⟩:=RX.ins
  refine⟨_,rfl,rfl,_,rfl,Gn (λ_=>?_) (λ_=>?_)⟩
  ·refine⟨_,rfl,p,dx,_,rfl,hpx,fno (by trivial),_,rfl,p,pl,d1,d2,d3,hs,fl,v',rfl,RX,n12,ox.th,(λb' s' e1 e2 e3=>absurd ⟨b',s',e1,e2,e3⟩ (ox.no bf)),λ_ H' s'=>?_⟩
   refine⟨_,rfl,Fq.xc,Fq.sub,λe he=>?_⟩
   have s3:=Af he (xo e c3)
   have eK:=s3 _ _ (s' _ _ e1)
   refine⟨_,rfl,.inl ⟨rfl,_,SqL.of eK⟩,_,rfl,e,_,3,rfl,Ac,Fq,by decide,λHB sB=>⟨lk,_,_,rfl,rfl,sB _ _ eK,Ao (by simp;omega),_,_,rfl,?_,(e2.same (s'.trans (s3.trans sB))).Cz Ai.upd nlk.symm,Ai.Lj (e4.trans (Ai.of (s'.trans (s3.trans sB)))) Ai.upd hlk⟩⟩
   rw[Ac,show List.replicate (i+1) ("spot":Str)=List.replicate i ("spot":Str)++[("spot":Str)] from List.replicate_succ',<-Qbh,QbC (l₁:=_++_)]
   rfl
  ·refine⟨_,rfl,p,dx,_,rfl,hpx,fno (by trivial),_,rfl,p,pl,d1,d2,d3,hs,fl,v',"bell",7,rfl,RX,n12,ox.th,(λb' s' e1 e2 e3=>absurd ⟨b',s',e1,e2,e3⟩ (ox.no bf)),λ_ H' s'=>?_⟩
   refine⟨_,rfl,Fq.xc,Fq.sub,λe he=>?_⟩
   have s3:=Af he (xo e c3)
   have eK:=s3 _ _ (s' _ _ e1)
   refine⟨_,rfl,.inl ⟨rfl,_,SqL.of eK⟩,_,rfl,e,_,3,rfl,Ac,Fq,by decide,λHB sB=>⟨lk,_,_,rfl,rfl,sB _ _ eK,Ao (by simp;omega),_,_,rfl,?_,(e2.same (s'.trans (s3.trans sB))).Cz Ai.upd nlk.symm,Ai.Lj (e4.trans (Ai.of (s'.trans (s3.trans sB)))) Ai.upd hlk⟩⟩
   rw[Ac,show List.replicate (i+1) ("spot":Str)=List.replicate i ("spot":Str)++[("spot":Str)] from List.replicate_succ',<-Qbh,QbC (l₁:=_++_)]
   rfl
 ·obtain⟨u7,u8,rfl,e1,e2,e4⟩:=h
  have r1L:Ai b H HH:=(Ai.of r1).trans (sb1.trans e4)
  refine⟨_,rfl,Ar (by show 1<=1000;decide),λl1 hl1=>?_⟩
  have h1:=Af hl1 (.lst [.str "stretch"])
  refine⟨l1,4,_,rfl,rfl,Ac,by decide,by decide,Ar (by show 4<=1000;decide),λl2 hl2=>?_⟩
  have h2:=Af hl2 (.lst (List.replicate (4:Int).toNat [V.str "stretch"]).flatten)
  refine⟨Ar (by show 1<=1000;decide),λl3 hl3=>?_⟩
  have h3:=Af hl3 (.lst [.str "spot"])
  refine⟨l3,2,_,rfl,rfl,Ac,by decide,by decide,Ar (by show 2<=1000;decide),λl4 hl4=>?_⟩
  have h4:=Af hl4 (.lst (List.replicate (2:Int).toNat [V.str "spot"]).flatten)
  refine⟨l2,l4,_,_,rfl,rfl,h4 _ _ (h3 _ _ Ac),Ac,Ar (by show 6<=1000;decide),λl5 hl5=>?_⟩
  have h5:=Af hl5 (.lst ((List.replicate (4:Int).toNat [V.str "stretch"]).flatten++(List.replicate (2:Int).toNat [V.str "spot"]).flatten))
  have h15:=h1.trans (h2.trans (h3.trans (h4.trans h5)))
  have hz:((List.replicate (4:Int).toNat [V.str "stretch"]).flatten++(List.replicate (2:Int).toNat [V.str "spot"]).flatten)=(List.replicate 4 ("stretch":Str)++List.replicate 2 ("spot":Str)).map V.str:=rfl
  refine⟨.list ((List.replicate 4 ("stretch":Str)++List.replicate 2 ("spot":Str)).map PyData.str),.list ((List.replicate 4 ("stretch":Str)++List.replicate 2 ("spot":Str)).map PyData.str),.lst (h15 _ _ e1) (KH _),.lst (by rw[Ac,hz]) (KH _),by trivial,by trivial,?_⟩
  rw[show PyData.eqv (.list ((List.replicate 4 ("stretch":Str)++List.replicate 2 ("spot":Str)).map PyData.str)) (.list ((List.replicate 4 ("stretch":Str)++List.replicate 2 ("spot":Str)).map PyData.str))=true by trivial]
  exact q _ (e2.same h15) (r1L.trans (Ai.of h15))
end
abbrev Kd:Stmt:=top 61
abbrev M4:List Str:=["_law_bag_here","_law_wires","_law_hows","_law_there","_law_every"]
theorem Jm:Ba ["_law_bag_here","_law_wires","_law_hows","_law_there","_law_every","_law_way","_law_stretch","_law_spot","_law_device"] M4 (Ag Kd):=⟨rfl,rfl,rfl,by trivial,rfl,by trivial,by trivial⟩
def Io (H:Hp) (kv:List Key×V) (x:Sp3×(Str×Int)):Prop:=kv.1=k3 x.1/\HeldAt H kv.2 (some x.2)
theorem Io.tups {H H':Hp} (s:Am H H') {kv:List Key×V} {x:Sp3×(Str×Int)} (h:Io H kv x):Io H' kv x:=by
 obtain⟨h1,t,h2,h3⟩:=h
 exact⟨h1,t,h2,s _ _ h3⟩
theorem Sx {H:Hp}:∀{kvs:List (List Key×V)} {th:List (Sp3×(Str×Int))},Paired (Io H) kvs th->kvs.map (·.1)=th.map λx=>k3 x.1
 | _,_,.nil=>rfl
 | _,_,.cons h t=>by rw[QbZ,QbZ,h.1,Sx t]
structure Rel (fl:List (Sp3×Option (Str×Int))) (th:List (Sp3×(Str×Int))):Prop where
 nd:(th.map (·.1)).Nodup
 iff:∀s d,(s,d)∈th ↔ (s,some d)∈fl
theorem HF {β : Type} {l:List (Sp3×β)} {s s':Sp3} {v v':β}:(s',v')∈Dc l s v ↔ (s'=s/\v'=v/\s∈l.map (·.1))\/(s'≠s/\(s',v')∈l):=by
 constructor
 ·intro h
  obtain⟨x,hx,e⟩:=Qci.mp h
  by_cases c:x.1=s
  ·rw[if_pos c] at e
   injection e with e1 e2
   exact .inl ⟨by rw[<-e1,c],e2.symm,Qci.mpr ⟨x,hx,c⟩⟩
  ·rw[if_neg c] at e
   subst e
   exact .inr ⟨c,hx⟩
 ·rintro (⟨rfl,rfl,h⟩|⟨h1,h2⟩)
  ·obtain⟨x,hx,e⟩:=Qci.mp h
   exact Qci.mpr ⟨x,hx,by rw[if_pos e,e]⟩
  ·exact Qci.mpr ⟨_,h2,if_neg h1⟩
theorem erase_filter:∀{th:List (Sp3×(Str×Int))} {j:Nat} {x:Sp3×(Str×Int)},(th.map (·.1)).Nodup->th[j]?=some x->∀y,y∈th.eraseIdx j ↔ (y∈th/\y.1≠x.1)
 | [],_,_,_,h,_=>by simp at h
 | a::r,0,x,nd,h,y=>by
  simp at h
  subst h
  obtain⟨n1,n2⟩:=QbJ.mp nd
  show y∈r ↔ _
  constructor
  ·intro hy
   exact⟨QaE _ hy,λe=>n1 (by show a.1∈_;rw[<-e];exact Qci.mpr ⟨y,hy,rfl⟩)⟩
  ·rintro ⟨hy,ne⟩
   rcases QbY.mp hy with rfl | hy
   ·exact absurd rfl ne
   ·exact hy
 | a::r,j+1,x,nd,h,y=>by
  have h:r[j]?=some x:=by simpa using h
  obtain⟨n1,n2⟩:=QbJ.mp nd
  show y∈a::r.eraseIdx j ↔ _
  rw[QbY,erase_filter n2 h y,QbY]
  constructor
  ·rintro (rfl |⟨h1,h2⟩)
   ·exact⟨.inl rfl,λe=>n1 (by show y.1∈_;rw[e];exact Qci.mpr ⟨x,QaD h,rfl⟩)⟩
   ·exact⟨.inr h1,h2⟩
  ·rintro ⟨rfl | h1,h2⟩
   ·exact .inl rfl
   ·exact .inr ⟨h1,h2⟩
theorem Rel.ET {fl:List (Sp3×Option (Str×Int))} {th:List (Sp3×(Str×Int))} (R:Rel fl th) {j:Nat} {x:Sp3×(Str×Int)} (h:th[j]?=some x):Rel (Dc fl x.1 none) (th.eraseIdx j):=by
 refine⟨(List.Sublist.map _ (List.eraseIdx_sublist th j)).nodup R.nd,λs d=>?_⟩
 rw[erase_filter R.nd h,HF,R.iff]
 constructor
 ·rintro ⟨h1,h2⟩
  exact .inr ⟨h2,h1⟩
 ·rintro (⟨_,h2,_⟩|⟨h1,h2⟩)
  ·cases h2
  ·exact⟨h2,h1⟩
theorem Rel.ES {fl:List (Sp3×Option (Str×Int))} {th:List (Sp3×(Str×Int))} (R:Rel fl th) {s:Sp3} (h:∀x∈th,x.1≠s):Rel (Dc fl s none) th:=by
 refine⟨R.nd,λs' d=>?_⟩
 rw[HF,R.iff]
 constructor
 ·intro h1
  exact .inr ⟨λe=>h _ ((R.iff s' d).mpr h1) e,h1⟩
 ·rintro (⟨_,h2,_⟩|⟨h1,h2⟩)
  ·cases h2
  ·exact h2
theorem Rel.put {fl:List (Sp3×Option (Str×Int))} {th:List (Sp3×(Str×Int))} (R:Rel fl th) {s:Sp3} {d:Str×Int} (hin:s∈fl.map (·.1)):Rel (Dc fl s (some d)) (if s∈th.map (·.1) then Dc th s d else th++[(s,d)]):=by
 by_cases c:s∈th.map (·.1)
 ·rw[if_pos c]
  refine⟨by rw[Ge];exact R.nd,λs' d'=>?_⟩
  rw[HF,HF,R.iff]
  constructor
  ·rintro (⟨h1,h2,_⟩| h)
   ·exact .inl ⟨h1,by rw[h2],hin⟩
   ·exact .inr h
  ·rintro (⟨h1,h2,_⟩| h)
   ·exact .inl ⟨h1,QbH h2,c⟩
   ·exact .inr h
 ·rw[if_neg c]
  refine⟨?_,λs' d'=>?_⟩
  ·rw[QbC,List.nodup_append]
   exact⟨R.nd,by simp,λa ha b hb e=>c (by have:b=s:=(by simpa using hb);rw[<-this,<-e];exact ha)⟩
  ·rw[HF,QbD,R.iff]
   constructor
   ·rintro (h | h)
    ·exact .inr ⟨λe=>c (by rw[<-e];exact Qci.mpr ⟨_,(R.iff s' d').mpr h,rfl⟩),h⟩
    ·have:(s',d')=(s,d):=by simpa using h
     injection this with e1 e2
     exact .inl ⟨e1,by rw[e2],hin⟩
   ·rintro (⟨h1,h2,_⟩|⟨h1,h2⟩)
    ·exact .inr (by rw[h1,QbH h2];exact QaR ..)
    ·exact .inl h2
structure Ad where
 b:Addr
 p:Addr
 pl:Addr
 d1:Addr
 d2:Addr
 d3:Addr
 h:Addr
 e:Addr
 v:Addr
 w:Addr
structure LS (C:Addr) (H:Hp) (a:Ad) (n:Nat) (hs:List (Sp3×Str)) (fl:List (Sp3×Option (Str×Int))) (th:List (Sp3×(Str×Int))):Prop where
 bag:Br H a.b n
 wi:WAt C H a.p a.pl a.d1 a.d2 a.d3 hs fl
 ho:H a.h=some (.dT (stV hs))
 te:∃kvs,H a.e=some (.dT kvs)/\Paired (Io H) kvs th
 ev:∃xs,H a.v=some (.lst xs)/\Paired (Gq H) xs (fl.map (·.1))
 wn:∃xs,H a.w=some (.lst xs)/\Paired (Gq H) xs (hs.map (·.1))
 nbv:a.v≠a.b
 nbw:a.w≠a.b
 n12:a.d1≠a.d2
 n1h:a.h≠a.d1
 n1e:a.e≠a.d1
 n2h:a.h≠a.d2
 n2e:a.e≠a.d2
 nhe:a.h≠a.e
 rel:Rel fl th
 rise:((fl.map (·.1)).map cd3).Pairwise (· < ·)
 bf:∀s∈fl.map (·.1),Bd3 s
 bs:∀s∈hs.map (·.1),Bd3 s
 l1:1<=hs.length
 l2:1<=fl.length
 l3:fl.length<=30
 kf:∀s d,(s,some d)∈fl->CP d.1
 ks:∀x∈hs,PyData.strOk x.2=true
def FrS (a:Ad) (H H':Hp):Prop:=∀c o,H c=some o->c≠a.b->c≠a.d1->c≠a.d2->c≠a.h->c≠a.e->H' c=some o
theorem FrS.of {a:Ad} {H H':Hp} (s:Same H H'):FrS a H H':=λc o e _ _ _ _ _=>s _ _ e
theorem FrS.trans {a:Ad} {H H' H'':Hp} (s:FrS a H H') (t:FrS a H' H''):FrS a H H'':=λc o e n1 n2 n3 n4 n5=>t _ _ (s _ _ e n1 n2 n3 n4 n5) n1 n2 n3 n4 n5
section
variable {C:Addr} {H H':Hp} {a:Ad} {n n':Nat} {hs hs':List (Sp3×Str)} {fl fl':List (Sp3×Option (Str×Int))} {th th':List (Sp3×(Str×Int))}
theorem LS.step (L:LS C H a n hs fl th) (t:Am H H') (bag:Br H' a.b n') (wi:WAt C H' a.p a.pl a.d1 a.d2 a.d3 hs' fl') (ho:H' a.h=some (.dT (stV hs'))) (te:∃kvs,H' a.e=some (.dT kvs)/\Paired (Io H') kvs th') (hv:∀o,H a.v=some o->H' a.v=some o) (hw:∀o,H a.w=some o->H' a.w=some o) (rel:Rel fl' th') (k1:hs'.map (·.1)=hs.map (·.1)) (k2:fl'.map (·.1)=fl.map (·.1)) (kf:∀s d,(s,some d)∈fl'->CP d.1) (ks:∀x∈hs',PyData.strOk x.2=true):LS C H' a n' hs' fl' th':=by
 obtain⟨xs,x1,x2⟩:=L.ev
 obtain⟨ys,y1,y2⟩:=L.wn
 have e1:hs'.length=hs.length:=by have:=congrArg List.length k1;simpa using this
 have e2:fl'.length=fl.length:=by have:=congrArg List.length k2;simpa using this
 exact⟨bag,wi,ho,te,⟨xs,hv _ x1,by rw[k2];exact Paired.Bb x2 λ_ _ z=>z.tups t⟩,⟨ys,hw _ y1,by rw[k1];exact Paired.Bb y2 λ_ _ z=>z.tups t⟩,L.nbv,L.nbw,L.n12,L.n1h,L.n1e,L.n2h,L.n2e,L.nhe,rel,by rw[k2];exact L.rise,by rw[k2];exact L.bf,by rw[k1];exact L.bs,by rw[e1];exact L.l1,by rw[e2];exact L.l2,by rw[e2];exact L.l3,kf,ks⟩
theorem LS.same (L:LS C H a n hs fl th) (s:Same H H'):LS C H' a n hs fl th:=by
 obtain⟨kvs,e1,e2⟩:=L.te
 exact L.step (Am.of s) (L.bag.same s) (L.wi.same s) (s _ _ L.ho) ⟨kvs,s _ _ e1,Paired.Bb e2 λ_ _ z=>z.tups (Am.of s)⟩ (λo e=>s _ _ e) (λo e=>s _ _ e) L.rel rfl rfl L.kf L.ks
theorem LS.mono (L:LS C H a n hs fl th) (h:n<=n'):LS C H a n' hs fl th:=by
 obtain⟨kvs,e1,e2⟩:=L.te
 exact L.step (Am.of (Same.refl H)) (L.bag.mono h) L.wi L.ho ⟨kvs,e1,e2⟩ (λo e=>e) (λo e=>e) L.rel rfl rfl L.kf L.ks
theorem LS.nb (L:LS C H a n hs fl th):a.p≠a.b/\a.d1≠a.b/\a.d2≠a.b/\a.h≠a.b/\a.e≠a.b:=by
 obtain⟨_,_,_,eb,_⟩:=L.bag
 obtain⟨dx,e0⟩:=L.wi.ins
 obtain⟨kvs,e2,_⟩:=L.wi.fi
 obtain⟨kv',e4,_⟩:=L.te
 exact⟨(λz=>by rw[z,eb] at e0;cases e0),(λz=>by have:=L.wi.st;rw[z,eb] at this;cases this),(λz=>by rw[z,eb] at e2;cases e2),(λz=>by have:=L.ho;rw[z,eb] at this;cases this),(λz=>by rw[z,eb] at e4;cases e4)⟩
theorem LS.drawn (L:LS C H a n hs fl th) (s:Ai a.b H H') (hb:Br H' a.b n'):LS C H' a n' hs fl th:=by
 obtain⟨kvs,e1,e2⟩:=L.te
 obtain⟨m0,m1,m2,m3,m4⟩:=L.nb
 have t:=s.tup L.bag.Fy
 exact L.step t hb (L.wi.Cz s L.bag.Fy m0 m1 m2) (s _ _ L.ho m3) ⟨kvs,s _ _ e1 m4,Paired.Bb e2 λ_ _ z=>z.tups t⟩ (λo e=>s _ _ e L.nbv) (λo e=>s _ _ e L.nbw) L.rel rfl rfl L.kf L.ks
theorem LS.frB (L:LS C H a n hs fl th) (s:Ai a.b H H'):FrS a H H':=λc o e n1 _ _ _ _=>s _ _ e n1
end
theorem QJ {H:Hp} {v:V} {s:Sp3} (h:Gq H v s):Th H v:=by
 obtain⟨u,rfl,e⟩:=h
 refine⟨.inr ⟨_,e⟩,λxs ex=>?_⟩
 rw[Dp e] at ex
 cases ex
 refine⟨by show 3<=100;decide,λy hy=>?_⟩
 have:y=.int s.lp\/y=.int s.at_\/y=.int s.n:=by simpa using hy
 rcases this with rfl | rfl | rfl <;> exact True.intro
theorem Oz:∀{l m:List Sp3},l.Nodup->(∀x∈l,x∈m)->l.length<=m.length
 | [],_,_,_=>Qcr _
 | a::r,m,nd,h=>by
  have ha:=h a (QaR ..)
  obtain⟨n1,n2⟩:=QbJ.mp nd
  have:=Oz (l:=r) (m:=m.erase a) n2 λx hx=>(List.mem_erase_of_ne (λe=>n1 (by rw[<-e];exact hx))).mpr (h x (QaE _ hx))
  rw[List.length_erase_of_mem ha] at this
  have hp:=List.length_pos_of_mem ha
  rw[Qbr]
  omega
theorem eY {s:Sp3} {d:Str×Int} {t:Addr} (H:Hp) (ht:H t=some (.tup [.str d.1,.int d.2])):∀{kvs:List (List Key×V)} {th:List (Sp3×(Str×Int))},Paired (Io H) kvs th->Paired (Io H) (kvs.map λkv=>if kv.1=k3 s then (kv.1,V.ref t) else kv) (Dc th s d)
 | _,_,.nil=>.nil
 | _,_,.cons (a:=kv) (b:=x) h r=>by
  refine .cons ?_ (eY H ht r)
  show Io H (if kv.1=k3 s then (kv.1,V.ref t) else kv) (if x.1=s then (x.1,d) else x)
  by_cases e:x.1=s
  ·rw[if_pos e,if_pos (by rw[h.1,e])]
   exact⟨h.1,t,rfl,ht⟩
  ·rw[if_neg e,if_neg (λz=>e (Gb (by rw[<-h.1,z])))]
   exact h
theorem uU {s:Sp3} {d:Str×Int} {t:Addr} (H:Hp) (ht:H t=some (.tup [.str d.1,.int d.2])) {kvs:List (List Key×V)} {th:List (Sp3×(Str×Int))} (h:Paired (Io H) kvs th):Paired (Io H) (putK kvs (k3 s) (.ref t)) (if s∈th.map (·.1) then Dc th s d else th++[(s,d)]):=by
 have hf:=Sx h
 by_cases c:s∈th.map (·.1)
 ·rw[if_pos c]
  obtain⟨x,hx,e⟩:=Qci.mp c
  have:k3 x.1∈kvs.map (·.1):=by rw[hf];exact Qci.mpr ⟨x,hx,rfl⟩
  obtain⟨kv,hkv,ekv⟩:=Qci.mp this
  rw[Ow ⟨kv,hkv,by rw[ekv,e]⟩]
  exact eY H ht h
 ·rw[if_neg c,Mu _ (JW λy hy e=>c ?_)]
  ·exact Qcs ⟨rfl,t,rfl,ht⟩ h
  ·have:y.1∈kvs.map (·.1):=Qci.mpr ⟨y,hy,rfl⟩
   rw[hf] at this
   obtain⟨x,hx,ex⟩:=Qci.mp this
   exact Qci.mpr ⟨x,hx,Gb (by rw[ex,e])⟩
def fM (C:Addr):Sp:=λvs H Q _=>∃a n hs fl th,vs=[.ref a.b,.ref a.p,.ref a.h,.ref a.e,.ref a.v]/\LS C H a n hs fl th/\n<=9000/\∀hs' fl' th' H',LS C H' a (n+5) hs' fl' th'->FrS a H H'->Q .non H'
section
variable {P:Program} {w:World} {K:PySem.W.Frag} {mg:Str->Option Value} {base:Heap} {op oe kd wk C:Addr}
theorem tG {c2 c3:Addr} (c:Code K mg "_law_deed" Kd M4) (T:Tw K mg op oe kd wk C)
  (Bl:Good P w K mg base "_law_take" 1 Gi Mq) (UJ:Cd P w K mg base C "cut" 4 Gm (Oo C c2 "cut")) (Qn:Cd P w K mg base C "short" 4 Em (Oo C c2 "short")) (RV:Cd P w K mg base C "mend" 4 Fp (Oo C c2 "whole"))
  (M9:Cd P w K mg base C "take_out" 4 Dl (Wx C c3)) (O6:Cd P w K mg base C "put_in" 4 DR (bC C c3)):Good P w K mg base "_law_deed" 5 M4 (fM C):=by
 have sc:=Jm
 refine c.good Jm (λvs H Q E h=>?_) (λf cdv A outer s H vs Q E hr h=>?_)
 ·obtain⟨a,n,hs,fl,th,rfl,_⟩:=h
  rfl
 obtain⟨a,n,hs,fl,th,rfl,L,hn,q⟩:=h
 refine⟨_,(Ah (Bd (i:=5) Jm.nd rfl (Or.inl rfl) (Ay Bl hr (Aa (pv 0) (Aa Ae Ab))))
 (Ah (Bd (i:=6) Jm.nd rfl (Or.inl rfl) (Bq CG (EY (N5 rfl) rfl T.list UW (Aa (pv 2) Ab)) (Ay Bl hr (Aa (pv 0) (Aa (Aw dH rfl T.len Dg (Aa (pv 2) Ab)) Ab))) (λ_ _=>rfl)))
 (Ah (Bd (i:=7) Jm.nd rfl (Or.inl rfl) (Bq CG (pv 4) (Ay Bl hr (Aa (pv 0) (Aa (Aw Bu rfl T.len Dg (Aa (pv 4) Ab)) Ab))) (λ_ _=>rfl)))
 (Aj (BW (Bs V7 (pv 5) Ae (BP _)) (Ah (Bj (Dw (pv 1) T.cl UJ hr Ob (Aa (pv 6) Ab)))
 (Aj (Fg (Dh hr) (pv 2) (pv 6) Bh rfl))) (Aj (BW (Bs Hs (pv 5) Ae (BP _)) (Ah (Bj (Dw (pv 1) T.cl Qn hr Ob (Aa (pv 6) Ab)))
 (Aj (Fg (Dh hr) (pv 2) (pv 6) Bh rfl))) (Aj (BW (Bs Hs (pv 5) Ae (BP _)) (Ah (Bj (Dw (pv 1) T.cl RV hr Ob (Aa (pv 6) Ab)))
 (Aj (Fg (Dh hr) (pv 2) (pv 6) Bh rfl))) (Aj (BW (Bs Hs (pv 5) Ae (BP _)) (Ah (Bj (Dw (pv 1) T.cl M9 hr Ob (Aa (pv 7) Ab)))
 (Aj (Bj (lN (Dh hr) (pv 3) (pv 7) (Bk Ab) ⟨rfl,rfl,rfl,rfl⟩)))) (Ah (Bd (i:=8) Jm.nd rfl (Or.inl rfl) (Bk (Aa (Bq CG (BR (Aa Bh (Aa Bh (Aa Bh (Aa Bh Ab))))) (Ay Bl hr (Aa (pv 0) (Aa Ae Ab))) (λ_ _=>rfl)) (Aa (Bg Cp Ae (Ay Bl hr (Aa (pv 0) (Aa Ae Ab)))) Ab))))
 (Ah (Bj (Dw (pv 1) T.cl O6 hr Ob (Aa (pv 7) (Aa (Bq Cr (pv 8) Ae (λ_ _=>rfl)) (Aa (Bq Cr (pv 8) Ae (λ_ _=>rfl)) Ab)))))
 (Aj (Fg (Dh hr) (pv 3) (pv 7) (pv 8) rfl))))))))))))))),?_⟩
 have l1:=L.l1
 have l2:=L.l2
 have l3:=L.l3
 have l4:=L.wi.l1
 refine⟨_,rfl,a.b,n,6,rfl,L.bag,by omega,by decide,by decide,λr H1 r0 r1 hb1 sb1=>?_⟩
 have L1:=L.drawn sb1 hb1
 have F1:=L.frB sb1
 refine⟨_,rfl,Ql L1.ho λls bs hls hbs=>?_⟩
 have s2:=Af hls (.lst (bs.map V.ref))
 have L2:=L1.same s2
 have lbs:=QbX hbs
 have lst:(stV hs).length=hs.length:=by unfold stV;rw[QbB]
 refine⟨_,rfl,_,rfl,a.h,_,rfl,L2.ho,a.b,n+1,_,rfl,L2.bag,by omega,?_⟩
 rw[lst]
 refine⟨by omega,by omega,λi H3 i0 i1 hb3 sb3=>?_⟩
 have nls:ls≠a.b:=(L1.bag.nb hls).symm
 obtain⟨k,rfl⟩ : ∃k:Nat,i=(k:Int):=⟨i.toNat,(QaP i0).symm⟩
 have hkl:k < hs.length:=by omega
 have hbk:bs[k]?=some bs[k]:=Qan (by omega)
 obtain⟨kv,hkv,hbt⟩:=Paired.Cm hbs hbk
 have hsk:hs[k]?=some hs[k]:=Qan hkl
 have ekv:kv.1=k3 hs[k].1:=by
  unfold stV at hkv
  rw[Qbi,hsk] at hkv
  cases hkv
  rfl
 rw[ekv] at hbt
 have L3:=L2.drawn sb3 hb3
 have F3:=(F1.trans (FrS.of s2)).trans (L2.frB sb3)
 have t3:=sb3.tup L2.bag.Fy
 have Lo:H3 bs[k]=some (.tup [.int hs[k].1.lp,.int hs[k].1.at_,.int hs[k].1.n]):=t3 _ _ (s2 _ _ hbt)
 have sIn:hs[k].1∈hs.map (·.1):=Qci.mpr ⟨hs[k],List.getElem_mem hkl,rfl⟩
 refine⟨ls,_,_,_,rfl,rfl,SqL.of (sb3 _ _ Ac nls),Gz (xs:=bs.map V.ref) (j:=k) (by rw[Qbi,hbk];rfl),?_⟩
 generalize hs[k].1=s1 at *
 generalize bs[k]=b1 at *
 clear hbt hbk hkv ekv hbs lbs
 obtain⟨xs,x1,x2⟩:=L3.ev
 have lx:=QbX x2
 rw[QbB] at lx
 refine⟨_,rfl,_,rfl,_,rfl,a.v,_,rfl,.inl (SqL.of x1),a.b,n+1+1,_,rfl,L3.bag,by omega,by omega,by omega,λi2 H4 j0 j1 hb4 sb4=>?_⟩
 obtain⟨m,rfl⟩ : ∃m:Nat,i2=(m:Int):=⟨i2.toNat,(QaP j0).symm⟩
 have L4:=L3.drawn sb4 hb4
 have F4:=F3.trans (L3.frB sb4)
 have t4:=sb4.tup L3.bag.Fy
 have hml:m < xs.length:=by omega
 have hxm:xs[m]?=some xs[m]:=Qan hml
 obtain⟨s2',hs2,b2,eb2,hb2⟩:=Paired.Cm x2 hxm
 have cO:=t4 _ _ Lo
 have X5:=t4 _ _ hb2
 have kO:s2'∈fl.map (·.1):=QaD hs2
 refine⟨a.v,_,_,_,rfl,rfl,SqL.of (sb4 _ _ x1 L3.nbv),Gz (xs:=xs) (j:=m) hxm,?_⟩
 rw[eb2]
 obtain⟨dx,hp4⟩:=L4.wi.ins
 have thS:Th H4 (.ref b1):=QJ ⟨b1,rfl,cO⟩
 have thP:Th H4 (.ref b2):=QJ ⟨b2,rfl,X5⟩
 obtain⟨m0,m1,m2,m3,m4⟩:=L4.nb
 have noS:¬Lg H4 (.ref b1) (hs.map (·.1))->False:=λz=>z ⟨b1,s1,rfl,cO,sIn⟩
 have noP:¬Lg H4 (.ref b2) (fl.map (·.1))->False:=λz=>z ⟨b2,s2',rfl,X5,kO⟩
 have eqS:∀(b:Addr) (s':Sp3),V.ref b1=.ref b->H4 b=some (.tup [.int s'.lp,.int s'.at_,.int s'.n])->s'=s1:=λb s' e1 e2=>by
  cases e1
  rw[cO] at e2
  cases s1
  cases s'
  cases e2
  rfl
 have eqP:∀(b:Addr) (s':Sp3),V.ref b2=.ref b->H4 b=some (.tup [.int s'.lp,.int s'.at_,.int s'.n])->s'=s2':=λb s' e1 e2=>by
  cases e1
  rw[X5] at e2
  cases s2'
  cases s'
  cases e2
  rfl
 have kI:∀(z:Str) (H5:Hp),PyData.strOk z=true->WAt C H5 a.p a.pl a.d1 a.d2 a.d3 (Dc hs s1 z) fl->Ai a.d1 H4 H5->∃H6,Hl H5 a.h (.ref b1) (.str z) H6/\Q .non H6:=λz H5 hz W5 sB=>by
  have nt5:∀zs,H4 a.d1≠some (.tup zs):=λzs e=>by rw[L4.wi.st] at e;cases e
  have t5:=sB.tup nt5
  have hh5:=sB _ _ L4.ho L4.n1h
  have nth:∀zs,H5 a.h≠some (.tup zs):=λzs e=>by rw[hh5] at e;cases e
  refine⟨_,Hl.t (k:=k3 s1) hh5 (t5 _ _ cO) (Ao (by rw[lst];omega)),?_⟩
  rw[QF sIn]
  have t6:=Am.upd (o:=.dT (stV (Dc hs s1 z))) nth
  obtain⟨kvs,e1,e2⟩:=L4.te
  obtain⟨dx5,hp5⟩:=W5.ins
  obtain⟨kv5,f1,f2⟩:=W5.fi
  obtain⟨ys,y1,_⟩:=L4.ev
  obtain⟨zs',z1,_⟩:=L4.wn
  have nph:a.p≠a.h:=λe=>by rw[e,hh5] at hp5;cases hp5
  have nbh:a.b≠a.h:=m3.symm
  have nvh:a.v≠a.h:=λe=>by rw[e,L4.ho] at y1;cases y1
  have nwh:a.w≠a.h:=λe=>by rw[e,L4.ho] at z1;cases z1
  have nv1:a.v≠a.d1:=λe=>by rw[e,L4.wi.st] at y1;cases y1
  have nw1:a.w≠a.d1:=λe=>by rw[e,L4.wi.st] at z1;cases z1
  have ksN:∀x∈Dc hs s1 z,PyData.strOk x.2=true:=λx hx=>by
   rcases HF.mp (show (x.1,x.2)∈_ from hx) with⟨_,e,_⟩|⟨_,h⟩
   ·rw[e];exact hz
   ·exact L4.ks _ h
  have W6:WAt C (upd H5 a.h (.dT (stV (Dc hs s1 z)))) a.p a.pl a.d1 a.d2 a.d3 (Dc hs s1 z) fl:=W5.Cz Ai.upd nth nph L4.n1h.symm L4.n2h.symm
  refine q (Dc hs s1 z) fl th _ (L4.step (n':=n+5) (t5.trans t6) ?_ W6 Ac ⟨kvs,by rw[Al L4.nhe.symm];exact sB _ _ e1 L4.n1e,Paired.Bb e2 λ_ _ y=>(y.tups t5).tups t6⟩ (λo e=>by rw[Al nvh];exact sB _ _ e nv1) (λo e=>by rw[Al nwh];exact sB _ _ e nw1) L4.rel (Ge _ _ _) rfl L4.kf ksN) (F4.trans λc o e n1 n2 n3 n4 n5=>by rw[Al n4];exact sB _ _ e n2)
  have:=(hb4.Cz sB m1.symm).Cz (Ai.upd (b:=a.h) (o:=.dT (stV (Dc hs s1 z)))) nbh
  exact this.mono (by omega)
 refine⟨_,rfl,_,_,rfl,rfl,_,rfl,Gn (λ_=>?_) (λ_=>⟨_,rfl,rfl,_,rfl,Gn (λ_=>?_) (λ_=>⟨_,rfl,rfl,_,rfl,Gn (λ_=>?_) (λ_=>⟨_,rfl,rfl,_,rfl,Gn (λ_=>?_) (λ_=>?_)⟩)⟩)⟩)⟩
 ·refine⟨_,rfl,a.p,dx,_,rfl,hp4,fno (by trivial),_,rfl,a.p,a.pl,a.d1,a.d2,a.d3,hs,fl,.ref b1,rfl,L4.wi,L4.n12,thS,(λb s' e1 e2 _ H5 W5 sB=>?_),λz=>(noS z).elim⟩
  cases eqS b s' e1 e2
  obtain⟨H6,O4,hq⟩:=kI "cut" H5 (by trivial) W5 sB
  exact⟨_,rfl,_,rfl,a.h,H6,rfl,O4,hq⟩
 ·refine⟨_,rfl,a.p,dx,_,rfl,hp4,fno (by trivial),_,rfl,a.p,a.pl,a.d1,a.d2,a.d3,hs,fl,.ref b1,rfl,L4.wi,L4.n12,thS,(λb s' e1 e2 _ H5 W5 sB=>?_),λz=>(noS z).elim⟩
  cases eqS b s' e1 e2
  obtain⟨H6,O4,hq⟩:=kI "short" H5 (by trivial) W5 sB
  exact⟨_,rfl,_,rfl,a.h,H6,rfl,O4,hq⟩
 ·refine⟨_,rfl,a.p,dx,_,rfl,hp4,fno (by trivial),_,rfl,a.p,a.pl,a.d1,a.d2,a.d3,hs,fl,.ref b1,rfl,L4.wi,L4.n12,thS,(λb s' e1 e2 _ H5 W5 sB=>?_),λz=>(noS z).elim⟩
  cases eqS b s' e1 e2
  obtain⟨H6,O4,hq⟩:=kI "whole" H5 (by trivial) W5 sB
  exact⟨_,rfl,_,rfl,a.h,H6,rfl,O4,hq⟩
 ·
  refine⟨_,rfl,a.p,dx,_,rfl,hp4,fno (by trivial),_,rfl,a.p,a.pl,a.d1,a.d2,a.d3,hs,fl,.ref b2,rfl,L4.wi,L4.n12,thP,(λb s' e1 e2 _ H5 W5 sB=>?_),λz=>(noP z).elim⟩
  cases eqP b s' e1 e2
  obtain⟨kvs,e3,e4⟩:=L4.te
  obtain⟨kv4,g3,g4⟩:=L4.wi.fi
  have nt5:∀zs,H4 a.d2≠some (.tup zs):=λzs e=>by rw[g3] at e;cases e
  have t5:=sB.tup nt5
  have he5:=sB _ _ e3 L4.n2e
  obtain⟨ys,y1,_⟩:=L4.ev
  obtain⟨zs',z1,_⟩:=L4.wn
  have nv2:a.v≠a.d2:=λe=>by rw[e,g3] at y1;cases y1
  have nw2:a.w≠a.d2:=λe=>by rw[e,g3] at z1;cases z1
  have hb5:=hb4.Cz sB m2.symm
  have e45:Paired (Io H5) kvs th:=Paired.Bb e4 λ_ _ y=>y.tups t5
  have F5:FrS a H4 H5:=λc o e n1 n2 n3 n4 n5=>sB _ _ e n3
  have kfN:∀s d,(s,some d)∈Dc fl s2' none->CP d.1:=λs d h=>by
   rcases HF.mp h with⟨_,e,_⟩|⟨_,h⟩
   ·cases e
   ·exact L4.kf s d h
  refine⟨_,rfl,a.e,rfl,.inr ⟨_,.inl he5⟩,_,rfl,Ar (by show 0<=1000;decide),λte hte=>?_⟩
  have s6:=Af hte (.tup [])
  have t6:=Am.of s6
  refine⟨kvs,k3 s2',b2,s6 _ _ he5,rfl,s6 _ _ (t5 _ _ X5),(λj v hj=>?_),(λhno=>?_)⟩
  ·obtain⟨x,hx,ex,_⟩:=Paired.Cm e45 hj
   have ex:x.1=s2':=(Gb ex).symm
   have rel:=L4.rel.ET hx
   rw[ex] at rel
   have he6:=s6 _ _ he5
   have nte:∀zs,(upd H5 te (.tup [])) a.e≠some (.tup zs):=λzs e=>by rw[he6] at e;cases e
   have t7:=Am.upd (o:=.dT (kvs.eraseIdx j)) nte
   have W6:=W5.same s6
   obtain⟨dx6,hp6⟩:=W6.ins
   have npe:a.p≠a.e:=λe=>by rw[e,he6] at hp6;cases hp6
   have nve:a.v≠a.e:=λe=>by rw[e,e3] at y1;cases y1
   have nwe:a.w≠a.e:=λe=>by rw[e,e3] at z1;cases z1
   refine q hs (Dc fl s2' none) (th.eraseIdx j) _ (L4.step (n':=n+5) (t5.trans (t6.trans t7)) ?_ (W6.Cz Ai.upd nte npe L4.n1e.symm L4.n2e.symm) (by rw[Al L4.nhe];exact s6 _ _ (sB _ _ L4.ho L4.n2h)) ⟨_,Ac,Paired.Bb (O8 j e45) λ_ _ y=>(y.tups t6).tups t7⟩ (λo e=>by rw[Al nve];exact s6 _ _ (sB _ _ e nv2)) (λo e=>by rw[Al nwe];exact s6 _ _ (sB _ _ e nw2)) rel rfl (Ge _ _ _) kfN L4.ks) (F4.trans (F5.trans ((FrS.of s6).trans λc o e n1 n2 n3 n4 n5=>by rw[Al n5];exact e)))
   exact ((hb5.same s6).Cz Ai.upd m4.symm).mono (by omega)
  ·have hno':∀x∈th,x.1≠s2':=λx hx e=>by
    obtain⟨j,hj⟩:=QaG hx
    have:(kvs.map (·.1))[j]?=some (k3 x.1):=by rw[Sx e45,Qbi,hj];rfl
    rw[Qbi] at this
    obtain⟨kv,hkv,ekv⟩:=Qaw.mp this
    exact hno j kv.2 (by rw[hkv,<-e,<-ekv])
   have rel:=L4.rel.ES hno'
   refine q hs (Dc fl s2' none) th _ (L4.step (n':=n+5) (t5.trans t6) ((hb5.same s6).mono (by omega)) (W5.same s6) (s6 _ _ (sB _ _ L4.ho L4.n2h)) ⟨kvs,s6 _ _ he5,Paired.Bb e45 λ_ _ y=>y.tups t6⟩ (λo e=>s6 _ _ (sB _ _ e nv2)) (λo e=>s6 _ _ (sB _ _ e nw2)) rel rfl (Ge _ _ _) kfN L4.ks) (F4.trans (F5.trans (FrS.of s6)))
 ·
  refine⟨Ar (by show 4<=1000;decide),λlq hlq=>?_⟩
  have s5:=Af hlq (.lst [.str "seeker",.str "knob",.str "bell",.str "door"])
  have L5:=L4.same s5
  refine⟨_,rfl,a.b,_,4,rfl,L5.bag,by omega,by decide,by decide,λrk H6 q0 q1 hb6 sb6=>?_⟩
  have L6:=L5.drawn sb6 hb6
  have nlq:lq≠a.b:=(L4.bag.nb hlq).symm
  obtain⟨kk,hkk,okk⟩ : ∃kk:Str,atI [V.str "seeker",.str "knob",.str "bell",.str "door"] rk=some (.str kk)/\CP kk:=by
   have:rk=0\/rk=1\/rk=2\/rk=3:=by omega
   rcases this with rfl | rfl | rfl | rfl
   ·exact⟨_,rfl,.inl rfl⟩
   ·exact⟨_,rfl,.inr (.inl rfl)⟩
   ·exact⟨_,rfl,.inr (.inr (.inl rfl))⟩
   ·exact⟨_,rfl,.inr (.inr (.inr rfl))⟩
  refine⟨lq,_,_,_,rfl,rfl,SqL.of (sb6 _ _ Ac nlq),hkk,?_⟩
  refine⟨_,rfl,a.b,_,99,rfl,L6.bag,by omega,by decide,by decide,λrx H7 w0 w1 hb7 sb7=>?_⟩
  have L7:=L6.drawn sb7 hb7
  have F7:=(F4.trans (FrS.of s5)).trans ((L5.frB sb6).trans (L6.frB sb7))
  refine⟨_,_,rfl,rfl,Ar (by show 2<=1000;decide),λtd htd=>?_⟩
  have s8:=Af htd (.tup [.str kk,.int (1+rx)])
  have L8:=L7.same s8
  have pA:(upd H7 td (.tup [.str kk,.int (1+rx)])) td=some (.tup [.str kk,.int (1+rx)]):=Ac
  have F8:=F7.trans (FrS.of s8)
  have t48:Am H4 (upd H7 td (.tup [.str kk,.int (1+rx)])):=((Am.of s5).trans (sb6.tup L5.bag.Fy)).trans ((sb7.tup L6.bag.Fy).trans (Am.of s8))
  generalize upd H7 td (.tup [.str kk,.int (1+rx)])=H8 at *
  have cP:=t48 _ _ X5
  obtain⟨dx8,hp8⟩:=L8.wi.ins
  refine⟨_,rfl,a.p,dx8,_,rfl,hp8,fno (by trivial),_,rfl,_,rfl,td,_,_,_,rfl,rfl,SqT.of pA,rfl,_,rfl,td,_,_,_,rfl,rfl,SqT.of pA,rfl,a.p,a.pl,a.d1,a.d2,a.d3,hs,fl,.ref b2,kk,1+rx,rfl,L8.wi,L8.n12,QJ ⟨b2,rfl,cP⟩,(λb s' e1 e2 _ H9 W9 sB=>?_),λz=>(z ⟨b2,s2',rfl,cP,kO⟩).elim⟩
  have es:s'=s2':=by
   cases e1
   rw[cP] at e2
   cases s2'
   cases s'
   cases e2
   rfl
  subst es
  obtain⟨kvs,e3,e4⟩:=L8.te
  obtain⟨kv8,g3,g4⟩:=L8.wi.fi
  have nt5:∀zs,H8 a.d2≠some (.tup zs):=λzs e=>by rw[g3] at e;cases e
  have t5:=sB.tup nt5
  have he5:=sB _ _ e3 L8.n2e
  obtain⟨ys,y1,_⟩:=L8.ev
  obtain⟨zs',z1,_⟩:=L8.wn
  have nv2:a.v≠a.d2:=λe=>by rw[e,g3] at y1;cases y1
  have nw2:a.w≠a.d2:=λe=>by rw[e,g3] at z1;cases z1
  have nve:a.v≠a.e:=λe=>by rw[e,e3] at y1;cases y1
  have nwe:a.w≠a.e:=λe=>by rw[e,e3] at z1;cases z1
  have hb9:=L8.bag.Cz sB m2.symm
  have e45:Paired (Io H9) kvs th:=Paired.Bb e4 λ_ _ y=>y.tups t5
  have lth:th.length<=200:=by
   have h1:=Oz L8.rel.nd (m:=fl.map (·.1)) λs hs=>by
    obtain⟨x,hx,rfl⟩:=Qci.mp hs
    exact Qci.mpr ⟨_,(L8.rel.iff x.1 x.2).mp hx,rfl⟩
   rw[QbB,QbB] at h1
   omega
  have lkv:=QbX e45
  have F9:FrS a H8 H9:=λc o e n1 n2 n3 n4 n5=>sB _ _ e n3
  refine⟨_,rfl,_,rfl,_,rfl,a.e,_,rfl,Hl.t (k:=k3 s') he5 (t5 _ _ cP) (Ao (by omega)),?_⟩
  have nte:∀zs,H9 a.e≠some (.tup zs):=λzs e=>by rw[he5] at e;cases e
  have t7:=Am.upd (o:=.dT (putK kvs (k3 s') (.ref td))) nte
  obtain⟨dx9,hp9⟩:=W9.ins
  have npe:a.p≠a.e:=λe=>by rw[e,he5] at hp9;cases hp9
  have Ll:=t5 _ _ pA
  have kfP:∀s d,(s,some d)∈Dc fl s' (some (kk,1+rx))->CP d.1:=λs d h=>by
   rcases HF.mp h with⟨_,e,_⟩|⟨_,h⟩
   ·rw[QbH e];exact okk
   ·exact L8.kf s d h
  refine q hs (Dc fl s' (some (kk,1+rx))) (if s'∈th.map (·.1) then Dc th s' (kk,1+rx) else th++[(s',(kk,1+rx))]) _ (L8.step (n':=n+5) (t5.trans t7) ?_ (W9.Cz Ai.upd nte npe L8.n1e.symm L8.n2e.symm) (by rw[Al L8.nhe];exact sB _ _ L8.ho L8.n2h) ⟨_,Ac,?_⟩ (λo e=>by rw[Al nve];exact sB _ _ e nv2) (λo e=>by rw[Al nwe];exact sB _ _ e nw2) (L8.rel.put kO) rfl (Ge _ _ _) kfP L8.ks) (F8.trans (F9.trans λc o e n1 n2 n3 n4 n5=>by rw[Al n5];exact e))
  ·exact (hb9.Cz Ai.upd m4.symm).mono (by omega)
  ·have e46:Paired (Io (upd H9 a.e (.dT (putK kvs (k3 s') (.ref td))))) kvs th:=Paired.Bb e45 λ_ _ y=>y.tups t7
   have hd7:=t7 _ _ Ll
   exact uU (upd H9 a.e (.dT (putK kvs (k3 s') (.ref td)))) hd7 e46
end
abbrev Je:Stmt:=top 63
abbrev qJ:List Str:=["_law_script"]
theorem Gs:Ba ["_law_script","_law_bag_here","_law_plan_here","_law_wires","_law_wire_names","_law_there","_law_every","_law_hows","_law_k","_law_again","_law_told"] qJ (Ag Je):=⟨rfl,rfl,rfl,by trivial,rfl,by trivial,by trivial⟩
def Uc (x:Sp3×(Str×Int)):Sd:=⟨x.1.lp,x.1.at_,x.1.n,x.2.1,x.2.2⟩
theorem fU (x:Sp3×(Str×Int)):(Uc x).spot=x.1:=rfl
theorem Xc {α : Type} (c:α->Int):∀{l m:List α},(l.map c).Pairwise (· < ·)->(m.map c).Pairwise (· < ·)->(∀x,x∈l ↔ x∈m)->l=m
 | [],[],_,_,_=>rfl
 | [],b::m,_,_,h=>by have:=(h b).mpr (QaR ..);cases this
 | a::l,[],_,_,h=>by have:=(h a).mp (QaR ..);cases this
 | a::l,b::m,hl,hm,h=>by
  obtain⟨l1,l2⟩:=List.pairwise_cons.mp hl
  obtain⟨m1,m2⟩:=List.pairwise_cons.mp hm
  have l1:∀x∈l,c a < c x:=λx hx=>l1 _ (Qci.mpr ⟨x,hx,rfl⟩)
  have m1:∀x∈m,c b < c x:=λx hx=>m1 _ (Qci.mpr ⟨x,hx,rfl⟩)
  have e:a=b:=by
   rcases QbY.mp ((h a).mp (QaR ..)) with e | e
   ·exact e
   ·have:=m1 a e
    rcases QbY.mp ((h b).mpr (QaR ..)) with e2 | e2
    ·exact e2.symm
    ·have:=l1 b e2
     omega
  subst e
  rw[Xc c l2 m2 λx=>⟨λhx=>?_,λhx=>?_⟩]
  ·rcases QbY.mp ((h x).mp (QaE _ hx)) with e | e
   ·have:=l1 x hx;rw[e] at this;omega
   ·exact e
  ·rcases QbY.mp ((h x).mpr (QaE _ hx)) with e | e
   ·have:=m1 x hx;rw[e] at this;omega
   ·exact e
theorem Rx:∀fl:List (Sp3×Option (Str×Int)),((FN fl).map λd=>cd3 d.spot).Sublist ((fl.map (·.1)).map cd3)
 | []=>.slnil
 | (s,none)::r=>(Rx r).cons _
 | (s,some d)::r=>(Rx r).cons_cons _
theorem Wk {fl:List (Sp3×Option (Str×Int))} {x:Sd}:x∈FN fl ↔ ∃s d,(s,some d)∈fl/\x=Uc (s,d):=by
 unfold FN
 rw[List.mem_filterMap]
 constructor
 ·rintro ⟨⟨s,o⟩,h1,h2⟩
  cases o with
  | none=>cases h2
  | some d=>cases h2;exact⟨s,d,h1,rfl⟩
 ·rintro ⟨s,d,h1,rfl⟩
  exact⟨(s,some d),h1,rfl⟩
theorem rC {fl:List (Sp3×Option (Str×Int))} {th:List (Sp3×(Str×Int))} (R:Rel fl th) (hr:((fl.map (·.1)).map cd3).Pairwise (· < ·)) {is:List Nat} (hp:is.Perm (List.range th.length)) (df:Sp3×(Str×Int)) (hi:(is.map λi=>(th.map λx=>cd3 x.1).getD i 0).Pairwise (· < ·)):is.map (λi=>Uc (th.getD i df))=FN fl:=by
 have lt:∀i∈is,i < th.length:=λi h=>QbU.mp (hp.mem_iff.mp h)
 refine Xc (λd=>cd3 d.spot) ?_ (List.Pairwise.sublist (Rx fl) hr) λx=>?_
 ·rw[Qcl]
  have e:is.map ((λd=>cd3 d.spot) ∘ λi=>Uc (th.getD i df))=is.map λi=>(th.map λx=>cd3 x.1).getD i 0:=QaM λi h=>by
   have:=lt i h
   simp[fU,this]
  rw[e]
  exact hi
 ·rw[Wk,Qci]
  constructor
  ·rintro ⟨i,h,rfl⟩
   have hl:=lt i h
   have e:th.getD i df=th[i]:=by simp[hl]
   rw[e]
   exact⟨th[i].1,th[i].2,(R.iff _ _).mp (List.getElem_mem hl),rfl⟩
  ·rintro ⟨s,d,h,rfl⟩
   obtain⟨i,hi2⟩:=QaG ((R.iff s d).mpr h)
   have hl:=(Qah.mp hi2).1
   refine⟨i,hp.mem_iff.mpr (QbU.mpr hl),?_⟩
   have e:th.getD i df=(s,d):=by rw[Qag,hi2];rfl
   rw[e]
def sdD (d:Sd):PyData:=.tuple [.tuple [.int d.lp,.int d.at_,.int d.n],.str d.kind,.int d.addr]
theorem Ry {H:Hp}:∀{vs:List V} {ds:List Sd},Paired (Ia H) vs ds->Lh H vs (ds.map sdD)
 | _,_,.nil=>.nil
 | _,_,.cons ⟨t,u,e,h1,h2⟩ r=>by
  subst e
  exact .cons (.tup h1 (.cons (.tup h2 (.cons (.int _) (.cons (.int _) (.cons (.int _) .nil)))) (.cons (.str _) (.cons (.int _) .nil)))) (Ry r)
theorem ZR:∀{ds:List Sd},(∀d∈ds,CP d.kind)->PyData.canLayAll0 (ds.map sdD)=true/\PyData.depthAll (ds.map sdD)<=2
 | [],_=>⟨rfl,by show 0<=2;decide⟩
 | d::r,h=>by
  have ih:=ZR (ds:=r) λx hx=>h x (QaE _ hx)
  refine⟨?_,?_⟩
  ·show (((true&&(true&&(true&&true)))&&(PyData.canLay0 (.str d.kind)&&(true&&true)))&&PyData.canLayAll0 (r.map sdD))=true
   rw[RP (h d QaR),ih.1];rfl
  ·show max (max (max 0 (max 0 (max 0 0))+1) (max 0 (max 0 0))+1) (PyData.depthAll (r.map sdD))<=2
   exact Nat.max_le.mpr ⟨by decide,ih.2⟩
theorem Oq {ds:List Sd} (h:∀d∈ds,CP d.kind):SeqAt.shaped (.list (ds.map sdD))=true:=by
 have h1:=ZR h
 show (PyData.canLayAll0 (ds.map sdD)&&decide (PyData.depthAll (ds.map sdD)+1<=64))=true
 rw[h1.1,Bool.true_and]
 exact QbS (by omega)
theorem Wq:∀{zs:List Str},(∀z∈zs,PyData.strOk z=true)->PyData.canLayAll0 (zs.map PyData.str)=true/\PyData.depthAll (zs.map PyData.str)<=1
 | [],_=>⟨rfl,by show 0<=1;decide⟩
 | z::r,h=>by
  have ih:=Wq (zs:=r) λx hx=>h x (QaE _ hx)
  refine⟨?_,?_⟩
  ·show (PyData.strOk z&&PyData.canLayAll0 (r.map PyData.str))=true
   rw[h z QaR,ih.1];rfl
  ·show max 0 (PyData.depthAll (r.map PyData.str))<=1
   exact Nat.max_le.mpr ⟨by decide,ih.2⟩
theorem Nt {zs:List Str} (h:∀z∈zs,PyData.strOk z=true):SeqAt.shaped (.list (zs.map PyData.str))=true:=by
 have h1:=Wq h
 show (PyData.canLayAll0 (zs.map PyData.str)&&decide (PyData.depthAll (zs.map PyData.str)+1<=64))=true
 rw[h1.1,Bool.true_and]
 exact QbS (by omega)
def th0 (loops:List (List Place)):List (Sp3×(Str×Int)):=(up (pdL loops) loops.length).map λd=>(d.spot,(d.kind,d.addr))
theorem aB {H:Hp}:∀{kvs:List (List Key×V)} {ds:List Sd},Paired (Dz H) kvs (ds.map gF)->Paired (Io H) kvs (ds.map λd=>(d.spot,(d.kind,d.addr)))
 | [],[],.nil=>.nil
 | _::_,_::_,.cons h t=>.cons ⟨h.1,h.2⟩ (aB t)
theorem Z7 {H:Hp}:∀{bs:List Addr} {kvs:List (List Key×V)} {ds:List Sd},Paired (λb (kv:List Key×V)=>H b=some (.tup (kv.1.map kV))) bs kvs->Paired (Dz H) kvs (ds.map gF)->Paired (Gq H) (bs.map V.ref) (ds.map Sd.spot)
 | [],[],[],.nil,.nil=>.nil
 | _::_,_::_,_::_,.cons h1 t1,.cons h2 t2=>by
  refine .cons ⟨_,rfl,?_⟩ (Z7 t1 t2)
  rw[h1,h2.1]
  rfl
theorem Dx (loops:List (List Place)) (ok:Fv loops):Rel (fl0 loops) (th0 loops):=by
 refine⟨by unfold th0;rw[Qcl];exact dB ok,λs d=>?_⟩
 unfold fl0 th0
 rw[Qci,Qci]
 constructor
 ·rintro ⟨x,h1,h2⟩
  injection h2 with e1 e2
  exact⟨x,h1,by rw[e1,e2]⟩
 ·rintro ⟨x,h1,h2⟩
  injection h2 with e1 e2
  exact⟨x,h1,by rw[e1,QbH e2]⟩
theorem YK (lp a:Int) {ds:List Dev} (h:∀d∈ds,CP d.kind):∀n,∀d∈Ca lp a n ds,CP d.kind:=by
 induction ds with
 | nil=>intro n d hd;cases hd
 | cons x r ih=>
  intro n d hd
  rcases QbY.mp hd with rfl | hd
  ·exact h x QaR
  ·exact ih (λy hy=>h y (QaE _ hy)) (n+1) d hd
theorem pQ {loops:List (List Place)} (ok:Fv loops):∀d∈up (pdL loops) loops.length,CP d.kind:=λd hd=>by
 obtain⟨k,hk,hd⟩:=J1 hd
 obtain⟨ps,hps,hd⟩:=Ko hd
 obtain⟨i,hi,hd⟩:=J1 hd
 obtain⟨p,hp,hd⟩:=Ko hd
 have okp:=(ok.ok ps (QaD hps)).ok p (QaD hp)
 unfold Bt at hd
 split at hd
 ·cases hd
 ·rename_i hop
  rcases QbY.mp hd with rfl | hd
  ·rcases okp.form with⟨e,_⟩| h
   ·exact absurd (by rw[e]) hop
   ·exact h
  ·exact YK _ _ okp.kinds 1 d hd
theorem vD {loops:List (List Place)} (h:1<=loops.length):1<=(up (stL loops) loops.length).length:=by
 have h0:loops[0]?=some loops[0]:=Qan (by omega)
 have:(⟨((0:Nat):Int),0,0⟩ : Sp3)∈up (stL loops) loops.length:=V0 (i:=0) (by unfold stL;rw[Dr h0];exact QaR ..) (by omega)
 exact List.length_pos_of_mem this
theorem qM {K:PySem.W.Frag} {H H':Hp} (s:Same H H'):∀{bs:List Addr} {kvs:List (List Key×V)} {th:List (Sp3×(Str×Int))},Paired (λb (kv:List Key×V)=>H b=some (.tup (kv.1.map kV))) bs kvs->Paired (Io H) kvs th->(∀x∈th,Bd3 x.1)->Paired (T4 K H') (bs.map V.ref) (th.map λx=>cd3 x.1)
 | [],[],[],.nil,.nil,_=>.nil
 | _::_,_::_,x::_,.cons h1 t1,.cons h2 t2,hb=>by
  refine .cons ⟨_,x.1.lp,x.1.at_,x.1.n,rfl,SqT.of (s _ _ ?_),(hb x QaR).c3⟩ (qM s t1 t2 λy hy=>hb y (QaE _ hy))
  rw[h1,h2.1]
  rfl
theorem pU {th:List (Sp3×(Str×Int))} (nd:(th.map (·.1)).Nodup) (hb:∀x∈th,Bd3 x.1):(th.map λx=>cd3 x.1).Nodup:=by
 induction th with
 | nil=>exact QbV
 | cons a r ih=>
  obtain⟨n1,n2⟩:=QbJ.mp nd
  refine QbJ.mpr ⟨λh=>?_,ih n2 λx hx=>hb x (QaE _ hx)⟩
  obtain⟨x,hx,e⟩:=Qci.mp h
  exact n1 (Qci.mpr ⟨x,hx,(hb x (QaE _ hx)).inj (hb a QaR) e⟩)
theorem tU {β : Type} {l:List (Sp3×β)} (nd:(l.map (·.1)).Nodup) {x y:Sp3×β} (hx:x∈l) (hy:y∈l) (e:x.1=y.1):x=y:=by
 induction l with
 | nil=>cases hx
 | cons a r ih=>
  obtain⟨n1,n2⟩:=QbJ.mp nd
  rcases QbY.mp hx with e1 | h1
  ·rcases QbY.mp hy with e2 | h2
   ·rw[e1,e2]
   ·exact (n1 (by show a.1∈_;rw[<-e1,e];exact Qci.mpr ⟨y,h2,rfl⟩)).elim
  ·rcases QbY.mp hy with e2 | h2
   ·exact (n1 (by show a.1∈_;rw[<-e2,<-e];exact Qci.mpr ⟨x,h1,rfl⟩)).elim
   ·exact ih n2 h1 h2
theorem LS.wI {C:Addr} {H H':Hp} {a:Ad} {n n':Nat} {hs:List (Sp3×Str)} {fl:List (Sp3×Option (Str×Int))} {th:List (Sp3×(Str×Int))} {b:Addr} (L:LS C H a n hs fl th) (s:Same H H') (hb:H b=none) (bag:Br H' b n'):LS C H' { a with b:=b } n' hs fl th:=by
 have L':=L.same s
 obtain⟨xs,x1,_⟩:=L.ev
 obtain⟨ys,y1,_⟩:=L.wn
 exact⟨bag,L'.wi,L'.ho,L'.te,L'.ev,L'.wn,Av x1 hb,Av y1 hb,L'.n12,L'.n1h,L'.n1e,L'.n2h,L'.n2e,L'.nhe,L'.rel,L'.rise,L'.bf,L'.bs,L'.l1,L'.l2,L'.l3,L'.kf,L'.ks⟩
theorem FrS.fresh {a:Ad} {H0 H H':Hp} (s:Same H0 H) (f:FrS a H H') (hb:H0 a.b=none) (h1:H0 a.d1=none) (h2:H0 a.d2=none) (h3:H0 a.h=none) (h4:H0 a.e=none):Same H0 H':=λc o e=>f _ _ (s _ _ e) (Av e hb) (Av e h1) (Av e h2) (Av e h3) (Av e h4)
section
variable {P:Program} {w:World} {K:PySem.W.Frag} {mg:Str->Option Value} {base:Heap} {op oe kd wk C:Addr} {c2:Addr}
theorem wA {f:Addr} {fd:FuncData} (F:Fun K "law" "law" Je f fd) (T:Tw K mg op oe kd wk C) (Q0:Good P w K mg base "_law_bag" 1 Oe (qG K)) (Bl:Good P w K mg base "_law_take" 1 Gi Mq) (pH:Good P w K mg base "_law_plan" 4 MJ fH) (ji:dY P w K mg base C 11 DW (ZQ C)) (jc:Good P w K mg base "_law_lists" 1 KZ ZP) (pJ:Good P w K mg base "_law_deed" 5 M4 (fM C)) (Y5:Good P w K mg base "_law_refused" 5 Iv (fG C)) (iW:T5 P w K mg base C "there" 1 Fz (ZF C)) (UG:Cd P w K mg base C "how" 4 Gj (bD C c2)):GD P w K mg base CX0 13 f fd qJ (V2 K):=by
 have sc:=Gs
 refine F.ok Gs (λvs H Q E h=>?_) (λcdv A outer s H vs Q E hr h=>?_)
 ·obtain⟨a,ns,rfl,_⟩:=h
  rfl
 obtain⟨sa,ns,rfl,hS,h63,q⟩:=h
 refine⟨_,(Ah (Bd (i:=1) Gs.nd rfl (Or.inl rfl) (Ay Q0 hr (Aa (pv 0) (Aa Ae Ab))))
 (Ah (Bd (i:=2) Gs.nd rfl (Or.inl rfl) (Ay pH hr (Aa (pv 1) (Aa Ae (Aa Ae Ab)))))
 (Ah (Bd (i:=3) Gs.nd rfl (Or.inr rfl) (AS ji hr T.mgC (Aa (pv 2) Ab)))
 (Ah (KN (Ay jc hr (Aa (pv 2) Ab)) (Df rfl (Aq (Ak (i:=4) Gs.nd rfl (Or.inl rfl)) (Aq (Ak (i:=5) Gs.nd rfl (Or.inr rfl)) BK))))
 (Ah (Bd (i:=6) Gs.nd rfl (Or.inl rfl) (EY (N5 rfl) rfl T.list UW (Aa (pv 5) Ab)))
 (Ah (Bd (i:=7) Gs.nd rfl (Or.inr rfl) (EY (Zf hr.units rfl) rfl T.dict uF (Aa (Cq (N':=["_law_stretch"]) rfl (Bm.plain rfl (by trivial) (by trivial) (by trivial)) (DQ (pv 4)) (λ_ _ _ _=>(Ak (i:=0) (show List.Nodup (["_law_stretch"]:List Str) by trivial) rfl (Or.inl rfl))) (λ_ _ _ _=>CT) (λ_ _ _ _=>(Bk (Aa (pv 0) (Aa Bh Ab))))) Ab)))
 (Ah (BZ QbE rfl (Cv rfl T.range (Aa (Aw (jC rfl) rfl T.max Yv (Aa Ae (Aa (Aw (Vo rfl) rfl T.min jH (Aa Ae (Aa (Aw Bu rfl T.len Dg (Aa (pv 0) Ab)) Ab))) Ab))) Ab)) (Ak (i:=8) Gs.nd rfl (Or.inl rfl))
 (Ah (Bd (i:=1) Gs.nd rfl (Or.inl rfl) (Ay Q0 hr (Aa (pv 0) (Aa (pv 8) Ab))))
 (Aj (BZ QbE rfl (Cv rfl T.range (Aa Ae Ab)) (Ak (i:=9) Gs.nd rfl (Or.inl rfl))
 (Ah (Bj (Ay pJ hr (@Aa _ _ _ _ _ (pv 1) (@Aa _ _ _ _ _ (pv 3) (@Aa _ _ _ _ _ (pv 7) (@Aa _ _ _ _ _ (pv 5) (@Aa _ _ _ _ _ (pv 6) (@Ab _) N7) N7) N7) N7) N7)))
 (Ah (BW (PW.pt (vU (Bs Hs (Ay Bl hr (Aa (pv 1) (Aa Ae Ab))) Ae (BP _)) (rW (FT (FQ (Ay Y5 hr (Aa (pv 1) (Aa (pv 3) (Aa (pv 7) (Aa (pv 6) Ab)))))))))) (Aj (Bc Fw)) BX)
 (Ah (Bd (i:=10) Gs.nd rfl (Or.inl rfl) (vV (pv 3) T.cl iW hr))
 (Ah (BW (Bs (gH hr.units) (pv 10) (Cq (N':=["_law_spot","_law_there"]) rfl (Bm.of (src:=[none,some 5]) (Ag Je) ["_law_script","_law_bag_here","_law_plan_here","_law_wires","_law_wire_names","_law_there","_law_every","_law_hows","_law_k","_law_again","_law_told"] rfl rfl rfl (by trivial) (by trivial) (by trivial) rfl (by trivial)) (DQ (Aw Ys rfl T.sorted Vq (Aa (EY (N5 rfl) rfl T.list UW (Aa (pv 5) Ab)) Ab))) (λ_ _ _ _=>(Ak (i:=0) (show List.Nodup (["_law_spot","_law_there"]:List Str) by trivial) rfl (Or.inl rfl))) (λ_ _ _ _=>CT) (λ_ _ _ _=>(Bg M5 (Bk (Aa (pv 0) Ab)) (Uk (Dh hr) (pv 1) (pv 0) (λ_ _=>rfl))))) (BP _)) (Aj (Bc Fw)) BX)
 (Ah (Bj (v7 Qaq PySem.F.slot_list_clear PySem.F.type_list_clear mW (pv 10)))
 (Aj (BW (Bs (gH hr.units) (Cq (N':=["_law_stretch","_law_wires"]) rfl (Bm.of (src:=[none,some 3]) (Ag Je) ["_law_script","_law_bag_here","_law_plan_here","_law_wires","_law_wire_names","_law_there","_law_every","_law_hows","_law_k","_law_again","_law_told"] rfl rfl rfl (by trivial) (by trivial) (by trivial) rfl (by trivial)) (DQ (pv 4)) (λ_ _ _ _=>(Ak (i:=0) (show List.Nodup (["_law_stretch","_law_wires"]:List Str) by trivial) rfl (Or.inl rfl))) (λ_ _ _ _=>CT) (λ_ _ _ _=>(Dw (pv 1) T.cl UG hr Ob (Aa (pv 0) Ab)))) (Cq (N':=["_law_stretch","_law_hows"]) rfl (Bm.of (src:=[none,some 7]) (Ag Je) ["_law_script","_law_bag_here","_law_plan_here","_law_wires","_law_wire_names","_law_there","_law_every","_law_hows","_law_k","_law_again","_law_told"] rfl rfl rfl (by trivial) (by trivial) (by trivial) rfl (by trivial)) (DQ (pv 4)) (λ_ _ _ _=>(Ak (i:=0) (show List.Nodup (["_law_stretch","_law_hows"]:List Str) by trivial) rfl (Or.inl rfl))) (λ_ _ _ _=>CT) (λ_ _ _ _=>(Uk (Dh hr) (pv 1) (pv 0) (λ_ _=>rfl)))) (BP _)) (Aj (Bc Fw)) BX)))))))))))
 (Aj (Bc Fw))))))))),?_⟩
 refine⟨_,rfl,sa,ns,0,rfl,hS,h63,by decide,by decide,λb0 o hb0 hb=>?_⟩
 have sb0:=Af hb0 o
 generalize upd H b0 o=H0 at *
 refine⟨_,rfl,b0,0,3,12,rfl,hb,by omega,by omega,by omega,by omega,by omega,λt Ls zs vs zvs loops zones most H1 e1 e2 e3 e4 e5 e6 e7 e8 e9 hb1 sb1=>?_⟩
 have ok:Fv loops:=⟨e4,e6⟩
 have pa:Ij H1 t most loops zones:=⟨⟨Ls,zs,vs,zvs,e1,e2,e3,e7,e8⟩,ok,e5,e9⟩
 have s1:Same H H1:=sb0.Bv sb1 hb0
 clear sb1 e1 e2 e3 e4 e7 e8
 refine⟨_,rfl,λp dx hp hdx ndx=>?_⟩
 have s2:Same H1 (upd (upd H1 dx (.own p)) p (.ins C dx [])):=(Af hdx _).trans (Af (by rw[Al ndx.symm];exact hp) _)
 have hpx:(upd (upd H1 dx (.own p)) p (.ins C dx [])) p=some (.ins C dx []):=Ac
 generalize upd (upd H1 dx (.own p)) p (.ins C dx [])=Hx at *
 refine⟨p,dx,t,most,loops,zones,rfl,hpx,pa.same s2,λd1 d2 d3 H3 f1 f2 n12 W sb=>⟨rfl,?_⟩⟩
 have s3:Same H1 H3:=s2.Bv sb hp
 have fp:H p=none:=s1.free hp
 have fd1:H d1=none:=(s1.trans s2).free f1
 have fd2:H d2=none:=(s1.trans s2).free f2
 have hb3:=hb1.same s3
 have sH3:=s1.trans s3
 clear f1 f2 sb hpx s2 hp hdx ndx
 refine⟨_,rfl,t,most,loops,zones,rfl,pa.same s3,λtt l d xs kvs H4 hl hd htt hll hxs hdd hkv s4=>⟨tt,_,rfl,SqT.of htt,rfl,_,_,rfl,_,_,rfl,rfl,?_⟩⟩
 simp only[QaU,QaT]
 have fl':H l=none:=sH3.free hl
 have fd':H d=none:=sH3.free hd
 have W4:=W.same s4
 have hb4:=hb3.same s4
 have IE:d≠d1:=λz=>by rw[z] at hd;have:=W.st;rw[hd] at this;cases this
 have ID:d≠d2:=λz=>by rw[z] at hd;obtain⟨_,this,_⟩:=W.fi;rw[hd] at this;cases this
 have nlb:l≠b0:=(hb3.nb hl).symm
 have sH4:=sH3.trans s4
 clear hl hd
 refine⟨_,rfl,Ql hdd λlv bs hlv hbs=>?_⟩
 have s5:=Af hlv (.lst (bs.map V.ref))
 have xK:(upd H4 lv (.lst (bs.map V.ref))) lv=_:=Ac
 have evp:Paired (Gq (upd H4 lv (.lst (bs.map V.ref)))) (bs.map V.ref) ((up (pdL loops) loops.length).map Sd.spot):=Paired.Bb (Z7 hbs hkv) λ_ _ z=>z.tups (Am.of s5)
 have nvb:lv≠b0:=(hb4.nb hlv).symm
 have cV:=s5 _ _ hll
 have pF:=s5 _ _ hdd
 have cN:Paired (Gq (upd H4 lv (.lst (bs.map V.ref)))) xs (up (stL loops) loops.length):=Paired.Bb hxs λ_ _ z=>z.tups (Am.of s5)
 have xO:Paired (Dz (upd H4 lv (.lst (bs.map V.ref)))) kvs ((up (pdL loops) loops.length).map gF):=Paired.Bb hkv λ_ _ z=>z.tups (Am.of s5)
 have W5:=W4.same s5
 have hb5:=hb4.same s5
 have sH5:=sH4.trans s5
 clear hlv hbs s5 hll hdd hxs hkv W4 hb4 sH4 s4 htt
 generalize upd H4 lv (.lst (bs.map V.ref))=H5 at *
 have lxs:=QbX cN
 have II:=Wr ok
 refine⟨_,rfl,l,rfl,⟨_,SqL.of cV⟩,λlc hlc=>?_⟩
 refine GJ (xs:=xs) (λi σ HH=>(∃u,σ=[u])/\(∃ys,HH lc=some (.lst ys)/\Paired (YC HH) ys (((up (stL loops) loops.length).take i).map λs=>(k3 s,V.str "whole")))/\Same H5 HH) ⟨⟨_,rfl⟩,⟨[],Ac,.nil⟩,Af hlc _⟩ (λi σ HH _ h=>SqL.of (h.2.2 _ _ cV)) (λi x σ HH hx h=>?_) (fun σ HH h=>?_)
 ·obtain⟨⟨u,rfl⟩,⟨ys,g1,g2⟩,g3⟩:=h
  obtain⟨sp,hsp,u1,rfl,hu1⟩:=Paired.Cm cN hx
  have hi:=(Qah.mp hx).1
  have ly:=QbX g2
  rw[QbB,Qbs] at ly
  unfold Ii
  dsimp only
  refine Ce ⟨_,rfl,Ar (by show 2<=1000;decide),λtr htr=>?_⟩
  have k1:=Af htr (.tup [.ref u1,.str "whole"])
  have g1':=k1 _ _ g1
  have ntl:∀zs,(upd HH tr (.tup [.ref u1,.str "whole"])) lc≠some (.tup zs):=λzs z=>by rw[g1'] at z;cases z
  have sL:=Am.upd (o:=.lst (ys++[.ref tr])) ntl
  refine⟨ys,g1',Ao (by omega),⟨_,rfl⟩,⟨_,Ac,?_⟩,(g3.trans k1).Bv Ai.upd hlc⟩
  rw[Qcy hsp,QbC]
  refine Qcs ⟨tr,u1,rfl,sL _ _ Ac,sL _ _ (k1 _ _ (g3 _ _ hu1))⟩ (Paired.Bb g2 λv r ⟨t1,b1,a1,a2,a3⟩=>⟨t1,b1,a1,sL _ _ (k1 _ _ a2),sL _ _ (k1 _ _ a3)⟩)
 obtain⟨_,⟨ys,g1,g2⟩,g3⟩:=h
 rw[lxs,Qbt] at g2
 have ndr:((((up (stL loops) loops.length)).map λs=>(k3 s,V.str "whole")).map (·.1)).Nodup:=by
  rw[Qcl]
  have:=qC ok
  rw[List.nodup_iff_pairwise_ne] at this ⊢
  rw[List.pairwise_map]
  exact this.imp λ{a b} h e=>h (Gb e)
 refine⟨lc,ys,_,rfl,g1,g2,ndr,by rw[QbB];omega,λdh hdh=>?_⟩
 have s6:=Af hdh (.dT ((up (stL loops) loops.length).map λs=>(k3 s,V.str "whole")))
 have hho:(upd HH dh (.dT ((up (stL loops) loops.length).map λs=>(k3 s,V.str "whole")))) dh=some (.dT (stV (hs0 loops))):=by
  rw[Ac]
  unfold stV hs0
  rw[Qcl]
  rfl
 have s56:=g3.trans s6
 have fdh:H dh=none:=(sH5.trans g3).free hdh
 have LS0:LS C (upd HH dh (.dT ((up (stL loops) loops.length).map λs=>(k3 s,V.str "whole")))) ⟨b0,p,t,d1,d2,d3,dh,d,lv,l⟩ 3000 (hs0 loops) (fl0 loops) (th0 loops):=by
  have c1:=pa.pok.cnt.1
  have c2:=pa.pok.cnt.2
  have la:(up (pdL loops) loops.length).length=(Ck loops).length:=by rw[<-JB loops,QbB]
  have ndh:∀c o,H5 c=some o->dh≠c:=λc o e z=>by
   have:=g3 _ _ e
   rw[<-z,hdh] at this
   cases this
  obtain⟨kv5,v1,v2⟩:=W5.fi
  refine⟨(hb5.same s56).mono (by omega),W5.same s56,hho,⟨kvs,s56 _ _ pF,Paired.Bb (aB xO) λ_ _ z=>z.tups (Am.of s56)⟩,⟨_,s56 _ _ xK,?_⟩,⟨_,s56 _ _ cV,?_⟩,nvb,nlb,n12,ndh _ _ W5.st,IE,ndh _ _ v1,ID,ndh _ _ pF,Dx loops ok,?_,?_,?_,?_,?_,?_,?_,?_⟩
  ·rw[Q5]
   exact Paired.Bb evp λ_ _ z=>z.tups (Am.of s56)
  ·rw[Ux]
   exact Paired.Bb cN λ_ _ z=>z.tups (Am.of s56)
  ·rw[Q5,Qcl]
   exact Ym ok
  ·rw[Q5]
   intro s hs
   obtain⟨x,hx,rfl⟩:=Qci.mp hs
   exact yE ok x hx
  ·rw[Ux]
   exact AK ok
  ·unfold hs0
   rw[QbB]
   exact vD e5
  ·unfold fl0
   rw[QbB]
   omega
  ·unfold fl0
   rw[QbB]
   omega
  ·intro s dd h
   unfold fl0 at h
   obtain⟨x,hx,e⟩:=Qci.mp h
   injection e with e1 e2
   have:=pQ ok x hx
   rw[<-QbH e2]
   exact this
  ·intro x hx
   unfold hs0 at hx
   obtain⟨y,_,rfl⟩:=Qci.mp hx
   show PyData.strOk "whole"=true
   decide +kernel
 have sH6:Same H (upd HH dh (.dT ((up (stL loops) loops.length).map λs=>(k3 s,V.str "whole")))):=sH5.trans s56
 clear s6 hho s56 g1 g2 g3 W5 hb5 xK cV pF cN xO evp
 generalize upd HH dh (.dT ((up (stL loops) loops.length).map λs=>(k3 s,V.str "whole")))=H6 at *
 have hl':(ns.map V.int).length=ns.length:=QbB _
 refine⟨_,rfl,sa,_,rfl,.inl (sH6.seq hS),_,_,rfl,_,_,rfl,_,rfl,?_,?_,?_⟩
 ·rw[hl'];split <;> split <;> omega
 ·rw[hl'];split <;> split <;> omega
 refine Du (λi σ HH=>∃u1 u8 u9 u10 b hs fl th,σ=[some (.ref sa),u1,some (.ref t),some (.ref p),some (.ref l),some (.ref d),some (.ref lv),some (.ref dh),u8,u9,u10]/\LS C HH ⟨b,p,t,d1,d2,d3,dh,d,lv,l⟩ 3000 hs fl th/\Same H HH) ⟨_,_,_,_,b0,_,_,_,rfl,LS0,sH6⟩ (λi σ HH hi h=>?_) (fun σ HH h=>?_)
 ·obtain⟨u1,u8,u9,u10,bp,hs,fl,th,rfl,L,sm⟩:=h
  rw[hl'] at hi
  have hi':(i:Int)<=100:=by
   revert hi
   split <;> split <;> omega
  refine⟨_,rfl,_,rfl,sa,ns,_,rfl,sm.seq hS,h63,by omega,by omega,λb o hbn xU=>?_⟩
  have s7:=Af hbn o
  have L7:=L.wI s7 hbn xU
  have fb:H b=none:=sm.free hbn
  have sm7:=sm.trans s7
  generalize upd HH b o=H7 at *
  clear L s7 hbn xU sm
  refine⟨_,rfl,by decide,by decide,?_⟩
  rw[show (3:Int).toNat=3 from rfl]
  refine Du (λj σ HX=>∃u9 u10 hs fl th,σ=[some (.ref sa),some (.ref b),some (.ref t),some (.ref p),some (.ref l),some (.ref d),some (.ref lv),some (.ref dh),some (.int (0+(i:Int))),u9,u10]/\LS C HX ⟨b,p,t,d1,d2,d3,dh,d,lv,l⟩ (10*j) hs fl th/\Same H HX) ⟨_,_,_,_,_,rfl,L7,sm7⟩ (λj σ HX hj h=>?_) (fun σ HX h=>?_)
  ·obtain⟨u9,u10,hs,fl,th,rfl,L,sm⟩:=h
   clear L7 sm7
   refine⟨_,rfl,_,rfl,_,rfl,_,rfl,_,rfl,⟨b,p,t,d1,d2,d3,dh,d,lv,l⟩,10*j,hs,fl,th,rfl,L,by omega,λhs' fl' th' H8 L8 F8=>?_⟩
   have sm8:Same H H8:=F8.fresh sm fb fd1 fd2 fdh fd'
   clear L F8
   dsimp only
   refine Va (I:=vf _ _ _) (fun σ' H'=>σ'=[some (.ref sa),some (.ref b),some (.ref t),some (.ref p),some (.ref l),some (.ref d),some (.ref lv),some (.ref dh),some (.int (0+(i:Int))),some (.int (0+(j:Int))),u10]/\LS C H' ⟨b,p,t,d1,d2,d3,dh,d,lv,l⟩ (10*j+8) hs' fl' th'/\Same H H') (fun σ' H9 h=>?_) (λD' hD=>?_)
   ·obtain⟨rfl,L9,sm9⟩:=h
    clear L8 sm8
    obtain⟨dx9,hp9⟩:=L9.wi.ins
    refine⟨_,rfl,p,dx9,_,rfl,hp9,fno (by trivial),p,t,d1,d2,d3,hs',fl',rfl,L9.wi,λlt xt H10 flt hlt hpt s10=>?_⟩
    have L10:=L9.same s10
    obtain⟨kv,ke,kp⟩:=L10.te
    have lkp:=QbX kp
    have l30:=L10.l3
    have hbd:∀x∈th',Bd3 x.1:=λx hx=>L10.bf _ (Qci.mpr ⟨_,(L10.rel.iff x.1 x.2).mp hx,rfl⟩)
    have lth:th'.length<=30:=by
     have h1:=Oz L10.rel.nd (m:=fl'.map (·.1)) λs hs=>by
      obtain⟨x,hx,rfl⟩:=Qci.mp hs
      exact Qci.mpr ⟨_,(L10.rel.iff x.1 x.2).mp hx,rfl⟩
     rw[QbB,QbB] at h1
     omega
    refine⟨_,rfl,_,rfl,Ql ke λlk bs hlk hbs=>?_⟩
    have lbs:=QbX hbs
    have s11:=Af hlk (.lst (bs.map V.ref))
    refine kj (ks:=th'.map λx=>cd3 x.1) (SqL.of Ac) (by rw[QbB];omega) (qM s11 hbs kp hbd) (pU L10.rel.nd hbd) λis ls hperm O2 hls=>?_
    have s12:=Af hls (.lst (is.map λi=>(bs.map V.ref).getD i .non))
    have cR:(upd (upd H10 lk (.lst (bs.map V.ref))) ls (.lst (is.map λi=>(bs.map V.ref).getD i .non))) ls=_:=Ac
    have V3:=s11.trans s12
    generalize upd (upd H10 lk (.lst (bs.map V.ref))) ls (.lst (is.map λi=>(bs.map V.ref).getD i .non))=H12 at *
    have L12:=L10.same V3
    rw[QbB,lbs,lkp] at hperm
    have lis:is.length=th'.length:=by have:=hperm.length_eq;simpa using this
    have ilt:∀k∈is,k < th'.length:=λk h=>QbU.mp (hperm.mem_iff.mp h)
    have ndk:(kv.map λy=>(id y).1).Nodup:=by
     have h1:=Sx kp
     have h2:(th'.map λx=>k3 x.1).Nodup:=by
      have:=L10.rel.nd
      rw[List.nodup_iff_pairwise_ne,List.pairwise_map] at this
      rw[List.nodup_iff_pairwise_ne,List.pairwise_map]
      exact this.imp λ{a b} h e=>h (Gb e)
     rw[<-h1] at h2
     exact h2
    refine⟨ls,rfl,⟨_,SqL.of cR⟩,λlc hlc=>?_⟩
    refine GJ (xs:=is.map λi=>(bs.map V.ref).getD i .non) (λm σ HY=>(∃u,σ=[u,some (.ref d)])/\(∃ys,HY lc=some (.lst ys)/\Paired (Ia HY) ys ((is.take m).map λk=>Uc (th'.getD k (⟨0,0,0⟩,("",0)))))/\Same H12 HY) ⟨⟨_,rfl⟩,⟨[],Ac,.nil⟩,Af hlc _⟩ (λm σ HY _ h=>SqL.of (h.2.2 _ _ cR)) (λm x σ HY hx h=>?_) (fun σ HY h=>?_)
    ·obtain⟨⟨u,rfl⟩,⟨ys,g1,g2⟩,g3⟩:=h
     rw[Qbi] at hx
     obtain⟨k,hk,rfl⟩:=Qaw.mp hx
     have hkl:=ilt k (QaD hk)
     have hbk:bs[k]?=some bs[k]:=Qan (by omega)
     obtain⟨kk,hkk,hbt⟩:=Paired.Cm hbs hbk
     obtain⟨y,hy,ey1,tv,ey2,htv⟩:=Paired.Cm kp hkk
     have ed:th'.getD k (⟨0,0,0⟩,("",0))=y:=by rw[Qag,hy];rfl
     have ex:(bs.map V.ref).getD k .non=.ref bs[k]:=by rw[Qag,Qbi,hbk];rfl
     rw[ex]
     rw[ey1] at hbt
     have Ug:=V3.trans g3
     have ly:=QbX g2
     rw[QbB,Qbs] at ly
     have hval:Eu kv (k3 y.1)=some (.ref tv):=by
      have:=Qy (f:=id) (l:=kv) (i:=k) (x:=kk) ndk hkk
      rw[List.map_id] at this
      rw[<-ey1,<-ey2]
      exact this
     unfold Ii
     dsimp only
     refine Ce ⟨_,rfl,Ar (by show 1<=1000;decide),λt1 ht1=>?_⟩
     have k1:=Af ht1 (.tup [.ref bs[k]])
     have bK:=Ug.trans k1
     have gg:=GR.t (k:=k3 y.1) (bK _ _ ke) (bK _ _ hbt)
     rw[hval] at gg
     refine⟨_,rfl,_,rfl,d,_,rfl,gg,t1,tv,_,_,rfl,rfl,Ac,bK _ _ htv,Ar (by show 3<=1000;decide),λtp HZ htp sz=>?_⟩
     have kz:=k1.trans sz
     have g1':=kz _ _ g1
     have ntl:∀zs,HZ lc≠some (.tup zs):=λzs z=>by rw[g1'] at z;cases z
     have sL:=Am.upd (o:=.lst (ys++[.ref tp])) ntl
     refine⟨ys,g1',Ao (by omega),⟨_,rfl⟩,⟨_,Ac,?_⟩,(g3.trans kz).Bv Ai.upd hlc⟩
     rw[Qcy hk,QbC]
     refine Qcs ?_ (Paired.Bb g2 λ_ _ z=>(z.tups (Am.of kz)).tups sL)
     show Ia _ _ (Uc (th'.getD k (⟨0,0,0⟩,("",0))))
     rw[ed]
     exact⟨tp,bs[k],rfl,sL _ _ htp,sL _ _ (sz _ _ (bK _ _ hbt))⟩
    obtain⟨_,⟨ys,g1,g2⟩,g3⟩:=h
    rw[QbB,Qbt,rC L10.rel L10.rise hperm _ O2] at g2
    have hkf:∀x∈FN fl',CP x.kind:=λx hx=>by
     obtain⟨s,dd,h1,rfl⟩:=Wk.mp hx
     exact L10.kf s dd h1
    have Ug:=V3.trans g3
    have cQ:=Ug _ _ hlt
    have xu:Paired (Ia HY) xt (FN fl'):=Paired.Bb hpt λ_ _ z=>z.tups (Am.of Ug)
    refine⟨_,_,.lst cQ (Ry xu),.lst g1 (Ry g2),Oq hkf,Oq hkf,_,rfl,?_⟩
    rw[SeqAt.eqv_refl _ (SeqAt.canLay_of_shaped (Oq hkf))]
    refine Cy ⟨_,rfl,.inl ⟨rfl,_,SqL.of cQ⟩,lt,_,rfl,rfl,cQ,?_⟩
    have s14:Same H9 (upd HY lt (.lst [])):=(s10.trans Ug).Bv Ai.upd flt
    generalize upd HY lt (.lst [])=H14 at *
    have L14:=L9.same s14
    clear L10 L12 g1 g2 g3 xu cQ Ug V3 s11 s12 cR O2 hperm hbs kp ke hlt hpt s10
    obtain⟨xw,w1,w2⟩:=L14.wn
    have lw:=QbX w2
    rw[QbB] at lw
    have II:=L14.wi.l1
    have qQ:∀(m:Nat) (x:V) (HX:Hp),xw[m]?=some x->Same H14 HX->∃(u:Addr) (y:Sp3×Str),x=.ref u/\hs'[m]?=some y/\HX u=some (.tup [.int y.1.lp,.int y.1.at_,.int y.1.n]):=λm x HX hx sx=>by
     obtain⟨sp,hsp,u,rfl,hu⟩:=Paired.Cm w2 hx
     rw[Qbi] at hsp
     obtain⟨y,hy,rfl⟩:=Qaw.mp hsp
     exact⟨u,y,rfl,hy,sx _ _ hu⟩
    refine⟨_,rfl,l,rfl,⟨_,SqL.of w1⟩,λl5 hl5=>?_⟩
    refine GJ (xs:=xw) (λm σ HY=>(∃u,σ=[u,some (.ref p)])/\HY l5=some (.lst (((hs'.take m).map (·.2)).map V.str))/\Same H14 HY) ⟨⟨_,rfl⟩,Ac,Af hl5 _⟩ (λm σ HY _ h=>SqL.of (h.2.2 _ _ w1)) (λm x σ HY hx h=>?_) (fun σ HY h=>?_)
    ·obtain⟨⟨u,rfl⟩,g1,g3⟩:=h
     obtain⟨u1,y,rfl,hy,hu⟩:=qQ m x HY hx g3
     have hm:=(Qah.mp hx).1
     have LY:=L14.same g3
     obtain⟨dxy,hpy⟩:=LY.wi.ins
     have hmem:=QaD hy
     unfold Ii
     dsimp only
     refine Ce ⟨_,rfl,p,dxy,_,rfl,hpy,fno (by trivial),_,rfl,p,t,d1,d2,d3,hs',fl',.ref u1,rfl,LY.wi,QJ ⟨u1,rfl,hu⟩,(λb' y' e1 e2 e3 H' s'=>?_),λno=>(no ⟨u1,y.1,rfl,hu,Qci.mpr ⟨y,hmem,rfl⟩⟩).elim⟩
     cases e1
     rw[hu] at e2
     have ey:y'=y:=tU LY.wi.nd1 e3 hmem (by
      have e2:=HO.tup.inj (QbH e2)
      injection e2 with a1 a2
      injection a2 with a2 a3
      injection a3 with a3 _
      injection a1 with a1
      injection a2 with a2
      injection a3 with a3
      cases h1:y.1
      cases h2:y'.1
      rw[h1,h2] at a1 a2 a3
      dsimp only at a1 a2 a3
      rw[a1,a2,a3])
     subst ey
     refine⟨_,s' _ _ g1,Ao (by rw[QbB,QbB,Qbs];omega),⟨_,rfl⟩,?_,(g3.trans s').Bv Ai.upd hl5⟩
     rw[Ac,Qcy hy,QbC,QbC]
     rfl
    obtain⟨_,g1,g3⟩:=h
    rw[lw,Qbt] at g1
    have LY:=L14.same g3
    have w1Y:=g3 _ _ w1
    refine⟨_,rfl,l,rfl,⟨_,SqL.of w1Y⟩,λl6 hl6=>?_⟩
    have n56:l5≠l6:=Av g1 hl6
    refine GJ (xs:=xw) (λm σ HZ=>(∃u,σ=[u,some (.ref dh)])/\HZ l6=some (.lst (((hs'.take m).map (·.2)).map V.str))/\Same HY HZ) ⟨⟨_,rfl⟩,Ac,Af hl6 _⟩ (λm σ HZ _ h=>SqL.of (h.2.2 _ _ w1Y)) (λm x σ HZ hx h=>?_) (fun σ HZ h=>?_)
    ·obtain⟨⟨u,rfl⟩,g1z,g3z⟩:=h
     obtain⟨u1,y,rfl,hy,hu⟩:=qQ m x HZ hx (g3.trans g3z)
     have hm:=(Qah.mp hx).1
     have LZ:=LY.same g3z
     have hval:Eu (stV hs') (k3 y.1)=some (.str y.2):=Qy (f:=λx:Sp3×Str=>(k3 x.1,V.str x.2)) (by
      have:=LZ.wi.nd1
      rw[List.nodup_iff_pairwise_ne,List.pairwise_map] at this
      rw[List.nodup_iff_pairwise_ne,List.pairwise_map]
      exact this.imp λ{a b} h e=>h (Gb e)) hy
     have gg:=GR.t (k:=k3 y.1) LZ.ho hu
     rw[hval] at gg
     unfold Ii
     dsimp only
     refine Ce ⟨_,rfl,_,rfl,dh,_,rfl,gg,_,g1z,Ao (by rw[QbB,QbB,Qbs];omega),⟨_,rfl⟩,?_,g3z.Bv Ai.upd hl6⟩
     rw[Ac,Qcy hy,QbC,QbC]
     rfl
    obtain⟨_,g1z,g3z⟩:=h
    rw[lw,Qbt] at g1z
    have hks:∀z∈hs'.map (·.2),PyData.strOk z=true:=λz hz=>by
     obtain⟨x,hx,rfl⟩:=Qci.mp hz
     exact LY.ks x hx
    refine⟨_,_,.lst (g3z _ _ g1) (KH _),.lst g1z (KH _),Nt hks,Nt hks,_,rfl,?_⟩
    rw[SeqAt.eqv_refl _ (SeqAt.canLay_of_shaped (Nt hks))]
    exact Cy ⟨_,_,hs',fl',th',rfl,(LY.same g3z).mono (by omega),(sm9.trans s14).trans (g3.trans g3z)⟩
   ·refine⟨_,rfl,b,_,4,rfl,L8.bag,by omega,by decide,by decide,λr H9 r0 r1 hb9 sb9=>?_⟩
    have L9:=L8.drawn sb9 hb9
    have sm9:Same H H9:=sm8.Bv sb9 fb
    refine⟨rfl,_,rfl,Gn (λ_=>?_) (λ_=>Cy (hD _ _ ⟨rfl,L9.mono (by omega),sm9⟩))⟩
    refine⟨_,rfl,_,rfl,_,rfl,_,rfl,b,_,p,t,d1,d2,d3,hs',fl',_,_,rfl,L9.bag,by omega,L9.wi,L9.n12,L9.bs,L9.bf,λH10 LI vL=>?_⟩
    refine⟨_,rfl,Cy (hD _ _ ⟨rfl,(L9.drawn vL LI).mono (by omega),sm9.Bv vL fb⟩)⟩
  ·obtain⟨u9,u10,hs,fl,th,rfl,L,sm⟩:=h
   exact⟨_,_,_,_,b,hs,fl,th,rfl,L.mono (by omega),sm⟩
 ·exact q HH
end
theorem qL {K:PySem.W.Frag} {C c0 c1 c2 c3 c4 c5 c6 c7 c8 c9 c10 c11 c12:Addr} {j:Nat} (q0:kitOne K (.ref C) (.ref c0)=some (decide (0=j))) (q1:kitOne K (.ref C) (.ref c1)=some (decide (1=j))) (q2:kitOne K (.ref C) (.ref c2)=some (decide (2=j))) (q3:kitOne K (.ref C) (.ref c3)=some (decide (3=j))) (q4:kitOne K (.ref C) (.ref c4)=some (decide (4=j))) (q5:kitOne K (.ref C) (.ref c5)=some (decide (5=j))) (q6:kitOne K (.ref C) (.ref c6)=some (decide (6=j))) (q7:kitOne K (.ref C) (.ref c7)=some (decide (7=j))) (q8:kitOne K (.ref C) (.ref c8)=some (decide (8=j))) (q9:kitOne K (.ref C) (.ref c9)=some (decide (9=j))) (q10:kitOne K (.ref C) (.ref c10)=some (decide (10=j))) (q11:kitOne K (.ref C) (.ref c11)=some (decide (11=j))) (q12:kitOne K (.ref C) (.ref c12)=some (decide (12=j))) :
  ∀i d,([c0,c1,c2,c3,c4,c5,c6,c7,c8,c9,c10,c11,c12]:List Addr)[i]?=some d->kitOne K (.ref C) (.ref d)=some (decide (i=j)):=λi d h=>by
 match i,h with
 | 0,h=>cases h;exact q0
 | 1,h=>cases h;exact q1
 | 2,h=>cases h;exact q2
 | 3,h=>cases h;exact q3
 | 4,h=>cases h;exact q4
 | 5,h=>cases h;exact q5
 | 6,h=>cases h;exact q6
 | 7,h=>cases h;exact q7
 | 8,h=>cases h;exact q8
 | 9,h=>cases h;exact q9
 | 10,h=>cases h;exact q10
 | 11,h=>cases h;exact q11
 | 12,h=>cases h;exact q12
 | n+13,h=>cases h
theorem all_mk {l:PySem.W.OpenLaw} {w:World} {K:PySem.W.Frag} {h:Heap} {mg:Str->Option Value} {fa C f1 f2 f3 f4 f5 f6 f7 f8 f9 f10 f11 f12 f13 f14 f15 f16 f17 f18 f19 f20 f21 f22 f23 f24 f25 f26 f27 f28 f29 f30 f31 f32 f33 f34 f35 f36 f37 f38 f39 fm1 fm2 fm3 fm4 fm5 fm6 fm7 fm8 fm9 Yb:Addr} (X:K.In h) (G:h.Ns mainGlobals mg) (hfa:mg "law"=some (.ref fa))
  {od1 an1 od2 an2 od3 an3 od4 an4 od5 an5 od6 an6 od7 an7 od8 an8 od9 an9 FY Rl FX Re FV Rc FU Q4 FS Q3 FR Q2 FO Q1 FM QY FL QU FK QR FI QQ FH QP FG QO FF QN FE QI FD QE FC QA FB Qr FA Qb Fu P9 Fs P8 Fn P7 Fm P6 Fk P5 Fh P4 Ff P3 Fc P2 Fa P1 E9 PZ E8 zW E7 PY E6 PV E5 PU E4 PR E3 PQ E2 PP EZ PM EW PH EV PD AX BD:Option Addr} {sl1 sl2 sl3 sl4 sl5 sl6 sl7 sl8 sl9 Do De Db Da C9 C8 C7 C6 C5 C4 C2 C1 C0 CY CU CS CO CM CL CI CH CF CD CC CB CA Ct Cs Co Cn Cl Ch Cf Cc Cb B9 B8 B7 B6 AL:Array (Option Value)} {oc1 kV1 dc1 pm1 cd1 ct1 oc2 kV2 dc2 pm2 cd2 ct2 oc3 kV3 dc3 pm3 cd3 ct3 oc4 kV4 dc4 pm4 cd4 ct4 oc5 kV5 dc5 pm5 cd5 ct5 oc6 kV6 dc6 pm6 cd6 ct6 oc7 kV7 dc7 pm7 cd7 ct7 oc8 kV8 dc8 pm8 cd8 ct8 oc9 kV9 dc9 pm9 cd9 ct9 Id KO N9 ER zR Pp Ic KM N4 EQ zQ Po HR KL N3 EO zP Pl HQ KK N1 EN zO Pi HP KI N0 EM zN Pf HK KG NY EL zM Pe HI KF NX EK zL Pd HG KE NW EJ zK Pc Hn KB NV EI zJ O3 Hm KA NU EH zH O0 Hk Kx NS EG zG OZ He Kt NR EF zF OY Hd Kk NO EE zE OX Hc Kj NN ED zB OW Hb Ki NM EC zA OV Ha Kb NL EB zy OU G2 JY NJ EA zx OT G1 JU NI Ex zu OS G0 JP NH Ev zq OR GY JO NG Eg zm OQ GW JJ NF Ee zj OP GV JI NE D9 zf OO GU JE ND D8 zc ON GT JA NC D7 za OM GS Jn NB D6 yZ OL GO IZ NA D5 yX OK GN IY Nw D4 yW OI GM IX No D3 yV OH GL IU Nn D2 yU OG GI wX yF vW pX yI GH IT Nl D0 yS OF GG IS Nd DZ yR OE GE IR Nc DV yQ OC GB IQ Na DU yP OB GA IP M3 DT yO OA Gr IO M0 DS yN Oy Go IN MZ DO yM Os Gc IM MY DM yL Op F6 IL MX DJ yK On AY A3 By AR qY BA:Value}
  (aC:nsIn K mainGlobals "Wires"=some (some (.ref C)))
  (am1:findIn K (.ref C) "__init__"=some (some (.ref fm1))) (im1:isFn K (.ref fm1)=true) (lm1:K.lookup fm1=some ⟨GH,E7,.func (fnOf "__init__" "Wires.__init__" (Az Dk) (Ax Dk) (Ag Dk) .none IT Nl D0 PY yS OF),Cl⟩) (cm1:codeIn K yS "Wires.__init__"=true) (km1:keepIn K (.ref fm1)=true)
  (am2:findIn K (.ref C) "check_stretch"=some (some (.ref fm2))) (im2:isFn K (.ref fm2)=true) (lm2:K.lookup fm2=some ⟨GG,E6,.func (fnOf "check_stretch" "Wires.check_stretch" (Az Ci) (Ax Ci) (Ag Ci) .none IS Nd DZ PV yR OE),Ch⟩) (cm2:codeIn K yR "Wires.check_stretch"=true) (km2:keepIn K (.ref fm2)=true)
  (am3:findIn K (.ref C) "check_spot"=some (some (.ref fm3))) (im3:isFn K (.ref fm3)=true) (lm3:K.lookup fm3=some ⟨GE,E5,.func (fnOf "check_spot" "Wires.check_spot" (Az CK) (Ax CK) (Ag CK) .none IR Nc DV PU yQ OC),Cf⟩) (cm3:codeIn K yQ "Wires.check_spot"=true) (km3:keepIn K (.ref fm3)=true)
  (am4:findIn K (.ref C) "cut"=some (some (.ref fm4))) (im4:isFn K (.ref fm4)=true) (lm4:K.lookup fm4=some ⟨GB,E4,.func (fnOf "cut" "Wires.cut" (Az Gh) (Ax Gh) (Ag Gh) .none IQ Na DU PR yP OB),Cc⟩) (cm4:codeIn K yP "Wires.cut"=true) (km4:keepIn K (.ref fm4)=true)
  (am5:findIn K (.ref C) "short"=some (some (.ref fm5))) (im5:isFn K (.ref fm5)=true) (lm5:K.lookup fm5=some ⟨GA,E3,.func (fnOf "short" "Wires.short" (Az El) (Ax El) (Ag El) .none IP M3 DT PQ yO OA),Cb⟩) (cm5:codeIn K yO "Wires.short"=true) (km5:keepIn K (.ref fm5)=true)
  (am6:findIn K (.ref C) "mend"=some (some (.ref fm6))) (im6:isFn K (.ref fm6)=true) (lm6:K.lookup fm6=some ⟨Gr,E2,.func (fnOf "mend" "Wires.mend" (Az Fi) (Ax Fi) (Ag Fi) .none IO M0 DS PP yN Oy),B9⟩) (cm6:codeIn K yN "Wires.mend"=true) (km6:keepIn K (.ref fm6)=true)
  (am7:findIn K (.ref C) "how"=some (some (.ref fm7))) (im7:isFn K (.ref fm7)=true) (lm7:K.lookup fm7=some ⟨Go,EZ,.func (fnOf "how" "Wires.how" (Az Gg) (Ax Gg) (Ag Gg) .none IN MZ DO PM yM Os),B8⟩) (cm7:codeIn K yM "Wires.how"=true) (km7:keepIn K (.ref fm7)=true)
  (am8:findIn K (.ref C) "take_out"=some (some (.ref fm8))) (im8:isFn K (.ref fm8)=true) (lm8:K.lookup fm8=some ⟨Gc,EW,.func (fnOf "take_out" "Wires.take_out" (Az Dj) (Ax Dj) (Ag Dj) .none IM MY DM PH yL Op),B7⟩) (cm8:codeIn K yL "Wires.take_out"=true) (km8:keepIn K (.ref fm8)=true)
  (am9:findIn K (.ref C) "put_in"=some (some (.ref fm9))) (im9:isFn K (.ref fm9)=true) (lm9:K.lookup fm9=some ⟨F6,EV,.func (fnOf "put_in" "Wires.put_in" (Az DP) (Ax DP) (Ag DP) .none IL MX DJ PD yK On),B6⟩) (cm9:codeIn K yK "Wires.put_in"=true) (km9:keepIn K (.ref fm9)=true)
  (p7:findIn K (.ref C) "there"=some (some (.ref Yb))) (pq:isFn K (.ref Yb)=true) (mY:K.lookup Yb=some ⟨AY,AX,.func (fnOf "there" "Wires.there" (Az Ek) (Ax Ek) (Ag Ek) .none A3 By AR BD qY BA),AL⟩) (pW:codeIn K qY "Wires.there"=true) (cF:keepIn K (.ref Yb)=true)
  (a1:nsIn K mainGlobals "is_whole"=some (some (.ref f1))) (l1:K.lookup f1=some ⟨oc1,od1,.func (fnOf "is_whole" "is_whole" (Az GP) (Ax GP) (Ag GP) .none kV1 dc1 pm1 an1 cd1 ct1),sl1⟩) (c1:codeIn K cd1 "is_whole"=true) (k1:keepIn K (.ref f1)=true)
  (a2:nsIn K mainGlobals "is_within"=some (some (.ref f2))) (l2:K.lookup f2=some ⟨oc2,od2,.func (fnOf "is_within" "is_within" (Az G5) (Ax G5) (Ag G5) .none kV2 dc2 pm2 an2 cd2 ct2),sl2⟩) (c2:codeIn K cd2 "is_within"=true) (k2:keepIn K (.ref f2)=true)
  (a3:nsIn K mainGlobals "is_row"=some (some (.ref f3))) (l3:K.lookup f3=some ⟨oc3,od3,.func (fnOf "is_row" "is_row" (Az Ke) (Ax Ke) (Ag Ke) .none kV3 dc3 pm3 an3 cd3 ct3),sl3⟩) (c3:codeIn K cd3 "is_row"=true) (k3:keepIn K (.ref f3)=true)
  (a4:nsIn K mainGlobals "are_wholes"=some (some (.ref f4))) (l4:K.lookup f4=some ⟨oc4,od4,.func (fnOf "are_wholes" "are_wholes" (Az Gu) (Ax Gu) (Ag Gu) .none kV4 dc4 pm4 an4 cd4 ct4),sl4⟩) (c4:codeIn K cd4 "are_wholes"=true) (k4:keepIn K (.ref f4)=true)
  (a5:nsIn K mainGlobals "is_rising"=some (some (.ref f5))) (l5:K.lookup f5=some ⟨oc5,od5,.func (fnOf "is_rising" "is_rising" (Az G6) (Ax G6) (Ag G6) .none kV5 dc5 pm5 an5 cd5 ct5),sl5⟩) (c5:codeIn K cd5 "is_rising"=true) (k5:keepIn K (.ref f5)=true)
  (a6:nsIn K mainGlobals "are_rising_within"=some (some (.ref f6))) (l6:K.lookup f6=some ⟨oc6,od6,.func (fnOf "are_rising_within" "are_rising_within" (Az Cw) (Ax Cw) (Ag Cw) .none kV6 dc6 pm6 an6 cd6 ct6),sl6⟩) (c6:codeIn K cd6 "are_rising_within"=true) (k6:keepIn K (.ref f6)=true)
  (a7:nsIn K mainGlobals "is_name"=some (some (.ref f7))) (l7:K.lookup f7=some ⟨oc7,od7,.func (fnOf "is_name" "is_name" (Az Js) (Ax Js) (Ag Js) .none kV7 dc7 pm7 an7 cd7 ct7),sl7⟩) (c7:codeIn K cd7 "is_name"=true) (k7:keepIn K (.ref f7)=true)
  (a8:nsIn K mainGlobals "is_device"=some (some (.ref f8))) (l8:K.lookup f8=some ⟨oc8,od8,.func (fnOf "is_device" "is_device" (Az G8) (Ax G8) (Ag G8) .none kV8 dc8 pm8 an8 cd8 ct8),sl8⟩) (c8:codeIn K cd8 "is_device"=true) (k8:keepIn K (.ref f8)=true)
  (a9:nsIn K mainGlobals "is_spur_device"=some (some (.ref f9))) (l9:K.lookup f9=some ⟨oc9,od9,.func (fnOf "is_spur_device" "is_spur_device" (Az DK) (Ax DK) (Ag DK) .none kV9 dc9 pm9 an9 cd9 ct9),sl9⟩) (c9:codeIn K cd9 "is_spur_device"=true) (k9:keepIn K (.ref f9)=true)
  (a10:nsIn K mainGlobals "is_spur"=some (some (.ref f10))) (l10:K.lookup f10=some ⟨Id,FY,.func (fnOf "is_spur" "is_spur" (Az Jq) (Ax Jq) (Ag Jq) .none KO N9 ER Rl zR Pp),Do⟩) (c10:codeIn K zR "is_spur"=true) (k10:keepIn K (.ref f10)=true)
  (a11:nsIn K mainGlobals "is_place"=some (some (.ref f11))) (l11:K.lookup f11=some ⟨Ic,FX,.func (fnOf "is_place" "is_place" (Az Ie) (Ax Ie) (Ag Ie) .none KM N4 EQ Re zQ Po),De⟩) (c11:codeIn K zQ "is_place"=true) (k11:keepIn K (.ref f11)=true)
  (a12:nsIn K mainGlobals "is_loop"=some (some (.ref f12))) (l12:K.lookup f12=some ⟨HR,FV,.func (fnOf "is_loop" "is_loop" (Az Jt) (Ax Jt) (Ag Jt) .none KL N3 EO Rc zP Pl),Db⟩) (c12:codeIn K zP "is_loop"=true) (k12:keepIn K (.ref f12)=true)
  (a13:nsIn K mainGlobals "is_zone"=some (some (.ref f13))) (l13:K.lookup f13=some ⟨HQ,FU,.func (fnOf "is_zone" "is_zone" (Az Jp) (Ax Jp) (Ag Jp) .none KK N1 EN Q4 zO Pi),Da⟩) (c13:codeIn K zO "is_zone"=true) (k13:keepIn K (.ref f13)=true)
  (a14:nsIn K mainGlobals "are_loops"=some (some (.ref f14))) (l14:K.lookup f14=some ⟨HP,FS,.func (fnOf "are_loops" "are_loops" (Az Hf) (Ax Hf) (Ag Hf) .none KI N0 EM Q3 zN Pf),C9⟩) (c14:codeIn K zN "are_loops"=true) (k14:keepIn K (.ref f14)=true)
  (a15:nsIn K mainGlobals "are_zones"=some (some (.ref f15))) (l15:K.lookup f15=some ⟨HK,FR,.func (fnOf "are_zones" "are_zones" (Az G9) (Ax G9) (Ag G9) .none KG NY EL Q2 zM Pe),C8⟩) (c15:codeIn K zM "are_zones"=true) (k15:keepIn K (.ref f15)=true)
  (a16:nsIn K mainGlobals "is_plan"=some (some (.ref f16))) (l16:K.lookup f16=some ⟨HI,FO,.func (fnOf "is_plan" "is_plan" (Az Jr) (Ax Jr) (Ag Jr) .none KF NX EK Q1 zL Pd),C7⟩) (c16:codeIn K zL "is_plan"=true) (k16:keepIn K (.ref f16)=true)
  (a17:nsIn K mainGlobals "place_devices"=some (some (.ref f17))) (l17:K.lookup f17=some ⟨HG,FM,.func (fnOf "place_devices" "place_devices" (Az Ef) (Ax Ef) (Ag Ef) .none KE NW EJ QY zK Pc),C6⟩) (c17:codeIn K zK "place_devices"=true) (k17:keepIn K (.ref f17)=true)
  (a18:nsIn K mainGlobals "devices"=some (some (.ref f18))) (l18:K.lookup f18=some ⟨Hn,FL,.func (fnOf "devices" "devices" (Az Ju) (Ax Ju) (Ag Ju) .none KB NV EI QU zJ O3),C5⟩) (c18:codeIn K zJ "devices"=true) (k18:keepIn K (.ref f18)=true)
  (a19:nsIn K mainGlobals "stretches"=some (some (.ref f19))) (l19:K.lookup f19=some ⟨Hm,FK,.func (fnOf "stretches" "stretches" (Az Gf) (Ax Gf) (Ag Gf) .none KA NU EH QR zH O0),C4⟩) (c19:codeIn K zH "stretches"=true) (k19:keepIn K (.ref f19)=true)
  (a20:nsIn K mainGlobals "openers"=some (some (.ref f20))) (l20:K.lookup f20=some ⟨Hk,FI,.func (fnOf "openers" "openers" (Az Hv) (Ax Hv) (Ag Hv) .none Kx NS EG QQ zG OZ),C2⟩) (c20:codeIn K zG "openers"=true) (k20:keepIn K (.ref f20)=true)
  (a21:nsIn K mainGlobals "parts"=some (some (.ref f21))) (l21:K.lookup f21=some ⟨He,FH,.func (fnOf "parts" "parts" (Az LQ) (Ax LQ) (Ag LQ) .none Kt NR EF QP zF OY),C1⟩) (c21:codeIn K zF "parts"=true) (k21:keepIn K (.ref f21)=true)
  (a22:nsIn K mainGlobals "address_twice"=some (some (.ref f22))) (l22:K.lookup f22=some ⟨Hd,FG,.func (fnOf "address_twice" "address_twice" (Az Eh) (Ax Eh) (Ag Eh) .none Kk NO EE QO zE OX),C0⟩) (c22:codeIn K zE "address_twice"=true) (k22:keepIn K (.ref f22)=true)
  (a23:nsIn K mainGlobals "part_crowded"=some (some (.ref f23))) (l23:K.lookup f23=some ⟨Hc,FF,.func (fnOf "part_crowded" "part_crowded" (Az Fe) (Ax Fe) (Ag Fe) .none Kj NN ED QN zB OW),CY⟩) (c23:codeIn K zB "part_crowded"=true) (k23:keepIn K (.ref f23)=true)
  (a24:nsIn K mainGlobals "address_stranger"=some (some (.ref f24))) (l24:K.lookup f24=some ⟨Hb,FE,.func (fnOf "address_stranger" "address_stranger" (Az Dn) (Ax Dn) (Ag Dn) .none Ki NM EC QI zA OV),CU⟩) (c24:codeIn K zA "address_stranger"=true) (k24:keepIn K (.ref f24)=true)
  (a25:nsIn K mainGlobals "address_shared"=some (some (.ref f25))) (l25:K.lookup f25=some ⟨Ha,FD,.func (fnOf "address_shared" "address_shared" (Az DN) (Ax DN) (Ag DN) .none Kb NL EB QE zy OU),CS⟩) (c25:codeIn K zy "address_shared"=true) (k25:keepIn K (.ref f25)=true)
  (a26:nsIn K mainGlobals "wrong"=some (some (.ref f26))) (l26:K.lookup f26=some ⟨G2,FC,.func (fnOf "wrong" "wrong" (Az LK) (Ax LK) (Ag LK) .none JY NJ EA QA zx OT),CO⟩) (c26:codeIn K zx "wrong"=true) (k26:keepIn K (.ref f26)=true)
  (a27:nsIn K mainGlobals "is_let_by"=some (some (.ref f27))) (l27:K.lookup f27=some ⟨G1,FB,.func (fnOf "is_let_by" "is_let_by" (Az G7) (Ax G7) (Ag G7) .none JU NI Ex Qr zu OS),CM⟩) (c27:codeIn K zu "is_let_by"=true) (k27:keepIn K (.ref f27)=true)
  (a28:nsIn K mainGlobals "_law_bag"=some (some (.ref f28))) (l28:K.lookup f28=some ⟨G0,FA,.func (fnOf "_law_bag" "_law_bag" (Az LR) (Ax LR) (Ag LR) .none JP NH Ev Qb zq OR),CL⟩) (c28:codeIn K zq "_law_bag"=true) (k28:keepIn K (.ref f28)=true)
  (a29:nsIn K mainGlobals "_law_take"=some (some (.ref f29))) (l29:K.lookup f29=some ⟨GY,Fu,.func (fnOf "_law_take" "_law_take" (Az J3) (Ax J3) (Ag J3) .none JO NG Eg P9 zm OQ),CI⟩) (c29:codeIn K zm "_law_take"=true) (k29:keepIn K (.ref f29)=true)
  (a30:nsIn K mainGlobals "_law_name"=some (some (.ref f30))) (l30:K.lookup f30=some ⟨GW,Fs,.func (fnOf "_law_name" "_law_name" (Az Jg) (Ax Jg) (Ag Jg) .none JJ NF Ee P8 zj OP),CH⟩) (c30:codeIn K zj "_law_name"=true) (k30:keepIn K (.ref f30)=true)
  (a31:nsIn K mainGlobals "_law_names"=some (some (.ref f31))) (l31:K.lookup f31=some ⟨GV,Fn,.func (fnOf "_law_names" "_law_names" (Az Hw) (Ax Hw) (Ag Hw) .none JI NE D9 P7 zf OO),CF⟩) (c31:codeIn K zf "_law_names"=true) (k31:keepIn K (.ref f31)=true)
  (a32:nsIn K mainGlobals "_law_loop"=some (some (.ref f32))) (l32:K.lookup f32=some ⟨GU,Fm,.func (fnOf "_law_loop" "_law_loop" (Az Ka) (Ax Ka) (Ag Ka) .none JE ND D8 P6 zc ON),CD⟩) (c32:codeIn K zc "_law_loop"=true) (k32:keepIn K (.ref f32)=true)
  (a33:nsIn K mainGlobals "_law_parts"=some (some (.ref f33))) (l33:K.lookup f33=some ⟨GT,Fk,.func (fnOf "_law_parts" "_law_parts" (Az Jo) (Ax Jo) (Ag Jo) .none JA NC D7 P5 za OM),CC⟩) (c33:codeIn K za "_law_parts"=true) (k33:keepIn K (.ref f33)=true)
  (a34:nsIn K mainGlobals "_law_plan"=some (some (.ref f34))) (l34:K.lookup f34=some ⟨GS,Fh,.func (fnOf "_law_plan" "_law_plan" (Az GK) (Ax GK) (Ag GK) .none Jn NB D6 P4 yZ OL),CB⟩) (c34:codeIn K yZ "_law_plan"=true) (k34:keepIn K (.ref f34)=true)
  (a35:nsIn K mainGlobals "_law_kind"=some (some (.ref f35))) (l35:K.lookup f35=some ⟨GO,Ff,.func (fnOf "_law_kind" "_law_kind" (Az Kc) (Ax Kc) (Ag Kc) .none IZ NA D5 P3 yX OK),CA⟩) (c35:codeIn K yX "_law_kind"=true) (k35:keepIn K (.ref f35)=true)
  (a36:nsIn K mainGlobals "_law_lists"=some (some (.ref f36))) (l36:K.lookup f36=some ⟨GN,Fc,.func (fnOf "_law_lists" "_law_lists" (Az Hy) (Ax Hy) (Ag Hy) .none IY Nw D4 P2 yW OI),Ct⟩) (c36:codeIn K yW "_law_lists"=true) (k36:keepIn K (.ref f36)=true)
  (a37:nsIn K mainGlobals "_law_deed"=some (some (.ref f37))) (l37:K.lookup f37=some ⟨GM,Fa,.func (fnOf "_law_deed" "_law_deed" (Az Kd) (Ax Kd) (Ag Kd) .none IX No D3 P1 yV OH),Cs⟩) (c37:codeIn K yV "_law_deed"=true) (k37:keepIn K (.ref f37)=true)
  (a38:nsIn K mainGlobals "_law_refused"=some (some (.ref f38))) (l38:K.lookup f38=some ⟨GL,E9,.func (fnOf "_law_refused" "_law_refused" (Az G4) (Ax G4) (Ag G4) .none IU Nn D2 PZ yU OG),Co⟩) (c38:codeIn K yU "_law_refused"=true) (k38:keepIn K (.ref f38)=true)
  (a39:nsIn K mainGlobals "law"=some (some (.ref f39))) (l39:K.lookup f39=some ⟨GI,E8,.func (fnOf "law" "law" (Az Je) (Ax Je) (Ag Je) .none wX yF vW zW pX yI),Cn⟩) (c39:codeIn K pX "law"=true) (k39:keepIn K (.ref f39)=true)
  (pg:plainGet K C Str.empty=true) (hd:hasDictIn K C=true) (po:PySem.W.plainOver K C=true) (sa:findIn K (.ref C) "__setattr__"=some (some (.builtin "object.__setattr__"))) (mk:PySem.W.makesIn K C=true) (kc:keepIn K (.ref C)=true)
  (n0:findIn K (.ref C) "plan"=some none)
  (n1:findIn K (.ref C) "states"=some none)
  (n2:findIn K (.ref C) "filled"=some none)
  (n3:findIn K (.ref C) "gaps"=some none)
  (z0:nsIn K mainGlobals "isinstance"=some none)
  (z1:nsIn K mainGlobals "int"=some none)
  (z2:nsIn K mainGlobals "bool"=some none)
  (z3:nsIn K mainGlobals "tuple"=some none)
  (z4:nsIn K mainGlobals "list"=some none)
  (z5:nsIn K mainGlobals "str"=some none)
  (z6:nsIn K mainGlobals "len"=some none)
  (z7:nsIn K mainGlobals "all"=some none)
  (z8:nsIn K mainGlobals "abs"=some none)
  (z9:nsIn K mainGlobals "max"=some none)
  (z10:nsIn K mainGlobals "min"=some none)
  (z11:nsIn K mainGlobals "range"=some none)
  (z12:nsIn K mainGlobals "sorted"=some none)
  (z13:nsIn K mainGlobals "any"=some none)
  (z14:nsIn K mainGlobals "sum"=some none)
  (z15:nsIn K mainGlobals "enumerate"=some none)
  (z16:nsIn K mainGlobals "zip"=some none)
  (z17:nsIn K mainGlobals "reversed"=some none)
  (z18:nsIn K mainGlobals "dict"=some none)
  (z19:nsIn K mainGlobals "ord"=some none)
  {op oe:Addr} {odo ode:Option Addr} {no ne:Nat} {slo sle:Array (Option Value)} {tks tko:Tok} {kd wk:Addr} {odk odw:Option Addr} {nk nw:Nat} {slk slw:Array (Option Value)} {tq1 tq2 tq3 tq4 tq5 tq6 BQ:Tok} {hc u0 u1 u2 u3 u4 u5 u6 u7 u8 u9 u10 u11 u12:Addr}
  (ao:nsIn K mainGlobals "OPENER"=some (some (.ref op)))
  (lo:K.lookup op=some ⟨.type "tuple",odo,.seq #[.str "opener" tks,.int 0 tko,.ref oe] no,slo⟩)
  (lq2:K.lookup oe=some ⟨.type "tuple",ode,.seq #[] ne,sle⟩)
  (aKd:nsIn K mainGlobals "KINDS"=some (some (.ref kd)))
  (lKd:K.lookup kd=some ⟨.type "tuple",odk,.seq #[.str "seeker" tq1,.str "knob" tq2,.str "bell" tq3,.str "door" tq4] nk,slk⟩)
  (aWk:nsIn K mainGlobals "WARNING_KINDS"=some (some (.ref wk)))
  (lWk:K.lookup wk=some ⟨.type "tuple",odw,.seq #[.str "seeker" tq5,.str "knob" tq6] nw,slw⟩)
  (aSL:nsIn K mainGlobals "SMALL_LETTERS"=some (some (.str "abcdefghijklmnopqrstuvwxyz" BQ)))
  (xzv:nsIn K mainGlobals "ValueError"=some none)
  (xeh:nsIn K mainGlobals "HouseError"=some (some (.ref hc)))
  (xe0:nsIn K mainGlobals "NoPlan"=some (some (.ref u0)))
  (xe1:nsIn K mainGlobals "NoText"=some (some (.ref u1)))
  (xe2:nsIn K mainGlobals "NoStretch"=some (some (.ref u2)))
  (xe3:nsIn K mainGlobals "NoSpot"=some (some (.ref u3)))
  (xe4:nsIn K mainGlobals "NoOpener"=some (some (.ref u4)))
  (xe5:nsIn K mainGlobals "NoAddress"=some (some (.ref u5)))
  (xe6:nsIn K mainGlobals "NoRules"=some (some (.ref u6)))
  (xe7:nsIn K mainGlobals "NoHand"=some (some (.ref u7)))
  (xe8:nsIn K mainGlobals "NoPanel"=some (some (.ref u8)))
  (xe9:nsIn K mainGlobals "NoLink"=some (some (.ref u9)))
  (j6:nsIn K mainGlobals "NoLog"=some (some (.ref u10)))
  (j5:nsIn K mainGlobals "NoDeed"=some (some (.ref u11)))
  (j4:nsIn K mainGlobals "NoRow"=some (some (.ref u12)))
  (xhx:excIn K hc [.type "ValueError",.type "Exception",.type "BaseException",.type "object"] "ValueError.__new__"=true)
  (xha:findIn K (.ref hc) "__getattribute__"=some (some (.builtin "BaseException.__getattribute__")))
  (xhn:findIn K (.ref hc) "__getattr__"=some none)
  (xhc:findIn K (.ref hc) "__class__"=some (some (.builtin "object.__class__")))
  (xho:subIn K (.ref hc) (.type "object")=some true)
  (xhb:subIn K (.ref hc) (.type "BaseException")=some true)
  (xhk:keepIn K (.ref hc)=true)
  (oU:excIn K u2 [.type "ValueError",.type "Exception",.type "BaseException",.type "object"] "ValueError.__new__"=true)
  (o7:findIn K (.ref u2) "__getattribute__"=some (some (.builtin "BaseException.__getattribute__")))
  (oW:findIn K (.ref u2) "__getattr__"=some none)
  (oY:findIn K (.ref u2) "__class__"=some (some (.builtin "object.__class__")))
  (oV:subIn K (.ref u2) (.type "object")=some true)
  (oZ:subIn K (.ref u2) (.type "BaseException")=some true)
  (oX:keepIn K (.ref u2)=true)
  (oh:subIn K (.ref u2) (.ref hc)=some true)
  (oR:kitOne K (.ref u2) (.ref u0)=some false)
  (oO:kitOne K (.ref u2) (.ref u1)=some false)
  (oN:kitOne K (.ref u2) (.ref u2)=some true)
  (oM:kitOne K (.ref u2) (.ref u3)=some false)
  (oK:kitOne K (.ref u2) (.ref u4)=some false)
  (oJ:kitOne K (.ref u2) (.ref u5)=some false)
  (oH:kitOne K (.ref u2) (.ref u6)=some false)
  (oG:kitOne K (.ref u2) (.ref u7)=some false)
  (oE:kitOne K (.ref u2) (.ref u8)=some false)
  (oA:kitOne K (.ref u2) (.ref u9)=some false)
  (cM:kitOne K (.ref u2) (.ref u10)=some false)
  (cL:kitOne K (.ref u2) (.ref u11)=some false)
  (cJ:kitOne K (.ref u2) (.ref u12)=some false)
  (ou:kitOne K (.ref u2) (.type "ValueError")=some true)
  (nP:excIn K u3 [.type "ValueError",.type "Exception",.type "BaseException",.type "object"] "ValueError.__new__"=true)
  (nZ:findIn K (.ref u3) "__getattribute__"=some (some (.builtin "BaseException.__getattribute__")))
  (nR:findIn K (.ref u3) "__getattr__"=some none)
  (nW:findIn K (.ref u3) "__class__"=some (some (.builtin "object.__class__")))
  (nQ:subIn K (.ref u3) (.type "object")=some true)
  (nY:subIn K (.ref u3) (.type "BaseException")=some true)
  (nU:keepIn K (.ref u3)=true)
  (m7:subIn K (.ref u3) (.ref hc)=some true)
  (nO:kitOne K (.ref u3) (.ref u0)=some false)
  (nM:kitOne K (.ref u3) (.ref u1)=some false)
  (nJ:kitOne K (.ref u3) (.ref u2)=some false)
  (nH:kitOne K (.ref u3) (.ref u3)=some true)
  (nG:kitOne K (.ref u3) (.ref u4)=some false)
  (nF:kitOne K (.ref u3) (.ref u5)=some false)
  (nC:kitOne K (.ref u3) (.ref u6)=some false)
  (nA:kitOne K (.ref u3) (.ref u7)=some false)
  (nj:kitOne K (.ref u3) (.ref u8)=some false)
  (m9:kitOne K (.ref u3) (.ref u9)=some false)
  (cI:kitOne K (.ref u3) (.ref u10)=some false)
  (cH:kitOne K (.ref u3) (.ref u11)=some false)
  (cG:kitOne K (.ref u3) (.ref u12)=some false)
  (m8:kitOne K (.ref u3) (.type "ValueError")=some true)
  : ∃fd:FuncData,(∀(s:Shared) (v:Value),BindsTo s fd ⟨[v],[]⟩ [("_law_script",v)])/\∀base:Heap,K.In base->base.Ns mainGlobals mg->GD l.prog w K mg base CX0 13 fa fd ["_law_script"] (V2 K):=by
 have e:=hfa.symm.trans (mg_of X G a39)
 cases e
 have TN:Nm mg:=⟨mg_none_of X G z0,mg_none_of X G z1,mg_none_of X G z2,mg_none_of X G z3,mg_none_of X G z4,mg_none_of X G z5,mg_none_of X G z6,mg_none_of X G z7,mg_none_of X G z8,mg_none_of X G z9,mg_none_of X G z10,mg_none_of X G z11,mg_none_of X G z12,mg_none_of X G z13,mg_none_of X G z14,mg_none_of X G z15,mg_none_of X G z16,mg_none_of X G z17,mg_none_of X G z18,mg_none_of X G z19⟩
 have TX:Tx K mg op oe:=⟨TN,⟨_,mg_of X G ao,rfl⟩,λH=>.inr ⟨_,_,_,lo,rfl,rfl,(by show 3<=sizeLine;decide),.cons ⟨_,rfl⟩ (.cons ⟨_,rfl⟩ (.cons rfl .nil))⟩,λH=>.inr ⟨_,_,_,lq2,rfl,rfl,(by show 0<=sizeLine;decide),.nil⟩⟩
 have TY:Ty K mg op oe kd wk:={ toTx:=TX,KINDS:=⟨_,mg_of X G aKd,rfl⟩,kdT:=λH=>.inr ⟨_,_,_,lKd,rfl,rfl,(by show 4<=sizeLine;decide),.cons ⟨_,rfl⟩ (.cons ⟨_,rfl⟩ (.cons ⟨_,rfl⟩ (.cons ⟨_,rfl⟩ .nil)))⟩,WARNING_KINDS:=⟨_,mg_of X G aWk,rfl⟩,wkT:=λH=>.inr ⟨_,_,_,lWk,rfl,rfl,(by show 2<=sizeLine;decide),.cons ⟨_,rfl⟩ (.cons ⟨_,rfl⟩ .nil)⟩,SMALL_LETTERS:=⟨_,mg_of X G aSL,⟨_,rfl⟩⟩ }
 have T:Tw K mg op oe kd wk C:={ toTy:=TY,cl:=⟨pg,hd,po,sa⟩,mgC:=mg_of X G aC,gY:=n0,Jh:=n1,Kl:=n2,gZ:=n3 }
 have XE:Er K mg hc u0 u1 u2 u3 u4 u5 u6 u7 u8 u9 u10 u11 u12:=⟨mg_none_of X G xzv,mg_of X G xeh,⟨xhx,xha,xhn,xhc,xho,xhb,xhk⟩,mg_of X G xe0,mg_of X G xe1,mg_of X G xe2,mg_of X G xe3,mg_of X G xe4,mg_of X G xe5,mg_of X G xe6,mg_of X G xe7,mg_of X G xe8,mg_of X G xe9,mg_of X G j6,mg_of X G j5,mg_of X G j4⟩
 have Fd:Knd K hc u2 [u0,u1,u2,u3,u4,u5,u6,u7,u8,u9,u10,u11,u12] 2:=⟨⟨oU,o7,oW,oY,oV,oZ,oX⟩,oh,qL (j:=2) oR oO oN oM oK oJ oH oG oE oA cM cL cJ,ou⟩
 have Fq:Knd K hc u3 [u0,u1,u2,u3,u4,u5,u6,u7,u8,u9,u10,u11,u12] 3:=⟨⟨nP,nZ,nR,nW,nQ,nY,nU⟩,m7,qL (j:=3) nO nM nJ nH nG nF nC nA nj m9 cI cH cG,m8⟩
 have Fm1:=GX (st:=Dk) lm1 cm1 km1
 have bm1:=Fm1.binds (ps:=DW) λ_ _ _ _ _ _ us hl=>match us,hl with | [_,_],_=>rfl
 have dU:∃f fd,Fun K "__init__" "Wires.__init__" Dk f fd/\Mk K C f/\Binds K fd DW []:=⟨fm1,_,Fm1,⟨mk,am1,im1,kc⟩,bm1⟩
 have Fm2:=GX (st:=Ci) lm2 cm2 km2
 have bm2:=Fm2.binds (ps:=Bw) λ_ _ _ _ _ _ us hl=>match us,hl with | [_,_],_=>rfl
 have T3:Dv K C "check_stretch" "Wires.check_stretch" Ci Bw:=⟨fm2,_,Fm2,⟨am2,im2,km2⟩,bm2⟩
 have Fm3:=GX (st:=CK) lm3 cm3 km3
 have bm3:=Fm3.binds (ps:=CN) λ_ _ _ _ _ _ us hl=>match us,hl with | [_,_],_=>rfl
 have YF:Dv K C "check_spot" "Wires.check_spot" CK CN:=⟨fm3,_,Fm3,⟨am3,im3,km3⟩,bm3⟩
 have Fm4:=GX (st:=Gh) lm4 cm4 km4
 have bm4:=Fm4.binds (ps:=Gm) λ_ _ _ _ _ _ us hl=>match us,hl with | [_,_],_=>rfl
 have BG:Dv K C "cut" "Wires.cut" Gh Gm:=⟨fm4,_,Fm4,⟨am4,im4,km4⟩,bm4⟩
 have Fm5:=GX (st:=El) lm5 cm5 km5
 have bm5:=Fm5.binds (ps:=Em) λ_ _ _ _ _ _ us hl=>match us,hl with | [_,_],_=>rfl
 have uM:Dv K C "short" "Wires.short" El Em:=⟨fm5,_,Fm5,⟨am5,im5,km5⟩,bm5⟩
 have Fm6:=GX (st:=Fi) lm6 cm6 km6
 have bm6:=Fm6.binds (ps:=Fp) λ_ _ _ _ _ _ us hl=>match us,hl with | [_,_],_=>rfl
 have As:Dv K C "mend" "Wires.mend" Fi Fp:=⟨fm6,_,Fm6,⟨am6,im6,km6⟩,bm6⟩
 have Fm7:=GX (st:=Gg) lm7 cm7 km7
 have bm7:=Fm7.binds (ps:=Gj) λ_ _ _ _ _ _ us hl=>match us,hl with | [_,_],_=>rfl
 have BF:Dv K C "how" "Wires.how" Gg Gj:=⟨fm7,_,Fm7,⟨am7,im7,km7⟩,bm7⟩
 have Fm8:=GX (st:=Dj) lm8 cm8 km8
 have bm8:=Fm8.binds (ps:=Dl) λ_ _ _ _ _ _ us hl=>match us,hl with | [_,_],_=>rfl
 have dR:Dv K C "take_out" "Wires.take_out" Dj Dl:=⟨fm8,_,Fm8,⟨am8,im8,km8⟩,bm8⟩
 have Fm9:=GX (st:=DP) lm9 cm9 km9
 have bm9:=Fm9.binds (ps:=DR) λ_ _ _ _ _ _ us hl=>match us,hl with | [_,_,_,_],_=>rfl
 have qb:Dv K C "put_in" "Wires.put_in" DP DR:=⟨fm9,_,Fm9,⟨am9,im9,km9⟩,bm9⟩
 have At:=GX (st:=Ek) mY pW cF
 have Ps:=At.binds (ps:=Fz) λ_ _ _ _ _ _ us hl=>match us,hl with | [_],_=>rfl
 have uL:Dv K C "there" "Wires.there" Ek Fz:=⟨Yb,_,At,⟨p7,pq,cF⟩,Ps⟩
 have T8:Code K mg "is_whole" GP FZ:=Code.of X G a1 l1 c1 k1 λ_ _ _ _ _ _ us hl=>match us,hl with | [_],_=>rfl
 have Zj:Code K mg "is_within" G5 Fb:=Code.of X G a2 l2 c2 k2 λ_ _ _ _ _ _ us hl=>match us,hl with | [_,_,_],_=>rfl
 have qt:Code K mg "is_row" Ke Dq:=Code.of X G a3 l3 c3 k3 λ_ _ _ _ _ _ us hl=>match us,hl with | [_,_,_],_=>rfl
 have YG:Code K mg "are_wholes" Gu Gw:=Code.of X G a4 l4 c4 k4 λ_ _ _ _ _ _ us hl=>match us,hl with | [_,_],_=>rfl
 have Zk:Code K mg "is_rising" G6 Iw:=Code.of X G a5 l5 c5 k5 λ_ _ _ _ _ _ us hl=>match us,hl with | [_],_=>rfl
 have PL:Code K mg "are_rising_within" Cw Dy:=Code.of X G a6 l6 c6 k6 λ_ _ _ _ _ _ us hl=>match us,hl with | [_,_,_,_,_],_=>rfl
 have jX:Code K mg "is_name" Js K5:=Code.of X G a7 l7 c7 k7 λ_ _ _ _ _ _ us hl=>match us,hl with | [_],_=>rfl
 have Zn:Code K mg "is_device" G8 Hg:=Code.of X G a8 l8 c8 k8 λ_ _ _ _ _ _ us hl=>match us,hl with | [_,_],_=>rfl
 have Ss:Code K mg "is_spur_device" DK Fj:=Code.of X G a9 l9 c9 k9 λ_ _ _ _ _ _ us hl=>match us,hl with | [_],_=>rfl
 have jV:Code K mg "is_spur" Jq K3:=Code.of X G a10 l10 c10 k10 λ_ _ _ _ _ _ us hl=>match us,hl with | [_],_=>rfl
 have dZ:Code K mg "is_place" Ie JM:=Code.of X G a11 l11 c11 k11 λ_ _ _ _ _ _ us hl=>match us,hl with | [_],_=>rfl
 have jY:Code K mg "is_loop" Jt K6:=Code.of X G a12 l12 c12 k12 λ_ _ _ _ _ _ us hl=>match us,hl with | [_],_=>rfl
 have jU:Code K mg "is_zone" Jp K1:=Code.of X G a13 l13 c13 k13 λ_ _ _ _ _ _ us hl=>match us,hl with | [_],_=>rfl
 have Zq:Code K mg "are_loops" Hf IV:=Code.of X G a14 l14 c14 k14 λ_ _ _ _ _ _ us hl=>match us,hl with | [_],_=>rfl
 have Zo:Code K mg "are_zones" G9 IK:=Code.of X G a15 l15 c15 k15 λ_ _ _ _ _ _ us hl=>match us,hl with | [_],_=>rfl
 have jW:Code K mg "is_plan" Jr K4:=Code.of X G a16 l16 c16 k16 λ_ _ _ _ _ _ us hl=>match us,hl with | [_],_=>rfl
 have T7:Code K mg "place_devices" Ef Ej:=Code.of X G a17 l17 c17 k17 λ_ _ _ _ _ _ us hl=>match us,hl with | [_,_,_],_=>rfl
 have jZ:Code K mg "devices" Ju GF:=Code.of X G a18 l18 c18 k18 λ_ _ _ _ _ _ us hl=>match us,hl with | [_],_=>rfl
 have Zh:Code K mg "stretches" Gf Iu:=Code.of X G a19 l19 c19 k19 λ_ _ _ _ _ _ us hl=>match us,hl with | [_],_=>rfl
 have jP:Code K mg "openers" Hv KQ:=Code.of X G a20 l20 c20 k20 λ_ _ _ _ _ _ us hl=>match us,hl with | [_],_=>rfl
 have uO:Code K mg "parts" LQ Od:=Code.of X G a21 l21 c21 k21 λ_ _ _ _ _ _ us hl=>match us,hl with | [_,_],_=>rfl
 have T9:Code K mg "address_twice" Eh Ga:=Code.of X G a22 l22 c22 k22 λ_ _ _ _ _ _ us hl=>match us,hl with | [_],_=>rfl
 have U5:Code K mg "part_crowded" Fe Gv:=Code.of X G a23 l23 c23 k23 λ_ _ _ _ _ _ us hl=>match us,hl with | [_],_=>rfl
 have Qx:Code K mg "address_stranger" Dn Ed:=Code.of X G a24 l24 c24 k24 λ_ _ _ _ _ _ us hl=>match us,hl with | [_],_=>rfl
 have Sv:Code K mg "address_shared" DN Fo:=Code.of X G a25 l25 c25 k25 λ_ _ _ _ _ _ us hl=>match us,hl with | [_],_=>rfl
 have uN:Code K mg "wrong" LK Oc:=Code.of X G a26 l26 c26 k26 λ_ _ _ _ _ _ us hl=>match us,hl with | [_],_=>rfl
 have Zm:Code K mg "is_let_by" G7 Iz:=Code.of X G a27 l27 c27 k27 λ_ _ _ _ _ _ us hl=>match us,hl with | [_],_=>rfl
 have uP:Code K mg "_law_bag" LR Oe:=Code.of X G a28 l28 c28 k28 λ_ _ _ _ _ _ us hl=>match us,hl with | [_,_],_=>rfl
 have qd:Code K mg "_law_take" J3 Gi:=Code.of X G a29 l29 c29 k29 λ_ _ _ _ _ _ us hl=>match us,hl with | [_,_],_=>rfl
 have qg:Code K mg "_law_name" Jg MK:=Code.of X G a30 l30 c30 k30 λ_ _ _ _ _ _ us hl=>match us,hl with | [_],_=>rfl
 have jR:Code K mg "_law_names" Hw KY:=Code.of X G a31 l31 c31 k31 λ_ _ _ _ _ _ us hl=>match us,hl with | [_,_],_=>rfl
 have qj:Code K mg "_law_loop" Ka MN:=Code.of X G a32 l32 c32 k32 λ_ _ _ _ _ _ us hl=>match us,hl with | [_,_,_],_=>rfl
 have jQ:Code K mg "_law_parts" Jo KR:=Code.of X G a33 l33 c33 k33 λ_ _ _ _ _ _ us hl=>match us,hl with | [_],_=>rfl
 have qe:Code K mg "_law_plan" GK MJ:=Code.of X G a34 l34 c34 k34 λ_ _ _ _ _ _ us hl=>match us,hl with | [_,_,_],_=>rfl
 have qm:Code K mg "_law_kind" Kc MP:=Code.of X G a35 l35 c35 k35 λ_ _ _ _ _ _ us hl=>match us,hl with | [_],_=>rfl
 have jT:Code K mg "_law_lists" Hy KZ:=Code.of X G a36 l36 c36 k36 λ_ _ _ _ _ _ us hl=>match us,hl with | [_],_=>rfl
 have qp:Code K mg "_law_deed" Kd M4:=Code.of X G a37 l37 c37 k37 λ_ _ _ _ _ _ us hl=>match us,hl with | [_,_,_,_,_],_=>rfl
 have Zi:Code K mg "_law_refused" G4 Iv:=Code.of X G a38 l38 c38 k38 λ_ _ _ _ _ _ us hl=>match us,hl with | [_,_,_,_],_=>rfl
 have BI:=GX (st:=Je) l39 c39 k39
 refine⟨fnOf "law" "law" (Az Je) (Ax Je) (Ag Je) .none wX yF vW zW pX yI,λs v=>.of_eq rfl,λbase _ _=>?_⟩
 have Q0:=mD (P:=l.prog) (w:=w) (base:=base) uP TN
 have Bl:=gP (P:=l.prog) (w:=w) (base:=base) qd TN
 have h_kind:=tD (P:=l.prog) (w:=w) (base:=base) qm TN XE
 have Be:=Qk (P:=l.prog) (w:=w) (base:=base) T8 TN
 have ML:=YS (P:=l.prog) (w:=w) (base:=base) T8 TN
 have cX:=Xp (P:=l.prog) (w:=w) (base:=base) Zj TN ML
 have NP:=gQ (P:=l.prog) (w:=w) (base:=base) qt TN
 have yq:=VF (P:=l.prog) (w:=w) (base:=base) YG TN Be NP
 have Mb:=Xq (P:=l.prog) (w:=w) (base:=base) Zk TY
 have LX:=VG (P:=l.prog) (w:=w) (base:=base) PL TY NP cX Mb
 have MB:=bY (P:=l.prog) (w:=w) (base:=base) jX TY
 have yh:=Xu (P:=l.prog) (w:=w) (base:=base) Zn TY cX
 have LW:=Rg (P:=l.prog) (w:=w) (base:=base) Ss TY NP yh
 have LU:=bV (P:=l.prog) (w:=w) (base:=base) jV TY NP LW
 have Mo:=YT (P:=l.prog) (w:=w) (base:=base) dZ TY NP cX yh LU
 have ME:=bZ (P:=l.prog) (w:=w) (base:=base) jY TY NP Mo
 have LN:=bU (P:=l.prog) (w:=w) (base:=base) jU TY NP MB LX
 have MD:=Xw (P:=l.prog) (w:=w) (base:=base) Zq TY NP ME
 have LM:=Xv (P:=l.prog) (w:=w) (base:=base) Zo TY NP LN
 have xZ:=RG (P:=l.prog) (w:=w) (base:=base) T7 TX
 have cZ:=cg (P:=l.prog) (w:=w) (base:=base) jZ TX xZ
 have LT:=Xo (P:=l.prog) (w:=w) (base:=base) Zh TX
 have My:=bT (P:=l.prog) (w:=w) (base:=base) jP TX
 have Md:=mq (P:=l.prog) (w:=w) (base:=base) uO TX xZ
 have Mn:=bW (P:=l.prog) (w:=w) (base:=base) jW TY NP cX MD LM cZ
 have MR:=RK (P:=l.prog) (w:=w) (base:=base) T9 TY cZ
 have MQ:=Td (P:=l.prog) (w:=w) (base:=base) U5 TY Md
 have MS:=Pz (P:=l.prog) (w:=w) (base:=base) Qx TY cZ
 have LV:=Rh (P:=l.prog) (w:=w) (base:=base) Sv TY
 have LO:=lY (P:=l.prog) (w:=w) (base:=base) uN TY MR MQ MS LV
 have MI:=Xr (P:=l.prog) (w:=w) (base:=base) Zm TY Mn LO
 have dg:=RJ (P:=l.prog) (w:=w) (base:=base) T3 T XE Fd yq
 have yp:=VD (P:=l.prog) (w:=w) (base:=base) YF T XE Fq yq
 have yj:=wC (P:=l.prog) (w:=w) (base:=base) BG T dg
 have xX:=mj (P:=l.prog) (w:=w) (base:=base) uM T dg
 have yd:=sW (P:=l.prog) (w:=w) (base:=base) As T dg
 have yg:=wB (P:=l.prog) (w:=w) (base:=base) BF T dg
 have xW:=YQ (P:=l.prog) (w:=w) (base:=base) dR T yp
 have xY:=gM (P:=l.prog) (w:=w) (base:=base) qb T yp
 have LP:=lZ (P:=l.prog) (w:=w) (base:=base) uL T
 have MM:=mF (P:=l.prog) (w:=w) (base:=base) dU T MI LT cZ My
 have MC:=sO (P:=l.prog) (w:=w) (base:=base) qg TN Bl
 have MA:=mz (P:=l.prog) (w:=w) (base:=base) jR TN MC
 have MG:=sY (P:=l.prog) (w:=w) (base:=base) qj TN Bl
 have Me:=gO (P:=l.prog) (w:=w) (base:=base) jQ TN
 have Mm:=sJ (P:=l.prog) (w:=w) (base:=base) qe TN Bl MG Me MA
 have MH:=mC (P:=l.prog) (w:=w) (base:=base) jT T
 have MO:=tG (P:=l.prog) (w:=w) (base:=base) qp T Bl yj xX yd xW xY
 have Mc:=bR (P:=l.prog) (w:=w) (base:=base) Zi T XE Fd Fq Bl yj xX yd yg xW xY h_kind
 exact wA BI T Q0 Bl Mm MM MH MO Mc LP yg
theorem walk {l:PySem.W.OpenLaw} {q:Program} {loose:List Str} {XP:(Str->Option Value)->Heap->Prop} {YP:World->Heap->Prop} {d:DefRec} {K:Params->PySem.W.Frag} (hn:l.most=some 63) (hdf:d.params.defaults=[])
  (hY:∀(w:World) (h:Heap),YP w h->(K w.params).In h)
  (F:∀(w:World) (mg:Str->Option Value) (fa:Addr) (h:Heap),(K w.params).In h->h.Ns mainGlobals mg->mg d.name=some (.ref fa) ->
   ∃fd:FuncData,(∀(s:Shared) (u:Value),BindsTo s fd ⟨[u],[]⟩ [("_law_script",u)])/\∀base:Heap,(K w.params).In base->base.Ns mainGlobals mg->GD l.prog w (K w.params) mg base CX0 13 fa fd ["_law_script"] (V2 (K w.params))) :
  PySem.W.WalkO q loose XP YP l.row.toRowW d [] (λf vs=>PySem.call f vs):=
 L2.rA (n:=63) (k:=13) (x:="_law_script") (CX:=λ_=>CX0) (sp:=λw=>V2 (K w.params)) hn (by decide) hdf ⟨rfl,by decide,by decide⟩ hY F (λ_ _ a ns hl _ hS=>⟨a,ns,rfl,hS,hl,λ_=>rfl⟩) λ_ _ _ _ _ z=>z
end K07
/-! names that stay free of quick twins: the head comes through without them, and the compiled text is much smaller -/
namespace PySem.W.Fast
def tw8879723680842235673:=0
def tw14554860573644479501:=0
def tw4233982699680869744:=0
def tw12578581655440988435:=0
def tw6732240433721970826:=0
def tw6145324504507558600:=0
def tw13976422343909144987:=0
def tw9601145417075309801:=0
def tw17710264444782339761:=0
def tw6257210828950046316:=0
def tw16772747275453173056:=0
def tw13614675893119103902:=0
def tw14584749314549886428:=0
def tw979374820108453069:=0
def tw16808170715880916049:=0
def tw848620115419429236:=0
def tw6165862058917280617:=0
def tw17944604987404309469:=0
def tw13376962673158513797:=0
def tw625077578232599453:=0
def tw10681732154013636675:=0
def tw13295833668352427052:=0
def tw6527245811678020791:=0
def tw10466978513805266936:=0
def tw5234414281059153788:=0
def tw14655167360222818791:=0
def tw2566230925462726106:=0
def tw407375457657717459:=0
def tw9153424204450715064:=0
def tw15183822066704378141:=0
def tw17419201326358989215:=0
def tw10630134737243005448:=0
def tw433017187251546165:=0
def tw13861497640388522749:=0
def tw15982852881114096415:=0
def tw14751221202614256341:=0
def tw2946699311366108571:=0
def tw5638227867771937373:=0
def tw16392326167226454932:=0
def tw3401276780555918899:=0
def tw11733099868381705892:=0
def tw6557864177664778377:=0
def tw9396481593698833726:=0
def tw9879093656646479279:=0
def tw8776261387452883099:=0
def tw18415176971238970368:=0
def tw5055999218875205878:=0
def tw3289463114094919400:=0
def tw18071097589112973892:=0
def tw13115672357429743836:=0
def tw10096204894566522660:=0
def tw12834234772231275815:=0
def tw18032368296093188718:=0
def tw1472039859135195975:=0
def tw1520576349071170529:=0
def tw7264563922494792587:=0
def tw5919325714553449269:=0
def tw16324959383066118784:=0
def tw2755201603250765063:=0
def tw11340249919429446537:=0
def tw637755124031537827:=0
def tw16785839462967784704:=0
def tw10950331533339371594:=0
def tw9140715079474244317:=0
def tw3851241807366048715:=0
def tw3951640990680813618:=0
def tw5569189182466462363:=0
def tw15508063422157279198:=0
def tw10982861641585280956:=0
def tw13911681649015146289:=0
def tw13058159529146724184:=0
def tw9293038476540281907:=0
def tw9370888944201445753:=0
def tw13200484014429607953:=0
def tw9558620450501458408:=0
def tw11616493484035802380:=0
def tw1449715655949405701:=0
def tw14849501605241963597:=0
def tw14852306011672344803:=0
def tw5051302896773729432:=0
def tw2117042314797626149:=0
def tw3869596663539014898:=0
def tw18032253910699899891:=0
def tw1039298667604206554:=0
def tw13886702846496998490:=0
def tw10103371120388739811:=0
def tw17090748866565689910:=0
def tw13680064570781539856:=0
def tw10535672439702070282:=0
def tw16016206506590526567:=0
def tw8309928687966492386:=0
def tw13443663250488676863:=0
def tw15350660787200963619:=0
def tw9428891674270825365:=0
def tw2368631061265003324:=0
def tw15682510168826204564:=0
def tw17323378406595015228:=0
def tw3634929876241309473:=0
def tw8718431464851659188:=0
def tw17695894353134328205:=0
def tw11570280433141336480:=0
def tw7574453882179183158:=0
def tw273399171804452840:=0
def tw2344621549692197752:=0
def tw4780071626668892958:=0
def tw10693246178454111597:=0
def tw4276328419967233292:=0
def tw17133988823761511547:=0
def tw13353030342372373200:=0
def tw15510441558385148547:=0
def tw15243403718881727135:=0
def tw8188225924615869614:=0
def tw1402415414435028825:=0
def tw2772828570557681275:=0
def tw10274768232863570989:=0
def tw5754335635524450193:=0
def tw233828805549182538:=0
def tw7054114645849794801:=0
def tw12461373044115410588:=0
def tw16837196222489741818:=0
def tw16067360388650978392:=0
def tw10436001394615409280:=0
def tw17125339182601007635:=0
def tw14264583778981383282:=0
def tw4844260215456189961:=0
def tw5301793030263744001:=0
def tw18402868410348908267:=0
def tw14116932991088290998:=0
def tw9322081927176946415:=0
def tw11683791533386854991:=0
def tw1250424335784289493:=0
def tw7450966147105368589:=0
def tw302590100522493853:=0
def tw12156879066114971793:=0
def tw13995580729325223761:=0
def tw8082692625257503332:=0
def tw3573734824000443259:=0
def tw9329663158692380681:=0
def tw18208357161065616539:=0
def tw14028592004395638517:=0
def tw8716064678038985860:=0
def tw15649834021553942030:=0
def tw10494779309886729274:=0
def tw18321341696572752262:=0
def tw16890570083660608363:=0
def tw10829514933990739437:=0
def tw11362878352268071287:=0
def tw4493571559985050354:=0
def tw11679146419878719805:=0
def tw1607991662200820458:=0
def tw9295969044698849304:=0
def tw12536813099061887358:=0
def tw17383748777394767857:=0
def tw4352274552760712368:=0
end PySem.W.Fast
open PySem PySem.W PyProof.Rows
set_option maxRecDepth 100000 in
set_option maxHeartbeats 0 in
theorem PySem.Challenge.cw_warnloop_k07_stretches_kept_holds : PySem.Challenge.rw_warnloop_k07_stretches_kept.Holds := by
 w_on;o_law;k_head;(case hw=>w_witness2)
 k_fill
 refine K07.walk (l:=PySem.Challenge.rw_warnloop_k07_stretches_kept) rfl rfl (λw h Y=>PySem.W.kIn_of Y) ?F
 case F=>
  intro w mg fa h KX G hmg
  refine' K07.all_mk KX G hmg ?aC ?am1 ?im1 ?lm1 ?cm1 ?km1 ?am2 ?im2 ?lm2 ?cm2 ?km2 ?am3 ?im3 ?lm3 ?cm3 ?km3 ?am4 ?im4 ?lm4 ?cm4 ?km4 ?am5 ?im5 ?lm5 ?cm5 ?km5 ?am6 ?im6 ?lm6 ?cm6 ?km6 ?am7 ?im7 ?lm7 ?cm7 ?km7 ?am8 ?im8 ?lm8 ?cm8 ?km8 ?am9 ?im9 ?lm9 ?cm9 ?km9 ?p7 ?pq ?mY ?pW ?cF ?a1 ?l1 ?c1 ?k1 ?a2 ?l2 ?c2 ?k2 ?a3 ?l3 ?c3 ?k3 ?a4 ?l4 ?c4 ?k4 ?a5 ?l5 ?c5 ?k5 ?a6 ?l6 ?c6 ?k6 ?a7 ?l7 ?c7 ?k7 ?a8 ?l8 ?c8 ?k8 ?a9 ?l9 ?c9 ?k9 ?a10 ?l10 ?c10 ?k10 ?a11 ?l11 ?c11 ?k11 ?a12 ?l12 ?c12 ?k12 ?a13 ?l13 ?c13 ?k13 ?a14 ?l14 ?c14 ?k14 ?a15 ?l15 ?c15 ?k15 ?a16 ?l16 ?c16 ?k16 ?a17 ?l17 ?c17 ?k17 ?a18 ?l18 ?c18 ?k18 ?a19 ?l19 ?c19 ?k19 ?a20 ?l20 ?c20 ?k20 ?a21 ?l21 ?c21 ?k21 ?a22 ?l22 ?c22 ?k22 ?a23 ?l23 ?c23 ?k23 ?a24 ?l24 ?c24 ?k24 ?a25 ?l25 ?c25 ?k25 ?a26 ?l26 ?c26 ?k26 ?a27 ?l27 ?c27 ?k27 ?a28 ?l28 ?c28 ?k28 ?a29 ?l29 ?c29 ?k29 ?a30 ?l30 ?c30 ?k30 ?a31 ?l31 ?c31 ?k31 ?a32 ?l32 ?c32 ?k32 ?a33 ?l33 ?c33 ?k33 ?a34 ?l34 ?c34 ?k34 ?a35 ?l35 ?c35 ?k35 ?a36 ?l36 ?c36 ?k36 ?a37 ?l37 ?c37 ?k37 ?a38 ?l38 ?c38 ?k38 ?a39 ?l39 ?c39 ?k39 ?pg ?hd ?po ?sa ?mk ?kc ?n0 ?n1 ?n2 ?n3 ?z0 ?z1 ?z2 ?z3 ?z4 ?z5 ?z6 ?z7 ?z8 ?z9 ?z10 ?z11 ?z12 ?z13 ?z14 ?z15 ?z16 ?z17 ?z18 ?z19 ?ao ?lo ?lq2 ?aKd ?lKd ?aWk ?lWk ?aSL ?xzv ?xeh ?xe0 ?xe1 ?xe2 ?xe3 ?xe4 ?xe5 ?xe6 ?xe7 ?xe8 ?xe9 ?j6 ?j5 ?j4 ?xhx ?xha ?xhn ?xhc ?xho ?xhb ?xhk ?oU ?o7 ?oW ?oY ?oV ?oZ ?oX ?oh ?oR ?oO ?oN ?oM ?oK ?oJ ?oH ?oG ?oE ?oA ?cM ?cL ?cJ ?ou ?nP ?nZ ?nR ?nW ?nQ ?nY ?nU ?m7 ?nO ?nM ?nJ ?nH ?nG ?nF ?nC ?nA ?nj ?m9 ?cI ?cH ?cG ?m8
  (case aC=>k_is)
  (case am1=>k_is)
  (case im1=>k_is)
  (case lm1=>k_is)
  (case cm1=>k_is)
  (case km1=>k_is)
  (case am2=>k_is)
  (case im2=>k_is)
  (case lm2=>k_is)
  (case cm2=>k_is)
  (case km2=>k_is)
  (case am3=>k_is)
  (case im3=>k_is)
  (case lm3=>k_is)
  (case cm3=>k_is)
  (case km3=>k_is)
  (case am4=>k_is)
  (case im4=>k_is)
  (case lm4=>k_is)
  (case cm4=>k_is)
  (case km4=>k_is)
  (case am5=>k_is)
  (case im5=>k_is)
  (case lm5=>k_is)
  (case cm5=>k_is)
  (case km5=>k_is)
  (case am6=>k_is)
  (case im6=>k_is)
  (case lm6=>k_is)
  (case cm6=>k_is)
  (case km6=>k_is)
  (case am7=>k_is)
  (case im7=>k_is)
  (case lm7=>k_is)
  (case cm7=>k_is)
  (case km7=>k_is)
  (case am8=>k_is)
  (case im8=>k_is)
  (case lm8=>k_is)
  (case cm8=>k_is)
  (case km8=>k_is)
  (case am9=>k_is)
  (case im9=>k_is)
  (case lm9=>k_is)
  (case cm9=>k_is)
  (case km9=>k_is)
  (case p7=>k_is)
  (case pq=>k_is)
  (case mY=>k_is)
  (case pW=>k_is)
  (case cF=>k_is)
  (case a1=>k_is)
  (case l1=>k_is)
  (case c1=>k_is)
  (case k1=>k_is)
  (case a2=>k_is)
  (case l2=>k_is)
  (case c2=>k_is)
  (case k2=>k_is)
  (case a3=>k_is)
  (case l3=>k_is)
  (case c3=>k_is)
  (case k3=>k_is)
  (case a4=>k_is)
  (case l4=>k_is)
  (case c4=>k_is)
  (case k4=>k_is)
  (case a5=>k_is)
  (case l5=>k_is)
  (case c5=>k_is)
  (case k5=>k_is)
  (case a6=>k_is)
  (case l6=>k_is)
  (case c6=>k_is)
  (case k6=>k_is)
  (case a7=>k_is)
  (case l7=>k_is)
  (case c7=>k_is)
  (case k7=>k_is)
  (case a8=>k_is)
  (case l8=>k_is)
  (case c8=>k_is)
  (case k8=>k_is)
  (case a9=>k_is)
  (case l9=>k_is)
  (case c9=>k_is)
  (case k9=>k_is)
  (case a10=>k_is)
  (case l10=>k_is)
  (case c10=>k_is)
  (case k10=>k_is)
  (case a11=>k_is)
  (case l11=>k_is)
  (case c11=>k_is)
  (case k11=>k_is)
  (case a12=>k_is)
  (case l12=>k_is)
  (case c12=>k_is)
  (case k12=>k_is)
  (case a13=>k_is)
  (case l13=>k_is)
  (case c13=>k_is)
  (case k13=>k_is)
  (case a14=>k_is)
  (case l14=>k_is)
  (case c14=>k_is)
  (case k14=>k_is)
  (case a15=>k_is)
  (case l15=>k_is)
  (case c15=>k_is)
  (case k15=>k_is)
  (case a16=>k_is)
  (case l16=>k_is)
  (case c16=>k_is)
  (case k16=>k_is)
  (case a17=>k_is)
  (case l17=>k_is)
  (case c17=>k_is)
  (case k17=>k_is)
  (case a18=>k_is)
  (case l18=>k_is)
  (case c18=>k_is)
  (case k18=>k_is)
  (case a19=>k_is)
  (case l19=>k_is)
  (case c19=>k_is)
  (case k19=>k_is)
  (case a20=>k_is)
  (case l20=>k_is)
  (case c20=>k_is)
  (case k20=>k_is)
  (case a21=>k_is)
  (case l21=>k_is)
  (case c21=>k_is)
  (case k21=>k_is)
  (case a22=>k_is)
  (case l22=>k_is)
  (case c22=>k_is)
  (case k22=>k_is)
  (case a23=>k_is)
  (case l23=>k_is)
  (case c23=>k_is)
  (case k23=>k_is)
  (case a24=>k_is)
  (case l24=>k_is)
  (case c24=>k_is)
  (case k24=>k_is)
  (case a25=>k_is)
  (case l25=>k_is)
  (case c25=>k_is)
  (case k25=>k_is)
  (case a26=>k_is)
  (case l26=>k_is)
  (case c26=>k_is)
  (case k26=>k_is)
  (case a27=>k_is)
  (case l27=>k_is)
  (case c27=>k_is)
  (case k27=>k_is)
  (case a28=>k_is)
  (case l28=>k_is)
  (case c28=>k_is)
  (case k28=>k_is)
  (case a29=>k_is)
  (case l29=>k_is)
  (case c29=>k_is)
  (case k29=>k_is)
  (case a30=>k_is)
  (case l30=>k_is)
  (case c30=>k_is)
  (case k30=>k_is)
  (case a31=>k_is)
  (case l31=>k_is)
  (case c31=>k_is)
  (case k31=>k_is)
  (case a32=>k_is)
  (case l32=>k_is)
  (case c32=>k_is)
  (case k32=>k_is)
  (case a33=>k_is)
  (case l33=>k_is)
  (case c33=>k_is)
  (case k33=>k_is)
  (case a34=>k_is)
  (case l34=>k_is)
  (case c34=>k_is)
  (case k34=>k_is)
  (case a35=>k_is)
  (case l35=>k_is)
  (case c35=>k_is)
  (case k35=>k_is)
  (case a36=>k_is)
  (case l36=>k_is)
  (case c36=>k_is)
  (case k36=>k_is)
  (case a37=>k_is)
  (case l37=>k_is)
  (case c37=>k_is)
  (case k37=>k_is)
  (case a38=>k_is)
  (case l38=>k_is)
  (case c38=>k_is)
  (case k38=>k_is)
  (case a39=>k_is)
  (case l39=>k_is)
  (case c39=>k_is)
  (case k39=>k_is)
  (case pg=>k_is)
  (case hd=>k_is)
  (case po=>k_is)
  (case sa=>k_is)
  (case mk=>k_is)
  (case kc=>k_is)
  (case n0=>k_is)
  (case n1=>k_is)
  (case n2=>k_is)
  (case n3=>k_is)
  (case z0=>k_is)
  (case z1=>k_is)
  (case z2=>k_is)
  (case z3=>k_is)
  (case z4=>k_is)
  (case z5=>k_is)
  (case z6=>k_is)
  (case z7=>k_is)
  (case z8=>k_is)
  (case z9=>k_is)
  (case z10=>k_is)
  (case z11=>k_is)
  (case z12=>k_is)
  (case z13=>k_is)
  (case z14=>k_is)
  (case z15=>k_is)
  (case z16=>k_is)
  (case z17=>k_is)
  (case z18=>k_is)
  (case z19=>k_is)
  (case ao=>k_is)
  (case lo=>k_is)
  (case lq2=>k_is)
  (case aKd=>k_is)
  (case lKd=>k_is)
  (case aWk=>k_is)
  (case lWk=>k_is)
  (case aSL=>k_is)
  (case xzv=>k_is)
  (case xeh=>k_is)
  (case xe0=>k_is)
  (case xe1=>k_is)
  (case xe2=>k_is)
  (case xe3=>k_is)
  (case xe4=>k_is)
  (case xe5=>k_is)
  (case xe6=>k_is)
  (case xe7=>k_is)
  (case xe8=>k_is)
  (case xe9=>k_is)
  (case j6=>k_is)
  (case j5=>k_is)
  (case j4=>k_is)
  (case xhx=>k_exc)
  (case xha=>k_is)
  (case xhn=>k_is)
  (case xhc=>k_is)
  (case xho=>k_is)
  (case xhb=>k_is)
  (case xhk=>k_is)
  (case oU=>k_exc)
  (case o7=>k_is)
  (case oW=>k_is)
  (case oY=>k_is)
  (case oV=>k_is)
  (case oZ=>k_is)
  (case oX=>k_is)
  (case oh=>k_is)
  (case oR=>kit_is)
  (case oO=>kit_is)
  (case oN=>kit_is)
  (case oM=>kit_is)
  (case oK=>kit_is)
  (case oJ=>kit_is)
  (case oH=>kit_is)
  (case oG=>kit_is)
  (case oE=>kit_is)
  (case oA=>kit_is)
  (case cM=>kit_is)
  (case cL=>kit_is)
  (case cJ=>kit_is)
  (case ou=>kit_is)
  (case nP=>k_exc)
  (case nZ=>k_is)
  (case nR=>k_is)
  (case nW=>k_is)
  (case nQ=>k_is)
  (case nY=>k_is)
  (case nU=>k_is)
  (case m7=>k_is)
  (case nO=>kit_is)
  (case nM=>kit_is)
  (case nJ=>kit_is)
  (case nH=>kit_is)
  (case nG=>kit_is)
  (case nF=>kit_is)
  (case nC=>kit_is)
  (case nA=>kit_is)
  (case nj=>kit_is)
  (case m9=>kit_is)
  (case cI=>kit_is)
  (case cH=>kit_is)
  (case cG=>kit_is)
  (case m8=>kit_is)
