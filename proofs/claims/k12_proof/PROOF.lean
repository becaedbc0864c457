import PyProof.Rows.All
import Wide.All
import OpenK.AllK
import Wide.FinOn
import Lean
import PyProof.EqAt
import PyProof.EqKinds
import PyProof.TupleCall
import PySem.Challenge.RW_warnloop_k12_whole_one_fault
set_option linter.all false
set_option Elab.async false
set_option maxRecDepth 100000
set_option maxHeartbeats 4000000
abbrev YA:=PySem.Value→PySem.Shared→Prop
abbrev YH:=Unit→PySem.Shared→Prop
abbrev YB:=PySem.Str→Option PySem.Value
abbrev YC:=List (PySem.Addr×PySem.Obj)
abbrev YD:=PySem.W.Frag
abbrev YI:=Array (Option PySem.Value)
abbrev YE:=List PySem.Value
abbrev YF:=List PySem.Str
abbrev YJ:=List PySem.Expr
abbrev YK:=Array PySem.DictEntry
local macro_rules|`(tactic|trivial)=>`(tactic|decide +kernel)
open PySem.W (instObj lookIn plainGet hasDictIn findIn isFn makesIn emptyDict keepIn kitOne kia_one fnOf codeIn nsIn mg_of kat_cons mg_none_of)
abbrev Qaa:=@PyProof.Rows.slot_tupleiter_next
abbrev Qab:=@PyProof.Rows.slot_tuple_getitem
abbrev Qac:=@PySem.F.slot_dict_itemiterator_next
abbrev Qad:=@PySem.F.slot_dict_keyiterator_next
abbrev Qae:=@PyProof.Rows.callWith_type1
abbrev Qaf:=@Array.getElem?_eq_some_iff
abbrev Qag:=@List.getElem?_eq_some_iff
abbrev Qah:=@Classical.byContradiction
abbrev Qai:=@List.drop_eq_getElem_cons
abbrev Qaj:=@List.pairwise_iff_getElem
abbrev Qak:=@List.getElem?_eq_getElem
abbrev Qal:=@PySem.F.slot_list_append
abbrev Qam:=@PySem.F.type_list_append
abbrev Qan:=@PySem.F.slot_list_extend
abbrev Qao:=@PySem.F.type_list_extend
abbrev Qap:=@PySem.F.plainAttrs_list
abbrev Qaq:=@PySem.wpAny_callSpecial?_slot
abbrev Qar:=@List.filter_cons_of_neg
abbrev Qas:=@List.filter_cons_of_pos
abbrev Qat:=@List.pairwise_singleton
abbrev Qau:=@PySem.wpAny_getItem_str_slice
abbrev Qav:=@PySem.Heap.get?_push_of_some
abbrev Qaw:=@List.find?_cons_of_neg
abbrev Qax:=@Option.map_eq_some_iff
abbrev Qay:=@List.find?_cons_of_pos
abbrev Qaz:=@PySem.Heap.get?_update_other
abbrev QaA:=@PySem.SeqAt.canLay_of_shaped
abbrev QaB:=@List.mem_append_right
abbrev QaC:=@List.length_singleton
abbrev QaD:=@PySem.F.slot_dict_get
abbrev QaE:=@PySem.Heap.get?_update_self
abbrev QaF:=@List.mem_of_getElem?
abbrev QaG:=@List.mem_cons_of_mem
abbrev QaH:=@List.mem_append_left
abbrev QaI:=@List.getElem?_of_mem
abbrev QaJ:=@PySem.Heap.get?_push_size
abbrev QaK:=@beq_eq_false_iff_ne
abbrev QaL:=@List.map_congr_left
abbrev QaM:=@List.flatMap_append
abbrev QaN:=@Array.length_toList
abbrev QaO:=@Int.toNat_of_nonneg
abbrev QaP:=@PySem.mem_of_lookup
abbrev QaQ:=@PySem.Heap.SameBut.update
abbrev QaR:=@List.filter_sublist
abbrev QaS:=@List.length_append
abbrev QaT:=@List.mem_cons_self
abbrev QaU:=@List.set_cons_zero
abbrev QaV:=@List.set_cons_succ
abbrev QaW:=@Bool.false_ne_true
abbrev QaX:=@List.mem_singleton
abbrev QaZ:=@Nat.lt_of_lt_of_le
abbrev Qba:=@decide_eq_true_iff
abbrev Qbb:=@PySem.wpAny_pyIter_tuple
abbrev Qbc:=@PySem.wpAny_setField_rec
abbrev Qbd:=@List.filter_append
abbrev Qbe:=@of_decide_eq_false
abbrev Qbf:=@Int.emod_lt_of_pos
abbrev Qbg:=@PySem.tupleKind_room_in1
abbrev Qbh:=@PySem.wpAny_Call_Name_kw
abbrev Qbi:=@List.size_toArray
abbrev Qbj:=@of_decide_eq_true
abbrev Qbk:=@List.getElem?_map
abbrev Qbl:=@List.append_assoc
abbrev Qbm:=@Int.toNat_natCast
abbrev Qbn:=@List.flatMap_cons
abbrev Qbo:=@PySem.wpAny_truthy_bool
abbrev Qbp:=@PySem.wpAny_newObj_type
abbrev Qbq:=@List.length_range
abbrev Qbr:=@PySem.wpAny_pyIter_list
abbrev Qbs:=@List.take_length
abbrev Qbt:=@List.length_cons
abbrev Qbu:=@List.length_take
abbrev Qbv:=@List.not_mem_nil
abbrev Qbw:=@PySem.wpAny_call_entry
abbrev Qbx:=@List.length_drop
abbrev Qby:=@Nat.lt_succ_self
abbrev Qbz:=@Bool.and_eq_true
abbrev QbA:=@List.mem_flatMap
abbrev QbB:=@List.length_map
abbrev QbC:=@List.mem_append
abbrev QbD:=@List.map_append
abbrev QbE:=@PySem.PassesOwn.never
abbrev QbF:=@decide_eq_false
abbrev QbG:=@List.append_nil
abbrev QbH:=@Option.some.inj
abbrev QbI:=@List.mem_filter
abbrev QbK:=@List.nodup_cons
abbrev QbL:=@Bool.eq_iff_iff
abbrev QbN:=@PySem.wpAny_passesOwn
abbrev QbO:=@Nat.not_lt_zero
abbrev QbP:=@Int.emod_nonneg
abbrev QbQ:=@List.find?_cons
abbrev QbR:=@decide_eq_true
abbrev QbS:=@PySem.Heap.size_push
abbrev QbT:=@List.mem_range
abbrev QbU:=@List.nodup_nil
abbrev QbV:=@PySem.wpAny_seqItems
abbrev QbW:=@PySem.Paired.length
abbrev QbX:=@List.mem_cons
abbrev QbY:=@List.map_cons
abbrev QbZ:=@Nat.lt_irrefl
abbrev Qca:=@PySem.wpAny_holding
abbrev Qcb:=@List.any_cons
abbrev Qcc:=@PySem.wpAny_standAt
abbrev Qcd:=@PySem.wpAny_attempt
abbrev Qcf:=@PySem.Heap.lt_size
abbrev Qcg:=@List.mem_map
abbrev Qch:=@Nat.ne_of_lt
abbrev Qci:=@Nat.le_trans
abbrev Qcj:=@List.map_map
abbrev Qck:=@Nat.ne_of_gt
abbrev Qcl:=@Nat.le_of_lt
abbrev Qcm:=@List.map_nil
abbrev Qcn:=@Nat.le_refl
abbrev Qco:=@Nat.zero_le
abbrev Qcp:=@PySem.Paired.snoc
abbrev Qcq:=@PySem.wpAny_field
abbrev Qcr:=@PySem.sizeLine_eq
abbrev Qcs:=@Int.le_refl
abbrev Qct:=@Nat.le_succ
abbrev Qcu:=@PySem.wpAny_bind
abbrev Qcv:=@PySem.wpAny_pure
abbrev Qcw:=@PySem.wpAny_mono
abbrev Qcx:=@PyProof.Rows.take_snoc
abbrev Qcy:=@or_false
namespace L2
open PySem PySem.Spec PyProof.Rows
abbrev Key:=Sum Int Str
def SN:Key->Value->Bool
 | .inl k,v=>Value.isInt k v
 | .inr x,v=>Value.isStrOf x v
def ER (w:World):Key->Int
 | .inl k=>hashInt k
 | .inr x=>hashStr w x
theorem Ea:∀{k:Key} {v:Value},SN k v=true->(∃i t,k=Sum.inl i/\v=Value.int i t)\/(∃x t,k=Sum.inr x/\v=Value.str x t)
 | .inl i,v,h=>by
  obtain⟨t,e⟩:=Value.isInt_shape (k:=i) (v:=v) h
  exact .inl ⟨i,t,rfl,e⟩
 | .inr x,v,h=>by
  obtain⟨t,e⟩:=Value.isStrOf_shape (x:=x) (v:=v) h
  exact .inr ⟨x,t,rfl,e⟩
theorem lG (i:Int) (t:Tok):SN (.inl i) (.int i t)=true:=by simp[SN,Value.isInt]
theorem lF (x:Str) (t:Tok):SN (.inr x) (.str x t)=true:=by simp[SN,Value.isStrOf]
theorem yU (a b:Int):decide ((Sum.inl a:Key)=Sum.inl b)=(a == b):=by
 by_cases e:a=b
 ·subst e;simp
 ·have h:¬(Sum.inl a:Key)=Sum.inl b:=λq=>e (Sum.inl.inj q)
  rw[QbF h]
  exact (QaK.mpr e).symm
theorem yQ (a b:Str):decide ((Sum.inr a:Key)=Sum.inr b)=decide (a=b):=by
 by_cases e:a=b
 ·subst e;simp
 ·have h:¬(Sum.inr a:Key)=Sum.inr b:=λq=>e (Sum.inr.inj q)
  rw[QbF h,QbF e]
theorem yS (a:Int) (b:Str):decide ((Sum.inl a:Key)=Sum.inr b)=false:=QbF (λq=>nomatch q)
theorem yR (a:Str) (b:Int):decide ((Sum.inr a:Key)=Sum.inl b)=false:=QbF (λq=>nomatch q)
def CV (prog:Program) (w:World):PySem.KeyKind prog w Key where
 is:=SN
 hash:=ER w
 inj:=λv a b ha hb=>by
  rcases Ea ha with⟨i,t,rfl,rfl⟩|⟨x,t,rfl,rfl⟩
  ·rcases Ea hb with⟨j,u,rfl,e⟩|⟨y,u,rfl,e⟩
   ·injection e with e1 _;rw[e1]
   ·exact nomatch e
  ·rcases Ea hb with⟨j,u,rfl,e⟩|⟨y,u,rfl,e⟩
   ·exact nomatch e
   ·injection e with e1 _;rw[e1]
 byValue:=λk v h=>by
  rcases Ea h with⟨i,t,rfl,rfl⟩|⟨x,t,rfl,rfl⟩ <;> rfl
 pyHash:=λhv h=>by
  rcases Ea hv with⟨i,t,rfl,rfl⟩|⟨x,t,rfl,rfl⟩
  ·exact wpAny_pyHash_int h
  ·exact wpAny_pyHash_str h
 eqBool:=λhu hv h=>by
  rcases Ea hu with⟨i,t,rfl,rfl⟩|⟨x,t,rfl,rfl⟩
  ·rcases Ea hv with⟨j,u,rfl,rfl⟩|⟨y,u,rfl,rfl⟩
   ·rw[yU] at h;exact wpAny_eqBool_int h
   ·rw[yS] at h;exact SeqAt.EqAt.int_str i t y u _ _ _ _ h
  ·rcases Ea hv with⟨j,u,rfl,rfl⟩|⟨y,u,rfl,rfl⟩
   ·rw[yR] at h;exact SeqAt.EqAt.str_int x t j u _ _ _ _ h
   ·rw[yQ] at h;exact wpAny_eqBool_str h
 «strs»:=λk x t v h=>by
  rcases Ea h with⟨i,u,rfl,e⟩|⟨y,u,rfl,e⟩
  ·exact nomatch e
  ·injection e with e1 _
   subst e1
   cases v <;> rfl
theorem bW (prog:Program) (w:World) (i:Int) (t:Tok):(CV prog w).is (.inl i) (.int i t)=true:=lG i t
theorem bV (prog:Program) (w:World) (x:Str) (t:Tok):(CV prog w).is (.inr x) (.str x t)=true:=lF x t
inductive V where
 | non | bl (b:Bool) | int (i:Int) | str (x:Str) | byt (b:Array UInt8) | flt (b:UInt64) | ref (a:Addr) | ty (n:String)
 deriving DecidableEq
def RelV:V->Value->Prop
 | .non,u=>u=Value.none
 | .bl b,u=>u=Value.bool b
 | .int i,u=>∃t,u=Value.int i t
 | .str x,u=>∃t,u=Value.str x t
 | .byt b,u=>∃t,u=Value.bytes b t
 | .flt b,u=>∃t,u=Value.float b t
 | .ref a,u=>u=Value.ref a
 | .ty n,u=>u=Value.type n
abbrev YG:=List V
abbrev Vals:YG->YE->Prop:=Paired RelV
theorem Vals.length {xs:YG} {us:YE} (r:Vals xs us):xs.length=us.length:=QbW r
theorem Vals.get:∀{xs:YG} {us:YE} {i:Nat} {x:V},Vals xs us->xs[i]?=some x->∃u,us[i]?=some u/\RelV x u
 | _,_,_,_,.nil,e=>by simp at e
 | _,_,0,_,.cons r _,e=>by simp at e;subst e;exact⟨_,rfl,r⟩
 | _,_,i+1,x,.cons _ t,e=>by
  obtain⟨u,h1,h2⟩:=Vals.get (i:=i) (x:=x) t (by simpa using e)
  exact⟨u,by simpa using h1,h2⟩
theorem Vals.set {x:V} {u:Value} (r:RelV x u):∀{xs:YG} {us:YE} (i:Nat),Vals xs us->Vals (xs.set i x) (us.set i u)
 | _,_,_,.nil=>.nil
 | _,_,0,.cons _ t=>.cons r t
 | _,_,i+1,.cons q t=>.cons q (Vals.set r i t)
theorem Vals.append:∀{xs ys:YG} {us ws:YE},Vals xs us->Vals ys ws->Vals (xs++ys) (us++ws)
 | _,_,_,_,.nil,s=>s
 | _,_,_,_,.cons r t,s=>.cons r (Vals.append t s)
theorem Vals.take:∀{xs:YG} {us:YE} (n:Nat),Vals xs us->Vals (xs.take n) (us.take n)
 | _,_,0,_=>.nil
 | _,_,_+1,.nil=>.nil
 | _,_,n+1,.cons r t=>.cons r (Vals.take n t)
theorem Vals.drop:∀{xs:YG} {us:YE} (n:Nat),Vals xs us->Vals (xs.drop n) (us.drop n)
 | _,_,0,r=>r
 | _,_,_+1,.nil=>.nil
 | _,_,n+1,.cons _ t=>Vals.drop n t
def G5:Option V->Option Value->Prop
 | some v,some u=>RelV v u
 | none,none=>True
 | _,_=>False
def KV {κ : Type}:List (κ×V)->List (κ×Value)->Prop:=Paired λ(p:κ×V) (q:κ×Value)=>p.1=q.1/\RelV p.2 q.2
def kV:Key->V
 | .inl i=>.int i
 | .inr x=>.str x
inductive HO where
 | lst (xs:YG)
 | tup (xs:YG)
 | dK (kvs:List (Key×V)) | dT (kvs:List (List Key×V))
 | set (S:Int->Bool) (n:Nat)
 | ins (C dx:Addr) (fs:List (Str×V))
 | own (x:Addr)
 | xd (fs:List (Str×V))
 | met (f x:Addr)
 | rng (lo hi:Int)
 | frz (o:Obj) (u:HO)
 | tbl (ps:Array Value)
 | ext (φ : Heap->Prop)
abbrev Hp:=Addr->Option HO
def upd (H:Hp) (a:Addr) (o:HO):Hp:=λb=>if b=a then some o else H b
theorem Ab {H:Hp} {a:Addr} {o:HO}:upd H a o a=some o:=by unfold upd;rw[if_pos rfl]
theorem Am {H:Hp} {a b:Addr} {o:HO} (h:b≠a):upd H a o b=H b:=by unfold upd;rw[if_neg h]
theorem Sg {H:Hp} {a:Addr} {o u:HO}:upd (upd H a o) a u=upd H a u:=by
 funext b;unfold upd;split <;> rfl
theorem tW {H:Hp} {a b:Addr} {o u:HO} (h:H a=some o) (h':H b=some u) (d:o≠u):a≠b:=by
 intro e;subst e;rw[h] at h';exact d (QbH h')
theorem Bb {H:Hp} {a b:Addr} {o:HO} (h:H a=some o) (h':H b=none):a≠b:=by
 intro e;subst e;rw[h] at h';cases h'
section
variable (P:Program) (w:World)
def Bv (H:Hp) (h:Heap) (a:Addr):HO->Prop
 | .lst xs=>xs.length<=sizeLine/\∃(its:YE) (n:Nat),Vals xs its/\h.get? a=some { cls:=.type "list",data:=.seq its.toArray n }
 | .tup xs=>xs.length<=sizeLine/\∃its:YE,Vals xs its/\IsTup h a its.toArray
 | .dK kvs=>kvs.length<=sizeLine/\(a == sysModules)=false/\∃vs,KV kvs vs/\h.DictOf (CV P w) a vs
 | .dT kvs=>kvs.length<=sizeLine/\(a == sysModules)=false/\∃xs:List (List Key×Addr×Value),
   Paired (λ(p:List Key×V) (q:List Key×Addr×Value)=>p.1=q.1/\H q.2.1=some (.tup (p.1.map kV))/\RelV p.2 q.2.2) kvs xs /\
   ∃o es ep,h.get? a=some o/\o.ExactDict/\o.data=.dict es ep/\es.toList=xs.map (entryOfKey (tupleKind (CV P w)))/\(xs.map (·.1)).Nodup
 | .set S n=>h.SetOf (intKind P w) a S n
 | .ins C dx fs=>H dx=some (.own a)/\fs.length<=1000/\dx≠a/\h.get? a=some (instObj C dx) /\
   ∃mA,h.Ns1 dx mA/\(∀f,G5 (fs.lookup f) (mA f))/\PySem.Within mA (fs.map (·.1))
 | .own _=>∃o,h.get? a=some o
 | .xd fs=>∃mA,h.Ns1 a mA/\∀f,G5 (fs.lookup f) (mA f)
 | .rng lo hi=>∃t u v,h.get? a=some { cls:=.type "range",data:=.fields #[.int lo t,.int hi u,.int 1 v] }
 | .frz o u=>h.get? a=some o/\Bv H h a u
 | .tbl ps=>h.get? a=some { cls:=.none,data:=.fields ps }
 | .met f x=>h.get? a=some (PySem.W.methodObj (.ref f) (.ref x))
 | .ext φ=>φ h/\(∃o,h.get? a=some o)/\∀h1 h2:Heap,φ h1->(∀o,h1.get? a=some o->h2.get? a=some o)->φ h2
def HOk (H:Hp) (h:Heap):Prop:=∀a o,H a=some o->Bv P w H h a o
end
section
variable {P:Program} {w:World} {H H':Hp} {h h':Heap} {a:Addr} {o:HO}
theorem Bv.lt (x:Bv P w H h a o):a < h.objs.size:=by
 cases o with
 | lst xs=>obtain⟨_,_,_,_,e⟩:=x;exact Qcf e
 | tup xs=>obtain⟨_,_,_,p⟩:=x;exact p.lt
 | dK kvs=>obtain⟨_,_,_,_,o,_,_,e,_⟩:=x;exact Qcf e
 | dT kvs=>obtain⟨_,_,_,_,o,_,_,e,_⟩:=x;exact Qcf e
 | set S n=>obtain⟨o,_,_,_,e,_⟩:=x;exact Qcf e
 | ins C dx fs=>obtain⟨_,_,_,e,_⟩:=x;exact Qcf e
 | own y=>obtain⟨_,e⟩:=x;exact Qcf e
 | xd fs=>obtain⟨_,⟨_,_,_,e,_⟩,_⟩:=x;exact Qcf e
 | rng lo hi=>obtain⟨_,_,_,e⟩:=x;exact Qcf e
 | frz ob u=>obtain⟨e,_⟩:=x;exact Qcf e
 | tbl ps=>exact Qcf (show h.get? a=some _ from x)
 | met f y=>exact Qcf (show h.get? a=some _ from x)
 | ext φ=>obtain⟨_,⟨_,e⟩,_⟩:=x;exact Qcf e
theorem Paired.Av {α β : Type} {F G:α->β->Prop}:∀{l₁ : List α} {l₂ : List β},Paired F l₁ l₂->(∀a b,F a b->G a b)->Paired G l₁ l₂
 | _,_,.nil,_=>.nil
 | _,_,.cons r t,f=>.cons (f _ _ r) (Paired.Av t f)
theorem Bv.stay (x:Bv P w H h a o) (k:∀b u,(b=a\/H b=some (.own a))->h.get? b=some u->h'.get? b=some u)
  (ho:∀b,H b=some (.own a)->H' b=some (.own a)) (ht:∀b xs,H b=some (.tup xs)->H' b=some (.tup xs)):Bv P w H' h' a o:=by
 induction o with
 | lst xs=>obtain⟨z,its,n,r,e⟩:=x;exact⟨z,its,n,r,k _ _ (.inl rfl) e⟩
 | tup xs=>obtain⟨z,its,r,ob,e,c⟩:=x;exact⟨z,its,r,ob,k _ _ (.inl rfl) e,c⟩
 | dK kvs=>obtain⟨z,y,vs,r,ob,es,ep,e,c⟩:=x;exact⟨z,y,vs,r,ob,es,ep,k _ _ (.inl rfl) e,c⟩
 | dT kvs=>
  obtain⟨z,y,xs,r,ob,es,ep,e,c⟩:=x
  exact⟨z,y,xs,Paired.Av r λp q z=>⟨z.1,ht _ _ z.2.1,z.2.2⟩,ob,es,ep,k _ _ (.inl rfl) e,c⟩
 | set S n=>obtain⟨ob,es,ep,t,e,c⟩:=x;exact⟨ob,es,ep,t,k _ _ (.inl rfl) e,c⟩
 | ins C dx fs=>
  obtain⟨d,z,ne,e,mA,⟨od,es,ep,e2,c⟩,r⟩:=x
  exact⟨ho _ d,z,ne,k _ _ (.inl rfl) e,mA,⟨od,es,ep,k _ _ (.inr d) e2,c⟩,r⟩
 | own y=>obtain⟨ob,e⟩:=x;exact⟨ob,k _ _ (.inl rfl) e⟩
 | xd fs=>obtain⟨mA,⟨od,es,ep,e,c⟩,r⟩:=x;exact⟨mA,⟨od,es,ep,k _ _ (.inl rfl) e,c⟩,r⟩
 | rng lo hi=>obtain⟨t,u,v,e⟩:=x;exact⟨t,u,v,k _ _ (.inl rfl) e⟩
 | frz ob u ih=>obtain⟨e,q⟩:=x;exact⟨k _ _ (.inl rfl) e,ih q⟩
 | tbl ps=>
  have e:h.get? a=some { cls:=.none,data:=.fields ps }:=x
  show h'.get? a=some { cls:=.none,data:=.fields ps }
  exact k a _ (.inl rfl) e
 | met f y=>
  have e:h.get? a=some (PySem.W.methodObj (.ref f) (.ref y)):=x
  show h'.get? a=some (PySem.W.methodObj (.ref f) (.ref y))
  exact k a _ (.inl rfl) e
 | ext φ=>obtain⟨p,⟨o,e⟩,st⟩:=x;exact⟨st _ _ p λo q=>k _ _ (.inl rfl) q,⟨o,k _ _ (.inl rfl) e⟩,st⟩
theorem HOk.lt (x:HOk P w H h) (e:H a=some o):a < h.objs.size:=(x a o e).lt
theorem HOk.fresh (x:HOk P w H h) (e:h.objs.size<=a):H a=none:=by
 cases q:H a with
 | none=>rfl
 | some u=>exact absurd (QaZ (x.lt q) e) (QbZ _)
theorem HOk.kept (x:HOk P w H h) (k:∀b u,h.get? b=some u->h'.get? b=some u):HOk P w H h':=λa o e=>
 (x a o e).stay (λb u _ q=>k b u q) (λ_ q=>q) λ_ _ q=>q
theorem HOk.laid (x:HOk P w H h) (k:∀b u,h.get? b=some u->h'.get? b=some u) (hp:h.objs.size<=a) (new:Bv P w (upd H a o) h' a o):HOk P w (upd H a o) h':=λb u e=>by
 have hn:=x.fresh hp
 by_cases hb:b=a
 ·subst hb;rw[Ab] at e;cases e;exact new
 ·rw[Am hb] at e
  exact (x b u e).stay (λc v _ q=>k c v q) (λc q=>by rw[Am (Bb q hn)];exact q) λc xs q=>by rw[Am (Bb q hn)];exact q
end
def Rd (H:Hp) (a:Addr) (u:HO):Prop:=H a=some u\/∃o,H a=some (.frz o u)
theorem Rd.ok {P:Program} {w:World} {H:Hp} {h:Heap} {a:Addr} {u:HO} (r:Rd H a u) (x:HOk P w H h):Bv P w H h a u:=by
 rcases r with r |⟨o,r⟩
 ·exact x a u r
 ·obtain⟨_,q⟩:=x a _ r
  exact q
def Mut:Option HO->Prop
 | some (.lst _)=>True
 | some (.dK _)=>True
 | some (.dT _)=>True
 | some (.set _ _)=>True
 | some (.ins _ _ _)=>True
 | some (.ext _)=>True
 | _=>False
section
variable {P:Program} {w:World} {H:Hp} {h h':Heap} {x e:Addr} {o':HO}
theorem HOk.write (ok:HOk P w H h) (mu:Mut (H x)) (he:e=x\/H e=some (.own x)) (k:∀b u,b≠e->h.get? b=some u->h'.get? b=some u) (heo:∃u,h'.get? e=some u)
  (new:Bv P w (upd H x o') h' x o'):HOk P w (upd H x o') h':=λb u q=>by
 have yG:∀c y,H c=some (.own y)->c≠x:=λc y r z=>by subst z;rw[r] at mu;exact mu
 have Ib:∀c xs,H c=some (.tup xs)->c≠x:=λc xs r z=>by subst z;rw[r] at mu;exact mu
 by_cases hb:b=x
 ·subst hb;rw[Ab] at q;cases q;exact new
 ·rw[Am hb] at q
  by_cases hbe:b=e
  ·have q':H b=some (.own x):=by
    rcases he with z | z
    ·exact absurd (hbe.trans z) hb
    ·rw[hbe];exact z
   rw[q] at q';cases q'
   obtain⟨v,hv⟩:=heo
   exact⟨v,by rw[hbe];exact hv⟩
  ·refine (ok b u q).stay (λc v hc r=>k c v ?_ r) (λc r=>by rw[Am (yG c b r)];exact r) λc xs r=>by rw[Am (Ib c xs r)];exact r
   rcases hc with rfl | hc
   ·exact hbe
   ·rintro rfl
    rcases he with z | z
    ·exact yG c b hc z
    ·rw[hc] at z;cases z;exact hb rfl
end
structure Un (fs ex:List Addr) (H H':Hp) (h h':Heap):Prop where
 keep:∀b o,h.get? b=some o->H b=none->b∉fs->b∉ex->h'.get? b=some o
 slot:∀b o,h.get? b=some o->H b=none->b∈fs->b∉ex->∃sl,h'.get? b=some { o with slots:=sl }
 free:∀b o,h.get? b=some o->H b=none->b∉ex->H' b=none
 there:∀b o,h.get? b=some o->b∉ex->∃o',h'.get? b=some o'
 tups:∀b xs,H b=some (.tup xs)->H' b=some (.tup xs)
 LQ:∀b o u,H b=some (.frz o u)->H' b=some (.frz o u)
 MK:∀b ps,H b=some (.tbl ps)->∃more,H' b=some (.tbl (ps++more))
section
variable {fs fs' ex ex':List Addr} {H H1 H2:Hp} {h h1 h2 h':Heap} {a x e:Addr} {o:HO}
theorem Un.any (u:Un fs ex H H1 h h1) {b:Addr} {ob:Obj} (q:h.get? b=some ob) (n:H b=none) (hx:b∉ex):∃sl,h1.get? b=some { ob with slots:=sl }:=by
 by_cases hb:b∈fs
 ·exact u.slot b ob q n hb hx
 ·exact⟨ob.slots,u.keep b ob q n hb hx⟩
theorem Un.kept (k:∀b u,h.get? b=some u->h'.get? b=some u):Un fs ex H H h h':=
 ⟨λb ob q _ _ _=>k b ob q,λb ob q _ _ _=>⟨ob.slots,k b ob q⟩,λ_ _ _ n _=>n,λb ob q _=>⟨ob,k b ob q⟩,λ_ _ q=>q,λ_ _ _ q=>q,λ_ ps q=>⟨#[],by rw[q];simp⟩⟩
theorem Un.refl:Un fs ex H H h h:=Un.kept λ_ _ q=>q
theorem Un.laid (k:∀b u,h.get? b=some u->h'.get? b=some u) (hp:h.objs.size<=a) (hn:H a=none):Un fs ex H (upd H a o) h h' where
 keep:=λb u q _ _ _=>k b u q
 slot:=λb u q _ _ _=>⟨u.slots,k b u q⟩
 free:=λb u q n _=>by rw[Am (Qch (QaZ (Qcf q) hp))];exact n
 there:=λb u q _=>⟨u,k b u q⟩
 tups:=λb xs q=>by rw[Am (Bb q hn)];exact q
 LQ:=λb u xs q=>by rw[Am (Bb q hn)];exact q
 MK:=λb ps q=>⟨#[],by rw[Am (Bb q hn),q];simp⟩
theorem Un.write (mu:Mut (H x)) (he:e=x\/H e=some (.own x)) (k:∀b u,b≠e->h.get? b=some u->h'.get? b=some u) (heo:∃u,h'.get? e=some u):Un fs ex H (upd H x o) h h':=by
 have hx:∀b,H b=none->b≠x:=λb n z=>by subst z;rw[n] at mu;exact mu
 have hb:∀b,H b=none->b≠e:=λb n z=>by
  subst z
  rcases he with r | r
  ·exact hx b n r
  ·rw[n] at r;cases r
 have hm:∀b u,H b=some u->¬Mut (some u)->b≠x:=λb u q nm z=>by subst z;rw[q] at mu;exact nm mu
 refine⟨λb u q n _ _=>k b u (hb b n) q,λb u q n _ _=>⟨u.slots,k b u (hb b n) q⟩,λb u q n _=>by rw[Am (hx b n)];exact n,λb u q _=>?_,
  λb xs q=>by rw[Am (hm b _ q λz=>z)];exact q,λb u xs q=>by rw[Am (hm b _ q λz=>z)];exact q,λb ps q=>⟨#[],by rw[Am (hm b _ q λz=>z),q];simp⟩⟩
 by_cases hbe:b=e
 ·subst hbe;exact heo
 ·exact⟨u,k b u hbe q⟩
end
def trk (h:Heap) (H:Hp):List Addr:=(List.range h.objs.size).filter λa=>(H a).isSome
def Qo (h:Heap) (H:Hp):Heap:=PySem.W.hideAll h (trk h H)
theorem lQ (h:Heap) (H:Hp):(Qo h H).objs.size=h.objs.size:=PySem.W.hideAll_size _ _
theorem qT {h:Heap} {H:Hp} {b:Addr} {o:Obj} (e:h.get? b=some o) (n:H b=none):(Qo h H).get? b=some o:=
 PySem.W.hideAll_get _ e λhm=>by
  have q:(H b).isSome=true:=(QbI.mp hm).2
  rw[n] at q;simp at q
theorem vI {h:Heap} {H:Hp} {b:Addr} {o:Obj} (e:(Qo h H).get? b=some o):h.get? b=some o/\H b=none:=by
 have e':h.get? b=some o:=PySem.W.of_hideAll (trk h H) e
 refine⟨e',?_⟩
 cases q:H b with
 | none=>rfl
 | some x=>
  have hm:b∈trk h H:=QbI.mpr ⟨QbT.mpr (Qcf e'),by simp[q]⟩
  have z:(Qo h H).get? b=none:=PySem.W.hideAll_none (trk h H) hm
  rw[z] at e;cases e
def Tg (g h:Heap) (L:Addr):YC:=(List.range h.objs.size).filterMap λa=>if a=L\/(g.get? a).isSome=true then none else (h.get? a).map λo=>(a,o)
theorem OD {g h:Heap} {L a:Addr} {o:Obj} (h1:a≠L) (h2:g.get? a=none) (h3:h.get? a=some o):(a,o)∈Tg g h L:=
 List.mem_filterMap.mpr ⟨a,QbT.mpr (Qcf h3),by simp[h1,h2,h3]⟩
theorem Wx {g h:Heap} {L:Addr} {p:Addr×Obj} (hp:p∈Tg g h L):p.1≠L/\g.get? p.1=none/\h.get? p.1=some p.2:=by
 obtain⟨b,_,e⟩:=List.mem_filterMap.mp hp
 split at e
 ·cases e
 ·rename_i hn
  cases q:h.get? b with
  | none=>rw[q] at e;simp at e
  | some u=>
   rw[q] at e
   simp only[Option.map_some,Option.some.injEq] at e
   subst e
   refine⟨λz=>hn (.inl z),?_,q⟩
   show g.get? b=none
   cases r:g.get? b with
   | none=>rfl
   | some v=>exact (hn (.inr (by simp[r]))).elim
def rest (g h:Heap) (L d:Addr):YC:=(Tg g h L).filter λp=>decide (p.1≠d)
theorem qH {g h:Heap} {L:Addr}:News g L h (Tg g h L):=λp hp=>let ⟨a,b,c⟩:=Wx hp;⟨c,a,b⟩
structure Mod (K:YD) (mg:YB) (base:Heap):Prop where
 kin:K.In base
 glob:base.Ns mainGlobals mg
 blt:∃mb,base.Ns builtinsNs mb/\∀x:Str,x≠"__name__"->mb x=bootBuiltins x
 nolimit:base.NoLimit
structure Cx where
 prog:Program
 w:World
 K:YD
 mg:YB
 base:Heap
 A:Around
 N:YF
 s₀ : Shared
 H₀ : Hp
 env:Env
 outer:List Env
 stack:List Env
 ex:List Addr
 fn:Str->Bool
 calm:Bool
 pn:YC
 xe:YA
def frs (l:List Env):List Addr:=l.filterMap (·.frame)
abbrev Cx.fs (X:Cx):List Addr:=frs X.outer
def Vis (sc:Scope) (x:Str):Prop:=sc.names.lookup x=some .local\/sc.names.lookup x=some .cell\/sc.names.lookup x=some .free
def Loc (sc:Scope) (x:Str):Prop:=sc.names.lookup x=some .local\/sc.names.lookup x=some .cell
def Look (env:Env) (h:Heap) (m:YB) (x:Str) (u:Value):Prop:=
 (env.kindOf x=some .local/\m x=some u)\/((env.kindOf x=some .cell\/env.kindOf x=some .free)/\∃c,env.cells.lookup x=some c/\h.IsCell c (some u))
structure Cx.Ok (X:Cx):Prop where
 mod:Mod X.K X.mg X.base
 kind:X.env.scope.kind=.function
 glob:X.env.globals=mainGlobals
 blt:X.env.builtins=builtinsNs
 above:X.s₀.heap.objs.size<=X.env.locals
 inj:∀x y c,X.env.cells.lookup x=some c->X.env.cells.lookup y=some c->x=y
 has:∀x,(X.env.kindOf x=some .cell\/X.env.kindOf x=some .free)->∃c,X.env.cells.lookup x=some c
 cab:∀x c,X.fn x=true->X.env.cells.lookup x=some c->X.s₀.heap.objs.size<=c
 hd:X.calm=true->X.A.handled=none
 frames:X.A.frames=some X.stack
 stk:X.stack=X.outer\/(X.stack=X.env::X.outer/\X.env.frame=some X.env.locals)
 exf:∀b∈X.ex,b≠X.env.locals/\∀x c,X.env.cells.lookup x=some c->c≠b
 bs:∀b o,X.base.get? b=some o->X.s₀.heap.get? b=some o/\X.H₀ b=none
 bsz:X.base.objs.size<=X.s₀.heap.objs.size
 Wz:∀b o,X.base.get? b=some o->b∉X.ex
 RG:∀b∈X.ex,b∉X.fs
 JW:X.s₀.heap.FunFrames X.base X.outer
 frf:∀b∈X.fs,X.H₀ b=none
structure Inv (X:Cx) (pins:YC) (σ : List (Option V)) (H:Hp) (s:Shared):Prop where
 ok:X.Ok
 os:s.os=X.s₀.os
 bare:AllBare s.gens
 base:Un X.fs X.ex X.H₀ H X.s₀.heap s.heap
 loc:∃m,s.heap.Ns X.env.locals m/\∀(i:Nat) (x:Str) (v:V),X.N[i]?=some x->σ[i]?=some (some v)->Vis X.env.scope x->∃u,RelV v u/\Look X.env s.heap m x u
 cell:∀x c,X.env.cells.lookup x=some c->∃v,s.heap.IsCell c v
 free:H X.env.locals=none
 HN:∀x c,X.env.cells.lookup x=some c->H c=none
 pin:∀p∈X.pn++pins,s.heap.get? p.1=some p.2/\H p.1=none/\p.1≠X.env.locals/\p.1∉X.fs/\∀v,p.2.data≠.cell v
 hok:HOk X.prog X.w H s.heap
 len:σ.length=X.N.length
section
variable {X:Cx} {pins:YC} {σ : List (Option V)} {H H':Hp} {s:Shared} {h':Heap}
theorem Cx.Ok.CB (ok:X.Ok) {b:Addr} {o:Obj} (e:X.base.get? b=some o):b∉X.fs:=λhb=>by
 have:=(ok.JW.mem hb).1
 rw[e] at this;cases this
theorem Inv.bs (I:Inv X pins σ H s):∀b o,X.base.get? b=some o->s.heap.get? b=some o/\H b=none:=λb o e=>
 ⟨I.base.keep b o (I.ok.bs b o e).1 (I.ok.bs b o e).2 (I.ok.CB e) (I.ok.Wz b o e),I.base.free b o (I.ok.bs b o e).1 (I.ok.bs b o e).2 (I.ok.Wz b o e)⟩
theorem Inv.bk (I:Inv X pins σ H s):∀b o,X.base.get? b=some o->s.heap.get? b=some o:=λb o e=>(I.bs b o e).1
theorem Inv.mod (I:Inv X pins σ H s):Mod X.K X.mg X.base:=I.ok.mod
theorem Inv.kIn (I:Inv X pins σ H s):X.K.In s.heap:=I.ok.mod.kin.keeps I.bk
theorem Inv.nolimit (I:Inv X pins σ H s):s.heap.NoLimit:=I.ok.mod.nolimit.keeps I.bk
theorem Inv.fr (I:Inv X pins σ H s):∃m,Fr X.base X.env.locals s.heap m:=
 let ⟨m,hn,_⟩:=I.loc
 ⟨m,hn,I.bk,Qci I.ok.bsz I.ok.above⟩
theorem Inv.lt (I:Inv X pins σ H s):X.env.locals < s.heap.objs.size:=let ⟨_,hn,_⟩:=I.loc;hn.lt
theorem Inv.sz (I:Inv X pins σ H s):X.s₀.heap.objs.size<=s.heap.objs.size:=Qci I.ok.above (Qcl I.lt)
theorem Inv.qF (I:Inv X pins σ H s) {a:Addr} (h:s.heap.objs.size<=a):a∉X.fs:=λhb=>by
 obtain⟨_,o,ho,_⟩:=I.ok.JW.mem hb
 exact absurd (QaZ (Qcf ho) (Qci I.sz h)) (QbZ _)
theorem Inv.cne (I:Inv X pins σ H s):∀x c,X.env.cells.lookup x=some c->c≠X.env.locals:=λx c e z=>by
 obtain⟨v,o,ho,hd⟩:=I.cell x c e
 obtain⟨m,⟨o',es,ep,ho',hd',_⟩,_⟩:=I.loc
 rw[z,ho'] at ho;cases ho;rw[hd'] at hd;cases hd
theorem Inv.JW (I:Inv X pins σ H s):s.heap.FunFrames X.base X.outer:=by
 have all:∀(l:List Env),(∀b∈frs l,b∈X.fs)->X.s₀.heap.FunFrames X.base l->s.heap.FunFrames X.base l:=by
  intro l
  induction l with
  | nil=>intro _ _;trivial
  | cons env r ih=>
   intro hs hl
   obtain⟨hk,⟨L,o,hf,hn,ho,hd⟩,hr⟩:=hl
   have hL:L∈X.fs:=hs L (by unfold frs;rw[List.filterMap_cons,hf];exact QaT)
   obtain⟨sl,e⟩:=I.base.slot L o ho (I.ok.frf L hL) hL λz=>I.ok.RG L z hL
   exact⟨hk,⟨L,_,hf,hn,e,hd⟩,ih (λb hb=>hs b (by unfold frs;rw[List.filterMap_cons,hf];exact QaG _ hb)) hr⟩
 exact all X.outer (λ_ hb=>hb) I.ok.JW
theorem Inv.stack (I:Inv X pins σ H s):s.heap.FunFrames X.base X.stack:=by
 rcases I.ok.stk with e |⟨e,hf⟩
 ·rw[e];exact I.JW
 ·rw[e]
  obtain⟨m,hn,_⟩:=I.loc
  refine .cons (by rw[I.ok.kind];decide) hf hn ?_ I.JW
  exact Heap.get?_none_of_le (Qci I.ok.bsz I.ok.above)
theorem Inv.YW (I:Inv X pins σ H s):∀b∈frs X.stack,b∈X.env.locals::X.fs:=λb hb=>by
 rcases I.ok.stk with e |⟨e,hf⟩
 ·rw[e] at hb;exact QaG _ hb
 ·rw[e] at hb
  unfold frs at hb
  rw[List.filterMap_cons,hf] at hb
  exact hb
theorem Inv.cZ (I:Inv X pins σ H s):∀b∈frs X.stack,H b=none:=λb hb=>by
 rcases QbX.mp (I.YW b hb) with e | hb
 ·rw[e];exact I.free
 ·obtain⟨_,o,ho,_⟩:=I.ok.JW.mem hb
  exact I.base.free b o ho (I.ok.frf b hb) λz=>I.ok.RG b z hb
theorem Inv.step {g':Array GenState} {t':Nat} {d':Drawn} {ch:List Addr} (I:Inv X pins σ H s)
  (hch:∀b∈ch,(b∈X.ex\/X.s₀.heap.objs.size<=b)/\b≠X.env.locals/\(∀x c,X.env.cells.lookup x=some c->c≠b)/\∀p∈X.pn++pins,p.1≠b)
  (keep:∀b o,b≠X.env.locals->b∉X.fs->b∉ch->s.heap.get? b=some o->H b=none->h'.get? b=some o)
  (slot:∀b o,b≠X.env.locals->b∈X.fs->b∉ch->s.heap.get? b=some o->H b=none->∃sl,h'.get? b=some { o with slots:=sl }) (free:∀b o,b∉ch->s.heap.get? b=some o->H b=none->H' b=none)
  (there:∀b o,b∉ch->s.heap.get? b=some o->∃o',h'.get? b=some o')
  (tups:∀b xs,H b=some (.tup xs)->H' b=some (.tup xs)) (LQ:∀b o u,H b=some (.frz o u)->H' b=some (.frz o u)) (MK:∀b ps,H b=some (.tbl ps)->∃more,H' b=some (.tbl (ps++more)))
  (ns:∀m,s.heap.Ns X.env.locals m->h'.Ns X.env.locals m) (hok:HOk X.prog X.w H' h') (hg:AllBare g') :
  Inv X pins σ H' { s with heap:=h',gens:=g',drawn:=d',toks:=t' }:=by
 have neL:∀b o,X.s₀.heap.get? b=some o->b≠X.env.locals:=λb o e=>Qch (QaZ (Qcf e) I.ok.above)
 have neC:∀b o,X.s₀.heap.get? b=some o->b∉X.ex->b∉ch:=λb o e hx hb=>by
  rcases (hch b hb).1 with z | z
  ·exact hx z
  ·exact absurd (QaZ (Qcf e) z) (QbZ _)
 have cellK:∀x c,X.env.cells.lookup x=some c->∀v,s.heap.IsCell c v->h'.IsCell c v:=λx c e v ⟨o,ho,hd⟩=>by
  have nch:c∉ch:=λz=>(hch c z).2.2.1 x c e rfl
  by_cases hc:c∈X.fs
  ·obtain⟨sl,q⟩:=slot c o (I.cne x c e) hc nch ho (I.HN x c e)
   exact⟨_,q,hd⟩
  ·exact⟨o,keep c o (I.cne x c e) hc nch ho (I.HN x c e),hd⟩
 refine⟨I.ok,I.os,hg,⟨λb o e n hb hx=>?_,λb o e n hb hx=>?_,λb o e n hx=>?_,λb o e hx=>?_,λb xs e=>tups b xs (I.base.tups b xs e),λb o xs e=>LQ b o xs (I.base.LQ b o xs e),λb ps e=>?_⟩,?_,λx c e=>?_,?_,λx c e=>?_,λp hp=>?_,hok,I.len⟩
 ·exact keep b o (neL b o e) hb (neC b o e hx) (I.base.keep b o e n hb hx) (I.base.free b o e n hx)
 ·obtain⟨sl,e1⟩:=I.base.slot b o e n hb hx
  obtain⟨sl',e2⟩:=slot b _ (neL b o e) hb (neC b o e hx) e1 (I.base.free b o e n hx)
  exact⟨sl',e2⟩
 ·obtain⟨o',e1⟩:=I.base.there b o e hx
  exact free b o' (neC b o e hx) e1 (I.base.free b o e n hx)
 ·obtain⟨o',e1⟩:=I.base.there b o e hx
  exact there b o' (neC b o e hx) e1
 ·obtain⟨m1,e1⟩:=I.base.MK b ps e
  obtain⟨m2,e2⟩:=MK b _ e1
  exact⟨m1++m2,by rw[e2,Array.append_assoc]⟩
 ·obtain⟨m,hn,hl⟩:=I.loc
  refine⟨m,ns m hn,λi x v e1 e2 e3=>?_⟩
  obtain⟨u,r,l⟩:=hl i x v e1 e2 e3
  refine⟨u,r,?_⟩
  rcases l with l |⟨k,c,e,z⟩
  ·exact .inl l
  ·exact .inr ⟨k,c,e,cellK x c e _ z⟩
 ·obtain⟨v,z⟩:=I.cell x c e
  exact⟨v,cellK x c e v z⟩
 ·obtain⟨m,⟨o,_,_,ho,_⟩,_⟩:=I.loc
  exact free _ o (λz=>(hch _ z).2.1 rfl) ho I.free
 ·obtain⟨v,o,ho,hd⟩:=I.cell x c e
  exact free c o (λz=>(hch c z).2.2.1 x c e rfl) ho (I.HN x c e)
 ·obtain⟨e,n,ne,nf,d⟩:=I.pin p hp
  have nch:p.1∉ch:=λz=>(hch p.1 z).2.2.2 p hp rfl
  exact⟨keep p.1 p.2 ne nf nch e n,free p.1 p.2 nch e n,ne,nf,d⟩
theorem Inv.un {t':Nat} (I:Inv X pins σ H s) (u:Un X.fs [] H H' s.heap h') (hok:HOk X.prog X.w H' h'):Inv X pins σ H' { s with heap:=h',toks:=t' }:=by
 obtain⟨m,⟨o,es,ep,ho,r⟩,_⟩:=id I.loc
 obtain⟨sl,hL⟩:=u.any ho I.free (by simp)
 exact I.step (g':=s.gens) (d':=s.drawn) (ch:=[]) (λ_ z=>nomatch z) (λb o _ hb _ e n=>u.keep b o e n hb (by simp)) (λb o _ hb _ e n=>u.slot b o e n hb (by simp)) (λb o _ e n=>u.free b o e n (by simp)) (λb o _ e=>u.there b o e (by simp)) u.tups u.LQ u.MK (λm' hm=>by
  obtain⟨o',es',ep',ho',r'⟩:=hm
  rw[ho] at ho';cases ho'
  exact⟨_,es',ep',hL,r'⟩) hok I.bare
theorem Inv.call {g':Array GenState} {t':Nat} {d':Drawn} {ch:List Addr} (I:Inv X pins σ H s) (u:Un (frs X.stack) ch H H' s.heap h') (hok:HOk X.prog X.w H' h') (hg:AllBare g')
  (hch:∀b∈ch,(b∈X.ex\/X.s₀.heap.objs.size<=b)/\b≠X.env.locals/\(∀x c,X.env.cells.lookup x=some c->c≠b)/\∀p∈X.pn++pins,p.1≠b) :
  Inv X pins σ H' { s with heap:=h',gens:=g',drawn:=d',toks:=t' }:=by
 obtain⟨m,⟨o,es,ep,ho,r⟩,_⟩:=id I.loc
 obtain⟨sl,hL⟩:=u.any ho I.free λz=>(hch _ z).2.1 rfl
 exact I.step (ch:=ch) hch (λb o hL hb hc e n=>u.keep b o e n (λz=>(QbX.mp (I.YW b z)).elim hL hb) hc) (λb o _ _ hc e n=>u.any e n hc) (λb o hc e n=>u.free b o e n hc) (λb o hc e=>u.there b o e hc) u.tups u.LQ u.MK (λm' hm=>by
  obtain⟨o',es',ep',ho',r'⟩:=hm
  rw[ho] at ho';cases ho'
  exact⟨_,es',ep',hL,r'⟩) hok hg
theorem Inv.turned {t':Nat} {it:Addr} (I:Inv X pins σ H s) (k:∀b o,b≠it->s.heap.get? b=some o->h'.get? b=some o) (hn:H it=none) (hL:it≠X.env.locals)
  (h1:it∈X.ex\/X.s₀.heap.objs.size<=it) (h2:∀x c,X.env.cells.lookup x=some c->c≠it) (h3:∀p∈X.pn++pins,p.1≠it):Inv X pins σ H { s with heap:=h',toks:=t' }:=by
 have nit:∀b u,H b=some u->b≠it:=λb u e z=>by rw[z,hn] at e;cases e
 refine I.step (g':=s.gens) (d':=s.drawn) (ch:=[it]) (λb hb=>?_) (λb o _ _ hc e _=>k b o (λz=>hc (by simp[z])) e) (λb o _ _ hc e _=>⟨o.slots,k b o (λz=>hc (by simp[z])) e⟩) (λ_ _ _ _ n=>n)
  (λb o hc e=>⟨o,k b o (λz=>hc (by simp[z])) e⟩) (λ_ _ e=>e) (λ_ _ _ e=>e) (λb ps e=>⟨#[],by rw[e];simp⟩) (λm hm=>?_) (λb u e=>?_) I.bare
 ·have e:b=it:=by simpa using hb
  subst e
  exact⟨h1,hL,h2,h3⟩
 ·obtain⟨o,es,ep,ho,r⟩:=hm
  exact⟨o,es,ep,k _ o (Ne.symm hL) ho,r⟩
 ·refine (I.hok b u e).stay (λc v hc q=>k c v ?_ q) (λ_ q=>q) λ_ _ q=>q
  rcases hc with z | z
  ·rw[z];exact nit b u e
  ·exact nit c _ z
theorem Inv.tok (I:Inv X pins σ H s) (t:Nat):Inv X pins σ H { s with toks:=t }:=I.un (h':=s.heap) (t':=t) Un.refl I.hok
theorem Inv.kept {t':Nat} (I:Inv X pins σ H s) (k:∀b u,s.heap.get? b=some u->h'.get? b=some u):Inv X pins σ H { s with heap:=h',toks:=t' }:=I.un (Un.kept k) (I.hok.kept k)
theorem Inv.laid {a:Addr} {o:HO} {t':Nat} (I:Inv X pins σ H s) (k:∀b u,s.heap.get? b=some u->h'.get? b=some u) (hp:s.heap.objs.size<=a) (new:Bv X.prog X.w (upd H a o) h' a o) :
  Inv X pins σ (upd H a o) { s with heap:=h',toks:=t' }:=I.un (Un.laid k hp (I.hok.fresh hp)) (I.hok.laid k hp new)
theorem Inv.write {x e:Addr} {o:HO} {t':Nat} (I:Inv X pins σ H s) (mu:Mut (H x)) (he:e=x\/H e=some (.own x)) (k:∀b u,b≠e->s.heap.get? b=some u->h'.get? b=some u) (heo:∃u,h'.get? e=some u)
  (new:Bv X.prog X.w (upd H x o) h' x o):Inv X pins σ (upd H x o) { s with heap:=h',toks:=t' }:=I.un (Un.write mu he k heo) (I.hok.write mu he k heo new)
theorem Inv.Sy {gP:YC} (I:Inv X pins σ H s) (h:∀p∈gP,s.heap.get? p.1=some p.2/\H p.1=none/\p.1≠X.env.locals/\p.1∉X.fs/\∀v,p.2.data≠.cell v):Inv X gP σ H s:=
 ⟨I.ok,I.os,I.bare,I.base,I.loc,I.cell,I.free,I.HN,λp hp=>(QbC.mp hp).elim (λz=>I.pin p (QaH _ z)) (h p),I.hok,I.len⟩
theorem Z6 {N:YF} (hN:N.Nodup) {i j:Nat} {x:Str} (a:N[i]?=some x) (b:N[j]?=some x):i=j:=by
 obtain⟨h1,e1⟩:=Qag.mp a
 obtain⟨h2,e2⟩:=Qag.mp b
 exact (List.getElem_inj hN).mp (e1.trans e2.symm)
theorem jC {M:Model} {A:Around} {E:YA} {i:Nat} {x:Str} {v:V} {u:Value} {Q:YH} (I:Inv X pins σ H s) (hN:X.N.Nodup) (hi:X.N[i]?=some x) (hx:Loc X.env.scope x) (r:RelV v u)
  (h:∀s',Inv X pins (σ.set i (some v)) H s'->(∃a,Heap.SameBut a s.heap s'.heap/\(a=X.env.locals\/X.env.cells.lookup x=some a))->Q () s') (hf:X.fn x=true\/X.env.scope.names.lookup x=some .local:=by first | exact .inl rfl | exact .inr rfl | assumption):wpAny M A (storeName X.env x u) Q E s:=by
 obtain⟨m,hn,hl⟩:=id I.loc
 have hcls:(X.env.scope.kind == .class || (X.env.scope.kind == .module&&X.env.locals != X.env.globals))=false:=by rw[I.ok.kind];rfl
 have hiσ : i < σ.length:=by rw[I.len];exact (Qag.mp hi).1
 have cne:=I.cne
 have tracked:∀{a:Addr} {h':Heap},(∃o,s.heap.get? a=some o/\H a=none)->Heap.SameBut a s.heap h'->HOk X.prog X.w H h':=λ{a h'} ha hs b ob e=>by
  obtain⟨_,_,hfree⟩:=ha
  refine (I.hok b ob e).stay (λc w' hc q=>(hs.2 c ?_).trans q) (λ_ q=>q) λ_ _ q=>q
  rintro rfl
  rcases hc with rfl | hc
  ·rw[hfree] at e;cases e
  ·rw[hfree] at hc;cases hc
 rcases hx with hk | hk
 ·refine wpAny_storeName_local hk hn (λh' hn' hs=>?_) hcls
  obtain⟨oL,_,_,hoL,_⟩:=id hn
  refine h _ ⟨I.ok,I.os,I.bare,⟨λb o e n hb hx=>?_,λb o e n hb hx=>?_,I.base.free,λb o e hx=>?_,I.base.tups,I.base.LQ,I.base.MK⟩,⟨_,hn',λj y v' e1 e2 e3=>?_⟩,λy c e=>?_,I.free,I.HN,λp hp=>?_,tracked ⟨oL,hoL,I.free⟩ hs,by simpa using I.len⟩ ⟨_,hs,.inl rfl⟩
  ·exact (hs.2 b (Qch (QaZ (Qcf e) I.ok.above))).trans (I.base.keep b o e n hb hx)
  ·obtain⟨sl,e1⟩:=I.base.slot b o e n hb hx
   exact⟨sl,(hs.2 b (Qch (QaZ (Qcf e) I.ok.above))).trans e1⟩
  ·obtain⟨o',e1⟩:=I.base.there b o e hx
   exact⟨o',(hs.2 b (Qch (QaZ (Qcf e) I.ok.above))).trans e1⟩
  ·by_cases hj:j=i
   ·subst hj
    rw[hi] at e1;cases e1
    rw[List.getElem?_set_self hiσ] at e2
    cases e2
    exact⟨u,r,.inl ⟨hk,by simp⟩⟩
   ·rw[List.getElem?_set_ne (Ne.symm hj)] at e2
    obtain⟨u',r',q⟩:=hl j y v' e1 e2 e3
    refine⟨u',r',?_⟩
    rcases q with⟨k,e⟩|⟨k,c,e,z⟩
    ·refine .inl ⟨k,?_⟩
     have:y≠x:=λe=>hj (Z6 hN e1 (e ▸ hi))
     simp[this,e]
    ·exact .inr ⟨k,c,e,z.sameBut hs (cne y c e)⟩
  ·obtain⟨w',z⟩:=I.cell y c e
   exact⟨w',z.sameBut hs (cne y c e)⟩
  ·obtain⟨e,n,ne,nf,d⟩:=I.pin p hp
   exact⟨(hs.2 p.1 ne).trans e,n,ne,nf,d⟩
 ·have hfn:X.fn x=true:=by
   rcases hf with z | z
   ·exact z
   ·rw[z] at hk;cases hk
  obtain⟨c,hc⟩:=I.ok.has x (.inl hk)
  obtain⟨w',z⟩:=I.cell x c hc
  refine wpAny_storeName_cell I.ok.kind hk hc z (λh' hc' hs=>?_)
  obtain⟨oc,hoc,E5⟩:=id z
  refine h { s with heap:=h' } ⟨I.ok,I.os,I.bare,⟨λb o e n hb hx=>?_,λb o e n hb hx=>?_,I.base.free,λb o e hx=>?_,I.base.tups,I.base.LQ,I.base.MK⟩,⟨m,hn.sameBut hs (Ne.symm (cne x c hc)),λj y v' e1 e2 e3=>?_⟩,λy c' e=>?_,I.free,I.HN,λp hp=>?_,tracked ⟨oc,hoc,I.HN x c hc⟩ hs,by simpa using I.len⟩ ⟨c,hs,.inr hc⟩
  ·exact (hs.2 b (Qch (QaZ (Qcf e) (I.ok.cab x c hfn hc)))).trans (I.base.keep b o e n hb hx)
  ·obtain⟨sl,e1⟩:=I.base.slot b o e n hb hx
   exact⟨sl,(hs.2 b (Qch (QaZ (Qcf e) (I.ok.cab x c hfn hc)))).trans e1⟩
  ·obtain⟨o',e1⟩:=I.base.there b o e hx
   exact⟨o',(hs.2 b (Qch (QaZ (Qcf e) (I.ok.cab x c hfn hc)))).trans e1⟩
  ·by_cases hj:j=i
   ·subst hj
    rw[hi] at e1;cases e1
    rw[List.getElem?_set_self hiσ] at e2
    cases e2
    exact⟨u,r,.inr ⟨.inl hk,c,hc,hc'⟩⟩
   ·rw[List.getElem?_set_ne (Ne.symm hj)] at e2
    obtain⟨u',r',q⟩:=hl j y v' e1 e2 e3
    refine⟨u',r',?_⟩
    rcases q with q |⟨k,c',e,z'⟩
    ·exact .inl q
    ·refine .inr ⟨k,c',e,z'.sameBut hs ?_⟩
     rintro rfl
     exact hj (Z6 hN e1 (I.ok.inj _ _ _ e hc ▸ hi))
  ·by_cases hcc:c'=c
   ·subst hcc;exact⟨_,hc'⟩
   ·obtain⟨w2,z2⟩:=I.cell y c' e
    exact⟨w2,z2.sameBut hs hcc⟩
  ·obtain⟨e,n,ne,nf,d⟩:=I.pin p hp
   refine⟨(hs.2 p.1 ?_).trans e,n,ne,nf,d⟩
   intro q
   rw[q,hoc] at e
   have q':oc=p.2:=QbH e
   exact d w' (by rw[<-q'];exact E5)
theorem MN {M:Model} {A:Around} {E:YA} {i:Nat} {x:Str} {v:V} {u:Value} {Q:YH} (I:Inv X pins σ H s) (hN:X.N.Nodup) (hi:X.N[i]?=some x) (hx:Loc X.env.scope x) (r:RelV v u)
  (h:∀s',Inv X pins (σ.set i (some v)) H s'->Q () s') (hf:X.fn x=true\/X.env.scope.names.lookup x=some .local:=by first | exact .inl rfl | exact .inr rfl | assumption):wpAny M A (storeName X.env x u) Q E s:=
 jC I hN hi hx r (λs' I' _=>h s' I') hf
theorem Inv.call' {s':Shared} {ch:List Addr} (I:Inv X pins σ H s) (ho:s'.os=s.os) (u:Un (frs X.stack) ch H H' s.heap s'.heap) (hok:HOk X.prog X.w H' s'.heap) (hg:AllBare s'.gens)
  (hch:∀b∈ch,(b∈X.ex\/X.s₀.heap.objs.size<=b)/\b≠X.env.locals/\(∀x c,X.env.cells.lookup x=some c->c≠b)/\∀p∈X.pn++pins,p.1≠b):Inv X pins σ H' s':=by
 obtain⟨h',g',d',t',o'⟩:=s'
 have e:o'=s.os:=ho
 subst e
 exact I.call (g':=g') (t':=t') (d':=d') u hok hg hch
end
abbrev XK:=Value->Option Addr->Hp->Prop
abbrev St:=List (Option V)
abbrev VK:=V->Hp->Prop
abbrev TE:=St->Hp->VK->Prop
abbrev TT:=St->Hp->(Bool->Hp->Prop)->Prop
abbrev TA:=St->Hp->(YG->Hp->Prop)->Prop
structure Ends where
 nx:St->Hp->Prop
 rt:VK
 bk:St->Hp->Prop:=λ_ _=>False
 ct:St->Hp->Prop:=λ_ _=>False
abbrev YO:=St->Hp->Prop
abbrev TS:=Ends->YO
def EP (X:Cx) (pins:YC) (σ : St) (Q:VK) (u:Value) (s':Shared):Prop:=∃v H',Inv X pins σ H' s'/\RelV v u/\Q v H'
def TP (X:Cx) (pins:YC) (σ : St) (Q:Bool->Hp->Prop) (b:Bool) (s':Shared):Prop:=∃H',Inv X pins σ H' s'/\Q b H'
def AP (X:Cx) (pins:YC) (σ : St) (Q:YG->Hp->Prop) (us:YE) (s':Shared):Prop:=∃vs H',Inv X pins σ H' s'/\Vals vs us/\Q vs H'
def SP (X:Cx) (pins:YC) (D:Ends) (f:Flow) (s':Shared):Prop:=
 match f with
 | .next=>∃ σ' H',Inv X pins σ' H' s'/\D.nx σ' H'
 | .brk=>∃ σ' H',Inv X pins σ' H' s'/\D.bk σ' H'
 | .cont=>∃ σ' H',Inv X pins σ' H' s'/\D.ct σ' H'
 | .ret u=>∃v σ' H',Inv X pins σ' H' s'/\RelV v u/\D.rt v H'
def PE (X:Cx) (e:Expr) (t:TE):Prop:=
 ∀(pins:YC) (s:Shared) (σ : St) (H:Hp) (Q:VK),Inv X pins σ H s->t σ H Q->wpAny (model X.prog X.w) X.A (eval e X.env) (EP X pins σ Q) X.xe s
def PT (X:Cx) (e:Expr) (t:TT):Prop:=
 ∀(pins:YC) (s:Shared) (σ : St) (H:Hp) (Q:Bool->Hp->Prop),Inv X pins σ H s->t σ H Q->wpAny (model X.prog X.w) X.A (isTrue e X.env (eval e X.env)) (TP X pins σ Q) X.xe s
def PW (X:Cx) (e:Expr) (t:TT):Prop:=
 ∀(whole:Sem Value) (pins:YC) (s:Shared) (σ : St) (H:Hp) (Q:Bool->Hp->Prop),Inv X pins σ H s->t σ H Q->wpAny (model X.prog X.w) X.A (isTrue e X.env whole) (TP X pins σ Q) X.xe s
theorem PW.pt {X:Cx} {e:Expr} {t:TT} (h:PW X e t):PT X e t:=h _
def PA (X:Cx) (es:YJ) (t:TA):Prop:=
 ∀(pos:Pos) (pins:YC) (s:Shared) (σ : St) (H:Hp) (Q:YG->Hp->Prop),Inv X pins σ H s->t σ H Q->wpAny (model X.prog X.w) X.A (spliced (backTo pos (starEach es X.env))) (AP X pins σ Q) X.xe s
def PS (X:Cx) (st:Stmt) (t:TS):Prop:=
 ∀(pins:YC) (s:Shared) (σ : St) (H:Hp) (D:Ends),Inv X pins σ H s->t D σ H->wpAny (model X.prog X.w) X.A (exec st X.env) (SP X pins D) X.xe s
def PSs (X:Cx) (st:List Stmt) (t:TS):Prop:=
 ∀(pins:YC) (s:Shared) (σ : St) (H:Hp) (D:Ends),Inv X pins σ H s->t D σ H->wpAny (model X.prog X.w) X.A (execs st X.env) (SP X pins D) X.xe s
theorem thn {α : Type} {t:Sem α} {Q Q':α->Shared->Prop} {M:Model} {A:Around} {E:YA} {s:Shared} (h:wpAny M A t Q E s) (hQ:∀a s,Q a s->Q' a s):wpAny M A t Q' E s:=Qcw h hQ λ_ _ x=>x
section
variable {X:Cx}
theorem bin {a b:Expr} {ta tb:TE} (ha:PE X a ta) (hb:PE X b tb) {pins:YC} {s:Shared} {σ : St} {H:Hp} {R:V->V->Hp->Prop} (I:Inv X pins σ H s) (h:ta σ H λx H1=>tb σ H1 λy H2=>R x y H2)
  {α : Type} {Q:α->Shared->Prop} {f:Value->Value->Sem α}
  (hf:∀v u s2 x y H2,Inv X pins σ H2 s2->RelV x v->RelV y u->R x y H2->wpAny (model X.prog X.w) X.A (f v u) Q X.xe s2) :
  wpAny (model X.prog X.w) X.A (eval a X.env) (λv s₁=>wpAny (model X.prog X.w) X.A (eval b X.env) (λu s₂=>wpAny (model X.prog X.w) X.A (f v u) Q X.xe s₂) X.xe s₁) X.xe s:=by
 refine thn (ha pins s σ H _ I h) λv s1 zz=>?_
 obtain⟨x,H1,I1,r1,q1⟩:=zz
 refine thn (hb pins s1 σ H1 _ I1 q1) λu s2 zz=>?_
 obtain⟨y,H2,I2,r2,q2⟩:=zz
 exact hf v u s2 x y H2 I2 r1 r2 q2
def wW (i:Nat):TE:=fun σ H Q=>∃v,σ[i]?=some (some v)/\Q v H
def tC (v:V):TE:=λ_ H Q=>Q v H
theorem yj {i:Nat} {x:Str} {pos:Pos} (hN:X.N[i]?=some x) (hv:Vis X.env.scope x) (hd:(x == ("__debug__":Str))=false:=by decide) (hcd:(x == ("__classdict__":Str))=false:=by decide):PE X (.Name x pos) (wW i):=by
 intro pins s σ H Q I h
 obtain⟨v,e,h⟩:=h
 obtain⟨m,hn,hl⟩:=I.loc
 obtain⟨u,r,l⟩:=hl i x v hN e hv
 have fin:EP X pins σ Q u s:=⟨v,H,I,r,h⟩
 rcases l with⟨hk,hm⟩|⟨hk,c,hc,hcell⟩
 ·exact wpAny_Name (wpAny_loadName_local I.ok.kind hk hn hm fin) hd
 ·rcases hk with hk | hk
  ·exact wpAny_Name (wpAny_loadName_cell I.ok.kind hk hc hcell fin) hd
  ·exact wpAny_Name (wpAny_loadName_free I.ok.kind hk hc hcell fin hcd) hd
theorem Ad {i j pos}:PE X (.Constant (.int i) j pos) (tC (.int i)):=λ_ _ _ H _ I h=>wpAny_Constant_int ⟨.int i,H,I.tok _,⟨_,rfl⟩,h⟩
theorem Gf {b j pos}:PE X (.Constant (.bool b) j pos) (tC (.bl b)):=λ_ _ _ H _ I h=>Constant_bool ⟨.bl b,H,I,rfl,h⟩
theorem Np {j pos}:PE X (.Constant .none j pos) (tC .non):=λ_ _ _ H _ I h=>Constant_none ⟨.non,H,I,rfl,h⟩
theorem Bt {x j pos}:PE X (.Constant (.str x) j pos) (tC (.str x)):=λ_ _ _ H _ I h=>Calls.Constant_str ⟨.str x,H,I.tok _,⟨_,rfl⟩,h⟩
def Gl (X:Cx) (x:Str):Prop:=X.env.kindOf x=some .globalImplicit
theorem WR {E:YA} {pins:YC} {s:Shared} {σ : St} {H:Hp} {x:Str} {u:Value} {pos:Pos} {Q:YA} (I:Inv X pins σ H s) (hg:Gl X x) (hm:X.mg x=some u) (h:Q u s)
  (hd:(x == ("__debug__":Str))=false:=by decide):wpAny (model X.prog X.w) X.A (eval (.Name x pos) X.env) Q E s:=
 Calls.Name_function_global I.ok.kind hg (Calls.loadGlobal_global (by rw[I.ok.glob];exact I.mod.glob.keeps I.bk) hm h) hd
theorem JR {E:YA} {pins:YC} {s:Shared} {σ : St} {H:Hp} {x:Str} {u:Value} {pos:Pos} {Q:YA} (I:Inv X pins σ H s) (hg:Gl X x) (hm:X.mg x=none) (hv:bootBuiltins x=some u) (h:Q u s)
  (hn:x≠"__name__":=by decide) (hd:(x == ("__debug__":Str))=false:=by decide):wpAny (model X.prog X.w) X.A (eval (.Name x pos) X.env) Q E s:=by
 obtain⟨mb,h1,h2⟩:=I.mod.blt
 exact Calls.Name_function_global I.ok.kind hg (Calls.loadGlobal_builtin (by rw[I.ok.glob];exact I.mod.glob.keeps I.bk) hm (by rw[I.ok.blt];exact h1.keeps I.bk) ((h2 x hn).trans hv) h) hd
theorem vm {x:Str} {v:V} {u:Value} {pos:Pos} (hg:Gl X x) (hm:X.mg x=some u) (r:RelV v u) (hd:(x == ("__debug__":Str))=false:=by decide):PE X (.Name x pos) (tC v):=
 λ_ _ _ H _ I h=>WR I hg hm ⟨v,H,I,r,h⟩ hd
theorem SJ {x:Str} {v:V} {u:Value} {pos:Pos} (hg:Gl X x) (hm:X.mg x=none) (hv:bootBuiltins x=some u) (r:RelV v u) (hn:x≠"__name__":=by decide) (hd:(x == ("__debug__":Str))=false:=by decide):PE X (.Name x pos) (tC v):=
 λ_ _ _ H _ I h=>JR I hg hm hv ⟨v,H,I,r,h⟩ hn hd
variable {a b:Expr} {ta tb:TE} {pos:Pos}
def PC (X:Cx) (op:CmpOp) (a b:Expr) (t:TE):Prop:=
 ∀(pins:YC) (s:Shared) (σ : St) (H:Hp) (Q:VK),Inv X pins σ H s->t σ H Q ->
  wpAny (model X.prog X.w) X.A (eval a X.env) (λv s₁=>wpAny (model X.prog X.w) X.A (eval b X.env) (λu s₂=>wpAny (model X.prog X.w) X.A (compareOp op v u) (EP X pins σ Q) X.xe s₂) X.xe s₁) X.xe s
theorem qG (b:Expr) {op:CmpOp} (h:op≠.In) (h2:op≠.NotIn):behindInMarks op b=false:=by
 have e1:(op == CmpOp.In)=false:=by cases op <;> first | rfl | exact absurd rfl h
 have e2:(op == CmpOp.NotIn)=false:=by cases op <;> first | rfl | exact absurd rfl h2
 cases b <;> simp[behindInMarks,e1,e2]
def tB (t:TE):TT:=fun σ H Q=>t σ H λx H1=>∃c,x=.bl c/\Q c H1
theorem Rk {op:CmpOp} {t:TE} (h:PC X op a b t) (h1:behindInMarks op b=false:=by first | exact qG _ (by decide) (by decide) | rfl):PT X (.Compare a [op] [b] pos) (tB t):=by
 intro pins s σ H Q I hw
 refine wpAny_isTrue_Compare1 (thn (h pins s σ H _ I hw) λv s1 h1=>thn h1 λu s2 h2=>thn h2 λc s3 zz=>?_) h1
 obtain⟨x,H1,I1,r1,q1⟩:=zz
 obtain⟨d,rfl,q⟩:=q1
 cases r1
 exact Qbo ⟨H1,I1,q⟩
theorem Ds {e:Expr} {t:TE} (h:PE X e t) (he:∀whole,isTrue e X.env whole=(do let v <-whole;standAt e.pos;holding [v] (truthy v)):=by intro _;rfl):PT X e (tB t):=by
 intro pins s σ H Q I hw
 refine isTrue_plain (thn (h pins s σ H _ I hw) λv s1 zz=>?_) (he _)
 obtain⟨x,H1,I1,r1,q1⟩:=zz
 obtain⟨d,rfl,q⟩:=q1
 cases r1
 exact Qbo ⟨H1,I1,q⟩
variable {tA tB':TT} {rest:YJ}
def B6 (t u:TT):TT:=fun σ H Q=>t σ H λc H1=>if c=true then u σ H1 Q else Q false H1
def tOr (t u:TT):TT:=fun σ H Q=>t σ H λc H1=>if c=true then Q true H1 else u σ H1 Q
def B1 (t:TT):TT:=fun σ H Q=>t σ H λc H1=>Q (!c) H1
theorem Pa (ha:PT X a tA):PW X (.BoolOp .And [a] pos) tA:=by
 intro wh pins s σ H Q I h
 refine isTrue_and (thn (ha pins s σ H Q I h) λc s1 e=>?_)
 cases c with
 | true=>exact isTrue_and_nil e
 | false=>exact e
theorem Nf (ha:PT X a tA):PW X (.BoolOp .Or [a] pos) tA:=by
 intro wh pins s σ H Q I h
 refine isTrue_or (thn (ha pins s σ H Q I h) λc s1 e=>?_)
 cases c with
 | false=>exact isTrue_or_nil e
 | true=>exact e
theorem Rj (ha:PT X a tA) (hb:PW X (.BoolOp .And (b::rest) pos) tB'):PW X (.BoolOp .And (a::b::rest) pos) (B6 tA tB'):=by
 intro wh pins s σ H Q I h
 refine isTrue_and (thn (ha pins s σ H _ I h) λc s1 zz=>?_)
 obtain⟨H1,I1,q1⟩:=zz
 cases c with
 | true=>exact hb wh pins s1 σ H1 Q I1 q1
 | false=>exact⟨H1,I1,q1⟩
theorem Ml (ha:PT X a tA) (hb:PW X (.BoolOp .Or (b::rest) pos) tB'):PW X (.BoolOp .Or (a::b::rest) pos) (tOr tA tB'):=by
 intro wh pins s σ H Q I h
 refine isTrue_or (thn (ha pins s σ H _ I h) λc s1 zz=>?_)
 obtain⟨H1,I1,q1⟩:=zz
 cases c with
 | true=>exact⟨H1,I1,q1⟩
 | false=>exact hb wh pins s1 σ H1 Q I1 q1
theorem Fx (ha:PT X a tA):PT X (.UnaryOp .Not a pos) (B1 tA):=by
 intro pins s σ H Q I h
 exact isTrue_not (ha pins s σ H (λc H1=>Q (!c) H1) I h)
def AL (ta tb:TE):TE:=fun σ H Q=>ta σ H λx H1=>∃c,x=.bl c/\if c=true then tb σ H1 Q else Q (.bl false) H1
def BY (ta tb:TE):TE:=fun σ H Q=>ta σ H λx H1=>∃c,x=.bl c/\if c=true then Q (.bl true) H1 else tb σ H1 Q
def AG (ta:TE):TE:=fun σ H Q=>ta σ H λx H1=>∃c,x=.bl c/\Q (.bl (!c)) H1
theorem Ed {op} {t:TE} (h:PE X a t):PE X (.BoolOp op [a] pos) t:=λpins s σ H Q I hw=>BoolOp_one (h pins s σ H Q I hw)
theorem En (ha:PE X a ta) (hb:PE X (.BoolOp .And (b::rest) pos) tb):PE X (.BoolOp .And (a::b::rest) pos) (AL ta tb):=by
 intro pins s σ H Q I h
 refine BoolOp_and (thn (ha pins s σ H _ I h) λv s1 zz=>?_)
 obtain⟨x,H1,I1,r1,q1⟩:=zz
 obtain⟨c,rfl,q1⟩:=q1
 cases r1
 refine Qbo ?_
 cases c with
 | true=>exact hb pins s1 σ H1 Q I1 q1
 | false=>exact⟨.bl false,H1,I1,rfl,q1⟩
theorem AV (ha:PE X a ta) (hb:PE X (.BoolOp .Or (b::rest) pos) tb):PE X (.BoolOp .Or (a::b::rest) pos) (BY ta tb):=by
 intro pins s σ H Q I h
 refine BoolOp_or (thn (ha pins s σ H _ I h) λv s1 zz=>?_)
 obtain⟨x,H1,I1,r1,q1⟩:=zz
 obtain⟨c,rfl,q1⟩:=q1
 cases r1
 refine Qbo ?_
 cases c with
 | false=>exact hb pins s1 σ H1 Q I1 q1
 | true=>exact⟨.bl true,H1,I1,rfl,q1⟩
theorem yp (ha:PE X a ta):PE X (.UnaryOp .Not a pos) (AG ta):=by
 intro pins s σ H Q I h
 refine UnaryOp_ (thn (ha pins s σ H _ I h) λv s1 zz=>?_)
 obtain⟨x,H1,I1,r1,q1⟩:=zz
 obtain⟨c,rfl,q1⟩:=q1
 cases r1
 exact not_of (Qbo ⟨.bl (!c),H1,I1,rfl,q1⟩)
def tIf (t:TT) (ta tb:TE):TE:=fun σ H Q=>t σ H λc H1=>if c=true then ta σ H1 Q else tb σ H1 Q
theorem ZM {c:Expr} (hc:PT X c tA) (ha:PE X a ta) (hb:PE X b tb):PE X (.IfExp c a b pos) (tIf tA ta tb):=by
 intro pins s σ H Q I h
 refine wpAny_IfExp (thn (hc pins s σ H _ I h) λd s1 zz=>?_)
 obtain⟨H1,I1,q1⟩:=zz
 cases d with
 | true=>exact ha pins s1 σ H1 Q I1 q1
 | false=>exact hb pins s1 σ H1 Q I1 q1
end
def SqL (K:YD) (H:Hp) (a:Addr) (xs:YG):Prop:=
 Rd H a (.lst xs) \/
  ∃(o:Obj) (its:Array Value) (n:Nat),K.lookup a=some o/\o.cls=.type "list"/\o.dict=none/\o.data=.seq its n/\its.size<=sizeLine/\Vals xs its.toList
def SqT (K:YD) (H:Hp) (a:Addr) (xs:YG):Prop:=
 Rd H a (.tup xs) \/
  ∃(o:Obj) (its:Array Value) (n:Nat),K.lookup a=some o/\o.cls=.type "tuple"/\o.data=.seq its n/\its.size<=sizeLine/\Vals xs its.toList
def KA:Value->Option V
 | .none=>some .non
 | .bool b=>some (.bl b)
 | .int i _=>some (.int i)
 | .str x _=>some (.str x)
 | .bytes b _=>some (.byt b)
 | .float b _=>some (.flt b)
 | .ref a=>some (.ref a)
 | .type n=>some (.ty n)
 | _=>none
theorem RelV.abs {x:V} {u:Value} (r:RelV x u):KA u=some x:=by
 cases x with
 | non=>cases r;rfl
 | bl _=>cases r;rfl
 | int _=>obtain⟨t,rfl⟩:=r;rfl
 | str _=>obtain⟨t,rfl⟩:=r;rfl
 | byt _=>obtain⟨t,rfl⟩:=r;rfl
 | flt _=>obtain⟨t,rfl⟩:=r;rfl
 | ref _=>cases r;rfl
 | ty _=>cases r;rfl
theorem RelV.inj {x y:V} {u:Value} (r:RelV x u) (q:RelV y u):x=y:=QbH (r.abs.symm.trans q.abs)
theorem Vals.inj:∀{xs ys:YG} {us:YE},Vals xs us->Vals ys us->xs=ys
 | _,_,_,.nil,.nil=>rfl
 | _,_,_,.cons r t,.cons r' t'=>by rw[r.inj r',Vals.inj t t']
section
variable {X:Cx} {pins:YC} {σ : St} {H:Hp} {s:Shared} {a:Addr} {xs ys:YG}
theorem SqL.of {K:YD} (h:H a=some (.lst xs)):SqL K H a xs:=.inl (.inl h)
theorem SqT.of {K:YD} (h:H a=some (.tup xs)):SqT K H a xs:=.inl (.inl h)
theorem Inv.list (I:Inv X pins σ H s) (h:SqL X.K H a xs):∃its:YE,Vals xs its/\PlainL s.heap a its.toArray/\xs.length<=sizeLine:=by
 rcases h with h |⟨o,its,n,hk,hc,hd,hs,hz,r⟩
 ·obtain⟨z,its,n,r,e⟩:=h.ok I.hok
  exact⟨its,r,⟨_,n,e,rfl,rfl,rfl⟩,z⟩
 ·refine⟨its.toList,r,⟨o,n,I.kIn a o hk,hc,hd,by simpa using hs⟩,?_⟩
  have e:=r.length
  simp only[QaN] at e
  omega
theorem Inv.tuple (I:Inv X pins σ H s) (h:SqT X.K H a xs):∃its:YE,Vals xs its/\IsTup s.heap a its.toArray/\xs.length<=sizeLine:=by
 rcases h with h |⟨o,its,n,hk,hc,hs,hz,r⟩
 ·obtain⟨z,its,r,p⟩:=h.ok I.hok
  exact⟨its,r,p,z⟩
 ·refine⟨its.toList,r,⟨o,I.kIn a o hk,hc,n,by simpa using hs⟩,?_⟩
  have e:=r.length
  simp only[QaN] at e
  omega
theorem Inv.aj (I:Inv X pins σ H s) (h:SqL X.K H a xs) (h':SqL X.K H a ys):xs=ys:=by
 obtain⟨its,r,⟨o,n,e,_,_,d⟩,_⟩:=I.list h
 obtain⟨its',r',⟨o',n',e',_,_,d'⟩,_⟩:=I.list h'
 rw[e] at e';cases e'
 rw[d] at d'
 injection d' with d1 _
 have:its=its':=by simpa using congrArg Array.toList d1
 subst this
 exact r.inj r'
theorem Inv.Xp (I:Inv X pins σ H s) (h:SqT X.K H a xs) (h':SqT X.K H a ys):xs=ys:=by
 obtain⟨its,r,⟨o,e,_,n,d⟩,_⟩:=I.tuple h
 obtain⟨its',r',⟨o',e',_,n',d'⟩,_⟩:=I.tuple h'
 rw[e] at e';cases e'
 rw[d] at d'
 injection d' with d1 _
 have:its=its':=by simpa using congrArg Array.toList d1
 subst this
 exact r.inj r'
end
abbrev Cx.wish (X:Cx) (E:YA):Cx:={ X with xe:=E }
abbrev Cx.nox (X:Cx):Cx:=X.wish λ_ _=>False
theorem Cx.Ok.wish {X:Cx} (ok:X.Ok) (E:YA):(X.wish E).Ok:=
 ⟨ok.mod,ok.kind,ok.glob,ok.blt,ok.above,ok.inj,ok.has,ok.cab,ok.hd,ok.frames,ok.stk,ok.exf,ok.bs,ok.bsz,ok.Wz,ok.RG,ok.JW,ok.frf⟩
theorem Cx.Ok.KY {X:Cx} {E:YA} (ok:(X.wish E).Ok):X.Ok:=
 ⟨ok.mod,ok.kind,ok.glob,ok.blt,ok.above,ok.inj,ok.has,ok.cab,ok.hd,ok.frames,ok.stk,ok.exf,ok.bs,ok.bsz,ok.Wz,ok.RG,ok.JW,ok.frf⟩
section
variable {X:Cx} {pins:YC} {σ : St} {H:Hp} {s:Shared} {E:YA}
theorem Inv.wish (I:Inv X pins σ H s) (E:YA):Inv (X.wish E) pins σ H s:=⟨I.ok.wish E,I.os,I.bare,I.base,I.loc,I.cell,I.free,I.HN,I.pin,I.hok,I.len⟩
theorem Inv.KY (I:Inv (X.wish E) pins σ H s):Inv X pins σ H s:=⟨I.ok.KY,I.os,I.bare,I.base,I.loc,I.cell,I.free,I.HN,I.pin,I.hok,I.len⟩
theorem SP.KY {D:Ends} {f:Flow} {s':Shared} (h:SP (X.wish E) pins D f s'):SP X pins D f s':=by
 cases f with
 | next=>obtain⟨σ',H',I,q⟩:=h;exact⟨σ',H',I.KY,q⟩
 | brk=>obtain⟨σ',H',I,q⟩:=h;exact⟨σ',H',I.KY,q⟩
 | cont=>obtain⟨σ',H',I,q⟩:=h;exact⟨σ',H',I.KY,q⟩
 | ret u=>obtain⟨v,σ',H',I,r,q⟩:=h;exact⟨v,σ',H',I.KY,r,q⟩
theorem PSs.nox {st:List Stmt} {t:TS} (h:PSs X.nox st t):PSs X st t:=λpins s σ H D I hw=>
 Qcw (h pins s σ H D (I.wish _) hw) (λ_ _ q=>q.KY) λ_ _ z=>False.elim z
end
section
variable {X:Cx} {st:Stmt} {rest:List Stmt} {t u:TS} {e:Expr} {te:TE} {pos:Pos}
def AH:TS:=λD σ H=>D.nx σ H
def Ao (t u:TS):TS:=λD σ H=>t { D with nx:=u D } σ H
theorem BK:PSs X [] AH:=λ_ _ σ H _ I h=>wpAny_execs_nil ⟨σ,H,I,h⟩
theorem Af (h1:PS X st t) (h2:PSs X rest u):PSs X (st::rest) (Ao t u):=by
 intro pins s σ H D I h
 refine wpAny_execs_cons (thn (h1 pins s σ H { D with nx:=u D } I h) λf s1 q=>?_)
 cases f with
 | next=>
  obtain⟨σ',H',I',q⟩:=q
  exact h2 pins s1 σ' H' D I' q
 | ret v=>exact q
 | brk=>exact q
 | cont=>exact q
theorem Ai (h1:PS X st t):PSs X [st] t:=by
 intro pins s σ H D I h
 refine wpAny_execs_cons (thn (h1 pins s σ H D I h) λf s1 q=>?_)
 cases f with
 | next=>exact wpAny_execs_nil q
 | ret v=>exact q
 | brk=>exact q
 | cont=>exact q
def xJ:TS:=λD σ H=>D.bk σ H
theorem pU:PS X (.Break pos) xJ:=λ_ _ σ H _ I h=>wpAny_Break ⟨σ,H,I,h⟩
theorem Inv.quiet {pins:YC} {σ : St} {H:Hp} {s:Shared} (I:Inv X pins σ H s):interactive X.env=false:=by simp[interactive,I.ok.kind]
def AJ (te:TE):TS:=λD σ H=>te σ H λ_ H1=>D.nx σ H1
theorem Bs (he:PE X e te) (hs:swapsWith e none pos.line X.env=pure false:=by rfl):PS X (.Expr e pos) (AJ te):=by
 intro pins s σ H D I h
 refine wpAny_Expr_any (thn (he pins s σ H _ I h) λv s1 zz=>?_) I.quiet hs
 obtain⟨x,H1,I1,r1,q1⟩:=zz
 exact⟨σ,H1,I1,q1⟩
def BV (te:TE):TS:=λD σ H=>te σ H D.rt
theorem Ay (he:PE X e te):PS X (.Return (some e) pos) (BV te):=by
 intro pins s σ H D I h
 refine wpAny_Return_some (thn (he pins s σ H _ I h) λv s1 zz=>?_)
 obtain⟨x,H1,I1,r1,q1⟩:=zz
 exact⟨x,σ,H1,I1,r1,q1⟩
def Ga (c:TT) (t u:TS):TS:=λD σ H=>c σ H λb H1=>if b=true then t D σ H1 else u D σ H1
theorem Ci {c:Expr} {a b:List Stmt} {tc:TT} (hc:PT X c tc) (ha:PSs X a t) (hb:PSs X b u):PS X (.If c a b pos) (Ga tc t u):=by
 intro pins s σ H D I h
 refine wpAny_If (thn (hc pins s σ H _ I h) λd s1 zz=>?_)
 obtain⟨H1,I1,q1⟩:=zz
 cases d with
 | true=>exact ha pins s1 σ H1 D I1 q1
 | false=>exact hb pins s1 σ H1 D I1 q1
def wY:TS:=λ_ _ _=>False
theorem Ug:PS X st wY:=λ_ _ _ _ _ _ h=>h.elim
end
abbrev TG:=V->St->Hp->(YO)->Prop
abbrev TGs:=YG->St->Hp->(YO)->Prop
def PG (X:Cx) (target:Expr) (t:TG):Prop:=
 ∀(pins:YC) (s:Shared) (σ : St) (H:Hp) (v:V) (u:Value) (Q:YO),Inv X pins σ H s->RelV v u->t v σ H Q ->
  wpAny (model X.prog X.w) X.A (assign target X.env u) (λ_ s'=>∃ σ' H',Inv X pins σ' H' s'/\Q σ' H') X.xe s
def PGs (X:Cx) (ts:YJ) (t:TGs):Prop:=
 ∀(pins:YC) (s:Shared) (σ : St) (H:Hp) (vs:YG) (us:YE) (Q:YO),Inv X pins σ H s->Vals vs us->t vs σ H Q ->
  wpAny (model X.prog X.w) X.A (assignInOrder ((assignEach ts X.env).map (·.2)) us) (λ_ s'=>∃ σ' H',Inv X pins σ' H' s'/\Q σ' H') X.xe s
abbrev rQ:=V->V->V->Hp->(Hp->Prop)->Prop
def Au (X:Cx) (t:rQ):Prop:=
 ∀(pins:YC) (s:Shared) (σ : St) (H:Hp) (o i v:V) (ov iv u:Value) (Q:Hp->Prop),Inv X pins σ H s->RelV o ov->RelV i iv->RelV v u->t o i v H Q ->
  wpAny (model X.prog X.w) X.A (setItem ov iv u) (λ_ s'=>∃H',Inv X pins σ H' s'/\Q H') X.xe s
abbrev TIp:=V->V->Hp->VK->Prop
def PIp (X:Cx) (op:Operator) (t:TIp):Prop:=
 ∀(pins:YC) (s:Shared) (σ : St) (H:Hp) (x y:V) (v u:Value) (Q:VK),Inv X pins σ H s->RelV x v->RelV y u->t x y H Q ->
  wpAny (model X.prog X.w) X.A (inplaceOp op v u) (EP X pins σ Q) X.xe s
section
variable {X:Cx} {pos:Pos}
def Fl (i:Nat):TG:=λv σ H Q=>Q (σ.set i (some v)) H
theorem Ah {i:Nat} {x:Str} (hN:X.N.Nodup) (hi:X.N[i]?=some x) (hx:Loc X.env.scope x) (hf:X.fn x=true\/X.env.scope.names.lookup x=some .local:=by first | exact .inl rfl | exact .inr rfl | assumption):PG X (.Name x pos) (Fl i):=by
 intro pins s σ H v u Q I r h
 exact wpAny_assign_Name (MN I hN hi hx r (λs' I'=>⟨_,H,I',h⟩) hf)
def GH:TGs:=λvs σ H Q=>vs=[]/\Q σ H
def BB (t:TG) (u:TGs):TGs:=λvs σ H Q=>∃v r,vs=v::r/\t v σ H fun σ' H'=>u r σ' H' Q
theorem Bp:PGs X [] GH:=by
 intro pins s σ H vs us Q I r h
 obtain⟨e,h⟩:=h
 subst e
 cases r
 exact assignInOrder_nil ⟨σ,H,I,h⟩
theorem Ak {e:Expr} {es:YJ} {t:TG} {u:TGs} (h1:PG X e t) (h2:PGs X es u)
  (hs:(assignEach (e::es) X.env).map (·.2)=assign e X.env::(assignEach es X.env).map (·.2):=by rfl):PGs X (e::es) (BB t u):=by
 intro pins s σ H vs us Q I r h
 obtain⟨v,vr,e1,h⟩:=h
 subst e1
 cases r with
 | cons r rr=>
  rw[hs]
  refine assignInOrder_cons (thn (h1 pins s σ H _ _ _ I r h) λ_ s1 zz=>?_)
  obtain⟨σ1,H1,I1,q1⟩:=zz
  exact h2 pins s1 σ1 H1 _ _ Q I1 rr q1
def zM (K:YD) (n:Nat) (t:TGs):TG:=λv σ H Q=>∃a xs,v=.ref a/\SqT K H a xs/\xs.length=n/\t xs σ H Q
theorem Cv {es:YJ} {k:Nat} {t:TGs} {n:Nat} (hc:X.calm=true) (h:PGs X es t)
  (hn:(assignEach es X.env).length=n:=by rfl) (hst:(assignEach es X.env).findIdx? (·.1)=none:=by rfl):PG X (.Tuple es k pos) (zM X.K n t):=by
 intro pins s σ H v u Q I r hw
 obtain⟨a,xs,e1,hq,hl,hw⟩:=hw
 subst e1
 cases r
 obtain⟨its,rv,ht,hz⟩:=I.tuple hq
 refine assign_Tuple_tuple (I.ok.hd hc) ht (by simp[hn,<-hl,rv.length]) hst λh' hx=>?_
 have I1:Inv X pins σ H { s with heap:=h' }:=I.kept (t':=s.toks) λb o e=>hx b o (Qch (Qcf e)) e
 exact h pins _ σ H xs _ Q I1 (by simpa using rv) hw
def GG (to ti:TE) (t:rQ):TG:=λv σ H Q=>to σ H λo H1=>ti σ H1 λi H2=>t o i v H2 λH3=>Q σ H3
theorem ZK {o i:Expr} {to ti:TE} {t:rQ} (ho:PE X o to) (hi:PE X i ti) (hs:Au X t)
  (ha:∀v,assign (.Subscript o i pos) X.env v=(do
   let ov <-holding [v] (eval o X.env)
   let iv <-holding [v,ov] (eval i X.env)
   standAt pos
   holding [v,ov,iv] (setItem ov iv v)
   release [v,ov,iv] []):=by intro _;rfl):PG X (.Subscript o i pos) (GG to ti t):=by
 intro pins s σ H v u Q I r h
 rw[ha]
 refine Qcu (Qca (thn (ho pins s σ H _ I h) λov s1 zz=>?_))
 obtain⟨x,H1,I1,r1,q1⟩:=zz
 refine Qcu (Qca (thn (hi pins s1 σ H1 _ I1 q1) λiv s2 zz=>?_))
 obtain⟨y,H2,I2,r2,q2⟩:=zz
 refine Qcu (Qcc (Qcu (Qca (thn (hs pins s2 σ H2 x y v ov iv u _ I2 r1 r2 r q2) λ_ s3 zz=>?_))))
 obtain⟨H3,I3,q3⟩:=zz
 exact wpAny_release ⟨σ,H3,I3,q3⟩
def V8 (te:TE) (g:TG):TS:=λD σ H=>te σ H λx H1=>g x σ H1 D.nx
theorem Gj {tg e:Expr} {te:TE} {g:TG} (he:PE X e te) (hg:PG X tg g) (hs:swapsWithSole [tg] e pos.line X.env=pure false:=by rfl) (hw:swappedStores [tg] e X.env=pure none:=by rfl)
  (h1:(assignEach [tg] X.env).map (·.2)=[assign tg X.env]:=by rfl):PS X (.Assign [tg] e pos) (V8 te g):=by
 intro pins s σ H D I h
 refine wpAny_Assign_stores (thn (he pins s σ H _ I h) λv s1 zz=>?_) hs hw
 obtain⟨x,H1,I1,r1,q1⟩:=zz
 rw[h1]
 exact thn (hg pins s1 σ H1 x v _ I1 r1 q1) λ_ s2 q=>q
theorem Ba {i:Nat} {x:Str} {e:Expr} {te:TE} {pos':Pos} (hN:X.N.Nodup) (hi:X.N[i]?=some x) (hx:Loc X.env.scope x) (he:PE X e te) (hs:swapsWith e (some (.Name x pos')) pos.line X.env=pure false:=by rfl) (hf:X.fn x=true\/X.env.scope.names.lookup x=some .local:=by first | exact .inl rfl | exact .inr rfl | assumption) :
  PS X (.Assign [.Name x pos'] e pos) (V8 te (Fl i)):=by
 intro pins s σ H D I h
 refine wpAny_Assign_Name (thn (he pins s σ H _ I h) λv s1 zz=>?_) hs
 obtain⟨y,H1,I1,r1,q1⟩:=zz
 exact MN I1 hN hi hx r1 (λs2 I2=>⟨_,H1,I2,q1⟩) hf
def B5 (i:Nat) (te:TE) (ti:TIp):TS:=λD σ H=>∃x,σ[i]?=some (some x)/\te σ H λy H1=>ti x y H1 λz H2=>D.nx (σ.set i (some z)) H2
theorem jV {i:Nat} {x:Str} {e:Expr} {te:TE} {op:Operator} {ti:TIp} {pos':Pos} (hN:X.N.Nodup) (hi:X.N[i]?=some x) (hx:Loc X.env.scope x) (he:PE X e te) (ho:PIp X op ti) (hf:X.fn x=true\/X.env.scope.names.lookup x=some .local:=by first | exact .inl rfl | exact .inr rfl | assumption) :
  PS X (.AugAssign (.Name x pos') op e pos) (B5 i te ti):=by
 intro pins s σ H D I h
 obtain⟨v,e1,h⟩:=h
 obtain⟨m,hn,hl⟩:=I.loc
 have vis:Vis X.env.scope x:=by rcases hx with k | k;exact .inl k;exact .inr (.inl k)
 obtain⟨u,r,l⟩:=hl i x v hi e1 vis
 refine wpAny_AugAssign_Name ?_
 have go:wpAny (model X.prog X.w) X.A (eval e X.env) (λw s₂=>wpAny (model X.prog X.w) X.A (inplaceOp op u w) (λr s₃=>wpAny (model X.prog X.w) X.A (storeName X.env x r) (λ_=>SP X pins D .next) X.xe s₃) X.xe s₂) X.xe s:=by
  refine thn (he pins s σ H _ I h) λw s1 zz=>?_
  obtain⟨y,H1,I1,r1,q1⟩:=zz
  refine thn (ho pins s1 σ H1 v y u w _ I1 r r1 q1) λz s2 zz=>?_
  obtain⟨zv,H2,I2,r2,q2⟩:=zz
  exact MN I2 hN hi hx r2 (λs3 I3=>⟨_,H2,I3,q2⟩) hf
 rcases l with⟨hk,hm⟩|⟨hk,c,hc,hcell⟩
 ·exact wpAny_loadName_local I.ok.kind hk hn hm go
 ·rcases hk with hk | hk
  ·exact wpAny_loadName_cell I.ok.kind hk hc hcell go
  ·rcases hx with k | k
   ·have:X.env.scope.names.lookup x=some .free:=hk
    rw[k] at this;cases this
   ·have:X.env.scope.names.lookup x=some .free:=hk
    rw[k] at this;cases this
def ipI (f:Int->Int->Int):TIp:=λx y H Q=>∃i j,x=.int i/\y=.int j/\Q (.int (f i j)) H
theorem lK:PIp X .Add (ipI λi j=>i+j):=by
 intro pins s σ H x y v u Q I r1 r2 h
 obtain⟨i,j,e1,e2,q⟩:=h
 subst e1;subst e2
 obtain⟨t,rfl⟩:=r1
 obtain⟨t',rfl⟩:=r2
 exact iadd_int ⟨.int _,H,I.tok _,⟨_,rfl⟩,q⟩
end
section
variable {X:Cx} {pos:Pos}
abbrev YN:=Nat->YO
def QX (c:TT) (tb:TS):TS:=λD σ H=>∃W:YN,(∃m,W m σ H)/\∀m σ H,W m σ H ->
 c σ H λb H1=>if b=true then ∃N:YO,(∀ σ' H',N σ' H'->∃m',m' < m/\W m' σ' H')/\tb { D with nx:=N,ct:=N,bk:=D.nx } σ H1 else D.nx σ H1
theorem Qc {c:Expr} {body:List Stmt} {tc:TT} {tb:TS} (hp:PassesOwn (model X.prog X.w) X.A X.env X.xe) (hc:PT X c tc) (hb:PSs X body tb):PS X (.While c body [] pos) (QX tc tb):=by
 intro pins s σ H D I h
 obtain⟨W,⟨m0,w0⟩,turn⟩:=h
 refine wpAny_While (codeAny_whileLoop (λn s'=>∃ σ' H',Inv X pins σ' H' s'/\W n σ' H') ?_ m0 ⟨σ,H,I,w0⟩)
 rintro n s1 ⟨σ1,H1,I1,w1⟩
 refine QbN hp (thn (hc pins s1 σ1 H1 _ I1 (turn n σ1 H1 w1)) λb s2 zz=>?_)
 obtain⟨H2,I2,q2⟩:=zz
 cases b with
 | true=>
  obtain⟨N,hN,q2⟩:=q2
  rw[if_pos rfl]
  refine QbN hp (thn (hb pins s2 σ1 H2 _ I2 q2) λf s3 q3=>?_)
  cases f with
  | next=>
   obtain⟨σ3,H3,I3,n3⟩:=q3
   obtain⟨m',hm,w3⟩:=hN σ3 H3 n3
   exact⟨m',hm,σ3,H3,I3,w3⟩
  | cont=>
   obtain⟨σ3,H3,I3,n3⟩:=q3
   obtain⟨m',hm,w3⟩:=hN σ3 H3 n3
   exact⟨m',hm,σ3,H3,I3,w3⟩
  | brk=>exact q3
  | ret v=>exact q3
 | false=>
  rw[if_neg QaW]
  exact wpAny_execs_nil ⟨σ1,H2,I2,q2⟩
end
structure It where
 go:Nat->Hp->Prop
 yld:Nat->Hp->V->Hp->Prop
 stop:Nat->Hp->Prop
def Gv (X:Cx) (pins:YC) (H:Hp) (b:Addr):Prop:=
 H b=none/\b≠X.env.locals/\b∉X.fs/\(b∈X.ex\/X.s₀.heap.objs.size<=b)/\(∀x c,X.env.cells.lookup x=some c->c≠b)/\∀p∈X.pn++pins,p.1≠b
theorem Inv.Qu {X:Cx} {pins:YC} {σ : St} {H H':Hp} {s:Shared} {b:Addr} (I:Inv X pins σ H s) (hb:s.heap.objs.size<=b) (hn:H' b=none):Gv X pins H' b:=by
 refine⟨hn,Qck (QaZ I.lt hb),I.qF hb,.inr (Qci I.sz hb),λx c e z=>?_,λp hp z=>?_⟩
 ·obtain⟨v,q⟩:=I.cell x c e
  exact absurd (QaZ q.lt (by rw[z];exact hb)) (QbZ _)
 ·exact absurd (QaZ (Qcf (I.pin p hp).1) (by rw[z];exact hb)) (QbZ _)
structure Turn (P:Program) (w:World) (K:YD) (tg:Expr) (J:It) (fp:List Addr) (it:Addr) (tn:Nat->Heap->Prop):Prop where
 mem:it∈fp
 obj:∀i h,tn i h->∀b∈fp,∃o,h.get? b=some o/\∀v,o.data≠.cell v
 keep:∀i h h',tn i h->(∀b∈fp,∀o,h.get? b=some o->h'.get? b=some o)->tn i h'
 item:∀(X:Cx),X.prog=P->X.w=w->X.K=K->X.calm=true->∀(i:Nat) (pins:YC) (s:Shared) (σ : St) (H:Hp) (E:YA),Inv X pins σ H s->(∀b∈fp,Gv X pins H b)->tn i s.heap->J.go i H ->
  wpAny (model P w) X.A (pyNext (.ref it)) (λr s1=>∃u,r=some u /\
   wpAny (model P w) X.A (letOwnedTupleGo tg (.ref it) u) (λ_ s2=>∃x H',Inv X pins σ H' s2/\RelV x u/\J.yld i H x H'/\tn (i+1) s2.heap/\∀b∈fp,H' b=none) E s1) E s
 done:∀(X:Cx),X.prog=P->X.w=w->X.K=K->X.calm=true->∀(i:Nat) (pins:YC) (s:Shared) (σ : St) (H:Hp) (E:YA),Inv X pins σ H s->(∀b∈fp,Gv X pins H b)->tn i s.heap->J.stop i H ->
  wpAny (model P w) X.A (pyNext (.ref it)) (λr s1=>r=none/\Inv X pins σ H s1) E s
 self:∀(A:Around) (i:Nat) (s:Shared) (Q:YA) (E:YA),tn i s.heap->Q (.ref it) s->wpAny (model P w) A (pyIter (.ref it)) Q E s
abbrev TI:=St->Hp->(It->Hp->Prop)->Prop
def PIE (X:Cx) (pins:YC) (σ : St) (tg:Expr) (R:It->Hp->Prop) (itv:Value) (s2:Shared):Prop:=
 ∃(it:Addr) (fp:List Addr) (tn:Nat->Heap->Prop) (J:It) (H':Hp),itv=.ref it/\Inv X pins σ H' s2/\Turn X.prog X.w X.K tg J fp it tn/\tn 0 s2.heap/\(∀b∈fp,Gv X pins H' b)/\R J H'
def PI (X:Cx) (tg iter:Expr) (wi:TI):Prop:=
 ∀(pins:YC) (s:Shared) (σ : St) (H:Hp) (R:It->Hp->Prop),Inv X pins σ H s->wi σ H R ->
  wpAny (model X.prog X.w) X.A (eval iter X.env) (λv s1=>wpAny (model X.prog X.w) X.A (pyIter v) (PIE X pins σ tg R) X.xe s1) X.xe s
theorem VD {M:Model} {A:Around} {E:YA} {s:Shared} {tg:Expr} {it:Addr} {u:Value} {o:Obj} {n:String} {vs:Array Value} {Q:YH} (ho:s.heap.get? it=some o) (hc:o.cls=.type n) (hd:o.data=.fields vs)
    (hn:["enumerate","zip","dict_itemiterator","dict_reverseitemiterator","odict_iterator","itertools.zip_longest","itertools.pairwise"].contains n=false) (hQ:Q () s):wpAny M A (letOwnedTupleGo tg (.ref it) u) Q E s:=by
  unfold letOwnedTupleGo
  cases tg <;> first
    | exact Qcv hQ
    | (cases u <;> first
        | exact Qcv hQ
        | (refine Qcu (wpAny_load ho ?_)
           rw[hc,hd]
           show wpAny M A (if (["enumerate","zip","dict_itemiterator","dict_reverseitemiterator","odict_iterator","itertools.zip_longest","itertools.pairwise"].contains n&&vs[0]? == some (rawInt _))=true then _ else _) Q E s
           rw[if_neg (by intro h;rw[hn,Bool.false_and] at h;cases h)]
           exact Qcv hQ))
def Itl (K:YD) (a:Addr):It:=
 ⟨λi H=>∃xs x,SqL K H a xs/\xs[i]?=some x,λi H x H'=>H'=H/\∀xs,SqL K H a xs->xs[i]?=some x,λi H=>∃xs,SqL K H a xs/\xs.length<=i⟩
def Itt (K:YD) (a:Addr):It:=
 ⟨λi H=>∃xs x,SqT K H a xs/\xs[i]?=some x,λi H x H'=>H'=H/\∀xs,SqT K H a xs->xs[i]?=some x,λi H=>∃xs,SqT K H a xs/\xs.length<=i⟩
def Itr (lo:Int) (n:Nat):It:=⟨λi _=>i < n,λi H x H'=>H'=H/\x=.int (lo+i),λi _=>n<=i⟩
theorem jz {P:Program} {w:World} {K:YD} {tg:Expr} (a it:Addr):Turn P w K tg (Itl K a) [it] it (λi h=>h.IsListIter it a i) where
 mem:=by simp
 obj:=λi h st b hb=>by
  have e:b=it:=by simpa using hb
  subst e
  obtain⟨o,e,c,d⟩:=st
  exact⟨o,e,λv z=>by rw[d] at z;cases z⟩
 keep:=λi h h' st k=>st.at λo e=>k it (by simp) o e
 item:=by
  intro X hP hw hK hc i pins s σ H E I hf st hg
  subst hP hw hK
  obtain⟨xs,x,hq,hx⟩:=hg
  obtain⟨its,rv,p,hz⟩:=I.list hq
  obtain⟨u,hu,ru⟩:=rv.get hx
  obtain⟨f0,f1,f2,f3,f4,f5⟩:=hf it (by simp)
  refine wpAny_pyNext_list_item st p.isList (x:=u) (by simpa using hu) λh' st' sb=>?_
  have I1:Inv X pins σ H { s with heap:=h' }:=I.turned (t':=s.toks) (λb o hb e=>(sb.2 b hb).trans e) f0 f1 f3 f4 f5
  obtain⟨o,e,c,d⟩:=id st'
  exact⟨u,rfl,VD (s:={ s with heap:=h' }) e c d (by decide) ⟨x,H,I1,ru,⟨rfl,λys hy=>by rw[I.aj hy hq];exact hx⟩,st',λb hb=>(hf b hb).1⟩⟩
 done:=by
  intro X hP hw hK hc i pins s σ H E I hf st hg
  subst hP hw hK
  obtain⟨xs,hq,hx⟩:=hg
  obtain⟨its,rv,p,hz⟩:=I.list hq
  obtain⟨f0,f1,f2,f3,f4,f5⟩:=hf it (by simp)
  have hl:=rv.length
  exact wpAny_pyNext_list_end (I.ok.hd hc) st p.isList (by simp;omega) λh' eb=>⟨rfl,I.turned (t':=s.toks) (λb o hb e=>eb b o hb e) f0 f1 f3 f4 f5⟩
 self:=λ_ _ _ _ _ st h=>wpAny_pyIter_listiter st h
theorem fV {P:Program} {w:World} {K:YD} {tg:Expr} (a it:Addr):Turn P w K tg (Itt K a) [it] it (λi h=>h.IsTupleIter it a i) where
 mem:=by simp
 obj:=λi h st b hb=>by
  have e:b=it:=by simpa using hb
  subst e
  obtain⟨o,e,c,d⟩:=st
  exact⟨o,e,λv z=>by rw[d] at z;cases z⟩
 keep:=λi h h' st k=>st.at λo e=>k it (by simp) o e
 item:=by
  intro X hP hw hK hc i pins s σ H E I hf st hg
  subst hP hw hK
  obtain⟨xs,x,hq,hx⟩:=hg
  obtain⟨its,rv,p,hz⟩:=I.tuple hq
  obtain⟨u,hu,ru⟩:=rv.get hx
  obtain⟨f0,f1,f2,f3,f4,f5⟩:=hf it (by simp)
  refine wpAny_pyNext_tuple_item st (show s.heap.IsTuple a its.toArray from p) (x:=u) (by simpa using hu) λh' st' sb=>?_
  have I1:Inv X pins σ H { s with heap:=h' }:=I.turned (t':=s.toks) (λb o hb e=>(sb.2 b hb).trans e) f0 f1 f3 f4 f5
  obtain⟨o,e,c,d⟩:=id st'
  exact⟨u,rfl,VD (s:={ s with heap:=h' }) e c d (by decide) ⟨x,H,I1,ru,⟨rfl,λys hy=>by rw[I.Xp hy hq];exact hx⟩,st',λb hb=>(hf b hb).1⟩⟩
 done:=by
  intro X hP hw hK hc i pins s σ H E I hf st hg
  subst hP hw hK
  obtain⟨xs,hq,hx⟩:=hg
  obtain⟨its,rv,p,hz⟩:=I.tuple hq
  obtain⟨f0,f1,f2,f3,f4,f5⟩:=hf it (by simp)
  have hl:=rv.length
  exact wpAny_pyNext_tuple_end (I.ok.hd hc) st (show s.heap.IsTuple a its.toArray from p) (by simp;omega) λh' eb=>⟨rfl,I.turned (t':=s.toks) (λb o hb e=>eb b o hb e) f0 f1 f3 f4 f5⟩
 self:=λ_ _ _ _ _ st h=>wpAny_pyIter_tupleiter st h
theorem fW {P:Program} {w:World} {K:YD} {tg:Expr} (it:Addr) (lo:Int) (n:Nat):Turn P w K tg (Itr lo n) [it] it (λi h=>IsRangeIter h it (lo+(i:Nat)*1) ((n:Int) - (i:Nat)) 1) where
 mem:=by simp
 obj:=λi h st b hb=>by
  have e:b=it:=by simpa using hb
  subst e
  exact⟨_,st,λv z=>by
   have z':Data.fields _=Data.cell v:=z
   cases z'⟩
 keep:=λi h h' st k=>k it (by simp) _ st
 item:=by
  intro X hP hw hK hc i pins s σ H E I hf st hg
  subst hP hw hK
  obtain⟨f0,f1,f2,f3,f4,f5⟩:=hf it (by simp)
  have W:=Walks.range (prog:=X.prog) (w:=X.w) (I.ok.hd hc) it lo 1 n
  refine W.item i s _ _ hg st λv h' tk hv st' kk=>?_
  obtain⟨t,rfl⟩:=hv
  have I1:Inv X pins σ H { s with heap:=h',toks:=tk }:=I.turned (λb o hb e=>kk b o (by simpa using hb) e) f0 f1 f3 f4 f5
  refine⟨_,rfl,VD (s:={ s with heap:=h',toks:=tk }) (n:="range_iterator") st' rfl rfl (by decide) ⟨.int (lo+i),H,I1,⟨t,?_⟩,⟨rfl,rfl⟩,st',λb hb=>(hf b hb).1⟩⟩
  rw[Int.mul_one]
 done:=by
  intro X hP hw hK hc i pins s σ H E I hf st hg
  subst hP hw hK
  obtain⟨f0,f1,f2,f3,f4,f5⟩:=hf it (by simp)
  exact wpAny_pyNext_range_end (I.ok.hd hc) st (by have:n<=i:=hg;omega) λh' eb=>⟨rfl,I.turned (t':=s.toks) (λb o hb e=>eb b o hb e) f0 f1 f3 f4 f5⟩
 self:=λ_ _ _ _ _ st h=>wpAny_pyIter_rangeiter st h
section
variable {X:Cx} {tg:Expr}
def A8 (K:YD) (tl:TE):TI:=fun σ H R=>tl σ H λx H1=>∃a,x=.ref a/\(∃xs,SqL K H1 a xs)/\R (Itl K a) H1
def EU (K:YD) (tl:TE):TI:=fun σ H R=>tl σ H λx H1=>∃a,x=.ref a/\(∃xs,SqT K H1 a xs)/\R (Itt K a) H1
theorem Dk {l:Expr} {tl:TE} (hl:PE X l tl):PI X tg l (A8 X.K tl):=by
 intro pins s σ H R I h
 refine thn (hl pins s σ H _ I h) λv s1 zz=>?_
 obtain⟨x,H1,I1,r1,q1⟩:=zz
 obtain⟨a,e,⟨xs,hq⟩,q⟩:=q1
 subst e
 cases r1
 obtain⟨its,rv,p,hz⟩:=I1.list hq
 refine Qbr p.isList ?_
 refine⟨s1.heap.objs.size,[s1.heap.objs.size],_,_,H1,rfl,I1.kept (t':=s1.toks) λb o e=>Qav _ e,jz a _,⟨_,QaJ _ rfl,rfl,rfl⟩,λb hb=>?_,q⟩
 have e:b=s1.heap.objs.size:=by simpa using hb
 subst e
 exact I1.Qu (Qcn _) (I1.hok.fresh (Qcn _))
theorem Fy {l:Expr} {tl:TE} (hl:PE X l tl):PI X tg l (EU X.K tl):=by
 intro pins s σ H R I h
 refine thn (hl pins s σ H _ I h) λv s1 zz=>?_
 obtain⟨x,H1,I1,r1,q1⟩:=zz
 obtain⟨a,e,⟨xs,hq⟩,q⟩:=q1
 subst e
 cases r1
 obtain⟨its,rv,p,hz⟩:=I1.tuple hq
 refine Qbb (show s1.heap.IsTuple a its.toArray from p) ?_
 refine⟨s1.heap.objs.size,[s1.heap.objs.size],_,_,H1,rfl,I1.kept (t':=s1.toks) λb o e=>Qav _ e,fV a _,⟨_,QaJ _ rfl,rfl,rfl⟩,λb hb=>?_,q⟩
 have e:b=s1.heap.objs.size:=by simpa using hb
 subst e
 exact I1.Qu (Qcn _) (I1.hok.fresh (Qcn _))
theorem Zz {pins:YC} {σ : St} {H:Hp} {s:Shared} {R:It->Hp->Prop} {E:YA} {lo hi:Int} {t u v:Tok} {tk:Nat} (I:Inv X pins σ H s) (h1:-(2 ^ 62)<=lo) (h2:lo < 2 ^ 62) (h3:-(2 ^ 62)<=hi) (h4:hi < 2 ^ 62)
  (q:R (Itr lo (hi - lo).toNat) H):wpAny (model X.prog X.w) X.A (pyIter (.ref s.heap.objs.size)) (PIE X pins σ tg R) E { s with heap:=s.heap.push { cls:=.type "range",data:=.fields #[.int lo t,.int hi u,.int 1 v] },toks:=tk }:=by
 refine wpAny_pyIter_range (IsRange.new ..) (small_one h1 h2 h3 h4) ?_
 have I1:Inv X pins σ H { s with heap:=s.heap.push { cls:=.type "range",data:=.fields #[.int lo t,.int hi u,.int 1 v] },toks:=tk }:=I.kept λb o e=>Qav _ e
 refine⟨(s.heap.push { cls:=.type "range",data:=.fields #[.int lo t,.int hi u,.int 1 v] }).objs.size,[(s.heap.push { cls:=.type "range",data:=.fields #[.int lo t,.int hi u,.int 1 v] }).objs.size],_,_,H,rfl,
  I1.kept (t':=tk) λb o e=>Qav _ e,fW _ lo (hi - lo).toNat,?_,λb hb=>?_,q⟩
 ·have e1:lo+((0:Nat):Int)*1=lo:=by simp
  have e2:(((hi - lo).toNat:Nat):Int) - ((0:Nat):Int)=Builtin.Range.rangeSize lo hi 1:=by rw[rangeSize_one];split <;> omega
  show IsRangeIter _ _ (lo+((0:Nat):Int)*1) ((((hi - lo).toNat:Nat):Int) - ((0:Nat):Int)) 1
  rw[e1,e2]
  exact QaJ _ rfl
 ·have e:b=(s.heap.push { cls:=.type "range",data:=.fields #[.int lo t,.int hi u,.int 1 v] }).objs.size:=by simpa using hb
  subst e
  exact I1.Qu (Qcn _) (I1.hok.fresh (Qcn _))
def A7 (ta:TA):TI:=fun σ H R=>ta σ H λvs H1=>∃j:Int,vs=[.int j]/\-(2 ^ 62)<=j/\j < 2 ^ 62/\R (Itr 0 j.toNat) H1
def A6 (ta:TA):TI:=fun σ H R=>ta σ H λvs H1=>∃i j:Int,vs=[.int i,.int j]/\(-(2 ^ 62)<=i/\i < 2 ^ 62/\-(2 ^ 62)<=j/\j < 2 ^ 62)/\R (Itr i (j - i).toNat) H1
theorem DG {a:Expr} {ta:TA} {p pos:Pos} (hg:Gl X "range") (hm:X.mg "range"=none) (ha:PA X [a] ta) (hs:starEach [a] X.env=[(false,eval a X.env)]:=by rfl):PI X tg (.Call (.Name "range" p) [a] [] pos) (A7 ta):=by
 intro pins s σ H R I h
 refine Call_ (JR I hg hm boot_range (Qae (thn (ha pos pins s σ H _ I h) λus s1 zz=>?_) hs rfl))
 obtain⟨vs,H1,I1,r1,q1⟩:=zz
 obtain⟨j,e,q1,q2,q⟩:=q1
 subst e
 cases r1 with
 | cons r rr=>
  cases rr
  obtain⟨t,rfl⟩:=r
  exact call_range_1 (Zz I1 (by omega) (by omega) q1 q2 (by simpa using q))
theorem Xw {a b:Expr} {ta:TA} {p pos:Pos} (hg:Gl X "range") (hm:X.mg "range"=none) (ha:PA X [a,b] ta) (hs:starEach [a,b] X.env=[(false,eval a X.env),(false,eval b X.env)]:=by rfl) (hs2:starEach [b] X.env=[(false,eval b X.env)]:=by rfl) :
  PI X tg (.Call (.Name "range" p) [a,b] [] pos) (A6 ta):=by
 intro pins s σ H R I h
 refine Call_ (JR I hg hm boot_range (Qae (thn (ha pos pins s σ H _ I h) λus s1 zz=>?_) (by rw[hs,hs2]) (by rw[hs2];rfl)))
 obtain⟨vs,H1,I1,r1,q1⟩:=zz
 obtain⟨i,j,e,⟨q1,q2,q3,q4⟩,q⟩:=q1
 subst e
 cases r1 with
 | cons r rr=>
  cases rr with
  | cons r' rr=>
   cases rr
   obtain⟨t,rfl⟩:=r
   obtain⟨t',rfl⟩:=r'
   exact call_range_2 (Zz I1 q1 q2 q3 q4 q)
def DQ (wi:TI) (g:TG) (tb:TS):TS:=λD σ H=>wi σ H λJ H1=>∃W:Nat->YN,(∃m,W 0 m σ H1)/\∀i m σ H,W i m σ H ->
 (J.stop i H/\D.nx σ H)\/(J.go i H/\∃N:YO,(∀ σ' H',N σ' H'->∃m',m' < m/\W (i+1) m' σ' H')/\∀x H',J.yld i H x H'->g x σ H' fun σ2 H2=>tb { D with nx:=N,ct:=N,bk:=D.nx } σ2 H2)
def Ni (fp:List Addr) (h:Heap):YC:=fp.filterMap λb=>(h.get? b).map λo=>(b,o)
theorem JQ {fp:List Addr} {h:Heap} {b:Addr} {o:Obj} (hb:b∈fp) (e:h.get? b=some o):(b,o)∈Ni fp h:=List.mem_filterMap.mpr ⟨b,hb,by rw[e];rfl⟩
theorem kO {fp:List Addr} {h:Heap} {p:Addr×Obj} (hp:p∈Ni fp h):p.1∈fp/\h.get? p.1=some p.2:=by
 obtain⟨b,hb,e⟩:=List.mem_filterMap.mp hp
 cases q:h.get? b with
 | none=>rw[q] at e;cases e
 | some o=>
  rw[q] at e
  have e':(b,o)=p:=QbH e
  subst e'
  exact⟨hb,q⟩
theorem Inv.pinned {pins:YC} {σ : St} {H:Hp} {s:Shared} {fp:List Addr} (I:Inv X pins σ H s) (hf:∀b∈fp,Gv X pins H b) (ho:∀b∈fp,∃o,s.heap.get? b=some o/\∀v,o.data≠.cell v):Inv X (pins++Ni fp s.heap) σ H s:=
 I.Sy λp hp=>(QbC.mp hp).elim (λz=>I.pin p (QaB _ z)) λz=>by
  obtain⟨hb,e⟩:=kO z
  obtain⟨f0,f1,f2,_⟩:=hf p.1 hb
  obtain⟨o,e',d⟩:=ho p.1 hb
  rw[e] at e';cases e'
  exact⟨e,f0,f1,f2,d⟩
theorem Inv.Hf {pins pl:YC} {σ : St} {H:Hp} {s:Shared} (I:Inv X (pins++pl) σ H s):Inv X pins σ H s:=I.Sy λp hp=>I.pin p (QaB _ (QaH _ hp))
theorem Cj {iter:Expr} {body:List Stmt} {wi:TI} {g:TG} {tb:TS} {pos:Pos} (hp:PassesOwn (model X.prog X.w) X.A X.env X.xe) (hc:X.calm=true) (hi:PI X tg iter wi) (hg:PG X tg g) (hb:PSs X body tb)
  (hs:∀x,foldedSetIterable iter X.env x=pure x:=by intro _;rfl):PS X (.For tg iter body [] pos) (DQ wi g tb):=by
 intro pins s σ H D I h
 refine wpAny_For (thn (hi pins s σ H _ I h) λv s1 h1=>thn h1 λitv s2 h2=>?_) hs
 obtain⟨it,fp,tn,J,H2,e,I2,T,st2,f2,W,⟨m0,w0⟩,turn⟩:=h2
 subst e
 have stat:∀{H':Hp},(∀b∈fp,H' b=none)->∀b∈fp,Gv X pins H' b:=λhn b hb=>⟨hn b hb,(f2 b hb).2⟩
 refine codeAny_forLoop_any (λn s'=>∃i σ' H',Inv X pins σ' H' s'/\tn i s'.heap/\(∀b∈fp,H' b=none)/\W i n σ' H') ?_ m0 ⟨0,σ,H2,I2,st2,λb hb=>(f2 b hb).1,w0⟩
 rintro n s3 ⟨i,σ3,H3,I3,st3,fr3,w3⟩
 rcases turn i n σ3 H3 w3 with⟨stop,qn⟩|⟨go,N,hN,step⟩
 ·refine QbN hp (thn (T.done X rfl rfl rfl hc i pins s3 σ3 H3 X.xe I3 (stat fr3) st3 stop) λr s4 zz=>?_)
  obtain⟨hr,I4⟩:=zz
  subst hr
  exact wpAny_execs_nil ⟨σ3,H3,I4,qn⟩
 ·refine QbN hp (thn (T.item X rfl rfl rfl hc i pins s3 σ3 H3 X.xe I3 (stat fr3) st3 go) λr s4 zz=>?_)
  obtain⟨u,hr,h4⟩:=zz
  subst hr
  refine QbN hp (thn h4 λ_ s5 zz=>?_)
  obtain⟨x,H5,I5,r5,y5,st5,fr5⟩:=zz
  have I5':=I5.pinned (stat fr5) (T.obj _ _ st5)
  refine QbN hp (thn (hg _ s5 σ3 H5 x u _ I5' r5 (step x H5 y5)) λ_ s6 zz=>?_)
  obtain⟨σ6,H6,I6,q6⟩:=zz
  refine QbN hp (thn (hb _ s6 σ6 H6 _ I6 q6) λf s7 q7=>?_)
  have again:∀{σ7:St} {H7:Hp},Inv X (pins++Ni fp s5.heap) σ7 H7 s7->N σ7 H7->∃m,m < n/\∃i σ' H',Inv X pins σ' H' s7/\tn i s7.heap/\(∀b∈fp,H' b=none)/\W i m σ' H':=λ{σ7 H7} I7 n7=>by
   obtain⟨m',hm,w7⟩:=hN σ7 H7 n7
   refine⟨m',hm,i+1,σ7,H7,I7.Hf,T.keep _ _ _ st5 λb hb o e=>(I7.pin (b,o) (QaB _ (QaB _ (JQ hb e)))).1,λb hb=>?_,w7⟩
   obtain⟨o,e,d⟩:=T.obj _ _ st5 b hb
   exact (I7.pin (b,o) (QaB _ (QaB _ (JQ hb e)))).2.1
  cases f with
  | next=>obtain⟨σ7,H7,I7,n7⟩:=q7;exact again I7 n7
  | cont=>obtain⟨σ7,H7,I7,n7⟩:=q7;exact again I7 n7
  | brk=>obtain⟨σ7,H7,I7,q7⟩:=q7;exact⟨σ7,H7,I7.Hf,q7⟩
  | ret v=>obtain⟨x7,σ7,H7,I7,r7,q7⟩:=q7;exact⟨x7,σ7,H7,I7.Hf,r7,q7⟩
end
theorem Qv {K:YD} {a:Addr} {xs:YG} {g:TG} {tb:TS} {D:Ends} {σ : St} {H:Hp} (Pv:YN) (h0:Pv 0 σ H) (hl:∀i σ H,i<=xs.length->Pv i σ H->SqL K H a xs)
  (hs:∀i x σ H,xs[i]?=some x->Pv i σ H->g x σ H fun σ2 H2=>tb { D with nx:=Pv (i+1),ct:=Pv (i+1),bk:=D.nx } σ2 H2) (hd:∀ σ H,Pv xs.length σ H->D.nx σ H) :
  ∃W:Nat->YN,(∃m,W 0 m σ H)/\∀i m σ H,W i m σ H ->
   ((Itl K a).stop i H/\D.nx σ H)\/((Itl K a).go i H/\∃N:YO,(∀ σ' H',N σ' H'->∃m',m' < m/\W (i+1) m' σ' H')/\∀x H',(Itl K a).yld i H x H'->g x σ H' fun σ2 H2=>tb { D with nx:=N,ct:=N,bk:=D.nx } σ2 H2):=by
 refine⟨λi m σ H=>m=xs.length - i/\i<=xs.length/\Pv i σ H,⟨xs.length,by simp,Qco _,h0⟩,?_⟩
 rintro i m σ H ⟨rfl,hi,p⟩
 have q:=hl i σ H hi p
 by_cases hlt:i < xs.length
 ·refine .inr ⟨⟨xs,xs[i],q,by simp[hlt]⟩,Pv (i+1),fun σ' H' p'=>⟨xs.length - (i+1),by omega,rfl,hlt,p'⟩,λx H' y=>?_⟩
  obtain⟨e,y⟩:=y
  subst e
  exact hs i x σ _ (y xs q) p
 ·have e:i=xs.length:=by omega
  subst e
  exact .inl ⟨⟨xs,q,Qcn _⟩,hd σ H p⟩
theorem Mx {K:YD} {a:Addr} {xs:YG} {g:TG} {tb:TS} {D:Ends} {σ : St} {H:Hp} (Pv:YN) (h0:Pv 0 σ H) (hl:∀i σ H,i<=xs.length->Pv i σ H->SqT K H a xs)
  (hs:∀i x σ H,xs[i]?=some x->Pv i σ H->g x σ H fun σ2 H2=>tb { D with nx:=Pv (i+1),ct:=Pv (i+1),bk:=D.nx } σ2 H2) (hd:∀ σ H,Pv xs.length σ H->D.nx σ H) :
  ∃W:Nat->YN,(∃m,W 0 m σ H)/\∀i m σ H,W i m σ H ->
   ((Itt K a).stop i H/\D.nx σ H)\/((Itt K a).go i H/\∃N:YO,(∀ σ' H',N σ' H'->∃m',m' < m/\W (i+1) m' σ' H')/\∀x H',(Itt K a).yld i H x H'->g x σ H' fun σ2 H2=>tb { D with nx:=N,ct:=N,bk:=D.nx } σ2 H2):=by
 refine⟨λi m σ H=>m=xs.length - i/\i<=xs.length/\Pv i σ H,⟨xs.length,by simp,Qco _,h0⟩,?_⟩
 rintro i m σ H ⟨rfl,hi,p⟩
 have q:=hl i σ H hi p
 by_cases hlt:i < xs.length
 ·refine .inr ⟨⟨xs,xs[i],q,by simp[hlt]⟩,Pv (i+1),fun σ' H' p'=>⟨xs.length - (i+1),by omega,rfl,hlt,p'⟩,λx H' y=>?_⟩
  obtain⟨e,y⟩:=y
  subst e
  exact hs i x σ _ (y xs q) p
 ·have e:i=xs.length:=by omega
  subst e
  exact .inl ⟨⟨xs,q,Qcn _⟩,hd σ H p⟩
theorem FP {lo:Int} {n:Nat} {g:TG} {tb:TS} {D:Ends} {σ : St} {H:Hp} (Pv:YN) (h0:Pv 0 σ H)
  (hs:∀i σ H,i < n->Pv i σ H->g (.int (lo+i)) σ H fun σ2 H2=>tb { D with nx:=Pv (i+1),ct:=Pv (i+1),bk:=D.nx } σ2 H2) (hd:∀ σ H,Pv n σ H->D.nx σ H) :
  ∃W:Nat->YN,(∃m,W 0 m σ H)/\∀i m σ H,W i m σ H ->
   ((Itr lo n).stop i H/\D.nx σ H)\/((Itr lo n).go i H/\∃N:YO,(∀ σ' H',N σ' H'->∃m',m' < m/\W (i+1) m' σ' H')/\∀x H',(Itr lo n).yld i H x H'->g x σ H' fun σ2 H2=>tb { D with nx:=N,ct:=N,bk:=D.nx } σ2 H2):=by
 refine⟨λi m σ H=>m=n - i/\i<=n/\Pv i σ H,⟨n,by simp,Qco _,h0⟩,?_⟩
 rintro i m σ H ⟨rfl,hi,p⟩
 by_cases hlt:i < n
 ·refine .inr ⟨hlt,Pv (i+1),fun σ' H' p'=>⟨n - (i+1),by omega,rfl,hlt,p'⟩,λx H' y=>?_⟩
  obtain⟨e,y⟩:=y
  subst e y
  exact hs i σ _ hlt p
 ·have e:i=n:=by omega
  subst e
  exact .inl ⟨Qcn _,hd σ H p⟩
abbrev R2:=V->V->Hp->VK->Prop
def OpR (X:Cx) (f:Value->Value->Sem Value) (r:R2):Prop:=
 ∀(pins:YC) (s:Shared) (σ : St) (H:Hp) (x y:V) (v u:Value) (Q:VK),Inv X pins σ H s->RelV x v->RelV y u->r x y H Q ->
  wpAny (model X.prog X.w) X.A (f v u) (EP X pins σ Q) X.xe s
def UnR (X:Cx) (f:Value->Sem Value) (r:V->Hp->VK->Prop):Prop:=
 ∀(pins:YC) (s:Shared) (σ : St) (H:Hp) (x:V) (v:Value) (Q:VK),Inv X pins σ H s->RelV x v->r x H Q ->
  wpAny (model X.prog X.w) X.A (f v) (EP X pins σ Q) X.xe s
def FW (X:Cx) (f:Value) (r:YG->Hp->VK->Prop):Prop:=
 ∀(pins:YC) (s:Shared) (σ : St) (H:Hp) (xs:YG) (us:YE) (Q:VK),Inv X pins σ H s->Vals xs us->r xs H Q ->
  wpAny (model X.prog X.w) X.A (call f us) (EP X pins σ Q) X.xe s
def KB (X:Cx) (r:V->Hp->(Bool->Hp->Prop)->Prop):Prop:=
 ∀(pins:YC) (s:Shared) (σ : St) (H:Hp) (x:V) (v:Value) (Q:Bool->Hp->Prop),Inv X pins σ H s->RelV x v->r x H Q ->
  wpAny (model X.prog X.w) X.A (truthy v) (TP X pins σ Q) X.xe s
def tOp (r:R2) (ta tb:TE):TE:=fun σ H Q=>ta σ H λx H1=>tb σ H1 λy H2=>r x y H2 Q
def tUn (r:V->Hp->VK->Prop) (ta:TE):TE:=fun σ H Q=>ta σ H λx H1=>r x H1 Q
def rI (C:Int->Int->Prop) (g:Int->Int->V):R2:=λx y H Q=>∃i j,x=.int i/\y=.int j/\C i j/\Q (g i j) H
def rI0 (g:Int->Int->V):R2:=λx y H Q=>∃i j,x=.int i/\y=.int j/\Q (g i j) H
def rU (g:Int->V):V->Hp->VK->Prop:=λx H Q=>∃i,x=.int i/\Q (g i) H
section
variable {X:Cx} {a b c:Expr} {ta tb tc:TE} {pos:Pos}
theorem rO (ha:PE X a ta) (hb:PE X b tb) {pins:YC} {s:Shared} {σ : St} {H:Hp} {R:V->V->Hp->Prop} (I:Inv X pins σ H s)
  (h:ta σ H λx H1=>tb σ H1 λy H2=>R x y H2) {Q:YA} {f:Value->Value->Sem Value}
  (hf:∀v u s2 x y H2,Inv X pins σ H2 s2->RelV x v->RelV y u->R x y H2->wpAny (model X.prog X.w) X.A (f v u) Q X.xe s2) :
  wpAny (model X.prog X.w) X.A (eval a X.env) (λv s₁=>wpAny (model X.prog X.w) X.A (eval b X.env) (λu s₂=>wpAny (model X.prog X.w) X.A (f v u) Q X.xe s₂) X.xe s₁) X.xe s:=by
 refine thn (ha pins s σ H _ I h) λv s1 zz=>?_
 obtain⟨x,H1,I1,r1,q1⟩:=zz
 refine thn (hb pins s1 σ H1 _ I1 q1) λu s2 zz=>?_
 obtain⟨y,H2,I2,r2,q2⟩:=zz
 exact hf v u s2 x y H2 I2 r1 r2 q2
theorem Bc {op:Operator} {r:R2} (ho:OpR X (binaryOp op) r) (ha:PE X a ta) (hb:PE X b tb):PE X (.BinOp a op b pos) (tOp r ta tb):=by
 intro pins s σ H Q I h
 exact wpAny_BinOp (rO ha hb I h λv u s2 x y H2 I2 rx ry q=>ho pins s2 σ H2 x y v u Q I2 rx ry q)
theorem Vf {op:UnaryOp} {r:V->Hp->VK->Prop} (ho:UnR X (unaryOp op) r) (ha:PE X a ta):PE X (.UnaryOp op a pos) (tUn r ta):=by
 intro pins s σ H Q I h
 refine UnaryOp_ (thn (ha pins s σ H _ I h) λv s1 zz=>?_)
 obtain⟨x,H1,I1,r1,q1⟩:=zz
 exact ho pins s1 σ H1 x v Q I1 r1 q1
theorem opI {f:Value->Value->Sem Value} {C:Int->Int->Prop} {g:Int->Int->Int}
  (rule:∀(i j:Int) (t u:Tok) (s:Shared) (Q:YA) (E:YA),C i j->Q (.int (g i j) s.toks) { s with toks:=s.toks+1 }->wpAny (model X.prog X.w) X.A (f (.int i t) (.int j u)) Q E s) :
  OpR X f (rI C λi j=>.int (g i j)):=by
 intro pins s σ H x y v u Q I rx ry h
 obtain⟨i,j,rfl,rfl,hc,q⟩:=h
 obtain⟨t,rfl⟩:=rx
 obtain⟨t',rfl⟩:=ry
 exact rule i j t t' s _ _ hc ⟨.int (g i j),H,I.tok _,⟨_,rfl⟩,q⟩
theorem yw {f:Value->Value->Sem Value} {g:Int->Int->Int}
  (rule:∀(i j:Int) (t u:Tok) (s:Shared) (Q:YA) (E:YA),Q (.int (g i j) s.toks) { s with toks:=s.toks+1 }->wpAny (model X.prog X.w) X.A (f (.int i t) (.int j u)) Q E s) :
  OpR X f (rI0 λi j=>.int (g i j)):=by
 intro pins s σ H x y v u Q I rx ry h
 obtain⟨i,j,rfl,rfl,q⟩:=h
 obtain⟨t,rfl⟩:=rx
 obtain⟨t',rfl⟩:=ry
 exact rule i j t t' s _ _ ⟨.int (g i j),H,I.tok _,⟨_,rfl⟩,q⟩
theorem gW {f:Value->Value->Sem Value} {g:Int->Int->Bool}
  (rule:∀(i j:Int) (t u:Tok) (s:Shared) (Q:YA) (E:YA),Q (.bool (g i j)) s->wpAny (model X.prog X.w) X.A (f (.int i t) (.int j u)) Q E s) :
  OpR X f (rI0 λi j=>.bl (g i j)):=by
 intro pins s σ H x y v u Q I rx ry h
 obtain⟨i,j,rfl,rfl,q⟩:=h
 obtain⟨t,rfl⟩:=rx
 obtain⟨t',rfl⟩:=ry
 exact rule i j t t' s _ _ ⟨.bl (g i j),H,I,rfl,q⟩
def KK (i j:Int):Prop:=0 < j/\j < 1073741824
def KI (i j:Int):Prop:=0<=j/\j<=1000000/\i.natAbs < 2 ^ 64
def jw (i j:Int):Prop:=(-(2 ^ 64) < i/\i < 2 ^ 64)\/(-(2 ^ 64) < j/\j < 2 ^ 64)
theorem jw.ok {i j:Int} (h:jw i j):IntMulOk i j:=by
 rcases h with⟨h1,h2⟩|⟨h1,h2⟩
 ·exact .of_left (intBits_le_64 h1 h2)
 ·exact .of_right (intBits_le_64 h1 h2)
theorem Ca:OpR X (binaryOp .Add) (rI0 λi j=>.int (i+j)):=yw λ_ _ _ _ _ _ _ q=>add_int q
theorem Nu:OpR X (binaryOp .Sub) (rI0 λi j=>.int (i - j)):=yw λ_ _ _ _ _ _ _ q=>sub_int q
theorem Hs:OpR X (binaryOp .Mult) (rI jw λi j=>.int (i*j)):=opI λ_ _ _ _ _ _ _ hc q=>mul_int q hc.ok
theorem Wv:OpR X (binaryOp .FloorDiv) (rI KK λi j=>.int (i / j)):=opI λi j _ _ _ _ _ hc q=>by
 have h1:(0:Int) < j:=hc.1
 have h2:j < 1073741824:=hc.2
 exact floordiv_int (by omega) (by rw[Int.fdiv_eq_ediv_of_nonneg i (by omega)];exact q) (.inl (PyProof.noPylong_small (by omega)))
theorem Ld:OpR X (binaryOp .Mod) (rI (λ_ j=>0 < j) λi j=>.int (i % j)):=opI λi j _ _ _ _ _ hc q=>by
 have h1:(0:Int) < j:=hc
 exact mod_int' (by omega) (by rw[Int.fmod_eq_emod_of_nonneg i (by omega)];exact q)
theorem j7:OpR X (binaryOp .Pow) (rI KI λi j=>.int (i ^ j.toNat)):=opI λ_ _ _ _ _ _ _ hc q=>pow_int_small hc.1 hc.2.1 hc.2.2 q
theorem unI {f:Value->Sem Value} {g:Int->Int}
  (rule:∀(i:Int) (t:Tok) (s:Shared) (Q:YA) (E:YA),Q (.int (g i) s.toks) { s with toks:=s.toks+1 }->wpAny (model X.prog X.w) X.A (f (.int i t)) Q E s) :
  UnR X f (rU λi=>.int (g i)):=by
 intro pins s σ H x v Q I rx h
 obtain⟨i,rfl,q⟩:=h
 obtain⟨t,rfl⟩:=rx
 exact rule i t s _ _ ⟨.int (g i),H,I.tok _,⟨_,rfl⟩,q⟩
theorem QW:UnR X (unaryOp .USub) (rU λi=>.int (-i)):=unI λ_ _ _ _ _ q=>neg_int q
end
def xX:V->V->Bool
 | .non,.non=>true | .non,.int _=>true | .int _,.non=>true | .non,.bl _=>true | .bl _,.non=>true | .non,.str _=>true | .str _,.non=>true
 | .int _,.int _=>true | .bl _,.bl _=>true | .str _,.str _=>true | .byt _,.byt _=>true
 | .int _,.str _=>true | .str _,.int _=>true | .bl _,.str _=>true | .str _,.bl _=>true
 | _,_=>false
def rEq:R2:=λx y H Q=>xX x y=true/\Q (.bl (decide (x=y))) H
def rNe:R2:=λx y H Q=>xX x y=true/\Q (.bl (!decide (x=y))) H
theorem fG {i j:Int}:decide (V.int i=V.int j)=(i == j):=by
 rw[QbL]
 simp
theorem mX {i j:Bool}:decide (V.bl i=V.bl j)=(i == j):=by
 rw[QbL]
 simp
theorem fD {i j:Str}:decide (V.str i=V.str j)=(i == j):=by
 rw[QbL]
 simp
theorem fH {i j:Array UInt8}:decide (V.byt i=V.byt j)=(i.toList == j.toList):=by
 rw[QbL]
 cases i
 cases j
 simp
section
variable {X:Cx} {a b c:Expr} {ta tb tc:TE} {pos:Pos}
theorem BP {pins:YC} {σ : St} {H:Hp} {s:Shared} {Q:VK} {k k':Bool} (I:Inv X pins σ H s) (q:Q (.bl k) H) (e:k=k'):EP X pins σ Q (.bool k') s:=by
 subst e
 exact⟨.bl k,H,I,rfl,q⟩
theorem G7:OpR X (compareOp .Eq) rEq:=by
 intro pins s σ H x y v u Q I rx ry h
 obtain⟨hs,q⟩:=h
 cases x with
 | non=>
  cases rx
  cases y with
  | non=>cases ry;exact PySem.EqNone.eq_none_none (BP I q (by simp))
  | bl j=>cases ry;exact PySem.EqNone.eq_none_bool (BP I q (by simp))
  | int j=>obtain⟨t',rfl⟩:=ry;exact PySem.EqNone.eq_none_int (BP I q (by simp))
  | str j=>obtain⟨t',rfl⟩:=ry;exact PySem.EqNone.eq_none_str (BP I q (by simp))
  | _=>exact absurd (show false=true from hs) QaW
 | bl i=>
  cases rx
  cases y with
  | non=>cases ry;exact PySem.EqNone.eq_bool_none (BP I q (by simp))
  | bl j=>cases ry;exact eq_bool (BP I q mX)
  | str j=>obtain⟨t',rfl⟩:=ry;exact PySem.EqMixed.eq_bool_str (BP I q (by simp))
  | _=>exact absurd (show false=true from hs) QaW
 | int i=>
  obtain⟨t,rfl⟩:=rx
  cases y with
  | non=>cases ry;exact PySem.EqNone.eq_int_none (BP I q (by simp))
  | int j=>obtain⟨t',rfl⟩:=ry;exact eq_int (BP I q fG)
  | str j=>obtain⟨t',rfl⟩:=ry;exact PySem.EqMixed.eq_int_str (BP I q (by simp))
  | _=>exact absurd (show false=true from hs) QaW
 | str i=>
  obtain⟨t,rfl⟩:=rx
  cases y with
  | non=>cases ry;exact PySem.EqNone.eq_str_none (BP I q (by simp))
  | bl j=>cases ry;exact PySem.EqMixed.eq_str_bool (BP I q (by simp))
  | int j=>obtain⟨t',rfl⟩:=ry;exact PySem.EqMixed.eq_str_int (BP I q (by simp))
  | str j=>obtain⟨t',rfl⟩:=ry;exact eq_str (BP I q fD)
  | _=>exact absurd (show false=true from hs) QaW
 | byt i=>
  obtain⟨t,rfl⟩:=rx
  cases y with
  | byt j=>obtain⟨t',rfl⟩:=ry;exact PySem.W.eq_bytes (BP I q fH)
  | _=>exact absurd (show false=true from hs) QaW
 | _=>cases y <;> exact absurd (show false=true from hs) QaW
theorem Vj:OpR X (compareOp .NotEq) rNe:=by
 intro pins s σ H x y v u Q I rx ry h
 obtain⟨hs,q⟩:=h
 cases x with
 | non=>
  cases rx
  cases y with
  | non=>cases ry;exact PySem.EqNone.ne_none_none (BP I q (by simp))
  | bl j=>cases ry;exact PySem.EqNone.ne_none_bool (BP I q (by simp))
  | int j=>obtain⟨t',rfl⟩:=ry;exact PySem.EqNone.ne_none_int (BP I q (by simp))
  | str j=>obtain⟨t',rfl⟩:=ry;exact PySem.EqNone.ne_none_str (BP I q (by simp))
  | _=>exact absurd (show false=true from hs) QaW
 | bl i=>
  cases rx
  cases y with
  | non=>cases ry;exact PySem.EqNone.ne_bool_none (BP I q (by simp))
  | bl j=>cases ry;exact ne_bool (BP I q (congrArg not mX))
  | str j=>obtain⟨t',rfl⟩:=ry;exact PySem.EqMixed.ne_bool_str (BP I q (by simp))
  | _=>exact absurd (show false=true from hs) QaW
 | int i=>
  obtain⟨t,rfl⟩:=rx
  cases y with
  | non=>cases ry;exact PySem.EqNone.ne_int_none (BP I q (by simp))
  | int j=>obtain⟨t',rfl⟩:=ry;exact ne_int (BP I q (congrArg not fG))
  | str j=>obtain⟨t',rfl⟩:=ry;exact PySem.EqMixed.ne_int_str (BP I q (by simp))
  | _=>exact absurd (show false=true from hs) QaW
 | str i=>
  obtain⟨t,rfl⟩:=rx
  cases y with
  | non=>cases ry;exact PySem.EqNone.ne_str_none (BP I q (by simp))
  | bl j=>cases ry;exact PySem.EqMixed.ne_str_bool (BP I q (by simp))
  | int j=>obtain⟨t',rfl⟩:=ry;exact PySem.EqMixed.ne_str_int (BP I q (by simp))
  | str j=>obtain⟨t',rfl⟩:=ry;exact ne_str (BP I q (congrArg not fD))
  | _=>exact absurd (show false=true from hs) QaW
 | byt i=>
  obtain⟨t,rfl⟩:=rx
  cases y with
  | byt j=>obtain⟨t',rfl⟩:=ry;exact PySem.W.ne_bytes (BP I q (congrArg not fH))
  | _=>exact absurd (show false=true from hs) QaW
 | _=>cases y <;> exact absurd (show false=true from hs) QaW
theorem gU:OpR X (compareOp .Lt) (rI0 λi j=>.bl (decide (i < j))):=gW λ_ _ _ _ _ _ _ q=>lt_int q
theorem Mp:OpR X (compareOp .LtE) (rI0 λi j=>.bl (decide (i<=j))):=gW λ_ _ _ _ _ _ _ q=>le_int q
theorem Qf:OpR X (compareOp .Gt) (rI0 λi j=>.bl (decide (j < i))):=gW λ_ _ _ _ _ _ _ q=>gt_int q
theorem AZ:OpR X (compareOp .GtE) (rI0 λi j=>.bl (decide (j<=i))):=gW λ_ _ _ _ _ _ _ q=>ge_int q
theorem j8:OpR X (compareOp .In) (λx y H Q=>∃i j,x=.str i/\y=.str j/\Q (.bl (!(Builtin.Str.occurrences j i 0 j.length 1).isEmpty)) H):=by
 intro pins s σ H x y v u Q I rx ry h
 obtain⟨i,j,rfl,rfl,q⟩:=h
 obtain⟨t,rfl⟩:=rx
 obtain⟨t',rfl⟩:=ry
 exact in_str (BP I q rfl)
theorem yt:OpR X (compareOp .Is) (λx y H Q=>y=.non/\Q (.bl (decide (x=.non))) H):=by
 intro pins s σ H x y v u Q I rx ry h
 obtain⟨rfl,q⟩:=h
 cases ry
 refine is_none_gen (BP I q ?_)
 cases x <;> first
  | (cases rx;rfl)
  | (obtain⟨t,rfl⟩:=rx;rfl)
theorem d7:OpR X (compareOp .IsNot) (λx y H Q=>y=.non/\Q (.bl (!decide (x=.non))) H):=by
 intro pins s σ H x y v u Q I rx ry h
 obtain⟨rfl,q⟩:=h
 cases ry
 refine isnot_none_gen (BP I q ?_)
 cases x <;> first
  | (cases rx;rfl)
  | (obtain⟨t,rfl⟩:=rx;rfl)
theorem Br (b:Expr) {op:CmpOp} (h:op≠.In:=by decide) (h2:op≠.NotIn:=by decide):behindInMarks op b=false:=by
 have e1:(op == CmpOp.In)=false:=by cases op <;> first | rfl | exact absurd rfl h
 have e2:(op == CmpOp.NotIn)=false:=by cases op <;> first | rfl | exact absurd rfl h2
 cases b <;> simp[behindInMarks,e1,e2]
theorem Jt {op:CmpOp} {r:R2} (ho:OpR X (compareOp op) r) (ha:PE X a ta) (hb:PE X b tb) (hm:behindInMarks op b=false):PE X (.Compare a [op] [b] pos) (tOp r ta tb):=by
 intro pins s σ H Q I h
 exact wpAny_Compare1 (rO ha hb I h λv u s2 x y H2 I2 rx ry q=>ho pins s2 σ H2 x y v u Q I2 rx ry q) hm
def AE (t:TE):TT:=fun σ H Q=>t σ H λx H'=>∃k,x=.bl k/\Q k H'
theorem Bj {op:CmpOp} {r:R2} (ho:OpR X (compareOp op) r) (ha:PE X a ta) (hb:PE X b tb) (hm:behindInMarks op b=false):PT X (.Compare a [op] [b] pos) (AE (tOp r ta tb)):=by
 intro pins s σ H Q I h
 refine wpAny_isTrue_Compare1 (thn (ha pins s σ H _ I h) λv s1 ⟨x,H1,I1,r1,q1⟩=>thn (hb pins s1 σ H1 _ I1 q1) λu s2 ⟨y,H2,I2,r2,q2⟩=>
  thn (ho pins s2 σ H2 x y v u _ I2 r1 r2 q2) λc s3 ⟨z,H3,I3,r3,k,e,q3⟩=>?_) hm
 subst e
 cases r3
 exact Qbo ⟨H3,I3,q3⟩
def xH (r r':R2) (ta tb tc:TE):TE:=fun σ H Q=>ta σ H λx H1=>tb σ H1 λy H2=>r x y H2 λz H3=>∃k,z=.bl k /\
 (if k=true then tc σ H3 λw' H4=>r' y w' H4 Q else Q (.bl false) H3)
theorem Qd {op op':CmpOp} {r r':R2} (ho:OpR X (compareOp op) r) (ho':OpR X (compareOp op') r') (ha:PE X a ta) (hb:PE X b tb) (hc:PE X c tc)
  (hm:lastMarks [op,op'] [b,c]=false:=by with_unfolding_all rfl):PE X (.Compare a [op,op'] [b,c] pos) (xH r r' ta tb tc):=by
 intro pins s σ H Q I h
 refine Compare_chain (thn (ha pins s σ H _ I h) λv s1 ⟨x,H1,I1,r1,q1⟩=>chain_link (thn (hb pins s1 σ H1 _ I1 q1) λu s2 ⟨y,H2,I2,r2,q2⟩=>
  thn (ho pins s2 σ H2 x y v u _ I2 r1 r2 q2) λd s3 ⟨z,H3,I3,r3,k,e,q3⟩=>?_)) hm
 subst e
 cases r3
 refine Qbo ?_
 cases k with
 | false=>exact ite_ff ⟨.bl false,H3,I3,rfl,q3⟩
 | true=>exact ite_tt (chain_last (thn (hc pins s3 σ H3 _ I3 q3) λw' s4 ⟨z',H4,I4,r4,q4⟩=>ho' pins s4 σ H4 y z' u w' Q I4 r2 r4 q4))
def At (K:YD) (x:V) (H:Hp) (k:Bool):Prop:=
 match x with
 | .non=>k=false
 | .bl b=>k=b
 | .int i=>k=(i != 0)
 | .str y=>y.length<=sizeLine/\k=((y.length:Int) != 0)
 | .byt y=>y.size<=sizeLine/\k=((y.size:Int) != 0)
 | .ref p=>(∃xs,SqL K H p xs/\k=!xs.isEmpty)\/(∃xs,SqT K H p xs/\k=!xs.isEmpty)\/∃kvs,H p=some (.dK kvs)/\k=!kvs.isEmpty
 | _=>False
theorem iR {κ : Type} {kvs:List (κ×V)} {vs:List (κ×Value)} (r:KV kvs vs):(!vs.isEmpty)=!kvs.isEmpty:=by
 cases r <;> rfl
theorem Vx {xs:YG} {its:YE} (r:Vals xs its):(!its.toArray.isEmpty)=!xs.isEmpty:=by
 cases r <;> simp
theorem Nx:(sizeLine:Nat) < 2 ^ 63:=by rw[Qcr];decide
theorem wU:KB X (λx H Q=>∃k,At X.K x H k/\Q k H):=by
 intro pins s σ H x v Q I rx h
 obtain⟨k,e,q⟩:=h
 have hl:=Nx
 have hs:sizeLine=16777216:=Qcr
 cases x with
 | non=>
  cases rx
  have e':k=false:=e
  subst e'
  exact truthy_none ⟨H,I,q⟩
 | bl b=>
  cases rx
  have e':k=b:=e
  subst e'
  exact Qbo ⟨H,I,q⟩
 | int i=>
  obtain⟨t,rfl⟩:=rx
  have e':k=(i != 0):=e
  subst e'
  exact PySem.P.truthy_int ⟨H,I,q⟩
 | str y=>
  obtain⟨t,rfl⟩:=rx
  obtain⟨hy,e'⟩ : y.length<=sizeLine/\k=((y.length:Int) != 0):=e
  subst e'
  exact PySem.P.truthy_str (by omega) ⟨H,I.tok _,q⟩
 | byt y=>
  obtain⟨t,rfl⟩:=rx
  obtain⟨hy,e'⟩ : y.size<=sizeLine/\k=((y.size:Int) != 0):=e
  subst e'
  exact PySem.W.truthy_bytes (by omega) ⟨H,I.tok _,q⟩
 | ref p=>
  cases rx
  have e':(∃xs,SqL X.K H p xs/\k=!xs.isEmpty)\/(∃xs,SqT X.K H p xs/\k=!xs.isEmpty)\/∃kvs,H p=some (.dK kvs)/\k=!kvs.isEmpty:=e
  rcases e' with⟨xs,hx,e'⟩|⟨xs,hx,e'⟩|⟨kvs,hx,e'⟩
  ·subst e'
   obtain⟨its,r,pl,hz⟩:=I.list hx
   have hlen:=r.length
   exact wpAny_truthy_list pl.isList (by simp only[Qbi];omega) ⟨H,I.tok _,by rw[Vx r];exact q⟩
  ·subst e'
   obtain⟨its,r,pl,hz⟩:=I.tuple hx
   have hlen:=r.length
   exact truthy_tuple pl (by simp only[Qbi];omega) ⟨H,I.tok _,by rw[Vx r];exact q⟩
  ·subst e'
   obtain⟨hz,hS,vs,r,m⟩ : kvs.length<=sizeLine/\(p == sysModules)=false/\∃vs,KV kvs vs/\s.heap.DictOf (CV X.prog X.w) p vs:=I.hok p _ hx
   have hlen:kvs.length=vs.length:=QbW r
   exact wpAny_truthy_dict hS m (by omega) ⟨H,I.tok _,by rw[iR r];exact q⟩
 | _=>exact (show False from e).elim
theorem pP (ha:PE X a ta) (he:∀whole,isTrue a X.env whole=(do let v <-whole;standAt a.pos;holding [v] (truthy v))) :
  PT X a (fun σ H Q=>ta σ H λx H'=>∃k,At X.K x H' k/\Q k H'):=by
 intro pins s σ H Q I h
 refine isTrue_plain (thn (ha pins s σ H _ I h) λv s1 zz=>?_) (he _)
 obtain⟨x,H1,I1,r1,q1⟩:=zz
 exact wU pins s1 σ H1 x v Q I1 r1 q1
theorem Vl:OpR X (binaryOp .Add) (λx y H Q=>∃i j,x=.str i/\y=.str j/\i.length+j.length<=sizeLine/\Q (.str (i++j)) H):=by
 intro pins s σ H x y v u Q I rx ry h
 obtain⟨i,j,rfl,rfl,hz,q⟩:=h
 obtain⟨t,rfl⟩:=rx
 obtain⟨t',rfl⟩:=ry
 exact add_str (λt' tk=>⟨.str (i++j),H,I.tok _,⟨_,rfl⟩,q⟩) hz
theorem vals1 {x:V} {us:YE} (r:Vals [x] us):∃u,us=[u]/\RelV x u:=by
 cases r with
 | cons r1 r2=>cases r2;exact⟨_,rfl,r1⟩
theorem vals2 {x y:V} {us:YE} (r:Vals [x,y] us):∃u w',us=[u,w']/\RelV x u/\RelV y w':=by
 cases r with
 | cons r1 r2=>
  cases r2 with
  | cons r3 r4=>cases r4;exact⟨_,_,rfl,r1,r3⟩
theorem bA:FW X (.builtin "abs") (λxs H Q=>∃i,xs=[.int i]/\Q (.int (if i < 0 then -i else i)) H):=by
 intro pins s σ H xs us Q I r h
 obtain⟨i,rfl,q⟩:=h
 obtain⟨u,rfl,t,rfl⟩:=vals1 r
 exact call_abs_int λu tk=>⟨.int (if i < 0 then -i else i),H,I.tok _,⟨_,rfl⟩,q⟩
theorem nH (hc:X.calm=true):FW X (.builtin "max") (λxs H Q=>∃i j,xs=[.int i,.int j]/\Q (.int (if j > i then j else i)) H):=by
 intro pins s σ H xs us Q I r h
 obtain⟨i,j,rfl,q⟩:=h
 obtain⟨u,w',rfl,⟨t,rfl⟩,⟨t',rfl⟩⟩:=vals2 r
 refine max_two_ints (I.ok.hd hc) λh' tk k=>⟨_,H,I.kept k,?_,q⟩
 by_cases hj:j > i
 ·rw[if_pos hj,if_pos hj];exact⟨_,rfl⟩
 ·rw[if_neg hj,if_neg hj];exact⟨_,rfl⟩
theorem Og (hc:X.calm=true):FW X (.builtin "min") (λxs H Q=>∃i j,xs=[.int i,.int j]/\Q (.int (if j < i then j else i)) H):=by
 intro pins s σ H xs us Q I r h
 obtain⟨i,j,rfl,q⟩:=h
 obtain⟨u,w',rfl,⟨t,rfl⟩,⟨t',rfl⟩⟩:=vals2 r
 refine min_two_ints (I.ok.hd hc) λh' tk k=>⟨_,H,I.kept k,?_,q⟩
 by_cases hj:j < i
 ·rw[if_pos hj,if_pos hj];exact⟨_,rfl⟩
 ·rw[if_neg hj,if_neg hj];exact⟨_,rfl⟩
theorem nM:FW X (.type "int") (λxs H Q=>(∃i,xs=[.int i]/\Q (.int i) H)\/∃k,xs=[.bl k]/\Q (.int (if k then 1 else 0)) H):=by
 intro pins s σ H xs us Q I r h
 rcases h with⟨i,rfl,q⟩|⟨k,rfl,q⟩
 ·obtain⟨u,rfl,t,rfl⟩:=vals1 r
  exact call_int_int ⟨.int i,H,I,⟨_,rfl⟩,q⟩
 ·obtain⟨u,rfl,r1⟩:=vals1 r
  cases r1
  exact call_int_bool ⟨.int (if k then 1 else 0),H,I.tok _,⟨_,rfl⟩,q⟩
end
structure UW (h:Heap) (x dx C:Addr) (mA:YB):Prop where
 obj:h.get? x=some (instObj C dx)
 ns:h.Ns1 dx mA
 ne:dx≠x
theorem lC {h:Heap} {dx:Addr} {mA:YB} (n:h.Ns1 dx mA):∃od,h.get? dx=some od/\∀name,lookIn name od=some (mA name):=by
 obtain⟨o,es,ep,ho,hd,hk,_,hm⟩:=n
 refine⟨o,ho,λname=>?_⟩
 have e:=hm name
 unfold nsFind findBy at e
 rw[<-Array.find?_toList] at e
 unfold lookIn
 rw[hd]
 dsimp only
 split
 ·rename_i y q
  rw[q] at e
  exact congrArg some e
 ·rename_i q
  rw[q] at e
  have a:es.toList.any (·.refKey)=false:=by
   rw[List.any_eq_false]
   intro y hy
   obtain⟨z,t,hkey⟩:=hk y (Array.mem_toList_iff.mp hy)
   simp[DictEntry.refKey,hkey]
  have a':¬es.toList.any (·.refKey)=true:=by rw[a];exact QaW
  rw[if_neg a']
  exact congrArg some e
theorem UW.look {h:Heap} {x dx C:Addr} {mA:YB} (I:UW h x dx C mA):∃od,PySem.W.InstAt h x (instObj C dx) C (some od)/\∀name,lookIn name od=some (mA name):=
 let ⟨od,ho,hl⟩:=lC I.ns
 ⟨od,⟨I.obj,rfl,rfl,ho⟩,hl⟩
section
variable {prog:Program} {w:World} {A:Around} {E:YA} {s:Shared} {K:YD} {x dx C f:Addr} {mA:YB} {name:Str} {v:Value}
theorem get_map {expr:Bool} {Q:YA} (X:K.In s.heap) (I:UW s.heap x dx C mA) (hg:plainGet K C name=true) (hh:hasDictIn K C=true)
  (ha:findIn K (.ref C) name=some none) (hv:mA name=some v) (hv':PySem.W.handedIn v=true) (h:Q v { s with toks:=s.toks+1 }) :
  wpAny (model prog w) A (getAttr (.ref x) name expr) Q E s:=by
 obtain⟨od,J,hl⟩:=I.look
 exact PySem.W.get_value X J (PySem.W.plainGet_of hg).1 (PySem.W.findObj_own hh ha rfl (by rw[hl,hv])) hv' h
theorem qX {pl:Sem Bool} {Q:Value×YE->Shared->Prop} (X:K.In s.heap) (I:UW s.heap x dx C mA) (hg:plainGet K C name=true)
  (hf:findIn K (.ref C) name=some (some (.ref f))) (ht:isFn K (.ref f)=true) (hv:mA name=none) (h:Q (.ref f,[.ref x]) s) :
  wpAny (model prog w) A (getMethod (.ref x) name pl) Q E s:=by
 obtain⟨od,J,hl⟩:=I.look
 exact PySem.W.method_fn X J (PySem.W.plainGet_of hg).1 (PySem.W.plainGet_of hg).2 hf (beq_iff_eq.mp ht) (by show (lookIn name od).map (·.isSome)=some false;rw[hl,hv];rfl) h
theorem uW {ns:YF} {Q:YH} (X:K.In s.heap) (I:UW s.heap x dx C mA)
  (hs:findIn K (.ref C) "__setattr__"=some (some (.builtin "object.__setattr__"))) (hp:PySem.W.plainOver K C=true) (ht:PySem.W.takerIn K C name=some none) (hh:hasDictIn K C=true)
  (hw:PySem.Within mA ns) (hsz:ns.length<=sizeLine)
  (h:∀h',UW h' x dx C (λy=>if y=name then some v else mA y)->Heap.SameBut dx s.heap h'->Q () { s with heap:=h',toks:=s.toks+2 }) :
  wpAny (model prog w) A (setAttr (.ref x) name v) Q E s:=by
 obtain⟨od,J,hl⟩:=I.look
 refine PySem.W.set_plain X J hs (PySem.W.osa_open (s:={ s with toks:=s.toks+1 }) (r:=none) X J hp ht λb=>?_)
 obtain⟨cd,hc,hd'⟩:=PySem.W.any_some hh
 have hx:s.heap.get? x=some ⟨.ref C,some dx,.plain,#[]⟩:=I.obj
 refine Qcu (Qcv (Qcu (Qcu (wpAny_loadPart hx (Qcu (PySem.W.Looks.here (s:={ s with toks:=s.toks+1 }) (PySem.W.looks_clsIn X hc) ?_))))))
 rw[hd']
 refine Qcv (a:=some dx) (Qcu (Qcv (Qcu ?_)))
 refine wpAny_nsSet1 (s:={ s with toks:=s.toks+1 }) I.ns λh' hn2 hs2=>?_
 obtain⟨oD,esD,epD,hoD,hdD,hcD⟩:=hn2.count (PySem.Within.cons name v hw)
 refine Qcu (wpAny_lookBehind hoD (by rw[hdD];exact pastItsLine_dict (Qci hcD (by rw[Qbt];omega))) ?_)
 exact Qcv (h _ ⟨(hs2.2 _ (Ne.symm I.ne)).trans I.obj,hn2,I.ne⟩ hs2)
theorem qK {R:Result->Shared->Prop} {vs:YE} {kw:List (Str×Value)} (X:K.In s.heap) (hm:makesIn K C=true)
  (hi:findIn K (.ref C) "__init__"=some (some (.ref f))) (hf:PySem.W.typeIn K (.ref f)=some (.type "function"))
  (h:codeAny (model prog w) (A.under (.builtin "type.__call__" ⟨.ref C::vs,kw⟩)) (.call (.ref f) ⟨.ref (s.heap.objs.size+1)::vs,kw⟩) (PySem.W.InitBack (s.heap.objs.size+1) R)
   { s with heap:=(s.heap.push emptyDict).push (instObj C s.heap.objs.size) }) :
  codeAny (model prog w) A (.call (.ref C) ⟨vs,kw⟩) R s:=by
 obtain⟨hh,g,d,t,os⟩:=s
 exact PySem.W.make_core (PySem.W.makes_of X hm) (PySem.W.looks_findIn X hi) (λself=>PySem.W.bind_fn X self hf) (.inl rfl) h
end
def G4 (f:Str) (v:V):List (Str×V)->List (Str×V)
 | []=>[(f,v)]
 | (g,x)::r=>if g=f then (g,v)::r else (g,x)::G4 f v r
theorem T5 (f g:Str) (v:V):∀fs:List (Str×V),(G4 f v fs).lookup g=if g=f then some v else fs.lookup g
 | []=>by
  show List.lookup g [(f,v)]=_
  by_cases h:g=f
  ·have hb:(g == f)=true:=beq_iff_eq.mpr h
   simp only[List.lookup,hb,if_pos h]
  ·have hb:(g == f)=false:=QaK.mpr h
   simp only[List.lookup,hb,if_neg h]
 | (k,x)::r=>by
  have ih:=T5 f g v r
  rw[show G4 f v ((k,x)::r)=(if k=f then (k,v)::r else (k,x)::G4 f v r) from rfl]
  by_cases hk:k=f
  ·rw[if_pos hk]
   by_cases h:g=k
   ·have hb:(g == k)=true:=beq_iff_eq.mpr h
    simp only[List.lookup,hb,if_pos (h.trans hk)]
   ·have hb:(g == k)=false:=QaK.mpr h
    simp only[List.lookup,hb,if_neg (λe:g=f=>h (e.trans hk.symm))]
  ·rw[if_neg hk]
   by_cases h:g=k
   ·have hb:(g == k)=true:=beq_iff_eq.mpr h
    simp only[List.lookup,hb,if_neg (λe:g=f=>hk (h.symm.trans e))]
   ·have hb:(g == k)=false:=QaK.mpr h
    simp only[List.lookup,hb]
    exact ih
theorem Rw (f:Str) (v:V):∀fs:List (Str×V),f∈(G4 f v fs).map (·.1)/\∀g,g∈fs.map (·.1)->g∈(G4 f v fs).map (·.1)
 | []=>⟨by simp[G4],λg h=>by simp at h⟩
 | (k,x)::r=>by
  obtain⟨i1,i2⟩:=Rw f v r
  rw[show G4 f v ((k,x)::r)=(if k=f then (k,v)::r else (k,x)::G4 f v r) from rfl]
  by_cases hk:k=f
  ·rw[if_pos hk]
   subst hk
   exact⟨by simp,λg h=>by simpa using h⟩
  ·rw[if_neg hk]
   refine⟨?_,λg h=>?_⟩
   ·rw[QbY]
    exact QaG _ i1
   ·rw[QbY] at h ⊢
    rcases QbX.mp h with e | e
    ·exact QbX.mpr (.inl e)
    ·exact QaG _ (i2 g e)
theorem T6 (f:Str) (v:V):∀fs:List (Str×V),(G4 f v fs).length<=fs.length+1
 | []=>by simp[G4]
 | (k,x)::r=>by
  have ih:=T6 f v r
  rw[show G4 f v ((k,x)::r)=(if k=f then (k,v)::r else (k,x)::G4 f v r) from rfl]
  by_cases hk:k=f
  ·rw[if_pos hk,Qbt,Qbt];omega
  ·rw[if_neg hk,Qbt,Qbt];omega
theorem G5.some_of {v:V} {o:Option Value} (r:G5 (some v) o):∃u,o=some u/\RelV v u:=by
 cases o with
 | none=>exact (show False from r).elim
 | some u=>exact⟨u,rfl,r⟩
theorem G5.none_of {o:Option Value} (r:G5 none o):o=none:=by
 cases o with
 | none=>rfl
 | some u=>exact (show False from r).elim
theorem lR {v:V} {u:Value} (r:RelV v u):PySem.W.handedIn u=true:=by
 cases v with
 | non=>cases (show u=Value.none from r);rfl
 | bl b=>cases (show u=Value.bool b from r);rfl
 | int i=>obtain⟨t,e⟩:=(show ∃t,u=Value.int i t from r);cases e;rfl
 | str x=>obtain⟨t,e⟩:=(show ∃t,u=Value.str x t from r);cases e;rfl
 | byt b=>obtain⟨t,e⟩:=(show ∃t,u=Value.bytes b t from r);cases e;rfl
 | flt b=>obtain⟨t,e⟩:=(show ∃t,u=Value.float b t from r);cases e;rfl
 | ref a=>cases (show u=Value.ref a from r);rfl
 | ty n=>cases (show u=Value.type n from r);rfl
section
variable {P:Program} {w:World} {H H':Hp} {h h':Heap} {a C dx:Addr} {fs fs':List (Str×V)}
theorem SX (hok:HOk P w H h) (e:H a=some (.ins C dx fs)):∃mA,UW h a dx C mA/\(∀f,G5 (fs.lookup f) (mA f))/\PySem.Within mA (fs.map (·.1))/\fs.length<=1000/\H dx=some (.own a):=by
 obtain⟨d,z,ne,ob,mA,n,r,q⟩:=(show Bv P w H h a (.ins C dx fs) from hok a _ e)
 exact⟨mA,⟨ob,n,ne⟩,r,q,z,d⟩
end
structure Cls (K:YD) (C:Addr):Prop where
 pg:plainGet K C Str.empty=true
 hd:hasDictIn K C=true
 po:PySem.W.plainOver K C=true
 sa:findIn K (.ref C) "__setattr__"=some (some (.builtin "object.__setattr__"))
theorem Cls.get {K:YD} {C:Addr} (c:Cls K C) (f:Str):plainGet K C f=true:=c.pg
def IV (K:YD) (C:Addr) (f:Str):Prop:=findIn K (.ref C) f=some none
theorem IV.taker {K:YD} {C:Addr} {f:Str} (n:IV K C f):PySem.W.takerIn K C f=some none:=by
 unfold PySem.W.takerIn
 rw[show findIn K (.ref C) f=some none from n]
 rfl
structure Meth (K:YD) (C:Addr) (m:Str) (f:Addr):Prop where
 at_:findIn K (.ref C) m=some (some (.ref f))
 fn:isFn K (.ref f)=true
 kp:keepIn K (.ref f)=true
section
variable {X:Cx} {pins:YC} {σ : St} {H:Hp} {s:Shared} {a C dx:Addr} {fs:List (Str×V)} {f:Str} {v:V} {A:Around} {E:YA}
theorem iV {b:Bool} {Q:YA} (I:Inv X pins σ H s) (e:H a=some (.ins C dx fs)) (c:Cls X.K C) (n:IV X.K C f) (l:fs.lookup f=some v)
  (h:∀u s',Inv X pins σ H s'->RelV v u->Q u s'):wpAny (model X.prog X.w) A (getAttr (.ref a) f b) Q E s:=by
 obtain⟨mA,O,r,_,_,_⟩:=SX I.hok e
 obtain⟨u,hu,ru⟩:=G5.some_of (v:=v) (o:=mA f) (by rw[<-l];exact r f)
 exact get_map I.kIn O (c.get f) c.hd n hu (lR ru) (h u _ (I.tok _) ru)
theorem Qs {m:Str} {g:Addr} {pl:Sem Bool} {Q:Value×YE->Shared->Prop} (I:Inv X pins σ H s) (e:H a=some (.ins C dx fs)) (c:Cls X.K C) (k:Meth X.K C m g) (l:fs.lookup m=none)
  (h:Q (.ref g,[.ref a]) s):wpAny (model X.prog X.w) A (getMethod (.ref a) m pl) Q E s:=by
 obtain⟨mA,O,r,_,_,_⟩:=SX I.hok e
 have hn:mA m=none:=G5.none_of (by rw[<-l];exact r m)
 exact qX I.kIn O (c.get m) k.at_ k.fn hn h
theorem gD {y:V} {u:Value} {Q:YH} (I:Inv X pins σ H s) (e:H a=some (.ins C dx fs)) (c:Cls X.K C) (n:IV X.K C f) (hl:fs.length < 1000) (ry:RelV y u)
  (h:∀s',Inv X pins σ (upd H a (.ins C dx (G4 f y fs))) s'->Q () s'):wpAny (model X.prog X.w) A (setAttr (.ref a) f u) Q E s:=by
 obtain⟨mA,O,r,wi,_,ho⟩:=SX I.hok e
 have hz:(fs.map (·.1)).length<=sizeLine:=by rw[QbB,Qcr];omega
 refine uW I.kIn O c.sa c.po n.taker c.hd wi hz λh' O' sb=>h _ ?_
 have hd:∃o,h'.get? dx=some o:=let ⟨o,_,_,e',_⟩:=O'.ns;⟨o,e'⟩
 refine I.write (x:=a) (e:=dx) (by rw[e];exact True.intro) (.inr ho) (λb q hb z=>(sb.2 b hb).trans z) hd ?_
 refine⟨by rw[Am O.ne];exact ho,?_,O.ne,O'.obj,_,O'.ns,λg=>?_,λg hg=>?_⟩
 ·have:=T6 f y fs;omega
 ·show G5 ((G4 f y fs).lookup g) (if g=f then some u else mA g)
  rw[T5]
  by_cases q:g=f
  ·rw[if_pos q,if_pos q];exact ry
  ·rw[if_neg q,if_neg q];exact r g
 ·by_cases q:g=f
  ·rw[q];exact (Rw f y fs).1
  ·refine (Rw f y fs).2 g (wi g λz=>hg ?_)
   show (if g=f then some u else mA g)=none
   rw[if_neg q];exact z
theorem Inv.made (I:Inv X pins σ H s):Inv X pins σ (upd (upd H s.heap.objs.size (.own (s.heap.objs.size+1))) (s.heap.objs.size+1) (.ins C s.heap.objs.size []))
  { s with heap:=(s.heap.push emptyDict).push (instObj C s.heap.objs.size) }:=by
 have e1:(s.heap.push emptyDict).get? s.heap.objs.size=some emptyDict:=QaJ s.heap rfl
 have e2:((s.heap.push emptyDict).push (instObj C s.heap.objs.size)).get? (s.heap.objs.size+1)=some (instObj C s.heap.objs.size):=by
  have:=QaJ (s.heap.push emptyDict) (o:=instObj C s.heap.objs.size) rfl
  rwa [QbS] at this
 have e3:(s.heap.push emptyDict).Ns s.heap.objs.size (λ_=>none):=⟨emptyDict,#[],_,e1,rfl,(λe he=>absurd he (by simp)),λ_=>rfl⟩
 have I1:=I.laid (a:=s.heap.objs.size) (o:=.own (s.heap.objs.size+1)) (h':=s.heap.push emptyDict) (t':=s.toks) (λb u q=>Qav _ q) (Qcn _) ⟨_,e1⟩
 refine I1.laid (a:=s.heap.objs.size+1) (o:=.ins C s.heap.objs.size []) (t':=s.toks) (λb u q=>Qav _ q) (Nat.le_of_eq (QbS _ _)) ?_
 have ne:s.heap.objs.size≠s.heap.objs.size+1:=Qch (Qby _)
 refine⟨by rw[Am ne,Ab],Qco _,ne,e2,λ_=>none,(Heap.Ns1.of_empty e3).at λo q=>Qav _ q,λ_=>True.intro,λy hy=>absurd rfl hy⟩
theorem wB {prog:Program} {w:World} {env:Env} {e:Expr} {f:Str} {pos:Pos} {s:Shared} {Q:YA} (hb:attributeBase e f env (eval e env)=eval e env)
  (h:wpAny (model prog w) A (eval e env) (λo s₁=>wpAny (model prog w) A (getAttr o f true) Q E s₁) E s):wpAny (model prog w) A (eval (.Attribute e f pos) env) Q E s:=
 Attribute_any_ h (by rw[arm_eval_Attribute,hb])
end
def wZ (K:YD) (ta:TE) (f:Str):TE:=fun σ H Q=>ta σ H λx H1=>∃a C dx fs v,x=.ref a/\H1 a=some (.ins C dx fs)/\Cls K C/\IV K C f/\fs.lookup f=some v/\Q v H1
section
variable {X:Cx} {o e value:Expr} {f:Str} {pos pos' tpos:Pos} {ta tv:TE}
theorem Df (he:PE X e ta) (hb:attributeBase e f X.env (eval e X.env)=eval e X.env):PE X (.Attribute e f pos) (wZ X.K ta f):=by
 intro pins s σ H Q I h
 refine wB hb (thn (he pins s σ H _ I h) λu s1 zz=>?_)
 obtain⟨x,H1,I1,rx,a,C,dx,fs,v,ex,ea,c,n,l,q⟩:=zz
 subst ex
 obtain rfl:u=Value.ref a:=rx
 exact iV I1 ea c n l λu' s2 I2 ru=>⟨v,H1,I2,ru,q⟩
theorem AC {pl:Sem Bool} {m:Str} {apos:Pos} {args:YJ} {pins:YC} {s:Shared} {σ : St} {H:Hp} {Q:YA} {te:TE} (he:PE X e te) (I:Inv X pins σ H s)
  (h:te σ H λx H1=>∃a C dx fs g,x=.ref a/\H1 a=some (.ins C dx fs)/\Cls X.K C/\Meth X.K C m g/\fs.lookup m=none /\
   ∀s1,Inv X pins σ H1 s1->wpAny (model X.prog X.w) X.A (callWith pos (.ref g) [.ref a] (backTo pos (starEach args X.env)) (backToKw pos (keywordEach [] X.env))) Q X.xe s1)
  (ht:eval (.Call (.Attribute e m apos) args [] pos) X.env=(do
   let ov <-eval e X.env
   standAt apos.atName
   let (f,first) <-holding [ov] (getMethod ov m pl)
   callWith pos f first (backTo pos (starEach args X.env)) (backToKw pos (keywordEach [] X.env)))) :
  wpAny (model X.prog X.w) X.A (eval (.Call (.Attribute e m apos) args [] pos) X.env) Q X.xe s:=by
 refine PySem.W.methodCall_KW (pl:=pl) (thn (he pins s σ H _ I h) λu s1 zz=>?_) ht
 obtain⟨x,H1,I1,rx,a,C,dx,fs,g,ex,ea,c,k,l,q⟩:=zz
 subst ex
 obtain rfl:u=Value.ref a:=rx
 exact Qs I1 ea c k l (q s1 I1)
end
section
variable {X:Cx} {pins:YC} {σ : St} {H:Hp} {s:Shared} {A:Around} {E:YA} {Q:YA} {c:Value} {b:Bool}
inductive Kv (K:YD) (H:Hp):V->Value->Prop where
 | non:Kv K H .non (.type "NoneType")
 | bl (x:Bool):Kv K H (.bl x) (.type "bool")
 | int (i:Int):Kv K H (.int i) (.type "int")
 | str (x:Str):Kv K H (.str x) (.type "str")
 | flt (x:UInt64):Kv K H (.flt x) (.type "float")
 | lst {a:Addr} {xs:YG} (e:H a=some (.lst xs)):Kv K H (.ref a) (.type "list")
 | frz {a:Addr} {o:Obj} {xs:YG} (e:H a=some (.frz o (.lst xs))):Kv K H (.ref a) (.type "list")
 | tup {a:Addr} {xs:YG} (e:H a=some (.tup xs)):Kv K H (.ref a) (.type "tuple")
 | dK {a:Addr} {kvs:List (Key×V)} (e:H a=some (.dK kvs)):Kv K H (.ref a) (.type "dict")
 | dT {a:Addr} {kvs:List (List Key×V)} (e:H a=some (.dT kvs)):Kv K H (.ref a) (.type "dict")
 | ins {a C dx:Addr} {fs:List (Str×V)} (e:H a=some (.ins C dx fs)) (cl:Cls K C) (ha:findIn K (.ref C) "__class__"=some (some (.builtin "object.__class__")))
   (hn:PySem.W.specialIn K (.builtin "object.__class__") "__get__"=some (some (.builtin "getset_descriptor.__get__"))) (htk:PySem.W.takesIn K (.builtin "object.__class__")=some true)
   (hm:PySem.W.mroIn K C (.type "object")=some true):Kv K H (.ref a) (.ref C)
theorem lH {x:V} {u t:Value} (I:Inv X pins σ H s) (rx:RelV x u) (ty:Kv X.K H x t) (e:kitOne X.K t c=some b) (h:∀tk,Q (.bool b) { s with toks:=tk }) :
  wpAny (model X.prog X.w) A (call (.builtin "isinstance") [u,c]) Q E s:=by
 cases ty with
 | non=>cases (show u=Value.none from rx);exact kia_one PySem.W.kitx_none I.kIn True.intro e (λz=>nomatch z) h
 | bl y=>cases (show u=Value.bool y from rx);exact kia_one PySem.W.kitx_bool I.kIn True.intro e (λz=>nomatch z) h
 | int i=>obtain⟨t,q⟩:=(show ∃t,u=Value.int i t from rx);cases q;exact kia_one PySem.W.kitx_int I.kIn True.intro e (λz=>nomatch z) h
 | str y=>obtain⟨t,q⟩:=(show ∃t,u=Value.str y t from rx);cases q;exact kia_one PySem.W.kitx_str I.kIn True.intro e (λz=>nomatch z) h
 | flt y=>obtain⟨t,q⟩:=(show ∃t,u=Value.float y t from rx);cases q;exact kia_one PySem.W.kitx_float I.kIn True.intro e (λz=>nomatch z) h
 | @lst a xs ea=>
  cases (show u=Value.ref a from rx)
  obtain⟨_,_,n,_,h1⟩:=(show Bv X.prog X.w H s.heap a (.lst xs) from I.hok a _ ea)
  exact kia_one PySem.W.kitx_list I.kIn ⟨_,h1,rfl⟩ e (λz=>nomatch z) h
 | @frz a ob xs ea=>
  cases (show u=Value.ref a from rx)
  obtain⟨_,_,_,n,_,h1⟩:=(show Bv X.prog X.w H s.heap a (.frz ob (.lst xs)) from I.hok a _ ea)
  exact kia_one PySem.W.kitx_list I.kIn ⟨_,h1,rfl⟩ e (λz=>nomatch z) h
 | @tup a xs ea=>
  cases (show u=Value.ref a from rx)
  obtain⟨_,_,_,p⟩:=(show Bv X.prog X.w H s.heap a (.tup xs) from I.hok a _ ea)
  obtain⟨o,h1,h2,_⟩:=p
  exact kia_one PySem.W.kitx_tuple I.kIn ⟨o,h1,h2⟩ e (λz=>nomatch z) h
 | @dK a kvs ea=>
  cases (show u=Value.ref a from rx)
  obtain⟨_,_,vs,_,p⟩:=(show Bv X.prog X.w H s.heap a (.dK kvs) from I.hok a _ ea)
  obtain⟨o,es,ep,h1,h2,_⟩:=p
  exact kia_one PySem.W.kitx_dict I.kIn ⟨o,h1,h2.1⟩ e (λz=>nomatch z) h
 | @dT a kvs ea=>
  cases (show u=Value.ref a from rx)
  obtain⟨_,_,xs,_,o,es,ep,h1,h2,_⟩:=(show Bv X.prog X.w H s.heap a (.dT kvs) from I.hok a _ ea)
  exact kia_one PySem.W.kitx_dict I.kIn ⟨o,h1,h2.1⟩ e (λz=>nomatch z) h
 | @ins a C dx fs ea cl ha hn htk hm=>
  cases (show u=Value.ref a from rx)
  obtain⟨mA,O,_⟩:=SX I.hok ea
  obtain⟨od,J,_⟩:=O.look
  exact kia_one (PySem.W.kitx_own (cl.get _) cl.hd ha hn htk hm) I.kIn J e (λz=>nomatch z) h
end
structure CG (k:Nat) (A:Around):Prop where
 hd:A.handled=none
 dp:A.depth+3*k+5 < recursionLimit
 un:A.units+16*k+200 < cLine
theorem CG.mono {j k:Nat} {A:Around} (r:CG k A) (h:j<=k):CG j A:=⟨r.hd,by have:=r.dp;omega,by have:=r.un;omega⟩
theorem CG.deeper {k:Nat} {A:Around} (r:CG (k+1) A) (env:Env):CG k (A.deeper env):=
 ⟨r.hd,by have:=r.dp;show A.depth+1+3*k+5 < _;omega,by have:=r.un;show A.units+3+16*k+200 < _;omega⟩
theorem CG.in1 {k:Nat} {A:Around} (r:CG (k+1) A):CG k A.in1:=
 ⟨r.hd,by have:=r.dp;show A.depth+3*k+5 < _;omega,by have:=r.un;show A.units+1+16*k+200 < _;omega⟩
theorem iJ {A:Around} {C:Addr} {us:YE} {kw:List (Str×Value)}:(A.under (.builtin "type.__call__" ⟨.ref C::us,kw⟩)).depth=A.depth+1:=by
 first | rfl | simp[Around.under,Code.weight,Code.isCreation,Code.isGuard,Code.isCaller,Code.frames,Code.isFrame,guardIds]
theorem iI {A:Around} {C:Addr} {us:YE} {kw:List (Str×Value)}:(A.under (.builtin "type.__call__" ⟨.ref C::us,kw⟩)).units=A.units+1:=by
 first | rfl | simp[Around.under,Code.cUnits,Code.frames,Code.isFrame]
theorem CG.make {k:Nat} {A:Around} (r:CG (k+1) A) (C:Addr) (us:YE) (kw:List (Str×Value)):CG k (A.under (.builtin "type.__call__" ⟨.ref C::us,kw⟩)):=
 ⟨r.hd,by have:=r.dp;rw[iJ];omega,by have:=r.un;rw[iI];omega⟩
theorem CG.depth {k:Nat} {A:Around} (r:CG k A):A.depth < recursionLimit:=by have:=r.dp;omega
theorem CG.units {k:Nat} {A:Around} (r:CG k A):A.units+64 < cLine:=by have:=r.un;omega
def gq:TA:=λ_ H Q=>Q [] H
def sO (ta:TE) (tr:TA):TA:=fun σ H Q=>ta σ H λx H1=>tr σ H1 λxs H2=>Q (x::xs) H2
section
variable {X:Cx} {e:Expr} {es:YJ} {te:TE} {t:TA} {pos:Pos}
theorem Ac:PA X [] gq:=λ_ _ _ _ H Q I h=>Calls.spliced_nil ⟨[],H,I,.nil,h⟩
theorem Aa (ha:PE X e te) (hr:PA X es t) (hs:starEach (e::es) X.env=(false,eval e X.env)::starEach es X.env:=by rfl):PA X (e::es) (sO te t):=by
 intro pos pins s σ H Q I h
 rw[hs]
 show wpAny _ _ (spliced ((false,eval e X.env)::backTo pos (starEach es X.env))) _ _ s
 refine Calls.spliced_cons (thn (ha pins s σ H _ I h) λu s1 zz=>?_)
 obtain⟨x,H1,I1,r1,q1⟩:=zz
 refine thn (hr pos pins s1 σ H1 _ I1 q1) λus s2 zz=>?_
 obtain⟨xs,H2,I2,r2,q2⟩:=zz
 exact⟨x::xs,H2,I2,.cons r1 r2,q2⟩
def BU (t:TA):TE:=fun σ H Q=>t σ H λxs H1=>xs.length<=sizeLine/\∀p,H1 p=none->Q (.ref p) (upd H1 p (.tup xs))
def B2 (t:TA):TE:=fun σ H Q=>t σ H λxs H1=>xs.length<=sizeLine/\∀p,H1 p=none->Q (.ref p) (upd H1 p (.lst xs))
theorem Bd {x1} (h:PA X es t):PE X (.Tuple es x1 pos) (BU t):=by
 intro pins s σ H Q I hq
 refine wpAny_Tuple_spliced (thn (h pos pins s σ H _ I hq) λus s1 zz=>?_)
 obtain⟨xs,H1,I1,r,z,q⟩:=zz
 refine⟨by rw[<-r.length];exact z,?_⟩
 have hf:H1 s1.heap.objs.size=none:=I1.hok.fresh (Qcn _)
 refine⟨.ref s1.heap.objs.size,upd H1 s1.heap.objs.size (.tup xs),I1.laid (t':=s1.toks) (λb u e=>Qav _ e) (Qcn _) ?_,rfl,q _ hf⟩
 exact⟨z,us,r,⟨_,QaJ _ rfl,rfl,_,rfl⟩⟩
theorem BZ (h:PA X es t):PE X (.List es pos) (B2 t):=by
 intro pins s σ H Q I hq
 refine wpAny_List_spliced (thn (h pos pins s σ H _ I hq) λus s1 zz=>?_)
 obtain⟨xs,H1,I1,r,z,q⟩:=zz
 refine⟨by rw[<-r.length];exact z,?_⟩
 have hf:H1 s1.heap.objs.size=none:=I1.hok.fresh (Qcn _)
 refine⟨.ref s1.heap.objs.size,upd H1 s1.heap.objs.size (.lst xs),I1.laid (t':=s1.toks) (λb u e=>Qav _ e) (Qcn _) ?_,rfl,q _ hf⟩
 exact⟨z,us,0,r,QaJ _ rfl⟩
end
abbrev Sp:=YG->Hp->VK->XK->Prop
abbrev CXT:=List Env->Hp->Shared->XK->YA
structure O6 (P:Program) (w:World) (K:YD) (mg:YB) (base:Heap) (A:Around) (outer:List Env) (s:Shared) (H:Hp):Prop where
 frames:A.frames=some outer
 mod:Mod K mg base
 bs:∀b o,base.get? b=some o->s.heap.get? b=some o/\H b=none
 bsz:base.objs.size<=s.heap.objs.size
 JW:s.heap.FunFrames base outer
 frf:∀b∈frs outer,H b=none
 hok:HOk P w H s.heap
 bare:AllBare s.gens
def CE (outer:List Env) (P:Program) (w:World) (H:Hp) (s:Shared) (Q:VK) (u:Value) (s':Shared):Prop:=
 ∃v H',s'.os=s.os/\AllBare s'.gens/\Un (frs outer) [] H H' s.heap s'.heap/\HOk P w H' s'.heap/\RelV v u/\Q v H'
def CR (CX:CXT) (outer:List Env) (P:Program) (w:World) (H:Hp) (s:Shared) (Q:VK) (E:XK) (r:Result) (s':Shared):Prop:=
 match r with
 | .ok (.ret u)=>CE outer P w H s Q u s'
 | .ok _=>False
 | .error e=>CX outer H s E e s'
structure GD (P:Program) (w:World) (K:YD) (mg:YB) (base:Heap) (CX:CXT) (k:Nat) (f:Addr) (fd:FuncData) (ps:YF) (sp:Sp):Prop where
 len:∀vs H Q E,sp vs H Q E->vs.length=ps.length
 run:∀(A:Around) (outer:List Env) (s:Shared) (H:Hp) (args:Args) (us:YE) (vs:YG) (Q:VK) (E:XK),CG k A->O6 P w K mg base A outer s H->BindsTo s fd args (ps.zip us)->Vals vs us->sp vs H Q E ->
  codeAny (model P w) A (.call (.ref f) args) (CR CX outer P w H s Q E) s
theorem GD.imp {P:Program} {w:World} {K:YD} {mg:YB} {base:Heap} {CX:CXT} {k:Nat} {f:Addr} {fd:FuncData} {ps:YF} {sp sp':Sp} (F:GD P w K mg base CX k f fd ps sp)
  (h:∀vs H Q E,sp' vs H Q E->sp vs H Q E):GD P w K mg base CX k f fd ps sp':=
 ⟨λvs H Q E q=>F.len vs H Q E (h _ _ _ _ q),λA outer s H args us vs Q E hr he hb hv hs=>F.run A outer s H args us vs Q E hr he hb hv (h _ _ _ _ hs)⟩
theorem O6.make {P:Program} {w:World} {K:YD} {mg:YB} {base:Heap} {A:Around} {outer:List Env} {s:Shared} {H:Hp} (e:O6 P w K mg base A outer s H) (C:Addr) (us:YE) (kw:List (Str×Value)) :
  O6 P w K mg base (A.under (.builtin "type.__call__" ⟨.ref C::us,kw⟩)) outer s H:=⟨by first | exact e.frames | (simpa [Around.under,Code.envs,Code.isFrame,pushEnvs] using e.frames),e.mod,e.bs,e.bsz,e.JW,e.frf,e.hok,e.bare⟩
theorem O6.in1 {P:Program} {w:World} {K:YD} {mg:YB} {base:Heap} {A:Around} {outer:List Env} {s:Shared} {H:Hp} (e:O6 P w K mg base A outer s H) :
  O6 P w K mg base A.in1 outer s H:=⟨e.frames,e.mod,e.bs,e.bsz,e.JW,e.frf,e.hok,e.bare⟩
section
variable {X:Cx} {pins:YC} {σ : St} {H:Hp} {s s':Shared}
theorem Inv.env0 (I:Inv X pins σ H s):O6 X.prog X.w X.K X.mg X.base X.A X.stack s H:=
 ⟨I.ok.frames,I.ok.mod,I.bs,Qci I.ok.bsz I.sz,I.stack,I.cZ,I.hok,I.bare⟩
theorem Inv.after {Q:VK} {u:Value} (I:Inv X pins σ H s) (h:CE X.stack X.prog X.w H s Q u s'):EP X pins σ Q u s':=by
 obtain⟨v,H',os,bare,un,hok,r,q⟩:=h
 obtain⟨hh,g,d,t,os'⟩:=s'
 obtain rfl:os'=s.os:=os
 exact⟨v,H',I.call (h':=hh) (g':=g) (d':=d) (t':=t) (ch:=[]) un hok bare (λb z=>absurd z (by simp)),r,q⟩
end
def sW (sp:Sp) (dvs:YG) (E:XK) (t:TA):TE:=fun σ H Q=>t σ H λvs H1=>sp (vs++dvs) H1 Q E
def Yp (C:Addr) (m:Str) (sp:Sp) (dvs:YG) (E:XK) (ta:TE) (t:TA):TE:=fun σ H Q=>ta σ H λx H1=>∃a dx fs,x=.ref a/\H1 a=some (.ins C dx fs)/\fs.lookup m=none /\
 t σ H1 λvs H2=>sp (x::(vs++dvs)) H2 Q E
def sJ (C:Addr) (sp:Sp) (dvs:YG) (E:XK) (t:TA):TE:=fun σ H Q=>t σ H λvs H1=>∀x dx,H1 x=none->H1 dx=none->dx≠x ->
 sp (.ref x::(vs++dvs)) (upd (upd H1 dx (.own x)) x (.ins C dx [])) (λv H2=>v=.non/\Q (.ref x) H2) E
def Binds (K:YD) (fd:FuncData) (ps:YF) (ds:YE):Prop:=
 ∀(s:Shared) (us:YE),K.In s.heap->(us++ds).length=ps.length->BindsTo s fd ⟨us,[]⟩ (ps.zip (us++ds))
theorem Binds.all {K:YD} {fd:FuncData} {ps:YF} (h:∀us:YE,us.length=ps.length->bindArgs fd ⟨us,[]⟩=pure (ps.zip us)):Binds K fd ps []:=λs us _ hl=>by
 rw[QbG] at hl ⊢
 exact .of_eq (h us hl)
def Passes (CX:CXT) (X:Cx) (E:XK):Prop:=∀(pins:YC) (σ : St) (H:Hp) (s:Shared) (e:Value) (s':Shared),Inv X pins σ H s->CX X.stack H s E e s'->X.xe e s'
section
variable {X:Cx} {CX:CXT} {k:Nat} {f C:Addr} {fd:FuncData} {ps:YF} {sp:Sp} {dvs:YG} {ds:YE} {E:XK} {x m:Str} {p pos apos:Pos} {e o:Expr} {es:YJ} {ta:TE} {t:TA}
theorem Zv {pins:YC} {σ : St} {H:Hp} {s:Shared} {Q:VK} {us:YE} {vs:YG} (F:GD X.prog X.w X.K X.mg X.base CX k f fd ps sp) (hr:CG k X.A) (hb:Binds X.K fd ps ds) (hd:Vals dvs ds) (hx:Passes CX X E)
  (I:Inv X pins σ H s) (r:Vals vs us) (h:sp (vs++dvs) H Q E):wpAny (model X.prog X.w) X.A (call (.ref f) us) (EP X pins σ Q) X.xe s:=by
 have r2:Vals (vs++dvs) (us++ds):=r.append hd
 have hl:(us++ds).length=ps.length:=by rw[<-r2.length];exact F.len _ _ _ _ h
 refine wpAny_call (codeAny_mono (F.run X.A X.stack s H ⟨us,[]⟩ (us++ds) (vs++dvs) Q E hr I.env0 (hb s us I.kIn hl) r2 h) λr s' hq=>?_)
 cases r with
 | error e=>exact hx pins σ H s e s' I hq
 | ok fl=>
  cases fl with
  | ret u=>exact I.after hq
  | next=>exact False.elim hq
  | brk=>exact False.elim hq
  | cont=>exact False.elim hq
theorem vo (F:GD X.prog X.w X.K X.mg X.base CX k f fd ps sp) (hr:CG k X.A) (hg:Gl X x) (hm:X.mg x=some (.ref f)) (hk:keepIn X.K (.ref f)=true) (hb:Binds X.K fd ps ds) (hd:Vals dvs ds) (hx:Passes CX X E)
  (ha:PA X (e::es) t) (hdb:(x == ("__debug__":Str))=false:=by decide) (he:starEach (e::es) X.env=(false,eval e X.env)::starEach es X.env:=by rfl) (hpl:(backTo pos (starEach es X.env)).any (·.1)=false:=by rfl) :
  PE X (.Call (.Name x p) (e::es) [] pos) (sW sp dvs E t):=by
 intro pins s σ H Q I h
 refine Qbh (WR I hg hm ?_ hdb)
 refine PySem.W.callWith_K (h₀:=X.base) I.ok.mod.kin hk (thn (ha pos pins s σ H _ I h) λus s1 zz=>?_) he hpl
 obtain⟨vs,H1,I1,r,q⟩:=zz
 refine⟨I1.kIn,?_⟩
 exact Zv F hr hb hd hx I1 r q
theorem vf {pl:Sem Bool} (he:PE X o ta) (c:Cls X.K C) (hm:Meth X.K C m f) (F:GD X.prog X.w X.K X.mg X.base CX k f fd ps sp) (hr:CG k X.A) (hb:Binds X.K fd ps ds) (hd:Vals dvs ds) (hx:Passes CX X E) (ha:PA X (e::es) t)
  (hst:starEach (e::es) X.env=(false,eval e X.env)::starEach es X.env:=by rfl) (hpl:(backTo pos (starEach es X.env)).any (·.1)=false:=by rfl)
  (ht:eval (.Call (.Attribute o m apos) (e::es) [] pos) X.env=(do
   let ov <-eval o X.env
   standAt apos.atName
   let (f,first) <-holding [ov] (getMethod ov m pl)
   callWith pos f first (backTo pos (starEach (e::es) X.env)) (backToKw pos (keywordEach [] X.env))):=by rfl) :
  PE X (.Call (.Attribute o m apos) (e::es) [] pos) (Yp C m sp dvs E ta t):=by
 intro pins s σ H Q I h
 refine PySem.W.methodCall_KW (pl:=pl) (thn (he pins s σ H _ I h) λu s1 zz=>?_) ht
 obtain⟨x,H1,I1,rx,a,dx,fs,ex,ea,l,q⟩:=zz
 subst ex
 obtain rfl:u=Value.ref a:=rx
 refine Qs I1 ea c hm l ?_
 refine PySem.W.callWith_K (first:=[.ref a]) (h₀:=X.base) I.ok.mod.kin hm.kp (thn (ha pos pins s1 σ H1 _ I1 q) λus s2 zz=>?_) hst hpl
 obtain⟨vs,H2,I2,r,q2⟩:=zz
 refine⟨I2.kIn,?_⟩
 exact Zv (us:=.ref a::us) (vs:=.ref a::vs) F hr hb hd hx I2 (.cons rfl r) q2
theorem pY {pl:Sem Bool} (he:PE X o ta) (c:Cls X.K C) (hm:Meth X.K C m f) (F:GD X.prog X.w X.K X.mg X.base CX k f fd ps sp) (hr:CG k X.A) (hb:Binds X.K fd ps ds) (hd:Vals dvs ds) (hx:Passes CX X E)
  (ht:eval (.Call (.Attribute o m apos) [] [] pos) X.env=(do
   let ov <-eval o X.env
   standAt apos.atName
   let (f,first) <-holding [ov] (getMethod ov m pl)
   callWith pos f first (backTo pos (starEach [] X.env)) (backToKw pos (keywordEach [] X.env))):=by rfl) :
  PE X (.Call (.Attribute o m apos) [] [] pos) (Yp C m sp dvs E ta gq):=by
 intro pins s σ H Q I h
 refine PySem.W.methodCall_KW (pl:=pl) (thn (he pins s σ H _ I h) λu s1 zz=>?_) ht
 obtain⟨x,H1,I1,rx,a,dx,fs,ex,ea,l,q⟩:=zz
 subst ex
 obtain rfl:u=Value.ref a:=rx
 refine Qs I1 ea c hm l ?_
 exact PySem.W.callWith_K0 (first:=[.ref a]) I1.kIn hm.kp (Zv (us:=[.ref a]) (vs:=[.ref a]) F hr hb hd hx I1 (.cons rfl .nil) q)
structure Mk (K:YD) (C f:Addr):Prop where
 makes:makesIn K C=true
 init:findIn K (.ref C) "__init__"=some (some (.ref f))
 fn:isFn K (.ref f)=true
 kp:keepIn K (.ref C)=true
theorem pI {pins:YC} {σ : St} {H:Hp} {s:Shared} {Q:VK} {us:YE} {vs:YG} (M:Mk X.K C f) (F:GD X.prog X.w X.K X.mg X.base CX k f fd ps sp) (hr:CG (k+1) X.A) (hb:Binds X.K fd ps ds) (hd:Vals dvs ds)
  (hx:Passes CX X E) (I:Inv X pins σ H s) (r:Vals vs us)
  (h:∀x dx,H x=none->H dx=none->dx≠x->sp (.ref x::(vs++dvs)) (upd (upd H dx (.own x)) x (.ins C dx [])) (λv H2=>v=.non/\Q (.ref x) H2) E) :
  wpAny (model X.prog X.w) X.A (call (.ref C) us) (EP X pins σ Q) X.xe s:=by
 have hq:=h (s.heap.objs.size+1) s.heap.objs.size (I.hok.fresh (Qct _)) (I.hok.fresh (Qcn _)) (Qch (Qby _))
 have I2:=Inv.made (C:=C) I
 have r2:Vals (V.ref (s.heap.objs.size+1)::(vs++dvs)) (Value.ref (s.heap.objs.size+1)::(us++ds)):=.cons rfl (r.append hd)
 have hl:(Value.ref (s.heap.objs.size+1)::us++ds).length=ps.length:=by
  have e:=r2.length
  rw[F.len _ _ _ _ hq] at e
  exact e.symm
 refine wpAny_call (qK (f:=f) I.kIn M.makes M.init (beq_iff_eq.mp M.fn) (codeAny_mono (F.run _ X.stack _ _ ⟨Value.ref (s.heap.objs.size+1)::us,[]⟩ (Value.ref (s.heap.objs.size+1)::(us++ds)) _ _ E (hr.make C us [])
  (I2.env0.make C us []) (hb _ (Value.ref (s.heap.objs.size+1)::us) I2.kIn hl) r2 hq) λr s' hq'=>?_))
 cases r with
 | error e=>exact hx pins σ _ _ e s' I2 hq'
 | ok fl=>
  cases fl with
  | ret u=>
   obtain⟨v,H',I3,rv,ev,q3⟩:=I2.after hq'
   subst ev
   exact⟨rv,⟨V.ref (s.heap.objs.size+1),H',I3,rfl,q3⟩⟩
  | next=>exact False.elim hq'
  | brk=>exact False.elim hq'
  | cont=>exact False.elim hq'
theorem vg (M:Mk X.K C f) (F:GD X.prog X.w X.K X.mg X.base CX k f fd ps sp) (hr:CG (k+1) X.A) (hg:Gl X x) (hm:X.mg x=some (.ref C)) (hb:Binds X.K fd ps ds) (hd:Vals dvs ds) (hx:Passes CX X E)
  (ha:PA X (e::es) t) (hdb:(x == ("__debug__":Str))=false:=by decide) (he:starEach (e::es) X.env=(false,eval e X.env)::starEach es X.env:=by rfl) (hpl:(backTo pos (starEach es X.env)).any (·.1)=false:=by rfl) :
  PE X (.Call (.Name x p) (e::es) [] pos) (sJ C sp dvs E t):=by
 intro pins s σ H Q I h
 refine Qbh (WR I hg hm ?_ hdb)
 refine PySem.W.callWith_K (h₀:=X.base) I.ok.mod.kin M.kp (thn (ha pos pins s σ H _ I h) λus s1 zz=>?_) he hpl
 obtain⟨vs,H1,I1,r,q⟩:=zz
 refine⟨I1.kIn,?_⟩
 exact pI M F hr hb hd hx I1 r q
end
def PK (X:Cx) (kws:List Keyword) (t:TA):Prop:=
 ∀(pos:Pos) (pins:YC) (s:Shared) (σ : St) (H:Hp) (Q:YG->Hp->Prop),Inv X pins σ H s->t σ H Q->wpAny (model X.prog X.w) X.A (evalAll ((backToKw pos (keywordEach kws X.env)).map (·.2))) (AP X pins σ Q) X.xe s
section
variable {X:Cx} {CX:CXT} {k:Nat} {f C:Addr} {fd:FuncData} {ps ks:YF} {sp:Sp} {E:XK} {x m:Str} {p pos apos kpos:Pos} {e o:Expr} {es:YJ} {kws:List Keyword} {te ta:TE} {t tk:TA} {nm:Option Str}
theorem yh:PK X [] gq:=λ_ _ _ _ H Q I h=>wpAny_evalAll_nil ⟨[],H,I,.nil,h⟩
theorem vd (ha:PE X e te) (hr:PK X kws t):PK X (⟨nm,e,kpos⟩::kws) (sO te t):=by
 intro pos pins s σ H Q I h
 show wpAny _ _ (evalAll ((do let v <-eval e X.env;standAt pos;pure v)::(backToKw pos (keywordEach kws X.env)).map (·.2))) _ _ s
 refine wpAny_evalAll_cons (Qcu (thn (ha pins s σ H _ I h) λu s1 zz=>?_))
 obtain⟨x,H1,I1,r1,q1⟩:=zz
 refine Qcu (Qcc (Qcv ?_))
 refine thn (hr pos pins s1 σ H1 _ I1 q1) λus s2 zz=>?_
 obtain⟨xs,H2,I2,r2,q2⟩:=zz
 exact⟨x::xs,H2,I2,.cons r1 r2,q2⟩
variable {g:YE->YE->YE} {gV:YG->YG->YG}
end
structure Ax (N P:YF) (sc:Scope):Prop where
 kind:sc.kind=.function
 co:sc.isCoroutine=false
 gen:sc.isGenerator=false
 nd:N.Nodup
 pre:N.take P.length=P
 par:∀x∈P,sc.names.lookup x=some .local\/sc.names.lookup x=some .cell
 Z5:∀y∈sc.names,y.2≠.free
theorem XR {kindOf:Str->Option NameKind} {x:Str}:∀{binds:List (Str×Value)} {m:YB},(∀v,(x,v)∉binds)->bindL kindOf binds m x=m x
 | [],_,_=>rfl
 | (n,v)::r,m,h=>by
  unfold bindL
  rw[XR λw hw=>h w (QaG _ hw)]
  split
  ·have:x≠n:=by rintro rfl;exact h v QaT
   simp[this]
  ·rfl
theorem X3 {kindOf:Str->Option NameKind} {x:Str}:∀{binds:List (Str×Value)} {m:YB},(∀v,(x,v)∉binds)->bindC kindOf binds m x=m x
 | [],_,_=>rfl
 | (n,v)::r,m,h=>by
  unfold bindC
  rw[X3 λw hw=>h w (QaG _ hw)]
  split
  ·rfl
  ·have:x≠n:=by rintro rfl;exact h v QaT
   simp[this]
theorem XS {kindOf:Str->Option NameKind} {x:Str} {v:Value}:∀{P:YF} {vs:YE} {i:Nat} {m:YB},P.Nodup->P[i]?=some x->vs[i]?=some v->kindOf x=some .local ->
  bindL kindOf (P.zip vs) m x=some v
 | [],_,_,_,_,h,_,_=>by simp at h
 | _::_,[],_,_,_,_,h,_=>by simp at h
 | p::P,w::vs,0,m,nd,h1,h2,hk=>by
  simp at h1 h2;subst h1;subst h2
  show bindL kindOf ((p,w)::P.zip vs) m p=_
  unfold bindL
  rw[XR λv hv=>(QbK.mp nd).1 (List.of_mem_zip hv).1,if_pos hk]
  simp
 | p::P,w::vs,i+1,m,nd,h1,h2,hk=>by
  show bindL kindOf ((p,w)::P.zip vs) m x=_
  unfold bindL
  exact XS (i:=i) (QbK.mp nd).2 (by simpa using h1) (by simpa using h2) hk
theorem X4 {kindOf:Str->Option NameKind} {x:Str} {v:Value}:∀{P:YF} {vs:YE} {i:Nat} {m:YB},P.Nodup->P[i]?=some x->vs[i]?=some v->kindOf x≠some .local ->
  bindC kindOf (P.zip vs) m x=some v
 | [],_,_,_,_,h,_,_=>by simp at h
 | _::_,[],_,_,_,_,h,_=>by simp at h
 | p::P,w::vs,0,m,nd,h1,h2,hk=>by
  simp at h1 h2;subst h1;subst h2
  show bindC kindOf ((p,w)::P.zip vs) m p=_
  unfold bindC
  rw[X3 λv hv=>(QbK.mp nd).1 (List.of_mem_zip hv).1,if_neg hk]
  simp
 | p::P,w::vs,i+1,m,nd,h1,h2,hk=>by
  show bindC kindOf ((p,w)::P.zip vs) m x=_
  unfold bindC
  exact X4 (i:=i) (QbK.mp nd).2 (by simpa using h1) (by simpa using h2) hk
def start (N:YF) (vs:YG):St:=vs.map some++List.replicate (N.length - vs.length) none
def RK (CX:CXT) (P:Program) (w:World) (K:YD) (mg:YB) (base:Heap) (N:YF) (qual:Str) (scope:Scope) (f:Addr) (cd:Value) (A:Around) (outer:List Env) (s:Shared) (H:Hp) (E:XK):Cx where
 prog:=P
 w:=w
 K:=K
 mg:=mg
 base:=base
 A:=A.deeper (envOfC qual scope s.heap.objs.size f cd)
 N:=N
 s₀:=s
 H₀:=H
 env:=envOfC qual scope s.heap.objs.size f cd
 outer:=outer
 stack:=envOfC qual scope s.heap.objs.size f cd::outer
 ex:=[]
 calm:=true
 fn:=λ_=>true
 pn:=[]
 xe:=λe s'=>wpAny (model P w) (A.deeper (envOfC qual scope s.heap.objs.size f cd)) (leaving (envOfC qual scope s.heap.objs.size f cd) e) (λ_ s''=>CX outer H s E e s'') (λe' s''=>CX outer H s E e' s'') s'
theorem aZ {sc:Scope} {n:Nat} {x:Str} (h:sc.names.lookup x=some .cell):∃c,(cellsFrom n sc.names []).lookup x=some c:=by
 have q:=PySem.W.cellsFrom_some sc.names n [] (.inl h)
 exact Option.isSome_iff_exists.mp q
theorem lM {CX:CXT} {P:Program} {w:World} {K:YD} {mg:YB} {base:Heap} {N ps:YF} {qual:Str} {scope:Scope} {f:Addr} {cd:Value} {A:Around} {outer:List Env} {s s1:Shared} {H:Hp} {E:XK} {us:YE} {vs:YG}
  (S:Ax N ps scope) (hd:A.handled=none) (e0:O6 P w K mg base A outer s H) (hl:vs.length=ps.length) (r:Vals vs us)
  (x:InCallC s s.heap.objs.size (bindL (envOfC qual scope s.heap.objs.size f cd).kindOf (ps.zip us) λ_=>none) (cellsFrom (s.heap.objs.size+1) scope.names []) (bindC (envOfC qual scope s.heap.objs.size f cd).kindOf (ps.zip us) λ_=>none) s1) :
  Inv (RK CX P w K mg base N qual scope f cd A outer s H E) [] (start N vs) H s1:=by
 have hpl:ps.length<=N.length:=by have:=congrArg List.length S.pre;rw[Qbu] at this;omega
 obtain⟨h1,tk,rfl,hk⟩:=x.done
 have noA:∀b:Addr,b∉(RK CX P w K mg base N qual scope f cd A outer s H E).ex:=λb z=>absurd (show b∈([]:List Addr) from z) (by simp)
 refine⟨⟨e0.mod,S.kind,rfl,rfl,Qcn _,λy z c h1 h2=>?_,λy hy=>?_,λy c _ h=>?_,λ_=>hd,Around.frames_deeper e0.frames,.inr ⟨rfl,rfl⟩,λb z=>absurd z (noA b),e0.bs,e0.bsz,λb _ _=>noA b,λb z=>absurd z (noA b),e0.JW,e0.frf⟩,
  rfl,e0.bare,Un.kept hk,⟨_,x.toInCall.ns,λi y v h1 h2 h3=>?_⟩,λy c h=>⟨_,x.cell y c h⟩,e0.hok.fresh (Qcn _),λy c h=>?_,λp hp=>absurd (show p∈([]:YC) from hp) (by simp),e0.hok.kept hk,?_⟩
 ·exact name_of_addr x.apart (QaP h1) (QaP h2)
 ·have hy:scope.names.lookup y=some .cell\/scope.names.lookup y=some .free:=hy
  rcases hy with hy | hy
  ·exact aZ hy
  ·exact absurd rfl (S.Z5 _ (QaP hy))
 ·exact Qcl (x.above y c (QaP h))
 ·have hi:i < vs.length:=by
   unfold start at h2
   by_cases hi:i < vs.length
   ·exact hi
   ·rw[List.getElem?_append_right (by simpa using hi)] at h2
    rw[List.getElem?_replicate] at h2
    split at h2 <;> cases h2
  have ha:vs[i]?=some v:=by
   unfold start at h2
   rw[List.getElem?_append_left (by simpa using hi),Qbk] at h2
   cases e:vs[i]? with
   | none=>rw[e] at h2;cases h2
   | some a=>rw[e] at h2;cases h2;rfl
  obtain⟨u,hu,rv⟩:=r.get ha
  have hp:ps[i]?=some y:=by
   rw[<-S.pre,List.getElem?_take_of_lt (by omega)];exact h1
  have ndP:ps.Nodup:=by rw[<-S.pre];exact S.nd.sublist (List.take_sublist _ _)
  refine⟨u,rv,?_⟩
  rcases S.par y (QaF hp) with k | k
  ·exact .inl ⟨k,XS ndP hp hu k⟩
  ·obtain⟨c,e⟩:=aZ (n:=s.heap.objs.size+1) k
   refine .inr ⟨.inl k,c,e,?_⟩
   have q:=x.cell y c e
   rw[X4 ndP hp hu (by show scope.names.lookup y≠_;rw[k];decide)] at q
   exact q
 ·exact e0.hok.fresh (Qcl (x.above y c (QaP h)))
 ·unfold start
  show _=N.length
  rw[QaS,QbB,List.length_replicate]
  omega
theorem BC {CX:CXT} {P:Program} {w:World} {K:YD} {mg:YB} {base:Heap} {k:Nat} {f:Addr} {name qual:Str} {params:Arguments} {body:List Stmt} {scope:Scope} {dV kV doc pm cdv ct oc:Value} {an od:Option Addr}
  {osl:YI} {N ps:YF} {sp:Sp} (lk:K.lookup f=some ⟨oc,od,.func (fnOf name qual params body scope dV kV doc pm an cdv ct),osl⟩) (hcd:codeIn K cdv qual=true) (S:Ax N ps scope)
  (len:∀vs H Q E,sp vs H Q E->vs.length=ps.length)
  (hbody:∀(A:Around) (outer:List Env) (s:Shared) (H:Hp) (vs:YG) (Q:VK) (E:XK),CG k (A.deeper (envOfC qual scope s.heap.objs.size f cdv))->sp vs H Q E ->
   ∃t,PSs (RK CX P w K mg base N qual scope f cdv A outer s H E) body t/\t { nx:=λ_ H'=>Q .non H',rt:=Q } (start N vs) H) :
  GD P w K mg base CX (k+1) f (fnOf name qual params body scope dV kV doc pm an cdv ct) ps sp:=by
 refine⟨len,λA outer s H args us vs Q E hr e0 hb r hsp=>?_⟩
 have hl:=len _ _ _ _ hsp
 have KX:K.In s.heap:=e0.mod.kin.keeps λb o e=>(e0.bs b o e).1
 have lim:s.heap.NoLimit:=e0.mod.nolimit.keeps λb o e=>(e0.bs b o e).1
 have hkind:∀y∈ps.zip us,scope.names.lookup y.1=some .local\/(scope.names.lookup y.1=some .cell/\((cellsFrom (s.heap.objs.size+1) scope.names []).lookup y.1).isSome=true):=λ⟨n,v⟩ hy=>by
  rcases S.par n (List.of_mem_zip hy).1 with q | q
  ·exact .inl q
  ·exact .inr ⟨q,PySem.W.cellsFrom_some _ _ _ (.inl q)⟩
 refine codeAny_call_function hr.depth (KX _ _ lk) rfl S.co S.gen rfl (PySem.W.codeRec_of KX hcd) (hb _ _ _ _ ?_)
 refine wpAny_newFunctionEnv_cells S.kind hkind λenv he s1 x=>?_
 subst he
 refine⟨lim.keeps x.toInCall.keep,codeAny_func ?_⟩
 obtain⟨t,ht,hq⟩:=hbody A outer s H vs Q E (hr.deeper _) hsp
 have I:Inv (RK CX P w K mg base N qual scope f cdv A outer s H E) [] (start N vs) H s1:=lM S hr.hd e0 hl r x
 refine Qcw (ht [] s1 (start N vs) H _ I hq) (λfl s' hs=>?_) λe s' hs=>hs
 have fin:∀{σ':St} {H':Hp} {v:V} {u:Value},Inv (RK CX P w K mg base N qual scope f cdv A outer s H E) [] σ' H' s'->RelV v u->Q v H'->CE outer P w H s Q u s':=
  λ{σ' H' v u} J rv q=>⟨v,H',J.os,J.bare,J.base,J.hok,rv,q⟩
 cases fl with
 | ret u=>
  obtain⟨v,σ',H',J,rv,q⟩:=hs
  exact fin J rv q
 | next=>
  obtain⟨σ',H',J,q⟩:=hs
  exact fin (v:=V.non) (u:=Value.none) J rfl q
 | brk=>
  obtain⟨_,_,_,q⟩:=hs
  exact False.elim q
 | cont=>
  obtain⟨_,_,_,q⟩:=hs
  exact False.elim q
section
variable {X:Cx} {x:Str} {p pos:Pos} {e:Expr} {es:YJ} {t:TA} {id T:String} {r:YG->Hp->VK->Prop}
def tCB (r:YG->Hp->VK->Prop) (t:TA):TE:=fun σ H Q=>t σ H λvs H1=>r vs H1 Q
theorem Az (hc:FW X (.builtin id) r) (hg:Gl X x) (hm:X.mg x=none) (hv:bootBuiltins x=some (.builtin id)) (ha:PA X (e::es) t) (hn:x≠"__name__":=by decide) (hdb:(x == ("__debug__":Str))=false:=by decide)
  (he:starEach (e::es) X.env=(false,eval e X.env)::starEach es X.env:=by rfl) (hpl:(backTo pos (starEach es X.env)).any (·.1)=false:=by rfl):PE X (.Call (.Name x p) (e::es) [] pos) (tCB r t):=by
 intro pins s σ H Q I h
 refine Qbh (JR I hg hm hv ?_ hn hdb)
 refine PyProof.Rows.callWith_builtin1 (thn (ha pos pins s σ H _ I h) λus s1 zz=>?_) he hpl
 obtain⟨vs,H1,I1,r1,q1⟩:=zz
 exact hc pins s1 σ H1 vs us Q I1 r1 q1
theorem Ju (hc:FW X (.type T) r) (hg:Gl X x) (hm:X.mg x=none) (hv:bootBuiltins x=some (.type T)) (ha:PA X (e::es) t) (hn:x≠"__name__":=by decide) (hdb:(x == ("__debug__":Str))=false:=by decide)
  (he:starEach (e::es) X.env=(false,eval e X.env)::starEach es X.env:=by rfl) (hpl:(backTo pos (starEach es X.env)).any (·.1)=false:=by rfl):PE X (.Call (.Name x p) (e::es) [] pos) (tCB r t):=by
 intro pins s σ H Q I h
 refine Qbh (JR I hg hm hv ?_ hn hdb)
 refine Qae (thn (ha pos pins s σ H _ I h) λus s1 zz=>?_) he hpl
 obtain⟨vs,H1,I1,r1,q1⟩:=zz
 exact hc pins s1 σ H1 vs us Q I1 r1 q1
end
end L2
namespace HT
open PySem PyProof.Rows
section
open PySem.SeqAt
open PySem.AutoSeq1 (wpAny_loadPart')
open PySem.MeetsSeq PySem.MeetsSeq2 PySem.MeetsSeq3
end
section
variable {prog:Program} {w:World} {A:Around} {E:YA} {s:Shared}
theorem wz {t b:Addr} {vs ws:YE} {Q:YA} (ht:IsTup s.heap t vs.toArray) (hb:IsTup s.heap b ws.toArray) (hv:vs≠[])
  (h1:ws=[]->Q (.ref t) s) (h2:ws≠[]->Q (.ref s.heap.objs.size) { s with heap:=s.heap.push { cls:=.type "tuple",data:=.seq (vs++ws).toArray } })
  (hsz:vs.length+ws.length<=sizeLine):wpAny (model prog w) A (binaryOp .Add (.ref t) (.ref b)) Q E s:=by
 obtain⟨⟨cls,dd,data,sl⟩,ho,hc,n,hd⟩:=id ht
 obtain⟨⟨cls2,dd2,data2,sl2⟩,ho2,hc2,n2,hd2⟩:=id hb
 simp only at hc hd hc2 hd2
 subst hc hd hc2 hd2
 have e:vs.toArray++ws.toArray=(vs++ws).toArray:=by simp
 by_cases hw:ws=[]
 ·exact concat_meets ⟨_,ho,rfl⟩ ⟨_,ho2,rfl⟩ noFill_tuple_add seq_tuple_add PySem.F.slot_tuple_add PySem.F.entry_tuple_add (PySem.F.args_tuple_add_2 _ _)
   (tuple_addW1 t b vs.toArray ws.toArray n n2 dd dd2 sl sl2 (by simpa using hv) (by simp[hw])) ⟨ho,ho2,h1 hw⟩
 ·refine concat_meets ⟨_,ho,rfl⟩ ⟨_,ho2,rfl⟩ noFill_tuple_add seq_tuple_add PySem.F.slot_tuple_add PySem.F.entry_tuple_add (PySem.F.args_tuple_add_2 _ _)
   (tuple_addW2 t b vs.toArray ws.toArray n n2 dd dd2 sl sl2 (by simpa using hv) (by simpa using hw) (by rw[Qbi,Qbi];exact hsz)) ⟨ho,ho2,?_⟩
  rw[e]
  exact h2 hw
def sIx (n d:Nat):Option Int->Nat
 | none=>d
 | some v=>if v < 0 then (v+(n:Int)).toNat else min v.toNat n
theorem Zr (n d:Nat):sIx n d none=d:=rfl
theorem dO (n d k:Nat):sIx n d (some (k:Int))=min k n:=by
 show (if (k:Int) < 0 then ((k:Int)+(n:Int)).toNat else min (k:Int).toNat n)=min k n
 rw[if_neg (by omega),Qbm]
theorem xY (n d:Nat) (hd:d<=n) (o:Option Int):sIx n d o<=n:=by
 cases o with
 | none=>exact hd
 | some v=>
  show (if v < 0 then (v+(n:Int)).toNat else min v.toNat n)<=n
  by_cases hv:v < 0
  ·rw[if_pos hv];omega
  ·rw[if_neg hv];exact Nat.min_le_right _ _
theorem fK (v:Int) (n d:Nat):(if v < 0 then max (v+(n:Int)) 0 else min v (n:Int))=((sIx n d (some v):Nat):Int):=by
 show (if v < 0 then max (v+(n:Int)) 0 else min v (n:Int))=(((if v < 0 then (v+(n:Int)).toNat else min v.toNat n):Nat):Int)
 by_cases hv:v < 0
 ·simp only[if_pos hv];omega
 ·simp only[if_neg hv];omega
theorem jj (lo hi:Option Int) (n:Nat):Builtin.Slice.sliceAdjust lo hi 1 (n:Int)=(((sIx n 0 lo:Nat):Int),((sIx n n hi:Nat):Int)):=by
 have h1:¬((1:Int) < 0):=by omega
 unfold Builtin.Slice.sliceAdjust
 simp only[h1,if_false]
 refine Prod.ext ?_ ?_
 ·cases lo with
  | none=>rfl
  | some v=>exact fK v n 0
 ·cases hi with
  | none=>rfl
  | some v=>exact fK v n n
theorem gO (i j:Nat):Builtin.Slice.slicePlaces (i:Int) (j:Int) 1=j - i:=by
 unfold Builtin.Slice.slicePlaces
 have h1:(1:Int) > 0:=by omega
 simp only[h1,if_true,Int.ediv_one]
 split <;> omega
theorem U9 {v:Value} {o:Option Int} {Q:Option Int->Shared->Prop} (p:IsPart v o) (h:Q o s):wpAny (model prog w) A (Builtin.Slice.slicePartIndex v) Q E s:=by
 cases p with
 | none=>exact slicePart_none h
 | int i t=>exact slicePart_int h
theorem M5 {sl:Addr} {vl vu:Value} {lo hi:Option Int} {n:Nat} {Q:Int×Int×Nat->Shared->Prop} (hs:s.heap.IsSliceOf sl vl vu .none) (pl:IsPart vl lo) (pu:IsPart vu hi)
  (h:Q (((sIx n 0 lo:Nat):Int),1,sIx n n hi - sIx n 0 lo) s):wpAny (model prog w) A (Builtin.Slice.sliceApplied (.ref sl) (pure (n:Int))) Q E s:=by
 obtain⟨os,hos,hcs,hds⟩:=id hs
 unfold Builtin.Slice.sliceApplied Builtin.Slice.sliceFields
 refine Qcu (Qcu (Qcq hos hds (x:=vl) rfl (Qcu (Qcq hos hds (x:=vu) rfl (Qcu (Qcq hos hds (x:=.none) rfl (Qcv ?_)))))))
 refine Qcu (slicePart_none ?_)
 show wpAny _ _ (if ((1:Int) == 0)=true then _ else _) _ _ s
 rw[if_neg (by decide)]
 refine Qcu (U9 pl (Qcu (U9 pu (Qcu (Qcv ?_)))))
 show wpAny _ _ (match Builtin.Slice.sliceAdjust lo hi 1 (n:Int) with | (lo,hi)=>pure (lo,(1:Int),Builtin.Slice.slicePlaces lo hi 1)) _ _ s
 rw[jj lo hi n]
 show wpAny _ _ (pure (((sIx n 0 lo:Nat):Int),(1:Int),Builtin.Slice.slicePlaces ((sIx n 0 lo:Nat):Int) ((sIx n n hi:Nat):Int) 1)) _ _ s
 rw[gO]
 exact Qcv h
theorem pW (xs:Array Value) (i k:Nat):((List.range k).filterMap λ(m:Nat)=>xs[((i:Int)+(m:Int)*1).toNat]?).toArray=((xs.toList.drop i).take k).toArray:=by
 have e:(λ(m:Nat)=>xs[((i:Int)+(m:Int)*1).toNat]?)=λm=>xs[i+m]?:=by
  funext m
  have:((i:Int)+(m:Int)*1).toNat=i+m:=by omega
  rw[this]
 rw[e]
 have:=pick_run xs i k
 rw[List.filterMap_map] at this
 have e2:((λx=>xs[x]?) ∘ λx=>i+x)=λm=>xs[i+m]?:=rfl
 rw[e2] at this
 rw[this]
theorem Tz {t sl:Addr} {items:Array Value} {vl vu:Value} {lo hi:Option Int} {Q:YA} (ht:IsTup s.heap t items) (hs:s.heap.IsSliceOf sl vl vu .none) (pl:IsPart vl lo) (pu:IsPart vu hi)
  (hw:¬(sIx items.size 0 lo=0/\sIx items.size items.size hi=items.size))
  (h:Q (.ref s.heap.objs.size) { s with heap:=s.heap.push { cls:=.type "tuple",data:=.seq ((items.toList.drop (sIx items.size 0 lo)).take (sIx items.size items.size hi - sIx items.size 0 lo)).toArray } })
  (hsz:items.size<=sizeLine):wpAny (model prog w) A (getItem (.ref t) (.ref sl)) Q E s:=by
 have Yt:sizeOk (.seq ((items.toList.drop (sIx items.size 0 lo)).take (sIx items.size items.size hi - sIx items.size 0 lo)).toArray):=by
  show ((items.toList.drop (sIx items.size 0 lo)).take (sIx items.size items.size hi - sIx items.size 0 lo)).toArray.size<=sizeLine
  rw[Qbi,Qbu,Qbx,QaN]
  omega
 have hj:sIx items.size items.size hi<=items.size:=xY _ _ (Qcn _) hi
 obtain⟨os,hos,hcs,hds⟩:=id hs
 have hTs:s.TypeIs (.ref sl) "slice":=⟨os,hos,hcs⟩
 unfold getItem
 try with_reducible refine Qca ?_
 first | refine Qcu (Qcv ?_) | skip
 refine Qcu (wpAny_sequenceKey ht.typeIs (by decide) ?_)
 refine Qcu (Qaq (name:=Str.ofString "__getitem__") ht.typeIs Qab
  (Qbw Qab ht.typeIs entry_tuple_getitem ?_ (args_tuple_getitem _ _)))
 show wpAny _ _ (Builtin.Tuple.tupleItemsOf (.ref t) >>= _) _ _ s
 refine Qcu (tupleItemsOf_ ht ?_)
 refine Qcu (wpAny_typeOf hTs ?_)
 rw[if_pos (by decide)]
 refine Qcu (M5 hs pl pu ?_)
 have hno:¬((((sIx items.size 0 lo:Nat):Int) == 0&&(1:Int) == 1&&(sIx items.size items.size hi - sIx items.size 0 lo) == items.size)=true):=by
  intro q
  rw[Qbz,Qbz] at q
  have q1:((sIx items.size 0 lo:Nat):Int)=0:=eq_of_beq q.1.1
  have q2:sIx items.size items.size hi - sIx items.size 0 lo=items.size:=eq_of_beq q.2
  exact hw ⟨by omega,by omega⟩
 show wpAny _ _ (if (((sIx items.size 0 lo:Nat):Int) == 0&&(1:Int) == 1&&(sIx items.size items.size hi - sIx items.size 0 lo) == items.size)=true then _ else _) _ _ s
 rw[if_neg hno,pW]
 first
  | exact Qcu (m:=Builtin.Tuple.tupleExact _) (Qbp (Qcv ⟨_,rfl,Qcv h⟩) Yt)
  | exact Qcu (m:=Builtin.Tuple.tupleExact _) (Qbp (Qcu (Qcv (Qcv ⟨_,rfl,Qcv h⟩))) Yt)
  | exact Qcu (Qcu (m:=Builtin.Tuple.tupleExact _) (Qbp (Qcv (Qcv ⟨_,rfl,Qcv h⟩)) Yt))
  | exact Qcu (Qcu (m:=Builtin.Tuple.tupleExact _) (Qbp (Qcv ⟨_,rfl,Qcv h⟩) Yt))
end
end HT
namespace L2
open PySem PySem.Spec PyProof.Rows
abbrev TO:=St->Hp->(Option Int->Hp->Prop)->Prop
def PO (X:Cx) (e:Option Expr) (t:TO):Prop:=
 ∀(pins:YC) (s:Shared) (σ : St) (H:Hp) (Q:Option Int->Hp->Prop),Inv X pins σ H s->t σ H Q ->
  wpAny (model X.prog X.w) X.A (evalPart e X.env) (λu s'=>∃o H',Inv X pins σ H' s'/\IsPart u o/\Q o H') X.xe s
def uK:TO:=λ_ H Q=>Q none H
def AF (t:TE):TO:=fun σ H Q=>t σ H λx H1=>∃i,x=.int i/\Q (some i) H1
theorem intsAre_of {ns:List Int}:∀{us:YE},Vals (ns.map V.int) us->IntsAre us ns:=by
 induction ns with
 | nil=>intro us r;rw[Qcm] at r;cases r;exact .nil
 | cons n ns ih=>
  intro us r
  rw[QbY] at r
  cases r with
  | cons r1 r2=>
   obtain⟨t,e⟩:=r1
   subst e
   exact .cons n t (ih r2)
section
variable {X:Cx} {e:Expr} {te:TE} {lo hi:Option Expr} {tl th:TO} {pos p2:Pos}
theorem Mv:PO X none uK:=by
 intro pins s σ H Q I h
 rw[evalPart_none]
 exact Qcv ⟨none,H,I,.none,h⟩
theorem Mu (h:PE X e te):PO X (some e) (AF te):=by
 intro pins s σ H Q I hw
 rw[evalPart_some]
 refine thn (h pins s σ H _ I hw) λu s1 zz=>?_
 obtain⟨x,H1,I1,r1,q1⟩:=zz
 obtain⟨i,rfl,q⟩:=q1
 obtain⟨t,rfl⟩:=r1
 exact⟨some i,H1,I1,.int i t,q⟩
def SlR (X:Cx) (r:V->Option Int->Option Int->Hp->VK->Prop):Prop:=
 ∀(pins:YC) (s:Shared) (σ : St) (H:Hp) (x:V) (v vl vu:Value) (lo hi:Option Int) (sl:Addr) (Q:VK),Inv X pins σ H s->RelV x v->s.heap.IsSliceOf sl vl vu .none->IsPart vl lo->IsPart vu hi->r x lo hi H Q ->
  ∃T id,typeLookup (.type T) "__getitem__"=pure (some (.builtin id))/\s.TypeIs v T/\wpAny (model X.prog X.w) X.A (getItem v (.ref sl)) (EP X pins σ Q) X.xe s
def tSl (r:V->Option Int->Option Int->Hp->VK->Prop) (te:TE) (tl th:TO):TE:=fun σ H Q=>te σ H λx H1=>tl σ H1 λl H2=>th σ H2 λu H3=>r x l u H3 Q
theorem Kl {r:V->Option Int->Option Int->Hp->VK->Prop} (hr:SlR X r) (he:PE X e te) (hl:PO X lo tl) (hu:PO X hi th):PE X (.Subscript e (.Slice lo hi none p2) pos) (tSl r te tl th):=by
 intro pins s σ H Q I h
 refine Subscript_ (thn (he pins s σ H _ I h) λv s1 zz=>?_)
 obtain⟨x,H1,I1,r1,q1⟩:=zz
 refine wpAny_Slice (thn (hl pins s1 σ H1 _ I1 q1) λvl s2 zz=>?_)
 obtain⟨l,H2,I2,pl,q2⟩:=zz
 refine thn (hu pins s2 σ H2 _ I2 q2) λvu s3 zz=>?_
 obtain⟨u,H3,I3,pu,q3⟩:=zz
 rw[evalPart_none]
 refine Qcv ?_
 have I4:Inv X pins σ H3 { s3 with heap:=s3.heap.push { cls:=.type "slice",data:=.fields #[vl,vu,.none] } }:=I3.kept (t':=s3.toks) λb ob q=>Qav _ q
 obtain⟨T,id,hT,ht,hg⟩:=hr pins { s3 with heap:=s3.heap.push { cls:=.type "slice",data:=.fields #[vl,vu,.none] } } σ H3 x v vl vu l u s3.heap.objs.size Q I4 r1 (Heap.IsSliceOf.new ..) pl pu q3
 show wpAny (model X.prog X.w) X.A (subscriptTail e (.Slice lo hi none p2) v (.ref s3.heap.objs.size)) (EP X pins σ Q) X.xe { s3 with heap:=s3.heap.push { cls:=.type "slice",data:=.fields #[vl,vu,.none] } }
 exact tail_any (ops:=[.ref s3.heap.objs.size,v]) ht hT hg (by with_unfolding_all rfl)
def Jm (xs:YG) (lo hi:Option Int):YG:=(xs.drop (HT.sIx xs.length 0 lo)).take (HT.sIx xs.length xs.length hi - HT.sIx xs.length 0 lo)
theorem T7 (xs:YG) (lo hi:Option Int):(Jm xs lo hi).length<=xs.length:=by
 unfold Jm
 rw[Qbu,Qbx]
 omega
def B8 (K:YD):V->Option Int->Option Int->Hp->VK->Prop:=λx lo hi H Q=>∃a xs,x=.ref a/\SqT K H a xs /\
 ¬(HT.sIx xs.length 0 lo=0/\HT.sIx xs.length xs.length hi=xs.length)/\∀p,H p=none->Q (.ref p) (upd H p (.tup (Jm xs lo hi)))
theorem xT:SlR X (B8 X.K):=by
 intro pins s σ H x v vl vu lo hi sl Q I rx hs pl pu h
 obtain⟨a,xs,rfl,hx,hw,q⟩:=h
 cases rx
 obtain⟨its,r,ht,hz⟩:=I.tuple hx
 have hlen:its.toArray.size=xs.length:=by rw[Qbi];exact r.length.symm
 refine⟨"tuple",_,Qab.lookup,ht.typeIs,?_⟩
 refine HT.Tz ht hs pl pu (by rw[hlen];exact hw) ?_ (by rw[hlen];exact hz)
 rw[hlen]
 refine⟨.ref s.heap.objs.size,_,I.laid (t':=s.toks) (o:=.tup (Jm xs lo hi)) (λb ob q=>Qav _ q) (Qcn _) ?_,rfl,q _ (I.hok.fresh (Qcn _))⟩
 exact⟨Qci (T7 xs lo hi) hz,_,(r.drop (HT.sIx xs.length 0 lo)).take (HT.sIx xs.length xs.length hi - HT.sIx xs.length 0 lo),IsTup.new _ _⟩
def AS (K:YD):R2:=λx y H Q=>∃a b xs ys,x=.ref a/\y=.ref b/\SqT K H a xs/\SqT K H b ys/\xs≠[]/\xs.length+ys.length<=sizeLine /\
 (ys=[]->Q (.ref a) H)/\(ys≠[]->∀p,H p=none->Q (.ref p) (upd H p (.tup (xs++ys))))
theorem Vals.WL {xs:YG} {us:YE} (r:Vals xs us):us=[] ↔ xs=[]:=by
 cases r with
 | nil=>simp
 | cons _ _=>simp
theorem vp:OpR X (binaryOp .Add) (AS X.K):=by
 intro pins s σ H x y v u Q I rx ry h
 obtain⟨a,b,xs,ys,rfl,rfl,ha,hb,hx,hz,q1,q2⟩:=h
 cases rx
 cases ry
 obtain⟨its,r1,p1,_⟩:=I.tuple ha
 obtain⟨its2,r2,p2,_⟩:=I.tuple hb
 refine HT.wz p1 p2 (λz=>hx (r1.WL.mp z)) (λz=>⟨.ref a,H,I,rfl,q1 (r2.WL.mp z)⟩) (λz=>?_) (by rw[<-r1.length,<-r2.length];exact hz)
 refine⟨.ref s.heap.objs.size,_,I.laid (t':=s.toks) (o:=.tup (xs++ys)) (λb ob q=>Qav _ q) (Qcn _) ?_,rfl,q2 (λw=>z (r2.WL.mpr w)) _ (I.hok.fresh (Qcn _))⟩
 exact⟨by rw[QaS];exact hz,_,r1.append r2,IsTup.new _ _⟩
end
def ixN (n:Nat) (i:Int):Option Nat:=if 0<=i then (if i < n then some i.toNat else none) else if -(n:Int)<=i then some (i+n).toNat else none
def atI {α : Type} (xs:List α) (i:Int):Option α:=(ixN xs.length i).bind λj=>xs[j]?
theorem eN {n:Nat} {i:Int} {j:Nat} (h:ixN n i=some j):seqIndex? i n=some j/\j < n/\-(n:Int)<=i/\i < n:=by
 unfold ixN at h
 by_cases h0:0<=i
 ·rw[if_pos h0] at h
  by_cases h1:i < n
  ·rw[if_pos h1] at h
   have e:i.toNat=j:=QbH h
   exact⟨by rw[seqIndex_of h0 h1,e],by omega,by omega,h1⟩
  ·rw[if_neg h1] at h;cases h
 ·rw[if_neg h0] at h
  by_cases h1:-(n:Int)<=i
  ·rw[if_pos h1] at h
   have e:(i+n).toNat=j:=QbH h
   exact⟨by rw[seqIndex_neg (by omega) h1,e],by omega,h1,by omega⟩
  ·rw[if_neg h1] at h;cases h
theorem Xj {α : Type} {xs:List α} {i:Int} {v:α} (h:atI xs i=some v):∃j,seqIndex? i xs.length=some j/\xs[j]?=some v/\j < xs.length/\-(xs.length:Int)<=i/\i < xs.length:=by
 unfold atI at h
 cases e:ixN xs.length i with
 | none=>rw[e] at h;cases h
 | some j=>
  rw[e] at h
  obtain⟨h1,h2,h3,h4⟩:=eN e
  exact⟨j,h1,h,h2,h3,h4⟩
theorem Gu {α : Type} {xs:List α} {j:Nat} {v:α} (h:xs[j]?=some v):atI xs (j:Int)=some v:=by
 have hj:j < xs.length:=(Qag.mp h).1
 have e:ixN xs.length (j:Int)=some j:=by
  unfold ixN
  rw[if_pos (by omega),if_pos (by omega)];simp
 unfold atI;rw[e];exact h
def wF (b:Expr):Prop:=∀o i,subscripted b false o i=operate [o,i] (getItem o i)
def IxR (X:Cx) (r:R2):Prop:=
 ∀(value slice:Expr) (pins:YC) (s:Shared) (σ : St) (H:Hp) (x y:V) (v u:Value) (Q:VK),Inv X pins σ H s->RelV x v->RelV y u->r x y H Q ->
  subscripted slice false v u=operate [v,u] (getItem v u)->wpAny (model X.prog X.w) X.A (subscriptTail value slice v u) (EP X pins σ Q) X.xe s
def MtR (X:Cx) (id:String) (r:V->YG->Hp->VK->Prop):Prop:=
 ∀(pins:YC) (s:Shared) (σ : St) (H:Hp) (x:V) (xs:YG) (v:Value) (us:YE) (Q:VK),Inv X pins σ H s->RelV x v->Vals xs us->r x xs H Q ->
  wpAny (model X.prog X.w) X.A (call (.builtin id) (v::us)) (EP X pins σ Q) X.xe s
section
variable {X:Cx} {a b:Expr} {ta tb:TE} {pos:Pos}
theorem Bh {r:R2} (hr:IxR X r) (ha:PE X a ta) (hb:PE X b tb) (hs:wF b):PE X (.Subscript a b pos) (tOp r ta tb):=by
 intro pins s σ H Q I h
 exact Subscript_ (rO ha hb I h λv u s2 x y H2 I2 rx ry q=>hr a b pins s2 σ H2 x y v u Q I2 rx ry q (hs _ _))
def Cc (K:YD):R2:=λx y H Q=>∃p xs i v,x=.ref p/\y=.int i/\SqL K H p xs/\atI xs i=some v/\Q v H
def yd (K:YD):R2:=λx y H Q=>∃p xs i v,x=.ref p/\y=.int i/\SqT K H p xs/\atI xs i=some v/\Q v H
def Cb:R2:=λx y H Q=>∃z i c,x=.str z/\y=.int i/\z.length<=sizeLine/\atI z.cps.toList i=some c/\Q (.str ⟨#[c]⟩) H
theorem DX:IxR X (Cc X.K):=by
 intro value slice pins s σ H x y v u Q I rx ry h hs
 obtain⟨p,xs,i,z,rfl,rfl,hq,he,q⟩:=h
 cases rx
 obtain⟨t,rfl⟩:=ry
 obtain⟨its,r,pl,hz⟩:=I.list hq
 obtain⟨j,h1,h2,h3,h4,h5⟩:=Xj he
 obtain⟨w,ew,rw'⟩:=r.get h2
 have hl:=r.length
 have hn:=Nx
 have fin:EP X pins σ Q w s:=⟨z,H,I,rw',q⟩
 by_cases h0:0<=i
 ·have hj:i.toNat=j:=by
   rw[seqIndex_of h0 h5] at h1
   exact QbH h1
  exact item_listR pl.isList h0 (by omega) (by rw[hj];simpa using ew) fin hs
 ·have hj:(i+(its.toArray.size:Int)).toNat=j:=by
   rw[seqIndex_neg (by omega) h4] at h1
   rw[Qbi,<-hl]
   exact QbH h1
  exact subscriptTail_builtinR (x:=w) pl.isList.typeIs slot_list_getitem.lookup
   (wpAny_getItem_list_neg (Q:=λr s'=>r=w/\EP X pins σ Q r s') pl.isList (by omega) (by rw[Qbi] <;> omega) (by omega) (by rw[hj];simpa using ew) ⟨rfl,fin⟩) hs
theorem Bu:IxR X (yd X.K):=by
 intro value slice pins s σ H x y v u Q I rx ry h hs
 obtain⟨p,xs,i,z,rfl,rfl,hq,he,q⟩:=h
 cases rx
 obtain⟨t,rfl⟩:=ry
 obtain⟨its,r,pl,hz⟩:=I.tuple hq
 obtain⟨j,h1,h2,h3,h4,h5⟩:=Xj he
 obtain⟨w,ew,rw'⟩:=r.get h2
 have hl:=r.length
 have hn:=Nx
 have fin:EP X pins σ Q w s:=⟨z,H,I,rw',q⟩
 exact subscriptTail_builtinR (x:=w) pl.typeIs slot_tuple_getitem.lookup
  (getItem_tuple (j:=j) (Q:=λr s'=>r=w/\EP X pins σ Q r s') pl (by omega) (by omega) (by rw[Qbi,<-hl];exact h1) (by simpa using ew) ⟨rfl,fin⟩) hs
theorem yV:IxR X Cb:=by
 intro value slice pins s σ H x y v u Q I rx ry h hs
 obtain⟨z,i,c,rfl,rfl,hz,he,q⟩:=h
 obtain⟨t,rfl⟩:=rx
 obtain⟨t',rfl⟩:=ry
 obtain⟨j,h1,h2,h3,h4,h5⟩:=Xj he
 have hl:z.cps.toList.length=z.length:=by simp[Str.length]
 rw[hl] at h1 h4 h5
 have hn:=Nx
 exact tail_any (typeIs_str s z t) slot_str_getitem.lookup (getItem_str (c:=c) (by
  have e1:decide (i < -(2 ^ 63:Int))=false:=QbF (by omega)
  have e2:decide (i ≥ 2 ^ 63)=false:=QbF (by omega)
  rw[e1,e2,Bool.or_false]) (by rw[h1];simpa using h2) ⟨.str ⟨#[c]⟩,H,I.tok _,⟨_,rfl⟩,q⟩) hs
theorem iH (its:YE) (n j:Nat) (u:Value):Obj.mapSeq (·.setIfInBounds j u) { cls:=.type "list",data:=.seq its.toArray n }={ cls:=.type "list",data:=.seq (its.set j u).toArray n }:=by
 simp[Obj.mapSeq]
theorem Inv.lst {pins:YC} {σ : St} {H:Hp} {s:Shared} {p:Addr} {xs:YG} (I:Inv X pins σ H s) (h:H p=some (.lst xs)) :
  ∃(its:YE) (n:Nat),Vals xs its/\s.heap.get? p=some { cls:=.type "list",data:=.seq its.toArray n }/\xs.length<=sizeLine:=by
 obtain⟨z,its,n,r,e⟩:=I.hok p _ h
 exact⟨its,n,r,e,z⟩
theorem Inv.yO {pins:YC} {σ : St} {H:Hp} {s:Shared} {p:Addr} {xs ys:YG} {its its':YE} {n n':Nat} {f:Obj->Obj} (I:Inv X pins σ H s) (h:H p=some (.lst xs))
  (ho:s.heap.get? p=some { cls:=.type "list",data:=.seq its.toArray n }) (hf:f { cls:=.type "list",data:=.seq its.toArray n }={ cls:=.type "list",data:=.seq its'.toArray n' }) (r:Vals ys its') (hz:ys.length<=sizeLine) (t:Nat) :
  Inv X pins σ (upd H p (.lst ys)) { s with heap:=s.heap.update p f,toks:=t }:=by
 have e:(s.heap.update p f).get? p=some { cls:=.type "list",data:=.seq its'.toArray n' }:=by
  rw[QaE f ho (by rw[hf] <;> rfl),hf]
 refine I.write (x:=p) (e:=p) (by rw[h];trivial) (.inl rfl) (λb u hb q=>(Qaz _ _ (Ne.symm hb)).trans q) ⟨_,e⟩ ?_
 exact⟨hz,its',n',r,e⟩
def AR:V->V->V->Hp->(Hp->Prop)->Prop:=λo i v H Q=>∃p xs k j,o=.ref p/\i=.int k/\H p=some (.lst xs)/\ixN xs.length k=some j/\Q (upd H p (.lst (xs.set j v)))
theorem set_list:Au X AR:=by
 intro pins s σ H o i v ov iv u Q I ro ri rv h
 obtain⟨p,xs,k,j,rfl,rfl,hp,hj,q⟩:=h
 cases ro
 obtain⟨t,rfl⟩:=ri
 obtain⟨its,n,r,ho,hz⟩:=I.lst hp
 obtain⟨h1,h2,h3,h4⟩:=eN hj
 have hl:=r.length
 have hn:=Nx
 have I':Inv X pins σ (upd H p (.lst (xs.set j v))) { s with heap:=s.heap.update p (Obj.mapSeq (·.setIfInBounds j u)) }:=
  I.yO hp ho (iH its n j u) (r.set rv j) (by rw[List.length_set];exact hz) s.toks
 by_cases h0:0<=k
 ·have hk:k.toNat=j:=by
   rw[seqIndex_of h0 h4] at h1
   exact QbH h1
  exact PySem.W.ki_setAt ho h0 (by omega) (by rw[Qbi,<-hl];exact h4) (by rw[hk];exact⟨_,I',q⟩)
 ·have hk:(k+(its.toArray.size:Int)).toNat=j:=by
   rw[seqIndex_neg (by omega) h3] at h1
   rw[Qbi,<-hl]
   exact QbH h1
  exact PySem.W.ki_setBack ho (by omega) (by rw[Qbi,<-hl];exact h3) (by omega) (by rw[hk];exact⟨_,I',q⟩)
theorem Zg (lo hi:Option Int) (n:Nat):(sliceBounds lo hi none n).1=((HT.sIx n 0 lo:Nat):Int)/\(sliceBounds lo hi none n).2.1=((HT.sIx n n hi:Nat):Int)/\(sliceBounds lo hi none n).2.2=1:=by
 refine⟨?_,?_,rfl⟩
 ·cases lo with
  | none=>simp[sliceBounds,HT.sIx]
  | some i=>
   simp only[sliceBounds,HT.sIx,Option.getD_none,show (1:Int) > 0 by decide,if_true]
   by_cases h:i < 0
   ·simp only[h,if_true] <;> omega
   ·simp only[h,if_false] <;> omega
 ·cases hi with
  | none=>simp[sliceBounds,HT.sIx]
  | some i=>
   simp only[sliceBounds,HT.sIx,Option.getD_none,show (1:Int) > 0 by decide,if_true]
   by_cases h:i < 0
   ·simp only[h,if_true] <;> omega
   ·simp only[h,if_false] <;> omega
theorem Yb (its:YE) (lo hi:Option Int):slicePick its.toArray lo hi none=((its.drop (HT.sIx its.length 0 lo)).take (HT.sIx its.length its.length hi - HT.sIx its.length 0 lo)).toArray:=by
 obtain⟨h1,h2,h3⟩:=Zg lo hi its.toArray.size
 unfold slicePick
 rw[h1,h2,h3]
 simp only[sliceRange_one,pick_run,Qbi] <;> rfl
def B9 (K:YD):V->Option Int->Option Int->Hp->VK->Prop:=λx lo hi H Q=>∃a xs,x=.ref a/\SqL K H a xs/\∀p,H p=none->Q (.ref p) (upd H p (.lst (Jm xs lo hi)))
theorem uT:SlR X (B9 X.K):=by
 intro pins s σ H x v vl vu lo hi sl Q I rx hs pl pu h
 obtain⟨a,xs,rfl,hx,q⟩:=h
 cases rx
 obtain⟨its,r,ht,hz⟩:=I.list hx
 have hlen:=r.length
 refine⟨"list",_,slot_list_getitem.lookup,ht.isList.typeIs,?_⟩
 refine wpAny_getItem_list_slice ht.isList hs pl pu .none (by simp) ?_ (by rw[Qbi] <;> omega)
 rw[Yb,<-hlen]
 refine⟨.ref s.heap.objs.size,_,I.laid (t':=s.toks) (o:=.lst (Jm xs lo hi)) (λb ob q=>Qav _ q) (Qcn _) ?_,rfl,q _ (I.hok.fresh (Qcn _))⟩
 exact⟨Qci (T7 xs lo hi) hz,_,0,(r.drop (HT.sIx xs.length 0 lo)).take (HT.sIx xs.length xs.length hi - HT.sIx xs.length 0 lo),QaJ _ rfl⟩
def KQ:V->Bool
 | .non=>true
 | .bl _=>true
 | .int _=>true
 | .str _=>true
 | _=>false
def eqV:V->V->Bool
 | .non,.non=>true
 | .bl a,.bl b=>a == b
 | .bl a,.int b=>(if a then 1 else 0) == b
 | .int a,.bl b=>a == (if b then 1 else 0)
 | .int a,.int b=>a == b
 | .str a,.str b=>a == b
 | _,_=>false
theorem zP {A:Around} {s:Shared} {y x:V} {u v:Value} (ry:RelV y u) (rx:RelV x v) (fy:KQ y=true) (fx:KQ x=true):SeqAt.EqAt A s u v (eqV y x):=by
 cases y with
 | non=>
  cases ry
  cases x with
  | non=>cases rx;exact SeqAt.EqAt.same _
  | bl b=>cases rx;exact SeqAt.EqAt.none_bool b
  | int b=>obtain⟨t,rfl⟩:=rx;exact SeqAt.EqAt.none_int b t
  | str b=>obtain⟨t,rfl⟩:=rx;exact SeqAt.EqAt.none_str b t
  | _=>exact absurd (show false=true from fx) QaW
 | bl a=>
  cases ry
  cases x with
  | non=>cases rx;exact SeqAt.EqAt.bool_none a
  | bl b=>cases rx;exact SeqAt.EqAt.bool_bool a b
  | int b=>obtain⟨t,rfl⟩:=rx;exact SeqAt.EqAt.bool_int a b t
  | str b=>obtain⟨t,rfl⟩:=rx;exact SeqAt.EqAt.bool_str a b t
  | _=>exact absurd (show false=true from fx) QaW
 | int a=>
  obtain⟨t',rfl⟩:=ry
  cases x with
  | non=>cases rx;exact SeqAt.EqAt.int_none a t'
  | bl b=>cases rx;exact SeqAt.EqAt.int_bool a t' b
  | int b=>obtain⟨t,rfl⟩:=rx;exact SeqAt.EqAt.int_int a t' b t
  | str b=>obtain⟨t,rfl⟩:=rx;exact SeqAt.EqAt.int_str a t' b t
  | _=>exact absurd (show false=true from fx) QaW
 | str a=>
  obtain⟨t',rfl⟩:=ry
  cases x with
  | non=>cases rx;exact SeqAt.EqAt.str_none a t'
  | bl b=>cases rx;exact SeqAt.EqAt.str_bool a t' b
  | int b=>obtain⟨t,rfl⟩:=rx;exact SeqAt.EqAt.str_int a t' b t
  | str b=>obtain⟨t,rfl⟩:=rx;exact SeqAt.EqAt.str_str a t' b t
  | _=>exact absurd (show false=true from fx) QaW
 | _=>exact absurd (show false=true from fy) QaW
def eqU (x:V) (u:Value):Bool:=match u with
 | .none=>eqV .non x
 | .bool b=>eqV (.bl b) x
 | .int i _=>eqV (.int i) x
 | .str z _=>eqV (.str z) x
 | _=>false
theorem mK {x y:V} {u:Value} (r:RelV y u) (f:KQ y=true):eqU x u=eqV y x:=by
 cases y with
 | non=>cases r;rfl
 | bl b=>cases r;rfl
 | int i=>obtain⟨t,rfl⟩:=r;rfl
 | str z=>obtain⟨t,rfl⟩:=r;rfl
 | _=>exact absurd (show false=true from f) QaW
theorem Px {x:V}:∀{xs:YG} {us:YE},Vals xs us->xs.all KQ=true->us.any (eqU x)=xs.any λy=>eqV y x
 | _,_,.nil,_=>rfl
 | y::xs,u::us,.cons r t,f=>by
  rw[List.all_cons,Qbz] at f
  rw[Qcb,Qcb,mK r f.1,Px t f.2]
theorem Nv {A:Around} {s:Shared} {x:V} {v:Value} (rx:RelV x v) (fx:KQ x=true):∀{xs:YG} {us:YE},Vals xs us->xs.all KQ=true->∀u∈us,SeqAt.EqAt A s u v (eqU x u)
 | _,_,.nil,_=>λu hu=>by cases hu
 | y::xs,u::us,.cons r t,f=>λu' hu=>by
  rw[List.all_cons,Qbz] at f
  rcases QbX.mp hu with rfl | hu
  ·rw[mK r f.1];exact zP r rx f.1 fx
  ·exact Nv rx fx t f.2 u' hu
def inV (x:V) (xs:YG):Bool:=xs.any λy=>eqV y x
def rIn (K:YD) (neg:Bool):R2:=λx y H Q=>∃p xs,y=.ref p/\(SqL K H p xs\/SqT K H p xs)/\KQ x=true/\xs.all KQ=true/\Q (.bl (if neg then !inV x xs else inV x xs)) H
theorem Rt:OpR X (compareOp .In) (rIn X.K false):=by
 intro pins s σ H x y v u Q I rx ry h
 obtain⟨p,xs,rfl,hq,fx,fs,q⟩:=h
 cases ry
 rcases hq with hq | hq
 ·obtain⟨its,r,pl,hz⟩:=I.list hq
  refine SeqAt.in_listAt (eqU x) pl.isList (λw hw=>Nv rx fx r fs w (by simpa using hw)) ⟨.bl _,H,I,rfl,?_⟩
  rw[show its.toArray.any (eqU x)=its.any (eqU x) by simp,Px r fs]
  exact q
 ·obtain⟨its,r,pl,hz⟩:=I.tuple hq
  refine SeqAt.in_tupleAt (eqU x) pl (λw hw=>Nv rx fx r fs w (by simpa using hw)) ⟨.bl _,H,I,rfl,?_⟩
  rw[show its.toArray.any (eqU x)=its.any (eqU x) by simp,Px r fs]
  exact q
theorem ZQ:OpR X (compareOp .NotIn) (rIn X.K true):=by
 intro pins s σ H x y v u Q I rx ry h
 obtain⟨p,xs,rfl,hq,fx,fs,q⟩:=h
 cases ry
 rcases hq with hq | hq
 ·obtain⟨its,r,pl,hz⟩:=I.list hq
  refine SeqAt.notIn_listAt (eqU x) pl.isList (λw hw=>Nv rx fx r fs w (by simpa using hw)) ⟨.bl _,H,I,rfl,?_⟩
  rw[show its.toArray.any (eqU x)=its.any (eqU x) by simp,Px r fs]
  exact q
 ·obtain⟨its,r,pl,hz⟩:=I.tuple hq
  refine SeqAt.notIn_tupleAt (eqU x) pl (λw hw=>Nv rx fx r fs w (by simpa using hw)) ⟨.bl _,H,I,rfl,?_⟩
  rw[show its.toArray.any (eqU x)=its.any (eqU x) by simp,Px r fs]
  exact q
theorem Bl:FW X (.builtin "len") (λxs H Q=>∃p ys,xs=[.ref p]/\(SqL X.K H p ys\/SqT X.K H p ys)/\Q (.int ys.length) H):=by
 intro pins s σ H xs us Q I r h
 obtain⟨p,ys,rfl,hq,q⟩:=h
 obtain⟨u,rfl,rx⟩:=vals1 r
 cases rx
 have hn:=Nx
 rcases hq with hq | hq
 ·obtain⟨its,r',pl,hz⟩:=I.list hq
  have hlen:=r'.length
  exact Calls.call_len_list pl.isList (by simp only[Qbi] <;> omega) ⟨.int ys.length,H,I.tok _,⟨s.toks+1,by rw[Qbi,hlen]⟩,q⟩
 ·obtain⟨its,r',pl,hz⟩:=I.tuple hq
  have hlen:=r'.length
  exact len_tuple pl (by simp only[Qbi] <;> omega) ⟨.int ys.length,H,I.tok _,⟨s.toks+1,by rw[Qbi,hlen]⟩,q⟩
theorem bx:FW X (.builtin "len") (λxs H Q=>∃z,xs=[.str z]/\z.length<=sizeLine/\Q (.int z.length) H):=by
 intro pins s σ H xs us Q I r h
 obtain⟨z,rfl,hz,q⟩:=h
 obtain⟨u,rfl,t,rfl⟩:=vals1 r
 have hn:=Nx
 exact len_str (by omega) ⟨.int z.length,H,I.tok _,⟨_,rfl⟩,q⟩
theorem GR:FW X (.type "tuple") (λxs H Q=>∃p ys,xs=[.ref p]/\((SqL X.K H p ys/\∀l,H l=none->Q (.ref l) (upd H l (.tup ys)))\/(SqT X.K H p ys/\Q (.ref p) H))):=by
 intro pins s σ H xs us Q I r h
 obtain⟨p,ys,rfl,h⟩:=h
 obtain⟨u,rfl,rx⟩:=vals1 r
 cases rx
 rcases h with⟨hq,q⟩|⟨hq,q⟩
 ·obtain⟨its,r',pl,hz⟩:=I.list hq
  have hlen:=r'.length
  refine call_tuple_list pl.isList (λh' kp=>?_) (by simp only[Qbi] <;> omega)
  have I1:Inv X pins σ H { s with heap:=h' }:=I.kept (t':=s.toks) kp
  have I2:Inv X pins σ (upd H h'.objs.size (.tup ys)) { s with heap:=h'.push { cls:=.type "tuple",data:=.seq its.toArray } }:=
   I1.laid (t':=s.toks) (λb o e=>Qav _ e) (Qcn _) (show Bv X.prog X.w _ _ _ (.tup ys) from⟨hz,its,r',IsTup.new _ _⟩)
  exact⟨.ref h'.objs.size,_,I2,rfl,q _ (I1.hok.fresh (Qcn _))⟩
 ·obtain⟨its,r',pl,hz⟩:=I.tuple hq
  exact call_tuple_same pl ⟨.ref p,H,I,rfl,q⟩
def tyV (K:YD) (T:String) (x:V) (H:Hp):Prop:=match x with
 | .str _=>T="str"
 | .int _=>T="int"
 | .ref p=>(T="list"/\∃xs,SqL K H p xs)\/(T="tuple"/\∃o,K.lookup p=some o/\o.cls=.type "tuple"/\o.dict=none) \/
   (T="dict"/\((∃kvs,H p=some (.dK kvs))\/∃kvs,H p=some (.dT kvs)))\/(T="set"/\∃S n,H p=some (.set S n))
 | _=>False
theorem wR {pins:YC} {σ : St} {H:Hp} {s:Shared} {T:String} {x:V} {v:Value} (I:Inv X pins σ H s) (r:RelV x v) (ty:tyV X.K T x H) :
  s.TypeIs v T/\∀a,v=.ref a->∃ob,s.heap.get? a=some ob/\ob.dict=none:=by
 cases x with
 | str z=>
  obtain⟨t,rfl⟩:=r
  cases (show T="str" from ty)
  exact⟨typeIs_str s z t,λ_ e=>nomatch e⟩
 | int i=>
  obtain⟨t,rfl⟩:=r
  cases (show T="int" from ty)
  exact⟨typeIs_int s i t,λ_ e=>nomatch e⟩
 | ref p=>
  cases r
  rcases ty with⟨rfl,xs,hq⟩|⟨rfl,o,hk,hc,hd⟩|⟨rfl,hk⟩|⟨rfl,S,n,hk⟩
  ·obtain⟨its,_,pl,_⟩:=I.list hq
   refine⟨pl.isList.typeIs,λa e=>?_⟩
   cases e
   obtain⟨o,n,e,c,hd,_⟩:=pl
   exact⟨o,e,hd⟩
  ·refine⟨⟨o,I.kIn p o hk,hc⟩,λa e=>?_⟩
   cases e
   exact⟨o,I.kIn _ o hk,hd⟩
  ·have z:∃o,s.heap.get? p=some o/\o.ExactDict:=by
    rcases hk with⟨kvs,hk⟩|⟨kvs,hk⟩
    ·obtain⟨_,_,_,_,o,_,_,e,ex,_⟩:=I.hok p _ hk
     exact⟨o,e,ex⟩
    ·obtain⟨_,_,_,_,o,_,_,e,ex,_⟩:=I.hok p _ hk
     exact⟨o,e,ex⟩
   obtain⟨o,e,ex⟩:=z
   refine⟨⟨o,e,ex.1⟩,λa e2=>?_⟩
   cases e2
   exact⟨o,e,ex.2.1⟩
  ·obtain⟨o,_,_,_,e,ex,_⟩:=I.hok p _ hk
   refine⟨⟨o,e,ex.1⟩,λa e2=>?_⟩
   cases e2
   exact⟨o,e,ex.2.1⟩
 | _=>exact False.elim ty
def tBM (K:YD) (T:String) (r:V->YG->Hp->VK->Prop) (to:TE) (t:TA):TE:=fun σ H Q=>to σ H λx H1=>tyV K T x H1/\t σ H1 λxs H2=>r x xs H2 Q
variable {o e:Expr} {es:YJ} {to:TE} {t:TA} {name:Str} {apos cpos:Pos} {T id:String} {r:V->YG->Hp->VK->Prop}
theorem CK (pa:PlainAttrs T) (slot:Slot T name id) (hty:typeOf (.builtin id)=pure (.type "method_descriptor")) (hm:MtR X id r) (ho:PE X o to) (ha:PA X (e::es) t)
  (hbase:attributeBase o name X.env (eval o X.env)=eval o X.env:=by rfl)
  (hfew:((backTo cpos (starEach (e::es) X.env)).all (λx=>!x.1)&&(backToKw cpos (keywordEach [] X.env)).all (λx=>x.1.isSome)
  &&decide ((e::es).length+([]:List Keyword).length+(if ([]:List Keyword).isEmpty then 0 else 1) < 30))=true:=by rfl)
  (hline:(apos.endLine == cpos.line)=true:=by rfl) (hs:starEach (e::es) X.env=(false,eval e X.env)::starEach es X.env:=by rfl) (hplain:(backTo cpos (starEach es X.env)).any (·.1)=false:=by rfl) :
  PE X (.Call (.Attribute o name apos) (e::es) [] cpos) (tBM X.K T r to t):=by
 intro pins s σ H Q I h
 refine wpAny_Call_method_late hbase hfew hline rfl (thn (ho pins s σ H _ I h) λv s1 zz=>?_)
 obtain⟨x,H1,I1,r1,ty,q1⟩:=zz
 obtain⟨h1,h2⟩:=wR I1 r1 ty
 refine⟨T,id,pa,slot,hty,h1,h2,?_⟩
 have hA:=ha cpos pins s1 σ H1 _ I1 q1
 rw[hs] at hA ⊢
 refine Calls.callWith_builtin (by show (false || (backTo cpos (starEach es X.env)).any (·.1))=false;rw[hplain] <;> rfl) (Calls.evalArgs_plain ?_)
 refine thn hA λus s2 zz=>?_
 obtain⟨vs,H2,I2,r2,q2⟩:=zz
 exact hm pins s2 σ H2 x vs v us Q I2 r1 r2 q2
end
def MtM (X:Cx) (id:String) (r:V->YG->Hp->VK->Prop):Prop:=
 ∀(pins:YC) (s:Shared) (σ : St) (H:Hp) (x:V) (xs:YG) (v:Value) (us:YE) (Q:VK),Inv X pins σ H s->RelV x v->Vals xs us->r x xs H Q ->
  wpAny (model X.prog X.w) X.A (call (.builtin id) (v::us)) (EP X pins σ Q) X.xe s
theorem Vals.one:∀{x:V} {us:YE},Vals [x] us->∃u,us=[u]/\RelV x u
 | _,_,.cons r .nil=>⟨_,rfl,r⟩
theorem Vals.zero:∀{us:YE},Vals [] us->us=[]
 | _,.nil=>rfl
theorem Vals.eraseIdx:∀{xs:YG} {us:YE} (i:Nat),Vals xs us->Vals (xs.eraseIdx i) (us.eraseIdx i)
 | _,_,_,.nil=>.nil
 | _,_,0,.cons _ t=>t
 | _,_,i+1,.cons r t=>.cons r (Vals.eraseIdx i t)
theorem XC {α : Type}:∀(l:List α) (i:Nat),(l.eraseIdx i).length<=l.length
 | [],_=>Qcn _
 | _::_,0=>Qct _
 | _::r,i+1=>Nat.succ_le_succ (XC r i)
section
variable {X:Cx} {pins:YC} {σ : St} {H:Hp} {s:Shared} {l b:Addr} {xs ys zs:YG}
theorem Inv.qL {its its':YE} {n:Nat} {f:Array Value->Array Value} {t':Nat} (I:Inv X pins σ H s) (hH:H l=some (.lst xs))
  (e:s.heap.get? l=some { cls:=.type "list",data:=.seq its.toArray n }) (hf:f its.toArray=its'.toArray) (hv:Vals ys its') (hz:ys.length<=sizeLine) :
  Inv X pins σ (upd H l (.lst ys)) { s with heap:=s.heap.update l (Obj.mapSeq f),toks:=t' }:=by
 have q:=PySem.IsL.update e f
 rw[hf] at q
 refine I.write (x:=l) (e:=l) (by rw[hH];exact trivial) (.inl rfl) (λb' u hb hu=>(Qaz s.heap (Obj.mapSeq f) (Ne.symm hb)).trans hu) ⟨_,q⟩ ?_
 exact⟨hz,its',_,hv,q⟩
theorem Inv.CL {its:YE} {t':Nat} (I:Inv X pins σ H s) (hv:Vals ys its) (hz:ys.length<=sizeLine) :
  Inv X pins σ (upd H s.heap.objs.size (.lst ys)) { s with heap:=s.heap.push { cls:=.type "list",data:=.seq its.toArray },toks:=t' }:=
 I.laid (λ_ _ q=>Qav _ q) (Qcn _) ⟨hz,its,0,hv,QaJ _ rfl⟩
theorem Inv.fresh (I:Inv X pins σ H s):H s.heap.objs.size=none:=I.hok.fresh (Qcn _)
theorem Inv.WQ (I:Inv X pins σ H s) (hH:H l=some (.lst xs)):xs.length<=sizeLine/\∃(its:YE) (n:Nat),Vals xs its/\xs.length=its.length/\s.heap.get? l=some { cls:=.type "list",data:=.seq its.toArray n }:=by
 obtain⟨z,its,n,r,e⟩:=I.hok l _ hH
 exact⟨z,its,n,r,r.length,e⟩
theorem qD {n:Nat} (h:n<=sizeLine):Builtin.List.listTooLong n=false:=by
 unfold Builtin.List.listTooLong
 exact QbF (by omega)
end
section
variable {X:Cx}
def u0:V->YG->Hp->VK->Prop:=λx vs H Q=>∃l xs y,x=.ref l/\vs=[y]/\H l=some (.lst xs)/\xs.length < sizeLine/\Q .non (upd H l (.lst (xs++[y])))
theorem Cy:MtM X "list.append" u0:=by
 intro pins s σ H x vs v us Q I rx rv h
 obtain⟨l,xs,y,rfl,rfl,hH,hz,q⟩:=h
 cases rx
 obtain⟨u,rfl,ru⟩:=rv.one
 obtain⟨z,its,n,r,hl,e⟩:=I.WQ hH
 refine call_meets F.slot_list_append ⟨_,e,rfl⟩ F.entry_list_append (F.args_list_append_2 _ _) (PySem.list_append l its.toArray n u (by rw[Qbi];omega)) ⟨e,?_⟩
 refine⟨.non,_,I.qL (its':=its++[u]) hH e (by simp) (r.append (.cons ru .nil)) ?_,rfl,q⟩
 rw[QaS,QaC]
 omega
def uZ:V->YG->Hp->VK->Prop:=λx vs H Q=>∃l b xs zs,x=.ref l/\vs=[.ref b]/\H l=some (.lst xs)/\H b=some (.lst zs)/\xs.length+zs.length<=sizeLine/\Q .non (upd H l (.lst (xs++zs)))
theorem Ew:MtM X "list.extend" uZ:=by
 intro pins s σ H x vs v us Q I rx rv h
 obtain⟨l,b,xs,zs,rfl,rfl,hH,hB,hz,q⟩:=h
 cases rx
 obtain⟨u,rfl,ru⟩:=rv.one
 cases ru
 obtain⟨z,its,n,r,hl,e⟩:=I.WQ hH
 obtain⟨z2,its2,n2,r2,hl2,e2⟩:=I.WQ hB
 have hsz:its.toArray.size+its2.toArray.size<=sizeLine:=by rw[Qbi,Qbi];omega
 have A9:¬(!its.toArray.isEmpty&&Builtin.List.listTooLong (its.toArray.size+its2.toArray.size))=true:=by
  rw[qD hsz,Bool.and_false]
  exact QaW
 refine call_meets F.slot_list_extend ⟨_,e,rfl⟩ F.entry_list_extend (F.args_list_extend_2 _ _)
  (AutoSeq1.list_extend_list_list_0 l its.toArray n b its2.toArray n2 A9 (by rw[Qbi];omega) (by omega)) ⟨e,e2,?_⟩
 refine⟨.non,_,I.qL (its':=its++its2) hH e (by simp) (r.append r2) ?_,rfl,q⟩
 rw[QaS]
 omega
def xZ:V->YG->Hp->VK->Prop:=λx vs H Q=>∃l xs i k y,x=.ref l/\vs=[.int i]/\H l=some (.lst xs)/\-(2 ^ 63)<=i/\i < 2 ^ 63/\seqIndex? i xs.length=some k/\xs[k]?=some y/\Q y (upd H l (.lst (xs.eraseIdx k)))
theorem Z9:MtM X "list.pop" xZ:=by
 intro pins s σ H x vs v us Q I rx rv h
 obtain⟨l,xs,i,k,y,rfl,rfl,hH,h1,h2,hk,hy,q⟩:=h
 cases rx
 obtain⟨u,rfl,ru⟩:=rv.one
 obtain⟨t,rfl⟩:=ru
 obtain⟨z,its,n,r,hl,e⟩:=I.WQ hH
 obtain⟨w,hw,rw'⟩:=r.get hy
 refine call_meets F.slot_list_pop ⟨_,e,rfl⟩ F.entry_list_pop (F.args_list_pop_2 _ _)
  (MeetsSeq.list_pop_at l its.toArray n i t k w (fitsIndex_both h1 h2) (by rw[Qbi,<-hl];exact hk) (by rw[<-Array.getElem?_toList];exact hw) (by rw[Qbi];omega)) ⟨e,?_⟩
 refine⟨y,_,I.qL (its':=its.eraseIdx k) hH e ?_ (r.eraseIdx k) ?_,rw',q⟩
 ·show its.toArray.eraseIdxIfInBounds k=(its.eraseIdx k).toArray
  rw[List.eraseIdxIfInBounds_toArray]
 ·have:=XC xs k
  omega
def Cf:R2:=λx y H Q=>∃l b xs zs,x=.ref l/\y=.ref b/\H l=some (.lst xs)/\H b=some (.lst zs)/\xs.length+zs.length<=sizeLine/\∀p,H p=none->Q (.ref p) (upd H p (.lst (xs++zs)))
theorem yu:OpR X (binaryOp .Add) Cf:=by
 intro pins s σ H x y v u Q I rx ry h
 obtain⟨l,b,xs,zs,rfl,rfl,hH,hB,hz,q⟩:=h
 cases rx
 cases ry
 obtain⟨z,its,n,r,hl,e⟩:=I.WQ hH
 obtain⟨z2,its2,n2,r2,hl2,e2⟩:=I.WQ hB
 refine PySem.P.add_list e e2 ?_ (by rw[Qbi,Qbi];omega)
 have ea:its.toArray++its2.toArray=(its++its2).toArray:=by simp
 rw[ea]
 exact⟨.ref _,_,I.CL (t':=s.toks) (r.append r2) (by rw[QaS];omega),rfl,q _ I.fresh⟩
end
section
variable {prog:Program} {w:World} {A:Around} {E:YA} {s:Shared}
set_option maxRecDepth 100000 in
end
section
variable {X:Cx}
end
end L2
namespace Att
open PySem PySem.W PySem.Calls PyProof.Rows
theorem Vz {P:Params} {h:Heap}:∀(ns:List Int) (vs:YE),WellAll P h vs (ns.map WData.int)->IntsAre vs ns:=by
 intro ns
 induction ns with
 | nil=>
  intro vs w
  rw[Qcm] at w
  cases w
  exact .nil
 | cons n ns ih=>
  intro vs w
  rw[QbY] at w
  cases w with
  | cons a b=>
   cases a
   exact .cons _ _ (ih _ b)
theorem jP {l:OpenLaw} {n:Nat} (hn:l.most=some n) {P:Params} {h:Heap} {args:List WData} {vals:YE}
  (hpre:l.row.toRowW.claim.pre args=true) (hwl:WellAll P h vals args) :
  ∃a vs ns,vals=[Value.ref a]/\args=[WData.list (ns.map WData.int)]/\h.get? a=some { cls:=.type "list",data:=.seq vs.toArray }/\IntsAre vs ns/\ns.length<=n:=by
 have hsh:WShape.hasAll [] args [.list .int]=true:=(pre_splitW hpre).1
 have hc:l.pre.holds [] { args:=args }=true:=(pre_splitW hpre).2
 obtain⟨d,r,rfl,h1,h2⟩:=hasAllW_cons hsh
 obtain rfl:=hasAllW_nil h2
 obtain⟨xs,rfl,h3⟩:=hasW_list h1
 obtain⟨ns,rfl⟩:=items_int h3
 have hlen:ns.length<=n:=by
  unfold OpenLaw.pre at hc
  have h4:(WTm.not (.lt (.lit (.int (n:Int))) (.len (.arg 0)))).holds [] { args:=[.list (ns.map .int)] }=true:=by
   have h4:=(holds_andW hc).1
   rw[hn] at h4
   exact h4
  have h5:=condW_of h4 (w_not (w_lt w_lit (w_len_list (w_arg rfl))))
  rw[QbB] at h5
  refine Nat.le_of_not_lt λq=>?_
  have q':(n:Int) < ((ns.length:Nat):Int):=by omega
  first
   | (rw[QbR q'] at h5;exact absurd h5 (by decide))
   | (simp at h5;omega)
 cases hwl with
 | cons w1 w2=>
  cases w2
  cases w1 with
  | list ho hall=>exact⟨_,_,ns,rfl,rfl,ho,Vz ns _ hall,hlen⟩
theorem jW (l:OpenLaw) (args:List WData):l.row.toRowW.claim.post args (.bool true) args=true:=
 postW_of (r:=l.row.toRowW) (X:=(true == true))
  (show WShape.has [] (.bool true) .bool=true by first | rfl | decide | simp[WShape.has,WShape.arms,WShape.armsAll])
  (show (WTm.eq .res (.lit (.bool true))).value [] { args:=args,res:=some (.bool true),after:=args }=some (.bool (true == true)) from w_eq_bool (w_res rfl) w_lit) rfl
theorem cJ {l:OpenLaw} {n:Nat} {q:Program} {loose:YF} {XP:(YB)->Heap->Prop} {YP:World->Heap->Prop} {d:DefRec}
  (hn:l.most=some n) (hdf:d.params.defaults=[])
  (call:∀(w:World) (s₀ s₁ : Shared) (mg mb:YB) (fa:Addr) (o:Obj) (pm cd doc:Value) (a:Addr) (vs:YE) (ns:List Int),
   Ground q loose [] XP w s₀ mg mb s₁.heap->YP w s₁.heap ->
   s₁.heap.get? fa=some o->o.data=.func (docDef d.name d.params d.body d.scope pm cd doc)->s₁.heap.CodeRec cd d.name->mg d.name=some (.ref fa) ->
   s₁.heap.get? a=some { cls:=.type "list",data:=.seq vs.toArray }->IntsAre vs ns->ns.length<=n->s₁.gens=#[] ->
   codeAny (model l.prog w) callerA (.call (.ref fa) ⟨[.ref a],[]⟩) (λr s'=>r=.ok (.ret (.bool true))/\OldK s₁.heap s'.heap/\s'.os=s₁.os/\AllBare s'.gens) s₁) :
  WalkO q loose XP YP l.row.toRowW d [] (λf vs=>PySem.call f vs):=by
 intro w s₀ s₁ mg mb G Y fa o pm cd doc dV kV ho hd hcd hD hmg hg args vals as hpre hlay hrd hwl hlo
 obtain rfl:dV=.none:=Dflts.none hD hdf
 obtain rfl:kV=.none:=Dflts.noKw hD
 obtain⟨a,vs,ns,rfl,rfl,hobj,hints,hlen⟩:=jP hn hpre hwl
 refine enter_call (codeAny_mono (call w s₀ s₁ mg mb fa o pm cd doc a vs ns G Y ho (fd_plain hd) hcd hmg hobj hints hlen hg) λr s' hq=>?_)
 obtain⟨rfl,h2,h3,h4⟩:=hq
 exact⟨.inl ⟨.bool true,.bool true,[],rfl,λ_=>rfl,.bool true,jW l _,λ_=>⟨List.Pairwise.nil,λ_ hm=>(nomatch hm)⟩⟩,h2,h3,h4⟩
section
variable {prog:Program} {w:World} {A:Around} {E:YA} {s:Shared} {K:Frag}
def Vo (h:Heap):Heap:={ h with objs:=#[] }
theorem Mq (h:Heap) (b:Addr):(Vo h).get? b=none:=by
 cases e:(Vo h).get? b with
 | none=>rfl
 | some o=>exact absurd (Qcf e) (QbO _)
theorem zN {h:Heap} {L:Addr} {m:YB} (n:h.Ns L m):Fr (Vo h) L h m:=
 ⟨n,λb o e=>(by rw[Mq] at e;cases e),Qco _⟩
end
end Att
namespace L2
open PySem PySem.Spec PyProof.Rows
theorem QV:∀{vs:YE} {ns:List Int},IntsAre vs ns->Vals (ns.map V.int) vs
 | _,_,.nil=>.nil
 | _,_,.cons n t h=>.cons ⟨t,rfl⟩ (QV h)
def Only (H:Hp):Prop:=∀b,H b=none\/∃o xs,H b=some (.frz o (.lst xs))
theorem qN {P:Program} {w:World} {K:YD} {mg mb:YB} {CX:CXT} {k:Nat} {fa a:Addr} {fd:FuncData} {x:Str} {sp:Sp} {s₁ : Shared} {vs:YE} {ns:List Int}
  (KX:K.In s₁.heap) (hns:s₁.heap.Ns mainGlobals mg) (hb:s₁.heap.Ns builtinsNs mb) (hbb:∀x:Str,x≠"__name__"->mb x=bootBuiltins x) (hlim:s₁.heap.NoLimit) (hg:s₁.gens=#[])
  (ha:s₁.heap.get? a=some { cls:=.type "list",data:=.seq vs.toArray }) (hi:IntsAre vs ns) (hl:ns.length<=sizeLine) (hr:CG k callerA)
  (F:∀base:Heap,K.In base->base.Ns mainGlobals mg->GD P w K mg base CX k fa fd [x] sp) (hbind:∀(s:Shared) (u:Value),BindsTo s fd ⟨[u],[]⟩ [(x,u)])
  (hsp:∀H:Hp,Only H->SqL K H a (ns.map V.int)->sp [.ref a] H (λv _=>v=.bl true) λ_ _ _=>False)
  (hCX:∀H e s',CX [] H s₁ (λ_ _ _=>False) e s'->False) :
  codeAny (model P w) callerA (.call (.ref fa) ⟨[.ref a],[]⟩) (λr s'=>r=.ok (.ret (.bool true))/\OldK s₁.heap s'.heap/\s'.os=s₁.os/\AllBare s'.gens) s₁:=by
 have rv:=QV hi
 have lenV:=hi.length
 have core:∀H:Hp,Only H->SqL K H a (ns.map V.int)->HOk P w H s₁.heap->(∀b,H b≠none->b=a)->(H a≠none->K.lookup a=none) ->
   codeAny (model P w) callerA (.call (.ref fa) ⟨[.ref a],[]⟩) (λr s'=>r=.ok (.ret (.bool true))/\OldK s₁.heap s'.heap/\s'.os=s₁.os/\AllBare s'.gens) s₁:=by
  intro H hO hS hok hA hK
  have fM:∀{b:Addr} {o:Obj},s₁.heap.get? b=some o->H b=none->(Qo s₁.heap H).get? b=some o:=λe n=>qT e n
  have noA:∀{b:Addr} {o:Obj} {es:YK} {ep:Nat},s₁.heap.get? b=some o->o.data=.dict es ep->H b=none:=λ{b o es ep} e d=>by
   cases q:H b with
   | none=>rfl
   | some u=>
    have e':b=a:=hA b (by rw[q];simp)
    subst e'
    rw[ha] at e;cases e
    have d':Data.seq vs.toArray _=Data.dict es ep:=d
    cases d'
  have nsK:∀{b:Addr} {m:YB},s₁.heap.Ns b m->(Qo s₁.heap H).Ns b m:=λ{b m} ⟨o,es,ep,e,d,r⟩=>⟨o,es,ep,fM e (noA e d),d,r⟩
  have hKb:K.In (Qo s₁.heap H):=λb o e=>fM (KX b o e) (by
   cases q:H b with
   | none=>rfl
   | some u=>
    have e':b=a:=hA b (by rw[q];simp)
    subst e'
    rw[hK (by rw[q];simp)] at e;cases e)
  have hM:Mod K mg (Qo s₁.heap H):=⟨hKb,nsK hns,⟨mb,nsK hb,hbb⟩,let ⟨mc,h1,h2⟩:=hlim;⟨mc,nsK h1,h2⟩⟩
  have e0:O6 P w K mg (Qo s₁.heap H) callerA [] s₁ H:=⟨rfl,hM,λb o e=>vI e,Nat.le_of_eq (lQ _ _),trivial,λb hb=>absurd (show b∈([]:List Addr) from hb) (by simp),hok,.of_eq hg⟩
  refine codeAny_mono ((F _ hKb (nsK hns)).run callerA [] s₁ H ⟨[.ref a],[]⟩ [.ref a] [.ref a] _ _ hr e0 (hbind s₁ (.ref a)) (.cons rfl .nil) (hsp H hO hS)) λr s' h=>?_
  cases r with
  | error e=>exact (hCX H e s' h).elim
  | ok fl=>
   cases fl with
   | next=>exact False.elim h
   | brk=>exact False.elim h
   | cont=>exact False.elim h
   | ret u=>
    obtain⟨v,H',os,bare,un,hok',r',q⟩:=h
    have q':v=.bl true:=q
    subst q'
    obtain rfl:u=Value.bool true:=r'
    refine⟨rfl,OldK.of_keep λb o e=>?_,os,bare⟩
    cases q:H b with
    | none=>exact un.keep b o e q (by intro z;exact absurd (show b∈([]:List Addr) from z) (by simp)) (by simp)
    | some u=>
     rcases hO b with z |⟨ob,xs,z⟩
     ·rw[q] at z;cases z
     ·have z2:=un.LQ b ob _ z
      obtain⟨e1,_⟩:=hok b _ z
      obtain⟨e2,_⟩:=hok' b _ z2
      rw[e] at e1;cases e1
      exact e2
 cases hk:K.lookup a with
 | some o=>
  have e:=KX a o hk
  rw[ha] at e
  cases e
  refine core (λ_=>none) (λ_=>.inl rfl) (.inr ⟨_,vs.toArray,_,hk,rfl,rfl,rfl,by rw[Qbi,lenV];exact hl,by simpa using rv⟩) (λb u z=>by have z':(none:Option HO)=some u:=z;cases z') (λb z=>absurd rfl z) λz=>absurd rfl z
 | none=>
  refine core (λb=>if b=a then some (.frz { cls:=.type "list",data:=.seq vs.toArray } (.lst (ns.map V.int))) else none) (λb=>?_) (.inl (.inr ⟨{ cls:=.type "list",data:=.seq vs.toArray },if_pos rfl⟩)) (λb u z=>?_) (λb z=>?_) λ_=>hk
  ·by_cases hb:b=a
   ·exact .inr ⟨_,_,if_pos hb⟩
   ·exact .inl (if_neg hb)
  ·by_cases hb:b=a
   ·have z':=(if_pos hb).symm.trans z
    cases z'
    subst hb
    exact⟨ha,by rw[QbB];exact hl,vs,_,rv,ha⟩
   ·have z':=(if_neg hb).symm.trans z
    cases z'
  ·by_cases hb:b=a
   ·exact hb
   ·exact absurd (if_neg hb) z
theorem uH {l:PySem.W.OpenLaw} {n k:Nat} {q:Program} {loose:YF} {XP:(YB)->Heap->Prop} {YP:World->Heap->Prop} {d:DefRec} {K:Params->YD} {CX:World->CXT} {sp:World->Sp} {x:Str}
  (hn:l.most=some n) (hn2:n<=sizeLine) (hdf:d.params.defaults=[]) (hr:CG k callerA)
  (hY:∀(w:World) (h:Heap),YP w h->(K w.params).In h)
  (F:∀(w:World) (mg:YB) (fa:Addr) (h:Heap),(K w.params).In h->h.Ns mainGlobals mg->mg d.name=some (.ref fa) ->
   ∃fd:FuncData,(∀(s:Shared) (u:Value),BindsTo s fd ⟨[u],[]⟩ [(x,u)]) /\
    ∀base:Heap,(K w.params).In base->base.Ns mainGlobals mg->GD l.prog w (K w.params) mg base (CX w) k fa fd [x] (sp w))
  (hsp:∀(w:World) (H:Hp) (a:Addr) (ns:List Int),ns.length<=n->Only H->SqL (K w.params) H a (ns.map V.int)->sp w [.ref a] H (λv _=>v=.bl true) λ_ _ _=>False)
  (hCX:∀(w:World) (H:Hp) (s:Shared) (e:Value) (s':Shared),CX w [] H s (λ_ _ _=>False) e s'->False) :
  PySem.W.WalkO q loose XP YP l.row.toRowW d [] (λf vs=>PySem.call f vs):=by
 refine Att.cJ hn hdf λw s₀ s₁ mg mb fa o pm cd doc a vs ns G Y ho hd hcd hmg hobj hints hlen hg=>?_
 have KX:=hY w _ Y
 obtain⟨fd,hb,hF⟩:=F w mg fa _ KX G.T.g hmg
 exact qN KX G.T.g G.T.b G.T.builtins G.T.nolimit hg hobj hints (Qci hlen hn2) hr hF hb (λH hO hS=>hsp w H a ns hlen hO hS) λH e s'=>hCX w H s₁ e s'
def inClass (s:Stmt) (j:Nat):Stmt:=match s with
 | .ClassDef _ _ _ body _ _ _ _ _ _ _=>body.getD j (.Pass ⟨0,0,0,0⟩)
 | _=>.Pass ⟨0,0,0,0⟩
def DY (s:Stmt):Arguments:=match s with
 | .FunctionDef _ a _ _ _ _ _ _ _ _=>a
 | _=>{ posonlyargs:=[],args:=[],vararg:=none,kwonlyargs:=[],kw_defaults:=[],kwarg:=none,defaults:=[] }
def Dc (s:Stmt):List Stmt:=match s with
 | .FunctionDef _ _ b _ _ _ _ _ _ _=>b
 | _=>[]
def Aj (s:Stmt):Scope:=match s with
 | .FunctionDef _ _ _ _ _ _ sc _ _ _=>sc
 | _=>{ kind:=.function,names:=[],isGenerator:=false,isCoroutine:=false }
abbrev CX0:CXT:=λ_ _ _ _ _ _=>False
abbrev E0:XK:=λ_ _ _=>False
theorem Yr {X:Cx}:Passes CX0 X E0:=λ_ _ _ _ _ _ _ h=>h.elim
structure Fun (K:YD) (x qual:Str) (st:Stmt) (f:Addr) (fd:FuncData):Prop where
 ex:∃(oc:Value) (od:Option Addr) (kV doc pm:Value) (an:Option Addr) (cdv ct:Value) (osl:YI),
  fd=fnOf x qual (DY st) (Dc st) (Aj st) .none kV doc pm an cdv ct/\K.lookup f=some ⟨oc,od,.func fd,osl⟩/\codeIn K cdv qual=true
 kp:keepIn K (.ref f)=true
section
variable {P:Program} {w:World} {K:YD} {mg:YB} {base:Heap}
theorem Fun.ok {x qual:Str} {st:Stmt} {f:Addr} {fd:FuncData} {N ps:YF} {k:Nat} {sp:Sp} (F:Fun K x qual st f fd) (S:Ax N ps (Aj st)) (len:∀vs H Q E,sp vs H Q E->vs.length=ps.length)
  (hbody:∀(cdv:Value) (A:Around) (outer:List Env) (s:Shared) (H:Hp) (vs:YG) (Q:VK) (E:XK),CG k (A.deeper (envOfC qual (Aj st) s.heap.objs.size f cdv))->sp vs H Q E ->
   ∃t,PSs (RK CX0 P w K mg base N qual (Aj st) f cdv A outer s H E).nox (Dc st) t/\t { nx:=λ_ H'=>Q .non H',rt:=Q } (start N vs) H):GD P w K mg base CX0 (k+1) f fd ps sp:=by
 obtain⟨oc,od,kV,doc,pm,an,cdv,ct,osl,rfl,lk,hcd⟩:=F.ex
 refine BC lk hcd S len λA outer s H vs Q E hr hsp=>?_
 obtain⟨t,h,q⟩:=hbody cdv A outer s H vs Q E hr hsp
 exact⟨t,h.nox,q⟩
theorem Fun.binds {x qual:Str} {st:Stmt} {f:Addr} {fd:FuncData} {ps:YF} (F:Fun K x qual st f fd)
  (h:∀(kV doc pm:Value) (an:Option Addr) (cdv ct:Value) (us:YE),us.length=ps.length->bindArgs (fnOf x qual (DY st) (Dc st) (Aj st) .none kV doc pm an cdv ct) ⟨us,[]⟩=pure (ps.zip us)):Binds K fd ps []:=by
 obtain⟨oc,od,kV,doc,pm,an,cdv,ct,osl,rfl,lk,hcd⟩:=F.ex
 exact .all (h kV doc pm an cdv ct)
theorem VJ {x qual:Str} {st:Stmt} {f:Addr} {oc:Value} {od an:Option Addr} {osl:YI} {kV doc pm cdv ct:Value} (l:K.lookup f=some ⟨oc,od,.func (fnOf x qual (DY st) (Dc st) (Aj st) .none kV doc pm an cdv ct),osl⟩)
  (c:codeIn K cdv qual=true) (k:keepIn K (.ref f)=true):Fun K x qual st f (fnOf x qual (DY st) (Dc st) (Aj st) .none kV doc pm an cdv ct):=⟨⟨oc,od,kV,doc,pm,an,cdv,ct,osl,rfl,l,c⟩,k⟩
end
theorem Dg {A:Around} {k:Nat} (hr:CG k A):A.units+1 < cLine:=Nat.lt_of_le_of_lt (Nat.add_le_add_left (by decide:1<=64) _) hr.units
theorem Aq {n:Nat} (h:n<=1000):n < sizeLine:=Nat.lt_of_le_of_lt h (by decide)
section
variable {X:Cx}
theorem pv (i:Nat) {x:Str} {pos:Pos} (hN:X.N[i]?=some x:=by rfl) (hv:Vis X.env.scope x:=by first | exact Or.inl rfl | exact Or.inr (Or.inl rfl) | exact Or.inr (Or.inr rfl)) (hd:(x == ("__debug__":Str))=false:=by decide)
  (hcd:(x == ("__classdict__":Str))=false:=by decide):PE X (.Name x pos) (wW i):=yj hN hv hd hcd
end
theorem Cd {A B:Prop} (h:B):if false=true then A else B:=by
 rw[if_neg QaW]
 exact h
theorem Cp {A B:Prop} (h:A):if true=true then A else B:=by
 rw[if_pos rfl]
 exact h
theorem LC {c A B:Prop} [Decidable c] (h1:c->A) (h2:¬c->B):if c then A else B:=by
 by_cases h:c
 ·rw[if_pos h]
  exact h1 h
 ·rw[if_neg h]
  exact h2 h
def Same (H H':Hp):Prop:=∀b o,H b=some o->H' b=some o
theorem Same.refl (H:Hp):Same H H:=λ_ _ h=>h
theorem Same.trans {H H1 H2:Hp} (a:Same H H1) (b:Same H1 H2):Same H H2:=λc o h=>b c o (a c o h)
theorem Same.free {H H':Hp} (e:Same H H') {l:Addr} (h:H' l=Option.none):H l=Option.none:=by
 cases q:H l with
 | none=>rfl
 | some o=>
  rw[e l o q] at h
  cases h
theorem Same.seq {K:YD} {H H':Hp} {a:Addr} {xs:YG} (e:Same H H') (h:SqL K H a xs):SqL K H' a xs:=by
 rcases h with (h |⟨o,h⟩) | h
 ·exact .inl (.inl (e _ _ h))
 ·exact .inl (.inr ⟨o,e _ _ h⟩)
 ·exact .inr h
def Es (env:Env):List (Str×NameKind)->List (Str×Addr)->List (Str×Addr)
 | [],cs=>cs
 | (n,k)::r,cs=>Es env r (if (k == .free)=true then (match env.cells.lookup n with | some c=>(n,c)::cs | none=>cs) else cs)
theorem aY {env:Env}:∀(names:List (Str×NameKind)) (cs:List (Str×Addr)),(∀p∈names,p.2=.free->∃c,env.cells.lookup p.1=some c) ->
  (forIn names cs λ(p:Str×NameKind) (r:List (Str×Addr))=>(if (p.2 == .free)=true then do
    let c <-cellOf env p.1
    pure (ForInStep.yield ((p.1,c)::r))
   else pure (ForInStep.yield r):Sem (ForInStep (List (Str×Addr)))))=pure (Es env names cs)
 | [],cs,_=>rfl
 | (n,k)::rest,cs,h=>by
  have ih:=λcs'=>aY rest cs' λp hp=>h p (QaG _ hp)
  rw[List.forIn_cons]
  cases hk:(k == NameKind.free) with
  | true=>
   obtain⟨c,hc⟩:=h (n,k) QaT (eq_of_beq hk)
   have e1:cellOf env n=pure c:=by unfold cellOf;rw[hc]
   have e2:Es env ((n,k)::rest) cs=Es env rest ((n,c)::cs):=by simp only[Es,hk,if_true,hc]
   rw[e2,<-ih]
   simp only[hk,if_true,e1,pure_bind]
  | false=>
   have e2:Es env ((n,k)::rest) cs=Es env rest cs:=by simp only[Es,hk,Bool.false_eq_true,if_false]
   rw[e2,<-ih]
   simp only[hk,Bool.false_eq_true,if_false,pure_bind]
theorem Qz {env:Env} {scope:Scope} (h:∀p∈scope.names,p.2=.free->∃c,env.cells.lookup p.1=some c):closureFor scope env=pure (Es env scope.names []):=by
 have e:=aY (env:=env) scope.names [] h
 unfold closureFor
 simp only[bind_pure]
 exact e
theorem aX {env:Env}:∀(names:List (Str×NameKind)) (cs:List (Str×Addr)),(∀x c,cs.lookup x=some c->env.cells.lookup x=some c) ->
  ∀x c,(Es env names cs).lookup x=some c->env.cells.lookup x=some c
 | [],cs,h,x,c,e=>h x c e
 | (n,k)::rest,cs,h,x,c,e=>by
  refine aX rest _ (λy d z=>?_) x c e
  split at z
  ·split at z
   ·rename_i c' hc'
    rw[List.lookup_cons] at z
    cases q:y == n with
    | true=>rw[q] at z;cases z;rw[eq_of_beq q];exact hc'
    | false=>rw[q] at z;exact h y d z
   ·exact h y d z
  ·exact h y d z
theorem Uz {env:Env}:∀(names:List (Str×NameKind)) (cs:List (Str×Addr)) (x:Str),((cs.lookup x).isSome=true\/((x,NameKind.free)∈names/\∃c,env.cells.lookup x=some c)) ->
  ∃c,(Es env names cs).lookup x=some c
 | [],cs,x,h=>by
  rcases h with h |⟨h,_⟩
  ·exact Option.isSome_iff_exists.mp h
  ·cases h
 | (n,k)::rest,cs,x,h=>by
  refine Uz rest _ x ?_
  have grow:(cs.lookup x).isSome=true->(List.lookup x (if (k == .free)=true then (match env.cells.lookup n with | some c=>(n,c)::cs | none=>cs) else cs)).isSome=true:=λz=>by
   split
   ·split
    ·rw[List.lookup_cons]
     cases x == n with
     | true=>rfl
     | false=>exact z
    ·exact z
   ·exact z
  rcases h with h |⟨h,c,hc⟩
  ·exact .inl (grow h)
  ·rcases QbX.mp h with z | z
   ·cases z
    refine .inl ?_
    simp[hc,List.lookup_cons]
   ·exact .inr ⟨z,c,hc⟩
def Nb (env:Env) (n:Str) (k:NameKind):NameKind:=if (k == .free&&env.scope.kind == .function&&env.kindOf n == some .cell)=true then .cell else k
theorem Vs (env:Env):∀(l:List (Str×NameKind)) (x:Str),
  (l.map λ(n,k)=>if (k == NameKind.free&&env.scope.kind == .function&&env.kindOf n == some .cell) then (n,NameKind.cell) else (n,k)).lookup x=(l.lookup x).map (Nb env x)
 | [],_=>rfl
 | (n,k)::r,x=>by
  have ih:=Vs env r x
  have e:(if (k == NameKind.free&&env.scope.kind == .function&&env.kindOf n == some .cell)=true then (n,NameKind.cell) else (n,k))=(n,Nb env n k):=by
   unfold Nb;split <;> rfl
  rw[QbY]
  show List.lookup x ((if (k == NameKind.free&&env.scope.kind == .function&&env.kindOf n == some .cell)=true then (n,NameKind.cell) else (n,k))::_)=_
  rw[e,List.lookup_cons,List.lookup_cons]
  cases q:x == n with
  | true=>rw[eq_of_beq q];rfl
  | false=>exact ih
theorem pK {env:Env} {n:Str} {k:NameKind} (h:Nb env n k=.cell\/Nb env n k=.free):k=.cell\/k=.free:=by
 unfold Nb at h
 split at h
 ·rename_i q
  simp only[Qbz] at q
  exact .inr (eq_of_beq q.1.1)
 ·exact h
theorem nC {prog:Program} {w:World} {A:Around} {R:Result->Shared->Prop} {s:Shared} {elt target iter:Expr} {ifs:YJ} {scope:Scope} {pos:Pos} {it acc:Value} {env:Env} (J:Nat->Shared->Prop)
  (turn:∀n s,J n s->wpAny (model prog w) A (pyNext it) (λr s1=>match r with
   | none=>R (.ok .next) s1
   | some v=>wpAny (model prog w) A (letOwnedTupleGo target it v) (λ_ s2=>wpAny (model prog w) A (assign target env v) (λ_ s3=>
     wpAny (model prog w) A (forIn ifs true λc r=>if r=true then do let ok <-isTrue c env (eval c env);pure (ForInStep.yield ok) else pure (ForInStep.yield r)) (λok s4=>
      if ok=true then wpAny (model prog w) A (eval elt env) (λx s5=>wpAny (model prog w) A (call (.builtin "list.append") [acc,x]) (λ_ s6=>∃m,m < n/\J m s6) (λ_ _=>False) s5) (λ_ _=>False) s4
      else ∃m,m < n/\J m s4) (λ_ _=>False) s3) (λ_ _=>False) s2) (λ_ _=>False) s1) (λ_ _=>False) s)
  (n:Nat) (h:J n s):codeAny (model prog w) A (.compLoop (.ListComp elt [⟨target,iter,ifs,0⟩] scope pos) 0 it acc env) R s:=by
 refine codeAny_loop rfl J (λk s' hk=>?_) n h
 show wpAny _ A (Sem.onRaise (compTurn (.ListComp elt [⟨target,iter,ifs,0⟩] scope pos) 0 it acc env) (λx=>do noteFrame x env;theTreesLotGoes x)) _ _ s'
 refine wpAny_noted ?_
 rw[compTurn_list]
 refine Qcu (Qcc (Qcu (Qcw (turn k s' hk) (λr s1 q1=>?_) λ_ _ f=>f.elim)))
 cases r with
 | none=>exact Qcv q1
 | some v=>
  refine Qcu (Qcw q1 (λ_ s2 q2=>Qcu (Qcw q2 (λ_ s3 q3=>Qcu (Qcw q3 (λok s4 q4=>?_) λ_ _ f=>f.elim)) λ_ _ f=>f.elim)) λ_ _ f=>f.elim)
  cases ok with
  | false=>exact Qcv ⟨rfl,q4⟩
  | true=>exact Qcu (Qcu (Qcw q4 (λx s5 q5=>Qcu (Qcw q5 (λ_ s6 q6=>Qcv (Qcv ⟨rfl,q6⟩)) λ_ _ f=>f.elim)) λ_ _ f=>f.elim))
def cxC (X:Cx) (N':YF) (scope:Scope) (s3:Shared) (H3:Hp) (fp:List Addr) (pn:YC):Cx where
 prog:=X.prog
 w:=X.w
 K:=X.K
 mg:=X.mg
 base:=X.base
 A:=X.A
 N:=N'
 s₀:=s3
 H₀:=H3
 env:=compEnvC scope (Es X.env scope.names []) s3.heap.objs.size X.env
 outer:=X.stack
 stack:=X.stack
 ex:=fp
 fn:=λ_=>false
 calm:=X.calm
 pn:=pn
 xe:=λ_ _=>False
structure Bg (X:Cx) (N':YF) (src:List (Option Nat)) (sc:Scope):Prop where
 kind:sc.kind=.function
 Iv:∀y∈sc.names,y.2≠.cell
 loc:∀y∈sc.names,y.2=.local->sc.names.lookup y.1=some .local
 fv:∀y∈sc.names,y.2=.free->X.env.kindOf y.1=some .cell\/X.env.kindOf y.1=some .free
 len:src.length=N'.length
 src:∀(i:Nat) (x:Str) (j:Nat),N'[i]?=some x->src[i]?=some (some j)->X.N[j]?=some x/\sc.names.lookup x=some .free
def JB (src:List (Option Nat)) (σ : St):St:=src.map λo=>match o with | none=>none | some j=>(σ[j]?).join
def PF (X:Cx) (ifs:YJ) (t:TT):Prop:=
 ∀(pins:YC) (s:Shared) (σ : St) (H:Hp) (Q:Bool->Hp->Prop),Inv X pins σ H s->t σ H Q ->
  wpAny (model X.prog X.w) X.A (forIn ifs true λc r=>if r=true then do let ok <-isTrue c X.env (eval c X.env);pure (ForInStep.yield ok) else pure (ForInStep.yield r)) (TP X pins σ Q) X.xe s
theorem CQ {X:Cx}:PF X [] (λ_ H Q=>Q true H):=λ_ _ _ H _ I h=>wpAny_tests_nil ⟨H,I,h⟩
theorem Gm {X:Cx} {c:Expr} {t:TT} (hc:PT X c t):PF X [c] t:=λpins s σ H Q I h=>wpAny_tests_one (hc pins s σ H Q I h)
theorem Un.ahead {fs ex:List Addr} {H H':Hp} {h h1 h':Heap} (u:Un fs ex H H' h h1) (k:∀b o,b < h.objs.size->h1.get? b=some o->h'.get? b=some o):Un fs ex H H' h h' where
 keep:=λb o e n hb hx=>k b o (Qcf e) (u.keep b o e n hb hx)
 slot:=λb o e n hb hx=>by
  obtain⟨sl,q⟩:=u.slot b o e n hb hx
  exact⟨sl,k b _ (Qcf e) q⟩
 free:=u.free
 there:=λb o e hx=>by
  obtain⟨o',q⟩:=u.there b o e hx
  exact⟨o',k b _ (Qcf e) q⟩
 tups:=u.tups
 LQ:=u.LQ
 MK:=u.MK
section
variable {X:Cx} {N':YF} {src:List (Option Nat)} {sc:Scope} {pins:YC} {σ : St} {H:Hp} {s3:Shared} {fp:List Addr} {h1:Heap} {tk:Nat}
theorem Uw (S:Bg X N' src sc) (I:Inv X pins σ H s3) (hf:∀b∈fp,Gv X pins H b) (ht:∀b∈fp,b < s3.heap.objs.size)
  (ns:h1.Ns s3.heap.objs.size λ_=>none) (kp:∀b o,s3.heap.get? b=some o->h1.get? b=some o) :
  Inv (cxC X N' sc s3 H fp (X.pn++pins)) [] (JB src σ) H { s3 with heap:=h1,toks:=tk }:=by
 have hcl:∀x c,(Es X.env sc.names []).lookup x=some c->X.env.cells.lookup x=some c:=aX sc.names [] λx c e=>by cases e
 have old:∀x c,(Es X.env sc.names []).lookup x=some c->∃o,s3.heap.get? c=some o:=λx c e=>by
  obtain⟨v,o,ho,_⟩:=I.cell x c (hcl x c e)
  exact⟨o,ho⟩
 have fvh:∀x,(x,NameKind.free)∈sc.names->∃c,X.env.cells.lookup x=some c:=λx hx=>I.ok.has x (S.fv _ hx rfl)
 have xK:∀b,b≠X.env.locals->b∉X.fs->b∉frs X.stack:=λb h1 h2 hb=>(QbX.mp (I.YW b hb)).elim h1 h2
 have kindOf_eq:∀x,(compEnvC sc (Es X.env sc.names []) s3.heap.objs.size X.env).kindOf x=(sc.names.lookup x).map (Nb X.env x):=λx=>Vs X.env sc.names x
 refine⟨⟨I.ok.mod,S.kind,I.ok.glob,I.ok.blt,Qcn _,λx y c e1 e2=>I.ok.inj x y c (hcl x c e1) (hcl y c e2),λx hx=>?_,λx c hf=>absurd hf QaW,I.ok.hd,I.ok.frames,.inl rfl,λb hb=>?_,I.bs,Qci I.ok.bsz I.sz,
  λb o e hb=>?_,λb hb=>?_,I.stack,I.cZ⟩,rfl,I.bare,Un.kept kp,⟨_,ns,λi x v e1 e2 e3=>?_⟩,λx c e=>?_,I.hok.fresh (Qcn _),λx c e=>I.HN x c (hcl x c e),λp hp=>?_,I.hok.kept kp,?_⟩
 ·
  have hx':(sc.names.lookup x).map (Nb X.env x)=some .cell\/(sc.names.lookup x).map (Nb X.env x)=some .free:=by
   rw[<-kindOf_eq x];exact hx
  cases q:sc.names.lookup x with
  | none=>rw[q] at hx';rcases hx' with z | z <;> cases z
  | some k=>
   rw[q] at hx'
   have hk:k=.cell\/k=.free:=pK (env:=X.env) (n:=x) (hx'.imp (λz=>QbH z) λz=>QbH z)
   have hm:=QaP q
   rcases hk with rfl | rfl
   ·exact absurd rfl (S.Iv _ hm)
   ·exact Uz sc.names [] x (.inr ⟨hm,fvh x hm⟩)
 ·
  obtain⟨f0,f1,f2,f3,f4,f5⟩:=hf b hb
  exact⟨Qch (ht b hb),λx c e=>f4 x c (hcl x c e)⟩
 ·
  obtain⟨f0,f1,f2,f3,f4,f5⟩:=hf b hb
  rcases f3 with z | z
  ·exact I.ok.Wz b o e z
  ·exact absurd (QaZ (Qcf e) (Qci I.ok.bsz z)) (QbZ _)
 ·
  obtain⟨f0,f1,f2,f3,f4,f5⟩:=hf b hb
  exact xK b f1 f2
 ·
  have e2':(JB src σ)[i]?=some (some v):=e2
  unfold JB at e2'
  rw[Qbk] at e2'
  cases q:src[i]? with
  | none=>rw[q] at e2';cases e2'
  | some oj=>
   rw[q] at e2'
   cases oj with
   | none=>cases e2'
   | some j=>
    have e4:(σ[j]?).join=some v:=QbH e2'
    have e5:σ[j]?=some (some v):=by
     cases r:σ[j]? with
     | none=>rw[r] at e4;cases e4
     | some z=>rw[r] at e4;cases z with
      | none=>cases e4
      | some y=>cases e4;rfl
    obtain⟨hN,hfr⟩:=S.src i x j e1 q
    have hm:=QaP hfr
    have kx:=S.fv _ hm rfl
    obtain⟨m,hn,hl⟩:=I.loc
    obtain⟨u,r,l⟩:=hl j x v hN e5 (.inr kx)
    refine⟨u,r,?_⟩
    rcases l with⟨k1,_⟩|⟨_,c,hc,hcell⟩
    ·rcases kx with z | z <;> (rw[z] at k1;cases k1)
    ·obtain⟨c',hc'⟩:=Uz (env:=X.env) sc.names [] x (.inr ⟨hm,c,hc⟩)
     have e6:c'=c:=by
      have:=hcl x c' hc'
      rw[hc] at this
      exact (QbH this).symm
     subst e6
     refine .inr ⟨?_,c',hc',?_⟩
     ·have:(compEnvC sc (Es X.env sc.names []) s3.heap.objs.size X.env).kindOf x=some (Nb X.env x .free):=by rw[kindOf_eq x,hfr];rfl
      show (compEnvC sc (Es X.env sc.names []) s3.heap.objs.size X.env).kindOf x=some .cell\/(compEnvC sc (Es X.env sc.names []) s3.heap.objs.size X.env).kindOf x=some .free
      rw[this]
      unfold Nb
      split
      ·exact .inl rfl
      ·exact .inr rfl
     ·obtain⟨o,ho,hd⟩:=hcell
      exact⟨o,kp _ o ho,hd⟩
 ·
  obtain⟨v,o,ho,hd⟩:=I.cell x c (hcl x c e)
  exact⟨v,o,kp _ o ho,hd⟩
 ·
  have hp':p∈X.pn++pins:=(QbC.mp hp).elim id λz=>by cases z
  obtain⟨a1,a2,a3,a4,a5⟩:=I.pin p hp'
  exact⟨kp _ _ a1,a2,Qch (Qcf a1),xK p.1 a3 a4,a5⟩
 ·show (JB src σ).length=N'.length
  unfold JB
  rw[QbB]
  exact S.len
theorem RJ {s1:Shared} {σ':St} {H':Hp} {h':Heap} (I:Inv X pins σ H s3) (hf:∀b∈fp,Gv X pins H b) (I':Inv (cxC X N' sc s3 H fp (X.pn++pins)) [] σ' H' s1)
  (sb:Heap.SameBut s3.heap.objs.size s1.heap h'):Inv X pins σ H' { s1 with heap:=h' }:=by
 have fr:H' s3.heap.objs.size=none:=I'.free
 refine I.call' (s':={ s1 with heap:=h' }) (ch:=fp) I'.os ?_ ?_ I'.bare λb hb=>?_
 ·exact Un.ahead (h:=s3.heap) (h1:=s1.heap) I'.base λb o hb e=>sb.extBut b o (Qch hb) e
 ·exact λb u e=>(I'.hok b u e).stay (λc v hc q=>sb.extBut c v (by
   intro z
   rcases hc with y | y
   ·rw[<-y,z,fr] at e;cases e
   ·rw[z,fr] at y;cases y) q) (λ_ q=>q) λ_ _ q=>q
 ·obtain⟨f0,f1,f2,f3,f4,f5⟩:=hf b hb
  exact⟨f3,f1,f4,λp hp=>f5 p hp⟩
end
@[irreducible] def FZ (J:It) (g:TG) (tt:TT) (te:TE) (Q:VK) (σ0:St) (H0:Hp) (l:Addr):Prop:=∃W:Nat->YN,(∃m,W 0 m σ0 H0) /\
 ∀i m σ' H',W i m σ' H'->(J.stop i H'/\Q (.ref l) H')\/(J.go i H'/\∃N:YO,(∀ σ3 H3,N σ3 H3->∃m',m' < m/\W (i+1) m' σ3 H3)/\∀x H2,J.yld i H' x H2->g x σ' H2 fun σ3 H3=>tt σ3 H3 λb H4=>
  if b=true then te σ3 H4 λy H5=>∃xs,H5 l=some (.lst xs)/\xs.length < sizeLine/\N σ3 (upd H5 l (.lst (xs++[y]))) else N σ3 H4)
def gw (wi:TI) (src:List (Option Nat)) (g:TG) (tt:TT) (te:TE):TE:=fun σ H Q=>wi σ H λJ H1=>∀l,H1 l=none->FZ J g tt te Q (JB src σ) (upd H1 l (.lst [])) l
theorem XJ {X:Cx} {N':YF} {src:List (Option Nat)} {sc:Scope} {elt tg iter:Expr} {ifs:YJ} {pos pos':Pos} {wi:TI} {g:TG} {tt:TT} {te:TE} {use:Option (Value->Sem Unit)} {R:YA} (hc:X.calm=true) (S:Bg X N' src sc)
  (hi:PI X tg iter wi) (hg:∀s3 H3 fp pn,PG (cxC X N' sc s3 H3 fp pn) tg g) (ht:∀s3 H3 fp pn,PF (cxC X N' sc s3 H3 fp pn) ifs tt) (he:∀s3 H3 fp pn,PE (cxC X N' sc s3 H3 fp pn) elt te)
  (hs:∀x,foldedSetIterable iter X.env x=pure x) {pins:YC} {s:Shared} {σ : St} {H:Hp} {Q:VK} (I:Inv X pins σ H s) (h:gw wi src g tt te σ H Q)
  (fin:∀s3 H3 fp σ4 H4 s5 l,Inv X pins σ H3 s3->(∀b∈fp,Gv X pins H3 b)->Inv (cxC X N' sc s3 H3 fp (X.pn++pins)) [] σ4 H4 s5->Q (.ref l) H4 ->
   compPost (model X.prog X.w) X.A X.xe use R (.ref l) s3.heap.objs.size (.ok .next) s5) :
  wpAny (model X.prog X.w) X.A (comprehension (.ListComp elt [⟨tg,iter,ifs,0⟩] sc pos) sc X.env pos' (newList []) false (eval iter X.env) use) R X.xe s:=by
 refine wpAny_comprehension_free (use:=use) (cl:=Es X.env sc.names []) rfl hs (Qz λp hp e=>I.ok.has p.1 (S.fv p hp e)) S.kind S.loc ?_
 refine thn (hi pins s σ H _ I h) λv s1 h1=>thn h1 λitv s2 h2=>?_
 obtain⟨it,fp,tn,J,H2,rfl,I2,T,st2,f2,q⟩:=h2
 have q':=q s2.heap.objs.size (I2.hok.fresh (Qcn _))
 unfold FZ at q'
 obtain⟨W,⟨m0,w0⟩,turn⟩:=q'
 refine Qbp (wpAny_newFunctionEnv S.Iv (by intro y hy;simp at hy) (λha hns hsb=>?_) S.kind)
 have I3:Inv X pins σ (upd H2 s2.heap.objs.size (.lst [])) { s2 with heap:=s2.heap.push { cls:=.type "list",dict:=none,data:=.seq ([]:YE).toArray } }:=
  I2.laid (t':=s2.toks) (λb u e=>Qav _ e) (Qcn _) ⟨Qco _,[],0,.nil,QaJ _ rfl⟩
 have hfl:∀b∈fp,b < s2.heap.objs.size:=λb hb=>by
  obtain⟨o,e,_⟩:=T.obj 0 _ st2 b hb
  exact Qcf e
 have f3:∀b∈fp,Gv X pins (upd H2 s2.heap.objs.size (.lst [])) b:=λb hb=>⟨by rw[Am (Qch (hfl b hb))];exact (f2 b hb).1,(f2 b hb).2⟩
 generalize hs3:({ s2 with heap:=s2.heap.push { cls:=.type "list",dict:=none,data:=.seq ([]:YE).toArray } }:Shared)=s3 at *
 have hsz:s2.heap.objs.size < s3.heap.objs.size:=by rw[<-hs3];show s2.heap.objs.size < (s2.heap.push _).objs.size;rw[QbS];exact Qby _
 have kp:∀b o,s3.heap.get? b=some o->ha.get? b=some o:=λb o e=>hsb.extBut b o (Qch (Qcf e)) (Qav _ e)
 have st3:tn 0 ha:=T.keep 0 _ _ st2 λb hb o e=>kp b o (by rw[<-hs3];exact Qav _ e)
 have I4:Inv (cxC X N' sc s3 (upd H2 s2.heap.objs.size (.lst [])) fp (X.pn++pins)) [] (JB src σ) (upd H2 s2.heap.objs.size (.lst [])) { s3 with heap:=ha,toks:=s3.toks+([]:List (Str×Value)).length }:=
  Uw S I3 f3 (λb hb=>Nat.lt_trans (hfl b hb) hsz) hns kp
 have loop:codeAny (model X.prog X.w) X.A (.compLoop (.ListComp elt [⟨tg,iter,ifs,0⟩] sc pos) 0 (.ref it) (.ref s2.heap.objs.size) (compEnvC sc (Es X.env sc.names []) s3.heap.objs.size X.env))
   (compPost (model X.prog X.w) X.A X.xe use R (.ref s2.heap.objs.size) s3.heap.objs.size) { s3 with heap:=ha,toks:=s3.toks+([]:List (Str×Value)).length }:=by
  refine nC (λn s'=>∃i σ' H',Inv (cxC X N' sc s3 (upd H2 s2.heap.objs.size (.lst [])) fp (X.pn++pins)) [] σ' H' s'/\tn i s'.heap/\(∀b∈fp,H' b=none)/\W i n σ' H') ?_ m0 ⟨0,_,_,I4,st3,λb hb=>(f3 b hb).1,w0⟩
  rintro n s4 ⟨i,σ4,H4,J4,st4,fr4,w4⟩
  have stat:∀{H':Hp},(∀b∈fp,H' b=none)->∀b∈fp,Gv (cxC X N' sc s3 (upd H2 s2.heap.objs.size (.lst [])) fp (X.pn++pins)) [] H' b:=λhn b hb=>
   ⟨hn b hb,(I4.ok.exf b hb).1,I4.ok.RG b hb,.inl hb,λx c e=>(I4.ok.exf b hb).2 x c e,λp hp=>(f3 b hb).2.2.2.2.2 p ((QbC.mp hp).elim id λz=>by cases z)⟩
  rcases turn i n σ4 H4 w4 with⟨stop,qn⟩|⟨go,N,hN,step⟩
  ·refine thn (T.done (cxC X N' sc s3 (upd H2 s2.heap.objs.size (.lst [])) fp (X.pn++pins)) rfl rfl rfl hc i [] s4 σ4 H4 _ J4 (stat fr4) st4 stop) λr s5 zz=>?_
   obtain⟨hr,J5⟩:=zz
   subst hr
   exact fin s3 _ fp σ4 H4 s5 _ I3 f3 J5 qn
  ·refine thn (T.item (cxC X N' sc s3 (upd H2 s2.heap.objs.size (.lst [])) fp (X.pn++pins)) rfl rfl rfl hc i [] s4 σ4 H4 _ J4 (stat fr4) st4 go) λr s5 zz=>?_
   obtain⟨u,hr,h5⟩:=zz
   subst hr
   refine thn h5 λ_ s6 zz=>?_
   obtain⟨x,H6,J6,r6,y6,st6,fr6⟩:=zz
   have J6':=J6.pinned (stat fr6) (T.obj _ _ st6)
   have back:∀{pl:YC} {σ7:St} {H7:Hp} {s7:Shared},Inv (cxC X N' sc s3 (upd H2 s2.heap.objs.size (.lst [])) fp (X.pn++pins)) ([]++Ni fp s6.heap) σ7 H7 s7->N σ7 H7 ->
     ∃m',m' < n/\∃i σ' H',Inv (cxC X N' sc s3 (upd H2 s2.heap.objs.size (.lst [])) fp (X.pn++pins)) [] σ' H' s7/\tn i s7.heap/\(∀b∈fp,H' b=none)/\W i m' σ' H':=λ{pl σ7 H7 s7} J7 w7=>by
    obtain⟨m',hm,w7⟩:=hN _ _ w7
    have pinned:∀b∈fp,∀o,s6.heap.get? b=some o->s7.heap.get? b=some o/\H7 b=none:=λb hb o e=>by
     have:=J7.pin (b,o) (QaB _ (QaB _ (JQ hb e)))
     exact⟨this.1,this.2.1⟩
    refine⟨m',hm,i+1,σ7,H7,J7.Hf,T.keep _ _ _ st6 λb hb o e=>(pinned b hb o e).1,λb hb=>?_,w7⟩
    obtain⟨o,e,_⟩:=T.obj _ _ st6 b hb
    exact (pinned b hb o e).2
   refine thn (hg s3 _ fp _ _ s6 σ4 H6 x u _ J6' r6 (step x H6 y6)) λ_ s7 zz=>?_
   obtain⟨σ7,H7,J7,q7⟩:=zz
   refine thn (ht s3 _ fp _ _ s7 σ7 H7 _ J7 q7) λok s8 zz=>?_
   obtain⟨H8,J8,q8⟩:=zz
   cases ok with
   | false=>
    rw[if_neg QaW] at q8 ⊢
    exact back (pl:=[]) J8 q8
   | true=>
    rw[if_pos rfl] at q8 ⊢
    refine thn (he s3 _ fp _ _ s8 σ7 H8 _ J8 q8) λy s9 zz=>?_
    obtain⟨yv,H9,J9,r9,xs,hl9,hz9,q9⟩:=zz
    refine thn (Cy _ s9 σ7 H9 (.ref s2.heap.objs.size) [yv] (.ref s2.heap.objs.size) [y] (λ_ H'=>N σ7 H') J9 rfl (.cons r9 .nil) ⟨_,xs,yv,rfl,rfl,hl9,hz9,q9⟩) λ_ s10 zz=>?_
    obtain⟨_,H10,J10,_,q10⟩:=zz
    exact back (pl:=[]) J10 q10
 exact codeAny_compStart_list loop (T.self X.A 0 _ _ _ st3 loop)
theorem Cg {X:Cx} {N':YF} {src:List (Option Nat)} {sc:Scope} {elt tg iter:Expr} {ifs:YJ} {pos:Pos} {wi:TI} {g:TG} {tt:TT} {te:TE} (hc:X.calm=true) (S:Bg X N' src sc)
  (hi:PI X tg iter wi) (hg:∀s3 H3 fp pn,PG (cxC X N' sc s3 H3 fp pn) tg g) (ht:∀s3 H3 fp pn,PF (cxC X N' sc s3 H3 fp pn) ifs tt) (he:∀s3 H3 fp pn,PE (cxC X N' sc s3 H3 fp pn) elt te)
  (hs:∀x,foldedSetIterable iter X.env x=pure x:=by intro _;rfl):PE X (.ListComp elt [⟨tg,iter,ifs,0⟩] sc pos) (gw wi src g tt te):=by
 intro pins s σ H Q I h
 rw[eval_ListComp]
 refine XJ (use:=none) hc S hi hg ht he hs I h λs3 H3 fp σ4 H4 s5 l I3 f3 J5 q=>?_
 obtain⟨m,hn,_⟩:=J5.loc
 exact⟨m,hn,λh' sb=>⟨.ref l,H4,RJ I3 f3 J5 sb,rfl,q⟩⟩
theorem Pb {X:Cx} {N':YF} {src:List (Option Nat)} {sc:Scope} {elt tg iter:Expr} {ifs:YJ} {pos spos px:Pos} {wi:TI} {g:TG} {tt:TT} {te:TE} {i:Nat} {x:Str} (hN:X.N.Nodup) (hi0:X.N[i]?=some x) (hx:Loc X.env.scope x) (hc:X.calm=true) (S:Bg X N' src sc)
  (hi:PI X tg iter wi) (hg:∀s3 H3 fp pn,PG (cxC X N' sc s3 H3 fp pn) tg g) (ht:∀s3 H3 fp pn,PF (cxC X N' sc s3 H3 fp pn) ifs tt) (he:∀s3 H3 fp pn,PE (cxC X N' sc s3 H3 fp pn) elt te)
  (hsw:swapsWith (.ListComp elt [⟨tg,iter,ifs,0⟩] sc pos) (some (.Name x px)) spos.line X.env=pure true:=by rfl) (hs:∀x,foldedSetIterable iter X.env x=pure x:=by intro _;rfl)
  (hf:X.fn x=true\/X.env.scope.names.lookup x=some .local:=by first | exact .inl rfl | exact .inr rfl | assumption) :
  PS X (.Assign [.Name x px] (.ListComp elt [⟨tg,iter,ifs,0⟩] sc pos) spos) (V8 (gw wi src g tt te) (Fl i)):=by
 intro pins s σ H D I h
 rw[exec_Assign_Name_used _ _ _ _ hsw]
 refine Qcu (Qcc (Qcu ?_))
 show wpAny _ X.A (do let _ <-comprehension (.ListComp elt [⟨tg,iter,ifs,0⟩] sc pos) sc X.env _ (newList []) false (eval iter X.env) (some (assign (.Name x px) X.env))) _ _ s
 refine Qcu (thn (XJ (R:=λ_ s'=>SP X pins D .next s') hc S hi hg ht he hs I h λs3 H3 fp σ4 H4 s5 l I3 f3 J5 q=>?_) λ_ s' hq=>Qcv (Qcv hq))
 obtain⟨m,⟨oC,es,ep,hoC,r⟩,_⟩:=J5.loc
 have I6:Inv X pins σ H4 { s5 with heap:=s5.heap }:=RJ I3 f3 J5 (Heap.SameBut.refl _ _)
 have hCn:H4 s3.heap.objs.size=none:=J5.free
 have neL:s3.heap.objs.size≠X.env.locals:=Qck I3.lt
 have qI:∀v,oC.data≠.cell v:=λv z=>by rw[r.1] at z;cases z
 have I7:Inv X (pins++[(s3.heap.objs.size,oC)]) σ H4 s5:=I6.Sy λp hp=>(QbC.mp hp).elim (λz=>I6.pin p (QaB _ z)) λz=>by
  cases QaX.mp z
  exact⟨hoC,hCn,neL,I3.qF (Qcn _),qI⟩
 show wpAny _ X.A (assign (.Name x px) X.env (.ref l)) _ _ s5
 refine wpAny_assign_Name (MN (v:=.ref l) I7 hN hi0 hx rfl (λs6 I8=>?_) hf)
 have k8:=(I8.pin (s3.heap.objs.size,oC) (QaB _ (QaB _ (QaX.mpr rfl)))).1
 refine⟨m,⟨oC,es,ep,k8,r⟩,λh' sb=>⟨_,H4,?_,q⟩⟩
 have I9:=I8.Hf
 refine I9.turned (t':=s6.toks) (λb o hb e=>sb.extBut b o hb e) hCn neL (.inr I3.sz) (λy c e z=>?_) (λp hp z=>?_)
 ·obtain⟨v,o,ho,_⟩:=I3.cell y c e
  exact absurd (Qcf ho) (by rw[z];exact QbZ _)
 ·have:=(I3.pin p hp).1
  exact absurd (Qcf this) (by rw[z];exact QbZ _)
theorem Bg.of {X:Cx} {N':YF} {src:List (Option Nat)} {sc:Scope} (fsc:Scope) (N:YF) (hX:X.env.scope=fsc) (hN:X.N=N) (kind:sc.kind=.function) (Iv:∀y∈sc.names,y.2≠.cell) (loc:∀y∈sc.names,y.2=.local->sc.names.lookup y.1=some .local)
  (fv:∀y∈sc.names,y.2=.free->fsc.names.lookup y.1=some .cell) (len:src.length=N'.length)
  (sr:((N'.zip src).all λp=>match p.2 with | none=>true | some j=>decide (N[j]?=some p.1)&&decide (sc.names.lookup p.1=some .free))=true):Bg X N' src sc where
 kind:=kind
 Iv:=Iv
 loc:=loc
 fv:=λy hy e=>.inl (by show X.env.scope.names.lookup y.1=some .cell;rw[hX];exact fv y hy e)
 len:=len
 src:=λi x j e1 e2=>by
  rw[List.all_eq_true] at sr
  have hm:(x,some j)∈N'.zip src:=by
   refine QaF (i:=i) ?_
   rw[List.getElem?_zip_eq_some]
   exact⟨e1,e2⟩
  have:=sr _ hm
  simp only[Qbz,decide_eq_true_eq] at this
  rw[hN]
  exact this
section
variable {X:Cx}
@[irreducible] def Ov (K:YD):YG->Hp->VK->Prop:=λxs H Q=>∃x T t b,xs=[x,.ty T]/\Kv K H x t/\kitOne K t (.type T)=some b/\Q (.bl b) H
theorem QB:FW X (.builtin "isinstance") (Ov X.K):=by
 intro pins s σ H xs us Q I r h
 unfold Ov at h
 obtain⟨x,T,t,b,rfl,ty,e,q⟩:=h
 obtain⟨u,w',rfl,rx,rt⟩:=vals2 r
 cases rt
 exact lH I rx ty e λtk=>⟨.bl b,H,I.tok tk,rfl,q⟩
theorem bZ {K:YD}:kitOne K (.type "int") (.type "int")=some true:=by rfl
theorem aA {K:YD}:kitOne K (.type "int") (.type "bool")=some false:=by rfl
theorem aB {K:YD}:kitOne K (.type "bool") (.type "int")=some true:=by rfl
theorem Yk {K:YD}:kitOne K (.type "bool") (.type "bool")=some true:=by rfl
theorem aq {K:YD}:kitOne K (.type "NoneType") (.type "int")=some false:=by rfl
theorem bY {K:YD}:kitOne K (.type "str") (.type "int")=some false:=by rfl
theorem au {K:YD}:kitOne K (.type "list") (.type "int")=some false:=by rfl
theorem Yh {K:YD}:kitOne K (.type "tuple") (.type "int")=some false:=by rfl
theorem WW {K:YD}:kitOne K (.type "NoneType") (.type "tuple")=some false:=by rfl
theorem W0 {K:YD}:kitOne K (.type "bool") (.type "tuple")=some false:=by rfl
theorem Yj {K:YD}:kitOne K (.type "int") (.type "tuple")=some false:=by rfl
theorem Yi {K:YD}:kitOne K (.type "str") (.type "tuple")=some false:=by rfl
theorem WY {K:YD}:kitOne K (.type "list") (.type "tuple")=some false:=by rfl
theorem Vt {K:YD}:kitOne K (.type "tuple") (.type "tuple")=some true:=by rfl
def Kn (H:Hp):V->Prop
 | .non=>True
 | .bl _=>True
 | .int _=>True
 | .str _=>True
 | .ref a=>(∃xs,H a=some (.lst xs))\/∃xs,H a=some (.tup xs)
 | _=>False
def isI:V->Bool
 | .int _=>true
 | .bl _=>true
 | _=>false
def isB:V->Bool
 | .bl _=>true
 | _=>false
def isW:V->Bool
 | .int _=>true
 | _=>false
def Jz (H:Hp):V->Option (YG)
 | .ref a=>match H a with
  | some (.tup xs)=>some xs
  | _=>none
 | _=>none
theorem Di {H:Hp} {a:Addr} {xs:YG} (h:H a=some (.tup xs)):Jz H (.ref a)=some xs:=by
 show (match H a with | some (.tup xs)=>some xs | _=>none)=some xs
 rw[h]
theorem jA {H:Hp} {a:Addr} {xs:YG} (h:H a=some (.lst xs)):Jz H (.ref a)=none:=by
 show (match H a with | some (.tup xs)=>some xs | _=>none)=none
 rw[h]
theorem Z4 {H:Hp} {v:V} {xs:YG} (h:Jz H v=some xs):∃a,v=.ref a/\H a=some (.tup xs):=by
 cases v with
 | ref a=>
  refine⟨a,rfl,?_⟩
  have h':(match H a with | some (.tup xs)=>some xs | _=>none)=some xs:=h
  split at h'
  ·rename_i e;cases h';exact e
  ·cases h'
 | _=>cases h
theorem Kn.same {H H':Hp} {v:V} (s:Same H H') (k:Kn H v):Kn H' v:=by
 cases v with
 | ref a=>exact k.imp (λ⟨xs,e⟩=>⟨xs,s _ _ e⟩) λ⟨xs,e⟩=>⟨xs,s _ _ e⟩
 | _=>exact k
theorem vR {K:YD} {H:Hp} {x:V} {Q:VK} (k:Kn H x) (q:Q (.bl (isI x)) H):Ov K [x,.ty "int"] H Q:=by
 unfold Ov
 cases x with
 | non=>exact⟨_,_,_,_,rfl,.non,aq,q⟩
 | bl b=>exact⟨_,_,_,_,rfl,.bl b,aB,q⟩
 | int i=>exact⟨_,_,_,_,rfl,.int i,bZ,q⟩
 | str z=>exact⟨_,_,_,_,rfl,.str z,bY,q⟩
 | ref a=>
  rcases k with⟨xs,e⟩|⟨xs,e⟩
  ·exact⟨_,_,_,_,rfl,.lst e,au,q⟩
  ·exact⟨_,_,_,_,rfl,.tup e,Yh,q⟩
 | _=>exact k.elim
theorem qP {K:YD} {H:Hp} {x:V} {Q:VK} (k:isI x=true) (q:Q (.bl (isB x)) H):Ov K [x,.ty "bool"] H Q:=by
 unfold Ov
 cases x with
 | bl b=>exact⟨_,_,_,_,rfl,.bl b,Yk,q⟩
 | int i=>exact⟨_,_,_,_,rfl,.int i,aA,q⟩
 | _=>cases k
theorem lJ {K:YD} {H:Hp} {x:V} {Q:VK} (k:Kn H x) (q:Q (.bl (Jz H x).isSome) H):Ov K [x,.ty "tuple"] H Q:=by
 unfold Ov
 cases x with
 | non=>exact⟨_,_,_,_,rfl,.non,WW,q⟩
 | bl b=>exact⟨_,_,_,_,rfl,.bl b,W0,q⟩
 | int i=>exact⟨_,_,_,_,rfl,.int i,Yj,q⟩
 | str z=>exact⟨_,_,_,_,rfl,.str z,Yi,q⟩
 | ref a=>
  rcases k with⟨xs,e⟩|⟨xs,e⟩
  ·rw[jA e] at q
   exact⟨_,_,_,_,rfl,.lst e,WY,q⟩
  ·rw[Di e] at q
   exact⟨_,_,_,_,rfl,.tup e,Vt,q⟩
 | _=>exact k.elim
theorem UG:∀{bs:List Bool} {us:YE},Vals (bs.map V.bl) us->LSm.BoolsAre us bs
 | [],_,.nil=>.nil
 | b::r,_,.cons h t=>by
  cases (show _=Value.bool b from h)
  exact .cons b (UG t)
theorem Hu (hc:X.calm=true):FW X (.builtin "all") (λxs H Q=>∃(p:Addr) (bs:List Bool),xs=[.ref p]/\SqL X.K H p (bs.map V.bl)/\Q (.bl (bs.all id)) H):=by
 intro pins s σ H xs us Q I r h
 obtain⟨p,bs,rfl,hq,q⟩:=h
 obtain⟨u,rfl,rx⟩:=vals1 r
 cases rx
 obtain⟨its,rv,pl,hz⟩:=I.list hq
 have hb:=UG rv
 have hl:=pl.isList
 have hlt:p < s.heap.objs.size:=by obtain⟨_,e,_⟩:=hl;exact Qcf e
 refine call_all_walk (Qbr hl ?_)
 refine⟨s.heap.objs.size,[s.heap.objs.size,p],[s.heap.objs.size],its.toArray.size,_,_,λi=>(bs[i]?).getD true,rfl,Walks.list (A:=X.A.in1) (I.ok.hd hc) _ p (Qch hlt) its.toArray,
  ⟨⟨_,QaJ _ rfl,rfl,rfl⟩,hl.push _⟩,λi v s' Q' E' hP hQ=>?_,λh' tk hk=>?_⟩
 ·obtain⟨b,e,rfl⟩:=hb.get i v (by simpa using hP)
  simp only[e,Option.getD_some] at hQ
  exact Qbo hQ
 ·have e:((List.range its.toArray.size).all λi=>(bs[i]?).getD true)=bs.all id:=by
   rw[Qbi,hb.length];exact LSm.range_all bs
  rw[e]
  exact⟨.bl (bs.all id),H,I.kept (LSm.kept_iter hk),rfl,q⟩
def yg (K:YD):R2:=λx y H Q=>∃a b ys,x=.ref a/\y=.ref b/\SqT K H a []/\SqT K H b ys/\Q (.ref b) H
theorem qj:OpR X (binaryOp .Add) (yg X.K):=by
 intro pins s σ H x y v u Q I rx ry h
 obtain⟨a,b,ys,rfl,rfl,ha,hb,q⟩:=h
 cases rx
 cases ry
 obtain⟨its,r1,p1,_⟩:=I.tuple ha
 obtain⟨its2,r2,p2,_⟩:=I.tuple hb
 cases r1
 obtain⟨⟨cls,dd,data,sl⟩,ho,hc,n,hd⟩:=id p1
 obtain⟨⟨cls2,dd2,data2,sl2⟩,ho2,hc2,n2,hd2⟩:=id p2
 simp only at hc hd hc2 hd2
 subst hc hd hc2 hd2
 exact concat_meets ⟨_,ho,rfl⟩ ⟨_,ho2,rfl⟩ noFill_tuple_add seq_tuple_add PySem.F.slot_tuple_add PySem.F.entry_tuple_add (PySem.F.args_tuple_add_2 _ _)
  (tuple_addW0 a b #[] its2.toArray n n2 dd dd2 sl sl2 rfl) ⟨ho,ho2,⟨.ref b,H,I,rfl,q⟩⟩
theorem Qg:OpR X (binaryOp .Add) (λx y H Q=>∃a b xs ys,x=.ref a/\y=.ref b/\H a=some (.tup xs)/\H b=some (.tup ys)/\xs.length+ys.length<=sizeLine /\
  ∀p H',H' p=some (.tup (xs++ys))->Same H H'->Q (.ref p) H'):=by
 intro pins s σ H x y v u Q I rx ry h
 obtain⟨a,b,xs,ys,rfl,rfl,ha,hb,hz,q⟩:=h
 cases xs with
 | nil=>exact qj pins s σ H _ _ v u Q I rx ry ⟨a,b,ys,rfl,rfl,SqT.of ha,SqT.of hb,q b H hb (Same.refl H)⟩
 | cons x0 xr=>
  refine vp pins s σ H _ _ v u Q I rx ry ⟨a,b,x0::xr,ys,rfl,rfl,SqT.of ha,SqT.of hb,(λz=>by cases z),hz,λz=>?_,λz p hp=>?_⟩
  ·subst z
   exact q a H (by rw[QbG];exact ha) (Same.refl H)
  ·refine q p _ Ab λc o e=>?_
   rw[Am (Bb e hp)]
   exact e
mutual
inductive Rep (H:Hp):V->PyData->Prop
 | non:Rep H .non .none
 | bl (b:Bool):Rep H (.bl b) (.bool b)
 | int (i:Int):Rep H (.int i) (.int i)
 | str (x:Str):Rep H (.str x) (.str x)
 | tup {a:Addr} {xs:YG} {ds:List PyData}:H a=some (.tup xs)->LR H xs ds->Rep H (.ref a) (.tuple ds)
 | lst {a:Addr} {xs:YG} {ds:List PyData}:H a=some (.lst xs)->LR H xs ds->Rep H (.ref a) (.list ds)
inductive LR (H:Hp):YG->List PyData->Prop
 | nil:LR H [] []
 | cons {x:V} {d:PyData} {xs:YG} {ds:List PyData}:Rep H x d->LR H xs ds->LR H (x::xs) (d::ds)
end
mutual
theorem Rep.reads {P:Program} {w:World} {H:Hp} {h:Heap} (ok:HOk P w H h):∀{v:V} {d:PyData} {u:Value},Rep H v d->RelV v u->∃as,Reads h u d as
 | _,_,_,.non,r=>by cases (show _=Value.none from r);exact⟨_,.none⟩
 | _,_,_,.bl b,r=>by cases (show _=Value.bool b from r);exact⟨_,.bool b⟩
 | _,_,_,.int i,r=>by obtain⟨t,rfl⟩:=(show ∃t,_=Value.int i t from r);exact⟨_,.int i t⟩
 | _,_,_,.str x,r=>by obtain⟨t,rfl⟩:=(show ∃t,_=Value.str x t from r);exact⟨_,.str x t⟩
 | _,_,_,.tup (a:=a) (xs:=xs) e q,r=>by
  cases (show _=Value.ref a from r)
  obtain⟨_,its,rv,o,ho,hc,n,hd⟩:=(show Bv P w H h a (.tup xs) from ok a _ e)
  obtain⟨as,z⟩:=LR.reads ok q rv
  exact⟨_,.tuple ho hc hd (by simpa using z)⟩
 | _,_,_,.lst (a:=a) (xs:=xs) e q,r=>by
  cases (show _=Value.ref a from r)
  obtain⟨_,its,n,rv,ho⟩:=(show Bv P w H h a (.lst xs) from ok a _ e)
  obtain⟨as,z⟩:=LR.reads ok q rv
  exact⟨_,.list ho rfl rfl (by simpa using z)⟩
theorem LR.reads {P:Program} {w:World} {H:Hp} {h:Heap} (ok:HOk P w H h):∀{xs:YG} {ds:List PyData} {us:YE},LR H xs ds->Vals xs us->∃as,ReadsAll h us ds as
 | _,_,_,.nil,.nil=>⟨_,.nil⟩
 | _,_,_,.cons p q,.cons r t=>by
  obtain⟨as,a1⟩:=Rep.reads ok p r
  obtain⟨bs,b1⟩:=LR.reads ok q t
  exact⟨_,.cons a1 b1⟩
end
theorem Rr (hu:X.A.units+64 < cLine):OpR X (compareOp .NotEq) (λx y H Q=>∃d e,Rep H x d/\Rep H y e/\SeqAt.shaped d=true/\SeqAt.shaped e=true/\Q (.bl (!PyData.eqv d e)) H):=by
 intro pins s σ H x y v u Q I rx ry h
 obtain⟨d,e,p,p',sd,se,q⟩:=h
 obtain⟨as,r1⟩:=p.reads I.hok rx
 obtain⟨bs,r2⟩:=p'.reads I.hok ry
 exact ne_dataH r1 r2 sd se hu ⟨.bl (!PyData.eqv d e),H,I,rfl,q⟩
end
structure Code (K:YD) (mg:YB) (x:Str) (st:Stmt) (ps:YF):Prop where
 ex:∃(f:Addr) (fd:FuncData),Fun K x x st f fd/\mg x=some (.ref f)/\Binds K fd ps []
structure Good (P:Program) (w:World) (K:YD) (mg:YB) (base:Heap) (x:Str) (k:Nat) (ps:YF) (sp:Sp):Prop where
 ex:∃(f:Addr) (fd:FuncData),mg x=some (.ref f)/\keepIn K (.ref f)=true/\Binds K fd ps []/\GD P w K mg base CX0 k f fd ps sp
theorem Code.good {P:Program} {w:World} {K:YD} {mg:YB} {base:Heap} {x:Str} {st:Stmt} {ps N:YF} {k:Nat} {sp:Sp} (C:Code K mg x st ps) (S:Ax N ps (Aj st)) (len:∀vs H Q E,sp vs H Q E->vs.length=ps.length)
  (hbody:∀(f:Addr) (cdv:Value) (A:Around) (outer:List Env) (s:Shared) (H:Hp) (vs:YG) (Q:VK) (E:XK),CG k (A.deeper (envOfC x (Aj st) s.heap.objs.size f cdv))->sp vs H Q E ->
   ∃t,PSs (RK CX0 P w K mg base N x (Aj st) f cdv A outer s H E).nox (Dc st) t/\t { nx:=λ_ H'=>Q .non H',rt:=Q } (start N vs) H):Good P w K mg base x (k+1) ps sp:=by
 obtain⟨f,fd,F,m,b⟩:=C.ex
 exact⟨f,fd,m,F.kp,b,F.ok S len λcdv A outer s H vs Q E hr h=>hbody f cdv A outer s H vs Q E hr h⟩
theorem Aw {X:Cx} {k k':Nat} {ps:YF} {sp:Sp} {x:Str} {p pos:Pos} {e:Expr} {es:YJ} {t:TA} (g:Good X.prog X.w X.K X.mg X.base x k ps sp) (hr:CG k' X.A) (ha:PA X (e::es) t) (hk:k<=k':=by decide) (hg:Gl X x:=by rfl)
  (hdb:(x == ("__debug__":Str))=false:=by decide) (he:starEach (e::es) X.env=(false,eval e X.env)::starEach es X.env:=by rfl) (hpl:(backTo pos (starEach es X.env)).any (·.1)=false:=by rfl) :
  PE X (.Call (.Name x p) (e::es) [] pos) (sW sp [] E0 t):=by
 intro pins s σ H Q I h
 obtain⟨f,fd,m,kp,b,F⟩:=g.ex
 exact vo F (hr.mono hk) hg m kp b .nil Yr ha hdb he hpl pins s σ H Q I h
theorem Code.of {K:YD} {mg:YB} {h:Heap} {x:Str} {st:Stmt} {ps:YF} {f:Addr} {oc:Value} {od an:Option Addr} {osl:YI} {kV doc pm cdv ct:Value} (X:K.In h) (G:h.Ns mainGlobals mg)
  (a:nsIn K mainGlobals x=some (some (.ref f))) (l:K.lookup f=some ⟨oc,od,.func (fnOf x x (DY st) (Dc st) (Aj st) .none kV doc pm an cdv ct),osl⟩) (c:codeIn K cdv x=true) (k:keepIn K (.ref f)=true)
  (hb:∀(kV doc pm:Value) (an:Option Addr) (cdv ct:Value) (us:YE),us.length=ps.length->bindArgs (fnOf x x (DY st) (Dc st) (Aj st) .none kV doc pm an cdv ct) ⟨us,[]⟩=pure (ps.zip us)):Code K mg x st ps:=by
 have F:=VJ (st:=st) l c k
 exact⟨f,_,F,mg_of X G a,F.binds hb⟩
theorem Ae {H:Hp} {p:Addr} (h:H p=none) (o:HO):Same H (upd H p o):=λb u q=>by rw[Am (Bb q h)];exact q
theorem Bg.plain {X:Cx} {N':YF} {sc:Scope} (kind:sc.kind=.function) (Iv:∀y∈sc.names,y.2≠.cell) (loc:∀y∈sc.names,y.2=.local->sc.names.lookup y.1=some .local) (Z5:∀y∈sc.names,y.2≠.free) :
  Bg X N' (N'.map λ_=>none) sc where
 kind:=kind
 Iv:=Iv
 loc:=loc
 fv:=λy hy e=>absurd e (Z5 y hy)
 len:=by simp
 src:=λi x j _ e=>by
  rw[Qbk] at e
  cases q:N'[i]? with
  | none=>rw[q] at e;cases e
  | some z=>rw[q] at e;cases e
theorem Uy {K:YD} {a l:Addr} {xs:YG} {g:TG} {tt:TT} {te:TE} {Q:VK} {σ0:St} {H0:Hp} (Pv:YN)
  (h0:Pv 0 σ0 H0) (hl:∀i σ H',i<=xs.length->Pv i σ H'->SqT K H' a xs)
  (hs:∀i x σ H',xs[i]?=some x->Pv i σ H'->g x σ H' fun σ3 H3=>tt σ3 H3 λb H4=>if b=true then te σ3 H4 λy H5=>∃ys,H5 l=some (.lst ys)/\ys.length < sizeLine/\Pv (i+1) σ3 (upd H5 l (.lst (ys++[y]))) else Pv (i+1) σ3 H4)
  (hd:∀ σ H',Pv xs.length σ H'->Q (.ref l) H'):FZ (Itt K a) g tt te Q σ0 H0 l:=by
 unfold FZ
 refine⟨λi m σ H'=>m=xs.length - i/\i<=xs.length/\Pv i σ H',⟨xs.length,by simp,Qco _,h0⟩,?_⟩
 rintro i m σ H' ⟨rfl,hi,p⟩
 have q:=hl i σ H' hi p
 by_cases hlt:i < xs.length
 ·refine .inr ⟨⟨xs,xs[i],q,by simp[hlt]⟩,Pv (i+1),fun σ3 H3 p'=>⟨xs.length - (i+1),by omega,rfl,hlt,p'⟩,λx H2 y=>?_⟩
  obtain⟨e,y⟩:=y
  subst e
  exact hs i x σ _ (y xs q) p
 ·have e:i=xs.length:=by omega
  subst e
  exact .inl ⟨⟨xs,q,Qcn _⟩,hd σ H' p⟩
theorem FQ {K:YD} {a l:Addr} {xs:YG} {g:TG} {tt:TT} {te:TE} {Q:VK} {σ0:St} {H0:Hp} (Pv:YN)
  (h0:Pv 0 σ0 H0) (hl:∀i σ H',i<=xs.length->Pv i σ H'->SqL K H' a xs)
  (hs:∀i x σ H',xs[i]?=some x->Pv i σ H'->g x σ H' fun σ3 H3=>tt σ3 H3 λb H4=>if b=true then te σ3 H4 λy H5=>∃ys,H5 l=some (.lst ys)/\ys.length < sizeLine/\Pv (i+1) σ3 (upd H5 l (.lst (ys++[y]))) else Pv (i+1) σ3 H4)
  (hd:∀ σ H',Pv xs.length σ H'->Q (.ref l) H'):FZ (Itl K a) g tt te Q σ0 H0 l:=by
 unfold FZ
 refine⟨λi m σ H'=>m=xs.length - i/\i<=xs.length/\Pv i σ H',⟨xs.length,by simp,Qco _,h0⟩,?_⟩
 rintro i m σ H' ⟨rfl,hi,p⟩
 have q:=hl i σ H' hi p
 by_cases hlt:i < xs.length
 ·refine .inr ⟨⟨xs,xs[i],q,by simp[hlt]⟩,Pv (i+1),fun σ3 H3 p'=>⟨xs.length - (i+1),by omega,rfl,hlt,p'⟩,λx H2 y=>?_⟩
  obtain⟨e,y⟩:=y
  subst e
  exact hs i x σ _ (y xs q) p
 ·have e:i=xs.length:=by omega
  subst e
  exact .inl ⟨⟨xs,q,Qcn _⟩,hd σ H' p⟩
theorem JX {lo:Int} {n:Nat} {l:Addr} {g:TG} {tt:TT} {te:TE} {Q:VK} {σ0:St} {H0:Hp} (Pv:YN) (h0:Pv 0 σ0 H0)
  (hs:∀i σ H',i < n->Pv i σ H'->g (.int (lo+i)) σ H' fun σ3 H3=>tt σ3 H3 λb H4=>if b=true then te σ3 H4 λy H5=>∃ys,H5 l=some (.lst ys)/\ys.length < sizeLine/\Pv (i+1) σ3 (upd H5 l (.lst (ys++[y]))) else Pv (i+1) σ3 H4)
  (hd:∀ σ H',Pv n σ H'->Q (.ref l) H'):FZ (Itr lo n) g tt te Q σ0 H0 l:=by
 unfold FZ
 refine⟨λi m σ H'=>m=n - i/\i<=n/\Pv i σ H',⟨n,by simp,Qco _,h0⟩,?_⟩
 rintro i m σ H' ⟨rfl,hi,p⟩
 by_cases hlt:i < n
 ·refine .inr ⟨hlt,Pv (i+1),fun σ3 H3 p'=>⟨n - (i+1),by omega,rfl,hlt,p'⟩,λx H2 y=>?_⟩
  obtain⟨e,y⟩:=y
  subst e y
  exact hs i σ _ hlt p
 ·have e:i=n:=by omega
  subst e
  exact .inl ⟨Qcn _,hd σ H' p⟩
section
variable {X:Cx}
theorem XM (hc:X.calm=true):FW X (.builtin "max") (λxs H Q=>∃(p:Addr) (ns:List Int),xs=[.ref p]/\SqL X.K H p (ns.map V.int)/\0 < ns.length/\∀M,M∈ns->(∀a,a∈ns->a<=M)->Q (.int M) H):=by
 intro pins s σ H xs us Q I r h
 obtain⟨p,ns,rfl,hq,hne,q⟩:=h
 obtain⟨u,rfl,rx⟩:=vals1 r
 cases rx
 obtain⟨its,rv,pl,hz⟩:=I.list hq
 have hi:IntsAre its ns:=intsAre_of rv
 obtain⟨zs,e⟩:=hi.allInts.items
 have hl:=pl.isList
 rw[e] at hl
 have hns:ns=zs.toList.map (·.1):=by rw[<-hi.numsOf,<-nums_intItems,<-e]
 have hsz:0 < zs.size:=by
  have h3:=hne
  rw[hns,QbB,QaN] at h3
  exact h3
 refine max_intList (I.ok.hd hc) hl hsz λv h' tk hv hk=>?_
 obtain⟨t,rfl⟩:=intItems_at hv
 obtain⟨_,h2⟩:=argBest_gt (numAt zs) (zs.size - 1)
 refine⟨.int _,H,I.kept hk,⟨t,rfl⟩,q _ ?_ λa ha=>?_⟩
 ·rw[hns,numAt_eq]
  exact getD_mem (by rw[QbB,QaN];have:=(argBest_gt (numAt zs) (zs.size - 1)).1;omega)
 ·rw[hns] at ha
  obtain⟨j,hj,rfl⟩:=mem_getD ha
  rw[QbB,QaN] at hj
  rw[<-numAt_eq]
  exact h2 j (by omega)
theorem lN:∀{us:YE} {ns:List Int},IntsAre us ns->Vals (ns.map V.int) us:=λh=>QV h
theorem bh:FW X (.builtin "sorted") (λxs H Q=>∃(p:Addr) (ns:List Int),xs=[.ref p]/\SqL X.K H p (ns.map V.int)/\ns.length < 64 /\
  ∀(ms:List Int) l,ms.Perm ns->ms.Pairwise (·<=·)->H l=none->Q (.ref l) (upd H l (.lst (ms.map V.int)))):=by
 intro pins s σ H xs us Q I r h
 obtain⟨p,ns,rfl,hq,h64,q⟩:=h
 obtain⟨u,rfl,rx⟩:=vals1 r
 cases rx
 obtain⟨its,rv,pl,hz⟩:=I.list hq
 have hi:IntsAre its ns:=intsAre_of rv
 have hlen:=hi.length
 refine sorted_ints pl.isList hi (by omega) λout ms a1 a2 a3=>?_
 obtain⟨e,he⟩:=sortedAll_at s.heap its out
 have hml:=a2.length_eq
 refine⟨.ref (s.heap.objs.size+1),_,I.laid (t':=s.toks) (o:=.lst (ms.map V.int)) (λb o q=>sortedAll_old q) (Qct _) ?_,rfl,q ms _ a2 a3 (I.hok.fresh (Qct _))⟩
 exact⟨by rw[QbB];exact Qcl (Aq (by omega)),out.toList,e,lN a1,he⟩
theorem cY:∀{ys:YF} {us:YE},Vals (ys.map V.str) us->StrsAre us ys
 | [],_,.nil=>.nil
 | y::r,_,.cons h t=>by
  obtain⟨t',e⟩:=(show ∃t,_=Value.str y t from h)
  cases e
  exact .cons y t' (cY t)
def rJoin (K:YD):V->YG->Hp->VK->Prop:=λx vs H Q=>∃(z:Str) (p:Addr) (ys:YF),x=.str z/\vs=[.ref p]/\SqL K H p (ys.map V.str)/\(ys.map (·.length)).sum+ys.length*z.length<=16777216/\Q (.str (Txt.join z ys)) H
theorem vM:MtR X "str.join" (rJoin X.K):=by
 intro pins s σ H x vs v us Q I rx rv h
 obtain⟨z,p,ys,rfl,rfl,hq,hz,q⟩:=h
 obtain⟨t,rfl⟩:=rx
 obtain⟨u,rfl,ru⟩:=rv.one
 cases ru
 obtain⟨its,r',pl,_⟩:=I.list hq
 exact join_list pl.isList (cY r') hz λt' k=>⟨.str (Txt.join z ys),H,I.tok k,⟨t',rfl⟩,q⟩
def Its (z:Str):It:=⟨λi _=>i < z.cps.size,λi H x H'=>H'=H/\∃c,z.cps[i]?=some c/\x=.str ⟨#[c]⟩,λi _=>i=z.cps.size⟩
def EV (tl:TE):TI:=fun σ H R=>tl σ H λx H1=>∃z,x=.str z/\R (Its z) H1
end
section
variable {X:Cx} {tg:Expr}
theorem Yy {P:Program} {w:World} {K:YD} {tg:Expr} (z:Str) (t:Tok) (it:Addr) (ty:String) (hty:["enumerate","zip","dict_itemiterator","dict_reverseitemiterator","odict_iterator","itertools.zip_longest","itertools.pairwise"].contains ty=false)
  (W:∀A':Around,A'.handled=none->Walks P w A' it [it] [it] z.cps.size (SignAt z) (λi h=>h.IsStrIter it ty z t i))
  (hself:∀(A:Around) (i:Nat) (s:Shared) (Q:YA) (E:YA),s.heap.IsStrIter it ty z t i->Q (.ref it) s->wpAny (model P w) A (pyIter (.ref it)) Q E s) :
  Turn P w K tg (Its z) [it] it (λi h=>h.IsStrIter it ty z t i) where
 mem:=QaX.mpr rfl
 obj:=λi h st b hb=>by
  cases QaX.mp hb
  obtain⟨o,e,c,d⟩:=st
  exact⟨o,e,λv z'=>by rw[d] at z';cases z'⟩
 keep:=λi h h' st k=>by
  obtain⟨o,e,r⟩:=st
  exact⟨o,k it (QaX.mpr rfl) o e,r⟩
 item:=by
  intro X hP hw hK hc i pins s σ H E I hf st hg
  subst hP hw hK
  obtain⟨f0,f1,f2,f3,f4,f5⟩:=hf it (QaX.mpr rfl)
  refine (W X.A (I.ok.hd hc)).item i s _ _ hg st λv h' tk hv st' kk=>?_
  obtain⟨c,u,hcu,rfl⟩:=hv
  have I1:Inv X pins σ H { s with heap:=h',toks:=tk }:=I.turned (λb o hb e=>kk b o (λhm=>hb (QaX.mp hm)) e) f0 f1 f3 f4 f5
  obtain⟨o,e,cl,d⟩:=id st'
  exact⟨_,rfl,VD (s:={ s with heap:=h',toks:=tk }) e cl d hty ⟨.str ⟨#[c]⟩,H,I1,⟨u,rfl⟩,⟨rfl,c,hcu,rfl⟩,st',λb hb=>(hf b hb).1⟩⟩
 done:=by
  intro X hP hw hK hc i pins s σ H E I hf st hg
  subst hP hw hK
  obtain⟨f0,f1,f2,f3,f4,f5⟩:=hf it (QaX.mpr rfl)
  cases (show i=z.cps.size from hg)
  exact (W X.A (I.ok.hd hc)).done s _ _ st λh' tk kk=>⟨rfl,I.turned (λb o hb e=>kk b o (λhm=>hb (QaX.mp hm)) e) f0 f1 f3 f4 f5⟩
 self:=λA i s Q E st h=>hself A i s Q E st h
theorem jZ {l:Expr} {tl:TE} (hl:PE X l tl):PI X tg l (EV tl):=by
 intro pins s σ H R I h
 refine thn (hl pins s σ H _ I h) λv s1 zz=>?_
 obtain⟨x,H1,I1,r1,z,e,q⟩:=zz
 subst e
 obtain⟨t,rfl⟩:=r1
 have fp:∀o:Obj,∀b∈[s1.heap.objs.size],Gv X pins H1 b:=λo b hb=>by
  cases QaX.mp hb
  exact I1.Qu (Qcn _) (I1.hok.fresh (Qcn _))
 cases ha:z.cps.all (· < 128) with
 | true=>
  refine wpAny_pyIter_ascii ha ?_
  exact⟨s1.heap.objs.size,[s1.heap.objs.size],_,_,H1,rfl,I1.kept (t':=s1.toks) λb o e=>Qav _ e,Yy z t _ "str_ascii_iterator" (by decide) (λA' hA=>Walks.strAscii hA _ z t) (λ_ _ _ _ _ st h=>wpAny_pyIter_striter_ascii st h),
   ⟨_,QaJ _ rfl,rfl,rfl⟩,fp { cls:=.none,data:=.fields #[] },q⟩
 | false=>
  refine wpAny_pyIter_wide ha ?_
  exact⟨s1.heap.objs.size,[s1.heap.objs.size],_,_,H1,rfl,I1.kept (t':=s1.toks) λb o e=>Qav _ e,Yy z t _ "str_iterator" (by decide) (λA' hA=>Walks.strWide hA _ z t) (λ_ _ _ _ _ st h=>wpAny_pyIter_striter_wide st h),
   ⟨_,QaJ _ rfl,rfl,rfl⟩,fp { cls:=.none,data:=.fields #[] },q⟩
theorem aW {z:Str} {l:Addr} {g:TG} {tt:TT} {te:TE} {Q:VK} {σ0:St} {H0:Hp} (Pv:YN) (h0:Pv 0 σ0 H0)
  (hs:∀i c σ H',z.cps[i]?=some c->Pv i σ H'->g (.str ⟨#[c]⟩) σ H' fun σ3 H3=>tt σ3 H3 λb H4=>if b=true then te σ3 H4 λy H5=>∃ys,H5 l=some (.lst ys)/\ys.length < sizeLine/\Pv (i+1) σ3 (upd H5 l (.lst (ys++[y]))) else Pv (i+1) σ3 H4)
  (hd:∀ σ H',Pv z.cps.size σ H'->Q (.ref l) H'):FZ (Its z) g tt te Q σ0 H0 l:=by
 unfold FZ
 refine⟨λi m σ H'=>m=z.cps.size - i/\i<=z.cps.size/\Pv i σ H',⟨z.cps.size,by simp,Qco _,h0⟩,?_⟩
 rintro i m σ H' ⟨rfl,hi,p⟩
 by_cases hlt:i < z.cps.size
 ·refine .inr ⟨hlt,Pv (i+1),fun σ3 H3 p'=>⟨z.cps.size - (i+1),by omega,rfl,hlt,p'⟩,λx H2 y=>?_⟩
  obtain⟨e,c,hc,rfl⟩:=y
  subst e
  exact hs i c σ _ hc p
 ·have e:i=z.cps.size:=by omega
  subst e
  exact .inl ⟨rfl,hd σ H' p⟩
end
end L2
namespace HT
open PySem PyProof.Rows
section
variable {prog:Program} {w:World} {A:Around} {E:YA} {s:Shared}
theorem TF {t sl:Addr} {items:Array Value} {vl vu:Value} {lo hi:Option Int} {Q:YA} (ht:IsTup s.heap t items) (hs:s.heap.IsSliceOf sl vl vu .none) (pl:IsPart vl lo) (pu:IsPart vu hi)
  (hw:sIx items.size 0 lo=0/\sIx items.size items.size hi=items.size) (h:Q (.ref t) s):wpAny (model prog w) A (getItem (.ref t) (.ref sl)) Q E s:=by
 obtain⟨os,hos,hcs,hds⟩:=id hs
 have hTs:s.TypeIs (.ref sl) "slice":=⟨os,hos,hcs⟩
 unfold getItem
 try with_reducible refine Qca ?_
 first | refine Qcu (Qcv ?_) | skip
 refine Qcu (wpAny_sequenceKey ht.typeIs (by decide) ?_)
 refine Qcu (Qaq (name:=Str.ofString "__getitem__") ht.typeIs Qab (Qbw Qab ht.typeIs entry_tuple_getitem ?_ (args_tuple_getitem _ _)))
 show wpAny _ _ (Builtin.Tuple.tupleItemsOf (.ref t) >>= _) _ _ s
 refine Qcu (tupleItemsOf_ ht ?_)
 refine Qcu (wpAny_typeOf hTs ?_)
 rw[if_pos (by decide)]
 refine Qcu (M5 hs pl pu ?_)
 rw[hw.1,hw.2]
 show wpAny _ _ (if (((0:Nat):Int) == 0&&(1:Int) == 1&&(items.size - 0) == items.size)=true then _ else _) _ _ s
 rw[if_pos (by simp)]
 refine Qcu ?_
 unfold Builtin.Tuple.tupleIsExact
 refine Qcu (wpAny_typeOf ht.typeIs (Qcv ?_))
 rw[if_pos (by decide)]
 exact Qcu (wpAny_rule (Qcv ⟨_,rfl,Qcv h⟩))
end
end HT
namespace L2
open PySem PySem.Spec PyProof.Rows
section
variable {X:Cx}
theorem Wi:SlR X (λx lo hi H Q=>∃a xs,x=.ref a/\H a=some (.tup xs)/\∀p H',H' p=some (.tup (Jm xs lo hi))->Same H H'->Q (.ref p) H'):=by
 intro pins s σ H x v vl vu lo hi sl Q I rx hs pl pu h
 obtain⟨a,xs,rfl,hx,q⟩:=h
 by_cases hw:HT.sIx xs.length 0 lo=0/\HT.sIx xs.length xs.length hi=xs.length
 ·cases rx
  obtain⟨its,r,ht,hz⟩:=I.tuple (SqT.of hx)
  have hlen:its.toArray.size=xs.length:=by rw[Qbi];exact r.length.symm
  refine⟨"tuple",_,Qab.lookup,ht.typeIs,?_⟩
  refine HT.TF ht hs pl pu (by rw[hlen];exact hw) ⟨.ref a,H,I,rfl,q a H ?_ (Same.refl H)⟩
  have e:Jm xs lo hi=xs:=by unfold Jm;rw[hw.1,hw.2];simp
  rw[e]
  exact hx
 ·exact xT pins s σ H _ v vl vu lo hi sl Q I rx hs pl pu ⟨a,xs,rfl,SqT.of hx,hw,λp hp=>q p _ Ab (λc o e=>by rw[Am (Bb e hp)];exact e)⟩
theorem jN:SlR X (λx lo hi H Q=>∃z,x=.str z/\z.length<=sizeLine/\Q (.str (Txt.slice z lo hi)) H):=by
 intro pins s σ H x v vl vu lo hi sl Q I rx hs pl pu h
 obtain⟨z,rfl,hz,q⟩:=h
 obtain⟨t,rfl⟩:=rx
 refine⟨"str",_,F.slot_str_getitem.lookup,typeIs_str _ _ _,?_⟩
 have fin:∀t' k,EP X pins σ Q (.str (Txt.slice z lo hi) t') { s with toks:=k }:=λt' k=>⟨.str (Txt.slice z lo hi),H,I.tok k,⟨t',rfl⟩,q⟩
 cases pl with
 | none=>
  cases pu with
  | none=>exact Qau (l:=none) (u:=none) (st:=none) hs rfl (post_val_or_str ⟨Qci (Txt.slice_le z _ _) hz,fin⟩)
  | int j tj=>exact Qau (l:=none) (u:=some (j,tj)) (st:=none) hs rfl (post_val_or_str ⟨Qci (Txt.slice_le z _ _) hz,fin⟩)
 | int i ti=>
  cases pu with
  | none=>exact Qau (l:=some (i,ti)) (u:=none) (st:=none) hs rfl (post_val_or_str ⟨Qci (Txt.slice_le z _ _) hz,fin⟩)
  | int j tj=>exact Qau (l:=some (i,ti)) (u:=some (j,tj)) (st:=none) hs rfl (post_val_or_str ⟨Qci (Txt.slice_le z _ _) hz,fin⟩)
end
structure Jc (K:YD) (C:Addr) (m qn:Str) (st:Stmt) (ps:YF):Prop where
 ex:∃(f:Addr) (fd:FuncData),Fun K m qn st f fd/\Meth K C m f/\Binds K fd ps []
structure Dn (P:Program) (w:World) (K:YD) (mg:YB) (base:Heap) (C:Addr) (m:Str) (k:Nat) (ps:YF) (sp:Sp):Prop where
 ex:∃(f:Addr) (fd:FuncData),Meth K C m f/\Binds K fd ps []/\GD P w K mg base CX0 k f fd ps sp
structure jr (P:Program) (w:World) (K:YD) (mg:YB) (base:Heap) (C:Addr) (k:Nat) (ps:YF) (sp:Sp):Prop where
 ex:∃(f:Addr) (fd:FuncData),Mk K C f/\Binds K fd ps []/\GD P w K mg base CX0 k f fd ps sp
theorem Jc.good {P:Program} {w:World} {K:YD} {mg:YB} {base:Heap} {C:Addr} {m qn:Str} {st:Stmt} {ps N:YF} {k:Nat} {sp:Sp} (c:Jc K C m qn st ps) (S:Ax N ps (Aj st)) (len:∀vs H Q E,sp vs H Q E->vs.length=ps.length)
  (hbody:∀(f:Addr) (cdv:Value) (A:Around) (outer:List Env) (s:Shared) (H:Hp) (vs:YG) (Q:VK) (E:XK),CG k (A.deeper (envOfC qn (Aj st) s.heap.objs.size f cdv))->sp vs H Q E ->
   ∃t,PSs (RK CX0 P w K mg base N qn (Aj st) f cdv A outer s H E).nox (Dc st) t/\t { nx:=λ_ H'=>Q .non H',rt:=Q } (start N vs) H):Dn P w K mg base C m (k+1) ps sp:=by
 obtain⟨f,fd,F,M,b⟩:=c.ex
 exact⟨f,fd,M,b,F.ok S len λcdv A outer s H vs Q E hr h=>hbody f cdv A outer s H vs Q E hr h⟩
theorem JL {X:Cx} {pl:Sem Bool} {k k':Nat} {C:Addr} {ps:YF} {sp:Sp} {m:Str} {apos pos:Pos} {o e:Expr} {es:YJ} {ta:TE} {t:TA} (he:PE X o ta) (c:Cls X.K C) (g:Dn X.prog X.w X.K X.mg X.base C m k ps sp) (hr:CG k' X.A) (ha:PA X (e::es) t) (hk:k<=k':=by decide)
  (hst:starEach (e::es) X.env=(false,eval e X.env)::starEach es X.env:=by rfl) (hpl:(backTo pos (starEach es X.env)).any (·.1)=false:=by rfl)
  (ht:eval (.Call (.Attribute o m apos) (e::es) [] pos) X.env=(do
   let ov <-eval o X.env
   standAt apos.atName
   let (f,first) <-holding [ov] (getMethod ov m pl)
   callWith pos f first (backTo pos (starEach (e::es) X.env)) (backToKw pos (keywordEach [] X.env))):=by rfl) :
  PE X (.Call (.Attribute o m apos) (e::es) [] pos) (Yp C m sp [] E0 ta t):=by
 intro pins s σ H Q I h
 obtain⟨f,fd,M,b,F⟩:=g.ex
 exact vf (pl:=pl) he c M F (hr.mono hk) b .nil Yr ha hst hpl ht pins s σ H Q I h
theorem Rm {X:Cx} {pl:Sem Bool} {k k':Nat} {C:Addr} {ps:YF} {sp:Sp} {m:Str} {apos pos:Pos} {o:Expr} {ta:TE} (he:PE X o ta) (c:Cls X.K C) (g:Dn X.prog X.w X.K X.mg X.base C m k ps sp) (hr:CG k' X.A) (hk:k<=k':=by decide)
  (ht:eval (.Call (.Attribute o m apos) [] [] pos) X.env=(do
   let ov <-eval o X.env
   standAt apos.atName
   let (f,first) <-holding [ov] (getMethod ov m pl)
   callWith pos f first (backTo pos (starEach [] X.env)) (backToKw pos (keywordEach [] X.env))):=by rfl) :
  PE X (.Call (.Attribute o m apos) [] [] pos) (Yp C m sp [] E0 ta gq):=by
 intro pins s σ H Q I h
 obtain⟨f,fd,M,b,F⟩:=g.ex
 exact pY (pl:=pl) he c M F (hr.mono hk) b .nil Yr ht pins s σ H Q I h
theorem AU {X:Cx} {k k':Nat} {C:Addr} {ps:YF} {sp:Sp} {x:Str} {p pos:Pos} {e:Expr} {es:YJ} {t:TA} (g:jr X.prog X.w X.K X.mg X.base C k ps sp) (hr:CG k' X.A) (hm:X.mg x=some (.ref C)) (ha:PA X (e::es) t) (hk:k+1<=k':=by decide) (hg:Gl X x:=by rfl)
  (hdb:(x == ("__debug__":Str))=false:=by decide) (he:starEach (e::es) X.env=(false,eval e X.env)::starEach es X.env:=by rfl) (hpl:(backTo pos (starEach es X.env)).any (·.1)=false:=by rfl) :
  PE X (.Call (.Name x p) (e::es) [] pos) (sJ C sp [] E0 t):=by
 intro pins s σ H Q I h
 obtain⟨f,fd,M,b,F⟩:=g.ex
 exact vg M F (hr.mono hk) hg hm b .nil Yr ha hdb he hpl pins s σ H Q I h
theorem Ro {X:Cx} {x:Str} {v:V} {pos:Pos} (hg:Gl X x) (hm:∃u,X.mg x=some u/\RelV v u) (hd:(x == ("__debug__":Str))=false:=by decide):PE X (.Name x pos) (tC v):=by
 obtain⟨u,h,r⟩:=hm
 exact vm hg h r hd
theorem RD:∀{fs:List (Str×V)} {i:Nat} {f:Str} {v:V},(fs.map (·.1)).Nodup->fs[i]?=some (f,v)->fs.lookup f=some v
 | [],_,_,_,_,h=>by simp at h
 | (g,u)::fs,0,f,v,_,h=>by simp at h;obtain⟨rfl,rfl⟩:=h;simp[List.lookup]
 | (g,u)::fs,i+1,f,v,hn,h=>by
  rw[QbY,QbK] at hn
  have h':fs[i]?=some (f,v):=by simpa using h
  have hm:f∈fs.map (·.1):=Qcg.mpr ⟨(f,v),QaF h',rfl⟩
  have hne:(f == g)=false:=QaK.mpr λe=>hn.1 (e ▸ hm)
  rw[List.lookup,hne]
  exact RD hn.2 h'
theorem um:∀{fs:List (Str×V)} {m:Str},m∉fs.map (·.1)->fs.lookup m=none
 | [],_,_=>rfl
 | (g,u)::fs,m,h=>by
  rw[QbY,QbX] at h
  have hne:(m == g)=false:=QaK.mpr λe=>h (.inl e)
  rw[List.lookup,hne]
  exact um λz=>h (.inr z)
theorem RB {y:V}:∀{fs:List (Str×V)} {f:Str},f∉fs.map (·.1)->G4 f y fs=fs++[(f,y)]
 | [],_,_=>rfl
 | (g,u)::fs,f,h=>by
  rw[QbY,QbX] at h
  show (if g=f then (g,y)::fs else (g,u)::G4 f y fs)=_
  rw[if_neg λe=>h (.inl e.symm),RB λz=>h (.inr z)]
  rfl
def Al (H H':Hp):Prop:=∀c xs,H c=some (.tup xs)->H' c=some (.tup xs)
theorem Al.trans {H H1 H2:Hp} (a:Al H H1) (b:Al H1 H2):Al H H2:=λc xs e=>b c xs (a c xs e)
theorem Al.of {H H1:Hp} (s:Same H H1):Al H H1:=λc xs e=>s c _ e
theorem Al.upd {H:Hp} {b:Addr} {o:HO} (h:∀xs,H b≠some (.tup xs)):Al H (upd H b o):=λc xs e=>by
 have n:c≠b:=λz=>h xs (z ▸ e)
 rw[Am n]
 exact e
def Ag (b:Addr) (H H':Hp):Prop:=∀c o,H c=some o->c≠b->H' c=some o
theorem Ag.trans {b:Addr} {H H1 H2:Hp} (x:Ag b H H1) (y:Ag b H1 H2):Ag b H H2:=λc o e n=>y c o (x c o e n) n
theorem Ag.of {b:Addr} {H H1:Hp} (x:Same H H1):Ag b H H1:=λc o e _=>x c o e
theorem Ag.refl (b:Addr) (H:Hp):Ag b H H:=λ_ _ e _=>e
theorem Ag.upd {b:Addr} {H:Hp} {o:HO}:Ag b H (upd H b o):=λc u e n=>by rw[Am n];exact e
theorem Ag.tup {b:Addr} {H H':Hp} (x:Ag b H H') (h:∀xs,H b≠some (.tup xs)):Al H H':=λc xs e=>x c _ e λz=>h xs (z ▸ e)
theorem Ag.free {b:Addr} {H H':Hp} (x:Ag b H H') (hb:∃o,H' b=some o) {l:Addr} (h:H' l=none):H l=none:=by
 cases e:H l with
 | none=>rfl
 | some o=>
  by_cases n:l=b
  ·obtain⟨o',e'⟩:=hb
   rw[n,e'] at h
   cases h
  ·rw[x l o e n] at h
   cases h
def AO (K:YD) (ta tv:TE) (f:Str):TS:=λD σ H=>tv σ H λy H1=>ta σ H1 λx H2=>∃a C dx fs fs',x=.ref a/\H2 a=some (.ins C dx fs)/\Cls K C/\IV K C f/\fs.length < 1000/\G4 f y fs=fs' /\
 ∀H',H' a=some (.ins C dx fs')->Ag a H2 H'->D.nx σ H'
section
variable {X:Cx} {o e value:Expr} {f:Str} {pos pos' tpos:Pos} {ta tv:TE}
theorem PE.weak {ta ta':TE} (h:PE X e ta) (i:∀ σ H Q,ta' σ H Q->ta σ H Q):PE X e ta':=λpins s σ H Q I q=>h pins s σ H Q I (i σ H Q q)
theorem Sx (ha:PE X o ta) (hv:PE X value tv) (hs:swapsWith value (some (.Attribute o f pos')) pos.line X.env=pure false):PS X (.Assign [.Attribute o f pos'] value pos) (AO X.K ta tv f):=by
 intro pins s σ H D I h
 refine plainObj_wpAny_Assign_Attribute (thn (hv pins s σ H _ I h) λu s1 zz=>?_) hs
 obtain⟨y,H1,I1,ry,q⟩:=zz
 refine thn (ha pins s1 σ H1 _ I1 q) λov s2 zz=>?_
 obtain⟨x,H2,I2,rx,a,C,dx,fs,fs',ex,ea,c,n,l,ep,q2⟩:=zz
 subst ex
 obtain rfl:ov=Value.ref a:=rx
 refine gD I2 ea c n l ry λs3 I3=>⟨σ,_,I3,q2 _ ?_ Ag.upd⟩
 rw[Ab,ep]
end
theorem PS.weak {X:Cx} {s:Stmt} {t t':TS} (h:PS X s t) (i:∀D σ H,t' D σ H->t D σ H):PS X s t':=λpins sh σ H D I q=>h pins sh σ H D I (i D σ H q)
section
variable {X:Cx} {K:YD}
theorem SQ (h:X.K=K):IxR X (yd K):=h ▸ Bu
theorem Vk (h:X.K=K):OpR X (compareOp .In) (rIn K false):=h ▸ Rt
theorem QH (h:X.K=K):OpR X (compareOp .NotIn) (rIn K true):=h ▸ ZQ
theorem dX {e:Expr} {f:Str} {pos:Pos} {ta:TE} (h:X.K=K) (he:PE X e ta) (hb:attributeBase e f X.env (eval e X.env)=eval e X.env):PE X (.Attribute e f pos) (wZ K ta f):=h ▸ Df he hb
end
end L2
namespace PySem
open Sem (wp)
section
variable {prog:Program} {w:World} {A:Around} {E:YA} {s:Shared}
end
end PySem
namespace L2
open PySem PySem.Spec PyProof.Rows
section
variable {X:Cx} {pos:Pos}
end
structure Has (H:Hp) (l:List (Addr×HO)):Prop where
 nd:(l.map (·.1)).Nodup
 at_:∀x∈l,H x.1=some x.2
theorem Has.A0 {H:Hp} {l:List (Addr×HO)} {a:Addr} (h:Has H l) (e:H a=none):a∉l.map (·.1):=λz=>by
 obtain⟨x,hx,rfl⟩:=Qcg.mp z
 rw[h.at_ x hx] at e
 cases e
theorem Has.new {H H':Hp} {l:List (Addr×HO)} {a:Addr} {o:HO} (h:Has H l) (n:H a=none) (s:Same H H') (e:H' a=some o):Has H' (l++[(a,o)]):=by
 refine⟨?_,λx hx=>?_⟩
 ·rw[QbD,List.nodup_append]
  refine⟨h.nd,by simp,λx hx y hy z=>?_⟩
  have:y=a:=by simpa using hy
  subst this
  exact h.A0 n (z ▸ hx)
 ·rcases QbC.mp hx with z | z
  ·exact s _ _ (h.at_ x z)
  ·have:x=(a,o):=by simpa using z
   subst this
   exact e
theorem Has.nil (H:Hp):Has H []:=⟨QbU,λx hx=>by cases hx⟩
theorem Same.Bm {H0 H H':Hp} {a:Addr} (s:Same H0 H) (b:Ag a H H') (f:H0 a=none):Same H0 H':=λc o e=>b _ _ (s _ _ e) λz=>by rw[z,f] at e;cases e
section
variable {κ : Type} [DecidableEq κ]
def DK (kvs:List (κ×V)) (k:κ):Option V:=(kvs.find? λkv=>decide (kv.1=k)).map (·.2)
def putK (kvs:List (κ×V)) (k:κ) (v:V):List (κ×V):=
 if (kvs.any λkv=>decide (kv.1=k))=true then kvs.map (λkv=>if kv.1=k then (kv.1,v) else kv) else kvs++[(k,v)]
theorem Kc {p:κ×V} {r:List (κ×V)} {k:κ} (e:p.1=k):DK (p::r) k=some p.2:=by simp[DK,QbQ,e]
theorem G9 {p:κ×V} {r:List (κ×V)} {k:κ} (e:¬p.1=k):DK (p::r) k=DK r k:=by simp[DK,QbQ,e]
theorem MF (k:κ):∀kvs:List (κ×V),(kvs.any λkv=>decide (kv.1=k))=(DK kvs k).isSome
 | []=>rfl
 | p::r=>by
  rw[Qcb]
  by_cases e:p.1=k
  ·simp only[Kc e,QbR e,Bool.true_or,Option.isSome_some]
  ·rw[G9 e,QbF e,Bool.false_or];exact MF k r
theorem KJ (kvs:List (κ×V)) (k:κ) (v:V):(putK kvs k v).length<=kvs.length+1:=by
 unfold putK
 split
 ·rw[QbB];omega
 ·rw[QaS,Qbt,List.length_nil];omega
theorem Ng {kvs:List (κ×V)} {k:κ} (v:V) (h:DK kvs k=none):putK kvs k v=kvs++[(k,v)]:=by
 unfold putK
 rw[MF,h]
 exact if_neg (by decide)
theorem G5.Li {o:Option V} {u:Option Value} (r:G5 o u):o.isSome=u.isSome:=by
 cases o with
 | none=>cases u with
  | none=>rfl
  | some _=>exact (show False from r).elim
 | some _=>cases u with
  | none=>exact (show False from r).elim
  | some _=>rfl
theorem G5.getD {o:Option V} {u:Option Value} {d:V} {d':Value} (r:G5 o u) (rd:RelV d d'):RelV (o.getD d) (u.getD d'):=by
 cases o with
 | none=>cases u with
  | none=>exact rd
  | some _=>exact (show False from r).elim
 | some _=>cases u with
  | none=>exact (show False from r).elim
  | some _=>exact r
theorem KV.val {kvs:List (κ×V)} {vs:List (κ×Value)} (r:KV kvs vs) (k:κ):G5 (DK kvs k) (valueAt vs k):=by
 unfold KV at r
 induction r with
 | nil=>exact True.intro
 | @cons p q ps qs h t ih=>
  obtain⟨h1,h2⟩:=h
  by_cases e:p.1=k
  ·have e':q.1=k:=h1.symm.trans e
   have b:valueAt (q::qs) k=some q.2:=by simp[valueAt,QbQ,e']
   rw[Kc e,b];exact h2
  ·have e':¬q.1=k:=λz=>e (h1.trans z)
   have b:valueAt (q::qs) k=valueAt qs k:=by simp[valueAt,QbQ,e']
   rw[G9 e,b];exact ih
theorem KV.any {kvs:List (κ×V)} {vs:List (κ×Value)} (r:KV kvs vs) (k:κ):(kvs.any λkv=>decide (kv.1=k))=vs.any λkv=>decide (kv.1=k):=by
 unfold KV at r
 induction r with
 | nil=>rfl
 | cons h t ih=>rw[Qcb,Qcb,ih,h.1]
theorem KV.repl {kvs:List (κ×V)} {vs:List (κ×Value)} (r:KV kvs vs) (k:κ) {y:V} {u:Value} (ry:RelV y u) :
  KV (kvs.map λkv=>if kv.1=k then (kv.1,y) else kv) (vs.map λkv=>if kv.1=k then (kv.1,u) else kv):=by
 unfold KV at r ⊢
 induction r with
 | nil=>exact .nil
 | @cons p q ps qs h t ih=>
  rw[QbY,QbY]
  refine .cons ?_ ih
  obtain⟨h1,h2⟩:=h
  by_cases e:p.1=k
  ·rw[if_pos e,if_pos (h1.symm.trans e)];exact⟨h1,ry⟩
  ·rw[if_neg e,if_neg (λz=>e (h1.trans z))];exact⟨h1,h2⟩
theorem KV.put {kvs:List (κ×V)} {vs:List (κ×Value)} (r:KV kvs vs) (k:κ) {y:V} {u:Value} (ry:RelV y u):KV (putK kvs k y) (stored vs k u):=by
 unfold putK stored
 rw[r.any k]
 by_cases e:(vs.any λkv=>decide (kv.1=k))=true
 ·rw[if_pos e,if_pos e];exact r.repl k ry
 ·rw[if_neg e,if_neg e];exact Qcp r ⟨rfl,ry⟩
theorem KV.length {kvs:List (κ×V)} {vs:List (κ×Value)} (r:KV kvs vs):kvs.length=vs.length:=QbW r
end
theorem N8 {P:Program} {w:World} {k:Key} {u:Value} (r:RelV (kV k) u):(CV P w).is k u=true:=by
 cases k with
 | inl i=>obtain⟨t,e⟩:=(show ∃t,u=Value.int i t from r);subst e;exact bW P w i t
 | inr x=>obtain⟨t,e⟩:=(show ∃t,u=Value.str x t from r);subst e;exact bV P w x t
theorem XD {P:Program} {w:World}:∀{ks:List Key} {us:YE},Vals (ks.map kV) us->ItemsAre (CV P w) ks us
 | [],_,r=>by rw[Qcm] at r;cases r;exact .nil
 | k::ks,_,r=>by
  rw[QbY] at r
  cases r with
  | cons h t=>exact .cons (N8 h) (XD t)
abbrev YL:=List (List Key×V)
abbrev KT (H:Hp):YL->List (List Key×Addr×Value)->Prop:=Paired λp q=>p.1=q.1/\H q.2.1=some (.tup (p.1.map kV))/\RelV p.2 q.2.2
theorem KT.val {H:Hp} {kvs:YL} {xs:List (List Key×Addr×Value)} (r:KT H kvs xs) (k:List Key):G5 (DK kvs k) ((atKey xs k).map (·.2)):=by
 induction r with
 | nil=>exact True.intro
 | @cons p q ps qs h t ih=>
  obtain⟨h1,_,h2⟩:=h
  by_cases e:p.1=k
  ·have e':q.1=k:=h1.symm.trans e
   have b:atKey (q::qs) k=some q.2:=by simp[atKey,QbQ,e']
   rw[Kc e,b];exact h2
  ·have e':¬q.1=k:=λz=>e (h1.trans z)
   have b:atKey (q::qs) k=atKey qs k:=by simp[atKey,QbQ,e']
   rw[G9 e,b];exact ih
theorem KT.repl {H:Hp} {kvs:YL} {xs:List (List Key×Addr×Value)} (r:KT H kvs xs) (k:List Key) {y:V} {u:Value} (ry:RelV y u) :
  KT H (kvs.map λkv=>if kv.1=k then (kv.1,y) else kv) (xs.map (putAt k u)):=by
 induction r with
 | nil=>exact .nil
 | @cons p q ps qs h t ih=>
  rw[QbY,QbY]
  refine .cons ?_ ih
  obtain⟨h1,h2,h3⟩:=h
  unfold putAt
  by_cases e:p.1=k
  ·rw[if_pos e,if_pos (h1.symm.trans e)];exact⟨h1,h2,ry⟩
  ·rw[if_neg e,if_neg (λz=>e (h1.trans z))];exact⟨h1,h2,h3⟩
theorem KT.put {H:Hp} {kvs:YL} {xs:List (List Key×Addr×Value)} (r:KT H kvs xs) (k:List Key) {b:Addr} {y:V} {u:Value} (hb:H b=some (.tup (k.map kV))) (ry:RelV y u) :
  KT H (putK kvs k y) (storedH xs k b u):=by
 have e:(kvs.any λkv=>decide (kv.1=k))=(atKey xs k).isSome:=by
  rw[MF,(r.val k).Li,Option.isSome_map]
 unfold putK storedH
 rw[e]
 by_cases q:(atKey xs k).isSome=true
 ·rw[if_pos q,if_pos q];exact r.repl k ry
 ·rw[if_neg q,if_neg q];exact Qcp r ⟨rfl,hb,ry⟩
theorem KT.keeps {H H':Hp} {kvs:YL} {xs:List (List Key×Addr×Value)} (r:KT H kvs xs) (ht:∀b ys,H b=some (.tup ys)->H' b=some (.tup ys)):KT H' kvs xs:=
 Paired.Av r λ_ _ z=>⟨z.1,ht _ _ z.2.1,z.2.2⟩
section
variable {P:Program} {w:World} {H:Hp} {h:Heap} {a:Addr}
theorem tU {u:HO} (ok:HOk P w H h) (e:Rd H a u):Bv P w H h a u:=e.ok ok
abbrev YM:=List (Key×V)
theorem Mr {kvs:YM} (ok:HOk P w H h) (e:Rd H a (.dK kvs)):kvs.length<=sizeLine/\(a == sysModules)=false/\∃vs,KV kvs vs/\h.DictOf (CV P w) a vs:=
 show Bv P w H h a (.dK kvs) from tU ok e
theorem uw {kvs:YM} (ok:HOk P w H h) (e:H a=some (.dK kvs)):kvs.length<=sizeLine/\(a == sysModules)=false/\∃vs,KV kvs vs/\h.DictOf (CV P w) a vs:=Mr ok (.inl e)
theorem Lf {ks:List Key} (ok:HOk P w H h) (e:H a=some (.tup (ks.map kV))):(tupleKind (CV P w)).is h ks a:=by
 obtain⟨_,its,r,o,h1,h2,n,h3⟩:=(show Bv P w H h a (.tup (ks.map kV)) from ok a _ e)
 exact⟨o,its.toArray,n,h1,h2,h3,by simpa using XD r⟩
theorem Oe {kvs:YL} (ok:HOk P w H h) (e:Rd H a (.dT kvs)):kvs.length<=sizeLine/\(a == sysModules)=false /\
  ∃xs,KT H kvs xs/\h.DictOfH (tupleKind (CV P w)) a xs:=by
 obtain⟨z,y,xs,r,o,es,ep,h1,h2,h3,h4,h5⟩:=(show Bv P w H h a (.dT kvs) from tU ok e)
 refine⟨z,y,xs,r,o,es,ep,h1,h2,h3,h4,λx hx=>?_,h5⟩
 have all:∀{l:YL} {m:List (List Key×Addr×Value)},KT H l m->∀x∈m,(tupleKind (CV P w)).is h x.1 x.2.1:=by
  intro l m q
  induction q with
  | nil=>intro x hx;exact nomatch hx
  | @cons p q ps qs hq t ih=>
   intro x hx
   rcases QbX.mp hx with e | hx
   ·subst e
    exact Lf ok (by rw[<-hq.1];exact hq.2.1)
   ·exact ih x hx
 exact all r x hx
theorem uq {kvs:YL} (ok:HOk P w H h) (e:H a=some (.dT kvs)):kvs.length<=sizeLine/\(a == sysModules)=false /\
  ∃xs,KT H kvs xs/\h.DictOfH (tupleKind (CV P w)) a xs:=Oe ok (.inl e)
end
def Dw (H:Hp) (a:Addr) (y:V) (r:Option V):Prop:=
 (∃kvs k,Rd H a (.dK kvs)/\y=kV k/\r=DK kvs k)\/∃kvs k b,Rd H a (.dT kvs)/\y=.ref b/\H b=some (.tup (k.map kV))/\r=DK kvs k
def Ma (H:Hp) (a:Addr) (y v:V) (H':Hp):Prop:=
 (∃kvs k,H a=some (.dK kvs)/\y=kV k/\kvs.length < sizeLine/\H'=upd H a (.dK (putK kvs k v))) \/
 ∃kvs k b,H a=some (.dT kvs)/\y=.ref b/\H b=some (.tup (k.map kV))/\kvs.length < sizeLine/\H'=upd H a (.dT (putK kvs k v))
theorem Dw.k {H:Hp} {a:Addr} {kvs:YM} {k:Key} (e:H a=some (.dK kvs)):Dw H a (kV k) (DK kvs k):=.inl ⟨kvs,k,.inl e,rfl,rfl⟩
theorem Dw.t {H:Hp} {a b:Addr} {kvs:YL} {k:List Key} (e:H a=some (.dT kvs)) (eb:H b=some (.tup (k.map kV))):Dw H a (.ref b) (DK kvs k):=.inr ⟨kvs,k,b,.inl e,rfl,eb,rfl⟩
theorem Ma.k {H:Hp} {a:Addr} {kvs:YM} {k:Key} {v:V} (e:H a=some (.dK kvs)) (hl:kvs.length < sizeLine):Ma H a (kV k) v (upd H a (.dK (putK kvs k v))):=.inl ⟨kvs,k,e,rfl,hl,rfl⟩
theorem Ma.t {H:Hp} {a b:Addr} {kvs:YL} {k:List Key} {v:V} (e:H a=some (.dT kvs)) (eb:H b=some (.tup (k.map kV))) (hl:kvs.length < sizeLine) :
  Ma H a (.ref b) v (upd H a (.dT (putK kvs k v))):=.inr ⟨kvs,k,b,e,rfl,eb,hl,rfl⟩
section
variable {X:Cx} {pins:YC} {σ : St} {H:Hp} {s:Shared} {a:Addr} {y v:V} {u r:Value} {o:Option V} {A:Around} {E:YA}
theorem Inv.big (I:Inv X pins σ H s):sysModules < s.heap.objs.size:=by
 have h:mainGlobals < s.heap.objs.size:=(I.mod.glob.keeps I.bk).lt
 exact Nat.lt_trans (by decide) h
theorem ni {Q:YA} (hu:A.units+1 < cLine) (I:Inv X pins σ H s) (g:Dw H a y (some v)) (ry:RelV y u) (h:∀w' s',Inv X pins σ H s'->RelV v w'->Q w' s') :
  wpAny (model X.prog X.w) A (getItem (.ref a) u) Q E s:=by
 rcases g with⟨kvs,k,e,ey,l⟩|⟨kvs,k,b,e,ey,eb,l⟩
 ·subst ey
  obtain⟨z,hd,vs,rel,dd⟩:=Mr I.hok e
  obtain⟨w',hw,rw'⟩:=G5.some_of (v:=v) (o:=valueAt vs k) (by rw[l];exact rel.val k)
  exact wpAny_getItem_of (N8 ry) dd.mapOf hw (h w' _ (I.tok _) rw')
 ·subst ey
  cases (show u=Value.ref b from ry)
  obtain⟨z,hd,xs,rel,dd⟩:=Oe I.hok e
  obtain⟨w',hw,rw'⟩:=G5.some_of (v:=v) (o:=(atKey xs k).map (·.2)) (by rw[l];exact rel.val k)
  obtain⟨p,hp,hp2⟩:=Qax.mp hw
  refine wpAny_getItem_heap (Qbg hu) (Lf I.hok eb) dd hp ?_
  rw[hp2]
  exact h w' _ (I.tok _) rw'
theorem GN {Q:YA} (hu:A.units+1 < cLine) (I:Inv X pins σ H s) (g:Dw H a y o) (ry:RelV y u) (h:∀s',Inv X pins σ H s'->Q (.bool o.isSome) s') :
  wpAny (model X.prog X.w) A (compareOp .In u (.ref a)) Q E s:=by
 rcases g with⟨kvs,k,e,ey,l⟩|⟨kvs,k,b,e,ey,eb,l⟩
 ·subst ey
  obtain⟨z,hd,vs,rel,dd⟩:=Mr I.hok e
  refine wpAny_in_of (N8 ry) hd dd.mapOf ?_
  rw[<-(rel.val k).Li,<-l]
  exact h _ (I.tok _)
 ·subst ey
  cases (show u=Value.ref b from ry)
  obtain⟨z,hd,xs,rel,dd⟩:=Oe I.hok e
  refine wpAny_in_heap (Qbg hu) (Lf I.hok eb) hd dd ?_
  have q:=(rel.val k).Li
  rw[Option.isSome_map] at q
  rw[<-q,<-l]
  exact h _ (I.tok _)
theorem wu {Q:YA} (hu:A.units+1 < cLine) (I:Inv X pins σ H s) (g:Dw H a y o) (ry:RelV y u) (h:∀s',Inv X pins σ H s'->Q (.bool (!o.isSome)) s') :
  wpAny (model X.prog X.w) A (compareOp .NotIn u (.ref a)) Q E s:=by
 rcases g with⟨kvs,k,e,ey,l⟩|⟨kvs,k,b,e,ey,eb,l⟩
 ·subst ey
  obtain⟨z,hd,vs,rel,dd⟩:=Mr I.hok e
  refine wpAny_notIn_of (N8 ry) hd dd.mapOf ?_
  rw[<-(rel.val k).Li,<-l]
  exact h _ (I.tok _)
 ·subst ey
  cases (show u=Value.ref b from ry)
  obtain⟨z,hd,xs,rel,dd⟩:=Oe I.hok e
  refine wpAny_notIn_heap (Qbg hu) (Lf I.hok eb) hd dd ?_
  have q:=(rel.val k).Li
  rw[Option.isSome_map] at q
  rw[<-q,<-l]
  exact h _ (I.tok _)
theorem Tf {h':Heap} {t':Nat} {ob:HO} (I:Inv X pins σ H s) (mu:Mut (H a)) (hs:Heap.SameBut a s.heap h') (he:∃q,h'.get? a=some q) (new:Bv X.prog X.w (upd H a ob) h' a ob) :
  Inv X pins σ (upd H a ob) { s with heap:=h',toks:=t' }:=
 I.write (x:=a) (e:=a) mu (.inl rfl) (λb q hb z=>(hs.2 b hb).trans z) he new
theorem mV {P:Program} {w:World} {H':Hp} {h':Heap} {kvs:YM} {vs:List (Key×Value)} (z:kvs.length<=sizeLine) (hd:(a == sysModules)=false) (rel:KV kvs vs) (dd:h'.DictOf (CV P w) a vs) :
  Bv P w H' h' a (.dK kvs):=⟨z,hd,vs,rel,dd⟩
theorem mZ {H':Hp} {Q:YH} (hu:A.units+1 < cLine) (I:Inv X pins σ H s) (g:Ma H a y v H') (ry:RelV y u) (rv:RelV v r) (h:∀s',Inv X pins σ H' s'->Q () s') :
  wpAny (model X.prog X.w) A (setItem (.ref a) u r) Q E s:=by
 rcases g with⟨kvs,k,e,ey,l,eH⟩|⟨kvs,k,b,e,ey,eb,l,eH⟩
 ·subst ey eH
  obtain⟨z,hd,vs,rel,dd⟩:=uw I.hok e
  have hz:vs.length<=sizeLine:=by rw[<-rel.length];exact z
  have hl:(putK kvs k v).length<=sizeLine:=by have:=KJ kvs k v;omega
  refine wpAny_setItem_pairs (hsz:=hz) (N8 ry) dd λh' dd' hs=>h _ ?_
  have he:∃q,h'.get? a=some q:=let ⟨q,_,_,hq,_⟩:=dd';⟨q,hq⟩
  exact Tf I (by rw[e];exact True.intro) hs he (mV hl hd (rel.put k rv) dd')
 ·subst ey eH
  cases (show u=Value.ref b from ry)
  obtain⟨z,hd,xs,rel,dd⟩:=uq I.hok e
  have hz:xs.length<=sizeLine:=by rw[<-QbW rel];exact z
  have hl:(putK kvs k v).length<=sizeLine:=by have:=KJ kvs k v;omega
  refine wpAny_setItem_heap (hsz:=hz) (Qbg hu) (Lf I.hok eb) dd λh' dd' hs=>h _ ?_
  obtain⟨q,es,ep,hq,h2,h3,h4,_,h5⟩:=dd'
  refine Tf I (by rw[e];exact True.intro) hs ⟨q,hq⟩ ⟨hl,hd,_,(rel.put k eb rv).keeps λc ys ec=>?_,q,es,ep,hq,h2,h3,h4,h5⟩
  rw[Am (tW ec e (λz=>nomatch z))]
  exact ec
end
section
variable {X:Cx} {pins:YC} {σ : St} {H:Hp} {s:Shared} {a:Addr} {kvs:YM} {k:Key} {u:Value} {A:Around} {E:YA}
theorem BE {Q:YA} (I:Inv X pins σ H s) (e:Rd H a (.dK kvs)) (h:∀t s',Inv X pins σ H s'->Q (.int kvs.length t) s'):wpAny (model X.prog X.w) A (call (.builtin "len") [.ref a]) Q E s:=by
 obtain⟨z,hd,vs,rel,dd⟩:=Mr I.hok e
 refine call_len_dict hd dd (by rw[<-rel.length];rw[Qcr] at z;omega) ?_
 rw[<-rel.length]
 exact h _ _ (I.tok _)
end
def AA (i:Expr):Prop:=∀ov iv,subscripted i false ov iv=operate [ov,iv] (getItem ov iv)
theorem uM {prog:Program} {w:World} {A:Around} {E:YA} {s:Shared} {env:Env} {value slice:Expr} {pos:Pos} {T id:String} {Q:YA}
  (hl:typeLookup (.type T) "__getitem__"=pure (some (.builtin id))) (hs:AA slice)
  (h:wpAny (model prog w) A (eval value env) (λo s₁=>wpAny (model prog w) A (eval slice env) (λi s₂=>s₂.TypeIs o T/\wpAny (model prog w) A (getItem o i) Q E s₂) E s₁) E s) :
  wpAny (model prog w) A (eval (.Subscript value slice pos) env) Q E s:=by
 refine Subscript_ (Qcw h (λo s₁ h₁=>Qcw h₁ (λi s₂ h₂=>?_) λ_ _ x=>x) λ_ _ x=>x)
 obtain⟨hT,h₂⟩:=h₂
 unfold subscriptTail
 refine Qcu ?_
 rw[getitemInPython_of_ne hT.not_modules]
 refine Qcu (wpAny_specialOf hT hl ?_)
 have fin:wpAny (model prog w) A (subscripted slice false o i) (λr s₃=>wpAny (model prog w) A (letTemporaryGo value o r >>= λ_=>pure r) Q E s₃) E s₂:=by
  rw[hs o i]
  exact wpAny_operating (Qcw h₂ (λr s₃ h₃=>Qcu (wpAny_letTemporaryGo (Qcv h₃))) λ_ _ x=>x)
 first
  | exact Qcv (Qcu fin)
  | exact Qcu (Qcv (Qcu fin))
  | exact Qcu fin
theorem cF {X:Cx} {pins:YC} {σ : St} {H:Hp} {s:Shared} {a:Addr} {y:V} {o:Option V} (I:Inv X pins σ H s) (g:Dw H a y o):s.TypeIs (.ref a) "dict":=by
 rcases g with⟨kvs,k,e,_,_⟩|⟨kvs,k,b,e,_,_,_⟩
 ·obtain⟨_,_,vs,_,dd⟩:=Mr I.hok e
  exact dd.typeIs
 ·obtain⟨_,_,xs,_,dd⟩:=Oe I.hok e
  exact dd.typeIs
def AK (td ty:TE):TE:=fun σ H Q=>td σ H λx H1=>ty σ H1 λy H2=>∃a v,x=.ref a/\Dw H2 a y (some v)/\Q v H2
def B4 (ty td:TE):TE:=fun σ H Q=>ty σ H λy H1=>td σ H1 λx H2=>∃a o,x=.ref a/\Dw H2 a y o/\Q (.bl o.isSome) H2
def uL (ty td:TE):TE:=fun σ H Q=>ty σ H λy H1=>td σ H1 λx H2=>∃a o,x=.ref a/\Dw H2 a y o/\Q (.bl (!o.isSome)) H2
def AQ (td ty tv:TE):TS:=λD σ H=>tv σ H λv H1=>td σ H1 λx H2=>ty σ H2 λy H3=>∃a H4,x=.ref a/\Ma H3 a y v H4/\D.nx σ H4
section
variable {X:Cx} {o i e value:Expr} {pos pos' tpos:Pos} {td ty tv:TE}
theorem Pg (hu:X.A.units+1 < cLine) (ho:PE X o td) (hi:PE X i ty) (hs:AA i):PE X (.Subscript o i pos) (AK td ty):=by
 intro pins s σ H Q I h
 refine uM PySem.F.slot_dict_getitem.lookup hs (thn (ho pins s σ H _ I h) λu s1 zz=>?_)
 obtain⟨x,H1,I1,rx,q1⟩:=zz
 refine thn (hi pins s1 σ H1 _ I1 q1) λiv s2 zz=>?_
 obtain⟨y,H2,I2,ry,a,v,ex,g,q2⟩:=zz
 subst ex
 obtain rfl:u=Value.ref a:=rx
 exact⟨cF I2 g,ni hu I2 g ry λw' s3 I3 rw'=>⟨v,H2,I3,rw',q2⟩⟩
theorem j5 (hu:X.A.units+1 < cLine) (hi:PE X i ty) (ho:PE X o td):PC X .In i o (B4 ty td):=by
 intro pins s σ H Q I h
 refine thn (hi pins s σ H _ I h) λiv s1 zz=>?_
 obtain⟨y,H1,I1,ry,q1⟩:=zz
 refine thn (ho pins s1 σ H1 _ I1 q1) λu s2 zz=>?_
 obtain⟨x,H2,I2,rx,a,ov,ex,g,q2⟩:=zz
 subst ex
 obtain rfl:u=Value.ref a:=rx
 exact GN hu I2 g ry λs3 I3=>⟨.bl ov.isSome,H2,I3,rfl,q2⟩
theorem Rp (hu:X.A.units+1 < cLine) (hi:PE X i ty) (ho:PE X o td):PC X .NotIn i o (uL ty td):=by
 intro pins s σ H Q I h
 refine thn (hi pins s σ H _ I h) λiv s1 zz=>?_
 obtain⟨y,H1,I1,ry,q1⟩:=zz
 refine thn (ho pins s1 σ H1 _ I1 q1) λu s2 zz=>?_
 obtain⟨x,H2,I2,rx,a,ov,ex,g,q2⟩:=zz
 subst ex
 obtain rfl:u=Value.ref a:=rx
 exact wu hu I2 g ry λs3 I3=>⟨.bl (!ov.isSome),H2,I3,rfl,q2⟩
theorem Mt (hu:X.A.units+1 < cLine) (ho:PE X o td) (hi:PE X i ty) (hv:PE X value tv) (hs:swapsWith value (some (.Subscript o i pos')) pos.line X.env=pure false) :
  PS X (.Assign [.Subscript o i pos'] value pos) (AQ td ty tv):=by
 intro pins s σ H D I h
 refine wpAny_Assign_Subscript (thn (hv pins s σ H _ I h) λr s1 zz=>?_) hs
 obtain⟨v,H1,I1,rv,q1⟩:=zz
 refine thn (ho pins s1 σ H1 _ I1 q1) λu s2 zz=>?_
 obtain⟨x,H2,I2,rx,q2⟩:=zz
 refine thn (hi pins s2 σ H2 _ I2 q2) λiv s3 zz=>?_
 obtain⟨y,H3,I3,ry,a,H4,ex,g,q3⟩:=zz
 subst ex
 obtain rfl:u=Value.ref a:=rx
 exact mZ hu I3 g ry rv λs4 I4=>⟨σ,H4,I4,q3⟩
end
theorem aR {P:Program} {w:World} {H:Hp} (h:Heap) (hb:sysModules < h.objs.size):Bv P w H (h.push { cls:=.type "dict",data:=.dict #[] }) h.objs.size (.dK []):=
 ⟨Qco _,QaK.mpr (Ne.symm (Qch hb)),[],.nil,Heap.DictOf.new h⟩
theorem rJ {P:Program} {w:World} {H:Hp} (h:Heap) (hb:sysModules < h.objs.size):Bv P w H (h.push { cls:=.type "dict",data:=.dict #[] }) h.objs.size (.dT []):=
 ⟨Qco _,QaK.mpr (Ne.symm (Qch hb)),[],.nil,_,#[],0,QaJ _ rfl,⟨rfl,rfl,rfl⟩,rfl,rfl,QbU⟩
def w6:TE:=λ_ H Q=>∀p,H p=none->Q (.ref p) (upd H p (.dK []))
section
variable {X:Cx} {pos:Pos}
theorem ZP:PE X (.Dict [] [] pos) w6:=λpins s σ H Q I h=>
 wpAny_Dict_empty ⟨.ref s.heap.objs.size,_,I.laid (a:=s.heap.objs.size) (o:=.dK []) (t':=s.toks) (λ_ _ q=>Qav _ q) (Qcn _) (aR s.heap I.big),rfl,h _ (I.hok.fresh (Qcn _))⟩
end
structure M1 (X:Cx) (o:Expr) (m:Str) (apos:Pos) (e:Expr) (cpos:Pos):Prop where
 base:attributeBase o m X.env (eval o X.env)=eval o X.env
 few:((backTo cpos (starEach [e] X.env)).all (λx=>!x.1)&&(backToKw cpos (keywordEach [] X.env)).all (λx=>x.1.isSome)
 &&decide (([e]:YJ).length+([]:List Keyword).length+(if ([]:List Keyword).isEmpty then 0 else 1) < 30))=true
 line:(apos.endLine == cpos.line)=true
 trees:backTo cpos (starEach [e] X.env)=[(false,eval e X.env)]
structure M2 (X:Cx) (o:Expr) (m:Str) (apos:Pos) (e f:Expr) (cpos:Pos):Prop where
 base:attributeBase o m X.env (eval o X.env)=eval o X.env
 few:((backTo cpos (starEach [e,f] X.env)).all (λx=>!x.1)&&(backToKw cpos (keywordEach [] X.env)).all (λx=>x.1.isSome)
 &&decide (([e,f]:YJ).length+([]:List Keyword).length+(if ([]:List Keyword).isEmpty then 0 else 1) < 30))=true
 line:(apos.endLine == cpos.line)=true
 trees:backTo cpos (starEach [e,f] X.env)=[(false,eval e X.env),(false,eval f X.env)]
def IsD (H:Hp) (a:Addr):Prop:=(∃kvs,Rd H a (.dK kvs))\/∃kvs,Rd H a (.dT kvs)
theorem Vy {X:Cx} {pins:YC} {σ : St} {H:Hp} {s:Shared} {a:Addr} (I:Inv X pins σ H s) (d:IsD H a) :
  s.TypeIs (.ref a) "dict"/\(∀b,Value.ref a=.ref b->∃ob,s.heap.get? b=some ob/\ob.dict=none)/\(a == sysModules)=false:=by
 rcases d with⟨kvs,e⟩|⟨kvs,e⟩
 ·obtain⟨_,hd,vs,_,dd⟩:=Mr I.hok e
  refine⟨dd.typeIs,λb q=>?_,hd⟩
  cases q
  obtain⟨ob,_,_,h1,h2,_⟩:=dd
  exact⟨ob,h1,h2.2.1⟩
 ·obtain⟨_,hd,xs,_,dd⟩:=Oe I.hok e
  refine⟨dd.typeIs,λb q=>?_,hd⟩
  cases q
  obtain⟨ob,_,_,h1,h2,_⟩:=dd
  exact⟨ob,h1,h2.2.1⟩
section
variable {X:Cx} {pins:YC} {σ : St} {H:Hp} {s:Shared} {a:Addr} {y d:V} {u r:Value} {o:Option V} {A:Around} {E:YA}
theorem zR {Q:YA} (hu:A.units+1 < cLine) (I:Inv X pins σ H s) (g:Dw H a y o) (ry:RelV y u) (h:∀w' s',Inv X pins σ H s'->RelV (o.getD .non) w'->Q w' s') :
  wpAny (model X.prog X.w) A (call (.builtin "dict.get") [.ref a,u]) Q E s:=by
 rcases g with⟨kvs,k,e,ey,l⟩|⟨kvs,k,b,e,ey,eb,l⟩
 ·subst ey
  obtain⟨z,hd,vs,rel,dd⟩:=Mr I.hok e
  refine call_meetsIn QaD dd.typeIs PySem.F.entry_dict_get (PySem.F.args_dict_get_2 _ _) (meets_dict_get (CV X.prog X.w) a (N8 ry) hd) ⟨_,dd.mapOf,h _ _ (I.tok _) ?_⟩
  rw[l]
  exact (rel.val k).getD rfl
 ·subst ey
  cases (show u=Value.ref b from ry)
  obtain⟨z,hd,xs,rel,dd⟩:=Oe I.hok e
  refine call_meetsIn QaD dd.typeIs PySem.F.entry_dict_get (PySem.F.args_dict_get_2 _ _) (meetsH_dict_get (tupleKind (CV X.prog X.w)) a b hd) ⟨Qbg hu,k,xs,Lf I.hok eb,dd,h _ _ (I.tok _) ?_⟩
  rw[l]
  exact (rel.val k).getD rfl
theorem zQ {Q:YA} (hu:A.units+1 < cLine) (I:Inv X pins σ H s) (g:Dw H a y o) (ry:RelV y u) (rd:RelV d r) (h:∀w' s',Inv X pins σ H s'->RelV (o.getD d) w'->Q w' s') :
  wpAny (model X.prog X.w) A (call (.builtin "dict.get") [.ref a,u,r]) Q E s:=by
 rcases g with⟨kvs,k,e,ey,l⟩|⟨kvs,k,b,e,ey,eb,l⟩
 ·subst ey
  obtain⟨z,hd,vs,rel,dd⟩:=Mr I.hok e
  refine call_meetsIn QaD dd.typeIs PySem.F.entry_dict_get (PySem.F.args_dict_get_3 _ _ _) (meets_dict_get_default (CV X.prog X.w) a (N8 ry) hd r) ⟨_,dd.mapOf,h _ _ (I.tok _) ?_⟩
  rw[l]
  exact (rel.val k).getD rd
 ·subst ey
  cases (show u=Value.ref b from ry)
  obtain⟨z,hd,xs,rel,dd⟩:=Oe I.hok e
  refine call_meetsIn QaD dd.typeIs PySem.F.entry_dict_get (PySem.F.args_dict_get_3 _ _ _) (meetsH_dict_get_default (tupleKind (CV X.prog X.w)) a b hd r) ⟨Qbg hu,k,xs,Lf I.hok eb,dd,h _ _ (I.tok _) ?_⟩
  rw[l]
  exact (rel.val k).getD rd
end
def xG (td ty:TE):TE:=fun σ H Q=>td σ H λx H1=>∃a,x=.ref a/\IsD H1 a/\ty σ H1 λy H2=>∃o,Dw H2 a y o/\Q (o.getD .non) H2
def xu (td ty tx:TE):TE:=fun σ H Q=>td σ H λx H1=>∃a,x=.ref a/\IsD H1 a/\ty σ H1 λy H2=>tx σ H2 λz H3=>∃o,Dw H3 a y o/\Q (o.getD z) H3
section
variable {X:Cx} {o e f:Expr} {apos cpos:Pos} {td ty tx:TE}
theorem pZ (hu:X.A.units+1 < cLine) (ho:PE X o td) (he:PE X e ty) (m:M1 X o "get" apos e cpos):PE X (.Call (.Attribute o "get" apos) [e] [] cpos) (xG td ty):=by
 intro pins s σ H Q I h
 refine wpAny_Call_method m.base m.few m.line PySem.F.plainAttrs_dict QaD PySem.F.type_dict_get (thn (ho pins s σ H _ I h) λu s1 zz=>?_)
 obtain⟨x,H1,I1,rx,a,ex,d,q1⟩:=zz
 subst ex
 obtain rfl:u=Value.ref a:=rx
 obtain⟨t1,t2,_⟩:=Vy I1 d
 refine⟨t1,t2,?_⟩
 rw[m.trees]
 refine Calls.callWith_builtin rfl (Calls.evalArgs_plain (Calls.spliced_cons (thn (he pins s1 σ H1 _ I1 q1) λiv s2 zz=>?_)))
 obtain⟨y,H2,I2,ry,ov,g,q2⟩:=zz
 refine Calls.spliced_nil ?_
 exact zR hu I2 g ry λw' s3 I3 rw'=>⟨_,H2,I3,rw',q2⟩
theorem Ui (hu:X.A.units+1 < cLine) (ho:PE X o td) (he:PE X e ty) (hf:PE X f tx) (m:M2 X o "get" apos e f cpos):PE X (.Call (.Attribute o "get" apos) [e,f] [] cpos) (xu td ty tx):=by
 intro pins s σ H Q I h
 refine wpAny_Call_method m.base m.few m.line PySem.F.plainAttrs_dict QaD PySem.F.type_dict_get (thn (ho pins s σ H _ I h) λu s1 zz=>?_)
 obtain⟨x,H1,I1,rx,a,ex,d,q1⟩:=zz
 subst ex
 obtain rfl:u=Value.ref a:=rx
 obtain⟨t1,t2,_⟩:=Vy I1 d
 refine⟨t1,t2,?_⟩
 rw[m.trees]
 refine Calls.callWith_builtin rfl (Calls.evalArgs_plain (Calls.spliced_cons (thn (he pins s1 σ H1 _ I1 q1) λiv s2 ⟨y,H2,I2,ry,q2⟩=>
  Calls.spliced_cons (thn (hf pins s2 σ H2 _ I2 q2) λfv s3 ⟨z,H3,I3,rz,ov,g,q3⟩=>Calls.spliced_nil ?_))))
 exact zQ hu I3 g ry rz λw' s4 I4 rw'=>⟨_,H3,I4,rw',q3⟩
end
section
variable {X:Cx} {pins:YC} {σ : St} {H:Hp} {s:Shared} {a:Addr} {kvs:YM} {A:Around} {E:YA}
end
section
variable {X:Cx} {pins:YC} {σ : St} {H:Hp} {s:Shared} {a:Addr} {y:V} {u:Value} {A:Around} {E:YA}
end
section
variable {X:Cx}
theorem nJ:FW X (.builtin "len") (λxs H Q=>∃a kvs,xs=[V.ref a]/\H a=some (.dK kvs)/\Q (.int kvs.length) H):=by
 intro pins s σ H xs us Q I r h
 obtain⟨a,kvs,rfl,ha,q⟩:=h
 obtain⟨u,rfl,ru⟩:=vals1 r
 cases ru
 exact BE I (.inl ha) λt s' I'=>⟨.int kvs.length,H,I',⟨t,rfl⟩,q⟩
end
section
variable {κ : Type} [DecidableEq κ]
theorem d9:∀{l:List κ} {k:κ},l.Nodup->¬k∈l->(l++[k]).Nodup
 | [],k,_,_=>by simp
 | a::r,k,h,hk=>by
  obtain⟨h1,h2⟩:=QbK.mp h
  show (a::(r++[k])).Nodup
  refine QbK.mpr ⟨λm=>?_,d9 h2 λm=>hk (QbX.mpr (Or.inr m))⟩
  rcases QbC.mp m with q | q
  ·exact h1 q
  ·exact hk (QbX.mpr (Or.inl (QaX.mp q).symm))
end
theorem VL {prog:Program} {w:World} {A:Around} {R:Result->Shared->Prop} {s:Shared} {kx vx target iter:Expr} {ifs:YJ} {scope:Scope} {pos:Pos} {it:Value} {D:Addr} {env:Env} (J:Nat->Shared->Prop)
  (turn:∀n s,J n s->wpAny (model prog w) A (pyNext it) (λr s1=>match r with
   | none=>R (.ok .next) s1
   | some v=>wpAny (model prog w) A (letOwnedTupleGo target it v) (λ_ s2=>wpAny (model prog w) A (assign target env v) (λ_ s3=>
     wpAny (model prog w) A (forIn ifs true λc r=>if r=true then do let ok <-isTrue c env (eval c env);pure (ForInStep.yield ok) else pure (ForInStep.yield r)) (λok s4=>
      if ok=true then wpAny (model prog w) A (eval kx env) (λkv s5=>wpAny (model prog w) A (eval vx env) (λvv s6=>wpAny (model prog w) A (dictSet D kv vv) (λ_ s7=>∃m,m < n/\J m s7) (λ_ _=>False) s6) (λ_ _=>False) s5) (λ_ _=>False) s4
      else ∃m,m < n/\J m s4) (λ_ _=>False) s3) (λ_ _=>False) s2) (λ_ _=>False) s1) (λ_ _=>False) s)
  (n:Nat) (h:J n s):codeAny (model prog w) A (.compLoop (.DictComp kx vx [⟨target,iter,ifs,0⟩] scope pos) 0 it (.ref D) env) R s:=by
 refine codeAny_loop rfl J (λk s' hk=>?_) n h
 show wpAny _ A (Sem.onRaise (compTurn (.DictComp kx vx [⟨target,iter,ifs,0⟩] scope pos) 0 it (.ref D) env) (λx=>do noteFrame x env;theTreesLotGoes x)) _ _ s'
 refine wpAny_noted ?_
 rw[compTurn_dict]
 refine Qcu (Qcc (Qcu (Qcw (turn k s' hk) (λr s1 q1=>?_) λ_ _ f=>f.elim)))
 cases r with
 | none=>exact Qcv q1
 | some v=>
  refine Qcu (Qcw q1 (λ_ s2 q2=>Qcu (Qcw q2 (λ_ s3 q3=>Qcu (Qcw q3 (λok s4 q4=>?_) λ_ _ f=>f.elim)) λ_ _ f=>f.elim)) λ_ _ f=>f.elim)
  cases ok with
  | false=>exact Qcv ⟨rfl,q4⟩
  | true=>exact Qcu (Qcu (Qcw q4 (λkv s5 q5=>Qcu (Qca (Qcw q5 (λvv s6 q6=>Qcu (Qcc (Qca (Qcw q6 (λ_ s7 q7=>Qcv ⟨rfl,q7⟩) λ_ _ f=>f.elim)))) λ_ _ f=>f.elim))) λ_ _ f=>f.elim))
theorem nj {X:Cx} {pins:YC} {σ : St} {H:Hp} {s:Shared} {A:Around} {E:YA} {a:Addr} {kvs:YM} {k:Key} {v:V} {u r:Value} {Q:YH} (I:Inv X pins σ H s) (e:H a=some (.dK kvs)) (l:kvs.length < sizeLine) (ry:RelV (kV k) u) (rv:RelV v r)
  (h:∀s',Inv X pins σ (upd H a (.dK (putK kvs k v))) s'->Q () s'):wpAny (model X.prog X.w) A (dictSet a u r) Q E s:=by
 obtain⟨z,hd,vs,rel,dd⟩:=uw I.hok e
 have hz:vs.length<=sizeLine:=by rw[<-rel.length];exact z
 have hl:(putK kvs k v).length<=sizeLine:=by have:=KJ kvs k v;omega
 refine wpAny_dictSet_pairs (hsz:=hz) (N8 ry) dd λh' dd' hs=>h _ ?_
 have he:∃q,h'.get? a=some q:=let ⟨q,_,_,hq,_⟩:=dd';⟨q,hq⟩
 exact Tf I (by rw[e];exact True.intro) hs he (mV hl hd (rel.put k rv) dd')
@[irreducible] def Tn (J:It) (g:TG) (tt:TT) (tk tv:TE) (Q:VK) (σ0:St) (H0:Hp) (l:Addr):Prop:=∃W:Nat->YN,(∃m,W 0 m σ0 H0) /\
 ∀i m σ' H',W i m σ' H'->(J.stop i H'/\Q (.ref l) H')\/(J.go i H'/\∃N:YO,(∀ σ3 H3,N σ3 H3->∃m',m' < m/\W (i+1) m' σ3 H3)/\∀x H2,J.yld i H' x H2->g x σ' H2 fun σ3 H3=>tt σ3 H3 λb H4=>
  if b=true then tk σ3 H4 λy H5=>tv σ3 H5 λz H6=>∃(kvs:YM) (k:Key),H6 l=some (.dK kvs)/\y=kV k/\kvs.length < sizeLine/\N σ3 (upd H6 l (.dK (putK kvs k z))) else N σ3 H4)
def Yz (wi:TI) (src:List (Option Nat)) (g:TG) (tt:TT) (tk tv:TE):TE:=fun σ H Q=>wi σ H λJ H1=>∀l,H1 l=none->Tn J g tt tk tv Q (JB src σ) (upd H1 l (.dK [])) l
theorem VN {X:Cx} {N':YF} {src:List (Option Nat)} {sc:Scope} {kx vx tg iter:Expr} {ifs:YJ} {pos pos':Pos} {wi:TI} {g:TG} {tt:TT} {tk tv:TE} {use:Option (Value->Sem Unit)} {R:YA} (hc:X.calm=true) (S:Bg X N' src sc)
  (hi:PI X tg iter wi) (hg:∀s3 H3 fp pn,PG (cxC X N' sc s3 H3 fp pn) tg g) (ht:∀s3 H3 fp pn,PF (cxC X N' sc s3 H3 fp pn) ifs tt) (hk:∀s3 H3 fp pn,PE (cxC X N' sc s3 H3 fp pn) kx tk) (hv:∀s3 H3 fp pn,PE (cxC X N' sc s3 H3 fp pn) vx tv)
  (hs:∀x,foldedSetIterable iter X.env x=pure x) {pins:YC} {s:Shared} {σ : St} {H:Hp} {Q:VK} (I:Inv X pins σ H s) (h:Yz wi src g tt tk tv σ H Q)
  (fin:∀s3 H3 fp σ4 H4 s5 l,Inv X pins σ H3 s3->(∀b∈fp,Gv X pins H3 b)->Inv (cxC X N' sc s3 H3 fp (X.pn++pins)) [] σ4 H4 s5->Q (.ref l) H4 ->
   compPost (model X.prog X.w) X.A X.xe use R (.ref l) s3.heap.objs.size (.ok .next) s5) :
  wpAny (model X.prog X.w) X.A (comprehension (.DictComp kx vx [⟨tg,iter,ifs,0⟩] sc pos) sc X.env pos' newDict false (eval iter X.env) use) R X.xe s:=by
 refine wpAny_comprehension_free (use:=use) (cl:=Es X.env sc.names []) rfl hs (Qz λp hp e=>I.ok.has p.1 (S.fv p hp e)) S.kind S.loc ?_
 refine thn (hi pins s σ H _ I h) λv s1 h1=>thn h1 λitv s2 h2=>?_
 obtain⟨it,fp,tn,J,H2,rfl,I2,T,st2,f2,q⟩:=h2
 have q':=q s2.heap.objs.size (I2.hok.fresh (Qcn _))
 unfold Tn at q'
 obtain⟨W,⟨m0,w0⟩,turn⟩:=q'
 refine Qbp (wpAny_newFunctionEnv S.Iv (by intro y hy;simp at hy) (λha hns hsb=>?_) S.kind)
 have I3:Inv X pins σ (upd H2 s2.heap.objs.size (.dK [])) { s2 with heap:=s2.heap.push { cls:=.type "dict",data:=.dict #[] } }:=
  I2.laid (t':=s2.toks) (λb u e=>Qav _ e) (Qcn _) (aR s2.heap I2.big)
 have hfl:∀b∈fp,b < s2.heap.objs.size:=λb hb=>by
  obtain⟨o,e,_⟩:=T.obj 0 _ st2 b hb
  exact Qcf e
 have f3:∀b∈fp,Gv X pins (upd H2 s2.heap.objs.size (.dK [])) b:=λb hb=>⟨by rw[Am (Qch (hfl b hb))];exact (f2 b hb).1,(f2 b hb).2⟩
 generalize hs3:({ s2 with heap:=s2.heap.push { cls:=.type "dict",data:=.dict #[] } }:Shared)=s3 at *
 have hsz:s2.heap.objs.size < s3.heap.objs.size:=by rw[<-hs3];show s2.heap.objs.size < (s2.heap.push _).objs.size;rw[QbS];exact Qby _
 have kp:∀b o,s3.heap.get? b=some o->ha.get? b=some o:=λb o e=>hsb.extBut b o (Qch (Qcf e)) (Qav _ e)
 have st3:tn 0 ha:=T.keep 0 _ _ st2 λb hb o e=>kp b o (by rw[<-hs3];exact Qav _ e)
 have I4:Inv (cxC X N' sc s3 (upd H2 s2.heap.objs.size (.dK [])) fp (X.pn++pins)) [] (JB src σ) (upd H2 s2.heap.objs.size (.dK [])) { s3 with heap:=ha,toks:=s3.toks+([]:List (Str×Value)).length }:=
  Uw S I3 f3 (λb hb=>Nat.lt_trans (hfl b hb) hsz) hns kp
 have loop:codeAny (model X.prog X.w) X.A (.compLoop (.DictComp kx vx [⟨tg,iter,ifs,0⟩] sc pos) 0 (.ref it) (.ref s2.heap.objs.size) (compEnvC sc (Es X.env sc.names []) s3.heap.objs.size X.env))
   (compPost (model X.prog X.w) X.A X.xe use R (.ref s2.heap.objs.size) s3.heap.objs.size) { s3 with heap:=ha,toks:=s3.toks+([]:List (Str×Value)).length }:=by
  refine VL (λn s'=>∃i σ' H',Inv (cxC X N' sc s3 (upd H2 s2.heap.objs.size (.dK [])) fp (X.pn++pins)) [] σ' H' s'/\tn i s'.heap/\(∀b∈fp,H' b=none)/\W i n σ' H') ?_ m0 ⟨0,_,_,I4,st3,λb hb=>(f3 b hb).1,w0⟩
  rintro n s4 ⟨i,σ4,H4,J4,st4,fr4,w4⟩
  have stat:∀{H':Hp},(∀b∈fp,H' b=none)->∀b∈fp,Gv (cxC X N' sc s3 (upd H2 s2.heap.objs.size (.dK [])) fp (X.pn++pins)) [] H' b:=λhn b hb=>
   ⟨hn b hb,(I4.ok.exf b hb).1,I4.ok.RG b hb,.inl hb,λx c e=>(I4.ok.exf b hb).2 x c e,λp hp=>(f3 b hb).2.2.2.2.2 p ((QbC.mp hp).elim id λz=>by cases z)⟩
  rcases turn i n σ4 H4 w4 with⟨stop,qn⟩|⟨go,N,hN,step⟩
  ·refine thn (T.done (cxC X N' sc s3 (upd H2 s2.heap.objs.size (.dK [])) fp (X.pn++pins)) rfl rfl rfl hc i [] s4 σ4 H4 _ J4 (stat fr4) st4 stop) λr s5 zz=>?_
   obtain⟨hr,J5⟩:=zz
   subst hr
   exact fin s3 _ fp σ4 H4 s5 _ I3 f3 J5 qn
  ·refine thn (T.item (cxC X N' sc s3 (upd H2 s2.heap.objs.size (.dK [])) fp (X.pn++pins)) rfl rfl rfl hc i [] s4 σ4 H4 _ J4 (stat fr4) st4 go) λr s5 zz=>?_
   obtain⟨u,hr,h5⟩:=zz
   subst hr
   refine thn h5 λ_ s6 zz=>?_
   obtain⟨x,H6,J6,r6,y6,st6,fr6⟩:=zz
   have J6':=J6.pinned (stat fr6) (T.obj _ _ st6)
   have back:∀{pl:YC} {σ7:St} {H7:Hp} {s7:Shared},Inv (cxC X N' sc s3 (upd H2 s2.heap.objs.size (.dK [])) fp (X.pn++pins)) ([]++Ni fp s6.heap) σ7 H7 s7->N σ7 H7 ->
     ∃m',m' < n/\∃i σ' H',Inv (cxC X N' sc s3 (upd H2 s2.heap.objs.size (.dK [])) fp (X.pn++pins)) [] σ' H' s7/\tn i s7.heap/\(∀b∈fp,H' b=none)/\W i m' σ' H':=λ{pl σ7 H7 s7} J7 w7=>by
    obtain⟨m',hm,w7⟩:=hN _ _ w7
    have pinned:∀b∈fp,∀o,s6.heap.get? b=some o->s7.heap.get? b=some o/\H7 b=none:=λb hb o e=>by
     have:=J7.pin (b,o) (QaB _ (QaB _ (JQ hb e)))
     exact⟨this.1,this.2.1⟩
    refine⟨m',hm,i+1,σ7,H7,J7.Hf,T.keep _ _ _ st6 λb hb o e=>(pinned b hb o e).1,λb hb=>?_,w7⟩
    obtain⟨o,e,_⟩:=T.obj _ _ st6 b hb
    exact (pinned b hb o e).2
   refine thn (hg s3 _ fp _ _ s6 σ4 H6 x u _ J6' r6 (step x H6 y6)) λ_ s7 zz=>?_
   obtain⟨σ7,H7,J7,q7⟩:=zz
   refine thn (ht s3 _ fp _ _ s7 σ7 H7 _ J7 q7) λok s8 zz=>?_
   obtain⟨H8,J8,q8⟩:=zz
   cases ok with
   | false=>
    rw[if_neg QaW] at q8 ⊢
    exact back (pl:=[]) J8 q8
   | true=>
    rw[if_pos rfl] at q8 ⊢
    refine thn (hk s3 _ fp _ _ s8 σ7 H8 _ J8 q8) λy s9 zz=>?_
    obtain⟨yv,H9,J9,r9,q9⟩:=zz
    refine thn (hv s3 _ fp _ _ s9 σ7 H9 _ J9 q9) λz s10 zz=>?_
    obtain⟨zv,H10,J10,r10,kvs,k,hl,ey,hz,q10⟩:=zz
    subst ey
    refine nj (X:=cxC X N' sc s3 (upd H2 s2.heap.objs.size (.dK [])) fp (X.pn++pins)) J10 hl hz r9 r10 λs11 J11=>?_
    exact back (pl:=[]) J11 q10
 exact codeAny_compStart_dict loop (T.self X.A 0 _ _ _ st3 loop)
theorem p7 {X:Cx} {N':YF} {src:List (Option Nat)} {sc:Scope} {kx vx tg iter:Expr} {ifs:YJ} {pos:Pos} {wi:TI} {g:TG} {tt:TT} {tk tv:TE} (hc:X.calm=true) (S:Bg X N' src sc)
  (hi:PI X tg iter wi) (hg:∀s3 H3 fp pn,PG (cxC X N' sc s3 H3 fp pn) tg g) (ht:∀s3 H3 fp pn,PF (cxC X N' sc s3 H3 fp pn) ifs tt) (hk:∀s3 H3 fp pn,PE (cxC X N' sc s3 H3 fp pn) kx tk) (hv:∀s3 H3 fp pn,PE (cxC X N' sc s3 H3 fp pn) vx tv)
  (hs:∀x,foldedSetIterable iter X.env x=pure x:=by intro _;rfl):PE X (.DictComp kx vx [⟨tg,iter,ifs,0⟩] sc pos) (Yz wi src g tt tk tv):=by
 intro pins s σ H Q I h
 rw[arm_eval_DictComp]
 refine VN (use:=none) hc S hi hg ht hk hv hs I h λs3 H3 fp σ4 H4 s5 l I3 f3 J5 q=>?_
 obtain⟨m,hn,_⟩:=J5.loc
 exact⟨m,hn,λh' sb=>⟨.ref l,H4,RJ I3 f3 J5 sb,rfl,q⟩⟩
end L2
namespace PySem
open Sem (wp)
section
variable {prog:Program} {w:World} {A:Around} {E:YA} {s:Shared}
theorem N7 {it l:Addr} {i:Nat} {items:Array Value} {x:Value} {Q:YA} (hit:s.heap.IsTupleIter it l i) (hl:s.heap.IsTuple l items) (hx:items[i]?=some x)
  (hQ:∀h',h'.IsTupleIter it l (i+1)->Heap.SameBut it s.heap h'->Q x { s with heap:=h' }):wpAny (model prog w) A (Builtin.SmallTypes.nextOf (.ref it)) Q E s:=by
 obtain⟨o,ho,hc,hd⟩:=id hit
 obtain⟨ol,hol,_,nl,hdl⟩:=hl
 unfold Builtin.SmallTypes.nextOf
 refine Qcu (Qaq (name:=Str.ofString "__next__") hit.typeIs Qaa (Qbw Qaa hit.typeIs PyProof.Rows.entry_tupleiter_next ?_ (PyProof.Rows.args_tupleiter_next _)))
 show wpAny _ _ (field (.ref it) 0 >>= _) _ _ s
 refine Qcu (Qcq ho hd (x:=.ref l) rfl ?_)
 show wpAny _ _ (if (Value.ref l == Value.none)=true then _ else _) _ _ s
 rw[if_neg (show ¬((Value.ref l == Value.none)=true) from QaW)]
 show wpAny _ _ (field (.ref it) 1 >>= _) _ _ s
 refine Qcu (Qcq ho hd (x:=.int i 0) rfl ?_)
 show wpAny _ _ (seqItems? (.ref l) >>= _) _ _ s
 refine Qcu (QbV hol hdl ?_)
 simp only[Qbm,hx]
 refine Qcu (wpAny_setField ho hd (by simp) (Qcv ⟨x,rfl,Qcv (hQ _ ?_ (QaQ ..))⟩))
 exact⟨_,QaE _ ho (Obj.isFreed_of_fields (Obj.data_mapFields hd _)),(Obj.cls_mapFields ..).trans hc,by rw[Obj.data_mapFields hd];simp[rawInt]⟩
theorem Km {it l:Addr} {i:Nat} {items:Array Value} {Q:YA} (hh:A.handled=none) (hit:s.heap.IsTupleIter it l i) (hl:s.heap.IsTuple l items) (hx:items[i]?=none)
  (hE:∀h' e,Heap.ExtBut it s.heap h'->(∃o,h'.get? e=some o/\o.cls=.type "StopIteration")->E (.ref e) { s with heap:=h' }):wpAny (model prog w) A (Builtin.SmallTypes.nextOf (.ref it)) Q E s:=by
 obtain⟨o,ho,hc,hd⟩:=id hit
 obtain⟨ol,hol,_,nl,hdl⟩:=hl
 unfold Builtin.SmallTypes.nextOf
 refine Qcu (Qaq (name:=Str.ofString "__next__") hit.typeIs Qaa (Qbw Qaa hit.typeIs PyProof.Rows.entry_tupleiter_next ?_ (PyProof.Rows.args_tupleiter_next _)))
 show wpAny _ _ (field (.ref it) 0 >>= _) _ _ s
 refine Qcu (Qcq ho hd (x:=.ref l) rfl ?_)
 show wpAny _ _ (if (Value.ref l == Value.none)=true then _ else _) _ _ s
 rw[if_neg (show ¬((Value.ref l == Value.none)=true) from QaW)]
 show wpAny _ _ (field (.ref it) 1 >>= _) _ _ s
 refine Qcu (Qcq ho hd (x:=.int i 0) rfl ?_)
 show wpAny _ _ (seqItems? (.ref l) >>= _) _ _ s
 refine Qcu (QbV hol hdl ?_)
 simp only[Qbm,hx]
 refine Qcu (wpAny_rule (Qcu (wpAny_setField ho hd (by simp) ?_)))
 show wpAny _ _ (newExc (.type "StopIteration") [] >>= _) _ _ _
 refine Qcu ?_
 simp only[newExc,newTuple]
 refine Qcu (Qbp ?_ (by size_fits))
 refine Qcu (m:=firstArgMember _ _) (wpAny_of_eq (a:=Value.none) (by first | rfl | (simp only[firstArgMember];rfl)) ?_)
 refine Qbp ?_ (by size_fits)
 simp only[raiseNew]
 refine Qcu (wpAny_handled ?_)
 first | rw[show A.in1.handled=none from hh] | rw[hh]
 refine Qcu (Qcv (wpAny_throw ?_))
 exact hE _ _ (((QaQ ..).extBut.push _).push _) ⟨_,QaJ _ rfl,rfl⟩
theorem aQ {e it l:Addr} {i:Nat} {j:Int} {items:Array Value} {old:Value} {Q:Option Value->Shared->Prop} (hh:A.handled=none) (he:IsEnum s.heap e it j old) (hit:s.heap.IsTupleIter it l i) (hl:s.heap.IsTuple l items) (hx:items[i]?=none)
  (hQ:∀h',Heap.ExtBut it s.heap h'->Q none { s with heap:=h' }):wpAny (model prog w) A (pyNext (.ref e)) Q E s:=by
 have hT:s.TypeIs (.ref e) "enumerate":=⟨_,he,rfl⟩
 unfold pyNext
 refine Qcu (Qcd (Qaq (name:=Str.ofString "__next__") hT F.slot_enumerate_next (Qbw F.slot_enumerate_next hT F.entry_enumerate_next ?_ (F.args_enumerate_next_1 _))))
 show wpAny _ _ (field (.ref e) 2 >>= _) _ _ _
 refine Qcu (Qcq he rfl (x:=.ref it) rfl (Qcu (Km hh hit hl hx λh' x he' hx'=>?_)))
 obtain⟨o,ho,hc⟩:=hx'
 exact Qcu (wpAny_isInstance (T:="StopIteration") (b:=true) ⟨o,ho,hc⟩ isSubtype_stop (Qcv (hQ _ he')))
end
theorem Draws.tup {prog:Program} {w:World} {A:Around} (hh:A.handled=none) (it l:Addr) (hne:l≠it) (items:Array Value) :
  Draws prog w A it [it,l] items.size (λi v=>items[i]?=some v) (λi h=>h.IsTupleIter it l i/\h.IsTuple l items) where
 live:=λ_ _ st=>let ⟨o,ho,_⟩:=st.1;⟨o,ho⟩
 frame:=λ_ _ _ st hk=>⟨st.1.at λo e=>hk it (by simp) o e,let ⟨o,e,r⟩:=st.2;⟨o,hk l (by simp) o e,r⟩⟩
 item:=λi s Q E hi st hQ=>N7 st.1 st.2 (x:=items[i]) (by simp[hi]) λh' hit' hs'=>hQ _ h' s.toks (by simp[hi]) ⟨hit',let ⟨o,e,r⟩:=st.2;⟨o,hs'.extBut _ _ hne e,r⟩⟩ hs'
 done:=λs Q E st hE=>Km hh st.1 st.2 (by simp) hE
theorem Draws.from {prog:Program} {w:World} {A:Around} {it:Addr} {fp:List Addr} {n:Nat} {P:Nat->Value->Prop} {St:Nat->Heap->Prop} (D:Draws prog w A it fp n P St) (k:Nat) :
  Draws prog w A it fp (k+n) (λj v=>∃i,j=k+i/\P i v) (λj h=>∃i,j=k+i/\i<=n/\St i h) where
 live:=λ_ _ ⟨i,_,_,st⟩=>D.live i _ st
 frame:=λ_ _ _ ⟨i,e,hi,st⟩ hk=>⟨i,e,hi,D.frame i _ _ st hk⟩
 item:=λj s Q E hj ⟨i,e,hi,st⟩ hQ=>D.item i s Q E (by omega) st λx h' tk p st' sb=>hQ x h' tk ⟨i,e,p⟩ ⟨i+1,by omega,by omega,st'⟩ sb
 done:=λs Q E ⟨i,e,hi,st⟩ hE=>by
  have:i=n:=by omega
  subst this
  exact D.done s Q E st hE
end PySem
namespace L2
open PySem PySem.Spec PyProof.Rows
section
variable {X:Cx} {pins:YC} {σ : St} {H:Hp} {s:Shared} {h':Heap}
theorem Inv.NQ {t':Nat} {fp:List Addr} {t:Addr} {o:HO} (I:Inv X pins σ H s) (ht:s.heap.objs.size<=t) (k:∀b u,b∉fp->s.heap.get? b=some u->h'.get? b=some u) (hf:∀b∈fp,Gv X pins H b) (new:Bv X.prog X.w (upd H t o) h' t o) :
  Inv X pins σ (upd H t o) { s with heap:=h',toks:=t' }:=by
 have nt:=I.hok.fresh ht
 have old:∀b u,s.heap.get? b=some u->b≠t:=λb u e z=>absurd (QaZ (Qcf e) ht) (by rw[z];exact QbZ _)
 have nf:∀b u,H b=some u->b∉fp:=λb u e z=>by rw[(hf b z).1] at e;cases e
 have tr:∀b u,H b=some u->(upd H t o) b=some u:=λb u e=>by rw[Am (Bb e nt)];exact e
 refine I.step (g':=s.gens) (d':=s.drawn) (ch:=fp) (λb hb=>?_) (λb u _ _ hc e _=>k b u hc e) (λb u _ _ hc e _=>⟨u.slots,k b u hc e⟩) (λb u hc e n=>by rw[Am (old b u e)];exact n)
  (λb u hc e=>⟨u,k b u hc e⟩) (λ_ _ e=>tr _ _ e) (λ_ _ _ e=>tr _ _ e) (λb ps e=>⟨#[],by rw[tr _ _ e];simp⟩) (λm hm=>?_) (λb u e=>?_) I.bare
 ·obtain⟨_,f1,_,f3,f4,f5⟩:=hf b hb
  exact⟨f3,f1,f4,f5⟩
 ·obtain⟨u,es,ep,hu,r⟩:=hm
  exact⟨u,es,ep,k _ u (λz=>(hf _ z).2.1 rfl) hu,r⟩
 ·by_cases hb:b=t
  ·subst hb
   rw[Ab] at e
   cases e
   exact new
  ·rw[Am hb] at e
   refine (I.hok b u e).stay (λc v hc q=>k c v ?_ q) (λc q=>tr _ _ q) λc xs q=>tr _ _ q
   rcases hc with z | z
   ·rw[z];exact nf b u e
   ·exact nf c _ z
theorem Inv.Ms {t':Nat} {fp:List Addr} (I:Inv X pins σ H s) (k:∀b u,b∉fp->s.heap.get? b=some u->h'.get? b=some u) (hf:∀b∈fp,Gv X pins H b):Inv X pins σ H { s with heap:=h',toks:=t' }:=by
 have nf:∀b u,H b=some u->b∉fp:=λb u e z=>by rw[(hf b z).1] at e;cases e
 refine I.step (g':=s.gens) (d':=s.drawn) (ch:=fp) (λb hb=>?_) (λb u _ _ hc e _=>k b u hc e) (λb u _ _ hc e _=>⟨u.slots,k b u hc e⟩) (λb u hc e n=>n)
  (λb u hc e=>⟨u,k b u hc e⟩) (λ_ _ e=>e) (λ_ _ _ e=>e) (λb ps e=>⟨#[],by rw[e];simp⟩) (λm hm=>?_) (λb u e=>?_) I.bare
 ·obtain⟨_,f1,_,f3,f4,f5⟩:=hf b hb
  exact⟨f3,f1,f4,f5⟩
 ·obtain⟨u,es,ep,hu,r⟩:=hm
  exact⟨u,es,ep,k _ u (λz=>(hf _ z).2.1 rfl) hu,r⟩
 ·refine (I.hok b u e).stay (λc v hc q=>k c v ?_ q) (λ_ q=>q) λ_ _ q=>q
  rcases hc with z | z
  ·rw[z];exact nf b u e
  ·exact nf c _ z
end
def NP (K:YD) (a:Addr) (lo:Nat):It:=
 ⟨λi H=>∃xs x,SqT K H a xs/\xs[i]?=some x,λi H v H'=>∃p x,H p=none/\v=.ref p/\H'=upd H p (.tup [.int ((lo+i:Nat):Int),x])/\∀xs,SqT K H a xs->xs[i]?=some x,λi H=>∃xs,SqT K H a xs/\xs.length<=i⟩
theorem fX {P:Program} {w:World} {K:YD} {elts:YJ} {k:Nat} {pos:Pos} (a e it:Addr) (lo:Nat) (nei:e≠it):Turn P w K (.Tuple elts k pos) (NP K a lo) [e,it] e (λi h=>(∃old,IsEnum h e it ((lo+i:Nat):Int) old)/\h.IsTupleIter it a i) where
 mem:=by simp
 obj:=λi h st b hb=>by
  obtain⟨⟨old,he⟩,o,ho,hc,hd⟩:=st
  rcases QbX.mp hb with rfl | hb
  ·exact⟨_,he,λv z=>by cases (show Data.fields _=Data.cell v from z)⟩
  ·have:b=it:=by simpa using hb
   subst this
   exact⟨o,ho,λv z=>by rw[hd] at z;cases z⟩
 keep:=λi h h' st k=>by
  obtain⟨⟨old,he⟩,hi⟩:=st
  exact⟨⟨old,k e (by simp) _ he⟩,hi.at λo q=>k it (by simp) o q⟩
 item:=by
  intro X hP hw hK hc i pins s σ H E I hf st hg
  subst hP hw hK
  obtain⟨xs,x,hq,hx⟩:=hg
  obtain⟨its,rv,p,hz⟩:=I.tuple hq
  obtain⟨u,hu,ru⟩:=rv.get hx
  obtain⟨⟨old,he⟩,hit⟩:=st
  have hts:s.heap.IsTuple a its.toArray:=p
  have ane:a≠e:=λz=>by
   obtain⟨o,ho,hcl,_⟩:=hts
   rw[z,he] at ho
   cases ho
   injection hcl with q
   exact absurd q (by decide)
  have ani:a≠it:=λz=>by
   obtain⟨o,ho,hcl,_⟩:=hts
   obtain⟨o',ho',hcl',_⟩:=hit
   rw[z,ho'] at ho
   cases ho
   rw[hcl'] at hcl
   injection hcl with q
   exact absurd q (by decide)
  have hlt:i < its.toArray.size:=by
   have:=(Qag.mp hu).1
   simpa using this
  have D:=(Draws.tup (prog:=X.prog) (w:=X.w) (A:=X.A.in1) (I.ok.hd hc) it a ani its.toArray).from lo
  refine wpAny_pyNext_enum_itemD D he ⟨i,rfl,Qcl hlt,hit,hts⟩ (by omega) nei (by simp[nei,ane.symm]) λy h1 tk hP ho hst hT hsz hk=>?_
  obtain⟨i',ei,hy⟩:=hP
  have:i'=i:=by omega
  subst this
  have ey:y=u:=by
   have h2:its.toArray[i']?=some u:=by simpa using hu
   rw[h2] at hy
   exact (QbH hy).symm
  subst ey
  refine⟨_,rfl,wpAny_letOwnedTupleGo_enum ho λh2 he2 hs2=>?_⟩
  have hlt2:s.heap.objs.size≠e:=Qck (Qcf he)
  have hT2:h2.get? s.heap.objs.size=some { cls:=.type "tuple",data:=.seq #[.int ((lo+i':Nat):Int) tk,y] }:=(hs2.2 _ hlt2).trans hT
  have new:Bv X.prog X.w (upd H s.heap.objs.size (.tup [.int ((lo+i':Nat):Int),x])) h2 s.heap.objs.size (.tup [.int ((lo+i':Nat):Int),x]):=
   ⟨by show 2<=sizeLine;decide,[.int ((lo+i':Nat):Int) tk,y],.cons ⟨tk,rfl⟩ (.cons ru .nil),_,hT2,rfl,0,rfl⟩
  have I1:=I.NQ (h':=h2) (t':=tk+1) (Qcn _) (λb q hb z=>(hs2.2 b (λw=>hb (by simp[w]))).trans (hk b q (λw=>hb (by simp[w])) (λw=>hb (by simp[w])) z)) hf new
  refine⟨.ref s.heap.objs.size,_,I1,rfl,⟨s.heap.objs.size,x,I.hok.fresh (Qcn _),rfl,rfl,λys hy'=>by rw[I.Xp hy' hq];exact hx⟩,⟨⟨y,?_⟩,?_⟩,λb hb=>?_⟩
  ·have:=he2
   rw[show ((lo+(i'+1):Nat):Int)=((lo+i':Nat):Int)+1 by omega]
   exact this
  ·obtain⟨i2,e2,_,st2,_⟩:=hst
   have:i2=i'+1:=by omega
   subst this
   exact st2.at λo q=>(hs2.2 it (Ne.symm nei)).trans q
  ·have hb':b < s.heap.objs.size:=by
    rcases QbX.mp hb with rfl | hb
    ·exact Qcf he
    ·have:b=it:=by simpa using hb
     subst this
     obtain⟨o,ho',_⟩:=hit
     exact Qcf ho'
   rw[Am (Qch hb')]
   exact (hf b hb).1
 done:=by
  intro X hP hw hK hc i pins s σ H E I hf st hg
  subst hP hw hK
  obtain⟨xs,hq,hx⟩:=hg
  obtain⟨its,rv,p,hz⟩:=I.tuple hq
  obtain⟨⟨old,he⟩,hit⟩:=st
  have hl:=rv.length
  exact aQ (I.ok.hd hc) he hit (show s.heap.IsTuple a its.toArray from p) (by simp;omega) λh' eb=>⟨rfl,I.Ms (t':=s.toks) (λb o hb q=>eb b o (λz=>hb (by simp[z])) q) hf⟩
 self:=λ_ _ _ _ _ st h=>let ⟨⟨_,he⟩,_⟩:=st;wpAny_pyIter_enum he h
end L2
namespace PySem
open Sem (wp)
open AutoSeq1 (wpAny_loadPart')
theorem WM (l:Addr) (items:Array Value) (n:Nat) (dct:Option Addr) (sl:YI) :
  Meets (Builtin.«enumerate.__new__» ⟨[.type "enumerate",.ref l],[]⟩) (λ_ R s=>s.heap.get? l=some { cls:=.type "tuple",dict:=dct,data:=.seq items n,slots:=sl } /\
   R (.ok (.ret (.ref (s.heap.push { cls:=.type "tuple_iterator",data:=.fields #[.ref l,.int 0 0] }).objs.size)))
    { s with heap:=(s.heap.push { cls:=.type "tuple_iterator",data:=.fields #[.ref l,.int 0 0] }).push { cls:=.type "enumerate",data:=.fields #[.none,.bool false,.ref s.heap.objs.size,rawInt 0,.none,.none] } }):=
 .of_wp λprog w A R s h=>by
  obtain⟨hp,g,d,tk,os⟩:=s;obtain⟨hl,h⟩:=h
  have hsub:=sub_enumerate
  have hL:Heap.IsTuple (Shared.heap ⟨hp,g,d,tk,os⟩) l items:=⟨_,hl,rfl,n,rfl⟩
  wp_walk using wpAny_loadPart' hl
  refine wpAny_stack_any λst=>Qcv ?_
  split
  ·rename_i c _ _ _ _ _
   cases (c == Value.type "enumerate")
   ·wp_walk using wpAny_loadPart' hl,Qbb hL
    exact⟨_,rfl,h⟩
   ·wp_walk using wpAny_loadPart' hl,Qbb hL
    exact⟨_,rfl,h⟩
  ·wp_walk using wpAny_loadPart' hl,Qbb hL
   exact⟨_,rfl,h⟩
theorem Vr (l:Addr) (items:Array Value) (n:Nat) (dct:Option Addr) (sl:YI) (t:Tok) :
  Meets (Builtin.«enumerate.__new__» ⟨[.type "enumerate",.ref l],[("start",.int 1 t)]⟩) (λ_ R s=>s.heap.get? l=some { cls:=.type "tuple",dict:=dct,data:=.seq items n,slots:=sl } /\
   R (.ok (.ret (.ref (s.heap.push { cls:=.type "tuple_iterator",data:=.fields #[.ref l,.int 0 0] }).objs.size)))
    { s with heap:=(s.heap.push { cls:=.type "tuple_iterator",data:=.fields #[.ref l,.int 0 0] }).push { cls:=.type "enumerate",data:=.fields #[.none,.bool false,.ref s.heap.objs.size,rawInt 1,.none,.none] } }):=
 .of_wp λprog w A R s h=>by
  obtain⟨hp,g,d,tk,os⟩:=s;obtain⟨hl,h⟩:=h
  have hsub:=sub_enumerate
  have hL:Heap.IsTuple (Shared.heap ⟨hp,g,d,tk,os⟩) l items:=⟨_,hl,rfl,n,rfl⟩
  wp_walk using wpAny_loadPart' hl
  refine wpAny_stack_any λst=>Qcv ?_
  split
  ·rename_i c _ _ _ _ _
   cases (c == Value.type "enumerate")
   ·wp_walk using wpAny_loadPart' hl,Qbb hL
    exact⟨_,rfl,h⟩
   ·wp_walk using wpAny_loadPart' hl,Qbb hL
    exact⟨_,rfl,h⟩
  ·wp_walk using wpAny_loadPart' hl,Qbb hL
   exact⟨_,rfl,h⟩
end PySem
namespace PySem
open Sem (wp)
section
variable {prog:Program} {w:World} {A:Around} {E:YA} {s:Shared}
theorem Wy {T newId:String} {self:Value} {rest:YE} {kw:List (Str×Value)} (hl:typeLookup (.type T) "__init__"=pure (some (.builtin "object.__init__")))
  (hm:Bind.madeBy (.type T)=pure (some newId)) (hne:(some newId != some "object.__new__")=true) :
  Meets (Builtin.«object.__init__» ⟨self::rest,kw⟩) (λ_ R s=>s.TypeIs self T/\R (.ok (.ret .none)) s):=by
 refine Meets.of_wp λprog w A R s hs=>?_
 obtain⟨hT,hq⟩:=hs
 cases rest with
 | nil=>
  cases kw with
  | nil=>exact Qcv ⟨_,rfl,hq⟩
  | cons k kw=>
   repeat (any_goals (first | assumption | wp_step))
   exact⟨_,rfl,hq⟩
 | cons a rest=>
  repeat (any_goals (first | assumption | wp_step))
  exact⟨_,rfl,hq⟩
theorem nO {T newId:String} {Bn:Builtin} {args:YE} {kw:List (Str×Value)} {S:Spec} {Q:YA} (ft:TypeCalled T newId "object.__init__") (hne:(some newId != some "object.__new__")=true)
  (hct:checkTypeCall T ⟨args,kw⟩=pure ()) (hcn:checkBuiltinCall newId ⟨.type T::args,kw⟩=pure ()) (hok:∀obj,argsOk "object.__init__" ⟨obj::args,kw⟩)
  (entryN:entryFor table newId=some Bn) (g:Meets (Bn ⟨.type T::args,kw⟩) S) (h:S A.in1 (wants (λobj s₁=>s₁.TypeIs obj T/\Q obj s₁) E) s) :
  wpAny (model prog w) A (call (.type T) args kw) Q E s:=by
 obtain⟨c,tl,hmro⟩:=ft.mro
 have hmade:=ft.made
 have hsub:=ft.sub
 refine wpAny_call (codeAny_of_tree ?_)
 show wpAny _ _ (callAny (.type T) _) _ _ _
 refine Qcv ⟨Code.quiet_builtin _ (by trivial),codeAny_builtin F.entry_type_call ?_⟩
 rw[Around.under_plain (weight_type_call_type T args kw) (units_type_call_type T args kw)]
 have h1:=ft.notType
 have h2:=ft.canCreate
 repeat (any_goals (first | assumption | wp_step))
 refine codeAny_mono (codeAny_call_builtin ft.plain entryN (wpAny_of_eq hcn (g prog w A.in1 _ s h))) λr s₁ hr=>?_
 cases r with
 | error e=>exact hr
 | ok fl=>
  cases fl with
  | ret obj=>
   obtain⟨hT,hq⟩:=hr
   have hli:=ft.init.lookup
   have hbi:=ft.init.bind obj
   repeat (any_goals (first | assumption | wp_step))
   refine codeAny_mono (codeAny_call_builtin ft.init.plain F.entry_object_init (ft.init.check _ _ _ _ _ _ _ _ hT (hok obj) (Wy ft.init.lookup ft.made hne prog w A.in1 (wants (λr s₂=>r=.none/\Q obj s₂) E) s₁ ⟨hT,rfl,hq⟩))) λr₂ s₂ hr₂=>?_
   cases r₂ with
   | error e=>exact hr₂
   | ok fl₂=>
    cases fl₂ with
    | ret r=>
     obtain⟨rfl,hq2⟩:=hr₂
     repeat (any_goals (first | assumption | wp_step))
    | _=>exact hr₂.elim
  | _=>exact hr.elim
end
end PySem
namespace PyProof.Rows
open PySem
section
variable {M:Model} {A:Around} {E:YA} {s:Shared} {env:Env}
theorem VP {pos:Pos} {T:String} {e:Expr} {rest:YJ} {kws:List Keyword} {Q:YA}
  (h:wpAny M A (spliced (backTo pos (starEach (e::rest) env))) (λvs s₁=>wpAny M A (evalAll ((backToKw pos (keywordEach kws env)).map (·.2))) (λkvs s₂=>wpAny M A (call (.type T) vs (((backToKw pos (keywordEach kws env)).filterMap (·.1)).zip kvs)) Q E s₂) E s₁) E s)
  (he:backTo pos (starEach (e::rest) env)=(false,eval e env)::backTo pos (starEach rest env):=by rfl) (hplain:(backTo pos (starEach (e::rest) env)).any (·.1)=false:=by rfl)
  (hall:(backToKw pos (keywordEach kws env)).all (·.1.isSome)=true:=by rfl) (hkw:(backToKw pos (keywordEach kws env)).any (·.1.isNone)=false:=by rfl) :
  wpAny M A (callWith pos (.type T) [] (backTo pos (starEach (e::rest) env)) (backToKw pos (keywordEach kws env))) Q E s:=by
 have h2:wpAny M A (evalArgs (.type T) true (backTo pos (starEach (e::rest) env)) (backToKw pos (keywordEach kws env))) (λa s₁=>wpAny M A (call (.type T) ([]++a.pos) a.kw) Q E s₁) E s:=by
  rw[he] at h ⊢
  exact evalArgs_kwB hall h
 unfold callWith
 refine Qcu (Qca (Qcw h2 (λa s₁ h₁=>Qcu (Qcc ?_)) λ_ _ x=>x))
 simp only[hplain,hkw,Bool.or_false]
 exact Qcu (Qcv (Qcu (Qcw h₁ (λr s₂ hr=>Qcu (Qca (wpAny_point (Qcv hr)))) λ_ _ x=>x)))
end
end PyProof.Rows
namespace L2
open PySem PySem.Spec PyProof.Rows
section
variable {X:Cx}
theorem fC {pins:YC} {σ : St} {H:Hp} {s:Shared} {R:It->Hp->Prop} {E:YA} {elts:YJ} {k:Nat} {pos:Pos} {a:Addr} {lo:Nat} {tk:Nat} (I:Inv X pins σ H s) (q:R (NP X.K a lo) H) :
  wpAny (model X.prog X.w) X.A (pyIter (.ref (s.heap.objs.size+1))) (PIE X pins σ (.Tuple elts k pos) R) E
   { s with heap:=(s.heap.push { cls:=.type "tuple_iterator",data:=.fields #[.ref a,.int 0 0] }).push { cls:=.type "enumerate",data:=.fields #[.none,.bool false,.ref s.heap.objs.size,rawInt (lo:Int),.none,.none] },toks:=tk }:=by
 have hz:(s.heap.push { cls:=.type "tuple_iterator",data:=.fields #[.ref a,.int 0 0] }).objs.size=s.heap.objs.size+1:=QbS ..
 have he:IsEnum ((s.heap.push { cls:=.type "tuple_iterator",data:=.fields #[.ref a,.int 0 0] }).push { cls:=.type "enumerate",data:=.fields #[.none,.bool false,.ref s.heap.objs.size,rawInt (lo:Int),.none,.none] }) (s.heap.objs.size+1) s.heap.objs.size (lo:Int) .none:=by
  have:=QaJ (s.heap.push { cls:=.type "tuple_iterator",data:=.fields #[.ref a,.int 0 0] }) (o:={ cls:=.type "enumerate",data:=.fields #[.none,.bool false,.ref s.heap.objs.size,rawInt (lo:Int),.none,.none] }) rfl
  rw[hz] at this
  exact this
 refine wpAny_pyIter_enum he ⟨s.heap.objs.size+1,[s.heap.objs.size+1,s.heap.objs.size],_,_,H,rfl,I.kept (t':=tk) λb o e=>Qav _ (Qav _ e),fX a (s.heap.objs.size+1) s.heap.objs.size lo (Nat.succ_ne_self _),⟨⟨.none,he⟩,⟨_,Qav _ (QaJ _ rfl),rfl,rfl⟩⟩,λb hb=>?_,q⟩
 have hb':s.heap.objs.size<=b:=by
  simp only[QbX,Qbv,Qcy] at hb
  rcases hb with rfl | rfl
  ·exact Qct _
  ·exact Qcn _
 exact I.Qu hb' (I.hok.fresh hb')
end
section
variable {X:Cx}
def tX (K:YD) (lo:Nat) (tl:TE):TI:=fun σ H R=>tl σ H λx H1=>∃a,x=.ref a/\(∃xs,SqT K H1 a xs)/\R (NP K a lo) H1
theorem ji {pins:YC} {σ : St} {H:Hp} {s:Shared} {R:It->Hp->Prop} {elts:YJ} {k:Nat} {pos:Pos} {a:Addr} {xs:YG} (I:Inv X pins σ H s) (hq:SqT X.K H a xs) (q:R (NP X.K a 0) H) :
  wpAny (model X.prog X.w) X.A (call (.type "enumerate") [.ref a]) (λv s1=>wpAny (model X.prog X.w) X.A (pyIter v) (PIE X pins σ (.Tuple elts k pos) R) X.xe s1) X.xe s:=by
 obtain⟨its,rv,p,hz⟩:=I.tuple hq
 obtain⟨⟨c,dct,dt,sl⟩,hl,hc,n,hd⟩:=id p
 replace hc:c=.type "tuple":=hc
 replace hd:dt=.seq its.toArray n:=hd
 subst hc hd
 refine callType_new F.called_enumerate (by decide) (F.typeCall_enumerate_1 _) (F.newCall_enumerate_1 _) (λobj=>F.args_object_init_2 obj _) F.entry_enumerate_new (WM a its.toArray n dct sl) ⟨hl,?_⟩
 have hz:(s.heap.push { cls:=.type "tuple_iterator",data:=.fields #[.ref a,.int 0 0] }).objs.size=s.heap.objs.size+1:=QbS ..
 show _/\_
 refine⟨⟨_,QaJ _ rfl,rfl⟩,?_⟩
 rw[hz]
 exact fC (lo:=0) (tk:=s.toks) I q
end
section
variable {X:Cx}
theorem Uh {x:Expr} {tx:TE} {p pos tp:Pos} {elts:YJ} {k:Nat} (hg:Gl X "enumerate") (hm:X.mg "enumerate"=none) (hl:PE X x tx) (hs:starEach [x] X.env=[(false,eval x X.env)]:=by rfl):PI X (.Tuple elts k tp) (.Call (.Name "enumerate" p) [x] [] pos) (tX X.K 0 tx):=by
 intro pins s σ H R I h
 refine Call_ (JR I hg hm boot_enumerate (Qae (thn ((Aa hl Ac (by rw[hs];rfl)) pos pins s σ H (λvs H1=>match vs with | [v]=>∃a,v=.ref a/\(∃xs,SqT X.K H1 a xs)/\R (NP X.K a 0) H1 | _=>False) I h) λus s1 ⟨vs,H1,I1,r1,q1⟩=>?_) hs rfl))
 cases r1 with
 | nil=>exact False.elim q1
 | cons r rr=>
  cases rr with
  | nil=>
   obtain⟨a,e,⟨xs,hq⟩,q⟩:=q1
   subst e
   cases r
   exact ji I1 hq q
  | cons _ _=>exact False.elim q1
theorem jh {pins:YC} {σ : St} {H:Hp} {s:Shared} {R:It->Hp->Prop} {elts:YJ} {k:Nat} {pos:Pos} {a:Addr} {xs:YG} {t:Tok} (I:Inv X pins σ H s) (hq:SqT X.K H a xs) (q:R (NP X.K a 1) H) :
  wpAny (model X.prog X.w) X.A (call (.type "enumerate") [.ref a] [("start",.int 1 t)]) (λv s1=>wpAny (model X.prog X.w) X.A (pyIter v) (PIE X pins σ (.Tuple elts k pos) R) X.xe s1) X.xe s:=by
 obtain⟨its,rv,p,hz⟩:=I.tuple hq
 obtain⟨⟨c,dct,dt,sl⟩,hl,hc,n,hd⟩:=id p
 replace hc:c=.type "tuple":=hc
 replace hd:dt=.seq its.toArray n:=hd
 subst hc hd
 refine nO F.called_enumerate (by decide) (by kernel_rfl) (by kernel_rfl) (λobj=>?ok) F.entry_enumerate_new (Vr a its.toArray n dct sl t) ⟨hl,?_⟩
 case ok=>
  unfold argsOk
  rw[signature?_of (id:="object.__init__") (n:=['_','_','t','i','n','i','_','_']) (o:=['t','c','e','j','b','o']) (by kernel_rfl) F.owner_object]
  kernel_rfl
 have hz:(s.heap.push { cls:=.type "tuple_iterator",data:=.fields #[.ref a,.int 0 0] }).objs.size=s.heap.objs.size+1:=QbS ..
 show _/\_
 refine⟨⟨_,QaJ _ rfl,rfl⟩,?_⟩
 rw[hz]
 exact fC (lo:=1) (tk:=s.toks) I q
theorem Nj {x one:Expr} {tx:TE} {p pos tp kp:Pos} {elts:YJ} {k:Nat} (hg:Gl X "enumerate") (hm:X.mg "enumerate"=none) (hl:PE X x tx) (h1:PE X one (tC (.int 1))) (hs:starEach [x] X.env=[(false,eval x X.env)]:=by rfl)
  (hall:(backToKw pos (keywordEach [⟨some "start",one,kp⟩] X.env)).all (·.1.isSome)=true:=by rfl) (hkw:(backToKw pos (keywordEach [⟨some "start",one,kp⟩] X.env)).any (·.1.isNone)=false:=by rfl)
  (hks:(backToKw pos (keywordEach [⟨some "start",one,kp⟩] X.env)).filterMap (·.1)=(["start"]:YF):=by rfl) :
  PI X (.Tuple elts k tp) (.Call (.Name "enumerate" p) [x] [⟨some "start",one,kp⟩] pos) (tX X.K 1 tx):=by
 intro pins s σ H R I h
 refine Qbh (JR I hg hm boot_enumerate (PyProof.Rows.VP (thn ((Aa hl Ac (by rw[hs];rfl)) pos pins s σ H (λvs H1=>match vs with | [v]=>∃a,v=.ref a/\(∃xs,SqT X.K H1 a xs)/\R (NP X.K a 1) H1 | _=>False) I h) λus s1 ⟨vs,H1,I1,r1,q1⟩=>?_) (by rw[hs];rfl) (by rw[hs];rfl) hall hkw))
 refine thn ((vd h1 yh) pos pins s1 σ H1 (λks H2=>H2=H1/\ks=[.int 1]) I1 ⟨rfl,rfl⟩) λws s2 zz=>?_
 obtain⟨zs,H2,I2,rz,e2,ez⟩:=zz
 subst e2 ez
 cases rz with
 | cons rz1 rz2=>
  cases rz2
  obtain⟨t,rfl⟩:=rz1
  rw[hks]
  cases r1 with
  | nil=>exact False.elim q1
  | cons r rr=>
   cases rr with
   | nil=>
    obtain⟨a,e,⟨xs,hq⟩,q⟩:=q1
    subst e
    cases r
    exact jh I2 hq q
   | cons _ _=>exact False.elim q1
theorem Jl {K:YD} {a:Addr} {lo:Nat} {xs:YG} {g:TG} {tb:TS} {D:Ends} {σ : St} {H:Hp} (Pv:YN) (h0:Pv 0 σ H) (hl:∀i σ H',i<=xs.length->Pv i σ H'->SqT K H' a xs)
  (hs:∀i x p σ H',xs[i]?=some x->Pv i σ H'->H' p=none->g (.ref p) σ (upd H' p (.tup [.int ((lo+i:Nat):Int),x])) fun σ2 H2=>tb { D with nx:=Pv (i+1),ct:=Pv (i+1),bk:=D.nx } σ2 H2) (hd:∀ σ H',Pv xs.length σ H'->D.nx σ H') :
  ∃W:Nat->YN,(∃m,W 0 m σ H)/\∀i m σ H,W i m σ H ->
   ((NP K a lo).stop i H/\D.nx σ H)\/((NP K a lo).go i H/\∃N:YO,(∀ σ' H',N σ' H'->∃m',m' < m/\W (i+1) m' σ' H')/\∀x H',(NP K a lo).yld i H x H'->g x σ H' fun σ2 H2=>tb { D with nx:=N,ct:=N,bk:=D.nx } σ2 H2):=by
 refine⟨λi m σ H=>m=xs.length - i/\i<=xs.length/\Pv i σ H,⟨xs.length,by simp,Qco _,h0⟩,?_⟩
 rintro i m σ H ⟨rfl,hi,p⟩
 have q:=hl i σ H hi p
 by_cases hlt:i < xs.length
 ·refine .inr ⟨⟨xs,xs[i],q,by simp[hlt]⟩,Pv (i+1),fun σ3 H3 p'=>⟨xs.length - (i+1),by omega,rfl,hlt,p'⟩,λv H2 y=>?_⟩
  obtain⟨pa,x,hn,rfl,rfl,hx⟩:=y
  exact hs i x pa σ _ (hx xs q) p hn
 ·have e:i=xs.length:=by omega
  subst e
  exact .inl ⟨⟨xs,q,Qcn _⟩,hd σ H p⟩
theorem nF {K:YD} {a l:Addr} {lo:Nat} {xs:YG} {g:TG} {tt:TT} {te:TE} {Q:VK} {σ0:St} {H0:Hp} (Pv:YN)
  (h0:Pv 0 σ0 H0) (hl:∀i σ H',i<=xs.length->Pv i σ H'->SqT K H' a xs)
  (hs:∀i x p σ H',xs[i]?=some x->Pv i σ H'->H' p=none->g (.ref p) σ (upd H' p (.tup [.int ((lo+i:Nat):Int),x])) fun σ3 H3=>tt σ3 H3 λb H4=>if b=true then te σ3 H4 λy H5=>∃ys,H5 l=some (.lst ys)/\ys.length < sizeLine/\Pv (i+1) σ3 (upd H5 l (.lst (ys++[y]))) else Pv (i+1) σ3 H4)
  (hd:∀ σ H',Pv xs.length σ H'->Q (.ref l) H'):FZ (NP K a lo) g tt te Q σ0 H0 l:=by
 unfold FZ
 refine⟨λi m σ H'=>m=xs.length - i/\i<=xs.length/\Pv i σ H',⟨xs.length,by simp,Qco _,h0⟩,?_⟩
 rintro i m σ H' ⟨rfl,hi,p⟩
 have q:=hl i σ H' hi p
 by_cases hlt:i < xs.length
 ·refine .inr ⟨⟨xs,xs[i],q,by simp[hlt]⟩,Pv (i+1),fun σ3 H3 p'=>⟨xs.length - (i+1),by omega,rfl,hlt,p'⟩,λv H2 y=>?_⟩
  obtain⟨pa,x,hn,rfl,rfl,hx⟩:=y
  exact hs i x pa σ _ (hx xs q) p hn
 ·have e:i=xs.length:=by omega
  subst e
  exact .inl ⟨⟨xs,q,Qcn _⟩,hd σ H' p⟩
end
section
variable {X:Cx}
theorem range_any (bs:List Bool):((List.range bs.length).any λi=>(bs[i]?).getD false)=bs.any id:=by
 induction bs with
 | nil=>rfl
 | cons b r ih=>
  rw[Qbt,List.range_succ_eq_map,Qcb,List.any_map,Qcb]
  show ((some b).getD false || _)=_
  rw[show ((λi=>((b::r)[i]?).getD false) ∘ Nat.succ)=λi=>(r[i]?).getD false from by funext i;simp[Function.comp]]
  rw[ih]
  rfl
theorem rM (hc:X.calm=true):FW X (.builtin "any") (λxs H Q=>∃(p:Addr) (bs:List Bool),xs=[.ref p]/\SqL X.K H p (bs.map V.bl)/\Q (.bl (bs.any id)) H):=by
 intro pins s σ H xs us Q I r h
 obtain⟨p,bs,rfl,hq,q⟩:=h
 obtain⟨u,rfl,rx⟩:=vals1 r
 cases rx
 obtain⟨its,rv,pl,hz⟩:=I.list hq
 have hb:=UG rv
 have hl:=pl.isList
 have hlt:p < s.heap.objs.size:=by obtain⟨_,e,_⟩:=hl;exact Qcf e
 refine call_any_walk (Qbr hl ?_)
 refine⟨s.heap.objs.size,[s.heap.objs.size,p],[s.heap.objs.size],its.toArray.size,_,_,λi=>(bs[i]?).getD false,rfl,Walks.list (A:=X.A.in1) (I.ok.hd hc) _ p (Qch hlt) its.toArray,
  ⟨⟨_,QaJ _ rfl,rfl,rfl⟩,hl.push _⟩,λi v s' Q' E' hP hQ=>?_,λh' tk hk=>?_⟩
 ·obtain⟨b,e,rfl⟩:=hb.get i v (by simpa using hP)
  simp only[e,Option.getD_some] at hQ
  exact Qbo hQ
 ·have e:((List.range its.toArray.size).any λi=>(bs[i]?).getD false)=bs.any id:=by
   rw[Qbi,hb.length];exact range_any bs
  rw[e]
  exact⟨.bl (bs.any id),H,I.kept (LSm.kept_iter hk),rfl,q⟩
end
end L2
namespace PySem.ZZ
open PySem
section
variable {prog:Program} {w:World} {A:Around} {E:YA} {s:Shared}
theorem Uu {M:Model} {α β : Type} {Q:β->Shared->Prop} {body:α->β->Sem (ForInStep β)} (J:List α->β->Shared->Prop) (hnil:∀b s,J [] b s->Q b s)
  (hstep:∀x r b s,J (x::r) b s->wpAny M A (body x b) (λst s'=>match st with | .yield b'=>J r b' s' | .done b'=>Q b' s') E s):∀(l:List α) (b:β) (s:Shared),J l b s->wpAny M A (forIn l b body) Q E s
 | [],b,s,h=>by
  rw[List.forIn_nil]
  exact Qcv (hnil b s h)
 | x::r,b,s,h=>by
  rw[List.forIn_cons]
  refine Qcu (Qcw (hstep x r b s h) (λst s' q=>?_) λ_ _ e=>e)
  cases st with
  | yield b'=>exact Uu J hnil hstep r b' s' q
  | done b'=>exact Qcv q
structure Src where
 it:Addr
 a:Addr
 items:Array Value
def SrcAt (h:Heap) (x:Src) (i:Nat):Prop:=(h.IsListIter x.it x.a i/\h.IsList x.a x.items)\/(h.IsTupleIter x.it x.a i/\h.IsTuple x.a x.items)
theorem SrcAt.keep {h h':Heap} {x:Src} {i:Nat} (q:SrcAt h x i) (k1:∀o,h.get? x.it=some o->h'.get? x.it=some o) (k2:∀o,h.get? x.a=some o->h'.get? x.a=some o):SrcAt h' x i:=by
 rcases q with⟨q1,q2⟩|⟨q1,o,e,r⟩
 ·exact .inl ⟨q1.at k1,q2.at k2⟩
 ·exact .inr ⟨q1.at k1,o,k2 o e,r⟩
theorem SrcAt.ne {h:Heap} {x:Src} {i:Nat} (q:SrcAt h x i):x.a≠x.it:=λz=>by
 rcases q with⟨⟨o,e,c,_⟩,⟨o',e',c',_⟩⟩|⟨⟨o,e,c,_⟩,⟨o',e',c',_⟩⟩
 ·rw[z,e] at e';cases e';rw[c] at c';injection c' with y;exact absurd y (by decide)
 ·rw[z,e] at e';cases e';rw[c] at c';injection c' with y;exact absurd y (by decide)
theorem YZ {x:Src} {i:Nat} {v:Value} {Q:YA} (q:SrcAt s.heap x i) (hx:x.items[i]?=some v) (hQ:∀h',SrcAt h' x (i+1)->Heap.SameBut x.it s.heap h'->Q v { s with heap:=h' }) :
  wpAny (model prog w) A (Builtin.SmallTypes.nextOf (.ref x.it)) Q E s:=by
 have ne:=q.ne
 rcases q with⟨q1,q2⟩|⟨q1,q2⟩
 ·exact wpAny_nextOf_list_item q1 q2 hx λh' i1 sb=>hQ h' (.inl ⟨i1,q2.at λo e=>sb.extBut _ _ ne e⟩) sb
 ·exact N7 q1 q2 hx λh' i1 sb=>hQ h' (.inr ⟨i1,let ⟨o,e,r⟩:=q2;⟨o,sb.extBut _ _ ne e,r⟩⟩) sb
theorem uO {x:Src} {i:Nat} {Q:YA} (hh:A.handled=none) (q:SrcAt s.heap x i) (hx:x.items[i]?=none)
  (hE:∀h' e,Heap.ExtBut x.it s.heap h'->(∃o,h'.get? e=some o/\o.cls=.type "StopIteration")->E (.ref e) { s with heap:=h' }):wpAny (model prog w) A (Builtin.SmallTypes.nextOf (.ref x.it)) Q E s:=by
 rcases q with⟨q1,q2⟩|⟨q1,q2⟩
 ·exact wpAny_nextOf_list_end hh q1 q2 hx hE
 ·exact Km hh q1 q2 hx hE
abbrev IsZ (h:Heap) (z TI TO:Addr) (f0 f1:Value):Prop:=h.get? z=some { cls:=.type "zip",dict:=none,data:=.fields #[f0,f1,.bool false,.ref TI,.ref TO],slots:=#[] }
abbrev Dj (h:Heap) (T:Addr) (xs:YE):Prop:=h.get? T=some { cls:=.type "tuple",data:=.seq xs.toArray }
structure Apart (z TI TO:Addr) (ls:List Src):Prop where
 TIz:TI≠z
 TOz:TO≠z
 TITO:TI≠TO
 it:∀x∈ls,x.it≠z/\x.it≠TI/\x.it≠TO
 a:∀x∈ls,x.a≠z/\x.a≠TO
 ai:∀x∈ls,∀y∈ls,x.a≠y.it
 nd:(ls.map (·.it)).Nodup
def Rest (z TO:Addr) (ls:List Src) (h h':Heap):Prop:=∀c o,c≠z->c≠TO->c∉ls.map (·.it)->h.get? c=some o->h'.get? c=some o
theorem uV {xs olds:YE} {k:Nat} {v:Value} (hk:k < olds.length) (hx:xs.length=olds.length) (e:xs[k]?=some v):(xs.take k++olds.drop k).toArray.setIfInBounds k v=(xs.take (k+1)++olds.drop (k+1)).toArray:=by
 rw[List.setIfInBounds_toArray]
 congr 1
 have hl:(xs.take k).length=k:=by rw[Qbu];omega
 rw[List.set_append_right _ _ (by omega),hl,Nat.sub_self,Qai hk,QaU,List.take_add_one,e]
 simp
structure Mid (z TI TO:Addr) (ls:List Src) (xs olds:YE) (i:Nat) (f0 f1:Value) (h:Heap) (k:Nat) (h':Heap):Prop where
 hz:IsZ h' z TI TO f0 f1
 hTI:Dj h' TI (ls.map λx=>.ref x.it)
 done:∀j x,ls[j]?=some x->SrcAt h' x (if j < k then i+1 else i)
 rest:Rest z TO ls h h'
 size:h'.objs.size=h.objs.size
theorem Mid.draw {z TI TO:Addr} {ls:List Src} {xs olds:YE} {i:Nat} {f0 f1:Value} {h h1 h2:Heap} {k:Nat} {x:Src} (D:Apart z TI TO ls) (m:Mid z TI TO ls xs olds i f0 f1 h k h1) (hx:ls[k]?=some x) (q:SrcAt h2 x (i+1)) (sb:Heap.SameBut x.it h1 h2) :
  Mid z TI TO ls xs olds i f0 f1 h (k+1) h2:=by
 have hm:=QaF hx
 have hi:=D.it x hm
 refine⟨sb.extBut _ _ hi.1.symm m.hz,sb.extBut _ _ hi.2.1.symm m.hTI,λj y hy=>?_,λc o c1 c2 c3 e=>sb.extBut _ _ (λz=>c3 (z ▸ Qcg.mpr ⟨x,hm,rfl⟩)) (m.rest c o c1 c2 c3 e),by rw[sb.1,m.size]⟩
 by_cases hj:j=k
 ·subst hj
  rw[hx] at hy
  cases hy
  rw[if_pos (Qby _)]
  exact q
 ·have h1:=m.done j y hy
  have hne:y.it≠x.it:=λz=>hj (by
   have e1:(ls.map (·.it))[j]?=some y.it:=by rw[Qbk,hy];rfl
   have e2:(ls.map (·.it))[k]?=some x.it:=by rw[Qbk,hx];rfl
   rw[z] at e1
   have l1:=(Qag.mp e1)
   have l2:=(Qag.mp e2)
   exact (List.getElem_inj D.nd).mp (l1.2.trans l2.2.symm))
  have hc:(if j < k+1 then i+1 else i)=(if j < k then i+1 else i):=by
   by_cases c:j < k
   ·rw[if_pos c,if_pos (by omega)]
   ·rw[if_neg c,if_neg (by omega)]
  rw[hc]
  exact h1.keep (λo e=>sb.extBut _ _ hne e) (λo e=>sb.extBut _ _ (D.ai y (QaF hy) x hm) e)
theorem Mid.other {z TI TO:Addr} {ls:List Src} {xs olds:YE} {i:Nat} {f0 f1:Value} {h h1 h2:Heap} {k:Nat} (D:Apart z TI TO ls) (m:Mid z TI TO ls xs olds i f0 f1 h k h1) (sb:Heap.SameBut TO h1 h2):Mid z TI TO ls xs olds i f0 f1 h k h2:=by
 refine⟨sb.extBut _ _ D.TOz.symm m.hz,sb.extBut _ _ D.TITO m.hTI,λj y hy=>?_,λc o c1 c2 c3 e=>sb.extBut _ _ c2 (m.rest c o c1 c2 c3 e),by rw[sb.1,m.size]⟩
 have hm:=QaF hy
 exact (m.done j y hy).keep (λo e=>sb.extBut _ _ (D.it y hm).2.2 e) (λo e=>sb.extBut _ _ (D.a y hm).2 e)
theorem X8 {z TI TO:Addr} {ls:List Src} {xs olds:YE} {i:Nat} {f1:Value} {Q:YA} (D:Apart z TI TO ls) (hz:IsZ s.heap z TI TO .none f1) (hTI:Dj s.heap TI (ls.map λx=>.ref x.it)) (hTO:Dj s.heap TO olds)
  (hat:∀x∈ls,SrcAt s.heap x i) (hne:ls≠[]) (hl1:xs.length=ls.length) (hl2:olds.length=ls.length) (hx:∀(j:Nat) (x:Src),ls[j]?=some x->∃v,xs[j]?=some v/\x.items[i]?=some v) (hsz:ls.length<=100)
  (hQ:∀h',IsZ h' z TI TO (rawInt s.heap.objs.size) (.bool false)->Dj h' TI (ls.map λx=>.ref x.it)->Dj h' TO xs->(∀x∈ls,SrcAt h' x (i+1))->Dj h' s.heap.objs.size xs->h'.objs.size=s.heap.objs.size+1->Rest z TO ls s.heap h'->Q (.ref s.heap.objs.size) { s with heap:=h' }) :
  wpAny (model prog w) A (Builtin.«zip.__next__» ⟨[.ref z],[]⟩) (λfin s'=>∃v,fin=.done (.ret v)/\Q v s') E s:=by
 show wpAny _ _ (field (.ref z) 2 >>= _) _ _ _
 refine Qcu (Qcq hz rfl (x:=.bool false) rfl ?_)
 show wpAny _ _ (field (.ref z) 3 >>= _) _ _ _
 refine Qcu (Qcq hz rfl (x:=.ref TI) rfl ?_)
 refine Qcu (QbV hTI rfl ?_)
 dsimp only
 rw[if_neg (by cases ls with | nil=>exact absurd rfl hne | cons a r=>simp)]
 show wpAny _ _ (Builtin.SmallTypes.ownedTupleIsFree (.ref z) >>= _) _ _ _
 refine Qcu ?_
 unfold Builtin.SmallTypes.ownedTupleIsFree
 refine Qcu (Qcq hz rfl (x:=.none) rfl (Qcv ?_))
 simp only[if_true]
 refine Qcu (wpAny_rule ?_)
 refine Qcu (Qcq hz rfl (x:=.ref TO) rfl ?_)
 refine Qcu (Qbc hz (by simp) λh₁ hz₁ hs₁=>?_)
 replace hz₁ : IsZ h₁ z TI TO .ellipsis f1:=hz₁
 refine Qcu ?_
 have m0:Mid z TI TO ls xs olds i .ellipsis f1 s.heap 0 h₁:=by
  refine⟨hz₁,hs₁.extBut _ _ D.TIz hTI,λj x hj=>?_,λc o c1 _ _ e=>hs₁.extBut _ _ c1 e,hs₁.1⟩
  have hm:=QaF hj
  rw[if_neg (QbO _)]
  exact (hat x hm).keep (λo e=>hs₁.extBut _ _ (D.it x hm).1 e) (λo e=>hs₁.extBut _ _ (D.a x hm).1 e)
 have aJ : Dj h₁ TO (xs.take 0++olds.drop 0):=hs₁.extBut _ _ D.TOz hTO
 refine Uu (λl b s'=>∃k h',k<=ls.length/\l=((ls.map λx=>Value.ref x.it).drop k).zipIdx k/\b=⟨none,⟨⟩⟩/\s'={ s with heap:=h' }/\Mid z TI TO ls xs olds i .ellipsis f1 s.heap k h'/\Dj h' TO (xs.take k++olds.drop k)) (λb s' h=>?_) (λx r b s' h=>?_) _ _ _ ⟨0,h₁,Qco _,rfl,rfl,rfl,m0,aJ⟩
 ·obtain⟨k,h',hk,e1,rfl,rfl,m,hT⟩:=h
  have hkl:k=ls.length:=by
   have:=congrArg List.length e1
   rw[List.length_nil,List.length_zipIdx,Qbx,QbB] at this
   omega
  subst hkl
  rw[<-hl1,Qbs,hl1,<-hl2,List.drop_length,QbG] at hT
  dsimp only
  refine Qcu (QbV hT rfl ?_)
  refine Qcu (wpAny_newTuple ?_ (by show xs.length<=sizeLine;rw[Qcr];omega))
  have hkl:∀j x,ls[j]?=some x->SrcAt h' x (i+1):=λj x hj=>by
   have:=m.done j x hj
   rw[if_pos (Qag.mp hj).1] at this
   exact this
  have hzlt:z < h'.objs.size:=Qcf m.hz
  have hTOlt:TO < h'.objs.size:=Qcf hT
  show wpAny _ _ (Builtin.SmallTypes.ownedTupleHandOut (.ref z) (.ref h'.objs.size) >>= _) _ _ _
  refine Qcu ?_
  unfold Builtin.SmallTypes.ownedTupleHandOut
  have hz₆ : IsZ (h'.push { cls:=.type "tuple",data:=.seq xs.toArray }) z TI TO .ellipsis f1:=Qav _ m.hz
  refine Qcu (Qbc hz₆ (by simp) λh₇ hz₇ hs₇=>?_)
  replace hz₇ : IsZ h₇ z TI TO (rawInt h'.objs.size) f1:=hz₇
  refine Qbc hz₇ (by simp) λh₈ hz₈ hs₈=>?_
  replace hz₈ : IsZ h₈ z TI TO (rawInt h'.objs.size) (.bool false):=hz₈
  have up:∀c o,c≠z->h'.get? c=some o->h₈.get? c=some o:=λc o c1 e=>hs₈.extBut _ _ c1 (hs₇.extBut _ _ c1 (Qav _ e))
  have hT₈ : Dj h₈ h'.objs.size xs:=hs₈.extBut _ _ (Qck hzlt) (hs₇.extBut _ _ (Qck hzlt) (QaJ _ rfl))
  have hz8:h₈.objs.size=h'.objs.size+1:=by rw[hs₈.1,hs₇.1,QbS]
  have hsz':=m.size
  rw[hsz'] at hz₈ hT₈ hz8
  refine Qcv ⟨_,rfl,?_⟩
  show Q (.ref h'.objs.size) _
  rw[hsz']
  refine hQ h₈ hz₈ (up _ _ D.TIz m.hTI) (up _ _ D.TOz hT) (λx hm=>?_) hT₈ hz8 λc o c1 c2 c3 e=>up c o c1 (m.rest c o c1 c2 c3 e)
  obtain⟨j,hj⟩:=QaI hm
  exact (hkl j x hj).keep (λo e=>up _ o (D.it x hm).1 e) (λo e=>up _ o (D.a x hm).1 e)
 ·obtain⟨k,h',hk,e1,rfl,rfl,m,hT⟩:=h
  have hkl:k < ls.length:=by
   have:=congrArg List.length e1
   rw[Qbt,List.length_zipIdx,Qbx,QbB] at this
   omega
  obtain⟨y,hy⟩ : ∃y,ls[k]?=some y:=⟨_,Qak hkl⟩
  have hm:=QaF hy
  rw[Qai (by rw[QbB];exact hkl),List.zipIdx_cons,List.getElem_map] at e1
  have ey:ls[k]=y:=(Qag.mp hy).2
  rw[ey] at e1
  injection e1 with e1 e2
  subst e1 e2
  obtain⟨v,hv1,hv2⟩:=hx k y hy
  refine Qcu (wpAny_onRaise ?_)
  show wpAny _ _ (Builtin.SmallTypes.nextOf (.ref y.it) >>= _) _ _ _
  have q0:=m.done k y hy
  rw[if_neg (QbZ _)] at q0
  refine Qcu (YZ q0 hv2 λh2 q2 sb2=>Qcv ?_)
  have m2:=m.draw D hy q2 sb2
  have hT2:Dj h2 TO (xs.take k++olds.drop k):=sb2.extBut _ _ (D.it y hm).2.2.symm hT
  have hln:(xs.take k++olds.drop k).length<=100:=by rw[QaS,Qbu,Qbx];omega
  have hsm:=uV (xs:=xs) (olds:=olds) (k:=k) (v:=v) (by omega) (by omega) hv1
  refine Qcu (QbV hT2 rfl ?_)
  refine Qcu (wpAny_updateSeq hT2 rfl ?_ (by rw[Qbi,Qcr];omega) (by rw[hsm,Qbi,Qcr,QaS,Qbu,Qbx];omega))
  have sb3:Heap.SameBut TO h2 (h2.update TO (Obj.mapSeq λx=>x.setIfInBounds k v)):=QaQ ..
  have hT3:Dj (h2.update TO (Obj.mapSeq λx=>x.setIfInBounds k v)) TO (xs.take (k+1)++olds.drop (k+1)):=by
   show (h2.update TO _).get? TO=_
   rw[QaE _ hT2 rfl,<-hsm]
   simp[Obj.mapSeq]
  refine Qcu (wpAny_letGo (Qcv ?_))
  exact⟨k+1,_,hkl,rfl,rfl,rfl,m2.other D sb3,hT3⟩
theorem Yv {z TI TO:Addr} {ls:List Src} {olds:YE} {i:Nat} {f1:Value} {Q:Fin->Shared->Prop} (hh:A.handled=none) (D:Apart z TI TO ls) (hz:IsZ s.heap z TI TO .none f1) (hTI:Dj s.heap TI (ls.map λx=>.ref x.it)) (hTO:Dj s.heap TO olds)
  (hat:∀x∈ls,SrcAt s.heap x i) (hne:ls≠[]) (hl2:olds.length=ls.length) (hsz:ls.length<=100) (hend:∃x∈ls,x.items[i]?=none)
  (hE:∀h' e,Rest z TO ls s.heap h'->(∃o,h'.get? e=some o/\o.cls=.type "StopIteration")->E (.ref e) { s with heap:=h' }) :
  wpAny (model prog w) A (Builtin.«zip.__next__» ⟨[.ref z],[]⟩) Q E s:=by
 show wpAny _ _ (field (.ref z) 2 >>= _) _ _ _
 refine Qcu (Qcq hz rfl (x:=.bool false) rfl ?_)
 show wpAny _ _ (field (.ref z) 3 >>= _) _ _ _
 refine Qcu (Qcq hz rfl (x:=.ref TI) rfl ?_)
 refine Qcu (QbV hTI rfl ?_)
 dsimp only
 rw[if_neg (by cases ls with | nil=>exact absurd rfl hne | cons a r=>simp)]
 show wpAny _ _ (Builtin.SmallTypes.ownedTupleIsFree (.ref z) >>= _) _ _ _
 refine Qcu ?_
 unfold Builtin.SmallTypes.ownedTupleIsFree
 refine Qcu (Qcq hz rfl (x:=.none) rfl (Qcv ?_))
 simp only[if_true]
 refine Qcu (wpAny_rule ?_)
 refine Qcu (Qcq hz rfl (x:=.ref TO) rfl ?_)
 refine Qcu (Qbc hz (by simp) λh₁ hz₁ hs₁=>?_)
 replace hz₁ : IsZ h₁ z TI TO .ellipsis f1:=hz₁
 refine Qcu ?_
 have m0:Mid z TI TO ls [] olds i .ellipsis f1 s.heap 0 h₁:=by
  refine⟨hz₁,hs₁.extBut _ _ D.TIz hTI,λj x hj=>?_,λc o c1 _ _ e=>hs₁.extBut _ _ c1 e,hs₁.1⟩
  have hm:=QaF hj
  rw[if_neg (QbO _)]
  exact (hat x hm).keep (λo e=>hs₁.extBut _ _ (D.it x hm).1 e) (λo e=>hs₁.extBut _ _ (D.a x hm).1 e)
 have aJ : Dj h₁ TO olds:=hs₁.extBut _ _ D.TOz hTO
 refine Uu (λl b s'=>∃k h' ys,k<=ls.length/\l=((ls.map λx=>Value.ref x.it).drop k).zipIdx k/\b=⟨none,⟨⟩⟩/\s'={ s with heap:=h' }/\Mid z TI TO ls [] olds i .ellipsis f1 s.heap k h'/\Dj h' TO ys/\ys.length=ls.length/\∃x∈ls.drop k,x.items[i]?=none) (λb s' h=>?_) (λx r b s' h=>?_) _ _ _ ⟨0,h₁,olds,Qco _,rfl,rfl,rfl,m0,aJ,hl2,hend⟩
 ·obtain⟨k,h',ys,hk,e1,rfl,rfl,m,hT,hy,x,hx,_⟩:=h
  have:k=ls.length:=by
   have:=congrArg List.length e1
   rw[List.length_nil,List.length_zipIdx,Qbx,QbB] at this
   omega
  subst this
  rw[List.drop_length] at hx
  cases hx
 ·obtain⟨k,h',ys,hk,e1,rfl,rfl,m,hT,hys,xe,hxe,hxn⟩:=h
  have hkl:k < ls.length:=by
   have:=congrArg List.length e1
   rw[Qbt,List.length_zipIdx,Qbx,QbB] at this
   omega
  obtain⟨y,hy⟩ : ∃y,ls[k]?=some y:=⟨_,Qak hkl⟩
  have hm:=QaF hy
  rw[Qai (by rw[QbB];exact hkl),List.zipIdx_cons,List.getElem_map] at e1
  have ey:ls[k]=y:=(Qag.mp hy).2
  rw[ey] at e1
  injection e1 with e1 e2
  subst e1 e2
  refine Qcu (wpAny_onRaise ?_)
  show wpAny _ _ (Builtin.SmallTypes.nextOf (.ref y.it) >>= _) _ _ _
  have q0:=m.done k y hy
  rw[if_neg (QbZ _)] at q0
  cases hv:y.items[i]? with
  | none=>
   refine Qcu (uO hh q0 hv λh₂ e hs₂ he=>?_)
   obtain⟨oe,hoe,hce⟩:=he
   have hz₂ : IsZ h₂ z TI TO .ellipsis f1:=hs₂ _ _ (D.it y hm).1.symm m.hz
   have hez:e≠z:=λx=>by subst x;rw[hz₂] at hoe;cases hoe;simp at hce
   refine Qbc hz₂ (by simp) λh₃ _ hs₃=>hE h₃ e (λc o c1 c2 c3 x=>hs₃.extBut _ _ c1 (hs₂ _ _ (λq=>c3 (q ▸ Qcg.mpr ⟨y,hm,rfl⟩)) (m.rest c o c1 c2 c3 x))) ⟨oe,hs₃.extBut _ _ hez hoe,hce⟩
  | some v=>
   refine Qcu (YZ q0 hv λh2 q2 sb2=>Qcv ?_)
   have m2:=m.draw D hy q2 sb2
   have hT2:Dj h2 TO ys:=sb2.extBut _ _ (D.it y hm).2.2.symm hT
   refine Qcu (QbV hT2 rfl ?_)
   refine Qcu (wpAny_updateSeq hT2 rfl ?_ (by rw[Qbi,Qcr];omega) (by rw[Array.size_setIfInBounds,Qbi,Qcr];omega))
   have sb3:Heap.SameBut TO h2 (h2.update TO (Obj.mapSeq λx=>x.setIfInBounds k v)):=QaQ ..
   have hT3:Dj (h2.update TO (Obj.mapSeq λx=>x.setIfInBounds k v)) TO (ys.set k v):=by
    show (h2.update TO _).get? TO=_
    rw[QaE _ hT2 rfl,<-List.setIfInBounds_toArray]
    simp[Obj.mapSeq]
   refine Qcu (wpAny_letGo (Qcv ?_))
   refine⟨k+1,_,ys.set k v,hkl,rfl,rfl,rfl,m2.other D sb3,hT3,by rw[List.length_set];exact hys,xe,?_,hxn⟩
   rw[Qai hkl,ey] at hxe
   rcases QbX.mp hxe with z | z
   ·subst z;rw[hv] at hxn;cases hxn
   ·exact z
theorem gM {z TI TO:Addr} {f0 f1:Value} {Q:Option Value->Shared->Prop} (hz:IsZ s.heap z TI TO f0 f1) {Qi:YA} (h:wpAny (model prog w) A.in1 (Builtin.«zip.__next__» ⟨[.ref z],[]⟩) (λfin s'=>∃v,fin=.done (.ret v)/\Qi v s') (λ_ _=>False) s) (hQ:∀v s',Qi v s'->Q (some v) s') :
  wpAny (model prog w) A (pyNext (.ref z)) Q E s:=by
 have hT:s.TypeIs (.ref z) "zip":=⟨_,hz,rfl⟩
 unfold pyNext
 refine Qcu (Qcd (Qaq (name:=Str.ofString "__next__") hT F.slot_zip_next (Qbw F.slot_zip_next hT F.entry_zip_next (Qcw h (λfin s' q=>?_) λ_ _ f=>f.elim) (F.args_zip_next_1 _))))
 obtain⟨v,e,q⟩:=q
 exact⟨v,e,Qcv (hQ v s' q)⟩
theorem Wu {z TI TO:Addr} {f0 f1:Value} {Q:Option Value->Shared->Prop} {R:Heap->Prop} (hz:IsZ s.heap z TI TO f0 f1)
  (h:wpAny (model prog w) A.in1 (Builtin.«zip.__next__» ⟨[.ref z],[]⟩) (λ_ _=>False) (λv s'=>∃h' e,v=.ref e/\s'={ s with heap:=h' }/\R h'/\∃o,h'.get? e=some o/\o.cls=.type "StopIteration") s) (hQ:∀h',R h'->Q none { s with heap:=h' }) :
  wpAny (model prog w) A (pyNext (.ref z)) Q E s:=by
 have hT:s.TypeIs (.ref z) "zip":=⟨_,hz,rfl⟩
 unfold pyNext
 refine Qcu (Qcd (Qaq (name:=Str.ofString "__next__") hT F.slot_zip_next (Qbw F.slot_zip_next hT F.entry_zip_next (Qcw h (λ_ _ f=>f.elim) λv s' q=>?_) (F.args_zip_next_1 _))))
 obtain⟨h',e,rfl,rfl,r,o,ho,hc⟩:=q
 exact Qcu (wpAny_isInstance (T:="StopIteration") (b:=true) ⟨o,ho,hc⟩ isSubtype_stop (Qcv (hQ _ r)))
theorem Ve {z TI TO:Addr} {f0 f1:Value} {Q:YA} (hz:IsZ s.heap z TI TO f0 f1) (h:Q (.ref z) s):wpAny (model prog w) A (pyIter (.ref z)) Q E s:=by
 have hT:s.TypeIs (.ref z) "zip":=⟨_,hz,rfl⟩
 refine wpAny_pyIter_slot hT F.slot_zip_iter (Qbw F.slot_zip_iter hT F.entry_zip_iter ?_ (F.args_zip_iter_1 _))
 show wpAny _ _ (ret (.ref z)) _ _ s
 exact Qcv ⟨_,rfl,"zip",_,hT,F.slot_zip_next.lookup,h⟩
theorem lD {elts:YJ} {x1} {pos:Pos} {z TI TO T:Addr} {f1:Value} {Q:YH} (hz:IsZ s.heap z TI TO (rawInt T) f1)
  (hQ:∀h',IsZ h' z TI TO .none f1->Heap.SameBut z s.heap h'->Q () { s with heap:=h' }):wpAny (model prog w) A (letOwnedTupleGo (.Tuple elts x1 pos) (.ref z) (.ref T)) Q E s:=by
 unfold letOwnedTupleGo
 refine Qcu (wpAny_load hz ?_)
 show wpAny _ _ (if (["enumerate","zip","dict_itemiterator","dict_reverseitemiterator","odict_iterator","itertools.zip_longest","itertools.pairwise"].contains "zip" &&
   (#[rawInt T,f1,.bool false,.ref TI,.ref TO]:Array Value)[0]? == some (rawInt T))=true then _ else _) Q E s
 rw[if_pos (by simp)]
 refine Qcu (wpAny_rule ?_)
 show wpAny _ _ (setField (.ref z) 0 .none) Q E s
 exact Qbc hz (by simp) λh' hz' hs'=>hQ h' hz' hs'
end
end PySem.ZZ
namespace PySem
namespace F
end F
end PySem
namespace PySem.ZZ
open PySem
def RT (h:Heap) (a:Addr) (xs:Array Value) (c:String):Prop:=(c="list_iterator"/\h.IsList a xs)\/(c="tuple_iterator"/\h.IsTuple a xs)
theorem RT.src {h h':Heap} {a it:Addr} {xs:Array Value} {c:String} (q:RT h a xs c) (k:∀o,h.get? a=some o->h'.get? a=some o) (e:h'.get? it=some { cls:=.type c,data:=.fields #[.ref a,.int 0 0] }):SrcAt h' ⟨it,a,xs⟩ 0:=by
 rcases q with⟨rfl,q⟩|⟨rfl,o,ho,r⟩
 ·exact .inl ⟨⟨_,e,rfl,rfl⟩,q.at k⟩
 ·exact .inr ⟨⟨_,e,rfl,rfl⟩,o,k o ho,r⟩
theorem RT.lt {h:Heap} {a:Addr} {xs:Array Value} {c:String} (q:RT h a xs c):a < h.objs.size:=by
 rcases q with⟨rfl,o,e,_⟩|⟨rfl,o,e,_⟩
 ·exact Qcf e
 ·exact Qcf e
abbrev itO (c:String) (l:Addr):Obj:={ cls:=.type c,data:=.fields #[.ref l,.int 0 0] }
abbrev tuO (xs:Array Value):Obj:={ cls:=.type "tuple",data:=.seq xs }
abbrev z2a (h:Heap) (c1 c2:String) (l1 l2:Addr):Heap:=((((h.push (itO c1 l1)).push (itO c2 l2)).push (tuO #[.ref h.objs.size,.ref (h.push (itO c1 l1)).objs.size])).push (tuO #[.none,.none]))
abbrev z2 (h:Heap) (c1 c2:String) (l1 l2:Addr):Heap:=(z2a h c1 c2 l1 l2).push
 { cls:=.type "zip",data:=.fields #[.none,.bool false,.bool false,.ref ((h.push (itO c1 l1)).push (itO c2 l2)).objs.size,.ref (((h.push (itO c1 l1)).push (itO c2 l2)).push (tuO #[.ref h.objs.size,.ref (h.push (itO c1 l1)).objs.size])).objs.size] }
theorem iG (l1 l2:Addr) (xs ys:Array Value) (c1 c2:String):Meets (Builtin.«zip.__new__» ⟨[.type "zip",.ref l1,.ref l2],[]⟩) (λ_ R s=>RT s.heap l1 xs c1/\RT s.heap l2 ys c2/\R (.ok (.ret (.ref (z2a s.heap c1 c2 l1 l2).objs.size))) { s with heap:=z2 s.heap c1 c2 l1 l2 }):=
 .of_wp λprog w A R s h=>by
  obtain⟨hp,g,d,tk,os⟩:=s
  obtain⟨hl1,hl2,h⟩:=h
  have hsub:=sub_zip
  rcases hl1 with⟨rfl,hl1⟩|⟨rfl,hl1⟩
  ·have hL1:Heap.IsList (Shared.heap ⟨hp,g,d,tk,os⟩) l1 xs:=hl1
   rcases hl2 with⟨rfl,hl2⟩|⟨rfl,hl2⟩
   ·have hL2:Heap.IsList (Shared.heap ⟨hp.push (itO "list_iterator" l1),g,d,tk,os⟩) l2 ys:=Heap.IsList.push hl2 _
    wp_walk using Qbr hL1,Qbr hL2
    exact⟨_,rfl,h⟩
   ·have hL2:Heap.IsTuple (Shared.heap ⟨hp.push (itO "list_iterator" l1),g,d,tk,os⟩) l2 ys:=Heap.IsTuple.push hl2 _
    wp_walk using Qbr hL1,Qbb hL2
    exact⟨_,rfl,h⟩
  ·have hL1:Heap.IsTuple (Shared.heap ⟨hp,g,d,tk,os⟩) l1 xs:=hl1
   rcases hl2 with⟨rfl,hl2⟩|⟨rfl,hl2⟩
   ·have hL2:Heap.IsList (Shared.heap ⟨hp.push (itO "tuple_iterator" l1),g,d,tk,os⟩) l2 ys:=Heap.IsList.push hl2 _
    wp_walk using Qbb hL1,Qbr hL2
    exact⟨_,rfl,h⟩
   ·have hL2:Heap.IsTuple (Shared.heap ⟨hp.push (itO "tuple_iterator" l1),g,d,tk,os⟩) l2 ys:=Heap.IsTuple.push hl2 _
    wp_walk using Qbb hL1,Qbb hL2
    exact⟨_,rfl,h⟩
abbrev z3a (h:Heap) (c1 c2 c3:String) (l1 l2 l3:Addr):Heap:=(((((h.push (itO c1 l1)).push (itO c2 l2)).push (itO c3 l3)).push (tuO #[.ref h.objs.size,.ref (h.push (itO c1 l1)).objs.size,.ref ((h.push (itO c1 l1)).push (itO c2 l2)).objs.size])).push (tuO #[.none,.none,.none]))
abbrev z3 (h:Heap) (c1 c2 c3:String) (l1 l2 l3:Addr):Heap:=(z3a h c1 c2 c3 l1 l2 l3).push
 { cls:=.type "zip",data:=.fields #[.none,.bool false,.bool false,.ref (((h.push (itO c1 l1)).push (itO c2 l2)).push (itO c3 l3)).objs.size,.ref ((((h.push (itO c1 l1)).push (itO c2 l2)).push (itO c3 l3)).push (tuO #[.ref h.objs.size,.ref (h.push (itO c1 l1)).objs.size,.ref ((h.push (itO c1 l1)).push (itO c2 l2)).objs.size])).objs.size] }
structure BN (h:Heap) (z TI TO:Addr) (ls:List Src) (h':Heap):Prop where
 hz:IsZ h' z TI TO .none (.bool false)
 hTI:Dj h' TI (ls.map λx=>.ref x.it)
 hTO:Dj h' TO (ls.map λ_=>.none)
 at_:∀x∈ls,SrcAt h' x 0
 ap:Apart z TI TO ls
 new:h.objs.size<=z/\h.objs.size<=TI/\h.objs.size<=TO/\∀x∈ls,h.objs.size<=x.it
 keep:∀c o,h.get? c=some o->h'.get? c=some o
theorem na {a b:Nat} (h:a≠b):@Ne Addr a b:=h
theorem apart2 {n l1 l2:Nat} {xs ys:Array Value} (a1:l1 < n) (a2:l2 < n):Apart (n+1+1+1+1:Nat) (n+1+1:Nat) (n+1+1+1:Nat) [⟨n,l1,xs⟩,⟨(n+1:Nat),l2,ys⟩]:=by
 refine⟨na (by omega),na (by omega),na (by omega),λx hx=>?_,λx hx=>?_,λx hx y hy=>?_,?_⟩
 ·rcases QbX.mp hx with rfl | hx
  ·exact⟨na (by dsimp only;omega),na (by dsimp only;omega),na (by dsimp only;omega)⟩
  ·cases QaX.mp hx
   exact⟨na (by dsimp only;omega),na (by dsimp only;omega),na (by dsimp only;omega)⟩
 ·rcases QbX.mp hx with rfl | hx
  ·exact⟨na (by dsimp only;omega),na (by dsimp only;omega)⟩
  ·cases QaX.mp hx
   exact⟨na (by dsimp only;omega),na (by dsimp only;omega)⟩
 ·rcases QbX.mp hx with rfl | hx
  ·rcases QbX.mp hy with rfl | hy
   ·exact na (by dsimp only;omega)
   ·cases QaX.mp hy
    exact na (by dsimp only;omega)
  ·cases QaX.mp hx
   rcases QbX.mp hy with rfl | hy
   ·exact na (by dsimp only;omega)
   ·cases QaX.mp hy
    exact na (by dsimp only;omega)
 ·show List.Nodup ([n,n+1]:List Nat)
  simp
section
variable {prog:Program} {w:World} {A:Around} {E:YA} {s:Shared}
theorem nG {l1 l2:Addr} {xs ys:Array Value} {c1 c2:String} {Q:YA} (hl1:RT s.heap l1 xs c1) (hl2:RT s.heap l2 ys c2)
  (h:∀h' z TI TO i1 i2,BN s.heap z TI TO [⟨i1,l1,xs⟩,⟨i2,l2,ys⟩] h'->Q (.ref z) { s with heap:=h' }):wpAny (model prog w) A (call (.type "zip") [.ref l1,.ref l2]) Q E s:=by
 refine callType_new F.called_zip (by decide) (F.typeCall_zip_2 _ _) (F.newCall_zip_2 _ _) (λobj=>F.args_object_init_3 obj _ _) F.entry_zip_new (iG l1 l2 xs ys c1 c2) ⟨hl1,hl2,?_⟩
 have g5:(z2 s.heap c1 c2 l1 l2).get? (z2a s.heap c1 c2 l1 l2).objs.size=some _:=QaJ _ rfl
 have g4:(z2 s.heap c1 c2 l1 l2).get? (((s.heap.push (itO c1 l1)).push (itO c2 l2)).push (tuO #[.ref s.heap.objs.size,.ref (s.heap.push (itO c1 l1)).objs.size])).objs.size=some (tuO #[.none,.none]):=Qav _ (QaJ _ rfl)
 have g3:(z2 s.heap c1 c2 l1 l2).get? ((s.heap.push (itO c1 l1)).push (itO c2 l2)).objs.size=some (tuO #[.ref s.heap.objs.size,.ref (s.heap.push (itO c1 l1)).objs.size]):=Qav _ (Qav _ (QaJ _ rfl))
 have g2:(z2 s.heap c1 c2 l1 l2).get? (s.heap.push (itO c1 l1)).objs.size=some (itO c2 l2):=Qav _ (Qav _ (Qav _ (QaJ _ rfl)))
 have g1:(z2 s.heap c1 c2 l1 l2).get? s.heap.objs.size=some (itO c1 l1):=Qav _ (Qav _ (Qav _ (Qav _ (QaJ _ rfl))))
 have kp:∀c o,s.heap.get? c=some o->(z2 s.heap c1 c2 l1 l2).get? c=some o:=λc o x=>Qav _ (Qav _ (Qav _ (Qav _ (Qav _ x))))
 have a1:=hl1.lt
 have a2:=hl2.lt
 refine⟨⟨_,g5,rfl⟩,h _ _ _ _ s.heap.objs.size (s.heap.push (itO c1 l1)).objs.size ⟨g5,g3,g4,?_,?_,?_,kp⟩⟩
 ·intro x hx
  rcases QbX.mp hx with rfl | hx
  ·exact hl1.src (λo e=>kp _ _ e) g1
  ·rcases QbX.mp hx with rfl | hx
   ·exact hl2.src (λo e=>kp _ _ e) g2
   ·cases hx
 ·simp only[QbS]
  exact apart2 a1 a2
 ·simp only[QbS,QbX,Qbv,Qcy,forall_eq_or_imp,forall_eq];omega
end
end PySem.ZZ
namespace PySem
namespace F
end F
end PySem
namespace PySem.ZZ
open PySem
section
variable {prog:Program} {w:World} {A:Around} {E:YA} {s:Shared}
structure Run (hb:Heap) (z TI TO:Addr) (ls:List Src) (rows:Nat->YE) (S:Addr) (ts:List Addr) (h:Heap):Prop where
 inc:ts.Pairwise (· < ·)
 lo:∀t∈ts,S < t/\t < h.objs.size
 at_:∀j t,ts[j]?=some t->Dj h t (rows j)
 keep:∀c o,hb.get? c=some o->h.get? c=some o
 hTI:Dj h TI (ls.map λx=>.ref x.it)
 hTO:∃olds,Dj h TO olds/\olds.length=ls.length
 src:∀x∈ls,SrcAt h x ts.length
 hz:(ts=[]/\IsZ h z TI TO .none (.bool false))\/∃(T:Addr) (f1:Value),ts[0]?=some T/\IsZ h z TI TO (rawInt T) f1
structure Below (hb:Heap) (z TI TO:Addr) (ls:List Src) (S:Addr):Prop where
 ap:Apart z TI TO ls
 old:hb.objs.size<=z/\hb.objs.size<=TI/\hb.objs.size<=TO/\∀x∈ls,hb.objs.size<=x.it
 lz:z < S
 lTI:TI < S
 lTO:TO < S
 it:∀x∈ls,x.it < S/\x.a < S
 base:hb.objs.size<=S
theorem Run.frame {hb:Heap} {z TI TO:Addr} {ls:List Src} {rows:Nat->YE} {S:Addr} {ts:List Addr} {h h':Heap} (B:Below hb z TI TO ls S) (r:Run hb z TI TO ls rows S ts h) (hs:h'.objs.size=h.objs.size) (k:∀c o,c≠S->h.get? c=some o->h'.get? c=some o):Run hb z TI TO ls rows S ts h':=by
 obtain⟨olds,o1,o2⟩:=r.hTO
 refine⟨r.inc,λt ht=>by rw[hs];exact r.lo t ht,λj t e=>k _ _ (Qck (r.lo t (QaF e)).1) (r.at_ j t e),λc o e=>k _ _ (Qch (QaZ (Qcf e) B.base)) (r.keep c o e),k _ _ (Qch B.lTI) r.hTI,⟨olds,k _ _ (Qch B.lTO) o1,o2⟩,λx hx=>?_,?_⟩
 ·exact (r.src x hx).keep (λo e=>k _ _ (Qch (B.it x hx).1) e) (λo e=>k _ _ (Qch (B.it x hx).2) e)
 ·rcases r.hz with⟨e,q⟩|⟨T,f1,e,q⟩
  ·exact .inl ⟨e,k _ _ (Qch B.lz) q⟩
  ·exact .inr ⟨T,f1,e,k _ _ (Qch B.lz) q⟩
theorem Run.more {hb:Heap} {z TI TO:Addr} {ls:List Src} {rows:Nat->YE} {S:Addr} {ts:List Addr} {h h':Heap} (B:Below hb z TI TO ls S) (r:Run hb z TI TO ls rows S ts h) (hS:S < h.objs.size) (hs:h'.objs.size=h.objs.size+1) (hr:Rest z TO ls h h')
  (hTI:Dj h' TI (ls.map λx=>.ref x.it)) (hTO:∃olds,Dj h' TO olds/\olds.length=ls.length) (src:∀x∈ls,SrcAt h' x (ts.length+1)) (new:Dj h' h.objs.size (rows ts.length)) (hz:∃(T:Addr) (f1:Value),(ts++[h.objs.size])[0]?=some T/\IsZ h' z TI TO (rawInt T) f1):Run hb z TI TO ls rows S (ts++[h.objs.size]) h':=by
 have fr:∀t,S < t->t≠z/\t≠TO/\t∉ls.map (·.it):=λt ht=>⟨λe=>by rw[e] at ht;exact Nat.lt_asymm ht B.lz,λe=>by rw[e] at ht;exact Nat.lt_asymm ht B.lTO,λe=>by
  obtain⟨x,hx,e'⟩:=Qcg.mp e
  rw[<-e'] at ht
  exact Nat.lt_asymm ht (B.it x hx).1⟩
 refine⟨?_,λt ht=>?_,λj t e=>?_,λc o e=>?_,hTI,hTO,λx hx=>by rw[QaS];exact src x hx,.inr hz⟩
 ·exact List.pairwise_append.mpr ⟨r.inc,Qat _ _,λa ha b hb'=>by
   have:b=h.objs.size:=by simpa using hb'
   rw[this]
   exact (r.lo a ha).2⟩
 ·rw[hs]
  rcases QbC.mp ht with ht | ht
  ·have:=r.lo t ht;exact⟨this.1,Nat.lt_succ_of_lt this.2⟩
  ·have:t=h.objs.size:=by simpa using ht
   rw[this]
   exact⟨hS,Qby _⟩
 ·by_cases c:j < ts.length
  ·rw[List.getElem?_append_left c] at e
   have hlo:=r.lo t (QaF e)
   obtain⟨f1,f2,f3⟩:=fr t hlo.1
   exact hr t _ f1 f2 f3 (r.at_ j t e)
  ·rw[List.getElem?_append_right (Nat.le_of_not_lt c)] at e
   have hj:j - ts.length=0:=by
    have:=(Qag.mp e).1
    rw[QaC] at this
    omega
   rw[hj] at e
   cases e
   have:j=ts.length:=by omega
   rw[this]
   exact new
 ·have hlt:=Qcf e
  refine hr c o (λq=>?_) (λq=>?_) (λq=>?_) (r.keep c o e)
  ·rw[q] at hlt;exact absurd hlt (Nat.not_lt.mpr B.old.1)
  ·rw[q] at hlt;exact absurd hlt (Nat.not_lt.mpr B.old.2.2.1)
  ·obtain⟨x,hx,e'⟩:=Qcg.mp q
   rw[<-e'] at hlt
   exact absurd hlt (Nat.not_lt.mpr (B.old.2.2.2 x hx))
end
end PySem.ZZ
namespace PySem.ZZ
open PySem
section
variable {prog:Program} {w:World} {A:Around} {E:YA} {s:Shared}
structure Rows (ls:List Src) (n:Nat) (rows:Nat->YE):Prop where
 row:∀j,j < n->(rows j).length=ls.length/\∀(k:Nat) (x:Src),ls[k]?=some x->∃v,(rows j)[k]?=some v/\x.items[j]?=some v
 stop:∃x∈ls,x.items[n]?=none
 ne:ls≠[]
 few:ls.length<=100
 most:n<=1000
end
end PySem.ZZ
namespace L2
open PySem PySem.Spec PyProof.Rows
theorem GQ {h:Heap} {p q:Addr} {o o':Obj} (e:h.get? p=some o) (e':h.get? q=some o') (n:o.cls≠o'.cls):p≠q:=λz=>by
 rw[z,e'] at e
 cases e
 exact n rfl
theorem Ko {h:Heap} {a:Addr} {xs ys:Array Value} (h1:h.IsList a xs) (h2:h.IsTuple a ys):False:=by
 obtain⟨o,e,c,_⟩:=h1
 obtain⟨o',e',c',_⟩:=h2
 rw[e'] at e
 cases e
 rw[c'] at c
 injection c with q
 exact absurd q (by decide)
section
variable {X:Cx}
end
mutual
inductive Jo (K:YD) (H:Hp):V->PyData->Prop
 | non:Jo K H .non .none
 | bl (b:Bool):Jo K H (.bl b) (.bool b)
 | int (i:Int):Jo K H (.int i) (.int i)
 | str (x:Str):Jo K H (.str x) (.str x)
 | tup {a:Addr} {xs:YG} {ds:List PyData}:SqT K H a xs->Jb K H xs ds->Jo K H (.ref a) (.tuple ds)
inductive Jb (K:YD) (H:Hp):YG->List PyData->Prop
 | nil:Jb K H [] []
 | cons {x:V} {d:PyData} {xs:YG} {ds:List PyData}:Jo K H x d->Jb K H xs ds->Jb K H (x::xs) (d::ds)
end
section
variable {X:Cx} {pins:YC} {σ : St} {H:Hp} {s:Shared}
mutual
theorem Jo.reads (I:Inv X pins σ H s):∀{v:V} {d:PyData} {u:Value},Jo X.K H v d->RelV v u->∃as,Reads s.heap u d as
 | _,_,_,.non,r=>by cases (show _=Value.none from r);exact⟨_,.none⟩
 | _,_,_,.bl b,r=>by cases (show _=Value.bool b from r);exact⟨_,.bool b⟩
 | _,_,_,.int i,r=>by obtain⟨t,rfl⟩:=(show ∃t,_=Value.int i t from r);exact⟨_,.int i t⟩
 | _,_,_,.str x,r=>by obtain⟨t,rfl⟩:=(show ∃t,_=Value.str x t from r);exact⟨_,.str x t⟩
 | _,_,_,.tup (a:=a) (xs:=xs) e q,r=>by
  cases (show _=Value.ref a from r)
  obtain⟨its,rv,⟨o,ho,hc,n,hd⟩,_⟩:=I.tuple e
  obtain⟨as,z⟩:=Jb.reads I q rv
  exact⟨_,.tuple ho hc hd (by simpa using z)⟩
theorem Jb.reads (I:Inv X pins σ H s):∀{xs:YG} {ds:List PyData} {us:YE},Jb X.K H xs ds->Vals xs us->∃as,ReadsAll s.heap us ds as
 | _,_,_,.nil,.nil=>⟨_,.nil⟩
 | _,_,_,.cons p q,.cons r t=>by
  obtain⟨as,a1⟩:=Jo.reads I p r
  obtain⟨bs,b1⟩:=Jb.reads I q t
  exact⟨_,.cons a1 b1⟩
end
end
section
variable {X:Cx} {K:YD}
theorem j9 (h:X.K=K) (hu:X.A.units+64 < cLine):OpR X (compareOp .Eq) (λx y H Q=>∃d e,Jo K H x d/\Jo K H y e/\SeqAt.shaped d=true/\SeqAt.shaped e=true/\Q (.bl (PyData.eqv d e)) H):=by
 subst h
 intro pins s σ H x y v u Q I rx ry h
 obtain⟨d,e,p,p',sd,se,q⟩:=h
 obtain⟨as,r1⟩:=p.reads I rx
 obtain⟨bs,r2⟩:=p'.reads I ry
 exact eq_dataH r1 r2 sd se hu ⟨.bl (PyData.eqv d e),H,I,rfl,q⟩
theorem Fp {es:YJ} {k:Nat} {pos:Pos} {t:TGs} {n:Nat} (hK:X.K=K) (hc:X.calm=true) (h:PGs X es t)
  (hn:(assignEach es X.env).length=n:=by rfl) (hst:(assignEach es X.env).findIdx? (·.1)=none:=by rfl):PG X (.Tuple es k pos) (zM K n t):=hK ▸ Cv hc h hn hst
end
end L2
namespace L2
open PySem PySem.Spec PyProof.Rows
abbrev sy:YE:=[.type "ValueError",.type "Exception",.type "BaseException",.type "object"]
structure XCl (K:YD) (C:Addr):Prop where
 ex:PySem.W.excIn K C sy "ValueError.__new__"=true
 ga:findIn K (.ref C) "__getattribute__"=some (some (.builtin "BaseException.__getattribute__"))
 gn:findIn K (.ref C) "__getattr__"=some none
 ca:findIn K (.ref C) "__class__"=some (some (.builtin "object.__class__"))
 mo:PySem.W.subIn K (.ref C) (.type "object")=some true
 mb:PySem.W.subIn K (.ref C) (.type "BaseException")=some true
 kp:keepIn K (.ref C)=true
section
variable {K:YD} {C:Addr}
theorem XCl.obj (T:XCl K C) {h:Heap} (X:K.In h):∃bm N nm q bs hdct sn sub ab col dd k0 k1 k2 k3 k5 mN,h.get? C=some (excClassObj nm q C N bs bm hdct sn sub ab col dd k0 k1 k2 k3 k5 "ValueError.__new__")/\h.Ns N mN/\mN "__init__"=none/\OwnTail h sy bm:=by
 have q:=T.ex
 unfold PySem.W.excIn at q
 split at q
 ·rename_i dd cd sl ho
  split at q
  ·rename_i C' bm k0 k1 k2 k3 n k5 hm hs
   simp only[Qbz,beq_iff_eq,Bool.not_eq_true'] at q
   obtain⟨⟨⟨⟨⟨rfl,rfl⟩,hdel⟩,ht⟩,hok⟩,hni⟩:=q
   obtain⟨nm,bs,mro,ns,qn,hd,sn,sub,ab,col,del⟩:=cd
   dsimp only at hm hdel hok hni
   subst hm hdel
   have hsl:sl=#[k0,k1,k2,k3,some (.builtin "ValueError.__new__"),k5]:=by
    obtain⟨l⟩:=sl
    simp only at hs
    rw[hs]
   subst hsl
   exact⟨bm,ns,nm,qn,bs,hd,sn,sub,ab,col,dd,k0,k1,k2,k3,k5,_,X _ _ ho,.of_isNs (PySem.W.isNs_of_in X hok),PySem.W.nsMap_none_of_in X hok hni,PySem.W.tail_of_in X ht⟩
  ·cases q
 ·cases q
end
def XAt (a C:Addr) (h:Heap):Prop:=∃o vs,h.get? a=some o/\o.cls=.ref C/\o.data=.fields vs/\vs[2]?=some .none
section
variable {prog:Program} {w:World} {A:Around} {E:YA} {h:Heap} {g:Array GenState} {d:Drawn} {t:Nat} {os:OsState} {K:YD} {a C:Addr} {o:Obj}
end
def xo (a C:Addr):HO:=.ext (XAt a C)
section
variable {X:Cx} {pins:YC} {σ : St} {H:Hp} {s:Shared}
end
def XT (B:Heap) (e C:Addr) (fl:Option Value) (h:Heap):Prop:=
 ∃oe vs,h.get? e=some oe/\oe.cls=.ref C/\oe.data=.fields vs/\vs[2]?=some .none /\
  match fl with
  | none=>vs[1]?=some .none
  | some f=>∃T oT ts,vs[1]?=some (.ref T)/\B.get? T=none/\T≠e/\h.get? T=some oT/\oT.data=.fields ts/\ts[3]?=some f
theorem XT.at {B h:Heap} {e C:Addr} {fl:Option Value} (x:XT B e C fl h):XAt e C h:=by
 obtain⟨oe,vs,h1,h2,h3,h4,_⟩:=x
 exact⟨oe,vs,h1,h2,h3,h4⟩
section
variable {M:Model} {A:Around} {E:YA} {s:Shared} {B:Heap} {env:Env} {outer l:List Env} {L e C:Addr} {Q:YH}
end
theorem Bv.there {P:Program} {w:World} {H:Hp} {h:Heap} {a:Addr} {o:HO} (x:Bv P w H h a o):∃u,h.get? a=some u:=by
 cases o with
 | lst xs=>obtain⟨_,its,n,_,q⟩:=x;exact⟨_,q⟩
 | tup xs=>obtain⟨_,its,_,ob,q,_⟩:=x;exact⟨_,q⟩
 | dK kvs=>obtain⟨_,_,vs,_,ob,es,ep,q,_⟩:=x;exact⟨_,q⟩
 | dT kvs=>obtain⟨_,_,xs,_,ob,es,ep,q,_⟩:=x;exact⟨_,q⟩
 | set S n=>obtain⟨ob,es,ep,t,q,_⟩:=x;exact⟨_,q⟩
 | ins C dx fs=>obtain⟨_,_,_,q,_⟩:=x;exact⟨_,q⟩
 | own y=>exact x
 | xd fs=>obtain⟨mA,⟨od,es,ep,q,_⟩,_⟩:=x;exact⟨_,q⟩
 | rng lo hi=>obtain⟨t,u,v,q⟩:=x;exact⟨_,q⟩
 | frz ob u=>exact⟨_,x.1⟩
 | tbl ps=>exact⟨_,x⟩
 | met f y=>exact⟨_,x⟩
 | ext φ=>exact x.2.1
section
variable {P:Program} {w:World} {outer:List Env} {H H':Hp} {s s':Shared} {e C:Addr} {B h2:Heap} {fl:Option Value}
end
section
variable {X:Cx} {pins:YC} {σ : St} {H H':Hp} {s s':Shared} {e C:Addr} {B h2:Heap} {fl:Option Value}
end
section
variable {M:Model} {A:Around} {E:YA} {h:Heap} {g:Array GenState} {d:Drawn} {t:Nat} {os:OsState} {K:YD} {e C HC:Addr}
end
abbrev Cx.by (X:Cx) (pn:YC) (E:YA):Cx:={ X with pn:=pn,xe:=E }
section
variable {X:Cx} {pins gP pn:YC} {σ : St} {H:Hp} {s:Shared} {E:YA} {ev:Value}
theorem Inv.by (I:Inv X pins σ H s) (E:YA):Inv (X.by (X.pn++pins) E) [] σ H s:=
 ⟨⟨I.ok.mod,I.ok.kind,I.ok.glob,I.ok.blt,I.ok.above,I.ok.inj,I.ok.has,I.ok.cab,I.ok.hd,I.ok.frames,I.ok.stk,I.ok.exf,I.ok.bs,I.ok.bsz,I.ok.Wz,I.ok.RG,I.ok.JW,I.ok.frf⟩,I.os,I.bare,I.base,I.loc,I.cell,I.free,I.HN,
  λp hp=>I.pin p (by simpa using hp),I.hok,I.len⟩
end
end L2
namespace L2
open PySem PySem.Spec PyProof.Rows PySem.SeqAt
theorem Bx {c:Const} {k:Nat} {p:Pos} {es:YJ} {env:Env}:starEach (.Constant c k p::es) env=(false,eval (.Constant c k p) env)::starEach es env:=by rfl
section
variable {X:Cx}
end
section
variable {prog:Program} {w:World} {A:Around} {E:YA} {s:Shared}
end
end L2
namespace L2
open PySem PySem.Spec PyProof.Rows
section
variable {X:Cx} {pins:YC} {σ : St} {H:Hp} {s:Shared} {a:Addr} {kvs:YM} {o:Obj}
end
theorem QL:entryFor table "dict_itemiterator.__iter__"=some Builtin.«dict_keyiterator.__iter__»:=entryFor_alias (id':="dict_keyiterator.__iter__") (by kernel_rfl) rfl (by trivial) (by kernel_rfl)
theorem Yl {prog:Program} {w:World} {A:Around} {E:YA} {s:Shared} {it d:Addr} {i n ep:Nat} {ok ov:Value} {Q:YA} (hit:IsItemIter s.heap it d i n ep ok ov) (h:Q (.ref it) s) :
  wpAny (model prog w) A (pyIter (.ref it)) Q E s:=by
 have hT:s.TypeIs (.ref it) "dict_itemiterator":=⟨_,hit,rfl⟩
 refine wpAny_pyIter_slot hT F.slot_dict_itemiterator_iter (Qbw F.slot_dict_itemiterator_iter hT QL ?_ (F.args_dict_itemiterator_iter_1 _))
 exact Qcv ⟨_,rfl,"dict_itemiterator",_,hT,Qac.lookup,h⟩
section
variable {a l:Addr} {o:Obj} {kvs:YM} {g:TG} {tb:TS} {D:Ends} {σ : St} {H:Hp} {tt:TT} {te tk tv:TE} {Q:VK}
theorem mY {K:YD} {xs:YG} {σ0:St} {H0:Hp} (Pv:YN) (h0:Pv 0 σ0 H0) (hl:∀i σ H',i<=xs.length->Pv i σ H'->SqT K H' a xs)
  (hs:∀i x σ H',xs[i]?=some x->Pv i σ H'->g x σ H' fun σ3 H3=>tt σ3 H3 λb H4=>if b=true then tk σ3 H4 λy H5=>tv σ3 H5 λz H6=>∃(kvs:YM) (k:Key),H6 l=some (.dK kvs)/\y=kV k/\kvs.length < sizeLine/\Pv (i+1) σ3 (upd H6 l (.dK (putK kvs k z))) else Pv (i+1) σ3 H4)
  (hd:∀ σ H',Pv xs.length σ H'->Q (.ref l) H'):Tn (Itt K a) g tt tk tv Q σ0 H0 l:=by
 unfold Tn
 refine⟨λi m σ H'=>m=xs.length - i/\i<=xs.length/\Pv i σ H',⟨xs.length,by simp,Qco _,h0⟩,?_⟩
 rintro i m σ H' ⟨rfl,hi,p⟩
 have q:=hl i σ H' hi p
 by_cases hlt:i < xs.length
 ·refine .inr ⟨⟨xs,xs[i],q,by simp[hlt]⟩,Pv (i+1),fun σ3 H3 p'=>⟨xs.length - (i+1),by omega,rfl,hlt,p'⟩,λx H2 y=>?_⟩
  obtain⟨e,y⟩:=y
  subst e
  exact hs i x σ _ (y xs q) p
 ·have e:i=xs.length:=by omega
  subst e
  exact .inl ⟨⟨xs,q,Qcn _⟩,hd σ H' p⟩
end
open PySem.W (KasT kas_asc kas_desc kas_rev kas_tail3 kas_descPart kas_count kas_place kas_bin kas_sort)
def Gz {α : Type} (n:Nat) (P:α->Prop):KasT α->Prop
 | .ret a=>P a
 | .ask i j k=>i < n/\j < n/\∀b,Gz n P (k b)
theorem Jx {α β : Type} {n:Nat} {P:α->Prop} {Q:β->Prop} {f:α->KasT β}:∀t:KasT α,Gz n P t->(∀a,P a->Gz n Q (f a))->Gz n Q (t.bind f)
 | .ret a,h,q=>q a h
 | .ask i j k,h,q=>⟨h.1,h.2.1,λb=>Jx (k b) (h.2.2 b) q⟩
def Pm (n:Nat) (p:Array Nat):Prop:=p.toList.Perm (List.range n)
theorem Pm.rev {n:Nat} {p:Array Nat} (h:Pm n p) (i j:Nat):Pm n (kas_rev p i j):=(Array.perm_iff_toList_perm.mp (mirror_perm p i j ((j - i) / 2))).trans h
theorem Pm.bub {n:Nat} {p:Array Nat} (h:Pm n p) (k d:Nat):Pm n (bubble p k d):=(Array.perm_iff_toList_perm.mp (bubble_perm p k d)).trans h
theorem Pm.lt {n:Nat} {p:Array Nat} (h:Pm n p) (n0:0 < n) (i:Nat):p.getD i 0 < n:=by
 by_cases hi:i < p.size
 ·have e:p.getD i 0=p[i]:=by simp[hi]
  rw[e]
  have hm:p[i]∈p.toList:=by simp
  exact QbT.mp (h.mem_iff.mp hm)
 ·have e:p.getD i 0=0:=by simp[hi]
  rw[e];exact n0
section
variable {n:Nat} (n0:0 < n)
include n0
theorem Xk {p:Array Nat} (h:Pm n p):∀f k,Gz n (λ_=>True) (kas_asc p f k)
 | 0,k=>trivial
 | f+1,k=>⟨h.lt n0 _,h.lt n0 _,λb=>by
  cases b with
  | true=>exact trivial
  | false=>exact Xk h f (k+1)⟩
theorem QC:∀f (p:Array Nat),Pm n p->∀k q,Gz n (λr:Array Nat×Nat×Nat=>Pm n r.1) (kas_desc f p k q)
 | 0,p,h,k,q=>h
 | f+1,p,h,k,q=>⟨h.lt n0 _,h.lt n0 _,λb=>by
  cases b with
  | true=>
   show Gz n _ (if q > 0 then kas_desc f (kas_rev p (k - (q+1)) k) (k+1) 0 else kas_desc f p (k+1) 0)
   split
   ·exact QC f _ (h.rev _ _) _ _
   ·exact QC f _ h _ _
  | false=>exact⟨h.lt n0 _,h.lt n0 _,λd=>by
    cases d with
    | true=>exact h
    | false=>exact QC f _ h _ _⟩⟩
theorem bH {p:Array Nat} (h:Pm n p) (a b:Nat):Gz n (λr:Nat×Array Nat=>Pm n r.2) (kas_tail3 a b p):=
 Jx _ (Xk n0 (h.rev 0 a) _ _) λm _=>h.rev 0 a
theorem RQ {p:Array Nat} (h:Pm n p) (a b:Nat):Gz n (λr:Nat×Array Nat=>Pm n r.2) (kas_descPart a b p):=
 Jx _ (QC n0 _ p h _ _) λr hr=>by
  show Gz n _ (if r.2.2 > 0 then _ else _)
  split
  ·exact bH n0 (Pm.rev hr _ _) _ _
  ·exact bH n0 hr _ _
theorem X6 {p:Array Nat} (h:Pm n p) (a:Nat):Gz n (λr:Nat×Array Nat=>Pm n r.2) (kas_count a p):=
 Jx _ (Xk n0 h _ _) λm _=>by
  show Gz n _ (if (m == a)=true then _ else if m > 1 then _ else _)
  split
  ·exact h
  ·split
   ·refine⟨h.lt n0 _,h.lt n0 _,λb=>?_⟩
    cases b with
    | true=>exact h
    | false=>exact RQ n0 (h.rev _ _) _ _
   ·exact RQ n0 h _ _
theorem RP {p:Array Nat} (h:Pm n p) (k:Nat):∀f l r,Gz n (λ_=>True) (kas_place p k f l r)
 | 0,_,_=>trivial
 | f+1,l,r=>by
  show Gz n _ (if l ≥ r then _ else _)
  split
  ·exact trivial
  ·refine⟨h.lt n0 _,h.lt n0 _,λb=>?_⟩
   cases b with
   | true=>exact RP h k f _ _
   | false=>exact RP h k f _ _
theorem fP:∀f (p:Array Nat),Pm n p->∀k,Gz n (Pm n) (kas_bin f p k)
 | 0,p,h,_=>h
 | f+1,p,h,k=>Jx _ (RP n0 h k _ _ _) λl _=>fP f _ (h.bub _ _) _
theorem bI:Gz n (Pm n) (kas_sort n):=
 Jx _ (X6 n0 (p:=List.toArray (List.range n)) (show Pm n _ by unfold Pm;exact List.Perm.refl _) n) λr hr=>by
  show Gz n _ (if r.1 < n then _ else _)
  split
  ·exact fP n0 _ _ hr _
  ·exact hr
end
section
variable {prog:Program} {w:World} {A:Around} {E:YA} {s:Shared}
theorem Zf {l:Addr} {vs:YE} {Q:YA} (hl:s.heap.IsList l vs.toArray) (h1:vs.length < 2)
  (h:∀D h' c,s.heap.objs.size<=D->h'.get? D=some (seqObj "list" vs.toArray c)->(∀b o,s.heap.get? b=some o->h'.get? b=some o)->Q (.ref D) { s with heap:=h' }):wpAny (model prog w) A (call (.builtin "sorted") [.ref l]) Q E s:=by
 have h2:vs.toArray.size < 2:=by rw[Qbi];exact h1
 have hz:vs.length<=sizeLine:=Qcl (Aq (by omega))
 refine Calls.call_function_entry (Q:=Q) kind_sorted plain_sorted entry_sorted (args_sorted1 (.ref l)) ?_
 unfold Builtin.«sorted»
 refine Qcu (m:=checkCount "sorted" 1 1 [Value.ref l].length) (Qcv ?_)
 refine Qcu (collect_list (vs:=vs) hl ?_ hz)
 have k1:∀b o,s.heap.get? b=some o->((s.heap.push (seqObj "list" #[] 0)).update s.heap.objs.size (Obj.mapSeq (·++vs.toArray))).get? b=some o:=λb o q=>by
  rw[Qaz _ _ (Qck (Qcf q))]
  exact Qav _ q
 have z1:((s.heap.push (seqObj "list" #[] 0)).update s.heap.objs.size (Obj.mapSeq (·++vs.toArray))).objs.size=s.heap.objs.size+1:=by rw[Heap.size_update,QbS]
 generalize ((s.heap.push (seqObj "list" #[] 0)).update s.heap.objs.size (Obj.mapSeq (·++vs.toArray)))=g1 at k1 z1
 refine Qcu (wpAny_newList ?_ hz)
 have oD:(g1.push (seqObj "list" vs.toArray 0)).get? g1.objs.size=some (seqObj "list" vs.toArray 0):=QaJ _ rfl
 have k2:∀b o,s.heap.get? b=some o->b≠g1.objs.size/\(g1.push (seqObj "list" vs.toArray 0)).get? b=some o:=λb o q=>⟨by rw[z1];exact Qch (Nat.lt_succ_of_lt (Qcf q)),Qav _ (k1 b o q)⟩
 refine Qcu (Qca (Qbw slot_list_sort ⟨_,oD,rfl⟩ entry_list_sort ?_ (args_list_sort _)))
 rw[list_sort_plain]
 have zD:s.heap.objs.size<=g1.objs.size:=by rw[z1];exact Qct _
 generalize g1.objs.size=D at oD k2 zD
 generalize hg2:g1.push (seqObj "list" vs.toArray 0)=g2 at oD k2
 refine Qcu (listItems_at (a:=D) oD rfl ?_)
 refine Qcu (listUpdate_at (a:=D) oD rfl ?_ (by rw[Qbi];exact hz) (Qco _))
 obtain⟨e1,o1⟩ : ∃e1,(g2.update D (Obj.mapSeq λ_=>(#[]:Array Value))).get? D=some (seqObj "list" #[] e1):=⟨_,get?_update_seq oD λ_=>#[]⟩
 have k3:∀b o,s.heap.get? b=some o->b≠D/\(g2.update D (Obj.mapSeq λ_=>(#[]:Array Value))).get? b=some o:=λb o q=>⟨(k2 b o q).1,by rw[Qaz _ _ (Ne.symm (k2 b o q).1)];exact (k2 b o q).2⟩
 have zip2:(arrOf (SortSt.mk' general' (vs.toArray.zip vs.toArray) #[] 7 none)).map (·.2)=vs.toArray:=by
  show (vs.toArray.zip vs.toArray).map (·.2)=vs.toArray
  apply Array.toList_inj.mp
  simp[Array.toList_zip,List.map_snd_zip]
 dsimp only
 generalize g2.update D (Obj.mapSeq λ_=>(#[]:Array Value))=g3 at o1 k3 ⊢
 refine Qcu (seqEpoch_at (a:=D) o1 rfl ?_)
 refine Qcu (wpAny_newTuple ?_ (by simpa using hz))
 refine Qcu (wpAny_newList (items:=[]) ?_ (Qco _))
 refine Qca ?_
 have o5:∀x y:Obj,((g3.push x).push y).get? D=some (seqObj "list" #[] e1):=λx y=>Qav _ (Qav _ o1)
 have k5:∀x y:Obj,∀b o,s.heap.get? b=some o->b≠D/\((g3.push x).push y).get? b=some o:=λx y b o q=>⟨(k3 b o q).1,Qav _ (Qav _ (k3 b o q).2)⟩
 dsimp only
 rw[if_pos h2,if_pos h2]
 refine Qcu (Qcv ?_)
 rw[StateT.run_pure]
 refine Qcu (Qcv ?_)
 dsimp only
 refine Qcu (seqEpoch_at (a:=D) (o5 _ _) rfl ?_)
 rw[zip2]
 refine Qcu (listUpdate_at (a:=D) (o5 _ _) rfl ?_ (Qco _) (by first | (rw[Qbi];exact hz) | (rw[Qbi];omega)))
 simp only[bne_self_eq_false,Bool.false_eq_true,if_false]
 obtain⟨c,oF⟩ : ∃c,(((g3.push { cls:=.type "tuple",data:=.seq vs.toArray }).push { cls:=.type "list",data:=.seq #[] }).update D (Obj.mapSeq λ_=>vs.toArray)).get? D=some (seqObj "list" vs.toArray c):=⟨_,get?_update_seq (o5 _ _) λ_=>vs.toArray⟩
 refine Qcv ⟨_,rfl,Qcv ⟨_,rfl,h D _ c zD oF λb o q=>?_⟩⟩
 rw[Qaz _ _ (Ne.symm (k3 b o q).1)]
 exact (k5 _ _ b o q).2
end
theorem vL {h:Heap} {a:Addr} {m m':YB} (x:h.Ns a m) (y:h.Ns a m'):m=m':=by
 obtain⟨o,es,ep,h1,h2,_,h3⟩:=x
 obtain⟨o',es',ep',g1,g2,_,g3⟩:=y
 rw[h1] at g1
 cases g1
 rw[h2] at g2
 cases g2
 funext k
 rw[<-h3,<-g3]
theorem Xx {α β : Type} (d:α) (e:β):∀{vs:List α} {its:List β} {F:α->β->Prop} {is:List Nat},Paired F vs its->(∀i∈is,i < vs.length)->Paired F (is.map λi=>vs.getD i d) (is.map λi=>its.getD i e)
 | vs,its,F,[],_,_=>.nil
 | vs,its,F,i::is,r,h=>by
  refine .cons ?_ (Xx d e r λj hj=>h j (QaG _ hj))
  have hi:=h i (QaT ..)
  have go:∀{l:List α} {m:List β} {i:Nat},Paired F l m->i < l.length->F (l.getD i d) (m.getD i e):=by
   intro l m i r
   induction r generalizing i with
   | nil=>intro h;exact absurd h (QbO _)
   | cons a t ih=>
    intro h
    cases i with
    | zero=>exact a
    | succ i=>exact ih (Nat.lt_of_succ_lt_succ h)
  exact go r hi
theorem range_getD {α : Type} (d:α) (vs:List α):(List.range vs.length).map (λi=>vs.getD i d)=vs:=by
 apply List.ext_getElem
 ·simp
 ·intro i h1 h2
  simp[h2]
def jk (K:YD) (H:Hp) (vs:YG):Prop:=∀v∈vs,∃t ns,v=.ref t/\SqT K H t ((ns:List Int).map V.int)/\0 < ns.length
theorem eE {X:Cx} {pins:YC} {σ : St} {H:Hp} {s:Shared} {h':Heap} (I:Inv X pins σ H s) (k:∀b o,H b≠none\/(∃u,X.base.get? b=some u)->s.heap.get? b=some o->h'.get? b=some o):∀{vs:YG} {its:YE},Vals vs its->jk X.K H vs ->
  ∃fs,PySem.W.KatTups h' its fs/\fs.length=its.length/\∀f∈fs,∃i t,f=Value.int i t
 | _,_,.nil,_=>⟨[],trivial,rfl,λf h=>nomatch h⟩
 | _,_,.cons r t,h=>by
  obtain⟨fs,f1,f2,f3⟩:=eE I k t λv hv=>h v (QaG _ hv)
  obtain⟨tp,ns,rfl,hq,hn⟩:=h _ (QaT ..)
  cases r
  obtain⟨its,rv,⟨o,ho,hc,n,hd⟩,_⟩:=I.tuple hq
  have ho':h'.get? tp=some o:=by
   refine k tp o ?_ ho
   rcases hq with (e |⟨_,e⟩) |⟨_,_,_,e,_⟩
   ·exact .inl (by rw[e];exact λz=>nomatch z)
   ·exact .inl (by rw[e];exact λz=>nomatch z)
   ·exact .inr ⟨_,I.mod.kin _ _ e⟩
  cases ns with
  | nil=>exact absurd hn (QbZ _)
  | cons n0 nr=>
   cases rv with
   | cons r0 rr=>
    obtain⟨tk,rfl⟩:=r0
    exact⟨Value.int n0 tk::fs,PySem.W.KatTups.cons ho' hc hd (by simp) f1,by simp[f2],λf hf=>by
     rcases QbX.mp hf with rfl | hf
     ·exact⟨_,_,rfl⟩
     ·exact f3 f hf⟩
end L2
namespace L2
open PySem PySem.Spec PyProof.Rows
open PySem.W (KasT kas_asc kas_desc kas_rev kas_tail3 kas_descPart kas_count kas_place kas_bin kas_sort)
def Fe {α : Type} (lt:Nat->Nat->Bool):KasT α->α
 | .ret a=>a
 | .ask i j k=>Fe lt (k (lt i j))
theorem Jw {α β : Type} {lt:Nat->Nat->Bool} {f:α->KasT β}:∀t:KasT α,Fe lt (t.bind f)=Fe lt (f (Fe lt t))
 | .ret a=>rfl
 | .ask i j k=>Jw (k (lt i j))
theorem Um {α : Type} {lt:Nat->Nat->Bool} {n:Nat} {P:α->Prop}:∀t:KasT α,Gz n P t->P (Fe lt t)
 | .ret a,h=>h
 | .ask i j k,h=>Um (k (lt i j)) (h.2.2 _)
theorem eF {α : Type} {lt:Nat->Nat->Bool} {n:Nat} {P:α->Prop} {Q:α->Shared->Prop} {s:Shared} {cmp:Nat->Nat->(Bool->Shared->Prop)->Shared->Prop} (hc:∀i j C,i < n->j < n->C (lt i j) s->cmp i j C s):∀t:KasT α,Gz n P t->Q (Fe lt t) s->t.kasWp cmp Q s
 | .ret a,h,q=>q
 | .ask i j k,h,q=>hc i j _ h.1 h.2.1 (eF hc (k (lt i j)) (h.2.2 _) q)
section
variable {n:Nat} {ky:Nat->Int}
def Gk (ky:Nat->Int) (p:Array Nat) (i:Nat):Int:=ky (p.getD i 0)
def ltK (ky:Nat->Int) (i j:Nat):Bool:=decide (ky i < ky j)
def Inj (n:Nat) (ky:Nat->Int):Prop:=∀i j,i < n->j < n->ky i=ky j->i=j
def Xl (ky:Nat->Int) (p:Array Nat) (m:Nat):Prop:=∀i,i+1 < m->Gk ky p i < Gk ky p (i+1)
def Fall (ky:Nat->Int) (p:Array Nat) (m:Nat):Prop:=∀i,i+1 < m->Gk ky p (i+1) < Gk ky p i
def KR (ky:Nat->Int) (p:Array Nat) (m:Nat):Prop:=∀i j,i < j->j < m->Gk ky p i < Gk ky p j
theorem Xl.all {p:Array Nat} {m:Nat} (h:Xl ky p m):KR ky p m:=λi j hij hj=>by
 induction j with
 | zero=>omega
 | succ j ih=>
  have h1:=h j hj
  by_cases e:i=j
  ·rw[e];exact h1
  ·exact Int.lt_trans (ih (by omega) (by omega)) h1
theorem kY {α : Type} {l:List α} (nd:l.Nodup) {i j:Nat} (hi:i < l.length) (hj:j < l.length) (e:l[i]=l[j]):i=j:=by
 rcases Nat.lt_trichotomy i j with h | h | h
 ·exact absurd e (Qaj.mp nd i j hi hj h)
 ·exact h
 ·exact absurd e.symm (Qaj.mp nd j i hj hi h)
theorem Pm.size {p:Array Nat} (h:Pm n p):p.size=n:=by
 have:=List.Perm.length_eq h
 simpa using this
theorem Pm.ne (hi:Inj n ky) {p:Array Nat} (h:Pm n p) {i j:Nat} (a:i < n) (b:j < n) (ne:i≠j):Gk ky p i≠Gk ky p j:=λe=>by
 have n0:0 < n:=by omega
 have hs:=h.size
 have e:=hi _ _ (h.lt n0 i) (h.lt n0 j) e
 have nd:p.toList.Nodup:=(List.Perm.nodup_iff h).mpr List.nodup_range
 have e1:p.getD i 0=p.toList[i]'(by simp[hs,a]):=by simp[hs,a]
 have e2:p.getD j 0=p.toList[j]'(by simp[hs,b]):=by simp[hs,b]
 rw[e1,e2] at e
 exact ne (kY nd _ _ e)
theorem Wq (hi:Inj n ky) {p:Array Nat} (h:Pm n p):∀f k,1<=k->k+f<=n->Xl ky p k->∃m,Fe (ltK ky) (kas_asc p f k)=m/\k<=m/\m<=k+f/\Xl ky p m/\(m < k+f->Gk ky p m < Gk ky p (m - 1))
 | 0,k,_,_,r=>⟨k,rfl,Qcn _,Qcn _,r,λz=>absurd z (QbZ _)⟩
 | f+1,k,h1,h2,r=>by
  show ∃m,Fe (ltK ky) (if ltK ky (p.getD k 0) (p.getD (k - 1) 0)=true then KasT.ret k else kas_asc p f (k+1))=m/\_
  by_cases c:Gk ky p k < Gk ky p (k - 1)
  ·rw[if_pos (show ltK ky _ _=true from QbR c)]
   exact⟨k,rfl,Qcn _,by omega,r,λ_=>c⟩
  ·rw[if_neg (show ¬ltK ky _ _=true from λz=>c (Qbj z))]
   obtain⟨m,e,a,b,d,g⟩:=Wq hi h f (k+1) (by omega) (by omega) (λi hi'=>by
    by_cases e:i+1=k
    ·have:=h.ne hi (i:=i) (j:=i+1) (by omega) (by omega) (by omega)
     have c:¬Gk ky p (i+1) < Gk ky p i:=by rw[<-e] at c;exact c
     omega
    ·exact r i (by omega))
   exact⟨m,e,by omega,by omega,d,λz=>g (by omega)⟩
theorem Zw (hi:Inj n ky) {p:Array Nat} (h:Pm n p):∀f k,1<=k->k+f<=n->Fall ky p k->∃m,Fe (ltK ky) (kas_desc f p k 0)=(p,m,0)/\k<=m/\m<=k+f/\Fall ky p m
 | 0,k,_,_,r=>⟨k,rfl,Qcn _,Qcn _,r⟩
 | f+1,k,h1,h2,r=>by
  show ∃m,Fe (ltK ky) (if ltK ky (p.getD k 0) (p.getD (k - 1) 0)=true then (if 0 > 0 then kas_desc f (kas_rev p (k - (0+1)) k) (k+1) 0 else kas_desc f p (k+1) 0) else KasT.ask (p.getD (k - 1) 0) (p.getD k 0) λd=>if d=true then KasT.ret (p,k,0) else kas_desc f p (k+1) (0+1))=(p,m,0)/\_
  by_cases c:Gk ky p k < Gk ky p (k - 1)
  ·rw[if_pos (show ltK ky _ _=true from QbR c),if_neg (QbZ 0)]
   obtain⟨m,e,a,b,d⟩:=Zw hi h f (k+1) (by omega) (by omega) (λi hi'=>by
    by_cases e:i+1=k
    ·rw[<-e] at c;exact c
    ·exact r i (by omega))
   exact⟨m,e,by omega,by omega,d⟩
  ·rw[if_neg (show ¬ltK ky _ _=true from λz=>c (Qbj z))]
   have ne:=h.ne hi (i:=k) (j:=k - 1) (by omega) (by omega) (by omega)
   show ∃m,Fe (ltK ky) (if ltK ky (p.getD (k - 1) 0) (p.getD k 0)=true then KasT.ret (p,k,0) else kas_desc f p (k+1) (0+1))=(p,m,0)/\_
   rw[if_pos (show ltK ky _ _=true from QbR (show Gk ky p (k - 1) < Gk ky p k by omega))]
   exact⟨k,rfl,Qcn _,by omega,r⟩
theorem Yu {p q:Array Nat} {i j:Nat} (e:p[i]?=q[j]?):Gk ky p i=Gk ky q j:=by
 unfold Gk
 rw[Array.getD_eq_getD_getElem?,Array.getD_eq_getD_getElem?,e]
theorem nY {p:Array Nat} {m i:Nat} (hm:m<=p.size) (hi:i < m):Gk ky (kas_rev p 0 m) i=Gk ky p (m - 1 - i):=by
 apply Yu
 unfold kas_rev
 rw[getElem?_mirror_all hm,if_pos ⟨Qco _,hi⟩]
 congr 1
 omega
theorem nZ {p:Array Nat} {k l i:Nat} (hk:k < p.size) (hl:l<=k):Gk ky (bubble p k (k - l)) i=if i=l then Gk ky p k else if l < i/\i<=k then Gk ky p (i - 1) else Gk ky p i:=by
 have e:=getElem?_bubble hk (k - l) (by omega) i
 rw[show k - (k - l)=l by omega] at e
 split at e
 ·rename_i h;rw[if_pos h];exact Yu e
 ·rename_i h
  rw[if_neg h]
  split at e
  ·rename_i h;rw[if_pos h];exact Yu e
  ·rename_i h;rw[if_neg h];exact Yu e
def Done (n:Nat) (ky:Nat->Int) (r:Nat×Array Nat):Prop:=1<=r.1/\r.1<=n/\Xl ky r.2 r.1
theorem pF (hi:Inj n ky) {p:Array Nat} (h:Pm n p) {m:Nat} (h1:1<=m) (h2:m<=n) (f:Fall ky p m):Done n ky (Fe (ltK ky) (kas_tail3 m n p)):=by
 have hs:=h.size
 have r0:Xl ky (kas_rev p 0 m) m:=λi hi'=>by
  rw[nY (by omega) (by omega),nY (by omega) (by omega)]
  have:=f (m - 1 - (i+1)) (by omega)
  rw[show m - 1 - (i+1)+1=m - 1 - i by omega] at this
  exact this
 obtain⟨k,e,a,b,d,_⟩:=Wq hi (h.rev 0 m) (n - m) m h1 (by omega) r0
 unfold kas_tail3
 rw[Jw,e]
 exact⟨by show 1<=k;omega,by show k<=n;omega,d⟩
theorem jR (hi:Inj n ky) {p:Array Nat} (h:Pm n p) (n0:2<=n):Done n ky (Fe (ltK ky) (kas_count n p)):=by
 obtain⟨m,e,a,b,d,g⟩:=Wq hi h (n - 1) 1 (Qcn _) (by omega) (λi hi'=>by omega)
 unfold kas_count
 rw[Jw,e]
 by_cases c1:m=n
 ·rw[if_pos (by rw[c1];exact beq_self_eq_true n)]
  exact⟨a,by show m<=n;omega,d⟩
 ·rw[if_neg (λz=>c1 (eq_of_beq z))]
  by_cases c2:m > 1
  ·rw[if_pos c2]
   show Done n ky (Fe (ltK ky) (if ltK ky (p.getD 0 0) (p.getD (m - 1) 0)=true then KasT.ret (m,p) else kas_descPart m n (kas_rev p 0 m)))
   rw[if_pos (show ltK ky _ _=true from QbR (d.all 0 (m - 1) (by omega) (by omega)))]
   exact⟨a,by show m<=n;omega,d⟩
  ·rw[if_neg c2]
   have m1:m=1:=by omega
   subst m1
   have g:=g (by omega)
   obtain⟨k,e,a,b,d⟩:=Zw hi h (n - (1+1)) (1+1) (by omega) (by omega) (λi hi'=>by
    have:i=0:=by omega
    subst this
    exact g)
   unfold kas_descPart
   rw[Jw,e]
   show Done n ky (Fe (ltK ky) (if 0 > 0 then _ else kas_tail3 k n p))
   rw[if_neg (QbZ 0)]
   exact pF hi h (by omega) (by omega) d
theorem Ri (hi:Inj n ky) {p:Array Nat} (h:Pm n p) {k:Nat} (hk:k < n) (R:KR ky p k):∀f l r,r<=l+f->l<=r->r<=k->(∀i,i < l->Gk ky p i < Gk ky p k)->(∀i,r<=i->i < k->Gk ky p k < Gk ky p i)->∃m,Fe (ltK ky) (kas_place p k f l r)=m/\m<=k/\(∀i,i < m->Gk ky p i < Gk ky p k)/\∀i,m<=i->i < k->Gk ky p k < Gk ky p i
 | 0,l,r,h1,h2,h3,h4,h5=>⟨l,rfl,by omega,h4,λi a b=>h5 i (by omega) b⟩
 | f+1,l,r,h1,h2,h3,h4,h5=>by
  unfold kas_place
  by_cases c:l ≥ r
  ·rw[if_pos c]
   exact⟨l,rfl,by omega,h4,λi a b=>h5 i (by omega) b⟩
  ·rw[if_neg c]
   show ∃m,Fe (ltK ky) (if ltK ky (p.getD k 0) (p.getD ((l+r) / 2) 0)=true then kas_place p k f l ((l+r) / 2) else kas_place p k f ((l+r) / 2+1) r)=m/\_
   have hm:(l+r) / 2 < r/\l<=(l+r) / 2:=by omega
   generalize (l+r) / 2=q at hm ⊢
   by_cases d:Gk ky p k < Gk ky p q
   ·rw[if_pos (show ltK ky _ _=true from QbR d)]
    refine Ri hi h hk R f l q (by omega) (by omega) (by omega) h4 λi a b=>?_
    by_cases e:i=q
    ·rw[e];exact d
    ·exact Int.lt_trans d (R q i (by omega) b)
   ·rw[if_neg (show ¬ltK ky _ _=true from λz=>d (Qbj z))]
    refine Ri hi h hk R f (q+1) r (by omega) (by omega) (by omega) (λi a=>?_) h5
    have ne:=h.ne hi (i:=q) (j:=k) (by omega) (by omega) (by omega)
    have lt:Gk ky p q < Gk ky p k:=by omega
    by_cases e:i=q
    ·rw[e];exact lt
    ·exact Int.lt_trans (R i q (by omega) (by omega)) lt
theorem dR (hi:Inj n ky):∀f (p:Array Nat),Pm n p->∀k,k+f=n->KR ky p k->KR ky (Fe (ltK ky) (kas_bin f p k)) n
 | 0,p,h,k,e,R=>by rw[<-e];exact R
 | f+1,p,h,k,e,R=>by
  have hs:=h.size
  show KR ky (Fe (ltK ky) ((kas_place p k k 0 k).bind λl=>kas_bin f (bubble p k (k - l)) (k+1))) n
  rw[Jw]
  obtain⟨l,el,a,b,c⟩:=Ri hi h (k:=k) (by omega) R k 0 k (by omega) (Qco _) (Qcn _) (λi z=>absurd z (QbO _)) (λi x y=>by omega)
  rw[el]
  refine dR hi f _ (h.bub _ _) (k+1) (by omega) λi j hij hj=>?_
  rw[nZ (by omega) a,nZ (by omega) a]
  by_cases ei:i=l
  ·rw[if_pos ei,if_neg (by omega),if_pos ⟨by omega,by omega⟩]
   exact c _ (by omega) (by omega)
  ·rw[if_neg ei]
   by_cases ej:j=l
   ·rw[if_neg (by omega),if_pos ej]
    exact b _ (by omega)
   ·rw[if_neg ej]
    by_cases gi:l < i
    ·rw[if_pos ⟨gi,by omega⟩,if_pos ⟨by omega,by omega⟩]
     exact R _ _ (by omega) (by omega)
    ·rw[if_neg (λz=>gi z.1)]
     by_cases gj:l < j
     ·rw[if_pos ⟨gj,by omega⟩]
      exact R _ _ (by omega) (by omega)
     ·rw[if_neg (λz=>gj z.1)]
      exact R _ _ (by omega) (by omega)
theorem pH (hi:Inj n ky) (n0:2<=n):KR ky (Fe (ltK ky) (kas_sort n)) n:=by
 have h0:Pm n (List.toArray (List.range n)):=by unfold Pm;exact List.Perm.refl _
 obtain⟨a,b,c⟩:=jR hi h0 n0
 have hp:=Um (lt:=ltK ky) _ (X6 (by omega) h0 n)
 unfold kas_sort
 rw[Jw]
 generalize Fe (ltK ky) (kas_count n (List.toArray (List.range n)))=r at a b c hp
 show KR ky (Fe (ltK ky) (if r.1 < n then kas_bin (n - max r.1 1) r.2 (max r.1 1) else KasT.ret r.2)) n
 have em:max r.1 1=r.1:=by omega
 by_cases d:r.1 < n
 ·rw[if_pos d,em]
  exact dR hi _ _ hp _ (by omega) c.all
 ·rw[if_neg d]
  have:r.1=n:=by omega
  rw[<-this]
  exact c.all
theorem KR.list {p:Array Nat} (h:Pm n p) (R:KR ky p n):(p.toList.map ky).Pairwise (· < ·):=by
 have hs:=h.size
 rw[Qaj]
 intro i j hi hj hij
 have hi':i < n:=by simpa [hs] using hi
 have hj':j < n:=by simpa [hs] using hj
 have:=R i j hij hj'
 unfold Gk at this
 have e1:p.getD i 0=p[i]'(by omega):=by simp[hs,hi']
 have e2:p.getD j 0=p[j]'(by omega):=by simp[hs,hj']
 rw[e1,e2] at this
 simpa using this
end
theorem bQ {α β : Type} (d:α) (e:β) {F:α->β->Prop}:∀{l:List α} {m:List β} {i:Nat},Paired F l m->i < l.length->F (l.getD i d) (m.getD i e):=by
 intro l m i r
 induction r generalizing i with
 | nil=>intro h;exact absurd h (QbO _)
 | cons a t ih=>
  intro h
  cases i with
  | zero=>exact a
  | succ i=>exact ih (Nat.lt_of_succ_lt_succ h)
section
variable {prog:Program} {w:World} {A:Around} {s:Shared}
theorem yP {fin:Bool} {C:Bool->Shared->Prop} (hC:C fin s):∀(l:YE),(∀y∈l,∃a t,y=Value.int a t)->∀i,PySem.W.KatLex prog w A true fin C (l.zip l) i s
 | [],_,_=>hC
 | y::r,h,i=>by
  obtain⟨a,t,rfl⟩:=h y (QaT ..)
  rw[List.zip_cons_cons]
  refine kat_cons (wpAny_eqBool_int ?_)
  rw[show (a == a)=true from beq_self_eq_true a]
  exact PySem.W.kat_yes (yP hC r (λy hy=>h y (QaG _ hy)) (i+1))
end
end L2
namespace L2
open PySem PySem.Spec PyProof.Rows
theorem CG.wQ {k:Nat} {A:Around} (r:CG k A):A.units+66 < cLine:=by have:=r.un;omega
section
variable {X:Cx} {K:YD}
end
end L2
namespace PySem
open Sem (wp)
open AutoSeq1 (wpAny_loadPart')
section
variable {prog:Program} {w:World} {A:Around} {E:YA} {s:Shared}
theorem Xe {e it l:Addr} {i:Nat} {j:Int} {items:Array Value} {old:Value} {Q:Option Value->Shared->Prop} (hh:A.handled=none) (he:IsEnum s.heap e it j old) (hit:s.heap.IsListIter it l i) (hl:s.heap.IsList l items) (hx:items[i]?=none)
  (hQ:∀h',Heap.ExtBut it s.heap h'->Q none { s with heap:=h' }):wpAny (model prog w) A (pyNext (.ref e)) Q E s:=by
 have hT:s.TypeIs (.ref e) "enumerate":=⟨_,he,rfl⟩
 unfold pyNext
 refine Qcu (Qcd (Qaq (name:=Str.ofString "__next__") hT F.slot_enumerate_next (Qbw F.slot_enumerate_next hT F.entry_enumerate_next ?_ (F.args_enumerate_next_1 _))))
 show wpAny _ _ (field (.ref e) 2 >>= _) _ _ _
 refine Qcu (Qcq he rfl (x:=.ref it) rfl (Qcu (wpAny_nextOf_list_end hh hit hl hx λh' x he' hx'=>?_)))
 obtain⟨o,ho,hc⟩:=hx'
 exact Qcu (wpAny_isInstance (T:="StopIteration") (b:=true) ⟨o,ho,hc⟩ isSubtype_stop (Qcv (hQ _ he')))
end
end PySem
namespace L2
open PySem PySem.Spec PyProof.Rows
def RV (K:YD) (a:Addr) (lo:Nat):It:=
 ⟨λi H=>∃xs x,SqL K H a xs/\xs[i]?=some x,λi H v H'=>∃p x,H p=none/\v=.ref p/\H'=upd H p (.tup [.int ((lo+i:Nat):Int),x])/\∀xs,SqL K H a xs->xs[i]?=some x,λi H=>∃xs,SqL K H a xs/\xs.length<=i⟩
theorem fY {P:Program} {w:World} {K:YD} {elts:YJ} {k:Nat} {pos:Pos} (a e it:Addr) (lo:Nat) (nei:e≠it):Turn P w K (.Tuple elts k pos) (RV K a lo) [e,it] e (λi h=>(∃old,IsEnum h e it ((lo+i:Nat):Int) old)/\h.IsListIter it a i) where
 mem:=by simp
 obj:=λi h st b hb=>by
  obtain⟨⟨old,he⟩,o,ho,hc,hd⟩:=st
  rcases QbX.mp hb with rfl | hb
  ·exact⟨_,he,λv z=>by cases (show Data.fields _=Data.cell v from z)⟩
  ·have:b=it:=by simpa using hb
   subst this
   exact⟨o,ho,λv z=>by rw[hd] at z;cases z⟩
 keep:=λi h h' st k=>by
  obtain⟨⟨old,he⟩,hi⟩:=st
  exact⟨⟨old,k e (by simp) _ he⟩,hi.at λo q=>k it (by simp) o q⟩
 item:=by
  intro X hP hw hK hc i pins s σ H E I hf st hg
  subst hP hw hK
  obtain⟨xs,x,hq,hx⟩:=hg
  obtain⟨its,rv,p,hz⟩:=I.list hq
  obtain⟨u,hu,ru⟩:=rv.get hx
  obtain⟨⟨old,he⟩,hit⟩:=st
  have hts:s.heap.IsList a its.toArray:=p.isList
  have ane:a≠e:=λz=>by
   obtain⟨o,ho,hcl,_⟩:=hts
   rw[z,he] at ho
   cases ho
   injection hcl with q
   exact absurd q (by decide)
  have ani:a≠it:=λz=>by
   obtain⟨o,ho,hcl,_⟩:=hts
   obtain⟨o',ho',hcl',_⟩:=hit
   rw[z,ho'] at ho
   cases ho
   rw[hcl'] at hcl
   injection hcl with q
   exact absurd q (by decide)
  have hlt:i < its.toArray.size:=by
   have:=(Qag.mp hu).1
   simpa using this
  have D:=(Draws.list (prog:=X.prog) (w:=X.w) (A:=X.A.in1) (I.ok.hd hc) it a ani its.toArray).from lo
  refine wpAny_pyNext_enum_itemD D he ⟨i,rfl,Qcl hlt,hit,hts⟩ (by omega) nei (by simp[nei,ane.symm]) λy h1 tk hP ho hst hT hsz hk=>?_
  obtain⟨i',ei,hy⟩:=hP
  have:i'=i:=by omega
  subst this
  have ey:y=u:=by
   have h2:its.toArray[i']?=some u:=by simpa using hu
   rw[h2] at hy
   exact (QbH hy).symm
  subst ey
  refine⟨_,rfl,wpAny_letOwnedTupleGo_enum ho λh2 he2 hs2=>?_⟩
  have hlt2:s.heap.objs.size≠e:=Qck (Qcf he)
  have hT2:h2.get? s.heap.objs.size=some { cls:=.type "tuple",data:=.seq #[.int ((lo+i':Nat):Int) tk,y] }:=(hs2.2 _ hlt2).trans hT
  have new:Bv X.prog X.w (upd H s.heap.objs.size (.tup [.int ((lo+i':Nat):Int),x])) h2 s.heap.objs.size (.tup [.int ((lo+i':Nat):Int),x]):=
   ⟨by show 2<=sizeLine;decide,[.int ((lo+i':Nat):Int) tk,y],.cons ⟨tk,rfl⟩ (.cons ru .nil),_,hT2,rfl,0,rfl⟩
  have I1:=I.NQ (h':=h2) (t':=tk+1) (Qcn _) (λb q hb z=>(hs2.2 b (λw=>hb (by simp[w]))).trans (hk b q (λw=>hb (by simp[w])) (λw=>hb (by simp[w])) z)) hf new
  refine⟨.ref s.heap.objs.size,_,I1,rfl,⟨s.heap.objs.size,x,I.hok.fresh (Qcn _),rfl,rfl,λys hy'=>by rw[I.aj hy' hq];exact hx⟩,⟨⟨y,?_⟩,?_⟩,λb hb=>?_⟩
  ·have:=he2
   rw[show ((lo+(i'+1):Nat):Int)=((lo+i':Nat):Int)+1 by omega]
   exact this
  ·obtain⟨i2,e2,_,st2,_⟩:=hst
   have:i2=i'+1:=by omega
   subst this
   exact st2.at λo q=>(hs2.2 it (Ne.symm nei)).trans q
  ·have hb':b < s.heap.objs.size:=by
    rcases QbX.mp hb with rfl | hb
    ·exact Qcf he
    ·have:b=it:=by simpa using hb
     subst this
     obtain⟨o,ho',_⟩:=hit
     exact Qcf ho'
   rw[Am (Qch hb')]
   exact (hf b hb).1
 done:=by
  intro X hP hw hK hc i pins s σ H E I hf st hg
  subst hP hw hK
  obtain⟨xs,hq,hx⟩:=hg
  obtain⟨its,rv,p,hz⟩:=I.list hq
  obtain⟨⟨old,he⟩,hit⟩:=st
  have hl:=rv.length
  exact Xe (I.ok.hd hc) he hit p.isList (by simp;omega) λh' eb=>⟨rfl,I.Ms (t':=s.toks) (λb o hb q=>eb b o (λz=>hb (by simp[z])) q) hf⟩
 self:=λ_ _ _ _ _ st h=>let ⟨⟨_,he⟩,_⟩:=st;wpAny_pyIter_enum he h
section
variable {X:Cx}
theorem rF {pins:YC} {σ : St} {H:Hp} {s:Shared} {R:It->Hp->Prop} {E:YA} {elts:YJ} {k:Nat} {pos:Pos} {a:Addr} {lo:Nat} {tk:Nat} (I:Inv X pins σ H s) (q:R (RV X.K a lo) H) :
  wpAny (model X.prog X.w) X.A (pyIter (.ref (s.heap.objs.size+1))) (PIE X pins σ (.Tuple elts k pos) R) E
   { s with heap:=(s.heap.push { cls:=.type "list_iterator",data:=.fields #[.ref a,.int 0 0] }).push { cls:=.type "enumerate",data:=.fields #[.none,.bool false,.ref s.heap.objs.size,rawInt (lo:Int),.none,.none] },toks:=tk }:=by
 have hz:(s.heap.push { cls:=.type "list_iterator",data:=.fields #[.ref a,.int 0 0] }).objs.size=s.heap.objs.size+1:=QbS ..
 have he:IsEnum ((s.heap.push { cls:=.type "list_iterator",data:=.fields #[.ref a,.int 0 0] }).push { cls:=.type "enumerate",data:=.fields #[.none,.bool false,.ref s.heap.objs.size,rawInt (lo:Int),.none,.none] }) (s.heap.objs.size+1) s.heap.objs.size (lo:Int) .none:=by
  have:=QaJ (s.heap.push { cls:=.type "list_iterator",data:=.fields #[.ref a,.int 0 0] }) (o:={ cls:=.type "enumerate",data:=.fields #[.none,.bool false,.ref s.heap.objs.size,rawInt (lo:Int),.none,.none] }) rfl
  rw[hz] at this
  exact this
 refine wpAny_pyIter_enum he ⟨s.heap.objs.size+1,[s.heap.objs.size+1,s.heap.objs.size],_,_,H,rfl,I.kept (t':=tk) λb o e=>Qav _ (Qav _ e),fY a (s.heap.objs.size+1) s.heap.objs.size lo (Nat.succ_ne_self _),⟨⟨.none,he⟩,⟨_,Qav _ (QaJ _ rfl),rfl,rfl⟩⟩,λb hb=>?_,q⟩
 have hb':s.heap.objs.size<=b:=by
  simp only[QbX,Qbv,Qcy] at hb
  rcases hb with rfl | rfl
  ·exact Qct _
  ·exact Qcn _
 exact I.Qu hb' (I.hok.fresh hb')
end
section
variable {X:Cx}
def za (K:YD) (lo:Nat) (tl:TE):TI:=fun σ H R=>tl σ H λx H1=>∃a,x=.ref a/\(∃xs,SqL K H1 a xs)/\R (RV K a lo) H1
theorem cI {pins:YC} {σ : St} {H:Hp} {s:Shared} {R:It->Hp->Prop} {elts:YJ} {k:Nat} {pos:Pos} {a:Addr} {xs:YG} (I:Inv X pins σ H s) (hq:SqL X.K H a xs) (q:R (RV X.K a 0) H) :
  wpAny (model X.prog X.w) X.A (call (.type "enumerate") [.ref a]) (λv s1=>wpAny (model X.prog X.w) X.A (pyIter v) (PIE X pins σ (.Tuple elts k pos) R) X.xe s1) X.xe s:=by
 obtain⟨its,rv,p,hz⟩:=I.list hq
 obtain⟨⟨c,dct,dt,sl⟩,hl,hc,n,hd⟩:=p.isList
 replace hc:c=.type "list":=hc
 replace hd:dt=.seq its.toArray n:=hd
 subst hc hd
 refine callType_new F.called_enumerate (by decide) (F.typeCall_enumerate_1 _) (F.newCall_enumerate_1 _) (λobj=>F.args_object_init_2 obj _) F.entry_enumerate_new (meets_enumerate_newL a its.toArray n dct sl) ⟨hl,?_⟩
 have hz:(s.heap.push { cls:=.type "list_iterator",data:=.fields #[.ref a,.int 0 0] }).objs.size=s.heap.objs.size+1:=QbS ..
 show _/\_
 refine⟨⟨_,QaJ _ rfl,rfl⟩,?_⟩
 rw[hz]
 exact rF (lo:=0) (tk:=s.toks) I q
end
section
variable {X:Cx}
theorem j4 {x:Expr} {tx:TE} {p pos tp:Pos} {elts:YJ} {k:Nat} (hg:Gl X "enumerate") (hm:X.mg "enumerate"=none) (hl:PE X x tx) (hs:starEach [x] X.env=[(false,eval x X.env)]:=by rfl):PI X (.Tuple elts k tp) (.Call (.Name "enumerate" p) [x] [] pos) (za X.K 0 tx):=by
 intro pins s σ H R I h
 refine Call_ (JR I hg hm boot_enumerate (Qae (thn ((Aa hl Ac (by rw[hs];rfl)) pos pins s σ H (λvs H1=>match vs with | [v]=>∃a,v=.ref a/\(∃xs,SqL X.K H1 a xs)/\R (RV X.K a 0) H1 | _=>False) I h) λus s1 ⟨vs,H1,I1,r1,q1⟩=>?_) hs rfl))
 cases r1 with
 | nil=>exact False.elim q1
 | cons r rr=>
  cases rr with
  | nil=>
   obtain⟨a,e,⟨xs,hq⟩,q⟩:=q1
   subst e
   cases r
   exact cI I1 hq q
  | cons _ _=>exact False.elim q1
theorem mG {K:YD} {a:Addr} {lo:Nat} {xs:YG} {g:TG} {tb:TS} {D:Ends} {σ : St} {H:Hp} (Pv:YN) (h0:Pv 0 σ H) (hl:∀i σ H',i<=xs.length->Pv i σ H'->SqL K H' a xs)
  (hs:∀i x p σ H',xs[i]?=some x->Pv i σ H'->H' p=none->g (.ref p) σ (upd H' p (.tup [.int ((lo+i:Nat):Int),x])) fun σ2 H2=>tb { D with nx:=Pv (i+1),ct:=Pv (i+1),bk:=D.nx } σ2 H2) (hd:∀ σ H',Pv xs.length σ H'->D.nx σ H') :
  ∃W:Nat->YN,(∃m,W 0 m σ H)/\∀i m σ H,W i m σ H ->
   ((RV K a lo).stop i H/\D.nx σ H)\/((RV K a lo).go i H/\∃N:YO,(∀ σ' H',N σ' H'->∃m',m' < m/\W (i+1) m' σ' H')/\∀x H',(RV K a lo).yld i H x H'->g x σ H' fun σ2 H2=>tb { D with nx:=N,ct:=N,bk:=D.nx } σ2 H2):=by
 refine⟨λi m σ H=>m=xs.length - i/\i<=xs.length/\Pv i σ H,⟨xs.length,by simp,Qco _,h0⟩,?_⟩
 rintro i m σ H ⟨rfl,hi,p⟩
 have q:=hl i σ H hi p
 by_cases hlt:i < xs.length
 ·refine .inr ⟨⟨xs,xs[i],q,by simp[hlt]⟩,Pv (i+1),fun σ3 H3 p'=>⟨xs.length - (i+1),by omega,rfl,hlt,p'⟩,λv H2 y=>?_⟩
  obtain⟨pa,x,hn,rfl,rfl,hx⟩:=y
  exact hs i x pa σ _ (hx xs q) p hn
 ·have e:i=xs.length:=by omega
  subst e
  exact .inl ⟨⟨xs,q,Qcn _⟩,hd σ H p⟩
end
theorem pR {X:Cx} {N':YF} {src:List (Option Nat)} {sc:Scope} {kx vx tg iter:Expr} {ifs:YJ} {pos spos px:Pos} {wi:TI} {g:TG} {tt:TT} {tk tv:TE} {i:Nat} {x:Str} (hN:X.N.Nodup) (hi0:X.N[i]?=some x) (hx:Loc X.env.scope x) (hc:X.calm=true) (S:Bg X N' src sc)
  (hi:PI X tg iter wi) (hg:∀s3 H3 fp pn,PG (cxC X N' sc s3 H3 fp pn) tg g) (ht:∀s3 H3 fp pn,PF (cxC X N' sc s3 H3 fp pn) ifs tt) (hk:∀s3 H3 fp pn,PE (cxC X N' sc s3 H3 fp pn) kx tk) (hv:∀s3 H3 fp pn,PE (cxC X N' sc s3 H3 fp pn) vx tv)
  (hsw:swapsWith (.DictComp kx vx [⟨tg,iter,ifs,0⟩] sc pos) (some (.Name x px)) spos.line X.env=pure true:=by rfl) (hs:∀x,foldedSetIterable iter X.env x=pure x:=by intro _;rfl)
  (hf:X.fn x=true\/X.env.scope.names.lookup x=some .local:=by first | exact .inl rfl | exact .inr rfl | assumption) :
  PS X (.Assign [.Name x px] (.DictComp kx vx [⟨tg,iter,ifs,0⟩] sc pos) spos) (V8 (Yz wi src g tt tk tv) (Fl i)):=by
 intro pins s σ H D I h
 rw[exec_Assign_Name_used _ _ _ _ hsw]
 refine Qcu (Qcc (Qcu ?_))
 show wpAny _ X.A (do let _ <-comprehension (.DictComp kx vx [⟨tg,iter,ifs,0⟩] sc pos) sc X.env _ newDict false (eval iter X.env) (some (assign (.Name x px) X.env))) _ _ s
 refine Qcu (thn (VN (R:=λ_ s'=>SP X pins D .next s') hc S hi hg ht hk hv hs I h λs3 H3 fp σ4 H4 s5 l I3 f3 J5 q=>?_) λ_ s' hq=>Qcv (Qcv hq))
 obtain⟨m,⟨oC,es,ep,hoC,r⟩,_⟩:=J5.loc
 have I6:Inv X pins σ H4 { s5 with heap:=s5.heap }:=RJ I3 f3 J5 (Heap.SameBut.refl _ _)
 have hCn:H4 s3.heap.objs.size=none:=J5.free
 have neL:s3.heap.objs.size≠X.env.locals:=Qck I3.lt
 have qI:∀v,oC.data≠.cell v:=λv z=>by rw[r.1] at z;cases z
 have I7:Inv X (pins++[(s3.heap.objs.size,oC)]) σ H4 s5:=I6.Sy λp hp=>(QbC.mp hp).elim (λz=>I6.pin p (QaB _ z)) λz=>by
  cases QaX.mp z
  exact⟨hoC,hCn,neL,I3.qF (Qcn _),qI⟩
 show wpAny _ X.A (assign (.Name x px) X.env (.ref l)) _ _ s5
 refine wpAny_assign_Name (MN (v:=.ref l) I7 hN hi0 hx rfl (λs6 I8=>?_) hf)
 have k8:=(I8.pin (s3.heap.objs.size,oC) (QaB _ (QaB _ (QaX.mpr rfl)))).1
 refine⟨m,⟨oC,es,ep,k8,r⟩,λh' sb=>⟨_,H4,?_,q⟩⟩
 have I9:=I8.Hf
 refine I9.turned (t':=s6.toks) (λb o hb e=>sb.extBut b o hb e) hCn neL (.inr I3.sz) (λy c e z=>?_) (λp hp z=>?_)
 ·obtain⟨v,o,ho,_⟩:=I3.cell y c e
  exact absurd (Qcf ho) (by rw[z];exact QbZ _)
 ·have:=(I3.pin p hp).1
  exact absurd (Qcf this) (by rw[z];exact QbZ _)
def AT:R2:=λx y H Q=>∃l b xs zs,x=.ref l/\y=.ref b/\H l=some (.lst xs)/\H b=some (.lst zs)/\xs.length+zs.length<=sizeLine/\∀p H',H p=none->H' p=some (.lst (xs++zs))->Same H H'->Q (.ref p) H'
def AI (t:TA):TE:=fun σ H Q=>t σ H λxs H1=>xs.length<=sizeLine/\∀p H',H1 p=none->H' p=some (.lst xs)->Same H1 H'->Q (.ref p) H'
section
variable {X:Cx}
theorem vA:OpR X (binaryOp .Add) AT:=by
 intro pins s σ H x y v u Q I rx ry h
 obtain⟨l,b,xs,zs,e1,e2,h1,h2,hz,q⟩:=h
 exact yu pins s σ H x y v u Q I rx ry ⟨l,b,xs,zs,e1,e2,h1,h2,hz,λp hp=>q p _ hp Ab (Ae hp _)⟩
theorem vh {es:YJ} {t:TA} {pos:Pos} (h:PA X es t):PE X (.List es pos) (AI t):=by
 intro pins s σ H Q I hq
 refine wpAny_List_spliced (thn (h pos pins s σ H _ I hq) λus s1 zz=>?_)
 obtain⟨xs,H1,I1,r,z,q⟩:=zz
 refine⟨by rw[<-r.length];exact z,?_⟩
 have hf:H1 s1.heap.objs.size=none:=I1.hok.fresh (Qcn _)
 refine⟨.ref s1.heap.objs.size,upd H1 s1.heap.objs.size (.lst xs),I1.laid (t':=s1.toks) (λb u e=>Qav _ e) (Qcn _) ?_,rfl,q _ _ hf Ab (Ae hf _)⟩
 exact⟨z,us,0,r,QaJ _ rfl⟩
end
end L2
namespace L2
open PySem
theorem xP {a b:Expr} {p:Pos} {es:YJ} {env:Env}:starEach (.Subscript a b p::es) env=(false,eval (.Subscript a b p) env)::starEach es env:=by rfl
end L2
namespace L2
open PySem PySem.Spec PyProof.Rows
def jo (K:YD) (a b:Addr):It:=
  ⟨λi H=>∃xs ys x y,H a=some (.tup xs)/\H b=some (.tup ys)/\xs[i]?=some x/\ys[i]?=some y,
   λi H v H'=>∃p x y,H p=none/\v=.ref p/\H'=upd H p (.tup [x,y])/\(∀xs,H a=some (.tup xs)->xs[i]?=some x)/\∀ys,H b=some (.tup ys)->ys[i]?=some y,
   λi H=>∃xs ys,H a=some (.tup xs)/\H b=some (.tup ys)/\(xs.length<=i\/ys.length<=i)⟩
theorem fU {P:Program} {w:World} {K:YD} {elts:YJ} {k:Nat} {pos:Pos} (a b z TI TO i1 i2:Addr) (nd:[z,TI,TO,i1,i2].Nodup) :
  Turn P w K (.Tuple elts k pos) (jo K a b) [z,TI,TO,i1,i2] z (λi h=>(∃f1,ZZ.IsZ h z TI TO .none f1)/\ZZ.Dj h TI [.ref i1,.ref i2]/\(∃olds:YE,ZZ.Dj h TO olds/\olds.length=2)/\h.IsTupleIter i1 a i/\h.IsTupleIter i2 b i) where
 mem:=by simp
 obj:=λi h st c hc=>by
  obtain⟨⟨f1,hz⟩,hTI,⟨olds,hTO,_⟩,⟨o1,e1,_,d1⟩,o2,e2,_,d2⟩:=st
  simp only[QbX,Qbv,Qcy] at hc
  rcases hc with rfl | rfl | rfl | rfl | rfl
  ·exact⟨_,hz,λv q=>by cases (show Data.fields _=Data.cell v from q)⟩
  ·exact⟨_,hTI,λv q=>by cases (show Data.seq _ _=Data.cell v from q)⟩
  ·exact⟨_,hTO,λv q=>by cases (show Data.seq _ _=Data.cell v from q)⟩
  ·exact⟨o1,e1,λv q=>by rw[d1] at q;cases q⟩
  ·exact⟨o2,e2,λv q=>by rw[d2] at q;cases q⟩
 keep:=λi h h' st k=>by
  obtain⟨⟨f1,hz⟩,hTI,⟨olds,hTO,l⟩,h1,h2⟩:=st
  exact⟨⟨f1,k z (by simp) _ hz⟩,k TI (by simp) _ hTI,⟨olds,k TO (by simp) _ hTO,l⟩,h1.at λo e=>k i1 (by simp) o e,h2.at λo e=>k i2 (by simp) o e⟩
 item:=by
  intro X hP hw hK hc i pins s σ H E I hf st hg
  subst hP hw hK
  obtain⟨xs,ys,x,y,hq1,hq2,hx,hy⟩:=hg
  obtain⟨us,ru,p1,z1⟩:=I.tuple (SqT.of hq1)
  obtain⟨ws,rw',p2,z2⟩:=I.tuple (SqT.of hq2)
  obtain⟨u,hu,ru'⟩:=ru.get hx
  obtain⟨v,hv,rv'⟩:=rw'.get hy
  obtain⟨⟨f1,hz⟩,hTI,⟨olds,hTO,lo⟩,hi1,hi2⟩:=st
  simp only[QbK,QbX,Qbv,Qcy,not_or,QbU,not_false_eq_true,and_true] at nd
  obtain⟨⟨n1,n2,n3,n4⟩,⟨n5,n6,n7⟩,⟨n8,n9⟩,n10⟩:=nd
  have D:ZZ.Apart z TI TO [⟨i1,a,us.toArray⟩,⟨i2,b,ws.toArray⟩]:=by
   obtain⟨oa,ea,ca,_⟩:=id p1
   obtain⟨ob,eb,cb,_⟩:=id p2
   obtain⟨o1,e1,c1,_⟩:=id hi1
   obtain⟨o2,e2,c2,_⟩:=id hi2
   have aTO:a≠TO:=λq=>by
    have:=(hf TO (by simp)).1
    rw[<-q,hq1] at this
    cases this
   have bTO:b≠TO:=λq=>by
    have:=(hf TO (by simp)).1
    rw[<-q,hq2] at this
    cases this
   have t1:Value.type "tuple"≠Value.type "zip":=λq=>absurd (by injection q) (show ¬("tuple"="zip") by decide)
   have t2:Value.type "tuple"≠Value.type "tuple_iterator":=λq=>absurd (by injection q) (show ¬("tuple"="tuple_iterator") by decide)
   refine⟨Ne.symm n1,Ne.symm n2,n5,λq hq=>?_,λq hq=>?_,λq hq r hr=>?_,?_⟩
   ·simp only[QbX,Qbv,Qcy] at hq
    rcases hq with rfl | rfl
    ·exact⟨Ne.symm n3,Ne.symm n6,Ne.symm n8⟩
    ·exact⟨Ne.symm n4,Ne.symm n7,Ne.symm n9⟩
   ·simp only[QbX,Qbv,Qcy] at hq
    rcases hq with rfl | rfl
    ·exact⟨GQ ea hz (by rw[ca];exact t1),aTO⟩
    ·exact⟨GQ eb hz (by rw[cb];exact t1),bTO⟩
   ·simp only[QbX,Qbv,Qcy] at hq hr
    rcases hq with rfl | rfl <;> rcases hr with rfl | rfl
    ·exact GQ ea e1 (by rw[ca,c1];exact t2)
    ·exact GQ ea e2 (by rw[ca,c2];exact t2)
    ·exact GQ eb e1 (by rw[cb,c1];exact t2)
    ·exact GQ eb e2 (by rw[cb,c2];exact t2)
   ·simp[n10]
  have hat:∀q∈([⟨i1,a,us.toArray⟩,⟨i2,b,ws.toArray⟩]:List ZZ.Src),ZZ.SrcAt s.heap q i:=λq hq=>by
   simp only[QbX,Qbv,Qcy] at hq
   rcases hq with rfl | rfl
   ·exact .inr ⟨hi1,p1⟩
   ·exact .inr ⟨hi2,p2⟩
  refine ZZ.gM hz (Qi:=λr s'=>∃h',r=.ref s.heap.objs.size/\s'={ s with heap:=h' }/\ZZ.IsZ h' z TI TO (rawInt s.heap.objs.size) (.bool false)/\ZZ.Dj h' TI [.ref i1,.ref i2]/\ZZ.Dj h' TO [u,v]/\(∀q∈([⟨i1,a,us.toArray⟩,⟨i2,b,ws.toArray⟩]:List ZZ.Src),ZZ.SrcAt h' q (i+1))/\ZZ.Dj h' s.heap.objs.size [u,v]/\ZZ.Rest z TO [⟨i1,a,us.toArray⟩,⟨i2,b,ws.toArray⟩] s.heap h')
   (ZZ.X8 (xs:=[u,v]) D hz hTI hTO hat (by simp) rfl lo (λj q hj=>?_) (by show 2<=100;decide) λh' a1 a2 a3 a4 a5 a6 a7=>⟨h',rfl,rfl,a1,a2,a3,a4,a5,a7⟩) λr s' hQ=>?_
  ·match j,hj with
   | 0,hj=>cases hj;exact⟨u,rfl,by simpa using hu⟩
   | 1,hj=>cases hj;exact⟨v,rfl,by simpa using hv⟩
  obtain⟨h',rfl,rfl,a1,a2,a3,a4,a5,a7⟩:=hQ
  refine⟨_,rfl,ZZ.lD (s:={ s with heap:=h' }) a1 λh2 hz2 sb=>?_⟩
  have hlt2:s.heap.objs.size≠z:=Qck (Qcf hz)
  have hT2:ZZ.Dj h2 s.heap.objs.size [u,v]:=(sb.2 _ hlt2).trans a5
  have new:Bv X.prog X.w (upd H s.heap.objs.size (.tup [x,y])) h2 s.heap.objs.size (.tup [x,y]):=
   ⟨by show 2<=sizeLine;decide,[u,v],.cons ru' (.cons rv' .nil),_,hT2,rfl,0,rfl⟩
  have I1:=I.NQ (h':=h2) (t':=s.toks) (Qcn _) (λc q hc e=>(sb.2 c (λw=>hc (by simp[w]))).trans (a7 c q (λw=>hc (by simp[w])) (λw=>hc (by simp[w])) (λw=>hc (by simp only[QbY,Qcm,QbX,Qbv,Qcy] at w;rcases w with w | w <;> simp[w])) e)) hf new
  have ux:∀{it l:Addr} {items:Array Value},l≠z->l≠TO->l≠i1->l≠i2->it≠z->s.heap.IsTuple l items->ZZ.SrcAt h' ⟨it,l,items⟩ (i+1)->h2.IsTupleIter it l (i+1):=λm1 m2 m3 m4 m5 hl q=>by
   rcases q with⟨_,q2⟩|⟨q1,_⟩
   ·obtain⟨o,e,r⟩:=hl
    exact (Ko q2 ⟨o,a7 _ o m1 m2 (by simp[m3,m4]) e,r⟩).elim
   ·exact q1.at λo e=>(sb.2 _ m5).trans e
  refine⟨.ref s.heap.objs.size,_,I1,rfl,⟨s.heap.objs.size,x,y,I.hok.fresh (Qcn _),rfl,rfl,λys' hy'=>by (rw[hq1] at hy';cases hy';exact hx),λys' hy'=>by (rw[hq2] at hy';cases hy';exact hy)⟩,⟨⟨_,hz2⟩,(sb.2 _ (Ne.symm n1)).trans a2,⟨[u,v],(sb.2 _ (Ne.symm n2)).trans a3,rfl⟩,?_,?_⟩,λc hc=>?_⟩
  ·exact ux (D.a ⟨i1,a,us.toArray⟩ (by simp)).1 (D.a ⟨i1,a,us.toArray⟩ (by simp)).2 (D.ai ⟨i1,a,us.toArray⟩ (by simp) ⟨i1,a,us.toArray⟩ (by simp)) (D.ai ⟨i1,a,us.toArray⟩ (by simp) ⟨i2,b,ws.toArray⟩ (by simp)) (Ne.symm n3) p1 (a4 _ (by simp))
  ·exact ux (D.a ⟨i2,b,ws.toArray⟩ (by simp)).1 (D.a ⟨i2,b,ws.toArray⟩ (by simp)).2 (D.ai ⟨i2,b,ws.toArray⟩ (by simp) ⟨i1,a,us.toArray⟩ (by simp)) (D.ai ⟨i2,b,ws.toArray⟩ (by simp) ⟨i2,b,ws.toArray⟩ (by simp)) (Ne.symm n4) p2 (a4 _ (by simp))
  ·have hlc:c≠s.heap.objs.size:=by
    have hmem:∃o,s.heap.get? c=some o:=by
     simp only[QbX,Qbv,Qcy] at hc
     rcases hc with rfl | rfl | rfl | rfl | rfl
     ·exact⟨_,hz⟩
     ·exact⟨_,hTI⟩
     ·exact⟨_,hTO⟩
     ·obtain⟨o,e,_⟩:=hi1;exact⟨o,e⟩
     ·obtain⟨o,e,_⟩:=hi2;exact⟨o,e⟩
    obtain⟨o,e⟩:=hmem
    exact Qch (Qcf e)
   rw[Am hlc]
   exact (hf c hc).1
 done:=by
  intro X hP hw hK hc i pins s σ H E I hf st hg
  subst hP hw hK
  obtain⟨xs,ys,hq1,hq2,hend⟩:=hg
  obtain⟨us,ru,p1,z1⟩:=I.tuple (SqT.of hq1)
  obtain⟨ws,rw',p2,z2⟩:=I.tuple (SqT.of hq2)
  obtain⟨⟨f1,hz⟩,hTI,⟨olds,hTO,lo⟩,hi1,hi2⟩:=st
  simp only[QbK,QbX,Qbv,Qcy,not_or,QbU,not_false_eq_true,and_true] at nd
  obtain⟨⟨n1,n2,n3,n4⟩,⟨n5,n6,n7⟩,⟨n8,n9⟩,n10⟩:=nd
  have D:ZZ.Apart z TI TO [⟨i1,a,us.toArray⟩,⟨i2,b,ws.toArray⟩]:=by
   obtain⟨oa,ea,ca,_⟩:=id p1
   obtain⟨ob,eb,cb,_⟩:=id p2
   obtain⟨o1,e1,c1,_⟩:=id hi1
   obtain⟨o2,e2,c2,_⟩:=id hi2
   have aTO:a≠TO:=λq=>by
    have:=(hf TO (by simp)).1
    rw[<-q,hq1] at this
    cases this
   have bTO:b≠TO:=λq=>by
    have:=(hf TO (by simp)).1
    rw[<-q,hq2] at this
    cases this
   have t1:Value.type "tuple"≠Value.type "zip":=λq=>absurd (by injection q) (show ¬("tuple"="zip") by decide)
   have t2:Value.type "tuple"≠Value.type "tuple_iterator":=λq=>absurd (by injection q) (show ¬("tuple"="tuple_iterator") by decide)
   refine⟨Ne.symm n1,Ne.symm n2,n5,λq hq=>?_,λq hq=>?_,λq hq r hr=>?_,?_⟩
   ·simp only[QbX,Qbv,Qcy] at hq
    rcases hq with rfl | rfl
    ·exact⟨Ne.symm n3,Ne.symm n6,Ne.symm n8⟩
    ·exact⟨Ne.symm n4,Ne.symm n7,Ne.symm n9⟩
   ·simp only[QbX,Qbv,Qcy] at hq
    rcases hq with rfl | rfl
    ·exact⟨GQ ea hz (by rw[ca];exact t1),aTO⟩
    ·exact⟨GQ eb hz (by rw[cb];exact t1),bTO⟩
   ·simp only[QbX,Qbv,Qcy] at hq hr
    rcases hq with rfl | rfl <;> rcases hr with rfl | rfl
    ·exact GQ ea e1 (by rw[ca,c1];exact t2)
    ·exact GQ ea e2 (by rw[ca,c2];exact t2)
    ·exact GQ eb e1 (by rw[cb,c1];exact t2)
    ·exact GQ eb e2 (by rw[cb,c2];exact t2)
   ·simp[n10]
  have hat:∀q∈([⟨i1,a,us.toArray⟩,⟨i2,b,ws.toArray⟩]:List ZZ.Src),ZZ.SrcAt s.heap q i:=λq hq=>by
   simp only[QbX,Qbv,Qcy] at hq
   rcases hq with rfl | rfl
   ·exact .inr ⟨hi1,p1⟩
   ·exact .inr ⟨hi2,p2⟩
  have l1:=ru.length
  have l2:=rw'.length
  refine ZZ.Wu hz (R:=λh'=>ZZ.Rest z TO [⟨i1,a,us.toArray⟩,⟨i2,b,ws.toArray⟩] s.heap h') (ZZ.Yv (I.ok.hd hc) D hz hTI hTO hat (by simp) lo (by show 2<=100;decide) ?_ λh' e r st=>⟨h',e,rfl,rfl,r,st⟩) λh' r=>⟨rfl,I.Ms (h':=h') (t':=s.toks) (λc q hc e=>r c q (λw=>hc (by simp[w])) (λw=>hc (by simp[w])) (λw=>hc (by simp only[QbY,Qcm,QbX,Qbv,Qcy] at w;rcases w with w | w <;> simp[w])) e) hf⟩
  rcases hend with h | h
  ·exact⟨_,QaT ..,by simp;omega⟩
  ·exact⟨_,QaG _ (QaT ..),by simp;omega⟩
 self:=λ_ _ _ _ _ st h=>ZZ.Ve st.1.choose_spec h
def yZ (K:YD) (ta:TA):TI:=fun σ H R=>ta σ H λvs H1=>∃a b,vs=[.ref a,.ref b]/\(∃xs,H1 a=some (.tup xs))/\(∃ys,H1 b=some (.tup ys))/\R (jo K a b) H1
section
variable {X:Cx}
theorem pX {a b:Expr} {ta:TA} {p pos tp:Pos} {elts:YJ} {k:Nat} (hg:Gl X "zip") (hm:X.mg "zip"=none) (ha:PA X [a,b] ta)
  (hs:starEach [a,b] X.env=[(false,eval a X.env),(false,eval b X.env)]:=by rfl) (hs2:starEach [b] X.env=[(false,eval b X.env)]:=by rfl):PI X (.Tuple elts k tp) (.Call (.Name "zip" p) [a,b] [] pos) (yZ X.K ta):=by
 intro pins s σ H R I h
 refine Call_ (JR I hg hm (u:=.type "zip") (by trivial) (Qae (thn (ha pos pins s σ H _ I h) λus s1 ⟨vs,H1,I1,r1,q1⟩=>?_) (by rw[hs,hs2]) (by rw[hs2];rfl)))
 obtain⟨a,b,e,⟨xs,hx⟩,⟨ys,hy⟩,q⟩:=q1
 subst e
 cases r1 with
 | cons r rr=>
  cases rr with
  | cons r' rr=>
   cases rr
   cases r
   cases r'
   obtain⟨us,ru,k1,z1⟩:=I1.tuple (SqT.of hx)
   obtain⟨ws,rw',k2,z2⟩:=I1.tuple (SqT.of hy)
   refine ZZ.nG (c1:="tuple_iterator") (c2:="tuple_iterator") (.inr ⟨rfl,k1⟩) (.inr ⟨rfl,k2⟩) λh' z TI TO i1 i2 f=>?_
   refine ZZ.Ve (s:={ s1 with heap:=h' }) f.hz ?_
   have nd:[z,TI,TO,i1,i2].Nodup:=by
    have a1:=f.ap.it ⟨i1,a,us.toArray⟩ (by simp)
    have a2:=f.ap.it ⟨i2,b,ws.toArray⟩ (by simp)
    have a3:i1≠i2:=by
     have:=f.ap.nd
     simpa using this
    simp only[QbK,QbX,Qbv,Qcy,not_or,QbU,not_false_eq_true,and_true]
    exact⟨⟨Ne.symm f.ap.TIz,Ne.symm f.ap.TOz,Ne.symm a1.1,Ne.symm a2.1⟩,⟨f.ap.TITO,Ne.symm a1.2.1,Ne.symm a2.2.1⟩,⟨Ne.symm a1.2.2,Ne.symm a2.2.2⟩,a3⟩
   have at1:h'.IsTupleIter i1 a 0:=by
    rcases f.at_ ⟨i1,a,us.toArray⟩ (by simp) with⟨_,x2⟩|⟨x1,_⟩
    ·obtain⟨o,e,r⟩:=id k1
     exact (Ko x2 ⟨o,f.keep _ o e,r⟩).elim
    ·exact x1
   have at2:h'.IsTupleIter i2 b 0:=by
    rcases f.at_ ⟨i2,b,ws.toArray⟩ (by simp) with⟨_,x2⟩|⟨x1,_⟩
    ·obtain⟨o,e,r⟩:=id k2
     exact (Ko x2 ⟨o,f.keep _ o e,r⟩).elim
    ·exact x1
   refine⟨z,[z,TI,TO,i1,i2],_,_,H1,rfl,I1.kept (t':=s1.toks) λc o e=>f.keep c o e,fU a b z TI TO i1 i2 nd,⟨⟨_,f.hz⟩,f.hTI,⟨_,f.hTO,rfl⟩,at1,at2⟩,λc hc=>?_,q⟩
   have hn:=f.new
   have hcs:s1.heap.objs.size<=c:=by
    simp only[QbX,Qbv,Qcy] at hc
    rcases hc with rfl | rfl | rfl | rfl | rfl
    ·exact hn.1
    ·exact hn.2.1
    ·exact hn.2.2.1
    ·exact hn.2.2.2 ⟨c,a,us.toArray⟩ (by simp)
    ·exact hn.2.2.2 ⟨c,b,ws.toArray⟩ (by simp)
   exact I1.Qu hcs (I1.hok.fresh hcs)
end
theorem jf {K:YD} {a b l:Addr} {xs ys:YG} {g:TG} {tt:TT} {te:TE} {Q:VK} {σ0:St} {H0:Hp} (n:Nat) (hx:n<=xs.length) (hy:n<=ys.length) (hn:xs.length<=n\/ys.length<=n) (Pv:YN)
  (h0:Pv 0 σ0 H0) (hl:∀i σ H',i<=n->Pv i σ H'->H' a=some (.tup xs)/\H' b=some (.tup ys))
  (hs:∀i x y p σ H',xs[i]?=some x->ys[i]?=some y->Pv i σ H'->H' p=none->g (.ref p) σ (upd H' p (.tup [x,y])) fun σ3 H3=>tt σ3 H3 λb H4=>if b=true then te σ3 H4 λy H5=>∃ys,H5 l=some (.lst ys)/\ys.length < sizeLine/\Pv (i+1) σ3 (upd H5 l (.lst (ys++[y]))) else Pv (i+1) σ3 H4)
  (hd:∀ σ H',Pv n σ H'->Q (.ref l) H'):FZ (jo K a b) g tt te Q σ0 H0 l:=by
 unfold FZ
 refine⟨λi m σ H'=>m=n - i/\i<=n/\Pv i σ H',⟨n,by simp,Qco _,h0⟩,?_⟩
 rintro i m σ H' ⟨rfl,hi,p⟩
 obtain⟨q1,q2⟩:=hl i σ H' hi p
 by_cases hlt:i < n
 ·have hlt1:i < xs.length:=by omega
  have hlt2:i < ys.length:=by omega
  refine .inr ⟨⟨xs,ys,xs[i],ys[i],q1,q2,Qak hlt1,Qak hlt2⟩,Pv (i+1),fun σ3 H3 p'=>⟨n - (i+1),by omega,rfl,hlt,p'⟩,λv H2 y=>?_⟩
  obtain⟨pp,x',y',hp,rfl,rfl,e1,e2⟩:=y
  exact hs i x' y' pp σ _ (e1 xs q1) (e2 ys q2) p hp
 ·exact .inl ⟨⟨xs,ys,q1,q2,by omega⟩,by
   have:i=n:=by omega
   subst this
   exact hd _ _ p⟩
section
variable {X:Cx}
def B0 (ta tb:TE):TE:=fun σ H Q=>ta σ H λx H1=>x=.non/\tb σ H1 Q
theorem ZL {a b:Expr} {rest:YJ} {pos:Pos} {ta tb:TE} (ha:PE X a ta) (hb:PE X (.BoolOp .Or (b::rest) pos) tb):PE X (.BoolOp .Or (a::b::rest) pos) (B0 ta tb):=by
 intro pins s σ H Q I h
 refine BoolOp_or (thn (ha pins s σ H _ I h) λv s1 zz=>?_)
 obtain⟨x,H1,I1,r1,e,q1⟩:=zz
 subst e
 cases r1
 exact truthy_none (hb pins s1 σ H1 Q I1 q1)
end
theorem je {X:Cx} {pins:YC} {σ : St} {H:Hp} {s:Shared} {A:Around} {E:YA} {a b:Addr} {kvs:YL} {k:List Key} {v:V} {u r:Value} {Q:YH} (hu:A.units < cLine) (I:Inv X pins σ H s) (e:H a=some (.dT kvs)) (eb:H b=some (.tup (k.map kV))) (l:kvs.length < sizeLine) (ry:RelV (.ref b) u) (rv:RelV v r)
  (h:∀s',Inv X pins σ (upd H a (.dT (putK kvs k v))) s'->Q () s'):wpAny (model X.prog X.w) A (dictSet a u r) Q E s:=by
 cases (show u=Value.ref b from ry)
 obtain⟨z,hd,xs,rel,dd⟩:=uq I.hok e
 have hz:xs.length<=sizeLine:=by rw[<-QbW rel];exact z
 have hl:(putK kvs k v).length<=sizeLine:=by have:=KJ kvs k v;omega
 refine wpAny_dictSet_heap (hsz:=hz) hu (Lf I.hok eb) dd λh' dd' hs=>h _ ?_
 obtain⟨q,es,ep,hq,h2,h3,h4,_,h5⟩:=dd'
 refine Tf I (by rw[e];exact True.intro) hs ⟨q,hq⟩ ⟨hl,hd,_,(rel.put k eb rv).keeps λc ys ec=>?_,q,es,ep,hq,h2,h3,h4,h5⟩
 rw[Am (tW ec e (λz=>nomatch z))]
 exact ec
@[irreducible] def Pz (J:It) (g:TG) (tt:TT) (tk tv:TE) (Q:VK) (σ0:St) (H0:Hp) (l:Addr):Prop:=∃W:Nat->YN,(∃m,W 0 m σ0 H0) /\
 ∀i m σ' H',W i m σ' H'->(J.stop i H'/\Q (.ref l) H')\/(J.go i H'/\∃N:YO,(∀ σ3 H3,N σ3 H3->∃m',m' < m/\W (i+1) m' σ3 H3)/\∀x H2,J.yld i H' x H2->g x σ' H2 fun σ3 H3=>tt σ3 H3 λb H4=>
  if b=true then tk σ3 H4 λy H5=>tv σ3 H5 λz H6=>∃(kvs:YL) (k:List Key) (b:Addr),H6 l=some (.dT kvs)/\y=.ref b/\H6 b=some (.tup (k.map kV))/\kvs.length < sizeLine/\N σ3 (upd H6 l (.dT (putK kvs k z))) else N σ3 H4)
def cW (wi:TI) (src:List (Option Nat)) (g:TG) (tt:TT) (tk tv:TE):TE:=fun σ H Q=>wi σ H λJ H1=>∀l,H1 l=none->Pz J g tt tk tv Q (JB src σ) (upd H1 l (.dT [])) l
theorem cH {X:Cx} {N':YF} {src:List (Option Nat)} {sc:Scope} {kx vx tg iter:Expr} {ifs:YJ} {pos pos':Pos} {wi:TI} {g:TG} {tt:TT} {tk tv:TE} {use:Option (Value->Sem Unit)} {R:YA} (hu:X.A.units+1 < cLine) (hc:X.calm=true) (S:Bg X N' src sc)
  (hi:PI X tg iter wi) (hg:∀s3 H3 fp pn,PG (cxC X N' sc s3 H3 fp pn) tg g) (ht:∀s3 H3 fp pn,PF (cxC X N' sc s3 H3 fp pn) ifs tt) (hk:∀s3 H3 fp pn,PE (cxC X N' sc s3 H3 fp pn) kx tk) (hv:∀s3 H3 fp pn,PE (cxC X N' sc s3 H3 fp pn) vx tv)
  (hs:∀x,foldedSetIterable iter X.env x=pure x) {pins:YC} {s:Shared} {σ : St} {H:Hp} {Q:VK} (I:Inv X pins σ H s) (h:cW wi src g tt tk tv σ H Q)
  (fin:∀s3 H3 fp σ4 H4 s5 l,Inv X pins σ H3 s3->(∀b∈fp,Gv X pins H3 b)->Inv (cxC X N' sc s3 H3 fp (X.pn++pins)) [] σ4 H4 s5->Q (.ref l) H4 ->
   compPost (model X.prog X.w) X.A X.xe use R (.ref l) s3.heap.objs.size (.ok .next) s5) :
  wpAny (model X.prog X.w) X.A (comprehension (.DictComp kx vx [⟨tg,iter,ifs,0⟩] sc pos) sc X.env pos' newDict false (eval iter X.env) use) R X.xe s:=by
 refine wpAny_comprehension_free (use:=use) (cl:=Es X.env sc.names []) rfl hs (Qz λp hp e=>I.ok.has p.1 (S.fv p hp e)) S.kind S.loc ?_
 refine thn (hi pins s σ H _ I h) λv s1 h1=>thn h1 λitv s2 h2=>?_
 obtain⟨it,fp,tn,J,H2,rfl,I2,T,st2,f2,q⟩:=h2
 have q':=q s2.heap.objs.size (I2.hok.fresh (Qcn _))
 unfold Pz at q'
 obtain⟨W,⟨m0,w0⟩,turn⟩:=q'
 refine Qbp (wpAny_newFunctionEnv S.Iv (by intro y hy;simp at hy) (λha hns hsb=>?_) S.kind)
 have I3:Inv X pins σ (upd H2 s2.heap.objs.size (.dT [])) { s2 with heap:=s2.heap.push { cls:=.type "dict",data:=.dict #[] } }:=
  I2.laid (t':=s2.toks) (λb u e=>Qav _ e) (Qcn _) (rJ s2.heap I2.big)
 have hfl:∀b∈fp,b < s2.heap.objs.size:=λb hb=>by
  obtain⟨o,e,_⟩:=T.obj 0 _ st2 b hb
  exact Qcf e
 have f3:∀b∈fp,Gv X pins (upd H2 s2.heap.objs.size (.dT [])) b:=λb hb=>⟨by rw[Am (Qch (hfl b hb))];exact (f2 b hb).1,(f2 b hb).2⟩
 generalize hs3:({ s2 with heap:=s2.heap.push { cls:=.type "dict",data:=.dict #[] } }:Shared)=s3 at *
 have hsz:s2.heap.objs.size < s3.heap.objs.size:=by rw[<-hs3];show s2.heap.objs.size < (s2.heap.push _).objs.size;rw[QbS];exact Qby _
 have kp:∀b o,s3.heap.get? b=some o->ha.get? b=some o:=λb o e=>hsb.extBut b o (Qch (Qcf e)) (Qav _ e)
 have st3:tn 0 ha:=T.keep 0 _ _ st2 λb hb o e=>kp b o (by rw[<-hs3];exact Qav _ e)
 have I4:Inv (cxC X N' sc s3 (upd H2 s2.heap.objs.size (.dT [])) fp (X.pn++pins)) [] (JB src σ) (upd H2 s2.heap.objs.size (.dT [])) { s3 with heap:=ha,toks:=s3.toks+([]:List (Str×Value)).length }:=
  Uw S I3 f3 (λb hb=>Nat.lt_trans (hfl b hb) hsz) hns kp
 have loop:codeAny (model X.prog X.w) X.A (.compLoop (.DictComp kx vx [⟨tg,iter,ifs,0⟩] sc pos) 0 (.ref it) (.ref s2.heap.objs.size) (compEnvC sc (Es X.env sc.names []) s3.heap.objs.size X.env))
   (compPost (model X.prog X.w) X.A X.xe use R (.ref s2.heap.objs.size) s3.heap.objs.size) { s3 with heap:=ha,toks:=s3.toks+([]:List (Str×Value)).length }:=by
  refine VL (λn s'=>∃i σ' H',Inv (cxC X N' sc s3 (upd H2 s2.heap.objs.size (.dT [])) fp (X.pn++pins)) [] σ' H' s'/\tn i s'.heap/\(∀b∈fp,H' b=none)/\W i n σ' H') ?_ m0 ⟨0,_,_,I4,st3,λb hb=>(f3 b hb).1,w0⟩
  rintro n s4 ⟨i,σ4,H4,J4,st4,fr4,w4⟩
  have stat:∀{H':Hp},(∀b∈fp,H' b=none)->∀b∈fp,Gv (cxC X N' sc s3 (upd H2 s2.heap.objs.size (.dT [])) fp (X.pn++pins)) [] H' b:=λhn b hb=>
   ⟨hn b hb,(I4.ok.exf b hb).1,I4.ok.RG b hb,.inl hb,λx c e=>(I4.ok.exf b hb).2 x c e,λp hp=>(f3 b hb).2.2.2.2.2 p ((QbC.mp hp).elim id λz=>by cases z)⟩
  rcases turn i n σ4 H4 w4 with⟨stop,qn⟩|⟨go,N,hN,step⟩
  ·refine thn (T.done (cxC X N' sc s3 (upd H2 s2.heap.objs.size (.dT [])) fp (X.pn++pins)) rfl rfl rfl hc i [] s4 σ4 H4 _ J4 (stat fr4) st4 stop) λr s5 zz=>?_
   obtain⟨hr,J5⟩:=zz
   subst hr
   exact fin s3 _ fp σ4 H4 s5 _ I3 f3 J5 qn
  ·refine thn (T.item (cxC X N' sc s3 (upd H2 s2.heap.objs.size (.dT [])) fp (X.pn++pins)) rfl rfl rfl hc i [] s4 σ4 H4 _ J4 (stat fr4) st4 go) λr s5 zz=>?_
   obtain⟨u,hr,h5⟩:=zz
   subst hr
   refine thn h5 λ_ s6 zz=>?_
   obtain⟨x,H6,J6,r6,y6,st6,fr6⟩:=zz
   have J6':=J6.pinned (stat fr6) (T.obj _ _ st6)
   have back:∀{pl:YC} {σ7:St} {H7:Hp} {s7:Shared},Inv (cxC X N' sc s3 (upd H2 s2.heap.objs.size (.dT [])) fp (X.pn++pins)) ([]++Ni fp s6.heap) σ7 H7 s7->N σ7 H7 ->
     ∃m',m' < n/\∃i σ' H',Inv (cxC X N' sc s3 (upd H2 s2.heap.objs.size (.dT [])) fp (X.pn++pins)) [] σ' H' s7/\tn i s7.heap/\(∀b∈fp,H' b=none)/\W i m' σ' H':=λ{pl σ7 H7 s7} J7 w7=>by
    obtain⟨m',hm,w7⟩:=hN _ _ w7
    have pinned:∀b∈fp,∀o,s6.heap.get? b=some o->s7.heap.get? b=some o/\H7 b=none:=λb hb o e=>by
     have:=J7.pin (b,o) (QaB _ (QaB _ (JQ hb e)))
     exact⟨this.1,this.2.1⟩
    refine⟨m',hm,i+1,σ7,H7,J7.Hf,T.keep _ _ _ st6 λb hb o e=>(pinned b hb o e).1,λb hb=>?_,w7⟩
    obtain⟨o,e,_⟩:=T.obj _ _ st6 b hb
    exact (pinned b hb o e).2
   refine thn (hg s3 _ fp _ _ s6 σ4 H6 x u _ J6' r6 (step x H6 y6)) λ_ s7 zz=>?_
   obtain⟨σ7,H7,J7,q7⟩:=zz
   refine thn (ht s3 _ fp _ _ s7 σ7 H7 _ J7 q7) λok s8 zz=>?_
   obtain⟨H8,J8,q8⟩:=zz
   cases ok with
   | false=>
    rw[if_neg QaW] at q8 ⊢
    exact back (pl:=[]) J8 q8
   | true=>
    rw[if_pos rfl] at q8 ⊢
    refine thn (hk s3 _ fp _ _ s8 σ7 H8 _ J8 q8) λy s9 zz=>?_
    obtain⟨yv,H9,J9,r9,q9⟩:=zz
    refine thn (hv s3 _ fp _ _ s9 σ7 H9 _ J9 q9) λz s10 zz=>?_
    obtain⟨zv,H10,J10,r10,kvs,k,bb,hl,ey,eb,hz,q10⟩:=zz
    subst ey
    refine je (X:=cxC X N' sc s3 (upd H2 s2.heap.objs.size (.dT [])) fp (X.pn++pins)) (show X.A.units < cLine by omega) J10 hl eb hz r9 r10 λs11 J11=>?_
    exact back (pl:=[]) J11 q10
 exact codeAny_compStart_dict loop (T.self X.A 0 _ _ _ st3 loop)
theorem KZ {X:Cx} {N':YF} {src:List (Option Nat)} {sc:Scope} {kx vx tg iter:Expr} {ifs:YJ} {pos:Pos} {wi:TI} {g:TG} {tt:TT} {tk tv:TE} (hu:X.A.units+1 < cLine) (hc:X.calm=true) (S:Bg X N' src sc)
  (hi:PI X tg iter wi) (hg:∀s3 H3 fp pn,PG (cxC X N' sc s3 H3 fp pn) tg g) (ht:∀s3 H3 fp pn,PF (cxC X N' sc s3 H3 fp pn) ifs tt) (hk:∀s3 H3 fp pn,PE (cxC X N' sc s3 H3 fp pn) kx tk) (hv:∀s3 H3 fp pn,PE (cxC X N' sc s3 H3 fp pn) vx tv)
  (hs:∀x,foldedSetIterable iter X.env x=pure x:=by intro _;rfl):PE X (.DictComp kx vx [⟨tg,iter,ifs,0⟩] sc pos) (cW wi src g tt tk tv):=by
 intro pins s σ H Q I h
 rw[arm_eval_DictComp]
 refine cH (use:=none) hu hc S hi hg ht hk hv hs I h λs3 H3 fp σ4 H4 s5 l I3 f3 J5 q=>?_
 obtain⟨m,hn,_⟩:=J5.loc
 exact⟨m,hn,λh' sb=>⟨.ref l,H4,RJ I3 f3 J5 sb,rfl,q⟩⟩
section
variable {a l:Addr} {g:TG} {tt:TT} {tk tv:TE} {Q:VK}
theorem cG {K:YD} {xs:YG} {σ0:St} {H0:Hp} (Pv:YN) (h0:Pv 0 σ0 H0) (hl:∀i σ H',i<=xs.length->Pv i σ H'->SqL K H' a xs)
  (hs:∀i x σ H',xs[i]?=some x->Pv i σ H'->g x σ H' fun σ3 H3=>tt σ3 H3 λb H4=>if b=true then tk σ3 H4 λy H5=>tv σ3 H5 λz H6=>∃(kvs:YM) (k:Key),H6 l=some (.dK kvs)/\y=kV k/\kvs.length < sizeLine/\Pv (i+1) σ3 (upd H6 l (.dK (putK kvs k z))) else Pv (i+1) σ3 H4)
  (hd:∀ σ H',Pv xs.length σ H'->Q (.ref l) H'):Tn (Itl K a) g tt tk tv Q σ0 H0 l:=by
 unfold Tn
 refine⟨λi m σ H'=>m=xs.length - i/\i<=xs.length/\Pv i σ H',⟨xs.length,by simp,Qco _,h0⟩,?_⟩
 rintro i m σ H' ⟨rfl,hi,p⟩
 have q:=hl i σ H' hi p
 by_cases hlt:i < xs.length
 ·refine .inr ⟨⟨xs,xs[i],q,by simp[hlt]⟩,Pv (i+1),fun σ3 H3 p'=>⟨xs.length - (i+1),by omega,rfl,hlt,p'⟩,λx H2 y=>?_⟩
  obtain⟨rfl,y⟩:=y
  exact hs i x σ _ (y xs q) p
 ·exact .inl ⟨⟨xs,q,by omega⟩,by
   have:i=xs.length:=by omega
   subst this
   exact hd _ _ p⟩
theorem O4 {K:YD} {xs:YG} {σ0:St} {H0:Hp} (Pv:YN) (h0:Pv 0 σ0 H0) (hl:∀i σ H',i<=xs.length->Pv i σ H'->SqL K H' a xs)
  (hs:∀i x σ H',xs[i]?=some x->Pv i σ H'->g x σ H' fun σ3 H3=>tt σ3 H3 λb H4=>if b=true then tk σ3 H4 λy H5=>tv σ3 H5 λz H6=>∃(kvs:YL) (k:List Key) (b:Addr),H6 l=some (.dT kvs)/\y=.ref b/\H6 b=some (.tup (k.map kV))/\kvs.length < sizeLine/\Pv (i+1) σ3 (upd H6 l (.dT (putK kvs k z))) else Pv (i+1) σ3 H4)
  (hd:∀ σ H',Pv xs.length σ H'->Q (.ref l) H'):Pz (Itl K a) g tt tk tv Q σ0 H0 l:=by
 unfold Pz
 refine⟨λi m σ H'=>m=xs.length - i/\i<=xs.length/\Pv i σ H',⟨xs.length,by simp,Qco _,h0⟩,?_⟩
 rintro i m σ H' ⟨rfl,hi,p⟩
 have q:=hl i σ H' hi p
 by_cases hlt:i < xs.length
 ·refine .inr ⟨⟨xs,xs[i],q,by simp[hlt]⟩,Pv (i+1),fun σ3 H3 p'=>⟨xs.length - (i+1),by omega,rfl,hlt,p'⟩,λx H2 y=>?_⟩
  obtain⟨rfl,y⟩:=y
  exact hs i x σ _ (y xs q) p
 ·exact .inl ⟨⟨xs,q,by omega⟩,by
   have:i=xs.length:=by omega
   subst this
   exact hd _ _ p⟩
end
def O5 (h:Heap) (d:Addr) (es:YK) (ep:Nat):Prop:=∃o,h.get? d=some o/\o.ExactDict/\o.data=.dict es ep
section
variable {prog:Program} {w:World} {A:Around} {E:YA} {s:Shared}
theorem pL {it d:Addr} {i ep:Nat} {es:YK} {en:DictEntry} {Q:Option Value->Shared->Prop} (K:s.heap.IsKeyIter it d i es.size ep) (R:O5 s.heap d es ep) (hx:es[i]?=some en)
  (q:∀h',h'.IsKeyIter it d (i+1) es.size ep->Heap.SameBut it s.heap h'->Q (some en.key) { s with heap:=h' }):wpAny (model prog w) A (pyNext (.ref it)) Q E s:=by
 have T:=K.typeIs
 obtain⟨oi,hoi,ci,di⟩:=K
 obtain⟨od,hod,xd,dd⟩:=R
 have hlt:i < es.size:=(Qaf.mp hx).1
 obtain⟨ET,A4,A5,yW⟩:=oi
 obtain⟨Xg,Td,Te,Pu⟩:=od
 dsimp only at ci di dd
 subst ci di dd
 obtain⟨hp,g,dr,tk,os⟩:=s
 unfold pyNext
 refine Qcu (Qcd (Qaq (name:=Str.ofString "__next__") T Qad (Qbw Qad T F.entry_dict_keyiterator_next ?_ (F.args_dict_keyiterator_next_1 _))))
 have e1:typeName (.type "dict_keyiterator")=pure "dict_keyiterator":=by unfold typeName;rw[find?_eq_fast];kernel_rfl
 have e2:=mroOf_keyiter
 wp_walk
 have hidx:(if (i:Int) < 0 then none else es[((i:Int)).toNat]?)=some en:=by rw[if_neg (by omega),Qbm];exact hx
 simp only[hidx]
 wp_walk
 refine⟨_,rfl,Qcv (q _ ⟨_,QaE _ hoi ?_,rfl,?_⟩ (QaQ ..))⟩
 all_goals first | rfl | trace_state
theorem uY {it d:Addr} {i ep:Nat} {es:YK} {Q:Option Value->Shared->Prop} (hh:A.handled=none) (K:s.heap.IsKeyIter it d i es.size ep) (R:O5 s.heap d es ep) (hx:es[i]?=none)
  (q:∀h',Heap.ExtBut it s.heap h'->Q none { s with heap:=h' }):wpAny (model prog w) A (pyNext (.ref it)) Q E s:=by
 have T:=K.typeIs
 obtain⟨oi,hoi,ci,di⟩:=K
 obtain⟨od,hod,xd,dd⟩:=R
 obtain⟨ET,A4,A5,yW⟩:=oi
 obtain⟨Xg,Td,Te,Pu⟩:=od
 dsimp only at ci di dd
 subst ci di dd
 obtain⟨hp,g,dr,tk,os⟩:=s
 unfold pyNext
 refine Qcu (Qcd (Qaq (name:=Str.ofString "__next__") T Qad (Qbw Qad T F.entry_dict_keyiterator_next ?_ (F.args_dict_keyiterator_next_1 _))))
 have e1:typeName (.type "dict_keyiterator")=pure "dict_keyiterator":=by unfold typeName;rw[find?_eq_fast];kernel_rfl
 have e2:=mroOf_keyiter
 have hh1:A.in1.handled=none:=hh
 wp_walk
 have hidx:(if (i:Int) < 0 then none else es[((i:Int)).toNat]?)=none:=by rw[if_neg (by omega),Qbm];exact hx
 simp only[hidx]
 wp_walk
 unfold raiseNew
 wp_walk
 refine wpAny_of_eq isSubtype_stop ?_
 wp_walk
 exact q _ (((QaQ ..).extBut.push _).push _)
theorem pN {d:Addr} {ep:Nat} {es:YK} {Q:YA} (lo:(d == sysModules)=false) (R:O5 s.heap d es ep)
  (q:Q (.ref s.heap.objs.size) { s with heap:=s.heap.push { cls:=.type "dict_keyiterator",data:=.fields #[.ref d,.int 0 0,.int es.size 0,.int ep 0] } }):wpAny (model prog w) A (pyIter (.ref d)) Q E s:=by
 obtain⟨od,hod,xd,dd⟩:=R
 have T:s.TypeIs (.ref d) "dict":=⟨od,hod,xd.1⟩
 obtain⟨Xg,Td,Te,Pu⟩:=od
 obtain⟨x1,x2⟩:=xd
 dsimp only at dd x1
 subst dd x1
 refine wpAny_pyIter_slot T F.slot_dict_iter (Qbw F.slot_dict_iter T F.entry_dict_iter ?_ (F.args_dict_iter_1 _))
 unfold Builtin.«dict.__iter__»
 wp_walk
 exact⟨_,rfl,"dict_keyiterator",_,⟨_,QaJ _ rfl,rfl⟩,Qad.lookup,q⟩
theorem jT {d:Addr} {ep:Nat} {es:YK} (lo:(d == sysModules)=false) :
  MeetsIn prog w (Builtin.«dict.items» ⟨[.ref d],[]⟩) (λ_ R s=>O5 s.heap d es ep/\R (.ok (.ret (.ref s.heap.objs.size))) { s with heap:=s.heap.push { cls:=.type "dict_items",data:=.fields #[.ref d] } }):=
 .of_wp λA R s ⟨hm,h⟩=>by
  obtain⟨od,hod,xd,dd⟩:=hm
  have T:s.TypeIs (.ref d) "dict":=⟨od,hod,xd.1⟩
  obtain⟨Xg,Td,Te,Pu⟩:=od
  obtain⟨x1,x2⟩:=xd
  dsimp only at dd x1
  subst dd x1
  unfold Builtin.«dict.items»
  wp_walk
  exact⟨_,rfl,h⟩
theorem Wt {v d:Addr} {es:YK} {ep:Nat} {Q:YA} (hv:s.heap.IsItemsView v d) (R:O5 s.heap d es ep)
  (q:Q (.ref s.heap.objs.size) { s with heap:=s.heap.push { cls:=.type "dict_itemiterator",data:=.fields #[.none,.bool false,.ref d,.int 0 0,.int es.size 0,.int ep 0,.none,.none] } }) :
  wpAny (model prog w) A (pyIter (.ref v)) Q E s:=by
 have T:=hv.typeIs
 obtain⟨ov,hov,hcv,hdv⟩:=hv
 obtain⟨od,hod,xd,dd⟩:=R
 obtain⟨KW,KP,KS,KM⟩:=ov
 obtain⟨Xg,Td,Te,Pu⟩:=od
 dsimp only at hcv hdv dd
 subst hcv hdv dd
 refine wpAny_pyIter_slot T F.slot_dict_items_iter (Qbw F.slot_dict_items_iter T F.entry_dict_items_iter ?_ (F.args_dict_items_iter_1 _))
 unfold Builtin.«dict_items.__iter__»
 wp_walk
 have hown:Builtin.Dict_items.ownsTuple "dict_itemiterator"=true:=by decide
 refine⟨_,rfl,"dict_itemiterator",_,⟨_,QaJ _ rfl,rfl⟩,Qac.lookup,?_⟩
 simpa [rawInt,hown,Builtin.Dict_items.ownedTupleFields] using q
theorem pO {it d:Addr} {i ep:Nat} {es:YK} {en:DictEntry} {ok ov:Value} {Q:Option Value->Shared->Prop} (K:IsItemIter s.heap it d i es.size ep ok ov) (R:O5 s.heap d es ep) (hx:es[i]?=some en)
  (q:∀h',IsItemIterOut h' it d (i+1) es.size ep en.key en.val s.heap.objs.size->h'.get? s.heap.objs.size=some { cls:=.type "tuple",data:=.seq #[en.key,en.val] }->(∀b o,b≠it->s.heap.get? b=some o->h'.get? b=some o)->Q (some (.ref s.heap.objs.size)) { s with heap:=h' }) :
  wpAny (model prog w) A (pyNext (.ref it)) Q E s:=by
 have hT:s.TypeIs (.ref it) "dict_itemiterator":=⟨_,K,rfl⟩
 obtain⟨od,hod,xd,dd⟩:=R
 have hlt:i < es.size:=(Qaf.mp hx).1
 obtain⟨Xg,Td,Te,Pu⟩:=od
 dsimp only at dd
 subst dd
 obtain⟨hp,g,dr,tk,os⟩:=s
 unfold pyNext
 refine Qcu (Qcd (Qaq (name:=Str.ofString "__next__") hT Qac (Qbw Qac hT F.entry_dict_itemiterator_next ?_ (F.args_dict_itemiterator_next_1 _))))
 have e1:typeName (.type "dict_itemiterator")=pure "dict_itemiterator":=by unfold typeName;rw[find?_eq_fast];kernel_rfl
 have e2:=mroOf_itemiter
 wp_walk
 have hidx:(if (i:Int) < 0 then none else es[((i:Int)).toNat]?)=some en:=by rw[if_neg (by omega),Qbm];exact hx
 simp only[hidx]
 have hown:Builtin.Dict_items.ownsTuple "dict_itemiterator"=true:=by decide
 refine Qcu ?_
 first | refine Qcu (wpAny_typeNameOfWhole_itemiter hT (Qcv ?_)) | refine Qcu (wpAny_typeNameOf_itemiter hT (Qcv ?_))
 refine Qcu (wpAny_isOneOf_itemiter hT ?_)
 simp only[hown,if_true]
 show wpAny _ _ (setField (.ref it) 3 (rawInt ((i:Int)+1)) >>= _) _ _ _
 refine Qcu (Qbc K (by simp) λh1 k1 s1=>?_)
 have s1:Heap.SameBut it hp h1:=s1
 have k1:IsItemIter h1 it d (i+1) es.size ep ok ov:=by
  have e:((i+1:Nat):Int)=(i:Int)+1:=by omega
  unfold IsItemIter;rw[e];simpa [rawInt] using k1
 have hT1:Shared.TypeIs ⟨h1,g,dr,tk,os⟩ (.ref it) "dict_itemiterator":=⟨_,k1,rfl⟩
 refine Qcu (Qca (Qcu (wpAny_isOneOf_itemiter hT1 (Qcu (wpAny_isOneOf_itemiter hT1 ?_)))))
 show wpAny _ _ (Builtin.Dict_items.pairFromOwner (.ref it) 6 en.key en.val) _ _ ⟨h1,g,dr,tk,os⟩
 unfold Builtin.Dict_items.pairFromOwner
 refine Qcu (wpAny_newTuple ?_)
 have k2:IsItemIter (h1.push { cls:=.type "tuple",data:=.seq #[en.key,en.val] }) it d (i+1) es.size ep ok ov:=Qav _ k1
 have z1:h1.objs.size=hp.objs.size:=s1.1
 have n1:(h1.push { cls:=.type "tuple",data:=.seq #[en.key,en.val] }).get? hp.objs.size=some { cls:=.type "tuple",data:=.seq #[en.key,en.val] }:=by rw[<-z1];exact QaJ _ rfl
 have p1:∀b o,b≠it->hp.get? b=some o->(h1.push { cls:=.type "tuple",data:=.seq #[en.key,en.val] }).get? b=some o:=λb o hb e=>Qav _ (s1.extBut b o hb e)
 have nit:hp.objs.size≠it:=Qck (Qcf K)
 rw[z1]
 show wpAny _ _ (Builtin.Dict_items.ownedTupleIsFree (.ref it) >>= _) _ _ ⟨h1.push { cls:=.type "tuple",data:=.seq #[en.key,en.val] },g,dr,tk,os⟩
 generalize h1.push { cls:=.type "tuple",data:=.seq #[en.key,en.val] }=h2 at k2 n1 p1
 refine Qcu ?_
 unfold Builtin.Dict_items.ownedTupleIsFree
 refine Qcu (Qcq k2 rfl (x:=.none) rfl (Qcv ?_))
 simp only[if_true]
 refine Qcu (Qcq k2 rfl (x:=ok) rfl ?_)
 refine Qcu (Qcq k2 rfl (x:=ov) rfl ?_)
 refine Qcu (Qbc k2 (by simp) λh3 k3 s3=>?_)
 refine Qcu (Qbc k3 (by simp) λh4 k4 s4=>?_)
 refine Qcu (Qbc k4 (by simp) λh5 k5 s5=>?_)
 refine Qcu (Qbc k5 (by simp) λh6 k6 s6=>?_)
 have f:∀b o,b≠it->h2.get? b=some o->h6.get? b=some o:=λb o hb e=>s6.extBut b o hb (s5.extBut b o hb (s4.extBut b o hb (s3.extBut b o hb e)))
 exact Qcu (wpAny_letGo (Qcv (Qcv ⟨_,rfl,Qcv (q h6 k6 (f _ _ nit n1) λb o hb e=>f b o hb (p1 b o hb e))⟩)))
theorem Zy {it d:Addr} {i ep:Nat} {es:YK} {ok ov:Value} {Q:Option Value->Shared->Prop} (hh:A.handled=none) (K:IsItemIter s.heap it d i es.size ep ok ov) (R:O5 s.heap d es ep) (hx:es[i]?=none)
  (q:∀h',Heap.ExtBut it s.heap h'->Q none { s with heap:=h' }):wpAny (model prog w) A (pyNext (.ref it)) Q E s:=by
 have hT:s.TypeIs (.ref it) "dict_itemiterator":=⟨_,K,rfl⟩
 obtain⟨od,hod,xd,dd⟩:=R
 obtain⟨Xg,Td,Te,Pu⟩:=od
 dsimp only at dd
 subst dd
 obtain⟨hp,g,dr,tk,os⟩:=s
 unfold pyNext
 refine Qcu (Qcd (Qaq (name:=Str.ofString "__next__") hT Qac (Qbw Qac hT F.entry_dict_itemiterator_next ?_ (F.args_dict_itemiterator_next_1 _))))
 have e1:typeName (.type "dict_itemiterator")=pure "dict_itemiterator":=by unfold typeName;rw[find?_eq_fast];kernel_rfl
 have e2:=mroOf_itemiter
 have hh1:A.in1.handled=none:=hh
 wp_walk
 have hidx:(if (i:Int) < 0 then none else es[((i:Int)).toNat]?)=none:=by rw[if_neg (by omega),Qbm];exact hx
 simp only[hidx]
 wp_walk
 unfold raiseNew
 wp_walk
 refine wpAny_of_eq isSubtype_stop ?_
 wp_walk
 exact q _ (((QaQ ..).extBut.push _).push _)
end
section
variable {X:Cx} {pins:YC} {σ : St} {H:Hp} {s:Shared} {a:Addr} {kvs:YL} {o:Obj}
theorem Inv.eZ (I:Inv X pins σ H s) (e:H a=some (.dT kvs)):∃o,s.heap.get? a=some o/\Inv X pins σ (upd H a (.frz o (.dT kvs))) s:=by
 obtain⟨o,ho⟩:=(I.hok a _ e).there
 have n0:∀b,H b=none->b≠a:=λb n z=>by rw[z,e] at n;cases n
 have n1:∀b u,H b=some u->u≠.dT kvs->b≠a:=λb u q nu z=>by rw[z,e] at q;exact nu (QbH q).symm
 refine⟨o,ho,I.step (h':=s.heap) (g':=s.gens) (d':=s.drawn) (t':=s.toks) (ch:=[]) (λb hb=>absurd hb (by simp)) (λb u _ _ _ q _=>q) (λb u _ _ _ q _=>⟨u.slots,q⟩) (λb u _ q n=>by rw[Am (n0 b n)];exact n)
  (λb u _ q=>⟨u,q⟩) (λb xs q=>by rw[Am (n1 b _ q (by intro z;cases z))];exact q) (λb u v q=>by rw[Am (n1 b _ q (by intro z;cases z))];exact q)
  (λb ps q=>⟨#[],by rw[Am (n1 b _ q (by intro z;cases z)),q];simp⟩) (λm hm=>hm) (λb u q=>?_) I.bare⟩
 have st:∀b u,Bv X.prog X.w H s.heap b u->Bv X.prog X.w (upd H a (.frz o (.dT kvs))) s.heap b u:=λb u x=>
  x.stay (λ_ _ _ q=>q) (λc q=>by rw[Am (n1 c _ q (by intro z;cases z))];exact q) λc xs q=>by rw[Am (n1 c _ q (by intro z;cases z))];exact q
 by_cases hb:b=a
 ·subst hb
  rw[Ab] at q
  cases q
  exact⟨ho,st _ _ (I.hok _ _ e)⟩
 ·rw[Am hb] at q
  exact st _ _ (I.hok b u q)
theorem Inv.PB (I:Inv X pins σ H s) (e:H a=some (.frz o (.dT kvs))) (h0:∀o' u,X.H₀ a≠some (.frz o' u)):Inv X pins σ (upd H a (.dT kvs)) s:=by
 have n0:∀b,H b=none->b≠a:=λb n z=>by rw[z,e] at n;cases n
 have n1:∀b u,H b=some u->u≠.frz o (.dT kvs)->b≠a:=λb u q nu z=>by rw[z,e] at q;exact nu (QbH q).symm
 refine⟨I.ok,I.os,I.bare,⟨I.base.keep,I.base.slot,λb u q n hx=>?_,I.base.there,λb xs q=>?_,λb u v q=>?_,λb ps q=>?_⟩,I.loc,I.cell,?_,λx c q=>?_,λp hp=>?_,λb u q=>?_,I.len⟩
 ·rw[Am (n0 b (I.base.free b u q n hx))]
  exact I.base.free b u q n hx
 ·have z:=I.base.tups b xs q
  rw[Am (n1 b _ z (by intro w;cases w))]
  exact z
 ·have z:=I.base.LQ b u v q
  have nb:b≠a:=λw=>h0 u v (by rw[<-w];exact q)
  rw[Am nb]
  exact z
 ·obtain⟨m,z⟩:=I.base.MK b ps q
  exact⟨m,by rw[Am (n1 b _ z (by intro w;cases w))];exact z⟩
 ·rw[Am (n0 _ I.free)];exact I.free
 ·rw[Am (n0 _ (I.HN x c q))];exact I.HN x c q
 ·obtain⟨p1,p2,p3⟩:=I.pin p hp
  exact⟨p1,by rw[Am (n0 _ p2)];exact p2,p3⟩
 ·have st:∀b u,Bv X.prog X.w H s.heap b u->Bv X.prog X.w (upd H a (.dT kvs)) s.heap b u:=λb u x=>
   x.stay (λ_ _ _ q=>q) (λc q=>by rw[Am (n1 c _ q (by intro z;cases z))];exact q) λc xs q=>by rw[Am (n1 c _ q (by intro z;cases z))];exact q
  by_cases hb:b=a
  ·subst hb
   rw[Ab] at q
   cases q
   exact st _ _ (show Bv X.prog X.w H s.heap b (.frz o (.dT kvs)) from I.hok _ _ e).2
  ·rw[Am hb] at q
   exact st _ _ (I.hok b u q)
end
def V0 (H0 H:Hp) (P:Hp->Prop):Prop:=∃a o kvs,H a=some (.frz o (.dT kvs))/\(∀o' u,H0 a≠some (.frz o' u))/\P (upd H a (.dT kvs))
def Ends.PB (D:Ends) (H0:Hp):Ends where
 nx:=fun σ H=>V0 H0 H (D.nx σ)
 rt:=λv H=>V0 H0 H (D.rt v)
 bk:=fun σ H=>V0 H0 H (D.bk σ)
 ct:=fun σ H=>V0 H0 H (D.ct σ)
def wX (H0:Hp) (t:TS):TS:=λD σ H=>t (D.PB H0) σ H
def uJ (H0:Hp) (t:TE):TE:=fun σ H Q=>t σ H λv H1=>V0 H0 H1 (Q v)
theorem pQ {X:Cx} {st:Stmt} {t:TS} {H0:Hp} (h0:X.H₀=H0) (h:PS X st t):PS X st (wX H0 t):=by
 subst h0
 intro pins s σ H D I q
 refine thn (h pins s σ H _ I q) λf s1 z=>?_
 cases f with
 | next=>obtain⟨σ',H',I',a,o,kvs,e,n,q'⟩:=z;exact⟨σ',_,I'.PB e n,q'⟩
 | brk=>obtain⟨σ',H',I',a,o,kvs,e,n,q'⟩:=z;exact⟨σ',_,I'.PB e n,q'⟩
 | cont=>obtain⟨σ',H',I',a,o,kvs,e,n,q'⟩:=z;exact⟨σ',_,I'.PB e n,q'⟩
 | ret u=>obtain⟨v,σ',H',I',r,a,o,kvs,e,n,q'⟩:=z;exact⟨v,σ',_,I'.PB e n,r,q'⟩
theorem Nk {X:Cx} {x:Expr} {t:TE} {H0:Hp} (h0:X.H₀=H0) (h:PE X x t):PE X x (uJ H0 t):=by
 subst h0
 intro pins s σ H Q I q
 refine thn (h pins s σ H _ I q) λu s1 zz=>?_
 obtain⟨v,H',I',r,a,o,kvs,e,n,q'⟩:=zz
 exact⟨v,_,I'.PB e n,r,q'⟩
def jq (a:Addr) (o:Obj) (kvs:YL):It:=
 ⟨λi H=>i < kvs.length/\H a=some (.frz o (.dT kvs)),λi H x H'=>∃p b kv,H p=none/\kvs[i]?=some kv/\H b=some (.tup (kv.1.map kV))/\x=.ref p/\H'=upd H p (.tup [.ref b,kv.2]),λi H=>i=kvs.length/\H a=some (.frz o (.dT kvs))⟩
def KTr (P:Program) (w:World) (H:Hp) (kvs:YL) (es:YK):Prop:=es.size=kvs.length/\∀(i:Nat) (kv:List Key×V),kvs[i]?=some kv->∃b en,es[i]?=some en/\en.key=.ref b/\H b=some (.tup (kv.1.map kV))/\RelV kv.2 en.val
theorem ak {P:Program} {w:World} {H:Hp} {kvs:YL} {xs:List (List Key×Addr×Value)} {es:YK} (r:Paired (λ(p:List Key×V) (q:List Key×Addr×Value)=>p.1=q.1/\H q.2.1=some (.tup (p.1.map kV))/\RelV p.2 q.2.2) kvs xs) (e:es.toList=xs.map (entryOfKey (tupleKind (CV P w)))):KTr P w H kvs es:=by
 refine⟨by rw[size_of_entries e,QbW r],λi kv hkv=>?_⟩
 have go:∀{l:YL} {m:List (List Key×Addr×Value)} {i:Nat} {p:List Key×V},Paired (λ(p:List Key×V) (q:List Key×Addr×Value)=>p.1=q.1/\H q.2.1=some (.tup (p.1.map kV))/\RelV p.2 q.2.2) l m->l[i]?=some p->∃x,m[i]?=some x/\H x.2.1=some (.tup (p.1.map kV))/\RelV p.2 x.2.2:=by
  intro l m i p r
  induction r generalizing i with
  | nil=>intro h;cases h
  | cons a t ih=>
   intro h
   cases i with
   | zero=>cases h;exact⟨_,rfl,a.2⟩
   | succ i=>exact ih h
 obtain⟨x,hx,h1,h2⟩:=go r hkv
 exact⟨x.2.1,_,by rw[entry_at e i,hx];rfl,rfl,h1,h2⟩
theorem Od {X:Cx} {pins:YC} {σ : St} {H:Hp} {s:Shared} {a:Addr} {kvs:YL} {o:Obj} {es:YK} {ep:Nat} (I:Inv X pins σ H s) (e:H a=some (.frz o (.dT kvs))) (ho:o.data=.dict es ep) :
  (a == sysModules)=false/\KTr X.prog X.w H kvs es/\O5 s.heap a es ep:=by
 obtain⟨h1,_,h2,xs,h3,ob,es',ep',h4,h5,h6,h7,_⟩:=(show Bv X.prog X.w H s.heap a (.frz o (.dT kvs)) from I.hok a _ e)
 have z:=h1.symm.trans h4
 cases z
 rw[ho] at h6
 cases h6
 exact⟨h2,ak h3 h7,o,h1,h5,ho⟩
theorem oU {P:Program} {w:World} {K:YD} {elts:YJ} {k:Nat} {pos:Pos} (a it:Addr) (o:Obj) (kvs:YL) {es:YK} {ep:Nat} (ho:o.data=.dict es ep) (hes:es.size=kvs.length) :
  Turn P w K (.Tuple elts k pos) (jq a o kvs) [it] it (λi h=>∃ok ov,IsItemIter h it a i kvs.length ep ok ov) where
 mem:=by simp
 obj:=λi h st b hb=>by
  have e:b=it:=by simpa using hb
  subst e
  obtain⟨ok,ov,q⟩:=st
  exact⟨_,q,λv z=>by cases (show Data.fields _=Data.cell v from z)⟩
 keep:=λi h h' st k=>by
  obtain⟨ok,ov,q⟩:=st
  exact⟨ok,ov,k it (by simp) _ q⟩
 item:=by
  intro X hP hw hK hc i pins s σ H E I hf st hg
  subst hP hw hK
  obtain⟨hi,hfz⟩:=hg
  obtain⟨ok,ov,st⟩:=st
  obtain⟨_,⟨hz,rel⟩,da⟩:=Od I hfz ho
  obtain⟨kv,hkv⟩ : ∃kv,kvs[i]?=some kv:=⟨kvs[i],by simp[hi]⟩
  obtain⟨b,en,hen,hkey,hb,hval⟩:=rel i kv hkv
  rw[<-hes] at st
  refine pO st da hen λh' hout htup hkeep=>?_
  refine⟨_,rfl,wpAny_letOwnedTupleGo_items hout λh2 he2 hs2=>?_⟩
  have nit:s.heap.objs.size≠it:=Qck (Qcf st)
  have new:Bv X.prog X.w (upd H s.heap.objs.size (.tup [.ref b,kv.2])) h2 s.heap.objs.size (.tup [.ref b,kv.2]):=
   ⟨by show 2<=sizeLine;decide,[en.key,en.val],.cons (by rw[hkey];exact rfl) (.cons hval .nil),_,(hs2.2 _ nit).trans htup,rfl,0,rfl⟩
  have I1:=I.NQ (h':=h2) (t':=s.toks) (Qcn _) (λb q hb z=>(hs2.2 b (λw=>hb (by simp[w]))).trans (hkeep b q (λw=>hb (by simp[w])) z)) hf new
  refine⟨.ref s.heap.objs.size,_,I1,rfl,⟨s.heap.objs.size,b,kv,I.hok.fresh (Qcn _),hkv,hb,rfl,rfl⟩,⟨en.key,en.val,?_⟩,λb hb=>?_⟩
  ·rw[<-hes];exact he2
  ·have z:b=it:=by simpa using hb
   subst z
   rw[Am (Ne.symm nit)]
   exact (hf b hb).1
 done:=by
  intro X hP hw hK hc i pins s σ H E I hf st hg
  subst hP hw hK
  obtain⟨hi,hfz⟩:=hg
  obtain⟨ok,ov,st⟩:=st
  obtain⟨_,⟨hz,rel⟩,da⟩:=Od I hfz ho
  rw[<-hes] at st
  exact Zy (I.ok.hd hc) st da (by simp;omega) λh' ext=>⟨rfl,I.Ms (t':=s.toks) (λb ob hb q=>ext b ob (λz=>hb (by simp[z])) q) hf⟩
 self:=λA i s Q E st q=>by
  obtain⟨ok,ov,st⟩:=st
  exact Yl st q
def vU (td:TE):TI:=fun σ H R=>td σ H λx H1=>∃a kvs,x=.ref a/\H1 a=some (.dT kvs)/\∀o,R (jq a o kvs) (upd H1 a (.frz o (.dT kvs)))
theorem N6 {X:Cx} {d:Expr} {td:TE} {elts:YJ} {k:Nat} {tp apos cpos:Pos} (hd:PE X d td) (hbase:attributeBase d "items" X.env (eval d X.env)=eval d X.env:=by rfl) (hline:(apos.endLine == cpos.line)=true:=by rfl) :
  PI X (.Tuple elts k tp) (.Call (.Attribute d "items" apos) [] [] cpos) (vU td):=by
 intro pins s σ H R I h
 refine wpAny_Call_method0_late hbase hline (thn (hd pins s σ H _ I h) λv s1 zz=>?_)
 obtain⟨x,H1,I1,r1,a,kvs,ex,e,q⟩:=zz
 subst ex
 cases r1
 obtain⟨t1,t2,hsm⟩:=Vy I1 (.inr ⟨kvs,.inl e⟩)
 obtain⟨o,ho,I2⟩:=I1.eZ e
 obtain⟨_,_,xs,h3,ob,es,ep,h4,h5,h6,h7,_⟩:=(show Bv X.prog X.w H1 s1.heap a (.dT kvs) from I1.hok a _ e)
 rw[ho] at h4
 cases h4
 have hes:=(ak h3 h7).1
 have da:O5 s1.heap a es ep:=⟨o,ho,h5,h6⟩
 refine⟨"dict","dict.items",F.plainAttrs_dict,F.slot_dict_items,F.type_dict_items,t1,t2,Calls.callWith_builtin rfl (PySem.evalArgs_none ?_)⟩
 refine call_meetsIn F.slot_dict_items t1 F.entry_dict_items (F.args_dict_items_1 _) (jT (es:=es) (ep:=ep) hsm) ⟨da,?_⟩
 have hz:(s1.heap.push { cls:=.type "dict_items",data:=.fields #[.ref a] }).objs.size=s1.heap.objs.size+1:=QbS ..
 refine Wt (d:=a) (es:=es) (ep:=ep) ⟨_,QaJ _ rfl,rfl,rfl⟩ ⟨o,Qav _ ho,h5,h6⟩ ?_
 refine⟨(s1.heap.push { cls:=.type "dict_items",data:=.fields #[.ref a] }).objs.size,[(s1.heap.push { cls:=.type "dict_items",data:=.fields #[.ref a] }).objs.size],_,_,_,rfl,
  I2.kept (t':=s1.toks) λb u q=>Qav _ (Qav _ q),oU a _ o kvs h6 hes,?_,λb hb=>?_,q o⟩
 ·rw[<-hes]
  exact⟨_,_,QaJ _ rfl⟩
 ·have z:b=(s1.heap.push { cls:=.type "dict_items",data:=.fields #[.ref a] }).objs.size:=by simpa using hb
  have z2:s1.heap.objs.size<=b:=by rw[z,hz];exact Qct _
  exact I2.Qu z2 (I2.hok.fresh z2)
theorem Qw {a l:Addr} {o:Obj} {kvs:YL} {g:TG} {tt:TT} {te:TE} {Q:VK} {σ0:St} {H0:Hp} (Pv:YN) (h0:Pv 0 σ0 H0) (hl:∀i σ H',i<=kvs.length->Pv i σ H'->H' a=some (.frz o (.dT kvs)))
  (hs:∀i kv p b σ H',kvs[i]?=some kv->Pv i σ H'->H' p=none->H' b=some (.tup (kv.1.map kV))->g (.ref p) σ (upd H' p (.tup [.ref b,kv.2])) fun σ3 H3=>tt σ3 H3 λb H4=>if b=true then te σ3 H4 λy H5=>∃ys,H5 l=some (.lst ys)/\ys.length < sizeLine/\Pv (i+1) σ3 (upd H5 l (.lst (ys++[y]))) else Pv (i+1) σ3 H4)
  (hd:∀ σ H',Pv kvs.length σ H'->Q (.ref l) H'):FZ (jq a o kvs) g tt te Q σ0 H0 l:=by
 unfold FZ
 refine⟨λi m σ H'=>m=kvs.length - i/\i<=kvs.length/\Pv i σ H',⟨kvs.length,by simp,Qco _,h0⟩,?_⟩
 rintro i m σ H' ⟨rfl,hi,p⟩
 have q:=hl i σ H' hi p
 by_cases hlt:i < kvs.length
 ·refine .inr ⟨⟨hlt,q⟩,Pv (i+1),fun σ3 H3 p'=>⟨kvs.length - (i+1),by omega,rfl,hlt,p'⟩,λx H2 y=>?_⟩
  obtain⟨pa,b,kv,hp,hkv,hb,rfl,rfl⟩:=y
  exact hs i kv pa b σ H' hkv p hp hb
 ·have e:i=kvs.length:=by omega
  subst e
  exact .inl ⟨⟨rfl,q⟩,hd σ H' p⟩
open PySem.W (KasT kas_asc kas_desc kas_rev kas_tail3 kas_descPart kas_count kas_place kas_bin kas_sort)
structure C3 (a b c k:Int):Prop where
 b0:0<=b
 b1:b < 100
 c0:0<=c
 c1:c < 100
 k:k=a*10000+b*100+c
def V4 (K:YD) (H:Hp) (v:V) (k:Int):Prop:=∃t a b c,v=.ref t/\SqT K H t [.int a,.int b,.int c]/\C3 a b c k
theorem tR {K:YD} {H:Hp}:∀{vs:YG} {ks:List Int},Paired (V4 K H) vs ks->jk K H vs
 | _,_,.nil,_,h=>nomatch h
 | _,_,.cons x r,v,h=>by
  rcases QbX.mp h with rfl | h
  ·obtain⟨t,a,b,c,e,q,_⟩:=x
   exact⟨t,[a,b,c],e,q,Nat.succ_pos _⟩
  ·exact tR r v h
section
variable {prog:Program} {w:World} {A:Around} {s:Shared}
theorem DT {fin:Bool} {C:Bool->Shared->Prop} {a b c k a' b' c' k':Int} {t1 t2 t3 u1 u2 u3:Tok} (x:C3 a b c k) (y:C3 a' b' c' k') (ne:k≠k') (hC:C (decide (k < k')) s):PySem.W.KatLex prog w A true fin C ([Value.int a t1,Value.int b t2,Value.int c t3].zip [Value.int a' u1,Value.int b' u2,Value.int c' u3]) 0 s:=by
 have x1:=x.b0
 have x2:=x.b1
 have x3:=x.c0
 have x4:=x.c1
 have x5:=x.k
 have y1:=y.b0
 have y2:=y.b1
 have y3:=y.c0
 have y4:=y.c1
 have y5:=y.k
 rw[List.zip_cons_cons]
 refine kat_cons (wpAny_eqBool_int ?_)
 by_cases ha:a=a'
 ·rw[show (a == a')=true by rw[ha];exact beq_self_eq_true a']
  refine PySem.W.kat_yes ?_
  rw[List.zip_cons_cons]
  refine kat_cons (wpAny_eqBool_int ?_)
  by_cases hb:b=b'
  ·rw[show (b == b')=true by rw[hb];exact beq_self_eq_true b']
   refine PySem.W.kat_yes ?_
   rw[List.zip_cons_cons]
   refine kat_cons (wpAny_eqBool_int ?_)
   have hc:c≠c':=λz=>ne (by rw[x5,y5,ha,hb,z])
   rw[show (c == c')=false from QaK.mpr hc]
   refine PySem.W.kat_no (PySem.W.kat_one _ _ (lt_int ?_))
   rw[show decide (c < c')=decide (k < k') by rw[QbL,Qba,Qba];subst ha hb;constructor <;> intro h <;> omega]
   exact hC
  ·rw[show (b == b')=false from QaK.mpr hb]
   refine PySem.W.kat_no (PySem.W.kat_one _ _ (lt_int ?_))
   rw[show decide (b < b')=decide (k < k') by rw[QbL,Qba,Qba];subst ha;constructor <;> intro h <;> omega]
   exact hC
 ·rw[show (a == a')=false from QaK.mpr ha]
  refine PySem.W.kat_no (oneLt_int ?_)
  rw[show decide (a < a')=decide (k < k') by rw[QbL,Qba,Qba];constructor <;> intro h <;> omega]
  exact hC
end
@[irreducible] def Vd (K:YD):YG->Hp->VK->Prop:=λxs H Q=>∃(p:Addr) (vs:YG) (ks:List Int),xs=[.ref p]/\SqL K H p vs/\vs.length < 64/\Paired (V4 K H) vs ks/\ks.Nodup /\
 ∀(is:List Nat) l,is.Perm (List.range vs.length)->(is.map λi=>ks.getD i 0).Pairwise (· < ·)->H l=none->Q (.ref l) (upd H l (.lst (is.map λi=>vs.getD i .non)))
theorem oX {K:YD} {p:Addr} {vs:YG} {ks:List Int} {H:Hp} {Q:VK} (h1:SqL K H p vs) (h2:vs.length < 64) (h3:Paired (V4 K H) vs ks) (h4:ks.Nodup)
  (q:∀(is:List Nat) l,is.Perm (List.range vs.length)->(is.map λi=>ks.getD i 0).Pairwise (· < ·)->H l=none->Q (.ref l) (upd H l (.lst (is.map λi=>vs.getD i .non)))):Vd K [.ref p] H Q:=by
 unfold Vd
 exact⟨p,vs,ks,rfl,h1,h2,h3,h4,q⟩
theorem bw {X:Cx}:FW X (.builtin "sorted") (Vd X.K):=by
 intro pins s σ H xs us Q I r h
 unfold Vd at h
 obtain⟨p,vs,ks,rfl,hq,h64,hK,hnd,q⟩:=h
 have hR:jk X.K H vs:=tR hK
 have hkl:vs.length=ks.length:=QbW hK
 obtain⟨u,rfl,rx⟩:=vals1 r
 cases rx
 obtain⟨its,rv,pl,hz⟩:=I.list hq
 have hlen:vs.length=its.length:=rv.length
 by_cases h2:2<=its.length
 ·obtain⟨m,hn,_⟩:=id I.loc
  refine PySem.W.kat_sorted (Att.zN hn) (qH (g:=Att.Vo s.heap) (h:=s.heap) (L:=X.env.locals)) pl.isList h2 (by omega) λD e1 h' F' N' hD=>?_
  have kp:∀b o,b≠X.env.locals->s.heap.get? b=some o->h'.get? b=some o:=λb o hb e=>(N' (b,o) (QaG _ (OD hb (Att.Mq _ _) e))).1
  have nl:∀b,H b≠none\/(∃u,X.base.get? b=some u)->b≠X.env.locals:=λb hb z=>by
   rcases hb with hb |⟨u,hb⟩
   ·exact hb (by rw[z];exact I.free)
   ·have:=Qcf hb
    rw[z] at this
    exact absurd (QaZ this (Qci I.ok.bsz I.ok.above)) (QbZ _)
  obtain⟨fs,f1,f2,f3⟩:=eE (h':=h') I (λb o hb e=>kp b o (nl b hb) e) rv hR
  refine PySem.W.kat_kind f1 (by omega) (λv hv=>by obtain⟨i,t,rfl⟩:=f3 v hv;exact PySem.W.Looks.of_pure rfl) (T:=.type "int") (by decide) ?_
  have inj:Inj its.length (λi=>ks.getD i 0):=λi j hi hj e=>by
   have e:ks.getD i 0=ks.getD j 0:=e
   have e1:ks.getD i 0=ks[i]'(by omega):=by simp[show i < ks.length by omega]
   have e2:ks.getD j 0=ks[j]'(by omega):=by simp[show j < ks.length by omega]
   rw[e1,e2] at e
   exact kY hnd _ _ e
  have hp:=Um (lt:=ltK λi=>ks.getD i 0) _ (bI (n:=its.length) (by omega))
  have S5:=KR.list hp (pH inj h2)
  refine eF (lt:=ltK λi=>ks.getD i 0) (n:=its.length) (λi j C hi hj hC=>?_) _ (bI (by omega)) ?_
  ·have sH:∀i,i < its.length->∃(x:Addr) (ox:Obj) (ws:Array Value) (n:Nat),its.getD i Value.none=.ref x/\h'.get? x=some ox/\ox.data=.seq ws n/\(∃a b c t1 t2 t3,ws.toList=[Value.int a t1,Value.int b t2,Value.int c t3]/\C3 a b c (ks.getD i 0))/\∀y∈ws.toList,∃a t,y=Value.int a t:=λi hi=>by
    have hvi:i < vs.length:=by omega
    obtain⟨u,hu,ru⟩:=rv.get (x:=vs[i]) (i:=i) (by simp[hvi])
    obtain⟨tp,ka,kb,kc,e,hq',hC3⟩:=bQ V.non (0:Int) hK hvi
    have hq':SqT X.K H tp (([ka,kb,kc]:List Int).map V.int):=hq'
    have ev:vs.getD i V.non=vs[i]:=by simp[hvi]
    rw[ev] at e
    rw[e] at ru
    cases ru
    obtain⟨ws,rw',⟨o,ho,hc,n,hd⟩,_⟩:=I.tuple hq'
    have go:∀{ns:List Int} {ws:YE},Vals (ns.map V.int) ws->∀y∈ws,∃a t,y=Value.int a t:=by
     intro ns
     induction ns with
     | nil=>intro ws r;cases r;exact λy hy=>nomatch hy
     | cons n0 nr ih=>
      intro ws r
      cases r with
      | cons r0 rr=>
       intro y hy
       rcases QbX.mp hy with rfl | hy
       ·obtain⟨t,e⟩:=r0;exact⟨_,_,e⟩
       ·exact ih rr y hy
    refine⟨tp,o,ws.toArray,n,?_,kp tp o (nl tp ?_) ho,hd,?_,λy hy=>go rw' y (by simpa using hy)⟩
    ·rw[List.getD_eq_getElem?_getD,hu];rfl
    ·rcases hq' with (z |⟨_,z⟩) |⟨_,_,_,z,_⟩
     ·exact .inl (by rw[z];exact λz=>nomatch z)
     ·exact .inl (by rw[z];exact λz=>nomatch z)
     ·exact .inr ⟨_,I.mod.kin _ _ z⟩
    ·cases rw' with
     | cons r0 rr=>
      cases rr with
      | cons r1 rr=>
       cases rr with
       | cons r2 rr=>
        cases rr
        obtain⟨t0,e0⟩:=r0
        obtain⟨t1,e1⟩:=r1
        obtain⟨t2,e2⟩:=r2
        exact⟨ka,kb,kc,t0,t1,t2,by rw[e0,e1,e2],hC3⟩
   obtain⟨x,ox,wx,nx,ex,hx,dx,⟨xa,xb,xc,x1,x2,x3,fx,cx⟩,ix⟩:=sH i hi
   obtain⟨y,oy,wy,ny,ey,hy,dy,⟨ya,yb,yc,y1,y2,y3,fy,cy⟩,iy⟩:=sH j hj
   unfold PySem.W.kas_ask
   rw[ex,ey]
   refine PySem.W.kat_lt hx dx hy dy ?_
   by_cases ne:i=j
   ·subst ne
    rw[ex] at ey
    cases ey
    rw[hx] at hy
    cases hy
    rw[dx] at dy
    cases dy
    have e0:ltK (λi=>ks.getD i 0) i i=false:=QbF (Int.lt_irrefl _)
    rw[e0] at hC
    have e1:decide (wx.size < wx.size)=false:=QbF (QbZ _)
    rw[e1]
    exact yP hC _ ix 0
   ·rw[fx,fy]
    exact DT cx cy (λz=>ne (inj i j hi hj z)) hC
  ·refine PySem.W.KasFin.intro F' N' (.head λq hq=>Qch (hD q hq)) λh2' c F2 N2=>?_
   generalize Fe (ltK λi=>ks.getD i 0) (kas_sort its.length)=pp at hp S5 N2 ⊢
   have kp2:∀b o,b≠X.env.locals->s.heap.get? b=some o->h2'.get? b=some o:=λb o hb e=>(N2 (b,o) (QaG _ (OD hb (Att.Mq _ _) e))).1
   obtain⟨oD,DL,_⟩:=N2 (D,_) (QaT ..)
   have nD:∀b o,s.heap.get? b=some o->b≠D:=λb o e z=>by
    by_cases hb:b=X.env.locals
    ·exact DL (by rw[<-z];exact hb)
    ·have:=hD (b,o) (OD hb (Att.Mq _ _) e)
     rw[z] at this
     exact QbZ _ this
   have hDn:H D=none:=by
    cases e:H D with
    | none=>rfl
    | some v=>
     obtain⟨o,ho⟩:=(I.hok D v e).there
     exact absurd rfl (nD D o ho)
   have tr:∀(o:HO) b u,H b=some u->(upd H D o) b=some u:=λo b u e=>by rw[Am (Bb e hDn)];exact e
   have hmem:∀i∈pp.toList,i < vs.length:=λi hi=>by rw[hlen];exact QbT.mp (hp.mem_iff.mp hi)
   have rv2:Vals (pp.toList.map λi=>vs.getD i .non) (pp.toList.map λi=>its.getD i Value.none):=Xx V.non Value.none rv hmem
   have pm:(pp.toList.map λi=>vs.getD i .non).Perm vs:=by
    have:=hp.map λi=>vs.getD i V.non
    rw[<-hlen,range_getD] at this
    exact this
   have I2:Inv X pins σ (upd H D (.lst (pp.toList.map λi=>vs.getD i .non))) { s with heap:=h2' }:=by
    refine I.step (h':=h2') (g':=s.gens) (d':=s.drawn) (t':=s.toks) (ch:=[]) (λb hb=>absurd hb (by simp)) (λb u hb _ _ e _=>kp2 b u hb e) (λb u hb _ _ e _=>⟨u.slots,kp2 b u hb e⟩) (λb u _ e n=>by rw[Am (nD b u e)];exact n)
     (λb u _ e=>?_) (λb ys e=>tr _ _ _ e) (λb u v e=>tr _ _ _ e) (λb ps e=>⟨#[],by rw[tr _ _ _ e];simp⟩) (λm' hm'=>by rw[vL hm' hn];exact F2.ns) (λb u e=>?_) I.bare
    ·by_cases hb:b=X.env.locals
     ·obtain⟨o,_,_,ho,_⟩:=F2.ns
      exact⟨o,by rw[hb];exact ho⟩
     ·exact⟨u,kp2 b u hb e⟩
    ·by_cases hb:b=D
     ·subst hb
      rw[Ab] at e
      cases e
      exact⟨by rw[pm.length_eq];exact Qcl (Aq (by omega)),_,c,rv2,oD⟩
     ·rw[Am hb] at e
      refine (I.hok b u e).stay (λx v hx e1=>kp2 x v ?_ e1) (λx e1=>tr _ _ _ e1) λx ys e1=>tr _ _ _ e1
      intro z
      rcases hx with hx | hx
      ·rw[<-hx,z,I.free] at e;cases e
      ·rw[z,I.free] at hx;cases hx
   exact⟨.ref D,_,I2,rfl,q _ D (by rw[hlen];exact hp) S5 hDn⟩
 ·refine Zf pl.isList (by omega) λD h' c hD oD kp=>?_
  refine⟨.ref D,_,I.laid (t':=s.toks) (o:=.lst vs) kp hD ?_,rfl,?_⟩
  ·exact⟨Qcl (Aq (by omega)),its,c,rv,oD⟩
  ·have z:=q (List.range vs.length) D (List.Perm.refl _) (by
    rw[hkl,range_getD]
    match ks,(show ks.length < 2 by omega) with
    | [],_=>exact List.Pairwise.nil
    | [k],_=>exact Qat _ _) (I.hok.fresh hD)
   rw[range_getD] at z
   exact z
end L2
namespace L2
open PySem PySem.Spec PyProof.Rows
def Tj (a:Addr) (o:Obj) (kvs:YL):It:=
 ⟨λi H=>i < kvs.length/\H a=some (.frz o (.dT kvs)),λi H x H'=>H'=H/\∃b kv,kvs[i]?=some kv/\H b=some (.tup (kv.1.map kV))/\x=.ref b,λi H=>i=kvs.length/\H a=some (.frz o (.dT kvs))⟩
theorem oR {P:Program} {w:World} {K:YD} {tg:Expr} (a it:Addr) (o:Obj) (kvs:YL) {es:YK} {ep:Nat} (ho:o.data=.dict es ep) (hes:es.size=kvs.length):Turn P w K tg (Tj a o kvs) [it] it (λi h=>h.IsKeyIter it a i kvs.length ep) where
 mem:=by simp
 obj:=λi h st b hb=>by
  have e:b=it:=by simpa using hb
  subst e
  obtain⟨oi,q,c,d⟩:=st
  exact⟨oi,q,λv z=>by rw[d] at z;cases z⟩
 keep:=λi h h' st k=>st.at λob q=>k it (by simp) ob q
 item:=by
  intro X hP hw hK hc i pins s σ H E I hf st hg
  subst hP hw hK
  obtain⟨hi,hfz⟩:=hg
  obtain⟨_,⟨hz,rel⟩,da⟩:=Od I hfz ho
  obtain⟨kv,hkv⟩ : ∃kv,kvs[i]?=some kv:=⟨kvs[i],by simp[hi]⟩
  obtain⟨b,en,hen,hkey,hb,hval⟩:=rel i kv hkv
  rw[<-hes] at st
  refine pL st da hen λh' st' sb=>?_
  have I1:Inv X pins σ H { s with heap:=h' }:=I.Ms (t':=s.toks) (λb ob hb q=>(sb.2 b (λz=>hb (by simp[z]))).trans q) hf
  obtain⟨oi,q,c,d⟩:=id st'
  rw[hes] at st'
  exact⟨en.key,rfl,VD (s:={ s with heap:=h' }) q c d (by decide) ⟨.ref b,H,I1,by rw[hkey];exact rfl,⟨rfl,b,kv,hkv,hb,rfl⟩,st',λb hb=>(hf b hb).1⟩⟩
 done:=by
  intro X hP hw hK hc i pins s σ H E I hf st hg
  subst hP hw hK
  obtain⟨hi,hfz⟩:=hg
  obtain⟨_,⟨hz,rel⟩,da⟩:=Od I hfz ho
  rw[<-hes] at st
  exact uY (I.ok.hd hc) st da (by simp;omega) λh' ext=>⟨rfl,I.Ms (t':=s.toks) (λb ob hb q=>ext b ob (λz=>hb (by simp[z])) q) hf⟩
 self:=λA i s Q E st q=>wpAny_pyIter_keyiter st q
def zc (td:TE):TI:=fun σ H R=>td σ H λx H1=>∃a kvs,x=.ref a/\H1 a=some (.dT kvs)/\∀o,R (Tj a o kvs) (upd H1 a (.frz o (.dT kvs)))
theorem ZJ {X:Cx} {tg d:Expr} {td:TE} (hd:PE X d td):PI X tg d (zc td):=by
 intro pins s σ H R I h
 refine thn (hd pins s σ H _ I h) λv s1 zz=>?_
 obtain⟨x,H1,I1,r1,a,kvs,ex,e,q⟩:=zz
 subst ex
 cases r1
 obtain⟨t1,t2,hsm⟩:=Vy I1 (.inr ⟨kvs,.inl e⟩)
 obtain⟨o,ho,I2⟩:=I1.eZ e
 obtain⟨_,_,xs,h3,ob,es,ep,h4,h5,h6,h7,_⟩:=(show Bv X.prog X.w H1 s1.heap a (.dT kvs) from I1.hok a _ e)
 rw[ho] at h4
 cases h4
 have hes:=(ak h3 h7).1
 have da:O5 s1.heap a es ep:=⟨o,ho,h5,h6⟩
 refine pN hsm da ?_
 refine⟨s1.heap.objs.size,[s1.heap.objs.size],_,_,_,rfl,I2.kept (t':=s1.toks) λb u q=>Qav _ q,oR a _ o kvs h6 hes,?_,λb hb=>?_,q o⟩
 ·rw[<-hes]
  exact⟨_,QaJ _ rfl,rfl,rfl⟩
 ·have z:b=s1.heap.objs.size:=by simpa using hb
  subst z
  exact I2.Qu (Qcn _) (I2.hok.fresh (Qcn _))
section
variable {a l:Addr} {o:Obj} {kvs:YL} {g:TG} {tt:TT} {tk tv:TE} {tb:TS} {Q:VK} {D:Ends} {σ : St} {H:Hp}
theorem KL (Pv:YN) (h0:Pv 0 σ H) (hl:∀i σ H',i<=kvs.length->Pv i σ H'->H' a=some (.frz o (.dT kvs)))
  (hs:∀i kv b σ H',kvs[i]?=some kv->Pv i σ H'->H' b=some (.tup (kv.1.map kV))->g (.ref b) σ H' fun σ2 H2=>tb { D with nx:=Pv (i+1),ct:=Pv (i+1),bk:=D.nx } σ2 H2) (hd:∀ σ H',Pv kvs.length σ H'->D.nx σ H') :
  ∃W:Nat->YN,(∃m,W 0 m σ H)/\∀i m σ H,W i m σ H ->
   ((Tj a o kvs).stop i H/\D.nx σ H)\/((Tj a o kvs).go i H/\∃N:YO,(∀ σ' H',N σ' H'->∃m',m' < m/\W (i+1) m' σ' H')/\∀x H',(Tj a o kvs).yld i H x H'->g x σ H' fun σ2 H2=>tb { D with nx:=N,ct:=N,bk:=D.nx } σ2 H2):=by
 refine⟨λi m σ H=>m=kvs.length - i/\i<=kvs.length/\Pv i σ H,⟨kvs.length,by simp,Qco _,h0⟩,?_⟩
 rintro i m σ H ⟨rfl,hi,p⟩
 have q:=hl i σ H hi p
 by_cases hlt:i < kvs.length
 ·refine .inr ⟨⟨hlt,q⟩,Pv (i+1),fun σ' H' p'=>⟨kvs.length - (i+1),by omega,rfl,hlt,p'⟩,λx H' y=>?_⟩
  obtain⟨rfl,b,kv,hkv,hb,rfl⟩:=y
  exact hs i kv b σ _ hkv p hb
 ·have e:i=kvs.length:=by omega
  subst e
  exact .inl ⟨⟨rfl,q⟩,hd σ H p⟩
theorem XH {σ0:St} {H0:Hp} (Pv:YN) (h0:Pv 0 σ0 H0) (hl:∀i σ H',i<=kvs.length->Pv i σ H'->H' a=some (.frz o (.dT kvs)))
  (hs:∀i kv b σ H',kvs[i]?=some kv->Pv i σ H'->H' b=some (.tup (kv.1.map kV))->g (.ref b) σ H' fun σ3 H3=>tt σ3 H3 λc H4=>if c=true then tk σ3 H4 λy H5=>tv σ3 H5 λz H6=>∃(ks:YL) (k:List Key) (b:Addr),H6 l=some (.dT ks)/\y=.ref b/\H6 b=some (.tup (k.map kV))/\ks.length < sizeLine/\Pv (i+1) σ3 (upd H6 l (.dT (putK ks k z))) else Pv (i+1) σ3 H4)
  (hd:∀ σ H',Pv kvs.length σ H'->Q (.ref l) H'):Pz (Tj a o kvs) g tt tk tv Q σ0 H0 l:=by
 unfold Pz
 refine⟨λi m σ H'=>m=kvs.length - i/\i<=kvs.length/\Pv i σ H',⟨kvs.length,by simp,Qco _,h0⟩,?_⟩
 rintro i m σ H' ⟨rfl,hi,p⟩
 have q:=hl i σ H' hi p
 by_cases hlt:i < kvs.length
 ·refine .inr ⟨⟨hlt,q⟩,Pv (i+1),fun σ3 H3 p'=>⟨kvs.length - (i+1),by omega,rfl,hlt,p'⟩,λx H2 y=>?_⟩
  obtain⟨rfl,b,kv,hkv,hb,rfl⟩:=y
  exact hs i kv b σ _ hkv p hb
 ·have e:i=kvs.length:=by omega
  subst e
  exact .inl ⟨⟨rfl,q⟩,hd σ H' p⟩
end
section
variable {X:Cx} {K:YD}
theorem gR (h:X.K=K) (hu:X.A.units+66 < cLine):OpR X (compareOp .NotIn) (λx y H Q=>∃l xs d ds,y=.ref l/\SqL K H l xs/\Jb K H xs ds/\Jo K H x d/\SeqAt.shaped d=true/\PyData.canLayAll0 ds=true/\Q (.bl (!ds.any λz=>PyData.eqv z d)) H):=by
 subst h
 intro pins s σ H x y v u Q I rx ry hh
 obtain⟨l,xs,d,ds,rfl,hq,hr,hx,sd,hc,q⟩:=hh
 cases ry
 obtain⟨its,rv,⟨o,n,ho,hcl,hdt,hd⟩,_⟩:=I.list hq
 obtain⟨as,r1⟩:=Jb.reads I hr rv
 obtain⟨bs,r2⟩:=Jo.reads I hx rx
 refine SeqAt.notIn_list_reads (xs:=ds) (d:=d) (.list ho hcl hd (by simpa using r1)) r2 hc (QaA sd) (room_in_shaped sd (by omega)) ⟨.bl _,H,I,rfl,q⟩
end
end L2
namespace K12
open PySem L2
def top (i:Nat):Stmt:=PySem.Challenge.pw_warnloop_k12_whole_one_fault.main.body.getD i (.Pass ⟨0,0,0,0⟩)
theorem Ja:bootBuiltins "isinstance"=some (.builtin "isinstance"):=by trivial
theorem nQ:bootBuiltins "int"=some (.type "int"):=by trivial
theorem wA:bootBuiltins "bool"=some (.type "bool"):=by trivial
theorem Ku:bootBuiltins "tuple"=some (.type "tuple"):=by trivial
theorem zX:bootBuiltins "str"=some (.type "str"):=by trivial
theorem Cz:bootBuiltins "len"=some (.builtin "len"):=by trivial
theorem Lp:bootBuiltins "all"=some (.builtin "all"):=by trivial
theorem nR:bootBuiltins "abs"=some (.builtin "abs"):=by trivial
theorem bF:bootBuiltins "max"=some (.builtin "max"):=by trivial
theorem zY:bootBuiltins "any"=some (.builtin "any"):=by trivial
theorem XQ:bootBuiltins "sorted"=some (.builtin "sorted"):=by trivial
theorem VR:bootBuiltins "min"=some (.builtin "min"):=by trivial
structure Nm (mg:YB):Prop where
 isinstance:mg "isinstance"=none
 int:mg "int"=none
 bool:mg "bool"=none
 tuple:mg "tuple"=none
 list:mg "list"=none
 str:mg "str"=none
 len:mg "len"=none
 all:mg "all"=none
 abs:mg "abs"=none
 max:mg "max"=none
 min:mg "min"=none
 range:mg "range"=none
 sorted:mg "sorted"=none
 any:mg "any"=none
 sum:mg "sum"=none
 enumerate:mg "enumerate"=none
 zip:mg "zip"=none
 reversed:mg "reversed"=none
 dict:mg "dict"=none
 ord:mg "ord"=none
abbrev Wo:Stmt:=top 46
abbrev Pq:YF:=["_law_script","_law_k"]
theorem Ua:Ax ["_law_script","_law_k","_law_cell"] Pq (Aj Wo):=⟨rfl,rfl,rfl,by trivial,rfl,by trivial,by trivial⟩
abbrev Ub:Stmt:=top 47
abbrev Hq:YF:=["_law_bag_here","_law_many"]
theorem Jr:Ax ["_law_bag_here","_law_many","_law_digit","_law_primes","_law_step","_law_base","_law_found"] Hq (Aj Ub):=⟨rfl,rfl,rfl,by trivial,rfl,by trivial,by trivial⟩
theorem yX (v:V):isW v=(isI v&&!isB v):=by cases v <;> rfl
def Bw (H:Hp) (b:Addr) (n:Nat):Prop:=∃x y z:Int,H b=some (.lst [.int x,.int y,.int z])/\0<=x/\0<=y/\y<=4294967296/\0<=z/\z<=n
theorem Bw.same {H H':Hp} {b:Addr} {n:Nat} (h:Bw H b n) (s:Same H H'):Bw H' b n:=by
 obtain⟨x,y,z,e,r⟩:=h
 exact⟨x,y,z,s _ _ e,r⟩
theorem Bw.mono {H:Hp} {b:Addr} {n m:Nat} (h:Bw H b n) (l:n<=m):Bw H b m:=by
 obtain⟨x,y,z,e,h1,h2,h3,h4,h5⟩:=h
 exact⟨x,y,z,e,h1,h2,h3,h4,by omega⟩
theorem Bw.nb {H:Hp} {b p:Addr} {n:Nat} (h:Bw H b n) (hp:H p=none):b≠p:=by obtain⟨_,_,_,e,_⟩:=h;exact Bb e hp
theorem Bw.Ib {H:Hp} {b:Addr} {n:Nat} (h:Bw H b n):∀xs,H b≠some (.tup xs):=λxs z=>by obtain⟨_,_,_,e,_⟩:=h;rw[e] at z;cases z
theorem Bw.ex {H:Hp} {b:Addr} {n:Nat} (h:Bw H b n):∃o,H b=some o:=by obtain⟨_,_,_,e,_⟩:=h;exact⟨_,e⟩
theorem Bw.Hz {H H':Hp} {a b:Addr} {n:Nat} (h:Bw H b n) (s:Ag a H H') (ne:b≠a):Bw H' b n:=by
 obtain⟨x,y,z,e,r⟩:=h
 exact⟨x,y,z,s _ _ e ne,r⟩
theorem Ar {n:Nat} (h:n<=1000):n<=sizeLine:=Qcl (Aq h)
def tQ (K:YD):Sp:=λvs H Q _=>∃(a:Addr) (ns:List Int) (k:Int),vs=[.ref a,.int k]/\SqL K H a (ns.map V.int)/\ns.length<=63/\0<=k/\k<=100/\∀p o,H p=none->Bw (upd H p o) p 0->Q (.ref p) (upd H p o)
def Q5:Sp:=λvs H Q _=>∃(b:Addr) (n:Nat) (m:Int),vs=[.ref b,.int m]/\Bw H b n/\n<=10000/\0 < m/\m < 1073741824/\∀r H',0<=r->r < m->Bw H' b (n+1)->Ag b H H'->Q (.int r) H'
def Yq (K:YD):Sp:=λvs H Q _=>∃(a:Addr) (ns:List Int),vs=[.ref a]/\SqL K H a (ns.map V.int)/\ns.length<=63/\∀H',Q (.bl true) H'
theorem at7 {i:Int} (h0:0<=i) (h7:i < 7) {a b c d e f g:Int} (P:Int->Prop) (ha:P a) (hb:P b) (hc:P c) (hd:P d) (he:P e) (hf:P f) (hg:P g):∃p,atI [V.int a,.int b,.int c,.int d,.int e,.int f,.int g] i=some (.int p)/\P p:=by
 have:i=0\/i=1\/i=2\/i=3\/i=4\/i=5\/i=6:=by omega
 rcases this with rfl | rfl | rfl | rfl | rfl | rfl | rfl
 ·exact⟨_,rfl,ha⟩
 ·exact⟨_,rfl,hb⟩
 ·exact⟨_,rfl,hc⟩
 ·exact⟨_,rfl,hd⟩
 ·exact⟨_,rfl,he⟩
 ·exact⟨_,rfl,hf⟩
 ·exact⟨_,rfl,hg⟩
theorem zU {x:Int} {b:Bool}:jw x (if b=true then 1 else 0):=.inr (by cases b <;> exact⟨by decide,by decide⟩)
section
variable {P:Program} {w:World} {K:YD} {mg:YB} {base:Heap}
theorem qx (C:Code K mg "_law_bag" Wo Pq) (T:Nm mg):Good P w K mg base "_law_bag" 1 Pq (tQ K):=by
 refine C.good Ua (λvs H Q E h=>?_) (λf cdv A outer s H vs Q E hr h=>?_)
 ·obtain⟨a,ns,k,rfl,_⟩:=h
  rfl
 obtain⟨a,ns,k,rfl,hS,h63,h0,h1,q⟩:=h
 refine⟨_,(Af (Ba (i:=2) Ua.nd rfl (Or.inl rfl) (Bc Ca (Bc Ca (Bc Hs (Bc Hs Ad (pv 1)) (pv 1)) (Bc Hs Ad (pv 1))) Ad))
 (Af (Ci (Bj gU (pv 1) (Az Bl rfl T.len Cz (Aa (pv 0) Ac)) (Br _)) (Ai (Ba (i:=2) Ua.nd rfl (Or.inl rfl) (Bh DX (pv 0) (pv 1) (λ_ _=>rfl)))) BK)
 (Ai (Ay (BZ (Aa (Bc Hs (Az bA rfl T.abs nR (Aa (pv 2) Ac)) (Ju nM rfl T.int nQ (Aa (Jt AZ (Az bA rfl T.abs nR (Aa (pv 2) Ac)) (Bc j7 Ad Ad) (Br _)) Ac))) (Aa (Bc Ca (Bc Ld (pv 2) Ad) (Bc Hs Ad (pv 1))) (Aa Ad Ac)))))))),?_⟩
 show let R0:TS:=_;let R1:TS:=_;let R2:TS:=Ao (Ga _ R1 _) R0;Ao _ R2 _ _ _
 intro R0 R1 R2
 refine⟨_,rfl,_,_,rfl,rfl,.inl ⟨by decide,by decide⟩,_,rfl,_,_,rfl,rfl,.inr ⟨by omega,by omega⟩,_,rfl,_,_,rfl,rfl,.inl ⟨by decide,by decide⟩,_,_,rfl,rfl,_,_,rfl,rfl,?_⟩
 refine⟨_,rfl,_,rfl,a,_,rfl,.inl hS,_,_,rfl,rfl,_,rfl,?_⟩
 have hl:(ns.map V.int).length=ns.length:=QbB _
 have fin:∀(c:Int) (p:Addr),H p=none->Q (.ref p) (upd H p (.lst [.int ((if c < 0 then -c else c)*(if decide ((10:Int) ^ (18:Int).toNat<=(if c < 0 then -c else c))=true then 1 else 0)),.int (c % 2147483647+37*k),.int 0])):=λc p hp=>by
  refine q p _ hp ⟨_,_,_,Ab,?_,?_,?_,by omega,by omega⟩
  ·refine Int.mul_nonneg ?_ ?_
   ·split <;> omega
   ·split <;> omega
  ·have:=QbP c (show (2147483647:Int)≠0 by decide)
   omega
  ·have:=Qbf c (show (0:Int) < 2147483647 by decide)
   omega
 refine LC (λc1=>?_) (λc1=>?_)
 ·have c':k < (((ns.map V.int).length:Nat):Int):=Qbj c1
  rw[hl] at c'
  have hk:k.toNat < ns.length:=by omega
  have hat:atI (ns.map V.int) ((k.toNat:Nat):Int)=some (.int ns[k.toNat]):=Gu (by rw[Qbk];simp[hk])
  rw[QaO h0] at hat
  refine⟨_,rfl,_,rfl,a,_,_,_,rfl,rfl,hS,hat,?_⟩
  exact⟨_,rfl,_,rfl,_,rfl,_,rfl,_,_,rfl,rfl,⟨by decide,by decide,by decide⟩,_,_,rfl,rfl,.inr ⟨_,rfl,_,_,rfl,rfl,zU,_,rfl,_,_,rfl,rfl,(by show (0:Int) < 2147483647;decide),_,rfl,_,_,rfl,rfl,.inl ⟨by decide,by decide⟩,_,_,rfl,rfl,
   (by show 3<=sizeLine;decide),λl hl'=>fin _ l hl'⟩⟩
 ·exact⟨_,rfl,_,rfl,_,rfl,_,rfl,_,_,rfl,rfl,⟨by decide,by decide,by decide⟩,_,_,rfl,rfl,.inr ⟨_,rfl,_,_,rfl,rfl,zU,_,rfl,_,_,rfl,rfl,(by show (0:Int) < 2147483647;decide),_,rfl,_,_,rfl,rfl,.inl ⟨by decide,by decide⟩,_,_,rfl,rfl,
   (by show 3<=sizeLine;decide),λl hl'=>fin _ l hl'⟩⟩
theorem kI (C:Code K mg "_law_take" Ub Hq) (T:Nm mg):Good P w K mg base "_law_take" 1 Hq Q5:=by
 refine C.good Jr (λvs H Q E h=>?_) (λf cdv A outer s H vs Q E hr h=>?_)
 ·obtain⟨b,n,m,rfl,_⟩:=h
  rfl
 obtain⟨b,n,m,rfl,⟨x,y,z,hb,x0,y0,y1,z0,z1⟩,hn,m0,m1,q⟩:=h
 refine⟨_,(Af (Ci (Bj Qf (Bh DX (pv 0) Ad (λ_ _=>rfl)) Ad (Br _)) (Af (Ba (i:=2) Jr.nd rfl (Or.inl rfl) (Bc Ld (Bh DX (pv 0) Ad (λ_ _=>rfl)) (pv 1)))
 (Af (Gj (Bc Wv (Bh DX (pv 0) Ad (λ_ _=>rfl)) (pv 1)) (ZK (pv 0) Ad set_list))
 (Ai (Ay (pv 2))))) BK)
 (Af (Ba (i:=3) Jr.nd rfl (Or.inl rfl) (@Bd _ _ _ _ _ (@Aa _ _ _ _ _ (@Ad _ _ _ _) (@Aa _ _ _ _ _ (@Ad _ _ _ _) (@Aa _ _ _ _ _ (@Ad _ _ _ _) (@Aa _ _ _ _ _ (@Ad _ _ _ _) (@Aa _ _ _ _ _ (@Ad _ _ _ _) (@Aa _ _ _ _ _ (@Ad _ _ _ _) (@Aa _ _ _ _ _ (@Ad _ _ _ _) (@Ac _) Bx) Bx) Bx) Bx) Bx) Bx) Bx)))
 (Af (Gj (Bc Ca (Bh DX (pv 0) Ad (λ_ _=>rfl)) Ad) (ZK (pv 0) Ad set_list))
 (Af (Ba (i:=4) Jr.nd rfl (Or.inl rfl) (Bh DX (pv 0) Ad (λ_ _=>rfl)))
 (Af (Ba (i:=5) Jr.nd rfl (Or.inl rfl) (Bc Ca (Bc Ca (Bc Hs (Bh DX (pv 0) Ad (λ_ _=>rfl)) (Bc Ca (Bc Hs Ad (pv 4)) Ad)) (Bc Hs (Bc Hs Ad (pv 4)) (pv 4))) Ad))
 (Af (Ba (i:=6) Jr.nd rfl (Or.inl rfl) (Bc Ld (Bc j7 (pv 5) Ad) (Bh Bu (pv 3) (Bc Ld (pv 4) Ad) (λ_ _=>rfl))))
 (Ai (Ay (Bc Ld (Bc Wv (Bc Ld (Bc Hs (pv 6) (Bc Ca (Bc Wv (pv 6) Ad) Ad)) (Bh Bu (pv 3) (Bc Ld (Bc Ca (pv 4) Ad) Ad) (λ_ _=>rfl))) Ad) (pv 1)))))))))),?_⟩
 show let R0:TS:=_;let R1:TS:=Ao _ R0;let R2:TS:=Ao _ R1;let R3:TS:=Ao _ R2;let R4:TS:=Ao _ R3;let R5:TS:=Ao _ R4;let R6:TS:=Ao _ _;let R7:TS:=Ao _ R6;Ao (Ga _ R7 _) R5 _ _ _
 intro R0 R1 R2 R3 R4 R5 R6 R7
 refine⟨_,rfl,b,_,_,_,rfl,rfl,SqL.of hb,rfl,_,_,rfl,rfl,_,rfl,?_⟩
 refine LC (λc1=>?_) (λc1=>?_)
 ·have c':0 < x:=Qbj c1
  refine⟨_,rfl,b,_,_,_,rfl,rfl,SqL.of hb,rfl,_,rfl,_,_,rfl,rfl,m0,?_⟩
  refine⟨_,rfl,b,_,_,_,rfl,rfl,SqL.of hb,rfl,_,rfl,_,_,rfl,rfl,⟨m0,m1⟩,_,rfl,b,_,_,_,rfl,rfl,hb,rfl,?_⟩
  exact⟨_,rfl,q _ _ (QbP x (by omega)) (Qbf x m0) ⟨x / m,y,z,Ab,Int.ediv_nonneg x0 (by omega),y0,y1,z0,by omega⟩ Ag.upd⟩
 ·refine⟨(by show 7<=sizeLine;decide),λtp htp=>?_⟩
  have nbt:b≠tp:=Bb hb htp
  have hb1:∀o,(upd H tp o) b=some (.lst [.int x,.int y,.int z]):=λo=>by rw[Am nbt];exact hb
  have ht1:∀o u,(upd (upd H tp o) b u) tp=some o:=λo u=>by rw[Am nbt.symm,Ab]
  refine⟨_,rfl,b,_,_,_,rfl,rfl,SqL.of (hb1 _),rfl,_,_,rfl,rfl,_,rfl,b,_,_,_,rfl,rfl,hb1 _,rfl,?_⟩
  refine⟨_,rfl,b,_,_,_,rfl,rfl,SqL.of Ab,rfl,?_⟩
  have s0:0<=z+1:=by omega
  have s1:z+1<=10001:=by omega
  refine⟨_,rfl,b,_,_,_,rfl,rfl,SqL.of Ab,rfl,_,rfl,_,_,rfl,rfl,.inl ⟨by decide,by decide⟩,_,_,rfl,rfl,_,_,rfl,rfl,.inl ⟨by omega,by omega⟩,_,rfl,_,_,rfl,rfl,.inl ⟨by decide,by decide⟩,_,rfl,_,_,rfl,rfl,.inr ⟨by omega,by omega⟩,
   _,_,rfl,rfl,_,_,rfl,rfl,?_⟩
  have hbase:(y*(2*(z+1)+1)+6007*(z+1)*(z+1)+29).natAbs < 2 ^ 64:=by
   have h1:0<=y*(2*(z+1)+1):=Int.mul_nonneg y0 (by omega)
   have h2:y*(2*(z+1)+1)<=4294967296*20003:=Int.mul_le_mul y1 (by omega) (by omega) (by omega)
   have h3:0<=6007*(z+1)*(z+1):=Int.mul_nonneg (by omega) s0
   have h4:6007*(z+1)*(z+1)<=(6007*10001)*10001:=Int.mul_le_mul (by omega) s1 s0 (by omega)
   omega
  obtain⟨p1,e1,p10,p11⟩:=at7 (i:=(z+1) % 7) (QbP _ (by decide)) (Qbf _ (by decide)) (a:=2147483629) (b:=2147483587) (c:=2147483579) (d:=2147483563) (e:=2147483549) (f:=2147483543) (g:=2147483497)
   (λp=>0 < p/\p < 2147483648) (by decide) (by decide) (by decide) (by decide) (by decide) (by decide) (by decide)
  obtain⟨p2,e2,p20,p21⟩:=at7 (i:=(z+1+3) % 7) (QbP _ (by decide)) (Qbf _ (by decide)) (a:=2147483629) (b:=2147483587) (c:=2147483579) (d:=2147483563) (e:=2147483549) (f:=2147483543) (g:=2147483497)
   (λp=>0 < p/\p < 2147483648) (by decide) (by decide) (by decide) (by decide) (by decide) (by decide) (by decide)
  refine⟨_,rfl,_,_,rfl,rfl,⟨by decide,by decide,hbase⟩,_,rfl,_,rfl,_,_,rfl,rfl,(by show (0:Int) < 7;decide),tp,_,_,_,rfl,rfl,SqT.of (ht1 _ _),e1,_,_,rfl,rfl,p10,?_⟩
  generalize hF:(y*(2*(z+1)+1)+6007*(z+1)*(z+1)+29) ^ (3:Int).toNat % p1=F
  have F0:0<=F:=by rw[<-hF];exact QbP _ (by omega)
  have F1:F < p1:=by rw[<-hF];exact Qbf _ p10
  refine⟨_,rfl,_,rfl,_,_,rfl,rfl,⟨by decide,by decide⟩,_,_,rfl,rfl,_,_,rfl,rfl,.inl ⟨by omega,by omega⟩,_,rfl,_,rfl,_,_,rfl,rfl,_,_,rfl,rfl,(by show (0:Int) < 7;decide),tp,_,_,_,rfl,rfl,SqT.of (ht1 _ _),e2,_,_,rfl,rfl,p20,
   _,_,rfl,rfl,⟨by decide,by decide⟩,_,rfl,_,_,rfl,rfl,m0,?_⟩
  refine q _ _ (QbP _ (by omega)) (Qbf _ m0) ⟨x,y,z+1,Ab,x0,y0,y1,s0,by omega⟩ λc o e nc=>?_
  rw[Am nc,Am (Bb e htp)]
  exact e
end
abbrev P0:Stmt:=top 48
abbrev Nr:YF:=["_law_bag_here"]
theorem Xu:Ax ["_law_bag_here","_law_letters"] Nr (Aj P0):=⟨rfl,rfl,rfl,by trivial,rfl,by trivial,by trivial⟩
abbrev N5:Stmt:=top 49
abbrev K4:YF:=["_law_bag_here","_law_many"]
theorem JD:Ax ["_law_bag_here","_law_many","_law_found","_law_place","_law_name_here"] K4 (Aj N5):=⟨rfl,rfl,rfl,by trivial,rfl,by trivial,by trivial⟩
theorem vQ {K:YD} {H:Hp} {z:Str} {Q:VK} (q:Q (.bl true) H):Ov K [.str z,.ty "str"] H Q:=by
 unfold Ov
 exact⟨_,_,_,_,rfl,.str z,by rfl,q⟩
def abc:Str:="abcdefghijklmnopqrstuvwxyz"
def okS (z:Str):Prop:=∀c∈z.cps.toList,c∈abc.cps.toList
theorem okS.append {x y:Str} (h:okS x) (h':okS y):okS (x++y):=by
 intro c hc
 have:c∈x.cps.toList++y.cps.toList:=by
  have e:(x++y).cps=x.cps++y.cps:=rfl
  rw[e,Array.toList_append] at hc
  exact hc
 rcases QbC.mp this with z | z
 ·exact h c z
 ·exact h' c z
theorem okS.slice {x:Str} (h:okS x) (l u:Option Int):okS (Txt.slice x l u):=by
 unfold Txt.slice
 split
 ·exact h
 ·intro c hc
  have hc':c∈(Builtin.Str.strSliceIndices l u 1 x.length).filterMap (x.cps[·]?):=by simpa using hc
  obtain⟨i,_,e⟩:=List.mem_filterMap.mp hc'
  exact h c (Array.mem_toList_iff.mpr (Array.mem_of_getElem? e))
theorem okS.join {sep:Str} (hs:okS sep):∀{ts:YF},(∀t∈ts,okS t)->okS (Str.join sep ts)
 | [],_=>λc hc=>by cases hc
 | [x],h=>h x (QaT ..)
 | x::y::r,h=>((h x (QaT ..)).append hs).append (okS.join hs (ts:=y::r) λt ht=>h t (QaG _ ht))
theorem Ti:abc.cps.toList.length=26:=by trivial
theorem Ap:abc.cps.toList.Nodup:=by trivial
theorem nW:okS abc:=λc hc=>hc
theorem aF:∀ts:YF,(Str.join "" ts).length=(ts.map (·.length)).sum
 | []=>rfl
 | [x]=>by show x.length=_;simp
 | x::y::r=>by
  show ((x++"")++Str.join "" (y::r)).length=_
  rw[Str.length_append,Str.length_append,aF (y::r),QbY (a:=x),List.sum_cons]
  have:(Str.ofString "").length=0:=by trivial
  rw[this]
  omega
theorem ES (n:Nat):(Builtin.Str.strSliceIndices (some 1) none 1 n).length<=n - 1:=by
 unfold Builtin.Str.strSliceIndices sliceRange
 simp only[show (1:Int) > 0 by decide,if_true,QbB,Qbq,show ¬((1:Int) < 0) by decide,if_false]
 split
 ·rw[Int.ediv_one];omega
 ·exact Qco _
theorem jM (z:Str):(Txt.slice z (some 1) none).length<=z.length - 1:=by
 have h:=ES z.length
 unfold Txt.slice
 split
 ·rename_i hc
  rw[Qbz] at hc
  have:=eq_of_beq hc.2
  omega
 ·show (List.filterMap _ _).toArray.size<=_
  rw[Qbi]
  exact Qci (List.length_filterMap_le _ _) h
theorem As {r:Int} (h0:0<=r) (h1:r < 26):∃c,atI abc.cps.toList r=some c/\okS ⟨#[c]⟩:=by
 have hl:r.toNat < abc.cps.toList.length:=by rw[Ti];omega
 refine⟨abc.cps.toList[r.toNat],?_,λc hc=>?_⟩
 ·have:=Gu (xs:=abc.cps.toList) (j:=r.toNat) (Qak hl)
  rw[QaO h0] at this
  exact this
 ·have:c=abc.cps.toList[r.toNat]:=by simpa using hc
  rw[this]
  exact nW _ (List.getElem_mem hl)
theorem YS:∀{ys:YF},(∀y∈ys,y.length=1)->(ys.map (·.length)).sum=ys.length
 | [],_=>rfl
 | y::r,h=>by
  rw[QbY,List.sum_cons,h y (QaT ..),YS (ys:=r) λt ht=>h t (QaG _ ht),Qbt]
  omega
theorem XF (ys:YF):(ys.map V.str).all KQ=true:=by
 rw[List.all_map,List.all_eq_true]
 intro _ _
 rfl
theorem Qn (z:Str):∀ys:YF,inV (.str z) (ys.map V.str)=true ↔ z∈ys
 | []=>by constructor <;> intro h <;> cases h
 | y::r=>by
  have ih:=Qn z r
  unfold inV at ih ⊢
  rw[QbY,Qcb,Bool.or_eq_true,ih,QbX]
  have:eqV (.str y) (.str z)=true ↔ z=y:=by
   show (y == z)=true ↔ z=y
   rw[beq_iff_eq]
   exact⟨λh=>h.symm,λh=>h.symm⟩
  rw[this]
theorem Xz:∀{l m:YF},l.Nodup->(∀x∈l,x∈m)->l.length<=m.length
 | [],_,_,_=>Qco _
 | a::r,m,nd,h=>by
  have ha:=h a (QaT ..)
  obtain⟨n1,n2⟩:=QbK.mp nd
  have:=Xz (l:=r) (m:=m.erase a) n2 λx hx=>(List.mem_erase_of_ne (λe=>n1 (by rw[<-e];exact hx))).mpr (h x (QaG _ hx))
  rw[List.length_erase_of_mem ha] at this
  have hp:=List.length_pos_of_mem ha
  rw[Qbt]
  omega
theorem cD (rest:Str) {ys:YF} (h:ys.length < 26):∃(i c:Nat),abc.cps[i]?=some c/\((⟨#[c]⟩ : Str)++rest)∉ys:=by
 refine Qah λhn=>?_
 have hall:∀x∈abc.cps.toList.map (λc=>(⟨#[c]⟩ : Str)++rest),x∈ys:=λx hx=>by
  obtain⟨c,hc,rfl⟩:=Qcg.mp hx
  obtain⟨i,hi⟩:=QaI hc
  refine Qah λhm=>hn ⟨i,c,by simpa using hi,hm⟩
 have nd:(abc.cps.toList.map (λc=>(⟨#[c]⟩ : Str)++rest)).Nodup:=by
  refine List.pairwise_map.mpr (Ap.imp λ{c d} hne e=>hne ?_)
  have e1:(#[c]++rest.cps:Array Nat)=#[d]++rest.cps:=congrArg Str.cps e
  have e2:=congrArg Array.toList e1
  rw[Array.toList_append,Array.toList_append] at e2
  injection e2
 have:=Xz nd hall
 rw[QbB,Ti] at this
 omega
theorem Qcx {α : Type} {l:List α} {i:Nat} {x:α} (h:l[i]?=some x):l.take (i+1)=l.take i++[x]:=by rw[List.take_add_one,h];rfl
theorem jg {X:Cx} {K:YD} (h:X.K=K) (hc:X.calm=true):FW X (.builtin "max") (λxs H Q=>∃(p:Addr) (ns:List Int),xs=[.ref p]/\SqL K H p (ns.map V.int)/\0 < ns.length/\∀M,M∈ns->(∀a,a∈ns->a<=M)->Q (.int M) H):=h ▸ XM hc
theorem Ag.PJ {a b:Addr} {H HH H':Hp} (s:Ag b H HH) (t:Ag a HH H') (f:H a=none):Ag b H H':=λc o e n=>t _ _ (s _ _ e n) λz=>by rw[z,f] at e;cases e
theorem IH {i:Int} (h0:0<=i) (h6:i < 6) {a b c d e f:Int} (P:Int->Prop) (ha:P a) (hb:P b) (hc:P c) (hd:P d) (he:P e) (hf:P f):∃p,atI [V.int a,.int b,.int c,.int d,.int e,.int f] i=some (.int p)/\P p:=by
 have:i=0\/i=1\/i=2\/i=3\/i=4\/i=5:=by omega
 rcases this with rfl | rfl | rfl | rfl | rfl | rfl
 ·exact⟨_,rfl,ha⟩
 ·exact⟨_,rfl,hb⟩
 ·exact⟨_,rfl,hc⟩
 ·exact⟨_,rfl,hd⟩
 ·exact⟨_,rfl,he⟩
 ·exact⟨_,rfl,hf⟩
def jJ:Sp:=λvs H Q _=>∃(b:Addr) (n:Nat),vs=[.ref b]/\Bw H b n/\n<=9000/\∀z H',1<=z.length->z.length<=8->okS z->Bw H' b (n+9)->Ag b H H'->Q (.str z) H'
def dI:Sp:=λvs H Q _=>∃(b:Addr) (n many:Nat),vs=[.ref b,.int many]/\Bw H b n/\n<=8000/\many<=20 /\
 ∀l (ys:YF) H',H l=none->ys.length=many->(∀y∈ys,(1<=y.length/\y.length<=8)/\okS y)->ys.Nodup->H' l=some (.lst (ys.map V.str))->Bw H' b (n+9*many)->Ag b H H'->Q (.ref l) H'
section
variable {P:Program} {w:World} {K:YD} {mg:YB} {base:Heap}
theorem vD (C:Code K mg "_law_name" P0 Nr) (T:Nm mg) (BJ:Good P w K mg base "_law_take" 1 Hq Q5):Good P w K mg base "_law_name" 2 Nr jJ:=by
 refine C.good Xu (λvs H Q E h=>?_) (λf cdv A outer s H vs Q E hr h=>?_)
 ·obtain⟨b,n,rfl,_⟩:=h
  rfl
 obtain⟨b,n,rfl,hb,hn,q⟩:=h
 refine⟨_,(Af (Ba (i:=1) Xu.nd rfl (Or.inr rfl) Bt)
 (Ai (Ay (CK PySem.F.plainAttrs_str PySem.F.slot_str_join PySem.F.type_str_join vM Bt (Aa (Cg (N':=["_law_place","_law_letters","_law_bag_here"]) rfl (Bg.of (src:=[none,some 1,some 0]) (Aj P0) ["_law_bag_here","_law_letters"] rfl rfl rfl (by trivial) (by trivial) (by trivial) rfl (by trivial)) (DG rfl T.range (Aa (Bc Ca Ad (Aw BJ hr (Aa (pv 0) (Aa Ad Ac)))) Ac)) (λ_ _ _ _=>(Ah (i:=0) (show List.Nodup (["_law_place","_law_letters","_law_bag_here"]:YF) by trivial) rfl (Or.inl rfl))) (λ_ _ _ _=>CQ) (λ_ _ _ _=>(Bh yV (pv 1) (Aw BJ hr (Aa (pv 2) (Aa Ad Ac))) (λ_ _=>rfl)))) Ac))))),?_⟩
 show let R0:TS:=_;Ao _ R0 _ _ _
 intro R0
 refine⟨rfl,_,rfl,b,n,8,rfl,hb,by omega,by decide,by decide,λr H1 r0 r1 hb1 sb1=>⟨_,_,rfl,rfl,_,rfl,by omega,by omega,λl hl=>?_⟩⟩
 have nbl:b≠l:=hb1.nb hl
 have fl:H l=none:=sb1.free hb1.ex hl
 let J0:YN:=λi σ HH=>∃(u:Option V) (ys:YF),σ=[u,some (.str abc),some (.ref b)]/\HH l=some (.lst (ys.map V.str))/\ys.length=i/\(∀y∈ys,y.length=1/\okS y)/\Bw HH b (n+1+i)/\Ag b H HH
 refine JX J0
  ⟨none,[],rfl,Ab,rfl,(λy hy=>by cases hy),hb1.same (Ae hl _),sb1.trans (Ag.of (Ae hl _))⟩ (λi σ HH hi h=>?_) (fun σ HH h=>?_)
 ·obtain⟨u,ys,rfl,e1,e2,e3,e4,e5⟩:=h
  refine⟨_,rfl,_,rfl,b,_,26,rfl,e4,by omega,by decide,by decide,λr' HA r0' r1' hbA sA=>?_⟩
  obtain⟨c,ec,oc⟩:=As r0' r1'
  have eA:=sA _ _ e1 nbl.symm
  refine⟨_,_,c,rfl,rfl,Ar (by show abc.cps.size<=1000;rw[<-QaN,Ti];decide),ec,_,eA,Aq (by rw[QbB];omega),_,ys++[⟨#[c]⟩],rfl,?_,?_,λy hy=>?_,hbA.Hz Ag.upd nbl,?_⟩
  ·rw[Ab,QbD];rfl
  ·rw[QaS,e2];rfl
  ·rcases QbC.mp hy with h | h
   ·exact e3 y h
   ·have:y=⟨#[c]⟩:=by simpa using h
    rw[this]
    exact⟨rfl,oc⟩
  ·exact λc o e ne=>Ag.upd _ _ (sA _ _ (e5 _ _ e ne) ne) λz=>by rw[z,fl] at e;cases e
 obtain⟨u,ys,rfl,e1,e2,e3,e4,e5⟩:=h
 have hs:=YS λy hy=>(e3 y hy).1
 refine⟨_,l,ys,rfl,rfl,SqL.of e1,?_,?_⟩
 ·rw[hs]
  have:(Str.ofString "").length=0:=by trivial
  rw[this]
  omega
 ·have hj:=aF ys
  rw[hs] at hj
  refine q _ HH ?_ ?_ ?_ (e4.mono (by omega)) e5
  ·show 1<=(Builtin.Str.glued _ ys).length
   rw[StrLaws.glued_eq_join]
   show 1<=(Str.join "" ys).length
   omega
  ·show (Builtin.Str.glued _ ys).length<=8
   rw[StrLaws.glued_eq_join]
   show (Str.join "" ys).length<=8
   omega
  ·show okS (Builtin.Str.glued _ ys)
   rw[StrLaws.glued_eq_join]
   exact okS.join (λc hc=>by cases hc) λy hy=>(e3 y hy).2
theorem qw (C:Code K mg "_law_names" N5 K4) (T:Nm mg) (rm:Good P w K mg base "_law_name" 2 Nr jJ):Good P w K mg base "_law_names" 3 K4 dI:=by
 refine C.good JD (λvs H Q E h=>?_) (λf cdv A outer s H vs Q E hr h=>?_)
 ·obtain⟨b,n,many,rfl,_⟩:=h
  rfl
 obtain⟨b,n,many,rfl,hb,hn,hm,q⟩:=h
 refine⟨_,(Af (Ba (i:=2) JD.nd rfl (Or.inr rfl) (BZ Ac))
 (Af (Cj QbE rfl (DG rfl T.range (Aa (pv 1) Ac)) (Ah (i:=3) JD.nd rfl (Or.inl rfl))
 (Af (Ba (i:=4) JD.nd rfl (Or.inr rfl) (Aw rm hr (Aa (pv 0) Ac)))
 (Af (Ci (Bj Rt (pv 4) (pv 2) (by with_unfolding_all rfl)) (Ai (Ba (i:=4) JD.nd rfl (Or.inr rfl) (Bh DX (Cg (N':=["_law_one","_law_name_here","_law_found"]) rfl (Bg.of (src:=[none,some 4,some 2]) (Aj N5) ["_law_bag_here","_law_many","_law_found","_law_place","_law_name_here"] rfl rfl rfl (by trivial) (by trivial) (by trivial) rfl (by trivial)) (jZ Bt) (λ_ _ _ _=>(Ah (i:=0) (show List.Nodup (["_law_one","_law_name_here","_law_found"]:YF) by trivial) rfl (Or.inl rfl))) (λ_ _ _ _=>(Gm (Bj (QH (K:=K) rfl) (Bc Vl (pv 0) (Kl jN (pv 1) (Mu Ad) Mv)) (pv 2) (by with_unfolding_all rfl)))) (λ_ _ _ _=>(Bc Vl (pv 0) (Kl jN (pv 1) (Mu Ad) Mv)))) Ad (λ_ _=>rfl)))) BK)
 (Ai (Bs (CK Qap Qal Qam Cy (pv 2) (Aa (pv 4) Ac)))))))
 (Ai (Ay (pv 2))))),?_⟩
 show let R0:TS:=_;let R1:TS:=_;let R2:TS:=Ao (Ga _ R1 _) R0;let R3:TS:=Ao _ R2;let R4:TS:=Ao (DQ _ _ R3) _;Ao _ R4 _ _ _
 intro R0 R1 R2 R3 R4
 refine⟨Ar (by show 0<=1000;decide),λlf hlf=>?_⟩
 have s1:=Ae hlf (.lst [])
 have nbf:b≠lf:=hb.nb hlf
 refine⟨_,rfl,_,rfl,by omega,by omega,?_⟩
 rw[Qbm]
 let J1:YN:=λi σ HH=>∃(u3 u4:Option V) (ys:YF),σ=[some (.ref b),some (.int many),some (.ref lf),u3,u4]/\HH lf=some (.lst (ys.map V.str))/\ys.length=i/\(∀y∈ys,(1<=y.length/\y.length<=8)/\okS y)/\Bw HH b (n+9*i)/\Ag b H HH/\ys.Nodup
 refine FP J1
  ⟨_,_,[],rfl,Ab,rfl,(λy hy=>by cases hy),hb.same s1,Ag.of s1,QbU⟩ (λi σ HH hi h=>?_) (fun σ HH h=>?_)
 ·obtain⟨u3,u4,ys,rfl,e1,e2,e3,e4,e5,e6⟩:=h
  refine⟨_,rfl,b,_,rfl,e4,by omega,λz HA hz1 hz oz hbA sA=>?_⟩
  have eA:=sA _ _ e1 nbf.symm
  have s5:Ag b H HA:=e5.trans sA
  have fin:∀(y:Str) (HB:Hp),(1<=y.length/\y.length<=8)->okS y->y∉ys->HB lf=some (.lst (ys.map V.str))->Bw HB b (n+9*i+9)->Ag b H HB->∃(u3 u4:Option V) (ys':YF),[some (V.ref b),some (.int many),some (.ref lf),some (.int (0+(i:Int))),some (.str y)]=[some (.ref b),some (.int many),some (.ref lf),u3,u4] /\
    upd HB lf (.lst (ys.map V.str++[.str y])) lf=some (.lst (ys'.map V.str))/\ys'.length=i+1/\(∀y∈ys',(1<=y.length/\y.length<=8)/\okS y)/\Bw (upd HB lf (.lst (ys.map V.str++[.str y]))) b (n+9*(i+1))/\Ag b H (upd HB lf (.lst (ys.map V.str++[.str y])))/\ys'.Nodup:=λy HB hy oy hny hB bB sB=>by
   refine⟨_,_,ys++[y],rfl,?_,?_,λx hx=>?_,(bB.Hz Ag.upd nbf).mono (by omega),Ag.PJ sB Ag.upd hlf,d9 e6 hny⟩
   ·rw[Ab,QbD];rfl
   ·rw[QaS,e2];rfl
   ·rcases QbC.mp hx with h | h
    ·exact e3 x h
    ·have:x=y:=by simpa using h
     rw[this]
     exact⟨hy,oy⟩
  refine⟨_,rfl,_,rfl,lf,_,rfl,.inl (SqL.of eA),rfl,XF ys,_,rfl,LC (λ_=>?_) (λhnz=>?_)⟩
  ·refine⟨_,rfl,λl2 hl2=>?_⟩
   have nfl:lf≠l2:=Bb eA hl2
   have hsl:(Txt.slice z (some 1) none).length<=7:=Qci (jM z) (by omega)
   have osl:=oz.slice (some 1) none
   let J2:YN:=λi σ HH=>∃(u:Option V) (ws:YF),σ=[u,some (.str z),some (.ref lf)]/\HH=upd HA l2 (.lst (ws.map V.str))/\ws.length<=i/\(∀y∈ws,((1<=y.length/\y.length<=8)/\okS y)/\y∉ys)/\((∃j c,j < i/\abc.cps[j]?=some c/\((⟨#[c]⟩ : Str)++Txt.slice z (some 1) none)∉ys)->ws≠[])
   refine aW J2
    ⟨none,[],rfl,rfl,Qcn _,(λy hy=>by cases hy),λ⟨j,c,hj,_⟩=>absurd hj (QbO _)⟩ (λj c σ HH hc h=>?_) (fun σ HH h=>?_)
   ·obtain⟨u,ws,rfl,rfl,l1,l2',l3⟩:=h
    have hj:j < 26:=by
     have:=(Qaf.mp hc).1
     rw[<-QaN] at this
     have e:=Ti
     unfold abc at e
     omega
    have oc:okS ⟨#[c]⟩:=λd hd=>by
     have:d=c:=by simpa using hd
     rw[this]
     exact nW c (Array.mem_toList_iff.mpr (Array.mem_of_getElem? hc))
    have hlen:(⟨#[c]⟩ : Str).length+(Txt.slice z (some 1) none).length<=sizeLine:=by
     show 1+_<=sizeLine
     rw[Qcr]
     omega
    have hzl:z.length<=sizeLine:=by rw[Qcr];omega
    have eB:upd HA l2 (.lst (ws.map V.str)) lf=some (.lst (ys.map V.str)):=by rw[Am nfl];exact eA
    refine⟨_,rfl,_,rfl,_,rfl,_,rfl,hzl,_,_,rfl,rfl,hlen,_,rfl,lf,_,rfl,.inl (SqL.of eB),rfl,XF ys,_,rfl,LC (λt=>?_) (λt=>?_)⟩
    ·refine⟨_,rfl,_,rfl,_,rfl,_,rfl,hzl,_,_,rfl,rfl,hlen,_,Ab,Aq (by rw[QbB];omega),_,ws++[(⟨#[c]⟩ : Str)++Txt.slice z (some 1) none],rfl,?_,?_,λy hy=>?_,λ_ e=>?_⟩
     ·rw[Sg,QbD];rfl
     ·rw[QaS];show _+1<=_;omega
     ·rcases QbC.mp hy with h | h
      ·exact l2' y h
      ·have e:y=(⟨#[c]⟩ : Str)++Txt.slice z (some 1) none:=by simpa using h
       rw[e]
       refine⟨⟨⟨by rw[Str.length_append];show 1<=1+_;omega,by rw[Str.length_append];show 1+_<=8;omega⟩,oc.append osl⟩,λhin=>?_⟩
       have t:(!inV (.str ((⟨#[c]⟩ : Str)++Txt.slice z (some 1) none)) (ys.map V.str))=true:=t
       rw[(Qn _ ys).mpr hin] at t
       cases t
     ·have:=congrArg List.length e
      rw[QaS] at this
      simp at this
    ·refine⟨_,ws,rfl,rfl,by omega,l2',λ⟨j',c',hj',hc',hn'⟩=>?_⟩
     by_cases ej:j'=j
     ·subst ej
      have ec:c'=c:=by
       have e1:abc.cps[j']?=some c:=hc
       rw[hc'] at e1
       exact QbH e1
      subst ec
      exfalso
      apply t
      show (!inV (.str ((⟨#[c']⟩ : Str)++Txt.slice z (some 1) none)) (ys.map V.str))=true
      cases e:inV (.str ((⟨#[c']⟩ : Str)++Txt.slice z (some 1) none)) (ys.map V.str) with
      | false=>rfl
      | true=>exact absurd ((Qn _ ys).mp e) hn'
     ·exact l3 ⟨j',c',by omega,hc',hn'⟩
   ·obtain⟨u,ws,rfl,rfl,l1,l2',l3⟩:=h
    obtain⟨j,c,hc,hnot⟩:=cD (Txt.slice z (some 1) none) (ys:=ys) (by omega)
    have hws:=l3 ⟨j,c,(Qaf.mp hc).1,hc,hnot⟩
    cases ws with
    | nil=>exact absurd rfl hws
    | cons w0 wr=>
     obtain⟨⟨y1,y2⟩,y3⟩:=l2' w0 (QaT ..)
     have s2:=Ae hl2 (.lst ((w0::wr).map V.str))
     have eB:=s2 _ _ eA
     refine⟨l2,_,_,_,rfl,rfl,SqL.of Ab,Gu (xs:=(w0::wr).map V.str) (j:=0) rfl,?_⟩
     refine⟨_,rfl,.inl ⟨rfl,_,SqL.of eB⟩,_,rfl,lf,_,_,rfl,rfl,eB,Aq (by rw[QbB];omega),?_⟩
     exact fin w0 _ y1 y2 y3 eB (hbA.same s2) (s5.trans (Ag.of s2))
  ·refine⟨_,rfl,.inl ⟨rfl,_,SqL.of eA⟩,_,rfl,lf,_,_,rfl,rfl,eA,Aq (by rw[QbB];omega),?_⟩
   exact fin z HA ⟨hz1,hz⟩ oz (λhin=>hnz ((Qn _ ys).mpr hin)) eA hbA s5
 ·obtain⟨u3,u4,ys,rfl,e1,e2,e3,e4,e5,e6⟩:=h
  exact⟨_,rfl,q lf ys HH hlf e2 e3 e6 e1 e4 e5⟩
end
structure Dev where
 kind:Str
 addr:Int
structure Place where
 kind:Str
 addr:Int
 spur:List Dev
def Ka (H:Hp) (v:V) (d:Dev):Prop:=∃t,v=.ref t/\H t=some (.tup [.str d.kind,.int d.addr])
def Dl (H:Hp) (v:V) (p:Place):Prop:=∃t u vs,v=.ref t/\H t=some (.tup [.str p.kind,.int p.addr,.ref u])/\H u=some (.tup vs)/\Paired (Ka H) vs p.spur
def LoopAt (H:Hp) (v:V) (ps:List Place):Prop:=∃t vs,v=.ref t/\H t=some (.tup vs)/\Paired (Dl H) vs ps
theorem Ka.tups {H H':Hp} (s:Al H H') {v:V} {d:Dev} (h:Ka H v d):Ka H' v d:=by
 obtain⟨t,e,q⟩:=h
 exact⟨t,e,s _ _ q⟩
theorem Dl.tups {H H':Hp} (s:Al H H') {v:V} {d:Place} (h:Dl H v d):Dl H' v d:=by
 obtain⟨t,u,vs,e,q1,q2,q3⟩:=h
 exact⟨t,u,vs,e,s _ _ q1,s _ _ q2,Paired.Av q3 λ_ _ z=>z.tups s⟩
theorem LoopAt.tups {H H':Hp} (s:Al H H') {v:V} {d:List Place} (h:LoopAt H v d):LoopAt H' v d:=by
 obtain⟨t,vs,e,q1,q2⟩:=h
 exact⟨t,vs,e,s _ _ q1,Paired.Av q2 λ_ _ z=>z.tups s⟩
theorem Paired.Ce {α β : Type} {F:α->β->Prop}:∀{l₁ : List α} {l₂ : List β} {i:Nat} {x:α},Paired F l₁ l₂->l₁[i]?=some x->∃y,l₂[i]?=some y/\F x y
 | _,_,_,_,.nil,h=>by simp at h
 | _,_,0,_,.cons a _,h=>by simp at h;subst h;exact⟨_,rfl,a⟩
 | _,_,i+1,x,.cons _ t,h=>by
  obtain⟨y,h1,h2⟩:=Paired.Ce (i:=i) (x:=x) t (by simpa using h)
  exact⟨y,by simpa using h1,h2⟩
theorem Qcp {α β : Type} {F:α->β->Prop} {a:α} {b:β} (h:F a b):∀{l₁ : List α} {l₂ : List β},Paired F l₁ l₂->Paired F (l₁++[a]) (l₂++[b])
 | _,_,.nil=>.cons h .nil
 | _,_,.cons x t=>.cons x (Qcp h t)
def GP (k:Str):Prop:=k="seeker"\/k="knob"\/k="bell"\/k="door"
structure OkP (p:Place):Prop where
 spur:p.spur.length<=3
 kinds:∀d∈p.spur,GP d.kind
 form:(p.kind="opener"/\p.addr=0/\p.spur=[])\/GP p.kind
structure Zone where
 name:Str
 adr:List Int
def IK (H:Hp) (v:V) (z:Zone):Prop:=∃t u,v=.ref t/\H t=some (.tup [.str z.name,.ref u])/\H u=some (.tup (z.adr.map V.int))
theorem IK.tups {H H':Hp} (s:Al H H') {v:V} {z:Zone} (h:IK H v z):IK H' v z:=by
 obtain⟨t,u,e,q1,q2⟩:=h
 exact⟨t,u,e,s _ _ q1,s _ _ q2⟩
def El (k:Str):Bool:=inV (.str k) [.str "seeker",.str "knob"]
def Fo (p:Place):List Dev:=⟨p.kind,p.addr⟩::p.spur
def Ia (ds:List Dev):List Int:=(ds.filter λd=>El d.kind).map (·.addr)
def Jd (ps:List Place):List Int:=ps.flatMap λp=>Ia (Fo p)
abbrev YU:=List (List Place)
def Ep (ls:YU):List Int:=ls.flatMap Jd
theorem jy (ds:List Dev) (d:Dev):Ia (ds++[d])=Ia ds++(if El d.kind=true then [d.addr] else []):=by
 unfold Ia
 rw[Qbd,QbD]
 congr 1
 by_cases h:El d.kind=true
 ·rw[if_pos h];simp[List.filter,h]
 ·rw[if_neg h];simp[List.filter,h]
theorem jx (ps:List Place) (p:Place):Jd (ps++[p])=Jd ps++Ia (Fo p):=by unfold Jd;rw[QaM];simp
theorem fQ (ls:YU) (ps:List Place):Ep (ls++[ps])=Ep ls++Jd ps:=by unfold Ep;rw[QaM];simp
def ptS (a:List Int×Int) (p:Place):List Int×Int:=if V.str p.kind=V.str "opener" then (a.1++[a.2],0) else (a.1,a.2+1+(p.spur.length:Int))
def pst (ps:List Place):List Int×Int:=ps.foldl ptS ([],0)
def G6 (ps:List Place):List Int:=(pst ps).1++[(pst ps).2]
theorem ZD (ps:List Place) (p:Place):pst (ps++[p])=ptS (pst ps) p:=by unfold pst;rw[List.foldl_append];rfl
abbrev Uc:Stmt:=top 50
abbrev Nt:YF:=["_law_bag_here","_law_numbers","_law_most_places"]
theorem Js:Ax ["_law_bag_here","_law_numbers","_law_most_places","_law_places","_law_at","_law_many","_law_some","_law_way"] Nt (Aj Uc):=⟨rfl,rfl,rfl,by trivial,rfl,by trivial,by trivial⟩
abbrev Q7:Stmt:=top 51
abbrev K3:YF:=["_law_places"]
theorem JC:Ax ["_law_places","_law_found","_law_kind","_law_address","_law_spur"] K3 (Aj Q7):=⟨rfl,rfl,rfl,by trivial,rfl,by trivial,by trivial⟩
def Dh (a b:Addr) (H H':Hp):Prop:=∀c o,H c=some o->c≠a->c≠b->H' c=some o
theorem Dh.trans {a b:Addr} {H H1 H2:Hp} (x:Dh a b H H1) (y:Dh a b H1 H2):Dh a b H H2:=λc o e n m=>y _ _ (x _ _ e n m) n m
theorem Dh.l {a b:Addr} {H H1:Hp} (x:Ag a H H1):Dh a b H H1:=λc o e n _=>x _ _ e n
theorem Dh.r {a b:Addr} {H H1:Hp} (x:Ag b H H1):Dh a b H H1:=λc o e _ m=>x _ _ e m
theorem Dh.of {a b:Addr} {H H1:Hp} (x:Same H H1):Dh a b H H1:=λc o e _ _=>x _ _ e
theorem Dh.PJ {a b p:Addr} {H HH H':Hp} (s:Dh a b H HH) (t:Ag p HH H') (f:H p=none):Dh a b H H':=λc o e n m=>t _ _ (s _ _ e n m) λz=>by rw[z,f] at e;cases e
def adP (p:Place):List Int:=if V.str p.kind=V.str "opener" then [] else p.addr::p.spur.map (·.addr)
def adL (ps:List Place):List Int:=ps.flatMap adP
theorem UL (ps:List Place) (p:Place):adL (ps++[p])=adL ps++adP p:=by unfold adL;rw[QaM];simp
def opP:Place:=⟨"opener",0,[]⟩
theorem AY:OkP opP:=⟨by show 0<=3;decide,(λd hd=>by cases hd),.inl ⟨rfl,rfl,rfl⟩⟩
theorem An:adP opP=[]:=if_pos rfl
theorem Vu {k:Str} (h:GP k):¬V.str k=V.str "opener":=by
 rcases h with rfl | rfl | rfl | rfl <;> decide +kernel
theorem wC {i:Int} (h0:0<=i) (h4:i < 4):∃k,atI [V.str "seeker",.str "knob",.str "bell",.str "door"] i=some (.str k)/\GP k:=by
 have:i=0\/i=1\/i=2\/i=3:=by omega
 rcases this with rfl | rfl | rfl | rfl
 ·exact⟨_,rfl,.inl rfl⟩
 ·exact⟨_,rfl,.inr (.inl rfl)⟩
 ·exact⟨_,rfl,.inr (.inr (.inl rfl))⟩
 ·exact⟨_,rfl,.inr (.inr (.inr rfl))⟩
theorem Ux {xs:YG} {k:Nat} (h:k<=xs.length):Jm xs (some (k:Int)) none=xs.drop k:=by
 unfold Jm
 rw[HT.Zr,HT.dO,Nat.min_eq_left h]
 exact List.take_of_length_le (by rw[Qbx];omega)
theorem jO {n:Nat} (h:0 < n):seqIndex? 0 n=some 0:=by
 unfold seqIndex?
 simp only[if_neg (show ¬(0:Int) < 0 by decide)]
 rw[if_pos (by simp;omega)]
 rfl
def jK:Sp:=λvs H Q _=>∃(b nb:Addr) (n mp:Nat) (ns:List Int),vs=[.ref b,.ref nb,.int mp]/\Bw H b n/\n<=5000/\b≠nb/\H nb=some (.lst (ns.map V.int))/\1<=mp/\mp<=12/\ns.length<=100 /\
 ∀t ps ns' H',LoopAt H' (.ref t) ps->(∀p∈ps,OkP p)->1<=ps.length->ps.length<=mp->ns=adL ps++ns'->H' nb=some (.lst (ns'.map V.int))->Bw H' b (n+100)->Dh b nb H H'->Q (.ref t) H'
def Y9:Sp:=λvs H Q _=>∃(t:Addr) (ps:List Place),vs=[.ref t]/\LoopAt H (.ref t) ps/\(∀p∈ps,OkP p)/\ps.length<=100/\∀l H',H' l=some (.lst ((G6 ps).map V.int))->Same H H'->Q (.ref l) H'
def uF (b nb lp:Addr) (mp:Int) (H:Hp) (n:Nat) (ns:List Int) (i:Nat) (σ : St) (HH:Hp):Prop:=
 ∃u4 u5 u6 u7 vs ps ns',σ=[some (.ref b),some (.ref nb),some (.int mp),some (.ref lp),u4,u5,u6,u7]/\HH lp=some (.lst vs)/\Paired (Dl HH) vs ps/\ps.length=i/\(∀p∈ps,OkP p)/\ns=adL ps++ns'/\HH nb=some (.lst (ns'.map V.int))/\Bw HH b (n+1+7*i)/\Dh b nb H HH
section
variable {P:Program} {w:World} {K:YD} {mg:YB} {base:Heap}
theorem vH (C:Code K mg "_law_loop" Uc Nt) (T:Nm mg) (BJ:Good P w K mg base "_law_take" 1 Hq Q5):Good P w K mg base "_law_loop" 2 Nt jK:=by
 refine C.good Js (λvs H Q E h=>?_) (λf cdv A outer s H vs Q E hr h=>?_)
 ·obtain⟨b,nb,n,mp,ns,rfl,_⟩:=h
  rfl
 obtain⟨b,nb,n,mp,ns,rfl,hb,hn,nbn,hnb,Lc,hmp,hns,q⟩:=h
 refine⟨_,(Af (Ba (i:=3) Js.nd rfl (Or.inl rfl) (BZ Ac))
 (Af (Cj QbE rfl (DG rfl T.range (Aa (Bc Ca Ad (Aw BJ hr (Aa (pv 0) (Aa (pv 2) Ac)))) Ac)) (Ah (i:=4) Js.nd rfl (Or.inl rfl))
 (Af (Ba (i:=5) Js.nd rfl (Or.inl rfl) (Bc Ca Ad (Bh DX (@BZ _ _ _ _ (@Aa _ _ _ _ _ (@Ad _ _ _ _) (@Aa _ _ _ _ _ (@Ad _ _ _ _) (@Aa _ _ _ _ _ (@Ad _ _ _ _) (@Aa _ _ _ _ _ (@Ad _ _ _ _) (@Aa _ _ _ _ _ (@Ad _ _ _ _) (@Aa _ _ _ _ _ (@Ad _ _ _ _) (@Ac _) Bx) Bx) Bx) Bx) Bx) Bx)) (Aw BJ hr (Aa (pv 0) (Aa Ad Ac))) (λ_ _=>rfl))))
 (Ai (Ci (PW.pt (Ml (Bj G7 (Aw BJ hr (Aa (pv 0) (Aa Ad Ac))) Ad (Br _)) (Nf (Bj gU (Az Bl rfl T.len Cz (Aa (pv 1) Ac)) (pv 5) (Br _))))) (Ai (Bs (CK Qap Qal Qam Cy (pv 3) (Aa (Bd (Aa Bt (Aa Ad (Aa (Bd Ac) Ac)))) Ac)))) (Af (Ba (i:=6) Js.nd rfl (Or.inl rfl) (BZ Ac))
 (Af (Cj QbE rfl (DG rfl T.range (Aa (pv 5) Ac)) (Ah (i:=7) Js.nd rfl (Or.inl rfl))
 (Ai (Bs (CK Qap Qal Qam Cy (pv 6) (Aa (Bd (Aa (Bh DX (BZ (Aa Bt (Aa Bt (Aa Bt (Aa Bt Ac))))) (Aw BJ hr (Aa (pv 0) (Aa Ad Ac))) (λ_ _=>rfl)) (Aa (CK Qap PySem.F.slot_list_pop PySem.F.type_list_pop Z9 (pv 1) (Aa Ad Ac)) Ac))) Ac)))))
 (Ai (Bs (CK Qap Qal Qam Cy (pv 3) (Aa (Bc Qg (Bh DX (pv 6) Ad (λ_ _=>rfl)) (Bd (Aa (Ju GR rfl T.tuple Ku (Aa (Kl uT (pv 6) (Mu Ad) Mv) Ac)) Ac))) Ac))))))))))
 (Ai (Ay (Ju GR rfl T.tuple Ku (Aa (pv 3) Ac)))))),?_⟩
 show let R0:TS:=_;let R1:TS:=_;let R2:TS:=_;let R3:TS:=_;let R4:TS:=Ao (DQ _ _ R3) R2;let R5:TS:=Ao _ R4;let R6:TS:=Ga _ R1 R5;let R7:TS:=Ao _ R6;let R8:TS:=Ao (DQ _ _ R7) R0;Ao _ R8 _ _ _
 intro R0 R1 R2 R3 R4 R5 R6 R7 R8
 refine⟨Ar (by show 0<=1000;decide),λlp hlp=>?_⟩
 have s0:=Ae hlp (.lst [])
 have nlb:b≠lp:=hb.nb hlp
 have nln:nb≠lp:=Bb hnb hlp
 refine⟨_,rfl,_,rfl,b,n,_,rfl,hb.same s0,by omega,by omega,by omega,λr H1 r0 r1 hb1 sb1=>⟨_,_,rfl,rfl,_,rfl,by omega,by omega,?_⟩⟩
 obtain⟨rn,hrn⟩ : ∃rn:Nat,r=rn:=⟨r.toNat,by omega⟩
 subst hrn
 rw[show ((1:Int)+(rn:Int)).toNat=rn+1 by omega]
 have KO:∀{H2 H3:Hp},H2 lp=some (.lst [])->True:=λ_=>True.intro
 refine FP (uF b nb lp mp H n ns) ⟨_,_,_,_,[],[],ns,rfl,sb1 _ _ Ab nlb.symm,.nil,rfl,(λp hp=>by cases hp),rfl,sb1 _ _ (s0 _ _ hnb) nbn.symm,hb1,(Dh.of s0).trans (Dh.l sb1)⟩ (λi σ HH hi h=>?_) (fun σ HH h=>?_)
 ·obtain⟨u4,u5,u6,u7,vs,ps,ns',rfl,e1,e2,e3,e4,e5,e6,e7,e8⟩:=h
  have Ff:i < 12:=by omega
  have hlv:=QbW e2
  refine⟨Ar (by show 6<=1000;decide),λl6 hl6=>?_⟩
  have s6:=Ae hl6 (.lst [.int 0,.int 0,.int 0,.int 1,.int 2,.int 3])
  refine⟨_,rfl,b,_,6,rfl,e7.same s6,by omega,by decide,by decide,λr2 HA r20 r21 hbA sA=>?_⟩
  obtain⟨m,em,m0,m3⟩:=IH r20 r21 (a:=0) (b:=0) (c:=0) (d:=1) (e:=2) (f:=3) (λp=>0<=p/\p<=3) (by decide) (by decide) (by decide) (by decide) (by decide) (by decide)
  obtain⟨mn,hmn⟩ : ∃mn:Nat,m=mn:=⟨m.toNat,by omega⟩
  subst hmn
  refine⟨l6,_,_,_,rfl,rfl,SqL.of (sA _ _ Ab (e7.nb hl6).symm),em,_,_,rfl,rfl,?_⟩
  refine⟨_,rfl,b,_,4,rfl,hbA,by omega,by decide,by decide,λr3 HB r30 r31 hbB sB=>⟨rfl,_,rfl,?_⟩⟩
  have sHB:Ag b HH HB:=((Ag.of s6).trans sA).trans sB
  have tHB:Al HH HB:=sHB.tup e7.Ib
  have f1:=sHB _ _ e1 nlb.symm
  have f2:Paired (Dl HB) vs ps:=Paired.Av e2 λ_ _ z=>z.tups tHB
  have f6:=sHB _ _ e6 nbn.symm
  have f8:Dh b nb H HB:=e8.trans (Dh.l sHB)
  have opn:∀eo,HB eo=none->∀t,upd HB eo (.tup []) t=none->uF b nb lp mp H n ns (i+1) [some (.ref b),some (.ref nb),some (.int mp),some (.ref lp),some (.int (0+(i:Int))),some (.int (1+(mn:Int))),u6,u7] (upd (upd (upd HB eo (.tup [])) t (.tup [.str "opener",.int 0,.ref eo])) lp (.lst (vs++[.ref t]))):=λeo heo t ht=>by
   have t1:=Ae heo (.tup [])
   have t2:=Ae ht (.tup [.str "opener",.int 0,.ref eo])
   have f1':=t2 _ _ (t1 _ _ f1)
   have nt:∀zs,(upd (upd HB eo (.tup [])) t (.tup [.str "opener",.int 0,.ref eo])) lp≠some (.tup zs):=λzs z=>by rw[f1'] at z;cases z
   have tu:=Al.upd (o:=.lst (vs++[.ref t])) nt
   refine⟨_,_,_,_,vs++[.ref t],ps++[opP],ns',rfl,Ab,?_,by rw[QaS,e3];rfl,λp hp=>?_,?_,?_,?_,?_⟩
   ·refine Qcp ⟨t,eo,[],rfl,tu _ _ Ab,tu _ _ (t2 _ _ Ab),.nil⟩ (Paired.Av f2 λ_ _ z=>(z.tups (Al.of (t1.trans t2))).tups tu)
   ·rcases QbC.mp hp with z | z
    ·exact e4 p z
    ·have:p=opP:=by simpa using z
     rw[this];exact AY
   ·rw[UL,An,QbG];exact e5
   ·rw[Am nln];exact t2 _ _ (t1 _ _ f6)
   ·exact (((hbB.same t1).same t2).Hz Ag.upd nlb).mono (by omega)
   ·exact (f8.trans (Dh.of (t1.trans t2))).PJ Ag.upd hlp
  refine LC (λ_=>?_) (λ_=>?_)
  ·refine⟨_,rfl,.inl ⟨rfl,_,SqL.of f1⟩,Ar (by show 0<=1000;decide),λeo heo=>⟨Ar (by show 3<=1000;decide),λt ht=>⟨lp,_,_,rfl,rfl,Ae ht _ _ _ (Ae heo _ _ _ f1),Aq (by omega),opn eo heo t ht⟩⟩⟩
  ·refine⟨_,rfl,nb,_,rfl,.inl (SqL.of f6),_,rfl,_,_,rfl,rfl,_,rfl,LC (λ_=>?_) (λcc=>?_)⟩
   ·refine⟨_,rfl,.inl ⟨rfl,_,SqL.of f1⟩,Ar (by show 0<=1000;decide),λeo heo=>⟨Ar (by show 3<=1000;decide),λt ht=>⟨lp,_,_,rfl,rfl,Ae ht _ _ _ (Ae heo _ _ _ f1),Aq (by omega),opn eo heo t ht⟩⟩⟩
   ·have cc:¬(((ns'.map V.int).length:Nat):Int) < 1+(mn:Int):=λz=>cc (QbR z)
    rw[QbB] at cc
    refine⟨Ar (by show 0<=1000;decide),λls hls=>?_⟩
    have sl:=Ae hls (.lst [])
    have CC:lp≠ls:=Bb f1 hls
    have yH:nb≠ls:=Bb f6 hls
    have yI:b≠ls:=hbB.nb hls
    refine⟨_,rfl,_,rfl,by omega,by omega,?_⟩
    rw[show ((1:Int)+(mn:Int)).toNat=mn+1 by omega]
    have Lo:H ls=none->True:=λ_=>True.intro
    let J0:YN:=λj σ HC=>∃u7 xs ds ns2,σ=[some (.ref b),some (.ref nb),some (.int mp),some (.ref lp),some (.int (0+(i:Int))),some (.int (1+(mn:Int))),some (.ref ls),u7]/\HC ls=some (.lst xs)/\Paired (Ka HC) xs ds/\ds.length=j/\(∀d∈ds,GP d.kind)/\ns'=ds.map (·.addr)++ns2/\HC nb=some (.lst (ns2.map V.int))/\Bw HC b (n+1+7*i+1+1+j)/\HC lp=some (.lst vs)/\Paired (Dl HC) vs ps/\(∀c o,HB c=some o->c≠b->c≠nb->HC c=some o)
    refine FP J0
     ⟨_,[],[],ns',rfl,Ab,.nil,rfl,(λd hd=>by cases hd),rfl,sl _ _ f6,hbB.same sl,sl _ _ f1,Paired.Av f2 λ_ _ z=>z.tups (Al.of sl),λc o e _ _=>sl _ _ e⟩ (λj σ HC hj h=>?_) (fun σ HC h=>?_)
    ·obtain⟨u7,xs,ds,ns2,rfl,g1,g2,g3,g4,g5,g6,g7,g8,g9,g10⟩:=h
     refine⟨_,rfl,.inl ⟨rfl,_,SqL.of g1⟩,Ar (by show 4<=1000;decide),λl4 hl4=>?_⟩
     have s4:=Ae hl4 (.lst [.str "seeker",.str "knob",.str "bell",.str "door"])
     refine⟨_,rfl,b,_,4,rfl,g7.same s4,by omega,by decide,by decide,λr4 HD r40 r41 hbD sD=>?_⟩
     obtain⟨k,ek,hk⟩:=wC r40 r41
     have sCD:Ag b HC HD:=(Ag.of s4).trans sD
     have tCD:Al HC HD:=sCD.tup g7.Ib
     have g6':=sCD _ _ g6 nbn.symm
     cases ns2 with
     | nil=>
      rw[QbG] at g5
      have:=congrArg List.length g5
      rw[QbB,g3] at this
      omega
     | cons a0 ns3=>
      refine⟨l4,_,_,_,rfl,rfl,SqL.of (sD _ _ Ab (g7.nb hl4).symm),ek,_,rfl,.inl ⟨rfl,_,SqL.of g6'⟩,nb,_,0,0,.int a0,rfl,rfl,g6',by decide,by decide,jO (by rw[QbB];show 0 < _+1;omega),rfl,Ar (by show 2<=1000;decide),λt ht=>?_⟩
      have tn:Al HD (upd HD nb (.lst (((a0::ns3).map V.int).eraseIdx 0))):=Al.upd λzs z=>by rw[g6'] at z;cases z
      have tt:=Ae ht (.tup [.str k,.int a0])
      have gls:upd HD nb (.lst (((a0::ns3).map V.int).eraseIdx 0)) ls=some (.lst xs):=by rw[Am yH.symm];exact sCD _ _ g1 yI.symm
      refine⟨ls,_,_,rfl,rfl,tt _ _ gls,Aq (by rw[QbW g2];omega),?_⟩
      have nt:∀zs,(upd (upd HD nb (.lst (((a0::ns3).map V.int).eraseIdx 0))) t (.tup [.str k,.int a0])) ls≠some (.tup zs):=λzs z=>by rw[tt _ _ gls] at z;cases z
      have tu:=Al.upd (o:=.lst (xs++[.ref t])) nt
      have wV:Al HC (upd (upd (upd HD nb (.lst (((a0::ns3).map V.int).eraseIdx 0))) t (.tup [.str k,.int a0])) ls (.lst (xs++[.ref t]))):=(tCD.trans tn).trans ((Al.of tt).trans tu)
      refine⟨_,xs++[.ref t],ds++[⟨k,a0⟩],ns3,rfl,Ab,Qcp ⟨t,rfl,tu _ _ Ab⟩ (Paired.Av g2 λ_ _ z=>z.tups wV),by rw[QaS,g3];rfl,λd hd=>?_,?_,?_,?_,?_,Paired.Av g9 λ_ _ z=>z.tups wV,λc o e n1 n2=>?_⟩
      ·rcases QbC.mp hd with z | z
       ·exact g4 d z
       ·have:d=⟨k,a0⟩:=by simpa using z
        rw[this];exact hk
      ·rw[g5,QbD,Qbl];rfl
      ·rw[Am yH,tt _ _ Ab];rfl
      ·exact ((hbD.Hz Ag.upd nbn).same tt).Hz Ag.upd yI
      ·rw[Am CC,tt _ _ (by rw[Am nln.symm];exact sCD _ _ g8 nlb.symm)]
      ·have e':=sCD _ _ (g10 _ _ e n1 n2) n1
       rw[Am (λz=>by rw[z,hls] at e;cases e),tt _ _ (by rw[Am n2];exact e')]
    ·obtain⟨u7,xs,ds,ns2,rfl,g1,g2,g3,g4,g5,g6,g7,g8,g9,g10⟩:=h
     cases ds with
     | nil=>cases g3
     | cons d0 dr=>
      cases g2 with
      | @cons x0 _ xr _ hd0 hdr=>
       obtain⟨t0,rfl,ht0⟩:=hd0
       have lxr:=QbW hdr
       have ldr:dr.length=mn:=by simpa using g3
       refine⟨_,rfl,.inl ⟨rfl,_,SqL.of g8⟩,_,rfl,ls,_,_,_,rfl,rfl,SqL.of g1,Gu (xs:=.ref t0::xr) (j:=0) rfl,_,rfl,_,rfl,ls,_,rfl,SqL.of g1,λp1 hp1=>?_⟩
       have ec:Jm (.ref t0::xr) (some 1) none=xr:=Ux (xs:=.ref t0::xr) (k:=1) (by simp)
       rw[ec] at *
       have sp1:=Ae hp1 (.lst xr)
       refine⟨p1,_,rfl,.inl ⟨SqL.of Ab,λtu htu=>⟨Ar (by show 1<=1000;decide),λt1 ht1=>?_⟩⟩⟩
       have sp2:=Ae htu (.tup xr)
       have sp3:=Ae ht1 (.tup [.ref tu])
       have sp:=(sp1.trans sp2).trans sp3
       refine⟨t0,t1,_,_,rfl,rfl,sp _ _ ht0,Ab,Ar (by show 2+1<=1000;decide),λtp HE hE sE=>?_⟩
       have spE:=sp.trans sE
       have g8':=spE _ _ g8
       refine⟨lp,_,_,rfl,rfl,g8',Aq (by omega),?_⟩
       have nt:∀zs,HE lp≠some (.tup zs):=λzs z=>by rw[g8'] at z;cases z
       have tv:=Al.upd (o:=.lst (vs++[.ref tp])) nt
       have okp:OkP ⟨d0.kind,d0.addr,dr⟩:=⟨by show dr.length<=3;omega,λd hd=>g4 d (QaG _ hd),.inr (g4 d0 (QaT ..))⟩
       refine⟨_,_,_,_,vs++[.ref tp],ps++[⟨d0.kind,d0.addr,dr⟩],ns2,rfl,Ab,?_,by rw[QaS,e3];rfl,λp hp=>?_,?_,?_,?_,?_⟩
       ·refine Qcp ⟨tp,tu,xr,rfl,tv _ _ hE,tv _ _ (sE _ _ (sp3 _ _ Ab)),Paired.Av hdr λ_ _ z=>(z.tups (Al.of spE)).tups tv⟩ (Paired.Av g9 λ_ _ z=>(z.tups (Al.of spE)).tups tv)
       ·rcases QbC.mp hp with z | z
        ·exact e4 p z
        ·have:p=⟨d0.kind,d0.addr,dr⟩:=by simpa using z
         rw[this];exact okp
       ·rw[UL,e5,g5,Qbl]
        congr 1
        have:adP ⟨d0.kind,d0.addr,dr⟩=d0.addr::dr.map (·.addr):=if_neg (Vu (g4 d0 (QaT ..)))
        rw[this]
        rfl
       ·rw[Am nln];exact spE _ _ g6
       ·exact ((g7.same spE).Hz Ag.upd nlb).mono (by omega)
       ·refine Dh.PJ (λc o e n1 n2=>spE _ _ (g10 _ _ (f8 _ _ e n1 n2) n1 n2)) Ag.upd hlp
 ·obtain⟨u4,u5,u6,u7,vs,ps,ns',rfl,e1,e2,e3,e4,e5,e6,e7,e8⟩:=h
  refine⟨_,rfl,lp,_,rfl,.inl ⟨SqL.of e1,λt ht=>?_⟩⟩
  have st:=Ae ht (.tup vs)
  exact q t ps ns' _ ⟨t,vs,rfl,Ab,Paired.Av e2 λ_ _ z=>z.tups (Al.of st)⟩ e4 (by omega) (by omega) e5 (st _ _ e6) ((e7.same st).mono (by omega)) (e8.trans (Dh.of st))
end
abbrev Kf:Stmt:=top 52
abbrev Nq:YF:=["_law_bag_here","_law_most_loops","_law_most_places"]
theorem BW:Ax ["_law_bag_here","_law_most_loops","_law_most_places","_law_start","_law_stride","_law_numbers","_law_own","_law_first","_law_at","_law_loops","_law_loop_here","_law_most","_law_told","_law_places","_law_kind","_law_address","_law_spur","_law_zones","_law_names_here","_law_name_here","_law_some"] Nq (Aj Kf):=⟨rfl,rfl,rfl,by trivial,rfl,by trivial,by trivial⟩
theorem bG (xs:YG) (y:V):atI (xs++[y]) (-1)=some y:=by
 unfold atI ixN
 rw[if_neg (by decide),QaS,QaC,if_pos (by omega),show (-1+((xs.length+1:Nat):Int)).toNat=xs.length by omega]
 show (xs++[y])[xs.length]?=some y
 rw[List.getElem?_append_right (Qcn _),Nat.sub_self]
 rfl
theorem qO (xs:YG) (y:V):ixN (xs++[y]).length (-1)=some xs.length:=by
 unfold ixN
 rw[if_neg (by decide),QaS,QaC,if_pos (by omega),show (-1+((xs.length+1:Nat):Int)).toNat=xs.length by omega]
theorem oY (xs:YG) (y z:V):(xs++[y]).set xs.length z=xs++[z]:=by
 rw[List.set_append_right _ _ (Qcn _),Nat.sub_self]
 rfl
theorem IG {i:Int} (h0:0<=i) (h9:i < 9) {a b c d e f g h k:Int} (P:Int->Prop) (ha:P a) (hb:P b) (hc:P c) (hd:P d) (he:P e) (hf:P f) (hg:P g) (hh:P h) (hk:P k):∃p,atI [V.int a,.int b,.int c,.int d,.int e,.int f,.int g,.int h,.int k] i=some (.int p)/\P p:=by
 have:i=0\/i=1\/i=2\/i=3\/i=4\/i=5\/i=6\/i=7\/i=8:=by omega
 rcases this with rfl | rfl | rfl | rfl | rfl | rfl | rfl | rfl | rfl
 ·exact⟨_,rfl,ha⟩
 ·exact⟨_,rfl,hb⟩
 ·exact⟨_,rfl,hc⟩
 ·exact⟨_,rfl,hd⟩
 ·exact⟨_,rfl,he⟩
 ·exact⟨_,rfl,hf⟩
 ·exact⟨_,rfl,hg⟩
 ·exact⟨_,rfl,hh⟩
 ·exact⟨_,rfl,hk⟩
theorem mH (ns:List Int):(ns.map V.int).all KQ=true:=by
 rw[List.all_map,List.all_eq_true]
 intro _ _
 rfl
theorem zT {xs:YG} {m:Nat} (h:m<=xs.length):Jm xs none (some (m:Int))=xs.take m:=by
 unfold Jm
 rw[HT.Zr,HT.dO,Nat.min_eq_left h]
 rfl
theorem Paired.sI {α β : Type} {F:α->β->Prop}:∀{l:List α} {r:List β} (n:Nat),Paired F l r->Paired F (l.take n) (r.take n)
 | _,_,0,_=>.nil
 | _,_,_+1,.nil=>.nil
 | _,_,n+1,.cons h t=>.cons h (Paired.sI n t)
theorem Paired.ur {α β : Type} {F:α->β->Prop}:∀{l:List α} {r:List β} (n:Nat),Paired F l r->Paired F (l.drop n) (r.drop n)
 | _,_,0,h=>h
 | _,_,_+1,.nil=>.nil
 | _,_,n+1,.cons h t=>Paired.ur n t
theorem Paired.app {α β : Type} {F:α->β->Prop}:∀{a₁ b₁ : List α} {a₂ b₂ : List β},Paired F a₁ a₂->Paired F b₁ b₂->Paired F (a₁++b₁) (a₂++b₂)
 | _,_,_,_,.nil,t=>t
 | _,_,_,_,.cons r s,t=>.cons r (Paired.app s t)
theorem dU:∀(ps:List Place) (a:List Int×Int),(ps.foldl ptS a).1.sum+(ps.foldl ptS a).2=a.1.sum+a.2+((adL ps).length:Int)
 | [],a=>by show _=_+_+((0:Nat):Int);simp
 | p::r,a=>by
  rw[List.foldl_cons,dU r]
  have e:adL (p::r)=adP p++adL r:=by unfold adL;rw[Qbn]
  rw[e,QaS]
  unfold ptS adP
  by_cases h:V.str p.kind=V.str "opener"
  ·rw[if_pos h,if_pos h,List.sum_append]
   simp
  ·rw[if_neg h,if_neg h,Qbt,QbB]
   simp only
   omega
theorem jU:∀(ps:List Place) (a:List Int×Int),(∀m∈a.1,0<=m)->0<=a.2->(∀m∈(ps.foldl ptS a).1,0<=m)/\0<=(ps.foldl ptS a).2
 | [],a,h1,h2=>⟨h1,h2⟩
 | p::r,a,h1,h2=>by
  rw[List.foldl_cons]
  refine jU r _ ?_ ?_
  ·unfold ptS
   split
   ·intro m hm
    rcases QbC.mp hm with z | z
    ·exact h1 m z
    ·have:m=a.2:=by simpa using z
     rw[this];exact h2
   ·exact h1
  ·unfold ptS
   split
   ·exact Qcs _
   ·show 0<=a.2+1+(p.spur.length:Int)
    omega
theorem jB:∀{l:List Int},(∀m∈l,0<=m)->0<=l.sum/\∀m∈l,m<=l.sum
 | [],_=>⟨Qcs _,λm h=>by cases h⟩
 | x::r,h=>by
  obtain⟨h1,h2⟩:=jB (l:=r) λm hm=>h m (QaG _ hm)
  have h0:=h x (QaT ..)
  rw[List.sum_cons]
  refine⟨by omega,λm hm=>?_⟩
  rcases QbX.mp hm with rfl | hm
  ·omega
  ·have:=h2 m hm
   omega
theorem qb (ps:List Place):∀m∈G6 ps,0<=m:=by
 have h:=jU ps ([],0) (λm hm=>by cases hm) (Qcs _)
 intro m hm
 rcases QbC.mp hm with z | z
 ·exact h.1 m z
 ·have:m=(pst ps).2:=by simpa using z
  rw[this];exact h.2
theorem Xy (ps:List Place):(G6 ps).sum=((adL ps).length:Int):=by
 have h:=dU ps ([],0)
 unfold G6
 rw[List.sum_append]
 have:(pst ps).1.sum+(pst ps).2=((adL ps).length:Int):=by
  have e:(pst ps).1.sum+(pst ps).2=([]:List Int).sum+0+((adL ps).length:Int):=h
  rw[e];simp
 simp
 omega
theorem qd (ps:List Place):∀m∈G6 ps,m<=((adL ps).length:Int):=λm hm=>by
 have:=(jB (qb ps)).2 m hm
 rw[Xy] at this
 exact this
theorem cX:∀{l:List Int},1<=l.sum->∃m∈l,1<=m
 | [],h=>by simp at h
 | x::r,h=>by
  rw[List.sum_cons] at h
  by_cases hx:1<=x
  ·exact⟨x,QaT ..,hx⟩
  ·obtain⟨m,h1,h2⟩:=cX (l:=r) (by omega)
   exact⟨m,QaG _ h1,h2⟩
structure OkL (ps:List Place):Prop where
 lo:1<=ps.length
 hi:ps.length<=12
 ok:∀p∈ps,OkP p
def Cr (ls:YU):List Int:=ls.flatMap adL
structure bK (most:Int) (loops:YU) (zones:List Zone):Prop where
 nd:(Cr loops).Nodup
 bd:∀x∈Cr loops,1<=x/\x<=99
 cnt:1<=(Cr loops).length/\(Cr loops).length<=30
 mo:1<=most/\most<=30
 few:∀ps∈loops,∀m∈G6 ps,m<=most
 zin:∀z∈zones,∀x∈z.adr,x∈Ep loops
 znd:(zones.flatMap (·.adr)).Nodup
 zup:∀z∈zones,z.adr.Pairwise (· < ·)/\1<=z.adr.length/\z.adr.length<=30
 wN:zones.length<=8
 znm:∀z∈zones,(1<=z.name.length/\z.name.length<=8)/\okS z.name
 zdi:(zones.map (·.name)).Nodup
def jH:Sp:=λvs H Q _=>∃(b:Addr) (n ml mp:Nat),vs=[.ref b,.int ml,.int mp]/\Bw H b n/\n<=1000/\1<=ml/\ml<=3/\2<=mp/\mp<=12 /\
 ∀t Ls zs vs zvs loops zones most H',H' t=some (.tup [.int most,.ref Ls,.ref zs])->H' Ls=some (.tup vs)->Paired (LoopAt H') vs loops->(∀ps∈loops,OkL ps)->1<=loops.length->loops.length<=3->H' zs=some (.tup zvs)->Paired (IK H') zvs zones->bK most loops zones->Bw H' b (n+3000)->Ag b H H'->Q (.ref t) H'
def w5:TS:=λD σ H=>∃(b nb f0:Addr) (n mp:Nat) (ns:List Int),σ[0]?=some (some (.ref b))/\σ[5]?=some (some (.ref nb))/\σ[2]?=some (some (.int mp))/\σ[7]?=some (some (.ref f0))/\H f0=some (.tup [])/\Bw H b n/\n<=4000/\b≠nb/\H nb=some (.lst (ns.map V.int))/\2<=mp/\mp<=12/\ns.length<=100 /\
 ∀t vs ps ns' H',H' t=some (.tup vs)->Paired (Dl H') vs ps->(∀p∈ps,OkP p)->ps.length+1<=mp->ns=adL ps++ns'->H' nb=some (.lst (ns'.map V.int))->Bw H' b (n+101)->Dh b nb H H'->D.nx (σ.set 7 (some (.ref t))) H'
section
variable {P:Program} {w:World} {K:YD} {mg:YB} {base:Heap}
theorem kj (C:Code K mg "_law_parts" Q7 K3) (T:Nm mg):Good P w K mg base "_law_parts" 1 K3 Y9:=by
 refine C.good JC (λvs H Q E h=>?_) (λf cdv A outer s H vs Q E hr h=>?_)
 ·obtain⟨t,ps,rfl,_⟩:=h
  rfl
 obtain⟨t,ps,rfl,⟨t',vs,et,ht,hps⟩,hok,h100,q⟩:=h
 cases et
 refine⟨_,(Af (Ba (i:=1) JC.nd rfl (Or.inl rfl) (BZ (Aa Ad Ac)))
 (Af (Cj QbE rfl (Fy (pv 0)) (Cv rfl (Ak (Ah (i:=2) JC.nd rfl (Or.inl rfl)) (Ak (Ah (i:=3) JC.nd rfl (Or.inl rfl)) (Ak (Ah (i:=4) JC.nd rfl (Or.inl rfl)) Bp))))
 (Ai (Ci (Bj G7 (pv 2) Bt (Br _)) (Ai (Bs (CK Qap Qal Qam Cy (pv 1) (Aa Ad Ac)))) (Ai (Gj (Bc Ca (Bc Ca (Bh DX (pv 1) (Vf QW Ad) (λ_ _=>rfl)) Ad) (Az Bl rfl T.len Cz (Aa (pv 4) Ac))) (ZK (pv 1) (Vf QW Ad) set_list))))))
 (Ai (Ay (pv 1))))),?_⟩
 show let R0:TS:=_;let R1:TS:=_;let R2:TS:=Ga _ R0 R1;let R3:TS:=Ao (DQ _ _ R2) _;Ao _ R3 _ _ _
 intro R0 R1 R2 R3
 refine⟨Ar (by show 1<=1000;decide),λlf hlf=>?_⟩
 have s1:=Ae hlf (.lst [.int 0])
 have lvs:=QbW hps
 refine⟨_,rfl,t,rfl,⟨_,SqT.of (s1 _ _ ht)⟩,?_⟩
 let J0:YN:=λi σ HH=>∃(u2 u3 u4:Option V),σ=[some (.ref t),some (.ref lf),u2,u3,u4]/\HH lf=some (.lst ((pst (ps.take i)).1.map V.int++[.int (pst (ps.take i)).2]))/\(pst (ps.take i)).1.length<=i/\Same H HH
 refine Mx (xs:=vs) J0 ⟨_,_,_,rfl,Ab,Qcn _,s1⟩ (λi σ HH _ h=>?_) (λi x σ HH hx h=>?_) (fun σ HH h=>?_)
 ·obtain⟨u2,u3,u4,rfl,e1,e2,e3⟩:=h
  exact SqT.of (e3 _ _ ht)
 ·obtain⟨u2,u3,u4,rfl,e1,e2,e3⟩:=h
  obtain⟨p,hp,tp,up,ws,rfl,h1,h2,h3⟩:=Paired.Ce hps hx
  have hi:=(Qag.mp hx).1
  have et:pst (ps.take (i+1))=ptS (pst (ps.take i)) p:=by rw[Qcx hp,ZD]
  have lws:=QbW h3
  generalize pst (ps.take i)=a at *
  refine⟨tp,_,rfl,SqT.of (e3 _ _ h1),rfl,_,_,rfl,_,_,rfl,_,_,rfl,rfl,?_⟩
  refine⟨_,rfl,rfl,_,rfl,LC (λhc=>?_) (λhc=>?_)⟩
  ·have hc:V.str p.kind=V.str "opener":=Qbj hc
   have et:pst (ps.take (i+1))=(a.1++[a.2],0):=by rw[et];exact if_pos hc
   refine⟨_,rfl,.inl ⟨rfl,_,SqL.of e1⟩,lf,_,_,rfl,rfl,e1,Aq (by rw[QaS,QbB];show _+1<=_;omega),_,_,_,rfl,?_,?_,e3.Bm Ag.upd hlf⟩
   ·rw[Ab,et,QbD];rfl
   ·rw[et,QaS];show _+1<=_;omega
  ·have hc:¬V.str p.kind=V.str "opener":=λz=>hc (QbR z)
   have et:pst (ps.take (i+1))=(a.1,a.2+1+(p.spur.length:Int)):=by rw[et];exact if_neg hc
   refine⟨_,rfl,_,rfl,lf,_,_,_,rfl,rfl,SqL.of e1,bG _ _,_,_,rfl,rfl,_,rfl,up,_,rfl,.inr (SqT.of (e3 _ _ h2)),_,_,rfl,rfl,_,rfl,_,rfl,lf,_,_,_,rfl,rfl,e1,qO _ _,_,_,_,rfl,?_,by rw[et];show a.1.length<=_;omega,e3.Bm Ag.upd hlf⟩
   rw[Ab,oY,et,<-lws]
 ·obtain⟨u2,u3,u4,rfl,e1,e2,e3⟩:=h
  rw[lvs,Qbs] at e1
  refine⟨_,rfl,q lf HH (by unfold G6;rw[QbD];exact e1) e3⟩
end
theorem xW {α : Type} {l:List α} {i:Nat} {x:α} (h:l[i]?=some x):l.set i x=l:=by
 obtain⟨hi,e⟩:=Qag.mp h
 subst e
 exact List.set_getElem_self hi
theorem Ln.tups {H H':Hp} {vs:YG} {ls:YU} (s:Al H H') (h:Paired (LoopAt H) vs ls):Paired (LoopAt H') vs ls:=Paired.Av h λ_ _ z=>z.tups s
theorem Pn.tups {H H':Hp} {vs:YG} {ls:List Place} (s:Al H H') (h:Paired (Dl H) vs ls):Paired (Dl H') vs ls:=Paired.Av h λ_ _ z=>z.tups s
theorem Mz (a b:List Place):adL (a++b)=adL a++adL b:=by unfold adL;rw[QaM]
theorem X7 (ls:YU) (ps:List Place):Cr (ls++[ps])=Cr ls++adL ps:=by unfold Cr;rw[QaM];simp
def wr (ds:List Dev):Nat:=(ds.filter λd=>!decide (V.str d.kind=V.str "opener")).length
theorem Uq (w:Int):∀ws:List Int,inV (.int w) (ws.map V.int)=decide (w∈ws)
 | []=>rfl
 | x::r=>by
  have ih:=Uq w r
  unfold inV at ih ⊢
  rw[QbY,Qcb,ih]
  have h2:eqV (.int x) (.int w)=decide (w=x):=by
   show (x == w)=decide (w=x)
   rw[QbL,beq_iff_eq,Qba]
   exact⟨λh=>h.symm,λh=>h.symm⟩
  rw[h2,QbL,Bool.or_eq_true,Qba,Qba,Qba,QbX]
def Em (p:Int):Prop:=p=1\/p=2\/p=4\/p=5\/p=7\/p=8\/p=10\/p=13\/p=98
def Oz (r sd:Int) (n:Nat):List Int:=(List.range n).map λk:Nat=>(r+sd*(0+(k:Int))) % 99+1
theorem kW (r sd:Int) (n:Nat):Oz r sd (n+1)=Oz r sd n++[(r+sd*(0+(n:Int))) % 99+1]:=by
 unfold Oz
 rw[List.range_succ,QbD]
 rfl
theorem vK (r sd:Int) (n:Nat):∀x∈Oz r sd n,1<=x/\x<=99:=λx hx=>by
 obtain⟨k,_,rfl⟩:=Qcg.mp hx
 have h1:=QbP (r+sd*(0+(k:Int))) (show (99:Int)≠0 by decide)
 have h2:=Qbf (r+sd*(0+(k:Int))) (show (0:Int) < 99 by decide)
 omega
theorem vJ {r sd:Int} (h:Em sd):(Oz r sd 30).Nodup:=by
 unfold Oz
 refine List.pairwise_map.mpr ?_
 refine List.Pairwise.imp_of_mem (λ{i j} hi hj hlt=>?_) (List.pairwise_lt_range (n:=30))
 have hi:=QbT.mp hi
 have hj:=QbT.mp hj
 intro e
 unfold Em at h
 rcases h with rfl | rfl | rfl | rfl | rfl | rfl | rfl | rfl | rfl <;> omega
theorem cV:∀{ds:List Dev},(Ia ds).Sublist (ds.map (·.addr))
 | ds=>by unfold Ia;exact List.Sublist.map _ (QaR ..)
theorem Yw {p:Place} (h:OkP p):(Ia (Fo p)).Sublist (adP p):=by
 rcases h.form with⟨f1,f2,f3⟩| f1
 ·have e:adP p=[]:=if_pos (by rw[f1])
  have e2:Ia (Fo p)=[]:=by
   unfold Fo Ia
   rw[f3,f1]
   have:El "opener"=false:=by trivial
   rw[Qar (by rw[this];decide)]
   rfl
  rw[e,e2]
  exact .slnil
 ·have e:adP p=(Fo p).map (·.addr):=if_neg (Vu f1)
  rw[e]
  exact cV
theorem T8:∀{ps:List Place},(∀p∈ps,OkP p)->(Jd ps).Sublist (adL ps)
 | [],_=>.slnil
 | p::r,h=>by
  have e1:Jd (p::r)=Ia (Fo p)++Jd r:=by unfold Jd;rw[Qbn]
  have e2:adL (p::r)=adP p++adL r:=by unfold adL;rw[Qbn]
  rw[e1,e2]
  exact (Yw (h p (QaT ..))).append (T8 λq hq=>h q (QaG _ hq))
theorem QT:∀{ls:YU},(∀ps∈ls,OkL ps)->(Ep ls).Sublist (Cr ls)
 | [],_=>.slnil
 | ps::r,h=>by
  have e1:Ep (ps::r)=Jd ps++Ep r:=by unfold Ep;rw[Qbn]
  have e2:Cr (ps::r)=adL ps++Cr r:=by unfold Cr;rw[Qbn]
  rw[e1,e2]
  exact (T8 (h ps (QaT ..)).ok).append (QT λq hq=>h q (QaG _ hq))
theorem fj {ps:List Place}:∀(loops:YU),ps∈loops->(adL ps).length<=(Cr loops).length
 | [],h=>by cases h
 | a::r,h=>by
  have e:Cr (a::r)=adL a++Cr r:=by unfold Cr;rw[Qbn]
  rw[e,QaS]
  rcases QbX.mp h with rfl | h
  ·omega
  ·have:=fj r h
   omega
structure QF (ws:List Int) (ts:List Int) (zones:List Zone) (ys:YF):Prop where
 nd:(zones.flatMap (·.adr)++ts).Nodup
 sub:∀x∈zones.flatMap (·.adr)++ts,x∈ws
 up:∀z∈zones,z.adr.Pairwise (· < ·)/\1<=z.adr.length/\z.adr.length<=30
 nm:(zones.map (·.name)).Sublist ys
theorem QF.next {ws ts ms ss:List Int} {zones:List Zone} {ys:YF} {y:Str} (h:QF ws ts zones ys) (hp:ms.Perm ss) (hsub:ss.Sublist ts) (hr:ms.Pairwise (·<=·)) (h30:ms.length<=30) (y1:1<=ms.length):QF ws (ts.filter λx=>!decide (x∈ms)) (zones++[⟨y,ms⟩]) (ys++[y]):=by
 obtain⟨n1,n2,n3⟩:=List.nodup_append.mp h.nd
 have nms:ms.Nodup:=hp.nodup_iff.mpr (hsub.nodup n2)
 have hin:∀x∈ms,x∈ts:=λx hx=>hsub.subset (hp.mem_iff.mp hx)
 have e:(zones++[(⟨y,ms⟩ : Zone)]).flatMap (·.adr)=zones.flatMap (·.adr)++ms:=by rw[QaM];simp
 refine⟨?_,λx hx=>?_,λz hz=>?_,?_⟩
 ·rw[e,List.nodup_append]
  refine⟨List.nodup_append.mpr ⟨n1,nms,λa ha b hb=>n3 a ha b (hin b hb)⟩,n2.filter _,λa ha b hb=>?_⟩
  obtain⟨hb1,hb2⟩:=QbI.mp hb
  rcases QbC.mp ha with ha | ha
  ·exact n3 a ha b hb1
  ·rintro rfl
   rw[QbR ha] at hb2
   cases hb2
 ·rw[e] at hx
  rcases QbC.mp hx with hx | hx
  ·rcases QbC.mp hx with hx | hx
   ·exact h.sub x (QaH _ hx)
   ·exact h.sub x (QaB _ (hin x hx))
  ·exact h.sub x (QaB _ (QbI.mp hx).1)
 ·rcases QbC.mp hz with hz | hz
  ·exact h.up z hz
  ·have:z=⟨y,ms⟩:=by simpa using hz
   rw[this]
   refine⟨?_,y1,h30⟩
   refine List.Pairwise.imp₂ (S:=λa b:Int=>a≠b) (λa b h1 h2=>by omega) hr nms
 ·rw[QbD]
  exact h.nm.append (List.Sublist.refl _)
theorem QF.none {ws ts:List Int} {zones:List Zone} {ys:YF} {y:Str} {g:Int->Bool} (h:QF ws ts zones ys):QF ws (ts.filter g) zones (ys++[y]):=by
 obtain⟨n1,n2,n3⟩:=List.nodup_append.mp h.nd
 refine⟨List.nodup_append.mpr ⟨n1,n2.filter _,λa ha b hb=>n3 a ha b (QbI.mp hb).1⟩,λx hx=>?_,h.up,h.nm.trans (List.sublist_append_left ..)⟩
 rcases QbC.mp hx with hx | hx
 ·exact h.sub x (QaH _ hx)
 ·exact h.sub x (QaB _ (QbI.mp hx).1)
section
variable {P:Program} {w:World} {K:YD} {mg:YB} {base:Heap}
theorem vB (C:Code K mg "_law_plan" Kf Nq) (T:Nm mg) (BJ:Good P w K mg base "_law_take" 1 Hq Q5) (aM:Good P w K mg base "_law_loop" 2 Nt jK) (lY:Good P w K mg base "_law_parts" 1 K3 Y9) (lZ:Good P w K mg base "_law_names" 3 K4 dI) :
  Good P w K mg base "_law_plan" 4 Nq jH:=by
 refine C.good BW (λvs H Q E h=>?_) (λf cdv A outer s H vs Q E hr h=>?_)
 ·obtain⟨b,n,ml,mp,rfl,_⟩:=h
  rfl
 obtain⟨b,n,ml,mp,rfl,hb,hn,Ll,hml,E9,hmp,q⟩:=h
 refine⟨_,(Af (Ba (i:=3) BW.nd rfl (Or.inr rfl) (Aw BJ hr (Aa (pv 0) (Aa Ad Ac))))
 (Af (Ba (i:=4) BW.nd rfl (Or.inr rfl) (Bh DX (@BZ _ _ _ _ (@Aa _ _ _ _ _ (@Ad _ _ _ _) (@Aa _ _ _ _ _ (@Ad _ _ _ _) (@Aa _ _ _ _ _ (@Ad _ _ _ _) (@Aa _ _ _ _ _ (@Ad _ _ _ _) (@Aa _ _ _ _ _ (@Ad _ _ _ _) (@Aa _ _ _ _ _ (@Ad _ _ _ _) (@Aa _ _ _ _ _ (@Ad _ _ _ _) (@Aa _ _ _ _ _ (@Ad _ _ _ _) (@Aa _ _ _ _ _ (@Ad _ _ _ _) (@Ac _) Bx) Bx) Bx) Bx) Bx) Bx) Bx) Bx) Bx)) (Aw BJ hr (Aa (pv 0) (Aa Ad Ac))) (λ_ _=>rfl)))
 (Af (Pb (i:=5) BW.nd rfl (Or.inl rfl) (N':=["_law_k","_law_start","_law_stride"]) rfl (Bg.of (src:=[none,some 3,some 4]) (Aj Kf) ["_law_bag_here","_law_most_loops","_law_most_places","_law_start","_law_stride","_law_numbers","_law_own","_law_first","_law_at","_law_loops","_law_loop_here","_law_most","_law_told","_law_places","_law_kind","_law_address","_law_spur","_law_zones","_law_names_here","_law_name_here","_law_some"] rfl rfl rfl (by trivial) (by trivial) (by trivial) rfl (by trivial)) (DG rfl T.range (Aa Ad Ac)) (λ_ _ _ _=>(Ah (i:=0) (show List.Nodup (["_law_k","_law_start","_law_stride"]:YF) by trivial) rfl (Or.inl rfl))) (λ_ _ _ _=>CQ) (λ_ _ _ _=>(Bc Ca (Bc Ld (Bc Ca (pv 1) (Bc Hs (pv 2) (pv 0))) Ad) Ad)))
 (Af (Ba (i:=6) BW.nd rfl (Or.inl rfl) (CK Qap PySem.F.slot_list_pop PySem.F.type_list_pop Z9 (pv 5) (Aa Ad Ac)))
 (Af (Ba (i:=7) BW.nd rfl (Or.inl rfl) (Bd Ac))
 (Af (PS.weak (t':=w5) (Ci (Bj Qf (Aw BJ hr (Aa (pv 0) (Aa Ad Ac))) Ad (Br _)) (Ai (Ba (i:=7) BW.nd rfl (Or.inl rfl) (Aw aM hr (Aa (pv 0) (Aa (pv 5) (Aa (Bc Nu (pv 2) Ad) Ac)))))) BK) (λD σ H h=>by
    obtain⟨b,nb,f0,n,mp,ns,e0,e5,e2,e7,hf0,hb,hn,nbn,hnb,hmp,KU,hns,q⟩:=h
    refine⟨_,e0,b,n,8,rfl,hb,by omega,by decide,by decide,λr H1 r0 r1 hb1 sb1=>⟨_,_,rfl,rfl,_,rfl,LC (λ_=>?_) (λ_=>?_)⟩⟩
    ·refine⟨_,e0,_,e5,_,e2,_,_,rfl,rfl,b,nb,n+1,mp - 1,ns,?_,hb1,by omega,nbn,sb1 _ _ hnb nbn.symm,by omega,by omega,hns,λt ps ns' H2 ⟨t',vs,et,ht,hp⟩ hok h1 h2 hns' hnb' hb2 s2=>?_⟩
     ·show [V.ref b,.ref nb,.int ((mp:Int) - 1)]++[]=_
      rw[show ((mp:Int) - 1)=((mp - 1:Nat):Int) by omega]
      rfl
     ·cases et
      exact q t vs ps ns' H2 ht hp hok (by omega) hns' hnb' (hb2.mono (by omega)) ((Dh.l sb1).trans s2)
    ·have q:=q f0 [] [] ns H1 (sb1.tup hb.Ib _ _ hf0) .nil (λp hp=>by cases hp) (by show 0+1<=mp;omega) rfl (sb1 _ _ hnb nbn.symm) (hb1.mono (by omega)) (Dh.l sb1)
     rw[xW e7] at q
     exact q))
 (Af (Ba (i:=8) BW.nd rfl (Or.inl rfl) (Aw BJ hr (Aa (pv 0) (Aa (Bc Ca (Az Bl rfl T.len Cz (Aa (pv 7) Ac)) Ad) Ac))))
 (Af (Ba (i:=9) BW.nd rfl (Or.inl rfl) (BZ (Aa (Bc Qg (Bc Qg (Kl Wi (pv 7) Mv (Mu (pv 8))) (Bd (Aa (Bd (Aa Bt (Aa (pv 6) (Aa (Bd Ac) Ac)))) Ac))) (Kl Wi (pv 7) (Mu (pv 8)) Mv)) Ac)))
 (Af (Cj QbE rfl (DG rfl T.range (Aa (Aw BJ hr (Aa (pv 0) (Aa (pv 1) Ac))) Ac)) (Ah (i:=10) BW.nd rfl (Or.inl rfl))
 (Ai (Bs (CK Qap Qal Qam Cy (pv 9) (Aa (Aw aM hr (Aa (pv 0) (Aa (pv 5) (Aa (pv 2) Ac)))) Ac)))))
 (Af (Ba (i:=11) BW.nd rfl (Or.inl rfl) (Az (XM rfl) rfl T.max bF (Aa (Cg (N':=["_law_places"]) rfl (Bg.plain rfl (by trivial) (by trivial) (by trivial)) (Dk (pv 9)) (λ_ _ _ _=>(Ah (i:=0) (show List.Nodup (["_law_places"]:YF) by trivial) rfl (Or.inl rfl))) (λ_ _ _ _=>CQ) (λ_ _ _ _=>(Az (jg (K:=K) rfl rfl) rfl T.max bF (Aa (Aw lY hr (Aa (pv 0) Ac)) Ac)))) Ac)))
 (Af (Ba (i:=12) BW.nd rfl (Or.inl rfl) (BZ Ac))
 (Af (Cj QbE rfl (Dk (pv 9)) (Ah (i:=13) BW.nd rfl (Or.inl rfl))
 (Ai (Cj QbE rfl (Fy (pv 13)) (Cv rfl (Ak (Ah (i:=14) BW.nd rfl (Or.inl rfl)) (Ak (Ah (i:=15) BW.nd rfl (Or.inl rfl)) (Ak (Ah (i:=16) BW.nd rfl (Or.inl rfl)) Bp))))
 (Ai (Bs (CK Qap Qan Qao Ew (pv 12) (Aa (Cg (N':=["_law_other","_law_number"]) rfl (Bg.plain rfl (by trivial) (by trivial) (by trivial)) (Fy (Bc Qg (Bd (Aa (Bd (Aa (pv 14) (Aa (pv 15) Ac))) Ac)) (pv 16))) (λ_ _ _ _=>(Fp (K:=K) (n:=2) rfl rfl (Ak (Ah (i:=0) (show List.Nodup (["_law_other","_law_number"]:YF) by trivial) rfl (Or.inl rfl)) (Ak (Ah (i:=1) (show List.Nodup (["_law_other","_law_number"]:YF) by trivial) rfl (Or.inl rfl)) Bp)))) (λ_ _ _ _=>(Gm (Bj (Vk (K:=K) rfl) (pv 0) (Bd (Aa Bt (Aa Bt Ac))) (by with_unfolding_all rfl)))) (λ_ _ _ _=>(pv 1))) Ac)))))))
 (Af (Ba (i:=17) BW.nd rfl (Or.inl rfl) (BZ Ac))
 (Af (Ba (i:=18) BW.nd rfl (Or.inl rfl) (Aw lZ hr (Aa (pv 0) (Aa (Aw BJ hr (Aa (pv 0) (Aa Ad Ac))) Ac))))
 (Af (Cj QbE rfl (Dk (pv 18)) (Ah (i:=19) BW.nd rfl (Or.inl rfl))
 (Af (Ba (i:=20) BW.nd rfl (Or.inr rfl) (Az bh rfl T.sorted XQ (Aa (Cg (N':=["_law_number","_law_bag_here"]) rfl (Bg.of (src:=[none,some 0]) (Aj Kf) ["_law_bag_here","_law_most_loops","_law_most_places","_law_start","_law_stride","_law_numbers","_law_own","_law_first","_law_at","_law_loops","_law_loop_here","_law_most","_law_told","_law_places","_law_kind","_law_address","_law_spur","_law_zones","_law_names_here","_law_name_here","_law_some"] rfl rfl rfl (by trivial) (by trivial) (by trivial) rfl (by trivial)) (Dk (pv 12)) (λ_ _ _ _=>(Ah (i:=0) (show List.Nodup (["_law_number","_law_bag_here"]:YF) by trivial) rfl (Or.inl rfl))) (λ_ _ _ _=>(Gm (Bj G7 (Aw BJ hr (Aa (pv 1) (Aa Ad Ac))) Ad (Br _)))) (λ_ _ _ _=>(pv 0))) Ac)))
 (Af (Pb (i:=12) BW.nd rfl (Or.inl rfl) (N':=["_law_number","_law_some"]) rfl (Bg.of (src:=[none,some 20]) (Aj Kf) ["_law_bag_here","_law_most_loops","_law_most_places","_law_start","_law_stride","_law_numbers","_law_own","_law_first","_law_at","_law_loops","_law_loop_here","_law_most","_law_told","_law_places","_law_kind","_law_address","_law_spur","_law_zones","_law_names_here","_law_name_here","_law_some"] rfl rfl rfl (by trivial) (by trivial) (by trivial) rfl (by trivial)) (Dk (pv 12)) (λ_ _ _ _=>(Ah (i:=0) (show List.Nodup (["_law_number","_law_some"]:YF) by trivial) rfl (Or.inl rfl))) (λ_ _ _ _=>(Gm (Bj (QH (K:=K) rfl) (pv 0) (pv 1) (by with_unfolding_all rfl)))) (λ_ _ _ _=>(pv 0)))
 (Ai (Ci (Bj Qf (Az Bl rfl T.len Cz (Aa (pv 20) Ac)) Ad (Br _)) (Ai (Bs (CK Qap Qal Qam Cy (pv 17) (Aa (Bd (Aa (pv 19) (Aa (Ju GR rfl T.tuple Ku (Aa (pv 20) Ac)) Ac))) Ac)))) BK)))))
 (Ai (Ay (Bd (Aa (Az (Og rfl) rfl T.min VR (Aa Ad (Aa (Bc Ca (pv 11) (Aw BJ hr (Aa (pv 0) (Aa Ad Ac)))) Ac))) (Aa (Ju GR rfl T.tuple Ku (Aa (pv 9) Ac)) (Aa (Ju GR rfl T.tuple Ku (Aa (pv 17) Ac)) Ac))))))))))))))))))))),?_⟩
 show let R0:TS:=_;let R1:TS:=_;let R2:TS:=Ga _ R1 _;let R3:TS:=Ao _ R2;let R4:TS:=Ao _ R3;let R5:TS:=Ao (DQ _ _ R4) R0;let R6:TS:=Ao _ R5;let R7:TS:=Ao _ R6;let R8:TS:=_;let R9:TS:=DQ _ _ R8;let R10:TS:=Ao (DQ _ _ R9) R7;let R11:TS:=Ao _ R10;let R12:TS:=Ao _ R11;let R13:TS:=_;let R14:TS:=Ao (DQ _ _ R13) R12;let R15:TS:=Ao _ R14;let R16:TS:=Ao _ R15;let R17:TS:=Ao _ R16;let R18:TS:=Ao _ R17;let R19:TS:=Ao _ R18;let R20:TS:=Ao _ R19;let R21:TS:=Ao _ R20;Ao _ R21 _ _ _
 intro R0 R1 R2 R3 R4 R5 R6 R7 R8 R9 R10 R11 R12 R13 R14 R15 R16 R17 R18 R19 R20 R21
 generalize hst:L2.start _ _=σ0
 have e0:σ0=[some (.ref b),some (.int ml),some (.int mp),none,none,none,none,none,none,none,none,none,none,none,none,none,none,none,none,none,none]:=hst.symm
 clear hst
 subst e0
 refine⟨_,rfl,b,n,99,rfl,hb,by omega,by decide,by decide,λr1 H1 r10 r11 hb1 sb1=>?_⟩
 simp only[QaV,QaU]
 refine⟨Ar (by show 9<=1000;decide),λl9 hl9=>?_⟩
 have s9:=Ae hl9 (.lst [.int 1,.int 2,.int 4,.int 5,.int 7,.int 8,.int 10,.int 13,.int 98])
 refine⟨_,rfl,b,_,9,rfl,hb1.same s9,by omega,by decide,by decide,λr2 H2 r20 r21 hb2 sb2=>?_⟩
 obtain⟨sd,esd,⟨sd0,sd1⟩,sdk⟩:=IG r20 r21 (a:=1) (b:=2) (c:=4) (d:=5) (e:=7) (f:=8) (g:=10) (h:=13) (k:=98) (λp=>(0<=p/\p<=98)/\Em p) (by unfold Em;decide) (by unfold Em;decide) (by unfold Em;decide) (by unfold Em;decide) (by unfold Em;decide) (by unfold Em;decide) (by unfold Em;decide) (by unfold Em;decide) (by unfold Em;decide)
 refine⟨l9,_,_,_,rfl,rfl,SqL.of (sb2 _ _ Ab (hb1.nb hl9).symm),esd,?_⟩
 simp only[QaV,QaU]
 have sB2:Ag b H H2:=(sb1.trans (Ag.of s9)).trans sb2
 refine⟨_,rfl,by decide,by decide,λnb qR=>?_⟩
 have nbn:b≠nb:=hb2.nb qR
 have fnb:H nb=none:=sB2.free hb2.ex qR
 let J0:YN:=λi σ HH=>∃(u:Option V) (ns:List Int),σ=[u,some (.int r1),some (.int sd)]/\HH=upd H2 nb (.lst (ns.map V.int))/\ns=Oz r1 sd i
 refine JX J0 ⟨none,[],rfl,rfl,rfl⟩ (λi σ HH hi h=>?_) (fun σ HH h=>?_)
 ·obtain⟨u,ns,rfl,rfl,e1⟩:=h
  have hi:i < 30:=hi
  have e1l:ns.length=i:=by rw[e1];unfold Oz;rw[QbB,Qbq]
  refine⟨_,rfl,_,rfl,_,rfl,_,_,rfl,rfl,.inl ⟨by omega,by omega⟩,_,_,rfl,rfl,_,_,rfl,rfl,(by show (0:Int) < 99;decide),_,_,rfl,rfl,_,Ab,Aq (by rw[QbB];omega),_,ns++[(r1+sd*(0+(i:Int))) % 99+1],rfl,?_,by rw[kW,e1]⟩
  rw[Sg,QbD]
  rfl
 obtain⟨u,qC,rfl,rfl,e30⟩:=h
 have rG:qC=Oz r1 sd 30:=e30
 have e30:qC.length=30:=by rw[rG];unfold Oz;rw[QbB,Qbq]
 simp only[QaV,QaU]
 cases qC with
 | nil=>cases e30
 | cons own Ie=>
 have e29:Ie.length=29:=by simpa using e30
 have AW:(own::Ie).Nodup:=by rw[rG];exact vJ sdk
 have AX:∀x∈own::Ie,1<=x/\x<=99:=by rw[rG];exact vK r1 sd 30
 have sN:=Ae qR (.lst ((own::Ie).map V.int))
 refine⟨_,rfl,.inl ⟨rfl,_,SqL.of Ab⟩,nb,_,0,0,.int own,rfl,rfl,Ab,by decide,by decide,jO (by rw[QbB];show 0 < _+1;omega),rfl,?_⟩
 simp only[QaV,QaU]
 have zq:upd (upd H2 nb (.lst ((own::Ie).map V.int))) nb (.lst (((own::Ie).map V.int).eraseIdx 0)) nb=some (.lst (Ie.map V.int)):=by rw[Ab];rfl
 have hb4:Bw (upd (upd H2 nb (.lst ((own::Ie).map V.int))) nb (.lst (((own::Ie).map V.int).eraseIdx 0))) b (n+1+1):=(hb2.same sN).Hz Ag.upd nbn
 have sB4:Ag b H (upd (upd H2 nb (.lst ((own::Ie).map V.int))) nb (.lst (((own::Ie).map V.int).eraseIdx 0))):=Ag.PJ (sB2.trans (Ag.of sN)) Ag.upd fnb
 generalize upd (upd H2 nb (.lst ((own::Ie).map V.int))) nb (.lst (((own::Ie).map V.int).eraseIdx 0))=H4 at zq hb4 sB4
 refine⟨Ar (by show 0<=1000;decide),λf0 hf0=>?_⟩
 simp only[QaV,QaU]
 have s5:=Ae hf0 (.tup [])
 refine⟨b,nb,f0,_,mp,Ie,rfl,rfl,rfl,rfl,Ab,hb4.same s5,by omega,nbn,s5 _ _ zq,E9,hmp,by omega,λft fv fp ns1 H5 hft hfp zA hfl E6 E7 hb5 s45=>?_⟩
 simp only[QaV,QaU]
 have sB5:Ag b H H5:=λc o e nc=>s45 _ _ (s5 _ _ (sB4 _ _ e nc)) nc (λz=>by rw[z,fnb] at e;cases e)
 have lfv:=QbW hfp
 refine⟨_,rfl,_,rfl,ft,_,rfl,.inr (SqT.of hft),_,_,rfl,rfl,b,_,_,rfl,hb5,by omega,by omega,by omega,λr4 H6 r40 r41 hb6 sb6=>?_⟩
 simp only[QaV,QaU]
 obtain⟨an,han⟩ : ∃an:Nat,r4=an:=⟨r4.toNat,by omega⟩
 subst han
 have zx:=(sb6.tup hb5.Ib) _ _ hft
 have zy:=Pn.tups (sb6.tup hb5.Ib) hfp
 have zm:=sb6 _ _ E7 nbn.symm
 have sB6:=sB5.trans sb6
 refine⟨_,rfl,_,rfl,_,rfl,ft,fv,rfl,zx,λp1 H7 hp1 s7=>?_⟩
 rw[zT (by omega)] at hp1
 refine⟨_,rfl,Ar (by show 0<=1000;decide),λe0 he0=>⟨Ar (by show 3<=1000;decide),λt3 ht3=>⟨Ar (by show 1<=1000;decide),λt1 ht1=>?_⟩⟩⟩
 have q1:=Ae he0 (.tup [])
 have q2:=Ae ht3 (.tup [.str "seeker",.int own,.ref e0])
 have q3:=Ae ht1 (.tup [.ref t3])
 have q13:=(q1.trans q2).trans q3
 have hown:Dl (upd (upd (upd H7 e0 (.tup [])) t3 (.tup [.str "seeker",.int own,.ref e0])) t1 (.tup [.ref t3])) (.ref t3) ⟨"seeker",own,[]⟩:=⟨t3,e0,[],rfl,q3 _ _ Ab,q3 _ _ (q2 _ _ Ab),.nil⟩
 refine⟨p1,t1,_,_,rfl,rfl,q13 _ _ hp1,Ab,Ar (by rw[Qbu];show _+1<=1000;omega),λp2 H8 hp2 s8=>?_⟩
 have s68:=(s7.trans q13).trans s8
 refine⟨_,rfl,_,rfl,_,rfl,ft,fv,rfl,s68 _ _ zx,λp3 H9 hp3 s9'=>?_⟩
 rw[Ux (by omega)] at hp3
 refine⟨p2,p3,_,_,rfl,rfl,s9' _ _ hp2,hp3,Ar (by rw[QaS,Qbu,Qbx];show _+1+_<=1000;omega),λp4 H10 hp4 s10=>⟨Ar (by show 1<=1000;decide),λll hll=>?_⟩⟩
 simp only[QaV,QaU]
 have Zu:=(s68.trans s9').trans s10
 have s11:=Ae hll (.lst [.ref p4])
 have Zt:=Zu.trans s11
 have hL0:LoopAt (upd H10 ll (.lst [.ref p4])) (.ref p4) ((fp.take an++[⟨"seeker",own,[]⟩])++fp.drop an):=by
  refine⟨p4,_,rfl,s11 _ _ hp4,Paired.app (Paired.app (Pn.tups (Al.of Zt) (Paired.sI an zy)) (.cons ?_ .nil)) (Pn.tups (Al.of Zt) (Paired.ur an zy))⟩
  exact hown.tups (Al.of (((s8.trans s9').trans s10).trans s11))
 have yF:OkL ((fp.take an++[⟨"seeker",own,[]⟩])++fp.drop an):=by
  refine⟨?_,?_,λp hp=>?_⟩
  ·rw[QaS,QaS];show 1<=_+1+_;omega
  ·rw[QaS,QaS,Qbu,Qbx];show _+1+_<=12;omega
  ·rcases QbC.mp hp with z | z
   ·rcases QbC.mp z with z | z
    ·exact zA p (List.mem_of_mem_take z)
    ·have:p=⟨"seeker",own,[]⟩:=by simpa using z
     rw[this]
     exact⟨by show 0<=3;decide,(λd hd=>by cases hd),.inr (.inl rfl)⟩
   ·exact zA p (List.mem_of_mem_drop z)
 have pm0:(adL ((fp.take an++[⟨"seeker",own,[]⟩])++fp.drop an)++ns1).Perm (own::Ie):=by
  have h2:adL fp=adL (fp.take an)++adL (fp.drop an):=by rw[<-Mz,List.take_append_drop]
  have h3:adL [(⟨"seeker",own,[]⟩ : Place)]=[own]:=by
   have:adP ⟨"seeker",own,[]⟩=[own]:=if_neg (Vu (.inl rfl))
   show [(⟨"seeker",own,[]⟩ : Place)].flatMap adP=[own]
   simp[this]
  rw[Mz,Mz,h3,E6,h2,Qbl,Qbl,Qbl]
  exact (List.perm_middle (l₁:=adL (fp.take an)) (a:=own) (l₂:=adL (fp.drop an)++ns1))
 have BH:1<=(adL ((fp.take an++[⟨"seeker",own,[]⟩])++fp.drop an)).length:=by
  have h3:adL [(⟨"seeker",own,[]⟩ : Place)]=[own]:=by
   have:adP ⟨"seeker",own,[]⟩=[own]:=if_neg (Vu (.inl rfl))
   show [(⟨"seeker",own,[]⟩ : Place)].flatMap adP=[own]
   simp[this]
  rw[Mz,Mz,h3,QaS,QaS]
  show 1<=_+1+_
  omega
 generalize Lv:(fp.take an++[⟨"seeker",own,[]⟩])++fp.drop an=L0 at hL0 yF pm0 BH
 have hbL:Bw (upd H10 ll (.lst [.ref p4])) b (n+1+1+101+1):=hb6.same Zt
 have zj:=Zt _ _ zm
 have sBL:Ag b H (upd H10 ll (.lst [.ref p4])):=sB6.trans (Ag.of Zt)
 have zu:upd H10 ll (.lst [.ref p4]) ll=some (.lst [.ref p4]):=Ab
 have fll:H ll=none:=(sB6.trans (Ag.of Zu)).free (hb6.same Zu).ex hll
 have nbl:b≠ll:=(hb6.same Zu).nb hll
 have nnl:nb≠ll:=Bb (Zu _ _ zm) hll
 generalize upd H10 ll (.lst [.ref p4])=HL at hL0 hbL zj sBL zu
 refine⟨_,rfl,_,rfl,b,_,_,rfl,hbL,by omega,by omega,by omega,λr5 HM r50 r51 hbM sbM=>⟨_,rfl,by omega,by omega,?_⟩⟩
 obtain⟨lnn,Fc⟩ : ∃lnn:Nat,r5=lnn:=⟨r5.toNat,by omega⟩
 subst Fc
 rw[Qbm]
 have tM:=sbM.tup hbL.Ib
 have Co:∀ps∈[L0],OkL ps:=λps hps=>by
  have:ps=L0:=by simpa using hps
  rw[this];exact yF
 let J1:YN:=λi σ HH=>∃(u10:Option V) (vs:YG) (loops:YU) (ns':List Int),σ=[some (.ref b),some (.int ml),some (.int mp),some (.int r1),some (.int sd),some (.ref nb),some (.int own),some (.ref ft),some (.int (an:Int)),some (.ref ll),u10,none,none,none,none,none,none,none,none,none,none]/\HH ll=some (.lst vs)/\Paired (LoopAt HH) vs loops/\loops.length=1+i/\(∀ps∈loops,OkL ps)/\((Cr loops++ns').Perm (own::Ie)/\∃L,loops=L0::L)/\HH nb=some (.lst (ns'.map V.int))/\Bw HH b (n+105+101*i)/\Ag b H HH
 refine FP J1
  ⟨_,[.ref p4],[L0],ns1,rfl,sbM _ _ zu nbl.symm,.cons (hL0.tups tM) .nil,rfl,Co,⟨(by show ([L0].flatMap adL++_).Perm _;simpa using pm0),[],rfl⟩,sbM _ _ zj nbn.symm,hbM.mono (by omega),sBL.trans sbM⟩ (λi σ HH hi h=>?_) (fun σ HH h=>?_)
 ·obtain⟨u10,vs,loops,ns',rfl,e1,e2,e3,e4,⟨e5p,Lr,hLr⟩,e6,e7,e8⟩:=h
  have e5:(Cr loops).length+ns'.length=30:=by
   have:=e5p.length_eq
   rw[QaS,Qbt,e29] at this
   exact this
  simp only[QaV,QaU]
  refine⟨_,rfl,.inl ⟨rfl,_,SqL.of e1⟩,_,rfl,_,rfl,_,rfl,b,nb,_,mp,ns',rfl,e7,by omega,nbn,e6,by omega,by omega,by omega,λt ps CA H' hL hok h1 h2 hns hnb' hb' s2=>?_⟩
  have e1':=s2 _ _ e1 nbl.symm nnl.symm
  have t2:Al HH H':=λc xs e=>s2 _ _ e (λz=>e7.Ib _ (z ▸ e)) (λz=>by rw[z,e6] at e;cases e)
  refine⟨ll,_,_,rfl,rfl,e1',Aq (by rw[QbW e2];omega),?_⟩
  have tv0:∀zs,H' ll≠some (.tup zs):=λzs z=>by rw[e1'] at z;cases z
  have tv:=Al.upd (o:=.lst (vs++[.ref t])) tv0
  refine⟨_,vs++[.ref t],loops++[ps],CA,rfl,Ab,Qcp (hL.tups tv) (Ln.tups tv (Ln.tups t2 e2)),by rw[QaS,e3];show _+1=_;omega,λp hp=>?_,?_,by rw[Am nnl];exact hnb',(hb'.Hz Ag.upd nbl).mono (by omega),λc o e nc=>?_⟩
  ·rcases QbC.mp hp with z | z
   ·exact e4 p z
   ·have:p=ps:=by simpa using z
    rw[this];exact⟨h1,by omega,hok⟩
  ·refine⟨?_,Lr++[ps],by rw[hLr];rfl⟩
   rw[X7,Qbl,<-hns]
   exact e5p
  ·rw[Am (λz=>by rw[z,fll] at e;cases e)]
   exact s2 _ _ (e8 _ _ e nc) nc (λz=>by rw[z,fnb] at e;cases e)
 obtain⟨u10,vs,loops,ns',rfl,e1,e2,e3,e4,⟨e5p,lO⟩,e6,e7,e8⟩:=h
 have e5:(Cr loops).length+ns'.length=30:=by
  have:=e5p.length_eq
  rw[QaS,Qbt,e29] at this
  exact this
 have lvs:=QbW e2
 have ndA:(Cr loops).Nodup:=(List.nodup_append.mp (e5p.nodup_iff.mpr AW)).1
 have bdA:∀x∈Cr loops,1<=x/\x<=99:=λx hx=>AX x (e5p.mem_iff.mp (QaH _ hx))
 have wO:=QT e4
 refine⟨_,rfl,ll,rfl,⟨_,SqL.of e1⟩,λlm hlm=>?_⟩
 have nlm:ll≠lm:=Bb e1 hlm
 let J2:YN:=λi σ H'=>∃(u:Option V) (ms:List Int),σ=[u]/\H' lm=some (.lst (ms.map V.int))/\ms.length=i/\Same HH H'/\∀ps∈loops.take i,∀m∈G6 ps,∃M∈ms,m<=M
 refine FQ (xs:=vs) J2 ⟨none,[],rfl,Ab,rfl,Ae hlm _,(λps hps=>by cases hps)⟩ (λi σ H' _ h=>?_) (λi x σ H' hx h=>?_) (fun σ H' h=>?_)
 ·obtain⟨u,ms,rfl,m1,m2,m3,m4⟩:=h
  exact SqL.of (m3 _ _ e1)
 ·obtain⟨u,ms,rfl,m1,m2,m3,m4⟩:=h
  obtain⟨ps,hps,hL⟩:=Paired.Ce e2 hx
  obtain⟨tx,wx,rfl,hx1,hx2⟩:=id hL
  have okl:=e4 ps (QaF hps)
  refine⟨_,rfl,tx,ps,rfl,hL.tups (Al.of m3),okl.ok,by have:=okl.hi;omega,λlq H'' hq s'=>⟨lq,G6 ps,rfl,SqL.of hq,(by unfold G6;rw[QaS];show 0 < _+1;omega),λM hMi hMm=>?_⟩⟩
  have hi:=(Qag.mp hx).1
  refine⟨_,s' _ _ m1,Aq (by rw[QbB];omega),_,ms++[M],rfl,by rw[Ab,QbD];rfl,by rw[QaS,m2];rfl,(m3.trans s').Bm Ag.upd hlm,λqs hqs m hm=>?_⟩
  rw[Qcx hps] at hqs
  rcases QbC.mp hqs with hqs | hqs
  ·obtain⟨M',h1,h2⟩:=m4 qs hqs m hm
   exact⟨M',QaH _ h1,h2⟩
  ·have:qs=ps:=by simpa using hqs
   rw[this] at hm
   exact⟨M,QaB _ (QaT ..),hMm m hm⟩
 obtain⟨u,ms,rfl,m1,m2,m3,m4⟩:=h
 refine⟨lm,ms,rfl,SqL.of m1,by omega,λM hMi hMm=>?_⟩
 have yL:∀ps∈loops,∀m∈G6 ps,m<=M:=λps hps m hm=>by
  obtain⟨M',h1,h2⟩:=m4 ps (by rw[lvs,Qbs];exact hps) m hm
  have:=hMm M' h1
  omega
 simp only[QaV,QaU]
 have e1:=m3 _ _ e1
 have e2:=Ln.tups (Al.of m3) e2
 have e7:=e7.same m3
 have e8:=e8.trans (Ag.of m3)
 clear m1 m2
 refine⟨Ar (by show 0<=1000;decide),λlt hlt=>?_⟩
 simp only[QaV,QaU]
 have sT:=Ae hlt (.lst [])
 have nbt:b≠lt:=e7.nb hlt
 refine⟨_,rfl,ll,rfl,⟨_,SqL.of (sT _ _ e1)⟩,?_⟩
 let J3:YN:=λi σ HT=>∃(u13 u14 u15 u16:Option V) (ts:List Int),σ=[some (.ref b),some (.int ml),some (.int mp),some (.int r1),some (.int sd),some (.ref nb),some (.int own),some (.ref ft),some (.int (an:Int)),some (.ref ll),u10,some (.int M),some (.ref lt),u13,u14,u15,u16,none,none,none,none]/\HT lt=some (.lst (ts.map V.int))/\ts=Ep (loops.take i)/\Same H' HT
 refine Qv (xs:=vs) J3 ⟨_,_,_,_,[],rfl,Ab,rfl,sT⟩ (λi σ HT _ h=>?_) (λi x σ HT hx h=>?_) (fun σ HT h=>?_)
 ·obtain⟨u13,u14,u15,u16,ts,rfl,t1,t2,t3⟩:=h
  exact SqL.of (t3 _ _ e1)
 ·obtain⟨u13,u14,u15,u16,ts,rfl,t1,t2,t3⟩:=h
  simp only[QaV,QaU]
  obtain⟨ps,hps,hL⟩:=Paired.Ce e2 hx
  obtain⟨tx,wx,rfl,hx1,hx2⟩:=id hL
  have okl:=e4 ps (QaF hps)
  have lwx:=QbW hx2
  have etk:Cr (loops.take (i+1))=Cr (loops.take i)++adL ps:=by rw[Qcx hps,X7]
  have tot:(Cr (loops.take (i+1))).length<=30:=by
   have:Cr loops=Cr (loops.take (i+1))++Cr (loops.drop (i+1)):=by unfold Cr;rw[<-QaM,List.take_append_drop]
   have h2:=congrArg List.length this
   rw[QaS] at h2
   omega
  rw[etk,QaS] at tot
  have wle:(Ep (loops.take i)).length<=(Cr (loops.take i)).length:=(QT λqs hqs=>e4 qs (List.mem_of_mem_take hqs)).length_le
  have wtk:Ep (loops.take (i+1))=Ep (loops.take i)++Jd ps:=by rw[Qcx hps,fQ]
  refine⟨_,rfl,tx,rfl,⟨_,SqT.of (t3 _ _ hx1)⟩,?_⟩
  let J4:YN:=λj σ HT=>∃(u14 u15 u16:Option V) (ts:List Int),σ=[some (.ref b),some (.int ml),some (.int mp),some (.int r1),some (.int sd),some (.ref nb),some (.int own),some (.ref ft),some (.int (an:Int)),some (.ref ll),u10,some (.int M),some (.ref lt),some (.ref tx),u14,u15,u16,none,none,none,none]/\HT lt=some (.lst (ts.map V.int))/\ts=Ep (loops.take i)++Jd (ps.take j)/\Same H' HT
  refine Mx (xs:=wx) J4 ⟨_,_,_,ts,rfl,t1,(by rw[t2];show _=_++[];rw[QbG]),t3⟩ (λj σ HT _ h=>?_) (λj y σ HT hy h=>?_) (fun σ HT h=>?_)
  ·obtain⟨u14,u15,u16,ts,rfl,t1,t2,t3⟩:=h
   exact SqT.of (t3 _ _ hx1)
  ·obtain⟨u14,u15,u16,ts,rfl,t1,t2,t3⟩:=h
   obtain⟨p,hp,hP⟩:=Paired.Ce hx2 hy
   obtain⟨tp,up,wp',rfl,hp1,hp2,hp3⟩:=hP.tups (Al.of t3)
   have okp:=okl.ok p (QaF hp)
   have etj:adL (ps.take (j+1))=adL (ps.take j)++adP p:=by rw[Qcx hp,UL]
   have tj:(adL (ps.take (j+1))).length<=(adL ps).length:=by
    have:adL ps=adL (ps.take (j+1))++adL (ps.drop (j+1)):=by rw[<-Mz,List.take_append_drop]
    have h2:=congrArg List.length this
    rw[QaS] at h2
    omega
   rw[etj,QaS] at tj
   have wlj:(Jd (ps.take j)).length<=(adL (ps.take j)).length:=(T8 λqs hqs=>okl.ok qs (List.mem_of_mem_take hqs)).length_le
   have wtj:Jd (ps.take (j+1))=Jd (ps.take j)++Ia (Fo p):=by rw[Qcx hp,jx]
   have t2l:ts.length<=(Cr (loops.take i)).length+(adL (ps.take j)).length:=by rw[t2,QaS];omega
   refine⟨tp,_,rfl,SqT.of hp1,rfl,_,_,rfl,_,_,rfl,_,_,rfl,rfl,?_⟩
   simp only[QaV,QaU]
   refine⟨_,rfl,.inl ⟨rfl,_,SqL.of t1⟩,_,rfl,_,rfl,Ar (by show 2<=1000;decide),λta hta=>⟨Ar (by show 1<=1000;decide),λtb htb=>?_⟩⟩
   have v1:=Ae hta (.tup [.str p.kind,.int p.addr])
   have v2:=Ae htb (.tup [.ref ta])
   have v12:=v1.trans v2
   refine⟨_,rfl,tb,up,_,_,rfl,rfl,Ab,v12 _ _ hp2,Ar (by have:=okp.spur;show 1+_<=1000;rw[QbW hp3];omega),λtc HC hC sC=>⟨tc,rfl,⟨_,SqT.of hC⟩,λl hl=>?_⟩⟩
   have vC:=v12.trans sC
   have hds:Paired (Ka HC) ([.ref ta]++wp') (⟨p.kind,p.addr⟩::p.spur):=.cons ⟨ta,rfl,sC _ _ (v2 _ _ Ab)⟩ (Paired.Av hp3 λ_ _ z=>z.tups (Al.of vC))
   have lds:=QbW hds
   let J5:YN:=λk σ H5=>∃(u v:Option V) (ys:List Int),σ=[u,v]/\H5 l=some (.lst (ys.map V.int))/\ys=Ia ((Fo p).take k)/\Same HC H5
   refine Uy (xs:=[.ref ta]++wp') J5 ⟨none,none,[],rfl,Ab,rfl,Ae hl _⟩ (λk σ H5 _ h=>?_) (λk x σ H5 hk h=>?_) (fun σ H5 h=>?_)
   ·obtain⟨u,v,ys,rfl,y1,y2,y3⟩:=h
    exact SqT.of (y3 _ _ hC)
   ·obtain⟨u,v,ys,rfl,y1,y2,y3⟩:=h
    obtain⟨d,hd,td,rfl,htd⟩:=Paired.Ce hds hk
    have hkl:=(Qag.mp hd).1
    have hsp:=okp.spur
    have hkk:k < 4:=by rw[Qbt] at hkl;omega
    have hdv:(Fo p)[k]?=some d:=hd
    have hws:Ia ((Fo p).take (k+1))=Ia ((Fo p).take k)++(if El d.kind=true then [d.addr] else []):=by rw[Qcx hdv,jy]
    have y2l:ys.length<=k:=by
     rw[y2]
     have:=(cV (ds:=(Fo p).take k)).length_le
     rw[QbB,Qbu] at this
     omega
    refine⟨td,_,rfl,SqT.of (y3 _ _ htd),rfl,_,_,rfl,_,_,rfl,rfl,?_⟩
    refine⟨_,rfl,Ar (by show 2<=1000;decide),λtq htq=>?_⟩
    have vq:=Ae htq (.tup [.str "seeker",.str "knob"])
    refine⟨tq,_,rfl,.inr (SqT.of Ab),rfl,rfl,_,rfl,LC (λcc=>?_) (λcc=>?_)⟩
    ·have cc:El d.kind=true:=cc
     rw[if_pos cc] at hws
     refine⟨_,rfl,_,vq _ _ y1,Aq (by rw[QbB];omega),_,_,ys++[d.addr],rfl,by rw[Ab,QbD];rfl,by rw[hws,y2],(y3.trans vq).Bm Ag.upd hl⟩
    ·have cc:¬El d.kind=true:=cc
     rw[if_neg cc,QbG] at hws
     refine⟨_,_,ys,rfl,vq _ _ y1,by rw[hws];exact y2,y3.trans vq⟩
   obtain⟨u,v,ys,rfl,y1,y2,y3⟩:=h
   have y2':ys=Ia (Fo p):=by
    rw[y2,lds]
    congr 1
    exact Qbs ..
   have y2l:ys.length<=(adP p).length:=by rw[y2'];exact (Yw okp).length_le
   have t1':=y3 _ _ (vC _ _ t1)
   refine⟨lt,l,_,_,rfl,rfl,t1',y1,Ar (by rw[QbB,QbB];omega),?_⟩
   refine⟨_,_,_,ts++ys,rfl,by rw[Ab,QbD],?_,((t3.trans vC).trans y3).Bm Ag.upd hlt⟩
   rw[wtj,t2,y2',Qbl]
  ·obtain⟨u14,u15,u16,ts,rfl,t1,t2,t3⟩:=h
   rw[lwx,Qbs] at t2
   exact⟨_,_,_,_,ts,rfl,t1,by rw[wtk];exact t2,t3⟩
 obtain⟨u13,u14,u15,u16,ts,rfl,t1,t2,t3⟩:=h
 rw[lvs,Qbs] at t2
 have oV:ts.length<=30:=by rw[t2];have:=wO.length_le;omega
 have zk0:QF (Ep loops) ts [] []:=by
  rw[t2]
  exact⟨wO.nodup ndA,(λx hx=>hx),(λz hz=>by cases hz),List.Sublist.refl _⟩
 have e1:=t3 _ _ e1
 have e2:=Ln.tups (Al.of t3) e2
 have e7:=e7.same t3
 have e8:=e8.trans (Ag.of t3)
 refine⟨Ar (by show 0<=1000;decide),λlz hlz=>?_⟩
 simp only[QaV,QaU]
 have sZ:=Ae hlz (.lst [])
 have nzl:ll≠lz:=Bb e1 hlz
 have nzt:lt≠lz:=Bb t1 hlz
 have nzb:b≠lz:=e7.nb hlz
 have flz:H lz=none:=e8.free e7.ex hlz
 refine⟨_,rfl,_,rfl,b,_,5,rfl,e7.same sZ,by omega,by decide,by decide,λr6 HU r60 r61 hbU sU=>?_⟩
 obtain⟨rn,hrn⟩ : ∃rn:Nat,r6=rn:=⟨r6.toNat,by omega⟩
 subst hrn
 refine⟨b,_,rn,rfl,hbU,by omega,by omega,λln ys HV hln ly hys BS iT hbV sV=>?_⟩
 simp only[QaV,QaU]
 have sUV:Ag b _ HV:=((Ag.of sZ).trans sU).trans sV
 have nzn:ln≠lz:=λz=>by rw[z,sU _ _ Ab nzb.symm] at hln;cases hln
 have e1:=sUV _ _ e1 nbl.symm
 have e2:=Ln.tups (sUV.tup e7.Ib) e2
 have e8:=e8.trans sUV
 have hzV:HV lz=some (.lst []):=sV _ _ (sU _ _ Ab nzb.symm) nzb.symm
 have t1:=sUV _ _ t1 nbt.symm
 have hbV:=hbV.mono (show _<=n+500 by omega)
 have tl3:loops.length<=3:=by omega
 have nln:b≠ln:=hbU.nb hln
 refine⟨_,rfl,ln,rfl,⟨_,SqL.of iT⟩,?_⟩
 let J6:YN:=λi σ HH=>∃(lt:Addr) (u19 u20:Option V) (ts:List Int) (zs:YG),σ=[some (.ref b),some (.int ml),some (.int mp),some (.int r1),some (.int sd),some (.ref nb),some (.int own),some (.ref ft),some (.int (an:Int)),some (.ref ll),u10,some (.int M),some (.ref lt),u13,u14,u15,u16,some (.ref lz),some (.ref ln),u19,u20]/\HH lt=some (.lst (ts.map V.int))/\ts.length<=30/\b≠lt/\lt≠lz/\HH lz=some (.lst zs)/\(∃zones,Paired (IK HH) zs zones/\QF (Ep loops) ts zones (ys.take i))/\HH ln=some (.lst (ys.map V.str))/\HH ll=some (.lst vs)/\Paired (LoopAt HH) vs loops/\Bw HH b (n+500+30*i)/\Ag b H HH
 refine Qv (xs:=ys.map V.str) J6
  ⟨lt,_,_,ts,[],rfl,t1,oV,nbt,nzt,hzV,⟨[],.nil,zk0⟩,iT,e1,e2,hbV,e8⟩ (λi σ HH _ h=>?_) (λi x σ HH hx h=>?_) (fun σ HH h=>?_)
 ·obtain⟨lt,u19,u20,ts,zs,rfl,z1,z2,z3,z4,z5,z6,z7,z8,z9,z10,z11⟩:=h
  exact SqL.of z7
 ·clear t1 t2 t3 oV nbt nzt hzV iT e1 e2 hbV e8
  obtain⟨lt,u19,u20,ts,zs,rfl,z1,z2,z3,z4,z5,z6,z7,z8,z9,z10,z11⟩:=h
  obtain⟨zones,zp,zk⟩:=z6
  have BQ:zs.length<=5:=by
   have h1:=QbW zp
   have h2:=zk.nm.length_le
   rw[QbB,Qbu] at h2
   omega
  obtain⟨yi,hyi,rfl⟩ : ∃yi,ys[i]?=some yi/\x=.str yi:=by
   rw[Qbk] at hx
   obtain⟨yi,h1,h2⟩:=Qax.mp hx
   exact⟨yi,h1,h2.symm⟩
  have ytk:ys.take (i+1)=ys.take i++[yi]:=Qcx hyi
  have hil:i < 5:=by
   have:=(Qag.mp hx).1
   rw[QbB] at this
   omega
  simp only[QaV,QaU]
  refine⟨_,rfl,lt,rfl,⟨_,SqL.of z1⟩,λlc hlc=>?_⟩
  have nbc:b≠lc:=z10.nb hlc
  have ntc:lt≠lc:=Bb z1 hlc
  have sC:=Ae hlc (.lst [])
  let J7:YN:=λk σ HC=>∃(u:Option V) (ss:List Int),σ=[u,some (.ref b)]/\HC lc=some (.lst (ss.map V.int))/\ss.Sublist (ts.take k)/\Bw HC b (n+500+30*i+k)/\Ag b HH HC
  refine FQ (xs:=ts.map V.int) J7 ⟨none,[],rfl,Ab,List.Sublist.refl _,z10.same sC,Ag.of sC⟩ (λk σ HC _ h=>?_) (λk x σ HC hk h=>?_) (fun σ HC h=>?_)
  ·obtain⟨u,ss,rfl,c1,c2,c3,c4⟩:=h
   exact SqL.of (c4 _ _ z1 z3.symm)
  ·obtain⟨u,ss,rfl,c1,c2,c3,c4⟩:=h
   have hkl:k < 30:=by
    have:=(Qag.mp hk).1
    rw[QbB] at this
    omega
   refine⟨_,rfl,b,_,3,rfl,c3,by omega,by decide,by decide,λr HD _ _ hbD sD=>⟨rfl,_,rfl,?_⟩⟩
   have c1':=sD _ _ c1 nbc.symm
   rw[Qbk] at hk
   obtain⟨a,hka,rfl⟩:=Qax.mp hk
   have tka:ts.take (k+1)=ts.take k++[a]:=Qcx hka
   have ssl:ss.length<=k:=Qci c2.length_le (by rw[Qbu];omega)
   refine LC (λcc=>?_) (λcc=>?_)
   ·refine⟨_,rfl,_,c1',Aq (by rw[QbB];omega),_,ss++[a],rfl,by rw[Ab,QbD];rfl,by rw[tka];exact c2.append (List.Sublist.refl _),hbD.Hz Ag.upd nbc,Ag.PJ (c4.trans sD) Ag.upd hlc⟩
   ·exact⟨_,ss,rfl,c1',by rw[tka];exact c2.trans (List.sublist_append_left ..),hbD,c4.trans sD⟩
  obtain⟨u,ss,rfl,c1,c2,c3,c4⟩:=h
  rw[QbB] at c2 c3
  rw[Qbs] at c2
  have ssl:ss.length<=30:=Qci c2.length_le z2
  refine⟨lc,ss,rfl,SqL.of c1,by omega,λms ls hperm S5 hls=>?_⟩
  simp only[QaV,QaU]
  have sS:=Ae hls (.lst (ms.map V.int))
  have c5:Ag b HH (upd HC ls (.lst (ms.map V.int))):=c4.trans (Ag.of sS)
  have c6:=c3.same sS
  have c7:(upd HC ls (.lst (ms.map V.int))) ls=some (.lst (ms.map V.int)):=Ab
  generalize upd HC ls (.lst (ms.map V.int))=HS at c5 c6 c7
  have lms:ms.length<=30:=by have:=hperm.length_eq;omega
  have z1:=c5 _ _ z1 z3.symm
  refine⟨_,rfl,lt,rfl,⟨_,SqL.of z1⟩,λlw hlw=>?_⟩
  have nbw:b≠lw:=c6.nb hlw
  have nsw:ls≠lw:=Bb c7 hlw
  have nzw:lw≠lz:=(Bb (c5 _ _ z5 nzb.symm) hlw).symm
  let J8:YN:=λk σ HC=>∃(u:Option V) (ss:List Int),σ=[u,some (.ref ls)]/\HC lw=some (.lst (ss.map V.int))/\ss=(ts.take k).filter (λx=>!decide (x∈ms))/\Same HS HC
  refine FQ (xs:=ts.map V.int) J8 ⟨none,[],rfl,Ab,rfl,Ae hlw _⟩ (λk σ HC _ h=>?_) (λk x σ HC hk h=>?_) (fun σ HC h=>?_)
  ·obtain⟨u,ss,rfl,d1,d2,d3⟩:=h
   exact SqL.of (d3 _ _ z1)
  ·obtain⟨u,ss,rfl,d1,d2,d3⟩:=h
   have hkl:k < 30:=by
    have:=(Qag.mp hk).1
    rw[QbB] at this
    omega
   rw[Qbk] at hk
   obtain⟨a,hka,rfl⟩:=Qax.mp hk
   have tka:(ts.take (k+1)).filter (λx=>!decide (x∈ms))=(ts.take k).filter (λx=>!decide (x∈ms))++[a].filter (λx=>!decide (x∈ms)):=by rw[Qcx hka,Qbd]
   have ssl:ss.length<=30:=by
    rw[d2]
    have h1:=List.length_filter_le (λx=>!decide (x∈ms)) (ts.take k)
    rw[Qbu] at h1
    omega
   refine⟨_,rfl,_,rfl,ls,_,rfl,.inl (SqL.of (d3 _ _ c7)),rfl,mH ms,_,rfl,LC (λcc=>?_) (λcc=>?_)⟩
   ·have cc:(!inV (.int a) (ms.map V.int))=true:=cc
    rw[Uq] at cc
    rw[show List.filter (λx=>!decide (x∈ms)) [a]=[a] from Qas (p:=λx=>!decide (x∈ms)) cc] at tka
    refine⟨_,rfl,_,d1,Aq (by rw[QbB];omega),_,ss++[a],rfl,by rw[Ab,QbD];rfl,by rw[tka,d2],d3.Bm Ag.upd hlw⟩
   ·have cc:¬(!inV (.int a) (ms.map V.int))=true:=cc
    rw[Uq] at cc
    rw[show List.filter (λx=>!decide (x∈ms)) [a]=[] from Qar (p:=λx=>!decide (x∈ms)) cc] at tka
    exact⟨_,ss,rfl,d1,by rw[tka,d2];exact (QbG _).symm,d3⟩
  obtain⟨u,ws,rfl,d1,d2,d3⟩:=h
  rw[QbB,Qbs] at d2
  have wsl:ws.length<=30:=by rw[d2];exact Qci (List.length_filter_le _ _) z2
  simp only[QaV,QaU]
  have c8:=c5.trans (Ag.of d3)
  have z5:=c8 _ _ z5 nzb.symm
  have z7:=c8 _ _ z7 nln.symm
  have z8:=c8 _ _ z8 nbl.symm
  have z9:=Ln.tups (c8.tup z10.Ib) z9
  have zp:Paired (IK HC) zs zones:=Paired.Av zp λ_ _ z=>z.tups (c8.tup z10.Ib)
  have z10:=(c6.same d3).mono (show _<=n+500+30*(i+1) by omega)
  have z11:=z11.trans c8
  have c7:=d3 _ _ c7
  have zkn:(ms.map V.int).length=ms.length:=QbB _
  refine⟨_,rfl,ls,_,rfl,.inl (SqL.of c7),_,_,rfl,rfl,_,rfl,LC (λcc=>?_) (λcc=>?_)⟩
  ·refine⟨_,rfl,.inl ⟨rfl,_,SqL.of z5⟩,_,rfl,_,rfl,ls,_,rfl,.inl ⟨SqL.of c7,λtt htt=>⟨Ar (by show 2<=1000;decide),λta hta=>?_⟩⟩⟩
   have f1:=Ae htt (.tup (ms.map V.int))
   have f2:=Ae hta (.tup [.str yi,.ref tt])
   have f12:=f1.trans f2
   have z5:=f12 _ _ z5
   refine⟨lz,_,_,rfl,rfl,z5,Aq (by omega),?_⟩
   have tz0:∀zs',(upd (upd HC tt (.tup (ms.map V.int))) ta (.tup [.str yi,.ref tt])) lz≠some (.tup zs'):=λzs' z=>by rw[z5] at z;cases z
   have tz:=Al.upd (o:=.lst (zs++[.ref ta])) tz0
   have E8:1<=ms.length:=by
    have cc:=Qbj cc
    rw[zkn] at cc
    omega
   have zp':Paired (IK (upd (upd (upd HC tt (.tup (ms.map V.int))) ta (.tup [.str yi,.ref tt])) lz (.lst (zs++[.ref ta])))) (zs++[.ref ta]) (zones++[⟨yi,ms⟩]):=Qcp ⟨ta,tt,rfl,tz _ _ Ab,tz _ _ (f2 _ _ Ab)⟩ (Paired.Av zp λ_ _ z=>(z.tups (Al.of f12)).tups tz)
   have zk':QF (Ep loops) ws (zones++[⟨yi,ms⟩]) (ys.take (i+1)):=by rw[d2,ytk];exact zk.next hperm c2 S5 lms E8
   exact⟨lw,_,_,ws,zs++[.ref ta],rfl,by rw[Am nzw];exact f12 _ _ d1,by omega,nbw,nzw,Ab,⟨_,zp',zk'⟩,by rw[Am nzn];exact f12 _ _ z7,by rw[Am nzl];exact f12 _ _ z8,Ln.tups tz (Ln.tups (Al.of f12) z9),(z10.same f12).Hz Ag.upd nzb,Ag.PJ (z11.trans (Ag.of f12)) Ag.upd flz⟩
  ·exact⟨lw,_,_,ws,zs,rfl,d1,by omega,nbw,nzw,z5,⟨zones,zp,by rw[d2,ytk];exact zk.none⟩,z7,z8,z9,z10,z11⟩
 clear t1 t2 t3 oV nbt nzt hzV iT e1 e2 hbV e8
 obtain⟨lt,u19,u20,ts,zs,rfl,z1,z2,z3,z4,z5,z6,z7,z8,z9,z10,z11⟩:=h
 rw[QbB] at z10
 obtain⟨zones,zp,zk⟩:=z6
 rw[QbB,Qbs] at zk
 have BQ:zs.length<=5:=by
  have h1:=QbW zp
  have h2:=zk.nm.length_le
  rw[QbB] at h2
  omega
 refine⟨_,rfl,_,rfl,b,_,3,rfl,z10,by omega,by decide,by decide,λr7 HX _ _ hbX sX=>⟨_,_,rfl,rfl,_,_,rfl,_,rfl,ll,_,rfl,.inl ⟨SqL.of (sX _ _ z8 nbl.symm),λtl htl=>?_⟩⟩⟩
 have g1:=Ae htl (.tup vs)
 refine⟨_,rfl,lz,_,rfl,.inl ⟨SqL.of (g1 _ _ (sX _ _ z5 nzb.symm)),λtz htz=>⟨Ar (by show 3<=1000;decide),λt ht=>?_⟩⟩⟩
 have g2:=Ae htz (.tup zs)
 have g3:=Ae ht (.tup [.int (if M+r7 < 30 then M+r7 else 30),.ref tl,.ref tz])
 have jd:=(g1.trans g2).trans g3
 have cnt:1<=(Cr loops).length:=by
  obtain⟨L,hL⟩ : ∃L,loops=L0::L:=lO
  rw[hL]
  have:Cr (L0::L)=adL L0++Cr L:=by unfold Cr;rw[Qbn]
  rw[this,QaS]
  omega
 have M1:1<=M:=by
  obtain⟨L,hL⟩ : ∃L,loops=L0::L:=lO
  obtain⟨m,h1,h2⟩:=cX (l:=G6 L0) (by rw[Xy];omega)
  have:=yL L0 (by rw[hL];exact QaT ..) m h1
  omega
 have pok:bK (if M+r7 < 30 then M+r7 else 30) loops zones:=by
  refine⟨ndA,bdA,⟨cnt,by omega⟩,⟨by split <;> omega,by split <;> omega⟩,λps hps m hm=>?_,λz hz x hx=>?_,(List.nodup_append.mp zk.nd).1,zk.up,?_,λz hz=>?_,zk.nm.nodup BS⟩
  ·have h1:=yL ps hps m hm
   have h2:=qd ps m hm
   have h3:(adL ps).length<=(Cr loops).length:=by
    exact fj loops hps
   split <;> omega
  ·exact zk.sub x (QaH _ (QbA.mpr ⟨z,hz,hx⟩))
  ·have h1:=QbW zp
   omega
  ·exact hys z.name (zk.nm.subset (Qcg.mpr ⟨z,hz,rfl⟩))
 exact q t tl tz vs zs loops zones _ _ Ab (g3 _ _ (g2 _ _ Ab)) (Ln.tups (Al.of jd) (Ln.tups (sX.tup z10.Ib) z9)) e4 (by omega) tl3 (g3 _ _ Ab) (Paired.Av zp λ_ _ z=>(z.tups (sX.tup z10.Ib)).tups (Al.of jd)) pok ((hbX.same jd).mono (by omega)) ((z11.trans sX).trans (Ag.of jd))
end
abbrev JH:Stmt:=top 28
abbrev Ej:YF:=["loop","at","place"]
theorem CN:Ax ["loop","at","place","kind","address","spur","told","number","spur_kind","spur_address"] Ej (Aj JH):=⟨rfl,rfl,rfl,by trivial,rfl,by trivial,by trivial⟩
structure Sd where
 lp:Int
 at_:Int
 n:Int
 kind:Str
 addr:Int
def Kw (H:Hp) (v:V) (d:Sd):Prop:=∃t u,v=.ref t/\H t=some (.tup [.ref u,.str d.kind,.int d.addr])/\H u=some (.tup [.int d.lp,.int d.at_,.int d.n])
theorem Kw.tups {H H':Hp} (s:Al H H') {v:V} {d:Sd} (h:Kw H v d):Kw H' v d:=by
 obtain⟨t,u,e,q1,q2⟩:=h
 exact⟨t,u,e,s _ _ q1,s _ _ q2⟩
def Dq (lp at_:Int):Nat->List Dev->List Sd
 | _,[]=>[]
 | n,d::r=>⟨lp,at_,n,d.kind,d.addr⟩::Dq lp at_ (n+1) r
def BL (lp at_:Int) (p:Place):List Sd:=if V.str p.kind=V.str "opener" then [] else ⟨lp,at_,0,p.kind,p.addr⟩::Dq lp at_ 1 p.spur
theorem TJ (lp at_:Int):∀(n:Nat) (ds:List Dev) (i:Nat) (d:Dev),ds[i]?=some d->Dq lp at_ n (ds.take (i+1))=Dq lp at_ n (ds.take i)++[⟨lp,at_,(n+i:Nat),d.kind,d.addr⟩]
 | n,[],i,d,h=>by simp at h
 | n,x::r,0,d,h=>by
  simp at h
  subst h
  simp[Dq]
 | n,x::r,i+1,d,h=>by
  have h':r[i]?=some d:=by simpa using h
  have ih:=TJ lp at_ (n+1) r i d h'
  rw[List.take_succ_cons,List.take_succ_cons]
  show _::Dq lp at_ (n+1) (r.take (i+1))=(_::Dq lp at_ (n+1) (r.take i))++_
  rw[ih,show n+1+i=n+(i+1) by omega]
  rfl
structure Tx (K:YD) (mg:YB) (op oe:Addr):Prop extends Nm mg where
 OPENER:∃u,mg "OPENER"=some u/\RelV (.ref op) u
 opT:∀H,SqT K H op [.str "opener",.int 0,.ref oe]
 opE:∀H,SqT K H oe []
def oW:Sp:=λvs H Q _=>∃(lp at_:Int) (v:V) (p:Place),vs=[.int lp,.int at_,v]/\Dl H v p/\p.spur.length<=3/\∀l xs H',H l=none->H' l=some (.lst xs)->Paired (Kw H') xs (BL lp at_ p)->Same H H'->Q (.ref l) H'
section
variable {P:Program} {w:World} {K:YD} {mg:YB} {base:Heap} {op oe:Addr}
theorem Uj (c:Code K mg "place_devices" JH Ej) (T:Tx K mg op oe):Good P w K mg base "place_devices" 1 Ej oW:=by
 refine c.good CN (λvs H Q E h=>?_) (λf cdv A outer s H vs Q E hr h=>?_)
 ·obtain⟨lp,at_,v,p,rfl,_⟩:=h
  rfl
 obtain⟨lp,at_,v,p,rfl,⟨t,u,vs,rfl,ht,hu,hd⟩,h3,q⟩:=h
 refine⟨_,(Af (Gj (pv 2) (Cv rfl (Ak (Ah (i:=3) CN.nd rfl (Or.inl rfl)) (Ak (Ah (i:=4) CN.nd rfl (Or.inl rfl)) (Ak (Ah (i:=5) CN.nd rfl (Or.inl rfl)) Bp)))))
 (Af (Ci (Bj G7 (pv 3) Bt (Br _)) (Ai (Ay (BZ Ac))) BK)
 (Af (Ba (i:=6) CN.nd rfl (Or.inl rfl) (BZ (Aa (Bd (Aa (Bd (Aa (pv 0) (Aa (pv 1) (Aa Ad Ac)))) (Aa (pv 3) (Aa (pv 4) Ac)))) Ac)))
 (Af (Cj QbE rfl (Nj rfl T.enumerate (pv 5) Ad) (Cv rfl (Ak (Ah (i:=7) CN.nd rfl (Or.inl rfl)) (Ak (Cv rfl (Ak (Ah (i:=8) CN.nd rfl (Or.inl rfl)) (Ak (Ah (i:=9) CN.nd rfl (Or.inl rfl)) Bp))) Bp)))
 (Ai (Bs (CK Qap Qal Qam Cy (pv 6) (Aa (Bd (Aa (Bd (Aa (pv 0) (Aa (pv 1) (Aa (pv 7) Ac)))) (Aa (pv 8) (Aa (pv 9) Ac)))) Ac)))))
 (Ai (Ay (pv 6))))))),?_⟩
 show let R0:TS:=_;let R1:TS:=Ao (DQ _ _ R0) _;let R2:TS:=Ao _ R1;let R3:TS:=Ao _ R2;Ao _ R3 _ _ _
 intro R0 R1 R2 R3
 generalize hst:L2.start _ _=σ0
 have e0:σ0=[some (.int lp),some (.int at_),some (.ref t),none,none,none,none,none,none,none]:=hst.symm
 clear hst
 subst e0
 refine⟨_,rfl,t,_,rfl,SqT.of ht,rfl,_,_,rfl,_,_,rfl,_,_,rfl,rfl,?_⟩
 simp only[QaV,QaU]
 refine⟨_,rfl,rfl,_,rfl,?_⟩
 by_cases ck:V.str p.kind=V.str "opener"
 ·rw[QbR ck]
  have e:BL lp at_ p=[]:=if_pos ck
  rw[e] at q
  exact Cp ⟨(by show 0<=sizeLine;decide),λl hl=>q l [] _ hl Ab .nil (Ae hl _)⟩
 ·rw[QbF ck]
  have e:BL lp at_ p=⟨lp,at_,0,p.kind,p.addr⟩::Dq lp at_ 1 p.spur:=if_neg ck
  rw[e] at q
  refine Cd ⟨_,rfl,_,rfl,(by show 3<=sizeLine;decide),λus hus=>⟨_,rfl,_,rfl,(by show 3<=sizeLine;decide),λts hts=>⟨(by show 1<=sizeLine;decide),λl hl=>?_⟩⟩⟩
  have s1:=Ae hus (.tup [.int lp,.int at_,.int 0])
  have s2:=Ae hts (.tup [.ref us,.str p.kind,.int p.addr])
  have s3:=Ae hl (.lst [.ref ts])
  have sm:=s1.trans (s2.trans s3)
  have hl0:=s1.free (s2.free hl)
  have el:_=some (HO.lst [.ref ts]):=Ab (H:=upd (upd H us (.tup [.int lp,.int at_,.int 0])) ts (.tup [.ref us,.str p.kind,.int p.addr])) (a:=l) (o:=.lst [.ref ts])
  have es:Kw _ (.ref ts) ⟨lp,at_,0,p.kind,p.addr⟩:=⟨ts,us,rfl,s3 _ _ Ab,s3 _ _ (s2 _ _ Ab)⟩
  generalize hX:upd (upd (upd H us (.tup [.int lp,.int at_,.int 0])) ts (.tup [.ref us,.str p.kind,.int p.addr])) l (.lst [.ref ts])=H1 at sm el es
  simp only[QaV,QaU]
  have hu1:=sm _ _ hu
  have sd0:Paired (Kw H1) [.ref ts] (⟨lp,at_,0,p.kind,p.addr⟩::Dq lp at_ 1 (p.spur.take 0)):=.cons es .nil
  have DV:vs.length=p.spur.length:=QbW hd
  refine⟨_,rfl,u,rfl,⟨vs,SqT.of hu1⟩,Jl (xs:=vs) (lo:=1) (λi σ HH=>∃ys u7 u8 u9,σ=[some (.int lp),some (.int at_),some (.ref t),some (.str p.kind),some (.int p.addr),some (.ref u),some (.ref l),u7,u8,u9]/\Ag l H1 HH/\HH l=some (.lst ys)/\Paired (Kw HH) ys (⟨lp,at_,0,p.kind,p.addr⟩::Dq lp at_ 1 (p.spur.take i))/\ys.length<=i+1)
   ⟨[.ref ts],_,_,_,rfl,Ag.refl l H1,el,sd0,Qcn _⟩ (λi σ HH _ h=>?_) (λi x pt σ HH hx h hpt=>?_) (fun σ HH h=>?_)⟩
  ·obtain⟨ys,_,_,_,_,sb,_⟩:=h
   exact SqT.of (sb _ _ hu1 (λz=>by rw[z,el] at hu1;cases hu1))
  ·obtain⟨ys,u7,u8,u9,rfl,sb,hy,pd,ly⟩:=h
   obtain⟨d,hdi,td,rfl,htd⟩:=Paired.Ce hd hx
   have nl:∀zs,H1 l≠some (.tup zs):=λzs z=>by rw[el] at z;cases z
   have nl2:∀zs,HH l≠some (.tup zs):=λzs z=>by rw[hy] at z;cases z
   have E3:=(sb.tup nl) _ _ (sm _ _ htd)
   have t0:=Ae hpt (.tup [.int ((1+i:Nat):Int),.ref td])
   refine⟨pt,_,rfl,SqT.of Ab,rfl,_,_,rfl,_,_,rfl,td,_,rfl,SqT.of (t0 _ _ E3),rfl,_,_,rfl,_,_,rfl,rfl,rfl,?_⟩
   simp only[QaV,QaU]
   have hy0:=t0 _ _ hy
   refine⟨_,rfl,.inl ⟨rfl,_,SqL.of hy0⟩,_,rfl,_,rfl,_,rfl,(by show 3<=sizeLine;decide),λus2 E1=>⟨_,rfl,_,rfl,(by show 3<=sizeLine;decide),λts2 E2=>?_⟩⟩
   have t1:=Ae E1 (.tup [.int lp,.int at_,.int ((1+i:Nat):Int)])
   have t2:=Ae E2 (.tup [.ref us2,.str d.kind,.int d.addr])
   have hy2:=t2 _ _ (t1 _ _ hy0)
   have il:=(Qag.mp hx).1
   refine⟨l,_,_,rfl,rfl,hy2,Aq (by omega),?_⟩
   refine⟨ys++[.ref ts2],_,_,_,rfl,sb.trans ((Ag.of (t0.trans (t1.trans t2))).trans Ag.upd),Ab,?_,by rw[QaS];simp only[QaC];omega⟩
   rw[TJ lp at_ 1 p.spur i d hdi]
   have nlx:∀zs,(upd (upd (upd HH pt (.tup [.int ((1+i:Nat):Int),.ref td])) us2 (.tup [.int lp,.int at_,.int ((1+i:Nat):Int)])) ts2 (.tup [.ref us2,.str d.kind,.int d.addr])) l≠some (.tup zs):=λzs z=>by rw[hy2] at z;cases z
   have tt:=Al.upd (o:=.lst (ys++[.ref ts2])) nlx
   exact Qcp (l₂:=_::Dq lp at_ 1 (p.spur.take i)) ⟨ts2,us2,rfl,tt _ _ Ab,tt _ _ (t2 _ _ Ab)⟩ (Paired.Av pd λ_ _ z=>(z.tups (Al.of (t0.trans (t1.trans t2)))).tups tt)
  ·obtain⟨ys,u7,u8,u9,rfl,sb,hy,pd,ly⟩:=h
   rw[DV,Qbs] at pd
   exact⟨_,rfl,q l ys HH hl0 hy pd λc o e=>sb _ _ (sm _ _ e) (Bb e hl0)⟩
end
structure Sp3 where
 lp:Int
 at_:Int
 n:Int
def Sd.spot (d:Sd):Sp3:=⟨d.lp,d.at_,d.n⟩
def BX (H:Hp) (v:V) (d:Sp3):Prop:=∃u,v=.ref u/\H u=some (.tup [.int d.lp,.int d.at_,.int d.n])
theorem BX.tups {H H':Hp} (s:Al H H') {v:V} {d:Sp3} (h:BX H v d):BX H' v d:=by
 obtain⟨u,e,q⟩:=h
 exact⟨u,e,s _ _ q⟩
theorem Kp {k:Str} (h:GP k):¬V.str k=V.str "opener":=by
 rcases h with rfl | rfl | rfl | rfl <;> decide +kernel
theorem aD {k:Str} (h:GP k):(PyData.str k).canLay0=true:=by
 rcases h with rfl | rfl | rfl | rfl <;> decide +kernel
def O2 (d:Dev):PyData:=.tuple [.str d.kind,.int d.addr]
def Nh (p:Place):PyData:=.tuple [.str p.kind,.int p.addr,.tuple (p.spur.map O2)]
def opD:PyData:=.tuple [.str "opener",.int 0,.tuple []]
theorem aV:∀{ds:List Dev},(∀d∈ds,GP d.kind)->PyData.canLayAll0 (ds.map O2)=true/\PyData.depthAll (ds.map O2)<=1
 | [],_=>⟨rfl,by show 0<=1;decide⟩
 | d::ds,h=>by
  have ih:=aV (ds:=ds) λx hx=>h x (QaG _ hx)
  refine⟨?_,?_⟩
  ·show ((PyData.canLay0 (.str d.kind)&&(true&&true))&&PyData.canLayAll0 (ds.map O2))=true
   rw[aD (h d QaT),ih.1];rfl
  ·show max (max 0 (max 0 0)+1) (PyData.depthAll (ds.map O2))<=1
   exact Nat.max_le.mpr ⟨by decide,ih.2⟩
theorem yr:PyData.canLay0 (.str "opener")=true:=by trivial
theorem Rn {p:Place} (h:OkP p):SeqAt.shaped (Nh p)=true:=by
 have hk:PyData.canLay0 (.str p.kind)=true:=by
  rcases h.form with⟨e,_⟩| e
  ·rw[e];exact yr
  ·exact aD e
 have hd:=aV h.kinds
 show ((PyData.canLay0 (.str p.kind)&&(true&&(PyData.canLayAll0 (p.spur.map O2)&&true)))&&decide (max 0 (max 0 (max (PyData.depthAll (p.spur.map O2)+1) 0))+1<=64))=true
 rw[hk,hd.1]
 have:max 0 (max 0 (max (PyData.depthAll (p.spur.map O2)+1) 0))+1<=64:=by omega
 rw[QbR this]
 rfl
theorem Xv {p:Place} (h:OkP p):PyData.eqv (Nh p) opD=decide (V.str p.kind=V.str "opener"):=by
 rcases h.form with⟨e1,e2,e3⟩| e
 ·rw[show Nh p=opD by unfold Nh opD;rw[e1,e2,e3];rfl,e1]
  decide +kernel
 ·rw[QbF (Kp e)]
  have:(p.kind == ("opener":Str))=false:=QaK.mpr λz=>Kp e (by rw[z])
  show (((p.kind == ("opener":Str))&&_))=false
  rw[this]
  rfl
theorem Ka.rep {K:YD} {H:Hp} {v:V} {d:Dev} (h:Ka H v d):Jo K H v (O2 d):=by
 obtain⟨t,rfl,e⟩:=h
 exact .tup (SqT.of e) (.cons (.str _) (.cons (.int _) .nil))
theorem aU {K:YD} {H:Hp}:∀{vs:YG} {ds:List Dev},Paired (Ka H) vs ds->Jb K H vs (ds.map O2)
 | _,_,.nil=>.nil
 | _,_,.cons h t=>.cons h.rep (aU t)
theorem Dl.rep {K:YD} {H:Hp} {v:V} {p:Place} (h:Dl H v p):Jo K H v (Nh p):=by
 obtain⟨t,u,vs,rfl,e1,e2,e3⟩:=h
 exact .tup (SqT.of e1) (.cons (.str _) (.cons (.int _) (.cons (.tup (SqT.of e2) (aU e3)) .nil)))
theorem Mg (lp at_:Int):∀(n:Nat) (ds:List Dev),(Dq lp at_ n ds).length=ds.length
 | _,[]=>rfl
 | n,d::r=>by show (Dq lp at_ (n+1) r).length+1=r.length+1;rw[Mg]
abbrev Rg:Stmt:=top 29
abbrev Gw:YF:=["plan"]
theorem Hy:Ax ["plan","told","loop","places","at","place"] Gw (Aj Rg):=⟨rfl,rfl,rfl,by trivial,rfl,by trivial,by trivial⟩
abbrev Kz:Stmt:=top 30
abbrev Ij:YF:=["plan"]
theorem Eb:Ax ["plan","told","loop","places","at","kind","address","spur"] Ij (Aj Kz):=⟨rfl,rfl,rfl,by trivial,rfl,by trivial,by trivial⟩
abbrev NZ:Stmt:=top 31
abbrev K1:YF:=["plan"]
theorem Mh:Ax ["plan","told","loop","places"] K1 (Aj NZ):=⟨rfl,rfl,rfl,by trivial,rfl,by trivial,by trivial⟩
def up {α : Type} (f:Nat->List α) (i:Nat):List α:=(List.range i).flatMap f
theorem Ey {α : Type} (f:Nat->List α) (i:Nat):up f (i+1)=up f i++f i:=by
 unfold up
 rw[List.range_succ,QaM]
 simp
theorem O8 {α : Type} (f:Nat->List α):up f 0=[]:=rfl
theorem Ez {α : Type} {f:Nat->List α} {c:Nat} (h:∀i,(f i).length<=c):∀i,(up f i).length<=c*i
 | 0=>Qcn _
 | i+1=>by
  have:=Ez h i
  have:=h i
  rw[Ey,QaS,Nat.mul_succ]
  omega
def ifs {α β : Type} (o:Option α) (g:α->List β):List β:=match o with | none=>[] | some x=>g x
theorem Cw {α β : Type} {o:Option α} {g:α->List β} {x:α} (h:o=some x):ifs o g=g x:=by rw[h];rfl
structure Gt where
 lp:Int
 at_:Int
def Eh (H:Hp) (v:V) (d:Gt):Prop:=∃u,v=.ref u/\H u=some (.tup [.int d.lp,.int d.at_])
theorem Eh.tups {H H':Hp} (s:Al H H') {v:V} {d:Gt} (h:Eh H v d):Eh H' v d:=by
 obtain⟨u,e,q⟩:=h
 exact⟨u,e,s _ _ q⟩
def pd1 (lp:Int) (ps:List Place) (i:Nat):List Sd:=ifs ps[i]? λp=>BL lp ((1+i:Nat):Int) p
def pdL (loops:YU) (k:Nat):List Sd:=ifs loops[k]? λps=>up (pd1 k ps) ps.length
abbrev YV:=List Sp3
def st1 (lp:Int) (ps:List Place) (i:Nat):YV:=ifs ps[i]? λp=>(List.range (p.spur.length+1)).map λn:Nat=>⟨lp,((1+i:Nat):Int),(n:Int)⟩
def stL (loops:YU) (k:Nat):YV:=ifs loops[k]? λps=>⟨k,0,0⟩::up (st1 k ps) ps.length
def gt1 (lp:Int) (ps:List Place) (i:Nat):List Gt:=ifs ps[i]? λp=>if V.str p.kind=V.str "opener" then [⟨lp,((1+i:Nat):Int)⟩] else []
def gtL (loops:YU) (k:Nat):List Gt:=ifs loops[k]? λps=>(⟨k,0⟩::up (gt1 k ps) ps.length)++[⟨k,(ps.length:Int)+1⟩]
structure CW (loops:YU):Prop where
 ok:∀ps∈loops,OkL ps
 hi:loops.length<=3
theorem T4 {lp a:Int} {p:Place} (h:OkP p):(BL lp a p).length<=4:=by
 unfold BL
 have:=h.spur
 split
 ·exact Qco _
 ·rw[Qbt,Mg];omega
theorem dZ {lp:Int} {ps:List Place} (h:∀p∈ps,OkP p) (i:Nat):(pd1 lp ps i).length<=4:=by
 unfold pd1
 cases e:ps[i]? with
 | none=>exact Qco _
 | some p=>exact T4 (h p (QaF e))
theorem Wd {lp:Int} {ps:List Place} (h:∀p∈ps,OkP p) (i:Nat):(st1 lp ps i).length<=4:=by
 unfold st1
 cases e:ps[i]? with
 | none=>exact Qco _
 | some p=>
  have:=(h p (QaF e)).spur
  show ((List.range _).map _).length<=4
  rw[QbB,Qbq]
  omega
theorem Xa {lp:Int} {ps:List Place} (i:Nat):(gt1 lp ps i).length<=1:=by
 unfold gt1
 cases e:ps[i]? with
 | none=>exact Qco _
 | some p=>
  show (if _ then _ else _:List Gt).length<=1
  split
  ·exact Qcn _
  ·exact Qco _
theorem dY {loops:YU} (h:CW loops) (k:Nat):(pdL loops k).length<=48:=by
 unfold pdL
 cases e:loops[k]? with
 | none=>exact Qco _
 | some ps=>
  have o:=h.ok ps (QaF e)
  have:=Ez (dZ (lp:=k) o.ok) ps.length
  have:=o.hi
  show (up _ _).length<=48
  omega
theorem dh {loops:YU} (h:CW loops) (k:Nat):(stL loops k).length<=49:=by
 unfold stL
 cases e:loops[k]? with
 | none=>exact Qco _
 | some ps=>
  have o:=h.ok ps (QaF e)
  have:=Ez (Wd (lp:=k) o.ok) ps.length
  have:=o.hi
  show (up _ _).length+1<=49
  omega
theorem eV {loops:YU} (h:CW loops) (k:Nat):(gtL loops k).length<=14:=by
 unfold gtL
 cases e:loops[k]? with
 | none=>exact Qco _
 | some ps=>
  have o:=h.ok ps (QaF e)
  have:=Ez (Xa (lp:=k) (ps:=ps)) ps.length
  have:=o.hi
  show ((_::up _ _)++[_]).length<=14
  rw[QaS,Qbt]
  show _+1+1<=14
  omega
def V1 (H:Hp) (pl:Addr) (loops:YU):Prop:=∃v0 v2 Ls vs,H pl=some (.tup [v0,.ref Ls,v2])/\H Ls=some (.tup vs)/\Paired (LoopAt H) vs loops
def U7:Sp:=λvs H Q _=>∃(pl:Addr) (loops:YU),vs=[.ref pl]/\V1 H pl loops/\CW loops/\∀l xs H',H l=none->H' l=some (.lst xs)->Paired (Kw H') xs (up (pdL loops) loops.length)->Same H H'->Q (.ref l) H'
def tG:Sp:=λvs H Q _=>∃(pl:Addr) (loops:YU),vs=[.ref pl]/\V1 H pl loops/\CW loops/\∀l xs H',H l=none->H' l=some (.lst xs)->Paired (BX H') xs (up (stL loops) loops.length)->Same H H'->Q (.ref l) H'
def tK:Sp:=λvs H Q _=>∃(pl:Addr) (loops:YU),vs=[.ref pl]/\V1 H pl loops/\CW loops/\∀l xs H',H l=none->H' l=some (.lst xs)->Paired (Eh H') xs (up (gtL loops) loops.length)->Same H H'->Q (.ref l) H'
section
variable {P:Program} {w:World} {K:YD} {mg:YB} {base:Heap} {op oe:Addr}
theorem iB (c:Code K mg "devices" Rg Gw) (T:Tx K mg op oe) (JV:Good P w K mg base "place_devices" 1 Ej oW):Good P w K mg base "devices" 2 Gw U7:=by
 refine c.good Hy (λvs H Q E h=>?_) (λf cdv A outer s H vs Q E hr h=>?_)
 ·obtain⟨pl,loops,rfl,_⟩:=h
  rfl
 obtain⟨pl,loops,rfl,⟨v0,v2,Ls,vs,hpl,hLs,hlo⟩,ok,q⟩:=h
 refine⟨_,(Af (Ba (i:=1) Hy.nd rfl (Or.inl rfl) (BZ Ac))
 (Af (Cj QbE rfl (Uh rfl T.enumerate (Bh Bu (pv 0) Ad (λ_ _=>rfl))) (Cv rfl (Ak (Ah (i:=2) Hy.nd rfl (Or.inl rfl)) (Ak (Ah (i:=3) Hy.nd rfl (Or.inl rfl)) Bp)))
 (Ai (Cj QbE rfl (Nj rfl T.enumerate (pv 3) Ad) (Cv rfl (Ak (Ah (i:=4) Hy.nd rfl (Or.inl rfl)) (Ak (Ah (i:=5) Hy.nd rfl (Or.inl rfl)) Bp)))
 (Ai (Bs (CK Qap Qan Qao Ew (pv 1) (Aa (Aw JV hr (Aa (pv 2) (Aa (pv 4) (Aa (pv 5) Ac)))) Ac)))))))
 (Ai (Ay (pv 1))))),?_⟩
 show let R0:TS:=_;let R1:TS:=DQ _ _ R0;let R2:TS:=Ao (DQ _ _ R1) _;Ao _ R2 _ _ _
 intro R0 R1 R2
 generalize hst:L2.start _ _=σ0
 have e0:σ0=[some (.ref pl),none,none,none,none,none]:=hst.symm
 clear hst
 subst e0
 refine⟨Ar (by show 0<=1000;decide),λl fl=>?_⟩
 simp only[QaV,QaU]
 have s1:=Ae fl (.lst [])
 have lvs:=QbW hlo
 refine⟨_,rfl,pl,_,_,_,rfl,rfl,SqT.of (s1 _ _ hpl),rfl,Ls,rfl,⟨vs,SqT.of (s1 _ _ hLs)⟩,?_⟩
 let J0:YN:=λi σ HH=>∃(ys:YG) (u2 u3 u4 u5:Option V),σ=[some (.ref pl),some (.ref l),u2,u3,u4,u5]/\Same H HH/\HH l=some (.lst ys)/\Paired (Kw HH) ys (up (pdL loops) i)
 refine Jl (xs:=vs) (lo:=0) J0 ⟨[],_,_,_,_,rfl,s1,Ab,.nil⟩ (λi σ HH _ h=>?_) (λi x pt σ HH hx h hpt=>?_) (fun σ HH h=>?_)
 ·obtain⟨ys,_,_,_,_,_,sm,_⟩:=h
  exact SqT.of (sm _ _ hLs)
 ·obtain⟨ys,u2,u3,u4,u5,rfl,sm,hy,py⟩:=h
  obtain⟨ps,hps,hL⟩:=Paired.Ce hlo hx
  obtain⟨t,ws,rfl,ht,hws⟩:=id hL
  have okl:=ok.ok ps (QaF hps)
  have ek:pdL loops i=up (pd1 i ps) ps.length:=Cw hps
  have lws:=QbW hws
  have t0:=Ae hpt (.tup [.int ((0+i:Nat):Int),.ref t])
  refine⟨pt,_,rfl,SqT.of Ab,rfl,_,_,rfl,_,_,rfl,rfl,?_⟩
  have sm0:=sm.trans t0
  have hy0:=t0 _ _ hy
  have py0:=Paired.Av py λ_ _ (z:Kw HH _ _)=>z.tups (Al.of t0)
  generalize upd HH pt (.tup [.int ((0+i:Nat):Int),.ref t])=HA at sm0 hy0 py0
  simp only[QaV,QaU,Nat.zero_add]
  have hil:=(Qag.mp hps).1
  have lu:=Ez (dY ok) i
  have hhi:=ok.hi
  refine⟨_,rfl,t,rfl,⟨ws,SqT.of (sm0 _ _ ht)⟩,?_⟩
  let J1:YN:=λj σ HJ=>∃(ys:YG) (u4 u5:Option V),σ=[some (.ref pl),some (.ref l),some (.int (i:Int)),some (.ref t),u4,u5]/\Same H HJ/\HJ l=some (.lst ys)/\Paired (Kw HJ) ys (up (pdL loops) i++up (pd1 i ps) j)
  refine Jl (xs:=ws) (lo:=1) J1 ⟨ys,_,_,rfl,sm0,hy0,by rw[O8,QbG];exact py0⟩ (λj σ HJ _ h=>?_) (λj x pt σ HJ hx h hpt=>?_) (fun σ HJ h=>?_)
  ·obtain⟨ys,_,_,_,sj,_⟩:=h
   exact SqT.of (sj _ _ ht)
  ·obtain⟨ys,u4,u5,rfl,sj,hyj,pj⟩:=h
   obtain⟨p,hp,hP⟩:=Paired.Ce hws hx
   have okp:=okl.ok p (QaF hp)
   have ej:pd1 i ps j=BL i ((1+j:Nat):Int) p:=Cw hp
   have t1:=Ae hpt (.tup [.int ((1+j:Nat):Int),x])
   refine⟨pt,_,rfl,SqT.of Ab,rfl,_,_,rfl,_,_,rfl,rfl,?_⟩
   simp only[QaV,QaU]
   have hjl:=(Qag.mp hp).1
   have lj:=Ez (dZ (lp:=i) okl.ok) j
   have lys:=QbW pj
   rw[QaS] at lys
   have h12:=okl.hi
   refine⟨_,rfl,.inl ⟨rfl,_,SqL.of (t1 _ _ hyj)⟩,_,rfl,_,rfl,_,rfl,(i:Int),((1+j:Nat):Int),x,p,rfl,hP.tups (Al.of (sj.trans t1)),okp.spur,λld xs' HB fld hld pdd sB=>?_⟩
   have t2:=t1.trans sB
   have hyB:=t2 _ _ hyj
   have lx:=QbW pdd
   have lpl:=T4 (lp:=i) (a:=((1+j:Nat):Int)) okp
   refine⟨l,ld,_,_,rfl,rfl,hyB,hld,Ar (by omega),?_⟩
   have n0:∀zs,HB l≠some (.tup zs):=λzs z=>by rw[hyB] at z;cases z
   have tt:=Al.upd (o:=.lst (ys++xs')) n0
   refine⟨ys++xs',_,_,rfl,(sj.trans t2).Bm Ag.upd fl,Ab,?_⟩
   rw[Ey,ej,<-Qbl]
   exact Paired.app (Paired.Av pj λ_ _ z=>(z.tups (Al.of t2)).tups tt) (Paired.Av pdd λ_ _ z=>z.tups tt)
  ·obtain⟨ys,u4,u5,rfl,sj,hyj,pj⟩:=h
   exact⟨ys,_,_,_,_,rfl,sj,hyj,by rw[Ey,ek,<-lws];exact pj⟩
 ·obtain⟨ys,u2,u3,u4,u5,rfl,sm,hy,py⟩:=h
  rw[lvs] at py
  exact⟨_,rfl,q l ys HH fl hy py sm⟩
theorem ZR (c:Code K mg "stretches" Kz Ij) (T:Tx K mg op oe):Good P w K mg base "stretches" 1 Ij tG:=by
 refine c.good Eb (λvs H Q E h=>?_) (λf cdv A outer s H vs Q E hr h=>?_)
 ·obtain⟨pl,loops,rfl,_⟩:=h
  rfl
 obtain⟨pl,loops,rfl,⟨v0,v2,Ls,vs,hpl,hLs,hlo⟩,ok,q⟩:=h
 refine⟨_,(Af (Ba (i:=1) Eb.nd rfl (Or.inl rfl) (BZ Ac))
 (Af (Cj QbE rfl (Uh rfl T.enumerate (Bh Bu (pv 0) Ad (λ_ _=>rfl))) (Cv rfl (Ak (Ah (i:=2) Eb.nd rfl (Or.inr rfl)) (Ak (Ah (i:=3) Eb.nd rfl (Or.inl rfl)) Bp)))
 (Af (Bs (CK Qap Qal Qam Cy (pv 1) (Aa (Bd (Aa (pv 2) (Aa Ad (Aa Ad Ac)))) Ac)))
 (Ai (Cj QbE rfl (Nj rfl T.enumerate (pv 3) Ad) (Cv rfl (Ak (Ah (i:=4) Eb.nd rfl (Or.inr rfl)) (Ak (Cv rfl (Ak (Ah (i:=5) Eb.nd rfl (Or.inl rfl)) (Ak (Ah (i:=6) Eb.nd rfl (Or.inl rfl)) (Ak (Ah (i:=7) Eb.nd rfl (Or.inl rfl)) Bp)))) Bp)))
 (Ai (Bs (CK Qap Qan Qao Ew (pv 1) (Aa (Cg (N':=["number","loop","at"]) rfl (Bg.of (src:=[none,some 2,some 4]) (Aj Kz) ["plan","told","loop","places","at","kind","address","spur"] rfl rfl rfl (by trivial) (by trivial) (by trivial) rfl (by trivial)) (DG rfl T.range (Aa (Bc Ca (Az Bl rfl T.len Cz (Aa (pv 7) Ac)) Ad) Ac)) (λ_ _ _ _=>(Ah (i:=0) (show List.Nodup (["number","loop","at"]:YF) by trivial) rfl (Or.inl rfl))) (λ_ _ _ _=>CQ) (λ_ _ _ _=>(Bd (Aa (pv 1) (Aa (pv 2) (Aa (pv 0) Ac)))))) Ac))))))))
 (Ai (Ay (pv 1))))),?_⟩
 show let R0:TS:=_;let R1:TS:=DQ _ _ R0;let R2:TS:=Ao _ R1;let R3:TS:=Ao (DQ _ _ R2) _;Ao _ R3 _ _ _
 intro R0 R1 R2 R3
 generalize hst:L2.start _ _=σ0
 have e0:σ0=[some (.ref pl),none,none,none,none,none,none,none]:=hst.symm
 clear hst
 subst e0
 refine⟨Ar (by show 0<=1000;decide),λl fl=>?_⟩
 simp only[QaV,QaU]
 have s1:=Ae fl (.lst [])
 have lvs:=QbW hlo
 refine⟨_,rfl,pl,_,_,_,rfl,rfl,SqT.of (s1 _ _ hpl),rfl,Ls,rfl,⟨vs,SqT.of (s1 _ _ hLs)⟩,?_⟩
 let J2:YN:=λi σ HH=>∃(ys:YG) (u2 u3 u4 u5 u6 u7:Option V),σ=[some (.ref pl),some (.ref l),u2,u3,u4,u5,u6,u7]/\Same H HH/\HH l=some (.lst ys)/\Paired (BX HH) ys (up (stL loops) i)
 refine Jl (xs:=vs) (lo:=0) J2 ⟨[],_,_,_,_,_,_,rfl,s1,Ab,.nil⟩ (λi σ HH _ h=>?_) (λi x pt σ HH hx h hpt=>?_) (fun σ HH h=>?_)
 ·obtain⟨ys,_,_,_,_,_,_,_,sm,_⟩:=h
  exact SqT.of (sm _ _ hLs)
 ·obtain⟨ys,u2,u3,u4,u5,u6,u7,rfl,sm,hy,py⟩:=h
  obtain⟨ps,hps,hL⟩:=Paired.Ce hlo hx
  obtain⟨t,ws,rfl,ht,hws⟩:=id hL
  have okl:=ok.ok ps (QaF hps)
  have ek:stL loops i=⟨i,0,0⟩::up (st1 i ps) ps.length:=Cw hps
  have lws:=QbW hws
  have t0:=Ae hpt (.tup [.int ((0+i:Nat):Int),.ref t])
  refine⟨pt,_,rfl,SqT.of Ab,rfl,_,_,rfl,_,_,rfl,rfl,?_⟩
  have sm0:=sm.trans t0
  have hy0:=t0 _ _ hy
  have py0:=Paired.Av py λ_ _ (z:BX HH _ _)=>z.tups (Al.of t0)
  generalize upd HH pt (.tup [.int ((0+i:Nat):Int),.ref t])=HA at sm0 hy0 py0
  simp only[QaV,QaU,Nat.zero_add]
  have hil:=(Qag.mp hps).1
  have lu:=Ez (dh ok) i
  have hhi:=ok.hi
  have ly0:=QbW py0
  refine⟨_,rfl,.inl ⟨rfl,_,SqL.of hy0⟩,_,rfl,Ar (by show 3<=1000;decide),λtz htz=>?_⟩
  have t3:=Ae htz (.tup [.int (i:Int),.int 0,.int 0])
  refine⟨l,_,_,rfl,rfl,t3 _ _ hy0,Aq (by omega),?_⟩
  have n0:∀zs,(upd HA tz (.tup [.int (i:Int),.int 0,.int 0])) l≠some (.tup zs):=λzs z=>by rw[t3 _ _ hy0] at z;cases z
  have tt:=Al.upd (o:=.lst (ys++[.ref tz])) n0
  have sm1:Same H (upd (upd HA tz (.tup [.int (i:Int),.int 0,.int 0])) l (.lst (ys++[.ref tz]))):=(sm0.trans t3).Bm Ag.upd fl
  have py1:Paired (BX _) (ys++[.ref tz]) (up (stL loops) i++[⟨(i:Int),0,0⟩]):=Qcp ⟨tz,rfl,tt _ _ Ab⟩ (Paired.Av py0 λ_ _ z=>(z.tups (Al.of t3)).tups tt)
  have hy1:(upd (upd HA tz (.tup [.int (i:Int),.int 0,.int 0])) l (.lst (ys++[.ref tz]))) l=some (.lst (ys++[.ref tz])):=Ab
  generalize upd (upd HA tz (.tup [.int (i:Int),.int 0,.int 0])) l (.lst (ys++[.ref tz]))=HB at sm1 py1 hy1
  generalize ys++[.ref tz]=ys1 at py1 hy1
  refine⟨_,rfl,t,rfl,⟨ws,SqT.of (sm1 _ _ ht)⟩,?_⟩
  let J3:YN:=λj σ HJ=>∃(ys:YG) (u4 u5 u6 u7:Option V),σ=[some (.ref pl),some (.ref l),some (.int (i:Int)),some (.ref t),u4,u5,u6,u7]/\Same H HJ/\HJ l=some (.lst ys)/\Paired (BX HJ) ys (up (stL loops) i++⟨(i:Int),0,0⟩::up (st1 i ps) j)
  refine Jl (xs:=ws) (lo:=1) J3 ⟨ys1,_,_,_,_,rfl,sm1,hy1,by rw[O8];exact py1⟩ (λj σ HJ _ h=>?_) (λj x pt σ HJ hx h hpt=>?_) (fun σ HJ h=>?_)
  ·obtain⟨ys,_,_,_,_,_,sj,_⟩:=h
   exact SqT.of (sj _ _ ht)
  ·obtain⟨ys,u4,u5,u6,u7,rfl,sj,hyj,pj⟩:=h
   obtain⟨p,hp,hP⟩:=Paired.Ce hws hx
   have okp:=okl.ok p (QaF hp)
   have ej:st1 i ps j=(List.range (p.spur.length+1)).map λn:Nat=>⟨(i:Int),((1+j:Nat):Int),(n:Int)⟩:=Cw hp
   have t1:=Ae hpt (.tup [.int ((1+j:Nat):Int),x])
   obtain⟨tp,ua,wp',rfl,hp1,hp2,hp3⟩:=hP.tups (Al.of (sj.trans t1))
   refine⟨pt,_,rfl,SqT.of Ab,rfl,_,_,rfl,_,_,rfl,tp,_,rfl,SqT.of hp1,rfl,_,_,rfl,_,_,rfl,_,_,rfl,rfl,rfl,?_⟩
   simp only[QaV,QaU]
   have hjl:=(Qag.mp hp).1
   have lj:=Ez (Wd (lp:=i) okl.ok) j
   have lys:=QbW pj
   rw[QaS,Qbt] at lys
   have h12:=okl.hi
   have lwp:=QbW hp3
   have hsp:=okp.spur
   refine⟨_,rfl,.inl ⟨rfl,_,SqL.of (t1 _ _ hyj)⟩,_,rfl,ua,_,rfl,.inr (SqT.of hp2),_,_,rfl,rfl,_,rfl,by omega,by omega,λl2 hl2=>?_⟩
   rw[show ((wp'.length:Int)+1).toNat=p.spur.length+1 by omega]
   have sjt:=sj.trans t1
   have hyt:=t1 _ _ hyj
   have pjt:=Paired.Av pj λ_ _ (z:BX HJ _ _)=>z.tups (Al.of t1)
   generalize upd HJ pt (.tup [.int ((1+j:Nat):Int),.ref tp])=HT at sjt hyt pjt hl2
   let J4:YN:=λk σ HC=>∃(u:Option V) (zs:YG),σ=[u,some (.int (i:Int)),some (.int ((1+j:Nat):Int))]/\HC l2=some (.lst zs)/\Same HT HC/\Paired (BX HC) zs ((List.range k).map λn:Nat=>⟨(i:Int),((1+j:Nat):Int),(n:Int)⟩)
   refine JX J4 ⟨none,[],rfl,Ab,Ae hl2 _,.nil⟩ (λk σ HC hk h=>?_) (fun σ HC h=>?_)
   ·obtain⟨u,zs,rfl,c1,c2,c3⟩:=h
    refine⟨_,rfl,_,rfl,_,rfl,Ar (by show 3<=1000;decide),λtq htq=>?_⟩
    have s3:=Ae htq (.tup [.int (i:Int),.int ((1+j:Nat):Int),.int (0+(k:Int))])
    have c1':=s3 _ _ c1
    have lz:=QbW c3
    rw[QbB,Qbq] at lz
    have n1:∀zs',(upd HC tq (.tup [.int (i:Int),.int ((1+j:Nat):Int),.int (0+(k:Int))])) l2≠some (.tup zs'):=λzs' z=>by rw[c1'] at z;cases z
    have t4:=Al.upd (o:=.lst (zs++[.ref tq])) n1
    refine⟨_,c1',Aq (by omega),_,zs++[.ref tq],rfl,Ab,(c2.trans s3).Bm Ag.upd hl2,?_⟩
    rw[List.range_succ,QbD]
    refine Qcp ⟨tq,rfl,?_⟩ (Paired.Av c3 λ_ _ z=>(z.tups (Al.of s3)).tups t4)
    refine t4 _ _ ?_
    rw[Ab,Int.zero_add]
   obtain⟨u,zs,rfl,c1,c2,c3⟩:=h
   have lz:=QbW c3
   rw[QbB,Qbq] at lz
   have hyC:=c2 _ _ hyt
   refine⟨l,l2,_,_,rfl,rfl,hyC,c1,Ar (by omega),?_⟩
   have n2:∀zs',HC l≠some (.tup zs'):=λzs' z=>by rw[hyC] at z;cases z
   have t5:=Al.upd (o:=.lst (ys++zs)) n2
   refine⟨ys++zs,_,_,_,_,rfl,(sjt.trans c2).Bm Ag.upd fl,Ab,?_⟩
   rw[Ey,ej,show ∀(a:YV) (x:Sp3) (b c:YV),a++x::(b++c)=(a++x::b)++c from λa x b c=>by simp]
   exact Paired.app (Paired.Av pjt λ_ _ z=>(z.tups (Al.of c2)).tups t5) (Paired.Av c3 λ_ _ z=>z.tups t5)
  ·obtain⟨ys,u4,u5,u6,u7,rfl,sj,hyj,pj⟩:=h
   exact⟨ys,_,_,_,_,_,_,rfl,sj,hyj,by rw[Ey,ek,<-lws];exact pj⟩
 ·obtain⟨ys,u2,u3,u4,u5,u6,u7,rfl,sm,hy,py⟩:=h
  rw[lvs] at py
  exact⟨_,rfl,q l ys HH fl hy py sm⟩
theorem gY (c:Code K mg "openers" NZ K1) (T:Tx K mg op oe):Good P w K mg base "openers" 1 K1 tK:=by
 refine c.good Mh (λvs H Q E h=>?_) (λf cdv A outer s H vs Q E hr h=>?_)
 ·obtain⟨pl,loops,rfl,_⟩:=h
  rfl
 obtain⟨pl,loops,rfl,⟨v0,v2,Ls,vs,hpl,hLs,hlo⟩,ok,q⟩:=h
 refine⟨_,(Af (Ba (i:=1) Mh.nd rfl (Or.inl rfl) (BZ Ac))
 (Af (Cj QbE rfl (Uh rfl T.enumerate (Bh Bu (pv 0) Ad (λ_ _=>rfl))) (Cv rfl (Ak (Ah (i:=2) Mh.nd rfl (Or.inr rfl)) (Ak (Ah (i:=3) Mh.nd rfl (Or.inl rfl)) Bp)))
 (Af (Bs (CK Qap Qal Qam Cy (pv 1) (Aa (Bd (Aa (pv 2) (Aa Ad Ac))) Ac)))
 (Af (Bs (CK Qap Qan Qao Ew (pv 1) (Aa (Cg (N':=["at","place","loop"]) rfl (Bg.of (src:=[none,none,some 2]) (Aj NZ) ["plan","told","loop","places"] rfl rfl rfl (by trivial) (by trivial) (by trivial) rfl (by trivial)) (Nj rfl T.enumerate (pv 3) Ad) (λ_ _ _ _=>(Fp (K:=K) (n:=2) rfl rfl (Ak (Ah (i:=0) (show List.Nodup (["at","place","loop"]:YF) by trivial) rfl (Or.inl rfl)) (Ak (Ah (i:=1) (show List.Nodup (["at","place","loop"]:YF) by trivial) rfl (Or.inl rfl)) Bp)))) (λ_ _ _ _=>(Gm (Bj (j9 (K:=K) rfl hr.units) (pv 1) (Ro rfl T.OPENER) (Br _)))) (λ_ _ _ _=>(Bd (Aa (pv 2) (Aa (pv 0) Ac))))) Ac)))
 (Ai (Bs (CK Qap Qal Qam Cy (pv 1) (Aa (Bd (Aa (pv 2) (Aa (Bc Ca (Az Bl rfl T.len Cz (Aa (pv 3) Ac)) Ad) Ac))) Ac)))))))
 (Ai (Ay (pv 1))))),?_⟩
 show let R0:TS:=_;let R1:TS:=Ao _ R0;let R2:TS:=Ao _ R1;let R3:TS:=Ao (DQ _ _ R2) _;Ao _ R3 _ _ _
 intro R0 R1 R2 R3
 generalize hst:L2.start _ _=σ0
 have e0:σ0=[some (.ref pl),none,none,none]:=hst.symm
 clear hst
 subst e0
 refine⟨Ar (by show 0<=1000;decide),λl fl=>?_⟩
 simp only[QaV,QaU]
 have s1:=Ae fl (.lst [])
 have lvs:=QbW hlo
 refine⟨_,rfl,pl,_,_,_,rfl,rfl,SqT.of (s1 _ _ hpl),rfl,Ls,rfl,⟨vs,SqT.of (s1 _ _ hLs)⟩,?_⟩
 let J5:YN:=λi σ HH=>∃(ys:YG) (u2 u3:Option V),σ=[some (.ref pl),some (.ref l),u2,u3]/\Same H HH/\HH l=some (.lst ys)/\Paired (Eh HH) ys (up (gtL loops) i)
 refine Jl (xs:=vs) (lo:=0) J5 ⟨[],_,_,rfl,s1,Ab,.nil⟩ (λi σ HH _ h=>?_) (λi x pt σ HH hx h hpt=>?_) (fun σ HH h=>?_)
 ·obtain⟨ys,_,_,_,sm,_⟩:=h
  exact SqT.of (sm _ _ hLs)
 ·obtain⟨ys,u2,u3,rfl,sm,hy,py⟩:=h
  obtain⟨ps,hps,hL⟩:=Paired.Ce hlo hx
  obtain⟨t,ws,rfl,ht,hws⟩:=id hL
  have okl:=ok.ok ps (QaF hps)
  have ek:gtL loops i=(⟨i,0⟩::up (gt1 i ps) ps.length)++[⟨(i:Int),(ps.length:Int)+1⟩]:=Cw hps
  have lws:=QbW hws
  have t0:=Ae hpt (.tup [.int ((0+i:Nat):Int),.ref t])
  refine⟨pt,_,rfl,SqT.of Ab,rfl,_,_,rfl,_,_,rfl,rfl,?_⟩
  have sm0:=sm.trans t0
  have hy0:=t0 _ _ hy
  have py0:=Paired.Av py λ_ _ (z:Eh HH _ _)=>z.tups (Al.of t0)
  generalize upd HH pt (.tup [.int ((0+i:Nat):Int),.ref t])=HA at sm0 hy0 py0
  simp only[QaV,QaU,Nat.zero_add]
  have hil:=(Qag.mp hps).1
  have lu:=Ez (eV ok) i
  have hhi:=ok.hi
  have ly0:=QbW py0
  refine⟨_,rfl,.inl ⟨rfl,_,SqL.of hy0⟩,_,rfl,Ar (by show 2<=1000;decide),λtz htz=>?_⟩
  have t3:=Ae htz (.tup [.int (i:Int),.int 0])
  refine⟨l,_,_,rfl,rfl,t3 _ _ hy0,Aq (by omega),?_⟩
  have n0:∀zs,(upd HA tz (.tup [.int (i:Int),.int 0])) l≠some (.tup zs):=λzs z=>by rw[t3 _ _ hy0] at z;cases z
  have tt:=Al.upd (o:=.lst (ys++[.ref tz])) n0
  have sm1:Same H (upd (upd HA tz (.tup [.int (i:Int),.int 0])) l (.lst (ys++[.ref tz]))):=(sm0.trans t3).Bm Ag.upd fl
  have py1:Paired (Eh _) (ys++[.ref tz]) (up (gtL loops) i++[⟨(i:Int),0⟩]):=Qcp ⟨tz,rfl,tt _ _ Ab⟩ (Paired.Av py0 λ_ _ z=>(z.tups (Al.of t3)).tups tt)
  have hy1:(upd (upd HA tz (.tup [.int (i:Int),.int 0])) l (.lst (ys++[.ref tz]))) l=some (.lst (ys++[.ref tz])):=Ab
  generalize upd (upd HA tz (.tup [.int (i:Int),.int 0])) l (.lst (ys++[.ref tz]))=HB at sm1 py1 hy1
  generalize ys++[.ref tz]=ys1 at py1 hy1
  have ly1:=QbW py1
  rw[QaS] at ly1
  have ly1:ys1.length<=14*i+1:=by rw[ly1];show _+1<=_;omega
  refine⟨_,rfl,.inl ⟨rfl,_,SqL.of hy1⟩,_,rfl,t,rfl,⟨ws,SqT.of (sm1 _ _ ht)⟩,λl2 hl2=>?_⟩
  let J6:YN:=λk σ HC=>∃(u v:Option V) (zs:YG),σ=[u,v,some (.int (i:Int))]/\HC l2=some (.lst zs)/\Same HB HC/\Paired (Eh HC) zs (up (gt1 i ps) k)
  refine nF (xs:=ws) (lo:=1) J6 ⟨none,none,[],rfl,Ab,Ae hl2 _,.nil⟩ (λk σ HC _ h=>?_) (λk x pt σ HC hx h hpt=>?_) (fun σ HC h=>?_)
  ·obtain⟨_,_,zs,_,_,sc,_⟩:=h
   exact SqT.of (sc _ _ (sm1 _ _ ht))
  ·obtain⟨u,v,zs,rfl,c1,c2,c3⟩:=h
   obtain⟨p,hp,hP⟩:=Paired.Ce hws hx
   have okp:=okl.ok p (QaF hp)
   have ej:gt1 i ps k=if V.str p.kind=V.str "opener" then [⟨(i:Int),((1+k:Nat):Int)⟩] else []:=Cw hp
   have hkl:=(Qag.mp hp).1
   have h12:=okl.hi
   have lk:=Ez (Xa (lp:=i) (ps:=ps)) k
   have lz:=QbW c3
   have t1:=Ae hpt (.tup [.int ((1+k:Nat):Int),x])
   have hpa:=hP.tups (Al.of ((sm1.trans c2).trans t1))
   refine⟨pt,_,rfl,SqT.of Ab,rfl,_,_,rfl,_,_,rfl,rfl,?_⟩
   refine⟨_,rfl,Nh p,opD,hpa.rep,.tup (T.opT _) (.cons (.str _) (.cons (.int _) (.cons (.tup (T.opE _) .nil) .nil))),Rn okp,(by trivial),_,rfl,?_⟩
   rw[Xv okp]
   by_cases ck:V.str p.kind=V.str "opener"
   ·rw[QbR ck]
    rw[if_pos ck] at ej
    refine Cp ⟨_,rfl,_,rfl,Ar (by show 2<=1000;decide),λtq htq=>?_⟩
    have s3:=Ae htq (.tup [.int (i:Int),.int ((1+k:Nat):Int)])
    have t13:=t1.trans s3
    have c1':=t13 _ _ c1
    have n1:∀zs',(upd (upd HC pt (.tup [.int ((1+k:Nat):Int),x])) tq (.tup [.int (i:Int),.int ((1+k:Nat):Int)])) l2≠some (.tup zs'):=λzs' z=>by rw[c1'] at z;cases z
    have t4:=Al.upd (o:=.lst (zs++[.ref tq])) n1
    refine⟨_,c1',Aq (by omega),_,_,zs++[.ref tq],rfl,Ab,(c2.trans t13).Bm Ag.upd hl2,?_⟩
    rw[Ey,ej]
    exact Qcp ⟨tq,rfl,t4 _ _ Ab⟩ (Paired.Av c3 λ_ _ z=>(z.tups (Al.of t13)).tups t4)
   ·rw[QbF ck]
    rw[if_neg ck] at ej
    refine Cd ⟨_,_,zs,rfl,t1 _ _ c1,c2.trans t1,?_⟩
    rw[Ey,ej,QbG]
    exact Paired.Av c3 λ_ _ z=>z.tups (Al.of t1)
  obtain⟨u,v,zs,rfl,c1,c2,c3⟩:=h
  have lz:=QbW c3
  have lk:=Ez (Xa (lp:=i) (ps:=ps)) ws.length
  have h12:=okl.hi
  have hyC:=c2 _ _ hy1
  refine⟨l,l2,_,_,rfl,rfl,hyC,c1,Ar (by omega),?_⟩
  have n2:∀zs',HC l≠some (.tup zs'):=λzs' z=>by rw[hyC] at z;cases z
  have t5:=Al.upd (o:=.lst (ys1++zs)) n2
  have sm2:Same H (upd HC l (.lst (ys1++zs))):=(sm1.trans c2).Bm Ag.upd fl
  have py2:Paired (Eh _) (ys1++zs) ((up (gtL loops) i++[⟨(i:Int),0⟩])++up (gt1 i ps) ws.length):=Paired.app (Paired.Av py1 λ_ _ z=>(z.tups (Al.of c2)).tups t5) (Paired.Av c3 λ_ _ z=>z.tups t5)
  have hy2:(upd HC l (.lst (ys1++zs))) l=some (.lst (ys1++zs)):=Ab
  have ly2:(ys1++zs).length<=100:=by rw[QaS];omega
  generalize upd HC l (.lst (ys1++zs))=HD at sm2 py2 hy2
  generalize ys1++zs=ys2 at py2 hy2 ly2
  refine⟨_,rfl,.inl ⟨rfl,_,SqL.of hy2⟩,_,rfl,_,rfl,t,_,rfl,.inr (SqT.of (sm2 _ _ ht)),_,_,rfl,rfl,Ar (by show 2<=1000;decide),λte hte=>?_⟩
  have t6:=Ae hte (.tup [.int (i:Int),.int ((ws.length:Int)+1)])
  have hy3:=t6 _ _ hy2
  refine⟨l,_,_,rfl,rfl,hy3,Aq (by omega),?_⟩
  have n3:∀zs',(upd HD te (.tup [.int (i:Int),.int ((ws.length:Int)+1)])) l≠some (.tup zs'):=λzs' z=>by rw[hy3] at z;cases z
  have t7:=Al.upd (o:=.lst (ys2++[.ref te])) n3
  refine⟨ys2++[.ref te],_,_,rfl,(sm2.trans t6).Bm Ag.upd fl,Ab,?_⟩
  rw[Ey,ek,<-lws,show ∀(a:List Gt) (x:Gt) (b c:List Gt),a++(x::b++c)=(a++[x]++b)++c from λa x b c=>by simp]
  exact Qcp ⟨te,rfl,t7 _ _ Ab⟩ (Paired.Av py2 λ_ _ z=>(z.tups (Al.of t6)).tups t7)
 ·obtain⟨ys,u2,u3,rfl,sm,hy,py⟩:=h
  rw[lvs] at py
  exact⟨_,rfl,q l ys HH fl hy py sm⟩
end
abbrev Wn:Stmt:=top 32
abbrev Pj:YF:=["plan","loop"]
theorem PN:Ax ["plan","loop","told","at","place"] Pj (Aj Wn):=⟨rfl,rfl,rfl,by trivial,rfl,by trivial,by trivial⟩
def stP (lp:Int) (ps:List Place):Nat->List (YV)×YV
 | 0=>([],[])
 | i+1=>match ps[i]? with
  | none=>stP lp ps i
  | some p=>if V.str p.kind=V.str "opener" then ((stP lp ps i).1++[(stP lp ps i).2],[]) else ((stP lp ps i).1,(stP lp ps i).2++(BL lp ((1+i:Nat):Int) p).map Sd.spot)
theorem U6 {lp:Int} {ps:List Place} {i:Nat} {p:Place} (h:ps[i]?=some p) (k:V.str p.kind=V.str "opener"):stP lp ps (i+1)=((stP lp ps i).1++[(stP lp ps i).2],[]):=by
 show (match ps[i]? with | none=>stP lp ps i | some p=>if V.str p.kind=V.str "opener" then ((stP lp ps i).1++[(stP lp ps i).2],[]) else ((stP lp ps i).1,(stP lp ps i).2++(BL lp ((1+i:Nat):Int) p).map Sd.spot))=_
 rw[h]
 exact if_pos k
theorem Sh {lp:Int} {ps:List Place} {i:Nat} {p:Place} (h:ps[i]?=some p) (k:¬V.str p.kind=V.str "opener"):stP lp ps (i+1)=((stP lp ps i).1,(stP lp ps i).2++(BL lp ((1+i:Nat):Int) p).map Sd.spot):=by
 show (match ps[i]? with | none=>stP lp ps i | some p=>if V.str p.kind=V.str "opener" then ((stP lp ps i).1++[(stP lp ps i).2],[]) else ((stP lp ps i).1,(stP lp ps i).2++(BL lp ((1+i:Nat):Int) p).map Sd.spot))=_
 rw[h]
 exact if_neg k
theorem Ox {α β : Type} {F G:α->β->Prop}:∀{l₁ : List α} {l₂ : List β},Paired F l₁ l₂->(∀a∈l₁,∀b,F a b->G a b)->Paired G l₁ l₂
 | _,_,.nil,_=>.nil
 | _,_,.cons r t,f=>.cons (f _ QaT _ r) (Ox t λa ha b=>f a (QaG _ ha) b)
theorem Vh {α β : Type} {F:α->β->Prop}:∀{l₁ : List α} {l₂ : List β} {a:α},Paired F l₁ l₂->a∈l₁->∃b,F a b
 | _,_,_,.nil,h=>by cases h
 | _,_,_,.cons r t,h=>by
  rcases QbX.mp h with rfl | h
  ·exact⟨_,r⟩
  ·exact Vh t h
theorem QG {α β : Type} {F:α->β->Prop}:∀{a₁ b₁ : List α} {a₂ b₂ : List β},Paired F a₁ a₂->Paired F b₁ b₂->Paired F (a₁++b₁) (a₂++b₂)
 | _,_,_,_,.nil,t=>t
 | _,_,_,_,.cons r s,t=>.cons r (QG s t)
def Lq (H:Hp) (v:V) (sp:YV):Prop:=∃q ys,v=.ref q/\H q=some (.lst ys)/\Paired (BX H) ys sp
def dH:Sp:=λvs H Q _=>∃(pl Ls t:Addr) (v0 v2:V) (ls ws:YG) (k:Nat) (ps:List Place),vs=[.ref pl,.int (k:Int)]/\H pl=some (.tup [v0,.ref Ls,v2])/\H Ls=some (.tup ls)/\ls[k]?=some (.ref t)/\H t=some (.tup ws)/\Paired (Dl H) ws ps/\(∀p∈ps,OkP p)/\ps.length<=12 /\
 ∀l xs H',H l=none->H' l=some (.lst xs)->Paired (Lq H') xs ((stP k ps ps.length).1++[(stP k ps ps.length).2])->(∀x∈xs,∃q,x=.ref q/\H q=none/\q≠l)->Same H H'->Q (.ref l) H'
section
variable {P:Program} {w:World} {K:YD} {mg:YB} {base:Heap} {op oe:Addr}
theorem qu (c:Code K mg "parts" Wn Pj) (T:Tx K mg op oe) (JV:Good P w K mg base "place_devices" 1 Ej oW):Good P w K mg base "parts" 2 Pj dH:=by
 refine c.good PN (λvs H Q E h=>?_) (λf cdv A outer s H vs Q E hr h=>?_)
 ·obtain⟨pl,Ls,t,v0,v2,ls,ws,k,ps,rfl,_⟩:=h
  rfl
 obtain⟨pl,Ls,t,v0,v2,ls,ws,k,ps,rfl,hpl,hLs,hk,ht,hps,hok,h12,q⟩:=h
 refine⟨_,(Af (Ba (i:=2) PN.nd rfl (Or.inl rfl) (BZ (Aa (BZ Ac) Ac)))
 (Af (Cj QbE rfl (Nj rfl T.enumerate (Bh Bu (Bh Bu (pv 0) Ad (λ_ _=>rfl)) (pv 1) (λ_ _=>rfl)) Ad) (Cv rfl (Ak (Ah (i:=3) PN.nd rfl (Or.inl rfl)) (Ak (Ah (i:=4) PN.nd rfl (Or.inl rfl)) Bp)))
 (Ai (Ci (Bj (j9 (K:=K) rfl hr.units) (pv 4) (Ro rfl T.OPENER) (Br _)) (Ai (Bs (CK Qap Qal Qam Cy (pv 2) (Aa (BZ Ac) Ac)))) (Ai (Bs (CK Qap Qan Qao Ew (Bh DX (pv 2) (Vf QW Ad) (λ_ _=>rfl)) (Aa (Cg (N':=["spot","kind","address"]) rfl (Bg.plain rfl (by trivial) (by trivial) (by trivial)) (Dk (Aw JV hr (Aa (pv 1) (Aa (pv 3) (Aa (pv 4) Ac))))) (λ_ _ _ _=>(Fp (K:=K) (n:=3) rfl rfl (Ak (Ah (i:=0) (show List.Nodup (["spot","kind","address"]:YF) by trivial) rfl (Or.inl rfl)) (Ak (Ah (i:=1) (show List.Nodup (["spot","kind","address"]:YF) by trivial) rfl (Or.inl rfl)) (Ak (Ah (i:=2) (show List.Nodup (["spot","kind","address"]:YF) by trivial) rfl (Or.inl rfl)) Bp))))) (λ_ _ _ _=>CQ) (λ_ _ _ _=>(pv 0))) Ac)))))))
 (Ai (Ay (pv 2))))),?_⟩
 show let R0:TS:=_;let R1:TS:=_;let R2:TS:=Ga _ R0 R1;let R3:TS:=Ao (DQ _ _ R2) _;Ao _ R3 _ _ _
 intro R0 R1 R2 R3
 generalize hst:L2.start _ _=σ0
 have e0:σ0=[some (.ref pl),some (.int (k:Int)),none,none,none]:=hst.symm
 clear hst
 subst e0
 refine⟨(by show 0<=sizeLine;decide),λq0 hq0=>⟨(by show 1<=sizeLine;decide),λl hl=>?_⟩⟩
 have s1:=Ae hq0 (.lst [])
 have s2:=Ae hl (.lst [.ref q0])
 have sm:=s1.trans s2
 have hl0:=s1.free hl
 have el:_=some (HO.lst [.ref q0]):=Ab (H:=upd H q0 (.lst [])) (a:=l) (o:=.lst [.ref q0])
 have eq0:_=some (HO.lst []):=s2 _ _ (Ab (H:=H) (a:=q0) (o:=.lst []))
 have nq:q0≠l:=Bb (Ab (H:=H) (a:=q0) (o:=.lst [])) hl
 generalize hX:upd (upd H q0 (.lst [])) l (.lst [.ref q0])=H1 at sm el eq0
 simp only[QaV,QaU]
 have DU:ws.length=ps.length:=QbW hps
 refine⟨_,rfl,pl,_,_,_,rfl,rfl,SqT.of (sm _ _ hpl),rfl,_,rfl,Ls,_,_,_,rfl,rfl,SqT.of (sm _ _ hLs),Gu hk,t,rfl,⟨ws,SqT.of (sm _ _ ht)⟩,?_⟩
 let J0:YN:=λi σ HH=>∃qs ql u3 u4,σ=[some (.ref pl),some (.int (k:Int)),some (.ref l),u3,u4]/\Same H HH/\HH l=some (.lst (qs++[.ref ql]))/\Paired (Lq HH) qs (stP k ps i).1/\Lq HH (.ref ql) (stP k ps i).2/\(∀x∈qs,∃q,x=.ref q/\H q=none/\q≠l/\q≠ql)/\H ql=none/\ql≠l/\qs.length<=i/\(stP k ps i).2.length<=4*i
 refine Jl (xs:=ws) (lo:=1) J0
  ⟨[],q0,_,_,rfl,sm,el,.nil,⟨q0,[],rfl,eq0,.nil⟩,λx hx=>(by cases hx),hq0,nq,Qcn _,Qcn _⟩ (λi σ HH _ h=>?_) (λi x pt σ HH hx h hpt=>?_) (fun σ HH h=>?_)
 ·obtain⟨qs,ql,_,_,_,sb,_⟩:=h
  exact SqT.of (sb _ _ ht)
 ·obtain⟨qs,ql,u3,u4,rfl,sb,hy,pd,pc,fq,fl,nl,lq,lc⟩:=h
  obtain⟨p,hpi,hpa⟩:=Paired.Ce hps hx
  have okp:=hok p (QaF hpi)
  have hpa:=hpa.tups (Al.of sb)
  have t0:=Ae hpt (.tup [.int ((1+i:Nat):Int),x])
  have qQ:=hpa.tups (Al.of t0)
  have il:i < ps.length:=(Qag.mp hpi).1
  have sb0:=sb.trans t0
  have hy0:=t0 _ _ hy
  have pd0:=Paired.Av pd λ_ _ (z:Lq HH _ _)=>(show Lq (upd HH pt (.tup [.int ((1+i:Nat):Int),x])) _ _ from let ⟨a,ys,e1,e2,e3⟩:=z;⟨a,ys,e1,t0 _ _ e2,Paired.Av e3 λ_ _ y=>y.tups (Al.of t0)⟩)
  have pc0:Lq (upd HH pt (.tup [.int ((1+i:Nat):Int),x])) (.ref ql) (stP k ps i).2:=let ⟨a,ys,e1,e2,e3⟩:=pc;⟨a,ys,e1,t0 _ _ e2,Paired.Av e3 λ_ _ y=>y.tups (Al.of t0)⟩
  refine⟨pt,_,rfl,SqT.of Ab,rfl,_,_,rfl,_,_,rfl,rfl,?_⟩
  generalize upd HH pt (.tup [.int ((1+i:Nat):Int),x])=HA at qQ sb0 hy0 pd0 pc0
  simp only[QaV,QaU]
  refine⟨_,rfl,Nh p,opD,qQ.rep,.tup (T.opT HA) (.cons (.str _) (.cons (.int _) (.cons (.tup (T.opE HA) .nil) .nil))),Rn okp,(by trivial),_,rfl,?_⟩
  rw[Xv okp]
  by_cases ck:V.str p.kind=V.str "opener"
  ·rw[QbR ck]
   refine Cp ⟨_,rfl,.inl ⟨rfl,_,SqL.of hy0⟩,(by show 0<=sizeLine;decide),λqn hqn=>?_⟩
   have t1:=Ae hqn (.lst [])
   refine⟨l,_,_,rfl,rfl,t1 _ _ hy0,Aq (by rw[QaS];simp only[QaC];omega),?_⟩
   have nln:l≠qn:=Bb hy0 hqn
   have sS:Ag l HA (upd (upd HA qn (.lst [])) l (.lst (qs++[.ref ql]++[.ref qn]))):=(Ag.of t1).trans Ag.upd
   have eqn:(upd (upd HA qn (.lst [])) l (.lst (qs++[.ref ql]++[.ref qn]))) qn=some (.lst []):=by rw[Am nln.symm,Ab]
   have ell:(upd (upd HA qn (.lst [])) l (.lst (qs++[.ref ql]++[.ref qn]))) l=some (.lst (qs++[.ref ql]++[.ref qn])):=Ab
   have nlt:∀zs,HA l≠some (.tup zs):=λzs z=>by rw[hy0] at z;cases z
   generalize upd (upd HA qn (.lst [])) l (.lst (qs++[.ref ql]++[.ref qn]))=HB at sS eqn ell
   have keep:∀v sp,Lq HA v sp->v≠.ref l->Lq HB v sp:=λv sp z n=>by
    obtain⟨a,ys,e1,e2,e3⟩:=z
    exact⟨a,ys,e1,sS _ _ e2 (λw=>n (by rw[e1,w])),Paired.Av e3 λ_ _ y=>y.tups (sS.tup nlt)⟩
   have fqn:=sb0.free hqn
   refine⟨qs++[.ref ql],qn,_,_,rfl,sb0.Bm sS hl0,ell,?_,⟨qn,[],rfl,eqn,?_⟩,λy hy'=>?_,fqn,nln.symm,by rw[QaS];simp only[QaC];omega,?_⟩
   ·rw[U6 hpi ck]
    refine Qcp (keep _ _ pc0 λz=>nl (by injection z)) ?_
    exact Ox pd0 λy hy' sp z=>keep _ _ z λw=>by
     obtain⟨a,e,_,n,_⟩:=fq y hy'
     rw[e] at w
     injection w with w
     exact n w
   ·rw[U6 hpi ck];exact .nil
   ·rcases QbC.mp hy' with z | z
    ·obtain⟨a,e,f1,n1,n2⟩:=fq y z
     have hm:y∈qs:=z
     refine⟨a,e,f1,n1,λw=>?_⟩
     obtain⟨sp,E4⟩:=Vh pd0 hm
     obtain⟨a',ys,e1,e2,_⟩:=E4
     rw[e] at e1
     injection e1 with e1
     rw[<-e1,w,hqn] at e2
     cases e2
    ·have hz:y=.ref ql:=by simpa using z
     refine⟨ql,hz,fl,nl,λw=>?_⟩
     obtain⟨a',ys,e1,e2,_⟩:=pc0
     injection e1 with e1
     rw[<-e1,w,hqn] at e2
     cases e2
   ·rw[U6 hpi ck];exact Qco _
  ·rw[QbF ck]
   obtain⟨a,yc,ea,eyc,pcs⟩:=id pc0
   injection ea with ea
   subst ea
   refine Cd ⟨_,rfl,_,rfl,l,_,_,_,rfl,rfl,SqL.of hy0,bG qs (.ref ql),.inl ⟨rfl,_,SqL.of eyc⟩,?_⟩
   refine⟨_,rfl,_,rfl,_,rfl,(k:Int),((1+i:Nat):Int),x,p,rfl,qQ,okp.spur,λld xs' HB fld hld pdd sB=>⟨ld,rfl,⟨xs',SqL.of hld⟩,λl2 hl2=>?_⟩⟩
   have lsd:(BL k ((1+i:Nat):Int) p).length<=4:=by
    unfold BL
    rw[if_neg ck,Qbt,Mg]
    have:=okp.spur
    omega
   have lx:xs'.length<=4:=by rw[QbW pdd];exact lsd
   let J1:YN:=λj σ HH2=>∃u v w ys,σ=[u,v,w]/\HH2=upd HB l2 (.lst ys)/\ys.length<=j/\Paired (BX HB) ys (((BL k ((1+i:Nat):Int) p).take j).map Sd.spot)
   refine FQ (xs:=xs') J1 ⟨none,none,none,[],rfl,rfl,Qcn _,.nil⟩ (λj σ HH2 _ h=>?_) (λj y σ HH2 hyj h=>?_) (fun σ HH2 h=>?_)
   ·obtain⟨u,v,w,ys,rfl,rfl,_⟩:=h
    exact SqL.of (Ae hl2 _ _ _ hld)
   ·obtain⟨u,v,w,ys,rfl,rfl,lys,pys⟩:=h
    obtain⟨d,hdj,td,ud,rfl,e1,e2⟩:=Paired.Ce pdd hyj
    have jl:=(Qag.mp hyj).1
    refine⟨td,_,rfl,SqT.of (Ae hl2 _ _ _ e1),rfl,_,_,rfl,_,_,rfl,_,_,rfl,rfl,_,rfl,ys,Ab,Aq (by omega),_,_,_,ys++[.ref ud],rfl,Sg,by rw[QaS];simp only[QaC];omega,?_⟩
    rw[List.take_succ,hdj,QbD]
    exact Qcp ⟨ud,rfl,e2⟩ pys
   ·obtain⟨u,v,w,ys,rfl,rfl,lys,pys⟩:=h
    rw[QbW pdd,Qbs] at pys
    have t2:=Ae hl2 (.lst ys)
    have s02:=sB.trans t2
    have nq2:ql≠l2:=Bb (sB _ _ eyc) hl2
    have lyc:yc.length<=4*i:=by rw[QbW pcs];exact lc
    refine⟨ql,l2,_,_,rfl,rfl,s02 _ _ eyc,Ab,Ar (by omega),?_⟩
    have sS:Ag ql HA (upd (upd HB l2 (.lst ys)) ql (.lst (yc++ys))):=(Ag.of s02).trans Ag.upd
    have eql:(upd (upd HB l2 (.lst ys)) ql (.lst (yc++ys))) ql=some (.lst (yc++ys)):=Ab
    have nqt:∀zs,(upd HB l2 (.lst ys)) ql≠some (.tup zs):=λzs z=>by rw[s02 _ _ eyc] at z;cases z
    have tE:Al HB (upd (upd HB l2 (.lst ys)) ql (.lst (yc++ys))):=(Al.of t2).trans (Al.upd nqt)
    have nqa:∀zs,HA ql≠some (.tup zs):=λzs z=>by rw[eyc] at z;cases z
    generalize upd (upd HB l2 (.lst ys)) ql (.lst (yc++ys))=HC at sS eql tE
    refine⟨qs,ql,_,_,rfl,sb0.Bm sS fl,sS _ _ hy0 nl.symm,?_,⟨ql,yc++ys,rfl,eql,?_⟩,fq,fl,nl,by omega,?_⟩
    ·rw[Sh hpi ck]
     exact Ox pd0 λy hy' sp z=>by
      obtain⟨a',ys',e1,e2,e3⟩:=z
      obtain⟨b',f1,_,_,f4⟩:=fq y hy'
      refine⟨a',ys',e1,sS _ _ e2 (λw=>f4 ?_),Paired.Av e3 λ_ _ y=>y.tups (sS.tup nqa)⟩
      rw[e1] at f1
      injection f1 with f1
      rw[<-f1,w]
    ·rw[Sh hpi ck]
     exact QG (Paired.Av pcs λ_ _ y=>y.tups (sS.tup nqa)) (Paired.Av pys λ_ _ y=>y.tups tE)
    ·rw[Sh hpi ck,QaS,QbB]
     omega
 ·obtain⟨qs,ql,u3,u4,rfl,sb,hy,pd,pc,fq,fl,nl,_⟩:=h
  rw[DU] at pd pc
  refine⟨_,rfl,q l _ HH hl0 hy (Qcp pc pd) (λx hx=>?_) sb⟩
  rcases QbC.mp hx with z | z
  ·obtain⟨a,e,n,m,_⟩:=fq x z
   exact⟨a,e,n,m⟩
  ·have:x=.ref ql:=by simpa using z
   exact⟨ql,this,fl,nl⟩
end
abbrev Mj:Stmt:=top 8
abbrev Fz:YF:=["thing"]
theorem bN:Ax ["thing"] Fz (Aj Mj):=⟨rfl,rfl,rfl,by trivial,rfl,by trivial,by trivial⟩
abbrev Oi:Stmt:=top 9
abbrev Eu:YF:=["thing","low","high"]
theorem Zh:Ax ["thing","low","high"] Eu (Aj Oi):=⟨rfl,rfl,rfl,by trivial,rfl,by trivial,by trivial⟩
abbrev Ud:Stmt:=top 10
abbrev Dt:YF:=["thing","least","most"]
theorem jQ:Ax ["thing","least","most"] Dt (Aj Ud):=⟨rfl,rfl,rfl,by trivial,rfl,by trivial,by trivial⟩
abbrev M7:Stmt:=top 11
abbrev Gp:YF:=["thing","many"]
theorem Yc:Ax ["thing","many"] Gp (Aj M7):=⟨rfl,rfl,rfl,by trivial,rfl,by trivial,by trivial⟩
theorem Fg {b:Bool} {A B:Prop} (h1:b=true->A) (h2:b=false->B):if b=true then A else B:=by
 cases b with
 | true=>exact Cp (h1 rfl)
 | false=>exact Cd (h2 rfl)
theorem qW {i:Nat} {v:V} {σ : St} {H:Hp} {Q:YO} (h:Q (σ.set i (some v)) H):Fl i v σ H Q:=h
theorem Hi {I R:TS} {D:Ends} {σ : St} {H:Hp} (P:YO) (hR:∀ σ' H',P σ' H'->R D σ' H') (hI:∀D':Ends,(∀ σ' H',P σ' H'->D'.nx σ' H')->I D' σ H):Ao I R D σ H:=hI { D with nx:=fun σ H=>R D σ H } hR
def iv (xs:List Int):YG:=xs.map V.int
def spW:Sp:=λvs H Q _=>∃i:Int,vs=[.int i]/\Q (.bl true) H
def M4:Sp:=λvs H Q _=>∃x lo hi:Int,vs=[.int x,.int lo,.int hi]/\Q (.bl (decide (lo<=x/\x<=hi))) H
def xR:Sp:=λvs H Q _=>∃v,vs=[v]/\Kn H v/\Q (.bl (isW v)) H
def Ue (o:Option (YG)) (a b:Int):Bool:=match o with
 | some xs=>decide (a<=xs.length)&&decide ((xs.length:Int)<=b)
 | none=>false
def Hg:Sp:=λvs H Q _=>∃v a b,vs=[v,.int a,.int b]/\Kn H v/\Q (.bl (Ue (Jz H v) a b)) H
structure Th (H:Hp) (v:V):Prop where
 kn:Kn H v
 parts:∀xs,Jz H v=some xs->xs.length<=100/\∀y∈xs,Kn H y
def RZ (o:Option (YG)) (n:Int):Bool:=match o with
 | some xs=>Ue (some xs) n n&&xs.all isW
 | none=>false
theorem QS {xs:YG} {n:Int}:RZ (some xs) n=(Ue (some xs) n n&&xs.all isW):=rfl
def Q0:Sp:=λvs H Q _=>∃v n,vs=[v,.int n]/\Th H v/\∀H',Same H H'->Q (.bl (RZ (Jz H v) n)) H'
theorem vY {P:Program} {w:World} {K:YD} {mg:YB} {base:Heap} {x:Str} {k:Nat} {ps:YF} {sp sp':Sp} (g:Good P w K mg base x k ps sp) (h:∀vs H Q E,sp' vs H Q E->sp vs H Q E):Good P w K mg base x k ps sp':=⟨let ⟨f,fd,a,b,c,F⟩:=g.ex;⟨f,fd,a,b,c,F.imp h⟩⟩
section
variable {P:Program} {w:World} {K:YD} {mg:YB} {base:Heap}
theorem Ru (c:Code K mg "is_whole" Mj Fz) (T:Nm mg):Good P w K mg base "is_whole" 1 Fz xR:=by
 refine c.good bN (λvs H Q E h=>?_) (λf cdv A outer s H vs Q E hr h=>?_)
 ·obtain⟨v,rfl,_⟩:=h
  rfl
 obtain⟨v,rfl,k,q⟩:=h
 refine⟨_,(Ai (Ay (En (Az QB rfl T.isinstance Ja (Aa (pv 0) (Aa (SJ (v:=.ty "int") rfl T.int nQ rfl) Ac))) (Ed (yp (Az QB rfl T.isinstance Ja (Aa (pv 0) (Aa (SJ (v:=.ty "bool") rfl T.bool wA rfl) Ac)))))))),?_⟩
 refine⟨_,rfl,vR k ⟨_,rfl,?_⟩⟩
 rw[yX] at q
 cases e:isI v with
 | false=>rw[e] at q;exact Cd q
 | true=>rw[e] at q;exact Cp ⟨_,rfl,qP e ⟨_,rfl,q⟩⟩
theorem bT (c:Code K mg "is_whole" Mj Fz) (T:Nm mg):Good P w K mg base "is_whole" 1 Fz spW:=vY (Ru c T) λvs H Q E h=>let ⟨i,e,q⟩:=h;⟨.int i,e,True.intro,q⟩
theorem ZS (c:Code K mg "is_within" Oi Eu) (T:Nm mg) (Qt:Good P w K mg base "is_whole" 1 Fz spW):Good P w K mg base "is_within" 2 Eu M4:=by
 refine c.good Zh (λvs H Q E h=>?_) (λf cdv A outer s H vs Q E hr h=>?_)
 ·obtain⟨x,lo,hi,rfl,_⟩:=h
  rfl
 obtain⟨x,lo,hi,rfl,q⟩:=h
 refine⟨_,(Ai (Ay (En (Aw Qt hr (Aa (pv 0) Ac)) (Ed (Qd Mp Mp (pv 1) (pv 0) (pv 2)))))),?_⟩
 refine⟨_,rfl,x,rfl,_,rfl,Cp ⟨_,rfl,_,rfl,_,_,rfl,rfl,_,rfl,?_⟩⟩
 by_cases h1:lo<=x
 ·rw[QbR h1]
  refine Cp ⟨_,rfl,_,_,rfl,rfl,?_⟩
  by_cases h2:x<=hi
  ·rw[QbR ⟨h1,h2⟩] at q
   show Q (.bl (decide (x<=hi))) H
   rw[QbR h2]
   exact q
  ·rw[QbF (λz=>h2 z.2)] at q
   show Q (.bl (decide (x<=hi))) H
   rw[QbF h2]
   exact q
 ·rw[QbF (λz=>h1 z.1)] at q
  rw[QbF h1]
  exact Cd q
theorem kJ (c:Code K mg "is_row" Ud Dt) (T:Nm mg):Good P w K mg base "is_row" 1 Dt Hg:=by
 refine c.good jQ (λvs H Q E h=>?_) (λf cdv A outer s H vs Q E hr h=>?_)
 ·obtain⟨v,a,b,rfl,_⟩:=h
  rfl
 obtain⟨v,a,b,rfl,k,q⟩:=h
 refine⟨_,(Ai (Ay (En (Az QB rfl T.isinstance Ja (Aa (pv 0) (Aa (SJ (v:=.ty "tuple") rfl T.tuple Ku rfl) Ac))) (Ed (Qd Mp Mp (pv 1) (Az Bl rfl T.len Cz (Aa (pv 0) Ac)) (pv 2)))))),?_⟩
 refine⟨_,rfl,lJ k ⟨_,rfl,?_⟩⟩
 cases e:Jz H v with
 | none=>rw[e] at q;exact Cd q
 | some xs=>
  rw[e] at q
  obtain⟨p,rfl,hp⟩:=Z4 e
  refine Cp ⟨_,rfl,_,rfl,p,xs,rfl,.inr (SqT.of hp),_,_,rfl,rfl,_,rfl,?_⟩
  by_cases h1:a<=(xs.length:Int)
  ·rw[QbR h1]
   refine Cp ⟨_,rfl,_,_,rfl,rfl,?_⟩
   simpa [Ue,h1] using q
  ·rw[QbF h1]
   refine Cd ?_
   simpa [Ue,h1] using q
theorem Ye (c:Code K mg "are_wholes" M7 Gp) (T:Nm mg) (Qt:Good P w K mg base "is_whole" 1 Fz xR) (Cq:Good P w K mg base "is_row" 1 Dt Hg):Good P w K mg base "are_wholes" 2 Gp Q0:=by
 refine c.good Yc (λvs H Q E h=>?_) (λf cdv A outer s H vs Q E hr h=>?_)
 ·obtain⟨v,n,rfl,_⟩:=h
  rfl
 obtain⟨v,n,rfl,t,q⟩:=h
 refine⟨_,(Ai (Ay (En (Aw Cq hr (Aa (pv 0) (Aa (pv 1) (Aa (pv 1) Ac)))) (Ed (Az (Hu rfl) rfl T.all Lp (Aa (Cg (N':=["part"]) rfl (Bg.plain rfl (by trivial) (by trivial) (by trivial)) (Fy (pv 0)) (λ_ _ _ _=>(Ah (i:=0) (show List.Nodup (["part"]:YF) by trivial) rfl (Or.inl rfl))) (λ_ _ _ _=>CQ) (λ_ _ _ _=>(Aw Qt hr (Aa (pv 0) Ac)))) Ac)))))),?_⟩
 refine⟨_,rfl,_,rfl,_,rfl,v,n,n,rfl,t.kn,_,rfl,?_⟩
 cases e:Jz H v with
 | none=>exact Cd (by have:=q H (Same.refl H);rw[e] at this;exact this)
 | some xs=>
  obtain⟨p,rfl,hp⟩:=Z4 e
  have tp:=t.parts xs e
  cases eb:Ue (some xs) n n with
  | false=>exact Cd (by have:=q H (Same.refl H);rw[e,QS,eb] at this;exact this)
  | true=>
   refine Cp ⟨_,rfl,p,rfl,⟨xs,SqT.of hp⟩,λl hl=>?_⟩
   have hpl:p≠l:=Bb hp hl
   let J0:YN:=λi σ H'=>∃u,σ=[u]/\H'=upd H l (.lst ((xs.take i).map λy=>V.bl (isW y)))
   refine Uy (xs:=xs) J0 ⟨none,rfl,rfl⟩ (λi σ H' _ h=>?_) (λi x σ H' hx h=>?_) (fun σ H' h=>?_)
   ·obtain⟨u,rfl,rfl⟩:=h
    exact SqT.of (by rw[Am hpl];exact hp)
   ·obtain⟨u,rfl,rfl⟩:=h
    have sm:Same H (upd H l (.lst ((xs.take i).map λy=>V.bl (isW y)))):=Ae hl _
    have et:(xs.take (i+1)).map (λy=>V.bl (isW y))=(xs.take i).map (λy=>V.bl (isW y))++[V.bl (isW x)]:=by rw[List.take_succ,hx];simp
    refine⟨_,rfl,x,rfl,(tp.2 x (QaF hx)).same sm,_,Ab,Aq (by rw[QbB,Qbu];omega),_,rfl,?_⟩
    rw[Sg,et]
   ·obtain⟨u,rfl,rfl⟩:=h
    refine⟨l,xs.map isW,rfl,SqL.of ?_,?_⟩
    ·rw[Ab,Qbs,Qcj]
     rfl
    ·have:=q _ (Ae hl (.lst ((xs.take xs.length).map λy=>V.bl (isW y))))
     rw[e,QS,eb,Bool.true_and] at this
     rw[List.all_map]
     exact this
end
abbrev Oj:Stmt:=top 12
abbrev Il:YF:=["row"]
theorem Zi:Ax ["row"] Il (Aj Oj):=⟨rfl,rfl,rfl,by trivial,rfl,by trivial,by trivial⟩
abbrev Fj:Stmt:=top 13
abbrev DN:YF:=["thing","least","most","low","high"]
theorem PX:Ax ["thing","least","most","low","high"] DN (Aj Fj):=⟨rfl,rfl,rfl,by trivial,rfl,by trivial,by trivial⟩
abbrev Rb:Stmt:=top 14
abbrev K8:YF:=["thing"]
theorem gH:Ax ["thing"] K8 (Aj Rb):=⟨rfl,rfl,rfl,by trivial,rfl,by trivial,by trivial⟩
abbrev Om:Stmt:=top 19
abbrev GZ:YF:=["kind","address"]
theorem Zk:Ax ["kind","address"] GZ (Aj Om):=⟨rfl,rfl,rfl,by trivial,rfl,by trivial,by trivial⟩
abbrev Jf:Stmt:=top 20
abbrev EY:YF:=["thing"]
theorem Tp:Ax ["thing"] EY (Aj Jf):=⟨rfl,rfl,rfl,by trivial,rfl,by trivial,by trivial⟩
abbrev Q9:Stmt:=top 21
abbrev K6:YF:=["thing"]
theorem gG:Ax ["thing"] K6 (Aj Q9):=⟨rfl,rfl,rfl,by trivial,rfl,by trivial,by trivial⟩
abbrev Qa:Stmt:=top 22
abbrev JN:YF:=["thing"]
theorem Ii:Ax ["thing","kind","address","spur"] JN (Aj Qa):=⟨rfl,rfl,rfl,by trivial,rfl,by trivial,by trivial⟩
abbrev Rf:Stmt:=top 23
abbrev K9:YF:=["thing"]
theorem gJ:Ax ["thing"] K9 (Aj Rf):=⟨rfl,rfl,rfl,by trivial,rfl,by trivial,by trivial⟩
abbrev Q8:Stmt:=top 24
abbrev K5:YF:=["thing"]
theorem gF:Ax ["thing"] K5 (Aj Q8):=⟨rfl,rfl,rfl,by trivial,rfl,by trivial,by trivial⟩
abbrev Oq:Stmt:=top 25
abbrev Ip:YF:=["thing"]
theorem Zo:Ax ["thing"] Ip (Aj Oq):=⟨rfl,rfl,rfl,by trivial,rfl,by trivial,by trivial⟩
abbrev Oo:Stmt:=top 26
abbrev Io:YF:=["thing"]
theorem Zn:Ax ["thing"] Io (Aj Oo):=⟨rfl,rfl,rfl,by trivial,rfl,by trivial,by trivial⟩
abbrev Ra:Stmt:=top 27
abbrev K7:YF:=["thing"]
theorem JF:Ax ["thing","most","loops","zones"] K7 (Aj Ra):=⟨rfl,rfl,rfl,by trivial,rfl,by trivial,by trivial⟩
structure Ty (K:YD) (mg:YB) (op oe kd wk:Addr):Prop extends Tx K mg op oe where
 KINDS:∃u,mg "KINDS"=some u/\RelV (.ref kd) u
 kdT:∀H,SqT K H kd [.str "seeker",.str "knob",.str "bell",.str "door"]
 WARNING_KINDS:∃u,mg "WARNING_KINDS"=some u/\RelV (.ref wk) u
 wkT:∀H,SqT K H wk [.str "seeker",.str "knob"]
 SMALL_LETTERS:∃u,mg "SMALL_LETTERS"=some u/\RelV (.str abc) u
theorem wD:∀c∈abc.cps.toList,(!(Builtin.Str.occurrences abc ⟨#[c]⟩ 0 abc.length 1).isEmpty)=true:=by
 have h:abc.cps.toList.all (λc=>!(Builtin.Str.occurrences abc ⟨#[c]⟩ 0 abc.length 1).isEmpty)=true:=by trivial
 exact λc hc=>List.all_eq_true.mp h c hc
theorem vP {k:Str} (h:GP k):inV (.str k) [.str "seeker",.str "knob",.str "bell",.str "door"]=true:=by
 rcases h with rfl | rfl | rfl | rfl <;> decide +kernel
theorem Lk {K:YD} {a l:Addr} {xs:YG} {te:TE} {Q:VK} {r:St} {H:Hp} (hl:H l=none) (ha:H a=some (.tup xs)) (h100:xs.length<=100)
  (hs:∀(i:Nat) (x:V) (HH:Hp),xs[i]?=some x->Same H HH->∀R:VK,(∀H',Same HH H'->R (.bl true) H')->te (some x::r) HH R)
  (hq:∀H',H' l=some (.lst ((List.replicate xs.length true).map V.bl))->Same H H'->Q (.ref l) H'):FZ (Itt K a) (Fl 0) (λ_ H Q=>Q true H) te Q (none::r) (upd H l (.lst [])) l:=by
 let J0:YN:=λi σ HH=>∃u,σ=u::r/\HH l=some (.lst ((List.replicate i true).map V.bl))/\Same H HH
 refine Uy (xs:=xs) J0 ⟨_,rfl,Ab,Ae hl _⟩ (λi σ HH _ h=>?_) (λi x σ HH hx h=>?_) (fun σ HH h=>?_)
 ·obtain⟨u,rfl,_,s⟩:=h
  exact SqT.of (s _ _ ha)
 ·obtain⟨u,rfl,e,s⟩:=h
  have hi:=(Qag.mp hx).1
  unfold Fl
  dsimp only
  refine Cp (hs i x HH hx s _ λH' s'=>⟨_,s' _ _ e,Aq (by rw[QbB,List.length_replicate];omega),_,rfl,?_,(s.trans s').Bm Ag.upd hl⟩)
  rw[Ab,List.replicate_succ',QbD]
  rfl
 ·obtain⟨u,rfl,e,s⟩:=h
  exact hq _ e s
theorem Iz {H:Hp} {a:Addr} {xs:YG} (h:H a=some (.tup xs)):Kn H (.ref a):=by
 unfold Kn
 first
  | exact⟨_,h,True.intro⟩
  | exact .inr ⟨_,h⟩
  | exact⟨xs,.inr h⟩
theorem Et {xs:YG} {a b:Int} (h1:a<=xs.length) (h2:(xs.length:Int)<=b):Ue (some xs) a b=true:=by
 show (decide (a<=xs.length)&&decide ((xs.length:Int)<=b))=true
 rw[QbR h1,QbR h2]
 rfl
theorem UJ {n:Nat}:(List.replicate n true).all id=true:=by simp
structure KG (p:Place):Prop where
 ok:OkP p
 bd:∀x∈adP p,1<=x/\x<=99
def dJ:Sp:=λvs H Q _=>∃z:Str,vs=[.str z]/\1<=z.length/\z.length<=8/\okS z/\∀H',Same H H'->Q (.bl true) H'
def jG:Sp:=λvs H Q _=>∃(a:Addr) (ns:List Int),vs=[.ref a]/\H a=some (.tup (ns.map V.int))/\ns.Pairwise (· < ·)/\ns.length<=100/\∀H',Same H H'->Q (.bl true) H'
def jF:Sp:=λvs H Q _=>∃(a:Addr) (ns:List Int) (lo hi l h:Int),vs=[.ref a,.int lo,.int hi,.int l,.int h]/\H a=some (.tup (ns.map V.int))/\ns.Pairwise (· < ·)/\ns.length<=100/\lo<=ns.length/\(ns.length:Int)<=hi/\(∀x∈ns,l<=x/\x<=h)/\∀H',Same H H'->Q (.bl true) H'
def Zd:Sp:=λvs H Q _=>∃(k:Str) (x:Int),vs=[.str k,.int x]/\GP k/\1<=x/\x<=99/\Q (.bl true) H
def Y7:Sp:=λvs H Q _=>∃v d,vs=[v]/\Ka H v d/\GP d.kind/\1<=d.addr/\d.addr<=99/\Q (.bl true) H
def dD:Sp:=λvs H Q _=>∃u ws ds,vs=[.ref u]/\H u=some (.tup ws)/\Paired (Ka H) ws ds/\ds.length<=3/\(∀d∈ds,GP d.kind/\1<=d.addr/\d.addr<=99)/\∀H',Same H H'->Q (.bl true) H'
def Y8:Sp:=λvs H Q _=>∃v p,vs=[v]/\Dl H v p/\KG p/\∀H',Same H H'->Q (.bl true) H'
def dM:Sp:=λvs H Q _=>∃v ps,vs=[v]/\LoopAt H v ps/\OkL ps/\(∀x∈adL ps,1<=x/\x<=99)/\∀H',Same H H'->Q (.bl true) H'
def Zb:Sp:=λvs H Q _=>∃Ls ws loops,vs=[.ref Ls]/\H Ls=some (.tup ws)/\Paired (LoopAt H) ws loops/\(∀ps∈loops,OkL ps)/\(∀x∈Cr loops,1<=x/\x<=99)/\1<=loops.length/\loops.length<=3/\∀H',Same H H'->Q (.bl true) H'
structure ZnB (z:Zone):Prop where
 nm:(1<=z.name.length/\z.name.length<=8)/\okS z.name
 up:z.adr.Pairwise (· < ·)/\1<=z.adr.length/\z.adr.length<=30
 bd:∀x∈z.adr,1<=x/\x<=99
def dz:Sp:=λvs H Q _=>∃v z,vs=[v]/\IK H v z/\ZnB z/\∀H',Same H H'->Q (.bl true) H'
def Y6:Sp:=λvs H Q _=>∃zs ws zones,vs=[.ref zs]/\H zs=some (.tup ws)/\Paired (IK H) ws zones/\(∀z∈zones,ZnB z)/\zones.length<=8/\(zones.map (·.name)).Nodup/\∀H',Same H H'->Q (.bl true) H'
structure FT (H:Hp) (pl:Addr) (most:Int) (loops:YU) (zones:List Zone):Prop where
 at_:∃Ls zs vs zvs,H pl=some (.tup [.int most,.ref Ls,.ref zs])/\H Ls=some (.tup vs)/\Paired (LoopAt H) vs loops/\H zs=some (.tup zvs)/\Paired (IK H) zvs zones
 ok:CW loops
 lo:1<=loops.length
 pok:bK most loops zones
theorem FT.tups {H H':Hp} {pl:Addr} {most:Int} {loops:YU} {zones:List Zone} (h:FT H pl most loops zones) (s:Al H H'):FT H' pl most loops zones:=by
 obtain⟨Ls,zs,vs,zvs,e1,e2,e3,e4,e5⟩:=h.at_
 exact⟨⟨Ls,zs,vs,zvs,s _ _ e1,s _ _ e2,Paired.Av e3 λ_ _ z=>z.tups s,s _ _ e4,Paired.Av e5 λ_ _ z=>z.tups s⟩,h.ok,h.lo,h.pok⟩
theorem FT.same {H H':Hp} {pl:Addr} {most:Int} {loops:YU} {zones:List Zone} (h:FT H pl most loops zones) (s:Same H H'):FT H' pl most loops zones:=h.tups (Al.of s)
theorem FT.plan {H:Hp} {pl:Addr} {most:Int} {loops:YU} {zones:List Zone} (h:FT H pl most loops zones):V1 H pl loops:=by
 obtain⟨Ls,zs,vs,zvs,e1,e2,e3,e4,e5⟩:=h.at_
 exact⟨_,_,Ls,vs,e1,e2,e3⟩
def Ss:Sp:=λvs H Q _=>∃pl most loops zones,vs=[.ref pl]/\FT H pl most loops zones/\∀H',Same H H'->Q (.bl true) H'
theorem Yx {α β γ : Type} {h:α->List β} {φ : γ->β} {g:Nat->α->List γ} (l:List α) (hg:∀i x,l[i]?=some x->(g i x).map φ=h x):∀n,n<=l.length->(up (λi=>ifs l[i]? (g i)) n).map φ=(l.take n).flatMap h
 | 0,_=>by rw[O8];simp
 | n+1,hn=>by
  have hi:l[n]?=some l[n]:=Qak (by omega)
  rw[Ey,QbD,Yx l hg n (by omega),Qcx hi,QaM,Cw hi,hg n _ hi]
  simp
theorem TV (lp a:Int):∀(n:Nat) (ds:List Dev),(Dq lp a n ds).map (·.addr)=ds.map (·.addr)
 | _,[]=>rfl
 | n,d::r=>by
  show d.addr::(Dq lp a (n+1) r).map (·.addr)=d.addr::r.map (·.addr)
  rw[TV]
theorem ZG (lp a:Int) (p:Place):(BL lp a p).map (·.addr)=adP p:=by
 unfold BL adP
 split
 ·rfl
 ·rw[QbY,TV]
theorem Jy (loops:YU):(up (pdL loops) loops.length).map (·.addr)=Cr loops:=by
 have:=Yx (φ:=Sd.addr) (h:=adL) (g:=λk ps=>up (pd1 (k:Int) ps) ps.length) loops (λk ps _=>by
  have:=Yx (φ:=Sd.addr) (h:=adP) (g:=λi p=>BL (k:Int) ((1+i:Nat):Int) p) ps (λi p _=>ZG _ _ p) ps.length (Qcn _)
  rw[Qbs] at this
  exact this) loops.length (Qcn _)
 rw[Qbs] at this
 exact this
theorem oO {loops:YU} (h:CW loops) {x:Int} (hx:x∈Ep loops):x∈Cr loops:=by
 obtain⟨ps,hps,hx⟩:=QbA.mp hx
 obtain⟨p,hp,hx⟩:=QbA.mp hx
 refine QbA.mpr ⟨ps,hps,QbA.mpr ⟨p,hp,?_⟩⟩
 obtain⟨d,hd,rfl⟩:=Qcg.mp hx
 obtain⟨hd,hw⟩:=QbI.mp hd
 rcases ((h.ok ps hps).ok p hp).form with⟨e1,e2,e3⟩| hk
 ·have:d=⟨p.kind,p.addr⟩:=by
   unfold Fo at hd
   rw[e3] at hd
   simpa using hd
  rw[this] at hw
  have hw:El p.kind=true:=hw
  rw[e1] at hw
  exact absurd hw (by trivial)
 ·unfold adP
  rw[if_neg (Kp hk)]
  unfold Fo at hd
  rcases QbX.mp hd with rfl | hd
  ·exact QaT ..
  ·exact QaG _ (Qcg.mpr ⟨d,hd,rfl⟩)
section
variable {P:Program} {w:World} {K:YD} {mg:YB} {base:Heap} {op oe kd wk:Addr}
theorem iw (C:Code K mg "is_name" Rb K8) (T:Ty K mg op oe kd wk):Good P w K mg base "is_name" 1 K8 dJ:=by
 refine C.good gH (λvs H Q E h=>?_) (λf cdv A outer s H vs Q E hr h=>?_)
 ·obtain⟨z,rfl,_⟩:=h
  rfl
 obtain⟨z,rfl,h1,h8,oz,q⟩:=h
 refine⟨_,(Af (Ci (Fx (Ds (Az QB rfl T.isinstance Ja (Aa (pv 0) (Aa (SJ (v:=.ty "str") rfl T.str zX rfl) Ac))))) (Ai (Ay Gf)) BK)
 (Ai (Ay (En (Qd Mp Mp Ad (Az bx rfl T.len Cz (Aa (pv 0) Ac)) Ad) (Ed (Az (Hu rfl) rfl T.all Lp (Aa (Cg (N':=["sign"]) rfl (Bg.plain rfl (by trivial) (by trivial) (by trivial)) (jZ (pv 0)) (λ_ _ _ _=>(Ah (i:=0) (show List.Nodup (["sign"]:YF) by trivial) rfl (Or.inl rfl))) (λ_ _ _ _=>CQ) (λ_ _ _ _=>(Jt j8 (pv 0) (Ro rfl T.SMALL_LETTERS) (by with_unfolding_all rfl)))) Ac))))))),?_⟩
 show let R0:TS:=_;Ao _ R0 _ _ _
 intro R0
 refine⟨_,rfl,vQ ⟨_,rfl,Cd ⟨_,rfl,z,rfl,Ar (by show z.length<=1000;omega),_,_,rfl,rfl,_,rfl,?_⟩⟩⟩
 have g1:decide ((1:Int)<=(z.length:Int))=true:=QbR (by omega)
 rw[g1]
 refine Cp ⟨_,_,rfl,rfl,_,rfl,?_⟩
 have g2:decide ((z.length:Int)<=8)=true:=QbR (by omega)
 rw[g2]
 refine Cp ⟨_,rfl,z,rfl,λl hl'=>?_⟩
 let J1:YN:=λi σ HH=>∃u,σ=[u]/\HH l=some (.lst ((List.replicate i true).map V.bl))/\Same H HH
 refine aW J1 ⟨_,rfl,Ab,Ae hl' _⟩ (λi c σ HH hc h=>?_) (fun σ HH h=>?_)
 ·obtain⟨u,rfl,e1,e2⟩:=h
  have hi:i < z.cps.size:=(Qaf.mp hc).1
  have hz:z.cps.size<=8:=h8
  unfold Fl
  dsimp only
  refine Cp ⟨_,rfl,_,_,rfl,rfl,_,e1,Aq (by simp;omega),_,rfl,?_,e2.Bm Ag.upd hl'⟩
  rw[Ab,wD c (oz c (Array.mem_toList_iff.mpr (Array.mem_of_getElem? hc))),List.replicate_succ',QbD]
  rfl
 ·obtain⟨u,rfl,e1,e2⟩:=h
  refine⟨l,List.replicate z.cps.size true,rfl,SqL.of e1,?_⟩
  rw[UJ]
  exact q _ e2
theorem ZV (C:Code K mg "is_rising" Oj Il) (T:Ty K mg op oe kd wk):Good P w K mg base "is_rising" 1 Il jG:=by
 refine C.good Zi (λvs H Q E h=>?_) (λf cdv A outer s H vs Q E hr h=>?_)
 ·obtain⟨a,ns,rfl,_⟩:=h
  rfl
 obtain⟨a,ns,rfl,ha,hp,h100,q⟩:=h
 refine⟨_,(Ai (Ay (Az (Hu rfl) rfl T.all Lp (Aa (Cg (N':=["one","other"]) rfl (Bg.plain rfl (by trivial) (by trivial) (by trivial)) (pX rfl T.zip (Aa (pv 0) (Aa (Kl Wi (pv 0) (Mu Ad) Mv) Ac))) (λ_ _ _ _=>(Fp (K:=K) (n:=2) rfl rfl (Ak (Ah (i:=0) (show List.Nodup (["one","other"]:YF) by trivial) rfl (Or.inl rfl)) (Ak (Ah (i:=1) (show List.Nodup (["one","other"]:YF) by trivial) rfl (Or.inl rfl)) Bp)))) (λ_ _ _ _=>CQ) (λ_ _ _ _=>(Jt gU (pv 0) (pv 1) (Br _)))) Ac)))),?_⟩
 refine⟨_,rfl,_,rfl,_,rfl,a,_,rfl,ha,λb H1 hb s1=>?_⟩
 have ha1:=s1 _ _ ha
 refine⟨a,b,rfl,⟨_,ha1⟩,⟨_,hb⟩,λl hl=>?_⟩
 have hlen:(ns.map V.int).length=ns.length:=QbB ..
 have ec:Jm (ns.map V.int) (some (1:Int)) none=(ns.map V.int).drop 1:=by
  by_cases h0:1<=(ns.map V.int).length
  ·exact Ux (k:=1) h0
  ·have:ns.map V.int=[]:=List.length_eq_zero_iff.mp (by omega)
   rw[this]
   rfl
 rw[ec] at hb
 refine jf (xs:=ns.map V.int) (ys:=(ns.map V.int).drop 1) (ns.length - 1) (by omega) (by rw[Qbx];omega) (.inr (by rw[Qbx];omega)) (λi σ HH=>∃u1 u2,σ=[u1,u2]/\HH l=some (.lst ((List.replicate i true).map V.bl))/\Same H1 HH) ⟨_,_,rfl,Ab,Ae hl _⟩ (λi σ HH _ h=>?_) (λi x y p σ HH hx hy h hpn=>?_) (fun σ HH h=>?_)
 ·obtain⟨u1,u2,rfl,e1,e2⟩:=h
  exact⟨e2 _ _ ha1,e2 _ _ hb⟩
 ·obtain⟨u1,u2,rfl,e1,e2⟩:=h
  rw[List.getElem?_drop] at hy
  rw[Qbk] at hx hy
  obtain⟨n1,hn1,rfl⟩:=Qax.mp hx
  obtain⟨n2,hn2,rfl⟩:=Qax.mp hy
  obtain⟨i1,g1⟩:=Qag.mp hn1
  obtain⟨i2,g2⟩:=Qag.mp hn2
  have lt:n1 < n2:=by
   rw[<-g1,<-g2]
   exact Qaj.mp hp i (1+i) i1 i2 (by omega)
  have s2:=Ae hpn (.tup [.int n1,.int n2])
  refine⟨p,_,rfl,SqT.of Ab,rfl,_,_,rfl,_,_,rfl,rfl,?_⟩
  refine Cp ⟨_,rfl,_,rfl,_,_,rfl,rfl,_,s2 _ _ e1,Aq (by simp;omega),_,_,rfl,?_,(e2.trans s2).Bm Ag.upd hl⟩
  rw[Ab]
  show some (HO.lst (_++[V.bl (decide (n1 < n2))]))=_
  rw[QbR lt,List.replicate_succ',QbD]
  rfl
 ·obtain⟨u1,u2,rfl,e1,e2⟩:=h
  refine⟨l,List.replicate (ns.length - 1) true,rfl,SqL.of e1,?_⟩
  rw[UJ]
  exact q _ (s1.trans e2)
theorem Yg (C:Code K mg "are_rising_within" Fj DN) (T:Ty K mg op oe kd wk) (Cq:Good P w K mg base "is_row" 1 Dt Hg) (Ge:Good P w K mg base "is_within" 2 Eu M4) (cu:Good P w K mg base "is_rising" 1 Il jG):Good P w K mg base "are_rising_within" 3 DN jF:=by
 refine C.good PX (λvs H Q E h=>?_) (λf cdv A outer s H vs Q E hr h=>?_)
 ·obtain⟨a,ns,lo,hi,l,h,rfl,_⟩:=h
  rfl
 obtain⟨a,ns,lo,hi,l,h,rfl,ha,hp,h100,h1,h2,h3,q⟩:=h
 refine⟨_,(Af (Ci (Fx (Ds (Aw Cq hr (Aa (pv 0) (Aa (pv 1) (Aa (pv 2) Ac)))))) (Ai (Ay Gf)) BK)
 (Ai (Ay (En (Az (Hu rfl) rfl T.all Lp (Aa (Cg (N':=["part","low","high"]) rfl (Bg.of (src:=[none,some 3,some 4]) (Aj Fj) ["thing","least","most","low","high"] rfl rfl rfl (by trivial) (by trivial) (by trivial) rfl (by trivial)) (Fy (pv 0)) (λ_ _ _ _=>(Ah (i:=0) (show List.Nodup (["part","low","high"]:YF) by trivial) rfl (Or.inl rfl))) (λ_ _ _ _=>CQ) (λ_ _ _ _=>(Aw Ge hr (Aa (pv 0) (Aa (pv 1) (Aa (pv 2) Ac)))))) Ac)) (Ed (Aw cu hr (Aa (pv 0) Ac))))))),?_⟩
 show let R0:TS:=_;Ao _ R0 _ _ _
 intro R0
 have hlen:(ns.map V.int).length=ns.length:=QbB ..
 refine⟨_,rfl,_,rfl,_,rfl,.ref a,lo,hi,rfl,Iz ha,_,rfl,?_⟩
 rw[Di ha,Et (by rw[hlen];exact h1) (by rw[hlen];exact h2)]
 refine Cd ⟨_,rfl,a,rfl,⟨_,SqT.of ha⟩,λl2 hl2=>?_⟩
 refine Lk (r:=[some (.int l),some (.int h)]) hl2 ha (by omega) (λi x HH hx s1 R hR=>?_) (λH' e s1=>?_)
 ·rw[Qbk] at hx
  obtain⟨n1,hn1,rfl⟩:=Qax.mp hx
  refine⟨_,rfl,_,rfl,_,rfl,n1,l,h,rfl,?_⟩
  rw[QbR (h3 n1 (QaF hn1))]
  exact hR _ (Same.refl _)
 ·refine⟨l2,List.replicate (ns.map V.int).length true,rfl,SqL.of e,_,rfl,?_⟩
  rw[UJ]
  exact Cp ⟨_,rfl,a,ns,rfl,s1 _ _ ha,hp,h100,λH2 s2=>q _ (s1.trans s2)⟩
theorem ZX (C:Code K mg "is_device" Om GZ) (T:Ty K mg op oe kd wk) (Ge:Good P w K mg base "is_within" 2 Eu M4):Good P w K mg base "is_device" 3 GZ Zd:=by
 refine C.good Zk (λvs H Q E h=>?_) (λf cdv A outer s H vs Q E hr h=>?_)
 ·obtain⟨k,x,rfl,_⟩:=h
  rfl
 obtain⟨k,x,rfl,hk,h1,h2,q⟩:=h
 refine⟨_,(Ai (Ay (En (Jt Rt (pv 0) (Ro rfl T.KINDS) (by with_unfolding_all rfl)) (Ed (Aw Ge hr (Aa (pv 1) (Aa Ad (Aa Ad Ac)))))))),?_⟩
 refine⟨_,rfl,kd,_,rfl,.inr (T.kdT H),rfl,rfl,_,rfl,?_⟩
 rw[if_neg QaW,vP hk]
 refine Cp ⟨_,rfl,x,1,99,rfl,?_⟩
 rw[QbR ⟨h1,h2⟩]
 exact q
theorem Tr (C:Code K mg "is_spur_device" Jf EY) (T:Ty K mg op oe kd wk) (Cq:Good P w K mg base "is_row" 1 Dt Hg) (O1:Good P w K mg base "is_device" 3 GZ Zd):Good P w K mg base "is_spur_device" 4 EY Y7:=by
 refine C.good Tp (λvs H Q E h=>?_) (λf cdv A outer s H vs Q E hr h=>?_)
 ·obtain⟨v,d,rfl,_⟩:=h
  rfl
 obtain⟨v,d,rfl,⟨t,rfl,ht⟩,hk,h1,h2,q⟩:=h
 refine⟨_,(Ai (Ay (En (Aw Cq hr (Aa (pv 0) (Aa Ad (Aa Ad Ac)))) (Ed (Aw O1 hr (Aa (Bh Bu (pv 0) Ad (λ_ _=>rfl)) (Aa (Bh Bu (pv 0) Ad (λ_ _=>rfl)) Ac))))))),?_⟩
 refine⟨_,rfl,.ref t,2,2,rfl,Iz ht,_,rfl,?_⟩
 rw[Di ht,Et (by show (2:Int)<=2;decide) (by show (2:Int)<=2;decide)]
 exact Cp ⟨_,rfl,t,_,_,_,rfl,rfl,SqT.of ht,rfl,_,rfl,t,_,_,_,rfl,rfl,SqT.of ht,rfl,d.kind,d.addr,rfl,hk,h1,h2,q⟩
theorem ig (C:Code K mg "is_spur" Q9 K6) (T:Ty K mg op oe kd wk) (Cq:Good P w K mg base "is_row" 1 Dt Hg) (Us:Good P w K mg base "is_spur_device" 4 EY Y7):Good P w K mg base "is_spur" 5 K6 dD:=by
 refine C.good gG (λvs H Q E h=>?_) (λf cdv A outer s H vs Q E hr h=>?_)
 ·obtain⟨u,ws,ds,rfl,_⟩:=h
  rfl
 obtain⟨u,ws,ds,rfl,hu,hd,h3,hk,q⟩:=h
 have lw:=QbW hd
 refine⟨_,(Ai (Ay (En (Aw Cq hr (Aa (pv 0) (Aa Ad (Aa Ad Ac)))) (Ed (Az (Hu rfl) rfl T.all Lp (Aa (Cg (N':=["part"]) rfl (Bg.plain rfl (by trivial) (by trivial) (by trivial)) (Fy (pv 0)) (λ_ _ _ _=>(Ah (i:=0) (show List.Nodup (["part"]:YF) by trivial) rfl (Or.inl rfl))) (λ_ _ _ _=>CQ) (λ_ _ _ _=>(Aw Us hr (Aa (pv 0) Ac)))) Ac)))))),?_⟩
 refine⟨_,rfl,.ref u,0,3,rfl,Iz hu,_,rfl,?_⟩
 rw[Di hu,Et (by omega) (by omega)]
 refine Cp ⟨_,rfl,u,rfl,⟨_,SqT.of hu⟩,λl2 hl2=>?_⟩
 refine Lk (r:=[]) hl2 hu (by omega) (λi x HH hx s1 R hR=>?_) (λH' e s1=>?_)
 ·obtain⟨d,hdi,had⟩:=Paired.Ce hd hx
  have:=hk d (QaF hdi)
  exact⟨_,rfl,x,d,rfl,had.tups (Al.of s1),this.1,this.2.1,this.2.2,hR _ (Same.refl _)⟩
 ·refine⟨l2,List.replicate ws.length true,rfl,SqL.of e,?_⟩
  rw[UJ]
  exact q _ s1
theorem bU (C:Code K mg "is_place" Qa JN) (T:Ty K mg op oe kd wk) (Cq:Good P w K mg base "is_row" 1 Dt Hg) (Ge:Good P w K mg base "is_within" 2 Eu M4) (O1:Good P w K mg base "is_device" 3 GZ Zd) (mq:Good P w K mg base "is_spur" 5 K6 dD):Good P w K mg base "is_place" 6 JN Y8:=by
 have sc:=Ii
 refine C.good Ii (λvs H Q E h=>?_) (λf cdv A outer s H vs Q E hr h=>?_)
 ·obtain⟨v,p,rfl,_⟩:=h
  rfl
 obtain⟨v,p,rfl,⟨t,u,ws,rfl,ht,hu,hd⟩,⟨ok,bd⟩,q⟩:=h
 have lw:=QbW hd
 have h3:=ok.spur
 refine⟨_,(Af (Ci (Fx (Ds (Aw Cq hr (Aa (pv 0) (Aa Ad (Aa Ad Ac)))))) (Ai (Ay Gf)) BK)
 (Af (Gj (pv 0) (Cv rfl (Ak (Ah (i:=1) Ii.nd rfl (Or.inl rfl)) (Ak (Ah (i:=2) Ii.nd rfl (Or.inl rfl)) (Ak (Ah (i:=3) Ii.nd rfl (Or.inl rfl)) Bp)))))
 (Af (Ci (Bj G7 (pv 1) Bt (Br _)) (Ai (Ay (En (Aw Ge hr (Aa (pv 2) (Aa Ad (Aa Ad Ac)))) (Ed (Aw Cq hr (Aa (pv 3) (Aa Ad (Aa Ad Ac)))))))) BK)
 (Ai (Ay (En (Aw O1 hr (Aa (pv 1) (Aa (pv 2) Ac))) (Ed (Aw mq hr (Aa (pv 3) Ac))))))))),?_⟩
 show let R0:TS:=_;let R1:TS:=_;let R2:TS:=Ao (Ga _ R1 _) R0;let R3:TS:=Ao _ R2;Ao _ R3 _ _ _
 intro R0 R1 R2 R3
 refine⟨_,rfl,.ref t,3,3,rfl,Iz ht,_,rfl,?_⟩
 rw[Di ht,Et (by show (3:Int)<=3;decide) (by show (3:Int)<=3;decide)]
 refine Cd ⟨_,rfl,t,_,rfl,SqT.of ht,rfl,_,_,rfl,_,_,rfl,_,_,rfl,rfl,?_⟩
 refine⟨_,rfl,rfl,_,rfl,?_⟩
 rcases ok.form with⟨e1,e2,e3⟩| hk
 ·rw[show decide (V.str p.kind=V.str "opener")=true by rw[e1];rfl]
  have lw0:ws.length=0:=by rw[lw,e3];rfl
  refine Cp ⟨_,rfl,p.addr,0,0,rfl,_,rfl,?_⟩
  rw[show decide ((0:Int)<=p.addr/\p.addr<=0)=true by rw[e2];rfl]
  refine Cp ⟨_,rfl,.ref u,0,0,rfl,Iz hu,?_⟩
  rw[Di hu,Et (by omega) (by omega)]
  exact q _ (Same.refl _)
 ·have ea:adP p=p.addr::p.spur.map (·.addr):=if_neg (Kp hk)
  rw[ea] at bd
  rw[QbF (Kp hk)]
  have b0:=bd p.addr (QaT ..)
  refine Cd ⟨_,rfl,_,rfl,p.kind,p.addr,rfl,hk,b0.1,b0.2,_,rfl,?_⟩
  exact Cp ⟨_,rfl,u,ws,p.spur,rfl,hu,hd,h3,λd hdm=>⟨ok.kinds d hdm,bd d.addr (QaG _ (Qcg.mpr ⟨d,hdm,rfl⟩))⟩,q⟩
theorem iz (C:Code K mg "is_loop" Rf K9) (T:Ty K mg op oe kd wk) (Cq:Good P w K mg base "is_row" 1 Dt Hg) (iZ:Good P w K mg base "is_place" 6 JN Y8):Good P w K mg base "is_loop" 7 K9 dM:=by
 refine C.good gJ (λvs H Q E h=>?_) (λf cdv A outer s H vs Q E hr h=>?_)
 ·obtain⟨v,ps,rfl,_⟩:=h
  rfl
 obtain⟨v,ps,rfl,⟨t,ws,rfl,ht,hd⟩,ok,bd,q⟩:=h
 have lw:=QbW hd
 have l1:=ok.lo
 have l2:=ok.hi
 refine⟨_,(Ai (Ay (En (Aw Cq hr (Aa (pv 0) (Aa Ad (Aa Ad Ac)))) (Ed (Az (Hu rfl) rfl T.all Lp (Aa (Cg (N':=["part"]) rfl (Bg.plain rfl (by trivial) (by trivial) (by trivial)) (Fy (pv 0)) (λ_ _ _ _=>(Ah (i:=0) (show List.Nodup (["part"]:YF) by trivial) rfl (Or.inl rfl))) (λ_ _ _ _=>CQ) (λ_ _ _ _=>(Aw iZ hr (Aa (pv 0) Ac)))) Ac)))))),?_⟩
 refine⟨_,rfl,.ref t,1,12,rfl,Iz ht,_,rfl,?_⟩
 rw[Di ht,Et (by omega) (by omega)]
 refine Cp ⟨_,rfl,t,rfl,⟨_,SqT.of ht⟩,λl2 hl2=>?_⟩
 refine Lk (r:=[]) hl2 ht (by omega) (λi x HH hx s1 R hR=>?_) (λH' e s1=>?_)
 ·obtain⟨p,hpi,hap⟩:=Paired.Ce hd hx
  have hm:=QaF hpi
  exact⟨_,rfl,x,p,rfl,hap.tups (Al.of s1),⟨ok.ok p hm,λy hy=>bd y (QbA.mpr ⟨p,hm,hy⟩)⟩,λH2 s2=>hR _ s2⟩
 ·refine⟨l2,List.replicate ws.length true,rfl,SqL.of e,?_⟩
  rw[UJ]
  exact q _ s1
theorem Z2 (C:Code K mg "are_loops" Oq Ip) (T:Ty K mg op oe kd wk) (Cq:Good P w K mg base "is_row" 1 Dt Hg) (mD:Good P w K mg base "is_loop" 7 K9 dM):Good P w K mg base "are_loops" 8 Ip Zb:=by
 refine C.good Zo (λvs H Q E h=>?_) (λf cdv A outer s H vs Q E hr h=>?_)
 ·obtain⟨Ls,ws,loops,rfl,_⟩:=h
  rfl
 obtain⟨t,ws,loops,rfl,ht,hd,ok,bd,l1,l2,q⟩:=h
 have lw:=QbW hd
 refine⟨_,(Ai (Ay (En (Aw Cq hr (Aa (pv 0) (Aa Ad (Aa Ad Ac)))) (Ed (Az (Hu rfl) rfl T.all Lp (Aa (Cg (N':=["part"]) rfl (Bg.plain rfl (by trivial) (by trivial) (by trivial)) (Fy (pv 0)) (λ_ _ _ _=>(Ah (i:=0) (show List.Nodup (["part"]:YF) by trivial) rfl (Or.inl rfl))) (λ_ _ _ _=>CQ) (λ_ _ _ _=>(Aw mD hr (Aa (pv 0) Ac)))) Ac)))))),?_⟩
 refine⟨_,rfl,.ref t,1,3,rfl,Iz ht,_,rfl,?_⟩
 rw[Di ht,Et (by omega) (by omega)]
 refine Cp ⟨_,rfl,t,rfl,⟨_,SqT.of ht⟩,λl2 hl2=>?_⟩
 refine Lk (r:=[]) hl2 ht (by omega) (λi x HH hx s1 R hR=>?_) (λH' e s1=>?_)
 ·obtain⟨p,hpi,hap⟩:=Paired.Ce hd hx
  have hm:=QaF hpi
  exact⟨_,rfl,x,p,rfl,hap.tups (Al.of s1),ok p hm,λy hy=>bd y (QbA.mpr ⟨p,hm,hy⟩),λH2 s2=>hR _ s2⟩
 ·refine⟨l2,List.replicate ws.length true,rfl,SqL.of e,?_⟩
  rw[UJ]
  exact q _ s1
theorem gZ (C:Code K mg "is_zone" Q8 K5) (T:Ty K mg op oe kd wk) (Cq:Good P w K mg base "is_row" 1 Dt Hg) (mC:Good P w K mg base "is_name" 1 K8 dJ) (QK:Good P w K mg base "are_rising_within" 3 DN jF):Good P w K mg base "is_zone" 4 K5 dz:=by
 refine C.good gF (λvs H Q E h=>?_) (λf cdv A outer s H vs Q E hr h=>?_)
 ·obtain⟨v,z,rfl,_⟩:=h
  rfl
 obtain⟨v,z,rfl,⟨t,u,rfl,ht,hu⟩,ok,q⟩:=h
 refine⟨_,(Ai (Ay (En (Aw Cq hr (Aa (pv 0) (Aa Ad (Aa Ad Ac)))) (En (Aw mC hr (Aa (Bh Bu (pv 0) Ad (λ_ _=>rfl)) Ac)) (Ed (Aw QK hr (@Aa _ _ _ _ _ (Bh Bu (pv 0) Ad (λ_ _=>rfl)) (@Aa _ _ _ _ _ (@Ad _ _ _ _) (@Aa _ _ _ _ _ (@Ad _ _ _ _) (@Aa _ _ _ _ _ (@Ad _ _ _ _) (@Aa _ _ _ _ _ (@Ad _ _ _ _) (@Ac _) Bx) Bx) Bx) Bx) xP))))))),?_⟩
 refine⟨_,rfl,.ref t,2,2,rfl,Iz ht,_,rfl,?_⟩
 rw[Di ht,Et (by show (2:Int)<=2;decide) (by show (2:Int)<=2;decide)]
 refine Cp ⟨_,rfl,t,_,_,_,rfl,rfl,SqT.of ht,rfl,z.name,rfl,ok.nm.1.1,ok.nm.1.2,ok.nm.2,λH1 s1=>⟨_,rfl,Cp ?_⟩⟩
 have u1:=ok.up.2.1
 have u2:=ok.up.2.2
 exact⟨_,rfl,t,_,_,_,rfl,rfl,SqT.of (s1 _ _ ht),rfl,u,z.adr,1,30,1,99,rfl,s1 _ _ hu,ok.up.1,by omega,by omega,by omega,ok.bd,λH2 s2=>q _ (s1.trans s2)⟩
end
abbrev JK:Stmt:=top 33
abbrev FJ:YF:=["plan"]
theorem DR:Ax ["plan","seen","spot","kind","address"] FJ (Aj JK):=⟨rfl,rfl,rfl,by trivial,rfl,by trivial,by trivial⟩
abbrev Ke:Stmt:=top 34
abbrev Gn:YF:=["plan"]
theorem Fv:Ax ["plan","loop","number","spots"] Gn (Aj Ke):=⟨rfl,rfl,rfl,by trivial,rfl,by trivial,by trivial⟩
abbrev Hl:Stmt:=top 35
abbrev Ef:YF:=["plan"]
theorem CZ:Ax ["plan","warners","name","addresses","address"] Ef (Aj Hl):=⟨rfl,rfl,rfl,by trivial,rfl,by trivial,by trivial⟩
abbrev Jh:Stmt:=top 36
abbrev Fb:YF:=["plan"]
theorem Dz:Ax ["plan","seen","name","addresses","address"] Fb (Aj Jh):=⟨rfl,rfl,rfl,by trivial,rfl,by trivial,by trivial⟩
abbrev Wm:Stmt:=top 37
abbrev Ph:YF:=["plan"]
theorem pD:Ax ["plan"] Ph (Aj Wm):=⟨rfl,rfl,rfl,by trivial,rfl,by trivial,by trivial⟩
abbrev Ol:Stmt:=top 38
abbrev Im:YF:=["thing"]
theorem Zj:Ax ["thing"] Im (Aj Ol):=⟨rfl,rfl,rfl,by trivial,rfl,by trivial,by trivial⟩
def Ig:Sp:=λvs H Q _=>∃pl most loops zones,vs=[.ref pl]/\FT H pl most loops zones/\∀H',Same H H'->Q .non H'
def HF {α : Type} (f:α->Key) (xs:List α):YM:=xs.map λx=>(f x,V.bl true)
theorem Oa {α : Type} {f:α->Key} {k:Key}:∀{xs:List α},(∀x∈xs,f x≠k)->DK (HF f xs) k=none
 | [],_=>rfl
 | x::r,h=>by
  have:HF f (x::r)=(f x,V.bl true)::HF f r:=rfl
  rw[this,G9 (p:=(f x,V.bl true)) (h x (QaT ..))]
  exact Oa λy hy=>h y (QaG _ hy)
theorem Lh {α : Type} (f:α->Key) (xs:List α):(HF f xs).length=xs.length:=QbB ..
theorem Ob {α : Type} {f:α->Key} {xs:List α} {x:α} (h:∀y∈xs,f y≠f x):putK (HF f xs) (f x) (.bl true)=HF f (xs++[x]):=by
 rw[Ng _ (Oa h)]
 unfold HF
 rw[QbD]
 rfl
theorem SM {α : Type} {l:List α} (h:l.Nodup) {i:Nat} {x:α} (hx:l[i]?=some x):∀y∈l.take i,y≠x:=λy hy e=>by
 subst e
 obtain⟨j,hj⟩:=QaI hy
 rw[List.getElem?_take] at hj
 split at hj
 ·rename_i hji
  obtain⟨h1,e1⟩:=Qag.mp hj
  obtain⟨h2,e2⟩:=Qag.mp hx
  have:=Qaj.mp h j i h1 h2 hji
  exact this (by rw[e1,e2])
 ·cases hj
theorem Iw {α β : Type} {f:α->β} {l:List α} (h:(l.map f).Nodup) {i:Nat} {x:α} (hx:l[i]?=some x):∀y∈l.take i,f y≠f x:=λy hy e=>by
 have:=SM h (i:=i) (x:=f x) (by rw[Qbk,hx];rfl) (f y) (by rw[<-List.map_take];exact Qcg.mpr ⟨y,hy,rfl⟩)
 exact this e
theorem dg {lp:Int} {ps:List Place}:∀i,i<=ps.length->(stP lp ps i).1.map (λz=>(z.length:Int))=(pst (ps.take i)).1/\((stP lp ps i).2.length:Int)=(pst (ps.take i)).2
 | 0,_=>⟨rfl,rfl⟩
 | i+1,h=>by
  have hi:ps[i]?=some ps[i]:=Qak (by omega)
  obtain⟨h1,h2⟩:=dg (lp:=lp) (ps:=ps) i (by omega)
  rw[Qcx hi,ZD]
  unfold ptS
  by_cases k:V.str ps[i].kind=V.str "opener"
  ·rw[U6 hi k,if_pos k]
   refine⟨?_,rfl⟩
   rw[QbD,h1,<-h2]
   rfl
  ·rw[Sh hi k,if_neg k]
   refine⟨h1,?_⟩
   show (((stP lp ps i).2++(BL lp ((1+i:Nat):Int) ps[i]).map Sd.spot).length:Int)=_
   rw[QaS,QbB,<-h2]
   have:(BL lp ((1+i:Nat):Int) ps[i]).length=1+ps[i].spur.length:=by
    unfold BL
    rw[if_neg k,Qbt,Mg]
    omega
   rw[this]
   push_cast
   omega
theorem p8 {lp:Int} {ps:List Place}:∀z∈(stP lp ps ps.length).1++[(stP lp ps ps.length).2],(z.length:Int)∈G6 ps:=λz hz=>by
 obtain⟨h1,h2⟩:=dg (lp:=lp) (ps:=ps) ps.length (Qcn _)
 rw[Qbs] at h1 h2
 unfold G6
 rw[<-h1,<-h2]
 rcases QbC.mp hz with h | h
 ·exact QaH _ (Qcg.mpr ⟨z,h,rfl⟩)
 ·have:z=(stP lp ps ps.length).2:=by simpa using h
  rw[this]
  exact QaB _ (QaX.mpr rfl)
theorem rE {zones:List Zone} (h:∀z∈zones,z.adr.length<=30):(zones.flatMap (·.adr)).length<=30*zones.length:=by
 induction zones with
 | nil=>exact Qcn _
 | cons a r ih=>
  have h1:=ih λz hz=>h z (QaG _ hz)
  have h2:=h a (QaT ..)
  rw[Qbn,QaS,Qbt]
  omega
theorem rD {a b:List Zone} (h:a.Sublist b):(a.flatMap (·.adr)).Sublist (b.flatMap (·.adr)):=by
 induction h with
 | slnil=>exact .slnil
 | cons x _ ih=>rw[Qbn];exact List.Sublist.trans ih (List.sublist_append_right _ _)
 | cons_cons x _ ih=>rw[Qbn,Qbn];exact List.Sublist.append_left ih _
theorem Xq (lp a:Int):∀(n:Nat) (ds:List Dev) (d:Dev),d∈ds->∃z∈Dq lp a n ds,z.kind=d.kind/\z.addr=d.addr
 | _,[],d,h=>by cases h
 | n,x::r,d,h=>by
  rcases QbX.mp h with rfl | h
  ·exact⟨_,QaT ..,rfl,rfl⟩
  ·obtain⟨z,h1,h2⟩:=Xq lp a (n+1) r d h
   exact⟨z,QaG _ h1,h2⟩
theorem Yo {α : Type} {f:Nat->List α} {x:α} {i:Nat} (h:x∈f i):∀{n:Nat},i < n->x∈up f n
 | 0,hn=>by omega
 | n+1,hn=>by
  rw[Ey]
  by_cases e:i=n
  ·subst e;exact QaB _ h
  ·exact QaH _ (Yo h (by omega))
theorem uI {loops:YU} (h:CW loops) {x:Int} (hx:x∈Ep loops):∃z∈(up (pdL loops) loops.length).filter (λz=>El z.kind),z.addr=x:=by
 obtain⟨ps,hps,hx⟩:=QbA.mp hx
 obtain⟨p,hp,hx⟩:=QbA.mp hx
 obtain⟨d,hd,rfl⟩:=Qcg.mp hx
 obtain⟨hd,hw⟩:=QbI.mp hd
 obtain⟨k,hk⟩:=QaI hps
 obtain⟨i,hi⟩:=QaI hp
 have hkl:=(Qag.mp hk).1
 have hil:=(Qag.mp hi).1
 have hop:¬V.str p.kind=V.str "opener":=by
  rcases ((h.ok ps hps).ok p hp).form with⟨e1,e2,e3⟩| hk
  ·have:d=⟨p.kind,p.addr⟩:=by
    unfold Fo at hd
    rw[e3] at hd
    simpa using hd
   rw[this] at hw
   have hw:El p.kind=true:=hw
   rw[e1] at hw
   exact absurd hw (by trivial)
  ·exact Kp hk
 have key:∃z∈BL (k:Int) ((1+i:Nat):Int) p,z.kind=d.kind/\z.addr=d.addr:=by
  unfold BL
  rw[if_neg hop]
  unfold Fo at hd
  rcases QbX.mp hd with rfl | hd
  ·exact⟨_,QaT ..,rfl,rfl⟩
  ·obtain⟨z,h1,h2⟩:=Xq (k:Int) ((1+i:Nat):Int) 1 p.spur d hd
   exact⟨z,QaG _ h1,h2⟩
 obtain⟨z,hz,e1,e2⟩:=key
 refine⟨z,QbI.mpr ⟨Yo (i:=k) ?_ hkl,by show El z.kind=true;rw[e1];exact hw⟩,e2⟩
 unfold pdL
 rw[Cw hk]
 refine Yo (i:=i) ?_ hil
 unfold pd1
 rw[Cw hi]
 exact hz
section
variable {P:Program} {w:World} {K:YD} {mg:YB} {base:Heap} {op oe kd wk:Addr}
theorem Z1 (C:Code K mg "are_zones" Oo Io) (T:Ty K mg op oe kd wk) (Cq:Good P w K mg base "is_row" 1 Dt Hg) (mj:Good P w K mg base "is_zone" 4 K5 dz):Good P w K mg base "are_zones" 5 Io Y6:=by
 refine C.good Zn (λvs H Q E h=>?_) (λf cdv A outer s H vs Q E hr h=>?_)
 ·obtain⟨zs,ws,zones,rfl,_⟩:=h
  rfl
 obtain⟨t,ws,zones,rfl,ht,hd,ok,l8,nd,q⟩:=h
 have lw:=QbW hd
 refine⟨_,(Af (Ci (PW.pt (Ml (Fx (Ds (Aw Cq hr (Aa (pv 0) (Aa Ad (Aa Ad Ac)))))) (Nf (Fx (Ds (Az (Hu rfl) rfl T.all Lp (Aa (Cg (N':=["part"]) rfl (Bg.plain rfl (by trivial) (by trivial) (by trivial)) (Fy (pv 0)) (λ_ _ _ _=>(Ah (i:=0) (show List.Nodup (["part"]:YF) by trivial) rfl (Or.inl rfl))) (λ_ _ _ _=>CQ) (λ_ _ _ _=>(Aw mj hr (Aa (pv 0) Ac)))) Ac))))))) (Ai (Ay Gf)) BK)
 (Ai (Ay (Jt G7 (Az nJ rfl T.len Cz (Aa (p7 (N':=["name","addresses"]) rfl (Bg.plain rfl (by trivial) (by trivial) (by trivial)) (Fy (pv 0)) (λ_ _ _ _=>(Fp (K:=K) (n:=2) rfl rfl (Ak (Ah (i:=0) (show List.Nodup (["name","addresses"]:YF) by trivial) rfl (Or.inl rfl)) (Ak (Ah (i:=1) (show List.Nodup (["name","addresses"]:YF) by trivial) rfl (Or.inl rfl)) Bp)))) (λ_ _ _ _=>CQ) (λ_ _ _ _=>(pv 0)) (λ_ _ _ _=>Gf)) Ac)) (Az Bl rfl T.len Cz (Aa (pv 0) Ac)) (Br _))))),?_⟩
 show let R0:TS:=_;Ao _ R0 _ _ _
 intro R0
 refine⟨_,rfl,.ref t,0,8,rfl,Iz ht,_,rfl,?_⟩
 rw[Di ht,Et (by omega) (by omega)]
 refine Cd ⟨_,rfl,t,rfl,⟨_,SqT.of ht⟩,λl2 hl2=>?_⟩
 refine Lk (r:=[]) hl2 ht (by omega) (λi x HH hx s1 R hR=>?_) (λH' e s1=>?_)
 ·obtain⟨z,hzi,haz⟩:=Paired.Ce hd hx
  exact⟨_,rfl,x,z,rfl,haz.tups (Al.of s1),ok z (QaF hzi),λH2 s2=>hR _ s2⟩
 refine⟨l2,List.replicate ws.length true,rfl,SqL.of e,_,rfl,?_⟩
 rw[UJ]
 have ht1:=s1 _ _ ht
 refine Cd ⟨_,rfl,t,rfl,⟨_,SqT.of ht1⟩,λl hl=>?_⟩
 let J0:YN:=λi σ HH=>∃u1 u2,σ=[u1,u2]/\HH l=some (.dK (HF (λz:Zone=>Sum.inr z.name) (zones.take i)))/\Same H' HH
 refine mY (xs:=ws) J0 ⟨_,_,rfl,Ab,Ae hl _⟩ (λi σ HH _ h=>?_) (λi x σ HH hx h=>?_) (fun σ HH h=>?_)
 ·obtain⟨u1,u2,rfl,e1,e2⟩:=h
  exact SqT.of (e2 _ _ ht1)
 ·obtain⟨u1,u2,rfl,e1,e2⟩:=h
  obtain⟨z,hzi,tz,uz,rfl,h1,h2⟩:=Paired.Ce hd hx
  refine⟨tz,_,rfl,SqT.of (e2 _ _ (s1 _ _ h1)),rfl,_,_,rfl,_,_,rfl,rfl,?_⟩
  refine Cp ⟨_,rfl,_,Sum.inr z.name,e1,rfl,Aq (by rw[Lh,Qbu];omega),_,_,rfl,?_,e2.Bm Ag.upd hl⟩
  rw[Ab,Ob (f:=λz:Zone=>Sum.inr z.name) (x:=z),Qcx hzi]
  exact λy hy e=>Iw nd hzi y hy (Sum.inr.inj e)
 ·obtain⟨u1,u2,rfl,e1,e2⟩:=h
  rw[lw,Qbs] at e1
  refine⟨l,_,rfl,e1,_,rfl,t,_,rfl,.inr (SqT.of (e2 _ _ ht1)),rfl,?_⟩
  rw[Lh,lw]
  have:decide (V.int (zones.length:Int)=V.int (zones.length:Int))=true:=QbR rfl
  rw[this]
  exact q _ (s1.trans e2)
theorem iu (C:Code K mg "is_plan" Ra K7) (T:Ty K mg op oe kd wk) (Cq:Good P w K mg base "is_row" 1 Dt Hg) (Ge:Good P w K mg base "is_within" 2 Eu M4) (cC:Good P w K mg base "are_loops" 8 Ip Zb) (cB:Good P w K mg base "are_zones" 5 Io Y6) (Ht:Good P w K mg base "devices" 2 Gw U7):Good P w K mg base "is_plan" 9 K7 Ss:=by
 have sc:=JF
 refine C.good JF (λvs H Q E h=>?_) (λf cdv A outer s H vs Q E hr h=>?_)
 ·obtain⟨pl,most,loops,zones,rfl,_⟩:=h
  rfl
 obtain⟨pl,most,loops,zones,rfl,pa,q⟩:=h
 obtain⟨Ls,zs,ws,zvs,e1,e2,e3,e4,e5⟩:=pa.at_
 refine⟨_,(Af (Ci (Fx (Ds (Aw Cq hr (Aa (pv 0) (Aa Ad (Aa Ad Ac)))))) (Ai (Ay Gf)) BK)
 (Af (Gj (pv 0) (Cv rfl (Ak (Ah (i:=1) JF.nd rfl (Or.inl rfl)) (Ak (Ah (i:=2) JF.nd rfl (Or.inl rfl)) (Ak (Ah (i:=3) JF.nd rfl (Or.inl rfl)) Bp)))))
 (Af (Ci (PW.pt (Ml (Fx (Ds (Aw Ge hr (Aa (pv 1) (Aa Ad (Aa Ad Ac)))))) (Ml (Fx (Ds (Aw cC hr (Aa (pv 2) Ac)))) (Nf (Fx (Ds (Aw cB hr (Aa (pv 3) Ac)))))))) (Ai (Ay Gf)) BK)
 (Ai (Ay (Qd Mp Mp Ad (Az Bl rfl T.len Cz (Aa (Aw Ht hr (Aa (pv 0) Ac)) Ac)) Ad)))))),?_⟩
 show let R0:TS:=_;let R1:TS:=Ao _ R0;let R2:TS:=Ao _ R1;Ao _ R2 _ _ _
 intro R0 R1 R2
 refine⟨_,rfl,.ref pl,3,3,rfl,Iz e1,_,rfl,?_⟩
 rw[Di e1,Et (by show (3:Int)<=3;decide) (by show (3:Int)<=3;decide)]
 refine Cd ⟨_,rfl,pl,_,rfl,SqT.of e1,rfl,_,_,rfl,_,_,rfl,_,_,rfl,rfl,?_⟩
 refine⟨_,rfl,most,1,30,rfl,_,rfl,?_⟩
 rw[QbR pa.pok.mo]
 refine Cd ⟨_,rfl,Ls,ws,loops,rfl,e2,e3,pa.ok.ok,pa.pok.bd,pa.lo,pa.ok.hi,λH1 s1=>⟨_,rfl,Cd ?_⟩⟩
 refine⟨_,rfl,zs,zvs,zones,rfl,s1 _ _ e4,Paired.Av e5 λ_ _ z=>z.tups (Al.of s1),λz hz=>⟨pa.pok.znm z hz,pa.pok.zup z hz,λx hx=>pa.pok.bd x (oO pa.ok (pa.pok.zin z hz x hx))⟩,pa.pok.wN,pa.pok.zdi,λH2 s2=>⟨_,rfl,Cd ?_⟩⟩
 have s12:=s1.trans s2
 refine⟨_,rfl,pl,loops,rfl,(pa.same s12).plan,pa.ok,λl xs H3 hl hx hp s3=>?_⟩
 have lx:=QbW hp
 have la:(up (pdL loops) loops.length).length=(Cr loops).length:=by rw[<-Jy loops,QbB]
 have c1:=pa.pok.cnt.1
 have c2:=pa.pok.cnt.2
 refine⟨l,_,rfl,.inl (SqL.of hx),_,_,rfl,rfl,_,rfl,?_⟩
 have g1:decide ((1:Int)<=(xs.length:Int))=true:=QbR (by omega)
 rw[g1]
 refine Cp ⟨_,_,rfl,rfl,?_⟩
 have g2:decide ((xs.length:Int)<=30)=true:=QbR (by omega)
 show Q (.bl (decide ((xs.length:Int)<=30))) H3
 rw[g2]
 exact q _ (s12.trans s3)
theorem Ul (C:Code K mg "address_twice" JK FJ) (T:Ty K mg op oe kd wk) (Ht:Good P w K mg base "devices" 2 Gw U7):Good P w K mg base "address_twice" 3 FJ Ig:=by
 have sc:=DR
 refine C.good DR (λvs H Q E h=>?_) (λf cdv A outer s H vs Q E hr h=>?_)
 ·obtain⟨pl,most,loops,zones,rfl,_⟩:=h
  rfl
 obtain⟨pl,most,loops,zones,rfl,pa,q⟩:=h
 refine⟨_,(Af (Ba (i:=1) DR.nd rfl (Or.inl rfl) ZP)
 (Af (Cj QbE rfl (Dk (Aw Ht hr (Aa (pv 0) Ac))) (Cv rfl (Ak (Ah (i:=2) DR.nd rfl (Or.inl rfl)) (Ak (Ah (i:=3) DR.nd rfl (Or.inl rfl)) (Ak (Ah (i:=4) DR.nd rfl (Or.inl rfl)) Bp))))
 (Af (Ci (Rk (j5 (Dg hr) (pv 4) (pv 1))) (Ai (Ay (Bd (Aa Bt (Aa (pv 4) Ac))))) BK)
 (Ai (Mt (Dg hr) (pv 1) (pv 4) Gf rfl))))
 (Ai (Ay Np)))),?_⟩
 show let R0:TS:=_;let R1:TS:=Ao (Ga _ R0 _) _;let R2:TS:=Ao (DQ _ _ R1) _;Ao _ R2 _ _ _
 intro R0 R1 R2
 refine λd hd=>?_
 have s0:=Ae hd (.dK [])
 refine⟨_,rfl,pl,loops,rfl,(pa.same s0).plan,pa.ok,λl xs H1 hl hx hp s1=>⟨l,rfl,⟨_,SqL.of hx⟩,?_⟩⟩
 have lx:=QbW hp
 have la:(up (pdL loops) loops.length).length=(Cr loops).length:=by rw[<-Jy loops,QbB]
 have c2:=pa.pok.cnt.2
 have nd:((up (pdL loops) loops.length).map (·.addr)).Nodup:=by rw[Jy];exact pa.pok.nd
 generalize up (pdL loops) loops.length=ds at *
 have hd1:H1 d=some (.dK []):=s1 _ _ Ab
 have nld:l≠d:=λz=>by rw[z,hd1] at hx;cases hx
 have nt:∀HH:Hp,(∃kvs,HH d=some (.dK kvs))->∀zs,HH d≠some (.tup zs):=λHH ⟨kvs,e⟩ zs z=>by rw[e] at z;cases z
 let J1:YN:=λi σ HH=>∃u2 u3 u4,σ=[some (.ref pl),some (.ref d),u2,u3,u4]/\HH d=some (.dK (HF (λz:Sd=>Sum.inl z.addr) (ds.take i)))/\Ag d H1 HH
 refine Qv (xs:=xs) J1 ⟨_,_,_,rfl,hd1,Ag.refl d H1⟩ (λi σ HH _ h=>?_) (λi x σ HH hx' h=>?_) (fun σ HH h=>?_)
 ·obtain⟨u2,u3,u4,rfl,e1,e2⟩:=h
  exact SqL.of (e2 _ _ hx nld)
 ·obtain⟨u2,u3,u4,rfl,e1,e2⟩:=h
  obtain⟨z,hzi,tz,uz,rfl,h1,h2⟩:=Paired.Ce hp hx'
  have sT:=e2.tup (nt H1 ⟨_,hd1⟩)
  have fr:∀y∈ds.take i,(Sum.inl y.addr:Key)≠Sum.inl z.addr:=λy hy e=>Iw nd hzi y hy (Sum.inl.inj e)
  refine⟨tz,_,rfl,SqT.of (sT _ _ h1),rfl,_,_,rfl,_,_,rfl,_,_,rfl,rfl,?_⟩
  refine⟨_,rfl,_,rfl,d,_,rfl,Dw.k (k:=Sum.inl z.addr) e1,_,rfl,?_⟩
  rw[Oa fr]
  refine Cd ⟨_,rfl,_,rfl,d,_,rfl,Ma.k (k:=Sum.inl z.addr) e1 (Aq (by rw[Lh,Qbu];omega)),_,_,_,rfl,?_,e2.trans Ag.upd⟩
  rw[Ab,Ob (f:=λz:Sd=>Sum.inl z.addr) (x:=z) fr,Qcx hzi]
 ·obtain⟨u2,u3,u4,rfl,e1,e2⟩:=h
  exact q _ ((s0.trans s1).Bm e2 hd)
theorem QJ (C:Code K mg "address_stranger" Hl Ef) (T:Ty K mg op oe kd wk) (Ht:Good P w K mg base "devices" 2 Gw U7):Good P w K mg base "address_stranger" 3 Ef Ig:=by
 have sc:=CZ
 refine C.good CZ (λvs H Q E h=>?_) (λf cdv A outer s H vs Q E hr h=>?_)
 ·obtain⟨pl,most,loops,zones,rfl,_⟩:=h
  rfl
 obtain⟨pl,most,loops,zones,rfl,pa,q⟩:=h
 refine⟨_,(Af (pR (i:=1) CZ.nd rfl (Or.inl rfl) (N':=["spot","kind","address"]) rfl (Bg.plain rfl (by trivial) (by trivial) (by trivial)) (Dk (Aw Ht hr (Aa (pv 0) Ac))) (λ_ _ _ _=>(Fp (K:=K) (n:=3) rfl rfl (Ak (Ah (i:=0) (show List.Nodup (["spot","kind","address"]:YF) by trivial) rfl (Or.inl rfl)) (Ak (Ah (i:=1) (show List.Nodup (["spot","kind","address"]:YF) by trivial) rfl (Or.inl rfl)) (Ak (Ah (i:=2) (show List.Nodup (["spot","kind","address"]:YF) by trivial) rfl (Or.inl rfl)) Bp))))) (λ_ _ _ _=>(Gm (Bj (Vk (K:=K) rfl) (pv 1) (Ro rfl T.WARNING_KINDS) (by with_unfolding_all rfl)))) (λ_ _ _ _=>(pv 2)) (λ_ _ _ _=>Gf))
 (Af (Cj QbE rfl (Fy (Bh Bu (pv 0) Ad (λ_ _=>rfl))) (Cv rfl (Ak (Ah (i:=2) CZ.nd rfl (Or.inl rfl)) (Ak (Ah (i:=3) CZ.nd rfl (Or.inl rfl)) Bp)))
 (Ai (Cj QbE rfl (Fy (pv 3)) (Ah (i:=4) CZ.nd rfl (Or.inl rfl))
 (Ai (Ci (Rk (Rp (Dg hr) (pv 4) (pv 1))) (Ai (Ay (Bd (Aa Bt (Aa (pv 2) (Aa (pv 4) Ac)))))) BK)))))
 (Ai (Ay Np)))),?_⟩
 show let R0:TS:=_;let R1:TS:=Ga _ R0 _;let R2:TS:=DQ _ _ R1;let R3:TS:=Ao (DQ _ _ R2) _;Ao _ R3 _ _ _
 intro R0 R1 R2 R3
 refine⟨_,rfl,pl,loops,rfl,pa.plan,pa.ok,λl xs H1 hl hx hp s1=>⟨l,rfl,⟨_,SqL.of hx⟩,λd hd=>?_⟩⟩
 have lx:=QbW hp
 have la:(up (pdL loops) loops.length).length=(Cr loops).length:=by rw[<-Jy loops,QbB]
 have c2:=pa.pok.cnt.2
 have nd:((up (pdL loops) loops.length).map (·.addr)).Nodup:=by rw[Jy];exact pa.pok.nd
 have hw:∀x∈Ep loops,∃z∈(up (pdL loops) loops.length).filter (λz=>El z.kind),z.addr=x:=λx hx=>uI pa.ok hx
 generalize up (pdL loops) loops.length=ds at *
 have nld:l≠d:=Bb hx hd
 let J2:YN:=λi σ HH=>∃u2 u3 u4,σ=[u2,u3,u4]/\HH d=some (.dK (HF (λz:Sd=>Sum.inl z.addr) ((ds.take i).filter λz=>El z.kind)))/\Same H1 HH
 refine cG (xs:=xs) J2 ⟨_,_,_,rfl,Ab,Ae hd _⟩ (λi σ HH _ h=>?_) (λi x σ HH hx' h=>?_) (fun σ HH h=>?_)
 ·obtain⟨u2,u3,u4,rfl,e1,e2⟩:=h
  exact SqL.of (e2 _ _ hx)
 ·obtain⟨u2,u3,u4,rfl,e1,e2⟩:=h
  obtain⟨z,hzi,tz,uz,rfl,h1,h2⟩:=Paired.Ce hp hx'
  have fr:∀y∈(ds.take i).filter (λz=>El z.kind),(Sum.inl y.addr:Key)≠Sum.inl z.addr:=λy hy e=>Iw nd hzi y (QbI.mp hy).1 (Sum.inl.inj e)
  have et:(ds.take (i+1)).filter (λz=>El z.kind)=(ds.take i).filter (λz=>El z.kind)++[z].filter (λz=>El z.kind):=by rw[Qcx hzi,Qbd]
  refine⟨tz,_,rfl,SqT.of (e2 _ _ h1),rfl,_,_,rfl,_,_,rfl,_,_,rfl,rfl,?_⟩
  refine⟨_,rfl,wk,_,rfl,.inr (T.wkT HH),rfl,rfl,_,rfl,?_⟩
  rw[if_neg QaW]
  refine Fg (λhc=>?_) (λhc=>?_)
  ·refine⟨_,rfl,_,Sum.inl z.addr,e1,rfl,Aq ?_,_,_,_,rfl,?_,e2.Bm Ag.upd hd⟩
   ·rw[Lh]
    have:=List.length_filter_le (λz:Sd=>El z.kind) (ds.take i)
    rw[Qbu] at this
    omega
   ·rw[Ab,Ob (f:=λz:Sd=>Sum.inl z.addr) (x:=z) fr,et,show [z].filter (λz=>El z.kind)=[z] from Qas (p:=λz:Sd=>El z.kind) hc]
  ·refine⟨_,_,_,rfl,?_,e2⟩
   rw[et,show [z].filter (λz=>El z.kind)=[] from Qar (p:=λz:Sd=>El z.kind) (by show ¬El z.kind=true;rw[show El z.kind=false from hc];decide),QbG]
   exact e1
 obtain⟨u2,u3,u4,rfl,e1,e2⟩:=h
 rw[lx,Qbs] at e1
 have s2:=s1.trans e2
 obtain⟨Ls,zs,ws,zvs,f1,f2,f3,f4,f5⟩:=pa.at_
 refine⟨_,rfl,pl,_,_,_,rfl,rfl,SqT.of (s2 _ _ f1),rfl,zs,rfl,⟨_,SqT.of (s2 _ _ f4)⟩,?_⟩
 let J3:YN:=λi σ HX=>∃u2 u3 u4,σ=[some (.ref pl),some (.ref d),u2,u3,u4]/\HX=HH
 refine Mx (xs:=zvs) J3 ⟨_,_,_,rfl,rfl⟩ (λi σ HX _ h=>?_) (λi x σ HX hx' h=>?_) (fun σ HX h=>?_)
 ·obtain⟨u2,u3,u4,rfl,rfl⟩:=h
  exact SqT.of (s2 _ _ f4)
 ·obtain⟨u2,u3,u4,rfl,rfl⟩:=h
  obtain⟨z,hzi,tz,uz,rfl,h1,h2⟩:=Paired.Ce f5 hx'
  refine⟨tz,_,rfl,SqT.of (s2 _ _ h1),rfl,_,_,rfl,_,_,rfl,rfl,?_⟩
  refine⟨_,rfl,uz,rfl,⟨_,SqT.of (s2 _ _ h2)⟩,?_⟩
  let J4:YN:=λi σ HY=>∃u4,σ=[some (.ref pl),some (.ref d),some (.str z.name),some (.ref uz),u4]/\HY=HX
  refine Mx (xs:=z.adr.map V.int) J4 ⟨_,rfl,rfl⟩ (λi σ HY _ h=>?_) (λi x σ HY hx2 h=>?_) (fun σ HY h=>?_)
  ·obtain⟨u4,rfl,rfl⟩:=h
   exact SqT.of (s2 _ _ h2)
  ·obtain⟨u4,rfl,rfl⟩:=h
   rw[Qbk] at hx2
   obtain⟨n1,hn1,rfl⟩:=Qax.mp hx2
   obtain⟨y,hy,ey⟩:=hw n1 (pa.pok.zin z (QaF hzi) n1 (QaF hn1))
   have hs:(DK (HF (λz:Sd=>Sum.inl z.addr) (ds.filter λz=>El z.kind)) (Sum.inl n1)).isSome=true:=by
    rw[<-MF,List.any_eq_true]
    exact⟨_,Qcg.mpr ⟨y,hy,rfl⟩,QbR (by show (Sum.inl y.addr:Key)=_;rw[ey])⟩
   refine⟨_,rfl,_,rfl,d,_,rfl,Dw.k (k:=Sum.inl n1) e1,_,rfl,?_⟩
   rw[hs]
   exact Cd ⟨_,rfl,rfl⟩
  ·obtain⟨u4,rfl,rfl⟩:=h
   exact⟨_,_,_,rfl,rfl⟩
 ·obtain⟨u2,u3,u4,rfl,rfl⟩:=h
  exact q _ s2
theorem Tv (C:Code K mg "address_shared" Jh Fb) (T:Ty K mg op oe kd wk):Good P w K mg base "address_shared" 1 Fb Ig:=by
 have sc:=Dz
 refine C.good Dz (λvs H Q E h=>?_) (λf cdv A outer s H vs Q E hr h=>?_)
 ·obtain⟨pl,most,loops,zones,rfl,_⟩:=h
  rfl
 obtain⟨pl,most,loops,zones,rfl,pa,q⟩:=h
 refine⟨_,(Af (Ba (i:=1) Dz.nd rfl (Or.inl rfl) ZP)
 (Af (Cj QbE rfl (Fy (Bh Bu (pv 0) Ad (λ_ _=>rfl))) (Cv rfl (Ak (Ah (i:=2) Dz.nd rfl (Or.inl rfl)) (Ak (Ah (i:=3) Dz.nd rfl (Or.inl rfl)) Bp)))
 (Ai (Cj QbE rfl (Fy (pv 3)) (Ah (i:=4) Dz.nd rfl (Or.inl rfl))
 (Af (Ci (Rk (j5 (Dg hr) (pv 4) (pv 1))) (Ai (Ay (Bd (Aa Bt (Aa (pv 2) (Aa (pv 4) Ac)))))) BK)
 (Ai (Mt (Dg hr) (pv 1) (pv 4) Gf rfl))))))
 (Ai (Ay Np)))),?_⟩
 show let R0:TS:=_;let R1:TS:=Ao (Ga _ R0 _) _;let R2:TS:=DQ _ _ R1;let R3:TS:=Ao (DQ _ _ R2) _;Ao _ R3 _ _ _
 intro R0 R1 R2 R3
 refine λd hd=>?_
 have s0:=Ae hd (.dK [])
 obtain⟨Ls,zs,ws,zvs,f1,f2,f3,f4,f5⟩:=pa.at_
 have nd:=pa.pok.znd
 have zl:=QbW f5
 have c8:=pa.pok.wN
 have Fk:∀i,((zones.take i).flatMap (·.adr)).length<=30*(zones.take i).length:=λi=>rE λz hz=>(pa.pok.zup z (List.mem_of_mem_take hz)).2.2
 refine⟨_,rfl,pl,_,_,_,rfl,rfl,SqT.of (s0 _ _ f1),rfl,zs,rfl,⟨_,SqT.of (s0 _ _ f4)⟩,?_⟩
 let J5:YN:=λi σ HX=>∃u2 u3 u4,σ=[some (.ref pl),some (.ref d),u2,u3,u4]/\HX d=some (.dK (HF Sum.inl ((zones.take i).flatMap (·.adr))))/\Same H HX
 refine Mx (xs:=zvs) J5 ⟨_,_,_,rfl,Ab,s0⟩ (λi σ HX _ h=>?_) (λi x σ HX hx' h=>?_) (fun σ HX h=>?_)
 ·obtain⟨u2,u3,u4,rfl,e1,e2⟩:=h
  exact SqT.of (e2 _ _ f4)
 ·obtain⟨u2,u3,u4,rfl,e1,e2⟩:=h
  obtain⟨z,hzi,tz,uz,rfl,h1,h2⟩:=Paired.Ce f5 hx'
  have hm:=QaF hzi
  refine⟨tz,_,rfl,SqT.of (e2 _ _ h1),rfl,_,_,rfl,_,_,rfl,rfl,?_⟩
  refine⟨_,rfl,uz,rfl,⟨_,SqT.of (e2 _ _ h2)⟩,?_⟩
  have Lu:=(pa.pok.zup z hm).2.2
  have hlen:(z.adr.map V.int).length=z.adr.length:=QbB ..
  have hsp:(zones.take (i+1)).flatMap (·.adr)=(zones.take i).flatMap (·.adr)++z.adr:=by rw[Qcx hzi,QaM];simp
  have ndz:((zones.take i).flatMap (·.adr)++z.adr).Nodup:=by
   rw[<-hsp]
   exact (rD (List.take_sublist (i+1) zones)).nodup nd
  have hc:=Fk i
  have hti:(zones.take i).length<=8:=by rw[Qbu];omega
  let J6:YN:=λj σ HY=>∃u4,σ=[some (.ref pl),some (.ref d),some (.str z.name),some (.ref uz),u4]/\HY d=some (.dK (HF Sum.inl ((zones.take i).flatMap (·.adr)++z.adr.take j)))/\Same H HY
  refine Mx (xs:=z.adr.map V.int) J6 ⟨_,rfl,by rw[List.take_zero,QbG];exact e1,e2⟩ (λj σ HY _ h=>?_) (λj x σ HY hx2 h=>?_) (fun σ HY h=>?_)
  ·obtain⟨u4,rfl,_,e⟩:=h
   exact SqT.of (e _ _ h2)
  ·obtain⟨u4,rfl,g1,g2⟩:=h
   rw[Qbk] at hx2
   obtain⟨n1,hn1,rfl⟩:=Qax.mp hx2
   have fr:∀y∈(zones.take i).flatMap (·.adr)++z.adr.take j,(Sum.inl y:Key)≠Sum.inl n1:=λy hy e=>by
    have e:=Sum.inl.inj e
    subst e
    obtain⟨_,n2,n3⟩:=List.nodup_append.mp ndz
    rcases QbC.mp hy with h | h
    ·exact n3 y h y (QaF hn1) rfl
    ·exact SM n2 hn1 y h rfl
   refine⟨_,rfl,_,rfl,d,_,rfl,Dw.k (k:=Sum.inl n1) g1,_,rfl,?_⟩
   rw[Oa fr]
   refine Cd ⟨_,rfl,_,rfl,d,_,rfl,Ma.k (k:=Sum.inl n1) g1 (Aq ?_),_,rfl,?_,g2.Bm Ag.upd hd⟩
   ·rw[Lh,QaS,Qbu]
    omega
   ·rw[Ab,Ob (f:=Sum.inl) (x:=n1) fr,Qcx hn1,Qbl]
  ·obtain⟨u4,rfl,g1,g2⟩:=h
   rw[hlen,Qbs,<-hsp] at g1
   exact⟨_,_,_,rfl,g1,g2⟩
 ·obtain⟨u2,u3,u4,rfl,e1,e2⟩:=h
  exact q _ e2
theorem Vm (C:Code K mg "part_crowded" Ke Gn) (T:Ty K mg op oe kd wk) (v7:Good P w K mg base "parts" 2 Pj dH):Good P w K mg base "part_crowded" 3 Gn Ig:=by
 have sc:=Fv
 refine C.good Fv (λvs H Q E h=>?_) (λf cdv A outer s H vs Q E hr h=>?_)
 ·obtain⟨pl,most,loops,zones,rfl,_⟩:=h
  rfl
 obtain⟨pl,most,loops,zones,rfl,pa,q⟩:=h
 refine⟨_,(Af (Cj QbE rfl (DG rfl T.range (Aa (Az Bl rfl T.len Cz (Aa (Bh Bu (pv 0) Ad (λ_ _=>rfl)) Ac)) Ac)) (Ah (i:=1) Fv.nd rfl (Or.inl rfl))
 (Ai (Cj QbE rfl (j4 rfl T.enumerate (Aw v7 hr (Aa (pv 0) (Aa (pv 1) Ac)))) (Cv rfl (Ak (Ah (i:=2) Fv.nd rfl (Or.inl rfl)) (Ak (Ah (i:=3) Fv.nd rfl (Or.inl rfl)) Bp)))
 (Ai (Ci (Bj Qf (Az Bl rfl T.len Cz (Aa (pv 3) Ac)) (Bh Bu (pv 0) Ad (λ_ _=>rfl)) (Br _)) (Ai (Ay (Bd (Aa Bt (Aa (pv 1) (Aa (pv 2) Ac)))))) BK)))))
 (Ai (Ay Np))),?_⟩
 show let R0:TS:=_;let R1:TS:=Ga _ R0 _;let R2:TS:=DQ _ _ R1;Ao (DQ _ _ R2) _ _ _ _
 intro R0 R1 R2
 obtain⟨Ls,zs,ws,zvs,f1,f2,f3,f4,f5⟩:=pa.at_
 have lw:=QbW f3
 have l3:=pa.ok.hi
 refine⟨_,rfl,pl,_,_,_,rfl,rfl,SqT.of f1,rfl,Ls,_,rfl,.inr (SqT.of f2),_,rfl,by omega,by omega,?_⟩
 rw[Qbm]
 refine FP (λi σ HX=>∃u1 u2 u3,σ=[some (.ref pl),u1,u2,u3]/\Same H HX) ⟨_,_,_,rfl,Same.refl H⟩ (λi σ HX hi h=>?_) (fun σ HX h=>?_)
 ·obtain⟨u1,u2,u3,rfl,e1⟩:=h
  have hwi:ws[i]?=some ws[i]:=Qak hi
  obtain⟨ps,hpi,t,vs',ev,ht,hps⟩:=Paired.Ce f3 hwi
  have hm:=QaF hpi
  have okl:=pa.ok.ok ps hm
  refine⟨_,rfl,_,rfl,pl,Ls,t,_,_,ws,vs',i,ps,?_,e1 _ _ f1,e1 _ _ f2,by rw[hwi,ev],e1 _ _ ht,Paired.Av hps λ_ _ z=>z.tups (Al.of e1),okl.ok,okl.hi,λl xs H1 hl hx hp hfr s1=>⟨l,rfl,⟨_,SqL.of hx⟩,?_⟩⟩
  ·show [V.ref pl,.int (0+(i:Int))]++[]=_
   rw[Int.zero_add]
   rfl
  let J7:YN:=λj σ HY=>∃u2 u3,σ=[some (.ref pl),some (.int (0+(i:Int))),u2,u3]/\Same H1 HY
  refine mG (xs:=xs) (lo:=0) J7 ⟨_,_,rfl,Same.refl H1⟩ (λj σ HY _ h=>?_) (λj x p σ HY hx' h hp'=>?_) (fun σ HY h=>?_)
  ·obtain⟨u2,u3,rfl,g1⟩:=h
   exact SqL.of (g1 _ _ hx)
  ·obtain⟨u2,u3,rfl,g1⟩:=h
   obtain⟨sps,hsi,qq,ys,rfl,hq1,hq2⟩:=Paired.Ce hp hx'
   have ly:=QbW hq2
   have s2:=Ae hp' (.tup [.int ((0+j:Nat):Int),.ref qq])
   have g2:=g1.trans s2
   have hfew:(sps.length:Int)<=most:=pa.pok.few ps hm _ (p8 (lp:=i) sps (QaF hsi))
   refine⟨p,_,rfl,SqT.of Ab,rfl,_,_,rfl,_,_,rfl,rfl,?_⟩
   refine⟨_,rfl,qq,_,rfl,.inl (SqL.of (g2 _ _ hq1)),_,rfl,pl,_,_,_,rfl,rfl,SqT.of (g2 _ _ (s1 _ _ (e1 _ _ f1))),rfl,_,_,rfl,rfl,_,rfl,?_⟩
   have hg:decide ((ys.length:Int) > most)=false:=QbF (by omega)
   rw[show decide (most < (ys.length:Int))=false from hg]
   exact Cd ⟨_,_,rfl,g2⟩
  ·obtain⟨u2,u3,rfl,g1⟩:=h
   exact⟨_,_,_,rfl,e1.trans (s1.trans g1)⟩
 ·obtain⟨u1,u2,u3,rfl,e1⟩:=h
  exact q _ e1
theorem qm (C:Code K mg "wrong" Wm Ph) (T:Ty K mg op oe kd wk) (VH:Good P w K mg base "address_twice" 3 FJ Ig) (Xd:Good P w K mg base "part_crowded" 3 Gn Ig) (Rz:Good P w K mg base "address_stranger" 3 Ef Ig) (Ut:Good P w K mg base "address_shared" 1 Fb Ig):Good P w K mg base "wrong" 4 Ph Ig:=by
 refine C.good pD (λvs H Q E h=>?_) (λf cdv A outer s H vs Q E hr h=>?_)
 ·obtain⟨pl,most,loops,zones,rfl,_⟩:=h
  rfl
 obtain⟨pl,most,loops,zones,rfl,pa,q⟩:=h
 refine⟨_,(Ai (Ay (ZL (Aw VH hr (Aa (pv 0) Ac)) (ZL (Aw Xd hr (Aa (pv 0) Ac)) (ZL (Aw Rz hr (Aa (pv 0) Ac)) (Ed (Aw Ut hr (Aa (pv 0) Ac)))))))),?_⟩
 exact⟨_,rfl,pl,most,loops,zones,rfl,pa,λH1 s1=>⟨rfl,_,rfl,pl,most,loops,zones,rfl,pa.same s1,λH2 s2=>⟨rfl,_,rfl,pl,most,loops,zones,rfl,(pa.same s1).same s2,λH3 s3=>⟨rfl,_,rfl,pl,most,loops,zones,rfl,((pa.same s1).same s2).same s3,λH4 s4=>q _ (s1.trans (s2.trans (s3.trans s4)))⟩⟩⟩⟩
theorem ZW (C:Code K mg "is_let_by" Ol Im) (T:Ty K mg op oe kd wk) (mz:Good P w K mg base "is_plan" 9 K7 Ss) (vZ:Good P w K mg base "wrong" 4 Ph Ig):Good P w K mg base "is_let_by" 10 Im Ss:=by
 refine C.good Zj (λvs H Q E h=>?_) (λf cdv A outer s H vs Q E hr h=>?_)
 ·obtain⟨pl,most,loops,zones,rfl,_⟩:=h
  rfl
 obtain⟨pl,most,loops,zones,rfl,pa,q⟩:=h
 refine⟨_,(Ai (Ay (En (Aw mz hr (Aa (pv 0) Ac)) (Ed (Jt yt (Aw vZ hr (Aa (pv 0) Ac)) Np (Br _)))))),?_⟩
 exact⟨_,rfl,pl,most,loops,zones,rfl,pa,λH1 s1=>⟨_,rfl,Cp ⟨_,rfl,pl,most,loops,zones,rfl,pa.same s1,λH2 s2=>⟨rfl,q _ (s1.trans s2)⟩⟩⟩⟩
end
instance:DecidableEq Sp3:=λa b=>if h:a.lp=b.lp/\a.at_=b.at_/\a.n=b.n then isTrue (by cases a;cases b;simp at h;obtain⟨h1,h2,h3⟩:=h;subst h1 h2 h3;rfl) else isFalse λe=>h (by rw[e];exact⟨rfl,rfl,rfl⟩)
def cd3 (s:Sp3):Int:=s.lp*10000+s.at_*100+s.n
structure Bd3 (s:Sp3):Prop where
 l0:0<=s.lp
 l1:s.lp<=2
 a0:0<=s.at_
 a1:s.at_<=12
 n0:0<=s.n
 n1:s.n<=3
theorem Bd3.inj {s t:Sp3} (h:Bd3 s) (k:Bd3 t) (e:cd3 s=cd3 t):s=t:=by
 unfold cd3 at e
 have h1:=h.l0;have h2:=h.l1;have h3:=h.a0;have h4:=h.a1;have h5:=h.n0;have h6:=h.n1
 have k1:=k.l0;have k2:=k.l1;have k3:=k.a0;have k4:=k.a1;have k5:=k.n0;have k6:=k.n1
 cases s
 cases t
 dsimp only at *
 congr 1 <;> omega
theorem Bd3.c3 {s:Sp3} (h:Bd3 s):C3 s.lp s.at_ s.n (cd3 s):=⟨h.a0,by have:=h.a1;omega,h.n0,by have:=h.n1;omega,rfl⟩
theorem Jp {α : Type} {c:α->Int} {f:Nat->List α} {g:Nat->Int} (hg:∀i,g i<=g (i+1)) (h1:∀i,((f i).map c).Pairwise (· < ·)) (h2:∀i,∀x∈f i,g i<=c x/\c x < g (i+1)):∀n,((up f n).map c).Pairwise (· < ·)/\∀x∈up f n,g 0<=c x/\c x < g n
 | 0=>by rw[O8];exact⟨List.Pairwise.nil,λx h=>by cases h⟩
 | n+1=>by
  obtain⟨a,b⟩:=Jp hg h1 h2 n
  have g0:∀m,g 0<=g m:=λm=>by
   induction m with
   | zero=>exact Qcs _
   | succ m ih=>exact Int.le_trans ih (hg m)
  rw[Ey,QbD]
  refine⟨List.pairwise_append.mpr ⟨a,h1 n,λx hx y hy=>?_⟩,λx hx=>?_⟩
  ·obtain⟨x',hx',rfl⟩:=Qcg.mp hx
   obtain⟨y',hy',rfl⟩:=Qcg.mp hy
   have:=b x' hx'
   have:=h2 n y' hy'
   omega
  ·rcases QbC.mp hx with h | h
   ·have:=b x h
    have:=hg n
    omega
   ·have:=h2 n x h
    have:=g0 n
    omega
theorem Vc (k:Int):∀m:Nat,((List.range m).map λn:Nat=>k+(n:Int)).Pairwise (· < ·):=λm=>by
 rw[List.pairwise_map]
 exact List.pairwise_lt_range.imp λ{a b} h=>by omega
theorem TQ (lp a:Int):∀(n:Nat) (ds:List Dev),(Dq lp a n ds).map (λd=>cd3 d.spot)=(List.range' n ds.length).map λj:Nat=>lp*10000+a*100+(j:Int)
 | _,[]=>rfl
 | n,d::r=>by
  rw[Qbt,List.range'_succ,QbY,<-TQ lp a (n+1) r]
  rfl
theorem ZF (lp a:Int) (p:Place):((BL lp a p).map λd=>cd3 d.spot).Pairwise (· < ·):=by
 unfold BL
 split
 ·exact List.Pairwise.nil
 ·rw[QbY,TQ]
  refine List.pairwise_cons.mpr ⟨λx hx=>?_,?_⟩
  ·obtain⟨j,hj,rfl⟩:=Qcg.mp hx
   have:=List.mem_range'_1.mp hj
   show lp*10000+a*100+0 < _
   omega
  ·rw[List.pairwise_map]
   exact (List.pairwise_lt_range').imp λ{x y} h=>by omega
theorem PL (lp a:Int):∀(n:Nat) (ds:List Dev) (d:Sd),d∈Dq lp a n ds->d.lp=lp/\d.at_=a/\(n:Int)<=d.n/\d.n < (n:Int)+ds.length
 | _,[],d,h=>by cases h
 | n,x::r,d,h=>by
  rcases QbX.mp h with rfl | h
  ·exact⟨rfl,rfl,Qcs _,by show (n:Int) < (n:Int)+((r.length+1:Nat):Int);omega⟩
  ·obtain⟨h1,h2,h3,h4⟩:=PL lp a (n+1) r d h
   exact⟨h1,h2,by omega,by rw[Qbt];omega⟩
theorem T3 {lp a:Int} {p:Place} (h:p.spur.length<=3) {d:Sd} (hd:d∈BL lp a p):d.lp=lp/\d.at_=a/\0<=d.n/\d.n<=3:=by
 unfold BL at hd
 split at hd
 ·cases hd
 ·rcases QbX.mp hd with rfl | hd
  ·exact⟨rfl,rfl,Qcs _,by show (0:Int)<=3;decide⟩
  ·obtain⟨h1,h2,h3,h4⟩:=PL lp a 1 p.spur d hd
   exact⟨h1,h2,by omega,by omega⟩
theorem Ek {α β : Type} {o:Option α} {g:α->List β} {x:β} (h:x∈ifs o g):∃a,o=some a/\x∈g a:=by
 cases o with
 | none=>cases h
 | some a=>exact⟨a,rfl,h⟩
theorem DP {α : Type} {f:Nat->List α} {x:α}:∀{n:Nat},x∈up f n->∃i,i < n/\x∈f i
 | 0,h=>by rw[O8] at h;cases h
 | n+1,h=>by
  rw[Ey] at h
  rcases QbC.mp h with h | h
  ·obtain⟨i,a,b⟩:=DP h
   exact⟨i,by omega,b⟩
  ·exact⟨n,Qby n,h⟩
theorem Jj {α β : Type} {c:β->Int} {o:Option α} {g:α->List β} (h:∀a,o=some a->((g a).map c).Pairwise (· < ·)):((ifs o g).map c).Pairwise (· < ·):=by
 cases o with
 | none=>exact List.Pairwise.nil
 | some a=>exact h a rfl
theorem Tc {loops:YU} (ok:CW loops) {k:Nat} {d:Sd} (h:d∈pdL loops k):d.lp=(k:Int)/\1<=d.at_/\d.at_<=12/\0<=d.n/\d.n<=3:=by
 obtain⟨ps,hps,h⟩:=Ek h
 have okl:=ok.ok ps (QaF hps)
 obtain⟨i,hi,h⟩:=DP h
 obtain⟨p,hp,h⟩:=Ek h
 obtain⟨h1,h2,h3,h4⟩:=T3 (okl.ok p (QaF hp)).spur h
 have:=okl.hi
 exact⟨h1,by rw[h2];omega,by rw[h2];omega,h3,h4⟩
theorem Uv {loops:YU} (ok:CW loops):((up (pdL loops) loops.length).map λd=>cd3 d.spot).Pairwise (· < ·):=by
 refine (Jp (g:=λi=>(i:Int)*10000) (λi=>by omega) (λk=>Jj λps hps=>?_) (λk d hd=>?_) loops.length).1
 ·have okl:=ok.ok ps (QaF hps)
  refine (Jp (g:=λi=>(k:Int)*10000+(1+i:Int)*100) (λi=>by omega) (λi=>Jj λp hp=>ZF _ _ p) (λi d hd=>?_) ps.length).1
  obtain⟨p,hp,hd⟩:=Ek hd
  obtain⟨h1,h2,h3,h4⟩:=T3 (okl.ok p (QaF hp)).spur hd
  show (k:Int)*10000+(1+i:Int)*100<=d.lp*10000+d.at_*100+d.n/\d.lp*10000+d.at_*100+d.n < (k:Int)*10000+(1+((i+1:Nat):Int))*100
  rw[h1,h2]
  push_cast
  omega
 ·obtain⟨h1,h2,h3,h4,h5⟩:=Tc ok hd
  show (k:Int)*10000<=d.lp*10000+d.at_*100+d.n/\d.lp*10000+d.at_*100+d.n < ((k+1:Nat):Int)*10000
  rw[h1]
  push_cast
  omega
theorem mW {loops:YU} (ok:CW loops):∀d∈up (pdL loops) loops.length,Bd3 d.spot:=λd hd=>by
 obtain⟨k,hk,hd⟩:=DP hd
 obtain⟨h1,h2,h3,h4,h5⟩:=Tc ok hd
 have:=ok.hi
 exact⟨by show 0<=d.lp;omega,by show d.lp<=2;omega,by show 0<=d.at_;omega,h3,h4,h5⟩
theorem Wc {lp:Int} {ps:List Place} (ok:OkL ps) {i:Nat} {s:Sp3} (h:s∈st1 lp ps i):s.lp=lp/\s.at_=((1+i:Nat):Int)/\i < ps.length/\0<=s.n/\s.n<=3:=by
 obtain⟨p,hp,h⟩:=Ek h
 have h3:=(ok.ok p (QaF hp)).spur
 obtain⟨n,hn,rfl⟩:=Qcg.mp h
 have:=QbT.mp hn
 exact⟨rfl,rfl,(Qag.mp hp).1,by show (0:Int)<=(n:Int);omega,by show (n:Int)<=3;omega⟩
theorem jD {loops:YU} (ok:CW loops) {k:Nat} {s:Sp3} (h:s∈stL loops k):s.lp=(k:Int)/\0<=s.at_/\s.at_<=12/\0<=s.n/\s.n<=3:=by
 obtain⟨ps,hps,h⟩:=Ek h
 have okl:=ok.ok ps (QaF hps)
 have Ff:=okl.hi
 rcases QbX.mp h with rfl | h
 ·exact⟨rfl,by show (0:Int)<=0;decide,by show (0:Int)<=12;decide,by show (0:Int)<=0;decide,by show (0:Int)<=3;decide⟩
 ·obtain⟨i,hi,h⟩:=DP h
  obtain⟨h1,h2,h3,h4,h5⟩:=Wc okl h
  exact⟨h1,by rw[h2];omega,by rw[h2];omega,h4,h5⟩
theorem uN {loops:YU} (ok:CW loops):((up (stL loops) loops.length).map cd3).Pairwise (· < ·):=by
 refine (Jp (g:=λi=>(i:Int)*10000) (λi=>by omega) (λk=>Jj λps hps=>?_) (λk d hd=>?_) loops.length).1
 ·have okl:=ok.ok ps (QaF hps)
  obtain⟨a,b⟩:=Jp (c:=cd3) (f:=st1 (k:Int) ps) (g:=λi=>(k:Int)*10000+(1+i:Int)*100) (λi=>by omega) (λi=>Jj λp hp=>by
   rw[Qcj]
   have:=Vc ((k:Int)*10000+((1+i:Nat):Int)*100) (p.spur.length+1)
   exact this) (λi s hs=>by
   obtain⟨h1,h2,h3,h4,h5⟩:=Wc okl hs
   show (k:Int)*10000+(1+i:Int)*100<=s.lp*10000+s.at_*100+s.n/\s.lp*10000+s.at_*100+s.n < (k:Int)*10000+(1+((i+1:Nat):Int))*100
   rw[h1,h2]
   push_cast
   omega) ps.length
  rw[QbY]
  refine List.pairwise_cons.mpr ⟨λx hx=>?_,a⟩
  obtain⟨s,hs,rfl⟩:=Qcg.mp hx
  have h0:=(b s hs).1
  have h0:(k:Int)*10000+(1+((0:Nat):Int))*100<=cd3 s:=h0
  show (k:Int)*10000+0*100+0 < cd3 s
  omega
 ·obtain⟨h1,h2,h3,h4,h5⟩:=jD ok hd
  show (k:Int)*10000<=d.lp*10000+d.at_*100+d.n/\d.lp*10000+d.at_*100+d.n < ((k+1:Nat):Int)*10000
  rw[h1]
  push_cast
  omega
theorem AN {loops:YU} (ok:CW loops):∀s∈up (stL loops) loops.length,Bd3 s:=λs hs=>by
 obtain⟨k,hk,hs⟩:=DP hs
 obtain⟨h1,h2,h3,h4,h5⟩:=jD ok hs
 have:=ok.hi
 exact⟨by omega,by omega,h2,h3,h4,h5⟩
theorem Wr {α : Type} {c:α->Int} {l:List α} (h:(l.map c).Pairwise (· < ·)):l.Nodup:=by
 rw[List.pairwise_map] at h
 exact h.imp λ{a b} hab e=>by rw[e] at hab;omega
abbrev Ji:Stmt:=(inClass (top 44) 0)
abbrev Fd:YF:=["self","plan"]
theorem Tq:Ax ["self","plan"] Fd (Aj Ji):=⟨rfl,rfl,rfl,by trivial,rfl,by trivial,by trivial⟩
abbrev Gi:Stmt:=(inClass (top 44) 1)
abbrev Ck:YF:=["self","stretch"]
theorem Oh:Ax ["self","stretch"] Ck (Aj Gi):=⟨rfl,rfl,rfl,by trivial,rfl,by trivial,by trivial⟩
abbrev Ot:Stmt:=(inClass (top 44) 3)
abbrev Ir:YF:=["self","stretch"]
theorem Zq:Ax ["self","stretch"] Ir (Aj Ot):=⟨rfl,rfl,rfl,by trivial,rfl,by trivial,by trivial⟩
abbrev Lz:Stmt:=(inClass (top 44) 4)
abbrev GK:YF:=["self","stretch"]
theorem Wk:Ax ["self","stretch"] GK (Aj Lz):=⟨rfl,rfl,rfl,by trivial,rfl,by trivial,by trivial⟩
abbrev M8:Stmt:=(inClass (top 44) 5)
abbrev Hr:YF:=["self","stretch"]
theorem Yd:Ax ["self","stretch"] Hr (Aj M8):=⟨rfl,rfl,rfl,by trivial,rfl,by trivial,by trivial⟩
abbrev Ly:Stmt:=(inClass (top 44) 9)
abbrev GJ:YF:=["self"]
theorem Wj:Ax ["self"] GJ (Aj Ly):=⟨rfl,rfl,rfl,by trivial,rfl,by trivial,by trivial⟩
structure Tw (K:YD) (mg:YB) (op oe kd wk C:Addr):Prop extends Ty K mg op oe kd wk where
 cl:Cls K C
 mgC:mg "Wires"=some (.ref C)
 Z8:IV K C "plan"
 Gd:IV K C "states"
 Qm:IV K C "filled"
 Gs:IV K C "gaps"
def ff (pl d1 d2 d3:Addr):List (Str×V):=[("plan",.ref pl),("states",.ref d1),("filled",.ref d2),("gaps",.ref d3)]
theorem qJ:(["plan","states","filled","gaps"]:YF).Nodup:=by trivial
section
variable (pl d1 d2 d3:Addr)
theorem fnd:((ff pl d1 d2 d3).map (·.1)).Nodup:=qJ
theorem FN:List.lookup ("states":Str) (ff pl d1 d2 d3)=some (V.ref d1):=RD (i:=1) (fnd pl d1 d2 d3) rfl
theorem VF:List.lookup ("filled":Str) (ff pl d1 d2 d3)=some (V.ref d2):=RD (i:=2) (fnd pl d1 d2 d3) rfl
end
theorem fno {pl d1 d2 d3:Addr} {x:Str} (h:x∉(["plan","states","filled","gaps"]:YF)):(ff pl d1 d2 d3).lookup x=none:=um h
def k3 (s:Sp3):List Key:=[.inl s.lp,.inl s.at_,.inl s.n]
theorem Rx {s t:Sp3} (h:k3 s=k3 t):s=t:=by
 cases s
 cases t
 simp[k3] at h
 obtain⟨h1,h2,h3⟩:=h
 subst h1 h2 h3
 rfl
abbrev YR:=List (Sp3×Str)
def stV (hs:YR):YL:=hs.map λx=>(k3 x.1,.str x.2)
theorem O7 {κ : Type} [DecidableEq κ]:∀{l:List (κ×V)} {k:κ},(∀x∈l,x.1≠k)->DK l k=none
 | [],_,_=>rfl
 | a::r,k,h=>by rw[G9 (h a (QaT ..))];exact O7 λx hx=>h x (QaG _ hx)
theorem ZC {κ : Type} [DecidableEq κ] {l:List (κ×V)} {k:κ} {v:V} (h:∃x∈l,x.1=k):putK l k v=l.map λkv=>if kv.1=k then (kv.1,v) else kv:=by
 unfold putK
 obtain⟨x,hx,e⟩:=h
 exact if_pos (List.any_eq_true.mpr ⟨x,hx,QbR e⟩)
def Kd {β : Type} (l:List (Sp3×β)) (s:Sp3) (v:β):List (Sp3×β):=l.map λx=>if x.1=s then (x.1,v) else x
theorem T9 {β : Type} (l:List (Sp3×β)) (s:Sp3) (v:β):(Kd l s v).map (·.1)=l.map (·.1):=by
 unfold Kd
 rw[Qcj]
 refine QaL λx _=>?_
 show (if x.1=s then (x.1,v) else x).1=x.1
 split <;> rfl
theorem o8 {β : Type} (l:List (Sp3×β)) (s:Sp3) (v:β):(Kd l s v).length=l.length:=QbB ..
theorem V9 {hs:YR} {s:Sp3} {z:Str} (h:s∈hs.map (·.1)):putK (stV hs) (k3 s) (.str z)=stV (Kd hs s z):=by
 obtain⟨x,hx,e⟩:=Qcg.mp h
 rw[ZC (l:=stV hs) ⟨_,Qcg.mpr ⟨x,hx,rfl⟩,by show k3 x.1=_;rw[e]⟩]
 unfold stV Kd
 rw[Qcj,Qcj]
 refine QaL λy _=>?_
 show (if k3 y.1=k3 s then (k3 y.1,V.str z) else (k3 y.1,V.str y.2))=(k3 (if y.1=s then (y.1,z) else y).1,V.str (if y.1=s then (y.1,z) else y).2)
 by_cases e:y.1=s
 ·rw[if_pos (by rw[e]),if_pos e]
 ·rw[if_neg (λz=>e (Rx z)),if_neg e]
def HeldAt (H:Hp) (v:V):Option (Str×Int)->Prop
 | none=>v=.non
 | some d=>∃t,v=.ref t/\H t=some (.tup [.str d.1,.int d.2])
def JZ (H:Hp) (kv:List Key×V) (x:Sp3×Option (Str×Int)):Prop:=kv.1=k3 x.1/\HeldAt H kv.2 x.2
theorem JZ.tups {H H':Hp} (s:Al H H') {kv:List Key×V} {x:Sp3×Option (Str×Int)} (h:JZ H kv x):JZ H' kv x:=by
 obtain⟨h1,h2⟩:=h
 refine⟨h1,?_⟩
 cases e:x.2 with
 | none=>rw[e] at h2;exact h2
 | some d=>
  rw[e] at h2
  obtain⟨t,a,b⟩:=h2
  exact⟨t,a,s _ _ b⟩
def k2 (g:Gt):List Key:=[.inl g.lp,.inl g.at_]
theorem Vv {s t:Gt} (h:k2 s=k2 t):s=t:=by
 cases s
 cases t
 simp[k2] at h
 obtain⟨h1,h2⟩:=h
 subst h1 h2
 rfl
abbrev YT:=List (Gt×Bool)
def gpV (gs:YT):YL:=gs.map λx=>(k2 x.1,.bl x.2)
structure WAt (C:Addr) (H:Hp) (p pl d1 d2 d3:Addr) (hs:YR) (fl:List (Sp3×Option (Str×Int))) (gs:YT):Prop where
 ins:∃dx,H p=some (.ins C dx (ff pl d1 d2 d3))
 st:H d1=some (.dT (stV hs))
 fi:∃kvs,H d2=some (.dT kvs)/\Paired (JZ H) kvs fl
 nd1:(hs.map (·.1)).Nodup
 nd2:(fl.map (·.1)).Nodup
 l1:hs.length<=200
 l2:fl.length<=200
 gp:H d3=some (.dT (gpV gs))
 nd3:(gs.map (·.1)).Nodup
 l3:gs.length<=200
 n13:d1≠d3
 n23:d2≠d3
abbrev YQ:=List (Sp3×Option (Str×Int))
theorem WAt.same {C:Addr} {H H':Hp} {p pl d1 d2 d3:Addr} {hs:YR} {fl:YQ} {gs:YT} (h:WAt C H p pl d1 d2 d3 hs fl gs) (s:Same H H'):WAt C H' p pl d1 d2 d3 hs fl gs:=by
 obtain⟨dx,e⟩:=h.ins
 obtain⟨kvs,e2,e3⟩:=h.fi
 exact⟨⟨dx,s _ _ e⟩,s _ _ h.st,⟨kvs,s _ _ e2,Paired.Av e3 λ_ _ z=>z.tups (Al.of s)⟩,h.nd1,h.nd2,h.l1,h.l2,s _ _ h.gp,h.nd3,h.l3,h.n13,h.n23⟩
theorem WAt.Hz {C b:Addr} {H H':Hp} {p pl d1 d2 d3:Addr} {hs:YR} {fl:YQ} {gs:YT} (h:WAt C H p pl d1 d2 d3 hs fl gs) (s:Ag b H H') (nt:∀zs,H b≠some (.tup zs)) (n0:p≠b) (n1:d1≠b) (n2:d2≠b) (n3:d3≠b):WAt C H' p pl d1 d2 d3 hs fl gs:=by
 obtain⟨dx,e⟩:=h.ins
 obtain⟨kvs,e2,e3⟩:=h.fi
 exact⟨⟨dx,s _ _ e n0⟩,s _ _ h.st n1,⟨kvs,s _ _ e2 n2,Paired.Av e3 λ_ _ z=>z.tups (s.tup nt)⟩,h.nd1,h.nd2,h.l1,h.l2,s _ _ h.gp n3,h.nd3,h.l3,h.n13,h.n23⟩
def KE (H:Hp) (v:V) (ss:YV):Prop:=∃b s,v=.ref b/\H b=some (.tup [.int s.lp,.int s.at_,.int s.n])/\s∈ss
def Hv (fl:YQ):List Sd:=fl.filterMap λx=>x.2.map λd=>⟨x.1.lp,x.1.at_,x.1.n,d.1,d.2⟩
theorem bM {H:Hp} {v:V} {ss:YV} (h:KE H v ss):RZ (Jz H v) 3=true:=by
 obtain⟨b,s,rfl,hb,_⟩:=h
 rw[Di hb]
 rfl
theorem aP {H:Hp}:∀{kvs:YL} {fl:YQ},Paired (JZ H) kvs fl->kvs.map (·.1)=fl.map λx=>k3 x.1
 | _,_,.nil=>rfl
 | _,_,.cons h t=>by rw[QbY,QbY,h.1,aP t]
theorem oZ {C:Addr} {H H':Hp} {p pl d1 d2 d3:Addr} {hs:YR} {fl:YQ} {gs:YT} {s:Sp3} {z:Str} (R:WAt C H p pl d1 d2 d3 hs fl gs) (n12:d1≠d2) (e:H' d1=some (.dT (stV (Kd hs s z)))) (sb:Ag d1 H H') (nt:∀zs,H d1≠some (.tup zs)) (npd:p≠d1):WAt C H' p pl d1 d2 d3 (Kd hs s z) fl gs:=by
 obtain⟨dx,hp⟩:=R.ins
 obtain⟨kvs,hk,hf⟩:=R.fi
 exact⟨⟨dx,sb _ _ hp npd⟩,e,⟨kvs,sb _ _ hk n12.symm,Paired.Av hf λ_ _ y=>y.tups (sb.tup nt)⟩,by rw[T9];exact R.nd1,R.nd2,by rw[o8];exact R.l1,R.l2,sb _ _ R.gp R.n13.symm,R.nd3,R.l3,R.n13,R.n23⟩
def U8 (C:Addr):Sp:=λvs H Q _=>∃p pl d1 d2 d3 hs fl gs b s,vs=[.ref p,.ref b]/\WAt C H p pl d1 d2 d3 hs fl gs/\H b=some (.tup [.int s.lp,.int s.at_,.int s.n])/\s∈hs.map (·.1)/\∀H',Same H H'->Q .non H'
def Sq (C:Addr) (z:Str):Sp:=λvs H Q _=>∃p pl d1 d2 d3 hs fl gs b s,vs=[.ref p,.ref b]/\WAt C H p pl d1 d2 d3 hs fl gs/\d1≠d2/\H b=some (.tup [.int s.lp,.int s.at_,.int s.n])/\s∈hs.map (·.1)/\∀H',WAt C H' p pl d1 d2 d3 (Kd hs s z) fl gs->Ag d1 H H'->Q .non H'
def dB (C:Addr):Sp:=λvs H Q _=>∃p pl d1 d2 d3 hs fl gs,vs=[.ref p]/\WAt C H p pl d1 d2 d3 hs fl gs/\∀l xs H',H l=none->H' l=some (.lst xs)->Paired (Kw H') xs (Hv fl)->Same H H'->Q (.ref l) H'
theorem uP {H:Hp} {v:V} {s:Sp3} (h:BX H v s):Th H v:=by
 obtain⟨u,rfl,e⟩:=h
 refine⟨.inr ⟨_,e⟩,λxs ex=>?_⟩
 rw[Di e] at ex
 cases ex
 refine⟨by show 3<=100;decide,λy hy=>?_⟩
 have:y=.int s.lp\/y=.int s.at_\/y=.int s.n:=by simpa using hy
 rcases this with rfl | rfl | rfl <;> exact True.intro
section
variable {P:Program} {w:World} {K:YD} {mg:YB} {base:Heap} {op oe kd wk C:Addr}
theorem Uk (c:Jc K C "check_stretch" "Wires.check_stretch" Gi Ck) (T:Tw K mg op oe kd wk C) (Nz:Good P w K mg base "are_wholes" 2 Gp Q0):Dn P w K mg base C "check_stretch" 3 Ck (U8 C):=by
 refine c.good Oh (λvs H Q E h=>?_) (λf cdv A outer s H vs Q E hr h=>?_)
 ·obtain⟨p,pl,d1,d2,d3,hs,fl,gs,b,s,rfl,_⟩:=h
  rfl
 obtain⟨p,pl,d1,d2,d3,hs,fl,gs,b,s',rfl,R,hb,hin,q⟩:=h
 refine⟨_,(Ai (Ci (PW.pt (Ml (Fx (Ds (Aw Nz hr (Aa (pv 1) (Aa Ad Ac))))) (Nf (Rk (Rp (Dg hr) (pv 1) (Df (pv 0) rfl)))))) (Ai Ug) BK)),?_⟩
 refine⟨_,rfl,.ref b,3,rfl,uP ⟨b,rfl,hb⟩,λH1 s1=>⟨_,rfl,?_⟩⟩
 rw[bM ⟨b,s',rfl,hb,hin⟩]
 have R1:=R.same s1
 obtain⟨dx,hp⟩:=R1.ins
 refine Cd ⟨_,rfl,_,rfl,p,C,dx,_,_,rfl,hp,T.cl,T.Gd,FN pl d1 d2 d3,d1,_,rfl,Dw.t (k:=k3 s') R1.st (s1 _ _ hb),_,rfl,?_⟩
 have hs':(DK (stV hs) (k3 s')).isSome=true:=by
  obtain⟨x,hx,e⟩:=Qcg.mp hin
  rw[<-MF,List.any_eq_true]
  exact⟨_,Qcg.mpr ⟨x,hx,rfl⟩,QbR (by show k3 x.1=_;rw[e])⟩
 rw[hs']
 exact Cd (q _ s1)
theorem yD (c:Jc K C "cut" "Wires.cut" Ot Ir) (T:Tw K mg op oe kd wk C) (Eo:Dn P w K mg base C "check_stretch" 3 Ck (U8 C)):Dn P w K mg base C "cut" 4 Ir (Sq C "cut"):=by
 refine c.good Zq (λvs H Q E h=>?_) (λf cdv A outer s H vs Q E hr h=>?_)
 ·obtain⟨p,pl,d1,d2,d3,hs,fl,gs,b,s,rfl,_⟩:=h
  rfl
 obtain⟨p,pl,d1,d2,d3,hs,fl,gs,b,s',rfl,R,n12,hb,hin,q⟩:=h
 refine⟨_,(Af (Bs (JL (pv 0) T.cl Eo hr (Aa (pv 1) Ac)))
 (Ai (Mt (Dg hr) (Df (pv 0) rfl) (pv 1) Bt rfl))),?_⟩
 show let R0:TS:=_;Ao _ R0 _ _ _
 intro R0
 obtain⟨dx,hp⟩:=R.ins
 refine⟨_,rfl,p,dx,_,rfl,hp,fno (by trivial),_,rfl,p,pl,d1,d2,d3,hs,fl,gs,b,s',rfl,R,hb,hin,λH1 s1=>?_⟩
 have R1:=R.same s1
 obtain⟨dx1,hp1⟩:=R1.ins
 have hd1:=R1.st
 have npd:p≠d1:=λz=>by rw[z,hd1] at hp1;cases hp1
 have nt:∀zs,H1 d1≠some (.tup zs):=λzs z=>by rw[hd1] at z;cases z
 have l1:=R.l1
 refine⟨_,rfl,p,C,dx1,_,_,rfl,hp1,T.cl,T.Gd,FN pl d1 d2 d3,_,rfl,d1,_,rfl,Ma.t (k:=k3 s') hd1 (s1 _ _ hb) (Aq (by unfold stV;rw[QbB];omega)),?_⟩
 rw[V9 hin]
 exact q _ (oZ R1 n12 (H':=upd H1 d1 _) Ab (Ag.upd) nt npd) ((Ag.of s1).trans Ag.upd)
theorem qt (c:Jc K C "short" "Wires.short" Lz GK) (T:Tw K mg op oe kd wk C) (Eo:Dn P w K mg base C "check_stretch" 3 Ck (U8 C)):Dn P w K mg base C "short" 4 GK (Sq C "short"):=by
 refine c.good Wk (λvs H Q E h=>?_) (λf cdv A outer s H vs Q E hr h=>?_)
 ·obtain⟨p,pl,d1,d2,d3,hs,fl,gs,b,s,rfl,_⟩:=h
  rfl
 obtain⟨p,pl,d1,d2,d3,hs,fl,gs,b,s',rfl,R,n12,hb,hin,q⟩:=h
 refine⟨_,(Af (Bs (JL (pv 0) T.cl Eo hr (Aa (pv 1) Ac)))
 (Ai (Mt (Dg hr) (Df (pv 0) rfl) (pv 1) Bt rfl))),?_⟩
 show let R0:TS:=_;Ao _ R0 _ _ _
 intro R0
 obtain⟨dx,hp⟩:=R.ins
 refine⟨_,rfl,p,dx,_,rfl,hp,fno (by trivial),_,rfl,p,pl,d1,d2,d3,hs,fl,gs,b,s',rfl,R,hb,hin,λH1 s1=>?_⟩
 have R1:=R.same s1
 obtain⟨dx1,hp1⟩:=R1.ins
 have hd1:=R1.st
 have npd:p≠d1:=λz=>by rw[z,hd1] at hp1;cases hp1
 have nt:∀zs,H1 d1≠some (.tup zs):=λzs z=>by rw[hd1] at z;cases z
 have l1:=R.l1
 refine⟨_,rfl,p,C,dx1,_,_,rfl,hp1,T.cl,T.Gd,FN pl d1 d2 d3,_,rfl,d1,_,rfl,Ma.t (k:=k3 s') hd1 (s1 _ _ hb) (Aq (by unfold stV;rw[QbB];omega)),?_⟩
 rw[V9 hin]
 exact q _ (oZ R1 n12 (H':=upd H1 d1 _) Ab (Ag.upd) nt npd) ((Ag.of s1).trans Ag.upd)
theorem vG (c:Jc K C "mend" "Wires.mend" M8 Hr) (T:Tw K mg op oe kd wk C) (Eo:Dn P w K mg base C "check_stretch" 3 Ck (U8 C)):Dn P w K mg base C "mend" 4 Hr (Sq C "whole"):=by
 refine c.good Yd (λvs H Q E h=>?_) (λf cdv A outer s H vs Q E hr h=>?_)
 ·obtain⟨p,pl,d1,d2,d3,hs,fl,gs,b,s,rfl,_⟩:=h
  rfl
 obtain⟨p,pl,d1,d2,d3,hs,fl,gs,b,s',rfl,R,n12,hb,hin,q⟩:=h
 refine⟨_,(Af (Bs (JL (pv 0) T.cl Eo hr (Aa (pv 1) Ac)))
 (Ai (Mt (Dg hr) (Df (pv 0) rfl) (pv 1) Bt rfl))),?_⟩
 show let R0:TS:=_;Ao _ R0 _ _ _
 intro R0
 obtain⟨dx,hp⟩:=R.ins
 refine⟨_,rfl,p,dx,_,rfl,hp,fno (by trivial),_,rfl,p,pl,d1,d2,d3,hs,fl,gs,b,s',rfl,R,hb,hin,λH1 s1=>?_⟩
 have R1:=R.same s1
 obtain⟨dx1,hp1⟩:=R1.ins
 have hd1:=R1.st
 have npd:p≠d1:=λz=>by rw[z,hd1] at hp1;cases hp1
 have nt:∀zs,H1 d1≠some (.tup zs):=λzs z=>by rw[hd1] at z;cases z
 have l1:=R.l1
 refine⟨_,rfl,p,C,dx1,_,_,rfl,hp1,T.cl,T.Gd,FN pl d1 d2 d3,_,rfl,d1,_,rfl,Ma.t (k:=k3 s') hd1 (s1 _ _ hb) (Aq (by unfold stV;rw[QbB];omega)),?_⟩
 rw[V9 hin]
 exact q _ (oZ R1 n12 (H':=upd H1 d1 _) Ab (Ag.upd) nt npd) ((Ag.of s1).trans Ag.upd)
end
theorem Jq {H HH:Hp} {d:Addr} {o:Obj} {u:HO} (s:Same (upd H d (.frz o u)) HH) (h:H d=some u):Same H (upd HH d u):=λc x e=>by
 by_cases z:c=d
 ·subst z
  rw[Ab,<-h,e]
 ·rw[Am z]
  exact s _ _ (by rw[Am z];exact e)
theorem f9 (fl:YQ) (x:Sp3×Option (Str×Int)):Hv (fl++[x])=Hv fl++Hv [x]:=by unfold Hv;rw[List.filterMap_append]
theorem gk (s:Sp3):Hv [(s,none)]=[]:=rfl
theorem fZ (s:Sp3) (d:Str×Int):Hv [(s,some d)]=[⟨s.lp,s.at_,s.n,d.1,d.2⟩]:=rfl
def hs0 (loops:YU):YR:=(up (stL loops) loops.length).map λs=>(s,"whole")
def fl0 (loops:YU):YQ:=(up (pdL loops) loops.length).map λd=>(d.spot,some (d.kind,d.addr))
theorem W8 (loops:YU):(hs0 loops).map (·.1)=up (stL loops) loops.length:=by unfold hs0;rw[Qcj];exact List.map_id _
theorem S9 (loops:YU):(fl0 loops).map (·.1)=(up (pdL loops) loops.length).map Sd.spot:=by unfold fl0;rw[Qcj];rfl
theorem xQ {loops:YU} (ok:CW loops):(up (stL loops) loops.length).length<=200:=by
 have:=Ez (f:=stL loops) (c:=49) (dh ok) loops.length
 have:=ok.hi
 omega
theorem mR {loops:YU} (ok:CW loops):(up (pdL loops) loops.length).length<=200:=by
 have:=Ez (f:=pdL loops) (c:=48) (dY ok) loops.length
 have:=ok.hi
 omega
theorem yq {loops:YU} (ok:CW loops):(up (gtL loops) loops.length).length<=200:=by
 have:=Ez (f:=gtL loops) (c:=14) (eV ok) loops.length
 have:=ok.hi
 omega
theorem AM {loops:YU} (ok:CW loops):(up (stL loops) loops.length).Nodup:=Wr (uN ok)
theorem BD {loops:YU} (ok:CW loops):((up (pdL loops) loops.length).map Sd.spot).Nodup:=Wr (c:=cd3) (by rw[Qcj];exact Uv ok)
def gs0 (loops:YU):YT:=(up (gtL loops) loops.length).map λg=>(g,false)
theorem eX (loops:YU):(gs0 loops).map (·.1)=up (gtL loops) loops.length:=by unfold gs0;rw[Qcj];exact List.map_id _
def cd2 (g:Gt):Int:=g.lp*100+g.at_
theorem W9 {lp:Int} {ps:List Place} {i:Nat} {g:Gt} (h:g∈gt1 lp ps i):g.lp=lp/\g.at_=((1+i:Nat):Int)/\i < ps.length:=by
 obtain⟨p,hp,h⟩:=Ek h
 split at h
 ·have:g=⟨lp,((1+i:Nat):Int)⟩:=by simpa using h
  rw[this]
  exact⟨rfl,rfl,(Qag.mp hp).1⟩
 ·cases h
theorem lU {loops:YU} (ok:CW loops) {k:Nat} {g:Gt} (h:g∈gtL loops k):g.lp=(k:Int)/\0<=g.at_/\g.at_<=13:=by
 obtain⟨ps,hps,h⟩:=Ek h
 have hi:=(ok.ok ps (QaF hps)).hi
 rcases QbC.mp h with h | h
 ·rcases QbX.mp h with rfl | h
  ·exact⟨rfl,by show (0:Int)<=0;decide,by show (0:Int)<=13;decide⟩
  ·obtain⟨i,hi',h⟩:=DP h
   obtain⟨h1,h2,h3⟩:=W9 h
   exact⟨h1,by rw[h2];omega,by rw[h2];omega⟩
 ·have:g=⟨(k:Int),(ps.length:Int)+1⟩:=by simpa using h
  rw[this]
  exact⟨rfl,by show (0:Int)<=(ps.length:Int)+1;omega,by show (ps.length:Int)+1<=13;omega⟩
theorem eU {loops:YU} (ok:CW loops):((up (gtL loops) loops.length).map cd2).Pairwise (· < ·):=by
 refine (Jp (g:=λi=>(i:Int)*100) (λi=>by omega) (λk=>Jj λps hps=>?_) (λk g hg=>?_) loops.length).1
 ·obtain⟨a,b⟩:=Jp (c:=cd2) (f:=gt1 (k:Int) ps) (g:=λi=>(k:Int)*100+(1+i:Int)) (λi=>by omega) (λi=>Jj λp hp=>by
   split
   ·exact Qat _ _
   ·exact List.Pairwise.nil) (λi g hg=>by
   obtain⟨h1,h2,h3⟩:=W9 hg
   show (k:Int)*100+(1+i:Int)<=g.lp*100+g.at_/\g.lp*100+g.at_ < (k:Int)*100+(1+((i+1:Nat):Int))
   rw[h1,h2]
   push_cast
   omega) ps.length
  rw[QbD,QbY]
  have hb:∀x∈up (gt1 (k:Int) ps) ps.length,(k:Int)*100+(1+((0:Nat):Int))<=cd2 x/\cd2 x < (k:Int)*100+(1+((ps.length:Nat):Int)):=b
  refine List.pairwise_append.mpr ⟨List.pairwise_cons.mpr ⟨λx hx=>?_,a⟩,Qat _ _,λx hx y hy=>?_⟩
  ·obtain⟨z,hz,rfl⟩:=Qcg.mp hx
   have:=hb z hz
   show (k:Int)*100+0 < cd2 z
   omega
  ·have hy:y=(k:Int)*100+((ps.length:Int)+1):=by simpa [cd2] using hy
   rcases QbX.mp hx with rfl | hx
   ·show (k:Int)*100+0 < y
    omega
   ·obtain⟨z,hz,rfl⟩:=Qcg.mp hx
    have:=hb z hz
    omega
 ·obtain⟨h1,h2,h3⟩:=lU ok hg
  show (k:Int)*100<=g.lp*100+g.at_/\g.lp*100+g.at_ < ((k+1:Nat):Int)*100
  rw[h1]
  push_cast
  omega
theorem iU {loops:YU} (ok:CW loops):(up (gtL loops) loops.length).Nodup:=Wr (eU ok)
def dN (C:Addr):Sp:=λvs H Q _=>∃p dx pl most loops zones,vs=[.ref p,.ref pl]/\H p=some (.ins C dx [])/\FT H pl most loops zones/\∀d1 d2 d3 H',H d1=none->H d2=none->H d3=none->d1≠d2->WAt C H' p pl d1 d2 d3 (hs0 loops) (fl0 loops) (gs0 loops)->Ag p H H'->Q .non H'
section
variable {P:Program} {w:World} {K:YD} {mg:YB} {base:Heap} {op oe kd wk C:Addr}
theorem qp (c:Jc K C "there" "Wires.there" Ly GJ) (T:Tw K mg op oe kd wk C):Dn P w K mg base C "there" 1 GJ (dB C):=by
 refine c.good Wj (λvs H Q E h=>?_) (λf cdv A outer s H vs Q E hr h=>?_)
 ·obtain⟨p,pl,d1,d2,d3,hs,fl,gs,rfl,_⟩:=h
  rfl
 obtain⟨p,pl,d1,d2,d3,hs,fl,gs,rfl,R,q⟩:=h
 refine⟨_,(Ai (Ay (Nk rfl (Cg (N':=["spot","held"]) rfl (Bg.plain rfl (by trivial) (by trivial) (by trivial)) (N6 (Df (pv 0) rfl)) (λ_ _ _ _=>(Fp (K:=K) (n:=2) rfl rfl (Ak (Ah (i:=0) (show List.Nodup (["spot","held"]:YF) by trivial) rfl (Or.inl rfl)) (Ak (Ah (i:=1) (show List.Nodup (["spot","held"]:YF) by trivial) rfl (Or.inl rfl)) Bp)))) (λ_ _ _ _=>(Gm (Bj d7 (pv 1) Np (Br _)))) (λ_ _ _ _=>(Bd (Aa (pv 0) (Aa (Bh (SQ (K:=K) rfl) (pv 1) Ad (λ_ _=>rfl)) (Aa (Bh (SQ (K:=K) rfl) (pv 1) Ad (λ_ _=>rfl)) Ac))))))))),?_⟩
 obtain⟨dx,hp⟩:=R.ins
 obtain⟨kvs,hk,hf⟩:=R.fi
 have lk:=QbW hf
 have l2:=R.l2
 have nfz:∀o' u,H d2≠some (.frz o' u):=λo' u z=>by rw[hk] at z;cases z
 have nt:∀zs,H d2≠some (.tup zs):=λzs z=>by rw[hk] at z;cases z
 refine⟨_,rfl,p,C,dx,_,_,rfl,hp,T.cl,T.Qm,VF pl d1 d2 d3,d2,kvs,rfl,hk,λo l hl=>?_⟩
 have nl:l≠d2:=λz=>by rw[z,Ab] at hl;cases hl
 have GM:H l=none:=by rw[Am nl] at hl;exact hl
 have sT:Al H (upd H d2 (.frz o (.dT kvs))):=Al.upd nt
 let J0:YN:=λi σ HH=>(∃u v,σ=[u,v])/\(∃tv,HH l=some (.lst tv)/\Paired (Kw HH) tv (Hv (fl.take i))/\tv.length<=i)/\Same (upd H d2 (.frz o (.dT kvs))) HH
 refine Qw J0 ⟨⟨none,none,rfl⟩,⟨[],Ab,.nil,Qcn _⟩,Ae hl _⟩ (λi σ HH _ h=>h.2.2 _ _ Ab) (λi kv p' b σ HH hkv h hp' hb=>?_) (fun σ HH h=>?_)
 ·obtain⟨⟨u,v,rfl⟩,⟨tv,e1,e2,e3⟩,s1⟩:=h
  obtain⟨x,hx,hfx⟩:=Paired.Ce hf hkv
  have hi:=(Qag.mp hkv).1
  have t1:=Ae hp' (.tup [.ref b,kv.2])
  have et:Hv (fl.take (i+1))=Hv (fl.take i)++Hv [x]:=by rw[Qcx hx,f9]
  refine⟨p',_,rfl,SqT.of Ab,rfl,_,_,rfl,_,_,rfl,rfl,?_⟩
  refine⟨_,rfl,rfl,_,rfl,?_⟩
  obtain⟨k1,k2⟩:=hfx
  obtain⟨xs,xo⟩:=x
  cases xo with
  | none=>
   have k2:kv.2=.non:=k2
   rw[k2]
   refine Cd ⟨⟨_,_,rfl⟩,⟨tv,?_,?_,by omega⟩,?_⟩
   ·rw[k2] at t1
    exact t1 _ _ e1
   ·rw[et,gk,QbG]
    rw[k2] at t1
    exact Paired.Av e2 λ_ _ z=>z.tups (Al.of t1)
   ·rw[k2] at t1
    exact s1.trans t1
  | some d=>
   obtain⟨t,k2,ht⟩ : ∃t,kv.2=.ref t/\H t=some (.tup [.str d.1,.int d.2]):=k2
   rw[k2] at t1 ⊢
   have s2:=s1.trans t1
   have ht1:=s2 _ _ (sT _ _ ht)
   have hb1:=t1 _ _ hb
   rw[k1] at hb1
   refine Cp ⟨_,rfl,_,rfl,t,_,_,_,rfl,rfl,SqT.of ht1,rfl,_,rfl,t,_,_,_,rfl,rfl,SqT.of ht1,rfl,Ar (by show 3<=1000;decide),λtt htt=>?_⟩
   have t2:=Ae htt (.tup [.ref b,.str d.1,.int d.2])
   have e1':=t2 _ _ (t1 _ _ e1)
   have ntl:∀zs,(upd (upd HH p' (.tup [.ref b,.ref t])) tt (.tup [.ref b,.str d.1,.int d.2])) l≠some (.tup zs):=λzs z=>by rw[e1'] at z;cases z
   have sL:=Al.upd (o:=.lst (tv++[.ref tt])) ntl
   refine⟨tv,e1',Aq (by omega),⟨_,_,rfl⟩,⟨tv++[.ref tt],Ab,?_,by rw[QaS];show _+1<=_;omega⟩,(s2.trans t2).Bm Ag.upd hl⟩
   rw[et,fZ]
   exact Qcp ⟨tt,b,rfl,sL _ _ Ab,sL _ _ (t2 _ _ hb1)⟩ (Paired.Av e2 λ_ _ z=>(z.tups (Al.of (t1.trans t2))).tups sL)
 ·obtain⟨_,⟨tv,e1,e2,e3⟩,s1⟩:=h
  rw[lk,Qbs] at e2
  have hfz:=s1 _ _ Ab
  have ntz:∀zs,HH d2≠some (.tup zs):=λzs z=>by rw[hfz] at z;cases z
  exact⟨d2,o,kvs,hfz,nfz,q l tv _ GM (by rw[Am nl];exact e1) (Paired.Av e2 λ_ _ z=>z.tups (Al.upd ntz)) (Jq s1 hk)⟩
theorem qy (F:∃f fd,Fun K "__init__" "Wires.__init__" Ji f fd/\Mk K C f/\Binds K fd Fd []) (T:Tw K mg op oe kd wk C) (cA:Good P w K mg base "is_let_by" 10 Im Ss) (cg:Good P w K mg base "stretches" 1 Ij tG) (Ht:Good P w K mg base "devices" 2 Gw U7) (lV:Good P w K mg base "openers" 1 K1 tK):jr P w K mg base C 11 Fd (dN C):=by
 obtain⟨f,fd,F,Mk,b⟩:=F
 refine⟨f,fd,Mk,b,F.ok Tq (λvs H Q E h=>?_) (λcdv A outer s H vs Q E hr h=>?_)⟩
 ·obtain⟨p,dx,pl,most,loops,zones,rfl,_⟩:=h
  rfl
 obtain⟨p,dx,pl,most,loops,zones,rfl,hp,pa,q⟩:=h
 refine⟨_,(Af (Ci (Fx (Ds (Aw cA hr (Aa (pv 1) Ac)))) (Ai Ug) BK)
 (Af (Sx (pv 0) (pv 1) rfl)
 (Af (Sx (pv 0) (KZ (Dg hr) (N':=["stretch"]) rfl (Bg.plain rfl (by trivial) (by trivial) (by trivial)) (Dk (Aw cg hr (Aa (pv 1) Ac))) (λ_ _ _ _=>(Ah (i:=0) (show List.Nodup (["stretch"]:YF) by trivial) rfl (Or.inl rfl))) (λ_ _ _ _=>CQ) (λ_ _ _ _=>(pv 0)) (λ_ _ _ _=>Bt)) rfl)
 (Af (Sx (pv 0) (KZ (Dg hr) (N':=["spot","kind","address"]) rfl (Bg.plain rfl (by trivial) (by trivial) (by trivial)) (Dk (Aw Ht hr (Aa (pv 1) Ac))) (λ_ _ _ _=>(Fp (K:=K) (n:=3) rfl rfl (Ak (Ah (i:=0) (show List.Nodup (["spot","kind","address"]:YF) by trivial) rfl (Or.inl rfl)) (Ak (Ah (i:=1) (show List.Nodup (["spot","kind","address"]:YF) by trivial) rfl (Or.inl rfl)) (Ak (Ah (i:=2) (show List.Nodup (["spot","kind","address"]:YF) by trivial) rfl (Or.inl rfl)) Bp))))) (λ_ _ _ _=>CQ) (λ_ _ _ _=>(pv 0)) (λ_ _ _ _=>(Bd (Aa (pv 1) (Aa (pv 2) Ac))))) rfl)
 (Ai (Sx (pv 0) (KZ (Dg hr) (N':=["opener"]) rfl (Bg.plain rfl (by trivial) (by trivial) (by trivial)) (Dk (Aw lV hr (Aa (pv 1) Ac))) (λ_ _ _ _=>(Ah (i:=0) (show List.Nodup (["opener"]:YF) by trivial) rfl (Or.inl rfl))) (λ_ _ _ _=>CQ) (λ_ _ _ _=>(pv 0)) (λ_ _ _ _=>Gf)) rfl)))))),?_⟩
 show let R0:TS:=_;let R1:TS:=Ao _ R0;let R2:TS:=Ao _ R1;let R3:TS:=Ao _ R2;Ao _ R3 _ _ _
 intro R0 R1 R2 R3
 have ok:=pa.ok
 have ntp:∀zs,H p≠some (.tup zs):=λzs z=>by rw[hp] at z;cases z
 refine⟨_,rfl,pl,most,loops,zones,rfl,pa,λH0 s0=>⟨_,rfl,Cd ?_⟩⟩
 refine⟨_,rfl,_,rfl,p,C,dx,_,_,rfl,s0 _ _ hp,T.cl,T.Z8,(by show 0 < 1000;decide),RB (by show _∉([]:YF);decide +kernel),λH1 h1 s1=>?_⟩
 have r1:Ag p H H1:=(Ag.of s0).trans s1
 have pa1:=pa.tups (r1.tup ntp)
 refine⟨_,rfl,pl,loops,rfl,pa1.plan,ok,λla xa H2 hla hxa hpa s2=>⟨la,rfl,⟨_,SqL.of hxa⟩,λd1 f1=>?_⟩⟩
 have lxa:=QbW hpa
 have A3:=xQ ok
 have nda:=AM ok
 let J1:YN:=λi σ HH=>(∃u,σ=[u])/\HH d1=some (.dT (stV (((up (stL loops) loops.length).take i).map λs=>(s,"whole"))))/\Same H2 HH
 refine O4 (xs:=xa) J1 ⟨⟨_,rfl⟩,Ab,Ae f1 _⟩ (λi σ HH _ h=>SqL.of (h.2.2 _ _ hxa)) (λi x σ HH hx h=>?_) (fun σ HH h=>?_)
 ·obtain⟨⟨u,rfl⟩,e1,e2⟩:=h
  obtain⟨sp,hsp,t,rfl,ht⟩:=Paired.Ce hpa hx
  have hi:=(Qag.mp hx).1
  unfold Fl
  dsimp only
  refine Cp ⟨_,rfl,_,k3 sp,t,e1,rfl,e2 _ _ ht,Aq (by unfold stV;rw[QbB,QbB,Qbu];omega),⟨_,rfl⟩,?_,e2.Bm Ag.upd f1⟩
  rw[Ab,Ng,Qcx hsp]
  ·unfold stV
   rw[QbD,QbD]
   rfl
  ·refine O7 λy hy e=>?_
   unfold stV at hy
   rw[Qcj] at hy
   obtain⟨z,hz,rfl⟩:=Qcg.mp hy
   exact SM nda hsp z hz (Rx e)
 obtain⟨_,e1,e2⟩:=h
 rw[lxa,Qbs] at e1
 have e1:HH d1=some (.dT (stV (hs0 loops))):=e1
 have r2:Ag p H HH:=r1.trans (Ag.of (s2.trans e2))
 refine⟨_,rfl,p,C,dx,_,_,rfl,e2 _ _ (s2 _ _ h1),T.cl,T.Gd,(by show 1 < 1000;decide),RB (by show _∉(["plan"]:YF);decide +kernel),λH3 h3 s3=>?_⟩
 have np1:d1≠p:=λz=>by rw[z,s2 _ _ h1] at f1;cases f1
 have u1:=s3 _ _ e1 np1
 have r3:Ag p H H3:=r2.trans s3
 have f1':H d1=none:=by
  cases e:H d1 with
  | none=>rfl
  | some v=>have:=r1.trans (Ag.of s2) _ _ e np1;rw[f1] at this;cases this
 clear s3 e1 e2 r2
 have pa3:=pa.tups (r3.tup ntp)
 refine⟨_,rfl,pl,loops,rfl,pa3.plan,ok,λlb xb H4 hlb hxb hpb s4=>⟨lb,rfl,⟨_,SqL.of hxb⟩,λd2 f2=>?_⟩⟩
 have lxb:=QbW hpb
 have A2:=mR ok
 have ndb:=BD ok
 let J2:YN:=λi σ HH=>(∃u v t,σ=[u,v,t])/\(∃kvs,HH d2=some (.dT kvs)/\Paired (JZ HH) kvs (((up (pdL loops) loops.length).take i).map λd=>(d.spot,some (d.kind,d.addr))))/\Same H4 HH
 refine O4 (xs:=xb) J2 ⟨⟨_,_,_,rfl⟩,⟨[],Ab,.nil⟩,Ae f2 _⟩ (λi σ HH _ h=>SqL.of (h.2.2 _ _ hxb)) (λi x σ HH hx h=>?_) (fun σ HH h=>?_)
 ·obtain⟨⟨u,v,t,rfl⟩,⟨kvs,e1,e3⟩,e2⟩:=h
  obtain⟨d,hd,tt,uu,rfl,h5,h6⟩:=Paired.Ce hpb hx
  have hi:=(Qag.mp hx).1
  have lk:=QbW e3
  rw[QbB,Qbu] at lk
  refine⟨tt,_,rfl,SqT.of (e2 _ _ h5),rfl,_,_,rfl,_,_,rfl,_,_,rfl,rfl,?_⟩
  refine Cp ⟨_,rfl,_,rfl,_,rfl,Ar (by show 2<=1000;decide),λtn htn=>?_⟩
  have t1:=Ae htn (.tup [.str d.kind,.int d.addr])
  have e1':=t1 _ _ e1
  have ntd:∀zs,(upd HH tn (.tup [.str d.kind,.int d.addr])) d2≠some (.tup zs):=λzs z=>by rw[e1'] at z;cases z
  refine⟨kvs,k3 d.spot,uu,e1',rfl,t1 _ _ (e2 _ _ h6),Aq (by omega),⟨_,_,_,rfl⟩,⟨_,Ab,?_⟩,(e2.trans t1).Bm Ag.upd f2⟩
  rw[Ng,Qcx hd,QbD]
  ·have sL:=Al.upd (o:=.dT (kvs++[(k3 d.spot,V.ref tn)])) ntd
   exact Qcp ⟨rfl,⟨tn,rfl,sL _ _ Ab⟩⟩ (Paired.Av e3 λ_ _ z=>(z.tups (Al.of t1)).tups sL)
  ·refine O7 λy hy e=>?_
   have:y.1∈kvs.map (·.1):=Qcg.mpr ⟨y,hy,rfl⟩
   rw[aP e3,Qcj] at this
   obtain⟨z,hz,ez⟩:=Qcg.mp this
   exact Iw ndb hd z hz (Rx (by rw[<-e,<-ez];rfl))
 obtain⟨_,⟨kvs,e1,e3⟩,e2⟩:=h
 rw[lxb,Qbs] at e3
 have e3:Paired (JZ HH) kvs (fl0 loops):=e3
 have h4:=e2 _ _ (s4 _ _ h3)
 have Ct:∀zs,HH p≠some (.tup zs):=λzs z=>by rw[h4] at z;cases z
 have u2:=e2 _ _ (s4 _ _ u1)
 refine⟨_,rfl,p,C,dx,_,_,rfl,h4,T.cl,T.Qm,(by show 2 < 1000;decide),RB (by show _∉(["plan","states"]:YF);decide +kernel),λH5 h5 s5=>?_⟩
 have np2:d2≠p:=λz=>by rw[z,s4 _ _ h3] at f2;cases f2
 have n12:d1≠d2:=Bb (s4 _ _ u1) f2
 have u3:=s5 _ _ u2 np1
 have v3:=s5 _ _ e1 np2
 have w3:Paired (JZ H5) kvs (fl0 loops):=Paired.Av e3 λ_ _ z=>z.tups (s5.tup Ct)
 have r5:Ag p H H5:=r3.trans ((Ag.of (s4.trans e2)).trans s5)
 have f2':H d2=none:=by
  cases e:H d2 with
  | none=>rfl
  | some v=>have:=r3.trans (Ag.of s4) _ _ e np2;rw[f2] at this;cases this
 clear s5 e1 e2 e3 u1 u2 h3 h4
 have pa5:=pa.tups (r5.tup ntp)
 have K0:∀zs,H5 p≠some (.tup zs):=λzs z=>by rw[h5] at z;cases z
 refine⟨_,rfl,pl,loops,rfl,pa5.plan,ok,λlc xc H6 hlc hxc hpc s6=>⟨lc,rfl,⟨_,SqL.of hxc⟩,λd3 f3=>?_⟩⟩
 have lxc:=QbW hpc
 have A1:=yq ok
 let J3:YN:=λi σ HH=>(∃u,σ=[u])/\HH d3=some (.dT (gpV (((up (gtL loops) loops.length).take i).map λg=>(g,false))))/\Same H6 HH
 refine O4 (xs:=xc) J3 ⟨⟨_,rfl⟩,Ab,Ae f3 _⟩ (λi σ HH _ h=>SqL.of (h.2.2 _ _ hxc)) (λi x σ HH hx h=>?_) (fun σ HH h=>?_)
 ·obtain⟨⟨u,rfl⟩,e1,e2⟩:=h
  obtain⟨g,hg,t,rfl,ht⟩:=Paired.Ce hpc hx
  have hi:=(Qag.mp hx).1
  unfold Fl
  dsimp only
  refine Cp ⟨_,rfl,_,k2 g,t,e1,rfl,e2 _ _ ht,Aq (by unfold gpV;rw[QbB,QbB,Qbu];omega),⟨_,rfl⟩,?_,e2.Bm Ag.upd f3⟩
  rw[Ab,Ng,Qcx hg]
  ·unfold gpV
   rw[QbD,QbD]
   rfl
  ·refine O7 λy hy e=>?_
   unfold gpV at hy
   rw[Qcj] at hy
   obtain⟨z,hz,rfl⟩:=Qcg.mp hy
   exact SM (iU ok) hg z hz (Vv e)
 obtain⟨_,e1,e2⟩:=h
 rw[lxc,Qbs] at e1
 have e1:HH d3=some (.dT (gpV (gs0 loops))):=e1
 have s7:=s6.trans e2
 refine⟨_,rfl,p,C,dx,_,_,rfl,s7 _ _ h5,T.cl,T.Gs,(by show 3 < 1000;decide),RB (by show _∉(["plan","states","filled"]:YF);decide +kernel),λH8 h8 s8=>?_⟩
 have np3:d3≠p:=λz=>by rw[z,s6 _ _ h5] at f3;cases f3
 have f3':H d3=none:=by
  cases e:H d3 with
  | none=>rfl
  | some v=>have:=r5.trans (Ag.of s6) _ _ e np3;rw[f3] at this;cases this
 have n13:d1≠d3:=Bb (s6 _ _ u3) f3
 have n23:d2≠d3:=Bb (s6 _ _ v3) f3
 have Cs:∀zs,HH p≠some (.tup zs):=λzs z=>by rw[s7 _ _ h5] at z;cases z
 exact q d1 d2 d3 H8 f1' f2' f3' n12 ⟨⟨dx,h8⟩,s8 _ _ (s7 _ _ u3) np1,⟨kvs,s8 _ _ (s7 _ _ v3) np2,Paired.Av w3 λ_ _ z=>(z.tups (Al.of s7)).tups (s8.tup Cs)⟩,by rw[W8];exact nda,by rw[S9];exact ndb,by unfold hs0;rw[QbB];exact A3,by unfold fl0;rw[QbB];exact A2,s8 _ _ e1 np3,by rw[eX];exact iU ok,by unfold gs0;rw[QbB];exact A1,n13,n23⟩ (r5.trans ((Ag.of s7).trans s8))
end
abbrev Lw:Stmt:=top 40
abbrev GF:YF:=["states","loop","at"]
theorem Gg:Ax ["states","loop","at","told","number"] GF (Aj Lw):=⟨rfl,rfl,rfl,by trivial,rfl,by trivial,by trivial⟩
def stC (hs:YR) (s:Sp3):Str:=((hs.find? λx=>decide (x.1=s)).map (·.2)).getD "cut"
theorem Wa (s:Sp3):∀hs:YR,DK (stV hs) (k3 s)=(hs.find? λx=>decide (x.1=s)).map λx=>V.str x.2
 | []=>rfl
 | a::r=>by
  by_cases e:a.1=s
  ·rw[Qay (p:=λx:Sp3×Str=>decide (x.1=s)) (QbR e)]
   exact Kc (p:=(k3 a.1,V.str a.2)) (by rw[e])
  ·rw[Qaw (p:=λx:Sp3×Str=>decide (x.1=s)) (by simpa using e),<-Wa s r]
   exact G9 (p:=(k3 a.1,V.str a.2)) λz=>e (Rx z)
theorem dj (hs:YR) (s:Sp3):(DK (stV hs) (k3 s)).getD (.str "cut")=.str (stC hs s):=by
 rw[Wa]
 unfold stC
 cases hs.find? λx=>decide (x.1=s) <;> rfl
theorem YX {hs:YR} {s:Sp3} (h:s∉hs.map (·.1)):stC hs s="cut":=by
 unfold stC
 rw[List.find?_eq_none.mpr λx hx=>by simpa using λe=>h (Qcg.mpr ⟨x,hx,e⟩)]
 rfl
def Ei (hs:YR) (lp a:Int):Nat->Nat->YV
 | 0,_=>[]
 | f+1,n=>if stC hs ⟨lp,a,(n:Int)⟩="cut" then [] else ⟨lp,a,(n:Int)⟩::Ei hs lp a f (n+1)
def BR (hs:YR) (lp a:Int):YV:=Ei hs lp a 4 1
theorem QZ (hs:YR) (lp a:Int):∀f n,(Ei hs lp a f n).length<=f
 | 0,_=>Qcn _
 | f+1,n=>by
  unfold Ei
  split
  ·exact Qco _
  ·rw[Qbt]
   have:=QZ hs lp a f (n+1)
   omega
def dF:Sp:=λvs H Q _=>∃d1 hs lp a,vs=[.ref d1,.int lp,.int a]/\Rd H d1 (.dT (stV hs))/\(∀s∈hs.map (·.1),Bd3 s)/\∀l xs H',H l=none->H' l=some (.lst xs)->Paired (BX H') xs (BR hs lp a)->Same H H'->Q (.ref l) H'
section
variable {P:Program} {w:World} {K:YD} {mg:YB} {base:Heap} {op oe kd wk C:Addr}
theorem Ww (c:Code K mg "spur_pieces" Lw GF) (T:Tw K mg op oe kd wk C):Good P w K mg base "spur_pieces" 1 GF dF:=by
 have sc:=Gg
 refine c.good Gg (λvs H Q E h=>?_) (λf cdv A outer s H vs Q E hr h=>?_)
 ·obtain⟨d1,hs,lp,a,rfl,_⟩:=h
  rfl
 obtain⟨d1,hs,lp,a,rfl,hd,hb,q⟩:=h
 refine⟨_,(Af (Ba (i:=3) Gg.nd rfl (Or.inl rfl) (BZ Ac))
 (Af (Ba (i:=4) Gg.nd rfl (Or.inl rfl) Ad)
 (Af (Qc QbE (Bj Vj (Ui (Dg hr) (pv 0) (Bd (Aa (pv 1) (Aa (pv 2) (Aa (pv 4) Ac)))) Bt ⟨rfl,rfl,rfl,rfl⟩) Bt (Br _)) (Af (Bs (CK Qap Qal Qam Cy (pv 3) (Aa (Bd (Aa (pv 1) (Aa (pv 2) (Aa (pv 4) Ac)))) Ac)))
 (Ai (jV (i:=4) Gg.nd rfl (Or.inl rfl) Ad lK))))
 (Ai (Ay (pv 3)))))),?_⟩
 show let R0:TS:=_;let R1:TS:=Ao _ R0;let R2:TS:=Ao (QX _ R1) _;let R3:TS:=Ao _ R2;Ao _ R3 _ _ _
 intro R0 R1 R2 R3
 refine⟨Ar (by show 0<=1000;decide),λl hl=>?_⟩
 refine⟨λm σ HH=>∃n:Nat,1<=n/\n+m=5/\σ=[some (.ref d1),some (.int lp),some (.int a),some (.ref l),some (.int (n:Int))]/\(∃xs pre,HH l=some (.lst xs)/\Paired (BX HH) xs pre/\pre.length < n/\pre++Ei hs lp a m n=BR hs lp a)/\Same H HH,⟨4,1,Qcn _,rfl,rfl,⟨[],[],Ab,.nil,by decide,rfl⟩,Ae hl _⟩,λm σ HH h=>?_⟩
 obtain⟨n,n1,nm,rfl,⟨xs,pre,e1,e2,e3,e4⟩,e5⟩:=h
 have hdH:Rd HH d1 (.dT (stV hs)):=by
  rcases hd with hd |⟨o,hd⟩
  ·exact .inl (e5 _ _ hd)
  ·exact .inr ⟨o,e5 _ _ hd⟩
 refine⟨_,rfl,d1,rfl,.inr ⟨_,hdH⟩,_,rfl,_,rfl,_,rfl,Ar (by show 3<=1000;decide),λtk htk=>?_⟩
 have k1:=Ae htk (.tup [.int lp,.int a,.int (n:Int)])
 have hdK:Rd (upd HH tk (.tup [.int lp,.int a,.int (n:Int)])) d1 (.dT (stV hs)):=by
  rcases hdH with hd |⟨o,hd⟩
  ·exact .inl (k1 _ _ hd)
  ·exact .inr ⟨o,k1 _ _ hd⟩
 have g:Dw (upd HH tk (.tup [.int lp,.int a,.int (n:Int)])) d1 (.ref tk) (DK (stV hs) (k3 ⟨lp,a,(n:Int)⟩)):=.inr ⟨_,_,tk,hdK,rfl,Ab,rfl⟩
 refine⟨_,g,?_⟩
 dsimp only
 rw[dj]
 have e1k:=k1 _ _ e1
 have e2k:Paired (BX (upd HH tk (.tup [.int lp,.int a,.int (n:Int)]))) xs pre:=Paired.Av e2 λ_ _ z=>z.tups (Al.of k1)
 generalize upd HH tk (.tup [.int lp,.int a,.int (n:Int)])=HK at *
 have e5k:=e5.trans k1
 refine⟨rfl,_,rfl,?_⟩
 by_cases hc:stC hs ⟨lp,a,(n:Int)⟩="cut"
 ·rw[show (!decide (V.str (stC hs ⟨lp,a,(n:Int)⟩)=V.str "cut"))=false by rw[hc];decide +kernel]
  refine Cd ⟨_,rfl,q l xs HK hl e1k ?_ e5k⟩
  have:Ei hs lp a m n=[]:=by
   cases m with
   | zero=>rfl
   | succ m=>exact if_pos hc
  rw[this,QbG] at e4
  rw[<-e4]
  exact e2k
 ·have hne:¬V.str (stC hs ⟨lp,a,(n:Int)⟩)=V.str "cut":=λz=>hc (V.str.inj z)
  rw[show (!decide (V.str (stC hs ⟨lp,a,(n:Int)⟩)=V.str "cut"))=true by rw[QbF hne];rfl]
  obtain⟨m',rfl⟩ : ∃m',m=m'+1:=by
   cases m with
   | succ m=>exact⟨m,rfl⟩
   | zero=>
    refine absurd (YX λhin=>?_) hc
    have:=(hb _ hin).n1
    have h5:n=5:=by omega
    subst h5
    have this:((5:Nat):Int)<=3:=this
    omega
  have e4':(pre++[⟨lp,a,(n:Int)⟩])++Ei hs lp a m' (n+1)=BR hs lp a:=by
   rw[<-e4,Qbl]
   show _=pre++Ei hs lp a (m'+1) n
   rw[show Ei hs lp a (m'+1) n=⟨lp,a,(n:Int)⟩::Ei hs lp a m' (n+1) from if_neg hc]
   rfl
  have lx:=QbW e2k
  refine Cp ⟨_,fun σ' H' h=>⟨m',Qby _,h⟩,?_⟩
  refine⟨_,rfl,.inl ⟨rfl,_,SqL.of e1k⟩,_,rfl,_,rfl,_,rfl,Ar (by show 3<=1000;decide),λtp htp=>?_⟩
  have k2':=Ae htp (.tup [.int lp,.int a,.int (n:Int)])
  have e1p:=k2' _ _ e1k
  have ntl:∀zs,(upd HK tp (.tup [.int lp,.int a,.int (n:Int)])) l≠some (.tup zs):=λzs z=>by rw[e1p] at z;cases z
  have sL:=Al.upd (o:=.lst (xs++[.ref tp])) ntl
  refine⟨l,_,_,rfl,rfl,e1p,Aq (by omega),?_⟩
  refine⟨_,rfl,_,_,rfl,rfl,n+1,by omega,by omega,?_,⟨xs++[.ref tp],pre++[⟨lp,a,(n:Int)⟩],Ab,Qcp ⟨tp,rfl,sL _ _ Ab⟩ (Paired.Av e2k λ_ _ z=>(z.tups (Al.of k2')).tups sL),by rw[QaS];show _+1 < _;omega,e4'⟩,(e5k.trans k2').Bm Ag.upd hl⟩
  show [some (V.ref d1),some (.int lp),some (.int a),some (.ref l),some (.int ((n:Int)+1))]=_
  rw[Int.natCast_add]
  rfl
end
abbrev Rh:Stmt:=top 41
abbrev Jv:YF:=["states","gaps","opener","step"]
theorem Fw:Ax ["states","gaps","opener","step","loop","at","wires","places","pieces"] Jv (Aj Rh):=⟨rfl,rfl,rfl,by trivial,rfl,by trivial,by trivial⟩
abbrev KH:Stmt:=top 42
abbrev G3:YF:=["states","wires"]
theorem Zm:Ax ["states","wires"] G3 (Aj KH):=⟨rfl,rfl,rfl,by trivial,rfl,by trivial,by trivial⟩
abbrev Jg:Stmt:=top 43
abbrev DW:YF:=["states","gaps","opener"]
theorem Dy:Ax ["states","gaps","opener","to_b","places_to_b","to_a","places_to_a"] DW (Aj Jg):=⟨rfl,rfl,rfl,by trivial,rfl,by trivial,by trivial⟩
instance:DecidableEq Gt:=λa b=>if h:a.lp=b.lp/\a.at_=b.at_ then isTrue (by cases a;cases b;simp at h;obtain⟨h1,h2⟩:=h;subst h1 h2;rfl) else isFalse λe=>h (by rw[e];exact⟨rfl,rfl⟩)
def gpC (gs:YT) (g:Gt):Bool:=((gs.find? λx=>decide (x.1=g)).map (·.2)).getD false
theorem Xb (g:Gt):∀gs:YT,DK (gpV gs) (k2 g)=(gs.find? λx=>decide (x.1=g)).map λx=>V.bl x.2
 | []=>rfl
 | a::r=>by
  by_cases e:a.1=g
  ·rw[Qay (p:=λx:Gt×Bool=>decide (x.1=g)) (QbR e)]
   exact Kc (p:=(k2 a.1,V.bl a.2)) (by rw[e])
  ·rw[Qaw (p:=λx:Gt×Bool=>decide (x.1=g)) (by simpa using e),<-Xb g r]
   exact G9 (p:=(k2 a.1,V.bl a.2)) λz=>e (Vv z)
theorem vX (gs:YT) (g:Gt):(DK (gpV gs) (k2 g)).getD (.bl false)=.bl (gpC gs g):=by
 rw[Xb]
 unfold gpC
 cases gs.find? λx=>decide (x.1=g) <;> rfl
def Cm (a b:Int):Int:=if b < a then b else a
def Bf (hs:YR) (gs:YT) (lp st:Int):Nat->Int->YV×YV
 | 0,_=>([],[])
 | f+1,a=>if stC hs ⟨lp,Cm a (a+st),0⟩="cut" then ([],[]) else
  if gpC gs ⟨lp,a+st⟩=true then (⟨lp,Cm a (a+st),0⟩::BR hs lp (a+st),⟨lp,a+st,0⟩::BR hs lp (a+st))
  else ((⟨lp,Cm a (a+st),0⟩::BR hs lp (a+st))++(Bf hs gs lp st f (a+st)).1,(⟨lp,a+st,0⟩::BR hs lp (a+st))++(Bf hs gs lp st f (a+st)).2)
structure Ws (H0 H:Hp) (l1 l2:Addr) (wa pa:YV):Prop where
 w:∃xs,H l1=some (.lst xs)/\Paired (BX H) xs wa
 p:∃ys,H l2=some (.lst ys)/\Paired (BX H) ys pa
 sm:Same H0 H
theorem Ws.same {H0 H H':Hp} {l1 l2:Addr} {wa pa:YV} (h:Ws H0 H l1 l2 wa pa) (s:Same H H'):Ws H0 H' l1 l2 wa pa:=by
 obtain⟨xs,a1,a2⟩:=h.w
 obtain⟨ys,b1,b2⟩:=h.p
 exact⟨⟨xs,s _ _ a1,Paired.Av a2 λ_ _ z=>z.tups (Al.of s)⟩,⟨ys,s _ _ b1,Paired.Av b2 λ_ _ z=>z.tups (Al.of s)⟩,h.sm.trans s⟩
theorem Ws.zZ {H0 H:Hp} {l1 l2:Addr} {wa pa ss:YV} {zs xs:YG} (h:Ws H0 H l1 l2 wa pa) (n:l1≠l2) (f:H0 l1=none) (hx:H l1=some (.lst xs)) (hz:Paired (BX H) zs ss):Ws H0 (upd H l1 (.lst (xs++zs))) l1 l2 (wa++ss) pa:=by
 obtain⟨xs',a1,a2⟩:=h.w
 obtain⟨ys,b1,b2⟩:=h.p
 rw[hx] at a1
 cases a1
 have nt:∀us,H l1≠some (.tup us):=λus z=>by rw[hx] at z;cases z
 have t:=Al.upd (o:=.lst (xs++zs)) nt
 exact⟨⟨_,Ab,Paired.app (Paired.Av a2 λ_ _ z=>z.tups t) (Paired.Av hz λ_ _ z=>z.tups t)⟩,⟨ys,by rw[Am n.symm];exact b1,Paired.Av b2 λ_ _ z=>z.tups t⟩,h.sm.Bm Ag.upd f⟩
theorem Ws.add2 {H0 H:Hp} {l1 l2:Addr} {wa pa ss:YV} {zs ys:YG} (h:Ws H0 H l1 l2 wa pa) (n:l1≠l2) (f:H0 l2=none) (hy:H l2=some (.lst ys)) (hz:Paired (BX H) zs ss):Ws H0 (upd H l2 (.lst (ys++zs))) l1 l2 wa (pa++ss):=by
 obtain⟨xs,a1,a2⟩:=h.w
 obtain⟨ys',b1,b2⟩:=h.p
 rw[hy] at b1
 cases b1
 have nt:∀us,H l2≠some (.tup us):=λus z=>by rw[hy] at z;cases z
 have t:=Al.upd (o:=.lst (ys++zs)) nt
 exact⟨⟨xs,by rw[Am n];exact a1,Paired.Av a2 λ_ _ z=>z.tups t⟩,⟨_,Ab,Paired.app (Paired.Av b2 λ_ _ z=>z.tups t) (Paired.Av hz λ_ _ z=>z.tups t)⟩,h.sm.Bm Ag.upd f⟩
def Ze:Sp:=λvs H Q _=>∃(d1 d3 o:Addr) (hs:YR) (gs:YT) (g:Gt) (st:Int),vs=[.ref d1,.ref d3,.ref o,.int st]/\Rd H d1 (.dT (stV hs))/\Rd H d3 (.dT (gpV gs))/\H o=some (.tup [.int g.lp,.int g.at_])/\(∀s∈hs.map (·.1),Bd3 s)/\(st=1\/st=-1)/\-1<=g.at_/\g.at_<=14 /\
 ∀t l1 l2 xs ys H',H' t=some (.tup [.ref l1,.ref l2])->H' l1=some (.lst xs)->Paired (BX H') xs (Bf hs gs g.lp st 16 g.at_).1->H' l2=some (.lst ys)->Paired (BX H') ys (Bf hs gs g.lp st 16 g.at_).2->Same H H'->Q (.ref t) H'
section
variable {P:Program} {w:World} {K:YD} {mg:YB} {base:Heap} {op oe kd wk C:Addr}
theorem iC (c:Code K mg "come_to" Rh Jv) (T:Tw K mg op oe kd wk C) (Ym:Good P w K mg base "spur_pieces" 1 GF dF):Good P w K mg base "come_to" 2 Jv Ze:=by
 have sc:=Fw
 refine c.good Fw (λvs H Q E h=>?_) (λf cdv A outer s H vs Q E hr h=>?_)
 ·obtain⟨d1,d3,o,hs,gs,g,st,rfl,_⟩:=h
  rfl
 obtain⟨d1,d3,o,hs,gs,g,st,rfl,hd,hd3,ho,hb,hst,ga,gb,q⟩:=h
 refine⟨_,(Af (Gj (pv 2) (Cv rfl (Ak (Ah (i:=4) Fw.nd rfl (Or.inl rfl)) (Ak (Ah (i:=5) Fw.nd rfl (Or.inl rfl)) Bp))))
 (Af (Ba (i:=6) Fw.nd rfl (Or.inl rfl) (BZ Ac))
 (Af (Ba (i:=7) Fw.nd rfl (Or.inl rfl) (BZ Ac))
 (Af (Qc QbE (Bj Vj (Ui (Dg hr) (pv 0) (Bd (Aa (pv 4) (Aa (Az (Og rfl) rfl T.min VR (Aa (pv 5) (Aa (Bc Ca (pv 5) (pv 3)) Ac))) (Aa Ad Ac)))) Bt ⟨rfl,rfl,rfl,rfl⟩) Bt (Br _)) (Af (Bs (CK Qap Qal Qam Cy (pv 6) (Aa (Bd (Aa (pv 4) (Aa (Az (Og rfl) rfl T.min VR (Aa (pv 5) (Aa (Bc Ca (pv 5) (pv 3)) Ac))) (Aa Ad Ac)))) Ac)))
 (Af (jV (i:=5) Fw.nd rfl (Or.inl rfl) (pv 3) lK)
 (Af (Ba (i:=8) Fw.nd rfl (Or.inl rfl) (Aw Ym hr (Aa (pv 0) (Aa (pv 4) (Aa (pv 5) Ac)))))
 (Af (Bs (CK Qap Qan Qao Ew (pv 6) (Aa (pv 8) Ac)))
 (Af (Bs (CK Qap Qal Qam Cy (pv 7) (Aa (Bd (Aa (pv 4) (Aa (pv 5) (Aa Ad Ac)))) Ac)))
 (Af (Bs (CK Qap Qan Qao Ew (pv 7) (Aa (pv 8) Ac)))
 (Ai (Ci (pP (Ui (Dg hr) (pv 1) (Bd (Aa (pv 4) (Aa (pv 5) Ac))) Gf ⟨rfl,rfl,rfl,rfl⟩) (λ_=>rfl)) (Ai pU) BK)))))))))
 (Ai (Ay (Bd (Aa (pv 6) (Aa (pv 7) Ac))))))))),?_⟩
 show let R0:TS:=_;let R1:TS:=_;let R2:TS:=Ao _ R1;let R3:TS:=Ao _ R2;let R4:TS:=Ao _ R3;let R5:TS:=Ao _ R4;let R6:TS:=Ao _ R5;let R7:TS:=Ao _ R6;let R8:TS:=Ao (QX _ R7) R0;let R9:TS:=Ao _ R8;let R10:TS:=Ao _ R9;Ao _ R10 _ _ _
 intro R0 R1 R2 R3 R4 R5 R6 R7 R8 R9 R10
 refine⟨_,rfl,o,_,rfl,SqT.of ho,rfl,_,_,rfl,_,_,rfl,rfl,?_⟩
 refine⟨Ar (by show 0<=1000;decide),λl1 hl1=>?_⟩
 refine⟨Ar (by show 0<=1000;decide),λl2 hl2=>?_⟩
 have n1:=Ae hl1 (.lst [])
 have n2:=Ae hl2 (.lst [])
 have hl2':H l2=none:=n1.free hl2
 have n12:l1≠l2:=Bb Ab hl2
 have rdS:∀{HA HB:Hp} {d:Addr} {u:HO},Rd HA d u->Same HA HB->Rd HB d u:=λh s=>by
  rcases h with h |⟨o,h⟩
  ·exact .inl (s _ _ h)
  ·exact .inr ⟨o,s _ _ h⟩
 have hm0:(st=1/\g.at_+((16:Nat):Int)=g.at_+16)\/(st=-1/\g.at_ - ((16:Nat):Int)=g.at_ - 16):=by
  rcases hst with h | h
  ·exact .inl ⟨h,by omega⟩
  ·exact .inr ⟨h,by omega⟩
 refine⟨λm σ HH=>∃(a:Int) (u8:Option V) (wa pa:YV),((st=1/\a+m=g.at_+16)\/(st=-1/\a - m=g.at_ - 16))/\σ=[some (.ref d1),some (.ref d3),some (.ref o),some (.int st),some (.int g.lp),some (.int a),some (.ref l1),some (.ref l2),u8]/\Ws H HH l1 l2 wa pa/\wa.length+10*m<=160/\pa.length+10*m<=160/\wa++(Bf hs gs g.lp st m a).1=(Bf hs gs g.lp st 16 g.at_).1/\pa++(Bf hs gs g.lp st m a).2=(Bf hs gs g.lp st 16 g.at_).2,⟨16,g.at_,_,[],[],hm0,rfl,⟨⟨[],n2 _ _ Ab,.nil⟩,⟨[],Ab,.nil⟩,n1.trans n2⟩,by decide,by decide,rfl,rfl⟩,λm σ HH h=>?_⟩
 obtain⟨a,u8,wa,pa,hm,rfl,W,e5,e6,e7,e8⟩:=h
 refine⟨_,rfl,d1,rfl,.inr ⟨_,rdS hd W.sm⟩,_,rfl,_,rfl,_,rfl,_,rfl,_,_,rfl,rfl,_,_,rfl,Ar (by show 3<=1000;decide),λtk htk=>?_⟩
 rw[show (if a+st < a then a+st else a)=Cm a (a+st) from rfl]
 have k1:=Ae htk (.tup [.int g.lp,.int (Cm a (a+st)),.int 0])
 have W1:=W.same k1
 have gg:Dw (upd HH tk (.tup [.int g.lp,.int (Cm a (a+st)),.int 0])) d1 (.ref tk) (DK (stV hs) (k3 ⟨g.lp,Cm a (a+st),0⟩)):=.inr ⟨_,_,tk,rdS hd W1.sm,rfl,Ab,rfl⟩
 refine⟨_,gg,?_⟩
 dsimp only
 rw[dj]
 generalize upd HH tk (.tup [.int g.lp,.int (Cm a (a+st)),.int 0])=HK at *
 refine⟨rfl,_,rfl,?_⟩
 have done:∀(HX:Hp) (wx px:YV) (u:Option V) (aa:Int),Ws H HX l1 l2 wx px->wx=(Bf hs gs g.lp st 16 g.at_).1->px=(Bf hs gs g.lp st 16 g.at_).2->∀t,HX t=none->Q (.ref t) (upd HX t (.tup [.ref l1,.ref l2])):=λHX wx px u aa WX ew ep t ht=>by
  have kt:=Ae ht (.tup [.ref l1,.ref l2])
  have WT:=WX.same kt
  obtain⟨xs,a1,a2⟩:=WT.w
  obtain⟨ys,b1,b2⟩:=WT.p
  rw[ew] at a2
  rw[ep] at b2
  exact q t l1 l2 xs ys _ Ab a1 a2 b1 b2 WT.sm
 by_cases hc:stC hs ⟨g.lp,Cm a (a+st),0⟩="cut"
 ·rw[show (!decide (V.str (stC hs ⟨g.lp,Cm a (a+st),0⟩)=V.str "cut"))=false by rw[hc];decide +kernel]
  have hz:Bf hs gs g.lp st m a=([],[]):=by
   cases m with
   | zero=>rfl
   | succ m=>exact if_pos hc
  rw[hz,QbG] at e7 e8
  exact Cd ⟨_,rfl,_,rfl,Ar (by show 2<=1000;decide),λt ht=>done HK wa pa u8 a W1 e7 e8 t ht⟩
 ·have hne:¬V.str (stC hs ⟨g.lp,Cm a (a+st),0⟩)=V.str "cut":=λz=>hc (V.str.inj z)
  rw[show (!decide (V.str (stC hs ⟨g.lp,Cm a (a+st),0⟩)=V.str "cut"))=true by rw[QbF hne];rfl]
  have hin:(⟨g.lp,Cm a (a+st),0⟩ : Sp3)∈hs.map (·.1):=Qah λz=>hc (YX z)
  have hB:=hb _ hin
  have hB0:0<=Cm a (a+st):=hB.a0
  have hB1:Cm a (a+st)<=12:=hB.a1
  obtain⟨m',rfl⟩ : ∃m',m=m'+1:=by
   cases m with
   | succ m=>exact⟨m,rfl⟩
   | zero=>
    exfalso
    unfold Cm at hB0 hB1
    rcases hm with⟨h1,h2⟩|⟨h1,h2⟩
    ·rw[h1] at hB0 hB1
     split at hB1 <;> omega
    ·rw[h1] at hB0 hB1
     split at hB0 <;> omega
  have lsp:(BR hs g.lp (a+st)).length<=4:=QZ _ _ _ 4 1
  obtain⟨xs,a1,a2⟩:=W1.w
  have lx:=QbW a2
  refine Cp ⟨_,fun σ' H' h=>⟨m',Qby _,h⟩,?_⟩
  refine⟨_,rfl,.inl ⟨rfl,_,SqL.of a1⟩,_,rfl,_,rfl,_,rfl,_,rfl,_,_,rfl,rfl,_,_,rfl,Ar (by show 3<=1000;decide),λtp htp=>?_⟩
  rw[show (if a+st < a then a+st else a)=Cm a (a+st) from rfl]
  have k2':=Ae htp (.tup [.int g.lp,.int (Cm a (a+st)),.int 0])
  have W2:=(W1.same k2').zZ n12 hl1 (k2' _ _ a1) (zs:=[.ref tp]) (ss:=[⟨g.lp,Cm a (a+st),0⟩]) (.cons ⟨tp,rfl,Ab⟩ .nil)
  refine⟨l1,_,_,rfl,rfl,k2' _ _ a1,Aq (by omega),?_⟩
  generalize upd (upd HK tp (.tup [.int g.lp,.int (Cm a (a+st)),.int 0])) l1 (.lst (xs++[.ref tp]))=H2 at *
  refine⟨_,rfl,_,rfl,_,_,rfl,rfl,?_⟩
  refine⟨_,rfl,_,rfl,_,rfl,d1,hs,g.lp,a+st,rfl,rdS hd W2.sm,hb,λlq xq H3 hlq hxq pxq s3=>?_⟩
  have W3:=W2.same s3
  obtain⟨xs3,a13,a23⟩:=W3.w
  have lx3:=QbW a23
  rw[QaS] at lx3
  have lxq:=QbW pxq
  have CF:lq≠l1:=λz=>by obtain⟨xs',e,_⟩:=W2.w;rw[z,e] at hlq;cases hlq
  have CD:lq≠l2:=λz=>by obtain⟨xs',e,_⟩:=W2.p;rw[z,e] at hlq;cases hlq
  refine⟨_,rfl,.inl ⟨rfl,_,SqL.of a13⟩,_,rfl,l1,lq,_,_,rfl,rfl,a13,hxq,Ar (by rw[lx3,lxq];show _+1+_<=1000;omega),?_⟩
  have W4:=W3.zZ n12 hl1 a13 pxq
  have nt3:∀us,H3 l1≠some (.tup us):=λus z=>by rw[a13] at z;cases z
  have Cl:Paired (BX (upd H3 l1 (.lst (xs3++xq)))) xq (BR hs g.lp (a+st)):=Paired.Av pxq λ_ _ z=>z.tups (Al.upd nt3)
  have EX:(upd H3 l1 (.lst (xs3++xq))) lq=some (.lst xq):=by rw[Am CF];exact hxq
  generalize upd H3 l1 (.lst (xs3++xq))=H4 at *
  obtain⟨ys4,b14,b24⟩:=W4.p
  have ly4:=QbW b24
  refine⟨_,rfl,.inl ⟨rfl,_,SqL.of b14⟩,_,rfl,_,rfl,Ar (by show 3<=1000;decide),λtr htr=>?_⟩
  have k5:=Ae htr (.tup [.int g.lp,.int (a+st),.int 0])
  have W5:=(W4.same k5).add2 n12 hl2' (k5 _ _ b14) (zs:=[.ref tr]) (ss:=[⟨g.lp,a+st,0⟩]) (.cons ⟨tr,rfl,Ab⟩ .nil)
  refine⟨l2,_,_,rfl,rfl,k5 _ _ b14,Aq (by omega),?_⟩
  have nt5:∀us,(upd H4 tr (.tup [.int g.lp,.int (a+st),.int 0])) l2≠some (.tup us):=λus z=>by rw[k5 _ _ b14] at z;cases z
  have Ch:Paired (BX (upd (upd H4 tr (.tup [.int g.lp,.int (a+st),.int 0])) l2 (.lst (ys4++[.ref tr])))) xq (BR hs g.lp (a+st)):=Paired.Av Cl λ_ _ z=>(z.tups (Al.of k5)).tups (Al.upd nt5)
  have EW:(upd (upd H4 tr (.tup [.int g.lp,.int (a+st),.int 0])) l2 (.lst (ys4++[.ref tr]))) lq=some (.lst xq):=by rw[Am CD];exact k5 _ _ EX
  generalize upd (upd H4 tr (.tup [.int g.lp,.int (a+st),.int 0])) l2 (.lst (ys4++[.ref tr]))=H5 at *
  obtain⟨ys5,b15,b25⟩:=W5.p
  have ly5:=QbW b25
  rw[QaS] at ly5
  refine⟨_,rfl,.inl ⟨rfl,_,SqL.of b15⟩,_,rfl,l2,lq,_,_,rfl,rfl,b15,EW,Ar (by rw[ly5,lxq];show _+1+_<=1000;omega),?_⟩
  have W6:=W5.add2 n12 hl2' b15 Ch
  generalize upd H5 l2 (.lst (ys5++xq))=H6 at *
  refine⟨_,rfl,d3,rfl,.inr ⟨_,rdS hd3 W6.sm⟩,_,rfl,_,rfl,Ar (by show 2<=1000;decide),λtg htg=>?_⟩
  have k7:=Ae htg (.tup [.int g.lp,.int (a+st)])
  have W7:=W6.same k7
  have gg7:Dw (upd H6 tg (.tup [.int g.lp,.int (a+st)])) d3 (.ref tg) (DK (gpV gs) (k2 ⟨g.lp,a+st⟩)):=.inr ⟨_,_,tg,rdS hd3 W7.sm,rfl,Ab,rfl⟩
  refine⟨_,gg7,?_⟩
  dsimp only
  rw[vX]
  generalize upd H6 tg (.tup [.int g.lp,.int (a+st)])=H7 at *
  refine⟨_,rfl,Fg (λhg=>?_) (λhg=>?_)⟩
  ·have hz:Bf hs gs g.lp st (m'+1) a=(⟨g.lp,Cm a (a+st),0⟩::BR hs g.lp (a+st),⟨g.lp,a+st,0⟩::BR hs g.lp (a+st)):=by
    unfold Bf
    rw[if_neg hc,if_pos hg]
   rw[hz] at e7 e8
   exact⟨_,rfl,_,rfl,Ar (by show 2<=1000;decide),λt ht=>done H7 _ _ u8 a W7 (by rw[<-e7,Qbl];rfl) (by rw[<-e8,Qbl];rfl) t ht⟩
  ·have hz:Bf hs gs g.lp st (m'+1) a=((⟨g.lp,Cm a (a+st),0⟩::BR hs g.lp (a+st))++(Bf hs gs g.lp st m' (a+st)).1,(⟨g.lp,a+st,0⟩::BR hs g.lp (a+st))++(Bf hs gs g.lp st m' (a+st)).2):=by
    conv=>lhs;unfold Bf
    rw[if_neg hc,if_neg (by rw[hg];decide)]
   rw[hz] at e7 e8
   refine⟨a+st,_,_,_,?_,rfl,W7,?_,?_,by rw[<-e7];simp only[Qbl,List.cons_append,List.nil_append],by rw[<-e8];simp only[Qbl,List.cons_append,List.nil_append]⟩
   ·rcases hm with⟨h1,h2⟩|⟨h1,h2⟩
    ·exact .inl ⟨h1,by rw[h1];omega⟩
    ·exact .inr ⟨h1,by rw[h1];omega⟩
   ·rw[QaS,QaS]
    show wa.length+1+_+_<=_
    omega
   ·rw[QaS,QaS]
    show pa.length+1+_+_<=_
    omega
end
theorem jE {hs:YR} {s:Sp3} (h:¬stC hs s="cut"):s∈hs.map (·.1):=Qah λz=>h (YX z)
theorem Y5 (hs:YR) (lp a:Int):∀f n,∀s∈Ei hs lp a f n,s∈hs.map (·.1)
 | 0,_,s,h=>by cases h
 | f+1,n,s,h=>by
  unfold Ei at h
  split at h
  ·cases h
  ·rename_i hc
   rcases QbX.mp h with rfl | h
   ·exact jE hc
   ·exact Y5 hs lp a f (n+1) s h
theorem Qy (hs:YR) (gs:YT) (lp st:Int):∀f a,∀s∈(Bf hs gs lp st f a).1,s∈hs.map (·.1)
 | 0,_,s,h=>by cases h
 | f+1,a,s,h=>by
  unfold Bf at h
  split at h
  ·cases h
  ·rename_i hc
   have hw:∀s∈(⟨lp,Cm a (a+st),0⟩::BR hs lp (a+st):YV),s∈hs.map (·.1):=λs h=>by
    rcases QbX.mp h with rfl | h
    ·exact jE hc
    ·exact Y5 hs lp _ 4 1 s h
   split at h
   ·exact hw s h
   ·rcases QbC.mp h with h | h
    ·exact hw s h
    ·exact Qy hs gs lp st f (a+st) s h
theorem RM (hs:YR) (gs:YT) (lp st:Int):∀f a,(Bf hs gs lp st f a).1.length<=5*f
 | 0,_=>Qcn _
 | f+1,a=>by
  have ih:=RM hs gs lp st f (a+st)
  have ls:(BR hs lp (a+st)).length<=4:=QZ _ _ _ 4 1
  unfold Bf
  split
  ·exact Qco _
  ·split
   ·show (BR hs lp (a+st)).length+1<=_
    omega
   ·have:((⟨lp,Cm a (a+st),0⟩::BR hs lp (a+st))++(Bf hs gs lp st f (a+st)).1).length=(BR hs lp (a+st)).length+1+(Bf hs gs lp st f (a+st)).1.length:=by rw[QaS,Qbt]
    show ((⟨lp,Cm a (a+st),0⟩::BR hs lp (a+st))++(Bf hs gs lp st f (a+st)).1).length<=_
    omega
def Dd (hs:YR) (ws:YV):Bool:=ws.any λs=>decide (V.str (stC hs s)=V.str "short")
def Dm (hs:YR) (gs:YT) (g:Gt):Bool:=Dd hs (Bf hs gs g.lp 1 16 g.at_).1 || Dd hs (Bf hs gs g.lp (-1) 16 g.at_).1
def Wg:Sp:=λvs H Q _=>∃(d1 l:Addr) (hs:YR) (xs:YG) (ws:YV),vs=[.ref d1,.ref l]/\Rd H d1 (.dT (stV hs))/\H l=some (.lst xs)/\Paired (BX H) xs ws/\(∀s∈ws,s∈hs.map (·.1))/\ws.length<=200/\∀H',Same H H'->Q (.bl (Dd hs ws)) H'
def Zc:Sp:=λvs H Q _=>∃(d1 d3 o:Addr) (hs:YR) (gs:YT) (g:Gt),vs=[.ref d1,.ref d3,.ref o]/\Rd H d1 (.dT (stV hs))/\Rd H d3 (.dT (gpV gs))/\H o=some (.tup [.int g.lp,.int g.at_])/\(∀s∈hs.map (·.1),Bd3 s)/\-1<=g.at_/\g.at_<=14/\∀H',Same H H'->Q (.bl (Dm hs gs g)) H'
theorem rdS {HA HB:Hp} {d:Addr} {u:HO} (h:Rd HA d u) (s:Same HA HB):Rd HB d u:=by
 rcases h with h |⟨o,h⟩
 ·exact .inl (s _ _ h)
 ·exact .inr ⟨o,s _ _ h⟩
section
variable {P:Program} {w:World} {K:YD} {mg:YB} {base:Heap} {op oe kd wk C:Addr}
theorem Z0 (c:Code K mg "has_short" KH G3) (T:Tw K mg op oe kd wk C):Good P w K mg base "has_short" 1 G3 Wg:=by
 refine c.good Zm (λvs H Q E h=>?_) (λf cdv A outer s H vs Q E hr h=>?_)
 ·obtain⟨d1,l,hs,xs,ws,rfl,_⟩:=h
  rfl
 obtain⟨d1,l,hs,xs,ws,rfl,hd,hl,hx,hin,LE,q⟩:=h
 refine⟨_,(Ai (Ay (Az (rM rfl) rfl T.any zY (Aa (Cg (N':=["stretch","states"]) rfl (Bg.of (src:=[none,some 0]) (Aj KH) ["states","wires"] rfl rfl rfl (by trivial) (by trivial) (by trivial) rfl (by trivial)) (Dk (pv 1)) (λ_ _ _ _=>(Ah (i:=0) (show List.Nodup (["stretch","states"]:YF) by trivial) rfl (Or.inl rfl))) (λ_ _ _ _=>CQ) (λ_ _ _ _=>(Jt G7 (Pg (Dg hr) (pv 1) (pv 0) (λ_ _=>rfl)) Bt (Br _)))) Ac)))),?_⟩
 have lx:=QbW hx
 refine⟨_,rfl,l,rfl,⟨_,SqL.of hl⟩,λlc hlc=>?_⟩
 let J0:YN:=λi σ HH=>(∃u,σ=[u,some (.ref d1)])/\HH lc=some (.lst (((ws.take i).map λs=>decide (V.str (stC hs s)=V.str "short")).map V.bl))/\Same H HH
 refine FQ (xs:=xs) J0 ⟨⟨_,rfl⟩,Ab,Ae hlc _⟩ (λi σ HH _ h=>SqL.of (h.2.2 _ _ hl)) (λi x σ HH hxi h=>?_) (fun σ HH h=>?_)
 ·obtain⟨⟨u,rfl⟩,e1,e2⟩:=h
  obtain⟨sp,hsp,t,rfl,ht⟩:=Paired.Ce hx hxi
  have hi:=(Qag.mp hxi).1
  have hv:DK (stV hs) (k3 sp)=some (.str (stC hs sp)):=by
   have h1:=Wa sp hs
   obtain⟨y,hy,ey⟩:=Qcg.mp (hin sp (QaF hsp))
   unfold stC
   rw[h1]
   cases e:hs.find? λx=>decide (x.1=sp) with
   | none=>exact absurd ey (by simpa using List.find?_eq_none.mp e y hy)
   | some z=>rfl
  have gg:Dw HH d1 (.ref t) (DK (stV hs) (k3 sp)):=.inr ⟨stV hs,k3 sp,t,rdS hd e2,rfl,e2 _ _ ht,rfl⟩
  rw[hv] at gg
  unfold Fl
  dsimp only
  refine Cp ⟨_,rfl,_,rfl,d1,_,rfl,gg,rfl,_,e1,Aq (by rw[QbB,QbB,Qbu];omega),⟨_,rfl⟩,?_,e2.Bm Ag.upd hlc⟩
  rw[Ab,Qcx hsp,QbD,QbD]
  rfl
 ·obtain⟨_,e1,e2⟩:=h
  rw[lx,Qbs] at e1
  refine⟨lc,_,rfl,SqL.of e1,?_⟩
  have:(ws.map λs=>decide (V.str (stC hs s)=V.str "short")).any id=Dd hs ws:=by unfold Dd;rw[List.any_map];rfl
  rw[this]
  exact q _ e2
theorem Tt (c:Code K mg "comes_to_short" Jg DW) (T:Tw K mg op oe kd wk C) (Oc:Good P w K mg base "come_to" 2 Jv Ze) (KN:Good P w K mg base "has_short" 1 G3 Wg):Good P w K mg base "comes_to_short" 3 DW Zc:=by
 have sc:=Dy
 refine c.good Dy (λvs H Q E h=>?_) (λf cdv A outer s H vs Q E hr h=>?_)
 ·obtain⟨d1,d3,o,hs,gs,g,rfl,_⟩:=h
  rfl
 obtain⟨d1,d3,o,hs,gs,g,rfl,hd,hd3,ho,hb,ga,gb,q⟩:=h
 refine⟨_,(Af (Gj (Aw Oc hr (Aa (pv 0) (Aa (pv 1) (Aa (pv 2) (Aa Ad Ac))))) (Cv rfl (Ak (Ah (i:=3) Dy.nd rfl (Or.inl rfl)) (Ak (Ah (i:=4) Dy.nd rfl (Or.inl rfl)) Bp))))
 (Af (Gj (Aw Oc hr (Aa (pv 0) (Aa (pv 1) (Aa (pv 2) (Aa (Vf QW Ad) Ac))))) (Cv rfl (Ak (Ah (i:=5) Dy.nd rfl (Or.inl rfl)) (Ak (Ah (i:=6) Dy.nd rfl (Or.inl rfl)) Bp))))
 (Ai (Ay (AV (Aw KN hr (Aa (pv 0) (Aa (pv 3) Ac))) (Ed (Aw KN hr (Aa (pv 0) (Aa (pv 5) Ac))))))))),?_⟩
 show let R0:TS:=_;let R1:TS:=Ao _ R0;Ao _ R1 _ _ _
 intro R0 R1
 have iM:∀st,(Bf hs gs g.lp st 16 g.at_).1.length<=200:=λst=>Qci (RM hs gs g.lp st 16 g.at_) (by decide)
 refine⟨_,rfl,_,rfl,_,rfl,d1,d3,o,hs,gs,g,1,rfl,hd,hd3,ho,hb,.inl rfl,ga,gb,λt1 l1 l2 xs1 ys1 H1 ht1 hl1 hx1 _ _ s1=>⟨t1,_,rfl,SqT.of ht1,rfl,_,_,rfl,_,_,rfl,rfl,?_⟩⟩
 refine⟨_,rfl,_,rfl,_,rfl,_,rfl,d1,d3,o,hs,gs,g,-1,rfl,rdS hd s1,rdS hd3 s1,s1 _ _ ho,hb,.inr rfl,ga,gb,λt2 l3 l4 xs2 ys2 H2 ht2 hl3 hx2 _ _ s2=>⟨t2,_,rfl,SqT.of ht2,rfl,_,_,rfl,_,_,rfl,rfl,?_⟩⟩
 have s12:=s1.trans s2
 have EZ:Paired (BX H2) xs1 (Bf hs gs g.lp 1 16 g.at_).1:=Paired.Av hx1 λ_ _ z=>z.tups (Al.of s2)
 refine⟨_,rfl,_,rfl,d1,l1,hs,xs1,_,rfl,rdS hd s12,s2 _ _ hl1,EZ,Qy hs gs g.lp 1 16 g.at_,iM 1,λH3 s3=>⟨_,rfl,?_⟩⟩
 cases e:Dd hs (Bf hs gs g.lp 1 16 g.at_).1 with
 | true=>
  refine Cp ?_
  have:=q H3 (s12.trans s3)
  unfold Dm at this
  rw[e] at this
  exact this
 | false=>
  refine Cd ⟨_,rfl,_,rfl,d1,l3,hs,xs2,_,rfl,rdS hd (s12.trans s3),s3 _ _ hl3,Paired.Av hx2 λ_ _ z=>z.tups (Al.of s3),Qy hs gs g.lp (-1) 16 g.at_,iM (-1),λH4 s4=>?_⟩
  have:=q H4 (s12.trans (s3.trans s4))
  unfold Dm at this
  rw[e] at this
  exact this
end
abbrev Kg:Stmt:=(inClass (top 44) 10)
abbrev Gq:YF:=["self"]
theorem Va:Ax ["self"] Gq (Aj Kg):=⟨rfl,rfl,rfl,by trivial,rfl,by trivial,by trivial⟩
theorem Fi (pl d1 d2 d3:Addr):List.lookup ("gaps":Str) (ff pl d1 d2 d3)=some (V.ref d3):=RD (i:=3) (fnd pl d1 d2 d3) rfl
def Xn (gs:YT):Prop:=∀x∈gs,-1<=x.1.at_/\x.1.at_<=14
def Za (C:Addr):Sp:=λvs H Q _=>∃p pl d1 d2 d3 hs fl gs,vs=[.ref p]/\WAt C H p pl d1 d2 d3 hs fl gs/\∀l xs H',H l=none->H' l=some (.lst xs)->Paired (Eh H') xs ((gs.filter (·.2)).map (·.1))->Same H H'->Q (.ref l) H'
section
variable {P:Program} {w:World} {K:YD} {mg:YB} {base:Heap} {op oe kd wk C:Addr}
theorem kE (c:Jc K C "parted" "Wires.parted" Kg Gq) (T:Tw K mg op oe kd wk C):Dn P w K mg base C "parted" 1 Gq (Za C):=by
 refine c.good Va (λvs H Q E h=>?_) (λf cdv A outer s H vs Q E hr h=>?_)
 ·obtain⟨p,pl,d1,d2,d3,hs,fl,gs,rfl,_⟩:=h
  rfl
 obtain⟨p,pl,d1,d2,d3,hs,fl,gs,rfl,R,q⟩:=h
 refine⟨_,(Ai (Ay (Nk rfl (Cg (N':=["opener","gap"]) rfl (Bg.plain rfl (by trivial) (by trivial) (by trivial)) (N6 (Df (pv 0) rfl)) (λ_ _ _ _=>(Fp (K:=K) (n:=2) rfl rfl (Ak (Ah (i:=0) (show List.Nodup (["opener","gap"]:YF) by trivial) rfl (Or.inl rfl)) (Ak (Ah (i:=1) (show List.Nodup (["opener","gap"]:YF) by trivial) rfl (Or.inl rfl)) Bp)))) (λ_ _ _ _=>(Gm (Ds (pv 1)))) (λ_ _ _ _=>(pv 0)))))),?_⟩
 obtain⟨dx,hp⟩:=R.ins
 have hd3:=R.gp
 have l3:=R.l3
 have nfz:∀o' u,H d3≠some (.frz o' u):=λo' u z=>by rw[hd3] at z;cases z
 have lgs:(gpV gs).length=gs.length:=by unfold gpV;rw[QbB]
 refine⟨_,rfl,p,C,dx,_,_,rfl,hp,T.cl,T.Gs,Fi pl d1 d2 d3,d3,gpV gs,rfl,hd3,λo l hl=>?_⟩
 have nl:l≠d3:=λz=>by rw[z,Ab] at hl;cases hl
 have fl':H l=none:=by rw[Am nl] at hl;exact hl
 let J0:YN:=λi σ HH=>(∃u v,σ=[u,v])/\(∃ys,HH l=some (.lst ys)/\Paired (Eh HH) ys (((gs.take i).filter (·.2)).map (·.1))/\ys.length<=i)/\Same (upd H d3 (.frz o (.dT (gpV gs)))) HH
 refine Qw J0 ⟨⟨none,none,rfl⟩,⟨[],Ab,.nil,Qcn _⟩,Ae hl _⟩ (λi σ HH _ h=>h.2.2 _ _ Ab) (λi kv p' b σ HH hkv h hp' hb'=>?_) (fun σ HH h=>?_)
 ·obtain⟨⟨u,v,rfl⟩,⟨ys,e1,e3,e4⟩,e2⟩:=h
  have hi:=(Qag.mp hkv).1
  unfold gpV at hkv
  rw[Qbk] at hkv
  obtain⟨x,hx,rfl⟩:=Qax.mp hkv
  have t1:=Ae hp' (.tup [.ref b,.bl x.2])
  have e2':=e2.trans t1
  have et:((gs.take (i+1)).filter (·.2)).map (·.1)=((gs.take i).filter (·.2)).map (·.1)++([x].filter (·.2)).map (·.1):=by rw[Qcx hx,Qbd,QbD]
  refine⟨p',_,rfl,SqT.of Ab,rfl,_,_,rfl,_,_,rfl,rfl,?_⟩
  refine⟨_,rfl,_,rfl,Fg (λhc=>?_) (λhc=>?_)⟩
  ·have e1':=t1 _ _ e1
   have ntl:∀zs,(upd HH p' (.tup [.ref b,.bl x.2])) l≠some (.tup zs):=λzs z=>by rw[e1'] at z;cases z
   have sL:=Al.upd (o:=.lst (ys++[.ref b])) ntl
   refine⟨_,rfl,ys,e1',Aq (by omega),⟨_,_,rfl⟩,⟨_,Ab,?_,by rw[QaS];show _+1<=_;omega⟩,e2'.Bm Ag.upd hl⟩
   rw[et,show [x].filter (·.2)=[x] from Qas (p:=λy:Gt×Bool=>y.2) hc]
   exact Qcp ⟨b,rfl,sL _ _ (t1 _ _ hb')⟩ (Paired.Av e3 λ_ _ z=>(z.tups (Al.of t1)).tups sL)
  ·refine⟨⟨_,_,rfl⟩,⟨ys,t1 _ _ e1,?_,by omega⟩,e2'⟩
   rw[et,show [x].filter (·.2)=[] from Qar (p:=λy:Gt×Bool=>y.2) (by rw[hc];decide),Qcm,QbG]
   exact Paired.Av e3 λ_ _ z=>z.tups (Al.of t1)
 ·obtain⟨_,⟨ys,e1,e3,e4⟩,e2⟩:=h
  rw[lgs,Qbs] at e3
  have hfz:=e2 _ _ Ab
  have ntz:∀zs,HH d3≠some (.tup zs):=λzs z=>by rw[hfz] at z;cases z
  exact⟨d3,o,gpV gs,hfz,nfz,q l ys _ fl' (by rw[Am nl];exact e1) (Paired.Av e3 λ_ _ z=>z.tups (Al.upd ntz)) (Jq e2 hd3)⟩
end
abbrev Ou:Stmt:=(inClass (top 44) 11)
abbrev Iu:YF:=["self","opener"]
theorem JG:Ax ["self","opener","gap","changed"] Iu (Aj Ou):=⟨rfl,rfl,rfl,by trivial,rfl,by trivial,by trivial⟩
def setG (gs:YT) (g:Gt) (b:Bool):YT:=gs.map λx=>if x.1=g then (x.1,b) else x
theorem M6 (gs:YT) (g:Gt) (b:Bool):(setG gs g b).map (·.1)=gs.map (·.1):=by
 unfold setG
 rw[Qcj]
 refine QaL λx _=>?_
 show (if x.1=g then (x.1,b) else x).1=x.1
 split <;> rfl
theorem o7 (gs:YT) (g:Gt) (b:Bool):(setG gs g b).length=gs.length:=QbB ..
theorem vW {gs:YT} {g:Gt} {b:Bool} (h:g∈gs.map (·.1)):putK (gpV gs) (k2 g) (.bl b)=gpV (setG gs g b):=by
 obtain⟨x,hx,e⟩:=Qcg.mp h
 rw[ZC (l:=gpV gs) ⟨_,Qcg.mpr ⟨x,hx,rfl⟩,by show k2 x.1=_;rw[e]⟩]
 unfold gpV setG
 rw[Qcj,Qcj]
 refine QaL λy _=>?_
 show (if k2 y.1=k2 g then (k2 y.1,V.bl b) else (k2 y.1,V.bl y.2))=(k2 (if y.1=g then (y.1,b) else y).1,V.bl (if y.1=g then (y.1,b) else y).2)
 by_cases e:y.1=g
 ·rw[if_pos (by rw[e]),if_pos e]
 ·rw[if_neg (λz=>e (Vv z)),if_neg e]
theorem VB {gs:YT} {g:Gt} (h:g∈gs.map (·.1)):DK (gpV gs) (k2 g)=some (.bl (gpC gs g)):=by
 obtain⟨y,hy,ey⟩:=Qcg.mp h
 unfold gpC
 rw[Xb]
 cases e:gs.find? λx=>decide (x.1=g) with
 | none=>exact absurd ey (by simpa using List.find?_eq_none.mp e y hy)
 | some z=>rfl
def KF (H:Hp) (v:V) (gs:List Gt):Prop:=∃b g,v=.ref b/\H b=some (.tup [.int g.lp,.int g.at_])/\g∈gs
theorem bR {H:Hp} {v:V} {ss:List Gt} (h:KF H v ss):RZ (Jz H v) 2=true:=by
 obtain⟨b,s,rfl,hb,_⟩:=h
 rw[Di hb]
 rfl
theorem vV {H:Hp} {v:V} {s:Gt} (h:Eh H v s):Th H v:=by
 obtain⟨u,rfl,e⟩:=h
 refine⟨.inr ⟨_,e⟩,λxs ex=>?_⟩
 rw[Di e] at ex
 cases ex
 refine⟨by show 2<=100;decide,λy hy=>?_⟩
 have:y=.int s.lp\/y=.int s.at_:=by simpa using hy
 rcases this with rfl | rfl <;> exact True.intro
def jL (C:Addr):Sp:=λvs H Q _=>∃p pl d1 d2 d3 hs fl gs b g,vs=[.ref p,.ref b]/\WAt C H p pl d1 d2 d3 hs fl gs/\(∀s∈hs.map (·.1),Bd3 s)/\Xn gs/\H b=some (.tup [.int g.lp,.int g.at_])/\g∈gs.map (·.1)/\∀H',WAt C H' p pl d1 d2 d3 hs fl (setG gs g (Dm hs gs g))->Ag d3 H H'->Q (.bl (!decide (V.bl (Dm hs gs g)=V.bl (gpC gs g)))) H'
section
variable {P:Program} {w:World} {K:YD} {mg:YB} {base:Heap} {op oe kd wk C:Addr}
theorem yE (c:Jc K C "act" "Wires.act" Ou Iu) (T:Tw K mg op oe kd wk C) (Nz:Good P w K mg base "are_wholes" 2 Gp Q0) (Jk:Good P w K mg base "comes_to_short" 3 DW Zc):Dn P w K mg base C "act" 4 Iu (jL C):=by
 have sc:=JG
 refine c.good JG (λvs H Q E h=>?_) (λf cdv A outer s H vs Q E hr h=>?_)
 ·obtain⟨p,pl,d1,d2,d3,hs,fl,gs,b,g,rfl,_⟩:=h
  rfl
 obtain⟨p,pl,d1,d2,d3,hs,fl,gs,b,g,rfl,R,hb,hg,hbt,hin,q⟩:=h
 refine⟨_,(Af (Ci (PW.pt (Ml (Fx (Ds (Aw Nz hr (Aa (pv 1) (Aa Ad Ac))))) (Nf (Rk (Rp (Dg hr) (pv 1) (Df (pv 0) rfl)))))) (Ai Ug) BK)
 (Af (Ba (i:=2) JG.nd rfl (Or.inl rfl) (Aw Jk hr (Aa (Df (pv 0) rfl) (Aa (Df (pv 0) rfl) (Aa (pv 1) Ac)))))
 (Af (Ba (i:=3) JG.nd rfl (Or.inl rfl) (Jt Vj (pv 2) (Pg (Dg hr) (Df (pv 0) rfl) (pv 1) (λ_ _=>rfl)) (Br _)))
 (Af (Mt (Dg hr) (Df (pv 0) rfl) (pv 1) (pv 2) rfl)
 (Ai (Ay (pv 3))))))),?_⟩
 show let R0:TS:=Ao _ _;let R1:TS:=Ao _ R0;let R2:TS:=Ao _ R1;Ao _ R2 _ _ _
 intro R0 R1 R2
 refine⟨_,rfl,.ref b,2,rfl,vV ⟨b,rfl,hbt⟩,λH1 s1=>⟨_,rfl,?_⟩⟩
 rw[bR ⟨b,g,rfl,hbt,hin⟩]
 have R1:=R.same s1
 obtain⟨dx,hp⟩:=R1.ins
 refine Cd ⟨_,rfl,_,rfl,p,C,dx,_,_,rfl,hp,T.cl,T.Gs,Fi pl d1 d2 d3,d3,_,rfl,Dw.t (k:=k2 g) R1.gp (s1 _ _ hbt),_,rfl,?_⟩
 rw[VB hin]
 obtain⟨x,hx',ex⟩:=Qcg.mp hin
 have gb:=hg x hx'
 rw[ex] at gb
 refine Cd ⟨_,rfl,p,C,dx,_,_,rfl,hp,T.cl,T.Gd,FN pl d1 d2 d3,_,rfl,p,C,dx,_,_,rfl,hp,T.cl,T.Gs,Fi pl d1 d2 d3,_,rfl,d1,d3,b,hs,gs,g,rfl,.inl R1.st,.inl R1.gp,s1 _ _ hbt,hb,gb.1,gb.2,λH2 s2=>?_⟩
 have R2:=R1.same s2
 obtain⟨dx2,hp2⟩:=R2.ins
 have s12:=s1.trans s2
 have gg:=Dw.t (k:=k2 g) R2.gp (s12 _ _ hbt)
 rw[VB hin] at gg
 refine⟨_,rfl,_,rfl,p,C,dx2,_,_,rfl,hp2,T.cl,T.Gs,Fi pl d1 d2 d3,_,rfl,d3,_,rfl,gg,rfl,?_⟩
 have l3:=R2.l3
 have hd3:=R2.gp
 have npd:p≠d3:=λz=>by rw[z,hd3] at hp2;cases hp2
 have nt:∀zs,H2 d3≠some (.tup zs):=λzs z=>by rw[hd3] at z;cases z
 refine⟨_,rfl,_,rfl,p,C,dx2,_,_,rfl,hp2,T.cl,T.Gs,Fi pl d1 d2 d3,_,rfl,d3,_,rfl,Ma.t (k:=k2 g) hd3 (s12 _ _ hbt) (Aq (by unfold gpV;rw[QbB];omega)),?_⟩
 rw[vW hin]
 obtain⟨kvs,hk,hf⟩:=R2.fi
 have sT:=Al.upd (o:=.dT (gpV (setG gs g (Dm hs gs g)))) nt
 exact⟨_,rfl,q _ ⟨⟨dx2,by rw[Am npd];exact hp2⟩,by rw[Am R2.n13];exact R2.st,⟨kvs,by rw[Am R2.n23];exact hk,Paired.Av hf λ_ _ z=>z.tups sT⟩,R.nd1,R.nd2,R.l1,R.l2,Ab,by rw[M6];exact R.nd3,by rw[o7];exact R.l3,R.n13,R.n23⟩ ((Ag.of s12).trans Ag.upd)⟩
end
abbrev CT:Stmt:=(inClass (top 44) 13)
abbrev Du:YF:=["self"]
theorem CJ:Ax ["self","lone","near","row","opener"] Du (Aj CT):=⟨rfl,rfl,rfl,by trivial,rfl,by trivial,by trivial⟩
def lone (gs:YT):YT:=gs.map λx=>(x.1,true)
def Bk (hs:YR) (gs:YT) (g:Gt):Bool:=Dm hs (lone gs) g
def Bq (hs:YR) (gs:YT):YT:=gs.map λx=>(x.1,Bk hs gs x.1)
def G8 (hs:YR) (gs:YT) (L:List Gt):YT:=L.foldl (λgs g=>setG gs g (Dm hs gs g)) gs
def cS (hs:YR) (gs:YT) (lp st:Int) (f:Nat) (a:Int):Bool:=Dd hs (Bf hs gs lp st f a).1
theorem Ks {hs:YR} {gs:YT} {lp st:Int} {f:Nat} {a:Int}:cS hs gs lp st (f+1) a=true ↔ ¬stC hs ⟨lp,Cm a (a+st),0⟩="cut"/\(Dd hs (⟨lp,Cm a (a+st),0⟩::BR hs lp (a+st))=true\/gpC gs ⟨lp,a+st⟩=false/\cS hs gs lp st f (a+st)=true):=by
 unfold cS
 by_cases hc:stC hs ⟨lp,Cm a (a+st),0⟩="cut"
 ·rw[show Bf hs gs lp st (f+1) a=([],[]) from if_pos hc]
  constructor
  ·intro h;cases h
  ·rintro ⟨h,_⟩;exact absurd hc h
 ·cases hg:gpC gs ⟨lp,a+st⟩ with
  | true=>
   rw[show Bf hs gs lp st (f+1) a=(⟨lp,Cm a (a+st),0⟩::BR hs lp (a+st),⟨lp,a+st,0⟩::BR hs lp (a+st)) from (if_neg hc).trans (if_pos hg)]
   constructor
   ·intro h;exact⟨hc,.inl h⟩
   ·rintro ⟨_,h |⟨h,_⟩⟩
    ·exact h
    ·cases h
  | false=>
   rw[show Bf hs gs lp st (f+1) a=((⟨lp,Cm a (a+st),0⟩::BR hs lp (a+st))++(Bf hs gs lp st f (a+st)).1,(⟨lp,a+st,0⟩::BR hs lp (a+st))++(Bf hs gs lp st f (a+st)).2) from (if_neg hc).trans (if_neg (by rw[hg];decide))]
   show Dd hs (_++_)=true ↔ _
   unfold Dd
   rw[List.any_append,Bool.or_eq_true]
   constructor
   ·rintro (h | h)
    ·exact⟨hc,.inl h⟩
    ·exact⟨hc,.inr ⟨rfl,h⟩⟩
   ·rintro ⟨_,h |⟨_,h⟩⟩
    ·exact .inl h
    ·exact .inr h
theorem fL {hs:YR} {gs:YT} {lp st:Int}:∀{f F:Nat} {a:Int},f<=F->cS hs gs lp st f a=true->cS hs gs lp st F a=true
 | 0,_,_,_,h=>by cases h
 | f+1,F+1,a,hF,h=>by
  obtain⟨h1,h2⟩:=Ks.mp h
  refine Ks.mpr ⟨h1,h2.imp id λzz=>?_⟩
  obtain⟨h3,h4⟩:=zz
  exact⟨h3,fL (by omega) h4⟩
theorem Xi {hs:YR} {gs ls:YT} {lp st:Int} (hl:∀g,gpC ls g=false->gpC gs g=false):∀{f:Nat} {a:Int},cS hs ls lp st f a=true->cS hs gs lp st f a=true
 | 0,_,h=>by cases h
 | f+1,a,h=>by
  obtain⟨h1,h2⟩:=Ks.mp h
  refine Ks.mpr ⟨h1,h2.imp id λzz=>?_⟩
  obtain⟨h3,h4⟩:=zz
  exact⟨hl _ h3,Xi hl h4⟩
theorem Kr {hs:YR} {gs:YT} {g:Gt}:Dm hs gs g=true ↔ cS hs gs g.lp 1 16 g.at_=true\/cS hs gs g.lp (-1) 16 g.at_=true:=by
 unfold Dm cS
 rw[Bool.or_eq_true]
theorem Xh {hs:YR} {gs ls:YT} {lp st:Int} (hst:st=1\/st=-1) (hn:∀g,gpC ls g=true->Dm hs ls g=true->gpC gs g=true):∀{f:Nat} {a:Int},f<=16->cS hs gs lp st f a=true->cS hs ls lp st f a=true
 | 0,_,_,h=>by cases h
 | f+1,a,hf,h=>by
  obtain⟨h1,h2⟩:=Ks.mp h
  refine Ks.mpr ⟨h1,?_⟩
  rcases h2 with h2 |⟨h3,h4⟩
  ·exact .inl h2
  ·have ih:=Xh hst hn (by omega) h4
   cases hg:gpC ls ⟨lp,a+st⟩ with
   | false=>exact .inr ⟨rfl,ih⟩
   | true=>
    have:=hn ⟨lp,a+st⟩ hg (Kr.mpr (by
     have:=fL (F:=16) (by omega) ih
     rcases hst with rfl | rfl
     ·exact .inl this
     ·exact .inr this))
    rw[h3] at this
    cases this
theorem find_key {β : Type} {gs:List (Gt×β)} {g:Gt} (h:g∉gs.map (·.1)):gs.find? (λx=>decide (x.1=g))=none:=List.find?_eq_none.mpr λx hx=>by simpa using λe=>h (Qcg.mpr ⟨x,hx,e⟩)
theorem S7 {gs:YT} {g:Gt} (h:gpC gs g=true):g∈gs.map (·.1):=Qah λc=>by
 unfold gpC at h
 rw[find_key c] at h
 cases h
theorem aK {gs:YT} (nd:(gs.map (·.1)).Nodup) {x:Gt×Bool} (h:x∈gs):gpC gs x.1=x.2:=by
 unfold gpC
 induction gs with
 | nil=>cases h
 | cons a r ih=>
  obtain⟨n1,n2⟩:=QbK.mp nd
  rcases QbX.mp h with rfl | h
  ·rw[Qay (by exact QbR rfl)];rfl
  ·rw[Qaw (by simpa using λe=>n1 (Qcg.mpr ⟨x,h,by exact Eq.symm e⟩))]
   exact ih n2 h
theorem Kq (f:Gt->Bool) (g:Gt):∀gs:YT,g∈gs.map (·.1)->gpC (gs.map λx=>(x.1,f x.1)) g=f g
 | [],h=>by cases h
 | a::r,h=>by
  unfold gpC
  by_cases e:a.1=g
  ·rw[QbY,Qay (by exact QbR e),e];rfl
  ·rw[QbY,Qaw (by simpa using e)]
   refine Kq f g r ?_
   rcases QbX.mp h with z | z
   ·exact absurd z.symm e
   ·exact z
theorem qM (gs:YT):(lone gs).map (·.1)=gs.map (·.1):=by unfold lone;rw[Qcj];rfl
theorem Ho (hs:YR) (gs:YT):(Bq hs gs).map (·.1)=gs.map (·.1):=by unfold Bq;rw[Qcj];rfl
theorem vN {gs gs':YT} (h:gs.map (·.1)=gs'.map (·.1)):lone gs=lone gs':=by
 have:∀l:YT,lone l=(l.map (·.1)).map λg=>(g,true):=λl=>by unfold lone;rw[Qcj];rfl
 rw[this,this,h]
theorem Qq {gs:YT} {g:Gt}:gpC (lone gs) g=true ↔ g∈gs.map (·.1):=⟨λh=>by rw[<-qM];exact S7 h,λh=>Kq (λ_=>true) g gs h⟩
theorem Rv {hs:YR} {gs:YT} {g:Gt} (h:Bk hs gs g=true):Dm hs gs g=true:=by
 have hl:∀g,gpC (lone gs) g=false->gpC gs g=false:=λg h=>by
  cases c:gpC gs g with
  | false=>rfl
  | true=>rw[Qq.mpr (S7 c)] at h;cases h
 exact Kr.mpr ((Kr.mp h).imp (Xi hl) (Xi hl))
def V2 (hs:YR) (gs:YT):Prop:=∀g,g∈gs.map (·.1)->Bk hs gs g=true->gpC gs g=true
theorem mJ {hs:YR} {gs:YT} (hn:V2 hs gs) (g:Gt):Dm hs gs g=Bk hs gs g:=by
 cases c:Bk hs gs g with
 | true=>exact Rv c
 | false=>
  cases c':Dm hs gs g with
  | false=>rfl
  | true=>
   have hn':∀g,gpC (lone gs) g=true->Dm hs (lone gs) g=true->gpC gs g=true:=λg h1 h2=>hn g (Qq.mp h1) h2
   have:Bk hs gs g=true:=Kr.mpr ((Kr.mp c').imp (Xh (.inl rfl) hn' (Qcn _)) (Xh (.inr rfl) hn' (Qcn _)))
   rw[c] at this
   cases this
theorem S6 {gs:YT} {g:Gt} (h:g∈gs.map (·.1)) (b:Bool) (g':Gt):gpC (setG gs g b) g'=if g'=g then b else gpC gs g':=by
 induction gs with
 | nil=>cases h
 | cons a r ih=>
  by_cases e:a.1=g
  ·by_cases e':g'=g
   ·rw[if_pos e']
    unfold gpC setG
    rw[QbY,if_pos e,Qay (by rw[e'];exact QbR e)]
    rfl
   ·have n:¬a.1=g':=λz=>e' (by rw[<-z,e])
    rw[if_neg e']
    by_cases hr:g∈r.map (·.1)
    ·have:=ih hr
     rw[if_neg e'] at this
     unfold gpC setG at this ⊢
     rw[QbY,if_pos e,Qaw (by simpa using n),Qaw (by simpa using n)]
     exact this
    ·unfold gpC setG
     rw[QbY,if_pos e,Qaw (by simpa using n),Qaw (by simpa using n),show (r.map λx=>if x.1=g then (x.1,b) else x)=r from (QaL λx hx=>if_neg λz=>hr (Qcg.mpr ⟨x,hx,z⟩)).trans (List.map_id r)]
  ·have hr:g∈r.map (·.1):=by
    rcases QbX.mp h with z | z
    ·exact absurd z.symm e
    ·exact z
   have:=ih hr
   unfold gpC setG at this ⊢
   rw[QbY,if_neg e]
   by_cases n:a.1=g'
   ·rw[Qay (by exact QbR n),Qay (by exact QbR n),if_neg (λz=>e (by rw[n,z]))]
   ·rw[Qaw (by simpa using n),Qaw (by simpa using n)]
    exact this
theorem Mw {hs:YR} {gs gs':YT} (h:gs.map (·.1)=gs'.map (·.1)) (g:Gt):Bk hs gs g=Bk hs gs' g:=by unfold Bk;rw[vN h]
theorem QD (hs:YR):∀(L:List Gt) (gs:YT),(G8 hs gs L).map (·.1)=gs.map (·.1)
 | [],_=>rfl
 | g::r,gs=>(QD hs r _).trans (M6 _ _ _)
theorem bJ (hs:YR) (gs:YT) (L M:List Gt):G8 hs gs (L++M)=G8 hs (G8 hs gs L) M:=List.foldl_append ..
theorem uD {hs:YR}:∀{L:List Gt} {gs:YT},(∀g∈L,g∈gs.map (·.1))->∀g,(g∈L\/gpC gs g=true)->Bk hs gs g=true->gpC (G8 hs gs L) g=true
 | [],gs,_,g,h,_=>by
  rcases h with h | h
  ·cases h
  ·exact h
 | x::r,gs,hk,g,h,hn=>by
  have e1:=M6 gs x (Dm hs gs x)
  have hx:=hk x QaT
  show gpC (G8 hs (setG gs x (Dm hs gs x)) r) g=true
  refine uD (λg' hg'=>by rw[e1];exact hk g' (QaG _ hg')) g ?_ (by rw[Mw e1];exact hn)
  rw[S6 hx]
  by_cases e:g=x
  ·rw[if_pos e,<-e]
   exact .inr (Rv hn)
  ·rw[if_neg e]
   rcases h with h | h
   ·rcases QbX.mp h with h | h
    ·exact absurd h e
    ·exact .inl h
   ·exact .inr h
theorem uE {hs:YR}:∀{L:List Gt} {gs:YT},(∀g∈L,g∈gs.map (·.1))->∀g,g∉L->gpC (G8 hs gs L) g=gpC gs g
 | [],gs,_,g,_=>rfl
 | x::r,gs,hk,g,h=>by
  have e1:=M6 gs x (Dm hs gs x)
  show gpC (G8 hs (setG gs x (Dm hs gs x)) r) g=_
  rw[uE (λg' hg'=>by rw[e1];exact hk g' (QaG _ hg')) g (λz=>h (QaG _ z)),S6 (hk x QaT),if_neg (λz=>h (by rw[z];exact QaT))]
theorem uy {hs:YR}:∀{L:List Gt} {gs:YT},(∀g∈L,g∈gs.map (·.1))->V2 hs gs->∀g,gpC (G8 hs gs L) g=if g∈L then Bk hs gs g else gpC gs g
 | [],gs,_,_,g=>rfl
 | x::r,gs,hk,hn,g=>by
  have e1:=M6 gs x (Dm hs gs x)
  have hx:=hk x QaT
  have hn':V2 hs (setG gs x (Dm hs gs x)):=λg' h1 h2=>by
   rw[e1] at h1
   rw[Mw e1] at h2
   rw[S6 hx]
   by_cases e:g'=x
   ·rw[if_pos e,<-e];exact Rv h2
   ·rw[if_neg e];exact hn g' h1 h2
  show gpC (G8 hs (setG gs x (Dm hs gs x)) r) g=_
  rw[uy (λg' hg'=>by rw[e1];exact hk g' (QaG _ hg')) hn' g,Mw e1,S6 hx]
  by_cases h:g∈r
  ·rw[if_pos h,if_pos (QaG _ h)]
  ·rw[if_neg h]
   by_cases e:g=x
   ·rw[if_pos e,if_pos (by rw[e];exact QaT),e,mJ hn]
   ·rw[if_neg e,if_neg (λz=>by rcases QbX.mp z with z | z;exact e z;exact h z)]
theorem zF {gs gs':YT} (nd:(gs.map (·.1)).Nodup) (k:gs.map (·.1)=gs'.map (·.1)) (h:∀g∈gs.map (·.1),gpC gs g=gpC gs' g):gs=gs':=by
 have e:∀l:YT,(l.map (·.1)).Nodup->l=(l.map (·.1)).map λg=>(g,gpC l g):=λl n=>by
  rw[Qcj]
  refine (List.map_id l).symm.trans (QaL λx hx=>?_)
  show x=(x.1,gpC l x.1)
  rw[aK n hx]
 rw[e gs nd,e gs' (by rw[<-k];exact nd),<-k]
 exact QaL λg hg=>by rw[h g hg]
def Kh (hs:YR) (gs:YT):List Gt:=(gs.filter λx=>Bk hs gs x.1&&!x.2).map (·.1)
def row2 (hs:YR) (gs:YT):List Gt:=(gs.filter λx=>x.2&&!Bk hs gs x.1).map (·.1)
theorem Pr {gs:YT} (nd:(gs.map (·.1)).Nodup) {p:Gt->Bool->Bool} {g:Gt}:g∈(gs.filter λx=>p x.1 x.2).map (·.1) ↔ g∈gs.map (·.1)/\p g (gpC gs g)=true:=by
 constructor
 ·intro h
  obtain⟨x,hx,rfl⟩:=Qcg.mp h
  obtain⟨h1,h2⟩:=QbI.mp hx
  exact⟨Qcg.mpr ⟨x,h1,rfl⟩,by rw[aK nd h1];exact h2⟩
 ·rintro ⟨h1,h2⟩
  obtain⟨x,hx,rfl⟩:=Qcg.mp h1
  rw[aK nd hx] at h2
  exact Qcg.mpr ⟨x,QbI.mpr ⟨hx,h2⟩,rfl⟩
theorem pJ {hs:YR} {gs:YT} (nd:(gs.map (·.1)).Nodup):G8 hs gs (Kh hs gs++row2 hs gs)=Bq hs gs:=by
 have m1:∀g,g∈Kh hs gs ↔ g∈gs.map (·.1)/\(Bk hs gs g&&!gpC gs g)=true:=λg=>Pr nd (p:=λg b=>Bk hs gs g&&!b)
 have m2:∀g,g∈row2 hs gs ↔ g∈gs.map (·.1)/\(gpC gs g&&!Bk hs gs g)=true:=λg=>Pr nd (p:=λg b=>b&&!Bk hs gs g)
 rw[bJ]
 have h1:∀g∈Kh hs gs,g∈gs.map (·.1):=λg h=>((m1 g).mp h).1
 have h2:∀g∈row2 hs gs,g∈gs.map (·.1):=λg h=>((m2 g).mp h).1
 have k1:=QD hs (Kh hs gs) gs
 have k2:=(QD hs (row2 hs gs) (G8 hs gs (Kh hs gs))).trans k1
 have hn:V2 hs (G8 hs gs (Kh hs gs)):=λg z1 z2=>by
  rw[k1] at z1
  rw[Mw k1] at z2
  refine uD h1 g ?_ z2
  cases c:gpC gs g with
  | true=>exact .inr rfl
  | false=>exact .inl ((m1 g).mpr ⟨z1,by rw[z2,c];rfl⟩)
 refine zF (by rw[k2];exact nd) (by rw[k2,Ho]) λg hg=>?_
 rw[k2] at hg
 rw[uy (λg h=>by rw[k1];exact h2 g h) hn g,Mw k1,show gpC (Bq hs gs) g=Bk hs gs g from Kq (Bk hs gs) g gs hg]
 by_cases h:g∈row2 hs gs
 ·rw[if_pos h]
 ·rw[if_neg h]
  cases c:Bk hs gs g with
  | true=>exact hn g (by rw[k1];exact hg) (by rw[Mw k1];exact c)
  | false=>
   rw[uE h1 g λz=>by have:=((m1 g).mp z).2;rw[c] at this;cases this]
   cases d:gpC gs g with
   | false=>rfl
   | true=>exact absurd ((m2 g).mpr ⟨hg,by rw[c,d];rfl⟩) h
theorem Xn.keys {gs gs':YT} (h:Xn gs) (k:gs'.map (·.1)=gs.map (·.1)):Xn gs':=λx hx=>by
 have:x.1∈gs.map (·.1):=by rw[<-k];exact Qcg.mpr ⟨x,hx,rfl⟩
 obtain⟨y,hy,e⟩:=Qcg.mp this
 rw[<-e]
 exact h y hy
def dG (C:Addr):Sp:=λvs H Q _=>∃p pl d1 d2 d3 hs fl gs,vs=[.ref p]/\WAt C H p pl d1 d2 d3 hs fl gs/\(∀s∈hs.map (·.1),Bd3 s)/\Xn gs/\∀l xs H',H l=none->H' l=some (.lst xs)->Paired (Eh H') xs (Kh hs gs++row2 hs gs)->WAt C H' p pl d1 d2 d3 hs fl (Bq hs gs)->Ag d3 H H'->Q (.ref l) H'
theorem eY {gs:YT} {f:Gt×Bool->Bool} (nd:(gs.map (·.1)).Nodup) {i:Nat} {x:Gt×Bool} (hx:gs[i]?=some x):putK (gpV ((gs.take i).map λy=>(y.1,f y))) (k2 x.1) (.bl (f x))=gpV ((gs.take (i+1)).map λy=>(y.1,f y)):=by
 rw[Ng,Qcx hx]
 ·unfold gpV
  rw[QbD,QbD]
  rfl
 ·refine O7 λy hy e=>?_
  unfold gpV at hy
  rw[Qcj] at hy
  obtain⟨z,hz,rfl⟩:=Qcg.mp hy
  exact Iw (f:=λy:Gt×Bool=>y.1) nd hx z hz (Vv e)
section
variable {P:Program} {w:World} {K:YD} {mg:YB} {base:Heap} {op oe kd wk C:Addr}
theorem Vn (c:Jc K C "come_to_rest" "Wires.come_to_rest" CT Du) (T:Tw K mg op oe kd wk C) (Jk:Good P w K mg base "comes_to_short" 3 DW Zc) (v9:Dn P w K mg base C "act" 4 Iu (jL C)):Dn P w K mg base C "come_to_rest" 5 Du (dG C):=by
 have sc:=CJ
 refine c.good CJ (λvs H Q E h=>?_) (λf cdv A outer s H vs Q E hr h=>?_)
 ·obtain⟨p,pl,d1,d2,d3,hs,fl,gs,rfl,_⟩:=h
  rfl
 obtain⟨p,pl,d1,d2,d3,hs,fl,gs,rfl,R,hb,hg,q⟩:=h
 refine⟨_,(Af (Ba (i:=1) CJ.nd rfl (Or.inr rfl) (Nk rfl (KZ (Dg hr) (N':=["opener"]) rfl (Bg.plain rfl (by trivial) (by trivial) (by trivial)) (ZJ (Df (pv 0) rfl)) (λ_ _ _ _=>(Ah (i:=0) (show List.Nodup (["opener"]:YF) by trivial) rfl (Or.inl rfl))) (λ_ _ _ _=>CQ) (λ_ _ _ _=>(pv 0)) (λ_ _ _ _=>Gf))))
 (Af (Ba (i:=2) CJ.nd rfl (Or.inr rfl) (Nk rfl (KZ (Dg hr) (N':=["opener","lone","self"]) rfl (Bg.of (src:=[none,some 1,some 0]) (Aj CT) ["self","lone","near","row","opener"] rfl rfl rfl (by trivial) (by trivial) (by trivial) rfl (by trivial)) (ZJ (Df (pv 0) rfl)) (λ_ _ _ _=>(Ah (i:=0) (show List.Nodup (["opener","lone","self"]:YF) by trivial) rfl (Or.inl rfl))) (λ_ _ _ _=>CQ) (λ_ _ _ _=>(pv 0)) (λ_ _ _ _=>(Aw Jk hr (Aa (dX (K:=K) rfl (pv 2) rfl) (Aa (pv 1) (Aa (pv 0) Ac))))))))
 (Af (pQ rfl (Pb (i:=3) CJ.nd rfl (Or.inl rfl) (N':=["opener","gap","near"]) rfl (Bg.of (src:=[none,none,some 2]) (Aj CT) ["self","lone","near","row","opener"] rfl rfl rfl (by trivial) (by trivial) (by trivial) rfl (by trivial)) (N6 (Df (pv 0) rfl)) (λ_ _ _ _=>(Fp (K:=K) (n:=2) rfl rfl (Ak (Ah (i:=0) (show List.Nodup (["opener","gap","near"]:YF) by trivial) rfl (Or.inl rfl)) (Ak (Ah (i:=1) (show List.Nodup (["opener","gap","near"]:YF) by trivial) rfl (Or.inl rfl)) Bp)))) (λ_ _ _ _=>(Gm (PW.pt (Rj (Ds (Pg (Dg hr) (pv 2) (pv 0) (λ_ _=>rfl))) (Pa (Fx (Ds (pv 1)))))))) (λ_ _ _ _=>(pv 0))))
 (Af (Bs (CK Qap Qan Qao Ew (pv 3) (Aa (Nk rfl (Cg (N':=["opener","gap","near"]) rfl (Bg.of (src:=[none,none,some 2]) (Aj CT) ["self","lone","near","row","opener"] rfl rfl rfl (by trivial) (by trivial) (by trivial) rfl (by trivial)) (N6 (Df (pv 0) rfl)) (λ_ _ _ _=>(Fp (K:=K) (n:=2) rfl rfl (Ak (Ah (i:=0) (show List.Nodup (["opener","gap","near"]:YF) by trivial) rfl (Or.inl rfl)) (Ak (Ah (i:=1) (show List.Nodup (["opener","gap","near"]:YF) by trivial) rfl (Or.inl rfl)) Bp)))) (λ_ _ _ _=>(Gm (PW.pt (Rj (Ds (pv 1)) (Pa (Fx (Ds (Pg (Dg hr) (pv 2) (pv 0) (λ_ _=>rfl))))))))) (λ_ _ _ _=>(pv 0)))) Ac)))
 (Af (Cj QbE rfl (Dk (pv 3)) (Ah (i:=4) CJ.nd rfl (Or.inl rfl))
 (Ai (Bs (JL (pv 0) T.cl v9 hr (Aa (pv 4) Ac)))))
 (Ai (Ay (pv 3)))))))),?_⟩
 show let R0:TS:=_;let R1:TS:=Ao (DQ _ _ R0) _;let R2:TS:=Ao _ R1;let R3:TS:=Ao _ R2;let R4:TS:=Ao _ R3;Ao _ R4 _ _ _
 intro R0 R1 R2 R3 R4
 obtain⟨dx,hp⟩:=R.ins
 have hd3:=R.gp
 have l3:=R.l3
 have nd3:=R.nd3
 have nfz:∀o' u,H d3≠some (.frz o' u):=λo' u z=>by rw[hd3] at z;cases z
 have lgs:(gpV gs).length=gs.length:=by unfold gpV;rw[QbB]
 have iQ:∀{i:Nat} {kv:List Key×V},(gpV gs)[i]?=some kv->∃x,gs[i]?=some x/\kv=(k2 x.1,.bl x.2):=λ{i kv} h=>by
  unfold gpV at h
  rw[Qbk] at h
  obtain⟨x,hx,rfl⟩:=Qax.mp h
  exact⟨x,hx,rfl⟩
 refine⟨_,rfl,p,C,dx,_,_,rfl,hp,T.cl,T.Gs,Fi pl d1 d2 d3,d3,gpV gs,rfl,hd3,λo l hl=>?_⟩
 have nl:l≠d3:=λz=>by rw[z,Ab] at hl;cases hl
 have fl1:H l=none:=by rw[Am nl] at hl;exact hl
 let J0:YN:=λi σ HH=>(∃u,σ=[u])/\HH l=some (.dT (gpV ((gs.take i).map λx=>(x.1,true))))/\Same (upd H d3 (.frz o (.dT (gpV gs)))) HH
 refine XH J0 ⟨⟨none,rfl⟩,Ab,Ae hl _⟩ (λi σ HH _ h=>h.2.2 _ _ Ab) (λi kv b σ HH hkv h hb'=>?_) (fun σ HH h=>?_)
 ·obtain⟨⟨u,rfl⟩,e1,e2⟩:=h
  obtain⟨x,hx,rfl⟩:=iQ hkv
  have hi:=(Qag.mp hkv).1
  unfold Fl
  dsimp only
  refine Cp ⟨_,rfl,_,k2 x.1,b,e1,rfl,hb',Aq (by unfold gpV;rw[QbB,QbB,Qbu];omega),⟨_,rfl⟩,?_,e2.Bm Ag.upd hl⟩
  rw[Ab,eY (f:=λ_=>true) nd3 hx]
 obtain⟨_,e1,e2⟩:=h
 rw[lgs,Qbs] at e1
 have e1:HH l=some (.dT (gpV (lone gs))):=e1
 refine⟨d3,o,gpV gs,e2 _ _ Ab,nfz,?_⟩
 have s1:=Jq e2 hd3
 have h1l:(upd HH d3 (.dT (gpV gs))) l=some (.dT (gpV (lone gs))):=by rw[Am nl];exact e1
 generalize upd HH d3 (.dT (gpV gs))=H1 at *
 clear e1 e2 hl
 have R1:=R.same s1
 obtain⟨dx1,hp1⟩:=R1.ins
 refine⟨_,rfl,p,C,dx1,_,_,rfl,hp1,T.cl,T.Gs,Fi pl d1 d2 d3,d3,gpV gs,rfl,R1.gp,λo2 ln hl2=>?_⟩
 have nln:ln≠d3:=λz=>by rw[z,Ab] at hl2;cases hl2
 have f2:H1 ln=none:=by rw[Am nln] at hl2;exact hl2
 have CI:(lone gs).length=gs.length:=QbB ..
 let J1:YN:=λi σ HH=>(∃u,σ=[u,some (.ref l),some (.ref p)])/\HH ln=some (.dT (gpV ((gs.take i).map λx=>(x.1,Bk hs gs x.1))))/\Same (upd H1 d3 (.frz o2 (.dT (gpV gs)))) HH
 refine XH J1 ⟨⟨none,rfl⟩,Ab,Ae hl2 _⟩ (λi σ HH _ h=>h.2.2 _ _ Ab) (λi kv b σ HH hkv h hb'=>?_) (fun σ HH h=>?_)
 ·obtain⟨⟨u,rfl⟩,e1,e2⟩:=h
  obtain⟨x,hx,rfl⟩:=iQ hkv
  have hi:=(Qag.mp hkv).1
  have gb:=hg x (QaF hx)
  have z3:∀c v,H1 c=some v->c≠d3->HH c=some v:=λc v e n=>e2 _ _ (by rw[Am n];exact e)
  have np3:p≠d3:=λz=>by rw[z,R1.gp] at hp1;cases hp1
  unfold Fl
  dsimp only
  refine Cp ⟨_,rfl,_,rfl,p,C,dx1,_,_,rfl,z3 _ _ hp1 np3,T.cl,T.Gd,FN pl d1 d2 d3,_,rfl,_,rfl,d1,l,b,hs,lone gs,x.1,rfl,.inl (z3 _ _ R1.st R1.n13),.inl (z3 _ _ h1l nl),hb',hb,gb.1,gb.2,λH2 s2=>?_⟩
  refine⟨_,k2 x.1,b,s2 _ _ e1,rfl,s2 _ _ hb',Aq (by unfold gpV;rw[QbB,QbB,Qbu];omega),⟨_,rfl⟩,?_,(e2.trans s2).Bm Ag.upd hl2⟩
  rw[Ab]
  exact congrArg (λz=>some (HO.dT z)) (eY (f:=λx=>Bk hs gs x.1) nd3 hx)
 obtain⟨_,e1,e2⟩:=h
 rw[lgs,Qbs] at e1
 have e1:HH ln=some (.dT (gpV (Bq hs gs))):=e1
 have CH:∀o' u,H1 d3≠some (.frz o' u):=λo' u z=>by rw[R1.gp] at z;cases z
 refine⟨d3,o2,gpV gs,e2 _ _ Ab,nfz,?_⟩
 have s2:=s1.trans (Jq e2 R1.gp)
 have h2n:(upd HH d3 (.dT (gpV gs))) ln=some (.dT (gpV (Bq hs gs))):=by rw[Am nln];exact e1
 have fln:H ln=none:=s1.free f2
 generalize upd HH d3 (.dT (gpV gs))=H2 at *
 clear e1 e2 hl2 CH hp1 f2
 have R2:=R.same s2
 obtain⟨dx2,hp2⟩:=R2.ins
 have Z7:∀{HX:Hp} {b:Addr} {x:Gt×Bool},HX ln=some (.dT (gpV (Bq hs gs)))->HX b=some (.tup [.int x.1.lp,.int x.1.at_])->x∈gs->Dw HX ln (.ref b) (some (.bl (Bk hs gs x.1))):=λ{HX b x} h1 h2 h3=>by
  have g:=Dw.t (k:=k2 x.1) h1 h2
  have hin:x.1∈gs.map (·.1):=Qcg.mpr ⟨x,h3,rfl⟩
  rw[VB (by rw[Ho];exact hin),show gpC (Bq hs gs) x.1=Bk hs gs x.1 from Kq (Bk hs gs) x.1 gs hin] at g
  exact g
 refine⟨_,rfl,p,C,dx2,_,_,rfl,hp2,T.cl,T.Gs,Fi pl d1 d2 d3,d3,gpV gs,rfl,R2.gp,λo3 lr hl3=>?_⟩
 have nlr:lr≠d3:=λz=>by rw[z,Ab] at hl3;cases hl3
 have GI:H2 lr=none:=by rw[Am nlr] at hl3;exact hl3
 have z2:∀{HH:Hp},Same (upd H2 d3 (.frz o3 (.dT (gpV gs)))) HH->HH ln=some (.dT (gpV (Bq hs gs))):=λs=>s _ _ (by rw[Am nln];exact h2n)
 have gA:∀{HH:Hp} {lc p' b:Addr} {i:Nat} {x:Gt×Bool} {ys:YG} {ps:List Gt} {H0:Hp},HH lc=some (.lst ys)->Paired (Eh HH) ys ps->HH p'=none->HH b=some (.tup [.int x.1.lp,.int x.1.at_])->H0 lc=none->Same H0 HH->((upd (upd HH p' (.tup [.ref b,.bl x.2])) lc (.lst (ys++[.ref b]))) lc=some (.lst (ys++[.ref b]))/\Paired (Eh (upd (upd HH p' (.tup [.ref b,.bl x.2])) lc (.lst (ys++[.ref b])))) (ys++[.ref b]) (ps++[x.1])/\Same H0 (upd (upd HH p' (.tup [.ref b,.bl x.2])) lc (.lst (ys++[.ref b])))):=λ{HH lc p' b i x ys ps H0} h1 h2 h3 h4 h5 h6=>by
  have t1:=Ae h3 (.tup [.ref b,.bl x.2])
  have e1':=t1 _ _ h1
  have ntl:∀zs,(upd HH p' (.tup [.ref b,.bl x.2])) lc≠some (.tup zs):=λzs z=>by rw[e1'] at z;cases z
  have sL:=Al.upd (o:=.lst (ys++[.ref b])) ntl
  exact⟨Ab,Qcp ⟨b,rfl,sL _ _ (t1 _ _ h4)⟩ (Paired.Av h2 λ_ _ z=>(z.tups (Al.of t1)).tups sL),(h6.trans t1).Bm Ag.upd h5⟩
 let J2:YN:=λi σ HH=>(∃u v,σ=[u,v,some (.ref ln)])/\(∃ys,HH lr=some (.lst ys)/\Paired (Eh HH) ys (((gs.take i).filter λx=>Bk hs gs x.1&&!x.2).map (·.1))/\ys.length<=i)/\Same (upd H2 d3 (.frz o3 (.dT (gpV gs)))) HH
 refine Qw J2 ⟨⟨none,none,rfl⟩,⟨[],Ab,.nil,Qcn _⟩,Ae hl3 _⟩ (λi σ HH _ h=>h.2.2 _ _ Ab) (λi kv p' b σ HH hkv h hp' hb'=>?_) (fun σ HH h=>?_)
 ·obtain⟨⟨u,v,rfl⟩,⟨ys,e1,e3,e4⟩,e2⟩:=h
  obtain⟨x,hx,rfl⟩:=iQ hkv
  have hi:=(Qag.mp hkv).1
  have t1:=Ae hp' (.tup [.ref b,.bl x.2])
  have e2':=e2.trans t1
  have et:((gs.take (i+1)).filter λx=>Bk hs gs x.1&&!x.2).map (·.1)=((gs.take i).filter λx=>Bk hs gs x.1&&!x.2).map (·.1)++([x].filter λx=>Bk hs gs x.1&&!x.2).map (·.1):=by rw[Qcx hx,Qbd,QbD]
  have no:(Bk hs gs x.1&&!x.2)=false->∃ys,(upd HH p' (.tup [.ref b,.bl x.2])) lr=some (.lst ys)/\Paired (Eh (upd HH p' (.tup [.ref b,.bl x.2]))) ys (((gs.take (i+1)).filter λx=>Bk hs gs x.1&&!x.2).map (·.1))/\ys.length<=i+1:=λhc=>by
   refine⟨ys,t1 _ _ e1,?_,by omega⟩
   rw[et,show ([x].filter λx=>Bk hs gs x.1&&!x.2)=[] from Qar (by rw[hc];decide),Qcm,QbG]
   exact Paired.Av e3 λ_ _ z=>z.tups (Al.of t1)
  refine⟨p',_,rfl,SqT.of Ab,rfl,_,_,rfl,_,_,rfl,rfl,?_⟩
  refine⟨_,rfl,_,rfl,ln,_,rfl,Z7 (z2 e2') (t1 _ _ hb') (QaF hx),_,rfl,Fg (λhn=>⟨_,rfl,_,rfl,Fg (λhx2=>?_) (λhx2=>?_)⟩) (λhn=>Cd ⟨⟨_,_,rfl⟩,no (by rw[hn];rfl),e2'⟩)⟩
  ·have hx2:x.2=false:=by simpa using hx2
   obtain⟨a1,a2,a3⟩:=gA (i:=i) e1 e3 hp' hb' hl3 e2
   refine⟨_,rfl,ys,t1 _ _ e1,Aq (by omega),⟨_,_,rfl⟩,⟨_,a1,?_,by rw[QaS];show _+1<=_;omega⟩,a3⟩
   rw[et,show ([x].filter λx=>Bk hs gs x.1&&!x.2)=[x] from Qas (by rw[hn,hx2];rfl)]
   exact a2
  ·exact⟨⟨_,_,rfl⟩,no (by rw[hn,hx2];rfl),e2'⟩
 obtain⟨_,⟨ys,e1,e3,e4⟩,e2⟩:=h
 rw[lgs] at e4
 rw[lgs,Qbs] at e3
 refine⟨d3,o3,gpV gs,e2 _ _ Ab,nfz,?_⟩
 have s3:=Jq e2 R2.gp
 have nt3:∀zs,HH d3≠some (.tup zs):=λzs z=>by rw[e2 _ _ Ab] at z;cases z
 have h3r:(upd HH d3 (.dT (gpV gs))) lr=some (.lst ys):=by rw[Am nlr];exact e1
 have p3:Paired (Eh (upd HH d3 (.dT (gpV gs)))) ys (Kh hs gs):=Paired.Av e3 λ_ _ z=>z.tups (Al.upd nt3)
 have sH3:=s2.trans s3
 have flr:H lr=none:=s2.free GI
 have h3n:=s3 _ _ h2n
 generalize upd HH d3 (.dT (gpV gs))=H3 at *
 clear e1 e2 e3 hl3 z2 nt3
 have R3:=R.same sH3
 obtain⟨dx3,hp3⟩:=R3.ins
 refine⟨_,rfl,.inl ⟨rfl,_,SqL.of h3r⟩,_,rfl,p,C,dx3,_,_,rfl,hp3,T.cl,T.Gs,Fi pl d1 d2 d3,d3,gpV gs,rfl,R3.gp,λo4 lc hl4=>?_⟩
 have nlc:lc≠d3:=λz=>by rw[z,Ab] at hl4;cases hl4
 have z3:∀{HH:Hp},Same (upd H3 d3 (.frz o4 (.dT (gpV gs)))) HH->HH ln=some (.dT (gpV (Bq hs gs))):=λs=>s _ _ (by rw[Am nln];exact h3n)
 let J3:YN:=λi σ HH=>(∃u v,σ=[u,v,some (.ref ln)])/\(∃ys,HH lc=some (.lst ys)/\Paired (Eh HH) ys (((gs.take i).filter λx=>x.2&&!Bk hs gs x.1).map (·.1))/\ys.length<=i)/\Same (upd H3 d3 (.frz o4 (.dT (gpV gs)))) HH
 refine Qw J3 ⟨⟨none,none,rfl⟩,⟨[],Ab,.nil,Qcn _⟩,Ae hl4 _⟩ (λi σ HH _ h=>h.2.2 _ _ Ab) (λi kv p' b σ HH hkv h hp' hb'=>?_) (fun σ HH h=>?_)
 ·obtain⟨⟨u,v,rfl⟩,⟨ys,e1,e3,e4⟩,e2⟩:=h
  obtain⟨x,hx,rfl⟩:=iQ hkv
  have hi:=(Qag.mp hkv).1
  have t1:=Ae hp' (.tup [.ref b,.bl x.2])
  have e2':=e2.trans t1
  have et:((gs.take (i+1)).filter λx=>x.2&&!Bk hs gs x.1).map (·.1)=((gs.take i).filter λx=>x.2&&!Bk hs gs x.1).map (·.1)++([x].filter λx=>x.2&&!Bk hs gs x.1).map (·.1):=by rw[Qcx hx,Qbd,QbD]
  have no:(x.2&&!Bk hs gs x.1)=false->∃ys,(upd HH p' (.tup [.ref b,.bl x.2])) lc=some (.lst ys)/\Paired (Eh (upd HH p' (.tup [.ref b,.bl x.2]))) ys (((gs.take (i+1)).filter λx=>x.2&&!Bk hs gs x.1).map (·.1))/\ys.length<=i+1:=λhc=>by
   refine⟨ys,t1 _ _ e1,?_,by omega⟩
   rw[et,show ([x].filter λx=>x.2&&!Bk hs gs x.1)=[] from Qar (by rw[hc];decide),Qcm,QbG]
   exact Paired.Av e3 λ_ _ z=>z.tups (Al.of t1)
  refine⟨p',_,rfl,SqT.of Ab,rfl,_,_,rfl,_,_,rfl,rfl,?_⟩
  refine⟨_,rfl,_,rfl,Fg (λhx2=>⟨_,rfl,_,rfl,ln,_,rfl,Z7 (z3 e2') (t1 _ _ hb') (QaF hx),_,rfl,Fg (λhn=>?_) (λhn=>?_)⟩) (λhx2=>Cd ⟨⟨_,_,rfl⟩,no (by rw[hx2];rfl),e2'⟩)⟩
  ·have hn:Bk hs gs x.1=false:=by simpa using hn
   obtain⟨a1,a2,a3⟩:=gA (i:=i) e1 e3 hp' hb' hl4 e2
   refine⟨_,rfl,ys,t1 _ _ e1,Aq (by omega),⟨_,_,rfl⟩,⟨_,a1,?_,by rw[QaS];show _+1<=_;omega⟩,a3⟩
   rw[et,show ([x].filter λx=>x.2&&!Bk hs gs x.1)=[x] from Qas (by rw[hn,hx2];rfl)]
   exact a2
  ·have hn:Bk hs gs x.1=true:=by simpa using hn
   exact⟨⟨_,_,rfl⟩,no (by rw[hn,hx2];rfl),e2'⟩
 obtain⟨_,⟨zs,e1,e3,e5⟩,e2⟩:=h
 rw[lgs] at e5
 rw[lgs,Qbs] at e3
 refine⟨d3,o4,gpV gs,e2 _ _ Ab,nfz,?_⟩
 have s4:=Jq e2 R3.gp
 have nt3:∀zs,HH d3≠some (.tup zs):=λzs z=>by rw[e2 _ _ Ab] at z;cases z
 have h4c:(upd HH d3 (.dT (gpV gs))) lc=some (.lst zs):=by rw[Am nlc];exact e1
 have p4:Paired (Eh (upd HH d3 (.dT (gpV gs)))) zs (row2 hs gs):=Paired.Av e3 λ_ _ z=>z.tups (Al.upd nt3)
 have h4r:=s4 _ _ h3r
 have p4r:Paired (Eh (upd HH d3 (.dT (gpV gs)))) ys (Kh hs gs):=Paired.Av p3 λ_ _ z=>z.tups (Al.of s4)
 have sH4:=sH3.trans s4
 generalize upd HH d3 (.dT (gpV gs))=H4 at *
 clear e1 e2 e3 hl4 z3 nt3 h3r p3 Z7 gA
 refine⟨lr,lc,_,_,rfl,rfl,h4r,h4c,Ar (by omega),?_⟩
 have ntr:∀zs,H4 lr≠some (.tup zs):=λzs z=>by rw[h4r] at z;cases z
 have t5:=Al.upd (o:=.lst (ys++zs)) ntr
 have p5:Paired (Eh (upd H4 lr (.lst (ys++zs)))) (ys++zs) (Kh hs gs++row2 hs gs):=Paired.app (Paired.Av p4r λ_ _ z=>z.tups t5) (Paired.Av p4 λ_ _ z=>z.tups t5)
 have h5r:(upd H4 lr (.lst (ys++zs))) lr=some (.lst (ys++zs)):=Ab
 have sH5:Same H (upd H4 lr (.lst (ys++zs))):=sH4.Bm Ag.upd flr
 generalize upd H4 lr (.lst (ys++zs))=H5 at *
 have R5:=R.same sH5
 have l5:=QbW p5
 have yJ:lr≠d3:=nlr
 have kin:∀g∈Kh hs gs++row2 hs gs,g∈gs.map (·.1):=λg h=>by
  rcases QbC.mp h with h | h
  ·exact ((Pr nd3 (p:=λg b=>Bk hs gs g&&!b)).mp h).1
  ·exact ((Pr nd3 (p:=λg b=>b&&!Bk hs gs g)).mp h).1
 refine⟨_,rfl,lr,rfl,⟨_,SqL.of h5r⟩,?_⟩
 let J4:YN:=λi σ HH=>(∃u,σ=[some (.ref p),some (.ref l),some (.ref ln),some (.ref lr),u])/\WAt C HH p pl d1 d2 d3 hs fl (G8 hs gs ((Kh hs gs++row2 hs gs).take i))/\Ag d3 H5 HH
 refine Qv (xs:=ys++zs) J4 ⟨⟨_,rfl⟩,R5,Ag.of (Same.refl _)⟩ (λi σ HH _ h=>SqL.of (h.2.2 _ _ h5r yJ)) (λi x σ HH hx h=>?_) (fun σ HH h=>?_)
 ·obtain⟨⟨u,rfl⟩,W,sB⟩:=h
  obtain⟨g,hgi,b,rfl,hbt⟩:=Paired.Ce p5 hx
  obtain⟨dx6,hp6⟩:=W.ins
  have k6:=QD hs ((Kh hs gs++row2 hs gs).take i) gs
  have nt5:∀zs,H5 d3≠some (.tup zs):=λzs z=>by rw[R5.gp] at z;cases z
  unfold Fl
  dsimp only
  refine⟨_,rfl,p,dx6,_,rfl,hp6,fno (by trivial),_,rfl,p,pl,d1,d2,d3,hs,fl,_,b,g,rfl,W,hb,hg.keys k6,(sB.tup nt5) _ _ hbt,by rw[k6];exact kin g (QaF hgi),λH' W' sB'=>⟨⟨_,rfl⟩,?_,sB.trans sB'⟩⟩
  rw[Qcx hgi,bJ]
  exact W'
 ·obtain⟨⟨u,rfl⟩,W,sB⟩:=h
  rw[l5,Qbs,pJ nd3] at W
  have nt5:∀zs,H5 d3≠some (.tup zs):=λzs z=>by rw[R5.gp] at z;cases z
  exact⟨_,rfl,q lr _ HH flr (sB _ _ h5r yJ) (Paired.Av p5 λ_ _ z=>z.tups (sB.tup nt5)) W ((Ag.of sH5).trans sB)⟩
end
abbrev IW:Stmt:=(inClass (top 44) 14)
abbrev Fq:YF:=["self","loop","end"]
theorem Gh:Ax ["self","loop","end","opener","wires","places"] Fq (Aj IW):=⟨rfl,rfl,rfl,by trivial,rfl,by trivial,by trivial⟩
def flC (fl:YQ) (s:Sp3):Bool:=(fl.find? λx=>decide (x.1=s)).any λx=>x.2.isSome
theorem fu {H:Hp} (s:Sp3):∀{kvs:YL} {fl:YQ},Paired (JZ H) kvs fl->(!decide ((DK kvs (k3 s)).getD .non=.non))=flC fl s
 | [],[],.nil=>by show (!decide (V.non=V.non))=false;rw[QbR rfl];rfl
 | kv::_,x::_,.cons h t=>by
  unfold flC
  by_cases e:x.1=s
  ·rw[Kc (p:=kv) (by rw[h.1,e]),Qay (by exact QbR e)]
   obtain⟨h1,h2⟩:=h
   obtain⟨xs,xo⟩:=x
   cases xo with
   | none=>
    have h2:kv.2=.non:=h2
    show (!decide (kv.2=.non))=false
    rw[h2,QbR rfl];rfl
   | some d=>
    obtain⟨u,h2,_⟩:=h2
    show (!decide (kv.2=.non))=true
    rw[h2,QbF (by intro z;cases z)];rfl
  ·rw[G9 (p:=kv) (λz=>e (Rx (by rw[<-h.1,z]))),Qaw (by simpa using e)]
   exact fu s t
theorem aN {fl:YQ} {s:Sp3} (h:flC fl s=true):s∈fl.map (·.1):=by
 unfold flC at h
 cases e:fl.find? λx=>decide (x.1=s) with
 | none=>rw[e] at h;cases h
 | some y=>exact Qcg.mpr ⟨y,List.mem_of_find?_eq_some e,by have:=List.find?_some e;simpa using this⟩
theorem MP (hs:YR) (lp a:Int):∀f n,∀s∈Ei hs lp a f n,s.at_=a/\(n:Int)<=s.n
 | 0,_,s,h=>by cases h
 | f+1,n,s,h=>by
  unfold Ei at h
  split at h
  ·cases h
  ·rcases QbX.mp h with rfl | h
   ·exact⟨rfl,Qcs _⟩
   ·have:=MP hs lp a f (n+1) s h
    exact⟨this.1,by omega⟩
theorem Y4 (hs:YR) (lp a:Int):∀f n,(Ei hs lp a f n).Nodup
 | 0,_=>QbU
 | f+1,n=>by
  unfold Ei
  split
  ·exact QbU
  ·refine QbK.mpr ⟨λh=>?_,Y4 hs lp a f (n+1)⟩
   have:=(MP hs lp a f (n+1) _ h).2
   dsimp only at this
   omega
theorem RN (hs:YR) (gs:YT) (lp st:Int) (hst:st=1\/st=-1):∀f a,(Bf hs gs lp st f a).2.Nodup/\∀s∈(Bf hs gs lp st f a).2,0 < (s.at_ - a)*st
 | 0,_=>⟨QbU,λs h=>by cases h⟩
 | f+1,a=>by
  obtain⟨n1,n2⟩:=RN hs gs lp st hst f (a+st)
  have at1:∀s∈(⟨lp,a+st,0⟩::BR hs lp (a+st):YV),s.at_=a+st:=λs h=>by
   rcases QbX.mp h with rfl | h
   ·rfl
   ·exact (MP hs lp (a+st) 4 1 s h).1
  have nd1:(⟨lp,a+st,0⟩::BR hs lp (a+st):YV).Nodup:=by
   refine QbK.mpr ⟨λh=>?_,Y4 hs lp (a+st) 4 1⟩
   have:=(MP hs lp (a+st) 4 1 _ h).2
   dsimp only at this
   omega
  have pos1:∀s∈(⟨lp,a+st,0⟩::BR hs lp (a+st):YV),0 < (s.at_ - a)*st:=λs h=>by
   rw[at1 s h]
   rcases hst with rfl | rfl <;> omega
  unfold Bf
  split
  ·exact⟨QbU,λs h=>by cases h⟩
  ·split
   ·exact⟨nd1,pos1⟩
   ·have n2':∀s∈(Bf hs gs lp st f (a+st)).2,0 < (s.at_ - (a+st))*st:=n2
    refine⟨List.nodup_append.mpr ⟨nd1,n1,λx hx y hy e=>?_⟩,λs h=>?_⟩
    ·have h1:=at1 x hx
     have h2:=n2' y hy
     rw[<-e,h1] at h2
     rcases hst with rfl | rfl <;> omega
    ·rcases QbC.mp h with h | h
     ·exact pos1 s h
     ·have h2:=n2' s h
      rcases hst with rfl | rfl <;> omega
def Xf (e:Str):Bool:=decide (V.str e=V.str "A")
def Cu (lp:Int) (n:Nat) (e:Str):Gt:=⟨lp,if Xf e=true then 0 else (n:Int)+1⟩
def Dp (e:Str):Int:=if Xf e=true then 1 else -1
def Dv (hs:YR) (gs:YT) (fl:YQ) (lp:Int) (n:Nat) (e:Str):YV:=
 if gpC gs (Cu lp n e)=true then [] else if Dd hs (Bf hs gs lp (Dp e) 16 (Cu lp n e).at_).1=true then [] else (Bf hs gs lp (Dp e) 16 (Cu lp n e).at_).2.filter (flC fl)
theorem Vg {α β : Type} {R:α->β->Prop} {xs:List α} {ys:List β} {d:α} {e:β} (h:Paired R xs ys):∀is:List Nat,(∀i∈is,i < xs.length)->Paired R (is.map λi=>xs.getD i d) (is.map λi=>ys.getD i e)
 | [],_=>.nil
 | i::r,hi=>by
  have h1:xs[i]?=some (xs[i]'(hi i QaT)):=Qak _
  obtain⟨y,hy,hr⟩:=Paired.Ce h h1
  refine .cons ?_ (Vg h r λj hj=>hi j (QaG _ hj))
  show R (xs.getD i d) (ys.getD i e)
  rw[List.getD_eq_getElem?_getD,List.getD_eq_getElem?_getD,h1,hy]
  exact hr
theorem lE {K:YD} {H:Hp}:∀{vs:YG} {ss:YV},Paired (BX H) vs ss->(∀s∈ss,Bd3 s)->Paired (V4 K H) vs (ss.map cd3)
 | _,_,.nil,_=>.nil
 | _,_,.cons (b:=s) ⟨t,e,h1⟩ r,hb=>.cons ⟨t,s.lp,s.at_,s.n,e,SqT.of h1,(hb s QaT).c3⟩ (lE r λx hx=>hb x (QaG _ hx))
theorem zV {ss:YV} (nd:ss.Nodup) (hb:∀s∈ss,Bd3 s):(ss.map cd3).Nodup:=by
 rw[List.nodup_iff_pairwise_ne,List.pairwise_map]
 rw[List.nodup_iff_pairwise_ne] at nd
 exact nd.imp_of_mem λ{a b} ha hb' ne e=>ne ((hb a ha).inj (hb b hb') e)
instance:DecidableEq Sp3:=λa b=>if h:a.lp=b.lp/\a.at_=b.at_/\a.n=b.n then isTrue (by cases a;cases b;simp at h;obtain⟨h1,h2,h3⟩:=h;subst h1 h2 h3;rfl) else isFalse λe=>h (by rw[e];exact⟨rfl,rfl,rfl⟩)
theorem Qh:∀{l m:YV},l.Nodup->(∀x∈l,x∈m)->l.length<=m.length
 | [],_,_,_=>Qco _
 | a::r,m,nd,h=>by
  have ha:=h a (QaT ..)
  obtain⟨n1,n2⟩:=QbK.mp nd
  have:=Qh (l:=r) (m:=m.erase a) n2 λx hx=>(List.mem_erase_of_ne (λe=>n1 (by rw[<-e];exact hx))).mpr (h x (QaG _ hx))
  rw[List.length_erase_of_mem ha] at this
  have hp:=List.length_pos_of_mem ha
  rw[Qbt]
  omega
theorem o9 {α : Type} {d:α} {l:List α} {is:List Nat} (h:is.Perm (List.range l.length)):(is.map λi=>l.getD i d).Perm l:=by
 refine (h.map _).trans ?_
 have:(List.range l.length).map (λi=>l.getD i d)=l:=by
  apply List.ext_getElem
  ·simp
  ·intro i h1 h2
   simp at h1
   simp[h1]
 rw[this]
theorem pq {α : Type} {d:α} {c:α->Int} {l:List α} {is:List Nat} (h:is.Perm (List.range l.length)):(is.map λi=>l.getD i d).map c=is.map λi=>(l.map c).getD i 0:=by
 rw[Qcj]
 exact QaL λi hi=>by
  have:=QbT.mp (h.mem_iff.mp hi)
  simp[this]
def B3:TE:=fun σ H Q=>∃e,σ[2]?=some (some (.str e))/\Q (.int (Dp e)) H
def Wh (C:Addr):Sp:=λvs H Q _=>∃(p pl d1 d2 d3:Addr) (hs:YR) (fl:YQ) (gs:YT) (most:Int) (loops:YU) (zones:List Zone) (k:Nat) (ps:List Place) (e:Str),vs=[.ref p,.int (k:Int),.str e]/\WAt C H p pl d1 d2 d3 hs fl gs/\FT H pl most loops zones/\loops[k]?=some ps/\(∀s∈hs.map (·.1),Bd3 s)/\(∀s∈fl.map (·.1),Bd3 s)/\fl.length<=30/\Cu k ps.length e∈gs.map (·.1) /\
 ∀l xs L H',H l=none->H' l=some (.lst xs)->Paired (BX H') xs L->L.Perm (Dv hs gs fl k ps.length e)->(L.map cd3).Pairwise (· < ·)->Same H H'->Q (.ref l) H'
section
variable {P:Program} {w:World} {K:YD} {mg:YB} {base:Heap} {op oe kd wk C:Addr}
theorem qz (c:Jc K C "heard" "Wires.heard" IW Fq) (T:Tw K mg op oe kd wk C) (Oc:Good P w K mg base "come_to" 2 Jv Ze) (KN:Good P w K mg base "has_short" 1 G3 Wg):Dn P w K mg base C "heard" 3 Fq (Wh C):=by
 have sc:=Gh
 refine c.good Gh (λvs H Q E h=>?_) (λf cdv A outer s H vs Q E hr h=>?_)
 ·obtain⟨p,pl,d1,d2,d3,hs,fl,gs,most,loops,zones,k,ps,e,rfl,_⟩:=h
  rfl
 obtain⟨p,pl,d1,d2,d3,hs,fl,gs,most,loops,zones,k,ps,e,rfl,R,pa,hps,hb,hbf,l30,Fh,q⟩:=h
 refine⟨_,(Af (Ba (i:=3) Gh.nd rfl (Or.inl rfl) (ZM (Bj G7 (pv 2) Bt (Br _)) (Bd (Aa (pv 1) (Aa Ad Ac))) (Bd (Aa (pv 1) (Aa (Bc Ca (Az Bl rfl T.len Cz (Aa (Bh Bu (Bh Bu (Df (pv 0) rfl) Ad (λ_ _=>rfl)) (pv 1) (λ_ _=>rfl)) Ac)) Ad) Ac)))))
 (Af (Ci (Ds (Pg (Dg hr) (Df (pv 0) rfl) (pv 3) (λ_ _=>rfl))) (Ai (Ay (BZ Ac))) BK)
 (Af (Gj (Aw Oc hr (Aa (Df (pv 0) rfl) (Aa (Df (pv 0) rfl) (Aa (pv 3) (Aa (PE.weak (ta':=B3) (ZM (Bj G7 (pv 2) Bt (Br _)) Ad (Vf QW Ad)) (fun σ H Q h=>by
    obtain⟨e,e1,q⟩:=h
    refine⟨_,e1,rfl,_,rfl,?_⟩
    unfold Dp Xf at q
    split at q
    ·rename_i h;rw[h];exact Cp q
    ·rename_i h;rw[show decide (V.str e=V.str "A")=false by simpa using h];exact Cd ⟨_,rfl,q⟩)) Ac))))) (Cv rfl (Ak (Ah (i:=4) Gh.nd rfl (Or.inl rfl)) (Ak (Ah (i:=5) Gh.nd rfl (Or.inl rfl)) Bp))))
 (Af (Ci (Ds (Aw KN hr (Aa (Df (pv 0) rfl) (Aa (pv 4) Ac)))) (Ai (Ay (BZ Ac))) BK)
 (Ai (Ay (Az bw rfl T.sorted XQ (Aa (Cg (N':=["spot","self"]) rfl (Bg.of (src:=[none,some 0]) (Aj IW) ["self","loop","end","opener","wires","places"] rfl rfl rfl (by trivial) (by trivial) (by trivial) rfl (by trivial)) (Dk (pv 5)) (λ_ _ _ _=>(Ah (i:=0) (show List.Nodup (["spot","self"]:YF) by trivial) rfl (Or.inl rfl))) (λ_ _ _ _=>(Gm (Bj d7 (pZ (Dg hr) (dX (K:=K) rfl (pv 1) rfl) (pv 0) ⟨rfl,rfl,rfl,rfl⟩) Np (Br _)))) (λ_ _ _ _=>(pv 0))) Ac)))))))),?_⟩
 show let R0:TS:=_;let R1:TS:=Ao _ R0;let R2:TS:=Ao _ R1;let R3:TS:=Ao _ R2;Ao _ R3 _ _ _
 intro R0 R1 R2 R3
 obtain⟨dx,hp⟩:=R.ins
 have ok:=pa.ok
 obtain⟨Ls,zs,ws,zvs,f1,f2,f3,f4,f5⟩:=pa.at_
 have lw:=QbW f3
 have hkl:=(Qag.mp hps).1
 have hwk:ws[k]?=some ws[k]:=Qak (by omega)
 obtain⟨ps',Ry,t,vs',ev,ht,hpp⟩:=Paired.Ce f3 hwk
 rw[hps] at Ry
 cases Ry
 have lv:=QbW hpp
 have l12:=(ok.ok ps (QaF hps)).hi
 have qU:atI ws (k:Int)=some (.ref t):=Gu (by rw[hwk,ev])
 have hst:Dp e=1\/Dp e=-1:=by unfold Dp;split;exact .inl rfl;exact .inr rfl
 have ga:0<=(Cu k ps.length e).at_/\(Cu k ps.length e).at_<=13:=by
  unfold Cu
  dsimp only
  split <;> omega
 have qn:Dv hs gs fl k ps.length e=[]->∀HX l,Same H HX->HX l=none->Q (.ref l) (upd HX l (.lst [])):=λhz HX l sX hl=>by
  refine q l [] [] _ (sX.free hl) Ab .nil ?_ .nil (sX.trans (Ae hl _))
  rw[hz]
 show Ao (V8 _ _) _ _ _ _
 refine Hi (fun σ HH=>∃to,σ=[some (.ref p),some (.int (k:Int)),some (.str e),some (.ref to),none,none]/\HH to=some (.tup [.int (k:Int),.int (Cu k ps.length e).at_])/\Same H HH) (fun σ HH h=>?_) (λD' hn=>?_)
 rotate_left 1
 ·refine⟨_,rfl,rfl,_,rfl,Fg (λh=>?_) (λh=>?_)⟩
  ·have hg:(Cu k ps.length e).at_=0:=if_pos h
   rw[hg] at hn
   refine⟨_,rfl,Ar (by show 2<=1000;decide),λto hto=>?_⟩
   exact hn _ _ ⟨to,rfl,Ab,Ae hto _⟩
  ·have hg:(Cu k ps.length e).at_=(ps.length:Int)+1:=if_neg (by unfold Xf;rw[h];decide)
   rw[hg] at hn
   refine⟨_,rfl,_,rfl,p,C,dx,_,_,rfl,hp,T.cl,T.Z8,RD (i:=0) (fnd pl d1 d2 d3) rfl,pl,_,_,_,rfl,rfl,SqT.of f1,rfl,_,rfl,Ls,_,_,_,rfl,rfl,SqT.of f2,qU,t,_,rfl,.inr (SqT.of ht),_,_,rfl,rfl,Ar (by show 2<=1000;decide),λto hto=>?_⟩
   rw[lv]
   exact hn _ _ ⟨to,rfl,Ab,Ae hto _⟩
 obtain⟨to,rfl,hto,s1⟩:=h
 have R1:=R.same s1
 obtain⟨dx1,hp1⟩:=R1.ins
 have gg:=Dw.t (k:=k2 (Cu k ps.length e)) R1.gp hto
 rw[VB Fh] at gg
 refine⟨_,rfl,p,C,dx1,_,_,rfl,hp1,T.cl,T.Gs,Fi pl d1 d2 d3,_,rfl,d3,_,rfl,gg,_,rfl,Fg (λhg=>?_) (λhg=>?_)⟩
 ·exact⟨Ar (by show 0<=1000;decide),λl hl=>qn (if_pos hg) _ l s1 hl⟩
 have hg':¬gpC gs (Cu k ps.length e)=true:=by rw[hg];decide
 refine⟨_,rfl,p,C,dx1,_,_,rfl,hp1,T.cl,T.Gd,FN pl d1 d2 d3,_,rfl,p,C,dx1,_,_,rfl,hp1,T.cl,T.Gs,Fi pl d1 d2 d3,_,rfl,e,rfl,d1,d3,to,hs,gs,Cu k ps.length e,Dp e,rfl,.inl R1.st,.inl R1.gp,hto,hb,hst,by omega,by omega,λtt l1 l2 xs ys H2 htt hl1 hx1 hl2 hy2 s2=>⟨tt,_,rfl,SqT.of htt,rfl,_,_,rfl,_,_,rfl,rfl,?_⟩⟩
 have s12:=s1.trans s2
 have R2:=R.same s12
 obtain⟨dx2,hp2⟩:=R2.ins
 have iM:(Bf hs gs (Cu k ps.length e).lp (Dp e) 16 (Cu k ps.length e).at_).1.length<=200:=Qci (RM hs gs _ _ 16 _) (by decide)
 refine⟨_,rfl,p,C,dx2,_,_,rfl,hp2,T.cl,T.Gd,FN pl d1 d2 d3,_,rfl,d1,l1,hs,xs,_,rfl,.inl R2.st,hl1,hx1,Qy hs gs _ _ 16 _,iM,λH3 s3=>⟨_,rfl,Fg (λhsh=>?_) (λhsh=>?_)⟩⟩
 ·exact⟨Ar (by show 0<=1000;decide),λl hl=>qn ((if_neg hg').trans (if_pos hsh)) _ l (s12.trans s3) hl⟩
 have hw:Dv hs gs fl k ps.length e=(Bf hs gs k (Dp e) 16 (Cu k ps.length e).at_).2.filter (flC fl):=(if_neg hg').trans (if_neg (by
  have:Dd hs (Bf hs gs k (Dp e) 16 (Cu k ps.length e).at_).1=false:=hsh
  rw[this];decide))
 have s13:=s12.trans s3
 have R3:=R.same s13
 obtain⟨dx3,hp3⟩:=R3.ins
 have hl2':=s3 _ _ hl2
 have hy3:Paired (BX H3) ys (Bf hs gs k (Dp e) 16 (Cu k ps.length e).at_).2:=Paired.Av hy2 λ_ _ z=>z.tups (Al.of s3)
 generalize hcw:(Bf hs gs k (Dp e) 16 (Cu k ps.length e).at_).2=cw at *
 have cnd:cw.Nodup:=by rw[<-hcw];exact (RN hs gs k (Dp e) hst 16 _).1
 have zO:(cw.filter (flC fl)).Nodup:=List.Nodup.sublist QaR cnd
 have fin:∀s∈cw.filter (flC fl),s∈fl.map (·.1):=λs h=>aN (QbI.mp h).2
 have GL:(cw.filter (flC fl)).length<=30:=by
  have:=Qh zO fin
  rw[QbB] at this
  omega
 have fbd:∀s∈cw.filter (flC fl),Bd3 s:=λs h=>hbf s (fin s h)
 have ly:=QbW hy3
 refine⟨_,rfl,l2,rfl,⟨_,SqL.of hl2'⟩,λlc hlc=>?_⟩
 let J0:YN:=λi σ HH=>(∃u,σ=[u,some (.ref p)])/\(∃zs,HH lc=some (.lst zs)/\Paired (BX HH) zs ((cw.take i).filter (flC fl)))/\Same H3 HH
 refine FQ (xs:=ys) J0 ⟨⟨_,rfl⟩,⟨[],Ab,.nil⟩,Ae hlc _⟩ (λi σ HH _ h=>SqL.of (h.2.2 _ _ hl2')) (λi x σ HH hx h=>?_) (fun σ HH h=>?_)
 ·obtain⟨⟨u,rfl⟩,⟨zs,e1,e3⟩,e2⟩:=h
  obtain⟨sp,hsp,b,rfl,hbt⟩:=Paired.Ce hy3 hx
  have RX:=R3.same e2
  obtain⟨dxx,hpx⟩:=RX.ins
  obtain⟨kvs,hk,hf⟩:=RX.fi
  have lz:=QbW e3
  have iK:zs.length<=30:=by
   rw[lz]
   exact Qci ((List.Sublist.filter _ (List.take_sublist i cw)).length_le) GL
  have et:(cw.take (i+1)).filter (flC fl)=(cw.take i).filter (flC fl)++[sp].filter (flC fl):=by rw[Qcx hsp,Qbd]
  unfold Fl
  dsimp only
  refine⟨_,rfl,p,C,dxx,_,_,rfl,hpx,T.cl,T.Qm,VF pl d1 d2 d3,d2,rfl,.inr ⟨_,.inl hk⟩,_,rfl,_,Dw.t (k:=k3 sp) hk (e2 _ _ hbt),rfl,_,rfl,?_⟩
  rw[fu sp hf]
  refine Fg (λhc=>?_) (λhc=>?_)
  ·have ntl:∀us,HH lc≠some (.tup us):=λus z=>by rw[e1] at z;cases z
   have sL:=Al.upd (o:=.lst (zs++[.ref b])) ntl
   refine⟨_,rfl,zs,e1,Aq (by omega),⟨_,rfl⟩,⟨_,Ab,?_⟩,e2.Bm Ag.upd hlc⟩
   rw[et,Qas hc]
   exact Qcp ⟨b,rfl,sL _ _ (e2 _ _ hbt)⟩ (Paired.Av e3 λ_ _ z=>z.tups sL)
  ·refine⟨⟨_,rfl⟩,⟨zs,e1,?_⟩,e2⟩
   rw[et,Qar (by rw[hc];decide)]
   show Paired _ _ (_++[])
   rw[QbG]
   exact e3
 obtain⟨_,⟨zs,e1,e3⟩,e2⟩:=h
 rw[ly,Qbs] at e3
 have lz:=QbW e3
 refine oX (ks:=(cw.filter (flC fl)).map cd3) (SqL.of e1) (by omega) (lE e3 fbd) (zV zO fbd) λis ls hperm S5 hls=>?_
 rw[lz] at hperm
 have s5:=Ae hls (.lst (is.map λi=>zs.getD i .non))
 have B7:=(s13.trans e2).trans s5
 refine q ls _ (is.map λi=>(cw.filter (flC fl)).getD i ⟨0,0,0⟩) _ ((s13.trans e2).free hls) Ab (Vg (Paired.Av e3 λ_ _ z=>z.tups (Al.of s5)) is λi hi=>by rw[lz];exact QbT.mp (hperm.mem_iff.mp hi)) ?_ ?_ B7
 ·rw[hw];exact o9 hperm
 ·rw[pq hperm];exact S5
end
theorem pos_succ (a st:Int) (i:Nat):a+st+(i:Int)*st=a+((i+1:Nat):Int)*st:=by
 rw[Int.natCast_add,Int.add_mul,show ((1:Nat):Int)=1 from rfl,Int.one_mul]
 omega
def Gy (lp a st:Int) (i:Nat):Sp3:=⟨lp,Cm (a+(i:Int)*st) (a+((i+1:Nat):Int)*st),0⟩
def CP (a st:Int) (i:Nat):Int:=a+((i+1:Nat):Int)*st
theorem Hw (lp a st:Int):Gy lp a st 0=⟨lp,Cm a (a+st),0⟩:=by
 unfold Gy
 rw[show ((0:Nat):Int)*st=0 from Int.zero_mul st,Int.add_zero,show ((0+1:Nat):Int)*st=st from Int.one_mul st]
theorem Gb (a st:Int):CP a st 0=a+st:=by
 unfold CP
 rw[show ((0+1:Nat):Int)*st=st from Int.one_mul st]
theorem Mf (lp a st:Int) (i:Nat):Gy lp (a+st) st i=Gy lp a st (i+1):=by
 unfold Gy
 rw[pos_succ,pos_succ]
theorem GX (a st:Int) (i:Nat):CP (a+st) st i=CP a st (i+1):=by
 unfold CP
 rw[pos_succ]
def Open (hs:YR) (gs:YT) (lp st a:Int) (j:Nat):Prop:=(∀i,i<=j->¬stC hs (Gy lp a st i)="cut")/\∀i,i < j->gpC gs ⟨lp,CP a st i⟩=false
theorem Rq {hs:YR} {gs:YT} {lp st a:Int}:Open hs gs lp st a 0 ↔ ¬stC hs ⟨lp,Cm a (a+st),0⟩="cut":=by
 rw[<-Hw]
 constructor
 ·intro h
  exact h.1 0 (Qcn _)
 ·intro h
  refine⟨λi hi=>?_,λi hi=>by omega⟩
  rw[show i=0 by omega]
  exact h
theorem Lb {hs:YR} {gs:YT} {lp st a:Int} {j:Nat}:Open hs gs lp st a (j+1) ↔ ¬stC hs ⟨lp,Cm a (a+st),0⟩="cut"/\gpC gs ⟨lp,a+st⟩=false/\Open hs gs lp st (a+st) j:=by
 constructor
 ·rintro ⟨h1,h2⟩
  refine⟨by rw[<-Hw];exact h1 0 (by omega),by have:=h2 0 (by omega);rw[Gb] at this;exact this,λi hi=>?_,λi hi=>?_⟩
  ·rw[Mf];exact h1 (i+1) (by omega)
  ·rw[GX];exact h2 (i+1) (by omega)
 ·rintro ⟨h1,h2,h3,h4⟩
  refine⟨λi hi=>?_,λi hi=>?_⟩
  ·cases i with
   | zero=>rw[Hw];exact h1
   | succ i=>rw[<-Mf];exact h3 i (by omega)
  ·cases i with
   | zero=>rw[Gb];exact h2
   | succ i=>rw[<-GX];exact h4 i (by omega)
theorem Qx {hs:YR} {gs:YT} {lp st:Int} {s:Sp3}:∀{f:Nat} {a:Int},s∈(Bf hs gs lp st f a).2 ↔ ∃j,j < f/\Open hs gs lp st a j/\s∈(⟨lp,CP a st j,0⟩::BR hs lp (CP a st j):YV)
 | 0,a=>by
  constructor
  ·intro h;cases h
  ·rintro ⟨j,h,_⟩;omega
 | f+1,a=>by
  by_cases hc:stC hs ⟨lp,Cm a (a+st),0⟩="cut"
  ·rw[show Bf hs gs lp st (f+1) a=([],[]) from if_pos hc]
   constructor
   ·intro h;cases h
   ·rintro ⟨j,_,ho,_⟩
    have:=ho.1 0 (Qco _)
    rw[Hw] at this
    exact absurd hc this
  ·have zero:s∈(⟨lp,a+st,0⟩::BR hs lp (a+st):YV)->∃j,j < f+1/\Open hs gs lp st a j/\s∈(⟨lp,CP a st j,0⟩::BR hs lp (CP a st j):YV):=λh=>⟨0,by omega,Rq.mpr hc,by rw[Gb];exact h⟩
   cases hg:gpC gs ⟨lp,a+st⟩ with
   | true=>
    rw[show Bf hs gs lp st (f+1) a=(⟨lp,Cm a (a+st),0⟩::BR hs lp (a+st),⟨lp,a+st,0⟩::BR hs lp (a+st)) from (if_neg hc).trans (if_pos hg)]
    constructor
    ·exact zero
    ·rintro ⟨j,_,ho,h⟩
     cases j with
     | zero=>rw[Gb] at h;exact h
     | succ j=>rw[(Lb.mp ho).2.1] at hg;cases hg
   | false=>
    rw[show Bf hs gs lp st (f+1) a=((⟨lp,Cm a (a+st),0⟩::BR hs lp (a+st))++(Bf hs gs lp st f (a+st)).1,(⟨lp,a+st,0⟩::BR hs lp (a+st))++(Bf hs gs lp st f (a+st)).2) from (if_neg hc).trans (if_neg (by rw[hg];decide))]
    show s∈_++_ ↔ _
    rw[QbC,Qx (f:=f) (a:=a+st)]
    constructor
    ·rintro (h |⟨j,hj,ho,h⟩)
     ·exact zero h
     ·exact⟨j+1,by omega,Lb.mpr ⟨hc,hg,ho⟩,by rw[<-GX];exact h⟩
    ·rintro ⟨j,hj,ho,h⟩
     cases j with
     | zero=>rw[Gb] at h;exact .inl h
     | succ j=>exact .inr ⟨j,by omega,(Lb.mp ho).2.2,by rw[GX];exact h⟩
theorem bC {hs:YR} {gs:YT} {lp st:Int}:∀{f:Nat} {a:Int},cS hs gs lp st f a=true ↔ ∃j,j < f/\Open hs gs lp st a j/\Dd hs (Gy lp a st j::BR hs lp (CP a st j))=true
 | 0,a=>by
  constructor
  ·intro h;cases h
  ·rintro ⟨j,h,_⟩;omega
 | f+1,a=>by
  rw[Ks,bC (f:=f) (a:=a+st)]
  constructor
  ·rintro ⟨hc,h |⟨hg,j,hj,ho,h⟩⟩
   ·exact⟨0,by omega,Rq.mpr hc,by rw[Hw,Gb];exact h⟩
   ·exact⟨j+1,by omega,Lb.mpr ⟨hc,hg,ho⟩,by rw[<-Mf,<-GX];exact h⟩
  ·rintro ⟨j,hj,ho,h⟩
   cases j with
   | zero=>
    rw[Hw,Gb] at h
    exact⟨Rq.mp ho,.inl h⟩
   | succ j=>
    obtain⟨h1,h2,h3⟩:=Lb.mp ho
    exact⟨h1,.inr ⟨h2,j,by omega,h3,by rw[Mf,GX];exact h⟩⟩
theorem Y0 {hs:YR} {lp x:Int} {s:Sp3}:∀{f n:Nat},s∈Ei hs lp x f n ↔ ∃i,i < f/\s=⟨lp,x,((n+i:Nat):Int)⟩/\∀m,m<=i->¬stC hs ⟨lp,x,((n+m:Nat):Int)⟩="cut"
 | 0,n=>by
  constructor
  ·intro h;cases h
  ·rintro ⟨i,h,_⟩;omega
 | f+1,n=>by
  by_cases hc:stC hs ⟨lp,x,(n:Int)⟩="cut"
  ·rw[show Ei hs lp x (f+1) n=[] from if_pos hc]
   constructor
   ·intro h;cases h
   ·rintro ⟨i,_,_,h⟩
    exact absurd hc (h 0 (Qco _))
  ·rw[show Ei hs lp x (f+1) n=⟨lp,x,(n:Int)⟩::Ei hs lp x f (n+1) from if_neg hc,QbX,Y0 (f:=f) (n:=n+1)]
   constructor
   ·rintro (h |⟨i,hi,h,hm⟩)
    ·exact⟨0,by omega,h,λm hm=>by rw[show n+m=n by omega];exact hc⟩
    ·refine⟨i+1,by omega,by rw[h,show n+1+i=n+(i+1) by omega],λm hm'=>?_⟩
     cases m with
     | zero=>exact hc
     | succ m=>rw[show n+(m+1)=n+1+m by omega];exact hm m (by omega)
   ·rintro ⟨i,hi,h,hm⟩
    cases i with
    | zero=>exact .inl h
    | succ i=>exact .inr ⟨i,by omega,by rw[h,show n+1+i=n+(i+1) by omega],λm hm'=>by rw[show n+1+m=n+(m+1) by omega];exact hm (m+1) (by omega)⟩
theorem MJ {α : Type} {f:Nat->List α} {n:Nat} {x:α}:x∈up f n ↔ ∃i,i < n/\x∈f i:=⟨DP,λ⟨i,a,b⟩=>QbA.mpr ⟨i,QbT.mpr a,b⟩⟩
theorem GC {α : Type} {l:List α} {i:Nat} {x:α} (h:l[i]?=some x):i < l.length:=(Qag.mp h).1
def InL (ps:List Place) (a n:Int):Prop:=(a=0/\n=0)\/∃(i:Nat) (p:Place),ps[i]?=some p/\a=(i:Int)+1/\0<=n/\n<=(p.spur.length:Int)
theorem Le {loops:YU} {k:Nat} {ps:List Place} (hk:loops[k]?=some ps) {a n:Int}:(⟨k,a,n⟩ : Sp3)∈up (stL loops) loops.length ↔ InL ps a n:=by
 rw[MJ]
 constructor
 ·rintro ⟨i,hi,h⟩
  obtain⟨qs,e,h⟩:=Ek h
  rcases QbX.mp h with h | h
  ·injection h with h1 h2 h3
   exact .inl ⟨h2,h3⟩
  ·obtain⟨j,hj,h⟩:=DP h
   obtain⟨p,e2,h⟩:=Ek h
   obtain⟨m,hm,h⟩:=Qcg.mp h
   injection h with h1 h2 h3
   have:i=k:=by omega
   subst this
   rw[hk] at e
   cases e
   have:=QbT.mp hm
   exact .inr ⟨j,p,e2,by omega,by omega,by omega⟩
 ·rintro (⟨rfl,rfl⟩|⟨i,p,e,rfl,h0,h1⟩)
  ·exact⟨k,GC hk,by rw[show stL loops k=_ from Cw hk];exact QaT⟩
  ·refine⟨k,GC hk,?_⟩
   rw[show stL loops k=_ from Cw hk]
   refine QaG _ (MJ.mpr ⟨i,GC e,?_⟩)
   rw[show st1 k ps i=_ from Cw e]
   refine Qcg.mpr ⟨n.toNat,QbT.mpr (by omega),?_⟩
   rw[show ((1+i:Nat):Int)=(i:Int)+1 by omega,show ((n.toNat:Nat):Int)=n by omega]
def DvL (ps:List Place) (a n:Int):Prop:=∃(i:Nat) (p:Place),ps[i]?=some p/\a=(i:Int)+1/\0<=n/\n<=(p.spur.length:Int)/\¬V.str p.kind=V.str "opener"
theorem dw (lp a:Int):∀(ds:List Dev) (n m:Nat),n<=m->m < n+ds.length->∃d∈Dq lp a n ds,d.spot=⟨lp,a,(m:Int)⟩
 | [],n,m,h,h'=>by rw[List.length_nil] at h';omega
 | d::ds,n,m,h,h'=>by
  by_cases e:m=n
  ·subst e
   exact⟨_,QaT,rfl⟩
  ·rw[Qbt] at h'
   obtain⟨x,hx,q⟩:=dw lp a ds (n+1) m (by omega) (by omega)
   exact⟨x,QaG _ hx,q⟩
theorem Vq {loops:YU} {k:Nat} {ps:List Place} (hk:loops[k]?=some ps) {a n:Int}:(⟨k,a,n⟩ : Sp3)∈(up (pdL loops) loops.length).map Sd.spot ↔ DvL ps a n:=by
 constructor
 ·intro h
  obtain⟨d,hd,q⟩:=Qcg.mp h
  obtain⟨i,hi,h⟩:=DP hd
  obtain⟨qs,e,h⟩:=Ek h
  obtain⟨j,hj,h⟩:=DP h
  obtain⟨p,e2,h⟩:=Ek h
  injection q with q1 q2 q3
  unfold BL at h
  split at h
  ·cases h
  ·rename_i hn
   have key:d.lp=(i:Int)/\d.at_=((1+j:Nat):Int)/\0<=d.n/\d.n<=(p.spur.length:Int):=by
    rcases QbX.mp h with rfl | h
    ·exact⟨rfl,rfl,Qcs _,by show (0:Int)<=_;omega⟩
    ·obtain⟨z1,z2,z3,z4⟩:=PL _ _ _ _ _ h
     exact⟨z1,z2,by omega,by omega⟩
   obtain⟨z1,z2,z3,z4⟩:=key
   have:i=k:=by omega
   subst this
   rw[hk] at e
   cases e
   exact⟨j,p,e2,by omega,by omega,by omega,hn⟩
 ·rintro ⟨i,p,e,rfl,h0,h1,hn⟩
  have ex:∃d∈BL (k:Int) ((1+i:Nat):Int) p,d.spot=⟨k,(i:Int)+1,n⟩:=by
   unfold BL
   rw[if_neg hn]
   by_cases z:n=0
   ·subst z
    exact⟨_,QaT,by show (⟨_,_,_⟩ : Sp3)=_;rw[show ((1+i:Nat):Int)=(i:Int)+1 by omega]⟩
   ·obtain⟨x,hx,q⟩:=dw (k:Int) ((1+i:Nat):Int) p.spur 1 n.toNat (by omega) (by omega)
    exact⟨x,QaG _ hx,by rw[q,show ((1+i:Nat):Int)=(i:Int)+1 by omega,show ((n.toNat:Nat):Int)=n by omega]⟩
  obtain⟨d,hd,q⟩:=ex
  refine Qcg.mpr ⟨d,MJ.mpr ⟨k,GC hk,?_⟩,q⟩
  rw[show pdL loops k=_ from Cw hk]
  refine MJ.mpr ⟨i,GC e,?_⟩
  rw[show pd1 k ps i=_ from Cw e]
  exact hd
def IsG (ps:List Place) (a:Int):Prop:=a=0\/a=(ps.length:Int)+1\/∃(i:Nat) (p:Place),ps[i]?=some p/\a=(i:Int)+1/\V.str p.kind=V.str "opener"
theorem kZ {loops:YU} {k:Nat} {ps:List Place} (hk:loops[k]?=some ps) {a:Int}:(⟨k,a⟩ : Gt)∈up (gtL loops) loops.length ↔ IsG ps a:=by
 rw[MJ]
 constructor
 ·rintro ⟨i,hi,h⟩
  obtain⟨qs,e,h⟩:=Ek h
  have lp:i=k:=by
   rcases QbC.mp h with h | h
   ·rcases QbX.mp h with h | h
    ·injection h with h1 h2;omega
    ·obtain⟨j,hj,h⟩:=DP h
     have:=(W9 h).1
     dsimp only at this
     omega
   ·have:=QaX.mp h
    injection this with h1 h2;omega
  subst lp
  rw[hk] at e
  cases e
  rcases QbC.mp h with h | h
  ·rcases QbX.mp h with h | h
   ·injection h with h1 h2;exact .inl h2
   ·obtain⟨j,hj,h⟩:=DP h
    obtain⟨p,e2,h⟩:=Ek h
    split at h
    ·rename_i ho
     have:=QaX.mp h
     injection this with h1 h2
     exact .inr (.inr ⟨j,p,e2,by omega,ho⟩)
    ·cases h
  ·have:=QaX.mp h
   injection this with h1 h2
   exact .inr (.inl h2)
 ·intro h
  refine⟨k,GC hk,?_⟩
  rw[show gtL loops k=_ from Cw hk]
  rcases h with rfl | rfl |⟨i,p,e,rfl,ho⟩
  ·exact QaH _ QaT
  ·exact QaB _ (QaX.mpr rfl)
  ·refine QaH _ (QaG _ (MJ.mpr ⟨i,GC e,?_⟩))
   rw[show gt1 k ps i=_ from Cw e,if_pos ho]
   exact QaX.mpr (by rw[show ((1+i:Nat):Int)=(i:Int)+1 by omega])
theorem Uo {ps:List Place} {y:Int}:InL ps y 0 ↔ 0<=y/\y<=ps.length:=by
 constructor
 ·rintro (⟨rfl,_⟩|⟨i,p,e,rfl,_⟩)
  ·omega
  ·have:=GC e;omega
 ·rintro ⟨h0,h1⟩
  by_cases z:y=0
  ·exact .inl ⟨z,rfl⟩
  ·have hl:(y - 1).toNat < ps.length:=by omega
   exact .inr ⟨(y - 1).toNat,ps[(y - 1).toNat],Qak hl,by omega,Qcs _,by omega⟩
def Bo (loops:YU) (c:Sp3) (z:Str):YR:=(up (stL loops) loops.length).map λs=>(s,if s=c then z else ("whole":Str))
theorem uX (loops:YU) (c:Sp3) (z:Str):Kd (hs0 loops) c z=Bo loops c z:=by
 unfold Kd hs0 Bo
 rw[Qcj]
 refine QaL λs _=>?_
 show (if s=c then (s,z) else (s,("whole":Str)))=_
 split <;> rfl
theorem uU (loops:YU) (c:Sp3) (z:Str):Kd (Bo loops c z) c "whole"=hs0 loops:=by
 unfold Kd hs0 Bo
 rw[Qcj]
 refine QaL λs _=>?_
 show (if s=c then (s,("whole":Str)) else (s,if s=c then z else ("whole":Str)))=_
 by_cases e:s=c
 ·rw[if_pos e]
 ·rw[if_neg e,if_neg e]
theorem d8 (loops:YU) (c:Sp3):Bo loops c "whole"=hs0 loops:=by
 unfold hs0 Bo
 refine QaL λs _=>?_
 split <;> rfl
theorem Wb (f:Sp3->Str) (s:Sp3):∀L:YV,stC (L.map λs=>(s,f s)) s=if s∈L then f s else "cut"
 | []=>rfl
 | x::L=>by
  by_cases e:x=s
  ·rw[if_pos (by rw[e];exact QaT)]
   unfold stC
   rw[QbY,Qay (by exact QbR e)]
   rw[e];rfl
  ·have ih:=Wb f s L
   unfold stC at ih ⊢
   rw[QbY,Qaw (by simpa using e),ih]
   by_cases m:s∈L
   ·rw[if_pos m,if_pos (QaG _ m)]
   ·rw[if_neg m,if_neg λh=>(QbX.mp h).elim (λh=>e h.symm) m]
theorem HW {loops:YU} {c:Sp3} {z:Str} {s:Sp3}:¬stC (Bo loops c z) s="cut" ↔ s∈up (stL loops) loops.length/\¬(s=c/\z="cut"):=by
 unfold Bo
 rw[Wb (λs=>if s=c then z else ("whole":Str))]
 split
 ·rename_i h
  split
  ·rename_i e
   exact⟨λq=>⟨h,λz=>q z.2⟩,λq w=>q.2 ⟨e,w⟩⟩
  ·rename_i e
   exact⟨λq=>⟨h,λz=>e z.1⟩,λq w=>absurd w (by decide)⟩
 ·rename_i h
  exact⟨λq=>absurd rfl q,λq=>absurd q.1 h⟩
theorem NT {loops:YU} {c:Sp3} {z:Str} {s:Sp3}:stC (Bo loops c z) s="short" ↔ s∈up (stL loops) loops.length/\s=c/\z="short":=by
 unfold Bo
 rw[Wb (λs=>if s=c then z else ("whole":Str))]
 split
 ·rename_i h
  split
  ·rename_i e
   exact⟨λq=>⟨h,e,q⟩,λq=>q.2.2⟩
  ·rename_i e
   exact⟨λq=>absurd q (by decide),λq=>absurd q.2.1 e⟩
 ·rename_i h
  exact⟨λq=>absurd q (by decide),λq=>absurd q.1 h⟩
theorem Q6 {hs:YR} {ws:YV}:Dd hs ws=true ↔ ∃s∈ws,stC hs s="short":=by
 unfold Dd
 rw[List.any_eq_true]
 constructor
 ·rintro ⟨s,h,e⟩
  have:=Qbj e
  injection this with this
  exact⟨s,h,this⟩
 ·rintro ⟨s,h,e⟩
  exact⟨s,h,QbR (by rw[e])⟩
theorem Qj {loops:YU} {c:Sp3} {z:Str} (hz:¬z="short") (ws:YV):Dd (Bo loops c z) ws=false:=by
 cases h:Dd (Bo loops c z) ws with
 | false=>rfl
 | true=>
  obtain⟨s,_,e⟩:=Q6.mp h
  exact absurd (NT.mp e).2.2 hz
theorem WK {loops:YU} {c:Sp3} {z:Str} (hz:¬z="short") (gs:YT) (g:Gt):Bk (Bo loops c z) gs g=false:=by
 unfold Bk Dm
 rw[Qj hz,Qj hz]
 rfl
theorem Vi {hs:YR} {gs:YT} {lp a:Int} {j:Nat}:Open hs gs lp 1 a j ↔ (∀y,a<=y->y<=a+j->¬stC hs ⟨lp,y,0⟩="cut")/\∀y,a < y->y<=a+j->gpC gs ⟨lp,y⟩=false:=by
 have st:∀i:Nat,Gy lp a 1 i=⟨lp,a+i,0⟩:=λi=>by
  unfold Gy Cm
  rw[if_neg (by omega),Int.mul_one]
 have pw:∀i:Nat,CP a 1 i=a+i+1:=λi=>by
  unfold CP
  omega
 constructor
 ·rintro ⟨h1,h2⟩
  refine⟨λy h h'=>?_,λy h h'=>?_⟩
  ·have:=h1 (y - a).toNat (by omega)
   rw[st,show a+(((y - a).toNat:Nat):Int)=y by omega] at this
   exact this
  ·have:=h2 (y - a - 1).toNat (by omega)
   rw[pw,show a+(((y - a - 1).toNat:Nat):Int)+1=y by omega] at this
   exact this
 ·rintro ⟨h1,h2⟩
  exact⟨λi hi=>by rw[st];exact h1 _ (by omega) (by omega),λi hi=>by rw[pw];exact h2 _ (by omega) (by omega)⟩
theorem Ys {hs:YR} {gs:YT} {lp a:Int} {j:Nat}:Open hs gs lp (-1) a j ↔ (∀y,a - j<=y+1->y < a->¬stC hs ⟨lp,y,0⟩="cut")/\∀y,a - j<=y->y < a->gpC gs ⟨lp,y⟩=false:=by
 have st:∀i:Nat,Gy lp a (-1) i=⟨lp,a - i - 1,0⟩:=λi=>by
  unfold Gy Cm
  rw[if_pos (by omega),show a+(((i+1:Nat)):Int)*(-1)=a - i - 1 by omega]
 have pw:∀i:Nat,CP a (-1) i=a - i - 1:=λi=>by
  unfold CP
  omega
 constructor
 ·rintro ⟨h1,h2⟩
  refine⟨λy h h'=>?_,λy h h'=>?_⟩
  ·have:=h1 (a - y - 1).toNat (by omega)
   rw[st,show a - (((a - y - 1).toNat:Nat):Int) - 1=y by omega] at this
   exact this
  ·have:=h2 (a - y - 1).toNat (by omega)
   rw[pw,show a - (((a - y - 1).toNat:Nat):Int) - 1=y by omega] at this
   exact this
 ·rintro ⟨h1,h2⟩
  exact⟨λi hi=>by rw[st];exact h1 _ (by omega) (by omega),λi hi=>by rw[pw];exact h2 _ (by omega) (by omega)⟩
theorem Ft {hs:YR} {lp x:Int} {s:Sp3}:s∈(⟨lp,x,0⟩::BR hs lp x:YV) ↔ s.lp=lp/\s.at_=x/\0<=s.n/\s.n<=4/\∀t,1<=t->t<=s.n->¬stC hs ⟨lp,x,t⟩="cut":=by
 obtain⟨l',x',n'⟩:=s
 dsimp only
 rw[QbX]
 unfold BR
 rw[Y0]
 constructor
 ·rintro (h |⟨i,hi,h,hm⟩)
  ·injection h with h1 h2 h3
   exact⟨h1,h2,by omega,by omega,λt _ _=>by omega⟩
  ·injection h with h1 h2 h3
   refine⟨h1,h2,by omega,by omega,λt ht ht'=>?_⟩
   have:=hm (t - 1).toNat (by omega)
   rw[show ((1+(t - 1).toNat:Nat):Int)=t by omega] at this
   exact this
 ·rintro ⟨rfl,rfl,h0,h4,h⟩
  by_cases z:n'=0
  ·exact .inl (by rw[z])
  ·exact .inr ⟨(n' - 1).toNat,by omega,by rw[show ((1+(n' - 1).toNat:Nat):Int)=n' by omega],λm hm=>h _ (by omega) (by omega)⟩
theorem BF {hs:YR} {gs:YT} {lp a:Int} {s:Sp3}:s∈(Bf hs gs lp 1 16 a).2 ↔ s.lp=lp/\a < s.at_/\s.at_<=a+16/\(∀y,a<=y->y < s.at_->¬stC hs ⟨lp,y,0⟩="cut")/\(∀y,a < y->y < s.at_->gpC gs ⟨lp,y⟩=false)/\0<=s.n/\s.n<=4/\∀t,1<=t->t<=s.n->¬stC hs ⟨lp,s.at_,t⟩="cut":=by
 rw[Qx]
 have pw:∀i:Nat,CP a 1 i=a+i+1:=λi=>by
  unfold CP
  omega
 constructor
 ·rintro ⟨j,hj,ho,h⟩
  rw[Ft,pw] at h
  obtain⟨h1,h2,h3,h4,h5⟩:=h
  obtain⟨o1,o2⟩:=Vi.mp ho
  exact⟨h1,by omega,by omega,λy q q'=>o1 y q (by omega),λy q q'=>o2 y q (by omega),h3,h4,by rw[h2];exact h5⟩
 ·rintro ⟨h1,h2,h3,o1,o2,h4,h5,h6⟩
  refine⟨(s.at_ - a - 1).toNat,by omega,Vi.mpr ⟨λy q q'=>o1 y q (by omega),λy q q'=>o2 y q (by omega)⟩,?_⟩
  rw[pw,show a+(((s.at_ - a - 1).toNat:Nat):Int)+1=s.at_ by omega,Ft]
  exact⟨h1,rfl,h4,h5,h6⟩
theorem BG {hs:YR} {gs:YT} {lp a:Int} {s:Sp3}:s∈(Bf hs gs lp (-1) 16 a).2 ↔ s.lp=lp/\s.at_ < a/\a<=s.at_+16/\(∀y,s.at_<=y->y < a->¬stC hs ⟨lp,y,0⟩="cut")/\(∀y,s.at_ < y->y < a->gpC gs ⟨lp,y⟩=false)/\0<=s.n/\s.n<=4/\∀t,1<=t->t<=s.n->¬stC hs ⟨lp,s.at_,t⟩="cut":=by
 rw[Qx]
 have pw:∀i:Nat,CP a (-1) i=a - i - 1:=λi=>by
  unfold CP
  omega
 constructor
 ·rintro ⟨j,hj,ho,h⟩
  rw[Ft,pw] at h
  obtain⟨h1,h2,h3,h4,h5⟩:=h
  obtain⟨o1,o2⟩:=Ys.mp ho
  exact⟨h1,by omega,by omega,λy q q'=>o1 y (by omega) q',λy q q'=>o2 y (by omega) q',h3,h4,by rw[h2];exact h5⟩
 ·rintro ⟨h1,h2,h3,o1,o2,h4,h5,h6⟩
  refine⟨(a - s.at_ - 1).toNat,by omega,Ys.mpr ⟨λy q q'=>o1 y (by omega) q',λy q q'=>o2 y (by omega) q'⟩,?_⟩
  rw[pw,show a - (((a - s.at_ - 1).toNat:Nat):Int) - 1=s.at_ by omega,Ft]
  exact⟨h1,rfl,h4,h5,h6⟩
theorem IsG.lo {ps:List Place} {a:Int} (h:IsG ps a):0<=a/\a<=(ps.length:Int)+1:=by
 rcases h with rfl | rfl |⟨i,p,e,rfl,_⟩
 ·omega
 ·omega
 ·have:=GC e;omega
theorem InL.lo {ps:List Place} {a n:Int} (h:InL ps a n):0<=a/\a<=(ps.length:Int)/\0<=n:=by
 rcases h with⟨rfl,rfl⟩|⟨i,p,e,rfl,h0,_⟩
 ·omega
 ·have:=GC e;omega
theorem InL.n3 {ps:List Place} (ok:OkL ps) {a n:Int} (h:InL ps a n):n<=3:=by
 rcases h with⟨rfl,rfl⟩|⟨i,p,e,rfl,h0,h1⟩
 ·decide
 ·have:=(ok.ok p (QaF e)).spur;omega
theorem InL.less {ps:List Place} {a n t:Int} (h:InL ps a n) (ht:1<=t) (h':t<=n):InL ps a t:=by
 rcases h with⟨rfl,rfl⟩|⟨i,p,e,rfl,h0,h1⟩
 ·omega
 ·exact .inr ⟨i,p,e,rfl,by omega,by omega⟩
theorem DvL.in_ {ps:List Place} {a n:Int} (h:DvL ps a n):InL ps a n:=by
 obtain⟨i,p,e,rfl,h0,h1,_⟩:=h
 exact .inr ⟨i,p,e,rfl,h0,h1⟩
theorem DvL.lo {ps:List Place} {a n:Int} (h:DvL ps a n):1<=a:=by
 obtain⟨i,p,e,rfl,_⟩:=h
 omega
theorem DvL.ng {ps:List Place} {a n:Int} (h:DvL ps a n):¬IsG ps a:=by
 obtain⟨i,p,e,rfl,h0,h1,hn⟩:=h
 have:=GC e
 rintro (z | z |⟨j,q,e',z,ho⟩)
 ·omega
 ·omega
 ·have:j=i:=by omega
  subst this
  rw[e] at e'
  cases e'
  exact hn ho
theorem O9 {ps:List Place} (ok:OkL ps) {a n:Int} (h:InL ps a n) (h1:1<=n):¬IsG ps a:=by
 rcases h with⟨rfl,rfl⟩|⟨i,p,e,rfl,h0,h2⟩
 ·omega
 ·have:=GC e
  rintro (z | z |⟨j,q,e',z,ho⟩)
  ·omega
  ·omega
  ·have:j=i:=by omega
   subst this
   rw[e] at e'
   cases e'
   rcases (ok.ok p (QaF e)).form with⟨_,_,hs⟩| hk
   ·rw[hs,List.length_nil] at h2;omega
   ·exact Kp hk ho
theorem vO {gs:YT} {g:Gt}:gpC (lone gs) g=false ↔ g∉gs.map (·.1):=by
 constructor
 ·intro h hm
  rw[Qq.mpr hm] at h
  cases h
 ·intro h
  cases e:gpC (lone gs) g with
  | false=>rfl
  | true=>exact absurd (Qq.mp e) h
theorem Sw {hs:YR} {gs:YT} {g:Gt}:gpC (Bq hs gs) g=true ↔ g∈gs.map (·.1)/\Bk hs gs g=true:=by
 constructor
 ·intro h
  have hm:g∈gs.map (·.1):=by rw[<-Ho hs gs];exact S7 h
  refine⟨hm,?_⟩
  rw[<-h]
  exact (Kq (λg=>Bk hs gs g) g gs hm).symm
 ·rintro ⟨hm,h⟩
  rw[<-h]
  exact Kq (λg=>Bk hs gs g) g gs hm
section
variable {loops:YU} {k:Nat} {ps:List Place} {a0 n0:Int} {gs:YT}
theorem Gx (hk:loops[k]?=some ps) {c:Sp3} {z:Str} (hz:¬z="cut") {a n:Int} (h:InL ps a n):¬stC (Bo loops c z) ⟨k,a,n⟩="cut":=HW.mpr ⟨(Le hk).mpr h,λq=>hz q.2⟩
theorem NK (hk:loops[k]?=some ps) (hin:InL ps a0 n0) {ws:YV}:Dd (Bo loops ⟨k,a0,n0⟩ "short") ws=true ↔ (⟨k,a0,n0⟩ : Sp3)∈ws:=by
 rw[Q6]
 constructor
 ·rintro ⟨s,h,e⟩
  obtain⟨_,rfl,_⟩:=NT.mp e
  exact h
 ·intro h
  exact⟨_,h,NT.mpr ⟨(Le hk).mpr hin,rfl,rfl⟩⟩
theorem sY (lp a:Int) (j:Nat):Gy lp a 1 j=⟨lp,a+j,0⟩:=by
 unfold Gy Cm
 rw[if_neg (by omega),Int.mul_one]
theorem jX (a:Int) (j:Nat):CP a 1 j=a+j+1:=by unfold CP;omega
theorem tD (lp a:Int) (j:Nat):Gy lp a (-1) j=⟨lp,a - j - 1,0⟩:=by
 unfold Gy Cm
 rw[if_pos (by omega),show a+(((j+1:Nat)):Int)*(-1)=a - j - 1 by omega]
theorem jY (a:Int) (j:Nat):CP a (-1) j=a - j - 1:=by unfold CP;omega
theorem yM (hk:loops[k]?=some ps) (ok:OkL ps) (hin:InL ps a0 n0) {a:Int} (ha:0<=a):cS (Bo loops ⟨k,a0,n0⟩ "short") gs k 1 16 a=true ↔ (a<=a0/\n0=0/\∀y,a < y->y<=a0->gpC gs ⟨k,y⟩=false)\/(a < a0/\1<=n0/\∀y,a < y->y < a0->gpC gs ⟨k,y⟩=false):=by
 have l12:=ok.hi
 obtain⟨i1,i2,i3⟩:=hin.lo
 have n3:=hin.n3 ok
 have hw:¬("short":Str)="cut":=by decide
 rw[bC]
 constructor
 ·rintro ⟨j,hj,ho,h⟩
  rw[NK hk hin,sY,jX] at h
  obtain⟨o1,o2⟩:=Vi.mp ho
  rcases QbX.mp h with h | h
  ·injection h with h1 h2 h3
   exact .inl ⟨by omega,h3,λy q q'=>o2 y q (by omega)⟩
  ·obtain⟨h1,h2⟩:=MP _ _ _ _ _ _ h
   dsimp only at h1 h2
   exact .inr ⟨by omega,by omega,λy q q'=>o2 y q (by omega)⟩
 ·rintro (⟨h1,h2,h3⟩|⟨h1,h2,h3⟩)
  ·refine⟨(a0 - a).toNat,by omega,Vi.mpr ⟨λy q q'=>Gx hk hw (Uo.mpr ⟨by omega,by omega⟩),λy q q'=>h3 y q (by omega)⟩,?_⟩
   rw[NK hk hin,sY,show a+(((a0 - a).toNat:Nat):Int)=a0 by omega,h2]
   exact QaT
  ·refine⟨(a0 - a - 1).toNat,by omega,Vi.mpr ⟨λy q q'=>Gx hk hw (Uo.mpr ⟨by omega,by omega⟩),λy q q'=>h3 y q (by omega)⟩,?_⟩
   rw[NK hk hin,jX,show a+(((a0 - a - 1).toNat:Nat):Int)+1=a0 by omega]
   refine QaG _ ?_
   have:=(Ft (hs:=Bo loops ⟨k,a0,n0⟩ "short") (lp:=k) (x:=a0) (s:=⟨k,a0,n0⟩)).mpr ⟨rfl,rfl,by show 0<=n0;omega,by show n0<=4;omega,λt q q'=>Gx hk hw (hin.less q q')⟩
   rcases QbX.mp this with h | h
   ·injection h with _ _ h;omega
   ·exact h
theorem yN (hk:loops[k]?=some ps) (ok:OkL ps) (hin:InL ps a0 n0) {a:Int} (ha:a<=(ps.length:Int)+1):cS (Bo loops ⟨k,a0,n0⟩ "short") gs k (-1) 16 a=true ↔ a0 < a/\∀y,a0 < y->y < a->gpC gs ⟨k,y⟩=false:=by
 have l12:=ok.hi
 obtain⟨i1,i2,i3⟩:=hin.lo
 have n3:=hin.n3 ok
 have hw:¬("short":Str)="cut":=by decide
 rw[bC]
 constructor
 ·rintro ⟨j,hj,ho,h⟩
  rw[NK hk hin,tD,jY] at h
  obtain⟨o1,o2⟩:=Ys.mp ho
  obtain⟨_,h2,_⟩:=Ft.mp h
  dsimp only at h2
  exact⟨by omega,λy q q'=>o2 y (by omega) q'⟩
 ·rintro ⟨h1,h3⟩
  refine⟨(a - a0 - 1).toNat,by omega,Ys.mpr ⟨λy q q'=>Gx hk hw (Uo.mpr ⟨by omega,by omega⟩),λy q q'=>h3 y (by omega) q'⟩,?_⟩
  rw[NK hk hin,tD,jY,show a - (((a - a0 - 1).toNat:Nat):Int) - 1=a0 by omega]
  exact Ft.mpr ⟨rfl,rfl,by show 0<=n0;omega,by show n0<=4;omega,λt q q'=>Gx hk hw (hin.less q q')⟩
theorem Qk (hk:loops[k]?=some ps) (ok:OkL ps) (hin:InL ps a0 n0) (kg:gs.map (·.1)=up (gtL loops) loops.length) {a:Int} (ha:IsG ps a):Bk (Bo loops ⟨k,a0,n0⟩ "short") gs ⟨k,a⟩=true ↔ (a<=a0/\∀y,a < y->y<=a0->¬IsG ps y)\/(a0 < a/\∀y,a0 < y->y < a->¬IsG ps y):=by
 have al:=ha.lo
 have i3:=hin.lo.2.2
 have gt:∀y,gpC (lone gs) ⟨k,y⟩=false ↔ ¬IsG ps y:=λy=>by rw[vO,kg,kZ hk]
 unfold Bk
 rw[Kr]
 dsimp only
 rw[yM hk ok hin al.1,yN hk ok hin al.2]
 refine or_congr ?_ (and_congr Iff.rfl (forall_congr' λy=>imp_congr Iff.rfl (imp_congr Iff.rfl (gt y))))
 constructor
 ·rintro (⟨h1,h2,h3⟩|⟨h1,h2,h3⟩)
  ·exact⟨h1,λy q q'=>(gt y).mp (h3 y q q')⟩
  ·refine⟨by omega,λy q q'=>?_⟩
   by_cases e:y=a0
   ·subst e;exact O9 ok hin h2
   ·exact (gt y).mp (h3 y q (by omega))
 ·rintro ⟨h1,h2⟩
  by_cases e:n0=0
  ·exact .inl ⟨h1,e,λy q q'=>(gt y).mpr (h2 y q q')⟩
  ·refine .inr ⟨?_,by omega,λy q q'=>(gt y).mpr (h2 y q (by omega))⟩
   by_cases e2:a=a0
   ·subst e2;exact absurd ha (O9 ok hin (by omega))
   ·omega
theorem fJ {hs:YR} {gs:YT} {lp st:Int}:∀{f:Nat} {a:Int},∀s∈(Bf hs gs lp st f a).1,s.lp=lp
 | 0,_,s,h=>by cases h
 | f+1,a,s,h=>by
  have sp:∀x,∀s∈BR hs lp x,s.lp=lp:=λx s h=>(Ft.mp (QaG ⟨lp,x,0⟩ h)).1
  unfold Bf at h
  split at h
  ·cases h
  ·split at h
   ·rcases QbX.mp h with rfl | h
    ·rfl
    ·exact sp _ s h
   ·rcases QbC.mp h with h | h
    ·rcases QbX.mp h with rfl | h
     ·rfl
     ·exact sp _ s h
    ·exact fJ s h
theorem Ky {c:Sp3} {z:Str} {gs:YT} {lp st a:Int} {f:Nat} (h:¬lp=c.lp):Dd (Bo loops c z) (Bf (Bo loops c z) gs lp st f a).1=false:=by
 cases e:Dd (Bo loops c z) (Bf (Bo loops c z) gs lp st f a).1 with
 | false=>rfl
 | true=>
  obtain⟨s,hs,q⟩:=Q6.mp e
  obtain⟨_,rfl,_⟩:=NT.mp q
  exact absurd (fJ _ hs).symm h
theorem Ql {c:Sp3} {z:Str} {g:Gt} (h:¬g.lp=c.lp):Bk (Bo loops c z) gs g=false:=by
 unfold Bk Dm
 rw[Ky h,Ky h]
 rfl
end
theorem aO {loops:YU} {s:Sp3}:flC (fl0 loops) s=true ↔ s∈(up (pdL loops) loops.length).map Sd.spot:=by
 constructor
 ·intro h
  rw[<-S9]
  exact aN h
 ·intro h
  unfold flC
  cases e:(fl0 loops).find? λx=>decide (x.1=s) with
  | none=>
   rw[<-S9] at h
   obtain⟨x,hx,q⟩:=Qcg.mp h
   have:=List.find?_eq_none.mp e x hx
   exact absurd (QbR q) this
  | some y=>
   have hy:=List.mem_of_find?_eq_some e
   unfold fl0 at hy
   obtain⟨d,_,rfl⟩:=Qcg.mp hy
   rfl
theorem Ur {hs:YR} {gs:YT} {fl:YQ} {lp:Int} {n:Nat} {e:Str} {s:Sp3}:s∈Dv hs gs fl lp n e ↔ gpC gs (Cu lp n e)=false/\cS hs gs lp (Dp e) 16 (Cu lp n e).at_=false/\s∈(Bf hs gs lp (Dp e) 16 (Cu lp n e).at_).2/\flC fl s=true:=by
 unfold Dv cS
 cases gpC gs (Cu lp n e) with
 | true=>
  rw[if_pos rfl]
  exact⟨(λh=>by cases h),(λh=>by cases h.1)⟩
 | false=>
  rw[if_neg (by decide)]
  cases Dd hs (Bf hs gs lp (Dp e) 16 (Cu lp n e).at_).1 with
  | true=>
   rw[if_pos rfl]
   exact⟨(λh=>by cases h),(λh=>by cases h.2.1)⟩
  | false=>
   rw[if_neg (by decide),QbI]
   exact⟨λh=>⟨rfl,rfl,h.1,h.2⟩,λh=>⟨h.2.2.1,h.2.2.2⟩⟩
theorem mQ:Xf "A"=true:=QbR rfl
theorem mO:¬Xf "B"=true:=λz=>by
 have:=Qbj z
 injection this with this
 exact absurd this (by decide)
theorem zH (lp:Int) (n:Nat):Cu lp n "A"=⟨lp,0⟩:=by unfold Cu;rw[if_pos mQ]
theorem zG (lp:Int) (n:Nat):Cu lp n "B"=⟨lp,(n:Int)+1⟩:=by unfold Cu;rw[if_neg mO]
theorem xO:Dp "A"=1:=if_pos mQ
theorem xM:Dp "B"=-1:=if_neg mO
section
variable {loops:YU} {k:Nat} {ps:List Place} {gs:YT} {hs:YR} {x m:Int}
theorem tZ (hk:loops[k]?=some ps) (ok:OkL ps) (dv:DvL ps x m):(⟨k,x,m⟩ : Sp3)∈Dv hs gs (fl0 loops) k ps.length "A" ↔ gpC gs ⟨k,0⟩=false/\cS hs gs k 1 16 0=false/\(∀y,0<=y->y < x->¬stC hs ⟨k,y,0⟩="cut")/\(∀y,0 < y->y < x->gpC gs ⟨k,y⟩=false)/\∀t,1<=t->t<=m->¬stC hs ⟨k,x,t⟩="cut":=by
 have l12:=ok.hi
 have i:=dv.in_.lo
 have n3:=dv.in_.n3 ok
 have x1:=dv.lo
 rw[Ur,zH,xO,BF,aO,Vq hk]
 dsimp only
 exact⟨λ⟨h1,h2,⟨_,_,_,h3,h4,_,_,h5⟩,_⟩=>⟨h1,h2,h3,h4,h5⟩,λ⟨h1,h2,h3,h4,h5⟩=>⟨h1,h2,⟨rfl,by omega,by omega,h3,h4,by omega,by omega,h5⟩,dv⟩⟩
theorem tY (hk:loops[k]?=some ps) (ok:OkL ps) (dv:DvL ps x m):(⟨k,x,m⟩ : Sp3)∈Dv hs gs (fl0 loops) k ps.length "B" ↔ gpC gs ⟨k,(ps.length:Int)+1⟩=false/\cS hs gs k (-1) 16 ((ps.length:Int)+1)=false/\(∀y,x<=y->y<=ps.length->¬stC hs ⟨k,y,0⟩="cut")/\(∀y,x < y->y<=ps.length->gpC gs ⟨k,y⟩=false)/\∀t,1<=t->t<=m->¬stC hs ⟨k,x,t⟩="cut":=by
 have l12:=ok.hi
 have i:=dv.in_.lo
 have n3:=dv.in_.n3 ok
 have x1:=dv.lo
 rw[Ur,zG,xM,BG,aO,Vq hk]
 dsimp only
 exact⟨λ⟨h1,h2,⟨_,_,_,h3,h4,_,_,h5⟩,_⟩=>⟨h1,h2,λy q q'=>h3 y q (by omega),λy q q'=>h4 y q (by omega),h5⟩,λ⟨h1,h2,h3,h4,h5⟩=>⟨h1,h2,⟨rfl,by omega,by omega,λy q q'=>h3 y q (by omega),λy q q'=>h4 y q (by omega),by omega,by omega,h5⟩,dv⟩⟩
theorem Zx {g:Gt}:gpC (Bq hs gs) g=false ↔ ¬(g∈gs.map (·.1)/\Bk hs gs g=true):=by
 rw[<-Sw]
 cases gpC (Bq hs gs) g <;> decide
theorem Vb (hk:loops[k]?=some ps) (ok:OkL ps) (dv:DvL ps x m) {c:Sp3} {z:Str} (hz:¬z="short"\/¬(k:Int)=c.lp):(⟨k,x,m⟩ : Sp3)∈Dv (Bo loops c z) (Bq (Bo loops c z) gs) (fl0 loops) k ps.length "A" ↔ (∀y,0<=y->y < x->¬((⟨k,y,0⟩ : Sp3)=c/\z="cut"))/\∀t,1<=t->t<=m->¬((⟨k,x,t⟩ : Sp3)=c/\z="cut"):=by
 have i:=dv.in_.lo
 have ng:∀y,gpC (Bq (Bo loops c z) gs) ⟨k,y⟩=false:=λy=>Zx.mpr λh=>by
  rcases hz with hz | hz
  ·rw[WK hz] at h;cases h.2
  ·rw[Ql hz] at h;cases h.2
 have ns:cS (Bo loops c z) (Bq (Bo loops c z) gs) k 1 16 0=false:=by
  unfold cS
  rcases hz with hz | hz
  ·exact Qj hz _
  ·exact Ky hz
 rw[tZ hk ok dv]
 constructor
 ·rintro ⟨_,_,h1,_,h2⟩
  exact⟨λy q q'=>(HW.mp (h1 y q q')).2,λt q q'=>(HW.mp (h2 t q q')).2⟩
 ·rintro ⟨h1,h2⟩
  exact⟨ng 0,ns,λy q q'=>HW.mpr ⟨(Le hk).mpr (Uo.mpr ⟨q,by omega⟩),h1 y q q'⟩,λy _ _=>ng y,λt q q'=>HW.mpr ⟨(Le hk).mpr (dv.in_.less q q'),h2 t q q'⟩⟩
theorem gK (hk:loops[k]?=some ps) (ok:OkL ps) (dv:DvL ps x m) {c:Sp3} {z:Str} (hz:¬z="short"\/¬(k:Int)=c.lp):(⟨k,x,m⟩ : Sp3)∈Dv (Bo loops c z) (Bq (Bo loops c z) gs) (fl0 loops) k ps.length "B" ↔ (∀y,x<=y->y<=ps.length->¬((⟨k,y,0⟩ : Sp3)=c/\z="cut"))/\∀t,1<=t->t<=m->¬((⟨k,x,t⟩ : Sp3)=c/\z="cut"):=by
 have i:=dv.in_.lo
 have ng:∀y,gpC (Bq (Bo loops c z) gs) ⟨k,y⟩=false:=λy=>Zx.mpr λh=>by
  rcases hz with hz | hz
  ·rw[WK hz] at h;cases h.2
  ·rw[Ql hz] at h;cases h.2
 have ns:cS (Bo loops c z) (Bq (Bo loops c z) gs) k (-1) 16 ((ps.length:Int)+1)=false:=by
  unfold cS
  rcases hz with hz | hz
  ·exact Qj hz _
  ·exact Ky hz
 rw[tY hk ok dv]
 constructor
 ·rintro ⟨_,_,h1,_,h2⟩
  exact⟨λy q q'=>(HW.mp (h1 y q q')).2,λt q q'=>(HW.mp (h2 t q q')).2⟩
 ·rintro ⟨h1,h2⟩
  exact⟨ng _,ns,λy q q'=>HW.mpr ⟨(Le hk).mpr (Uo.mpr ⟨by omega,q'⟩),h1 y q q'⟩,λy _ _=>ng y,λt q q'=>HW.mpr ⟨(Le hk).mpr (dv.in_.less q q'),h2 t q q'⟩⟩
structure Btw (ps:List Place) (a0 F L:Int):Prop where
 f:IsG ps F
 fa:F<=a0
 fn:∀y,F < y->y<=a0->¬IsG ps y
 l:IsG ps L
 la:a0 < L
 ln:∀y,a0 < y->y < L->¬IsG ps y
variable {a0 n0 F L:Int}
theorem Qe (hk:loops[k]?=some ps) (ok:OkL ps) (hin:InL ps a0 n0) (kg:gs.map (·.1)=up (gtL loops) loops.length) (b:Btw ps a0 F L) (y:Int):gpC (Bq (Bo loops ⟨k,a0,n0⟩ "short") gs) ⟨k,y⟩=true ↔ y=F\/y=L:=by
 rw[Sw,kg,kZ hk]
 constructor
 ·rintro ⟨hy,h⟩
  rcases (Qk hk ok hin kg hy).mp h with⟨h1,h2⟩|⟨h1,h2⟩
  ·refine .inl (Qah λne=>?_)
   by_cases lt:y < F
   ·exact h2 F lt b.fa b.f
   ·exact b.fn y (by omega) h1 hy
  ·refine .inr (Qah λne=>?_)
   by_cases lt:L < y
   ·exact h2 L b.la lt b.l
   ·exact b.ln y h1 (by omega) hy
 ·rintro (rfl | rfl)
  ·exact⟨b.f,(Qk hk ok hin kg b.f).mpr (.inl ⟨b.fa,b.fn⟩)⟩
  ·exact⟨b.l,(Qk hk ok hin kg b.l).mpr (.inr ⟨b.la,b.ln⟩)⟩
theorem xV (hk:loops[k]?=some ps) (ok:OkL ps) (hin:InL ps a0 n0) (kg:gs.map (·.1)=up (gtL loops) loops.length) (b:Btw ps a0 F L) (dv:DvL ps x m):(⟨k,x,m⟩ : Sp3)∈Dv (Bo loops ⟨k,a0,n0⟩ "short") (Bq (Bo loops ⟨k,a0,n0⟩ "short") gs) (fl0 loops) k ps.length "A" ↔ x<=F:=by
 have pt:=Qe hk ok hin kg b
 have i:=dv.in_.lo
 have x1:=dv.lo
 have fl:=b.f.lo
 have fa:=b.fa
 have la:=b.la
 have hw:¬("short":Str)="cut":=by decide
 have pf:∀y,gpC (Bq (Bo loops ⟨k,a0,n0⟩ "short") gs) ⟨k,y⟩=false->¬y=F/\¬y=L:=λy h=>⟨(λz=>by rw[(pt y).mpr (.inl z)] at h;cases h),(λz=>by rw[(pt y).mpr (.inr z)] at h;cases h)⟩
 have pn:∀y,¬y=F->¬y=L->gpC (Bq (Bo loops ⟨k,a0,n0⟩ "short") gs) ⟨k,y⟩=false:=λy h h'=>by
  cases e:gpC (Bq (Bo loops ⟨k,a0,n0⟩ "short") gs) ⟨k,y⟩ with
  | false=>rfl
  | true=>exact absurd ((pt y).mp e) (by rintro (z | z);exact h z;exact h' z)
 rw[tZ hk ok dv]
 constructor
 ·rintro ⟨h1,_,_,h2,_⟩
  have:=(pf 0 h1).1
  refine Qah λc=>?_
  exact (pf F (h2 F (by omega) (by omega))).1 rfl
 ·intro h
  refine⟨pn 0 (by omega) (by omega),?_,λy q q'=>Gx hk hw (Uo.mpr ⟨q,by omega⟩),λy q q'=>pn y (by omega) (by omega),λt q q'=>Gx hk hw (dv.in_.less q q')⟩
  cases e:cS (Bo loops ⟨k,a0,n0⟩ "short") (Bq (Bo loops ⟨k,a0,n0⟩ "short") gs) k 1 16 0 with
  | false=>rfl
  | true=>
   rcases (yM hk ok hin (Qcs 0)).mp e with⟨h1,h2,h3⟩|⟨h1,h2,h3⟩
   ·exact absurd rfl (pf F (h3 F (by omega) fa)).1
   ·by_cases z:F=a0
    ·exact absurd (z ▸ b.f) (O9 ok hin h2)
    ·exact absurd rfl (pf F (h3 F (by omega) (by omega))).1
theorem xU (hk:loops[k]?=some ps) (ok:OkL ps) (hin:InL ps a0 n0) (kg:gs.map (·.1)=up (gtL loops) loops.length) (b:Btw ps a0 F L) (dv:DvL ps x m):(⟨k,x,m⟩ : Sp3)∈Dv (Bo loops ⟨k,a0,n0⟩ "short") (Bq (Bo loops ⟨k,a0,n0⟩ "short") gs) (fl0 loops) k ps.length "B" ↔ L<=x:=by
 have pt:=Qe hk ok hin kg b
 have i:=dv.in_.lo
 have x1:=dv.lo
 have fl:=b.l.lo
 have fa:=b.fa
 have la:=b.la
 have hw:¬("short":Str)="cut":=by decide
 have pf:∀y,gpC (Bq (Bo loops ⟨k,a0,n0⟩ "short") gs) ⟨k,y⟩=false->¬y=F/\¬y=L:=λy h=>⟨(λz=>by rw[(pt y).mpr (.inl z)] at h;cases h),(λz=>by rw[(pt y).mpr (.inr z)] at h;cases h)⟩
 have pn:∀y,¬y=F->¬y=L->gpC (Bq (Bo loops ⟨k,a0,n0⟩ "short") gs) ⟨k,y⟩=false:=λy h h'=>by
  cases e:gpC (Bq (Bo loops ⟨k,a0,n0⟩ "short") gs) ⟨k,y⟩ with
  | false=>rfl
  | true=>exact absurd ((pt y).mp e) (by rintro (z | z);exact h z;exact h' z)
 rw[tY hk ok dv]
 constructor
 ·rintro ⟨h1,_,_,h2,_⟩
  have:=(pf _ h1).2
  refine Qah λc=>?_
  exact (pf L (h2 L (by omega) (by omega))).2 rfl
 ·intro h
  refine⟨pn _ (by omega) (by omega),?_,λy q q'=>Gx hk hw (Uo.mpr ⟨by omega,q'⟩),λy q q'=>pn y (by omega) (by omega),λt q q'=>Gx hk hw (dv.in_.less q q')⟩
  cases e:cS (Bo loops ⟨k,a0,n0⟩ "short") (Bq (Bo loops ⟨k,a0,n0⟩ "short") gs) k (-1) 16 ((ps.length:Int)+1) with
  | false=>rfl
  | true=>
   obtain⟨h1,h3⟩:=(yN hk ok hin (Qcs _)).mp e
   exact absurd rfl (pf L (h3 L la (by omega))).2
end
theorem M9 {α : Type} {c:α->Int}:∀{l m:List α},(l.map c).Pairwise (· < ·)->(m.map c).Pairwise (· < ·)->(∀x,x∈l ↔ x∈m)->l=m
 | [],[],_,_,_=>rfl
 | [],y::m,_,_,h=>by cases (h y).mpr QaT
 | x::l,[],_,_,h=>by cases (h x).mp QaT
 | x::l,y::m,p,q,h=>by
  rw[QbY,List.pairwise_cons] at p q
  have p1:∀z∈l,c x < c z:=λz hz=>p.1 _ (Qcg.mpr ⟨z,hz,rfl⟩)
  have q1:∀z∈m,c y < c z:=λz hz=>q.1 _ (Qcg.mpr ⟨z,hz,rfl⟩)
  have e:x=y:=by
   rcases QbX.mp ((h x).mp QaT) with e | h1
   ·exact e
   ·rcases QbX.mp ((h y).mpr QaT) with e | h2
    ·exact e.symm
    ·have:=q1 _ h1
     have:=p1 _ h2
     omega
  subst e
  rw[M9 p.2 q.2 λz=>?_]
  constructor
  ·intro hz
   rcases QbX.mp ((h z).mp (QaG _ hz)) with e | h1
   ·have:=p1 _ hz;rw[e] at this;omega
   ·exact h1
  ·intro hz
   rcases QbX.mp ((h z).mpr (QaG _ hz)) with e | h1
   ·have:=q1 _ hz;rw[e] at this;omega
   ·exact h1
section
variable {loops:YU} {k:Nat} {ps:List Place} {gs:YT} {a0 n0 F L:Int}
theorem Vp {hs:YR} (ok:CW loops) (kg:gs.map (·.1)=up (gtL loops) loops.length) {g:Gt}:g∈((Bq hs gs).filter (·.2)).map (·.1) ↔ gpC (Bq hs gs) g=true:=by
 have nd:((Bq hs gs).map (·.1)).Nodup:=by rw[Ho,kg];exact iU ok
 rw[show ((Bq hs gs).filter (·.2)).map (·.1)=((Bq hs gs).filter λx=>(λ_ b=>b) x.1 x.2).map (·.1) from rfl,Pr nd (p:=λ_ b=>b)]
 exact⟨λh=>h.2,λh=>⟨S7 h,h⟩⟩
theorem bO {hs:YR} (ok:CW loops) (kg:gs.map (·.1)=up (gtL loops) loops.length):((((Bq hs gs).filter (·.2)).map (·.1)).map cd2).Pairwise (· < ·):=by
 have h:=eU ok
 rw[<-kg,<-Ho hs gs] at h
 exact h.sublist ((QaR.map _).map _)
theorem Ow {c:Sp3} {z:Str} (hz:¬z="short") (ok:CW loops) (kg:gs.map (·.1)=up (gtL loops) loops.length):((Bq (Bo loops c z) gs).filter (·.2)).map (·.1)=[]:=by
 refine List.eq_nil_iff_forall_not_mem.mpr λg h=>?_
 have:=(Sw.mp ((Vp ok kg).mp h)).2
 rw[WK hz] at this
 cases this
theorem gQ (hk:loops[k]?=some ps) (oks:CW loops) (ok:OkL ps) (hin:InL ps a0 n0) (kg:gs.map (·.1)=up (gtL loops) loops.length) (b:Btw ps a0 F L):((Bq (Bo loops ⟨k,a0,n0⟩ "short") gs).filter (·.2)).map (·.1)=[⟨k,F⟩,⟨k,L⟩]:=by
 refine M9 (c:=cd2) (bO oks kg) ?_ λg=>?_
 ·have:=b.fa
  have:=b.la
  refine List.pairwise_cons.mpr ⟨λz hz=>?_,Qat ..⟩
  rw[QaX.mp hz]
  show (k:Int)*100+F < (k:Int)*100+L
  omega
 ·rw[Vp oks kg]
  obtain⟨lp,y⟩:=g
  by_cases e:lp=(k:Int)
  ·subst e
   rw[Qe hk ok hin kg b]
   constructor
   ·rintro (rfl | rfl)
    ·exact QaT
    ·exact QaG _ QaT
   ·intro h
    rcases QbX.mp h with h | h
    ·injection h with _ h;exact .inl h
    ·have:=QaX.mp h
     injection this with _ h;exact .inr h
  ·constructor
   ·intro h
    have:=(Sw.mp h).2
    rw[Ql (by exact e)] at this
    cases this
   ·intro h
    rcases QbX.mp h with h | h
    ·injection h with h _;exact absurd h e
    ·have:=QaX.mp h
     injection this with h _;exact absurd h e
end
section
variable {loops:YU} {j:Nat} {ps:List Place} {gs:YT} {x m:Int}
def U5 (loops:YU) (c:Sp3) (z:Str) (gs:YT) (j n:Nat) (s:Sp3):Prop:=s∈Dv (Bo loops c z) (Bq (Bo loops c z) gs) (fl0 loops) j n "A"\/s∈Dv (Bo loops c z) (Bq (Bo loops c z) gs) (fl0 loops) j n "B"
theorem nT (hk:loops[j]?=some ps) (ok:OkL ps) (dv:DvL ps x m) (c:Sp3):(⟨j,x,m⟩ : Sp3)∈Dv (Bo loops c "whole") (Bq (Bo loops c "whole") gs) (fl0 loops) j ps.length "A"/\(⟨j,x,m⟩ : Sp3)∈Dv (Bo loops c "whole") (Bq (Bo loops c "whole") gs) (fl0 loops) j ps.length "B":=
 ⟨(Vb hk ok dv (.inl (by decide))).mpr ⟨λ_ _ _ h=>absurd h.2 (by decide),λ_ _ _ h=>absurd h.2 (by decide)⟩,(gK hk ok dv (.inl (by decide))).mpr ⟨λ_ _ _ h=>absurd h.2 (by decide),λ_ _ _ h=>absurd h.2 (by decide)⟩⟩
theorem nU (hk:loops[j]?=some ps) (ok:OkL ps) (dv:DvL ps x m) {c:Sp3} {z:Str} (hl:¬(j:Int)=c.lp):U5 loops c z gs j ps.length ⟨j,x,m⟩:=
 .inl ((Vb hk ok dv (.inr hl)).mpr ⟨λy _ _ h=>hl (by rw[<-h.1]),λt _ _ h=>hl (by rw[<-h.1])⟩)
theorem rP (hk:loops[j]?=some ps) (ok:OkL ps) (dv:DvL ps x m) (a0:Int):U5 loops ⟨j,a0,0⟩ "cut" gs j ps.length ⟨j,x,m⟩:=by
 by_cases e:x<=a0
 ·refine .inl ((Vb hk ok dv (.inl (by decide))).mpr ⟨λy q q' h=>?_,λt q q' h=>?_⟩)
  ·have:=h.1;injection this with _ h _;omega
  ·have:=h.1;injection this with _ _ h;omega
 ·refine .inr ((gK hk ok dv (.inl (by decide))).mpr ⟨λy q q' h=>?_,λt q q' h=>?_⟩)
  ·have:=h.1;injection this with _ h _;omega
  ·have:=h.1;injection this with _ _ h;omega
theorem fO (hk:loops[j]?=some ps) (ok:OkL ps) (dv:DvL ps x m) {a0 n0:Int} (hn:1<=n0):U5 loops ⟨j,a0,n0⟩ "cut" gs j ps.length ⟨j,x,m⟩ ↔ ¬(x=a0/\n0<=m):=by
 constructor
 ·rintro h ⟨rfl,hm⟩
  rcases h with h | h
  ·exact ((Vb hk ok dv (.inl (by decide))).mp h).2 n0 hn hm ⟨rfl,rfl⟩
  ·exact ((gK hk ok dv (.inl (by decide))).mp h).2 n0 hn hm ⟨rfl,rfl⟩
 ·intro h
  refine .inl ((Vb hk ok dv (.inl (by decide))).mpr ⟨λy q q' e=>?_,λt q q' e=>?_⟩)
  ·have:=e.1;injection this with _ _ e;omega
  ·have:=e.1;injection this with _ e1 e2
   exact h ⟨e1,by omega⟩
theorem X5 (hk:loops[j]?=some ps) (ok:OkL ps) (dv:DvL ps x m) {a0 n0 F L:Int} (hin:InL ps a0 n0) (kg:gs.map (·.1)=up (gtL loops) loops.length) (b:Btw ps a0 F L):U5 loops ⟨j,a0,n0⟩ "short" gs j ps.length ⟨j,x,m⟩ ↔ ¬(F < x/\x < L):=by
 unfold U5
 rw[xV hk ok hin kg b dv,xU hk ok hin kg b dv]
 omega
theorem zW {ps:List Place} {a0 F L:Int} (b:Btw ps a0 F L) {x n:Int} (h1:F < x) (h2:x < L):DvL ps x n ↔ InL ps x n:=by
 have hg:¬IsG ps x:=by
  by_cases e:x<=a0
  ·exact b.fn x h1 e
  ·exact b.ln x (by omega) h2
 constructor
 ·exact DvL.in_
 ·rintro (⟨rfl,rfl⟩|⟨i,p,e,rfl,h3,h4⟩)
  ·exact absurd (.inl rfl) hg
  ·exact⟨i,p,e,rfl,h3,h4,λho=>hg (.inr (.inr ⟨i,p,e,rfl,ho⟩))⟩
end
abbrev KD:Stmt:=top 53
abbrev Ik:YF:=["_law_places","_law_loop_here","_law_stretch"]
theorem Dr:Ax ["_law_places","_law_loop_here","_law_stretch","_law_first","_law_last","_law_spots","_law_at"] Ik (Aj KD):=⟨rfl,rfl,rfl,by trivial,rfl,by trivial,by trivial⟩
def bD (ps:List Place) (k F L:Nat):YV:=up (λi=>st1 (k:Int) ps (F+i)) (L - (F+1))
def tO:Sp:=λvs H Q _=>∃(tp ts:Addr) (k:Nat) (ps:List Place) (us:YG) (a0 n0:Int),vs=[.ref tp,.int (k:Int),.ref ts]/\H tp=some (.tup us)/\Paired (Dl H) us ps/\OkL ps/\H ts=some (.tup [.int (k:Int),.int a0,.int n0])/\InL ps a0 n0 /\
 ∀t lg ls xs ys (F L:Nat) H',H' t=some (.tup [.ref lg,.ref ls])->H' lg=some (.lst xs)->H' ls=some (.lst ys)->Paired (Eh H') xs [⟨(k:Int),(F:Int)⟩,⟨(k:Int),(L:Int)⟩]->Paired (BX H') ys (bD ps k F L)->Btw ps a0 F L->Same H H'->Q (.ref t) H'
theorem Vw {ps:List Place} {i:Nat} {p:Place} (h:ps[i]?=some p):IsG ps ((i:Int)+1) ↔ V.str p.kind=V.str "opener":=by
 have hl:=GC h
 constructor
 ·rintro (z | z |⟨j,q,e,z,g⟩)
  ·omega
  ·omega
  ·have:j=i:=by omega
   subst this
   rw[h] at e
   cases e
   exact g
 ·exact λg=>.inr (.inr ⟨i,p,h,rfl,g⟩)
section
variable {P:Program} {w:World} {K:YD} {mg:YB} {base:Heap} {op oe kd wk C:Addr}
theorem iD (c:Code K mg "_law_between" KD Ik) (T:Tw K mg op oe kd wk C):Good P w K mg base "_law_between" 1 Ik tO:=by
 have sc:=Dr
 refine c.good Dr (λvs H Q E h=>?_) (λf cdv A outer s H vs Q E hr h=>?_)
 ·obtain⟨tp,ts,k,ps,us,a0,n0,rfl,_⟩:=h
  rfl
 obtain⟨tp,ts,k,ps,us,a0,n0,rfl,htp,hpp,ok,hts,hin,q⟩:=h
 refine⟨_,(Af (Ba (i:=3) Dr.nd rfl (Or.inl rfl) (Bh Bu (pv 2) Ad (λ_ _=>rfl)))
 (Af (Ba (i:=4) Dr.nd rfl (Or.inl rfl) (Bc Ca (pv 3) Ad))
 (Af (Ci (Bj Qf (Bh Bu (pv 2) Ad (λ_ _=>rfl)) Ad (Br _)) (Ai (Ba (i:=4) Dr.nd rfl (Or.inl rfl) (pv 3))) BK)
 (Af (Qc QbE (PW.pt (Rj (Bj Qf (pv 3) Ad (Br _)) (Pa (Bj Vj (Bh Bu (Bh Bu (pv 0) (Bc Nu (pv 3) Ad) (λ_ _=>rfl)) Ad (λ_ _=>rfl)) Bt (Br _))))) (Ai (Ba (i:=3) Dr.nd rfl (Or.inl rfl) (Bc Nu (pv 3) Ad))))
 (Af (Qc QbE (PW.pt (Rj (Bj Mp (pv 4) (Az Bl rfl T.len Cz (Aa (pv 0) Ac)) (Br _)) (Pa (Bj Vj (Bh Bu (Bh Bu (pv 0) (Bc Nu (pv 4) Ad) (λ_ _=>rfl)) Ad (λ_ _=>rfl)) Bt (Br _))))) (Ai (Ba (i:=4) Dr.nd rfl (Or.inl rfl) (Bc Ca (pv 4) Ad))))
 (Af (Ba (i:=5) Dr.nd rfl (Or.inl rfl) (BZ Ac))
 (Af (Cj QbE rfl (Xw rfl T.range (Aa (Bc Ca (pv 3) Ad) (Aa (pv 4) Ac))) (Ah (i:=6) Dr.nd rfl (Or.inr rfl))
 (Ai (Bs (CK Qap Qan Qao Ew (pv 5) (Aa (Cg (N':=["_law_way","_law_loop_here","_law_at"]) rfl (Bg.of (src:=[none,some 1,some 6]) (Aj KD) ["_law_places","_law_loop_here","_law_stretch","_law_first","_law_last","_law_spots","_law_at"] rfl rfl rfl (by trivial) (by trivial) (by trivial) rfl (by trivial)) (DG rfl T.range (Aa (Bc Ca (Az Bl rfl T.len Cz (Aa (Bh Bu (Bh Bu (pv 0) (Bc Nu (pv 6) Ad) (λ_ _=>rfl)) Ad (λ_ _=>rfl)) Ac)) Ad) Ac)) (λ_ _ _ _=>(Ah (i:=0) (show List.Nodup (["_law_way","_law_loop_here","_law_at"]:YF) by trivial) rfl (Or.inl rfl))) (λ_ _ _ _=>CQ) (λ_ _ _ _=>(Bd (Aa (pv 1) (Aa (pv 2) (Aa (pv 0) Ac)))))) Ac)))))
 (Ai (Ay (Bd (Aa (BZ (Aa (Bd (Aa (pv 1) (Aa (pv 3) Ac))) (Aa (Bd (Aa (pv 1) (Aa (pv 4) Ac))) Ac))) (Aa (pv 5) Ac)))))))))))),?_⟩
 have lv:=QbW hpp
 have l12:=ok.hi
 obtain⟨a00,a01,n00⟩:=hin.lo
 obtain⟨a,rfl⟩ : ∃a:Nat,a0=(a:Int):=⟨a0.toNat,(QaO a00).symm⟩
 have rd:∀j:Nat,j < ps.length->∃p tj uj wj,ps[j]?=some p/\atI us (j:Int)=some (.ref tj)/\H tj=some (.tup [.str p.kind,.int p.addr,.ref uj])/\H uj=some (.tup wj)/\wj.length=p.spur.length:=λj hj=>by
  have hvj:us[j]?=some us[j]:=Qak (by omega)
  obtain⟨p,hp,tj,uj,wj,ep,h1,h2,h3⟩:=Paired.Ce hpp hvj
  exact⟨p,tj,uj,wj,hp,Gu (by rw[hvj,ep]),h1,h2,QbW h3⟩
 refine⟨_,rfl,ts,_,_,_,rfl,rfl,SqT.of hts,rfl,_,rfl,_,_,rfl,rfl,?_⟩
 refine qW ?_
 dsimp only
 show Ao (Ga _ _ _) _ _ _ _
 refine Hi (fun σ HH=>HH=H/\∃b:Nat,σ=[some (.ref tp),some (.int (k:Int)),some (.ref ts),some (.int (a:Int)),some (.int (b:Int)),none,none]/\(a<=b/\b<=a+1)/\b<=ps.length+1/\(b=a->¬IsG ps (a:Int))) (fun σ HH h=>?_) (λD' hn=>?_)
 rotate_left 1
 ·refine⟨_,rfl,ts,_,_,_,rfl,rfl,SqT.of hts,rfl,_,_,rfl,rfl,_,rfl,Fg (λh0=>?_) (λh0=>?_)⟩
  ·have h0:(0:Int) < n0:=Qbj h0
   exact⟨_,rfl,hn _ _ ⟨rfl,a,rfl,⟨Qcn _,Qct _⟩,by omega,λ_=>O9 ok hin (by omega)⟩⟩
  ·exact hn _ _ ⟨rfl,a+1,rfl,⟨Qct _,Qcn _⟩,by omega,λz=>by omega⟩
 obtain⟨rfl,b,rfl,hb,hb',hbg⟩:=h
 show Ao (QX _ _) _ _ _ _
 refine Hi (fun σ HI=>HI=HH/\∃F:Nat,σ=[some (.ref tp),some (.int (k:Int)),some (.ref ts),some (.int (F:Int)),some (.int (b:Int)),none,none]/\F<=a/\IsG ps (F:Int)/\∀y:Int,(F:Int) < y->y<=(a:Int)->¬IsG ps y) (fun σ HI h=>?_) (λD' hn=>?_)
 rotate_left 1
 ·refine⟨λm σ HI=>HI=HH/\m<=a/\σ=[some (.ref tp),some (.int (k:Int)),some (.ref ts),some (.int (m:Int)),some (.int (b:Int)),none,none]/\∀y:Int,(m:Int) < y->y<=(a:Int)->¬IsG ps y,⟨a,rfl,Qcn _,rfl,λy h1 h2=>by omega⟩,λm σ HI h=>?_⟩
  obtain⟨rfl,ma,rfl,hno⟩:=h
  refine⟨_,rfl,_,_,rfl,rfl,_,rfl,Fg (λh0=>?_) (λh0=>?_)⟩
  ·have h0:(0:Int) < (m:Int):=Qbj h0
   obtain⟨m',rfl⟩ : ∃m',m=m'+1:=⟨m - 1,by omega⟩
   obtain⟨p,tj,uj,wj,hp,ha,h1,h2,h3⟩:=rd m' (by omega)
   have ha:atI us (((m'+1:Nat):Int) - 1)=some (.ref tj):=by rw[show ((m'+1:Nat):Int) - 1=(m':Int) by omega];exact ha
   refine⟨_,rfl,_,rfl,_,_,rfl,rfl,tp,_,_,_,rfl,rfl,SqT.of htp,ha,tj,_,_,_,rfl,rfl,SqT.of h1,rfl,rfl,_,rfl,Fg (λh5=>?_) (λh5=>?_)⟩
   ·refine⟨_,fun σ' H' h=>⟨m',Qby _,h⟩,_,rfl,_,_,rfl,rfl,rfl,by omega,?_,λy y1 y2=>?_⟩
    ·rw[<-show ((m'+1:Nat):Int) - 1=(m':Int) by omega];rfl
    ·by_cases e:y=((m'+1:Nat):Int)
     ·subst e
      intro z
      rw[show ((m'+1:Nat):Int)=(m':Int)+1 by omega,Vw hp] at z
      rw[z] at h5
      exact absurd h5 (by trivial)
     ·exact hno y (by omega) y2
   ·refine hn _ _ ⟨rfl,m'+1,rfl,ma,?_,hno⟩
    rw[show ((m'+1:Nat):Int)=(m':Int)+1 by omega,Vw hp]
    exact Qbj (by simpa using h5)
  ·have h0:=Qbe h0
   have:m=0:=by omega
   subst this
   exact Cd (hn _ _ ⟨rfl,0,rfl,ma,.inl rfl,hno⟩)
 obtain⟨rfl,F,rfl,Fa,FG,Fn⟩:=h
 show Ao (QX _ _) _ _ _ _
 refine Hi (fun σ HH=>HH=HI/\∃L:Nat,σ=[some (.ref tp),some (.int (k:Int)),some (.ref ts),some (.int (F:Int)),some (.int (L:Int)),none,none]/\a < L/\L<=ps.length+1/\IsG ps (L:Int)/\∀y:Int,(a:Int) < y->y < (L:Int)->¬IsG ps y) (fun σ HH h=>?_) (λD' hn=>?_)
 rotate_left 1
 ·refine⟨λm σ HH=>HH=HI/\∃L:Nat,L+m=ps.length+1/\a<=L/\(L=a->¬IsG ps (a:Int))/\σ=[some (.ref tp),some (.int (k:Int)),some (.ref ts),some (.int (F:Int)),some (.int (L:Int)),none,none]/\∀y:Int,(a:Int) < y->y < (L:Int)->¬IsG ps y,⟨ps.length+1 - b,rfl,b,by omega,hb.1,hbg,rfl,λy h1 h2=>by omega⟩,λm σ HH h=>?_⟩
  obtain⟨rfl,L,Lm,La,Lg,rfl,hno⟩:=h
  refine⟨_,rfl,_,rfl,tp,_,rfl,.inr (SqT.of htp),_,_,rfl,rfl,_,rfl,Fg (λh0=>?_) (λh0=>?_)⟩
  ·have h0:(L:Int)<=(us.length:Int):=Qbj h0
   have L1:1<=L:=by
    by_cases e:L=0
    ·exact absurd (.inl (by omega)) (Lg (by omega))
    ·omega
   obtain⟨j,rfl⟩ : ∃j,L=j+1:=⟨L - 1,by omega⟩
   obtain⟨p,tj,uj,wj,hp,ha,h1,h2,h3⟩:=rd j (by omega)
   have ha:atI us (((j+1:Nat):Int) - 1)=some (.ref tj):=by rw[show ((j+1:Nat):Int) - 1=(j:Int) by omega];exact ha
   refine⟨_,rfl,_,rfl,_,_,rfl,rfl,tp,_,_,_,rfl,rfl,SqT.of htp,ha,tj,_,_,_,rfl,rfl,SqT.of h1,rfl,rfl,_,rfl,Fg (λh5=>?_) (λh5=>?_)⟩
   ·obtain⟨m',rfl⟩ : ∃m',m=m'+1:=⟨m - 1,by omega⟩
    refine⟨_,fun σ' H' h=>⟨m',Qby _,h⟩,_,rfl,_,_,rfl,rfl,rfl,j+1+1,by omega,by omega,(λz=>by omega),rfl,λy y1 y2=>?_⟩
    by_cases e:y=((j+1:Nat):Int)
    ·subst e
     intro z
     rw[show ((j+1:Nat):Int)=(j:Int)+1 by omega,Vw hp] at z
     rw[z] at h5
     exact absurd h5 (by trivial)
    ·exact hno y y1 (by omega)
   ·have hG:IsG ps ((j+1:Nat):Int):=by
     rw[show ((j+1:Nat):Int)=(j:Int)+1 by omega,Vw hp]
     exact Qbj (by simpa using h5)
    have:a≠j+1:=λz=>Lg z.symm (by rw[z];exact hG)
    exact hn _ _ ⟨rfl,j+1,rfl,by omega,by omega,hG,hno⟩
  ·have h0:=Qbe h0
   have:L=ps.length+1:=by omega
   exact Cd (hn _ _ ⟨rfl,L,rfl,by omega,by omega,.inr (.inl (by omega)),hno⟩)
 obtain⟨rfl,L,rfl,aL,L1,LG,Ln⟩:=h
 refine⟨Ar (by show 0<=1000;decide),λl hl=>?_⟩
 have n1:=Ae hl (.lst [])
 refine⟨_,rfl,_,_,rfl,rfl,_,rfl,_,_,rfl,⟨by omega,by omega,by omega,by omega⟩,?_⟩
 rw[show ((L:Int) - ((F:Int)+1)).toNat=L - (F+1) by omega]
 refine FP (λi σ HJ=>∃u,σ=[some (.ref tp),some (.int (k:Int)),some (.ref ts),some (.int (F:Int)),some (.int (L:Int)),some (.ref l),u]/\(∃ys,HJ l=some (.lst ys)/\Paired (BX HJ) ys (up (λi=>st1 (k:Int) ps (F+i)) i))/\Same HH HJ) ⟨_,rfl,⟨_,Ab,.nil⟩,n1⟩ (λi σ HJ hi h=>?_) (fun σ HJ h=>?_)
 ·obtain⟨u,rfl,⟨ys,hyj,pj⟩,sj⟩:=h
  obtain⟨p,tj,uj,wj,hp,ha,h1,h2,h3⟩:=rd (F+i) (by omega)
  have ha:atI us (((F:Int)+1+(i:Int)) - 1)=some (.ref tj):=by rw[show ((F:Int)+1+(i:Int)) - 1=((F+i:Nat):Int) by omega];exact ha
  have ej:st1 (k:Int) ps (F+i)=(List.range (p.spur.length+1)).map λn:Nat=>⟨(k:Int),((1+(F+i):Nat):Int),(n:Int)⟩:=Cw hp
  have lj:=Ez (f:=λi=>st1 (k:Int) ps (F+i)) (c:=4) (λi=>Wd ok.ok (F+i)) i
  have lys:=QbW pj
  have hsp:=(ok.ok p (QaF hp)).spur
  refine⟨_,rfl,.inl ⟨rfl,_,SqL.of hyj⟩,_,rfl,_,rfl,_,_,rfl,rfl,tp,_,_,_,rfl,rfl,SqT.of (sj _ _ htp),ha,tj,_,_,_,rfl,rfl,SqT.of (sj _ _ h1),rfl,uj,_,rfl,.inr (SqT.of (sj _ _ h2)),_,_,rfl,rfl,_,rfl,by omega,by omega,λl2 hl3=>?_⟩
  rw[show ((wj.length:Int)+1).toNat=p.spur.length+1 by omega]
  refine JX (λn σ HC=>∃(u:Option V) (zs:YG),σ=[u,some (.int (k:Int)),some (.int ((F:Int)+1+(i:Int)))]/\HC l2=some (.lst zs)/\Same HJ HC/\Paired (BX HC) zs ((List.range n).map λn:Nat=>⟨(k:Int),((1+(F+i):Nat):Int),(n:Int)⟩)) ⟨none,[],rfl,Ab,Ae hl3 _,.nil⟩ (λn σ HC hn h=>?_) (fun σ HC h=>?_)
  ·obtain⟨u,zs,rfl,c1,c2,c3⟩:=h
   refine⟨_,rfl,_,rfl,_,rfl,Ar (by show 3<=1000;decide),λtq htq=>?_⟩
   rw[show (F:Int)+1+(i:Int)=((1+(F+i):Nat):Int) by omega]
   have s3:=Ae htq (.tup [.int (k:Int),.int ((1+(F+i):Nat):Int),.int (0+(n:Int))])
   have c1':=s3 _ _ c1
   have lz:=QbW c3
   rw[QbB,Qbq] at lz
   have n1:∀zs',(upd HC tq (.tup [.int (k:Int),.int ((1+(F+i):Nat):Int),.int (0+(n:Int))])) l2≠some (.tup zs'):=λzs' z=>by rw[c1'] at z;cases z
   have t4:=Al.upd (o:=.lst (zs++[.ref tq])) n1
   refine⟨_,c1',Aq (by omega),_,zs++[.ref tq],rfl,Ab,(c2.trans s3).Bm Ag.upd hl3,?_⟩
   rw[List.range_succ,QbD]
   refine Qcp ⟨tq,rfl,?_⟩ (Paired.Av c3 λ_ _ z=>(z.tups (Al.of s3)).tups t4)
   refine t4 _ _ ?_
   rw[Ab,Int.zero_add]
  obtain⟨u,zs,rfl,c1,c2,c3⟩:=h
  have lz:=QbW c3
  rw[QbB,Qbq] at lz
  have hyC:=c2 _ _ hyj
  refine⟨l,l2,_,_,rfl,rfl,hyC,c1,Ar (by omega),?_⟩
  have n2:∀zs',HC l≠some (.tup zs'):=λzs' z=>by rw[hyC] at z;cases z
  have t5:=Al.upd (o:=.lst (ys++zs)) n2
  refine⟨_,rfl,⟨ys++zs,Ab,?_⟩,(sj.trans c2).Bm Ag.upd hl⟩
  rw[Ey,ej]
  exact Paired.app (Paired.Av pj λ_ _ z=>(z.tups (Al.of c2)).tups t5) (Paired.Av c3 λ_ _ z=>z.tups t5)
 obtain⟨u,rfl,⟨ys,hyj,pj⟩,sj⟩:=h
 refine⟨_,rfl,_,rfl,Ar (by show 2<=1000;decide),λg1 hg1=>?_⟩
 have k1:=Ae hg1 (.tup [.int (k:Int),.int (F:Int)])
 refine⟨_,rfl,_,rfl,Ar (by show 2<=1000;decide),λg2 hg2=>?_⟩
 have k2:=Ae hg2 (.tup [.int (k:Int),.int (L:Int)])
 refine⟨Ar (by show 2<=1000;decide),λlg hlg=>?_⟩
 have k3:=Ae hlg (.lst [.ref g1,.ref g2])
 refine⟨_,rfl,Ar (by show 2<=1000;decide),λt ht=>?_⟩
 have k4:=Ae ht (.tup [.ref lg,.ref l])
 have s4:=((k1.trans k2).trans k3).trans k4
 refine q t lg l _ ys F L _ Ab (k4 _ _ Ab) (s4 _ _ hyj) (.cons ⟨g1,rfl,k4 _ _ (k3 _ _ (k2 _ _ Ab))⟩ (.cons ⟨g2,rfl,k4 _ _ (k3 _ _ Ab)⟩ .nil)) (Paired.Av pj λ_ _ z=>z.tups (Al.of s4)) ⟨FG,by omega,Fn,LG,by omega,Ln⟩ (sj.trans s4)
end
abbrev Sv:Stmt:=top 55
abbrev Pk:YF:=["_law_plan_here","_law_stretch","_law_how"]
theorem Hj:Ax ["_law_plan_here","_law_stretch","_law_how","_law_loop_here","_law_at","_law_way","_law_places","_law_gates","_law_spots"] Pk (Aj Sv):=⟨rfl,rfl,rfl,by trivial,rfl,by trivial,by trivial⟩
def RL (k a n m:Nat):YV:=(List.range m).map λi:Nat=>⟨(k:Int),(a:Int),(n:Int)+(i:Int)⟩
def uG (ps:List Place) (k:Nat) (a0 n0:Int) (z:Str) (S:YV) (G:List Gt):Prop:=
 (z="short"/\∃F L:Nat,Btw ps a0 F L/\S=bD ps k F L/\G=[⟨(k:Int),(F:Int)⟩,⟨(k:Int),(L:Int)⟩]) \/
 (z="cut"/\G=[]/\((n0=0/\S=[])\/∃(i n:Nat) (p:Place),ps[i]?=some p/\a0=((i+1:Nat):Int)/\n0=(n:Int)/\1<=n/\n<=p.spur.length/\S=RL k (i+1) n (p.spur.length+1 - n)))
def tL:Sp:=λvs H Q _=>∃(pl ts:Addr) (most:Int) (loops:YU) (zones:List Zone) (k:Nat) (ps:List Place) (a0 n0:Int) (z:Str),vs=[.ref pl,.ref ts,.str z]/\FT H pl most loops zones/\loops[k]?=some ps/\H ts=some (.tup [.int (k:Int),.int a0,.int n0])/\InL ps a0 n0/\(z="cut"\/z="short") /\
 ∀t l1 l2 xs ys S G H',H' t=some (.tup [.ref l1,.ref l2])->H' l1=some (.lst xs)->H' l2=some (.lst ys)->Paired (BX H') xs S->Paired (Eh H') ys G->uG ps k a0 n0 z S G->Same H H'->Q (.ref t) H'
section
variable {P:Program} {w:World} {K:YD} {mg:YB} {base:Heap} {op oe kd wk C:Addr}
theorem yC (c:Code K mg "_law_due" Sv Pk) (T:Tw K mg op oe kd wk C) (cj:Good P w K mg base "_law_between" 1 Ik tO):Good P w K mg base "_law_due" 2 Pk tL:=by
 have sc:=Hj
 refine c.good Hj (λvs H Q E h=>?_) (λf cdv A outer s H vs Q E hr h=>?_)
 ·obtain⟨pl,ts,most,loops,zones,k,ps,a0,n0,z,rfl,_⟩:=h
  rfl
 obtain⟨pl,ts,most,loops,zones,k,ps,a0,n0,z,rfl,pa,hps,hts,hin,hz,q⟩:=h
 refine⟨_,(Af (Gj (pv 1) (Cv rfl (Ak (Ah (i:=3) Hj.nd rfl (Or.inr rfl)) (Ak (Ah (i:=4) Hj.nd rfl (Or.inr rfl)) (Ak (Ah (i:=5) Hj.nd rfl (Or.inl rfl)) Bp)))))
 (Af (Ba (i:=6) Hj.nd rfl (Or.inl rfl) (Bh Bu (Bh Bu (pv 0) Ad (λ_ _=>rfl)) (pv 3) (λ_ _=>rfl)))
 (Af (Gj (Aw cj hr (Aa (pv 6) (Aa (pv 3) (Aa (pv 1) Ac)))) (Cv rfl (Ak (Ah (i:=7) Hj.nd rfl (Or.inl rfl)) (Ak (Ah (i:=8) Hj.nd rfl (Or.inl rfl)) Bp))))
 (Af (Ci (Bj G7 (pv 2) Bt (Br _)) (Ai (Ay (Bd (Aa (pv 8) (Aa (pv 7) Ac))))) BK)
 (Af (Ci (Bj G7 (pv 5) Ad (Br _)) (Ai (Ay (Bd (Aa (BZ Ac) (Aa (BZ Ac) Ac))))) BK)
 (Ai (Ay (Bd (Aa (Cg (N':=["_law_more","_law_loop_here","_law_at"]) rfl (Bg.of (src:=[none,some 3,some 4]) (Aj Sv) ["_law_plan_here","_law_stretch","_law_how","_law_loop_here","_law_at","_law_way","_law_places","_law_gates","_law_spots"] rfl rfl rfl (by trivial) (by trivial) (by trivial) rfl (by trivial)) (Xw rfl T.range (Aa (pv 5) (Aa (Bc Ca (Az Bl rfl T.len Cz (Aa (Bh Bu (Bh Bu (pv 6) (Bc Nu (pv 4) Ad) (λ_ _=>rfl)) Ad (λ_ _=>rfl)) Ac)) Ad) Ac))) (λ_ _ _ _=>(Ah (i:=0) (show List.Nodup (["_law_more","_law_loop_here","_law_at"]:YF) by trivial) rfl (Or.inl rfl))) (λ_ _ _ _=>CQ) (λ_ _ _ _=>(Bd (Aa (pv 1) (Aa (pv 2) (Aa (pv 0) Ac)))))) (Aa (BZ Ac) Ac)))))))))),?_⟩
 show let R0:TS:=_;let R1:TS:=_;let R2:TS:=Ao (Ga _ R1 _) R0;let R3:TS:=_;let R4:TS:=Ao (Ga _ R3 _) R2;let R5:TS:=Ao _ R4;let R6:TS:=Ao _ R5;Ao _ R6 _ _ _
 intro R0 R1 R2 R3 R4 R5 R6
 have ok:=pa.ok
 obtain⟨Ls,zs,ws,zvs,f1,f2,f3,f4,f5⟩:=pa.at_
 have lw:=QbW f3
 have hkl:=(Qag.mp hps).1
 have hwk:ws[k]?=some ws[k]:=Qak (by omega)
 obtain⟨ps',Ry,t,vs',ev,ht,hpp⟩:=Paired.Ce f3 hwk
 rw[hps] at Ry
 cases Ry
 have lv:=QbW hpp
 have okl:=ok.ok ps (QaF hps)
 have l12:=okl.hi
 have qU:atI ws (k:Int)=some (.ref t):=Gu (by rw[hwk,ev])
 refine⟨_,rfl,ts,_,rfl,SqT.of hts,rfl,_,_,rfl,_,_,rfl,_,_,rfl,rfl,?_⟩
 refine⟨_,rfl,pl,_,_,_,rfl,rfl,SqT.of f1,rfl,_,rfl,Ls,_,_,_,rfl,rfl,SqT.of f2,qU,?_⟩
 refine⟨_,rfl,_,rfl,_,rfl,t,ts,k,ps,vs',a0,n0,rfl,ht,hpp,okl,hts,hin,λtr lg ls xs ys F L H1 htr hlg hls pg psS B s1=>⟨tr,_,rfl,SqT.of htr,rfl,_,_,rfl,_,_,rfl,rfl,?_⟩⟩
 refine⟨_,rfl,rfl,_,rfl,Fg (λh0=>?_) (λh0=>?_)⟩
 ·have h0:z="short":=V.str.inj (Qbj h0)
  refine⟨_,rfl,_,rfl,Ar (by show 2<=1000;decide),λtq htq=>?_⟩
  have k4:=Ae htq (.tup [.ref ls,.ref lg])
  exact q tq ls lg ys xs _ _ _ Ab (k4 _ _ hls) (k4 _ _ hlg) (Paired.Av psS λ_ _ z=>z.tups (Al.of k4)) (Paired.Av pg λ_ _ z=>z.tups (Al.of k4)) (.inl ⟨h0,F,L,B,rfl,rfl⟩) (s1.trans k4)
 have zB:z="cut":=by
  rcases hz with e | e
  ·exact e
  ·exact absurd (by rw[e]) (Qbe h0)
 refine⟨_,rfl,rfl,_,rfl,Fg (λh1=>?_) (λh1=>?_)⟩
 ·have h1:n0=0:=V.int.inj (Qbj h1)
  refine⟨Ar (by show 0<=1000;decide),λla hla=>⟨Ar (by show 0<=1000;decide),λlb hlb=>⟨Ar (by show 2<=1000;decide),λtq htq=>?_⟩⟩⟩
  have k1:=Ae hla (.lst [])
  have k2:=Ae hlb (.lst [])
  have k3:=Ae htq (.tup [.ref la,.ref lb])
  exact q tq la lb [] [] [] [] _ Ab (k3 _ _ (k2 _ _ Ab)) (k3 _ _ Ab) .nil .nil (.inr ⟨zB,rfl,.inl ⟨h1,rfl⟩⟩) (((s1.trans k1).trans k2).trans k3)
 have h1:¬n0=0:=λe=>Qbe h1 (by rw[e])
 obtain⟨i,p,hp,ea,n1,n2⟩ : ∃(i:Nat) (p:Place),ps[i]?=some p/\a0=(i:Int)+1/\0<=n0/\n0<=(p.spur.length:Int):=by
  rcases hin with⟨_,e⟩| e
  ·exact absurd e h1
  ·exact e
 obtain⟨n,rfl⟩ : ∃n:Nat,n0=(n:Int):=⟨n0.toNat,(QaO n1).symm⟩
 have hil:=GC hp
 have hvj:vs'[i]?=some vs'[i]:=Qak (by omega)
 obtain⟨p',hp',tj,uj,wj,ep,j1,j2,j3⟩:=Paired.Ce hpp hvj
 rw[hp] at hp'
 cases hp'
 have lwj:=QbW j3
 have hsp:=(okl.ok p (QaF hp)).spur
 have ha:atI vs' (a0 - 1)=some (.ref tj):=by rw[show a0 - 1=(i:Int) by omega];exact Gu (by rw[hvj,ep])
 refine⟨_,rfl,_,rfl,_,rfl,_,_,rfl,rfl,t,_,_,_,rfl,rfl,SqT.of (s1 _ _ ht),ha,tj,_,_,_,rfl,rfl,SqT.of (s1 _ _ j1),rfl,uj,_,rfl,.inr (SqT.of (s1 _ _ j2)),_,_,rfl,rfl,_,_,rfl,⟨by omega,by omega,by omega,by omega⟩,λl2 hl2=>?_⟩
 rw[show ((wj.length:Int)+1 - (n:Int)).toNat=p.spur.length+1 - n by omega,show a0=((i+1:Nat):Int) by omega]
 let J0:YN:=λm σ HC=>∃(u:Option V) (zs:YG),σ=[u,some (.int (k:Int)),some (.int ((i+1:Nat):Int))]/\HC l2=some (.lst zs)/\Same H1 HC/\Paired (BX HC) zs (RL k (i+1) n m)
 refine JX J0 ⟨none,[],rfl,Ab,Ae hl2 _,.nil⟩ (λm σ HC hm h=>?_) (fun σ HC h=>?_)
 ·obtain⟨u,zs,rfl,c1,c2,c3⟩:=h
  refine⟨_,rfl,_,rfl,_,rfl,Ar (by show 3<=1000;decide),λtq htq=>?_⟩
  have s3:=Ae htq (.tup [.int (k:Int),.int ((i+1:Nat):Int),.int ((n:Int)+(m:Int))])
  have c1':=s3 _ _ c1
  have lz:=QbW c3
  unfold RL at lz
  rw[QbB,Qbq] at lz
  have nn:∀zs',(upd HC tq (.tup [.int (k:Int),.int ((i+1:Nat):Int),.int ((n:Int)+(m:Int))])) l2≠some (.tup zs'):=λzs' z=>by rw[c1'] at z;cases z
  have t4:=Al.upd (o:=.lst (zs++[.ref tq])) nn
  refine⟨_,c1',Aq (by omega),_,zs++[.ref tq],rfl,Ab,(c2.trans s3).Bm Ag.upd hl2,?_⟩
  unfold RL
  rw[List.range_succ,QbD]
  exact Qcp ⟨tq,rfl,t4 _ _ Ab⟩ (Paired.Av c3 λ_ _ z=>(z.tups (Al.of s3)).tups t4)
 obtain⟨u,zs,rfl,c1,c2,c3⟩:=h
 refine⟨Ar (by show 0<=1000;decide),λlb hlb=>⟨Ar (by show 2<=1000;decide),λtq htq=>?_⟩⟩
 have k2:=Ae hlb (.lst [])
 have k3:=Ae htq (.tup [.ref l2,.ref lb])
 exact q tq l2 lb zs [] _ [] _ Ab (k3 _ _ (k2 _ _ c1)) (k3 _ _ Ab) (Paired.Av c3 λ_ _ z=>z.tups (Al.of (k2.trans k3))) .nil (.inr ⟨zB,rfl,.inr ⟨i,n,p,hp,by omega,rfl,by omega,by omega,rfl⟩⟩) (((s1.trans c2).trans k2).trans k3)
end
abbrev Mi:Stmt:=top 54
abbrev JM:YF:=["_law_plan_here","_law_wires","_law_told"]
theorem Ih:Ax ["_law_plan_here","_law_wires","_law_told","_law_found","_law_loop_here","_law_heard"] JM (Aj Mi):=⟨rfl,rfl,rfl,by trivial,rfl,by trivial,by trivial⟩
def Hh (s:Sp3):PyData:=.tuple [.int s.lp,.int s.at_,.int s.n]
def gtD (g:Gt):PyData:=.tuple [.int g.lp,.int g.at_]
theorem Qp {H:Hp}:∀{vs:YG} {gs:List Gt},Paired (Eh H) vs gs->LR H vs (gs.map gtD)
 | _,_,.nil=>.nil
 | _,_,.cons ⟨t,e,h1⟩ r=>by
  subst e
  exact .cons (.tup h1 (.cons (.int _) (.cons (.int _) .nil))) (Qp r)
theorem eO:∀gs:List Gt,PyData.canLayAll0 (gs.map gtD)=true/\PyData.depthAll (gs.map gtD)<=2
 | []=>⟨rfl,by show 0<=2;decide⟩
 | d::r=>by
  have ih:=eO r
  refine⟨?_,?_⟩
  ·show ((true&&(true&&true))&&PyData.canLayAll0 (r.map gtD))=true
   rw[ih.1];rfl
  ·show max (max 0 (max 0 0)+1) (PyData.depthAll (r.map gtD))<=2
   exact Nat.max_le.mpr ⟨by decide,ih.2⟩
theorem JT (gs:List Gt):SeqAt.shaped (.list (gs.map gtD))=true:=by
 have h1:=eO gs
 show (PyData.canLayAll0 (gs.map gtD)&&decide (PyData.depthAll (gs.map gtD)+1<=64))=true
 rw[h1.1,Bool.true_and]
 exact QbR (by omega)
theorem Je {H:Hp}:∀{vs:YG} {ss:YV},Paired (BX H) vs ss->LR H vs (ss.map Hh)
 | _,_,.nil=>.nil
 | _,_,.cons ⟨t,e,h1⟩ r=>by
  subst e
  exact .cons (.tup h1 (.cons (.int _) (.cons (.int _) (.cons (.int _) .nil)))) (Je r)
theorem Xr {K:YD} {H:Hp}:∀{vs:YG} {ss:YV},Paired (BX H) vs ss->Jb K H vs (ss.map Hh)
 | _,_,.nil=>.nil
 | _,_,.cons ⟨t,e,h1⟩ r=>by
  subst e
  exact .cons (.tup (SqT.of h1) (.cons (.int _) (.cons (.int _) (.cons (.int _) .nil)))) (Xr r)
theorem Wf:∀ss:YV,PyData.canLayAll0 (ss.map Hh)=true/\PyData.depthAll (ss.map Hh)<=2
 | []=>⟨rfl,by show 0<=2;decide⟩
 | d::r=>by
  have ih:=Wf r
  refine⟨?_,?_⟩
  ·show ((true&&(true&&(true&&true)))&&PyData.canLayAll0 (r.map Hh))=true
   rw[ih.1];rfl
  ·show max (max 0 (max 0 (max 0 0))+1) (PyData.depthAll (r.map Hh))<=2
   exact Nat.max_le.mpr ⟨by decide,ih.2⟩
theorem Er (ss:YV):SeqAt.shaped (.list (ss.map Hh))=true:=by
 have h1:=Wf ss
 show (PyData.canLayAll0 (ss.map Hh)&&decide (PyData.depthAll (ss.map Hh)+1<=64))=true
 rw[h1.1,Bool.true_and]
 exact QbR (by omega)
theorem uQ (s t:Sp3):PyData.eqv (Hh s) (Hh t)=decide (s=t):=by
 obtain⟨a,b,c⟩:=s
 obtain⟨a',b',c'⟩:=t
 show (_&&(_&&(_&&true)))=_
 by_cases e:a=a'/\b=b'/\c=c'
 ·obtain⟨rfl,rfl,rfl⟩:=e
  simp[PyData.eqv]
 ·rw[QbF (λz=>e (by injection z with z1 z2 z3;exact⟨z1,z2,z3⟩))]
  simp only[PyData.eqv,Bool.and_true,Bool.and_eq_false_iff]
  simp
  omega
theorem uR (L:YV) (s:Sp3):(L.map Hh).any (λz=>PyData.eqv z (Hh s))=decide (s∈L):=by
 rw[List.any_map]
 induction L with
 | nil=>rfl
 | cons a r ih=>
  rw[Qcb,ih]
  show (PyData.eqv (Hh a) (Hh s) || _)=_
  rw[uQ]
  by_cases e:a=s
  ·subst e;simp
  ·rw[QbF e,Bool.false_or]
   have:(s∈a::r) ↔ s∈r:=by rw[QbX];exact⟨λh=>h.resolve_left λz=>e z.symm,.inr⟩
   simp[this]
def dvS (loops:YU):YV:=(up (pdL loops) loops.length).map Sd.spot
def Py (hs:YR) (gs:YT) (fl:YQ) (loops:YU) (s:Sp3):Prop:=∃(j:Nat) (ps:List Place),loops[j]?=some ps/\s.lp=(j:Int)/\(s∈Dv hs gs fl j ps.length "A"\/s∈Dv hs gs fl j ps.length "B")
theorem Xc {loops:YU} {k:Nat} {ps:List Place} (hps:loops[k]?=some ps) (e:Str):Cu k ps.length e∈up (gtL loops) loops.length:=by
 refine Yo (i:=k) ?_ (Qag.mp hps).1
 unfold gtL
 rw[Cw hps]
 unfold Cu
 split
 ·exact QaH _ (QaT ..)
 ·exact QaB _ (QaT ..)
theorem aG {hs:YR} {gs:YT} {fl:YQ} {k:Int} {n:Nat} (l30:fl.length<=30) (e:Str):(Dv hs gs fl k n e).length<=30:=by
 unfold Dv
 split
 ·exact Qco _
 ·split
  ·exact Qco _
  ·have hst:Dp e=1\/Dp e=-1:=by unfold Dp;split;exact .inl rfl;exact .inr rfl
   have nd:=List.Nodup.sublist (QaR (p:=flC fl)) (RN hs gs k (Dp e) hst 16 (Cu k n e).at_).1
   have:=Qh nd (m:=fl.map (·.1)) λs h=>aN (QbI.mp h).2
   rw[QbB] at this
   exact Qci this l30
def tH (C:Addr):Sp:=λvs H Q _=>∃(p pl d1 d2 d3 tl:Addr) (hs:YR) (fl:YQ) (gs:YT) (most:Int) (loops:YU) (zones:List Zone) (xt:YG),vs=[.ref pl,.ref p,.ref tl]/\WAt C H p pl d1 d2 d3 hs fl gs/\FT H pl most loops zones/\(∀s∈hs.map (·.1),Bd3 s)/\(∀s∈fl.map (·.1),Bd3 s)/\fl.length<=30/\gs.map (·.1)=up (gtL loops) loops.length/\H tl=some (.lst xt)/\Paired (BX H) xt (dvS loops)/\(dvS loops).length<=30 /\
 ∀l xs L H',H l=none->H' l=some (.lst xs)->Paired (BX H') xs L->(L.map cd3).Pairwise (· < ·)->(∀s,s∈L ↔ s∈dvS loops/\¬Py hs gs fl loops s)->Same H H'->Q (.ref l) H'
section
variable {P:Program} {w:World} {K:YD} {mg:YB} {base:Heap} {op oe kd wk C:Addr}
theorem kh (c:Code K mg "_law_silent" Mi JM) (T:Tw K mg op oe kd wk C) (Lj:Dn P w K mg base C "heard" 3 Fq (Wh C)):Good P w K mg base "_law_silent" 4 JM (tH C):=by
 have sc:=Ih
 refine c.good Ih (λvs H Q E h=>?_) (λf cdv A outer s H vs Q E hr h=>?_)
 ·obtain⟨p,pl,d1,d2,d3,tl,hs,fl,gs,most,loops,zones,xt,rfl,_⟩:=h
  rfl
 obtain⟨p,pl,d1,d2,d3,tl,hs,fl,gs,most,loops,zones,xt,rfl,R,pa,hb,hbf,l30,kg,htl,ptl,d30,q⟩:=h
 refine⟨_,(Af (Ba (i:=3) Ih.nd rfl (Or.inl rfl) (vh Ac))
 (Af (Cj QbE rfl (DG rfl T.range (Aa (Az Bl rfl T.len Cz (Aa (Bh Bu (pv 0) Ad (λ_ _=>rfl)) Ac)) Ac)) (Ah (i:=4) Ih.nd rfl (Or.inr rfl))
 (Af (Ba (i:=5) Ih.nd rfl (Or.inr rfl) (Bc vA (JL (pv 1) T.cl Lj hr (Aa (pv 4) (Aa Bt Ac))) (JL (pv 1) T.cl Lj hr (Aa (pv 4) (Aa Bt Ac)))))
 (Ai (Bs (CK Qap Qan Qao Ew (pv 3) (Aa (Cg (N':=["_law_spot","_law_loop_here","_law_heard"]) rfl (Bg.of (src:=[none,some 4,some 5]) (Aj Mi) ["_law_plan_here","_law_wires","_law_told","_law_found","_law_loop_here","_law_heard"] rfl rfl rfl (by trivial) (by trivial) (by trivial) rfl (by trivial)) (Dk (pv 2)) (λ_ _ _ _=>(Ah (i:=0) (show List.Nodup (["_law_spot","_law_loop_here","_law_heard"]:YF) by trivial) rfl (Or.inl rfl))) (λ_ _ _ _=>(Gm (PW.pt (Rj (Bj G7 (Bh (SQ (K:=K) rfl) (pv 0) Ad (λ_ _=>rfl)) (pv 1) (Br _)) (Pa (Bj (gR (K:=K) rfl hr.wQ) (pv 0) (pv 2) (by with_unfolding_all rfl))))))) (λ_ _ _ _=>(pv 0))) Ac))))))
 (Ai (Ay (pv 3))))),?_⟩
 show let R0:TS:=_;let R1:TS:=Ao _ R0;let R2:TS:=Ao (DQ _ _ R1) _;Ao _ R2 _ _ _
 intro R0 R1 R2
 have ok:=pa.ok
 obtain⟨Ls,zs,ws,zvs,f1,f2,f3,f4,f5⟩:=pa.at_
 have lw:=QbW f3
 have l3:=ok.hi
 have lt:=QbW ptl
 refine⟨Ar (by show 0<=1000;decide),λl H0 hl hl0 n1=>?_⟩
 refine⟨_,rfl,pl,_,_,_,rfl,rfl,SqT.of (n1 _ _ f1),rfl,Ls,_,rfl,.inr (SqT.of (n1 _ _ f2)),_,rfl,by omega,by omega,?_⟩
 rw[Qbm]
 have dvb:∀s∈dvS loops,Bd3 s:=λs h=>by
  obtain⟨d,hd,rfl⟩:=Qcg.mp h
  exact mW ok d hd
 let J0:YN:=λk σ HH=>∃u4 u5,σ=[some (.ref pl),some (.ref p),some (.ref tl),some (.ref l),u4,u5]/\(∃xs L,HH l=some (.lst xs)/\Paired (BX HH) xs L/\L.length<=30*k/\(L.map cd3).Pairwise (· < ·)/\∀s,s∈L ↔ s∈dvS loops/\s.lp < (k:Int)/\¬Py hs gs fl loops s)/\Same H HH
 refine FP J0 ⟨_,_,rfl,⟨[],[],hl0,.nil,by decide,.nil,λs=>⟨(λh=>by cases h),λ⟨h1,h2,_⟩=>?_⟩⟩,n1⟩ (λk σ HH hk h=>?_) (fun σ HH h=>?_)
 ·have:=(dvb s h1).l0
  have h2:s.lp < 0:=h2
  omega
 ·obtain⟨u4,u5,rfl,⟨xs,L,e1,e2,e3,e4,e5⟩,sm⟩:=h
  have hkl:k < loops.length:=by omega
  have hps:loops[k]?=some loops[k]:=Qak hkl
  generalize loops[k]=ps at hps
  have R1:=R.same sm
  obtain⟨dx,hp⟩:=R1.ins
  have hk0:(0:Int)+(k:Int)=(k:Int):=Int.zero_add _
  rw[hk0]
  refine⟨_,rfl,p,dx,_,rfl,hp,fno (by trivial),_,rfl,p,pl,d1,d2,d3,hs,fl,gs,most,loops,zones,k,ps,"A",rfl,R1,pa.same sm,hps,hb,hbf,l30,by rw[kg];exact Xc hps _,λla xa LA H2 fa ha pA pmA _ s2=>?_⟩
  have R2:=R1.same s2
  obtain⟨dx2,hp2⟩:=R2.ins
  refine⟨_,rfl,p,dx2,_,rfl,hp2,fno (by trivial),_,rfl,p,pl,d1,d2,d3,hs,fl,gs,most,loops,zones,k,ps,"B",rfl,R2,pa.same (sm.trans s2),hps,hb,hbf,l30,by rw[kg];exact Xc hps _,λlb xb LB H3 fb hb' pB pmB _ s3=>?_⟩
  have hA3:=s3 _ _ ha
  have lA:=QbW pA
  have lB:=QbW pB
  have lA':=pmA.length_eq
  have lB':=pmB.length_eq
  refine⟨la,lb,xa,xb,rfl,rfl,hA3,hb',?_,λlc H4 hlc hxc s4=>?_⟩
  ·have:=aG (hs:=hs) (gs:=gs) (k:=k) (n:=ps.length) l30 "A"
   have:=aG (hs:=hs) (gs:=gs) (k:=k) (n:=ps.length) l30 "B"
   exact Ar (by omega)
  have pC:Paired (BX H4) (xa++xb) (LA++LB):=Paired.app (Paired.Av pA λ_ _ z=>z.tups (Al.of (s3.trans s4))) (Paired.Av pB λ_ _ z=>z.tups (Al.of s4))
  have s24:=(s2.trans s3).trans s4
  have s04:=sm.trans s24
  have e14:=s24 _ _ e1
  refine⟨_,rfl,.inl ⟨rfl,_,SqL.of e14⟩,_,rfl,tl,rfl,⟨_,SqL.of (s04 _ _ htl)⟩,λlr hlr=>?_⟩
  have Cn:Paired (BX H4) xt (dvS loops):=Paired.Av ptl λ_ _ z=>z.tups (Al.of s04)
  have fB:∀i,(((dvS loops).take i).filter λs=>decide (s.lp=(k:Int))&&!decide (s∈LA++LB)).length<=30:=λi=>Qci ((QaR.trans (List.take_sublist i _)).length_le) d30
  let J1:YN:=λi σ HX=>(∃u,σ=[u,some (.int (k:Int)),some (.ref lc)])/\(∃zs,HX lr=some (.lst zs)/\Paired (BX HX) zs (((dvS loops).take i).filter λs=>decide (s.lp=(k:Int))&&!decide (s∈LA++LB)))/\Same H4 HX
  refine FQ (xs:=xt) J1 ⟨⟨_,rfl⟩,⟨[],Ab,.nil⟩,Ae hlr _⟩ (λi σ HX _ h=>SqL.of (h.2.2 _ _ (s04 _ _ htl))) (λi x σ HX hx h=>?_) (fun σ HX h=>?_)
  ·obtain⟨⟨u,rfl⟩,⟨zs,g1,g2⟩,g3⟩:=h
   obtain⟨sp,hsp,b,rfl,hbt⟩:=Paired.Ce Cn hx
   have lz:=QbW g2
   have iK:=fB i
   have et:((dvS loops).take (i+1)).filter (λs=>decide (s.lp=(k:Int))&&!decide (s∈LA++LB))=((dvS loops).take i).filter (λs=>decide (s.lp=(k:Int))&&!decide (s∈LA++LB))++[sp].filter (λs=>decide (s.lp=(k:Int))&&!decide (s∈LA++LB)):=by rw[Qcx hsp,Qbd]
   unfold Fl
   dsimp only
   have no:(decide (sp.lp=(k:Int))&&!decide (sp∈LA++LB))=false->(∃u,[some (V.ref b),some (.int (k:Int)),some (.ref lc)]=[u,some (.int (k:Int)),some (.ref lc)])/\(∃zs,HX lr=some (.lst zs)/\Paired (BX HX) zs (((dvS loops).take (i+1)).filter λs=>decide (s.lp=(k:Int))&&!decide (s∈LA++LB)))/\Same H4 HX:=λhf=>by
    refine⟨⟨_,rfl⟩,⟨zs,g1,?_⟩,g3⟩
    rw[et,Qar (by rw[hf];decide)]
    show Paired _ _ (_++[])
    rw[QbG]
    exact g2
   refine⟨_,rfl,b,_,_,_,rfl,rfl,SqT.of (g3 _ _ hbt),rfl,_,rfl,rfl,_,rfl,Fg (λh1=>?_) (λh1=>?_)⟩
   ·have h1:sp.lp=(k:Int):=V.int.inj (Qbj h1)
    refine⟨_,rfl,_,rfl,lc,_,Hh sp,(LA++LB).map Hh,rfl,SqL.of (g3 _ _ hxc),Xr (Paired.Av pC λ_ _ z=>z.tups (Al.of g3)),.tup (SqT.of (g3 _ _ hbt)) (.cons (.int _) (.cons (.int _) (.cons (.int _) .nil))),rfl,(Wf _).1,_,rfl,?_⟩
    rw[uR]
    refine Fg (λh2=>?_) (λh2=>?_)
    ·have ntl:∀us,HX lr≠some (.tup us):=λus z=>by rw[g1] at z;cases z
     have sL:=Al.upd (o:=.lst (zs++[.ref b])) ntl
     refine⟨_,rfl,zs,g1,Aq (by omega),⟨_,rfl⟩,⟨_,Ab,?_⟩,g3.Bm Ag.upd hlr⟩
     rw[et,Qas (by rw[QbR h1,h2];rfl)]
     exact Qcp ⟨b,rfl,sL _ _ (g3 _ _ hbt)⟩ (Paired.Av g2 λ_ _ z=>z.tups sL)
    ·exact no (by rw[h2,Bool.and_false])
   ·have h1:¬sp.lp=(k:Int):=λz=>Qbe h1 (by rw[z])
    exact Cd (no (by rw[QbF h1,Bool.false_and]))
  obtain⟨_,⟨zs,g1,g2⟩,g3⟩:=h
  rw[lt,Qbs] at g2
  have lz:=QbW g2
  have iK:=fB (dvS loops).length
  rw[Qbs] at iK
  have lx:=QbW e2
  have e1X:=g3 _ _ e14
  have nlr:l≠lr:=λz=>by rw[<-z,e14] at hlr;cases hlr
  refine⟨l,lr,_,_,rfl,rfl,e1X,g1,Ar (by omega),?_⟩
  have n2:∀zs',HX l≠some (.tup zs'):=λzs' z=>by rw[e1X] at z;cases z
  have t5:=Al.upd (o:=.lst (xs++zs)) n2
  refine⟨_,_,rfl,⟨xs++zs,L++(dvS loops).filter λs=>decide (s.lp=(k:Int))&&!decide (s∈LA++LB),Ab,Paired.app (Paired.Av e2 λ_ _ z=>(z.tups (Al.of (s24.trans g3))).tups t5) (Paired.Av g2 λ_ _ z=>z.tups t5),by rw[QaS];omega,?_,λs=>?_⟩,(s04.trans g3).Bm Ag.upd hl⟩
  ·rw[QbD]
   refine List.pairwise_append.mpr ⟨e4,?_,λx hx y hy=>?_⟩
   ·have dr:=Uv ok
    have:((dvS loops).map cd3).Pairwise (· < ·):=by
     unfold dvS
     rw[Qcj]
     exact dr
    exact List.Pairwise.sublist (List.Sublist.map _ QaR) this
   ·obtain⟨x',hx',rfl⟩:=Qcg.mp hx
    obtain⟨y',hy',rfl⟩:=Qcg.mp hy
    obtain⟨h1,h2,_⟩:=(e5 x').mp hx'
    obtain⟨h3,h4⟩:=QbI.mp hy'
    have h4:y'.lp=(k:Int):=Qbj (Bool.and_eq_true_iff.mp h4).1
    have b1:=dvb x' h1
    have b2:=dvb y' h3
    have:=b1.a1
    have:=b1.n1
    have:=b2.a0
    have:=b2.n0
    unfold cd3
    omega
  ·have hh:s.lp=(k:Int)->(s∈LA++LB ↔ Py hs gs fl loops s):=λhk=>by
    rw[QbC,pmA.mem_iff,pmB.mem_iff]
    constructor
    ·exact λh=>⟨k,ps,hps,hk,h⟩
    ·rintro ⟨j,ps',h1,h2,h3⟩
     have:j=k:=by omega
     subst this
     rw[hps] at h1
     cases h1
     exact h3
   rw[QbC,e5,QbI,Qbz,Qba,Bool.not_eq_true',decide_eq_false_iff_not]
   push_cast
   constructor
   ·rintro (⟨h1,h2,h3⟩|⟨h1,h2,h3⟩)
    ·exact⟨h1,by omega,h3⟩
    ·exact⟨h1,by omega,λz=>h3 ((hh h2).mpr z)⟩
   ·rintro ⟨h1,h2,h3⟩
    by_cases e:s.lp=(k:Int)
    ·exact .inr ⟨h1,e,λz=>h3 ((hh e).mp z)⟩
    ·exact .inl ⟨h1,by omega,h3⟩
 obtain⟨u4,u5,rfl,⟨xs,L,e1,e2,e3,e4,e5⟩,sm⟩:=h
 refine⟨_,rfl,q l xs L HH hl e1 e2 e4 (λs=>?_) sm⟩
 rw[e5]
 constructor
 ·refine λzz=>?_
  obtain⟨h1,_,h3⟩:=zz
  exact⟨h1,h3⟩
 ·rintro ⟨h1,h3⟩
  refine⟨h1,?_,h3⟩
  obtain⟨d,hd,rfl⟩:=Qcg.mp h1
  obtain⟨j,hj,hd⟩:=DP hd
  have:=(Tc ok hd).1
  show d.lp < _
  omega
end
abbrev KC:Stmt:=top 56
abbrev tV:YF:=["_law_script"]
theorem Ec:Ax ["_law_script","_law_bag_here","_law_plan_here","_law_wires","_law_told","_law_k","_law_loop_here","_law_at","_law_way","_law_how","_law_spots","_law_gates","_law_own"] tV (Aj KC):=⟨rfl,rfl,rfl,by trivial,rfl,by trivial,by trivial⟩
theorem uo {loops:YU} (ok:CW loops) {s:Sp3} (h:s∈dvS loops):∃(j:Nat) (ps:List Place) (x m:Int),loops[j]?=some ps/\s=⟨(j:Int),x,m⟩/\DvL ps x m:=by
 have h':=h
 obtain⟨d,hd,rfl⟩:=Qcg.mp h
 obtain⟨j,hj,hd⟩:=DP hd
 have e:=(Tc ok hd).1
 have hps:loops[j]?=some loops[j]:=Qak hj
 have es:d.spot=⟨(j:Int),d.at_,d.n⟩:=by
  show (⟨d.lp,d.at_,d.n⟩ : Sp3)=_
  rw[e]
 rw[es] at h' ⊢
 exact⟨j,_,_,_,hps,rfl,(Vq hps).mp h'⟩
theorem aH {hs:YR} {gs:YT} {fl:YQ} {loops:YU} {j:Nat} {ps:List Place} {x m:Int} (hps:loops[j]?=some ps):Py hs gs fl loops ⟨(j:Int),x,m⟩ ↔ ((⟨(j:Int),x,m⟩ : Sp3)∈Dv hs gs fl j ps.length "A"\/(⟨(j:Int),x,m⟩ : Sp3)∈Dv hs gs fl j ps.length "B"):=by
 constructor
 ·rintro ⟨i,qs,h1,h2,h3⟩
  have h2:(j:Int)=(i:Int):=h2
  have:i=j:=by omega
  subst this
  rw[hps] at h1
  cases h1
  exact h3
 ·exact λh=>⟨j,ps,hps,rfl,h⟩
theorem rN {ps:List Place} {k F L:Nat} {s:Sp3}:s∈bD ps k F L ↔ s.lp=(k:Int)/\(F:Int) < s.at_/\s.at_ < (L:Int)/\InL ps s.at_ s.n:=by
 unfold bD
 rw[MJ]
 constructor
 ·rintro ⟨i,hi,h⟩
  obtain⟨p,hp,h⟩:=Ek h
  obtain⟨n,hn,rfl⟩:=Qcg.mp h
  have hn:=QbT.mp hn
  exact⟨rfl,by show (F:Int) < ((1+(F+i):Nat):Int);omega,by show ((1+(F+i):Nat):Int) < (L:Int);omega,.inr ⟨F+i,p,hp,by show ((1+(F+i):Nat):Int)=_;omega,by show 0<=(n:Int);omega,by show (n:Int)<=_;omega⟩⟩
 ·obtain⟨a,b,c⟩:=s
  rintro ⟨h1,h2,h3,h4⟩
  dsimp only at h1 h2 h3 h4
  rcases h4 with⟨z,_⟩|⟨j,p,hp,e,n0,n1⟩
  ·omega
  ·refine⟨j - F,by omega,?_⟩
   have hp':ps[F+(j - F)]?=some p:=by rw[show F+(j - F)=j by omega];exact hp
   show _∈st1 (k:Int) ps (F+(j - F))
   unfold st1
   rw[Cw hp']
   refine Qcg.mpr ⟨c.toNat,QbT.mpr (by omega),?_⟩
   rw[h1,e,QaO n0,show ((1+(F+(j - F)):Nat):Int)=(j:Int)+1 by omega]
theorem nP {ps:List Place} (ok:OkL ps) (k F L:Nat):((bD ps k F L).map cd3).Pairwise (· < ·):=by
 refine (Jp (c:=cd3) (f:=λi=>st1 (k:Int) ps (F+i)) (g:=λi=>(k:Int)*10000+(1+(F:Int)+i:Int)*100) (λi=>by omega) (λi=>Jj λp hp=>by
   rw[Qcj]
   exact Vc ((k:Int)*10000+((1+(F+i):Nat):Int)*100) (p.spur.length+1)) (λi s hs=>by
   obtain⟨h1,h2,h3,h4,h5⟩:=Wc ok hs
   show (k:Int)*10000+(1+(F:Int)+i:Int)*100<=s.lp*10000+s.at_*100+s.n/\s.lp*10000+s.at_*100+s.n < (k:Int)*10000+(1+(F:Int)+((i+1:Nat):Int))*100
   rw[h1,h2]
   push_cast
   omega) _).1
theorem rK {k a n m:Nat} {s:Sp3}:s∈RL k a n m ↔ s.lp=(k:Int)/\s.at_=(a:Int)/\(n:Int)<=s.n/\s.n < (n:Int)+(m:Int):=by
 unfold RL
 rw[Qcg]
 constructor
 ·rintro ⟨i,hi,rfl⟩
  have hi:=QbT.mp hi
  exact⟨rfl,rfl,by show (n:Int)<=(n:Int)+(i:Int);omega,by show (n:Int)+(i:Int) < _;omega⟩
 ·obtain⟨x,y,z⟩:=s
  rintro ⟨h1,h2,h3,h4⟩
  dsimp only at h1 h2 h3 h4
  refine⟨(z - n).toNat,QbT.mpr (by omega),?_⟩
  rw[h1,h2,QaO (by omega),show (n:Int)+(z - (n:Int))=z by omega]
theorem nA (k a n m:Nat):((RL k a n m).map cd3).Pairwise (· < ·):=by
 unfold RL
 rw[Qcj,List.pairwise_map]
 exact List.pairwise_lt_range.imp λ{x y} h=>by
  show (k:Int)*10000+(a:Int)*100+((n:Int)+(x:Int)) < (k:Int)*10000+(a:Int)*100+((n:Int)+(y:Int))
  omega
theorem mU {loops:YU} {k:Nat} {ps:List Place} {a0 n0:Int} {z:Str} {S L:YV} {G:List Gt} {gs:YT} (oks:CW loops) (hps:loops[k]?=some ps) (hin:InL ps a0 n0) (kg:gs.map (·.1)=up (gtL loops) loops.length) (D:uG ps k a0 n0 z S G) (rL:(L.map cd3).Pairwise (· < ·)) (mL:∀s,s∈L ↔ s∈dvS loops/\¬Py (Bo loops ⟨(k:Int),a0,n0⟩ z) (Bq (Bo loops ⟨(k:Int),a0,n0⟩ z) gs) (fl0 loops) loops s):L=S/\((Bq (Bo loops ⟨(k:Int),a0,n0⟩ z) gs).filter (·.2)).map (·.1)=G:=by
 have ok:=oks.ok ps (QaF hps)
 have here:∀s,s∈L->∃x m,s=⟨(k:Int),x,m⟩/\DvL ps x m/\¬U5 loops ⟨(k:Int),a0,n0⟩ z gs k ps.length ⟨(k:Int),x,m⟩:=λs hs=>by
  obtain⟨h1,h2⟩:=(mL s).mp hs
  obtain⟨j,qs,x,m,hj,rfl,dv⟩:=uo oks h1
  rw[aH hj] at h2
  by_cases e:(j:Int)=(k:Int)
  ·have:j=k:=by omega
   subst this
   rw[hps] at hj
   cases hj
   exact⟨x,m,rfl,dv,h2⟩
  ·exact absurd (nU hj (oks.ok qs (QaF hj)) dv e) h2
 have there:∀x m,DvL ps x m->¬U5 loops ⟨(k:Int),a0,n0⟩ z gs k ps.length ⟨(k:Int),x,m⟩->(⟨(k:Int),x,m⟩ : Sp3)∈L:=λx m dv h=>by
  rw[mL,aH hps]
  exact⟨(Vq hps).mpr dv,h⟩
 rcases D with⟨rfl,F,Lx,B,rfl,rfl⟩|⟨rfl,rfl,⟨rfl,rfl⟩|⟨i,n,p,hp,rfl,rfl,n1,n2,rfl⟩⟩
 ·refine⟨M9 rL (nP ok k F Lx) λs=>?_,gQ hps oks ok hin kg B⟩
  rw[rN]
  constructor
  ·intro h
   obtain⟨x,m,rfl,dv,h⟩:=here s h
   rw[X5 hps ok dv hin kg B,Classical.not_not] at h
   exact⟨rfl,h.1,h.2,dv.in_⟩
  ·obtain⟨a,b,c⟩:=s
   rintro ⟨h1,h2,h3,h4⟩
   dsimp only at h1 h2 h3 h4
   subst h1
   have dv:=(zW B h2 h3).mpr h4
   refine there _ _ dv ?_
   rw[X5 hps ok dv hin kg B,Classical.not_not]
   exact⟨h2,h3⟩
 ·refine⟨List.eq_nil_iff_forall_not_mem.mpr λs h=>?_,Ow (by decide) oks kg⟩
  obtain⟨x,m,rfl,dv,h⟩:=here s h
  exact h (rP hps ok dv a0)
 ·refine⟨M9 rL (nA _ _ _ _) λs=>?_,Ow (by decide) oks kg⟩
  rw[rK]
  constructor
  ·intro h
   obtain⟨x,m,rfl,dv,h⟩:=here s h
   rw[fO hps ok dv (by omega),Classical.not_not] at h
   obtain⟨j,q,hq,e1,e2,e3,_⟩:=dv
   have:j=i:=by omega
   subst this
   rw[hp] at hq
   cases hq
   exact⟨rfl,h.1,h.2,by show m < _;omega⟩
  ·obtain⟨a,b,c⟩:=s
   rintro ⟨h1,h2,h3,h4⟩
   dsimp only at h1 h2 h3 h4
   subst h1 h2
   have dv:DvL ps ((i+1:Nat):Int) c:=⟨i,p,hp,by omega,by omega,by omega,λe=>O9 ok hin (by omega) (.inr (.inr ⟨i,p,hp,by omega,e⟩))⟩
   refine there _ _ dv ?_
   rw[fO hps ok dv (by omega),Classical.not_not]
   exact⟨rfl,h3⟩
theorem qe {loops:YU} {j:Nat} {ps:List Place} {gs:YT} (oks:CW loops) (hps:loops[j]?=some ps) {e:Str} (he:e="A"\/e="B") {s:Sp3}:s∈Dv (hs0 loops) (Bq (hs0 loops) gs) (fl0 loops) j ps.length e ↔ s∈dvS loops/\s.lp=(j:Int):=by
 constructor
 ·intro h
  obtain⟨_,_,h1,h2⟩:=Ur.mp h
  obtain⟨i,_,_,h3⟩:=Qx.mp h1
  exact⟨aO.mp h2,(Ft.mp h3).1⟩
 ·rintro ⟨h1,h2⟩
  obtain⟨i,qs,x,m,hi,rfl,dv⟩:=uo oks h1
  have h2:(i:Int)=(j:Int):=h2
  have:i=j:=by omega
  subst this
  rw[hps] at hi
  cases hi
  have:=nT (gs:=gs) hps (oks.ok ps (QaF hps)) dv ⟨0,0,0⟩
  rw[d8] at this
  rcases he with rfl | rfl
  ·exact this.1
  ·exact this.2
theorem rH {loops:YU} (ok:CW loops):((dvS loops).map cd3).Pairwise (· < ·):=by
 unfold dvS
 rw[Qcj]
 exact Uv ok
def qg (loops:YU) (j:Nat):YV:=(dvS loops).filter λs=>decide (s.lp=(j:Int))
theorem j6 {loops:YU} {j:Nat} {ps:List Place} {gs:YT} (oks:CW loops) (hps:loops[j]?=some ps) {e:Str} (he:e="A"\/e="B") {L:YV} (pm:L.Perm (Dv (hs0 loops) (Bq (hs0 loops) gs) (fl0 loops) j ps.length e)) (rL:(L.map cd3).Pairwise (· < ·)):L=qg loops j:=by
 refine M9 rL (List.Pairwise.sublist (List.Sublist.map _ QaR) (rH oks)) λs=>?_
 unfold qg
 rw[pm.mem_iff,qe oks hps he,QbI,Qba]
structure LS (C:Addr) (H:Hp) (b p t d1 d2 d3 w:Addr) (n:Nat) (most:Int) (loops:YU) (zones:List Zone) (hs:YR) (gs:YT):Prop where
 bag:Bw H b n
 wi:WAt C H p t d1 d2 d3 hs (fl0 loops) gs
 pa:FT H t most loops zones
 tl:∃xs,H w=some (.lst xs)/\Paired (BX H) xs (dvS loops)
 nwb:w≠b
 n12:d1≠d2
 k1:hs.map (·.1)=up (stL loops) loops.length
 k3:gs.map (·.1)=up (gtL loops) loops.length
section
variable {C:Addr} {H H':Hp} {b p t d1 d2 d3 w:Addr} {n n':Nat} {most:Int} {loops:YU} {zones:List Zone} {hs hs':YR} {gs gs':YT}
theorem LS.moved (L:LS C H b p t d1 d2 d3 w n most loops zones hs gs) (s:Al H H') (wi:WAt C H' p t d1 d2 d3 hs' (fl0 loops) gs') (bag:Bw H' b n') (hw:∀o,H w=some o->H' w=some o) (k1:hs'.map (·.1)=hs.map (·.1)) (k3:gs'.map (·.1)=gs.map (·.1)):LS C H' b p t d1 d2 d3 w n' most loops zones hs' gs':=by
 obtain⟨xs,x1,x2⟩:=L.tl
 exact⟨bag,wi,L.pa.tups s,⟨xs,hw _ x1,Paired.Av x2 λ_ _ z=>z.tups s⟩,L.nwb,L.n12,k1.trans L.k1,k3.trans L.k3⟩
theorem LS.same (L:LS C H b p t d1 d2 d3 w n most loops zones hs gs) (s:Same H H'):LS C H' b p t d1 d2 d3 w n most loops zones hs gs:=L.moved (Al.of s) (L.wi.same s) (L.bag.same s) (λo e=>s _ _ e) rfl rfl
theorem LS.mono (L:LS C H b p t d1 d2 d3 w n most loops zones hs gs) (h:n<=n'):LS C H b p t d1 d2 d3 w n' most loops zones hs gs:=L.moved (Al.of (Same.refl H)) L.wi (L.bag.mono h) (λo e=>e) rfl rfl
theorem LS.drawn (L:LS C H b p t d1 d2 d3 w n most loops zones hs gs) (s:Ag b H H') (hb:Bw H' b n'):LS C H' b p t d1 d2 d3 w n' most loops zones hs gs:=by
 obtain⟨_,_,_,eb,_⟩:=L.bag
 have hd:∀{x kv},H x=some (.dT kv)->x≠b:=λh z=>by rw[z,eb] at h;cases h
 obtain⟨dx,e0⟩:=L.wi.ins
 obtain⟨_,e2,_⟩:=L.wi.fi
 exact L.moved (s.tup L.bag.Ib) (L.wi.Hz s L.bag.Ib (λz=>by rw[z,eb] at e0;cases e0) (hd L.wi.st) (hd e2) (hd L.wi.gp)) hb (λo e=>s _ _ e L.nwb) rfl rfl
theorem LS.gC (L:LS C H b p t d1 d2 d3 w n most loops zones hs gs) {x:Addr} {kv:YL} (hx:H x=some (.dT kv)) (W:WAt C H' p t d1 d2 d3 hs' (fl0 loops) gs') (s:Ag x H H') (k1:hs'.map (·.1)=hs.map (·.1)) (k3:gs'.map (·.1)=gs.map (·.1)):LS C H' b p t d1 d2 d3 w n most loops zones hs' gs':=by
 have nt:∀zs,H x≠some (.tup zs):=λzs e=>by rw[hx] at e;cases e
 obtain⟨xs,x1,x2⟩:=L.tl
 obtain⟨_,_,_,eb,_⟩:=L.bag
 exact L.moved (s.tup nt) W (L.bag.Hz s λz=>by rw[z,hx] at eb;cases eb) (λo e=>s _ _ e λz=>by rw[z,hx] at x1;cases x1) k1 k3
theorem LS.yK {c:Addr} (L:LS C H b p t d1 d2 d3 w n most loops zones hs gs) (s:Same H H') (hb:H c=none) (bag:Bw H' c n'):LS C H' c p t d1 d2 d3 w n' most loops zones hs gs:=by
 have L':=L.same s
 obtain⟨xs,x1,_⟩:=L.tl
 exact⟨bag,L'.wi,L'.pa,L'.tl,Bb x1 hb,L'.n12,L'.k1,L'.k3⟩
theorem LS.bs (L:LS C H b p t d1 d2 d3 w n most loops zones hs gs):∀s∈hs.map (·.1),Bd3 s:=by rw[L.k1];exact AN L.pa.ok
theorem LS.bg (L:LS C H b p t d1 d2 d3 w n most loops zones hs gs):Xn gs:=λx hx=>by
 have:x.1∈up (gtL loops) loops.length:=by rw[<-L.k3];exact Qcg.mpr ⟨x,hx,rfl⟩
 obtain⟨i,hi,h⟩:=DP this
 have:=lU L.pa.ok h
 omega
theorem LS.d30 (L:LS C H b p t d1 d2 d3 w n most loops zones hs gs):(dvS loops).length<=30:=by
 have c2:=L.pa.pok.cnt.2
 have la:(up (pdL loops) loops.length).length=(Cr loops).length:=by rw[<-Jy loops,QbB]
 unfold dvS
 rw[QbB]
 omega
theorem LS.f30 (L:LS C H b p t d1 d2 d3 w n most loops zones hs gs):(fl0 loops).length<=30:=by
 have:=L.d30
 unfold dvS at this
 rw[QbB] at this
 unfold fl0
 rw[QbB]
 exact this
theorem LS.bf (L:LS C H b p t d1 d2 d3 w n most loops zones hs gs):∀s∈(fl0 loops).map (·.1),Bd3 s:=by
 rw[S9]
 intro s hs
 obtain⟨x,hx,rfl⟩:=Qcg.mp hs
 exact mW L.pa.ok x hx
theorem dW (pa:FT H t most loops zones) {k:Nat} {ps:List Place} (hk:loops[k]?=some ps):∃Ls zs ws tp us,H t=some (.tup [.int most,.ref Ls,.ref zs])/\H Ls=some (.tup ws)/\ws.length=loops.length/\atI ws (k:Int)=some (.ref tp)/\H tp=some (.tup us)/\us.length=ps.length/\∀(j:Nat) (q:Place),ps[j]?=some q->∃tj uj wj,atI us (j:Int)=some (.ref tj)/\H tj=some (.tup [.str q.kind,.int q.addr,.ref uj])/\H uj=some (.tup wj)/\wj.length=q.spur.length:=by
 obtain⟨Ls,zs,ws,zvs,f1,f2,f3,f4,f5⟩:=pa.at_
 have lw:=QbW f3
 have hkl:=(Qag.mp hk).1
 have hwk:ws[k]?=some ws[k]:=Qak (by omega)
 obtain⟨ps',Ry,tp,us,ev,ht,hpp⟩:=Paired.Ce f3 hwk
 rw[hk] at Ry
 cases Ry
 have lv:=QbW hpp
 refine⟨Ls,zs,ws,tp,us,f1,f2,lw,Gu (by rw[hwk,ev]),ht,lv,λj q hq=>?_⟩
 have hjl:=GC hq
 have hvj:us[j]?=some us[j]:=Qak (by omega)
 obtain⟨q',hq',tj,uj,wj,ep,h1,h2,h3⟩:=Paired.Ce hpp hvj
 rw[hq] at hq'
 cases hq'
 exact⟨tj,uj,wj,Gu (by rw[hvj,ep]),h1,h2,QbW h3⟩
end
theorem II {i:Nat} {v:V} {D:Ends} {σ : St} {H:Hp} (h:D.nx (σ.set i (some v)) H):V8 (tC v) (Fl i) D σ H:=h
theorem AD (loops:YU):Hv (fl0 loops)=up (pdL loops) loops.length:=by
 unfold Hv fl0
 rw[List.filterMap_map]
 show (up (pdL loops) loops.length).filterMap some=_
 exact List.filterMap_some
section
variable {P:Program} {w:World} {K:YD} {mg:YB} {base:Heap} {op oe kd wk C:Addr}
theorem yx {f:Addr} {fd:FuncData} (F:Fun K "law" "law" KC f fd) (T:Tw K mg op oe kd wk C) (S8:Good P w K mg base "_law_bag" 1 Pq (tQ K)) (BJ:Good P w K mg base "_law_take" 1 Hq Q5) (qZ:Good P w K mg base "_law_plan" 4 Nq jH) (mF:jr P w K mg base C 11 Fd (dN C)) (wg:Good P w K mg base "_law_due" 2 Pk tL) (iY:Good P w K mg base "_law_silent" 4 JM (tH C))
  (lW:Dn P w K mg base C "there" 1 GJ (dB C)) (v8:Dn P w K mg base C "cut" 4 Ir (Sq C "cut")) (lX:Dn P w K mg base C "short" 4 GK (Sq C "short")) (qY:Dn P w K mg base C "mend" 4 Hr (Sq C "whole")) (Ny:Dn P w K mg base C "come_to_rest" 5 Du (dG C)) (VG:Dn P w K mg base C "parted" 1 Gq (Za C)) (Lj:Dn P w K mg base C "heard" 3 Fq (Wh C)):GD P w K mg base CX0 13 f fd tV (Yq K):=by
 have sc:=Ec
 refine F.ok Ec (λvs H Q E h=>?_) (λcdv A outer s H vs Q E hr h=>?_)
 ·obtain⟨a,ns,rfl,_⟩:=h
  rfl
 obtain⟨sa,ns,rfl,hS,h63,q⟩:=h
 refine⟨_,(Af (Ba (i:=1) Ec.nd rfl (Or.inl rfl) (Aw S8 hr (Aa (pv 0) (Aa Ad Ac))))
 (Af (Ba (i:=2) Ec.nd rfl (Or.inl rfl) (Aw qZ hr (Aa (pv 1) (Aa Ad (Aa Ad Ac)))))
 (Af (Ba (i:=3) Ec.nd rfl (Or.inl rfl) (AU mF hr T.mgC (Aa (pv 2) Ac)))
 (Af (Pb (i:=4) Ec.nd rfl (Or.inl rfl) (N':=["_law_spot","_law_kind","_law_address"]) rfl (Bg.plain rfl (by trivial) (by trivial) (by trivial)) (Dk (Rm (pv 3) T.cl lW hr)) (λ_ _ _ _=>(Fp (K:=K) (n:=3) rfl rfl (Ak (Ah (i:=0) (show List.Nodup (["_law_spot","_law_kind","_law_address"]:YF) by trivial) rfl (Or.inl rfl)) (Ak (Ah (i:=1) (show List.Nodup (["_law_spot","_law_kind","_law_address"]:YF) by trivial) rfl (Or.inl rfl)) (Ak (Ah (i:=2) (show List.Nodup (["_law_spot","_law_kind","_law_address"]:YF) by trivial) rfl (Or.inl rfl)) Bp))))) (λ_ _ _ _=>CQ) (λ_ _ _ _=>(pv 0)))
 (Af (Cj QbE rfl (DG rfl T.range (Aa (Az (nH rfl) rfl T.max bF (Aa Ad (Aa (Az (Og rfl) rfl T.min VR (Aa Ad (Aa (Az Bl rfl T.len Cz (Aa (pv 0) Ac)) Ac))) Ac))) Ac)) (Ah (i:=5) Ec.nd rfl (Or.inl rfl))
 (Af (Ba (i:=1) Ec.nd rfl (Or.inl rfl) (Aw S8 hr (Aa (pv 0) (Aa (pv 5) Ac))))
 (Af (Ba (i:=6) Ec.nd rfl (Or.inr rfl) (Aw BJ hr (Aa (pv 1) (Aa (Az Bl rfl T.len Cz (Aa (Bh Bu (pv 2) Ad (λ_ _=>rfl)) Ac)) Ac))))
 (Af (Ba (i:=7) Ec.nd rfl (Or.inl rfl) (Aw BJ hr (Aa (pv 1) (Aa (Bc Ca (Az Bl rfl T.len Cz (Aa (Bh Bu (Bh Bu (pv 2) Ad (λ_ _=>rfl)) (pv 6) (λ_ _=>rfl)) Ac)) Ad) Ac))))
 (Af (Ba (i:=8) Ec.nd rfl (Or.inl rfl) Ad)
 (Af (Ci (Bj Qf (pv 7) Ad (Br _)) (Ai (Ba (i:=8) Ec.nd rfl (Or.inl rfl) (Aw BJ hr (Aa (pv 1) (Aa (Bc Ca (Az Bl rfl T.len Cz (Aa (Bh Bu (Bh Bu (Bh Bu (Bh Bu (pv 2) Ad (λ_ _=>rfl)) (pv 6) (λ_ _=>rfl)) (Bc Nu (pv 7) Ad) (λ_ _=>rfl)) Ad (λ_ _=>rfl)) Ac)) Ad) Ac))))) BK)
 (Af (Ba (i:=9) Ec.nd rfl (Or.inl rfl) (Bh DX (BZ (Aa Bt (Aa Bt Ac))) (Aw BJ hr (Aa (pv 1) (Aa Ad Ac))) (λ_ _=>rfl)))
 (Af (Ci (Bj G7 (pv 9) Bt (Br _)) (Ai (Bs (JL (pv 3) T.cl v8 hr (Aa (Bd (Aa (pv 6) (Aa (pv 7) (Aa (pv 8) Ac)))) Ac)))) (Ai (Bs (JL (pv 3) T.cl lX hr (Aa (Bd (Aa (pv 6) (Aa (pv 7) (Aa (pv 8) Ac)))) Ac)))))
 (Af (Bs (Rm (pv 3) T.cl Ny hr))
 (Af (Gj (Aw wg hr (Aa (pv 2) (Aa (Bd (Aa (pv 6) (Aa (pv 7) (Aa (pv 8) Ac)))) (Aa (pv 9) Ac)))) (Cv rfl (Ak (Ah (i:=10) Ec.nd rfl (Or.inl rfl)) (Ak (Ah (i:=11) Ec.nd rfl (Or.inl rfl)) Bp))))
 (Af (Ci (PW.pt (Ml (Bj (Rr hr.units) (Aw iY hr (Aa (pv 2) (Aa (pv 3) (Aa (pv 4) Ac)))) (pv 10) (Br _)) (Nf (Bj (Rr hr.units) (Rm (pv 3) T.cl VG hr) (pv 11) (Br _))))) (Ai (Ay Gf)) BK)
 (Af (Bs (JL (pv 3) T.cl qY hr (Aa (Bd (Aa (pv 6) (Aa (pv 7) (Aa (pv 8) Ac)))) Ac)))
 (Af (Bs (Rm (pv 3) T.cl Ny hr))
 (Ai (Cj QbE rfl (DG rfl T.range (Aa (Az Bl rfl T.len Cz (Aa (Bh Bu (pv 2) Ad (λ_ _=>rfl)) Ac)) Ac)) (Ah (i:=6) Ec.nd rfl (Or.inr rfl))
 (Af (Pb (i:=12) Ec.nd rfl (Or.inl rfl) (N':=["_law_spot","_law_loop_here"]) rfl (Bg.of (src:=[none,some 6]) (Aj KC) ["_law_script","_law_bag_here","_law_plan_here","_law_wires","_law_told","_law_k","_law_loop_here","_law_at","_law_way","_law_how","_law_spots","_law_gates","_law_own"] rfl rfl rfl (by trivial) (by trivial) (by trivial) rfl (by trivial)) (Dk (pv 4)) (λ_ _ _ _=>(Ah (i:=0) (show List.Nodup (["_law_spot","_law_loop_here"]:YF) by trivial) rfl (Or.inl rfl))) (λ_ _ _ _=>(Gm (Bj G7 (Bh (SQ (K:=K) rfl) (pv 0) Ad (λ_ _=>rfl)) (pv 1) (Br _)))) (λ_ _ _ _=>(pv 0)))
 (Ai (Ci (PW.pt (Ml (Bj (Rr hr.units) (JL (pv 3) T.cl Lj hr (Aa (pv 6) (Aa Bt Ac))) (pv 12) (Br _)) (Ml (Bj (Rr hr.units) (JL (pv 3) T.cl Lj hr (Aa (pv 6) (Aa Bt Ac))) (pv 12) (Br _)) (Nf (Bj (Rr hr.units) (Rm (pv 3) T.cl VG hr) (BZ Ac) (Br _)))))) (Ai (Ay Gf)) BK))))))))))))))))))
 (Ai (Ay Gf))))))),?_⟩
 show let R0:TS:=_;let R1:TS:=Ao _ R0;let R2:TS:=DQ _ _ R1;let R3:TS:=Ao _ R2;let R4:TS:=Ao _ R3;let R5:TS:=Ao _ R4;let R6:TS:=Ao _ R5;let R7:TS:=Ao _ R6;let R8:TS:=_;let R9:TS:=_;let R10:TS:=Ao (Ga _ R8 R9) R7;let R11:TS:=Ao _ R10;let R12:TS:=_;let R13:TS:=Ao (Ga _ R12 _) R11;let R14:TS:=Ao _ R13;let R15:TS:=Ao _ R14;let R16:TS:=Ao _ R15;let R17:TS:=Ao _ R16;let R18:TS:=Ao (DQ _ _ R17) _;let R19:TS:=Ao _ R18;let R20:TS:=Ao _ R19;let R21:TS:=Ao _ R20;Ao _ R21 _ _ _
 intro R0 R1 R2 R3 R4 R5 R6 R7 R8 R9 R10 R11 R12 R13 R14 R15 R16 R17 R18 R19 R20 R21
 refine⟨_,rfl,sa,ns,0,rfl,hS,h63,by decide,by decide,λb0 o hb0 hb=>?_⟩
 have sb0:=Ae hb0 o
 generalize upd H b0 o=H0 at *
 refine⟨_,rfl,b0,0,3,12,rfl,hb,by omega,by omega,by omega,by omega,by omega,λt Ls zs vs zvs loops zones most H1 e1 e2 e3 e4 e5 e6 e7 e8 e9 hb1 sb1=>?_⟩
 have ok:CW loops:=⟨e4,e6⟩
 have pa:FT H1 t most loops zones:=⟨⟨Ls,zs,vs,zvs,e1,e2,e3,e7,e8⟩,ok,e5,e9⟩
 have s1:Same H H1:=sb0.Bm sb1 hb0
 clear sb1 e1 e2 e3 e4 e7 e8
 refine⟨_,rfl,λp dx hp hdx ndx=>?_⟩
 have s2:Same H1 (upd (upd H1 dx (.own p)) p (.ins C dx [])):=(Ae hdx _).trans (Ae (by rw[Am ndx.symm];exact hp) _)
 have hpx:(upd (upd H1 dx (.own p)) p (.ins C dx [])) p=some (.ins C dx []):=Ab
 generalize upd (upd H1 dx (.own p)) p (.ins C dx [])=Hx at *
 refine⟨p,dx,t,most,loops,zones,rfl,hpx,pa.same s2,λd1 d2 d3 H3 f1 f2 f3 n12 W sb=>⟨rfl,?_⟩⟩
 have s3:Same H1 H3:=s2.Bm sb hp
 have fd1:H d1=none:=(s1.trans s2).free f1
 have fd3:H d3=none:=(s1.trans s2).free f3
 have hb3:=hb1.same s3
 have sH3:=s1.trans s3
 have pa3:=pa.same s3
 clear f1 f2 f3 sb hpx s2 hp hdx ndx pa s1 s3
 obtain⟨dx6,hp6⟩:=W.ins
 refine⟨_,rfl,p,dx6,_,rfl,hp6,fno (by trivial),p,t,d1,d2,d3,hs0 loops,fl0 loops,gs0 loops,rfl,W,λlt xt H7 flt hlt plt s7=>⟨lt,rfl,⟨_,SqL.of hlt⟩,λlc hlc=>?_⟩⟩
 rw[AD] at plt
 have lxt:=QbW plt
 have K2:=mR ok
 let J0:YN:=λi σ HH=>(∃u v y,σ=[u,v,y])/\(∃ys,HH lc=some (.lst ys)/\Paired (BX HH) ys (((up (pdL loops) loops.length).take i).map Sd.spot))/\Same H7 HH
 refine FQ (xs:=xt) J0 ⟨⟨_,_,_,rfl⟩,⟨[],Ab,.nil⟩,Ae hlc _⟩ (λi σ HH _ h=>SqL.of (h.2.2 _ _ hlt)) (λi x σ HH hx h=>?_) (fun σ HH h=>?_)
 ·obtain⟨⟨u,v,y,rfl⟩,⟨ys,g1,g2⟩,g3⟩:=h
  obtain⟨d,hd,tt,uu,rfl,h5,h6⟩:=Paired.Ce plt hx
  have hi:=(Qag.mp hx).1
  have ly:=QbW g2
  rw[QbB,Qbu] at ly
  refine⟨tt,_,rfl,SqT.of (g3 _ _ h5),rfl,_,_,rfl,_,_,rfl,_,_,rfl,rfl,?_⟩
  have ntl:∀zs,HH lc≠some (.tup zs):=λzs z=>by rw[g1] at z;cases z
  have sL:=Al.upd (o:=.lst (ys++[.ref uu])) ntl
  refine Cp ⟨_,rfl,ys,g1,Aq (by omega),⟨_,_,_,rfl⟩,⟨_,Ab,?_⟩,g3.Bm Ag.upd hlc⟩
  rw[Qcx hd,QbD]
  exact Qcp ⟨uu,rfl,sL _ _ (g3 _ _ h6)⟩ (Paired.Av g2 λv r z=>z.tups sL)
 obtain⟨_,⟨ys,g1,g2⟩,g3⟩:=h
 rw[lxt,Qbs] at g2
 have s37:=s7.trans g3
 have nlb:lc≠b0:=λz=>by
  have:=(hb3.same s7).nb hlc
  exact this z.symm
 have L0:LS C HH b0 p t d1 d2 d3 lc 3000 most loops zones (hs0 loops) (gs0 loops):=⟨(hb3.same s37).mono (by omega),W.same s37,pa3.same s37,⟨ys,g1,g2⟩,nlb,n12,W8 loops,eX loops⟩
 have sH7:=sH3.trans s37
 clear g1 g2 g3 s37 hlc plt hlt flt s7 W hp6 hb3 pa3 sH3 hb1
 have hl':(ns.map V.int).length=ns.length:=QbB _
 refine⟨_,rfl,sa,_,rfl,.inl (sH7.seq hS),_,_,rfl,_,_,rfl,_,rfl,?_,?_,?_⟩
 ·rw[hl'];split <;> split <;> omega
 ·rw[hl'];split <;> split <;> omega
 let J1:YN:=λi σ HX=>∃(u1 u5 u6 u7 u8 u9 u10 u11 u12:Option V) (b:Addr) (gs:YT),σ=[some (.ref sa),u1,some (.ref t),some (.ref p),some (.ref lc),u5,u6,u7,u8,u9,u10,u11,u12]/\LS C HX b p t d1 d2 d3 lc 3000 most loops zones (hs0 loops) gs/\Same H HX
 refine FP J1 ⟨_,_,_,_,_,_,_,_,_,b0,_,rfl,L0,sH7⟩ (λi σ HX hi h=>?_) (fun σ HX h=>?_)
 ·obtain⟨u1,u5,u6,u7,u8,u9,u10,u11,u12,bp,gs,rfl,L,sm⟩:=h
  rw[hl'] at hi
  have hi':(i:Int)<=100:=by
   revert hi
   split <;> split <;> omega
  clear L0 sH7
  refine⟨_,rfl,_,rfl,sa,ns,_,rfl,sm.seq hS,h63,by omega,by omega,λb o hbn zE=>?_⟩
  have s7:=Ae hbn o
  have L1:=L.yK s7 hbn zE
  have fb:H b=none:=sm.free hbn
  have sm1:=sm.trans s7
  generalize upd HX b o=H1 at *
  clear L s7 hbn zE sm
  obtain⟨Ls,zs,ws,zvs,f1,f2,f3,f4,f5⟩:=L1.pa.at_
  have lw:=QbW f3
  have lo:=L1.pa.lo
  have hi3:=ok.hi
  refine⟨_,rfl,_,rfl,t,_,_,_,rfl,rfl,SqT.of f1,rfl,Ls,_,rfl,.inr (SqT.of f2),b,_,_,rfl,L1.bag,by omega,by omega,by omega,λr H2 r0 r1 hb2 sb2=>?_⟩
  obtain⟨k,rfl⟩ : ∃k:Nat,r=(k:Int):=⟨r.toNat,(QaO r0).symm⟩
  have hps:loops[k]?=some loops[k]:=Qak (by omega)
  generalize loops[k]=ps at hps
  have okl:=ok.ok ps (QaF hps)
  have l12:=okl.hi
  have L2:=L1.drawn sb2 hb2
  have sm2:Same H H2:=sm1.Bm sb2 fb
  clear f1 f2 f3 f4 f5 L1 sm1 sb2 hb2
  obtain⟨Ls,zs,ws,tp,us,f1,f2,lw2,hat,f3,lu,_⟩:=dW L2.pa hps
  refine⟨_,rfl,_,rfl,t,_,_,_,rfl,rfl,SqT.of f1,rfl,_,rfl,Ls,_,_,_,rfl,rfl,SqT.of f2,hat,tp,_,rfl,.inr (SqT.of f3),_,_,rfl,rfl,b,_,_,rfl,L2.bag,by omega,by omega,by omega,λr2 H3 q0 q1 hb3 sb3=>?_⟩
  obtain⟨a,rfl⟩ : ∃a:Nat,r2=(a:Int):=⟨r2.toNat,(QaO q0).symm⟩
  have L3:=L2.drawn sb3 hb3
  have sm3:Same H H3:=sm2.Bm sb3 fb
  clear f1 f2 f3 L2 sm2 sb3 hb3
  refine qW ?_
  dsimp only
  refine II ?_
  dsimp only
  show Ao (Ga _ _ _) _ _ _ _
  refine Hi (fun σ HZ=>∃n0:Int,σ=[some (.ref sa),some (.ref b),some (.ref t),some (.ref p),some (.ref lc),some (.int (0+(i:Int))),some (.int (k:Int)),some (.int (a:Int)),some (.int n0),u9,u10,u11,u12]/\InL ps (a:Int) n0/\LS C HZ b p t d1 d2 d3 lc 10 most loops zones (hs0 loops) gs/\Same H HZ) (fun σ HZ h=>?_) (λD' hn=>?_)
  rotate_left 1
  ·refine⟨_,rfl,_,_,rfl,rfl,_,rfl,Fg (λh0=>?_) (λh0=>?_)⟩
   ·have h0:(0:Int) < (a:Int):=Qbj h0
    obtain⟨j,rfl⟩ : ∃j,a=j+1:=⟨a - 1,by omega⟩
    have hp:ps[j]?=some ps[j]:=Qak (by omega)
    generalize ps[j]=pc at hp
    have hsp:=(okl.ok pc (QaF hp)).spur
    obtain⟨Ls,zs,ws,tp,us,f1,f2,lw2,hat,f3,lu,rd⟩:=dW L3.pa hps
    obtain⟨tj,uj,wj,ha,g1,g2,g3⟩:=rd j pc hp
    have ha:atI us (((j+1:Nat):Int) - 1)=some (.ref tj):=by rw[show ((j+1:Nat):Int) - 1=(j:Int) by omega];exact ha
    refine⟨_,rfl,_,rfl,t,_,_,_,rfl,rfl,SqT.of f1,rfl,_,rfl,Ls,_,_,_,rfl,rfl,SqT.of f2,hat,_,rfl,_,_,rfl,rfl,tp,_,_,_,rfl,rfl,SqT.of f3,ha,tj,_,_,_,rfl,rfl,SqT.of g1,rfl,uj,_,rfl,.inr (SqT.of g2),_,_,rfl,rfl,b,_,_,rfl,L3.bag,by omega,by omega,by omega,λr4 H4 w0 w1 hb4 sb4=>?_⟩
    exact hn _ _ ⟨r4,rfl,.inr ⟨j,pc,hp,by omega,w0,by omega⟩,(L3.drawn sb4 hb4).mono (by omega),sm3.Bm sb4 fb⟩
   ·have h0:=Qbe h0
    exact hn _ _ ⟨0,rfl,.inl ⟨by omega,rfl⟩,L3.mono (by omega),sm3⟩
  obtain⟨n0,rfl,hin,L4,sm4⟩:=h
  clear L3 sm3
  refine⟨Ar (by show 2<=1000;decide),λlh hlh=>⟨_,rfl,b,_,2,rfl,(L4.same (Ae hlh _)).bag,by omega,by decide,by decide,λr5 H5 v0 v1 hb5 sb5=>?_⟩⟩
  have s4:=Ae hlh (.lst [V.str "cut",.str "short"])
  have nlh:lh≠b:=λz=>by
   obtain⟨_,_,_,eb,_⟩:=L4.bag
   rw[z,eb] at hlh
   cases hlh
  have L5:=(L4.same s4).drawn sb5 hb5
  have sm5:Same H H5:=(sm4.trans s4).Bm sb5 fb
  obtain⟨z,hz,hat⟩ : ∃z:Str,(z="cut"\/z="short")/\atI [V.str "cut",.str "short"] r5=some (.str z):=by
   have:r5=0\/r5=1:=by omega
   rcases this with rfl | rfl
   ·exact⟨_,.inl rfl,rfl⟩
   ·exact⟨_,.inr rfl,rfl⟩
  refine⟨lh,_,_,_,rfl,rfl,SqL.of (sb5 _ _ Ab nlh),hat,?_⟩
  clear L4 sm4 s4 sb5 hb5 hlh
  refine qW ?_
  dsimp only
  show Ao (Ga _ _ _) _ _ _ _
  have cin:(⟨(k:Int),(a:Int),n0⟩ : Sp3)∈(hs0 loops).map (·.1):=by rw[W8];exact (Le hps).mpr hin
  refine Hi (fun σ HZ=>σ=[some (.ref sa),some (.ref b),some (.ref t),some (.ref p),some (.ref lc),some (.int (0+(i:Int))),some (.int (k:Int)),some (.int (a:Int)),some (.int n0),some (.str z),u10,u11,u12]/\LS C HZ b p t d1 d2 d3 lc 20 most loops zones (Bo loops ⟨(k:Int),(a:Int),n0⟩ z) gs/\Same H HZ) (fun σ HZ h=>?_) (λD' hn=>?_)
  rotate_left 1
  ·have fin:∀(z':Str) (tk:Addr) (HA HB:Hp),z'=z->LS C HA b p t d1 d2 d3 lc 20 most loops zones (hs0 loops) gs->Same H HA->WAt C HB p t d1 d2 d3 (Kd (hs0 loops) ⟨(k:Int),(a:Int),n0⟩ z') (fl0 loops) gs->Ag d1 HA HB->D'.nx [some (.ref sa),some (.ref b),some (.ref t),some (.ref p),some (.ref lc),some (.int (0+(i:Int))),some (.int (k:Int)),some (.int (a:Int)),some (.int n0),some (.str z),u10,u11,u12] HB:=λz' tk HA HB ez LA sA W sB=>by
    subst ez
    have LB:=LA.gC LA.wi.st W sB (T9 _ _ _) rfl
    rw[uX] at LB
    exact hn _ _ ⟨rfl,LB,sA.Bm sB fd1⟩
   obtain⟨dx5,hp5⟩:=L5.wi.ins
   refine⟨_,rfl,rfl,_,rfl,Fg (λh0=>?_) (λh0=>?_)⟩
   ·have h0:"cut"=z:=(V.str.inj (Qbj h0)).symm
    refine⟨_,rfl,p,dx5,_,rfl,hp5,fno (by trivial),_,rfl,_,rfl,_,rfl,Ar (by show 3<=1000;decide),λtk htk=>?_⟩
    have sk:=Ae htk (.tup [.int (k:Int),.int (a:Int),.int n0])
    have LK:=(L5.same sk).mono (n':=20) (by omega)
    exact⟨p,t,d1,d2,d3,hs0 loops,fl0 loops,gs,tk,⟨(k:Int),(a:Int),n0⟩,rfl,LK.wi,n12,Ab,cin,λHB W sB=>fin "cut" tk _ HB h0 LK (sm5.trans sk) W sB⟩
   ·have h0:"short"=z:=by
     rcases hz with e | e
     ·exact absurd (by rw[e]) (Qbe h0)
     ·exact e.symm
    refine⟨_,rfl,p,dx5,_,rfl,hp5,fno (by trivial),_,rfl,_,rfl,_,rfl,Ar (by show 3<=1000;decide),λtk htk=>?_⟩
    have sk:=Ae htk (.tup [.int (k:Int),.int (a:Int),.int n0])
    have LK:=(L5.same sk).mono (n':=20) (by omega)
    exact⟨p,t,d1,d2,d3,hs0 loops,fl0 loops,gs,tk,⟨(k:Int),(a:Int),n0⟩,rfl,LK.wi,n12,Ab,cin,λHB W sB=>fin "short" tk _ HB h0 LK (sm5.trans sk) W sB⟩
  obtain⟨rfl,L6,sm6⟩:=h
  clear L5 sm5
  obtain⟨dx6,hp6⟩:=L6.wi.ins
  refine⟨_,rfl,p,dx6,_,rfl,hp6,fno (by trivial),p,t,d1,d2,d3,_,fl0 loops,gs,rfl,L6.wi,L6.bs,L6.bg,λlr xr H7 flr hlr _ W7 sB7=>?_⟩
  have L7:=L6.gC L6.wi.gp W7 sB7 rfl (Ho _ _)
  have sm7:Same H H7:=sm6.Bm sB7 fd3
  have kg:=L6.k3
  clear L6 sm6 W7 sB7 hlr flr hp6
  refine⟨_,rfl,_,rfl,_,rfl,_,rfl,Ar (by show 3<=1000;decide),λtk htk=>?_⟩
  have sk:=Ae htk (.tup [.int (k:Int),.int (a:Int),.int n0])
  have L8:=L7.same sk
  have sm8:=sm7.trans sk
  have zf:(upd H7 tk (.tup [.int (k:Int),.int (a:Int),.int n0])) tk=some (.tup [.int (k:Int),.int (a:Int),.int n0]):=Ab
  clear L7 sm7 sk htk
  generalize upd H7 tk (.tup [.int (k:Int),.int (a:Int),.int n0])=H8 at *
  refine⟨_,rfl,t,tk,most,loops,zones,k,ps,(a:Int),n0,z,rfl,L8.pa,hps,zf,hin,hz,λtd l1 l2 x1 x2 S G H9 htd hl1 hl2 pS pG D s9=>⟨td,_,rfl,SqT.of htd,rfl,_,_,rfl,_,_,rfl,rfl,?_⟩⟩
  have L9:=L8.same s9
  have sm9:=sm8.trans s9
  clear L8 sm8 s9 zf
  dsimp only
  show Ao (Ga _ _ _) _ _ _ _
  refine Hi (fun σ HZ=>σ=[some (.ref sa),some (.ref b),some (.ref t),some (.ref p),some (.ref lc),some (.int (0+(i:Int))),some (.int (k:Int)),some (.int (a:Int)),some (.int n0),some (.str z),some (.ref l1),some (.ref l2),u12]/\LS C HZ b p t d1 d2 d3 lc 20 most loops zones (Bo loops ⟨(k:Int),(a:Int),n0⟩ z) (Bq (Bo loops ⟨(k:Int),(a:Int),n0⟩ z) gs)/\Same H HZ) (fun σ HZ h=>?_) (λD' hn=>?_)
  rotate_left 1
  ·obtain⟨xt,hxt,pxt⟩:=L9.tl
   refine⟨_,rfl,_,rfl,_,rfl,p,t,d1,d2,d3,lc,_,fl0 loops,_,most,loops,zones,xt,rfl,L9.wi,L9.pa,L9.bs,L9.bf,L9.f30,L9.k3,hxt,pxt,L9.d30,λls xs SL HA fls hls pls rls mls sA=>?_⟩
   obtain⟨eS,eG⟩:=mU ok hps hin kg D rls mls
   subst eS
   refine⟨_,rfl,_,_,.lst hls (Je pls),.lst (sA _ _ hl1) (Je (Paired.Av pS λ_ _ z=>z.tups (Al.of sA))),Er _,Er _,_,rfl,?_⟩
   rw[SeqAt.eqv_refl _ (QaA (Er _))]
   have LA:=L9.same sA
   obtain⟨dxa,hpa⟩:=LA.wi.ins
   refine Cd ⟨_,rfl,p,dxa,_,rfl,hpa,fno (by trivial),p,t,d1,d2,d3,_,fl0 loops,_,rfl,LA.wi,λlg xg HB flg hlg plg sB=>?_⟩
   rw[eG] at plg
   refine⟨_,rfl,_,_,.lst hlg (Qp plg),.lst (sB _ _ (sA _ _ hl2)) (Qp (Paired.Av pG λ_ _ z=>z.tups (Al.of (sA.trans sB)))),JT _,JT _,_,rfl,?_⟩
   rw[SeqAt.eqv_refl _ (QaA (JT _))]
   exact Cd (hn _ _ ⟨rfl,LA.same sB,(sm9.trans sA).trans sB⟩)
  obtain⟨rfl,LZ,smZ⟩:=h
  clear L9 sm9 D pS pG hl1 hl2 htd
  obtain⟨dxz,hpz⟩:=LZ.wi.ins
  refine⟨_,rfl,p,dxz,_,rfl,hpz,fno (by trivial),_,rfl,_,rfl,_,rfl,Ar (by show 3<=1000;decide),λtk htk=>?_⟩
  have sk:=Ae htk (.tup [.int (k:Int),.int (a:Int),.int n0])
  have LK:=LZ.same sk
  have smK:=smZ.trans sk
  have GO:(⟨(k:Int),(a:Int),n0⟩ : Sp3)∈(Bo loops ⟨(k:Int),(a:Int),n0⟩ z).map (·.1):=by rw[LZ.k1];exact (Le hps).mpr hin
  refine⟨p,t,d1,d2,d3,_,fl0 loops,_,tk,⟨(k:Int),(a:Int),n0⟩,rfl,LK.wi,n12,Ab,GO,λHB W sB=>?_⟩
  have LB:=LK.gC LK.wi.st W sB (T9 _ _ _) rfl
  have smB:Same H HB:=smK.Bm sB fd1
  rw[uU] at LB
  clear LZ smZ sk LK smK W sB hpz htk
  obtain⟨dxb,hpb⟩:=LB.wi.ins
  refine⟨_,rfl,p,dxb,_,rfl,hpb,fno (by trivial),p,t,d1,d2,d3,_,fl0 loops,_,rfl,LB.wi,LB.bs,LB.bg,λlr xr HD flr hlr _ WD sBD=>?_⟩
  have LD:=LB.gC LB.wi.gp WD sBD rfl (Ho _ _)
  have smD:Same H HD:=smB.Bm sBD fd3
  have kgB:=LB.k3
  generalize Bq (Bo loops ⟨(k:Int),(a:Int),n0⟩ z) gs=gB at *
  clear LB smB WD sBD hlr flr hpb
  obtain⟨Ls,zs,ws,zvs,f1,f2,f3,f4,f5⟩:=LD.pa.at_
  have lw3:=QbW f3
  refine⟨_,rfl,t,_,_,_,rfl,rfl,SqT.of f1,rfl,Ls,_,rfl,.inr (SqT.of f2),_,rfl,by omega,by omega,?_⟩
  rw[Qbm]
  let J2:YN:=λj σ HY=>∃(u6 u12:Option V),σ=[some (.ref sa),some (.ref b),some (.ref t),some (.ref p),some (.ref lc),some (.int (0+(i:Int))),u6,some (.int (a:Int)),some (.int n0),some (.str z),some (.ref l1),some (.ref l2),u12]/\LS C HY b p t d1 d2 d3 lc 20 most loops zones (hs0 loops) (Bq (hs0 loops) gB)/\Same H HY
  refine FP J2 ⟨_,_,rfl,LD,smD⟩ (λj σ HY hj h=>?_) (fun σ HY h=>?_)
  ·obtain⟨u6,u12,rfl,LY,smY⟩:=h
   have hpj:loops[j]?=some loops[j]:=Qak (by omega)
   generalize loops[j]=qs at hpj
   rw[Int.zero_add]
   obtain⟨xt,hxt,pxt⟩:=LY.tl
   have lx:=QbW pxt
   have d30:=LY.d30
   refine⟨_,rfl,lc,rfl,⟨_,SqL.of hxt⟩,λlo' hlo=>?_⟩
   have fB:∀i,(((dvS loops).take i).filter λs=>decide (s.lp=(j:Int))).length<=30:=λi=>Qci ((QaR.trans (List.take_sublist i _)).length_le) d30
   let J3:YN:=λi σ HX=>(∃u,σ=[u,some (.int (j:Int))])/\(∃zs,HX lo'=some (.lst zs)/\Paired (BX HX) zs (((dvS loops).take i).filter λs=>decide (s.lp=(j:Int))))/\Same HY HX
   refine FQ (xs:=xt) J3 ⟨⟨_,rfl⟩,⟨[],Ab,.nil⟩,Ae hlo _⟩ (λi σ HX _ h=>SqL.of (h.2.2 _ _ hxt)) (λi x σ HX hx h=>?_) (fun σ HX h=>?_)
   ·obtain⟨⟨u,rfl⟩,⟨zs,g1,g2⟩,g3⟩:=h
    obtain⟨sp,hsp,bb,rfl,hbt⟩:=Paired.Ce pxt hx
    have lz:=QbW g2
    have iK:=fB i
    have et:((dvS loops).take (i+1)).filter (λs=>decide (s.lp=(j:Int)))=((dvS loops).take i).filter (λs=>decide (s.lp=(j:Int)))++[sp].filter (λs=>decide (s.lp=(j:Int))):=by rw[Qcx hsp,Qbd]
    unfold Fl
    dsimp only
    refine⟨_,rfl,bb,_,_,_,rfl,rfl,SqT.of (g3 _ _ hbt),rfl,_,rfl,rfl,_,rfl,Fg (λh1=>?_) (λh1=>?_)⟩
    ·have h1:sp.lp=(j:Int):=V.int.inj (Qbj h1)
     have ntl:∀us,HX lo'≠some (.tup us):=λus z=>by rw[g1] at z;cases z
     have sL:=Al.upd (o:=.lst (zs++[.ref bb])) ntl
     refine⟨_,rfl,zs,g1,Aq (by omega),⟨_,rfl⟩,⟨_,Ab,?_⟩,g3.Bm Ag.upd hlo⟩
     rw[et,Qas (p:=λs:Sp3=>decide (s.lp=(j:Int))) (QbR h1)]
     exact Qcp ⟨bb,rfl,sL _ _ (g3 _ _ hbt)⟩ (Paired.Av g2 λ_ _ z=>z.tups sL)
    ·have h1:¬sp.lp=(j:Int):=λz=>Qbe h1 (by rw[z])
     refine⟨⟨_,rfl⟩,⟨zs,g1,?_⟩,g3⟩
     rw[et,Qar (p:=λs:Sp3=>decide (s.lp=(j:Int))) (by rw[QbF h1];decide)]
     show Paired _ _ (_++[])
     rw[QbG]
     exact g2
   obtain⟨_,⟨zs,g1,g2⟩,g3⟩:=h
   rw[lx,Qbs] at g2
   have g2:Paired (BX HX) zs (qg loops j):=g2
   have LX:=LY.same g3
   have smX:=smY.trans g3
   obtain⟨dx1,hp1⟩:=LX.wi.ins
   have gin:∀e,Cu j qs.length e∈(Bq (hs0 loops) gB).map (·.1):=λe=>by rw[LX.k3];exact Xc hpj e
   refine⟨_,rfl,p,dx1,_,rfl,hp1,fno (by trivial),_,rfl,p,t,d1,d2,d3,_,fl0 loops,_,most,loops,zones,j,qs,"A",rfl,LX.wi,LX.pa,hpj,LX.bs,LX.bf,LX.f30,gin _,λla xa LA HA fla hla pla pmA rA sA=>?_⟩
   have eA:=j6 ok hpj (.inl rfl) pmA rA
   subst eA
   refine⟨_,rfl,_,_,.lst hla (Je pla),.lst (sA _ _ g1) (Je (Paired.Av g2 λ_ _ z=>z.tups (Al.of sA))),Er _,Er _,_,rfl,?_⟩
   rw[SeqAt.eqv_refl _ (QaA (Er _))]
   have LA2:=LX.same sA
   obtain⟨dx2,hp2⟩:=LA2.wi.ins
   refine Cd ⟨_,rfl,p,dx2,_,rfl,hp2,fno (by trivial),_,rfl,p,t,d1,d2,d3,_,fl0 loops,_,most,loops,zones,j,qs,"B",rfl,LA2.wi,LA2.pa,hpj,LA2.bs,LA2.bf,LA2.f30,gin _,λlb xb LB HB flb hlb plb pmB rB sB=>?_⟩
   have eB:=j6 ok hpj (.inr rfl) pmB rB
   subst eB
   refine⟨_,rfl,_,_,.lst hlb (Je plb),.lst (sB _ _ (sA _ _ g1)) (Je (Paired.Av g2 λ_ _ z=>z.tups (Al.of (sA.trans sB)))),Er _,Er _,_,rfl,?_⟩
   rw[SeqAt.eqv_refl _ (QaA (Er _))]
   have LB2:=LA2.same sB
   obtain⟨dx3,hp3⟩:=LB2.wi.ins
   refine Cd ⟨_,rfl,p,dx3,_,rfl,hp3,fno (by trivial),p,t,d1,d2,d3,_,fl0 loops,_,rfl,LB2.wi,λlg xg HG flg hlg plg sG=>?_⟩
   have eG:((Bq (hs0 loops) gB).filter (·.2)).map (·.1)=[]:=by
    have:=Ow (z:="whole") (c:=⟨0,0,0⟩) (by decide) ok kgB
    rw[d8] at this
    exact this
   rw[eG] at plg
   refine⟨Ar (by show 0<=1000;decide),λle hle=>?_⟩
   have sE:=Ae hle (.lst [])
   refine⟨_,_,.lst (sE _ _ hlg) (Qp (Paired.Av plg λ_ _ z=>z.tups (Al.of sE))),.lst Ab .nil,JT _,JT [],_,rfl,?_⟩
   rw[show PyData.eqv (.list (([]:List Gt).map gtD)) (.list [])=true from rfl]
   exact Cd ⟨_,_,rfl,(LB2.same sG).same sE,((((smX.trans sA).trans sB).trans sG).trans sE)⟩
  ·obtain⟨u6,u12,rfl,LY,smY⟩:=h
   exact⟨_,_,_,_,_,_,_,_,_,b,_,rfl,LY.mono (by omega),smY⟩
 ·exact q HX
end
structure FnI (K:YD) (x:Str) (st:Stmt):Prop where
 ex:∃(f:Addr) (oc:Value) (od an:Option Addr) (sl:YI) (kV dc pm cd ct:Value),nsIn K mainGlobals x=some (some (.ref f))/\K.lookup f=some ⟨oc,od,.func (fnOf x x (DY st) (Dc st) (Aj st) .none kV dc pm an cd ct),sl⟩/\codeIn K cd x=true/\keepIn K (.ref f)=true
theorem FnI.of {K:YD} {x:Str} {st:Stmt} {f:Addr} {oc:Value} {od an:Option Addr} {sl:YI} {kV dc pm cd ct:Value} (a:nsIn K mainGlobals x=some (some (.ref f))) (l:K.lookup f=some ⟨oc,od,.func (fnOf x x (DY st) (Dc st) (Aj st) .none kV dc pm an cd ct),sl⟩) (c:codeIn K cd x=true) (k:keepIn K (.ref f)=true):FnI K x st:=⟨f,oc,od,an,sl,kV,dc,pm,cd,ct,a,l,c,k⟩
theorem FnI.code {K:YD} {mg:YB} {h:Heap} {x:Str} {st:Stmt} {ps:YF} (I:FnI K x st) (X:K.In h) (G:h.Ns mainGlobals mg) (hb:∀(kV doc pm:Value) (an:Option Addr) (cdv ct:Value) (us:YE),us.length=ps.length->bindArgs (fnOf x x (DY st) (Dc st) (Aj st) .none kV doc pm an cdv ct) ⟨us,[]⟩=pure (ps.zip us)):Code K mg x st ps:=by
 obtain⟨f,oc,od,an,sl,kV,dc,pm,cd,ct,a,l,c,k⟩:=I.ex
 exact Code.of X G a l c k hb
structure MtI (K:YD) (C:Addr) (x q:Str) (st:Stmt):Prop where
 ex:∃(f:Addr) (oc:Value) (od an:Option Addr) (sl:YI) (kV dc pm cd ct:Value),findIn K (.ref C) x=some (some (.ref f))/\isFn K (.ref f)=true/\K.lookup f=some ⟨oc,od,.func (fnOf x q (DY st) (Dc st) (Aj st) .none kV dc pm an cd ct),sl⟩/\codeIn K cd q=true/\keepIn K (.ref f)=true
theorem MtI.of {K:YD} {C:Addr} {x q:Str} {st:Stmt} {f:Addr} {oc:Value} {od an:Option Addr} {sl:YI} {kV dc pm cd ct:Value} (a:findIn K (.ref C) x=some (some (.ref f))) (i:isFn K (.ref f)=true) (l:K.lookup f=some ⟨oc,od,.func (fnOf x q (DY st) (Dc st) (Aj st) .none kV dc pm an cd ct),sl⟩) (c:codeIn K cd q=true) (k:keepIn K (.ref f)=true):MtI K C x q st:=⟨f,oc,od,an,sl,kV,dc,pm,cd,ct,a,i,l,c,k⟩
theorem MtI.code {K:YD} {C:Addr} {x q:Str} {st:Stmt} {ps:YF} (I:MtI K C x q st) (hb:∀(kV doc pm:Value) (an:Option Addr) (cdv ct:Value) (us:YE),us.length=ps.length->bindArgs (fnOf x q (DY st) (Dc st) (Aj st) .none kV doc pm an cdv ct) ⟨us,[]⟩=pure (ps.zip us)):Jc K C x q st ps:=by
 obtain⟨f,oc,od,an,sl,kV,dc,pm,cd,ct,a,i,l,c,k⟩:=I.ex
 have F:=VJ (st:=st) l c k
 exact⟨f,_,F,⟨a,i,k⟩,F.binds hb⟩
theorem MtI.init {K:YD} {C:Addr} {q:Str} {st:Stmt} {ps:YF} (I:MtI K C "__init__" q st) (mk:makesIn K C=true) (kc:keepIn K (.ref C)=true) (hb:∀(kV doc pm:Value) (an:Option Addr) (cdv ct:Value) (us:YE),us.length=ps.length->bindArgs (fnOf "__init__" q (DY st) (Dc st) (Aj st) .none kV doc pm an cdv ct) ⟨us,[]⟩=pure (ps.zip us)):∃f fd,Fun K "__init__" q st f fd/\Mk K C f/\Binds K fd ps []:=by
 obtain⟨f,oc,od,an,sl,kV,dc,pm,cd,ct,a,i,l,c,k⟩:=I.ex
 have F:=VJ (st:=st) l c k
 exact⟨f,_,F,⟨mk,a,i,kc⟩,F.binds hb⟩
theorem fn1 {F:Value->Value->Value->Option Addr->Value->Value->FuncData} {ps:YF} (hl:ps.length=1) (h:∀kV dc pm an cd ct a0,bindArgs (F kV dc pm an cd ct) ⟨[a0],[]⟩=pure (ps.zip [a0])) (kV dc pm:Value) (an:Option Addr) (cd ct:Value) (us:YE) (hu:us.length=ps.length):bindArgs (F kV dc pm an cd ct) ⟨us,[]⟩=pure (ps.zip us):=by
 rw[hl] at hu
 match us,hu with
 | [a0],_=>exact h kV dc pm an cd ct a0
theorem fn2 {F:Value->Value->Value->Option Addr->Value->Value->FuncData} {ps:YF} (hl:ps.length=2) (h:∀kV dc pm an cd ct a0 a1,bindArgs (F kV dc pm an cd ct) ⟨[a0,a1],[]⟩=pure (ps.zip [a0,a1])) (kV dc pm:Value) (an:Option Addr) (cd ct:Value) (us:YE) (hu:us.length=ps.length):bindArgs (F kV dc pm an cd ct) ⟨us,[]⟩=pure (ps.zip us):=by
 rw[hl] at hu
 match us,hu with
 | [a0,a1],_=>exact h kV dc pm an cd ct a0 a1
theorem fn3 {F:Value->Value->Value->Option Addr->Value->Value->FuncData} {ps:YF} (hl:ps.length=3) (h:∀kV dc pm an cd ct a0 a1 a2,bindArgs (F kV dc pm an cd ct) ⟨[a0,a1,a2],[]⟩=pure (ps.zip [a0,a1,a2])) (kV dc pm:Value) (an:Option Addr) (cd ct:Value) (us:YE) (hu:us.length=ps.length):bindArgs (F kV dc pm an cd ct) ⟨us,[]⟩=pure (ps.zip us):=by
 rw[hl] at hu
 match us,hu with
 | [a0,a1,a2],_=>exact h kV dc pm an cd ct a0 a1 a2
theorem fn4 {F:Value->Value->Value->Option Addr->Value->Value->FuncData} {ps:YF} (hl:ps.length=4) (h:∀kV dc pm an cd ct a0 a1 a2 a3,bindArgs (F kV dc pm an cd ct) ⟨[a0,a1,a2,a3],[]⟩=pure (ps.zip [a0,a1,a2,a3])) (kV dc pm:Value) (an:Option Addr) (cd ct:Value) (us:YE) (hu:us.length=ps.length):bindArgs (F kV dc pm an cd ct) ⟨us,[]⟩=pure (ps.zip us):=by
 rw[hl] at hu
 match us,hu with
 | [a0,a1,a2,a3],_=>exact h kV dc pm an cd ct a0 a1 a2 a3
theorem fn5 {F:Value->Value->Value->Option Addr->Value->Value->FuncData} {ps:YF} (hl:ps.length=5) (h:∀kV dc pm an cd ct a0 a1 a2 a3 a4,bindArgs (F kV dc pm an cd ct) ⟨[a0,a1,a2,a3,a4],[]⟩=pure (ps.zip [a0,a1,a2,a3,a4])) (kV dc pm:Value) (an:Option Addr) (cd ct:Value) (us:YE) (hu:us.length=ps.length):bindArgs (F kV dc pm an cd ct) ⟨us,[]⟩=pure (ps.zip us):=by
 rw[hl] at hu
 match us,hu with
 | [a0,a1,a2,a3,a4],_=>exact h kV dc pm an cd ct a0 a1 a2 a3 a4
theorem all_mk {l:PySem.W.OpenLaw} {w:World} {K:YD} {h:Heap} {mg:YB} {fa C fl:Addr} (X:K.In h) (G:h.Ns mainGlobals mg) (hfa:mg "law"=some (.ref fa))
  {odl anl:Option Addr} {sll:YI} {ocl kVl dcl pml cdl ctl:Value}
  (aC:nsIn K mainGlobals "Wires"=some (some (.ref C)))
  (m0:MtI K C "__init__" "Wires.__init__" Ji)
  (m1:MtI K C "check_stretch" "Wires.check_stretch" Gi)
  (m2:MtI K C "cut" "Wires.cut" Ot)
  (m3:MtI K C "short" "Wires.short" Lz)
  (m4:MtI K C "mend" "Wires.mend" M8)
  (m5:MtI K C "there" "Wires.there" Ly)
  (m6:MtI K C "parted" "Wires.parted" Kg)
  (m7:MtI K C "act" "Wires.act" Ou)
  (m8:MtI K C "come_to_rest" "Wires.come_to_rest" CT)
  (m9:MtI K C "heard" "Wires.heard" IW)
  (i0:FnI K "is_whole" Mj)
  (i1:FnI K "is_within" Oi)
  (i2:FnI K "is_row" Ud)
  (i3:FnI K "are_wholes" M7)
  (i4:FnI K "is_rising" Oj)
  (i5:FnI K "are_rising_within" Fj)
  (i6:FnI K "is_name" Rb)
  (i7:FnI K "is_device" Om)
  (i8:FnI K "is_spur_device" Jf)
  (i9:FnI K "is_spur" Q9)
  (i10:FnI K "is_place" Qa)
  (i11:FnI K "is_loop" Rf)
  (i12:FnI K "is_zone" Q8)
  (i13:FnI K "are_loops" Oq)
  (i14:FnI K "are_zones" Oo)
  (i15:FnI K "is_plan" Ra)
  (i16:FnI K "place_devices" JH)
  (i17:FnI K "devices" Rg)
  (i18:FnI K "stretches" Kz)
  (i19:FnI K "openers" NZ)
  (i20:FnI K "parts" Wn)
  (i21:FnI K "address_twice" JK)
  (i22:FnI K "part_crowded" Ke)
  (i23:FnI K "address_stranger" Hl)
  (i24:FnI K "address_shared" Jh)
  (i25:FnI K "wrong" Wm)
  (i26:FnI K "is_let_by" Ol)
  (i27:FnI K "spur_pieces" Lw)
  (i28:FnI K "come_to" Rh)
  (i29:FnI K "has_short" KH)
  (i30:FnI K "comes_to_short" Jg)
  (i31:FnI K "_law_bag" Wo)
  (i32:FnI K "_law_take" Ub)
  (i33:FnI K "_law_name" P0)
  (i34:FnI K "_law_names" N5)
  (i35:FnI K "_law_loop" Uc)
  (i36:FnI K "_law_parts" Q7)
  (i37:FnI K "_law_plan" Kf)
  (i38:FnI K "_law_between" KD)
  (i39:FnI K "_law_silent" Mi)
  (i40:FnI K "_law_due" Sv)
  (al:nsIn K mainGlobals "law"=some (some (.ref fl))) (ll:K.lookup fl=some ⟨ocl,odl,.func (fnOf "law" "law" (DY KC) (Dc KC) (Aj KC) .none kVl dcl pml anl cdl ctl),sll⟩) (cl:codeIn K cdl "law"=true) (kl:keepIn K (.ref fl)=true)
  (pg:plainGet K C Str.empty=true) (hd:hasDictIn K C=true) (po:PySem.W.plainOver K C=true) (sa:findIn K (.ref C) "__setattr__"=some (some (.builtin "object.__setattr__"))) (mk:makesIn K C=true) (kc:keepIn K (.ref C)=true)
  (n0:findIn K (.ref C) "plan"=some none)
  (n1:findIn K (.ref C) "states"=some none)
  (n2:findIn K (.ref C) "filled"=some none)
  (n3:findIn K (.ref C) "gaps"=some none)
  (z0:nsIn K mainGlobals "isinstance"=some none)
  (z1:nsIn K mainGlobals "int"=some none)
  (z2:nsIn K mainGlobals "bool"=some none)
  (z3:nsIn K mainGlobals "tuple"=some none)
  (z4:nsIn K mainGlobals "list"=some none)
  (z5:nsIn K mainGlobals "str"=some none)
  (z6:nsIn K mainGlobals "len"=some none)
  (z7:nsIn K mainGlobals "all"=some none)
  (z8:nsIn K mainGlobals "abs"=some none)
  (z9:nsIn K mainGlobals "max"=some none)
  (z10:nsIn K mainGlobals "min"=some none)
  (z11:nsIn K mainGlobals "range"=some none)
  (z12:nsIn K mainGlobals "sorted"=some none)
  (z13:nsIn K mainGlobals "any"=some none)
  (z14:nsIn K mainGlobals "sum"=some none)
  (z15:nsIn K mainGlobals "enumerate"=some none)
  (z16:nsIn K mainGlobals "zip"=some none)
  (z17:nsIn K mainGlobals "reversed"=some none)
  (z18:nsIn K mainGlobals "dict"=some none)
  (z19:nsIn K mainGlobals "ord"=some none)
  {op oe:Addr} {odo ode:Option Addr} {no ne:Nat} {slo sle:YI} {tks tko:Tok} {kd wk:Addr} {odk odw:Option Addr} {nk nw:Nat} {slk slw:YI} {tq1 tq2 tq3 tq4 tq5 tq6 BT:Tok}
  (ao:nsIn K mainGlobals "OPENER"=some (some (.ref op)))
  (lo:K.lookup op=some ⟨.type "tuple",odo,.seq #[.str "opener" tks,.int 0 tko,.ref oe] no,slo⟩)
  (lq2:K.lookup oe=some ⟨.type "tuple",ode,.seq #[] ne,sle⟩)
  (aKd:nsIn K mainGlobals "KINDS"=some (some (.ref kd)))
  (lKd:K.lookup kd=some ⟨.type "tuple",odk,.seq #[.str "seeker" tq1,.str "knob" tq2,.str "bell" tq3,.str "door" tq4] nk,slk⟩)
  (aWk:nsIn K mainGlobals "WARNING_KINDS"=some (some (.ref wk)))
  (lWk:K.lookup wk=some ⟨.type "tuple",odw,.seq #[.str "seeker" tq5,.str "knob" tq6] nw,slw⟩)
  (aSL:nsIn K mainGlobals "SMALL_LETTERS"=some (some (.str "abcdefghijklmnopqrstuvwxyz" BT)))
  : ∃fd:FuncData,(∀(s:Shared) (v:Value),BindsTo s fd ⟨[v],[]⟩ [("_law_script",v)])/\∀base:Heap,K.In base->base.Ns mainGlobals mg->GD l.prog w K mg base CX0 13 fa fd ["_law_script"] (Yq K):=by
 have e:=hfa.symm.trans (mg_of X G al)
 cases e
 have TN:Nm mg:=⟨mg_none_of X G z0,mg_none_of X G z1,mg_none_of X G z2,mg_none_of X G z3,mg_none_of X G z4,mg_none_of X G z5,mg_none_of X G z6,mg_none_of X G z7,mg_none_of X G z8,mg_none_of X G z9,mg_none_of X G z10,mg_none_of X G z11,mg_none_of X G z12,mg_none_of X G z13,mg_none_of X G z14,mg_none_of X G z15,mg_none_of X G z16,mg_none_of X G z17,mg_none_of X G z18,mg_none_of X G z19⟩
 have TX:Tx K mg op oe:=⟨TN,⟨_,mg_of X G ao,rfl⟩,λH=>.inr ⟨_,_,_,lo,rfl,rfl,(by show 3<=sizeLine;decide),.cons ⟨_,rfl⟩ (.cons ⟨_,rfl⟩ (.cons rfl .nil))⟩,λH=>.inr ⟨_,_,_,lq2,rfl,rfl,(by show 0<=sizeLine;decide),.nil⟩⟩
 have TY:Ty K mg op oe kd wk:={ toTx:=TX,KINDS:=⟨_,mg_of X G aKd,rfl⟩,kdT:=λH=>.inr ⟨_,_,_,lKd,rfl,rfl,(by show 4<=sizeLine;decide),.cons ⟨_,rfl⟩ (.cons ⟨_,rfl⟩ (.cons ⟨_,rfl⟩ (.cons ⟨_,rfl⟩ .nil)))⟩,WARNING_KINDS:=⟨_,mg_of X G aWk,rfl⟩,wkT:=λH=>.inr ⟨_,_,_,lWk,rfl,rfl,(by show 2<=sizeLine;decide),.cons ⟨_,rfl⟩ (.cons ⟨_,rfl⟩ .nil)⟩,SMALL_LETTERS:=⟨_,mg_of X G aSL,⟨_,rfl⟩⟩ }
 have T:Tw K mg op oe kd wk C:={ toTy:=TY,cl:=⟨pg,hd,po,sa⟩,mgC:=mg_of X G aC,Z8:=n0,Gd:=n1,Qm:=n2,Gs:=n3 }
 have jm:=m0.init (ps:=Fd) mk kc (fn2 rfl (by intros;rfl))
 have V3:=m1.code (ps:=Ck) (fn2 rfl (by intros;rfl))
 have BI:=m2.code (ps:=Ir) (fn2 rfl (by intros;rfl))
 have wH:=m3.code (ps:=GK) (fn2 rfl (by intros;rfl))
 have AB:=m4.code (ps:=Hr) (fn2 rfl (by intros;rfl))
 have wG:=m5.code (ps:=GJ) (fn1 rfl (by intros;rfl))
 have rR:=m6.code (ps:=Gq) (fn1 rfl (by intros;rfl))
 have BM:=m7.code (ps:=Iu) (fn2 rfl (by intros;rfl))
 have Xm:=m8.code (ps:=Du) (fn1 rfl (by intros;rfl))
 have wI:=m9.code (ps:=Fq) (fn3 rfl (by intros;rfl))
 have V6:=i0.code (ps:=Fz) X G (fn1 rfl (by intros;rfl))
 have cN:=i1.code (ps:=Eu) X G (fn3 rfl (by intros;rfl))
 have su:=i2.code (ps:=Dt) X G (fn3 rfl (by intros;rfl))
 have bL:=i3.code (ps:=Gp) X G (fn2 rfl (by intros;rfl))
 have cO:=i4.code (ps:=Il) X G (fn1 rfl (by intros;rfl))
 have QM:=i5.code (ps:=DN) X G (fn5 rfl (by intros;rfl))
 have oJ:=i6.code (ps:=K8) X G (fn1 rfl (by intros;rfl))
 have cQ:=i7.code (ps:=GZ) X G (fn2 rfl (by intros;rfl))
 have U0:=i8.code (ps:=EY) X G (fn1 rfl (by intros;rfl))
 have oG:=i9.code (ps:=K6) X G (fn1 rfl (by intros;rfl))
 have ju:=i10.code (ps:=JN) X G (fn1 rfl (by intros;rfl))
 have oK:=i11.code (ps:=K9) X G (fn1 rfl (by intros;rfl))
 have oE:=i12.code (ps:=K5) X G (fn1 rfl (by intros;rfl))
 have cU:=i13.code (ps:=Ip) X G (fn1 rfl (by intros;rfl))
 have cT:=i14.code (ps:=Io) X G (fn1 rfl (by intros;rfl))
 have oH:=i15.code (ps:=K7) X G (fn1 rfl (by intros;rfl))
 have V5:=i16.code (ps:=Ej) X G (fn3 rfl (by intros;rfl))
 have oM:=i17.code (ps:=Gw) X G (fn1 rfl (by intros;rfl))
 have cL:=i18.code (ps:=Ij) X G (fn1 rfl (by intros;rfl))
 have oh:=i19.code (ps:=K1) X G (fn1 rfl (by intros;rfl))
 have wK:=i20.code (ps:=Pj) X G (fn2 rfl (by intros;rfl))
 have V7:=i21.code (ps:=FJ) X G (fn1 rfl (by intros;rfl))
 have Xo:=i22.code (ps:=Gn) X G (fn1 rfl (by intros;rfl))
 have RW:=i23.code (ps:=Ef) X G (fn1 rfl (by intros;rfl))
 have U4:=i24.code (ps:=Fb) X G (fn1 rfl (by intros;rfl))
 have wJ:=i25.code (ps:=Ph) X G (fn1 rfl (by intros;rfl))
 have cP:=i26.code (ps:=Im) X G (fn1 rfl (by intros;rfl))
 have Yn:=i27.code (ps:=GF) X G (fn3 rfl (by intros;rfl))
 have oN:=i28.code (ps:=Jv) X G (fn4 rfl (by intros;rfl))
 have cR:=i29.code (ps:=G3) X G (fn2 rfl (by intros;rfl))
 have U3:=i30.code (ps:=DW) X G (fn3 rfl (by intros;rfl))
 have wM:=i31.code (ps:=Pq) X G (fn2 rfl (by intros;rfl))
 have rT:=i32.code (ps:=Hq) X G (fn2 rfl (by intros;rfl))
 have rY:=i33.code (ps:=Nr) X G (fn1 rfl (by intros;rfl))
 have oA:=i34.code (ps:=K4) X G (fn2 rfl (by intros;rfl))
 have rZ:=i35.code (ps:=Nt) X G (fn3 rfl (by intros;rfl))
 have ou:=i36.code (ps:=K3) X G (fn1 rfl (by intros;rfl))
 have rW:=i37.code (ps:=Nq) X G (fn3 rfl (by intros;rfl))
 have cM:=i38.code (ps:=Ik) X G (fn3 rfl (by intros;rfl))
 have jt:=i39.code (ps:=JM) X G (fn3 rfl (by intros;rfl))
 have wL:=i40.code (ps:=Pk) X G (fn3 rfl (by intros;rfl))
 have BO:=VJ (st:=KC) ll cl kl
 refine⟨fnOf "law" "law" (DY KC) (Dc KC) (Aj KC) .none kVl dcl pml anl cdl ctl,λs v=>.of_eq rfl,λbase _ _=>?_⟩
 have S8:=qx (P:=l.prog) (w:=w) (base:=base) wM TN
 have BJ:=kI (P:=l.prog) (w:=w) (base:=base) rT TN
 have By:=Ru (P:=l.prog) (w:=w) (base:=base) V6 TN
 have F8:=bT (P:=l.prog) (w:=w) (base:=base) V6 TN
 have iW:=ZS (P:=l.prog) (w:=w) (base:=base) cN TN F8
 have OJ:=kJ (P:=l.prog) (w:=w) (base:=base) su TN
 have zL:=Ye (P:=l.prog) (w:=w) (base:=base) bL TN By OJ
 have FK:=ZV (P:=l.prog) (w:=w) (base:=base) cO TY
 have FI:=Yg (P:=l.prog) (w:=w) (base:=base) QM TY OJ iW FK
 have FX:=iw (P:=l.prog) (w:=w) (base:=base) oJ TY
 have zK:=ZX (P:=l.prog) (w:=w) (base:=base) cQ TY iW
 have FH:=Tr (P:=l.prog) (w:=w) (base:=base) U0 TY OJ zK
 have FC:=ig (P:=l.prog) (w:=w) (base:=base) oG TY OJ FH
 have FS:=bU (P:=l.prog) (w:=w) (base:=base) ju TY OJ iW zK FC
 have F5:=iz (P:=l.prog) (w:=w) (base:=base) oK TY OJ FS
 have Fs:=gZ (P:=l.prog) (w:=w) (base:=base) oE TY OJ FX FI
 have F4:=Z2 (P:=l.prog) (w:=w) (base:=base) cU TY OJ F5
 have Fm:=Z1 (P:=l.prog) (w:=w) (base:=base) cT TY OJ Fs
 have zJ:=Uj (P:=l.prog) (w:=w) (base:=base) V5 TX
 have jc:=iB (P:=l.prog) (w:=w) (base:=base) oM TX zJ
 have FB:=ZR (P:=l.prog) (w:=w) (base:=base) cL TX
 have FU:=gY (P:=l.prog) (w:=w) (base:=base) oh TX
 have FL:=qu (P:=l.prog) (w:=w) (base:=base) wK TX zJ
 have FR:=iu (P:=l.prog) (w:=w) (base:=base) oH TY OJ iW F4 Fm jc
 have GB:=Ul (P:=l.prog) (w:=w) (base:=base) V7 TY jc
 have Gr:=Vm (P:=l.prog) (w:=w) (base:=base) Xo TY FL
 have GE:=QJ (P:=l.prog) (w:=w) (base:=base) RW TY jc
 have FF:=Tv (P:=l.prog) (w:=w) (base:=base) U4 TY
 have Fu:=qm (P:=l.prog) (w:=w) (base:=base) wJ TY GB Gr GE FF
 have F7:=ZW (P:=l.prog) (w:=w) (base:=base) cP TY FR Fu
 have rC:=Uk (P:=l.prog) (w:=w) (base:=base) V3 T zL
 have Go:=yD (P:=l.prog) (w:=w) (base:=base) BI T rC
 have FD:=qt (P:=l.prog) (w:=w) (base:=base) wH T rC
 have F3:=vG (P:=l.prog) (w:=w) (base:=base) AB T rC
 have FA:=qp (P:=l.prog) (w:=w) (base:=base) wG T
 have F9:=qy (P:=l.prog) (w:=w) (base:=base) jm T F7 FB jc FU
 have Be:=Ww (P:=l.prog) (w:=w) (base:=base) Yn T
 have uh:=iC (P:=l.prog) (w:=w) (base:=base) oN T Be
 have uf:=Z0 (P:=l.prog) (w:=w) (base:=base) cR T
 have ug:=Tt (P:=l.prog) (w:=w) (base:=base) U3 T uh uf
 have Bi:=kE (P:=l.prog) (w:=w) (base:=base) rR T
 have BA:=yE (P:=l.prog) (w:=w) (base:=base) BM T zL ug
 have Bz:=Vn (P:=l.prog) (w:=w) (base:=base) Xm T ug BA
 have uc:=qz (P:=l.prog) (w:=w) (base:=base) wI T uh uf
 have FY:=vD (P:=l.prog) (w:=w) (base:=base) rY TN BJ
 have FV:=qw (P:=l.prog) (w:=w) (base:=base) oA TN FY
 have F6:=vH (P:=l.prog) (w:=w) (base:=base) rZ TN BJ
 have FM:=kj (P:=l.prog) (w:=w) (base:=base) ou TN
 have FO:=vB (P:=l.prog) (w:=w) (base:=base) rW TN BJ F6 FM FV
 have GA:=iD (P:=l.prog) (w:=w) (base:=base) cM T
 have Gc:=yC (P:=l.prog) (w:=w) (base:=base) wL T GA
 have FE:=kh (P:=l.prog) (w:=w) (base:=base) jt T uc
 exact yx BO T S8 BJ FO F9 Gc FE FA Go FD F3 Bz Bi uc
theorem walk {l:PySem.W.OpenLaw} {q:Program} {loose:YF} {XP:(YB)->Heap->Prop} {YP:World->Heap->Prop} {d:DefRec} {K:Params->YD} (hn:l.most=some 63) (hdf:d.params.defaults=[])
  (hY:∀(w:World) (h:Heap),YP w h->(K w.params).In h)
  (F:∀(w:World) (mg:YB) (fa:Addr) (h:Heap),(K w.params).In h->h.Ns mainGlobals mg->mg d.name=some (.ref fa) ->
   ∃fd:FuncData,(∀(s:Shared) (u:Value),BindsTo s fd ⟨[u],[]⟩ [("_law_script",u)])/\∀base:Heap,(K w.params).In base->base.Ns mainGlobals mg->GD l.prog w (K w.params) mg base CX0 13 fa fd ["_law_script"] (Yq (K w.params))) :
  PySem.W.WalkO q loose XP YP l.row.toRowW d [] (λf vs=>PySem.call f vs):=
 L2.uH (n:=63) (k:=13) (x:="_law_script") (CX:=λ_=>CX0) (sp:=λw=>Yq (K w.params)) hn (by decide) hdf ⟨rfl,by decide,by decide⟩ hY F (λ_ _ a ns hl _ hS=>⟨a,ns,rfl,hS,hl,λ_=>rfl⟩) λ_ _ _ _ _ z=>z
end K12
/-! names that stay free of quick twins: the head comes through without them, and the compiled text is much smaller -/
namespace PySem.W.Fast
def tw7574779224600473442:=0
def tw12885334060646536406:=0
def tw13972710691263364987:=0
def tw7994478207310637217:=0
def tw16249238501201834210:=0
def tw8300032414377914450:=0
def tw14018626340693914918:=0
def tw8608577418256624106:=0
def tw9744539960255569060:=0
def tw2927349074271766725:=0
def tw5873516860270602037:=0
def tw4200045248949285699:=0
def tw16745270979651009226:=0
def tw10113860111745201294:=0
def tw17598458475665925260:=0
def tw17689153084509467862:=0
def tw13621751552305208223:=0
def tw16842392181637236640:=0
def tw9047297405441214871:=0
def tw11061684290678154921:=0
def tw15767428054289966358:=0
def tw293009643700151683:=0
def tw1049822330194925708:=0
def tw1375915694328218835:=0
def tw11827181846155537438:=0
def tw6321107743250368288:=0
def tw10473437903567975457:=0
def tw4682615460472543452:=0
def tw5184764465570631278:=0
def tw5169674706485081863:=0
def tw15789717689729436174:=0
def tw3735601745029276918:=0
def tw695503023821185350:=0
def tw11178401072927821967:=0
def tw7126388869136728102:=0
def tw17637102413769308139:=0
def tw11437702839169001183:=0
def tw16568906822495043861:=0
def tw4441191540680517423:=0
def tw12793675226819721171:=0
def tw8673522746757111036:=0
def tw11152450079581206872:=0
def tw17351344490546433828:=0
def tw10785758786368482667:=0
def tw8563426145851909404:=0
def tw7093105887368266831:=0
def tw16220338311997247098:=0
def tw7302765755712675609:=0
def tw10560835741830912546:=0
def tw14650751052010796424:=0
def tw10085540480254956394:=0
def tw14910459079650987888:=0
def tw3192894827170406281:=0
def tw15857734773575782499:=0
def tw1278142321559604585:=0
def tw18280675427160814999:=0
def tw483798069389257279:=0
def tw7314844320088318843:=0
def tw2112056070848280179:=0
def tw6391011452902673387:=0
def tw7578966511379413534:=0
def tw7927721065996867241:=0
def tw2086932224389449074:=0
def tw4101756098512477186:=0
def tw2024576945385360867:=0
def tw1926096759963002437:=0
def tw2985158280173230039:=0
def tw3844788955813803764:=0
def tw11215552670826035514:=0
def tw4564945146840817469:=0
def tw12142716614519796017:=0
def tw7303552637448148709:=0
def tw6939364587219042944:=0
def tw13826109570276786021:=0
def tw7748889605617072692:=0
def tw15063605604354628844:=0
def tw1304066016822036845:=0
def tw17481719672459966600:=0
def tw17128301007328576866:=0
def tw9283502924712513144:=0
def tw16057596427908381720:=0
def tw10409906345954193667:=0
def tw3233311560332387265:=0
def tw6382741469864060043:=0
def tw10881523254770658771:=0
def tw4960639072889760730:=0
def tw9871991705761286473:=0
def tw6466005633287196401:=0
def tw7855682047203240734:=0
def tw9578971452128733378:=0
def tw10040802351826559907:=0
def tw17044693949169193523:=0
def tw4225977080825401078:=0
def tw16327595034460185790:=0
def tw15892192670425366987:=0
def tw6628033105328495241:=0
def tw12370066717467465067:=0
def tw13139428370977687950:=0
def tw993570966172294436:=0
def tw14679934475106045040:=0
def tw4029332472717860984:=0
def tw12070993106333168901:=0
def tw2408500597082389119:=0
def tw13970513451837641522:=0
def tw2326344092207016997:=0
def tw11512903604923757270:=0
def tw7161956742387333482:=0
def tw8112642815127462982:=0
def tw18290710216098115544:=0
def tw6567258977661989298:=0
def tw5162298501357346200:=0
def tw15360128081887928203:=0
def tw9676861487480339305:=0
def tw4823846945690017644:=0
def tw9649394789501736055:=0
def tw7271255019639071329:=0
def tw6868958177511679256:=0
def tw12877107849041005282:=0
def tw16579072255032501576:=0
def tw9573195445957610530:=0
def tw2278321222298401256:=0
def tw8155833404354642292:=0
def tw11365452826540346839:=0
def tw6655597713273289990:=0
def tw2862608002932734135:=0
def tw7367096827252499011:=0
def tw6266109281352354538:=0
def tw18039528043532435456:=0
def tw912136767607347392:=0
def tw10781521343027714151:=0
def tw5614346519815445705:=0
def tw8075165586761656373:=0
def tw15717900023090519517:=0
def tw7287099821316745601:=0
def tw2904340920753158987:=0
def tw14941392189445251992:=0
def tw11752087178752420029:=0
def tw15898351280571475219:=0
def tw2221812493130752757:=0
def tw16507745347899433607:=0
def tw14716036610487485950:=0
def tw12832722806932797218:=0
def tw2591718598241770238:=0
def tw1848086822164543494:=0
def tw9683566770912509298:=0
def tw8448863007961989392:=0
def tw5691943523625206139:=0
def tw10590396102696723514:=0
def tw11873705594197846658:=0
def tw5203006607958496261:=0
def tw10444598082434857859:=0
def tw11206268884383809050:=0
def tw8734032445803609757:=0
def tw4079643922371257592:=0
def tw7399050971777138698:=0
def tw5517179624033304387:=0
def tw3808201969939019529:=0
def tw3023276039628803676:=0
def tw14723053772650885226:=0
def tw3791335610639229233:=0
def tw1419718196219581284:=0
def tw3202469598606931564:=0
def tw16978469072206531993:=0
def tw5717438601296432348:=0
def tw12091440018151429911:=0
def tw16407978037768631579:=0
def tw1970820598491705370:=0
def tw4829310723900083373:=0
def tw11301912361366953044:=0
def tw17261985629278627846:=0
def tw7598897228089400263:=0
def tw5662059086698002921:=0
def tw10927694289542624424:=0
def tw8384063083443525320:=0
def tw15381850984954709481:=0
def tw6185509522771579407:=0
def tw4271996623663254997:=0
def tw14030871634895232949:=0
def tw7910412592568471941:=0
def tw4423005917582027597:=0
def tw14308020949288237363:=0
def tw17144691910262818037:=0
def tw16350464110403119659:=0
def tw11451288233650377634:=0
def tw3212888754996287618:=0
def tw11205408993119961796:=0
def tw10527401418964281122:=0
def tw10159409922361225384:=0
def tw4491154871864746291:=0
def tw15067081540404646599:=0
def tw17260806211726024774:=0
def tw9396579434693140659:=0
def tw7899884644135364818:=0
def tw2799654055793945145:=0
def tw2928960846277523772:=0
def tw16357651919441364424:=0
def tw5337282354139749066:=0
def tw17294877403932444732:=0
def tw15818701580926795359:=0
def tw8444682435446529684:=0
def tw13985585556316933243:=0
def tw1096229329250055539:=0
def tw7242190408671271205:=0
def tw6910672971688056357:=0
def tw3258341365196057498:=0
def tw15348384059632041770:=0
def tw14514929241514815338:=0
def tw7847136022223960270:=0
def tw14221016352979410043:=0
def tw11482577100997562210:=0
def tw8933868669977533920:=0
def tw10202444132628237291:=0
def tw1521050829050582443:=0
def tw5657492348513778866:=0
def tw15283291051985889764:=0
def tw11864938793708084815:=0
def tw14621375030137923927:=0
def tw14515469416311382907:=0
def tw6079180913428781923:=0
def tw13599582612665944029:=0
def tw16736908700699975098:=0
def tw9900250491694405771:=0
def tw6723554068285955962:=0
def tw14681039306410873405:=0
def tw5453491303550622606:=0
def tw5015626640570485067:=0
def tw7842663059223706736:=0
def tw3283014352417891871:=0
def tw927733660432261579:=0
def tw1935827567584827996:=0
def tw6085567568387417422:=0
def tw2022830127623935656:=0
def tw13385567786095005027:=0
def tw10584530742166484511:=0
def tw5868542322755514546:=0
def tw5715627791071863068:=0
def tw9971044156245200663:=0
def tw7837905760869503374:=0
def tw9673722709624311947:=0
def tw15072868728342598692:=0
def tw6321714371145417818:=0
def tw1703208663979135922:=0
def tw15227316180986182931:=0
def tw1277400398246058967:=0
def tw646670331270462444:=0
def tw5277057910384668177:=0
def tw17705071318267630686:=0
def tw15415652755455620761:=0
def tw7421322996306246450:=0
def tw17871071235737101286:=0
def tw6929722181385607782:=0
def tw4908283703465237354:=0
def tw13497466747308630551:=0
def tw8309754798358895511:=0
def tw4801949336341082322:=0
def tw391548094823968967:=0
def tw15840994710581983599:=0
def tw14997908180906774921:=0
def tw16030125395451808466:=0
def tw1462748875257341365:=0
def tw10150450658890460783:=0
def tw10091424455876263019:=0
def tw7649502333119833496:=0
def tw3854273149659394900:=0
def tw3848529614012125433:=0
def tw16063752276783907524:=0
def tw8377482953198862827:=0
def tw2212400415728765596:=0
def tw9432693446065641440:=0
def tw17052514823156402217:=0
def tw1075712950241764931:=0
def tw16465252457719599689:=0
def tw14565344027156476244:=0
def tw332484864873913385:=0
def tw4955556223739602195:=0
def tw11262022659287887333:=0
def tw12319022243329164381:=0
def tw2352837601660503492:=0
def tw17586530515286972189:=0
def tw12859221834760397603:=0
def tw9047857842358124397:=0
def tw9314009062916363758:=0
end PySem.W.Fast
open PySem PySem.W PyProof.Rows
set_option maxRecDepth 100000 in
set_option maxHeartbeats 0 in
theorem PySem.Challenge.cw_warnloop_k12_whole_one_fault_holds : PySem.Challenge.rw_warnloop_k12_whole_one_fault.Holds := by
 w_on;o_law;k_head;(case hw=>w_witness2)
 k_fill
 refine K12.walk (l:=PySem.Challenge.rw_warnloop_k12_whole_one_fault) rfl rfl (λw h Y=>PySem.W.kIn_of Y) ?F
 case F=>
  intro w mg fa h KX G hmg
  refine' K12.all_mk KX G hmg ?aC (.of ?am0 ?bm0 ?lm0 ?cm0 ?km0) (.of ?am1 ?bm1 ?lm1 ?cm1 ?km1) (.of ?am2 ?bm2 ?lm2 ?cm2 ?km2) (.of ?am3 ?bm3 ?lm3 ?cm3 ?km3) (.of ?am4 ?bm4 ?lm4 ?cm4 ?km4) (.of ?am5 ?bm5 ?lm5 ?cm5 ?km5) (.of ?am6 ?bm6 ?lm6 ?cm6 ?km6) (.of ?am7 ?bm7 ?lm7 ?cm7 ?km7) (.of ?am8 ?bm8 ?lm8 ?cm8 ?km8) (.of ?am9 ?bm9 ?lm9 ?cm9 ?km9) (.of ?ai0 ?li0 ?ci0 ?ki0) (.of ?ai1 ?li1 ?ci1 ?ki1) (.of ?ai2 ?li2 ?ci2 ?ki2) (.of ?ai3 ?li3 ?ci3 ?ki3) (.of ?ai4 ?li4 ?ci4 ?ki4) (.of ?ai5 ?li5 ?ci5 ?ki5) (.of ?ai6 ?li6 ?ci6 ?ki6) (.of ?ai7 ?li7 ?ci7 ?ki7) (.of ?ai8 ?li8 ?ci8 ?ki8) (.of ?ai9 ?li9 ?ci9 ?ki9) (.of ?Kx ?DS ?IF ?EQ) (.of ?Kt ?DO ?IE ?EO) (.of ?Kk ?DM ?ID ?EN) (.of ?Kj ?DJ ?IC ?EM) (.of ?Ki ?DI ?IB ?EL) (.of ?Kb ?DH ?IA ?EK) (.of ?JY ?DF ?Iy ?EJ) (.of ?JU ?DE ?Ix ?EI) (.of ?JS ?DD ?Iq ?EH) (.of ?JP ?DC ?Id ?EG) (.of ?JO ?DB ?Ic ?EF) (.of ?JJ ?DA ?HR ?EE) (.of ?JI ?Dx ?HQ ?ED) (.of ?JE ?Do ?HP ?EC) (.of ?JA ?De ?Hn ?EB) (.of ?Jn ?Db ?Hm ?EA) (.of ?I0 ?Da ?Hk ?Ex) (.of ?IZ ?C9 ?He ?Ev) (.of ?IY ?C8 ?Hd ?Eg) (.of ?IX ?C7 ?Hc ?Ee) (.of ?IU ?C6 ?Hb ?D9) (.of ?IT ?C5 ?Ha ?D8) (.of ?IS ?C4 ?G2 ?D7) (.of ?IR ?C2 ?G1 ?D6) (.of ?IQ ?C1 ?G0 ?D5) (.of ?IP ?C0 ?GY ?D4) (.of ?IO ?CY ?GW ?D3) (.of ?IN ?CU ?GV ?D2) (.of ?IM ?CS ?GU ?D1) (.of ?IL ?CO ?GT ?D0) (.of ?IJ ?CM ?GS ?DZ) ?al ?ll ?cl ?kl ?pg ?hd ?po ?sa ?mk ?kc ?n0 ?n1 ?n2 ?n3 ?z0 ?z1 ?z2 ?z3 ?z4 ?z5 ?z6 ?z7 ?z8 ?z9 ?z10 ?z11 ?z12 ?z13 ?z14 ?z15 ?z16 ?z17 ?z18 ?z19 ?ao ?lo ?lq2 ?aKd ?lKd ?aWk ?lWk ?aSL
  (case aC | am0 | bm0 | lm0 | cm0 | km0 | am1 | bm1 | lm1 | cm1 | km1 | am2 | bm2 | lm2 | cm2 | km2 | am3 | bm3 | lm3 | cm3 | km3 | am4 | bm4 | lm4 | cm4 | km4 | am5 | bm5 | lm5 | cm5 | km5 | am6 | bm6 | lm6 | cm6 | km6 | am7 | bm7 | lm7 | cm7 | km7 | am8 | bm8 | lm8 | cm8 | km8 | am9 | bm9 | lm9 | cm9 | km9 | ai0 | li0 | ci0 | ki0 | ai1 | li1 | ci1 | ki1 | ai2 | li2 | ci2 | ki2 | ai3 | li3 | ci3 | ki3 | ai4 | li4 | ci4 | ki4 | ai5 | li5 | ci5 | ki5 | ai6 | li6 | ci6 | ki6 | ai7 | li7 | ci7 | ki7 | ai8 | li8 | ci8 | ki8 | ai9 | li9 | ci9 | ki9 | Kx | DS | IF | EQ | Kt | DO | IE | EO | Kk | DM | ID | EN | Kj | DJ | IC | EM | Ki | DI | IB | EL | Kb | DH | IA | EK | JY | DF | Iy | EJ | JU | DE | Ix | EI | JS | DD | Iq | EH | JP | DC | Id | EG | JO | DB | Ic | EF | JJ | DA | HR | EE | JI | Dx | HQ | ED | JE | Do | HP | EC | JA | De | Hn | EB | Jn | Db | Hm | EA | I0 | Da | Hk | Ex | IZ | C9 | He | Ev | IY | C8 | Hd | Eg | IX | C7 | Hc | Ee | IU | C6 | Hb | D9 | IT | C5 | Ha | D8 | IS | C4 | G2 | D7 | IR | C2 | G1 | D6 | IQ | C1 | G0 | D5 | IP | C0 | GY | D4 | IO | CY | GW | D3 | IN | CU | GV | D2 | IM | CS | GU | D1 | IL | CO | GT | D0 | IJ | CM | GS | DZ=>k_is)
  (case al | ll | cl | kl | pg | hd | po | sa | mk | kc | n0 | n1 | n2 | n3 | z0 | z1 | z2 | z3 | z4 | z5 | z6 | z7 | z8 | z9 | z10 | z11 | z12 | z13 | z14 | z15 | z16 | z17 | z18 | z19 | ao | lo | lq2 | aKd | lKd | aWk | lWk | aSL=>k_is)
