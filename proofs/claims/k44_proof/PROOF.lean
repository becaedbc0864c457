import PyProof.Rows.All
import Wide.All
import OpenK.AllK
import Wide.FinOn
import Lean
import PyProof.EqAt
import PyProof.EqKinds
import PyProof.TupleCall
import PySem.Challenge.RW_warnloop_k44_heard_with
set_option linter.all false
set_option Elab.async false
set_option maxRecDepth 100000
set_option maxHeartbeats 4000000
abbrev YA:=PySem.Value→PySem.Shared→Prop
abbrev YH:=Unit→PySem.Shared→Prop
abbrev YB:=PySem.Str→Option PySem.Value
abbrev YC:=List (PySem.Addr×PySem.Obj)
abbrev YD:=PySem.W.Frag
abbrev YI:=Array (Option PySem.Value)
abbrev YE:=List PySem.Value
abbrev YF:=List PySem.Str
abbrev YJ:=List PySem.Expr
abbrev YK:=Array PySem.DictEntry
theorem rq{α:Sort _}{a:α}:a=a:=rfl
local macro_rules|`(tactic|trivial)=>`(tactic|decide +kernel)
local macro_rules | `(tactic|ac_rfl) => `(tactic|exact ⟨rfl,rfl,rfl,by decide +kernel,rfl,by decide +kernel,by decide +kernel⟩)
open PySem.W (instObj hideAll hideAll_get lookIn plainGet hasDictIn findIn isFn makesIn emptyDict looks_findIn keepIn kitOne kia_one callWith_K fnOf codeIn nsIn mg_of excIn subIn looks_subIn kat_cons mg_none_of)
abbrev Qaa:=@PyProof.Rows.slot_tupleiter_next
abbrev Qab:=@PyProof.Rows.slot_tuple_getitem
abbrev Qac:=@PySem.F.slot_dict_itemiterator_next
abbrev Qad:=@PySem.F.slot_dict_keyiterator_next
abbrev Qae:=@PyProof.Rows.callWith_type1
abbrev Qaf:=@Array.getElem?_eq_some_iff
abbrev Qag:=@List.nodup_iff_pairwise_ne
abbrev Qah:=@List.getElem?_append_right
abbrev Qai:=@List.getElem?_eq_some_iff
abbrev Qaj:=@Classical.byContradiction
abbrev Qak:=@List.getElem?_append_left
abbrev Qal:=@List.drop_eq_getElem_cons
abbrev Qam:=@List.pairwise_iff_getElem
abbrev Qan:=@List.mem_of_find?_eq_some
abbrev Qao:=@List.getElem?_eq_getElem
abbrev Qap:=@PySem.F.slot_list_append
abbrev Qaq:=@PySem.F.type_list_append
abbrev Qar:=@PySem.F.slot_list_extend
abbrev Qas:=@PySem.F.type_list_extend
abbrev Qat:=@PySem.F.plainAttrs_list
abbrev Qau:=@PySem.wpAny_callSpecial?_slot
abbrev Qav:=@List.filter_cons_of_neg
abbrev Qaw:=@List.filter_cons_of_pos
abbrev Qax:=@PySem.wpAny_getItem_str_slice
abbrev Qay:=@List.pairwise_singleton
abbrev Qaz:=@PySem.Heap.get?_push_of_some
abbrev QaA:=@List.find?_cons_of_neg
abbrev QaB:=@PySem.Heap.get?_update_other
abbrev QaC:=@List.find?_cons_of_pos
abbrev QaD:=@Option.map_eq_some_iff
abbrev QaE:=@List.mem_append_right
abbrev QaF:=@PySem.Heap.get?_update_self
abbrev QaG:=@List.length_singleton
abbrev QaH:=@List.length_filter_le
abbrev QaI:=@PySem.F.slot_dict_get
abbrev QaJ:=@List.length_replicate
abbrev QaK:=@List.mem_of_getElem?
abbrev QaL:=@List.mem_cons_of_mem
abbrev QaM:=@List.mem_append_left
abbrev QaN:=@PySem.codeAny_call_builtin
abbrev QaO:=@List.getElem?_of_mem
abbrev QaP:=@PySem.Heap.get?_push_size
abbrev QaQ:=@beq_eq_false_iff_ne
abbrev QaR:=@List.flatMap_append
abbrev QaS:=@Array.length_toList
abbrev QaT:=@List.map_congr_left
abbrev QaU:=@PySem.mem_of_lookup
abbrev QaV:=@PySem.Heap.SameBut.update
abbrev QaW:=@Int.toNat_of_nonneg
abbrev QaX:=@List.filter_sublist
abbrev QaY:=@List.length_append
abbrev QaZ:=@List.mem_cons_self
abbrev Qba:=@Bool.false_ne_true
abbrev Qbb:=@List.set_cons_zero
abbrev Qbc:=@List.set_cons_succ
abbrev Qbd:=@Nat.lt_of_lt_of_le
abbrev Qbf:=@List.mem_singleton
abbrev Qbg:=@decide_eq_true_iff
abbrev Qbh:=@PySem.wpAny_pyIter_tuple
abbrev Qbi:=@PySem.wpAny_setField_rec
abbrev Qbj:=@List.filter_append
abbrev Qbk:=@PySem.wpAny_Call_Name_kw
abbrev Qbl:=@PySem.tupleKind_room_in1
abbrev Qbm:=@Int.emod_lt_of_pos
abbrev Qbo:=@List.size_toArray
abbrev Qbp:=@List.append_assoc
abbrev Qbq:=@List.getElem?_map
abbrev Qbr:=@Int.toNat_natCast
abbrev Qbs:=@PySem.wpAny_newObj_type
abbrev Qbt:=@of_decide_eq_true
abbrev Qbu:=@List.flatMap_cons
abbrev Qbv:=@PySem.wpAny_truthy_bool
abbrev Qbw:=@List.nodup_append
abbrev Qbx:=@List.pairwise_map
abbrev Qby:=@PySem.wpAny_pyIter_list
abbrev Qbz:=@List.length_range
abbrev QbA:=@PySem.wpAny_loadPart_at
abbrev QbB:=@List.take_length
abbrev QbC:=@List.length_cons
abbrev QbD:=@List.length_take
abbrev QbE:=@List.not_mem_nil
abbrev QbF:=@PySem.wpAny_call_entry
abbrev QbG:=@List.length_drop
abbrev QbH:=@Nat.lt_succ_self
abbrev QbI:=@Bool.and_eq_true
abbrev QbJ:=@List.mem_flatMap
abbrev QbK:=@PySem.wpAny_isInstance
abbrev QbL:=@List.cons_append
abbrev QbM:=@List.length_map
abbrev QbN:=@List.map_append
abbrev QbO:=@List.mem_append
abbrev QbP:=@List.append_nil
abbrev QbQ:=@PySem.PassesOwn.never
abbrev QbR:=@decide_eq_false
abbrev QbS:=@Option.some.inj
abbrev QbT:=@List.nodup_cons
abbrev QbU:=@List.mem_filter
abbrev QbV:=@Bool.eq_iff_iff
abbrev QbY:=@PySem.wpAny_passesOwn
abbrev QbZ:=@Nat.not_lt_zero
abbrev Qca:=@Int.emod_nonneg
abbrev Qcb:=@List.find?_cons
abbrev Qcc:=@PySem.codeAny_builtin
abbrev Qcd:=@decide_eq_true
abbrev Qce:=@PySem.Heap.size_push
abbrev Qcf:=@List.nodup_nil
abbrev Qcg:=@List.mem_range
abbrev Qch:=@PySem.wpAny_seqItems
abbrev Qci:=@PySem.Paired.length
abbrev Qcj:=@List.mem_cons
abbrev Qck:=@List.map_cons
abbrev Qcm:=@Nat.lt_irrefl
abbrev Qcn:=@PySem.wpAny_holding
abbrev Qco:=@List.any_cons
abbrev Qcp:=@PySem.wpAny_attempt
abbrev Qcq:=@PySem.wpAny_standAt
abbrev Qcr:=@Bool.or_false
abbrev Qcs:=@List.mem_map
abbrev Qct:=@PySem.Heap.lt_size
abbrev Qcu:=@Nat.ne_of_lt
abbrev Qcv:=@Nat.le_trans
abbrev Qcw:=@List.map_map
abbrev Qcx:=@Nat.le_of_lt
abbrev Qcy:=@Nat.ne_of_gt
abbrev Qcz:=@PySem.codeAny_mono
abbrev QcA:=@List.map_nil
abbrev QcB:=@PySem.wpAny_typeOf
abbrev QcC:=@Int.zero_add
abbrev QcD:=@Nat.le_refl
abbrev QcE:=@Nat.zero_le
abbrev QcF:=@PySem.Paired.snoc
abbrev QcG:=@PySem.wpAny_field
abbrev QcH:=@PySem.sizeLine_eq
abbrev QcI:=@Nat.le_succ
abbrev QcJ:=@PySem.wpAny_bind
abbrev QcK:=@PySem.wpAny_pure
abbrev QcL:=@PySem.wpAny_mono
abbrev QcM:=@PyProof.Rows.take_snoc
abbrev QcN:=@or_false
namespace L2
open PySem PySem.Spec PyProof.Rows
abbrev Key:=Sum Int Str
def UG:Key->Value->Bool
 | .inl k,v=>Value.isInt k v
 | .inr x,v=>Value.isStrOf x v
def NI (w:World):Key->Int
 | .inl k=>hashInt k
 | .inr x=>hashStr w x
theorem Fg:∀{k:Key} {v:Value},UG k v=true->(∃i t,k=Sum.inl i/\v=Value.int i t)\/(∃x t,k=Sum.inr x/\v=Value.str x t)
 | .inl i,v,h=>by
  obtain⟨t,e⟩:=Value.isInt_shape (k:=i) (v:=v) h;exact .inl ⟨i,t,rq,e⟩
 | .inr x,v,h=>by
  obtain⟨t,e⟩:=Value.isStrOf_shape (x:=x) (v:=v) h;exact .inr ⟨x,t,rq,e⟩
theorem rO (i:Int) (t:Tok):UG (.inl i) (.int i t)=true:=by simp[UG,Value.isInt]
theorem rN (x:Str) (t:Tok):UG (.inr x) (.str x t)=true:=by simp[UG,Value.isStrOf]
theorem ED (a b:Int):decide ((Sum.inl a:Key)=Sum.inl b)=(a == b):=by
 by_cases e:a=b
 ·subst e;simp
 ·have h:¬(Sum.inl a:Key)=Sum.inl b:=λq=>e (Sum.inl.inj q);rw[QbR h];exact (QaQ.mpr e).symm
theorem EA (a b:Str):decide ((Sum.inr a:Key)=Sum.inr b)=decide (a=b):=by
 by_cases e:a=b
 ·subst e;simp
 ·have h:¬(Sum.inr a:Key)=Sum.inr b:=λq=>e (Sum.inr.inj q);rw[QbR h,QbR e]
theorem EC (a:Int) (b:Str):decide ((Sum.inl a:Key)=Sum.inr b)=false:=QbR (λq=>nomatch q)
theorem EB (a:Str) (b:Int):decide ((Sum.inr a:Key)=Sum.inl b)=false:=QbR (λq=>nomatch q)
def Bq (prog:Program) (w:World):PySem.KeyKind prog w Key where
 is:=UG
 hash:=NI w
 inj:=λv a b ha hb=>by
  rcases Fg ha with⟨i,t,rfl,rfl⟩|⟨x,t,rfl,rfl⟩
  ·rcases Fg hb with⟨j,u,rfl,e⟩|⟨y,u,rfl,e⟩
   ·injection e with e1 _;rw[e1]
   ·exact nomatch e
  ·rcases Fg hb with⟨j,u,rfl,e⟩|⟨y,u,rfl,e⟩
   ·exact nomatch e
   ·injection e with e1 _;rw[e1]
 byValue:=λk v h=>by
  rcases Fg h with⟨i,t,rfl,rfl⟩|⟨x,t,rfl,rfl⟩ <;> rfl
 pyHash:=λhv h=>by
  rcases Fg hv with⟨i,t,rfl,rfl⟩|⟨x,t,rfl,rfl⟩
  ·exact wpAny_pyHash_int h
  ·exact wpAny_pyHash_str h
 eqBool:=λhu hv h=>by
  rcases Fg hu with⟨i,t,rfl,rfl⟩|⟨x,t,rfl,rfl⟩
  ·rcases Fg hv with⟨j,u,rfl,rfl⟩|⟨y,u,rfl,rfl⟩
   ·rw[ED] at h;exact wpAny_eqBool_int h
   ·rw[EC] at h;exact SeqAt.EqAt.int_str i t y u _ _ _ _ h
  ·rcases Fg hv with⟨j,u,rfl,rfl⟩|⟨y,u,rfl,rfl⟩
   ·rw[EB] at h;exact SeqAt.EqAt.str_int x t j u _ _ _ _ h
   ·rw[EA] at h;exact wpAny_eqBool_str h
 «strs»:=λk x t v h=>by
  rcases Fg h with⟨i,u,rfl,e⟩|⟨y,u,rfl,e⟩
  ·exact nomatch e
  ·injection e with e1 _;subst e1;cases v <;> rfl
theorem jC (prog:Program) (w:World) (i:Int) (t:Tok):(Bq prog w).is (.inl i) (.int i t)=true:=rO i t
theorem jB (prog:Program) (w:World) (x:Str) (t:Tok):(Bq prog w).is (.inr x) (.str x t)=true:=rN x t
inductive V where
 | non | bl (b:Bool) | int (i:Int) | str (x:Str) | byt (b:Array UInt8) | flt (b:UInt64) | ref (a:Addr) | ty (n:String)
 deriving DecidableEq
def RelV:V->Value->Prop
 | .non,u=>u=Value.none
 | .bl b,u=>u=Value.bool b
 | .int i,u=>∃t,u=Value.int i t
 | .str x,u=>∃t,u=Value.str x t
 | .byt b,u=>∃t,u=Value.bytes b t
 | .flt b,u=>∃t,u=Value.float b t
 | .ref a,u=>u=Value.ref a
 | .ty n,u=>u=Value.type n
abbrev YG:=List V
abbrev Vals:YG->YE->Prop:=Paired RelV
theorem Vals.length {xs:YG} {us:YE} (r:Vals xs us):xs.length=us.length:=Qci r
theorem Vals.get:∀{xs:YG} {us:YE} {i:Nat} {x:V},Vals xs us->xs[i]?=some x->∃u,us[i]?=some u/\RelV x u
 | _,_,_,_,.nil,e=>by simp at e
 | _,_,0,_,.cons r _,e=>by simp at e;subst e;exact⟨_,rfl,r⟩
 | _,_,i+1,x,.cons _ t,e=>by
  obtain⟨u,h1,h2⟩:=Vals.get (i:=i) (x:=x) t (by simpa using e);exact⟨u,by simpa using h1,h2⟩
theorem Vals.set {x:V} {u:Value} (r:RelV x u):∀{xs:YG} {us:YE} (i:Nat),Vals xs us->Vals (xs.set i x) (us.set i u)
 | _,_,_,.nil=>.nil
 | _,_,0,.cons _ t=>.cons r t
 | _,_,i+1,.cons q t=>.cons q (Vals.set r i t)
theorem Vals.append:∀{xs ys:YG} {us ws:YE},Vals xs us->Vals ys ws->Vals (xs++ys) (us++ws)
 | _,_,_,_,.nil,s=>s
 | _,_,_,_,.cons r t,s=>.cons r (Vals.append t s)
theorem Vals.take:∀{xs:YG} {us:YE} (n:Nat),Vals xs us->Vals (xs.take n) (us.take n)
 | _,_,0,_=>.nil
 | _,_,_+1,.nil=>.nil
 | _,_,n+1,.cons r t=>.cons r (Vals.take n t)
theorem Vals.drop:∀{xs:YG} {us:YE} (n:Nat),Vals xs us->Vals (xs.drop n) (us.drop n)
 | _,_,0,r=>r
 | _,_,_+1,.nil=>.nil
 | _,_,n+1,.cons _ t=>Vals.drop n t
theorem Vals.none_of:∀{xs:YG} {us:YE} {i:Nat},Vals xs us->xs[i]?=none->us[i]?=none:=λ{xs us i} r e=>by
 have h1:=r.length;have h2:xs.length<=i:=List.getElem?_eq_none_iff.mp e;exact List.getElem?_eq_none_iff.mpr (by omega)
def Ir:Option V->Option Value->Prop
 | some v,some u=>RelV v u
 | none,none=>True
 | _,_=>False
def KV {κ : Type}:List (κ×V)->List (κ×Value)->Prop:=Paired λ(p:κ×V) (q:κ×Value)=>p.1=q.1/\RelV p.2 q.2
def kV:Key->V
 | .inl i=>.int i
 | .inr x=>.str x
inductive HO where
 | lst (xs:YG)
 | tup (xs:YG)
 | dK (kvs:List (Key×V)) | dT (kvs:List (List Key×V))
 | set (S:Int->Bool) (n:Nat)
 | ins (C dx:Addr) (fs:List (Str×V))
 | own (x:Addr)
 | xd (fs:List (Str×V))
 | met (f x:Addr)
 | rng (lo hi:Int)
 | frz (o:Obj) (u:HO)
 | tbl (ps:Array Value)
 | ext (φ : Heap->Prop)
abbrev Hp:=Addr->Option HO
def upd (H:Hp) (a:Addr) (o:HO):Hp:=λb=>if b=a then some o else H b
theorem Ab {H:Hp} {a:Addr} {o:HO}:upd H a o a=some o:=by unfold upd;rw[if_pos rfl]
theorem Aq {H:Hp} {a b:Addr} {o:HO} (h:b≠a):upd H a o b=H b:=by unfold upd;rw[if_neg h]
theorem Uk {H:Hp} {a:Addr} {o u:HO}:upd (upd H a o) a u=upd H a u:=by
 funext b;unfold upd;split <;> rfl
theorem zK {H:Hp} {a b:Addr} {o u:HO} (h:H a=some o) (h':H b=some u) (d:o≠u):a≠b:=by
 intro e;subst e;rw[h] at h';exact d (QbS h')
theorem Ax {H:Hp} {a b:Addr} {o:HO} (h:H a=some o) (h':H b=none):a≠b:=by
 intro e;subst e;rw[h] at h';cases h'
section
variable (P:Program) (w:World)
def Bt (H:Hp) (h:Heap) (a:Addr):HO->Prop
 | .lst xs=>xs.length<=sizeLine/\∃(its:YE) (n:Nat),Vals xs its/\h.get? a=some { cls:=.type "list",data:=.seq its.toArray n }
 | .tup xs=>xs.length<=sizeLine/\∃its:YE,Vals xs its/\IsTup h a its.toArray
 | .dK kvs=>kvs.length<=sizeLine/\(a == sysModules)=false/\∃vs,KV kvs vs/\h.DictOf (Bq P w) a vs
 | .dT kvs=>kvs.length<=sizeLine/\(a == sysModules)=false/\∃xs:List (List Key×Addr×Value),
   Paired (λ(p:List Key×V) (q:List Key×Addr×Value)=>p.1=q.1/\H q.2.1=some (.tup (p.1.map kV))/\RelV p.2 q.2.2) kvs xs /\
   ∃o es ep,h.get? a=some o/\o.ExactDict/\o.data=.dict es ep/\es.toList=xs.map (entryOfKey (tupleKind (Bq P w)))/\(xs.map (·.1)).Nodup
 | .set S n=>h.SetOf (intKind P w) a S n
 | .ins C dx fs=>H dx=some (.own a)/\fs.length<=1000/\dx≠a/\h.get? a=some (instObj C dx) /\
   ∃mA,h.Ns1 dx mA/\(∀f,Ir (fs.lookup f) (mA f))/\PySem.Within mA (fs.map (·.1))
 | .own _=>∃o,h.get? a=some o
 | .xd fs=>∃mA,h.Ns1 a mA/\∀f,Ir (fs.lookup f) (mA f)
 | .rng lo hi=>∃t u v,h.get? a=some { cls:=.type "range",data:=.fields #[.int lo t,.int hi u,.int 1 v] }
 | .frz o u=>h.get? a=some o/\Bt H h a u
 | .tbl ps=>h.get? a=some { cls:=.none,data:=.fields ps }
 | .met f x=>h.get? a=some (PySem.W.methodObj (.ref f) (.ref x))
 | .ext φ=>φ h/\(∃o,h.get? a=some o)/\∀h1 h2:Heap,φ h1->(∀o,h1.get? a=some o->h2.get? a=some o)->φ h2
def HOk (H:Hp) (h:Heap):Prop:=∀a o,H a=some o->Bt P w H h a o
end
section
variable {P:Program} {w:World} {H H':Hp} {h h':Heap} {a:Addr} {o:HO}
theorem Bt.lt (x:Bt P w H h a o):a < h.objs.size:=by
 cases o with
 | lst xs=>obtain⟨_,_,_,_,e⟩:=x;exact Qct e
 | tup xs=>obtain⟨_,_,_,p⟩:=x;exact p.lt
 | dK kvs=>obtain⟨_,_,_,_,o,_,_,e,_⟩:=x;exact Qct e
 | dT kvs=>obtain⟨_,_,_,_,o,_,_,e,_⟩:=x;exact Qct e
 | set S n=>obtain⟨o,_,_,_,e,_⟩:=x;exact Qct e
 | ins C dx fs=>obtain⟨_,_,_,e,_⟩:=x;exact Qct e
 | own y=>obtain⟨_,e⟩:=x;exact Qct e
 | xd fs=>obtain⟨_,⟨_,_,_,e,_⟩,_⟩:=x;exact Qct e
 | rng lo hi=>obtain⟨_,_,_,e⟩:=x;exact Qct e
 | frz ob u=>obtain⟨e,_⟩:=x;exact Qct e
 | tbl ps=>exact Qct (show h.get? a=some _ from x)
 | met f y=>exact Qct (show h.get? a=some _ from x)
 | ext φ=>obtain⟨_,⟨_,e⟩,_⟩:=x;exact Qct e
theorem Paired.Aw {α β : Type} {F G:α->β->Prop}:∀{l₁ : List α} {l₂ : List β},Paired F l₁ l₂->(∀a b,F a b->G a b)->Paired G l₁ l₂
 | _,_,.nil,_=>.nil
 | _,_,.cons r t,f=>.cons (f _ _ r) (Paired.Aw t f)
theorem Bt.stay (x:Bt P w H h a o) (k:∀b u,(b=a\/H b=some (.own a))->h.get? b=some u->h'.get? b=some u)
  (ho:∀b,H b=some (.own a)->H' b=some (.own a)) (ht:∀b xs,H b=some (.tup xs)->H' b=some (.tup xs)):Bt P w H' h' a o:=by
 induction o with
 | lst xs=>obtain⟨z,its,n,r,e⟩:=x;exact⟨z,its,n,r,k _ _ (.inl rfl) e⟩
 | tup xs=>obtain⟨z,its,r,ob,e,c⟩:=x;exact⟨z,its,r,ob,k _ _ (.inl rfl) e,c⟩
 | dK kvs=>obtain⟨z,y,vs,r,ob,es,ep,e,c⟩:=x;exact⟨z,y,vs,r,ob,es,ep,k _ _ (.inl rfl) e,c⟩
 | dT kvs=>
  obtain⟨z,y,xs,r,ob,es,ep,e,c⟩:=x;exact⟨z,y,xs,Paired.Aw r λp q z=>⟨z.1,ht _ _ z.2.1,z.2.2⟩,ob,es,ep,k _ _ (.inl rfl) e,c⟩
 | set S n=>obtain⟨ob,es,ep,t,e,c⟩:=x;exact⟨ob,es,ep,t,k _ _ (.inl rfl) e,c⟩
 | ins C dx fs=>
  obtain⟨d,z,ne,e,mA,⟨od,es,ep,e2,c⟩,r⟩:=x;exact⟨ho _ d,z,ne,k _ _ (.inl rfl) e,mA,⟨od,es,ep,k _ _ (.inr d) e2,c⟩,r⟩
 | own y=>obtain⟨ob,e⟩:=x;exact⟨ob,k _ _ (.inl rfl) e⟩
 | xd fs=>obtain⟨mA,⟨od,es,ep,e,c⟩,r⟩:=x;exact⟨mA,⟨od,es,ep,k _ _ (.inl rfl) e,c⟩,r⟩
 | rng lo hi=>obtain⟨t,u,v,e⟩:=x;exact⟨t,u,v,k _ _ (.inl rfl) e⟩
 | frz ob u ih=>obtain⟨e,q⟩:=x;exact⟨k _ _ (.inl rfl) e,ih q⟩
 | tbl ps=>
  have e:h.get? a=some { cls:=.none,data:=.fields ps }:=x;show h'.get? a=some { cls:=.none,data:=.fields ps };exact k a _ (.inl rfl) e
 | met f y=>
  have e:h.get? a=some (PySem.W.methodObj (.ref f) (.ref y)):=x;show h'.get? a=some (PySem.W.methodObj (.ref f) (.ref y));exact k a _ (.inl rfl) e
 | ext φ=>obtain⟨p,⟨o,e⟩,st⟩:=x;exact⟨st _ _ p λo q=>k _ _ (.inl rfl) q,⟨o,k _ _ (.inl rfl) e⟩,st⟩
theorem HOk.lt (x:HOk P w H h) (e:H a=some o):a < h.objs.size:=(x a o e).lt
theorem HOk.fresh (x:HOk P w H h) (e:h.objs.size<=a):H a=none:=by
 cases q:H a with
 | none=>rfl
 | some u=>exact absurd (Qbd (x.lt q) e) (Qcm _)
theorem HOk.kept (x:HOk P w H h) (k:∀b u,h.get? b=some u->h'.get? b=some u):HOk P w H h':=λa o e=>
 (x a o e).stay (λb u _ q=>k b u q) (λ_ q=>q) λ_ _ q=>q
theorem HOk.laid (x:HOk P w H h) (k:∀b u,h.get? b=some u->h'.get? b=some u) (hp:h.objs.size<=a) (new:Bt P w (upd H a o) h' a o):HOk P w (upd H a o) h':=λb u e=>by
 have hn:=x.fresh hp;by_cases hb:b=a
 ·subst hb;rw[Ab] at e;cases e;exact new
 ·rw[Aq hb] at e;exact (x b u e).stay (λc v _ q=>k c v q) (λc q=>by rw[Aq (Ax q hn)];exact q) λc xs q=>by rw[Aq (Ax q hn)];exact q
end
def Rd (H:Hp) (a:Addr) (u:HO):Prop:=H a=some u\/∃o,H a=some (.frz o u)
theorem Rd.of {H:Hp} {a:Addr} {u:HO} (h:H a=some u):Rd H a u:=.inl h
theorem Rd.ok {P:Program} {w:World} {H:Hp} {h:Heap} {a:Addr} {u:HO} (r:Rd H a u) (x:HOk P w H h):Bt P w H h a u:=by
 rcases r with r |⟨o,r⟩
 ·exact x a u r
 ·obtain⟨_,q⟩:=x a _ r;exact q
def Mut:Option HO->Prop
 | some (.lst _)=>True
 | some (.dK _)=>True
 | some (.dT _)=>True
 | some (.set _ _)=>True
 | some (.ins _ _ _)=>True
 | some (.ext _)=>True
 | _=>False
section
variable {P:Program} {w:World} {H:Hp} {h h':Heap} {x e:Addr} {o':HO}
theorem HOk.write (ok:HOk P w H h) (mu:Mut (H x)) (he:e=x\/H e=some (.own x)) (k:∀b u,b≠e->h.get? b=some u->h'.get? b=some u) (heo:∃u,h'.get? e=some u)
  (new:Bt P w (upd H x o') h' x o'):HOk P w (upd H x o') h':=λb u q=>by
 have D5:∀c y,H c=some (.own y)->c≠x:=λc y r z=>by subst z;rw[r] at mu;exact mu
 have Ip:∀c xs,H c=some (.tup xs)->c≠x:=λc xs r z=>by subst z;rw[r] at mu;exact mu
 by_cases hb:b=x
 ·subst hb;rw[Ab] at q;cases q;exact new
 ·rw[Aq hb] at q;by_cases hbe:b=e
  ·have q':H b=some (.own x):=by
    rcases he with z | z
    ·exact absurd (hbe.trans z) hb
    ·rw[hbe];exact z
   rw[q] at q';cases q';obtain⟨v,hv⟩:=heo;exact⟨v,by rw[hbe];exact hv⟩
  ·refine (ok b u q).stay (λc v hc r=>k c v ?_ r) (λc r=>by rw[Aq (D5 c b r)];exact r) λc xs r=>by rw[Aq (Ip c xs r)];exact r
   rcases hc with rfl | hc
   ·exact hbe
   ·rintro rfl;rcases he with z | z
    ·exact D5 c b hc z
    ·rw[hc] at z;cases z;exact hb rfl
end
structure Un (fs ex:List Addr) (H H':Hp) (h h':Heap):Prop where
 keep:∀b o,h.get? b=some o->H b=none->b∉fs->b∉ex->h'.get? b=some o
 slot:∀b o,h.get? b=some o->H b=none->b∈fs->b∉ex->∃sl,h'.get? b=some { o with slots:=sl }
 free:∀b o,h.get? b=some o->H b=none->b∉ex->H' b=none
 there:∀b o,h.get? b=some o->b∉ex->∃o',h'.get? b=some o'
 tups:∀b xs,H b=some (.tup xs)->H' b=some (.tup xs)
 Gu:∀b o u,H b=some (.frz o u)->H' b=some (.frz o u)
 G3:∀b ps,H b=some (.tbl ps)->∃more,H' b=some (.tbl (ps++more))
section
variable {fs fs' ex ex':List Addr} {H H1 H2:Hp} {h h1 h2 h':Heap} {a x e:Addr} {o:HO}
theorem Un.any (u:Un fs ex H H1 h h1) {b:Addr} {ob:Obj} (q:h.get? b=some ob) (n:H b=none) (hx:b∉ex):∃sl,h1.get? b=some { ob with slots:=sl }:=by
 by_cases hb:b∈fs
 ·exact u.slot b ob q n hb hx
 ·exact⟨ob.slots,u.keep b ob q n hb hx⟩
theorem Un.trans (a:Un fs ex H H1 h h1) (b:Un fs ex H1 H2 h1 h2):Un fs ex H H2 h h2 where
 keep:=λc ob q n hc hx=>b.keep c ob (a.keep c ob q n hc hx) (a.free c ob q n hx) hc hx
 slot:=λc ob q n hc hx=>by
  obtain⟨sl,e1⟩:=a.slot c ob q n hc hx;obtain⟨sl',e2⟩:=b.slot c _ e1 (a.free c ob q n hx) hc hx;exact⟨sl',e2⟩
 free:=λc ob q n hx=>by
  obtain⟨o',e1⟩:=a.there c ob q hx;exact b.free c o' e1 (a.free c ob q n hx) hx
 there:=λc ob q hx=>by
  obtain⟨o',e1⟩:=a.there c ob q hx;exact b.there c o' e1 hx
 tups:=λc xs q=>b.tups c xs (a.tups c xs q)
 Gu:=λc ob xs q=>b.Gu c ob xs (a.Gu c ob xs q)
 G3:=λc ps q=>by
  obtain⟨m1,e1⟩:=a.G3 c ps q;obtain⟨m2,e2⟩:=b.G3 c _ e1;exact⟨m1++m2,by rw[e2,Array.append_assoc]⟩
theorem Un.kept (k:∀b u,h.get? b=some u->h'.get? b=some u):Un fs ex H H h h':=
 ⟨λb ob q _ _ _=>k b ob q,λb ob q _ _ _=>⟨ob.slots,k b ob q⟩,λ_ _ _ n _=>n,λb ob q _=>⟨ob,k b ob q⟩,λ_ _ q=>q,λ_ _ _ q=>q,λ_ ps q=>⟨#[],by rw[q];simp⟩⟩
theorem Un.refl:Un fs ex H H h h:=Un.kept λ_ _ q=>q
theorem Un.laid (k:∀b u,h.get? b=some u->h'.get? b=some u) (hp:h.objs.size<=a) (hn:H a=none):Un fs ex H (upd H a o) h h' where
 keep:=λb u q _ _ _=>k b u q
 slot:=λb u q _ _ _=>⟨u.slots,k b u q⟩
 free:=λb u q n _=>by rw[Aq (Qcu (Qbd (Qct q) hp))];exact n
 there:=λb u q _=>⟨u,k b u q⟩
 tups:=λb xs q=>by rw[Aq (Ax q hn)];exact q
 Gu:=λb u xs q=>by rw[Aq (Ax q hn)];exact q
 G3:=λb ps q=>⟨#[],by rw[Aq (Ax q hn),q];simp⟩
theorem Un.write (mu:Mut (H x)) (he:e=x\/H e=some (.own x)) (k:∀b u,b≠e->h.get? b=some u->h'.get? b=some u) (heo:∃u,h'.get? e=some u):Un fs ex H (upd H x o) h h':=by
 have hx:∀b,H b=none->b≠x:=λb n z=>by subst z;rw[n] at mu;exact mu
 have hb:∀b,H b=none->b≠e:=λb n z=>by
  subst z;rcases he with r | r
  ·exact hx b n r
  ·rw[n] at r;cases r
 have hm:∀b u,H b=some u->¬Mut (some u)->b≠x:=λb u q nm z=>by subst z;rw[q] at mu;exact nm mu
 refine⟨λb u q n _ _=>k b u (hb b n) q,λb u q n _ _=>⟨u.slots,k b u (hb b n) q⟩,λb u q n _=>by rw[Aq (hx b n)];exact n,λb u q _=>?_,
  λb xs q=>by rw[Aq (hm b _ q λz=>z)];exact q,λb u xs q=>by rw[Aq (hm b _ q λz=>z)];exact q,λb ps q=>⟨#[],by rw[Aq (hm b _ q λz=>z),q];simp⟩⟩
 by_cases hbe:b=e
 ·subst hbe;exact heo
 ·exact⟨u,k b u hbe q⟩
theorem Un.mono (u:Un fs ex H H1 h h1) (hs:∀b∈fs,b∈fs') (hx:∀b∈ex,b∈ex'):Un fs' ex' H H1 h h1:=
 ⟨λb ob q n hb he=>u.keep b ob q n (λz=>hb (hs b z)) λz=>he (hx b z),λ_ _ q n _ he=>u.any q n λz=>he (hx _ z),λb ob q n he=>u.free b ob q n λz=>he (hx b z),λb ob q he=>u.there b ob q λz=>he (hx b z),u.tups,u.Gu,u.G3⟩
end
def trk (h:Heap) (H:Hp):List Addr:=(List.range h.objs.size).filter λa=>(H a).isSome
def Ry (h:Heap) (H:Hp):Heap:=hideAll h (trk h H)
theorem rZ (h:Heap) (H:Hp):(Ry h H).objs.size=h.objs.size:=PySem.W.hideAll_size _ _
theorem yu {h:Heap} {H:Hp} {b:Addr} {o:Obj} (e:h.get? b=some o) (n:H b=none):(Ry h H).get? b=some o:=
 hideAll_get _ e λhm=>by
  have q:(H b).isSome=true:=(QbU.mp hm).2;rw[n] at q;simp at q
theorem A7 {h:Heap} {H:Hp} {b:Addr} {o:Obj} (e:(Ry h H).get? b=some o):h.get? b=some o/\H b=none:=by
 have e':h.get? b=some o:=PySem.W.of_hideAll (trk h H) e;refine⟨e',?_⟩;cases q:H b with
 | none=>rfl
 | some x=>
  have hm:b∈trk h H:=QbU.mpr ⟨Qcg.mpr (Qct e'),by simp[q]⟩;have z:(Ry h H).get? b=none:=PySem.W.hideAll_none (trk h H) hm;rw[z] at e;cases e
def Vc (g h:Heap) (L:Addr):YC:=(List.range h.objs.size).filterMap λa=>if a=L\/(g.get? a).isSome=true then none else (h.get? a).map λo=>(a,o)
theorem QG {g h:Heap} {L a:Addr} {o:Obj} (h1:a≠L) (h2:g.get? a=none) (h3:h.get? a=some o):(a,o)∈Vc g h L:=
 List.mem_filterMap.mpr ⟨a,Qcg.mpr (Qct h3),by simp[h1,h2,h3]⟩
theorem Y7 {g h:Heap} {L:Addr} {p:Addr×Obj} (hp:p∈Vc g h L):p.1≠L/\g.get? p.1=none/\h.get? p.1=some p.2:=by
 obtain⟨b,_,e⟩:=List.mem_filterMap.mp hp;split at e
 ·cases e
 ·rename_i hn;cases q:h.get? b with
  | none=>rw[q] at e;simp at e
  | some u=>
   rw[q] at e;simp only[Option.map_some,Option.some.injEq] at e;subst e;refine⟨λz=>hn (.inl z),?_,q⟩;show g.get? b=none;cases r:g.get? b with
   | none=>rfl
   | some v=>exact (hn (.inr (by simp[r]))).elim
def rest (g h:Heap) (L d:Addr):YC:=(Vc g h L).filter λp=>decide (p.1≠d)
theorem wN {g h:Heap} {L:Addr}:News g L h (Vc g h L):=λp hp=>let ⟨a,b,c⟩:=Y7 hp;⟨c,a,b⟩
structure Mod (K:YD) (mg:YB) (base:Heap):Prop where
 kin:K.In base
 glob:base.Ns mainGlobals mg
 blt:∃mb,base.Ns builtinsNs mb/\∀x:Str,x≠"__name__"->mb x=bootBuiltins x
 nolimit:base.NoLimit
structure Cx where
 prog:Program
 w:World
 K:YD
 mg:YB
 base:Heap
 A:Around
 N:YF
 s₀ : Shared
 H₀ : Hp
 env:Env
 outer:List Env
 stack:List Env
 ex:List Addr
 fn:Str->Bool
 calm:Bool
 pn:YC
 xe:YA
def frs (l:List Env):List Addr:=l.filterMap (·.frame)
abbrev Cx.fs (X:Cx):List Addr:=frs X.outer
def Vis (sc:Scope) (x:Str):Prop:=sc.names.lookup x=some .local\/sc.names.lookup x=some .cell\/sc.names.lookup x=some .free
def Loc (sc:Scope) (x:Str):Prop:=sc.names.lookup x=some .local\/sc.names.lookup x=some .cell
def Look (env:Env) (h:Heap) (m:YB) (x:Str) (u:Value):Prop:=
 (env.kindOf x=some .local/\m x=some u)\/((env.kindOf x=some .cell\/env.kindOf x=some .free)/\∃c,env.cells.lookup x=some c/\h.IsCell c (some u))
structure Cx.Ok (X:Cx):Prop where
 mod:Mod X.K X.mg X.base
 kind:X.env.scope.kind=.function
 glob:X.env.globals=mainGlobals
 blt:X.env.builtins=builtinsNs
 above:X.s₀.heap.objs.size<=X.env.locals
 inj:∀x y c,X.env.cells.lookup x=some c->X.env.cells.lookup y=some c->x=y
 has:∀x,(X.env.kindOf x=some .cell\/X.env.kindOf x=some .free)->∃c,X.env.cells.lookup x=some c
 cab:∀x c,X.fn x=true->X.env.cells.lookup x=some c->X.s₀.heap.objs.size<=c
 hd:X.calm=true->X.A.handled=none
 frames:X.A.frames=some X.stack
 stk:X.stack=X.outer\/(X.stack=X.env::X.outer/\X.env.frame=some X.env.locals)
 exf:∀b∈X.ex,b≠X.env.locals/\∀x c,X.env.cells.lookup x=some c->c≠b
 bs:∀b o,X.base.get? b=some o->X.s₀.heap.get? b=some o/\X.H₀ b=none
 bsz:X.base.objs.size<=X.s₀.heap.objs.size
 O9:∀b o,X.base.get? b=some o->b∉X.ex
 Ly:∀b∈X.ex,b∉X.fs
 Hj:X.s₀.heap.FunFrames X.base X.outer
 frf:∀b∈X.fs,X.H₀ b=none
structure Inv (X:Cx) (jb:YC) (U : List (Option V)) (H:Hp) (s:Shared):Prop where
 ok:X.Ok
 os:s.os=X.s₀.os
 bare:AllBare s.gens
 base:Un X.fs X.ex X.H₀ H X.s₀.heap s.heap
 loc:∃m,s.heap.Ns X.env.locals m/\∀(i:Nat) (x:Str) (v:V),X.N[i]?=some x->U[i]?=some (some v)->Vis X.env.scope x->∃u,RelV v u/\Look X.env s.heap m x u
 cell:∀x c,X.env.cells.lookup x=some c->∃v,s.heap.IsCell c v
 free:H X.env.locals=none
 FP:∀x c,X.env.cells.lookup x=some c->H c=none
 pin:∀p∈X.pn++jb,s.heap.get? p.1=some p.2/\H p.1=none/\p.1≠X.env.locals/\p.1∉X.fs/\∀v,p.2.data≠.cell v
 hok:HOk X.prog X.w H s.heap
 len:U.length=X.N.length
section
variable {X:Cx} {jb:YC} {U : List (Option V)} {H H':Hp} {s:Shared} {h':Heap}
theorem Cx.Ok.KU (ok:X.Ok) {b:Addr} {o:Obj} (e:X.base.get? b=some o):b∉X.fs:=λhb=>by
 have:=(ok.Hj.mem hb).1;rw[e] at this;cases this
theorem Inv.bs (I:Inv X jb U H s):∀b o,X.base.get? b=some o->s.heap.get? b=some o/\H b=none:=λb o e=>
 ⟨I.base.keep b o (I.ok.bs b o e).1 (I.ok.bs b o e).2 (I.ok.KU e) (I.ok.O9 b o e),I.base.free b o (I.ok.bs b o e).1 (I.ok.bs b o e).2 (I.ok.O9 b o e)⟩
theorem Inv.bk (I:Inv X jb U H s):∀b o,X.base.get? b=some o->s.heap.get? b=some o:=λb o e=>(I.bs b o e).1
theorem Inv.mod (I:Inv X jb U H s):Mod X.K X.mg X.base:=I.ok.mod
theorem Inv.kIn (I:Inv X jb U H s):X.K.In s.heap:=I.ok.mod.kin.keeps I.bk
theorem Inv.nolimit (I:Inv X jb U H s):s.heap.NoLimit:=I.ok.mod.nolimit.keeps I.bk
theorem Inv.fr (I:Inv X jb U H s):∃m,Fr X.base X.env.locals s.heap m:=
 let ⟨m,hn,_⟩:=I.loc
 ⟨m,hn,I.bk,Qcv I.ok.bsz I.ok.above⟩
theorem Inv.lt (I:Inv X jb U H s):X.env.locals < s.heap.objs.size:=let ⟨_,hn,_⟩:=I.loc;hn.lt
theorem Inv.sz (I:Inv X jb U H s):X.s₀.heap.objs.size<=s.heap.objs.size:=Qcv I.ok.above (Qcx I.lt)
theorem Inv.wK (I:Inv X jb U H s) {a:Addr} (h:s.heap.objs.size<=a):a∉X.fs:=λhb=>by
 obtain⟨_,o,ho,_⟩:=I.ok.Hj.mem hb;exact absurd (Qbd (Qct ho) (Qcv I.sz h)) (Qcm _)
theorem Inv.cne (I:Inv X jb U H s):∀x c,X.env.cells.lookup x=some c->c≠X.env.locals:=λx c e z=>by
 obtain⟨v,o,ho,hd⟩:=I.cell x c e;obtain⟨m,⟨o',es,ep,ho',hd',_⟩,_⟩:=I.loc;rw[z,ho'] at ho;cases ho;rw[hd'] at hd;cases hd
theorem Inv.Hj (I:Inv X jb U H s):s.heap.FunFrames X.base X.outer:=by
 have all:∀(l:List Env),(∀b∈frs l,b∈X.fs)->X.s₀.heap.FunFrames X.base l->s.heap.FunFrames X.base l:=by
  intro l
  induction l with
  | nil=>intro _ _;trivial
  | cons env r ih=>
   intro hs hl;obtain⟨hk,⟨L,o,hf,hn,ho,hd⟩,hr⟩:=hl;have hL:L∈X.fs:=hs L (by unfold frs;rw[List.filterMap_cons,hf];exact QaZ);obtain⟨sl,e⟩:=I.base.slot L o ho (I.ok.frf L hL) hL λz=>I.ok.Ly L z hL;exact⟨hk,⟨L,_,hf,hn,e,hd⟩,ih (λb hb=>hs b (by unfold frs;rw[List.filterMap_cons,hf];exact QaL _ hb)) hr⟩
 exact all X.outer (λ_ hb=>hb) I.ok.Hj
theorem Inv.stack (I:Inv X jb U H s):s.heap.FunFrames X.base X.stack:=by
 rcases I.ok.stk with e |⟨e,hf⟩
 ·rw[e];exact I.Hj
 ·rw[e];obtain⟨m,hn,_⟩:=I.loc;refine .cons (by rw[I.ok.kind];decide) hf hn ?_ I.Hj;exact Heap.get?_none_of_le (Qcv I.ok.bsz I.ok.above)
theorem Inv.WR (I:Inv X jb U H s):∀b∈frs X.stack,b∈X.env.locals::X.fs:=λb hb=>by
 rcases I.ok.stk with e |⟨e,hf⟩
 ·rw[e] at hb;exact QaL _ hb
 ·rw[e] at hb;unfold frs at hb;rw[List.filterMap_cons,hf] at hb;exact hb
theorem Inv.Yb (I:Inv X jb U H s):∀b∈frs X.stack,H b=none:=λb hb=>by
 rcases Qcj.mp (I.WR b hb) with e | hb
 ·rw[e];exact I.free
 ·obtain⟨_,o,ho,_⟩:=I.ok.Hj.mem hb;exact I.base.free b o ho (I.ok.frf b hb) λz=>I.ok.Ly b z hb
theorem Inv.step {g':Array GenState} {t':Nat} {d':Drawn} {ch:List Addr} (I:Inv X jb U H s)
  (hch:∀b∈ch,(b∈X.ex\/X.s₀.heap.objs.size<=b)/\b≠X.env.locals/\(∀x c,X.env.cells.lookup x=some c->c≠b)/\∀p∈X.pn++jb,p.1≠b)
  (keep:∀b o,b≠X.env.locals->b∉X.fs->b∉ch->s.heap.get? b=some o->H b=none->h'.get? b=some o)
  (slot:∀b o,b≠X.env.locals->b∈X.fs->b∉ch->s.heap.get? b=some o->H b=none->∃sl,h'.get? b=some { o with slots:=sl }) (free:∀b o,b∉ch->s.heap.get? b=some o->H b=none->H' b=none)
  (there:∀b o,b∉ch->s.heap.get? b=some o->∃o',h'.get? b=some o')
  (tups:∀b xs,H b=some (.tup xs)->H' b=some (.tup xs)) (Gu:∀b o u,H b=some (.frz o u)->H' b=some (.frz o u)) (G3:∀b ps,H b=some (.tbl ps)->∃more,H' b=some (.tbl (ps++more)))
  (ns:∀m,s.heap.Ns X.env.locals m->h'.Ns X.env.locals m) (hok:HOk X.prog X.w H' h') (hg:AllBare g') :
  Inv X jb U H' { s with heap:=h',gens:=g',drawn:=d',toks:=t' }:=by
 have neL:∀b o,X.s₀.heap.get? b=some o->b≠X.env.locals:=λb o e=>Qcu (Qbd (Qct e) I.ok.above);have neC:∀b o,X.s₀.heap.get? b=some o->b∉X.ex->b∉ch:=λb o e hx hb=>by
  rcases (hch b hb).1 with z | z
  ·exact hx z
  ·exact absurd (Qbd (Qct e) z) (Qcm _)
 have cellK:∀x c,X.env.cells.lookup x=some c->∀v,s.heap.IsCell c v->h'.IsCell c v:=λx c e v ⟨o,ho,hd⟩=>by
  have nch:c∉ch:=λz=>(hch c z).2.2.1 x c e rfl;by_cases hc:c∈X.fs
  ·obtain⟨sl,q⟩:=slot c o (I.cne x c e) hc nch ho (I.FP x c e);exact⟨_,q,hd⟩
  ·exact⟨o,keep c o (I.cne x c e) hc nch ho (I.FP x c e),hd⟩
 refine⟨I.ok,I.os,hg,⟨λb o e n hb hx=>?_,λb o e n hb hx=>?_,λb o e n hx=>?_,λb o e hx=>?_,λb xs e=>tups b xs (I.base.tups b xs e),λb o xs e=>Gu b o xs (I.base.Gu b o xs e),λb ps e=>?_⟩,?_,λx c e=>?_,?_,λx c e=>?_,λp hp=>?_,hok,I.len⟩
 ·exact keep b o (neL b o e) hb (neC b o e hx) (I.base.keep b o e n hb hx) (I.base.free b o e n hx)
 ·obtain⟨sl,e1⟩:=I.base.slot b o e n hb hx;obtain⟨sl',e2⟩:=slot b _ (neL b o e) hb (neC b o e hx) e1 (I.base.free b o e n hx);exact⟨sl',e2⟩
 ·obtain⟨o',e1⟩:=I.base.there b o e hx;exact free b o' (neC b o e hx) e1 (I.base.free b o e n hx)
 ·obtain⟨o',e1⟩:=I.base.there b o e hx;exact there b o' (neC b o e hx) e1
 ·obtain⟨m1,e1⟩:=I.base.G3 b ps e;obtain⟨m2,e2⟩:=G3 b _ e1;exact⟨m1++m2,by rw[e2,Array.append_assoc]⟩
 ·obtain⟨m,hn,hl⟩:=I.loc;refine⟨m,ns m hn,λi x v e1 e2 e3=>?_⟩;obtain⟨u,r,l⟩:=hl i x v e1 e2 e3;refine⟨u,r,?_⟩;rcases l with l |⟨k,c,e,z⟩
  ·exact .inl l
  ·exact .inr ⟨k,c,e,cellK x c e _ z⟩
 ·obtain⟨v,z⟩:=I.cell x c e;exact⟨v,cellK x c e v z⟩
 ·obtain⟨m,⟨o,_,_,ho,_⟩,_⟩:=I.loc;exact free _ o (λz=>(hch _ z).2.1 rfl) ho I.free
 ·obtain⟨v,o,ho,hd⟩:=I.cell x c e;exact free c o (λz=>(hch c z).2.2.1 x c e rfl) ho (I.FP x c e)
 ·obtain⟨e,n,ne,nf,d⟩:=I.pin p hp;have nch:p.1∉ch:=λz=>(hch p.1 z).2.2.2 p hp rfl;exact⟨keep p.1 p.2 ne nf nch e n,free p.1 p.2 nch e n,ne,nf,d⟩
theorem Inv.un {t':Nat} (I:Inv X jb U H s) (u:Un X.fs [] H H' s.heap h') (hok:HOk X.prog X.w H' h'):Inv X jb U H' { s with heap:=h',toks:=t' }:=by
 obtain⟨m,⟨o,es,ep,ho,r⟩,_⟩:=id I.loc;obtain⟨sl,hL⟩:=u.any ho I.free (by simp);exact I.step (g':=s.gens) (d':=s.drawn) (ch:=[]) (λ_ z=>nomatch z) (λb o _ hb _ e n=>u.keep b o e n hb (by simp)) (λb o _ hb _ e n=>u.slot b o e n hb (by simp)) (λb o _ e n=>u.free b o e n (by simp)) (λb o _ e=>u.there b o e (by simp)) u.tups u.Gu u.G3 (λm' hm=>by
  obtain⟨o',es',ep',ho',r'⟩:=hm;rw[ho] at ho';cases ho';exact⟨_,es',ep',hL,r'⟩) hok I.bare
theorem Inv.call {g':Array GenState} {t':Nat} {d':Drawn} {ch:List Addr} (I:Inv X jb U H s) (u:Un (frs X.stack) ch H H' s.heap h') (hok:HOk X.prog X.w H' h') (hg:AllBare g')
  (hch:∀b∈ch,(b∈X.ex\/X.s₀.heap.objs.size<=b)/\b≠X.env.locals/\(∀x c,X.env.cells.lookup x=some c->c≠b)/\∀p∈X.pn++jb,p.1≠b) :
  Inv X jb U H' { s with heap:=h',gens:=g',drawn:=d',toks:=t' }:=by
 obtain⟨m,⟨o,es,ep,ho,r⟩,_⟩:=id I.loc;obtain⟨sl,hL⟩:=u.any ho I.free λz=>(hch _ z).2.1 rfl;exact I.step (ch:=ch) hch (λb o hL hb hc e n=>u.keep b o e n (λz=>(Qcj.mp (I.WR b z)).elim hL hb) hc) (λb o _ _ hc e n=>u.any e n hc) (λb o hc e n=>u.free b o e n hc) (λb o hc e=>u.there b o e hc) u.tups u.Gu u.G3 (λm' hm=>by
  obtain⟨o',es',ep',ho',r'⟩:=hm;rw[ho] at ho';cases ho';exact⟨_,es',ep',hL,r'⟩) hok hg
theorem Inv.turned {t':Nat} {it:Addr} (I:Inv X jb U H s) (k:∀b o,b≠it->s.heap.get? b=some o->h'.get? b=some o) (hn:H it=none) (hL:it≠X.env.locals)
  (h1:it∈X.ex\/X.s₀.heap.objs.size<=it) (h2:∀x c,X.env.cells.lookup x=some c->c≠it) (h3:∀p∈X.pn++jb,p.1≠it):Inv X jb U H { s with heap:=h',toks:=t' }:=by
 have nit:∀b u,H b=some u->b≠it:=λb u e z=>by rw[z,hn] at e;cases e
 refine I.step (g':=s.gens) (d':=s.drawn) (ch:=[it]) (λb hb=>?_) (λb o _ _ hc e _=>k b o (λz=>hc (by simp[z])) e) (λb o _ _ hc e _=>⟨o.slots,k b o (λz=>hc (by simp[z])) e⟩) (λ_ _ _ _ n=>n)
  (λb o hc e=>⟨o,k b o (λz=>hc (by simp[z])) e⟩) (λ_ _ e=>e) (λ_ _ _ e=>e) (λb ps e=>⟨#[],by rw[e];simp⟩) (λm hm=>?_) (λb u e=>?_) I.bare
 ·have e:b=it:=by simpa using hb
  subst e;exact⟨h1,hL,h2,h3⟩
 ·obtain⟨o,es,ep,ho,r⟩:=hm;exact⟨o,es,ep,k _ o (Ne.symm hL) ho,r⟩
 ·refine (I.hok b u e).stay (λc v hc q=>k c v ?_ q) (λ_ q=>q) λ_ _ q=>q;rcases hc with z | z
  ·rw[z];exact nit b u e
  ·exact nit c _ z
theorem Inv.tok (I:Inv X jb U H s) (t:Nat):Inv X jb U H { s with toks:=t }:=I.un (h':=s.heap) (t':=t) Un.refl I.hok
theorem Inv.kept {t':Nat} (I:Inv X jb U H s) (k:∀b u,s.heap.get? b=some u->h'.get? b=some u):Inv X jb U H { s with heap:=h',toks:=t' }:=I.un (Un.kept k) (I.hok.kept k)
theorem Inv.laid {a:Addr} {o:HO} {t':Nat} (I:Inv X jb U H s) (k:∀b u,s.heap.get? b=some u->h'.get? b=some u) (hp:s.heap.objs.size<=a) (new:Bt X.prog X.w (upd H a o) h' a o) :
  Inv X jb U (upd H a o) { s with heap:=h',toks:=t' }:=I.un (Un.laid k hp (I.hok.fresh hp)) (I.hok.laid k hp new)
theorem Inv.write {x e:Addr} {o:HO} {t':Nat} (I:Inv X jb U H s) (mu:Mut (H x)) (he:e=x\/H e=some (.own x)) (k:∀b u,b≠e->s.heap.get? b=some u->h'.get? b=some u) (heo:∃u,h'.get? e=some u)
  (new:Bt X.prog X.w (upd H x o) h' x o):Inv X jb U (upd H x o) { s with heap:=h',toks:=t' }:=I.un (Un.write mu he k heo) (I.hok.write mu he k heo new)
theorem Inv.weak {σ':List (Option V)} (I:Inv X jb U H s) (hl:σ'.length=U.length) (w:∀(i:Nat) v,σ'[i]?=some (some v)->U[i]?=some (some v)):Inv X jb σ' H s:=
 ⟨I.ok,I.os,I.bare,I.base,let ⟨m,hn,hl'⟩:=I.loc;⟨m,hn,λi x v e1 e2 e3=>hl' i x v e1 (w i v e2) e3⟩,I.cell,I.free,I.FP,I.pin,I.hok,hl.trans I.len⟩
theorem Inv.Uw {Iw:YC} (I:Inv X jb U H s) (h:∀p∈Iw,s.heap.get? p.1=some p.2/\H p.1=none/\p.1≠X.env.locals/\p.1∉X.fs/\∀v,p.2.data≠.cell v):Inv X Iw U H s:=
 ⟨I.ok,I.os,I.bare,I.base,I.loc,I.cell,I.free,I.FP,λp hp=>(QbO.mp hp).elim (λz=>I.pin p (QaM _ z)) (h p),I.hok,I.len⟩
theorem Wd {N:YF} (hN:N.Nodup) {i j:Nat} {x:Str} (a:N[i]?=some x) (b:N[j]?=some x):i=j:=by
 obtain⟨h1,e1⟩:=Qai.mp a;obtain⟨h2,e2⟩:=Qai.mp b;exact (List.getElem_inj hN).mp (e1.trans e2.symm)
theorem qp {M:Model} {A:Around} {E:YA} {i:Nat} {x:Str} {v:V} {u:Value} {Q:YH} (I:Inv X jb U H s) (hN:X.N.Nodup) (hi:X.N[i]?=some x) (hx:Loc X.env.scope x) (r:RelV v u)
  (h:∀s',Inv X jb (U.set i (some v)) H s'->(∃a,Heap.SameBut a s.heap s'.heap/\(a=X.env.locals\/X.env.cells.lookup x=some a))->Q () s') (hf:X.fn x=true\/X.env.scope.names.lookup x=some .local:=by first | exact .inl rfl | exact .inr rfl | assumption):wpAny M A (storeName X.env x u) Q E s:=by
 obtain⟨m,hn,hl⟩:=id I.loc;have hcls:(X.env.scope.kind == .class || (X.env.scope.kind == .module&&X.env.locals != X.env.globals))=false:=by rw[I.ok.kind];rfl
 have hiσ : i < U.length:=by rw[I.len];exact (Qai.mp hi).1
 have cne:=I.cne;have tracked:∀{a:Addr} {h':Heap},(∃o,s.heap.get? a=some o/\H a=none)->Heap.SameBut a s.heap h'->HOk X.prog X.w H h':=λ{a h'} ha hs b ob e=>by
  obtain⟨_,_,hfree⟩:=ha;refine (I.hok b ob e).stay (λc w' hc q=>(hs.2 c ?_).trans q) (λ_ q=>q) λ_ _ q=>q;rintro rfl;rcases hc with rfl | hc
  ·rw[hfree] at e;cases e
  ·rw[hfree] at hc;cases hc
 rcases hx with hk | hk
 ·refine wpAny_storeName_local hk hn (λh' hn' hs=>?_) hcls;obtain⟨oL,_,_,hoL,_⟩:=id hn;refine h _ ⟨I.ok,I.os,I.bare,⟨λb o e n hb hx=>?_,λb o e n hb hx=>?_,I.base.free,λb o e hx=>?_,I.base.tups,I.base.Gu,I.base.G3⟩,⟨_,hn',λj y v' e1 e2 e3=>?_⟩,λy c e=>?_,I.free,I.FP,λp hp=>?_,tracked ⟨oL,hoL,I.free⟩ hs,by simpa using I.len⟩ ⟨_,hs,.inl rfl⟩
  ·exact (hs.2 b (Qcu (Qbd (Qct e) I.ok.above))).trans (I.base.keep b o e n hb hx)
  ·obtain⟨sl,e1⟩:=I.base.slot b o e n hb hx;exact⟨sl,(hs.2 b (Qcu (Qbd (Qct e) I.ok.above))).trans e1⟩
  ·obtain⟨o',e1⟩:=I.base.there b o e hx;exact⟨o',(hs.2 b (Qcu (Qbd (Qct e) I.ok.above))).trans e1⟩
  ·by_cases hj:j=i
   ·subst hj;rw[hi] at e1;cases e1;rw[List.getElem?_set_self hiσ] at e2;cases e2;exact⟨u,r,.inl ⟨hk,by simp⟩⟩
   ·rw[List.getElem?_set_ne (Ne.symm hj)] at e2;obtain⟨u',r',q⟩:=hl j y v' e1 e2 e3;refine⟨u',r',?_⟩;rcases q with⟨k,e⟩|⟨k,c,e,z⟩
    ·refine .inl ⟨k,?_⟩;have:y≠x:=λe=>hj (Wd hN e1 (e ▸ hi));simp[this,e]
    ·exact .inr ⟨k,c,e,z.sameBut hs (cne y c e)⟩
  ·obtain⟨w',z⟩:=I.cell y c e;exact⟨w',z.sameBut hs (cne y c e)⟩
  ·obtain⟨e,n,ne,nf,d⟩:=I.pin p hp;exact⟨(hs.2 p.1 ne).trans e,n,ne,nf,d⟩
 ·have hfn:X.fn x=true:=by
   rcases hf with z | z
   ·exact z
   ·rw[z] at hk;cases hk
  obtain⟨c,hc⟩:=I.ok.has x (.inl hk);obtain⟨w',z⟩:=I.cell x c hc;refine wpAny_storeName_cell I.ok.kind hk hc z (λh' hc' hs=>?_);obtain⟨oc,hoc,N4⟩:=id z;refine h { s with heap:=h' } ⟨I.ok,I.os,I.bare,⟨λb o e n hb hx=>?_,λb o e n hb hx=>?_,I.base.free,λb o e hx=>?_,I.base.tups,I.base.Gu,I.base.G3⟩,⟨m,hn.sameBut hs (Ne.symm (cne x c hc)),λj y v' e1 e2 e3=>?_⟩,λy c' e=>?_,I.free,I.FP,λp hp=>?_,tracked ⟨oc,hoc,I.FP x c hc⟩ hs,by simpa using I.len⟩ ⟨c,hs,.inr hc⟩
  ·exact (hs.2 b (Qcu (Qbd (Qct e) (I.ok.cab x c hfn hc)))).trans (I.base.keep b o e n hb hx)
  ·obtain⟨sl,e1⟩:=I.base.slot b o e n hb hx;exact⟨sl,(hs.2 b (Qcu (Qbd (Qct e) (I.ok.cab x c hfn hc)))).trans e1⟩
  ·obtain⟨o',e1⟩:=I.base.there b o e hx;exact⟨o',(hs.2 b (Qcu (Qbd (Qct e) (I.ok.cab x c hfn hc)))).trans e1⟩
  ·by_cases hj:j=i
   ·subst hj;rw[hi] at e1;cases e1;rw[List.getElem?_set_self hiσ] at e2;cases e2;exact⟨u,r,.inr ⟨.inl hk,c,hc,hc'⟩⟩
   ·rw[List.getElem?_set_ne (Ne.symm hj)] at e2;obtain⟨u',r',q⟩:=hl j y v' e1 e2 e3;refine⟨u',r',?_⟩;rcases q with q |⟨k,c',e,z'⟩
    ·exact .inl q
    ·refine .inr ⟨k,c',e,z'.sameBut hs ?_⟩;rintro rfl;exact hj (Wd hN e1 (I.ok.inj _ _ _ e hc ▸ hi))
  ·by_cases hcc:c'=c
   ·subst hcc;exact⟨_,hc'⟩
   ·obtain⟨w2,z2⟩:=I.cell y c' e;exact⟨w2,z2.sameBut hs hcc⟩
  ·obtain⟨e,n,ne,nf,d⟩:=I.pin p hp;refine⟨(hs.2 p.1 ?_).trans e,n,ne,nf,d⟩;intro q;rw[q,hoc] at e;have q':oc=p.2:=QbS e;exact d w' (by rw[<-q'];exact N4)
theorem Lb {M:Model} {A:Around} {E:YA} {i:Nat} {x:Str} {v:V} {u:Value} {Q:YH} (I:Inv X jb U H s) (hN:X.N.Nodup) (hi:X.N[i]?=some x) (hx:Loc X.env.scope x) (r:RelV v u)
  (h:∀s',Inv X jb (U.set i (some v)) H s'->Q () s') (hf:X.fn x=true\/X.env.scope.names.lookup x=some .local:=by first | exact .inl rfl | exact .inr rfl | assumption):wpAny M A (storeName X.env x u) Q E s:=
 qp I hN hi hx r (λs' I' _=>h s' I') hf
theorem Inv.call' {s':Shared} {ch:List Addr} (I:Inv X jb U H s) (ho:s'.os=s.os) (u:Un (frs X.stack) ch H H' s.heap s'.heap) (hok:HOk X.prog X.w H' s'.heap) (hg:AllBare s'.gens)
  (hch:∀b∈ch,(b∈X.ex\/X.s₀.heap.objs.size<=b)/\b≠X.env.locals/\(∀x c,X.env.cells.lookup x=some c->c≠b)/\∀p∈X.pn++jb,p.1≠b):Inv X jb U H' s':=by
 obtain⟨h',g',d',t',o'⟩:=s';have e:o'=s.os:=ho;subst e;exact I.call (g':=g') (t':=t') (d':=d') u hok hg hch
end
abbrev XK:=Value->Option Addr->Hp->Prop
abbrev St:=List (Option V)
abbrev VK:=V->Hp->Prop
abbrev TE:=St->Hp->VK->Prop
abbrev TT:=St->Hp->(Bool->Hp->Prop)->Prop
abbrev TA:=St->Hp->(YG->Hp->Prop)->Prop
structure Ends where
 nx:St->Hp->Prop
 rt:VK
 bk:St->Hp->Prop:=λ_ _=>False
 ct:St->Hp->Prop:=λ_ _=>False
abbrev YO:=St->Hp->Prop
abbrev TS:=Ends->YO
def EP (X:Cx) (jb:YC) (U : St) (Q:VK) (u:Value) (s':Shared):Prop:=∃v H',Inv X jb U H' s'/\RelV v u/\Q v H'
def TP (X:Cx) (jb:YC) (U : St) (Q:Bool->Hp->Prop) (b:Bool) (s':Shared):Prop:=∃H',Inv X jb U H' s'/\Q b H'
def AP (X:Cx) (jb:YC) (U : St) (Q:YG->Hp->Prop) (us:YE) (s':Shared):Prop:=∃vs H',Inv X jb U H' s'/\Vals vs us/\Q vs H'
def SP (X:Cx) (jb:YC) (D:Ends) (f:Flow) (s':Shared):Prop:=
 match f with
 | .next=>∃ σ' H',Inv X jb σ' H' s'/\D.nx σ' H'
 | .brk=>∃ σ' H',Inv X jb σ' H' s'/\D.bk σ' H'
 | .cont=>∃ σ' H',Inv X jb σ' H' s'/\D.ct σ' H'
 | .ret u=>∃v σ' H',Inv X jb σ' H' s'/\RelV v u/\D.rt v H'
def PE (X:Cx) (e:Expr) (t:TE):Prop:=
 ∀(jb:YC) (s:Shared) (U : St) (H:Hp) (Q:VK),Inv X jb U H s->t U H Q->wpAny (model X.prog X.w) X.A (eval e X.env) (EP X jb U Q) X.xe s
def PT (X:Cx) (e:Expr) (t:TT):Prop:=
 ∀(jb:YC) (s:Shared) (U : St) (H:Hp) (Q:Bool->Hp->Prop),Inv X jb U H s->t U H Q->wpAny (model X.prog X.w) X.A (isTrue e X.env (eval e X.env)) (TP X jb U Q) X.xe s
def PW (X:Cx) (e:Expr) (t:TT):Prop:=
 ∀(whole:Sem Value) (jb:YC) (s:Shared) (U : St) (H:Hp) (Q:Bool->Hp->Prop),Inv X jb U H s->t U H Q->wpAny (model X.prog X.w) X.A (isTrue e X.env whole) (TP X jb U Q) X.xe s
theorem PW.pt {X:Cx} {e:Expr} {t:TT} (h:PW X e t):PT X e t:=h _
def PA (X:Cx) (es:YJ) (t:TA):Prop:=
 ∀(pos:Pos) (jb:YC) (s:Shared) (U : St) (H:Hp) (Q:YG->Hp->Prop),Inv X jb U H s->t U H Q->wpAny (model X.prog X.w) X.A (spliced (backTo pos (starEach es X.env))) (AP X jb U Q) X.xe s
def PS (X:Cx) (st:Stmt) (t:TS):Prop:=
 ∀(jb:YC) (s:Shared) (U : St) (H:Hp) (D:Ends),Inv X jb U H s->t D U H->wpAny (model X.prog X.w) X.A (exec st X.env) (SP X jb D) X.xe s
def PSs (X:Cx) (st:List Stmt) (t:TS):Prop:=
 ∀(jb:YC) (s:Shared) (U : St) (H:Hp) (D:Ends),Inv X jb U H s->t D U H->wpAny (model X.prog X.w) X.A (execs st X.env) (SP X jb D) X.xe s
theorem thn {α : Type} {t:Sem α} {Q Q':α->Shared->Prop} {M:Model} {A:Around} {E:YA} {s:Shared} (h:wpAny M A t Q E s) (hQ:∀a s,Q a s->Q' a s):wpAny M A t Q' E s:=QcL h hQ λ_ _ x=>x
section
variable {X:Cx}
theorem bin {a b:Expr} {ta tb:TE} (ha:PE X a ta) (hb:PE X b tb) {jb:YC} {s:Shared} {U : St} {H:Hp} {R:V->V->Hp->Prop} (I:Inv X jb U H s) (h:ta U H λx H1=>tb U H1 λy H2=>R x y H2)
  {α : Type} {Q:α->Shared->Prop} {f:Value->Value->Sem α}
  (hf:∀v u s2 x y H2,Inv X jb U H2 s2->RelV x v->RelV y u->R x y H2->wpAny (model X.prog X.w) X.A (f v u) Q X.xe s2) :
  wpAny (model X.prog X.w) X.A (eval a X.env) (λv s₁=>wpAny (model X.prog X.w) X.A (eval b X.env) (λu s₂=>wpAny (model X.prog X.w) X.A (f v u) Q X.xe s₂) X.xe s₁) X.xe s:=by
 refine thn (ha jb s U H _ I h) λv s1 zz=>?_;obtain⟨x,H1,I1,r1,q1⟩:=zz;refine thn (hb jb s1 U H1 _ I1 q1) λu s2 zz=>?_;obtain⟨y,H2,I2,r2,q2⟩:=zz;exact hf v u s2 x y H2 I2 r1 r2 q2
def CC (i:Nat):TE:=fun U H Q=>∃v,U[i]?=some (some v)/\Q v H
def tC (v:V):TE:=λ_ H Q=>Q v H
theorem DF {i:Nat} {x:Str} {pos:Pos} (hN:X.N[i]?=some x) (hv:Vis X.env.scope x) (hd:(x == ("__debug__":Str))=false:=by decide) (hcd:(x == ("__classdict__":Str))=false:=by decide):PE X (.Name x pos) (CC i):=by
 intro jb s U H Q I h;obtain⟨v,e,h⟩:=h;obtain⟨m,hn,hl⟩:=I.loc;obtain⟨u,r,l⟩:=hl i x v hN e hv;have fin:EP X jb U Q u s:=⟨v,H,I,r,h⟩;rcases l with⟨hk,hm⟩|⟨hk,c,hc,hcell⟩
 ·exact wpAny_Name (wpAny_loadName_local I.ok.kind hk hn hm fin) hd
 ·rcases hk with hk | hk
  ·exact wpAny_Name (wpAny_loadName_cell I.ok.kind hk hc hcell fin) hd
  ·exact wpAny_Name (wpAny_loadName_free I.ok.kind hk hc hcell fin hcd) hd
theorem Af {i j pos}:PE X (.Constant (.int i) j pos) (tC (.int i)):=λ_ _ _ H _ I h=>wpAny_Constant_int ⟨.int i,H,I.tok _,⟨_,rfl⟩,h⟩
theorem DK {b j pos}:PE X (.Constant (.bool b) j pos) (tC (.bl b)):=λ_ _ _ H _ I h=>Constant_bool ⟨.bl b,H,I,rfl,h⟩
theorem KJ {j pos}:PE X (.Constant .none j pos) (tC .non):=λ_ _ _ H _ I h=>Constant_none ⟨.non,H,I,rfl,h⟩
theorem Bf {x j pos}:PE X (.Constant (.str x) j pos) (tC (.str x)):=λ_ _ _ H _ I h=>Calls.Constant_str ⟨.str x,H,I.tok _,⟨_,rfl⟩,h⟩
def Gl (X:Cx) (x:Str):Prop:=X.env.kindOf x=some .globalImplicit
theorem Km {E:YA} {jb:YC} {s:Shared} {U : St} {H:Hp} {x:Str} {u:Value} {pos:Pos} {Q:YA} (I:Inv X jb U H s) (hg:Gl X x) (hm:X.mg x=some u) (h:Q u s)
  (hd:(x == ("__debug__":Str))=false:=by decide):wpAny (model X.prog X.w) X.A (eval (.Name x pos) X.env) Q E s:=
 Calls.Name_function_global I.ok.kind hg (Calls.loadGlobal_global (by rw[I.ok.glob];exact I.mod.glob.keeps I.bk) hm h) hd
theorem Jy {E:YA} {jb:YC} {s:Shared} {U : St} {H:Hp} {x:Str} {u:Value} {pos:Pos} {Q:YA} (I:Inv X jb U H s) (hg:Gl X x) (hm:X.mg x=none) (hv:bootBuiltins x=some u) (h:Q u s)
  (hn:x≠"__name__":=by decide) (hd:(x == ("__debug__":Str))=false:=by decide):wpAny (model X.prog X.w) X.A (eval (.Name x pos) X.env) Q E s:=by
 obtain⟨mb,h1,h2⟩:=I.mod.blt;exact Calls.Name_function_global I.ok.kind hg (Calls.loadGlobal_builtin (by rw[I.ok.glob];exact I.mod.glob.keeps I.bk) hm (by rw[I.ok.blt];exact h1.keeps I.bk) ((h2 x hn).trans hv) h) hd
theorem Fz {x:Str} {v:V} {u:Value} {pos:Pos} (hg:Gl X x) (hm:X.mg x=some u) (r:RelV v u) (hd:(x == ("__debug__":Str))=false:=by decide):PE X (.Name x pos) (tC v):=
 λ_ _ _ H _ I h=>Km I hg hm ⟨v,H,I,r,h⟩ hd
theorem QZ {x:Str} {v:V} {u:Value} {pos:Pos} (hg:Gl X x) (hm:X.mg x=none) (hv:bootBuiltins x=some u) (r:RelV v u) (hn:x≠"__name__":=by decide) (hd:(x == ("__debug__":Str))=false:=by decide):PE X (.Name x pos) (tC v):=
 λ_ _ _ H _ I h=>Jy I hg hm hv ⟨v,H,I,r,h⟩ hn hd
variable {a b:Expr} {ta tb:TE} {pos:Pos}
def PC (X:Cx) (op:CmpOp) (a b:Expr) (t:TE):Prop:=
 ∀(jb:YC) (s:Shared) (U : St) (H:Hp) (Q:VK),Inv X jb U H s->t U H Q ->
  wpAny (model X.prog X.w) X.A (eval a X.env) (λv s₁=>wpAny (model X.prog X.w) X.A (eval b X.env) (λu s₂=>wpAny (model X.prog X.w) X.A (compareOp op v u) (EP X jb U Q) X.xe s₂) X.xe s₁) X.xe s
theorem wL (b:Expr) {op:CmpOp} (h:op≠.In) (h2:op≠.NotIn):behindInMarks op b=false:=by
 have e1:(op == CmpOp.In)=false:=by cases op <;> first | rfl | exact absurd rfl h
 have e2:(op == CmpOp.NotIn)=false:=by cases op <;> first | rfl | exact absurd rfl h2
 cases b <;> simp[behindInMarks,e1,e2]
def tB (t:TE):TT:=fun U H Q=>t U H λx H1=>∃c,x=.bl c/\Q c H1
theorem Mv {op:CmpOp} {t:TE} (h:PC X op a b t) (h1:behindInMarks op b=false:=by first | exact wL _ (by decide) (by decide) | rfl):PT X (.Compare a [op] [b] pos) (tB t):=by
 intro jb s U H Q I hw;refine wpAny_isTrue_Compare1 (thn (h jb s U H _ I hw) λv s1 h1=>thn h1 λu s2 h2=>thn h2 λc s3 zz=>?_) h1;obtain⟨x,H1,I1,r1,q1⟩:=zz;obtain⟨d,rfl,q⟩:=q1;cases r1;exact Qbv ⟨H1,I1,q⟩
theorem Dh {e:Expr} {t:TE} (h:PE X e t) (he:∀whole,isTrue e X.env whole=(do let v <-whole;standAt e.pos;holding [v] (truthy v)):=by intro _;rfl):PT X e (tB t):=by
 intro jb s U H Q I hw;refine isTrue_plain (thn (h jb s U H _ I hw) λv s1 zz=>?_) (he _);obtain⟨x,H1,I1,r1,q1⟩:=zz;obtain⟨d,rfl,q⟩:=q1;cases r1;exact Qbv ⟨H1,I1,q⟩
variable {tA tB':TT} {rest:YJ}
def Kx (t u:TT):TT:=fun U H Q=>t U H λc H1=>if c=true then u U H1 Q else Q false H1
def tOr (t u:TT):TT:=fun U H Q=>t U H λc H1=>if c=true then Q true H1 else u U H1 Q
def Kb (t:TT):TT:=fun U H Q=>t U H λc H1=>Q (!c) H1
theorem kW (ha:PT X a tA):PW X (.BoolOp .And [a] pos) tA:=by
 intro wh jb s U H Q I h;refine isTrue_and (thn (ha jb s U H Q I h) λc s1 e=>?_);cases c with
 | true=>exact isTrue_and_nil e
 | false=>exact e
theorem Mu (ha:PT X a tA):PW X (.BoolOp .Or [a] pos) tA:=by
 intro wh jb s U H Q I h;refine isTrue_or (thn (ha jb s U H Q I h) λc s1 e=>?_);cases c with
 | false=>exact isTrue_or_nil e
 | true=>exact e
theorem qH (ha:PT X a tA) (hb:PW X (.BoolOp .And (b::rest) pos) tB'):PW X (.BoolOp .And (a::b::rest) pos) (Kx tA tB'):=by
 intro wh jb s U H Q I h;refine isTrue_and (thn (ha jb s U H _ I h) λc s1 zz=>?_);obtain⟨H1,I1,q1⟩:=zz;cases c with
 | true=>exact hb wh jb s1 U H1 Q I1 q1
 | false=>exact⟨H1,I1,q1⟩
theorem Mf (ha:PT X a tA) (hb:PW X (.BoolOp .Or (b::rest) pos) tB'):PW X (.BoolOp .Or (a::b::rest) pos) (tOr tA tB'):=by
 intro wh jb s U H Q I h;refine isTrue_or (thn (ha jb s U H _ I h) λc s1 zz=>?_);obtain⟨H1,I1,q1⟩:=zz;cases c with
 | true=>exact⟨H1,I1,q1⟩
 | false=>exact hb wh jb s1 U H1 Q I1 q1
theorem Eb (ha:PT X a tA):PT X (.UnaryOp .Not a pos) (Kb tA):=by
 intro jb s U H Q I h;exact isTrue_not (ha jb s U H (λc H1=>Q (!c) H1) I h)
def GL (ta tb:TE):TE:=fun U H Q=>ta U H λx H1=>∃c,x=.bl c/\if c=true then tb U H1 Q else Q (.bl false) H1
def JP (ta tb:TE):TE:=fun U H Q=>ta U H λx H1=>∃c,x=.bl c/\if c=true then Q (.bl true) H1 else tb U H1 Q
def GE (ta:TE):TE:=fun U H Q=>ta U H λx H1=>∃c,x=.bl c/\Q (.bl (!c)) H1
theorem Ed {op} {t:TE} (h:PE X a t):PE X (.BoolOp op [a] pos) t:=λjb s U H Q I hw=>BoolOp_one (h jb s U H Q I hw)
theorem Fq (ha:PE X a ta) (hb:PE X (.BoolOp .And (b::rest) pos) tb):PE X (.BoolOp .And (a::b::rest) pos) (GL ta tb):=by
 intro jb s U H Q I h;refine BoolOp_and (thn (ha jb s U H _ I h) λv s1 zz=>?_);obtain⟨x,H1,I1,r1,q1⟩:=zz;obtain⟨c,rfl,q1⟩:=q1;cases r1;refine Qbv ?_;cases c with
 | true=>exact hb jb s1 U H1 Q I1 q1
 | false=>exact⟨.bl false,H1,I1,rfl,q1⟩
theorem nO (ha:PE X a ta) (hb:PE X (.BoolOp .Or (b::rest) pos) tb):PE X (.BoolOp .Or (a::b::rest) pos) (JP ta tb):=by
 intro jb s U H Q I h;refine BoolOp_or (thn (ha jb s U H _ I h) λv s1 zz=>?_);obtain⟨x,H1,I1,r1,q1⟩:=zz;obtain⟨c,rfl,q1⟩:=q1;cases r1;refine Qbv ?_;cases c with
 | false=>exact hb jb s1 U H1 Q I1 q1
 | true=>exact⟨.bl true,H1,I1,rfl,q1⟩
theorem DI (ha:PE X a ta):PE X (.UnaryOp .Not a pos) (GE ta):=by
 intro jb s U H Q I h;refine UnaryOp_ (thn (ha jb s U H _ I h) λv s1 zz=>?_);obtain⟨x,H1,I1,r1,q1⟩:=zz;obtain⟨c,rfl,q1⟩:=q1;cases r1;exact not_of (Qbv ⟨.bl (!c),H1,I1,rq,q1⟩)
def tIf (t:TT) (ta tb:TE):TE:=fun U H Q=>t U H λc H1=>if c=true then ta U H1 Q else tb U H1 Q
theorem eG {c:Expr} (hc:PT X c tA) (ha:PE X a ta) (hb:PE X b tb):PE X (.IfExp c a b pos) (tIf tA ta tb):=by
 intro jb s U H Q I h;refine wpAny_IfExp (thn (hc jb s U H _ I h) λd s1 zz=>?_);obtain⟨H1,I1,q1⟩:=zz;cases d with
 | true=>exact ha jb s1 U H1 Q I1 q1
 | false=>exact hb jb s1 U H1 Q I1 q1
end
def SqL (K:YD) (H:Hp) (a:Addr) (xs:YG):Prop:=
 Rd H a (.lst xs) \/
  ∃(o:Obj) (its:Array Value) (n:Nat),K.lookup a=some o/\o.cls=.type "list"/\o.dict=none/\o.data=.seq its n/\its.size<=sizeLine/\Vals xs its.toList
def SqT (K:YD) (H:Hp) (a:Addr) (xs:YG):Prop:=
 Rd H a (.tup xs) \/
  ∃(o:Obj) (its:Array Value) (n:Nat),K.lookup a=some o/\o.cls=.type "tuple"/\o.data=.seq its n/\its.size<=sizeLine/\Vals xs its.toList
def S2:Value->Option V
 | .none=>some .non
 | .bool b=>some (.bl b)
 | .int i _=>some (.int i)
 | .str x _=>some (.str x)
 | .bytes b _=>some (.byt b)
 | .float b _=>some (.flt b)
 | .ref a=>some (.ref a)
 | .type n=>some (.ty n)
 | _=>none
theorem RelV.abs {x:V} {u:Value} (r:RelV x u):S2 u=some x:=by
 cases x with
 | non=>cases r;rfl
 | bl _=>cases r;rfl
 | int _=>obtain⟨t,rfl⟩:=r;rfl
 | str _=>obtain⟨t,rfl⟩:=r;rfl
 | byt _=>obtain⟨t,rfl⟩:=r;rfl
 | flt _=>obtain⟨t,rfl⟩:=r;rfl
 | ref _=>cases r;rfl
 | ty _=>cases r;rfl
theorem RelV.inj {x y:V} {u:Value} (r:RelV x u) (q:RelV y u):x=y:=QbS (r.abs.symm.trans q.abs)
theorem Vals.inj:∀{xs ys:YG} {us:YE},Vals xs us->Vals ys us->xs=ys
 | _,_,_,.nil,.nil=>rfl
 | _,_,_,.cons r t,.cons r' t'=>by rw[r.inj r',Vals.inj t t']
section
variable {X:Cx} {jb:YC} {U : St} {H:Hp} {s:Shared} {a:Addr} {xs ys:YG}
theorem SqL.of {K:YD} (h:H a=some (.lst xs)):SqL K H a xs:=.inl (.inl h)
theorem SqT.of {K:YD} (h:H a=some (.tup xs)):SqT K H a xs:=.inl (.inl h)
theorem Inv.list (I:Inv X jb U H s) (h:SqL X.K H a xs):∃its:YE,Vals xs its/\PlainL s.heap a its.toArray/\xs.length<=sizeLine:=by
 rcases h with h |⟨o,its,n,hk,hc,hd,hs,hz,r⟩
 ·obtain⟨z,its,n,r,e⟩:=h.ok I.hok;exact⟨its,r,⟨_,n,e,rq,rq,rq⟩,z⟩
 ·refine⟨its.toList,r,⟨o,n,I.kIn a o hk,hc,hd,by simpa using hs⟩,?_⟩;have e:=r.length;simp only[QaS] at e;omega
theorem Inv.tuple (I:Inv X jb U H s) (h:SqT X.K H a xs):∃its:YE,Vals xs its/\IsTup s.heap a its.toArray/\xs.length<=sizeLine:=by
 rcases h with h |⟨o,its,n,hk,hc,hs,hz,r⟩
 ·obtain⟨z,its,r,p⟩:=h.ok I.hok;exact⟨its,r,p,z⟩
 ·refine⟨its.toList,r,⟨o,I.kIn a o hk,hc,n,by simpa using hs⟩,?_⟩;have e:=r.length;simp only[QaS] at e;omega
theorem Inv.fX (I:Inv X jb U H s) (h:SqL X.K H a xs) (h':SqL X.K H a ys):xs=ys:=by
 obtain⟨its,r,⟨o,n,e,_,_,d⟩,_⟩:=I.list h;obtain⟨its',r',⟨o',n',e',_,_,d'⟩,_⟩:=I.list h';rw[e] at e';cases e';rw[d] at d';injection d' with d1 _;have:its=its':=by simpa using congrArg Array.toList d1
 subst this;exact r.inj r'
theorem Inv.ZF (I:Inv X jb U H s) (h:SqT X.K H a xs) (h':SqT X.K H a ys):xs=ys:=by
 obtain⟨its,r,⟨o,e,_,n,d⟩,_⟩:=I.tuple h;obtain⟨its',r',⟨o',e',_,n',d'⟩,_⟩:=I.tuple h';rw[e] at e';cases e';rw[d] at d';injection d' with d1 _;have:its=its':=by simpa using congrArg Array.toList d1
 subst this;exact r.inj r'
end
abbrev Cx.wish (X:Cx) (E:YA):Cx:={ X with xe:=E }
abbrev Cx.nox (X:Cx):Cx:=X.wish λ_ _=>False
theorem Cx.Ok.wish {X:Cx} (ok:X.Ok) (E:YA):(X.wish E).Ok:=
 ⟨ok.mod,ok.kind,ok.glob,ok.blt,ok.above,ok.inj,ok.has,ok.cab,ok.hd,ok.frames,ok.stk,ok.exf,ok.bs,ok.bsz,ok.O9,ok.Ly,ok.Hj,ok.frf⟩
theorem Cx.Ok.IW {X:Cx} {E:YA} (ok:(X.wish E).Ok):X.Ok:=
 ⟨ok.mod,ok.kind,ok.glob,ok.blt,ok.above,ok.inj,ok.has,ok.cab,ok.hd,ok.frames,ok.stk,ok.exf,ok.bs,ok.bsz,ok.O9,ok.Ly,ok.Hj,ok.frf⟩
section
variable {X:Cx} {jb:YC} {U : St} {H:Hp} {s:Shared} {E:YA}
theorem Inv.wish (I:Inv X jb U H s) (E:YA):Inv (X.wish E) jb U H s:=⟨I.ok.wish E,I.os,I.bare,I.base,I.loc,I.cell,I.free,I.FP,I.pin,I.hok,I.len⟩
theorem Inv.IW (I:Inv (X.wish E) jb U H s):Inv X jb U H s:=⟨I.ok.IW,I.os,I.bare,I.base,I.loc,I.cell,I.free,I.FP,I.pin,I.hok,I.len⟩
theorem SP.IW {D:Ends} {f:Flow} {s':Shared} (h:SP (X.wish E) jb D f s'):SP X jb D f s':=by
 cases f with
 | next=>obtain⟨σ',H',I,q⟩:=h;exact⟨σ',H',I.IW,q⟩
 | brk=>obtain⟨σ',H',I,q⟩:=h;exact⟨σ',H',I.IW,q⟩
 | cont=>obtain⟨σ',H',I,q⟩:=h;exact⟨σ',H',I.IW,q⟩
 | ret u=>obtain⟨v,σ',H',I,r,q⟩:=h;exact⟨v,σ',H',I.IW,r,q⟩
theorem PE.nox {e:Expr} {t:TE} (h:PE X.nox e t):PE X e t:=λjb s U H Q I hw=>
 QcL (h jb s U H Q (I.wish _) hw) (λ_ _ ⟨v,H',I',r,q⟩=>⟨v,H',I'.IW,r,q⟩) λ_ _ z=>False.elim z
theorem PT.nox {e:Expr} {t:TT} (h:PT X.nox e t):PT X e t:=λjb s U H Q I hw=>
 QcL (h jb s U H Q (I.wish _) hw) (λ_ _ ⟨H',I',q⟩=>⟨H',I'.IW,q⟩) λ_ _ z=>False.elim z
theorem PSs.nox {st:List Stmt} {t:TS} (h:PSs X.nox st t):PSs X st t:=λjb s U H D I hw=>
 QcL (h jb s U H D (I.wish _) hw) (λ_ _ q=>q.IW) λ_ _ z=>False.elim z
end
section
variable {X:Cx} {st:Stmt} {rest:List Stmt} {t u:TS} {e:Expr} {te:TE} {pos:Pos}
def GG:TS:=λD U H=>D.nx U H
def Ao (t u:TS):TS:=λD U H=>t { D with nx:=u D } U H
theorem BJ:PSs X [] GG:=λ_ _ U H _ I h=>wpAny_execs_nil ⟨U,H,I,h⟩
theorem Ae (h1:PS X st t) (h2:PSs X rest u):PSs X (st::rest) (Ao t u):=by
 intro jb s U H D I h;refine wpAny_execs_cons (thn (h1 jb s U H { D with nx:=u D } I h) λf s1 q=>?_);cases f with
 | next=>
  obtain⟨σ',H',I',q⟩:=q;exact h2 jb s1 σ' H' D I' q
 | ret v=>exact q
 | brk=>exact q
 | cont=>exact q
theorem Ag (h1:PS X st t):PSs X [st] t:=by
 intro jb s U H D I h;refine wpAny_execs_cons (thn (h1 jb s U H D I h) λf s1 q=>?_);cases f with
 | next=>exact wpAny_execs_nil q
 | ret v=>exact q
 | brk=>exact q
 | cont=>exact q
def C4:TS:=λD U H=>D.bk U H
theorem Ox:PS X (.Break pos) C4:=λ_ _ U H _ I h=>wpAny_Break ⟨U,H,I,h⟩
theorem Inv.quiet {jb:YC} {U : St} {H:Hp} {s:Shared} (I:Inv X jb U H s):interactive X.env=false:=by simp[interactive,I.ok.kind]
def GH (te:TE):TS:=λD U H=>te U H λ_ H1=>D.nx U H1
theorem Bo (he:PE X e te) (hs:swapsWith e none pos.line X.env=pure false:=by rfl):PS X (.Expr e pos) (GH te):=by
 intro jb s U H D I h;refine wpAny_Expr_any (thn (he jb s U H _ I h) λv s1 zz=>?_) I.quiet hs;obtain⟨x,H1,I1,r1,q1⟩:=zz;exact⟨U,H1,I1,q1⟩
def JO (te:TE):TS:=λD U H=>te U H D.rt
theorem Ay (he:PE X e te):PS X (.Return (some e) pos) (JO te):=by
 intro jb s U H D I h;refine wpAny_Return_some (thn (he jb s U H _ I h) λv s1 zz=>?_);obtain⟨x,H1,I1,r1,q1⟩:=zz;exact⟨x,U,H1,I1,r1,q1⟩
def Jl (c:TT) (t u:TS):TS:=λD U H=>c U H λb H1=>if b=true then t D U H1 else u D U H1
theorem Cu {c:Expr} {a b:List Stmt} {tc:TT} (hc:PT X c tc) (ha:PSs X a t) (hb:PSs X b u):PS X (.If c a b pos) (Jl tc t u):=by
 intro jb s U H D I h;refine wpAny_If (thn (hc jb s U H _ I h) λd s1 zz=>?_);obtain⟨H1,I1,q1⟩:=zz;cases d with
 | true=>exact ha jb s1 U H1 D I1 q1
 | false=>exact hb jb s1 U H1 D I1 q1
def CI:TS:=λ_ _ _=>False
theorem V5:PS X st CI:=λ_ _ _ _ _ _ h=>h.elim
end
abbrev TG:=V->St->Hp->(YO)->Prop
abbrev TGs:=YG->St->Hp->(YO)->Prop
def PG (X:Cx) (target:Expr) (t:TG):Prop:=
 ∀(jb:YC) (s:Shared) (U : St) (H:Hp) (v:V) (u:Value) (Q:YO),Inv X jb U H s->RelV v u->t v U H Q ->
  wpAny (model X.prog X.w) X.A (assign target X.env u) (λ_ s'=>∃ σ' H',Inv X jb σ' H' s'/\Q σ' H') X.xe s
def PGs (X:Cx) (ts:YJ) (t:TGs):Prop:=
 ∀(jb:YC) (s:Shared) (U : St) (H:Hp) (vs:YG) (us:YE) (Q:YO),Inv X jb U H s->Vals vs us->t vs U H Q ->
  wpAny (model X.prog X.w) X.A (assignInOrder ((assignEach ts X.env).map (·.2)) us) (λ_ s'=>∃ σ' H',Inv X jb σ' H' s'/\Q σ' H') X.xe s
abbrev yU:=V->V->V->Hp->(Hp->Prop)->Prop
def F3 (X:Cx) (t:yU):Prop:=
 ∀(jb:YC) (s:Shared) (U : St) (H:Hp) (o i v:V) (ov iv u:Value) (Q:Hp->Prop),Inv X jb U H s->RelV o ov->RelV i iv->RelV v u->t o i v H Q ->
  wpAny (model X.prog X.w) X.A (setItem ov iv u) (λ_ s'=>∃H',Inv X jb U H' s'/\Q H') X.xe s
abbrev TIp:=V->V->Hp->VK->Prop
def PIp (X:Cx) (op:Operator) (t:TIp):Prop:=
 ∀(jb:YC) (s:Shared) (U : St) (H:Hp) (x y:V) (v u:Value) (Q:VK),Inv X jb U H s->RelV x v->RelV y u->t x y H Q ->
  wpAny (model X.prog X.w) X.A (inplaceOp op v u) (EP X jb U Q) X.xe s
section
variable {X:Cx} {pos:Pos}
def Eh (i:Nat):TG:=λv U H Q=>Q (U.set i (some v)) H
theorem Ai {i:Nat} {x:Str} (hN:X.N.Nodup) (hi:X.N[i]?=some x) (hx:Loc X.env.scope x) (hf:X.fn x=true\/X.env.scope.names.lookup x=some .local:=by first | exact .inl rfl | exact .inr rfl | assumption):PG X (.Name x pos) (Eh i):=by
 intro jb s U H v u Q I r h;exact wpAny_assign_Name (Lb I hN hi hx r (λs' I'=>⟨_,H,I',h⟩) hf)
def PR:TGs:=λvs U H Q=>vs=[]/\Q U H
def IQ (t:TG) (u:TGs):TGs:=λvs U H Q=>∃v r,vs=v::r/\t v U H fun σ' H'=>u r σ' H' Q
theorem Br:PGs X [] PR:=by
 intro jb s U H vs us Q I r h;obtain⟨e,h⟩:=h;subst e;cases r;exact assignInOrder_nil ⟨U,H,I,h⟩
theorem Al {e:Expr} {es:YJ} {t:TG} {u:TGs} (h1:PG X e t) (h2:PGs X es u)
  (hs:(assignEach (e::es) X.env).map (·.2)=assign e X.env::(assignEach es X.env).map (·.2):=by rfl):PGs X (e::es) (IQ t u):=by
 intro jb s U H vs us Q I r h;obtain⟨v,vr,e1,h⟩:=h;subst e1;cases r with
 | cons r rr=>
  rw[hs];refine assignInOrder_cons (thn (h1 jb s U H _ _ _ I r h) λ_ s1 zz=>?_);obtain⟨σ1,H1,I1,q1⟩:=zz;exact h2 jb s1 σ1 H1 _ _ Q I1 rr q1
def FA (K:YD) (n:Nat) (t:TGs):TG:=λv U H Q=>∃a xs,v=.ref a/\SqT K H a xs/\xs.length=n/\t xs U H Q
theorem CT {es:YJ} {k:Nat} {t:TGs} {n:Nat} (hc:X.calm=true) (h:PGs X es t)
  (hn:(assignEach es X.env).length=n:=by rfl) (hst:(assignEach es X.env).findIdx? (·.1)=none:=by rfl):PG X (.Tuple es k pos) (FA X.K n t):=by
 intro jb s U H v u Q I r hw;obtain⟨a,xs,e1,hq,hl,hw⟩:=hw;subst e1;cases r;obtain⟨its,rv,ht,hz⟩:=I.tuple hq;refine assign_Tuple_tuple (I.ok.hd hc) ht (by simp[hn,<-hl,rv.length]) hst λh' hx=>?_;have I1:Inv X jb U H { s with heap:=h' }:=I.kept (t':=s.toks) λb o e=>hx b o (Qcu (Qct e)) e;exact h jb _ U H xs _ Q I1 (by simpa using rv) hw
def PQ (to ti:TE) (t:yU):TG:=λv U H Q=>to U H λo H1=>ti U H1 λi H2=>t o i v H2 λH3=>Q U H3
theorem d9 {o i:Expr} {to ti:TE} {t:yU} (ho:PE X o to) (hi:PE X i ti) (hs:F3 X t)
  (ha:∀v,assign (.Subscript o i pos) X.env v=(do
   let ov <-holding [v] (eval o X.env);let iv <-holding [v,ov] (eval i X.env)
   standAt pos
   holding [v,ov,iv] (setItem ov iv v)
   release [v,ov,iv] []):=by intro _;rfl):PG X (.Subscript o i pos) (PQ to ti t):=by
 intro jb s U H v u Q I r h;rw[ha];refine QcJ (Qcn (thn (ho jb s U H _ I h) λov s1 zz=>?_));obtain⟨x,H1,I1,r1,q1⟩:=zz;refine QcJ (Qcn (thn (hi jb s1 U H1 _ I1 q1) λiv s2 zz=>?_));obtain⟨y,H2,I2,r2,q2⟩:=zz;refine QcJ (Qcq (QcJ (Qcn (thn (hs jb s2 U H2 x y v ov iv u _ I2 r1 r2 r q2) λ_ s3 zz=>?_))));obtain⟨H3,I3,q3⟩:=zz;exact wpAny_release ⟨U,H3,I3,q3⟩
def bY (te:TE) (g:TG):TS:=λD U H=>te U H λx H1=>g x U H1 D.nx
theorem Hz {tg e:Expr} {te:TE} {g:TG} (he:PE X e te) (hg:PG X tg g) (hs:swapsWithSole [tg] e pos.line X.env=pure false:=by rfl) (hw:swappedStores [tg] e X.env=pure none:=by rfl)
  (h1:(assignEach [tg] X.env).map (·.2)=[assign tg X.env]:=by rfl):PS X (.Assign [tg] e pos) (bY te g):=by
 intro jb s U H D I h;refine wpAny_Assign_stores (thn (he jb s U H _ I h) λv s1 zz=>?_) hs hw;obtain⟨x,H1,I1,r1,q1⟩:=zz;rw[h1];exact thn (hg jb s1 U H1 x v _ I1 r1 q1) λ_ s2 q=>q
theorem Ba {i:Nat} {x:Str} {e:Expr} {te:TE} {pos':Pos} (hN:X.N.Nodup) (hi:X.N[i]?=some x) (hx:Loc X.env.scope x) (he:PE X e te) (hs:swapsWith e (some (.Name x pos')) pos.line X.env=pure false:=by rfl) (hf:X.fn x=true\/X.env.scope.names.lookup x=some .local:=by first | exact .inl rfl | exact .inr rfl | assumption) :
  PS X (.Assign [.Name x pos'] e pos) (bY te (Eh i)):=by
 intro jb s U H D I h;refine wpAny_Assign_Name (thn (he jb s U H _ I h) λv s1 zz=>?_) hs;obtain⟨y,H1,I1,r1,q1⟩:=zz;exact Lb I1 hN hi hx r1 (λs2 I2=>⟨_,H1,I2,q1⟩) hf
def Kt (i:Nat) (te:TE) (ti:TIp):TS:=λD U H=>∃x,U[i]?=some (some x)/\te U H λy H1=>ti x y H1 λz H2=>D.nx (U.set i (some z)) H2
theorem qJ {i:Nat} {x:Str} {e:Expr} {te:TE} {op:Operator} {ti:TIp} {pos':Pos} (hN:X.N.Nodup) (hi:X.N[i]?=some x) (hx:Loc X.env.scope x) (he:PE X e te) (ho:PIp X op ti) (hf:X.fn x=true\/X.env.scope.names.lookup x=some .local:=by first | exact .inl rfl | exact .inr rfl | assumption) :
  PS X (.AugAssign (.Name x pos') op e pos) (Kt i te ti):=by
 intro jb s U H D I h;obtain⟨v,e1,h⟩:=h;obtain⟨m,hn,hl⟩:=I.loc;have vis:Vis X.env.scope x:=by rcases hx with k | k;exact .inl k;exact .inr (.inl k)
 obtain⟨u,r,l⟩:=hl i x v hi e1 vis;refine wpAny_AugAssign_Name ?_;have go:wpAny (model X.prog X.w) X.A (eval e X.env) (λw s₂=>wpAny (model X.prog X.w) X.A (inplaceOp op u w) (λr s₃=>wpAny (model X.prog X.w) X.A (storeName X.env x r) (λ_=>SP X jb D .next) X.xe s₃) X.xe s₂) X.xe s:=by
  refine thn (he jb s U H _ I h) λw s1 zz=>?_;obtain⟨y,H1,I1,r1,q1⟩:=zz;refine thn (ho jb s1 U H1 v y u w _ I1 r r1 q1) λz s2 zz=>?_;obtain⟨zv,H2,I2,r2,q2⟩:=zz;exact Lb I2 hN hi hx r2 (λs3 I3=>⟨_,H2,I3,q2⟩) hf
 rcases l with⟨hk,hm⟩|⟨hk,c,hc,hcell⟩
 ·exact wpAny_loadName_local I.ok.kind hk hn hm go
 ·rcases hk with hk | hk
  ·exact wpAny_loadName_cell I.ok.kind hk hc hcell go
  ·rcases hx with k | k
   ·have:X.env.scope.names.lookup x=some .free:=hk;rw[k] at this;cases this
   ·have:X.env.scope.names.lookup x=some .free:=hk;rw[k] at this;cases this
def ipI (f:Int->Int->Int):TIp:=λx y H Q=>∃i j,x=.int i/\y=.int j/\Q (.int (f i j)) H
theorem rR:PIp X .Add (ipI λi j=>i+j):=by
 intro jb s U H x y v u Q I r1 r2 h;obtain⟨i,j,e1,e2,q⟩:=h;subst e1;subst e2;obtain⟨t,rfl⟩:=r1;obtain⟨t',rfl⟩:=r2;exact iadd_int ⟨.int _,H,I.tok _,⟨_,rq⟩,q⟩
end
section
variable {X:Cx} {pos:Pos}
abbrev YN:=Nat->YO
def bV (c:TT) (tb:TS):TS:=λD U H=>∃W:YN,(∃m,W m U H)/\∀m U H,W m U H ->
 c U H λb H1=>if b=true then ∃N:YO,(∀ σ' H',N σ' H'->∃m',m' < m/\W m' σ' H')/\tb { D with nx:=N,ct:=N,bk:=D.nx } U H1 else D.nx U H1
theorem dX {c:Expr} {body:List Stmt} {tc:TT} {tb:TS} (hp:PassesOwn (model X.prog X.w) X.A X.env X.xe) (hc:PT X c tc) (hb:PSs X body tb):PS X (.While c body [] pos) (bV tc tb):=by
 intro jb s U H D I h;obtain⟨W,⟨m0,w0⟩,turn⟩:=h;refine wpAny_While (codeAny_whileLoop (λn s'=>∃ σ' H',Inv X jb σ' H' s'/\W n σ' H') ?_ m0 ⟨U,H,I,w0⟩);rintro n s1 ⟨σ1,H1,I1,w1⟩;refine QbY hp (thn (hc jb s1 σ1 H1 _ I1 (turn n σ1 H1 w1)) λb s2 zz=>?_);obtain⟨H2,I2,q2⟩:=zz;cases b with
 | true=>
  obtain⟨N,hN,q2⟩:=q2;rw[if_pos rfl];refine QbY hp (thn (hb jb s2 σ1 H2 _ I2 q2) λf s3 q3=>?_);cases f with
  | next=>
   obtain⟨σ3,H3,I3,n3⟩:=q3;obtain⟨m',hm,w3⟩:=hN σ3 H3 n3;exact⟨m',hm,σ3,H3,I3,w3⟩
  | cont=>
   obtain⟨σ3,H3,I3,n3⟩:=q3;obtain⟨m',hm,w3⟩:=hN σ3 H3 n3;exact⟨m',hm,σ3,H3,I3,w3⟩
  | brk=>exact q3
  | ret v=>exact q3
 | false=>
  rw[if_neg Qba];exact wpAny_execs_nil ⟨σ1,H2,I2,q2⟩
end
structure It where
 go:Nat->Hp->Prop
 yld:Nat->Hp->V->Hp->Prop
 stop:Nat->Hp->Prop
def Ho (X:Cx) (jb:YC) (H:Hp) (b:Addr):Prop:=
 H b=none/\b≠X.env.locals/\b∉X.fs/\(b∈X.ex\/X.s₀.heap.objs.size<=b)/\(∀x c,X.env.cells.lookup x=some c->c≠b)/\∀p∈X.pn++jb,p.1≠b
theorem Inv.QT {X:Cx} {jb:YC} {U : St} {H H':Hp} {s:Shared} {b:Addr} (I:Inv X jb U H s) (hb:s.heap.objs.size<=b) (hn:H' b=none):Ho X jb H' b:=by
 refine⟨hn,Qcy (Qbd I.lt hb),I.wK hb,.inr (Qcv I.sz hb),λx c e z=>?_,λp hp z=>?_⟩
 ·obtain⟨v,q⟩:=I.cell x c e;exact absurd (Qbd q.lt (by rw[z];exact hb)) (Qcm _)
 ·exact absurd (Qbd (Qct (I.pin p hp).1) (by rw[z];exact hb)) (Qcm _)
structure Turn (P:Program) (w:World) (K:YD) (tg:Expr) (J:It) (fp:List Addr) (it:Addr) (tn:Nat->Heap->Prop):Prop where
 mem:it∈fp
 obj:∀i h,tn i h->∀b∈fp,∃o,h.get? b=some o/\∀v,o.data≠.cell v
 keep:∀i h h',tn i h->(∀b∈fp,∀o,h.get? b=some o->h'.get? b=some o)->tn i h'
 item:∀(X:Cx),X.prog=P->X.w=w->X.K=K->X.calm=true->∀(i:Nat) (jb:YC) (s:Shared) (U : St) (H:Hp) (E:YA),Inv X jb U H s->(∀b∈fp,Ho X jb H b)->tn i s.heap->J.go i H ->
  wpAny (model P w) X.A (pyNext (.ref it)) (λr s1=>∃u,r=some u /\
   wpAny (model P w) X.A (letOwnedTupleGo tg (.ref it) u) (λ_ s2=>∃x H',Inv X jb U H' s2/\RelV x u/\J.yld i H x H'/\tn (i+1) s2.heap/\∀b∈fp,H' b=none) E s1) E s
 done:∀(X:Cx),X.prog=P->X.w=w->X.K=K->X.calm=true->∀(i:Nat) (jb:YC) (s:Shared) (U : St) (H:Hp) (E:YA),Inv X jb U H s->(∀b∈fp,Ho X jb H b)->tn i s.heap->J.stop i H ->
  wpAny (model P w) X.A (pyNext (.ref it)) (λr s1=>r=none/\Inv X jb U H s1) E s
 self:∀(A:Around) (i:Nat) (s:Shared) (Q:YA) (E:YA),tn i s.heap->Q (.ref it) s->wpAny (model P w) A (pyIter (.ref it)) Q E s
abbrev TI:=St->Hp->(It->Hp->Prop)->Prop
def PIE (X:Cx) (jb:YC) (U : St) (tg:Expr) (R:It->Hp->Prop) (itv:Value) (s2:Shared):Prop:=
 ∃(it:Addr) (fp:List Addr) (tn:Nat->Heap->Prop) (J:It) (H':Hp),itv=.ref it/\Inv X jb U H' s2/\Turn X.prog X.w X.K tg J fp it tn/\tn 0 s2.heap/\(∀b∈fp,Ho X jb H' b)/\R J H'
def PI (X:Cx) (tg iter:Expr) (wi:TI):Prop:=
 ∀(jb:YC) (s:Shared) (U : St) (H:Hp) (R:It->Hp->Prop),Inv X jb U H s->wi U H R ->
  wpAny (model X.prog X.w) X.A (eval iter X.env) (λv s1=>wpAny (model X.prog X.w) X.A (pyIter v) (PIE X jb U tg R) X.xe s1) X.xe s
theorem U7 {M:Model} {A:Around} {E:YA} {s:Shared} {tg:Expr} {it:Addr} {u:Value} {o:Obj} {n:String} {vs:Array Value} {Q:YH} (ho:s.heap.get? it=some o) (hc:o.cls=.type n) (hd:o.data=.fields vs)
    (hn:["enumerate","zip","dict_itemiterator","dict_reverseitemiterator","odict_iterator","itertools.zip_longest","itertools.pairwise"].contains n=false) (hQ:Q () s):wpAny M A (letOwnedTupleGo tg (.ref it) u) Q E s:=by
  unfold letOwnedTupleGo;cases tg <;> first
    | exact QcK hQ
    | (cases u <;> first
        | exact QcK hQ
        | (refine QcJ (wpAny_load ho ?_)
           rw[hc,hd];show wpAny M A (if (["enumerate","zip","dict_itemiterator","dict_reverseitemiterator","odict_iterator","itertools.zip_longest","itertools.pairwise"].contains n&&vs[0]? == some (rawInt _))=true then _ else _) Q E s
           rw[if_neg (by intro h;rw[hn,Bool.false_and] at h;cases h)];exact QcK hQ))
def Itl (K:YD) (a:Addr):It:=
 ⟨λi H=>∃xs x,SqL K H a xs/\xs[i]?=some x,λi H x H'=>H'=H/\∀xs,SqL K H a xs->xs[i]?=some x,λi H=>∃xs,SqL K H a xs/\xs.length<=i⟩
def Itt (K:YD) (a:Addr):It:=
 ⟨λi H=>∃xs x,SqT K H a xs/\xs[i]?=some x,λi H x H'=>H'=H/\∀xs,SqT K H a xs->xs[i]?=some x,λi H=>∃xs,SqT K H a xs/\xs.length<=i⟩
def Itr (lo:Int) (n:Nat):It:=⟨λi _=>i < n,λi H x H'=>H'=H/\x=.int (lo+i),λi _=>n<=i⟩
theorem qj {P:Program} {w:World} {K:YD} {tg:Expr} (a it:Addr):Turn P w K tg (Itl K a) [it] it (λi h=>h.IsListIter it a i) where
 mem:=by simp
 obj:=λi h st b hb=>by
  have e:b=it:=by simpa using hb
  subst e;obtain⟨o,e,c,d⟩:=st;exact⟨o,e,λv z=>by rw[d] at z;cases z⟩
 keep:=λi h h' st k=>st.at λo e=>k it (by simp) o e
 item:=by
  intro X hP hw hK hc i jb s U H E I hf st hg;subst hP hw hK;obtain⟨xs,x,hq,hx⟩:=hg;obtain⟨its,rv,p,hz⟩:=I.list hq;obtain⟨u,hu,ru⟩:=rv.get hx;obtain⟨f0,f1,f2,f3,f4,f5⟩:=hf it (by simp);refine wpAny_pyNext_list_item st p.isList (x:=u) (by simpa using hu) λh' st' sb=>?_;have I1:Inv X jb U H { s with heap:=h' }:=I.turned (t':=s.toks) (λb o hb e=>(sb.2 b hb).trans e) f0 f1 f3 f4 f5;obtain⟨o,e,c,d⟩:=id st';exact⟨u,rq,U7 (s:={ s with heap:=h' }) e c d (by decide) ⟨x,H,I1,ru,⟨rq,λys hy=>by rw[I.fX hy hq];exact hx⟩,st',λb hb=>(hf b hb).1⟩⟩
 done:=by
  intro X hP hw hK hc i jb s U H E I hf st hg;subst hP hw hK;obtain⟨xs,hq,hx⟩:=hg;obtain⟨its,rv,p,hz⟩:=I.list hq;obtain⟨f0,f1,f2,f3,f4,f5⟩:=hf it (by simp);have hl:=rv.length;exact wpAny_pyNext_list_end (I.ok.hd hc) st p.isList (by simp;omega) λh' eb=>⟨rq,I.turned (t':=s.toks) (λb o hb e=>eb b o hb e) f0 f1 f3 f4 f5⟩
 self:=λ_ _ _ _ _ st h=>wpAny_pyIter_listiter st h
theorem mK {P:Program} {w:World} {K:YD} {tg:Expr} (a it:Addr):Turn P w K tg (Itt K a) [it] it (λi h=>h.IsTupleIter it a i) where
 mem:=by simp
 obj:=λi h st b hb=>by
  have e:b=it:=by simpa using hb
  subst e;obtain⟨o,e,c,d⟩:=st;exact⟨o,e,λv z=>by rw[d] at z;cases z⟩
 keep:=λi h h' st k=>st.at λo e=>k it (by simp) o e
 item:=by
  intro X hP hw hK hc i jb s U H E I hf st hg;subst hP hw hK;obtain⟨xs,x,hq,hx⟩:=hg;obtain⟨its,rv,p,hz⟩:=I.tuple hq;obtain⟨u,hu,ru⟩:=rv.get hx;obtain⟨f0,f1,f2,f3,f4,f5⟩:=hf it (by simp);refine wpAny_pyNext_tuple_item st (show s.heap.IsTuple a its.toArray from p) (x:=u) (by simpa using hu) λh' st' sb=>?_
  have I1:Inv X jb U H { s with heap:=h' }:=I.turned (t':=s.toks) (λb o hb e=>(sb.2 b hb).trans e) f0 f1 f3 f4 f5;obtain⟨o,e,c,d⟩:=id st';exact⟨u,rq,U7 (s:={ s with heap:=h' }) e c d (by decide) ⟨x,H,I1,ru,⟨rq,λys hy=>by rw[I.ZF hy hq];exact hx⟩,st',λb hb=>(hf b hb).1⟩⟩
 done:=by
  intro X hP hw hK hc i jb s U H E I hf st hg;subst hP hw hK;obtain⟨xs,hq,hx⟩:=hg;obtain⟨its,rv,p,hz⟩:=I.tuple hq;obtain⟨f0,f1,f2,f3,f4,f5⟩:=hf it (by simp);have hl:=rv.length;exact wpAny_pyNext_tuple_end (I.ok.hd hc) st (show s.heap.IsTuple a its.toArray from p) (by simp;omega) λh' eb=>⟨rq,I.turned (t':=s.toks) (λb o hb e=>eb b o hb e) f0 f1 f3 f4 f5⟩
 self:=λ_ _ _ _ _ st h=>wpAny_pyIter_tupleiter st h
theorem mL {P:Program} {w:World} {K:YD} {tg:Expr} (it:Addr) (lo:Int) (n:Nat):Turn P w K tg (Itr lo n) [it] it (λi h=>IsRangeIter h it (lo+(i:Nat)*1) ((n:Int) - (i:Nat)) 1) where
 mem:=by simp
 obj:=λi h st b hb=>by
  have e:b=it:=by simpa using hb
  subst e;exact⟨_,st,λv z=>by
   have z':Data.fields _=Data.cell v:=z;cases z'⟩
 keep:=λi h h' st k=>k it (by simp) _ st
 item:=by
  intro X hP hw hK hc i jb s U H E I hf st hg;subst hP hw hK;obtain⟨f0,f1,f2,f3,f4,f5⟩:=hf it (by simp);have W:=Walks.range (prog:=X.prog) (w:=X.w) (I.ok.hd hc) it lo 1 n;refine W.item i s _ _ hg st λv h' tk hv st' kk=>?_;obtain⟨t,rfl⟩:=hv;have I1:Inv X jb U H { s with heap:=h',toks:=tk }:=I.turned (λb o hb e=>kk b o (by simpa using hb) e) f0 f1 f3 f4 f5;refine⟨_,rq,U7 (s:={ s with heap:=h',toks:=tk }) (n:="range_iterator") st' rfl rfl (by decide) ⟨.int (lo+i),H,I1,⟨t,?_⟩,⟨rq,rq⟩,st',λb hb=>(hf b hb).1⟩⟩;rw[Int.mul_one]
 done:=by
  intro X hP hw hK hc i jb s U H E I hf st hg;subst hP hw hK;obtain⟨f0,f1,f2,f3,f4,f5⟩:=hf it (by simp);exact wpAny_pyNext_range_end (I.ok.hd hc) st (by have:n<=i:=hg;omega) λh' eb=>⟨rq,I.turned (t':=s.toks) (λb o hb e=>eb b o hb e) f0 f1 f3 f4 f5⟩
 self:=λ_ _ _ _ _ st h=>wpAny_pyIter_rangeiter st h
section
variable {X:Cx} {tg:Expr}
def Iy (K:YD) (tl:TE):TI:=fun U H R=>tl U H λx H1=>∃a,x=.ref a/\(∃xs,SqL K H1 a xs)/\R (Itl K a) H1
def NM (K:YD) (tl:TE):TI:=fun U H R=>tl U H λx H1=>∃a,x=.ref a/\(∃xs,SqT K H1 a xs)/\R (Itt K a) H1
theorem CW {l:Expr} {tl:TE} (hl:PE X l tl):PI X tg l (Iy X.K tl):=by
 intro jb s U H R I h;refine thn (hl jb s U H _ I h) λv s1 zz=>?_;obtain⟨x,H1,I1,r1,q1⟩:=zz;obtain⟨a,e,⟨xs,hq⟩,q⟩:=q1;subst e;cases r1;obtain⟨its,rv,p,hz⟩:=I1.list hq;refine Qby p.isList ?_;refine⟨s1.heap.objs.size,[s1.heap.objs.size],_,_,H1,rq,I1.kept (t':=s1.toks) λb o e=>Qaz _ e,qj a _,⟨_,QaP _ rfl,rq,rq⟩,λb hb=>?_,q⟩;have e:b=s1.heap.objs.size:=by simpa using hb
 subst e;exact I1.QT (QcD _) (I1.hok.fresh (QcD _))
theorem Fp {l:Expr} {tl:TE} (hl:PE X l tl):PI X tg l (NM X.K tl):=by
 intro jb s U H R I h;refine thn (hl jb s U H _ I h) λv s1 zz=>?_;obtain⟨x,H1,I1,r1,q1⟩:=zz;obtain⟨a,e,⟨xs,hq⟩,q⟩:=q1;subst e;cases r1;obtain⟨its,rv,p,hz⟩:=I1.tuple hq;refine Qbh (show s1.heap.IsTuple a its.toArray from p) ?_
 refine⟨s1.heap.objs.size,[s1.heap.objs.size],_,_,H1,rq,I1.kept (t':=s1.toks) λb o e=>Qaz _ e,mK a _,⟨_,QaP _ rfl,rq,rq⟩,λb hb=>?_,q⟩;have e:b=s1.heap.objs.size:=by simpa using hb
 subst e;exact I1.QT (QcD _) (I1.hok.fresh (QcD _))
theorem dO {jb:YC} {U : St} {H:Hp} {s:Shared} {R:It->Hp->Prop} {E:YA} {lo hi:Int} {t u v:Tok} {tk:Nat} (I:Inv X jb U H s) (h1:-(2 ^ 62)<=lo) (h2:lo < 2 ^ 62) (h3:-(2 ^ 62)<=hi) (h4:hi < 2 ^ 62)
  (q:R (Itr lo (hi - lo).toNat) H):wpAny (model X.prog X.w) X.A (pyIter (.ref s.heap.objs.size)) (PIE X jb U tg R) E { s with heap:=s.heap.push { cls:=.type "range",data:=.fields #[.int lo t,.int hi u,.int 1 v] },toks:=tk }:=by
 refine wpAny_pyIter_range (IsRange.new ..) (small_one h1 h2 h3 h4) ?_;have I1:Inv X jb U H { s with heap:=s.heap.push { cls:=.type "range",data:=.fields #[.int lo t,.int hi u,.int 1 v] },toks:=tk }:=I.kept λb o e=>Qaz _ e;refine⟨(s.heap.push { cls:=.type "range",data:=.fields #[.int lo t,.int hi u,.int 1 v] }).objs.size,[(s.heap.push { cls:=.type "range",data:=.fields #[.int lo t,.int hi u,.int 1 v] }).objs.size],_,_,H,rq,
  I1.kept (t':=tk) λb o e=>Qaz _ e,mL _ lo (hi - lo).toNat,?_,λb hb=>?_,q⟩
 ·have e1:lo+((0:Nat):Int)*1=lo:=by simp
  have e2:(((hi - lo).toNat:Nat):Int) - ((0:Nat):Int)=Builtin.Range.rangeSize lo hi 1:=by rw[rangeSize_one];split <;> omega
  show IsRangeIter _ _ (lo+((0:Nat):Int)*1) ((((hi - lo).toNat:Nat):Int) - ((0:Nat):Int)) 1;rw[e1,e2];exact QaP _ rfl
 ·have e:b=(s.heap.push { cls:=.type "range",data:=.fields #[.int lo t,.int hi u,.int 1 v] }).objs.size:=by simpa using hb
  subst e;exact I1.QT (QcD _) (I1.hok.fresh (QcD _))
def Ix (ta:TA):TI:=fun U H R=>ta U H λvs H1=>∃j:Int,vs=[.int j]/\-(2 ^ 62)<=j/\j < 2 ^ 62/\R (Itr 0 j.toNat) H1
def Iq (ta:TA):TI:=fun U H R=>ta U H λvs H1=>∃i j:Int,vs=[.int i,.int j]/\(-(2 ^ 62)<=i/\i < 2 ^ 62/\-(2 ^ 62)<=j/\j < 2 ^ 62)/\R (Itr i (j - i).toNat) H1
theorem Dr {a:Expr} {ta:TA} {p pos:Pos} (hg:Gl X "range") (hm:X.mg "range"=none) (ha:PA X [a] ta) (hs:starEach [a] X.env=[(false,eval a X.env)]:=by rfl):PI X tg (.Call (.Name "range" p) [a] [] pos) (Ix ta):=by
 intro jb s U H R I h;refine Call_ (Jy I hg hm boot_range (Qae (thn (ha pos jb s U H _ I h) λus s1 zz=>?_) hs rfl));obtain⟨vs,H1,I1,r1,q1⟩:=zz;obtain⟨j,e,q1,q2,q⟩:=q1;subst e;cases r1 with
 | cons r rr=>
  cases rr;obtain⟨t,rfl⟩:=r;exact call_range_1 (dO I1 (by omega) (by omega) q1 q2 (by simpa using q))
theorem qN {a b:Expr} {ta:TA} {p pos:Pos} (hg:Gl X "range") (hm:X.mg "range"=none) (ha:PA X [a,b] ta) (hs:starEach [a,b] X.env=[(false,eval a X.env),(false,eval b X.env)]:=by rfl) (hs2:starEach [b] X.env=[(false,eval b X.env)]:=by rfl) :
  PI X tg (.Call (.Name "range" p) [a,b] [] pos) (Iq ta):=by
 intro jb s U H R I h;refine Call_ (Jy I hg hm boot_range (Qae (thn (ha pos jb s U H _ I h) λus s1 zz=>?_) (by rw[hs,hs2]) (by rw[hs2];rfl)));obtain⟨vs,H1,I1,r1,q1⟩:=zz;obtain⟨i,j,e,⟨q1,q2,q3,q4⟩,q⟩:=q1;subst e;cases r1 with
 | cons r rr=>
  cases rr with
  | cons r' rr=>
   cases rr;obtain⟨t,rfl⟩:=r;obtain⟨t',rfl⟩:=r';exact call_range_2 (dO I1 q1 q2 q3 q4 q)
def Dm (wi:TI) (g:TG) (tb:TS):TS:=λD U H=>wi U H λJ H1=>∃W:Nat->YN,(∃m,W 0 m U H1)/\∀i m U H,W i m U H ->
 (J.stop i H/\D.nx U H)\/(J.go i H/\∃N:YO,(∀ σ' H',N σ' H'->∃m',m' < m/\W (i+1) m' σ' H')/\∀x H',J.yld i H x H'->g x U H' fun σ2 H2=>tb { D with nx:=N,ct:=N,bk:=D.nx } σ2 H2)
def OD (fp:List Addr) (h:Heap):YC:=fp.filterMap λb=>(h.get? b).map λo=>(b,o)
theorem KY {fp:List Addr} {h:Heap} {b:Addr} {o:Obj} (hb:b∈fp) (e:h.get? b=some o):(b,o)∈OD fp h:=List.mem_filterMap.mpr ⟨b,hb,by rw[e];rfl⟩
theorem rB {fp:List Addr} {h:Heap} {p:Addr×Obj} (hp:p∈OD fp h):p.1∈fp/\h.get? p.1=some p.2:=by
 obtain⟨b,hb,e⟩:=List.mem_filterMap.mp hp;cases q:h.get? b with
 | none=>rw[q] at e;cases e
 | some o=>
  rw[q] at e;have e':(b,o)=p:=QbS e;subst e';exact⟨hb,q⟩
theorem Inv.pinned {jb:YC} {U : St} {H:Hp} {s:Shared} {fp:List Addr} (I:Inv X jb U H s) (hf:∀b∈fp,Ho X jb H b) (ho:∀b∈fp,∃o,s.heap.get? b=some o/\∀v,o.data≠.cell v):Inv X (jb++OD fp s.heap) U H s:=
 I.Uw λp hp=>(QbO.mp hp).elim (λz=>I.pin p (QaE _ z)) λz=>by
  obtain⟨hb,e⟩:=rB z;obtain⟨f0,f1,f2,_⟩:=hf p.1 hb;obtain⟨o,e',d⟩:=ho p.1 hb;rw[e] at e';cases e';exact⟨e,f0,f1,f2,d⟩
theorem Inv.Ja {jb pl:YC} {U : St} {H:Hp} {s:Shared} (I:Inv X (jb++pl) U H s):Inv X jb U H s:=I.Uw λp hp=>I.pin p (QaE _ (QaM _ hp))
theorem Ck {iter:Expr} {body:List Stmt} {wi:TI} {g:TG} {tb:TS} {pos:Pos} (hp:PassesOwn (model X.prog X.w) X.A X.env X.xe) (hc:X.calm=true) (hi:PI X tg iter wi) (hg:PG X tg g) (hb:PSs X body tb)
  (hs:∀x,foldedSetIterable iter X.env x=pure x:=by intro _;rfl):PS X (.For tg iter body [] pos) (Dm wi g tb):=by
 intro jb s U H D I h;refine wpAny_For (thn (hi jb s U H _ I h) λv s1 h1=>thn h1 λitv s2 h2=>?_) hs;obtain⟨it,fp,tn,J,H2,e,I2,T,st2,f2,W,⟨m0,w0⟩,turn⟩:=h2;subst e;have stat:∀{H':Hp},(∀b∈fp,H' b=none)->∀b∈fp,Ho X jb H' b:=λhn b hb=>⟨hn b hb,(f2 b hb).2⟩;refine codeAny_forLoop_any (λn s'=>∃i σ' H',Inv X jb σ' H' s'/\tn i s'.heap/\(∀b∈fp,H' b=none)/\W i n σ' H') ?_ m0 ⟨0,U,H2,I2,st2,λb hb=>(f2 b hb).1,w0⟩;rintro n s3 ⟨i,σ3,H3,I3,st3,fr3,w3⟩;rcases turn i n σ3 H3 w3 with⟨stop,qn⟩|⟨go,N,hN,step⟩
 ·refine QbY hp (thn (T.done X rfl rfl rfl hc i jb s3 σ3 H3 X.xe I3 (stat fr3) st3 stop) λr s4 zz=>?_);obtain⟨hr,I4⟩:=zz;subst hr;exact wpAny_execs_nil ⟨σ3,H3,I4,qn⟩
 ·refine QbY hp (thn (T.item X rfl rfl rfl hc i jb s3 σ3 H3 X.xe I3 (stat fr3) st3 go) λr s4 zz=>?_);obtain⟨u,hr,h4⟩:=zz;subst hr;refine QbY hp (thn h4 λ_ s5 zz=>?_);obtain⟨x,H5,I5,r5,y5,st5,fr5⟩:=zz;have I5':=I5.pinned (stat fr5) (T.obj _ _ st5);refine QbY hp (thn (hg _ s5 σ3 H5 x u _ I5' r5 (step x H5 y5)) λ_ s6 zz=>?_);obtain⟨σ6,H6,I6,q6⟩:=zz;refine QbY hp (thn (hb _ s6 σ6 H6 _ I6 q6) λf s7 q7=>?_);have again:∀{σ7:St} {H7:Hp},Inv X (jb++OD fp s5.heap) σ7 H7 s7->N σ7 H7->∃m,m < n/\∃i σ' H',Inv X jb σ' H' s7/\tn i s7.heap/\(∀b∈fp,H' b=none)/\W i m σ' H':=λ{σ7 H7} I7 n7=>by
   obtain⟨m',hm,w7⟩:=hN σ7 H7 n7;refine⟨m',hm,i+1,σ7,H7,I7.Ja,T.keep _ _ _ st5 λb hb o e=>(I7.pin (b,o) (QaE _ (QaE _ (KY hb e)))).1,λb hb=>?_,w7⟩;obtain⟨o,e,d⟩:=T.obj _ _ st5 b hb;exact (I7.pin (b,o) (QaE _ (QaE _ (KY hb e)))).2.1
  cases f with
  | next=>obtain⟨σ7,H7,I7,n7⟩:=q7;exact again I7 n7
  | cont=>obtain⟨σ7,H7,I7,n7⟩:=q7;exact again I7 n7
  | brk=>obtain⟨σ7,H7,I7,q7⟩:=q7;exact⟨σ7,H7,I7.Ja,q7⟩
  | ret v=>obtain⟨x7,σ7,H7,I7,r7,q7⟩:=q7;exact⟨x7,σ7,H7,I7.Ja,r7,q7⟩
end
theorem Pj {K:YD} {a:Addr} {xs:YG} {g:TG} {tb:TS} {D:Ends} {U : St} {H:Hp} (Pv:YN) (h0:Pv 0 U H) (hl:∀i U H,i<=xs.length->Pv i U H->SqL K H a xs)
  (hs:∀i x U H,xs[i]?=some x->Pv i U H->g x U H fun σ2 H2=>tb { D with nx:=Pv (i+1),ct:=Pv (i+1),bk:=D.nx } σ2 H2) (hd:∀ U H,Pv xs.length U H->D.nx U H) :
  ∃W:Nat->YN,(∃m,W 0 m U H)/\∀i m U H,W i m U H ->
   ((Itl K a).stop i H/\D.nx U H)\/((Itl K a).go i H/\∃N:YO,(∀ σ' H',N σ' H'->∃m',m' < m/\W (i+1) m' σ' H')/\∀x H',(Itl K a).yld i H x H'->g x U H' fun σ2 H2=>tb { D with nx:=N,ct:=N,bk:=D.nx } σ2 H2):=by
 refine⟨λi m U H=>m=xs.length - i/\i<=xs.length/\Pv i U H,⟨xs.length,by simp,QcE _,h0⟩,?_⟩;rintro i m U H ⟨rfl,hi,p⟩;have q:=hl i U H hi p;by_cases hlt:i < xs.length
 ·refine .inr ⟨⟨xs,xs[i],q,by simp[hlt]⟩,Pv (i+1),fun σ' H' p'=>⟨xs.length - (i+1),by omega,rq,hlt,p'⟩,λx H' y=>?_⟩;obtain⟨e,y⟩:=y;subst e;exact hs i x U _ (y xs q) p
 ·have e:i=xs.length:=by omega
  subst e;exact .inl ⟨⟨xs,q,QcD _⟩,hd U H p⟩
theorem Kr {K:YD} {a:Addr} {xs:YG} {g:TG} {tb:TS} {D:Ends} {U : St} {H:Hp} (Pv:YN) (h0:Pv 0 U H) (hl:∀i U H,i<=xs.length->Pv i U H->SqT K H a xs)
  (hs:∀i x U H,xs[i]?=some x->Pv i U H->g x U H fun σ2 H2=>tb { D with nx:=Pv (i+1),ct:=Pv (i+1),bk:=D.nx } σ2 H2) (hd:∀ U H,Pv xs.length U H->D.nx U H) :
  ∃W:Nat->YN,(∃m,W 0 m U H)/\∀i m U H,W i m U H ->
   ((Itt K a).stop i H/\D.nx U H)\/((Itt K a).go i H/\∃N:YO,(∀ σ' H',N σ' H'->∃m',m' < m/\W (i+1) m' σ' H')/\∀x H',(Itt K a).yld i H x H'->g x U H' fun σ2 H2=>tb { D with nx:=N,ct:=N,bk:=D.nx } σ2 H2):=by
 refine⟨λi m U H=>m=xs.length - i/\i<=xs.length/\Pv i U H,⟨xs.length,by simp,QcE _,h0⟩,?_⟩;rintro i m U H ⟨rfl,hi,p⟩;have q:=hl i U H hi p;by_cases hlt:i < xs.length
 ·refine .inr ⟨⟨xs,xs[i],q,by simp[hlt]⟩,Pv (i+1),fun σ' H' p'=>⟨xs.length - (i+1),by omega,rq,hlt,p'⟩,λx H' y=>?_⟩;obtain⟨e,y⟩:=y;subst e;exact hs i x U _ (y xs q) p
 ·have e:i=xs.length:=by omega
  subst e;exact .inl ⟨⟨xs,q,QcD _⟩,hd U H p⟩
theorem Fx {lo:Int} {n:Nat} {g:TG} {tb:TS} {D:Ends} {U : St} {H:Hp} (Pv:YN) (h0:Pv 0 U H)
  (hs:∀i U H,i < n->Pv i U H->g (.int (lo+i)) U H fun σ2 H2=>tb { D with nx:=Pv (i+1),ct:=Pv (i+1),bk:=D.nx } σ2 H2) (hd:∀ U H,Pv n U H->D.nx U H) :
  ∃W:Nat->YN,(∃m,W 0 m U H)/\∀i m U H,W i m U H ->
   ((Itr lo n).stop i H/\D.nx U H)\/((Itr lo n).go i H/\∃N:YO,(∀ σ' H',N σ' H'->∃m',m' < m/\W (i+1) m' σ' H')/\∀x H',(Itr lo n).yld i H x H'->g x U H' fun σ2 H2=>tb { D with nx:=N,ct:=N,bk:=D.nx } σ2 H2):=by
 refine⟨λi m U H=>m=n - i/\i<=n/\Pv i U H,⟨n,by simp,QcE _,h0⟩,?_⟩;rintro i m U H ⟨rfl,hi,p⟩;by_cases hlt:i < n
 ·refine .inr ⟨hlt,Pv (i+1),fun σ' H' p'=>⟨n - (i+1),by omega,rq,hlt,p'⟩,λx H' y=>?_⟩;obtain⟨e,y⟩:=y;subst e y;exact hs i U _ hlt p
 ·have e:i=n:=by omega
  subst e;exact .inl ⟨QcD _,hd U H p⟩
abbrev R2:=V->V->Hp->VK->Prop
def OpR (X:Cx) (f:Value->Value->Sem Value) (r:R2):Prop:=
 ∀(jb:YC) (s:Shared) (U : St) (H:Hp) (x y:V) (v u:Value) (Q:VK),Inv X jb U H s->RelV x v->RelV y u->r x y H Q ->
  wpAny (model X.prog X.w) X.A (f v u) (EP X jb U Q) X.xe s
def UnR (X:Cx) (f:Value->Sem Value) (r:V->Hp->VK->Prop):Prop:=
 ∀(jb:YC) (s:Shared) (U : St) (H:Hp) (x:V) (v:Value) (Q:VK),Inv X jb U H s->RelV x v->r x H Q ->
  wpAny (model X.prog X.w) X.A (f v) (EP X jb U Q) X.xe s
def DW (X:Cx) (f:Value) (r:YG->Hp->VK->Prop):Prop:=
 ∀(jb:YC) (s:Shared) (U : St) (H:Hp) (xs:YG) (us:YE) (Q:VK),Inv X jb U H s->Vals xs us->r xs H Q ->
  wpAny (model X.prog X.w) X.A (call f us) (EP X jb U Q) X.xe s
def S3 (X:Cx) (r:V->Hp->(Bool->Hp->Prop)->Prop):Prop:=
 ∀(jb:YC) (s:Shared) (U : St) (H:Hp) (x:V) (v:Value) (Q:Bool->Hp->Prop),Inv X jb U H s->RelV x v->r x H Q ->
  wpAny (model X.prog X.w) X.A (truthy v) (TP X jb U Q) X.xe s
def tOp (r:R2) (ta tb:TE):TE:=fun U H Q=>ta U H λx H1=>tb U H1 λy H2=>r x y H2 Q
def tUn (r:V->Hp->VK->Prop) (ta:TE):TE:=fun U H Q=>ta U H λx H1=>r x H1 Q
def rI (C:Int->Int->Prop) (g:Int->Int->V):R2:=λx y H Q=>∃i j,x=.int i/\y=.int j/\C i j/\Q (g i j) H
def rI0 (g:Int->Int->V):R2:=λx y H Q=>∃i j,x=.int i/\y=.int j/\Q (g i j) H
def rU (g:Int->V):V->Hp->VK->Prop:=λx H Q=>∃i,x=.int i/\Q (g i) H
section
variable {X:Cx} {a b c:Expr} {ta tb tc:TE} {pos:Pos}
theorem yR (ha:PE X a ta) (hb:PE X b tb) {jb:YC} {s:Shared} {U : St} {H:Hp} {R:V->V->Hp->Prop} (I:Inv X jb U H s)
  (h:ta U H λx H1=>tb U H1 λy H2=>R x y H2) {Q:YA} {f:Value->Value->Sem Value}
  (hf:∀v u s2 x y H2,Inv X jb U H2 s2->RelV x v->RelV y u->R x y H2->wpAny (model X.prog X.w) X.A (f v u) Q X.xe s2) :
  wpAny (model X.prog X.w) X.A (eval a X.env) (λv s₁=>wpAny (model X.prog X.w) X.A (eval b X.env) (λu s₂=>wpAny (model X.prog X.w) X.A (f v u) Q X.xe s₂) X.xe s₁) X.xe s:=by
 refine thn (ha jb s U H _ I h) λv s1 zz=>?_;obtain⟨x,H1,I1,r1,q1⟩:=zz;refine thn (hb jb s1 U H1 _ I1 q1) λu s2 zz=>?_;obtain⟨y,H2,I2,r2,q2⟩:=zz;exact hf v u s2 x y H2 I2 r1 r2 q2
theorem Bh {op:Operator} {r:R2} (ho:OpR X (binaryOp op) r) (ha:PE X a ta) (hb:PE X b tb):PE X (.BinOp a op b pos) (tOp r ta tb):=by
 intro jb s U H Q I h;exact wpAny_BinOp (yR ha hb I h λv u s2 x y H2 I2 rx ry q=>ho jb s2 U H2 x y v u Q I2 rx ry q)
theorem Qd {op:UnaryOp} {r:V->Hp->VK->Prop} (ho:UnR X (unaryOp op) r) (ha:PE X a ta):PE X (.UnaryOp op a pos) (tUn r ta):=by
 intro jb s U H Q I h;refine UnaryOp_ (thn (ha jb s U H _ I h) λv s1 zz=>?_);obtain⟨x,H1,I1,r1,q1⟩:=zz;exact ho jb s1 U H1 x v Q I1 r1 q1
theorem opI {f:Value->Value->Sem Value} {C:Int->Int->Prop} {g:Int->Int->Int}
  (rule:∀(i j:Int) (t u:Tok) (s:Shared) (Q:YA) (E:YA),C i j->Q (.int (g i j) s.toks) { s with toks:=s.toks+1 }->wpAny (model X.prog X.w) X.A (f (.int i t) (.int j u)) Q E s) :
  OpR X f (rI C λi j=>.int (g i j)):=by
 intro jb s U H x y v u Q I rx ry h;obtain⟨i,j,rfl,rfl,hc,q⟩:=h;obtain⟨t,rfl⟩:=rx;obtain⟨t',rfl⟩:=ry;exact rule i j t t' s _ _ hc ⟨.int (g i j),H,I.tok _,⟨_,rq⟩,q⟩
theorem DU {f:Value->Value->Sem Value} {g:Int->Int->Int}
  (rule:∀(i j:Int) (t u:Tok) (s:Shared) (Q:YA) (E:YA),Q (.int (g i j) s.toks) { s with toks:=s.toks+1 }->wpAny (model X.prog X.w) X.A (f (.int i t) (.int j u)) Q E s) :
  OpR X f (rI0 λi j=>.int (g i j)):=by
 intro jb s U H x y v u Q I rx ry h;obtain⟨i,j,rfl,rfl,q⟩:=h;obtain⟨t,rfl⟩:=rx;obtain⟨t',rfl⟩:=ry;exact rule i j t t' s _ _ ⟨.int (g i j),H,I.tok _,⟨_,rq⟩,q⟩
theorem nR {f:Value->Value->Sem Value} {g:Int->Int->Bool}
  (rule:∀(i j:Int) (t u:Tok) (s:Shared) (Q:YA) (E:YA),Q (.bool (g i j)) s->wpAny (model X.prog X.w) X.A (f (.int i t) (.int j u)) Q E s) :
  OpR X f (rI0 λi j=>.bl (g i j)):=by
 intro jb s U H x y v u Q I rx ry h;obtain⟨i,j,rfl,rfl,q⟩:=h;obtain⟨t,rfl⟩:=rx;obtain⟨t',rfl⟩:=ry;exact rule i j t t' s _ _ ⟨.bl (g i j),H,I,rq,q⟩
def Tm (i j:Int):Prop:=0 < j/\j < 1073741824
def Tl (i j:Int):Prop:=0<=j/\j<=1000000/\i.natAbs < 2 ^ 64
def p8 (i j:Int):Prop:=(-(2 ^ 64) < i/\i < 2 ^ 64)\/(-(2 ^ 64) < j/\j < 2 ^ 64)
theorem p8.ok {i j:Int} (h:p8 i j):IntMulOk i j:=by
 rcases h with⟨h1,h2⟩|⟨h1,h2⟩
 ·exact .of_left (intBits_le_64 h1 h2)
 ·exact .of_right (intBits_le_64 h1 h2)
theorem Cz:OpR X (binaryOp .Add) (rI0 λi j=>.int (i+j)):=DU λ_ _ _ _ _ _ _ q=>add_int q
theorem eU:OpR X (binaryOp .Sub) (rI0 λi j=>.int (i - j)):=DU λ_ _ _ _ _ _ _ q=>sub_int q
theorem Jd:OpR X (binaryOp .Mult) (rI p8 λi j=>.int (i*j)):=opI λ_ _ _ _ _ _ _ hc q=>mul_int q hc.ok
theorem Y4:OpR X (binaryOp .FloorDiv) (rI Tm λi j=>.int (i / j)):=opI λi j _ _ _ _ _ hc q=>by
 have h1:(0:Int) < j:=hc.1;have h2:j < 1073741824:=hc.2;exact floordiv_int (by omega) (by rw[Int.fdiv_eq_ediv_of_nonneg i (by omega)];exact q) (.inl (PyProof.noPylong_small (by omega)))
theorem M4:OpR X (binaryOp .Mod) (rI (λ_ j=>0 < j) λi j=>.int (i % j)):=opI λi j _ _ _ _ _ hc q=>by
 have h1:(0:Int) < j:=hc;exact mod_int' (by omega) (by rw[Int.fmod_eq_emod_of_nonneg i (by omega)];exact q)
theorem qQ:OpR X (binaryOp .Pow) (rI Tl λi j=>.int (i ^ j.toNat)):=opI λ_ _ _ _ _ _ _ hc q=>pow_int_small hc.1 hc.2.1 hc.2.2 q
theorem unI {f:Value->Sem Value} {g:Int->Int}
  (rule:∀(i:Int) (t:Tok) (s:Shared) (Q:YA) (E:YA),Q (.int (g i) s.toks) { s with toks:=s.toks+1 }->wpAny (model X.prog X.w) X.A (f (.int i t)) Q E s) :
  UnR X f (rU λi=>.int (g i)):=by
 intro jb s U H x v Q I rx h;obtain⟨i,rfl,q⟩:=h;obtain⟨t,rfl⟩:=rx;exact rule i t s _ _ ⟨.int (g i),H,I.tok _,⟨_,rq⟩,q⟩
theorem Mp:UnR X (unaryOp .USub) (rU λi=>.int (-i)):=unI λ_ _ _ _ _ q=>neg_int q
end
def Db:V->V->Bool
 | .non,.non=>true | .non,.int _=>true | .int _,.non=>true | .non,.bl _=>true | .bl _,.non=>true | .non,.str _=>true | .str _,.non=>true
 | .int _,.int _=>true | .bl _,.bl _=>true | .str _,.str _=>true | .byt _,.byt _=>true
 | .int _,.str _=>true | .str _,.int _=>true | .bl _,.str _=>true | .str _,.bl _=>true
 | _,_=>false
def rEq:R2:=λx y H Q=>Db x y=true/\Q (.bl (decide (x=y))) H
def rNe:R2:=λx y H Q=>Db x y=true/\Q (.bl (!decide (x=y))) H
theorem lW {i j:Int}:decide (V.int i=V.int j)=(i == j):=by
 rw[QbV];simp
theorem tZ {i j:Bool}:decide (V.bl i=V.bl j)=(i == j):=by
 rw[QbV];simp
theorem lV {i j:Str}:decide (V.str i=V.str j)=(i == j):=by
 rw[QbV];simp
theorem lX {i j:Array UInt8}:decide (V.byt i=V.byt j)=(i.toList == j.toList):=by
 rw[QbV];cases i;cases j;simp
section
variable {X:Cx} {a b c:Expr} {ta tb tc:TE} {pos:Pos}
theorem Cq {jb:YC} {U : St} {H:Hp} {s:Shared} {Q:VK} {k k':Bool} (I:Inv X jb U H s) (q:Q (.bl k) H) (e:k=k'):EP X jb U Q (.bool k') s:=by
 subst e;exact⟨.bl k,H,I,rq,q⟩
theorem GF:OpR X (compareOp .Eq) rEq:=by
 intro jb s U H x y v u Q I rx ry h;obtain⟨hs,q⟩:=h;cases x with
 | non=>
  cases rx;cases y with
  | non=>cases ry;exact PySem.EqNone.eq_none_none (Cq I q (by simp))
  | bl j=>cases ry;exact PySem.EqNone.eq_none_bool (Cq I q (by simp))
  | int j=>obtain⟨t',rfl⟩:=ry;exact PySem.EqNone.eq_none_int (Cq I q (by simp))
  | str j=>obtain⟨t',rfl⟩:=ry;exact PySem.EqNone.eq_none_str (Cq I q (by simp))
  | _=>exact absurd (show false=true from hs) Qba
 | bl i=>
  cases rx;cases y with
  | non=>cases ry;exact PySem.EqNone.eq_bool_none (Cq I q (by simp))
  | bl j=>cases ry;exact eq_bool (Cq I q tZ)
  | str j=>obtain⟨t',rfl⟩:=ry;exact PySem.EqMixed.eq_bool_str (Cq I q (by simp))
  | _=>exact absurd (show false=true from hs) Qba
 | int i=>
  obtain⟨t,rfl⟩:=rx;cases y with
  | non=>cases ry;exact PySem.EqNone.eq_int_none (Cq I q (by simp))
  | int j=>obtain⟨t',rfl⟩:=ry;exact eq_int (Cq I q lW)
  | str j=>obtain⟨t',rfl⟩:=ry;exact PySem.EqMixed.eq_int_str (Cq I q (by simp))
  | _=>exact absurd (show false=true from hs) Qba
 | str i=>
  obtain⟨t,rfl⟩:=rx;cases y with
  | non=>cases ry;exact PySem.EqNone.eq_str_none (Cq I q (by simp))
  | bl j=>cases ry;exact PySem.EqMixed.eq_str_bool (Cq I q (by simp))
  | int j=>obtain⟨t',rfl⟩:=ry;exact PySem.EqMixed.eq_str_int (Cq I q (by simp))
  | str j=>obtain⟨t',rfl⟩:=ry;exact eq_str (Cq I q lV)
  | _=>exact absurd (show false=true from hs) Qba
 | byt i=>
  obtain⟨t,rfl⟩:=rx;cases y with
  | byt j=>obtain⟨t',rfl⟩:=ry;exact PySem.W.eq_bytes (Cq I q lX)
  | _=>exact absurd (show false=true from hs) Qba
 | _=>cases y <;> exact absurd (show false=true from hs) Qba
theorem Xk:OpR X (compareOp .NotEq) rNe:=by
 intro jb s U H x y v u Q I rx ry h;obtain⟨hs,q⟩:=h;cases x with
 | non=>
  cases rx;cases y with
  | non=>cases ry;exact PySem.EqNone.ne_none_none (Cq I q (by simp))
  | bl j=>cases ry;exact PySem.EqNone.ne_none_bool (Cq I q (by simp))
  | int j=>obtain⟨t',rfl⟩:=ry;exact PySem.EqNone.ne_none_int (Cq I q (by simp))
  | str j=>obtain⟨t',rfl⟩:=ry;exact PySem.EqNone.ne_none_str (Cq I q (by simp))
  | _=>exact absurd (show false=true from hs) Qba
 | bl i=>
  cases rx;cases y with
  | non=>cases ry;exact PySem.EqNone.ne_bool_none (Cq I q (by simp))
  | bl j=>cases ry;exact ne_bool (Cq I q (congrArg not tZ))
  | str j=>obtain⟨t',rfl⟩:=ry;exact PySem.EqMixed.ne_bool_str (Cq I q (by simp))
  | _=>exact absurd (show false=true from hs) Qba
 | int i=>
  obtain⟨t,rfl⟩:=rx;cases y with
  | non=>cases ry;exact PySem.EqNone.ne_int_none (Cq I q (by simp))
  | int j=>obtain⟨t',rfl⟩:=ry;exact ne_int (Cq I q (congrArg not lW))
  | str j=>obtain⟨t',rfl⟩:=ry;exact PySem.EqMixed.ne_int_str (Cq I q (by simp))
  | _=>exact absurd (show false=true from hs) Qba
 | str i=>
  obtain⟨t,rfl⟩:=rx;cases y with
  | non=>cases ry;exact PySem.EqNone.ne_str_none (Cq I q (by simp))
  | bl j=>cases ry;exact PySem.EqMixed.ne_str_bool (Cq I q (by simp))
  | int j=>obtain⟨t',rfl⟩:=ry;exact PySem.EqMixed.ne_str_int (Cq I q (by simp))
  | str j=>obtain⟨t',rfl⟩:=ry;exact ne_str (Cq I q (congrArg not lV))
  | _=>exact absurd (show false=true from hs) Qba
 | byt i=>
  obtain⟨t,rfl⟩:=rx;cases y with
  | byt j=>obtain⟨t',rfl⟩:=ry;exact PySem.W.ne_bytes (Cq I q (congrArg not lX))
  | _=>exact absurd (show false=true from hs) Qba
 | _=>cases y <;> exact absurd (show false=true from hs) Qba
theorem nQ:OpR X (compareOp .Lt) (rI0 λi j=>.bl (decide (i < j))):=nR λ_ _ _ _ _ _ _ q=>lt_int q
theorem Mg:OpR X (compareOp .LtE) (rI0 λi j=>.bl (decide (i<=j))):=nR λ_ _ _ _ _ _ _ q=>le_int q
theorem Ux:OpR X (compareOp .Gt) (rI0 λi j=>.bl (decide (j < i))):=nR λ_ _ _ _ _ _ _ q=>gt_int q
theorem Hb:OpR X (compareOp .GtE) (rI0 λi j=>.bl (decide (j<=i))):=nR λ_ _ _ _ _ _ _ q=>ge_int q
theorem qT:OpR X (compareOp .In) (λx y H Q=>∃i j,x=.str i/\y=.str j/\Q (.bl (!(Builtin.Str.occurrences j i 0 j.length 1).isEmpty)) H):=by
 intro jb s U H x y v u Q I rx ry h;obtain⟨i,j,rfl,rfl,q⟩:=h;obtain⟨t,rfl⟩:=rx;obtain⟨t',rfl⟩:=ry;exact in_str (Cq I q rfl)
theorem qR:OpR X (compareOp .Is) (λx y H Q=>y=.non/\Q (.bl (decide (x=.non))) H):=by
 intro jb s U H x y v u Q I rx ry h;obtain⟨rfl,q⟩:=h;cases ry;refine is_none_gen (Cq I q ?_);cases x <;> first
  | (cases rx;rfl)
  | (obtain⟨t,rfl⟩:=rx;rfl)
theorem A0:OpR X (compareOp .IsNot) (λx y H Q=>y=.non/\Q (.bl (!decide (x=.non))) H):=by
 intro jb s U H x y v u Q I rx ry h;obtain⟨rfl,q⟩:=h;cases ry;refine isnot_none_gen (Cq I q ?_);cases x <;> first
  | (cases rx;rfl)
  | (obtain⟨t,rfl⟩:=rx;rfl)
theorem BP (b:Expr) {op:CmpOp} (h:op≠.In:=by decide) (h2:op≠.NotIn:=by decide):behindInMarks op b=false:=by
 have e1:(op == CmpOp.In)=false:=by cases op <;> first | rfl | exact absurd rfl h
 have e2:(op == CmpOp.NotIn)=false:=by cases op <;> first | rfl | exact absurd rfl h2
 cases b <;> simp[behindInMarks,e1,e2]
theorem Gx {op:CmpOp} {r:R2} (ho:OpR X (compareOp op) r) (ha:PE X a ta) (hb:PE X b tb) (hm:behindInMarks op b=false):PE X (.Compare a [op] [b] pos) (tOp r ta tb):=by
 intro jb s U H Q I h;exact wpAny_Compare1 (yR ha hb I h λv u s2 x y H2 I2 rx ry q=>ho jb s2 U H2 x y v u Q I2 rx ry q) hm
def GA (t:TE):TT:=fun U H Q=>t U H λx H'=>∃k,x=.bl k/\Q k H'
theorem Bx {op:CmpOp} {r:R2} (ho:OpR X (compareOp op) r) (ha:PE X a ta) (hb:PE X b tb) (hm:behindInMarks op b=false):PT X (.Compare a [op] [b] pos) (GA (tOp r ta tb)):=by
 intro jb s U H Q I h;refine wpAny_isTrue_Compare1 (thn (ha jb s U H _ I h) λv s1 ⟨x,H1,I1,r1,q1⟩=>thn (hb jb s1 U H1 _ I1 q1) λu s2 ⟨y,H2,I2,r2,q2⟩=>
  thn (ho jb s2 U H2 x y v u _ I2 r1 r2 q2) λc s3 ⟨z,H3,I3,r3,k,e,q3⟩=>?_) hm
 subst e;cases r3;exact Qbv ⟨H3,I3,q3⟩
def C1 (r r':R2) (ta tb tc:TE):TE:=fun U H Q=>ta U H λx H1=>tb U H1 λy H2=>r x y H2 λz H3=>∃k,z=.bl k /\
 (if k=true then tc U H3 λw' H4=>r' y w' H4 Q else Q (.bl false) H3)
theorem O2 {op op':CmpOp} {r r':R2} (ho:OpR X (compareOp op) r) (ho':OpR X (compareOp op') r') (ha:PE X a ta) (hb:PE X b tb) (hc:PE X c tc)
  (hm:lastMarks [op,op'] [b,c]=false:=by with_unfolding_all rfl):PE X (.Compare a [op,op'] [b,c] pos) (C1 r r' ta tb tc):=by
 intro jb s U H Q I h;refine Compare_chain (thn (ha jb s U H _ I h) λv s1 ⟨x,H1,I1,r1,q1⟩=>chain_link (thn (hb jb s1 U H1 _ I1 q1) λu s2 ⟨y,H2,I2,r2,q2⟩=>
  thn (ho jb s2 U H2 x y v u _ I2 r1 r2 q2) λd s3 ⟨z,H3,I3,r3,k,e,q3⟩=>?_)) hm
 subst e;cases r3;refine Qbv ?_;cases k with
 | false=>exact ite_ff ⟨.bl false,H3,I3,rfl,q3⟩
 | true=>exact ite_tt (chain_last (thn (hc jb s3 U H3 _ I3 q3) λw' s4 ⟨z',H4,I4,r4,q4⟩=>ho' jb s4 U H4 y z' u w' Q I4 r2 r4 q4))
def FY (K:YD) (x:V) (H:Hp) (k:Bool):Prop:=
 match x with
 | .non=>k=false
 | .bl b=>k=b
 | .int i=>k=(i != 0)
 | .str y=>y.length<=sizeLine/\k=((y.length:Int) != 0)
 | .byt y=>y.size<=sizeLine/\k=((y.size:Int) != 0)
 | .ref p=>(∃xs,SqL K H p xs/\k=!xs.isEmpty)\/(∃xs,SqT K H p xs/\k=!xs.isEmpty)\/∃kvs,H p=some (.dK kvs)/\k=!kvs.isEmpty
 | _=>False
theorem oZ {κ : Type} {kvs:List (κ×V)} {vs:List (κ×Value)} (r:KV kvs vs):(!vs.isEmpty)=!kvs.isEmpty:=by
 cases r <;> rfl
theorem Rw {xs:YG} {its:YE} (r:Vals xs its):(!its.toArray.isEmpty)=!xs.isEmpty:=by
 cases r <;> simp
theorem M5:(sizeLine:Nat) < 2 ^ 63:=by rw[QcH];decide
theorem CA:S3 X (λx H Q=>∃k,FY X.K x H k/\Q k H):=by
 intro jb s U H x v Q I rx h;obtain⟨k,e,q⟩:=h;have hl:=M5;have hs:sizeLine=16777216:=QcH;cases x with
 | non=>
  cases rx;have e':k=false:=e;subst e';exact truthy_none ⟨H,I,q⟩
 | bl b=>
  cases rx;have e':k=b:=e;subst e';exact Qbv ⟨H,I,q⟩
 | int i=>
  obtain⟨t,rfl⟩:=rx;have e':k=(i != 0):=e;subst e';exact PySem.P.truthy_int ⟨H,I,q⟩
 | str y=>
  obtain⟨t,rfl⟩:=rx;obtain⟨hy,e'⟩ : y.length<=sizeLine/\k=((y.length:Int) != 0):=e;subst e';exact PySem.P.truthy_str (by omega) ⟨H,I.tok _,q⟩
 | byt y=>
  obtain⟨t,rfl⟩:=rx;obtain⟨hy,e'⟩ : y.size<=sizeLine/\k=((y.size:Int) != 0):=e;subst e';exact PySem.W.truthy_bytes (by omega) ⟨H,I.tok _,q⟩
 | ref p=>
  cases rx;have e':(∃xs,SqL X.K H p xs/\k=!xs.isEmpty)\/(∃xs,SqT X.K H p xs/\k=!xs.isEmpty)\/∃kvs,H p=some (.dK kvs)/\k=!kvs.isEmpty:=e;rcases e' with⟨xs,hx,e'⟩|⟨xs,hx,e'⟩|⟨kvs,hx,e'⟩
  ·subst e';obtain⟨its,r,pl,hz⟩:=I.list hx;have hlen:=r.length;exact wpAny_truthy_list pl.isList (by simp only[Qbo];omega) ⟨H,I.tok _,by rw[Rw r];exact q⟩
  ·subst e';obtain⟨its,r,pl,hz⟩:=I.tuple hx;have hlen:=r.length;exact truthy_tuple pl (by simp only[Qbo];omega) ⟨H,I.tok _,by rw[Rw r];exact q⟩
  ·subst e';obtain⟨hz,hS,vs,r,m⟩ : kvs.length<=sizeLine/\(p == sysModules)=false/\∃vs,KV kvs vs/\s.heap.DictOf (Bq X.prog X.w) p vs:=I.hok p _ hx;have hlen:kvs.length=vs.length:=Qci r;exact wpAny_truthy_dict hS m (by omega) ⟨H,I.tok _,by rw[oZ r];exact q⟩
 | _=>exact (show False from e).elim
theorem vN (ha:PE X a ta) (he:∀whole,isTrue a X.env whole=(do let v <-whole;standAt a.pos;holding [v] (truthy v))) :
  PT X a (fun U H Q=>ta U H λx H'=>∃k,FY X.K x H' k/\Q k H'):=by
 intro jb s U H Q I h;refine isTrue_plain (thn (ha jb s U H _ I h) λv s1 zz=>?_) (he _);obtain⟨x,H1,I1,r1,q1⟩:=zz;exact CA jb s1 U H1 x v Q I1 r1 q1
theorem Xm:OpR X (binaryOp .Add) (λx y H Q=>∃i j,x=.str i/\y=.str j/\i.length+j.length<=sizeLine/\Q (.str (i++j)) H):=by
 intro jb s U H x y v u Q I rx ry h;obtain⟨i,j,rfl,rfl,hz,q⟩:=h;obtain⟨t,rfl⟩:=rx;obtain⟨t',rfl⟩:=ry;exact add_str (λt' tk=>⟨.str (i++j),H,I.tok _,⟨_,rq⟩,q⟩) hz
theorem vals1 {x:V} {us:YE} (r:Vals [x] us):∃u,us=[u]/\RelV x u:=by
 cases r with
 | cons r1 r2=>cases r2;exact⟨_,rfl,r1⟩
theorem vals2 {x y:V} {us:YE} (r:Vals [x,y] us):∃u w',us=[u,w']/\RelV x u/\RelV y w':=by
 cases r with
 | cons r1 r2=>
  cases r2 with
  | cons r3 r4=>cases r4;exact⟨_,_,rfl,r1,r3⟩
theorem iK:DW X (.builtin "abs") (λxs H Q=>∃i,xs=[.int i]/\Q (.int (if i < 0 then -i else i)) H):=by
 intro jb s U H xs us Q I r h;obtain⟨i,rfl,q⟩:=h;obtain⟨u,rfl,t,rfl⟩:=vals1 r;exact call_abs_int λu tk=>⟨.int (if i < 0 then -i else i),H,I.tok _,⟨_,rq⟩,q⟩
theorem ux (hc:X.calm=true):DW X (.builtin "max") (λxs H Q=>∃i j,xs=[.int i,.int j]/\Q (.int (if j > i then j else i)) H):=by
 intro jb s U H xs us Q I r h;obtain⟨i,j,rfl,q⟩:=h;obtain⟨u,w',rfl,⟨t,rfl⟩,⟨t',rfl⟩⟩:=vals2 r;refine max_two_ints (I.ok.hd hc) λh' tk k=>⟨_,H,I.kept k,?_,q⟩;by_cases hj:j > i
 ·rw[if_pos hj,if_pos hj];exact⟨_,rq⟩
 ·rw[if_neg hj,if_neg hj];exact⟨_,rq⟩
theorem Nb (hc:X.calm=true):DW X (.builtin "min") (λxs H Q=>∃i j,xs=[.int i,.int j]/\Q (.int (if j < i then j else i)) H):=by
 intro jb s U H xs us Q I r h;obtain⟨i,j,rfl,q⟩:=h;obtain⟨u,w',rfl,⟨t,rfl⟩,⟨t',rfl⟩⟩:=vals2 r;refine min_two_ints (I.ok.hd hc) λh' tk k=>⟨_,H,I.kept k,?_,q⟩;by_cases hj:j < i
 ·rw[if_pos hj,if_pos hj];exact⟨_,rq⟩
 ·rw[if_neg hj,if_neg hj];exact⟨_,rq⟩
theorem aq:DW X (.type "int") (λxs H Q=>(∃i,xs=[.int i]/\Q (.int i) H)\/∃k,xs=[.bl k]/\Q (.int (if k then 1 else 0)) H):=by
 intro jb s U H xs us Q I r h;rcases h with⟨i,rfl,q⟩|⟨k,rfl,q⟩
 ·obtain⟨u,rfl,t,rfl⟩:=vals1 r;exact call_int_int ⟨.int i,H,I,⟨_,rq⟩,q⟩
 ·obtain⟨u,rfl,r1⟩:=vals1 r;cases r1;exact call_int_bool ⟨.int (if k then 1 else 0),H,I.tok _,⟨_,rq⟩,q⟩
end
structure Wy (h:Heap) (x dx C:Addr) (mA:YB):Prop where
 obj:h.get? x=some (instObj C dx)
 ns:h.Ns1 dx mA
 ne:dx≠x
theorem rH {h:Heap} {dx:Addr} {mA:YB} (n:h.Ns1 dx mA):∃od,h.get? dx=some od/\∀name,lookIn name od=some (mA name):=by
 obtain⟨o,es,ep,ho,hd,hk,_,hm⟩:=n;refine⟨o,ho,λname=>?_⟩;have e:=hm name;unfold nsFind findBy at e;rw[<-Array.find?_toList] at e;unfold lookIn;rw[hd];dsimp only;split
 ·rename_i y q;rw[q] at e;exact congrArg some e
 ·rename_i q;rw[q] at e;have a:es.toList.any (·.refKey)=false:=by
   rw[List.any_eq_false];intro y hy;obtain⟨z,t,hkey⟩:=hk y (Array.mem_toList_iff.mp hy);simp[DictEntry.refKey,hkey]
  have a':¬es.toList.any (·.refKey)=true:=by rw[a];exact Qba
  rw[if_neg a'];exact congrArg some e
theorem Wy.look {h:Heap} {x dx C:Addr} {mA:YB} (I:Wy h x dx C mA):∃od,PySem.W.InstAt h x (instObj C dx) C (some od)/\∀name,lookIn name od=some (mA name):=
 let ⟨od,ho,hl⟩:=rH I.ns
 ⟨od,⟨I.obj,rq,rq,ho⟩,hl⟩
section
variable {prog:Program} {w:World} {A:Around} {E:YA} {s:Shared} {K:YD} {x dx C f:Addr} {mA:YB} {name:Str} {v:Value}
theorem get_map {expr:Bool} {Q:YA} (X:K.In s.heap) (I:Wy s.heap x dx C mA) (hg:plainGet K C name=true) (hh:hasDictIn K C=true)
  (ha:findIn K (.ref C) name=some none) (hv:mA name=some v) (hv':PySem.W.handedIn v=true) (h:Q v { s with toks:=s.toks+1 }) :
  wpAny (model prog w) A (getAttr (.ref x) name expr) Q E s:=by
 obtain⟨od,J,hl⟩:=I.look;exact PySem.W.get_value X J (PySem.W.plainGet_of hg).1 (PySem.W.findObj_own hh ha rfl (by rw[hl,hv])) hv' h
theorem yF {pl:Sem Bool} {Q:Value×YE->Shared->Prop} (X:K.In s.heap) (I:Wy s.heap x dx C mA) (hg:plainGet K C name=true)
  (hf:findIn K (.ref C) name=some (some (.ref f))) (ht:isFn K (.ref f)=true) (hv:mA name=none) (h:Q (.ref f,[.ref x]) s) :
  wpAny (model prog w) A (getMethod (.ref x) name pl) Q E s:=by
 obtain⟨od,J,hl⟩:=I.look;exact PySem.W.method_fn X J (PySem.W.plainGet_of hg).1 (PySem.W.plainGet_of hg).2 hf (beq_iff_eq.mp ht) (by show (lookIn name od).map (·.isSome)=some false;rw[hl,hv];rfl) h
theorem AO {ns:YF} {Q:YH} (X:K.In s.heap) (I:Wy s.heap x dx C mA)
  (hs:findIn K (.ref C) "__setattr__"=some (some (.builtin "object.__setattr__"))) (hp:PySem.W.plainOver K C=true) (ht:PySem.W.takerIn K C name=some none) (hh:hasDictIn K C=true)
  (hw:PySem.Within mA ns) (hsz:ns.length<=sizeLine)
  (h:∀h',Wy h' x dx C (λy=>if y=name then some v else mA y)->Heap.SameBut dx s.heap h'->Q () { s with heap:=h',toks:=s.toks+2 }) :
  wpAny (model prog w) A (setAttr (.ref x) name v) Q E s:=by
 obtain⟨od,J,hl⟩:=I.look;refine PySem.W.set_plain X J hs (PySem.W.osa_open (s:={ s with toks:=s.toks+1 }) (r:=none) X J hp ht λb=>?_);obtain⟨cd,hc,hd'⟩:=PySem.W.any_some hh;have hx:s.heap.get? x=some ⟨.ref C,some dx,.plain,#[]⟩:=I.obj;refine QcJ (QcK (QcJ (QcJ (wpAny_loadPart hx (QcJ (PySem.W.Looks.here (s:={ s with toks:=s.toks+1 }) (PySem.W.looks_clsIn X hc) ?_))))));rw[hd'];refine QcK (a:=some dx) (QcJ (QcK (QcJ ?_)));refine wpAny_nsSet1 (s:={ s with toks:=s.toks+1 }) I.ns λh' hn2 hs2=>?_;obtain⟨oD,esD,epD,hoD,hdD,hcD⟩:=hn2.count (PySem.Within.cons name v hw);refine QcJ (wpAny_lookBehind hoD (by rw[hdD];exact pastItsLine_dict (Qcv hcD (by rw[QbC];omega))) ?_);exact QcK (h _ ⟨(hs2.2 _ (Ne.symm I.ne)).trans I.obj,hn2,I.ne⟩ hs2)
theorem fU {R:Result->Shared->Prop} {vs:YE} {kw:List (Str×Value)} (X:K.In s.heap) (hm:makesIn K C=true)
  (hi:findIn K (.ref C) "__init__"=some (some (.ref f))) (hf:PySem.W.typeIn K (.ref f)=some (.type "function"))
  (h:codeAny (model prog w) (A.under (.builtin "type.__call__" ⟨.ref C::vs,kw⟩)) (.call (.ref f) ⟨.ref (s.heap.objs.size+1)::vs,kw⟩) (PySem.W.InitBack (s.heap.objs.size+1) R)
   { s with heap:=(s.heap.push emptyDict).push (instObj C s.heap.objs.size) }) :
  codeAny (model prog w) A (.call (.ref C) ⟨vs,kw⟩) R s:=by
 obtain⟨hh,g,d,t,os⟩:=s;exact PySem.W.make_core (PySem.W.makes_of X hm) (looks_findIn X hi) (λself=>PySem.W.bind_fn X self hf) (.inl rfl) h
end
def Io (f:Str) (v:V):List (Str×V)->List (Str×V)
 | []=>[(f,v)]
 | (g,x)::r=>if g=f then (g,v)::r else (g,x)::Io f v r
theorem Vt (f g:Str) (v:V):∀fs:List (Str×V),(Io f v fs).lookup g=if g=f then some v else fs.lookup g
 | []=>by
  show List.lookup g [(f,v)]=_;by_cases h:g=f
  ·have hb:(g == f)=true:=beq_iff_eq.mpr h;simp only[List.lookup,hb,if_pos h]
  ·have hb:(g == f)=false:=QaQ.mpr h;simp only[List.lookup,hb,if_neg h]
 | (k,x)::r=>by
  have ih:=Vt f g v r;rw[show Io f v ((k,x)::r)=(if k=f then (k,v)::r else (k,x)::Io f v r) from rfl]
  by_cases hk:k=f
  ·rw[if_pos hk];by_cases h:g=k
   ·have hb:(g == k)=true:=beq_iff_eq.mpr h;simp only[List.lookup,hb,if_pos (h.trans hk)]
   ·have hb:(g == k)=false:=QaQ.mpr h;simp only[List.lookup,hb,if_neg (λe:g=f=>h (e.trans hk.symm))]
  ·rw[if_neg hk];by_cases h:g=k
   ·have hb:(g == k)=true:=beq_iff_eq.mpr h;simp only[List.lookup,hb,if_neg (λe:g=f=>hk (h.symm.trans e))]
   ·have hb:(g == k)=false:=QaQ.mpr h;simp only[List.lookup,hb];exact ih
theorem Tv (f:Str) (v:V):∀fs:List (Str×V),f∈(Io f v fs).map (·.1)/\∀g,g∈fs.map (·.1)->g∈(Io f v fs).map (·.1)
 | []=>⟨by simp[Io],λg h=>by simp at h⟩
 | (k,x)::r=>by
  obtain⟨i1,i2⟩:=Tv f v r;rw[show Io f v ((k,x)::r)=(if k=f then (k,v)::r else (k,x)::Io f v r) from rfl]
  by_cases hk:k=f
  ·rw[if_pos hk];subst hk;exact⟨by simp,λg h=>by simpa using h⟩
  ·rw[if_neg hk];refine⟨?_,λg h=>?_⟩
   ·rw[Qck];exact QaL _ i1
   ·rw[Qck] at h ⊢;rcases Qcj.mp h with e | e
    ·exact Qcj.mpr (.inl e)
    ·exact QaL _ (i2 g e)
theorem Vu (f:Str) (v:V):∀fs:List (Str×V),(Io f v fs).length<=fs.length+1
 | []=>by simp[Io]
 | (k,x)::r=>by
  have ih:=Vu f v r;rw[show Io f v ((k,x)::r)=(if k=f then (k,v)::r else (k,x)::Io f v r) from rfl]
  by_cases hk:k=f
  ·rw[if_pos hk,QbC,QbC];omega
  ·rw[if_neg hk,QbC,QbC];omega
theorem Ir.some_of {v:V} {o:Option Value} (r:Ir (some v) o):∃u,o=some u/\RelV v u:=by
 cases o with
 | none=>exact (show False from r).elim
 | some u=>exact⟨u,rfl,r⟩
theorem Ir.none_of {o:Option Value} (r:Ir none o):o=none:=by
 cases o with
 | none=>rfl
 | some u=>exact (show False from r).elim
theorem su {v:V} {u:Value} (r:RelV v u):PySem.W.handedIn u=true:=by
 cases v with
 | non=>cases (show u=Value.none from r);rfl
 | bl b=>cases (show u=Value.bool b from r);rfl
 | int i=>obtain⟨t,e⟩:=(show ∃t,u=Value.int i t from r);cases e;rfl
 | str x=>obtain⟨t,e⟩:=(show ∃t,u=Value.str x t from r);cases e;rfl
 | byt b=>obtain⟨t,e⟩:=(show ∃t,u=Value.bytes b t from r);cases e;rfl
 | flt b=>obtain⟨t,e⟩:=(show ∃t,u=Value.float b t from r);cases e;rfl
 | ref a=>cases (show u=Value.ref a from r);rfl
 | ty n=>cases (show u=Value.type n from r);rfl
section
variable {P:Program} {w:World} {H H':Hp} {h h':Heap} {a C dx:Addr} {fs fs':List (Str×V)}
theorem UJ (hok:HOk P w H h) (e:H a=some (.ins C dx fs)):∃mA,Wy h a dx C mA/\(∀f,Ir (fs.lookup f) (mA f))/\PySem.Within mA (fs.map (·.1))/\fs.length<=1000/\H dx=some (.own a):=by
 obtain⟨d,z,ne,ob,mA,n,r,q⟩:=(show Bt P w H h a (.ins C dx fs) from hok a _ e)
 exact⟨mA,⟨ob,n,ne⟩,r,q,z,d⟩
end
structure Cls (K:YD) (C:Addr):Prop where
 pg:plainGet K C Str.empty=true
 hd:hasDictIn K C=true
 po:PySem.W.plainOver K C=true
 sa:findIn K (.ref C) "__setattr__"=some (some (.builtin "object.__setattr__"))
theorem Cls.get {K:YD} {C:Addr} (c:Cls K C) (f:Str):plainGet K C f=true:=c.pg
def JB (K:YD) (C:Addr) (f:Str):Prop:=findIn K (.ref C) f=some none
theorem JB.taker {K:YD} {C:Addr} {f:Str} (n:JB K C f):PySem.W.takerIn K C f=some none:=by
 unfold PySem.W.takerIn;rw[show findIn K (.ref C) f=some none from n]
 rfl
structure Meth (K:YD) (C:Addr) (m:Str) (f:Addr):Prop where
 at_:findIn K (.ref C) m=some (some (.ref f))
 fn:isFn K (.ref f)=true
 kp:keepIn K (.ref f)=true
section
variable {X:Cx} {jb:YC} {U : St} {H:Hp} {s:Shared} {a C dx:Addr} {fs:List (Str×V)} {f:Str} {v:V} {A:Around} {E:YA}
theorem pC {b:Bool} {Q:YA} (I:Inv X jb U H s) (e:H a=some (.ins C dx fs)) (c:Cls X.K C) (n:JB X.K C f) (l:fs.lookup f=some v)
  (h:∀u s',Inv X jb U H s'->RelV v u->Q u s'):wpAny (model X.prog X.w) A (getAttr (.ref a) f b) Q E s:=by
 obtain⟨mA,O,r,_,_,_⟩:=UJ I.hok e;obtain⟨u,hu,ru⟩:=Ir.some_of (v:=v) (o:=mA f) (by rw[<-l];exact r f);exact get_map I.kIn O (c.get f) c.hd n hu (su ru) (h u _ (I.tok _) ru)
theorem Rz {m:Str} {g:Addr} {pl:Sem Bool} {Q:Value×YE->Shared->Prop} (I:Inv X jb U H s) (e:H a=some (.ins C dx fs)) (c:Cls X.K C) (k:Meth X.K C m g) (l:fs.lookup m=none)
  (h:Q (.ref g,[.ref a]) s):wpAny (model X.prog X.w) A (getMethod (.ref a) m pl) Q E s:=by
 obtain⟨mA,O,r,_,_,_⟩:=UJ I.hok e;have hn:mA m=none:=Ir.none_of (by rw[<-l];exact r m);exact yF I.kIn O (c.get m) k.at_ k.fn hn h
theorem m9 {y:V} {u:Value} {Q:YH} (I:Inv X jb U H s) (e:H a=some (.ins C dx fs)) (c:Cls X.K C) (n:JB X.K C f) (hl:fs.length < 1000) (ry:RelV y u)
  (h:∀s',Inv X jb U (upd H a (.ins C dx (Io f y fs))) s'->Q () s'):wpAny (model X.prog X.w) A (setAttr (.ref a) f u) Q E s:=by
 obtain⟨mA,O,r,wi,_,ho⟩:=UJ I.hok e;have hz:(fs.map (·.1)).length<=sizeLine:=by rw[QbM,QcH];omega
 refine AO I.kIn O c.sa c.po n.taker c.hd wi hz λh' O' sb=>h _ ?_;have hd:∃o,h'.get? dx=some o:=let ⟨o,_,_,e',_⟩:=O'.ns;⟨o,e'⟩;refine I.write (x:=a) (e:=dx) (by rw[e];exact True.intro) (.inr ho) (λb q hb z=>(sb.2 b hb).trans z) hd ?_;refine⟨by rw[Aq O.ne];exact ho,?_,O.ne,O'.obj,_,O'.ns,λg=>?_,λg hg=>?_⟩
 ·have:=Vu f y fs;omega
 ·show Ir ((Io f y fs).lookup g) (if g=f then some u else mA g)
  rw[Vt];by_cases q:g=f
  ·rw[if_pos q,if_pos q];exact ry
  ·rw[if_neg q,if_neg q];exact r g
 ·by_cases q:g=f
  ·rw[q];exact (Tv f y fs).1
  ·refine (Tv f y fs).2 g (wi g λz=>hg ?_);show (if g=f then some u else mA g)=none
   rw[if_neg q];exact z
theorem Inv.made (I:Inv X jb U H s):Inv X jb U (upd (upd H s.heap.objs.size (.own (s.heap.objs.size+1))) (s.heap.objs.size+1) (.ins C s.heap.objs.size []))
  { s with heap:=(s.heap.push emptyDict).push (instObj C s.heap.objs.size) }:=by
 have e1:(s.heap.push emptyDict).get? s.heap.objs.size=some emptyDict:=QaP s.heap rfl;have e2:((s.heap.push emptyDict).push (instObj C s.heap.objs.size)).get? (s.heap.objs.size+1)=some (instObj C s.heap.objs.size):=by
  have:=QaP (s.heap.push emptyDict) (o:=instObj C s.heap.objs.size) rfl
  rwa [Qce] at this
 have e3:(s.heap.push emptyDict).Ns s.heap.objs.size (λ_=>none):=⟨emptyDict,#[],_,e1,rq,(λe he=>absurd he (by simp)),λ_=>rfl⟩;have I1:=I.laid (a:=s.heap.objs.size) (o:=.own (s.heap.objs.size+1)) (h':=s.heap.push emptyDict) (t':=s.toks) (λb u q=>Qaz _ q) (QcD _) ⟨_,e1⟩;refine I1.laid (a:=s.heap.objs.size+1) (o:=.ins C s.heap.objs.size []) (t':=s.toks) (λb u q=>Qaz _ q) (Nat.le_of_eq (Qce _ _)) ?_;have ne:s.heap.objs.size≠s.heap.objs.size+1:=Qcu (QbH _);refine⟨by rw[Aq ne,Ab],QcE _,ne,e2,λ_=>none,(Heap.Ns1.of_empty e3).at λo q=>Qaz _ q,λ_=>True.intro,λy hy=>absurd rfl hy⟩
theorem B5 {prog:Program} {w:World} {env:Env} {e:Expr} {f:Str} {pos:Pos} {s:Shared} {Q:YA} (hb:attributeBase e f env (eval e env)=eval e env)
  (h:wpAny (model prog w) A (eval e env) (λo s₁=>wpAny (model prog w) A (getAttr o f true) Q E s₁) E s):wpAny (model prog w) A (eval (.Attribute e f pos) env) Q E s:=
 Attribute_any_ h (by rw[arm_eval_Attribute,hb])
end
def CM (K:YD) (ta:TE) (f:Str):TE:=fun U H Q=>ta U H λx H1=>∃a C dx fs v,x=.ref a/\H1 a=some (.ins C dx fs)/\Cls K C/\JB K C f/\fs.lookup f=some v/\Q v H1
section
variable {X:Cx} {o e value:Expr} {f:Str} {pos pos' tpos:Pos} {ta tv:TE}
theorem Et (he:PE X e ta) (hb:attributeBase e f X.env (eval e X.env)=eval e X.env):PE X (.Attribute e f pos) (CM X.K ta f):=by
 intro jb s U H Q I h;refine B5 hb (thn (he jb s U H _ I h) λu s1 zz=>?_);obtain⟨x,H1,I1,rx,a,C,dx,fs,v,ex,ea,c,n,l,q⟩:=zz;subst ex;obtain rfl:u=Value.ref a:=rx;exact pC I1 ea c n l λu' s2 I2 ru=>⟨v,H1,I2,ru,q⟩
theorem F8 {pl:Sem Bool} {m:Str} {apos:Pos} {args:YJ} {jb:YC} {s:Shared} {U : St} {H:Hp} {Q:YA} {te:TE} (he:PE X e te) (I:Inv X jb U H s)
  (h:te U H λx H1=>∃a C dx fs g,x=.ref a/\H1 a=some (.ins C dx fs)/\Cls X.K C/\Meth X.K C m g/\fs.lookup m=none /\
   ∀s1,Inv X jb U H1 s1->wpAny (model X.prog X.w) X.A (callWith pos (.ref g) [.ref a] (backTo pos (starEach args X.env)) (backToKw pos (keywordEach [] X.env))) Q X.xe s1)
  (ht:eval (.Call (.Attribute e m apos) args [] pos) X.env=(do
   let ov <-eval e X.env
   standAt apos.atName
   let (f,first) <-holding [ov] (getMethod ov m pl)
   callWith pos f first (backTo pos (starEach args X.env)) (backToKw pos (keywordEach [] X.env)))) :
  wpAny (model X.prog X.w) X.A (eval (.Call (.Attribute e m apos) args [] pos) X.env) Q X.xe s:=by
 refine PySem.W.methodCall_KW (pl:=pl) (thn (he jb s U H _ I h) λu s1 zz=>?_) ht;obtain⟨x,H1,I1,rx,a,C,dx,fs,g,ex,ea,c,k,l,q⟩:=zz;subst ex;obtain rfl:u=Value.ref a:=rx;exact Rz I1 ea c k l (q s1 I1)
end
section
variable {X:Cx} {jb:YC} {U : St} {H:Hp} {s:Shared} {A:Around} {E:YA} {Q:YA} {c:Value} {b:Bool}
inductive Lz (K:YD) (H:Hp):V->Value->Prop where
 | non:Lz K H .non (.type "NoneType")
 | bl (x:Bool):Lz K H (.bl x) (.type "bool")
 | int (i:Int):Lz K H (.int i) (.type "int")
 | str (x:Str):Lz K H (.str x) (.type "str")
 | flt (x:UInt64):Lz K H (.flt x) (.type "float")
 | lst {a:Addr} {xs:YG} (e:H a=some (.lst xs)):Lz K H (.ref a) (.type "list")
 | frz {a:Addr} {o:Obj} {xs:YG} (e:H a=some (.frz o (.lst xs))):Lz K H (.ref a) (.type "list")
 | tup {a:Addr} {xs:YG} (e:H a=some (.tup xs)):Lz K H (.ref a) (.type "tuple")
 | dK {a:Addr} {kvs:List (Key×V)} (e:H a=some (.dK kvs)):Lz K H (.ref a) (.type "dict")
 | dT {a:Addr} {kvs:List (List Key×V)} (e:H a=some (.dT kvs)):Lz K H (.ref a) (.type "dict")
 | ins {a C dx:Addr} {fs:List (Str×V)} (e:H a=some (.ins C dx fs)) (cl:Cls K C) (ha:findIn K (.ref C) "__class__"=some (some (.builtin "object.__class__")))
   (hn:PySem.W.specialIn K (.builtin "object.__class__") "__get__"=some (some (.builtin "getset_descriptor.__get__"))) (htk:PySem.W.takesIn K (.builtin "object.__class__")=some true)
   (hm:PySem.W.mroIn K C (.type "object")=some true):Lz K H (.ref a) (.ref C)
theorem rP {x:V} {u t:Value} (I:Inv X jb U H s) (rx:RelV x u) (ty:Lz X.K H x t) (e:kitOne X.K t c=some b) (h:∀tk,Q (.bool b) { s with toks:=tk }) :
  wpAny (model X.prog X.w) A (call (.builtin "isinstance") [u,c]) Q E s:=by
 cases ty with
 | non=>cases (show u=Value.none from rx);exact kia_one PySem.W.kitx_none I.kIn True.intro e (λz=>nomatch z) h
 | bl y=>cases (show u=Value.bool y from rx);exact kia_one PySem.W.kitx_bool I.kIn True.intro e (λz=>nomatch z) h
 | int i=>obtain⟨t,q⟩:=(show ∃t,u=Value.int i t from rx);cases q;exact kia_one PySem.W.kitx_int I.kIn True.intro e (λz=>nomatch z) h
 | str y=>obtain⟨t,q⟩:=(show ∃t,u=Value.str y t from rx);cases q;exact kia_one PySem.W.kitx_str I.kIn True.intro e (λz=>nomatch z) h
 | flt y=>obtain⟨t,q⟩:=(show ∃t,u=Value.float y t from rx);cases q;exact kia_one PySem.W.kitx_float I.kIn True.intro e (λz=>nomatch z) h
 | @lst a xs ea=>
  cases (show u=Value.ref a from rx)
  obtain⟨_,_,n,_,h1⟩:=(show Bt X.prog X.w H s.heap a (.lst xs) from I.hok a _ ea)
  exact kia_one PySem.W.kitx_list I.kIn ⟨_,h1,rq⟩ e (λz=>nomatch z) h
 | @frz a ob xs ea=>
  cases (show u=Value.ref a from rx)
  obtain⟨_,_,_,n,_,h1⟩:=(show Bt X.prog X.w H s.heap a (.frz ob (.lst xs)) from I.hok a _ ea)
  exact kia_one PySem.W.kitx_list I.kIn ⟨_,h1,rq⟩ e (λz=>nomatch z) h
 | @tup a xs ea=>
  cases (show u=Value.ref a from rx)
  obtain⟨_,_,_,p⟩:=(show Bt X.prog X.w H s.heap a (.tup xs) from I.hok a _ ea)
  obtain⟨o,h1,h2,_⟩:=p;exact kia_one PySem.W.kitx_tuple I.kIn ⟨o,h1,h2⟩ e (λz=>nomatch z) h
 | @dK a kvs ea=>
  cases (show u=Value.ref a from rx)
  obtain⟨_,_,vs,_,p⟩:=(show Bt X.prog X.w H s.heap a (.dK kvs) from I.hok a _ ea)
  obtain⟨o,es,ep,h1,h2,_⟩:=p;exact kia_one PySem.W.kitx_dict I.kIn ⟨o,h1,h2.1⟩ e (λz=>nomatch z) h
 | @dT a kvs ea=>
  cases (show u=Value.ref a from rx)
  obtain⟨_,_,xs,_,o,es,ep,h1,h2,_⟩:=(show Bt X.prog X.w H s.heap a (.dT kvs) from I.hok a _ ea)
  exact kia_one PySem.W.kitx_dict I.kIn ⟨o,h1,h2.1⟩ e (λz=>nomatch z) h
 | @ins a C dx fs ea cl ha hn htk hm=>
  cases (show u=Value.ref a from rx)
  obtain⟨mA,O,_⟩:=UJ I.hok ea;obtain⟨od,J,_⟩:=O.look;exact kia_one (PySem.W.kitx_own (cl.get _) cl.hd ha hn htk hm) I.kIn J e (λz=>nomatch z) h
end
structure Ce (k:Nat) (A:Around):Prop where
 hd:A.handled=none
 dp:A.depth+3*k+5 < recursionLimit
 un:A.units+16*k+200 < cLine
theorem Ce.mono {j k:Nat} {A:Around} (r:Ce k A) (h:j<=k):Ce j A:=⟨r.hd,by have:=r.dp;omega,by have:=r.un;omega⟩
theorem Ce.deeper {k:Nat} {A:Around} (r:Ce (k+1) A) (env:Env):Ce k (A.deeper env):=
 ⟨r.hd,by have:=r.dp;show A.depth+1+3*k+5 < _;omega,by have:=r.un;show A.units+3+16*k+200 < _;omega⟩
theorem Ce.in1 {k:Nat} {A:Around} (r:Ce (k+1) A):Ce k A.in1:=
 ⟨r.hd,by have:=r.dp;show A.depth+3*k+5 < _;omega,by have:=r.un;show A.units+1+16*k+200 < _;omega⟩
theorem oO {A:Around} {C:Addr} {us:YE} {kw:List (Str×Value)}:(A.under (.builtin "type.__call__" ⟨.ref C::us,kw⟩)).depth=A.depth+1:=by
 first | rfl | simp[Around.under,Code.weight,Code.isCreation,Code.isGuard,Code.isCaller,Code.frames,Code.isFrame,guardIds]
theorem oN {A:Around} {C:Addr} {us:YE} {kw:List (Str×Value)}:(A.under (.builtin "type.__call__" ⟨.ref C::us,kw⟩)).units=A.units+1:=by
 first | rfl | simp[Around.under,Code.cUnits,Code.frames,Code.isFrame]
theorem Ce.make {k:Nat} {A:Around} (r:Ce (k+1) A) (C:Addr) (us:YE) (kw:List (Str×Value)):Ce k (A.under (.builtin "type.__call__" ⟨.ref C::us,kw⟩)):=
 ⟨r.hd,by have:=r.dp;rw[oO];omega,by have:=r.un;rw[oN];omega⟩
theorem Ce.depth {k:Nat} {A:Around} (r:Ce k A):A.depth < recursionLimit:=by have:=r.dp;omega
theorem Ce.units {k:Nat} {A:Around} (r:Ce k A):A.units+64 < cLine:=by have:=r.un;omega
def Nh:TA:=λ_ H Q=>Q [] H
def Dy (ta:TE) (tr:TA):TA:=fun U H Q=>ta U H λx H1=>tr U H1 λxs H2=>Q (x::xs) H2
section
variable {X:Cx} {e:Expr} {es:YJ} {te:TE} {t:TA} {pos:Pos}
theorem Ac:PA X [] Nh:=λ_ _ _ _ H Q I h=>Calls.spliced_nil ⟨[],H,I,.nil,h⟩
theorem Aa (ha:PE X e te) (hr:PA X es t) (hs:starEach (e::es) X.env=(false,eval e X.env)::starEach es X.env:=by rfl):PA X (e::es) (Dy te t):=by
 intro pos jb s U H Q I h;rw[hs];show wpAny _ _ (spliced ((false,eval e X.env)::backTo pos (starEach es X.env))) _ _ s;refine Calls.spliced_cons (thn (ha jb s U H _ I h) λu s1 zz=>?_);obtain⟨x,H1,I1,r1,q1⟩:=zz;refine thn (hr pos jb s1 U H1 _ I1 q1) λus s2 zz=>?_;obtain⟨xs,H2,I2,r2,q2⟩:=zz;exact⟨x::xs,H2,I2,.cons r1 r2,q2⟩
def JJ (t:TA):TE:=fun U H Q=>t U H λxs H1=>xs.length<=sizeLine/\∀p,H1 p=none->Q (.ref p) (upd H1 p (.tup xs))
def Ki (t:TA):TE:=fun U H Q=>t U H λxs H1=>xs.length<=sizeLine/\∀p,H1 p=none->Q (.ref p) (upd H1 p (.lst xs))
theorem Bd {x1} (h:PA X es t):PE X (.Tuple es x1 pos) (JJ t):=by
 intro jb s U H Q I hq;refine wpAny_Tuple_spliced (thn (h pos jb s U H _ I hq) λus s1 zz=>?_);obtain⟨xs,H1,I1,r,z,q⟩:=zz;refine⟨by rw[<-r.length];exact z,?_⟩;have hf:H1 s1.heap.objs.size=none:=I1.hok.fresh (QcD _);refine⟨.ref s1.heap.objs.size,upd H1 s1.heap.objs.size (.tup xs),I1.laid (t':=s1.toks) (λb u e=>Qaz _ e) (QcD _) ?_,rq,q _ hf⟩;exact⟨z,us,r,⟨_,QaP _ rfl,rq,_,rq⟩⟩
theorem BZ (h:PA X es t):PE X (.List es pos) (Ki t):=by
 intro jb s U H Q I hq;refine wpAny_List_spliced (thn (h pos jb s U H _ I hq) λus s1 zz=>?_);obtain⟨xs,H1,I1,r,z,q⟩:=zz;refine⟨by rw[<-r.length];exact z,?_⟩;have hf:H1 s1.heap.objs.size=none:=I1.hok.fresh (QcD _);refine⟨.ref s1.heap.objs.size,upd H1 s1.heap.objs.size (.lst xs),I1.laid (t':=s1.toks) (λb u e=>Qaz _ e) (QcD _) ?_,rq,q _ hf⟩;exact⟨z,us,0,r,QaP _ rfl⟩
end
abbrev Sp:=YG->Hp->VK->XK->Prop
abbrev CXT:=List Env->Hp->Shared->XK->YA
structure Nq (P:Program) (w:World) (K:YD) (mg:YB) (base:Heap) (A:Around) (outer:List Env) (s:Shared) (H:Hp):Prop where
 frames:A.frames=some outer
 mod:Mod K mg base
 bs:∀b o,base.get? b=some o->s.heap.get? b=some o/\H b=none
 bsz:base.objs.size<=s.heap.objs.size
 Hj:s.heap.FunFrames base outer
 frf:∀b∈frs outer,H b=none
 hok:HOk P w H s.heap
 bare:AllBare s.gens
def CE (outer:List Env) (P:Program) (w:World) (H:Hp) (s:Shared) (Q:VK) (u:Value) (s':Shared):Prop:=
 ∃v H',s'.os=s.os/\AllBare s'.gens/\Un (frs outer) [] H H' s.heap s'.heap/\HOk P w H' s'.heap/\RelV v u/\Q v H'
def CR (CX:CXT) (outer:List Env) (P:Program) (w:World) (H:Hp) (s:Shared) (Q:VK) (E:XK) (r:Result) (s':Shared):Prop:=
 match r with
 | .ok (.ret u)=>CE outer P w H s Q u s'
 | .ok _=>False
 | .error e=>CX outer H s E e s'
structure FZ (P:Program) (w:World) (K:YD) (mg:YB) (base:Heap) (CX:CXT) (k:Nat) (f:Addr) (fd:FuncData) (ps:YF) (sp:Sp):Prop where
 len:∀vs H Q E,sp vs H Q E->vs.length=ps.length
 run:∀(A:Around) (outer:List Env) (s:Shared) (H:Hp) (args:Args) (us:YE) (vs:YG) (Q:VK) (E:XK),Ce k A->Nq P w K mg base A outer s H->BindsTo s fd args (ps.zip us)->Vals vs us->sp vs H Q E ->
  codeAny (model P w) A (.call (.ref f) args) (CR CX outer P w H s Q E) s
theorem FZ.mono {P:Program} {w:World} {K:YD} {mg:YB} {base:Heap} {CX:CXT} {j k:Nat} {f:Addr} {fd:FuncData} {ps:YF} {sp:Sp} (F:FZ P w K mg base CX j f fd ps sp) (h:j<=k) :
  FZ P w K mg base CX k f fd ps sp:=⟨F.len,λA outer s H args us vs Q E hr=>F.run A outer s H args us vs Q E (hr.mono h)⟩
theorem FZ.imp {P:Program} {w:World} {K:YD} {mg:YB} {base:Heap} {CX:CXT} {k:Nat} {f:Addr} {fd:FuncData} {ps:YF} {sp sp':Sp} (F:FZ P w K mg base CX k f fd ps sp)
  (h:∀vs H Q E,sp' vs H Q E->sp vs H Q E):FZ P w K mg base CX k f fd ps sp':=
 ⟨λvs H Q E q=>F.len vs H Q E (h _ _ _ _ q),λA outer s H args us vs Q E hr he hb hv hs=>F.run A outer s H args us vs Q E hr he hb hv (h _ _ _ _ hs)⟩
theorem Nq.make {P:Program} {w:World} {K:YD} {mg:YB} {base:Heap} {A:Around} {outer:List Env} {s:Shared} {H:Hp} (e:Nq P w K mg base A outer s H) (C:Addr) (us:YE) (kw:List (Str×Value)) :
  Nq P w K mg base (A.under (.builtin "type.__call__" ⟨.ref C::us,kw⟩)) outer s H:=⟨by first | exact e.frames | (simpa [Around.under,Code.envs,Code.isFrame,pushEnvs] using e.frames),e.mod,e.bs,e.bsz,e.Hj,e.frf,e.hok,e.bare⟩
theorem Nq.in1 {P:Program} {w:World} {K:YD} {mg:YB} {base:Heap} {A:Around} {outer:List Env} {s:Shared} {H:Hp} (e:Nq P w K mg base A outer s H) :
  Nq P w K mg base A.in1 outer s H:=⟨e.frames,e.mod,e.bs,e.bsz,e.Hj,e.frf,e.hok,e.bare⟩
section
variable {X:Cx} {jb:YC} {U : St} {H:Hp} {s s':Shared}
theorem Inv.env0 (I:Inv X jb U H s):Nq X.prog X.w X.K X.mg X.base X.A X.stack s H:=
 ⟨I.ok.frames,I.ok.mod,I.bs,Qcv I.ok.bsz I.sz,I.stack,I.Yb,I.hok,I.bare⟩
theorem Inv.after {Q:VK} {u:Value} (I:Inv X jb U H s) (h:CE X.stack X.prog X.w H s Q u s'):EP X jb U Q u s':=by
 obtain⟨v,H',os,bare,un,hok,r,q⟩:=h;obtain⟨hh,g,d,t,os'⟩:=s';obtain rfl:os'=s.os:=os;exact⟨v,H',I.call (h':=hh) (g':=g) (d':=d) (t':=t) (ch:=[]) un hok bare (λb z=>absurd z (by simp)),r,q⟩
end
def mU (sp:Sp) (dvs:YG) (E:XK) (t:TA):TE:=fun U H Q=>t U H λvs H1=>sp (vs++dvs) H1 Q E
def bC (C:Addr) (m:Str) (sp:Sp) (dvs:YG) (E:XK) (ta:TE) (t:TA):TE:=fun U H Q=>ta U H λx H1=>∃a dx fs,x=.ref a/\H1 a=some (.ins C dx fs)/\fs.lookup m=none /\
 t U H1 λvs H2=>sp (x::(vs++dvs)) H2 Q E
def zA (C:Addr) (sp:Sp) (dvs:YG) (E:XK) (t:TA):TE:=fun U H Q=>t U H λvs H1=>∀x dx,H1 x=none->H1 dx=none->dx≠x ->
 sp (.ref x::(vs++dvs)) (upd (upd H1 dx (.own x)) x (.ins C dx [])) (λv H2=>v=.non/\Q (.ref x) H2) E
def Binds (K:YD) (fd:FuncData) (ps:YF) (ds:YE):Prop:=
 ∀(s:Shared) (us:YE),K.In s.heap->(us++ds).length=ps.length->BindsTo s fd ⟨us,[]⟩ (ps.zip (us++ds))
theorem Binds.all {K:YD} {fd:FuncData} {ps:YF} (h:∀us:YE,us.length=ps.length->bindArgs fd ⟨us,[]⟩=pure (ps.zip us)):Binds K fd ps []:=λs us _ hl=>by
 rw[QbP] at hl ⊢;exact .of_eq (h us hl)
def Passes (CX:CXT) (X:Cx) (E:XK):Prop:=∀(jb:YC) (U : St) (H:Hp) (s:Shared) (e:Value) (s':Shared),Inv X jb U H s->CX X.stack H s E e s'->X.xe e s'
section
variable {X:Cx} {CX:CXT} {k:Nat} {f C:Addr} {fd:FuncData} {ps:YF} {sp:Sp} {dvs:YG} {ds:YE} {E:XK} {x m:Str} {p pos apos:Pos} {e o:Expr} {es:YJ} {ta:TE} {t:TA}
theorem dF {jb:YC} {U : St} {H:Hp} {s:Shared} {Q:VK} {us:YE} {vs:YG} (F:FZ X.prog X.w X.K X.mg X.base CX k f fd ps sp) (hr:Ce k X.A) (hb:Binds X.K fd ps ds) (hd:Vals dvs ds) (hx:Passes CX X E)
  (I:Inv X jb U H s) (r:Vals vs us) (h:sp (vs++dvs) H Q E):wpAny (model X.prog X.w) X.A (call (.ref f) us) (EP X jb U Q) X.xe s:=by
 have r2:Vals (vs++dvs) (us++ds):=r.append hd;have hl:(us++ds).length=ps.length:=by rw[<-r2.length];exact F.len _ _ _ _ h
 refine wpAny_call (Qcz (F.run X.A X.stack s H ⟨us,[]⟩ (us++ds) (vs++dvs) Q E hr I.env0 (hb s us I.kIn hl) r2 h) λr s' hq=>?_);cases r with
 | error e=>exact hx jb U H s e s' I hq
 | ok fl=>
  cases fl with
  | ret u=>exact I.after hq
  | next=>exact False.elim hq
  | brk=>exact False.elim hq
  | cont=>exact False.elim hq
theorem AZ (F:FZ X.prog X.w X.K X.mg X.base CX k f fd ps sp) (hr:Ce k X.A) (hg:Gl X x) (hm:X.mg x=some (.ref f)) (hk:keepIn X.K (.ref f)=true) (hb:Binds X.K fd ps ds) (hd:Vals dvs ds) (hx:Passes CX X E)
  (ha:PA X (e::es) t) (hdb:(x == ("__debug__":Str))=false:=by decide) (he:starEach (e::es) X.env=(false,eval e X.env)::starEach es X.env:=by rfl) (hpl:(backTo pos (starEach es X.env)).any (·.1)=false:=by rfl) :
  PE X (.Call (.Name x p) (e::es) [] pos) (mU sp dvs E t):=by
 intro jb s U H Q I h;refine Qbk (Km I hg hm ?_ hdb);refine callWith_K (h₀:=X.base) I.ok.mod.kin hk (thn (ha pos jb s U H _ I h) λus s1 zz=>?_) he hpl;obtain⟨vs,H1,I1,r,q⟩:=zz;refine⟨I1.kIn,?_⟩;exact dF F hr hb hd hx I1 r q
theorem AX {pl:Sem Bool} (he:PE X o ta) (c:Cls X.K C) (hm:Meth X.K C m f) (F:FZ X.prog X.w X.K X.mg X.base CX k f fd ps sp) (hr:Ce k X.A) (hb:Binds X.K fd ps ds) (hd:Vals dvs ds) (hx:Passes CX X E) (ha:PA X (e::es) t)
  (hst:starEach (e::es) X.env=(false,eval e X.env)::starEach es X.env:=by rfl) (hpl:(backTo pos (starEach es X.env)).any (·.1)=false:=by rfl)
  (ht:eval (.Call (.Attribute o m apos) (e::es) [] pos) X.env=(do
   let ov <-eval o X.env
   standAt apos.atName
   let (f,first) <-holding [ov] (getMethod ov m pl)
   callWith pos f first (backTo pos (starEach (e::es) X.env)) (backToKw pos (keywordEach [] X.env))):=by rfl) :
  PE X (.Call (.Attribute o m apos) (e::es) [] pos) (bC C m sp dvs E ta t):=by
 intro jb s U H Q I h;refine PySem.W.methodCall_KW (pl:=pl) (thn (he jb s U H _ I h) λu s1 zz=>?_) ht;obtain⟨x,H1,I1,rx,a,dx,fs,ex,ea,l,q⟩:=zz;subst ex;obtain rfl:u=Value.ref a:=rx;refine Rz I1 ea c hm l ?_;refine callWith_K (first:=[.ref a]) (h₀:=X.base) I.ok.mod.kin hm.kp (thn (ha pos jb s1 U H1 _ I1 q) λus s2 zz=>?_) hst hpl
 obtain⟨vs,H2,I2,r,q2⟩:=zz;refine⟨I2.kIn,?_⟩;exact dF (us:=.ref a::us) (vs:=.ref a::vs) F hr hb hd hx I2 (.cons rfl r) q2
theorem vV {pl:Sem Bool} (he:PE X o ta) (c:Cls X.K C) (hm:Meth X.K C m f) (F:FZ X.prog X.w X.K X.mg X.base CX k f fd ps sp) (hr:Ce k X.A) (hb:Binds X.K fd ps ds) (hd:Vals dvs ds) (hx:Passes CX X E)
  (ht:eval (.Call (.Attribute o m apos) [] [] pos) X.env=(do
   let ov <-eval o X.env
   standAt apos.atName
   let (f,first) <-holding [ov] (getMethod ov m pl)
   callWith pos f first (backTo pos (starEach [] X.env)) (backToKw pos (keywordEach [] X.env))):=by rfl) :
  PE X (.Call (.Attribute o m apos) [] [] pos) (bC C m sp dvs E ta Nh):=by
 intro jb s U H Q I h;refine PySem.W.methodCall_KW (pl:=pl) (thn (he jb s U H _ I h) λu s1 zz=>?_) ht;obtain⟨x,H1,I1,rx,a,dx,fs,ex,ea,l,q⟩:=zz;subst ex;obtain rfl:u=Value.ref a:=rx;refine Rz I1 ea c hm l ?_;exact PySem.W.callWith_K0 (first:=[.ref a]) I1.kIn hm.kp (dF (us:=[.ref a]) (vs:=[.ref a]) F hr hb hd hx I1 (.cons rfl .nil) q)
structure Mk (K:YD) (C f:Addr):Prop where
 makes:makesIn K C=true
 init:findIn K (.ref C) "__init__"=some (some (.ref f))
 fn:isFn K (.ref f)=true
 kp:keepIn K (.ref C)=true
theorem vI {jb:YC} {U : St} {H:Hp} {s:Shared} {Q:VK} {us:YE} {vs:YG} (M:Mk X.K C f) (F:FZ X.prog X.w X.K X.mg X.base CX k f fd ps sp) (hr:Ce (k+1) X.A) (hb:Binds X.K fd ps ds) (hd:Vals dvs ds)
  (hx:Passes CX X E) (I:Inv X jb U H s) (r:Vals vs us)
  (h:∀x dx,H x=none->H dx=none->dx≠x->sp (.ref x::(vs++dvs)) (upd (upd H dx (.own x)) x (.ins C dx [])) (λv H2=>v=.non/\Q (.ref x) H2) E) :
  wpAny (model X.prog X.w) X.A (call (.ref C) us) (EP X jb U Q) X.xe s:=by
 have hq:=h (s.heap.objs.size+1) s.heap.objs.size (I.hok.fresh (QcI _)) (I.hok.fresh (QcD _)) (Qcu (QbH _));have I2:=Inv.made (C:=C) I;have r2:Vals (V.ref (s.heap.objs.size+1)::(vs++dvs)) (Value.ref (s.heap.objs.size+1)::(us++ds)):=.cons rfl (r.append hd);have hl:(Value.ref (s.heap.objs.size+1)::us++ds).length=ps.length:=by
  have e:=r2.length;rw[F.len _ _ _ _ hq] at e;exact e.symm
 refine wpAny_call (fU (f:=f) I.kIn M.makes M.init (beq_iff_eq.mp M.fn) (Qcz (F.run _ X.stack _ _ ⟨Value.ref (s.heap.objs.size+1)::us,[]⟩ (Value.ref (s.heap.objs.size+1)::(us++ds)) _ _ E (hr.make C us [])
  (I2.env0.make C us []) (hb _ (Value.ref (s.heap.objs.size+1)::us) I2.kIn hl) r2 hq) λr s' hq'=>?_))
 cases r with
 | error e=>exact hx jb U _ _ e s' I2 hq'
 | ok fl=>
  cases fl with
  | ret u=>
   obtain⟨v,H',I3,rv,ev,q3⟩:=I2.after hq';subst ev;exact⟨rv,⟨V.ref (s.heap.objs.size+1),H',I3,rq,q3⟩⟩
  | next=>exact False.elim hq'
  | brk=>exact False.elim hq'
  | cont=>exact False.elim hq'
theorem AY (M:Mk X.K C f) (F:FZ X.prog X.w X.K X.mg X.base CX k f fd ps sp) (hr:Ce (k+1) X.A) (hg:Gl X x) (hm:X.mg x=some (.ref C)) (hb:Binds X.K fd ps ds) (hd:Vals dvs ds) (hx:Passes CX X E)
  (ha:PA X (e::es) t) (hdb:(x == ("__debug__":Str))=false:=by decide) (he:starEach (e::es) X.env=(false,eval e X.env)::starEach es X.env:=by rfl) (hpl:(backTo pos (starEach es X.env)).any (·.1)=false:=by rfl) :
  PE X (.Call (.Name x p) (e::es) [] pos) (zA C sp dvs E t):=by
 intro jb s U H Q I h;refine Qbk (Km I hg hm ?_ hdb);refine callWith_K (h₀:=X.base) I.ok.mod.kin M.kp (thn (ha pos jb s U H _ I h) λus s1 zz=>?_) he hpl;obtain⟨vs,H1,I1,r,q⟩:=zz;refine⟨I1.kIn,?_⟩;exact vI M F hr hb hd hx I1 r q
end
def PK (X:Cx) (kws:List Keyword) (t:TA):Prop:=
 ∀(pos:Pos) (jb:YC) (s:Shared) (U : St) (H:Hp) (Q:YG->Hp->Prop),Inv X jb U H s->t U H Q->wpAny (model X.prog X.w) X.A (evalAll ((backToKw pos (keywordEach kws X.env)).map (·.2))) (AP X jb U Q) X.xe s
section
variable {X:Cx} {CX:CXT} {k:Nat} {f C:Addr} {fd:FuncData} {ps ks:YF} {sp:Sp} {E:XK} {x m:Str} {p pos apos kpos:Pos} {e o:Expr} {es:YJ} {kws:List Keyword} {te ta:TE} {t tk:TA} {nm:Option Str}
theorem DE:PK X [] Nh:=λ_ _ _ _ H Q I h=>wpAny_evalAll_nil ⟨[],H,I,.nil,h⟩
theorem AW (ha:PE X e te) (hr:PK X kws t):PK X (⟨nm,e,kpos⟩::kws) (Dy te t):=by
 intro pos jb s U H Q I h;show wpAny _ _ (evalAll ((do let v <-eval e X.env;standAt pos;pure v)::(backToKw pos (keywordEach kws X.env)).map (·.2))) _ _ s
 refine wpAny_evalAll_cons (QcJ (thn (ha jb s U H _ I h) λu s1 zz=>?_));obtain⟨x,H1,I1,r1,q1⟩:=zz;refine QcJ (Qcq (QcK ?_));refine thn (hr pos jb s1 U H1 _ I1 q1) λus s2 zz=>?_;obtain⟨xs,H2,I2,r2,q2⟩:=zz;exact⟨x::xs,H2,I2,.cons r1 r2,q2⟩
variable {g:YE->YE->YE} {gV:YG->YG->YG}
end
structure Az (N P:YF) (sc:Scope):Prop where
 kind:sc.kind=.function
 co:sc.isCoroutine=false
 gen:sc.isGenerator=false
 nd:N.Nodup
 pre:N.take P.length=P
 par:∀x∈P,sc.names.lookup x=some .local\/sc.names.lookup x=some .cell
 fM:∀y∈sc.names,y.2≠.free
theorem au {kindOf:Str->Option NameKind} {x:Str}:∀{binds:List (Str×Value)} {m:YB},(∀v,(x,v)∉binds)->bindL kindOf binds m x=m x
 | [],_,_=>rfl
 | (n,v)::r,m,h=>by
  unfold bindL;rw[au λw hw=>h w (QaL _ hw)];split
  ·have:x≠n:=by rintro rfl;exact h v QaZ
   simp[this]
  ·rfl
theorem aB {kindOf:Str->Option NameKind} {x:Str}:∀{binds:List (Str×Value)} {m:YB},(∀v,(x,v)∉binds)->bindC kindOf binds m x=m x
 | [],_,_=>rfl
 | (n,v)::r,m,h=>by
  unfold bindC;rw[aB λw hw=>h w (QaL _ hw)];split
  ·rfl
  ·have:x≠n:=by rintro rfl;exact h v QaZ
   simp[this]
theorem aA {kindOf:Str->Option NameKind} {x:Str} {v:Value}:∀{P:YF} {vs:YE} {i:Nat} {m:YB},P.Nodup->P[i]?=some x->vs[i]?=some v->kindOf x=some .local ->
  bindL kindOf (P.zip vs) m x=some v
 | [],_,_,_,_,h,_,_=>by simp at h
 | _::_,[],_,_,_,_,h,_=>by simp at h
 | p::P,w::vs,0,m,nd,h1,h2,hk=>by
  simp at h1 h2;subst h1;subst h2;show bindL kindOf ((p,w)::P.zip vs) m p=_;unfold bindL;rw[au λv hv=>(QbT.mp nd).1 (List.of_mem_zip hv).1,if_pos hk];simp
 | p::P,w::vs,i+1,m,nd,h1,h2,hk=>by
  show bindL kindOf ((p,w)::P.zip vs) m x=_;unfold bindL;exact aA (i:=i) (QbT.mp nd).2 (by simpa using h1) (by simpa using h2) hk
theorem aD {kindOf:Str->Option NameKind} {x:Str} {v:Value}:∀{P:YF} {vs:YE} {i:Nat} {m:YB},P.Nodup->P[i]?=some x->vs[i]?=some v->kindOf x≠some .local ->
  bindC kindOf (P.zip vs) m x=some v
 | [],_,_,_,_,h,_,_=>by simp at h
 | _::_,[],_,_,_,_,h,_=>by simp at h
 | p::P,w::vs,0,m,nd,h1,h2,hk=>by
  simp at h1 h2;subst h1;subst h2;show bindC kindOf ((p,w)::P.zip vs) m p=_;unfold bindC;rw[aB λv hv=>(QbT.mp nd).1 (List.of_mem_zip hv).1,if_neg hk];simp
 | p::P,w::vs,i+1,m,nd,h1,h2,hk=>by
  show bindC kindOf ((p,w)::P.zip vs) m x=_;unfold bindC;exact aD (i:=i) (QbT.mp nd).2 (by simpa using h1) (by simpa using h2) hk
def start (N:YF) (vs:YG):St:=vs.map some++List.replicate (N.length - vs.length) none
def K4 (CX:CXT) (P:Program) (w:World) (K:YD) (mg:YB) (base:Heap) (N:YF) (qual:Str) (scope:Scope) (f:Addr) (cd:Value) (A:Around) (outer:List Env) (s:Shared) (H:Hp) (E:XK):Cx where
 prog:=P
 w:=w
 K:=K
 mg:=mg
 base:=base
 A:=A.deeper (envOfC qual scope s.heap.objs.size f cd)
 N:=N
 s₀:=s
 H₀:=H
 env:=envOfC qual scope s.heap.objs.size f cd
 outer:=outer
 stack:=envOfC qual scope s.heap.objs.size f cd::outer
 ex:=[]
 calm:=true
 fn:=λ_=>true
 pn:=[]
 xe:=λe s'=>wpAny (model P w) (A.deeper (envOfC qual scope s.heap.objs.size f cd)) (leaving (envOfC qual scope s.heap.objs.size f cd) e) (λ_ s''=>CX outer H s E e s'') (λe' s''=>CX outer H s E e' s'') s'
theorem iC {sc:Scope} {n:Nat} {x:Str} (h:sc.names.lookup x=some .cell):∃c,(cellsFrom n sc.names []).lookup x=some c:=by
 have q:=PySem.W.cellsFrom_some sc.names n [] (.inl h);exact Option.isSome_iff_exists.mp q
theorem Z4 {CX:CXT} {P:Program} {w:World} {K:YD} {mg:YB} {base:Heap} {N ps:YF} {qual:Str} {scope:Scope} {f:Addr} {cd:Value} {A:Around} {outer:List Env} {s s1:Shared} {H:Hp} {E:XK} {us:YE} {vs:YG}
  (S:Az N ps scope) (hd:A.handled=none) (e0:Nq P w K mg base A outer s H) (hl:vs.length=ps.length) (r:Vals vs us)
  (x:InCallC s s.heap.objs.size (bindL (envOfC qual scope s.heap.objs.size f cd).kindOf (ps.zip us) λ_=>none) (cellsFrom (s.heap.objs.size+1) scope.names []) (bindC (envOfC qual scope s.heap.objs.size f cd).kindOf (ps.zip us) λ_=>none) s1) :
  Inv (K4 CX P w K mg base N qual scope f cd A outer s H E) [] (start N vs) H s1:=by
 have hpl:ps.length<=N.length:=by have:=congrArg List.length S.pre;rw[QbD] at this;omega
 obtain⟨h1,tk,rfl,hk⟩:=x.done;have noA:∀b:Addr,b∉(K4 CX P w K mg base N qual scope f cd A outer s H E).ex:=λb z=>absurd (show b∈([]:List Addr) from z) (by simp)
 refine⟨⟨e0.mod,S.kind,rq,rq,QcD _,λy z c h1 h2=>?_,λy hy=>?_,λy c _ h=>?_,λ_=>hd,Around.frames_deeper e0.frames,.inr ⟨rq,rq⟩,λb z=>absurd z (noA b),e0.bs,e0.bsz,λb _ _=>noA b,λb z=>absurd z (noA b),e0.Hj,e0.frf⟩,
  rfl,e0.bare,Un.kept hk,⟨_,x.toInCall.ns,λi y v h1 h2 h3=>?_⟩,λy c h=>⟨_,x.cell y c h⟩,e0.hok.fresh (QcD _),λy c h=>?_,λp hp=>absurd (show p∈([]:YC) from hp) (by simp),e0.hok.kept hk,?_⟩
 ·exact name_of_addr x.apart (QaU h1) (QaU h2)
 ·have hy:scope.names.lookup y=some .cell\/scope.names.lookup y=some .free:=hy;rcases hy with hy | hy
  ·exact iC hy
  ·exact absurd rfl (S.fM _ (QaU hy))
 ·exact Qcx (x.above y c (QaU h))
 ·have hi:i < vs.length:=by
   unfold start at h2;by_cases hi:i < vs.length
   ·exact hi
   ·rw[Qah (by simpa using hi)] at h2;rw[List.getElem?_replicate] at h2;split at h2 <;> cases h2
  have ha:vs[i]?=some v:=by
   unfold start at h2;rw[Qak (by simpa using hi),Qbq] at h2;cases e:vs[i]? with
   | none=>rw[e] at h2;cases h2
   | some a=>rw[e] at h2;cases h2;rfl
  obtain⟨u,hu,rv⟩:=r.get ha;have hp:ps[i]?=some y:=by
   rw[<-S.pre,List.getElem?_take_of_lt (by omega)];exact h1
  have ndP:ps.Nodup:=by rw[<-S.pre];exact S.nd.sublist (List.take_sublist _ _)
  refine⟨u,rv,?_⟩;rcases S.par y (QaK hp) with k | k
  ·exact .inl ⟨k,aA ndP hp hu k⟩
  ·obtain⟨c,e⟩:=iC (n:=s.heap.objs.size+1) k;refine .inr ⟨.inl k,c,e,?_⟩;have q:=x.cell y c e;rw[aD ndP hp hu (by show scope.names.lookup y≠_;rw[k];decide)] at q;exact q
 ·exact e0.hok.fresh (Qcx (x.above y c (QaU h)))
 ·unfold start;show _=N.length;rw[QaY,QbM,QaJ];omega
theorem bJ {CX:CXT} {P:Program} {w:World} {K:YD} {mg:YB} {base:Heap} {k:Nat} {f:Addr} {name qual:Str} {params:Arguments} {body:List Stmt} {scope:Scope} {dV kV doc pm cdv ct oc:Value} {an od:Option Addr}
  {osl:YI} {N ps:YF} {sp:Sp} (lk:K.lookup f=some ⟨oc,od,.func (fnOf name qual params body scope dV kV doc pm an cdv ct),osl⟩) (hcd:codeIn K cdv qual=true) (S:Az N ps scope)
  (len:∀vs H Q E,sp vs H Q E->vs.length=ps.length)
  (hbody:∀(A:Around) (outer:List Env) (s:Shared) (H:Hp) (vs:YG) (Q:VK) (E:XK),Ce k (A.deeper (envOfC qual scope s.heap.objs.size f cdv))->sp vs H Q E ->
   ∃t,PSs (K4 CX P w K mg base N qual scope f cdv A outer s H E) body t/\t { nx:=λ_ H'=>Q .non H',rt:=Q } (start N vs) H) :
  FZ P w K mg base CX (k+1) f (fnOf name qual params body scope dV kV doc pm an cdv ct) ps sp:=by
 refine⟨len,λA outer s H args us vs Q E hr e0 hb r hsp=>?_⟩;have hl:=len _ _ _ _ hsp;have KX:K.In s.heap:=e0.mod.kin.keeps λb o e=>(e0.bs b o e).1;have lim:s.heap.NoLimit:=e0.mod.nolimit.keeps λb o e=>(e0.bs b o e).1;have hkind:∀y∈ps.zip us,scope.names.lookup y.1=some .local\/(scope.names.lookup y.1=some .cell/\((cellsFrom (s.heap.objs.size+1) scope.names []).lookup y.1).isSome=true):=λ⟨n,v⟩ hy=>by
  rcases S.par n (List.of_mem_zip hy).1 with q | q
  ·exact .inl q
  ·exact .inr ⟨q,PySem.W.cellsFrom_some _ _ _ (.inl q)⟩
 refine codeAny_call_function hr.depth (KX _ _ lk) rfl S.co S.gen rfl (PySem.W.codeRec_of KX hcd) (hb _ _ _ _ ?_);refine wpAny_newFunctionEnv_cells S.kind hkind λenv he s1 x=>?_;subst he;refine⟨lim.keeps x.toInCall.keep,codeAny_func ?_⟩;obtain⟨t,ht,hq⟩:=hbody A outer s H vs Q E (hr.deeper _) hsp;have I:Inv (K4 CX P w K mg base N qual scope f cdv A outer s H E) [] (start N vs) H s1:=Z4 S hr.hd e0 hl r x;refine QcL (ht [] s1 (start N vs) H _ I hq) (λfl s' hs=>?_) λe s' hs=>hs;have fin:∀{σ':St} {H':Hp} {v:V} {u:Value},Inv (K4 CX P w K mg base N qual scope f cdv A outer s H E) [] σ' H' s'->RelV v u->Q v H'->CE outer P w H s Q u s':=
  λ{σ' H' v u} J rv q=>⟨v,H',J.os,J.bare,J.base,J.hok,rv,q⟩
 cases fl with
 | ret u=>
  obtain⟨v,σ',H',J,rv,q⟩:=hs;exact fin J rv q
 | next=>
  obtain⟨σ',H',J,q⟩:=hs;exact fin (v:=V.non) (u:=Value.none) J rfl q
 | brk=>
  obtain⟨_,_,_,q⟩:=hs;exact False.elim q
 | cont=>
  obtain⟨_,_,_,q⟩:=hs;exact False.elim q
section
variable {X:Cx} {x:Str} {p pos:Pos} {e:Expr} {es:YJ} {t:TA} {id T:String} {r:YG->Hp->VK->Prop}
def tCB (r:YG->Hp->VK->Prop) (t:TA):TE:=fun U H Q=>t U H λvs H1=>r vs H1 Q
theorem Av (hc:DW X (.builtin id) r) (hg:Gl X x) (hm:X.mg x=none) (hv:bootBuiltins x=some (.builtin id)) (ha:PA X (e::es) t) (hn:x≠"__name__":=by decide) (hdb:(x == ("__debug__":Str))=false:=by decide)
  (he:starEach (e::es) X.env=(false,eval e X.env)::starEach es X.env:=by rfl) (hpl:(backTo pos (starEach es X.env)).any (·.1)=false:=by rfl):PE X (.Call (.Name x p) (e::es) [] pos) (tCB r t):=by
 intro jb s U H Q I h;refine Qbk (Jy I hg hm hv ?_ hn hdb);refine PyProof.Rows.callWith_builtin1 (thn (ha pos jb s U H _ I h) λus s1 zz=>?_) he hpl;obtain⟨vs,H1,I1,r1,q1⟩:=zz;exact hc jb s1 U H1 vs us Q I1 r1 q1
theorem Df (hc:DW X (.type T) r) (hg:Gl X x) (hm:X.mg x=none) (hv:bootBuiltins x=some (.type T)) (ha:PA X (e::es) t) (hn:x≠"__name__":=by decide) (hdb:(x == ("__debug__":Str))=false:=by decide)
  (he:starEach (e::es) X.env=(false,eval e X.env)::starEach es X.env:=by rfl) (hpl:(backTo pos (starEach es X.env)).any (·.1)=false:=by rfl):PE X (.Call (.Name x p) (e::es) [] pos) (tCB r t):=by
 intro jb s U H Q I h;refine Qbk (Jy I hg hm hv ?_ hn hdb);refine Qae (thn (ha pos jb s U H _ I h) λus s1 zz=>?_) he hpl;obtain⟨vs,H1,I1,r1,q1⟩:=zz;exact hc jb s1 U H1 vs us Q I1 r1 q1
end
end L2
namespace HT
open PySem PyProof.Rows
section
open PySem.SeqAt
open PySem.AutoSeq1 (wpAny_loadPart')
open PySem.MeetsSeq PySem.MeetsSeq2 PySem.MeetsSeq3
end
section
variable {prog:Program} {w:World} {A:Around} {E:YA} {s:Shared}
theorem B3 {t b:Addr} {vs ws:YE} {Q:YA} (ht:IsTup s.heap t vs.toArray) (hb:IsTup s.heap b ws.toArray) (hv:vs≠[])
  (h1:ws=[]->Q (.ref t) s) (h2:ws≠[]->Q (.ref s.heap.objs.size) { s with heap:=s.heap.push { cls:=.type "tuple",data:=.seq (vs++ws).toArray } })
  (hsz:vs.length+ws.length<=sizeLine):wpAny (model prog w) A (binaryOp .Add (.ref t) (.ref b)) Q E s:=by
 obtain⟨⟨cls,dd,data,sl⟩,ho,hc,n,hd⟩:=id ht;obtain⟨⟨cls2,dd2,data2,sl2⟩,ho2,hc2,n2,hd2⟩:=id hb;simp only at hc hd hc2 hd2;subst hc hd hc2 hd2;have e:vs.toArray++ws.toArray=(vs++ws).toArray:=by simp
 by_cases hw:ws=[]
 ·exact concat_meets ⟨_,ho,rq⟩ ⟨_,ho2,rq⟩ noFill_tuple_add seq_tuple_add PySem.F.slot_tuple_add PySem.F.entry_tuple_add (PySem.F.args_tuple_add_2 _ _)
   (tuple_addW1 t b vs.toArray ws.toArray n n2 dd dd2 sl sl2 (by simpa using hv) (by simp[hw])) ⟨ho,ho2,h1 hw⟩
 ·refine concat_meets ⟨_,ho,rq⟩ ⟨_,ho2,rq⟩ noFill_tuple_add seq_tuple_add PySem.F.slot_tuple_add PySem.F.entry_tuple_add (PySem.F.args_tuple_add_2 _ _)
   (tuple_addW2 t b vs.toArray ws.toArray n n2 dd dd2 sl sl2 (by simpa using hv) (by simpa using hw) (by rw[Qbo,Qbo];exact hsz)) ⟨ho,ho2,?_⟩
  rw[e];exact h2 hw
def sIx (n d:Nat):Option Int->Nat
 | none=>d
 | some v=>if v < 0 then (v+(n:Int)).toNat else min v.toNat n
theorem dz (n d:Nat):sIx n d none=d:=rfl
theorem kI (n d k:Nat):sIx n d (some (k:Int))=min k n:=by
 show (if (k:Int) < 0 then ((k:Int)+(n:Int)).toNat else min (k:Int).toNat n)=min k n
 rw[if_neg (by omega),Qbr]
theorem De (n d:Nat) (hd:d<=n) (o:Option Int):sIx n d o<=n:=by
 cases o with
 | none=>exact hd
 | some v=>
  show (if v < 0 then (v+(n:Int)).toNat else min v.toNat n)<=n
  by_cases hv:v < 0
  ·rw[if_pos hv];omega
  ·rw[if_neg hv];exact Nat.min_le_right _ _
theorem lZ (v:Int) (n d:Nat):(if v < 0 then max (v+(n:Int)) 0 else min v (n:Int))=((sIx n d (some v):Nat):Int):=by
 show (if v < 0 then max (v+(n:Int)) 0 else min v (n:Int))=(((if v < 0 then (v+(n:Int)).toNat else min v.toNat n):Nat):Int)
 by_cases hv:v < 0
 ·simp only[if_pos hv];omega
 ·simp only[if_neg hv];omega
theorem pR (lo hi:Option Int) (n:Nat):Builtin.Slice.sliceAdjust lo hi 1 (n:Int)=(((sIx n 0 lo:Nat):Int),((sIx n n hi:Nat):Int)):=by
 have h1:¬((1:Int) < 0):=by omega
 unfold Builtin.Slice.sliceAdjust;simp only[h1,if_false];refine Prod.ext ?_ ?_
 ·cases lo with
  | none=>rfl
  | some v=>exact lZ v n 0
 ·cases hi with
  | none=>rfl
  | some v=>exact lZ v n n
theorem nM (i j:Nat):Builtin.Slice.slicePlaces (i:Int) (j:Int) 1=j - i:=by
 unfold Builtin.Slice.slicePlaces;have h1:(1:Int) > 0:=by omega
 simp only[h1,if_true,Int.ediv_one];split <;> omega
theorem Xf {v:Value} {o:Option Int} {Q:Option Int->Shared->Prop} (p:IsPart v o) (h:Q o s):wpAny (model prog w) A (Builtin.Slice.slicePartIndex v) Q E s:=by
 cases p with
 | none=>exact slicePart_none h
 | int i t=>exact slicePart_int h
theorem Oq {sl:Addr} {vl vu:Value} {lo hi:Option Int} {n:Nat} {Q:Int×Int×Nat->Shared->Prop} (hs:s.heap.IsSliceOf sl vl vu .none) (pl:IsPart vl lo) (pu:IsPart vu hi)
  (h:Q (((sIx n 0 lo:Nat):Int),1,sIx n n hi - sIx n 0 lo) s):wpAny (model prog w) A (Builtin.Slice.sliceApplied (.ref sl) (pure (n:Int))) Q E s:=by
 obtain⟨os,hos,hcs,hds⟩:=id hs;unfold Builtin.Slice.sliceApplied Builtin.Slice.sliceFields;refine QcJ (QcJ (QcG hos hds (x:=vl) rfl (QcJ (QcG hos hds (x:=vu) rfl (QcJ (QcG hos hds (x:=.none) rfl (QcK ?_)))))));refine QcJ (slicePart_none ?_);show wpAny _ _ (if ((1:Int) == 0)=true then _ else _) _ _ s
 rw[if_neg (by decide)];refine QcJ (Xf pl (QcJ (Xf pu (QcJ (QcK ?_)))));show wpAny _ _ (match Builtin.Slice.sliceAdjust lo hi 1 (n:Int) with | (lo,hi)=>pure (lo,(1:Int),Builtin.Slice.slicePlaces lo hi 1)) _ _ s
 rw[pR lo hi n];show wpAny _ _ (pure (((sIx n 0 lo:Nat):Int),(1:Int),Builtin.Slice.slicePlaces ((sIx n 0 lo:Nat):Int) ((sIx n n hi:Nat):Int) 1)) _ _ s;rw[nM];exact QcK h
theorem vR (xs:Array Value) (i k:Nat):((List.range k).filterMap λ(m:Nat)=>xs[((i:Int)+(m:Int)*1).toNat]?).toArray=((xs.toList.drop i).take k).toArray:=by
 have e:(λ(m:Nat)=>xs[((i:Int)+(m:Int)*1).toNat]?)=λm=>xs[i+m]?:=by
  funext m
  have:((i:Int)+(m:Int)*1).toNat=i+m:=by omega
  rw[this]
 rw[e];have:=pick_run xs i k;rw[List.filterMap_map] at this;have e2:((λx=>xs[x]?) ∘ λx=>i+x)=λm=>xs[i+m]?:=rfl;rw[e2] at this;rw[this]
theorem Vm {t sl:Addr} {items:Array Value} {vl vu:Value} {lo hi:Option Int} {Q:YA} (ht:IsTup s.heap t items) (hs:s.heap.IsSliceOf sl vl vu .none) (pl:IsPart vl lo) (pu:IsPart vu hi)
  (hw:¬(sIx items.size 0 lo=0/\sIx items.size items.size hi=items.size))
  (h:Q (.ref s.heap.objs.size) { s with heap:=s.heap.push { cls:=.type "tuple",data:=.seq ((items.toList.drop (sIx items.size 0 lo)).take (sIx items.size items.size hi - sIx items.size 0 lo)).toArray } })
  (hsz:items.size<=sizeLine):wpAny (model prog w) A (getItem (.ref t) (.ref sl)) Q E s:=by
 have bI:sizeOk (.seq ((items.toList.drop (sIx items.size 0 lo)).take (sIx items.size items.size hi - sIx items.size 0 lo)).toArray):=by
  show ((items.toList.drop (sIx items.size 0 lo)).take (sIx items.size items.size hi - sIx items.size 0 lo)).toArray.size<=sizeLine;rw[Qbo,QbD,QbG,QaS];omega
 have hj:sIx items.size items.size hi<=items.size:=De _ _ (QcD _) hi;obtain⟨os,hos,hcs,hds⟩:=id hs;have hTs:s.TypeIs (.ref sl) "slice":=⟨os,hos,hcs⟩;unfold getItem
 try with_reducible refine Qcn ?_
 first | refine QcJ (QcK ?_) | skip
 refine QcJ (wpAny_sequenceKey ht.typeIs (by decide) ?_);refine QcJ (Qau (name:=Str.ofString "__getitem__") ht.typeIs Qab
  (QbF Qab ht.typeIs entry_tuple_getitem ?_ (args_tuple_getitem _ _)))
 show wpAny _ _ (Builtin.Tuple.tupleItemsOf (.ref t) >>= _) _ _ s;refine QcJ (tupleItemsOf_ ht ?_);refine QcJ (QcB hTs ?_);rw[if_pos (by decide)];refine QcJ (Oq hs pl pu ?_);have hno:¬((((sIx items.size 0 lo:Nat):Int) == 0&&(1:Int) == 1&&(sIx items.size items.size hi - sIx items.size 0 lo) == items.size)=true):=by
  intro q;rw[QbI,QbI] at q;have q1:((sIx items.size 0 lo:Nat):Int)=0:=eq_of_beq q.1.1;have q2:sIx items.size items.size hi - sIx items.size 0 lo=items.size:=eq_of_beq q.2;exact hw ⟨by omega,by omega⟩
 show wpAny _ _ (if (((sIx items.size 0 lo:Nat):Int) == 0&&(1:Int) == 1&&(sIx items.size items.size hi - sIx items.size 0 lo) == items.size)=true then _ else _) _ _ s
 rw[if_neg hno,vR]
 first
  | exact QcJ (m:=Builtin.Tuple.tupleExact _) (Qbs (QcK ⟨_,rfl,QcK h⟩) bI)
  | exact QcJ (m:=Builtin.Tuple.tupleExact _) (Qbs (QcJ (QcK (QcK ⟨_,rfl,QcK h⟩))) bI)
  | exact QcJ (QcJ (m:=Builtin.Tuple.tupleExact _) (Qbs (QcK (QcK ⟨_,rfl,QcK h⟩)) bI))
  | exact QcJ (QcJ (m:=Builtin.Tuple.tupleExact _) (Qbs (QcK ⟨_,rfl,QcK h⟩) bI))
end
end HT
namespace L2
open PySem PySem.Spec PyProof.Rows
abbrev TO:=St->Hp->(Option Int->Hp->Prop)->Prop
def PO (X:Cx) (e:Option Expr) (t:TO):Prop:=
 ∀(jb:YC) (s:Shared) (U : St) (H:Hp) (Q:Option Int->Hp->Prop),Inv X jb U H s->t U H Q ->
  wpAny (model X.prog X.w) X.A (evalPart e X.env) (λu s'=>∃o H',Inv X jb U H' s'/\IsPart u o/\Q o H') X.xe s
def AF:TO:=λ_ H Q=>Q none H
def GB (t:TE):TO:=fun U H Q=>t U H λx H1=>∃i,x=.int i/\Q (some i) H1
theorem intsAre_of {ns:List Int}:∀{us:YE},Vals (ns.map V.int) us->IntsAre us ns:=by
 induction ns with
 | nil=>intro us r;rw[QcA] at r;cases r;exact .nil
 | cons n ns ih=>
  intro us r;rw[Qck] at r;cases r with
  | cons r1 r2=>
   obtain⟨t,e⟩:=r1;subst e;exact .cons n t (ih r2)
section
variable {X:Cx} {e:Expr} {te:TE} {lo hi:Option Expr} {tl th:TO} {pos p2:Pos}
theorem Ob:PO X none AF:=by
 intro jb s U H Q I h;rw[evalPart_none];exact QcK ⟨none,H,I,.none,h⟩
theorem Oa (h:PE X e te):PO X (some e) (GB te):=by
 intro jb s U H Q I hw;rw[evalPart_some];refine thn (h jb s U H _ I hw) λu s1 zz=>?_;obtain⟨x,H1,I1,r1,q1⟩:=zz;obtain⟨i,rfl,q⟩:=q1;obtain⟨t,rfl⟩:=r1;exact⟨some i,H1,I1,.int i t,q⟩
def SlR (X:Cx) (r:V->Option Int->Option Int->Hp->VK->Prop):Prop:=
 ∀(jb:YC) (s:Shared) (U : St) (H:Hp) (x:V) (v vl vu:Value) (lo hi:Option Int) (sl:Addr) (Q:VK),Inv X jb U H s->RelV x v->s.heap.IsSliceOf sl vl vu .none->IsPart vl lo->IsPart vu hi->r x lo hi H Q ->
  ∃T id,typeLookup (.type T) "__getitem__"=pure (some (.builtin id))/\s.TypeIs v T/\wpAny (model X.prog X.w) X.A (getItem v (.ref sl)) (EP X jb U Q) X.xe s
def tSl (r:V->Option Int->Option Int->Hp->VK->Prop) (te:TE) (tl th:TO):TE:=fun U H Q=>te U H λx H1=>tl U H1 λl H2=>th U H2 λu H3=>r x l u H3 Q
theorem Li {r:V->Option Int->Option Int->Hp->VK->Prop} (hr:SlR X r) (he:PE X e te) (hl:PO X lo tl) (hu:PO X hi th):PE X (.Subscript e (.Slice lo hi none p2) pos) (tSl r te tl th):=by
 intro jb s U H Q I h;refine Subscript_ (thn (he jb s U H _ I h) λv s1 zz=>?_);obtain⟨x,H1,I1,r1,q1⟩:=zz;refine wpAny_Slice (thn (hl jb s1 U H1 _ I1 q1) λvl s2 zz=>?_);obtain⟨l,H2,I2,pl,q2⟩:=zz;refine thn (hu jb s2 U H2 _ I2 q2) λvu s3 zz=>?_;obtain⟨u,H3,I3,pu,q3⟩:=zz;rw[evalPart_none];refine QcK ?_;have I4:Inv X jb U H3 { s3 with heap:=s3.heap.push { cls:=.type "slice",data:=.fields #[vl,vu,.none] } }:=I3.kept (t':=s3.toks) λb ob q=>Qaz _ q;obtain⟨T,id,hT,ht,hg⟩:=hr jb { s3 with heap:=s3.heap.push { cls:=.type "slice",data:=.fields #[vl,vu,.none] } } U H3 x v vl vu l u s3.heap.objs.size Q I4 r1 (Heap.IsSliceOf.new ..) pl pu q3;show wpAny (model X.prog X.w) X.A (subscriptTail e (.Slice lo hi none p2) v (.ref s3.heap.objs.size)) (EP X jb U Q) X.xe { s3 with heap:=s3.heap.push { cls:=.type "slice",data:=.fields #[vl,vu,.none] } };exact tail_any (ops:=[.ref s3.heap.objs.size,v]) ht hT hg (by with_unfolding_all rfl)
def JZ (xs:YG) (lo hi:Option Int):YG:=(xs.drop (HT.sIx xs.length 0 lo)).take (HT.sIx xs.length xs.length hi - HT.sIx xs.length 0 lo)
theorem Vv (xs:YG) (lo hi:Option Int):(JZ xs lo hi).length<=xs.length:=by
 unfold JZ;rw[QbD,QbG];omega
def KB (K:YD):V->Option Int->Option Int->Hp->VK->Prop:=λx lo hi H Q=>∃a xs,x=.ref a/\SqT K H a xs /\
 ¬(HT.sIx xs.length 0 lo=0/\HT.sIx xs.length xs.length hi=xs.length)/\∀p,H p=none->Q (.ref p) (upd H p (.tup (JZ xs lo hi)))
theorem C8:SlR X (KB X.K):=by
 intro jb s U H x v vl vu lo hi sl Q I rx hs pl pu h;obtain⟨a,xs,rfl,hx,hw,q⟩:=h;cases rx;obtain⟨its,r,ht,hz⟩:=I.tuple hx;have hlen:its.toArray.size=xs.length:=by rw[Qbo];exact r.length.symm
 refine⟨"tuple",_,Qab.lookup,ht.typeIs,?_⟩;refine HT.Vm ht hs pl pu (by rw[hlen];exact hw) ?_ (by rw[hlen];exact hz);rw[hlen];refine⟨.ref s.heap.objs.size,_,I.laid (t':=s.toks) (o:=.tup (JZ xs lo hi)) (λb ob q=>Qaz _ q) (QcD _) ?_,rq,q _ (I.hok.fresh (QcD _))⟩;exact⟨Qcv (Vv xs lo hi) hz,_,(r.drop (HT.sIx xs.length 0 lo)).take (HT.sIx xs.length xs.length hi - HT.sIx xs.length 0 lo),IsTup.new _ _⟩
def GV (K:YD):R2:=λx y H Q=>∃a b xs ys,x=.ref a/\y=.ref b/\SqT K H a xs/\SqT K H b ys/\xs≠[]/\xs.length+ys.length<=sizeLine /\
 (ys=[]->Q (.ref a) H)/\(ys≠[]->∀p,H p=none->Q (.ref p) (upd H p (.tup (xs++ys))))
theorem Vals.Y9 {xs:YG} {us:YE} (r:Vals xs us):us=[] ↔ xs=[]:=by
 cases r with
 | nil=>simp
 | cons _ _=>simp
theorem A1:OpR X (binaryOp .Add) (GV X.K):=by
 intro jb s U H x y v u Q I rx ry h;obtain⟨a,b,xs,ys,rfl,rfl,ha,hb,hx,hz,q1,q2⟩:=h;cases rx;cases ry;obtain⟨its,r1,p1,_⟩:=I.tuple ha;obtain⟨its2,r2,p2,_⟩:=I.tuple hb;refine HT.B3 p1 p2 (λz=>hx (r1.Y9.mp z)) (λz=>⟨.ref a,H,I,rq,q1 (r2.Y9.mp z)⟩) (λz=>?_) (by rw[<-r1.length,<-r2.length];exact hz);refine⟨.ref s.heap.objs.size,_,I.laid (t':=s.toks) (o:=.tup (xs++ys)) (λb ob q=>Qaz _ q) (QcD _) ?_,rq,q2 (λw=>z (r2.Y9.mpr w)) _ (I.hok.fresh (QcD _))⟩;exact⟨by rw[QaY];exact hz,_,r1.append r2,IsTup.new _ _⟩
end
def ixN (n:Nat) (i:Int):Option Nat:=if 0<=i then (if i < n then some i.toNat else none) else if -(n:Int)<=i then some (i+n).toNat else none
def atI {α : Type} (xs:List α) (i:Int):Option α:=(ixN xs.length i).bind λj=>xs[j]?
theorem lF {n:Nat} {i:Int} {j:Nat} (h:ixN n i=some j):seqIndex? i n=some j/\j < n/\-(n:Int)<=i/\i < n:=by
 unfold ixN at h;by_cases h0:0<=i
 ·rw[if_pos h0] at h;by_cases h1:i < n
  ·rw[if_pos h1] at h;have e:i.toNat=j:=QbS h;exact⟨by rw[seqIndex_of h0 h1,e],by omega,by omega,h1⟩
  ·rw[if_neg h1] at h;cases h
 ·rw[if_neg h0] at h;by_cases h1:-(n:Int)<=i
  ·rw[if_pos h1] at h;have e:(i+n).toNat=j:=QbS h;exact⟨by rw[seqIndex_neg (by omega) h1,e],by omega,h1,by omega⟩
  ·rw[if_neg h1] at h;cases h
theorem Zu {α : Type} {xs:List α} {i:Int} {v:α} (h:atI xs i=some v):∃j,seqIndex? i xs.length=some j/\xs[j]?=some v/\j < xs.length/\-(xs.length:Int)<=i/\i < xs.length:=by
 unfold atI at h;cases e:ixN xs.length i with
 | none=>rw[e] at h;cases h
 | some j=>
  rw[e] at h;obtain⟨h1,h2,h3,h4⟩:=lF e;exact⟨j,h1,h,h2,h3,h4⟩
theorem Fb {α : Type} {xs:List α} {j:Nat} {v:α} (h:xs[j]?=some v):atI xs (j:Int)=some v:=by
 have hj:j < xs.length:=(Qai.mp h).1;have e:ixN xs.length (j:Int)=some j:=by
  unfold ixN;rw[if_pos (by omega),if_pos (by omega)];simp
 unfold atI;rw[e];exact h
def B8 (b:Expr):Prop:=∀o i,subscripted b false o i=operate [o,i] (getItem o i)
def IxR (X:Cx) (r:R2):Prop:=
 ∀(value slice:Expr) (jb:YC) (s:Shared) (U : St) (H:Hp) (x y:V) (v u:Value) (Q:VK),Inv X jb U H s->RelV x v->RelV y u->r x y H Q ->
  subscripted slice false v u=operate [v,u] (getItem v u)->wpAny (model X.prog X.w) X.A (subscriptTail value slice v u) (EP X jb U Q) X.xe s
def MtR (X:Cx) (id:String) (r:V->YG->Hp->VK->Prop):Prop:=
 ∀(jb:YC) (s:Shared) (U : St) (H:Hp) (x:V) (xs:YG) (v:Value) (us:YE) (Q:VK),Inv X jb U H s->RelV x v->Vals xs us->r x xs H Q ->
  wpAny (model X.prog X.w) X.A (call (.builtin id) (v::us)) (EP X jb U Q) X.xe s
section
variable {X:Cx} {a b:Expr} {ta tb:TE} {pos:Pos}
theorem Bm {r:R2} (hr:IxR X r) (ha:PE X a ta) (hb:PE X b tb) (hs:B8 b):PE X (.Subscript a b pos) (tOp r ta tb):=by
 intro jb s U H Q I h;exact Subscript_ (yR ha hb I h λv u s2 x y H2 I2 rx ry q=>hr a b jb s2 U H2 x y v u Q I2 rx ry q (hs _ _))
def DA (K:YD):R2:=λx y H Q=>∃p xs i v,x=.ref p/\y=.int i/\SqL K H p xs/\atI xs i=some v/\Q v H
def Dx (K:YD):R2:=λx y H Q=>∃p xs i v,x=.ref p/\y=.int i/\SqT K H p xs/\atI xs i=some v/\Q v H
def KF:R2:=λx y H Q=>∃z i c,x=.str z/\y=.int i/\z.length<=sizeLine/\atI z.cps.toList i=some c/\Q (.str ⟨#[c]⟩) H
theorem Dv:IxR X (DA X.K):=by
 intro value slice jb s U H x y v u Q I rx ry h hs;obtain⟨p,xs,i,z,rfl,rfl,hq,he,q⟩:=h;cases rx;obtain⟨t,rfl⟩:=ry;obtain⟨its,r,pl,hz⟩:=I.list hq;obtain⟨j,h1,h2,h3,h4,h5⟩:=Zu he;obtain⟨w,ew,rw'⟩:=r.get h2;have hl:=r.length;have hn:=M5;have fin:EP X jb U Q w s:=⟨z,H,I,rw',q⟩;by_cases h0:0<=i
 ·have hj:i.toNat=j:=by
   rw[seqIndex_of h0 h5] at h1;exact QbS h1
  exact item_listR pl.isList h0 (by omega) (by rw[hj];simpa using ew) fin hs
 ·have hj:(i+(its.toArray.size:Int)).toNat=j:=by
   rw[seqIndex_neg (by omega) h4] at h1;rw[Qbo,<-hl];exact QbS h1
  exact subscriptTail_builtinR (x:=w) pl.isList.typeIs slot_list_getitem.lookup
   (wpAny_getItem_list_neg (Q:=λr s'=>r=w/\EP X jb U Q r s') pl.isList (by omega) (by rw[Qbo] <;> omega) (by omega) (by rw[hj];simpa using ew) ⟨rq,fin⟩) hs
theorem Ca:IxR X (Dx X.K):=by
 intro value slice jb s U H x y v u Q I rx ry h hs;obtain⟨p,xs,i,z,rfl,rfl,hq,he,q⟩:=h;cases rx;obtain⟨t,rfl⟩:=ry;obtain⟨its,r,pl,hz⟩:=I.tuple hq;obtain⟨j,h1,h2,h3,h4,h5⟩:=Zu he;obtain⟨w,ew,rw'⟩:=r.get h2;have hl:=r.length;have hn:=M5;have fin:EP X jb U Q w s:=⟨z,H,I,rw',q⟩;exact subscriptTail_builtinR (x:=w) pl.typeIs slot_tuple_getitem.lookup
  (getItem_tuple (j:=j) (Q:=λr s'=>r=w/\EP X jb U Q r s') pl (by omega) (by omega) (by rw[Qbo,<-hl];exact h1) (by simpa using ew) ⟨rq,fin⟩) hs
theorem EE:IxR X KF:=by
 intro value slice jb s U H x y v u Q I rx ry h hs;obtain⟨z,i,c,rfl,rfl,hz,he,q⟩:=h;obtain⟨t,rfl⟩:=rx;obtain⟨t',rfl⟩:=ry;obtain⟨j,h1,h2,h3,h4,h5⟩:=Zu he;have hl:z.cps.toList.length=z.length:=by simp[Str.length]
 rw[hl] at h1 h4 h5;have hn:=M5;exact tail_any (typeIs_str s z t) slot_str_getitem.lookup (getItem_str (c:=c) (by
  have e1:decide (i < -(2 ^ 63:Int))=false:=QbR (by omega);have e2:decide (i ≥ 2 ^ 63)=false:=QbR (by omega);rw[e1,e2,Qcr]) (by rw[h1];simpa using h2) ⟨.str ⟨#[c]⟩,H,I.tok _,⟨_,rq⟩,q⟩) hs
theorem oM (its:YE) (n j:Nat) (u:Value):Obj.mapSeq (·.setIfInBounds j u) { cls:=.type "list",data:=.seq its.toArray n }={ cls:=.type "list",data:=.seq (its.set j u).toArray n }:=by
 simp[Obj.mapSeq]
theorem Inv.lst {jb:YC} {U : St} {H:Hp} {s:Shared} {p:Addr} {xs:YG} (I:Inv X jb U H s) (h:H p=some (.lst xs)) :
  ∃(its:YE) (n:Nat),Vals xs its/\s.heap.get? p=some { cls:=.type "list",data:=.seq its.toArray n }/\xs.length<=sizeLine:=by
 obtain⟨z,its,n,r,e⟩:=I.hok p _ h;exact⟨its,n,r,e,z⟩
theorem Inv.Ev {jb:YC} {U : St} {H:Hp} {s:Shared} {p:Addr} {xs ys:YG} {its its':YE} {n n':Nat} {f:Obj->Obj} (I:Inv X jb U H s) (h:H p=some (.lst xs))
  (ho:s.heap.get? p=some { cls:=.type "list",data:=.seq its.toArray n }) (hf:f { cls:=.type "list",data:=.seq its.toArray n }={ cls:=.type "list",data:=.seq its'.toArray n' }) (r:Vals ys its') (hz:ys.length<=sizeLine) (t:Nat) :
  Inv X jb U (upd H p (.lst ys)) { s with heap:=s.heap.update p f,toks:=t }:=by
 have e:(s.heap.update p f).get? p=some { cls:=.type "list",data:=.seq its'.toArray n' }:=by
  rw[QaF f ho (by rw[hf] <;> rfl),hf]
 refine I.write (x:=p) (e:=p) (by rw[h];trivial) (.inl rfl) (λb u hb q=>(QaB _ _ (Ne.symm hb)).trans q) ⟨_,e⟩ ?_;exact⟨hz,its',n',r,e⟩
def GU:V->V->V->Hp->(Hp->Prop)->Prop:=λo i v H Q=>∃p xs k j,o=.ref p/\i=.int k/\H p=some (.lst xs)/\ixN xs.length k=some j/\Q (upd H p (.lst (xs.set j v)))
theorem set_list:F3 X GU:=by
 intro jb s U H o i v ov iv u Q I ro ri rv h;obtain⟨p,xs,k,j,rfl,rfl,hp,hj,q⟩:=h;cases ro;obtain⟨t,rfl⟩:=ri;obtain⟨its,n,r,ho,hz⟩:=I.lst hp;obtain⟨h1,h2,h3,h4⟩:=lF hj;have hl:=r.length;have hn:=M5;have I':Inv X jb U (upd H p (.lst (xs.set j v))) { s with heap:=s.heap.update p (Obj.mapSeq (·.setIfInBounds j u)) }:=
  I.Ev hp ho (oM its n j u) (r.set rv j) (by rw[List.length_set];exact hz) s.toks
 by_cases h0:0<=k
 ·have hk:k.toNat=j:=by
   rw[seqIndex_of h0 h4] at h1;exact QbS h1
  exact PySem.W.ki_setAt ho h0 (by omega) (by rw[Qbo,<-hl];exact h4) (by rw[hk];exact⟨_,I',q⟩)
 ·have hk:(k+(its.toArray.size:Int)).toNat=j:=by
   rw[seqIndex_neg (by omega) h3] at h1;rw[Qbo,<-hl];exact QbS h1
  exact PySem.W.ki_setBack ho (by omega) (by rw[Qbo,<-hl];exact h3) (by omega) (by rw[hk];exact⟨_,I',q⟩)
theorem cR (lo hi:Option Int) (n:Nat):(sliceBounds lo hi none n).1=((HT.sIx n 0 lo:Nat):Int)/\(sliceBounds lo hi none n).2.1=((HT.sIx n n hi:Nat):Int)/\(sliceBounds lo hi none n).2.2=1:=by
 refine⟨?_,?_,rq⟩
 ·cases lo with
  | none=>simp[sliceBounds,HT.sIx]
  | some i=>
   simp only[sliceBounds,HT.sIx,Option.getD_none,show (1:Int) > 0 by decide,if_true];by_cases h:i < 0
   ·simp only[h,if_true] <;> omega
   ·simp only[h,if_false] <;> omega
 ·cases hi with
  | none=>simp[sliceBounds,HT.sIx]
  | some i=>
   simp only[sliceBounds,HT.sIx,Option.getD_none,show (1:Int) > 0 by decide,if_true];by_cases h:i < 0
   ·simp only[h,if_true] <;> omega
   ·simp only[h,if_false] <;> omega
theorem aK (its:YE) (lo hi:Option Int):slicePick its.toArray lo hi none=((its.drop (HT.sIx its.length 0 lo)).take (HT.sIx its.length its.length hi - HT.sIx its.length 0 lo)).toArray:=by
 obtain⟨h1,h2,h3⟩:=cR lo hi its.toArray.size;unfold slicePick;rw[h1,h2,h3];simp only[sliceRange_one,pick_run,Qbo] <;> rfl
def KE (K:YD):V->Option Int->Option Int->Hp->VK->Prop:=λx lo hi H Q=>∃a xs,x=.ref a/\SqL K H a xs/\∀p,H p=none->Q (.ref p) (upd H p (.lst (JZ xs lo hi)))
theorem AM:SlR X (KE X.K):=by
 intro jb s U H x v vl vu lo hi sl Q I rx hs pl pu h;obtain⟨a,xs,rfl,hx,q⟩:=h;cases rx;obtain⟨its,r,ht,hz⟩:=I.list hx;have hlen:=r.length;refine⟨"list",_,slot_list_getitem.lookup,ht.isList.typeIs,?_⟩;refine wpAny_getItem_list_slice ht.isList hs pl pu .none (by simp) ?_ (by rw[Qbo] <;> omega);rw[aK,<-hlen];refine⟨.ref s.heap.objs.size,_,I.laid (t':=s.toks) (o:=.lst (JZ xs lo hi)) (λb ob q=>Qaz _ q) (QcD _) ?_,rq,q _ (I.hok.fresh (QcD _))⟩;exact⟨Qcv (Vv xs lo hi) hz,_,0,(r.drop (HT.sIx xs.length 0 lo)).take (HT.sIx xs.length xs.length hi - HT.sIx xs.length 0 lo),QaP _ rfl⟩
def Mj:V->Bool
 | .non=>true
 | .bl _=>true
 | .int _=>true
 | .str _=>true
 | _=>false
def eqV:V->V->Bool
 | .non,.non=>true
 | .bl a,.bl b=>a == b
 | .bl a,.int b=>(if a then 1 else 0) == b
 | .int a,.bl b=>a == (if b then 1 else 0)
 | .int a,.int b=>a == b
 | .str a,.str b=>a == b
 | _,_=>false
theorem FF {A:Around} {s:Shared} {y x:V} {u v:Value} (ry:RelV y u) (rx:RelV x v) (fy:Mj y=true) (fx:Mj x=true):SeqAt.EqAt A s u v (eqV y x):=by
 cases y with
 | non=>
  cases ry;cases x with
  | non=>cases rx;exact SeqAt.EqAt.same _
  | bl b=>cases rx;exact SeqAt.EqAt.none_bool b
  | int b=>obtain⟨t,rfl⟩:=rx;exact SeqAt.EqAt.none_int b t
  | str b=>obtain⟨t,rfl⟩:=rx;exact SeqAt.EqAt.none_str b t
  | _=>exact absurd (show false=true from fx) Qba
 | bl a=>
  cases ry;cases x with
  | non=>cases rx;exact SeqAt.EqAt.bool_none a
  | bl b=>cases rx;exact SeqAt.EqAt.bool_bool a b
  | int b=>obtain⟨t,rfl⟩:=rx;exact SeqAt.EqAt.bool_int a b t
  | str b=>obtain⟨t,rfl⟩:=rx;exact SeqAt.EqAt.bool_str a b t
  | _=>exact absurd (show false=true from fx) Qba
 | int a=>
  obtain⟨t',rfl⟩:=ry;cases x with
  | non=>cases rx;exact SeqAt.EqAt.int_none a t'
  | bl b=>cases rx;exact SeqAt.EqAt.int_bool a t' b
  | int b=>obtain⟨t,rfl⟩:=rx;exact SeqAt.EqAt.int_int a t' b t
  | str b=>obtain⟨t,rfl⟩:=rx;exact SeqAt.EqAt.int_str a t' b t
  | _=>exact absurd (show false=true from fx) Qba
 | str a=>
  obtain⟨t',rfl⟩:=ry;cases x with
  | non=>cases rx;exact SeqAt.EqAt.str_none a t'
  | bl b=>cases rx;exact SeqAt.EqAt.str_bool a t' b
  | int b=>obtain⟨t,rfl⟩:=rx;exact SeqAt.EqAt.str_int a t' b t
  | str b=>obtain⟨t,rfl⟩:=rx;exact SeqAt.EqAt.str_str a t' b t
  | _=>exact absurd (show false=true from fx) Qba
 | _=>exact absurd (show false=true from fy) Qba
def eqU (x:V) (u:Value):Bool:=match u with
 | .none=>eqV .non x
 | .bool b=>eqV (.bl b) x
 | .int i _=>eqV (.int i) x
 | .str z _=>eqV (.str z) x
 | _=>false
theorem tU {x y:V} {u:Value} (r:RelV y u) (f:Mj y=true):eqU x u=eqV y x:=by
 cases y with
 | non=>cases r;rfl
 | bl b=>cases r;rfl
 | int i=>obtain⟨t,rfl⟩:=r;rfl
 | str z=>obtain⟨t,rfl⟩:=r;rfl
 | _=>exact absurd (show false=true from f) Qba
theorem Q9 {x:V}:∀{xs:YG} {us:YE},Vals xs us->xs.all Mj=true->us.any (eqU x)=xs.any λy=>eqV y x
 | _,_,.nil,_=>rfl
 | y::xs,u::us,.cons r t,f=>by
  rw[List.all_cons,QbI] at f;rw[Qco,Qco,tU r f.1,Q9 t f.2]
theorem Pa {A:Around} {s:Shared} {x:V} {v:Value} (rx:RelV x v) (fx:Mj x=true):∀{xs:YG} {us:YE},Vals xs us->xs.all Mj=true->∀u∈us,SeqAt.EqAt A s u v (eqU x u)
 | _,_,.nil,_=>λu hu=>by cases hu
 | y::xs,u::us,.cons r t,f=>λu' hu=>by
  rw[List.all_cons,QbI] at f;rcases Qcj.mp hu with rfl | hu
  ·rw[tU r f.1];exact FF r rx f.1 fx
  ·exact Pa rx fx t f.2 u' hu
def inV (x:V) (xs:YG):Bool:=xs.any λy=>eqV y x
def rIn (K:YD) (neg:Bool):R2:=λx y H Q=>∃p xs,y=.ref p/\(SqL K H p xs\/SqT K H p xs)/\Mj x=true/\xs.all Mj=true/\Q (.bl (if neg then !inV x xs else inV x xs)) H
theorem Tj:OpR X (compareOp .In) (rIn X.K false):=by
 intro jb s U H x y v u Q I rx ry h;obtain⟨p,xs,rfl,hq,fx,fs,q⟩:=h;cases ry;rcases hq with hq | hq
 ·obtain⟨its,r,pl,hz⟩:=I.list hq;refine SeqAt.in_listAt (eqU x) pl.isList (λw hw=>Pa rx fx r fs w (by simpa using hw)) ⟨.bl _,H,I,rq,?_⟩;rw[show its.toArray.any (eqU x)=its.any (eqU x) by simp,Q9 r fs];exact q
 ·obtain⟨its,r,pl,hz⟩:=I.tuple hq;refine SeqAt.in_tupleAt (eqU x) pl (λw hw=>Pa rx fx r fs w (by simpa using hw)) ⟨.bl _,H,I,rq,?_⟩;rw[show its.toArray.any (eqU x)=its.any (eqU x) by simp,Q9 r fs];exact q
theorem eV:OpR X (compareOp .NotIn) (rIn X.K true):=by
 intro jb s U H x y v u Q I rx ry h;obtain⟨p,xs,rfl,hq,fx,fs,q⟩:=h;cases ry;rcases hq with hq | hq
 ·obtain⟨its,r,pl,hz⟩:=I.list hq;refine SeqAt.notIn_listAt (eqU x) pl.isList (λw hw=>Pa rx fx r fs w (by simpa using hw)) ⟨.bl _,H,I,rq,?_⟩;rw[show its.toArray.any (eqU x)=its.any (eqU x) by simp,Q9 r fs];exact q
 ·obtain⟨its,r,pl,hz⟩:=I.tuple hq;refine SeqAt.notIn_tupleAt (eqU x) pl (λw hw=>Pa rx fx r fs w (by simpa using hw)) ⟨.bl _,H,I,rq,?_⟩;rw[show its.toArray.any (eqU x)=its.any (eqU x) by simp,Q9 r fs];exact q
theorem Bj:DW X (.builtin "len") (λxs H Q=>∃p ys,xs=[.ref p]/\(SqL X.K H p ys\/SqT X.K H p ys)/\Q (.int ys.length) H):=by
 intro jb s U H xs us Q I r h;obtain⟨p,ys,rfl,hq,q⟩:=h;obtain⟨u,rfl,rx⟩:=vals1 r;cases rx;have hn:=M5;rcases hq with hq | hq
 ·obtain⟨its,r',pl,hz⟩:=I.list hq;have hlen:=r'.length;exact Calls.call_len_list pl.isList (by simp only[Qbo] <;> omega) ⟨.int ys.length,H,I.tok _,⟨s.toks+1,by rw[Qbo,hlen]⟩,q⟩
 ·obtain⟨its,r',pl,hz⟩:=I.tuple hq;have hlen:=r'.length;exact len_tuple pl (by simp only[Qbo] <;> omega) ⟨.int ys.length,H,I.tok _,⟨s.toks+1,by rw[Qbo,hlen]⟩,q⟩
theorem iI:DW X (.builtin "len") (λxs H Q=>∃z,xs=[.str z]/\z.length<=sizeLine/\Q (.int z.length) H):=by
 intro jb s U H xs us Q I r h;obtain⟨z,rfl,hz,q⟩:=h;obtain⟨u,rfl,t,rfl⟩:=vals1 r;have hn:=M5;exact len_str (by omega) ⟨.int z.length,H,I.tok _,⟨_,rq⟩,q⟩
theorem iH:DW X (.type "list") (λxs H Q=>∃p ys,xs=[.ref p]/\(SqL X.K H p ys\/SqT X.K H p ys)/\∀l,H l=none->Q (.ref l) (upd H l (.lst ys))):=by
 intro jb s U H xs us Q I r h;obtain⟨p,ys,rfl,hq,q⟩:=h;obtain⟨u,rfl,rx⟩:=vals1 r;cases rx;have fin:∀(its:YE),Vals ys its->ys.length<=sizeLine->∀(h':Heap) (c':Nat),(∀b o',s.heap.get? b=some o'->h'.get? b=some o') ->
   h'.get? s.heap.objs.size=some { cls:=.type "list",dict:=none,data:=.seq its.toArray c',slots:=#[] }->EP X jb U Q (.ref s.heap.objs.size) { s with heap:=h' }:=λits r' hz h' c' kp e=>
  ⟨.ref s.heap.objs.size,_,I.laid (t':=s.toks) kp (QcD _) (show Bt X.prog X.w _ h' _ (.lst ys) from⟨hz,its,c',r',e⟩),rq,q _ (I.hok.fresh (QcD _))⟩
 rcases hq with hq | hq
 ·obtain⟨its,r',pl,hz⟩:=I.list hq;have hlen:=r'.length;obtain⟨o,ho,hc,n,hd⟩:=pl.isList;exact call_list_seq p (.inl rfl) ho hc hd (λh' c' kp e=>fin its r' hz h' c' kp e) (by simp only[Qbo] <;> omega)
 ·obtain⟨its,r',pl,hz⟩:=I.tuple hq;have hlen:=r'.length;obtain⟨o,ho,hc,n,hd⟩:=pl;exact call_list_seq p (.inr rfl) ho hc hd (λh' c' kp e=>fin its r' hz h' c' kp e) (by simp only[Qbo] <;> omega)
theorem DQ:DW X (.type "tuple") (λxs H Q=>∃p ys,xs=[.ref p]/\((SqL X.K H p ys/\∀l,H l=none->Q (.ref l) (upd H l (.tup ys)))\/(SqT X.K H p ys/\Q (.ref p) H))):=by
 intro jb s U H xs us Q I r h;obtain⟨p,ys,rfl,h⟩:=h;obtain⟨u,rfl,rx⟩:=vals1 r;cases rx;rcases h with⟨hq,q⟩|⟨hq,q⟩
 ·obtain⟨its,r',pl,hz⟩:=I.list hq;have hlen:=r'.length;refine call_tuple_list pl.isList (λh' kp=>?_) (by simp only[Qbo] <;> omega);have I1:Inv X jb U H { s with heap:=h' }:=I.kept (t':=s.toks) kp;have I2:Inv X jb U (upd H h'.objs.size (.tup ys)) { s with heap:=h'.push { cls:=.type "tuple",data:=.seq its.toArray } }:=
   I1.laid (t':=s.toks) (λb o e=>Qaz _ e) (QcD _) (show Bt X.prog X.w _ _ _ (.tup ys) from⟨hz,its,r',IsTup.new _ _⟩)
  exact⟨.ref h'.objs.size,_,I2,rq,q _ (I1.hok.fresh (QcD _))⟩
 ·obtain⟨its,r',pl,hz⟩:=I.tuple hq;exact call_tuple_same pl ⟨.ref p,H,I,rq,q⟩
def tyV (K:YD) (T:String) (x:V) (H:Hp):Prop:=match x with
 | .str _=>T="str"
 | .int _=>T="int"
 | .ref p=>(T="list"/\∃xs,SqL K H p xs)\/(T="tuple"/\∃o,K.lookup p=some o/\o.cls=.type "tuple"/\o.dict=none) \/
   (T="dict"/\((∃kvs,H p=some (.dK kvs))\/∃kvs,H p=some (.dT kvs)))\/(T="set"/\∃S n,H p=some (.set S n))
 | _=>False
theorem Ct {jb:YC} {U : St} {H:Hp} {s:Shared} {T:String} {x:V} {v:Value} (I:Inv X jb U H s) (r:RelV x v) (ty:tyV X.K T x H) :
  s.TypeIs v T/\∀a,v=.ref a->∃ob,s.heap.get? a=some ob/\ob.dict=none:=by
 cases x with
 | str z=>
  obtain⟨t,rfl⟩:=r;cases (show T="str" from ty)
  exact⟨typeIs_str s z t,λ_ e=>nomatch e⟩
 | int i=>
  obtain⟨t,rfl⟩:=r;cases (show T="int" from ty)
  exact⟨typeIs_int s i t,λ_ e=>nomatch e⟩
 | ref p=>
  cases r;rcases ty with⟨rfl,xs,hq⟩|⟨rfl,o,hk,hc,hd⟩|⟨rfl,hk⟩|⟨rfl,S,n,hk⟩
  ·obtain⟨its,_,pl,_⟩:=I.list hq;refine⟨pl.isList.typeIs,λa e=>?_⟩;cases e;obtain⟨o,n,e,c,hd,_⟩:=pl;exact⟨o,e,hd⟩
  ·refine⟨⟨o,I.kIn p o hk,hc⟩,λa e=>?_⟩;cases e;exact⟨o,I.kIn _ o hk,hd⟩
  ·have z:∃o,s.heap.get? p=some o/\o.ExactDict:=by
    rcases hk with⟨kvs,hk⟩|⟨kvs,hk⟩
    ·obtain⟨_,_,_,_,o,_,_,e,ex,_⟩:=I.hok p _ hk;exact⟨o,e,ex⟩
    ·obtain⟨_,_,_,_,o,_,_,e,ex,_⟩:=I.hok p _ hk;exact⟨o,e,ex⟩
   obtain⟨o,e,ex⟩:=z;refine⟨⟨o,e,ex.1⟩,λa e2=>?_⟩;cases e2;exact⟨o,e,ex.2.1⟩
  ·obtain⟨o,_,_,_,e,ex,_⟩:=I.hok p _ hk;refine⟨⟨o,e,ex.1⟩,λa e2=>?_⟩;cases e2;exact⟨o,e,ex.2.1⟩
 | _=>exact False.elim ty
def tBM (K:YD) (T:String) (r:V->YG->Hp->VK->Prop) (to:TE) (t:TA):TE:=fun U H Q=>to U H λx H1=>tyV K T x H1/\t U H1 λxs H2=>r x xs H2 Q
variable {o e:Expr} {es:YJ} {to:TE} {t:TA} {name:Str} {apos cpos:Pos} {T id:String} {r:V->YG->Hp->VK->Prop}
theorem Cy (pa:PlainAttrs T) (slot:Slot T name id) (hty:typeOf (.builtin id)=pure (.type "method_descriptor")) (hm:MtR X id r) (ho:PE X o to) (ha:PA X (e::es) t)
  (hbase:attributeBase o name X.env (eval o X.env)=eval o X.env:=by rfl)
  (hfew:((backTo cpos (starEach (e::es) X.env)).all (λx=>!x.1)&&(backToKw cpos (keywordEach [] X.env)).all (λx=>x.1.isSome)
  &&decide ((e::es).length+([]:List Keyword).length+(if ([]:List Keyword).isEmpty then 0 else 1) < 30))=true:=by rfl)
  (hline:(apos.endLine == cpos.line)=true:=by rfl) (hs:starEach (e::es) X.env=(false,eval e X.env)::starEach es X.env:=by rfl) (hplain:(backTo cpos (starEach es X.env)).any (·.1)=false:=by rfl) :
  PE X (.Call (.Attribute o name apos) (e::es) [] cpos) (tBM X.K T r to t):=by
 intro jb s U H Q I h;refine wpAny_Call_method_late hbase hfew hline rfl (thn (ho jb s U H _ I h) λv s1 zz=>?_);obtain⟨x,H1,I1,r1,ty,q1⟩:=zz;obtain⟨h1,h2⟩:=Ct I1 r1 ty;refine⟨T,id,pa,slot,hty,h1,h2,?_⟩;have hA:=ha cpos jb s1 U H1 _ I1 q1;rw[hs] at hA ⊢;refine Calls.callWith_builtin (by show (false || (backTo cpos (starEach es X.env)).any (·.1))=false;rw[hplain] <;> rfl) (Calls.evalArgs_plain ?_);refine thn hA λus s2 zz=>?_;obtain⟨vs,H2,I2,r2,q2⟩:=zz;exact hm jb s2 U H2 x vs v us Q I2 r1 r2 q2
end
def MtM (X:Cx) (id:String) (r:V->YG->Hp->VK->Prop):Prop:=
 ∀(jb:YC) (s:Shared) (U : St) (H:Hp) (x:V) (xs:YG) (v:Value) (us:YE) (Q:VK),Inv X jb U H s->RelV x v->Vals xs us->r x xs H Q ->
  wpAny (model X.prog X.w) X.A (call (.builtin id) (v::us)) (EP X jb U Q) X.xe s
theorem Vals.one:∀{x:V} {us:YE},Vals [x] us->∃u,us=[u]/\RelV x u
 | _,_,.cons r .nil=>⟨_,rfl,r⟩
theorem Vals.zero:∀{us:YE},Vals [] us->us=[]
 | _,.nil=>rfl
theorem Vals.dropLast {xs:YG} {us:YE} (h:Vals xs us):Vals xs.dropLast us.dropLast:=by
 induction h with
 | nil=>exact .nil
 | cons r t ih=>
  cases t with
  | nil=>exact .nil
  | cons q t'=>exact .cons r ih
theorem Vals.eraseIdx:∀{xs:YG} {us:YE} (i:Nat),Vals xs us->Vals (xs.eraseIdx i) (us.eraseIdx i)
 | _,_,_,.nil=>.nil
 | _,_,0,.cons _ t=>t
 | _,_,i+1,.cons r t=>.cons r (Vals.eraseIdx i t)
theorem Vals.rep {xs:YG} {us:YE} (h:Vals xs us):∀k:Nat,Vals (List.replicate k xs).flatten (List.replicate k us).flatten
 | 0=>.nil
 | k+1=>by
  rw[List.replicate_succ,List.replicate_succ,List.flatten_cons,List.flatten_cons];exact Vals.append h (Vals.rep h k)
theorem Z0 {α : Type}:∀(l:List α) (i:Nat),(l.eraseIdx i).length<=l.length
 | [],_=>QcD _
 | _::_,0=>QcI _
 | _::r,i+1=>Nat.succ_le_succ (Z0 r i)
section
variable {X:Cx} {jb:YC} {U : St} {H:Hp} {s:Shared} {l b:Addr} {xs ys zs:YG}
theorem Inv.wV {its its':YE} {n:Nat} {f:Array Value->Array Value} {t':Nat} (I:Inv X jb U H s) (hH:H l=some (.lst xs))
  (e:s.heap.get? l=some { cls:=.type "list",data:=.seq its.toArray n }) (hf:f its.toArray=its'.toArray) (hv:Vals ys its') (hz:ys.length<=sizeLine) :
  Inv X jb U (upd H l (.lst ys)) { s with heap:=s.heap.update l (Obj.mapSeq f),toks:=t' }:=by
 have q:=PySem.IsL.update e f;rw[hf] at q;refine I.write (x:=l) (e:=l) (by rw[hH];exact trivial) (.inl rfl) (λb' u hb hu=>(QaB s.heap (Obj.mapSeq f) (Ne.symm hb)).trans hu) ⟨_,q⟩ ?_;exact⟨hz,its',_,hv,q⟩
theorem Inv.Lo {its:YE} {t':Nat} (I:Inv X jb U H s) (hv:Vals ys its) (hz:ys.length<=sizeLine) :
  Inv X jb U (upd H s.heap.objs.size (.lst ys)) { s with heap:=s.heap.push { cls:=.type "list",data:=.seq its.toArray },toks:=t' }:=
 I.laid (λ_ _ q=>Qaz _ q) (QcD _) ⟨hz,its,0,hv,QaP _ rfl⟩
theorem Inv.fresh (I:Inv X jb U H s):H s.heap.objs.size=none:=I.hok.fresh (QcD _)
theorem Inv.Tt (I:Inv X jb U H s) (hH:H l=some (.lst xs)):xs.length<=sizeLine/\∃(its:YE) (n:Nat),Vals xs its/\xs.length=its.length/\s.heap.get? l=some { cls:=.type "list",data:=.seq its.toArray n }:=by
 obtain⟨z,its,n,r,e⟩:=I.hok l _ hH;exact⟨z,its,n,r,r.length,e⟩
theorem wJ {n:Nat} (h:n<=sizeLine):Builtin.List.listTooLong n=false:=by
 unfold Builtin.List.listTooLong;exact QbR (by omega)
end
section
variable {X:Cx}
def AU:V->YG->Hp->VK->Prop:=λx vs H Q=>∃l xs y,x=.ref l/\vs=[y]/\H l=some (.lst xs)/\xs.length < sizeLine/\Q .non (upd H l (.lst (xs++[y])))
theorem BX:MtM X "list.append" AU:=by
 intro jb s U H x vs v us Q I rx rv h;obtain⟨l,xs,y,rfl,rfl,hH,hz,q⟩:=h;cases rx;obtain⟨u,rfl,ru⟩:=rv.one;obtain⟨z,its,n,r,hl,e⟩:=I.Tt hH;refine call_meets F.slot_list_append ⟨_,e,rq⟩ F.entry_list_append (F.args_list_append_2 _ _) (PySem.list_append l its.toArray n u (by rw[Qbo];omega)) ⟨e,?_⟩;refine⟨.non,_,I.wV (its':=its++[u]) hH e (by simp) (r.append (.cons ru .nil)) ?_,rq,q⟩;rw[QaY,QaG];omega
def AR:V->YG->Hp->VK->Prop:=λx vs H Q=>∃l b xs zs,x=.ref l/\vs=[.ref b]/\H l=some (.lst xs)/\H b=some (.lst zs)/\xs.length+zs.length<=sizeLine/\Q .non (upd H l (.lst (xs++zs)))
theorem Gg:MtM X "list.extend" AR:=by
 intro jb s U H x vs v us Q I rx rv h;obtain⟨l,b,xs,zs,rfl,rfl,hH,hB,hz,q⟩:=h;cases rx;obtain⟨u,rfl,ru⟩:=rv.one;cases ru;obtain⟨z,its,n,r,hl,e⟩:=I.Tt hH;obtain⟨z2,its2,n2,r2,hl2,e2⟩:=I.Tt hB;have hsz:its.toArray.size+its2.toArray.size<=sizeLine:=by rw[Qbo,Qbo];omega
 have ID:¬(!its.toArray.isEmpty&&Builtin.List.listTooLong (its.toArray.size+its2.toArray.size))=true:=by
  rw[wJ hsz,Bool.and_false];exact Qba
 refine call_meets F.slot_list_extend ⟨_,e,rq⟩ F.entry_list_extend (F.args_list_extend_2 _ _)
  (AutoSeq1.list_extend_list_list_0 l its.toArray n b its2.toArray n2 ID (by rw[Qbo];omega) (by omega)) ⟨e,e2,?_⟩
 refine⟨.non,_,I.wV (its':=its++its2) hH e (by simp) (r.append r2) ?_,rq,q⟩;rw[QaY];omega
def Do:V->YG->Hp->VK->Prop:=λx vs H Q=>∃l xs i k y,x=.ref l/\vs=[.int i]/\H l=some (.lst xs)/\-(2 ^ 63)<=i/\i < 2 ^ 63/\seqIndex? i xs.length=some k/\xs[k]?=some y/\Q y (upd H l (.lst (xs.eraseIdx k)))
theorem fQ:MtM X "list.pop" Do:=by
 intro jb s U H x vs v us Q I rx rv h;obtain⟨l,xs,i,k,y,rfl,rfl,hH,h1,h2,hk,hy,q⟩:=h;cases rx;obtain⟨u,rfl,ru⟩:=rv.one;obtain⟨t,rfl⟩:=ru;obtain⟨z,its,n,r,hl,e⟩:=I.Tt hH;obtain⟨w,hw,rw'⟩:=r.get hy;refine call_meets F.slot_list_pop ⟨_,e,rq⟩ F.entry_list_pop (F.args_list_pop_2 _ _)
  (MeetsSeq.list_pop_at l its.toArray n i t k w (fitsIndex_both h1 h2) (by rw[Qbo,<-hl];exact hk) (by rw[<-Array.getElem?_toList];exact hw) (by rw[Qbo];omega)) ⟨e,?_⟩
 refine⟨y,_,I.wV (its':=its.eraseIdx k) hH e ?_ (r.eraseIdx k) ?_,rw',q⟩
 ·show its.toArray.eraseIdxIfInBounds k=(its.eraseIdx k).toArray;rw[List.eraseIdxIfInBounds_toArray]
 ·have:=Z0 xs k;omega
def KG:R2:=λx y H Q=>∃l b xs zs,x=.ref l/\y=.ref b/\H l=some (.lst xs)/\H b=some (.lst zs)/\xs.length+zs.length<=sizeLine/\∀p,H p=none->Q (.ref p) (upd H p (.lst (xs++zs)))
theorem qW:OpR X (binaryOp .Add) KG:=by
 intro jb s U H x y v u Q I rx ry h;obtain⟨l,b,xs,zs,rfl,rfl,hH,hB,hz,q⟩:=h;cases rx;cases ry;obtain⟨z,its,n,r,hl,e⟩:=I.Tt hH;obtain⟨z2,its2,n2,r2,hl2,e2⟩:=I.Tt hB;refine PySem.P.add_list e e2 ?_ (by rw[Qbo,Qbo];omega);have ea:its.toArray++its2.toArray=(its++its2).toArray:=by simp
 rw[ea];exact⟨.ref _,_,I.Lo (t':=s.toks) (r.append r2) (by rw[QaY];omega),rq,q _ I.fresh⟩
end
section
variable {prog:Program} {w:World} {A:Around} {E:YA} {s:Shared}
set_option maxRecDepth 100000 in
end
section
variable {X:Cx}
end
end L2
namespace Att
open PySem PySem.W PySem.Calls PyProof.Rows
theorem XF {P:Params} {h:Heap}:∀(ns:List Int) (vs:YE),WellAll P h vs (ns.map WData.int)->IntsAre vs ns:=by
 intro ns
 induction ns with
 | nil=>
  intro vs w;rw[QcA] at w;cases w;exact .nil
 | cons n ns ih=>
  intro vs w;rw[Qck] at w;cases w with
  | cons a b=>
   cases a;exact .cons _ _ (ih _ b)
theorem qC {l:OpenLaw} {n:Nat} (hn:l.most=some n) {P:Params} {h:Heap} {args:List WData} {vals:YE}
  (hpre:l.row.toRowW.claim.pre args=true) (hwl:WellAll P h vals args) :
  ∃a vs ns,vals=[Value.ref a]/\args=[WData.list (ns.map WData.int)]/\h.get? a=some { cls:=.type "list",data:=.seq vs.toArray }/\IntsAre vs ns/\ns.length<=n:=by
 have hsh:WShape.hasAll [] args [.list .int]=true:=(pre_splitW hpre).1;have hc:l.pre.holds [] { args:=args }=true:=(pre_splitW hpre).2;obtain⟨d,r,rfl,h1,h2⟩:=hasAllW_cons hsh;obtain rfl:=hasAllW_nil h2;obtain⟨xs,rfl,h3⟩:=hasW_list h1;obtain⟨ns,rfl⟩:=items_int h3;have hlen:ns.length<=n:=by
  unfold OpenLaw.pre at hc;have h4:(WTm.not (.lt (.lit (.int (n:Int))) (.len (.arg 0)))).holds [] { args:=[.list (ns.map .int)] }=true:=by
   have h4:=(holds_andW hc).1;rw[hn] at h4;exact h4
  have h5:=condW_of h4 (w_not (w_lt w_lit (w_len_list (w_arg rfl))));rw[QbM] at h5;refine Nat.le_of_not_lt λq=>?_;have q':(n:Int) < ((ns.length:Nat):Int):=by omega
  first
   | (rw[Qcd q'] at h5;exact absurd h5 (by decide))
   | (simp at h5;omega)
 cases hwl with
 | cons w1 w2=>
  cases w2;cases w1 with
  | list ho hall=>exact⟨_,_,ns,rfl,rfl,ho,XF ns _ hall,hlen⟩
theorem qK (l:OpenLaw) (args:List WData):l.row.toRowW.claim.post args (.bool true) args=true:=
 postW_of (r:=l.row.toRowW) (X:=(true == true))
  (show WShape.has [] (.bool true) .bool=true by first | rfl | decide | simp[WShape.has,WShape.arms,WShape.armsAll])
  (show (WTm.eq .res (.lit (.bool true))).value [] { args:=args,res:=some (.bool true),after:=args }=some (.bool (true == true)) from w_eq_bool (w_res rfl) w_lit) rfl
theorem jO {l:OpenLaw} {n:Nat} {q:Program} {loose:YF} {XP:(YB)->Heap->Prop} {YP:World->Heap->Prop} {d:DefRec}
  (hn:l.most=some n) (hdf:d.params.defaults=[])
  (call:∀(w:World) (s₀ s₁ : Shared) (mg mb:YB) (fa:Addr) (o:Obj) (pm cd doc:Value) (a:Addr) (vs:YE) (ns:List Int),
   Ground q loose [] XP w s₀ mg mb s₁.heap->YP w s₁.heap ->
   s₁.heap.get? fa=some o->o.data=.func (docDef d.name d.params d.body d.scope pm cd doc)->s₁.heap.CodeRec cd d.name->mg d.name=some (.ref fa) ->
   s₁.heap.get? a=some { cls:=.type "list",data:=.seq vs.toArray }->IntsAre vs ns->ns.length<=n->s₁.gens=#[] ->
   codeAny (model l.prog w) callerA (.call (.ref fa) ⟨[.ref a],[]⟩) (λr s'=>r=.ok (.ret (.bool true))/\OldK s₁.heap s'.heap/\s'.os=s₁.os/\AllBare s'.gens) s₁) :
  WalkO q loose XP YP l.row.toRowW d [] (λf vs=>PySem.call f vs):=by
 intro w s₀ s₁ mg mb G Y fa o pm cd doc dV kV ho hd hcd hD hmg hg args vals as hpre hlay hrd hwl hlo;obtain rfl:dV=.none:=Dflts.none hD hdf;obtain rfl:kV=.none:=Dflts.noKw hD;obtain⟨a,vs,ns,rfl,rfl,hobj,hints,hlen⟩:=qC hn hpre hwl;refine enter_call (Qcz (call w s₀ s₁ mg mb fa o pm cd doc a vs ns G Y ho (fd_plain hd) hcd hmg hobj hints hlen hg) λr s' hq=>?_);obtain⟨rfl,h2,h3,h4⟩:=hq;exact⟨.inl ⟨.bool true,.bool true,[],rq,λ_=>rfl,.bool true,qK l _,λ_=>⟨List.Pairwise.nil,λ_ hm=>(nomatch hm)⟩⟩,h2,h3,h4⟩
section
variable {prog:Program} {w:World} {A:Around} {E:YA} {s:Shared} {K:Frag}
def Xp (h:Heap):Heap:={ h with objs:=#[] }
theorem NK (h:Heap) (b:Addr):(Xp h).get? b=none:=by
 cases e:(Xp h).get? b with
 | none=>rfl
 | some o=>exact absurd (Qct e) (QbZ _)
theorem FD {h:Heap} {L:Addr} {m:YB} (n:h.Ns L m):Fr (Xp h) L h m:=
 ⟨n,λb o e=>(by rw[NK] at e;cases e),QcE _⟩
end
end Att
namespace L2
open PySem PySem.Spec PyProof.Rows
theorem Sw:∀{vs:YE} {ns:List Int},IntsAre vs ns->Vals (ns.map V.int) vs
 | _,_,.nil=>.nil
 | _,_,.cons n t h=>.cons ⟨t,rfl⟩ (Sw h)
def Only (H:Hp):Prop:=∀b,H b=none\/∃o xs,H b=some (.frz o (.lst xs))
theorem wY {P:Program} {w:World} {K:YD} {mg mb:YB} {CX:CXT} {k:Nat} {fa a:Addr} {fd:FuncData} {x:Str} {sp:Sp} {s₁ : Shared} {vs:YE} {ns:List Int}
  (KX:K.In s₁.heap) (hns:s₁.heap.Ns mainGlobals mg) (hb:s₁.heap.Ns builtinsNs mb) (hbb:∀x:Str,x≠"__name__"->mb x=bootBuiltins x) (hlim:s₁.heap.NoLimit) (hg:s₁.gens=#[])
  (ha:s₁.heap.get? a=some { cls:=.type "list",data:=.seq vs.toArray }) (hi:IntsAre vs ns) (hl:ns.length<=sizeLine) (hr:Ce k callerA)
  (F:∀base:Heap,K.In base->base.Ns mainGlobals mg->FZ P w K mg base CX k fa fd [x] sp) (hbind:∀(s:Shared) (u:Value),BindsTo s fd ⟨[u],[]⟩ [(x,u)])
  (hsp:∀H:Hp,Only H->SqL K H a (ns.map V.int)->sp [.ref a] H (λv _=>v=.bl true) λ_ _ _=>False)
  (hCX:∀H e s',CX [] H s₁ (λ_ _ _=>False) e s'->False) :
  codeAny (model P w) callerA (.call (.ref fa) ⟨[.ref a],[]⟩) (λr s'=>r=.ok (.ret (.bool true))/\OldK s₁.heap s'.heap/\s'.os=s₁.os/\AllBare s'.gens) s₁:=by
 have rv:=Sw hi;have lenV:=hi.length;have core:∀H:Hp,Only H->SqL K H a (ns.map V.int)->HOk P w H s₁.heap->(∀b,H b≠none->b=a)->(H a≠none->K.lookup a=none) ->
   codeAny (model P w) callerA (.call (.ref fa) ⟨[.ref a],[]⟩) (λr s'=>r=.ok (.ret (.bool true))/\OldK s₁.heap s'.heap/\s'.os=s₁.os/\AllBare s'.gens) s₁:=by
  intro H hO hS hok hA hK;have mz:∀{b:Addr} {o:Obj},s₁.heap.get? b=some o->H b=none->(Ry s₁.heap H).get? b=some o:=λe n=>yu e n;have noA:∀{b:Addr} {o:Obj} {es:YK} {ep:Nat},s₁.heap.get? b=some o->o.data=.dict es ep->H b=none:=λ{b o es ep} e d=>by
   cases q:H b with
   | none=>rfl
   | some u=>
    have e':b=a:=hA b (by rw[q];simp);subst e';rw[ha] at e;cases e;have d':Data.seq vs.toArray _=Data.dict es ep:=d;cases d'
  have nsK:∀{b:Addr} {m:YB},s₁.heap.Ns b m->(Ry s₁.heap H).Ns b m:=λ{b m} ⟨o,es,ep,e,d,r⟩=>⟨o,es,ep,mz e (noA e d),d,r⟩;have hKb:K.In (Ry s₁.heap H):=λb o e=>mz (KX b o e) (by
   cases q:H b with
   | none=>rfl
   | some u=>
    have e':b=a:=hA b (by rw[q];simp);subst e';rw[hK (by rw[q];simp)] at e;cases e)
  have hM:Mod K mg (Ry s₁.heap H):=⟨hKb,nsK hns,⟨mb,nsK hb,hbb⟩,let ⟨mc,h1,h2⟩:=hlim;⟨mc,nsK h1,h2⟩⟩;have e0:Nq P w K mg (Ry s₁.heap H) callerA [] s₁ H:=⟨rq,hM,λb o e=>A7 e,Nat.le_of_eq (rZ _ _),trivial,λb hb=>absurd (show b∈([]:List Addr) from hb) (by simp),hok,.of_eq hg⟩
  refine Qcz ((F _ hKb (nsK hns)).run callerA [] s₁ H ⟨[.ref a],[]⟩ [.ref a] [.ref a] _ _ hr e0 (hbind s₁ (.ref a)) (.cons rfl .nil) (hsp H hO hS)) λr s' h=>?_;cases r with
  | error e=>exact (hCX H e s' h).elim
  | ok fl=>
   cases fl with
   | next=>exact False.elim h
   | brk=>exact False.elim h
   | cont=>exact False.elim h
   | ret u=>
    obtain⟨v,H',os,bare,un,hok',r',q⟩:=h;have q':v=.bl true:=q;subst q';obtain rfl:u=Value.bool true:=r';refine⟨rq,OldK.of_keep λb o e=>?_,os,bare⟩;cases q:H b with
    | none=>exact un.keep b o e q (by intro z;exact absurd (show b∈([]:List Addr) from z) (by simp)) (by simp)
    | some u=>
     rcases hO b with z |⟨ob,xs,z⟩
     ·rw[q] at z;cases z
     ·have z2:=un.Gu b ob _ z;obtain⟨e1,_⟩:=hok b _ z;obtain⟨e2,_⟩:=hok' b _ z2;rw[e] at e1;cases e1;exact e2
 cases hk:K.lookup a with
 | some o=>
  have e:=KX a o hk;rw[ha] at e;cases e;refine core (λ_=>none) (λ_=>.inl rfl) (.inr ⟨_,vs.toArray,_,hk,rq,rq,rq,by rw[Qbo,lenV];exact hl,by simpa using rv⟩) (λb u z=>by have z':(none:Option HO)=some u:=z;cases z') (λb z=>absurd rfl z) λz=>absurd rfl z
 | none=>
  refine core (λb=>if b=a then some (.frz { cls:=.type "list",data:=.seq vs.toArray } (.lst (ns.map V.int))) else none) (λb=>?_) (.inl (.inr ⟨{ cls:=.type "list",data:=.seq vs.toArray },if_pos rfl⟩)) (λb u z=>?_) (λb z=>?_) λ_=>hk
  ·by_cases hb:b=a
   ·exact .inr ⟨_,_,if_pos hb⟩
   ·exact .inl (if_neg hb)
  ·by_cases hb:b=a
   ·have z':=(if_pos hb).symm.trans z;cases z';subst hb;exact⟨ha,by rw[QbM];exact hl,vs,_,rv,ha⟩
   ·have z':=(if_neg hb).symm.trans z;cases z'
  ·by_cases hb:b=a
   ·exact hb
   ·exact absurd (if_neg hb) z
theorem AA {l:PySem.W.OpenLaw} {n k:Nat} {q:Program} {loose:YF} {XP:(YB)->Heap->Prop} {YP:World->Heap->Prop} {d:DefRec} {K:Params->YD} {CX:World->CXT} {sp:World->Sp} {x:Str}
  (hn:l.most=some n) (hn2:n<=sizeLine) (hdf:d.params.defaults=[]) (hr:Ce k callerA)
  (hY:∀(w:World) (h:Heap),YP w h->(K w.params).In h)
  (F:∀(w:World) (mg:YB) (fa:Addr) (h:Heap),(K w.params).In h->h.Ns mainGlobals mg->mg d.name=some (.ref fa) ->
   ∃fd:FuncData,(∀(s:Shared) (u:Value),BindsTo s fd ⟨[u],[]⟩ [(x,u)]) /\
    ∀base:Heap,(K w.params).In base->base.Ns mainGlobals mg->FZ l.prog w (K w.params) mg base (CX w) k fa fd [x] (sp w))
  (hsp:∀(w:World) (H:Hp) (a:Addr) (ns:List Int),ns.length<=n->Only H->SqL (K w.params) H a (ns.map V.int)->sp w [.ref a] H (λv _=>v=.bl true) λ_ _ _=>False)
  (hCX:∀(w:World) (H:Hp) (s:Shared) (e:Value) (s':Shared),CX w [] H s (λ_ _ _=>False) e s'->False) :
  PySem.W.WalkO q loose XP YP l.row.toRowW d [] (λf vs=>PySem.call f vs):=by
 refine Att.jO hn hdf λw s₀ s₁ mg mb fa o pm cd doc a vs ns G Y ho hd hcd hmg hobj hints hlen hg=>?_;have KX:=hY w _ Y;obtain⟨fd,hb,hF⟩:=F w mg fa _ KX G.T.g hmg;exact wY KX G.T.g G.T.b G.T.builtins G.T.nolimit hg hobj hints (Qcv hlen hn2) hr hF hb (λH hO hS=>hsp w H a ns hlen hO hS) λH e s'=>hCX w H s₁ e s'
def inClass (s:Stmt) (j:Nat):Stmt:=match s with
 | .ClassDef _ _ _ body _ _ _ _ _ _ _=>body.getD j (.Pass ⟨0,0,0,0⟩)
 | _=>.Pass ⟨0,0,0,0⟩
def Ez (s:Stmt):Arguments:=match s with
 | .FunctionDef _ a _ _ _ _ _ _ _ _=>a
 | _=>{ posonlyargs:=[],args:=[],vararg:=none,kwonlyargs:=[],kw_defaults:=[],kwarg:=none,defaults:=[] }
def Dg (s:Stmt):List Stmt:=match s with
 | .FunctionDef _ _ b _ _ _ _ _ _ _=>b
 | _=>[]
def Aj (s:Stmt):Scope:=match s with
 | .FunctionDef _ _ _ _ _ _ sc _ _ _=>sc
 | _=>{ kind:=.function,names:=[],isGenerator:=false,isCoroutine:=false }
abbrev CX0:CXT:=λ_ _ _ _ _ _=>False
abbrev E0:XK:=λ_ _ _=>False
theorem bH {X:Cx}:Passes CX0 X E0:=λ_ _ _ _ _ _ _ h=>h.elim
structure Fun (K:YD) (x qual:Str) (st:Stmt) (f:Addr) (fd:FuncData):Prop where
 ex:∃(oc:Value) (od:Option Addr) (kV doc pm:Value) (an:Option Addr) (cdv ct:Value) (osl:YI),
  fd=fnOf x qual (Ez st) (Dg st) (Aj st) .none kV doc pm an cdv ct/\K.lookup f=some ⟨oc,od,.func fd,osl⟩/\codeIn K cdv qual=true
 kp:keepIn K (.ref f)=true
section
variable {P:Program} {w:World} {K:YD} {mg:YB} {base:Heap}
theorem Fun.ok {x qual:Str} {st:Stmt} {f:Addr} {fd:FuncData} {N ps:YF} {k:Nat} {sp:Sp} (F:Fun K x qual st f fd) (S:Az N ps (Aj st)) (len:∀vs H Q E,sp vs H Q E->vs.length=ps.length)
  (hbody:∀(cdv:Value) (A:Around) (outer:List Env) (s:Shared) (H:Hp) (vs:YG) (Q:VK) (E:XK),Ce k (A.deeper (envOfC qual (Aj st) s.heap.objs.size f cdv))->sp vs H Q E ->
   ∃t,PSs (K4 CX0 P w K mg base N qual (Aj st) f cdv A outer s H E).nox (Dg st) t/\t { nx:=λ_ H'=>Q .non H',rt:=Q } (start N vs) H):FZ P w K mg base CX0 (k+1) f fd ps sp:=by
 obtain⟨oc,od,kV,doc,pm,an,cdv,ct,osl,rfl,lk,hcd⟩:=F.ex;refine bJ lk hcd S len λA outer s H vs Q E hr hsp=>?_;obtain⟨t,h,q⟩:=hbody cdv A outer s H vs Q E hr hsp;exact⟨t,h.nox,q⟩
theorem Fun.binds {x qual:Str} {st:Stmt} {f:Addr} {fd:FuncData} {ps:YF} (F:Fun K x qual st f fd)
  (h:∀(kV doc pm:Value) (an:Option Addr) (cdv ct:Value) (us:YE),us.length=ps.length->bindArgs (fnOf x qual (Ez st) (Dg st) (Aj st) .none kV doc pm an cdv ct) ⟨us,[]⟩=pure (ps.zip us)):Binds K fd ps []:=by
 obtain⟨oc,od,kV,doc,pm,an,cdv,ct,osl,rfl,lk,hcd⟩:=F.ex;exact .all (h kV doc pm an cdv ct)
theorem XJ {x qual:Str} {st:Stmt} {f:Addr} {oc:Value} {od an:Option Addr} {osl:YI} {kV doc pm cdv ct:Value} (l:K.lookup f=some ⟨oc,od,.func (fnOf x qual (Ez st) (Dg st) (Aj st) .none kV doc pm an cdv ct),osl⟩)
  (c:codeIn K cdv qual=true) (k:keepIn K (.ref f)=true):Fun K x qual st f (fnOf x qual (Ez st) (Dg st) (Aj st) .none kV doc pm an cdv ct):=⟨⟨oc,od,kV,doc,pm,an,cdv,ct,osl,rq,l,c⟩,k⟩
end
theorem CK {A:Around} {k:Nat} (hr:Ce k A):A.units+1 < cLine:=Nat.lt_of_le_of_lt (Nat.add_le_add_left (by decide:1<=64) _) hr.units
theorem Am {n:Nat} (h:n<=1000):n < sizeLine:=Nat.lt_of_le_of_lt h (by decide)
section
variable {X:Cx}
theorem pv (i:Nat) {x:Str} {pos:Pos} (hN:X.N[i]?=some x:=by rfl) (hv:Vis X.env.scope x:=by first | exact Or.inl rfl | exact Or.inr (Or.inl rfl) | exact Or.inr (Or.inr rfl)) (hd:(x == ("__debug__":Str))=false:=by decide)
  (hcd:(x == ("__classdict__":Str))=false:=by decide):PE X (.Name x pos) (CC i):=DF hN hv hd hcd
end
theorem Cj {A B:Prop} (h:B):if false=true then A else B:=by
 rw[if_neg Qba];exact h
theorem BK {A B:Prop} (h:A):if true=true then A else B:=by
 rw[if_pos rfl];exact h
theorem Nk {c A B:Prop} [Decidable c] (h1:c->A) (h2:¬c->B):if c then A else B:=by
 by_cases h:c
 ·rw[if_pos h];exact h1 h
 ·rw[if_neg h];exact h2 h
theorem HP {c A B:Prop} [Decidable c] (hc:c) (h:B):if (!decide c)=true then A else B:=by
 rw[Qcd hc];exact Cj h
def Same (H H':Hp):Prop:=∀b o,H b=some o->H' b=some o
theorem Same.refl (H:Hp):Same H H:=λ_ _ h=>h
theorem Same.trans {H H1 H2:Hp} (a:Same H H1) (b:Same H1 H2):Same H H2:=λc o h=>b c o (a c o h)
theorem Same.free {H H':Hp} (e:Same H H') {l:Addr} (h:H' l=Option.none):H l=Option.none:=by
 cases q:H l with
 | none=>rfl
 | some o=>
  rw[e l o q] at h;cases h
theorem Same.seq {K:YD} {H H':Hp} {a:Addr} {xs:YG} (e:Same H H') (h:SqL K H a xs):SqL K H' a xs:=by
 rcases h with (h |⟨o,h⟩) | h
 ·exact .inl (.inl (e _ _ h))
 ·exact .inl (.inr ⟨o,e _ _ h⟩)
 ·exact .inr h
def Gd (env:Env):List (Str×NameKind)->List (Str×Addr)->List (Str×Addr)
 | [],cs=>cs
 | (n,k)::r,cs=>Gd env r (if (k == .free)=true then (match env.cells.lookup n with | some c=>(n,c)::cs | none=>cs) else cs)
theorem iB {env:Env}:∀(names:List (Str×NameKind)) (cs:List (Str×Addr)),(∀p∈names,p.2=.free->∃c,env.cells.lookup p.1=some c) ->
  (forIn names cs λ(p:Str×NameKind) (r:List (Str×Addr))=>(if (p.2 == .free)=true then do
    let c <-cellOf env p.1
    pure (ForInStep.yield ((p.1,c)::r))
   else pure (ForInStep.yield r):Sem (ForInStep (List (Str×Addr)))))=pure (Gd env names cs)
 | [],cs,_=>rfl
 | (n,k)::rest,cs,h=>by
  have ih:=λcs'=>iB rest cs' λp hp=>h p (QaL _ hp);rw[List.forIn_cons];cases hk:(k == NameKind.free) with
  | true=>
   obtain⟨c,hc⟩:=h (n,k) QaZ (eq_of_beq hk);have e1:cellOf env n=pure c:=by unfold cellOf;rw[hc]
   have e2:Gd env ((n,k)::rest) cs=Gd env rest ((n,c)::cs):=by simp only[Gd,hk,if_true,hc]
   rw[e2,<-ih];simp only[hk,if_true,e1,pure_bind]
  | false=>
   have e2:Gd env ((n,k)::rest) cs=Gd env rest cs:=by simp only[Gd,hk,Bool.false_eq_true,if_false]
   rw[e2,<-ih];simp only[hk,Bool.false_eq_true,if_false,pure_bind]
theorem RJ {env:Env} {scope:Scope} (h:∀p∈scope.names,p.2=.free->∃c,env.cells.lookup p.1=some c):closureFor scope env=pure (Gd env scope.names []):=by
 have e:=iB (env:=env) scope.names [] h;unfold closureFor;simp only[bind_pure];exact e
theorem iz {env:Env}:∀(names:List (Str×NameKind)) (cs:List (Str×Addr)),(∀x c,cs.lookup x=some c->env.cells.lookup x=some c) ->
  ∀x c,(Gd env names cs).lookup x=some c->env.cells.lookup x=some c
 | [],cs,h,x,c,e=>h x c e
 | (n,k)::rest,cs,h,x,c,e=>by
  refine iz rest _ (λy d z=>?_) x c e;split at z
  ·split at z
   ·rename_i c' hc';rw[List.lookup_cons] at z;cases q:y == n with
    | true=>rw[q] at z;cases z;rw[eq_of_beq q];exact hc'
    | false=>rw[q] at z;exact h y d z
   ·exact h y d z
  ·exact h y d z
theorem Wt {env:Env}:∀(names:List (Str×NameKind)) (cs:List (Str×Addr)) (x:Str),((cs.lookup x).isSome=true\/((x,NameKind.free)∈names/\∃c,env.cells.lookup x=some c)) ->
  ∃c,(Gd env names cs).lookup x=some c
 | [],cs,x,h=>by
  rcases h with h |⟨h,_⟩
  ·exact Option.isSome_iff_exists.mp h
  ·cases h
 | (n,k)::rest,cs,x,h=>by
  refine Wt rest _ x ?_;have grow:(cs.lookup x).isSome=true->(List.lookup x (if (k == .free)=true then (match env.cells.lookup n with | some c=>(n,c)::cs | none=>cs) else cs)).isSome=true:=λz=>by
   split
   ·split
    ·rw[List.lookup_cons];cases x == n with
     | true=>rfl
     | false=>exact z
    ·exact z
   ·exact z
  rcases h with h |⟨h,c,hc⟩
  ·exact .inl (grow h)
  ·rcases Qcj.mp h with z | z
   ·cases z;refine .inl ?_;simp[hc,List.lookup_cons]
   ·exact .inr ⟨z,c,hc⟩
def Ow (env:Env) (n:Str) (k:NameKind):NameKind:=if (k == .free&&env.scope.kind == .function&&env.kindOf n == some .cell)=true then .cell else k
theorem Xu (env:Env):∀(l:List (Str×NameKind)) (x:Str),
  (l.map λ(n,k)=>if (k == NameKind.free&&env.scope.kind == .function&&env.kindOf n == some .cell) then (n,NameKind.cell) else (n,k)).lookup x=(l.lookup x).map (Ow env x)
 | [],_=>rfl
 | (n,k)::r,x=>by
  have ih:=Xu env r x;have e:(if (k == NameKind.free&&env.scope.kind == .function&&env.kindOf n == some .cell)=true then (n,NameKind.cell) else (n,k))=(n,Ow env n k):=by
   unfold Ow;split <;> rfl
  rw[Qck];show List.lookup x ((if (k == NameKind.free&&env.scope.kind == .function&&env.kindOf n == some .cell)=true then (n,NameKind.cell) else (n,k))::_)=_
  rw[e,List.lookup_cons,List.lookup_cons];cases q:x == n with
  | true=>rw[eq_of_beq q];rfl
  | false=>exact ih
theorem vL {env:Env} {n:Str} {k:NameKind} (h:Ow env n k=.cell\/Ow env n k=.free):k=.cell\/k=.free:=by
 unfold Ow at h;split at h
 ·rename_i q;simp only[QbI] at q;exact .inr (eq_of_beq q.1.1)
 ·exact h
theorem uq {prog:Program} {w:World} {A:Around} {R:Result->Shared->Prop} {s:Shared} {elt target iter:Expr} {ifs:YJ} {scope:Scope} {pos:Pos} {it acc:Value} {env:Env} (J:Nat->Shared->Prop)
  (turn:∀n s,J n s->wpAny (model prog w) A (pyNext it) (λr s1=>match r with
   | none=>R (.ok .next) s1
   | some v=>wpAny (model prog w) A (letOwnedTupleGo target it v) (λ_ s2=>wpAny (model prog w) A (assign target env v) (λ_ s3=>
     wpAny (model prog w) A (forIn ifs true λc r=>if r=true then do let ok <-isTrue c env (eval c env);pure (ForInStep.yield ok) else pure (ForInStep.yield r)) (λok s4=>
      if ok=true then wpAny (model prog w) A (eval elt env) (λx s5=>wpAny (model prog w) A (call (.builtin "list.append") [acc,x]) (λ_ s6=>∃m,m < n/\J m s6) (λ_ _=>False) s5) (λ_ _=>False) s4
      else ∃m,m < n/\J m s4) (λ_ _=>False) s3) (λ_ _=>False) s2) (λ_ _=>False) s1) (λ_ _=>False) s)
  (n:Nat) (h:J n s):codeAny (model prog w) A (.compLoop (.ListComp elt [⟨target,iter,ifs,0⟩] scope pos) 0 it acc env) R s:=by
 refine codeAny_loop rfl J (λk s' hk=>?_) n h;show wpAny _ A (Sem.onRaise (compTurn (.ListComp elt [⟨target,iter,ifs,0⟩] scope pos) 0 it acc env) (λx=>do noteFrame x env;theTreesLotGoes x)) _ _ s'
 refine wpAny_noted ?_;rw[compTurn_list];refine QcJ (Qcq (QcJ (QcL (turn k s' hk) (λr s1 q1=>?_) λ_ _ f=>f.elim)));cases r with
 | none=>exact QcK q1
 | some v=>
  refine QcJ (QcL q1 (λ_ s2 q2=>QcJ (QcL q2 (λ_ s3 q3=>QcJ (QcL q3 (λok s4 q4=>?_) λ_ _ f=>f.elim)) λ_ _ f=>f.elim)) λ_ _ f=>f.elim);cases ok with
  | false=>exact QcK ⟨rfl,q4⟩
  | true=>exact QcJ (QcJ (QcL q4 (λx s5 q5=>QcJ (QcL q5 (λ_ s6 q6=>QcK (QcK ⟨rfl,q6⟩)) λ_ _ f=>f.elim)) λ_ _ f=>f.elim))
def cxC (X:Cx) (N':YF) (scope:Scope) (s3:Shared) (H3:Hp) (fp:List Addr) (pn:YC):Cx where
 prog:=X.prog
 w:=X.w
 K:=X.K
 mg:=X.mg
 base:=X.base
 A:=X.A
 N:=N'
 s₀:=s3
 H₀:=H3
 env:=compEnvC scope (Gd X.env scope.names []) s3.heap.objs.size X.env
 outer:=X.stack
 stack:=X.stack
 ex:=fp
 fn:=λ_=>false
 calm:=X.calm
 pn:=pn
 xe:=λ_ _=>False
structure Bk (X:Cx) (N':YF) (src:List (Option Nat)) (sc:Scope):Prop where
 kind:sc.kind=.function
 Jw:∀y∈sc.names,y.2≠.cell
 loc:∀y∈sc.names,y.2=.local->sc.names.lookup y.1=some .local
 fv:∀y∈sc.names,y.2=.free->X.env.kindOf y.1=some .cell\/X.env.kindOf y.1=some .free
 len:src.length=N'.length
 src:∀(i:Nat) (x:Str) (j:Nat),N'[i]?=some x->src[i]?=some (some j)->X.N[j]?=some x/\sc.names.lookup x=some .free
def Ks (src:List (Option Nat)) (U : St):St:=src.map λo=>match o with | none=>none | some j=>(U[j]?).join
def PF (X:Cx) (ifs:YJ) (t:TT):Prop:=
 ∀(jb:YC) (s:Shared) (U : St) (H:Hp) (Q:Bool->Hp->Prop),Inv X jb U H s->t U H Q ->
  wpAny (model X.prog X.w) X.A (forIn ifs true λc r=>if r=true then do let ok <-isTrue c X.env (eval c X.env);pure (ForInStep.yield ok) else pure (ForInStep.yield r)) (TP X jb U Q) X.xe s
theorem CZ {X:Cx}:PF X [] (λ_ H Q=>Q true H):=λ_ _ _ H _ I h=>wpAny_tests_nil ⟨H,I,h⟩
theorem G8 {X:Cx} {c:Expr} {t:TT} (hc:PT X c t):PF X [c] t:=λjb s U H Q I h=>wpAny_tests_one (hc jb s U H Q I h)
theorem Un.ahead {fs ex:List Addr} {H H':Hp} {h h1 h':Heap} (u:Un fs ex H H' h h1) (k:∀b o,b < h.objs.size->h1.get? b=some o->h'.get? b=some o):Un fs ex H H' h h' where
 keep:=λb o e n hb hx=>k b o (Qct e) (u.keep b o e n hb hx)
 slot:=λb o e n hb hx=>by
  obtain⟨sl,q⟩:=u.slot b o e n hb hx;exact⟨sl,k b _ (Qct e) q⟩
 free:=u.free
 there:=λb o e hx=>by
  obtain⟨o',q⟩:=u.there b o e hx;exact⟨o',k b _ (Qct e) q⟩
 tups:=u.tups
 Gu:=u.Gu
 G3:=u.G3
section
variable {X:Cx} {N':YF} {src:List (Option Nat)} {sc:Scope} {jb:YC} {U : St} {H:Hp} {s3:Shared} {fp:List Addr} {h1:Heap} {tk:Nat}
theorem Wq (S:Bk X N' src sc) (I:Inv X jb U H s3) (hf:∀b∈fp,Ho X jb H b) (ht:∀b∈fp,b < s3.heap.objs.size)
  (ns:h1.Ns s3.heap.objs.size λ_=>none) (kp:∀b o,s3.heap.get? b=some o->h1.get? b=some o) :
  Inv (cxC X N' sc s3 H fp (X.pn++jb)) [] (Ks src U) H { s3 with heap:=h1,toks:=tk }:=by
 have hcl:∀x c,(Gd X.env sc.names []).lookup x=some c->X.env.cells.lookup x=some c:=iz sc.names [] λx c e=>by cases e
 have old:∀x c,(Gd X.env sc.names []).lookup x=some c->∃o,s3.heap.get? c=some o:=λx c e=>by
  obtain⟨v,o,ho,_⟩:=I.cell x c (hcl x c e);exact⟨o,ho⟩
 have fvh:∀x,(x,NameKind.free)∈sc.names->∃c,X.env.cells.lookup x=some c:=λx hx=>I.ok.has x (S.fv _ hx rfl);have C5:∀b,b≠X.env.locals->b∉X.fs->b∉frs X.stack:=λb h1 h2 hb=>(Qcj.mp (I.WR b hb)).elim h1 h2;have kindOf_eq:∀x,(compEnvC sc (Gd X.env sc.names []) s3.heap.objs.size X.env).kindOf x=(sc.names.lookup x).map (Ow X.env x):=λx=>Xu X.env sc.names x;refine⟨⟨I.ok.mod,S.kind,I.ok.glob,I.ok.blt,QcD _,λx y c e1 e2=>I.ok.inj x y c (hcl x c e1) (hcl y c e2),λx hx=>?_,λx c hf=>absurd hf Qba,I.ok.hd,I.ok.frames,.inl rfl,λb hb=>?_,I.bs,Qcv I.ok.bsz I.sz,
  λb o e hb=>?_,λb hb=>?_,I.stack,I.Yb⟩,rq,I.bare,Un.kept kp,⟨_,ns,λi x v e1 e2 e3=>?_⟩,λx c e=>?_,I.hok.fresh (QcD _),λx c e=>I.FP x c (hcl x c e),λp hp=>?_,I.hok.kept kp,?_⟩
 ·
  have hx':(sc.names.lookup x).map (Ow X.env x)=some .cell\/(sc.names.lookup x).map (Ow X.env x)=some .free:=by
   rw[<-kindOf_eq x];exact hx
  cases q:sc.names.lookup x with
  | none=>rw[q] at hx';rcases hx' with z | z <;> cases z
  | some k=>
   rw[q] at hx';have hk:k=.cell\/k=.free:=vL (env:=X.env) (n:=x) (hx'.imp (λz=>QbS z) λz=>QbS z);have hm:=QaU q;rcases hk with rfl | rfl
   ·exact absurd rfl (S.Jw _ hm)
   ·exact Wt sc.names [] x (.inr ⟨hm,fvh x hm⟩)
 ·
  obtain⟨f0,f1,f2,f3,f4,f5⟩:=hf b hb;exact⟨Qcu (ht b hb),λx c e=>f4 x c (hcl x c e)⟩
 ·
  obtain⟨f0,f1,f2,f3,f4,f5⟩:=hf b hb;rcases f3 with z | z
  ·exact I.ok.O9 b o e z
  ·exact absurd (Qbd (Qct e) (Qcv I.ok.bsz z)) (Qcm _)
 ·
  obtain⟨f0,f1,f2,f3,f4,f5⟩:=hf b hb;exact C5 b f1 f2
 ·
  have e2':(Ks src U)[i]?=some (some v):=e2;unfold Ks at e2';rw[Qbq] at e2';cases q:src[i]? with
  | none=>rw[q] at e2';cases e2'
  | some oj=>
   rw[q] at e2';cases oj with
   | none=>cases e2'
   | some j=>
    have e4:(U[j]?).join=some v:=QbS e2';have e5:U[j]?=some (some v):=by
     cases r:U[j]? with
     | none=>rw[r] at e4;cases e4
     | some z=>rw[r] at e4;cases z with
      | none=>cases e4
      | some y=>cases e4;rfl
    obtain⟨hN,hfr⟩:=S.src i x j e1 q;have hm:=QaU hfr;have kx:=S.fv _ hm rfl;obtain⟨m,hn,hl⟩:=I.loc;obtain⟨u,r,l⟩:=hl j x v hN e5 (.inr kx);refine⟨u,r,?_⟩;rcases l with⟨k1,_⟩|⟨_,c,hc,hcell⟩
    ·rcases kx with z | z <;> (rw[z] at k1;cases k1)
    ·obtain⟨c',hc'⟩:=Wt (env:=X.env) sc.names [] x (.inr ⟨hm,c,hc⟩);have e6:c'=c:=by
      have:=hcl x c' hc';rw[hc] at this;exact (QbS this).symm
     subst e6;refine .inr ⟨?_,c',hc',?_⟩
     ·have:(compEnvC sc (Gd X.env sc.names []) s3.heap.objs.size X.env).kindOf x=some (Ow X.env x .free):=by rw[kindOf_eq x,hfr];rfl
      show (compEnvC sc (Gd X.env sc.names []) s3.heap.objs.size X.env).kindOf x=some .cell\/(compEnvC sc (Gd X.env sc.names []) s3.heap.objs.size X.env).kindOf x=some .free;rw[this];unfold Ow;split
      ·exact .inl rfl
      ·exact .inr rfl
     ·obtain⟨o,ho,hd⟩:=hcell;exact⟨o,kp _ o ho,hd⟩
 ·
  obtain⟨v,o,ho,hd⟩:=I.cell x c (hcl x c e);exact⟨v,o,kp _ o ho,hd⟩
 ·
  have hp':p∈X.pn++jb:=(QbO.mp hp).elim id λz=>by cases z
  obtain⟨a1,a2,a3,a4,a5⟩:=I.pin p hp';exact⟨kp _ _ a1,a2,Qcu (Qct a1),C5 p.1 a3 a4,a5⟩
 ·show (Ks src U).length=N'.length;unfold Ks;rw[QbM];exact S.len
theorem T6 {s1:Shared} {σ':St} {H':Hp} {h':Heap} (I:Inv X jb U H s3) (hf:∀b∈fp,Ho X jb H b) (I':Inv (cxC X N' sc s3 H fp (X.pn++jb)) [] σ' H' s1)
  (sb:Heap.SameBut s3.heap.objs.size s1.heap h'):Inv X jb U H' { s1 with heap:=h' }:=by
 have fr:H' s3.heap.objs.size=none:=I'.free;refine I.call' (s':={ s1 with heap:=h' }) (ch:=fp) I'.os ?_ ?_ I'.bare λb hb=>?_
 ·exact Un.ahead (h:=s3.heap) (h1:=s1.heap) I'.base λb o hb e=>sb.extBut b o (Qcu hb) e
 ·exact λb u e=>(I'.hok b u e).stay (λc v hc q=>sb.extBut c v (by
   intro z;rcases hc with y | y
   ·rw[<-y,z,fr] at e;cases e
   ·rw[z,fr] at y;cases y) q) (λ_ q=>q) λ_ _ q=>q
 ·obtain⟨f0,f1,f2,f3,f4,f5⟩:=hf b hb;exact⟨f3,f1,f4,λp hp=>f5 p hp⟩
end
@[irreducible] def Gs (J:It) (g:TG) (tt:TT) (te:TE) (Q:VK) (σ0:St) (H0:Hp) (l:Addr):Prop:=∃W:Nat->YN,(∃m,W 0 m σ0 H0) /\
 ∀i m σ' H',W i m σ' H'->(J.stop i H'/\Q (.ref l) H')\/(J.go i H'/\∃N:YO,(∀ σ3 H3,N σ3 H3->∃m',m' < m/\W (i+1) m' σ3 H3)/\∀x H2,J.yld i H' x H2->g x σ' H2 fun σ3 H3=>tt σ3 H3 λb H4=>
  if b=true then te σ3 H4 λy H5=>∃xs,H5 l=some (.lst xs)/\xs.length < sizeLine/\N σ3 (upd H5 l (.lst (xs++[y]))) else N σ3 H4)
def mR (wi:TI) (src:List (Option Nat)) (g:TG) (tt:TT) (te:TE):TE:=fun U H Q=>wi U H λJ H1=>∀l,H1 l=none->Gs J g tt te Q (Ks src U) (upd H1 l (.lst [])) l
theorem aj {X:Cx} {N':YF} {src:List (Option Nat)} {sc:Scope} {elt tg iter:Expr} {ifs:YJ} {pos pos':Pos} {wi:TI} {g:TG} {tt:TT} {te:TE} {use:Option (Value->Sem Unit)} {R:YA} (hc:X.calm=true) (S:Bk X N' src sc)
  (hi:PI X tg iter wi) (hg:∀s3 H3 fp pn,PG (cxC X N' sc s3 H3 fp pn) tg g) (ht:∀s3 H3 fp pn,PF (cxC X N' sc s3 H3 fp pn) ifs tt) (he:∀s3 H3 fp pn,PE (cxC X N' sc s3 H3 fp pn) elt te)
  (hs:∀x,foldedSetIterable iter X.env x=pure x) {jb:YC} {s:Shared} {U : St} {H:Hp} {Q:VK} (I:Inv X jb U H s) (h:mR wi src g tt te U H Q)
  (fin:∀s3 H3 fp σ4 H4 s5 l,Inv X jb U H3 s3->(∀b∈fp,Ho X jb H3 b)->Inv (cxC X N' sc s3 H3 fp (X.pn++jb)) [] σ4 H4 s5->Q (.ref l) H4 ->
   compPost (model X.prog X.w) X.A X.xe use R (.ref l) s3.heap.objs.size (.ok .next) s5) :
  wpAny (model X.prog X.w) X.A (comprehension (.ListComp elt [⟨tg,iter,ifs,0⟩] sc pos) sc X.env pos' (newList []) false (eval iter X.env) use) R X.xe s:=by
 refine wpAny_comprehension_free (use:=use) (cl:=Gd X.env sc.names []) rfl hs (RJ λp hp e=>I.ok.has p.1 (S.fv p hp e)) S.kind S.loc ?_;refine thn (hi jb s U H _ I h) λv s1 h1=>thn h1 λitv s2 h2=>?_;obtain⟨it,fp,tn,J,H2,rfl,I2,T,st2,f2,q⟩:=h2;have q':=q s2.heap.objs.size (I2.hok.fresh (QcD _));unfold Gs at q';obtain⟨W,⟨m0,w0⟩,turn⟩:=q';refine Qbs (wpAny_newFunctionEnv S.Jw (by intro y hy;simp at hy) (λha hns hsb=>?_) S.kind);have I3:Inv X jb U (upd H2 s2.heap.objs.size (.lst [])) { s2 with heap:=s2.heap.push { cls:=.type "list",dict:=none,data:=.seq ([]:YE).toArray } }:=
  I2.laid (t':=s2.toks) (λb u e=>Qaz _ e) (QcD _) ⟨QcE _,[],0,.nil,QaP _ rfl⟩
 have hfl:∀b∈fp,b < s2.heap.objs.size:=λb hb=>by
  obtain⟨o,e,_⟩:=T.obj 0 _ st2 b hb;exact Qct e
 have f3:∀b∈fp,Ho X jb (upd H2 s2.heap.objs.size (.lst [])) b:=λb hb=>⟨by rw[Aq (Qcu (hfl b hb))];exact (f2 b hb).1,(f2 b hb).2⟩;generalize hs3:({ s2 with heap:=s2.heap.push { cls:=.type "list",dict:=none,data:=.seq ([]:YE).toArray } }:Shared)=s3 at *;have hsz:s2.heap.objs.size < s3.heap.objs.size:=by rw[<-hs3];show s2.heap.objs.size < (s2.heap.push _).objs.size;rw[Qce];exact QbH _
 have kp:∀b o,s3.heap.get? b=some o->ha.get? b=some o:=λb o e=>hsb.extBut b o (Qcu (Qct e)) (Qaz _ e);have st3:tn 0 ha:=T.keep 0 _ _ st2 λb hb o e=>kp b o (by rw[<-hs3];exact Qaz _ e);have I4:Inv (cxC X N' sc s3 (upd H2 s2.heap.objs.size (.lst [])) fp (X.pn++jb)) [] (Ks src U) (upd H2 s2.heap.objs.size (.lst [])) { s3 with heap:=ha,toks:=s3.toks+([]:List (Str×Value)).length }:=
  Wq S I3 f3 (λb hb=>Nat.lt_trans (hfl b hb) hsz) hns kp
 have loop:codeAny (model X.prog X.w) X.A (.compLoop (.ListComp elt [⟨tg,iter,ifs,0⟩] sc pos) 0 (.ref it) (.ref s2.heap.objs.size) (compEnvC sc (Gd X.env sc.names []) s3.heap.objs.size X.env))
   (compPost (model X.prog X.w) X.A X.xe use R (.ref s2.heap.objs.size) s3.heap.objs.size) { s3 with heap:=ha,toks:=s3.toks+([]:List (Str×Value)).length }:=by
  refine uq (λn s'=>∃i σ' H',Inv (cxC X N' sc s3 (upd H2 s2.heap.objs.size (.lst [])) fp (X.pn++jb)) [] σ' H' s'/\tn i s'.heap/\(∀b∈fp,H' b=none)/\W i n σ' H') ?_ m0 ⟨0,_,_,I4,st3,λb hb=>(f3 b hb).1,w0⟩;rintro n s4 ⟨i,σ4,H4,J4,st4,fr4,w4⟩;have stat:∀{H':Hp},(∀b∈fp,H' b=none)->∀b∈fp,Ho (cxC X N' sc s3 (upd H2 s2.heap.objs.size (.lst [])) fp (X.pn++jb)) [] H' b:=λhn b hb=>
   ⟨hn b hb,(I4.ok.exf b hb).1,I4.ok.Ly b hb,.inl hb,λx c e=>(I4.ok.exf b hb).2 x c e,λp hp=>(f3 b hb).2.2.2.2.2 p ((QbO.mp hp).elim id λz=>by cases z)⟩
  rcases turn i n σ4 H4 w4 with⟨stop,qn⟩|⟨go,N,hN,step⟩
  ·refine thn (T.done (cxC X N' sc s3 (upd H2 s2.heap.objs.size (.lst [])) fp (X.pn++jb)) rfl rfl rfl hc i [] s4 σ4 H4 _ J4 (stat fr4) st4 stop) λr s5 zz=>?_;obtain⟨hr,J5⟩:=zz;subst hr;exact fin s3 _ fp σ4 H4 s5 _ I3 f3 J5 qn
  ·refine thn (T.item (cxC X N' sc s3 (upd H2 s2.heap.objs.size (.lst [])) fp (X.pn++jb)) rfl rfl rfl hc i [] s4 σ4 H4 _ J4 (stat fr4) st4 go) λr s5 zz=>?_;obtain⟨u,hr,h5⟩:=zz;subst hr;refine thn h5 λ_ s6 zz=>?_;obtain⟨x,H6,J6,r6,y6,st6,fr6⟩:=zz;have J6':=J6.pinned (stat fr6) (T.obj _ _ st6);have back:∀{pl:YC} {σ7:St} {H7:Hp} {s7:Shared},Inv (cxC X N' sc s3 (upd H2 s2.heap.objs.size (.lst [])) fp (X.pn++jb)) ([]++OD fp s6.heap) σ7 H7 s7->N σ7 H7 ->
     ∃m',m' < n/\∃i σ' H',Inv (cxC X N' sc s3 (upd H2 s2.heap.objs.size (.lst [])) fp (X.pn++jb)) [] σ' H' s7/\tn i s7.heap/\(∀b∈fp,H' b=none)/\W i m' σ' H':=λ{pl σ7 H7 s7} J7 w7=>by
    obtain⟨m',hm,w7⟩:=hN _ _ w7;have pinned:∀b∈fp,∀o,s6.heap.get? b=some o->s7.heap.get? b=some o/\H7 b=none:=λb hb o e=>by
     have:=J7.pin (b,o) (QaE _ (QaE _ (KY hb e)));exact⟨this.1,this.2.1⟩
    refine⟨m',hm,i+1,σ7,H7,J7.Ja,T.keep _ _ _ st6 λb hb o e=>(pinned b hb o e).1,λb hb=>?_,w7⟩;obtain⟨o,e,_⟩:=T.obj _ _ st6 b hb;exact (pinned b hb o e).2
   refine thn (hg s3 _ fp _ _ s6 σ4 H6 x u _ J6' r6 (step x H6 y6)) λ_ s7 zz=>?_;obtain⟨σ7,H7,J7,q7⟩:=zz;refine thn (ht s3 _ fp _ _ s7 σ7 H7 _ J7 q7) λok s8 zz=>?_;obtain⟨H8,J8,q8⟩:=zz;cases ok with
   | false=>
    rw[if_neg Qba] at q8 ⊢;exact back (pl:=[]) J8 q8
   | true=>
    rw[if_pos rfl] at q8 ⊢;refine thn (he s3 _ fp _ _ s8 σ7 H8 _ J8 q8) λy s9 zz=>?_;obtain⟨yv,H9,J9,r9,xs,hl9,hz9,q9⟩:=zz;refine thn (BX _ s9 σ7 H9 (.ref s2.heap.objs.size) [yv] (.ref s2.heap.objs.size) [y] (λ_ H'=>N σ7 H') J9 rfl (.cons r9 .nil) ⟨_,xs,yv,rq,rq,hl9,hz9,q9⟩) λ_ s10 zz=>?_;obtain⟨_,H10,J10,_,q10⟩:=zz;exact back (pl:=[]) J10 q10
 exact codeAny_compStart_list loop (T.self X.A 0 _ _ _ st3 loop)
theorem Cw {X:Cx} {N':YF} {src:List (Option Nat)} {sc:Scope} {elt tg iter:Expr} {ifs:YJ} {pos:Pos} {wi:TI} {g:TG} {tt:TT} {te:TE} (hc:X.calm=true) (S:Bk X N' src sc)
  (hi:PI X tg iter wi) (hg:∀s3 H3 fp pn,PG (cxC X N' sc s3 H3 fp pn) tg g) (ht:∀s3 H3 fp pn,PF (cxC X N' sc s3 H3 fp pn) ifs tt) (he:∀s3 H3 fp pn,PE (cxC X N' sc s3 H3 fp pn) elt te)
  (hs:∀x,foldedSetIterable iter X.env x=pure x:=by intro _;rfl):PE X (.ListComp elt [⟨tg,iter,ifs,0⟩] sc pos) (mR wi src g tt te):=by
 intro jb s U H Q I h;rw[eval_ListComp];refine aj (use:=none) hc S hi hg ht he hs I h λs3 H3 fp σ4 H4 s5 l I3 f3 J5 q=>?_;obtain⟨m,hn,_⟩:=J5.loc;exact⟨m,hn,λh' sb=>⟨.ref l,H4,T6 I3 f3 J5 sb,rq,q⟩⟩
theorem YZ {X:Cx} {N':YF} {src:List (Option Nat)} {sc:Scope} {elt tg iter:Expr} {ifs:YJ} {pos spos px:Pos} {wi:TI} {g:TG} {tt:TT} {te:TE} {i:Nat} {x:Str} (hN:X.N.Nodup) (hi0:X.N[i]?=some x) (hx:Loc X.env.scope x) (hc:X.calm=true) (S:Bk X N' src sc)
  (hi:PI X tg iter wi) (hg:∀s3 H3 fp pn,PG (cxC X N' sc s3 H3 fp pn) tg g) (ht:∀s3 H3 fp pn,PF (cxC X N' sc s3 H3 fp pn) ifs tt) (he:∀s3 H3 fp pn,PE (cxC X N' sc s3 H3 fp pn) elt te)
  (hsw:swapsWith (.ListComp elt [⟨tg,iter,ifs,0⟩] sc pos) (some (.Name x px)) spos.line X.env=pure true:=by rfl) (hs:∀x,foldedSetIterable iter X.env x=pure x:=by intro _;rfl)
  (hf:X.fn x=true\/X.env.scope.names.lookup x=some .local:=by first | exact .inl rfl | exact .inr rfl | assumption) :
  PS X (.Assign [.Name x px] (.ListComp elt [⟨tg,iter,ifs,0⟩] sc pos) spos) (bY (mR wi src g tt te) (Eh i)):=by
 intro jb s U H D I h;rw[exec_Assign_Name_used _ _ _ _ hsw];refine QcJ (Qcq (QcJ ?_));show wpAny _ X.A (do let _ <-comprehension (.ListComp elt [⟨tg,iter,ifs,0⟩] sc pos) sc X.env _ (newList []) false (eval iter X.env) (some (assign (.Name x px) X.env))) _ _ s
 refine QcJ (thn (aj (R:=λ_ s'=>SP X jb D .next s') hc S hi hg ht he hs I h λs3 H3 fp σ4 H4 s5 l I3 f3 J5 q=>?_) λ_ s' hq=>QcK (QcK hq));obtain⟨m,⟨oC,es,ep,hoC,r⟩,_⟩:=J5.loc;have I6:Inv X jb U H4 { s5 with heap:=s5.heap }:=T6 I3 f3 J5 (Heap.SameBut.refl _ _);have hCn:H4 s3.heap.objs.size=none:=J5.free;have neL:s3.heap.objs.size≠X.env.locals:=Qcy I3.lt;have wO:∀v,oC.data≠.cell v:=λv z=>by rw[r.1] at z;cases z
 have I7:Inv X (jb++[(s3.heap.objs.size,oC)]) U H4 s5:=I6.Uw λp hp=>(QbO.mp hp).elim (λz=>I6.pin p (QaE _ z)) λz=>by
  cases Qbf.mp z;exact⟨hoC,hCn,neL,I3.wK (QcD _),wO⟩
 show wpAny _ X.A (assign (.Name x px) X.env (.ref l)) _ _ s5;refine wpAny_assign_Name (Lb (v:=.ref l) I7 hN hi0 hx rfl (λs6 I8=>?_) hf);have k8:=(I8.pin (s3.heap.objs.size,oC) (QaE _ (QaE _ (Qbf.mpr rfl)))).1;refine⟨m,⟨oC,es,ep,k8,r⟩,λh' sb=>⟨_,H4,?_,q⟩⟩;have I9:=I8.Ja;refine I9.turned (t':=s6.toks) (λb o hb e=>sb.extBut b o hb e) hCn neL (.inr I3.sz) (λy c e z=>?_) (λp hp z=>?_)
 ·obtain⟨v,o,ho,_⟩:=I3.cell y c e;exact absurd (Qct ho) (by rw[z];exact Qcm _)
 ·have:=(I3.pin p hp).1;exact absurd (Qct this) (by rw[z];exact Qcm _)
theorem Bk.of {X:Cx} {N':YF} {src:List (Option Nat)} {sc:Scope} (fsc:Scope) (N:YF) (hX:X.env.scope=fsc) (hN:X.N=N) (kind:sc.kind=.function) (Jw:∀y∈sc.names,y.2≠.cell) (loc:∀y∈sc.names,y.2=.local->sc.names.lookup y.1=some .local)
  (fv:∀y∈sc.names,y.2=.free->fsc.names.lookup y.1=some .cell) (len:src.length=N'.length)
  (sr:((N'.zip src).all λp=>match p.2 with | none=>true | some j=>decide (N[j]?=some p.1)&&decide (sc.names.lookup p.1=some .free))=true):Bk X N' src sc where
 kind:=kind
 Jw:=Jw
 loc:=loc
 fv:=λy hy e=>.inl (by show X.env.scope.names.lookup y.1=some .cell;rw[hX];exact fv y hy e)
 len:=len
 src:=λi x j e1 e2=>by
  rw[List.all_eq_true] at sr;have hm:(x,some j)∈N'.zip src:=by
   refine QaK (i:=i) ?_;rw[List.getElem?_zip_eq_some];exact⟨e1,e2⟩
  have:=sr _ hm;simp only[QbI,decide_eq_true_eq] at this;rw[hN];exact this
section
variable {X:Cx}
@[irreducible] def QB (K:YD):YG->Hp->VK->Prop:=λxs H Q=>∃x T t b,xs=[x,.ty T]/\Lz K H x t/\kitOne K t (.type T)=some b/\Q (.bl b) H
theorem RK:DW X (.builtin "isinstance") (QB X.K):=by
 intro jb s U H xs us Q I r h;unfold QB at h;obtain⟨x,T,t,b,rfl,ty,e,q⟩:=h;obtain⟨u,w',rfl,rx,rt⟩:=vals2 r;cases rt;exact rP I rx ty e λtk=>⟨.bl b,H,I.tok tk,rq,q⟩
theorem jE {K:YD}:kitOne K (.type "int") (.type "int")=some true:=by rfl
theorem f9 {K:YD}:kitOne K (.type "int") (.type "bool")=some false:=by rfl
theorem gk {K:YD}:kitOne K (.type "bool") (.type "int")=some true:=by rfl
theorem aY {K:YD}:kitOne K (.type "bool") (.type "bool")=some true:=by rfl
theorem fY {K:YD}:kitOne K (.type "NoneType") (.type "int")=some false:=by rfl
theorem jD {K:YD}:kitOne K (.type "str") (.type "int")=some false:=by rfl
theorem fZ {K:YD}:kitOne K (.type "list") (.type "int")=some false:=by rfl
theorem aV {K:YD}:kitOne K (.type "tuple") (.type "int")=some false:=by rfl
theorem Zb {K:YD}:kitOne K (.type "NoneType") (.type "tuple")=some false:=by rfl
theorem Zd {K:YD}:kitOne K (.type "bool") (.type "tuple")=some false:=by rfl
theorem aX {K:YD}:kitOne K (.type "int") (.type "tuple")=some false:=by rfl
theorem aW {K:YD}:kitOne K (.type "str") (.type "tuple")=some false:=by rfl
theorem Zc {K:YD}:kitOne K (.type "list") (.type "tuple")=some false:=by rfl
theorem Xw {K:YD}:kitOne K (.type "tuple") (.type "tuple")=some true:=by rfl
def Kn (H:Hp):V->Prop
 | .non=>True
 | .bl _=>True
 | .int _=>True
 | .str _=>True
 | .ref a=>(∃xs,H a=some (.lst xs))\/∃xs,H a=some (.tup xs)
 | _=>False
def isI:V->Bool
 | .int _=>true
 | .bl _=>true
 | _=>false
def isB:V->Bool
 | .bl _=>true
 | _=>false
def isW:V->Bool
 | .int _=>true
 | _=>false
def Iu (H:Hp):V->Option (YG)
 | .ref a=>match H a with
  | some (.tup xs)=>some xs
  | _=>none
 | _=>none
theorem Cr {H:Hp} {a:Addr} {xs:YG} (h:H a=some (.tup xs)):Iu H (.ref a)=some xs:=by
 show (match H a with | some (.tup xs)=>some xs | _=>none)=some xs
 rw[h]
theorem PB {H:Hp} {a:Addr} {xs:YG} (h:H a=some (.lst xs)):Iu H (.ref a)=none:=by
 show (match H a with | some (.tup xs)=>some xs | _=>none)=none
 rw[h]
theorem fK {H:Hp} {v:V} {xs:YG} (h:Iu H v=some xs):∃a,v=.ref a/\H a=some (.tup xs):=by
 cases v with
 | ref a=>
  refine⟨a,rq,?_⟩;have h':(match H a with | some (.tup xs)=>some xs | _=>none)=some xs:=h
  split at h'
  ·rename_i e;cases h';exact e
  ·cases h'
 | _=>cases h
theorem Kn.same {H H':Hp} {v:V} (s:Same H H') (k:Kn H v):Kn H' v:=by
 cases v with
 | ref a=>exact k.imp (λ⟨xs,e⟩=>⟨xs,s _ _ e⟩) λ⟨xs,e⟩=>⟨xs,s _ _ e⟩
 | _=>exact k
theorem WQ {H H':Hp} {v:V} (s:Same H H') (k:Kn H v):Iu H' v=Iu H v:=by
 cases v with
 | ref a=>
  rcases k with⟨xs,e⟩|⟨xs,e⟩
  ·rw[PB e,PB (s _ _ e)]
  ·rw[Cr e,Cr (s _ _ e)]
 | _=>rfl
theorem BM {K:YD} {H:Hp} {x:V} {Q:VK} (k:Kn H x) (q:Q (.bl (isI x)) H):QB K [x,.ty "int"] H Q:=by
 unfold QB;cases x with
 | non=>exact⟨_,_,_,_,rfl,.non,fY,q⟩
 | bl b=>exact⟨_,_,_,_,rfl,.bl b,gk,q⟩
 | int i=>exact⟨_,_,_,_,rfl,.int i,jE,q⟩
 | str z=>exact⟨_,_,_,_,rfl,.str z,jD,q⟩
 | ref a=>
  rcases k with⟨xs,e⟩|⟨xs,e⟩
  ·exact⟨_,_,_,_,rq,.lst e,fZ,q⟩
  ·exact⟨_,_,_,_,rq,.tup e,aV,q⟩
 | _=>exact k.elim
theorem yj {K:YD} {H:Hp} {x:V} {Q:VK} (k:isI x=true) (q:Q (.bl (isB x)) H):QB K [x,.ty "bool"] H Q:=by
 unfold QB;cases x with
 | bl b=>exact⟨_,_,_,_,rfl,.bl b,aY,q⟩
 | int i=>exact⟨_,_,_,_,rfl,.int i,f9,q⟩
 | _=>cases k
theorem rQ {K:YD} {H:Hp} {x:V} {Q:VK} (k:Kn H x) (q:Q (.bl (Iu H x).isSome) H):QB K [x,.ty "tuple"] H Q:=by
 unfold QB;cases x with
 | non=>exact⟨_,_,_,_,rfl,.non,Zb,q⟩
 | bl b=>exact⟨_,_,_,_,rfl,.bl b,Zd,q⟩
 | int i=>exact⟨_,_,_,_,rfl,.int i,aX,q⟩
 | str z=>exact⟨_,_,_,_,rfl,.str z,aW,q⟩
 | ref a=>
  rcases k with⟨xs,e⟩|⟨xs,e⟩
  ·rw[PB e] at q;exact⟨_,_,_,_,rq,.lst e,Zc,q⟩
  ·rw[Cr e] at q;exact⟨_,_,_,_,rq,.tup e,Xw,q⟩
 | _=>exact k.elim
theorem Wu:∀{bs:List Bool} {us:YE},Vals (bs.map V.bl) us->LSm.BoolsAre us bs
 | [],_,.nil=>.nil
 | b::r,_,.cons h t=>by
  cases (show _=Value.bool b from h)
  exact .cons b (Wu t)
theorem Jg (hc:X.calm=true):DW X (.builtin "all") (λxs H Q=>∃(p:Addr) (bs:List Bool),xs=[.ref p]/\SqL X.K H p (bs.map V.bl)/\Q (.bl (bs.all id)) H):=by
 intro jb s U H xs us Q I r h;obtain⟨p,bs,rfl,hq,q⟩:=h;obtain⟨u,rfl,rx⟩:=vals1 r;cases rx;obtain⟨its,rv,pl,hz⟩:=I.list hq;have hb:=Wu rv;have hl:=pl.isList;have hlt:p < s.heap.objs.size:=by obtain⟨_,e,_⟩:=hl;exact Qct e
 refine call_all_walk (Qby hl ?_);refine⟨s.heap.objs.size,[s.heap.objs.size,p],[s.heap.objs.size],its.toArray.size,_,_,λi=>(bs[i]?).getD true,rq,Walks.list (A:=X.A.in1) (I.ok.hd hc) _ p (Qcu hlt) its.toArray,
  ⟨⟨_,QaP _ rfl,rq,rq⟩,hl.push _⟩,λi v s' Q' E' hP hQ=>?_,λh' tk hk=>?_⟩
 ·obtain⟨b,e,rfl⟩:=hb.get i v (by simpa using hP);simp only[e,Option.getD_some] at hQ;exact Qbv hQ
 ·have e:((List.range its.toArray.size).all λi=>(bs[i]?).getD true)=bs.all id:=by
   rw[Qbo,hb.length];exact LSm.range_all bs
  rw[e];exact⟨.bl (bs.all id),H,I.kept (LSm.kept_iter hk),rq,q⟩
def DB (K:YD):R2:=λx y H Q=>∃a b ys,x=.ref a/\y=.ref b/\SqT K H a []/\SqT K H b ys/\Q (.ref b) H
theorem v9:OpR X (binaryOp .Add) (DB X.K):=by
 intro jb s U H x y v u Q I rx ry h;obtain⟨a,b,ys,rfl,rfl,ha,hb,q⟩:=h;cases rx;cases ry;obtain⟨its,r1,p1,_⟩:=I.tuple ha;obtain⟨its2,r2,p2,_⟩:=I.tuple hb;cases r1;obtain⟨⟨cls,dd,data,sl⟩,ho,hc,n,hd⟩:=id p1;obtain⟨⟨cls2,dd2,data2,sl2⟩,ho2,hc2,n2,hd2⟩:=id p2;simp only at hc hd hc2 hd2;subst hc hd hc2 hd2;exact concat_meets ⟨_,ho,rq⟩ ⟨_,ho2,rq⟩ noFill_tuple_add seq_tuple_add PySem.F.slot_tuple_add PySem.F.entry_tuple_add (PySem.F.args_tuple_add_2 _ _)
  (tuple_addW0 a b #[] its2.toArray n n2 dd dd2 sl sl2 rfl) ⟨ho,ho2,⟨.ref b,H,I,rq,q⟩⟩
theorem O8:OpR X (binaryOp .Add) (λx y H Q=>∃a b xs ys,x=.ref a/\y=.ref b/\H a=some (.tup xs)/\H b=some (.tup ys)/\xs.length+ys.length<=sizeLine /\
  ∀p H',H' p=some (.tup (xs++ys))->Same H H'->Q (.ref p) H'):=by
 intro jb s U H x y v u Q I rx ry h;obtain⟨a,b,xs,ys,rfl,rfl,ha,hb,hz,q⟩:=h;cases xs with
 | nil=>exact v9 jb s U H _ _ v u Q I rx ry ⟨a,b,ys,rfl,rfl,SqT.of ha,SqT.of hb,q b H hb (Same.refl H)⟩
 | cons x0 xr=>
  refine A1 jb s U H _ _ v u Q I rx ry ⟨a,b,x0::xr,ys,rq,rq,SqT.of ha,SqT.of hb,(λz=>by cases z),hz,λz=>?_,λz p hp=>?_⟩
  ·subst z;exact q a H (by rw[QbP];exact ha) (Same.refl H)
  ·refine q p _ Ab λc o e=>?_;rw[Aq (Ax e hp)];exact e
mutual
inductive Rep (H:Hp):V->PyData->Prop
 | non:Rep H .non .none
 | bl (b:Bool):Rep H (.bl b) (.bool b)
 | int (i:Int):Rep H (.int i) (.int i)
 | str (x:Str):Rep H (.str x) (.str x)
 | tup {a:Addr} {xs:YG} {ds:List PyData}:H a=some (.tup xs)->Px H xs ds->Rep H (.ref a) (.tuple ds)
 | lst {a:Addr} {xs:YG} {ds:List PyData}:H a=some (.lst xs)->Px H xs ds->Rep H (.ref a) (.list ds)
inductive Px (H:Hp):YG->List PyData->Prop
 | nil:Px H [] []
 | cons {x:V} {d:PyData} {xs:YG} {ds:List PyData}:Rep H x d->Px H xs ds->Px H (x::xs) (d::ds)
end
mutual
theorem Rep.reads {P:Program} {w:World} {H:Hp} {h:Heap} (ok:HOk P w H h):∀{v:V} {d:PyData} {u:Value},Rep H v d->RelV v u->∃as,Reads h u d as
 | _,_,_,.non,r=>by cases (show _=Value.none from r);exact⟨_,.none⟩
 | _,_,_,.bl b,r=>by cases (show _=Value.bool b from r);exact⟨_,.bool b⟩
 | _,_,_,.int i,r=>by obtain⟨t,rfl⟩:=(show ∃t,_=Value.int i t from r);exact⟨_,.int i t⟩
 | _,_,_,.str x,r=>by obtain⟨t,rfl⟩:=(show ∃t,_=Value.str x t from r);exact⟨_,.str x t⟩
 | _,_,_,.tup (a:=a) (xs:=xs) e q,r=>by
  cases (show _=Value.ref a from r)
  obtain⟨_,its,rv,o,ho,hc,n,hd⟩:=(show Bt P w H h a (.tup xs) from ok a _ e)
  obtain⟨as,z⟩:=Px.reads ok q rv;exact⟨_,.tuple ho hc hd (by simpa using z)⟩
 | _,_,_,.lst (a:=a) (xs:=xs) e q,r=>by
  cases (show _=Value.ref a from r)
  obtain⟨_,its,n,rv,ho⟩:=(show Bt P w H h a (.lst xs) from ok a _ e)
  obtain⟨as,z⟩:=Px.reads ok q rv;exact⟨_,.list ho rfl rfl (by simpa using z)⟩
theorem Px.reads {P:Program} {w:World} {H:Hp} {h:Heap} (ok:HOk P w H h):∀{xs:YG} {ds:List PyData} {us:YE},Px H xs ds->Vals xs us->∃as,ReadsAll h us ds as
 | _,_,_,.nil,.nil=>⟨_,.nil⟩
 | _,_,_,.cons p q,.cons r t=>by
  obtain⟨as,a1⟩:=Rep.reads ok p r;obtain⟨bs,b1⟩:=Px.reads ok q t;exact⟨_,.cons a1 b1⟩
end
theorem DS (hu:X.A.units+64 < cLine):OpR X (compareOp .NotEq) (λx y H Q=>∃d e,Rep H x d/\Rep H y e/\SeqAt.shaped d=true/\SeqAt.shaped e=true/\Q (.bl (!PyData.eqv d e)) H):=by
 intro jb s U H x y v u Q I rx ry h;obtain⟨d,e,p,p',sd,se,q⟩:=h;obtain⟨as,r1⟩:=p.reads I.hok rx;obtain⟨bs,r2⟩:=p'.reads I.hok ry;exact ne_dataH r1 r2 sd se hu ⟨.bl (!PyData.eqv d e),H,I,rq,q⟩
end
structure Code (K:YD) (mg:YB) (x:Str) (st:Stmt) (ps:YF):Prop where
 ex:∃(f:Addr) (fd:FuncData),Fun K x x st f fd/\mg x=some (.ref f)/\Binds K fd ps []
structure Good (P:Program) (w:World) (K:YD) (mg:YB) (base:Heap) (x:Str) (k:Nat) (ps:YF) (sp:Sp):Prop where
 ex:∃(f:Addr) (fd:FuncData),mg x=some (.ref f)/\keepIn K (.ref f)=true/\Binds K fd ps []/\FZ P w K mg base CX0 k f fd ps sp
theorem Code.good {P:Program} {w:World} {K:YD} {mg:YB} {base:Heap} {x:Str} {st:Stmt} {ps N:YF} {k:Nat} {sp:Sp} (C:Code K mg x st ps) (S:Az N ps (Aj st)) (len:∀vs H Q E,sp vs H Q E->vs.length=ps.length)
  (hbody:∀(f:Addr) (cdv:Value) (A:Around) (outer:List Env) (s:Shared) (H:Hp) (vs:YG) (Q:VK) (E:XK),Ce k (A.deeper (envOfC x (Aj st) s.heap.objs.size f cdv))->sp vs H Q E ->
   ∃t,PSs (K4 CX0 P w K mg base N x (Aj st) f cdv A outer s H E).nox (Dg st) t/\t { nx:=λ_ H'=>Q .non H',rt:=Q } (start N vs) H):Good P w K mg base x (k+1) ps sp:=by
 obtain⟨f,fd,F,m,b⟩:=C.ex;exact⟨f,fd,m,F.kp,b,F.ok S len λcdv A outer s H vs Q E hr h=>hbody f cdv A outer s H vs Q E hr h⟩
theorem Ru {X:Cx} {k k':Nat} {ps:YF} {sp:Sp} {x:Str} {p pos:Pos} {e:Expr} {es:YJ} {t:TA} (g:Good X.prog X.w X.K X.mg X.base x k ps sp) (hr:Ce k' X.A) (ha:PA X (e::es) t) (hk:k<=k':=by decide) (hg:Gl X x:=by rfl)
  (hdb:(x == ("__debug__":Str))=false:=by decide) (he:starEach (e::es) X.env=(false,eval e X.env)::starEach es X.env:=by rfl) (hpl:(backTo pos (starEach es X.env)).any (·.1)=false:=by rfl) :
  PE X (.Call (.Name x p) (e::es) [] pos) (mU sp [] E0 t):=by
 intro jb s U H Q I h;obtain⟨f,fd,m,kp,b,F⟩:=g.ex;exact AZ F (hr.mono hk) hg m kp b .nil bH ha hdb he hpl jb s U H Q I h
theorem Code.of {K:YD} {mg:YB} {h:Heap} {x:Str} {st:Stmt} {ps:YF} {f:Addr} {oc:Value} {od an:Option Addr} {osl:YI} {kV doc pm cdv ct:Value} (X:K.In h) (G:h.Ns mainGlobals mg)
  (a:nsIn K mainGlobals x=some (some (.ref f))) (l:K.lookup f=some ⟨oc,od,.func (fnOf x x (Ez st) (Dg st) (Aj st) .none kV doc pm an cdv ct),osl⟩) (c:codeIn K cdv x=true) (k:keepIn K (.ref f)=true)
  (hb:∀(kV doc pm:Value) (an:Option Addr) (cdv ct:Value) (us:YE),us.length=ps.length->bindArgs (fnOf x x (Ez st) (Dg st) (Aj st) .none kV doc pm an cdv ct) ⟨us,[]⟩=pure (ps.zip us)):Code K mg x st ps:=by
 have F:=XJ (st:=st) l c k;exact⟨f,_,F,mg_of X G a,F.binds hb⟩
theorem Ad {H:Hp} {p:Addr} (h:H p=none) (o:HO):Same H (upd H p o):=λb u q=>by rw[Aq (Ax q h)];exact q
theorem Bk.plain {X:Cx} {N':YF} {sc:Scope} (kind:sc.kind=.function) (Jw:∀y∈sc.names,y.2≠.cell) (loc:∀y∈sc.names,y.2=.local->sc.names.lookup y.1=some .local) (fM:∀y∈sc.names,y.2≠.free) :
  Bk X N' (N'.map λ_=>none) sc where
 kind:=kind
 Jw:=Jw
 loc:=loc
 fv:=λy hy e=>absurd e (fM y hy)
 len:=by simp
 src:=λi x j _ e=>by
  rw[Qbq] at e;cases q:N'[i]? with
  | none=>rw[q] at e;cases e
  | some z=>rw[q] at e;cases e
theorem Pq {K:YD} {a l:Addr} {xs:YG} {g:TG} {tt:TT} {te:TE} {Q:VK} {σ0:St} {H0:Hp} (Pv:YN)
  (h0:Pv 0 σ0 H0) (hl:∀i U H',i<=xs.length->Pv i U H'->SqT K H' a xs)
  (hs:∀i x U H',xs[i]?=some x->Pv i U H'->g x U H' fun σ3 H3=>tt σ3 H3 λb H4=>if b=true then te σ3 H4 λy H5=>∃ys,H5 l=some (.lst ys)/\ys.length < sizeLine/\Pv (i+1) σ3 (upd H5 l (.lst (ys++[y]))) else Pv (i+1) σ3 H4)
  (hd:∀ U H',Pv xs.length U H'->Q (.ref l) H'):Gs (Itt K a) g tt te Q σ0 H0 l:=by
 unfold Gs;refine⟨λi m U H'=>m=xs.length - i/\i<=xs.length/\Pv i U H',⟨xs.length,by simp,QcE _,h0⟩,?_⟩;rintro i m U H' ⟨rfl,hi,p⟩;have q:=hl i U H' hi p;by_cases hlt:i < xs.length
 ·refine .inr ⟨⟨xs,xs[i],q,by simp[hlt]⟩,Pv (i+1),fun σ3 H3 p'=>⟨xs.length - (i+1),by omega,rq,hlt,p'⟩,λx H2 y=>?_⟩;obtain⟨e,y⟩:=y;subst e;exact hs i x U _ (y xs q) p
 ·have e:i=xs.length:=by omega
  subst e;exact .inl ⟨⟨xs,q,QcD _⟩,hd U H' p⟩
theorem Fy {K:YD} {a l:Addr} {xs:YG} {g:TG} {tt:TT} {te:TE} {Q:VK} {σ0:St} {H0:Hp} (Pv:YN)
  (h0:Pv 0 σ0 H0) (hl:∀i U H',i<=xs.length->Pv i U H'->SqL K H' a xs)
  (hs:∀i x U H',xs[i]?=some x->Pv i U H'->g x U H' fun σ3 H3=>tt σ3 H3 λb H4=>if b=true then te σ3 H4 λy H5=>∃ys,H5 l=some (.lst ys)/\ys.length < sizeLine/\Pv (i+1) σ3 (upd H5 l (.lst (ys++[y]))) else Pv (i+1) σ3 H4)
  (hd:∀ U H',Pv xs.length U H'->Q (.ref l) H'):Gs (Itl K a) g tt te Q σ0 H0 l:=by
 unfold Gs;refine⟨λi m U H'=>m=xs.length - i/\i<=xs.length/\Pv i U H',⟨xs.length,by simp,QcE _,h0⟩,?_⟩;rintro i m U H' ⟨rfl,hi,p⟩;have q:=hl i U H' hi p;by_cases hlt:i < xs.length
 ·refine .inr ⟨⟨xs,xs[i],q,by simp[hlt]⟩,Pv (i+1),fun σ3 H3 p'=>⟨xs.length - (i+1),by omega,rq,hlt,p'⟩,λx H2 y=>?_⟩;obtain⟨e,y⟩:=y;subst e;exact hs i x U _ (y xs q) p
 ·have e:i=xs.length:=by omega
  subst e;exact .inl ⟨⟨xs,q,QcD _⟩,hd U H' p⟩
theorem K5 {lo:Int} {n:Nat} {l:Addr} {g:TG} {tt:TT} {te:TE} {Q:VK} {σ0:St} {H0:Hp} (Pv:YN) (h0:Pv 0 σ0 H0)
  (hs:∀i U H',i < n->Pv i U H'->g (.int (lo+i)) U H' fun σ3 H3=>tt σ3 H3 λb H4=>if b=true then te σ3 H4 λy H5=>∃ys,H5 l=some (.lst ys)/\ys.length < sizeLine/\Pv (i+1) σ3 (upd H5 l (.lst (ys++[y]))) else Pv (i+1) σ3 H4)
  (hd:∀ U H',Pv n U H'->Q (.ref l) H'):Gs (Itr lo n) g tt te Q σ0 H0 l:=by
 unfold Gs;refine⟨λi m U H'=>m=n - i/\i<=n/\Pv i U H',⟨n,by simp,QcE _,h0⟩,?_⟩;rintro i m U H' ⟨rfl,hi,p⟩;by_cases hlt:i < n
 ·refine .inr ⟨hlt,Pv (i+1),fun σ3 H3 p'=>⟨n - (i+1),by omega,rq,hlt,p'⟩,λx H2 y=>?_⟩;obtain⟨e,y⟩:=y;subst e y;exact hs i U _ hlt p
 ·have e:i=n:=by omega
  subst e;exact .inl ⟨QcD _,hd U H' p⟩
section
variable {X:Cx}
theorem ak (hc:X.calm=true):DW X (.builtin "max") (λxs H Q=>∃(p:Addr) (ns:List Int),xs=[.ref p]/\SqL X.K H p (ns.map V.int)/\0 < ns.length/\∀M,M∈ns->(∀a,a∈ns->a<=M)->Q (.int M) H):=by
 intro jb s U H xs us Q I r h;obtain⟨p,ns,rfl,hq,hne,q⟩:=h;obtain⟨u,rfl,rx⟩:=vals1 r;cases rx;obtain⟨its,rv,pl,hz⟩:=I.list hq;have hi:IntsAre its ns:=intsAre_of rv;obtain⟨zs,e⟩:=hi.allInts.items;have hl:=pl.isList;rw[e] at hl;have hns:ns=zs.toList.map (·.1):=by rw[<-hi.numsOf,<-nums_intItems,<-e]
 have hsz:0 < zs.size:=by
  have h3:=hne;rw[hns,QbM,QaS] at h3;exact h3
 refine max_intList (I.ok.hd hc) hl hsz λv h' tk hv hk=>?_;obtain⟨t,rfl⟩:=intItems_at hv;obtain⟨_,h2⟩:=argBest_gt (numAt zs) (zs.size - 1);refine⟨.int _,H,I.kept hk,⟨t,rq⟩,q _ ?_ λa ha=>?_⟩
 ·rw[hns,numAt_eq];exact getD_mem (by rw[QbM,QaS];have:=(argBest_gt (numAt zs) (zs.size - 1)).1;omega)
 ·rw[hns] at ha;obtain⟨j,hj,rfl⟩:=mem_getD ha;rw[QbM,QaS] at hj;rw[<-numAt_eq];exact h2 j (by omega)
theorem rT:∀{us:YE} {ns:List Int},IntsAre us ns->Vals (ns.map V.int) us:=λh=>Sw h
theorem iG:DW X (.builtin "sorted") (λxs H Q=>∃(p:Addr) (ns:List Int),xs=[.ref p]/\SqL X.K H p (ns.map V.int)/\ns.length < 64 /\
  ∀(ms:List Int) l,ms.Perm ns->ms.Pairwise (·<=·)->H l=none->Q (.ref l) (upd H l (.lst (ms.map V.int)))):=by
 intro jb s U H xs us Q I r h;obtain⟨p,ns,rfl,hq,h64,q⟩:=h;obtain⟨u,rfl,rx⟩:=vals1 r;cases rx;obtain⟨its,rv,pl,hz⟩:=I.list hq;have hi:IntsAre its ns:=intsAre_of rv;have hlen:=hi.length;refine sorted_ints pl.isList hi (by omega) λout ms a1 a2 a3=>?_;obtain⟨e,he⟩:=sortedAll_at s.heap its out;have hml:=a2.length_eq;refine⟨.ref (s.heap.objs.size+1),_,I.laid (t':=s.toks) (o:=.lst (ms.map V.int)) (λb o q=>sortedAll_old q) (QcI _) ?_,rq,q ms _ a2 a3 (I.hok.fresh (QcI _))⟩;exact⟨by rw[QbM];exact Qcx (Am (by omega)),out.toList,e,rT a1,he⟩
theorem j6:∀{ys:YF} {us:YE},Vals (ys.map V.str) us->StrsAre us ys
 | [],_,.nil=>.nil
 | y::r,_,.cons h t=>by
  obtain⟨t',e⟩:=(show ∃t,_=Value.str y t from h)
  cases e;exact .cons y t' (j6 t)
def rJoin (K:YD):V->YG->Hp->VK->Prop:=λx vs H Q=>∃(z:Str) (p:Addr) (ys:YF),x=.str z/\vs=[.ref p]/\SqL K H p (ys.map V.str)/\(ys.map (·.length)).sum+ys.length*z.length<=16777216/\Q (.str (Txt.join z ys)) H
theorem BE:MtR X "str.join" (rJoin X.K):=by
 intro jb s U H x vs v us Q I rx rv h;obtain⟨z,p,ys,rfl,rfl,hq,hz,q⟩:=h;obtain⟨t,rfl⟩:=rx;obtain⟨u,rfl,ru⟩:=rv.one;cases ru;obtain⟨its,r',pl,_⟩:=I.list hq;exact join_list pl.isList (j6 r') hz λt' k=>⟨.str (Txt.join z ys),H,I.tok k,⟨t',rq⟩,q⟩
def Its (z:Str):It:=⟨λi _=>i < z.cps.size,λi H x H'=>H'=H/\∃c,z.cps[i]?=some c/\x=.str ⟨#[c]⟩,λi _=>i=z.cps.size⟩
def NN (tl:TE):TI:=fun U H R=>tl U H λx H1=>∃z,x=.str z/\R (Its z) H1
end
section
variable {X:Cx} {tg:Expr}
theorem bU {P:Program} {w:World} {K:YD} {tg:Expr} (z:Str) (t:Tok) (it:Addr) (ty:String) (hty:["enumerate","zip","dict_itemiterator","dict_reverseitemiterator","odict_iterator","itertools.zip_longest","itertools.pairwise"].contains ty=false)
  (W:∀A':Around,A'.handled=none->Walks P w A' it [it] [it] z.cps.size (SignAt z) (λi h=>h.IsStrIter it ty z t i))
  (hself:∀(A:Around) (i:Nat) (s:Shared) (Q:YA) (E:YA),s.heap.IsStrIter it ty z t i->Q (.ref it) s->wpAny (model P w) A (pyIter (.ref it)) Q E s) :
  Turn P w K tg (Its z) [it] it (λi h=>h.IsStrIter it ty z t i) where
 mem:=Qbf.mpr rfl
 obj:=λi h st b hb=>by
  cases Qbf.mp hb;obtain⟨o,e,c,d⟩:=st;exact⟨o,e,λv z'=>by rw[d] at z';cases z'⟩
 keep:=λi h h' st k=>by
  obtain⟨o,e,r⟩:=st;exact⟨o,k it (Qbf.mpr rfl) o e,r⟩
 item:=by
  intro X hP hw hK hc i jb s U H E I hf st hg;subst hP hw hK;obtain⟨f0,f1,f2,f3,f4,f5⟩:=hf it (Qbf.mpr rfl);refine (W X.A (I.ok.hd hc)).item i s _ _ hg st λv h' tk hv st' kk=>?_;obtain⟨c,u,hcu,rfl⟩:=hv;have I1:Inv X jb U H { s with heap:=h',toks:=tk }:=I.turned (λb o hb e=>kk b o (λhm=>hb (Qbf.mp hm)) e) f0 f1 f3 f4 f5;obtain⟨o,e,cl,d⟩:=id st';exact⟨_,rq,U7 (s:={ s with heap:=h',toks:=tk }) e cl d hty ⟨.str ⟨#[c]⟩,H,I1,⟨u,rq⟩,⟨rq,c,hcu,rq⟩,st',λb hb=>(hf b hb).1⟩⟩
 done:=by
  intro X hP hw hK hc i jb s U H E I hf st hg;subst hP hw hK;obtain⟨f0,f1,f2,f3,f4,f5⟩:=hf it (Qbf.mpr rfl);cases (show i=z.cps.size from hg)
  exact (W X.A (I.ok.hd hc)).done s _ _ st λh' tk kk=>⟨rq,I.turned (λb o hb e=>kk b o (λhm=>hb (Qbf.mp hm)) e) f0 f1 f3 f4 f5⟩
 self:=λA i s Q E st h=>hself A i s Q E st h
theorem qL {l:Expr} {tl:TE} (hl:PE X l tl):PI X tg l (NN tl):=by
 intro jb s U H R I h;refine thn (hl jb s U H _ I h) λv s1 zz=>?_;obtain⟨x,H1,I1,r1,z,e,q⟩:=zz;subst e;obtain⟨t,rfl⟩:=r1;have fp:∀o:Obj,∀b∈[s1.heap.objs.size],Ho X jb H1 b:=λo b hb=>by
  cases Qbf.mp hb;exact I1.QT (QcD _) (I1.hok.fresh (QcD _))
 cases ha:z.cps.all (· < 128) with
 | true=>
  refine wpAny_pyIter_ascii ha ?_;exact⟨s1.heap.objs.size,[s1.heap.objs.size],_,_,H1,rq,I1.kept (t':=s1.toks) λb o e=>Qaz _ e,bU z t _ "str_ascii_iterator" (by decide) (λA' hA=>Walks.strAscii hA _ z t) (λ_ _ _ _ _ st h=>wpAny_pyIter_striter_ascii st h),
   ⟨_,QaP _ rfl,rq,rq⟩,fp { cls:=.none,data:=.fields #[] },q⟩
 | false=>
  refine wpAny_pyIter_wide ha ?_;exact⟨s1.heap.objs.size,[s1.heap.objs.size],_,_,H1,rq,I1.kept (t':=s1.toks) λb o e=>Qaz _ e,bU z t _ "str_iterator" (by decide) (λA' hA=>Walks.strWide hA _ z t) (λ_ _ _ _ _ st h=>wpAny_pyIter_striter_wide st h),
   ⟨_,QaP _ rfl,rq,rq⟩,fp { cls:=.none,data:=.fields #[] },q⟩
theorem iu {z:Str} {l:Addr} {g:TG} {tt:TT} {te:TE} {Q:VK} {σ0:St} {H0:Hp} (Pv:YN) (h0:Pv 0 σ0 H0)
  (hs:∀i c U H',z.cps[i]?=some c->Pv i U H'->g (.str ⟨#[c]⟩) U H' fun σ3 H3=>tt σ3 H3 λb H4=>if b=true then te σ3 H4 λy H5=>∃ys,H5 l=some (.lst ys)/\ys.length < sizeLine/\Pv (i+1) σ3 (upd H5 l (.lst (ys++[y]))) else Pv (i+1) σ3 H4)
  (hd:∀ U H',Pv z.cps.size U H'->Q (.ref l) H'):Gs (Its z) g tt te Q σ0 H0 l:=by
 unfold Gs;refine⟨λi m U H'=>m=z.cps.size - i/\i<=z.cps.size/\Pv i U H',⟨z.cps.size,by simp,QcE _,h0⟩,?_⟩;rintro i m U H' ⟨rfl,hi,p⟩;by_cases hlt:i < z.cps.size
 ·refine .inr ⟨hlt,Pv (i+1),fun σ3 H3 p'=>⟨z.cps.size - (i+1),by omega,rq,hlt,p'⟩,λx H2 y=>?_⟩;obtain⟨e,c,hc,rfl⟩:=y;subst e;exact hs i c U _ hc p
 ·have e:i=z.cps.size:=by omega
  subst e;exact .inl ⟨rq,hd U H' p⟩
end
end L2
namespace HT
open PySem PyProof.Rows
section
variable {prog:Program} {w:World} {A:Around} {E:YA} {s:Shared}
theorem Vn {t sl:Addr} {items:Array Value} {vl vu:Value} {lo hi:Option Int} {Q:YA} (ht:IsTup s.heap t items) (hs:s.heap.IsSliceOf sl vl vu .none) (pl:IsPart vl lo) (pu:IsPart vu hi)
  (hw:sIx items.size 0 lo=0/\sIx items.size items.size hi=items.size) (h:Q (.ref t) s):wpAny (model prog w) A (getItem (.ref t) (.ref sl)) Q E s:=by
 obtain⟨os,hos,hcs,hds⟩:=id hs;have hTs:s.TypeIs (.ref sl) "slice":=⟨os,hos,hcs⟩;unfold getItem
 try with_reducible refine Qcn ?_
 first | refine QcJ (QcK ?_) | skip
 refine QcJ (wpAny_sequenceKey ht.typeIs (by decide) ?_);refine QcJ (Qau (name:=Str.ofString "__getitem__") ht.typeIs Qab (QbF Qab ht.typeIs entry_tuple_getitem ?_ (args_tuple_getitem _ _)));show wpAny _ _ (Builtin.Tuple.tupleItemsOf (.ref t) >>= _) _ _ s;refine QcJ (tupleItemsOf_ ht ?_);refine QcJ (QcB hTs ?_);rw[if_pos (by decide)];refine QcJ (Oq hs pl pu ?_);rw[hw.1,hw.2];show wpAny _ _ (if (((0:Nat):Int) == 0&&(1:Int) == 1&&(items.size - 0) == items.size)=true then _ else _) _ _ s
 rw[if_pos (by simp)];refine QcJ ?_;unfold Builtin.Tuple.tupleIsExact;refine QcJ (QcB ht.typeIs (QcK ?_));rw[if_pos (by decide)];exact QcJ (wpAny_rule (QcK ⟨_,rq,QcK h⟩))
end
end HT
namespace L2
open PySem PySem.Spec PyProof.Rows
section
variable {X:Cx}
theorem Yt:SlR X (λx lo hi H Q=>∃a xs,x=.ref a/\H a=some (.tup xs)/\∀p H',H' p=some (.tup (JZ xs lo hi))->Same H H'->Q (.ref p) H'):=by
 intro jb s U H x v vl vu lo hi sl Q I rx hs pl pu h;obtain⟨a,xs,rfl,hx,q⟩:=h;by_cases hw:HT.sIx xs.length 0 lo=0/\HT.sIx xs.length xs.length hi=xs.length
 ·cases rx;obtain⟨its,r,ht,hz⟩:=I.tuple (SqT.of hx);have hlen:its.toArray.size=xs.length:=by rw[Qbo];exact r.length.symm
  refine⟨"tuple",_,Qab.lookup,ht.typeIs,?_⟩;refine HT.Vn ht hs pl pu (by rw[hlen];exact hw) ⟨.ref a,H,I,rq,q a H ?_ (Same.refl H)⟩;have e:JZ xs lo hi=xs:=by unfold JZ;rw[hw.1,hw.2];simp
  rw[e];exact hx
 ·exact C8 jb s U H _ v vl vu lo hi sl Q I rx hs pl pu ⟨a,xs,rq,SqT.of hx,hw,λp hp=>q p _ Ab (λc o e=>by rw[Aq (Ax e hp)];exact e)⟩
theorem qy:SlR X (λx lo hi H Q=>∃z,x=.str z/\z.length<=sizeLine/\Q (.str (Txt.slice z lo hi)) H):=by
 intro jb s U H x v vl vu lo hi sl Q I rx hs pl pu h;obtain⟨z,rfl,hz,q⟩:=h;obtain⟨t,rfl⟩:=rx;refine⟨"str",_,F.slot_str_getitem.lookup,typeIs_str _ _ _,?_⟩;have fin:∀t' k,EP X jb U Q (.str (Txt.slice z lo hi) t') { s with toks:=k }:=λt' k=>⟨.str (Txt.slice z lo hi),H,I.tok k,⟨t',rq⟩,q⟩;cases pl with
 | none=>
  cases pu with
  | none=>exact Qax (l:=none) (u:=none) (st:=none) hs rfl (post_val_or_str ⟨Qcv (Txt.slice_le z _ _) hz,fin⟩)
  | int j tj=>exact Qax (l:=none) (u:=some (j,tj)) (st:=none) hs rfl (post_val_or_str ⟨Qcv (Txt.slice_le z _ _) hz,fin⟩)
 | int i ti=>
  cases pu with
  | none=>exact Qax (l:=some (i,ti)) (u:=none) (st:=none) hs rfl (post_val_or_str ⟨Qcv (Txt.slice_le z _ _) hz,fin⟩)
  | int j tj=>exact Qax (l:=some (i,ti)) (u:=some (j,tj)) (st:=none) hs rfl (post_val_or_str ⟨Qcv (Txt.slice_le z _ _) hz,fin⟩)
end
structure K9 (K:YD) (C:Addr) (m qn:Str) (st:Stmt) (ps:YF):Prop where
 ex:∃(f:Addr) (fd:FuncData),Fun K m qn st f fd/\Meth K C m f/\Binds K fd ps []
structure Ge (P:Program) (w:World) (K:YD) (mg:YB) (base:Heap) (C:Addr) (m:Str) (k:Nat) (ps:YF) (sp:Sp):Prop where
 ex:∃(f:Addr) (fd:FuncData),Meth K C m f/\Binds K fd ps []/\FZ P w K mg base CX0 k f fd ps sp
structure pY (P:Program) (w:World) (K:YD) (mg:YB) (base:Heap) (C:Addr) (k:Nat) (ps:YF) (sp:Sp):Prop where
 ex:∃(f:Addr) (fd:FuncData),Mk K C f/\Binds K fd ps []/\FZ P w K mg base CX0 k f fd ps sp
theorem K9.good {P:Program} {w:World} {K:YD} {mg:YB} {base:Heap} {C:Addr} {m qn:Str} {st:Stmt} {ps N:YF} {k:Nat} {sp:Sp} (c:K9 K C m qn st ps) (S:Az N ps (Aj st)) (len:∀vs H Q E,sp vs H Q E->vs.length=ps.length)
  (hbody:∀(f:Addr) (cdv:Value) (A:Around) (outer:List Env) (s:Shared) (H:Hp) (vs:YG) (Q:VK) (E:XK),Ce k (A.deeper (envOfC qn (Aj st) s.heap.objs.size f cdv))->sp vs H Q E ->
   ∃t,PSs (K4 CX0 P w K mg base N qn (Aj st) f cdv A outer s H E).nox (Dg st) t/\t { nx:=λ_ H'=>Q .non H',rt:=Q } (start N vs) H):Ge P w K mg base C m (k+1) ps sp:=by
 obtain⟨f,fd,F,M,b⟩:=c.ex;exact⟨f,fd,M,b,F.ok S len λcdv A outer s H vs Q E hr h=>hbody f cdv A outer s H vs Q E hr h⟩
theorem zG {X:Cx} {pl:Sem Bool} {k k':Nat} {C:Addr} {ps:YF} {sp:Sp} {m:Str} {apos pos:Pos} {o e:Expr} {es:YJ} {ta:TE} {t:TA} (he:PE X o ta) (c:Cls X.K C) (g:Ge X.prog X.w X.K X.mg X.base C m k ps sp) (hr:Ce k' X.A) (ha:PA X (e::es) t) (hk:k<=k':=by decide)
  (hst:starEach (e::es) X.env=(false,eval e X.env)::starEach es X.env:=by rfl) (hpl:(backTo pos (starEach es X.env)).any (·.1)=false:=by rfl)
  (ht:eval (.Call (.Attribute o m apos) (e::es) [] pos) X.env=(do
   let ov <-eval o X.env
   standAt apos.atName
   let (f,first) <-holding [ov] (getMethod ov m pl)
   callWith pos f first (backTo pos (starEach (e::es) X.env)) (backToKw pos (keywordEach [] X.env))):=by rfl) :
  PE X (.Call (.Attribute o m apos) (e::es) [] pos) (bC C m sp [] E0 ta t):=by
 intro jb s U H Q I h;obtain⟨f,fd,M,b,F⟩:=g.ex;exact AX (pl:=pl) he c M F (hr.mono hk) b .nil bH ha hst hpl ht jb s U H Q I h
theorem DC {X:Cx} {pl:Sem Bool} {k k':Nat} {C:Addr} {ps:YF} {sp:Sp} {m:Str} {apos pos:Pos} {o:Expr} {ta:TE} (he:PE X o ta) (c:Cls X.K C) (g:Ge X.prog X.w X.K X.mg X.base C m k ps sp) (hr:Ce k' X.A) (hk:k<=k':=by decide)
  (ht:eval (.Call (.Attribute o m apos) [] [] pos) X.env=(do
   let ov <-eval o X.env
   standAt apos.atName
   let (f,first) <-holding [ov] (getMethod ov m pl)
   callWith pos f first (backTo pos (starEach [] X.env)) (backToKw pos (keywordEach [] X.env))):=by rfl) :
  PE X (.Call (.Attribute o m apos) [] [] pos) (bC C m sp [] E0 ta Nh):=by
 intro jb s U H Q I h;obtain⟨f,fd,M,b,F⟩:=g.ex;exact vV (pl:=pl) he c M F (hr.mono hk) b .nil bH ht jb s U H Q I h
theorem GY {X:Cx} {k k':Nat} {C:Addr} {ps:YF} {sp:Sp} {x:Str} {p pos:Pos} {e:Expr} {es:YJ} {t:TA} (g:pY X.prog X.w X.K X.mg X.base C k ps sp) (hr:Ce k' X.A) (hm:X.mg x=some (.ref C)) (ha:PA X (e::es) t) (hk:k+1<=k':=by decide) (hg:Gl X x:=by rfl)
  (hdb:(x == ("__debug__":Str))=false:=by decide) (he:starEach (e::es) X.env=(false,eval e X.env)::starEach es X.env:=by rfl) (hpl:(backTo pos (starEach es X.env)).any (·.1)=false:=by rfl) :
  PE X (.Call (.Name x p) (e::es) [] pos) (zA C sp [] E0 t):=by
 intro jb s U H Q I h;obtain⟨f,fd,M,b,F⟩:=g.ex;exact AY M F (hr.mono hk) hg hm b .nil bH ha hdb he hpl jb s U H Q I h
theorem Te {X:Cx} {x:Str} {v:V} {pos:Pos} (hg:Gl X x) (hm:∃u,X.mg x=some u/\RelV v u) (hd:(x == ("__debug__":Str))=false:=by decide):PE X (.Name x pos) (tC v):=by
 obtain⟨u,h,r⟩:=hm;exact Fz hg h r hd
theorem T4:∀{fs:List (Str×V)} {i:Nat} {f:Str} {v:V},(fs.map (·.1)).Nodup->fs[i]?=some (f,v)->fs.lookup f=some v
 | [],_,_,_,_,h=>by simp at h
 | (g,u)::fs,0,f,v,_,h=>by simp at h;obtain⟨rfl,rfl⟩:=h;simp[List.lookup]
 | (g,u)::fs,i+1,f,v,hn,h=>by
  rw[Qck,QbT] at hn;have h':fs[i]?=some (f,v):=by simpa using h
  have hm:f∈fs.map (·.1):=Qcs.mpr ⟨(f,v),QaK h',rq⟩;have hne:(f == g)=false:=QaQ.mpr λe=>hn.1 (e ▸ hm);rw[List.lookup,hne];exact T4 hn.2 h'
theorem zT:∀{fs:List (Str×V)} {m:Str},m∉fs.map (·.1)->fs.lookup m=none
 | [],_,_=>rfl
 | (g,u)::fs,m,h=>by
  rw[Qck,Qcj] at h;have hne:(m == g)=false:=QaQ.mpr λe=>h (.inl e);rw[List.lookup,hne];exact zT λz=>h (.inr z)
theorem T3 {y:V}:∀{fs:List (Str×V)} {f:Str},f∉fs.map (·.1)->Io f y fs=fs++[(f,y)]
 | [],_,_=>rfl
 | (g,u)::fs,f,h=>by
  rw[Qck,Qcj] at h;show (if g=f then (g,y)::fs else (g,u)::Io f y fs)=_
  rw[if_neg λe=>h (.inl e.symm),T3 λz=>h (.inr z)];rfl
def Ak (H H':Hp):Prop:=∀c xs,H c=some (.tup xs)->H' c=some (.tup xs)
theorem Ak.refl (H:Hp):Ak H H:=λ_ _ e=>e
theorem Ak.trans {H H1 H2:Hp} (a:Ak H H1) (b:Ak H1 H2):Ak H H2:=λc xs e=>b c xs (a c xs e)
theorem Ak.of {H H1:Hp} (s:Same H H1):Ak H H1:=λc xs e=>s c _ e
theorem Ak.upd {H:Hp} {b:Addr} {o:HO} (h:∀xs,H b≠some (.tup xs)):Ak H (upd H b o):=λc xs e=>by
 have n:c≠b:=λz=>h xs (z ▸ e);rw[Aq n];exact e
def Ah (b:Addr) (H H':Hp):Prop:=∀c o,H c=some o->c≠b->H' c=some o
theorem Ah.trans {b:Addr} {H H1 H2:Hp} (x:Ah b H H1) (y:Ah b H1 H2):Ah b H H2:=λc o e n=>y c o (x c o e n) n
theorem Ah.of {b:Addr} {H H1:Hp} (x:Same H H1):Ah b H H1:=λc o e _=>x c o e
theorem Ah.refl (b:Addr) (H:Hp):Ah b H H:=λ_ _ e _=>e
theorem Ah.upd {b:Addr} {H:Hp} {o:HO}:Ah b H (upd H b o):=λc u e n=>by rw[Aq n];exact e
theorem Ah.tup {b:Addr} {H H':Hp} (x:Ah b H H') (h:∀xs,H b≠some (.tup xs)):Ak H H':=λc xs e=>x c _ e λz=>h xs (z ▸ e)
theorem Ah.free {b:Addr} {H H':Hp} (x:Ah b H H') (hb:∃o,H' b=some o) {l:Addr} (h:H' l=none):H l=none:=by
 cases e:H l with
 | none=>rfl
 | some o=>
  by_cases n:l=b
  ·obtain⟨o',e'⟩:=hb;rw[n,e'] at h;cases h
  ·rw[x l o e n] at h;cases h
def GN (K:YD) (ta tv:TE) (f:Str):TS:=λD U H=>tv U H λy H1=>ta U H1 λx H2=>∃a C dx fs fs',x=.ref a/\H2 a=some (.ins C dx fs)/\Cls K C/\JB K C f/\fs.length < 1000/\Io f y fs=fs' /\
 ∀H',H' a=some (.ins C dx fs')->Ah a H2 H'->D.nx U H'
section
variable {X:Cx} {o e value:Expr} {f:Str} {pos pos' tpos:Pos} {ta tv:TE}
theorem PE.weak {ta ta':TE} (h:PE X e ta) (i:∀ U H Q,ta' U H Q->ta U H Q):PE X e ta':=λjb s U H Q I q=>h jb s U H Q I (i U H Q q)
theorem Ke (ha:PE X o ta) (hv:PE X value tv) (hs:swapsWith value (some (.Attribute o f pos')) pos.line X.env=pure false):PS X (.Assign [.Attribute o f pos'] value pos) (GN X.K ta tv f):=by
 intro jb s U H D I h;refine plainObj_wpAny_Assign_Attribute (thn (hv jb s U H _ I h) λu s1 zz=>?_) hs;obtain⟨y,H1,I1,ry,q⟩:=zz;refine thn (ha jb s1 U H1 _ I1 q) λov s2 zz=>?_;obtain⟨x,H2,I2,rx,a,C,dx,fs,fs',ex,ea,c,n,l,ep,q2⟩:=zz;subst ex;obtain rfl:ov=Value.ref a:=rx;refine m9 I2 ea c n l ry λs3 I3=>⟨U,_,I3,q2 _ ?_ Ah.upd⟩;rw[Ab,ep]
end
theorem PS.weak {X:Cx} {s:Stmt} {t t':TS} (h:PS X s t) (i:∀D U H,t' D U H->t D U H):PS X s t':=λjb sh U H D I q=>h jb sh U H D I (i D U H q)
section
variable {X:Cx} {K:YD}
theorem Oe (h:X.K=K):IxR X (Dx K):=h ▸ Ca
theorem yg (h:X.K=K):IxR X (DA K):=h ▸ Dv
theorem Xl (h:X.K=K):OpR X (compareOp .In) (rIn K false):=h ▸ Tj
theorem RT (h:X.K=K):OpR X (compareOp .NotIn) (rIn K true):=h ▸ eV
theorem kZ {e:Expr} {f:Str} {pos:Pos} {ta:TE} (h:X.K=K) (he:PE X e ta) (hb:attributeBase e f X.env (eval e X.env)=eval e X.env):PE X (.Attribute e f pos) (CM K ta f):=h ▸ Et he hb
end
end L2
namespace PySem
open Sem (wp)
section
variable {prog:Program} {w:World} {A:Around} {E:YA} {s:Shared}
end
end PySem
namespace L2
open PySem PySem.Spec PyProof.Rows
section
variable {X:Cx} {pos:Pos}
end
theorem ZX {α : Type}:∀{l:List α} {i:Nat} {a:α},l.Nodup->a∉l->(l.set i a).Nodup
 | [],_,_,h,_=>by simpa using h
 | x::r,0,a,h,n=>by
  rw[QbT] at h;rw[Qbb,QbT];exact⟨λz=>n (QaL _ z),h.2⟩
 | x::r,i+1,a,h,n=>by
  rw[QbT] at h;rw[Qbc,QbT];refine⟨λz=>?_,ZX h.2 λz=>n (QaL _ z)⟩;rcases List.mem_or_eq_of_mem_set z with z | z
  ·exact h.1 z
  ·exact n (z ▸ QaZ)
structure Has (H:Hp) (l:List (Addr×HO)):Prop where
 nd:(l.map (·.1)).Nodup
 at_:∀x∈l,H x.1=some x.2
theorem Has.get {H:Hp} {l:List (Addr×HO)} (h:Has H l) {i:Nat} {a:Addr} {o:HO} (e:l[i]?=some (a,o)):H a=some o:=h.at_ (a,o) (QaK e)
theorem Has.same {H H':Hp} {l:List (Addr×HO)} (h:Has H l) (s:Same H H'):Has H' l:=⟨h.nd,λx hx=>s _ _ (h.at_ x hx)⟩
theorem Has.Ji {H H':Hp} {l:List (Addr×HO)} {b:Addr} (h:Has H l) (s:Ah b H H') (n:b∉l.map (·.1)):Has H' l:=⟨h.nd,λx hx=>s _ _ (h.at_ x hx) λz=>n (z ▸ Qcs.mpr ⟨x,hx,rfl⟩)⟩
theorem Has.Hc {H:Hp} {l:List (Addr×HO)} {a:Addr} (h:Has H l) (e:H a=none):a∉l.map (·.1):=λz=>by
 obtain⟨x,hx,rfl⟩:=Qcs.mp z;rw[h.at_ x hx] at e;cases e
theorem map_set {l:List (Addr×HO)} {i:Nat} {a:Addr} {o:HO}:(l.set i (a,o)).map (·.1)=(l.map (·.1)).set i a:=by rw[List.map_set]
theorem Has.set {H H':Hp} {l:List (Addr×HO)} (h:Has H l) (i:Nat) {a:Addr} {o o':HO} (e:l[i]?=some (a,o)) (s:Ah a H H') (e':H' a=some o'):Has H' (l.set i (a,o')):=by
 have em:(l.map (·.1))[i]?=some a:=by rw[Qbq,e];rfl
 have hi:=(Qai.mp e).1;refine⟨?_,λx hx=>?_⟩
 ·rw[map_set];have:(l.map (·.1)).set i a=l.map (·.1):=by
   obtain⟨h1,h2⟩:=Qai.mp em;rw[<-h2];exact List.set_getElem_self h1
  rw[this];exact h.nd
 ·obtain⟨j,hj,ex⟩:=List.mem_iff_getElem.mp hx;rw[List.getElem_set] at ex;by_cases q:i=j
  ·rw[if_pos q] at ex;subst ex;exact e'
  ·rw[if_neg q] at ex;have hj':j < l.length:=by simpa using hj
   have hm:x∈l:=ex ▸ List.getElem_mem hj';refine s _ _ (h.at_ x hm) λz=>q ?_;have ej:(l.map (·.1))[j]?=some a:=by rw[Qbq,Qao hj'];rw[<-z,<-ex];rfl
   obtain⟨h1,h2⟩:=Qai.mp em;obtain⟨h3,h4⟩:=Qai.mp ej;exact (List.getElem_inj h.nd).mp (h2.trans h4.symm)
theorem Has.put {H:Hp} {l:List (Addr×HO)} (h:Has H l) (i:Nat) {a:Addr} {o:HO} (n:a∉l.map (·.1)) (e:H a=some o):Has H (l.set i (a,o)):=by
 refine⟨by rw[map_set];exact ZX h.nd n,λx hx=>?_⟩;rcases List.mem_or_eq_of_mem_set hx with z | z
 ·exact h.at_ x z
 ·rw[z];exact e
theorem Has.new {H H':Hp} {l:List (Addr×HO)} {a:Addr} {o:HO} (h:Has H l) (n:H a=none) (s:Same H H') (e:H' a=some o):Has H' (l++[(a,o)]):=by
 refine⟨?_,λx hx=>?_⟩
 ·rw[QbN,Qbw];refine⟨h.nd,by simp,λx hx y hy z=>?_⟩;have:y=a:=by simpa using hy
  subst this;exact h.Hc n (z ▸ hx)
 ·rcases QbO.mp hx with z | z
  ·exact s _ _ (h.at_ x z)
  ·have:x=(a,o):=by simpa using z
   subst this;exact e
theorem Has.nil (H:Hp):Has H []:=⟨Qcf,λx hx=>by cases hx⟩
theorem Has.ne {H:Hp} {l:List (Addr×HO)} (h:Has H l) {i j:Nat} {a b:Addr} {o p:HO} (e:l[i]?=some (a,o)) (e':l[j]?=some (b,p)) (n:i≠j):a≠b:=λz=>by
 have ea:(l.map (·.1))[i]?=some a:=by rw[Qbq,e];rfl
 have eb:(l.map (·.1))[j]?=some a:=by rw[Qbq,e',z];rfl
 obtain⟨h1,h2⟩:=Qai.mp ea;obtain⟨h3,h4⟩:=Qai.mp eb;exact n ((List.getElem_inj h.nd).mp (h2.trans h4.symm))
theorem Same.Bp {H0 H H':Hp} {a:Addr} (s:Same H0 H) (b:Ah a H H') (f:H0 a=none):Same H0 H':=λc o e=>b _ _ (s _ _ e) λz=>by rw[z,f] at e;cases e
section
variable {κ : Type} [DecidableEq κ]
def Di (kvs:List (κ×V)) (k:κ):Option V:=(kvs.find? λkv=>decide (kv.1=k)).map (·.2)
def putK (kvs:List (κ×V)) (k:κ) (v:V):List (κ×V):=
 if (kvs.any λkv=>decide (kv.1=k))=true then kvs.map (λkv=>if kv.1=k then (kv.1,v) else kv) else kvs++[(k,v)]
def zW (kvs:List (κ×V)) (k:κ):List (κ×V):=kvs.filter λkv=>decide (kv.1≠k)
theorem IV {p:κ×V} {r:List (κ×V)} {k:κ} (e:p.1=k):Di (p::r) k=some p.2:=by simp[Di,Qcb,e]
theorem GK {p:κ×V} {r:List (κ×V)} {k:κ} (e:¬p.1=k):Di (p::r) k=Di r k:=by simp[Di,Qcb,e]
theorem Oi (k:κ):∀kvs:List (κ×V),(kvs.any λkv=>decide (kv.1=k))=(Di kvs k).isSome
 | []=>rfl
 | p::r=>by
  rw[Qco];by_cases e:p.1=k
  ·simp only[IV e,Qcd e,Bool.true_or,Option.isSome_some]
  ·rw[GK e,QbR e,Bool.false_or];exact Oi k r
theorem Mh (kvs:List (κ×V)) (k:κ) (v:V):(putK kvs k v).length<=kvs.length+1:=by
 unfold putK;split
 ·rw[QbM];omega
 ·rw[QaY,QbC,List.length_nil];omega
theorem Lg {kvs:List (κ×V)} {k:κ} (v:V) (h:Di kvs k=none):putK kvs k v=kvs++[(k,v)]:=by
 unfold putK;rw[Oi,h];exact if_neg (by decide)
theorem Ir.M8 {o:Option V} {u:Option Value} (r:Ir o u):o.isSome=u.isSome:=by
 cases o with
 | none=>cases u with
  | none=>rfl
  | some _=>exact (show False from r).elim
 | some _=>cases u with
  | none=>exact (show False from r).elim
  | some _=>rfl
theorem Ir.getD {o:Option V} {u:Option Value} {d:V} {d':Value} (r:Ir o u) (rd:RelV d d'):RelV (o.getD d) (u.getD d'):=by
 cases o with
 | none=>cases u with
  | none=>exact rd
  | some _=>exact (show False from r).elim
 | some _=>cases u with
  | none=>exact (show False from r).elim
  | some _=>exact r
theorem KV.val {kvs:List (κ×V)} {vs:List (κ×Value)} (r:KV kvs vs) (k:κ):Ir (Di kvs k) (valueAt vs k):=by
 unfold KV at r
 induction r with
 | nil=>exact True.intro
 | @cons p q ps qs h t ih=>
  obtain⟨h1,h2⟩:=h;by_cases e:p.1=k
  ·have e':q.1=k:=h1.symm.trans e;have b:valueAt (q::qs) k=some q.2:=by simp[valueAt,Qcb,e']
   rw[IV e,b];exact h2
  ·have e':¬q.1=k:=λz=>e (h1.trans z);have b:valueAt (q::qs) k=valueAt qs k:=by simp[valueAt,Qcb,e']
   rw[GK e,b];exact ih
theorem KV.any {kvs:List (κ×V)} {vs:List (κ×Value)} (r:KV kvs vs) (k:κ):(kvs.any λkv=>decide (kv.1=k))=vs.any λkv=>decide (kv.1=k):=by
 unfold KV at r
 induction r with
 | nil=>rfl
 | cons h t ih=>rw[Qco,Qco,ih,h.1]
theorem KV.repl {kvs:List (κ×V)} {vs:List (κ×Value)} (r:KV kvs vs) (k:κ) {y:V} {u:Value} (ry:RelV y u) :
  KV (kvs.map λkv=>if kv.1=k then (kv.1,y) else kv) (vs.map λkv=>if kv.1=k then (kv.1,u) else kv):=by
 unfold KV at r ⊢
 induction r with
 | nil=>exact .nil
 | @cons p q ps qs h t ih=>
  rw[Qck,Qck];refine .cons ?_ ih;obtain⟨h1,h2⟩:=h;by_cases e:p.1=k
  ·rw[if_pos e,if_pos (h1.symm.trans e)];exact⟨h1,ry⟩
  ·rw[if_neg e,if_neg (λz=>e (h1.trans z))];exact⟨h1,h2⟩
theorem KV.put {kvs:List (κ×V)} {vs:List (κ×Value)} (r:KV kvs vs) (k:κ) {y:V} {u:Value} (ry:RelV y u):KV (putK kvs k y) (stored vs k u):=by
 unfold putK stored;rw[r.any k];by_cases e:(vs.any λkv=>decide (kv.1=k))=true
 ·rw[if_pos e,if_pos e];exact r.repl k ry
 ·rw[if_neg e,if_neg e];exact QcF r ⟨rq,ry⟩
theorem KV.drop {kvs:List (κ×V)} {vs:List (κ×Value)} (r:KV kvs vs) (k:κ):KV (zW kvs k) (without vs k):=by
 unfold KV at r ⊢;unfold zW without
 induction r with
 | nil=>exact .nil
 | @cons p q ps qs h t ih=>
  obtain⟨h1,h2⟩:=h;rw[List.filter_cons,List.filter_cons];by_cases e:p.1=k
  ·have a:¬decide (p.1≠k)=true:=by simp[e]
   have b:¬decide (q.1≠k)=true:=by simp[h1.symm.trans e]
   rw[if_neg a,if_neg b];exact ih
  ·have e':¬q.1=k:=λz=>e (h1.trans z);have a:decide (p.1≠k)=true:=by simp[e]
   have b:decide (q.1≠k)=true:=by simp[e']
   rw[if_pos a,if_pos b];exact .cons ⟨h1,h2⟩ ih
theorem KV.keys {kvs:List (κ×V)} {vs:List (κ×Value)} (r:KV kvs vs):kvs.map (·.1)=vs.map (·.1):=by
 unfold KV at r
 induction r with
 | nil=>rfl
 | cons h t ih=>rw[Qck,Qck,ih,h.1]
theorem KV.length {kvs:List (κ×V)} {vs:List (κ×Value)} (r:KV kvs vs):kvs.length=vs.length:=Qci r
end
theorem Qf {P:Program} {w:World} {k:Key} {u:Value} (r:RelV (kV k) u):(Bq P w).is k u=true:=by
 cases k with
 | inl i=>obtain⟨t,e⟩:=(show ∃t,u=Value.int i t from r);subst e;exact jC P w i t
 | inr x=>obtain⟨t,e⟩:=(show ∃t,u=Value.str x t from r);subst e;exact jB P w x t
theorem Z2 {P:Program} {w:World}:∀{ks:List Key} {us:YE},Vals (ks.map kV) us->ItemsAre (Bq P w) ks us
 | [],_,r=>by rw[QcA] at r;cases r;exact .nil
 | k::ks,_,r=>by
  rw[Qck] at r;cases r with
  | cons h t=>exact .cons (Qf h) (Z2 t)
abbrev YL:=List (List Key×V)
abbrev KT (H:Hp):YL->List (List Key×Addr×Value)->Prop:=Paired λp q=>p.1=q.1/\H q.2.1=some (.tup (p.1.map kV))/\RelV p.2 q.2.2
theorem KT.val {H:Hp} {kvs:YL} {xs:List (List Key×Addr×Value)} (r:KT H kvs xs) (k:List Key):Ir (Di kvs k) ((atKey xs k).map (·.2)):=by
 induction r with
 | nil=>exact True.intro
 | @cons p q ps qs h t ih=>
  obtain⟨h1,_,h2⟩:=h;by_cases e:p.1=k
  ·have e':q.1=k:=h1.symm.trans e;have b:atKey (q::qs) k=some q.2:=by simp[atKey,Qcb,e']
   rw[IV e,b];exact h2
  ·have e':¬q.1=k:=λz=>e (h1.trans z);have b:atKey (q::qs) k=atKey qs k:=by simp[atKey,Qcb,e']
   rw[GK e,b];exact ih
theorem KT.repl {H:Hp} {kvs:YL} {xs:List (List Key×Addr×Value)} (r:KT H kvs xs) (k:List Key) {y:V} {u:Value} (ry:RelV y u) :
  KT H (kvs.map λkv=>if kv.1=k then (kv.1,y) else kv) (xs.map (putAt k u)):=by
 induction r with
 | nil=>exact .nil
 | @cons p q ps qs h t ih=>
  rw[Qck,Qck];refine .cons ?_ ih;obtain⟨h1,h2,h3⟩:=h;unfold putAt;by_cases e:p.1=k
  ·rw[if_pos e,if_pos (h1.symm.trans e)];exact⟨h1,h2,ry⟩
  ·rw[if_neg e,if_neg (λz=>e (h1.trans z))];exact⟨h1,h2,h3⟩
theorem KT.put {H:Hp} {kvs:YL} {xs:List (List Key×Addr×Value)} (r:KT H kvs xs) (k:List Key) {b:Addr} {y:V} {u:Value} (hb:H b=some (.tup (k.map kV))) (ry:RelV y u) :
  KT H (putK kvs k y) (storedH xs k b u):=by
 have e:(kvs.any λkv=>decide (kv.1=k))=(atKey xs k).isSome:=by
  rw[Oi,(r.val k).M8,Option.isSome_map]
 unfold putK storedH;rw[e];by_cases q:(atKey xs k).isSome=true
 ·rw[if_pos q,if_pos q];exact r.repl k ry
 ·rw[if_neg q,if_neg q];exact QcF r ⟨rq,hb,ry⟩
theorem KT.keeps {H H':Hp} {kvs:YL} {xs:List (List Key×Addr×Value)} (r:KT H kvs xs) (ht:∀b ys,H b=some (.tup ys)->H' b=some (.tup ys)):KT H' kvs xs:=
 Paired.Aw r λ_ _ z=>⟨z.1,ht _ _ z.2.1,z.2.2⟩
section
variable {P:Program} {w:World} {H:Hp} {h:Heap} {a:Addr}
theorem zF {u:HO} (ok:HOk P w H h) (e:Rd H a u):Bt P w H h a u:=e.ok ok
abbrev YM:=List (Key×V)
theorem NQ {kvs:YM} (ok:HOk P w H h) (e:Rd H a (.dK kvs)):kvs.length<=sizeLine/\(a == sysModules)=false/\∃vs,KV kvs vs/\h.DictOf (Bq P w) a vs:=
 show Bt P w H h a (.dK kvs) from zF ok e
theorem zX {kvs:YM} (ok:HOk P w H h) (e:H a=some (.dK kvs)):kvs.length<=sizeLine/\(a == sysModules)=false/\∃vs,KV kvs vs/\h.DictOf (Bq P w) a vs:=NQ ok (.inl e)
theorem KZ {ks:List Key} (ok:HOk P w H h) (e:H a=some (.tup (ks.map kV))):(tupleKind (Bq P w)).is h ks a:=by
 obtain⟨_,its,r,o,h1,h2,n,h3⟩:=(show Bt P w H h a (.tup (ks.map kV)) from ok a _ e)
 exact⟨o,its.toArray,n,h1,h2,h3,by simpa using Z2 r⟩
theorem Qn {kvs:YL} (ok:HOk P w H h) (e:Rd H a (.dT kvs)):kvs.length<=sizeLine/\(a == sysModules)=false /\
  ∃xs,KT H kvs xs/\h.DictOfH (tupleKind (Bq P w)) a xs:=by
 obtain⟨z,y,xs,r,o,es,ep,h1,h2,h3,h4,h5⟩:=(show Bt P w H h a (.dT kvs) from zF ok e)
 refine⟨z,y,xs,r,o,es,ep,h1,h2,h3,h4,λx hx=>?_,h5⟩;have all:∀{l:YL} {m:List (List Key×Addr×Value)},KT H l m->∀x∈m,(tupleKind (Bq P w)).is h x.1 x.2.1:=by
  intro l m q
  induction q with
  | nil=>intro x hx;exact nomatch hx
  | @cons p q ps qs hq t ih=>
   intro x hx;rcases Qcj.mp hx with e | hx
   ·subst e;exact KZ ok (by rw[<-hq.1];exact hq.2.1)
   ·exact ih x hx
 exact all r x hx
theorem zU {kvs:YL} (ok:HOk P w H h) (e:H a=some (.dT kvs)):kvs.length<=sizeLine/\(a == sysModules)=false /\
  ∃xs,KT H kvs xs/\h.DictOfH (tupleKind (Bq P w)) a xs:=Qn ok (.inl e)
end
def Dt (H:Hp) (a:Addr) (y:V) (r:Option V):Prop:=
 (∃kvs k,Rd H a (.dK kvs)/\y=kV k/\r=Di kvs k)\/∃kvs k b,Rd H a (.dT kvs)/\y=.ref b/\H b=some (.tup (k.map kV))/\r=Di kvs k
def LC (H:Hp) (a:Addr) (y v:V) (H':Hp):Prop:=
 (∃kvs k,H a=some (.dK kvs)/\y=kV k/\kvs.length < sizeLine/\H'=upd H a (.dK (putK kvs k v))) \/
 ∃kvs k b,H a=some (.dT kvs)/\y=.ref b/\H b=some (.tup (k.map kV))/\kvs.length < sizeLine/\H'=upd H a (.dT (putK kvs k v))
theorem Dt.k {H:Hp} {a:Addr} {kvs:YM} {k:Key} (e:H a=some (.dK kvs)):Dt H a (kV k) (Di kvs k):=.inl ⟨kvs,k,.inl e,rfl,rfl⟩
theorem Dt.t {H:Hp} {a b:Addr} {kvs:YL} {k:List Key} (e:H a=some (.dT kvs)) (eb:H b=some (.tup (k.map kV))):Dt H a (.ref b) (Di kvs k):=.inr ⟨kvs,k,b,.inl e,rfl,eb,rfl⟩
theorem LC.k {H:Hp} {a:Addr} {kvs:YM} {k:Key} {v:V} (e:H a=some (.dK kvs)) (hl:kvs.length < sizeLine):LC H a (kV k) v (upd H a (.dK (putK kvs k v))):=.inl ⟨kvs,k,e,rfl,hl,rfl⟩
theorem LC.t {H:Hp} {a b:Addr} {kvs:YL} {k:List Key} {v:V} (e:H a=some (.dT kvs)) (eb:H b=some (.tup (k.map kV))) (hl:kvs.length < sizeLine) :
  LC H a (.ref b) v (upd H a (.dT (putK kvs k v))):=.inr ⟨kvs,k,b,e,rq,eb,hl,rq⟩
section
variable {X:Cx} {jb:YC} {U : St} {H:Hp} {s:Shared} {a:Addr} {y v:V} {u r:Value} {o:Option V} {A:Around} {E:YA}
theorem Inv.big (I:Inv X jb U H s):sysModules < s.heap.objs.size:=by
 have h:mainGlobals < s.heap.objs.size:=(I.mod.glob.keeps I.bk).lt;exact Nat.lt_trans (by decide) h
theorem uh {Q:YA} (hu:A.units+1 < cLine) (I:Inv X jb U H s) (g:Dt H a y (some v)) (ry:RelV y u) (h:∀w' s',Inv X jb U H s'->RelV v w'->Q w' s') :
  wpAny (model X.prog X.w) A (getItem (.ref a) u) Q E s:=by
 rcases g with⟨kvs,k,e,ey,l⟩|⟨kvs,k,b,e,ey,eb,l⟩
 ·subst ey;obtain⟨z,hd,vs,rel,dd⟩:=NQ I.hok e;obtain⟨w',hw,rw'⟩:=Ir.some_of (v:=v) (o:=valueAt vs k) (by rw[l];exact rel.val k);exact wpAny_getItem_of (Qf ry) dd.mapOf hw (h w' _ (I.tok _) rw')
 ·subst ey;cases (show u=Value.ref b from ry)
  obtain⟨z,hd,xs,rel,dd⟩:=Qn I.hok e;obtain⟨w',hw,rw'⟩:=Ir.some_of (v:=v) (o:=(atKey xs k).map (·.2)) (by rw[l];exact rel.val k);obtain⟨p,hp,hp2⟩:=QaD.mp hw;refine wpAny_getItem_heap (Qbl hu) (KZ I.hok eb) dd hp ?_;rw[hp2];exact h w' _ (I.tok _) rw'
theorem PZ {Q:YA} (hu:A.units+1 < cLine) (I:Inv X jb U H s) (g:Dt H a y o) (ry:RelV y u) (h:∀s',Inv X jb U H s'->Q (.bool o.isSome) s') :
  wpAny (model X.prog X.w) A (compareOp .In u (.ref a)) Q E s:=by
 rcases g with⟨kvs,k,e,ey,l⟩|⟨kvs,k,b,e,ey,eb,l⟩
 ·subst ey;obtain⟨z,hd,vs,rel,dd⟩:=NQ I.hok e;refine wpAny_in_of (Qf ry) hd dd.mapOf ?_;rw[<-(rel.val k).M8,<-l];exact h _ (I.tok _)
 ·subst ey;cases (show u=Value.ref b from ry)
  obtain⟨z,hd,xs,rel,dd⟩:=Qn I.hok e;refine wpAny_in_heap (Qbl hu) (KZ I.hok eb) hd dd ?_;have q:=(rel.val k).M8;rw[Option.isSome_map] at q;rw[<-q,<-l];exact h _ (I.tok _)
theorem B2 {Q:YA} (hu:A.units+1 < cLine) (I:Inv X jb U H s) (g:Dt H a y o) (ry:RelV y u) (h:∀s',Inv X jb U H s'->Q (.bool (!o.isSome)) s') :
  wpAny (model X.prog X.w) A (compareOp .NotIn u (.ref a)) Q E s:=by
 rcases g with⟨kvs,k,e,ey,l⟩|⟨kvs,k,b,e,ey,eb,l⟩
 ·subst ey;obtain⟨z,hd,vs,rel,dd⟩:=NQ I.hok e;refine wpAny_notIn_of (Qf ry) hd dd.mapOf ?_;rw[<-(rel.val k).M8,<-l];exact h _ (I.tok _)
 ·subst ey;cases (show u=Value.ref b from ry)
  obtain⟨z,hd,xs,rel,dd⟩:=Qn I.hok e;refine wpAny_notIn_heap (Qbl hu) (KZ I.hok eb) hd dd ?_;have q:=(rel.val k).M8;rw[Option.isSome_map] at q;rw[<-q,<-l];exact h _ (I.tok _)
theorem Vb {h':Heap} {t':Nat} {ob:HO} (I:Inv X jb U H s) (mu:Mut (H a)) (hs:Heap.SameBut a s.heap h') (he:∃q,h'.get? a=some q) (new:Bt X.prog X.w (upd H a ob) h' a ob) :
  Inv X jb U (upd H a ob) { s with heap:=h',toks:=t' }:=
 I.write (x:=a) (e:=a) mu (.inl rfl) (λb q hb z=>(hs.2 b hb).trans z) he new
theorem tV {P:Program} {w:World} {H':Hp} {h':Heap} {kvs:YM} {vs:List (Key×Value)} (z:kvs.length<=sizeLine) (hd:(a == sysModules)=false) (rel:KV kvs vs) (dd:h'.DictOf (Bq P w) a vs) :
  Bt P w H' h' a (.dK kvs):=⟨z,hd,vs,rel,dd⟩
theorem ug {H':Hp} {Q:YH} (hu:A.units+1 < cLine) (I:Inv X jb U H s) (g:LC H a y v H') (ry:RelV y u) (rv:RelV v r) (h:∀s',Inv X jb U H' s'->Q () s') :
  wpAny (model X.prog X.w) A (setItem (.ref a) u r) Q E s:=by
 rcases g with⟨kvs,k,e,ey,l,eH⟩|⟨kvs,k,b,e,ey,eb,l,eH⟩
 ·subst ey eH;obtain⟨z,hd,vs,rel,dd⟩:=zX I.hok e;have hz:vs.length<=sizeLine:=by rw[<-rel.length];exact z
  have hl:(putK kvs k v).length<=sizeLine:=by have:=Mh kvs k v;omega
  refine wpAny_setItem_pairs (hsz:=hz) (Qf ry) dd λh' dd' hs=>h _ ?_;have he:∃q,h'.get? a=some q:=let ⟨q,_,_,hq,_⟩:=dd';⟨q,hq⟩;exact Vb I (by rw[e];exact True.intro) hs he (tV hl hd (rel.put k rv) dd')
 ·subst ey eH;cases (show u=Value.ref b from ry)
  obtain⟨z,hd,xs,rel,dd⟩:=zU I.hok e;have hz:xs.length<=sizeLine:=by rw[<-Qci rel];exact z
  have hl:(putK kvs k v).length<=sizeLine:=by have:=Mh kvs k v;omega
  refine wpAny_setItem_heap (hsz:=hz) (Qbl hu) (KZ I.hok eb) dd λh' dd' hs=>h _ ?_;obtain⟨q,es,ep,hq,h2,h3,h4,_,h5⟩:=dd';refine Vb I (by rw[e];exact True.intro) hs ⟨q,hq⟩ ⟨hl,hd,_,(rel.put k eb rv).keeps λc ys ec=>?_,q,es,ep,hq,h2,h3,h4,h5⟩;rw[Aq (zK ec e (λz=>nomatch z))];exact ec
end
section
variable {X:Cx} {jb:YC} {U : St} {H:Hp} {s:Shared} {a:Addr} {kvs:YM} {k:Key} {u:Value} {A:Around} {E:YA}
theorem IS {Q:YA} (I:Inv X jb U H s) (e:Rd H a (.dK kvs)) (h:∀t s',Inv X jb U H s'->Q (.int kvs.length t) s'):wpAny (model X.prog X.w) A (call (.builtin "len") [.ref a]) Q E s:=by
 obtain⟨z,hd,vs,rel,dd⟩:=NQ I.hok e;refine call_len_dict hd dd (by rw[<-rel.length];rw[QcH] at z;omega) ?_;rw[<-rel.length];exact h _ _ (I.tok _)
end
def F4 (i:Expr):Prop:=∀ov iv,subscripted i false ov iv=operate [ov,iv] (getItem ov iv)
theorem AH {prog:Program} {w:World} {A:Around} {E:YA} {s:Shared} {env:Env} {value slice:Expr} {pos:Pos} {T id:String} {Q:YA}
  (hl:typeLookup (.type T) "__getitem__"=pure (some (.builtin id))) (hs:F4 slice)
  (h:wpAny (model prog w) A (eval value env) (λo s₁=>wpAny (model prog w) A (eval slice env) (λi s₂=>s₂.TypeIs o T/\wpAny (model prog w) A (getItem o i) Q E s₂) E s₁) E s) :
  wpAny (model prog w) A (eval (.Subscript value slice pos) env) Q E s:=by
 refine Subscript_ (QcL h (λo s₁ h₁=>QcL h₁ (λi s₂ h₂=>?_) λ_ _ x=>x) λ_ _ x=>x);obtain⟨hT,h₂⟩:=h₂;unfold subscriptTail;refine QcJ ?_;rw[getitemInPython_of_ne hT.not_modules];refine QcJ (wpAny_specialOf hT hl ?_);have fin:wpAny (model prog w) A (subscripted slice false o i) (λr s₃=>wpAny (model prog w) A (letTemporaryGo value o r >>= λ_=>pure r) Q E s₃) E s₂:=by
  rw[hs o i];exact wpAny_operating (QcL h₂ (λr s₃ h₃=>QcJ (wpAny_letTemporaryGo (QcK h₃))) λ_ _ x=>x)
 first
  | exact QcK (QcJ fin)
  | exact QcJ (QcK (QcJ fin))
  | exact QcJ fin
theorem jH {X:Cx} {jb:YC} {U : St} {H:Hp} {s:Shared} {a:Addr} {y:V} {o:Option V} (I:Inv X jb U H s) (g:Dt H a y o):s.TypeIs (.ref a) "dict":=by
 rcases g with⟨kvs,k,e,_,_⟩|⟨kvs,k,b,e,_,_,_⟩
 ·obtain⟨_,_,vs,_,dd⟩:=NQ I.hok e;exact dd.typeIs
 ·obtain⟨_,_,xs,_,dd⟩:=Qn I.hok e;exact dd.typeIs
def GI (td ty:TE):TE:=fun U H Q=>td U H λx H1=>ty U H1 λy H2=>∃a v,x=.ref a/\Dt H2 a y (some v)/\Q v H2
def Kk (ty td:TE):TE:=fun U H Q=>ty U H λy H1=>td U H1 λx H2=>∃a o,x=.ref a/\Dt H2 a y o/\Q (.bl o.isSome) H2
def AG (ty td:TE):TE:=fun U H Q=>ty U H λy H1=>td U H1 λx H2=>∃a o,x=.ref a/\Dt H2 a y o/\Q (.bl (!o.isSome)) H2
def GO (td ty tv:TE):TS:=λD U H=>tv U H λv H1=>td U H1 λx H2=>ty U H2 λy H3=>∃a H4,x=.ref a/\LC H3 a y v H4/\D.nx U H4
section
variable {X:Cx} {o i e value:Expr} {pos pos' tpos:Pos} {td ty tv:TE}
theorem Oc (hu:X.A.units+1 < cLine) (ho:PE X o td) (hi:PE X i ty) (hs:F4 i):PE X (.Subscript o i pos) (GI td ty):=by
 intro jb s U H Q I h;refine AH PySem.F.slot_dict_getitem.lookup hs (thn (ho jb s U H _ I h) λu s1 zz=>?_);obtain⟨x,H1,I1,rx,q1⟩:=zz;refine thn (hi jb s1 U H1 _ I1 q1) λiv s2 zz=>?_;obtain⟨y,H2,I2,ry,a,v,ex,g,q2⟩:=zz;subst ex;obtain rfl:u=Value.ref a:=rx;exact⟨jH I2 g,uh hu I2 g ry λw' s3 I3 rw'=>⟨v,H2,I3,rw',q2⟩⟩
theorem Ti (hu:X.A.units+1 < cLine) (hi:PE X i ty) (ho:PE X o td):PC X .In i o (Kk ty td):=by
 intro jb s U H Q I h;refine thn (hi jb s U H _ I h) λiv s1 zz=>?_;obtain⟨y,H1,I1,ry,q1⟩:=zz;refine thn (ho jb s1 U H1 _ I1 q1) λu s2 zz=>?_;obtain⟨x,H2,I2,rx,a,ov,ex,g,q2⟩:=zz;subst ex;obtain rfl:u=Value.ref a:=rx;exact PZ hu I2 g ry λs3 I3=>⟨.bl ov.isSome,H2,I3,rq,q2⟩
theorem Tg (hu:X.A.units+1 < cLine) (hi:PE X i ty) (ho:PE X o td):PC X .NotIn i o (AG ty td):=by
 intro jb s U H Q I h;refine thn (hi jb s U H _ I h) λiv s1 zz=>?_;obtain⟨y,H1,I1,ry,q1⟩:=zz;refine thn (ho jb s1 U H1 _ I1 q1) λu s2 zz=>?_;obtain⟨x,H2,I2,rx,a,ov,ex,g,q2⟩:=zz;subst ex;obtain rfl:u=Value.ref a:=rx;exact B2 hu I2 g ry λs3 I3=>⟨.bl (!ov.isSome),H2,I3,rq,q2⟩
theorem Lh (hu:X.A.units+1 < cLine) (ho:PE X o td) (hi:PE X i ty) (hv:PE X value tv) (hs:swapsWith value (some (.Subscript o i pos')) pos.line X.env=pure false) :
  PS X (.Assign [.Subscript o i pos'] value pos) (GO td ty tv):=by
 intro jb s U H D I h;refine wpAny_Assign_Subscript (thn (hv jb s U H _ I h) λr s1 zz=>?_) hs;obtain⟨v,H1,I1,rv,q1⟩:=zz;refine thn (ho jb s1 U H1 _ I1 q1) λu s2 zz=>?_;obtain⟨x,H2,I2,rx,q2⟩:=zz;refine thn (hi jb s2 U H2 _ I2 q2) λiv s3 zz=>?_;obtain⟨y,H3,I3,ry,a,H4,ex,g,q3⟩:=zz;subst ex;obtain rfl:u=Value.ref a:=rx;exact ug hu I3 g ry rv λs4 I4=>⟨U,H4,I4,q3⟩
end
theorem gY {P:Program} {w:World} {H:Hp} (h:Heap) (hb:sysModules < h.objs.size):Bt P w H (h.push { cls:=.type "dict",data:=.dict #[] }) h.objs.size (.dK []):=
 ⟨QcE _,QaQ.mpr (Ne.symm (Qcu hb)),[],.nil,Heap.DictOf.new h⟩
theorem gW {P:Program} {w:World} {H:Hp} (h:Heap) (hb:sysModules < h.objs.size):Bt P w H (h.push { cls:=.type "dict",data:=.dict #[] }) h.objs.size (.dT []):=
 ⟨QcE _,QaQ.mpr (Ne.symm (Qcu hb)),[],.nil,_,#[],0,QaP _ rfl,⟨rq,rq,rq⟩,rq,rq,Qcf⟩
def CU:TE:=λ_ H Q=>∀p,H p=none->Q (.ref p) (upd H p (.dK []))
def CS:TE:=λ_ H Q=>∀p,H p=none->Q (.ref p) (upd H p (.dT []))
section
variable {X:Cx} {pos:Pos}
theorem V8:PE X (.Dict [] [] pos) CU:=λjb s U H Q I h=>
 wpAny_Dict_empty ⟨.ref s.heap.objs.size,_,I.laid (a:=s.heap.objs.size) (o:=.dK []) (t':=s.toks) (λ_ _ q=>Qaz _ q) (QcD _) (gY s.heap I.big),rq,h _ (I.hok.fresh (QcD _))⟩
theorem vW:PE X (.Dict [] [] pos) CS:=λjb s U H Q I h=>
 wpAny_Dict_empty ⟨.ref s.heap.objs.size,_,I.laid (a:=s.heap.objs.size) (o:=.dT []) (t':=s.toks) (λ_ _ q=>Qaz _ q) (QcD _) (gW s.heap I.big),rq,h _ (I.hok.fresh (QcD _))⟩
end
structure M1 (X:Cx) (o:Expr) (m:Str) (apos:Pos) (e:Expr) (cpos:Pos):Prop where
 base:attributeBase o m X.env (eval o X.env)=eval o X.env
 few:((backTo cpos (starEach [e] X.env)).all (λx=>!x.1)&&(backToKw cpos (keywordEach [] X.env)).all (λx=>x.1.isSome)
 &&decide (([e]:YJ).length+([]:List Keyword).length+(if ([]:List Keyword).isEmpty then 0 else 1) < 30))=true
 line:(apos.endLine == cpos.line)=true
 trees:backTo cpos (starEach [e] X.env)=[(false,eval e X.env)]
structure M2 (X:Cx) (o:Expr) (m:Str) (apos:Pos) (e f:Expr) (cpos:Pos):Prop where
 base:attributeBase o m X.env (eval o X.env)=eval o X.env
 few:((backTo cpos (starEach [e,f] X.env)).all (λx=>!x.1)&&(backToKw cpos (keywordEach [] X.env)).all (λx=>x.1.isSome)
 &&decide (([e,f]:YJ).length+([]:List Keyword).length+(if ([]:List Keyword).isEmpty then 0 else 1) < 30))=true
 line:(apos.endLine == cpos.line)=true
 trees:backTo cpos (starEach [e,f] X.env)=[(false,eval e X.env),(false,eval f X.env)]
def IsD (H:Hp) (a:Addr):Prop:=(∃kvs,Rd H a (.dK kvs))\/∃kvs,Rd H a (.dT kvs)
theorem XD {X:Cx} {jb:YC} {U : St} {H:Hp} {s:Shared} {a:Addr} (I:Inv X jb U H s) (d:IsD H a) :
  s.TypeIs (.ref a) "dict"/\(∀b,Value.ref a=.ref b->∃ob,s.heap.get? b=some ob/\ob.dict=none)/\(a == sysModules)=false:=by
 rcases d with⟨kvs,e⟩|⟨kvs,e⟩
 ·obtain⟨_,hd,vs,_,dd⟩:=NQ I.hok e;refine⟨dd.typeIs,λb q=>?_,hd⟩;cases q;obtain⟨ob,_,_,h1,h2,_⟩:=dd;exact⟨ob,h1,h2.2.1⟩
 ·obtain⟨_,hd,xs,_,dd⟩:=Qn I.hok e;refine⟨dd.typeIs,λb q=>?_,hd⟩;cases q;obtain⟨ob,_,_,h1,h2,_⟩:=dd;exact⟨ob,h1,h2.2.1⟩
section
variable {X:Cx} {jb:YC} {U : St} {H:Hp} {s:Shared} {a:Addr} {y d:V} {u r:Value} {o:Option V} {A:Around} {E:YA}
theorem FI {Q:YA} (hu:A.units+1 < cLine) (I:Inv X jb U H s) (g:Dt H a y o) (ry:RelV y u) (h:∀w' s',Inv X jb U H s'->RelV (o.getD .non) w'->Q w' s') :
  wpAny (model X.prog X.w) A (call (.builtin "dict.get") [.ref a,u]) Q E s:=by
 rcases g with⟨kvs,k,e,ey,l⟩|⟨kvs,k,b,e,ey,eb,l⟩
 ·subst ey;obtain⟨z,hd,vs,rel,dd⟩:=NQ I.hok e;refine call_meetsIn QaI dd.typeIs PySem.F.entry_dict_get (PySem.F.args_dict_get_2 _ _) (meets_dict_get (Bq X.prog X.w) a (Qf ry) hd) ⟨_,dd.mapOf,h _ _ (I.tok _) ?_⟩;rw[l];exact (rel.val k).getD rfl
 ·subst ey;cases (show u=Value.ref b from ry)
  obtain⟨z,hd,xs,rel,dd⟩:=Qn I.hok e;refine call_meetsIn QaI dd.typeIs PySem.F.entry_dict_get (PySem.F.args_dict_get_2 _ _) (meetsH_dict_get (tupleKind (Bq X.prog X.w)) a b hd) ⟨Qbl hu,k,xs,KZ I.hok eb,dd,h _ _ (I.tok _) ?_⟩;rw[l];exact (rel.val k).getD rfl
theorem FH {Q:YA} (hu:A.units+1 < cLine) (I:Inv X jb U H s) (g:Dt H a y o) (ry:RelV y u) (rd:RelV d r) (h:∀w' s',Inv X jb U H s'->RelV (o.getD d) w'->Q w' s') :
  wpAny (model X.prog X.w) A (call (.builtin "dict.get") [.ref a,u,r]) Q E s:=by
 rcases g with⟨kvs,k,e,ey,l⟩|⟨kvs,k,b,e,ey,eb,l⟩
 ·subst ey;obtain⟨z,hd,vs,rel,dd⟩:=NQ I.hok e;refine call_meetsIn QaI dd.typeIs PySem.F.entry_dict_get (PySem.F.args_dict_get_3 _ _ _) (meets_dict_get_default (Bq X.prog X.w) a (Qf ry) hd r) ⟨_,dd.mapOf,h _ _ (I.tok _) ?_⟩;rw[l];exact (rel.val k).getD rd
 ·subst ey;cases (show u=Value.ref b from ry)
  obtain⟨z,hd,xs,rel,dd⟩:=Qn I.hok e;refine call_meetsIn QaI dd.typeIs PySem.F.entry_dict_get (PySem.F.args_dict_get_3 _ _ _) (meetsH_dict_get_default (tupleKind (Bq X.prog X.w)) a b hd r) ⟨Qbl hu,k,xs,KZ I.hok eb,dd,h _ _ (I.tok _) ?_⟩;rw[l];exact (rel.val k).getD rd
end
def C0 (td ty:TE):TE:=fun U H Q=>td U H λx H1=>∃a,x=.ref a/\IsD H1 a/\ty U H1 λy H2=>∃o,Dt H2 a y o/\Q (o.getD .non) H2
def CY (td ty tx:TE):TE:=fun U H Q=>td U H λx H1=>∃a,x=.ref a/\IsD H1 a/\ty U H1 λy H2=>tx U H2 λz H3=>∃o,Dt H3 a y o/\Q (o.getD z) H3
section
variable {X:Cx} {o e f:Expr} {apos cpos:Pos} {td ty tx:TE}
theorem vX (hu:X.A.units+1 < cLine) (ho:PE X o td) (he:PE X e ty) (m:M1 X o "get" apos e cpos):PE X (.Call (.Attribute o "get" apos) [e] [] cpos) (C0 td ty):=by
 intro jb s U H Q I h;refine wpAny_Call_method m.base m.few m.line PySem.F.plainAttrs_dict QaI PySem.F.type_dict_get (thn (ho jb s U H _ I h) λu s1 zz=>?_);obtain⟨x,H1,I1,rx,a,ex,d,q1⟩:=zz;subst ex;obtain rfl:u=Value.ref a:=rx;obtain⟨t1,t2,_⟩:=XD I1 d;refine⟨t1,t2,?_⟩;rw[m.trees];refine Calls.callWith_builtin rfl (Calls.evalArgs_plain (Calls.spliced_cons (thn (he jb s1 U H1 _ I1 q1) λiv s2 zz=>?_)));obtain⟨y,H2,I2,ry,ov,g,q2⟩:=zz;refine Calls.spliced_nil ?_;exact FI hu I2 g ry λw' s3 I3 rw'=>⟨_,H2,I3,rw',q2⟩
theorem O1 (hu:X.A.units+1 < cLine) (ho:PE X o td) (he:PE X e ty) (hf:PE X f tx) (m:M2 X o "get" apos e f cpos):PE X (.Call (.Attribute o "get" apos) [e,f] [] cpos) (CY td ty tx):=by
 intro jb s U H Q I h;refine wpAny_Call_method m.base m.few m.line PySem.F.plainAttrs_dict QaI PySem.F.type_dict_get (thn (ho jb s U H _ I h) λu s1 zz=>?_);obtain⟨x,H1,I1,rx,a,ex,d,q1⟩:=zz;subst ex;obtain rfl:u=Value.ref a:=rx;obtain⟨t1,t2,_⟩:=XD I1 d;refine⟨t1,t2,?_⟩;rw[m.trees];refine Calls.callWith_builtin rfl (Calls.evalArgs_plain (Calls.spliced_cons (thn (he jb s1 U H1 _ I1 q1) λiv s2 ⟨y,H2,I2,ry,q2⟩=>
  Calls.spliced_cons (thn (hf jb s2 U H2 _ I2 q2) λfv s3 ⟨z,H3,I3,rz,ov,g,q3⟩=>Calls.spliced_nil ?_))))
 exact FH hu I3 g ry rz λw' s4 I4 rw'=>⟨_,H3,I4,rw',q3⟩
end
section
variable {X:Cx} {jb:YC} {U : St} {H:Hp} {s:Shared} {a:Addr} {kvs:YM} {A:Around} {E:YA}
end
section
variable {X:Cx} {jb:YC} {U : St} {H:Hp} {s:Shared} {a:Addr} {y:V} {u:Value} {A:Around} {E:YA}
end
section
variable {X:Cx}
theorem uy:DW X (.builtin "len") (λxs H Q=>∃a kvs,xs=[V.ref a]/\H a=some (.dK kvs)/\Q (.int kvs.length) H):=by
 intro jb s U H xs us Q I r h;obtain⟨a,kvs,rfl,ha,q⟩:=h;obtain⟨u,rfl,ru⟩:=vals1 r;cases ru;exact IS I (.inl ha) λt s' I'=>⟨.int kvs.length,H,I',⟨t,rq⟩,q⟩
end
section
variable {κ : Type} [DecidableEq κ]
theorem lB:∀{l:List κ} {k:κ},l.Nodup->¬k∈l->(l++[k]).Nodup
 | [],k,_,_=>by simp
 | a::r,k,h,hk=>by
  obtain⟨h1,h2⟩:=QbT.mp h;show (a::(r++[k])).Nodup;refine QbT.mpr ⟨λm=>?_,lB h2 λm=>hk (Qcj.mpr (Or.inr m))⟩;rcases QbO.mp m with q | q
  ·exact h1 q
  ·exact hk (Qcj.mpr (Or.inl (Qbf.mp q).symm))
end
theorem XM {prog:Program} {w:World} {A:Around} {R:Result->Shared->Prop} {s:Shared} {kx vx target iter:Expr} {ifs:YJ} {scope:Scope} {pos:Pos} {it:Value} {D:Addr} {env:Env} (J:Nat->Shared->Prop)
  (turn:∀n s,J n s->wpAny (model prog w) A (pyNext it) (λr s1=>match r with
   | none=>R (.ok .next) s1
   | some v=>wpAny (model prog w) A (letOwnedTupleGo target it v) (λ_ s2=>wpAny (model prog w) A (assign target env v) (λ_ s3=>
     wpAny (model prog w) A (forIn ifs true λc r=>if r=true then do let ok <-isTrue c env (eval c env);pure (ForInStep.yield ok) else pure (ForInStep.yield r)) (λok s4=>
      if ok=true then wpAny (model prog w) A (eval kx env) (λkv s5=>wpAny (model prog w) A (eval vx env) (λvv s6=>wpAny (model prog w) A (dictSet D kv vv) (λ_ s7=>∃m,m < n/\J m s7) (λ_ _=>False) s6) (λ_ _=>False) s5) (λ_ _=>False) s4
      else ∃m,m < n/\J m s4) (λ_ _=>False) s3) (λ_ _=>False) s2) (λ_ _=>False) s1) (λ_ _=>False) s)
  (n:Nat) (h:J n s):codeAny (model prog w) A (.compLoop (.DictComp kx vx [⟨target,iter,ifs,0⟩] scope pos) 0 it (.ref D) env) R s:=by
 refine codeAny_loop rfl J (λk s' hk=>?_) n h;show wpAny _ A (Sem.onRaise (compTurn (.DictComp kx vx [⟨target,iter,ifs,0⟩] scope pos) 0 it (.ref D) env) (λx=>do noteFrame x env;theTreesLotGoes x)) _ _ s'
 refine wpAny_noted ?_;rw[compTurn_dict];refine QcJ (Qcq (QcJ (QcL (turn k s' hk) (λr s1 q1=>?_) λ_ _ f=>f.elim)));cases r with
 | none=>exact QcK q1
 | some v=>
  refine QcJ (QcL q1 (λ_ s2 q2=>QcJ (QcL q2 (λ_ s3 q3=>QcJ (QcL q3 (λok s4 q4=>?_) λ_ _ f=>f.elim)) λ_ _ f=>f.elim)) λ_ _ f=>f.elim);cases ok with
  | false=>exact QcK ⟨rfl,q4⟩
  | true=>exact QcJ (QcJ (QcL q4 (λkv s5 q5=>QcJ (Qcn (QcL q5 (λvv s6 q6=>QcJ (Qcq (Qcn (QcL q6 (λ_ s7 q7=>QcK ⟨rfl,q7⟩) λ_ _ f=>f.elim)))) λ_ _ f=>f.elim))) λ_ _ f=>f.elim))
theorem um {X:Cx} {jb:YC} {U : St} {H:Hp} {s:Shared} {A:Around} {E:YA} {a:Addr} {kvs:YM} {k:Key} {v:V} {u r:Value} {Q:YH} (I:Inv X jb U H s) (e:H a=some (.dK kvs)) (l:kvs.length < sizeLine) (ry:RelV (kV k) u) (rv:RelV v r)
  (h:∀s',Inv X jb U (upd H a (.dK (putK kvs k v))) s'->Q () s'):wpAny (model X.prog X.w) A (dictSet a u r) Q E s:=by
 obtain⟨z,hd,vs,rel,dd⟩:=zX I.hok e;have hz:vs.length<=sizeLine:=by rw[<-rel.length];exact z
 have hl:(putK kvs k v).length<=sizeLine:=by have:=Mh kvs k v;omega
 refine wpAny_dictSet_pairs (hsz:=hz) (Qf ry) dd λh' dd' hs=>h _ ?_;have he:∃q,h'.get? a=some q:=let ⟨q,_,_,hq,_⟩:=dd';⟨q,hq⟩;exact Vb I (by rw[e];exact True.intro) hs he (tV hl hd (rel.put k rv) dd')
@[irreducible] def Vg (J:It) (g:TG) (tt:TT) (tk tv:TE) (Q:VK) (σ0:St) (H0:Hp) (l:Addr):Prop:=∃W:Nat->YN,(∃m,W 0 m σ0 H0) /\
 ∀i m σ' H',W i m σ' H'->(J.stop i H'/\Q (.ref l) H')\/(J.go i H'/\∃N:YO,(∀ σ3 H3,N σ3 H3->∃m',m' < m/\W (i+1) m' σ3 H3)/\∀x H2,J.yld i H' x H2->g x σ' H2 fun σ3 H3=>tt σ3 H3 λb H4=>
  if b=true then tk σ3 H4 λy H5=>tv σ3 H5 λz H6=>∃(kvs:YM) (k:Key),H6 l=some (.dK kvs)/\y=kV k/\kvs.length < sizeLine/\N σ3 (upd H6 l (.dK (putK kvs k z))) else N σ3 H4)
def bW (wi:TI) (src:List (Option Nat)) (g:TG) (tt:TT) (tk tv:TE):TE:=fun U H Q=>wi U H λJ H1=>∀l,H1 l=none->Vg J g tt tk tv Q (Ks src U) (upd H1 l (.dK [])) l
theorem XQ {X:Cx} {N':YF} {src:List (Option Nat)} {sc:Scope} {kx vx tg iter:Expr} {ifs:YJ} {pos pos':Pos} {wi:TI} {g:TG} {tt:TT} {tk tv:TE} {use:Option (Value->Sem Unit)} {R:YA} (hc:X.calm=true) (S:Bk X N' src sc)
  (hi:PI X tg iter wi) (hg:∀s3 H3 fp pn,PG (cxC X N' sc s3 H3 fp pn) tg g) (ht:∀s3 H3 fp pn,PF (cxC X N' sc s3 H3 fp pn) ifs tt) (hk:∀s3 H3 fp pn,PE (cxC X N' sc s3 H3 fp pn) kx tk) (hv:∀s3 H3 fp pn,PE (cxC X N' sc s3 H3 fp pn) vx tv)
  (hs:∀x,foldedSetIterable iter X.env x=pure x) {jb:YC} {s:Shared} {U : St} {H:Hp} {Q:VK} (I:Inv X jb U H s) (h:bW wi src g tt tk tv U H Q)
  (fin:∀s3 H3 fp σ4 H4 s5 l,Inv X jb U H3 s3->(∀b∈fp,Ho X jb H3 b)->Inv (cxC X N' sc s3 H3 fp (X.pn++jb)) [] σ4 H4 s5->Q (.ref l) H4 ->
   compPost (model X.prog X.w) X.A X.xe use R (.ref l) s3.heap.objs.size (.ok .next) s5) :
  wpAny (model X.prog X.w) X.A (comprehension (.DictComp kx vx [⟨tg,iter,ifs,0⟩] sc pos) sc X.env pos' newDict false (eval iter X.env) use) R X.xe s:=by
 refine wpAny_comprehension_free (use:=use) (cl:=Gd X.env sc.names []) rfl hs (RJ λp hp e=>I.ok.has p.1 (S.fv p hp e)) S.kind S.loc ?_;refine thn (hi jb s U H _ I h) λv s1 h1=>thn h1 λitv s2 h2=>?_;obtain⟨it,fp,tn,J,H2,rfl,I2,T,st2,f2,q⟩:=h2;have q':=q s2.heap.objs.size (I2.hok.fresh (QcD _));unfold Vg at q';obtain⟨W,⟨m0,w0⟩,turn⟩:=q';refine Qbs (wpAny_newFunctionEnv S.Jw (by intro y hy;simp at hy) (λha hns hsb=>?_) S.kind);have I3:Inv X jb U (upd H2 s2.heap.objs.size (.dK [])) { s2 with heap:=s2.heap.push { cls:=.type "dict",data:=.dict #[] } }:=
  I2.laid (t':=s2.toks) (λb u e=>Qaz _ e) (QcD _) (gY s2.heap I2.big)
 have hfl:∀b∈fp,b < s2.heap.objs.size:=λb hb=>by
  obtain⟨o,e,_⟩:=T.obj 0 _ st2 b hb;exact Qct e
 have f3:∀b∈fp,Ho X jb (upd H2 s2.heap.objs.size (.dK [])) b:=λb hb=>⟨by rw[Aq (Qcu (hfl b hb))];exact (f2 b hb).1,(f2 b hb).2⟩;generalize hs3:({ s2 with heap:=s2.heap.push { cls:=.type "dict",data:=.dict #[] } }:Shared)=s3 at *;have hsz:s2.heap.objs.size < s3.heap.objs.size:=by rw[<-hs3];show s2.heap.objs.size < (s2.heap.push _).objs.size;rw[Qce];exact QbH _
 have kp:∀b o,s3.heap.get? b=some o->ha.get? b=some o:=λb o e=>hsb.extBut b o (Qcu (Qct e)) (Qaz _ e);have st3:tn 0 ha:=T.keep 0 _ _ st2 λb hb o e=>kp b o (by rw[<-hs3];exact Qaz _ e);have I4:Inv (cxC X N' sc s3 (upd H2 s2.heap.objs.size (.dK [])) fp (X.pn++jb)) [] (Ks src U) (upd H2 s2.heap.objs.size (.dK [])) { s3 with heap:=ha,toks:=s3.toks+([]:List (Str×Value)).length }:=
  Wq S I3 f3 (λb hb=>Nat.lt_trans (hfl b hb) hsz) hns kp
 have loop:codeAny (model X.prog X.w) X.A (.compLoop (.DictComp kx vx [⟨tg,iter,ifs,0⟩] sc pos) 0 (.ref it) (.ref s2.heap.objs.size) (compEnvC sc (Gd X.env sc.names []) s3.heap.objs.size X.env))
   (compPost (model X.prog X.w) X.A X.xe use R (.ref s2.heap.objs.size) s3.heap.objs.size) { s3 with heap:=ha,toks:=s3.toks+([]:List (Str×Value)).length }:=by
  refine XM (λn s'=>∃i σ' H',Inv (cxC X N' sc s3 (upd H2 s2.heap.objs.size (.dK [])) fp (X.pn++jb)) [] σ' H' s'/\tn i s'.heap/\(∀b∈fp,H' b=none)/\W i n σ' H') ?_ m0 ⟨0,_,_,I4,st3,λb hb=>(f3 b hb).1,w0⟩;rintro n s4 ⟨i,σ4,H4,J4,st4,fr4,w4⟩;have stat:∀{H':Hp},(∀b∈fp,H' b=none)->∀b∈fp,Ho (cxC X N' sc s3 (upd H2 s2.heap.objs.size (.dK [])) fp (X.pn++jb)) [] H' b:=λhn b hb=>
   ⟨hn b hb,(I4.ok.exf b hb).1,I4.ok.Ly b hb,.inl hb,λx c e=>(I4.ok.exf b hb).2 x c e,λp hp=>(f3 b hb).2.2.2.2.2 p ((QbO.mp hp).elim id λz=>by cases z)⟩
  rcases turn i n σ4 H4 w4 with⟨stop,qn⟩|⟨go,N,hN,step⟩
  ·refine thn (T.done (cxC X N' sc s3 (upd H2 s2.heap.objs.size (.dK [])) fp (X.pn++jb)) rfl rfl rfl hc i [] s4 σ4 H4 _ J4 (stat fr4) st4 stop) λr s5 zz=>?_;obtain⟨hr,J5⟩:=zz;subst hr;exact fin s3 _ fp σ4 H4 s5 _ I3 f3 J5 qn
  ·refine thn (T.item (cxC X N' sc s3 (upd H2 s2.heap.objs.size (.dK [])) fp (X.pn++jb)) rfl rfl rfl hc i [] s4 σ4 H4 _ J4 (stat fr4) st4 go) λr s5 zz=>?_;obtain⟨u,hr,h5⟩:=zz;subst hr;refine thn h5 λ_ s6 zz=>?_;obtain⟨x,H6,J6,r6,y6,st6,fr6⟩:=zz;have J6':=J6.pinned (stat fr6) (T.obj _ _ st6);have back:∀{pl:YC} {σ7:St} {H7:Hp} {s7:Shared},Inv (cxC X N' sc s3 (upd H2 s2.heap.objs.size (.dK [])) fp (X.pn++jb)) ([]++OD fp s6.heap) σ7 H7 s7->N σ7 H7 ->
     ∃m',m' < n/\∃i σ' H',Inv (cxC X N' sc s3 (upd H2 s2.heap.objs.size (.dK [])) fp (X.pn++jb)) [] σ' H' s7/\tn i s7.heap/\(∀b∈fp,H' b=none)/\W i m' σ' H':=λ{pl σ7 H7 s7} J7 w7=>by
    obtain⟨m',hm,w7⟩:=hN _ _ w7;have pinned:∀b∈fp,∀o,s6.heap.get? b=some o->s7.heap.get? b=some o/\H7 b=none:=λb hb o e=>by
     have:=J7.pin (b,o) (QaE _ (QaE _ (KY hb e)));exact⟨this.1,this.2.1⟩
    refine⟨m',hm,i+1,σ7,H7,J7.Ja,T.keep _ _ _ st6 λb hb o e=>(pinned b hb o e).1,λb hb=>?_,w7⟩;obtain⟨o,e,_⟩:=T.obj _ _ st6 b hb;exact (pinned b hb o e).2
   refine thn (hg s3 _ fp _ _ s6 σ4 H6 x u _ J6' r6 (step x H6 y6)) λ_ s7 zz=>?_;obtain⟨σ7,H7,J7,q7⟩:=zz;refine thn (ht s3 _ fp _ _ s7 σ7 H7 _ J7 q7) λok s8 zz=>?_;obtain⟨H8,J8,q8⟩:=zz;cases ok with
   | false=>
    rw[if_neg Qba] at q8 ⊢;exact back (pl:=[]) J8 q8
   | true=>
    rw[if_pos rfl] at q8 ⊢;refine thn (hk s3 _ fp _ _ s8 σ7 H8 _ J8 q8) λy s9 zz=>?_;obtain⟨yv,H9,J9,r9,q9⟩:=zz;refine thn (hv s3 _ fp _ _ s9 σ7 H9 _ J9 q9) λz s10 zz=>?_;obtain⟨zv,H10,J10,r10,kvs,k,hl,ey,hz,q10⟩:=zz;subst ey;refine um (X:=cxC X N' sc s3 (upd H2 s2.heap.objs.size (.dK [])) fp (X.pn++jb)) J10 hl hz r9 r10 λs11 J11=>?_;exact back (pl:=[]) J11 q10
 exact codeAny_compStart_dict loop (T.self X.A 0 _ _ _ st3 loop)
theorem vY {X:Cx} {N':YF} {src:List (Option Nat)} {sc:Scope} {kx vx tg iter:Expr} {ifs:YJ} {pos:Pos} {wi:TI} {g:TG} {tt:TT} {tk tv:TE} (hc:X.calm=true) (S:Bk X N' src sc)
  (hi:PI X tg iter wi) (hg:∀s3 H3 fp pn,PG (cxC X N' sc s3 H3 fp pn) tg g) (ht:∀s3 H3 fp pn,PF (cxC X N' sc s3 H3 fp pn) ifs tt) (hk:∀s3 H3 fp pn,PE (cxC X N' sc s3 H3 fp pn) kx tk) (hv:∀s3 H3 fp pn,PE (cxC X N' sc s3 H3 fp pn) vx tv)
  (hs:∀x,foldedSetIterable iter X.env x=pure x:=by intro _;rfl):PE X (.DictComp kx vx [⟨tg,iter,ifs,0⟩] sc pos) (bW wi src g tt tk tv):=by
 intro jb s U H Q I h;rw[arm_eval_DictComp];refine XQ (use:=none) hc S hi hg ht hk hv hs I h λs3 H3 fp σ4 H4 s5 l I3 f3 J5 q=>?_;obtain⟨m,hn,_⟩:=J5.loc;exact⟨m,hn,λh' sb=>⟨.ref l,H4,T6 I3 f3 J5 sb,rq,q⟩⟩
end L2
namespace PySem
open Sem (wp)
section
variable {prog:Program} {w:World} {A:Around} {E:YA} {s:Shared}
theorem Qe {it l:Addr} {i:Nat} {items:Array Value} {x:Value} {Q:YA} (hit:s.heap.IsTupleIter it l i) (hl:s.heap.IsTuple l items) (hx:items[i]?=some x)
  (hQ:∀h',h'.IsTupleIter it l (i+1)->Heap.SameBut it s.heap h'->Q x { s with heap:=h' }):wpAny (model prog w) A (Builtin.SmallTypes.nextOf (.ref it)) Q E s:=by
 obtain⟨o,ho,hc,hd⟩:=id hit;obtain⟨ol,hol,_,nl,hdl⟩:=hl;unfold Builtin.SmallTypes.nextOf;refine QcJ (Qau (name:=Str.ofString "__next__") hit.typeIs Qaa (QbF Qaa hit.typeIs PyProof.Rows.entry_tupleiter_next ?_ (PyProof.Rows.args_tupleiter_next _)));show wpAny _ _ (field (.ref it) 0 >>= _) _ _ s;refine QcJ (QcG ho hd (x:=.ref l) rfl ?_);show wpAny _ _ (if (Value.ref l == Value.none)=true then _ else _) _ _ s
 rw[if_neg (show ¬((Value.ref l == Value.none)=true) from Qba)]
 show wpAny _ _ (field (.ref it) 1 >>= _) _ _ s;refine QcJ (QcG ho hd (x:=.int i 0) rfl ?_);show wpAny _ _ (seqItems? (.ref l) >>= _) _ _ s;refine QcJ (Qch hol hdl ?_);simp only[Qbr,hx];refine QcJ (wpAny_setField ho hd (by simp) (QcK ⟨x,rq,QcK (hQ _ ?_ (QaV ..))⟩));exact⟨_,QaF _ ho (Obj.isFreed_of_fields (Obj.data_mapFields hd _)),(Obj.cls_mapFields ..).trans hc,by rw[Obj.data_mapFields hd];simp[rawInt]⟩
theorem Lk {it l:Addr} {i:Nat} {items:Array Value} {Q:YA} (hh:A.handled=none) (hit:s.heap.IsTupleIter it l i) (hl:s.heap.IsTuple l items) (hx:items[i]?=none)
  (hE:∀h' e,Heap.ExtBut it s.heap h'->(∃o,h'.get? e=some o/\o.cls=.type "StopIteration")->E (.ref e) { s with heap:=h' }):wpAny (model prog w) A (Builtin.SmallTypes.nextOf (.ref it)) Q E s:=by
 obtain⟨o,ho,hc,hd⟩:=id hit;obtain⟨ol,hol,_,nl,hdl⟩:=hl;unfold Builtin.SmallTypes.nextOf;refine QcJ (Qau (name:=Str.ofString "__next__") hit.typeIs Qaa (QbF Qaa hit.typeIs PyProof.Rows.entry_tupleiter_next ?_ (PyProof.Rows.args_tupleiter_next _)));show wpAny _ _ (field (.ref it) 0 >>= _) _ _ s;refine QcJ (QcG ho hd (x:=.ref l) rfl ?_);show wpAny _ _ (if (Value.ref l == Value.none)=true then _ else _) _ _ s
 rw[if_neg (show ¬((Value.ref l == Value.none)=true) from Qba)]
 show wpAny _ _ (field (.ref it) 1 >>= _) _ _ s;refine QcJ (QcG ho hd (x:=.int i 0) rfl ?_);show wpAny _ _ (seqItems? (.ref l) >>= _) _ _ s;refine QcJ (Qch hol hdl ?_);simp only[Qbr,hx];refine QcJ (wpAny_rule (QcJ (wpAny_setField ho hd (by simp) ?_)));show wpAny _ _ (newExc (.type "StopIteration") [] >>= _) _ _ _;refine QcJ ?_;simp only[newExc,newTuple];refine QcJ (Qbs ?_ (by size_fits));refine QcJ (m:=firstArgMember _ _) (wpAny_of_eq (a:=Value.none) (by first | rfl | (simp only[firstArgMember];rfl)) ?_)
 refine Qbs ?_ (by size_fits);simp only[raiseNew];refine QcJ (wpAny_handled ?_)
 first | rw[show A.in1.handled=none from hh] | rw[hh]
 refine QcJ (QcK (wpAny_throw ?_));exact hE _ _ (((QaV ..).extBut.push _).push _) ⟨_,QaP _ rfl,rq⟩
theorem gU {e it l:Addr} {i:Nat} {j:Int} {items:Array Value} {old:Value} {Q:Option Value->Shared->Prop} (hh:A.handled=none) (he:IsEnum s.heap e it j old) (hit:s.heap.IsTupleIter it l i) (hl:s.heap.IsTuple l items) (hx:items[i]?=none)
  (hQ:∀h',Heap.ExtBut it s.heap h'->Q none { s with heap:=h' }):wpAny (model prog w) A (pyNext (.ref e)) Q E s:=by
 have hT:s.TypeIs (.ref e) "enumerate":=⟨_,he,rq⟩;unfold pyNext;refine QcJ (Qcp (Qau (name:=Str.ofString "__next__") hT F.slot_enumerate_next (QbF F.slot_enumerate_next hT F.entry_enumerate_next ?_ (F.args_enumerate_next_1 _))));show wpAny _ _ (field (.ref e) 2 >>= _) _ _ _;refine QcJ (QcG he rfl (x:=.ref it) rfl (QcJ (Lk hh hit hl hx λh' x he' hx'=>?_)));obtain⟨o,ho,hc⟩:=hx';exact QcJ (QbK (T:="StopIteration") (b:=true) ⟨o,ho,hc⟩ isSubtype_stop (QcK (hQ _ he')))
end
theorem Draws.tup {prog:Program} {w:World} {A:Around} (hh:A.handled=none) (it l:Addr) (hne:l≠it) (items:Array Value) :
  Draws prog w A it [it,l] items.size (λi v=>items[i]?=some v) (λi h=>h.IsTupleIter it l i/\h.IsTuple l items) where
 live:=λ_ _ st=>let ⟨o,ho,_⟩:=st.1;⟨o,ho⟩
 frame:=λ_ _ _ st hk=>⟨st.1.at λo e=>hk it (by simp) o e,let ⟨o,e,r⟩:=st.2;⟨o,hk l (by simp) o e,r⟩⟩
 item:=λi s Q E hi st hQ=>Qe st.1 st.2 (x:=items[i]) (by simp[hi]) λh' hit' hs'=>hQ _ h' s.toks (by simp[hi]) ⟨hit',let ⟨o,e,r⟩:=st.2;⟨o,hs'.extBut _ _ hne e,r⟩⟩ hs'
 done:=λs Q E st hE=>Lk hh st.1 st.2 (by simp) hE
theorem Draws.from {prog:Program} {w:World} {A:Around} {it:Addr} {fp:List Addr} {n:Nat} {P:Nat->Value->Prop} {St:Nat->Heap->Prop} (D:Draws prog w A it fp n P St) (k:Nat) :
  Draws prog w A it fp (k+n) (λj v=>∃i,j=k+i/\P i v) (λj h=>∃i,j=k+i/\i<=n/\St i h) where
 live:=λ_ _ ⟨i,_,_,st⟩=>D.live i _ st
 frame:=λ_ _ _ ⟨i,e,hi,st⟩ hk=>⟨i,e,hi,D.frame i _ _ st hk⟩
 item:=λj s Q E hj ⟨i,e,hi,st⟩ hQ=>D.item i s Q E (by omega) st λx h' tk p st' sb=>hQ x h' tk ⟨i,e,p⟩ ⟨i+1,by omega,by omega,st'⟩ sb
 done:=λs Q E ⟨i,e,hi,st⟩ hE=>by
  have:i=n:=by omega
  subst this;exact D.done s Q E st hE
end PySem
namespace L2
open PySem PySem.Spec PyProof.Rows
section
variable {X:Cx} {jb:YC} {U : St} {H:Hp} {s:Shared} {h':Heap}
theorem Inv.Pz {t':Nat} {fp:List Addr} {t:Addr} {o:HO} (I:Inv X jb U H s) (ht:s.heap.objs.size<=t) (k:∀b u,b∉fp->s.heap.get? b=some u->h'.get? b=some u) (hf:∀b∈fp,Ho X jb H b) (new:Bt X.prog X.w (upd H t o) h' t o) :
  Inv X jb U (upd H t o) { s with heap:=h',toks:=t' }:=by
 have nt:=I.hok.fresh ht;have old:∀b u,s.heap.get? b=some u->b≠t:=λb u e z=>absurd (Qbd (Qct e) ht) (by rw[z];exact Qcm _);have nf:∀b u,H b=some u->b∉fp:=λb u e z=>by rw[(hf b z).1] at e;cases e
 have tr:∀b u,H b=some u->(upd H t o) b=some u:=λb u e=>by rw[Aq (Ax e nt)];exact e
 refine I.step (g':=s.gens) (d':=s.drawn) (ch:=fp) (λb hb=>?_) (λb u _ _ hc e _=>k b u hc e) (λb u _ _ hc e _=>⟨u.slots,k b u hc e⟩) (λb u hc e n=>by rw[Aq (old b u e)];exact n)
  (λb u hc e=>⟨u,k b u hc e⟩) (λ_ _ e=>tr _ _ e) (λ_ _ _ e=>tr _ _ e) (λb ps e=>⟨#[],by rw[tr _ _ e];simp⟩) (λm hm=>?_) (λb u e=>?_) I.bare
 ·obtain⟨_,f1,_,f3,f4,f5⟩:=hf b hb;exact⟨f3,f1,f4,f5⟩
 ·obtain⟨u,es,ep,hu,r⟩:=hm;exact⟨u,es,ep,k _ u (λz=>(hf _ z).2.1 rfl) hu,r⟩
 ·by_cases hb:b=t
  ·subst hb;rw[Ab] at e;cases e;exact new
  ·rw[Aq hb] at e;refine (I.hok b u e).stay (λc v hc q=>k c v ?_ q) (λc q=>tr _ _ q) λc xs q=>tr _ _ q;rcases hc with z | z
   ·rw[z];exact nf b u e
   ·exact nf c _ z
theorem Inv.N7 {t':Nat} {fp:List Addr} (I:Inv X jb U H s) (k:∀b u,b∉fp->s.heap.get? b=some u->h'.get? b=some u) (hf:∀b∈fp,Ho X jb H b):Inv X jb U H { s with heap:=h',toks:=t' }:=by
 have nf:∀b u,H b=some u->b∉fp:=λb u e z=>by rw[(hf b z).1] at e;cases e
 refine I.step (g':=s.gens) (d':=s.drawn) (ch:=fp) (λb hb=>?_) (λb u _ _ hc e _=>k b u hc e) (λb u _ _ hc e _=>⟨u.slots,k b u hc e⟩) (λb u hc e n=>n)
  (λb u hc e=>⟨u,k b u hc e⟩) (λ_ _ e=>e) (λ_ _ _ e=>e) (λb ps e=>⟨#[],by rw[e];simp⟩) (λm hm=>?_) (λb u e=>?_) I.bare
 ·obtain⟨_,f1,_,f3,f4,f5⟩:=hf b hb;exact⟨f3,f1,f4,f5⟩
 ·obtain⟨u,es,ep,hu,r⟩:=hm;exact⟨u,es,ep,k _ u (λz=>(hf _ z).2.1 rfl) hu,r⟩
 ·refine (I.hok b u e).stay (λc v hc q=>k c v ?_ q) (λ_ q=>q) λ_ _ q=>q;rcases hc with z | z
  ·rw[z];exact nf b u e
  ·exact nf c _ z
end
def Py (K:YD) (a:Addr) (lo:Nat):It:=
 ⟨λi H=>∃xs x,SqT K H a xs/\xs[i]?=some x,λi H v H'=>∃p x,H p=none/\v=.ref p/\H'=upd H p (.tup [.int ((lo+i:Nat):Int),x])/\∀xs,SqT K H a xs->xs[i]?=some x,λi H=>∃xs,SqT K H a xs/\xs.length<=i⟩
theorem mO {P:Program} {w:World} {K:YD} {elts:YJ} {k:Nat} {pos:Pos} (a e it:Addr) (lo:Nat) (nei:e≠it):Turn P w K (.Tuple elts k pos) (Py K a lo) [e,it] e (λi h=>(∃old,IsEnum h e it ((lo+i:Nat):Int) old)/\h.IsTupleIter it a i) where
 mem:=by simp
 obj:=λi h st b hb=>by
  obtain⟨⟨old,he⟩,o,ho,hc,hd⟩:=st;rcases Qcj.mp hb with rfl | hb
  ·exact⟨_,he,λv z=>by cases (show Data.fields _=Data.cell v from z)⟩
  ·have:b=it:=by simpa using hb
   subst this;exact⟨o,ho,λv z=>by rw[hd] at z;cases z⟩
 keep:=λi h h' st k=>by
  obtain⟨⟨old,he⟩,hi⟩:=st;exact⟨⟨old,k e (by simp) _ he⟩,hi.at λo q=>k it (by simp) o q⟩
 item:=by
  intro X hP hw hK hc i jb s U H E I hf st hg;subst hP hw hK;obtain⟨xs,x,hq,hx⟩:=hg;obtain⟨its,rv,p,hz⟩:=I.tuple hq;obtain⟨u,hu,ru⟩:=rv.get hx;obtain⟨⟨old,he⟩,hit⟩:=st;have hts:s.heap.IsTuple a its.toArray:=p;have ane:a≠e:=λz=>by
   obtain⟨o,ho,hcl,_⟩:=hts;rw[z,he] at ho;cases ho;injection hcl with q;exact absurd q (by decide)
  have ani:a≠it:=λz=>by
   obtain⟨o,ho,hcl,_⟩:=hts;obtain⟨o',ho',hcl',_⟩:=hit;rw[z,ho'] at ho;cases ho;rw[hcl'] at hcl;injection hcl with q;exact absurd q (by decide)
  have hlt:i < its.toArray.size:=by
   have:=(Qai.mp hu).1;simpa using this
  have D:=(Draws.tup (prog:=X.prog) (w:=X.w) (A:=X.A.in1) (I.ok.hd hc) it a ani its.toArray).from lo;refine wpAny_pyNext_enum_itemD D he ⟨i,rq,Qcx hlt,hit,hts⟩ (by omega) nei (by simp[nei,ane.symm]) λy h1 tk hP ho hst hT hsz hk=>?_;obtain⟨i',ei,hy⟩:=hP;have:i'=i:=by omega
  subst this;have ey:y=u:=by
   have h2:its.toArray[i']?=some u:=by simpa using hu
   rw[h2] at hy;exact (QbS hy).symm
  subst ey;refine⟨_,rq,wpAny_letOwnedTupleGo_enum ho λh2 he2 hs2=>?_⟩;have hlt2:s.heap.objs.size≠e:=Qcy (Qct he);have hT2:h2.get? s.heap.objs.size=some { cls:=.type "tuple",data:=.seq #[.int ((lo+i':Nat):Int) tk,y] }:=(hs2.2 _ hlt2).trans hT;have new:Bt X.prog X.w (upd H s.heap.objs.size (.tup [.int ((lo+i':Nat):Int),x])) h2 s.heap.objs.size (.tup [.int ((lo+i':Nat):Int),x]):=
   ⟨by show 2<=sizeLine;decide,[.int ((lo+i':Nat):Int) tk,y],.cons ⟨tk,rq⟩ (.cons ru .nil),_,hT2,rq,0,rq⟩
  have I1:=I.Pz (h':=h2) (t':=tk+1) (QcD _) (λb q hb z=>(hs2.2 b (λw=>hb (by simp[w]))).trans (hk b q (λw=>hb (by simp[w])) (λw=>hb (by simp[w])) z)) hf new;refine⟨.ref s.heap.objs.size,_,I1,rq,⟨s.heap.objs.size,x,I.hok.fresh (QcD _),rq,rq,λys hy'=>by rw[I.ZF hy' hq];exact hx⟩,⟨⟨y,?_⟩,?_⟩,λb hb=>?_⟩
  ·have:=he2;rw[show ((lo+(i'+1):Nat):Int)=((lo+i':Nat):Int)+1 by omega];exact this
  ·obtain⟨i2,e2,_,st2,_⟩:=hst;have:i2=i'+1:=by omega
   subst this;exact st2.at λo q=>(hs2.2 it (Ne.symm nei)).trans q
  ·have hb':b < s.heap.objs.size:=by
    rcases Qcj.mp hb with rfl | hb
    ·exact Qct he
    ·have:b=it:=by simpa using hb
     subst this;obtain⟨o,ho',_⟩:=hit;exact Qct ho'
   rw[Aq (Qcu hb')];exact (hf b hb).1
 done:=by
  intro X hP hw hK hc i jb s U H E I hf st hg;subst hP hw hK;obtain⟨xs,hq,hx⟩:=hg;obtain⟨its,rv,p,hz⟩:=I.tuple hq;obtain⟨⟨old,he⟩,hit⟩:=st;have hl:=rv.length;exact gU (I.ok.hd hc) he hit (show s.heap.IsTuple a its.toArray from p) (by simp;omega) λh' eb=>⟨rq,I.N7 (t':=s.toks) (λb o hb q=>eb b o (λz=>hb (by simp[z])) q) hf⟩
 self:=λ_ _ _ _ _ st h=>let ⟨⟨_,he⟩,_⟩:=st;wpAny_pyIter_enum he h
end L2
namespace PySem
open Sem (wp)
open AutoSeq1 (wpAny_loadPart')
theorem Za (l:Addr) (items:Array Value) (n:Nat) (dct:Option Addr) (sl:YI) :
  Meets (Builtin.«enumerate.__new__» ⟨[.type "enumerate",.ref l],[]⟩) (λ_ R s=>s.heap.get? l=some { cls:=.type "tuple",dict:=dct,data:=.seq items n,slots:=sl } /\
   R (.ok (.ret (.ref (s.heap.push { cls:=.type "tuple_iterator",data:=.fields #[.ref l,.int 0 0] }).objs.size)))
    { s with heap:=(s.heap.push { cls:=.type "tuple_iterator",data:=.fields #[.ref l,.int 0 0] }).push { cls:=.type "enumerate",data:=.fields #[.none,.bool false,.ref s.heap.objs.size,rawInt 0,.none,.none] } }):=
 .of_wp λprog w A R s h=>by
  obtain⟨hp,g,d,tk,os⟩:=s;obtain⟨hl,h⟩:=h;have hsub:=sub_enumerate;have hL:Heap.IsTuple (Shared.heap ⟨hp,g,d,tk,os⟩) l items:=⟨_,hl,rq,n,rq⟩
  wp_walk using wpAny_loadPart' hl
  refine wpAny_stack_any λst=>QcK ?_;split
  ·rename_i c _ _ _ _ _;cases (c == Value.type "enumerate")
   ·wp_walk using wpAny_loadPart' hl,Qbh hL
    exact⟨_,rq,h⟩
   ·wp_walk using wpAny_loadPart' hl,Qbh hL
    exact⟨_,rq,h⟩
  ·wp_walk using wpAny_loadPart' hl,Qbh hL
   exact⟨_,rq,h⟩
theorem Xr (l:Addr) (items:Array Value) (n:Nat) (dct:Option Addr) (sl:YI) (t:Tok) :
  Meets (Builtin.«enumerate.__new__» ⟨[.type "enumerate",.ref l],[("start",.int 1 t)]⟩) (λ_ R s=>s.heap.get? l=some { cls:=.type "tuple",dict:=dct,data:=.seq items n,slots:=sl } /\
   R (.ok (.ret (.ref (s.heap.push { cls:=.type "tuple_iterator",data:=.fields #[.ref l,.int 0 0] }).objs.size)))
    { s with heap:=(s.heap.push { cls:=.type "tuple_iterator",data:=.fields #[.ref l,.int 0 0] }).push { cls:=.type "enumerate",data:=.fields #[.none,.bool false,.ref s.heap.objs.size,rawInt 1,.none,.none] } }):=
 .of_wp λprog w A R s h=>by
  obtain⟨hp,g,d,tk,os⟩:=s;obtain⟨hl,h⟩:=h;have hsub:=sub_enumerate;have hL:Heap.IsTuple (Shared.heap ⟨hp,g,d,tk,os⟩) l items:=⟨_,hl,rq,n,rq⟩
  wp_walk using wpAny_loadPart' hl
  refine wpAny_stack_any λst=>QcK ?_;split
  ·rename_i c _ _ _ _ _;cases (c == Value.type "enumerate")
   ·wp_walk using wpAny_loadPart' hl,Qbh hL
    exact⟨_,rq,h⟩
   ·wp_walk using wpAny_loadPart' hl,Qbh hL
    exact⟨_,rq,h⟩
  ·wp_walk using wpAny_loadPart' hl,Qbh hL
   exact⟨_,rq,h⟩
end PySem
namespace PySem
open Sem (wp)
section
variable {prog:Program} {w:World} {A:Around} {E:YA} {s:Shared}
theorem Y8 {T newId:String} {self:Value} {rest:YE} {kw:List (Str×Value)} (hl:typeLookup (.type T) "__init__"=pure (some (.builtin "object.__init__")))
  (hm:Bind.madeBy (.type T)=pure (some newId)) (hne:(some newId != some "object.__new__")=true) :
  Meets (Builtin.«object.__init__» ⟨self::rest,kw⟩) (λ_ R s=>s.TypeIs self T/\R (.ok (.ret .none)) s):=by
 refine Meets.of_wp λprog w A R s hs=>?_;obtain⟨hT,hq⟩:=hs;cases rest with
 | nil=>
  cases kw with
  | nil=>exact QcK ⟨_,rfl,hq⟩
  | cons k kw=>
   repeat (any_goals (first | assumption | wp_step))
   exact⟨_,rq,hq⟩
 | cons a rest=>
  repeat (any_goals (first | assumption | wp_step))
  exact⟨_,rq,hq⟩
theorem uE {T newId:String} {Bn:Builtin} {args:YE} {kw:List (Str×Value)} {S:Spec} {Q:YA} (ft:TypeCalled T newId "object.__init__") (hne:(some newId != some "object.__new__")=true)
  (hct:checkTypeCall T ⟨args,kw⟩=pure ()) (hcn:checkBuiltinCall newId ⟨.type T::args,kw⟩=pure ()) (hok:∀obj,argsOk "object.__init__" ⟨obj::args,kw⟩)
  (entryN:entryFor table newId=some Bn) (g:Meets (Bn ⟨.type T::args,kw⟩) S) (h:S A.in1 (wants (λobj s₁=>s₁.TypeIs obj T/\Q obj s₁) E) s) :
  wpAny (model prog w) A (call (.type T) args kw) Q E s:=by
 obtain⟨c,tl,hmro⟩:=ft.mro;have hmade:=ft.made;have hsub:=ft.sub;refine wpAny_call (codeAny_of_tree ?_);show wpAny _ _ (callAny (.type T) _) _ _ _;refine QcK ⟨Code.quiet_builtin _ (by trivial),Qcc F.entry_type_call ?_⟩;rw[Around.under_plain (weight_type_call_type T args kw) (units_type_call_type T args kw)];have h1:=ft.notType;have h2:=ft.canCreate
 repeat (any_goals (first | assumption | wp_step))
 refine Qcz (QaN ft.plain entryN (wpAny_of_eq hcn (g prog w A.in1 _ s h))) λr s₁ hr=>?_;cases r with
 | error e=>exact hr
 | ok fl=>
  cases fl with
  | ret obj=>
   obtain⟨hT,hq⟩:=hr;have hli:=ft.init.lookup;have hbi:=ft.init.bind obj
   repeat (any_goals (first | assumption | wp_step))
   refine Qcz (QaN ft.init.plain F.entry_object_init (ft.init.check _ _ _ _ _ _ _ _ hT (hok obj) (Y8 ft.init.lookup ft.made hne prog w A.in1 (wants (λr s₂=>r=.none/\Q obj s₂) E) s₁ ⟨hT,rq,hq⟩))) λr₂ s₂ hr₂=>?_;cases r₂ with
   | error e=>exact hr₂
   | ok fl₂=>
    cases fl₂ with
    | ret r=>
     obtain⟨rfl,hq2⟩:=hr₂
     repeat (any_goals (first | assumption | wp_step))
    | _=>exact hr₂.elim
  | _=>exact hr.elim
end
end PySem
namespace PyProof.Rows
open PySem
section
variable {M:Model} {A:Around} {E:YA} {s:Shared} {env:Env}
theorem XR {pos:Pos} {T:String} {e:Expr} {rest:YJ} {kws:List Keyword} {Q:YA}
  (h:wpAny M A (spliced (backTo pos (starEach (e::rest) env))) (λvs s₁=>wpAny M A (evalAll ((backToKw pos (keywordEach kws env)).map (·.2))) (λkvs s₂=>wpAny M A (call (.type T) vs (((backToKw pos (keywordEach kws env)).filterMap (·.1)).zip kvs)) Q E s₂) E s₁) E s)
  (he:backTo pos (starEach (e::rest) env)=(false,eval e env)::backTo pos (starEach rest env):=by rfl) (hplain:(backTo pos (starEach (e::rest) env)).any (·.1)=false:=by rfl)
  (hall:(backToKw pos (keywordEach kws env)).all (·.1.isSome)=true:=by rfl) (hkw:(backToKw pos (keywordEach kws env)).any (·.1.isNone)=false:=by rfl) :
  wpAny M A (callWith pos (.type T) [] (backTo pos (starEach (e::rest) env)) (backToKw pos (keywordEach kws env))) Q E s:=by
 have h2:wpAny M A (evalArgs (.type T) true (backTo pos (starEach (e::rest) env)) (backToKw pos (keywordEach kws env))) (λa s₁=>wpAny M A (call (.type T) ([]++a.pos) a.kw) Q E s₁) E s:=by
  rw[he] at h ⊢;exact evalArgs_kwB hall h
 unfold callWith;refine QcJ (Qcn (QcL h2 (λa s₁ h₁=>QcJ (Qcq ?_)) λ_ _ x=>x));simp only[hplain,hkw,Qcr];exact QcJ (QcK (QcJ (QcL h₁ (λr s₂ hr=>QcJ (Qcn (wpAny_point (QcK hr)))) λ_ _ x=>x)))
end
end PyProof.Rows
namespace L2
open PySem PySem.Spec PyProof.Rows
section
variable {X:Cx}
theorem lU {jb:YC} {U : St} {H:Hp} {s:Shared} {R:It->Hp->Prop} {E:YA} {elts:YJ} {k:Nat} {pos:Pos} {a:Addr} {lo:Nat} {tk:Nat} (I:Inv X jb U H s) (q:R (Py X.K a lo) H) :
  wpAny (model X.prog X.w) X.A (pyIter (.ref (s.heap.objs.size+1))) (PIE X jb U (.Tuple elts k pos) R) E
   { s with heap:=(s.heap.push { cls:=.type "tuple_iterator",data:=.fields #[.ref a,.int 0 0] }).push { cls:=.type "enumerate",data:=.fields #[.none,.bool false,.ref s.heap.objs.size,rawInt (lo:Int),.none,.none] },toks:=tk }:=by
 have hz:(s.heap.push { cls:=.type "tuple_iterator",data:=.fields #[.ref a,.int 0 0] }).objs.size=s.heap.objs.size+1:=Qce ..;have he:IsEnum ((s.heap.push { cls:=.type "tuple_iterator",data:=.fields #[.ref a,.int 0 0] }).push { cls:=.type "enumerate",data:=.fields #[.none,.bool false,.ref s.heap.objs.size,rawInt (lo:Int),.none,.none] }) (s.heap.objs.size+1) s.heap.objs.size (lo:Int) .none:=by
  have:=QaP (s.heap.push { cls:=.type "tuple_iterator",data:=.fields #[.ref a,.int 0 0] }) (o:={ cls:=.type "enumerate",data:=.fields #[.none,.bool false,.ref s.heap.objs.size,rawInt (lo:Int),.none,.none] }) rfl;rw[hz] at this;exact this
 refine wpAny_pyIter_enum he ⟨s.heap.objs.size+1,[s.heap.objs.size+1,s.heap.objs.size],_,_,H,rq,I.kept (t':=tk) λb o e=>Qaz _ (Qaz _ e),mO a (s.heap.objs.size+1) s.heap.objs.size lo (Nat.succ_ne_self _),⟨⟨.none,he⟩,⟨_,Qaz _ (QaP _ rfl),rq,rq⟩⟩,λb hb=>?_,q⟩;have hb':s.heap.objs.size<=b:=by
  simp only[Qcj,QbE,QcN] at hb;rcases hb with rfl | rfl
  ·exact QcI _
  ·exact QcD _
 exact I.QT hb' (I.hok.fresh hb')
end
section
variable {X:Cx}
def zM (K:YD) (lo:Nat) (tl:TE):TI:=fun U H R=>tl U H λx H1=>∃a,x=.ref a/\(∃xs,SqT K H1 a xs)/\R (Py K a lo) H1
theorem pQ {jb:YC} {U : St} {H:Hp} {s:Shared} {R:It->Hp->Prop} {elts:YJ} {k:Nat} {pos:Pos} {a:Addr} {xs:YG} (I:Inv X jb U H s) (hq:SqT X.K H a xs) (q:R (Py X.K a 0) H) :
  wpAny (model X.prog X.w) X.A (call (.type "enumerate") [.ref a]) (λv s1=>wpAny (model X.prog X.w) X.A (pyIter v) (PIE X jb U (.Tuple elts k pos) R) X.xe s1) X.xe s:=by
 obtain⟨its,rv,p,hz⟩:=I.tuple hq;obtain⟨⟨c,dct,dt,sl⟩,hl,hc,n,hd⟩:=id p;replace hc:c=.type "tuple":=hc;replace hd:dt=.seq its.toArray n:=hd;subst hc hd;refine callType_new F.called_enumerate (by decide) (F.typeCall_enumerate_1 _) (F.newCall_enumerate_1 _) (λobj=>F.args_object_init_2 obj _) F.entry_enumerate_new (Za a its.toArray n dct sl) ⟨hl,?_⟩;have hz:(s.heap.push { cls:=.type "tuple_iterator",data:=.fields #[.ref a,.int 0 0] }).objs.size=s.heap.objs.size+1:=Qce ..;show _/\_;refine⟨⟨_,QaP _ rfl,rq⟩,?_⟩;rw[hz];exact lU (lo:=0) (tk:=s.toks) I q
end
section
variable {X:Cx}
theorem V6 {x:Expr} {tx:TE} {p pos tp:Pos} {elts:YJ} {k:Nat} (hg:Gl X "enumerate") (hm:X.mg "enumerate"=none) (hl:PE X x tx) (hs:starEach [x] X.env=[(false,eval x X.env)]:=by rfl):PI X (.Tuple elts k tp) (.Call (.Name "enumerate" p) [x] [] pos) (zM X.K 0 tx):=by
 intro jb s U H R I h;refine Call_ (Jy I hg hm boot_enumerate (Qae (thn ((Aa hl Ac (by rw[hs];rfl)) pos jb s U H (λvs H1=>match vs with | [v]=>∃a,v=.ref a/\(∃xs,SqT X.K H1 a xs)/\R (Py X.K a 0) H1 | _=>False) I h) λus s1 ⟨vs,H1,I1,r1,q1⟩=>?_) hs rfl))
 cases r1 with
 | nil=>exact False.elim q1
 | cons r rr=>
  cases rr with
  | nil=>
   obtain⟨a,e,⟨xs,hq⟩,q⟩:=q1;subst e;cases r;exact pQ I1 hq q
  | cons _ _=>exact False.elim q1
theorem pP {jb:YC} {U : St} {H:Hp} {s:Shared} {R:It->Hp->Prop} {elts:YJ} {k:Nat} {pos:Pos} {a:Addr} {xs:YG} {t:Tok} (I:Inv X jb U H s) (hq:SqT X.K H a xs) (q:R (Py X.K a 1) H) :
  wpAny (model X.prog X.w) X.A (call (.type "enumerate") [.ref a] [("start",.int 1 t)]) (λv s1=>wpAny (model X.prog X.w) X.A (pyIter v) (PIE X jb U (.Tuple elts k pos) R) X.xe s1) X.xe s:=by
 obtain⟨its,rv,p,hz⟩:=I.tuple hq;obtain⟨⟨c,dct,dt,sl⟩,hl,hc,n,hd⟩:=id p;replace hc:c=.type "tuple":=hc;replace hd:dt=.seq its.toArray n:=hd;subst hc hd;refine uE F.called_enumerate (by decide) (by kernel_rfl) (by kernel_rfl) (λobj=>?ok) F.entry_enumerate_new (Xr a its.toArray n dct sl t) ⟨hl,?_⟩
 case ok=>
  unfold argsOk;rw[signature?_of (id:="object.__init__") (n:=['_','_','t','i','n','i','_','_']) (o:=['t','c','e','j','b','o']) (by kernel_rfl) F.owner_object]
  kernel_rfl
 have hz:(s.heap.push { cls:=.type "tuple_iterator",data:=.fields #[.ref a,.int 0 0] }).objs.size=s.heap.objs.size+1:=Qce ..;show _/\_;refine⟨⟨_,QaP _ rfl,rq⟩,?_⟩;rw[hz];exact lU (lo:=1) (tk:=s.toks) I q
theorem OJ {x one:Expr} {tx:TE} {p pos tp kp:Pos} {elts:YJ} {k:Nat} (hg:Gl X "enumerate") (hm:X.mg "enumerate"=none) (hl:PE X x tx) (h1:PE X one (tC (.int 1))) (hs:starEach [x] X.env=[(false,eval x X.env)]:=by rfl)
  (hall:(backToKw pos (keywordEach [⟨some "start",one,kp⟩] X.env)).all (·.1.isSome)=true:=by rfl) (hkw:(backToKw pos (keywordEach [⟨some "start",one,kp⟩] X.env)).any (·.1.isNone)=false:=by rfl)
  (hks:(backToKw pos (keywordEach [⟨some "start",one,kp⟩] X.env)).filterMap (·.1)=(["start"]:YF):=by rfl) :
  PI X (.Tuple elts k tp) (.Call (.Name "enumerate" p) [x] [⟨some "start",one,kp⟩] pos) (zM X.K 1 tx):=by
 intro jb s U H R I h;refine Qbk (Jy I hg hm boot_enumerate (PyProof.Rows.XR (thn ((Aa hl Ac (by rw[hs];rfl)) pos jb s U H (λvs H1=>match vs with | [v]=>∃a,v=.ref a/\(∃xs,SqT X.K H1 a xs)/\R (Py X.K a 1) H1 | _=>False) I h) λus s1 ⟨vs,H1,I1,r1,q1⟩=>?_) (by rw[hs];rfl) (by rw[hs];rfl) hall hkw))
 refine thn ((AW h1 DE) pos jb s1 U H1 (λks H2=>H2=H1/\ks=[.int 1]) I1 ⟨rq,rq⟩) λws s2 zz=>?_;obtain⟨zs,H2,I2,rz,e2,ez⟩:=zz;subst e2 ez;cases rz with
 | cons rz1 rz2=>
  cases rz2;obtain⟨t,rfl⟩:=rz1;rw[hks];cases r1 with
  | nil=>exact False.elim q1
  | cons r rr=>
   cases rr with
   | nil=>
    obtain⟨a,e,⟨xs,hq⟩,q⟩:=q1;subst e;cases r;exact pP I2 hq q
   | cons _ _=>exact False.elim q1
theorem JX {K:YD} {a:Addr} {lo:Nat} {xs:YG} {g:TG} {tb:TS} {D:Ends} {U : St} {H:Hp} (Pv:YN) (h0:Pv 0 U H) (hl:∀i U H',i<=xs.length->Pv i U H'->SqT K H' a xs)
  (hs:∀i x p U H',xs[i]?=some x->Pv i U H'->H' p=none->g (.ref p) U (upd H' p (.tup [.int ((lo+i:Nat):Int),x])) fun σ2 H2=>tb { D with nx:=Pv (i+1),ct:=Pv (i+1),bk:=D.nx } σ2 H2) (hd:∀ U H',Pv xs.length U H'->D.nx U H') :
  ∃W:Nat->YN,(∃m,W 0 m U H)/\∀i m U H,W i m U H ->
   ((Py K a lo).stop i H/\D.nx U H)\/((Py K a lo).go i H/\∃N:YO,(∀ σ' H',N σ' H'->∃m',m' < m/\W (i+1) m' σ' H')/\∀x H',(Py K a lo).yld i H x H'->g x U H' fun σ2 H2=>tb { D with nx:=N,ct:=N,bk:=D.nx } σ2 H2):=by
 refine⟨λi m U H=>m=xs.length - i/\i<=xs.length/\Pv i U H,⟨xs.length,by simp,QcE _,h0⟩,?_⟩;rintro i m U H ⟨rfl,hi,p⟩;have q:=hl i U H hi p;by_cases hlt:i < xs.length
 ·refine .inr ⟨⟨xs,xs[i],q,by simp[hlt]⟩,Pv (i+1),fun σ3 H3 p'=>⟨xs.length - (i+1),by omega,rq,hlt,p'⟩,λv H2 y=>?_⟩;obtain⟨pa,x,hn,rfl,rfl,hx⟩:=y;exact hs i x pa U _ (hx xs q) p hn
 ·have e:i=xs.length:=by omega
  subst e;exact .inl ⟨⟨xs,q,QcD _⟩,hd U H p⟩
theorem ur {K:YD} {a l:Addr} {lo:Nat} {xs:YG} {g:TG} {tt:TT} {te:TE} {Q:VK} {σ0:St} {H0:Hp} (Pv:YN)
  (h0:Pv 0 σ0 H0) (hl:∀i U H',i<=xs.length->Pv i U H'->SqT K H' a xs)
  (hs:∀i x p U H',xs[i]?=some x->Pv i U H'->H' p=none->g (.ref p) U (upd H' p (.tup [.int ((lo+i:Nat):Int),x])) fun σ3 H3=>tt σ3 H3 λb H4=>if b=true then te σ3 H4 λy H5=>∃ys,H5 l=some (.lst ys)/\ys.length < sizeLine/\Pv (i+1) σ3 (upd H5 l (.lst (ys++[y]))) else Pv (i+1) σ3 H4)
  (hd:∀ U H',Pv xs.length U H'->Q (.ref l) H'):Gs (Py K a lo) g tt te Q σ0 H0 l:=by
 unfold Gs;refine⟨λi m U H'=>m=xs.length - i/\i<=xs.length/\Pv i U H',⟨xs.length,by simp,QcE _,h0⟩,?_⟩;rintro i m U H' ⟨rfl,hi,p⟩;have q:=hl i U H' hi p;by_cases hlt:i < xs.length
 ·refine .inr ⟨⟨xs,xs[i],q,by simp[hlt]⟩,Pv (i+1),fun σ3 H3 p'=>⟨xs.length - (i+1),by omega,rq,hlt,p'⟩,λv H2 y=>?_⟩;obtain⟨pa,x,hn,rfl,rfl,hx⟩:=y;exact hs i x pa U _ (hx xs q) p hn
 ·have e:i=xs.length:=by omega
  subst e;exact .inl ⟨⟨xs,q,QcD _⟩,hd U H' p⟩
end
section
variable {X:Cx}
theorem range_any (bs:List Bool):((List.range bs.length).any λi=>(bs[i]?).getD false)=bs.any id:=by
 induction bs with
 | nil=>rfl
 | cons b r ih=>
  rw[QbC,List.range_succ_eq_map,Qco,List.any_map,Qco];show ((some b).getD false || _)=_;rw[show ((λi=>((b::r)[i]?).getD false) ∘ Nat.succ)=λi=>(r[i]?).getD false from by funext i;simp[Function.comp]]
  rw[ih];rfl
theorem iJ (hc:X.calm=true):DW X (.builtin "any") (λxs H Q=>∃(p:Addr) (bs:List Bool),xs=[.ref p]/\SqL X.K H p (bs.map V.bl)/\Q (.bl (bs.any id)) H):=by
 intro jb s U H xs us Q I r h;obtain⟨p,bs,rfl,hq,q⟩:=h;obtain⟨u,rfl,rx⟩:=vals1 r;cases rx;obtain⟨its,rv,pl,hz⟩:=I.list hq;have hb:=Wu rv;have hl:=pl.isList;have hlt:p < s.heap.objs.size:=by obtain⟨_,e,_⟩:=hl;exact Qct e
 refine call_any_walk (Qby hl ?_);refine⟨s.heap.objs.size,[s.heap.objs.size,p],[s.heap.objs.size],its.toArray.size,_,_,λi=>(bs[i]?).getD false,rq,Walks.list (A:=X.A.in1) (I.ok.hd hc) _ p (Qcu hlt) its.toArray,
  ⟨⟨_,QaP _ rfl,rq,rq⟩,hl.push _⟩,λi v s' Q' E' hP hQ=>?_,λh' tk hk=>?_⟩
 ·obtain⟨b,e,rfl⟩:=hb.get i v (by simpa using hP);simp only[e,Option.getD_some] at hQ;exact Qbv hQ
 ·have e:((List.range its.toArray.size).any λi=>(bs[i]?).getD false)=bs.any id:=by
   rw[Qbo,hb.length];exact range_any bs
  rw[e];exact⟨.bl (bs.any id),H,I.kept (LSm.kept_iter hk),rq,q⟩
def F7 (i j:Int):Prop:=i.natAbs < 2 ^ 8000/\j.natAbs < 2 ^ 8000
theorem iU {k:Int} (h:k.natAbs < 2 ^ 8000):Builtin.Int.intBits k<=8000:=by
 unfold Builtin.Int.intBits;split
 ·exact QcE _
 ·rcases Nat.eq_zero_or_pos k.natAbs with h0 | hp
  ·rw[h0];decide
  ·have:=(Nat.log2_lt (Qcy hp)).mpr h;omega
theorem F7.ok {i j:Int} (h:F7 i j):IntMulOk i j:=by
 have h1:=iU h.1;have h2:=iU h.2;unfold IntMulOk;have e:Builtin.Int.intTooBig (Builtin.Int.intBits i+Builtin.Int.intBits j)=false:=by
  unfold Builtin.Int.intTooBig;rw[bitsLine_eq];exact QbR (by omega)
 rw[e,Bool.and_false];exact Qba
end
end L2
namespace PySem.ZZ
open PySem
section
variable {prog:Program} {w:World} {A:Around} {E:YA} {s:Shared}
theorem Wo {M:Model} {α β : Type} {Q:β->Shared->Prop} {body:α->β->Sem (ForInStep β)} (J:List α->β->Shared->Prop) (hnil:∀b s,J [] b s->Q b s)
  (hstep:∀x r b s,J (x::r) b s->wpAny M A (body x b) (λst s'=>match st with | .yield b'=>J r b' s' | .done b'=>Q b' s') E s):∀(l:List α) (b:β) (s:Shared),J l b s->wpAny M A (forIn l b body) Q E s
 | [],b,s,h=>by
  rw[List.forIn_nil];exact QcK (hnil b s h)
 | x::r,b,s,h=>by
  rw[List.forIn_cons];refine QcJ (QcL (hstep x r b s h) (λst s' q=>?_) λ_ _ e=>e);cases st with
  | yield b'=>exact Wo J hnil hstep r b' s' q
  | done b'=>exact QcK q
structure Src where
 it:Addr
 a:Addr
 items:Array Value
def SrcAt (h:Heap) (x:Src) (i:Nat):Prop:=(h.IsListIter x.it x.a i/\h.IsList x.a x.items)\/(h.IsTupleIter x.it x.a i/\h.IsTuple x.a x.items)
theorem SrcAt.keep {h h':Heap} {x:Src} {i:Nat} (q:SrcAt h x i) (k1:∀o,h.get? x.it=some o->h'.get? x.it=some o) (k2:∀o,h.get? x.a=some o->h'.get? x.a=some o):SrcAt h' x i:=by
 rcases q with⟨q1,q2⟩|⟨q1,o,e,r⟩
 ·exact .inl ⟨q1.at k1,q2.at k2⟩
 ·exact .inr ⟨q1.at k1,o,k2 o e,r⟩
theorem SrcAt.ne {h:Heap} {x:Src} {i:Nat} (q:SrcAt h x i):x.a≠x.it:=λz=>by
 rcases q with⟨⟨o,e,c,_⟩,⟨o',e',c',_⟩⟩|⟨⟨o,e,c,_⟩,⟨o',e',c',_⟩⟩
 ·rw[z,e] at e';cases e';rw[c] at c';injection c' with y;exact absurd y (by decide)
 ·rw[z,e] at e';cases e';rw[c] at c';injection c' with y;exact absurd y (by decide)
theorem SrcAt.ex {h:Heap} {x:Src} {i:Nat} (q:SrcAt h x i):(∃o,h.get? x.it=some o)/\∃o,h.get? x.a=some o:=by
 rcases q with⟨⟨o,e,_⟩,⟨o',e',_⟩⟩|⟨⟨o,e,_⟩,⟨o',e',_⟩⟩
 ·exact⟨⟨o,e⟩,o',e'⟩
 ·exact⟨⟨o,e⟩,o',e'⟩
theorem cu {x:Src} {i:Nat} {v:Value} {Q:YA} (q:SrcAt s.heap x i) (hx:x.items[i]?=some v) (hQ:∀h',SrcAt h' x (i+1)->Heap.SameBut x.it s.heap h'->Q v { s with heap:=h' }) :
  wpAny (model prog w) A (Builtin.SmallTypes.nextOf (.ref x.it)) Q E s:=by
 have ne:=q.ne;rcases q with⟨q1,q2⟩|⟨q1,q2⟩
 ·exact wpAny_nextOf_list_item q1 q2 hx λh' i1 sb=>hQ h' (.inl ⟨i1,q2.at λo e=>sb.extBut _ _ ne e⟩) sb
 ·exact Qe q1 q2 hx λh' i1 sb=>hQ h' (.inr ⟨i1,let ⟨o,e,r⟩:=q2;⟨o,sb.extBut _ _ ne e,r⟩⟩) sb
theorem AK {x:Src} {i:Nat} {Q:YA} (hh:A.handled=none) (q:SrcAt s.heap x i) (hx:x.items[i]?=none)
  (hE:∀h' e,Heap.ExtBut x.it s.heap h'->(∃o,h'.get? e=some o/\o.cls=.type "StopIteration")->E (.ref e) { s with heap:=h' }):wpAny (model prog w) A (Builtin.SmallTypes.nextOf (.ref x.it)) Q E s:=by
 rcases q with⟨q1,q2⟩|⟨q1,q2⟩
 ·exact wpAny_nextOf_list_end hh q1 q2 hx hE
 ·exact Lk hh q1 q2 hx hE
abbrev IsZ (h:Heap) (z TI TO:Addr) (f0 f1:Value):Prop:=h.get? z=some { cls:=.type "zip",dict:=none,data:=.fields #[f0,f1,.bool false,.ref TI,.ref TO],slots:=#[] }
abbrev DY (h:Heap) (T:Addr) (xs:YE):Prop:=h.get? T=some { cls:=.type "tuple",data:=.seq xs.toArray }
structure Apart (z TI TO:Addr) (ls:List Src):Prop where
 TIz:TI≠z
 TOz:TO≠z
 TITO:TI≠TO
 it:∀x∈ls,x.it≠z/\x.it≠TI/\x.it≠TO
 a:∀x∈ls,x.a≠z/\x.a≠TO
 ai:∀x∈ls,∀y∈ls,x.a≠y.it
 nd:(ls.map (·.it)).Nodup
def Rest (z TO:Addr) (ls:List Src) (h h':Heap):Prop:=∀c o,c≠z->c≠TO->c∉ls.map (·.it)->h.get? c=some o->h'.get? c=some o
theorem AN {xs olds:YE} {k:Nat} {v:Value} (hk:k < olds.length) (hx:xs.length=olds.length) (e:xs[k]?=some v):(xs.take k++olds.drop k).toArray.setIfInBounds k v=(xs.take (k+1)++olds.drop (k+1)).toArray:=by
 rw[List.setIfInBounds_toArray];congr 1;have hl:(xs.take k).length=k:=by rw[QbD];omega
 rw[List.set_append_right _ _ (by omega),hl,Nat.sub_self,Qal hk,Qbb,List.take_add_one,e];simp
structure Mid (z TI TO:Addr) (ls:List Src) (xs olds:YE) (i:Nat) (f0 f1:Value) (h:Heap) (k:Nat) (h':Heap):Prop where
 hz:IsZ h' z TI TO f0 f1
 hTI:DY h' TI (ls.map λx=>.ref x.it)
 done:∀j x,ls[j]?=some x->SrcAt h' x (if j < k then i+1 else i)
 rest:Rest z TO ls h h'
 size:h'.objs.size=h.objs.size
theorem Mid.draw {z TI TO:Addr} {ls:List Src} {xs olds:YE} {i:Nat} {f0 f1:Value} {h h1 h2:Heap} {k:Nat} {x:Src} (D:Apart z TI TO ls) (m:Mid z TI TO ls xs olds i f0 f1 h k h1) (hx:ls[k]?=some x) (q:SrcAt h2 x (i+1)) (sb:Heap.SameBut x.it h1 h2) :
  Mid z TI TO ls xs olds i f0 f1 h (k+1) h2:=by
 have hm:=QaK hx;have hi:=D.it x hm;refine⟨sb.extBut _ _ hi.1.symm m.hz,sb.extBut _ _ hi.2.1.symm m.hTI,λj y hy=>?_,λc o c1 c2 c3 e=>sb.extBut _ _ (λz=>c3 (z ▸ Qcs.mpr ⟨x,hm,rq⟩)) (m.rest c o c1 c2 c3 e),by rw[sb.1,m.size]⟩;by_cases hj:j=k
 ·subst hj;rw[hx] at hy;cases hy;rw[if_pos (QbH _)];exact q
 ·have h1:=m.done j y hy;have hne:y.it≠x.it:=λz=>hj (by
   have e1:(ls.map (·.it))[j]?=some y.it:=by rw[Qbq,hy];rfl
   have e2:(ls.map (·.it))[k]?=some x.it:=by rw[Qbq,hx];rfl
   rw[z] at e1;have l1:=(Qai.mp e1);have l2:=(Qai.mp e2);exact (List.getElem_inj D.nd).mp (l1.2.trans l2.2.symm))
  have hc:(if j < k+1 then i+1 else i)=(if j < k then i+1 else i):=by
   by_cases c:j < k
   ·rw[if_pos c,if_pos (by omega)]
   ·rw[if_neg c,if_neg (by omega)]
  rw[hc];exact h1.keep (λo e=>sb.extBut _ _ hne e) (λo e=>sb.extBut _ _ (D.ai y (QaK hy) x hm) e)
theorem Mid.other {z TI TO:Addr} {ls:List Src} {xs olds:YE} {i:Nat} {f0 f1:Value} {h h1 h2:Heap} {k:Nat} (D:Apart z TI TO ls) (m:Mid z TI TO ls xs olds i f0 f1 h k h1) (sb:Heap.SameBut TO h1 h2):Mid z TI TO ls xs olds i f0 f1 h k h2:=by
 refine⟨sb.extBut _ _ D.TOz.symm m.hz,sb.extBut _ _ D.TITO m.hTI,λj y hy=>?_,λc o c1 c2 c3 e=>sb.extBut _ _ c2 (m.rest c o c1 c2 c3 e),by rw[sb.1,m.size]⟩;have hm:=QaK hy;exact (m.done j y hy).keep (λo e=>sb.extBut _ _ (D.it y hm).2.2 e) (λo e=>sb.extBut _ _ (D.a y hm).2 e)
theorem aJ {z TI TO:Addr} {ls:List Src} {xs olds:YE} {i:Nat} {f1:Value} {Q:YA} (D:Apart z TI TO ls) (hz:IsZ s.heap z TI TO .none f1) (hTI:DY s.heap TI (ls.map λx=>.ref x.it)) (hTO:DY s.heap TO olds)
  (hat:∀x∈ls,SrcAt s.heap x i) (hne:ls≠[]) (hl1:xs.length=ls.length) (hl2:olds.length=ls.length) (hx:∀(j:Nat) (x:Src),ls[j]?=some x->∃v,xs[j]?=some v/\x.items[i]?=some v) (hsz:ls.length<=100)
  (hQ:∀h',IsZ h' z TI TO (rawInt s.heap.objs.size) (.bool false)->DY h' TI (ls.map λx=>.ref x.it)->DY h' TO xs->(∀x∈ls,SrcAt h' x (i+1))->DY h' s.heap.objs.size xs->h'.objs.size=s.heap.objs.size+1->Rest z TO ls s.heap h'->Q (.ref s.heap.objs.size) { s with heap:=h' }) :
  wpAny (model prog w) A (Builtin.«zip.__next__» ⟨[.ref z],[]⟩) (λfin s'=>∃v,fin=.done (.ret v)/\Q v s') E s:=by
 show wpAny _ _ (field (.ref z) 2 >>= _) _ _ _;refine QcJ (QcG hz rfl (x:=.bool false) rfl ?_);show wpAny _ _ (field (.ref z) 3 >>= _) _ _ _;refine QcJ (QcG hz rfl (x:=.ref TI) rfl ?_);refine QcJ (Qch hTI rfl ?_);dsimp only;rw[if_neg (by cases ls with | nil=>exact absurd rfl hne | cons a r=>simp)];show wpAny _ _ (Builtin.SmallTypes.ownedTupleIsFree (.ref z) >>= _) _ _ _;refine QcJ ?_;unfold Builtin.SmallTypes.ownedTupleIsFree;refine QcJ (QcG hz rfl (x:=.none) rfl (QcK ?_));simp only[if_true];refine QcJ (wpAny_rule ?_);refine QcJ (QcG hz rfl (x:=.ref TO) rfl ?_);refine QcJ (Qbi hz (by simp) λh₁ hz₁ hs₁=>?_);replace hz₁ : IsZ h₁ z TI TO .ellipsis f1:=hz₁;refine QcJ ?_;have m0:Mid z TI TO ls xs olds i .ellipsis f1 s.heap 0 h₁:=by
  refine⟨hz₁,hs₁.extBut _ _ D.TIz hTI,λj x hj=>?_,λc o c1 _ _ e=>hs₁.extBut _ _ c1 e,hs₁.1⟩;have hm:=QaK hj;rw[if_neg (QbZ _)];exact (hat x hm).keep (λo e=>hs₁.extBut _ _ (D.it x hm).1 e) (λo e=>hs₁.extBut _ _ (D.a x hm).1 e)
 have gD : DY h₁ TO (xs.take 0++olds.drop 0):=hs₁.extBut _ _ D.TOz hTO;refine Wo (λl b s'=>∃k h',k<=ls.length/\l=((ls.map λx=>Value.ref x.it).drop k).zipIdx k/\b=⟨none,⟨⟩⟩/\s'={ s with heap:=h' }/\Mid z TI TO ls xs olds i .ellipsis f1 s.heap k h'/\DY h' TO (xs.take k++olds.drop k)) (λb s' h=>?_) (λx r b s' h=>?_) _ _ _ ⟨0,h₁,QcE _,rq,rq,rq,m0,gD⟩
 ·obtain⟨k,h',hk,e1,rfl,rfl,m,hT⟩:=h;have hkl:k=ls.length:=by
   have:=congrArg List.length e1;rw[List.length_nil,List.length_zipIdx,QbG,QbM] at this;omega
  subst hkl;rw[<-hl1,QbB,hl1,<-hl2,List.drop_length,QbP] at hT;dsimp only;refine QcJ (Qch hT rfl ?_);refine QcJ (wpAny_newTuple ?_ (by show xs.length<=sizeLine;rw[QcH];omega));have hkl:∀j x,ls[j]?=some x->SrcAt h' x (i+1):=λj x hj=>by
   have:=m.done j x hj;rw[if_pos (Qai.mp hj).1] at this;exact this
  have hzlt:z < h'.objs.size:=Qct m.hz;have hTOlt:TO < h'.objs.size:=Qct hT;show wpAny _ _ (Builtin.SmallTypes.ownedTupleHandOut (.ref z) (.ref h'.objs.size) >>= _) _ _ _;refine QcJ ?_;unfold Builtin.SmallTypes.ownedTupleHandOut;have hz₆ : IsZ (h'.push { cls:=.type "tuple",data:=.seq xs.toArray }) z TI TO .ellipsis f1:=Qaz _ m.hz;refine QcJ (Qbi hz₆ (by simp) λh₇ hz₇ hs₇=>?_);replace hz₇ : IsZ h₇ z TI TO (rawInt h'.objs.size) f1:=hz₇;refine Qbi hz₇ (by simp) λh₈ hz₈ hs₈=>?_;replace hz₈ : IsZ h₈ z TI TO (rawInt h'.objs.size) (.bool false):=hz₈;have up:∀c o,c≠z->h'.get? c=some o->h₈.get? c=some o:=λc o c1 e=>hs₈.extBut _ _ c1 (hs₇.extBut _ _ c1 (Qaz _ e));have hT₈ : DY h₈ h'.objs.size xs:=hs₈.extBut _ _ (Qcy hzlt) (hs₇.extBut _ _ (Qcy hzlt) (QaP _ rfl));have hz8:h₈.objs.size=h'.objs.size+1:=by rw[hs₈.1,hs₇.1,Qce]
  have hsz':=m.size;rw[hsz'] at hz₈ hT₈ hz8;refine QcK ⟨_,rq,?_⟩;show Q (.ref h'.objs.size) _;rw[hsz'];refine hQ h₈ hz₈ (up _ _ D.TIz m.hTI) (up _ _ D.TOz hT) (λx hm=>?_) hT₈ hz8 λc o c1 c2 c3 e=>up c o c1 (m.rest c o c1 c2 c3 e);obtain⟨j,hj⟩:=QaO hm;exact (hkl j x hj).keep (λo e=>up _ o (D.it x hm).1 e) (λo e=>up _ o (D.a x hm).1 e)
 ·obtain⟨k,h',hk,e1,rfl,rfl,m,hT⟩:=h;have hkl:k < ls.length:=by
   have:=congrArg List.length e1;rw[QbC,List.length_zipIdx,QbG,QbM] at this;omega
  obtain⟨y,hy⟩ : ∃y,ls[k]?=some y:=⟨_,Qao hkl⟩;have hm:=QaK hy;rw[Qal (by rw[QbM];exact hkl),List.zipIdx_cons,List.getElem_map] at e1;have ey:ls[k]=y:=(Qai.mp hy).2;rw[ey] at e1;injection e1 with e1 e2;subst e1 e2;obtain⟨v,hv1,hv2⟩:=hx k y hy;refine QcJ (wpAny_onRaise ?_);show wpAny _ _ (Builtin.SmallTypes.nextOf (.ref y.it) >>= _) _ _ _;have q0:=m.done k y hy;rw[if_neg (Qcm _)] at q0;refine QcJ (cu q0 hv2 λh2 q2 sb2=>QcK ?_);have m2:=m.draw D hy q2 sb2;have hT2:DY h2 TO (xs.take k++olds.drop k):=sb2.extBut _ _ (D.it y hm).2.2.symm hT;have hln:(xs.take k++olds.drop k).length<=100:=by rw[QaY,QbD,QbG];omega
  have hsm:=AN (xs:=xs) (olds:=olds) (k:=k) (v:=v) (by omega) (by omega) hv1;refine QcJ (Qch hT2 rfl ?_);refine QcJ (wpAny_updateSeq hT2 rfl ?_ (by rw[Qbo,QcH];omega) (by rw[hsm,Qbo,QcH,QaY,QbD,QbG];omega));have sb3:Heap.SameBut TO h2 (h2.update TO (Obj.mapSeq λx=>x.setIfInBounds k v)):=QaV ..;have hT3:DY (h2.update TO (Obj.mapSeq λx=>x.setIfInBounds k v)) TO (xs.take (k+1)++olds.drop (k+1)):=by
   show (h2.update TO _).get? TO=_;rw[QaF _ hT2 rfl,<-hsm];simp[Obj.mapSeq]
  refine QcJ (wpAny_letGo (QcK ?_));exact⟨k+1,_,hkl,rq,rq,rq,m2.other D sb3,hT3⟩
theorem bN {z TI TO:Addr} {ls:List Src} {olds:YE} {i:Nat} {f1:Value} {Q:Fin->Shared->Prop} (hh:A.handled=none) (D:Apart z TI TO ls) (hz:IsZ s.heap z TI TO .none f1) (hTI:DY s.heap TI (ls.map λx=>.ref x.it)) (hTO:DY s.heap TO olds)
  (hat:∀x∈ls,SrcAt s.heap x i) (hne:ls≠[]) (hl2:olds.length=ls.length) (hsz:ls.length<=100) (hend:∃x∈ls,x.items[i]?=none)
  (hE:∀h' e,Rest z TO ls s.heap h'->(∃o,h'.get? e=some o/\o.cls=.type "StopIteration")->E (.ref e) { s with heap:=h' }) :
  wpAny (model prog w) A (Builtin.«zip.__next__» ⟨[.ref z],[]⟩) Q E s:=by
 show wpAny _ _ (field (.ref z) 2 >>= _) _ _ _;refine QcJ (QcG hz rfl (x:=.bool false) rfl ?_);show wpAny _ _ (field (.ref z) 3 >>= _) _ _ _;refine QcJ (QcG hz rfl (x:=.ref TI) rfl ?_);refine QcJ (Qch hTI rfl ?_);dsimp only;rw[if_neg (by cases ls with | nil=>exact absurd rfl hne | cons a r=>simp)];show wpAny _ _ (Builtin.SmallTypes.ownedTupleIsFree (.ref z) >>= _) _ _ _;refine QcJ ?_;unfold Builtin.SmallTypes.ownedTupleIsFree;refine QcJ (QcG hz rfl (x:=.none) rfl (QcK ?_));simp only[if_true];refine QcJ (wpAny_rule ?_);refine QcJ (QcG hz rfl (x:=.ref TO) rfl ?_);refine QcJ (Qbi hz (by simp) λh₁ hz₁ hs₁=>?_);replace hz₁ : IsZ h₁ z TI TO .ellipsis f1:=hz₁;refine QcJ ?_;have m0:Mid z TI TO ls [] olds i .ellipsis f1 s.heap 0 h₁:=by
  refine⟨hz₁,hs₁.extBut _ _ D.TIz hTI,λj x hj=>?_,λc o c1 _ _ e=>hs₁.extBut _ _ c1 e,hs₁.1⟩;have hm:=QaK hj;rw[if_neg (QbZ _)];exact (hat x hm).keep (λo e=>hs₁.extBut _ _ (D.it x hm).1 e) (λo e=>hs₁.extBut _ _ (D.a x hm).1 e)
 have gD : DY h₁ TO olds:=hs₁.extBut _ _ D.TOz hTO;refine Wo (λl b s'=>∃k h' ys,k<=ls.length/\l=((ls.map λx=>Value.ref x.it).drop k).zipIdx k/\b=⟨none,⟨⟩⟩/\s'={ s with heap:=h' }/\Mid z TI TO ls [] olds i .ellipsis f1 s.heap k h'/\DY h' TO ys/\ys.length=ls.length/\∃x∈ls.drop k,x.items[i]?=none) (λb s' h=>?_) (λx r b s' h=>?_) _ _ _ ⟨0,h₁,olds,QcE _,rq,rq,rq,m0,gD,hl2,hend⟩
 ·obtain⟨k,h',ys,hk,e1,rfl,rfl,m,hT,hy,x,hx,_⟩:=h;have:k=ls.length:=by
   have:=congrArg List.length e1;rw[List.length_nil,List.length_zipIdx,QbG,QbM] at this;omega
  subst this;rw[List.drop_length] at hx;cases hx
 ·obtain⟨k,h',ys,hk,e1,rfl,rfl,m,hT,hys,xe,hxe,hxn⟩:=h;have hkl:k < ls.length:=by
   have:=congrArg List.length e1;rw[QbC,List.length_zipIdx,QbG,QbM] at this;omega
  obtain⟨y,hy⟩ : ∃y,ls[k]?=some y:=⟨_,Qao hkl⟩;have hm:=QaK hy;rw[Qal (by rw[QbM];exact hkl),List.zipIdx_cons,List.getElem_map] at e1;have ey:ls[k]=y:=(Qai.mp hy).2;rw[ey] at e1;injection e1 with e1 e2;subst e1 e2;refine QcJ (wpAny_onRaise ?_);show wpAny _ _ (Builtin.SmallTypes.nextOf (.ref y.it) >>= _) _ _ _;have q0:=m.done k y hy;rw[if_neg (Qcm _)] at q0;cases hv:y.items[i]? with
  | none=>
   refine QcJ (AK hh q0 hv λh₂ e hs₂ he=>?_);obtain⟨oe,hoe,hce⟩:=he;have hz₂ : IsZ h₂ z TI TO .ellipsis f1:=hs₂ _ _ (D.it y hm).1.symm m.hz;have hez:e≠z:=λx=>by subst x;rw[hz₂] at hoe;cases hoe;simp at hce
   refine Qbi hz₂ (by simp) λh₃ _ hs₃=>hE h₃ e (λc o c1 c2 c3 x=>hs₃.extBut _ _ c1 (hs₂ _ _ (λq=>c3 (q ▸ Qcs.mpr ⟨y,hm,rq⟩)) (m.rest c o c1 c2 c3 x))) ⟨oe,hs₃.extBut _ _ hez hoe,hce⟩
  | some v=>
   refine QcJ (cu q0 hv λh2 q2 sb2=>QcK ?_);have m2:=m.draw D hy q2 sb2;have hT2:DY h2 TO ys:=sb2.extBut _ _ (D.it y hm).2.2.symm hT;refine QcJ (Qch hT2 rfl ?_);refine QcJ (wpAny_updateSeq hT2 rfl ?_ (by rw[Qbo,QcH];omega) (by rw[Array.size_setIfInBounds,Qbo,QcH];omega));have sb3:Heap.SameBut TO h2 (h2.update TO (Obj.mapSeq λx=>x.setIfInBounds k v)):=QaV ..;have hT3:DY (h2.update TO (Obj.mapSeq λx=>x.setIfInBounds k v)) TO (ys.set k v):=by
    show (h2.update TO _).get? TO=_;rw[QaF _ hT2 rfl,<-List.setIfInBounds_toArray];simp[Obj.mapSeq]
   refine QcJ (wpAny_letGo (QcK ?_));refine⟨k+1,_,ys.set k v,hkl,rq,rq,rq,m2.other D sb3,hT3,by rw[List.length_set];exact hys,xe,?_,hxn⟩;rw[Qal hkl,ey] at hxe;rcases Qcj.mp hxe with z | z
   ·subst z;rw[hv] at hxn;cases hxn
   ·exact z
theorem nJ {z TI TO:Addr} {f0 f1:Value} {Q:Option Value->Shared->Prop} (hz:IsZ s.heap z TI TO f0 f1) {Qi:YA} (h:wpAny (model prog w) A.in1 (Builtin.«zip.__next__» ⟨[.ref z],[]⟩) (λfin s'=>∃v,fin=.done (.ret v)/\Qi v s') (λ_ _=>False) s) (hQ:∀v s',Qi v s'->Q (some v) s') :
  wpAny (model prog w) A (pyNext (.ref z)) Q E s:=by
 have hT:s.TypeIs (.ref z) "zip":=⟨_,hz,rq⟩;unfold pyNext;refine QcJ (Qcp (Qau (name:=Str.ofString "__next__") hT F.slot_zip_next (QbF F.slot_zip_next hT F.entry_zip_next (QcL h (λfin s' q=>?_) λ_ _ f=>f.elim) (F.args_zip_next_1 _))));obtain⟨v,e,q⟩:=q;exact⟨v,e,QcK (hQ v s' q)⟩
theorem YX {z TI TO:Addr} {f0 f1:Value} {Q:Option Value->Shared->Prop} {R:Heap->Prop} (hz:IsZ s.heap z TI TO f0 f1)
  (h:wpAny (model prog w) A.in1 (Builtin.«zip.__next__» ⟨[.ref z],[]⟩) (λ_ _=>False) (λv s'=>∃h' e,v=.ref e/\s'={ s with heap:=h' }/\R h'/\∃o,h'.get? e=some o/\o.cls=.type "StopIteration") s) (hQ:∀h',R h'->Q none { s with heap:=h' }) :
  wpAny (model prog w) A (pyNext (.ref z)) Q E s:=by
 have hT:s.TypeIs (.ref z) "zip":=⟨_,hz,rq⟩;unfold pyNext;refine QcJ (Qcp (Qau (name:=Str.ofString "__next__") hT F.slot_zip_next (QbF F.slot_zip_next hT F.entry_zip_next (QcL h (λ_ _ f=>f.elim) λv s' q=>?_) (F.args_zip_next_1 _))));obtain⟨h',e,rfl,rfl,r,o,ho,hc⟩:=q;exact QcJ (QbK (T:="StopIteration") (b:=true) ⟨o,ho,hc⟩ isSubtype_stop (QcK (hQ _ r)))
theorem Xh {z TI TO:Addr} {f0 f1:Value} {Q:YA} (hz:IsZ s.heap z TI TO f0 f1) (h:Q (.ref z) s):wpAny (model prog w) A (pyIter (.ref z)) Q E s:=by
 have hT:s.TypeIs (.ref z) "zip":=⟨_,hz,rq⟩;refine wpAny_pyIter_slot hT F.slot_zip_iter (QbF F.slot_zip_iter hT F.entry_zip_iter ?_ (F.args_zip_iter_1 _));show wpAny _ _ (ret (.ref z)) _ _ s;exact QcK ⟨_,rq,"zip",_,hT,F.slot_zip_next.lookup,h⟩
theorem rK {elts:YJ} {x1} {pos:Pos} {z TI TO T:Addr} {f1:Value} {Q:YH} (hz:IsZ s.heap z TI TO (rawInt T) f1)
  (hQ:∀h',IsZ h' z TI TO .none f1->Heap.SameBut z s.heap h'->Q () { s with heap:=h' }):wpAny (model prog w) A (letOwnedTupleGo (.Tuple elts x1 pos) (.ref z) (.ref T)) Q E s:=by
 unfold letOwnedTupleGo;refine QcJ (wpAny_load hz ?_);show wpAny _ _ (if (["enumerate","zip","dict_itemiterator","dict_reverseitemiterator","odict_iterator","itertools.zip_longest","itertools.pairwise"].contains "zip" &&
   (#[rawInt T,f1,.bool false,.ref TI,.ref TO]:Array Value)[0]? == some (rawInt T))=true then _ else _) Q E s
 rw[if_pos (by simp)];refine QcJ (wpAny_rule ?_);show wpAny _ _ (setField (.ref z) 0 .none) Q E s;exact Qbi hz (by simp) λh' hz' hs'=>hQ h' hz' hs'
end
end PySem.ZZ
namespace PySem
namespace F
end F
end PySem
namespace PySem.ZZ
open PySem
def Ud (h:Heap) (a:Addr) (xs:Array Value) (c:String):Prop:=(c="list_iterator"/\h.IsList a xs)\/(c="tuple_iterator"/\h.IsTuple a xs)
theorem Ud.src {h h':Heap} {a it:Addr} {xs:Array Value} {c:String} (q:Ud h a xs c) (k:∀o,h.get? a=some o->h'.get? a=some o) (e:h'.get? it=some { cls:=.type c,data:=.fields #[.ref a,.int 0 0] }):SrcAt h' ⟨it,a,xs⟩ 0:=by
 rcases q with⟨rfl,q⟩|⟨rfl,o,ho,r⟩
 ·exact .inl ⟨⟨_,e,rq,rq⟩,q.at k⟩
 ·exact .inr ⟨⟨_,e,rq,rq⟩,o,k o ho,r⟩
theorem Ud.lt {h:Heap} {a:Addr} {xs:Array Value} {c:String} (q:Ud h a xs c):a < h.objs.size:=by
 rcases q with⟨rfl,o,e,_⟩|⟨rfl,o,e,_⟩
 ·exact Qct e
 ·exact Qct e
abbrev itO (c:String) (l:Addr):Obj:={ cls:=.type c,data:=.fields #[.ref l,.int 0 0] }
abbrev tuO (xs:Array Value):Obj:={ cls:=.type "tuple",data:=.seq xs }
abbrev z2a (h:Heap) (c1 c2:String) (l1 l2:Addr):Heap:=((((h.push (itO c1 l1)).push (itO c2 l2)).push (tuO #[.ref h.objs.size,.ref (h.push (itO c1 l1)).objs.size])).push (tuO #[.none,.none]))
abbrev z2 (h:Heap) (c1 c2:String) (l1 l2:Addr):Heap:=(z2a h c1 c2 l1 l2).push
 { cls:=.type "zip",data:=.fields #[.none,.bool false,.bool false,.ref ((h.push (itO c1 l1)).push (itO c2 l2)).objs.size,.ref (((h.push (itO c1 l1)).push (itO c2 l2)).push (tuO #[.ref h.objs.size,.ref (h.push (itO c1 l1)).objs.size])).objs.size] }
theorem oK (l1 l2:Addr) (xs ys:Array Value) (c1 c2:String):Meets (Builtin.«zip.__new__» ⟨[.type "zip",.ref l1,.ref l2],[]⟩) (λ_ R s=>Ud s.heap l1 xs c1/\Ud s.heap l2 ys c2/\R (.ok (.ret (.ref (z2a s.heap c1 c2 l1 l2).objs.size))) { s with heap:=z2 s.heap c1 c2 l1 l2 }):=
 .of_wp λprog w A R s h=>by
  obtain⟨hp,g,d,tk,os⟩:=s;obtain⟨hl1,hl2,h⟩:=h;have hsub:=sub_zip;rcases hl1 with⟨rfl,hl1⟩|⟨rfl,hl1⟩
  ·have hL1:Heap.IsList (Shared.heap ⟨hp,g,d,tk,os⟩) l1 xs:=hl1;rcases hl2 with⟨rfl,hl2⟩|⟨rfl,hl2⟩
   ·have hL2:Heap.IsList (Shared.heap ⟨hp.push (itO "list_iterator" l1),g,d,tk,os⟩) l2 ys:=Heap.IsList.push hl2 _
    wp_walk using Qby hL1,Qby hL2
    exact⟨_,rq,h⟩
   ·have hL2:Heap.IsTuple (Shared.heap ⟨hp.push (itO "list_iterator" l1),g,d,tk,os⟩) l2 ys:=Heap.IsTuple.push hl2 _
    wp_walk using Qby hL1,Qbh hL2
    exact⟨_,rq,h⟩
  ·have hL1:Heap.IsTuple (Shared.heap ⟨hp,g,d,tk,os⟩) l1 xs:=hl1;rcases hl2 with⟨rfl,hl2⟩|⟨rfl,hl2⟩
   ·have hL2:Heap.IsList (Shared.heap ⟨hp.push (itO "tuple_iterator" l1),g,d,tk,os⟩) l2 ys:=Heap.IsList.push hl2 _
    wp_walk using Qbh hL1,Qby hL2
    exact⟨_,rq,h⟩
   ·have hL2:Heap.IsTuple (Shared.heap ⟨hp.push (itO "tuple_iterator" l1),g,d,tk,os⟩) l2 ys:=Heap.IsTuple.push hl2 _
    wp_walk using Qbh hL1,Qbh hL2
    exact⟨_,rq,h⟩
abbrev z3a (h:Heap) (c1 c2 c3:String) (l1 l2 l3:Addr):Heap:=(((((h.push (itO c1 l1)).push (itO c2 l2)).push (itO c3 l3)).push (tuO #[.ref h.objs.size,.ref (h.push (itO c1 l1)).objs.size,.ref ((h.push (itO c1 l1)).push (itO c2 l2)).objs.size])).push (tuO #[.none,.none,.none]))
abbrev z3 (h:Heap) (c1 c2 c3:String) (l1 l2 l3:Addr):Heap:=(z3a h c1 c2 c3 l1 l2 l3).push
 { cls:=.type "zip",data:=.fields #[.none,.bool false,.bool false,.ref (((h.push (itO c1 l1)).push (itO c2 l2)).push (itO c3 l3)).objs.size,.ref ((((h.push (itO c1 l1)).push (itO c2 l2)).push (itO c3 l3)).push (tuO #[.ref h.objs.size,.ref (h.push (itO c1 l1)).objs.size,.ref ((h.push (itO c1 l1)).push (itO c2 l2)).objs.size])).objs.size] }
structure IY (h:Heap) (z TI TO:Addr) (ls:List Src) (h':Heap):Prop where
 hz:IsZ h' z TI TO .none (.bool false)
 hTI:DY h' TI (ls.map λx=>.ref x.it)
 hTO:DY h' TO (ls.map λ_=>.none)
 at_:∀x∈ls,SrcAt h' x 0
 ap:Apart z TI TO ls
 new:h.objs.size<=z/\h.objs.size<=TI/\h.objs.size<=TO/\∀x∈ls,h.objs.size<=x.it
 keep:∀c o,h.get? c=some o->h'.get? c=some o
theorem na {a b:Nat} (h:a≠b):@Ne Addr a b:=h
theorem apart2 {n l1 l2:Nat} {xs ys:Array Value} (a1:l1 < n) (a2:l2 < n):Apart (n+1+1+1+1:Nat) (n+1+1:Nat) (n+1+1+1:Nat) [⟨n,l1,xs⟩,⟨(n+1:Nat),l2,ys⟩]:=by
 refine⟨na (by omega),na (by omega),na (by omega),λx hx=>?_,λx hx=>?_,λx hx y hy=>?_,?_⟩
 ·rcases Qcj.mp hx with rfl | hx
  ·exact⟨na (by dsimp only;omega),na (by dsimp only;omega),na (by dsimp only;omega)⟩
  ·cases Qbf.mp hx;exact⟨na (by dsimp only;omega),na (by dsimp only;omega),na (by dsimp only;omega)⟩
 ·rcases Qcj.mp hx with rfl | hx
  ·exact⟨na (by dsimp only;omega),na (by dsimp only;omega)⟩
  ·cases Qbf.mp hx;exact⟨na (by dsimp only;omega),na (by dsimp only;omega)⟩
 ·rcases Qcj.mp hx with rfl | hx
  ·rcases Qcj.mp hy with rfl | hy
   ·exact na (by dsimp only;omega)
   ·cases Qbf.mp hy;exact na (by dsimp only;omega)
  ·cases Qbf.mp hx;rcases Qcj.mp hy with rfl | hy
   ·exact na (by dsimp only;omega)
   ·cases Qbf.mp hy;exact na (by dsimp only;omega)
 ·show List.Nodup ([n,n+1]:List Nat);simp
section
variable {prog:Program} {w:World} {A:Around} {E:YA} {s:Shared}
theorem uw {l1 l2:Addr} {xs ys:Array Value} {c1 c2:String} {Q:YA} (hl1:Ud s.heap l1 xs c1) (hl2:Ud s.heap l2 ys c2)
  (h:∀h' z TI TO i1 i2,IY s.heap z TI TO [⟨i1,l1,xs⟩,⟨i2,l2,ys⟩] h'->Q (.ref z) { s with heap:=h' }):wpAny (model prog w) A (call (.type "zip") [.ref l1,.ref l2]) Q E s:=by
 refine callType_new F.called_zip (by decide) (F.typeCall_zip_2 _ _) (F.newCall_zip_2 _ _) (λobj=>F.args_object_init_3 obj _ _) F.entry_zip_new (oK l1 l2 xs ys c1 c2) ⟨hl1,hl2,?_⟩;have g5:(z2 s.heap c1 c2 l1 l2).get? (z2a s.heap c1 c2 l1 l2).objs.size=some _:=QaP _ rfl;have g4:(z2 s.heap c1 c2 l1 l2).get? (((s.heap.push (itO c1 l1)).push (itO c2 l2)).push (tuO #[.ref s.heap.objs.size,.ref (s.heap.push (itO c1 l1)).objs.size])).objs.size=some (tuO #[.none,.none]):=Qaz _ (QaP _ rfl);have g3:(z2 s.heap c1 c2 l1 l2).get? ((s.heap.push (itO c1 l1)).push (itO c2 l2)).objs.size=some (tuO #[.ref s.heap.objs.size,.ref (s.heap.push (itO c1 l1)).objs.size]):=Qaz _ (Qaz _ (QaP _ rfl));have g2:(z2 s.heap c1 c2 l1 l2).get? (s.heap.push (itO c1 l1)).objs.size=some (itO c2 l2):=Qaz _ (Qaz _ (Qaz _ (QaP _ rfl)));have g1:(z2 s.heap c1 c2 l1 l2).get? s.heap.objs.size=some (itO c1 l1):=Qaz _ (Qaz _ (Qaz _ (Qaz _ (QaP _ rfl))));have kp:∀c o,s.heap.get? c=some o->(z2 s.heap c1 c2 l1 l2).get? c=some o:=λc o x=>Qaz _ (Qaz _ (Qaz _ (Qaz _ (Qaz _ x))));have a1:=hl1.lt;have a2:=hl2.lt;refine⟨⟨_,g5,rq⟩,h _ _ _ _ s.heap.objs.size (s.heap.push (itO c1 l1)).objs.size ⟨g5,g3,g4,?_,?_,?_,kp⟩⟩
 ·intro x hx;rcases Qcj.mp hx with rfl | hx
  ·exact hl1.src (λo e=>kp _ _ e) g1
  ·rcases Qcj.mp hx with rfl | hx
   ·exact hl2.src (λo e=>kp _ _ e) g2
   ·cases hx
 ·simp only[Qce];exact apart2 a1 a2
 ·simp only[Qce,Qcj,QbE,QcN,forall_eq_or_imp,forall_eq];omega
end
end PySem.ZZ
namespace PySem
namespace F
end F
end PySem
namespace PySem.ZZ
open PySem
section
variable {prog:Program} {w:World} {A:Around} {E:YA} {s:Shared}
structure Run (hb:Heap) (z TI TO:Addr) (ls:List Src) (rows:Nat->YE) (S:Addr) (ts:List Addr) (h:Heap):Prop where
 inc:ts.Pairwise (· < ·)
 lo:∀t∈ts,S < t/\t < h.objs.size
 at_:∀j t,ts[j]?=some t->DY h t (rows j)
 keep:∀c o,hb.get? c=some o->h.get? c=some o
 hTI:DY h TI (ls.map λx=>.ref x.it)
 hTO:∃olds,DY h TO olds/\olds.length=ls.length
 src:∀x∈ls,SrcAt h x ts.length
 hz:(ts=[]/\IsZ h z TI TO .none (.bool false))\/∃(T:Addr) (f1:Value),ts[0]?=some T/\IsZ h z TI TO (rawInt T) f1
structure Below (hb:Heap) (z TI TO:Addr) (ls:List Src) (S:Addr):Prop where
 ap:Apart z TI TO ls
 old:hb.objs.size<=z/\hb.objs.size<=TI/\hb.objs.size<=TO/\∀x∈ls,hb.objs.size<=x.it
 lz:z < S
 lTI:TI < S
 lTO:TO < S
 it:∀x∈ls,x.it < S/\x.a < S
 base:hb.objs.size<=S
theorem Run.frame {hb:Heap} {z TI TO:Addr} {ls:List Src} {rows:Nat->YE} {S:Addr} {ts:List Addr} {h h':Heap} (B:Below hb z TI TO ls S) (r:Run hb z TI TO ls rows S ts h) (hs:h'.objs.size=h.objs.size) (k:∀c o,c≠S->h.get? c=some o->h'.get? c=some o):Run hb z TI TO ls rows S ts h':=by
 obtain⟨olds,o1,o2⟩:=r.hTO;refine⟨r.inc,λt ht=>by rw[hs];exact r.lo t ht,λj t e=>k _ _ (Qcy (r.lo t (QaK e)).1) (r.at_ j t e),λc o e=>k _ _ (Qcu (Qbd (Qct e) B.base)) (r.keep c o e),k _ _ (Qcu B.lTI) r.hTI,⟨olds,k _ _ (Qcu B.lTO) o1,o2⟩,λx hx=>?_,?_⟩
 ·exact (r.src x hx).keep (λo e=>k _ _ (Qcu (B.it x hx).1) e) (λo e=>k _ _ (Qcu (B.it x hx).2) e)
 ·rcases r.hz with⟨e,q⟩|⟨T,f1,e,q⟩
  ·exact .inl ⟨e,k _ _ (Qcu B.lz) q⟩
  ·exact .inr ⟨T,f1,e,k _ _ (Qcu B.lz) q⟩
theorem Run.more {hb:Heap} {z TI TO:Addr} {ls:List Src} {rows:Nat->YE} {S:Addr} {ts:List Addr} {h h':Heap} (B:Below hb z TI TO ls S) (r:Run hb z TI TO ls rows S ts h) (hS:S < h.objs.size) (hs:h'.objs.size=h.objs.size+1) (hr:Rest z TO ls h h')
  (hTI:DY h' TI (ls.map λx=>.ref x.it)) (hTO:∃olds,DY h' TO olds/\olds.length=ls.length) (src:∀x∈ls,SrcAt h' x (ts.length+1)) (new:DY h' h.objs.size (rows ts.length)) (hz:∃(T:Addr) (f1:Value),(ts++[h.objs.size])[0]?=some T/\IsZ h' z TI TO (rawInt T) f1):Run hb z TI TO ls rows S (ts++[h.objs.size]) h':=by
 have fr:∀t,S < t->t≠z/\t≠TO/\t∉ls.map (·.it):=λt ht=>⟨λe=>by rw[e] at ht;exact Nat.lt_asymm ht B.lz,λe=>by rw[e] at ht;exact Nat.lt_asymm ht B.lTO,λe=>by
  obtain⟨x,hx,e'⟩:=Qcs.mp e;rw[<-e'] at ht;exact Nat.lt_asymm ht (B.it x hx).1⟩
 refine⟨?_,λt ht=>?_,λj t e=>?_,λc o e=>?_,hTI,hTO,λx hx=>by rw[QaY];exact src x hx,.inr hz⟩
 ·exact List.pairwise_append.mpr ⟨r.inc,Qay _ _,λa ha b hb'=>by
   have:b=h.objs.size:=by simpa using hb'
   rw[this];exact (r.lo a ha).2⟩
 ·rw[hs];rcases QbO.mp ht with ht | ht
  ·have:=r.lo t ht;exact⟨this.1,Nat.lt_succ_of_lt this.2⟩
  ·have:t=h.objs.size:=by simpa using ht
   rw[this];exact⟨hS,QbH _⟩
 ·by_cases c:j < ts.length
  ·rw[Qak c] at e;have hlo:=r.lo t (QaK e);obtain⟨f1,f2,f3⟩:=fr t hlo.1;exact hr t _ f1 f2 f3 (r.at_ j t e)
  ·rw[Qah (Nat.le_of_not_lt c)] at e;have hj:j - ts.length=0:=by
    have:=(Qai.mp e).1;rw[QaG] at this;omega
   rw[hj] at e;cases e;have:j=ts.length:=by omega
   rw[this];exact new
 ·have hlt:=Qct e;refine hr c o (λq=>?_) (λq=>?_) (λq=>?_) (r.keep c o e)
  ·rw[q] at hlt;exact absurd hlt (Nat.not_lt.mpr B.old.1)
  ·rw[q] at hlt;exact absurd hlt (Nat.not_lt.mpr B.old.2.2.1)
  ·obtain⟨x,hx,e'⟩:=Qcs.mp q;rw[<-e'] at hlt;exact absurd hlt (Nat.not_lt.mpr (B.old.2.2.2 x hx))
end
end PySem.ZZ
namespace PySem.ZZ
open PySem
section
variable {prog:Program} {w:World} {A:Around} {E:YA} {s:Shared}
structure Rows (ls:List Src) (n:Nat) (rows:Nat->YE):Prop where
 row:∀j,j < n->(rows j).length=ls.length/\∀(k:Nat) (x:Src),ls[k]?=some x->∃v,(rows j)[k]?=some v/\x.items[j]?=some v
 stop:∃x∈ls,x.items[n]?=none
 ne:ls≠[]
 few:ls.length<=100
 most:n<=1000
end
end PySem.ZZ
namespace L2
open PySem PySem.Spec PyProof.Rows
section
variable {X:Cx} {jb:YC} {U : St} {H:Hp} {s:Shared} {h':Heap}
end
section
variable {X:Cx}
end
theorem Ie {h:Heap} {p q:Addr} {o o':Obj} (e:h.get? p=some o) (e':h.get? q=some o') (n:o.cls≠o'.cls):p≠q:=λz=>by
 rw[z,e'] at e;cases e;exact n rfl
theorem Lp {h:Heap} {a:Addr} {xs ys:Array Value} (h1:h.IsList a xs) (h2:h.IsTuple a ys):False:=by
 obtain⟨o,e,c,_⟩:=h1;obtain⟨o',e',c',_⟩:=h2;rw[e'] at e;cases e;rw[c'] at c;injection c with q;exact absurd q (by decide)
section
variable {X:Cx}
end
mutual
inductive Ka (K:YD) (H:Hp):V->PyData->Prop
 | non:Ka K H .non .none
 | bl (b:Bool):Ka K H (.bl b) (.bool b)
 | int (i:Int):Ka K H (.int i) (.int i)
 | str (x:Str):Ka K H (.str x) (.str x)
 | tup {a:Addr} {xs:YG} {ds:List PyData}:SqT K H a xs->JH K H xs ds->Ka K H (.ref a) (.tuple ds)
inductive JH (K:YD) (H:Hp):YG->List PyData->Prop
 | nil:JH K H [] []
 | cons {x:V} {d:PyData} {xs:YG} {ds:List PyData}:Ka K H x d->JH K H xs ds->JH K H (x::xs) (d::ds)
end
section
variable {X:Cx} {jb:YC} {U : St} {H:Hp} {s:Shared}
mutual
theorem Ka.reads (I:Inv X jb U H s):∀{v:V} {d:PyData} {u:Value},Ka X.K H v d->RelV v u->∃as,Reads s.heap u d as
 | _,_,_,.non,r=>by cases (show _=Value.none from r);exact⟨_,.none⟩
 | _,_,_,.bl b,r=>by cases (show _=Value.bool b from r);exact⟨_,.bool b⟩
 | _,_,_,.int i,r=>by obtain⟨t,rfl⟩:=(show ∃t,_=Value.int i t from r);exact⟨_,.int i t⟩
 | _,_,_,.str x,r=>by obtain⟨t,rfl⟩:=(show ∃t,_=Value.str x t from r);exact⟨_,.str x t⟩
 | _,_,_,.tup (a:=a) (xs:=xs) e q,r=>by
  cases (show _=Value.ref a from r)
  obtain⟨its,rv,⟨o,ho,hc,n,hd⟩,_⟩:=I.tuple e;obtain⟨as,z⟩:=JH.reads I q rv;exact⟨_,.tuple ho hc hd (by simpa using z)⟩
theorem JH.reads (I:Inv X jb U H s):∀{xs:YG} {ds:List PyData} {us:YE},JH X.K H xs ds->Vals xs us->∃as,ReadsAll s.heap us ds as
 | _,_,_,.nil,.nil=>⟨_,.nil⟩
 | _,_,_,.cons p q,.cons r t=>by
  obtain⟨as,a1⟩:=Ka.reads I p r;obtain⟨bs,b1⟩:=JH.reads I q t;exact⟨_,.cons a1 b1⟩
end
end
section
variable {X:Cx} {K:YD}
theorem qU (h:X.K=K) (hu:X.A.units+64 < cLine):OpR X (compareOp .Eq) (λx y H Q=>∃d e,Ka K H x d/\Ka K H y e/\SeqAt.shaped d=true/\SeqAt.shaped e=true/\Q (.bl (PyData.eqv d e)) H):=by
 subst h;intro jb s U H x y v u Q I rx ry h;obtain⟨d,e,p,p',sd,se,q⟩:=h;obtain⟨as,r1⟩:=p.reads I rx;obtain⟨bs,r2⟩:=p'.reads I ry;exact eq_dataH r1 r2 sd se hu ⟨.bl (PyData.eqv d e),H,I,rq,q⟩
theorem Ih {es:YJ} {k:Nat} {pos:Pos} {t:TGs} {n:Nat} (hK:X.K=K) (hc:X.calm=true) (h:PGs X es t)
  (hn:(assignEach es X.env).length=n:=by rfl) (hst:(assignEach es X.env).findIdx? (·.1)=none:=by rfl):PG X (.Tuple es k pos) (FA K n t):=hK ▸ CT hc h hn hst
end
end L2
namespace L2
open PySem PySem.Spec PyProof.Rows
abbrev zu:YE:=[.type "ValueError",.type "Exception",.type "BaseException",.type "object"]
structure XCl (K:YD) (C:Addr):Prop where
 ex:excIn K C zu "ValueError.__new__"=true
 ga:findIn K (.ref C) "__getattribute__"=some (some (.builtin "BaseException.__getattribute__"))
 gn:findIn K (.ref C) "__getattr__"=some none
 ca:findIn K (.ref C) "__class__"=some (some (.builtin "object.__class__"))
 mo:subIn K (.ref C) (.type "object")=some true
 mb:subIn K (.ref C) (.type "BaseException")=some true
 kp:keepIn K (.ref C)=true
section
variable {K:YD} {C:Addr}
theorem XCl.look (T:XCl K C):∃dd cd sl,K.lookup C=some ⟨.type "type",dd,.cls cd,sl⟩:=by
 have q:=T.ex;unfold excIn at q;split at q
 ·rename_i dd cd sl ho;exact⟨dd,cd,sl,ho⟩
 ·cases q
theorem XCl.obj (T:XCl K C) {h:Heap} (X:K.In h):∃bm N nm q bs hdct sn sub ab col dd k0 k1 k2 k3 k5 mN,h.get? C=some (excClassObj nm q C N bs bm hdct sn sub ab col dd k0 k1 k2 k3 k5 "ValueError.__new__")/\h.Ns N mN/\mN "__init__"=none/\OwnTail h zu bm:=by
 have q:=T.ex;unfold excIn at q;split at q
 ·rename_i dd cd sl ho;split at q
  ·rename_i C' bm k0 k1 k2 k3 n k5 hm hs;simp only[QbI,beq_iff_eq,Bool.not_eq_true'] at q;obtain⟨⟨⟨⟨⟨rfl,rfl⟩,hdel⟩,ht⟩,hok⟩,hni⟩:=q;obtain⟨nm,bs,mro,ns,qn,hd,sn,sub,ab,col,del⟩:=cd;dsimp only at hm hdel hok hni;subst hm hdel;have hsl:sl=#[k0,k1,k2,k3,some (.builtin "ValueError.__new__"),k5]:=by
    obtain⟨l⟩:=sl;simp only at hs;rw[hs]
   subst hsl;exact⟨bm,ns,nm,qn,bs,hd,sn,sub,ab,col,dd,k0,k1,k2,k3,k5,_,X _ _ ho,.of_isNs (PySem.W.isNs_of_in X hok),PySem.W.nsMap_none_of_in X hok hni,PySem.W.tail_of_in X ht⟩
  ·cases q
 ·cases q
end
def XAt (a C:Addr) (h:Heap):Prop:=∃o vs,h.get? a=some o/\o.cls=.ref C/\o.data=.fields vs/\vs[2]?=some .none
section
variable {prog:Program} {w:World} {A:Around} {E:YA} {h:Heap} {g:Array GenState} {d:Drawn} {t:Nat} {os:OsState} {K:YD} {a C:Addr} {o:Obj}
theorem mG {R:Result->Shared->Prop} (X:K.In h) (T:XCl K C) (hx:h.get? a=some o) (hc:o.cls=.ref C) (hq:R (.ok (.ret (.ref C))) ⟨h,g,d,t,os⟩) :
  codeAny (model prog w) A (.call (.builtin "getset_descriptor.__get__") ⟨[.builtin "object.__class__",.ref a,.ref C],[]⟩) R ⟨h,g,d,t,os⟩:=by
 have hT5:(⟨h,g,d,t,os⟩ : Shared).TypeIs (.builtin "object.__class__") "getset_descriptor":=F.typeOf_object_class;have f8:PySem.W.Looks (model prog w) h (isSubtype (.ref C) (.type (".".intercalate ("object.__class__".cutAt '.').dropLast))) true:=by
  rw[F.owner_object_class];exact looks_subIn X T.mo
 refine QaN F.slot_gs_get.plain F.entry_gs_get (F.slot_gs_get.check _ _ _ _ _ _ _ _ hT5 (F.args_gs_get _ _ _) ?_)
 repeat (any_goals (first | assumption | (with_reducible refine QbA hx ?_;rw[hc]) | with_reducible refine f8.at ?_ | wp_step))
 refine⟨Code.quiet_builtin _ (by trivial),Qcc F.entry_object_class ?_⟩
 repeat (any_goals (first | assumption | (with_reducible refine QbA hx ?_;rw[hc]) | wp_step))
theorem bO {tk:Tok} {Q:Fin->Shared->Prop} (X:K.In h) (T:XCl K C) (hx:h.get? a=some o) (hc:o.cls=.ref C) (hq:Q (.done (.ret (.ref C))) ⟨h,g,d,t,os⟩) :
  wpAny (model prog w) A (Builtin.«object.__getattribute__» ⟨[.ref a,.str "__class__" tk],[]⟩) Q E ⟨h,g,d,t,os⟩:=by
 have hT5:(⟨h,g,d,t,os⟩ : Shared).TypeIs (.builtin "object.__class__") "getset_descriptor":=F.typeOf_object_class;have f4:=looks_findIn (M:=model prog w) X T.ca;have f5:=F.typeOf_object_class;have f6:=F.slot_gs_get.lookup;have f7:=F.slot_gs_set.lookup
 repeat (any_goals (first | assumption | (with_reducible refine QbA hx ?_;rw[hc]) | with_reducible refine f4.at ?_ | wp_step))
 refine mG X T hx hc ?_
 repeat (any_goals (first | assumption | wp_step))
theorem qd {M:Model} {nameV:Value} {Q:YH} (X:K.In h) (T:XCl K C) (hx:h.get? a=some o) (hc:o.cls=.ref C) (hq:Q () ⟨h,g,d,t,os⟩) :
  wpAny M A (checkBuiltinCall "BaseException.__getattribute__" ⟨[.ref a,nameV],[]⟩) Q E ⟨h,g,d,t,os⟩:=by
 have hk:builtinKind "BaseException.__getattribute__"=some .slot:=by trivial
 have hsplit:splitId "BaseException.__getattribute__"=some ("BaseException","__getattribute__"):=by trivial
 have f1:=looks_subIn (M:=M) X T.mb;have ha:=F.args_bexc_ga (.ref a) nameV;simp only[checkBuiltinCall,hk,hsplit];refine QcJ ?_
 ·unfold isInstance
  repeat (first | (with_reducible refine QbA hx ?_;rw[hc]) | with_reducible refine f1.at ?_ | wp_step)
  exact hq
theorem ji {tk:Tok} {R:Result->Shared->Prop} (X:K.In h) (T:XCl K C) (hx:h.get? a=some o) (hc:o.cls=.ref C) (hq:R (.ok (.ret (.ref C))) ⟨h,g,d,t,os⟩) :
  codeAny (model prog w) A (.call (.builtin "BaseException.__getattribute__") ⟨[.ref a,.str "__class__" tk],[]⟩) R ⟨h,g,d,t,os⟩:=
 QaN F.attr_ValueError.ga.plain F.entry_bexc_ga (qd X T hx hc (bO X T hx hc hq))
theorem qb {tk:Tok} {fill expr:Bool} {Q:YA} (X:K.In h) (T:XCl K C) (hx:h.get? a=some o) (hc:o.cls=.ref C) (hq:Q (.ref C) ⟨h,g,d,t,os⟩) :
  wpAny (model prog w) A (getAttrBy (.ref a) (.str "__class__" tk) fill expr) Q E ⟨h,g,d,t,os⟩:=by
 have f1:=looks_findIn (M:=model prog w) X T.ga;have f2:=looks_findIn (M:=model prog w) X T.gn;have f3:=F.attr_ValueError.ga.bind (.ref a);have hx0:(expr&&onTheHeap (Value.builtin "BaseException.__getattribute__"))=false:=by cases expr <;> rfl
 have hx2:(Value.builtin "BaseException.__getattribute__" == Value.builtin "object.__getattribute__")=false:=by trivial
 have hx1:(onTheHeap (Value.ref C)&&Value.builtin "BaseException.__getattribute__" == Value.builtin "object.__getattribute__")=false:=by rw[hx2];rfl
 repeat (any_goals (first | assumption | (with_reducible refine QbA hx ?_;rw[hc]) | with_reducible refine f1.at ?_ | with_reducible refine f2.at ?_ | wp_step))
 refine ji X T hx hc ?_
 repeat (any_goals (first | assumption | wp_step))
theorem jk {Q:Option Value->Shared->Prop} (X:K.In h) (T:XCl K C) (hx:h.get? a=some o) (hc:o.cls=.ref C) (hq:Q (some (.ref C)) ⟨h,g,d,t+1,os⟩):wpAny (model prog w) A (getAttr? (.ref a) "__class__") Q E ⟨h,g,d,t,os⟩:=by
 unfold getAttr? getAttrBy?
 repeat (any_goals (first | assumption | with_reducible apply qb X T hx hc | wp_step))
end
theorem wZ {K:YD} {a C:Addr} (T:XCl K C):PySem.W.KitX K (.ref a) (.ref C) (XAt a C) where
 ty:=λM h X p=>by
  obtain⟨o,vs,h1,h2,_⟩:=p;exact h2 ▸ (PySem.W.Looks.ld h1).andThen .now
 it:=λ_ _ X _=>by
  obtain⟨dd,cd,sl,ho⟩:=T.look;intro A' Q' E' s' k q;unfold isType loadHead;exact QcJ (wpAny_loadPart (k _ _ (X _ _ ho)) (QcK q))
 ne:=λh tp dd its n sl X htp=>by
  obtain⟨_,cd,_,ho⟩:=T.look;refine Bool.eq_false_iff.mpr λq=>?_;have e:C=tp:=Value.ref.inj (beq_iff_eq.mp q);subst e;have z:=congrArg Obj.data (QbS ((X _ _ ho).symm.trans htp));cases z
 ca:=λ{_ _ _ _ _ s} X p k=>by
  obtain⟨h,g,d,t,os⟩:=s;obtain⟨o,vs,h1,h2,_⟩:=p;exact jk X T h1 h2 k
def xo (a C:Addr):HO:=.ext (XAt a C)
section
variable {X:Cx} {jb:YC} {U : St} {H:Hp} {s:Shared}
theorem F9 {a C:Addr} (I:Inv X jb U H s) (e:H a=some (xo a C)):XAt a C s.heap:=(show Bt X.prog X.w H s.heap a (xo a C) from I.hok a _ e).1
theorem XC {A:Around} {E:YA} {Q:YA} {a C:Addr} {c:Value} {b:Bool} (I:Inv X jb U H s) (T:XCl X.K C) (e:H a=some (xo a C)) (k:kitOne X.K (.ref C) c=some b) (h:∀tk,Q (.bool b) { s with toks:=tk }) :
  wpAny (model X.prog X.w) A (call (.builtin "isinstance") [.ref a,c]) Q E s:=
 kia_one (wZ T) I.kIn (F9 I e) k (λz=>nomatch z) h
end
def XT (B:Heap) (e C:Addr) (fl:Option Value) (h:Heap):Prop:=
 ∃oe vs,h.get? e=some oe/\oe.cls=.ref C/\oe.data=.fields vs/\vs[2]?=some .none /\
  match fl with
  | none=>vs[1]?=some .none
  | some f=>∃T oT ts,vs[1]?=some (.ref T)/\B.get? T=none/\T≠e/\h.get? T=some oT/\oT.data=.fields ts/\ts[3]?=some f
structure Fl (B:Heap) (l:List Env) (e C:Addr) (fl:Option Value) (h:Heap):Prop where
 stays:B.StaysIn h
 new:B.get? e=none
 fr:h.FunFrames B l
 tr:XT B e C fl h
theorem XT.at {B h:Heap} {e C:Addr} {fl:Option Value} (x:XT B e C fl h):XAt e C h:=by
 obtain⟨oe,vs,h1,h2,h3,h4,_⟩:=x;exact⟨oe,vs,h1,h2,h3,h4⟩
section
variable {M:Model} {A:Around} {E:YA} {s:Shared} {B:Heap} {env:Env} {outer l:List Env} {L e C:Addr} {Q:YH}
theorem gQ {oe:Obj} {vs:Array Value} {head:Value} {hadNext:Bool} (hfr:A.frames=some (env::outer)) (hf:env.frame=some L) (st:B.StaysIn s.heap) (new:B.get? e=none) (fr:s.heap.FunFrames B (env::outer))
  (he:s.heap.get? e=some oe) (hc:oe.cls=.ref C) (hd:oe.data=.fields vs) (h2:vs[2]?=some .none) (hq:∀h',Fl B (env::outer) e C (some (rawInt L)) h'->s.heap.UpToSlots h'->Q () { s with heap:=h' }) :
  wpAny M A (do let fo <-frameOf env;let pl <-entryPlaceOf L hadNext;let tb <-EntryCells.newEntry head fo .none (rawInt L) .none pl;setField (.ref e) 1 tb) Q E s:=by
 have hsz:2 < vs.size:=(Qaf.mp h2).1;have nf:e∉(env::outer).filterMap (·.frame):=λhm=>by
  obtain⟨_,of,hof,nof⟩:=fr.mem hm;rw[he] at hof;cases hof;exact nof vs hd
 refine QcJ (wpAny_frameOf_fun hfr fr hf λhA sA=>?_);refine QcJ (wpAny_entryPlaceOf λpl ipl=>?_);unfold EntryCells.newEntry newFields;refine QcJ (Qbs ?_ (ipl.sizeOk5 _ _ _ _ _));have eA:hA.get? e=some oe:=(sA.2.1 e nf).trans he;have stA:B.StaysIn hA:=λb o q=>(sA.2.1 b λhm=>by rw[(fr.mem hm).1] at q;cases q).trans (st b o q);have key:∀(ob:Obj) (ts:Array Value),ob.data=.fields ts->ob.isFreed=false->ts[3]?=some (rawInt L)->wpAny M A (setField (.ref e) 1 (.ref hA.objs.size)) Q E { s with heap:=hA.push ob }:=λob ts dT nfr iT=>by
  have eP:=Qaz (h:=hA) ob eA;refine wpAny_setField eP hd (by omega) (hq _ ?_ ?_)
  ·have hTe:hA.objs.size≠e:=Qcy (Qct eA);have dN:=Obj.data_mapFields hd (·.setIfInBounds 1 (Value.ref hA.objs.size));have eN:=QaF (Obj.mapFields (·.setIfInBounds 1 (Value.ref hA.objs.size))) eP (Obj.isFreed_of_fields dN);have keep:∀b o,b≠e->hA.get? b=some o->((hA.push ob).update e (Obj.mapFields (·.setIfInBounds 1 (Value.ref hA.objs.size)))).get? b=some o:=λb o hb q=>by
    rw[QaB _ _ (Ne.symm hb)];exact Qaz _ q
   refine⟨λb o q=>keep b o (λz=>by rw[z,new] at q;cases q) (stA b o q),new,fr.of_keeps λb o q nb=>?_,⟨_,_,eN,(Obj.cls_mapFields _ _).trans hc,dN,?_,hA.objs.size,ob,ts,?_,stA.fresh,hTe,?_,dT,iT⟩⟩
   ·obtain⟨sl,q'⟩:=sA.2.2 b o q;exact⟨_,keep b _ (λz=>by rw[z,he] at q;cases q;exact nb vs hd) q',rq⟩
   ·rw[Array.getElem?_setIfInBounds_ne (by decide)];exact h2
   ·simp[show 1 < vs.size by omega]
   ·rw[QaB _ _ (Ne.symm hTe)];exact QaP hA nfr
  ·intro b o q nb;obtain⟨sl,q'⟩:=sA.2.2 b o q;refine⟨sl,?_⟩;rw[QaB _ _ (λz=>by rw[<-z,he] at q;cases q;exact nb vs hd)];exact Qaz _ q'
 refine key _ _ rfl rfl ?_
 first | (simp;done) | (rcases ipl with rfl |⟨_,_,_,_,_,_,_,rfl⟩ <;> simp)
theorem lQ {fl:Option Value} (hfl:fl=none\/fl=some .none) (hfr:A.frames=some (env::outer)) (hf:env.frame=some L) (x:Fl B (env::outer) e C fl s.heap)
  (hq:∀h',Fl B (env::outer) e C (some (rawInt L)) h'->s.heap.UpToSlots h'->Q () { s with heap:=h' }):wpAny M A (noteFrame (.ref e) env) Q E s:=by
 obtain⟨st,new,fr,oe,vs,he,hc,hd,h2,ht⟩:=x;unfold noteFrame;simp only[hf];rcases hfl with rfl | rfl
 ·refine QcJ (QcG he hd (show vs[1]?=some .none from ht) ?_)
  rw[if_neg (by decide)];exact gQ hfr hf st new fr he hc hd h2 hq
 ·obtain⟨T,oT,ts,h1,nT,hTe,hT,dT,iT⟩:=ht;refine QcJ (QcG he hd h1 ?_);rw[if_pos (show (Value.ref T != Value.none)=true from by simp)]
  refine QcJ (QcG hT dT iT ?_);rw[if_neg (show ¬((Value.none == rawInt L)=true) from by simp[rawInt])]
  refine QcJ (wpAny_setField hT dT (Qaf.mp iT).1 ?_);have oth:∀b o,b≠T->s.heap.get? b=some o->(s.heap.update T (Obj.mapFields (·.setIfInBounds 3 Value.none))).get? b=some o:=λb o hb q=>(QaB _ _ (Ne.symm hb)).trans q;have fL:∀b o,s.heap.get? b=some o->(∀ws,o.data≠.fields ws)->b≠T:=λb o q nb z=>by rw[z,hT] at q;cases q;exact nb ts dT
  refine gQ (s:={ s with heap:=s.heap.update T (Obj.mapFields (·.setIfInBounds 3 Value.none)) }) hfr hf (λb o q=>oth b o (λz=>by rw[z,nT] at q;cases q) (st b o q)) new
   (fr.of_keeps λb o q nb=>⟨o,oth b o (fL b o q nb) q,rq⟩) (oth e oe (Ne.symm hTe) he) hc hd h2 λh' y u=>hq h' y ?_
  exact λb o q nb=>u b o (oth b o (fL b o q nb) q) nb
theorem gP {f:Value} (x:Fl B l e C (some f) s.heap) (hq:∀h',Fl B l e C (some .none) h'->s.heap.UpToSlots h'->Q () { s with heap:=h' }):wpAny M A (setFlight (.ref e) none) Q E s:=by
 obtain⟨st,new,fr,oe,vs,he,hc,hd,h2,T,oT,ts,h1,nT,hTe,hT,dT,iT⟩:=x;have hsz:3 < ts.size:=(Qaf.mp iT).1;have oth:∀b o,b≠T->s.heap.get? b=some o->(s.heap.update T (Obj.mapFields (·.setIfInBounds 3 Value.none))).get? b=some o:=λb o hb q=>(QaB _ _ (Ne.symm hb)).trans q;have fL:∀b o,s.heap.get? b=some o->(∀ws,o.data≠.fields ws)->b≠T:=λb o q nb z=>by rw[z,hT] at q;cases q;exact nb ts dT
 unfold setFlight;refine QcJ (QcG he hd h1 ?_);rw[if_pos (show (Value.ref T != Value.none)=true from by simp)]
 refine wpAny_setField hT dT hsz (hq (s.heap.update T (Obj.mapFields (·.setIfInBounds 3 Value.none))) ⟨λb o q=>oth b o (λz=>by rw[z,nT] at q;cases q) (st b o q),new,fr.of_keeps λb o q nb=>⟨o,oth b o (fL b o q nb) q,rq⟩,?_⟩
  λb o q nb=>⟨o.slots,oth b o (fL b o q nb) q⟩)
 have dN:=Obj.data_mapFields dT (·.setIfInBounds 3 Value.none);exact⟨oe,vs,oth e oe (Ne.symm hTe) he,hc,hd,h2,T,_,_,h1,nT,hTe,QaF _ hT (Obj.isFreed_of_fields dN),dN,by simp[hsz]⟩
theorem yL {fl:Option Value} (hfl:fl=none\/fl=some .none) (hfr:A.frames=some (env::outer)) (hf:env.frame=some L) (x:Fl B (env::outer) e C fl s.heap)
  (hq:∀h',Fl B outer e C (some .none) h'->s.heap.UpToSlots h'->Q () { s with heap:=h' }):wpAny M A (leaving env (.ref e)) Q E s:=by
 unfold leaving;refine QcJ (lQ hfl hfr hf x λh1 y u1=>?_);refine gP y λh2 z u2=>hq h2 ⟨z.stays,z.new,z.fr.2.2,z.tr⟩ (u1.trans u2)
end
theorem Bt.there {P:Program} {w:World} {H:Hp} {h:Heap} {a:Addr} {o:HO} (x:Bt P w H h a o):∃u,h.get? a=some u:=by
 cases o with
 | lst xs=>obtain⟨_,its,n,_,q⟩:=x;exact⟨_,q⟩
 | tup xs=>obtain⟨_,its,_,ob,q,_⟩:=x;exact⟨_,q⟩
 | dK kvs=>obtain⟨_,_,vs,_,ob,es,ep,q,_⟩:=x;exact⟨_,q⟩
 | dT kvs=>obtain⟨_,_,xs,_,ob,es,ep,q,_⟩:=x;exact⟨_,q⟩
 | set S n=>obtain⟨ob,es,ep,t,q,_⟩:=x;exact⟨_,q⟩
 | ins C dx fs=>obtain⟨_,_,_,q,_⟩:=x;exact⟨_,q⟩
 | own y=>exact x
 | xd fs=>obtain⟨mA,⟨od,es,ep,q,_⟩,_⟩:=x;exact⟨_,q⟩
 | rng lo hi=>obtain⟨t,u,v,q⟩:=x;exact⟨_,q⟩
 | frz ob u=>exact⟨_,x.1⟩
 | tbl ps=>exact⟨_,x⟩
 | met f y=>exact⟨_,x⟩
 | ext φ=>exact x.2.1
structure Exc (P:Program) (w:World) (outer:List Env) (H:Hp) (s:Shared) (e C:Addr) (B:Heap) (H':Hp) (s':Shared):Prop where
 os:s'.os=s.os
 bare:AllBare s'.gens
 fl:∃fl,(fl=none\/fl=some .none)/\Fl B outer e C fl s'.heap
 un:Un (frs outer) [] H H' s.heap s'.heap
 hok:HOk P w H' s'.heap
 tin:∀b o,s'.heap.get? b=some o->H' b≠none->B.get? b=some o
 old:∀b o,s.heap.get? b=some o->H b=none->b∉frs outer->B.get? b=some o
 ex:∀b o,s.heap.get? b=some o->b∉frs outer->∃o',B.get? b=some o'
def CX1 (P:Program) (w:World):CXT:=λouter H s E ev s'=>∃e C B H',ev=.ref e/\Exc P w outer H s e C B H' s'/\E (.ref C) none H'
section
variable {P:Program} {w:World} {outer:List Env} {H H':Hp} {s s':Shared} {e C:Addr} {B h2:Heap} {fl:Option Value}
theorem Exc.zN (x:Exc P w outer H s e C B H' s') (st:B.StaysIn h2):HOk P w H' h2:=λa o q=>
 (x.hok a o q).stay (λb u hb hu=>st b u (x.tin b u hu (by
  rcases hb with rfl | hb
  ·rw[q];exact λz=>nomatch z
  ·rw[hb];exact λz=>nomatch z))) (λ_ z=>z) λ_ _ z=>z
theorem Exc.JE (x:Exc P w outer H s e C B H' s') (f:Fl B outer e C fl h2) (u:s'.heap.UpToSlots h2):Un (frs outer) [] H H' s.heap h2:=by
 refine⟨λb o q n hb _=>f.stays b o (x.old b o q n hb),λb o q n hb hx=>?_,x.un.free,λb o q hx=>?_,x.un.tups,x.un.Gu,x.un.G3⟩
 ·obtain⟨sl,q1⟩:=x.un.slot b o q n hb hx;obtain⟨_,_,g⟩:=x.fl;obtain⟨_,o1,q2,nf⟩:=g.fr.mem hb;rw[q1] at q2;cases q2;obtain⟨sl2,q3⟩:=u b _ q1 nf;exact⟨sl2,q3⟩
 ·by_cases hb:b∈frs outer
  ·obtain⟨_,o1,q2,_⟩:=f.fr.mem hb;exact⟨o1,q2⟩
  ·obtain⟨o1,q1⟩:=x.ex b o q hb;exact⟨o1,f.stays b o1 q1⟩
theorem Exc.Go (x:Exc P w outer H s e C B H' s') (st:B.StaysIn h2):∀b o,h2.get? b=some o->H' b≠none->B.get? b=some o:=λb o q hb=>by
 cases hq:H' b with
 | none=>exact absurd hq hb
 | some v=>
  obtain⟨o1,q1⟩:=(x.hok b v hq).there;have q2:=x.tin b o1 q1 hb;have q3:=st b o1 q2;rw[q] at q3;cases q3;exact q2
theorem Exc.free (x:Exc P w outer H s e C B H' s'):H' e=none:=by
 cases hq:H' e with
 | none=>rfl
 | some v=>
  obtain⟨o1,q1⟩:=(x.hok e v hq).there;have q2:=x.tin e o1 q1 (by rw[hq];exact λz=>nomatch z);obtain⟨_,_,g⟩:=x.fl;rw[g.new] at q2;cases q2
theorem Exc.fresh (x:Exc P w outer H s e C B H' s'):s.heap.get? e=none:=by
 cases hq:s.heap.get? e with
 | none=>rfl
 | some o=>
  obtain⟨_,_,g⟩:=x.fl;by_cases hb:e∈frs outer
  ·obtain⟨_,o1,q1,nf⟩:=g.fr.mem hb;obtain⟨oe,vs,q2,_,q3,_⟩:=g.tr;rw[q1] at q2;cases q2;exact absurd q3 (nf vs)
  ·obtain⟨o1,q1⟩:=x.ex e o hq hb;rw[g.new] at q1;cases q1
end
section
variable {X:Cx} {jb:YC} {U : St} {H H':Hp} {s s':Shared} {e C:Addr} {B h2:Heap} {fl:Option Value}
theorem Exc.made {args:YE} {h':Heap} (I:Inv X jb U H s) (hx:Heap.MadeExcOf s.heap h' e (.ref C) args):Exc X.prog X.w X.stack H s e C (hideAll s.heap (frs X.stack)) H { s with heap:=h' }:=by
 have st:(hideAll s.heap (frs X.stack)).StaysIn s.heap:=λb o q=>PySem.W.of_hideAll _ q;refine⟨rq,I.bare,⟨none,.inl rfl,⟨λb o q=>hx.keeps b o (st b o q),?_,?_,?_⟩⟩,Un.kept hx.keeps,I.hok.kept hx.keeps,λb o q hb=>?_,λb o q n hb=>hideAll_get _ q hb,λb o q hb=>⟨o,hideAll_get _ q hb⟩⟩
 ·cases hq:(hideAll s.heap (frs X.stack)).get? e with
  | none=>rfl
  | some o=>
   have q:=st e o hq;rw[hx.new] at q;cases q
 ·have f0:s.heap.FunFrames (hideAll s.heap (frs X.stack)) X.stack:=PySem.W.funFrames_hide I.stack λenv he a ha=>List.mem_filterMap.mpr ⟨env,he,ha⟩;exact f0.of_keeps λb o q _=>⟨o,hx.keeps b o q,rq⟩
 ·obtain⟨t,q,_⟩:=hx.there;exact⟨_,_,q,rq,rq,rq,rq⟩
 ·cases hq:H b with
  | none=>exact absurd hq hb
  | some v=>
   obtain⟨o1,q1⟩:=(I.hok b v hq).there;have q2:=hx.keeps b o1 q1;have q':h'.get? b=some o:=q;rw[q'] at q2;cases q2;refine hideAll_get _ q1 λhm=>?_;rw[I.Yb b hm] at hq;cases hq
theorem Exc.leave {M:Model} {E1:YA} {Q:YH} (I:Inv X jb U H s) (hs:X.stack=X.env::X.outer) (hf:X.env.frame=some X.env.locals) (hx:X.ex=[]) (x:Exc X.prog X.w X.stack H s e C B H' s')
  (hq:∀h2,Exc X.prog X.w X.outer X.H₀ X.s₀ e C B H' { s' with heap:=h2 }->Q () { s' with heap:=h2 }):wpAny M X.A (leaving X.env (.ref e)) Q E1 s':=by
 obtain⟨fl,hfl,f⟩:=x.fl;have f':=f;rw[hs] at f';have nl:∀b o,X.s₀.heap.get? b=some o->b≠X.env.locals:=λb o q=>Qcu (Qbd (Qct q) I.ok.above);have ns:∀b o,X.s₀.heap.get? b=some o->b∉X.fs->b∉frs X.stack:=λb o q hb hm=>(Qcj.mp (I.WR b hm)).elim (nl b o q) hb;have FC:∀b,b∈X.fs->b∈frs X.stack:=λb hb=>by
  rw[hs];unfold frs;rw[List.filterMap_cons,hf];exact QaL _ hb
 have nx:∀b:Addr,b∉X.ex:=λb=>by rw[hx];simp
 refine yL hfl (I.ok.frames.trans (congrArg some hs)) hf f' λh2 g u=>hq h2 ⟨x.os.trans I.os,x.bare,⟨_,.inr rfl,g⟩,?_,x.zN g.stays,x.Go g.stays,λb o q n hb=>?_,λb o q hb=>?_⟩
 ·refine⟨λb o q n hb _=>?_,λb o q n hb _=>?_,λb o q n _=>?_,λb o q _=>?_,λb xs q=>x.un.tups b xs (I.base.tups b xs q),λb o v q=>x.un.Gu b o v (I.base.Gu b o v q),λb ps q=>?_⟩
  ·exact g.stays b o (x.old b o (I.base.keep b o q n hb (nx b)) (I.base.free b o q n (nx b)) (ns b o q hb))
  ·obtain⟨sl,q1⟩:=I.base.slot b o q n hb (nx b);obtain⟨sl2,q2⟩:=x.un.slot b _ q1 (I.base.free b o q n (nx b)) (FC b hb) (by simp);obtain⟨_,o1,q3,nf⟩:=f.fr.mem (FC b hb);rw[q2] at q3;cases q3;obtain⟨sl3,q4⟩:=u b _ q2 nf;exact⟨sl3,q4⟩
  ·obtain⟨o1,q1⟩:=I.base.there b o q (nx b);exact x.un.free b o1 q1 (I.base.free b o q n (nx b)) (by simp)
  ·by_cases hb:b∈X.fs
   ·obtain⟨_,o1,q1,_⟩:=g.fr.mem hb;exact⟨o1,q1⟩
   ·obtain⟨o1,q1⟩:=I.base.there b o q (nx b);obtain⟨o2,q2⟩:=x.ex b o1 q1 (ns b o q hb);exact⟨o2,g.stays b o2 q2⟩
  ·obtain⟨m1,q1⟩:=I.base.G3 b ps q;obtain⟨m2,q2⟩:=x.un.G3 b _ q1;exact⟨m1++m2,by rw[q2,Array.append_assoc]⟩
 ·exact x.old b o (I.base.keep b o q n hb (nx b)) (I.base.free b o q n (nx b)) (ns b o q hb)
 ·obtain⟨o1,q1⟩:=I.base.there b o q (nx b);exact x.ex b o1 q1 (ns b o q hb)
theorem Exc.caught (I:Inv X jb U H s) (x:Exc X.prog X.w X.stack H s e C B H' s') (f:Fl B X.stack e C fl h2) (u:s'.heap.UpToSlots h2):Inv X jb U (upd H' e (xo e C)) { s' with heap:=h2 }:=by
 have v:=x.JE f u;have he:=x.fresh;have hn:=x.free;have ne:∀b o,s.heap.get? b=some o->b≠e:=λb o q z=>by rw[z,he] at q;cases q
 have un:Un (frs X.stack) [] H (upd H' e (xo e C)) s.heap h2:=⟨v.keep,v.slot,λb o q n hx=>by rw[Aq (ne b o q)];exact v.free b o q n hx,v.there,λb xs q=>by rw[Aq (Ax (v.tups b xs q) hn)];exact v.tups b xs q,
  λb o w q=>by rw[Aq (Ax (v.Gu b o w q) hn)];exact v.Gu b o w q,λb ps q=>by
   obtain⟨m,q1⟩:=v.G3 b ps q;exact⟨m,by rw[Aq (Ax q1 hn)];exact q1⟩⟩
 have hok:HOk X.prog X.w (upd H' e (xo e C)) h2:=λb o q=>by
  by_cases hb:b=e
  ·subst hb;rw[Ab] at q;cases q;have at_:=f.tr.at;refine⟨at_,?_,λh1 h3 p k=>?_⟩
   ·obtain⟨oe,vs,q1,_⟩:=at_;exact⟨oe,q1⟩
   ·obtain⟨oe,vs,q1,q2⟩:=p;exact⟨oe,vs,k oe q1,q2⟩
  ·rw[Aq hb] at q;exact (x.zN f.stays b o q).stay (λc w _ q1=>q1) (λc q1=>by rw[Aq (Ax q1 hn)];exact q1) λc xs q1=>by rw[Aq (Ax q1 hn)];exact q1
 exact I.call' (s':={ s' with heap:=h2 }) x.os un hok x.bare λb z=>absurd z (by simp)
end
def NZ (X:Cx) (EX:St->XK):Prop:=∀(jb:YC) (U : St) (H:Hp) (s:Shared) (ev:Value) (s':Shared),Inv X jb U H s->CX1 X.prog X.w X.stack H s (EX U) ev s'->X.xe ev s'
theorem V9 {P:Program} {w:World} {K:YD} {mg:YB} {base:Heap} {N:YF} {qual:Str} {scope:Scope} {f:Addr} {cd:Value} {A:Around} {outer:List Env} {s:Shared} {H:Hp} {E:XK} :
  NZ (K4 (CX1 P w) P w K mg base N qual scope f cd A outer s H E) (λ_=>E):=λjb U H1 s1 ev s' I h=>by
 obtain⟨e,C,B,H',rfl,x,q⟩:=h;exact x.leave I rfl rfl rfl λh2 y=>⟨e,C,B,H',rq,y,q⟩
def CF (C:Addr) (EX:St->XK) (t:TA):TS:=λ_ U H=>t U H λvs H1=>vs.length<=sizeLine/\EX U (.ref C) none H1
theorem vQ {X:Cx} {EX:St->XK} {C:Addr} {x:Str} {np cpos pos:Pos} {e:Expr} {es:YJ} {t:TA} (hc:X.calm=true) (T:XCl X.K C) (hg:Gl X x) (hm:X.mg x=some (.ref C)) (hx:NZ X EX) (ha:PA X (e::es) t)
  (hdb:(x == ("__debug__":Str))=false:=by decide) (he:starEach (e::es) X.env=(false,eval e X.env)::starEach es X.env:=by rfl) (hpl:(backTo cpos (starEach es X.env)).any (·.1)=false:=by rfl) :
  PS X (.Raise (some (.Call (.Name x np) (e::es) [] cpos)) none pos) (CF C EX t):=by
 intro jb s U H D I h;obtain⟨bm,N,nm,q,bs,hdct,sn,sub,ab,col,dd,k0,k1,k2,k3,k5,mN,hC,hN,hni,TL⟩:=T.obj I.mod.kin;refine wpAny_Raise_call_subT F.excBase_ValueError (bm:=bm) (nm:=nm) (C:=C) (q:=q) (bs:=bs) (N:=N) (sn:=sn) (hdct:=hdct) (sub:=sub) (col:=col) (ab:=ab) (dd:=dd) (k5:=k5) (k3:=k3) (k2:=k2) (k1:=k1) (k0:=k0) (TL.hasType (by trivial)) (I.ok.hd hc) (by rw[he];show (false || (backTo cpos (starEach es X.env)).any (·.1))=false;rw[hpl];rfl) hni (Km I hg hm ⟨rfl,?_⟩ hdb);have h2:=ha cpos jb s U H _ I h;rw[he] at h2 ⊢;refine Calls.evalArgs_plain (thn h2 λus s2 zz=>?_);obtain⟨vs,H2,I2,r,hl,hE⟩:=zz;refine⟨rq,?_⟩;refine⟨by rw[<-r.length];exact hl,I2.bk _ _ hC,hN.keeps I2.bk,TL.keeps I2.bk,λh' ea mx=>?_⟩;exact hx jb U H2 s2 (.ref ea) { s2 with heap:=h' } I2 ⟨ea,C,_,H2,rq,Exc.made I2 mx,hE⟩
structure bK (P:Program) (w:World) (K:YD) (mg:YB) (base:Heap) (x:Str) (k:Nat) (ps:YF) (sp:Sp):Prop where
 ex:∃(f:Addr) (fd:FuncData),mg x=some (.ref f)/\keepIn K (.ref f)=true/\Binds K fd ps []/\FZ P w K mg base (CX1 P w) k f fd ps sp
theorem Code.zO {P:Program} {w:World} {K:YD} {mg:YB} {base:Heap} {x:Str} {st:Stmt} {ps N:YF} {k:Nat} {sp:Sp} (C:Code K mg x st ps) (S:Az N ps (Aj st)) (len:∀vs H Q E,sp vs H Q E->vs.length=ps.length)
  (hbody:∀(X:Cx) (f:Addr) (cdv:Value) (A:Around) (outer:List Env) (s:Shared) (H:Hp) (vs:YG) (Q:VK) (E:XK),X=K4 (CX1 P w) P w K mg base N x (Aj st) f cdv A outer s H E->NZ X (λ_=>E)->Ce k X.A->sp vs H Q E ->
   ∃t,PSs X (Dg st) t/\t { nx:=λ_ H'=>Q .non H',rt:=Q } (start N vs) H):bK P w K mg base x (k+1) ps sp:=by
 obtain⟨f,fd,F,m,b⟩:=C.ex;refine⟨f,fd,m,F.kp,b,?_⟩;obtain⟨oc,od,kV,doc,pm,an,cdv,ct,osl,rfl,lk,hcd⟩:=F.ex;exact bJ lk hcd S len λA outer s H vs Q E hr hsp=>hbody _ f cdv A outer s H vs Q E rfl V9 hr hsp
def C2 (sp:Sp) (EX:St->XK) (t:TA):TE:=fun U H Q=>t U H λvs H1=>sp vs H1 Q (EX U)
theorem DJ {X:Cx} {EX:St->XK} {k k':Nat} {ps:YF} {sp:Sp} {x:Str} {p pos:Pos} {e:Expr} {es:YJ} {t:TA} (g:bK X.prog X.w X.K X.mg X.base x k ps sp) (hr:Ce k' X.A) (hx:NZ X EX) (ha:PA X (e::es) t) (hk:k<=k':=by decide)
  (hg:Gl X x:=by rfl) (hdb:(x == ("__debug__":Str))=false:=by decide) (he:starEach (e::es) X.env=(false,eval e X.env)::starEach es X.env:=by rfl) (hpl:(backTo pos (starEach es X.env)).any (·.1)=false:=by rfl) :
  PE X (.Call (.Name x p) (e::es) [] pos) (C2 sp EX t):=by
 intro jb s U H Q I h;obtain⟨f,fd,m,kp,b,F⟩:=g.ex;refine Qbk (Km I hg m ?_ hdb);refine callWith_K (h₀:=X.base) I.ok.mod.kin kp (thn (ha pos jb s U H _ I h) λus s1 zz=>?_) he hpl;obtain⟨vs,H1,I1,r,q⟩:=zz;refine⟨I1.kIn,?_⟩;have hl:us.length=ps.length:=by rw[<-r.length];exact F.len _ _ _ _ q
 have bd:=b s1 us I1.kIn (by rw[QbP];exact hl);rw[QbP] at bd;refine wpAny_call (Qcz (F.run X.A X.stack s1 H1 ⟨us,[]⟩ us vs Q (EX U) (hr.mono hk) I1.env0 bd r q) λrr s' hq=>?_);cases rr with
 | error ev=>exact hx jb U H1 s1 ev s' I1 hq
 | ok fl=>
  cases fl with
  | ret u=>exact I1.after hq
  | next=>exact False.elim hq
  | brk=>exact False.elim hq
  | cont=>exact False.elim hq
theorem PS.nox {X:Cx} {st:Stmt} {t:TS} (h:PS X.nox st t):PS X st t:=λjb s U H D I hw=>
 QcL (h jb s U H D (I.wish _) hw) (λ_ _ q=>q.IW) λ_ _ z=>False.elim z
section
variable {M:Model} {A:Around} {E:YA} {h:Heap} {g:Array GenState} {d:Drawn} {t:Nat} {os:OsState} {K:YD} {e C HC:Addr}
theorem Cn {Q:Bool->Shared->Prop} (X:K.In h) (TH:XCl K HC) (hs:subIn K (.ref C) (.ref HC)=some true) (x:XAt e C h) (hq:Q true ⟨h,g,d,t,os⟩):wpAny M A (excMatches (.ref e) (.ref HC)) Q E ⟨h,g,d,t,os⟩:=by
 obtain⟨oe,vs,he,hc,_⟩:=x;obtain⟨dd,cd,sl,ho⟩:=TH.look;have hH:=X _ _ ho;have f1:=looks_subIn (M:=M) X TH.mb;have f2:=looks_subIn (M:=M) X hs;have f3:=tc_notTuple;unfold excMatches
 repeat (first | (with_reducible refine QbA he ?_;rw[hc]) | with_reducible refine QbA hH ?_ | with_reducible refine f1.at ?_ | with_reducible refine f2.at ?_ | wp_step)
 exact hq
end
abbrev Cx.by (X:Cx) (pn:YC) (E:YA):Cx:={ X with pn:=pn,xe:=E }
abbrev Cx.suite (X:Cx) (pn:YC) (ev:Value):Cx:={ X with pn:=pn,xe:=λ_ _=>False,A:=X.A.mark (some ev),calm:=false }
section
variable {X:Cx} {jb Iw pn:YC} {U : St} {H:Hp} {s:Shared} {E:YA} {ev:Value}
theorem Inv.by (I:Inv X jb U H s) (E:YA):Inv (X.by (X.pn++jb) E) [] U H s:=
 ⟨⟨I.ok.mod,I.ok.kind,I.ok.glob,I.ok.blt,I.ok.above,I.ok.inj,I.ok.has,I.ok.cab,I.ok.hd,I.ok.frames,I.ok.stk,I.ok.exf,I.ok.bs,I.ok.bsz,I.ok.O9,I.ok.Ly,I.ok.Hj,I.ok.frf⟩,I.os,I.bare,I.base,I.loc,I.cell,I.free,I.FP,
  λp hp=>I.pin p (by simpa using hp),I.hok,I.len⟩
theorem Inv.Rg (I:Inv (X.by (X.pn++jb) E) Iw U H s):Inv X jb U H s:=
 ⟨⟨I.ok.mod,I.ok.kind,I.ok.glob,I.ok.blt,I.ok.above,I.ok.inj,I.ok.has,I.ok.cab,I.ok.hd,I.ok.frames,I.ok.stk,I.ok.exf,I.ok.bs,I.ok.bsz,I.ok.O9,I.ok.Ly,I.ok.Hj,I.ok.frf⟩,I.os,I.bare,I.base,I.loc,I.cell,I.free,I.FP,
  λp hp=>I.pin p (QaM _ hp),I.hok,I.len⟩
theorem Inv.suite (I:Inv (X.by pn E) Iw U H s) (ev:Value):Inv (X.suite pn ev) Iw U H s:=
 ⟨⟨I.ok.mod,I.ok.kind,I.ok.glob,I.ok.blt,I.ok.above,I.ok.inj,I.ok.has,I.ok.cab,(λz=>nomatch z),I.ok.frames,I.ok.stk,I.ok.exf,I.ok.bs,I.ok.bsz,I.ok.O9,I.ok.Ly,I.ok.Hj,I.ok.frf⟩,I.os,I.bare,I.base,I.loc,I.cell,I.free,I.FP,
  I.pin,I.hok,I.len⟩
theorem Inv.Ul (hd:X.calm=true->X.A.handled=none) (I:Inv (X.suite (X.pn++jb) ev) Iw U H s):Inv X jb U H s:=
 ⟨⟨I.ok.mod,I.ok.kind,I.ok.glob,I.ok.blt,I.ok.above,I.ok.inj,I.ok.has,I.ok.cab,hd,I.ok.frames,I.ok.stk,I.ok.exf,I.ok.bs,I.ok.bsz,I.ok.O9,I.ok.Ly,I.ok.Hj,I.ok.frf⟩,I.os,I.bare,I.base,I.loc,I.cell,I.free,I.FP,
  λp hp=>I.pin p (QaM _ hp),I.hok,I.len⟩
theorem SP.Rg {D:Ends} {f:Flow} (h:SP (X.by (X.pn++jb) E) Iw D f s):SP X jb D f s:=by
 cases f with
 | next=>obtain⟨σ',H',I,q⟩:=h;exact⟨σ',H',I.Rg,q⟩
 | brk=>obtain⟨σ',H',I,q⟩:=h;exact⟨σ',H',I.Rg,q⟩
 | cont=>obtain⟨σ',H',I,q⟩:=h;exact⟨σ',H',I.Rg,q⟩
 | ret u=>obtain⟨v,σ',H',I,r,q⟩:=h;exact⟨v,σ',H',I.Rg,r,q⟩
theorem U6 {M:Model} {A:Around} {E1:YA} {i:Nat} {n:Str} {pos:Pos} {Q:YH} (I:Inv X jb U H s) (hN:X.N.Nodup) (hi:X.N[i]?=some n) (hl:X.env.scope.names.lookup n=some .local)
  (hq:∀s',Inv X jb (U.set i none) H s'->Q () s'):wpAny M A (do bindName X.env n .none;unbindBehindTheSuite X.env n pos) Q E1 s:=by
 obtain⟨m,hn,hm⟩:=id I.loc;have hcls:(X.env.scope.kind == .class || (X.env.scope.kind == .module&&X.env.locals != X.env.globals))=false:=by rw[I.ok.kind];rfl
 refine wpAny_nameGoes_keeps hl hn hcls λh' v nsv sb=>?_;have hiσ : i < U.length:=by rw[I.len];exact (Qai.mp hi).1
 obtain⟨oL,_,_,hoL,_⟩:=id hn;have below:∀b o,X.s₀.heap.get? b=some o->b≠X.env.locals:=λb o q=>Qcu (Qbd (Qct q) I.ok.above);refine hq _ ⟨I.ok,I.os,I.bare,⟨λb o q nn hb hx=>?_,λb o q nn hb hx=>?_,I.base.free,λb o q hx=>?_,I.base.tups,I.base.Gu,I.base.G3⟩,⟨_,nsv,λj y w e1 e2 e3=>?_⟩,λy c q=>?_,I.free,I.FP,λp hp=>?_,λb ob q=>?_,?_⟩
 ·exact (sb.2 b (below b o q)).trans (I.base.keep b o q nn hb hx)
 ·obtain⟨sl,q1⟩:=I.base.slot b o q nn hb hx;exact⟨sl,(sb.2 b (below b o q)).trans q1⟩
 ·obtain⟨o',q1⟩:=I.base.there b o q hx;exact⟨o',(sb.2 b (below b o q)).trans q1⟩
 ·by_cases hj:j=i
  ·subst hj;rw[List.getElem?_set_self hiσ] at e2;cases e2
  ·rw[List.getElem?_set_ne (Ne.symm hj)] at e2;obtain⟨u,r,q⟩:=hm j y w e1 e2 e3;refine⟨u,r,?_⟩;rcases q with⟨k,q⟩|⟨k,c,q,z⟩
   ·have ny:y≠n:=λz=>hj (Wd hN e1 (z ▸ hi));exact .inl ⟨k,by simp[ny,q]⟩
   ·exact .inr ⟨k,c,q,z.sameBut sb (I.cne y c q)⟩
 ·obtain⟨u,z⟩:=I.cell y c q;exact⟨u,z.sameBut sb (I.cne y c q)⟩
 ·obtain⟨q,nn,ne,nf,dd⟩:=I.pin p hp;exact⟨(sb.2 p.1 ne).trans q,nn,ne,nf,dd⟩
 ·refine (I.hok b ob q).stay (λc u hc q1=>(sb.2 c ?_).trans q1) (λ_ z=>z) λ_ _ z=>z;rintro rfl;rcases hc with rfl | hc
  ·rw[I.free] at q;cases q
  ·rw[I.free] at hc;cases hc
 ·rw[List.length_set];exact I.len
end
def Ends.drop (D:Ends) (i:Nat):Ends where
 nx:=fun U H=>D.nx (U.set i none) H
 rt:=D.rt
 bk:=fun U H=>D.bk (U.set i none) H
 ct:=fun U H=>D.ct (U.set i none) H
def pK (K:YD) (HC:Addr) (i:Nat) (th:Addr->TS) (D:Ends):St->XK:=fun U cls _ H=>∃C,cls=.ref C/\XCl K C/\subIn K (.ref C) (.ref HC)=some true/\∀e,H e=none->th e (D.drop i) (U.set i (some (.ref e))) (upd H e (xo e C))
structure JG (k:Nat) (A:Around):Prop where
 dp:A.depth+3*k+5 < recursionLimit
 un:A.units+16*k+200 < cLine
theorem Ce.inH {k:Nat} {A:Around} (r:Ce k A) (h:Option Value):JG k (A.mark h):=⟨r.dp,r.un⟩
theorem JG.deeper {k:Nat} {A:Around} (r:JG (k+1) A) (env:Env):JG k (A.deeper env):=
 ⟨by have:=r.dp;show A.depth+1+3*k+5 < _;omega,by have:=r.un;show A.units+3+16*k+200 < _;omega⟩
theorem JG.mono {j k:Nat} {A:Around} (r:JG k A) (h:j<=k):JG j A:=⟨by have:=r.dp;omega,by have:=r.un;omega⟩
theorem JG.units {k:Nat} {A:Around} (r:JG k A):A.units+64 < cLine:=by have:=r.un;omega
structure bL (P:Program) (w:World) (K:YD) (mg:YB) (base:Heap) (x:Str) (k:Nat) (ps:YF) (sp:Sp):Prop where
 ex:∃(f:Addr) (fd:FuncData),mg x=some (.ref f)/\keepIn K (.ref f)=true/\Binds K fd ps []/\(∀vs H Q E,sp vs H Q E->vs.length=ps.length) /\
  ∀(A:Around) (outer:List Env) (s:Shared) (H:Hp) (args:Args) (us:YE) (vs:YG) (Q:VK),JG k A->Nq P w K mg base A outer s H->BindsTo s fd args (ps.zip us)->Vals vs us->sp vs H Q E0 ->
   codeAny (model P w) A (.call (.ref f) args) (CR CX0 outer P w H s Q E0) s
abbrev cxH (P:Program) (w:World) (K:YD) (mg:YB) (base:Heap) (N:YF) (qual:Str) (scope:Scope) (f:Addr) (cd:Value) (A:Around) (outer:List Env) (s:Shared) (H:Hp):Cx:=
 { K4 CX0 P w K mg base N qual scope f cd A outer s H E0 with calm:=false,xe:=λ_ _=>False }
theorem Code.IF {P:Program} {w:World} {K:YD} {mg:YB} {base:Heap} {x:Str} {st:Stmt} {ps N:YF} {k:Nat} {sp:Sp} (C:Code K mg x st ps) (S:Az N ps (Aj st)) (len:∀vs H Q E,sp vs H Q E->vs.length=ps.length)
  (hbody:∀(f:Addr) (cdv:Value) (A:Around) (outer:List Env) (s:Shared) (H:Hp) (vs:YG) (Q:VK),JG k (A.deeper (envOfC x (Aj st) s.heap.objs.size f cdv))->sp vs H Q E0 ->
   ∃t,PSs (cxH P w K mg base N x (Aj st) f cdv A outer s H) (Dg st) t/\t { nx:=λ_ H'=>Q .non H',rt:=Q } (start N vs) H):bL P w K mg base x (k+1) ps sp:=by
 obtain⟨f,fd,F,m,b⟩:=C.ex;refine⟨f,fd,m,F.kp,b,len,λA outer s H args us vs Q hr e0 hb r hsp=>?_⟩;obtain⟨oc,od,kV,doc,pm,an,cdv,ct,osl,rfl,lk,hcd⟩:=F.ex;have hlen:=len _ _ _ _ hsp;have KX:K.In s.heap:=e0.mod.kin.keeps λb o q=>(e0.bs b o q).1;have lim:s.heap.NoLimit:=e0.mod.nolimit.keeps λb o q=>(e0.bs b o q).1;have hkind:∀y∈ps.zip us,(Aj st).names.lookup y.1=some .local\/((Aj st).names.lookup y.1=some .cell/\((cellsFrom (s.heap.objs.size+1) (Aj st).names []).lookup y.1).isSome=true):=λ⟨n,v⟩ hy=>by
  rcases S.par n (List.of_mem_zip hy).1 with q | q
  ·exact .inl q
  ·exact .inr ⟨q,PySem.W.cellsFrom_some _ _ _ (.inl q)⟩
 refine codeAny_call_function (by have:=hr.dp;omega) (KX _ _ lk) rfl S.co S.gen rfl (PySem.W.codeRec_of KX hcd) (hb _ _ _ _ ?_);refine wpAny_newFunctionEnv_cells S.kind hkind λenv he s1 ic=>?_;subst he;refine⟨lim.keeps ic.toInCall.keep,codeAny_func ?_⟩;obtain⟨t,ht,hq⟩:=hbody f cdv A outer s H vs Q (hr.deeper _) hsp;have e1:Nq P w K mg base { A with handled:=none } outer s H:=⟨e0.frames,e0.mod,e0.bs,e0.bsz,e0.Hj,e0.frf,e0.hok,e0.bare⟩;have I0:Inv (K4 CX0 P w K mg base N x (Aj st) f cdv { A with handled:=none } outer s H E0) [] (start N vs) H s1:=Z4 S rfl e1 hlen r ic;have I:Inv (cxH P w K mg base N x (Aj st) f cdv A outer s H) [] (start N vs) H s1:=
  ⟨⟨I0.ok.mod,I0.ok.kind,I0.ok.glob,I0.ok.blt,I0.ok.above,I0.ok.inj,I0.ok.has,I0.ok.cab,(λz=>nomatch z),Around.frames_deeper e0.frames,I0.ok.stk,I0.ok.exf,I0.ok.bs,I0.ok.bsz,I0.ok.O9,I0.ok.Ly,I0.ok.Hj,I0.ok.frf⟩,I0.os,I0.bare,I0.base,I0.loc,I0.cell,I0.free,I0.FP,
   I0.pin,I0.hok,I0.len⟩
 refine QcL (ht [] s1 (start N vs) H _ I hq) (λfl s' hs=>?_) λe s' z=>z.elim;have fin:∀{σ':St} {H':Hp} {v:V} {u:Value},Inv (cxH P w K mg base N x (Aj st) f cdv A outer s H) [] σ' H' s'->RelV v u->Q v H'->CE outer P w H s Q u s':=λ{σ' H' v u} J rv q=>⟨v,H',J.os,J.bare,J.base,J.hok,rv,q⟩;cases fl with
 | ret u=>
  obtain⟨v,σ',H',J,rv,q⟩:=hs;exact fin J rv q
 | next=>
  obtain⟨σ',H',J,q⟩:=hs;exact fin (v:=V.non) (u:=Value.none) J rfl q
 | brk=>obtain⟨_,_,_,q⟩:=hs;exact False.elim q
 | cont=>obtain⟨_,_,_,q⟩:=hs;exact False.elim q
theorem DM {X:Cx} {k k':Nat} {ps:YF} {sp:Sp} {x:Str} {p pos:Pos} {e:Expr} {es:YJ} {t:TA} (g:bL X.prog X.w X.K X.mg X.base x k ps sp) (hr:JG k' X.A) (ha:PA X (e::es) t) (hk:k<=k':=by decide)
  (hg:Gl X x:=by rfl) (hdb:(x == ("__debug__":Str))=false:=by decide) (he:starEach (e::es) X.env=(false,eval e X.env)::starEach es X.env:=by rfl) (hpl:(backTo pos (starEach es X.env)).any (·.1)=false:=by rfl) :
  PE X (.Call (.Name x p) (e::es) [] pos) (mU sp [] E0 t):=by
 intro jb s U H Q I h;obtain⟨f,fd,m,kp,b,len,run⟩:=g.ex;refine Qbk (Km I hg m ?_ hdb);refine callWith_K (h₀:=X.base) I.ok.mod.kin kp (thn (ha pos jb s U H _ I h) λus s1 zz=>?_) he hpl;obtain⟨vs,H1,I1,r,q⟩:=zz;refine⟨I1.kIn,?_⟩;have q:sp (vs++[]) H1 Q E0:=q;rw[QbP] at q;have hl:us.length=ps.length:=by rw[<-r.length];exact len _ _ _ _ q
 have bd:=b s1 us I1.kIn (by rw[QbP];exact hl);rw[QbP] at bd;refine wpAny_call (Qcz (run X.A X.stack s1 H1 ⟨us,[]⟩ us vs Q (hr.mono hk) I1.env0 bd r q) λrr s' hq=>?_);cases rr with
 | error ev=>exact False.elim hq
 | ok fl=>
  cases fl with
  | ret u=>exact I1.after hq
  | next=>exact False.elim hq
  | brk=>exact False.elim hq
  | cont=>exact False.elim hq
@[irreducible] def nH (K:YD):YG->Hp->VK->Prop:=λxs H Q=>∃a D C b,xs=[.ref a,.ref D]/\H a=some (xo a C)/\XCl K C/\kitOne K (.ref C) (.ref D)=some b/\Q (.bl b) H
theorem EY {X:Cx}:DW X (.builtin "isinstance") (nH X.K):=by
 intro jb s U H xs us Q I r h;unfold nH at h;obtain⟨a,D,C,b,rfl,ea,T,k,q⟩:=h;obtain⟨u,w',rfl,rx,rt⟩:=vals2 r;cases rx;cases rt;exact XC I T ea k λtk=>⟨.bl b,H,I.tok tk,rq,q⟩
@[irreducible] def bG (K:YD):YG->Hp->VK->Prop:=λxs H Q=>∃a T C b,xs=[.ref a,.ty T]/\H a=some (xo a C)/\XCl K C/\kitOne K (.ref C) (.type T)=some b/\Q (.bl b) H
theorem uD {X:Cx}:DW X (.builtin "isinstance") (bG X.K):=by
 intro jb s U H xs us Q I r h;unfold bG at h;obtain⟨a,T,C,b,rfl,ea,TC,k,q⟩:=h;obtain⟨u,w',rfl,rx,rt⟩:=vals2 r;cases rx;cases rt;exact XC I TC ea k λtk=>⟨.bl b,H,I.tok tk,rq,q⟩
end L2
namespace L2
open PySem PySem.Spec PyProof.Rows PySem.SeqAt
theorem Bl {c:Const} {k:Nat} {p:Pos} {es:YJ} {env:Env}:starEach (.Constant c k p::es) env=(false,eval (.Constant c k p) env)::starEach es env:=by rfl
def isT:Value->Bool
 | .bool b=>b
 | _=>false
theorem iR:∀{bs:List Bool} {us:YE},Vals (bs.map V.bl) us->us=bs.map Value.bool
 | [],_,.nil=>rfl
 | b::bs,_,.cons r t=>by
  cases (show _=Value.bool b from r)
  rw[iR t];rfl
section
variable {X:Cx}
@[irreducible] def Uv:V->YG->Hp->VK->Prop:=λx xs H Q=>∃(l:Addr) (bs:List Bool),x=.ref l/\xs=[.bl true]/\H l=some (.lst (bs.map V.bl))/\Q (.int ((bs.countP id:Nat):Int)) H
theorem eqT {A:Around} {s:Shared} {bs:List Bool}:∀y,y∈(bs.map Value.bool).toArray->EqAt A s y (.bool true) (isT y):=λy hy=>by
 have hy':y∈bs.map Value.bool:=by simpa using hy
 obtain⟨b,_,rfl⟩:=Qcs.mp hy';have:=EqAt.bool_bool (A:=A) (s:=s) b true;rw[show (b == true)=isT (.bool b) by cases b <;> rfl] at this;exact this
theorem uo {l:Addr} {bs:List Bool} {H:Hp} {Q:VK} (h:H l=some (.lst (bs.map V.bl))) (q:Q (.int ((bs.countP id:Nat):Int)) H):Uv (.ref l) [.bl true] H Q:=by
 unfold Uv;exact⟨l,bs,rq,rq,h,q⟩
theorem rG:MtM X "list.count" Uv:=by
 intro jb s U H x vs v us Q I rx rv h;unfold Uv at h;obtain⟨l,bs,rfl,rfl,hH,q⟩:=h;cases rx;obtain⟨u,rfl,ru⟩:=rv.one;cases (show _=Value.bool true from ru)
 obtain⟨z,its,n,r,hl,e⟩:=I.Tt hH;have hi:=iR r;subst hi;refine call_meets F.slot_list_count ⟨_,e,rq⟩ F.entry_list_count (F.args_list_count_2 _ _) (list_countAt l (bs.map Value.bool).toArray n none #[] (.bool true) isT) ⟨e,eqT,?_⟩;refine⟨.int ((bs.countP id:Nat):Int),H,I.tok _,⟨s.toks,?_⟩,q⟩;have hc:(bs.map Value.bool).countP isT=bs.countP id:=by
  rw[List.countP_map];congr 1
 simp only[hc]
@[irreducible] def Uu:V->YG->Hp->VK->Prop:=λx xs H Q=>∃(l:Addr) (bs:List Bool) (j:Nat),x=.ref l/\xs=[.bl true]/\H l=some (.lst (bs.map V.bl))/\j<=1000/\bs[j]?=some true/\(∀m,m < j->bs[m]?=some false)/\Q (.int (j:Int)) H
theorem rW {l:Addr} {bs:List Bool} {j:Nat} {H:Hp} {Q:VK} (h:H l=some (.lst (bs.map V.bl))) (h1:j<=1000) (h2:bs[j]?=some true) (h3:∀m,m < j->bs[m]?=some false) (q:Q (.int (j:Int)) H):Uu (.ref l) [.bl true] H Q:=by
 unfold Uu;exact⟨l,bs,j,rq,rq,h,h1,h2,h3,q⟩
theorem rF:MtM X "list.index" Uu:=by
 intro jb s U H x vs v us Q I rx rv h;unfold Uu at h;obtain⟨l,bs,j,rfl,rfl,hH,hj1,hj,hno,q⟩:=h;cases rx;obtain⟨u,rfl,ru⟩:=rv.one;cases (show _=Value.bool true from ru)
 obtain⟨z,its,n,r,hl,e⟩:=I.Tt hH;have hi:=iR r;subst hi;have hjl:j < bs.length:=(Qai.mp hj).1;have hj2:j < (bs.map Value.bool).toArray.size:=by simpa using hjl
 have hit:isT ((bs.map Value.bool).toArray[j]'hj2)=true:=by
  have h1:bs[j]=true:=(Qai.mp hj).2;simp[h1,isT]
 have hn:∀m (hm:m < (bs.map Value.bool).toArray.size),m < j->isT (bs.map Value.bool).toArray[m]=false:=λm hm hmj=>by
  have h1:=(Qai.mp (hno m hmj)).2;simp[h1,isT]
 refine call_meets F.slot_list_index ⟨_,e,rq⟩ F.entry_list_index (F.args_list_index_2 _ _) (list_indexAt l (bs.map Value.bool).toArray n none #[] (.bool true) isT j hj2 (Int.lt_of_le_of_lt (b:=1000) (by omega) (by trivial)) hit hn) ⟨e,eqT,?_⟩;exact⟨.int (j:Int),H,I.tok _,⟨_,rq⟩,q⟩
end
theorem Hh {K:YD} {a D C:Addr} {b:Bool} {H:Hp} {Q:VK} (h:H a=some (xo a C)) (T:XCl K C) (k:kitOne K (.ref C) (.ref D)=some b) (q:Q (.bl b) H):nH K [.ref a,.ref D] H Q:=by
 unfold nH;exact⟨a,D,C,b,rq,h,T,k,q⟩
theorem BH {K:YD} {a C:Addr} {T:String} {b:Bool} {H:Hp} {Q:VK} (h:H a=some (xo a C)) (TC:XCl K C) (k:kitOne K (.ref C) (.type T)=some b) (q:Q (.bl b) H):bG K [.ref a,.ty T] H Q:=by
 unfold bG;exact⟨a,T,C,b,rq,h,TC,k,q⟩
section
variable {prog:Program} {w:World} {A:Around} {E:YA} {s:Shared}
end
end L2
namespace L2
open PySem PySem.Spec PyProof.Rows
section
variable {X:Cx} {jb:YC} {U : St} {H:Hp} {s:Shared} {a:Addr} {kvs:YM} {o:Obj}
end
theorem RZ:entryFor table "dict_itemiterator.__iter__"=some Builtin.«dict_keyiterator.__iter__»:=entryFor_alias (id':="dict_keyiterator.__iter__") (by kernel_rfl) rfl (by trivial) (by kernel_rfl)
theorem aZ {prog:Program} {w:World} {A:Around} {E:YA} {s:Shared} {it d:Addr} {i n ep:Nat} {ok ov:Value} {Q:YA} (hit:IsItemIter s.heap it d i n ep ok ov) (h:Q (.ref it) s) :
  wpAny (model prog w) A (pyIter (.ref it)) Q E s:=by
 have hT:s.TypeIs (.ref it) "dict_itemiterator":=⟨_,hit,rq⟩;refine wpAny_pyIter_slot hT F.slot_dict_itemiterator_iter (QbF F.slot_dict_itemiterator_iter hT RZ ?_ (F.args_dict_itemiterator_iter_1 _));exact QcK ⟨_,rq,"dict_itemiterator",_,hT,Qac.lookup,h⟩
section
variable {a l:Addr} {o:Obj} {kvs:YM} {g:TG} {tb:TS} {D:Ends} {U : St} {H:Hp} {tt:TT} {te tk tv:TE} {Q:VK}
theorem uf {K:YD} {xs:YG} {σ0:St} {H0:Hp} (Pv:YN) (h0:Pv 0 σ0 H0) (hl:∀i U H',i<=xs.length->Pv i U H'->SqT K H' a xs)
  (hs:∀i x U H',xs[i]?=some x->Pv i U H'->g x U H' fun σ3 H3=>tt σ3 H3 λb H4=>if b=true then tk σ3 H4 λy H5=>tv σ3 H5 λz H6=>∃(kvs:YM) (k:Key),H6 l=some (.dK kvs)/\y=kV k/\kvs.length < sizeLine/\Pv (i+1) σ3 (upd H6 l (.dK (putK kvs k z))) else Pv (i+1) σ3 H4)
  (hd:∀ U H',Pv xs.length U H'->Q (.ref l) H'):Vg (Itt K a) g tt tk tv Q σ0 H0 l:=by
 unfold Vg;refine⟨λi m U H'=>m=xs.length - i/\i<=xs.length/\Pv i U H',⟨xs.length,by simp,QcE _,h0⟩,?_⟩;rintro i m U H' ⟨rfl,hi,p⟩;have q:=hl i U H' hi p;by_cases hlt:i < xs.length
 ·refine .inr ⟨⟨xs,xs[i],q,by simp[hlt]⟩,Pv (i+1),fun σ3 H3 p'=>⟨xs.length - (i+1),by omega,rq,hlt,p'⟩,λx H2 y=>?_⟩;obtain⟨e,y⟩:=y;subst e;exact hs i x U _ (y xs q) p
 ·have e:i=xs.length:=by omega
  subst e;exact .inl ⟨⟨xs,q,QcD _⟩,hd U H' p⟩
end
open PySem.W (KasT kas_asc kas_desc kas_rev kas_tail3 kas_descPart kas_count kas_place kas_bin kas_sort)
def Hv {α : Type} (n:Nat) (P:α->Prop):KasT α->Prop
 | .ret a=>P a
 | .ask i j k=>i < n/\j < n/\∀b,Hv n P (k b)
theorem Kq {α β : Type} {n:Nat} {P:α->Prop} {Q:β->Prop} {f:α->KasT β}:∀t:KasT α,Hv n P t->(∀a,P a->Hv n Q (f a))->Hv n Q (t.bind f)
 | .ret a,h,q=>q a h
 | .ask i j k,h,q=>⟨h.1,h.2.1,λb=>Kq (k b) (h.2.2 b) q⟩
def Pm (n:Nat) (p:Array Nat):Prop:=p.toList.Perm (List.range n)
theorem Pm.rev {n:Nat} {p:Array Nat} (h:Pm n p) (i j:Nat):Pm n (kas_rev p i j):=(Array.perm_iff_toList_perm.mp (mirror_perm p i j ((j - i) / 2))).trans h
theorem Pm.bub {n:Nat} {p:Array Nat} (h:Pm n p) (k d:Nat):Pm n (bubble p k d):=(Array.perm_iff_toList_perm.mp (bubble_perm p k d)).trans h
theorem Pm.lt {n:Nat} {p:Array Nat} (h:Pm n p) (n0:0 < n) (i:Nat):p.getD i 0 < n:=by
 by_cases hi:i < p.size
 ·have e:p.getD i 0=p[i]:=by simp[hi]
  rw[e];have hm:p[i]∈p.toList:=by simp
  exact Qcg.mp (h.mem_iff.mp hm)
 ·have e:p.getD i 0=0:=by simp[hi]
  rw[e];exact n0
section
variable {n:Nat} (n0:0 < n)
include n0
theorem Zv {p:Array Nat} (h:Pm n p):∀f k,Hv n (λ_=>True) (kas_asc p f k)
 | 0,k=>trivial
 | f+1,k=>⟨h.lt n0 _,h.lt n0 _,λb=>by
  cases b with
  | true=>exact trivial
  | false=>exact Zv h f (k+1)⟩
theorem RL:∀f (p:Array Nat),Pm n p->∀k q,Hv n (λr:Array Nat×Nat×Nat=>Pm n r.1) (kas_desc f p k q)
 | 0,p,h,k,q=>h
 | f+1,p,h,k,q=>⟨h.lt n0 _,h.lt n0 _,λb=>by
  cases b with
  | true=>
   show Hv n _ (if q > 0 then kas_desc f (kas_rev p (k - (q+1)) k) (k+1) 0 else kas_desc f p (k+1) 0)
   split
   ·exact RL f _ (h.rev _ _) _ _
   ·exact RL f _ h _ _
  | false=>exact⟨h.lt n0 _,h.lt n0 _,λd=>by
    cases d with
    | true=>exact h
    | false=>exact RL f _ h _ _⟩⟩
theorem iY {p:Array Nat} (h:Pm n p) (a b:Nat):Hv n (λr:Nat×Array Nat=>Pm n r.2) (kas_tail3 a b p):=
 Kq _ (Zv n0 (h.rev 0 a) _ _) λm _=>h.rev 0 a
theorem Uc {p:Array Nat} (h:Pm n p) (a b:Nat):Hv n (λr:Nat×Array Nat=>Pm n r.2) (kas_descPart a b p):=
 Kq _ (RL n0 _ p h _ _) λr hr=>by
  show Hv n _ (if r.2.2 > 0 then _ else _)
  split
  ·exact iY n0 (Pm.rev hr _ _) _ _
  ·exact iY n0 hr _ _
theorem aF {p:Array Nat} (h:Pm n p) (a:Nat):Hv n (λr:Nat×Array Nat=>Pm n r.2) (kas_count a p):=
 Kq _ (Zv n0 h _ _) λm _=>by
  show Hv n _ (if (m == a)=true then _ else if m > 1 then _ else _)
  split
  ·exact h
  ·split
   ·refine⟨h.lt n0 _,h.lt n0 _,λb=>?_⟩;cases b with
    | true=>exact h
    | false=>exact Uc n0 (h.rev _ _) _ _
   ·exact Uc n0 h _ _
theorem Ub {p:Array Nat} (h:Pm n p) (k:Nat):∀f l r,Hv n (λ_=>True) (kas_place p k f l r)
 | 0,_,_=>trivial
 | f+1,l,r=>by
  show Hv n _ (if l ≥ r then _ else _)
  split
  ·exact trivial
  ·refine⟨h.lt n0 _,h.lt n0 _,λb=>?_⟩;cases b with
   | true=>exact Ub h k f _ _
   | false=>exact Ub h k f _ _
theorem mC:∀f (p:Array Nat),Pm n p->∀k,Hv n (Pm n) (kas_bin f p k)
 | 0,p,h,_=>h
 | f+1,p,h,k=>Kq _ (Ub n0 h k _ _ _) λl _=>mC f _ (h.bub _ _) _
theorem iZ:Hv n (Pm n) (kas_sort n):=
 Kq _ (aF n0 (p:=List.toArray (List.range n)) (show Pm n _ by unfold Pm;exact List.Perm.refl _) n) λr hr=>by
  show Hv n _ (if r.1 < n then _ else _)
  split
  ·exact mC n0 _ _ hr _
  ·exact hr
end
section
variable {prog:Program} {w:World} {A:Around} {E:YA} {s:Shared}
theorem cQ {l:Addr} {vs:YE} {Q:YA} (hl:s.heap.IsList l vs.toArray) (h1:vs.length < 2)
  (h:∀D h' c,s.heap.objs.size<=D->h'.get? D=some (seqObj "list" vs.toArray c)->(∀b o,s.heap.get? b=some o->h'.get? b=some o)->Q (.ref D) { s with heap:=h' }):wpAny (model prog w) A (call (.builtin "sorted") [.ref l]) Q E s:=by
 have h2:vs.toArray.size < 2:=by rw[Qbo];exact h1
 have hz:vs.length<=sizeLine:=Qcx (Am (by omega));refine Calls.call_function_entry (Q:=Q) kind_sorted plain_sorted entry_sorted (args_sorted1 (.ref l)) ?_;unfold Builtin.«sorted»;refine QcJ (m:=checkCount "sorted" 1 1 [Value.ref l].length) (QcK ?_);refine QcJ (collect_list (vs:=vs) hl ?_ hz);have k1:∀b o,s.heap.get? b=some o->((s.heap.push (seqObj "list" #[] 0)).update s.heap.objs.size (Obj.mapSeq (·++vs.toArray))).get? b=some o:=λb o q=>by
  rw[QaB _ _ (Qcy (Qct q))];exact Qaz _ q
 have z1:((s.heap.push (seqObj "list" #[] 0)).update s.heap.objs.size (Obj.mapSeq (·++vs.toArray))).objs.size=s.heap.objs.size+1:=by rw[Heap.size_update,Qce]
 generalize ((s.heap.push (seqObj "list" #[] 0)).update s.heap.objs.size (Obj.mapSeq (·++vs.toArray)))=g1 at k1 z1;refine QcJ (wpAny_newList ?_ hz);have oD:(g1.push (seqObj "list" vs.toArray 0)).get? g1.objs.size=some (seqObj "list" vs.toArray 0):=QaP _ rfl;have k2:∀b o,s.heap.get? b=some o->b≠g1.objs.size/\(g1.push (seqObj "list" vs.toArray 0)).get? b=some o:=λb o q=>⟨by rw[z1];exact Qcu (Nat.lt_succ_of_lt (Qct q)),Qaz _ (k1 b o q)⟩;refine QcJ (Qcn (QbF slot_list_sort ⟨_,oD,rq⟩ entry_list_sort ?_ (args_list_sort _)));rw[list_sort_plain];have zD:s.heap.objs.size<=g1.objs.size:=by rw[z1];exact QcI _
 generalize g1.objs.size=D at oD k2 zD;generalize hg2:g1.push (seqObj "list" vs.toArray 0)=g2 at oD k2;refine QcJ (listItems_at (a:=D) oD rfl ?_);refine QcJ (listUpdate_at (a:=D) oD rfl ?_ (by rw[Qbo];exact hz) (QcE _));obtain⟨e1,o1⟩ : ∃e1,(g2.update D (Obj.mapSeq λ_=>(#[]:Array Value))).get? D=some (seqObj "list" #[] e1):=⟨_,get?_update_seq oD λ_=>#[]⟩;have k3:∀b o,s.heap.get? b=some o->b≠D/\(g2.update D (Obj.mapSeq λ_=>(#[]:Array Value))).get? b=some o:=λb o q=>⟨(k2 b o q).1,by rw[QaB _ _ (Ne.symm (k2 b o q).1)];exact (k2 b o q).2⟩;have zip2:(arrOf (SortSt.mk' general' (vs.toArray.zip vs.toArray) #[] 7 none)).map (·.2)=vs.toArray:=by
  show (vs.toArray.zip vs.toArray).map (·.2)=vs.toArray;apply Array.toList_inj.mp;simp[Array.toList_zip,List.map_snd_zip]
 dsimp only;generalize g2.update D (Obj.mapSeq λ_=>(#[]:Array Value))=g3 at o1 k3 ⊢;refine QcJ (seqEpoch_at (a:=D) o1 rfl ?_);refine QcJ (wpAny_newTuple ?_ (by simpa using hz));refine QcJ (wpAny_newList (items:=[]) ?_ (QcE _));refine Qcn ?_;have o5:∀x y:Obj,((g3.push x).push y).get? D=some (seqObj "list" #[] e1):=λx y=>Qaz _ (Qaz _ o1);have k5:∀x y:Obj,∀b o,s.heap.get? b=some o->b≠D/\((g3.push x).push y).get? b=some o:=λx y b o q=>⟨(k3 b o q).1,Qaz _ (Qaz _ (k3 b o q).2)⟩;dsimp only;rw[if_pos h2,if_pos h2];refine QcJ (QcK ?_);rw[StateT.run_pure];refine QcJ (QcK ?_);dsimp only;refine QcJ (seqEpoch_at (a:=D) (o5 _ _) rfl ?_);rw[zip2];refine QcJ (listUpdate_at (a:=D) (o5 _ _) rfl ?_ (QcE _) (by first | (rw[Qbo];exact hz) | (rw[Qbo];omega)))
 simp only[bne_self_eq_false,Bool.false_eq_true,if_false];obtain⟨c,oF⟩ : ∃c,(((g3.push { cls:=.type "tuple",data:=.seq vs.toArray }).push { cls:=.type "list",data:=.seq #[] }).update D (Obj.mapSeq λ_=>vs.toArray)).get? D=some (seqObj "list" vs.toArray c):=⟨_,get?_update_seq (o5 _ _) λ_=>vs.toArray⟩;refine QcK ⟨_,rq,QcK ⟨_,rq,h D _ c zD oF λb o q=>?_⟩⟩;rw[QaB _ _ (Ne.symm (k3 b o q).1)];exact (k5 _ _ b o q).2
end
theorem Be {h:Heap} {a:Addr} {m m':YB} (x:h.Ns a m) (y:h.Ns a m'):m=m':=by
 obtain⟨o,es,ep,h1,h2,_,h3⟩:=x;obtain⟨o',es',ep',g1,g2,_,g3⟩:=y;rw[h1] at g1;cases g1;rw[h2] at g2;cases g2
 funext k
 rw[<-h3,<-g3]
theorem ZS {α β : Type} (d:α) (e:β):∀{vs:List α} {its:List β} {F:α->β->Prop} {is:List Nat},Paired F vs its->(∀i∈is,i < vs.length)->Paired F (is.map λi=>vs.getD i d) (is.map λi=>its.getD i e)
 | vs,its,F,[],_,_=>.nil
 | vs,its,F,i::is,r,h=>by
  refine .cons ?_ (ZS d e r λj hj=>h j (QaL _ hj));have hi:=h i (QaZ ..);have go:∀{l:List α} {m:List β} {i:Nat},Paired F l m->i < l.length->F (l.getD i d) (m.getD i e):=by
   intro l m i r
   induction r generalizing i with
   | nil=>intro h;exact absurd h (QbZ _)
   | cons a t ih=>
    intro h;cases i with
    | zero=>exact a
    | succ i=>exact ih (Nat.lt_of_succ_lt_succ h)
  exact go r hi
theorem range_getD {α : Type} (d:α) (vs:List α):(List.range vs.length).map (λi=>vs.getD i d)=vs:=by
 apply List.ext_getElem
 ·simp
 ·intro i h1 h2;simp[h2]
def pU (K:YD) (H:Hp) (vs:YG):Prop:=∀v∈vs,∃t ns,v=.ref t/\SqT K H t ((ns:List Int).map V.int)/\0 < ns.length
theorem lD {X:Cx} {jb:YC} {U : St} {H:Hp} {s:Shared} {h':Heap} (I:Inv X jb U H s) (k:∀b o,H b≠none\/(∃u,X.base.get? b=some u)->s.heap.get? b=some o->h'.get? b=some o):∀{vs:YG} {its:YE},Vals vs its->pU X.K H vs ->
  ∃fs,PySem.W.KatTups h' its fs/\fs.length=its.length/\∀f∈fs,∃i t,f=Value.int i t
 | _,_,.nil,_=>⟨[],trivial,rfl,λf h=>nomatch h⟩
 | _,_,.cons r t,h=>by
  obtain⟨fs,f1,f2,f3⟩:=lD I k t λv hv=>h v (QaL _ hv);obtain⟨tp,ns,rfl,hq,hn⟩:=h _ (QaZ ..);cases r;obtain⟨its,rv,⟨o,ho,hc,n,hd⟩,_⟩:=I.tuple hq;have ho':h'.get? tp=some o:=by
   refine k tp o ?_ ho;rcases hq with (e |⟨_,e⟩) |⟨_,_,_,e,_⟩
   ·exact .inl (by rw[e];exact λz=>nomatch z)
   ·exact .inl (by rw[e];exact λz=>nomatch z)
   ·exact .inr ⟨_,I.mod.kin _ _ e⟩
  cases ns with
  | nil=>exact absurd hn (Qcm _)
  | cons n0 nr=>
   cases rv with
   | cons r0 rr=>
    obtain⟨tk,rfl⟩:=r0;exact⟨Value.int n0 tk::fs,PySem.W.KatTups.cons ho' hc hd (by simp) f1,by simp[f2],λf hf=>by
     rcases Qcj.mp hf with rfl | hf
     ·exact⟨_,_,rq⟩
     ·exact f3 f hf⟩
end L2
namespace L2
open PySem PySem.Spec PyProof.Rows
theorem fV:typeLookup (.type "list") "keys"=pure none:=by rw[typeLookup_type,builtinLookup_eq_fast];kernel_rfl
theorem fW:typeLookup (.type "list") "__getattr__"=pure none:=by rw[typeLookup_type,builtinLookup_eq_fast];kernel_rfl
theorem Sx:isSubtype (.type "AttributeError") (.type "AttributeError")=pure true:=by rw[isSubtype_type];kernel_rfl
section
variable {M:Model} {A:Around} {E:YA} {s:Shared}
theorem wI {e:Addr} {o:Obj} {x nm T:Value} {Q:YH} (ho:s.heap.get? e=some o) (hc:o.cls=.type "AttributeError") (hd:o.data=.fields #[T,.none,.none,.none,.bool false,.none,unsetMember,unsetMember])
  (h:∀h',(∀b u,b≠e->s.heap.get? b=some u->h'.get? b=some u)->(∃o',h'.get? e=some o'/\o'.cls=.type "AttributeError")->Q () { s with heap:=h' }):wpAny M A (noteAttr (.ref e) x nm) Q E s:=by
 obtain⟨oc,od,oa,os⟩:=o;cases hc;cases hd;have hT:s.TypeIs (.ref e) "AttributeError":=⟨_,ho,rq⟩;unfold noteAttr;refine QcJ ?_;unfold lacksNameAndObj;refine QcJ (QbK hT Sx ?_);simp only[Bool.not_true,Bool.false_eq_true,if_false];refine QcJ (wpAny_load ho ?_);refine QcK ?_;rw[if_pos rfl];refine QcJ (wpAny_rule ?_);refine QcJ (QcB hT ?_);show wpAny _ _ (layMembers e 6 #[nm,x]) _ _ _;unfold layMembers;refine QcJ (wpAny_load ho ?_);refine wpAny_update ho ?_;refine h _ (λb u nb q=>?_) ⟨_,QaF _ ho rfl,rq⟩;rw[QaB _ _ (Ne.symm nb)];exact q
end
section
variable {prog:Program} {w:World} {A:Around} {E:YA} {s:Shared}
theorem dR {α : Type} {x:Value} {nm msg:Str} {Q:α->Shared->Prop} (hm:msg.length<=sizeLine) (hh:A.handled=none) (hq:∀h' tk' e o,(∀b u,s.heap.get? b=some u->h'.get? b=some u)->h'.get? e=some o->o.cls=.type "AttributeError"->E (.ref e) { s with heap:=h',toks:=tk' }) :
  wpAny (model prog w) A (raiseAttrError x nm msg:Sem α) Q E s:=by
 unfold raiseAttrError;refine QcJ (wpAny_mkStr (QcJ ?_) hm);unfold newExc newTuple;refine QcJ (Qbs ?_);refine QcJ (m:=firstArgMember _ _) (wpAny_of_eq (a:=Value.none) (by kernel_rfl) ?_);refine Qbs ?_;refine QcJ (wpAny_mkText (QcJ ?_));refine wI (QaP _ rfl) rfl rfl λh' k1 ⟨o',k2,k3⟩=>?_;unfold raiseNew;refine QcJ (wpAny_handled ?_);rw[hh]
 first
  | refine wpAny_throw ?_
  | refine QcJ (QcK (wpAny_throw ?_))
 exact hq _ _ _ o' (λb u q=>k1 b u (Qcu (by rw[Qce];exact Nat.lt_succ_of_lt (Qct q))) (Qaz _ (Qaz _ q))) k2 k3
end
section
variable {prog:Program} {w:World} {A:Around} {E:YA} {h:Heap} {g:Array GenState} {d:Drawn} {t:Nat} {os:OsState} {a:Addr} {xs:Array Value} {c:Nat}
theorem wM {tk:Tok} {Q:Fin->Shared->Prop} (hh:A.handled=none) (hx:h.get? a=some (seqObj "list" xs c)) (hq:∀h' tk' e o,(∀b u,h.get? b=some u->h'.get? b=some u)->h'.get? e=some o->o.cls=.type "AttributeError"->E (.ref e) ⟨h',g,d,tk',os⟩) :
  wpAny (model prog w) A (Builtin.«object.__getattribute__» ⟨[.ref a,.str "keys" tk],[]⟩) Q E ⟨h,g,d,t,os⟩:=by
 have hT:(⟨h,g,d,t,os⟩ : Shared).TypeIs (.ref a) "list":=⟨_,hx,rq⟩;have f4:=fV
 repeat (any_goals (first | assumption | wp_step))
 exact dR (Qcx (Am (by trivial))) hh λh' tk' e o k1 k2 k3=>hq h' tk' e o k1 k2 k3
theorem Bi {tk:Tok} {R:Result->Shared->Prop} (hh:A.handled=none) (hx:h.get? a=some (seqObj "list" xs c)) (hq:∀h' tk' e o,(∀b u,h.get? b=some u->h'.get? b=some u)->h'.get? e=some o->o.cls=.type "AttributeError"->R (.error (.ref e)) ⟨h',g,d,tk',os⟩) :
  codeAny (model prog w) A (.call (.builtin "list.__getattribute__") ⟨[.ref a,.str "keys" tk],[]⟩) R ⟨h,g,d,t,os⟩:=
 QaN F.slot_list_getattribute.plain F.entry_list_ga (F.slot_list_getattribute.check _ _ _ _ _ _ _ _ (show (⟨h,g,d,t,os⟩ : Shared).TypeIs (.ref a) "list" from⟨_,hx,rq⟩) (F.args_list_getattribute_2 _ _) (wM hh hx hq))
theorem Hd {tk:Tok} {Q:YA} (hh:A.handled=none) (hx:h.get? a=some (seqObj "list" xs c)) (hq:∀h' tk' e o,(∀b u,h.get? b=some u->h'.get? b=some u)->h'.get? e=some o->o.cls=.type "AttributeError"->E (.ref e) ⟨h',g,d,tk',os⟩):wpAny (model prog w) A (getAttrBy (.ref a) (.str "keys" tk) false) Q E ⟨h,g,d,t,os⟩:=by
 have hT:(⟨h,g,d,t,os⟩ : Shared).TypeIs (.ref a) "list":=⟨_,hx,rq⟩;have f2:=F.slot_list_getattribute.lookup;have f3:=F.slot_list_getattribute.bind (.ref a);have f5:=fW
 repeat (any_goals (first | assumption | wp_step))
 refine Bi hh hx λh' tk' e o k1 k2 k3=>?_;have hT2:(⟨h',g,d,tk',os⟩ : Shared).TypeIs (.ref e) "AttributeError":=⟨_,k2,k3⟩;have f6:=Sx
 repeat (any_goals (first | assumption | wp_step))
 all_goals exact hq h' tk' e o k1 k2 k3
theorem By {Q:Option Value->Shared->Prop} (hh:A.handled=none) (hx:h.get? a=some (seqObj "list" xs c)) (hq:∀h' tk',(∀b u,h.get? b=some u->h'.get? b=some u)->Q none ⟨h',g,d,tk',os⟩):wpAny (model prog w) A (getAttr? (.ref a) "keys") Q E ⟨h,g,d,t,os⟩:=by
 unfold getAttr? getAttrBy?;refine QcJ (wpAny_mkText (QcJ (Qcp ?_)));refine Hd hh hx λh' tk' e o k1 k2 k3=>?_;have hT2:(⟨h',g,d,tk',os⟩ : Shared).TypeIs (.ref e) "AttributeError":=⟨_,k2,k3⟩;refine QcJ (QbK hT2 Sx ?_);rw[if_pos rfl];exact QcK (hq _ _ k1)
end
theorem Ec:plainId "dict.update.loop"=true:=by trivial
theorem Jj:entryFor table "dict.update.loop"=some Builtin.«dict.update.loop»:=entryFor_of_fast (by kernel_rfl)
section
variable {prog:Program} {w:World} {κ : Type} [DecidableEq κ] {knd:KeyKind prog w κ} {A:Around} {E:YA} {s:Shared} {R:Result->Shared->Prop}
end
section
variable {prog:Program} {w:World} {κ : Type} [DecidableEq κ] {knd:KeyKind prog w κ} {A:Around} {E:YA} {s:Shared}
end
structure F5 (P:Program) (w:World) (K:YD) (mg:YB) (base:Heap) (C:Addr) (m:Str) (k:Nat) (ps:YF) (sp:Sp):Prop where
 ex:∃(f:Addr) (fd:FuncData),Meth K C m f/\Binds K fd ps []/\FZ P w K mg base (CX1 P w) k f fd ps sp
theorem K9.zO {P:Program} {w:World} {K:YD} {mg:YB} {base:Heap} {C:Addr} {m qn:Str} {st:Stmt} {ps N:YF} {k:Nat} {sp:Sp} (c:K9 K C m qn st ps) (S:Az N ps (Aj st)) (len:∀vs H Q E,sp vs H Q E->vs.length=ps.length)
  (hbody:∀(X:Cx) (f:Addr) (cdv:Value) (A:Around) (outer:List Env) (s:Shared) (H:Hp) (vs:YG) (Q:VK) (E:XK),X=K4 (CX1 P w) P w K mg base N qn (Aj st) f cdv A outer s H E->NZ X (λ_=>E)->Ce k X.A->sp vs H Q E ->
   ∃t,PSs X (Dg st) t/\t { nx:=λ_ H'=>Q .non H',rt:=Q } (start N vs) H):F5 P w K mg base C m (k+1) ps sp:=by
 obtain⟨f,fd,F,M,b⟩:=c.ex;refine⟨f,fd,M,b,?_⟩;obtain⟨oc,od,kV,doc,pm,an,cdv,ct,osl,rfl,lk,hcd⟩:=F.ex;exact bJ lk hcd S len λA outer s H vs Q E hr hsp=>hbody _ f cdv A outer s H vs Q E rfl V9 hr hsp
theorem aR:typeLookup (.type "tuple") "keys"=pure none:=by rw[typeLookup_type,builtinLookup_eq_fast];kernel_rfl
theorem aU:typeLookup (.type "tuple") "__getattr__"=pure none:=by rw[typeLookup_type,builtinLookup_eq_fast];kernel_rfl
section
variable {prog:Program} {w:World} {A:Around} {E:YA} {h:Heap} {g:Array GenState} {d:Drawn} {t:Nat} {os:OsState} {a:Addr} {xs:Array Value} {c:Nat} {ob:Obj}
theorem vo {tk:Tok} {Q:Fin->Shared->Prop} (hh:A.handled=none) (hx:h.get? a=some ob) (hcl:ob.cls=.type "tuple") (hdn:ob.dict=none) (hda:ob.data=.seq xs c) (hq:∀h' tk' e o,(∀b u,h.get? b=some u->h'.get? b=some u)->h'.get? e=some o->o.cls=.type "AttributeError"->E (.ref e) ⟨h',g,d,tk',os⟩) :
  wpAny (model prog w) A (Builtin.«object.__getattribute__» ⟨[.ref a,.str "keys" tk],[]⟩) Q E ⟨h,g,d,t,os⟩:=by
 obtain⟨oc,od,oa,osl⟩:=ob;cases hcl;cases hdn;cases hda;have hT:(⟨h,g,d,t,os⟩ : Shared).TypeIs (.ref a) "tuple":=⟨_,hx,rq⟩;have f4:=aR
 repeat (any_goals (first | assumption | wp_step))
 exact dR (Qcx (Am (by trivial))) hh λh' tk' e o k1 k2 k3=>hq h' tk' e o k1 k2 k3
theorem AC {tk:Tok} {R:Result->Shared->Prop} (hh:A.handled=none) (hx:h.get? a=some ob) (hcl:ob.cls=.type "tuple") (hdn:ob.dict=none) (hda:ob.data=.seq xs c) (hq:∀h' tk' e o,(∀b u,h.get? b=some u->h'.get? b=some u)->h'.get? e=some o->o.cls=.type "AttributeError"->R (.error (.ref e)) ⟨h',g,d,tk',os⟩) :
  codeAny (model prog w) A (.call (.builtin "tuple.__getattribute__") ⟨[.ref a,.str "keys" tk],[]⟩) R ⟨h,g,d,t,os⟩:=
 QaN F.slot_tuple_getattribute.plain F.entry_tuple_ga (F.slot_tuple_getattribute.check _ _ _ _ _ _ _ _ (show (⟨h,g,d,t,os⟩ : Shared).TypeIs (.ref a) "tuple" from⟨_,hx,hcl⟩) (F.args_tuple_getattribute_2 _ _) (vo hh hx hcl hdn hda hq))
theorem Gc {tk:Tok} {Q:YA} (hh:A.handled=none) (hx:h.get? a=some ob) (hcl:ob.cls=.type "tuple") (hdn:ob.dict=none) (hda:ob.data=.seq xs c) (hq:∀h' tk' e o,(∀b u,h.get? b=some u->h'.get? b=some u)->h'.get? e=some o->o.cls=.type "AttributeError"->E (.ref e) ⟨h',g,d,tk',os⟩):wpAny (model prog w) A (getAttrBy (.ref a) (.str "keys" tk) false) Q E ⟨h,g,d,t,os⟩:=by
 have hT:(⟨h,g,d,t,os⟩ : Shared).TypeIs (.ref a) "tuple":=⟨_,hx,hcl⟩;have f2:=F.slot_tuple_getattribute.lookup;have f3:=F.slot_tuple_getattribute.bind (.ref a);have f5:=aU
 repeat (any_goals (first | assumption | wp_step))
 refine AC hh hx hcl hdn hda λh' tk' e o k1 k2 k3=>?_;have hT2:(⟨h',g,d,tk',os⟩ : Shared).TypeIs (.ref e) "AttributeError":=⟨_,k2,k3⟩;have f6:=Sx
 repeat (any_goals (first | assumption | wp_step))
 all_goals exact hq h' tk' e o k1 k2 k3
theorem AD {Q:Option Value->Shared->Prop} (hh:A.handled=none) (hx:h.get? a=some ob) (hcl:ob.cls=.type "tuple") (hdn:ob.dict=none) (hda:ob.data=.seq xs c) (hq:∀h' tk',(∀b u,h.get? b=some u->h'.get? b=some u)->Q none ⟨h',g,d,tk',os⟩):wpAny (model prog w) A (getAttr? (.ref a) "keys") Q E ⟨h,g,d,t,os⟩:=by
 unfold getAttr? getAttrBy?;refine QcJ (wpAny_mkText (QcJ (Qcp ?_)));refine Gc hh hx hcl hdn hda λh' tk' e o k1 k2 k3=>?_;have hT2:(⟨h',g,d,tk',os⟩ : Shared).TypeIs (.ref e) "AttributeError":=⟨_,k2,k3⟩;refine QcJ (QbK hT2 Sx ?_);rw[if_pos rfl];exact QcK (hq _ _ k1)
end
section
variable {prog:Program} {w:World} {κ : Type} [DecidableEq κ] {knd:KeyKind prog w κ} {A:Around} {E:YA} {s:Shared} {R:Result->Shared->Prop}
end
def Tp (o:Obj):Prop:=o.cls=.type "tuple"/\o.dict=none
def GT (K:YD):YG->Hp->VK->Prop:=λxs H Q=>∃p ys,xs=[.ref p]/\SqL K H p ys/\∀l o,H l=none->Tp o->Q (.ref l) (upd H l (.frz o (.tup ys)))
theorem Zo {X:Cx}:DW X (.type "tuple") (GT X.K):=by
 intro jb s U H xs us Q I r h;obtain⟨p,ys,rfl,hq,q⟩:=h;obtain⟨u,rfl,rx⟩:=vals1 r;cases rx;obtain⟨its,r',pl,hz⟩:=I.list hq;have hlen:=r'.length;refine call_tuple_list pl.isList (λh' kp=>?_) (by simp only[Qbo] <;> omega);have I1:Inv X jb U H { s with heap:=h' }:=I.kept (t':=s.toks) kp;have I2:Inv X jb U (upd H h'.objs.size (.frz { cls:=.type "tuple",data:=.seq its.toArray } (.tup ys))) { s with heap:=h'.push { cls:=.type "tuple",data:=.seq its.toArray } }:=
  I1.laid (t':=s.toks) (λb o e=>Qaz _ e) (QcD _) ⟨QaP _ rfl,show Bt X.prog X.w _ _ _ (.tup ys) from⟨hz,its,r',IsTup.new _ _⟩⟩
 exact⟨.ref h'.objs.size,_,I2,rq,q _ _ (I1.hok.fresh (QcD _)) ⟨rq,rq⟩⟩
open PySem.W (KasT kas_asc kas_desc kas_rev kas_tail3 kas_descPart kas_count kas_place kas_bin kas_sort)
def Gj {α : Type} (lt:Nat->Nat->Bool):KasT α->α
 | .ret a=>a
 | .ask i j k=>Gj lt (k (lt i j))
theorem Kp {α β : Type} {lt:Nat->Nat->Bool} {f:α->KasT β}:∀t:KasT α,Gj lt (t.bind f)=Gj lt (f (Gj lt t))
 | .ret a=>rfl
 | .ask i j k=>Kp (k (lt i j))
theorem Wg {α : Type} {lt:Nat->Nat->Bool} {n:Nat} {P:α->Prop}:∀t:KasT α,Hv n P t->P (Gj lt t)
 | .ret a,h=>h
 | .ask i j k,h=>Wg (k (lt i j)) (h.2.2 _)
theorem lE {α : Type} {lt:Nat->Nat->Bool} {n:Nat} {P:α->Prop} {Q:α->Shared->Prop} {s:Shared} {cmp:Nat->Nat->(Bool->Shared->Prop)->Shared->Prop} (hc:∀i j C,i < n->j < n->C (lt i j) s->cmp i j C s):∀t:KasT α,Hv n P t->Q (Gj lt t) s->t.kasWp cmp Q s
 | .ret a,h,q=>q
 | .ask i j k,h,q=>hc i j _ h.1 h.2.1 (lE hc (k (lt i j)) (h.2.2 _) q)
section
variable {n:Nat} {ky:Nat->Int}
def Gk (ky:Nat->Int) (p:Array Nat) (i:Nat):Int:=ky (p.getD i 0)
def ltK (ky:Nat->Int) (i j:Nat):Bool:=decide (ky i < ky j)
def Inj (n:Nat) (ky:Nat->Int):Prop:=∀i j,i < n->j < n->ky i=ky j->i=j
def Zw (ky:Nat->Int) (p:Array Nat) (m:Nat):Prop:=∀i,i+1 < m->Gk ky p i < Gk ky p (i+1)
def Fall (ky:Nat->Int) (p:Array Nat) (m:Nat):Prop:=∀i,i+1 < m->Gk ky p (i+1) < Gk ky p i
def Ml (ky:Nat->Int) (p:Array Nat) (m:Nat):Prop:=∀i j,i < j->j < m->Gk ky p i < Gk ky p j
theorem Zw.all {p:Array Nat} {m:Nat} (h:Zw ky p m):Ml ky p m:=λi j hij hj=>by
 induction j with
 | zero=>omega
 | succ j ih=>
  have h1:=h j hj;by_cases e:i=j
  ·rw[e];exact h1
  ·exact Int.lt_trans (ih (by omega) (by omega)) h1
theorem rD {α : Type} {l:List α} (nd:l.Nodup) {i j:Nat} (hi:i < l.length) (hj:j < l.length) (e:l[i]=l[j]):i=j:=by
 rcases Nat.lt_trichotomy i j with h | h | h
 ·exact absurd e (Qam.mp nd i j hi hj h)
 ·exact h
 ·exact absurd e.symm (Qam.mp nd j i hj hi h)
theorem Pm.size {p:Array Nat} (h:Pm n p):p.size=n:=by
 have:=List.Perm.length_eq h;simpa using this
theorem Pm.ne (hi:Inj n ky) {p:Array Nat} (h:Pm n p) {i j:Nat} (a:i < n) (b:j < n) (ne:i≠j):Gk ky p i≠Gk ky p j:=λe=>by
 have n0:0 < n:=by omega
 have hs:=h.size;have e:=hi _ _ (h.lt n0 i) (h.lt n0 j) e;have nd:p.toList.Nodup:=(List.Perm.nodup_iff h).mpr List.nodup_range;have e1:p.getD i 0=p.toList[i]'(by simp[hs,a]):=by simp[hs,a]
 have e2:p.getD j 0=p.toList[j]'(by simp[hs,b]):=by simp[hs,b]
 rw[e1,e2] at e;exact ne (rD nd _ _ e)
theorem Yy (hi:Inj n ky) {p:Array Nat} (h:Pm n p):∀f k,1<=k->k+f<=n->Zw ky p k->∃m,Gj (ltK ky) (kas_asc p f k)=m/\k<=m/\m<=k+f/\Zw ky p m/\(m < k+f->Gk ky p m < Gk ky p (m - 1))
 | 0,k,_,_,r=>⟨k,rfl,QcD _,QcD _,r,λz=>absurd z (Qcm _)⟩
 | f+1,k,h1,h2,r=>by
  show ∃m,Gj (ltK ky) (if ltK ky (p.getD k 0) (p.getD (k - 1) 0)=true then KasT.ret k else kas_asc p f (k+1))=m/\_
  by_cases c:Gk ky p k < Gk ky p (k - 1)
  ·rw[if_pos (show ltK ky _ _=true from Qcd c)]
   exact⟨k,rq,QcD _,by omega,r,λ_=>c⟩
  ·rw[if_neg (show ¬ltK ky _ _=true from λz=>c (Qbt z))]
   obtain⟨m,e,a,b,d,g⟩:=Yy hi h f (k+1) (by omega) (by omega) (λi hi'=>by
    by_cases e:i+1=k
    ·have:=h.ne hi (i:=i) (j:=i+1) (by omega) (by omega) (by omega);have c:¬Gk ky p (i+1) < Gk ky p i:=by rw[<-e] at c;exact c
     omega
    ·exact r i (by omega))
   exact⟨m,e,by omega,by omega,d,λz=>g (by omega)⟩
theorem dG (hi:Inj n ky) {p:Array Nat} (h:Pm n p):∀f k,1<=k->k+f<=n->Fall ky p k->∃m,Gj (ltK ky) (kas_desc f p k 0)=(p,m,0)/\k<=m/\m<=k+f/\Fall ky p m
 | 0,k,_,_,r=>⟨k,rfl,QcD _,QcD _,r⟩
 | f+1,k,h1,h2,r=>by
  show ∃m,Gj (ltK ky) (if ltK ky (p.getD k 0) (p.getD (k - 1) 0)=true then (if 0 > 0 then kas_desc f (kas_rev p (k - (0+1)) k) (k+1) 0 else kas_desc f p (k+1) 0) else KasT.ask (p.getD (k - 1) 0) (p.getD k 0) λd=>if d=true then KasT.ret (p,k,0) else kas_desc f p (k+1) (0+1))=(p,m,0)/\_
  by_cases c:Gk ky p k < Gk ky p (k - 1)
  ·rw[if_pos (show ltK ky _ _=true from Qcd c),if_neg (Qcm 0)]
   obtain⟨m,e,a,b,d⟩:=dG hi h f (k+1) (by omega) (by omega) (λi hi'=>by
    by_cases e:i+1=k
    ·rw[<-e] at c;exact c
    ·exact r i (by omega))
   exact⟨m,e,by omega,by omega,d⟩
  ·rw[if_neg (show ¬ltK ky _ _=true from λz=>c (Qbt z))]
   have ne:=h.ne hi (i:=k) (j:=k - 1) (by omega) (by omega) (by omega);show ∃m,Gj (ltK ky) (if ltK ky (p.getD (k - 1) 0) (p.getD k 0)=true then KasT.ret (p,k,0) else kas_desc f p (k+1) (0+1))=(p,m,0)/\_
   rw[if_pos (show ltK ky _ _=true from Qcd (show Gk ky p (k - 1) < Gk ky p k by omega))]
   exact⟨k,rq,QcD _,by omega,r⟩
theorem bM {p q:Array Nat} {i j:Nat} (e:p[i]?=q[j]?):Gk ky p i=Gk ky q j:=by
 unfold Gk;rw[Array.getD_eq_getD_getElem?,Array.getD_eq_getD_getElem?,e]
theorem uK {p:Array Nat} {m i:Nat} (hm:m<=p.size) (hi:i < m):Gk ky (kas_rev p 0 m) i=Gk ky p (m - 1 - i):=by
 apply bM;unfold kas_rev;rw[getElem?_mirror_all hm,if_pos ⟨QcE _,hi⟩];congr 1;omega
theorem uL {p:Array Nat} {k l i:Nat} (hk:k < p.size) (hl:l<=k):Gk ky (bubble p k (k - l)) i=if i=l then Gk ky p k else if l < i/\i<=k then Gk ky p (i - 1) else Gk ky p i:=by
 have e:=getElem?_bubble hk (k - l) (by omega) i;rw[show k - (k - l)=l by omega] at e;split at e
 ·rename_i h;rw[if_pos h];exact bM e
 ·rename_i h;rw[if_neg h];split at e
  ·rename_i h;rw[if_pos h];exact bM e
  ·rename_i h;rw[if_neg h];exact bM e
def Done (n:Nat) (ky:Nat->Int) (r:Nat×Array Nat):Prop:=1<=r.1/\r.1<=n/\Zw ky r.2 r.1
theorem vG (hi:Inj n ky) {p:Array Nat} (h:Pm n p) {m:Nat} (h1:1<=m) (h2:m<=n) (f:Fall ky p m):Done n ky (Gj (ltK ky) (kas_tail3 m n p)):=by
 have hs:=h.size;have r0:Zw ky (kas_rev p 0 m) m:=λi hi'=>by
  rw[uK (by omega) (by omega),uK (by omega) (by omega)];have:=f (m - 1 - (i+1)) (by omega);rw[show m - 1 - (i+1)+1=m - 1 - i by omega] at this;exact this
 obtain⟨k,e,a,b,d,_⟩:=Yy hi (h.rev 0 m) (n - m) m h1 (by omega) r0;unfold kas_tail3;rw[Kp,e];exact⟨by show 1<=k;omega,by show k<=n;omega,d⟩
theorem qF (hi:Inj n ky) {p:Array Nat} (h:Pm n p) (n0:2<=n):Done n ky (Gj (ltK ky) (kas_count n p)):=by
 obtain⟨m,e,a,b,d,g⟩:=Yy hi h (n - 1) 1 (QcD _) (by omega) (λi hi'=>by omega);unfold kas_count;rw[Kp,e];by_cases c1:m=n
 ·rw[if_pos (by rw[c1];exact beq_self_eq_true n)];exact⟨a,by show m<=n;omega,d⟩
 ·rw[if_neg (λz=>c1 (eq_of_beq z))];by_cases c2:m > 1
  ·rw[if_pos c2];show Done n ky (Gj (ltK ky) (if ltK ky (p.getD 0 0) (p.getD (m - 1) 0)=true then KasT.ret (m,p) else kas_descPart m n (kas_rev p 0 m)))
   rw[if_pos (show ltK ky _ _=true from Qcd (d.all 0 (m - 1) (by omega) (by omega)))]
   exact⟨a,by show m<=n;omega,d⟩
  ·rw[if_neg c2];have m1:m=1:=by omega
   subst m1;have g:=g (by omega);obtain⟨k,e,a,b,d⟩:=dG hi h (n - (1+1)) (1+1) (by omega) (by omega) (λi hi'=>by
    have:i=0:=by omega
    subst this;exact g)
   unfold kas_descPart;rw[Kp,e];show Done n ky (Gj (ltK ky) (if 0 > 0 then _ else kas_tail3 k n p))
   rw[if_neg (Qcm 0)];exact vG hi h (by omega) (by omega) d
theorem Tc (hi:Inj n ky) {p:Array Nat} (h:Pm n p) {k:Nat} (hk:k < n) (R:Ml ky p k):∀f l r,r<=l+f->l<=r->r<=k->(∀i,i < l->Gk ky p i < Gk ky p k)->(∀i,r<=i->i < k->Gk ky p k < Gk ky p i)->∃m,Gj (ltK ky) (kas_place p k f l r)=m/\m<=k/\(∀i,i < m->Gk ky p i < Gk ky p k)/\∀i,m<=i->i < k->Gk ky p k < Gk ky p i
 | 0,l,r,h1,h2,h3,h4,h5=>⟨l,rfl,by omega,h4,λi a b=>h5 i (by omega) b⟩
 | f+1,l,r,h1,h2,h3,h4,h5=>by
  unfold kas_place;by_cases c:l ≥ r
  ·rw[if_pos c];exact⟨l,rq,by omega,h4,λi a b=>h5 i (by omega) b⟩
  ·rw[if_neg c];show ∃m,Gj (ltK ky) (if ltK ky (p.getD k 0) (p.getD ((l+r) / 2) 0)=true then kas_place p k f l ((l+r) / 2) else kas_place p k f ((l+r) / 2+1) r)=m/\_
   have hm:(l+r) / 2 < r/\l<=(l+r) / 2:=by omega
   generalize (l+r) / 2=q at hm ⊢;by_cases d:Gk ky p k < Gk ky p q
   ·rw[if_pos (show ltK ky _ _=true from Qcd d)]
    refine Tc hi h hk R f l q (by omega) (by omega) (by omega) h4 λi a b=>?_;by_cases e:i=q
    ·rw[e];exact d
    ·exact Int.lt_trans d (R q i (by omega) b)
   ·rw[if_neg (show ¬ltK ky _ _=true from λz=>d (Qbt z))]
    refine Tc hi h hk R f (q+1) r (by omega) (by omega) (by omega) (λi a=>?_) h5;have ne:=h.ne hi (i:=q) (j:=k) (by omega) (by omega) (by omega);have lt:Gk ky p q < Gk ky p k:=by omega
    by_cases e:i=q
    ·rw[e];exact lt
    ·exact Int.lt_trans (R i q (by omega) (by omega)) lt
theorem kJ (hi:Inj n ky):∀f (p:Array Nat),Pm n p->∀k,k+f=n->Ml ky p k->Ml ky (Gj (ltK ky) (kas_bin f p k)) n
 | 0,p,h,k,e,R=>by rw[<-e];exact R
 | f+1,p,h,k,e,R=>by
  have hs:=h.size;show Ml ky (Gj (ltK ky) ((kas_place p k k 0 k).bind λl=>kas_bin f (bubble p k (k - l)) (k+1))) n;rw[Kp];obtain⟨l,el,a,b,c⟩:=Tc hi h (k:=k) (by omega) R k 0 k (by omega) (QcE _) (QcD _) (λi z=>absurd z (QbZ _)) (λi x y=>by omega);rw[el];refine kJ hi f _ (h.bub _ _) (k+1) (by omega) λi j hij hj=>?_;rw[uL (by omega) a,uL (by omega) a];by_cases ei:i=l
  ·rw[if_pos ei,if_neg (by omega),if_pos ⟨by omega,by omega⟩];exact c _ (by omega) (by omega)
  ·rw[if_neg ei];by_cases ej:j=l
   ·rw[if_neg (by omega),if_pos ej];exact b _ (by omega)
   ·rw[if_neg ej];by_cases gi:l < i
    ·rw[if_pos ⟨gi,by omega⟩,if_pos ⟨by omega,by omega⟩];exact R _ _ (by omega) (by omega)
    ·rw[if_neg (λz=>gi z.1)];by_cases gj:l < j
     ·rw[if_pos ⟨gj,by omega⟩];exact R _ _ (by omega) (by omega)
     ·rw[if_neg (λz=>gj z.1)];exact R _ _ (by omega) (by omega)
theorem vH (hi:Inj n ky) (n0:2<=n):Ml ky (Gj (ltK ky) (kas_sort n)) n:=by
 have h0:Pm n (List.toArray (List.range n)):=by unfold Pm;exact List.Perm.refl _
 obtain⟨a,b,c⟩:=qF hi h0 n0;have hp:=Wg (lt:=ltK ky) _ (aF (by omega) h0 n);unfold kas_sort;rw[Kp];generalize Gj (ltK ky) (kas_count n (List.toArray (List.range n)))=r at a b c hp;show Ml ky (Gj (ltK ky) (if r.1 < n then kas_bin (n - max r.1 1) r.2 (max r.1 1) else KasT.ret r.2)) n
 have em:max r.1 1=r.1:=by omega
 by_cases d:r.1 < n
 ·rw[if_pos d,em];exact kJ hi _ _ hp _ (by omega) c.all
 ·rw[if_neg d];have:r.1=n:=by omega
  rw[<-this];exact c.all
theorem Ml.list {p:Array Nat} (h:Pm n p) (R:Ml ky p n):(p.toList.map ky).Pairwise (· < ·):=by
 have hs:=h.size;rw[Qam];intro i j hi hj hij;have hi':i < n:=by simpa [hs] using hi
 have hj':j < n:=by simpa [hs] using hj
 have:=R i j hij hj';unfold Gk at this;have e1:p.getD i 0=p[i]'(by omega):=by simp[hs,hi']
 have e2:p.getD j 0=p[j]'(by omega):=by simp[hs,hj']
 rw[e1,e2] at this;simpa using this
end
theorem ju {α β : Type} (d:α) (e:β) {F:α->β->Prop}:∀{l:List α} {m:List β} {i:Nat},Paired F l m->i < l.length->F (l.getD i d) (m.getD i e):=by
 intro l m i r
 induction r generalizing i with
 | nil=>intro h;exact absurd h (QbZ _)
 | cons a t ih=>
  intro h;cases i with
  | zero=>exact a
  | succ i=>exact ih (Nat.lt_of_succ_lt_succ h)
section
variable {prog:Program} {w:World} {A:Around} {s:Shared}
theorem Ex {fin:Bool} {C:Bool->Shared->Prop} (hC:C fin s):∀(l:YE),(∀y∈l,∃a t,y=Value.int a t)->∀i,PySem.W.KatLex prog w A true fin C (l.zip l) i s
 | [],_,_=>hC
 | y::r,h,i=>by
  obtain⟨a,t,rfl⟩:=h y (QaZ ..);rw[List.zip_cons_cons];refine kat_cons (wpAny_eqBool_int ?_);rw[show (a == a)=true from beq_self_eq_true a]
  exact PySem.W.kat_yes (Ex hC r (λy hy=>h y (QaL _ hy)) (i+1))
end
end L2
namespace L2
open PySem PySem.Spec PyProof.Rows
theorem Ce.Cs {k:Nat} {A:Around} (r:Ce k A):A.units+66 < cLine:=by have:=r.un;omega
section
variable {X:Cx} {K:YD}
end
end L2
namespace PySem
open Sem (wp)
open AutoSeq1 (wpAny_loadPart')
section
variable {prog:Program} {w:World} {A:Around} {E:YA} {s:Shared}
theorem Zj {e it l:Addr} {i:Nat} {j:Int} {items:Array Value} {old:Value} {Q:Option Value->Shared->Prop} (hh:A.handled=none) (he:IsEnum s.heap e it j old) (hit:s.heap.IsListIter it l i) (hl:s.heap.IsList l items) (hx:items[i]?=none)
  (hQ:∀h',Heap.ExtBut it s.heap h'->Q none { s with heap:=h' }):wpAny (model prog w) A (pyNext (.ref e)) Q E s:=by
 have hT:s.TypeIs (.ref e) "enumerate":=⟨_,he,rq⟩;unfold pyNext;refine QcJ (Qcp (Qau (name:=Str.ofString "__next__") hT F.slot_enumerate_next (QbF F.slot_enumerate_next hT F.entry_enumerate_next ?_ (F.args_enumerate_next_1 _))));show wpAny _ _ (field (.ref e) 2 >>= _) _ _ _;refine QcJ (QcG he rfl (x:=.ref it) rfl (QcJ (wpAny_nextOf_list_end hh hit hl hx λh' x he' hx'=>?_)));obtain⟨o,ho,hc⟩:=hx';exact QcJ (QbK (T:="StopIteration") (b:=true) ⟨o,ho,hc⟩ isSubtype_stop (QcK (hQ _ he')))
end
end PySem
namespace L2
open PySem PySem.Spec PyProof.Rows
def Ug (K:YD) (a:Addr) (lo:Nat):It:=
 ⟨λi H=>∃xs x,SqL K H a xs/\xs[i]?=some x,λi H v H'=>∃p x,H p=none/\v=.ref p/\H'=upd H p (.tup [.int ((lo+i:Nat):Int),x])/\∀xs,SqL K H a xs->xs[i]?=some x,λi H=>∃xs,SqL K H a xs/\xs.length<=i⟩
theorem mQ {P:Program} {w:World} {K:YD} {elts:YJ} {k:Nat} {pos:Pos} (a e it:Addr) (lo:Nat) (nei:e≠it):Turn P w K (.Tuple elts k pos) (Ug K a lo) [e,it] e (λi h=>(∃old,IsEnum h e it ((lo+i:Nat):Int) old)/\h.IsListIter it a i) where
 mem:=by simp
 obj:=λi h st b hb=>by
  obtain⟨⟨old,he⟩,o,ho,hc,hd⟩:=st;rcases Qcj.mp hb with rfl | hb
  ·exact⟨_,he,λv z=>by cases (show Data.fields _=Data.cell v from z)⟩
  ·have:b=it:=by simpa using hb
   subst this;exact⟨o,ho,λv z=>by rw[hd] at z;cases z⟩
 keep:=λi h h' st k=>by
  obtain⟨⟨old,he⟩,hi⟩:=st;exact⟨⟨old,k e (by simp) _ he⟩,hi.at λo q=>k it (by simp) o q⟩
 item:=by
  intro X hP hw hK hc i jb s U H E I hf st hg;subst hP hw hK;obtain⟨xs,x,hq,hx⟩:=hg;obtain⟨its,rv,p,hz⟩:=I.list hq;obtain⟨u,hu,ru⟩:=rv.get hx;obtain⟨⟨old,he⟩,hit⟩:=st;have hts:s.heap.IsList a its.toArray:=p.isList;have ane:a≠e:=λz=>by
   obtain⟨o,ho,hcl,_⟩:=hts;rw[z,he] at ho;cases ho;injection hcl with q;exact absurd q (by decide)
  have ani:a≠it:=λz=>by
   obtain⟨o,ho,hcl,_⟩:=hts;obtain⟨o',ho',hcl',_⟩:=hit;rw[z,ho'] at ho;cases ho;rw[hcl'] at hcl;injection hcl with q;exact absurd q (by decide)
  have hlt:i < its.toArray.size:=by
   have:=(Qai.mp hu).1;simpa using this
  have D:=(Draws.list (prog:=X.prog) (w:=X.w) (A:=X.A.in1) (I.ok.hd hc) it a ani its.toArray).from lo;refine wpAny_pyNext_enum_itemD D he ⟨i,rq,Qcx hlt,hit,hts⟩ (by omega) nei (by simp[nei,ane.symm]) λy h1 tk hP ho hst hT hsz hk=>?_;obtain⟨i',ei,hy⟩:=hP;have:i'=i:=by omega
  subst this;have ey:y=u:=by
   have h2:its.toArray[i']?=some u:=by simpa using hu
   rw[h2] at hy;exact (QbS hy).symm
  subst ey;refine⟨_,rq,wpAny_letOwnedTupleGo_enum ho λh2 he2 hs2=>?_⟩;have hlt2:s.heap.objs.size≠e:=Qcy (Qct he);have hT2:h2.get? s.heap.objs.size=some { cls:=.type "tuple",data:=.seq #[.int ((lo+i':Nat):Int) tk,y] }:=(hs2.2 _ hlt2).trans hT;have new:Bt X.prog X.w (upd H s.heap.objs.size (.tup [.int ((lo+i':Nat):Int),x])) h2 s.heap.objs.size (.tup [.int ((lo+i':Nat):Int),x]):=
   ⟨by show 2<=sizeLine;decide,[.int ((lo+i':Nat):Int) tk,y],.cons ⟨tk,rq⟩ (.cons ru .nil),_,hT2,rq,0,rq⟩
  have I1:=I.Pz (h':=h2) (t':=tk+1) (QcD _) (λb q hb z=>(hs2.2 b (λw=>hb (by simp[w]))).trans (hk b q (λw=>hb (by simp[w])) (λw=>hb (by simp[w])) z)) hf new;refine⟨.ref s.heap.objs.size,_,I1,rq,⟨s.heap.objs.size,x,I.hok.fresh (QcD _),rq,rq,λys hy'=>by rw[I.fX hy' hq];exact hx⟩,⟨⟨y,?_⟩,?_⟩,λb hb=>?_⟩
  ·have:=he2;rw[show ((lo+(i'+1):Nat):Int)=((lo+i':Nat):Int)+1 by omega];exact this
  ·obtain⟨i2,e2,_,st2,_⟩:=hst;have:i2=i'+1:=by omega
   subst this;exact st2.at λo q=>(hs2.2 it (Ne.symm nei)).trans q
  ·have hb':b < s.heap.objs.size:=by
    rcases Qcj.mp hb with rfl | hb
    ·exact Qct he
    ·have:b=it:=by simpa using hb
     subst this;obtain⟨o,ho',_⟩:=hit;exact Qct ho'
   rw[Aq (Qcu hb')];exact (hf b hb).1
 done:=by
  intro X hP hw hK hc i jb s U H E I hf st hg;subst hP hw hK;obtain⟨xs,hq,hx⟩:=hg;obtain⟨its,rv,p,hz⟩:=I.list hq;obtain⟨⟨old,he⟩,hit⟩:=st;have hl:=rv.length;exact Zj (I.ok.hd hc) he hit p.isList (by simp;omega) λh' eb=>⟨rq,I.N7 (t':=s.toks) (λb o hb q=>eb b o (λz=>hb (by simp[z])) q) hf⟩
 self:=λ_ _ _ _ _ st h=>let ⟨⟨_,he⟩,_⟩:=st;wpAny_pyIter_enum he h
section
variable {X:Cx}
theorem yO {jb:YC} {U : St} {H:Hp} {s:Shared} {R:It->Hp->Prop} {E:YA} {elts:YJ} {k:Nat} {pos:Pos} {a:Addr} {lo:Nat} {tk:Nat} (I:Inv X jb U H s) (q:R (Ug X.K a lo) H) :
  wpAny (model X.prog X.w) X.A (pyIter (.ref (s.heap.objs.size+1))) (PIE X jb U (.Tuple elts k pos) R) E
   { s with heap:=(s.heap.push { cls:=.type "list_iterator",data:=.fields #[.ref a,.int 0 0] }).push { cls:=.type "enumerate",data:=.fields #[.none,.bool false,.ref s.heap.objs.size,rawInt (lo:Int),.none,.none] },toks:=tk }:=by
 have hz:(s.heap.push { cls:=.type "list_iterator",data:=.fields #[.ref a,.int 0 0] }).objs.size=s.heap.objs.size+1:=Qce ..;have he:IsEnum ((s.heap.push { cls:=.type "list_iterator",data:=.fields #[.ref a,.int 0 0] }).push { cls:=.type "enumerate",data:=.fields #[.none,.bool false,.ref s.heap.objs.size,rawInt (lo:Int),.none,.none] }) (s.heap.objs.size+1) s.heap.objs.size (lo:Int) .none:=by
  have:=QaP (s.heap.push { cls:=.type "list_iterator",data:=.fields #[.ref a,.int 0 0] }) (o:={ cls:=.type "enumerate",data:=.fields #[.none,.bool false,.ref s.heap.objs.size,rawInt (lo:Int),.none,.none] }) rfl;rw[hz] at this;exact this
 refine wpAny_pyIter_enum he ⟨s.heap.objs.size+1,[s.heap.objs.size+1,s.heap.objs.size],_,_,H,rq,I.kept (t':=tk) λb o e=>Qaz _ (Qaz _ e),mQ a (s.heap.objs.size+1) s.heap.objs.size lo (Nat.succ_ne_self _),⟨⟨.none,he⟩,⟨_,Qaz _ (QaP _ rfl),rq,rq⟩⟩,λb hb=>?_,q⟩;have hb':s.heap.objs.size<=b:=by
  simp only[Qcj,QbE,QcN] at hb;rcases hb with rfl | rfl
  ·exact QcI _
  ·exact QcD _
 exact I.QT hb' (I.hok.fresh hb')
end
section
variable {X:Cx}
def EJ (K:YD) (lo:Nat) (tl:TE):TI:=fun U H R=>tl U H λx H1=>∃a,x=.ref a/\(∃xs,SqL K H1 a xs)/\R (Ug K a lo) H1
theorem jM {jb:YC} {U : St} {H:Hp} {s:Shared} {R:It->Hp->Prop} {elts:YJ} {k:Nat} {pos:Pos} {a:Addr} {xs:YG} (I:Inv X jb U H s) (hq:SqL X.K H a xs) (q:R (Ug X.K a 0) H) :
  wpAny (model X.prog X.w) X.A (call (.type "enumerate") [.ref a]) (λv s1=>wpAny (model X.prog X.w) X.A (pyIter v) (PIE X jb U (.Tuple elts k pos) R) X.xe s1) X.xe s:=by
 obtain⟨its,rv,p,hz⟩:=I.list hq;obtain⟨⟨c,dct,dt,sl⟩,hl,hc,n,hd⟩:=p.isList;replace hc:c=.type "list":=hc;replace hd:dt=.seq its.toArray n:=hd;subst hc hd;refine callType_new F.called_enumerate (by decide) (F.typeCall_enumerate_1 _) (F.newCall_enumerate_1 _) (λobj=>F.args_object_init_2 obj _) F.entry_enumerate_new (meets_enumerate_newL a its.toArray n dct sl) ⟨hl,?_⟩;have hz:(s.heap.push { cls:=.type "list_iterator",data:=.fields #[.ref a,.int 0 0] }).objs.size=s.heap.objs.size+1:=Qce ..;show _/\_;refine⟨⟨_,QaP _ rfl,rq⟩,?_⟩;rw[hz];exact yO (lo:=0) (tk:=s.toks) I q
end
section
variable {X:Cx}
theorem qO {x:Expr} {tx:TE} {p pos tp:Pos} {elts:YJ} {k:Nat} (hg:Gl X "enumerate") (hm:X.mg "enumerate"=none) (hl:PE X x tx) (hs:starEach [x] X.env=[(false,eval x X.env)]:=by rfl):PI X (.Tuple elts k tp) (.Call (.Name "enumerate" p) [x] [] pos) (EJ X.K 0 tx):=by
 intro jb s U H R I h;refine Call_ (Jy I hg hm boot_enumerate (Qae (thn ((Aa hl Ac (by rw[hs];rfl)) pos jb s U H (λvs H1=>match vs with | [v]=>∃a,v=.ref a/\(∃xs,SqL X.K H1 a xs)/\R (Ug X.K a 0) H1 | _=>False) I h) λus s1 ⟨vs,H1,I1,r1,q1⟩=>?_) hs rfl))
 cases r1 with
 | nil=>exact False.elim q1
 | cons r rr=>
  cases rr with
  | nil=>
   obtain⟨a,e,⟨xs,hq⟩,q⟩:=q1;subst e;cases r;exact jM I1 hq q
  | cons _ _=>exact False.elim q1
theorem tL {K:YD} {a:Addr} {lo:Nat} {xs:YG} {g:TG} {tb:TS} {D:Ends} {U : St} {H:Hp} (Pv:YN) (h0:Pv 0 U H) (hl:∀i U H',i<=xs.length->Pv i U H'->SqL K H' a xs)
  (hs:∀i x p U H',xs[i]?=some x->Pv i U H'->H' p=none->g (.ref p) U (upd H' p (.tup [.int ((lo+i:Nat):Int),x])) fun σ2 H2=>tb { D with nx:=Pv (i+1),ct:=Pv (i+1),bk:=D.nx } σ2 H2) (hd:∀ U H',Pv xs.length U H'->D.nx U H') :
  ∃W:Nat->YN,(∃m,W 0 m U H)/\∀i m U H,W i m U H ->
   ((Ug K a lo).stop i H/\D.nx U H)\/((Ug K a lo).go i H/\∃N:YO,(∀ σ' H',N σ' H'->∃m',m' < m/\W (i+1) m' σ' H')/\∀x H',(Ug K a lo).yld i H x H'->g x U H' fun σ2 H2=>tb { D with nx:=N,ct:=N,bk:=D.nx } σ2 H2):=by
 refine⟨λi m U H=>m=xs.length - i/\i<=xs.length/\Pv i U H,⟨xs.length,by simp,QcE _,h0⟩,?_⟩;rintro i m U H ⟨rfl,hi,p⟩;have q:=hl i U H hi p;by_cases hlt:i < xs.length
 ·refine .inr ⟨⟨xs,xs[i],q,by simp[hlt]⟩,Pv (i+1),fun σ3 H3 p'=>⟨xs.length - (i+1),by omega,rq,hlt,p'⟩,λv H2 y=>?_⟩;obtain⟨pa,x,hn,rfl,rfl,hx⟩:=y;exact hs i x pa U _ (hx xs q) p hn
 ·have e:i=xs.length:=by omega
  subst e;exact .inl ⟨⟨xs,q,QcD _⟩,hd U H p⟩
end
section
variable {prog:Program} {w:World} {A:Around} {R:Result->Shared->Prop} {s:Shared} {elt t1 i1 t2 i2:Expr} {scope:Scope} {pos:Pos} {it acc:Value} {env:Env}
end
theorem vP {X:Cx} {N':YF} {src:List (Option Nat)} {sc:Scope} {kx vx tg iter:Expr} {ifs:YJ} {pos spos px:Pos} {wi:TI} {g:TG} {tt:TT} {tk tv:TE} {i:Nat} {x:Str} (hN:X.N.Nodup) (hi0:X.N[i]?=some x) (hx:Loc X.env.scope x) (hc:X.calm=true) (S:Bk X N' src sc)
  (hi:PI X tg iter wi) (hg:∀s3 H3 fp pn,PG (cxC X N' sc s3 H3 fp pn) tg g) (ht:∀s3 H3 fp pn,PF (cxC X N' sc s3 H3 fp pn) ifs tt) (hk:∀s3 H3 fp pn,PE (cxC X N' sc s3 H3 fp pn) kx tk) (hv:∀s3 H3 fp pn,PE (cxC X N' sc s3 H3 fp pn) vx tv)
  (hsw:swapsWith (.DictComp kx vx [⟨tg,iter,ifs,0⟩] sc pos) (some (.Name x px)) spos.line X.env=pure true:=by rfl) (hs:∀x,foldedSetIterable iter X.env x=pure x:=by intro _;rfl)
  (hf:X.fn x=true\/X.env.scope.names.lookup x=some .local:=by first | exact .inl rfl | exact .inr rfl | assumption) :
  PS X (.Assign [.Name x px] (.DictComp kx vx [⟨tg,iter,ifs,0⟩] sc pos) spos) (bY (bW wi src g tt tk tv) (Eh i)):=by
 intro jb s U H D I h;rw[exec_Assign_Name_used _ _ _ _ hsw];refine QcJ (Qcq (QcJ ?_));show wpAny _ X.A (do let _ <-comprehension (.DictComp kx vx [⟨tg,iter,ifs,0⟩] sc pos) sc X.env _ newDict false (eval iter X.env) (some (assign (.Name x px) X.env))) _ _ s
 refine QcJ (thn (XQ (R:=λ_ s'=>SP X jb D .next s') hc S hi hg ht hk hv hs I h λs3 H3 fp σ4 H4 s5 l I3 f3 J5 q=>?_) λ_ s' hq=>QcK (QcK hq));obtain⟨m,⟨oC,es,ep,hoC,r⟩,_⟩:=J5.loc;have I6:Inv X jb U H4 { s5 with heap:=s5.heap }:=T6 I3 f3 J5 (Heap.SameBut.refl _ _);have hCn:H4 s3.heap.objs.size=none:=J5.free;have neL:s3.heap.objs.size≠X.env.locals:=Qcy I3.lt;have wO:∀v,oC.data≠.cell v:=λv z=>by rw[r.1] at z;cases z
 have I7:Inv X (jb++[(s3.heap.objs.size,oC)]) U H4 s5:=I6.Uw λp hp=>(QbO.mp hp).elim (λz=>I6.pin p (QaE _ z)) λz=>by
  cases Qbf.mp z;exact⟨hoC,hCn,neL,I3.wK (QcD _),wO⟩
 show wpAny _ X.A (assign (.Name x px) X.env (.ref l)) _ _ s5;refine wpAny_assign_Name (Lb (v:=.ref l) I7 hN hi0 hx rfl (λs6 I8=>?_) hf);have k8:=(I8.pin (s3.heap.objs.size,oC) (QaE _ (QaE _ (Qbf.mpr rfl)))).1;refine⟨m,⟨oC,es,ep,k8,r⟩,λh' sb=>⟨_,H4,?_,q⟩⟩;have I9:=I8.Ja;refine I9.turned (t':=s6.toks) (λb o hb e=>sb.extBut b o hb e) hCn neL (.inr I3.sz) (λy c e z=>?_) (λp hp z=>?_)
 ·obtain⟨v,o,ho,_⟩:=I3.cell y c e;exact absurd (Qct ho) (by rw[z];exact Qcm _)
 ·have:=(I3.pin p hp).1;exact absurd (Qct this) (by rw[z];exact Qcm _)
end L2
namespace L2
open PySem
theorem Gv {x:Str} {p:Pos} {es:YJ} {env:Env}:starEach (.Name x p::es) env=(false,eval (.Name x p) env)::starEach es env:=by rfl
theorem C6 {a b:Expr} {p:Pos} {es:YJ} {env:Env}:starEach (.Subscript a b p::es) env=(false,eval (.Subscript a b p) env)::starEach es env:=by rfl
end L2
namespace L2
open PySem PySem.Spec PyProof.Rows
def pW (K:YD) (a b:Addr):It:=
  ⟨λi H=>∃xs ys x y,H a=some (.tup xs)/\H b=some (.tup ys)/\xs[i]?=some x/\ys[i]?=some y,
   λi H v H'=>∃p x y,H p=none/\v=.ref p/\H'=upd H p (.tup [x,y])/\(∀xs,H a=some (.tup xs)->xs[i]?=some x)/\∀ys,H b=some (.tup ys)->ys[i]?=some y,
   λi H=>∃xs ys,H a=some (.tup xs)/\H b=some (.tup ys)/\(xs.length<=i\/ys.length<=i)⟩
theorem mJ {P:Program} {w:World} {K:YD} {elts:YJ} {k:Nat} {pos:Pos} (a b z TI TO i1 i2:Addr) (nd:[z,TI,TO,i1,i2].Nodup) :
  Turn P w K (.Tuple elts k pos) (pW K a b) [z,TI,TO,i1,i2] z (λi h=>(∃f1,ZZ.IsZ h z TI TO .none f1)/\ZZ.DY h TI [.ref i1,.ref i2]/\(∃olds:YE,ZZ.DY h TO olds/\olds.length=2)/\h.IsTupleIter i1 a i/\h.IsTupleIter i2 b i) where
 mem:=by simp
 obj:=λi h st c hc=>by
  obtain⟨⟨f1,hz⟩,hTI,⟨olds,hTO,_⟩,⟨o1,e1,_,d1⟩,o2,e2,_,d2⟩:=st;simp only[Qcj,QbE,QcN] at hc;rcases hc with rfl | rfl | rfl | rfl | rfl
  ·exact⟨_,hz,λv q=>by cases (show Data.fields _=Data.cell v from q)⟩
  ·exact⟨_,hTI,λv q=>by cases (show Data.seq _ _=Data.cell v from q)⟩
  ·exact⟨_,hTO,λv q=>by cases (show Data.seq _ _=Data.cell v from q)⟩
  ·exact⟨o1,e1,λv q=>by rw[d1] at q;cases q⟩
  ·exact⟨o2,e2,λv q=>by rw[d2] at q;cases q⟩
 keep:=λi h h' st k=>by
  obtain⟨⟨f1,hz⟩,hTI,⟨olds,hTO,l⟩,h1,h2⟩:=st;exact⟨⟨f1,k z (by simp) _ hz⟩,k TI (by simp) _ hTI,⟨olds,k TO (by simp) _ hTO,l⟩,h1.at λo e=>k i1 (by simp) o e,h2.at λo e=>k i2 (by simp) o e⟩
 item:=by
  intro X hP hw hK hc i jb s U H E I hf st hg;subst hP hw hK;obtain⟨xs,ys,x,y,hq1,hq2,hx,hy⟩:=hg;obtain⟨us,ru,p1,z1⟩:=I.tuple (SqT.of hq1);obtain⟨ws,rw',p2,z2⟩:=I.tuple (SqT.of hq2);obtain⟨u,hu,ru'⟩:=ru.get hx;obtain⟨v,hv,rv'⟩:=rw'.get hy;obtain⟨⟨f1,hz⟩,hTI,⟨olds,hTO,lo⟩,hi1,hi2⟩:=st;simp only[QbT,Qcj,QbE,QcN,not_or,Qcf,not_false_eq_true,and_true] at nd;obtain⟨⟨n1,n2,n3,n4⟩,⟨n5,n6,n7⟩,⟨n8,n9⟩,n10⟩:=nd;have D:ZZ.Apart z TI TO [⟨i1,a,us.toArray⟩,⟨i2,b,ws.toArray⟩]:=by
   obtain⟨oa,ea,ca,_⟩:=id p1;obtain⟨ob,eb,cb,_⟩:=id p2;obtain⟨o1,e1,c1,_⟩:=id hi1;obtain⟨o2,e2,c2,_⟩:=id hi2;have aTO:a≠TO:=λq=>by
    have:=(hf TO (by simp)).1;rw[<-q,hq1] at this;cases this
   have bTO:b≠TO:=λq=>by
    have:=(hf TO (by simp)).1;rw[<-q,hq2] at this;cases this
   have t1:Value.type "tuple"≠Value.type "zip":=λq=>absurd (by injection q) (show ¬("tuple"="zip") by decide);have t2:Value.type "tuple"≠Value.type "tuple_iterator":=λq=>absurd (by injection q) (show ¬("tuple"="tuple_iterator") by decide);refine⟨Ne.symm n1,Ne.symm n2,n5,λq hq=>?_,λq hq=>?_,λq hq r hr=>?_,?_⟩
   ·simp only[Qcj,QbE,QcN] at hq;rcases hq with rfl | rfl
    ·exact⟨Ne.symm n3,Ne.symm n6,Ne.symm n8⟩
    ·exact⟨Ne.symm n4,Ne.symm n7,Ne.symm n9⟩
   ·simp only[Qcj,QbE,QcN] at hq;rcases hq with rfl | rfl
    ·exact⟨Ie ea hz (by rw[ca];exact t1),aTO⟩
    ·exact⟨Ie eb hz (by rw[cb];exact t1),bTO⟩
   ·simp only[Qcj,QbE,QcN] at hq hr;rcases hq with rfl | rfl <;> rcases hr with rfl | rfl
    ·exact Ie ea e1 (by rw[ca,c1];exact t2)
    ·exact Ie ea e2 (by rw[ca,c2];exact t2)
    ·exact Ie eb e1 (by rw[cb,c1];exact t2)
    ·exact Ie eb e2 (by rw[cb,c2];exact t2)
   ·simp[n10]
  have hat:∀q∈([⟨i1,a,us.toArray⟩,⟨i2,b,ws.toArray⟩]:List ZZ.Src),ZZ.SrcAt s.heap q i:=λq hq=>by
   simp only[Qcj,QbE,QcN] at hq;rcases hq with rfl | rfl
   ·exact .inr ⟨hi1,p1⟩
   ·exact .inr ⟨hi2,p2⟩
  refine ZZ.nJ hz (Qi:=λr s'=>∃h',r=.ref s.heap.objs.size/\s'={ s with heap:=h' }/\ZZ.IsZ h' z TI TO (rawInt s.heap.objs.size) (.bool false)/\ZZ.DY h' TI [.ref i1,.ref i2]/\ZZ.DY h' TO [u,v]/\(∀q∈([⟨i1,a,us.toArray⟩,⟨i2,b,ws.toArray⟩]:List ZZ.Src),ZZ.SrcAt h' q (i+1))/\ZZ.DY h' s.heap.objs.size [u,v]/\ZZ.Rest z TO [⟨i1,a,us.toArray⟩,⟨i2,b,ws.toArray⟩] s.heap h')
   (ZZ.aJ (xs:=[u,v]) D hz hTI hTO hat (by simp) rfl lo (λj q hj=>?_) (by show 2<=100;decide) λh' a1 a2 a3 a4 a5 a6 a7=>⟨h',rq,rq,a1,a2,a3,a4,a5,a7⟩) λr s' hQ=>?_
  ·match j,hj with
   | 0,hj=>cases hj;exact⟨u,rfl,by simpa using hu⟩
   | 1,hj=>cases hj;exact⟨v,rfl,by simpa using hv⟩
  obtain⟨h',rfl,rfl,a1,a2,a3,a4,a5,a7⟩:=hQ;refine⟨_,rq,ZZ.rK (s:={ s with heap:=h' }) a1 λh2 hz2 sb=>?_⟩;have hlt2:s.heap.objs.size≠z:=Qcy (Qct hz);have hT2:ZZ.DY h2 s.heap.objs.size [u,v]:=(sb.2 _ hlt2).trans a5;have new:Bt X.prog X.w (upd H s.heap.objs.size (.tup [x,y])) h2 s.heap.objs.size (.tup [x,y]):=
   ⟨by show 2<=sizeLine;decide,[u,v],.cons ru' (.cons rv' .nil),_,hT2,rq,0,rq⟩
  have I1:=I.Pz (h':=h2) (t':=s.toks) (QcD _) (λc q hc e=>(sb.2 c (λw=>hc (by simp[w]))).trans (a7 c q (λw=>hc (by simp[w])) (λw=>hc (by simp[w])) (λw=>hc (by simp only[Qck,QcA,Qcj,QbE,QcN] at w;rcases w with w | w <;> simp[w])) e)) hf new;have zZ:∀{it l:Addr} {items:Array Value},l≠z->l≠TO->l≠i1->l≠i2->it≠z->s.heap.IsTuple l items->ZZ.SrcAt h' ⟨it,l,items⟩ (i+1)->h2.IsTupleIter it l (i+1):=λm1 m2 m3 m4 m5 hl q=>by
   rcases q with⟨_,q2⟩|⟨q1,_⟩
   ·obtain⟨o,e,r⟩:=hl;exact (Lp q2 ⟨o,a7 _ o m1 m2 (by simp[m3,m4]) e,r⟩).elim
   ·exact q1.at λo e=>(sb.2 _ m5).trans e
  refine⟨.ref s.heap.objs.size,_,I1,rq,⟨s.heap.objs.size,x,y,I.hok.fresh (QcD _),rq,rq,λys' hy'=>by (rw[hq1] at hy';cases hy';exact hx),λys' hy'=>by (rw[hq2] at hy';cases hy';exact hy)⟩,⟨⟨_,hz2⟩,(sb.2 _ (Ne.symm n1)).trans a2,⟨[u,v],(sb.2 _ (Ne.symm n2)).trans a3,rq⟩,?_,?_⟩,λc hc=>?_⟩
  ·exact zZ (D.a ⟨i1,a,us.toArray⟩ (by simp)).1 (D.a ⟨i1,a,us.toArray⟩ (by simp)).2 (D.ai ⟨i1,a,us.toArray⟩ (by simp) ⟨i1,a,us.toArray⟩ (by simp)) (D.ai ⟨i1,a,us.toArray⟩ (by simp) ⟨i2,b,ws.toArray⟩ (by simp)) (Ne.symm n3) p1 (a4 _ (by simp))
  ·exact zZ (D.a ⟨i2,b,ws.toArray⟩ (by simp)).1 (D.a ⟨i2,b,ws.toArray⟩ (by simp)).2 (D.ai ⟨i2,b,ws.toArray⟩ (by simp) ⟨i1,a,us.toArray⟩ (by simp)) (D.ai ⟨i2,b,ws.toArray⟩ (by simp) ⟨i2,b,ws.toArray⟩ (by simp)) (Ne.symm n4) p2 (a4 _ (by simp))
  ·have hlc:c≠s.heap.objs.size:=by
    have hmem:∃o,s.heap.get? c=some o:=by
     simp only[Qcj,QbE,QcN] at hc;rcases hc with rfl | rfl | rfl | rfl | rfl
     ·exact⟨_,hz⟩
     ·exact⟨_,hTI⟩
     ·exact⟨_,hTO⟩
     ·obtain⟨o,e,_⟩:=hi1;exact⟨o,e⟩
     ·obtain⟨o,e,_⟩:=hi2;exact⟨o,e⟩
    obtain⟨o,e⟩:=hmem;exact Qcu (Qct e)
   rw[Aq hlc];exact (hf c hc).1
 done:=by
  intro X hP hw hK hc i jb s U H E I hf st hg;subst hP hw hK;obtain⟨xs,ys,hq1,hq2,hend⟩:=hg;obtain⟨us,ru,p1,z1⟩:=I.tuple (SqT.of hq1);obtain⟨ws,rw',p2,z2⟩:=I.tuple (SqT.of hq2);obtain⟨⟨f1,hz⟩,hTI,⟨olds,hTO,lo⟩,hi1,hi2⟩:=st;simp only[QbT,Qcj,QbE,QcN,not_or,Qcf,not_false_eq_true,and_true] at nd;obtain⟨⟨n1,n2,n3,n4⟩,⟨n5,n6,n7⟩,⟨n8,n9⟩,n10⟩:=nd;have D:ZZ.Apart z TI TO [⟨i1,a,us.toArray⟩,⟨i2,b,ws.toArray⟩]:=by
   obtain⟨oa,ea,ca,_⟩:=id p1;obtain⟨ob,eb,cb,_⟩:=id p2;obtain⟨o1,e1,c1,_⟩:=id hi1;obtain⟨o2,e2,c2,_⟩:=id hi2;have aTO:a≠TO:=λq=>by
    have:=(hf TO (by simp)).1;rw[<-q,hq1] at this;cases this
   have bTO:b≠TO:=λq=>by
    have:=(hf TO (by simp)).1;rw[<-q,hq2] at this;cases this
   have t1:Value.type "tuple"≠Value.type "zip":=λq=>absurd (by injection q) (show ¬("tuple"="zip") by decide);have t2:Value.type "tuple"≠Value.type "tuple_iterator":=λq=>absurd (by injection q) (show ¬("tuple"="tuple_iterator") by decide);refine⟨Ne.symm n1,Ne.symm n2,n5,λq hq=>?_,λq hq=>?_,λq hq r hr=>?_,?_⟩
   ·simp only[Qcj,QbE,QcN] at hq;rcases hq with rfl | rfl
    ·exact⟨Ne.symm n3,Ne.symm n6,Ne.symm n8⟩
    ·exact⟨Ne.symm n4,Ne.symm n7,Ne.symm n9⟩
   ·simp only[Qcj,QbE,QcN] at hq;rcases hq with rfl | rfl
    ·exact⟨Ie ea hz (by rw[ca];exact t1),aTO⟩
    ·exact⟨Ie eb hz (by rw[cb];exact t1),bTO⟩
   ·simp only[Qcj,QbE,QcN] at hq hr;rcases hq with rfl | rfl <;> rcases hr with rfl | rfl
    ·exact Ie ea e1 (by rw[ca,c1];exact t2)
    ·exact Ie ea e2 (by rw[ca,c2];exact t2)
    ·exact Ie eb e1 (by rw[cb,c1];exact t2)
    ·exact Ie eb e2 (by rw[cb,c2];exact t2)
   ·simp[n10]
  have hat:∀q∈([⟨i1,a,us.toArray⟩,⟨i2,b,ws.toArray⟩]:List ZZ.Src),ZZ.SrcAt s.heap q i:=λq hq=>by
   simp only[Qcj,QbE,QcN] at hq;rcases hq with rfl | rfl
   ·exact .inr ⟨hi1,p1⟩
   ·exact .inr ⟨hi2,p2⟩
  have l1:=ru.length;have l2:=rw'.length;refine ZZ.YX hz (R:=λh'=>ZZ.Rest z TO [⟨i1,a,us.toArray⟩,⟨i2,b,ws.toArray⟩] s.heap h') (ZZ.bN (I.ok.hd hc) D hz hTI hTO hat (by simp) lo (by show 2<=100;decide) ?_ λh' e r st=>⟨h',e,rfl,rfl,r,st⟩) λh' r=>⟨rfl,I.N7 (h':=h') (t':=s.toks) (λc q hc e=>r c q (λw=>hc (by simp[w])) (λw=>hc (by simp[w])) (λw=>hc (by simp only[Qck,QcA,Qcj,QbE,QcN] at w;rcases w with w | w <;> simp[w])) e) hf⟩;rcases hend with h | h
  ·exact⟨_,QaZ ..,by simp;omega⟩
  ·exact⟨_,QaL _ (QaZ ..),by simp;omega⟩
 self:=λ_ _ _ _ _ st h=>ZZ.Xh st.1.choose_spec h
def EI (K:YD) (ta:TA):TI:=fun U H R=>ta U H λvs H1=>∃a b,vs=[.ref a,.ref b]/\(∃xs,H1 a=some (.tup xs))/\(∃ys,H1 b=some (.tup ys))/\R (pW K a b) H1
section
variable {X:Cx}
theorem vU {a b:Expr} {ta:TA} {p pos tp:Pos} {elts:YJ} {k:Nat} (hg:Gl X "zip") (hm:X.mg "zip"=none) (ha:PA X [a,b] ta)
  (hs:starEach [a,b] X.env=[(false,eval a X.env),(false,eval b X.env)]:=by rfl) (hs2:starEach [b] X.env=[(false,eval b X.env)]:=by rfl):PI X (.Tuple elts k tp) (.Call (.Name "zip" p) [a,b] [] pos) (EI X.K ta):=by
 intro jb s U H R I h;refine Call_ (Jy I hg hm (u:=.type "zip") (by trivial) (Qae (thn (ha pos jb s U H _ I h) λus s1 ⟨vs,H1,I1,r1,q1⟩=>?_) (by rw[hs,hs2]) (by rw[hs2];rfl)));obtain⟨a,b,e,⟨xs,hx⟩,⟨ys,hy⟩,q⟩:=q1;subst e;cases r1 with
 | cons r rr=>
  cases rr with
  | cons r' rr=>
   cases rr;cases r;cases r';obtain⟨us,ru,k1,z1⟩:=I1.tuple (SqT.of hx);obtain⟨ws,rw',k2,z2⟩:=I1.tuple (SqT.of hy);refine ZZ.uw (c1:="tuple_iterator") (c2:="tuple_iterator") (.inr ⟨rq,k1⟩) (.inr ⟨rq,k2⟩) λh' z TI TO i1 i2 f=>?_;refine ZZ.Xh (s:={ s1 with heap:=h' }) f.hz ?_;have nd:[z,TI,TO,i1,i2].Nodup:=by
    have a1:=f.ap.it ⟨i1,a,us.toArray⟩ (by simp);have a2:=f.ap.it ⟨i2,b,ws.toArray⟩ (by simp);have a3:i1≠i2:=by
     have:=f.ap.nd;simpa using this
    simp only[QbT,Qcj,QbE,QcN,not_or,Qcf,not_false_eq_true,and_true];exact⟨⟨Ne.symm f.ap.TIz,Ne.symm f.ap.TOz,Ne.symm a1.1,Ne.symm a2.1⟩,⟨f.ap.TITO,Ne.symm a1.2.1,Ne.symm a2.2.1⟩,⟨Ne.symm a1.2.2,Ne.symm a2.2.2⟩,a3⟩
   have at1:h'.IsTupleIter i1 a 0:=by
    rcases f.at_ ⟨i1,a,us.toArray⟩ (by simp) with⟨_,x2⟩|⟨x1,_⟩
    ·obtain⟨o,e,r⟩:=id k1;exact (Lp x2 ⟨o,f.keep _ o e,r⟩).elim
    ·exact x1
   have at2:h'.IsTupleIter i2 b 0:=by
    rcases f.at_ ⟨i2,b,ws.toArray⟩ (by simp) with⟨_,x2⟩|⟨x1,_⟩
    ·obtain⟨o,e,r⟩:=id k2;exact (Lp x2 ⟨o,f.keep _ o e,r⟩).elim
    ·exact x1
   refine⟨z,[z,TI,TO,i1,i2],_,_,H1,rq,I1.kept (t':=s1.toks) λc o e=>f.keep c o e,mJ a b z TI TO i1 i2 nd,⟨⟨_,f.hz⟩,f.hTI,⟨_,f.hTO,rq⟩,at1,at2⟩,λc hc=>?_,q⟩;have hn:=f.new;have hcs:s1.heap.objs.size<=c:=by
    simp only[Qcj,QbE,QcN] at hc;rcases hc with rfl | rfl | rfl | rfl | rfl
    ·exact hn.1
    ·exact hn.2.1
    ·exact hn.2.2.1
    ·exact hn.2.2.2 ⟨c,a,us.toArray⟩ (by simp)
    ·exact hn.2.2.2 ⟨c,b,ws.toArray⟩ (by simp)
   exact I1.QT hcs (I1.hok.fresh hcs)
end
theorem pN {K:YD} {a b l:Addr} {xs ys:YG} {g:TG} {tt:TT} {te:TE} {Q:VK} {σ0:St} {H0:Hp} (n:Nat) (hx:n<=xs.length) (hy:n<=ys.length) (hn:xs.length<=n\/ys.length<=n) (Pv:YN)
  (h0:Pv 0 σ0 H0) (hl:∀i U H',i<=n->Pv i U H'->H' a=some (.tup xs)/\H' b=some (.tup ys))
  (hs:∀i x y p U H',xs[i]?=some x->ys[i]?=some y->Pv i U H'->H' p=none->g (.ref p) U (upd H' p (.tup [x,y])) fun σ3 H3=>tt σ3 H3 λb H4=>if b=true then te σ3 H4 λy H5=>∃ys,H5 l=some (.lst ys)/\ys.length < sizeLine/\Pv (i+1) σ3 (upd H5 l (.lst (ys++[y]))) else Pv (i+1) σ3 H4)
  (hd:∀ U H',Pv n U H'->Q (.ref l) H'):Gs (pW K a b) g tt te Q σ0 H0 l:=by
 unfold Gs;refine⟨λi m U H'=>m=n - i/\i<=n/\Pv i U H',⟨n,by simp,QcE _,h0⟩,?_⟩;rintro i m U H' ⟨rfl,hi,p⟩;obtain⟨q1,q2⟩:=hl i U H' hi p;by_cases hlt:i < n
 ·have hlt1:i < xs.length:=by omega
  have hlt2:i < ys.length:=by omega
  refine .inr ⟨⟨xs,ys,xs[i],ys[i],q1,q2,Qao hlt1,Qao hlt2⟩,Pv (i+1),fun σ3 H3 p'=>⟨n - (i+1),by omega,rq,hlt,p'⟩,λv H2 y=>?_⟩;obtain⟨pp,x',y',hp,rfl,rfl,e1,e2⟩:=y;exact hs i x' y' pp U _ (e1 xs q1) (e2 ys q2) p hp
 ·exact .inl ⟨⟨xs,ys,q1,q2,by omega⟩,by
   have:i=n:=by omega
   subst this;exact hd _ _ p⟩
section
variable {X:Cx}
def JY (ta tb:TE):TE:=fun U H Q=>ta U H λx H1=>x=.non/\tb U H1 Q
theorem eE {a b:Expr} {rest:YJ} {pos:Pos} {ta tb:TE} (ha:PE X a ta) (hb:PE X (.BoolOp .Or (b::rest) pos) tb):PE X (.BoolOp .Or (a::b::rest) pos) (JY ta tb):=by
 intro jb s U H Q I h;refine BoolOp_or (thn (ha jb s U H _ I h) λv s1 zz=>?_);obtain⟨x,H1,I1,r1,e,q1⟩:=zz;subst e;cases r1;exact truthy_none (hb jb s1 U H1 Q I1 q1)
end
theorem pL {X:Cx} {jb:YC} {U : St} {H:Hp} {s:Shared} {A:Around} {E:YA} {a b:Addr} {kvs:YL} {k:List Key} {v:V} {u r:Value} {Q:YH} (hu:A.units < cLine) (I:Inv X jb U H s) (e:H a=some (.dT kvs)) (eb:H b=some (.tup (k.map kV))) (l:kvs.length < sizeLine) (ry:RelV (.ref b) u) (rv:RelV v r)
  (h:∀s',Inv X jb U (upd H a (.dT (putK kvs k v))) s'->Q () s'):wpAny (model X.prog X.w) A (dictSet a u r) Q E s:=by
 cases (show u=Value.ref b from ry)
 obtain⟨z,hd,xs,rel,dd⟩:=zU I.hok e;have hz:xs.length<=sizeLine:=by rw[<-Qci rel];exact z
 have hl:(putK kvs k v).length<=sizeLine:=by have:=Mh kvs k v;omega
 refine wpAny_dictSet_heap (hsz:=hz) hu (KZ I.hok eb) dd λh' dd' hs=>h _ ?_;obtain⟨q,es,ep,hq,h2,h3,h4,_,h5⟩:=dd';refine Vb I (by rw[e];exact True.intro) hs ⟨q,hq⟩ ⟨hl,hd,_,(rel.put k eb rv).keeps λc ys ec=>?_,q,es,ep,hq,h2,h3,h4,h5⟩;rw[Aq (zK ec e (λz=>nomatch z))];exact ec
@[irreducible] def Rb (J:It) (g:TG) (tt:TT) (tk tv:TE) (Q:VK) (σ0:St) (H0:Hp) (l:Addr):Prop:=∃W:Nat->YN,(∃m,W 0 m σ0 H0) /\
 ∀i m σ' H',W i m σ' H'->(J.stop i H'/\Q (.ref l) H')\/(J.go i H'/\∃N:YO,(∀ σ3 H3,N σ3 H3->∃m',m' < m/\W (i+1) m' σ3 H3)/\∀x H2,J.yld i H' x H2->g x σ' H2 fun σ3 H3=>tt σ3 H3 λb H4=>
  if b=true then tk σ3 H4 λy H5=>tv σ3 H5 λz H6=>∃(kvs:YL) (k:List Key) (b:Addr),H6 l=some (.dT kvs)/\y=.ref b/\H6 b=some (.tup (k.map kV))/\kvs.length < sizeLine/\N σ3 (upd H6 l (.dT (putK kvs k z))) else N σ3 H4)
def j4 (wi:TI) (src:List (Option Nat)) (g:TG) (tt:TT) (tk tv:TE):TE:=fun U H Q=>wi U H λJ H1=>∀l,H1 l=none->Rb J g tt tk tv Q (Ks src U) (upd H1 l (.dT [])) l
theorem jK {X:Cx} {N':YF} {src:List (Option Nat)} {sc:Scope} {kx vx tg iter:Expr} {ifs:YJ} {pos pos':Pos} {wi:TI} {g:TG} {tt:TT} {tk tv:TE} {use:Option (Value->Sem Unit)} {R:YA} (hu:X.A.units+1 < cLine) (hc:X.calm=true) (S:Bk X N' src sc)
  (hi:PI X tg iter wi) (hg:∀s3 H3 fp pn,PG (cxC X N' sc s3 H3 fp pn) tg g) (ht:∀s3 H3 fp pn,PF (cxC X N' sc s3 H3 fp pn) ifs tt) (hk:∀s3 H3 fp pn,PE (cxC X N' sc s3 H3 fp pn) kx tk) (hv:∀s3 H3 fp pn,PE (cxC X N' sc s3 H3 fp pn) vx tv)
  (hs:∀x,foldedSetIterable iter X.env x=pure x) {jb:YC} {s:Shared} {U : St} {H:Hp} {Q:VK} (I:Inv X jb U H s) (h:j4 wi src g tt tk tv U H Q)
  (fin:∀s3 H3 fp σ4 H4 s5 l,Inv X jb U H3 s3->(∀b∈fp,Ho X jb H3 b)->Inv (cxC X N' sc s3 H3 fp (X.pn++jb)) [] σ4 H4 s5->Q (.ref l) H4 ->
   compPost (model X.prog X.w) X.A X.xe use R (.ref l) s3.heap.objs.size (.ok .next) s5) :
  wpAny (model X.prog X.w) X.A (comprehension (.DictComp kx vx [⟨tg,iter,ifs,0⟩] sc pos) sc X.env pos' newDict false (eval iter X.env) use) R X.xe s:=by
 refine wpAny_comprehension_free (use:=use) (cl:=Gd X.env sc.names []) rfl hs (RJ λp hp e=>I.ok.has p.1 (S.fv p hp e)) S.kind S.loc ?_;refine thn (hi jb s U H _ I h) λv s1 h1=>thn h1 λitv s2 h2=>?_;obtain⟨it,fp,tn,J,H2,rfl,I2,T,st2,f2,q⟩:=h2;have q':=q s2.heap.objs.size (I2.hok.fresh (QcD _));unfold Rb at q';obtain⟨W,⟨m0,w0⟩,turn⟩:=q';refine Qbs (wpAny_newFunctionEnv S.Jw (by intro y hy;simp at hy) (λha hns hsb=>?_) S.kind);have I3:Inv X jb U (upd H2 s2.heap.objs.size (.dT [])) { s2 with heap:=s2.heap.push { cls:=.type "dict",data:=.dict #[] } }:=
  I2.laid (t':=s2.toks) (λb u e=>Qaz _ e) (QcD _) (gW s2.heap I2.big)
 have hfl:∀b∈fp,b < s2.heap.objs.size:=λb hb=>by
  obtain⟨o,e,_⟩:=T.obj 0 _ st2 b hb;exact Qct e
 have f3:∀b∈fp,Ho X jb (upd H2 s2.heap.objs.size (.dT [])) b:=λb hb=>⟨by rw[Aq (Qcu (hfl b hb))];exact (f2 b hb).1,(f2 b hb).2⟩;generalize hs3:({ s2 with heap:=s2.heap.push { cls:=.type "dict",data:=.dict #[] } }:Shared)=s3 at *;have hsz:s2.heap.objs.size < s3.heap.objs.size:=by rw[<-hs3];show s2.heap.objs.size < (s2.heap.push _).objs.size;rw[Qce];exact QbH _
 have kp:∀b o,s3.heap.get? b=some o->ha.get? b=some o:=λb o e=>hsb.extBut b o (Qcu (Qct e)) (Qaz _ e);have st3:tn 0 ha:=T.keep 0 _ _ st2 λb hb o e=>kp b o (by rw[<-hs3];exact Qaz _ e);have I4:Inv (cxC X N' sc s3 (upd H2 s2.heap.objs.size (.dT [])) fp (X.pn++jb)) [] (Ks src U) (upd H2 s2.heap.objs.size (.dT [])) { s3 with heap:=ha,toks:=s3.toks+([]:List (Str×Value)).length }:=
  Wq S I3 f3 (λb hb=>Nat.lt_trans (hfl b hb) hsz) hns kp
 have loop:codeAny (model X.prog X.w) X.A (.compLoop (.DictComp kx vx [⟨tg,iter,ifs,0⟩] sc pos) 0 (.ref it) (.ref s2.heap.objs.size) (compEnvC sc (Gd X.env sc.names []) s3.heap.objs.size X.env))
   (compPost (model X.prog X.w) X.A X.xe use R (.ref s2.heap.objs.size) s3.heap.objs.size) { s3 with heap:=ha,toks:=s3.toks+([]:List (Str×Value)).length }:=by
  refine XM (λn s'=>∃i σ' H',Inv (cxC X N' sc s3 (upd H2 s2.heap.objs.size (.dT [])) fp (X.pn++jb)) [] σ' H' s'/\tn i s'.heap/\(∀b∈fp,H' b=none)/\W i n σ' H') ?_ m0 ⟨0,_,_,I4,st3,λb hb=>(f3 b hb).1,w0⟩;rintro n s4 ⟨i,σ4,H4,J4,st4,fr4,w4⟩;have stat:∀{H':Hp},(∀b∈fp,H' b=none)->∀b∈fp,Ho (cxC X N' sc s3 (upd H2 s2.heap.objs.size (.dT [])) fp (X.pn++jb)) [] H' b:=λhn b hb=>
   ⟨hn b hb,(I4.ok.exf b hb).1,I4.ok.Ly b hb,.inl hb,λx c e=>(I4.ok.exf b hb).2 x c e,λp hp=>(f3 b hb).2.2.2.2.2 p ((QbO.mp hp).elim id λz=>by cases z)⟩
  rcases turn i n σ4 H4 w4 with⟨stop,qn⟩|⟨go,N,hN,step⟩
  ·refine thn (T.done (cxC X N' sc s3 (upd H2 s2.heap.objs.size (.dT [])) fp (X.pn++jb)) rfl rfl rfl hc i [] s4 σ4 H4 _ J4 (stat fr4) st4 stop) λr s5 zz=>?_;obtain⟨hr,J5⟩:=zz;subst hr;exact fin s3 _ fp σ4 H4 s5 _ I3 f3 J5 qn
  ·refine thn (T.item (cxC X N' sc s3 (upd H2 s2.heap.objs.size (.dT [])) fp (X.pn++jb)) rfl rfl rfl hc i [] s4 σ4 H4 _ J4 (stat fr4) st4 go) λr s5 zz=>?_;obtain⟨u,hr,h5⟩:=zz;subst hr;refine thn h5 λ_ s6 zz=>?_;obtain⟨x,H6,J6,r6,y6,st6,fr6⟩:=zz;have J6':=J6.pinned (stat fr6) (T.obj _ _ st6);have back:∀{pl:YC} {σ7:St} {H7:Hp} {s7:Shared},Inv (cxC X N' sc s3 (upd H2 s2.heap.objs.size (.dT [])) fp (X.pn++jb)) ([]++OD fp s6.heap) σ7 H7 s7->N σ7 H7 ->
     ∃m',m' < n/\∃i σ' H',Inv (cxC X N' sc s3 (upd H2 s2.heap.objs.size (.dT [])) fp (X.pn++jb)) [] σ' H' s7/\tn i s7.heap/\(∀b∈fp,H' b=none)/\W i m' σ' H':=λ{pl σ7 H7 s7} J7 w7=>by
    obtain⟨m',hm,w7⟩:=hN _ _ w7;have pinned:∀b∈fp,∀o,s6.heap.get? b=some o->s7.heap.get? b=some o/\H7 b=none:=λb hb o e=>by
     have:=J7.pin (b,o) (QaE _ (QaE _ (KY hb e)));exact⟨this.1,this.2.1⟩
    refine⟨m',hm,i+1,σ7,H7,J7.Ja,T.keep _ _ _ st6 λb hb o e=>(pinned b hb o e).1,λb hb=>?_,w7⟩;obtain⟨o,e,_⟩:=T.obj _ _ st6 b hb;exact (pinned b hb o e).2
   refine thn (hg s3 _ fp _ _ s6 σ4 H6 x u _ J6' r6 (step x H6 y6)) λ_ s7 zz=>?_;obtain⟨σ7,H7,J7,q7⟩:=zz;refine thn (ht s3 _ fp _ _ s7 σ7 H7 _ J7 q7) λok s8 zz=>?_;obtain⟨H8,J8,q8⟩:=zz;cases ok with
   | false=>
    rw[if_neg Qba] at q8 ⊢;exact back (pl:=[]) J8 q8
   | true=>
    rw[if_pos rfl] at q8 ⊢;refine thn (hk s3 _ fp _ _ s8 σ7 H8 _ J8 q8) λy s9 zz=>?_;obtain⟨yv,H9,J9,r9,q9⟩:=zz;refine thn (hv s3 _ fp _ _ s9 σ7 H9 _ J9 q9) λz s10 zz=>?_;obtain⟨zv,H10,J10,r10,kvs,k,bb,hl,ey,eb,hz,q10⟩:=zz;subst ey;refine pL (X:=cxC X N' sc s3 (upd H2 s2.heap.objs.size (.dT [])) fp (X.pn++jb)) (show X.A.units < cLine by omega) J10 hl eb hz r9 r10 λs11 J11=>?_;exact back (pl:=[]) J11 q10
 exact codeAny_compStart_dict loop (T.self X.A 0 _ _ _ st3 loop)
theorem Hq {X:Cx} {N':YF} {src:List (Option Nat)} {sc:Scope} {kx vx tg iter:Expr} {ifs:YJ} {pos:Pos} {wi:TI} {g:TG} {tt:TT} {tk tv:TE} (hu:X.A.units+1 < cLine) (hc:X.calm=true) (S:Bk X N' src sc)
  (hi:PI X tg iter wi) (hg:∀s3 H3 fp pn,PG (cxC X N' sc s3 H3 fp pn) tg g) (ht:∀s3 H3 fp pn,PF (cxC X N' sc s3 H3 fp pn) ifs tt) (hk:∀s3 H3 fp pn,PE (cxC X N' sc s3 H3 fp pn) kx tk) (hv:∀s3 H3 fp pn,PE (cxC X N' sc s3 H3 fp pn) vx tv)
  (hs:∀x,foldedSetIterable iter X.env x=pure x:=by intro _;rfl):PE X (.DictComp kx vx [⟨tg,iter,ifs,0⟩] sc pos) (j4 wi src g tt tk tv):=by
 intro jb s U H Q I h;rw[arm_eval_DictComp];refine jK (use:=none) hu hc S hi hg ht hk hv hs I h λs3 H3 fp σ4 H4 s5 l I3 f3 J5 q=>?_;obtain⟨m,hn,_⟩:=J5.loc;exact⟨m,hn,λh' sb=>⟨.ref l,H4,T6 I3 f3 J5 sb,rq,q⟩⟩
section
variable {a l:Addr} {g:TG} {tt:TT} {tk tv:TE} {Q:VK}
theorem jJ {K:YD} {xs:YG} {σ0:St} {H0:Hp} (Pv:YN) (h0:Pv 0 σ0 H0) (hl:∀i U H',i<=xs.length->Pv i U H'->SqL K H' a xs)
  (hs:∀i x U H',xs[i]?=some x->Pv i U H'->g x U H' fun σ3 H3=>tt σ3 H3 λb H4=>if b=true then tk σ3 H4 λy H5=>tv σ3 H5 λz H6=>∃(kvs:YM) (k:Key),H6 l=some (.dK kvs)/\y=kV k/\kvs.length < sizeLine/\Pv (i+1) σ3 (upd H6 l (.dK (putK kvs k z))) else Pv (i+1) σ3 H4)
  (hd:∀ U H',Pv xs.length U H'->Q (.ref l) H'):Vg (Itl K a) g tt tk tv Q σ0 H0 l:=by
 unfold Vg;refine⟨λi m U H'=>m=xs.length - i/\i<=xs.length/\Pv i U H',⟨xs.length,by simp,QcE _,h0⟩,?_⟩;rintro i m U H' ⟨rfl,hi,p⟩;have q:=hl i U H' hi p;by_cases hlt:i < xs.length
 ·refine .inr ⟨⟨xs,xs[i],q,by simp[hlt]⟩,Pv (i+1),fun σ3 H3 p'=>⟨xs.length - (i+1),by omega,rq,hlt,p'⟩,λx H2 y=>?_⟩;obtain⟨rfl,y⟩:=y;exact hs i x U _ (y xs q) p
 ·exact .inl ⟨⟨xs,q,by omega⟩,by
   have:i=xs.length:=by omega
   subst this;exact hd _ _ p⟩
theorem QW {K:YD} {xs:YG} {σ0:St} {H0:Hp} (Pv:YN) (h0:Pv 0 σ0 H0) (hl:∀i U H',i<=xs.length->Pv i U H'->SqL K H' a xs)
  (hs:∀i x U H',xs[i]?=some x->Pv i U H'->g x U H' fun σ3 H3=>tt σ3 H3 λb H4=>if b=true then tk σ3 H4 λy H5=>tv σ3 H5 λz H6=>∃(kvs:YL) (k:List Key) (b:Addr),H6 l=some (.dT kvs)/\y=.ref b/\H6 b=some (.tup (k.map kV))/\kvs.length < sizeLine/\Pv (i+1) σ3 (upd H6 l (.dT (putK kvs k z))) else Pv (i+1) σ3 H4)
  (hd:∀ U H',Pv xs.length U H'->Q (.ref l) H'):Rb (Itl K a) g tt tk tv Q σ0 H0 l:=by
 unfold Rb;refine⟨λi m U H'=>m=xs.length - i/\i<=xs.length/\Pv i U H',⟨xs.length,by simp,QcE _,h0⟩,?_⟩;rintro i m U H' ⟨rfl,hi,p⟩;have q:=hl i U H' hi p;by_cases hlt:i < xs.length
 ·refine .inr ⟨⟨xs,xs[i],q,by simp[hlt]⟩,Pv (i+1),fun σ3 H3 p'=>⟨xs.length - (i+1),by omega,rq,hlt,p'⟩,λx H2 y=>?_⟩;obtain⟨rfl,y⟩:=y;exact hs i x U _ (y xs q) p
 ·exact .inl ⟨⟨xs,q,by omega⟩,by
   have:i=xs.length:=by omega
   subst this;exact hd _ _ p⟩
end
def Np (h:Heap) (d:Addr) (es:YK) (ep:Nat):Prop:=∃o,h.get? d=some o/\o.ExactDict/\o.data=.dict es ep
section
variable {prog:Program} {w:World} {A:Around} {E:YA} {s:Shared}
theorem dI {it d:Addr} {i ep:Nat} {es:YK} {en:DictEntry} {Q:Option Value->Shared->Prop} (K:s.heap.IsKeyIter it d i es.size ep) (R:Np s.heap d es ep) (hx:es[i]?=some en)
  (q:∀h',h'.IsKeyIter it d (i+1) es.size ep->Heap.SameBut it s.heap h'->Q (some en.key) { s with heap:=h' }):wpAny (model prog w) A (pyNext (.ref it)) Q E s:=by
 have T:=K.typeIs;obtain⟨oi,hoi,ci,di⟩:=K;obtain⟨od,hod,xd,dd⟩:=R;have hlt:i < es.size:=(Qaf.mp hx).1;obtain⟨NL,HZ,Ic,EF⟩:=oi;obtain⟨Zn,U9,Va,Q8⟩:=od;dsimp only at ci di dd;subst ci di dd;obtain⟨hp,g,dr,tk,os⟩:=s;unfold pyNext;refine QcJ (Qcp (Qau (name:=Str.ofString "__next__") T Qad (QbF Qad T F.entry_dict_keyiterator_next ?_ (F.args_dict_keyiterator_next_1 _))));have e1:typeName (.type "dict_keyiterator")=pure "dict_keyiterator":=by unfold typeName;rw[find?_eq_fast];kernel_rfl
 have e2:=mroOf_keyiter
 wp_walk
 have hidx:(if (i:Int) < 0 then none else es[((i:Int)).toNat]?)=some en:=by rw[if_neg (by omega),Qbr];exact hx
 simp only[hidx]
 wp_walk
 refine⟨_,rq,QcK (q _ ⟨_,QaF _ hoi ?_,rq,?_⟩ (QaV ..))⟩
 all_goals first | rfl | trace_state
theorem kO {it d:Addr} {i ep:Nat} {es:YK} {Q:Option Value->Shared->Prop} (hh:A.handled=none) (K:s.heap.IsKeyIter it d i es.size ep) (R:Np s.heap d es ep) (hx:es[i]?=none)
  (q:∀h',Heap.ExtBut it s.heap h'->Q none { s with heap:=h' }):wpAny (model prog w) A (pyNext (.ref it)) Q E s:=by
 have T:=K.typeIs;obtain⟨oi,hoi,ci,di⟩:=K;obtain⟨od,hod,xd,dd⟩:=R;obtain⟨NL,HZ,Ic,EF⟩:=oi;obtain⟨Zn,U9,Va,Q8⟩:=od;dsimp only at ci di dd;subst ci di dd;obtain⟨hp,g,dr,tk,os⟩:=s;unfold pyNext;refine QcJ (Qcp (Qau (name:=Str.ofString "__next__") T Qad (QbF Qad T F.entry_dict_keyiterator_next ?_ (F.args_dict_keyiterator_next_1 _))));have e1:typeName (.type "dict_keyiterator")=pure "dict_keyiterator":=by unfold typeName;rw[find?_eq_fast];kernel_rfl
 have e2:=mroOf_keyiter;have hh1:A.in1.handled=none:=hh
 wp_walk
 have hidx:(if (i:Int) < 0 then none else es[((i:Int)).toNat]?)=none:=by rw[if_neg (by omega),Qbr];exact hx
 simp only[hidx]
 wp_walk
 unfold raiseNew
 wp_walk
 refine wpAny_of_eq isSubtype_stop ?_
 wp_walk
 exact q _ (((QaV ..).extBut.push _).push _)
theorem dJ {d:Addr} {ep:Nat} {es:YK} {Q:YA} (lo:(d == sysModules)=false) (R:Np s.heap d es ep)
  (q:Q (.ref s.heap.objs.size) { s with heap:=s.heap.push { cls:=.type "dict_keyiterator",data:=.fields #[.ref d,.int 0 0,.int es.size 0,.int ep 0] } }):wpAny (model prog w) A (pyIter (.ref d)) Q E s:=by
 obtain⟨od,hod,xd,dd⟩:=R;have T:s.TypeIs (.ref d) "dict":=⟨od,hod,xd.1⟩;obtain⟨Zn,U9,Va,Q8⟩:=od;obtain⟨x1,x2⟩:=xd;dsimp only at dd x1;subst dd x1;refine wpAny_pyIter_slot T F.slot_dict_iter (QbF F.slot_dict_iter T F.entry_dict_iter ?_ (F.args_dict_iter_1 _));unfold Builtin.«dict.__iter__»
 wp_walk
 exact⟨_,rq,"dict_keyiterator",_,⟨_,QaP _ rfl,rq⟩,Qad.lookup,q⟩
theorem qG {d:Addr} {ep:Nat} {es:YK} (lo:(d == sysModules)=false) :
  MeetsIn prog w (Builtin.«dict.items» ⟨[.ref d],[]⟩) (λ_ R s=>Np s.heap d es ep/\R (.ok (.ret (.ref s.heap.objs.size))) { s with heap:=s.heap.push { cls:=.type "dict_items",data:=.fields #[.ref d] } }):=
 .of_wp λA R s ⟨hm,h⟩=>by
  obtain⟨od,hod,xd,dd⟩:=hm;have T:s.TypeIs (.ref d) "dict":=⟨od,hod,xd.1⟩;obtain⟨Zn,U9,Va,Q8⟩:=od;obtain⟨x1,x2⟩:=xd;dsimp only at dd x1;subst dd x1;unfold Builtin.«dict.items»
  wp_walk
  exact⟨_,rq,h⟩
theorem YW {v d:Addr} {es:YK} {ep:Nat} {Q:YA} (hv:s.heap.IsItemsView v d) (R:Np s.heap d es ep)
  (q:Q (.ref s.heap.objs.size) { s with heap:=s.heap.push { cls:=.type "dict_itemiterator",data:=.fields #[.none,.bool false,.ref d,.int 0 0,.int es.size 0,.int ep 0,.none,.none] } }) :
  wpAny (model prog w) A (pyIter (.ref v)) Q E s:=by
 have T:=hv.typeIs;obtain⟨ov,hov,hcv,hdv⟩:=hv;obtain⟨od,hod,xd,dd⟩:=R;obtain⟨TM,TB,TD,Ts⟩:=ov;obtain⟨Zn,U9,Va,Q8⟩:=od;dsimp only at hcv hdv dd;subst hcv hdv dd;refine wpAny_pyIter_slot T F.slot_dict_items_iter (QbF F.slot_dict_items_iter T F.entry_dict_items_iter ?_ (F.args_dict_items_iter_1 _));unfold Builtin.«dict_items.__iter__»
 wp_walk
 have hown:Builtin.Dict_items.ownsTuple "dict_itemiterator"=true:=by decide
 refine⟨_,rq,"dict_itemiterator",_,⟨_,QaP _ rfl,rq⟩,Qac.lookup,?_⟩;simpa [rawInt,hown,Builtin.Dict_items.ownedTupleFields] using q
theorem vM {it d:Addr} {i ep:Nat} {es:YK} {en:DictEntry} {ok ov:Value} {Q:Option Value->Shared->Prop} (K:IsItemIter s.heap it d i es.size ep ok ov) (R:Np s.heap d es ep) (hx:es[i]?=some en)
  (q:∀h',IsItemIterOut h' it d (i+1) es.size ep en.key en.val s.heap.objs.size->h'.get? s.heap.objs.size=some { cls:=.type "tuple",data:=.seq #[en.key,en.val] }->(∀b o,b≠it->s.heap.get? b=some o->h'.get? b=some o)->Q (some (.ref s.heap.objs.size)) { s with heap:=h' }) :
  wpAny (model prog w) A (pyNext (.ref it)) Q E s:=by
 have hT:s.TypeIs (.ref it) "dict_itemiterator":=⟨_,K,rq⟩;obtain⟨od,hod,xd,dd⟩:=R;have hlt:i < es.size:=(Qaf.mp hx).1;obtain⟨Zn,U9,Va,Q8⟩:=od;dsimp only at dd;subst dd;obtain⟨hp,g,dr,tk,os⟩:=s;unfold pyNext;refine QcJ (Qcp (Qau (name:=Str.ofString "__next__") hT Qac (QbF Qac hT F.entry_dict_itemiterator_next ?_ (F.args_dict_itemiterator_next_1 _))));have e1:typeName (.type "dict_itemiterator")=pure "dict_itemiterator":=by unfold typeName;rw[find?_eq_fast];kernel_rfl
 have e2:=mroOf_itemiter
 wp_walk
 have hidx:(if (i:Int) < 0 then none else es[((i:Int)).toNat]?)=some en:=by rw[if_neg (by omega),Qbr];exact hx
 simp only[hidx];have hown:Builtin.Dict_items.ownsTuple "dict_itemiterator"=true:=by decide
 refine QcJ ?_
 first | refine QcJ (wpAny_typeNameOfWhole_itemiter hT (QcK ?_)) | refine QcJ (wpAny_typeNameOf_itemiter hT (QcK ?_))
 refine QcJ (wpAny_isOneOf_itemiter hT ?_);simp only[hown,if_true];show wpAny _ _ (setField (.ref it) 3 (rawInt ((i:Int)+1)) >>= _) _ _ _;refine QcJ (Qbi K (by simp) λh1 k1 s1=>?_);have s1:Heap.SameBut it hp h1:=s1;have k1:IsItemIter h1 it d (i+1) es.size ep ok ov:=by
  have e:((i+1:Nat):Int)=(i:Int)+1:=by omega
  unfold IsItemIter;rw[e];simpa [rawInt] using k1
 have hT1:Shared.TypeIs ⟨h1,g,dr,tk,os⟩ (.ref it) "dict_itemiterator":=⟨_,k1,rq⟩;refine QcJ (Qcn (QcJ (wpAny_isOneOf_itemiter hT1 (QcJ (wpAny_isOneOf_itemiter hT1 ?_)))));show wpAny _ _ (Builtin.Dict_items.pairFromOwner (.ref it) 6 en.key en.val) _ _ ⟨h1,g,dr,tk,os⟩;unfold Builtin.Dict_items.pairFromOwner;refine QcJ (wpAny_newTuple ?_);have k2:IsItemIter (h1.push { cls:=.type "tuple",data:=.seq #[en.key,en.val] }) it d (i+1) es.size ep ok ov:=Qaz _ k1;have z1:h1.objs.size=hp.objs.size:=s1.1;have n1:(h1.push { cls:=.type "tuple",data:=.seq #[en.key,en.val] }).get? hp.objs.size=some { cls:=.type "tuple",data:=.seq #[en.key,en.val] }:=by rw[<-z1];exact QaP _ rfl
 have p1:∀b o,b≠it->hp.get? b=some o->(h1.push { cls:=.type "tuple",data:=.seq #[en.key,en.val] }).get? b=some o:=λb o hb e=>Qaz _ (s1.extBut b o hb e);have nit:hp.objs.size≠it:=Qcy (Qct K);rw[z1];show wpAny _ _ (Builtin.Dict_items.ownedTupleIsFree (.ref it) >>= _) _ _ ⟨h1.push { cls:=.type "tuple",data:=.seq #[en.key,en.val] },g,dr,tk,os⟩;generalize h1.push { cls:=.type "tuple",data:=.seq #[en.key,en.val] }=h2 at k2 n1 p1;refine QcJ ?_;unfold Builtin.Dict_items.ownedTupleIsFree;refine QcJ (QcG k2 rfl (x:=.none) rfl (QcK ?_));simp only[if_true];refine QcJ (QcG k2 rfl (x:=ok) rfl ?_);refine QcJ (QcG k2 rfl (x:=ov) rfl ?_);refine QcJ (Qbi k2 (by simp) λh3 k3 s3=>?_);refine QcJ (Qbi k3 (by simp) λh4 k4 s4=>?_);refine QcJ (Qbi k4 (by simp) λh5 k5 s5=>?_);refine QcJ (Qbi k5 (by simp) λh6 k6 s6=>?_);have f:∀b o,b≠it->h2.get? b=some o->h6.get? b=some o:=λb o hb e=>s6.extBut b o hb (s5.extBut b o hb (s4.extBut b o hb (s3.extBut b o hb e)));exact QcJ (wpAny_letGo (QcK (QcK ⟨_,rq,QcK (q h6 k6 (f _ _ nit n1) λb o hb e=>f b o hb (p1 b o hb e))⟩)))
theorem dM {it d:Addr} {i ep:Nat} {es:YK} {ok ov:Value} {Q:Option Value->Shared->Prop} (hh:A.handled=none) (K:IsItemIter s.heap it d i es.size ep ok ov) (R:Np s.heap d es ep) (hx:es[i]?=none)
  (q:∀h',Heap.ExtBut it s.heap h'->Q none { s with heap:=h' }):wpAny (model prog w) A (pyNext (.ref it)) Q E s:=by
 have hT:s.TypeIs (.ref it) "dict_itemiterator":=⟨_,K,rq⟩;obtain⟨od,hod,xd,dd⟩:=R;obtain⟨Zn,U9,Va,Q8⟩:=od;dsimp only at dd;subst dd;obtain⟨hp,g,dr,tk,os⟩:=s;unfold pyNext;refine QcJ (Qcp (Qau (name:=Str.ofString "__next__") hT Qac (QbF Qac hT F.entry_dict_itemiterator_next ?_ (F.args_dict_itemiterator_next_1 _))));have e1:typeName (.type "dict_itemiterator")=pure "dict_itemiterator":=by unfold typeName;rw[find?_eq_fast];kernel_rfl
 have e2:=mroOf_itemiter;have hh1:A.in1.handled=none:=hh
 wp_walk
 have hidx:(if (i:Int) < 0 then none else es[((i:Int)).toNat]?)=none:=by rw[if_neg (by omega),Qbr];exact hx
 simp only[hidx]
 wp_walk
 unfold raiseNew
 wp_walk
 refine wpAny_of_eq isSubtype_stop ?_
 wp_walk
 exact q _ (((QaV ..).extBut.push _).push _)
end
section
variable {X:Cx} {jb:YC} {U : St} {H:Hp} {s:Shared} {a:Addr} {kvs:YL} {o:Obj}
theorem Inv.lN (I:Inv X jb U H s) (e:H a=some (.dT kvs)):∃o,s.heap.get? a=some o/\Inv X jb U (upd H a (.frz o (.dT kvs))) s:=by
 obtain⟨o,ho⟩:=(I.hok a _ e).there;have n0:∀b,H b=none->b≠a:=λb n z=>by rw[z,e] at n;cases n
 have n1:∀b u,H b=some u->u≠.dT kvs->b≠a:=λb u q nu z=>by rw[z,e] at q;exact nu (QbS q).symm
 refine⟨o,ho,I.step (h':=s.heap) (g':=s.gens) (d':=s.drawn) (t':=s.toks) (ch:=[]) (λb hb=>absurd hb (by simp)) (λb u _ _ _ q _=>q) (λb u _ _ _ q _=>⟨u.slots,q⟩) (λb u _ q n=>by rw[Aq (n0 b n)];exact n)
  (λb u _ q=>⟨u,q⟩) (λb xs q=>by rw[Aq (n1 b _ q (by intro z;cases z))];exact q) (λb u v q=>by rw[Aq (n1 b _ q (by intro z;cases z))];exact q)
  (λb ps q=>⟨#[],by rw[Aq (n1 b _ q (by intro z;cases z)),q];simp⟩) (λm hm=>hm) (λb u q=>?_) I.bare⟩
 have st:∀b u,Bt X.prog X.w H s.heap b u->Bt X.prog X.w (upd H a (.frz o (.dT kvs))) s.heap b u:=λb u x=>
  x.stay (λ_ _ _ q=>q) (λc q=>by rw[Aq (n1 c _ q (by intro z;cases z))];exact q) λc xs q=>by rw[Aq (n1 c _ q (by intro z;cases z))];exact q
 by_cases hb:b=a
 ·subst hb;rw[Ab] at q;cases q;exact⟨ho,st _ _ (I.hok _ _ e)⟩
 ·rw[Aq hb] at q;exact st _ _ (I.hok b u q)
theorem Inv.Ri (I:Inv X jb U H s) (e:H a=some (.frz o (.dT kvs))) (h0:∀o' u,X.H₀ a≠some (.frz o' u)):Inv X jb U (upd H a (.dT kvs)) s:=by
 have n0:∀b,H b=none->b≠a:=λb n z=>by rw[z,e] at n;cases n
 have n1:∀b u,H b=some u->u≠.frz o (.dT kvs)->b≠a:=λb u q nu z=>by rw[z,e] at q;exact nu (QbS q).symm
 refine⟨I.ok,I.os,I.bare,⟨I.base.keep,I.base.slot,λb u q n hx=>?_,I.base.there,λb xs q=>?_,λb u v q=>?_,λb ps q=>?_⟩,I.loc,I.cell,?_,λx c q=>?_,λp hp=>?_,λb u q=>?_,I.len⟩
 ·rw[Aq (n0 b (I.base.free b u q n hx))];exact I.base.free b u q n hx
 ·have z:=I.base.tups b xs q;rw[Aq (n1 b _ z (by intro w;cases w))];exact z
 ·have z:=I.base.Gu b u v q;have nb:b≠a:=λw=>h0 u v (by rw[<-w];exact q);rw[Aq nb];exact z
 ·obtain⟨m,z⟩:=I.base.G3 b ps q;exact⟨m,by rw[Aq (n1 b _ z (by intro w;cases w))];exact z⟩
 ·rw[Aq (n0 _ I.free)];exact I.free
 ·rw[Aq (n0 _ (I.FP x c q))];exact I.FP x c q
 ·obtain⟨p1,p2,p3⟩:=I.pin p hp;exact⟨p1,by rw[Aq (n0 _ p2)];exact p2,p3⟩
 ·have st:∀b u,Bt X.prog X.w H s.heap b u->Bt X.prog X.w (upd H a (.dT kvs)) s.heap b u:=λb u x=>
   x.stay (λ_ _ _ q=>q) (λc q=>by rw[Aq (n1 c _ q (by intro z;cases z))];exact q) λc xs q=>by rw[Aq (n1 c _ q (by intro z;cases z))];exact q
  by_cases hb:b=a
  ·subst hb;rw[Ab] at q;cases q;exact st _ _ (show Bt X.prog X.w H s.heap b (.frz o (.dT kvs)) from I.hok _ _ e).2
  ·rw[Aq hb] at q;exact st _ _ (I.hok b u q)
end
def XS (H0 H:Hp) (P:Hp->Prop):Prop:=∃a o kvs,H a=some (.frz o (.dT kvs))/\(∀o' u,H0 a≠some (.frz o' u))/\P (upd H a (.dT kvs))
def Ends.Ri (D:Ends) (H0:Hp):Ends where
 nx:=fun U H=>XS H0 H (D.nx U)
 rt:=λv H=>XS H0 H (D.rt v)
 bk:=fun U H=>XS H0 H (D.bk U)
 ct:=fun U H=>XS H0 H (D.ct U)
def CD (H0:Hp) (t:TS):TS:=λD U H=>t (D.Ri H0) U H
def AE (H0:Hp) (t:TE):TE:=fun U H Q=>t U H λv H1=>XS H0 H1 (Q v)
theorem vO {X:Cx} {st:Stmt} {t:TS} {H0:Hp} (h0:X.H₀=H0) (h:PS X st t):PS X st (CD H0 t):=by
 subst h0;intro jb s U H D I q;refine thn (h jb s U H _ I q) λf s1 z=>?_;cases f with
 | next=>obtain⟨σ',H',I',a,o,kvs,e,n,q'⟩:=z;exact⟨σ',_,I'.Ri e n,q'⟩
 | brk=>obtain⟨σ',H',I',a,o,kvs,e,n,q'⟩:=z;exact⟨σ',_,I'.Ri e n,q'⟩
 | cont=>obtain⟨σ',H',I',a,o,kvs,e,n,q'⟩:=z;exact⟨σ',_,I'.Ri e n,q'⟩
 | ret u=>obtain⟨v,σ',H',I',r,a,o,kvs,e,n,q'⟩:=z;exact⟨v,σ',_,I'.Ri e n,r,q'⟩
theorem V7 {X:Cx} {x:Expr} {t:TE} {H0:Hp} (h0:X.H₀=H0) (h:PE X x t):PE X x (AE H0 t):=by
 subst h0;intro jb s U H Q I q;refine thn (h jb s U H _ I q) λu s1 zz=>?_;obtain⟨v,H',I',r,a,o,kvs,e,n,q'⟩:=zz;exact⟨v,_,I'.Ri e n,r,q'⟩
def pX (a:Addr) (o:Obj) (kvs:YL):It:=
 ⟨λi H=>i < kvs.length/\H a=some (.frz o (.dT kvs)),λi H x H'=>∃p b kv,H p=none/\kvs[i]?=some kv/\H b=some (.tup (kv.1.map kV))/\x=.ref p/\H'=upd H p (.tup [.ref b,kv.2]),λi H=>i=kvs.length/\H a=some (.frz o (.dT kvs))⟩
def KTr (P:Program) (w:World) (H:Hp) (kvs:YL) (es:YK):Prop:=es.size=kvs.length/\∀(i:Nat) (kv:List Key×V),kvs[i]?=some kv->∃b en,es[i]?=some en/\en.key=.ref b/\H b=some (.tup (kv.1.map kV))/\RelV kv.2 en.val
theorem Xv {P:Program} {w:World} {H:Hp} {kvs:YL} {xs:List (List Key×Addr×Value)} {es:YK} (r:Paired (λ(p:List Key×V) (q:List Key×Addr×Value)=>p.1=q.1/\H q.2.1=some (.tup (p.1.map kV))/\RelV p.2 q.2.2) kvs xs) (e:es.toList=xs.map (entryOfKey (tupleKind (Bq P w)))):KTr P w H kvs es:=by
 refine⟨by rw[size_of_entries e,Qci r],λi kv hkv=>?_⟩;have go:∀{l:YL} {m:List (List Key×Addr×Value)} {i:Nat} {p:List Key×V},Paired (λ(p:List Key×V) (q:List Key×Addr×Value)=>p.1=q.1/\H q.2.1=some (.tup (p.1.map kV))/\RelV p.2 q.2.2) l m->l[i]?=some p->∃x,m[i]?=some x/\H x.2.1=some (.tup (p.1.map kV))/\RelV p.2 x.2.2:=by
  intro l m i p r
  induction r generalizing i with
  | nil=>intro h;cases h
  | cons a t ih=>
   intro h;cases i with
   | zero=>cases h;exact⟨_,rfl,a.2⟩
   | succ i=>exact ih h
 obtain⟨x,hx,h1,h2⟩:=go r hkv;exact⟨x.2.1,_,by rw[entry_at e i,hx];rfl,rq,h1,h2⟩
theorem Qm {X:Cx} {jb:YC} {U : St} {H:Hp} {s:Shared} {a:Addr} {kvs:YL} {o:Obj} {es:YK} {ep:Nat} (I:Inv X jb U H s) (e:H a=some (.frz o (.dT kvs))) (ho:o.data=.dict es ep) :
  (a == sysModules)=false/\KTr X.prog X.w H kvs es/\Np s.heap a es ep:=by
 obtain⟨h1,_,h2,xs,h3,ob,es',ep',h4,h5,h6,h7,_⟩:=(show Bt X.prog X.w H s.heap a (.frz o (.dT kvs)) from I.hok a _ e)
 have z:=h1.symm.trans h4;cases z;rw[ho] at h6;cases h6;exact⟨h2,Xv h3 h7,o,h1,h5,ho⟩
theorem vh {P:Program} {w:World} {K:YD} {elts:YJ} {k:Nat} {pos:Pos} (a it:Addr) (o:Obj) (kvs:YL) {es:YK} {ep:Nat} (ho:o.data=.dict es ep) (hes:es.size=kvs.length) :
  Turn P w K (.Tuple elts k pos) (pX a o kvs) [it] it (λi h=>∃ok ov,IsItemIter h it a i kvs.length ep ok ov) where
 mem:=by simp
 obj:=λi h st b hb=>by
  have e:b=it:=by simpa using hb
  subst e;obtain⟨ok,ov,q⟩:=st;exact⟨_,q,λv z=>by cases (show Data.fields _=Data.cell v from z)⟩
 keep:=λi h h' st k=>by
  obtain⟨ok,ov,q⟩:=st;exact⟨ok,ov,k it (by simp) _ q⟩
 item:=by
  intro X hP hw hK hc i jb s U H E I hf st hg;subst hP hw hK;obtain⟨hi,hfz⟩:=hg;obtain⟨ok,ov,st⟩:=st;obtain⟨_,⟨hz,rel⟩,da⟩:=Qm I hfz ho;obtain⟨kv,hkv⟩ : ∃kv,kvs[i]?=some kv:=⟨kvs[i],by simp[hi]⟩;obtain⟨b,en,hen,hkey,hb,hval⟩:=rel i kv hkv;rw[<-hes] at st;refine vM st da hen λh' hout htup hkeep=>?_;refine⟨_,rq,wpAny_letOwnedTupleGo_items hout λh2 he2 hs2=>?_⟩;have nit:s.heap.objs.size≠it:=Qcy (Qct st);have new:Bt X.prog X.w (upd H s.heap.objs.size (.tup [.ref b,kv.2])) h2 s.heap.objs.size (.tup [.ref b,kv.2]):=
   ⟨by show 2<=sizeLine;decide,[en.key,en.val],.cons (by rw[hkey];exact rfl) (.cons hval .nil),_,(hs2.2 _ nit).trans htup,rq,0,rq⟩
  have I1:=I.Pz (h':=h2) (t':=s.toks) (QcD _) (λb q hb z=>(hs2.2 b (λw=>hb (by simp[w]))).trans (hkeep b q (λw=>hb (by simp[w])) z)) hf new;refine⟨.ref s.heap.objs.size,_,I1,rq,⟨s.heap.objs.size,b,kv,I.hok.fresh (QcD _),hkv,hb,rq,rq⟩,⟨en.key,en.val,?_⟩,λb hb=>?_⟩
  ·rw[<-hes];exact he2
  ·have z:b=it:=by simpa using hb
   subst z;rw[Aq (Ne.symm nit)];exact (hf b hb).1
 done:=by
  intro X hP hw hK hc i jb s U H E I hf st hg;subst hP hw hK;obtain⟨hi,hfz⟩:=hg;obtain⟨ok,ov,st⟩:=st;obtain⟨_,⟨hz,rel⟩,da⟩:=Qm I hfz ho;rw[<-hes] at st;exact dM (I.ok.hd hc) st da (by simp;omega) λh' ext=>⟨rq,I.N7 (t':=s.toks) (λb ob hb q=>ext b ob (λz=>hb (by simp[z])) q) hf⟩
 self:=λA i s Q E st q=>by
  obtain⟨ok,ov,st⟩:=st;exact aZ st q
def BN (td:TE):TI:=fun U H R=>td U H λx H1=>∃a kvs,x=.ref a/\H1 a=some (.dT kvs)/\∀o,R (pX a o kvs) (upd H1 a (.frz o (.dT kvs)))
theorem ZR {X:Cx} {d:Expr} {td:TE} {elts:YJ} {k:Nat} {tp apos cpos:Pos} (hd:PE X d td) (hbase:attributeBase d "items" X.env (eval d X.env)=eval d X.env:=by rfl) (hline:(apos.endLine == cpos.line)=true:=by rfl) :
  PI X (.Tuple elts k tp) (.Call (.Attribute d "items" apos) [] [] cpos) (BN td):=by
 intro jb s U H R I h;refine wpAny_Call_method0_late hbase hline (thn (hd jb s U H _ I h) λv s1 zz=>?_);obtain⟨x,H1,I1,r1,a,kvs,ex,e,q⟩:=zz;subst ex;cases r1;obtain⟨t1,t2,hsm⟩:=XD I1 (.inr ⟨kvs,.inl e⟩);obtain⟨o,ho,I2⟩:=I1.lN e;obtain⟨_,_,xs,h3,ob,es,ep,h4,h5,h6,h7,_⟩:=(show Bt X.prog X.w H1 s1.heap a (.dT kvs) from I1.hok a _ e)
 rw[ho] at h4;cases h4;have hes:=(Xv h3 h7).1;have da:Np s1.heap a es ep:=⟨o,ho,h5,h6⟩;refine⟨"dict","dict.items",F.plainAttrs_dict,F.slot_dict_items,F.type_dict_items,t1,t2,Calls.callWith_builtin rfl (PySem.evalArgs_none ?_)⟩;refine call_meetsIn F.slot_dict_items t1 F.entry_dict_items (F.args_dict_items_1 _) (qG (es:=es) (ep:=ep) hsm) ⟨da,?_⟩;have hz:(s1.heap.push { cls:=.type "dict_items",data:=.fields #[.ref a] }).objs.size=s1.heap.objs.size+1:=Qce ..;refine YW (d:=a) (es:=es) (ep:=ep) ⟨_,QaP _ rfl,rq,rq⟩ ⟨o,Qaz _ ho,h5,h6⟩ ?_;refine⟨(s1.heap.push { cls:=.type "dict_items",data:=.fields #[.ref a] }).objs.size,[(s1.heap.push { cls:=.type "dict_items",data:=.fields #[.ref a] }).objs.size],_,_,_,rq,
  I2.kept (t':=s1.toks) λb u q=>Qaz _ (Qaz _ q),vh a _ o kvs h6 hes,?_,λb hb=>?_,q o⟩
 ·rw[<-hes];exact⟨_,_,QaP _ rfl⟩
 ·have z:b=(s1.heap.push { cls:=.type "dict_items",data:=.fields #[.ref a] }).objs.size:=by simpa using hb
  have z2:s1.heap.objs.size<=b:=by rw[z,hz];exact QcI _
  exact I2.QT z2 (I2.hok.fresh z2)
theorem iw {a l:Addr} {o:Obj} {kvs:YL} {g:TG} {tt:TT} {te:TE} {Q:VK} {σ0:St} {H0:Hp} (Pv:YN) (h0:Pv 0 σ0 H0) (hl:∀i U H',i<=kvs.length->Pv i U H'->H' a=some (.frz o (.dT kvs)))
  (hs:∀i kv p b U H',kvs[i]?=some kv->Pv i U H'->H' p=none->H' b=some (.tup (kv.1.map kV))->g (.ref p) U (upd H' p (.tup [.ref b,kv.2])) fun σ3 H3=>tt σ3 H3 λb H4=>if b=true then te σ3 H4 λy H5=>∃ys,H5 l=some (.lst ys)/\ys.length < sizeLine/\Pv (i+1) σ3 (upd H5 l (.lst (ys++[y]))) else Pv (i+1) σ3 H4)
  (hd:∀ U H',Pv kvs.length U H'->Q (.ref l) H'):Gs (pX a o kvs) g tt te Q σ0 H0 l:=by
 unfold Gs;refine⟨λi m U H'=>m=kvs.length - i/\i<=kvs.length/\Pv i U H',⟨kvs.length,by simp,QcE _,h0⟩,?_⟩;rintro i m U H' ⟨rfl,hi,p⟩;have q:=hl i U H' hi p;by_cases hlt:i < kvs.length
 ·refine .inr ⟨⟨hlt,q⟩,Pv (i+1),fun σ3 H3 p'=>⟨kvs.length - (i+1),by omega,rq,hlt,p'⟩,λx H2 y=>?_⟩;obtain⟨pa,b,kv,hp,hkv,hb,rfl,rfl⟩:=y;exact hs i kv pa b U H' hkv p hp hb
 ·have e:i=kvs.length:=by omega
  subst e;exact .inl ⟨⟨rq,q⟩,hd U H' p⟩
theorem AQ {prog:Program} {w:World} {d:Addr} {es:YK} {ep:Nat} (lo:(d == sysModules)=false):PySem.W.KdlSrc prog w "dict" d d es.size (λi v=>∃en,es[i]?=some en/\v=en.key) (λh=>Np h d es ep) where
 type:=λ_ ⟨o,ho,hx,_⟩=>⟨o,ho,hx.1⟩
 there:=λ_ ⟨o,ho,_⟩=>⟨Qct ho,Qct ho⟩
 keep:=λ_ _ ⟨o,ho,hx⟩ hk=>⟨o,hk d (.inl rfl) o ho,hx⟩
 notList:=by decide
 notTuple:=by decide
 hint:=λ_ _ _ _ ⟨o,ho,hx,_⟩ hq=>PySem.W.kdl_hint_dict ⟨o,ho,hx.1⟩ hq
 iter:=λA s hh hm=>⟨_,λi h=>h.IsKeyIter s.heap.objs.size d i es.size ep/\Np h d es ep,(λ_ _ hq=>dJ lo hm hq),{
   sub:=λb hb=>by simp at hb;simp[hb]
   frame:=λ_ _ _ st hk=>⟨st.1.at λo e=>hk s.heap.objs.size (by simp) o e,let ⟨o,ho,r⟩:=st.2;⟨o,hk d (by simp) o ho,r⟩⟩
   item:=λi s' Q E hi st hQ=>by
    have hne:d≠s.heap.objs.size:=let ⟨o,ho,_⟩:=hm;Qcu (Qct ho);have hx:es[i]?=some es[i]:=by simp[hi]
    refine dI st.1 st.2 hx λh' hit' hs'=>?_;obtain⟨o,ho,r⟩:=st.2;exact hQ es[i].key h' s'.toks ⟨es[i],hx,rq⟩ ⟨hit',o,hs'.extBut d o hne ho,r⟩ λb o hb e=>hs'.extBut b o (λh=>hb (by simp[h])) e
   done:=λs' Q E st hQ=>kO hh st.1 st.2 (by simp) λh' he'=>hQ h' s'.toks λb o hb e=>he' b o (λh=>hb (by simp[h])) e
   self:=λ_ _ _ _ st hQ=>wpAny_pyIter_keyiter st.1 hQ },⟨⟨_,QaP _ rfl,rq,rq⟩,let ⟨o,ho,r⟩:=hm;⟨o,Qaz _ ho,r⟩⟩⟩
@[irreducible] def Ut:YG->Hp->VK->Prop:=λxs H Q=>∃(a:Addr) (kvs:YL),xs=[.ref a]/\H a=some (.dT kvs)/\∀l bs,H l=none->Paired (λb (kv:List Key×V)=>H b=some (.tup (kv.1.map kV))) bs kvs->Q (.ref l) (upd H l (.lst (bs.map V.ref)))
theorem rJ {a:Addr} {kvs:YL} {H:Hp} {Q:VK} (h:H a=some (.dT kvs)) (q:∀l bs,H l=none->Paired (λb (kv:List Key×V)=>H b=some (.tup (kv.1.map kV))) bs kvs->Q (.ref l) (upd H l (.lst (bs.map V.ref)))):Ut [.ref a] H Q:=by
 unfold Ut;exact⟨a,kvs,rq,h,q⟩
theorem Xy {H:Hp}:∀{kvs:YL} {us:YE},us.length=kvs.length->(∀(j:Nat) (u:Value),us[j]?=some u->∃(kv:List Key×V) (b:Addr),kvs[j]?=some kv/\u=.ref b/\H b=some (.tup (kv.1.map kV)))->∃bs:List Addr,Vals (bs.map V.ref) us/\Paired (λb (kv:List Key×V)=>H b=some (.tup (kv.1.map kV))) bs kvs
 | [],[],_,_=>⟨[],.nil,.nil⟩
 | [],_::_,h,_=>by simp at h
 | _::_,[],h,_=>by simp at h
 | kv::r,u::us,h,g=>by
  obtain⟨bs,h1,h2⟩:=Xy (H:=H) (kvs:=r) (us:=us) (by simpa using h) λj u hu=>by
   obtain⟨kv',b,e,q⟩:=g (j+1) u (by simpa using hu);exact⟨kv',b,by simpa using e,q⟩
  obtain⟨kv',b,e,e2,q⟩:=g 0 u rfl;cases e;exact⟨b::bs,.cons e2 h1,.cons q h2⟩
theorem jL {X:Cx} (hc:X.calm=true):DW X (.type "list") Ut:=by
 intro jb s U H xs us Q I r h;unfold Ut at h;obtain⟨a,kvs,rfl,e,q⟩:=h;obtain⟨u,rfl,rx⟩:=vals1 r;cases rx;obtain⟨z,lo,xs,h3,ob,es,ep,h4,h5,h6,h7,_⟩:=(show Bt X.prog X.w H s.heap a (.dT kvs) from I.hok a _ e)
 obtain⟨hz,rel⟩:=Xv h3 h7;refine PySem.W.kdl_call (AQ (es:=es) (ep:=ep) lo) (I.ok.hd hc) ⟨ob,h4,h5,h6⟩ (by omega) λh' tk acc c' hk hS hacc=>?_;obtain⟨bs,b1,b2⟩:=Xy (H:=H) (kvs:=kvs) (us:=acc.toList) (by rw[QaS,hacc.1,hz]) λj u hu=>by
  obtain⟨en,hen,e2⟩:=hacc.2 j u (by rw[<-Array.getElem?_toList];exact hu);have hj:j < kvs.length:=by
   have:=(Qaf.mp hen).1;omega
  obtain⟨b,en',h8,h9,h10,_⟩:=rel j kvs[j] (Qao hj);rw[hen] at h8;cases h8;exact⟨kvs[j],b,Qao hj,by rw[e2,h9],h10⟩
 have fr:=I.hok.fresh (QcD s.heap.objs.size);refine⟨.ref s.heap.objs.size,_,I.laid (t':=tk) (o:=.lst (bs.map V.ref)) (λb o q=>hk b o q) (QcD _) ?_,rq,q _ bs fr b2⟩;exact⟨by rw[QbM,Qci b2];exact z,acc.toList,c',b1,hS⟩
section
variable {prog:Program} {w:World} {A:Around} {E:YA} {s:Shared} {R:Result->Shared->Prop}
theorem JV {h h':Heap} {k:List Key} {a:Addr} (x:(tupleKind (Bq prog w)).is h k a) (f:∀o,h.get? a=some o->h'.get? a=some o):(tupleKind (Bq prog w)).is h' k a:=by
 obtain⟨o,its,n,h1,r⟩:=x;exact⟨o,its,n,f o h1,r⟩
theorem Z1 {h:Heap} {k:List Key} {a:Addr} (x:(tupleKind (Bq prog w)).is h k a):∃o,h.get? a=some o:=by
 obtain⟨o,its,n,h1,r⟩:=x;exact⟨o,h1⟩
theorem NT {h h':Heap} {d:Addr} {xs:List (List Key×Addr×Value)} (m:h.DictOfH (tupleKind (Bq prog w)) d xs) (f:∀o,h.get? d=some o->h'.get? d=some o) (g:∀x∈xs,∀o,h.get? x.2.1=some o->h'.get? x.2.1=some o):h'.DictOfH (tupleKind (Bq prog w)) d xs:=by
 obtain⟨o,es,ep,h1,h2,h3,h4,h5,h6⟩:=m;exact⟨o,es,ep,f o h1,h2,h3,h4,λx hx=>JV (h5 x hx) (g x hx),h6⟩
theorem iV {xs:List (List Key×Addr×Value)} {k:List Key} (h:∀x∈xs,x.1≠k):atKey xs k=none:=atKey_none_of_get λj p hj=>h _ (QaK hj) rfl
theorem ZD {d it l:Addr} {items:YE} {res:Value} (hu:A.units+1 < cLine) (hh:A.handled=none) (ndi:d≠it) (nld:l≠d) (nli:l≠it):∀(rs:List (Addr×List Key×Addr×Value)) (i:Nat) (acc:List (List Key×Addr×Value)) (s:Shared),s.heap.IsListIter it l i->s.heap.IsList l items.toArray ->
  items.drop i=rs.map (λr=>Value.ref r.1)->(∀r∈rs,s.heap.IsTuple r.1 #[.ref r.2.2.1,r.2.2.2]/\(tupleKind (Bq prog w)).is s.heap r.2.1 r.2.2.1/\(r.1≠d/\r.1≠it)/\r.2.2.1≠d/\r.2.2.1≠it)->(∀x∈acc,x.2.1≠d/\x.2.1≠it)->(acc.map (·.1)++rs.map (·.2.1)).Nodup->s.heap.DictOfH (tupleKind (Bq prog w)) d acc->acc.length+rs.length<=sizeLine ->
  (∀h' tk,h'.DictOfH (tupleKind (Bq prog w)) d (acc++rs.map λr=>(r.2.1,r.2.2.1,r.2.2.2))->(∀b o,b≠d->b≠it->s.heap.get? b=some o->h'.get? b=some o)->R (.ok (.ret res)) { s with heap:=h',toks:=tk }) ->
  codeAny (model prog w) A (.builtin "dict.update.loop" ⟨[.ref d,.ref it,rawInt i,res],[]⟩) R s
 | [],i,acc,s,hit,hl,hd,_,ha,nd,hm,hz,hR=>by
  refine Qcc Jj ?_;rw[Around.under_plainId Ec _];show wpAny _ A.in1 (pyNext (.ref it) >>= _) _ _ s;have hx:items.toArray[i]?=none:=by
   have:items.length<=i:=by simpa using hd
   simp[this]
  refine QcJ (wpAny_pyNext_list_end (show A.in1.handled=none from hh) hit hl hx λh' ex=>?_)
  refine QcJ (QcK ?_);refine QcK ?_;rw[QcA,QbP] at hR;exact hR h' s.toks (NT hm (λo e=>ex _ _ ndi e) λx hx o e=>ex _ _ (ha x hx).2 e) λb o nb nt q=>ex b o nt q
 | (t,k,kb,v)::rs,i,acc,s,hit,hl,hd,hr,ha,nd0,hm,hz,hR=>by
  refine Qcc Jj ?_;rw[Around.under_plainId Ec _];show wpAny _ A.in1 (pyNext (.ref it) >>= _) _ _ s;have hx:items.toArray[i]?=some (.ref t):=by
   have:=congrArg List.head? hd;rw[List.head?_drop] at this;simpa using this
  have hd':items.drop (i+1)=rs.map (λr=>Value.ref r.1):=by
   rw[<-List.tail_drop,hd];rfl
  obtain⟨⟨ot,ho,hc,n,hdt⟩,hk,⟨nd,ni⟩,kd,ki⟩:=hr _ (QaZ ..);refine QcJ (wpAny_pyNext_list_item hit hl hx λh1 hit1 sb1=>?_);have k1:∀b o,b≠it->s.heap.get? b=some o->h1.get? b=some o:=λb o nb q=>(sb1.2 b nb).trans q;refine QcJ (Qcn ?_);refine QcJ (wpAny_tryCatch ?_);have hT:(⟨h1,s.gens,s.drawn,s.toks,s.os⟩ : Shared).TypeIs (.ref t) "tuple":=⟨ot,k1 _ _ ni ho,hc⟩;unfold Builtin.Dict.pairItems;refine QcJ (QcB hT ?_);rw[if_pos (by decide)];refine QcJ (Qch (k1 _ _ ni ho) hdt (QcK ?_));show wpAny _ A.in1 (holding [.ref kb,v] (dictSet d (.ref kb) v)) _ _ _;have hm1:h1.DictOfH (tupleKind (Bq prog w)) d acc:=NT hm (λo e=>k1 _ _ ndi e) λx hx o e=>k1 _ _ (ha x hx).2 e;have hk1:=JV hk λo e=>k1 _ _ ki e;have hnew:atKey acc k=none:=iV λx hx e=>by
   have:=(Qbw.mp nd0).2.2 x.1 (Qcs.mpr ⟨x,hx,rq⟩) k (QaZ ..);exact this e
  have hz0:acc.length+(rs.length+1)<=sizeLine:=hz;refine Qcn (wpAny_dictSet_heap (show (tupleKind (Bq prog w)).room A.in1 from Qbl hu) hk1 hm1 (λh2 hm2 sb2=>?_) (by omega))
  rw[storedH_new hnew] at hm2;have k2:∀b o,b≠d->h1.get? b=some o->h2.get? b=some o:=λb o nb q=>(sb2.2 b nb).trans q;refine QcK ⟨plainId_quiet Ec _,?_⟩;have key:∀j:Int,rawInt (j+1)=rawInt (j+1):=λ_=>rfl;have e1:rawInt ((i:Int)+1)=rawInt ((i+1:Nat):Int):=by rw[Int.natCast_add];rfl
  show codeAny (model prog w) A (.builtin "dict.update.loop" ⟨[.ref d,.ref it,rawInt ((i:Int)+1),res],[]⟩) R _;rw[e1];obtain⟨oi,b1,b2⟩:=hit1;obtain⟨ol,c1,c2⟩:=hl;refine ZD hu hh ndi nld nli rs (i+1) (acc++[(k,kb,v)]) _ ⟨oi,k2 _ _ (Ne.symm ndi) b1,b2⟩ ⟨ol,k2 _ _ nld (k1 _ _ nli c1),c2⟩ hd' (λr hrm=>?_) (λx hx=>?_) ?_ hm2 ?_ λh' tk x y=>hR h' tk (by rw[Qbp] at x;exact x) λb o nb nt q=>y b o nb nt (k2 _ _ nb (k1 _ _ nt q))
  ·obtain⟨⟨ob,d1,d2⟩,d3,⟨d4,d5⟩,d6,d7⟩:=hr r (QaL _ hrm);exact⟨⟨ob,k2 _ _ d4 (k1 _ _ d5 d1),d2⟩,JV d3 λo e=>k2 _ _ d6 (k1 _ _ d7 e),⟨d4,d5⟩,d6,d7⟩
  ·rcases QbO.mp hx with h | h
   ·exact ha x h
   ·have:x=(k,kb,v):=by simpa using h
    rw[this];exact⟨kd,ki⟩
  ·rw[QbN,Qbp];exact nd0
  ·rw[QaY];show acc.length+1+rs.length<=sizeLine;omega
end
section
variable {prog:Program} {w:World} {A:Around} {E:YA} {s:Shared}
theorem bw {l:Addr} {items:YE} {c:Nat} {rs:List (Addr×List Key×Addr×Value)} {Q:YA} (hu:A.units+2 < cLine) (hh:A.handled=none) (hl:s.heap.get? l=some (seqObj "list" items.toArray c)) (hi:items=rs.map (λr=>Value.ref r.1))
  (hr:∀r∈rs,s.heap.IsTuple r.1 #[.ref r.2.2.1,r.2.2.2]/\(tupleKind (Bq prog w)).is s.heap r.2.1 r.2.2.1) (nd:(rs.map (·.2.1)).Nodup) (hz:rs.length<=sizeLine)
  (h:∀d h' tk,s.heap.objs.size<=d->h'.DictOfH (tupleKind (Bq prog w)) d (rs.map λr=>(r.2.1,r.2.2.1,r.2.2.2))->(∀b o,s.heap.get? b=some o->h'.get? b=some o)->Q (.ref d) { s with heap:=h',toks:=tk }) :
  wpAny (model prog w) A (call (.type "dict") [.ref l]) Q E s:=by
 refine callType_codes (Q₁:=λobj s₁=>obj=.ref s.heap.objs.size/\s₁={ s with heap:=s.heap.push { cls:=.type "dict",data:=.dict #[] } }) F.kt_called_dict (F.kt_typeCall_dict_1 _) F.entry_dict_init (kt_code_dict_new _ ⟨rq,rq⟩) ?_;rintro obj s₁ ⟨rfl,rfl⟩;have hnew:(s.heap.push { cls:=.type "dict",data:=.dict #[] }).DictOfH (tupleKind (Bq prog w)) s.heap.objs.size []:=Heap.DictOfH.new s.heap;have k1:∀b o,s.heap.get? b=some o->b≠s.heap.objs.size/\(s.heap.push { cls:=.type "dict",data:=.dict #[] }).get? b=some o:=λb o q=>⟨Qcu (Qct q),Qaz _ q⟩;generalize hd:s.heap.objs.size=d at hnew k1;have ld:s.heap.objs.size<=d:=Nat.le_of_eq hd;generalize s.heap.push { cls:=.type "dict",data:=.dict #[] }=g1 at hnew k1;refine⟨hnew.typeIs,F.args_dict_init_2 _ _,?_⟩;unfold Builtin.«dict.__init__»;refine QcJ ?_;unfold Builtin.Dict.selfAndRest;refine QcJ (wpAny_notOrdered_dict hnew.typeIs ?_);show wpAny _ _ (pure (d,[Value.ref l])) _ _ _;refine QcK ?_;show wpAny _ _ (Builtin.Dict.updateFrom "dict.__init__" d (.ref l) [] .none) _ _ _;unfold Builtin.Dict.updateFrom;have hl1:=(k1 _ _ hl).2;refine QcJ (QcB (show (⟨g1,s.gens,s.drawn,s.toks,s.os⟩ : Shared).TypeIs (.ref l) "list" from⟨_,hl1,rq⟩) ?_)
 rw[if_pos (by decide)];refine QcJ (By (show A.in1.in1.handled=none from hh) hl1 λg2 tk k2=>?_)
 rw[show (none:Option Value).isNone=true from rfl,if_pos rfl]
 refine QcJ (wpAny_rule ?_);have hl2:=k2 _ _ hl1;refine QcJ (Qby (items:=items.toArray) ⟨_,hl2,rq,_,rq⟩ ?_);obtain⟨od,es,ep,a1,a2⟩:=hnew;have nit:∀b o,g2.get? b=some o->b≠g2.objs.size:=λb o q=>Qcu (Qct q);have k3:∀b o,g2.get? b=some o->(g2.push { cls:=.type "list_iterator",data:=.fields #[.ref l,.int 0 0] }).get? b=some o:=λb o q=>Qaz _ q;refine QcK ⟨plainId_quiet Ec _,?_⟩;have kk:∀b o,s.heap.get? b=some o->(b≠d/\b≠g2.objs.size)/\(g2.push { cls:=.type "list_iterator",data:=.fields #[.ref l,.int 0 0] }).get? b=some o:=λb o q=>⟨⟨(k1 _ _ q).1,nit _ _ (k2 _ _ (k1 _ _ q).2)⟩,k3 _ _ (k2 _ _ (k1 _ _ q).2)⟩;refine ZD (items:=items) (show A.in1.units+1 < cLine from hu) (show A.in1.handled=none from hh) (nit _ _ (k2 _ _ a1)) (k1 _ _ hl).1 (nit _ _ hl2) rs 0 [] _ ⟨_,QaP _ rfl,rq,rq⟩ ⟨_,k3 _ _ hl2,rq,_,rq⟩ (by rw[List.drop_zero];exact hi) (λr hrm=>?_) (λx hx=>by cases hx) nd ?_ (by rw[List.length_nil];omega) λh' tk' x y=>⟨rq,h d h' tk' ld x λb o q=>y b o (k1 _ _ q).1 (kk _ _ q).1.2 (kk _ _ q).2⟩
 ·obtain⟨⟨ob,d1,d2⟩,d3⟩:=hr r hrm;obtain⟨oo,e0⟩:=Z1 d3;exact⟨⟨ob,(kk _ _ d1).2,d2⟩,JV d3 λo e=>(kk _ _ e).2,(kk _ _ d1).1,(kk _ _ e0).1⟩
 ·exact⟨od,es,ep,k3 _ _ (k2 _ _ a1),a2.1,a2.2.1,a2.2.2.1,(λx hx=>by cases hx),Qcf⟩
end
def Jz (H:Hp) (v:V) (r:List Key×V):Prop:=∃t b,v=.ref t/\H t=some (.tup [.ref b,r.2])/\H b=some (.tup (r.1.map kV))
theorem V4 {P:Program} {w:World} {H:Hp} {h:Heap} (ok:HOk P w H h):∀{vs:YG} {rows:YL} {us:YE},Paired (Jz H) vs rows->Vals vs us ->
  ∃rs:List (Addr×List Key×Addr×Value),us=rs.map (λr=>Value.ref r.1)/\(∀r∈rs,h.IsTuple r.1 #[.ref r.2.2.1,r.2.2.2]/\(tupleKind (Bq P w)).is h r.2.1 r.2.2.1)/\Paired (λ(p:List Key×V) (q:List Key×Addr×Value)=>p.1=q.1/\H q.2.1=some (.tup (p.1.map kV))/\RelV p.2 q.2.2) rows (rs.map λr=>(r.2.1,r.2.2.1,r.2.2.2))/\rs.length=rows.length/\rs.map (·.2.1)=rows.map (·.1)
 | _,_,_,.nil,.nil=>⟨[],rfl,(λ_ h=>by cases h),.nil,rfl,rfl⟩
 | _,_,_,.cons (b:=row) ⟨t,b,e,ht,hb⟩ p,.cons r q=>by
  obtain⟨rs,h1,h2,h3,h4,h5⟩:=V4 ok p q;subst e;cases r;obtain⟨_,its,rv,o,ho,hc,n,hd⟩:=ok t _ ht;cases rv with
  | cons a1 rv=>
   rename_i u1 us1;cases rv with
   | cons a2 rv=>
    rename_i u2 us2;cases rv;cases (show u1=Value.ref b from a1)
    refine⟨(t,row.1,b,u2)::rs,by rw[h1];rfl,λr hr=>?_,.cons ⟨rq,hb,a2⟩ h3,by rw[QbC,h4];rfl,by rw[Qck,h5];rfl⟩;rcases Qcj.mp hr with e | e
    ·rw[e];exact⟨⟨o,ho,hc,n,hd⟩,KZ ok hb⟩
    ·exact h2 r e
def AT:YG->Hp->VK->Prop:=λxs H Q=>∃l vs rows,xs=[.ref l]/\H l=some (.lst vs)/\Paired (Jz H) vs rows/\(rows.map (·.1)).Nodup/\rows.length < 1000/\∀d,H d=none->Q (.ref d) (upd H d (.dT rows))
theorem Vw {X:Cx} (hu:X.A.units+64 < cLine) (hc:X.calm=true):DW X (.type "dict") AT:=by
 intro jb s U H xs us Q I r h;obtain⟨l,vs,rows,rfl,hl,pr,nd,hz,q⟩:=h;obtain⟨u,rfl,rx⟩:=vals1 r;cases rx;obtain⟨_,its,n,rv,ho⟩:=(show Bt X.prog X.w H s.heap l (.lst vs) from I.hok l _ hl)
 obtain⟨rs,h1,h2,h3,h4,h5⟩:=V4 I.hok pr rv;have zz:rows.length<=sizeLine:=Qcx (Am (Qcx hz));refine bw (by omega) (I.ok.hd hc) ho h1 h2 (by rw[h5];exact nd) (by rw[h4];exact zz) λd h' tk ld hd kp=>?_;have fr:=I.hok.fresh ld;have hb:=I.big;obtain⟨o,es,ep,g1,g2,g3,g4,_,g6⟩:=hd;refine⟨.ref d,_,I.laid (t':=tk) (o:=.dT rows) kp ld ⟨zz,QaQ.mpr (Qcy (Qbd hb ld)),_,Paired.Aw h3 λx y hxy=>⟨hxy.1,?_,hxy.2.2⟩,o,es,ep,g1,g2,g3,g4,g6⟩,rq,q d fr⟩;rw[Aq (Ax hxy.2.1 fr)];exact hxy.2.1
open PySem.W (KasT kas_asc kas_desc kas_rev kas_tail3 kas_descPart kas_count kas_place kas_bin kas_sort)
structure C3 (a b c k:Int):Prop where
 b0:0<=b
 b1:b < 100
 c0:0<=c
 c1:c < 100
 k:k=a*10000+b*100+c
def X5 (K:YD) (H:Hp) (v:V) (k:Int):Prop:=∃t a b c,v=.ref t/\SqT K H t [.int a,.int b,.int c]/\C3 a b c k
theorem zE {K:YD} {H:Hp}:∀{vs:YG} {ks:List Int},Paired (X5 K H) vs ks->pU K H vs
 | _,_,.nil,_,h=>nomatch h
 | _,_,.cons x r,v,h=>by
  rcases Qcj.mp h with rfl | h
  ·obtain⟨t,a,b,c,e,q,_⟩:=x;exact⟨t,[a,b,c],e,q,Nat.succ_pos _⟩
  ·exact zE r v h
section
variable {prog:Program} {w:World} {A:Around} {s:Shared}
theorem Mn {fin:Bool} {C:Bool->Shared->Prop} {a b c k a' b' c' k':Int} {t1 t2 t3 u1 u2 u3:Tok} (x:C3 a b c k) (y:C3 a' b' c' k') (ne:k≠k') (hC:C (decide (k < k')) s):PySem.W.KatLex prog w A true fin C ([Value.int a t1,Value.int b t2,Value.int c t3].zip [Value.int a' u1,Value.int b' u2,Value.int c' u3]) 0 s:=by
 have x1:=x.b0;have x2:=x.b1;have x3:=x.c0;have x4:=x.c1;have x5:=x.k;have y1:=y.b0;have y2:=y.b1;have y3:=y.c0;have y4:=y.c1;have y5:=y.k;rw[List.zip_cons_cons];refine kat_cons (wpAny_eqBool_int ?_);by_cases ha:a=a'
 ·rw[show (a == a')=true by rw[ha];exact beq_self_eq_true a'];refine PySem.W.kat_yes ?_;rw[List.zip_cons_cons];refine kat_cons (wpAny_eqBool_int ?_);by_cases hb:b=b'
  ·rw[show (b == b')=true by rw[hb];exact beq_self_eq_true b'];refine PySem.W.kat_yes ?_;rw[List.zip_cons_cons];refine kat_cons (wpAny_eqBool_int ?_);have hc:c≠c':=λz=>ne (by rw[x5,y5,ha,hb,z]);rw[show (c == c')=false from QaQ.mpr hc]
   refine PySem.W.kat_no (PySem.W.kat_one _ _ (lt_int ?_));rw[show decide (c < c')=decide (k < k') by rw[QbV,Qbg,Qbg];subst ha hb;constructor <;> intro h <;> omega];exact hC
  ·rw[show (b == b')=false from QaQ.mpr hb]
   refine PySem.W.kat_no (PySem.W.kat_one _ _ (lt_int ?_));rw[show decide (b < b')=decide (k < k') by rw[QbV,Qbg,Qbg];subst ha;constructor <;> intro h <;> omega];exact hC
 ·rw[show (a == a')=false from QaQ.mpr ha]
  refine PySem.W.kat_no (oneLt_int ?_);rw[show decide (a < a')=decide (k < k') by rw[QbV,Qbg,Qbg];constructor <;> intro h <;> omega];exact hC
end
@[irreducible] def Xg (K:YD):YG->Hp->VK->Prop:=λxs H Q=>∃(p:Addr) (vs:YG) (ks:List Int),xs=[.ref p]/\SqL K H p vs/\vs.length < 64/\Paired (X5 K H) vs ks/\ks.Nodup /\
 ∀(is:List Nat) l,is.Perm (List.range vs.length)->(is.map λi=>ks.getD i 0).Pairwise (· < ·)->H l=none->Q (.ref l) (upd H l (.lst (is.map λi=>vs.getD i .non)))
theorem VL {K:YD} {p:Addr} {vs:YG} {ks:List Int} {H:Hp} {Q:VK} (h1:SqL K H p vs) (h2:vs.length < 64) (h3:Paired (X5 K H) vs ks) (h4:ks.Nodup)
  (q:∀(is:List Nat) l,is.Perm (List.range vs.length)->(is.map λi=>ks.getD i 0).Pairwise (· < ·)->H l=none->Q (.ref l) (upd H l (.lst (is.map λi=>vs.getD i .non)))):Xg K [.ref p] H Q:=by
 unfold Xg;exact⟨p,vs,ks,rq,h1,h2,h3,h4,q⟩
theorem Pr {X:Cx}:DW X (.builtin "sorted") (Xg X.K):=by
 intro jb s U H xs us Q I r h;unfold Xg at h;obtain⟨p,vs,ks,rfl,hq,h64,hK,hnd,q⟩:=h;have hR:pU X.K H vs:=zE hK;have hkl:vs.length=ks.length:=Qci hK;obtain⟨u,rfl,rx⟩:=vals1 r;cases rx;obtain⟨its,rv,pl,hz⟩:=I.list hq;have hlen:vs.length=its.length:=rv.length;by_cases h2:2<=its.length
 ·obtain⟨m,hn,_⟩:=id I.loc;refine PySem.W.kat_sorted (Att.FD hn) (wN (g:=Att.Xp s.heap) (h:=s.heap) (L:=X.env.locals)) pl.isList h2 (by omega) λD e1 h' F' N' hD=>?_;have kp:∀b o,b≠X.env.locals->s.heap.get? b=some o->h'.get? b=some o:=λb o hb e=>(N' (b,o) (QaL _ (QG hb (Att.NK _ _) e))).1;have nl:∀b,H b≠none\/(∃u,X.base.get? b=some u)->b≠X.env.locals:=λb hb z=>by
   rcases hb with hb |⟨u,hb⟩
   ·exact hb (by rw[z];exact I.free)
   ·have:=Qct hb;rw[z] at this;exact absurd (Qbd this (Qcv I.ok.bsz I.ok.above)) (Qcm _)
  obtain⟨fs,f1,f2,f3⟩:=lD (h':=h') I (λb o hb e=>kp b o (nl b hb) e) rv hR;refine PySem.W.kat_kind f1 (by omega) (λv hv=>by obtain⟨i,t,rfl⟩:=f3 v hv;exact PySem.W.Looks.of_pure rfl) (T:=.type "int") (by decide) ?_;have inj:Inj its.length (λi=>ks.getD i 0):=λi j hi hj e=>by
   have e:ks.getD i 0=ks.getD j 0:=e;have e1:ks.getD i 0=ks[i]'(by omega):=by simp[show i < ks.length by omega]
   have e2:ks.getD j 0=ks[j]'(by omega):=by simp[show j < ks.length by omega]
   rw[e1,e2] at e;exact rD hnd _ _ e
  have hp:=Wg (lt:=ltK λi=>ks.getD i 0) _ (iZ (n:=its.length) (by omega));have NP:=Ml.list hp (vH inj h2);refine lE (lt:=ltK λi=>ks.getD i 0) (n:=its.length) (λi j C hi hj hC=>?_) _ (iZ (by omega)) ?_
  ·have zx:∀i,i < its.length->∃(x:Addr) (ox:Obj) (ws:Array Value) (n:Nat),its.getD i Value.none=.ref x/\h'.get? x=some ox/\ox.data=.seq ws n/\(∃a b c t1 t2 t3,ws.toList=[Value.int a t1,Value.int b t2,Value.int c t3]/\C3 a b c (ks.getD i 0))/\∀y∈ws.toList,∃a t,y=Value.int a t:=λi hi=>by
    have hvi:i < vs.length:=by omega
    obtain⟨u,hu,ru⟩:=rv.get (x:=vs[i]) (i:=i) (by simp[hvi]);obtain⟨tp,ka,kb,kc,e,hq',hC3⟩:=ju V.non (0:Int) hK hvi;have hq':SqT X.K H tp (([ka,kb,kc]:List Int).map V.int):=hq';have ev:vs.getD i V.non=vs[i]:=by simp[hvi]
    rw[ev] at e;rw[e] at ru;cases ru;obtain⟨ws,rw',⟨o,ho,hc,n,hd⟩,_⟩:=I.tuple hq';have go:∀{ns:List Int} {ws:YE},Vals (ns.map V.int) ws->∀y∈ws,∃a t,y=Value.int a t:=by
     intro ns
     induction ns with
     | nil=>intro ws r;cases r;exact λy hy=>nomatch hy
     | cons n0 nr ih=>
      intro ws r;cases r with
      | cons r0 rr=>
       intro y hy;rcases Qcj.mp hy with rfl | hy
       ·obtain⟨t,e⟩:=r0;exact⟨_,_,e⟩
       ·exact ih rr y hy
    refine⟨tp,o,ws.toArray,n,?_,kp tp o (nl tp ?_) ho,hd,?_,λy hy=>go rw' y (by simpa using hy)⟩
    ·rw[List.getD_eq_getElem?_getD,hu];rfl
    ·rcases hq' with (z |⟨_,z⟩) |⟨_,_,_,z,_⟩
     ·exact .inl (by rw[z];exact λz=>nomatch z)
     ·exact .inl (by rw[z];exact λz=>nomatch z)
     ·exact .inr ⟨_,I.mod.kin _ _ z⟩
    ·cases rw' with
     | cons r0 rr=>
      cases rr with
      | cons r1 rr=>
       cases rr with
       | cons r2 rr=>
        cases rr;obtain⟨t0,e0⟩:=r0;obtain⟨t1,e1⟩:=r1;obtain⟨t2,e2⟩:=r2;exact⟨ka,kb,kc,t0,t1,t2,by rw[e0,e1,e2],hC3⟩
   obtain⟨x,ox,wx,nx,ex,hx,dx,⟨xa,xb,xc,x1,x2,x3,fx,cx⟩,ix⟩:=zx i hi;obtain⟨y,oy,wy,ny,ey,hy,dy,⟨ya,yb,yc,y1,y2,y3,fy,cy⟩,iy⟩:=zx j hj;unfold PySem.W.kas_ask;rw[ex,ey];refine PySem.W.kat_lt hx dx hy dy ?_;by_cases ne:i=j
   ·subst ne;rw[ex] at ey;cases ey;rw[hx] at hy;cases hy;rw[dx] at dy;cases dy;have e0:ltK (λi=>ks.getD i 0) i i=false:=QbR (Int.lt_irrefl _);rw[e0] at hC;have e1:decide (wx.size < wx.size)=false:=QbR (Qcm _);rw[e1];exact Ex hC _ ix 0
   ·rw[fx,fy];exact Mn cx cy (λz=>ne (inj i j hi hj z)) hC
  ·refine PySem.W.KasFin.intro F' N' (.head λq hq=>Qcu (hD q hq)) λh2' c F2 N2=>?_;generalize Gj (ltK λi=>ks.getD i 0) (kas_sort its.length)=pp at hp NP N2 ⊢;have kp2:∀b o,b≠X.env.locals->s.heap.get? b=some o->h2'.get? b=some o:=λb o hb e=>(N2 (b,o) (QaL _ (QG hb (Att.NK _ _) e))).1;obtain⟨oD,DL,_⟩:=N2 (D,_) (QaZ ..);have nD:∀b o,s.heap.get? b=some o->b≠D:=λb o e z=>by
    by_cases hb:b=X.env.locals
    ·exact DL (by rw[<-z];exact hb)
    ·have:=hD (b,o) (QG hb (Att.NK _ _) e);rw[z] at this;exact Qcm _ this
   have hDn:H D=none:=by
    cases e:H D with
    | none=>rfl
    | some v=>
     obtain⟨o,ho⟩:=(I.hok D v e).there;exact absurd rfl (nD D o ho)
   have tr:∀(o:HO) b u,H b=some u->(upd H D o) b=some u:=λo b u e=>by rw[Aq (Ax e hDn)];exact e
   have hmem:∀i∈pp.toList,i < vs.length:=λi hi=>by rw[hlen];exact Qcg.mp (hp.mem_iff.mp hi)
   have rv2:Vals (pp.toList.map λi=>vs.getD i .non) (pp.toList.map λi=>its.getD i Value.none):=ZS V.non Value.none rv hmem;have pm:(pp.toList.map λi=>vs.getD i .non).Perm vs:=by
    have:=hp.map λi=>vs.getD i V.non;rw[<-hlen,range_getD] at this;exact this
   have I2:Inv X jb U (upd H D (.lst (pp.toList.map λi=>vs.getD i .non))) { s with heap:=h2' }:=by
    refine I.step (h':=h2') (g':=s.gens) (d':=s.drawn) (t':=s.toks) (ch:=[]) (λb hb=>absurd hb (by simp)) (λb u hb _ _ e _=>kp2 b u hb e) (λb u hb _ _ e _=>⟨u.slots,kp2 b u hb e⟩) (λb u _ e n=>by rw[Aq (nD b u e)];exact n)
     (λb u _ e=>?_) (λb ys e=>tr _ _ _ e) (λb u v e=>tr _ _ _ e) (λb ps e=>⟨#[],by rw[tr _ _ _ e];simp⟩) (λm' hm'=>by rw[Be hm' hn];exact F2.ns) (λb u e=>?_) I.bare
    ·by_cases hb:b=X.env.locals
     ·obtain⟨o,_,_,ho,_⟩:=F2.ns;exact⟨o,by rw[hb];exact ho⟩
     ·exact⟨u,kp2 b u hb e⟩
    ·by_cases hb:b=D
     ·subst hb;rw[Ab] at e;cases e;exact⟨by rw[pm.length_eq];exact Qcx (Am (by omega)),_,c,rv2,oD⟩
     ·rw[Aq hb] at e;refine (I.hok b u e).stay (λx v hx e1=>kp2 x v ?_ e1) (λx e1=>tr _ _ _ e1) λx ys e1=>tr _ _ _ e1;intro z;rcases hx with hx | hx
      ·rw[<-hx,z,I.free] at e;cases e
      ·rw[z,I.free] at hx;cases hx
   exact⟨.ref D,_,I2,rq,q _ D (by rw[hlen];exact hp) NP hDn⟩
 ·refine cQ pl.isList (by omega) λD h' c hD oD kp=>?_;refine⟨.ref D,_,I.laid (t':=s.toks) (o:=.lst vs) kp hD ?_,rq,?_⟩
  ·exact⟨Qcx (Am (by omega)),its,c,rv,oD⟩
  ·have z:=q (List.range vs.length) D (List.Perm.refl _) (by
    rw[hkl,range_getD]
    match ks,(show ks.length < 2 by omega) with
    | [],_=>exact List.Pairwise.nil
    | [k],_=>exact Qay _ _) (I.hok.fresh hD)
   rw[range_getD] at z;exact z
end L2
namespace L2
open PySem PySem.Spec PyProof.Rows
def jf (lo st:Int) (n:Nat):It:=⟨λi _=>i < n,λi H x H'=>H'=H/\x=.int (lo+(i:Int)*st),λi _=>n<=i⟩
theorem jo {P:Program} {w:World} {K:YD} {tg:Expr} (it:Addr) (lo c:Int) (n:Nat):Turn P w K tg (jf lo c n) [it] it (λi h=>IsRangeIter h it (lo+(i:Nat)*c) ((n:Int) - (i:Nat)) c) where
 mem:=by simp
 obj:=λi h st b hb=>by
  have e:b=it:=by simpa using hb
  subst e;exact⟨_,st,λv z=>by
   have z':Data.fields _=Data.cell v:=z;cases z'⟩
 keep:=λi h h' st k=>k it (by simp) _ st
 item:=by
  intro X hP hw hK hc i jb s U H E I hf st hg;subst hP hw hK;obtain⟨f0,f1,f2,f3,f4,f5⟩:=hf it (by simp);have W:=Walks.range (prog:=X.prog) (w:=X.w) (I.ok.hd hc) it lo c n;refine W.item i s _ _ hg st λv h' tk hv st' kk=>?_;obtain⟨t,rfl⟩:=hv;have I1:Inv X jb U H { s with heap:=h',toks:=tk }:=I.turned (λb o hb e=>kk b o (by simpa using hb) e) f0 f1 f3 f4 f5;exact⟨_,rq,U7 (s:={ s with heap:=h',toks:=tk }) (n:="range_iterator") st' rfl rfl (by decide) ⟨.int (lo+i*c),H,I1,⟨t,rq⟩,⟨rq,rq⟩,st',λb hb=>(hf b hb).1⟩⟩
 done:=by
  intro X hP hw hK hc i jb s U H E I hf st hg;subst hP hw hK;obtain⟨f0,f1,f2,f3,f4,f5⟩:=hf it (by simp);exact wpAny_pyNext_range_end (I.ok.hd hc) st (by have:n<=i:=hg;omega) λh' eb=>⟨rq,I.turned (t':=s.toks) (λb o hb e=>eb b o hb e) f0 f1 f3 f4 f5⟩
 self:=λ_ _ _ _ _ st h=>wpAny_pyIter_rangeiter st h
theorem RP (a b:Int):Builtin.Range.rangeSize a b (-1)=if b < a then a - b else 0:=by
 unfold Builtin.Range.rangeSize;rw[if_neg (by decide:¬(-1:Int) > 0),show (-(-1):Int)=1 from rfl,Int.ediv_one]
 by_cases h:b < a
 ·rw[if_pos h,if_pos (show a > b from h)];omega
 ·rw[if_neg h,if_neg (show ¬a > b from h)]
theorem qw {a b:Int} (ha:-1000<=a) (ha':a<=1000) (hb:-1000<=b) (hb':b<=1000):Builtin.Range.small a b (-1)=true:=by
 unfold Builtin.Range.small;rw[RP];simp only[Builtin.Range.rangeFitsLong,QbI,Bool.or_eq_true,decide_eq_true_eq,beq_iff_eq,show ¬((-1:Int) > 0) by decide,if_false];split <;> omega
section
variable {X:Cx} {tg:Expr}
def Id (ta:TA):TI:=fun U H R=>ta U H λvs H1=>∃i j c:Int,vs=[.int i,.int j,.int c]/\(c=1\/c=-1)/\(-1000<=i/\i<=1000/\-1000<=j/\j<=1000)/\R (jf i c (if c=1 then (j - i).toNat else (i - j).toNat)) H1
theorem qM {a b d:Expr} {ta:TA} {p pos:Pos} (hg:Gl X "range") (hm:X.mg "range"=none) (ha:PA X [a,b,d] ta) (hs:starEach [a,b,d] X.env=[(false,eval a X.env),(false,eval b X.env),(false,eval d X.env)]:=by rfl) (hs2:starEach [b,d] X.env=[(false,eval b X.env),(false,eval d X.env)]:=by rfl) :
  PI X tg (.Call (.Name "range" p) [a,b,d] [] pos) (Id ta):=by
 intro jb s U H R I h;refine Call_ (Jy I hg hm boot_range (Qae (thn (ha pos jb s U H _ I h) λus s1 zz=>?_) (by rw[hs,hs2]) (by rw[hs2];rfl)));obtain⟨vs,H1,I1,r1,q1⟩:=zz;obtain⟨i,j,c,e,hc,⟨b1,b2,b3,b4⟩,q⟩:=q1;subst e;cases r1 with
 | cons r rr=>
  cases rr with
  | cons r' rr=>
   cases rr with
   | cons r'' rr=>
    cases rr;obtain⟨t,rfl⟩:=r;obtain⟨u,rfl⟩:=r';obtain⟨v,rfl⟩:=r'';have hsm:Builtin.Range.small i j c=true:=by
     rcases hc with rfl | rfl
     ·exact small_one (by omega) (by omega) (by omega) (by omega)
     ·exact qw (by omega) (by omega) (by omega) (by omega)
    have hsz:Builtin.Range.rangeSize i j c=((if c=1 then (j - i).toNat else (i - j).toNat:Nat):Int):=by
     rcases hc with rfl | rfl
     ·rw[rangeSize_one];split <;> simp <;> omega
     ·rw[RP,if_neg (by decide:¬(-1:Int)=1)];split <;> omega
    refine call_range_3 (by rcases hc with rfl | rfl <;> decide) ?_ (Or.inl (PyProof.noPylong_small (by omega)));refine wpAny_pyIter_range (IsRange.new ..) hsm ?_;have I2:Inv X jb U H1 { s1 with heap:=s1.heap.push { cls:=.type "range",data:=.fields #[.int i t,.int j u,.int c v] },toks:=s1.toks }:=I1.kept λb o e=>Qaz _ e;refine⟨(s1.heap.push { cls:=.type "range",data:=.fields #[.int i t,.int j u,.int c v] }).objs.size,[(s1.heap.push { cls:=.type "range",data:=.fields #[.int i t,.int j u,.int c v] }).objs.size],_,_,H1,rq,I2.kept (t':=s1.toks) λb o e=>Qaz _ e,jo _ i c _,?_,λb hb=>?_,q⟩
    ·show IsRangeIter _ _ (i+((0:Nat):Int)*c) (((if c=1 then (j - i).toNat else (i - j).toNat:Nat):Int) - ((0:Nat):Int)) c
     rw[<-hsz];simp only[Int.natCast_zero,Int.zero_mul,Int.add_zero,Int.sub_zero];exact QaP _ rfl
    ·have e:b=(s1.heap.push { cls:=.type "range",data:=.fields #[.int i t,.int j u,.int c v] }).objs.size:=by simpa using hb
     subst e;exact I2.QT (QcD _) (I2.hok.fresh (QcD _))
end
open PySem.W (KasT kas_asc kas_desc kas_rev kas_tail3 kas_descPart kas_count kas_place kas_bin kas_sort)
section
variable {prog:Program} {w:World} {A:Around} {s:Shared}
end
theorem pJ {lo c:Int} {n:Nat} {g:TG} {tb:TS} {D:Ends} {U : St} {H:Hp} (Pv:YN) (h0:Pv 0 U H)
  (hs:∀i U H,i < n->Pv i U H->g (.int (lo+(i:Int)*c)) U H fun σ2 H2=>tb { D with nx:=Pv (i+1),ct:=Pv (i+1),bk:=D.nx } σ2 H2) (hd:∀ U H,Pv n U H->D.nx U H) :
  ∃W:Nat->YN,(∃m,W 0 m U H)/\∀i m U H,W i m U H ->
   ((jf lo c n).stop i H/\D.nx U H)\/((jf lo c n).go i H/\∃N:YO,(∀ σ' H',N σ' H'->∃m',m' < m/\W (i+1) m' σ' H')/\∀x H',(jf lo c n).yld i H x H'->g x U H' fun σ2 H2=>tb { D with nx:=N,ct:=N,bk:=D.nx } σ2 H2):=by
 refine⟨λi m U H=>m=n - i/\i<=n/\Pv i U H,⟨n,by simp,QcE _,h0⟩,?_⟩;rintro i m U H ⟨rfl,hi,p⟩;by_cases hlt:i < n
 ·refine .inr ⟨hlt,Pv (i+1),fun σ' H' p'=>⟨n - (i+1),by omega,rq,hlt,p'⟩,λx H' y=>?_⟩;obtain⟨rfl,rfl⟩:=y;exact hs i U _ hlt p
 ·have e:i=n:=by omega
  subst e;exact .inl ⟨QcD _,hd U H p⟩
end L2
namespace L2
open PySem PySem.Spec PyProof.Rows
def Ve (a:Addr) (o:Obj) (kvs:YL):It:=
 ⟨λi H=>i < kvs.length/\H a=some (.frz o (.dT kvs)),λi H x H'=>H'=H/\∃b kv,kvs[i]?=some kv/\H b=some (.tup (kv.1.map kV))/\x=.ref b,λi H=>i=kvs.length/\H a=some (.frz o (.dT kvs))⟩
theorem vg {P:Program} {w:World} {K:YD} {tg:Expr} (a it:Addr) (o:Obj) (kvs:YL) {es:YK} {ep:Nat} (ho:o.data=.dict es ep) (hes:es.size=kvs.length):Turn P w K tg (Ve a o kvs) [it] it (λi h=>h.IsKeyIter it a i kvs.length ep) where
 mem:=by simp
 obj:=λi h st b hb=>by
  have e:b=it:=by simpa using hb
  subst e;obtain⟨oi,q,c,d⟩:=st;exact⟨oi,q,λv z=>by rw[d] at z;cases z⟩
 keep:=λi h h' st k=>st.at λob q=>k it (by simp) ob q
 item:=by
  intro X hP hw hK hc i jb s U H E I hf st hg;subst hP hw hK;obtain⟨hi,hfz⟩:=hg;obtain⟨_,⟨hz,rel⟩,da⟩:=Qm I hfz ho;obtain⟨kv,hkv⟩ : ∃kv,kvs[i]?=some kv:=⟨kvs[i],by simp[hi]⟩;obtain⟨b,en,hen,hkey,hb,hval⟩:=rel i kv hkv;rw[<-hes] at st;refine dI st da hen λh' st' sb=>?_;have I1:Inv X jb U H { s with heap:=h' }:=I.N7 (t':=s.toks) (λb ob hb q=>(sb.2 b (λz=>hb (by simp[z]))).trans q) hf;obtain⟨oi,q,c,d⟩:=id st';rw[hes] at st';exact⟨en.key,rq,U7 (s:={ s with heap:=h' }) q c d (by decide) ⟨.ref b,H,I1,by rw[hkey];exact rfl,⟨rq,b,kv,hkv,hb,rq⟩,st',λb hb=>(hf b hb).1⟩⟩
 done:=by
  intro X hP hw hK hc i jb s U H E I hf st hg;subst hP hw hK;obtain⟨hi,hfz⟩:=hg;obtain⟨_,⟨hz,rel⟩,da⟩:=Qm I hfz ho;rw[<-hes] at st;exact kO (I.ok.hd hc) st da (by simp;omega) λh' ext=>⟨rq,I.N7 (t':=s.toks) (λb ob hb q=>ext b ob (λz=>hb (by simp[z])) q) hf⟩
 self:=λA i s Q E st q=>wpAny_pyIter_keyiter st q
def EK (td:TE):TI:=fun U H R=>td U H λx H1=>∃a kvs,x=.ref a/\H1 a=some (.dT kvs)/\∀o,R (Ve a o kvs) (upd H1 a (.frz o (.dT kvs)))
theorem d8 {X:Cx} {tg d:Expr} {td:TE} (hd:PE X d td):PI X tg d (EK td):=by
 intro jb s U H R I h;refine thn (hd jb s U H _ I h) λv s1 zz=>?_;obtain⟨x,H1,I1,r1,a,kvs,ex,e,q⟩:=zz;subst ex;cases r1;obtain⟨t1,t2,hsm⟩:=XD I1 (.inr ⟨kvs,.inl e⟩);obtain⟨o,ho,I2⟩:=I1.lN e;obtain⟨_,_,xs,h3,ob,es,ep,h4,h5,h6,h7,_⟩:=(show Bt X.prog X.w H1 s1.heap a (.dT kvs) from I1.hok a _ e)
 rw[ho] at h4;cases h4;have hes:=(Xv h3 h7).1;have da:Np s1.heap a es ep:=⟨o,ho,h5,h6⟩;refine dJ hsm da ?_;refine⟨s1.heap.objs.size,[s1.heap.objs.size],_,_,_,rq,I2.kept (t':=s1.toks) λb u q=>Qaz _ q,vg a _ o kvs h6 hes,?_,λb hb=>?_,q o⟩
 ·rw[<-hes];exact⟨_,QaP _ rfl,rq,rq⟩
 ·have z:b=s1.heap.objs.size:=by simpa using hb
  subst z;exact I2.QT (QcD _) (I2.hok.fresh (QcD _))
section
variable {a l:Addr} {o:Obj} {kvs:YL} {g:TG} {tt:TT} {tk tv:TE} {tb:TS} {Q:VK} {D:Ends} {U : St} {H:Hp}
theorem To (Pv:YN) (h0:Pv 0 U H) (hl:∀i U H',i<=kvs.length->Pv i U H'->H' a=some (.frz o (.dT kvs)))
  (hs:∀i kv b U H',kvs[i]?=some kv->Pv i U H'->H' b=some (.tup (kv.1.map kV))->g (.ref b) U H' fun σ2 H2=>tb { D with nx:=Pv (i+1),ct:=Pv (i+1),bk:=D.nx } σ2 H2) (hd:∀ U H',Pv kvs.length U H'->D.nx U H') :
  ∃W:Nat->YN,(∃m,W 0 m U H)/\∀i m U H,W i m U H ->
   ((Ve a o kvs).stop i H/\D.nx U H)\/((Ve a o kvs).go i H/\∃N:YO,(∀ σ' H',N σ' H'->∃m',m' < m/\W (i+1) m' σ' H')/\∀x H',(Ve a o kvs).yld i H x H'->g x U H' fun σ2 H2=>tb { D with nx:=N,ct:=N,bk:=D.nx } σ2 H2):=by
 refine⟨λi m U H=>m=kvs.length - i/\i<=kvs.length/\Pv i U H,⟨kvs.length,by simp,QcE _,h0⟩,?_⟩;rintro i m U H ⟨rfl,hi,p⟩;have q:=hl i U H hi p;by_cases hlt:i < kvs.length
 ·refine .inr ⟨⟨hlt,q⟩,Pv (i+1),fun σ' H' p'=>⟨kvs.length - (i+1),by omega,rq,hlt,p'⟩,λx H' y=>?_⟩;obtain⟨rfl,b,kv,hkv,hb,rfl⟩:=y;exact hs i kv b U _ hkv p hb
 ·have e:i=kvs.length:=by omega
  subst e;exact .inl ⟨⟨rq,q⟩,hd U H p⟩
theorem Z9 {σ0:St} {H0:Hp} (Pv:YN) (h0:Pv 0 σ0 H0) (hl:∀i U H',i<=kvs.length->Pv i U H'->H' a=some (.frz o (.dT kvs)))
  (hs:∀i kv b U H',kvs[i]?=some kv->Pv i U H'->H' b=some (.tup (kv.1.map kV))->g (.ref b) U H' fun σ3 H3=>tt σ3 H3 λc H4=>if c=true then tk σ3 H4 λy H5=>tv σ3 H5 λz H6=>∃(ks:YL) (k:List Key) (b:Addr),H6 l=some (.dT ks)/\y=.ref b/\H6 b=some (.tup (k.map kV))/\ks.length < sizeLine/\Pv (i+1) σ3 (upd H6 l (.dT (putK ks k z))) else Pv (i+1) σ3 H4)
  (hd:∀ U H',Pv kvs.length U H'->Q (.ref l) H'):Rb (Ve a o kvs) g tt tk tv Q σ0 H0 l:=by
 unfold Rb;refine⟨λi m U H'=>m=kvs.length - i/\i<=kvs.length/\Pv i U H',⟨kvs.length,by simp,QcE _,h0⟩,?_⟩;rintro i m U H' ⟨rfl,hi,p⟩;have q:=hl i U H' hi p;by_cases hlt:i < kvs.length
 ·refine .inr ⟨⟨hlt,q⟩,Pv (i+1),fun σ3 H3 p'=>⟨kvs.length - (i+1),by omega,rq,hlt,p'⟩,λx H2 y=>?_⟩;obtain⟨rfl,b,kv,hkv,hb,rfl⟩:=y;exact hs i kv b U _ hkv p hb
 ·have e:i=kvs.length:=by omega
  subst e;exact .inl ⟨⟨rq,q⟩,hd U H' p⟩
end
section
variable {X:Cx} {K:YD}
theorem nP (h:X.K=K) (hu:X.A.units+66 < cLine):OpR X (compareOp .NotIn) (λx y H Q=>∃l xs d ds,y=.ref l/\SqL K H l xs/\JH K H xs ds/\Ka K H x d/\SeqAt.shaped d=true/\PyData.canLayAll0 ds=true/\Q (.bl (!ds.any λz=>PyData.eqv z d)) H):=by
 subst h;intro jb s U H x y v u Q I rx ry hh;obtain⟨l,xs,d,ds,rfl,hq,hr,hx,sd,hc,q⟩:=hh;cases ry;obtain⟨its,rv,⟨o,n,ho,hcl,hdt,hd⟩,_⟩:=I.list hq;obtain⟨as,r1⟩:=JH.reads I hr rv;obtain⟨bs,r2⟩:=Ka.reads I hx rx;refine SeqAt.notIn_list_reads (xs:=ds) (d:=d) (.list ho hcl hd (by simpa using r1)) r2 hc (SeqAt.canLay_of_shaped sd) (room_in_shaped sd (by omega)) ⟨.bl _,H,I,rq,q⟩
end
structure X6 (P:Program) (w:World) (K:YD) (mg:YB) (base:Heap) (C:Addr) (k:Nat) (ps:YF) (sp:Sp):Prop where
 ex:∃(f:Addr) (fd:FuncData),Mk K C f/\Binds K fd ps []/\FZ P w K mg base (CX1 P w) k f fd ps sp
theorem E7 {P:Program} {w:World} {K:YD} {mg:YB} {base:Heap} {C:Addr} {m qn:Str} {st:Stmt} {ps N:YF} {k:Nat} {sp:Sp} (c:∃f fd,Fun K m qn st f fd/\Mk K C f/\Binds K fd ps []) (S:Az N ps (Aj st)) (len:∀vs H Q E,sp vs H Q E->vs.length=ps.length)
  (hbody:∀(X:Cx) (f:Addr) (cdv:Value) (A:Around) (outer:List Env) (s:Shared) (H:Hp) (vs:YG) (Q:VK) (E:XK),X=K4 (CX1 P w) P w K mg base N qn (Aj st) f cdv A outer s H E->NZ X (λ_=>E)->Ce k X.A->sp vs H Q E ->
   ∃t,PSs X (Dg st) t/\t { nx:=λ_ H'=>Q .non H',rt:=Q } (start N vs) H):X6 P w K mg base C (k+1) ps sp:=by
 obtain⟨f,fd,F,M,b⟩:=c;refine⟨f,fd,M,b,?_⟩;obtain⟨oc,od,kV,doc,pm,an,cdv,ct,osl,rfl,lk,hcd⟩:=F.ex;exact bJ lk hcd S len λA outer s H vs Q E hr hsp=>hbody _ f cdv A outer s H vs Q E rfl V9 hr hsp
def CL (C:Addr) (sp:Sp) (EX:St->XK) (t:TA):TE:=fun U H Q=>t U H λvs H1=>∀x dx,H1 x=none->H1 dx=none->dx≠x ->
 sp (.ref x::vs) (upd (upd H1 dx (.own x)) x (.ins C dx [])) (λv H2=>v=.non/\Q (.ref x) H2) (EX U)
theorem DD {X:Cx} {EX:St->XK} {k k':Nat} {C:Addr} {ps:YF} {sp:Sp} {x:Str} {p pos:Pos} {e:Expr} {es:YJ} {t:TA} (g:X6 X.prog X.w X.K X.mg X.base C k ps sp) (hr:Ce k' X.A) (hm:X.mg x=some (.ref C)) (hx:NZ X EX) (ha:PA X (e::es) t) (hk:k+1<=k':=by decide) (hg:Gl X x:=by rfl)
  (hdb:(x == ("__debug__":Str))=false:=by decide) (he:starEach (e::es) X.env=(false,eval e X.env)::starEach es X.env:=by rfl) (hpl:(backTo pos (starEach es X.env)).any (·.1)=false:=by rfl) :
  PE X (.Call (.Name x p) (e::es) [] pos) (CL C sp EX t):=by
 intro jb s U H Q I h;obtain⟨f,fd,M,b,F⟩:=g.ex;refine Qbk (Km I hg hm ?_ hdb);refine callWith_K (h₀:=X.base) I.ok.mod.kin M.kp (thn (ha pos jb s U H _ I h) λus s1 zz=>?_) he hpl;obtain⟨vs,H1,I1,r,q⟩:=zz;refine⟨I1.kIn,?_⟩;have hq:=q (s1.heap.objs.size+1) s1.heap.objs.size (I1.hok.fresh (QcI _)) (I1.hok.fresh (QcD _)) (Qcu (QbH _));have I2:=Inv.made (C:=C) I1;have r2:Vals (V.ref (s1.heap.objs.size+1)::vs) (Value.ref (s1.heap.objs.size+1)::us):=.cons rfl r;have hl:(Value.ref (s1.heap.objs.size+1)::us).length=ps.length:=by rw[<-r2.length];exact F.len _ _ _ _ hq
 have bd:=b _ (Value.ref (s1.heap.objs.size+1)::us) I2.kIn (by rw[QbP];exact hl);rw[QbP] at bd;refine wpAny_call (fU (f:=f) I1.kIn M.makes M.init (beq_iff_eq.mp M.fn) (Qcz (F.run _ X.stack _ _ ⟨Value.ref (s1.heap.objs.size+1)::us,[]⟩ (Value.ref (s1.heap.objs.size+1)::us) _ _ (EX U) ((hr.mono hk).make C us [])
  (I2.env0.make C us []) bd r2 hq) λr s' hq'=>?_))
 cases r with
 | error e=>exact hx jb U _ _ e s' I2 hq'
 | ok fl=>
  cases fl with
  | ret u=>
   obtain⟨v,H',I3,rv,ev,q3⟩:=I2.after hq';subst ev;exact⟨rv,⟨V.ref (s1.heap.objs.size+1),H',I3,rq,q3⟩⟩
  | next=>exact False.elim hq'
  | brk=>exact False.elim hq'
  | cont=>exact False.elim hq'
def tC1 (sp:Sp) (t0:TE):TE:=fun U H Q=>t0 U H λv0 H0=>sp [v0] H0 Q E0
def tC2 (sp:Sp) (t0 t1:TE):TE:=fun U H Q=>t0 U H λv0 H0=>t1 U H0 λv1 H1=>sp [v0,v1] H1 Q E0
def tC3 (sp:Sp) (t0 t1 t2:TE):TE:=fun U H Q=>t0 U H λv0 H0=>t1 U H0 λv1 H1=>t2 U H1 λv2 H2=>sp [v0,v1,v2] H2 Q E0
def tC4 (sp:Sp) (t0 t1 t2 t3:TE):TE:=fun U H Q=>t0 U H λv0 H0=>t1 U H0 λv1 H1=>t2 U H1 λv2 H2=>t3 U H2 λv3 H3=>sp [v0,v1,v2,v3] H3 Q E0
def tC5 (sp:Sp) (t0 t1 t2 t3 t4:TE):TE:=fun U H Q=>t0 U H λv0 H0=>t1 U H0 λv1 H1=>t2 U H1 λv2 H2=>t3 U H2 λv3 H3=>t4 U H3 λv4 H4=>sp [v0,v1,v2,v3,v4] H4 Q E0
def tC6 (sp:Sp) (t0 t1 t2 t3 t4 t5:TE):TE:=fun U H Q=>t0 U H λv0 H0=>t1 U H0 λv1 H1=>t2 U H1 λv2 H2=>t3 U H2 λv3 H3=>t4 U H3 λv4 H4=>t5 U H4 λv5 H5=>sp [v0,v1,v2,v3,v4,v5] H5 Q E0
def tM0 (C:Addr) (m:Str) (sp:Sp) (ta:TE):TE:=fun U H Q=>ta U H λx G=>∃a dx fs,x=.ref a/\G a=some (.ins C dx fs)/\fs.lookup m=none/\sp [x] G Q E0
def tM1 (C:Addr) (m:Str) (sp:Sp) (ta t0:TE):TE:=fun U H Q=>ta U H λx G=>∃a dx fs,x=.ref a/\G a=some (.ins C dx fs)/\fs.lookup m=none/\t0 U G λv0 H0=>sp [x,v0] H0 Q E0
def tM2 (C:Addr) (m:Str) (sp:Sp) (ta t0 t1:TE):TE:=fun U H Q=>ta U H λx G=>∃a dx fs,x=.ref a/\G a=some (.ins C dx fs)/\fs.lookup m=none/\t0 U G λv0 H0=>t1 U H0 λv1 H1=>sp [x,v0,v1] H1 Q E0
section
variable {X:Cx} {pl:Sem Bool} {k k':Nat} {C:Addr} {ps:YF} {sp:Sp} {x m:Str} {p apos pos:Pos} {o e0 e1 e2 e3 e4 e5:Expr} {ta t0 t1 t2 t3 t4 t5:TE}
theorem BR (g:Good X.prog X.w X.K X.mg X.base x k ps sp) (hr:Ce k' X.A) (ha:PA X [e0] (Dy t0 Nh)) (hk:k<=k':=by decide) (hg:Gl X x:=by rfl) (hdb:(x == ("__debug__":Str))=false:=by decide) (he:starEach [e0] X.env=(false,eval e0 X.env)::starEach [] X.env:=by rfl) (hpl:(backTo pos (starEach [] X.env)).any (·.1)=false:=by rfl):PE X (.Call (.Name x p) [e0] [] pos) (tC1 sp t0):=Ru g hr ha hk hg hdb he hpl
theorem Cm (g:Good X.prog X.w X.K X.mg X.base x k ps sp) (hr:Ce k' X.A) (ha:PA X [e0,e1] (Dy t0 (Dy t1 Nh))) (hk:k<=k':=by decide) (hg:Gl X x:=by rfl) (hdb:(x == ("__debug__":Str))=false:=by decide) (he:starEach [e0,e1] X.env=(false,eval e0 X.env)::starEach [e1] X.env:=by rfl) (hpl:(backTo pos (starEach [e1] X.env)).any (·.1)=false:=by rfl):PE X (.Call (.Name x p) [e0,e1] [] pos) (tC2 sp t0 t1):=Ru g hr ha hk hg hdb he hpl
theorem Dc (g:Good X.prog X.w X.K X.mg X.base x k ps sp) (hr:Ce k' X.A) (ha:PA X [e0,e1,e2] (Dy t0 (Dy t1 (Dy t2 Nh)))) (hk:k<=k':=by decide) (hg:Gl X x:=by rfl) (hdb:(x == ("__debug__":Str))=false:=by decide) (he:starEach [e0,e1,e2] X.env=(false,eval e0 X.env)::starEach [e1,e2] X.env:=by rfl) (hpl:(backTo pos (starEach [e1,e2] X.env)).any (·.1)=false:=by rfl):PE X (.Call (.Name x p) [e0,e1,e2] [] pos) (tC3 sp t0 t1 t2):=Ru g hr ha hk hg hdb he hpl
theorem Tf (g:Good X.prog X.w X.K X.mg X.base x k ps sp) (hr:Ce k' X.A) (ha:PA X [e0,e1,e2,e3] (Dy t0 (Dy t1 (Dy t2 (Dy t3 Nh))))) (hk:k<=k':=by decide) (hg:Gl X x:=by rfl) (hdb:(x == ("__debug__":Str))=false:=by decide) (he:starEach [e0,e1,e2,e3] X.env=(false,eval e0 X.env)::starEach [e1,e2,e3] X.env:=by rfl) (hpl:(backTo pos (starEach [e1,e2,e3] X.env)).any (·.1)=false:=by rfl):PE X (.Call (.Name x p) [e0,e1,e2,e3] [] pos) (tC4 sp t0 t1 t2 t3):=Ru g hr ha hk hg hdb he hpl
theorem DO (g:Good X.prog X.w X.K X.mg X.base x k ps sp) (hr:Ce k' X.A) (ha:PA X [e0,e1,e2,e3,e4] (Dy t0 (Dy t1 (Dy t2 (Dy t3 (Dy t4 Nh)))))) (hk:k<=k':=by decide) (hg:Gl X x:=by rfl) (hdb:(x == ("__debug__":Str))=false:=by decide) (he:starEach [e0,e1,e2,e3,e4] X.env=(false,eval e0 X.env)::starEach [e1,e2,e3,e4] X.env:=by rfl) (hpl:(backTo pos (starEach [e1,e2,e3,e4] X.env)).any (·.1)=false:=by rfl):PE X (.Call (.Name x p) [e0,e1,e2,e3,e4] [] pos) (tC5 sp t0 t1 t2 t3 t4):=Ru g hr ha hk hg hdb he hpl
theorem qP (g:Good X.prog X.w X.K X.mg X.base x k ps sp) (hr:Ce k' X.A) (ha:PA X [e0,e1,e2,e3,e4,e5] (Dy t0 (Dy t1 (Dy t2 (Dy t3 (Dy t4 (Dy t5 Nh))))))) (hk:k<=k':=by decide) (hg:Gl X x:=by rfl) (hdb:(x == ("__debug__":Str))=false:=by decide) (he:starEach [e0,e1,e2,e3,e4,e5] X.env=(false,eval e0 X.env)::starEach [e1,e2,e3,e4,e5] X.env:=by rfl) (hpl:(backTo pos (starEach [e1,e2,e3,e4,e5] X.env)).any (·.1)=false:=by rfl):PE X (.Call (.Name x p) [e0,e1,e2,e3,e4,e5] [] pos) (tC6 sp t0 t1 t2 t3 t4 t5):=Ru g hr ha hk hg hdb he hpl
theorem GW (he:PE X o ta) (c:Cls X.K C) (g:Ge X.prog X.w X.K X.mg X.base C m k ps sp) (hr:Ce k' X.A) (hk:k<=k':=by decide) (ht:eval (.Call (.Attribute o m apos) [] [] pos) X.env=(do
   let ov <-eval o X.env
   standAt apos.atName
   let (f,first) <-holding [ov] (getMethod ov m pl)
   callWith pos f first (backTo pos (starEach [] X.env)) (backToKw pos (keywordEach [] X.env))):=by rfl):PE X (.Call (.Attribute o m apos) [] [] pos) (tM0 C m sp ta):=DC (pl:=pl) he c g hr hk ht
theorem Xi (he:PE X o ta) (c:Cls X.K C) (g:Ge X.prog X.w X.K X.mg X.base C m k ps sp) (hr:Ce k' X.A) (ha:PA X [e0] (Dy t0 Nh)) (hk:k<=k':=by decide) (hst:starEach [e0] X.env=(false,eval e0 X.env)::starEach [] X.env:=by rfl) (hpl:(backTo pos (starEach [] X.env)).any (·.1)=false:=by rfl) (ht:eval (.Call (.Attribute o m apos) [e0] [] pos) X.env=(do
   let ov <-eval o X.env
   standAt apos.atName
   let (f,first) <-holding [ov] (getMethod ov m pl)
   callWith pos f first (backTo pos (starEach [e0] X.env)) (backToKw pos (keywordEach [] X.env))):=by rfl):PE X (.Call (.Attribute o m apos) [e0] [] pos) (tM1 C m sp ta t0):=zG (pl:=pl) he c g hr ha hk hst hpl ht
theorem zH (he:PE X o ta) (c:Cls X.K C) (g:Ge X.prog X.w X.K X.mg X.base C m k ps sp) (hr:Ce k' X.A) (ha:PA X [e0,e1] (Dy t0 (Dy t1 Nh))) (hk:k<=k':=by decide) (hst:starEach [e0,e1] X.env=(false,eval e0 X.env)::starEach [e1] X.env:=by rfl) (hpl:(backTo pos (starEach [e1] X.env)).any (·.1)=false:=by rfl) (ht:eval (.Call (.Attribute o m apos) [e0,e1] [] pos) X.env=(do
   let ov <-eval o X.env
   standAt apos.atName
   let (f,first) <-holding [ov] (getMethod ov m pl)
   callWith pos f first (backTo pos (starEach [e0,e1] X.env)) (backToKw pos (keywordEach [] X.env))):=by rfl):PE X (.Call (.Attribute o m apos) [e0,e1] [] pos) (tM2 C m sp ta t0 t1):=zG (pl:=pl) he c g hr ha hk hst hpl ht
end
open PySem.W (KasT kas_asc kas_desc kas_rev kas_tail3 kas_descPart kas_count kas_place kas_bin kas_sort)
section
variable {prog:Program} {w:World} {A:Around} {s:Shared}
end
end L2
namespace L2
open PySem PySem.Spec PyProof.Rows
def TOk (b:Bool) (t:SetTable):Prop:=t.led=b/\t.dummies=#[]/\(t.plain=true->t.place.toList.Pairwise (· < ·))
section
variable {prog:Program} {w:World} {KT:Type} [DecidableEq KT] (kn:KeyKind prog w KT)
def SetT (b:Bool) (h:Heap) (a:Addr) (S:KT->Bool) (n:Nat):Prop:=
 ∃ob es ep t,(h.get? a=some ob/\ob.ExactSet/\ob.data=.set es ep t)/\(ElemsOf kn es.toList/\∀k,S k=true ↔ ∃e∈es.toList,kn.is k e.2=true)/\(es.size < scanBound/\t.fits es.size=true/\es.size=n)/\TOk b t
variable {kn}
variable {A:Around} {E:YA} {s:Shared}
theorem SetT.at {b:Bool} {h h':Heap} {a:Addr} {S:KT->Bool} {n:Nat} (z:SetT kn b h a S n) (k:∀o,h.get? a=some o->h'.get? a=some o):SetT kn b h' a S n:=
 let ⟨ob,es,ep,t,⟨g1,g2⟩,g3⟩:=z
 ⟨ob,es,ep,t,⟨k _ g1,g2⟩,g3⟩
theorem SetT.stored {b:Bool} {h:Heap} {a:Addr} {ob:Obj} {es:Array (Int×Value)} {ep:Nat} {t:SetTable} (g1:h.get? a=some ob) (g2:ob.ExactSet) (g3:ob.data=.set es ep t)
  {es':Array (Int×Value)} {t':SetTable} {S':KT->Bool} (k1:ElemsOf kn es'.toList) (k2:∀k,S' k=true ↔ ∃e∈es'.toList,kn.is k e.2=true) (k3:es'.size < scanBound) (k4:t'.fits es'.size=true) (k5:TOk b t') :
  (h.update a (Obj.putSet es' t')).get? a=some { ob with data:=.set es' (ep+1) t' }/\SetT kn b (h.update a (Obj.putSet es' t')) a S' es'.size:=by
 obtain⟨q,_⟩:=SetOf_store (knd:=kn) g1 g2 g3 k1 k2 k3 k4;exact⟨q,_,es',ep+1,t',⟨q,g2,rq⟩,⟨k1,k2⟩,⟨k3,k4,rq⟩,k5⟩
end
def met {KT:Type} [DecidableEq KT] (val:Nat->KT):Nat->List KT
 | 0=>[]
 | i+1=>if val i∈met val i then met val i else met val i++[val i]
section
variable {KT:Type} [DecidableEq KT]
end
section
variable {prog:Program} {w:World} {KT:Type} [DecidableEq KT] {kn:KeyKind prog w KT} {A:Around} {E:YA} {s:Shared}
end
section
variable {prog:Program} {w:World} {A:Around} {E:YA} {s:Shared}
def yV (b:Bool) (h:Heap) (a:Addr) (es:Array (Int×Value)) (ep:Nat) (t:SetTable):Prop:=∃ob,h.get? a=some ob/\ob.ExactSet/\ob.data=.set es ep t/\t.fits es.size=true/\TOk b t
theorem yV.at {b:Bool} {h h':Heap} {a:Addr} {es:Array (Int×Value)} {ep:Nat} {t:SetTable} (z:yV b h a es ep t) (k:∀o,h.get? a=some o->h'.get? a=some o):yV b h' a es ep t:=let ⟨ob,g1,g2⟩:=z;⟨ob,k _ g1,g2⟩
def yW (h:Heap) (it a:Addr) (first:Value) (i n ep:Nat):Prop:=∃o,h.get? it=some o/\o.cls=.type "set_iterator"/\o.data=.fields #[first,rawInt i,.ref a,rawInt n,rawInt ep]
end
section
variable {prog:Program} {w:World} {A:Around} {E:YA} {s:Shared}
theorem yW.at {h h':Heap} {it a:Addr} {first:Value} {i n ep:Nat} (x:yW h it a first i n ep) (e:∀o,h.get? it=some o->h'.get? it=some o):yW h' it a first i n ep:=let ⟨o,ho,r⟩:=x;⟨o,e _ ho,r⟩
end
section
variable {prog:Program} {w:World} {A:Around} {E:YA} {s:Shared}
end
open PySem.Calls (spliced_cons spliced_nil)
section
variable {prog:Program} {w:World} {A:Around} {E:YA} {s:Shared}
end
end L2
namespace L2
open PySem PySem.Spec PyProof.Rows
section
variable {X:Cx} {K:YD}
end
theorem Rep.kn {H:Hp} {v:V} {d:PyData} (r:Rep H v d):Kn H v:=by
 cases r with
 | non=>exact True.intro
 | bl b=>exact True.intro
 | int i=>exact True.intro
 | str x=>exact True.intro
 | tup e _=>exact .inr ⟨_,e⟩
 | lst e _=>exact .inl ⟨_,e⟩
end L2
namespace PySem.ZZ
open PySem
section
variable {prog:Program} {w:World} {A:Around} {E:YA} {s:Shared}
abbrev itS (x:Str) (t:Tok):Obj:={ cls:=.type "str_ascii_iterator",data:=.fields #[.str x t,.int 0 0] }
abbrev zsa (h:Heap) (x:Str) (t:Tok) (l2:Addr):Heap:=((((h.push (itS x t)).push (itO "tuple_iterator" l2)).push (tuO #[.ref h.objs.size,.ref (h.push (itS x t)).objs.size])).push (tuO #[.none,.none]))
abbrev zs (h:Heap) (x:Str) (t:Tok) (l2:Addr):Heap:=(zsa h x t l2).push
 { cls:=.type "zip",data:=.fields #[.none,.bool false,.bool false,.ref ((h.push (itS x t)).push (itO "tuple_iterator" l2)).objs.size,.ref (((h.push (itS x t)).push (itO "tuple_iterator" l2)).push (tuO #[.ref h.objs.size,.ref (h.push (itS x t)).objs.size])).objs.size] }
end
end PySem.ZZ
namespace L2
open PySem PySem.Spec PyProof.Rows
section
variable {X:Cx}
end
open PySem.Calls (spliced_cons spliced_nil)
theorem StrsAre.len:∀{vs:YE} {ns:YF},StrsAre vs ns->vs.length=ns.length
 | _,_,.nil=>rfl
 | _,_,.cons _ _ r=>by rw[QbC,QbC,StrsAre.len r]
theorem StrsAre.at_:∀{vs:YE} {ns:YF},StrsAre vs ns->∀(i:Nat) (v:Value),vs[i]?=some v->∃t,v=.str (ns.getD i Str.empty) t
 | _,_,.nil,i,v,e=>by simp at e
 | _,_,.cons x t r,0,v,e=>by
  simp at e;exact⟨t,by rw[<-e];rfl⟩
 | _,_,.cons x t r,i+1,v,e=>by
  simp at e;obtain⟨t',h⟩:=StrsAre.at_ r i v e;exact⟨t',by rw[h];rfl⟩
section
variable {prog:Program} {w:World} {A:Around} {E:YA} {s:Shared}
end
section
variable {X:Cx}
end
end L2
namespace L2
open PySem PySem.Spec PyProof.Rows
def Gr (K:YD) (HC:Addr) (i:Nat) (tb:(St->XK)->TS) (th:Addr->TS) (te:TS):TS:=λD U H=>tb (pK K HC i th D) { D with nx:=fun σ' H'=>te D σ' H' } U H
theorem AV {X:Cx} {HC:Addr} {i:Nat} {n x:Str} {tb:(St->XK)->TS} {th:Addr->TS} {te:TS} {body suite orelse:List Stmt} {b₀ : Stmt} {np hpos pos:Pos} (hN:X.N.Nodup) (hi:X.N[i]?=some n) (hl:X.env.scope.names.lookup n=some .local) (hst:X.stack=X.env::X.outer)
  (hf:X.env.frame=some X.env.locals) (hg:Gl X x) (hm:X.mg x=some (.ref HC)) (TH:XCl X.K HC)
  (h1:∀pn E1 EX,NZ (X.by pn E1) EX->PSs (X.by pn E1) body (tb EX)) (h2:∀pn (e:Addr),PSs (X.suite pn (.ref e)) (b₀::suite) (th e)) (h3:PSs X orelse te) (hdb:(x == ("__debug__":Str))=false:=by decide) :
  PS X (.Try body [.ExceptHandler (some (.Name x np)) (some n) (b₀::suite) hpos] orelse [] pos) (Gr X.K HC i tb th te):=by
 intro jb s U H D I h;have hfr:X.A.frames=some (X.env::X.outer):=I.ok.frames.trans (congrArg some hst);let E1:YA:=λev s''=>∃(Iw:YC) (σ':St) (H':Hp) (s':Shared),Inv (X.by (X.pn++jb) λ_ _=>False) Iw σ' H' s'/\CX1 X.prog X.w X.stack H' s' (pK X.K HC i th D σ') ev s'';have hp:NZ (X.by (X.pn++jb) E1) (pK X.K HC i th D):=λIw σ' H' s' ev s'' I' c=>⟨Iw,σ',H',s',⟨⟨I'.ok.mod,I'.ok.kind,I'.ok.glob,I'.ok.blt,I'.ok.above,I'.ok.inj,I'.ok.has,I'.ok.cab,I'.ok.hd,I'.ok.frames,I'.ok.stk,I'.ok.exf,I'.ok.bs,I'.ok.bsz,I'.ok.O9,I'.ok.Ly,I'.ok.Hj,I'.ok.frf⟩,I'.os,I'.bare,I'.base,I'.loc,I'.cell,I'.free,I'.FP,I'.pin,I'.hok,I'.len⟩,c⟩;refine wpAny_Try_except (QcL (h1 _ E1 _ hp [] s U H { D with nx:=fun σ' H'=>te D σ' H' } (I.by E1) h) (λf s1 q=>?_) λev s1 q=>?_)
 ·cases f with
  | next=>
   obtain⟨σ2,H2,I2,q2⟩:=q;exact h3 jb s1 σ2 H2 D I2.Rg q2
  | brk=>exact SP.Rg (f:=.brk) q
  | cont=>exact SP.Rg (f:=.cont) q
  | ret u=>exact SP.Rg (f:=.ret u) q
 ·obtain⟨Iw,σ',H',s',I',e,C,B,H2,rfl,x1,D1,hC,T,hs,hth⟩:=q;cases hC;obtain⟨fl,hfl,f0⟩:=x1.fl;rw[hst] at f0;refine lQ hfl hfr hf f0 λha fa ua=>?_;refine gP fa λhb fb ub=>?_;have fb':Fl B X.stack e C (some .none) hb:=by rw[hst];exact fb
  have J:=Exc.caught I' x1 fb' (ua.trans ub);have JS:=J.suite (Value.ref e);refine wpAny_handleBy_cons (codeAny_handlers_test (Km JS hg hm ?_ hdb)) (by intro q;cases q);refine Cn JS.kIn TH hs fb.tr.at (codeAny_handlers_suite_as ?_);refine gP fb λhc fc uc=>?_;have fc':Fl B X.stack e C (some .none) hc:=by rw[hst];exact fc
  have J2:=(Exc.caught I' x1 fc' ((ua.trans ub).trans uc)).suite (Value.ref e);refine Lb (X:=X.suite (X.pn++jb) (.ref e)) (v:=.ref e) (i:=i) J2 hN hi (.inl hl) rfl (λs4 J4=>?_) (.inr hl);refine QcL (h2 _ _ Iw s4 _ _ (D.drop i) J4 (hth e x1.free)) (λf s5 q=>?_) λ_ _ z=>z.elim;cases f with
  | next=>
   obtain⟨σ5,H5,I5,q5⟩:=q;exact U6 (I5.Ul I.ok.hd) hN hi hl λs6 I6=>⟨_,_,I6,q5⟩
  | brk=>
   obtain⟨σ5,H5,I5,q5⟩:=q;exact U6 (I5.Ul I.ok.hd) hN hi hl λs6 I6=>⟨_,_,I6,q5⟩
  | cont=>
   obtain⟨σ5,H5,I5,q5⟩:=q;exact U6 (I5.Ul I.ok.hd) hN hi hl λs6 I6=>⟨_,_,I6,q5⟩
  | ret u=>
   obtain⟨v5,σ5,H5,I5,r5,q5⟩:=q;exact U6 (I5.Ul I.ok.hd) hN hi hl λs6 I6=>⟨v5,_,_,I6,r5,q5⟩
section
variable {prog:Program} {w:World} {A:Around} {E:YA} {s:Shared} {R:Result->Shared->Prop}
theorem WM {d it l:Addr} {items:YE} {res:Value} (hu:A.units+1 < cLine) (hh:A.handled=none) (ndi:d≠it) (nld:l≠d) (nli:l≠it):∀(rs:List (Addr×List Key×Addr×Value)) (i:Nat) (acc:List (List Key×Addr×Value)) (s:Shared),s.heap.IsTupleIter it l i->s.heap.IsTuple l items.toArray ->
  items.drop i=rs.map (λr=>Value.ref r.1)->(∀r∈rs,s.heap.IsTuple r.1 #[.ref r.2.2.1,r.2.2.2]/\(tupleKind (Bq prog w)).is s.heap r.2.1 r.2.2.1/\(r.1≠d/\r.1≠it)/\r.2.2.1≠d/\r.2.2.1≠it)->(∀x∈acc,x.2.1≠d/\x.2.1≠it)->(acc.map (·.1)++rs.map (·.2.1)).Nodup->s.heap.DictOfH (tupleKind (Bq prog w)) d acc->acc.length+rs.length<=sizeLine ->
  (∀h' tk,h'.DictOfH (tupleKind (Bq prog w)) d (acc++rs.map λr=>(r.2.1,r.2.2.1,r.2.2.2))->(∀b o,b≠d->b≠it->s.heap.get? b=some o->h'.get? b=some o)->R (.ok (.ret res)) { s with heap:=h',toks:=tk }) ->
  codeAny (model prog w) A (.builtin "dict.update.loop" ⟨[.ref d,.ref it,rawInt i,res],[]⟩) R s
 | [],i,acc,s,hit,hl,hd,_,ha,nd,hm,hz,hR=>by
  refine Qcc Jj ?_;rw[Around.under_plainId Ec _];show wpAny _ A.in1 (pyNext (.ref it) >>= _) _ _ s;have hx:items.toArray[i]?=none:=by
   have:items.length<=i:=by simpa using hd
   simp[this]
  refine QcJ (wpAny_pyNext_tuple_end (show A.in1.handled=none from hh) hit hl hx λh' ex=>?_)
  refine QcJ (QcK ?_);refine QcK ?_;rw[QcA,QbP] at hR;exact hR h' s.toks (NT hm (λo e=>ex _ _ ndi e) λx hx o e=>ex _ _ (ha x hx).2 e) λb o nb nt q=>ex b o nt q
 | (t,k,kb,v)::rs,i,acc,s,hit,hl,hd,hr,ha,nd0,hm,hz,hR=>by
  refine Qcc Jj ?_;rw[Around.under_plainId Ec _];show wpAny _ A.in1 (pyNext (.ref it) >>= _) _ _ s;have hx:items.toArray[i]?=some (.ref t):=by
   have:=congrArg List.head? hd;rw[List.head?_drop] at this;simpa using this
  have hd':items.drop (i+1)=rs.map (λr=>Value.ref r.1):=by
   rw[<-List.tail_drop,hd];rfl
  obtain⟨⟨ot,ho,hc,n,hdt⟩,hk,⟨nd,ni⟩,kd,ki⟩:=hr _ (QaZ ..);refine QcJ (wpAny_pyNext_tuple_item hit hl hx λh1 hit1 sb1=>?_);have k1:∀b o,b≠it->s.heap.get? b=some o->h1.get? b=some o:=λb o nb q=>(sb1.2 b nb).trans q;refine QcJ (Qcn ?_);refine QcJ (wpAny_tryCatch ?_);have hT:(⟨h1,s.gens,s.drawn,s.toks,s.os⟩ : Shared).TypeIs (.ref t) "tuple":=⟨ot,k1 _ _ ni ho,hc⟩;unfold Builtin.Dict.pairItems;refine QcJ (QcB hT ?_);rw[if_pos (by decide)];refine QcJ (Qch (k1 _ _ ni ho) hdt (QcK ?_));show wpAny _ A.in1 (holding [.ref kb,v] (dictSet d (.ref kb) v)) _ _ _;have hm1:h1.DictOfH (tupleKind (Bq prog w)) d acc:=NT hm (λo e=>k1 _ _ ndi e) λx hx o e=>k1 _ _ (ha x hx).2 e;have hk1:=JV hk λo e=>k1 _ _ ki e;have hnew:atKey acc k=none:=iV λx hx e=>by
   have:=(Qbw.mp nd0).2.2 x.1 (Qcs.mpr ⟨x,hx,rq⟩) k (QaZ ..);exact this e
  have hz0:acc.length+(rs.length+1)<=sizeLine:=hz;refine Qcn (wpAny_dictSet_heap (show (tupleKind (Bq prog w)).room A.in1 from Qbl hu) hk1 hm1 (λh2 hm2 sb2=>?_) (by omega))
  rw[storedH_new hnew] at hm2;have k2:∀b o,b≠d->h1.get? b=some o->h2.get? b=some o:=λb o nb q=>(sb2.2 b nb).trans q;refine QcK ⟨plainId_quiet Ec _,?_⟩;have key:∀j:Int,rawInt (j+1)=rawInt (j+1):=λ_=>rfl;have e1:rawInt ((i:Int)+1)=rawInt ((i+1:Nat):Int):=by rw[Int.natCast_add];rfl
  show codeAny (model prog w) A (.builtin "dict.update.loop" ⟨[.ref d,.ref it,rawInt ((i:Int)+1),res],[]⟩) R _;rw[e1];obtain⟨oi,b1,b2⟩:=hit1;obtain⟨ol,c1,c2⟩:=hl;refine WM hu hh ndi nld nli rs (i+1) (acc++[(k,kb,v)]) _ ⟨oi,k2 _ _ (Ne.symm ndi) b1,b2⟩ ⟨ol,k2 _ _ nld (k1 _ _ nli c1),c2⟩ hd' (λr hrm=>?_) (λx hx=>?_) ?_ hm2 ?_ λh' tk x y=>hR h' tk (by rw[Qbp] at x;exact x) λb o nb nt q=>y b o nb nt (k2 _ _ nb (k1 _ _ nt q))
  ·obtain⟨⟨ob,d1,d2⟩,d3,⟨d4,d5⟩,d6,d7⟩:=hr r (QaL _ hrm);exact⟨⟨ob,k2 _ _ d4 (k1 _ _ d5 d1),d2⟩,JV d3 λo e=>k2 _ _ d6 (k1 _ _ d7 e),⟨d4,d5⟩,d6,d7⟩
  ·rcases QbO.mp hx with h | h
   ·exact ha x h
   ·have:x=(k,kb,v):=by simpa using h
    rw[this];exact⟨kd,ki⟩
  ·rw[QbN,Qbp];exact nd0
  ·rw[QaY];show acc.length+1+rs.length<=sizeLine;omega
end
section
variable {prog:Program} {w:World} {A:Around} {E:YA} {s:Shared}
theorem Zk {l:Addr} {items:YE} {c:Nat} {rs:List (Addr×List Key×Addr×Value)} {Q:YA} (hu:A.units+2 < cLine) (hh:A.handled=none) {ob:Obj} (hl:s.heap.get? l=some ob) (hcl:ob.cls=.type "tuple") (hdn:ob.dict=none) (hda:ob.data=.seq items.toArray c) (hi:items=rs.map (λr=>Value.ref r.1))
  (hr:∀r∈rs,s.heap.IsTuple r.1 #[.ref r.2.2.1,r.2.2.2]/\(tupleKind (Bq prog w)).is s.heap r.2.1 r.2.2.1) (nd:(rs.map (·.2.1)).Nodup) (hz:rs.length<=sizeLine)
  (h:∀d h' tk,s.heap.objs.size<=d->h'.DictOfH (tupleKind (Bq prog w)) d (rs.map λr=>(r.2.1,r.2.2.1,r.2.2.2))->(∀b o,s.heap.get? b=some o->h'.get? b=some o)->Q (.ref d) { s with heap:=h',toks:=tk }) :
  wpAny (model prog w) A (call (.type "dict") [.ref l]) Q E s:=by
 refine callType_codes (Q₁:=λobj s₁=>obj=.ref s.heap.objs.size/\s₁={ s with heap:=s.heap.push { cls:=.type "dict",data:=.dict #[] } }) F.kt_called_dict (F.kt_typeCall_dict_1 _) F.entry_dict_init (kt_code_dict_new _ ⟨rq,rq⟩) ?_;rintro obj s₁ ⟨rfl,rfl⟩;have hnew:(s.heap.push { cls:=.type "dict",data:=.dict #[] }).DictOfH (tupleKind (Bq prog w)) s.heap.objs.size []:=Heap.DictOfH.new s.heap;have k1:∀b o,s.heap.get? b=some o->b≠s.heap.objs.size/\(s.heap.push { cls:=.type "dict",data:=.dict #[] }).get? b=some o:=λb o q=>⟨Qcu (Qct q),Qaz _ q⟩;generalize hd:s.heap.objs.size=d at hnew k1;have ld:s.heap.objs.size<=d:=Nat.le_of_eq hd;generalize s.heap.push { cls:=.type "dict",data:=.dict #[] }=g1 at hnew k1;refine⟨hnew.typeIs,F.args_dict_init_2 _ _,?_⟩;unfold Builtin.«dict.__init__»;refine QcJ ?_;unfold Builtin.Dict.selfAndRest;refine QcJ (wpAny_notOrdered_dict hnew.typeIs ?_);show wpAny _ _ (pure (d,[Value.ref l])) _ _ _;refine QcK ?_;show wpAny _ _ (Builtin.Dict.updateFrom "dict.__init__" d (.ref l) [] .none) _ _ _;unfold Builtin.Dict.updateFrom;have hl1:=(k1 _ _ hl).2;refine QcJ (QcB (show (⟨g1,s.gens,s.drawn,s.toks,s.os⟩ : Shared).TypeIs (.ref l) "tuple" from⟨_,hl1,hcl⟩) ?_)
 rw[if_pos (by decide)];refine QcJ (AD (show A.in1.in1.handled=none from hh) hl1 hcl hdn hda λg2 tk k2=>?_)
 rw[show (none:Option Value).isNone=true from rfl,if_pos rfl]
 refine QcJ (wpAny_rule ?_);have hl2:=k2 _ _ hl1;refine QcJ (Qbh (items:=items.toArray) ⟨_,hl2,hcl,_,hda⟩ ?_);obtain⟨od,es,ep,a1,a2⟩:=hnew;have nit:∀b o,g2.get? b=some o->b≠g2.objs.size:=λb o q=>Qcu (Qct q);have k3:∀b o,g2.get? b=some o->(g2.push { cls:=.type "tuple_iterator",data:=.fields #[.ref l,.int 0 0] }).get? b=some o:=λb o q=>Qaz _ q;refine QcK ⟨plainId_quiet Ec _,?_⟩;have kk:∀b o,s.heap.get? b=some o->(b≠d/\b≠g2.objs.size)/\(g2.push { cls:=.type "tuple_iterator",data:=.fields #[.ref l,.int 0 0] }).get? b=some o:=λb o q=>⟨⟨(k1 _ _ q).1,nit _ _ (k2 _ _ (k1 _ _ q).2)⟩,k3 _ _ (k2 _ _ (k1 _ _ q).2)⟩;refine WM (items:=items) (show A.in1.units+1 < cLine from hu) (show A.in1.handled=none from hh) (nit _ _ (k2 _ _ a1)) (k1 _ _ hl).1 (nit _ _ hl2) rs 0 [] _ ⟨_,QaP _ rfl,rq,rq⟩ ⟨_,k3 _ _ hl2,hcl,_,hda⟩ (by rw[List.drop_zero];exact hi) (λr hrm=>?_) (λx hx=>by cases hx) nd ?_ (by rw[List.length_nil];omega) λh' tk' x y=>⟨rq,h d h' tk' ld x λb o q=>y b o (k1 _ _ q).1 (kk _ _ q).1.2 (kk _ _ q).2⟩
 ·obtain⟨⟨ob,d1,d2⟩,d3⟩:=hr r hrm;obtain⟨oo,e0⟩:=Z1 d3;exact⟨⟨ob,(kk _ _ d1).2,d2⟩,JV d3 λo e=>(kk _ _ e).2,(kk _ _ d1).1,(kk _ _ e0).1⟩
 ·exact⟨od,es,ep,k3 _ _ (k2 _ _ a1),a2.1,a2.2.1,a2.2.2.1,(λx hx=>by cases hx),Qcf⟩
end
def AS:YG->Hp->VK->Prop:=λxs H Q=>∃l o vs rows,xs=[.ref l]/\H l=some (.frz o (.tup vs))/\Tp o/\Paired (Jz H) vs rows/\(rows.map (·.1)).Nodup/\rows.length < 1000/\∀d,H d=none->Q (.ref d) (upd H d (.dT rows))
theorem jN {X:Cx} (hu:X.A.units+64 < cLine) (hc:X.calm=true):DW X (.type "dict") AS:=by
 intro jb s U H xs us Q I r h;obtain⟨l,ob,vs,rows,rfl,hl,tp,pr,nd,hz,q⟩:=h;obtain⟨u,rfl,rx⟩:=vals1 r;cases rx;obtain⟨hob,_,its,rv,o,ho,hcl,n,hd⟩:=(show Bt X.prog X.w H s.heap l (.frz ob (.tup vs)) from I.hok l _ hl)
 rw[hob] at ho;cases ho;obtain⟨rs,h1,h2,h3,h4,h5⟩:=V4 I.hok pr rv;have zz:rows.length<=sizeLine:=Qcx (Am (Qcx hz));refine Zk (by omega) (I.ok.hd hc) hob hcl tp.2 hd h1 h2 (by rw[h5];exact nd) (by rw[h4];exact zz) λd h' tk ld hd kp=>?_;have fr:=I.hok.fresh ld;have hb:=I.big;obtain⟨o,es,ep,g1,g2,g3,g4,_,g6⟩:=hd;refine⟨.ref d,_,I.laid (t':=tk) (o:=.dT rows) kp ld ⟨zz,QaQ.mpr (Qcy (Qbd hb ld)),_,Paired.Aw h3 λx y hxy=>⟨hxy.1,?_,hxy.2.2⟩,o,es,ep,g1,g2,g3,g4,g6⟩,rq,q d fr⟩;rw[Aq (Ax hxy.2.1 fr)];exact hxy.2.1
theorem uJ {K:YD} {H:Hp} {l:Addr} {o:Obj} {vs:YG} (h:H l=some (.frz o (.tup vs))):SqT K H l vs:=.inl (.inr ⟨o,h⟩)
end L2
namespace K44
open PySem L2
def top (i:Nat):Stmt:=PySem.Challenge.pw_warnloop_k44_heard_with.main.body.getD i (.Pass ⟨0,0,0,0⟩)
theorem Bv:bootBuiltins "isinstance"=some (.builtin "isinstance"):=by trivial
theorem iQ:bootBuiltins "int"=some (.type "int"):=by trivial
theorem B4:bootBuiltins "bool"=some (.type "bool"):=by trivial
theorem Gn:bootBuiltins "tuple"=some (.type "tuple"):=by trivial
theorem mq:bootBuiltins "list"=some (.type "list"):=by trivial
theorem FM:bootBuiltins "str"=some (.type "str"):=by trivial
theorem CV:bootBuiltins "len"=some (.builtin "len"):=by trivial
theorem Nf:bootBuiltins "all"=some (.builtin "all"):=by trivial
theorem uG:bootBuiltins "abs"=some (.builtin "abs"):=by trivial
theorem iM:bootBuiltins "max"=some (.builtin "max"):=by trivial
theorem uF:bootBuiltins "any"=some (.builtin "any"):=by trivial
theorem Qp:bootBuiltins "sorted"=some (.builtin "sorted"):=by trivial
theorem Ua:bootBuiltins "min"=some (.builtin "min"):=by trivial
theorem Zt:bootBuiltins "dict"=some (.type "dict"):=by trivial
structure Nm (mg:YB):Prop where
 isinstance:mg "isinstance"=none
 int:mg "int"=none
 bool:mg "bool"=none
 tuple:mg "tuple"=none
 list:mg "list"=none
 str:mg "str"=none
 len:mg "len"=none
 all:mg "all"=none
 abs:mg "abs"=none
 max:mg "max"=none
 min:mg "min"=none
 range:mg "range"=none
 sorted:mg "sorted"=none
 any:mg "any"=none
 sum:mg "sum"=none
 enumerate:mg "enumerate"=none
 zip:mg "zip"=none
 reversed:mg "reversed"=none
 dict:mg "dict"=none
 ord:mg "ord"=none
abbrev Yw:Stmt:=top 60
abbrev Q6:YF:=["_law_script","_law_k"]
theorem VP:Az ["_law_script","_law_k","_law_cell"] Q6 (Aj Yw):=by ac_rfl
abbrev V0:Stmt:=top 61
abbrev Ht:YF:=["_law_bag_here","_law_many"]
theorem Kc:Az ["_law_bag_here","_law_many","_law_digit","_law_primes","_law_step","_law_base","_law_found"] Ht (Aj V0):=by ac_rfl
theorem EG (v:V):isW v=(isI v&&!isB v):=by cases v <;> rfl
def Cd (H:Hp) (b:Addr) (n:Nat):Prop:=∃x y z:Int,H b=some (.lst [.int x,.int y,.int z])/\0<=x/\0<=y/\y<=4294967296/\0<=z/\z<=n
theorem Cd.same {H H':Hp} {b:Addr} {n:Nat} (h:Cd H b n) (s:Same H H'):Cd H' b n:=by
 obtain⟨x,y,z,e,r⟩:=h;exact⟨x,y,z,s _ _ e,r⟩
theorem Cd.mono {H:Hp} {b:Addr} {n m:Nat} (h:Cd H b n) (l:n<=m):Cd H b m:=by
 obtain⟨x,y,z,e,h1,h2,h3,h4,h5⟩:=h;exact⟨x,y,z,e,h1,h2,h3,h4,by omega⟩
theorem Cd.nb {H:Hp} {b p:Addr} {n:Nat} (h:Cd H b n) (hp:H p=none):b≠p:=by obtain⟨_,_,_,e,_⟩:=h;exact Ax e hp
theorem Cd.Ip {H:Hp} {b:Addr} {n:Nat} (h:Cd H b n):∀xs,H b≠some (.tup xs):=λxs z=>by obtain⟨_,_,_,e,_⟩:=h;rw[e] at z;cases z
theorem Cd.ex {H:Hp} {b:Addr} {n:Nat} (h:Cd H b n):∃o,H b=some o:=by obtain⟨_,_,_,e,_⟩:=h;exact⟨_,e⟩
theorem Cd.Ji {H H':Hp} {a b:Addr} {n:Nat} (h:Cd H b n) (s:Ah a H H') (ne:b≠a):Cd H' b n:=by
 obtain⟨x,y,z,e,r⟩:=h;exact⟨x,y,z,s _ _ e ne,r⟩
theorem Ar {n:Nat} (h:n<=1000):n<=sizeLine:=Qcx (Am h)
inductive m7 (K:YD) (vs:YG) (H:Hp) (Q:VK) (E:XK):Prop
 | mk (a:Addr) (ns:List Int) (k:Int) (_:vs=[.ref a,.int k]) (_:SqL K H a (ns.map V.int)) (_:ns.length<=63) (_:0<=k) (_:k<=100) (_:∀p o,H p=none->Cd (upd H p o) p 0->Q (.ref p) (upd H p o)):m7 K vs H Q E
inductive Om (vs:YG) (H:Hp) (Q:VK) (E:XK):Prop
 | mk (b:Addr) (n:Nat) (m:Int) (_:vs=[.ref b,.int m]) (_:Cd H b n) (_:n<=10000) (_:0 < m) (_:m < 1073741824) (_:∀r H',0<=r->r < m->Cd H' b (n+1)->Ah b H H'->Q (.int r) H'):Om vs H Q E
inductive Xa (K:YD) (vs:YG) (H:Hp) (Q:VK) (E:XK):Prop
 | mk (a:Addr) (ns:List Int) (_:vs=[.ref a]) (_:SqL K H a (ns.map V.int)) (_:ns.length<=63) (_:∀H',Q (.bl true) H'):Xa K vs H Q E
theorem at7 {i:Int} (h0:0<=i) (h7:i < 7) {a b c d e f g:Int} (P:Int->Prop) (ha:P a) (hb:P b) (hc:P c) (hd:P d) (he:P e) (hf:P f) (hg:P g):∃p,atI [V.int a,.int b,.int c,.int d,.int e,.int f,.int g] i=some (.int p)/\P p:=by
 have:i=0\/i=1\/i=2\/i=3\/i=4\/i=5\/i=6:=by omega
 rcases this with rfl | rfl | rfl | rfl | rfl | rfl | rfl
 ·exact⟨_,rq,ha⟩
 ·exact⟨_,rq,hb⟩
 ·exact⟨_,rq,hc⟩
 ·exact⟨_,rq,hd⟩
 ·exact⟨_,rq,he⟩
 ·exact⟨_,rq,hf⟩
 ·exact⟨_,rq,hg⟩
theorem FL {x:Int} {b:Bool}:p8 x (if b=true then 1 else 0):=.inr (by cases b <;> exact⟨by decide,by decide⟩)
section
variable {P:Program} {w:World} {K:YD} {mg:YB} {base:Heap}
theorem wA (C:Code K mg "_law_bag" Yw Q6) (T:Nm mg):Good P w K mg base "_law_bag" 1 Q6 (m7 K):=by
 refine C.good VP (λvs H Q E h=>?_) (λf cdv A outer s H vs Q E hr h=>?_)
 ·obtain⟨a,ns,k,rfl,_⟩:=h;rfl
 obtain⟨a,ns,k,rfl,hS,h63,h0,h1,q⟩:=h;refine⟨_,(Ae (Ba (i:=2) VP.nd rfl (Or.inl rfl) (Bh Cz (Bh Cz (Bh Jd (Bh Jd Af (pv 1)) (pv 1)) (Bh Jd Af (pv 1))) Af))
 (Ae (Cu (Bx nQ (pv 1) (Av Bj rfl T.len CV (Aa (pv 0) Ac)) (BP _)) (Ag (Ba (i:=2) VP.nd rfl (Or.inl rfl) (Bm Dv (pv 0) (pv 1) (λ_ _=>rfl)))) BJ)
 (Ag (Ay (BZ (Aa (Bh Jd (Av iK rfl T.abs uG (Aa (pv 2) Ac)) (Df aq rfl T.int iQ (Aa (Gx Hb (Av iK rfl T.abs uG (Aa (pv 2) Ac)) (Bh qQ Af Af) (BP _)) Ac))) (Aa (Bh Cz (Bh M4 (pv 2) Af) (Bh Jd Af (pv 1))) (Aa Af Ac)))))))),?_⟩
 show let R0:TS:=_;let R1:TS:=_;let R2:TS:=Ao (Jl _ R1 _) R0;Ao _ R2 _ _ _;intro R0 R1 R2;refine⟨_,rq,_,_,rq,rq,.inl ⟨by decide,by decide⟩,_,rq,_,_,rq,rq,.inr ⟨by omega,by omega⟩,_,rq,_,_,rq,rq,.inl ⟨by decide,by decide⟩,_,_,rq,rq,_,_,rq,rq,?_⟩;refine⟨_,rq,_,rq,a,_,rq,.inl hS,_,_,rq,rq,_,rq,?_⟩;have hl:(ns.map V.int).length=ns.length:=QbM _;have fin:∀(c:Int) (p:Addr),H p=none->Q (.ref p) (upd H p (.lst [.int ((if c < 0 then -c else c)*(if decide ((10:Int) ^ (18:Int).toNat<=(if c < 0 then -c else c))=true then 1 else 0)),.int (c % 2147483647+37*k),.int 0])):=λc p hp=>by
  refine q p _ hp ⟨_,_,_,Ab,?_,?_,?_,by omega,by omega⟩
  ·refine Int.mul_nonneg ?_ ?_
   ·split <;> omega
   ·split <;> omega
  ·have:=Qca c (show (2147483647:Int)≠0 by decide);omega
  ·have:=Qbm c (show (0:Int) < 2147483647 by decide);omega
 refine Nk (λc1=>?_) (λc1=>?_)
 ·have c':k < (((ns.map V.int).length:Nat):Int):=Qbt c1;rw[hl] at c';have hk:k.toNat < ns.length:=by omega
  have hat:atI (ns.map V.int) ((k.toNat:Nat):Int)=some (.int ns[k.toNat]):=Fb (by rw[Qbq];simp[hk]);rw[QaW h0] at hat;refine⟨_,rq,_,rq,a,_,_,_,rq,rq,hS,hat,?_⟩;exact⟨_,rq,_,rq,_,rq,_,rq,_,_,rq,rq,⟨by decide,by decide,by decide⟩,_,_,rq,rq,.inr ⟨_,rq,_,_,rq,rq,FL,_,rq,_,_,rq,rq,(by show (0:Int) < 2147483647;decide),_,rq,_,_,rq,rq,.inl ⟨by decide,by decide⟩,_,_,rq,rq,
   (by show 3<=sizeLine;decide),λl hl'=>fin _ l hl'⟩⟩
 ·exact⟨_,rq,_,rq,_,rq,_,rq,_,_,rq,rq,⟨by decide,by decide,by decide⟩,_,_,rq,rq,.inr ⟨_,rq,_,_,rq,rq,FL,_,rq,_,_,rq,rq,(by show (0:Int) < 2147483647;decide),_,rq,_,_,rq,rq,.inl ⟨by decide,by decide⟩,_,_,rq,rq,
   (by show 3<=sizeLine;decide),λl hl'=>fin _ l hl'⟩⟩
theorem qZ (C:Code K mg "_law_take" V0 Ht) (T:Nm mg):Good P w K mg base "_law_take" 1 Ht Om:=by
 refine C.good Kc (λvs H Q E h=>?_) (λf cdv A outer s H vs Q E hr h=>?_)
 ·obtain⟨b,n,m,rfl,_⟩:=h;rfl
 obtain⟨b,n,m,rfl,⟨x,y,z,hb,x0,y0,y1,z0,z1⟩,hn,m0,m1,q⟩:=h;refine⟨_,(Ae (Cu (Bx Ux (Bm Dv (pv 0) Af (λ_ _=>rfl)) Af (BP _)) (Ae (Ba (i:=2) Kc.nd rfl (Or.inl rfl) (Bh M4 (Bm Dv (pv 0) Af (λ_ _=>rfl)) (pv 1)))
 (Ae (Hz (Bh Y4 (Bm Dv (pv 0) Af (λ_ _=>rfl)) (pv 1)) (d9 (pv 0) Af set_list))
 (Ag (Ay (pv 2))))) BJ)
 (Ae (Ba (i:=3) Kc.nd rfl (Or.inl rfl) (@Bd _ _ _ _ _ (@Aa _ _ _ _ _ (@Af _ _ _ _) (@Aa _ _ _ _ _ (@Af _ _ _ _) (@Aa _ _ _ _ _ (@Af _ _ _ _) (@Aa _ _ _ _ _ (@Af _ _ _ _) (@Aa _ _ _ _ _ (@Af _ _ _ _) (@Aa _ _ _ _ _ (@Af _ _ _ _) (@Aa _ _ _ _ _ (@Af _ _ _ _) (@Ac _) Bl) Bl) Bl) Bl) Bl) Bl) Bl)))
 (Ae (Hz (Bh Cz (Bm Dv (pv 0) Af (λ_ _=>rfl)) Af) (d9 (pv 0) Af set_list))
 (Ae (Ba (i:=4) Kc.nd rfl (Or.inl rfl) (Bm Dv (pv 0) Af (λ_ _=>rfl)))
 (Ae (Ba (i:=5) Kc.nd rfl (Or.inl rfl) (Bh Cz (Bh Cz (Bh Jd (Bm Dv (pv 0) Af (λ_ _=>rfl)) (Bh Cz (Bh Jd Af (pv 4)) Af)) (Bh Jd (Bh Jd Af (pv 4)) (pv 4))) Af))
 (Ae (Ba (i:=6) Kc.nd rfl (Or.inl rfl) (Bh M4 (Bh qQ (pv 5) Af) (Bm Ca (pv 3) (Bh M4 (pv 4) Af) (λ_ _=>rfl))))
 (Ag (Ay (Bh M4 (Bh Y4 (Bh M4 (Bh Jd (pv 6) (Bh Cz (Bh Y4 (pv 6) Af) Af)) (Bm Ca (pv 3) (Bh M4 (Bh Cz (pv 4) Af) Af) (λ_ _=>rfl))) Af) (pv 1)))))))))),?_⟩
 show let R0:TS:=_;let R1:TS:=Ao _ R0;let R2:TS:=Ao _ R1;let R3:TS:=Ao _ R2;let R4:TS:=Ao _ R3;let R5:TS:=Ao _ R4;let R6:TS:=Ao _ _;let R7:TS:=Ao _ R6;Ao (Jl _ R7 _) R5 _ _ _;intro R0 R1 R2 R3 R4 R5 R6 R7;refine⟨_,rq,b,_,_,_,rq,rq,SqL.of hb,rq,_,_,rq,rq,_,rq,?_⟩;refine Nk (λc1=>?_) (λc1=>?_)
 ·have c':0 < x:=Qbt c1;refine⟨_,rq,b,_,_,_,rq,rq,SqL.of hb,rq,_,rq,_,_,rq,rq,m0,?_⟩;refine⟨_,rq,b,_,_,_,rq,rq,SqL.of hb,rq,_,rq,_,_,rq,rq,⟨m0,m1⟩,_,rq,b,_,_,_,rq,rq,hb,rq,?_⟩;exact⟨_,rq,q _ _ (Qca x (by omega)) (Qbm x m0) ⟨x / m,y,z,Ab,Int.ediv_nonneg x0 (by omega),y0,y1,z0,by omega⟩ Ah.upd⟩
 ·refine⟨(by show 7<=sizeLine;decide),λtp htp=>?_⟩;have nbt:b≠tp:=Ax hb htp;have hb1:∀o,(upd H tp o) b=some (.lst [.int x,.int y,.int z]):=λo=>by rw[Aq nbt];exact hb
  have ht1:∀o u,(upd (upd H tp o) b u) tp=some o:=λo u=>by rw[Aq nbt.symm,Ab]
  refine⟨_,rq,b,_,_,_,rq,rq,SqL.of (hb1 _),rq,_,_,rq,rq,_,rq,b,_,_,_,rq,rq,hb1 _,rq,?_⟩;refine⟨_,rq,b,_,_,_,rq,rq,SqL.of Ab,rq,?_⟩;have s0:0<=z+1:=by omega
  have s1:z+1<=10001:=by omega
  refine⟨_,rq,b,_,_,_,rq,rq,SqL.of Ab,rq,_,rq,_,_,rq,rq,.inl ⟨by decide,by decide⟩,_,_,rq,rq,_,_,rq,rq,.inl ⟨by omega,by omega⟩,_,rq,_,_,rq,rq,.inl ⟨by decide,by decide⟩,_,rq,_,_,rq,rq,.inr ⟨by omega,by omega⟩,
   _,_,rq,rq,_,_,rq,rq,?_⟩
  have hbase:(y*(2*(z+1)+1)+6007*(z+1)*(z+1)+29).natAbs < 2 ^ 64:=by
   have h1:0<=y*(2*(z+1)+1):=Int.mul_nonneg y0 (by omega);have h2:y*(2*(z+1)+1)<=4294967296*20003:=Int.mul_le_mul y1 (by omega) (by omega) (by omega);have h3:0<=6007*(z+1)*(z+1):=Int.mul_nonneg (by omega) s0;have h4:6007*(z+1)*(z+1)<=(6007*10001)*10001:=Int.mul_le_mul (by omega) s1 s0 (by omega);omega
  obtain⟨p1,e1,p10,p11⟩:=at7 (i:=(z+1) % 7) (Qca _ (by decide)) (Qbm _ (by decide)) (a:=2147483629) (b:=2147483587) (c:=2147483579) (d:=2147483563) (e:=2147483549) (f:=2147483543) (g:=2147483497)
   (λp=>0 < p/\p < 2147483648) (by decide) (by decide) (by decide) (by decide) (by decide) (by decide) (by decide)
  obtain⟨p2,e2,p20,p21⟩:=at7 (i:=(z+1+3) % 7) (Qca _ (by decide)) (Qbm _ (by decide)) (a:=2147483629) (b:=2147483587) (c:=2147483579) (d:=2147483563) (e:=2147483549) (f:=2147483543) (g:=2147483497)
   (λp=>0 < p/\p < 2147483648) (by decide) (by decide) (by decide) (by decide) (by decide) (by decide) (by decide)
  refine⟨_,rq,_,_,rq,rq,⟨by decide,by decide,hbase⟩,_,rq,_,rq,_,_,rq,rq,(by show (0:Int) < 7;decide),tp,_,_,_,rq,rq,SqT.of (ht1 _ _),e1,_,_,rq,rq,p10,?_⟩;generalize hF:(y*(2*(z+1)+1)+6007*(z+1)*(z+1)+29) ^ (3:Int).toNat % p1=F;have F0:0<=F:=by rw[<-hF];exact Qca _ (by omega)
  have F1:F < p1:=by rw[<-hF];exact Qbm _ p10
  refine⟨_,rq,_,rq,_,_,rq,rq,⟨by decide,by decide⟩,_,_,rq,rq,_,_,rq,rq,.inl ⟨by omega,by omega⟩,_,rq,_,rq,_,_,rq,rq,_,_,rq,rq,(by show (0:Int) < 7;decide),tp,_,_,_,rq,rq,SqT.of (ht1 _ _),e2,_,_,rq,rq,p20,
   _,_,rq,rq,⟨by decide,by decide⟩,_,rq,_,_,rq,rq,m0,?_⟩
  refine q _ _ (Qca _ (by omega)) (Qbm _ m0) ⟨x,y,z+1,Ab,x0,y0,y1,s0,by omega⟩ λc o e nc=>?_;rw[Aq nc,Aq (Ax e htp)];exact e
end
abbrev Rq:Stmt:=top 62
abbrev O5:YF:=["_law_bag_here"]
abbrev xy:YF:=["_law_bag_here","_law_letters"]
theorem ZP:Az xy O5 (Aj Rq):=by ac_rfl
abbrev PX:Stmt:=top 63
abbrev Mx:YF:=["_law_bag_here","_law_many"]
abbrev xz:YF:=["_law_bag_here","_law_many","_law_found","_law_place","_law_name_here"]
theorem Kw:Az xz Mx (Aj PX):=by ac_rfl
theorem BI {K:YD} {H:Hp} {z:Str} {Q:VK} (q:Q (.bl true) H):QB K [.str z,.ty "str"] H Q:=by
 unfold QB;exact⟨_,_,_,_,rq,.str z,by rfl,q⟩
def abc:Str:="abcdefghijklmnopqrstuvwxyz"
def okS (z:Str):Prop:=∀c∈z.cps.toList,c∈abc.cps.toList
theorem okS.ok {z:Str} (h:okS z):PyData.strOk z=true:=by
 have ha:abc.cps.toList.all (λc=>decide (c < 0x110000))=true:=by trivial
 unfold PyData.strOk;rw[Array.all_eq_true'];exact λc hc=>List.all_eq_true.mp ha c (h c (Array.mem_toList_iff.mpr hc))
theorem okS.append {x y:Str} (h:okS x) (h':okS y):okS (x++y):=by
 intro c hc;have:c∈x.cps.toList++y.cps.toList:=by
  have e:(x++y).cps=x.cps++y.cps:=rfl;rw[e,Array.toList_append] at hc;exact hc
 rcases QbO.mp this with z | z
 ·exact h c z
 ·exact h' c z
theorem okS.slice {x:Str} (h:okS x) (l u:Option Int):okS (Txt.slice x l u):=by
 unfold Txt.slice;split
 ·exact h
 ·intro c hc;have hc':c∈(Builtin.Str.strSliceIndices l u 1 x.length).filterMap (x.cps[·]?):=by simpa using hc
  obtain⟨i,_,e⟩:=List.mem_filterMap.mp hc';exact h c (Array.mem_toList_iff.mpr (Array.mem_of_getElem? e))
theorem okS.join {sep:Str} (hs:okS sep):∀{ts:YF},(∀t∈ts,okS t)->okS (Str.join sep ts)
 | [],_=>λc hc=>by cases hc
 | [x],h=>h x (QaZ ..)
 | x::y::r,h=>((h x (QaZ ..)).append hs).append (okS.join hs (ts:=y::r) λt ht=>h t (QaL _ ht))
theorem Vd:abc.cps.toList.length=26:=by trivial
theorem FV:abc.cps.toList.Nodup:=by trivial
theorem uI:okS abc:=λc hc=>hc
theorem gA:∀ts:YF,(Str.join "" ts).length=(ts.map (·.length)).sum
 | []=>rfl
 | [x]=>by show x.length=_;simp
 | x::y::r=>by
  show ((x++"")++Str.join "" (y::r)).length=_;rw[Str.length_append,Str.length_append,gA (y::r),Qck (a:=x),List.sum_cons];have:(Str.ofString "").length=0:=by trivial
  rw[this];omega
theorem NJ (n:Nat):(Builtin.Str.strSliceIndices (some 1) none 1 n).length<=n - 1:=by
 unfold Builtin.Str.strSliceIndices sliceRange;simp only[show (1:Int) > 0 by decide,if_true,QbM,Qbz,show ¬((1:Int) < 0) by decide,if_false];split
 ·rw[Int.ediv_one];omega
 ·exact QcE _
theorem qx (z:Str):(Txt.slice z (some 1) none).length<=z.length - 1:=by
 have h:=NJ z.length;unfold Txt.slice;split
 ·rename_i hc;rw[QbI] at hc;have:=eq_of_beq hc.2;omega
 ·show (List.filterMap _ _).toArray.size<=_;rw[Qbo];exact Qcv (List.length_filterMap_le _ _) h
theorem FX {r:Int} (h0:0<=r) (h1:r < 26):∃c,atI abc.cps.toList r=some c/\okS ⟨#[c]⟩:=by
 have hl:r.toNat < abc.cps.toList.length:=by rw[Vd];omega
 refine⟨abc.cps.toList[r.toNat],?_,λc hc=>?_⟩
 ·have:=Fb (xs:=abc.cps.toList) (j:=r.toNat) (Qao hl);rw[QaW h0] at this;exact this
 ·have:c=abc.cps.toList[r.toNat]:=by simpa using hc
  rw[this];exact uI _ (List.getElem_mem hl)
theorem bZ:∀{ys:YF},(∀y∈ys,y.length=1)->(ys.map (·.length)).sum=ys.length
 | [],_=>rfl
 | y::r,h=>by
  rw[Qck,List.sum_cons,h y (QaZ ..),bZ (ys:=r) λt ht=>h t (QaL _ ht),QbC];omega
theorem Z7 (ys:YF):(ys.map V.str).all Mj=true:=by
 rw[List.all_map,List.all_eq_true];intro _ _;rfl
theorem Rx (z:Str):∀ys:YF,inV (.str z) (ys.map V.str)=true ↔ z∈ys
 | []=>by constructor <;> intro h <;> cases h
 | y::r=>by
  have ih:=Rx z r;unfold inV at ih ⊢;rw[Qck,Qco,Bool.or_eq_true,ih,Qcj];have:eqV (.str y) (.str z)=true ↔ z=y:=by
   show (y == z)=true ↔ z=y;rw[beq_iff_eq];exact⟨λh=>h.symm,λh=>h.symm⟩
  rw[this]
theorem ZW:∀{l m:YF},l.Nodup->(∀x∈l,x∈m)->l.length<=m.length
 | [],_,_,_=>QcE _
 | a::r,m,nd,h=>by
  have ha:=h a (QaZ ..);obtain⟨n1,n2⟩:=QbT.mp nd;have:=ZW (l:=r) (m:=m.erase a) n2 λx hx=>(List.mem_erase_of_ne (λe=>n1 (by rw[<-e];exact hx))).mpr (h x (QaL _ hx));rw[List.length_erase_of_mem ha] at this;have hp:=List.length_pos_of_mem ha;rw[QbC];omega
theorem jG (rest:Str) {ys:YF} (h:ys.length < 26):∃(i c:Nat),abc.cps[i]?=some c/\((⟨#[c]⟩ : Str)++rest)∉ys:=by
 refine Qaj λhn=>?_;have hall:∀x∈abc.cps.toList.map (λc=>(⟨#[c]⟩ : Str)++rest),x∈ys:=λx hx=>by
  obtain⟨c,hc,rfl⟩:=Qcs.mp hx;obtain⟨i,hi⟩:=QaO hc;refine Qaj λhm=>hn ⟨i,c,by simpa using hi,hm⟩
 have nd:(abc.cps.toList.map (λc=>(⟨#[c]⟩ : Str)++rest)).Nodup:=by
  refine Qbx.mpr (FV.imp λ{c d} hne e=>hne ?_);have e1:(#[c]++rest.cps:Array Nat)=#[d]++rest.cps:=congrArg Str.cps e;have e2:=congrArg Array.toList e1;rw[Array.toList_append,Array.toList_append] at e2;injection e2
 have:=ZW nd hall;rw[QbM,Vd] at this;omega
theorem QcM {α : Type} {l:List α} {i:Nat} {x:α} (h:l[i]?=some x):l.take (i+1)=l.take i++[x]:=by rw[List.take_add_one,h];rfl
theorem pO {X:Cx} {K:YD} (h:X.K=K) (hc:X.calm=true):DW X (.builtin "max") (λxs H Q=>∃(p:Addr) (ns:List Int),xs=[.ref p]/\SqL K H p (ns.map V.int)/\0 < ns.length/\∀M,M∈ns->(∀a,a∈ns->a<=M)->Q (.int M) H):=h ▸ ak hc
theorem Ah.Rj {a b:Addr} {H HH H':Hp} (s:Ah b H HH) (t:Ah a HH H') (f:H a=none):Ah b H H':=λc o e n=>t _ _ (s _ _ e n) λz=>by rw[z,f] at e;cases e
theorem RU {i:Int} (h0:0<=i) (h6:i < 6) {a b c d e f:Int} (P:Int->Prop) (ha:P a) (hb:P b) (hc:P c) (hd:P d) (he:P e) (hf:P f):∃p,atI [V.int a,.int b,.int c,.int d,.int e,.int f] i=some (.int p)/\P p:=by
 have:i=0\/i=1\/i=2\/i=3\/i=4\/i=5:=by omega
 rcases this with rfl | rfl | rfl | rfl | rfl | rfl
 ·exact⟨_,rq,ha⟩
 ·exact⟨_,rq,hb⟩
 ·exact⟨_,rq,hc⟩
 ·exact⟨_,rq,hd⟩
 ·exact⟨_,rq,he⟩
 ·exact⟨_,rq,hf⟩
inductive cI (vs:YG) (H:Hp) (Q:VK) (E:XK):Prop
 | mk (b:Addr) (n:Nat) (_:vs=[.ref b]) (_:Cd H b n) (_:n<=9000) (_:∀z H',1<=z.length->z.length<=8->okS z->Cd H' b (n+9)->Ah b H H'->Q (.str z) H'):cI vs H Q E
inductive Ym (vs:YG) (H:Hp) (Q:VK) (E:XK):Prop
 | mk (b:Addr) (n many:Nat) (_:vs=[.ref b,.int many]) (_:Cd H b n) (_:n<=8000) (_:many<=20) (_:∀l (ys:YF) H',H l=none->ys.length=many->(∀y∈ys,(1<=y.length/\y.length<=8)/\okS y)->ys.Nodup->H' l=some (.lst (ys.map V.str))->Cd H' b (n+9*many)->Ah b H H'->Q (.ref l) H'):Ym vs H Q E
section
variable {P:Program} {w:World} {K:YD} {mg:YB} {base:Heap}
abbrev js(a:PySem.Addr):Option L2.V:=some (.ref a)
abbrev xA:YF:=["_law_place","_law_letters","_law_bag_here"]
theorem A4 (C:Code K mg "_law_name" Rq O5) (T:Nm mg) (BL:Good P w K mg base "_law_take" 1 Ht Om):Good P w K mg base "_law_name" 2 O5 cI:=by
 refine C.good ZP (λvs H Q E h=>?_) (λf cdv A outer s H vs Q E hr h=>?_)
 ·obtain⟨b,n,rfl,_⟩:=h;rfl
 obtain⟨b,n,rfl,hb,hn,q⟩:=h;refine⟨_,(Ae (Ba (i:=1) ZP.nd rfl (Or.inr rfl) Bf)
 (Ag (Ay (Cy PySem.F.plainAttrs_str PySem.F.slot_str_join PySem.F.type_str_join BE Bf (Aa (Cw (N':=xA) rfl (Bk.of (src:=[none,some 1,some 0]) (Aj Rq) xy rfl rfl rfl (by trivial) (by trivial) (by trivial) rfl (by trivial)) (Dr rfl T.range (Aa (Bh Cz Af (Cm BL hr (Aa (pv 0) (Aa Af Ac)))) Ac)) (λ_ _ _ _=>(Ai (i:=0) (show List.Nodup (xA:YF) by trivial) rfl (Or.inl rfl))) (λ_ _ _ _=>CZ) (λ_ _ _ _=>(Bm EE (pv 1) (Cm BL hr (Aa (pv 2) (Aa Af Ac))) (λ_ _=>rfl)))) Ac))))),?_⟩
 show let R0:TS:=_;Ao _ R0 _ _ _;intro R0;refine⟨rq,_,rq,b,n,8,rq,hb,by omega,by decide,by decide,λr H1 r0 r1 hb1 sb1=>⟨_,_,rq,rq,_,rq,by omega,by omega,λl hl=>?_⟩⟩;have nbl:b≠l:=hb1.nb hl;have fl:H l=none:=sb1.free hb1.ex hl;let J0:YN:=λi U HH=>∃(u:Option V) (ys:YF),U=[u,some (.str abc),js b]/\HH l=some (.lst (ys.map V.str))/\ys.length=i/\(∀y∈ys,y.length=1/\okS y)/\Cd HH b (n+1+i)/\Ah b H HH;refine K5 J0
  ⟨none,[],rq,Ab,rq,(λy hy=>by cases hy),hb1.same (Ad hl _),sb1.trans (Ah.of (Ad hl _))⟩ (λi U HH hi h=>?_) (fun U HH h=>?_)
 ·obtain⟨u,ys,rfl,e1,e2,e3,e4,e5⟩:=h;refine⟨_,rq,_,rq,b,_,26,rq,e4,by omega,by decide,by decide,λr' HA r0' r1' hbA sA=>?_⟩;obtain⟨c,ec,oc⟩:=FX r0' r1';have eA:=sA _ _ e1 nbl.symm;refine⟨_,_,c,rq,rq,Ar (by show abc.cps.size<=1000;rw[<-QaS,Vd];decide),ec,_,eA,Am (by rw[QbM];omega),_,ys++[⟨#[c]⟩],rq,?_,?_,λy hy=>?_,hbA.Ji Ah.upd nbl,?_⟩
  ·rw[Ab,QbN];rfl
  ·rw[QaY,e2];rfl
  ·rcases QbO.mp hy with h | h
   ·exact e3 y h
   ·have:y=⟨#[c]⟩:=by simpa using h
    rw[this];exact⟨rq,oc⟩
  ·exact λc o e ne=>Ah.upd _ _ (sA _ _ (e5 _ _ e ne) ne) λz=>by rw[z,fl] at e;cases e
 obtain⟨u,ys,rfl,e1,e2,e3,e4,e5⟩:=h;have hs:=bZ λy hy=>(e3 y hy).1;refine⟨_,l,ys,rq,rq,SqL.of e1,?_,?_⟩
 ·rw[hs];have:(Str.ofString "").length=0:=by trivial
  rw[this];omega
 ·have hj:=gA ys;rw[hs] at hj;refine q _ HH ?_ ?_ ?_ (e4.mono (by omega)) e5
  ·show 1<=(Builtin.Str.glued _ ys).length;rw[StrLaws.glued_eq_join];show 1<=(Str.join "" ys).length;omega
  ·show (Builtin.Str.glued _ ys).length<=8;rw[StrLaws.glued_eq_join];show (Str.join "" ys).length<=8;omega
  ·show okS (Builtin.Str.glued _ ys);rw[StrLaws.glued_eq_join];exact okS.join (λc hc=>by cases hc) λy hy=>(e3 y hy).2
abbrev xB:YF:=["_law_one","_law_name_here","_law_found"]
theorem wz (C:Code K mg "_law_names" PX Mx) (T:Nm mg) (yH:Good P w K mg base "_law_name" 2 O5 cI):Good P w K mg base "_law_names" 3 Mx Ym:=by
 refine C.good Kw (λvs H Q E h=>?_) (λf cdv A outer s H vs Q E hr h=>?_)
 ·obtain⟨b,n,many,rfl,_⟩:=h;rfl
 obtain⟨b,n,many,rfl,hb,hn,hm,q⟩:=h;refine⟨_,(Ae (Ba (i:=2) Kw.nd rfl (Or.inr rfl) (BZ Ac))
 (Ae (Ck QbQ rfl (Dr rfl T.range (Aa (pv 1) Ac)) (Ai (i:=3) Kw.nd rfl (Or.inl rfl))
 (Ae (Ba (i:=4) Kw.nd rfl (Or.inr rfl) (BR yH hr (Aa (pv 0) Ac)))
 (Ae (Cu (Bx Tj (pv 4) (pv 2) (by with_unfolding_all rfl)) (Ag (Ba (i:=4) Kw.nd rfl (Or.inr rfl) (Bm Dv (Cw (N':=xB) rfl (Bk.of (src:=[none,some 4,some 2]) (Aj PX) xz rfl rfl rfl (by trivial) (by trivial) (by trivial) rfl (by trivial)) (qL Bf) (λ_ _ _ _=>(Ai (i:=0) (show List.Nodup (xB:YF) by trivial) rfl (Or.inl rfl))) (λ_ _ _ _=>(G8 (Bx (RT (K:=K) rfl) (Bh Xm (pv 0) (Li qy (pv 1) (Oa Af) Ob)) (pv 2) (by with_unfolding_all rfl)))) (λ_ _ _ _=>(Bh Xm (pv 0) (Li qy (pv 1) (Oa Af) Ob)))) Af (λ_ _=>rfl)))) BJ)
 (Ag (Bo (Cy Qat Qap Qaq BX (pv 2) (Aa (pv 4) Ac)))))))
 (Ag (Ay (pv 2))))),?_⟩
 show let R0:TS:=_;let R1:TS:=_;let R2:TS:=Ao (Jl _ R1 _) R0;let R3:TS:=Ao _ R2;let R4:TS:=Ao (Dm _ _ R3) _;Ao _ R4 _ _ _;intro R0 R1 R2 R3 R4;refine⟨Ar (by show 0<=1000;decide),λlf hlf=>?_⟩;have s1:=Ad hlf (.lst []);have nbf:b≠lf:=hb.nb hlf;refine⟨_,rq,_,rq,by omega,by omega,?_⟩;rw[Qbr];let J1:YN:=λi U HH=>∃(u3 u4:Option V) (ys:YF),U=[js b,some (.int many),js lf,u3,u4]/\HH lf=some (.lst (ys.map V.str))/\ys.length=i/\(∀y∈ys,(1<=y.length/\y.length<=8)/\okS y)/\Cd HH b (n+9*i)/\Ah b H HH/\ys.Nodup;refine Fx J1
  ⟨_,_,[],rq,Ab,rq,(λy hy=>by cases hy),hb.same s1,Ah.of s1,Qcf⟩ (λi U HH hi h=>?_) (fun U HH h=>?_)
 ·obtain⟨u3,u4,ys,rfl,e1,e2,e3,e4,e5,e6⟩:=h;refine⟨_,rq,b,_,rq,e4,by omega,λz HA hz1 hz oz hbA sA=>?_⟩;have eA:=sA _ _ e1 nbf.symm;have s5:Ah b H HA:=e5.trans sA;have fin:∀(y:Str) (HB:Hp),(1<=y.length/\y.length<=8)->okS y->y∉ys->HB lf=some (.lst (ys.map V.str))->Cd HB b (n+9*i+9)->Ah b H HB->∃(u3 u4:Option V) (ys':YF),[some (V.ref b),some (.int many),js lf,some (.int (0+(i:Int))),some (.str y)]=[js b,some (.int many),js lf,u3,u4] /\
    upd HB lf (.lst (ys.map V.str++[.str y])) lf=some (.lst (ys'.map V.str))/\ys'.length=i+1/\(∀y∈ys',(1<=y.length/\y.length<=8)/\okS y)/\Cd (upd HB lf (.lst (ys.map V.str++[.str y]))) b (n+9*(i+1))/\Ah b H (upd HB lf (.lst (ys.map V.str++[.str y])))/\ys'.Nodup:=λy HB hy oy hny hB bB sB=>by
   refine⟨_,_,ys++[y],rq,?_,?_,λx hx=>?_,(bB.Ji Ah.upd nbf).mono (by omega),Ah.Rj sB Ah.upd hlf,lB e6 hny⟩
   ·rw[Ab,QbN];rfl
   ·rw[QaY,e2];rfl
   ·rcases QbO.mp hx with h | h
    ·exact e3 x h
    ·have:x=y:=by simpa using h
     rw[this];exact⟨hy,oy⟩
  refine⟨_,rq,_,rq,lf,_,rq,.inl (SqL.of eA),rq,Z7 ys,_,rq,Nk (λ_=>?_) (λhnz=>?_)⟩
  ·refine⟨_,rq,λl2 hl2=>?_⟩;have nfl:lf≠l2:=Ax eA hl2;have hsl:(Txt.slice z (some 1) none).length<=7:=Qcv (qx z) (by omega);have osl:=oz.slice (some 1) none;let J2:YN:=λi U HH=>∃(u:Option V) (ws:YF),U=[u,some (.str z),js lf]/\HH=upd HA l2 (.lst (ws.map V.str))/\ws.length<=i/\(∀y∈ws,((1<=y.length/\y.length<=8)/\okS y)/\y∉ys)/\((∃j c,j < i/\abc.cps[j]?=some c/\((⟨#[c]⟩ : Str)++Txt.slice z (some 1) none)∉ys)->ws≠[]);refine iu J2
    ⟨none,[],rfl,rfl,QcD _,(λy hy=>by cases hy),λ⟨j,c,hj,_⟩=>absurd hj (QbZ _)⟩ (λj c U HH hc h=>?_) (fun U HH h=>?_)
   ·obtain⟨u,ws,rfl,rfl,l1,l2',l3⟩:=h;have hj:j < 26:=by
     have:=(Qaf.mp hc).1;rw[<-QaS] at this;have e:=Vd;unfold abc at e;omega
    have oc:okS ⟨#[c]⟩:=λd hd=>by
     have:d=c:=by simpa using hd
     rw[this];exact uI c (Array.mem_toList_iff.mpr (Array.mem_of_getElem? hc))
    have hlen:(⟨#[c]⟩ : Str).length+(Txt.slice z (some 1) none).length<=sizeLine:=by
     show 1+_<=sizeLine;rw[QcH];omega
    have hzl:z.length<=sizeLine:=by rw[QcH];omega
    have eB:upd HA l2 (.lst (ws.map V.str)) lf=some (.lst (ys.map V.str)):=by rw[Aq nfl];exact eA
    refine⟨_,rq,_,rq,_,rq,_,rq,hzl,_,_,rq,rq,hlen,_,rq,lf,_,rq,.inl (SqL.of eB),rq,Z7 ys,_,rq,Nk (λt=>?_) (λt=>?_)⟩
    ·refine⟨_,rq,_,rq,_,rq,_,rq,hzl,_,_,rq,rq,hlen,_,Ab,Am (by rw[QbM];omega),_,ws++[(⟨#[c]⟩ : Str)++Txt.slice z (some 1) none],rq,?_,?_,λy hy=>?_,λ_ e=>?_⟩
     ·rw[Uk,QbN];rfl
     ·rw[QaY];show _+1<=_;omega
     ·rcases QbO.mp hy with h | h
      ·exact l2' y h
      ·have e:y=(⟨#[c]⟩ : Str)++Txt.slice z (some 1) none:=by simpa using h
       rw[e];refine⟨⟨⟨by rw[Str.length_append];show 1<=1+_;omega,by rw[Str.length_append];show 1+_<=8;omega⟩,oc.append osl⟩,λhin=>?_⟩;have t:(!inV (.str ((⟨#[c]⟩ : Str)++Txt.slice z (some 1) none)) (ys.map V.str))=true:=t;rw[(Rx _ ys).mpr hin] at t;cases t
     ·have:=congrArg List.length e;rw[QaY] at this;simp at this
    ·refine⟨_,ws,rfl,rfl,by omega,l2',λ⟨j',c',hj',hc',hn'⟩=>?_⟩;by_cases ej:j'=j
     ·subst ej;have ec:c'=c:=by
       have e1:abc.cps[j']?=some c:=hc;rw[hc'] at e1;exact QbS e1
      subst ec;exfalso;apply t;show (!inV (.str ((⟨#[c']⟩ : Str)++Txt.slice z (some 1) none)) (ys.map V.str))=true;cases e:inV (.str ((⟨#[c']⟩ : Str)++Txt.slice z (some 1) none)) (ys.map V.str) with
      | false=>rfl
      | true=>exact absurd ((Rx _ ys).mp e) hn'
     ·exact l3 ⟨j',c',by omega,hc',hn'⟩
   ·obtain⟨u,ws,rfl,rfl,l1,l2',l3⟩:=h;obtain⟨j,c,hc,hnot⟩:=jG (Txt.slice z (some 1) none) (ys:=ys) (by omega);have hws:=l3 ⟨j,c,(Qaf.mp hc).1,hc,hnot⟩;cases ws with
    | nil=>exact absurd rfl hws
    | cons w0 wr=>
     obtain⟨⟨y1,y2⟩,y3⟩:=l2' w0 (QaZ ..);have s2:=Ad hl2 (.lst ((w0::wr).map V.str));have eB:=s2 _ _ eA;refine⟨l2,_,_,_,rq,rq,SqL.of Ab,Fb (xs:=(w0::wr).map V.str) (j:=0) rfl,?_⟩;refine⟨_,rq,.inl ⟨rq,_,SqL.of eB⟩,_,rq,lf,_,_,rq,rq,eB,Am (by rw[QbM];omega),?_⟩;exact fin w0 _ y1 y2 y3 eB (hbA.same s2) (s5.trans (Ah.of s2))
  ·refine⟨_,rq,.inl ⟨rq,_,SqL.of eA⟩,_,rq,lf,_,_,rq,rq,eA,Am (by rw[QbM];omega),?_⟩;exact fin z HA ⟨hz1,hz⟩ oz (λhin=>hnz ((Rx _ ys).mpr hin)) eA hbA s5
 ·obtain⟨u3,u4,ys,rfl,e1,e2,e3,e4,e5,e6⟩:=h;exact⟨_,rq,q lf ys HH hlf e2 e3 e6 e1 e4 e5⟩
end
structure Dev where
 kind:Str
 addr:Int
structure Place where
 kind:Str
 addr:Int
 spur:List Dev
def K8 (H:Hp) (v:V) (d:Dev):Prop:=∃t,v=.ref t/\H t=some (.tup [.str d.kind,.int d.addr])
def Eo (H:Hp) (v:V) (p:Place):Prop:=∃t u vs,v=.ref t/\H t=some (.tup [.str p.kind,.int p.addr,.ref u])/\H u=some (.tup vs)/\Paired (K8 H) vs p.spur
def LoopAt (H:Hp) (v:V) (ps:List Place):Prop:=∃t vs,v=.ref t/\H t=some (.tup vs)/\Paired (Eo H) vs ps
theorem K8.tups {H H':Hp} (s:Ak H H') {v:V} {d:Dev} (h:K8 H v d):K8 H' v d:=by
 obtain⟨t,e,q⟩:=h;exact⟨t,e,s _ _ q⟩
theorem Eo.tups {H H':Hp} (s:Ak H H') {v:V} {d:Place} (h:Eo H v d):Eo H' v d:=by
 obtain⟨t,u,vs,e,q1,q2,q3⟩:=h;exact⟨t,u,vs,e,s _ _ q1,s _ _ q2,Paired.Aw q3 λ_ _ z=>z.tups s⟩
theorem LoopAt.tups {H H':Hp} (s:Ak H H') {v:V} {d:List Place} (h:LoopAt H v d):LoopAt H' v d:=by
 obtain⟨t,vs,e,q1,q2⟩:=h;exact⟨t,vs,e,s _ _ q1,Paired.Aw q2 λ_ _ z=>z.tups s⟩
theorem Paired.Cp {α β : Type} {F:α->β->Prop}:∀{l₁ : List α} {l₂ : List β} {i:Nat} {x:α},Paired F l₁ l₂->l₁[i]?=some x->∃y,l₂[i]?=some y/\F x y
 | _,_,_,_,.nil,h=>by simp at h
 | _,_,0,_,.cons a _,h=>by simp at h;subst h;exact⟨_,rfl,a⟩
 | _,_,i+1,x,.cons _ t,h=>by
  obtain⟨y,h1,h2⟩:=Paired.Cp (i:=i) (x:=x) t (by simpa using h);exact⟨y,by simpa using h1,h2⟩
theorem QcF {α β : Type} {F:α->β->Prop} {a:α} {b:β} (h:F a b):∀{l₁ : List α} {l₂ : List β},Paired F l₁ l₂->Paired F (l₁++[a]) (l₂++[b])
 | _,_,.nil=>.cons h .nil
 | _,_,.cons x t=>.cons x (QcF h t)
def Ib (k:Str):Prop:=k="seeker"\/k="knob"\/k="bell"\/k="door"
structure OkP (p:Place):Prop where
 spur:p.spur.length<=3
 kinds:∀d∈p.spur,Ib d.kind
 form:(p.kind="opener"/\p.addr=0/\p.spur=[])\/Ib p.kind
structure Zone where
 name:Str
 adr:List Int
def Hl (H:Hp) (v:V) (z:Zone):Prop:=∃t u,v=.ref t/\H t=some (.tup [.str z.name,.ref u])/\H u=some (.tup (z.adr.map V.int))
theorem Hl.tups {H H':Hp} (s:Ak H H') {v:V} {z:Zone} (h:Hl H v z):Hl H' v z:=by
 obtain⟨t,u,e,q1,q2⟩:=h;exact⟨t,u,e,s _ _ q1,s _ _ q2⟩
def FT (k:Str):Bool:=inV (.str k) [.str "seeker",.str "knob"]
def Gq (p:Place):List Dev:=⟨p.kind,p.addr⟩::p.spur
def Jk (ds:List Dev):List Int:=(ds.filter λd=>FT d.kind).map (·.addr)
def JK (ps:List Place):List Int:=ps.flatMap λp=>Jk (Gq p)
abbrev YU:=List (List Place)
def Gb (ls:YU):List Int:=ls.flatMap JK
theorem qg (ds:List Dev) (d:Dev):Jk (ds++[d])=Jk ds++(if FT d.kind=true then [d.addr] else []):=by
 unfold Jk;rw[Qbj,QbN];congr 1;by_cases h:FT d.kind=true
 ·rw[if_pos h];simp[List.filter,h]
 ·rw[if_neg h];simp[List.filter,h]
theorem qe (ps:List Place) (p:Place):JK (ps++[p])=JK ps++Jk (Gq p):=by unfold JK;rw[QaR];simp
theorem mH (ls:YU) (ps:List Place):Gb (ls++[ps])=Gb ls++JK ps:=by unfold Gb;rw[QaR];simp
def ptS (a:List Int×Int) (p:Place):List Int×Int:=if V.str p.kind=V.str "opener" then (a.1++[a.2],0) else (a.1,a.2+1+(p.spur.length:Int))
def pst (ps:List Place):List Int×Int:=ps.foldl ptS ([],0)
def Iz (ps:List Place):List Int:=(pst ps).1++[(pst ps).2]
theorem dW (ps:List Place) (p:Place):pst (ps++[p])=ptS (pst ps) p:=by unfold pst;rw[List.foldl_append];rfl
abbrev V1:Stmt:=top 64
abbrev O6:YF:=["_law_bag_here","_law_numbers","_law_most_places"]
theorem Kd:Az ["_law_bag_here","_law_numbers","_law_most_places","_law_places","_law_at","_law_many","_law_some","_law_way"] O6 (Aj V1):=by ac_rfl
abbrev SQ:Stmt:=top 65
abbrev Mw:YF:=["_law_places"]
theorem Kv:Az ["_law_places","_law_found","_law_kind_here","_law_address","_law_spur"] Mw (Aj SQ):=by ac_rfl
def DR (a b:Addr) (H H':Hp):Prop:=∀c o,H c=some o->c≠a->c≠b->H' c=some o
theorem DR.trans {a b:Addr} {H H1 H2:Hp} (x:DR a b H H1) (y:DR a b H1 H2):DR a b H H2:=λc o e n m=>y _ _ (x _ _ e n m) n m
theorem DR.l {a b:Addr} {H H1:Hp} (x:Ah a H H1):DR a b H H1:=λc o e n _=>x _ _ e n
theorem DR.r {a b:Addr} {H H1:Hp} (x:Ah b H H1):DR a b H H1:=λc o e _ m=>x _ _ e m
theorem DR.of {a b:Addr} {H H1:Hp} (x:Same H H1):DR a b H H1:=λc o e _ _=>x _ _ e
theorem DR.Rj {a b p:Addr} {H HH H':Hp} (s:DR a b H HH) (t:Ah p HH H') (f:H p=none):DR a b H H':=λc o e n m=>t _ _ (s _ _ e n m) λz=>by rw[z,f] at e;cases e
def adP (p:Place):List Int:=if V.str p.kind=V.str "opener" then [] else p.addr::p.spur.map (·.addr)
def adL (ps:List Place):List Int:=ps.flatMap adP
theorem Ww (ps:List Place) (p:Place):adL (ps++[p])=adL ps++adP p:=by unfold adL;rw[QaR];simp
def opP:Place:=⟨"opener",0,[]⟩
theorem Ha:OkP opP:=⟨by show 0<=3;decide,(λd hd=>by cases hd),.inl ⟨rfl,rfl,rfl⟩⟩
theorem FU:adP opP=[]:=if_pos rfl
theorem Xx {k:Str} (h:Ib k):¬V.str k=V.str "opener":=by
 rcases h with rfl | rfl | rfl | rfl <;> decide +kernel
theorem B6 {i:Int} (h0:0<=i) (h4:i < 4):∃k,atI [V.str "seeker",.str "knob",.str "bell",.str "door"] i=some (.str k)/\Ib k:=by
 have:i=0\/i=1\/i=2\/i=3:=by omega
 rcases this with rfl | rfl | rfl | rfl
 ·exact⟨_,rq,.inl rfl⟩
 ·exact⟨_,rq,.inr (.inl rfl)⟩
 ·exact⟨_,rq,.inr (.inr (.inl rfl))⟩
 ·exact⟨_,rq,.inr (.inr (.inr rfl))⟩
theorem Wr {xs:YG} {k:Nat} (h:k<=xs.length):JZ xs (some (k:Int)) none=xs.drop k:=by
 unfold JZ;rw[HT.dz,HT.kI,Nat.min_eq_left h];exact List.take_of_length_le (by rw[QbG];omega)
theorem qz {n:Nat} (h:0 < n):seqIndex? 0 n=some 0:=by
 unfold seqIndex?;simp only[if_neg (show ¬(0:Int) < 0 by decide)];rw[if_pos (by simp;omega)];rfl
inductive cJ (vs:YG) (H:Hp) (Q:VK) (E:XK):Prop
 | mk (b nb:Addr) (n mp:Nat) (ns:List Int) (_:vs=[.ref b,.ref nb,.int mp]) (_:Cd H b n) (_:n<=5000) (_:b≠nb) (_:H nb=some (.lst (ns.map V.int))) (_:1<=mp) (_:mp<=12) (_:ns.length<=100) (_:∀t ps ns' H',LoopAt H' (.ref t) ps->(∀p∈ps,OkP p)->1<=ps.length->ps.length<=mp->ns=adL ps++ns'->H' nb=some (.lst (ns'.map V.int))->Cd H' b (n+100)->DR b nb H H'->Q (.ref t) H'):cJ vs H Q E
inductive VH (vs:YG) (H:Hp) (Q:VK) (E:XK):Prop
 | mk (t:Addr) (ps:List Place) (_:vs=[.ref t]) (_:LoopAt H (.ref t) ps) (_:(∀p∈ps,OkP p)) (_:ps.length<=100) (_:∀l H',H' l=some (.lst ((Iz ps).map V.int))->Same H H'->Q (.ref l) H'):VH vs H Q E
def Au (b nb lp:Addr) (mp:Int) (H:Hp) (n:Nat) (ns:List Int) (i:Nat) (U : St) (HH:Hp):Prop:=
 ∃u4 u5 u6 u7 vs ps ns',U=[js b,js nb,some (.int mp),js lp,u4,u5,u6,u7]/\HH lp=some (.lst vs)/\Paired (Eo HH) vs ps/\ps.length=i/\(∀p∈ps,OkP p)/\ns=adL ps++ns'/\HH nb=some (.lst (ns'.map V.int))/\Cd HH b (n+1+7*i)/\DR b nb H HH
section
variable {P:Program} {w:World} {K:YD} {mg:YB} {base:Heap}
theorem A5 (C:Code K mg "_law_loop" V1 O6) (T:Nm mg) (BL:Good P w K mg base "_law_take" 1 Ht Om):Good P w K mg base "_law_loop" 2 O6 cJ:=by
 refine C.good Kd (λvs H Q E h=>?_) (λf cdv A outer s H vs Q E hr h=>?_)
 ·obtain⟨b,nb,n,mp,ns,rfl,_⟩:=h;rfl
 obtain⟨b,nb,n,mp,ns,rfl,hb,hn,nbn,hnb,T0,hmp,hns,q⟩:=h;refine⟨_,(Ae (Ba (i:=3) Kd.nd rfl (Or.inl rfl) (BZ Ac))
 (Ae (Ck QbQ rfl (Dr rfl T.range (Aa (Bh Cz Af (Cm BL hr (Aa (pv 0) (Aa (pv 2) Ac)))) Ac)) (Ai (i:=4) Kd.nd rfl (Or.inl rfl))
 (Ae (Ba (i:=5) Kd.nd rfl (Or.inl rfl) (Bh Cz Af (Bm Dv (@BZ _ _ _ _ (@Aa _ _ _ _ _ (@Af _ _ _ _) (@Aa _ _ _ _ _ (@Af _ _ _ _) (@Aa _ _ _ _ _ (@Af _ _ _ _) (@Aa _ _ _ _ _ (@Af _ _ _ _) (@Aa _ _ _ _ _ (@Af _ _ _ _) (@Aa _ _ _ _ _ (@Af _ _ _ _) (@Ac _) Bl) Bl) Bl) Bl) Bl) Bl)) (Cm BL hr (Aa (pv 0) (Aa Af Ac))) (λ_ _=>rfl))))
 (Ag (Cu (PW.pt (Mf (Bx GF (Cm BL hr (Aa (pv 0) (Aa Af Ac))) Af (BP _)) (Mu (Bx nQ (Av Bj rfl T.len CV (Aa (pv 1) Ac)) (pv 5) (BP _))))) (Ag (Bo (Cy Qat Qap Qaq BX (pv 3) (Aa (Bd (Aa Bf (Aa Af (Aa (Bd Ac) Ac)))) Ac)))) (Ae (Ba (i:=6) Kd.nd rfl (Or.inl rfl) (BZ Ac))
 (Ae (Ck QbQ rfl (Dr rfl T.range (Aa (pv 5) Ac)) (Ai (i:=7) Kd.nd rfl (Or.inl rfl))
 (Ag (Bo (Cy Qat Qap Qaq BX (pv 6) (Aa (Bd (Aa (Bm Dv (BZ (Aa Bf (Aa Bf (Aa Bf (Aa Bf Ac))))) (Cm BL hr (Aa (pv 0) (Aa Af Ac))) (λ_ _=>rfl)) (Aa (Cy Qat PySem.F.slot_list_pop PySem.F.type_list_pop fQ (pv 1) (Aa Af Ac)) Ac))) Ac)))))
 (Ag (Bo (Cy Qat Qap Qaq BX (pv 3) (Aa (Bh O8 (Bm Dv (pv 6) Af (λ_ _=>rfl)) (Bd (Aa (Df DQ rfl T.tuple Gn (Aa (Li AM (pv 6) (Oa Af) Ob) Ac)) Ac))) Ac))))))))))
 (Ag (Ay (Df DQ rfl T.tuple Gn (Aa (pv 3) Ac)))))),?_⟩
 show let R0:TS:=_;let R1:TS:=_;let R2:TS:=_;let R3:TS:=_;let R4:TS:=Ao (Dm _ _ R3) R2;let R5:TS:=Ao _ R4;let R6:TS:=Jl _ R1 R5;let R7:TS:=Ao _ R6;let R8:TS:=Ao (Dm _ _ R7) R0;Ao _ R8 _ _ _;intro R0 R1 R2 R3 R4 R5 R6 R7 R8;refine⟨Ar (by show 0<=1000;decide),λlp hlp=>?_⟩;have s0:=Ad hlp (.lst []);have nlb:b≠lp:=hb.nb hlp;have nln:nb≠lp:=Ax hnb hlp;refine⟨_,rq,_,rq,b,n,_,rq,hb.same s0,by omega,by omega,by omega,λr H1 r0 r1 hb1 sb1=>⟨_,_,rq,rq,_,rq,by omega,by omega,?_⟩⟩;obtain⟨rn,hrn⟩ : ∃rn:Nat,r=rn:=⟨r.toNat,by omega⟩;subst hrn;rw[show ((1:Int)+(rn:Int)).toNat=rn+1 by omega];have Tu:∀{H2 H3:Hp},H2 lp=some (.lst [])->True:=λ_=>True.intro;refine Fx (Au b nb lp mp H n ns) ⟨_,_,_,_,[],[],ns,rq,sb1 _ _ Ab nlb.symm,.nil,rq,(λp hp=>by cases hp),rq,sb1 _ _ (s0 _ _ hnb) nbn.symm,hb1,(DR.of s0).trans (DR.l sb1)⟩ (λi U HH hi h=>?_) (fun U HH h=>?_)
 ·obtain⟨u4,u5,u6,u7,vs,ps,ns',rfl,e1,e2,e3,e4,e5,e6,e7,e8⟩:=h;have OF:i < 12:=by omega
  have hlv:=Qci e2;refine⟨Ar (by show 6<=1000;decide),λl6 hl6=>?_⟩;have s6:=Ad hl6 (.lst [.int 0,.int 0,.int 0,.int 1,.int 2,.int 3]);refine⟨_,rq,b,_,6,rq,e7.same s6,by omega,by decide,by decide,λr2 HA r20 r21 hbA sA=>?_⟩;obtain⟨m,em,m0,m3⟩:=RU r20 r21 (a:=0) (b:=0) (c:=0) (d:=1) (e:=2) (f:=3) (λp=>0<=p/\p<=3) (by decide) (by decide) (by decide) (by decide) (by decide) (by decide);obtain⟨mn,hmn⟩ : ∃mn:Nat,m=mn:=⟨m.toNat,by omega⟩;subst hmn;refine⟨l6,_,_,_,rq,rq,SqL.of (sA _ _ Ab (e7.nb hl6).symm),em,_,_,rq,rq,?_⟩;refine⟨_,rq,b,_,4,rq,hbA,by omega,by decide,by decide,λr3 HB r30 r31 hbB sB=>⟨rq,_,rq,?_⟩⟩;have sHB:Ah b HH HB:=((Ah.of s6).trans sA).trans sB;have tHB:Ak HH HB:=sHB.tup e7.Ip;have f1:=sHB _ _ e1 nlb.symm;have f2:Paired (Eo HB) vs ps:=Paired.Aw e2 λ_ _ z=>z.tups tHB;have f6:=sHB _ _ e6 nbn.symm;have f8:DR b nb H HB:=e8.trans (DR.l sHB);have opn:∀eo,HB eo=none->∀t,upd HB eo (.tup []) t=none->Au b nb lp mp H n ns (i+1) [js b,js nb,some (.int mp),js lp,some (.int (0+(i:Int))),some (.int (1+(mn:Int))),u6,u7] (upd (upd (upd HB eo (.tup [])) t (.tup [.str "opener",.int 0,.ref eo])) lp (.lst (vs++[.ref t]))):=λeo heo t ht=>by
   have t1:=Ad heo (.tup []);have t2:=Ad ht (.tup [.str "opener",.int 0,.ref eo]);have f1':=t2 _ _ (t1 _ _ f1);have nt:∀zs,(upd (upd HB eo (.tup [])) t (.tup [.str "opener",.int 0,.ref eo])) lp≠some (.tup zs):=λzs z=>by rw[f1'] at z;cases z
   have tu:=Ak.upd (o:=.lst (vs++[.ref t])) nt;refine⟨_,_,_,_,vs++[.ref t],ps++[opP],ns',rq,Ab,?_,by rw[QaY,e3];rfl,λp hp=>?_,?_,?_,?_,?_⟩
   ·refine QcF ⟨t,eo,[],rq,tu _ _ Ab,tu _ _ (t2 _ _ Ab),.nil⟩ (Paired.Aw f2 λ_ _ z=>(z.tups (Ak.of (t1.trans t2))).tups tu)
   ·rcases QbO.mp hp with z | z
    ·exact e4 p z
    ·have:p=opP:=by simpa using z
     rw[this];exact Ha
   ·rw[Ww,FU,QbP];exact e5
   ·rw[Aq nln];exact t2 _ _ (t1 _ _ f6)
   ·exact (((hbB.same t1).same t2).Ji Ah.upd nlb).mono (by omega)
   ·exact (f8.trans (DR.of (t1.trans t2))).Rj Ah.upd hlp
  refine Nk (λ_=>?_) (λ_=>?_)
  ·refine⟨_,rq,.inl ⟨rq,_,SqL.of f1⟩,Ar (by show 0<=1000;decide),λeo heo=>⟨Ar (by show 3<=1000;decide),λt ht=>⟨lp,_,_,rq,rq,Ad ht _ _ _ (Ad heo _ _ _ f1),Am (by omega),opn eo heo t ht⟩⟩⟩
  ·refine⟨_,rq,nb,_,rq,.inl (SqL.of f6),_,rq,_,_,rq,rq,_,rq,Nk (λ_=>?_) (λcc=>?_)⟩
   ·refine⟨_,rq,.inl ⟨rq,_,SqL.of f1⟩,Ar (by show 0<=1000;decide),λeo heo=>⟨Ar (by show 3<=1000;decide),λt ht=>⟨lp,_,_,rq,rq,Ad ht _ _ _ (Ad heo _ _ _ f1),Am (by omega),opn eo heo t ht⟩⟩⟩
   ·have cc:¬(((ns'.map V.int).length:Nat):Int) < 1+(mn:Int):=λz=>cc (Qcd z);rw[QbM] at cc;refine⟨Ar (by show 0<=1000;decide),λls hls=>?_⟩;have sl:=Ad hls (.lst []);have KW:lp≠ls:=Ax f1 hls;have D6:nb≠ls:=Ax f6 hls;have D7:b≠ls:=hbB.nb hls;refine⟨_,rq,_,rq,by omega,by omega,?_⟩;rw[show ((1:Int)+(mn:Int)).toNat=mn+1 by omega];have T2:H ls=none->True:=λ_=>True.intro;let J0:YN:=λj U HC=>∃u7 xs ds ns2,U=[js b,js nb,some (.int mp),js lp,some (.int (0+(i:Int))),some (.int (1+(mn:Int))),js ls,u7]/\HC ls=some (.lst xs)/\Paired (K8 HC) xs ds/\ds.length=j/\(∀d∈ds,Ib d.kind)/\ns'=ds.map (·.addr)++ns2/\HC nb=some (.lst (ns2.map V.int))/\Cd HC b (n+1+7*i+1+1+j)/\HC lp=some (.lst vs)/\Paired (Eo HC) vs ps/\(∀c o,HB c=some o->c≠b->c≠nb->HC c=some o);refine Fx J0
     ⟨_,[],[],ns',rq,Ab,.nil,rq,(λd hd=>by cases hd),rq,sl _ _ f6,hbB.same sl,sl _ _ f1,Paired.Aw f2 λ_ _ z=>z.tups (Ak.of sl),λc o e _ _=>sl _ _ e⟩ (λj U HC hj h=>?_) (fun U HC h=>?_)
    ·obtain⟨u7,xs,ds,ns2,rfl,g1,g2,g3,g4,g5,g6,g7,g8,g9,g10⟩:=h;refine⟨_,rq,.inl ⟨rq,_,SqL.of g1⟩,Ar (by show 4<=1000;decide),λl4 hl4=>?_⟩;have s4:=Ad hl4 (.lst [.str "seeker",.str "knob",.str "bell",.str "door"]);refine⟨_,rq,b,_,4,rq,g7.same s4,by omega,by decide,by decide,λr4 HD r40 r41 hbD sD=>?_⟩;obtain⟨k,ek,hk⟩:=B6 r40 r41;have sCD:Ah b HC HD:=(Ah.of s4).trans sD;have tCD:Ak HC HD:=sCD.tup g7.Ip;have g6':=sCD _ _ g6 nbn.symm;cases ns2 with
     | nil=>
      rw[QbP] at g5;have:=congrArg List.length g5;rw[QbM,g3] at this;omega
     | cons a0 ns3=>
      refine⟨l4,_,_,_,rq,rq,SqL.of (sD _ _ Ab (g7.nb hl4).symm),ek,_,rq,.inl ⟨rq,_,SqL.of g6'⟩,nb,_,0,0,.int a0,rq,rq,g6',by decide,by decide,qz (by rw[QbM];show 0 < _+1;omega),rq,Ar (by show 2<=1000;decide),λt ht=>?_⟩;have tn:Ak HD (upd HD nb (.lst (((a0::ns3).map V.int).eraseIdx 0))):=Ak.upd λzs z=>by rw[g6'] at z;cases z
      have tt:=Ad ht (.tup [.str k,.int a0]);have gls:upd HD nb (.lst (((a0::ns3).map V.int).eraseIdx 0)) ls=some (.lst xs):=by rw[Aq D6.symm];exact sCD _ _ g1 D7.symm
      refine⟨ls,_,_,rq,rq,tt _ _ gls,Am (by rw[Qci g2];omega),?_⟩;have nt:∀zs,(upd (upd HD nb (.lst (((a0::ns3).map V.int).eraseIdx 0))) t (.tup [.str k,.int a0])) ls≠some (.tup zs):=λzs z=>by rw[tt _ _ gls] at z;cases z
      have tu:=Ak.upd (o:=.lst (xs++[.ref t])) nt;have CB:Ak HC (upd (upd (upd HD nb (.lst (((a0::ns3).map V.int).eraseIdx 0))) t (.tup [.str k,.int a0])) ls (.lst (xs++[.ref t]))):=(tCD.trans tn).trans ((Ak.of tt).trans tu);refine⟨_,xs++[.ref t],ds++[⟨k,a0⟩],ns3,rq,Ab,QcF ⟨t,rq,tu _ _ Ab⟩ (Paired.Aw g2 λ_ _ z=>z.tups CB),by rw[QaY,g3];rfl,λd hd=>?_,?_,?_,?_,?_,Paired.Aw g9 λ_ _ z=>z.tups CB,λc o e n1 n2=>?_⟩
      ·rcases QbO.mp hd with z | z
       ·exact g4 d z
       ·have:d=⟨k,a0⟩:=by simpa using z
        rw[this];exact hk
      ·rw[g5,QbN,Qbp];rfl
      ·rw[Aq D6,tt _ _ Ab];rfl
      ·exact ((hbD.Ji Ah.upd nbn).same tt).Ji Ah.upd D7
      ·rw[Aq KW,tt _ _ (by rw[Aq nln.symm];exact sCD _ _ g8 nlb.symm)]
      ·have e':=sCD _ _ (g10 _ _ e n1 n2) n1;rw[Aq (λz=>by rw[z,hls] at e;cases e),tt _ _ (by rw[Aq n2];exact e')]
    ·obtain⟨u7,xs,ds,ns2,rfl,g1,g2,g3,g4,g5,g6,g7,g8,g9,g10⟩:=h;cases ds with
     | nil=>cases g3
     | cons d0 dr=>
      cases g2 with
      | @cons x0 _ xr _ hd0 hdr=>
       obtain⟨t0,rfl,ht0⟩:=hd0;have lxr:=Qci hdr;have ldr:dr.length=mn:=by simpa using g3
       refine⟨_,rq,.inl ⟨rq,_,SqL.of g8⟩,_,rq,ls,_,_,_,rq,rq,SqL.of g1,Fb (xs:=.ref t0::xr) (j:=0) rfl,_,rq,_,rq,ls,_,rq,SqL.of g1,λp1 hp1=>?_⟩;have ec:JZ (.ref t0::xr) (some 1) none=xr:=Wr (xs:=.ref t0::xr) (k:=1) (by simp);rw[ec] at *;have sp1:=Ad hp1 (.lst xr);refine⟨p1,_,rq,.inl ⟨SqL.of Ab,λtu htu=>⟨Ar (by show 1<=1000;decide),λt1 ht1=>?_⟩⟩⟩;have sp2:=Ad htu (.tup xr);have sp3:=Ad ht1 (.tup [.ref tu]);have sp:=(sp1.trans sp2).trans sp3;refine⟨t0,t1,_,_,rq,rq,sp _ _ ht0,Ab,Ar (by show 2+1<=1000;decide),λtp HE hE sE=>?_⟩;have spE:=sp.trans sE;have g8':=spE _ _ g8;refine⟨lp,_,_,rq,rq,g8',Am (by omega),?_⟩;have nt:∀zs,HE lp≠some (.tup zs):=λzs z=>by rw[g8'] at z;cases z
       have tv:=Ak.upd (o:=.lst (vs++[.ref tp])) nt;have okp:OkP ⟨d0.kind,d0.addr,dr⟩:=⟨by show dr.length<=3;omega,λd hd=>g4 d (QaL _ hd),.inr (g4 d0 (QaZ ..))⟩;refine⟨_,_,_,_,vs++[.ref tp],ps++[⟨d0.kind,d0.addr,dr⟩],ns2,rq,Ab,?_,by rw[QaY,e3];rfl,λp hp=>?_,?_,?_,?_,?_⟩
       ·refine QcF ⟨tp,tu,xr,rq,tv _ _ hE,tv _ _ (sE _ _ (sp3 _ _ Ab)),Paired.Aw hdr λ_ _ z=>(z.tups (Ak.of spE)).tups tv⟩ (Paired.Aw g9 λ_ _ z=>(z.tups (Ak.of spE)).tups tv)
       ·rcases QbO.mp hp with z | z
        ·exact e4 p z
        ·have:p=⟨d0.kind,d0.addr,dr⟩:=by simpa using z
         rw[this];exact okp
       ·rw[Ww,e5,g5,Qbp];congr 1;have:adP ⟨d0.kind,d0.addr,dr⟩=d0.addr::dr.map (·.addr):=if_neg (Xx (g4 d0 (QaZ ..)));rw[this];rfl
       ·rw[Aq nln];exact spE _ _ g6
       ·exact ((g7.same spE).Ji Ah.upd nlb).mono (by omega)
       ·refine DR.Rj (λc o e n1 n2=>spE _ _ (g10 _ _ (f8 _ _ e n1 n2) n1 n2)) Ah.upd hlp
 ·obtain⟨u4,u5,u6,u7,vs,ps,ns',rfl,e1,e2,e3,e4,e5,e6,e7,e8⟩:=h;refine⟨_,rq,lp,_,rq,.inl ⟨SqL.of e1,λt ht=>?_⟩⟩;have st:=Ad ht (.tup vs);exact q t ps ns' _ ⟨t,vs,rq,Ab,Paired.Aw e2 λ_ _ z=>z.tups (Ak.of st)⟩ e4 (by omega) (by omega) e5 (st _ _ e6) ((e7.same st).mono (by omega)) (e8.trans (DR.of st))
end
abbrev Le:Stmt:=top 66
abbrev O4:YF:=["_law_bag_here","_law_most_loops","_law_most_places"]
abbrev xk:YF:=["_law_bag_here","_law_most_loops","_law_most_places","_law_start","_law_stride","_law_numbers","_law_own","_law_first","_law_at","_law_loops","_law_loop_here","_law_most","_law_told","_law_places","_law_kind_here","_law_address","_law_spur","_law_zones","_law_names_here","_law_name_here","_law_some"]
theorem Cv:Az xk O4 (Aj Le):=by ac_rfl
theorem iW (xs:YG) (y:V):atI (xs++[y]) (-1)=some y:=by
 unfold atI ixN;rw[if_neg (by decide),QaY,QaG,if_pos (by omega),show (-1+((xs.length+1:Nat):Int)).toNat=xs.length by omega];show (xs++[y])[xs.length]?=some y;rw[Qah (QcD _),Nat.sub_self];rfl
theorem yh (xs:YG) (y:V):ixN (xs++[y]).length (-1)=some xs.length:=by
 unfold ixN;rw[if_neg (by decide),QaY,QaG,if_pos (by omega),show (-1+((xs.length+1:Nat):Int)).toNat=xs.length by omega]
theorem vA (xs:YG) (y z:V):(xs++[y]).set xs.length z=xs++[z]:=by
 rw[List.set_append_right _ _ (QcD _),Nat.sub_self];rfl
theorem RS {i:Int} (h0:0<=i) (h9:i < 9) {a b c d e f g h k:Int} (P:Int->Prop) (ha:P a) (hb:P b) (hc:P c) (hd:P d) (he:P e) (hf:P f) (hg:P g) (hh:P h) (hk:P k):∃p,atI [V.int a,.int b,.int c,.int d,.int e,.int f,.int g,.int h,.int k] i=some (.int p)/\P p:=by
 have:i=0\/i=1\/i=2\/i=3\/i=4\/i=5\/i=6\/i=7\/i=8:=by omega
 rcases this with rfl | rfl | rfl | rfl | rfl | rfl | rfl | rfl | rfl
 ·exact⟨_,rq,ha⟩
 ·exact⟨_,rq,hb⟩
 ·exact⟨_,rq,hc⟩
 ·exact⟨_,rq,hd⟩
 ·exact⟨_,rq,he⟩
 ·exact⟨_,rq,hf⟩
 ·exact⟨_,rq,hg⟩
 ·exact⟨_,rq,hh⟩
 ·exact⟨_,rq,hk⟩
theorem tO (ns:List Int):(ns.map V.int).all Mj=true:=by
 rw[List.all_map,List.all_eq_true];intro _ _;rfl
theorem FK {xs:YG} {m:Nat} (h:m<=xs.length):JZ xs none (some (m:Int))=xs.take m:=by
 unfold JZ;rw[HT.dz,HT.kI,Nat.min_eq_left h];rfl
theorem Paired.zy {α β : Type} {F:α->β->Prop}:∀{l:List α} {r:List β} (n:Nat),Paired F l r->Paired F (l.take n) (r.take n)
 | _,_,0,_=>.nil
 | _,_,_+1,.nil=>.nil
 | _,_,n+1,.cons h t=>.cons h (Paired.zy n t)
theorem Paired.zV {α β : Type} {F:α->β->Prop}:∀{l:List α} {r:List β} (n:Nat),Paired F l r->Paired F (l.drop n) (r.drop n)
 | _,_,0,h=>h
 | _,_,_+1,.nil=>.nil
 | _,_,n+1,.cons h t=>Paired.zV n t
theorem Paired.app {α β : Type} {F:α->β->Prop}:∀{a₁ b₁ : List α} {a₂ b₂ : List β},Paired F a₁ a₂->Paired F b₁ b₂->Paired F (a₁++b₁) (a₂++b₂)
 | _,_,_,_,.nil,t=>t
 | _,_,_,_,.cons r s,t=>.cons r (Paired.app s t)
theorem kY:∀(ps:List Place) (a:List Int×Int),(ps.foldl ptS a).1.sum+(ps.foldl ptS a).2=a.1.sum+a.2+((adL ps).length:Int)
 | [],a=>by show _=_+_+((0:Nat):Int);simp
 | p::r,a=>by
  rw[List.foldl_cons,kY r];have e:adL (p::r)=adP p++adL r:=by unfold adL;rw[Qbu]
  rw[e,QaY];unfold ptS adP;by_cases h:V.str p.kind=V.str "opener"
  ·rw[if_pos h,if_pos h,List.sum_append];simp
  ·rw[if_neg h,if_neg h,QbC,QbM];simp only;omega
theorem qI:∀(ps:List Place) (a:List Int×Int),(∀m∈a.1,0<=m)->0<=a.2->(∀m∈(ps.foldl ptS a).1,0<=m)/\0<=(ps.foldl ptS a).2
 | [],a,h1,h2=>⟨h1,h2⟩
 | p::r,a,h1,h2=>by
  rw[List.foldl_cons];refine qI r _ ?_ ?_
  ·unfold ptS;split
   ·intro m hm;rcases QbO.mp hm with z | z
    ·exact h1 m z
    ·have:m=a.2:=by simpa using z
     rw[this];exact h2
   ·exact h1
  ·unfold ptS;split
   ·exact Int.le_refl _
   ·show 0<=a.2+1+(p.spur.length:Int);omega
theorem qm:∀{l:List Int},(∀m∈l,0<=m)->0<=l.sum/\∀m∈l,m<=l.sum
 | [],_=>⟨Int.le_refl _,λm h=>by cases h⟩
 | x::r,h=>by
  obtain⟨h1,h2⟩:=qm (l:=r) λm hm=>h m (QaL _ hm);have h0:=h x (QaZ ..);rw[List.sum_cons];refine⟨by omega,λm hm=>?_⟩;rcases Qcj.mp hm with rfl | hm
  ·omega
  ·have:=h2 m hm;omega
theorem v7 (ps:List Place):∀m∈Iz ps,0<=m:=by
 have h:=qI ps ([],0) (λm hm=>by cases hm) (Int.le_refl _);intro m hm;rcases QbO.mp hm with z | z
 ·exact h.1 m z
 ·have:m=(pst ps).2:=by simpa using z
  rw[this];exact h.2
theorem ZV (ps:List Place):(Iz ps).sum=((adL ps).length:Int):=by
 have h:=kY ps ([],0);unfold Iz;rw[List.sum_append];have:(pst ps).1.sum+(pst ps).2=((adL ps).length:Int):=by
  have e:(pst ps).1.sum+(pst ps).2=([]:List Int).sum+0+((adL ps).length:Int):=h;rw[e];simp
 simp;omega
theorem v8 (ps:List Place):∀m∈Iz ps,m<=((adL ps).length:Int):=λm hm=>by
 have:=(qm (v7 ps)).2 m hm;rw[ZV] at this;exact this
theorem j5:∀{l:List Int},1<=l.sum->∃m∈l,1<=m
 | [],h=>by simp at h
 | x::r,h=>by
  rw[List.sum_cons] at h;by_cases hx:1<=x
  ·exact⟨x,QaZ ..,hx⟩
  ·obtain⟨m,h1,h2⟩:=j5 (l:=r) (by omega);exact⟨m,QaL _ h1,h2⟩
structure OkL (ps:List Place):Prop where
 lo:1<=ps.length
 hi:ps.length<=12
 ok:∀p∈ps,OkP p
def CP (ls:YU):List Int:=ls.flatMap adL
structure je (most:Int) (ja:YU) (jp:List Zone):Prop where
 nd:(CP ja).Nodup
 bd:∀x∈CP ja,1<=x/\x<=99
 cnt:1<=(CP ja).length/\(CP ja).length<=30
 mo:1<=most/\most<=30
 few:∀ps∈ja,∀m∈Iz ps,m<=most
 zin:∀z∈jp,∀x∈z.adr,x∈Gb ja
 znd:(jp.flatMap (·.adr)).Nodup
 zup:∀z∈jp,z.adr.Pairwise (· < ·)/\1<=z.adr.length/\z.adr.length<=30
 Cl:jp.length<=8
 znm:∀z∈jp,(1<=z.name.length/\z.name.length<=8)/\okS z.name
 zdi:(jp.map (·.name)).Nodup
inductive cH (vs:YG) (H:Hp) (Q:VK) (E:XK):Prop
 | mk (b:Addr) (n ml mp:Nat) (_:vs=[.ref b,.int ml,.int mp]) (_:Cd H b n) (_:n<=1000) (_:1<=ml) (_:ml<=3) (_:2<=mp) (_:mp<=12) (_:∀t Ls zs vs zvs ja jp most H',H' t=some (.tup [.int most,.ref Ls,.ref zs])->H' Ls=some (.tup vs)->Paired (LoopAt H') vs ja->(∀ps∈ja,OkL ps)->1<=ja.length->ja.length<=3->H' zs=some (.tup zvs)->Paired (Hl H') zvs jp->je most ja jp->Cd H' b (n+3000)->Ah b H H'->Q (.ref t) H'):cH vs H Q E
def CO:TS:=λD U H=>∃(b nb f0:Addr) (n mp:Nat) (ns:List Int),U[0]?=some (some (.ref b))/\U[5]?=some (some (.ref nb))/\U[2]?=some (some (.int mp))/\U[7]?=some (some (.ref f0))/\H f0=some (.tup [])/\Cd H b n/\n<=4000/\b≠nb/\H nb=some (.lst (ns.map V.int))/\2<=mp/\mp<=12/\ns.length<=100 /\
 ∀t vs ps ns' H',H' t=some (.tup vs)->Paired (Eo H') vs ps->(∀p∈ps,OkP p)->ps.length+1<=mp->ns=adL ps++ns'->H' nb=some (.lst (ns'.map V.int))->Cd H' b (n+101)->DR b nb H H'->D.nx (U.set 7 (some (.ref t))) H'
section
variable {P:Program} {w:World} {K:YD} {mg:YB} {base:Heap}
theorem qY (C:Code K mg "_law_parts" SQ Mw) (T:Nm mg):Good P w K mg base "_law_parts" 1 Mw VH:=by
 refine C.good Kv (λvs H Q E h=>?_) (λf cdv A outer s H vs Q E hr h=>?_)
 ·obtain⟨t,ps,rfl,_⟩:=h;rfl
 obtain⟨t,ps,rfl,⟨t',vs,et,ht,hps⟩,hok,h100,q⟩:=h;cases et;refine⟨_,(Ae (Ba (i:=1) Kv.nd rfl (Or.inl rfl) (BZ (Aa Af Ac)))
 (Ae (Ck QbQ rfl (Fp (pv 0)) (CT rfl (Al (Ai (i:=2) Kv.nd rfl (Or.inl rfl)) (Al (Ai (i:=3) Kv.nd rfl (Or.inl rfl)) (Al (Ai (i:=4) Kv.nd rfl (Or.inl rfl)) Br))))
 (Ag (Cu (Bx GF (pv 2) Bf (BP _)) (Ag (Bo (Cy Qat Qap Qaq BX (pv 1) (Aa Af Ac)))) (Ag (Hz (Bh Cz (Bh Cz (Bm Dv (pv 1) (Qd Mp Af) (λ_ _=>rfl)) Af) (Av Bj rfl T.len CV (Aa (pv 4) Ac))) (d9 (pv 1) (Qd Mp Af) set_list))))))
 (Ag (Ay (pv 1))))),?_⟩
 show let R0:TS:=_;let R1:TS:=_;let R2:TS:=Jl _ R0 R1;let R3:TS:=Ao (Dm _ _ R2) _;Ao _ R3 _ _ _;intro R0 R1 R2 R3;refine⟨Ar (by show 1<=1000;decide),λlf hlf=>?_⟩;have s1:=Ad hlf (.lst [.int 0]);have lvs:=Qci hps;refine⟨_,rq,t,rq,⟨_,SqT.of (s1 _ _ ht)⟩,?_⟩;let J0:YN:=λi U HH=>∃(u2 u3 u4:Option V),U=[js t,js lf,u2,u3,u4]/\HH lf=some (.lst ((pst (ps.take i)).1.map V.int++[.int (pst (ps.take i)).2]))/\(pst (ps.take i)).1.length<=i/\Same H HH;refine Kr (xs:=vs) J0 ⟨_,_,_,rq,Ab,QcD _,s1⟩ (λi U HH _ h=>?_) (λi x U HH hx h=>?_) (fun U HH h=>?_)
 ·obtain⟨u2,u3,u4,rfl,e1,e2,e3⟩:=h;exact SqT.of (e3 _ _ ht)
 ·obtain⟨u2,u3,u4,rfl,e1,e2,e3⟩:=h;obtain⟨p,hp,tp,up,ws,rfl,h1,h2,h3⟩:=Paired.Cp hps hx;have hi:=(Qai.mp hx).1;have et:pst (ps.take (i+1))=ptS (pst (ps.take i)) p:=by rw[QcM hp,dW]
  have lws:=Qci h3;generalize pst (ps.take i)=a at *;refine⟨tp,_,rq,SqT.of (e3 _ _ h1),rq,_,_,rq,_,_,rq,_,_,rq,rq,?_⟩;refine⟨_,rq,rq,_,rq,Nk (λhc=>?_) (λhc=>?_)⟩
  ·have hc:V.str p.kind=V.str "opener":=Qbt hc;have et:pst (ps.take (i+1))=(a.1++[a.2],0):=by rw[et];exact if_pos hc
   refine⟨_,rq,.inl ⟨rq,_,SqL.of e1⟩,lf,_,_,rq,rq,e1,Am (by rw[QaY,QbM];show _+1<=_;omega),_,_,_,rq,?_,?_,e3.Bp Ah.upd hlf⟩
   ·rw[Ab,et,QbN];rfl
   ·rw[et,QaY];show _+1<=_;omega
  ·have hc:¬V.str p.kind=V.str "opener":=λz=>hc (Qcd z);have et:pst (ps.take (i+1))=(a.1,a.2+1+(p.spur.length:Int)):=by rw[et];exact if_neg hc
   refine⟨_,rq,_,rq,lf,_,_,_,rq,rq,SqL.of e1,iW _ _,_,_,rq,rq,_,rq,up,_,rq,.inr (SqT.of (e3 _ _ h2)),_,_,rq,rq,_,rq,_,rq,lf,_,_,_,rq,rq,e1,yh _ _,_,_,_,rq,?_,by rw[et];show a.1.length<=_;omega,e3.Bp Ah.upd hlf⟩;rw[Ab,vA,et,<-lws]
 ·obtain⟨u2,u3,u4,rfl,e1,e2,e3⟩:=h;rw[lvs,QbB] at e1;refine⟨_,rq,q lf HH (by unfold Iz;rw[QbN];exact e1) e3⟩
end
theorem C9 {α : Type} {l:List α} {i:Nat} {x:α} (h:l[i]?=some x):l.set i x=l:=by
 obtain⟨hi,e⟩:=Qai.mp h;subst e;exact List.set_getElem_self hi
theorem Ln.tups {H H':Hp} {vs:YG} {ls:YU} (s:Ak H H') (h:Paired (LoopAt H) vs ls):Paired (LoopAt H') vs ls:=Paired.Aw h λ_ _ z=>z.tups s
theorem Pn.tups {H H':Hp} {vs:YG} {ls:List Place} (s:Ak H H') (h:Paired (Eo H) vs ls):Paired (Eo H') vs ls:=Paired.Aw h λ_ _ z=>z.tups s
theorem Oh (a b:List Place):adL (a++b)=adL a++adL b:=by unfold adL;rw[QaR]
theorem aG (ls:YU) (ps:List Place):CP (ls++[ps])=CP ls++adL ps:=by unfold CP;rw[QaR];simp
def wr (ds:List Dev):Nat:=(ds.filter λd=>!decide (V.str d.kind=V.str "opener")).length
theorem Wh (w:Int):∀ws:List Int,inV (.int w) (ws.map V.int)=decide (w∈ws)
 | []=>rfl
 | x::r=>by
  have ih:=Wh w r;unfold inV at ih ⊢;rw[Qck,Qco,ih];have h2:eqV (.int x) (.int w)=decide (w=x):=by
   show (x == w)=decide (w=x);rw[QbV,beq_iff_eq,Qbg];exact⟨λh=>h.symm,λh=>h.symm⟩
  rw[h2,QbV,Bool.or_eq_true,Qbg,Qbg,Qbg,Qcj]
def FW (p:Int):Prop:=p=1\/p=2\/p=4\/p=5\/p=7\/p=8\/p=10\/p=13\/p=98
def QF (r sd:Int) (n:Nat):List Int:=(List.range n).map λk:Nat=>(r+sd*(0+(k:Int))) % 99+1
theorem rC (r sd:Int) (n:Nat):QF r sd (n+1)=QF r sd n++[(r+sd*(0+(n:Int))) % 99+1]:=by
 unfold QF;rw[List.range_succ,QbN];rfl
theorem A9 (r sd:Int) (n:Nat):∀x∈QF r sd n,1<=x/\x<=99:=λx hx=>by
 obtain⟨k,_,rfl⟩:=Qcs.mp hx;have h1:=Qca (r+sd*(0+(k:Int))) (show (99:Int)≠0 by decide);have h2:=Qbm (r+sd*(0+(k:Int))) (show (0:Int) < 99 by decide);omega
theorem A8 {r sd:Int} (h:FW sd):(QF r sd 30).Nodup:=by
 unfold QF;refine Qbx.mpr ?_;refine List.Pairwise.imp_of_mem (λ{i j} hi hj hlt=>?_) (List.pairwise_lt_range (n:=30));have hi:=Qcg.mp hi;have hj:=Qcg.mp hj;intro e;unfold FW at h;rcases h with rfl | rfl | rfl | rfl | rfl | rfl | rfl | rfl | rfl <;> omega
theorem jX:∀{ds:List Dev},(Jk ds).Sublist (ds.map (·.addr))
 | ds=>by unfold Jk;exact List.Sublist.map _ (QaX ..)
theorem bR {p:Place} (h:OkP p):(Jk (Gq p)).Sublist (adP p):=by
 rcases h.form with⟨f1,f2,f3⟩| f1
 ·have e:adP p=[]:=if_pos (by rw[f1]);have e2:Jk (Gq p)=[]:=by
   unfold Gq Jk;rw[f3,f1];have:FT "opener"=false:=by trivial
   rw[Qav (by rw[this];decide)];rfl
  rw[e,e2];exact .slnil
 ·have e:adP p=(Gq p).map (·.addr):=if_neg (Xx f1);rw[e];exact jX
theorem Vz:∀{ps:List Place},(∀p∈ps,OkP p)->(JK ps).Sublist (adL ps)
 | [],_=>.slnil
 | p::r,h=>by
  have e1:JK (p::r)=Jk (Gq p)++JK r:=by unfold JK;rw[Qbu]
  have e2:adL (p::r)=adP p++adL r:=by unfold adL;rw[Qbu]
  rw[e1,e2];exact (bR (h p (QaZ ..))).append (Vz λq hq=>h q (QaL _ hq))
theorem Sv:∀{ls:YU},(∀ps∈ls,OkL ps)->(Gb ls).Sublist (CP ls)
 | [],_=>.slnil
 | ps::r,h=>by
  have e1:Gb (ps::r)=JK ps++Gb r:=by unfold Gb;rw[Qbu]
  have e2:CP (ps::r)=adL ps++CP r:=by unfold CP;rw[Qbu]
  rw[e1,e2];exact (Vz (h ps (QaZ ..)).ok).append (Sv λq hq=>h q (QaL _ hq))
theorem lO {ps:List Place}:∀(ja:YU),ps∈ja->(adL ps).length<=(CP ja).length
 | [],h=>by cases h
 | a::r,h=>by
  have e:CP (a::r)=adL a++CP r:=by unfold CP;rw[Qbu]
  rw[e,QaY];rcases Qcj.mp h with rfl | h
  ·omega
  ·have:=lO r h;omega
structure RN (ws:List Int) (ts:List Int) (jp:List Zone) (ys:YF):Prop where
 nd:(jp.flatMap (·.adr)++ts).Nodup
 sub:∀x∈jp.flatMap (·.adr)++ts,x∈ws
 up:∀z∈jp,z.adr.Pairwise (· < ·)/\1<=z.adr.length/\z.adr.length<=30
 nm:(jp.map (·.name)).Sublist ys
theorem RN.next {ws ts ms ss:List Int} {jp:List Zone} {ys:YF} {y:Str} (h:RN ws ts jp ys) (hp:ms.Perm ss) (hsub:ss.Sublist ts) (hr:ms.Pairwise (·<=·)) (h30:ms.length<=30) (y1:1<=ms.length):RN ws (ts.filter λx=>!decide (x∈ms)) (jp++[⟨y,ms⟩]) (ys++[y]):=by
 obtain⟨n1,n2,n3⟩:=Qbw.mp h.nd;have nms:ms.Nodup:=hp.nodup_iff.mpr (hsub.nodup n2);have hin:∀x∈ms,x∈ts:=λx hx=>hsub.subset (hp.mem_iff.mp hx);have e:(jp++[(⟨y,ms⟩ : Zone)]).flatMap (·.adr)=jp.flatMap (·.adr)++ms:=by rw[QaR];simp
 refine⟨?_,λx hx=>?_,λz hz=>?_,?_⟩
 ·rw[e,Qbw];refine⟨Qbw.mpr ⟨n1,nms,λa ha b hb=>n3 a ha b (hin b hb)⟩,n2.filter _,λa ha b hb=>?_⟩;obtain⟨hb1,hb2⟩:=QbU.mp hb;rcases QbO.mp ha with ha | ha
  ·exact n3 a ha b hb1
  ·rintro rfl;rw[Qcd ha] at hb2;cases hb2
 ·rw[e] at hx;rcases QbO.mp hx with hx | hx
  ·rcases QbO.mp hx with hx | hx
   ·exact h.sub x (QaM _ hx)
   ·exact h.sub x (QaE _ (hin x hx))
  ·exact h.sub x (QaE _ (QbU.mp hx).1)
 ·rcases QbO.mp hz with hz | hz
  ·exact h.up z hz
  ·have:z=⟨y,ms⟩:=by simpa using hz
   rw[this];refine⟨?_,y1,h30⟩;refine List.Pairwise.imp₂ (S:=λa b:Int=>a≠b) (λa b h1 h2=>by omega) hr nms
 ·rw[QbN];exact h.nm.append (List.Sublist.refl _)
theorem RN.none {ws ts:List Int} {jp:List Zone} {ys:YF} {y:Str} {g:Int->Bool} (h:RN ws ts jp ys):RN ws (ts.filter g) jp (ys++[y]):=by
 obtain⟨n1,n2,n3⟩:=Qbw.mp h.nd;refine⟨Qbw.mpr ⟨n1,n2.filter _,λa ha b hb=>n3 a ha b (QbU.mp hb).1⟩,λx hx=>?_,h.up,h.nm.trans (List.sublist_append_left ..)⟩;rcases QbO.mp hx with hx | hx
 ·exact h.sub x (QaM _ hx)
 ·exact h.sub x (QaE _ (QbU.mp hx).1)
section
variable {P:Program} {w:World} {K:YD} {mg:YB} {base:Heap}
abbrev xp:YF:=["_law_other","_law_number"]
abbrev xC:YF:=["_law_k","_law_start","_law_stride"]
abbrev xD:YF:=["_law_number","_law_bag_here"]
theorem A3 (C:Code K mg "_law_plan" Le O4) (T:Nm mg) (BL:Good P w K mg base "_law_take" 1 Ht Om) (gJ:Good P w K mg base "_law_loop" 2 O6 cJ) (sH:Good P w K mg base "_law_parts" 1 Mw VH) (sI:Good P w K mg base "_law_names" 3 Mx Ym) :
  Good P w K mg base "_law_plan" 4 O4 cH:=by
 refine C.good Cv (λvs H Q E h=>?_) (λf cdv A outer s H vs Q E hr h=>?_)
 ·obtain⟨b,n,ml,mp,rfl,_⟩:=h;rfl
 obtain⟨b,n,ml,mp,rfl,hb,hn,T1,hml,Os,hmp,q⟩:=h;refine⟨_,(Ae (Ba (i:=3) Cv.nd rfl (Or.inr rfl) (Cm BL hr (Aa (pv 0) (Aa Af Ac))))
 (Ae (Ba (i:=4) Cv.nd rfl (Or.inr rfl) (Bm Dv (@BZ _ _ _ _ (@Aa _ _ _ _ _ (@Af _ _ _ _) (@Aa _ _ _ _ _ (@Af _ _ _ _) (@Aa _ _ _ _ _ (@Af _ _ _ _) (@Aa _ _ _ _ _ (@Af _ _ _ _) (@Aa _ _ _ _ _ (@Af _ _ _ _) (@Aa _ _ _ _ _ (@Af _ _ _ _) (@Aa _ _ _ _ _ (@Af _ _ _ _) (@Aa _ _ _ _ _ (@Af _ _ _ _) (@Aa _ _ _ _ _ (@Af _ _ _ _) (@Ac _) Bl) Bl) Bl) Bl) Bl) Bl) Bl) Bl) Bl)) (Cm BL hr (Aa (pv 0) (Aa Af Ac))) (λ_ _=>rfl)))
 (Ae (YZ (i:=5) Cv.nd rfl (Or.inl rfl) (N':=xC) rfl (Bk.of (src:=[none,some 3,some 4]) (Aj Le) xk rfl rfl rfl (by trivial) (by trivial) (by trivial) rfl (by trivial)) (Dr rfl T.range (Aa Af Ac)) (λ_ _ _ _=>(Ai (i:=0) (show List.Nodup (xC:YF) by trivial) rfl (Or.inl rfl))) (λ_ _ _ _=>CZ) (λ_ _ _ _=>(Bh Cz (Bh M4 (Bh Cz (pv 1) (Bh Jd (pv 2) (pv 0))) Af) Af)))
 (Ae (Ba (i:=6) Cv.nd rfl (Or.inl rfl) (Cy Qat PySem.F.slot_list_pop PySem.F.type_list_pop fQ (pv 5) (Aa Af Ac)))
 (Ae (Ba (i:=7) Cv.nd rfl (Or.inl rfl) (Bd Ac))
 (Ae (PS.weak (t':=CO) (Cu (Bx Ux (Cm BL hr (Aa (pv 0) (Aa Af Ac))) Af (BP _)) (Ag (Ba (i:=7) Cv.nd rfl (Or.inl rfl) (Dc gJ hr (Aa (pv 0) (Aa (pv 5) (Aa (Bh eU (pv 2) Af) Ac)))))) BJ) (λD U H h=>by
    obtain⟨b,nb,f0,n,mp,ns,e0,e5,e2,e7,hf0,hb,hn,nbn,hnb,hmp,TK,hns,q⟩:=h;refine⟨_,e0,b,n,8,rq,hb,by omega,by decide,by decide,λr H1 r0 r1 hb1 sb1=>⟨_,_,rq,rq,_,rq,Nk (λ_=>?_) (λ_=>?_)⟩⟩
    ·refine⟨_,e0,_,e5,_,e2,_,_,rq,rq,b,nb,n+1,mp - 1,ns,?_,hb1,by omega,nbn,sb1 _ _ hnb nbn.symm,by omega,by omega,hns,λt ps ns' H2 ⟨t',vs,et,ht,hp⟩ hok h1 h2 hns' hnb' hb2 s2=>?_⟩
     ·show [V.ref b,.ref nb,.int ((mp:Int) - 1)]++[]=_;rw[show ((mp:Int) - 1)=((mp - 1:Nat):Int) by omega];rfl
     ·cases et;exact q t vs ps ns' H2 ht hp hok (by omega) hns' hnb' (hb2.mono (by omega)) ((DR.l sb1).trans s2)
    ·have q:=q f0 [] [] ns H1 (sb1.tup hb.Ip _ _ hf0) .nil (λp hp=>by cases hp) (by show 0+1<=mp;omega) rfl (sb1 _ _ hnb nbn.symm) (hb1.mono (by omega)) (DR.l sb1);rw[C9 e7] at q;exact q))
 (Ae (Ba (i:=8) Cv.nd rfl (Or.inl rfl) (Cm BL hr (Aa (pv 0) (Aa (Bh Cz (Av Bj rfl T.len CV (Aa (pv 7) Ac)) Af) Ac))))
 (Ae (Ba (i:=9) Cv.nd rfl (Or.inl rfl) (BZ (Aa (Bh O8 (Bh O8 (Li Yt (pv 7) Ob (Oa (pv 8))) (Bd (Aa (Bd (Aa Bf (Aa (pv 6) (Aa (Bd Ac) Ac)))) Ac))) (Li Yt (pv 7) (Oa (pv 8)) Ob)) Ac)))
 (Ae (Ck QbQ rfl (Dr rfl T.range (Aa (Cm BL hr (Aa (pv 0) (Aa (pv 1) Ac))) Ac)) (Ai (i:=10) Cv.nd rfl (Or.inl rfl))
 (Ag (Bo (Cy Qat Qap Qaq BX (pv 9) (Aa (Dc gJ hr (Aa (pv 0) (Aa (pv 5) (Aa (pv 2) Ac)))) Ac)))))
 (Ae (Ba (i:=11) Cv.nd rfl (Or.inl rfl) (Av (ak rfl) rfl T.max iM (Aa (Cw (N':=Mw) rfl (Bk.plain rfl (by trivial) (by trivial) (by trivial)) (CW (pv 9)) (λ_ _ _ _=>(Ai (i:=0) (show List.Nodup (Mw:YF) by trivial) rfl (Or.inl rfl))) (λ_ _ _ _=>CZ) (λ_ _ _ _=>(Av (pO (K:=K) rfl rfl) rfl T.max iM (Aa (BR sH hr (Aa (pv 0) Ac)) Ac)))) Ac)))
 (Ae (Ba (i:=12) Cv.nd rfl (Or.inl rfl) (BZ Ac))
 (Ae (Ck QbQ rfl (CW (pv 9)) (Ai (i:=13) Cv.nd rfl (Or.inl rfl))
 (Ag (Ck QbQ rfl (Fp (pv 13)) (CT rfl (Al (Ai (i:=14) Cv.nd rfl (Or.inl rfl)) (Al (Ai (i:=15) Cv.nd rfl (Or.inl rfl)) (Al (Ai (i:=16) Cv.nd rfl (Or.inl rfl)) Br))))
 (Ag (Bo (Cy Qat Qar Qas Gg (pv 12) (Aa (Cw (N':=xp) rfl (Bk.plain rfl (by trivial) (by trivial) (by trivial)) (Fp (Bh O8 (Bd (Aa (Bd (Aa (pv 14) (Aa (pv 15) Ac))) Ac)) (pv 16))) (λ_ _ _ _=>(Ih (K:=K) (n:=2) rfl rfl (Al (Ai (i:=0) (show List.Nodup (xp:YF) by trivial) rfl (Or.inl rfl)) (Al (Ai (i:=1) (show List.Nodup (xp:YF) by trivial) rfl (Or.inl rfl)) Br)))) (λ_ _ _ _=>(G8 (Bx (Xl (K:=K) rfl) (pv 0) (Bd (Aa Bf (Aa Bf Ac))) (by with_unfolding_all rfl)))) (λ_ _ _ _=>(pv 1))) Ac)))))))
 (Ae (Ba (i:=17) Cv.nd rfl (Or.inl rfl) (BZ Ac))
 (Ae (Ba (i:=18) Cv.nd rfl (Or.inl rfl) (Cm sI hr (Aa (pv 0) (Aa (Cm BL hr (Aa (pv 0) (Aa Af Ac))) Ac))))
 (Ae (Ck QbQ rfl (CW (pv 18)) (Ai (i:=19) Cv.nd rfl (Or.inl rfl))
 (Ae (Ba (i:=20) Cv.nd rfl (Or.inr rfl) (Av iG rfl T.sorted Qp (Aa (Cw (N':=xD) rfl (Bk.of (src:=[none,some 0]) (Aj Le) xk rfl rfl rfl (by trivial) (by trivial) (by trivial) rfl (by trivial)) (CW (pv 12)) (λ_ _ _ _=>(Ai (i:=0) (show List.Nodup (xD:YF) by trivial) rfl (Or.inl rfl))) (λ_ _ _ _=>(G8 (Bx GF (Cm BL hr (Aa (pv 1) (Aa Af Ac))) Af (BP _)))) (λ_ _ _ _=>(pv 0))) Ac)))
 (Ae (YZ (i:=12) Cv.nd rfl (Or.inl rfl) (N':=["_law_number","_law_some"]) rfl (Bk.of (src:=[none,some 20]) (Aj Le) xk rfl rfl rfl (by trivial) (by trivial) (by trivial) rfl (by trivial)) (CW (pv 12)) (λ_ _ _ _=>(Ai (i:=0) (show List.Nodup (["_law_number","_law_some"]:YF) by trivial) rfl (Or.inl rfl))) (λ_ _ _ _=>(G8 (Bx (RT (K:=K) rfl) (pv 0) (pv 1) (by with_unfolding_all rfl)))) (λ_ _ _ _=>(pv 0)))
 (Ag (Cu (Bx Ux (Av Bj rfl T.len CV (Aa (pv 20) Ac)) Af (BP _)) (Ag (Bo (Cy Qat Qap Qaq BX (pv 17) (Aa (Bd (Aa (pv 19) (Aa (Df DQ rfl T.tuple Gn (Aa (pv 20) Ac)) Ac))) Ac)))) BJ)))))
 (Ag (Ay (Bd (Aa (Av (Nb rfl) rfl T.min Ua (Aa Af (Aa (Bh Cz (pv 11) (Cm BL hr (Aa (pv 0) (Aa Af Ac)))) Ac))) (Aa (Df DQ rfl T.tuple Gn (Aa (pv 9) Ac)) (Aa (Df DQ rfl T.tuple Gn (Aa (pv 17) Ac)) Ac))))))))))))))))))))),?_⟩
 show let R0:TS:=_;let R1:TS:=_;let R2:TS:=Jl _ R1 _;let R3:TS:=Ao _ R2;let R4:TS:=Ao _ R3;let R5:TS:=Ao (Dm _ _ R4) R0;let R6:TS:=Ao _ R5;let R7:TS:=Ao _ R6;let R8:TS:=_;let R9:TS:=Dm _ _ R8;let R10:TS:=Ao (Dm _ _ R9) R7;let R11:TS:=Ao _ R10;let R12:TS:=Ao _ R11;let R13:TS:=_;let R14:TS:=Ao (Dm _ _ R13) R12;let R15:TS:=Ao _ R14;let R16:TS:=Ao _ R15;let R17:TS:=Ao _ R16;let R18:TS:=Ao _ R17;let R19:TS:=Ao _ R18;let R20:TS:=Ao _ R19;let R21:TS:=Ao _ R20;Ao _ R21 _ _ _;intro R0 R1 R2 R3 R4 R5 R6 R7 R8 R9 R10 R11 R12 R13 R14 R15 R16 R17 R18 R19 R20 R21;generalize hst:L2.start _ _=σ0;have e0:σ0=[js b,some (.int ml),some (.int mp),none,none,none,none,none,none,none,none,none,none,none,none,none,none,none,none,none,none]:=hst.symm;clear hst;subst e0;refine⟨_,rq,b,n,99,rq,hb,by omega,by decide,by decide,λr1 H1 r10 r11 hb1 sb1=>?_⟩;simp only[Qbc,Qbb];refine⟨Ar (by show 9<=1000;decide),λl9 hl9=>?_⟩;have s9:=Ad hl9 (.lst [.int 1,.int 2,.int 4,.int 5,.int 7,.int 8,.int 10,.int 13,.int 98]);refine⟨_,rq,b,_,9,rq,hb1.same s9,by omega,by decide,by decide,λr2 H2 r20 r21 hb2 sb2=>?_⟩;obtain⟨sd,esd,⟨sd0,sd1⟩,sdk⟩:=RS r20 r21 (a:=1) (b:=2) (c:=4) (d:=5) (e:=7) (f:=8) (g:=10) (h:=13) (k:=98) (λp=>(0<=p/\p<=98)/\FW p) (by unfold FW;decide) (by unfold FW;decide) (by unfold FW;decide) (by unfold FW;decide) (by unfold FW;decide) (by unfold FW;decide) (by unfold FW;decide) (by unfold FW;decide) (by unfold FW;decide);refine⟨l9,_,_,_,rq,rq,SqL.of (sb2 _ _ Ab (hb1.nb hl9).symm),esd,?_⟩;simp only[Qbc,Qbb];have sB2:Ah b H H2:=(sb1.trans (Ah.of s9)).trans sb2;refine⟨_,rq,by decide,by decide,λnb yq=>?_⟩;have nbn:b≠nb:=hb2.nb yq;have fnb:H nb=none:=sB2.free hb2.ex yq;let J0:YN:=λi U HH=>∃(u:Option V) (ns:List Int),U=[u,some (.int r1),some (.int sd)]/\HH=upd H2 nb (.lst (ns.map V.int))/\ns=QF r1 sd i;refine K5 J0 ⟨none,[],rq,rq,rq⟩ (λi U HH hi h=>?_) (fun U HH h=>?_)
 ·obtain⟨u,ns,rfl,rfl,e1⟩:=h;have hi:i < 30:=hi;have e1l:ns.length=i:=by rw[e1];unfold QF;rw[QbM,Qbz]
  refine⟨_,rq,_,rq,_,rq,_,_,rq,rq,.inl ⟨by omega,by omega⟩,_,_,rq,rq,_,_,rq,rq,(by show (0:Int) < 99;decide),_,_,rq,rq,_,Ab,Am (by rw[QbM];omega),_,ns++[(r1+sd*(0+(i:Int))) % 99+1],rq,?_,by rw[rC,e1]⟩;rw[Uk,QbN];rfl
 obtain⟨u,wH,rfl,rfl,e30⟩:=h;have yP:wH=QF r1 sd 30:=e30;have e30:wH.length=30:=by rw[yP];unfold QF;rw[QbM,Qbz]
 simp only[Qbc,Qbb];cases wH with
 | nil=>cases e30
 | cons own Jp=>
 have e29:Jp.length=29:=by simpa using e30
 have G1:(own::Jp).Nodup:=by rw[yP];exact A8 sdk
 have G2:∀x∈own::Jp,1<=x/\x<=99:=by rw[yP];exact A9 r1 sd 30
 have sN:=Ad yq (.lst ((own::Jp).map V.int));refine⟨_,rq,.inl ⟨rq,_,SqL.of Ab⟩,nb,_,0,0,.int own,rq,rq,Ab,by decide,by decide,qz (by rw[QbM];show 0 < _+1;omega),rq,?_⟩;simp only[Qbc,Qbb];have EO:upd (upd H2 nb (.lst ((own::Jp).map V.int))) nb (.lst (((own::Jp).map V.int).eraseIdx 0)) nb=some (.lst (Jp.map V.int)):=by rw[Ab];rfl
 have hb4:Cd (upd (upd H2 nb (.lst ((own::Jp).map V.int))) nb (.lst (((own::Jp).map V.int).eraseIdx 0))) b (n+1+1):=(hb2.same sN).Ji Ah.upd nbn;have sB4:Ah b H (upd (upd H2 nb (.lst ((own::Jp).map V.int))) nb (.lst (((own::Jp).map V.int).eraseIdx 0))):=Ah.Rj (sB2.trans (Ah.of sN)) Ah.upd fnb;generalize upd (upd H2 nb (.lst ((own::Jp).map V.int))) nb (.lst (((own::Jp).map V.int).eraseIdx 0))=H4 at EO hb4 sB4;refine⟨Ar (by show 0<=1000;decide),λf0 hf0=>?_⟩;simp only[Qbc,Qbb];have s5:=Ad hf0 (.tup []);refine⟨b,nb,f0,_,mp,Jp,rq,rq,rq,rq,Ab,hb4.same s5,by omega,nbn,s5 _ _ EO,Os,hmp,by omega,λft fv fp ns1 H5 hft hfp EW hfl N9 On hb5 s45=>?_⟩;simp only[Qbc,Qbb];have sB5:Ah b H H5:=λc o e nc=>s45 _ _ (s5 _ _ (sB4 _ _ e nc)) nc (λz=>by rw[z,fnb] at e;cases e);have lfv:=Qci hfp;refine⟨_,rq,_,rq,ft,_,rq,.inr (SqT.of hft),_,_,rq,rq,b,_,_,rq,hb5,by omega,by omega,by omega,λr4 H6 r40 r41 hb6 sb6=>?_⟩;simp only[Qbc,Qbb];obtain⟨an,han⟩ : ∃an:Nat,r4=an:=⟨r4.toNat,by omega⟩;subst han;have EU:=(sb6.tup hb5.Ip) _ _ hft;have EV:=Pn.tups (sb6.tup hb5.Ip) hfp;have EN:=sb6 _ _ On nbn.symm;have sB6:=sB5.trans sb6;refine⟨_,rq,_,rq,_,rq,ft,fv,rq,EU,λp1 H7 hp1 s7=>?_⟩;rw[FK (by omega)] at hp1;refine⟨_,rq,Ar (by show 0<=1000;decide),λe0 he0=>⟨Ar (by show 3<=1000;decide),λt3 ht3=>⟨Ar (by show 1<=1000;decide),λt1 ht1=>?_⟩⟩⟩;have q1:=Ad he0 (.tup []);have q2:=Ad ht3 (.tup [.str "seeker",.int own,.ref e0]);have q3:=Ad ht1 (.tup [.ref t3]);have q13:=(q1.trans q2).trans q3;have hown:Eo (upd (upd (upd H7 e0 (.tup [])) t3 (.tup [.str "seeker",.int own,.ref e0])) t1 (.tup [.ref t3])) (.ref t3) ⟨"seeker",own,[]⟩:=⟨t3,e0,[],rq,q3 _ _ Ab,q3 _ _ (q2 _ _ Ab),.nil⟩;refine⟨p1,t1,_,_,rq,rq,q13 _ _ hp1,Ab,Ar (by rw[QbD];show _+1<=1000;omega),λp2 H8 hp2 s8=>?_⟩;have s68:=(s7.trans q13).trans s8;refine⟨_,rq,_,rq,_,rq,ft,fv,rq,s68 _ _ EU,λp3 H9 hp3 s9'=>?_⟩;rw[Wr (by omega)] at hp3;refine⟨p2,p3,_,_,rq,rq,s9' _ _ hp2,hp3,Ar (by rw[QaY,QbD,QbG];show _+1+_<=1000;omega),λp4 H10 hp4 s10=>⟨Ar (by show 1<=1000;decide),λll hll=>?_⟩⟩;simp only[Qbc,Qbb];have dD:=(s68.trans s9').trans s10;have s11:=Ad hll (.lst [.ref p4]);have dB:=dD.trans s11;have hL0:LoopAt (upd H10 ll (.lst [.ref p4])) (.ref p4) ((fp.take an++[⟨"seeker",own,[]⟩])++fp.drop an):=by
  refine⟨p4,_,rq,s11 _ _ hp4,Paired.app (Paired.app (Pn.tups (Ak.of dB) (Paired.zy an EV)) (.cons ?_ .nil)) (Pn.tups (Ak.of dB) (Paired.zV an EV))⟩;exact hown.tups (Ak.of (((s8.trans s9').trans s10).trans s11))
 have D4:OkL ((fp.take an++[⟨"seeker",own,[]⟩])++fp.drop an):=by
  refine⟨?_,?_,λp hp=>?_⟩
  ·rw[QaY,QaY];show 1<=_+1+_;omega
  ·rw[QaY,QaY,QbD,QbG];show _+1+_<=12;omega
  ·rcases QbO.mp hp with z | z
   ·rcases QbO.mp z with z | z
    ·exact EW p (List.mem_of_mem_take z)
    ·have:p=⟨"seeker",own,[]⟩:=by simpa using z
     rw[this];exact⟨by show 0<=3;decide,(λd hd=>by cases hd),.inr (.inl rfl)⟩
   ·exact EW p (List.mem_of_mem_drop z)
 have pm0:(adL ((fp.take an++[⟨"seeker",own,[]⟩])++fp.drop an)++ns1).Perm (own::Jp):=by
  have h2:adL fp=adL (fp.take an)++adL (fp.drop an):=by rw[<-Oh,List.take_append_drop]
  have h3:adL [(⟨"seeker",own,[]⟩ : Place)]=[own]:=by
   have:adP ⟨"seeker",own,[]⟩=[own]:=if_neg (Xx (.inl rfl));show [(⟨"seeker",own,[]⟩ : Place)].flatMap adP=[own];simp[this]
  rw[Oh,Oh,h3,N9,h2,Qbp,Qbp,Qbp];exact (List.perm_middle (l₁:=adL (fp.take an)) (a:=own) (l₂:=adL (fp.drop an)++ns1))
 have IT:1<=(adL ((fp.take an++[⟨"seeker",own,[]⟩])++fp.drop an)).length:=by
  have h3:adL [(⟨"seeker",own,[]⟩ : Place)]=[own]:=by
   have:adP ⟨"seeker",own,[]⟩=[own]:=if_neg (Xx (.inl rfl));show [(⟨"seeker",own,[]⟩ : Place)].flatMap adP=[own];simp[this]
  rw[Oh,Oh,h3,QaY,QaY];show 1<=_+1+_;omega
 generalize UA:(fp.take an++[⟨"seeker",own,[]⟩])++fp.drop an=L0 at hL0 D4 pm0 IT;have hbL:Cd (upd H10 ll (.lst [.ref p4])) b (n+1+1+101+1):=hb6.same dB;have EM:=dB _ _ EN;have sBL:Ah b H (upd H10 ll (.lst [.ref p4])):=sB6.trans (Ah.of dB);have EQ:upd H10 ll (.lst [.ref p4]) ll=some (.lst [.ref p4]):=Ab;have fll:H ll=none:=(sB6.trans (Ah.of dD)).free (hb6.same dD).ex hll;have nbl:b≠ll:=(hb6.same dD).nb hll;have nnl:nb≠ll:=Ax (dD _ _ EN) hll;generalize upd H10 ll (.lst [.ref p4])=HL at hL0 hbL EM sBL EQ;refine⟨_,rq,_,rq,b,_,_,rq,hbL,by omega,by omega,by omega,λr5 HM r50 r51 hbM sbM=>⟨_,rq,by omega,by omega,?_⟩⟩;obtain⟨lnn,Oy⟩ : ∃lnn:Nat,r5=lnn:=⟨r5.toNat,by omega⟩;subst Oy;rw[Qbr];have tM:=sbM.tup hbL.Ip;have KL:∀ps∈[L0],OkL ps:=λps hps=>by
  have:ps=L0:=by simpa using hps
  rw[this];exact D4
 let J1:YN:=λi U HH=>∃(u10:Option V) (vs:YG) (ja:YU) (ns':List Int),U=[js b,some (.int ml),some (.int mp),some (.int r1),some (.int sd),js nb,some (.int own),js ft,some (.int (an:Int)),js ll,u10,none,none,none,none,none,none,none,none,none,none]/\HH ll=some (.lst vs)/\Paired (LoopAt HH) vs ja/\ja.length=1+i/\(∀ps∈ja,OkL ps)/\((CP ja++ns').Perm (own::Jp)/\∃L,ja=L0::L)/\HH nb=some (.lst (ns'.map V.int))/\Cd HH b (n+105+101*i)/\Ah b H HH;refine Fx J1
  ⟨_,[.ref p4],[L0],ns1,rq,sbM _ _ EQ nbl.symm,.cons (hL0.tups tM) .nil,rq,KL,⟨(by show ([L0].flatMap adL++_).Perm _;simpa using pm0),[],rq⟩,sbM _ _ EM nbn.symm,hbM.mono (by omega),sBL.trans sbM⟩ (λi U HH hi h=>?_) (fun U HH h=>?_)
 ·obtain⟨u10,vs,ja,ns',rfl,e1,e2,e3,e4,⟨e5p,Lr,hLr⟩,e6,e7,e8⟩:=h;have e5:(CP ja).length+ns'.length=30:=by
   have:=e5p.length_eq;rw[QaY,QbC,e29] at this;exact this
  simp only[Qbc,Qbb];refine⟨_,rq,.inl ⟨rq,_,SqL.of e1⟩,_,rq,_,rq,_,rq,b,nb,_,mp,ns',rq,e7,by omega,nbn,e6,by omega,by omega,by omega,λt ps KS H' hL hok h1 h2 hns hnb' hb' s2=>?_⟩;have e1':=s2 _ _ e1 nbl.symm nnl.symm;have t2:Ak HH H':=λc xs e=>s2 _ _ e (λz=>e7.Ip _ (z ▸ e)) (λz=>by rw[z,e6] at e;cases e);refine⟨ll,_,_,rq,rq,e1',Am (by rw[Qci e2];omega),?_⟩;have tv0:∀zs,H' ll≠some (.tup zs):=λzs z=>by rw[e1'] at z;cases z
  have tv:=Ak.upd (o:=.lst (vs++[.ref t])) tv0;refine⟨_,vs++[.ref t],ja++[ps],KS,rq,Ab,QcF (hL.tups tv) (Ln.tups tv (Ln.tups t2 e2)),by rw[QaY,e3];show _+1=_;omega,λp hp=>?_,?_,by rw[Aq nnl];exact hnb',(hb'.Ji Ah.upd nbl).mono (by omega),λc o e nc=>?_⟩
  ·rcases QbO.mp hp with z | z
   ·exact e4 p z
   ·have:p=ps:=by simpa using z
    rw[this];exact⟨h1,by omega,hok⟩
  ·refine⟨?_,Lr++[ps],by rw[hLr];rfl⟩;rw[aG,Qbp,<-hns];exact e5p
  ·rw[Aq (λz=>by rw[z,fll] at e;cases e)];exact s2 _ _ (e8 _ _ e nc) nc (λz=>by rw[z,fnb] at e;cases e)
 obtain⟨u10,vs,ja,ns',rfl,e1,e2,e3,e4,⟨e5p,rY⟩,e6,e7,e8⟩:=h;have e5:(CP ja).length+ns'.length=30:=by
  have:=e5p.length_eq;rw[QaY,QbC,e29] at this;exact this
 have lvs:=Qci e2;have ndA:(CP ja).Nodup:=(Qbw.mp (e5p.nodup_iff.mpr G1)).1;have bdA:∀x∈CP ja,1<=x/\x<=99:=λx hx=>G2 x (e5p.mem_iff.mp (QaM _ hx));have Co:=Sv e4;refine⟨_,rq,ll,rq,⟨_,SqL.of e1⟩,λlm hlm=>?_⟩;have nlm:ll≠lm:=Ax e1 hlm;let J2:YN:=λi U H'=>∃(u:Option V) (ms:List Int),U=[u]/\H' lm=some (.lst (ms.map V.int))/\ms.length=i/\Same HH H'/\∀ps∈ja.take i,∀m∈Iz ps,∃M∈ms,m<=M;refine Fy (xs:=vs) J2 ⟨none,[],rq,Ab,rq,Ad hlm _,(λps hps=>by cases hps)⟩ (λi U H' _ h=>?_) (λi x U H' hx h=>?_) (fun U H' h=>?_)
 ·obtain⟨u,ms,rfl,m1,m2,m3,m4⟩:=h;exact SqL.of (m3 _ _ e1)
 ·obtain⟨u,ms,rfl,m1,m2,m3,m4⟩:=h;obtain⟨ps,hps,hL⟩:=Paired.Cp e2 hx;obtain⟨tx,wx,rfl,hx1,hx2⟩:=id hL;have okl:=e4 ps (QaK hps);refine⟨_,rq,tx,ps,rq,hL.tups (Ak.of m3),okl.ok,by have:=okl.hi;omega,λlq H'' hq s'=>⟨lq,Iz ps,rq,SqL.of hq,(by unfold Iz;rw[QaY];show 0 < _+1;omega),λM hMi hMm=>?_⟩⟩;have hi:=(Qai.mp hx).1;refine⟨_,s' _ _ m1,Am (by rw[QbM];omega),_,ms++[M],rq,by rw[Ab,QbN];rfl,by rw[QaY,m2];rfl,(m3.trans s').Bp Ah.upd hlm,λqs hqs m hm=>?_⟩;rw[QcM hps] at hqs;rcases QbO.mp hqs with hqs | hqs
  ·obtain⟨M',h1,h2⟩:=m4 qs hqs m hm;exact⟨M',QaM _ h1,h2⟩
  ·have:qs=ps:=by simpa using hqs
   rw[this] at hm;exact⟨M,QaE _ (QaZ ..),hMm m hm⟩
 obtain⟨u,ms,rfl,m1,m2,m3,m4⟩:=h;refine⟨lm,ms,rq,SqL.of m1,by omega,λM hMi hMm=>?_⟩;have Eg:∀ps∈ja,∀m∈Iz ps,m<=M:=λps hps m hm=>by
  obtain⟨M',h1,h2⟩:=m4 ps (by rw[lvs,QbB];exact hps) m hm;have:=hMm M' h1;omega
 simp only[Qbc,Qbb];have e1:=m3 _ _ e1;have e2:=Ln.tups (Ak.of m3) e2;have e7:=e7.same m3;have e8:=e8.trans (Ah.of m3);clear m1 m2;refine⟨Ar (by show 0<=1000;decide),λlt hlt=>?_⟩;simp only[Qbc,Qbb];have sT:=Ad hlt (.lst []);have nbt:b≠lt:=e7.nb hlt;refine⟨_,rq,ll,rq,⟨_,SqL.of (sT _ _ e1)⟩,?_⟩;let J3:YN:=λi U HT=>∃(u13 u14 u15 u16:Option V) (ts:List Int),U=[js b,some (.int ml),some (.int mp),some (.int r1),some (.int sd),js nb,some (.int own),js ft,some (.int (an:Int)),js ll,u10,some (.int M),js lt,u13,u14,u15,u16,none,none,none,none]/\HT lt=some (.lst (ts.map V.int))/\ts=Gb (ja.take i)/\Same H' HT;refine Pj (xs:=vs) J3 ⟨_,_,_,_,[],rq,Ab,rq,sT⟩ (λi U HT _ h=>?_) (λi x U HT hx h=>?_) (fun U HT h=>?_)
 ·obtain⟨u13,u14,u15,u16,ts,rfl,t1,t2,t3⟩:=h;exact SqL.of (t3 _ _ e1)
 ·obtain⟨u13,u14,u15,u16,ts,rfl,t1,t2,t3⟩:=h;simp only[Qbc,Qbb];obtain⟨ps,hps,hL⟩:=Paired.Cp e2 hx;obtain⟨tx,wx,rfl,hx1,hx2⟩:=id hL;have okl:=e4 ps (QaK hps);have lwx:=Qci hx2;have etk:CP (ja.take (i+1))=CP (ja.take i)++adL ps:=by rw[QcM hps,aG]
  have tot:(CP (ja.take (i+1))).length<=30:=by
   have:CP ja=CP (ja.take (i+1))++CP (ja.drop (i+1)):=by unfold CP;rw[<-QaR,List.take_append_drop]
   have h2:=congrArg List.length this;rw[QaY] at h2;omega
  rw[etk,QaY] at tot;have wle:(Gb (ja.take i)).length<=(CP (ja.take i)).length:=(Sv λqs hqs=>e4 qs (List.mem_of_mem_take hqs)).length_le;have wtk:Gb (ja.take (i+1))=Gb (ja.take i)++JK ps:=by rw[QcM hps,mH]
  refine⟨_,rq,tx,rq,⟨_,SqT.of (t3 _ _ hx1)⟩,?_⟩;let J4:YN:=λj U HT=>∃(u14 u15 u16:Option V) (ts:List Int),U=[js b,some (.int ml),some (.int mp),some (.int r1),some (.int sd),js nb,some (.int own),js ft,some (.int (an:Int)),js ll,u10,some (.int M),js lt,js tx,u14,u15,u16,none,none,none,none]/\HT lt=some (.lst (ts.map V.int))/\ts=Gb (ja.take i)++JK (ps.take j)/\Same H' HT;refine Kr (xs:=wx) J4 ⟨_,_,_,ts,rq,t1,(by rw[t2];show _=_++[];rw[QbP]),t3⟩ (λj U HT _ h=>?_) (λj y U HT hy h=>?_) (fun U HT h=>?_)
  ·obtain⟨u14,u15,u16,ts,rfl,t1,t2,t3⟩:=h;exact SqT.of (t3 _ _ hx1)
  ·obtain⟨u14,u15,u16,ts,rfl,t1,t2,t3⟩:=h;obtain⟨p,hp,hP⟩:=Paired.Cp hx2 hy;obtain⟨tp,up,wp',rfl,hp1,hp2,hp3⟩:=hP.tups (Ak.of t3);have okp:=okl.ok p (QaK hp);have etj:adL (ps.take (j+1))=adL (ps.take j)++adP p:=by rw[QcM hp,Ww]
   have tj:(adL (ps.take (j+1))).length<=(adL ps).length:=by
    have:adL ps=adL (ps.take (j+1))++adL (ps.drop (j+1)):=by rw[<-Oh,List.take_append_drop]
    have h2:=congrArg List.length this;rw[QaY] at h2;omega
   rw[etj,QaY] at tj;have wlj:(JK (ps.take j)).length<=(adL (ps.take j)).length:=(Vz λqs hqs=>okl.ok qs (List.mem_of_mem_take hqs)).length_le;have wtj:JK (ps.take (j+1))=JK (ps.take j)++Jk (Gq p):=by rw[QcM hp,qe]
   have t2l:ts.length<=(CP (ja.take i)).length+(adL (ps.take j)).length:=by rw[t2,QaY];omega
   refine⟨tp,_,rq,SqT.of hp1,rq,_,_,rq,_,_,rq,_,_,rq,rq,?_⟩;simp only[Qbc,Qbb];refine⟨_,rq,.inl ⟨rq,_,SqL.of t1⟩,_,rq,_,rq,Ar (by show 2<=1000;decide),λta hta=>⟨Ar (by show 1<=1000;decide),λtb htb=>?_⟩⟩;have v1:=Ad hta (.tup [.str p.kind,.int p.addr]);have v2:=Ad htb (.tup [.ref ta]);have v12:=v1.trans v2;refine⟨_,rq,tb,up,_,_,rq,rq,Ab,v12 _ _ hp2,Ar (by have:=okp.spur;show 1+_<=1000;rw[Qci hp3];omega),λtc HC hC sC=>⟨tc,rq,⟨_,SqT.of hC⟩,λl hl=>?_⟩⟩;have vC:=v12.trans sC;have hds:Paired (K8 HC) ([.ref ta]++wp') (⟨p.kind,p.addr⟩::p.spur):=.cons ⟨ta,rq,sC _ _ (v2 _ _ Ab)⟩ (Paired.Aw hp3 λ_ _ z=>z.tups (Ak.of vC));have lds:=Qci hds;let J5:YN:=λk U H5=>∃(u v:Option V) (ys:List Int),U=[u,v]/\H5 l=some (.lst (ys.map V.int))/\ys=Jk ((Gq p).take k)/\Same HC H5;refine Pq (xs:=[.ref ta]++wp') J5 ⟨none,none,[],rq,Ab,rq,Ad hl _⟩ (λk U H5 _ h=>?_) (λk x U H5 hk h=>?_) (fun U H5 h=>?_)
   ·obtain⟨u,v,ys,rfl,y1,y2,y3⟩:=h;exact SqT.of (y3 _ _ hC)
   ·obtain⟨u,v,ys,rfl,y1,y2,y3⟩:=h;obtain⟨d,hd,td,rfl,htd⟩:=Paired.Cp hds hk;have hkl:=(Qai.mp hd).1;have hsp:=okp.spur;have hkk:k < 4:=by rw[QbC] at hkl;omega
    have hdv:(Gq p)[k]?=some d:=hd;have hws:Jk ((Gq p).take (k+1))=Jk ((Gq p).take k)++(if FT d.kind=true then [d.addr] else []):=by rw[QcM hdv,qg]
    have y2l:ys.length<=k:=by
     rw[y2];have:=(jX (ds:=(Gq p).take k)).length_le;rw[QbM,QbD] at this;omega
    refine⟨td,_,rq,SqT.of (y3 _ _ htd),rq,_,_,rq,_,_,rq,rq,?_⟩;refine⟨_,rq,Ar (by show 2<=1000;decide),λtq htq=>?_⟩;have vq:=Ad htq (.tup [.str "seeker",.str "knob"]);refine⟨tq,_,rq,.inr (SqT.of Ab),rq,rq,_,rq,Nk (λcc=>?_) (λcc=>?_)⟩
    ·have cc:FT d.kind=true:=cc;rw[if_pos cc] at hws;refine⟨_,rq,_,vq _ _ y1,Am (by rw[QbM];omega),_,_,ys++[d.addr],rq,by rw[Ab,QbN];rfl,by rw[hws,y2],(y3.trans vq).Bp Ah.upd hl⟩
    ·have cc:¬FT d.kind=true:=cc;rw[if_neg cc,QbP] at hws;refine⟨_,_,ys,rq,vq _ _ y1,by rw[hws];exact y2,y3.trans vq⟩
   obtain⟨u,v,ys,rfl,y1,y2,y3⟩:=h;have y2':ys=Jk (Gq p):=by
    rw[y2,lds];congr 1;exact QbB ..
   have y2l:ys.length<=(adP p).length:=by rw[y2'];exact (bR okp).length_le
   have t1':=y3 _ _ (vC _ _ t1);refine⟨lt,l,_,_,rq,rq,t1',y1,Ar (by rw[QbM,QbM];omega),?_⟩;refine⟨_,_,_,ts++ys,rq,by rw[Ab,QbN],?_,((t3.trans vC).trans y3).Bp Ah.upd hlt⟩;rw[wtj,t2,y2',Qbp]
  ·obtain⟨u14,u15,u16,ts,rfl,t1,t2,t3⟩:=h;rw[lwx,QbB] at t2;exact⟨_,_,_,_,ts,rq,t1,by rw[wtk];exact t2,t3⟩
 obtain⟨u13,u14,u15,u16,ts,rfl,t1,t2,t3⟩:=h;rw[lvs,QbB] at t2;have vm:ts.length<=30:=by rw[t2];have:=Co.length_le;omega
 have zk0:RN (Gb ja) ts [] []:=by
  rw[t2];exact⟨Co.nodup ndA,(λx hx=>hx),(λz hz=>by cases hz),List.Sublist.refl _⟩
 have e1:=t3 _ _ e1;have e2:=Ln.tups (Ak.of t3) e2;have e7:=e7.same t3;have e8:=e8.trans (Ah.of t3);refine⟨Ar (by show 0<=1000;decide),λlz hlz=>?_⟩;simp only[Qbc,Qbb];have sZ:=Ad hlz (.lst []);have nzl:ll≠lz:=Ax e1 hlz;have nzt:lt≠lz:=Ax t1 hlz;have nzb:b≠lz:=e7.nb hlz;have flz:H lz=none:=e8.free e7.ex hlz;refine⟨_,rq,_,rq,b,_,5,rq,e7.same sZ,by omega,by decide,by decide,λr6 HU r60 r61 hbU sU=>?_⟩;obtain⟨rn,hrn⟩ : ∃rn:Nat,r6=rn:=⟨r6.toNat,by omega⟩;subst hrn;refine⟨b,_,rn,rq,hbU,by omega,by omega,λln ys HV hln ly hys JA o9 hbV sV=>?_⟩;simp only[Qbc,Qbb];have sUV:Ah b _ HV:=((Ah.of sZ).trans sU).trans sV;have nzn:ln≠lz:=λz=>by rw[z,sU _ _ Ab nzb.symm] at hln;cases hln
 have e1:=sUV _ _ e1 nbl.symm;have e2:=Ln.tups (sUV.tup e7.Ip) e2;have e8:=e8.trans sUV;have hzV:HV lz=some (.lst []):=sV _ _ (sU _ _ Ab nzb.symm) nzb.symm;have t1:=sUV _ _ t1 nbt.symm;have hbV:=hbV.mono (show _<=n+500 by omega);have tl3:ja.length<=3:=by omega
 have nln:b≠ln:=hbU.nb hln;refine⟨_,rq,ln,rq,⟨_,SqL.of o9⟩,?_⟩;let J6:YN:=λi U HH=>∃(lt:Addr) (u19 u20:Option V) (ts:List Int) (zs:YG),U=[js b,some (.int ml),some (.int mp),some (.int r1),some (.int sd),js nb,some (.int own),js ft,some (.int (an:Int)),js ll,u10,some (.int M),js lt,u13,u14,u15,u16,js lz,js ln,u19,u20]/\HH lt=some (.lst (ts.map V.int))/\ts.length<=30/\b≠lt/\lt≠lz/\HH lz=some (.lst zs)/\(∃jp,Paired (Hl HH) zs jp/\RN (Gb ja) ts jp (ys.take i))/\HH ln=some (.lst (ys.map V.str))/\HH ll=some (.lst vs)/\Paired (LoopAt HH) vs ja/\Cd HH b (n+500+30*i)/\Ah b H HH;refine Pj (xs:=ys.map V.str) J6
  ⟨lt,_,_,ts,[],rq,t1,vm,nbt,nzt,hzV,⟨[],.nil,zk0⟩,o9,e1,e2,hbV,e8⟩ (λi U HH _ h=>?_) (λi x U HH hx h=>?_) (fun U HH h=>?_)
 ·obtain⟨lt,u19,u20,ts,zs,rfl,z1,z2,z3,z4,z5,z6,z7,z8,z9,z10,z11⟩:=h;exact SqL.of z7
 ·clear t1 t2 t3 vm nbt nzt hzV o9 e1 e2 hbV e8;obtain⟨lt,u19,u20,ts,zs,rfl,z1,z2,z3,z4,z5,z6,z7,z8,z9,z10,z11⟩:=h;obtain⟨jp,zp,zk⟩:=z6;have Jn:zs.length<=5:=by
   have h1:=Qci zp;have h2:=zk.nm.length_le;rw[QbM,QbD] at h2;omega
  obtain⟨yi,hyi,rfl⟩ : ∃yi,ys[i]?=some yi/\x=.str yi:=by
   rw[Qbq] at hx;obtain⟨yi,h1,h2⟩:=QaD.mp hx;exact⟨yi,h1,h2.symm⟩
  have ytk:ys.take (i+1)=ys.take i++[yi]:=QcM hyi;have hil:i < 5:=by
   have:=(Qai.mp hx).1;rw[QbM] at this;omega
  simp only[Qbc,Qbb];refine⟨_,rq,lt,rq,⟨_,SqL.of z1⟩,λlc hlc=>?_⟩;have nbc:b≠lc:=z10.nb hlc;have ntc:lt≠lc:=Ax z1 hlc;have sC:=Ad hlc (.lst []);let J7:YN:=λk U HC=>∃(u:Option V) (ss:List Int),U=[u,js b]/\HC lc=some (.lst (ss.map V.int))/\ss.Sublist (ts.take k)/\Cd HC b (n+500+30*i+k)/\Ah b HH HC;refine Fy (xs:=ts.map V.int) J7 ⟨none,[],rq,Ab,List.Sublist.refl _,z10.same sC,Ah.of sC⟩ (λk U HC _ h=>?_) (λk x U HC hk h=>?_) (fun U HC h=>?_)
  ·obtain⟨u,ss,rfl,c1,c2,c3,c4⟩:=h;exact SqL.of (c4 _ _ z1 z3.symm)
  ·obtain⟨u,ss,rfl,c1,c2,c3,c4⟩:=h;have hkl:k < 30:=by
    have:=(Qai.mp hk).1;rw[QbM] at this;omega
   refine⟨_,rq,b,_,3,rq,c3,by omega,by decide,by decide,λr HD _ _ hbD sD=>⟨rq,_,rq,?_⟩⟩;have c1':=sD _ _ c1 nbc.symm;rw[Qbq] at hk;obtain⟨a,hka,rfl⟩:=QaD.mp hk;have tka:ts.take (k+1)=ts.take k++[a]:=QcM hka;have ssl:ss.length<=k:=Qcv c2.length_le (by rw[QbD];omega);refine Nk (λcc=>?_) (λcc=>?_)
   ·refine⟨_,rq,_,c1',Am (by rw[QbM];omega),_,ss++[a],rq,by rw[Ab,QbN];rfl,by rw[tka];exact c2.append (List.Sublist.refl _),hbD.Ji Ah.upd nbc,Ah.Rj (c4.trans sD) Ah.upd hlc⟩
   ·exact⟨_,ss,rq,c1',by rw[tka];exact c2.trans (List.sublist_append_left ..),hbD,c4.trans sD⟩
  obtain⟨u,ss,rfl,c1,c2,c3,c4⟩:=h;rw[QbM] at c2 c3;rw[QbB] at c2;have ssl:ss.length<=30:=Qcv c2.length_le z2;refine⟨lc,ss,rq,SqL.of c1,by omega,λms ls hperm NP hls=>?_⟩;simp only[Qbc,Qbb];have sS:=Ad hls (.lst (ms.map V.int));have c5:Ah b HH (upd HC ls (.lst (ms.map V.int))):=c4.trans (Ah.of sS);have c6:=c3.same sS;have c7:(upd HC ls (.lst (ms.map V.int))) ls=some (.lst (ms.map V.int)):=Ab;generalize upd HC ls (.lst (ms.map V.int))=HS at c5 c6 c7;have lms:ms.length<=30:=by have:=hperm.length_eq;omega
  have z1:=c5 _ _ z1 z3.symm;refine⟨_,rq,lt,rq,⟨_,SqL.of z1⟩,λlw hlw=>?_⟩;have nbw:b≠lw:=c6.nb hlw;have nsw:ls≠lw:=Ax c7 hlw;have nzw:lw≠lz:=(Ax (c5 _ _ z5 nzb.symm) hlw).symm;let J8:YN:=λk U HC=>∃(u:Option V) (ss:List Int),U=[u,js ls]/\HC lw=some (.lst (ss.map V.int))/\ss=(ts.take k).filter (λx=>!decide (x∈ms))/\Same HS HC;refine Fy (xs:=ts.map V.int) J8 ⟨none,[],rq,Ab,rq,Ad hlw _⟩ (λk U HC _ h=>?_) (λk x U HC hk h=>?_) (fun U HC h=>?_)
  ·obtain⟨u,ss,rfl,d1,d2,d3⟩:=h;exact SqL.of (d3 _ _ z1)
  ·obtain⟨u,ss,rfl,d1,d2,d3⟩:=h;have hkl:k < 30:=by
    have:=(Qai.mp hk).1;rw[QbM] at this;omega
   rw[Qbq] at hk;obtain⟨a,hka,rfl⟩:=QaD.mp hk;have tka:(ts.take (k+1)).filter (λx=>!decide (x∈ms))=(ts.take k).filter (λx=>!decide (x∈ms))++[a].filter (λx=>!decide (x∈ms)):=by rw[QcM hka,Qbj]
   have ssl:ss.length<=30:=by
    rw[d2];have h1:=QaH (λx=>!decide (x∈ms)) (ts.take k);rw[QbD] at h1;omega
   refine⟨_,rq,_,rq,ls,_,rq,.inl (SqL.of (d3 _ _ c7)),rq,tO ms,_,rq,Nk (λcc=>?_) (λcc=>?_)⟩
   ·have cc:(!inV (.int a) (ms.map V.int))=true:=cc;rw[Wh] at cc;rw[show List.filter (λx=>!decide (x∈ms)) [a]=[a] from Qaw (p:=λx=>!decide (x∈ms)) cc] at tka
    refine⟨_,rq,_,d1,Am (by rw[QbM];omega),_,ss++[a],rq,by rw[Ab,QbN];rfl,by rw[tka,d2],d3.Bp Ah.upd hlw⟩
   ·have cc:¬(!inV (.int a) (ms.map V.int))=true:=cc;rw[Wh] at cc;rw[show List.filter (λx=>!decide (x∈ms)) [a]=[] from Qav (p:=λx=>!decide (x∈ms)) cc] at tka
    exact⟨_,ss,rq,d1,by rw[tka,d2];exact (QbP _).symm,d3⟩
  obtain⟨u,ws,rfl,d1,d2,d3⟩:=h;rw[QbM,QbB] at d2;have wsl:ws.length<=30:=by rw[d2];exact Qcv (QaH _ _) z2
  simp only[Qbc,Qbb];have c8:=c5.trans (Ah.of d3);have z5:=c8 _ _ z5 nzb.symm;have z7:=c8 _ _ z7 nln.symm;have z8:=c8 _ _ z8 nbl.symm;have z9:=Ln.tups (c8.tup z10.Ip) z9;have zp:Paired (Hl HC) zs jp:=Paired.Aw zp λ_ _ z=>z.tups (c8.tup z10.Ip);have z10:=(c6.same d3).mono (show _<=n+500+30*(i+1) by omega);have z11:=z11.trans c8;have c7:=d3 _ _ c7;have zkn:(ms.map V.int).length=ms.length:=QbM _;refine⟨_,rq,ls,_,rq,.inl (SqL.of c7),_,_,rq,rq,_,rq,Nk (λcc=>?_) (λcc=>?_)⟩
  ·refine⟨_,rq,.inl ⟨rq,_,SqL.of z5⟩,_,rq,_,rq,ls,_,rq,.inl ⟨SqL.of c7,λtt htt=>⟨Ar (by show 2<=1000;decide),λta hta=>?_⟩⟩⟩;have f1:=Ad htt (.tup (ms.map V.int));have f2:=Ad hta (.tup [.str yi,.ref tt]);have f12:=f1.trans f2;have z5:=f12 _ _ z5;refine⟨lz,_,_,rq,rq,z5,Am (by omega),?_⟩;have tz0:∀zs',(upd (upd HC tt (.tup (ms.map V.int))) ta (.tup [.str yi,.ref tt])) lz≠some (.tup zs'):=λzs' z=>by rw[z5] at z;cases z
   have tz:=Ak.upd (o:=.lst (zs++[.ref ta])) tz0;have Op:1<=ms.length:=by
    have cc:=Qbt cc;rw[zkn] at cc;omega
   have zp':Paired (Hl (upd (upd (upd HC tt (.tup (ms.map V.int))) ta (.tup [.str yi,.ref tt])) lz (.lst (zs++[.ref ta])))) (zs++[.ref ta]) (jp++[⟨yi,ms⟩]):=QcF ⟨ta,tt,rq,tz _ _ Ab,tz _ _ (f2 _ _ Ab)⟩ (Paired.Aw zp λ_ _ z=>(z.tups (Ak.of f12)).tups tz);have zk':RN (Gb ja) ws (jp++[⟨yi,ms⟩]) (ys.take (i+1)):=by rw[d2,ytk];exact zk.next hperm c2 NP lms Op
   exact⟨lw,_,_,ws,zs++[.ref ta],rq,by rw[Aq nzw];exact f12 _ _ d1,by omega,nbw,nzw,Ab,⟨_,zp',zk'⟩,by rw[Aq nzn];exact f12 _ _ z7,by rw[Aq nzl];exact f12 _ _ z8,Ln.tups tz (Ln.tups (Ak.of f12) z9),(z10.same f12).Ji Ah.upd nzb,Ah.Rj (z11.trans (Ah.of f12)) Ah.upd flz⟩
  ·exact⟨lw,_,_,ws,zs,rq,d1,by omega,nbw,nzw,z5,⟨jp,zp,by rw[d2,ytk];exact zk.none⟩,z7,z8,z9,z10,z11⟩
 clear t1 t2 t3 vm nbt nzt hzV o9 e1 e2 hbV e8;obtain⟨lt,u19,u20,ts,zs,rfl,z1,z2,z3,z4,z5,z6,z7,z8,z9,z10,z11⟩:=h;rw[QbM] at z10;obtain⟨jp,zp,zk⟩:=z6;rw[QbM,QbB] at zk;have Jn:zs.length<=5:=by
  have h1:=Qci zp;have h2:=zk.nm.length_le;rw[QbM] at h2;omega
 refine⟨_,rq,_,rq,b,_,3,rq,z10,by omega,by decide,by decide,λr7 HX _ _ hbX sX=>⟨_,_,rq,rq,_,_,rq,_,rq,ll,_,rq,.inl ⟨SqL.of (sX _ _ z8 nbl.symm),λtl htl=>?_⟩⟩⟩;have g1:=Ad htl (.tup vs);refine⟨_,rq,lz,_,rq,.inl ⟨SqL.of (g1 _ _ (sX _ _ z5 nzb.symm)),λtz htz=>⟨Ar (by show 3<=1000;decide),λt ht=>?_⟩⟩⟩;have g2:=Ad htz (.tup zs);have g3:=Ad ht (.tup [.int (if M+r7 < 30 then M+r7 else 30),.ref tl,.ref tz])
 have pI:=(g1.trans g2).trans g3;have cnt:1<=(CP ja).length:=by
  obtain⟨L,hL⟩ : ∃L,ja=L0::L:=rY;rw[hL];have:CP (L0::L)=adL L0++CP L:=by unfold CP;rw[Qbu]
  rw[this,QaY];omega
 have M1:1<=M:=by
  obtain⟨L,hL⟩ : ∃L,ja=L0::L:=rY;obtain⟨m,h1,h2⟩:=j5 (l:=Iz L0) (by rw[ZV];omega);have:=Eg L0 (by rw[hL];exact QaZ ..) m h1;omega
 have pok:je (if M+r7 < 30 then M+r7 else 30) ja jp:=by
  refine⟨ndA,bdA,⟨cnt,by omega⟩,⟨by split <;> omega,by split <;> omega⟩,λps hps m hm=>?_,λz hz x hx=>?_,(Qbw.mp zk.nd).1,zk.up,?_,λz hz=>?_,zk.nm.nodup JA⟩
  ·have h1:=Eg ps hps m hm;have h2:=v8 ps m hm;have h3:(adL ps).length<=(CP ja).length:=by
    exact lO ja hps
   split <;> omega
  ·exact zk.sub x (QaM _ (QbJ.mpr ⟨z,hz,hx⟩))
  ·have h1:=Qci zp;omega
  ·exact hys z.name (zk.nm.subset (Qcs.mpr ⟨z,hz,rq⟩))
 exact q t tl tz vs zs ja jp _ _ Ab (g3 _ _ (g2 _ _ Ab)) (Ln.tups (Ak.of pI) (Ln.tups (sX.tup z10.Ip) z9)) e4 (by omega) tl3 (g3 _ _ Ab) (Paired.Aw zp λ_ _ z=>(z.tups (sX.tup z10.Ip)).tups (Ak.of pI)) pok ((hbX.same pI).mono (by omega)) ((z11.trans sX).trans (Ah.of pI))
end
abbrev KC:Stmt:=top 23
abbrev FJ:YF:=["loop","at","place"]
theorem Dq:Az ["loop","at","place","kind","address","spur","told","number","spur_kind","spur_address"] FJ (Aj KC):=by ac_rfl
structure Sd where
 lp:Int
 at_:Int
 n:Int
 kind:Str
 addr:Int
def Pu (H:Hp) (v:V) (d:Sd):Prop:=∃t u,v=.ref t/\H t=some (.tup [.ref u,.str d.kind,.int d.addr])/\H u=some (.tup [.int d.lp,.int d.at_,.int d.n])
theorem Pu.tups {H H':Hp} (s:Ak H H') {v:V} {d:Sd} (h:Pu H v d):Pu H' v d:=by
 obtain⟨t,u,e,q1,q2⟩:=h;exact⟨t,u,e,s _ _ q1,s _ _ q2⟩
def Ej (lp at_:Int):Nat->List Dev->List Sd
 | _,[]=>[]
 | n,d::r=>⟨lp,at_,n,d.kind,d.addr⟩::Ej lp at_ (n+1) r
def Cg (lp at_:Int) (p:Place):List Sd:=if V.str p.kind=V.str "opener" then [] else ⟨lp,at_,0,p.kind,p.addr⟩::Ej lp at_ 1 p.spur
theorem Vp (lp at_:Int):∀(n:Nat) (ds:List Dev) (i:Nat) (d:Dev),ds[i]?=some d->Ej lp at_ n (ds.take (i+1))=Ej lp at_ n (ds.take i)++[⟨lp,at_,(n+i:Nat),d.kind,d.addr⟩]
 | n,[],i,d,h=>by simp at h
 | n,x::r,0,d,h=>by
  simp at h;subst h;simp[Ej]
 | n,x::r,i+1,d,h=>by
  have h':r[i]?=some d:=by simpa using h
  have ih:=Vp lp at_ (n+1) r i d h';rw[List.take_succ_cons,List.take_succ_cons];show _::Ej lp at_ (n+1) (r.take (i+1))=(_::Ej lp at_ (n+1) (r.take i))++_;rw[ih,show n+1+i=n+(i+1) by omega];rfl
structure Tx (K:YD) (mg:YB) (op oe:Addr):Prop extends Nm mg where
 OPENER:∃u,mg "OPENER"=some u/\RelV (.ref op) u
 opT:∀H,SqT K H op [.str "opener",.int 0,.ref oe]
 opE:∀H,SqT K H oe []
inductive mW (vs:YG) (H:Hp) (Q:VK) (E:XK):Prop
 | mk (lp at_:Int) (v:V) (p:Place) (_:vs=[.int lp,.int at_,v]) (_:Eo H v p) (_:p.spur.length<=3) (_:∀l xs H',H l=none->H' l=some (.lst xs)->Paired (Pu H') xs (Cg lp at_ p)->Same H H'->Q (.ref l) H'):mW vs H Q E
section
variable {P:Program} {w:World} {K:YD} {mg:YB} {base:Heap} {op oe:Addr}
theorem Wa (c:Code K mg "place_devices" KC FJ) (T:Tx K mg op oe):Good P w K mg base "place_devices" 1 FJ mW:=by
 refine c.good Dq (λvs H Q E h=>?_) (λf cdv A outer s H vs Q E hr h=>?_)
 ·obtain⟨lp,at_,v,p,rfl,_⟩:=h;rfl
 obtain⟨lp,at_,v,p,rfl,⟨t,u,vs,rfl,ht,hu,hd⟩,h3,q⟩:=h;refine⟨_,(Ae (Hz (pv 2) (CT rfl (Al (Ai (i:=3) Dq.nd rfl (Or.inl rfl)) (Al (Ai (i:=4) Dq.nd rfl (Or.inl rfl)) (Al (Ai (i:=5) Dq.nd rfl (Or.inl rfl)) Br)))))
 (Ae (Cu (Bx GF (pv 3) Bf (BP _)) (Ag (Ay (BZ Ac))) BJ)
 (Ae (Ba (i:=6) Dq.nd rfl (Or.inl rfl) (BZ (Aa (Bd (Aa (Bd (Aa (pv 0) (Aa (pv 1) (Aa Af Ac)))) (Aa (pv 3) (Aa (pv 4) Ac)))) Ac)))
 (Ae (Ck QbQ rfl (OJ rfl T.enumerate (pv 5) Af) (CT rfl (Al (Ai (i:=7) Dq.nd rfl (Or.inl rfl)) (Al (CT rfl (Al (Ai (i:=8) Dq.nd rfl (Or.inl rfl)) (Al (Ai (i:=9) Dq.nd rfl (Or.inl rfl)) Br))) Br)))
 (Ag (Bo (Cy Qat Qap Qaq BX (pv 6) (Aa (Bd (Aa (Bd (Aa (pv 0) (Aa (pv 1) (Aa (pv 7) Ac)))) (Aa (pv 8) (Aa (pv 9) Ac)))) Ac)))))
 (Ag (Ay (pv 6))))))),?_⟩
 show let R0:TS:=_;let R1:TS:=Ao (Dm _ _ R0) _;let R2:TS:=Ao _ R1;let R3:TS:=Ao _ R2;Ao _ R3 _ _ _;intro R0 R1 R2 R3;generalize hst:L2.start _ _=σ0;have e0:σ0=[some (.int lp),some (.int at_),js t,none,none,none,none,none,none,none]:=hst.symm;clear hst;subst e0;refine⟨_,rq,t,_,rq,SqT.of ht,rq,_,_,rq,_,_,rq,_,_,rq,rq,?_⟩;simp only[Qbc,Qbb];refine⟨_,rq,rq,_,rq,?_⟩;by_cases ck:V.str p.kind=V.str "opener"
 ·rw[Qcd ck];have e:Cg lp at_ p=[]:=if_pos ck;rw[e] at q;exact BK ⟨(by show 0<=sizeLine;decide),λl hl=>q l [] _ hl Ab .nil (Ad hl _)⟩
 ·rw[QbR ck];have e:Cg lp at_ p=⟨lp,at_,0,p.kind,p.addr⟩::Ej lp at_ 1 p.spur:=if_neg ck;rw[e] at q;refine Cj ⟨_,rq,_,rq,(by show 3<=sizeLine;decide),λus hus=>⟨_,rq,_,rq,(by show 3<=sizeLine;decide),λts hts=>⟨(by show 1<=sizeLine;decide),λl hl=>?_⟩⟩⟩;have s1:=Ad hus (.tup [.int lp,.int at_,.int 0]);have s2:=Ad hts (.tup [.ref us,.str p.kind,.int p.addr]);have s3:=Ad hl (.lst [.ref ts]);have sm:=s1.trans (s2.trans s3);have hl0:=s1.free (s2.free hl);have el:_=some (HO.lst [.ref ts]):=Ab (H:=upd (upd H us (.tup [.int lp,.int at_,.int 0])) ts (.tup [.ref us,.str p.kind,.int p.addr])) (a:=l) (o:=.lst [.ref ts]);have es:Pu _ (.ref ts) ⟨lp,at_,0,p.kind,p.addr⟩:=⟨ts,us,rq,s3 _ _ Ab,s3 _ _ (s2 _ _ Ab)⟩;generalize hX:upd (upd (upd H us (.tup [.int lp,.int at_,.int 0])) ts (.tup [.ref us,.str p.kind,.int p.addr])) l (.lst [.ref ts])=H1 at sm el es;simp only[Qbc,Qbb];have hu1:=sm _ _ hu;have sd0:Paired (Pu H1) [.ref ts] (⟨lp,at_,0,p.kind,p.addr⟩::Ej lp at_ 1 (p.spur.take 0)):=.cons es .nil;have My:vs.length=p.spur.length:=Qci hd;refine⟨_,rq,u,rq,⟨vs,SqT.of hu1⟩,JX (xs:=vs) (lo:=1) (λi U HH=>∃ys u7 u8 u9,U=[some (.int lp),some (.int at_),js t,some (.str p.kind),some (.int p.addr),js u,js l,u7,u8,u9]/\Ah l H1 HH/\HH l=some (.lst ys)/\Paired (Pu HH) ys (⟨lp,at_,0,p.kind,p.addr⟩::Ej lp at_ 1 (p.spur.take i))/\ys.length<=i+1)
   ⟨[.ref ts],_,_,_,rq,Ah.refl l H1,el,sd0,QcD _⟩ (λi U HH _ h=>?_) (λi x pt U HH hx h hpt=>?_) (fun U HH h=>?_)⟩
  ·obtain⟨ys,_,_,_,_,sb,_⟩:=h;exact SqT.of (sb _ _ hu1 (λz=>by rw[z,el] at hu1;cases hu1))
  ·obtain⟨ys,u7,u8,u9,rfl,sb,hy,pd,ly⟩:=h;obtain⟨d,hdi,td,rfl,htd⟩:=Paired.Cp hd hx;have nl:∀zs,H1 l≠some (.tup zs):=λzs z=>by rw[el] at z;cases z
   have nl2:∀zs,HH l≠some (.tup zs):=λzs z=>by rw[hy] at z;cases z
   have NX:=(sb.tup nl) _ _ (sm _ _ htd);have t0:=Ad hpt (.tup [.int ((1+i:Nat):Int),.ref td]);refine⟨pt,_,rq,SqT.of Ab,rq,_,_,rq,_,_,rq,td,_,rq,SqT.of (t0 _ _ NX),rq,_,_,rq,_,_,rq,rq,rq,?_⟩;simp only[Qbc,Qbb];have hy0:=t0 _ _ hy;refine⟨_,rq,.inl ⟨rq,_,SqL.of hy0⟩,_,rq,_,rq,_,rq,(by show 3<=sizeLine;decide),λus2 NU=>⟨_,rq,_,rq,(by show 3<=sizeLine;decide),λts2 NV=>?_⟩⟩;have t1:=Ad NU (.tup [.int lp,.int at_,.int ((1+i:Nat):Int)]);have t2:=Ad NV (.tup [.ref us2,.str d.kind,.int d.addr]);have hy2:=t2 _ _ (t1 _ _ hy0);have il:=(Qai.mp hx).1;refine⟨l,_,_,rq,rq,hy2,Am (by omega),?_⟩;refine⟨ys++[.ref ts2],_,_,_,rq,sb.trans ((Ah.of (t0.trans (t1.trans t2))).trans Ah.upd),Ab,?_,by rw[QaY];simp only[QaG];omega⟩;rw[Vp lp at_ 1 p.spur i d hdi];have nlx:∀zs,(upd (upd (upd HH pt (.tup [.int ((1+i:Nat):Int),.ref td])) us2 (.tup [.int lp,.int at_,.int ((1+i:Nat):Int)])) ts2 (.tup [.ref us2,.str d.kind,.int d.addr])) l≠some (.tup zs):=λzs z=>by rw[hy2] at z;cases z
   have tt:=Ak.upd (o:=.lst (ys++[.ref ts2])) nlx;exact QcF (l₂:=_::Ej lp at_ 1 (p.spur.take i)) ⟨ts2,us2,rq,tt _ _ Ab,tt _ _ (t2 _ _ Ab)⟩ (Paired.Aw pd λ_ _ z=>(z.tups (Ak.of (t0.trans (t1.trans t2)))).tups tt)
  ·obtain⟨ys,u7,u8,u9,rfl,sb,hy,pd,ly⟩:=h;rw[My,QbB] at pd;exact⟨_,rq,q l ys HH hl0 hy pd λc o e=>sb _ _ (sm _ _ e) (Ax e hl0)⟩
end
structure Sp3 where
 lp:Int
 at_:Int
 n:Int
def Sd.spot (d:Sd):Sp3:=⟨d.lp,d.at_,d.n⟩
def BW (H:Hp) (v:V) (d:Sp3):Prop:=∃u,v=.ref u/\H u=some (.tup [.int d.lp,.int d.at_,.int d.n])
theorem BW.tups {H H':Hp} (s:Ak H H') {v:V} {d:Sp3} (h:BW H v d):BW H' v d:=by
 obtain⟨u,e,q⟩:=h;exact⟨u,e,s _ _ q⟩
theorem Od {k:Str} (h:Ib k):¬V.str k=V.str "opener":=by
 rcases h with rfl | rfl | rfl | rfl <;> decide +kernel
theorem gq {k:Str} (h:Ib k):(PyData.str k).canLay0=true:=by
 rcases h with rfl | rfl | rfl | rfl <;> decide +kernel
def QV (d:Dev):PyData:=.tuple [.str d.kind,.int d.addr]
def Oz (p:Place):PyData:=.tuple [.str p.kind,.int p.addr,.tuple (p.spur.map QV)]
def opD:PyData:=.tuple [.str "opener",.int 0,.tuple []]
theorem ig:∀{ds:List Dev},(∀d∈ds,Ib d.kind)->PyData.canLayAll0 (ds.map QV)=true/\PyData.depthAll (ds.map QV)<=1
 | [],_=>⟨rfl,by show 0<=1;decide⟩
 | d::ds,h=>by
  have ih:=ig (ds:=ds) λx hx=>h x (QaL _ hx);refine⟨?_,?_⟩
  ·show ((PyData.canLay0 (.str d.kind)&&(true&&true))&&PyData.canLayAll0 (ds.map QV))=true;rw[gq (h d QaZ),ih.1];rfl
  ·show max (max 0 (max 0 0)+1) (PyData.depthAll (ds.map QV))<=1;exact Nat.max_le.mpr ⟨by decide,ih.2⟩
theorem DT:PyData.canLay0 (.str "opener")=true:=by trivial
theorem Td {p:Place} (h:OkP p):SeqAt.shaped (Oz p)=true:=by
 have hk:PyData.canLay0 (.str p.kind)=true:=by
  rcases h.form with⟨e,_⟩| e
  ·rw[e];exact DT
  ·exact gq e
 have hd:=ig h.kinds;show ((PyData.canLay0 (.str p.kind)&&(true&&(PyData.canLayAll0 (p.spur.map QV)&&true)))&&decide (max 0 (max 0 (max (PyData.depthAll (p.spur.map QV)+1) 0))+1<=64))=true;rw[hk,hd.1];have:max 0 (max 0 (max (PyData.depthAll (p.spur.map QV)+1) 0))+1<=64:=by omega
 rw[Qcd this];rfl
theorem ZQ {p:Place} (h:OkP p):PyData.eqv (Oz p) opD=decide (V.str p.kind=V.str "opener"):=by
 rcases h.form with⟨e1,e2,e3⟩| e
 ·rw[show Oz p=opD by unfold Oz opD;rw[e1,e2,e3];rfl,e1]
  decide +kernel
 ·rw[QbR (Od e)];have:(p.kind == ("opener":Str))=false:=QaQ.mpr λz=>Od e (by rw[z]);show (((p.kind == ("opener":Str))&&_))=false;rw[this];rfl
theorem K8.rep {K:YD} {H:Hp} {v:V} {d:Dev} (h:K8 H v d):Ka K H v (QV d):=by
 obtain⟨t,rfl,e⟩:=h;exact .tup (SqT.of e) (.cons (.str _) (.cons (.int _) .nil))
theorem gZ {K:YD} {H:Hp}:∀{vs:YG} {ds:List Dev},Paired (K8 H) vs ds->JH K H vs (ds.map QV)
 | _,_,.nil=>.nil
 | _,_,.cons h t=>.cons h.rep (gZ t)
theorem Eo.rep {K:YD} {H:Hp} {v:V} {p:Place} (h:Eo H v p):Ka K H v (Oz p):=by
 obtain⟨t,u,vs,rfl,e1,e2,e3⟩:=h;exact .tup (SqT.of e1) (.cons (.str _) (.cons (.int _) (.cons (.tup (SqT.of e2) (gZ e3)) .nil)))
theorem Nr (lp at_:Int):∀(n:Nat) (ds:List Dev),(Ej lp at_ n ds).length=ds.length
 | _,[]=>rfl
 | n,d::r=>by show (Ej lp at_ (n+1) r).length+1=r.length+1;rw[Nr]
abbrev S8:Stmt:=top 24
abbrev Fv:YF:=["plan"]
theorem Jh:Az ["plan","told","loop","places","at","place"] Fv (Aj S8):=by ac_rfl
abbrev LQ:Stmt:=top 25
abbrev Ii:YF:=Fv
abbrev xE:YF:=["plan","told","loop","places","at","kind","address","spur"]
theorem Fj:Az xE Ii (Aj LQ):=by ac_rfl
abbrev PN:Stmt:=top 26
abbrev Kg:YF:=Fv
abbrev xF:YF:=["plan","told","loop","places"]
theorem Nu:Az xF Kg (Aj PN):=by ac_rfl
def up {α : Type} (f:Nat->List α) (i:Nat):List α:=(List.range i).flatMap f
theorem Ea {α : Type} (f:Nat->List α) (i:Nat):up f (i+1)=up f i++f i:=by
 unfold up;rw[List.range_succ,QaR];simp
theorem N6 {α : Type} (f:Nat->List α):up f 0=[]:=rfl
theorem Es {α : Type} {f:Nat->List α} {c:Nat} (h:∀i,(f i).length<=c):∀i,(up f i).length<=c*i
 | 0=>QcD _
 | i+1=>by
  have:=Es h i;have:=h i;rw[Ea,QaY,Nat.mul_succ];omega
def ifs {α β : Type} (o:Option α) (g:α->List β):List β:=match o with | none=>[] | some x=>g x
theorem CQ {α β : Type} {o:Option α} {g:α->List β} {x:α} (h:o=some x):ifs o g=g x:=by rw[h];rfl
structure Gt where
 lp:Int
 at_:Int
def Dw (H:Hp) (v:V) (d:Gt):Prop:=∃u,v=.ref u/\H u=some (.tup [.int d.lp,.int d.at_])
theorem Dw.tups {H H':Hp} (s:Ak H H') {v:V} {d:Gt} (h:Dw H v d):Dw H' v d:=by
 obtain⟨u,e,q⟩:=h;exact⟨u,e,s _ _ q⟩
def pd1 (lp:Int) (ps:List Place) (i:Nat):List Sd:=ifs ps[i]? λp=>Cg lp ((1+i:Nat):Int) p
def pdL (ja:YU) (k:Nat):List Sd:=ifs ja[k]? λps=>up (pd1 k ps) ps.length
abbrev YV:=List Sp3
def st1 (lp:Int) (ps:List Place) (i:Nat):YV:=ifs ps[i]? λp=>(List.range (p.spur.length+1)).map λn:Nat=>⟨lp,((1+i:Nat):Int),(n:Int)⟩
def stL (ja:YU) (k:Nat):YV:=ifs ja[k]? λps=>⟨k,0,0⟩::up (st1 k ps) ps.length
def gt1 (lp:Int) (ps:List Place) (i:Nat):List Gt:=ifs ps[i]? λp=>if V.str p.kind=V.str "opener" then [⟨lp,((1+i:Nat):Int)⟩] else []
def gtL (ja:YU) (k:Nat):List Gt:=ifs ja[k]? λps=>(⟨k,0⟩::up (gt1 k ps) ps.length)++[⟨k,(ps.length:Int)+1⟩]
structure Ei (ja:YU):Prop where
 ok:∀ps∈ja,OkL ps
 hi:ja.length<=3
theorem Vs {lp a:Int} {p:Place} (h:OkP p):(Cg lp a p).length<=4:=by
 unfold Cg;have:=h.spur;split
 ·exact QcE _
 ·rw[QbC,Nr];omega
theorem lA {lp:Int} {ps:List Place} (h:∀p∈ps,OkP p) (i:Nat):(pd1 lp ps i).length<=4:=by
 unfold pd1;cases e:ps[i]? with
 | none=>exact QcE _
 | some p=>exact Vs (h p (QaK e))
theorem Uq {lp:Int} {ps:List Place} (h:∀p∈ps,OkP p) (i:Nat):(st1 lp ps i).length<=4:=by
 unfold st1;cases e:ps[i]? with
 | none=>exact QcE _
 | some p=>
  have:=(h p (QaK e)).spur;show ((List.range _).map _).length<=4;rw[QbM,Qbz];omega
theorem U0 {lp:Int} {ps:List Place} (i:Nat):(gt1 lp ps i).length<=1:=by
 unfold gt1;cases e:ps[i]? with
 | none=>exact QcE _
 | some p=>
  show (if _ then _ else _:List Gt).length<=1
  split
  ·exact QcD _
  ·exact QcE _
theorem Y0 {ja:YU} (h:Ei ja) (k:Nat):(pdL ja k).length<=48:=by
 unfold pdL;cases e:ja[k]? with
 | none=>exact QcE _
 | some ps=>
  have o:=h.ok ps (QaK e);have:=Es (lA (lp:=k) o.ok) ps.length;have:=o.hi;show (up _ _).length<=48;omega
theorem j8 {ja:YU} (h:Ei ja) (k:Nat):(stL ja k).length<=49:=by
 unfold stL;cases e:ja[k]? with
 | none=>exact QcE _
 | some ps=>
  have o:=h.ok ps (QaK e);have:=Es (Uq (lp:=k) o.ok) ps.length;have:=o.hi;show (up _ _).length+1<=49;omega
theorem lH {ja:YU} (h:Ei ja) (k:Nat):(gtL ja k).length<=14:=by
 unfold gtL;cases e:ja[k]? with
 | none=>exact QcE _
 | some ps=>
  have o:=h.ok ps (QaK e);have:=Es (U0 (lp:=k) (ps:=ps)) ps.length;have:=o.hi;show ((_::up _ _)++[_]).length<=14;rw[QaY,QbC];show _+1+1<=14;omega
def Ra (H:Hp) (pl:Addr) (ja:YU):Prop:=∃v0 v2 Ls vs,H pl=some (.tup [v0,.ref Ls,v2])/\H Ls=some (.tup vs)/\Paired (LoopAt H) vs ja
inductive Nt (vs:YG) (H:Hp) (Q:VK) (E:XK):Prop
 | mk (pl:Addr) (ja:YU) (_:vs=[.ref pl]) (_:Ra H pl ja) (_:Ei ja) (_:∀l xs H',H l=none->H' l=some (.lst xs)->Paired (Pu H') xs (up (pdL ja) ja.length)->Same H H'->Q (.ref l) H'):Nt vs H Q E
inductive bD (vs:YG) (H:Hp) (Q:VK) (E:XK):Prop
 | mk (pl:Addr) (ja:YU) (_:vs=[.ref pl]) (_:Ra H pl ja) (_:Ei ja) (_:∀l xs H',H l=none->H' l=some (.lst xs)->Paired (BW H') xs (up (stL ja) ja.length)->Same H H'->Q (.ref l) H'):bD vs H Q E
inductive bF (vs:YG) (H:Hp) (Q:VK) (E:XK):Prop
 | mk (pl:Addr) (ja:YU) (_:vs=[.ref pl]) (_:Ra H pl ja) (_:Ei ja) (_:∀l xs H',H l=none->H' l=some (.lst xs)->Paired (Dw H') xs (up (gtL ja) ja.length)->Same H H'->Q (.ref l) H'):bF vs H Q E
section
variable {P:Program} {w:World} {K:YD} {mg:YB} {base:Heap} {op oe:Addr}
theorem oA (c:Code K mg "devices" S8 Fv) (T:Tx K mg op oe) (K1:Good P w K mg base "place_devices" 1 FJ mW):Good P w K mg base "devices" 2 Fv Nt:=by
 refine c.good Jh (λvs H Q E h=>?_) (λf cdv A outer s H vs Q E hr h=>?_)
 ·obtain⟨pl,ja,rfl,_⟩:=h;rfl
 obtain⟨pl,ja,rfl,⟨v0,v2,Ls,vs,hpl,hLs,hlo⟩,ok,q⟩:=h;refine⟨_,(Ae (Ba (i:=1) Jh.nd rfl (Or.inl rfl) (BZ Ac))
 (Ae (Ck QbQ rfl (V6 rfl T.enumerate (Bm Ca (pv 0) Af (λ_ _=>rfl))) (CT rfl (Al (Ai (i:=2) Jh.nd rfl (Or.inl rfl)) (Al (Ai (i:=3) Jh.nd rfl (Or.inl rfl)) Br)))
 (Ag (Ck QbQ rfl (OJ rfl T.enumerate (pv 3) Af) (CT rfl (Al (Ai (i:=4) Jh.nd rfl (Or.inl rfl)) (Al (Ai (i:=5) Jh.nd rfl (Or.inl rfl)) Br)))
 (Ag (Bo (Cy Qat Qar Qas Gg (pv 1) (Aa (Dc K1 hr (Aa (pv 2) (Aa (pv 4) (Aa (pv 5) Ac)))) Ac)))))))
 (Ag (Ay (pv 1))))),?_⟩
 show let R0:TS:=_;let R1:TS:=Dm _ _ R0;let R2:TS:=Ao (Dm _ _ R1) _;Ao _ R2 _ _ _;intro R0 R1 R2;generalize hst:L2.start _ _=σ0;have e0:σ0=[js pl,none,none,none,none,none]:=hst.symm;clear hst;subst e0;refine⟨Ar (by show 0<=1000;decide),λl fl=>?_⟩;simp only[Qbc,Qbb];have s1:=Ad fl (.lst []);have lvs:=Qci hlo;refine⟨_,rq,pl,_,_,_,rq,rq,SqT.of (s1 _ _ hpl),rq,Ls,rq,⟨vs,SqT.of (s1 _ _ hLs)⟩,?_⟩;let J0:YN:=λi U HH=>∃(ys:YG) (u2 u3 u4 u5:Option V),U=[js pl,js l,u2,u3,u4,u5]/\Same H HH/\HH l=some (.lst ys)/\Paired (Pu HH) ys (up (pdL ja) i);refine JX (xs:=vs) (lo:=0) J0 ⟨[],_,_,_,_,rq,s1,Ab,.nil⟩ (λi U HH _ h=>?_) (λi x pt U HH hx h hpt=>?_) (fun U HH h=>?_)
 ·obtain⟨ys,_,_,_,_,_,sm,_⟩:=h;exact SqT.of (sm _ _ hLs)
 ·obtain⟨ys,u2,u3,u4,u5,rfl,sm,hy,py⟩:=h;obtain⟨ps,hps,hL⟩:=Paired.Cp hlo hx;obtain⟨t,ws,rfl,ht,hws⟩:=id hL;have okl:=ok.ok ps (QaK hps);have ek:pdL ja i=up (pd1 i ps) ps.length:=CQ hps;have lws:=Qci hws;have t0:=Ad hpt (.tup [.int ((0+i:Nat):Int),.ref t]);refine⟨pt,_,rq,SqT.of Ab,rq,_,_,rq,_,_,rq,rq,?_⟩;have sm0:=sm.trans t0;have hy0:=t0 _ _ hy;have py0:=Paired.Aw py λ_ _ (z:Pu HH _ _)=>z.tups (Ak.of t0);generalize upd HH pt (.tup [.int ((0+i:Nat):Int),.ref t])=HA at sm0 hy0 py0;simp only[Qbc,Qbb,Nat.zero_add];have hil:=(Qai.mp hps).1;have lu:=Es (Y0 ok) i;have hhi:=ok.hi;refine⟨_,rq,t,rq,⟨ws,SqT.of (sm0 _ _ ht)⟩,?_⟩;let J1:YN:=λj U HJ=>∃(ys:YG) (u4 u5:Option V),U=[js pl,js l,some (.int (i:Int)),js t,u4,u5]/\Same H HJ/\HJ l=some (.lst ys)/\Paired (Pu HJ) ys (up (pdL ja) i++up (pd1 i ps) j);refine JX (xs:=ws) (lo:=1) J1 ⟨ys,_,_,rq,sm0,hy0,by rw[N6,QbP];exact py0⟩ (λj U HJ _ h=>?_) (λj x pt U HJ hx h hpt=>?_) (fun U HJ h=>?_)
  ·obtain⟨ys,_,_,_,sj,_⟩:=h;exact SqT.of (sj _ _ ht)
  ·obtain⟨ys,u4,u5,rfl,sj,hyj,pj⟩:=h;obtain⟨p,hp,hP⟩:=Paired.Cp hws hx;have okp:=okl.ok p (QaK hp);have ej:pd1 i ps j=Cg i ((1+j:Nat):Int) p:=CQ hp;have t1:=Ad hpt (.tup [.int ((1+j:Nat):Int),x]);refine⟨pt,_,rq,SqT.of Ab,rq,_,_,rq,_,_,rq,rq,?_⟩;simp only[Qbc,Qbb];have hjl:=(Qai.mp hp).1;have lj:=Es (lA (lp:=i) okl.ok) j;have lys:=Qci pj;rw[QaY] at lys;have h12:=okl.hi;refine⟨_,rq,.inl ⟨rq,_,SqL.of (t1 _ _ hyj)⟩,_,rq,_,rq,_,rq,(i:Int),((1+j:Nat):Int),x,p,rq,hP.tups (Ak.of (sj.trans t1)),okp.spur,λld xs' HB fld hld pdd sB=>?_⟩;have t2:=t1.trans sB;have hyB:=t2 _ _ hyj;have lx:=Qci pdd;have lpl:=Vs (lp:=i) (a:=((1+j:Nat):Int)) okp;refine⟨l,ld,_,_,rq,rq,hyB,hld,Ar (by omega),?_⟩;have n0:∀zs,HB l≠some (.tup zs):=λzs z=>by rw[hyB] at z;cases z
   have tt:=Ak.upd (o:=.lst (ys++xs')) n0;refine⟨ys++xs',_,_,rq,(sj.trans t2).Bp Ah.upd fl,Ab,?_⟩;rw[Ea,ej,<-Qbp];exact Paired.app (Paired.Aw pj λ_ _ z=>(z.tups (Ak.of t2)).tups tt) (Paired.Aw pdd λ_ _ z=>z.tups tt)
  ·obtain⟨ys,u4,u5,rfl,sj,hyj,pj⟩:=h;exact⟨ys,_,_,_,_,rq,sj,hyj,by rw[Ea,ek,<-lws];exact pj⟩
 ·obtain⟨ys,u2,u3,u4,u5,rfl,sm,hy,py⟩:=h;rw[lvs] at py;exact⟨_,rq,q l ys HH fl hy py sm⟩
theorem eZ (c:Code K mg "stretches" LQ Ii) (T:Tx K mg op oe):Good P w K mg base "stretches" 1 Ii bD:=by
 refine c.good Fj (λvs H Q E h=>?_) (λf cdv A outer s H vs Q E hr h=>?_)
 ·obtain⟨pl,ja,rfl,_⟩:=h;rfl
 obtain⟨pl,ja,rfl,⟨v0,v2,Ls,vs,hpl,hLs,hlo⟩,ok,q⟩:=h;refine⟨_,(Ae (Ba (i:=1) Fj.nd rfl (Or.inl rfl) (BZ Ac))
 (Ae (Ck QbQ rfl (V6 rfl T.enumerate (Bm Ca (pv 0) Af (λ_ _=>rfl))) (CT rfl (Al (Ai (i:=2) Fj.nd rfl (Or.inr rfl)) (Al (Ai (i:=3) Fj.nd rfl (Or.inl rfl)) Br)))
 (Ae (Bo (Cy Qat Qap Qaq BX (pv 1) (Aa (Bd (Aa (pv 2) (Aa Af (Aa Af Ac)))) Ac)))
 (Ag (Ck QbQ rfl (OJ rfl T.enumerate (pv 3) Af) (CT rfl (Al (Ai (i:=4) Fj.nd rfl (Or.inr rfl)) (Al (CT rfl (Al (Ai (i:=5) Fj.nd rfl (Or.inl rfl)) (Al (Ai (i:=6) Fj.nd rfl (Or.inl rfl)) (Al (Ai (i:=7) Fj.nd rfl (Or.inl rfl)) Br)))) Br)))
 (Ag (Bo (Cy Qat Qar Qas Gg (pv 1) (Aa (Cw (N':=["number","loop","at"]) rfl (Bk.of (src:=[none,some 2,some 4]) (Aj LQ) xE rfl rfl rfl (by trivial) (by trivial) (by trivial) rfl (by trivial)) (Dr rfl T.range (Aa (Bh Cz (Av Bj rfl T.len CV (Aa (pv 7) Ac)) Af) Ac)) (λ_ _ _ _=>(Ai (i:=0) (show List.Nodup (["number","loop","at"]:YF) by trivial) rfl (Or.inl rfl))) (λ_ _ _ _=>CZ) (λ_ _ _ _=>(Bd (Aa (pv 1) (Aa (pv 2) (Aa (pv 0) Ac)))))) Ac))))))))
 (Ag (Ay (pv 1))))),?_⟩
 show let R0:TS:=_;let R1:TS:=Dm _ _ R0;let R2:TS:=Ao _ R1;let R3:TS:=Ao (Dm _ _ R2) _;Ao _ R3 _ _ _;intro R0 R1 R2 R3;generalize hst:L2.start _ _=σ0;have e0:σ0=[js pl,none,none,none,none,none,none,none]:=hst.symm;clear hst;subst e0;refine⟨Ar (by show 0<=1000;decide),λl fl=>?_⟩;simp only[Qbc,Qbb];have s1:=Ad fl (.lst []);have lvs:=Qci hlo;refine⟨_,rq,pl,_,_,_,rq,rq,SqT.of (s1 _ _ hpl),rq,Ls,rq,⟨vs,SqT.of (s1 _ _ hLs)⟩,?_⟩;let J2:YN:=λi U HH=>∃(ys:YG) (u2 u3 u4 u5 u6 u7:Option V),U=[js pl,js l,u2,u3,u4,u5,u6,u7]/\Same H HH/\HH l=some (.lst ys)/\Paired (BW HH) ys (up (stL ja) i);refine JX (xs:=vs) (lo:=0) J2 ⟨[],_,_,_,_,_,_,rq,s1,Ab,.nil⟩ (λi U HH _ h=>?_) (λi x pt U HH hx h hpt=>?_) (fun U HH h=>?_)
 ·obtain⟨ys,_,_,_,_,_,_,_,sm,_⟩:=h;exact SqT.of (sm _ _ hLs)
 ·obtain⟨ys,u2,u3,u4,u5,u6,u7,rfl,sm,hy,py⟩:=h;obtain⟨ps,hps,hL⟩:=Paired.Cp hlo hx;obtain⟨t,ws,rfl,ht,hws⟩:=id hL;have okl:=ok.ok ps (QaK hps);have ek:stL ja i=⟨i,0,0⟩::up (st1 i ps) ps.length:=CQ hps;have lws:=Qci hws;have t0:=Ad hpt (.tup [.int ((0+i:Nat):Int),.ref t]);refine⟨pt,_,rq,SqT.of Ab,rq,_,_,rq,_,_,rq,rq,?_⟩;have sm0:=sm.trans t0;have hy0:=t0 _ _ hy;have py0:=Paired.Aw py λ_ _ (z:BW HH _ _)=>z.tups (Ak.of t0);generalize upd HH pt (.tup [.int ((0+i:Nat):Int),.ref t])=HA at sm0 hy0 py0;simp only[Qbc,Qbb,Nat.zero_add];have hil:=(Qai.mp hps).1;have lu:=Es (j8 ok) i;have hhi:=ok.hi;have ly0:=Qci py0;refine⟨_,rq,.inl ⟨rq,_,SqL.of hy0⟩,_,rq,Ar (by show 3<=1000;decide),λtz htz=>?_⟩;have t3:=Ad htz (.tup [.int (i:Int),.int 0,.int 0]);refine⟨l,_,_,rq,rq,t3 _ _ hy0,Am (by omega),?_⟩;have n0:∀zs,(upd HA tz (.tup [.int (i:Int),.int 0,.int 0])) l≠some (.tup zs):=λzs z=>by rw[t3 _ _ hy0] at z;cases z
  have tt:=Ak.upd (o:=.lst (ys++[.ref tz])) n0;have sm1:Same H (upd (upd HA tz (.tup [.int (i:Int),.int 0,.int 0])) l (.lst (ys++[.ref tz]))):=(sm0.trans t3).Bp Ah.upd fl;have py1:Paired (BW _) (ys++[.ref tz]) (up (stL ja) i++[⟨(i:Int),0,0⟩]):=QcF ⟨tz,rq,tt _ _ Ab⟩ (Paired.Aw py0 λ_ _ z=>(z.tups (Ak.of t3)).tups tt);have hy1:(upd (upd HA tz (.tup [.int (i:Int),.int 0,.int 0])) l (.lst (ys++[.ref tz]))) l=some (.lst (ys++[.ref tz])):=Ab;generalize upd (upd HA tz (.tup [.int (i:Int),.int 0,.int 0])) l (.lst (ys++[.ref tz]))=HB at sm1 py1 hy1;generalize ys++[.ref tz]=ys1 at py1 hy1;refine⟨_,rq,t,rq,⟨ws,SqT.of (sm1 _ _ ht)⟩,?_⟩;let J3:YN:=λj U HJ=>∃(ys:YG) (u4 u5 u6 u7:Option V),U=[js pl,js l,some (.int (i:Int)),js t,u4,u5,u6,u7]/\Same H HJ/\HJ l=some (.lst ys)/\Paired (BW HJ) ys (up (stL ja) i++⟨(i:Int),0,0⟩::up (st1 i ps) j);refine JX (xs:=ws) (lo:=1) J3 ⟨ys1,_,_,_,_,rq,sm1,hy1,by rw[N6];exact py1⟩ (λj U HJ _ h=>?_) (λj x pt U HJ hx h hpt=>?_) (fun U HJ h=>?_)
  ·obtain⟨ys,_,_,_,_,_,sj,_⟩:=h;exact SqT.of (sj _ _ ht)
  ·obtain⟨ys,u4,u5,u6,u7,rfl,sj,hyj,pj⟩:=h;obtain⟨p,hp,hP⟩:=Paired.Cp hws hx;have okp:=okl.ok p (QaK hp);have ej:st1 i ps j=(List.range (p.spur.length+1)).map λn:Nat=>⟨(i:Int),((1+j:Nat):Int),(n:Int)⟩:=CQ hp;have t1:=Ad hpt (.tup [.int ((1+j:Nat):Int),x]);obtain⟨tp,ua,wp',rfl,hp1,hp2,hp3⟩:=hP.tups (Ak.of (sj.trans t1));refine⟨pt,_,rq,SqT.of Ab,rq,_,_,rq,_,_,rq,tp,_,rq,SqT.of hp1,rq,_,_,rq,_,_,rq,_,_,rq,rq,rq,?_⟩;simp only[Qbc,Qbb];have hjl:=(Qai.mp hp).1;have lj:=Es (Uq (lp:=i) okl.ok) j;have lys:=Qci pj;rw[QaY,QbC] at lys;have h12:=okl.hi;have lwp:=Qci hp3;have hsp:=okp.spur;refine⟨_,rq,.inl ⟨rq,_,SqL.of (t1 _ _ hyj)⟩,_,rq,ua,_,rq,.inr (SqT.of hp2),_,_,rq,rq,_,rq,by omega,by omega,λl2 hl2=>?_⟩;rw[show ((wp'.length:Int)+1).toNat=p.spur.length+1 by omega];have sjt:=sj.trans t1;have hyt:=t1 _ _ hyj;have pjt:=Paired.Aw pj λ_ _ (z:BW HJ _ _)=>z.tups (Ak.of t1);generalize upd HJ pt (.tup [.int ((1+j:Nat):Int),.ref tp])=HT at sjt hyt pjt hl2;let J4:YN:=λk U HC=>∃(u:Option V) (zs:YG),U=[u,some (.int (i:Int)),some (.int ((1+j:Nat):Int))]/\HC l2=some (.lst zs)/\Same HT HC/\Paired (BW HC) zs ((List.range k).map λn:Nat=>⟨(i:Int),((1+j:Nat):Int),(n:Int)⟩);refine K5 J4 ⟨none,[],rq,Ab,Ad hl2 _,.nil⟩ (λk U HC hk h=>?_) (fun U HC h=>?_)
   ·obtain⟨u,zs,rfl,c1,c2,c3⟩:=h;refine⟨_,rq,_,rq,_,rq,Ar (by show 3<=1000;decide),λtq htq=>?_⟩;have s3:=Ad htq (.tup [.int (i:Int),.int ((1+j:Nat):Int),.int (0+(k:Int))]);have c1':=s3 _ _ c1;have lz:=Qci c3;rw[QbM,Qbz] at lz;have n1:∀zs',(upd HC tq (.tup [.int (i:Int),.int ((1+j:Nat):Int),.int (0+(k:Int))])) l2≠some (.tup zs'):=λzs' z=>by rw[c1'] at z;cases z
    have t4:=Ak.upd (o:=.lst (zs++[.ref tq])) n1;refine⟨_,c1',Am (by omega),_,zs++[.ref tq],rq,Ab,(c2.trans s3).Bp Ah.upd hl2,?_⟩;rw[List.range_succ,QbN];refine QcF ⟨tq,rq,?_⟩ (Paired.Aw c3 λ_ _ z=>(z.tups (Ak.of s3)).tups t4);refine t4 _ _ ?_;rw[Ab,QcC]
   obtain⟨u,zs,rfl,c1,c2,c3⟩:=h;have lz:=Qci c3;rw[QbM,Qbz] at lz;have hyC:=c2 _ _ hyt;refine⟨l,l2,_,_,rq,rq,hyC,c1,Ar (by omega),?_⟩;have n2:∀zs',HC l≠some (.tup zs'):=λzs' z=>by rw[hyC] at z;cases z
   have t5:=Ak.upd (o:=.lst (ys++zs)) n2;refine⟨ys++zs,_,_,_,_,rq,(sjt.trans c2).Bp Ah.upd fl,Ab,?_⟩;rw[Ea,ej,show ∀(a:YV) (x:Sp3) (b c:YV),a++x::(b++c)=(a++x::b)++c from λa x b c=>by simp]
   exact Paired.app (Paired.Aw pjt λ_ _ z=>(z.tups (Ak.of c2)).tups t5) (Paired.Aw c3 λ_ _ z=>z.tups t5)
  ·obtain⟨ys,u4,u5,u6,u7,rfl,sj,hyj,pj⟩:=h;exact⟨ys,_,_,_,_,_,_,rq,sj,hyj,by rw[Ea,ek,<-lws];exact pj⟩
 ·obtain⟨ys,u2,u3,u4,u5,u6,u7,rfl,sm,hy,py⟩:=h;rw[lvs] at py;exact⟨_,rq,q l ys HH fl hy py sm⟩
abbrev xt:YF:=["at","place","loop"]
theorem nU (c:Code K mg "openers" PN Kg) (T:Tx K mg op oe):Good P w K mg base "openers" 1 Kg bF:=by
 refine c.good Nu (λvs H Q E h=>?_) (λf cdv A outer s H vs Q E hr h=>?_)
 ·obtain⟨pl,ja,rfl,_⟩:=h;rfl
 obtain⟨pl,ja,rfl,⟨v0,v2,Ls,vs,hpl,hLs,hlo⟩,ok,q⟩:=h;refine⟨_,(Ae (Ba (i:=1) Nu.nd rfl (Or.inl rfl) (BZ Ac))
 (Ae (Ck QbQ rfl (V6 rfl T.enumerate (Bm Ca (pv 0) Af (λ_ _=>rfl))) (CT rfl (Al (Ai (i:=2) Nu.nd rfl (Or.inr rfl)) (Al (Ai (i:=3) Nu.nd rfl (Or.inl rfl)) Br)))
 (Ae (Bo (Cy Qat Qap Qaq BX (pv 1) (Aa (Bd (Aa (pv 2) (Aa Af Ac))) Ac)))
 (Ae (Bo (Cy Qat Qar Qas Gg (pv 1) (Aa (Cw (N':=xt) rfl (Bk.of (src:=[none,none,some 2]) (Aj PN) xF rfl rfl rfl (by trivial) (by trivial) (by trivial) rfl (by trivial)) (OJ rfl T.enumerate (pv 3) Af) (λ_ _ _ _=>(Ih (K:=K) (n:=2) rfl rfl (Al (Ai (i:=0) (show List.Nodup (xt:YF) by trivial) rfl (Or.inl rfl)) (Al (Ai (i:=1) (show List.Nodup (xt:YF) by trivial) rfl (Or.inl rfl)) Br)))) (λ_ _ _ _=>(G8 (Bx (qU (K:=K) rfl hr.units) (pv 1) (Te rfl T.OPENER) (BP _)))) (λ_ _ _ _=>(Bd (Aa (pv 2) (Aa (pv 0) Ac))))) Ac)))
 (Ag (Bo (Cy Qat Qap Qaq BX (pv 1) (Aa (Bd (Aa (pv 2) (Aa (Bh Cz (Av Bj rfl T.len CV (Aa (pv 3) Ac)) Af) Ac))) Ac)))))))
 (Ag (Ay (pv 1))))),?_⟩
 show let R0:TS:=_;let R1:TS:=Ao _ R0;let R2:TS:=Ao _ R1;let R3:TS:=Ao (Dm _ _ R2) _;Ao _ R3 _ _ _;intro R0 R1 R2 R3;generalize hst:L2.start _ _=σ0;have e0:σ0=[js pl,none,none,none]:=hst.symm;clear hst;subst e0;refine⟨Ar (by show 0<=1000;decide),λl fl=>?_⟩;simp only[Qbc,Qbb];have s1:=Ad fl (.lst []);have lvs:=Qci hlo;refine⟨_,rq,pl,_,_,_,rq,rq,SqT.of (s1 _ _ hpl),rq,Ls,rq,⟨vs,SqT.of (s1 _ _ hLs)⟩,?_⟩;let J5:YN:=λi U HH=>∃(ys:YG) (u2 u3:Option V),U=[js pl,js l,u2,u3]/\Same H HH/\HH l=some (.lst ys)/\Paired (Dw HH) ys (up (gtL ja) i);refine JX (xs:=vs) (lo:=0) J5 ⟨[],_,_,rq,s1,Ab,.nil⟩ (λi U HH _ h=>?_) (λi x pt U HH hx h hpt=>?_) (fun U HH h=>?_)
 ·obtain⟨ys,_,_,_,sm,_⟩:=h;exact SqT.of (sm _ _ hLs)
 ·obtain⟨ys,u2,u3,rfl,sm,hy,py⟩:=h;obtain⟨ps,hps,hL⟩:=Paired.Cp hlo hx;obtain⟨t,ws,rfl,ht,hws⟩:=id hL;have okl:=ok.ok ps (QaK hps);have ek:gtL ja i=(⟨i,0⟩::up (gt1 i ps) ps.length)++[⟨(i:Int),(ps.length:Int)+1⟩]:=CQ hps;have lws:=Qci hws;have t0:=Ad hpt (.tup [.int ((0+i:Nat):Int),.ref t]);refine⟨pt,_,rq,SqT.of Ab,rq,_,_,rq,_,_,rq,rq,?_⟩;have sm0:=sm.trans t0;have hy0:=t0 _ _ hy;have py0:=Paired.Aw py λ_ _ (z:Dw HH _ _)=>z.tups (Ak.of t0);generalize upd HH pt (.tup [.int ((0+i:Nat):Int),.ref t])=HA at sm0 hy0 py0;simp only[Qbc,Qbb,Nat.zero_add];have hil:=(Qai.mp hps).1;have lu:=Es (lH ok) i;have hhi:=ok.hi;have ly0:=Qci py0;refine⟨_,rq,.inl ⟨rq,_,SqL.of hy0⟩,_,rq,Ar (by show 2<=1000;decide),λtz htz=>?_⟩;have t3:=Ad htz (.tup [.int (i:Int),.int 0]);refine⟨l,_,_,rq,rq,t3 _ _ hy0,Am (by omega),?_⟩;have n0:∀zs,(upd HA tz (.tup [.int (i:Int),.int 0])) l≠some (.tup zs):=λzs z=>by rw[t3 _ _ hy0] at z;cases z
  have tt:=Ak.upd (o:=.lst (ys++[.ref tz])) n0;have sm1:Same H (upd (upd HA tz (.tup [.int (i:Int),.int 0])) l (.lst (ys++[.ref tz]))):=(sm0.trans t3).Bp Ah.upd fl;have py1:Paired (Dw _) (ys++[.ref tz]) (up (gtL ja) i++[⟨(i:Int),0⟩]):=QcF ⟨tz,rq,tt _ _ Ab⟩ (Paired.Aw py0 λ_ _ z=>(z.tups (Ak.of t3)).tups tt);have hy1:(upd (upd HA tz (.tup [.int (i:Int),.int 0])) l (.lst (ys++[.ref tz]))) l=some (.lst (ys++[.ref tz])):=Ab;generalize upd (upd HA tz (.tup [.int (i:Int),.int 0])) l (.lst (ys++[.ref tz]))=HB at sm1 py1 hy1;generalize ys++[.ref tz]=ys1 at py1 hy1;have ly1:=Qci py1;rw[QaY] at ly1;have ly1:ys1.length<=14*i+1:=by rw[ly1];show _+1<=_;omega
  refine⟨_,rq,.inl ⟨rq,_,SqL.of hy1⟩,_,rq,t,rq,⟨ws,SqT.of (sm1 _ _ ht)⟩,λl2 hl2=>?_⟩;let J6:YN:=λk U HC=>∃(u v:Option V) (zs:YG),U=[u,v,some (.int (i:Int))]/\HC l2=some (.lst zs)/\Same HB HC/\Paired (Dw HC) zs (up (gt1 i ps) k);refine ur (xs:=ws) (lo:=1) J6 ⟨none,none,[],rq,Ab,Ad hl2 _,.nil⟩ (λk U HC _ h=>?_) (λk x pt U HC hx h hpt=>?_) (fun U HC h=>?_)
  ·obtain⟨_,_,zs,_,_,sc,_⟩:=h;exact SqT.of (sc _ _ (sm1 _ _ ht))
  ·obtain⟨u,v,zs,rfl,c1,c2,c3⟩:=h;obtain⟨p,hp,hP⟩:=Paired.Cp hws hx;have okp:=okl.ok p (QaK hp);have ej:gt1 i ps k=if V.str p.kind=V.str "opener" then [⟨(i:Int),((1+k:Nat):Int)⟩] else []:=CQ hp
   have hkl:=(Qai.mp hp).1;have h12:=okl.hi;have lk:=Es (U0 (lp:=i) (ps:=ps)) k;have lz:=Qci c3;have t1:=Ad hpt (.tup [.int ((1+k:Nat):Int),x]);have hpa:=hP.tups (Ak.of ((sm1.trans c2).trans t1));refine⟨pt,_,rq,SqT.of Ab,rq,_,_,rq,_,_,rq,rq,?_⟩;refine⟨_,rq,Oz p,opD,hpa.rep,.tup (T.opT _) (.cons (.str _) (.cons (.int _) (.cons (.tup (T.opE _) .nil) .nil))),Td okp,(by trivial),_,rq,?_⟩;rw[ZQ okp];by_cases ck:V.str p.kind=V.str "opener"
   ·rw[Qcd ck];rw[if_pos ck] at ej;refine BK ⟨_,rq,_,rq,Ar (by show 2<=1000;decide),λtq htq=>?_⟩;have s3:=Ad htq (.tup [.int (i:Int),.int ((1+k:Nat):Int)]);have t13:=t1.trans s3;have c1':=t13 _ _ c1;have n1:∀zs',(upd (upd HC pt (.tup [.int ((1+k:Nat):Int),x])) tq (.tup [.int (i:Int),.int ((1+k:Nat):Int)])) l2≠some (.tup zs'):=λzs' z=>by rw[c1'] at z;cases z
    have t4:=Ak.upd (o:=.lst (zs++[.ref tq])) n1;refine⟨_,c1',Am (by omega),_,_,zs++[.ref tq],rq,Ab,(c2.trans t13).Bp Ah.upd hl2,?_⟩;rw[Ea,ej];exact QcF ⟨tq,rq,t4 _ _ Ab⟩ (Paired.Aw c3 λ_ _ z=>(z.tups (Ak.of t13)).tups t4)
   ·rw[QbR ck];rw[if_neg ck] at ej;refine Cj ⟨_,_,zs,rq,t1 _ _ c1,c2.trans t1,?_⟩;rw[Ea,ej,QbP];exact Paired.Aw c3 λ_ _ z=>z.tups (Ak.of t1)
  obtain⟨u,v,zs,rfl,c1,c2,c3⟩:=h;have lz:=Qci c3;have lk:=Es (U0 (lp:=i) (ps:=ps)) ws.length;have h12:=okl.hi;have hyC:=c2 _ _ hy1;refine⟨l,l2,_,_,rq,rq,hyC,c1,Ar (by omega),?_⟩;have n2:∀zs',HC l≠some (.tup zs'):=λzs' z=>by rw[hyC] at z;cases z
  have t5:=Ak.upd (o:=.lst (ys1++zs)) n2;have sm2:Same H (upd HC l (.lst (ys1++zs))):=(sm1.trans c2).Bp Ah.upd fl;have py2:Paired (Dw _) (ys1++zs) ((up (gtL ja) i++[⟨(i:Int),0⟩])++up (gt1 i ps) ws.length):=Paired.app (Paired.Aw py1 λ_ _ z=>(z.tups (Ak.of c2)).tups t5) (Paired.Aw c3 λ_ _ z=>z.tups t5);have hy2:(upd HC l (.lst (ys1++zs))) l=some (.lst (ys1++zs)):=Ab;have ly2:(ys1++zs).length<=100:=by rw[QaY];omega
  generalize upd HC l (.lst (ys1++zs))=HD at sm2 py2 hy2;generalize ys1++zs=ys2 at py2 hy2 ly2;refine⟨_,rq,.inl ⟨rq,_,SqL.of hy2⟩,_,rq,_,rq,t,_,rq,.inr (SqT.of (sm2 _ _ ht)),_,_,rq,rq,Ar (by show 2<=1000;decide),λte hte=>?_⟩;have t6:=Ad hte (.tup [.int (i:Int),.int ((ws.length:Int)+1)]);have hy3:=t6 _ _ hy2;refine⟨l,_,_,rq,rq,hy3,Am (by omega),?_⟩;have n3:∀zs',(upd HD te (.tup [.int (i:Int),.int ((ws.length:Int)+1)])) l≠some (.tup zs'):=λzs' z=>by rw[hy3] at z;cases z
  have t7:=Ak.upd (o:=.lst (ys2++[.ref te])) n3;refine⟨ys2++[.ref te],_,_,rq,(sm2.trans t6).Bp Ah.upd fl,Ab,?_⟩;rw[Ea,ek,<-lws,show ∀(a:List Gt) (x:Gt) (b c:List Gt),a++(x::b++c)=(a++[x]++b)++c from λa x b c=>by simp]
  exact QcF ⟨te,rq,t7 _ _ Ab⟩ (Paired.Aw py2 λ_ _ z=>(z.tups (Ak.of t6)).tups t7)
 ·obtain⟨ys,u2,u3,rfl,sm,hy,py⟩:=h;rw[lvs] at py;exact⟨_,rq,q l ys HH fl hy py sm⟩
end
abbrev Yv:Stmt:=top 27
abbrev Q0:YF:=["plan","loop"]
theorem Ro:Az ["plan","loop","told","at","place"] Q0 (Aj Yv):=by ac_rfl
def stP (lp:Int) (ps:List Place):Nat->List (YV)×YV
 | 0=>([],[])
 | i+1=>match ps[i]? with
  | none=>stP lp ps i
  | some p=>if V.str p.kind=V.str "opener" then ((stP lp ps i).1++[(stP lp ps i).2],[]) else ((stP lp ps i).1,(stP lp ps i).2++(Cg lp ((1+i:Nat):Int) p).map Sd.spot)
theorem WW {lp:Int} {ps:List Place} {i:Nat} {p:Place} (h:ps[i]?=some p) (k:V.str p.kind=V.str "opener"):stP lp ps (i+1)=((stP lp ps i).1++[(stP lp ps i).2],[]):=by
 show (match ps[i]? with | none=>stP lp ps i | some p=>if V.str p.kind=V.str "opener" then ((stP lp ps i).1++[(stP lp ps i).2],[]) else ((stP lp ps i).1,(stP lp ps i).2++(Cg lp ((1+i:Nat):Int) p).map Sd.spot))=_
 rw[h];exact if_pos k
theorem Um {lp:Int} {ps:List Place} {i:Nat} {p:Place} (h:ps[i]?=some p) (k:¬V.str p.kind=V.str "opener"):stP lp ps (i+1)=((stP lp ps i).1,(stP lp ps i).2++(Cg lp ((1+i:Nat):Int) p).map Sd.spot):=by
 show (match ps[i]? with | none=>stP lp ps i | some p=>if V.str p.kind=V.str "opener" then ((stP lp ps i).1++[(stP lp ps i).2],[]) else ((stP lp ps i).1,(stP lp ps i).2++(Cg lp ((1+i:Nat):Int) p).map Sd.spot))=_
 rw[h];exact if_neg k
theorem QD {α β : Type} {F G:α->β->Prop}:∀{l₁ : List α} {l₂ : List β},Paired F l₁ l₂->(∀a∈l₁,∀b,F a b->G a b)->Paired G l₁ l₂
 | _,_,.nil,_=>.nil
 | _,_,.cons r t,f=>.cons (f _ QaZ _ r) (QD t λa ha b=>f a (QaL _ ha) b)
theorem Xj {α β : Type} {F:α->β->Prop}:∀{l₁ : List α} {l₂ : List β} {a:α},Paired F l₁ l₂->a∈l₁->∃b,F a b
 | _,_,_,.nil,h=>by cases h
 | _,_,_,.cons r t,h=>by
  rcases Qcj.mp h with rfl | h
  ·exact⟨_,r⟩
  ·exact Xj t h
theorem RQ {α β : Type} {F:α->β->Prop}:∀{a₁ b₁ : List α} {a₂ b₂ : List β},Paired F a₁ a₂->Paired F b₁ b₂->Paired F (a₁++b₁) (a₂++b₂)
 | _,_,_,_,.nil,t=>t
 | _,_,_,_,.cons r s,t=>.cons r (RQ s t)
def Ng (H:Hp) (v:V) (sp:YV):Prop:=∃q ys,v=.ref q/\H q=some (.lst ys)/\Paired (BW H) ys sp
inductive Yl (vs:YG) (H:Hp) (Q:VK) (E:XK):Prop
 | mk (pl Ls t:Addr) (v0 v2:V) (ls ws:YG) (k:Nat) (ps:List Place) (_:vs=[.ref pl,.int (k:Int)]) (_:H pl=some (.tup [v0,.ref Ls,v2])) (_:H Ls=some (.tup ls)) (_:ls[k]?=some (.ref t)) (_:H t=some (.tup ws)) (_:Paired (Eo H) ws ps) (_:(∀p∈ps,OkP p)) (_:ps.length<=12) (_:∀l xs H',H l=none->H' l=some (.lst xs)->Paired (Ng H') xs ((stP k ps ps.length).1++[(stP k ps ps.length).2])->(∀x∈xs,∃q,x=.ref q/\H q=none/\q≠l)->Same H H'->Q (.ref l) H'):Yl vs H Q E
section
variable {P:Program} {w:World} {K:YD} {mg:YB} {base:Heap} {op oe:Addr}
abbrev xf:YF:=["spot","kind","address"]
theorem wu (c:Code K mg "parts" Yv Q0) (T:Tx K mg op oe) (K1:Good P w K mg base "place_devices" 1 FJ mW):Good P w K mg base "parts" 2 Q0 Yl:=by
 refine c.good Ro (λvs H Q E h=>?_) (λf cdv A outer s H vs Q E hr h=>?_)
 ·obtain⟨pl,Ls,t,v0,v2,ls,ws,k,ps,rfl,_⟩:=h;rfl
 obtain⟨pl,Ls,t,v0,v2,ls,ws,k,ps,rfl,hpl,hLs,hk,ht,hps,hok,h12,q⟩:=h;refine⟨_,(Ae (Ba (i:=2) Ro.nd rfl (Or.inl rfl) (BZ (Aa (BZ Ac) Ac)))
 (Ae (Ck QbQ rfl (OJ rfl T.enumerate (Bm Ca (Bm Ca (pv 0) Af (λ_ _=>rfl)) (pv 1) (λ_ _=>rfl)) Af) (CT rfl (Al (Ai (i:=3) Ro.nd rfl (Or.inl rfl)) (Al (Ai (i:=4) Ro.nd rfl (Or.inl rfl)) Br)))
 (Ag (Cu (Bx (qU (K:=K) rfl hr.units) (pv 4) (Te rfl T.OPENER) (BP _)) (Ag (Bo (Cy Qat Qap Qaq BX (pv 2) (Aa (BZ Ac) Ac)))) (Ag (Bo (Cy Qat Qar Qas Gg (Bm Dv (pv 2) (Qd Mp Af) (λ_ _=>rfl)) (Aa (Cw (N':=xf) rfl (Bk.plain rfl (by trivial) (by trivial) (by trivial)) (CW (Dc K1 hr (Aa (pv 1) (Aa (pv 3) (Aa (pv 4) Ac))))) (λ_ _ _ _=>(Ih (K:=K) (n:=3) rfl rfl (Al (Ai (i:=0) (show List.Nodup (xf:YF) by trivial) rfl (Or.inl rfl)) (Al (Ai (i:=1) (show List.Nodup (xf:YF) by trivial) rfl (Or.inl rfl)) (Al (Ai (i:=2) (show List.Nodup (xf:YF) by trivial) rfl (Or.inl rfl)) Br))))) (λ_ _ _ _=>CZ) (λ_ _ _ _=>(pv 0))) Ac)))))))
 (Ag (Ay (pv 2))))),?_⟩
 show let R0:TS:=_;let R1:TS:=_;let R2:TS:=Jl _ R0 R1;let R3:TS:=Ao (Dm _ _ R2) _;Ao _ R3 _ _ _;intro R0 R1 R2 R3;generalize hst:L2.start _ _=σ0;have e0:σ0=[js pl,some (.int (k:Int)),none,none,none]:=hst.symm;clear hst;subst e0;refine⟨(by show 0<=sizeLine;decide),λq0 hq0=>⟨(by show 1<=sizeLine;decide),λl hl=>?_⟩⟩;have s1:=Ad hq0 (.lst []);have s2:=Ad hl (.lst [.ref q0]);have sm:=s1.trans s2;have hl0:=s1.free hl;have el:_=some (HO.lst [.ref q0]):=Ab (H:=upd H q0 (.lst [])) (a:=l) (o:=.lst [.ref q0]);have eq0:_=some (HO.lst []):=s2 _ _ (Ab (H:=H) (a:=q0) (o:=.lst []));have nq:q0≠l:=Ax (Ab (H:=H) (a:=q0) (o:=.lst [])) hl;generalize hX:upd (upd H q0 (.lst [])) l (.lst [.ref q0])=H1 at sm el eq0;simp only[Qbc,Qbb];have Mo:ws.length=ps.length:=Qci hps;refine⟨_,rq,pl,_,_,_,rq,rq,SqT.of (sm _ _ hpl),rq,_,rq,Ls,_,_,_,rq,rq,SqT.of (sm _ _ hLs),Fb hk,t,rq,⟨ws,SqT.of (sm _ _ ht)⟩,?_⟩;let J0:YN:=λi U HH=>∃qs ql u3 u4,U=[js pl,some (.int (k:Int)),js l,u3,u4]/\Same H HH/\HH l=some (.lst (qs++[.ref ql]))/\Paired (Ng HH) qs (stP k ps i).1/\Ng HH (.ref ql) (stP k ps i).2/\(∀x∈qs,∃q,x=.ref q/\H q=none/\q≠l/\q≠ql)/\H ql=none/\ql≠l/\qs.length<=i/\(stP k ps i).2.length<=4*i;refine JX (xs:=ws) (lo:=1) J0
  ⟨[],q0,_,_,rq,sm,el,.nil,⟨q0,[],rq,eq0,.nil⟩,λx hx=>(by cases hx),hq0,nq,QcD _,QcD _⟩ (λi U HH _ h=>?_) (λi x pt U HH hx h hpt=>?_) (fun U HH h=>?_)
 ·obtain⟨qs,ql,_,_,_,sb,_⟩:=h;exact SqT.of (sb _ _ ht)
 ·obtain⟨qs,ql,u3,u4,rfl,sb,hy,pd,pc,fq,fl,nl,lq,lc⟩:=h;obtain⟨p,hpi,hpa⟩:=Paired.Cp hps hx;have okp:=hok p (QaK hpi);have hpa:=hpa.tups (Ak.of sb);have t0:=Ad hpt (.tup [.int ((1+i:Nat):Int),x]);have yp:=hpa.tups (Ak.of t0);have il:i < ps.length:=(Qai.mp hpi).1;have sb0:=sb.trans t0;have hy0:=t0 _ _ hy;have pd0:=Paired.Aw pd λ_ _ (z:Ng HH _ _)=>(show Ng (upd HH pt (.tup [.int ((1+i:Nat):Int),x])) _ _ from let ⟨a,ys,e1,e2,e3⟩:=z;⟨a,ys,e1,t0 _ _ e2,Paired.Aw e3 λ_ _ y=>y.tups (Ak.of t0)⟩)
  have pc0:Ng (upd HH pt (.tup [.int ((1+i:Nat):Int),x])) (.ref ql) (stP k ps i).2:=let ⟨a,ys,e1,e2,e3⟩:=pc;⟨a,ys,e1,t0 _ _ e2,Paired.Aw e3 λ_ _ y=>y.tups (Ak.of t0)⟩;refine⟨pt,_,rq,SqT.of Ab,rq,_,_,rq,_,_,rq,rq,?_⟩;generalize upd HH pt (.tup [.int ((1+i:Nat):Int),x])=HA at yp sb0 hy0 pd0 pc0;simp only[Qbc,Qbb];refine⟨_,rq,Oz p,opD,yp.rep,.tup (T.opT HA) (.cons (.str _) (.cons (.int _) (.cons (.tup (T.opE HA) .nil) .nil))),Td okp,(by trivial),_,rq,?_⟩;rw[ZQ okp];by_cases ck:V.str p.kind=V.str "opener"
  ·rw[Qcd ck];refine BK ⟨_,rq,.inl ⟨rq,_,SqL.of hy0⟩,(by show 0<=sizeLine;decide),λqn hqn=>?_⟩;have t1:=Ad hqn (.lst []);refine⟨l,_,_,rq,rq,t1 _ _ hy0,Am (by rw[QaY];simp only[QaG];omega),?_⟩;have nln:l≠qn:=Ax hy0 hqn;have sS:Ah l HA (upd (upd HA qn (.lst [])) l (.lst (qs++[.ref ql]++[.ref qn]))):=(Ah.of t1).trans Ah.upd;have eqn:(upd (upd HA qn (.lst [])) l (.lst (qs++[.ref ql]++[.ref qn]))) qn=some (.lst []):=by rw[Aq nln.symm,Ab]
   have ell:(upd (upd HA qn (.lst [])) l (.lst (qs++[.ref ql]++[.ref qn]))) l=some (.lst (qs++[.ref ql]++[.ref qn])):=Ab;have nlt:∀zs,HA l≠some (.tup zs):=λzs z=>by rw[hy0] at z;cases z
   generalize upd (upd HA qn (.lst [])) l (.lst (qs++[.ref ql]++[.ref qn]))=HB at sS eqn ell;have keep:∀v sp,Ng HA v sp->v≠.ref l->Ng HB v sp:=λv sp z n=>by
    obtain⟨a,ys,e1,e2,e3⟩:=z;exact⟨a,ys,e1,sS _ _ e2 (λw=>n (by rw[e1,w])),Paired.Aw e3 λ_ _ y=>y.tups (sS.tup nlt)⟩
   have fqn:=sb0.free hqn;refine⟨qs++[.ref ql],qn,_,_,rq,sb0.Bp sS hl0,ell,?_,⟨qn,[],rq,eqn,?_⟩,λy hy'=>?_,fqn,nln.symm,by rw[QaY];simp only[QaG];omega,?_⟩
   ·rw[WW hpi ck];refine QcF (keep _ _ pc0 λz=>nl (by injection z)) ?_;exact QD pd0 λy hy' sp z=>keep _ _ z λw=>by
     obtain⟨a,e,_,n,_⟩:=fq y hy';rw[e] at w;injection w with w;exact n w
   ·rw[WW hpi ck];exact .nil
   ·rcases QbO.mp hy' with z | z
    ·obtain⟨a,e,f1,n1,n2⟩:=fq y z;have hm:y∈qs:=z;refine⟨a,e,f1,n1,λw=>?_⟩;obtain⟨sp,N3⟩:=Xj pd0 hm;obtain⟨a',ys,e1,e2,_⟩:=N3;rw[e] at e1;injection e1 with e1;rw[<-e1,w,hqn] at e2;cases e2
    ·have hz:y=.ref ql:=by simpa using z
     refine⟨ql,hz,fl,nl,λw=>?_⟩;obtain⟨a',ys,e1,e2,_⟩:=pc0;injection e1 with e1;rw[<-e1,w,hqn] at e2;cases e2
   ·rw[WW hpi ck];exact QcE _
  ·rw[QbR ck];obtain⟨a,yc,ea,eyc,pcs⟩:=id pc0;injection ea with ea;subst ea;refine Cj ⟨_,rq,_,rq,l,_,_,_,rq,rq,SqL.of hy0,iW qs (.ref ql),.inl ⟨rq,_,SqL.of eyc⟩,?_⟩;refine⟨_,rq,_,rq,_,rq,(k:Int),((1+i:Nat):Int),x,p,rq,yp,okp.spur,λld xs' HB fld hld pdd sB=>⟨ld,rq,⟨xs',SqL.of hld⟩,λl2 hl2=>?_⟩⟩;have lsd:(Cg k ((1+i:Nat):Int) p).length<=4:=by
    unfold Cg;rw[if_neg ck,QbC,Nr];have:=okp.spur;omega
   have lx:xs'.length<=4:=by rw[Qci pdd];exact lsd
   let J1:YN:=λj U HH2=>∃u v w ys,U=[u,v,w]/\HH2=upd HB l2 (.lst ys)/\ys.length<=j/\Paired (BW HB) ys (((Cg k ((1+i:Nat):Int) p).take j).map Sd.spot);refine Fy (xs:=xs') J1 ⟨none,none,none,[],rq,rq,QcD _,.nil⟩ (λj U HH2 _ h=>?_) (λj y U HH2 hyj h=>?_) (fun U HH2 h=>?_)
   ·obtain⟨u,v,w,ys,rfl,rfl,_⟩:=h;exact SqL.of (Ad hl2 _ _ _ hld)
   ·obtain⟨u,v,w,ys,rfl,rfl,lys,pys⟩:=h;obtain⟨d,hdj,td,ud,rfl,e1,e2⟩:=Paired.Cp pdd hyj;have jl:=(Qai.mp hyj).1;refine⟨td,_,rq,SqT.of (Ad hl2 _ _ _ e1),rq,_,_,rq,_,_,rq,_,_,rq,rq,_,rq,ys,Ab,Am (by omega),_,_,_,ys++[.ref ud],rq,Uk,by rw[QaY];simp only[QaG];omega,?_⟩;rw[List.take_succ,hdj,QbN];exact QcF ⟨ud,rq,e2⟩ pys
   ·obtain⟨u,v,w,ys,rfl,rfl,lys,pys⟩:=h;rw[Qci pdd,QbB] at pys;have t2:=Ad hl2 (.lst ys);have s02:=sB.trans t2;have nq2:ql≠l2:=Ax (sB _ _ eyc) hl2;have lyc:yc.length<=4*i:=by rw[Qci pcs];exact lc
    refine⟨ql,l2,_,_,rq,rq,s02 _ _ eyc,Ab,Ar (by omega),?_⟩;have sS:Ah ql HA (upd (upd HB l2 (.lst ys)) ql (.lst (yc++ys))):=(Ah.of s02).trans Ah.upd;have eql:(upd (upd HB l2 (.lst ys)) ql (.lst (yc++ys))) ql=some (.lst (yc++ys)):=Ab;have nqt:∀zs,(upd HB l2 (.lst ys)) ql≠some (.tup zs):=λzs z=>by rw[s02 _ _ eyc] at z;cases z
    have tE:Ak HB (upd (upd HB l2 (.lst ys)) ql (.lst (yc++ys))):=(Ak.of t2).trans (Ak.upd nqt);have nqa:∀zs,HA ql≠some (.tup zs):=λzs z=>by rw[eyc] at z;cases z
    generalize upd (upd HB l2 (.lst ys)) ql (.lst (yc++ys))=HC at sS eql tE;refine⟨qs,ql,_,_,rq,sb0.Bp sS fl,sS _ _ hy0 nl.symm,?_,⟨ql,yc++ys,rq,eql,?_⟩,fq,fl,nl,by omega,?_⟩
    ·rw[Um hpi ck];exact QD pd0 λy hy' sp z=>by
      obtain⟨a',ys',e1,e2,e3⟩:=z;obtain⟨b',f1,_,_,f4⟩:=fq y hy';refine⟨a',ys',e1,sS _ _ e2 (λw=>f4 ?_),Paired.Aw e3 λ_ _ y=>y.tups (sS.tup nqa)⟩;rw[e1] at f1;injection f1 with f1;rw[<-f1,w]
    ·rw[Um hpi ck];exact RQ (Paired.Aw pcs λ_ _ y=>y.tups (sS.tup nqa)) (Paired.Aw pys λ_ _ y=>y.tups tE)
    ·rw[Um hpi ck,QaY,QbM];omega
 ·obtain⟨qs,ql,u3,u4,rfl,sb,hy,pd,pc,fq,fl,nl,_⟩:=h;rw[Mo] at pd pc;refine⟨_,rq,q l _ HH hl0 hy (QcF pc pd) (λx hx=>?_) sb⟩;rcases QbO.mp hx with z | z
  ·obtain⟨a,e,n,m,_⟩:=fq x z;exact⟨a,e,n,m⟩
  ·have:x=.ref ql:=by simpa using z
   exact⟨ql,this,fl,nl⟩
end
abbrev Ny:Stmt:=top 3
abbrev GD:YF:=["thing"]
theorem jt:Az GD GD (Aj Ny):=by ac_rfl
abbrev Qt:Stmt:=top 4
abbrev Fe:YF:=["thing","low","high"]
theorem cW:Az ["thing","low","high"] Fe (Aj Qt):=by ac_rfl
abbrev V3:Stmt:=top 5
abbrev DX:YF:=["thing","least","most"]
theorem qD:Az ["thing","least","most"] DX (Aj V3):=by ac_rfl
abbrev Ov:Stmt:=top 6
abbrev Hg:YF:=["thing","many"]
theorem aL:Az ["thing","many"] Hg (Aj Ov):=by ac_rfl
theorem Gm {b:Bool} {A B:Prop} (h1:b=true->A) (h2:b=false->B):if b=true then A else B:=by
 cases b with
 | true=>exact BK (h1 rfl)
 | false=>exact Cj (h2 rfl)
theorem OK {i:Nat} {v:V} {U : St} {H:Hp} {Q:YO} (h:Q (U.set i (some v)) H):Eh i v U H Q:=h
theorem SM {I R:TS} {D:Ends} {U : St} {H:Hp} (P:YO) (hR:∀ σ' H',P σ' H'->R D σ' H') (hI:∀D':Ends,(∀ σ' H',P σ' H'->D'.nx σ' H')->I D' U H):Ao I R D U H:=hI { D with nx:=fun U H=>R D U H } hR
def iv (xs:List Int):YG:=xs.map V.int
inductive spW (vs:YG) (H:Hp) (Q:VK) (E:XK):Prop
 | mk (i:Int) (_:vs=[.int i]) (_:Q (.bl true) H):spW vs H Q E
inductive JL (vs:YG) (H:Hp) (Q:VK) (E:XK):Prop
 | mk (x lo hi:Int) (_:vs=[.int x,.int lo,.int hi]) (_:Q (.bl (decide (lo<=x/\x<=hi))) H):JL vs H Q E
inductive vp (vs:YG) (H:Hp) (Q:VK) (E:XK):Prop
 | mk (v) (_:vs=[v]) (_:Kn H v) (_:Q (.bl (isW v)) H):vp vs H Q E
def Rt (o:Option (YG)) (a b:Int):Bool:=match o with
 | some xs=>decide (a<=xs.length)&&decide ((xs.length:Int)<=b)
 | none=>false
inductive G4 (vs:YG) (H:Hp) (Q:VK) (E:XK):Prop
 | mk (v a b) (_:vs=[v,.int a,.int b]) (_:Kn H v) (_:Q (.bl (Rt (Iu H v) a b)) H):G4 vs H Q E
structure Th (H:Hp) (v:V):Prop where
 kn:Kn H v
 parts:∀xs,Iu H v=some xs->xs.length<=100/\∀y∈xs,Kn H y
theorem Th.same {H H':Hp} {v:V} (t:Th H v) (s:Same H H'):Th H' v:=
 ⟨t.kn.same s,λxs e=>by
  rw[WQ s t.kn] at e;exact⟨(t.parts xs e).1,λy hy=>((t.parts xs e).2 y hy).same s⟩⟩
def Uj (o:Option (YG)) (n:Int):Bool:=match o with
 | some xs=>Rt (some xs) n n&&xs.all isW
 | none=>false
theorem Sh {xs:YG} {n:Int}:Uj (some xs) n=(Rt (some xs) n n&&xs.all isW):=rfl
inductive PL (vs:YG) (H:Hp) (Q:VK) (E:XK):Prop
 | mk (v n) (_:vs=[v,.int n]) (_:Th H v) (_:∀H',Same H H'->Q (.bl (Uj (Iu H v) n)) H'):PL vs H Q E
theorem Ze {P:Program} {w:World} {K:YD} {mg:YB} {base:Heap} {x:Str} {k:Nat} {ps:YF} {sp sp':Sp} (g:Good P w K mg base x k ps sp) (h:∀vs H Q E,sp' vs H Q E->sp vs H Q E):Good P w K mg base x k ps sp':=⟨let ⟨f,fd,a,b,c,F⟩:=g.ex;⟨f,fd,a,b,c,F.imp h⟩⟩
section
variable {P:Program} {w:World} {K:YD} {mg:YB} {base:Heap}
theorem Tn (c:Code K mg "is_whole" Ny GD) (T:Nm mg):Good P w K mg base "is_whole" 1 GD vp:=by
 refine c.good jt (λvs H Q E h=>?_) (λf cdv A outer s H vs Q E hr h=>?_)
 ·obtain⟨v,rfl,_⟩:=h;rfl
 obtain⟨v,rfl,k,q⟩:=h;refine⟨_,(Ag (Ay (Fq (Av RK rfl T.isinstance Bv (Aa (pv 0) (Aa (QZ (v:=.ty "int") rfl T.int iQ rfl) Ac))) (Ed (DI (Av RK rfl T.isinstance Bv (Aa (pv 0) (Aa (QZ (v:=.ty "bool") rfl T.bool B4 rfl) Ac)))))))),?_⟩;refine⟨_,rq,BM k ⟨_,rq,?_⟩⟩;rw[EG] at q;cases e:isI v with
 | false=>rw[e] at q;exact Cj q
 | true=>rw[e] at q;exact BK ⟨_,rfl,yj e ⟨_,rfl,q⟩⟩
theorem jx (c:Code K mg "is_whole" Ny GD) (T:Nm mg):Good P w K mg base "is_whole" 1 GD spW:=Ze (Tn c T) λvs H Q E h=>let ⟨i,e,q⟩:=h;⟨.int i,e,True.intro,q⟩
theorem fj (c:Code K mg "is_within" Qt Fe) (T:Nm mg) (RB:Good P w K mg base "is_whole" 1 GD spW):Good P w K mg base "is_within" 2 Fe JL:=by
 refine c.good cW (λvs H Q E h=>?_) (λf cdv A outer s H vs Q E hr h=>?_)
 ·obtain⟨x,lo,hi,rfl,_⟩:=h;rfl
 obtain⟨x,lo,hi,rfl,q⟩:=h;refine⟨_,(Ag (Ay (Fq (BR RB hr (Aa (pv 0) Ac)) (Ed (O2 Mg Mg (pv 1) (pv 0) (pv 2)))))),?_⟩;refine⟨_,rq,x,rq,_,rq,BK ⟨_,rq,_,rq,_,_,rq,rq,_,rq,?_⟩⟩;by_cases h1:lo<=x
 ·rw[Qcd h1];refine BK ⟨_,rq,_,_,rq,rq,?_⟩;by_cases h2:x<=hi
  ·rw[Qcd ⟨h1,h2⟩] at q;show Q (.bl (decide (x<=hi))) H;rw[Qcd h2];exact q
  ·rw[QbR (λz=>h2 z.2)] at q;show Q (.bl (decide (x<=hi))) H;rw[QbR h2];exact q
 ·rw[QbR (λz=>h1 z.1)] at q;rw[QbR h1];exact Cj q
theorem rm (c:Code K mg "is_row" V3 DX) (T:Nm mg):Good P w K mg base "is_row" 1 DX G4:=by
 refine c.good qD (λvs H Q E h=>?_) (λf cdv A outer s H vs Q E hr h=>?_)
 ·obtain⟨v,a,b,rfl,_⟩:=h;rfl
 obtain⟨v,a,b,rfl,k,q⟩:=h;refine⟨_,(Ag (Ay (Fq (Av RK rfl T.isinstance Bv (Aa (pv 0) (Aa (QZ (v:=.ty "tuple") rfl T.tuple Gn rfl) Ac))) (Ed (O2 Mg Mg (pv 1) (Av Bj rfl T.len CV (Aa (pv 0) Ac)) (pv 2)))))),?_⟩;refine⟨_,rq,rQ k ⟨_,rq,?_⟩⟩;cases e:Iu H v with
 | none=>rw[e] at q;exact Cj q
 | some xs=>
  rw[e] at q;obtain⟨p,rfl,hp⟩:=fK e;refine BK ⟨_,rq,_,rq,p,xs,rq,.inr (SqT.of hp),_,_,rq,rq,_,rq,?_⟩;by_cases h1:a<=(xs.length:Int)
  ·rw[Qcd h1];refine BK ⟨_,rq,_,_,rq,rq,?_⟩;simpa [Rt,h1] using q
  ·rw[QbR h1];refine Cj ?_;simpa [Rt,h1] using q
abbrev xh:YF:=["part"]
theorem aP (c:Code K mg "are_wholes" Ov Hg) (T:Nm mg) (RB:Good P w K mg base "is_whole" 1 GD vp) (CJ:Good P w K mg base "is_row" 1 DX G4):Good P w K mg base "are_wholes" 2 Hg PL:=by
 refine c.good aL (λvs H Q E h=>?_) (λf cdv A outer s H vs Q E hr h=>?_)
 ·obtain⟨v,n,rfl,_⟩:=h;rfl
 obtain⟨v,n,rfl,t,q⟩:=h;refine⟨_,(Ag (Ay (Fq (Dc CJ hr (Aa (pv 0) (Aa (pv 1) (Aa (pv 1) Ac)))) (Ed (Av (Jg rfl) rfl T.all Nf (Aa (Cw (N':=xh) rfl (Bk.plain rfl (by trivial) (by trivial) (by trivial)) (Fp (pv 0)) (λ_ _ _ _=>(Ai (i:=0) (show List.Nodup (xh:YF) by trivial) rfl (Or.inl rfl))) (λ_ _ _ _=>CZ) (λ_ _ _ _=>(BR RB hr (Aa (pv 0) Ac)))) Ac)))))),?_⟩;refine⟨_,rq,_,rq,_,rq,v,n,n,rq,t.kn,_,rq,?_⟩;cases e:Iu H v with
 | none=>exact Cj (by have:=q H (Same.refl H);rw[e] at this;exact this)
 | some xs=>
  obtain⟨p,rfl,hp⟩:=fK e;have tp:=t.parts xs e;cases eb:Rt (some xs) n n with
  | false=>exact Cj (by have:=q H (Same.refl H);rw[e,Sh,eb] at this;exact this)
  | true=>
   refine BK ⟨_,rq,p,rq,⟨xs,SqT.of hp⟩,λl hl=>?_⟩;have hpl:p≠l:=Ax hp hl;let J0:YN:=λi U H'=>∃u,U=[u]/\H'=upd H l (.lst ((xs.take i).map λy=>V.bl (isW y)));refine Pq (xs:=xs) J0 ⟨none,rq,rq⟩ (λi U H' _ h=>?_) (λi x U H' hx h=>?_) (fun U H' h=>?_)
   ·obtain⟨u,rfl,rfl⟩:=h;exact SqT.of (by rw[Aq hpl];exact hp)
   ·obtain⟨u,rfl,rfl⟩:=h;have sm:Same H (upd H l (.lst ((xs.take i).map λy=>V.bl (isW y)))):=Ad hl _;have et:(xs.take (i+1)).map (λy=>V.bl (isW y))=(xs.take i).map (λy=>V.bl (isW y))++[V.bl (isW x)]:=by rw[List.take_succ,hx];simp
    refine⟨_,rq,x,rq,(tp.2 x (QaK hx)).same sm,_,Ab,Am (by rw[QbM,QbD];omega),_,rq,?_⟩;rw[Uk,et]
   ·obtain⟨u,rfl,rfl⟩:=h;refine⟨l,xs.map isW,rq,SqL.of ?_,?_⟩
    ·rw[Ab,QbB,Qcw];rfl
    ·have:=q _ (Ad hl (.lst ((xs.take xs.length).map λy=>V.bl (isW y))));rw[e,Sh,eb,Bool.true_and] at this;rw[List.all_map];exact this
end
abbrev Qu:Stmt:=top 7
abbrev Jt:YF:=["row"]
theorem cX:Az ["row"] Jt (Aj Qu):=by ac_rfl
abbrev Gp:Stmt:=top 8
abbrev Eu:YF:=["thing","least","most","low","high"]
theorem Rp:Az Eu Eu (Aj Gp):=by ac_rfl
abbrev S6:Stmt:=top 9
abbrev MN:YF:=GD
theorem nC:Az GD MN (Aj S6):=by ac_rfl
abbrev Qv:Stmt:=top 14
abbrev Ij:YF:=["kind","address"]
theorem cY:Az ["kind","address"] Ij (Aj Qv):=by ac_rfl
abbrev JN:Stmt:=top 15
abbrev Gh:YF:=GD
theorem Vh:Az GD Gh (Aj JN):=by ac_rfl
abbrev S5:Stmt:=top 16
abbrev MK:YF:=GD
theorem nA:Az GD MK (Aj S5):=by ac_rfl
abbrev Rr:Stmt:=top 17
abbrev KQ:YF:=GD
theorem Js:Az ["thing","kind","address","spur"] KQ (Aj Rr):=by ac_rfl
abbrev S7:Stmt:=top 18
abbrev MP:YF:=GD
theorem nF:Az GD MP (Aj S7):=by ac_rfl
abbrev SX:Stmt:=top 19
abbrev MJ:YF:=GD
theorem nj:Az GD MJ (Aj SX):=by ac_rfl
abbrev Qx:Stmt:=top 20
abbrev Im:YF:=GD
theorem dj:Az GD Im (Aj Qx):=by ac_rfl
abbrev Qw:Stmt:=top 21
abbrev Il:YF:=GD
theorem dg:Az GD Il (Aj Qw):=by ac_rfl
abbrev Qc:Stmt:=top 22
abbrev Hr:YF:=GD
theorem Fd:Az ["thing","most","loops","zones"] Hr (Aj Qc):=by ac_rfl
structure Ty (K:YD) (mg:YB) (op oe kd wk:Addr):Prop extends Tx K mg op oe where
 KINDS:∃u,mg "KINDS"=some u/\RelV (.ref kd) u
 kdT:∀H,SqT K H kd [.str "seeker",.str "knob",.str "bell",.str "door"]
 WARNING_KINDS:∃u,mg "WARNING_KINDS"=some u/\RelV (.ref wk) u
 wkT:∀H,SqT K H wk [.str "seeker",.str "knob"]
 SMALL_LETTERS:∃u,mg "SMALL_LETTERS"=some u/\RelV (.str abc) u
theorem B7:∀c∈abc.cps.toList,(!(Builtin.Str.occurrences abc ⟨#[c]⟩ 0 abc.length 1).isEmpty)=true:=by
 have h:abc.cps.toList.all (λc=>!(Builtin.Str.occurrences abc ⟨#[c]⟩ 0 abc.length 1).isEmpty)=true:=by trivial
 exact λc hc=>List.all_eq_true.mp h c hc
theorem BG {k:Str} (h:Ib k):inV (.str k) [.str "seeker",.str "knob",.str "bell",.str "door"]=true:=by
 rcases h with rfl | rfl | rfl | rfl <;> decide +kernel
theorem M9 {K:YD} {a l:Addr} {xs:YG} {te:TE} {Q:VK} {r:St} {H:Hp} (hl:H l=none) (ha:H a=some (.tup xs)) (h100:xs.length<=100)
  (hs:∀(i:Nat) (x:V) (HH:Hp),xs[i]?=some x->Same H HH->∀R:VK,(∀H',Same HH H'->R (.bl true) H')->te (some x::r) HH R)
  (hq:∀H',H' l=some (.lst ((List.replicate xs.length true).map V.bl))->Same H H'->Q (.ref l) H'):Gs (Itt K a) (Eh 0) (λ_ H Q=>Q true H) te Q (none::r) (upd H l (.lst [])) l:=by
 let J0:YN:=λi U HH=>∃u,U=u::r/\HH l=some (.lst ((List.replicate i true).map V.bl))/\Same H HH;refine Pq (xs:=xs) J0 ⟨_,rq,Ab,Ad hl _⟩ (λi U HH _ h=>?_) (λi x U HH hx h=>?_) (fun U HH h=>?_)
 ·obtain⟨u,rfl,_,s⟩:=h;exact SqT.of (s _ _ ha)
 ·obtain⟨u,rfl,e,s⟩:=h;have hi:=(Qai.mp hx).1;unfold Eh;dsimp only;refine BK (hs i x HH hx s _ λH' s'=>⟨_,s' _ _ e,Am (by rw[QbM,QaJ];omega),_,rq,?_,(s.trans s').Bp Ah.upd hl⟩);rw[Ab,List.replicate_succ',QbN];rfl
 ·obtain⟨u,rfl,e,s⟩:=h;exact hq _ e s
theorem lY {K:YD} {a l:Addr} {xs:YG} {te:TE} {Q:VK} {r:St} {H:Hp} (bs:List Bool) (lb:bs.length=xs.length) (hl:H l=none) (ha:H a=some (.tup xs)) (h100:xs.length<=100)
  (hs:∀(i:Nat) (x:V) (b:Bool) (HH:Hp),xs[i]?=some x->bs[i]?=some b->Same H HH->∀R:VK,(∀H',Same HH H'->R (.bl b) H')->te (some x::r) HH R)
  (hq:∀H',H' l=some (.lst (bs.map V.bl))->Same H H'->Q (.ref l) H'):Gs (Itt K a) (Eh 0) (λ_ H Q=>Q true H) te Q (none::r) (upd H l (.lst [])) l:=by
 let J1:YN:=λi U HH=>∃u,U=u::r/\HH l=some (.lst ((bs.take i).map V.bl))/\Same H HH;refine Pq (xs:=xs) J1 ⟨_,rq,Ab,Ad hl _⟩ (λi U HH _ h=>?_) (λi x U HH hx h=>?_) (fun U HH h=>?_)
 ·obtain⟨u,rfl,_,s⟩:=h;exact SqT.of (s _ _ ha)
 ·obtain⟨u,rfl,e,s⟩:=h;have hi:=(Qai.mp hx).1;have hb:bs[i]?=some bs[i]:=Qao (by omega);unfold Eh;dsimp only;refine BK (hs i x _ HH hx hb s _ λH' s'=>⟨_,s' _ _ e,Am (by rw[QbM,QbD];omega),_,rq,?_,(s.trans s').Bp Ah.upd hl⟩);rw[Ab,QcM hb,QbN];rfl
 ·obtain⟨u,rfl,e,s⟩:=h;rw[<-lb,QbB] at e;exact hq _ e s
def SJ (s1 s2:Sp):Sp:=λvs H Q E=>s1 vs H Q E\/s2 vs H Q E
theorem Yz {xs:YG} {a b:Int} (h:(xs.length:Int) < a\/b < (xs.length:Int)):Rt (some xs) a b=false:=by
 show (decide (a<=xs.length)&&decide ((xs.length:Int)<=b))=false;rcases h with h | h
 ·rw[QbR (by omega)];rfl
 ·rw[QbR (show ¬(xs.length:Int)<=b by omega),Bool.and_false]
theorem Ga {H:Hp} {a:Addr} {xs:YG} (h:H a=some (.tup xs)):Kn H (.ref a):=by
 unfold Kn
 first
  | exact⟨_,h,True.intro⟩
  | exact .inr ⟨_,h⟩
  | exact⟨xs,.inr h⟩
theorem DG {xs:YG} {a b:Int} (h1:a<=xs.length) (h2:(xs.length:Int)<=b):Rt (some xs) a b=true:=by
 show (decide (a<=xs.length)&&decide ((xs.length:Int)<=b))=true;rw[Qcd h1,Qcd h2];rfl
theorem Wv {n:Nat}:(List.replicate n true).all id=true:=by simp
structure Tb (p:Place):Prop where
 ok:OkP p
 bd:∀x∈adP p,1<=x/\x<=99
inductive Yn (vs:YG) (H:Hp) (Q:VK) (E:XK):Prop
 | mk (z:Str) (_:vs=[.str z]) (_:1<=z.length) (_:z.length<=8) (_:okS z) (_:∀H',Same H H'->Q (.bl true) H'):Yn vs H Q E
inductive cF (vs:YG) (H:Hp) (Q:VK) (E:XK):Prop
 | mk (a:Addr) (ns:List Int) (_:vs=[.ref a]) (_:H a=some (.tup (ns.map V.int))) (_:ns.Pairwise (· < ·)) (_:ns.length<=100) (_:∀H',Same H H'->Q (.bl true) H'):cF vs H Q E
inductive cD (vs:YG) (H:Hp) (Q:VK) (E:XK):Prop
 | mk (a:Addr) (ns:List Int) (lo hi l h:Int) (_:vs=[.ref a,.int lo,.int hi,.int l,.int h]) (_:H a=some (.tup (ns.map V.int))) (_:ns.Pairwise (· < ·)) (_:ns.length<=100) (_:lo<=ns.length) (_:(ns.length:Int)<=hi) (_:(∀x∈ns,l<=x/\x<=h)) (_:∀H',Same H H'->Q (.bl true) H'):cD vs H Q E
inductive Xc (vs:YG) (H:Hp) (Q:VK) (E:XK):Prop
 | mk (k:Str) (x:Int) (_:vs=[.str k,.int x]) (_:Ib k) (_:1<=x) (_:x<=99) (_:Q (.bl true) H):Xc vs H Q E
inductive VF (vs:YG) (H:Hp) (Q:VK) (E:XK):Prop
 | mk (v d) (_:vs=[v]) (_:K8 H v d) (_:Ib d.kind) (_:1<=d.addr) (_:d.addr<=99) (_:Q (.bl true) H):VF vs H Q E
inductive Yh (vs:YG) (H:Hp) (Q:VK) (E:XK):Prop
 | mk (u ws ds) (_:vs=[.ref u]) (_:H u=some (.tup ws)) (_:Paired (K8 H) ws ds) (_:ds.length<=3) (_:(∀d∈ds,Ib d.kind/\1<=d.addr/\d.addr<=99)) (_:∀H',Same H H'->Q (.bl true) H'):Yh vs H Q E
inductive VG (vs:YG) (H:Hp) (Q:VK) (E:XK):Prop
 | mk (v p) (_:vs=[v]) (_:Eo H v p) (_:Tb p) (_:∀H',Same H H'->Q (.bl true) H'):VG vs H Q E
inductive Yo (vs:YG) (H:Hp) (Q:VK) (E:XK):Prop
 | mk (v ps) (_:vs=[v]) (_:LoopAt H v ps) (_:OkL ps) (_:(∀x∈adL ps,1<=x/\x<=99)) (_:∀H',Same H H'->Q (.bl true) H'):Yo vs H Q E
inductive Rm (vs:YG) (H:Hp) (Q:VK) (E:XK):Prop
 | mk (Ls ws ja) (_:vs=[.ref Ls]) (_:H Ls=some (.tup ws)) (_:Paired (LoopAt H) ws ja) (_:(∀ps∈ja,OkL ps)) (_:(∀x∈CP ja,1<=x/\x<=99)) (_:1<=ja.length) (_:ja.length<=3) (_:∀H',Same H H'->Q (.bl true) H'):Rm vs H Q E
structure ZnB (z:Zone):Prop where
 nm:(1<=z.name.length/\z.name.length<=8)/\okS z.name
 up:z.adr.Pairwise (· < ·)/\1<=z.adr.length/\z.adr.length<=30
 bd:∀x∈z.adr,1<=x/\x<=99
inductive Ye (vs:YG) (H:Hp) (Q:VK) (E:XK):Prop
 | mk (v z) (_:vs=[v]) (_:Hl H v z) (_:ZnB z) (_:∀H',Same H H'->Q (.bl true) H'):Ye vs H Q E
inductive Rk (vs:YG) (H:Hp) (Q:VK) (E:XK):Prop
 | mk (zs ws jp) (_:vs=[.ref zs]) (_:H zs=some (.tup ws)) (_:Paired (Hl H) ws jp) (_:(∀z∈jp,ZnB z)) (_:jp.length<=8) (_:(jp.map (·.name)).Nodup) (_:∀H',Same H H'->Q (.bl true) H'):Rk vs H Q E
inductive cG (vs:YG) (H:Hp) (Q:VK) (E:XK):Prop
 | mk (a:Addr) (_:vs=[.ref a,.int 1,.int 30,.int 1,.int 99]) (_:H a=some (.tup [.int 100])) (_:∀H',Same H H'->Q (.bl false) H'):cG vs H Q E
inductive VJ (vs:YG) (H:Hp) (Q:VK) (E:XK):Prop
 | mk (Ls ws) (_:vs=[.ref Ls]) (_:H Ls=some (.tup ws)) (_:(ws.length=0\/3 < ws.length)) (_:Q (.bl false) H):VJ vs H Q E
def ZC (H:Hp) (t:Addr):Prop:=∃u,H t=some (.tup [.str "q",.ref u])/\H u=some (.tup [.int 100])
theorem ZC.tups {H H':Hp} {t:Addr} (h:ZC H t) (s:Ak H H'):ZC H' t:=by
 obtain⟨u,h1,h2⟩:=h;exact⟨u,s _ _ h1,s _ _ h2⟩
inductive Yg (vs:YG) (H:Hp) (Q:VK) (E:XK):Prop
 | mk (t) (_:vs=[.ref t]) (_:ZC H t) (_:∀H',Same H H'->Q (.bl false) H'):Yg vs H Q E
inductive VD (vs:YG) (H:Hp) (Q:VK) (E:XK):Prop
 | mk (zs ws jp tz) (_:vs=[.ref zs]) (_:H zs=some (.tup (ws++[.ref tz]))) (_:Paired (Hl H) ws jp) (_:(∀z∈jp,ZnB z)) (_:jp.length<=8) (_:ZC H tz) (_:∀H',Same H H'->Q (.bl false) H'):VD vs H Q E
structure FQ (H:Hp) (pl:Addr) (most:Int) (ja:YU) (jp:List Zone):Prop where
 at_:∃Ls zs vs zvs,H pl=some (.tup [.int most,.ref Ls,.ref zs])/\H Ls=some (.tup vs)/\Paired (LoopAt H) vs ja/\H zs=some (.tup zvs)/\Paired (Hl H) zvs jp
 ok:Ei ja
 lo:1<=ja.length
 pok:je most ja jp
theorem FQ.tups {H H':Hp} {pl:Addr} {most:Int} {ja:YU} {jp:List Zone} (h:FQ H pl most ja jp) (s:Ak H H'):FQ H' pl most ja jp:=by
 obtain⟨Ls,zs,vs,zvs,e1,e2,e3,e4,e5⟩:=h.at_;exact⟨⟨Ls,zs,vs,zvs,s _ _ e1,s _ _ e2,Paired.Aw e3 λ_ _ z=>z.tups s,s _ _ e4,Paired.Aw e5 λ_ _ z=>z.tups s⟩,h.ok,h.lo,h.pok⟩
theorem FQ.same {H H':Hp} {pl:Addr} {most:Int} {ja:YU} {jp:List Zone} (h:FQ H pl most ja jp) (s:Same H H'):FQ H' pl most ja jp:=h.tups (Ak.of s)
theorem FQ.plan {H:Hp} {pl:Addr} {most:Int} {ja:YU} {jp:List Zone} (h:FQ H pl most ja jp):Ra H pl ja:=by
 obtain⟨Ls,zs,vs,zvs,e1,e2,e3,e4,e5⟩:=h.at_;exact⟨_,_,Ls,vs,e1,e2,e3⟩
inductive QX (vs:YG) (H:Hp) (Q:VK) (E:XK):Prop
 | mk (pl most ja jp) (_:vs=[.ref pl]) (_:FQ H pl most ja jp) (_:∀H',Same H H'->Q (.bl true) H'):QX vs H Q E
theorem bT {α β γ : Type} {h:α->List β} {φ : γ->β} {g:Nat->α->List γ} (l:List α) (hg:∀i x,l[i]?=some x->(g i x).map φ=h x):∀n,n<=l.length->(up (λi=>ifs l[i]? (g i)) n).map φ=(l.take n).flatMap h
 | 0,_=>by rw[N6];simp
 | n+1,hn=>by
  have hi:l[n]?=some l[n]:=Qao (by omega);rw[Ea,QbN,bT l hg n (by omega),QcM hi,QaR,CQ hi,hg n _ hi];simp
theorem Vr (lp a:Int):∀(n:Nat) (ds:List Dev),(Ej lp a n ds).map (·.addr)=ds.map (·.addr)
 | _,[]=>rfl
 | n,d::r=>by
  show d.addr::(Ej lp a (n+1) r).map (·.addr)=d.addr::r.map (·.addr);rw[Vr]
theorem dZ (lp a:Int) (p:Place):(Cg lp a p).map (·.addr)=adP p:=by
 unfold Cg adP;split
 ·rfl
 ·rw[Qck,Vr]
theorem Jf (ja:YU):(up (pdL ja) ja.length).map (·.addr)=CP ja:=by
 have:=bT (φ:=Sd.addr) (h:=adL) (g:=λk ps=>up (pd1 (k:Int) ps) ps.length) ja (λk ps _=>by
  have:=bT (φ:=Sd.addr) (h:=adP) (g:=λi p=>Cg (k:Int) ((1+i:Nat):Int) p) ps (λi p _=>dZ _ _ p) ps.length (QcD _);rw[QbB] at this;exact this) ja.length (QcD _)
 rw[QbB] at this;exact this
theorem vf {ja:YU} (h:Ei ja) {x:Int} (hx:x∈Gb ja):x∈CP ja:=by
 obtain⟨ps,hps,hx⟩:=QbJ.mp hx;obtain⟨p,hp,hx⟩:=QbJ.mp hx;refine QbJ.mpr ⟨ps,hps,QbJ.mpr ⟨p,hp,?_⟩⟩;obtain⟨d,hd,rfl⟩:=Qcs.mp hx;obtain⟨hd,hw⟩:=QbU.mp hd;rcases ((h.ok ps hps).ok p hp).form with⟨e1,e2,e3⟩| hk
 ·have:d=⟨p.kind,p.addr⟩:=by
   unfold Gq at hd;rw[e3] at hd;simpa using hd
  rw[this] at hw;have hw:FT p.kind=true:=hw;rw[e1] at hw;exact absurd hw (by trivial)
 ·unfold adP;rw[if_neg (Od hk)];unfold Gq at hd;rcases Qcj.mp hd with rfl | hd
  ·exact QaZ ..
  ·exact QaL _ (Qcs.mpr ⟨d,hd,rq⟩)
section
variable {P:Program} {w:World} {K:YD} {mg:YB} {base:Heap} {op oe kd wk:Addr}
theorem oh (C:Code K mg "is_name" S6 MN) (T:Ty K mg op oe kd wk):Good P w K mg base "is_name" 1 MN Yn:=by
 refine C.good nC (λvs H Q E h=>?_) (λf cdv A outer s H vs Q E hr h=>?_)
 ·obtain⟨z,rfl,_⟩:=h;rfl
 obtain⟨z,rfl,h1,h8,oz,q⟩:=h;refine⟨_,(Ae (Cu (Eb (Dh (Av RK rfl T.isinstance Bv (Aa (pv 0) (Aa (QZ (v:=.ty "str") rfl T.str FM rfl) Ac))))) (Ag (Ay DK)) BJ)
 (Ag (Ay (Fq (O2 Mg Mg Af (Av iI rfl T.len CV (Aa (pv 0) Ac)) Af) (Ed (Av (Jg rfl) rfl T.all Nf (Aa (Cw (N':=["sign"]) rfl (Bk.plain rfl (by trivial) (by trivial) (by trivial)) (qL (pv 0)) (λ_ _ _ _=>(Ai (i:=0) (show List.Nodup (["sign"]:YF) by trivial) rfl (Or.inl rfl))) (λ_ _ _ _=>CZ) (λ_ _ _ _=>(Gx qT (pv 0) (Te rfl T.SMALL_LETTERS) (by with_unfolding_all rfl)))) Ac))))))),?_⟩
 show let R0:TS:=_;Ao _ R0 _ _ _;intro R0;refine⟨_,rq,BI ⟨_,rq,Cj ⟨_,rq,z,rq,Ar (by show z.length<=1000;omega),_,_,rq,rq,_,rq,?_⟩⟩⟩;have g1:decide ((1:Int)<=(z.length:Int))=true:=Qcd (by omega);rw[g1];refine BK ⟨_,_,rq,rq,_,rq,?_⟩;have g2:decide ((z.length:Int)<=8)=true:=Qcd (by omega);rw[g2];refine BK ⟨_,rq,z,rq,λl hl'=>?_⟩;let J2:YN:=λi U HH=>∃u,U=[u]/\HH l=some (.lst ((List.replicate i true).map V.bl))/\Same H HH;refine iu J2 ⟨_,rq,Ab,Ad hl' _⟩ (λi c U HH hc h=>?_) (fun U HH h=>?_)
 ·obtain⟨u,rfl,e1,e2⟩:=h;have hi:i < z.cps.size:=(Qaf.mp hc).1;have hz:z.cps.size<=8:=h8;unfold Eh;dsimp only;refine BK ⟨_,rq,_,_,rq,rq,_,e1,Am (by simp;omega),_,rq,?_,e2.Bp Ah.upd hl'⟩;rw[Ab,B7 c (oz c (Array.mem_toList_iff.mpr (Array.mem_of_getElem? hc))),List.replicate_succ',QbN];rfl
 ·obtain⟨u,rfl,e1,e2⟩:=h;refine⟨l,List.replicate z.cps.size true,rq,SqL.of e1,?_⟩;rw[Wv];exact q _ e2
abbrev xv:YF:=["one","other"]
theorem fu (C:Code K mg "is_rising" Qu Jt) (T:Ty K mg op oe kd wk):Good P w K mg base "is_rising" 1 Jt cF:=by
 refine C.good cX (λvs H Q E h=>?_) (λf cdv A outer s H vs Q E hr h=>?_)
 ·obtain⟨a,ns,rfl,_⟩:=h;rfl
 obtain⟨a,ns,rfl,ha,hp,h100,q⟩:=h;refine⟨_,(Ag (Ay (Av (Jg rfl) rfl T.all Nf (Aa (Cw (N':=xv) rfl (Bk.plain rfl (by trivial) (by trivial) (by trivial)) (vU rfl T.zip (Aa (pv 0) (Aa (Li Yt (pv 0) (Oa Af) Ob) Ac))) (λ_ _ _ _=>(Ih (K:=K) (n:=2) rfl rfl (Al (Ai (i:=0) (show List.Nodup (xv:YF) by trivial) rfl (Or.inl rfl)) (Al (Ai (i:=1) (show List.Nodup (xv:YF) by trivial) rfl (Or.inl rfl)) Br)))) (λ_ _ _ _=>CZ) (λ_ _ _ _=>(Gx nQ (pv 0) (pv 1) (BP _)))) Ac)))),?_⟩;refine⟨_,rq,_,rq,_,rq,a,_,rq,ha,λb H1 hb s1=>?_⟩;have ha1:=s1 _ _ ha;refine⟨a,b,rq,⟨_,ha1⟩,⟨_,hb⟩,λl hl=>?_⟩;have hlen:(ns.map V.int).length=ns.length:=QbM ..;have ec:JZ (ns.map V.int) (some (1:Int)) none=(ns.map V.int).drop 1:=by
  by_cases h0:1<=(ns.map V.int).length
  ·exact Wr (k:=1) h0
  ·have:ns.map V.int=[]:=List.length_eq_zero_iff.mp (by omega);rw[this];rfl
 rw[ec] at hb;refine pN (xs:=ns.map V.int) (ys:=(ns.map V.int).drop 1) (ns.length - 1) (by omega) (by rw[QbG];omega) (.inr (by rw[QbG];omega)) (λi U HH=>∃u1 u2,U=[u1,u2]/\HH l=some (.lst ((List.replicate i true).map V.bl))/\Same H1 HH) ⟨_,_,rq,Ab,Ad hl _⟩ (λi U HH _ h=>?_) (λi x y p U HH hx hy h hpn=>?_) (fun U HH h=>?_)
 ·obtain⟨u1,u2,rfl,e1,e2⟩:=h;exact⟨e2 _ _ ha1,e2 _ _ hb⟩
 ·obtain⟨u1,u2,rfl,e1,e2⟩:=h;rw[List.getElem?_drop] at hy;rw[Qbq] at hx hy;obtain⟨n1,hn1,rfl⟩:=QaD.mp hx;obtain⟨n2,hn2,rfl⟩:=QaD.mp hy;obtain⟨i1,g1⟩:=Qai.mp hn1;obtain⟨i2,g2⟩:=Qai.mp hn2;have lt:n1 < n2:=by
   rw[<-g1,<-g2];exact Qam.mp hp i (1+i) i1 i2 (by omega)
  have s2:=Ad hpn (.tup [.int n1,.int n2]);refine⟨p,_,rq,SqT.of Ab,rq,_,_,rq,_,_,rq,rq,?_⟩;refine BK ⟨_,rq,_,rq,_,_,rq,rq,_,s2 _ _ e1,Am (by simp;omega),_,_,rq,?_,(e2.trans s2).Bp Ah.upd hl⟩;rw[Ab];show some (HO.lst (_++[V.bl (decide (n1 < n2))]))=_;rw[Qcd lt,List.replicate_succ',QbN];rfl
 ·obtain⟨u1,u2,rfl,e1,e2⟩:=h;refine⟨l,List.replicate (ns.length - 1) true,rq,SqL.of e1,?_⟩;rw[Wv];exact q _ (s1.trans e2)
theorem aQ (C:Code K mg "are_rising_within" Gp Eu) (T:Ty K mg op oe kd wk) (CJ:Good P w K mg base "is_row" 1 DX G4) (Fi:Good P w K mg base "is_within" 2 Fe JL) (jF:Good P w K mg base "is_rising" 1 Jt cF):Good P w K mg base "are_rising_within" 3 Eu (SJ cD cG):=by
 refine C.good Rp (λvs H Q E h=>?_) (λf cdv A outer s H vs Q E hr h=>?_)
 ·rcases h with⟨a,ns,lo,hi,l,h,rfl,_⟩|⟨a,rfl,_⟩ <;> rfl
 refine⟨_,(Ae (Cu (Eb (Dh (Dc CJ hr (Aa (pv 0) (Aa (pv 1) (Aa (pv 2) Ac)))))) (Ag (Ay DK)) BJ)
 (Ag (Ay (Fq (Av (Jg rfl) rfl T.all Nf (Aa (Cw (N':=["part","low","high"]) rfl (Bk.of (src:=[none,some 3,some 4]) (Aj Gp) Eu rfl rfl rfl (by trivial) (by trivial) (by trivial) rfl (by trivial)) (Fp (pv 0)) (λ_ _ _ _=>(Ai (i:=0) (show List.Nodup (["part","low","high"]:YF) by trivial) rfl (Or.inl rfl))) (λ_ _ _ _=>CZ) (λ_ _ _ _=>(Dc Fi hr (Aa (pv 0) (Aa (pv 1) (Aa (pv 2) Ac)))))) Ac)) (Ed (BR jF hr (Aa (pv 0) Ac))))))),?_⟩
 show let R0:TS:=_;Ao _ R0 _ _ _;intro R0;rcases h with⟨a,ns,lo,hi,l,h,rfl,ha,hp,h100,h1,h2,h3,q⟩|⟨a,rfl,ha,q⟩;rotate_left 1
 ·refine⟨_,rq,_,rq,_,rq,.ref a,1,30,rq,Ga ha,_,rq,?_⟩;rw[Cr ha,DG (by show (1:Int)<=1;decide) (by show (1:Int)<=30;decide)];refine Cj ⟨_,rq,a,rq,⟨_,SqT.of ha⟩,λl2 hl2=>?_⟩;refine lY (r:=[some (.int 1),some (.int 99)]) [false] rfl hl2 ha (by decide) (λi x b HH hx hb s1 R hR=>?_) (λH' e s1=>?_)
  ·match i,hx,hb with
   | 0,hx,hb=>
    cases hx;cases hb;exact⟨_,rq,_,rq,_,rq,100,1,99,rq,hR _ (Same.refl _)⟩
   | n+1,hx,_=>cases hx
  ·exact⟨l2,[false],rq,SqL.of e,_,rq,Cj (q _ s1)⟩
 have hlen:(ns.map V.int).length=ns.length:=QbM ..;refine⟨_,rq,_,rq,_,rq,.ref a,lo,hi,rq,Ga ha,_,rq,?_⟩;rw[Cr ha,DG (by rw[hlen];exact h1) (by rw[hlen];exact h2)];refine Cj ⟨_,rq,a,rq,⟨_,SqT.of ha⟩,λl2 hl2=>?_⟩;refine M9 (r:=[some (.int l),some (.int h)]) hl2 ha (by omega) (λi x HH hx s1 R hR=>?_) (λH' e s1=>?_)
 ·rw[Qbq] at hx;obtain⟨n1,hn1,rfl⟩:=QaD.mp hx;refine⟨_,rq,_,rq,_,rq,n1,l,h,rq,?_⟩;rw[Qcd (h3 n1 (QaK hn1))];exact hR _ (Same.refl _)
 ·refine⟨l2,List.replicate (ns.map V.int).length true,rq,SqL.of e,_,rq,?_⟩;rw[Wv];exact BK ⟨_,rq,a,ns,rq,s1 _ _ ha,hp,h100,λH2 s2=>q _ (s1.trans s2)⟩
theorem fC (C:Code K mg "is_device" Qv Ij) (T:Ty K mg op oe kd wk) (Fi:Good P w K mg base "is_within" 2 Fe JL):Good P w K mg base "is_device" 3 Ij Xc:=by
 refine C.good cY (λvs H Q E h=>?_) (λf cdv A outer s H vs Q E hr h=>?_)
 ·obtain⟨k,x,rfl,_⟩:=h;rfl
 obtain⟨k,x,rfl,hk,h1,h2,q⟩:=h;refine⟨_,(Ag (Ay (Fq (Gx Tj (pv 0) (Te rfl T.KINDS) (by with_unfolding_all rfl)) (Ed (Dc Fi hr (Aa (pv 1) (Aa Af (Aa Af Ac)))))))),?_⟩;refine⟨_,rq,kd,_,rq,.inr (T.kdT H),rq,rq,_,rq,?_⟩;rw[if_neg Qba,BG hk];refine BK ⟨_,rq,x,1,99,rq,?_⟩;rw[Qcd ⟨h1,h2⟩];exact q
theorem Vi (C:Code K mg "is_spur_device" JN Gh) (T:Ty K mg op oe kd wk) (CJ:Good P w K mg base "is_row" 1 DX G4) (QL:Good P w K mg base "is_device" 3 Ij Xc):Good P w K mg base "is_spur_device" 4 Gh VF:=by
 refine C.good Vh (λvs H Q E h=>?_) (λf cdv A outer s H vs Q E hr h=>?_)
 ·obtain⟨v,d,rfl,_⟩:=h;rfl
 obtain⟨v,d,rfl,⟨t,rfl,ht⟩,hk,h1,h2,q⟩:=h;refine⟨_,(Ag (Ay (Fq (Dc CJ hr (Aa (pv 0) (Aa Af (Aa Af Ac)))) (Ed (Cm QL hr (Aa (Bm Ca (pv 0) Af (λ_ _=>rfl)) (Aa (Bm Ca (pv 0) Af (λ_ _=>rfl)) Ac))))))),?_⟩;refine⟨_,rq,.ref t,2,2,rq,Ga ht,_,rq,?_⟩;rw[Cr ht,DG (by show (2:Int)<=2;decide) (by show (2:Int)<=2;decide)];exact BK ⟨_,rq,t,_,_,_,rq,rq,SqT.of ht,rq,_,rq,t,_,_,_,rq,rq,SqT.of ht,rq,d.kind,d.addr,rq,hk,h1,h2,q⟩
theorem nY (C:Code K mg "is_spur" S5 MK) (T:Ty K mg op oe kd wk) (CJ:Good P w K mg base "is_row" 1 DX G4) (Wk:Good P w K mg base "is_spur_device" 4 Gh VF):Good P w K mg base "is_spur" 5 MK Yh:=by
 refine C.good nA (λvs H Q E h=>?_) (λf cdv A outer s H vs Q E hr h=>?_)
 ·obtain⟨u,ws,ds,rfl,_⟩:=h;rfl
 obtain⟨u,ws,ds,rfl,hu,hd,h3,hk,q⟩:=h;have lw:=Qci hd;refine⟨_,(Ag (Ay (Fq (Dc CJ hr (Aa (pv 0) (Aa Af (Aa Af Ac)))) (Ed (Av (Jg rfl) rfl T.all Nf (Aa (Cw (N':=xh) rfl (Bk.plain rfl (by trivial) (by trivial) (by trivial)) (Fp (pv 0)) (λ_ _ _ _=>(Ai (i:=0) (show List.Nodup (xh:YF) by trivial) rfl (Or.inl rfl))) (λ_ _ _ _=>CZ) (λ_ _ _ _=>(BR Wk hr (Aa (pv 0) Ac)))) Ac)))))),?_⟩;refine⟨_,rq,.ref u,0,3,rq,Ga hu,_,rq,?_⟩;rw[Cr hu,DG (by omega) (by omega)];refine BK ⟨_,rq,u,rq,⟨_,SqT.of hu⟩,λl2 hl2=>?_⟩;refine M9 (r:=[]) hl2 hu (by omega) (λi x HH hx s1 R hR=>?_) (λH' e s1=>?_)
 ·obtain⟨d,hdi,had⟩:=Paired.Cp hd hx;have:=hk d (QaK hdi);exact⟨_,rq,x,d,rq,had.tups (Ak.of s1),this.1,this.2.1,this.2.2,hR _ (Same.refl _)⟩
 ·refine⟨l2,List.replicate ws.length true,rq,SqL.of e,?_⟩;rw[Wv];exact q _ s1
theorem jz (C:Code K mg "is_place" Rr KQ) (T:Ty K mg op oe kd wk) (CJ:Good P w K mg base "is_row" 1 DX G4) (Fi:Good P w K mg base "is_within" 2 Fe JL) (QL:Good P w K mg base "is_device" 3 Ij Xc) (tD:Good P w K mg base "is_spur" 5 MK Yh):Good P w K mg base "is_place" 6 KQ VG:=by
 have sc:=Js;refine C.good Js (λvs H Q E h=>?_) (λf cdv A outer s H vs Q E hr h=>?_)
 ·obtain⟨v,p,rfl,_⟩:=h;rfl
 obtain⟨v,p,rfl,⟨t,u,ws,rfl,ht,hu,hd⟩,⟨ok,bd⟩,q⟩:=h;have lw:=Qci hd;have h3:=ok.spur;refine⟨_,(Ae (Cu (Eb (Dh (Dc CJ hr (Aa (pv 0) (Aa Af (Aa Af Ac)))))) (Ag (Ay DK)) BJ)
 (Ae (Hz (pv 0) (CT rfl (Al (Ai (i:=1) Js.nd rfl (Or.inl rfl)) (Al (Ai (i:=2) Js.nd rfl (Or.inl rfl)) (Al (Ai (i:=3) Js.nd rfl (Or.inl rfl)) Br)))))
 (Ae (Cu (Bx GF (pv 1) Bf (BP _)) (Ag (Ay (Fq (Dc Fi hr (Aa (pv 2) (Aa Af (Aa Af Ac)))) (Ed (Dc CJ hr (Aa (pv 3) (Aa Af (Aa Af Ac)))))))) BJ)
 (Ag (Ay (Fq (Cm QL hr (Aa (pv 1) (Aa (pv 2) Ac))) (Ed (BR tD hr (Aa (pv 3) Ac))))))))),?_⟩
 show let R0:TS:=_;let R1:TS:=_;let R2:TS:=Ao (Jl _ R1 _) R0;let R3:TS:=Ao _ R2;Ao _ R3 _ _ _;intro R0 R1 R2 R3;refine⟨_,rq,.ref t,3,3,rq,Ga ht,_,rq,?_⟩;rw[Cr ht,DG (by show (3:Int)<=3;decide) (by show (3:Int)<=3;decide)];refine Cj ⟨_,rq,t,_,rq,SqT.of ht,rq,_,_,rq,_,_,rq,_,_,rq,rq,?_⟩;refine⟨_,rq,rq,_,rq,?_⟩;rcases ok.form with⟨e1,e2,e3⟩| hk
 ·rw[show decide (V.str p.kind=V.str "opener")=true by rw[e1];rfl];have lw0:ws.length=0:=by rw[lw,e3];rfl
  refine BK ⟨_,rq,p.addr,0,0,rq,_,rq,?_⟩;rw[show decide ((0:Int)<=p.addr/\p.addr<=0)=true by rw[e2];rfl];refine BK ⟨_,rq,.ref u,0,0,rq,Ga hu,?_⟩;rw[Cr hu,DG (by omega) (by omega)];exact q _ (Same.refl _)
 ·have ea:adP p=p.addr::p.spur.map (·.addr):=if_neg (Od hk);rw[ea] at bd;rw[QbR (Od hk)];have b0:=bd p.addr (QaZ ..);refine Cj ⟨_,rq,_,rq,p.kind,p.addr,rq,hk,b0.1,b0.2,_,rq,?_⟩;exact BK ⟨_,rq,u,ws,p.spur,rq,hu,hd,h3,λd hdm=>⟨ok.kinds d hdm,bd d.addr (QaL _ (Qcs.mpr ⟨d,hdm,rq⟩))⟩,q⟩
theorem ou (C:Code K mg "is_loop" S7 MP) (T:Ty K mg op oe kd wk) (CJ:Good P w K mg base "is_row" 1 DX G4) (pH:Good P w K mg base "is_place" 6 KQ VG):Good P w K mg base "is_loop" 7 MP Yo:=by
 refine C.good nF (λvs H Q E h=>?_) (λf cdv A outer s H vs Q E hr h=>?_)
 ·obtain⟨v,ps,rfl,_⟩:=h;rfl
 obtain⟨v,ps,rfl,⟨t,ws,rfl,ht,hd⟩,ok,bd,q⟩:=h;have lw:=Qci hd;have l1:=ok.lo;have l2:=ok.hi;refine⟨_,(Ag (Ay (Fq (Dc CJ hr (Aa (pv 0) (Aa Af (Aa Af Ac)))) (Ed (Av (Jg rfl) rfl T.all Nf (Aa (Cw (N':=xh) rfl (Bk.plain rfl (by trivial) (by trivial) (by trivial)) (Fp (pv 0)) (λ_ _ _ _=>(Ai (i:=0) (show List.Nodup (xh:YF) by trivial) rfl (Or.inl rfl))) (λ_ _ _ _=>CZ) (λ_ _ _ _=>(BR pH hr (Aa (pv 0) Ac)))) Ac)))))),?_⟩;refine⟨_,rq,.ref t,1,12,rq,Ga ht,_,rq,?_⟩;rw[Cr ht,DG (by omega) (by omega)];refine BK ⟨_,rq,t,rq,⟨_,SqT.of ht⟩,λl2 hl2=>?_⟩;refine M9 (r:=[]) hl2 ht (by omega) (λi x HH hx s1 R hR=>?_) (λH' e s1=>?_)
 ·obtain⟨p,hpi,hap⟩:=Paired.Cp hd hx;have hm:=QaK hpi;exact⟨_,rq,x,p,rq,hap.tups (Ak.of s1),⟨ok.ok p hm,λy hy=>bd y (QbJ.mpr ⟨p,hm,hy⟩)⟩,λH2 s2=>hR _ s2⟩
 ·refine⟨l2,List.replicate ws.length true,rq,SqL.of e,?_⟩;rw[Wv];exact q _ s1
theorem fJ (C:Code K mg "are_loops" Qx Im) (T:Ty K mg op oe kd wk) (CJ:Good P w K mg base "is_row" 1 DX G4) (tH:Good P w K mg base "is_loop" 7 MP Yo):Good P w K mg base "are_loops" 8 Im (SJ Rm VJ):=by
 refine C.good dj (λvs H Q E h=>?_) (λf cdv A outer s H vs Q E hr h=>?_)
 ·rcases h with⟨Ls,ws,ja,rfl,_⟩|⟨Ls,ws,rfl,_⟩ <;> rfl
 refine⟨_,(Ag (Ay (Fq (Dc CJ hr (Aa (pv 0) (Aa Af (Aa Af Ac)))) (Ed (Av (Jg rfl) rfl T.all Nf (Aa (Cw (N':=xh) rfl (Bk.plain rfl (by trivial) (by trivial) (by trivial)) (Fp (pv 0)) (λ_ _ _ _=>(Ai (i:=0) (show List.Nodup (xh:YF) by trivial) rfl (Or.inl rfl))) (λ_ _ _ _=>CZ) (λ_ _ _ _=>(BR tH hr (Aa (pv 0) Ac)))) Ac)))))),?_⟩;rcases h with⟨t,ws,ja,rfl,ht,hd,ok,bd,l1,l2,q⟩|⟨t,ws,rfl,ht,hn,q⟩;rotate_left 1
 ·refine⟨_,rq,.ref t,1,3,rq,Ga ht,_,rq,?_⟩;rw[Cr ht,Yz (by omega)];exact Cj q
 have lw:=Qci hd;refine⟨_,rq,.ref t,1,3,rq,Ga ht,_,rq,?_⟩;rw[Cr ht,DG (by omega) (by omega)];refine BK ⟨_,rq,t,rq,⟨_,SqT.of ht⟩,λl2 hl2=>?_⟩;refine M9 (r:=[]) hl2 ht (by omega) (λi x HH hx s1 R hR=>?_) (λH' e s1=>?_)
 ·obtain⟨p,hpi,hap⟩:=Paired.Cp hd hx;have hm:=QaK hpi;exact⟨_,rq,x,p,rq,hap.tups (Ak.of s1),ok p hm,λy hy=>bd y (QbJ.mpr ⟨p,hm,hy⟩),λH2 s2=>hR _ s2⟩
 ·refine⟨l2,List.replicate ws.length true,rq,SqL.of e,?_⟩;rw[Wv];exact q _ s1
theorem nW (C:Code K mg "is_zone" SX MJ) (T:Ty K mg op oe kd wk) (CJ:Good P w K mg base "is_row" 1 DX G4) (tG:Good P w K mg base "is_name" 1 MN Yn) (RW:Good P w K mg base "are_rising_within" 3 Eu (SJ cD cG)):Good P w K mg base "is_zone" 4 MJ (SJ Ye Yg):=by
 refine C.good nj (λvs H Q E h=>?_) (λf cdv A outer s H vs Q E hr h=>?_)
 ·rcases h with⟨v,z,rfl,_⟩|⟨t,rfl,_⟩ <;> rfl
 refine⟨_,(Ag (Ay (Fq (Dc CJ hr (Aa (pv 0) (Aa Af (Aa Af Ac)))) (Fq (BR tG hr (Aa (Bm Ca (pv 0) Af (λ_ _=>rfl)) Ac)) (Ed (DO RW hr (@Aa _ _ _ _ _ (Bm Ca (pv 0) Af (λ_ _=>rfl)) (@Aa _ _ _ _ _ (@Af _ _ _ _) (@Aa _ _ _ _ _ (@Af _ _ _ _) (@Aa _ _ _ _ _ (@Af _ _ _ _) (@Aa _ _ _ _ _ (@Af _ _ _ _) (@Ac _) Bl) Bl) Bl) Bl) C6))))))),?_⟩;rcases h with⟨v,z,rfl,⟨t,u,rfl,ht,hu⟩,ok,q⟩|⟨t,rfl,⟨u,ht,hu⟩,q⟩;rotate_left 1
 ·refine⟨_,rq,.ref t,2,2,rq,Ga ht,_,rq,?_⟩;rw[Cr ht,DG (by show (2:Int)<=2;decide) (by show (2:Int)<=2;decide)];refine BK ⟨_,rq,t,_,_,_,rq,rq,SqT.of ht,rq,"q",rq,by trivial,by trivial,(λc hc=>by
   have e:("q":Str).cps.toList=("q":Str).cps.toList:=rfl;revert hc c
   decide +kernel),λH1 s1=>⟨_,rq,BK ?_⟩⟩
  exact⟨_,rq,t,_,_,_,rq,rq,SqT.of (s1 _ _ ht),rq,.inr ⟨u,rq,s1 _ _ hu,λH2 s2=>q _ (s1.trans s2)⟩⟩
 refine⟨_,rq,.ref t,2,2,rq,Ga ht,_,rq,?_⟩;rw[Cr ht,DG (by show (2:Int)<=2;decide) (by show (2:Int)<=2;decide)];refine BK ⟨_,rq,t,_,_,_,rq,rq,SqT.of ht,rq,z.name,rq,ok.nm.1.1,ok.nm.1.2,ok.nm.2,λH1 s1=>⟨_,rq,BK ?_⟩⟩;have u1:=ok.up.2.1;have u2:=ok.up.2.2;exact⟨_,rq,t,_,_,_,rq,rq,SqT.of (s1 _ _ ht),rq,.inl ⟨u,z.adr,1,30,1,99,rq,s1 _ _ hu,ok.up.1,by omega,by omega,by omega,ok.bd,λH2 s2=>q _ (s1.trans s2)⟩⟩
end
abbrev Iv:Stmt:=top 28
abbrev DN:YF:=Fv
theorem Ci:Az ["plan","seen","spot","kind","address"] DN (Aj Iv):=by ac_rfl
abbrev Ld:Stmt:=top 29
abbrev G9:YF:=Fv
theorem Gy:Az ["plan","loop","number","spots"] G9 (Aj Ld):=by ac_rfl
abbrev Jc:Stmt:=top 30
abbrev Fw:YF:=Fv
theorem DP:Az ["plan","warners","name","addresses","address"] Fw (Aj Jc):=by ac_rfl
abbrev JR:Stmt:=top 31
abbrev Gi:YF:=Fv
theorem Em:Az ["plan","seen","name","addresses","address"] Gi (Aj JR):=by ac_rfl
abbrev Us:Stmt:=top 32
abbrev Kf:YF:=Fv
theorem cV:Az Fv Kf (Aj Us):=by ac_rfl
abbrev LR:Stmt:=top 33
abbrev Gf:YF:=GD
theorem SN:Az GD Gf (Aj LR):=by ac_rfl
inductive Jb (vs:YG) (H:Hp) (Q:VK) (E:XK):Prop
 | mk (pl most ja jp) (_:vs=[.ref pl]) (_:FQ H pl most ja jp) (_:∀H',Same H H'->Q .non H'):Jb vs H Q E
def GJ {α : Type} (f:α->Key) (xs:List α):YM:=xs.map λx=>(f x,V.bl true)
theorem Qg {α : Type} {f:α->Key} {k:Key}:∀{xs:List α},(∀x∈xs,f x≠k)->Di (GJ f xs) k=none
 | [],_=>rfl
 | x::r,h=>by
  have:GJ f (x::r)=(f x,V.bl true)::GJ f r:=rfl;rw[this,GK (p:=(f x,V.bl true)) (h x (QaZ ..))];exact Qg λy hy=>h y (QaL _ hy)
theorem Ko {α : Type} (f:α->Key) (xs:List α):(GJ f xs).length=xs.length:=QbM ..
theorem M6 {α : Type} {f:α->Key} {xs:List α} {x:α} (h:∀y∈xs,f y≠f x):putK (GJ f xs) (f x) (.bl true)=GJ f (xs++[x]):=by
 rw[Lg _ (Qg h)];unfold GJ;rw[QbN];rfl
theorem Uy {α : Type} {l:List α} (h:l.Nodup) {i:Nat} {x:α} (hx:l[i]?=some x):∀y∈l.take i,y≠x:=λy hy e=>by
 subst e;obtain⟨j,hj⟩:=QaO hy;rw[List.getElem?_take] at hj;split at hj
 ·rename_i hji;obtain⟨h1,e1⟩:=Qai.mp hj;obtain⟨h2,e2⟩:=Qai.mp hx;have:=Qam.mp h j i h1 h2 hji;exact this (by rw[e1,e2])
 ·cases hj
theorem Jx {α β : Type} {f:α->β} {l:List α} (h:(l.map f).Nodup) {i:Nat} {x:α} (hx:l[i]?=some x):∀y∈l.take i,f y≠f x:=λy hy e=>by
 have:=Uy h (i:=i) (x:=f x) (by rw[Qbq,hx];rfl) (f y) (by rw[<-List.map_take];exact Qcs.mpr ⟨y,hy,rq⟩);exact this e
theorem j7 {lp:Int} {ps:List Place}:∀i,i<=ps.length->(stP lp ps i).1.map (λz=>(z.length:Int))=(pst (ps.take i)).1/\((stP lp ps i).2.length:Int)=(pst (ps.take i)).2
 | 0,_=>⟨rfl,rfl⟩
 | i+1,h=>by
  have hi:ps[i]?=some ps[i]:=Qao (by omega);obtain⟨h1,h2⟩:=j7 (lp:=lp) (ps:=ps) i (by omega);rw[QcM hi,dW];unfold ptS;by_cases k:V.str ps[i].kind=V.str "opener"
  ·rw[WW hi k,if_pos k];refine⟨?_,rq⟩;rw[QbN,h1,<-h2];rfl
  ·rw[Um hi k,if_neg k];refine⟨h1,?_⟩;show (((stP lp ps i).2++(Cg lp ((1+i:Nat):Int) ps[i]).map Sd.spot).length:Int)=_;rw[QaY,QbM,<-h2];have:(Cg lp ((1+i:Nat):Int) ps[i]).length=1+ps[i].spur.length:=by
    unfold Cg;rw[if_neg k,QbC,Nr];omega
   rw[this];push_cast;omega
theorem vZ {lp:Int} {ps:List Place}:∀z∈(stP lp ps ps.length).1++[(stP lp ps ps.length).2],(z.length:Int)∈Iz ps:=λz hz=>by
 obtain⟨h1,h2⟩:=j7 (lp:=lp) (ps:=ps) ps.length (QcD _);rw[QbB] at h1 h2;unfold Iz;rw[<-h1,<-h2];rcases QbO.mp hz with h | h
 ·exact QaM _ (Qcs.mpr ⟨z,h,rq⟩)
 ·have:z=(stP lp ps ps.length).2:=by simpa using h
  rw[this];exact QaE _ (Qbf.mpr rfl)
theorem yK {jp:List Zone} (h:∀z∈jp,z.adr.length<=30):(jp.flatMap (·.adr)).length<=30*jp.length:=by
 induction jp with
 | nil=>exact QcD _
 | cons a r ih=>
  have h1:=ih λz hz=>h z (QaL _ hz);have h2:=h a (QaZ ..);rw[Qbu,QaY,QbC];omega
theorem yJ {a b:List Zone} (h:a.Sublist b):(a.flatMap (·.adr)).Sublist (b.flatMap (·.adr)):=by
 induction h with
 | slnil=>exact .slnil
 | cons x _ ih=>rw[Qbu];exact List.Sublist.trans ih (List.sublist_append_right _ _)
 | cons_cons x _ ih=>rw[Qbu,Qbu];exact List.Sublist.append_left ih _
theorem ZK (lp a:Int):∀(n:Nat) (ds:List Dev) (d:Dev),d∈ds->∃z∈Ej lp a n ds,z.kind=d.kind/\z.addr=d.addr
 | _,[],d,h=>by cases h
 | n,x::r,d,h=>by
  rcases Qcj.mp h with rfl | h
  ·exact⟨_,QaZ ..,rq,rq⟩
  ·obtain⟨z,h1,h2⟩:=ZK lp a (n+1) r d h;exact⟨z,QaL _ h1,h2⟩
theorem JC {α : Type} {f:Nat->List α} {x:α} {i:Nat} (h:x∈f i):∀{n:Nat},i < n->x∈up f n
 | 0,hn=>by omega
 | n+1,hn=>by
  rw[Ea];by_cases e:i=n
  ·subst e;exact QaE _ h
  ·exact QaM _ (JC h (by omega))
theorem AB {ja:YU} (h:Ei ja) {x:Int} (hx:x∈Gb ja):∃z∈(up (pdL ja) ja.length).filter (λz=>FT z.kind),z.addr=x:=by
 obtain⟨ps,hps,hx⟩:=QbJ.mp hx;obtain⟨p,hp,hx⟩:=QbJ.mp hx;obtain⟨d,hd,rfl⟩:=Qcs.mp hx;obtain⟨hd,hw⟩:=QbU.mp hd;obtain⟨k,hk⟩:=QaO hps;obtain⟨i,hi⟩:=QaO hp;have hkl:=(Qai.mp hk).1;have hil:=(Qai.mp hi).1;have hop:¬V.str p.kind=V.str "opener":=by
  rcases ((h.ok ps hps).ok p hp).form with⟨e1,e2,e3⟩| hk
  ·have:d=⟨p.kind,p.addr⟩:=by
    unfold Gq at hd;rw[e3] at hd;simpa using hd
   rw[this] at hw;have hw:FT p.kind=true:=hw;rw[e1] at hw;exact absurd hw (by trivial)
  ·exact Od hk
 have key:∃z∈Cg (k:Int) ((1+i:Nat):Int) p,z.kind=d.kind/\z.addr=d.addr:=by
  unfold Cg;rw[if_neg hop];unfold Gq at hd;rcases Qcj.mp hd with rfl | hd
  ·exact⟨_,QaZ ..,rq,rq⟩
  ·obtain⟨z,h1,h2⟩:=ZK (k:Int) ((1+i:Nat):Int) 1 p.spur d hd;exact⟨z,QaL _ h1,h2⟩
 obtain⟨z,hz,e1,e2⟩:=key;refine⟨z,QbU.mpr ⟨JC (i:=k) ?_ hkl,by show FT z.kind=true;rw[e1];exact hw⟩,e2⟩;unfold pdL;rw[CQ hk];refine JC (i:=i) ?_ hil;unfold pd1;rw[CQ hi];exact hz
section
variable {P:Program} {w:World} {K:YD} {mg:YB} {base:Heap} {op oe kd wk:Addr}
abbrev xw:YF:=["name","addresses"]
theorem fG (C:Code K mg "are_zones" Qw Il) (T:Ty K mg op oe kd wk) (CJ:Good P w K mg base "is_row" 1 DX G4) (sW:Good P w K mg base "is_zone" 4 MJ (SJ Ye Yg)):Good P w K mg base "are_zones" 5 Il (SJ Rk VD):=by
 refine C.good dg (λvs H Q E h=>?_) (λf cdv A outer s H vs Q E hr h=>?_)
 ·rcases h with⟨zs,ws,jp,rfl,_⟩|⟨zs,ws,jp,tz,rfl,_⟩ <;> rfl
 refine⟨_,(Ae (Cu (PW.pt (Mf (Eb (Dh (Dc CJ hr (Aa (pv 0) (Aa Af (Aa Af Ac)))))) (Mu (Eb (Dh (Av (Jg rfl) rfl T.all Nf (Aa (Cw (N':=xh) rfl (Bk.plain rfl (by trivial) (by trivial) (by trivial)) (Fp (pv 0)) (λ_ _ _ _=>(Ai (i:=0) (show List.Nodup (xh:YF) by trivial) rfl (Or.inl rfl))) (λ_ _ _ _=>CZ) (λ_ _ _ _=>(BR sW hr (Aa (pv 0) Ac)))) Ac))))))) (Ag (Ay DK)) BJ)
 (Ag (Ay (Gx GF (Av uy rfl T.len CV (Aa (vY (N':=xw) rfl (Bk.plain rfl (by trivial) (by trivial) (by trivial)) (Fp (pv 0)) (λ_ _ _ _=>(Ih (K:=K) (n:=2) rfl rfl (Al (Ai (i:=0) (show List.Nodup (xw:YF) by trivial) rfl (Or.inl rfl)) (Al (Ai (i:=1) (show List.Nodup (xw:YF) by trivial) rfl (Or.inl rfl)) Br)))) (λ_ _ _ _=>CZ) (λ_ _ _ _=>(pv 0)) (λ_ _ _ _=>DK)) Ac)) (Av Bj rfl T.len CV (Aa (pv 0) Ac)) (BP _))))),?_⟩
 show let R0:TS:=_;Ao _ R0 _ _ _;intro R0;rcases h with⟨t,ws,jp,rfl,ht,hd,ok,l8,nd,q⟩|⟨t,ws,jp,tz,rfl,ht,hd,ok,l7,bz,q⟩;rotate_left 1
 ·have lw:=Qci hd;have ll:(ws++[V.ref tz]).length=ws.length+1:=by rw[QaY];rfl
  refine⟨_,rq,.ref t,0,8,rq,Ga ht,_,rq,?_⟩;by_cases h9:ws.length=8
  ·rw[Cr ht,Yz (by omega)];exact BK (BK (q _ (Same.refl _)))
  rw[Cr ht,DG (by omega) (by omega)];refine Cj ⟨_,rq,t,rq,⟨_,SqT.of ht⟩,λl2 hl2=>?_⟩;refine lY (r:=[]) (List.replicate ws.length true++[false]) (by simp) hl2 ht (by omega) (λi x b HH hx hb s1 R hR=>?_) (λH' e s1=>?_)
  ·by_cases hi:i < ws.length
   ·rw[Qak hi] at hx;rw[Qak (by rw[QaJ];exact hi),List.getElem?_replicate,if_pos hi] at hb;cases hb;obtain⟨z,hzi,haz⟩:=Paired.Cp hd hx;exact⟨_,rq,.inl ⟨x,z,rq,haz.tups (Ak.of s1),ok z (QaK hzi),λH2 s2=>hR _ s2⟩⟩
   ·have h2:=(Qai.mp hx).1;have e:i=ws.length:=by omega
    subst e;rw[Qah (QcD _),Nat.sub_self] at hx;rw[Qah (by rw[QaJ];exact QcD _),QaJ,Nat.sub_self] at hb;cases hx;cases hb;exact⟨_,rq,.inr ⟨tz,rq,bz.tups (Ak.of s1),λH2 s2=>hR _ s2⟩⟩
  ·refine⟨l2,List.replicate ws.length true++[false],rq,SqL.of e,_,rq,?_⟩;rw[show (List.replicate ws.length true++[false]).all id=false by simp];exact BK (q _ s1)
 have lw:=Qci hd;refine⟨_,rq,.ref t,0,8,rq,Ga ht,_,rq,?_⟩;rw[Cr ht,DG (by omega) (by omega)];refine Cj ⟨_,rq,t,rq,⟨_,SqT.of ht⟩,λl2 hl2=>?_⟩;refine M9 (r:=[]) hl2 ht (by omega) (λi x HH hx s1 R hR=>?_) (λH' e s1=>?_)
 ·obtain⟨z,hzi,haz⟩:=Paired.Cp hd hx;exact⟨_,rq,.inl ⟨x,z,rq,haz.tups (Ak.of s1),ok z (QaK hzi),λH2 s2=>hR _ s2⟩⟩
 refine⟨l2,List.replicate ws.length true,rq,SqL.of e,_,rq,?_⟩;rw[Wv];have ht1:=s1 _ _ ht;refine Cj ⟨_,rq,t,rq,⟨_,SqT.of ht1⟩,λl hl=>?_⟩;let J0:YN:=λi U HH=>∃u1 u2,U=[u1,u2]/\HH l=some (.dK (GJ (λz:Zone=>Sum.inr z.name) (jp.take i)))/\Same H' HH;refine uf (xs:=ws) J0 ⟨_,_,rq,Ab,Ad hl _⟩ (λi U HH _ h=>?_) (λi x U HH hx h=>?_) (fun U HH h=>?_)
 ·obtain⟨u1,u2,rfl,e1,e2⟩:=h;exact SqT.of (e2 _ _ ht1)
 ·obtain⟨u1,u2,rfl,e1,e2⟩:=h;obtain⟨z,hzi,tz,uz,rfl,h1,h2⟩:=Paired.Cp hd hx;refine⟨tz,_,rq,SqT.of (e2 _ _ (s1 _ _ h1)),rq,_,_,rq,_,_,rq,rq,?_⟩;refine BK ⟨_,rq,_,Sum.inr z.name,e1,rq,Am (by rw[Ko,QbD];omega),_,_,rq,?_,e2.Bp Ah.upd hl⟩;rw[Ab,M6 (f:=λz:Zone=>Sum.inr z.name) (x:=z),QcM hzi];exact λy hy e=>Jx nd hzi y hy (Sum.inr.inj e)
 ·obtain⟨u1,u2,rfl,e1,e2⟩:=h;rw[lw,QbB] at e1;refine⟨l,_,rq,e1,_,rq,t,_,rq,.inr (SqT.of (e2 _ _ ht1)),rq,?_⟩;rw[Ko,lw];have:decide (V.int (jp.length:Int)=V.int (jp.length:Int))=true:=Qcd rfl;rw[this];exact q _ (s1.trans e2)
theorem nZ (C:Code K mg "is_plan" Qc Hr) (T:Ty K mg op oe kd wk) (CJ:Good P w K mg base "is_row" 1 DX G4) (Fi:Good P w K mg base "is_within" 2 Fe JL) (QS:Good P w K mg base "are_loops" 8 Im Rm) (QM:Good P w K mg base "are_zones" 5 Il Rk) (Ef:Good P w K mg base "devices" 2 Fv Nt):Good P w K mg base "is_plan" 9 Hr QX:=by
 have sc:=Fd;refine C.good Fd (λvs H Q E h=>?_) (λf cdv A outer s H vs Q E hr h=>?_)
 ·obtain⟨pl,most,ja,jp,rfl,_⟩:=h;rfl
 obtain⟨pl,most,ja,jp,rfl,pa,q⟩:=h;obtain⟨Ls,zs,ws,zvs,e1,e2,e3,e4,e5⟩:=pa.at_;refine⟨_,(Ae (Cu (Eb (Dh (Dc CJ hr (Aa (pv 0) (Aa Af (Aa Af Ac)))))) (Ag (Ay DK)) BJ)
 (Ae (Hz (pv 0) (CT rfl (Al (Ai (i:=1) Fd.nd rfl (Or.inl rfl)) (Al (Ai (i:=2) Fd.nd rfl (Or.inl rfl)) (Al (Ai (i:=3) Fd.nd rfl (Or.inl rfl)) Br)))))
 (Ae (Cu (PW.pt (Mf (Eb (Dh (Dc Fi hr (Aa (pv 1) (Aa Af (Aa Af Ac)))))) (Mf (Eb (Dh (BR QS hr (Aa (pv 2) Ac)))) (Mu (Eb (Dh (BR QM hr (Aa (pv 3) Ac)))))))) (Ag (Ay DK)) BJ)
 (Ag (Ay (O2 Mg Mg Af (Av Bj rfl T.len CV (Aa (BR Ef hr (Aa (pv 0) Ac)) Ac)) Af)))))),?_⟩
 show let R0:TS:=_;let R1:TS:=Ao _ R0;let R2:TS:=Ao _ R1;Ao _ R2 _ _ _;intro R0 R1 R2;refine⟨_,rq,.ref pl,3,3,rq,Ga e1,_,rq,?_⟩;rw[Cr e1,DG (by show (3:Int)<=3;decide) (by show (3:Int)<=3;decide)];refine Cj ⟨_,rq,pl,_,rq,SqT.of e1,rq,_,_,rq,_,_,rq,_,_,rq,rq,?_⟩;refine⟨_,rq,most,1,30,rq,_,rq,?_⟩;rw[Qcd pa.pok.mo];refine Cj ⟨_,rq,Ls,ws,ja,rq,e2,e3,pa.ok.ok,pa.pok.bd,pa.lo,pa.ok.hi,λH1 s1=>⟨_,rq,Cj ?_⟩⟩;refine⟨_,rq,zs,zvs,jp,rq,s1 _ _ e4,Paired.Aw e5 λ_ _ z=>z.tups (Ak.of s1),λz hz=>⟨pa.pok.znm z hz,pa.pok.zup z hz,λx hx=>pa.pok.bd x (vf pa.ok (pa.pok.zin z hz x hx))⟩,pa.pok.Cl,pa.pok.zdi,λH2 s2=>⟨_,rq,Cj ?_⟩⟩;have s12:=s1.trans s2;refine⟨_,rq,pl,ja,rq,(pa.same s12).plan,pa.ok,λl xs H3 hl hx hp s3=>?_⟩;have lx:=Qci hp;have la:(up (pdL ja) ja.length).length=(CP ja).length:=by rw[<-Jf ja,QbM]
 have c1:=pa.pok.cnt.1;have c2:=pa.pok.cnt.2;refine⟨l,_,rq,.inl (SqL.of hx),_,_,rq,rq,_,rq,?_⟩;have g1:decide ((1:Int)<=(xs.length:Int))=true:=Qcd (by omega);rw[g1];refine BK ⟨_,_,rq,rq,?_⟩;have g2:decide ((xs.length:Int)<=30)=true:=Qcd (by omega);show Q (.bl (decide ((xs.length:Int)<=30))) H3;rw[g2];exact q _ (s12.trans s3)
theorem Wc (C:Code K mg "address_twice" Iv DN) (T:Ty K mg op oe kd wk) (Ef:Good P w K mg base "devices" 2 Fv Nt):Good P w K mg base "address_twice" 3 DN Jb:=by
 have sc:=Ci;refine C.good Ci (λvs H Q E h=>?_) (λf cdv A outer s H vs Q E hr h=>?_)
 ·obtain⟨pl,most,ja,jp,rfl,_⟩:=h;rfl
 obtain⟨pl,most,ja,jp,rfl,pa,q⟩:=h;refine⟨_,(Ae (Ba (i:=1) Ci.nd rfl (Or.inl rfl) V8)
 (Ae (Ck QbQ rfl (CW (BR Ef hr (Aa (pv 0) Ac))) (CT rfl (Al (Ai (i:=2) Ci.nd rfl (Or.inl rfl)) (Al (Ai (i:=3) Ci.nd rfl (Or.inl rfl)) (Al (Ai (i:=4) Ci.nd rfl (Or.inl rfl)) Br))))
 (Ae (Cu (Mv (Ti (CK hr) (pv 4) (pv 1))) (Ag (Ay (Bd (Aa Bf (Aa (pv 4) Ac))))) BJ)
 (Ag (Lh (CK hr) (pv 1) (pv 4) DK rfl))))
 (Ag (Ay KJ)))),?_⟩
 show let R0:TS:=_;let R1:TS:=Ao (Jl _ R0 _) _;let R2:TS:=Ao (Dm _ _ R1) _;Ao _ R2 _ _ _;intro R0 R1 R2;refine λd hd=>?_;have s0:=Ad hd (.dK []);refine⟨_,rq,pl,ja,rq,(pa.same s0).plan,pa.ok,λl xs H1 hl hx hp s1=>⟨l,rq,⟨_,SqL.of hx⟩,?_⟩⟩;have lx:=Qci hp;have la:(up (pdL ja) ja.length).length=(CP ja).length:=by rw[<-Jf ja,QbM]
 have c2:=pa.pok.cnt.2;have nd:((up (pdL ja) ja.length).map (·.addr)).Nodup:=by rw[Jf];exact pa.pok.nd
 generalize up (pdL ja) ja.length=ds at *;have hd1:H1 d=some (.dK []):=s1 _ _ Ab;have nld:l≠d:=λz=>by rw[z,hd1] at hx;cases hx
 have nt:∀HH:Hp,(∃kvs,HH d=some (.dK kvs))->∀zs,HH d≠some (.tup zs):=λHH ⟨kvs,e⟩ zs z=>by rw[e] at z;cases z
 let J1:YN:=λi U HH=>∃u2 u3 u4,U=[js pl,js d,u2,u3,u4]/\HH d=some (.dK (GJ (λz:Sd=>Sum.inl z.addr) (ds.take i)))/\Ah d H1 HH;refine Pj (xs:=xs) J1 ⟨_,_,_,rq,hd1,Ah.refl d H1⟩ (λi U HH _ h=>?_) (λi x U HH hx' h=>?_) (fun U HH h=>?_)
 ·obtain⟨u2,u3,u4,rfl,e1,e2⟩:=h;exact SqL.of (e2 _ _ hx nld)
 ·obtain⟨u2,u3,u4,rfl,e1,e2⟩:=h;obtain⟨z,hzi,tz,uz,rfl,h1,h2⟩:=Paired.Cp hp hx';have sT:=e2.tup (nt H1 ⟨_,hd1⟩);have fr:∀y∈ds.take i,(Sum.inl y.addr:Key)≠Sum.inl z.addr:=λy hy e=>Jx nd hzi y hy (Sum.inl.inj e);refine⟨tz,_,rq,SqT.of (sT _ _ h1),rq,_,_,rq,_,_,rq,_,_,rq,rq,?_⟩;refine⟨_,rq,_,rq,d,_,rq,Dt.k (k:=Sum.inl z.addr) e1,_,rq,?_⟩;rw[Qg fr];refine Cj ⟨_,rq,_,rq,d,_,rq,LC.k (k:=Sum.inl z.addr) e1 (Am (by rw[Ko,QbD];omega)),_,_,_,rq,?_,e2.trans Ah.upd⟩;rw[Ab,M6 (f:=λz:Sd=>Sum.inl z.addr) (x:=z) fr,QcM hzi]
 ·obtain⟨u2,u3,u4,rfl,e1,e2⟩:=h;exact q _ ((s0.trans s1).Bp e2 hd)
theorem RV (C:Code K mg "address_stranger" Jc Fw) (T:Ty K mg op oe kd wk) (Ef:Good P w K mg base "devices" 2 Fv Nt):Good P w K mg base "address_stranger" 3 Fw Jb:=by
 have sc:=DP;refine C.good DP (λvs H Q E h=>?_) (λf cdv A outer s H vs Q E hr h=>?_)
 ·obtain⟨pl,most,ja,jp,rfl,_⟩:=h;rfl
 obtain⟨pl,most,ja,jp,rfl,pa,q⟩:=h;refine⟨_,(Ae (vP (i:=1) DP.nd rfl (Or.inl rfl) (N':=xf) rfl (Bk.plain rfl (by trivial) (by trivial) (by trivial)) (CW (BR Ef hr (Aa (pv 0) Ac))) (λ_ _ _ _=>(Ih (K:=K) (n:=3) rfl rfl (Al (Ai (i:=0) (show List.Nodup (xf:YF) by trivial) rfl (Or.inl rfl)) (Al (Ai (i:=1) (show List.Nodup (xf:YF) by trivial) rfl (Or.inl rfl)) (Al (Ai (i:=2) (show List.Nodup (xf:YF) by trivial) rfl (Or.inl rfl)) Br))))) (λ_ _ _ _=>(G8 (Bx (Xl (K:=K) rfl) (pv 1) (Te rfl T.WARNING_KINDS) (by with_unfolding_all rfl)))) (λ_ _ _ _=>(pv 2)) (λ_ _ _ _=>DK))
 (Ae (Ck QbQ rfl (Fp (Bm Ca (pv 0) Af (λ_ _=>rfl))) (CT rfl (Al (Ai (i:=2) DP.nd rfl (Or.inl rfl)) (Al (Ai (i:=3) DP.nd rfl (Or.inl rfl)) Br)))
 (Ag (Ck QbQ rfl (Fp (pv 3)) (Ai (i:=4) DP.nd rfl (Or.inl rfl))
 (Ag (Cu (Mv (Tg (CK hr) (pv 4) (pv 1))) (Ag (Ay (Bd (Aa Bf (Aa (pv 2) (Aa (pv 4) Ac)))))) BJ)))))
 (Ag (Ay KJ)))),?_⟩
 show let R0:TS:=_;let R1:TS:=Jl _ R0 _;let R2:TS:=Dm _ _ R1;let R3:TS:=Ao (Dm _ _ R2) _;Ao _ R3 _ _ _;intro R0 R1 R2 R3;refine⟨_,rq,pl,ja,rq,pa.plan,pa.ok,λl xs H1 hl hx hp s1=>⟨l,rq,⟨_,SqL.of hx⟩,λd hd=>?_⟩⟩;have lx:=Qci hp;have la:(up (pdL ja) ja.length).length=(CP ja).length:=by rw[<-Jf ja,QbM]
 have c2:=pa.pok.cnt.2;have nd:((up (pdL ja) ja.length).map (·.addr)).Nodup:=by rw[Jf];exact pa.pok.nd
 have hw:∀x∈Gb ja,∃z∈(up (pdL ja) ja.length).filter (λz=>FT z.kind),z.addr=x:=λx hx=>AB pa.ok hx;generalize up (pdL ja) ja.length=ds at *;have nld:l≠d:=Ax hx hd;let J2:YN:=λi U HH=>∃u2 u3 u4,U=[u2,u3,u4]/\HH d=some (.dK (GJ (λz:Sd=>Sum.inl z.addr) ((ds.take i).filter λz=>FT z.kind)))/\Same H1 HH;refine jJ (xs:=xs) J2 ⟨_,_,_,rq,Ab,Ad hd _⟩ (λi U HH _ h=>?_) (λi x U HH hx' h=>?_) (fun U HH h=>?_)
 ·obtain⟨u2,u3,u4,rfl,e1,e2⟩:=h;exact SqL.of (e2 _ _ hx)
 ·obtain⟨u2,u3,u4,rfl,e1,e2⟩:=h;obtain⟨z,hzi,tz,uz,rfl,h1,h2⟩:=Paired.Cp hp hx';have fr:∀y∈(ds.take i).filter (λz=>FT z.kind),(Sum.inl y.addr:Key)≠Sum.inl z.addr:=λy hy e=>Jx nd hzi y (QbU.mp hy).1 (Sum.inl.inj e);have et:(ds.take (i+1)).filter (λz=>FT z.kind)=(ds.take i).filter (λz=>FT z.kind)++[z].filter (λz=>FT z.kind):=by rw[QcM hzi,Qbj]
  refine⟨tz,_,rq,SqT.of (e2 _ _ h1),rq,_,_,rq,_,_,rq,_,_,rq,rq,?_⟩;refine⟨_,rq,wk,_,rq,.inr (T.wkT HH),rq,rq,_,rq,?_⟩;rw[if_neg Qba];refine Gm (λhc=>?_) (λhc=>?_)
  ·refine⟨_,rq,_,Sum.inl z.addr,e1,rq,Am ?_,_,_,_,rq,?_,e2.Bp Ah.upd hd⟩
   ·rw[Ko];have:=QaH (λz:Sd=>FT z.kind) (ds.take i);rw[QbD] at this;omega
   ·rw[Ab,M6 (f:=λz:Sd=>Sum.inl z.addr) (x:=z) fr,et,show [z].filter (λz=>FT z.kind)=[z] from Qaw (p:=λz:Sd=>FT z.kind) hc]
  ·refine⟨_,_,_,rq,?_,e2⟩;rw[et,show [z].filter (λz=>FT z.kind)=[] from Qav (p:=λz:Sd=>FT z.kind) (by show ¬FT z.kind=true;rw[show FT z.kind=false from hc];decide),QbP]
   exact e1
 obtain⟨u2,u3,u4,rfl,e1,e2⟩:=h;rw[lx,QbB] at e1;have s2:=s1.trans e2;obtain⟨Ls,zs,ws,zvs,f1,f2,f3,f4,f5⟩:=pa.at_;refine⟨_,rq,pl,_,_,_,rq,rq,SqT.of (s2 _ _ f1),rq,zs,rq,⟨_,SqT.of (s2 _ _ f4)⟩,?_⟩;let J3:YN:=λi U HX=>∃u2 u3 u4,U=[js pl,js d,u2,u3,u4]/\HX=HH;refine Kr (xs:=zvs) J3 ⟨_,_,_,rq,rq⟩ (λi U HX _ h=>?_) (λi x U HX hx' h=>?_) (fun U HX h=>?_)
 ·obtain⟨u2,u3,u4,rfl,rfl⟩:=h;exact SqT.of (s2 _ _ f4)
 ·obtain⟨u2,u3,u4,rfl,rfl⟩:=h;obtain⟨z,hzi,tz,uz,rfl,h1,h2⟩:=Paired.Cp f5 hx';refine⟨tz,_,rq,SqT.of (s2 _ _ h1),rq,_,_,rq,_,_,rq,rq,?_⟩;refine⟨_,rq,uz,rq,⟨_,SqT.of (s2 _ _ h2)⟩,?_⟩;let J4:YN:=λi U HY=>∃u4,U=[js pl,js d,some (.str z.name),js uz,u4]/\HY=HX;refine Kr (xs:=z.adr.map V.int) J4 ⟨_,rq,rq⟩ (λi U HY _ h=>?_) (λi x U HY hx2 h=>?_) (fun U HY h=>?_)
  ·obtain⟨u4,rfl,rfl⟩:=h;exact SqT.of (s2 _ _ h2)
  ·obtain⟨u4,rfl,rfl⟩:=h;rw[Qbq] at hx2;obtain⟨n1,hn1,rfl⟩:=QaD.mp hx2;obtain⟨y,hy,ey⟩:=hw n1 (pa.pok.zin z (QaK hzi) n1 (QaK hn1));have hs:(Di (GJ (λz:Sd=>Sum.inl z.addr) (ds.filter λz=>FT z.kind)) (Sum.inl n1)).isSome=true:=by
    rw[<-Oi,List.any_eq_true];exact⟨_,Qcs.mpr ⟨y,hy,rq⟩,Qcd (by show (Sum.inl y.addr:Key)=_;rw[ey])⟩
   refine⟨_,rq,_,rq,d,_,rq,Dt.k (k:=Sum.inl n1) e1,_,rq,?_⟩;rw[hs];exact Cj ⟨_,rq,rq⟩
  ·obtain⟨u4,rfl,rfl⟩:=h;exact⟨_,_,_,rq,rq⟩
 ·obtain⟨u2,u3,u4,rfl,rfl⟩:=h;exact q _ s2
theorem Vl (C:Code K mg "address_shared" JR Gi) (T:Ty K mg op oe kd wk):Good P w K mg base "address_shared" 1 Gi Jb:=by
 have sc:=Em;refine C.good Em (λvs H Q E h=>?_) (λf cdv A outer s H vs Q E hr h=>?_)
 ·obtain⟨pl,most,ja,jp,rfl,_⟩:=h;rfl
 obtain⟨pl,most,ja,jp,rfl,pa,q⟩:=h;refine⟨_,(Ae (Ba (i:=1) Em.nd rfl (Or.inl rfl) V8)
 (Ae (Ck QbQ rfl (Fp (Bm Ca (pv 0) Af (λ_ _=>rfl))) (CT rfl (Al (Ai (i:=2) Em.nd rfl (Or.inl rfl)) (Al (Ai (i:=3) Em.nd rfl (Or.inl rfl)) Br)))
 (Ag (Ck QbQ rfl (Fp (pv 3)) (Ai (i:=4) Em.nd rfl (Or.inl rfl))
 (Ae (Cu (Mv (Ti (CK hr) (pv 4) (pv 1))) (Ag (Ay (Bd (Aa Bf (Aa (pv 2) (Aa (pv 4) Ac)))))) BJ)
 (Ag (Lh (CK hr) (pv 1) (pv 4) DK rfl))))))
 (Ag (Ay KJ)))),?_⟩
 show let R0:TS:=_;let R1:TS:=Ao (Jl _ R0 _) _;let R2:TS:=Dm _ _ R1;let R3:TS:=Ao (Dm _ _ R2) _;Ao _ R3 _ _ _;intro R0 R1 R2 R3;refine λd hd=>?_;have s0:=Ad hd (.dK []);obtain⟨Ls,zs,ws,zvs,f1,f2,f3,f4,f5⟩:=pa.at_;have nd:=pa.pok.znd;have zl:=Qci f5;have c8:=pa.pok.Cl;have OG:∀i,((jp.take i).flatMap (·.adr)).length<=30*(jp.take i).length:=λi=>yK λz hz=>(pa.pok.zup z (List.mem_of_mem_take hz)).2.2;refine⟨_,rq,pl,_,_,_,rq,rq,SqT.of (s0 _ _ f1),rq,zs,rq,⟨_,SqT.of (s0 _ _ f4)⟩,?_⟩;let J5:YN:=λi U HX=>∃u2 u3 u4,U=[js pl,js d,u2,u3,u4]/\HX d=some (.dK (GJ Sum.inl ((jp.take i).flatMap (·.adr))))/\Same H HX;refine Kr (xs:=zvs) J5 ⟨_,_,_,rq,Ab,s0⟩ (λi U HX _ h=>?_) (λi x U HX hx' h=>?_) (fun U HX h=>?_)
 ·obtain⟨u2,u3,u4,rfl,e1,e2⟩:=h;exact SqT.of (e2 _ _ f4)
 ·obtain⟨u2,u3,u4,rfl,e1,e2⟩:=h;obtain⟨z,hzi,tz,uz,rfl,h1,h2⟩:=Paired.Cp f5 hx';have hm:=QaK hzi;refine⟨tz,_,rq,SqT.of (e2 _ _ h1),rq,_,_,rq,_,_,rq,rq,?_⟩;refine⟨_,rq,uz,rq,⟨_,SqT.of (e2 _ _ h2)⟩,?_⟩;have Uf:=(pa.pok.zup z hm).2.2;have hlen:(z.adr.map V.int).length=z.adr.length:=QbM ..;have hsp:(jp.take (i+1)).flatMap (·.adr)=(jp.take i).flatMap (·.adr)++z.adr:=by rw[QcM hzi,QaR];simp
  have ndz:((jp.take i).flatMap (·.adr)++z.adr).Nodup:=by
   rw[<-hsp];exact (yJ (List.take_sublist (i+1) jp)).nodup nd
  have hc:=OG i;have hti:(jp.take i).length<=8:=by rw[QbD];omega
  let J6:YN:=λj U HY=>∃u4,U=[js pl,js d,some (.str z.name),js uz,u4]/\HY d=some (.dK (GJ Sum.inl ((jp.take i).flatMap (·.adr)++z.adr.take j)))/\Same H HY;refine Kr (xs:=z.adr.map V.int) J6 ⟨_,rq,by rw[List.take_zero,QbP];exact e1,e2⟩ (λj U HY _ h=>?_) (λj x U HY hx2 h=>?_) (fun U HY h=>?_)
  ·obtain⟨u4,rfl,_,e⟩:=h;exact SqT.of (e _ _ h2)
  ·obtain⟨u4,rfl,g1,g2⟩:=h;rw[Qbq] at hx2;obtain⟨n1,hn1,rfl⟩:=QaD.mp hx2;have fr:∀y∈(jp.take i).flatMap (·.adr)++z.adr.take j,(Sum.inl y:Key)≠Sum.inl n1:=λy hy e=>by
    have e:=Sum.inl.inj e;subst e;obtain⟨_,n2,n3⟩:=Qbw.mp ndz;rcases QbO.mp hy with h | h
    ·exact n3 y h y (QaK hn1) rfl
    ·exact Uy n2 hn1 y h rfl
   refine⟨_,rq,_,rq,d,_,rq,Dt.k (k:=Sum.inl n1) g1,_,rq,?_⟩;rw[Qg fr];refine Cj ⟨_,rq,_,rq,d,_,rq,LC.k (k:=Sum.inl n1) g1 (Am ?_),_,rq,?_,g2.Bp Ah.upd hd⟩
   ·rw[Ko,QaY,QbD];omega
   ·rw[Ab,M6 (f:=Sum.inl) (x:=n1) fr,QcM hn1,Qbp]
  ·obtain⟨u4,rfl,g1,g2⟩:=h;rw[hlen,QbB,<-hsp] at g1;exact⟨_,_,_,rq,g1,g2⟩
 ·obtain⟨u2,u3,u4,rfl,e1,e2⟩:=h;exact q _ e2
theorem Xn (C:Code K mg "part_crowded" Ld G9) (T:Ty K mg op oe kd wk) (BV:Good P w K mg base "parts" 2 Q0 Yl):Good P w K mg base "part_crowded" 3 G9 Jb:=by
 have sc:=Gy;refine C.good Gy (λvs H Q E h=>?_) (λf cdv A outer s H vs Q E hr h=>?_)
 ·obtain⟨pl,most,ja,jp,rfl,_⟩:=h;rfl
 obtain⟨pl,most,ja,jp,rfl,pa,q⟩:=h;refine⟨_,(Ae (Ck QbQ rfl (Dr rfl T.range (Aa (Av Bj rfl T.len CV (Aa (Bm Ca (pv 0) Af (λ_ _=>rfl)) Ac)) Ac)) (Ai (i:=1) Gy.nd rfl (Or.inl rfl))
 (Ag (Ck QbQ rfl (qO rfl T.enumerate (Cm BV hr (Aa (pv 0) (Aa (pv 1) Ac)))) (CT rfl (Al (Ai (i:=2) Gy.nd rfl (Or.inl rfl)) (Al (Ai (i:=3) Gy.nd rfl (Or.inl rfl)) Br)))
 (Ag (Cu (Bx Ux (Av Bj rfl T.len CV (Aa (pv 3) Ac)) (Bm Ca (pv 0) Af (λ_ _=>rfl)) (BP _)) (Ag (Ay (Bd (Aa Bf (Aa (pv 1) (Aa (pv 2) Ac)))))) BJ)))))
 (Ag (Ay KJ))),?_⟩
 show let R0:TS:=_;let R1:TS:=Jl _ R0 _;let R2:TS:=Dm _ _ R1;Ao (Dm _ _ R2) _ _ _ _;intro R0 R1 R2;obtain⟨Ls,zs,ws,zvs,f1,f2,f3,f4,f5⟩:=pa.at_;have lw:=Qci f3;have l3:=pa.ok.hi;refine⟨_,rq,pl,_,_,_,rq,rq,SqT.of f1,rq,Ls,_,rq,.inr (SqT.of f2),_,rq,by omega,by omega,?_⟩;rw[Qbr];refine Fx (λi U HX=>∃u1 u2 u3,U=[js pl,u1,u2,u3]/\Same H HX) ⟨_,_,_,rq,Same.refl H⟩ (λi U HX hi h=>?_) (fun U HX h=>?_)
 ·obtain⟨u1,u2,u3,rfl,e1⟩:=h;have hwi:ws[i]?=some ws[i]:=Qao hi;obtain⟨ps,hpi,t,vs',ev,ht,hps⟩:=Paired.Cp f3 hwi;have hm:=QaK hpi;have okl:=pa.ok.ok ps hm;refine⟨_,rq,_,rq,pl,Ls,t,_,_,ws,vs',i,ps,?_,e1 _ _ f1,e1 _ _ f2,by rw[hwi,ev],e1 _ _ ht,Paired.Aw hps λ_ _ z=>z.tups (Ak.of e1),okl.ok,okl.hi,λl xs H1 hl hx hp hfr s1=>⟨l,rq,⟨_,SqL.of hx⟩,?_⟩⟩
  ·show [V.ref pl,.int (0+(i:Int))]++[]=_;rw[QcC];rfl
  let J7:YN:=λj U HY=>∃u2 u3,U=[js pl,some (.int (0+(i:Int))),u2,u3]/\Same H1 HY;refine tL (xs:=xs) (lo:=0) J7 ⟨_,_,rq,Same.refl H1⟩ (λj U HY _ h=>?_) (λj x p U HY hx' h hp'=>?_) (fun U HY h=>?_)
  ·obtain⟨u2,u3,rfl,g1⟩:=h;exact SqL.of (g1 _ _ hx)
  ·obtain⟨u2,u3,rfl,g1⟩:=h;obtain⟨sps,hsi,qq,ys,rfl,hq1,hq2⟩:=Paired.Cp hp hx';have ly:=Qci hq2;have s2:=Ad hp' (.tup [.int ((0+j:Nat):Int),.ref qq]);have g2:=g1.trans s2;have hfew:(sps.length:Int)<=most:=pa.pok.few ps hm _ (vZ (lp:=i) sps (QaK hsi));refine⟨p,_,rq,SqT.of Ab,rq,_,_,rq,_,_,rq,rq,?_⟩;refine⟨_,rq,qq,_,rq,.inl (SqL.of (g2 _ _ hq1)),_,rq,pl,_,_,_,rq,rq,SqT.of (g2 _ _ (s1 _ _ (e1 _ _ f1))),rq,_,_,rq,rq,_,rq,?_⟩;have hg:decide ((ys.length:Int) > most)=false:=QbR (by omega);rw[show decide (most < (ys.length:Int))=false from hg]
   exact Cj ⟨_,_,rq,g2⟩
  ·obtain⟨u2,u3,rfl,g1⟩:=h;exact⟨_,_,_,rq,e1.trans (s1.trans g1)⟩
 ·obtain⟨u1,u2,u3,rfl,e1⟩:=h;exact q _ e1
theorem wg (C:Code K mg "wrong" Us Kf) (T:Ty K mg op oe kd wk) (K3:Good P w K mg base "address_twice" 3 DN Jb) (Zg:Good P w K mg base "part_crowded" 3 G9 Jb) (TV:Good P w K mg base "address_stranger" 3 Fw Jb) (Wn:Good P w K mg base "address_shared" 1 Gi Jb):Good P w K mg base "wrong" 4 Kf Jb:=by
 refine C.good cV (λvs H Q E h=>?_) (λf cdv A outer s H vs Q E hr h=>?_)
 ·obtain⟨pl,most,ja,jp,rfl,_⟩:=h;rfl
 obtain⟨pl,most,ja,jp,rfl,pa,q⟩:=h;refine⟨_,(Ag (Ay (eE (BR K3 hr (Aa (pv 0) Ac)) (eE (BR Zg hr (Aa (pv 0) Ac)) (eE (BR TV hr (Aa (pv 0) Ac)) (Ed (BR Wn hr (Aa (pv 0) Ac)))))))),?_⟩;exact⟨_,rq,pl,most,ja,jp,rq,pa,λH1 s1=>⟨rq,_,rq,pl,most,ja,jp,rq,pa.same s1,λH2 s2=>⟨rq,_,rq,pl,most,ja,jp,rq,(pa.same s1).same s2,λH3 s3=>⟨rq,_,rq,pl,most,ja,jp,rq,((pa.same s1).same s2).same s3,λH4 s4=>q _ (s1.trans (s2.trans (s3.trans s4)))⟩⟩⟩⟩
theorem fB (C:Code K mg "is_let_by" LR Gf) (T:Ty K mg op oe kd wk) (TQ:Good P w K mg base "is_plan" 9 Hr QX) (Zf:Good P w K mg base "wrong" 4 Kf Jb):Good P w K mg base "is_let_by" 10 Gf QX:=by
 refine C.good SN (λvs H Q E h=>?_) (λf cdv A outer s H vs Q E hr h=>?_)
 ·obtain⟨pl,most,ja,jp,rfl,_⟩:=h;rfl
 obtain⟨pl,most,ja,jp,rfl,pa,q⟩:=h;refine⟨_,(Ag (Ay (Fq (BR TQ hr (Aa (pv 0) Ac)) (Ed (Gx qR (BR Zf hr (Aa (pv 0) Ac)) KJ (BP _)))))),?_⟩;exact⟨_,rq,pl,most,ja,jp,rq,pa,λH1 s1=>⟨_,rq,BK ⟨_,rq,pl,most,ja,jp,rq,pa.same s1,λH2 s2=>⟨rq,q _ (s1.trans s2)⟩⟩⟩⟩
end
abbrev V2:Stmt:=top 67
abbrev O7:YF:=["_law_e"]
theorem Mr:Az ["_law_e","_law_kinds","_law_names_here"] O7 (Aj V2):=by ac_rfl
structure Er (K:YD) (mg:YB) (hc c0 c1 c2 c3 c4 c5 c6 c7 c8 c9 c10 c11 c12:Addr):Prop where
 ve:mg "ValueError"=none
 jA:mg "HouseError"=some (.ref hc)
 jm:XCl K hc
 lC:mg "NoPlan"=some (.ref c0)
 Bz:mg "NoText"=some (.ref c1)
 oH:mg "NoStretch"=some (.ref c2)
 BA:mg "NoSpot"=some (.ref c3)
 rE:mg "NoOpener"=some (.ref c4)
 oJ:mg "NoAddress"=some (.ref c5)
 wR:mg "NoRules"=some (.ref c6)
 BC:mg "NoHand"=some (.ref c7)
 wU:mg "NoPanel"=some (.ref c8)
 BB:mg "NoLink"=some (.ref c9)
 Ee:mg "NoLog"=some (.ref c10)
 BD:mg "NoDeed"=some (.ref c11)
 D9:mg "NoRow"=some (.ref c12)
structure Knd (K:YD) (hc C:Addr) (cs:List Addr) (j:Nat):Prop where
 xc:XCl K C
 sub:subIn K (.ref C) (.ref hc)=some true
 kit:∀i d,cs[i]?=some d->kitOne K (.ref C) (.ref d)=some (decide (i=j))
 kv:kitOne K (.ref C) (.type "ValueError")=some true
def oV (j:Nat):Str:=(["plan","text","stretch","spot","opener","address","rules","hand","panel","link","log","deed","row"]:YF).getD j ""
def bsl (j:Nat):List Bool:=[decide (0=j),decide (1=j),decide (2=j),decide (3=j),decide (4=j),decide (5=j),decide (6=j),decide (7=j),decide (8=j),decide (9=j),decide (10=j),decide (11=j),decide (12=j)]
theorem uH:∀j,j < 13->(bsl j).countP id=1:=by decide
theorem FR:∀j,j < 13->(bsl j)[j]?=some true:=by decide
theorem FO:∀j,j < 13->∀m,m < j->(bsl j)[m]?=some false:=by decide
theorem wordAt:∀j,j < 13->([.str "plan",.str "text",.str "stretch",.str "spot",.str "opener",.str "address",.str "rules",.str "hand",.str "panel",.str "link",.str "log",.str "deed",.str "row"]:YG)[j]?=some (.str (oV j))
 | 0,_=>rfl
 | 1,_=>rfl
 | 2,_=>rfl
 | 3,_=>rfl
 | 4,_=>rfl
 | 5,_=>rfl
 | 6,_=>rfl
 | 7,_=>rfl
 | 8,_=>rfl
 | 9,_=>rfl
 | 10,_=>rfl
 | 11,_=>rfl
 | 12,_=>rfl
 | n+13,h=>absurd h (by omega)
inductive cM (K:YD) (hc:Addr) (cs:List Addr) (vs:YG) (H:Hp) (Q:VK) (E:XK):Prop
 | mk (e C:Addr) (j:Nat) (_:vs=[.ref e]) (_:H e=some (xo e C)) (_:Knd K hc C cs j) (_:j < 13) (_:∀H',Same H H'->Q (.str (oV j)) H'):cM K hc cs vs H Q E
section
variable {P:Program} {w:World} {K:YD} {mg:YB} {base:Heap} {hc c0 c1 c2 c3 c4 c5 c6 c7 c8 c9 c10 c11 c12:Addr}
theorem A6 (C:Code K mg "_law_kind" V2 O7) (T:Nm mg) (XE:Er K mg hc c0 c1 c2 c3 c4 c5 c6 c7 c8 c9 c10 c11 c12):bL P w K mg base "_law_kind" 1 O7 (cM K hc [c0,c1,c2,c3,c4,c5,c6,c7,c8,c9,c10,c11,c12]):=by
 refine C.IF Mr (λvs H Q E h=>?_) (λf cdv A outer s H vs Q hr h=>?_)
 ·obtain⟨e,C,j,rfl,_⟩:=h;rfl
 obtain⟨e,C,j,rfl,he,k,hj,q⟩:=h;refine⟨_,(@Ae _ _ _ _ _ (@Ba _ _ 1 _ _ _ _ Mr.nd rfl (Or.inl rfl) (BZ (Aa (Av EY rfl T.isinstance Bv (Aa (pv 0) (Aa (Fz (v:=.ref _) rfl XE.lC rfl) Ac))) (Aa (Av EY rfl T.isinstance Bv (Aa (pv 0) (Aa (Fz (v:=.ref _) rfl XE.Bz rfl) Ac))) (Aa (Av EY rfl T.isinstance Bv (Aa (pv 0) (Aa (Fz (v:=.ref _) rfl XE.oH rfl) Ac))) (Aa (Av EY rfl T.isinstance Bv (Aa (pv 0) (Aa (Fz (v:=.ref _) rfl XE.BA rfl) Ac))) Ac))))) (by rfl) (by first | exact .inl rfl | exact .inr rfl))
 (@Ae _ _ _ _ _ (@Ba _ _ 1 _ _ _ _ Mr.nd rfl (Or.inl rfl) (@Bh _ _ _ _ _ _ _ _ qW (pv 1) (BZ (Aa (Av EY rfl T.isinstance Bv (Aa (pv 0) (Aa (Fz (v:=.ref _) rfl XE.rE rfl) Ac))) (Aa (Av EY rfl T.isinstance Bv (Aa (pv 0) (Aa (Fz (v:=.ref _) rfl XE.oJ rfl) Ac))) (Aa (Av EY rfl T.isinstance Bv (Aa (pv 0) (Aa (Fz (v:=.ref _) rfl XE.wR rfl) Ac))) (Aa (Av EY rfl T.isinstance Bv (Aa (pv 0) (Aa (Fz (v:=.ref _) rfl XE.BC rfl) Ac))) Ac)))))) (by rfl) (by first | exact .inl rfl | exact .inr rfl))
 (@Ae _ _ _ _ _ (@Ba _ _ 1 _ _ _ _ Mr.nd rfl (Or.inl rfl) (@Bh _ _ _ _ _ _ _ _ qW (pv 1) (BZ (Aa (Av EY rfl T.isinstance Bv (Aa (pv 0) (Aa (Fz (v:=.ref _) rfl XE.wU rfl) Ac))) (Aa (Av EY rfl T.isinstance Bv (Aa (pv 0) (Aa (Fz (v:=.ref _) rfl XE.BB rfl) Ac))) (Aa (Av EY rfl T.isinstance Bv (Aa (pv 0) (Aa (Fz (v:=.ref _) rfl XE.Ee rfl) Ac))) (Aa (Av EY rfl T.isinstance Bv (Aa (pv 0) (Aa (Fz (v:=.ref _) rfl XE.BD rfl) Ac))) Ac)))))) (by rfl) (by first | exact .inl rfl | exact .inr rfl))
 (@Ae _ _ _ _ _ (Bo (Cy Qat Qap Qaq BX (pv 1) (Aa (Av EY rfl T.isinstance Bv (Aa (pv 0) (Aa (Fz (v:=.ref _) rfl XE.D9 rfl) Ac))) Ac)))
 (@Ae _ _ _ _ _ (@Ba _ _ 2 _ _ _ _ Mr.nd rfl (Or.inl rfl) (@BZ _ _ _ _ (@Aa _ _ _ _ _ (@Bf _ _ _ _) (@Aa _ _ _ _ _ (@Bf _ _ _ _) (@Aa _ _ _ _ _ (@Bf _ _ _ _) (@Aa _ _ _ _ _ (@Bf _ _ _ _) (@Aa _ _ _ _ _ (@Bf _ _ _ _) (@Aa _ _ _ _ _ (@Bf _ _ _ _) (@Aa _ _ _ _ _ (@Bf _ _ _ _) (@Aa _ _ _ _ _ (@Bf _ _ _ _) (@Aa _ _ _ _ _ (@Bf _ _ _ _) (@Aa _ _ _ _ _ (@Bf _ _ _ _) (@Aa _ _ _ _ _ (@Bf _ _ _ _) (@Aa _ _ _ _ _ (@Bf _ _ _ _) (@Ac _) Bl) Bl) Bl) Bl) Bl) Bl) Bl) Bl) Bl) Bl) Bl) Bl)) (by rfl) (by first | exact .inl rfl | exact .inr rfl))
 (@Ae _ _ _ _ _ (Bo (Cy Qat Qap Qaq BX (pv 2) (Aa Bf Ac)))
 (@Ae _ _ _ _ _ (Cu (PW.pt (Mf (Eb (Dh (Av uD rfl T.isinstance Bv (Aa (pv 0) (Aa (QZ (v:=.ty "ValueError") rfl XE.ve PyProof.Rows.Boot.«ValueError» rfl) Ac))))) (Mu (Bx Xk (Cy Qat PySem.F.slot_list_count PySem.F.type_list_count rG (pv 1) (Aa DK Ac)) Af (BP _))))) (@Ag _ _ _ (@Ay _ _ _ _ Bf)) BJ)
 (@Ag _ _ _ (@Ay _ _ _ _ (@Bm _ _ _ _ _ _ _ Dv (pv 2) (Cy Qat PySem.F.slot_list_index PySem.F.type_list_index rF (pv 1) (Aa DK Ac)) (λ_ _=>rfl))))))))))),?_⟩
 show let R0:TS:=_;let R1:TS:=Ao _ R0;let R2:TS:=Ao _ R1;let R3:TS:=Ao _ R2;let R4:TS:=Ao _ R3;let R5:TS:=Ao _ R4;let R6:TS:=Ao _ R5;Ao _ R6 _ _ _;intro R0 R1 R2 R3 R4 R5 R6;refine⟨_,rq,Hh he k.xc (k.kit 0 _ rfl) ⟨_,rq,Hh he k.xc (k.kit 1 _ rfl) ⟨_,rq,Hh he k.xc (k.kit 2 _ rfl) ⟨_,rq,Hh he k.xc (k.kit 3 _ rfl) ⟨Ar (by show 4<=1000;decide),λl1 hl1=>?_⟩⟩⟩⟩⟩;have s1:=Ad hl1 (.lst [V.bl (decide (0=j)),.bl (decide (1=j)),.bl (decide (2=j)),.bl (decide (3=j))]);have e1:upd H l1 (.lst [V.bl (decide (0=j)),.bl (decide (1=j)),.bl (decide (2=j)),.bl (decide (3=j))]) l1=some (.lst [V.bl (decide (0=j)),.bl (decide (1=j)),.bl (decide (2=j)),.bl (decide (3=j))]):=Ab;generalize upd H l1 (.lst [V.bl (decide (0=j)),.bl (decide (1=j)),.bl (decide (2=j)),.bl (decide (3=j))])=H1 at s1 e1 ⊢;have he1:=s1 _ _ he;refine⟨_,rq,⟨_,rq,Hh he1 k.xc (k.kit 4 _ rfl) ⟨_,rq,Hh he1 k.xc (k.kit 5 _ rfl) ⟨_,rq,Hh he1 k.xc (k.kit 6 _ rfl) ⟨_,rq,Hh he1 k.xc (k.kit 7 _ rfl) ⟨Ar (by show 4<=1000;decide),λla hla=>⟨l1,la,_,_,rq,rq,Ad hla _ _ _ e1,Ab,Ar (by show 8<=1000;decide),λlb hlb=>?_⟩⟩⟩⟩⟩⟩⟩;have sa:=Ad hla (.lst [V.bl (decide (4=j)),.bl (decide (5=j)),.bl (decide (6=j)),.bl (decide (7=j))]);have sb:=Ad hlb (.lst ([V.bl (decide (0=j)),.bl (decide (1=j)),.bl (decide (2=j)),.bl (decide (3=j))]++[V.bl (decide (4=j)),.bl (decide (5=j)),.bl (decide (6=j)),.bl (decide (7=j))]));have e2:upd (upd H1 la (.lst [V.bl (decide (4=j)),.bl (decide (5=j)),.bl (decide (6=j)),.bl (decide (7=j))])) lb (.lst ([V.bl (decide (0=j)),.bl (decide (1=j)),.bl (decide (2=j)),.bl (decide (3=j))]++[V.bl (decide (4=j)),.bl (decide (5=j)),.bl (decide (6=j)),.bl (decide (7=j))])) lb=some (.lst ([V.bl (decide (0=j)),.bl (decide (1=j)),.bl (decide (2=j)),.bl (decide (3=j))]++[V.bl (decide (4=j)),.bl (decide (5=j)),.bl (decide (6=j)),.bl (decide (7=j))])):=Ab;have s2:=s1.trans (sa.trans sb);generalize upd (upd H1 la (.lst [V.bl (decide (4=j)),.bl (decide (5=j)),.bl (decide (6=j)),.bl (decide (7=j))])) lb (.lst ([V.bl (decide (0=j)),.bl (decide (1=j)),.bl (decide (2=j)),.bl (decide (3=j))]++[V.bl (decide (4=j)),.bl (decide (5=j)),.bl (decide (6=j)),.bl (decide (7=j))]))=H2 at sb e2 s2 ⊢;have he2:=s2 _ _ he;refine⟨_,rq,⟨_,rq,Hh he2 k.xc (k.kit 8 _ rfl) ⟨_,rq,Hh he2 k.xc (k.kit 9 _ rfl) ⟨_,rq,Hh he2 k.xc (k.kit 10 _ rfl) ⟨_,rq,Hh he2 k.xc (k.kit 11 _ rfl) ⟨Ar (by show 4<=1000;decide),λlc hlc=>⟨lb,lc,_,_,rq,rq,Ad hlc _ _ _ e2,Ab,Ar (by show 12<=1000;decide),λld hld=>?_⟩⟩⟩⟩⟩⟩⟩;have sc:=Ad hlc (.lst [V.bl (decide (8=j)),.bl (decide (9=j)),.bl (decide (10=j)),.bl (decide (11=j))]);have sd:=Ad hld (.lst ([V.bl (decide (0=j)),.bl (decide (1=j)),.bl (decide (2=j)),.bl (decide (3=j))]++[V.bl (decide (4=j)),.bl (decide (5=j)),.bl (decide (6=j)),.bl (decide (7=j))]++[V.bl (decide (8=j)),.bl (decide (9=j)),.bl (decide (10=j)),.bl (decide (11=j))]));have e3:upd (upd H2 lc (.lst [V.bl (decide (8=j)),.bl (decide (9=j)),.bl (decide (10=j)),.bl (decide (11=j))])) ld (.lst ([V.bl (decide (0=j)),.bl (decide (1=j)),.bl (decide (2=j)),.bl (decide (3=j))]++[V.bl (decide (4=j)),.bl (decide (5=j)),.bl (decide (6=j)),.bl (decide (7=j))]++[V.bl (decide (8=j)),.bl (decide (9=j)),.bl (decide (10=j)),.bl (decide (11=j))])) ld=some (.lst ([V.bl (decide (0=j)),.bl (decide (1=j)),.bl (decide (2=j)),.bl (decide (3=j))]++[V.bl (decide (4=j)),.bl (decide (5=j)),.bl (decide (6=j)),.bl (decide (7=j))]++[V.bl (decide (8=j)),.bl (decide (9=j)),.bl (decide (10=j)),.bl (decide (11=j))])):=Ab;have s3:=s2.trans (sc.trans sd);have fd:H ld=none:=s2.free (sc.free hld);generalize upd (upd H2 lc (.lst [V.bl (decide (8=j)),.bl (decide (9=j)),.bl (decide (10=j)),.bl (decide (11=j))])) ld (.lst ([V.bl (decide (0=j)),.bl (decide (1=j)),.bl (decide (2=j)),.bl (decide (3=j))]++[V.bl (decide (4=j)),.bl (decide (5=j)),.bl (decide (6=j)),.bl (decide (7=j))]++[V.bl (decide (8=j)),.bl (decide (9=j)),.bl (decide (10=j)),.bl (decide (11=j))]))=H3 at sd e3 s3 ⊢;have he3:=s3 _ _ he;refine⟨_,rq,.inl ⟨rq,_,SqL.of e3⟩,_,rq,Hh he3 k.xc (k.kit 12 _ rfl) ⟨ld,_,_,rq,rq,e3,Am (by show 12<=1000;decide),?_⟩⟩;have e4:upd H3 ld (.lst ([V.bl (decide (0=j)),.bl (decide (1=j)),.bl (decide (2=j)),.bl (decide (3=j))]++[V.bl (decide (4=j)),.bl (decide (5=j)),.bl (decide (6=j)),.bl (decide (7=j))]++[V.bl (decide (8=j)),.bl (decide (9=j)),.bl (decide (10=j)),.bl (decide (11=j))]++[.bl (decide (12=j))])) ld=some (.lst ((bsl j).map V.bl)):=Ab;have s4:Same H (upd H3 ld (.lst ([V.bl (decide (0=j)),.bl (decide (1=j)),.bl (decide (2=j)),.bl (decide (3=j))]++[V.bl (decide (4=j)),.bl (decide (5=j)),.bl (decide (6=j)),.bl (decide (7=j))]++[V.bl (decide (8=j)),.bl (decide (9=j)),.bl (decide (10=j)),.bl (decide (11=j))]++[.bl (decide (12=j))]))):=s3.Bp Ah.upd fd;generalize upd H3 ld (.lst ([V.bl (decide (0=j)),.bl (decide (1=j)),.bl (decide (2=j)),.bl (decide (3=j))]++[V.bl (decide (4=j)),.bl (decide (5=j)),.bl (decide (6=j)),.bl (decide (7=j))]++[V.bl (decide (8=j)),.bl (decide (9=j)),.bl (decide (10=j)),.bl (decide (11=j))]++[.bl (decide (12=j))]))=H4 at e4 s4 ⊢;have he4:=s4 _ _ he;refine⟨Ar (by show 12<=1000;decide),λln hln=>?_⟩;have nd:ld≠ln:=Ax e4 hln;have fn:H ln=none:=s4.free hln;have s5:=s4.trans (Ad hln (.lst [V.str "plan",.str "text",.str "stretch",.str "spot",.str "opener",.str "address",.str "rules",.str "hand",.str "panel",.str "link",.str "log",.str "deed"]));have e5:=Ad hln (.lst [V.str "plan",.str "text",.str "stretch",.str "spot",.str "opener",.str "address",.str "rules",.str "hand",.str "panel",.str "link",.str "log",.str "deed"]) _ _ e4;refine⟨_,rq,.inl ⟨rq,_,SqL.of Ab⟩,ln,_,_,rq,rq,Ab,Am (by show 12<=1000;decide),?_⟩;generalize upd H4 ln (.lst [V.str "plan",.str "text",.str "stretch",.str "spot",.str "opener",.str "address",.str "rules",.str "hand",.str "panel",.str "link",.str "log",.str "deed"])=H5 at s5 e5 ⊢;have e6:∀o,upd H5 ln o ld=some (.lst ((bsl j).map V.bl)):=λo=>by rw[Aq nd];exact e5
 have s6:∀o,Same H (upd H5 ln o):=λo=>s5.Bp Ah.upd fn;refine⟨_,rq,BH (s6 _ _ _ he) k.xc k.kv ⟨_,rq,Cj ?_⟩⟩;refine⟨_,rq,.inl ⟨rq,_,SqL.of (e6 _)⟩,uo (e6 _) ⟨rq,_,rq,?_⟩⟩;rw[uH j hj];refine HP rfl ?_;refine⟨_,rq,_,rq,.inl ⟨rq,_,SqL.of (e6 _)⟩,rW (e6 _) (by omega) (FR j hj) (FO j hj) ⟨ln,_,_,_,rq,rq,SqL.of Ab,Fb (wordAt j hj),q _ (s6 _)⟩⟩
end
instance:DecidableEq Sp3:=λa b=>if h:a.lp=b.lp/\a.at_=b.at_/\a.n=b.n then isTrue (by cases a;cases b;simp at h;obtain⟨h1,h2,h3⟩:=h;subst h1 h2 h3;rfl) else isFalse λe=>h (by rw[e];exact⟨rfl,rfl,rfl⟩)
def cd3 (s:Sp3):Int:=s.lp*10000+s.at_*100+s.n
structure Bd3 (s:Sp3):Prop where
 l0:0<=s.lp
 l1:s.lp<=2
 a0:0<=s.at_
 a1:s.at_<=12
 n0:0<=s.n
 n1:s.n<=3
theorem Bd3.inj {s t:Sp3} (h:Bd3 s) (k:Bd3 t) (e:cd3 s=cd3 t):s=t:=by
 unfold cd3 at e;have h1:=h.l0;have h2:=h.l1;have h3:=h.a0;have h4:=h.a1;have h5:=h.n0;have h6:=h.n1;have k1:=k.l0;have k2:=k.l1;have k3:=k.a0;have k4:=k.a1;have k5:=k.n0;have k6:=k.n1;cases s;cases t;dsimp only at *;congr 1 <;> omega
theorem Bd3.c3 {s:Sp3} (h:Bd3 s):C3 s.lp s.at_ s.n (cd3 s):=⟨h.a0,by have:=h.a1;omega,h.n0,by have:=h.n1;omega,rfl⟩
theorem La {α : Type} {c:α->Int} {f:Nat->List α} {g:Nat->Int} (hg:∀i,g i<=g (i+1)) (h1:∀i,((f i).map c).Pairwise (· < ·)) (h2:∀i,∀x∈f i,g i<=c x/\c x < g (i+1)):∀n,((up f n).map c).Pairwise (· < ·)/\∀x∈up f n,g 0<=c x/\c x < g n
 | 0=>by rw[N6];exact⟨List.Pairwise.nil,λx h=>by cases h⟩
 | n+1=>by
  obtain⟨a,b⟩:=La hg h1 h2 n;have g0:∀m,g 0<=g m:=λm=>by
   induction m with
   | zero=>exact Int.le_refl _
   | succ m ih=>exact Int.le_trans ih (hg m)
  rw[Ea,QbN];refine⟨List.pairwise_append.mpr ⟨a,h1 n,λx hx y hy=>?_⟩,λx hx=>?_⟩
  ·obtain⟨x',hx',rfl⟩:=Qcs.mp hx;obtain⟨y',hy',rfl⟩:=Qcs.mp hy;have:=b x' hx';have:=h2 n y' hy';omega
  ·rcases QbO.mp hx with h | h
   ·have:=b x h;have:=hg n;omega
   ·have:=h2 n x h;have:=g0 n;omega
theorem nG (k:Int):∀m:Nat,((List.range m).map λn:Nat=>k+(n:Int)).Pairwise (· < ·):=λm=>by
 rw[Qbx];exact List.pairwise_lt_range.imp λ{a b} h=>by omega
theorem Vq (lp a:Int):∀(n:Nat) (ds:List Dev),(Ej lp a n ds).map (λd=>cd3 d.spot)=(List.range' n ds.length).map λj:Nat=>lp*10000+a*100+(j:Int)
 | _,[]=>rfl
 | n,d::r=>by
  rw[QbC,List.range'_succ,Qck,<-Vq lp a (n+1) r];rfl
theorem dY (lp a:Int) (p:Place):((Cg lp a p).map λd=>cd3 d.spot).Pairwise (· < ·):=by
 unfold Cg;split
 ·exact List.Pairwise.nil
 ·rw[Qck,Vq];refine List.pairwise_cons.mpr ⟨λx hx=>?_,?_⟩
  ·obtain⟨j,hj,rfl⟩:=Qcs.mp hx;have:=List.mem_range'_1.mp hj;show lp*10000+a*100+0 < _;omega
  ·rw[Qbx];exact (List.pairwise_lt_range').imp λ{x y} h=>by omega
theorem WY (lp a:Int):∀(n:Nat) (ds:List Dev) (d:Sd),d∈Ej lp a n ds->d.lp=lp/\d.at_=a/\(n:Int)<=d.n/\d.n < (n:Int)+ds.length
 | _,[],d,h=>by cases h
 | n,x::r,d,h=>by
  rcases Qcj.mp h with rfl | h
  ·exact⟨rq,rq,Int.le_refl _,by show (n:Int) < (n:Int)+((r.length+1:Nat):Int);omega⟩
  ·obtain⟨h1,h2,h3,h4⟩:=WY lp a (n+1) r d h;exact⟨h1,h2,by omega,by rw[QbC];omega⟩
theorem QC {lp a:Int} {p:Place} (h:p.spur.length<=3) {d:Sd} (hd:d∈Cg lp a p):d.lp=lp/\d.at_=a/\0<=d.n/\d.n<=3:=by
 unfold Cg at hd;split at hd
 ·cases hd
 ·rcases Qcj.mp hd with rfl | hd
  ·exact⟨rq,rq,Int.le_refl _,by show (0:Int)<=3;decide⟩
  ·obtain⟨h1,h2,h3,h4⟩:=WY lp a 1 p.spur d hd;exact⟨h1,h2,by omega,by omega⟩
theorem FN {α β : Type} {o:Option α} {g:α->List β} {x:β} (h:x∈ifs o g):∃a,o=some a/\x∈g a:=by
 cases o with
 | none=>cases h
 | some a=>exact⟨a,rfl,h⟩
theorem Ew {α : Type} {f:Nat->List α} {x:α}:∀{n:Nat},x∈up f n->∃i,i < n/\x∈f i
 | 0,h=>by rw[N6] at h;cases h
 | n+1,h=>by
  rw[Ea] at h;rcases QbO.mp h with h | h
  ·obtain⟨i,a,b⟩:=Ew h;exact⟨i,by omega,b⟩
  ·exact⟨n,QbH n,h⟩
theorem Lq {α β : Type} {c:β->Int} {o:Option α} {g:α->List β} (h:∀a,o=some a->((g a).map c).Pairwise (· < ·)):((ifs o g).map c).Pairwise (· < ·):=by
 cases o with
 | none=>exact List.Pairwise.nil
 | some a=>exact h a rfl
theorem Zm {ja:YU} (ok:Ei ja) {k:Nat} {d:Sd} (h:d∈pdL ja k):d.lp=(k:Int)/\1<=d.at_/\d.at_<=12/\0<=d.n/\d.n<=3:=by
 obtain⟨ps,hps,h⟩:=FN h;have okl:=ok.ok ps (QaK hps);obtain⟨i,hi,h⟩:=Ew h;obtain⟨p,hp,h⟩:=FN h;obtain⟨h1,h2,h3,h4⟩:=QC (okl.ok p (QaK hp)).spur h;have:=okl.hi;exact⟨h1,by rw[h2];omega,by rw[h2];omega,h3,h4⟩
theorem yQ {ja:YU} (ok:Ei ja):((up (pdL ja) ja.length).map λd=>cd3 d.spot).Pairwise (· < ·):=by
 refine (La (g:=λi=>(i:Int)*10000) (λi=>by omega) (λk=>Lq λps hps=>?_) (λk d hd=>?_) ja.length).1
 ·have okl:=ok.ok ps (QaK hps);refine (La (g:=λi=>(k:Int)*10000+(1+i:Int)*100) (λi=>by omega) (λi=>Lq λp hp=>dY _ _ p) (λi d hd=>?_) ps.length).1;obtain⟨p,hp,hd⟩:=FN hd;obtain⟨h1,h2,h3,h4⟩:=QC (okl.ok p (QaK hp)).spur hd;show (k:Int)*10000+(1+i:Int)*100<=d.lp*10000+d.at_*100+d.n/\d.lp*10000+d.at_*100+d.n < (k:Int)*10000+(1+((i+1:Nat):Int))*100;rw[h1,h2];push_cast;omega
 ·obtain⟨h1,h2,h3,h4,h5⟩:=Zm ok hd;show (k:Int)*10000<=d.lp*10000+d.at_*100+d.n/\d.lp*10000+d.at_*100+d.n < ((k+1:Nat):Int)*10000;rw[h1];push_cast;omega
theorem tW {ja:YU} (ok:Ei ja):∀d∈up (pdL ja) ja.length,Bd3 d.spot:=λd hd=>by
 obtain⟨k,hk,hd⟩:=Ew hd;obtain⟨h1,h2,h3,h4,h5⟩:=Zm ok hd;have:=ok.hi;exact⟨by show 0<=d.lp;omega,by show d.lp<=2;omega,by show 0<=d.at_;omega,h3,h4,h5⟩
theorem kj {lp:Int} {ps:List Place} (ok:OkL ps) {i:Nat} {s:Sp3} (h:s∈st1 lp ps i):s.lp=lp/\s.at_=((1+i:Nat):Int)/\i < ps.length/\0<=s.n/\s.n<=3:=by
 obtain⟨p,hp,h⟩:=FN h;have h3:=(ok.ok p (QaK hp)).spur;obtain⟨n,hn,rfl⟩:=Qcs.mp h;have:=Qcg.mp hn;exact⟨rq,rq,(Qai.mp hp).1,by show (0:Int)<=(n:Int);omega,by show (n:Int)<=3;omega⟩
theorem qt {ja:YU} (ok:Ei ja) {k:Nat} {s:Sp3} (h:s∈stL ja k):s.lp=(k:Int)/\0<=s.at_/\s.at_<=12/\0<=s.n/\s.n<=3:=by
 obtain⟨ps,hps,h⟩:=FN h;have okl:=ok.ok ps (QaK hps);have OF:=okl.hi;rcases Qcj.mp h with rfl | h
 ·exact⟨rq,by show (0:Int)<=0;decide,by show (0:Int)<=12;decide,by show (0:Int)<=0;decide,by show (0:Int)<=3;decide⟩
 ·obtain⟨i,hi,h⟩:=Ew h;obtain⟨h1,h2,h3,h4,h5⟩:=kj okl h;exact⟨h1,by rw[h2];omega,by rw[h2];omega,h4,h5⟩
theorem AI {ja:YU} (ok:Ei ja):((up (stL ja) ja.length).map cd3).Pairwise (· < ·):=by
 refine (La (g:=λi=>(i:Int)*10000) (λi=>by omega) (λk=>Lq λps hps=>?_) (λk d hd=>?_) ja.length).1
 ·have okl:=ok.ok ps (QaK hps);obtain⟨a,b⟩:=La (c:=cd3) (f:=st1 (k:Int) ps) (g:=λi=>(k:Int)*10000+(1+i:Int)*100) (λi=>by omega) (λi=>Lq λp hp=>by
   rw[Qcw];have:=nG ((k:Int)*10000+((1+i:Nat):Int)*100) (p.spur.length+1);exact this) (λi s hs=>by
   obtain⟨h1,h2,h3,h4,h5⟩:=kj okl hs;show (k:Int)*10000+(1+i:Int)*100<=s.lp*10000+s.at_*100+s.n/\s.lp*10000+s.at_*100+s.n < (k:Int)*10000+(1+((i+1:Nat):Int))*100;rw[h1,h2];push_cast;omega) ps.length
  rw[Qck];refine List.pairwise_cons.mpr ⟨λx hx=>?_,a⟩;obtain⟨s,hs,rfl⟩:=Qcs.mp hx;have h0:=(b s hs).1;have h0:(k:Int)*10000+(1+((0:Nat):Int))*100<=cd3 s:=h0;show (k:Int)*10000+0*100+0 < cd3 s;omega
 ·obtain⟨h1,h2,h3,h4,h5⟩:=qt ok hd;show (k:Int)*10000<=d.lp*10000+d.at_*100+d.n/\d.lp*10000+d.at_*100+d.n < ((k+1:Nat):Int)*10000;rw[h1];push_cast;omega
theorem zB {ja:YU} (ok:Ei ja):∀s∈up (stL ja) ja.length,Bd3 s:=λs hs=>by
 obtain⟨k,hk,hs⟩:=Ew hs;obtain⟨h1,h2,h3,h4,h5⟩:=qt ok hs;have:=ok.hi;exact⟨by omega,by omega,h2,h3,h4,h5⟩
theorem YS {α : Type} {c:α->Int} {l:List α} (h:(l.map c).Pairwise (· < ·)):l.Nodup:=by
 rw[Qbx] at h;exact h.imp λ{a b} hab e=>by rw[e] at hab;omega
abbrev Hs:Stmt:=(inClass (top 54) 0)
abbrev Ds:YF:=["self","plan"]
theorem Jm:Az ["self","plan"] Ds (Aj Hs):=by ac_rfl
abbrev G7:Stmt:=(inClass (top 54) 1)
abbrev Dp:YF:=["self","stretch"]
theorem Qs:Az Dp Dp (Aj G7):=by ac_rfl
abbrev Qy:Stmt:=(inClass (top 54) 3)
abbrev Ju:YF:=Dp
theorem dw:Az Dp Ju (Aj Qy):=by ac_rfl
abbrev Nj:Stmt:=(inClass (top 54) 4)
abbrev HN:YF:=Dp
theorem Yu:Az Dp HN (Aj Nj):=by ac_rfl
structure Tw (K:YD) (mg:YB) (op oe kd wk C:Addr):Prop extends Ty K mg op oe kd wk where
 cl:Cls K C
 mgC:mg "Wires"=some (.ref C)
 fP:JB K C "plan"
 Hu:JB K C "states"
 Wf:JB K C "filled"
 Ia:JB K C "gaps"
def ff (pl d1 d2 d3:Addr):List (Str×V):=[("plan",.ref pl),("states",.ref d1),("filled",.ref d2),("gaps",.ref d3)]
abbrev xI:YF:=["plan","states","filled","gaps"]
theorem wQ:(xI:YF).Nodup:=by trivial
section
variable (pl d1 d2 d3:Addr)
theorem fnd:((ff pl d1 d2 d3).map (·.1)).Nodup:=wQ
theorem Hy:List.lookup ("states":Str) (ff pl d1 d2 d3)=some (V.ref d1):=T4 (i:=1) (fnd pl d1 d2 d3) rfl
theorem pD:List.lookup ("filled":Str) (ff pl d1 d2 d3)=some (V.ref d2):=T4 (i:=2) (fnd pl d1 d2 d3) rfl
end
theorem fno {pl d1 d2 d3:Addr} {x:Str} (h:x∉(xI:YF)):(ff pl d1 d2 d3).lookup x=none:=zT h
def k3 (s:Sp3):List Key:=[.inl s.lp,.inl s.at_,.inl s.n]
theorem M7 {s t:Sp3} (h:k3 s=k3 t):s=t:=by
 cases s;cases t;simp[k3] at h;obtain⟨h1,h2,h3⟩:=h;subst h1 h2 h3;rfl
abbrev YR:=List (Sp3×Str)
def stV (hs:YR):YL:=hs.map λx=>(k3 x.1,.str x.2)
theorem jY {α : Type} {f:α->List Key×V}:∀{l:List α} {i:Nat} {x:α},(l.map λy=>(f y).1).Nodup->l[i]?=some x->Di (l.map f) (f x).1=some (f x).2
 | [],_,_,_,h=>by simp at h
 | a::r,0,x,nd,h=>by
  simp at h;subst h;exact IV (p:=f a) rfl
 | a::r,i+1,x,nd,h=>by
  have h:r[i]?=some x:=by simpa using h
  obtain⟨n1,n2⟩:=QbT.mp nd;rw[Qck,GK (p:=f a) (λe=>n1 (by show (f a).1∈_;rw[e];exact Qcs.mpr ⟨x,QaK h,rq⟩))];exact jY n2 h
theorem N5 {κ : Type} [DecidableEq κ]:∀{l:List (κ×V)} {k:κ},(∀x∈l,x.1≠k)->Di l k=none
 | [],_,_=>rfl
 | a::r,k,h=>by rw[GK (h a (QaZ ..))];exact N5 λx hx=>h x (QaL _ hx)
theorem dU {κ : Type} [DecidableEq κ] {l:List (κ×V)} {k:κ} {v:V} (h:∃x∈l,x.1=k):putK l k v=l.map λkv=>if kv.1=k then (kv.1,v) else kv:=by
 unfold putK;obtain⟨x,hx,e⟩:=h;exact if_pos (List.any_eq_true.mpr ⟨x,hx,Qcd e⟩)
def JM {β : Type} (l:List (Sp3×β)) (s:Sp3) (v:β):List (Sp3×β):=l.map λx=>if x.1=s then (x.1,v) else x
theorem Rn {β : Type} (l:List (Sp3×β)) (s:Sp3) (v:β):(JM l s v).map (·.1)=l.map (·.1):=by
 unfold JM;rw[Qcw];refine QaT λx _=>?_;show (if x.1=s then (x.1,v) else x).1=x.1
 split <;> rfl
theorem cT {β : Type} (l:List (Sp3×β)) (s:Sp3) (v:β):(JM l s v).length=l.length:=QbM ..
theorem Yc {hs:YR} {s:Sp3} {z:Str} (h:s∈hs.map (·.1)):putK (stV hs) (k3 s) (.str z)=stV (JM hs s z):=by
 obtain⟨x,hx,e⟩:=Qcs.mp h;rw[dU (l:=stV hs) ⟨_,Qcs.mpr ⟨x,hx,rq⟩,by show k3 x.1=_;rw[e]⟩];unfold stV JM;rw[Qcw,Qcw];refine QaT λy _=>?_;show (if k3 y.1=k3 s then (k3 y.1,V.str z) else (k3 y.1,V.str y.2))=(k3 (if y.1=s then (y.1,z) else y).1,V.str (if y.1=s then (y.1,z) else y).2)
 by_cases e:y.1=s
 ·rw[if_pos (by rw[e]),if_pos e]
 ·rw[if_neg (λz=>e (M7 z)),if_neg e]
def HeldAt (H:Hp) (v:V):Option (Str×Int)->Prop
 | none=>v=.non
 | some d=>∃t,v=.ref t/\H t=some (.tup [.str d.1,.int d.2])
def K7 (H:Hp) (kv:List Key×V) (x:Sp3×Option (Str×Int)):Prop:=kv.1=k3 x.1/\HeldAt H kv.2 x.2
theorem K7.tups {H H':Hp} (s:Ak H H') {kv:List Key×V} {x:Sp3×Option (Str×Int)} (h:K7 H kv x):K7 H' kv x:=by
 obtain⟨h1,h2⟩:=h;refine⟨h1,?_⟩;cases e:x.2 with
 | none=>rw[e] at h2;exact h2
 | some d=>
  rw[e] at h2;obtain⟨t,a,b⟩:=h2;exact⟨t,a,s _ _ b⟩
def k2 (g:Gt):List Key:=[.inl g.lp,.inl g.at_]
theorem Tz {s t:Gt} (h:k2 s=k2 t):s=t:=by
 cases s;cases t;simp[k2] at h;obtain⟨h1,h2⟩:=h;subst h1 h2;rfl
abbrev YT:=List (Gt×Bool)
def gpV (gs:YT):YL:=gs.map λx=>(k2 x.1,.bl x.2)
structure WAt (C:Addr) (H:Hp) (p pl d1 d2 d3:Addr) (hs:YR) (fl:List (Sp3×Option (Str×Int))) (gs:YT):Prop where
 ins:∃dx,H p=some (.ins C dx (ff pl d1 d2 d3))
 st:H d1=some (.dT (stV hs))
 fi:∃kvs,H d2=some (.dT kvs)/\Paired (K7 H) kvs fl
 nd1:(hs.map (·.1)).Nodup
 nd2:(fl.map (·.1)).Nodup
 l1:hs.length<=200
 l2:fl.length<=200
 gp:H d3=some (.dT (gpV gs))
 nd3:(gs.map (·.1)).Nodup
 l3:gs.length<=200
 n13:d1≠d3
 n23:d2≠d3
abbrev YQ:=List (Sp3×Option (Str×Int))
theorem WAt.same {C:Addr} {H H':Hp} {p pl d1 d2 d3:Addr} {hs:YR} {fl:YQ} {gs:YT} (h:WAt C H p pl d1 d2 d3 hs fl gs) (s:Same H H'):WAt C H' p pl d1 d2 d3 hs fl gs:=by
 obtain⟨dx,e⟩:=h.ins;obtain⟨kvs,e2,e3⟩:=h.fi;exact⟨⟨dx,s _ _ e⟩,s _ _ h.st,⟨kvs,s _ _ e2,Paired.Aw e3 λ_ _ z=>z.tups (Ak.of s)⟩,h.nd1,h.nd2,h.l1,h.l2,s _ _ h.gp,h.nd3,h.l3,h.n13,h.n23⟩
theorem WAt.Ji {C b:Addr} {H H':Hp} {p pl d1 d2 d3:Addr} {hs:YR} {fl:YQ} {gs:YT} (h:WAt C H p pl d1 d2 d3 hs fl gs) (s:Ah b H H') (nt:∀zs,H b≠some (.tup zs)) (n0:p≠b) (n1:d1≠b) (n2:d2≠b) (n3:d3≠b):WAt C H' p pl d1 d2 d3 hs fl gs:=by
 obtain⟨dx,e⟩:=h.ins;obtain⟨kvs,e2,e3⟩:=h.fi;exact⟨⟨dx,s _ _ e n0⟩,s _ _ h.st n1,⟨kvs,s _ _ e2 n2,Paired.Aw e3 λ_ _ z=>z.tups (s.tup nt)⟩,h.nd1,h.nd2,h.l1,h.l2,s _ _ h.gp n3,h.nd3,h.l3,h.n13,h.n23⟩
def S4 (H:Hp) (v:V) (ss:YV):Prop:=∃b s,v=.ref b/\H b=some (.tup [.int s.lp,.int s.at_,.int s.n])/\s∈ss
theorem jr {H:Hp} {v:V} {ss:YV} (h:S4 H v ss):Uj (Iu H v) 3=true:=by
 obtain⟨b,s,rfl,hb,_⟩:=h;rw[Cr hb];rfl
theorem gR {H:Hp}:∀{kvs:YL} {fl:YQ},Paired (K7 H) kvs fl->kvs.map (·.1)=fl.map λx=>k3 x.1
 | _,_,.nil=>rfl
 | _,_,.cons h t=>by rw[Qck,Qck,h.1,gR t]
theorem Da {C:Addr} {H H':Hp} {p pl d1 d2 d3:Addr} {hs:YR} {fl:YQ} {gs:YT} {s:Sp3} {z:Str} (R:WAt C H p pl d1 d2 d3 hs fl gs) (n12:d1≠d2) (e:H' d1=some (.dT (stV (JM hs s z)))) (sb:Ah d1 H H') (nt:∀zs,H d1≠some (.tup zs)) (npd:p≠d1):WAt C H' p pl d1 d2 d3 (JM hs s z) fl gs:=by
 obtain⟨dx,hp⟩:=R.ins;obtain⟨kvs,hk,hf⟩:=R.fi;exact⟨⟨dx,sb _ _ hp npd⟩,e,⟨kvs,sb _ _ hk n12.symm,Paired.Aw hf λ_ _ y=>y.tups (sb.tup nt)⟩,by rw[Rn];exact R.nd1,R.nd2,by rw[cT];exact R.l1,R.l2,sb _ _ R.gp R.n13.symm,R.nd3,R.l3,R.n13,R.n23⟩
inductive Xe (C:Addr) (vs:YG) (H:Hp) (Q:VK) (E:XK):Prop
 | mk (p pl d1 d2 d3 hs fl gs b s) (_:vs=[.ref p,.ref b]) (_:WAt C H p pl d1 d2 d3 hs fl gs) (_:H b=some (.tup [.int s.lp,.int s.at_,.int s.n])) (_:s∈hs.map (·.1)) (_:∀H',Same H H'->Q .non H'):Xe C vs H Q E
inductive W9 (C:Addr) (z:Str) (vs:YG) (H:Hp) (Q:VK) (E:XK):Prop
 | mk (p pl d1 d2 d3 hs fl gs b s) (_:vs=[.ref p,.ref b]) (_:WAt C H p pl d1 d2 d3 hs fl gs) (_:d1≠d2) (_:H b=some (.tup [.int s.lp,.int s.at_,.int s.n])) (_:s∈hs.map (·.1)) (_:∀H',WAt C H' p pl d1 d2 d3 (JM hs s z) fl gs->Ah d1 H H'->Q .non H'):W9 C z vs H Q E
theorem AL {H:Hp} {v:V} {s:Sp3} (h:BW H v s):Th H v:=by
 obtain⟨u,rfl,e⟩:=h;refine⟨.inr ⟨_,e⟩,λxs ex=>?_⟩;rw[Cr e] at ex;cases ex;refine⟨by show 3<=100;decide,λy hy=>?_⟩;have:y=.int s.lp\/y=.int s.at_\/y=.int s.n:=by simpa using hy
 rcases this with rfl | rfl | rfl <;> exact True.intro
section
variable {P:Program} {w:World} {K:YD} {mg:YB} {base:Heap} {op oe kd wk C:Addr}
theorem Wb (c:K9 K C "check_stretch" "Wires.check_stretch" G7 Dp) (T:Tw K mg op oe kd wk C) (Ph:Good P w K mg base "are_wholes" 2 Hg PL):Ge P w K mg base C "check_stretch" 3 Dp (Xe C):=by
 refine c.good Qs (λvs H Q E h=>?_) (λf cdv A outer s H vs Q E hr h=>?_)
 ·obtain⟨p,pl,d1,d2,d3,hs,fl,gs,b,s,rfl,_⟩:=h;rfl
 obtain⟨p,pl,d1,d2,d3,hs,fl,gs,b,s',rfl,R,hb,hin,q⟩:=h;refine⟨_,(Ag (Cu (PW.pt (Mf (Eb (Dh (Cm Ph hr (Aa (pv 1) (Aa Af Ac))))) (Mu (Mv (Tg (CK hr) (pv 1) (Et (pv 0) rfl)))))) (Ag V5) BJ)),?_⟩;refine⟨_,rq,.ref b,3,rq,AL ⟨b,rq,hb⟩,λH1 s1=>⟨_,rq,?_⟩⟩;rw[jr ⟨b,s',rq,hb,hin⟩];have R1:=R.same s1;obtain⟨dx,hp⟩:=R1.ins;refine Cj ⟨_,rq,_,rq,p,C,dx,_,_,rq,hp,T.cl,T.Hu,Hy pl d1 d2 d3,d1,_,rq,Dt.t (k:=k3 s') R1.st (s1 _ _ hb),_,rq,?_⟩;have hs':(Di (stV hs) (k3 s')).isSome=true:=by
  obtain⟨x,hx,e⟩:=Qcs.mp hin;rw[<-Oi,List.any_eq_true];exact⟨_,Qcs.mpr ⟨x,hx,rq⟩,Qcd (by show k3 x.1=_;rw[e])⟩
 rw[hs'];exact Cj (q _ s1)
theorem D0 (c:K9 K C "cut" "Wires.cut" Qy Ju) (T:Tw K mg op oe kd wk C) (Jq:Ge P w K mg base C "check_stretch" 3 Dp (Xe C)):Ge P w K mg base C "cut" 4 Ju (W9 C "cut"):=by
 refine c.good dw (λvs H Q E h=>?_) (λf cdv A outer s H vs Q E hr h=>?_)
 ·obtain⟨p,pl,d1,d2,d3,hs,fl,gs,b,s,rfl,_⟩:=h;rfl
 obtain⟨p,pl,d1,d2,d3,hs,fl,gs,b,s',rfl,R,n12,hb,hin,q⟩:=h;refine⟨_,(Ae (Bo (Xi (pv 0) T.cl Jq hr (Aa (pv 1) Ac)))
 (Ag (Lh (CK hr) (Et (pv 0) rfl) (pv 1) Bf rfl))),?_⟩
 show let R0:TS:=_;Ao _ R0 _ _ _;intro R0;obtain⟨dx,hp⟩:=R.ins;refine⟨_,rq,p,dx,_,rq,hp,fno (by trivial),_,rq,p,pl,d1,d2,d3,hs,fl,gs,b,s',rq,R,hb,hin,λH1 s1=>?_⟩;have R1:=R.same s1;obtain⟨dx1,hp1⟩:=R1.ins;have hd1:=R1.st;have npd:p≠d1:=λz=>by rw[z,hd1] at hp1;cases hp1
 have nt:∀zs,H1 d1≠some (.tup zs):=λzs z=>by rw[hd1] at z;cases z
 have l1:=R.l1;refine⟨_,rq,p,C,dx1,_,_,rq,hp1,T.cl,T.Hu,Hy pl d1 d2 d3,_,rq,d1,_,rq,LC.t (k:=k3 s') hd1 (s1 _ _ hb) (Am (by unfold stV;rw[QbM];omega)),?_⟩;rw[Yc hin];exact q _ (Da R1 n12 (H':=upd H1 d1 _) Ab (Ah.upd) nt npd) ((Ah.of s1).trans Ah.upd)
theorem wj (c:K9 K C "short" "Wires.short" Nj HN) (T:Tw K mg op oe kd wk C) (Jq:Ge P w K mg base C "check_stretch" 3 Dp (Xe C)):Ge P w K mg base C "short" 4 HN (W9 C "short"):=by
 refine c.good Yu (λvs H Q E h=>?_) (λf cdv A outer s H vs Q E hr h=>?_)
 ·obtain⟨p,pl,d1,d2,d3,hs,fl,gs,b,s,rfl,_⟩:=h;rfl
 obtain⟨p,pl,d1,d2,d3,hs,fl,gs,b,s',rfl,R,n12,hb,hin,q⟩:=h;refine⟨_,(Ae (Bo (Xi (pv 0) T.cl Jq hr (Aa (pv 1) Ac)))
 (Ag (Lh (CK hr) (Et (pv 0) rfl) (pv 1) Bf rfl))),?_⟩
 show let R0:TS:=_;Ao _ R0 _ _ _;intro R0;obtain⟨dx,hp⟩:=R.ins;refine⟨_,rq,p,dx,_,rq,hp,fno (by trivial),_,rq,p,pl,d1,d2,d3,hs,fl,gs,b,s',rq,R,hb,hin,λH1 s1=>?_⟩;have R1:=R.same s1;obtain⟨dx1,hp1⟩:=R1.ins;have hd1:=R1.st;have npd:p≠d1:=λz=>by rw[z,hd1] at hp1;cases hp1
 have nt:∀zs,H1 d1≠some (.tup zs):=λzs z=>by rw[hd1] at z;cases z
 have l1:=R.l1;refine⟨_,rq,p,C,dx1,_,_,rq,hp1,T.cl,T.Hu,Hy pl d1 d2 d3,_,rq,d1,_,rq,LC.t (k:=k3 s') hd1 (s1 _ _ hb) (Am (by unfold stV;rw[QbM];omega)),?_⟩;rw[Yc hin];exact q _ (Da R1 n12 (H':=upd H1 d1 _) Ab (Ah.upd) nt npd) ((Ah.of s1).trans Ah.upd)
end
theorem PJ {H HH:Hp} {d:Addr} {o:Obj} {u:HO} (s:Same (upd H d (.frz o u)) HH) (h:H d=some u):Same H (upd HH d u):=λc x e=>by
 by_cases z:c=d
 ·subst z;rw[Ab,<-h,e]
 ·rw[Aq z];exact s _ _ (by rw[Aq z];exact e)
def hs0 (ja:YU):YR:=(up (stL ja) ja.length).map λs=>(s,"whole")
def fl0 (ja:YU):YQ:=(up (pdL ja) ja.length).map λd=>(d.spot,some (d.kind,d.addr))
theorem Lw (ja:YU):(hs0 ja).map (·.1)=up (stL ja) ja.length:=by unfold hs0;rw[Qcw];exact List.map_id _
theorem U8 (ja:YU):(fl0 ja).map (·.1)=(up (pdL ja) ja.length).map Sd.spot:=by unfold fl0;rw[Qcw];rfl
theorem C7 {ja:YU} (ok:Ei ja):(up (stL ja) ja.length).length<=200:=by
 have:=Es (f:=stL ja) (c:=49) (j8 ok) ja.length;have:=ok.hi;omega
theorem FG {ja:YU} (ok:Ei ja):(up (pdL ja) ja.length).length<=200:=by
 have:=Es (f:=pdL ja) (c:=48) (Y0 ok) ja.length;have:=ok.hi;omega
theorem eY {ja:YU} (ok:Ei ja):(up (gtL ja) ja.length).length<=200:=by
 have:=Es (f:=gtL ja) (c:=14) (lH ok) ja.length;have:=ok.hi;omega
theorem GM {ja:YU} (ok:Ei ja):(up (stL ja) ja.length).Nodup:=YS (AI ok)
theorem IR {ja:YU} (ok:Ei ja):((up (pdL ja) ja.length).map Sd.spot).Nodup:=YS (c:=cd3) (by rw[Qcw];exact yQ ok)
def gs0 (ja:YU):YT:=(up (gtL ja) ja.length).map λg=>(g,false)
theorem Lx (ja:YU):(gs0 ja).map (·.1)=up (gtL ja) ja.length:=by unfold gs0;rw[Qcw];exact List.map_id _
def cd2 (g:Gt):Int:=g.lp*100+g.at_
theorem Q7 {lp:Int} {ps:List Place} {i:Nat} {g:Gt} (h:g∈gt1 lp ps i):g.lp=lp/\g.at_=((1+i:Nat):Int)/\i < ps.length:=by
 obtain⟨p,hp,h⟩:=FN h;split at h
 ·have:g=⟨lp,((1+i:Nat):Int)⟩:=by simpa using h
  rw[this];exact⟨rq,rq,(Qai.mp hp).1⟩
 ·cases h
theorem E3 {ja:YU} (ok:Ei ja) {k:Nat} {g:Gt} (h:g∈gtL ja k):g.lp=(k:Int)/\0<=g.at_/\g.at_<=13:=by
 obtain⟨ps,hps,h⟩:=FN h;have hi:=(ok.ok ps (QaK hps)).hi;rcases QbO.mp h with h | h
 ·rcases Qcj.mp h with rfl | h
  ·exact⟨rq,by show (0:Int)<=0;decide,by show (0:Int)<=13;decide⟩
  ·obtain⟨i,hi',h⟩:=Ew h;obtain⟨h1,h2,h3⟩:=Q7 h;exact⟨h1,by rw[h2];omega,by rw[h2];omega⟩
 ·have:g=⟨(k:Int),(ps.length:Int)+1⟩:=by simpa using h
  rw[this];exact⟨rq,by show (0:Int)<=(ps.length:Int)+1;omega,by show (ps.length:Int)+1<=13;omega⟩
theorem BO {ja:YU} (ok:Ei ja):((up (gtL ja) ja.length).map cd2).Pairwise (· < ·):=by
 refine (La (g:=λi=>(i:Int)*100) (λi=>by omega) (λk=>Lq λps hps=>?_) (λk g hg=>?_) ja.length).1
 ·obtain⟨a,b⟩:=La (c:=cd2) (f:=gt1 (k:Int) ps) (g:=λi=>(k:Int)*100+(1+i:Int)) (λi=>by omega) (λi=>Lq λp hp=>by
   split
   ·exact Qay _ _
   ·exact List.Pairwise.nil) (λi g hg=>by
   obtain⟨h1,h2,h3⟩:=Q7 hg;show (k:Int)*100+(1+i:Int)<=g.lp*100+g.at_/\g.lp*100+g.at_ < (k:Int)*100+(1+((i+1:Nat):Int));rw[h1,h2];push_cast;omega) ps.length
  rw[QbN,Qck];have hb:∀x∈up (gt1 (k:Int) ps) ps.length,(k:Int)*100+(1+((0:Nat):Int))<=cd2 x/\cd2 x < (k:Int)*100+(1+((ps.length:Nat):Int)):=b;refine List.pairwise_append.mpr ⟨List.pairwise_cons.mpr ⟨λx hx=>?_,a⟩,Qay _ _,λx hx y hy=>?_⟩
  ·obtain⟨z,hz,rfl⟩:=Qcs.mp hx;have:=hb z hz;show (k:Int)*100+0 < cd2 z;omega
  ·have hy:y=(k:Int)*100+((ps.length:Int)+1):=by simpa [cd2] using hy
   rcases Qcj.mp hx with rfl | hx
   ·show (k:Int)*100+0 < y;omega
   ·obtain⟨z,hz,rfl⟩:=Qcs.mp hx;have:=hb z hz;omega
 ·obtain⟨h1,h2,h3⟩:=E3 ok hg;show (k:Int)*100<=g.lp*100+g.at_/\g.lp*100+g.at_ < ((k+1:Nat):Int)*100;rw[h1];push_cast;omega
theorem pB {ja:YU} (ok:Ei ja):(up (gtL ja) ja.length).Nodup:=YS (BO ok)
inductive Yq (C:Addr) (vs:YG) (H:Hp) (Q:VK) (E:XK):Prop
 | mk (p dx pl most ja jp) (_:vs=[.ref p,.ref pl]) (_:H p=some (.ins C dx [])) (_:FQ H pl most ja jp) (_:∀d1 d2 d3 H',H d1=none->H d2=none->H d3=none->d1≠d2->WAt C H' p pl d1 d2 d3 (hs0 ja) (fl0 ja) (gs0 ja)->Ah p H H'->Q .non H'):Yq C vs H Q E
section
variable {P:Program} {w:World} {K:YD} {mg:YB} {base:Heap} {op oe kd wk C:Addr}
abbrev xi:YF:=["opener"]
abbrev xl:YF:=["stretch"]
theorem wC (F:∃f fd,Fun K "__init__" "Wires.__init__" Hs f fd/\Mk K C f/\Binds K fd Ds []) (T:Tw K mg op oe kd wk C) (QK:Good P w K mg base "is_let_by" 10 Gf QX) (QJ:Good P w K mg base "stretches" 1 Ii bD) (Ef:Good P w K mg base "devices" 2 Fv Nt) (TJ:Good P w K mg base "openers" 1 Kg bF):pY P w K mg base C 11 Ds (Yq C):=by
 obtain⟨f,fd,F,Mk,b⟩:=F;refine⟨f,fd,Mk,b,F.ok Jm (λvs H Q E h=>?_) (λcdv A outer s H vs Q E hr h=>?_)⟩
 ·obtain⟨p,dx,pl,most,ja,jp,rfl,_⟩:=h;rfl
 obtain⟨p,dx,pl,most,ja,jp,rfl,hp,pa,q⟩:=h;refine⟨_,(Ae (Cu (Eb (Dh (BR QK hr (Aa (pv 1) Ac)))) (Ag V5) BJ)
 (Ae (Ke (pv 0) (pv 1) rfl)
 (Ae (Ke (pv 0) (Hq (CK hr) (N':=xl) rfl (Bk.plain rfl (by trivial) (by trivial) (by trivial)) (CW (BR QJ hr (Aa (pv 1) Ac))) (λ_ _ _ _=>(Ai (i:=0) (show List.Nodup (xl:YF) by trivial) rfl (Or.inl rfl))) (λ_ _ _ _=>CZ) (λ_ _ _ _=>(pv 0)) (λ_ _ _ _=>Bf)) rfl)
 (Ae (Ke (pv 0) (Hq (CK hr) (N':=xf) rfl (Bk.plain rfl (by trivial) (by trivial) (by trivial)) (CW (BR Ef hr (Aa (pv 1) Ac))) (λ_ _ _ _=>(Ih (K:=K) (n:=3) rfl rfl (Al (Ai (i:=0) (show List.Nodup (xf:YF) by trivial) rfl (Or.inl rfl)) (Al (Ai (i:=1) (show List.Nodup (xf:YF) by trivial) rfl (Or.inl rfl)) (Al (Ai (i:=2) (show List.Nodup (xf:YF) by trivial) rfl (Or.inl rfl)) Br))))) (λ_ _ _ _=>CZ) (λ_ _ _ _=>(pv 0)) (λ_ _ _ _=>(Bd (Aa (pv 1) (Aa (pv 2) Ac))))) rfl)
 (Ag (Ke (pv 0) (Hq (CK hr) (N':=xi) rfl (Bk.plain rfl (by trivial) (by trivial) (by trivial)) (CW (BR TJ hr (Aa (pv 1) Ac))) (λ_ _ _ _=>(Ai (i:=0) (show List.Nodup (xi:YF) by trivial) rfl (Or.inl rfl))) (λ_ _ _ _=>CZ) (λ_ _ _ _=>(pv 0)) (λ_ _ _ _=>DK)) rfl)))))),?_⟩
 show let R0:TS:=_;let R1:TS:=Ao _ R0;let R2:TS:=Ao _ R1;let R3:TS:=Ao _ R2;Ao _ R3 _ _ _;intro R0 R1 R2 R3;have ok:=pa.ok;have ntp:∀zs,H p≠some (.tup zs):=λzs z=>by rw[hp] at z;cases z
 refine⟨_,rq,pl,most,ja,jp,rq,pa,λH0 s0=>⟨_,rq,Cj ?_⟩⟩;refine⟨_,rq,_,rq,p,C,dx,_,_,rq,s0 _ _ hp,T.cl,T.fP,(by show 0 < 1000;decide),T3 (by show _∉([]:YF);decide +kernel),λH1 h1 s1=>?_⟩;have r1:Ah p H H1:=(Ah.of s0).trans s1;have pa1:=pa.tups (r1.tup ntp);refine⟨_,rq,pl,ja,rq,pa1.plan,ok,λla xa H2 hla hxa hpa s2=>⟨la,rq,⟨_,SqL.of hxa⟩,λd1 f1=>?_⟩⟩;have lxa:=Qci hpa;have Hm:=C7 ok;have nda:=GM ok;let J1:YN:=λi U HH=>(∃u,U=[u])/\HH d1=some (.dT (stV (((up (stL ja) ja.length).take i).map λs=>(s,"whole"))))/\Same H2 HH;refine QW (xs:=xa) J1 ⟨⟨_,rq⟩,Ab,Ad f1 _⟩ (λi U HH _ h=>SqL.of (h.2.2 _ _ hxa)) (λi x U HH hx h=>?_) (fun U HH h=>?_)
 ·obtain⟨⟨u,rfl⟩,e1,e2⟩:=h;obtain⟨sp,hsp,t,rfl,ht⟩:=Paired.Cp hpa hx;have hi:=(Qai.mp hx).1;unfold Eh;dsimp only;refine BK ⟨_,rq,_,k3 sp,t,e1,rq,e2 _ _ ht,Am (by unfold stV;rw[QbM,QbM,QbD];omega),⟨_,rq⟩,?_,e2.Bp Ah.upd f1⟩;rw[Ab,Lg,QcM hsp]
  ·unfold stV;rw[QbN,QbN];rfl
  ·refine N5 λy hy e=>?_;unfold stV at hy;rw[Qcw] at hy;obtain⟨z,hz,rfl⟩:=Qcs.mp hy;exact Uy nda hsp z hz (M7 e)
 obtain⟨_,e1,e2⟩:=h;rw[lxa,QbB] at e1;have e1:HH d1=some (.dT (stV (hs0 ja))):=e1;have r2:Ah p H HH:=r1.trans (Ah.of (s2.trans e2));refine⟨_,rq,p,C,dx,_,_,rq,e2 _ _ (s2 _ _ h1),T.cl,T.Hu,(by show 1 < 1000;decide),T3 (by show _∉(Fv:YF);decide +kernel),λH3 h3 s3=>?_⟩;have np1:d1≠p:=λz=>by rw[z,s2 _ _ h1] at f1;cases f1
 have u1:=s3 _ _ e1 np1;have r3:Ah p H H3:=r2.trans s3;have f1':H d1=none:=by
  cases e:H d1 with
  | none=>rfl
  | some v=>have:=r1.trans (Ah.of s2) _ _ e np1;rw[f1] at this;cases this
 clear s3 e1 e2 r2;have pa3:=pa.tups (r3.tup ntp);refine⟨_,rq,pl,ja,rq,pa3.plan,ok,λlb xb H4 hlb hxb hpb s4=>⟨lb,rq,⟨_,SqL.of hxb⟩,λd2 f2=>?_⟩⟩;have lxb:=Qci hpb;have Hk:=FG ok;have ndb:=IR ok;let J2:YN:=λi U HH=>(∃u v t,U=[u,v,t])/\(∃kvs,HH d2=some (.dT kvs)/\Paired (K7 HH) kvs (((up (pdL ja) ja.length).take i).map λd=>(d.spot,some (d.kind,d.addr))))/\Same H4 HH;refine QW (xs:=xb) J2 ⟨⟨_,_,_,rq⟩,⟨[],Ab,.nil⟩,Ad f2 _⟩ (λi U HH _ h=>SqL.of (h.2.2 _ _ hxb)) (λi x U HH hx h=>?_) (fun U HH h=>?_)
 ·obtain⟨⟨u,v,t,rfl⟩,⟨kvs,e1,e3⟩,e2⟩:=h;obtain⟨d,hd,tt,uu,rfl,h5,h6⟩:=Paired.Cp hpb hx;have hi:=(Qai.mp hx).1;have lk:=Qci e3;rw[QbM,QbD] at lk;refine⟨tt,_,rq,SqT.of (e2 _ _ h5),rq,_,_,rq,_,_,rq,_,_,rq,rq,?_⟩;refine BK ⟨_,rq,_,rq,_,rq,Ar (by show 2<=1000;decide),λtn htn=>?_⟩;have t1:=Ad htn (.tup [.str d.kind,.int d.addr]);have e1':=t1 _ _ e1;have ntd:∀zs,(upd HH tn (.tup [.str d.kind,.int d.addr])) d2≠some (.tup zs):=λzs z=>by rw[e1'] at z;cases z
  refine⟨kvs,k3 d.spot,uu,e1',rq,t1 _ _ (e2 _ _ h6),Am (by omega),⟨_,_,_,rq⟩,⟨_,Ab,?_⟩,(e2.trans t1).Bp Ah.upd f2⟩;rw[Lg,QcM hd,QbN]
  ·have sL:=Ak.upd (o:=.dT (kvs++[(k3 d.spot,V.ref tn)])) ntd;exact QcF ⟨rq,⟨tn,rq,sL _ _ Ab⟩⟩ (Paired.Aw e3 λ_ _ z=>(z.tups (Ak.of t1)).tups sL)
  ·refine N5 λy hy e=>?_;have:y.1∈kvs.map (·.1):=Qcs.mpr ⟨y,hy,rq⟩;rw[gR e3,Qcw] at this;obtain⟨z,hz,ez⟩:=Qcs.mp this;exact Jx ndb hd z hz (M7 (by rw[<-e,<-ez];rfl))
 obtain⟨_,⟨kvs,e1,e3⟩,e2⟩:=h;rw[lxb,QbB] at e3;have e3:Paired (K7 HH) kvs (fl0 ja):=e3;have h4:=e2 _ _ (s4 _ _ h3);have KO:∀zs,HH p≠some (.tup zs):=λzs z=>by rw[h4] at z;cases z
 have u2:=e2 _ _ (s4 _ _ u1);refine⟨_,rq,p,C,dx,_,_,rq,h4,T.cl,T.Wf,(by show 2 < 1000;decide),T3 (by show _∉(["plan","states"]:YF);decide +kernel),λH5 h5 s5=>?_⟩;have np2:d2≠p:=λz=>by rw[z,s4 _ _ h3] at f2;cases f2
 have n12:d1≠d2:=Ax (s4 _ _ u1) f2;have u3:=s5 _ _ u2 np1;have v3:=s5 _ _ e1 np2;have w3:Paired (K7 H5) kvs (fl0 ja):=Paired.Aw e3 λ_ _ z=>z.tups (s5.tup KO);have r5:Ah p H H5:=r3.trans ((Ah.of (s4.trans e2)).trans s5);have f2':H d2=none:=by
  cases e:H d2 with
  | none=>rfl
  | some v=>have:=r3.trans (Ah.of s4) _ _ e np2;rw[f2] at this;cases this
 clear s5 e1 e2 e3 u1 u2 h3 h4;have pa5:=pa.tups (r5.tup ntp);have TR:∀zs,H5 p≠some (.tup zs):=λzs z=>by rw[h5] at z;cases z
 refine⟨_,rq,pl,ja,rq,pa5.plan,ok,λlc xc H6 hlc hxc hpc s6=>⟨lc,rq,⟨_,SqL.of hxc⟩,λd3 f3=>?_⟩⟩;have lxc:=Qci hpc;have He:=eY ok;let J3:YN:=λi U HH=>(∃u,U=[u])/\HH d3=some (.dT (gpV (((up (gtL ja) ja.length).take i).map λg=>(g,false))))/\Same H6 HH;refine QW (xs:=xc) J3 ⟨⟨_,rq⟩,Ab,Ad f3 _⟩ (λi U HH _ h=>SqL.of (h.2.2 _ _ hxc)) (λi x U HH hx h=>?_) (fun U HH h=>?_)
 ·obtain⟨⟨u,rfl⟩,e1,e2⟩:=h;obtain⟨g,hg,t,rfl,ht⟩:=Paired.Cp hpc hx;have hi:=(Qai.mp hx).1;unfold Eh;dsimp only;refine BK ⟨_,rq,_,k2 g,t,e1,rq,e2 _ _ ht,Am (by unfold gpV;rw[QbM,QbM,QbD];omega),⟨_,rq⟩,?_,e2.Bp Ah.upd f3⟩;rw[Ab,Lg,QcM hg]
  ·unfold gpV;rw[QbN,QbN];rfl
  ·refine N5 λy hy e=>?_;unfold gpV at hy;rw[Qcw] at hy;obtain⟨z,hz,rfl⟩:=Qcs.mp hy;exact Uy (pB ok) hg z hz (Tz e)
 obtain⟨_,e1,e2⟩:=h;rw[lxc,QbB] at e1;have e1:HH d3=some (.dT (gpV (gs0 ja))):=e1;have s7:=s6.trans e2;refine⟨_,rq,p,C,dx,_,_,rq,s7 _ _ h5,T.cl,T.Ia,(by show 3 < 1000;decide),T3 (by show _∉(["plan","states","filled"]:YF);decide +kernel),λH8 h8 s8=>?_⟩;have np3:d3≠p:=λz=>by rw[z,s6 _ _ h5] at f3;cases f3
 have f3':H d3=none:=by
  cases e:H d3 with
  | none=>rfl
  | some v=>have:=r5.trans (Ah.of s6) _ _ e np3;rw[f3] at this;cases this
 have n13:d1≠d3:=Ax (s6 _ _ u3) f3;have n23:d2≠d3:=Ax (s6 _ _ v3) f3;have KM:∀zs,HH p≠some (.tup zs):=λzs z=>by rw[s7 _ _ h5] at z;cases z
 exact q d1 d2 d3 H8 f1' f2' f3' n12 ⟨⟨dx,h8⟩,s8 _ _ (s7 _ _ u3) np1,⟨kvs,s8 _ _ (s7 _ _ v3) np2,Paired.Aw w3 λ_ _ z=>(z.tups (Ak.of s7)).tups (s8.tup KM)⟩,by rw[Lw];exact nda,by rw[U8];exact ndb,by unfold hs0;rw[QbM];exact Hm,by unfold fl0;rw[QbM];exact Hk,s8 _ _ e1 np3,by rw[Lx];exact pB ok,by unfold gs0;rw[QbM];exact He,n13,n23⟩ (r5.trans ((Ah.of s7).trans s8))
end
section
variable {X:Cx}
def JU (ta:TE):TE:=fun U H Q=>ta U H λx H1=>∃t xs,x=.ref t/\H1 t=some (.tup xs)/\xs.isEmpty=false/\Q x H1
theorem DH {a b:Expr} {rest:YJ} {pos:Pos} {ta:TE} (ha:PE X a ta):PE X (.BoolOp .Or (a::b::rest) pos) (JU ta):=by
 intro jb s U H Q I h;refine PyProof.Rows.BoolOp_or (thn (ha jb s U H _ I h) λv s1 zz=>?_);obtain⟨x,H1,I1,r1,t,xs,e,et,ne,q1⟩:=zz;subst e;cases r1;obtain⟨its,r,pl,hz⟩:=I1.tuple (SqT.of et);have hlen:=r.length;have hl:=M5;have hs:sizeLine=16777216:=QcH;refine PyProof.Rows.truthy_tuple pl (by simp only[Qbo];omega) ?_;rw[Rw r,ne];exact⟨.ref t,H1,I1.tok _,rq,q1⟩
end
theorem gw {α : Type} {f:α->Key} {k:Key}:∀{xs:List α},(Di (GJ f xs) k).isSome=false->∀x∈xs,f x≠k
 | y::r,h,x,hx=>by
  have e:GJ f (y::r)=(f y,V.bl true)::GJ f r:=rfl;rw[e] at h;by_cases hy:f y=k
  ·rw[IV (p:=(f y,V.bl true)) hy] at h;cases h
  ·rw[GK (p:=(f y,V.bl true)) hy] at h;rcases Qcj.mp hx with rfl | hx
   ·exact hy
   ·exact gw h x hx
def Dbl (H:Hp) (t:Addr):Prop:=∃ja,Ra H t ja/\Ei ja/\¬(CP ja).Nodup
def Tk (ja:YU):Prop:=(∀ps∈ja,OkL ps)/\(∀x∈CP ja,1<=x/\x<=99)/\1<=ja.length/\ja.length<=3
def K6 (H:Hp) (v:V):Prop:=(Kn H v/\Rt (Iu H v) 3 3=false)\/∃(t:Addr) (x:Int) (Ls zs:Addr),v=.ref t/\H t=some (.tup [.int x,.ref Ls,.ref zs])/\(¬(1<=x/\x<=30)\/(1<=x/\x<=30)/\((∃ws,H Ls=some (.tup ws)/\(ws.length=0\/3 < ws.length)) \/
 ∃ws ja,H Ls=some (.tup ws)/\Paired (LoopAt H) ws ja/\Tk ja/\((∃zvs jp tz,H zs=some (.tup (zvs++[.ref tz]))/\Paired (Hl H) zvs jp/\(∀z∈jp,ZnB z)/\jp.length<=8/\ZC H tz) \/
  ∃zvs jp,H zs=some (.tup zvs)/\Paired (Hl H) zvs jp/\(∀z∈jp,ZnB z)/\jp.length<=8/\(jp.map (·.name)).Nodup/\¬(CP ja).Nodup)))
theorem K6.same {H H':Hp} {v:V} (h:K6 H v) (s:Same H H'):K6 H' v:=by
 have t:=Ak.of s;rcases h with⟨h1,h2⟩|⟨t0,x,Ls,zs,e,h1,h2 |⟨hx,⟨ws,h3,h4⟩|⟨ws,ja,h3,h4,h5,h6⟩⟩⟩
 ·exact .inl ⟨h1.same s,by rw[WQ s h1];exact h2⟩
 ·exact .inr ⟨t0,x,Ls,zs,e,s _ _ h1,.inl h2⟩
 ·exact .inr ⟨t0,x,Ls,zs,e,s _ _ h1,.inr ⟨hx,.inl ⟨ws,s _ _ h3,h4⟩⟩⟩
 ·refine .inr ⟨t0,x,Ls,zs,e,s _ _ h1,.inr ⟨hx,.inr ⟨ws,ja,s _ _ h3,Paired.Aw h4 λ_ _ z=>z.tups t,h5,?_⟩⟩⟩;rcases h6 with⟨zvs,jp,tz,g1,g2,g3,g4,g5⟩|⟨zvs,jp,g1,g2,g3⟩
  ·exact .inl ⟨zvs,jp,tz,s _ _ g1,Paired.Aw g2 λ_ _ z=>z.tups t,g3,g4,g5.tups t⟩
  ·exact .inr ⟨zvs,jp,s _ _ g1,Paired.Aw g2 λ_ _ z=>z.tups t,g3⟩
inductive Yk (vs:YG) (H:Hp) (Q:VK) (E:XK):Prop
 | mk (v) (_:vs=[v]) (_:K6 H v) (_:∀b H',Same H H'->(b=true->∃t,v=.ref t/\Dbl H t)->Q (.bl b) H'):Yk vs H Q E
inductive W8 (vs:YG) (H:Hp) (Q:VK) (E:XK):Prop
 | mk (t) (_:vs=[.ref t]) (_:Dbl H t) (_:∀tw xs H',H' tw=some (.tup xs)->xs.isEmpty=false->Same H H'->Q (.ref tw) H'):W8 vs H Q E
inductive cL (vs:YG) (H:Hp) (Q:VK) (E:XK):Prop
 | mk (v) (_:vs=[v]) (_:K6 H v) (_:∀H',Same H H'->Q (.bl false) H'):cL vs H Q E
theorem Dbl.same {H H':Hp} {t:Addr} (h:Dbl H t) (s:Same H H'):Dbl H' t:=by
 obtain⟨ja,⟨v0,v2,Ls,vs,a,b,c⟩,d⟩:=h;exact⟨ja,⟨v0,v2,Ls,vs,s _ _ a,s _ _ b,Paired.Aw c λ_ _ z=>z.tups (Ak.of s)⟩,d⟩
section
variable {P:Program} {w:World} {K:YD} {mg:YB} {base:Heap} {op oe kd wk:Addr}
theorem jy (C:Code K mg "is_plan" Qc Hr) (T:Ty K mg op oe kd wk) (CJ:Good P w K mg base "is_row" 1 DX G4) (Fi:Good P w K mg base "is_within" 2 Fe JL) (QS:Good P w K mg base "are_loops" 8 Im (SJ Rm VJ)) (QM:Good P w K mg base "are_zones" 5 Il (SJ Rk VD)) (Ef:Good P w K mg base "devices" 2 Fv Nt):Good P w K mg base "is_plan" 9 Hr Yk:=by
 have sc:=Fd;refine C.good Fd (λvs H Q E h=>?_) (λf cdv A outer s H vs Q E hr h=>?_)
 ·obtain⟨v,rfl,_⟩:=h;rfl
 obtain⟨v,rfl,nl,q⟩:=h;refine⟨_,(Ae (Cu (Eb (Dh (Dc CJ hr (Aa (pv 0) (Aa Af (Aa Af Ac)))))) (Ag (Ay DK)) BJ)
 (Ae (Hz (pv 0) (CT rfl (Al (Ai (i:=1) Fd.nd rfl (Or.inl rfl)) (Al (Ai (i:=2) Fd.nd rfl (Or.inl rfl)) (Al (Ai (i:=3) Fd.nd rfl (Or.inl rfl)) Br)))))
 (Ae (Cu (PW.pt (Mf (Eb (Dh (Dc Fi hr (Aa (pv 1) (Aa Af (Aa Af Ac)))))) (Mf (Eb (Dh (BR QS hr (Aa (pv 2) Ac)))) (Mu (Eb (Dh (BR QM hr (Aa (pv 3) Ac)))))))) (Ag (Ay DK)) BJ)
 (Ag (Ay (O2 Mg Mg Af (Av Bj rfl T.len CV (Aa (BR Ef hr (Aa (pv 0) Ac)) Ac)) Af)))))),?_⟩
 show let R0:TS:=_;let R1:TS:=Ao _ R0;let R2:TS:=Ao _ R1;Ao _ R2 _ _ _;intro R0 R1 R2;have nf:∀H',Same H H'->Q (.bl false) H':=λH' s=>q false H' s λz=>by cases z
 rcases nl with⟨k,r⟩|⟨t,x,Ls,zs,rfl,e1,nl⟩
 ·refine⟨_,rq,v,3,3,rq,k,_,rq,?_⟩;rw[r];exact BK (nf _ (Same.refl _))
 refine⟨_,rq,.ref t,3,3,rq,Ga e1,_,rq,?_⟩;rw[Cr e1,DG (by show (3:Int)<=3;decide) (by show (3:Int)<=3;decide)];refine Cj ⟨_,rq,t,_,rq,SqT.of e1,rq,_,_,rq,_,_,rq,_,_,rq,rq,?_⟩;refine⟨_,rq,x,1,30,rq,_,rq,?_⟩;rcases nl with hx |⟨hx,nl⟩
 ·rw[QbR hx];exact BK (BK (nf _ (Same.refl _)))
 rw[Qcd hx];rcases nl with⟨ws,e2,hl⟩|⟨ws,ja,e2,e3,⟨k1,k2,k3,k4⟩,nl⟩
 ·exact Cj ⟨_,rq,.inr ⟨Ls,ws,rq,e2,hl,_,rq,BK (BK (nf _ (Same.refl _)))⟩⟩
 refine Cj ⟨_,rq,.inl ⟨Ls,ws,ja,rq,e2,e3,k1,k2,k3,k4,λH1 s1=>⟨_,rq,Cj ?_⟩⟩⟩;rcases nl with⟨zvs,jp,tz,g1,g2,g3,g4,g5⟩|⟨zvs,jp,g1,g2,g3,g4,g5,g6⟩
 ·exact⟨_,rq,.inr ⟨zs,zvs,jp,tz,rq,s1 _ _ g1,Paired.Aw g2 λ_ _ z=>z.tups (Ak.of s1),g3,g4,g5.tups (Ak.of s1),λH2 s2=>⟨_,rq,BK (nf _ (s1.trans s2))⟩⟩⟩
 refine⟨_,rq,.inl ⟨zs,zvs,jp,rq,s1 _ _ g1,Paired.Aw g2 λ_ _ z=>z.tups (Ak.of s1),g3,g4,g5,λH2 s2=>⟨_,rq,Cj ?_⟩⟩⟩;have s12:=s1.trans s2;have hD:Dbl H t:=⟨ja,⟨.int x,.ref zs,Ls,ws,e1,e2,e3⟩,⟨k1,k4⟩,g6⟩;obtain⟨v0,v2,L0,vs0,a,b,c⟩ : Ra H2 t ja:=⟨.int x,.ref zs,Ls,ws,s12 _ _ e1,s12 _ _ e2,Paired.Aw e3 λ_ _ z=>z.tups (Ak.of s12)⟩;refine⟨_,rq,t,ja,rq,⟨v0,v2,L0,vs0,a,b,c⟩,⟨k1,k4⟩,λl xs H3 hl hx hp s3=>?_⟩;refine⟨l,_,rq,.inl (SqL.of hx),_,_,rq,rq,_,rq,Gm (λh1=>⟨_,_,rq,rq,?_⟩) (λh1=>?_)⟩
 ·exact q _ _ (s12.trans s3) λ_=>⟨t,rq,hD⟩
 ·exact q _ _ (s12.trans s3) λ_=>⟨t,rq,hD⟩
theorem Vk (C:Code K mg "address_twice" Iv DN) (T:Ty K mg op oe kd wk) (Ef:Good P w K mg base "devices" 2 Fv Nt):Good P w K mg base "address_twice" 3 DN W8:=by
 have sc:=Ci;refine C.good Ci (λvs H Q E h=>?_) (λf cdv A outer s H vs Q E hr h=>?_)
 ·obtain⟨t,rfl,_⟩:=h;rfl
 obtain⟨t,rfl,⟨ja,⟨v0,v2,Ls,vs,a,b,c⟩,ok,nn⟩,q⟩:=h;refine⟨_,(Ae (Ba (i:=1) Ci.nd rfl (Or.inl rfl) V8)
 (Ae (Ck QbQ rfl (CW (BR Ef hr (Aa (pv 0) Ac))) (CT rfl (Al (Ai (i:=2) Ci.nd rfl (Or.inl rfl)) (Al (Ai (i:=3) Ci.nd rfl (Or.inl rfl)) (Al (Ai (i:=4) Ci.nd rfl (Or.inl rfl)) Br))))
 (Ae (Cu (Mv (Ti (CK hr) (pv 4) (pv 1))) (Ag (Ay (Bd (Aa Bf (Aa (pv 4) Ac))))) BJ)
 (Ag (Lh (CK hr) (pv 1) (pv 4) DK rfl))))
 (Ag (Ay KJ)))),?_⟩
 show let R0:TS:=_;let R1:TS:=Ao (Jl _ R0 _) _;let R2:TS:=Ao (Dm _ _ R1) _;Ao _ R2 _ _ _;intro R0 R1 R2;refine λd hd=>?_;have s0:=Ad hd (.dK []);refine⟨_,rq,t,ja,rq,⟨v0,v2,Ls,vs,s0 _ _ a,s0 _ _ b,Paired.Aw c λ_ _ z=>z.tups (Ak.of s0)⟩,ok,λl xs H1 hl hx hp s1=>⟨l,rq,⟨_,SqL.of hx⟩,?_⟩⟩;have lx:=Qci hp;have TU:(up (pdL ja) ja.length).length<=200:=by
  have:=Es (f:=pdL ja) (c:=48) (Y0 ok) ja.length;have:=ok.hi;omega
 have nd:¬((up (pdL ja) ja.length).map (·.addr)).Nodup:=by rw[Jf];exact nn
 generalize up (pdL ja) ja.length=ds at *;have hd1:H1 d=some (.dK []):=s1 _ _ Ab;have nld:l≠d:=λz=>by rw[z,hd1] at hx;cases hx
 have nt:∀HH:Hp,(∃kvs,HH d=some (.dK kvs))->∀zs,HH d≠some (.tup zs):=λHH ⟨kvs,e⟩ zs z=>by rw[e] at z;cases z
 let J0:YN:=λi U HH=>∃(u2 u3 u4:Option V),U=[js t,js d,u2,u3,u4]/\HH d=some (.dK (GJ (λz:Sd=>Sum.inl z.addr) (ds.take i)))/\((ds.take i).map (·.addr)).Nodup/\Ah d H1 HH;refine Pj (xs:=xs) J0 ⟨_,_,_,rq,hd1,Qcf,Ah.refl d H1⟩ (λi U HH _ h=>?_) (λi x U HH hx' h=>?_) (fun U HH h=>?_)
 ·obtain⟨u2,u3,u4,rfl,e1,e0,e2⟩:=h;exact SqL.of (e2 _ _ hx nld)
 ·obtain⟨u2,u3,u4,rfl,e1,e0,e2⟩:=h;obtain⟨z,hzi,tz,uz,rfl,h1,h2⟩:=Paired.Cp hp hx';have hi:=(Qai.mp hzi).1;have sT:=e2.tup (nt H1 ⟨_,hd1⟩);refine⟨tz,_,rq,SqT.of (sT _ _ h1),rq,_,_,rq,_,_,rq,_,_,rq,rq,?_⟩;refine⟨_,rq,_,rq,d,_,rq,Dt.k (k:=Sum.inl z.addr) e1,_,rq,Gm (λhc=>?_) (λhc=>?_)⟩
  ·refine⟨_,rq,Ar (by show 2<=1000;decide),λtw htw=>?_⟩;exact q tw _ _ Ab rfl (((s0.trans s1).Bp e2 hd).trans (Ad htw _))
  ·have fr:∀y∈ds.take i,(Sum.inl y.addr:Key)≠Sum.inl z.addr:=gw hc;refine⟨_,rq,_,rq,d,_,rq,LC.k (k:=Sum.inl z.addr) e1 (Am (by rw[Ko,QbD];omega)),_,_,_,rq,?_,?_,e2.trans Ah.upd⟩
   ·rw[Ab,M6 (f:=λz:Sd=>Sum.inl z.addr) (x:=z) fr,QcM hzi]
   ·rw[QcM hzi,QbN];refine Qbw.mpr ⟨e0,QbT.mpr ⟨by simp,Qcf⟩,λp hp p' hp' e=>?_⟩;obtain⟨y,hy,rfl⟩:=Qcs.mp hp;have hp':p'=z.addr:=by simpa using hp'
    exact fr y hy (by rw[e,hp'])
 ·obtain⟨u2,u3,u4,rfl,e1,e0,e2⟩:=h;rw[lx,QbB] at e0;exact absurd e0 nd
theorem qX (C:Code K mg "wrong" Us Kf) (T:Ty K mg op oe kd wk) (K3:Good P w K mg base "address_twice" 3 DN W8):Good P w K mg base "wrong" 4 Kf W8:=by
 refine C.good cV (λvs H Q E h=>?_) (λf cdv A outer s H vs Q E hr h=>?_)
 ·obtain⟨t,rfl,_⟩:=h;rfl
 obtain⟨t,rfl,d,q⟩:=h;refine⟨_,(Ag (Ay (DH (Ru K3 hr (Aa (pv 0) Ac))))),?_⟩;exact⟨_,rq,t,rq,d,λtw xs H' h1 h2 s1=>⟨tw,xs,rq,h1,h2,q tw xs H' h1 h2 s1⟩⟩
theorem aN (C:Code K mg "is_let_by" LR Gf) (T:Ty K mg op oe kd wk) (TQ:Good P w K mg base "is_plan" 9 Hr Yk) (Zf:Good P w K mg base "wrong" 4 Kf W8):Good P w K mg base "is_let_by" 10 Gf cL:=by
 refine C.good SN (λvs H Q E h=>?_) (λf cdv A outer s H vs Q E hr h=>?_)
 ·obtain⟨v,rfl,_⟩:=h;rfl
 obtain⟨v,rfl,nl,q⟩:=h;refine⟨_,(Ag (Ay (Fq (BR TQ hr (Aa (pv 0) Ac)) (Ed (Gx qR (BR Zf hr (Aa (pv 0) Ac)) KJ (BP _)))))),?_⟩;refine⟨_,rq,v,rq,nl,λb H1 s1 hb=>⟨b,rq,Gm (λe=>?_) (λe=>?_)⟩⟩
 ·obtain⟨t,rfl,d⟩:=hb e;exact⟨_,rq,t,rq,d.same s1,λtw xs H2 _ _ s2=>⟨rq,q _ (s1.trans s2)⟩⟩
 ·exact q _ s1
end
abbrev Ni:Stmt:=top 50
abbrev HF:YF:=["states","loop","at"]
theorem G5:Az ["states","loop","at","told","number"] HF (Aj Ni):=by ac_rfl
def stC (hs:YR) (s:Sp3):Str:=((hs.find? λx=>decide (x.1=s)).map (·.2)).getD "cut"
theorem Uo (s:Sp3):∀hs:YR,Di (stV hs) (k3 s)=(hs.find? λx=>decide (x.1=s)).map λx=>V.str x.2
 | []=>rfl
 | a::r=>by
  by_cases e:a.1=s
  ·rw[QaC (p:=λx:Sp3×Str=>decide (x.1=s)) (Qcd e)];exact IV (p:=(k3 a.1,V.str a.2)) (by rw[e])
  ·rw[QaA (p:=λx:Sp3×Str=>decide (x.1=s)) (by simpa using e),<-Uo s r];exact GK (p:=(k3 a.1,V.str a.2)) λz=>e (M7 z)
theorem kh (hs:YR) (s:Sp3):(Di (stV hs) (k3 s)).getD (.str "cut")=.str (stC hs s):=by
 rw[Uo];unfold stC;cases hs.find? λx=>decide (x.1=s) <;> rfl
theorem Mq {hs:YR} {s:Sp3} (h:s∉hs.map (·.1)):stC hs s="cut":=by
 unfold stC;rw[List.find?_eq_none.mpr λx hx=>by simpa using λe=>h (Qcs.mpr ⟨x,hx,e⟩)];rfl
def Dz (hs:YR) (lp a:Int):Nat->Nat->YV
 | 0,_=>[]
 | f+1,n=>if stC hs ⟨lp,a,(n:Int)⟩="cut" then [] else ⟨lp,a,(n:Int)⟩::Dz hs lp a f (n+1)
def Bw (hs:YR) (lp a:Int):YV:=Dz hs lp a 4 1
theorem Sy (hs:YR) (lp a:Int):∀f n,(Dz hs lp a f n).length<=f
 | 0,_=>QcD _
 | f+1,n=>by
  unfold Dz;split
  ·exact QcE _
  ·rw[QbC];have:=Sy hs lp a f (n+1);omega
inductive Yi (vs:YG) (H:Hp) (Q:VK) (E:XK):Prop
 | mk (d1 hs lp a) (_:vs=[.ref d1,.int lp,.int a]) (_:Rd H d1 (.dT (stV hs))) (_:(∀s∈hs.map (·.1),Bd3 s)) (_:∀l xs H',H l=none->H' l=some (.lst xs)->Paired (BW H') xs (Bw hs lp a)->Same H H'->Q (.ref l) H'):Yi vs H Q E
section
variable {P:Program} {w:World} {K:YD} {mg:YB} {base:Heap} {op oe kd wk C:Addr}
theorem Y5 (c:Code K mg "spur_pieces" Ni HF) (T:Tw K mg op oe kd wk C):Good P w K mg base "spur_pieces" 1 HF Yi:=by
 have sc:=G5;refine c.good G5 (λvs H Q E h=>?_) (λf cdv A outer s H vs Q E hr h=>?_)
 ·obtain⟨d1,hs,lp,a,rfl,_⟩:=h;rfl
 obtain⟨d1,hs,lp,a,rfl,hd,hb,q⟩:=h;refine⟨_,(Ae (Ba (i:=3) G5.nd rfl (Or.inl rfl) (BZ Ac))
 (Ae (Ba (i:=4) G5.nd rfl (Or.inl rfl) Af)
 (Ae (dX QbQ (Bx Xk (O1 (CK hr) (pv 0) (Bd (Aa (pv 1) (Aa (pv 2) (Aa (pv 4) Ac)))) Bf ⟨rq,rq,rq,rq⟩) Bf (BP _)) (Ae (Bo (Cy Qat Qap Qaq BX (pv 3) (Aa (Bd (Aa (pv 1) (Aa (pv 2) (Aa (pv 4) Ac)))) Ac)))
 (Ag (qJ (i:=4) G5.nd rfl (Or.inl rfl) Af rR))))
 (Ag (Ay (pv 3)))))),?_⟩
 show let R0:TS:=_;let R1:TS:=Ao _ R0;let R2:TS:=Ao (bV _ R1) _;let R3:TS:=Ao _ R2;Ao _ R3 _ _ _;intro R0 R1 R2 R3;refine⟨Ar (by show 0<=1000;decide),λl hl=>?_⟩;refine⟨λm U HH=>∃n:Nat,1<=n/\n+m=5/\U=[js d1,some (.int lp),some (.int a),js l,some (.int (n:Int))]/\(∃xs pre,HH l=some (.lst xs)/\Paired (BW HH) xs pre/\pre.length < n/\pre++Dz hs lp a m n=Bw hs lp a)/\Same H HH,⟨4,1,QcD _,rq,rq,⟨[],[],Ab,.nil,by decide,rq⟩,Ad hl _⟩,λm U HH h=>?_⟩;obtain⟨n,n1,nm,rfl,⟨xs,pre,e1,e2,e3,e4⟩,e5⟩:=h;have hdH:Rd HH d1 (.dT (stV hs)):=by
  rcases hd with hd |⟨o,hd⟩
  ·exact .inl (e5 _ _ hd)
  ·exact .inr ⟨o,e5 _ _ hd⟩
 refine⟨_,rq,d1,rq,.inr ⟨_,hdH⟩,_,rq,_,rq,_,rq,Ar (by show 3<=1000;decide),λtk htk=>?_⟩;have k1:=Ad htk (.tup [.int lp,.int a,.int (n:Int)]);have hdK:Rd (upd HH tk (.tup [.int lp,.int a,.int (n:Int)])) d1 (.dT (stV hs)):=by
  rcases hdH with hd |⟨o,hd⟩
  ·exact .inl (k1 _ _ hd)
  ·exact .inr ⟨o,k1 _ _ hd⟩
 have g:Dt (upd HH tk (.tup [.int lp,.int a,.int (n:Int)])) d1 (.ref tk) (Di (stV hs) (k3 ⟨lp,a,(n:Int)⟩)):=.inr ⟨_,_,tk,hdK,rq,Ab,rq⟩;refine⟨_,g,?_⟩;dsimp only;rw[kh];have e1k:=k1 _ _ e1;have e2k:Paired (BW (upd HH tk (.tup [.int lp,.int a,.int (n:Int)]))) xs pre:=Paired.Aw e2 λ_ _ z=>z.tups (Ak.of k1);generalize upd HH tk (.tup [.int lp,.int a,.int (n:Int)])=HK at *;have e5k:=e5.trans k1;refine⟨rq,_,rq,?_⟩;by_cases hc:stC hs ⟨lp,a,(n:Int)⟩="cut"
 ·rw[show (!decide (V.str (stC hs ⟨lp,a,(n:Int)⟩)=V.str "cut"))=false by rw[hc];decide +kernel];refine Cj ⟨_,rq,q l xs HK hl e1k ?_ e5k⟩;have:Dz hs lp a m n=[]:=by
   cases m with
   | zero=>rfl
   | succ m=>exact if_pos hc
  rw[this,QbP] at e4;rw[<-e4];exact e2k
 ·have hne:¬V.str (stC hs ⟨lp,a,(n:Int)⟩)=V.str "cut":=λz=>hc (V.str.inj z);rw[show (!decide (V.str (stC hs ⟨lp,a,(n:Int)⟩)=V.str "cut"))=true by rw[QbR hne];rfl];obtain⟨m',rfl⟩ : ∃m',m=m'+1:=by
   cases m with
   | succ m=>exact⟨m,rfl⟩
   | zero=>
    refine absurd (Mq λhin=>?_) hc;have:=(hb _ hin).n1;have h5:n=5:=by omega
    subst h5;have this:((5:Nat):Int)<=3:=this;omega
  have e4':(pre++[⟨lp,a,(n:Int)⟩])++Dz hs lp a m' (n+1)=Bw hs lp a:=by
   rw[<-e4,Qbp];show _=pre++Dz hs lp a (m'+1) n;rw[show Dz hs lp a (m'+1) n=⟨lp,a,(n:Int)⟩::Dz hs lp a m' (n+1) from if_neg hc]
   rfl
  have lx:=Qci e2k;refine BK ⟨_,fun σ' H' h=>⟨m',QbH _,h⟩,?_⟩;refine⟨_,rq,.inl ⟨rq,_,SqL.of e1k⟩,_,rq,_,rq,_,rq,Ar (by show 3<=1000;decide),λtp htp=>?_⟩;have k2':=Ad htp (.tup [.int lp,.int a,.int (n:Int)]);have e1p:=k2' _ _ e1k;have ntl:∀zs,(upd HK tp (.tup [.int lp,.int a,.int (n:Int)])) l≠some (.tup zs):=λzs z=>by rw[e1p] at z;cases z
  have sL:=Ak.upd (o:=.lst (xs++[.ref tp])) ntl;refine⟨l,_,_,rq,rq,e1p,Am (by omega),?_⟩;refine⟨_,rq,_,_,rq,rq,n+1,by omega,by omega,?_,⟨xs++[.ref tp],pre++[⟨lp,a,(n:Int)⟩],Ab,QcF ⟨tp,rq,sL _ _ Ab⟩ (Paired.Aw e2k λ_ _ z=>(z.tups (Ak.of k2')).tups sL),by rw[QaY];show _+1 < _;omega,e4'⟩,(e5k.trans k2').Bp Ah.upd hl⟩;show [some (V.ref d1),some (.int lp),some (.int a),js l,some (.int ((n:Int)+1))]=_;rw[Int.natCast_add];rfl
end
abbrev S9:Stmt:=top 51
abbrev Kh:YF:=["states","gaps","opener","step"]
theorem Gz:Az ["states","gaps","opener","step","loop","at","wires","places","pieces"] Kh (Aj S9):=by ac_rfl
abbrev Ma:Stmt:=top 52
abbrev Ik:YF:=["states","wires"]
theorem cZ:Az Ik Ik (Aj Ma):=by ac_rfl
abbrev JQ:Stmt:=top 53
abbrev Ey:YF:=["states","gaps","opener"]
theorem El:Az ["states","gaps","opener","to_b","places_to_b","to_a","places_to_a"] Ey (Aj JQ):=by ac_rfl
instance:DecidableEq Gt:=λa b=>if h:a.lp=b.lp/\a.at_=b.at_ then isTrue (by cases a;cases b;simp at h;obtain⟨h1,h2⟩:=h;subst h1 h2;rfl) else isFalse λe=>h (by rw[e];exact⟨rfl,rfl⟩)
def gpC (gs:YT) (g:Gt):Bool:=((gs.find? λx=>decide (x.1=g)).map (·.2)).getD false
theorem U3 (g:Gt):∀gs:YT,Di (gpV gs) (k2 g)=(gs.find? λx=>decide (x.1=g)).map λx=>V.bl x.2
 | []=>rfl
 | a::r=>by
  by_cases e:a.1=g
  ·rw[QaC (p:=λx:Gt×Bool=>decide (x.1=g)) (Qcd e)];exact IV (p:=(k2 a.1,V.bl a.2)) (by rw[e])
  ·rw[QaA (p:=λx:Gt×Bool=>decide (x.1=g)) (by simpa using e),<-U3 g r];exact GK (p:=(k2 a.1,V.bl a.2)) λz=>e (Tz z)
theorem BT (gs:YT) (g:Gt):(Di (gpV gs) (k2 g)).getD (.bl false)=.bl (gpC gs g):=by
 rw[U3];unfold gpC;cases gs.find? λx=>decide (x.1=g) <;> rfl
def Bb (a b:Int):Int:=if b < a then b else a
def Bc (hs:YR) (gs:YT) (lp st:Int):Nat->Int->YV×YV
 | 0,_=>([],[])
 | f+1,a=>if stC hs ⟨lp,Bb a (a+st),0⟩="cut" then ([],[]) else
  if gpC gs ⟨lp,a+st⟩=true then (⟨lp,Bb a (a+st),0⟩::Bw hs lp (a+st),⟨lp,a+st,0⟩::Bw hs lp (a+st))
  else ((⟨lp,Bb a (a+st),0⟩::Bw hs lp (a+st))++(Bc hs gs lp st f (a+st)).1,(⟨lp,a+st,0⟩::Bw hs lp (a+st))++(Bc hs gs lp st f (a+st)).2)
structure Ws (H0 H:Hp) (l1 l2:Addr) (wa pa:YV):Prop where
 w:∃xs,H l1=some (.lst xs)/\Paired (BW H) xs wa
 p:∃ys,H l2=some (.lst ys)/\Paired (BW H) ys pa
 sm:Same H0 H
theorem Ws.same {H0 H H':Hp} {l1 l2:Addr} {wa pa:YV} (h:Ws H0 H l1 l2 wa pa) (s:Same H H'):Ws H0 H' l1 l2 wa pa:=by
 obtain⟨xs,a1,a2⟩:=h.w;obtain⟨ys,b1,b2⟩:=h.p;exact⟨⟨xs,s _ _ a1,Paired.Aw a2 λ_ _ z=>z.tups (Ak.of s)⟩,⟨ys,s _ _ b1,Paired.Aw b2 λ_ _ z=>z.tups (Ak.of s)⟩,h.sm.trans s⟩
theorem Ws.FS {H0 H:Hp} {l1 l2:Addr} {wa pa ss:YV} {zs xs:YG} (h:Ws H0 H l1 l2 wa pa) (n:l1≠l2) (f:H0 l1=none) (hx:H l1=some (.lst xs)) (hz:Paired (BW H) zs ss):Ws H0 (upd H l1 (.lst (xs++zs))) l1 l2 (wa++ss) pa:=by
 obtain⟨xs',a1,a2⟩:=h.w;obtain⟨ys,b1,b2⟩:=h.p;rw[hx] at a1;cases a1;have nt:∀us,H l1≠some (.tup us):=λus z=>by rw[hx] at z;cases z
 have t:=Ak.upd (o:=.lst (xs++zs)) nt;exact⟨⟨_,Ab,Paired.app (Paired.Aw a2 λ_ _ z=>z.tups t) (Paired.Aw hz λ_ _ z=>z.tups t)⟩,⟨ys,by rw[Aq n.symm];exact b1,Paired.Aw b2 λ_ _ z=>z.tups t⟩,h.sm.Bp Ah.upd f⟩
theorem Ws.add2 {H0 H:Hp} {l1 l2:Addr} {wa pa ss:YV} {zs ys:YG} (h:Ws H0 H l1 l2 wa pa) (n:l1≠l2) (f:H0 l2=none) (hy:H l2=some (.lst ys)) (hz:Paired (BW H) zs ss):Ws H0 (upd H l2 (.lst (ys++zs))) l1 l2 wa (pa++ss):=by
 obtain⟨xs,a1,a2⟩:=h.w;obtain⟨ys',b1,b2⟩:=h.p;rw[hy] at b1;cases b1;have nt:∀us,H l2≠some (.tup us):=λus z=>by rw[hy] at z;cases z
 have t:=Ak.upd (o:=.lst (ys++zs)) nt;exact⟨⟨xs,by rw[Aq n];exact a1,Paired.Aw a2 λ_ _ z=>z.tups t⟩,⟨_,Ab,Paired.app (Paired.Aw b2 λ_ _ z=>z.tups t) (Paired.Aw hz λ_ _ z=>z.tups t)⟩,h.sm.Bp Ah.upd f⟩
inductive Xd (vs:YG) (H:Hp) (Q:VK) (E:XK):Prop
 | mk (d1 d3 o:Addr) (hs:YR) (gs:YT) (g:Gt) (st:Int) (_:vs=[.ref d1,.ref d3,.ref o,.int st]) (_:Rd H d1 (.dT (stV hs))) (_:Rd H d3 (.dT (gpV gs))) (_:H o=some (.tup [.int g.lp,.int g.at_])) (_:(∀s∈hs.map (·.1),Bd3 s)) (_:(st=1\/st=-1)) (_:-1<=g.at_) (_:g.at_<=14) (_:∀t l1 l2 xs ys H',H' t=some (.tup [.ref l1,.ref l2])->H' l1=some (.lst xs)->Paired (BW H') xs (Bc hs gs g.lp st 16 g.at_).1->H' l2=some (.lst ys)->Paired (BW H') ys (Bc hs gs g.lp st 16 g.at_).2->Same H H'->Q (.ref t) H'):Xd vs H Q E
section
variable {P:Program} {w:World} {K:YD} {mg:YB} {base:Heap} {op oe kd wk C:Addr}
theorem oE (c:Code K mg "come_to" S9 Kh) (T:Tw K mg op oe kd wk C) (bh:Good P w K mg base "spur_pieces" 1 HF Yi):Good P w K mg base "come_to" 2 Kh Xd:=by
 have sc:=Gz;refine c.good Gz (λvs H Q E h=>?_) (λf cdv A outer s H vs Q E hr h=>?_)
 ·obtain⟨d1,d3,o,hs,gs,g,st,rfl,_⟩:=h;rfl
 obtain⟨d1,d3,o,hs,gs,g,st,rfl,hd,hd3,ho,hb,hst,ga,gb,q⟩:=h;refine⟨_,(Ae (Hz (pv 2) (CT rfl (Al (Ai (i:=4) Gz.nd rfl (Or.inl rfl)) (Al (Ai (i:=5) Gz.nd rfl (Or.inl rfl)) Br))))
 (Ae (Ba (i:=6) Gz.nd rfl (Or.inl rfl) (BZ Ac))
 (Ae (Ba (i:=7) Gz.nd rfl (Or.inl rfl) (BZ Ac))
 (Ae (dX QbQ (Bx Xk (O1 (CK hr) (pv 0) (Bd (Aa (pv 4) (Aa (Av (Nb rfl) rfl T.min Ua (Aa (pv 5) (Aa (Bh Cz (pv 5) (pv 3)) Ac))) (Aa Af Ac)))) Bf ⟨rq,rq,rq,rq⟩) Bf (BP _)) (Ae (Bo (Cy Qat Qap Qaq BX (pv 6) (Aa (Bd (Aa (pv 4) (Aa (Av (Nb rfl) rfl T.min Ua (Aa (pv 5) (Aa (Bh Cz (pv 5) (pv 3)) Ac))) (Aa Af Ac)))) Ac)))
 (Ae (qJ (i:=5) Gz.nd rfl (Or.inl rfl) (pv 3) rR)
 (Ae (Ba (i:=8) Gz.nd rfl (Or.inl rfl) (Dc bh hr (Aa (pv 0) (Aa (pv 4) (Aa (pv 5) Ac)))))
 (Ae (Bo (Cy Qat Qar Qas Gg (pv 6) (Aa (pv 8) Ac)))
 (Ae (Bo (Cy Qat Qap Qaq BX (pv 7) (Aa (Bd (Aa (pv 4) (Aa (pv 5) (Aa Af Ac)))) Ac)))
 (Ae (Bo (Cy Qat Qar Qas Gg (pv 7) (Aa (pv 8) Ac)))
 (Ag (Cu (vN (O1 (CK hr) (pv 1) (Bd (Aa (pv 4) (Aa (pv 5) Ac))) DK ⟨rq,rq,rq,rq⟩) (λ_=>rfl)) (Ag Ox) BJ)))))))))
 (Ag (Ay (Bd (Aa (pv 6) (Aa (pv 7) Ac))))))))),?_⟩
 show let R0:TS:=_;let R1:TS:=_;let R2:TS:=Ao _ R1;let R3:TS:=Ao _ R2;let R4:TS:=Ao _ R3;let R5:TS:=Ao _ R4;let R6:TS:=Ao _ R5;let R7:TS:=Ao _ R6;let R8:TS:=Ao (bV _ R7) R0;let R9:TS:=Ao _ R8;let R10:TS:=Ao _ R9;Ao _ R10 _ _ _;intro R0 R1 R2 R3 R4 R5 R6 R7 R8 R9 R10;refine⟨_,rq,o,_,rq,SqT.of ho,rq,_,_,rq,_,_,rq,rq,?_⟩;refine⟨Ar (by show 0<=1000;decide),λl1 hl1=>?_⟩;refine⟨Ar (by show 0<=1000;decide),λl2 hl2=>?_⟩;have n1:=Ad hl1 (.lst []);have n2:=Ad hl2 (.lst []);have hl2':H l2=none:=n1.free hl2;have n12:l1≠l2:=Ax Ab hl2;have rdS:∀{HA HB:Hp} {d:Addr} {u:HO},Rd HA d u->Same HA HB->Rd HB d u:=λh s=>by
  rcases h with h |⟨o,h⟩
  ·exact .inl (s _ _ h)
  ·exact .inr ⟨o,s _ _ h⟩
 have hm0:(st=1/\g.at_+((16:Nat):Int)=g.at_+16)\/(st=-1/\g.at_ - ((16:Nat):Int)=g.at_ - 16):=by
  rcases hst with h | h
  ·exact .inl ⟨h,by omega⟩
  ·exact .inr ⟨h,by omega⟩
 refine⟨λm U HH=>∃(a:Int) (u8:Option V) (wa pa:YV),((st=1/\a+m=g.at_+16)\/(st=-1/\a - m=g.at_ - 16))/\U=[js d1,js d3,js o,some (.int st),some (.int g.lp),some (.int a),js l1,js l2,u8]/\Ws H HH l1 l2 wa pa/\wa.length+10*m<=160/\pa.length+10*m<=160/\wa++(Bc hs gs g.lp st m a).1=(Bc hs gs g.lp st 16 g.at_).1/\pa++(Bc hs gs g.lp st m a).2=(Bc hs gs g.lp st 16 g.at_).2,⟨16,g.at_,_,[],[],hm0,rq,⟨⟨[],n2 _ _ Ab,.nil⟩,⟨[],Ab,.nil⟩,n1.trans n2⟩,by decide,by decide,rq,rq⟩,λm U HH h=>?_⟩;obtain⟨a,u8,wa,pa,hm,rfl,W,e5,e6,e7,e8⟩:=h;refine⟨_,rq,d1,rq,.inr ⟨_,rdS hd W.sm⟩,_,rq,_,rq,_,rq,_,rq,_,_,rq,rq,_,_,rq,Ar (by show 3<=1000;decide),λtk htk=>?_⟩;rw[show (if a+st < a then a+st else a)=Bb a (a+st) from rfl]
 have k1:=Ad htk (.tup [.int g.lp,.int (Bb a (a+st)),.int 0]);have W1:=W.same k1;have gg:Dt (upd HH tk (.tup [.int g.lp,.int (Bb a (a+st)),.int 0])) d1 (.ref tk) (Di (stV hs) (k3 ⟨g.lp,Bb a (a+st),0⟩)):=.inr ⟨_,_,tk,rdS hd W1.sm,rq,Ab,rq⟩;refine⟨_,gg,?_⟩;dsimp only;rw[kh];generalize upd HH tk (.tup [.int g.lp,.int (Bb a (a+st)),.int 0])=HK at *;refine⟨rq,_,rq,?_⟩;have done:∀(HX:Hp) (wx px:YV) (u:Option V) (aa:Int),Ws H HX l1 l2 wx px->wx=(Bc hs gs g.lp st 16 g.at_).1->px=(Bc hs gs g.lp st 16 g.at_).2->∀t,HX t=none->Q (.ref t) (upd HX t (.tup [.ref l1,.ref l2])):=λHX wx px u aa WX ew ep t ht=>by
  have kt:=Ad ht (.tup [.ref l1,.ref l2]);have WT:=WX.same kt;obtain⟨xs,a1,a2⟩:=WT.w;obtain⟨ys,b1,b2⟩:=WT.p;rw[ew] at a2;rw[ep] at b2;exact q t l1 l2 xs ys _ Ab a1 a2 b1 b2 WT.sm
 by_cases hc:stC hs ⟨g.lp,Bb a (a+st),0⟩="cut"
 ·rw[show (!decide (V.str (stC hs ⟨g.lp,Bb a (a+st),0⟩)=V.str "cut"))=false by rw[hc];decide +kernel];have hz:Bc hs gs g.lp st m a=([],[]):=by
   cases m with
   | zero=>rfl
   | succ m=>exact if_pos hc
  rw[hz,QbP] at e7 e8;exact Cj ⟨_,rq,_,rq,Ar (by show 2<=1000;decide),λt ht=>done HK wa pa u8 a W1 e7 e8 t ht⟩
 ·have hne:¬V.str (stC hs ⟨g.lp,Bb a (a+st),0⟩)=V.str "cut":=λz=>hc (V.str.inj z);rw[show (!decide (V.str (stC hs ⟨g.lp,Bb a (a+st),0⟩)=V.str "cut"))=true by rw[QbR hne];rfl];have hin:(⟨g.lp,Bb a (a+st),0⟩ : Sp3)∈hs.map (·.1):=Qaj λz=>hc (Mq z);have hB:=hb _ hin;have hB0:0<=Bb a (a+st):=hB.a0;have hB1:Bb a (a+st)<=12:=hB.a1;obtain⟨m',rfl⟩ : ∃m',m=m'+1:=by
   cases m with
   | succ m=>exact⟨m,rfl⟩
   | zero=>
    exfalso;unfold Bb at hB0 hB1;rcases hm with⟨h1,h2⟩|⟨h1,h2⟩
    ·rw[h1] at hB0 hB1;split at hB1 <;> omega
    ·rw[h1] at hB0 hB1;split at hB0 <;> omega
  have lsp:(Bw hs g.lp (a+st)).length<=4:=Sy _ _ _ 4 1;obtain⟨xs,a1,a2⟩:=W1.w;have lx:=Qci a2;refine BK ⟨_,fun σ' H' h=>⟨m',QbH _,h⟩,?_⟩;refine⟨_,rq,.inl ⟨rq,_,SqL.of a1⟩,_,rq,_,rq,_,rq,_,rq,_,_,rq,rq,_,_,rq,Ar (by show 3<=1000;decide),λtp htp=>?_⟩;rw[show (if a+st < a then a+st else a)=Bb a (a+st) from rfl]
  have k2':=Ad htp (.tup [.int g.lp,.int (Bb a (a+st)),.int 0]);have W2:=(W1.same k2').FS n12 hl1 (k2' _ _ a1) (zs:=[.ref tp]) (ss:=[⟨g.lp,Bb a (a+st),0⟩]) (.cons ⟨tp,rq,Ab⟩ .nil);refine⟨l1,_,_,rq,rq,k2' _ _ a1,Am (by omega),?_⟩;generalize upd (upd HK tp (.tup [.int g.lp,.int (Bb a (a+st)),.int 0])) l1 (.lst (xs++[.ref tp]))=H2 at *;refine⟨_,rq,_,rq,_,_,rq,rq,?_⟩;refine⟨_,rq,_,rq,_,rq,d1,hs,g.lp,a+st,rq,rdS hd W2.sm,hb,λlq xq H3 hlq hxq pxq s3=>?_⟩;have W3:=W2.same s3;obtain⟨xs3,a13,a23⟩:=W3.w;have lx3:=Qci a23;rw[QaY] at lx3;have lxq:=Qci pxq;have K2:lq≠l1:=λz=>by obtain⟨xs',e,_⟩:=W2.w;rw[z,e] at hlq;cases hlq
  have K0:lq≠l2:=λz=>by obtain⟨xs',e,_⟩:=W2.p;rw[z,e] at hlq;cases hlq
  refine⟨_,rq,.inl ⟨rq,_,SqL.of a13⟩,_,rq,l1,lq,_,_,rq,rq,a13,hxq,Ar (by rw[lx3,lxq];show _+1+_<=1000;omega),?_⟩;have W4:=W3.FS n12 hl1 a13 pxq;have nt3:∀us,H3 l1≠some (.tup us):=λus z=>by rw[a13] at z;cases z
  have KK:Paired (BW (upd H3 l1 (.lst (xs3++xq)))) xq (Bw hs g.lp (a+st)):=Paired.Aw pxq λ_ _ z=>z.tups (Ak.upd nt3);have NR:(upd H3 l1 (.lst (xs3++xq))) lq=some (.lst xq):=by rw[Aq K2];exact hxq
  generalize upd H3 l1 (.lst (xs3++xq))=H4 at *;obtain⟨ys4,b14,b24⟩:=W4.p;have ly4:=Qci b24;refine⟨_,rq,.inl ⟨rq,_,SqL.of b14⟩,_,rq,_,rq,Ar (by show 3<=1000;decide),λtr htr=>?_⟩;have k5:=Ad htr (.tup [.int g.lp,.int (a+st),.int 0]);have W5:=(W4.same k5).add2 n12 hl2' (k5 _ _ b14) (zs:=[.ref tr]) (ss:=[⟨g.lp,a+st,0⟩]) (.cons ⟨tr,rq,Ab⟩ .nil);refine⟨l2,_,_,rq,rq,k5 _ _ b14,Am (by omega),?_⟩;have nt5:∀us,(upd H4 tr (.tup [.int g.lp,.int (a+st),.int 0])) l2≠some (.tup us):=λus z=>by rw[k5 _ _ b14] at z;cases z
  have KI:Paired (BW (upd (upd H4 tr (.tup [.int g.lp,.int (a+st),.int 0])) l2 (.lst (ys4++[.ref tr])))) xq (Bw hs g.lp (a+st)):=Paired.Aw KK λ_ _ z=>(z.tups (Ak.of k5)).tups (Ak.upd nt5);have NO:(upd (upd H4 tr (.tup [.int g.lp,.int (a+st),.int 0])) l2 (.lst (ys4++[.ref tr]))) lq=some (.lst xq):=by rw[Aq K0];exact k5 _ _ NR
  generalize upd (upd H4 tr (.tup [.int g.lp,.int (a+st),.int 0])) l2 (.lst (ys4++[.ref tr]))=H5 at *;obtain⟨ys5,b15,b25⟩:=W5.p;have ly5:=Qci b25;rw[QaY] at ly5;refine⟨_,rq,.inl ⟨rq,_,SqL.of b15⟩,_,rq,l2,lq,_,_,rq,rq,b15,NO,Ar (by rw[ly5,lxq];show _+1+_<=1000;omega),?_⟩;have W6:=W5.add2 n12 hl2' b15 KI;generalize upd H5 l2 (.lst (ys5++xq))=H6 at *;refine⟨_,rq,d3,rq,.inr ⟨_,rdS hd3 W6.sm⟩,_,rq,_,rq,Ar (by show 2<=1000;decide),λtg htg=>?_⟩;have k7:=Ad htg (.tup [.int g.lp,.int (a+st)]);have W7:=W6.same k7;have gg7:Dt (upd H6 tg (.tup [.int g.lp,.int (a+st)])) d3 (.ref tg) (Di (gpV gs) (k2 ⟨g.lp,a+st⟩)):=.inr ⟨_,_,tg,rdS hd3 W7.sm,rq,Ab,rq⟩;refine⟨_,gg7,?_⟩;dsimp only;rw[BT];generalize upd H6 tg (.tup [.int g.lp,.int (a+st)])=H7 at *;refine⟨_,rq,Gm (λhg=>?_) (λhg=>?_)⟩
  ·have hz:Bc hs gs g.lp st (m'+1) a=(⟨g.lp,Bb a (a+st),0⟩::Bw hs g.lp (a+st),⟨g.lp,a+st,0⟩::Bw hs g.lp (a+st)):=by
    unfold Bc;rw[if_neg hc,if_pos hg]
   rw[hz] at e7 e8;exact⟨_,rq,_,rq,Ar (by show 2<=1000;decide),λt ht=>done H7 _ _ u8 a W7 (by rw[<-e7,Qbp];rfl) (by rw[<-e8,Qbp];rfl) t ht⟩
  ·have hz:Bc hs gs g.lp st (m'+1) a=((⟨g.lp,Bb a (a+st),0⟩::Bw hs g.lp (a+st))++(Bc hs gs g.lp st m' (a+st)).1,(⟨g.lp,a+st,0⟩::Bw hs g.lp (a+st))++(Bc hs gs g.lp st m' (a+st)).2):=by
    conv=>lhs;unfold Bc
    rw[if_neg hc,if_neg (by rw[hg];decide)]
   rw[hz] at e7 e8;refine⟨a+st,_,_,_,?_,rq,W7,?_,?_,by rw[<-e7];simp only[Qbp,QbL,List.nil_append],by rw[<-e8];simp only[Qbp,QbL,List.nil_append]⟩
   ·rcases hm with⟨h1,h2⟩|⟨h1,h2⟩
    ·exact .inl ⟨h1,by rw[h1];omega⟩
    ·exact .inr ⟨h1,by rw[h1];omega⟩
   ·rw[QaY,QaY];show wa.length+1+_+_<=_;omega
   ·rw[QaY,QaY];show pa.length+1+_+_<=_;omega
end
theorem cj {hs:YR} {s:Sp3} (h:¬stC hs s="cut"):s∈hs.map (·.1):=Qaj λz=>h (Mq z)
theorem cB (hs:YR) (lp a:Int):∀f n,∀s∈Dz hs lp a f n,s∈hs.map (·.1)
 | 0,_,s,h=>by cases h
 | f+1,n,s,h=>by
  unfold Dz at h;split at h
  ·cases h
  ·rename_i hc;rcases Qcj.mp h with rfl | h
   ·exact cj hc
   ·exact cB hs lp a f (n+1) s h
theorem RD (hs:YR) (gs:YT) (lp st:Int):∀f a,∀s∈(Bc hs gs lp st f a).1,s∈hs.map (·.1)
 | 0,_,s,h=>by cases h
 | f+1,a,s,h=>by
  unfold Bc at h;split at h
  ·cases h
  ·rename_i hc;have hw:∀s∈(⟨lp,Bb a (a+st),0⟩::Bw hs lp (a+st):YV),s∈hs.map (·.1):=λs h=>by
    rcases Qcj.mp h with rfl | h
    ·exact cj hc
    ·exact cB hs lp _ 4 1 s h
   split at h
   ·exact hw s h
   ·rcases QbO.mp h with h | h
    ·exact hw s h
    ·exact RD hs gs lp st f (a+st) s h
theorem T7 (hs:YR) (gs:YT) (lp st:Int):∀f a,(Bc hs gs lp st f a).1.length<=5*f
 | 0,_=>QcD _
 | f+1,a=>by
  have ih:=T7 hs gs lp st f (a+st);have ls:(Bw hs lp (a+st)).length<=4:=Sy _ _ _ 4 1;unfold Bc;split
  ·exact QcE _
  ·split
   ·show (Bw hs lp (a+st)).length+1<=_;omega
   ·have:((⟨lp,Bb a (a+st),0⟩::Bw hs lp (a+st))++(Bc hs gs lp st f (a+st)).1).length=(Bw hs lp (a+st)).length+1+(Bc hs gs lp st f (a+st)).1.length:=by rw[QaY,QbC]
    show ((⟨lp,Bb a (a+st),0⟩::Bw hs lp (a+st))++(Bc hs gs lp st f (a+st)).1).length<=_;omega
def Dk (hs:YR) (ws:YV):Bool:=ws.any λs=>decide (V.str (stC hs s)=V.str "short")
def CN (hs:YR) (gs:YT) (g:Gt):Bool:=Dk hs (Bc hs gs g.lp 1 16 g.at_).1 || Dk hs (Bc hs gs g.lp (-1) 16 g.at_).1
inductive Ur (vs:YG) (H:Hp) (Q:VK) (E:XK):Prop
 | mk (d1 l:Addr) (hs:YR) (xs:YG) (ws:YV) (_:vs=[.ref d1,.ref l]) (_:Rd H d1 (.dT (stV hs))) (_:H l=some (.lst xs)) (_:Paired (BW H) xs ws) (_:(∀s∈ws,s∈hs.map (·.1))) (_:ws.length<=200) (_:∀H',Same H H'->Q (.bl (Dk hs ws)) H'):Ur vs H Q E
inductive Xb (vs:YG) (H:Hp) (Q:VK) (E:XK):Prop
 | mk (d1 d3 o:Addr) (hs:YR) (gs:YT) (g:Gt) (_:vs=[.ref d1,.ref d3,.ref o]) (_:Rd H d1 (.dT (stV hs))) (_:Rd H d3 (.dT (gpV gs))) (_:H o=some (.tup [.int g.lp,.int g.at_])) (_:(∀s∈hs.map (·.1),Bd3 s)) (_:-1<=g.at_) (_:g.at_<=14) (_:∀H',Same H H'->Q (.bl (CN hs gs g)) H'):Xb vs H Q E
theorem rdS {HA HB:Hp} {d:Addr} {u:HO} (h:Rd HA d u) (s:Same HA HB):Rd HB d u:=by
 rcases h with h |⟨o,h⟩
 ·exact .inl (s _ _ h)
 ·exact .inr ⟨o,s _ _ h⟩
section
variable {P:Program} {w:World} {K:YD} {mg:YB} {base:Heap} {op oe kd wk C:Addr}
theorem fD (c:Code K mg "has_short" Ma Ik) (T:Tw K mg op oe kd wk C):Good P w K mg base "has_short" 1 Ik Ur:=by
 refine c.good cZ (λvs H Q E h=>?_) (λf cdv A outer s H vs Q E hr h=>?_)
 ·obtain⟨d1,l,hs,xs,ws,rfl,_⟩:=h;rfl
 obtain⟨d1,l,hs,xs,ws,rfl,hd,hl,hx,hin,UB,q⟩:=h;refine⟨_,(Ag (Ay (Av (iJ rfl) rfl T.any uF (Aa (Cw (N':=["stretch","states"]) rfl (Bk.of (src:=[none,some 0]) (Aj Ma) Ik rfl rfl rfl (by trivial) (by trivial) (by trivial) rfl (by trivial)) (CW (pv 1)) (λ_ _ _ _=>(Ai (i:=0) (show List.Nodup (["stretch","states"]:YF) by trivial) rfl (Or.inl rfl))) (λ_ _ _ _=>CZ) (λ_ _ _ _=>(Gx GF (Oc (CK hr) (pv 1) (pv 0) (λ_ _=>rfl)) Bf (BP _)))) Ac)))),?_⟩;have lx:=Qci hx;refine⟨_,rq,l,rq,⟨_,SqL.of hl⟩,λlc hlc=>?_⟩;let J0:YN:=λi U HH=>(∃u,U=[u,js d1])/\HH lc=some (.lst (((ws.take i).map λs=>decide (V.str (stC hs s)=V.str "short")).map V.bl))/\Same H HH;refine Fy (xs:=xs) J0 ⟨⟨_,rq⟩,Ab,Ad hlc _⟩ (λi U HH _ h=>SqL.of (h.2.2 _ _ hl)) (λi x U HH hxi h=>?_) (fun U HH h=>?_)
 ·obtain⟨⟨u,rfl⟩,e1,e2⟩:=h;obtain⟨sp,hsp,t,rfl,ht⟩:=Paired.Cp hx hxi;have hi:=(Qai.mp hxi).1;have hv:Di (stV hs) (k3 sp)=some (.str (stC hs sp)):=by
   have h1:=Uo sp hs;obtain⟨y,hy,ey⟩:=Qcs.mp (hin sp (QaK hsp));unfold stC;rw[h1];cases e:hs.find? λx=>decide (x.1=sp) with
   | none=>exact absurd ey (by simpa using List.find?_eq_none.mp e y hy)
   | some z=>rfl
  have gg:Dt HH d1 (.ref t) (Di (stV hs) (k3 sp)):=.inr ⟨stV hs,k3 sp,t,rdS hd e2,rq,e2 _ _ ht,rq⟩;rw[hv] at gg;unfold Eh;dsimp only;refine BK ⟨_,rq,_,rq,d1,_,rq,gg,rq,_,e1,Am (by rw[QbM,QbM,QbD];omega),⟨_,rq⟩,?_,e2.Bp Ah.upd hlc⟩;rw[Ab,QcM hsp,QbN,QbN];rfl
 ·obtain⟨_,e1,e2⟩:=h;rw[lx,QbB] at e1;refine⟨lc,_,rq,SqL.of e1,?_⟩;have:(ws.map λs=>decide (V.str (stC hs s)=V.str "short")).any id=Dk hs ws:=by unfold Dk;rw[List.any_map];rfl
  rw[this];exact q _ e2
theorem Vj (c:Code K mg "comes_to_short" JQ Ey) (T:Tw K mg op oe kd wk C) (Ql:Good P w K mg base "come_to" 2 Kh Xd) (Mi:Good P w K mg base "has_short" 1 Ik Ur):Good P w K mg base "comes_to_short" 3 Ey Xb:=by
 have sc:=El;refine c.good El (λvs H Q E h=>?_) (λf cdv A outer s H vs Q E hr h=>?_)
 ·obtain⟨d1,d3,o,hs,gs,g,rfl,_⟩:=h;rfl
 obtain⟨d1,d3,o,hs,gs,g,rfl,hd,hd3,ho,hb,ga,gb,q⟩:=h;refine⟨_,(Ae (Hz (Tf Ql hr (Aa (pv 0) (Aa (pv 1) (Aa (pv 2) (Aa Af Ac))))) (CT rfl (Al (Ai (i:=3) El.nd rfl (Or.inl rfl)) (Al (Ai (i:=4) El.nd rfl (Or.inl rfl)) Br))))
 (Ae (Hz (Tf Ql hr (Aa (pv 0) (Aa (pv 1) (Aa (pv 2) (Aa (Qd Mp Af) Ac))))) (CT rfl (Al (Ai (i:=5) El.nd rfl (Or.inl rfl)) (Al (Ai (i:=6) El.nd rfl (Or.inl rfl)) Br))))
 (Ag (Ay (nO (Cm Mi hr (Aa (pv 0) (Aa (pv 3) Ac))) (Ed (Cm Mi hr (Aa (pv 0) (Aa (pv 5) Ac))))))))),?_⟩
 show let R0:TS:=_;let R1:TS:=Ao _ R0;Ao _ R1 _ _ _;intro R0 R1;have oR:∀st,(Bc hs gs g.lp st 16 g.at_).1.length<=200:=λst=>Qcv (T7 hs gs g.lp st 16 g.at_) (by decide);refine⟨_,rq,_,rq,_,rq,d1,d3,o,hs,gs,g,1,rq,hd,hd3,ho,hb,.inl rfl,ga,gb,λt1 l1 l2 xs1 ys1 H1 ht1 hl1 hx1 _ _ s1=>⟨t1,_,rq,SqT.of ht1,rq,_,_,rq,_,_,rq,rq,?_⟩⟩;refine⟨_,rq,_,rq,_,rq,_,rq,d1,d3,o,hs,gs,g,-1,rq,rdS hd s1,rdS hd3 s1,s1 _ _ ho,hb,.inr rfl,ga,gb,λt2 l3 l4 xs2 ys2 H2 ht2 hl3 hx2 _ _ s2=>⟨t2,_,rq,SqT.of ht2,rq,_,_,rq,_,_,rq,rq,?_⟩⟩;have s12:=s1.trans s2;have NS:Paired (BW H2) xs1 (Bc hs gs g.lp 1 16 g.at_).1:=Paired.Aw hx1 λ_ _ z=>z.tups (Ak.of s2);refine⟨_,rq,_,rq,d1,l1,hs,xs1,_,rq,rdS hd s12,s2 _ _ hl1,NS,RD hs gs g.lp 1 16 g.at_,oR 1,λH3 s3=>⟨_,rq,?_⟩⟩;cases e:Dk hs (Bc hs gs g.lp 1 16 g.at_).1 with
 | true=>
  refine BK ?_;have:=q H3 (s12.trans s3);unfold CN at this;rw[e] at this;exact this
 | false=>
  refine Cj ⟨_,rq,_,rq,d1,l3,hs,xs2,_,rq,rdS hd (s12.trans s3),s3 _ _ hl3,Paired.Aw hx2 λ_ _ z=>z.tups (Ak.of s3),RD hs gs g.lp (-1) 16 g.at_,oR (-1),λH4 s4=>?_⟩;have:=q H4 (s12.trans (s3.trans s4));unfold CN at this;rw[e] at this;exact this
end
theorem GQ (pl d1 d2 d3:Addr):List.lookup ("gaps":Str) (ff pl d1 d2 d3)=some (V.ref d3):=T4 (i:=3) (fnd pl d1 d2 d3) rfl
def Wz (gs:YT):Prop:=∀x∈gs,-1<=x.1.at_/\x.1.at_<=14
abbrev Qz:Stmt:=(inClass (top 54) 11)
abbrev Jv:YF:=["self","opener"]
theorem Kz:Az ["self","opener","gap","changed"] Jv (Aj Qz):=by ac_rfl
def setG (gs:YT) (g:Gt) (b:Bool):YT:=gs.map λx=>if x.1=g then (x.1,b) else x
theorem Ot (gs:YT) (g:Gt) (b:Bool):(setG gs g b).map (·.1)=gs.map (·.1):=by
 unfold setG;rw[Qcw];refine QaT λx _=>?_;show (if x.1=g then (x.1,b) else x).1=x.1
 split <;> rfl
theorem vB (gs:YT) (g:Gt) (b:Bool):(setG gs g b).length=gs.length:=QbM ..
theorem BS {gs:YT} {g:Gt} {b:Bool} (h:g∈gs.map (·.1)):putK (gpV gs) (k2 g) (.bl b)=gpV (setG gs g b):=by
 obtain⟨x,hx,e⟩:=Qcs.mp h;rw[dU (l:=gpV gs) ⟨_,Qcs.mpr ⟨x,hx,rq⟩,by show k2 x.1=_;rw[e]⟩];unfold gpV setG;rw[Qcw,Qcw];refine QaT λy _=>?_;show (if k2 y.1=k2 g then (k2 y.1,V.bl b) else (k2 y.1,V.bl y.2))=(k2 (if y.1=g then (y.1,b) else y).1,V.bl (if y.1=g then (y.1,b) else y).2)
 by_cases e:y.1=g
 ·rw[if_pos (by rw[e]),if_pos e]
 ·rw[if_neg (λz=>e (Tz z)),if_neg e]
theorem XH {gs:YT} {g:Gt} (h:g∈gs.map (·.1)):Di (gpV gs) (k2 g)=some (.bl (gpC gs g)):=by
 obtain⟨y,hy,ey⟩:=Qcs.mp h;unfold gpC;rw[U3];cases e:gs.find? λx=>decide (x.1=g) with
 | none=>exact absurd ey (by simpa using List.find?_eq_none.mp e y hy)
 | some z=>rfl
def Ta (H:Hp) (v:V) (gs:List Gt):Prop:=∃b g,v=.ref b/\H b=some (.tup [.int g.lp,.int g.at_])/\g∈gs
theorem jw {H:Hp} {v:V} {ss:List Gt} (h:Ta H v ss):Uj (Iu H v) 2=true:=by
 obtain⟨b,s,rfl,hb,_⟩:=h;rw[Cr hb];rfl
theorem BQ {H:Hp} {v:V} {s:Gt} (h:Dw H v s):Th H v:=by
 obtain⟨u,rfl,e⟩:=h;refine⟨.inr ⟨_,e⟩,λxs ex=>?_⟩;rw[Cr e] at ex;cases ex;refine⟨by show 2<=100;decide,λy hy=>?_⟩;have:y=.int s.lp\/y=.int s.at_:=by simpa using hy
 rcases this with rfl | rfl <;> exact True.intro
inductive cP (C:Addr) (vs:YG) (H:Hp) (Q:VK) (E:XK):Prop
 | mk (p pl d1 d2 d3 hs fl gs b g) (_:vs=[.ref p,.ref b]) (_:WAt C H p pl d1 d2 d3 hs fl gs) (_:(∀s∈hs.map (·.1),Bd3 s)) (_:Wz gs) (_:H b=some (.tup [.int g.lp,.int g.at_])) (_:g∈gs.map (·.1)) (_:∀H',WAt C H' p pl d1 d2 d3 hs fl (setG gs g (CN hs gs g))->Ah d3 H H'->Q (.bl (!decide (V.bl (CN hs gs g)=V.bl (gpC gs g)))) H'):cP C vs H Q E
section
variable {P:Program} {w:World} {K:YD} {mg:YB} {base:Heap} {op oe kd wk C:Addr}
theorem D3 (c:K9 K C "act" "Wires.act" Qz Jv) (T:Tw K mg op oe kd wk C) (Ph:Good P w K mg base "are_wholes" 2 Hg PL) (JW:Good P w K mg base "comes_to_short" 3 Ey Xb):Ge P w K mg base C "act" 4 Jv (cP C):=by
 have sc:=Kz;refine c.good Kz (λvs H Q E h=>?_) (λf cdv A outer s H vs Q E hr h=>?_)
 ·obtain⟨p,pl,d1,d2,d3,hs,fl,gs,b,g,rfl,_⟩:=h;rfl
 obtain⟨p,pl,d1,d2,d3,hs,fl,gs,b,g,rfl,R,hb,hg,hbt,hin,q⟩:=h;refine⟨_,(Ae (Cu (PW.pt (Mf (Eb (Dh (Cm Ph hr (Aa (pv 1) (Aa Af Ac))))) (Mu (Mv (Tg (CK hr) (pv 1) (Et (pv 0) rfl)))))) (Ag V5) BJ)
 (Ae (Ba (i:=2) Kz.nd rfl (Or.inl rfl) (Dc JW hr (Aa (Et (pv 0) rfl) (Aa (Et (pv 0) rfl) (Aa (pv 1) Ac)))))
 (Ae (Ba (i:=3) Kz.nd rfl (Or.inl rfl) (Gx Xk (pv 2) (Oc (CK hr) (Et (pv 0) rfl) (pv 1) (λ_ _=>rfl)) (BP _)))
 (Ae (Lh (CK hr) (Et (pv 0) rfl) (pv 1) (pv 2) rfl)
 (Ag (Ay (pv 3))))))),?_⟩
 show let R0:TS:=Ao _ _;let R1:TS:=Ao _ R0;let R2:TS:=Ao _ R1;Ao _ R2 _ _ _;intro R0 R1 R2;refine⟨_,rq,.ref b,2,rq,BQ ⟨b,rq,hbt⟩,λH1 s1=>⟨_,rq,?_⟩⟩;rw[jw ⟨b,g,rq,hbt,hin⟩];have R1:=R.same s1;obtain⟨dx,hp⟩:=R1.ins;refine Cj ⟨_,rq,_,rq,p,C,dx,_,_,rq,hp,T.cl,T.Ia,GQ pl d1 d2 d3,d3,_,rq,Dt.t (k:=k2 g) R1.gp (s1 _ _ hbt),_,rq,?_⟩;rw[XH hin];obtain⟨x,hx',ex⟩:=Qcs.mp hin;have gb:=hg x hx';rw[ex] at gb;refine Cj ⟨_,rq,p,C,dx,_,_,rq,hp,T.cl,T.Hu,Hy pl d1 d2 d3,_,rq,p,C,dx,_,_,rq,hp,T.cl,T.Ia,GQ pl d1 d2 d3,_,rq,d1,d3,b,hs,gs,g,rq,.inl R1.st,.inl R1.gp,s1 _ _ hbt,hb,gb.1,gb.2,λH2 s2=>?_⟩;have R2:=R1.same s2;obtain⟨dx2,hp2⟩:=R2.ins;have s12:=s1.trans s2;have gg:=Dt.t (k:=k2 g) R2.gp (s12 _ _ hbt);rw[XH hin] at gg;refine⟨_,rq,_,rq,p,C,dx2,_,_,rq,hp2,T.cl,T.Ia,GQ pl d1 d2 d3,_,rq,d3,_,rq,gg,rq,?_⟩;have l3:=R2.l3;have hd3:=R2.gp;have npd:p≠d3:=λz=>by rw[z,hd3] at hp2;cases hp2
 have nt:∀zs,H2 d3≠some (.tup zs):=λzs z=>by rw[hd3] at z;cases z
 refine⟨_,rq,_,rq,p,C,dx2,_,_,rq,hp2,T.cl,T.Ia,GQ pl d1 d2 d3,_,rq,d3,_,rq,LC.t (k:=k2 g) hd3 (s12 _ _ hbt) (Am (by unfold gpV;rw[QbM];omega)),?_⟩;rw[BS hin];obtain⟨kvs,hk,hf⟩:=R2.fi;have sT:=Ak.upd (o:=.dT (gpV (setG gs g (CN hs gs g)))) nt;exact⟨_,rq,q _ ⟨⟨dx2,by rw[Aq npd];exact hp2⟩,by rw[Aq R2.n13];exact R2.st,⟨kvs,by rw[Aq R2.n23];exact hk,Paired.Aw hf λ_ _ z=>z.tups sT⟩,R.nd1,R.nd2,R.l1,R.l2,Ab,by rw[Ot];exact R.nd3,by rw[vB];exact R.l3,R.n13,R.n23⟩ ((Ah.of s12).trans Ah.upd)⟩
end
abbrev P0:Stmt:=top 69
abbrev Mz:YF:=["_law_plan_here"]
abbrev xL:YF:=["_law_plan_here","_law_found","_law_loop_here","_law_places"]
theorem Ky:Az xL Mz (Aj P0):=by ac_rfl
theorem jZ {α : Type} {f:Nat->List α} {k:Nat}:∀{n:Nat},k<=n->up f k <+: up f n
 | 0,h=>by rw[show k=0 by omega];exact List.prefix_refl _
 | n+1,h=>by
  by_cases e:k=n+1
  ·rw[e];exact List.prefix_refl _
  ·rw[Ea];exact List.IsPrefix.trans (jZ (by omega)) (List.prefix_append _ _)
inductive Yr (vs:YG) (H:Hp) (Q:VK) (E:XK):Prop
 | mk (pl most ja jp) (_:vs=[.ref pl]) (_:FQ H pl most ja jp) (_:∀l xs H',H l=none->H' l=some (.lst xs)->Paired (Dw H') xs (up (gtL ja) ja.length)->Same H H'->Q (.ref l) H'):Yr vs H Q E
section
variable {P:Program} {w:World} {K:YD} {mg:YB} {base:Heap} {op oe kd wk C:Addr}
abbrev xN:YF:=["_law_at","_law_loop_here","_law_places"]
theorem wF (c:Code K mg "_law_gates" P0 Mz) (T:Tw K mg op oe kd wk C):Good P w K mg base "_law_gates" 1 Mz Yr:=by
 have sc:=Ky;refine c.good Ky (λvs H Q E h=>?_) (λf cdv A outer s H vs Q E hr h=>?_)
 ·obtain⟨pl,most,ja,jp,rfl,_⟩:=h;rfl
 obtain⟨pl,most,ja,jp,rfl,pa,q⟩:=h;refine⟨_,(Ae (Ba (i:=1) Ky.nd rfl (Or.inl rfl) (BZ Ac))
 (Ae (Ck QbQ rfl (Dr rfl T.range (Aa (Av Bj rfl T.len CV (Aa (Bm Ca (pv 0) Af (λ_ _=>rfl)) Ac)) Ac)) (Ai (i:=2) Ky.nd rfl (Or.inr rfl))
 (Ae (Ba (i:=3) Ky.nd rfl (Or.inr rfl) (Bm Ca (Bm Ca (pv 0) Af (λ_ _=>rfl)) (pv 2) (λ_ _=>rfl)))
 (Ae (Bo (Cy Qat Qap Qaq BX (pv 1) (Aa (Bd (Aa (pv 2) (Aa Af Ac))) Ac)))
 (Ae (Bo (Cy Qat Qar Qas Gg (pv 1) (Aa (Cw (N':=xN) rfl (Bk.of (src:=[none,some 2,some 3]) (Aj P0) xL rfl rfl rfl (by trivial) (by trivial) (by trivial) rfl (by trivial)) (Dr rfl T.range (Aa (Av Bj rfl T.len CV (Aa (pv 3) Ac)) Ac)) (λ_ _ _ _=>(Ai (i:=0) (show List.Nodup (xN:YF) by trivial) rfl (Or.inl rfl))) (λ_ _ _ _=>(G8 (Bx GF (Bm (Oe (K:=K) rfl) (Bm (Oe (K:=K) rfl) (pv 2) (pv 0) (λ_ _=>rfl)) Af (λ_ _=>rfl)) Bf (BP _)))) (λ_ _ _ _=>(Bd (Aa (pv 1) (Aa (Bh Cz (pv 0) Af) Ac))))) Ac)))
 (Ag (Bo (Cy Qat Qap Qaq BX (pv 1) (Aa (Bd (Aa (pv 2) (Aa (Bh Cz (Av Bj rfl T.len CV (Aa (pv 3) Ac)) Af) Ac))) Ac))))))))
 (Ag (Ay (pv 1))))),?_⟩
 show let R0:TS:=_;let R1:TS:=Ao _ R0;let R2:TS:=Ao _ R1;let R3:TS:=Ao _ R2;let R4:TS:=Ao (Dm _ _ R3) _;Ao _ R4 _ _ _;intro R0 R1 R2 R3 R4;have ok:=pa.ok;obtain⟨Ls,zs,ws,zvs,f1,f2,f3,f4,f5⟩:=pa.at_;have lw:=Qci f3;have l3:=ok.hi;have o200:=eY ok;refine⟨Ar (by show 0<=1000;decide),λl hl=>?_⟩;have n1:=Ad hl (.lst []);refine⟨_,rq,pl,_,_,_,rq,rq,SqT.of (n1 _ _ f1),rq,Ls,_,rq,.inr (SqT.of (n1 _ _ f2)),_,rq,by omega,by omega,?_⟩;rw[Qbr];let J0:YN:=λk U HH=>∃u2 u3,U=[js pl,js l,u2,u3]/\(∃xs,HH l=some (.lst xs)/\Paired (Dw HH) xs (up (gtL ja) k))/\Same H HH;refine Fx J0 ⟨_,_,rq,⟨[],Ab,.nil⟩,n1⟩ (λk U HH hk h=>?_) (fun U HH h=>?_)
 ·obtain⟨u2,u3,rfl,⟨xs,e1,e2⟩,sm⟩:=h;have hwk:ws[k]?=some ws[k]:=Qao hk;obtain⟨ps,hps,t,vs',ev,ht,hpp⟩:=Paired.Cp f3 hwk;have lv:=Qci hpp;have hkl:k < ja.length:=by omega
  have okl:=ok.ok ps (QaK hps);have l12:=okl.hi;have egt:gtL ja k=(⟨k,0⟩::up (gt1 k ps) ps.length)++[⟨k,(ps.length:Int)+1⟩]:=CQ hps;have QH:atI ws ((0:Int)+(k:Int))=some (.ref t):=by rw[QcC];exact Fb (by rw[hwk,ev])
  have lx:=Qci e2;have lst:(up (gtL ja) k).length<=200:=Qcv (jZ (f:=gtL ja) (Qcx hkl)).length_le o200;have lgt:(up (gt1 (k:Int) ps) ps.length).length<=12:=by
   have:=Es (f:=gt1 (k:Int) ps) (c:=1) U0 ps.length;omega
  refine⟨_,rq,pl,_,_,_,rq,rq,SqT.of (sm _ _ f1),rq,_,rq,Ls,_,_,_,rq,rq,SqT.of (sm _ _ f2),QH,?_⟩;refine⟨_,rq,.inl ⟨rq,_,SqL.of e1⟩,_,rq,Ar (by show 2<=1000;decide),λta hta=>?_⟩;rw[QcC];have a1:=Ad hta (.tup [.int (k:Int),.int 0]);have e1a:=a1 _ _ e1;refine⟨l,_,_,rq,rq,e1a,Am (by omega),?_⟩;have ntl:∀zs,(upd HH ta (.tup [.int (k:Int),.int 0])) l≠some (.tup zs):=λzs z=>by rw[e1a] at z;cases z
  have sL:=Ak.upd (o:=.lst (xs++[.ref ta])) ntl;have p2:Paired (Dw (upd (upd HH ta (.tup [.int (k:Int),.int 0])) l (.lst (xs++[.ref ta])))) (xs++[.ref ta]) (up (gtL ja) k++[⟨k,0⟩]):=QcF ⟨ta,rq,sL _ _ Ab⟩ (Paired.Aw e2 λ_ _ z=>(z.tups (Ak.of a1)).tups sL);have hl2:(upd (upd HH ta (.tup [.int (k:Int),.int 0])) l (.lst (xs++[.ref ta]))) l=_:=Ab;have sm2:Same H (upd (upd HH ta (.tup [.int (k:Int),.int 0])) l (.lst (xs++[.ref ta]))):=(sm.trans a1).Bp Ah.upd hl;generalize upd (upd HH ta (.tup [.int (k:Int),.int 0])) l (.lst (xs++[.ref ta]))=H2 at *;refine⟨_,rq,.inl ⟨rq,_,SqL.of hl2⟩,_,rq,t,_,rq,.inr (SqT.of (sm2 _ _ ht)),_,rq,by omega,by omega,λlc hlc=>?_⟩;rw[Qbr];have nlc:l≠lc:=Ax hl2 hlc;let J1:YN:=λi U HY=>(∃u,U=[u,some (.int (k:Int)),js t])/\(∃ys,HY lc=some (.lst ys)/\Paired (Dw HY) ys (up (gt1 (k:Int) ps) i)/\ys.length<=i)/\Same H2 HY;refine K5 J1 ⟨⟨_,rq⟩,⟨[],Ab,.nil,QcD _⟩,Ad hlc _⟩ (λi U HY hi h=>?_) (fun U HY h=>?_)
  ·obtain⟨⟨u,rfl⟩,⟨ys,g1,g2,g4⟩,g3⟩:=h;have hvi:vs'[i]?=some vs'[i]:=Qao hi;obtain⟨p,hp,tp,up',wsp,ep,hpt,hpu,hpd⟩:=Paired.Cp hpp hvi;have OI:atI vs' ((0:Int)+(i:Int))=some (.ref tp):=by rw[QcC];exact Fb (by rw[hvi,ep])
   have eg1:gt1 (k:Int) ps i=if V.str p.kind=V.str "opener" then [⟨(k:Int),((1+i:Nat):Int)⟩] else []:=CQ hp
   have s2:=sm2.trans g3;refine⟨_,rq,_,rq,t,_,_,_,rq,rq,SqT.of (s2 _ _ ht),OI,tp,_,_,_,rq,rq,SqT.of (s2 _ _ hpt),rq,rq,_,rq,?_⟩;by_cases hop:V.str p.kind=V.str "opener"
   ·rw[Qcd hop];refine BK ⟨_,rq,_,rq,_,_,rq,rq,Ar (by show 2<=1000;decide),λtk htk=>?_⟩;rw[QcC];have b1:=Ad htk (.tup [.int (k:Int),.int ((i:Int)+1)]);have g1':=b1 _ _ g1;have ntc:∀zs,(upd HY tk (.tup [.int (k:Int),.int ((i:Int)+1)])) lc≠some (.tup zs):=λzs z=>by rw[g1'] at z;cases z
    have sC:=Ak.upd (o:=.lst (ys++[.ref tk])) ntc;refine⟨ys,g1',Am (by omega),⟨_,rq⟩,⟨_,Ab,?_,by rw[QaY];show _+1<=_;omega⟩,(g3.trans b1).Bp Ah.upd hlc⟩;rw[Ea,eg1,if_pos hop];refine QcF ⟨tk,rq,?_⟩ (Paired.Aw g2 λ_ _ z=>(z.tups (Ak.of b1)).tups sC);rw[sC _ _ Ab];show _=some (HO.tup [.int (k:Int),.int ((1+i:Nat):Int)]);rw[show ((1+i:Nat):Int)=(i:Int)+1 by omega]
   ·rw[QbR hop];refine Cj ⟨⟨_,rq⟩,⟨ys,g1,?_,by omega⟩,g3⟩;rw[Ea,eg1,if_neg hop,QbP];exact g2
  obtain⟨_,⟨ys,g1,g2,g4⟩,g3⟩:=h;rw[lv] at g2;have hlY:=g3 _ _ hl2;refine⟨l,lc,_,_,rq,rq,hlY,g1,Ar (by rw[QaY];show _+1+_<=_;omega),?_⟩;have ntY:∀zs,HY l≠some (.tup zs):=λzs z=>by rw[hlY] at z;cases z
  have sY:=Ak.upd (o:=.lst ((xs++[.ref ta])++ys)) ntY;have p3:Paired (Dw (upd HY l (.lst ((xs++[.ref ta])++ys)))) ((xs++[.ref ta])++ys) ((up (gtL ja) k++[⟨k,0⟩])++up (gt1 (k:Int) ps) ps.length):=Paired.app (Paired.Aw p2 λ_ _ z=>(z.tups (Ak.of g3)).tups sY) (Paired.Aw g2 λ_ _ z=>z.tups sY);have hl3:(upd HY l (.lst ((xs++[.ref ta])++ys))) l=_:=Ab;have sm3:Same H (upd HY l (.lst ((xs++[.ref ta])++ys))):=(sm2.trans g3).Bp Ah.upd hl;generalize upd HY l (.lst ((xs++[.ref ta])++ys))=H3 at *;refine⟨_,rq,.inl ⟨rq,_,SqL.of hl3⟩,_,rq,_,rq,t,_,rq,.inr (SqT.of (sm3 _ _ ht)),_,_,rq,rq,Ar (by show 2<=1000;decide),λtb htb=>?_⟩;have b3:=Ad htb (.tup [.int (k:Int),.int ((vs'.length:Int)+1)]);have e3:=b3 _ _ hl3;have nt3:∀zs,(upd H3 tb (.tup [.int (k:Int),.int ((vs'.length:Int)+1)])) l≠some (.tup zs):=λzs z=>by rw[e3] at z;cases z
  have s4:=Ak.upd (o:=.lst (((xs++[.ref ta])++ys)++[.ref tb])) nt3;refine⟨l,_,_,rq,rq,e3,Am (by rw[QaY,QaY];show _+1+_<=_;omega),_,_,rq,⟨_,Ab,?_⟩,(sm3.trans b3).Bp Ah.upd hl⟩;rw[Ea,egt,show up (gtL ja) k++((⟨k,0⟩::up (gt1 (k:Int) ps) ps.length)++[⟨k,(ps.length:Int)+1⟩])=((up (gtL ja) k++[⟨k,0⟩])++up (gt1 (k:Int) ps) ps.length)++[⟨k,(ps.length:Int)+1⟩] from by simp only[Qbp,QbL,List.nil_append]]
  refine QcF ⟨tb,rq,?_⟩ (Paired.Aw p3 λ_ _ z=>(z.tups (Ak.of b3)).tups s4);rw[s4 _ _ Ab,lv]
 ·obtain⟨u2,u3,rfl,⟨xs,e1,e2⟩,sm⟩:=h;rw[lw] at e2;exact⟨_,rq,q l xs HH hl e1 e2 sm⟩
end
abbrev VR:Stmt:=top 68
abbrev Lj:YF:=["_law_plan_here","_law_hows","_law_stops","_law_loop_here","_law_place","_law_step"]
theorem Fo:Az ["_law_plan_here","_law_hows","_law_stops","_law_loop_here","_law_place","_law_step","_law_places","_law_short","_law_spots","_law_at","_law_how","_law_way"] Lj (Aj VR):=by ac_rfl
def Dd (hw:YR) (s:Sp3):Str:=((hw.find? λx=>decide (x.1=s)).map (·.2)).getD "whole"
theorem gC (hw:YR) (s:Sp3):(Di (stV hw) (k3 s)).getD (.str "whole")=.str (Dd hw s):=by
 rw[Uo];unfold Dd;cases hw.find? λx=>decide (x.1=s) <;> rfl
def inG (sp:YT) (g:Gt):Bool:=(Di (gpV sp) (k2 g)).isSome
def bS (z:Str):Bool:=decide (V.str z=V.str "short")
def Dj (hw:YR) (lp a:Int):Nat->Nat->Bool->Bool×YV
 | 0,_,b=>(b,[])
 | f+1,n,b=>if Dd hw ⟨lp,a,(n:Int)⟩="cut" then (b,[]) else ((Dj hw lp a f (n+1) (b || bS (Dd hw ⟨lp,a,(n:Int)⟩))).1,⟨lp,a,(n:Int)⟩::(Dj hw lp a f (n+1) (b || bS (Dd hw ⟨lp,a,(n:Int)⟩))).2)
def spN (ps:List Place) (a:Int):Nat:=(ps[(a - 1).toNat]?.map λp=>p.spur.length).getD 0
def GZ (hw:YR) (sp:YT) (ps:List Place) (lp st:Int):Nat->Int->Bool->Bool×YV
 | 0,_,b=>(b,[])
 | f+1,a,b=>if Dd hw ⟨lp,Bb a (a - st),0⟩="cut" then (b,[]) else
  if a=0\/(ps.length:Int) < a then (b || bS (Dd hw ⟨lp,Bb a (a - st),0⟩),[]) else
  if inG sp ⟨lp,a⟩=true then ((Dj hw lp a (spN ps a) 1 (b || bS (Dd hw ⟨lp,Bb a (a - st),0⟩))).1,⟨lp,a,0⟩::(Dj hw lp a (spN ps a) 1 (b || bS (Dd hw ⟨lp,Bb a (a - st),0⟩))).2) else
  ((GZ hw sp ps lp st f (a+st) (Dj hw lp a (spN ps a) 1 (b || bS (Dd hw ⟨lp,Bb a (a - st),0⟩))).1).1,(⟨lp,a,0⟩::(Dj hw lp a (spN ps a) 1 (b || bS (Dd hw ⟨lp,Bb a (a - st),0⟩))).2)++(GZ hw sp ps lp st f (a+st) (Dj hw lp a (spN ps a) 1 (b || bS (Dd hw ⟨lp,Bb a (a - st),0⟩))).1).2)
section
variable {hw:YR} {sp:YT} {ps:List Place} {lp st:Int} {f:Nat} {a:Int} {b:Bool}
theorem Ss (h:Dd hw ⟨lp,Bb a (a - st),0⟩="cut"):GZ hw sp ps lp st (f+1) a b=(b,[]):=if_pos h
theorem Sq (h:¬Dd hw ⟨lp,Bb a (a - st),0⟩="cut") (h2:a=0\/(ps.length:Int) < a):GZ hw sp ps lp st (f+1) a b=(b || bS (Dd hw ⟨lp,Bb a (a - st),0⟩),[]):=(if_neg h).trans (if_pos h2)
theorem Rf (h:¬Dd hw ⟨lp,Bb a (a - st),0⟩="cut") (h2:¬(a=0\/(ps.length:Int) < a)) (h3:inG sp ⟨lp,a⟩=true):GZ hw sp ps lp st (f+1) a b=((Dj hw lp a (spN ps a) 1 (b || bS (Dd hw ⟨lp,Bb a (a - st),0⟩))).1,⟨lp,a,0⟩::(Dj hw lp a (spN ps a) 1 (b || bS (Dd hw ⟨lp,Bb a (a - st),0⟩))).2):=(if_neg h).trans ((if_neg h2).trans (if_pos h3))
theorem Vy (h:¬Dd hw ⟨lp,Bb a (a - st),0⟩="cut") (h2:¬(a=0\/(ps.length:Int) < a)) (h3:¬inG sp ⟨lp,a⟩=true):GZ hw sp ps lp st (f+1) a b=((GZ hw sp ps lp st f (a+st) (Dj hw lp a (spN ps a) 1 (b || bS (Dd hw ⟨lp,Bb a (a - st),0⟩))).1).1,(⟨lp,a,0⟩::(Dj hw lp a (spN ps a) 1 (b || bS (Dd hw ⟨lp,Bb a (a - st),0⟩))).2)++(GZ hw sp ps lp st f (a+st) (Dj hw lp a (spN ps a) 1 (b || bS (Dd hw ⟨lp,Bb a (a - st),0⟩))).1).2):=(if_neg h).trans ((if_neg h2).trans (if_neg h3))
end
theorem ZM (hw:YR) (lp a:Int):∀f n b,(Dj hw lp a f n b).2.length<=f
 | 0,_,_=>QcD _
 | f+1,n,b=>by
  unfold Dj;split
  ·exact QcE _
  ·have:=ZM hw lp a f (n+1) (b || bS (Dd hw ⟨lp,a,(n:Int)⟩));show _+1<=f+1;omega
def GX (ps:List Place) (st a:Int):Nat:=if st=1 then ((ps.length:Int)+1 - a).toNat else a.toNat
def GR (hw:YR) (sp:YT) (ps:List Place) (lp st a:Int):Bool×YV:=GZ hw sp ps lp st (GX ps st a) (a+st) false
theorem An {H0 H:Hp} {l t:Addr} {acc:YV} {s:Sp3} {xs:YG} (f:H0 l=none) (sm:Same H0 H) (hl:H l=some (.lst xs)) (hp:Paired (BW H) xs acc) (ht:H t=none) :
  (upd (upd H t (.tup [.int s.lp,.int s.at_,.int s.n])) l (.lst (xs++[.ref t]))) l=some (.lst (xs++[.ref t]))/\Paired (BW (upd (upd H t (.tup [.int s.lp,.int s.at_,.int s.n])) l (.lst (xs++[.ref t])))) (xs++[.ref t]) (acc++[s])/\Same H0 (upd (upd H t (.tup [.int s.lp,.int s.at_,.int s.n])) l (.lst (xs++[.ref t]))):=by
 have k:=Ad ht (.tup [.int s.lp,.int s.at_,.int s.n]);have e:=k _ _ hl;have nt:∀zs,(upd H t (.tup [.int s.lp,.int s.at_,.int s.n])) l≠some (.tup zs):=λzs z=>by rw[e] at z;cases z
 have sL:=Ak.upd (o:=.lst (xs++[.ref t])) nt;exact⟨Ab,QcF ⟨t,rq,sL _ _ Ab⟩ (Paired.Aw hp λ_ _ z=>(z.tups (Ak.of k)).tups sL),(sm.trans k).Bp Ah.upd f⟩
inductive W0 (vs:YG) (H:Hp) (Q:VK) (E:XK):Prop
 | mk (pl:Addr) (most:Int) (ja:YU) (jp:List Zone) (d e:Addr) (hw:YR) (sp:YT) (k:Nat) (ps:List Place) (a st:Int) (_:vs=[.ref pl,.ref d,.ref e,.int (k:Int),.int a,.int st]) (_:FQ H pl most ja jp) (_:ja[k]?=some ps) (_:H d=some (.dT (stV hw))) (_:H e=some (.dT (gpV sp))) (_:(st=1\/st=-1)) (_:0<=a) (_:a<=(ps.length:Int)+1) (_:∀t l xs H',H' t=some (.tup [.bl (GR hw sp ps k st a).1,.ref l])->H' l=some (.lst xs)->Paired (BW H') xs (GR hw sp ps k st a).2->Same H H'->Q (.ref t) H'):W0 vs H Q E
def CH (i j:Nat):TE:=fun U H Q=>∃b z,U[i]?=some (some (.bl b))/\U[j]?=some (some (.str z))/\Q (.bl (b || bS z)) H
section
variable {P:Program} {w:World} {K:YD} {mg:YB} {base:Heap} {op oe kd wk C:Addr}
theorem A2 (c:Code K mg "_law_walk" VR Lj) (T:Tw K mg op oe kd wk C):Good P w K mg base "_law_walk" 1 Lj W0:=by
 have sc:=Fo;refine c.good Fo (λvs H Q E h=>?_) (λf cdv A outer s H vs Q E hr h=>?_)
 ·obtain⟨pl,most,ja,jp,d,e,hw,sp,k,ps,a,st,rfl,_⟩:=h;rfl
 obtain⟨pl,most,ja,jp,d,e,hw,sp,k,ps,a,st,rfl,pa,hps,hd,he,hst,a0,a1,q⟩:=h;refine⟨_,(Ae (Ba (i:=6) Fo.nd rfl (Or.inl rfl) (Bm Ca (Bm Ca (pv 0) Af (λ_ _=>rfl)) (pv 3) (λ_ _=>rfl)))
 (Ae (Ba (i:=7) Fo.nd rfl (Or.inl rfl) DK)
 (Ae (Ba (i:=8) Fo.nd rfl (Or.inl rfl) (BZ Ac))
 (Ae (Ck QbQ rfl (qM rfl T.range (Aa (Bh Cz (pv 4) (pv 5)) (Aa (Bm Dv (BZ (Aa (Qd Mp Af) (Aa (Bh Cz (Av Bj rfl T.len CV (Aa (pv 6) Ac)) Af) Ac))) (Df aq rfl T.int iQ (Aa (Gx Ux (pv 5) Af (BP _)) Ac)) (λ_ _=>rfl)) (Aa (pv 5) Ac)))) (Ai (i:=9) Fo.nd rfl (Or.inl rfl))
 (Ae (Ba (i:=10) Fo.nd rfl (Or.inl rfl) (O1 (CK hr) (pv 1) (Bd (Aa (pv 3) (Aa (Av (Nb rfl) rfl T.min Ua (Aa (pv 9) (Aa (Bh eU (pv 9) (pv 5)) Ac))) (Aa Af Ac)))) Bf ⟨rq,rq,rq,rq⟩))
 (Ae (Cu (Bx GF (pv 10) Bf (BP _)) (Ag Ox) BJ)
 (Ae (Ba (i:=7) Fo.nd rfl (Or.inl rfl) (PE.weak (ta':=(CH 7 10)) (nO (pv 7) (Ed (Gx GF (pv 10) Bf (BP _)))) (fun U H Q h=>by
    obtain⟨b,z,e1,e2,q⟩:=h;refine⟨_,e1,_,rq,?_⟩;cases b with
    | true=>exact BK q
    | false=>exact Cj ⟨_,e2,rfl,q⟩)))
 (Ae (Cu (PW.pt (Mf (Bx GF (pv 9) Af (BP _)) (Mu (Bx Ux (pv 9) (Av Bj rfl T.len CV (Aa (pv 6) Ac)) (BP _))))) (Ag Ox) BJ)
 (Ae (Bo (Cy Qat Qap Qaq BX (pv 8) (Aa (Bd (Aa (pv 3) (Aa (pv 9) (Aa Af Ac)))) Ac)))
 (Ae (Ck QbQ rfl (qN rfl T.range (Aa Af (Aa (Bh Cz (Av Bj rfl T.len CV (Aa (Bm Ca (Bm Ca (pv 6) (Bh eU (pv 9) Af) (λ_ _=>rfl)) Af (λ_ _=>rfl)) Ac)) Af) Ac))) (Ai (i:=11) Fo.nd rfl (Or.inl rfl))
 (Ae (Ba (i:=10) Fo.nd rfl (Or.inl rfl) (O1 (CK hr) (pv 1) (Bd (Aa (pv 3) (Aa (pv 9) (Aa (pv 11) Ac)))) Bf ⟨rq,rq,rq,rq⟩))
 (Ae (Cu (Bx GF (pv 10) Bf (BP _)) (Ag Ox) BJ)
 (Ae (Ba (i:=7) Fo.nd rfl (Or.inl rfl) (PE.weak (ta':=(CH 7 10)) (nO (pv 7) (Ed (Gx GF (pv 10) Bf (BP _)))) (fun U H Q h=>by
    obtain⟨b,z,e1,e2,q⟩:=h;refine⟨_,e1,_,rq,?_⟩;cases b with
    | true=>exact BK q
    | false=>exact Cj ⟨_,e2,rfl,q⟩)))
 (Ag (Bo (Cy Qat Qap Qaq BX (pv 8) (Aa (Bd (Aa (pv 3) (Aa (pv 9) (Aa (pv 11) Ac)))) Ac))))))))
 (Ag (Cu (Mv (Ti (CK hr) (Bd (Aa (pv 3) (Aa (pv 9) Ac))) (pv 2))) (Ag Ox) BJ)))))))))
 (Ag (Ay (Bd (Aa (pv 7) (Aa (pv 8) Ac))))))))),?_⟩
 show let R0:TS:=_;let R1:TS:=_;let R2:TS:=_;let R3:TS:=Ao _ R2;let R4:TS:=Ao _ R3;let R5:TS:=Ao _ R4;let R6:TS:=Ao (Dm _ _ R5) R1;let R7:TS:=Ao _ R6;let R8:TS:=Ao _ R7;let R9:TS:=Ao _ R8;let R10:TS:=Ao _ R9;let R11:TS:=Ao _ R10;let R12:TS:=Ao (Dm _ _ R11) R0;let R13:TS:=Ao _ R12;let R14:TS:=Ao _ R13;Ao _ R14 _ _ _;intro R0 R1 R2 R3 R4 R5 R6 R7 R8 R9 R10 R11 R12 R13 R14;have ok:=pa.ok;obtain⟨Ls,zs,ws,zvs,f1,f2,f3,f4,f5⟩:=pa.at_;have lw:=Qci f3;have hkl:=(Qai.mp hps).1;have hwk:ws[k]?=some ws[k]:=Qao (by omega);obtain⟨ps',Hi,t,vs',ev,ht,hpp⟩:=Paired.Cp f3 hwk;rw[hps] at Hi;cases Hi;have lv:=Qci hpp;have okl:=ok.ok ps (QaK hps);have l12:=okl.hi;have QH:atI ws (k:Int)=some (.ref t):=Fb (by rw[hwk,ev]);obtain⟨tot,htot⟩ : ∃tot,GR hw sp ps k st a=tot:=⟨_,rfl⟩;obtain⟨n,hnn⟩ : ∃n,GX ps st a=n:=⟨_,rfl⟩;have nE:(st=1/\(n:Int)=(ps.length:Int)+1 - a)\/(st=-1/\(n:Int)=a):=by
  rw[<-hnn];unfold GX;rcases hst with h | h
  ·rw[if_pos h];exact .inl ⟨h,by omega⟩
  ·rw[if_neg (by omega)];exact .inr ⟨h,by omega⟩
 unfold GR at htot;rw[hnn] at htot;have q:∀t l xs H',H' t=some (.tup [.bl tot.1,.ref l])->H' l=some (.lst xs)->Paired (BW H') xs tot.2->Same H H'->Q (.ref t) H':=by
  intro t l xs H' h1 h2 h3 h4;refine q t l xs H' ?_ h2 ?_ h4
  ·unfold GR;rw[hnn,htot];exact h1
  ·unfold GR;rw[hnn,htot];exact h3
 refine⟨_,rq,pl,_,_,_,rq,rq,SqT.of f1,rq,_,rq,Ls,_,_,_,rq,rq,SqT.of f2,QH,?_⟩;refine⟨Ar (by show 0<=1000;decide),λl hl=>?_⟩;have n1:=Ad hl (.lst []);refine OK ?_;dsimp only;show Ao (Dm _ _ _) _ _ _ _;refine SM (fun U HH=>∃(u9 u10 u11:Option V) (xs:YG),U=[js pl,js d,js e,some (.int (k:Int)),some (.int a),some (.int st),js t,some (.bl tot.1),js l,u9,u10,u11]/\HH l=some (.lst xs)/\Paired (BW HH) xs tot.2/\Same H HH) (fun U HH h=>?_) (λD' hn=>?_)
 ·obtain⟨u9,u10,u11,xs,rfl,e1,e2,e3⟩:=h;refine⟨_,rq,_,rq,Ar (by show 2<=1000;decide),λtt htt=>?_⟩;have kt:=Ad htt (.tup [.bl tot.1,.ref l]);exact q tt l xs _ Ab (kt _ _ e1) (Paired.Aw e2 λ_ _ z=>z.tups (Ak.of kt)) (e3.trans kt)
 have hat:∀m:Nat,atI [V.int (-1),V.int ((m:Int)+2)] (if decide (0 < st)=true then 1 else 0)=some (.int (if st=1 then (m:Int)+2 else -1)):=λm=>by
  rcases hst with rfl | rfl <;> rfl
 refine⟨_,rq,_,rq,_,_,rq,rq,_,rq,_,rq,t,_,rq,.inr (SqT.of (n1 _ _ ht)),_,_,rq,rq,Ar (by show 2<=1000;decide),λlr hlr=>?_⟩;have n2:=Ad hlr (.lst [V.int (-1),V.int ((vs'.length:Int)+2)]);have e1:=n2 _ _ (Ab (H:=H) (a:=l) (o:=.lst []));refine⟨_,rq,_,_,rq,rq,.inr ⟨_,rq,lr,_,_,_,rq,rq,SqL.of Ab,hat vs'.length,_,rq,_,_,_,rq,hst,?_,?_⟩⟩
 ·rcases hst with h | h
  ·rw[h,if_pos rfl];omega
  ·rw[h,if_neg (by decide)];omega
 have hnr:(if st=1 then ((if st=1 then (vs'.length:Int)+2 else -1) - (a+st)).toNat else (a+st - (if st=1 then (vs'.length:Int)+2 else -1)).toNat)=n:=by
  rcases nE with⟨h,h'⟩|⟨h,h'⟩
  ·rw[if_pos h,if_pos h,h,lv];omega
  ·rw[if_neg (by omega),if_neg (by omega),h];omega
 rw[hnr];have sm1:=n1.trans n2;generalize upd (upd H l (.lst [])) lr _=H1 at *;let J0:YN:=λi U HH=>∃(b:Bool) (acc:YV) (x:Int) (u9 u10 u11:Option V) (xs:YG),x=a+st+(i:Int)*st/\U=[js pl,js d,js e,some (.int (k:Int)),some (.int a),some (.int st),js t,some (.bl b),js l,u9,u10,u11]/\HH l=some (.lst xs)/\Paired (BW HH) xs acc/\Same H HH/\acc.length<=4*i/\(GZ hw sp ps k st (n - i) x b).1=tot.1/\acc++(GZ hw sp ps k st (n - i) x b).2=tot.2;refine pJ J0 ⟨false,[],a+st,_,_,_,[],by simp,rq,e1,.nil,sm1,QcD _,by rw[<-htot];rfl,by rw[<-htot];rfl⟩ (λi U HH hi h=>?_) (fun U HH h=>?_)
 ·obtain⟨b,acc,x,u9,u10,u11,xs,hx,rfl,e1,e2,sm,la,w1,w2⟩:=h;obtain⟨m,hm⟩ : ∃m,n - i=m+1:=⟨n - i - 1,by omega⟩;have hm':n - (i+1)=m:=by omega
  rw[hm] at w1 w2;rw[<-hx];have TW:0<=x/\x<=(ps.length:Int)+1:=by
   rcases nE with⟨h1,h2⟩|⟨h1,h2⟩
   ·rw[h1] at hx;omega
   ·rw[h1] at hx;omega
  have Up:i<=13:=by
   rcases nE with⟨h1,h2⟩|⟨h1,h2⟩ <;> omega
  have lxs:=Qci e2;refine⟨_,rq,d,rq,.inr ⟨_,.inl (sm _ _ hd)⟩,_,rq,_,rq,_,rq,_,rq,_,_,rq,rq,_,_,rq,Ar (by show 3<=1000;decide),λtk htk=>?_⟩;rw[show (if x - st < x then x - st else x)=Bb x (x - st) from rfl]
  have k1:=Ad htk (.tup [.int (k:Int),.int (Bb x (x - st)),.int 0]);have gg:Dt (upd HH tk (.tup [.int (k:Int),.int (Bb x (x - st)),.int 0])) d (.ref tk) (Di (stV hw) (k3 ⟨(k:Int),Bb x (x - st),0⟩)):=.inr ⟨_,_,tk,.inl ((sm.trans k1) _ _ hd),rq,Ab,rq⟩;refine⟨_,gg,?_⟩;dsimp only;rw[gC];have e1k:=k1 _ _ e1;have e2k:Paired (BW (upd HH tk (.tup [.int (k:Int),.int (Bb x (x - st)),.int 0]))) xs acc:=Paired.Aw e2 λ_ _ z=>z.tups (Ak.of k1);have smk:=sm.trans k1;generalize upd HH tk (.tup [.int (k:Int),.int (Bb x (x - st)),.int 0])=HK at *;refine⟨_,rq,rq,_,rq,Gm (λhc=>?_) (λhc=>?_)⟩
  ·have yx:Dd hw ⟨(k:Int),Bb x (x - st),0⟩="cut":=V.str.inj (Qbt hc);rw[Ss yx] at w1 w2;have et:tot=(b,acc):=Prod.ext w1.symm (by rw[<-w2,QbP]);subst et;exact hn _ _ ⟨_,_,_,xs,rq,e1k,e2k,smk⟩
  have hnc:¬Dd hw ⟨(k:Int),Bb x (x - st),0⟩="cut":=λz=>of_decide_eq_false hc (by rw[z]);refine⟨b,_,rq,rq,?_⟩;have brk:(x=0\/(ps.length:Int) < x)->tot=(b || bS (Dd hw ⟨(k:Int),Bb x (x - st),0⟩),acc):=λhh=>by
   rw[Sq hnc hh] at w1 w2;exact Prod.ext w1.symm (by rw[<-w2,QbP])
  refine⟨_,rq,rq,_,rq,Gm (λh0=>?_) (λh0=>⟨_,rq,_,rq,t,_,rq,.inr (SqT.of (smk _ _ ht)),_,_,rq,rq,_,rq,Gm (λh1=>?_) (λh1=>?_)⟩)⟩
  ·have et:=brk (.inl (V.int.inj (Qbt h0)));subst et;exact BK (hn _ _ ⟨_,_,_,xs,rq,e1k,e2k,smk⟩)
  ·have et:=brk (.inr (by rw[<-lv];exact Qbt h1));subst et;exact hn _ _ ⟨_,_,_,xs,rq,e1k,e2k,smk⟩
  have hx':¬(x=0\/(ps.length:Int) < x):=by
   rintro (z | z)
   ·exact of_decide_eq_false h0 (by rw[z])
   ·exact of_decide_eq_false h1 (by rw[lv];exact z)
  obtain⟨j,hj,hjl⟩ : ∃j:Nat,x=(j:Int)+1/\j < ps.length:=⟨(x - 1).toNat,by omega,by omega⟩;have hvj:vs'[j]?=some vs'[j]:=Qao (by omega);obtain⟨p,hp,tp,ua,wp',ep,hp1,hp2,hp3⟩:=Paired.Cp hpp hvj;have okp:=okl.ok p (QaK hp);have TZ:=okp.spur;have lwp:=Qci hp3;have gB:spN ps x=p.spur.length:=by
   unfold spN;rw[show (x - 1).toNat=j by omega,hp];rfl
  generalize hr1:Dj hw k x (spN ps x) 1 (b || bS (Dd hw ⟨(k:Int),Bb x (x - st),0⟩))=r at *;have lr:r.2.length<=3:=by
   rw[<-hr1];have:=ZM hw k x (spN ps x) 1 (b || bS (Dd hw ⟨(k:Int),Bb x (x - st),0⟩));omega
  have e3k:=e1k;refine⟨_,rq,.inl ⟨rq,_,SqL.of e1k⟩,_,rq,_,rq,Ar (by show 3<=1000;decide),λtq htq=>⟨l,_,_,rq,rq,(Ad htq _) _ _ e1k,Am (by omega),?_⟩⟩;obtain⟨g1,g2,g3⟩:=An (s:=⟨(k:Int),x,0⟩) hl smk e1k e2k htq;generalize upd (upd HK tq (.tup [.int (k:Int),.int x,.int 0])) l (.lst (xs++[.ref tq]))=HQ at *;dsimp only;show Ao (Dm _ _ _) _ _ _ _;refine SM (fun U HI=>∃(u10 u11:Option V) (ys:YG),U=[js pl,js d,js e,some (.int (k:Int)),some (.int a),some (.int st),js t,some (.bl r.1),js l,some (.int x),u10,u11]/\HI l=some (.lst ys)/\Paired (BW HI) ys (acc++⟨(k:Int),x,0⟩::r.2)/\Same H HI) (fun U HI h=>?_) (λD2 hn2=>?_)
  ·obtain⟨u10,u11,ys,rfl,i1,i2,i3⟩:=h;refine⟨_,rq,_,rq,Ar (by show 2<=1000;decide),λtg htg=>?_⟩;have k2':=Ad htg (.tup [.int (k:Int),.int x]);have i1':=k2' _ _ i1;have i2':Paired (BW (upd HI tg (.tup [.int (k:Int),.int x]))) ys (acc++⟨(k:Int),x,0⟩::r.2):=Paired.Aw i2 λ_ _ z=>z.tups (Ak.of k2');have i3':=i3.trans k2';have gg2:Dt (upd HI tg (.tup [.int (k:Int),.int x])) e (.ref tg) (Di (gpV sp) (k2 ⟨(k:Int),x⟩)):=.inr ⟨_,_,tg,.inl (i3' _ _ he),rq,Ab,rq⟩;generalize upd HI tg (.tup [.int (k:Int),.int x])=HJ at *;refine⟨_,rq,e,_,rq,gg2,_,rq,Gm (λhg=>?_) (λhg=>?_)⟩
   ·rw[Rf hnc hx' hg,hr1] at w1 w2;have et:tot=(r.1,acc++⟨(k:Int),x,0⟩::r.2):=Prod.ext w1.symm w2.symm;subst et;exact hn _ _ ⟨_,_,_,ys,rq,i1',i2',i3'⟩
   ·rw[Vy hnc hx' (by unfold inG;rw[hg];decide),hr1] at w1 w2;refine⟨r.1,_,x+st,_,_,_,ys,?_,rq,i1',i2',i3',?_,?_,?_⟩
    ·rw[hx,Int.natCast_add,Int.add_mul,show ((1:Nat):Int)=1 from rfl,Int.one_mul]
     omega
    ·rw[QaY,QbC];omega
    ·rw[hm'];exact w1
    ·rw[hm',<-w2];simp only[Qbp]
  have yC:atI vs' (x - 1)=some (.ref tp):=by rw[show x - 1=(j:Int) by omega];exact Fb (by rw[hvj,ep])
  refine⟨_,rq,_,rq,_,_,rq,rq,t,_,_,_,rq,rq,SqT.of (g3 _ _ ht),yC,tp,_,_,_,rq,rq,SqT.of (g3 _ _ hp1),rq,ua,_,rq,.inr (SqT.of (g3 _ _ hp2)),_,_,rq,rq,_,_,rq,⟨by decide,by decide,by omega,by omega⟩,?_⟩;rw[show ((wp'.length:Int)+1 - 1).toNat=p.spur.length by omega];rw[gB] at hr1;let J1:YN:=λjj U HI=>∃(b':Bool) (acc':YV) (u10 u11:Option V) (ys:YG),U=[js pl,js d,js e,some (.int (k:Int)),some (.int a),some (.int st),js t,some (.bl b'),js l,some (.int x),u10,u11]/\HI l=some (.lst ys)/\Paired (BW HI) ys acc'/\Same H HI/\acc'.length<=4*i+1+jj/\(Dj hw k x (p.spur.length - jj) (1+jj) b').1=r.1/\acc'++(Dj hw k x (p.spur.length - jj) (1+jj) b').2=acc++⟨(k:Int),x,0⟩::r.2;refine Fx J1 ⟨_,_,_,_,_,rq,g1,g2,g3,by rw[QaY];show _+1<=_;omega,by rw[<-hr1];rfl,by rw[<-hr1];simp only[Qbp,QbL,List.nil_append];rfl⟩ (λjj U HI hjj h=>?_) (fun U HI h=>?_)
  ·obtain⟨b',acc',u10,u11,ys,rfl,i1,i2,i3,i4,i5,i6⟩:=h;obtain⟨m2,hm2⟩ : ∃m2,p.spur.length - jj=m2+1:=⟨p.spur.length - jj - 1,by omega⟩;have hm2':p.spur.length - (jj+1)=m2:=by omega
   rw[hm2] at i5 i6;have lys:=Qci i2;rw[show (1:Int)+(jj:Int)=((1+jj:Nat):Int) by omega];refine⟨_,rq,d,rq,.inr ⟨_,.inl (i3 _ _ hd)⟩,_,rq,_,rq,_,rq,Ar (by show 3<=1000;decide),λtk2 NW=>?_⟩;have k1:=Ad NW (.tup [.int (k:Int),.int x,.int ((1+jj:Nat):Int)]);have gg3:Dt (upd HI tk2 (.tup [.int (k:Int),.int x,.int ((1+jj:Nat):Int)])) d (.ref tk2) (Di (stV hw) (k3 ⟨(k:Int),x,((1+jj:Nat):Int)⟩)):=.inr ⟨_,_,tk2,.inl ((i3.trans k1) _ _ hd),rq,Ab,rq⟩;refine⟨_,gg3,?_⟩;dsimp only;rw[gC];have i1k:=k1 _ _ i1;have i2k:Paired (BW (upd HI tk2 (.tup [.int (k:Int),.int x,.int ((1+jj:Nat):Int)]))) ys acc':=Paired.Aw i2 λ_ _ z=>z.tups (Ak.of k1);have i3k:=i3.trans k1;generalize upd HI tk2 (.tup [.int (k:Int),.int x,.int ((1+jj:Nat):Int)])=HK2 at *;refine⟨_,rq,rq,_,rq,Gm (λhc2=>?_) (λhc2=>?_)⟩
   ·have yx:Dd hw ⟨(k:Int),x,((1+jj:Nat):Int)⟩="cut":=V.str.inj (Qbt hc2);rw[show Dj hw k x (m2+1) (1+jj) b'=(b',[]) from if_pos yx] at i5 i6
    have e5:b'=r.1:=i5;have e6:acc'=acc++⟨(k:Int),x,0⟩::r.2:=by rw[<-i6,QbP]
    rw[<-e5,<-e6] at hn2;exact hn2 _ _ ⟨_,_,ys,rq,i1k,i2k,i3k⟩
   have Of:¬Dd hw ⟨(k:Int),x,((1+jj:Nat):Int)⟩="cut":=λz=>of_decide_eq_false hc2 (by rw[z]);refine⟨b',_,rq,rq,?_⟩;refine⟨_,rq,.inl ⟨rq,_,SqL.of i1k⟩,_,rq,_,rq,_,rq,Ar (by show 3<=1000;decide),λtr htr=>⟨l,_,_,rq,rq,(Ad htr _) _ _ i1k,Am (by omega),?_⟩⟩;obtain⟨g1',g2',g3'⟩:=An (s:=⟨(k:Int),x,((1+jj:Nat):Int)⟩) hl i3k i1k i2k htr;rw[show Dj hw k x (m2+1) (1+jj) b'=((Dj hw k x m2 (1+jj+1) (b' || bS (Dd hw ⟨(k:Int),x,((1+jj:Nat):Int)⟩))).1,⟨(k:Int),x,((1+jj:Nat):Int)⟩::(Dj hw k x m2 (1+jj+1) (b' || bS (Dd hw ⟨(k:Int),x,((1+jj:Nat):Int)⟩))).2) from if_neg Of] at i5 i6
   refine⟨_,_,_,_,_,rq,g1',g2',g3',by rw[QaY];show _+1<=_;omega,?_,?_⟩
   ·rw[hm2'];exact i5
   ·rw[hm2',<-i6];simp only[Qbp,QbL,List.nil_append];rfl
  ·obtain⟨b',acc',u10,u11,ys,rfl,i1,i2,i3,i4,i5,i6⟩:=h;rw[Nat.sub_self] at i5 i6;have e5:b'=r.1:=i5;have e6:acc'=acc++⟨(k:Int),x,0⟩::r.2:=by rw[<-i6];unfold Dj;rw[QbP]
   rw[<-e5,<-e6] at hn2;exact hn2 _ _ ⟨_,_,ys,rq,i1,i2,i3⟩
 ·obtain⟨b,acc,x,u9,u10,u11,xs,hx,rfl,e1,e2,sm,la,w1,w2⟩:=h;rw[Nat.sub_self] at w1 w2;have et:tot=(b,acc):=Prod.ext w1.symm (by rw[<-w2];unfold GZ;rw[QbP]);subst et;exact hn _ _ ⟨_,_,_,xs,rq,e1,e2,sm⟩
end
abbrev Qa:Stmt:=top 70
abbrev MF:YF:=["_law_plan_here","_law_hows","_law_stops","_law_gate"]
abbrev xS:YF:=["_law_plan_here","_law_hows","_law_stops","_law_gate","_law_loop_here","_law_place"]
theorem Nv:Az xS MF (Aj Qa):=by ac_rfl
def Wx (hs hw:YR):Prop:=∀s∈hs.map (·.1),stC hs s=Dd hw s
def jd (gs sp:YT):Prop:=∀g,gpC gs g=inG sp g
theorem KR {ja:YU} {k:Nat} {ps:List Place} (hps:ja[k]?=some ps) {a n:Int}:(⟨(k:Int),a,n⟩ : Sp3)∈up (stL ja) ja.length ↔ (a=0/\n=0)\/∃(j:Nat) (p:Place),ps[j]?=some p/\a=((1+j:Nat):Int)/\0<=n/\n<=(p.spur.length:Int):=by
 have hkl:=(Qai.mp hps).1;constructor
 ·intro h;obtain⟨i,hi,h⟩:=Ew h;obtain⟨ps',Hi,h⟩:=FN h;rcases Qcj.mp h with h | h
  ·injection h with e1 e2 e3;exact .inl ⟨e2,e3⟩
  ·obtain⟨j,hj,h⟩:=Ew h;obtain⟨p,hp,h⟩:=FN h;obtain⟨m,hm,e⟩:=Qcs.mp h;injection e with e1 e2 e3;have:i=k:=by omega
   subst this;rw[hps] at Hi;cases Hi;have:=Qcg.mp hm;exact .inr ⟨j,p,hp,e2.symm,by omega,by omega⟩
 ·rintro (⟨rfl,rfl⟩|⟨j,p,hp,rfl,n0,n1⟩)
  ·exact JC (i:=k) (by unfold stL;rw[CQ hps];exact QaZ ..) hkl
  ·refine JC (i:=k) ?_ hkl;unfold stL;rw[CQ hps];refine QaL _ (JC (i:=j) ?_ (Qai.mp hp).1);unfold st1;rw[CQ hp];exact Qcs.mpr ⟨n.toNat,Qcg.mpr (by omega),by rw[QaW n0]⟩
theorem LK (hs:YR) (s:Sp3) (ws:YV):Dk hs (s::ws)=(bS (stC hs s) || Dk hs ws):=rfl
theorem m8 (hs:YR) (ws vs:YV):Dk hs (ws++vs)=(Dk hs ws || Dk hs vs):=List.any_append ..
section
variable {ja:YU} {k:Nat} {ps:List Place} {hs hw:YR} {gs sp:YT} {st:Int}
theorem VB (hps:ja[k]?=some ps) (hk:hs.map (·.1)=up (stL ja) ja.length) (rh:Wx hs hw) {j:Nat} {p:Place} (hp:ps[j]?=some p):∀(f n F:Nat) (b:Bool),1<=n->n+f=p.spur.length+1->f<=F->Dj hw k ((1+j:Nat):Int) f n b=(b || Dk hs (Dz hs k ((1+j:Nat):Int) F n),Dz hs k ((1+j:Nat):Int) F n)
 | 0,n,F,b,n1,e,hF=>by
  have hz:Dz hs k ((1+j:Nat):Int) F n=[]:=by
   cases F with
   | zero=>rfl
   | succ F=>
    refine if_pos (Mq λh=>?_);rw[hk,KR hps] at h;rcases h with⟨h1,_⟩|⟨j',p',hp',e1,_,e3⟩
    ·omega
    ·have:j'=j:=by omega
     subst this;rw[hp] at hp';cases hp';omega
  rw[hz];show (b,[])=(b || false,[]);rw[Qcr]
 | f+1,n,F+1,b,n1,e,hF=>by
  have hin:(⟨(k:Int),((1+j:Nat):Int),(n:Int)⟩ : Sp3)∈hs.map (·.1):=by
   rw[hk,KR hps];exact .inr ⟨j,p,hp,rq,by omega,by omega⟩
  have eh:=rh _ hin;by_cases hc:Dd hw ⟨(k:Int),((1+j:Nat):Int),(n:Int)⟩="cut"
  ·have e1:Dj hw k ((1+j:Nat):Int) (f+1) n b=(b,[]):=if_pos hc;have e2:Dz hs k ((1+j:Nat):Int) (F+1) n=[]:=if_pos (by rw[eh];exact hc);rw[e1,e2];show (b,[])=(b || false,[]);rw[Qcr]
  ·have e1:Dj hw k ((1+j:Nat):Int) (f+1) n b=((Dj hw k ((1+j:Nat):Int) f (n+1) (b || bS (Dd hw ⟨(k:Int),((1+j:Nat):Int),(n:Int)⟩))).1,⟨(k:Int),((1+j:Nat):Int),(n:Int)⟩::(Dj hw k ((1+j:Nat):Int) f (n+1) (b || bS (Dd hw ⟨(k:Int),((1+j:Nat):Int),(n:Int)⟩))).2):=if_neg hc;have e2:Dz hs k ((1+j:Nat):Int) (F+1) n=⟨(k:Int),((1+j:Nat):Int),(n:Int)⟩::Dz hs k ((1+j:Nat):Int) F (n+1):=if_neg (by rw[eh];exact hc);rw[e1,e2,VB hps hk rh hp f (n+1) F _ (by omega) (by omega) (by omega),LK,eh,Bool.or_assoc]
theorem bQ (hps:ja[k]?=some ps) (okl:OkL ps) (hk:hs.map (·.1)=up (stL ja) ja.length) (rh:Wx hs hw) (rg:jd gs sp) (hst:st=1\/st=-1):∀(m F:Nat) (a:Int) (b:Bool),0<=a->a<=(ps.length:Int)+1->m=GX ps st a->m < F->(GZ hw sp ps k st m (a+st) b).1=(b || Dk hs (Bc hs gs k st F a).1):=by
 have eO:∀(x:Int) (F:Nat),(st=1/\x=(ps.length:Int)+1)\/(st=-1/\x=0)->(Bc hs gs k st F x).1=[]:=λx F hx=>by
  cases F with
  | zero=>rfl
  | succ F=>
   have hc:stC hs ⟨(k:Int),Bb x (x+st),0⟩="cut":=Mq λh=>by
    rw[hk,KR hps] at h;rcases hx with⟨h1,h2⟩|⟨h1,h2⟩
    ·rw[h1,h2,show Bb ((ps.length:Int)+1) ((ps.length:Int)+1+1)=(ps.length:Int)+1 from if_neg (by omega)] at h
     rcases h with⟨h3,_⟩|⟨j,p,hp,e1,_⟩
     ·omega
     ·have:=(Qai.mp hp).1;omega
    ·rw[h1,h2] at h;rcases h with⟨h3,_⟩|⟨j,p,hp,e1,_⟩
     ·exact absurd h3 (by decide)
     ·rw[show Bb 0 (0+-1)=-1 from rfl] at e1
      omega
   rw[show Bc hs gs k st (F+1) x=([],[]) from if_pos hc]
 intro m
 induction m with
 | zero=>
  intro F a b a0 a1 hm hF;rw[eO a F (by
   unfold GX at hm;rcases hst with h | h
   ·rw[if_pos h] at hm;exact .inl ⟨h,by omega⟩
   ·rw[if_neg (by omega)] at hm;exact .inr ⟨h,by omega⟩)]
  show b=(b || false);rw[Qcr]
 | succ m ih=>
  intro F a b a0 a1 hm hF;obtain⟨F,rfl⟩ : ∃F',F=F'+1:=⟨F - 1,by omega⟩;have hN:(st=1/\a<=(ps.length:Int))\/(st=-1/\1<=a):=by
   unfold GX at hm;rcases hst with h | h
   ·rw[if_pos h] at hm;exact .inl ⟨h,by omega⟩
   ·rw[if_neg (by omega)] at hm;exact .inr ⟨h,by omega⟩
  have hN':m=GX ps st (a+st):=by
   unfold GX at hm ⊢;rcases hst with h | h
   ·rw[if_pos h] at hm ⊢;omega
   ·rw[if_neg (by omega)] at hm ⊢;omega
  have emin:Bb (a+st) (a+st - st)=Bb a (a+st):=by
   unfold Bb;rcases hst with h | h
   ·rw[h,if_pos (by omega),if_neg (by omega)];omega
   ·rw[h,if_neg (by omega),if_pos (by omega)]
  have hmin:(st=1/\Bb a (a+st)=a)\/(st=-1/\Bb a (a+st)=a - 1):=by
   unfold Bb;rcases hst with h | h
   ·rw[h,if_neg (by omega)];exact .inl ⟨rq,rq⟩
   ·rw[h,if_pos (by omega)];exact .inr ⟨rq,by omega⟩
  have hin:(⟨(k:Int),Bb a (a+st),0⟩ : Sp3)∈hs.map (·.1):=by
   rw[hk,KR hps];by_cases h0:Bb a (a+st)=0
   ·exact .inl ⟨h0,rq⟩
   ·have hb:1<=Bb a (a+st)/\Bb a (a+st)<=(ps.length:Int):=by
     rcases hN with⟨h1,h2⟩|⟨h1,h2⟩ <;> rcases hmin with⟨h3,h4⟩|⟨h3,h4⟩ <;> omega
    have hl:(Bb a (a+st) - 1).toNat < ps.length:=by omega
    exact .inr ⟨_,_,Qao hl,by omega,by omega,by omega⟩
  have eh:=rh _ hin;by_cases hc:Dd hw ⟨(k:Int),Bb a (a+st),0⟩="cut"
  ·rw[Ss (by rw[emin];exact hc),show Bc hs gs k st (F+1) a=([],[]) from if_pos (by rw[eh];exact hc)]
   show b=(b || false);rw[Qcr]
  have hc':¬Dd hw ⟨(k:Int),Bb (a+st) (a+st - st),0⟩="cut":=by rw[emin];exact hc
  have hcs:¬stC hs ⟨(k:Int),Bb a (a+st),0⟩="cut":=by rw[eh];exact hc
  have eC:∀g:Bool,gpC gs ⟨(k:Int),a+st⟩=g->(Bc hs gs k st (F+1) a).1=(⟨(k:Int),Bb a (a+st),0⟩::Bw hs k (a+st))++if g=true then [] else (Bc hs gs k st F (a+st)).1:=λg hg=>by
   show (if stC hs ⟨(k:Int),Bb a (a+st),0⟩="cut" then ([],[]) else if gpC gs ⟨(k:Int),a+st⟩=true then (⟨(k:Int),Bb a (a+st),0⟩::Bw hs k (a+st),⟨(k:Int),a+st,0⟩::Bw hs k (a+st)) else ((⟨(k:Int),Bb a (a+st),0⟩::Bw hs k (a+st))++(Bc hs gs k st F (a+st)).1,(⟨(k:Int),a+st,0⟩::Bw hs k (a+st))++(Bc hs gs k st F (a+st)).2)).1=_
   rw[if_neg hcs,hg];cases g with
   | true=>rw[if_pos rfl,if_pos rfl,QbP]
   | false=>rw[if_neg (by decide),if_neg (by decide)]
  by_cases hx:a+st=0\/(ps.length:Int) < a+st
  ·have ho:(st=1/\a+st=(ps.length:Int)+1)\/(st=-1/\a+st=0):=by
    rcases hN with⟨h1,h2⟩|⟨h1,h2⟩
    ·exact .inl ⟨h1,by omega⟩
    ·exact .inr ⟨h1,by omega⟩
   have hsp:Bw hs k (a+st)=[]:=by
    refine if_pos (Mq λh=>?_);rw[hk,KR hps] at h;rcases h with⟨_,h⟩|⟨j,p,hp,e1,_⟩
    ·exact absurd h (by decide)
    ·have:=(Qai.mp hp).1;omega
   rw[Sq hc' hx,emin,eC _ rfl,hsp,eO _ _ ho];show (b || bS _)=(b || Dk hs ([_]++if _ then [] else []))
   rw[ite_self,QbP,LK,eh];show _=(b || (_ || false));rw[Qcr]
  ·obtain⟨j,hj,hjl⟩ : ∃j:Nat,a+st=((1+j:Nat):Int)/\j < ps.length:=⟨(a+st - 1).toNat,by omega,by omega⟩;have hp:ps[j]?=some ps[j]:=Qao hjl;have gB:spN ps (a+st)=ps[j].spur.length:=by
    unfold spN;rw[show (a+st - 1).toNat=j by omega,hp];rfl
   have h3:=(okl.ok _ (List.getElem_mem hjl)).spur;have esp:∀bb,Dj hw k (a+st) (spN ps (a+st)) 1 bb=(bb || Dk hs (Bw hs k (a+st)),Bw hs k (a+st)):=λbb=>by
    rw[gB,hj];exact VB hps hk rh hp _ 1 4 bb (QcD _) (by omega) (by omega)
   have eg:=rg ⟨(k:Int),a+st⟩;by_cases hg:inG sp ⟨(k:Int),a+st⟩=true
   ·rw[Rf hc' hx hg,emin,esp,eC true (by rw[eg];exact hg),if_pos rfl,QbP,LK,eh,<-Bool.or_assoc]
   ·have hg':inG sp ⟨(k:Int),a+st⟩=false:=by simpa using hg
    rw[Vy hc' hx hg,emin,esp,eC false (by rw[eg];exact hg'),if_neg (by decide),m8,LK,eh];show (GZ hw sp ps k st m (a+st+st) _).1=_;rw[ih F (a+st) _ (by omega) (by omega) hN' (by omega)];simp only[Bool.or_assoc]
def inn (ps:List Place) (s:Sp3):Bool:=decide (1<=s.at_)&&decide (s.at_<=(ps.length:Int))
theorem EH {ps:List Place} {x:Int} (h1:1<=x) (h2:x<=(ps.length:Int)) {l:YV} (h:∀s∈l,s.at_=x):l.filter (inn ps)=l:=List.filter_eq_self.mpr λs hs=>by
 unfold inn;rw[h s hs,Qcd h1,Qcd h2];rfl
theorem Oj (hs:YR) (lp a:Int):∀f n,∀s∈Dz hs lp a f n,s.at_=a/\(n:Int)<=s.n
 | 0,_,s,h=>by cases h
 | f+1,n,s,h=>by
  unfold Dz at h;split at h
  ·cases h
  ·rcases Qcj.mp h with rfl | h
   ·exact⟨rq,Int.le_refl _⟩
   ·have:=Oj hs lp a f (n+1) s h;exact⟨this.1,by omega⟩
theorem qu (hps:ja[k]?=some ps) (okl:OkL ps) (hk:hs.map (·.1)=up (stL ja) ja.length) (rh:Wx hs hw) (rg:jd gs sp) (hst:st=1\/st=-1):∀(m F:Nat) (a:Int) (b:Bool),0<=a->a<=(ps.length:Int)+1->m=GX ps st a->m < F->(GZ hw sp ps k st m (a+st) b).2=(Bc hs gs k st F a).2.filter (inn ps):=by
 have eO:∀(x:Int) (F:Nat),(st=1/\x=(ps.length:Int)+1)\/(st=-1/\x=0)->(Bc hs gs k st F x).2=[]:=λx F hx=>by
  cases F with
  | zero=>rfl
  | succ F=>
   have hc:stC hs ⟨(k:Int),Bb x (x+st),0⟩="cut":=Mq λh=>by
    rw[hk,KR hps] at h;rcases hx with⟨h1,h2⟩|⟨h1,h2⟩
    ·rw[h1,h2,show Bb ((ps.length:Int)+1) ((ps.length:Int)+1+1)=(ps.length:Int)+1 from if_neg (by omega)] at h
     rcases h with⟨h3,_⟩|⟨j,p,hp,e1,_⟩
     ·omega
     ·have:=(Qai.mp hp).1;omega
    ·rw[h1,h2] at h;rcases h with⟨h3,_⟩|⟨j,p,hp,e1,_⟩
     ·exact absurd h3 (by decide)
     ·rw[show Bb 0 (0+-1)=-1 from rfl] at e1
      omega
   rw[show Bc hs gs k st (F+1) x=([],[]) from if_pos hc]
 intro m
 induction m with
 | zero=>
  intro F a b a0 a1 hm hF;rw[eO a F (by
   unfold GX at hm;rcases hst with h | h
   ·rw[if_pos h] at hm;exact .inl ⟨h,by omega⟩
   ·rw[if_neg (by omega)] at hm;exact .inr ⟨h,by omega⟩)]
  rfl
 | succ m ih=>
  intro F a b a0 a1 hm hF;obtain⟨F,rfl⟩ : ∃F',F=F'+1:=⟨F - 1,by omega⟩;have hN:(st=1/\a<=(ps.length:Int))\/(st=-1/\1<=a):=by
   unfold GX at hm;rcases hst with h | h
   ·rw[if_pos h] at hm;exact .inl ⟨h,by omega⟩
   ·rw[if_neg (by omega)] at hm;exact .inr ⟨h,by omega⟩
  have hN':m=GX ps st (a+st):=by
   unfold GX at hm ⊢;rcases hst with h | h
   ·rw[if_pos h] at hm ⊢;omega
   ·rw[if_neg (by omega)] at hm ⊢;omega
  have emin:Bb (a+st) (a+st - st)=Bb a (a+st):=by
   unfold Bb;rcases hst with h | h
   ·rw[h,if_pos (by omega),if_neg (by omega)];omega
   ·rw[h,if_neg (by omega),if_pos (by omega)]
  have hmin:(st=1/\Bb a (a+st)=a)\/(st=-1/\Bb a (a+st)=a - 1):=by
   unfold Bb;rcases hst with h | h
   ·rw[h,if_neg (by omega)];exact .inl ⟨rq,rq⟩
   ·rw[h,if_pos (by omega)];exact .inr ⟨rq,by omega⟩
  have hin:(⟨(k:Int),Bb a (a+st),0⟩ : Sp3)∈hs.map (·.1):=by
   rw[hk,KR hps];by_cases h0:Bb a (a+st)=0
   ·exact .inl ⟨h0,rq⟩
   ·have hb:1<=Bb a (a+st)/\Bb a (a+st)<=(ps.length:Int):=by
     rcases hN with⟨h1,h2⟩|⟨h1,h2⟩ <;> rcases hmin with⟨h3,h4⟩|⟨h3,h4⟩ <;> omega
    have hl:(Bb a (a+st) - 1).toNat < ps.length:=by omega
    exact .inr ⟨_,_,Qao hl,by omega,by omega,by omega⟩
  have eh:=rh _ hin;by_cases hc:Dd hw ⟨(k:Int),Bb a (a+st),0⟩="cut"
  ·rw[Ss (by rw[emin];exact hc),show Bc hs gs k st (F+1) a=([],[]) from if_pos (by rw[eh];exact hc)]
   rfl
  have hc':¬Dd hw ⟨(k:Int),Bb (a+st) (a+st - st),0⟩="cut":=by rw[emin];exact hc
  have hcs:¬stC hs ⟨(k:Int),Bb a (a+st),0⟩="cut":=by rw[eh];exact hc
  have eC:∀g:Bool,gpC gs ⟨(k:Int),a+st⟩=g->(Bc hs gs k st (F+1) a).2=(⟨(k:Int),a+st,0⟩::Bw hs k (a+st))++if g=true then [] else (Bc hs gs k st F (a+st)).2:=λg hg=>by
   show (if stC hs ⟨(k:Int),Bb a (a+st),0⟩="cut" then ([],[]) else if gpC gs ⟨(k:Int),a+st⟩=true then (⟨(k:Int),Bb a (a+st),0⟩::Bw hs k (a+st),⟨(k:Int),a+st,0⟩::Bw hs k (a+st)) else ((⟨(k:Int),Bb a (a+st),0⟩::Bw hs k (a+st))++(Bc hs gs k st F (a+st)).1,(⟨(k:Int),a+st,0⟩::Bw hs k (a+st))++(Bc hs gs k st F (a+st)).2)).2=_
   rw[if_neg hcs,hg];cases g with
   | true=>rw[if_pos rfl,if_pos rfl,QbP]
   | false=>rw[if_neg (by decide),if_neg (by decide)]
  have eF:∀g:Bool,gpC gs ⟨(k:Int),a+st⟩=g->(Bc hs gs k st (F+1) a).2.filter (inn ps)=(⟨(k:Int),a+st,0⟩::Bw hs k (a+st)).filter (inn ps)++if g=true then [] else (Bc hs gs k st F (a+st)).2.filter (inn ps):=λg hg=>by
   rw[eC g hg,Qbj];cases g with
   | true=>rfl
   | false=>rfl
  have at1:∀s∈(⟨(k:Int),a+st,0⟩::Bw hs k (a+st):YV),s.at_=a+st:=λs h=>by
   rcases Qcj.mp h with rfl | h
   ·rfl
   ·exact (Oj hs k (a+st) 4 1 s h).1
  by_cases hx:a+st=0\/(ps.length:Int) < a+st
  ·have ho:(st=1/\a+st=(ps.length:Int)+1)\/(st=-1/\a+st=0):=by
    rcases hN with⟨h1,h2⟩|⟨h1,h2⟩
    ·exact .inl ⟨h1,by omega⟩
    ·exact .inr ⟨h1,by omega⟩
   have hsp:Bw hs k (a+st)=[]:=by
    refine if_pos (Mq λh=>?_);rw[hk,KR hps] at h;rcases h with⟨_,h⟩|⟨j,p,hp,e1,_⟩
    ·exact absurd h (by decide)
    ·have:=(Qai.mp hp).1;omega
   rw[Sq hc' hx,eF _ rfl,hsp,eO _ _ ho];show []=([(⟨(k:Int),a+st,0⟩ : Sp3)].filter (inn ps))++if _ then [] else []
   rw[ite_self,QbP,Qav]
   ·rfl
   ·unfold inn;dsimp only;rcases ho with⟨_,h⟩|⟨_,h⟩
    ·rw[h,QbR (show ¬(ps.length:Int)+1<=(ps.length:Int) by omega),Bool.and_false];decide
    ·rw[h,QbR (by decide:¬(1:Int)<=0),Bool.false_and];decide
  ·obtain⟨j,hj,hjl⟩ : ∃j:Nat,a+st=((1+j:Nat):Int)/\j < ps.length:=⟨(a+st - 1).toNat,by omega,by omega⟩;have hp:ps[j]?=some ps[j]:=Qao hjl;have gB:spN ps (a+st)=ps[j].spur.length:=by
    unfold spN;rw[show (a+st - 1).toNat=j by omega,hp];rfl
   have h3:=(okl.ok _ (List.getElem_mem hjl)).spur;have esp:∀bb,Dj hw k (a+st) (spN ps (a+st)) 1 bb=(bb || Dk hs (Bw hs k (a+st)),Bw hs k (a+st)):=λbb=>by
    rw[gB,hj];exact VB hps hk rh hp _ 1 4 bb (QcD _) (by omega) (by omega)
   have eg:=rg ⟨(k:Int),a+st⟩;have ES:=EH (ps:=ps) (x:=a+st) (by omega) (by omega) at1;by_cases hg:inG sp ⟨(k:Int),a+st⟩=true
   ·rw[Rf hc' hx hg,esp,eF true (by rw[eg];exact hg),if_pos rfl,QbP,ES]
   ·have hg':inG sp ⟨(k:Int),a+st⟩=false:=by simpa using hg
    rw[Vy hc' hx hg,esp,eF false (by rw[eg];exact hg'),if_neg (by decide),ES];show _++(GZ hw sp ps k st m (a+st+st) _).2=_;rw[ih F (a+st) _ (by omega) (by omega) hN' (by omega)]
end
theorem lM {ja:YU} {g:Gt} (h:g∈up (gtL ja) ja.length):∃(k:Nat) (ps:List Place),ja[k]?=some ps/\g.lp=(k:Int)/\0<=g.at_/\g.at_<=(ps.length:Int)+1:=by
 obtain⟨k,hk,h⟩:=Ew h;obtain⟨ps,hps,h⟩:=FN h;refine⟨k,ps,hps,?_⟩;rcases QbO.mp h with h | h
 ·rcases Qcj.mp h with rfl | h
  ·exact⟨rq,by show (0:Int)<=0;decide,by show (0:Int)<=_;omega⟩
  ·obtain⟨i,hi',h⟩:=Ew h;obtain⟨h1,h2,h3⟩:=Q7 h;exact⟨h1,by rw[h2];omega,by rw[h2];omega⟩
 ·have:g=⟨(k:Int),(ps.length:Int)+1⟩:=by simpa using h
  rw[this];exact⟨rq,by show (0:Int)<=(ps.length:Int)+1;omega,Int.le_refl _⟩
theorem yM {ja:YU} {k:Nat} {ps:List Place} {hs hw:YR} {gs sp:YT} {g:Gt} (ok:Ei ja) (hps:ja[k]?=some ps) (el:g.lp=(k:Int)) (hk:hs.map (·.1)=up (stL ja) ja.length) (rh:Wx hs hw) (rg:jd gs sp) (a0:0<=g.at_) (a1:g.at_<=(ps.length:Int)+1):((GR hw sp ps k (-1) g.at_).1 || ((GR hw sp ps k 1 g.at_).1 || false))=CN hs gs g:=by
 have okl:=ok.ok ps (QaK hps);have l12:=okl.hi;unfold GR;rw[bQ hps okl hk rh rg (.inr rfl) _ 16 g.at_ false a0 a1 rfl (by unfold GX;rw[if_neg (by decide)];omega),bQ hps okl hk rh rg (.inl rfl) _ 16 g.at_ false a0 a1 rfl (by unfold GX;rw[if_pos rfl];omega)];unfold CN;rw[el,Bool.false_or,Bool.false_or,Qcr,Bool.or_comm]
inductive Ys (vs:YG) (H:Hp) (Q:VK) (E:XK):Prop
 | mk (pl:Addr) (most:Int) (ja:YU) (jp:List Zone) (d e b:Addr) (hs hw:YR) (gs sp:YT) (g:Gt) (_:vs=[.ref pl,.ref d,.ref e,.ref b]) (_:FQ H pl most ja jp) (_:H b=some (.tup [.int g.lp,.int g.at_])) (_:g∈up (gtL ja) ja.length) (_:H d=some (.dT (stV hw))) (_:H e=some (.dT (gpV sp))) (_:hs.map (·.1)=up (stL ja) ja.length) (_:Wx hs hw) (_:jd gs sp) (_:∀H',Same H H'->Q (.bl (CN hs gs g)) H'):Ys vs H Q E
section
variable {P:Program} {w:World} {K:YD} {mg:YB} {base:Heap} {op oe kd wk C:Addr}
abbrev x6:YF:=["_law_step","_law_plan_here","_law_hows","_law_stops","_law_loop_here","_law_place"]
theorem wG (c:Code K mg "_law_feels" Qa MF) (T:Tw K mg op oe kd wk C) (Wj:Good P w K mg base "_law_walk" 1 Lj W0):Good P w K mg base "_law_feels" 2 MF Ys:=by
 have sc:=Nv;refine c.good Nv (λvs H Q E h=>?_) (λf cdv A outer s H vs Q E hr h=>?_)
 ·obtain⟨pl,most,ja,jp,d,e,b,hs,hw,gs,sp,g,rfl,_⟩:=h;rfl
 obtain⟨pl,most,ja,jp,d,e,b,hs,hw,gs,sp,g,rfl,pa,hb,hg,hd,he,hk,rh,rg,q⟩:=h;refine⟨_,(Ae (Hz (pv 3) (CT rfl (Al (Ai (i:=4) Nv.nd rfl (Or.inr rfl)) (Al (Ai (i:=5) Nv.nd rfl (Or.inr rfl)) Br))))
 (Ag (Ay (Av (iJ rfl) rfl T.any uF (Aa (Cw (N':=x6) rfl (Bk.of (src:=[none,some 0,some 1,some 2,some 4,some 5]) (Aj Qa) xS rfl rfl rfl (by trivial) (by trivial) (by trivial) rfl (by trivial)) (Fp (Bd (Aa (Qd Mp Af) (Aa Af Ac)))) (λ_ _ _ _=>(Ai (i:=0) (show List.Nodup (x6:YF) by trivial) rfl (Or.inl rfl))) (λ_ _ _ _=>CZ) (λ_ _ _ _=>(Bm (Oe (K:=K) rfl) (qP Wj hr (@Aa _ _ _ _ _ (pv 1) (@Aa _ _ _ _ _ (pv 2) (@Aa _ _ _ _ _ (pv 3) (@Aa _ _ _ _ _ (pv 4) (@Aa _ _ _ _ _ (pv 5) (@Aa _ _ _ _ _ (pv 0) (@Ac _) Gv) Gv) Gv) Gv) Gv) Gv)) Af (λ_ _=>rfl)))) Ac))))),?_⟩
 show let R0:TS:=_;Ao _ R0 _ _ _;intro R0;obtain⟨k,ps,hps,el,a0,a1⟩:=lM hg;have hq:=yM pa.ok hps el hk rh rg a0 a1;rw[<-hq] at q;rw[el] at hb;refine⟨_,rq,b,_,rq,SqT.of hb,rq,_,_,rq,_,_,rq,rq,?_⟩;refine⟨_,rq,Ar (by show 2<=1000;decide),λtt htt=>?_⟩;have n1:=Ad htt (.tup [.int (-1),.int 1]);refine⟨tt,rq,⟨_,SqT.of Ab⟩,λlc hlc=>?_⟩;have n2:=Ad hlc (.lst []);have o7:=n2 _ _ (Ab (H:=H) (a:=tt) (o:=.tup [.int (-1),.int 1]));have n12:=n1.trans n2;have flc:H lc=none:=n1.free hlc;have OE:(upd (upd H tt (.tup [.int (-1),.int 1])) lc (.lst [])) lc=some (.lst []):=Ab;generalize upd (upd H tt (.tup [.int (-1),.int 1])) lc (.lst [])=H1 at *;refine Pq (xs:=[.int (-1),.int 1]) (λi U HH=>(∃u,U=[u,js pl,js d,js e,some (.int (k:Int)),some (.int g.at_)])/\HH lc=some (.lst (([(GR hw sp ps k (-1) g.at_).1,(GR hw sp ps k 1 g.at_).1].take i).map V.bl))/\HH tt=some (.tup [.int (-1),.int 1])/\Same H HH) ⟨⟨_,rq⟩,OE,o7,n12⟩ (λi U HH _ h=>SqT.of h.2.2.1) (λi x U HH hx h=>?_) (fun U HH h=>?_)
 ·obtain⟨⟨u,rfl⟩,e1,e3,e2⟩:=h;obtain⟨st,rfl,hst,hwt⟩ : ∃st:Int,x=.int st/\(st=1\/st=-1)/\[(GR hw sp ps k (-1) g.at_).1,(GR hw sp ps k 1 g.at_).1][i]?=some (GR hw sp ps k st g.at_).1:=by
   match i,hx with
   | 0,hx=>cases hx;exact⟨-1,rfl,.inr rfl,rfl⟩
   | 1,hx=>cases hx;exact⟨1,rfl,.inl rfl,rfl⟩
   | n+2,hx=>cases hx
  unfold Eh;dsimp only;refine BK ⟨_,rq,_,rq,_,rq,_,rq,_,rq,_,rq,pl,most,ja,jp,d,e,hw,sp,k,ps,g.at_,st,rq,pa.tups (Ak.of e2),hps,e2 _ _ hd,e2 _ _ he,hst,a0,a1,λt l xs H2 ht hl' _ s2=>?_⟩;have hi:=(Qai.mp hwt).1;refine⟨t,_,_,_,rq,rq,SqT.of ht,rq,_,s2 _ _ e1,Am (by rw[QbM,QbD];simp at hi ⊢;omega),⟨_,rq⟩,?_,?_,(e2.trans s2).Bp Ah.upd flc⟩
  ·rw[Ab,QcM hwt,QbN];rfl
  ·have:=s2 _ _ e3;rw[Aq (λz=>by rw[z,s2 _ _ e1] at this;cases this)];exact this
 ·obtain⟨_,e1,e3,e2⟩:=h;refine⟨lc,_,rq,SqL.of e1,?_⟩;exact q _ e2
end
abbrev Du:Stmt:=(inClass (top 54) 13)
abbrev Ek:YF:=["self"]
abbrev xm:YF:=["self","lone","near","row","opener"]
theorem Dn:Az xm Ek (Aj Du):=by ac_rfl
def lone (gs:YT):YT:=gs.map λx=>(x.1,true)
def Bs (hs:YR) (gs:YT) (g:Gt):Bool:=CN hs (lone gs) g
def Dl (hs:YR) (gs:YT):YT:=gs.map λx=>(x.1,Bs hs gs x.1)
def IK (hs:YR) (gs:YT) (L:List Gt):YT:=L.foldl (λgs g=>setG gs g (CN hs gs g)) gs
def cS (hs:YR) (gs:YT) (lp st:Int) (f:Nat) (a:Int):Bool:=Dk hs (Bc hs gs lp st f a).1
theorem Og {hs:YR} {gs:YT} {lp st:Int} {f:Nat} {a:Int}:cS hs gs lp st (f+1) a=true ↔ ¬stC hs ⟨lp,Bb a (a+st),0⟩="cut"/\(Dk hs (⟨lp,Bb a (a+st),0⟩::Bw hs lp (a+st))=true\/gpC gs ⟨lp,a+st⟩=false/\cS hs gs lp st f (a+st)=true):=by
 unfold cS;by_cases hc:stC hs ⟨lp,Bb a (a+st),0⟩="cut"
 ·rw[show Bc hs gs lp st (f+1) a=([],[]) from if_pos hc]
  constructor
  ·intro h;cases h
  ·rintro ⟨h,_⟩;exact absurd hc h
 ·cases hg:gpC gs ⟨lp,a+st⟩ with
  | true=>
   rw[show Bc hs gs lp st (f+1) a=(⟨lp,Bb a (a+st),0⟩::Bw hs lp (a+st),⟨lp,a+st,0⟩::Bw hs lp (a+st)) from (if_neg hc).trans (if_pos hg)]
   constructor
   ·intro h;exact⟨hc,.inl h⟩
   ·rintro ⟨_,h |⟨h,_⟩⟩
    ·exact h
    ·cases h
  | false=>
   rw[show Bc hs gs lp st (f+1) a=((⟨lp,Bb a (a+st),0⟩::Bw hs lp (a+st))++(Bc hs gs lp st f (a+st)).1,(⟨lp,a+st,0⟩::Bw hs lp (a+st))++(Bc hs gs lp st f (a+st)).2) from (if_neg hc).trans (if_neg (by rw[hg];decide))]
   show Dk hs (_++_)=true ↔ _;unfold Dk;rw[List.any_append,Bool.or_eq_true];constructor
   ·rintro (h | h)
    ·exact⟨hc,.inl h⟩
    ·exact⟨hc,.inr ⟨rq,h⟩⟩
   ·rintro ⟨_,h |⟨_,h⟩⟩
    ·exact .inl h
    ·exact .inr h
theorem mj {hs:YR} {gs:YT} {lp st:Int}:∀{f F:Nat} {a:Int},f<=F->cS hs gs lp st f a=true->cS hs gs lp st F a=true
 | 0,_,_,_,h=>by cases h
 | f+1,F+1,a,hF,h=>by
  obtain⟨h1,h2⟩:=Og.mp h;refine Og.mpr ⟨h1,h2.imp id λzz=>?_⟩;obtain⟨h3,h4⟩:=zz;exact⟨h3,mj (by omega) h4⟩
theorem Zr {hs:YR} {gs ls:YT} {lp st:Int} (hl:∀g,gpC ls g=false->gpC gs g=false):∀{f:Nat} {a:Int},cS hs ls lp st f a=true->cS hs gs lp st f a=true
 | 0,_,h=>by cases h
 | f+1,a,h=>by
  obtain⟨h1,h2⟩:=Og.mp h;refine Og.mpr ⟨h1,h2.imp id λzz=>?_⟩;obtain⟨h3,h4⟩:=zz;exact⟨hl _ h3,Zr hl h4⟩
theorem Pk {hs:YR} {gs:YT} {g:Gt}:CN hs gs g=true ↔ cS hs gs g.lp 1 16 g.at_=true\/cS hs gs g.lp (-1) 16 g.at_=true:=by
 unfold CN cS;rw[Bool.or_eq_true]
theorem Zq {hs:YR} {gs ls:YT} {lp st:Int} (hst:st=1\/st=-1) (hn:∀g,gpC ls g=true->CN hs ls g=true->gpC gs g=true):∀{f:Nat} {a:Int},f<=16->cS hs gs lp st f a=true->cS hs ls lp st f a=true
 | 0,_,_,h=>by cases h
 | f+1,a,hf,h=>by
  obtain⟨h1,h2⟩:=Og.mp h;refine Og.mpr ⟨h1,?_⟩;rcases h2 with h2 |⟨h3,h4⟩
  ·exact .inl h2
  ·have ih:=Zq hst hn (by omega) h4;cases hg:gpC ls ⟨lp,a+st⟩ with
   | false=>exact .inr ⟨rfl,ih⟩
   | true=>
    have:=hn ⟨lp,a+st⟩ hg (Pk.mpr (by
     have:=mj (F:=16) (by omega) ih;rcases hst with rfl | rfl
     ·exact .inl this
     ·exact .inr this))
    rw[h3] at this;cases this
theorem find_key {β : Type} {gs:List (Gt×β)} {g:Gt} (h:g∉gs.map (·.1)):gs.find? (λx=>decide (x.1=g))=none:=List.find?_eq_none.mpr λx hx=>by simpa using λe=>h (Qcs.mpr ⟨x,hx,e⟩)
theorem U5 {gs:YT} {g:Gt} (h:gpC gs g=true):g∈gs.map (·.1):=Qaj λc=>by
 unfold gpC at h;rw[find_key c] at h;cases h
theorem gG {gs:YT} (nd:(gs.map (·.1)).Nodup) {x:Gt×Bool} (h:x∈gs):gpC gs x.1=x.2:=by
 unfold gpC
 induction gs with
 | nil=>cases h
 | cons a r ih=>
  obtain⟨n1,n2⟩:=QbT.mp nd;rcases Qcj.mp h with rfl | h
  ·rw[QaC (by exact Qcd rfl)];rfl
  ·rw[QaA (by simpa using λe=>n1 (Qcs.mpr ⟨x,h,by exact Eq.symm e⟩))];exact ih n2 h
theorem Hw (f:Gt->Bool) (g:Gt):∀gs:YT,g∈gs.map (·.1)->gpC (gs.map λx=>(x.1,f x.1)) g=f g
 | [],h=>by cases h
 | a::r,h=>by
  unfold gpC;by_cases e:a.1=g
  ·rw[Qck,QaC (by exact Qcd e),e];rfl
  ·rw[Qck,QaA (by simpa using e)];refine Hw f g r ?_;rcases Qcj.mp h with z | z
   ·exact absurd z.symm e
   ·exact z
theorem wX (gs:YT):(lone gs).map (·.1)=gs.map (·.1):=by unfold lone;rw[Qcw];rfl
theorem Mt (hs:YR) (gs:YT):(Dl hs gs).map (·.1)=gs.map (·.1):=by unfold Dl;rw[Qcw];rfl
theorem BF {gs gs':YT} (h:gs.map (·.1)=gs'.map (·.1)):lone gs=lone gs':=by
 have:∀l:YT,lone l=(l.map (·.1)).map λg=>(g,true):=λl=>by unfold lone;rw[Qcw];rfl
 rw[this,this,h]
theorem gF {gs:YT} {g:Gt}:gpC (lone gs) g=true ↔ g∈gs.map (·.1):=⟨λh=>by rw[<-wX];exact U5 h,λh=>Hw (λ_=>true) g gs h⟩
theorem Tr {hs:YR} {gs:YT} {g:Gt} (h:Bs hs gs g=true):CN hs gs g=true:=by
 have hl:∀g,gpC (lone gs) g=false->gpC gs g=false:=λg h=>by
  cases c:gpC gs g with
  | false=>rfl
  | true=>rw[gF.mpr (U5 c)] at h;cases h
 exact Pk.mpr ((Pk.mp h).imp (Zr hl) (Zr hl))
def Ue (hs:YR) (gs:YT):Prop:=∀g,g∈gs.map (·.1)->Bs hs gs g=true->gpC gs g=true
theorem Z8 {hs:YR} {gs:YT} (hn:Ue hs gs) (g:Gt):CN hs gs g=Bs hs gs g:=by
 cases c:Bs hs gs g with
 | true=>exact Tr c
 | false=>
  cases c':CN hs gs g with
  | false=>rfl
  | true=>
   have hn':∀g,gpC (lone gs) g=true->CN hs (lone gs) g=true->gpC gs g=true:=λg h1 h2=>hn g (gF.mp h1) h2;have:Bs hs gs g=true:=Pk.mpr ((Pk.mp c').imp (Zq (.inl rfl) hn' (QcD _)) (Zq (.inr rfl) hn' (QcD _)));rw[c] at this;cases this
theorem U4 {gs:YT} {g:Gt} (h:g∈gs.map (·.1)) (b:Bool) (g':Gt):gpC (setG gs g b) g'=if g'=g then b else gpC gs g':=by
 induction gs with
 | nil=>cases h
 | cons a r ih=>
  by_cases e:a.1=g
  ·by_cases e':g'=g
   ·rw[if_pos e'];unfold gpC setG;rw[Qck,if_pos e,QaC (by rw[e'];exact Qcd e)];rfl
   ·have n:¬a.1=g':=λz=>e' (by rw[<-z,e]);rw[if_neg e'];by_cases hr:g∈r.map (·.1)
    ·have:=ih hr;rw[if_neg e'] at this;unfold gpC setG at this ⊢;rw[Qck,if_pos e,QaA (by simpa using n),QaA (by simpa using n)];exact this
    ·unfold gpC setG;rw[Qck,if_pos e,QaA (by simpa using n),QaA (by simpa using n),show (r.map λx=>if x.1=g then (x.1,b) else x)=r from (QaT λx hx=>if_neg λz=>hr (Qcs.mpr ⟨x,hx,z⟩)).trans (List.map_id r)]
  ·have hr:g∈r.map (·.1):=by
    rcases Qcj.mp h with z | z
    ·exact absurd z.symm e
    ·exact z
   have:=ih hr;unfold gpC setG at this ⊢;rw[Qck,if_neg e];by_cases n:a.1=g'
   ·rw[QaC (by exact Qcd n),QaC (by exact Qcd n),if_neg (λz=>e (by rw[n,z]))]
   ·rw[QaA (by simpa using n),QaA (by simpa using n)];exact this
theorem Kl {hs:YR} {gs gs':YT} (h:gs.map (·.1)=gs'.map (·.1)) (g:Gt):Bs hs gs g=Bs hs gs' g:=by unfold Bs;rw[BF h]
theorem RM (hs:YR):∀(L:List Gt) (gs:YT),(IK hs gs L).map (·.1)=gs.map (·.1)
 | [],_=>rfl
 | g::r,gs=>(RM hs r _).trans (Ot _ _ _)
theorem jc (hs:YR) (gs:YT) (L M:List Gt):IK hs gs (L++M)=IK hs (IK hs gs L) M:=List.foldl_append ..
theorem As {hs:YR}:∀{L:List Gt} {gs:YT},(∀g∈L,g∈gs.map (·.1))->∀g,(g∈L\/gpC gs g=true)->Bs hs gs g=true->gpC (IK hs gs L) g=true
 | [],gs,_,g,h,_=>by
  rcases h with h | h
  ·cases h
  ·exact h
 | x::r,gs,hk,g,h,hn=>by
  have e1:=Ot gs x (CN hs gs x);have hx:=hk x QaZ;show gpC (IK hs (setG gs x (CN hs gs x)) r) g=true;refine As (λg' hg'=>by rw[e1];exact hk g' (QaL _ hg')) g ?_ (by rw[Kl e1];exact hn);rw[U4 hx];by_cases e:g=x
  ·rw[if_pos e,<-e];exact .inr (Tr hn)
  ·rw[if_neg e];rcases h with h | h
   ·rcases Qcj.mp h with h | h
    ·exact absurd h e
    ·exact .inl h
   ·exact .inr h
theorem At {hs:YR}:∀{L:List Gt} {gs:YT},(∀g∈L,g∈gs.map (·.1))->∀g,g∉L->gpC (IK hs gs L) g=gpC gs g
 | [],gs,_,g,_=>rfl
 | x::r,gs,hk,g,h=>by
  have e1:=Ot gs x (CN hs gs x);show gpC (IK hs (setG gs x (CN hs gs x)) r) g=_;rw[At (λg' hg'=>by rw[e1];exact hk g' (QaL _ hg')) g (λz=>h (QaL _ z)),U4 (hk x QaZ),if_neg (λz=>h (by rw[z];exact QaZ))]
theorem Ap {hs:YR}:∀{L:List Gt} {gs:YT},(∀g∈L,g∈gs.map (·.1))->Ue hs gs->∀g,gpC (IK hs gs L) g=if g∈L then Bs hs gs g else gpC gs g
 | [],gs,_,_,g=>rfl
 | x::r,gs,hk,hn,g=>by
  have e1:=Ot gs x (CN hs gs x);have hx:=hk x QaZ;have hn':Ue hs (setG gs x (CN hs gs x)):=λg' h1 h2=>by
   rw[e1] at h1;rw[Kl e1] at h2;rw[U4 hx];by_cases e:g'=x
   ·rw[if_pos e,<-e];exact Tr h2
   ·rw[if_neg e];exact hn g' h1 h2
  show gpC (IK hs (setG gs x (CN hs gs x)) r) g=_;rw[Ap (λg' hg'=>by rw[e1];exact hk g' (QaL _ hg')) hn' g,Kl e1,U4 hx];by_cases h:g∈r
  ·rw[if_pos h,if_pos (QaL _ h)]
  ·rw[if_neg h];by_cases e:g=x
   ·rw[if_pos e,if_pos (by rw[e];exact QaZ),e,Z8 hn]
   ·rw[if_neg e,if_neg (λz=>by rcases Qcj.mp z with z | z;exact e z;exact h z)]
theorem E6 {gs gs':YT} (nd:(gs.map (·.1)).Nodup) (k:gs.map (·.1)=gs'.map (·.1)) (h:∀g∈gs.map (·.1),gpC gs g=gpC gs' g):gs=gs':=by
 have e:∀l:YT,(l.map (·.1)).Nodup->l=(l.map (·.1)).map λg=>(g,gpC l g):=λl n=>by
  rw[Qcw];refine (List.map_id l).symm.trans (QaT λx hx=>?_);show x=(x.1,gpC l x.1);rw[gG n hx]
 rw[e gs nd,e gs' (by rw[<-k];exact nd),<-k];exact QaT λg hg=>by rw[h g hg]
def Lf (hs:YR) (gs:YT):List Gt:=(gs.filter λx=>Bs hs gs x.1&&!x.2).map (·.1)
def row2 (hs:YR) (gs:YT):List Gt:=(gs.filter λx=>x.2&&!Bs hs gs x.1).map (·.1)
theorem Uz {gs:YT} (nd:(gs.map (·.1)).Nodup) {p:Gt->Bool->Bool} {g:Gt}:g∈(gs.filter λx=>p x.1 x.2).map (·.1) ↔ g∈gs.map (·.1)/\p g (gpC gs g)=true:=by
 constructor
 ·intro h;obtain⟨x,hx,rfl⟩:=Qcs.mp h;obtain⟨h1,h2⟩:=QbU.mp hx;exact⟨Qcs.mpr ⟨x,h1,rq⟩,by rw[gG nd h1];exact h2⟩
 ·rintro ⟨h1,h2⟩;obtain⟨x,hx,rfl⟩:=Qcs.mp h1;rw[gG nd hx] at h2;exact Qcs.mpr ⟨x,QbU.mpr ⟨hx,h2⟩,rq⟩
theorem vJ {hs:YR} {gs:YT} (nd:(gs.map (·.1)).Nodup):IK hs gs (Lf hs gs++row2 hs gs)=Dl hs gs:=by
 have m1:∀g,g∈Lf hs gs ↔ g∈gs.map (·.1)/\(Bs hs gs g&&!gpC gs g)=true:=λg=>Uz nd (p:=λg b=>Bs hs gs g&&!b);have m2:∀g,g∈row2 hs gs ↔ g∈gs.map (·.1)/\(gpC gs g&&!Bs hs gs g)=true:=λg=>Uz nd (p:=λg b=>b&&!Bs hs gs g);rw[jc];have h1:∀g∈Lf hs gs,g∈gs.map (·.1):=λg h=>((m1 g).mp h).1;have h2:∀g∈row2 hs gs,g∈gs.map (·.1):=λg h=>((m2 g).mp h).1;have k1:=RM hs (Lf hs gs) gs;have k2:=(RM hs (row2 hs gs) (IK hs gs (Lf hs gs))).trans k1;have hn:Ue hs (IK hs gs (Lf hs gs)):=λg z1 z2=>by
  rw[k1] at z1;rw[Kl k1] at z2;refine As h1 g ?_ z2;cases c:gpC gs g with
  | true=>exact .inr rfl
  | false=>exact .inl ((m1 g).mpr ⟨z1,by rw[z2,c];rfl⟩)
 refine E6 (by rw[k2];exact nd) (by rw[k2,Mt]) λg hg=>?_;rw[k2] at hg;rw[Ap (λg h=>by rw[k1];exact h2 g h) hn g,Kl k1,show gpC (Dl hs gs) g=Bs hs gs g from Hw (Bs hs gs) g gs hg]
 by_cases h:g∈row2 hs gs
 ·rw[if_pos h]
 ·rw[if_neg h];cases c:Bs hs gs g with
  | true=>exact hn g (by rw[k1];exact hg) (by rw[Kl k1];exact c)
  | false=>
   rw[At h1 g λz=>by have:=((m1 g).mp z).2;rw[c] at this;cases this];cases d:gpC gs g with
   | false=>rfl
   | true=>exact absurd ((m2 g).mpr ⟨hg,by rw[c,d];rfl⟩) h
theorem Wz.keys {gs gs':YT} (h:Wz gs) (k:gs'.map (·.1)=gs.map (·.1)):Wz gs':=λx hx=>by
 have:x.1∈gs.map (·.1):=by rw[<-k];exact Qcs.mpr ⟨x,hx,rq⟩
 obtain⟨y,hy,e⟩:=Qcs.mp this;rw[<-e];exact h y hy
inductive Yj (C:Addr) (vs:YG) (H:Hp) (Q:VK) (E:XK):Prop
 | mk (p pl d1 d2 d3 hs fl gs) (_:vs=[.ref p]) (_:WAt C H p pl d1 d2 d3 hs fl gs) (_:(∀s∈hs.map (·.1),Bd3 s)) (_:Wz gs) (_:∀l xs H',H l=none->H' l=some (.lst xs)->Paired (Dw H') xs (Lf hs gs++row2 hs gs)->WAt C H' p pl d1 d2 d3 hs fl (Dl hs gs)->Ah d3 H H'->Q (.ref l) H'):Yj C vs H Q E
theorem lJ {gs:YT} {f:Gt×Bool->Bool} (nd:(gs.map (·.1)).Nodup) {i:Nat} {x:Gt×Bool} (hx:gs[i]?=some x):putK (gpV ((gs.take i).map λy=>(y.1,f y))) (k2 x.1) (.bl (f x))=gpV ((gs.take (i+1)).map λy=>(y.1,f y)):=by
 rw[Lg,QcM hx]
 ·unfold gpV;rw[QbN,QbN];rfl
 ·refine N5 λy hy e=>?_;unfold gpV at hy;rw[Qcw] at hy;obtain⟨z,hz,rfl⟩:=Qcs.mp hy;exact Jx (f:=λy:Gt×Bool=>y.1) nd hx z hz (Tz e)
section
variable {P:Program} {w:World} {K:YD} {mg:YB} {base:Heap} {op oe kd wk C:Addr}
abbrev xj:YF:=["opener","gap","near"]
theorem Xo (c:K9 K C "come_to_rest" "Wires.come_to_rest" Du Ek) (T:Tw K mg op oe kd wk C) (JW:Good P w K mg base "comes_to_short" 3 Ey Xb) (B0:Ge P w K mg base C "act" 4 Jv (cP C)):Ge P w K mg base C "come_to_rest" 5 Ek (Yj C):=by
 have sc:=Dn;refine c.good Dn (λvs H Q E h=>?_) (λf cdv A outer s H vs Q E hr h=>?_)
 ·obtain⟨p,pl,d1,d2,d3,hs,fl,gs,rfl,_⟩:=h;rfl
 obtain⟨p,pl,d1,d2,d3,hs,fl,gs,rfl,R,hb,hg,q⟩:=h;refine⟨_,(Ae (Ba (i:=1) Dn.nd rfl (Or.inr rfl) (V7 rfl (Hq (CK hr) (N':=xi) rfl (Bk.plain rfl (by trivial) (by trivial) (by trivial)) (d8 (Et (pv 0) rfl)) (λ_ _ _ _=>(Ai (i:=0) (show List.Nodup (xi:YF) by trivial) rfl (Or.inl rfl))) (λ_ _ _ _=>CZ) (λ_ _ _ _=>(pv 0)) (λ_ _ _ _=>DK))))
 (Ae (Ba (i:=2) Dn.nd rfl (Or.inr rfl) (V7 rfl (Hq (CK hr) (N':=["opener","lone","self"]) rfl (Bk.of (src:=[none,some 1,some 0]) (Aj Du) xm rfl rfl rfl (by trivial) (by trivial) (by trivial) rfl (by trivial)) (d8 (Et (pv 0) rfl)) (λ_ _ _ _=>(Ai (i:=0) (show List.Nodup (["opener","lone","self"]:YF) by trivial) rfl (Or.inl rfl))) (λ_ _ _ _=>CZ) (λ_ _ _ _=>(pv 0)) (λ_ _ _ _=>(Dc JW hr (Aa (kZ (K:=K) rfl (pv 2) rfl) (Aa (pv 1) (Aa (pv 0) Ac))))))))
 (Ae (vO rfl (YZ (i:=3) Dn.nd rfl (Or.inl rfl) (N':=xj) rfl (Bk.of (src:=[none,none,some 2]) (Aj Du) xm rfl rfl rfl (by trivial) (by trivial) (by trivial) rfl (by trivial)) (ZR (Et (pv 0) rfl)) (λ_ _ _ _=>(Ih (K:=K) (n:=2) rfl rfl (Al (Ai (i:=0) (show List.Nodup (xj:YF) by trivial) rfl (Or.inl rfl)) (Al (Ai (i:=1) (show List.Nodup (xj:YF) by trivial) rfl (Or.inl rfl)) Br)))) (λ_ _ _ _=>(G8 (PW.pt (qH (Dh (Oc (CK hr) (pv 2) (pv 0) (λ_ _=>rfl))) (kW (Eb (Dh (pv 1)))))))) (λ_ _ _ _=>(pv 0))))
 (Ae (Bo (Cy Qat Qar Qas Gg (pv 3) (Aa (V7 rfl (Cw (N':=xj) rfl (Bk.of (src:=[none,none,some 2]) (Aj Du) xm rfl rfl rfl (by trivial) (by trivial) (by trivial) rfl (by trivial)) (ZR (Et (pv 0) rfl)) (λ_ _ _ _=>(Ih (K:=K) (n:=2) rfl rfl (Al (Ai (i:=0) (show List.Nodup (xj:YF) by trivial) rfl (Or.inl rfl)) (Al (Ai (i:=1) (show List.Nodup (xj:YF) by trivial) rfl (Or.inl rfl)) Br)))) (λ_ _ _ _=>(G8 (PW.pt (qH (Dh (pv 1)) (kW (Eb (Dh (Oc (CK hr) (pv 2) (pv 0) (λ_ _=>rfl))))))))) (λ_ _ _ _=>(pv 0)))) Ac)))
 (Ae (Ck QbQ rfl (CW (pv 3)) (Ai (i:=4) Dn.nd rfl (Or.inl rfl))
 (Ag (Bo (Xi (pv 0) T.cl B0 hr (Aa (pv 4) Ac)))))
 (Ag (Ay (pv 3)))))))),?_⟩
 show let R0:TS:=_;let R1:TS:=Ao (Dm _ _ R0) _;let R2:TS:=Ao _ R1;let R3:TS:=Ao _ R2;let R4:TS:=Ao _ R3;Ao _ R4 _ _ _;intro R0 R1 R2 R3 R4;obtain⟨dx,hp⟩:=R.ins;have hd3:=R.gp;have l3:=R.l3;have nd3:=R.nd3;have nfz:∀o' u,H d3≠some (.frz o' u):=λo' u z=>by rw[hd3] at z;cases z
 have lgs:(gpV gs).length=gs.length:=by unfold gpV;rw[QbM]
 have oU:∀{i:Nat} {kv:List Key×V},(gpV gs)[i]?=some kv->∃x,gs[i]?=some x/\kv=(k2 x.1,.bl x.2):=λ{i kv} h=>by
  unfold gpV at h;rw[Qbq] at h;obtain⟨x,hx,rfl⟩:=QaD.mp h;exact⟨x,hx,rq⟩
 refine⟨_,rq,p,C,dx,_,_,rq,hp,T.cl,T.Ia,GQ pl d1 d2 d3,d3,gpV gs,rq,hd3,λo l hl=>?_⟩;have nl:l≠d3:=λz=>by rw[z,Ab] at hl;cases hl
 have fl1:H l=none:=by rw[Aq nl] at hl;exact hl
 let J0:YN:=λi U HH=>(∃u,U=[u])/\HH l=some (.dT (gpV ((gs.take i).map λx=>(x.1,true))))/\Same (upd H d3 (.frz o (.dT (gpV gs)))) HH;refine Z9 J0 ⟨⟨none,rq⟩,Ab,Ad hl _⟩ (λi U HH _ h=>h.2.2 _ _ Ab) (λi kv b U HH hkv h hb'=>?_) (fun U HH h=>?_)
 ·obtain⟨⟨u,rfl⟩,e1,e2⟩:=h;obtain⟨x,hx,rfl⟩:=oU hkv;have hi:=(Qai.mp hkv).1;unfold Eh;dsimp only;refine BK ⟨_,rq,_,k2 x.1,b,e1,rq,hb',Am (by unfold gpV;rw[QbM,QbM,QbD];omega),⟨_,rq⟩,?_,e2.Bp Ah.upd hl⟩;rw[Ab,lJ (f:=λ_=>true) nd3 hx]
 obtain⟨_,e1,e2⟩:=h;rw[lgs,QbB] at e1;have e1:HH l=some (.dT (gpV (lone gs))):=e1;refine⟨d3,o,gpV gs,e2 _ _ Ab,nfz,?_⟩;have s1:=PJ e2 hd3;have h1l:(upd HH d3 (.dT (gpV gs))) l=some (.dT (gpV (lone gs))):=by rw[Aq nl];exact e1
 generalize upd HH d3 (.dT (gpV gs))=H1 at *;clear e1 e2 hl;have R1:=R.same s1;obtain⟨dx1,hp1⟩:=R1.ins;refine⟨_,rq,p,C,dx1,_,_,rq,hp1,T.cl,T.Ia,GQ pl d1 d2 d3,d3,gpV gs,rq,R1.gp,λo2 ln hl2=>?_⟩;have nln:ln≠d3:=λz=>by rw[z,Ab] at hl2;cases hl2
 have f2:H1 ln=none:=by rw[Aq nln] at hl2;exact hl2
 have Lm:(lone gs).length=gs.length:=QbM ..;let J1:YN:=λi U HH=>(∃u,U=[u,js l,js p])/\HH ln=some (.dT (gpV ((gs.take i).map λx=>(x.1,Bs hs gs x.1))))/\Same (upd H1 d3 (.frz o2 (.dT (gpV gs)))) HH;refine Z9 J1 ⟨⟨none,rq⟩,Ab,Ad hl2 _⟩ (λi U HH _ h=>h.2.2 _ _ Ab) (λi kv b U HH hkv h hb'=>?_) (fun U HH h=>?_)
 ·obtain⟨⟨u,rfl⟩,e1,e2⟩:=h;obtain⟨x,hx,rfl⟩:=oU hkv;have hi:=(Qai.mp hkv).1;have gb:=hg x (QaK hx);have z3:∀c v,H1 c=some v->c≠d3->HH c=some v:=λc v e n=>e2 _ _ (by rw[Aq n];exact e);have np3:p≠d3:=λz=>by rw[z,R1.gp] at hp1;cases hp1
  unfold Eh;dsimp only;refine BK ⟨_,rq,_,rq,p,C,dx1,_,_,rq,z3 _ _ hp1 np3,T.cl,T.Hu,Hy pl d1 d2 d3,_,rq,_,rq,d1,l,b,hs,lone gs,x.1,rq,.inl (z3 _ _ R1.st R1.n13),.inl (z3 _ _ h1l nl),hb',hb,gb.1,gb.2,λH2 s2=>?_⟩;refine⟨_,k2 x.1,b,s2 _ _ e1,rq,s2 _ _ hb',Am (by unfold gpV;rw[QbM,QbM,QbD];omega),⟨_,rq⟩,?_,(e2.trans s2).Bp Ah.upd hl2⟩;rw[Ab];exact congrArg (λz=>some (HO.dT z)) (lJ (f:=λx=>Bs hs gs x.1) nd3 hx)
 obtain⟨_,e1,e2⟩:=h;rw[lgs,QbB] at e1;have e1:HH ln=some (.dT (gpV (Dl hs gs))):=e1;have Lc:∀o' u,H1 d3≠some (.frz o' u):=λo' u z=>by rw[R1.gp] at z;cases z
 refine⟨d3,o2,gpV gs,e2 _ _ Ab,nfz,?_⟩;have s2:=s1.trans (PJ e2 R1.gp);have h2n:(upd HH d3 (.dT (gpV gs))) ln=some (.dT (gpV (Dl hs gs))):=by rw[Aq nln];exact e1
 have fln:H ln=none:=s1.free f2;generalize upd HH d3 (.dT (gpV gs))=H2 at *;clear e1 e2 hl2 Lc hp1 f2;have R2:=R.same s2;obtain⟨dx2,hp2⟩:=R2.ins;have fO:∀{HX:Hp} {b:Addr} {x:Gt×Bool},HX ln=some (.dT (gpV (Dl hs gs)))->HX b=some (.tup [.int x.1.lp,.int x.1.at_])->x∈gs->Dt HX ln (.ref b) (some (.bl (Bs hs gs x.1))):=λ{HX b x} h1 h2 h3=>by
  have g:=Dt.t (k:=k2 x.1) h1 h2;have hin:x.1∈gs.map (·.1):=Qcs.mpr ⟨x,h3,rq⟩;rw[XH (by rw[Mt];exact hin),show gpC (Dl hs gs) x.1=Bs hs gs x.1 from Hw (Bs hs gs) x.1 gs hin] at g
  exact g
 refine⟨_,rq,p,C,dx2,_,_,rq,hp2,T.cl,T.Ia,GQ pl d1 d2 d3,d3,gpV gs,rq,R2.gp,λo3 lr hl3=>?_⟩;have nlr:lr≠d3:=λz=>by rw[z,Ab] at hl3;cases hl3
 have PU:H2 lr=none:=by rw[Aq nlr] at hl3;exact hl3
 have z2:∀{HH:Hp},Same (upd H2 d3 (.frz o3 (.dT (gpV gs)))) HH->HH ln=some (.dT (gpV (Dl hs gs))):=λs=>s _ _ (by rw[Aq nln];exact h2n);have mV:∀{HH:Hp} {lc p' b:Addr} {i:Nat} {x:Gt×Bool} {ys:YG} {ps:List Gt} {H0:Hp},HH lc=some (.lst ys)->Paired (Dw HH) ys ps->HH p'=none->HH b=some (.tup [.int x.1.lp,.int x.1.at_])->H0 lc=none->Same H0 HH->((upd (upd HH p' (.tup [.ref b,.bl x.2])) lc (.lst (ys++[.ref b]))) lc=some (.lst (ys++[.ref b]))/\Paired (Dw (upd (upd HH p' (.tup [.ref b,.bl x.2])) lc (.lst (ys++[.ref b])))) (ys++[.ref b]) (ps++[x.1])/\Same H0 (upd (upd HH p' (.tup [.ref b,.bl x.2])) lc (.lst (ys++[.ref b])))):=λ{HH lc p' b i x ys ps H0} h1 h2 h3 h4 h5 h6=>by
  have t1:=Ad h3 (.tup [.ref b,.bl x.2]);have e1':=t1 _ _ h1;have ntl:∀zs,(upd HH p' (.tup [.ref b,.bl x.2])) lc≠some (.tup zs):=λzs z=>by rw[e1'] at z;cases z
  have sL:=Ak.upd (o:=.lst (ys++[.ref b])) ntl;exact⟨Ab,QcF ⟨b,rq,sL _ _ (t1 _ _ h4)⟩ (Paired.Aw h2 λ_ _ z=>(z.tups (Ak.of t1)).tups sL),(h6.trans t1).Bp Ah.upd h5⟩
 let J2:YN:=λi U HH=>(∃u v,U=[u,v,js ln])/\(∃ys,HH lr=some (.lst ys)/\Paired (Dw HH) ys (((gs.take i).filter λx=>Bs hs gs x.1&&!x.2).map (·.1))/\ys.length<=i)/\Same (upd H2 d3 (.frz o3 (.dT (gpV gs)))) HH;refine iw J2 ⟨⟨none,none,rq⟩,⟨[],Ab,.nil,QcD _⟩,Ad hl3 _⟩ (λi U HH _ h=>h.2.2 _ _ Ab) (λi kv p' b U HH hkv h hp' hb'=>?_) (fun U HH h=>?_)
 ·obtain⟨⟨u,v,rfl⟩,⟨ys,e1,e3,e4⟩,e2⟩:=h;obtain⟨x,hx,rfl⟩:=oU hkv;have hi:=(Qai.mp hkv).1;have t1:=Ad hp' (.tup [.ref b,.bl x.2]);have e2':=e2.trans t1;have et:((gs.take (i+1)).filter λx=>Bs hs gs x.1&&!x.2).map (·.1)=((gs.take i).filter λx=>Bs hs gs x.1&&!x.2).map (·.1)++([x].filter λx=>Bs hs gs x.1&&!x.2).map (·.1):=by rw[QcM hx,Qbj,QbN]
  have no:(Bs hs gs x.1&&!x.2)=false->∃ys,(upd HH p' (.tup [.ref b,.bl x.2])) lr=some (.lst ys)/\Paired (Dw (upd HH p' (.tup [.ref b,.bl x.2]))) ys (((gs.take (i+1)).filter λx=>Bs hs gs x.1&&!x.2).map (·.1))/\ys.length<=i+1:=λhc=>by
   refine⟨ys,t1 _ _ e1,?_,by omega⟩;rw[et,show ([x].filter λx=>Bs hs gs x.1&&!x.2)=[] from Qav (by rw[hc];decide),QcA,QbP]
   exact Paired.Aw e3 λ_ _ z=>z.tups (Ak.of t1)
  refine⟨p',_,rq,SqT.of Ab,rq,_,_,rq,_,_,rq,rq,?_⟩;refine⟨_,rq,_,rq,ln,_,rq,fO (z2 e2') (t1 _ _ hb') (QaK hx),_,rq,Gm (λhn=>⟨_,rq,_,rq,Gm (λhx2=>?_) (λhx2=>?_)⟩) (λhn=>Cj ⟨⟨_,_,rq⟩,no (by rw[hn];rfl),e2'⟩)⟩
  ·have hx2:x.2=false:=by simpa using hx2
   obtain⟨a1,a2,a3⟩:=mV (i:=i) e1 e3 hp' hb' hl3 e2;refine⟨_,rq,ys,t1 _ _ e1,Am (by omega),⟨_,_,rq⟩,⟨_,a1,?_,by rw[QaY];show _+1<=_;omega⟩,a3⟩;rw[et,show ([x].filter λx=>Bs hs gs x.1&&!x.2)=[x] from Qaw (by rw[hn,hx2];rfl)]
   exact a2
  ·exact⟨⟨_,_,rq⟩,no (by rw[hn,hx2];rfl),e2'⟩
 obtain⟨_,⟨ys,e1,e3,e4⟩,e2⟩:=h;rw[lgs] at e4;rw[lgs,QbB] at e3;refine⟨d3,o3,gpV gs,e2 _ _ Ab,nfz,?_⟩;have s3:=PJ e2 R2.gp;have nt3:∀zs,HH d3≠some (.tup zs):=λzs z=>by rw[e2 _ _ Ab] at z;cases z
 have h3r:(upd HH d3 (.dT (gpV gs))) lr=some (.lst ys):=by rw[Aq nlr];exact e1
 have p3:Paired (Dw (upd HH d3 (.dT (gpV gs)))) ys (Lf hs gs):=Paired.Aw e3 λ_ _ z=>z.tups (Ak.upd nt3);have sH3:=s2.trans s3;have flr:H lr=none:=s2.free PU;have h3n:=s3 _ _ h2n;generalize upd HH d3 (.dT (gpV gs))=H3 at *;clear e1 e2 e3 hl3 z2 nt3;have R3:=R.same sH3;obtain⟨dx3,hp3⟩:=R3.ins;refine⟨_,rq,.inl ⟨rq,_,SqL.of h3r⟩,_,rq,p,C,dx3,_,_,rq,hp3,T.cl,T.Ia,GQ pl d1 d2 d3,d3,gpV gs,rq,R3.gp,λo4 lc hl4=>?_⟩;have nlc:lc≠d3:=λz=>by rw[z,Ab] at hl4;cases hl4
 have z3:∀{HH:Hp},Same (upd H3 d3 (.frz o4 (.dT (gpV gs)))) HH->HH ln=some (.dT (gpV (Dl hs gs))):=λs=>s _ _ (by rw[Aq nln];exact h3n);let J3:YN:=λi U HH=>(∃u v,U=[u,v,js ln])/\(∃ys,HH lc=some (.lst ys)/\Paired (Dw HH) ys (((gs.take i).filter λx=>x.2&&!Bs hs gs x.1).map (·.1))/\ys.length<=i)/\Same (upd H3 d3 (.frz o4 (.dT (gpV gs)))) HH;refine iw J3 ⟨⟨none,none,rq⟩,⟨[],Ab,.nil,QcD _⟩,Ad hl4 _⟩ (λi U HH _ h=>h.2.2 _ _ Ab) (λi kv p' b U HH hkv h hp' hb'=>?_) (fun U HH h=>?_)
 ·obtain⟨⟨u,v,rfl⟩,⟨ys,e1,e3,e4⟩,e2⟩:=h;obtain⟨x,hx,rfl⟩:=oU hkv;have hi:=(Qai.mp hkv).1;have t1:=Ad hp' (.tup [.ref b,.bl x.2]);have e2':=e2.trans t1;have et:((gs.take (i+1)).filter λx=>x.2&&!Bs hs gs x.1).map (·.1)=((gs.take i).filter λx=>x.2&&!Bs hs gs x.1).map (·.1)++([x].filter λx=>x.2&&!Bs hs gs x.1).map (·.1):=by rw[QcM hx,Qbj,QbN]
  have no:(x.2&&!Bs hs gs x.1)=false->∃ys,(upd HH p' (.tup [.ref b,.bl x.2])) lc=some (.lst ys)/\Paired (Dw (upd HH p' (.tup [.ref b,.bl x.2]))) ys (((gs.take (i+1)).filter λx=>x.2&&!Bs hs gs x.1).map (·.1))/\ys.length<=i+1:=λhc=>by
   refine⟨ys,t1 _ _ e1,?_,by omega⟩;rw[et,show ([x].filter λx=>x.2&&!Bs hs gs x.1)=[] from Qav (by rw[hc];decide),QcA,QbP]
   exact Paired.Aw e3 λ_ _ z=>z.tups (Ak.of t1)
  refine⟨p',_,rq,SqT.of Ab,rq,_,_,rq,_,_,rq,rq,?_⟩;refine⟨_,rq,_,rq,Gm (λhx2=>⟨_,rq,_,rq,ln,_,rq,fO (z3 e2') (t1 _ _ hb') (QaK hx),_,rq,Gm (λhn=>?_) (λhn=>?_)⟩) (λhx2=>Cj ⟨⟨_,_,rq⟩,no (by rw[hx2];rfl),e2'⟩)⟩
  ·have hn:Bs hs gs x.1=false:=by simpa using hn
   obtain⟨a1,a2,a3⟩:=mV (i:=i) e1 e3 hp' hb' hl4 e2;refine⟨_,rq,ys,t1 _ _ e1,Am (by omega),⟨_,_,rq⟩,⟨_,a1,?_,by rw[QaY];show _+1<=_;omega⟩,a3⟩;rw[et,show ([x].filter λx=>x.2&&!Bs hs gs x.1)=[x] from Qaw (by rw[hn,hx2];rfl)]
   exact a2
  ·have hn:Bs hs gs x.1=true:=by simpa using hn
   exact⟨⟨_,_,rq⟩,no (by rw[hn,hx2];rfl),e2'⟩
 obtain⟨_,⟨zs,e1,e3,e5⟩,e2⟩:=h;rw[lgs] at e5;rw[lgs,QbB] at e3;refine⟨d3,o4,gpV gs,e2 _ _ Ab,nfz,?_⟩;have s4:=PJ e2 R3.gp;have nt3:∀zs,HH d3≠some (.tup zs):=λzs z=>by rw[e2 _ _ Ab] at z;cases z
 have h4c:(upd HH d3 (.dT (gpV gs))) lc=some (.lst zs):=by rw[Aq nlc];exact e1
 have p4:Paired (Dw (upd HH d3 (.dT (gpV gs)))) zs (row2 hs gs):=Paired.Aw e3 λ_ _ z=>z.tups (Ak.upd nt3);have h4r:=s4 _ _ h3r;have p4r:Paired (Dw (upd HH d3 (.dT (gpV gs)))) ys (Lf hs gs):=Paired.Aw p3 λ_ _ z=>z.tups (Ak.of s4);have sH4:=sH3.trans s4;generalize upd HH d3 (.dT (gpV gs))=H4 at *;clear e1 e2 e3 hl4 z3 nt3 h3r p3 fO mV;refine⟨lr,lc,_,_,rq,rq,h4r,h4c,Ar (by omega),?_⟩;have ntr:∀zs,H4 lr≠some (.tup zs):=λzs z=>by rw[h4r] at z;cases z
 have t5:=Ak.upd (o:=.lst (ys++zs)) ntr;have p5:Paired (Dw (upd H4 lr (.lst (ys++zs)))) (ys++zs) (Lf hs gs++row2 hs gs):=Paired.app (Paired.Aw p4r λ_ _ z=>z.tups t5) (Paired.Aw p4 λ_ _ z=>z.tups t5);have h5r:(upd H4 lr (.lst (ys++zs))) lr=some (.lst (ys++zs)):=Ab;have sH5:Same H (upd H4 lr (.lst (ys++zs))):=sH4.Bp Ah.upd flr;generalize upd H4 lr (.lst (ys++zs))=H5 at *;have R5:=R.same sH5;have l5:=Qci p5;have D8:lr≠d3:=nlr;have kin:∀g∈Lf hs gs++row2 hs gs,g∈gs.map (·.1):=λg h=>by
  rcases QbO.mp h with h | h
  ·exact ((Uz nd3 (p:=λg b=>Bs hs gs g&&!b)).mp h).1
  ·exact ((Uz nd3 (p:=λg b=>b&&!Bs hs gs g)).mp h).1
 refine⟨_,rq,lr,rq,⟨_,SqL.of h5r⟩,?_⟩;let J4:YN:=λi U HH=>(∃u,U=[js p,js l,js ln,js lr,u])/\WAt C HH p pl d1 d2 d3 hs fl (IK hs gs ((Lf hs gs++row2 hs gs).take i))/\Ah d3 H5 HH;refine Pj (xs:=ys++zs) J4 ⟨⟨_,rq⟩,R5,Ah.of (Same.refl _)⟩ (λi U HH _ h=>SqL.of (h.2.2 _ _ h5r D8)) (λi x U HH hx h=>?_) (fun U HH h=>?_)
 ·obtain⟨⟨u,rfl⟩,W,sB⟩:=h;obtain⟨g,hgi,b,rfl,hbt⟩:=Paired.Cp p5 hx;obtain⟨dx6,hp6⟩:=W.ins;have k6:=RM hs ((Lf hs gs++row2 hs gs).take i) gs;have nt5:∀zs,H5 d3≠some (.tup zs):=λzs z=>by rw[R5.gp] at z;cases z
  unfold Eh;dsimp only;refine⟨_,rq,p,dx6,_,rq,hp6,fno (by trivial),_,rq,p,pl,d1,d2,d3,hs,fl,_,b,g,rq,W,hb,hg.keys k6,(sB.tup nt5) _ _ hbt,by rw[k6];exact kin g (QaK hgi),λH' W' sB'=>⟨⟨_,rq⟩,?_,sB.trans sB'⟩⟩;rw[QcM hgi,jc];exact W'
 ·obtain⟨⟨u,rfl⟩,W,sB⟩:=h;rw[l5,QbB,vJ nd3] at W;have nt5:∀zs,H5 d3≠some (.tup zs):=λzs z=>by rw[R5.gp] at z;cases z
  exact⟨_,rq,q lr _ HH flr (sB _ _ h5r D8) (Paired.Aw p5 λ_ _ z=>z.tups (sB.tup nt5)) W ((Ah.of sH5).trans sB)⟩
end
abbrev JF:Stmt:=(inClass (top 54) 14)
abbrev HW:YF:=["self","loop","end"]
abbrev x8:YF:=["self","loop","end","opener","wires","places"]
theorem G6:Az x8 HW (Aj JF):=by ac_rfl
def flC (fl:YQ) (s:Sp3):Bool:=(fl.find? λx=>decide (x.1=s)).any λx=>x.2.isSome
theorem lR {H:Hp} (s:Sp3):∀{kvs:YL} {fl:YQ},Paired (K7 H) kvs fl->(!decide ((Di kvs (k3 s)).getD .non=.non))=flC fl s
 | [],[],.nil=>by show (!decide (V.non=V.non))=false;rw[Qcd rfl];rfl
 | kv::_,x::_,.cons h t=>by
  unfold flC;by_cases e:x.1=s
  ·rw[IV (p:=kv) (by rw[h.1,e]),QaC (by exact Qcd e)];obtain⟨h1,h2⟩:=h;obtain⟨xs,xo⟩:=x;cases xo with
   | none=>
    have h2:kv.2=.non:=h2;show (!decide (kv.2=.non))=false;rw[h2,Qcd rfl];rfl
   | some d=>
    obtain⟨u,h2,_⟩:=h2;show (!decide (kv.2=.non))=true;rw[h2,QbR (by intro z;cases z)];rfl
  ·rw[GK (p:=kv) (λz=>e (M7 (by rw[<-h.1,z]))),QaA (by simpa using e)];exact lR s t
theorem tQ {fl:YQ} {s:Sp3} (h:flC fl s=true):s∈fl.map (·.1):=by
 unfold flC at h;cases e:fl.find? λx=>decide (x.1=s) with
 | none=>rw[e] at h;cases h
 | some y=>exact Qcs.mpr ⟨y,Qan e,by have:=List.find?_some e;simpa using this⟩
theorem cA (hs:YR) (lp a:Int):∀f n,(Dz hs lp a f n).Nodup
 | 0,_=>Qcf
 | f+1,n=>by
  unfold Dz;split
  ·exact Qcf
  ·refine QbT.mpr ⟨λh=>?_,cA hs lp a f (n+1)⟩;have:=(Oj hs lp a f (n+1) _ h).2;dsimp only at this;omega
theorem T8 (hs:YR) (gs:YT) (lp st:Int) (hst:st=1\/st=-1):∀f a,(Bc hs gs lp st f a).2.Nodup/\∀s∈(Bc hs gs lp st f a).2,0 < (s.at_ - a)*st
 | 0,_=>⟨Qcf,λs h=>by cases h⟩
 | f+1,a=>by
  obtain⟨n1,n2⟩:=T8 hs gs lp st hst f (a+st);have at1:∀s∈(⟨lp,a+st,0⟩::Bw hs lp (a+st):YV),s.at_=a+st:=λs h=>by
   rcases Qcj.mp h with rfl | h
   ·rfl
   ·exact (Oj hs lp (a+st) 4 1 s h).1
  have nd1:(⟨lp,a+st,0⟩::Bw hs lp (a+st):YV).Nodup:=by
   refine QbT.mpr ⟨λh=>?_,cA hs lp (a+st) 4 1⟩;have:=(Oj hs lp (a+st) 4 1 _ h).2;dsimp only at this;omega
  have pos1:∀s∈(⟨lp,a+st,0⟩::Bw hs lp (a+st):YV),0 < (s.at_ - a)*st:=λs h=>by
   rw[at1 s h];rcases hst with rfl | rfl <;> omega
  unfold Bc;split
  ·exact⟨Qcf,λs h=>by cases h⟩
  ·split
   ·exact⟨nd1,pos1⟩
   ·have n2':∀s∈(Bc hs gs lp st f (a+st)).2,0 < (s.at_ - (a+st))*st:=n2;refine⟨Qbw.mpr ⟨nd1,n1,λx hx y hy e=>?_⟩,λs h=>?_⟩
    ·have h1:=at1 x hx;have h2:=n2' y hy;rw[<-e,h1] at h2;rcases hst with rfl | rfl <;> omega
    ·rcases QbO.mp h with h | h
     ·exact pos1 s h
     ·have h2:=n2' s h;rcases hst with rfl | rfl <;> omega
def T5 (e:Str):Bool:=decide (V.str e=V.str "A")
def Bu (lp:Int) (n:Nat) (e:Str):Gt:=⟨lp,if T5 e=true then 0 else (n:Int)+1⟩
def CG (e:Str):Int:=if T5 e=true then 1 else -1
def Qh (hs:YR) (gs:YT) (fl:YQ) (lp:Int) (n:Nat) (e:Str):YV:=
 if gpC gs (Bu lp n e)=true then [] else if Dk hs (Bc hs gs lp (CG e) 16 (Bu lp n e).at_).1=true then [] else (Bc hs gs lp (CG e) 16 (Bu lp n e).at_).2.filter (flC fl)
theorem Nz {α β : Type} {R:α->β->Prop} {xs:List α} {ys:List β} {d:α} {e:β} (h:Paired R xs ys):∀is:List Nat,(∀i∈is,i < xs.length)->Paired R (is.map λi=>xs.getD i d) (is.map λi=>ys.getD i e)
 | [],_=>.nil
 | i::r,hi=>by
  have h1:xs[i]?=some (xs[i]'(hi i QaZ)):=Qao _;obtain⟨y,hy,hr⟩:=Paired.Cp h h1;refine .cons ?_ (Nz h r λj hj=>hi j (QaL _ hj));show R (xs.getD i d) (ys.getD i e);rw[List.getD_eq_getElem?_getD,List.getD_eq_getElem?_getD,h1,hy];exact hr
theorem Xz {K:YD} {H:Hp}:∀{vs:YG} {ss:YV},Paired (BW H) vs ss->(∀s∈ss,Bd3 s)->Paired (X5 K H) vs (ss.map cd3)
 | _,_,.nil,_=>.nil
 | _,_,.cons (b:=s) ⟨t,e,h1⟩ r,hb=>.cons ⟨t,s.lp,s.at_,s.n,e,SqT.of h1,(hb s QaZ).c3⟩ (Xz r λx hx=>hb x (QaL _ hx))
theorem iD {ss:YV} (nd:ss.Nodup) (hb:∀s∈ss,Bd3 s):(ss.map cd3).Nodup:=by
 rw[Qag,Qbx];rw[Qag] at nd;exact nd.imp_of_mem λ{a b} ha hb' ne e=>ne ((hb a ha).inj (hb b hb') e)
instance:DecidableEq Sp3:=λa b=>if h:a.lp=b.lp/\a.at_=b.at_/\a.n=b.n then isTrue (by cases a;cases b;simp at h;obtain⟨h1,h2,h3⟩:=h;subst h1 h2 h3;rfl) else isFalse λe=>h (by rw[e];exact⟨rfl,rfl,rfl⟩)
theorem Rv:∀{l m:YV},l.Nodup->(∀x∈l,x∈m)->l.length<=m.length
 | [],_,_,_=>QcE _
 | a::r,m,nd,h=>by
  have ha:=h a (QaZ ..);obtain⟨n1,n2⟩:=QbT.mp nd;have:=Rv (l:=r) (m:=m.erase a) n2 λx hx=>(List.mem_erase_of_ne (λe=>n1 (by rw[<-e];exact hx))).mpr (h x (QaL _ hx));rw[List.length_erase_of_mem ha] at this;have hp:=List.length_pos_of_mem ha;rw[QbC];omega
theorem VN {α : Type} {d:α} {l:List α} {is:List Nat} (h:is.Perm (List.range l.length)):(is.map λi=>l.getD i d).Perm l:=by
 refine (h.map _).trans ?_;have:(List.range l.length).map (λi=>l.getD i d)=l:=by
  apply List.ext_getElem
  ·simp
  ·intro i h1 h2;simp at h1;simp[h1]
 rw[this]
theorem cU {α : Type} {d:α} {c:α->Int} {l:List α} {is:List Nat} (h:is.Perm (List.range l.length)):(is.map λi=>l.getD i d).map c=is.map λi=>(l.map c).getD i 0:=by
 rw[Qcw];exact QaT λi hi=>by
  have:=Qcg.mp (h.mem_iff.mp hi);simp[this]
def Kj:TE:=fun U H Q=>∃e,U[2]?=some (some (.str e))/\Q (.int (CG e)) H
def kE (C:Addr):Sp:=λvs H Q _=>∃(p pl d1 d2 d3:Addr) (hs:YR) (fl:YQ) (gs:YT) (most:Int) (ja:YU) (jp:List Zone) (k:Nat) (ps:List Place) (e:Str),vs=[.ref p,.int (k:Int),.str e]/\WAt C H p pl d1 d2 d3 hs fl gs/\FQ H pl most ja jp/\ja[k]?=some ps/\(∀s∈hs.map (·.1),Bd3 s)/\(∀s∈fl.map (·.1),Bd3 s)/\fl.length<=30/\Bu k ps.length e∈gs.map (·.1) /\
 ∀l xs L H',H l=none->H' l=some (.lst xs)->Paired (BW H') xs L->L.Perm (Qh hs gs fl k ps.length e)->(L.map cd3).Pairwise (· < ·)->Same H H'->Q (.ref l) H'
section
variable {P:Program} {w:World} {K:YD} {mg:YB} {base:Heap} {op oe kd wk C:Addr}
theorem wD (c:K9 K C "heard" "Wires.heard" JF HW) (T:Tw K mg op oe kd wk C) (Ql:Good P w K mg base "come_to" 2 Kh Xd) (Mi:Good P w K mg base "has_short" 1 Ik Ur):Ge P w K mg base C "heard" 3 HW (kE C):=by
 have sc:=G6;refine c.good G6 (λvs H Q E h=>?_) (λf cdv A outer s H vs Q E hr h=>?_)
 ·obtain⟨p,pl,d1,d2,d3,hs,fl,gs,most,ja,jp,k,ps,e,rfl,_⟩:=h;rfl
 obtain⟨p,pl,d1,d2,d3,hs,fl,gs,most,ja,jp,k,ps,e,rfl,R,pa,hps,hb,hbf,l30,pA,q⟩:=h;refine⟨_,(Ae (Ba (i:=3) G6.nd rfl (Or.inl rfl) (eG (Bx GF (pv 2) Bf (BP _)) (Bd (Aa (pv 1) (Aa Af Ac))) (Bd (Aa (pv 1) (Aa (Bh Cz (Av Bj rfl T.len CV (Aa (Bm Ca (Bm Ca (Et (pv 0) rfl) Af (λ_ _=>rfl)) (pv 1) (λ_ _=>rfl)) Ac)) Af) Ac)))))
 (Ae (Cu (Dh (Oc (CK hr) (Et (pv 0) rfl) (pv 3) (λ_ _=>rfl))) (Ag (Ay (BZ Ac))) BJ)
 (Ae (Hz (Tf Ql hr (Aa (Et (pv 0) rfl) (Aa (Et (pv 0) rfl) (Aa (pv 3) (Aa (PE.weak (ta':=Kj) (eG (Bx GF (pv 2) Bf (BP _)) Af (Qd Mp Af)) (fun U H Q h=>by
    obtain⟨e,e1,q⟩:=h;refine⟨_,e1,rq,_,rq,?_⟩;unfold CG T5 at q;split at q
    ·rename_i h;rw[h];exact BK q
    ·rename_i h;rw[show decide (V.str e=V.str "A")=false by simpa using h];exact Cj ⟨_,rq,q⟩)) Ac))))) (CT rfl (Al (Ai (i:=4) G6.nd rfl (Or.inl rfl)) (Al (Ai (i:=5) G6.nd rfl (Or.inl rfl)) Br))))
 (Ae (Cu (Dh (Cm Mi hr (Aa (Et (pv 0) rfl) (Aa (pv 4) Ac)))) (Ag (Ay (BZ Ac))) BJ)
 (Ag (Ay (Av Pr rfl T.sorted Qp (Aa (Cw (N':=["spot","self"]) rfl (Bk.of (src:=[none,some 0]) (Aj JF) x8 rfl rfl rfl (by trivial) (by trivial) (by trivial) rfl (by trivial)) (CW (pv 5)) (λ_ _ _ _=>(Ai (i:=0) (show List.Nodup (["spot","self"]:YF) by trivial) rfl (Or.inl rfl))) (λ_ _ _ _=>(G8 (Bx A0 (vX (CK hr) (kZ (K:=K) rfl (pv 1) rfl) (pv 0) ⟨rq,rq,rq,rq⟩) KJ (BP _)))) (λ_ _ _ _=>(pv 0))) Ac)))))))),?_⟩
 show let R0:TS:=_;let R1:TS:=Ao _ R0;let R2:TS:=Ao _ R1;let R3:TS:=Ao _ R2;Ao _ R3 _ _ _;intro R0 R1 R2 R3;obtain⟨dx,hp⟩:=R.ins;have ok:=pa.ok;obtain⟨Ls,zs,ws,zvs,f1,f2,f3,f4,f5⟩:=pa.at_;have lw:=Qci f3;have hkl:=(Qai.mp hps).1;have hwk:ws[k]?=some ws[k]:=Qao (by omega);obtain⟨ps',Hi,t,vs',ev,ht,hpp⟩:=Paired.Cp f3 hwk;rw[hps] at Hi;cases Hi;have lv:=Qci hpp;have l12:=(ok.ok ps (QaK hps)).hi;have QH:atI ws (k:Int)=some (.ref t):=Fb (by rw[hwk,ev]);have hst:CG e=1\/CG e=-1:=by unfold CG;split;exact .inl rfl;exact .inr rfl
 have ga:0<=(Bu k ps.length e).at_/\(Bu k ps.length e).at_<=13:=by
  unfold Bu;dsimp only;split <;> omega
 have qn:Qh hs gs fl k ps.length e=[]->∀HX l,Same H HX->HX l=none->Q (.ref l) (upd HX l (.lst [])):=λhz HX l sX hl=>by
  refine q l [] [] _ (sX.free hl) Ab .nil ?_ .nil (sX.trans (Ad hl _));rw[hz]
 show Ao (bY _ _) _ _ _ _;refine SM (fun U HH=>∃to,U=[js p,some (.int (k:Int)),some (.str e),js to,none,none]/\HH to=some (.tup [.int (k:Int),.int (Bu k ps.length e).at_])/\Same H HH) (fun U HH h=>?_) (λD' hn=>?_);rotate_left 1
 ·refine⟨_,rq,rq,_,rq,Gm (λh=>?_) (λh=>?_)⟩
  ·have hg:(Bu k ps.length e).at_=0:=if_pos h;rw[hg] at hn;refine⟨_,rq,Ar (by show 2<=1000;decide),λto hto=>?_⟩;exact hn _ _ ⟨to,rq,Ab,Ad hto _⟩
  ·have hg:(Bu k ps.length e).at_=(ps.length:Int)+1:=if_neg (by unfold T5;rw[h];decide);rw[hg] at hn;refine⟨_,rq,_,rq,p,C,dx,_,_,rq,hp,T.cl,T.fP,T4 (i:=0) (fnd pl d1 d2 d3) rfl,pl,_,_,_,rq,rq,SqT.of f1,rq,_,rq,Ls,_,_,_,rq,rq,SqT.of f2,QH,t,_,rq,.inr (SqT.of ht),_,_,rq,rq,Ar (by show 2<=1000;decide),λto hto=>?_⟩;rw[lv];exact hn _ _ ⟨to,rq,Ab,Ad hto _⟩
 obtain⟨to,rfl,hto,s1⟩:=h;have R1:=R.same s1;obtain⟨dx1,hp1⟩:=R1.ins;have gg:=Dt.t (k:=k2 (Bu k ps.length e)) R1.gp hto;rw[XH pA] at gg;refine⟨_,rq,p,C,dx1,_,_,rq,hp1,T.cl,T.Ia,GQ pl d1 d2 d3,_,rq,d3,_,rq,gg,_,rq,Gm (λhg=>?_) (λhg=>?_)⟩
 ·exact⟨Ar (by show 0<=1000;decide),λl hl=>qn (if_pos hg) _ l s1 hl⟩
 have hg':¬gpC gs (Bu k ps.length e)=true:=by rw[hg];decide
 refine⟨_,rq,p,C,dx1,_,_,rq,hp1,T.cl,T.Hu,Hy pl d1 d2 d3,_,rq,p,C,dx1,_,_,rq,hp1,T.cl,T.Ia,GQ pl d1 d2 d3,_,rq,e,rq,d1,d3,to,hs,gs,Bu k ps.length e,CG e,rq,.inl R1.st,.inl R1.gp,hto,hb,hst,by omega,by omega,λtt l1 l2 xs ys H2 htt hl1 hx1 hl2 hy2 s2=>⟨tt,_,rq,SqT.of htt,rq,_,_,rq,_,_,rq,rq,?_⟩⟩;have s12:=s1.trans s2;have R2:=R.same s12;obtain⟨dx2,hp2⟩:=R2.ins;have oR:(Bc hs gs (Bu k ps.length e).lp (CG e) 16 (Bu k ps.length e).at_).1.length<=200:=Qcv (T7 hs gs _ _ 16 _) (by decide);refine⟨_,rq,p,C,dx2,_,_,rq,hp2,T.cl,T.Hu,Hy pl d1 d2 d3,_,rq,d1,l1,hs,xs,_,rq,.inl R2.st,hl1,hx1,RD hs gs _ _ 16 _,oR,λH3 s3=>⟨_,rq,Gm (λhsh=>?_) (λhsh=>?_)⟩⟩
 ·exact⟨Ar (by show 0<=1000;decide),λl hl=>qn ((if_neg hg').trans (if_pos hsh)) _ l (s12.trans s3) hl⟩
 have hw:Qh hs gs fl k ps.length e=(Bc hs gs k (CG e) 16 (Bu k ps.length e).at_).2.filter (flC fl):=(if_neg hg').trans (if_neg (by
  have:Dk hs (Bc hs gs k (CG e) 16 (Bu k ps.length e).at_).1=false:=hsh;rw[this];decide))
 have s13:=s12.trans s3;have R3:=R.same s13;obtain⟨dx3,hp3⟩:=R3.ins;have hl2':=s3 _ _ hl2;have hy3:Paired (BW H3) ys (Bc hs gs k (CG e) 16 (Bu k ps.length e).at_).2:=Paired.Aw hy2 λ_ _ z=>z.tups (Ak.of s3);generalize hcw:(Bc hs gs k (CG e) 16 (Bu k ps.length e).at_).2=cw at *;have cnd:cw.Nodup:=by rw[<-hcw];exact (T8 hs gs k (CG e) hst 16 _).1
 have gO:(cw.filter (flC fl)).Nodup:=List.Nodup.sublist QaX cnd;have fin:∀s∈cw.filter (flC fl),s∈fl.map (·.1):=λs h=>tQ (QbU.mp h).2;have yI:(cw.filter (flC fl)).length<=30:=by
  have:=Rv gO fin;rw[QbM] at this;omega
 have fbd:∀s∈cw.filter (flC fl),Bd3 s:=λs h=>hbf s (fin s h);have ly:=Qci hy3;refine⟨_,rq,l2,rq,⟨_,SqL.of hl2'⟩,λlc hlc=>?_⟩;let J0:YN:=λi U HH=>(∃u,U=[u,js p])/\(∃zs,HH lc=some (.lst zs)/\Paired (BW HH) zs ((cw.take i).filter (flC fl)))/\Same H3 HH;refine Fy (xs:=ys) J0 ⟨⟨_,rq⟩,⟨[],Ab,.nil⟩,Ad hlc _⟩ (λi U HH _ h=>SqL.of (h.2.2 _ _ hl2')) (λi x U HH hx h=>?_) (fun U HH h=>?_)
 ·obtain⟨⟨u,rfl⟩,⟨zs,e1,e3⟩,e2⟩:=h;obtain⟨sp,hsp,b,rfl,hbt⟩:=Paired.Cp hy3 hx;have RX:=R3.same e2;obtain⟨dxx,hpx⟩:=RX.ins;obtain⟨kvs,hk,hf⟩:=RX.fi;have lz:=Qci e3;have Ll:zs.length<=30:=by
   rw[lz];exact Qcv ((List.Sublist.filter _ (List.take_sublist i cw)).length_le) yI
  have et:(cw.take (i+1)).filter (flC fl)=(cw.take i).filter (flC fl)++[sp].filter (flC fl):=by rw[QcM hsp,Qbj]
  unfold Eh;dsimp only;refine⟨_,rq,p,C,dxx,_,_,rq,hpx,T.cl,T.Wf,pD pl d1 d2 d3,d2,rq,.inr ⟨_,.inl hk⟩,_,rq,_,Dt.t (k:=k3 sp) hk (e2 _ _ hbt),rq,_,rq,?_⟩;rw[lR sp hf];refine Gm (λhc=>?_) (λhc=>?_)
  ·have ntl:∀us,HH lc≠some (.tup us):=λus z=>by rw[e1] at z;cases z
   have sL:=Ak.upd (o:=.lst (zs++[.ref b])) ntl;refine⟨_,rq,zs,e1,Am (by omega),⟨_,rq⟩,⟨_,Ab,?_⟩,e2.Bp Ah.upd hlc⟩;rw[et,Qaw hc];exact QcF ⟨b,rq,sL _ _ (e2 _ _ hbt)⟩ (Paired.Aw e3 λ_ _ z=>z.tups sL)
  ·refine⟨⟨_,rq⟩,⟨zs,e1,?_⟩,e2⟩;rw[et,Qav (by rw[hc];decide)];show Paired _ _ (_++[]);rw[QbP];exact e3
 obtain⟨_,⟨zs,e1,e3⟩,e2⟩:=h;rw[ly,QbB] at e3;have lz:=Qci e3;refine VL (ks:=(cw.filter (flC fl)).map cd3) (SqL.of e1) (by omega) (Xz e3 fbd) (iD gO fbd) λis ls hperm NP hls=>?_;rw[lz] at hperm;have s5:=Ad hls (.lst (is.map λi=>zs.getD i .non));have Yx:=(s13.trans e2).trans s5;refine q ls _ (is.map λi=>(cw.filter (flC fl)).getD i ⟨0,0,0⟩) _ ((s13.trans e2).free hls) Ab (Nz (Paired.Aw e3 λ_ _ z=>z.tups (Ak.of s5)) is λi hi=>by rw[lz];exact Qcg.mp (hperm.mem_iff.mp hi)) ?_ ?_ Yx
 ·rw[hw];exact VN hperm
 ·rw[cU hperm];exact NP
end
inductive Yp (C ca:Addr) (vs:YG) (H:Hp) (Q:VK) (E:XK):Prop
 | mk (p dx v) (_:vs=[.ref p,v]) (_:H p=some (.ins C dx [])) (_:K6 H v) (_:∀H',Same H H'->E (.ref ca) none H'):Yp C ca vs H Q E
section
variable {P:Program} {w:World} {K:YD} {mg:YB} {base:Heap} {op oe kd wk C:Addr} {hc c0 c1 c2 c3 c4 c5 c6 c7 c8 c9 c10 c11 c12:Addr}
theorem wB (F:∃f fd,Fun K "__init__" "Wires.__init__" Hs f fd/\Mk K C f/\Binds K fd Ds []) (T:Tw K mg op oe kd wk C) (XE:Er K mg hc c0 c1 c2 c3 c4 c5 c6 c7 c8 c9 c10 c11 c12) (Je:Knd K hc c0 [c0,c1,c2,c3,c4,c5,c6,c7,c8,c9,c10,c11,c12] 0) (QK:Good P w K mg base "is_let_by" 10 Gf cL) (QJ:Good P w K mg base "stretches" 1 Ii bD) (Ef:Good P w K mg base "devices" 2 Fv Nt) (TJ:Good P w K mg base "openers" 1 Kg bF):X6 P w K mg base C 11 Ds (Yp C c0):=by
 have sc:=Jm;refine E7 F Jm (λvs H Q E h=>?_) (λX f cdv A outer s H vs Q E eX hx hr h=>?_)
 ·obtain⟨p,dx,v,rfl,_⟩:=h;rfl
 subst eX;obtain⟨p,dx,v,rfl,hp,nl,q⟩:=h;refine⟨_,(Ae (Cu (Eb (Dh (BR QK hr (Aa (pv 1) Ac)))) (Ag (vQ rfl Je.xc rfl XE.lC hx (Aa Bf Ac))) BJ)
 (Ae (Ke (pv 0) (pv 1) rfl)
 (Ae (Ke (pv 0) (Hq (CK hr) (N':=xl) rfl (Bk.plain rfl (by trivial) (by trivial) (by trivial)) (CW (BR QJ hr (Aa (pv 1) Ac))) (λ_ _ _ _=>(Ai (i:=0) (show List.Nodup (xl:YF) by trivial) rfl (Or.inl rfl))) (λ_ _ _ _=>CZ) (λ_ _ _ _=>(pv 0)) (λ_ _ _ _=>Bf)) rfl)
 (Ae (Ke (pv 0) (Hq (CK hr) (N':=xf) rfl (Bk.plain rfl (by trivial) (by trivial) (by trivial)) (CW (BR Ef hr (Aa (pv 1) Ac))) (λ_ _ _ _=>(Ih (K:=K) (n:=3) rfl rfl (Al (Ai (i:=0) (show List.Nodup (xf:YF) by trivial) rfl (Or.inl rfl)) (Al (Ai (i:=1) (show List.Nodup (xf:YF) by trivial) rfl (Or.inl rfl)) (Al (Ai (i:=2) (show List.Nodup (xf:YF) by trivial) rfl (Or.inl rfl)) Br))))) (λ_ _ _ _=>CZ) (λ_ _ _ _=>(pv 0)) (λ_ _ _ _=>(Bd (Aa (pv 1) (Aa (pv 2) Ac))))) rfl)
 (Ag (Ke (pv 0) (Hq (CK hr) (N':=xi) rfl (Bk.plain rfl (by trivial) (by trivial) (by trivial)) (CW (BR TJ hr (Aa (pv 1) Ac))) (λ_ _ _ _=>(Ai (i:=0) (show List.Nodup (xi:YF) by trivial) rfl (Or.inl rfl))) (λ_ _ _ _=>CZ) (λ_ _ _ _=>(pv 0)) (λ_ _ _ _=>DK)) rfl)))))),?_⟩
 exact⟨_,rq,v,rq,nl,λH1 s1=>⟨_,rq,BK ⟨Ar (by show 1<=1000;decide),q _ s1⟩⟩⟩
end
theorem dH {α : Type} (c:α->Int):∀{l m:List α},(l.map c).Pairwise (· < ·)->(m.map c).Pairwise (· < ·)->(∀x,x∈l ↔ x∈m)->l=m
 | [],[],_,_,_=>rfl
 | [],b::m,_,_,h=>by have:=(h b).mpr (QaZ ..);cases this
 | a::l,[],_,_,h=>by have:=(h a).mp (QaZ ..);cases this
 | a::l,b::m,hl,hm,h=>by
  obtain⟨l1,l2⟩:=List.pairwise_cons.mp hl;obtain⟨m1,m2⟩:=List.pairwise_cons.mp hm;have l1:∀x∈l,c a < c x:=λx hx=>l1 _ (Qcs.mpr ⟨x,hx,rq⟩);have m1:∀x∈m,c b < c x:=λx hx=>m1 _ (Qcs.mpr ⟨x,hx,rq⟩);have e:a=b:=by
   rcases Qcj.mp ((h a).mp (QaZ ..)) with e | e
   ·exact e
   ·have:=m1 a e;rcases Qcj.mp ((h b).mpr (QaZ ..)) with e2 | e2
    ·exact e2.symm
    ·have:=l1 b e2;omega
  subst e;rw[dH c l2 m2 λx=>⟨λhx=>?_,λhx=>?_⟩]
  ·rcases Qcj.mp ((h x).mp (QaL _ hx)) with e | e
   ·have:=l1 x hx;rw[e] at this;omega
   ·exact e
  ·rcases Qcj.mp ((h x).mpr (QaL _ hx)) with e | e
   ·have:=m1 x hx;rw[e] at this;omega
   ·exact e
noncomputable def UW (hs:YR) (gs:YT) (fl:YQ) (lp:Int) (n:Nat) (e:Str):YV:=by
 classical exact if h:∃L:YV,L.Perm (Qh hs gs fl lp n e)/\(L.map cd3).Pairwise (· < ·) then h.choose else []
theorem UL {hs:YR} {gs:YT} {fl:YQ} {lp:Int} {n:Nat} {e:Str} {L:YV} (h1:L.Perm (Qh hs gs fl lp n e)) (h2:(L.map cd3).Pairwise (· < ·)):L=UW hs gs fl lp n e:=by
 have h:∃L:YV,L.Perm (Qh hs gs fl lp n e)/\(L.map cd3).Pairwise (· < ·):=⟨L,h1,h2⟩;unfold UW;rw[dif_pos h];obtain⟨h3,h4⟩:=h.choose_spec;exact dH cd3 h2 h4 λx=>by rw[h1.mem_iff,h3.mem_iff]
theorem Qo {hs:YR} {gs ls:YT} {lp st:Int} (h:∀a,gpC gs ⟨lp,a⟩=gpC ls ⟨lp,a⟩):∀f a,Bc hs gs lp st f a=Bc hs ls lp st f a
 | 0,_=>rfl
 | f+1,a=>by
  unfold Bc;rw[h (a+st),Qo h f (a+st)]
theorem yN {hs:YR} {gs ls:YT} {g:Gt} (h:∀a,gpC gs ⟨g.lp,a⟩=gpC ls ⟨g.lp,a⟩):CN hs gs g=CN hs ls g:=by
 unfold CN;rw[Qo h,Qo h]
def Bg (l:List Gt):YT:=l.map λg=>(g,true)
theorem tR (l:List Gt):(Bg l).map (·.1)=l:=by unfold Bg;rw[Qcw];exact List.map_id _
theorem Qk {l:List Gt} {g:Gt}:gpC (Bg l) g=true ↔ g∈l:=⟨λh=>by have:=U5 h;rwa [tR] at this,λh=>yE l h⟩
where
 yE (l:List Gt) {g:Gt} (h:g∈l):gpC (Bg l) g=true:=by
  have e:Bg l=(l.map λg=>(g,false)).map λx:Gt×Bool=>(x.1,true):=by unfold Bg;rw[Qcw];rfl
  rw[e];exact Hw (λ_=>true) g _ (by rw[Qcw];exact Qcs.mpr ⟨g,h,rq⟩)
theorem TF (l:List Gt):jd (Bg l) (Bg l):=λg=>by
 unfold inG;rw[U3];cases e:(Bg l).find? λx=>decide (x.1=g) with
 | none=>
  unfold gpC;rw[e];rfl
 | some y=>
  show gpC (Bg l) g=true;have h1:=Qan e;have h2:y.1=g:=by have:=List.find?_some e;simpa using this
  refine Qk.mpr ?_;obtain⟨z,hz,rfl⟩:=Qcs.mp h1;rw[<-h2];exact hz
def gK (ja:YU) (k:Nat):List Gt:=(up (gtL ja) ja.length).filter λg=>decide (V.int g.lp=V.int (k:Int))
theorem Xq {ja:YU} {k:Nat} {g:Gt}:g∈gK ja k ↔ g∈up (gtL ja) ja.length/\g.lp=(k:Int):=by
 unfold gK;rw[QbU];refine and_congr_right λ_=>?_;rw[Qbg];exact⟨λh=>by injection h,λh=>by rw[h]⟩
theorem wW (ja:YU):lone (gs0 ja)=Bg (up (gtL ja) ja.length):=by unfold lone gs0 Bg;rw[Qcw];rfl
theorem oG {ja:YU} {k:Nat} {hs:YR} {g:Gt} (e:g.lp=(k:Int)):CN hs (Bg (gK ja k)) g=Bs hs (gs0 ja) g:=by
 unfold Bs;rw[wW];refine yN λa=>?_;rw[QbV,Qk,Qk,Xq];exact⟨λh=>h.1,λh=>⟨h,e⟩⟩
def Ep (ja:YU) (k:Nat) (hs:YR):List Gt:=(gK ja k).filter λg=>CN hs (Bg (gK ja k)) g
theorem ZG {ja:YU} {k:Nat} {hs:YR} {g:Gt} (e:g.lp=(k:Int)):gpC (Bg (Ep ja k hs)) g=gpC (Dl hs (gs0 ja)) g:=by
 rw[QbV,Qk];unfold Ep;rw[QbU,Xq,oG e];constructor
 ·rintro ⟨⟨h1,_⟩,h2⟩;unfold Dl;rw[Hw (Bs hs (gs0 ja)) g (gs0 ja) (by rw[Lx];exact h1)];exact h2
 ·intro h;have hk:=U5 h;rw[Mt,Lx] at hk;unfold Dl at h;rw[Hw (Bs hs (gs0 ja)) g (gs0 ja) (by rw[Lx];exact hk)] at h;exact⟨⟨hk,e⟩,h⟩
theorem jq {ja:YU} {hs:YR} {g:Gt} (hg:g∈up (gtL ja) ja.length) (h:gpC (Dl hs (gs0 ja)) g=false) {st:Int} (hst:st=1\/st=-1):Dk hs (Bc hs (Dl hs (gs0 ja)) g.lp st 16 g.at_).1=false:=by
 have k0:=Mt hs (gs0 ja);have hn:Ue hs (Dl hs (gs0 ja)):=λg' h1 h2=>by
  rw[Kl k0] at h2;rw[k0] at h1;unfold Dl;rw[Hw (Bs hs (gs0 ja)) g' (gs0 ja) h1];exact h2
 have e1:=Z8 hn g;rw[Kl k0] at e1;have e2:Bs hs (gs0 ja) g=false:=by
  rw[<-h];unfold Dl;rw[Hw (Bs hs (gs0 ja)) g (gs0 ja) (by rw[Lx];exact hg)]
 rw[e2] at e1;unfold CN at e1;rw[Bool.or_eq_false_iff] at e1;rcases hst with rfl | rfl
 ·exact e1.1
 ·exact e1.2
def laid (hs fz:YR):YR:=fz.foldl (λhs x=>JM hs x.1 x.2) hs
theorem JT:∀(fz hs:YR),(laid hs fz).map (·.1)=hs.map (·.1)
 | [],_=>rfl
 | x::r,hs=>(JT r _).trans (Rn _ _ _)
theorem rM (hs fz:YR) (x:Sp3×Str):laid hs (fz++[x])=JM (laid hs fz) x.1 x.2:=by unfold laid;rw[List.foldl_append];rfl
theorem j9 {s s':Sp3} {z:Str}:∀{hs:YR},s'∈hs.map (·.1)->stC (JM hs s z) s'=if s=s' then z else stC hs s'
 | [],h=>by cases h
 | a::r,h=>by
  unfold stC JM;rw[Qck];by_cases e:a.1=s'
  ·rw[QaC (p:=λx:Sp3×Str=>decide (x.1=s')) (l:=r) (a:=a) (Qcd e),QaC (by split <;> exact Qcd e)];by_cases e':s=s'
   ·rw[if_pos (by rw[e,e']),if_pos e'];rfl
   ·rw[if_neg (λz=>e' (by rw[<-z,e])),if_neg e']
  ·rw[QaA (p:=λx:Sp3×Str=>decide (x.1=s')) (l:=r) (a:=a) (by simpa using e),QaA (by split <;> simpa using e)];refine j9 (hs:=r) ?_;rcases Qcj.mp h with z | z
   ·exact absurd z.symm e
   ·exact z
theorem cg {s:Sp3}:∀{fz hs:YR},(fz.map (·.1)).Nodup->s∈hs.map (·.1)->stC (laid hs fz) s=((fz.find? λx=>decide (x.1=s)).map (·.2)).getD (stC hs s)
 | [],_,_,_=>rfl
 | x::r,hs,nd,h=>by
  obtain⟨n1,n2⟩:=QbT.mp nd;show stC (laid (JM hs x.1 x.2) r) s=_;rw[cg n2 (by rw[Rn];exact h),j9 h];by_cases e:x.1=s
  ·rw[if_pos e,QaC (by exact Qcd e),List.find?_eq_none.mpr λy hy=>by simpa using λz=>n1 (Qcs.mpr ⟨y,hy,z.trans e.symm⟩)];rfl
  ·rw[if_neg e,QaA (by simpa using e)]
theorem AJ {ja:YU} {s:Sp3} (h:s∈up (stL ja) ja.length):stC (hs0 ja) s="whole":=by
 unfold stC;cases e:(hs0 ja).find? λx=>decide (x.1=s) with
 | none=>exact absurd (Qcd rfl) (List.find?_eq_none.mp e (s,"whole") (Qcs.mpr ⟨s,h,rfl⟩))
 | some y=>
  obtain⟨z,_,rfl⟩:=Qcs.mp (Qan e);rfl
theorem vK {ja:YU} {fz:YR} (nd:(fz.map (·.1)).Nodup):Wx (laid (hs0 ja) fz) fz:=λs hs=>by
 rw[JT,Lw] at hs;rw[cg nd (by rw[Lw];exact hs),AJ hs];rfl
theorem ZJ (hs:YR) (lp a:Int):∀f n,∀s∈Dz hs lp a f n,s∈hs.map (·.1)
 | 0,_,s,h=>by cases h
 | f+1,n,s,h=>by
  unfold Dz at h;split at h
  ·cases h
  ·rename_i hc;rcases Qcj.mp h with rfl | h
   ·exact cj hc
   ·exact ZJ hs lp a f (n+1) s h
theorem RG (hs:YR) (gs:YT) (lp st:Int):∀f a,∀s∈(Bc hs gs lp st f a).2,s.n=0\/s∈hs.map (·.1)
 | 0,_,s,h=>by cases h
 | f+1,a,s,h=>by
  have h1:∀s∈(⟨lp,a+st,0⟩::Bw hs lp (a+st):YV),s.n=0\/s∈hs.map (·.1):=λs h=>by
   rcases Qcj.mp h with rfl | h
   ·exact .inl rfl
   ·exact .inr (ZJ hs lp (a+st) 4 1 s h)
  unfold Bc at h;split at h
  ·cases h
  ·split at h
   ·exact h1 s h
   ·rcases QbO.mp h with h | h
    ·exact h1 s h
    ·exact RG hs gs lp st f (a+st) s h
theorem T9 (hs:YR) (gs:YT) (lp st:Int):∀f a,∀s∈(Bc hs gs lp st f a).2,s.lp=lp
 | 0,_,s,h=>by cases h
 | f+1,a,s,h=>by
  have sp:∀f n,∀s∈Dz hs lp (a+st) f n,s.lp=lp:=λf=>by
   induction f with
   | zero=>intro n s h;cases h
   | succ f ih=>
    intro n s h;unfold Dz at h;split at h
    ·cases h
    ·rcases Qcj.mp h with rfl | h
     ·rfl
     ·exact ih (n+1) s h
  have h1:∀s∈(⟨lp,a+st,0⟩::Bw hs lp (a+st):YV),s.lp=lp:=λs h=>by
   rcases Qcj.mp h with rfl | h
   ·rfl
   ·exact sp 4 1 s h
  unfold Bc at h;split at h
  ·cases h
  ·split at h
   ·exact h1 s h
   ·rcases QbO.mp h with h | h
    ·exact h1 s h
    ·exact T9 hs gs lp st f (a+st) s h
theorem ZL (lp a:Int):∀(n:Nat) (ds:List Dev) (i:Nat),i < ds.length->∃d∈Ej lp a n ds,d.spot=⟨lp,a,((n+i:Nat):Int)⟩
 | n,[],i,h=>by cases h
 | n,x::r,0,_=>⟨_,QaZ,rfl⟩
 | n,x::r,i+1,h=>by
  obtain⟨d,h1,h2⟩:=ZL lp a (n+1) r i (by simpa using h);exact⟨d,QaL _ h1,by rw[h2,show n+1+i=n+(i+1) by omega]⟩
theorem Zi {ja:YU} {s:Sp3}:flC (fl0 ja) s=true ↔ s∈(up (pdL ja) ja.length).map Sd.spot:=by
 constructor
 ·intro h;have:=tQ h
  rwa [U8] at this
 ·intro h;obtain⟨d,hd,rfl⟩:=Qcs.mp h;unfold flC;cases e:(fl0 ja).find? λx=>decide (x.1=d.spot) with
  | none=>exact absurd (Qcd rfl) (List.find?_eq_none.mp e (d.spot,some (d.kind,d.addr)) (Qcs.mpr ⟨d,hd,rfl⟩))
  | some y=>
   obtain⟨z,_,rfl⟩:=Qcs.mp (Qan e);rfl
theorem tY {ja:YU} (ok:Ei ja) {k:Nat} {ps:List Place} (hps:ja[k]?=some ps) {s:Sp3} (el:s.lp=(k:Int)):s∈(up (pdL ja) ja.length).map Sd.spot->∃(j:Nat) (p:Place),ps[j]?=some p/\s.at_=((1+j:Nat):Int)/\¬V.str p.kind=V.str "opener":=λh=>by
 obtain⟨d,hd,rfl⟩:=Qcs.mp h;obtain⟨i,hi,hd⟩:=Ew hd;obtain⟨h1,_⟩:=Zm ok hd;have el:d.lp=(k:Int):=el;have:i=k:=by omega
 subst this;obtain⟨ps',Hi,hd⟩:=FN hd;rw[hps] at Hi;cases Hi;obtain⟨j,hj,hd⟩:=Ew hd;obtain⟨p,hp,hd⟩:=FN hd;have h2:=QC ((ok.ok ps (QaK hps)).ok p (QaK hp)).spur hd;refine⟨j,p,hp,h2.2.1,λe=>?_⟩;unfold Cg at hd;rw[if_pos e] at hd;cases hd
theorem BU {ja:YU} {k:Nat} {ps:List Place} (hps:ja[k]?=some ps) {j:Nat} {p:Place} (hp:ps[j]?=some p):(⟨(k:Int),((1+j:Nat):Int)⟩ : Gt)∈up (gtL ja) ja.length ↔ V.str p.kind=V.str "opener":=by
 have hkl:=(Qai.mp hps).1;have hjl:=(Qai.mp hp).1;constructor
 ·intro h;obtain⟨i,hi,h⟩:=Ew h;obtain⟨ps',Hi,h⟩:=FN h;have el:i=k:=by
   rcases QbO.mp h with h | h
   ·rcases Qcj.mp h with h | h
    ·injection h with h1 h2;omega
    ·obtain⟨m,hm,h⟩:=Ew h;have:=(Q7 h).1;dsimp only at this;omega
   ·have h:(⟨(k:Int),((1+j:Nat):Int)⟩ : Gt)=⟨(i:Int),(ps'.length:Int)+1⟩:=by simpa using h
    injection h with h1 h2;omega
  subst el;rw[hps] at Hi;cases Hi;rcases QbO.mp h with h | h
  ·rcases Qcj.mp h with h | h
   ·injection h with h1 h2;omega
   ·obtain⟨m,hm,h⟩:=Ew h;have h2:=(Q7 h).2.1;dsimp only at h2;have:m=j:=by omega
    subst this;obtain⟨p',hp',h⟩:=FN h;rw[hp] at hp';cases hp';by_cases e:V.str p.kind=V.str "opener"
    ·exact e
    ·rw[if_neg e] at h;cases h
  ·have h:(⟨(i:Int),((1+j:Nat):Int)⟩ : Gt)=⟨(i:Int),(ps.length:Int)+1⟩:=by simpa using h
   injection h with h1 h2;omega
 ·intro e;refine JC (i:=k) ?_ hkl;unfold gtL;rw[CQ hps];refine QaM _ (QaL _ (JC (i:=j) ?_ hjl));unfold gt1;rw[CQ hp,if_pos e];exact Qbf.mpr rfl
theorem cC {ja:YU} (ok:Ei ja) {k:Nat} {ps:List Place} (hps:ja[k]?=some ps) {s:Sp3} (el:s.lp=(k:Int)) (hi:inn ps s=true) (hk:s.n=0\/s∈up (stL ja) ja.length):flC (fl0 ja) s=true ↔ ¬(⟨s.lp,s.at_⟩ : Gt)∈gK ja k:=by
 have hkl:=(Qai.mp hps).1;unfold inn at hi;rw[QbI,Qbg,Qbg] at hi;obtain⟨j,hj,hjl⟩ : ∃j:Nat,s.at_=((1+j:Nat):Int)/\j < ps.length:=⟨(s.at_ - 1).toNat,by omega,by omega⟩;have hp:ps[j]?=some ps[j]:=Qao hjl;rw[Zi,Xq,el,hj,BU hps hp];constructor
 ·rintro h ⟨h1,_⟩;obtain⟨j',p',h2,h3,h4⟩:=tY ok hps el h;have:j'=j:=by omega
  subst this;rw[hp] at h2;cases h2;exact h4 h1
 ·intro h;have ne:¬V.str ps[j].kind=V.str "opener":=λe=>h ⟨e,rq⟩;have hin:∀d∈Cg (k:Int) ((1+j:Nat):Int) ps[j],d∈up (pdL ja) ja.length:=λd hd=>by
   refine JC (i:=k) ?_ hkl;unfold pdL;rw[CQ hps];refine JC (i:=j) ?_ hjl;unfold pd1;rw[CQ hp];exact hd
  unfold Cg at hin;rw[if_neg ne] at hin;by_cases hn:s.n=0
  ·refine Qcs.mpr ⟨_,hin _ QaZ,?_⟩;show (⟨(k:Int),((1+j:Nat):Int),0⟩ : Sp3)=s;rw[<-el,<-hj,<-hn]
  ·have hs:=hk.resolve_left hn;have es:s=⟨(k:Int),s.at_,s.n⟩:=by rw[<-el]
   rw[es,KR hps] at hs;obtain⟨j',p',h2,h3,h4,h5⟩:=hs.resolve_left λz=>hn z.2;have:j'=j:=by omega
   subst this;rw[hp] at h2;cases h2;obtain⟨d,hd,e⟩:=ZL (k:Int) ((1+j':Nat):Int) 1 ps[j'].spur (s.n - 1).toNat (by omega);refine Qcs.mpr ⟨d,hin _ (QaL _ hd),?_⟩;rw[e,es,hj,show ((1+(s.n - 1).toNat:Nat):Int)=s.n by omega]
abbrev Ou:Stmt:=top 56
abbrev Hf:YF:=["wires","faults"]
theorem JD:Az ["wires","faults","stretch","how"] Hf (Aj Ou):=by ac_rfl
abbrev Jo:Stmt:=top 57
abbrev En:YF:=["wires","loop"]
theorem Ms:Az ["wires","loop"] En (Aj Jo):=by ac_rfl
abbrev KH:Stmt:=top 58
abbrev Ft:YF:=["plan","loop","faults"]
theorem Gw:Az ["plan","loop","faults","wires"] Ft (Aj KH):=by ac_rfl
theorem IE {ja:YU} (ok:Ei ja):Wz (gs0 ja):=λx hx=>by
 have h:x.1∈up (gtL ja) ja.length:=by rw[<-Lx];exact Qcs.mpr ⟨x,hx,rq⟩
 obtain⟨k,ps,hps,e,a0,a1⟩:=lM h;have:=(ok.ok ps (QaK hps)).hi;omega
theorem lK {ja:YU} {k:Nat} {ps:List Place} (hps:ja[k]?=some ps) (e:Str):Bu k ps.length e∈up (gtL ja) ja.length:=by
 refine JC (i:=k) ?_ (Qai.mp hps).1;unfold gtL;rw[CQ hps];unfold Bu;split
 ·exact QaM _ (QaZ ..)
 ·exact QaE _ (QaZ ..)
theorem zY {most:Int} {ja:YU} {jp:List Zone} {H:Hp} {pl:Addr} (pa:FQ H pl most ja jp):(fl0 ja).length<=30:=by
 have c2:=pa.pok.cnt.2;have la:(up (pdL ja) ja.length).length=(CP ja).length:=by rw[<-Jf ja,QbM]
 unfold fl0;rw[QbM];omega
structure F6 (ja:YU) (fz:YR):Prop where
 key:∀x∈fz,x.1∈up (stL ja) ja.length
 how:∀x∈fz,x.2=("cut":Str)\/x.2=("short":Str)
 nd:(fz.map (·.1)).Nodup
 few:fz.length<=6
def Zy (H:Hp) (fa:Addr) (fz:YR):Prop:=∃o vs,H fa=some (.frz o (.tup vs))/\Tp o/\Paired (Jz H) vs (stV fz)
theorem GC {H H':Hp} (s:Ak H H') {v:V} {r:List Key×V} (h:Jz H v r):Jz H' v r:=by
 obtain⟨t,b,e,h1,h2⟩:=h;exact⟨t,b,e,s _ _ h1,s _ _ h2⟩
theorem Zy.same {H H':Hp} {fa:Addr} {fz:YR} (h:Zy H fa fz) (s:Same H H'):Zy H' fa fz:=by
 obtain⟨o,vs,h1,h2,h3⟩:=h;exact⟨o,vs,s _ _ h1,h2,Paired.Aw h3 λ_ _ z=>GC (Ak.of s) z⟩
def mX (C:Addr):Sp:=λvs H Q _=>∃(p pl d1 d2 d3 fa:Addr) (hs:YR) (fl:YQ) (gs:YT) (fz:YR),vs=[.ref p,.ref fa]/\WAt C H p pl d1 d2 d3 hs fl gs/\d1≠d2/\(∀s∈hs.map (·.1),Bd3 s)/\Wz gs/\Zy H fa fz/\(∀x∈fz,x.1∈hs.map (·.1))/\(∀x∈fz,x.2=("cut":Str)\/x.2=("short":Str)) /\
 ∀H',WAt C H' p pl d1 d2 d3 (laid hs fz) fl (Dl (laid hs fz) gs)->(∀c o,H c=some o->c≠d1->c≠d3->H' c=some o)->Q .non H'
section
variable {P:Program} {w:World} {K:YD} {mg:YB} {base:Heap} {op oe kd wk C:Addr}
theorem aM (c:Code K mg "lay_faults" Ou Hf) (T:Tw K mg op oe kd wk C) (BY:Ge P w K mg base C "cut" 4 Ju (W9 C "cut")) (sy:Ge P w K mg base C "short" 4 HN (W9 C "short")) (Wi:Ge P w K mg base C "come_to_rest" 5 Ek (Yj C)):Good P w K mg base "lay_faults" 6 Hf (mX C):=by
 have sc:=JD;refine c.good JD (λvs H Q E h=>?_) (λf cdv A outer s H vs Q E hr h=>?_)
 ·obtain⟨p,pl,d1,d2,d3,fa,hs,fl,gs,fz,rfl,_⟩:=h;rfl
 obtain⟨p,pl,d1,d2,d3,fa,hs,fl,gs,fz,rfl,R,n12,hb,hg,⟨o,vs,hfa,tp,hfz⟩,hin,ET,q⟩:=h;refine⟨_,(Ae (Ck QbQ rfl (Fp (pv 1)) (CT rfl (Al (Ai (i:=2) JD.nd rfl (Or.inl rfl)) (Al (Ai (i:=3) JD.nd rfl (Or.inl rfl)) Br)))
 (Ag (Cu (Bx GF (pv 3) Bf (BP _)) (Ag (Bo (Xi (pv 0) T.cl BY hr (Aa (pv 2) Ac)))) (Ag (Bo (Xi (pv 0) T.cl sy hr (Aa (pv 2) Ac)))))))
 (Ag (Bo (GW (pv 0) T.cl Wi hr)))),?_⟩
 show let R0:TS:=_;let R1:TS:=_;let R2:TS:=Jl _ R0 R1;Ao (Dm _ _ R2) _ _ _ _;intro R0 R1 R2;have nfa:fa≠d1:=λz=>by have:=R.st;rw[<-z,hfa] at this;cases this
 have nt1:∀zs,H d1≠some (.tup zs):=λzs e=>by rw[R.st] at e;cases e
 have lz:vs.length=fz.length:=by rw[Qci hfz];exact QbM ..
 refine⟨_,rq,fa,rq,⟨_,uJ hfa⟩,?_⟩;let J0:YN:=λi U HH=>(∃u2 u3,U=[js p,js fa,u2,u3])/\WAt C HH p pl d1 d2 d3 (laid hs (fz.take i)) fl gs/\Ah d1 H HH;refine Kr (xs:=vs) J0 ⟨⟨_,_,rq⟩,R,Ah.refl _ _⟩ (λi U HH _ h=>uJ (h.2.2 _ _ hfa nfa)) (λi x U HH hx h=>?_) (fun U HH h=>?_)
 ·obtain⟨⟨u2,u3,rfl⟩,W,sB⟩:=h;obtain⟨r,hr',t,b,rfl,ht,hbt⟩:=Paired.Cp hfz hx;obtain⟨y,hy,rfl⟩ : ∃y,fz[i]?=some y/\r=(k3 y.1,V.str y.2):=by
   unfold stV at hr';rw[Qbq] at hr';cases e:fz[i]? with
   | none=>rw[e] at hr';cases hr'
   | some y=>rw[e] at hr';cases hr';exact⟨y,rfl,rfl⟩
  have hym:=QaK hy;have tB:=sB.tup nt1;have ht':=tB _ _ ht;have hb':HH b=some (.tup [.int y.1.lp,.int y.1.at_,.int y.1.n]):=tB _ _ hbt;have sIn:y.1∈(laid hs (fz.take i)).map (·.1):=by rw[JT];exact hin y hym
  obtain⟨dx,hp⟩:=W.ins;have fin:∀H5,WAt C H5 p pl d1 d2 d3 (JM (laid hs (fz.take i)) y.1 y.2) fl gs->WAt C H5 p pl d1 d2 d3 (laid hs (fz.take (i+1))) fl gs:=λH5 W5=>by
   rw[QcM hy,rM];exact W5
  refine⟨t,_,rq,SqT.of ht',rq,_,_,rq,_,_,rq,rq,?_⟩;refine⟨_,rq,rq,_,rq,Gm (λhc=>?_) (λhc=>?_)⟩
  ·have hz:y.2="cut":=by
    rcases ET y hym with h | h
    ·exact h
    ·have hc:decide (V.str y.2=V.str "cut")=true:=hc;rw[h] at hc;exact absurd hc (by trivial)
   rw[hz] at fin;exact⟨_,rq,p,dx,_,rq,hp,fno (by trivial),_,rq,p,pl,d1,d2,d3,_,fl,gs,b,y.1,rq,W,n12,hb',sIn,λH5 W5 sB5=>⟨⟨_,_,rq⟩,fin H5 W5,sB.trans sB5⟩⟩
  ·have hz:y.2="short":=by
    rcases ET y hym with h | h
    ·have hc:decide (V.str y.2=V.str "cut")=false:=hc;rw[h] at hc;exact absurd hc (by trivial)
    ·exact h
   rw[hz] at fin;exact⟨_,rq,p,dx,_,rq,hp,fno (by trivial),_,rq,p,pl,d1,d2,d3,_,fl,gs,b,y.1,rq,W,n12,hb',sIn,λH5 W5 sB5=>⟨⟨_,_,rq⟩,fin H5 W5,sB.trans sB5⟩⟩
 ·obtain⟨⟨u2,u3,rfl⟩,W,sB⟩:=h;rw[lz,QbB] at W;obtain⟨dx,hp⟩:=W.ins;refine⟨_,rq,p,dx,_,rq,hp,fno (by trivial),p,pl,d1,d2,d3,_,fl,gs,rq,W,by rw[JT];exact hb,hg,λl xs H' fl' hl _ W' sB3=>?_⟩;exact q H' W' λc o e n1 n3=>sB3 _ _ (sB _ _ e n1) n3
end
def cO (C:Addr):Sp:=λvs H Q _=>∃(p pl d1 d2 d3:Addr) (hs:YR) (fl:YQ) (gs:YT) (most:Int) (ja:YU) (jp:List Zone) (k:Nat) (ps:List Place),vs=[.ref p,.int (k:Int)]/\WAt C H p pl d1 d2 d3 hs fl gs/\FQ H pl most ja jp/\ja[k]?=some ps/\(∀s∈hs.map (·.1),Bd3 s)/\(∀s∈fl.map (·.1),Bd3 s)/\fl.length<=30/\(∀e,Bu k ps.length e∈gs.map (·.1)) /\
 ∀t ua ub xa xb H',H' t=some (.tup [.ref ua,.ref ub])->H' ua=some (.tup xa)->H' ub=some (.tup xb)->Paired (BW H') xa (UW hs gs fl k ps.length "A")->Paired (BW H') xb (UW hs gs fl k ps.length "B")->Same H H'->Q (.ref t) H'
section
variable {P:Program} {w:World} {K:YD} {mg:YB} {base:Heap} {op oe kd wk C:Addr}
theorem Tq (c:Code K mg "heard_from_both" Jo En) (T:Tw K mg op oe kd wk C) (Z6:Ge P w K mg base C "heard" 3 HW (kE C)):Good P w K mg base "heard_from_both" 4 En (cO C):=by
 have sc:=Ms;refine c.good Ms (λvs H Q E h=>?_) (λf cdv A outer s H vs Q E hr h=>?_)
 ·obtain⟨p,pl,d1,d2,d3,hs,fl,gs,most,ja,jp,k,ps,rfl,_⟩:=h;rfl
 obtain⟨p,pl,d1,d2,d3,hs,fl,gs,most,ja,jp,k,ps,rfl,R,pa,hps,hb,hbf,l30,pA,q⟩:=h;refine⟨_,(Ag (Ay (Bd (Aa (Df DQ rfl T.tuple Gn (Aa (zH (pv 0) T.cl Z6 hr (Aa (pv 1) (Aa Bf Ac))) Ac)) (Aa (Df DQ rfl T.tuple Gn (Aa (zH (pv 0) T.cl Z6 hr (Aa (pv 1) (Aa Bf Ac))) Ac)) Ac))))),?_⟩;obtain⟨dx,hp⟩:=R.ins;refine⟨_,rq,p,dx,_,rq,hp,fno (by trivial),_,rq,p,pl,d1,d2,d3,hs,fl,gs,most,ja,jp,k,ps,"A",rq,R,pa,hps,hb,hbf,l30,pA _,λla xa L H1 fla hla pla perm rise s1=>?_⟩;rw[UL perm rise] at pla;refine⟨la,_,rq,.inl ⟨SqL.of hla,λua hua=>?_⟩⟩;have k1:=Ad hua (.tup xa);have s2:=s1.trans k1;have R2:=R.same s2;obtain⟨dx2,hp2⟩:=R2.ins;refine⟨_,rq,p,dx2,_,rq,hp2,fno (by trivial),_,rq,p,pl,d1,d2,d3,hs,fl,gs,most,ja,jp,k,ps,"B",rq,R2,pa.same s2,hps,hb,hbf,l30,pA _,λlb xb L2 H3 flb hlb plb G0 GS s3=>?_⟩;rw[UL G0 GS] at plb;refine⟨lb,_,rq,.inl ⟨SqL.of hlb,λub hub=>⟨Ar (by show 2<=1000;decide),λt ht=>?_⟩⟩⟩;have k2:=Ad hub (.tup xb);have k3:=Ad ht (.tup [.ref ua,.ref ub]);have s23:=k2.trans k3;have s13:=k1.trans (s3.trans s23);refine q t ua ub xa xb _ Ab (s23 _ _ (s3 _ _ Ab)) (k3 _ _ Ab) (Paired.Aw pla λ_ _ z=>z.tups (Ak.of s13)) (Paired.Aw plb λ_ _ z=>z.tups (Ak.of s23)) (s1.trans s13)
end
noncomputable def Qj (ja:YU) (fz:YR) (k:Nat) (ps:List Place) (e:Str):YV:=UW (laid (hs0 ja) fz) (Dl (laid (hs0 ja) fz) (gs0 ja)) (fl0 ja) k ps.length e
inductive cN (vs:YG) (H:Hp) (Q:VK) (E:XK):Prop
 | mk (pl fa:Addr) (most:Int) (ja:YU) (jp:List Zone) (k:Nat) (ps:List Place) (fz:YR) (_:vs=[.ref pl,.int (k:Int),.ref fa]) (_:FQ H pl most ja jp) (_:ja[k]?=some ps) (_:Zy H fa fz) (_:F6 ja fz) (_:∀t ua ub xa xb H',H' t=some (.tup [.ref ua,.ref ub])->H' ua=some (.tup xa)->H' ub=some (.tup xb)->Paired (BW H') xa (Qj ja fz k ps "A")->Paired (BW H') xb (Qj ja fz k ps "B")->Same H H'->Q (.ref t) H'):cN vs H Q E
section
variable {P:Program} {w:World} {K:YD} {mg:YB} {base:Heap} {op oe kd wk C:Addr}
theorem aO (c:Code K mg "heard_with" KH Ft) (T:Tw K mg op oe kd wk C) (tK:pY P w K mg base C 11 Ds (Yq C)) (Pg:Good P w K mg base "lay_faults" 6 Hf (mX C)) (Jr:Good P w K mg base "heard_from_both" 4 En (cO C)):Good P w K mg base "heard_with" 13 Ft cN:=by
 have sc:=Gw;refine c.good Gw (λvs H Q E h=>?_) (λf cdv A outer s H vs Q E hr h=>?_)
 ·obtain⟨pl,fa,most,ja,jp,k,ps,fz,rfl,_⟩:=h;rfl
 obtain⟨pl,fa,most,ja,jp,k,ps,fz,rfl,pa,hps,hfz,fok,q⟩:=h;refine⟨_,(Ae (Ba (i:=3) Gw.nd rfl (Or.inl rfl) (GY tK hr T.mgC (Aa (pv 0) Ac)))
 (Ae (Bo (Cm Pg hr (Aa (pv 3) (Aa (pv 2) Ac))))
 (Ag (Ay (Cm Jr hr (Aa (pv 3) (Aa (pv 1) Ac))))))),?_⟩
 show let R0:TS:=_;let R1:TS:=Ao _ R0;Ao _ R1 _ _ _;intro R0 R1;refine⟨_,rq,λp dx hp hdx ndx=>?_⟩;have s2:Same H (upd (upd H dx (.own p)) p (.ins C dx [])):=(Ad hdx _).trans (Ad (by rw[Aq ndx.symm];exact hp) _);have hpx:(upd (upd H dx (.own p)) p (.ins C dx [])) p=some (.ins C dx []):=Ab;generalize upd (upd H dx (.own p)) p (.ins C dx [])=Hx at *;refine⟨p,dx,pl,most,ja,jp,rq,hpx,pa.same s2,λd1 d2 d3 H3 f1 f2 f3 n12 W1 sb=>⟨rq,?_⟩⟩;have s3:Same H H3:=s2.Bp sb hp;have fd1:H d1=none:=s2.free f1;have fd3:H d3=none:=s2.free f3;have hbd:∀s∈(hs0 ja).map (·.1),Bd3 s:=by rw[Lw];exact zB pa.ok
 refine⟨_,rq,_,rq,p,pl,d1,d2,d3,fa,hs0 ja,fl0 ja,gs0 ja,fz,rq,W1,n12,hbd,IE pa.ok,hfz.same s3,λx hx=>by rw[Lw];exact fok.key x hx,fok.how,λH4 W4 s4=>?_⟩;have s5:Same H H4:=λc o e=>s4 _ _ (s3 _ _ e) (Ax e fd1) (Ax e fd3);refine⟨_,rq,_,rq,p,pl,d1,d2,d3,_,_,_,most,ja,jp,k,ps,rq,W4,pa.same s5,hps,by rw[JT];exact hbd,?_,zY pa,λe=>by rw[Mt,Lx];exact lK hps e,λt ua ub xa xb H5 h1 h2 h3 h4 h5 s6=>q t ua ub xa xb H5 h1 h2 h3 h4 h5 (s5.trans s6)⟩;intro s hs;rw[U8] at hs;obtain⟨d,hd,rfl⟩:=Qcs.mp hs;exact tW pa.ok d hd
end
inductive mY (ca:Addr) (vs:YG) (H:Hp) (Q:VK) (E:XK):Prop
 | mk (v k fa) (_:vs=[v,k,fa]) (_:K6 H v) (_:∀H',Same H H'->E (.ref ca) none H'):mY ca vs H Q E
section
variable {P:Program} {w:World} {K:YD} {mg:YB} {base:Heap} {op oe kd wk C:Addr} {hc c0 c1 c2 c3 c4 c5 c6 c7 c8 c9 c10 c11 c12:Addr}
theorem Y6 (c:Code K mg "heard_with" KH Ft) (T:Tw K mg op oe kd wk C) (pG:X6 P w K mg base C 11 Ds (Yp C c0)) (Pg:Good P w K mg base "lay_faults" 6 Hf (mX C)) (Jr:Good P w K mg base "heard_from_both" 4 En (cO C)):bK P w K mg base "heard_with" 13 Ft (mY c0):=by
 have sc:=Gw;refine c.zO Gw (λvs H Q E h=>?_) (λX f cdv A outer s H vs Q E eX hx hr h=>?_)
 ·obtain⟨v,k,fa,rfl,_⟩:=h;rfl
 subst eX;obtain⟨v,k,fa,rfl,nl,q⟩:=h;refine⟨_,(Ae (Ba (i:=3) Gw.nd rfl (Or.inl rfl) (DD pG hr T.mgC hx (Aa (pv 0) Ac)))
 (Ae (Bo (Cm Pg hr (Aa (pv 3) (Aa (pv 2) Ac))))
 (Ag (Ay (Cm Jr hr (Aa (pv 3) (Aa (pv 1) Ac))))))),?_⟩
 refine⟨_,rq,λp dx hp hdx ndx=>?_⟩;have s2:Same H (upd (upd H dx (.own p)) p (.ins C dx [])):=(Ad hdx _).trans (Ad (by rw[Aq ndx.symm];exact hp) _);refine⟨p,dx,v,rq,Ab,nl.same s2,λH' s'=>?_⟩;exact q H' (s2.trans s')
end
abbrev N8:Stmt:=top 72
abbrev Q5:YF:=["_law_plan_here","_law_loop_here","_law_faults_here"]
abbrev xn:YF:=["_law_plan_here","_law_loop_here","_law_faults_here","_law_hows","_law_gates_here","_law_every","_law_stops","_law_found","_law_place","_law_step","_law_spots"]
theorem GP:Az xn Q5 (Aj N8):=by ac_rfl
def gtD (g:Gt):PyData:=.tuple [.int g.lp,.int g.at_]
theorem Z5 {K:YD} {H:Hp}:∀{vs:YG} {gs:List Gt},Paired (Dw H) vs gs->JH K H vs (gs.map gtD)
 | _,_,.nil=>.nil
 | _,_,.cons ⟨t,e,h1⟩ r=>by
  subst e;exact .cons (.tup (SqT.of h1) (.cons (.int _) (.cons (.int _) .nil))) (Z5 r)
theorem lG:∀gs:List Gt,PyData.canLayAll0 (gs.map gtD)=true
 | []=>rfl
 | d::r=>by
  have ih:=lG r;show ((true&&(true&&true))&&PyData.canLayAll0 (r.map gtD))=true;rw[ih];rfl
theorem E4 (s t:Gt):PyData.eqv (gtD s) (gtD t)=decide (s=t):=by
 obtain⟨a,b⟩:=s;obtain⟨a',b'⟩:=t;show (_&&(_&&true))=_;by_cases e:a=a'/\b=b'
 ·obtain⟨rfl,rfl⟩:=e;simp[PyData.eqv]
 ·rw[QbR (λz=>e (by injection z with z1 z2;exact⟨z1,z2⟩))];simp only[PyData.eqv,Bool.and_true,Bool.and_eq_false_iff];simp;omega
theorem E5 (L:List Gt) (s:Gt):(L.map gtD).any (λz=>PyData.eqv z (gtD s))=decide (s∈L):=by
 rw[List.any_map]
 induction L with
 | nil=>rfl
 | cons a r ih=>
  rw[Qco,ih];show (PyData.eqv (gtD a) (gtD s) || _)=_;rw[E4];by_cases e:a=s
  ·subst e;simp
  ·rw[QbR e,Bool.false_or];have:(s∈a::r) ↔ s∈r:=by rw[Qcj];exact⟨λh=>h.resolve_left λz=>e z.symm,.inr⟩
   simp[this]
def Vf (H:Hp) (ja:YU) (fz:YR) (k:Nat) (ps:List Place) (v:V) (e:Str):Prop:=∃u xs,v=.ref u/\H u=some (.tup xs)/\Paired (BW H) xs (Qj ja fz k ps e)
theorem Vf.tups {H H':Hp} {ja:YU} {fz:YR} {k:Nat} {ps:List Place} (s:Ak H H') {v:V} {e:Str} (h:Vf H ja fz k ps v e):Vf H' ja fz k ps v e:=by
 obtain⟨u,xs,e1,h1,h2⟩:=h;exact⟨u,xs,e1,s _ _ h1,Paired.Aw h2 λ_ _ z=>z.tups s⟩
def ends:YF:=["A","B"]
theorem zL {L:List Gt} (nd:L.Nodup):((gpV (Bg L)).map (·.1)).Nodup:=by
 unfold gpV Bg;rw[Qcw,Qcw];rw[Qag] at nd ⊢;rw[Qbx];exact nd.imp λ{a b} h e=>h (Tz e)
theorem yw {ja:YU} (ok:Ei ja) {fz:YR} {k:Nat} {ps:List Place} (hps:ja[k]?=some ps) (e:Str) (hs:YR) (ehs:hs=laid (hs0 ja) fz):Qh hs (Dl hs (gs0 ja)) (fl0 ja) k ps.length e=if gpC (Bg (Ep ja k hs)) (Bu k ps.length e)=true then [] else ((Bc hs (Bg (Ep ja k hs)) k (CG e) 16 (Bu k ps.length e).at_).2.filter (inn ps)).filter λs=>!decide ((⟨s.lp,s.at_⟩ : Gt)∈gK ja k):=by
 have hst:CG e=1\/CG e=-1:=by unfold CG;split;exact .inl rfl;exact .inr rfl
 have e1:gpC (Bg (Ep ja k hs)) (Bu k ps.length e)=gpC (Dl hs (gs0 ja)) (Bu k ps.length e):=ZG rfl;have e2:Bc hs (Bg (Ep ja k hs)) k (CG e) 16 (Bu k ps.length e).at_=Bc hs (Dl hs (gs0 ja)) k (CG e) 16 (Bu k ps.length e).at_:=Qo (λa=>ZG (g:=⟨(k:Int),a⟩) rfl) 16 _;rw[e1,e2];unfold Qh;cases c:gpC (Dl hs (gs0 ja)) (Bu k ps.length e) with
 | true=>rw[if_pos rfl,if_pos rfl]
 | false=>
  have c2:=jq (hs:=hs) (lK hps e) c hst;have c2:Dk hs (Bc hs (Dl hs (gs0 ja)) k (CG e) 16 (Bu k ps.length e).at_).1=false:=c2;rw[if_neg Qba,c2,if_neg Qba,if_neg Qba,List.filter_filter];refine List.filter_congr λs hsm=>?_;have h1:=T9 hs (Dl hs (gs0 ja)) k (CG e) 16 _ s hsm;have h2:=RG hs (Dl hs (gs0 ja)) k (CG e) 16 _ s hsm;rw[ehs,JT,Lw] at h2;cases ci:inn ps s with
  | true=>
   rw[Bool.and_true,QbV,cC ok hps h1 ci h2];simp
  | false=>
   rw[Bool.and_false];cases cf:flC (fl0 ja) s with
   | false=>rfl
   | true=>
    obtain⟨j,p,hp,ha,_⟩:=tY ok hps h1 (Zi.mp cf);have:=(Qai.mp hp).1;unfold inn at ci;rw[ha,Qcd (by omega),Qcd (by omega)] at ci;cases ci
section
variable {P:Program} {w:World} {K:YD} {mg:YB} {base:Heap} {op oe kd wk C:Addr}
abbrev x9:YF:=["_law_gate","_law_loop_here"]
abbrev ye:YF:=["_law_gate","_law_plan_here","_law_hows","_law_every"]
abbrev yf:YF:=["_law_spot","_law_gates_here"]
theorem DZ (c:Code K mg "_law_due" N8 Q5) (T:Tw K mg op oe kd wk C) (sJ:Good P w K mg base "_law_gates" 1 Mz Yr) (sO:Good P w K mg base "_law_feels" 2 MF Ys) (Wj:Good P w K mg base "_law_walk" 1 Lj W0):Good P w K mg base "_law_due" 3 Q5 cN:=by
 have sc:=GP;refine c.good GP (λvs H Q E h=>?_) (λf cdv A outer s H vs Q E hr h=>?_)
 ·obtain⟨pl,fa,most,ja,jp,k,ps,fz,rfl,_⟩:=h;rfl
 obtain⟨pl,fa,most,ja,jp,k,ps,fz,rfl,pa,hps,hfz,fok,q⟩:=h;refine⟨_,(Ae (Ba (i:=3) GP.nd rfl (Or.inr rfl) (Df (jN hr.units rfl) rfl T.dict Zt (Aa (pv 2) Ac)))
 (Ae (Ba (i:=4) GP.nd rfl (Or.inr rfl) (Cw (N':=x9) rfl (Bk.of (src:=[none,some 1]) (Aj N8) xn rfl rfl rfl (by trivial) (by trivial) (by trivial) rfl (by trivial)) (CW (BR sJ hr (Aa (pv 0) Ac))) (λ_ _ _ _=>(Ai (i:=0) (show List.Nodup (x9:YF) by trivial) rfl (Or.inl rfl))) (λ_ _ _ _=>(G8 (Bx GF (Bm (Oe (K:=K) rfl) (pv 0) Af (λ_ _=>rfl)) (pv 1) (BP _)))) (λ_ _ _ _=>(pv 0))))
 (Ae (Ba (i:=5) GP.nd rfl (Or.inr rfl) (Df (Vw hr.units rfl) rfl T.dict Zt (Aa (Cw (N':=["_law_gate"]) rfl (Bk.plain rfl (by trivial) (by trivial) (by trivial)) (CW (pv 4)) (λ_ _ _ _=>(Ai (i:=0) (show List.Nodup (["_law_gate"]:YF) by trivial) rfl (Or.inl rfl))) (λ_ _ _ _=>CZ) (λ_ _ _ _=>(Bd (Aa (pv 0) (Aa DK Ac))))) Ac)))
 (Ae (Ba (i:=6) GP.nd rfl (Or.inl rfl) (Df (Vw hr.units rfl) rfl T.dict Zt (Aa (Cw (N':=ye) rfl (Bk.of (src:=[none,some 0,some 3,some 5]) (Aj N8) xn rfl rfl rfl (by trivial) (by trivial) (by trivial) rfl (by trivial)) (CW (pv 4)) (λ_ _ _ _=>(Ai (i:=0) (show List.Nodup (ye:YF) by trivial) rfl (Or.inl rfl))) (λ_ _ _ _=>(G8 (Dh (Tf sO hr (Aa (pv 1) (Aa (pv 2) (Aa (pv 3) (Aa (pv 0) Ac)))))))) (λ_ _ _ _=>(Bd (Aa (pv 0) (Aa DK Ac))))) Ac)))
 (Ae (Ba (i:=7) GP.nd rfl (Or.inl rfl) (BZ Ac))
 (Ae (Ck QbQ rfl (Fp (Bd (Aa (Bd (Aa Af (Aa Af Ac))) (Aa (Bd (Aa (Bh Cz (Av Bj rfl T.len CV (Aa (Bm Ca (Bm Ca (pv 0) Af (λ_ _=>rfl)) (pv 1) (λ_ _=>rfl)) Ac)) Af) (Aa (Qd Mp Af) Ac))) Ac)))) (CT rfl (Al (Ai (i:=8) GP.nd rfl (Or.inl rfl)) (Al (Ai (i:=9) GP.nd rfl (Or.inl rfl)) Br)))
 (Ag (Cu (Mv (Ti (CK hr) (Bd (Aa (pv 1) (Aa (pv 8) Ac))) (pv 6))) (Ag (Bo (Cy Qat Qap Qaq BX (pv 7) (Aa (Bd Ac) Ac)))) (Ae (Ba (i:=10) GP.nd rfl (Or.inl rfl) (Bm Ca (qP Wj hr (@Aa _ _ _ _ _ (pv 0) (@Aa _ _ _ _ _ (pv 3) (@Aa _ _ _ _ _ (pv 6) (@Aa _ _ _ _ _ (pv 1) (@Aa _ _ _ _ _ (pv 8) (@Aa _ _ _ _ _ (pv 9) (@Ac _) Gv) Gv) Gv) Gv) Gv) Gv)) Af (λ_ _=>rfl)))
 (Ag (Bo (Cy Qat Qap Qaq BX (pv 7) (Aa (Df DQ rfl T.tuple Gn (Aa (Av Pr rfl T.sorted Qp (Aa (Cw (N':=yf) rfl (Bk.of (src:=[none,some 4]) (Aj N8) xn rfl rfl rfl (by trivial) (by trivial) (by trivial) rfl (by trivial)) (CW (pv 10)) (λ_ _ _ _=>(Ai (i:=0) (show List.Nodup (yf:YF) by trivial) rfl (Or.inl rfl))) (λ_ _ _ _=>(G8 (Bx (nP (K:=K) rfl hr.Cs) (Bd (Aa (Bm (Oe (K:=K) rfl) (pv 0) Af (λ_ _=>rfl)) (Aa (Bm (Oe (K:=K) rfl) (pv 0) Af (λ_ _=>rfl)) Ac))) (pv 1) (by with_unfolding_all rfl)))) (λ_ _ _ _=>(pv 0))) Ac)) Ac)) Ac))))))))
 (Ag (Ay (Df DQ rfl T.tuple Gn (Aa (pv 7) Ac)))))))))),?_⟩
 show let R0:TS:=_;let R1:TS:=_;let R2:TS:=_;let R3:TS:=Ao _ R2;let R4:TS:=Jl _ R1 R3;let R5:TS:=Ao (Dm _ _ R4) R0;let R6:TS:=Ao _ R5;let R7:TS:=Ao _ R6;let R8:TS:=Ao _ R7;let R9:TS:=Ao _ R8;Ao _ R9 _ _ _;intro R0 R1 R2 R3 R4 R5 R6 R7 R8 R9;have ok:=pa.ok;obtain⟨Ls,zs,ws,zvs,f1,f2,f3,f4,f5⟩:=pa.at_;have lw:=Qci f3;have hkl:=(Qai.mp hps).1;have hwk:ws[k]?=some ws[k]:=Qao (by omega);obtain⟨ps',Hi,t,vs',ev,ht,hpp⟩:=Paired.Cp f3 hwk;rw[hps] at Hi;cases Hi;have lv:=Qci hpp;have okl:=ok.ok ps (QaK hps);have l12:=okl.hi;have QH:atI ws (k:Int)=some (.ref t):=Fb (by rw[hwk,ev]);have o200:=eY ok;obtain⟨o,vs,hfa,tp,IC⟩:=hfz;have ndF:((stV fz).map (·.1)).Nodup:=by
  unfold stV;rw[Qcw];have nd:=fok.nd;rw[Qag,Qbx] at nd;rw[Qag,Qbx];exact nd.imp λ{a b} h e=>h (M7 e)
 have few:=fok.few;refine⟨_,rq,fa,o,vs,stV fz,rq,hfa,tp,IC,ndF,by unfold stV;rw[QbM];omega,λdh hdh=>?_⟩;have s1:=Ad hdh (.dT (stV fz));have e1:(upd H dh (.dT (stV fz))) dh=some (.dT (stV fz)):=Ab;generalize upd H dh (.dT (stV fz))=H1 at *;refine⟨_,rq,pl,most,ja,jp,rq,pa.same s1,λlg xg H2 flg hlg pg s2=>⟨lg,rq,⟨_,SqL.of hlg⟩,λlc hlc=>?_⟩⟩;have lpg:=Qci pg;let J0:YN:=λi U HH=>(∃u,U=[u,some (.int (k:Int))])/\(∃ys,HH lc=some (.lst ys)/\Paired (Dw HH) ys (((up (gtL ja) ja.length).take i).filter λg=>decide (V.int g.lp=V.int (k:Int))))/\Same H2 HH;refine Fy (xs:=xg) J0 ⟨⟨_,rq⟩,⟨[],Ab,.nil⟩,Ad hlc _⟩ (λi U HH _ h=>SqL.of (h.2.2 _ _ hlg)) (λi x U HH hx h=>?_) (fun U HH h=>?_)
 ·obtain⟨⟨u,rfl⟩,⟨ys,g1,g2⟩,g3⟩:=h;obtain⟨g,hg,b,rfl,hb⟩:=Paired.Cp pg hx;have ly:=Qci g2;have ly2:ys.length<=200:=by
   rw[ly];exact Qcv (QaH ..) (Qcv (List.length_take_le' ..) o200)
  have et:((up (gtL ja) ja.length).take (i+1)).filter (λg=>decide (V.int g.lp=V.int (k:Int)))=((up (gtL ja) ja.length).take i).filter (λg=>decide (V.int g.lp=V.int (k:Int)))++[g].filter (λg=>decide (V.int g.lp=V.int (k:Int))):=by rw[QcM hg,Qbj]
  unfold Eh;dsimp only;refine⟨_,rq,b,_,_,_,rq,rq,SqT.of (g3 _ _ hb),rq,_,rq,rq,_,rq,Gm (λhc=>?_) (λhc=>?_)⟩
  ·have ntl:∀us,HH lc≠some (.tup us):=λus z=>by rw[g1] at z;cases z
   have sL:=Ak.upd (o:=.lst (ys++[.ref b])) ntl;refine⟨_,rq,ys,g1,Am (by omega),⟨_,rq⟩,⟨_,Ab,?_⟩,g3.Bp Ah.upd hlc⟩;rw[et,Qaw (p:=λg:Gt=>decide (V.int g.lp=V.int (k:Int))) hc];exact QcF ⟨b,rq,sL _ _ (g3 _ _ hb)⟩ (Paired.Aw g2 λ_ _ z=>z.tups sL)
  ·refine⟨⟨_,rq⟩,⟨ys,g1,?_⟩,g3⟩;have hc:decide (V.int g.lp=V.int (k:Int))=false:=hc;rw[et,Qav (p:=λg:Gt=>decide (V.int g.lp=V.int (k:Int))) (by show ¬decide (V.int g.lp=V.int (k:Int))=true;rw[hc];decide)];show Paired _ _ (_++[]);rw[QbP];exact g2
 obtain⟨_,⟨gv,g1,g2⟩,g3⟩:=h;rw[lpg,QbB] at g2;have g2:Paired (Dw HH) gv (gK ja k):=g2;have lgv:=Qci g2;have lgK:(gK ja k).length<=200:=Qcv (QaH ..) o200;have ndK:(gK ja k).Nodup:=List.Nodup.sublist QaX (pB ok);have s3:=s1.trans (s2.trans g3);have e1:=g3 _ _ (s2 _ _ e1);clear hlg pg flg s2 g3 s1 hdh;refine⟨_,rq,lc,rq,⟨_,SqL.of g1⟩,λlc2 yt=>?_⟩;let J1:YN:=λi U HX=>(∃u,U=[u])/\(∃ys,HX lc2=some (.lst ys)/\Paired (Jz HX) ys (gpV (Bg ((gK ja k).take i))))/\Same HH HX;refine Fy (xs:=gv) J1 ⟨⟨_,rq⟩,⟨[],Ab,.nil⟩,Ad yt _⟩ (λi U HX _ h=>SqL.of (h.2.2 _ _ g1)) (λi x U HX hx h=>?_) (fun U HX h=>?_)
 ·obtain⟨⟨u,rfl⟩,⟨ys,c1,c2⟩,c3⟩:=h;obtain⟨g,hg,b,rfl,hb⟩:=Paired.Cp g2 hx;have ly:=Qci c2;have hi:=(Qai.mp hx).1;unfold gpV Bg at ly;rw[QbM,QbM,QbD] at ly;unfold Eh;dsimp only;refine BK ⟨_,rq,Ar (by show 2<=1000;decide),λtr htr=>?_⟩;have k1:=Ad htr (.tup [.ref b,.bl true]);have c1':=k1 _ _ c1;have ntl:∀zs,(upd HX tr (.tup [.ref b,.bl true])) lc2≠some (.tup zs):=λzs z=>by rw[c1'] at z;cases z
  have sL:=Ak.upd (o:=.lst (ys++[.ref tr])) ntl;refine⟨ys,c1',Am (by omega),⟨_,rq⟩,⟨_,Ab,?_⟩,(c3.trans k1).Bp Ah.upd yt⟩;rw[QcM hg];unfold gpV Bg;rw[QbN,QbN];exact QcF ⟨tr,b,rq,sL _ _ Ab,sL _ _ (k1 _ _ (c3 _ _ hb))⟩ (Paired.Aw c2 λv r z=>GC sL (GC (Ak.of k1) z))
 obtain⟨_,⟨ys,c1,c2⟩,c3⟩:=h;rw[lgv,QbB] at c2;refine⟨lc2,ys,_,rq,c1,c2,zL ndK,by unfold gpV Bg;rw[QbM,QbM];omega,λde hde=>?_⟩;have k3':=c3.trans (Ad hde (.dT (gpV (Bg (gK ja k)))));have s4:=s3.trans k3';have e2:(upd HX de (.dT (gpV (Bg (gK ja k))))) de=some (.dT (gpV (Bg (gK ja k)))):=Ab;have e1:=k3' _ _ e1;have g1:=k3' _ _ g1;have g2:Paired (Dw (upd HX de (.dT (gpV (Bg (gK ja k)))))) gv (gK ja k):=Paired.Aw g2 λ_ _ z=>z.tups (Ak.of k3');generalize upd HX de (.dT (gpV (Bg (gK ja k))))=H4 at *;clear c1 c2 c3 k3' s3 hde yt hlc;obtain⟨hs,ehs⟩ : ∃hs,hs=laid (hs0 ja) fz:=⟨_,rfl⟩;have hk:hs.map (·.1)=up (stL ja) ja.length:=by rw[ehs,JT,Lw]
 have rh:Wx hs fz:=by rw[ehs];exact vK fok.nd
 refine⟨_,rq,lc,rq,⟨_,SqL.of g1⟩,λlc3 yr=>?_⟩;let J2:YN:=λi U HX=>(∃u,U=[u,js pl,js dh,js de])/\(∃ys,HX lc3=some (.lst ys)/\Paired (Jz HX) ys (gpV (Bg (((gK ja k).take i).filter λg=>CN hs (Bg (gK ja k)) g))))/\Same H4 HX;refine Fy (xs:=gv) J2 ⟨⟨_,rq⟩,⟨[],Ab,.nil⟩,Ad yr _⟩ (λi U HX _ h=>SqL.of (h.2.2 _ _ g1)) (λi x U HX hx h=>?_) (fun U HX h=>?_)
 ·obtain⟨⟨u,rfl⟩,⟨ys,c1,c2⟩,c3⟩:=h;obtain⟨g,hg,b,rfl,hb⟩:=Paired.Cp g2 hx;have ly:=Qci c2;have hi:=(Qai.mp hx).1;have ly2:ys.length<=200:=by
   rw[ly];unfold gpV Bg;rw[QbM,QbM];exact Qcv (QaH ..) (Qcv (List.length_take_le' ..) lgK)
  have hgm:=QaK hg;have et:((gK ja k).take (i+1)).filter (λg=>CN hs (Bg (gK ja k)) g)=((gK ja k).take i).filter (λg=>CN hs (Bg (gK ja k)) g)++[g].filter (λg=>CN hs (Bg (gK ja k)) g):=by rw[QcM hg,Qbj]
  unfold Eh;dsimp only;refine⟨_,rq,_,rq,_,rq,_,rq,pl,most,ja,jp,dh,de,b,hs,fz,Bg (gK ja k),Bg (gK ja k),g,rq,(pa.same s4).same c3,c3 _ _ hb,(Xq.mp hgm).1,c3 _ _ e1,c3 _ _ e2,hk,rh,TF _,λH5 s5=>?_⟩;have c1':=s5 _ _ c1;refine⟨_,rq,Gm (λhc=>?_) (λhc=>?_)⟩
  ·refine⟨_,rq,Ar (by show 2<=1000;decide),λtr htr=>?_⟩;have k1:=Ad htr (.tup [.ref b,.bl true]);have c1':=k1 _ _ c1';have ntl:∀zs,(upd H5 tr (.tup [.ref b,.bl true])) lc3≠some (.tup zs):=λzs z=>by rw[c1'] at z;cases z
   have sL:=Ak.upd (o:=.lst (ys++[.ref tr])) ntl;refine⟨ys,c1',Am (by omega),⟨_,rq⟩,⟨_,Ab,?_⟩,((c3.trans s5).trans k1).Bp Ah.upd yr⟩;rw[et,Qaw hc];unfold gpV Bg;rw[QbN,QbN];exact QcF ⟨tr,b,rq,sL _ _ Ab,sL _ _ (k1 _ _ (s5 _ _ (c3 _ _ hb)))⟩ (Paired.Aw c2 λv r z=>GC sL (GC (Ak.of (s5.trans k1)) z))
  ·refine⟨⟨_,rq⟩,⟨ys,c1',?_⟩,c3.trans s5⟩;rw[et,Qav (by rw[hc];decide)];show Paired _ _ (gpV (Bg (_++[])));rw[QbP];exact Paired.Aw c2 λv r z=>GC (Ak.of s5) z
 obtain⟨_,⟨ys,c1,c2⟩,c3⟩:=h;rw[lgv,QbB] at c2;have c2:Paired (Jz HX) ys (gpV (Bg (Ep ja k hs))):=c2;have lst:(Ep ja k hs).length<=200:=Qcv (QaH ..) lgK;refine⟨lc3,ys,_,rq,c1,c2,zL (List.Nodup.sublist QaX ndK),by unfold gpV Bg;rw[QbM,QbM];omega,λds hds=>?_⟩;have k3':=c3.trans (Ad hds (.dT (gpV (Bg (Ep ja k hs)))));have s5:=s4.trans k3';have e3:(upd HX ds (.dT (gpV (Bg (Ep ja k hs))))) ds=some (.dT (gpV (Bg (Ep ja k hs)))):=Ab;have e1:=k3' _ _ e1;have g1:=k3' _ _ g1;have g2:Paired (Dw (upd HX ds (.dT (gpV (Bg (Ep ja k hs)))))) gv (gK ja k):=Paired.Aw g2 λ_ _ z=>z.tups (Ak.of k3');generalize upd HX ds (.dT (gpV (Bg (Ep ja k hs))))=H5 at *;have g1':=g1;clear c1 c2 c3 k3' s4 hds yr e2;refine⟨Ar (by show 0<=1000;decide),λlf hlf=>?_⟩;have n1:=Ad hlf (.lst []);have OC:(upd H5 lf (.lst [])) lf=some (.lst []):=Ab;generalize upd H5 lf (.lst [])=H6 at *;refine⟨Ar (by show 2<=1000;decide),λt1 ht1=>?_⟩;have n2:=Ad ht1 (.tup [.int 0,.int 1]);have N0:(upd H6 t1 (.tup [.int 0,.int 1])) t1=_:=Ab;generalize upd H6 t1 (.tup [.int 0,.int 1])=H7 at *;have s7:=s5.trans (n1.trans n2);refine⟨_,rq,pl,_,_,_,rq,rq,SqT.of (s7 _ _ f1),rq,_,rq,Ls,_,_,_,rq,rq,SqT.of (s7 _ _ f2),QH,t,_,rq,.inr (SqT.of (s7 _ _ ht)),_,_,rq,rq,_,rq,Ar (by show 2<=1000;decide),λt2 ht2=>?_⟩;have n3:=Ad ht2 (.tup [.int ((vs'.length:Int)+1),.int (-1)]);have NY:(upd H7 t2 (.tup [.int ((vs'.length:Int)+1),.int (-1)])) t2=_:=Ab;generalize upd H7 t2 (.tup [.int ((vs'.length:Int)+1),.int (-1)])=H8 at *;refine⟨Ar (by show 2<=1000;decide),λtt htt=>?_⟩;have n4:=Ad htt (.tup [.ref t1,.ref t2]);have o7:(upd H8 tt (.tup [.ref t1,.ref t2])) tt=_:=Ab;generalize upd H8 tt (.tup [.ref t1,.ref t2])=H9 at *;have n9:=n3.trans n4;have n59:=n1.trans (n2.trans n9);have s9:=s7.trans n9;have IB:=n9 _ _ N0;have IA:=n4 _ _ NY;have pq:=n9 _ _ (n2 _ _ OC);have e1:=n59 _ _ e1;have e3:=n59 _ _ e3;have g1:=n59 _ _ g1;have g2:Paired (Dw H9) gv (gK ja k):=Paired.Aw g2 λ_ _ z=>z.tups (Ak.of n59);have fH:H lf=none:=s5.free hlf;have nt9:∀zs,H9 lf≠some (.tup zs):=λzs z=>by rw[pq] at z;cases z
 have ndh:dh≠lf:=λz=>by rw[z,pq] at e1;cases e1
 have nds:ds≠lf:=λz=>by rw[z,pq] at e3;cases e3
 have nlc:lc≠lf:=Ax g1' hlf;have eA:T5 "A"=true:=by unfold T5;decide +kernel
 have eB:T5 "B"=false:=by unfold T5;decide +kernel
 refine⟨tt,rq,⟨_,SqT.of o7⟩,?_⟩;let J3:YN:=λi U HX=>(∃u8 u9 u10,U=[js pl,some (.int (k:Int)),js fa,js dh,js lc,js de,js ds,js lf,u8,u9,u10])/\(∃us,HX lf=some (.lst us)/\Paired (Vf HX ja fz k ps) us (ends.take i))/\Ah lf H9 HX;refine Kr (xs:=[.ref t1,.ref t2]) J3 ⟨⟨_,_,_,rq⟩,⟨[],pq,.nil⟩,Ah.refl _ _⟩ (λi U HX _ h=>SqT.of ((h.2.2.tup nt9) _ _ o7)) (λi x U HX hx h=>?_) (fun U HX h=>?_)
 ·obtain⟨⟨u8,u9,u10,rfl⟩,⟨us,h1,h2⟩,sB⟩:=h;have tX:=sB.tup nt9;obtain⟨e,t',rfl,he,ht'⟩ : ∃(e:Str) (t':Addr),x=.ref t'/\ends[i]?=some e/\HX t'=some (.tup [.int (Bu k ps.length e).at_,.int (CG e)]):=by
   match i,hx with
   | 0,hx=>
    cases hx;refine⟨"A",t1,rq,rq,?_⟩;have:=tX _ _ IB;unfold Bu CG;rw[eA];exact this
   | 1,hx=>
    cases hx;refine⟨"B",t2,rq,rq,?_⟩;have:=tX _ _ IA;rw[lv] at this;unfold Bu CG;rw[eB];exact this
   | n+2,hx=>cases hx
  have hst:CG e=1\/CG e=-1:=by unfold CG;split;exact .inl rfl;exact .inr rfl
  have ga:0<=(Bu k ps.length e).at_/\(Bu k ps.length e).at_<=(ps.length:Int)+1:=by
   unfold Bu;dsimp only;split <;> omega
  have lus:us.length<=2:=by
   rw[Qci h2];exact List.length_take_le' ..
  have hd:=yw ok hps e hs ehs (fz:=fz);have ehF:Qj ja fz k ps e=UW hs (Dl hs (gs0 ja)) (fl0 ja) k ps.length e:=by rw[ehs];rfl
  have fin:∀HY u xs,Same HX HY->HY u=some (.tup xs)->Paired (BW HY) xs (Qj ja fz k ps e)->(∃us',(upd HY lf (.lst (us++[.ref u]))) lf=some (.lst us')/\Paired (Vf (upd HY lf (.lst (us++[.ref u]))) ja fz k ps) us' (ends.take (i+1)))/\Ah lf H9 (upd HY lf (.lst (us++[.ref u]))):=λHY u xs sY hu hp=>by
   have hY:=sY _ _ h1;have ntl:∀zs,HY lf≠some (.tup zs):=λzs z=>by rw[hY] at z;cases z
   have sL:=Ak.upd (o:=.lst (us++[.ref u])) ntl;refine⟨⟨_,Ab,?_⟩,(sB.trans (Ah.of sY)).trans Ah.upd⟩;rw[QcM he];exact QcF ⟨u,xs,rq,sL _ _ hu,Paired.Aw hp λ_ _ z=>z.tups sL⟩ (Paired.Aw h2 λ_ _ z=>(z.tups (Ak.of sY)).tups sL)
  refine⟨t',_,rq,SqT.of ht',rq,_,_,rq,_,_,rq,rq,?_⟩;refine⟨_,rq,_,rq,Ar (by show 2<=1000;decide),λtg htg=>?_⟩;have k1:=Ad htg (.tup [.int (k:Int),.int (Bu k ps.length e).at_]);have gg:=Dt.t (k:=k2 (Bu k ps.length e)) (k1 _ _ (sB _ _ e3 nds)) (Ab (H:=HX) (a:=tg) (o:=.tup [.int (k:Int),.int (Bu k ps.length e).at_]));generalize upd HX tg (.tup [.int (k:Int),.int (Bu k ps.length e).at_])=HG at *;have eg:gpC (Bg (Ep ja k hs)) (Bu k ps.length e)=(Di (gpV (Bg (Ep ja k hs))) (k2 (Bu k ps.length e))).isSome:=TF _ _;refine⟨_,rq,ds,_,rq,gg,_,rq,Gm (λhg=>?_) (λhg=>?_)⟩
  ·rw[hg] at eg;rw[eg,if_pos rfl] at hd;have hL:([]:YV)=Qj ja fz k ps e:=by rw[ehF];exact UL (by rw[hd]) .nil
   refine⟨_,rq,.inl ⟨rq,_,SqL.of (k1 _ _ h1)⟩,Ar (by show 0<=1000;decide),λte hte=>?_⟩;have k2':=Ad hte (.tup []);have OA:=k2' _ _ (k1 _ _ h1);refine⟨lf,_,_,rq,rq,OA,Am (by omega),?_⟩;exact⟨⟨_,_,_,rq⟩,fin _ te [] (k1.trans k2') Ab (by rw[<-hL];exact .nil)⟩
  ·rw[hg] at eg;rw[eg,if_neg Qba] at hd;have eW2:(GR fz (Bg (Ep ja k hs)) ps k (CG e) (Bu k ps.length e).at_).2=(Bc hs (Bg (Ep ja k hs)) k (CG e) 16 (Bu k ps.length e).at_).2.filter (inn ps):=by
    unfold GR;exact qu hps okl hk rh (TF _) hst _ 16 _ false ga.1 ga.2 rfl (by unfold GX;split <;> omega)
   have sG:=(s9.Bp sB fH).trans k1;refine⟨_,rq,_,rq,_,rq,_,rq,_,rq,_,rq,pl,most,ja,jp,dh,ds,fz,Bg (Ep ja k hs),k,ps,(Bu k ps.length e).at_,CG e,rq,pa.same sG,hps,k1 _ _ (sB _ _ e1 ndh),k1 _ _ (sB _ _ e3 nds),hst,ga.1,ga.2,λtw lp xs H4 htw hlp pxs s4=>⟨tw,_,_,_,rq,rq,SqT.of htw,rq,?_⟩⟩;rw[eW2] at pxs;have sX4:=k1.trans s4;have clp:=T9 hs (Bg (Ep ja k hs)) k (CG e) 16 (Bu k ps.length e).at_;have cky:=RG hs (Bg (Ep ja k hs)) k (CG e) 16 (Bu k ps.length e).at_;have cnd:=(T8 hs (Bg (Ep ja k hs)) k (CG e) hst 16 (Bu k ps.length e).at_).1;rw[hk] at cky;generalize (Bc hs (Bg (Ep ja k hs)) k (CG e) 16 (Bu k ps.length e).at_).2=cw at *;have FE:∀s∈(cw.filter (inn ps)).filter (λs=>!decide ((⟨s.lp,s.at_⟩ : Gt)∈gK ja k)),s∈(up (pdL ja) ja.length).map Sd.spot:=λs h=>by
    obtain⟨h3,h4⟩:=QbU.mp h;obtain⟨h5,h6⟩:=QbU.mp h3;refine Zi.mp ((cC ok hps (clp s h5) h6 (cky s h5)).mpr λz=>?_);rw[Qcd z] at h4;cases h4
   have gO:((cw.filter (inn ps)).filter (λs=>!decide ((⟨s.lp,s.at_⟩ : Gt)∈gK ja k))).Nodup:=List.Nodup.sublist (List.Sublist.trans QaX QaX) cnd;have l30:=zY pa;have yI:((cw.filter (inn ps)).filter (λs=>!decide ((⟨s.lp,s.at_⟩ : Gt)∈gK ja k))).length<=30:=by
    have:=Rv gO FE;rw[<-U8,QbM] at this;omega
   have fbd:∀s∈(cw.filter (inn ps)).filter (λs=>!decide ((⟨s.lp,s.at_⟩ : Gt)∈gK ja k)),Bd3 s:=λs h=>by
    obtain⟨d,hd',rfl⟩:=Qcs.mp (FE s h);exact tW ok d hd'
   have ly:=Qci pxs;have OB:=sX4 _ _ h1;have g14:=s4 _ _ (k1 _ _ (sB _ _ g1 nlc));have g24:Paired (Dw H4) gv (gK ja k):=Paired.Aw g2 λ_ _ z=>(z.tups tX).tups (Ak.of sX4);refine⟨_,rq,.inl ⟨rq,_,SqL.of OB⟩,_,rq,lp,rq,⟨_,SqL.of hlp⟩,λlq hlq=>?_⟩;let J4:YN:=λi U HH=>(∃u,U=[u,js lc])/\(∃zs,HH lq=some (.lst zs)/\Paired (BW HH) zs (((cw.filter (inn ps)).take i).filter (λs=>!decide ((⟨s.lp,s.at_⟩ : Gt)∈gK ja k))))/\Same H4 HH;refine Fy (xs:=xs) J4 ⟨⟨_,rq⟩,⟨[],Ab,.nil⟩,Ad hlq _⟩ (λi U HH _ h=>SqL.of (h.2.2 _ _ hlp)) (λi x U HH hx h=>?_) (fun U HH h=>?_)
   ·obtain⟨⟨u,rfl⟩,⟨zs,d1,d3⟩,d2⟩:=h;obtain⟨sp',hsp,b,rfl,hbt⟩:=Paired.Cp pxs hx;have lz:=Qci d3;have Ll:zs.length<=30:=by
     rw[lz];exact Qcv ((List.Sublist.filter _ (List.take_sublist i _)).length_le) yI
    have et:((cw.filter (inn ps)).take (i+1)).filter (λs=>!decide ((⟨s.lp,s.at_⟩ : Gt)∈gK ja k))=((cw.filter (inn ps)).take i).filter (λs=>!decide ((⟨s.lp,s.at_⟩ : Gt)∈gK ja k))++[sp'].filter (λs=>!decide ((⟨s.lp,s.at_⟩ : Gt)∈gK ja k)):=by rw[QcM hsp,Qbj]
    have hb':=d2 _ _ hbt;unfold Eh;dsimp only;refine⟨_,rq,b,_,_,_,rq,rq,SqT.of hb',rq,_,rq,b,_,_,_,rq,rq,SqT.of hb',rq,Ar (by show 2<=1000;decide),λtq htq=>?_⟩;have kq:=Ad htq (.tup [.int sp'.lp,.int sp'.at_]);have hq':(upd HH tq (.tup [.int sp'.lp,.int sp'.at_])) tq=_:=Ab;generalize upd HH tq (.tup [.int sp'.lp,.int sp'.at_])=HQ at *;have d2':=d2.trans kq;have d1':=kq _ _ d1;refine⟨_,rq,lc,gv,gtD ⟨sp'.lp,sp'.at_⟩,(gK ja k).map gtD,rq,SqL.of (d2' _ _ g14),Z5 (Paired.Aw g24 λ_ _ z=>z.tups (Ak.of d2')),.tup (SqT.of hq') (.cons (.int _) (.cons (.int _) .nil)),rq,lG _,_,rq,?_⟩;rw[E5];refine Gm (λhc=>?_) (λhc=>?_)
    ·have ntl:∀us,HQ lq≠some (.tup us):=λus z=>by rw[d1'] at z;cases z
     have sL:=Ak.upd (o:=.lst (zs++[.ref b])) ntl;refine⟨_,rq,zs,d1',Am (by omega),⟨_,rq⟩,⟨_,Ab,?_⟩,d2'.Bp Ah.upd hlq⟩;rw[et,Qaw (p:=λs:Sp3=>!decide ((⟨s.lp,s.at_⟩ : Gt)∈gK ja k)) hc];exact QcF ⟨b,rq,sL _ _ (kq _ _ hb')⟩ (Paired.Aw d3 λ_ _ z=>(z.tups (Ak.of kq)).tups sL)
    ·refine⟨⟨_,rq⟩,⟨zs,d1',?_⟩,d2'⟩;rw[et,Qav (p:=λs:Sp3=>!decide ((⟨s.lp,s.at_⟩ : Gt)∈gK ja k)) (by show ¬(!decide _)=true;rw[hc];decide)];show Paired _ _ (_++[]);rw[QbP];exact Paired.Aw d3 λ_ _ z=>z.tups (Ak.of kq)
   obtain⟨_,⟨zs,d1,d3⟩,d2⟩:=h;rw[ly,QbB] at d3;generalize hFl:(cw.filter (inn ps)).filter (λs=>!decide ((⟨s.lp,s.at_⟩ : Gt)∈gK ja k))=Fl at *;have lz:=Qci d3;refine VL (ks:=Fl.map cd3) (SqL.of d1) (by omega) (Xz d3 fbd) (iD gO fbd) λis ls' hperm NP hls'=>?_;rw[lz] at hperm;have k5:=Ad hls' (.lst (is.map λi=>zs.getD i .non));have p5:Paired (BW (upd HH ls' (.lst (is.map λi=>zs.getD i .non)))) (is.map λi=>zs.getD i .non) (is.map λi=>Fl.getD i ⟨0,0,0⟩):=Nz (Paired.Aw d3 λ_ _ z=>z.tups (Ak.of k5)) is λi hi=>by rw[lz];exact Qcg.mp (hperm.mem_iff.mp hi)
   rw[UL (L:=is.map λi=>Fl.getD i ⟨0,0,0⟩) (by rw[hd];exact VN hperm) (by rw[cU hperm];exact NP),<-ehF] at p5;have hl5:(upd HH ls' (.lst (is.map λi=>zs.getD i .non))) ls'=_:=Ab;generalize upd HH ls' (.lst (is.map λi=>zs.getD i .non))=HS at *;refine⟨ls',_,rq,.inl ⟨SqL.of hl5,λut hut=>?_⟩⟩;have k6:=Ad hut (.tup (is.map λi=>zs.getD i .non));have Yx:=sX4.trans (d2.trans (k5.trans k6));refine⟨lf,_,_,rq,rq,Yx _ _ h1,Am (by omega),?_⟩;exact⟨⟨_,_,_,rq⟩,fin _ ut _ Yx Ab (Paired.Aw p5 λ_ _ z=>z.tups (Ak.of k6))⟩
 ·obtain⟨⟨u8,u9,u10,rfl⟩,⟨us,h1,h2⟩,sB⟩:=h;have h2:Paired (Vf HX ja fz k ps) us ["A","B"]:=h2;cases h2 with
  | cons a1 r=>
  cases r with
  | cons a2 r=>
  cases r;obtain⟨ua,xa,rfl,m1,m2⟩:=a1;obtain⟨ub,xb,rfl,m3,m4⟩:=a2;refine⟨_,rq,lf,_,rq,.inl ⟨SqL.of h1,λt0 ht0=>?_⟩⟩;have k6:=Ad ht0 (.tup [.ref ua,.ref ub]);exact q t0 ua ub xa xb _ Ab (k6 _ _ m1) (k6 _ _ m3) (Paired.Aw m2 λ_ _ z=>z.tups (Ak.of k6)) (Paired.Aw m4 λ_ _ z=>z.tups (Ak.of k6)) ((s9.Bp sB fH).trans k6)
end
abbrev KD:Stmt:=top 71
abbrev KN:YF:=["_law_bag_here","_law_plan_here","_law_loop_here","_law_many"]
abbrev xx:YF:=["_law_bag_here","_law_plan_here","_law_loop_here","_law_many","_law_wire_names","_law_at","_law_found","_law_again"]
theorem Ig:Az xx KN (Aj KD):=by ac_rfl
structure yX (ja:YU) (fz:YR) (m:Nat):Prop where
 key:∀x∈fz,x.1∈up (stL ja) ja.length
 how:∀x∈fz,x.2=("cut":Str)\/x.2=("short":Str)
 nd:(fz.map (·.1)).Nodup
 few:fz.length<=m
theorem FB {ja:YU} {fz:YR} {m:Nat} (h:yX ja fz m) {s:Sp3} (hs:s∈up (stL ja) ja.length) {z:Str} (hz:z=("cut":Str)\/z=("short":Str)):∃fz',putK (stV fz) (k3 s) (.str z)=stV fz'/\yX ja fz' (m+1):=by
 by_cases hin:s∈fz.map (·.1)
 ·refine⟨JM fz s z,Yc hin,λx hx=>?_,λx hx=>?_,by rw[Rn];exact h.nd,by rw[cT];have:=h.few;omega⟩
  ·obtain⟨y,hy,rfl⟩:=Qcs.mp hx;split
   ·exact h.key y hy
   ·exact h.key y hy
  ·obtain⟨y,hy,rfl⟩:=Qcs.mp hx;split
   ·exact hz
   ·exact h.how y hy
 ·refine⟨fz++[(s,z)],?_,λx hx=>?_,λx hx=>?_,?_,by rw[QaY];have:=h.few;simp;omega⟩
  ·rw[Lg]
   ·unfold stV;rw[QbN];rfl
   ·refine N5 λy hy e=>hin ?_;obtain⟨w,hw,rfl⟩:=Qcs.mp hy;exact Qcs.mpr ⟨w,hw,M7 e⟩
  ·rcases QbO.mp hx with hx | hx
   ·exact h.key x hx
   ·rw[Qbf.mp hx];exact hs
  ·rcases QbO.mp hx with hx | hx
   ·exact h.how x hx
   ·rw[Qbf.mp hx];exact hz
  ·rw[QbN];refine Qbw.mpr ⟨h.nd,QbT.mpr ⟨λz=>(by cases z),Qcf⟩,λx hx y hy e=>?_⟩;have hy:y=s:=by simpa using hy
   exact hin (by rw[<-hy,<-e];exact hx)
inductive mZ (vs:YG) (H:Hp) (Q:VK) (E:XK):Prop
 | mk (b pl:Addr) (n m:Nat) (most:Int) (ja:YU) (jp:List Zone) (k:Nat) (ps:List Place) (_:vs=[.ref b,.ref pl,.int (k:Int),.int (m:Int)]) (_:Cd H b n) (_:n<=9000) (_:m<=6) (_:FQ H pl most ja jp) (_:ja[k]?=some ps) (_:∀fa fz H',Zy H' fa fz->F6 ja fz->Cd H' b (n+2*m)->Ah b H H'->Q (.ref fa) H'):mZ vs H Q E
section
variable {P:Program} {w:World} {K:YD} {mg:YB} {base:Heap} {op oe kd wk C:Addr}
abbrev yk:YF:=["_law_way","_law_loop_here","_law_at"]
theorem rA (c:Code K mg "_law_faults" KD KN) (T:Tw K mg op oe kd wk C) (BL:Good P w K mg base "_law_take" 1 Ht Om):Good P w K mg base "_law_faults" 2 KN mZ:=by
 have sc:=Ig;refine c.good Ig (λvs H Q E h=>?_) (λf cdv A outer s H vs Q E hr h=>?_)
 ·obtain⟨b,pl,n,m,most,ja,jp,k,ps,rfl,_⟩:=h;rfl
 obtain⟨b,pl,n,m,most,ja,jp,k,ps,rfl,hb,hn,hm,pa,hps,q⟩:=h;refine⟨_,(Ae (Ba (i:=4) Ig.nd rfl (Or.inl rfl) (BZ (Aa (Bd (Aa (pv 2) (Aa Af (Aa Af Ac)))) Ac)))
 (Ae (Ck QbQ rfl (Dr rfl T.range (Aa (Av Bj rfl T.len CV (Aa (Bm Ca (Bm Ca (pv 1) Af (λ_ _=>rfl)) (pv 2) (λ_ _=>rfl)) Ac)) Ac)) (Ai (i:=5) Ig.nd rfl (Or.inr rfl))
 (Ag (Bo (Cy Qat Qar Qas Gg (pv 4) (Aa (Cw (N':=yk) rfl (Bk.of (src:=[none,some 2,some 5]) (Aj KD) xx rfl rfl rfl (by trivial) (by trivial) (by trivial) rfl (by trivial)) (Dr rfl T.range (Aa (Bh Cz (Av Bj rfl T.len CV (Aa (Bm Ca (Bm Ca (Bm Ca (Bm Ca (pv 1) Af (λ_ _=>rfl)) (pv 2) (λ_ _=>rfl)) (pv 5) (λ_ _=>rfl)) Af (λ_ _=>rfl)) Ac)) Af) Ac)) (λ_ _ _ _=>(Ai (i:=0) (show List.Nodup (yk:YF) by trivial) rfl (Or.inl rfl))) (λ_ _ _ _=>CZ) (λ_ _ _ _=>(Bd (Aa (pv 1) (Aa (Bh Cz (pv 2) Af) (Aa (pv 0) Ac)))))) Ac)))))
 (Ae (Ba (i:=6) Ig.nd rfl (Or.inr rfl) vW)
 (Ae (Ck QbQ rfl (Dr rfl T.range (Aa (pv 3) Ac)) (Ai (i:=7) Ig.nd rfl (Or.inl rfl))
 (Ag (Lh (CK hr) (pv 6) (Bm Dv (pv 4) (Cm BL hr (Aa (pv 0) (Aa (Av Bj rfl T.len CV (Aa (pv 4) Ac)) Ac))) (λ_ _=>rfl)) (Bm Dv (BZ (Aa Bf (Aa Bf Ac))) (Cm BL hr (Aa (pv 0) (Aa Af Ac))) (λ_ _=>rfl)) rfl)))
 (Ag (Ay (Df Zo rfl T.tuple Gn (Aa (Cw (N':=["_law_stretch","_law_found"]) rfl (Bk.of (src:=[none,some 6]) (Aj KD) xx rfl rfl rfl (by trivial) (by trivial) (by trivial) rfl (by trivial)) (CW (Av Pr rfl T.sorted Qp (Aa (Df (jL rfl) rfl T.list mq (Aa (pv 6) Ac)) Ac))) (λ_ _ _ _=>(Ai (i:=0) (show List.Nodup (["_law_stretch","_law_found"]:YF) by trivial) rfl (Or.inl rfl))) (λ_ _ _ _=>CZ) (λ_ _ _ _=>(Bd (Aa (pv 0) (Aa (Oc (CK hr) (pv 1) (pv 0) (λ_ _=>rfl)) Ac))))) Ac)))))))),?_⟩
 show let R0:TS:=_;let R1:TS:=_;let R2:TS:=Ao (Dm _ _ R1) R0;let R3:TS:=Ao _ R2;let R4:TS:=_;let R5:TS:=Ao (Dm _ _ R4) R3;Ao _ R5 _ _ _;intro R0 R1 R2 R3 R4 R5;have ok:=pa.ok;obtain⟨Ls,zs,ws,zvs,f1,f2,f3,f4,f5⟩:=pa.at_;have lw:=Qci f3;have hkl:=(Qai.mp hps).1;have hwk:ws[k]?=some ws[k]:=Qao (by omega);obtain⟨ps',Hi,t,vs',ev,ht,hpp⟩:=Paired.Cp f3 hwk;rw[hps] at Hi;cases Hi;have lv:=Qci hpp;have okl:=ok.ok ps (QaK hps);have l12:=okl.hi;have QH:atI ws (k:Int)=some (.ref t):=Fb (by rw[hwk,ev]);refine⟨_,rq,Ar (by show 3<=1000;decide),λta hta=>?_⟩;have n1:=Ad hta (.tup [.int (k:Int),.int 0,.int 0]);have EL:(upd H ta (.tup [.int (k:Int),.int 0,.int 0])) ta=_:=Ab;generalize upd H ta (.tup [.int (k:Int),.int 0,.int 0])=H1 at *;refine⟨Ar (by show 1<=1000;decide),λl hl=>?_⟩;have n2:=Ad hl (.lst [.ref ta]);have hl2:(upd H1 l (.lst [.ref ta])) l=_:=Ab;have ta2:=n2 _ _ EL;have fHl:H l=none:=n1.free hl;generalize upd H1 l (.lst [.ref ta])=H2 at *;have sm2:=n1.trans n2;clear n1 n2 EL hta hl;refine⟨_,rq,pl,_,_,_,rq,rq,SqT.of (sm2 _ _ f1),rq,_,rq,Ls,_,_,_,rq,rq,SqT.of (sm2 _ _ f2),QH,t,_,rq,.inr (SqT.of (sm2 _ _ ht)),_,rq,by omega,by omega,?_⟩;rw[Qbr];let J0:YN:=λj U HJ=>∃u5 u7,U=[js b,js pl,some (.int (k:Int)),some (.int (m:Int)),js l,u5,none,u7]/\(∃ys,HJ l=some (.lst ys)/\Paired (BW HJ) ys (⟨(k:Int),0,0⟩::up (st1 k ps) j))/\Same H HJ;refine Fx J0 ⟨_,_,rq,⟨_,hl2,by rw[N6];exact .cons ⟨ta,rq,ta2⟩ .nil⟩,sm2⟩ (λj U HJ hj h=>?_) (fun U HJ h=>?_)
 ·obtain⟨u5,u7,rfl,⟨ys,hyj,pj⟩,sj⟩:=h;have hvj:vs'[j]?=some vs'[j]:=Qao hj;obtain⟨p,hp,tp,ua,wp',ep,hp1,hp2,hp3⟩:=Paired.Cp hpp hvj;have okp:=okl.ok p (QaK hp);have ej:st1 k ps j=(List.range (p.spur.length+1)).map λn:Nat=>⟨(k:Int),((1+j:Nat):Int),(n:Int)⟩:=CQ hp;have yC:atI vs' ((0:Int)+(j:Int))=some (.ref tp):=by rw[QcC];exact Fb (by rw[hvj,ep])
  have lj:=Es (Uq (lp:=k) okl.ok) j;have lys:=Qci pj;rw[QbC] at lys;have lwp:=Qci hp3;have hsp:=okp.spur;refine⟨_,rq,.inl ⟨rq,_,SqL.of hyj⟩,_,rq,pl,_,_,_,rq,rq,SqT.of (sj _ _ f1),rq,_,rq,Ls,_,_,_,rq,rq,SqT.of (sj _ _ f2),QH,_,rq,t,_,_,_,rq,rq,SqT.of (sj _ _ ht),yC,tp,_,_,_,rq,rq,SqT.of (sj _ _ hp1),rq,ua,_,rq,.inr (SqT.of (sj _ _ hp2)),_,_,rq,rq,_,rq,by omega,by omega,λl2 hl3=>?_⟩;rw[show ((wp'.length:Int)+1).toNat=p.spur.length+1 by omega];let J1:YN:=λn U HC=>∃(u:Option V) (zs:YG),U=[u,some (.int (k:Int)),some (.int ((0:Int)+(j:Int)))]/\HC l2=some (.lst zs)/\Same HJ HC/\Paired (BW HC) zs ((List.range n).map λn:Nat=>⟨(k:Int),((1+j:Nat):Int),(n:Int)⟩);refine K5 J1 ⟨none,[],rq,Ab,Ad hl3 _,.nil⟩ (λn U HC hn h=>?_) (fun U HC h=>?_)
  ·obtain⟨u,zs,rfl,c1,c2,c3⟩:=h;refine⟨_,rq,_,rq,_,_,rq,rq,_,rq,Ar (by show 3<=1000;decide),λtq htq=>?_⟩
   first | rw[show (λi j:Int=>V.int (i+j)) ((0:Int)+(j:Int)) 1=V.int ((1+j:Nat):Int) from congrArg V.int (by omega)] | rw[show V.int ((0:Int)+(j:Int)+1)=V.int ((1+j:Nat):Int) from congrArg V.int (by omega)]
   have s3:=Ad htq (.tup [.int (k:Int),.int ((1+j:Nat):Int),.int (0+(n:Int))]);have c1':=s3 _ _ c1;have lz:=Qci c3;rw[QbM,Qbz] at lz;have n1:∀zs',(upd HC tq (.tup [.int (k:Int),.int ((1+j:Nat):Int),.int (0+(n:Int))])) l2≠some (.tup zs'):=λzs' z=>by rw[c1'] at z;cases z
   have t4:=Ak.upd (o:=.lst (zs++[.ref tq])) n1;refine⟨_,c1',Am (by omega),_,zs++[.ref tq],rq,Ab,(c2.trans s3).Bp Ah.upd hl3,?_⟩;rw[List.range_succ,QbN];refine QcF ⟨tq,rq,?_⟩ (Paired.Aw c3 λ_ _ z=>(z.tups (Ak.of s3)).tups t4);refine t4 _ _ ?_;rw[Ab,QcC]
  obtain⟨u,zs,rfl,c1,c2,c3⟩:=h;have lz:=Qci c3;rw[QbM,Qbz] at lz;have hyC:=c2 _ _ hyj;refine⟨l,l2,_,_,rq,rq,hyC,c1,Ar (by omega),?_⟩;have n2:∀zs',HC l≠some (.tup zs'):=λzs' z=>by rw[hyC] at z;cases z
  have t5:=Ak.upd (o:=.lst (ys++zs)) n2;refine⟨_,_,rq,⟨ys++zs,Ab,?_⟩,(sj.trans c2).Bp Ah.upd fHl⟩;rw[Ea,ej,<-QbL];exact Paired.app (Paired.Aw pj λ_ _ z=>(z.tups (Ak.of c2)).tups t5) (Paired.Aw c3 λ_ _ z=>z.tups t5)
 obtain⟨u5,u7,rfl,⟨ys,hyj,pj⟩,sj⟩:=h;rw[lv] at pj;have lys:=Qci pj;have ljj:=Es (Uq (lp:=k) okl.ok) ps.length;rw[QbC] at lys;have nlb:l≠b:=(hb.nb fHl).symm;have hbJ:=hb.same sj;have NH:∀s∈(⟨(k:Int),0,0⟩::up (st1 k ps) ps.length:YV),s∈up (stL ja) ja.length:=λs hs=>by
  refine JC (i:=k) ?_ hkl;unfold stL;rw[CQ hps];exact hs
 refine λdd hdd=>?_;have fdd:H dd=none:=sj.free hdd;have ndl:l≠dd:=Ax hyj hdd;have ndb:b≠dd:=hbJ.nb hdd;have kd:=Ad hdd (.dT []);have EZ:(upd HJ dd (.dT [])) dd=some (.dT (stV [])):=Ab;have s3:=sj.trans kd;have hyj:=kd _ _ hyj;have pj:Paired (BW (upd HJ dd (.dT []))) ys (⟨(k:Int),0,0⟩::up (st1 k ps) ps.length):=Paired.Aw pj λ_ _ z=>z.tups (Ak.of kd);have hb3:=hbJ.same kd;generalize upd HJ dd (.dT [])=H3 at *;clear kd hdd;unfold Eh;dsimp only;refine⟨_,rq,_,rq,by omega,by omega,?_⟩;rw[Qbr];let J2:YN:=λi U HX=>∃u7,U=[js b,js pl,some (.int (k:Int)),some (.int (m:Int)),js l,u5,js dd,u7]/\(∃fz,HX dd=some (.dT (stV fz))/\yX ja fz i)/\Cd HX b (n+2*i)/\∀c o,H3 c=some o->c≠b->c≠dd->HX c=some o;refine Fx J2 ⟨_,rq,⟨[],EZ,⟨λx hx=>(by cases hx),λx hx=>(by cases hx),Qcf,QcD _⟩⟩,hb3,λc o e _ _=>e⟩ (λi U HX hi h=>?_) (fun U HX h=>?_)
 ·obtain⟨u7,rfl,⟨fz,hx,go⟩,hbX,kp⟩:=h;have ntd:∀zs,HX dd≠some (.tup zs):=λzs z=>by rw[hx] at z;cases z
  refine⟨Ar (by show 2<=1000;decide),λlr hlr=>?_⟩;have k1:=Ad hlr (.lst [.str "cut",.str "short"]);have hr1:(upd HX lr (.lst [.str "cut",.str "short"])) lr=_:=Ab;have nrb:lr≠b:=(hbX.nb hlr).symm;have OH:=hbX.same k1;generalize upd HX lr (.lst [.str "cut",.str "short"])=HR at *;refine⟨_,rq,b,n+2*i,2,rq,OH,by omega,by decide,by decide,λr H4 r0 r1 hb4 sb4=>?_⟩;obtain⟨z,hz,hat⟩ : ∃z:Str,(z=("cut":Str)\/z=("short":Str))/\atI [V.str "cut",V.str "short"] r=some (.str z):=by
   have:r=0\/r=1:=by omega
   rcases this with rfl | rfl
   ·exact⟨_,.inl rfl,rq⟩
   ·exact⟨_,.inr rfl,rq⟩
  refine⟨lr,_,_,_,rq,rq,SqL.of (sb4 _ _ hr1 nrb),hat,?_⟩;have hy4:=sb4 _ _ (k1 _ _ (kp _ _ hyj nlb ndl)) nlb;refine⟨_,rq,_,rq,_,rq,_,rq,l,_,rq,.inl (SqL.of hy4),b,n+2*i+1,_,rq,hb4,by omega,by omega,by omega,λj H5 j0 j1 hb5 sb5=>?_⟩;obtain⟨jn,rfl⟩ : ∃jn:Nat,j=(jn:Int):=⟨j.toNat,(QaW j0).symm⟩;have hyn:ys[jn]?=some ys[jn]:=Qao (by omega);obtain⟨s1,hs1,t1,et1,o8⟩:=Paired.Cp pj hyn;refine⟨l,_,_,_,rq,rq,SqL.of (sb5 _ _ hy4 nlb),Fb (xs:=ys) (j:=jn) hyn,?_⟩;rw[et1];have hx5:H5 dd=some (.dT (stV fz)):=sb5 _ _ (sb4 _ _ (k1 _ _ hx) ndb.symm) ndb.symm;have nt1:t1≠b:=λz=>hb3.Ip _ (by rw[<-z];exact o8);have KP:t1≠dd:=λz=>by rw[z,EZ] at o8;cases o8
  have N1:=sb5 _ _ (sb4 _ _ (k1 _ _ (kp _ _ o8 nt1 KP)) nt1) nt1;obtain⟨fz',e1,go'⟩:=FB go (NH s1 (QaK hs1)) hz;have few:=go.few;refine⟨dd,_,rq,LC.t (k:=k3 s1) hx5 N1 (Am (by unfold stV;rw[QbM];omega)),?_⟩;rw[e1];refine⟨_,rq,⟨fz',Ab,go'⟩,(hb5.Ji Ah.upd ndb).mono (by omega),λc o e n1 n2=>?_⟩;rw[Aq n2];exact sb5 _ _ (sb4 _ _ (k1 _ _ (kp _ _ e n1 n2)) n1) n1
 obtain⟨u7',rfl,⟨fz,hx,go⟩,hbX,kp⟩:=h;have few:=go.few;have sbX:Ah b H HX:=λc o e n1=>kp _ _ (s3 _ _ e) n1 (Ax e fdd);clear kp hyj pj hb3 s3 hbJ sj;refine⟨_,rq,rJ hx λl0 bs hl0 hbs=>?_⟩;have k1:=Ad hl0 (.lst (bs.map V.ref));obtain⟨bs0,ebs⟩ : ∃bs0,bs0=bs:=⟨_,rfl⟩;rw[<-ebs] at k1;rw[show upd HX l0 (.lst (bs.map V.ref))=upd HX l0 (.lst (bs0.map V.ref)) by rw[ebs]];have lbs:bs.length=fz.length:=by rw[Qci hbs];exact QbM ..
 have pbs:Paired (BW (upd HX l0 (.lst (bs0.map V.ref)))) (bs.map V.ref) (fz.map (·.1)):=by
  have:∀{bs:List Addr} {fz:YR},Paired (λb (kv:List Key×V)=>HX b=some (.tup (kv.1.map kV))) bs (stV fz)->Paired (BW (upd HX l0 (.lst (bs0.map V.ref)))) (bs.map V.ref) (fz.map (·.1)):=λ{bs}=>by
   induction bs with
   | nil=>intro fz h;cases fz with | nil=>exact .nil | cons x r=>cases h
   | cons a r ih=>intro fz h;cases fz with | nil=>cases h | cons x r2=>cases h with | cons h1 h2=>exact .cons ⟨a,rfl,k1 _ _ h1⟩ (ih h2)
  exact this hbs
 have bd:∀s∈fz.map (·.1),Bd3 s:=λs hs=>by
  obtain⟨x,hx,rfl⟩:=Qcs.mp hs;exact zB ok _ (go.key x hx)
 have ER:(upd HX l0 (.lst (bs0.map V.ref))) l0=some (.lst (bs.map V.ref)):=by rw[Ab,ebs]
 have hx0:=k1 _ _ hx;generalize upd HX l0 (.lst (bs0.map V.ref))=HB at *;refine VL (ks:=(fz.map (·.1)).map cd3) (SqL.of ER) (by rw[QbM];omega) (Xz pbs bd) (iD go.nd bd) λis ls hperm NP hls=>?_;rw[QbM,lbs] at hperm;have k2:=Ad hls (.lst (is.map λi=>(bs.map V.ref).getD i .non));have hil:∀i∈is,i < fz.length:=λi hi=>Qcg.mp (hperm.mem_iff.mp hi);have p5:Paired (BW (upd HB ls (.lst (is.map λi=>(bs.map V.ref).getD i .non)))) (is.map λi=>(bs.map V.ref).getD i .non) (is.map λi=>(fz.map (·.1)).getD i ⟨0,0,0⟩):=Nz (Paired.Aw pbs λ_ _ z=>z.tups (Ak.of k2)) is λi hi=>by rw[QbM,lbs];exact hil i hi
 obtain⟨fs,efs⟩ : ∃fs,fs=is.map λi=>fz.getD i (⟨0,0,0⟩,""):=⟨_,rfl⟩;have PY:(is.map λi=>(fz.map (·.1)).getD i ⟨0,0,0⟩)=fs.map (·.1):=by
  rw[efs,Qcw];refine QaT λi hi=>?_;have:=hil i hi;simp[this]
 rw[PY] at p5;have pf:fs.Perm fz:=by rw[efs];exact VN hperm
 have hs5:(upd HB ls (.lst (is.map λi=>(bs.map V.ref).getD i .non))) ls=_:=Ab;have hx5:=k2 _ _ hx0;have sb5:Ah b H (upd HB ls (.lst (is.map λi=>(bs.map V.ref).getD i .non))):=sbX.trans (Ah.of (k1.trans k2));have hb5:=(hbX.same k1).same k2;have lp5:=Qci p5;generalize (is.map λi=>(bs.map V.ref).getD i .non)=sv at *;generalize upd HB ls (.lst sv)=HS at *;clear k1 k2 pbs hx0 ER hls hbs;rw[QbM] at lp5;have lfs:fs.length=fz.length:=pf.length_eq;refine⟨ls,rq,⟨_,SqL.of hs5⟩,λlc hlc=>?_⟩;let J3:YN:=λi U HC=>(∃u,U=[u,js dd])/\(∃zs,HC lc=some (.lst zs)/\Paired (Jz HC) zs (stV (fs.take i)))/\Same HS HC;refine Fy (xs:=sv) J3 ⟨⟨_,rq⟩,⟨[],Ab,.nil⟩,Ad hlc _⟩ (λi U HC _ h=>SqL.of (h.2.2 _ _ hs5)) (λi x U HC hxi h=>?_) (fun U HC h=>?_)
 ·obtain⟨⟨u,rfl⟩,⟨zs,c1,c2⟩,c3⟩:=h;obtain⟨s1,hs1,b1,rfl,hb1⟩:=Paired.Cp p5 hxi;obtain⟨y,hy,rfl⟩ : ∃y,fs[i]?=some y/\s1=y.1:=by
   rw[Qbq] at hs1;cases e:fs[i]? with
   | none=>rw[e] at hs1;cases hs1
   | some y=>rw[e] at hs1;cases hs1;exact⟨y,rfl,rfl⟩
  have lz:=Qci c2;unfold stV at lz;rw[QbM,QbD] at lz;obtain⟨jn,hjn⟩:=QaO (pf.mem_iff.mp (QaK hy));have hv:Di (stV fz) (k3 y.1)=some (.str y.2):=jY (f:=λx:Sp3×Str=>(k3 x.1,V.str x.2)) (by
   have:=go.nd;rw[Qag,Qbx] at this;rw[Qag,Qbx];exact this.imp λ{a b} h e=>h (M7 e)) hjn
  have gg:=Dt.t (k:=k3 y.1) (c3 _ _ hx5) (c3 _ _ hb1);rw[hv] at gg;unfold Eh;dsimp only;refine BK ⟨_,rq,_,rq,_,rq,dd,_,rq,gg,Ar (by show 2<=1000;decide),λtr htr=>?_⟩;have k1:=Ad htr (.tup [.ref b1,.str y.2]);have c1':=k1 _ _ c1;have ntl:∀zs,(upd HC tr (.tup [.ref b1,.str y.2])) lc≠some (.tup zs):=λzs z=>by rw[c1'] at z;cases z
  have sL:=Ak.upd (o:=.lst (zs++[.ref tr])) ntl;refine⟨zs,c1',Am (by omega),⟨_,rq⟩,⟨_,Ab,?_⟩,(c3.trans k1).Bp Ah.upd hlc⟩;rw[QcM hy];unfold stV;rw[QbN];exact QcF ⟨tr,b1,rq,sL _ _ Ab,sL _ _ (k1 _ _ (c3 _ _ hb1))⟩ (Paired.Aw c2 λv r z=>GC sL (GC (Ak.of k1) z))
 obtain⟨_,⟨zs,c1,c2⟩,c3⟩:=h;rw[lp5,QbB] at c2;refine⟨lc,zs,rq,SqL.of c1,λfa o hfa tp=>?_⟩;have k6:=Ad hfa (.frz o (.tup zs));refine q fa fs _ ⟨o,zs,Ab,tp,Paired.Aw c2 λv r z=>GC (Ak.of k6) z⟩ ⟨λx hx=>go.key x (pf.mem_iff.mp hx),λx hx=>go.how x (pf.mem_iff.mp hx),?_,by omega⟩ ((hb5.same c3).same k6) (sb5.trans (Ah.of (c3.trans k6)));exact ((pf.map (·.1)).nodup_iff).mpr go.nd
end
abbrev Nx:Stmt:=top 73
abbrev zJ:YF:=["_law_script"]
theorem Ku:Az ["_law_script","_law_k","_law_bag_here","_law_plan_here","_law_loop_here","_law_faults_here","_law_again","_law_e"] zJ (Aj Nx):=by ac_rfl
theorem bx {X:Cx} {K:YD} (h:X.K=K):DW X (.type "list") (λxs H Q=>∃p ys,xs=[.ref p]/\(SqL K H p ys\/SqT K H p ys)/\∀l,H l=none->Q (.ref l) (upd H l (.lst ys))):=h ▸ iH
theorem RY {i:Int} (h0:0<=i) (h4:i < 4) {a b c d:V} (P:V->Prop) (ha:P a) (hb:P b) (hc:P c) (hd:P d):∃p,atI [a,b,c,d] i=some p/\P p:=by
 have:i=0\/i=1\/i=2\/i=3:=by omega
 rcases this with rfl | rfl | rfl | rfl <;> exact⟨_,rfl,by assumption⟩
theorem K6.tup {H:Hp} {t:Addr} {xs:YG} (h:H t=some (.tup xs)) (n:xs.length≠3):K6 H (.ref t):=.inl ⟨Ga h,by rw[Cr h];exact Yz (by omega)⟩
def Oo (s:Sp3):PyData:=.tuple [.int s.lp,.int s.at_,.int s.n]
theorem Ol {H:Hp}:∀{vs:YG} {ss:YV},Paired (BW H) vs ss->Px H vs (ss.map Oo)
 | _,_,.nil=>.nil
 | _,_,.cons ⟨t,e,h1⟩ r=>by
  subst e;exact .cons (.tup h1 (.cons (.int _) (.cons (.int _) (.cons (.int _) .nil)))) (Ol r)
theorem Yd:∀ss:YV,PyData.canLayAll0 (ss.map Oo)=true/\PyData.depthAll (ss.map Oo)<=2
 | []=>⟨rfl,by show 0<=2;decide⟩
 | d::r=>by
  have ih:=Yd r;refine⟨?_,?_⟩
  ·show ((true&&(true&&(true&&true)))&&PyData.canLayAll0 (r.map Oo))=true;rw[ih.1];rfl
  ·show max (max 0 (max 0 (max 0 0))+1) (PyData.depthAll (r.map Oo))<=2;exact Nat.max_le.mpr ⟨by decide,ih.2⟩
theorem Rh (A B:YV):SeqAt.shaped (.tuple [.tuple (A.map Oo),.tuple (B.map Oo)])=true:=by
 have h1:=Yd A;have h2:=Yd B;show ((PyData.canLayAll0 (A.map Oo)&&(PyData.canLayAll0 (B.map Oo)&&true))&&decide (max (PyData.depthAll (A.map Oo)+1) (max (PyData.depthAll (B.map Oo)+1) 0)+1<=64))=true;rw[h1.1,h2.1];exact Qcd (by omega)
section
variable {P:Program} {w:World} {K:YD} {mg:YB} {base:Heap} {op oe kd wk C:Addr} {hc c0 c1 c2 c3 c4 c5 c6 c7 c8 c9 c10 c11 c12:Addr}
theorem DV {f:Addr} {fd:FuncData} (F:Fun K "law" "law" Nx f fd) (T:Tw K mg op oe kd wk C) (XE:Er K mg hc c0 c1 c2 c3 c4 c5 c6 c7 c8 c9 c10 c11 c12) (Je:Knd K hc c0 [c0,c1,c2,c3,c4,c5,c6,c7,c8,c9,c10,c11,c12] 0) (Zh:Good P w K mg base "_law_bag" 1 Q6 (m7 K)) (BL:Good P w K mg base "_law_take" 1 Ht Om) (yG:Good P w K mg base "_law_plan" 4 O4 cH) (pF:Good P w K mg base "_law_faults" 2 KN mZ) (gM:Good P w K mg base "heard_with" 13 Ft cN) (bf:bK P w K mg base "heard_with" 13 Ft (mY c0)) (B1:Good P w K mg base "_law_due" 3 Q5 cN) (yD:bL P w K mg base "_law_kind" 1 O7 (cM K hc [c0,c1,c2,c3,c4,c5,c6,c7,c8,c9,c10,c11,c12])):FZ P w K mg base CX0 14 f fd zJ (Xa K):=by
 have sc:=Ku;refine F.ok Ku (λvs H Q E h=>?_) (λcdv A outer s H vs Q E hr h=>?_)
 ·obtain⟨a,ns,rfl,_⟩:=h;rfl
 obtain⟨a,ns,rfl,hS,h63,q⟩:=h;refine⟨_,(Ae (Ck QbQ rfl (Dr rfl T.range (Aa (Av (ux rfl) rfl T.max iM (Aa Af (Aa (Av (Nb rfl) rfl T.min Ua (Aa Af (Aa (Av Bj rfl T.len CV (Aa (pv 0) Ac)) Ac))) Ac))) Ac)) (Ai (i:=1) Ku.nd rfl (Or.inl rfl))
 (Ae (Ba (i:=2) Ku.nd rfl (Or.inl rfl) (Cm Zh hr (Aa (pv 0) (Aa (pv 1) Ac))))
 (Ae (Ba (i:=3) Ku.nd rfl (Or.inl rfl) (Dc yG hr (Aa (pv 2) (Aa Af (Aa Af Ac)))))
 (Ae (Ba (i:=4) Ku.nd rfl (Or.inl rfl) (Cm BL hr (Aa (pv 2) (Aa (Av Bj rfl T.len CV (Aa (Bm Ca (pv 3) Af (λ_ _=>rfl)) Ac)) Ac))))
 (Ae (Ba (i:=5) Ku.nd rfl (Or.inl rfl) (Tf pF hr (Aa (pv 2) (Aa (pv 3) (Aa (pv 4) (Aa (Cm BL hr (Aa (pv 2) (Aa Af Ac))) Ac))))))
 (Ae (Ck QbQ rfl (Dr rfl T.range (Aa Af Ac)) (Ai (i:=6) Ku.nd rfl (Or.inl rfl))
 (Ag (Cu (Bx (DS hr.units) (Dc gM hr (Aa (pv 3) (Aa (pv 4) (Aa (pv 5) Ac)))) (Dc B1 hr (Aa (pv 3) (Aa (pv 4) (Aa (pv 5) Ac)))) (BP _)) (Ag (Ay DK)) BJ)))
 (Ag (AV (i:=7) Ku.nd rfl rfl rfl rfl rfl XE.jA XE.jm (λpn E1 EX hx=>(Ag (Bo (DJ bf hr hx (Aa (Bm (yg (K:=K) rfl) (BZ (Aa KJ (Aa (Bd Ac) (Aa (Bh O8 (pv 3) (pv 3)) (Aa (Df (bx (K:=K) rfl) rfl T.list mq (Aa (pv 3) Ac)) Ac))))) (Cm BL hr (Aa (pv 2) (Aa Af Ac))) (λ_ _=>rfl)) (Aa Af (Aa (Bd Ac) Ac)))))))
 (λpn ea=>(Ag (Cu (Bx Xk (DM yD (hr.inH _) (Aa (pv 7) Ac)) Bf (BP _)) (Ag (Ay DK)) BJ)))
 (Ag (Ay DK))))))))))
 (Ag (Ay DK))),?_⟩
 show let R0:TS:=_;let R1:TS:=_;let R2:TS:=Ao (Dm _ _ R1) R0;let R3:TS:=Ao _ R2;let R4:TS:=Ao _ R3;let R5:TS:=Ao _ R4;let R6:TS:=Ao _ R5;Ao (Dm _ _ R6) _ _ _ _;intro R0 R1 R2 R3 R4 R5 R6;have hl:(ns.map V.int).length=ns.length:=QbM _;refine⟨_,rq,a,_,rq,.inl hS,_,_,rq,_,_,rq,_,rq,?_,?_,?_⟩
 ·rw[hl];split <;> split <;> omega
 ·rw[hl];split <;> split <;> omega
 let J0:YN:=λ(i:Nat) (U : St) (H':Hp)=>Same H H'/\∃(u1 u2 u3 u4 u5 u6 u7:Option V),U=[js a,u1,u2,u3,u4,u5,u6,u7];refine Fx J0 ⟨Same.refl H,_,_,_,_,_,_,_,rq⟩ (λi U H' hi h=>?_) (fun U H' h=>?_)
 ·obtain⟨sm,u1,u2,u3,u4,u5,u6,u7,rfl⟩:=h;rw[hl] at hi;have hi':(i:Int)<=100:=by
   revert hi;split <;> split <;> omega
  refine⟨_,rq,_,rq,a,ns,_,rq,sm.seq hS,h63,by omega,by omega,λb o hb0 E2=>?_⟩;have s1:Same H (upd H' b o):=sm.trans (Ad hb0 o);have fb:H b=none:=sm.free hb0;generalize upd H' b o=H1 at s1 E2 ⊢;refine⟨_,rq,b,0,3,12,rq,E2,by omega,by omega,by omega,by omega,by omega,λt Ls zs vs zvs ja jp most H2 e1 e2 e3 e4 e5 e6 e7 e8 e9 hb2 sb2=>?_⟩;have ok:Ei ja:=⟨e4,e6⟩;have pa:FQ H2 t most ja jp:=⟨⟨Ls,zs,vs,zvs,e1,e2,e3,e7,e8⟩,ok,e5,e9⟩;have s2:Same H H2:=s1.Bp sb2 fb;have lw:=Qci e3;refine⟨_,rq,_,rq,t,_,_,_,rq,rq,SqT.of e1,rq,Ls,_,rq,.inr (SqT.of e2),b,3000,_,rq,hb2,by omega,by omega,by omega,λkk H3 k0 k1 hb3 sb3=>?_⟩;obtain⟨k,rfl⟩ : ∃k:Nat,kk=(k:Int):=⟨kk.toNat,(QaW k0).symm⟩;have hps:ja[k]?=some ja[k]:=Qao (by omega);refine⟨_,rq,_,rq,_,rq,_,rq,b,3001,7,rq,hb3,by omega,by decide,by decide,λmm H4 m0 m1 hb4 sb4=>?_⟩;obtain⟨m,rfl⟩ : ∃m:Nat,mm=(m:Int):=⟨mm.toNat,(QaW m0).symm⟩;have vD:=sb3.trans sb4;have pa4:=pa.tups (vD.tup hb2.Ip);refine⟨b,t,3002,m,most,ja,jp,k,ja[k],rq,hb4,by omega,by omega,pa4,hps,λfa fz H5 hfz fok hb5 sb5=>?_⟩;have pa5:=pa4.tups (sb5.tup hb4.Ip);have s5:Same H H5:=(s2.Bp vD fb).Bp sb5 fb;clear sb5 vD sb4 sb3 pa4 pa e8 e7 e3 e2 e1 hb4 hb3 hb2 s2 sb2 s1;refine⟨_,rq,by omega,by omega,?_⟩;let J1:YN:=λj U HX=>(∃u6,U=[js a,some (.int (0+(i:Int))),js b,js t,some (.int (k:Int)),js fa,u6,u7])/\Same H5 HX;refine Fx J1 ⟨⟨_,rq⟩,Same.refl _⟩ (λj U HX hj h=>?_) (fun U HX h=>?_)
  ·obtain⟨⟨u6,rfl⟩,sX⟩:=h;refine⟨_,rq,_,rq,_,rq,t,fa,most,ja,jp,k,ja[k],fz,rq,pa5.same sX,hps,hfz.same sX,fok,λt1 ua ub xa xb H6 a1 a2 a3 a4 a5 s6=>?_⟩;refine⟨_,rq,_,rq,_,rq,t,fa,most,ja,jp,k,ja[k],fz,rq,pa5.same (sX.trans s6),hps,hfz.same (sX.trans s6),fok,λt2 va vb ya yb H7 b1 b2 b3 b4 b5 s7=>?_⟩;have PV:=SeqAt.eqv_refl _ (SeqAt.canLay_of_shaped (Rh (Qj ja fz k ja[k] "A") (Qj ja fz k ja[k] "B")));refine⟨_,_,.tup (s7 _ _ a1) (.cons (.tup (s7 _ _ a2) (Ol (Paired.Aw a4 λ_ _ z=>z.tups (Ak.of s7)))) (.cons (.tup (s7 _ _ a3) (Ol (Paired.Aw a5 λ_ _ z=>z.tups (Ak.of s7)))) .nil)),.tup b1 (.cons (.tup b2 (Ol b4)) (.cons (.tup b3 (Ol b5)) .nil)),Rh _ _,Rh _ _,_,rq,?_⟩;rw[PV];exact Cj ⟨⟨_,rq⟩,sX.trans (s6.trans s7)⟩
  obtain⟨⟨u6,rfl⟩,sX⟩:=h;have pa6:=pa5.same sX;have hb6:=hb5.same sX;have s6:=s5.trans sX;clear sX pa5 hb5 s5 hfz;obtain⟨Ls,zs,vs,zvs,e1,e2,e3,e4',e5'⟩:=pa6.at_;have z0:0<=sizeLine:=Ar (by decide);refine⟨z0,λt1 ht1=>?_⟩;have y1:=Ad ht1 (.tup []);have w1:(upd HX t1 (.tup [])) t1=_:=Ab;generalize upd HX t1 (.tup [])=H1 at *;refine⟨_,rq,_,rq,t,t,_,_,rq,rq,y1 _ _ e1,y1 _ _ e1,Ar (by show 3+3<=1000;decide),λt3 H3 w3 y3=>?_⟩;have p3:=y1.trans y3;refine⟨_,rq,t,_,rq,.inr (SqT.of (p3 _ _ e1)),λl4 hl4=>?_⟩;have y4:=Ad hl4 (.lst [.int most,.ref Ls,.ref zs]);have w4:(upd H3 l4 (.lst [.int most,.ref Ls,.ref zs])) l4=_:=Ab;have n4:l4≠b:=((hb6.same p3).nb hl4).symm;generalize upd H3 l4 (.lst [.int most,.ref Ls,.ref zs])=H4 at *;refine⟨Ar (by show 4<=1000;decide),λlo hlo=>?_⟩;have y5:=Ad hlo (.lst [.non,.ref t1,.ref t3,.ref l4]);have w5:(upd H4 lo (.lst [.non,.ref t1,.ref t3,.ref l4])) lo=_:=Ab;have p4:=p3.trans y4;have n5:lo≠b:=((hb6.same p4).nb hlo).symm;generalize upd H4 lo (.lst [.non,.ref t1,.ref t3,.ref l4])=HL at *;have p5:=p4.trans y5;have hbL:=hb6.same p5;refine⟨_,rq,b,_,4,rq,hbL,by omega,by decide,by decide,λr HX2 r0 r4 hbX sbX=>?_⟩;have tp:=sbX.tup hbL.Ip;have x1:=tp _ _ (y5 _ _ (y4 _ _ (y3 _ _ w1)));have x3:=tp _ _ (y5 _ _ (y4 _ _ w3));have x4:=sbX _ _ (y5 _ _ w4) n4;obtain⟨v,hv,nl⟩ : ∃v,atI [.non,.ref t1,.ref t3,.ref l4] r=some v/\K6 HX2 v:=by
   refine RY r0 r4 (K6 HX2) (.inl ⟨True.intro,rq⟩) (.tup x1 (by decide)) (.tup x3 (by show 6≠3;decide)) (.inl ⟨.inl ⟨_,x4⟩,by rw[PB x4];rfl⟩)
  refine⟨lo,_,_,_,rq,rq,SqL.of (sbX _ _ w5 n5),hv,Ar (by show 0<=1000;decide),λte hte=>?_⟩;have y7:=Ad hte (.tup []);refine⟨v,_,_,rq,nl.same y7,λH8 s8=>?_⟩;refine⟨_,rq,Je.xc,Je.sub,λe he=>?_⟩;have s9:=Ad he (xo e c0);refine⟨_,rq,e,_,0,rq,Ab,Je,by decide,λHB sB=>?_⟩;have Yx:=y7.trans (s8.trans (s9.trans sB));have KA:Same H HB:=((s6.trans p5).Bp sbX fb).trans Yx;refine⟨rq,_,rq,?_⟩;rw[show (!decide (V.str (oV 0)=V.str "plan"))=false by trivial];exact Cj ⟨KA,_,_,_,_,_,_,_,rq⟩
 ·obtain⟨_,_,_,_,_,_,_,_,rfl⟩:=h;exact q _
end
theorem Hn {K:YD} {C c0 c1 c2 c3 c4 c5 c6 c7 c8 c9 c10 c11 c12:Addr} {j:Nat} (q0:kitOne K (.ref C) (.ref c0)=some (decide (0=j))) (q1:kitOne K (.ref C) (.ref c1)=some (decide (1=j))) (q2:kitOne K (.ref C) (.ref c2)=some (decide (2=j))) (q3:kitOne K (.ref C) (.ref c3)=some (decide (3=j))) (q4:kitOne K (.ref C) (.ref c4)=some (decide (4=j))) (q5:kitOne K (.ref C) (.ref c5)=some (decide (5=j))) (q6:kitOne K (.ref C) (.ref c6)=some (decide (6=j))) (q7:kitOne K (.ref C) (.ref c7)=some (decide (7=j))) (q8:kitOne K (.ref C) (.ref c8)=some (decide (8=j))) (q9:kitOne K (.ref C) (.ref c9)=some (decide (9=j))) (q10:kitOne K (.ref C) (.ref c10)=some (decide (10=j))) (q11:kitOne K (.ref C) (.ref c11)=some (decide (11=j))) (q12:kitOne K (.ref C) (.ref c12)=some (decide (12=j))) :
  ∀i d,([c0,c1,c2,c3,c4,c5,c6,c7,c8,c9,c10,c11,c12]:List Addr)[i]?=some d->kitOne K (.ref C) (.ref d)=some (decide (i=j)):=λi d h=>by
 match i,h with
 | 0,h=>cases h;exact q0
 | 1,h=>cases h;exact q1
 | 2,h=>cases h;exact q2
 | 3,h=>cases h;exact q3
 | 4,h=>cases h;exact q4
 | 5,h=>cases h;exact q5
 | 6,h=>cases h;exact q6
 | 7,h=>cases h;exact q7
 | 8,h=>cases h;exact q8
 | 9,h=>cases h;exact q9
 | 10,h=>cases h;exact q10
 | 11,h=>cases h;exact q11
 | 12,h=>cases h;exact q12
 | n+13,h=>cases h
structure FnI (K:YD) (x:Str) (st:Stmt):Prop where
 ex:∃(f:Addr) (oc:Value) (od an:Option Addr) (sl:YI) (kV dc pm cd ct:Value),nsIn K mainGlobals x=some (some (.ref f))/\K.lookup f=some ⟨oc,od,.func (fnOf x x (Ez st) (Dg st) (Aj st) .none kV dc pm an cd ct),sl⟩/\codeIn K cd x=true/\keepIn K (.ref f)=true
theorem FnI.of {K:YD} {x:Str} {st:Stmt} {f:Addr} {oc:Value} {od an:Option Addr} {sl:YI} {kV dc pm cd ct:Value} (a:nsIn K mainGlobals x=some (some (.ref f))) (l:K.lookup f=some ⟨oc,od,.func (fnOf x x (Ez st) (Dg st) (Aj st) .none kV dc pm an cd ct),sl⟩) (c:codeIn K cd x=true) (k:keepIn K (.ref f)=true):FnI K x st:=⟨f,oc,od,an,sl,kV,dc,pm,cd,ct,a,l,c,k⟩
theorem FnI.code {K:YD} {mg:YB} {h:Heap} {x:Str} {st:Stmt} {ps:YF} (I:FnI K x st) (X:K.In h) (G:h.Ns mainGlobals mg) (hb:∀(kV doc pm:Value) (an:Option Addr) (cdv ct:Value) (us:YE),us.length=ps.length->bindArgs (fnOf x x (Ez st) (Dg st) (Aj st) .none kV doc pm an cdv ct) ⟨us,[]⟩=pure (ps.zip us)):Code K mg x st ps:=by
 obtain⟨f,oc,od,an,sl,kV,dc,pm,cd,ct,a,l,c,k⟩:=I.ex;exact Code.of X G a l c k hb
structure MtI (K:YD) (C:Addr) (x q:Str) (st:Stmt):Prop where
 ex:∃(f:Addr) (oc:Value) (od an:Option Addr) (sl:YI) (kV dc pm cd ct:Value),findIn K (.ref C) x=some (some (.ref f))/\isFn K (.ref f)=true/\K.lookup f=some ⟨oc,od,.func (fnOf x q (Ez st) (Dg st) (Aj st) .none kV dc pm an cd ct),sl⟩/\codeIn K cd q=true/\keepIn K (.ref f)=true
theorem MtI.of {K:YD} {C:Addr} {x q:Str} {st:Stmt} {f:Addr} {oc:Value} {od an:Option Addr} {sl:YI} {kV dc pm cd ct:Value} (a:findIn K (.ref C) x=some (some (.ref f))) (i:isFn K (.ref f)=true) (l:K.lookup f=some ⟨oc,od,.func (fnOf x q (Ez st) (Dg st) (Aj st) .none kV dc pm an cd ct),sl⟩) (c:codeIn K cd q=true) (k:keepIn K (.ref f)=true):MtI K C x q st:=⟨f,oc,od,an,sl,kV,dc,pm,cd,ct,a,i,l,c,k⟩
theorem MtI.code {K:YD} {C:Addr} {x q:Str} {st:Stmt} {ps:YF} (I:MtI K C x q st) (hb:∀(kV doc pm:Value) (an:Option Addr) (cdv ct:Value) (us:YE),us.length=ps.length->bindArgs (fnOf x q (Ez st) (Dg st) (Aj st) .none kV doc pm an cdv ct) ⟨us,[]⟩=pure (ps.zip us)):K9 K C x q st ps:=by
 obtain⟨f,oc,od,an,sl,kV,dc,pm,cd,ct,a,i,l,c,k⟩:=I.ex;have F:=XJ (st:=st) l c k;exact⟨f,_,F,⟨a,i,k⟩,F.binds hb⟩
theorem MtI.init {K:YD} {C:Addr} {q:Str} {st:Stmt} {ps:YF} (I:MtI K C "__init__" q st) (mk:makesIn K C=true) (kc:keepIn K (.ref C)=true) (hb:∀(kV doc pm:Value) (an:Option Addr) (cdv ct:Value) (us:YE),us.length=ps.length->bindArgs (fnOf "__init__" q (Ez st) (Dg st) (Aj st) .none kV doc pm an cdv ct) ⟨us,[]⟩=pure (ps.zip us)):∃f fd,Fun K "__init__" q st f fd/\Mk K C f/\Binds K fd ps []:=by
 obtain⟨f,oc,od,an,sl,kV,dc,pm,cd,ct,a,i,l,c,k⟩:=I.ex;have F:=XJ (st:=st) l c k;exact⟨f,_,F,⟨mk,a,i,kc⟩,F.binds hb⟩
def yS:YF->(YE->Prop)->Prop
 | [],P=>P []
 | _::r,P=>∀a,yS r λt=>P (a::t)
theorem mD:∀(ps:YF) {P:YE->Prop},yS ps P->∀us:YE,us.length=ps.length->P us
 | [],_,h,[],_=>h
 | _::r,_,h,a::t,e=>mD r (h a) t (Nat.succ.inj e)
theorem fnA {F:Value->Value->Value->Option Addr->Value->Value->FuncData} {ps:YF} (h:∀kV dc pm an cd ct,yS ps λus=>bindArgs (F kV dc pm an cd ct) ⟨us,[]⟩=pure (ps.zip us)) (kV dc pm:Value) (an:Option Addr) (cd ct:Value) (us:YE) (hu:us.length=ps.length):bindArgs (F kV dc pm an cd ct) ⟨us,[]⟩=pure (ps.zip us):=mD ps (h kV dc pm an cd ct) us hu
theorem all_mk {l:PySem.W.OpenLaw} {w:World} {K:YD} {h:Heap} {mg:YB} {fa C fl:Addr} (X:K.In h) (G:h.Ns mainGlobals mg) (hfa:mg "law"=some (.ref fa))
  {odl anl:Option Addr} {sll:YI} {ocl kVl dcl pml cdl ctl:Value}
  (aC:nsIn K mainGlobals "Wires"=some (some (.ref C)))
  (m0:MtI K C "__init__" "Wires.__init__" Hs)
  (m1:MtI K C "check_stretch" "Wires.check_stretch" G7)
  (m2:MtI K C "cut" "Wires.cut" Qy)
  (m3:MtI K C "short" "Wires.short" Nj)
  (m4:MtI K C "act" "Wires.act" Qz)
  (m5:MtI K C "come_to_rest" "Wires.come_to_rest" Du)
  (m6:MtI K C "heard" "Wires.heard" JF)
  (i0:FnI K "is_whole" Ny)
  (i1:FnI K "is_within" Qt)
  (i2:FnI K "is_row" V3)
  (i3:FnI K "are_wholes" Ov)
  (i4:FnI K "is_rising" Qu)
  (i5:FnI K "are_rising_within" Gp)
  (i6:FnI K "is_name" S6)
  (i7:FnI K "is_device" Qv)
  (i8:FnI K "is_spur_device" JN)
  (i9:FnI K "is_spur" S5)
  (i10:FnI K "is_place" Rr)
  (i11:FnI K "is_loop" S7)
  (i12:FnI K "is_zone" SX)
  (i13:FnI K "are_loops" Qx)
  (i14:FnI K "are_zones" Qw)
  (i15:FnI K "is_plan" Qc)
  (i16:FnI K "place_devices" KC)
  (i17:FnI K "devices" S8)
  (i18:FnI K "stretches" LQ)
  (i19:FnI K "openers" PN)
  (i20:FnI K "parts" Yv)
  (i21:FnI K "address_twice" Iv)
  (i22:FnI K "part_crowded" Ld)
  (i23:FnI K "address_stranger" Jc)
  (i24:FnI K "address_shared" JR)
  (i25:FnI K "wrong" Us)
  (i26:FnI K "is_let_by" LR)
  (i27:FnI K "spur_pieces" Ni)
  (i28:FnI K "come_to" S9)
  (i29:FnI K "has_short" Ma)
  (i30:FnI K "comes_to_short" JQ)
  (i31:FnI K "lay_faults" Ou)
  (i32:FnI K "heard_from_both" Jo)
  (i33:FnI K "heard_with" KH)
  (i34:FnI K "_law_bag" Yw)
  (i35:FnI K "_law_take" V0)
  (i36:FnI K "_law_name" Rq)
  (i37:FnI K "_law_names" PX)
  (i38:FnI K "_law_loop" V1)
  (i39:FnI K "_law_parts" SQ)
  (i40:FnI K "_law_plan" Le)
  (i41:FnI K "_law_kind" V2)
  (i42:FnI K "_law_walk" VR)
  (i43:FnI K "_law_gates" P0)
  (i44:FnI K "_law_feels" Qa)
  (i45:FnI K "_law_faults" KD)
  (i46:FnI K "_law_due" N8)
  (al:nsIn K mainGlobals "law"=some (some (.ref fl))) (ll:K.lookup fl=some ⟨ocl,odl,.func (fnOf "law" "law" (Ez Nx) (Dg Nx) (Aj Nx) .none kVl dcl pml anl cdl ctl),sll⟩) (cl:codeIn K cdl "law"=true) (kl:keepIn K (.ref fl)=true)
  (pg:plainGet K C Str.empty=true) (hd:hasDictIn K C=true) (po:PySem.W.plainOver K C=true) (sa:findIn K (.ref C) "__setattr__"=some (some (.builtin "object.__setattr__"))) (mk:makesIn K C=true) (kc:keepIn K (.ref C)=true)
  (n0:findIn K (.ref C) "plan"=some none)
  (n1:findIn K (.ref C) "states"=some none)
  (n2:findIn K (.ref C) "filled"=some none)
  (n3:findIn K (.ref C) "gaps"=some none)
  (z0:nsIn K mainGlobals "isinstance"=some none)
  (z1:nsIn K mainGlobals "int"=some none)
  (z2:nsIn K mainGlobals "bool"=some none)
  (z3:nsIn K mainGlobals "tuple"=some none)
  (z4:nsIn K mainGlobals "list"=some none)
  (z5:nsIn K mainGlobals "str"=some none)
  (z6:nsIn K mainGlobals "len"=some none)
  (z7:nsIn K mainGlobals "all"=some none)
  (z8:nsIn K mainGlobals "abs"=some none)
  (z9:nsIn K mainGlobals "max"=some none)
  (z10:nsIn K mainGlobals "min"=some none)
  (z11:nsIn K mainGlobals "range"=some none)
  (z12:nsIn K mainGlobals "sorted"=some none)
  (z13:nsIn K mainGlobals "any"=some none)
  (z14:nsIn K mainGlobals "sum"=some none)
  (z15:nsIn K mainGlobals "enumerate"=some none)
  (z16:nsIn K mainGlobals "zip"=some none)
  (z17:nsIn K mainGlobals "reversed"=some none)
  (z18:nsIn K mainGlobals "dict"=some none)
  (z19:nsIn K mainGlobals "ord"=some none)
  {op oe:Addr} {odo ode:Option Addr} {no ne:Nat} {slo sle:YI} {tks tko:Tok} {kd wk:Addr} {odk odw:Option Addr} {nk nw:Nat} {slk slw:YI} {tq1 tq2 tq3 tq4 tq5 tq6 JI:Tok} {hc u0 u1 u2 u3 u4 u5 u6 u7 u8 u9 u10 u11 u12:Addr}
  (ao:nsIn K mainGlobals "OPENER"=some (some (.ref op)))
  (lo:K.lookup op=some ⟨.type "tuple",odo,.seq #[.str "opener" tks,.int 0 tko,.ref oe] no,slo⟩)
  (lq2:K.lookup oe=some ⟨.type "tuple",ode,.seq #[] ne,sle⟩)
  (aKd:nsIn K mainGlobals "KINDS"=some (some (.ref kd)))
  (lKd:K.lookup kd=some ⟨.type "tuple",odk,.seq #[.str "seeker" tq1,.str "knob" tq2,.str "bell" tq3,.str "door" tq4] nk,slk⟩)
  (aWk:nsIn K mainGlobals "WARNING_KINDS"=some (some (.ref wk)))
  (lWk:K.lookup wk=some ⟨.type "tuple",odw,.seq #[.str "seeker" tq5,.str "knob" tq6] nw,slw⟩)
  (aSL:nsIn K mainGlobals "SMALL_LETTERS"=some (some (.str "abcdefghijklmnopqrstuvwxyz" JI)))
  (xzv:nsIn K mainGlobals "ValueError"=some none)
  (xeh:nsIn K mainGlobals "HouseError"=some (some (.ref hc)))
  (xe0:nsIn K mainGlobals "NoPlan"=some (some (.ref u0)))
  (xe1:nsIn K mainGlobals "NoText"=some (some (.ref u1)))
  (xe2:nsIn K mainGlobals "NoStretch"=some (some (.ref u2)))
  (xe3:nsIn K mainGlobals "NoSpot"=some (some (.ref u3)))
  (xe4:nsIn K mainGlobals "NoOpener"=some (some (.ref u4)))
  (xe5:nsIn K mainGlobals "NoAddress"=some (some (.ref u5)))
  (xe6:nsIn K mainGlobals "NoRules"=some (some (.ref u6)))
  (xe7:nsIn K mainGlobals "NoHand"=some (some (.ref u7)))
  (xe8:nsIn K mainGlobals "NoPanel"=some (some (.ref u8)))
  (xe9:nsIn K mainGlobals "NoLink"=some (some (.ref u9)))
  (vd:nsIn K mainGlobals "NoLog"=some (some (.ref u10)))
  (uZ:nsIn K mainGlobals "NoDeed"=some (some (.ref u11)))
  (uY:nsIn K mainGlobals "NoRow"=some (some (.ref u12)))
  (xhx:excIn K hc [.type "ValueError",.type "Exception",.type "BaseException",.type "object"] "ValueError.__new__"=true)
  (xha:findIn K (.ref hc) "__getattribute__"=some (some (.builtin "BaseException.__getattribute__")))
  (xhn:findIn K (.ref hc) "__getattr__"=some none)
  (xhc:findIn K (.ref hc) "__class__"=some (some (.builtin "object.__class__")))
  (xho:subIn K (.ref hc) (.type "object")=some true)
  (xhb:subIn K (.ref hc) (.type "BaseException")=some true)
  (xhk:keepIn K (.ref hc)=true)
  (xU:excIn K u0 [.type "ValueError",.type "Exception",.type "BaseException",.type "object"] "ValueError.__new__"=true)
  (yd:findIn K (.ref u0) "__getattribute__"=some (some (.builtin "BaseException.__getattribute__")))
  (xW:findIn K (.ref u0) "__getattr__"=some none)
  (xY:findIn K (.ref u0) "__class__"=some (some (.builtin "object.__class__")))
  (xV:subIn K (.ref u0) (.type "object")=some true)
  (xZ:subIn K (.ref u0) (.type "BaseException")=some true)
  (xX:keepIn K (.ref u0)=true)
  (w6:subIn K (.ref u0) (.ref hc)=some true)
  (xT:kitOne K (.ref u0) (.ref u0)=some true)
  (xR:kitOne K (.ref u0) (.ref u1)=some false)
  (xQ:kitOne K (.ref u0) (.ref u2)=some false)
  (xP:kitOne K (.ref u0) (.ref u3)=some false)
  (xO:kitOne K (.ref u0) (.ref u4)=some false)
  (xM:kitOne K (.ref u0) (.ref u5)=some false)
  (xK:kitOne K (.ref u0) (.ref u6)=some false)
  (xJ:kitOne K (.ref u0) (.ref u7)=some false)
  (xH:kitOne K (.ref u0) (.ref u8)=some false)
  (xG:kitOne K (.ref u0) (.ref u9)=some false)
  (oY:kitOne K (.ref u0) (.ref u10)=some false)
  (oX:kitOne K (.ref u0) (.ref u11)=some false)
  (oW:kitOne K (.ref u0) (.ref u12)=some false)
  (xu:kitOne K (.ref u0) (.type "ValueError")=some true)
  : ∃fd:FuncData,(∀(s:Shared) (v:Value),BindsTo s fd ⟨[v],[]⟩ [("_law_script",v)])/\∀base:Heap,K.In base->base.Ns mainGlobals mg->FZ l.prog w K mg base CX0 14 fa fd zJ (Xa K):=by
 have e:=hfa.symm.trans (mg_of X G al);cases e;have TN:Nm mg:=⟨mg_none_of X G z0,mg_none_of X G z1,mg_none_of X G z2,mg_none_of X G z3,mg_none_of X G z4,mg_none_of X G z5,mg_none_of X G z6,mg_none_of X G z7,mg_none_of X G z8,mg_none_of X G z9,mg_none_of X G z10,mg_none_of X G z11,mg_none_of X G z12,mg_none_of X G z13,mg_none_of X G z14,mg_none_of X G z15,mg_none_of X G z16,mg_none_of X G z17,mg_none_of X G z18,mg_none_of X G z19⟩;have TX:Tx K mg op oe:=⟨TN,⟨_,mg_of X G ao,rq⟩,λH=>.inr ⟨_,_,_,lo,rq,rq,(by show 3<=sizeLine;decide),.cons ⟨_,rq⟩ (.cons ⟨_,rq⟩ (.cons rfl .nil))⟩,λH=>.inr ⟨_,_,_,lq2,rq,rq,(by show 0<=sizeLine;decide),.nil⟩⟩;have TY:Ty K mg op oe kd wk:={ toTx:=TX,KINDS:=⟨_,mg_of X G aKd,rq⟩,kdT:=λH=>.inr ⟨_,_,_,lKd,rq,rq,(by show 4<=sizeLine;decide),.cons ⟨_,rq⟩ (.cons ⟨_,rq⟩ (.cons ⟨_,rq⟩ (.cons ⟨_,rq⟩ .nil)))⟩,WARNING_KINDS:=⟨_,mg_of X G aWk,rq⟩,wkT:=λH=>.inr ⟨_,_,_,lWk,rq,rq,(by show 2<=sizeLine;decide),.cons ⟨_,rq⟩ (.cons ⟨_,rq⟩ .nil)⟩,SMALL_LETTERS:=⟨_,mg_of X G aSL,⟨_,rq⟩⟩ };have T:Tw K mg op oe kd wk C:={ toTy:=TY,cl:=⟨pg,hd,po,sa⟩,mgC:=mg_of X G aC,fP:=n0,Hu:=n1,Wf:=n2,Ia:=n3 };have XE:Er K mg hc u0 u1 u2 u3 u4 u5 u6 u7 u8 u9 u10 u11 u12:=⟨mg_none_of X G xzv,mg_of X G xeh,⟨xhx,xha,xhn,xhc,xho,xhb,xhk⟩,mg_of X G xe0,mg_of X G xe1,mg_of X G xe2,mg_of X G xe3,mg_of X G xe4,mg_of X G xe5,mg_of X G xe6,mg_of X G xe7,mg_of X G xe8,mg_of X G xe9,mg_of X G vd,mg_of X G uZ,mg_of X G uY⟩;have Je:Knd K hc u0 [u0,u1,u2,u3,u4,u5,u6,u7,u8,u9,u10,u11,u12] 0:=⟨⟨xU,yd,xW,xY,xV,xZ,xX⟩,w6,Hn (j:=0) xT xR xQ xP xO xM xK xJ xH xG oY oX oW,xu⟩;have X4:=m0.init (ps:=Ds) mk kc (fnA λ_ _ _ _ _ _ _ _=>rfl);have X3:=m1.code (ps:=Dp) (fnA λ_ _ _ _ _ _ _ _=>rfl);have IU:=m2.code (ps:=Ju) (fnA λ_ _ _ _ _ _ _ _=>rfl);have B9:=m3.code (ps:=HN) (fnA λ_ _ _ _ _ _ _ _=>rfl);have IX:=m4.code (ps:=Jv) (fnA λ_ _ _ _ _ _ _ _=>rfl);have Zx:=m5.code (ps:=Ek) (fnA λ_ _ _ _ _ _ _=>rfl);have Cb:=m6.code (ps:=HW) (fnA λ_ _ _ _ _ _ _ _ _=>rfl);have X8:=i0.code (ps:=GD) X G (fnA λ_ _ _ _ _ _ _=>rfl);have jQ:=i1.code (ps:=Fe) X G (fnA λ_ _ _ _ _ _ _ _ _=>rfl);have zq:=i2.code (ps:=DX) X G (fnA λ_ _ _ _ _ _ _ _ _=>rfl);have jh:=i3.code (ps:=Hg) X G (fnA λ_ _ _ _ _ _ _ _=>rfl);have jR:=i4.code (ps:=Jt) X G (fnA λ_ _ _ _ _ _ _=>rfl);have Sg:=i5.code (ps:=Eu) X G (fnA λ_ _ _ _ _ _ _ _ _ _ _=>rfl);have uU:=i6.code (ps:=MN) X G (fnA λ_ _ _ _ _ _ _=>rfl);have jT:=i7.code (ps:=Ij) X G (fnA λ_ _ _ _ _ _ _ _=>rfl);have WD:=i8.code (ps:=Gh) X G (fnA λ_ _ _ _ _ _ _=>rfl);have uT:=i9.code (ps:=MK) X G (fnA λ_ _ _ _ _ _ _=>rfl);have p7:=i10.code (ps:=KQ) X G (fnA λ_ _ _ _ _ _ _=>rfl);have uV:=i11.code (ps:=MP) X G (fnA λ_ _ _ _ _ _ _=>rfl);have uR:=i12.code (ps:=MJ) X G (fnA λ_ _ _ _ _ _ _=>rfl);have jW:=i13.code (ps:=Im) X G (fnA λ_ _ _ _ _ _ _=>rfl);have jV:=i14.code (ps:=Il) X G (fnA λ_ _ _ _ _ _ _=>rfl);have aH:=i15.code (ps:=Hr) X G (fnA λ_ _ _ _ _ _ _=>rfl);have X7:=i16.code (ps:=FJ) X G (fnA λ_ _ _ _ _ _ _ _ _=>rfl);have uW:=i17.code (ps:=Fv) X G (fnA λ_ _ _ _ _ _ _=>rfl);have jP:=i18.code (ps:=Ii) X G (fnA λ_ _ _ _ _ _ _=>rfl);have uM:=i19.code (ps:=Kg) X G (fnA λ_ _ _ _ _ _ _=>rfl);have Cc:=i20.code (ps:=Q0) X G (fnA λ_ _ _ _ _ _ _ _=>rfl);have Qq:=i21.code (ps:=DN) X G (fnA λ_ _ _ _ _ _ _=>rfl);have Zz:=i22.code (ps:=G9) X G (fnA λ_ _ _ _ _ _ _=>rfl);have Ui:=i23.code (ps:=Fw) X G (fnA λ_ _ _ _ _ _ _=>rfl);have WL:=i24.code (ps:=Gi) X G (fnA λ_ _ _ _ _ _ _=>rfl);have mF:=i25.code (ps:=Kf) X G (fnA λ_ _ _ _ _ _ _=>rfl);have Vx:=i26.code (ps:=Gf) X G (fnA λ_ _ _ _ _ _ _=>rfl);have bA:=i27.code (ps:=HF) X G (fnA λ_ _ _ _ _ _ _ _ _=>rfl);have uX:=i28.code (ps:=Kh) X G (fnA λ_ _ _ _ _ _ _ _ _ _=>rfl);have jU:=i29.code (ps:=Ik) X G (fnA λ_ _ _ _ _ _ _ _=>rfl);have WK:=i30.code (ps:=Ey) X G (fnA λ_ _ _ _ _ _ _ _ _=>rfl);have jg:=i31.code (ps:=Hf) X G (fnA λ_ _ _ _ _ _ _ _=>rfl);have Vo:=i32.code (ps:=En) X G (fnA λ_ _ _ _ _ _ _ _=>rfl);have Uh:=i33.code (ps:=Ft) X G (fnA λ_ _ _ _ _ _ _ _ _=>rfl);have Ch:=i34.code (ps:=Q6) X G (fnA λ_ _ _ _ _ _ _ _=>rfl);have za:=i35.code (ps:=Ht) X G (fnA λ_ _ _ _ _ _ _ _=>rfl);have zf:=i36.code (ps:=O5) X G (fnA λ_ _ _ _ _ _ _=>rfl);have uO:=i37.code (ps:=Mx) X G (fnA λ_ _ _ _ _ _ _ _=>rfl);have zj:=i38.code (ps:=O6) X G (fnA λ_ _ _ _ _ _ _ _ _=>rfl);have uN:=i39.code (ps:=Mw) X G (fnA λ_ _ _ _ _ _ _=>rfl);have zc:=i40.code (ps:=O4) X G (fnA λ_ _ _ _ _ _ _ _ _=>rfl);have zm:=i41.code (ps:=O7) X G (fnA λ_ _ _ _ _ _ _=>rfl);have yZ:=i42.code (ps:=Lj) X G (fnA λ_ _ _ _ _ _ _ _ _ _ _ _=>rfl);have uP:=i43.code (ps:=Mz) X G (fnA λ_ _ _ _ _ _ _=>rfl);have uQ:=i44.code (ps:=MF) X G (fnA λ_ _ _ _ _ _ _ _ _ _=>rfl);have pZ:=i45.code (ps:=KN) X G (fnA λ_ _ _ _ _ _ _ _ _ _=>rfl);have Cf:=i46.code (ps:=Q5) X G (fnA λ_ _ _ _ _ _ _ _ _=>rfl);have IZ:=XJ (st:=Nx) ll cl kl;refine⟨fnOf "law" "law" (Ez Nx) (Dg Nx) (Aj Nx) .none kVl dcl pml anl cdl ctl,λs v=>.of_eq rfl,λbase _ _=>?_⟩;have Zh:=wA (P:=l.prog) (w:=w) (base:=base) Ch TN;have BL:=qZ (P:=l.prog) (w:=w) (base:=base) za TN;have IL:=Tn (P:=l.prog) (w:=w) (base:=base) X8 TN;have Pf:=jx (P:=l.prog) (w:=w) (base:=base) X8 TN;have gH:=fj (P:=l.prog) (w:=w) (base:=base) jQ TN Pf;have Pb:=rm (P:=l.prog) (w:=w) (base:=base) zq TN;have Fu:=aP (P:=l.prog) (w:=w) (base:=base) jh TN IL Pb;have OS:=fu (P:=l.prog) (w:=w) (base:=base) jR TY;have OR:=aQ (P:=l.prog) (w:=w) (base:=base) Sg TY Pb gH OS;have OZ:=oh (P:=l.prog) (w:=w) (base:=base) uU TY;have Fn:=fC (P:=l.prog) (w:=w) (base:=base) jT TY gH;have OQ:=Vi (P:=l.prog) (w:=w) (base:=base) WD TY Pb Fn;have ON:=nY (P:=l.prog) (w:=w) (base:=base) uT TY Pb OQ;have OX:=jz (P:=l.prog) (w:=w) (base:=base) p7 TY Pb gH Fn ON;have O3:=ou (P:=l.prog) (w:=w) (base:=base) uV TY Pb OX;have OL:=nW (P:=l.prog) (w:=w) (base:=base) uR TY Pb OZ OR;have Fh:=fJ (P:=l.prog) (w:=w) (base:=base) jW TY Pb O3;have E8:=fG (P:=l.prog) (w:=w) (base:=base) jV TY Pb OL;have Fc:=Wa (P:=l.prog) (w:=w) (base:=base) X7 TX;have Wm:=oA (P:=l.prog) (w:=w) (base:=base) uW TX Fc;have Fa:=eZ (P:=l.prog) (w:=w) (base:=base) jP TX;have Ff:=nU (P:=l.prog) (w:=w) (base:=base) uM TX;have OT:=wu (P:=l.prog) (w:=w) (base:=base) Cc TX Fc;have OW:=nZ (P:=l.prog) (w:=w) (base:=base) aH TY Pb gH (Ze Fh λ_ _ _ _ h=>.inl h) (Ze E8 λ_ _ _ _ h=>.inl h) Wm;have PM:=Wc (P:=l.prog) (w:=w) (base:=base) Qq TY Wm;have PH:=Xn (P:=l.prog) (w:=w) (base:=base) Zz TY OT;have PP:=RV (P:=l.prog) (w:=w) (base:=base) Ui TY Wm;have OP:=Vl (P:=l.prog) (w:=w) (base:=base) WL TY;have OM:=wg (P:=l.prog) (w:=w) (base:=base) mF TY PM PH PP OP;have Pd:=fB (P:=l.prog) (w:=w) (base:=base) Vx TY OW OM;have Fs:=Wb (P:=l.prog) (w:=w) (base:=base) X3 T Fu;have PD:=D0 (P:=l.prog) (w:=w) (base:=base) IU T Fs;have OO:=wj (P:=l.prog) (w:=w) (base:=base) B9 T Fs;have Pi:=wC (P:=l.prog) (w:=w) (base:=base) X4 T Pd Fa Wm Ff;have IH:=Y5 (P:=l.prog) (w:=w) (base:=base) bA T;have zR:=oE (P:=l.prog) (w:=w) (base:=base) uX T IH;have zP:=fD (P:=l.prog) (w:=w) (base:=base) jU T;have zQ:=Vj (P:=l.prog) (w:=w) (base:=base) WK T zR zP;have IP:=D3 (P:=l.prog) (w:=w) (base:=base) IX T Fu zQ;have IN:=Xo (P:=l.prog) (w:=w) (base:=base) Zx T zQ IP;have IM:=wD (P:=l.prog) (w:=w) (base:=base) Cb T zR zP;have O0:=A4 (P:=l.prog) (w:=w) (base:=base) zf TN BL;have OY:=wz (P:=l.prog) (w:=w) (base:=base) uO TN O0;have Pc:=A5 (P:=l.prog) (w:=w) (base:=base) zj TN BL;have OU:=qY (P:=l.prog) (w:=w) (base:=base) uN TN;have OV:=A3 (P:=l.prog) (w:=w) (base:=base) zc TN BL Pc OU OY;have II:=jy (P:=l.prog) (w:=w) (base:=base) aH TY Pb gH Fh E8 Wm;have IO:=Vk (P:=l.prog) (w:=w) (base:=base) Qq TY Wm;have IG:=qX (P:=l.prog) (w:=w) (base:=base) mF TY IO;have IJ:=aN (P:=l.prog) (w:=w) (base:=base) Vx TY II IG;have h_kind:=A6 (P:=l.prog) (w:=w) (base:=base) zm TN XE;have Pe:=wB (P:=l.prog) (w:=w) (base:=base) X4 T XE Je IJ Fa Wm Ff;have Pp:=wF (P:=l.prog) (w:=w) (base:=base) uP T;have E9:=A2 (P:=l.prog) (w:=w) (base:=base) yZ T;have Ps:=wG (P:=l.prog) (w:=w) (base:=base) uQ T E9;have Fk:=aM (P:=l.prog) (w:=w) (base:=base) jg T PD OO IN;have Fm:=Tq (P:=l.prog) (w:=w) (base:=base) Vo T IM;have Po:=aO (P:=l.prog) (w:=w) (base:=base) Uh T Pi Fk Fm;have Pl:=Y6 (P:=l.prog) (w:=w) (base:=base) Uh T Pe Fk Fm;have Pt:=rA (P:=l.prog) (w:=w) (base:=base) pZ T BL;have Pw:=DZ (P:=l.prog) (w:=w) (base:=base) Cf T Pp Ps E9;exact DV IZ T XE Je Zh BL OV Pt Po Pl Pw h_kind
theorem walk {l:PySem.W.OpenLaw} {q:Program} {loose:YF} {XP:(YB)->Heap->Prop} {YP:World->Heap->Prop} {d:DefRec} {K:Params->YD} (hn:l.most=some 63) (hdf:d.params.defaults=[])
  (hY:∀(w:World) (h:Heap),YP w h->(K w.params).In h)
  (F:∀(w:World) (mg:YB) (fa:Addr) (h:Heap),(K w.params).In h->h.Ns mainGlobals mg->mg d.name=some (.ref fa) ->
   ∃fd:FuncData,(∀(s:Shared) (u:Value),BindsTo s fd ⟨[u],[]⟩ [("_law_script",u)])/\∀base:Heap,(K w.params).In base->base.Ns mainGlobals mg->FZ l.prog w (K w.params) mg base CX0 14 fa fd zJ (Xa (K w.params))) :
  PySem.W.WalkO q loose XP YP l.row.toRowW d [] (λf vs=>PySem.call f vs):=
 L2.AA (n:=63) (k:=14) (x:="_law_script") (CX:=λ_=>CX0) (sp:=λw=>Xa (K w.params)) hn (by decide) hdf ⟨rq,by decide,by decide⟩ hY F (λ_ _ a ns hl _ hS=>⟨a,ns,rq,hS,hl,λ_=>rfl⟩) λ_ _ _ _ _ z=>z
end K44
/-! names that stay free of quick twins: the head comes through without them, and the compiled text is much smaller -/
namespace PySem.W.Fast
def tw674533920161970095:=0
def tw9723020168673832808:=0
def tw14694335667159832503:=0
def tw6277266456498012092:=0
def tw5279080911377491272:=0
def tw8113714068682420717:=0
def tw15088897696235614364:=0
def tw16017871188456494698:=0
def tw16632027678787922449:=0
def tw7471315052625242436:=0
def tw15937393679577156401:=0
def tw11105816173635257849:=0
def tw17312092179427619364:=0
def tw10289115927634124844:=0
def tw6400741450151093762:=0
def tw12156098415283631623:=0
def tw3900527644732702449:=0
def tw8573708270245009935:=0
def tw16401035664849642759:=0
def tw3720130797593965589:=0
def tw2469977578993112448:=0
def tw16654737468772349109:=0
def tw17395934393156515591:=0
def tw2105510272774101038:=0
def tw13506333034071701138:=0
def tw1310406793493189752:=0
def tw8835512144631932643:=0
def tw14398130700797214169:=0
def tw6524514898304002634:=0
def tw3329670144682859751:=0
def tw12881495622497101474:=0
def tw16115162223789522513:=0
def tw4848505031243722075:=0
def tw15837067983791120013:=0
def tw10036227785648500797:=0
def tw17480704573360576668:=0
def tw11888037186043320804:=0
def tw17246711913256106144:=0
def tw14580775336145885004:=0
def tw17815494718076196070:=0
def tw12841118570600145924:=0
def tw8406135470289762398:=0
def tw657815542881015368:=0
def tw1621412627552856112:=0
def tw9055022053645717007:=0
def tw5490245269543747530:=0
def tw9477495017534340704:=0
def tw9845305658190415324:=0
def tw5796898084848828938:=0
def tw16029418799909734535:=0
def tw16948947630044869415:=0
def tw4481439572808447960:=0
def tw2750572413811642169:=0
def tw9485566530061029578:=0
def tw11370126263691270021:=0
def tw6974394921071373222:=0
def tw7184645582245426684:=0
def tw15661181977897140974:=0
def tw18081996012811124474:=0
def tw5945030803414426012:=0
def tw7213021253789247125:=0
def tw12746292479348185055:=0
def tw9528209153617661518:=0
def tw11375464687984133034:=0
def tw17256370732853998885:=0
def tw9681553034845896416:=0
def tw16252578998235545973:=0
def tw2681720444222724630:=0
def tw6168611321709302083:=0
def tw4140177941774490244:=0
def tw7726921825523927247:=0
def tw15877447203596217127:=0
def tw17476487798099288973:=0
def tw13980799488676068449:=0
def tw9514395789624403411:=0
def tw12275484869233673652:=0
def tw8766269612283644812:=0
def tw3078747295302131154:=0
def tw13231873661483489087:=0
def tw16784927689019249985:=0
def tw12572348371821202733:=0
def tw2785760313239722494:=0
def tw9850721242244632911:=0
def tw16293667152796943952:=0
def tw3296613468542979305:=0
def tw6966466538585574028:=0
def tw10191644929011354260:=0
def tw8102470939637745351:=0
def tw5382778980106035241:=0
def tw14938188471009534236:=0
def tw15084309630712788910:=0
def tw8291964624717888518:=0
def tw6038133231048607570:=0
def tw3743214634392573780:=0
def tw10941941792463167886:=0
def tw2562514841056160814:=0
def tw15429477512679176504:=0
def tw16044912874529978704:=0
def tw15276771218477651845:=0
def tw5490463452230210012:=0
def tw11184789575472877533:=0
def tw3678353316043741462:=0
def tw705286990348235555:=0
def tw2034291408125368413:=0
def tw17404020453975913521:=0
def tw3108199150657068998:=0
def tw1270092371346494889:=0
def tw3681301579231776344:=0
def tw480427581270702666:=0
def tw11744291581270204444:=0
def tw1475739580506364882:=0
def tw8515070979569310715:=0
def tw1913484622814151985:=0
def tw15236005919118193914:=0
def tw3761065616587197210:=0
def tw17976148999829545872:=0
def tw6172225195267693609:=0
def tw13245288497719063086:=0
def tw14886298998043927931:=0
def tw341645245816739350:=0
def tw7379130525683994686:=0
def tw2338153878387181104:=0
def tw17676205850020260699:=0
def tw13093344135554570231:=0
def tw1942247929277298839:=0
def tw919528021422128338:=0
def tw15865998890828949258:=0
def tw3546907912344536253:=0
def tw7524799649957455801:=0
def tw8876538257976385949:=0
def tw17785313042014674200:=0
def tw12151635516441274928:=0
def tw6684544247693514328:=0
def tw2039762931886905543:=0
def tw16660590962592578717:=0
def tw14135331911700811745:=0
def tw11594114680998318538:=0
def tw4308120657253880591:=0
def tw15081024657108753786:=0
def tw14600822927677735571:=0
def tw14148965968023685864:=0
def tw6816042671497388988:=0
def tw16705125689970766299:=0
def tw6007812925313261045:=0
def tw10236924730929483772:=0
def tw2067064161644727512:=0
def tw6613239379163775294:=0
def tw5472679312723054641:=0
def tw11303563293603517713:=0
def tw5863278273157843288:=0
def tw4506013246401311090:=0
def tw11032706916724674018:=0
def tw3953021182445628900:=0
def tw17397972277962154944:=0
def tw4136972673882551713:=0
def tw6727161141354460677:=0
def tw2119146238645124059:=0
def tw16231753889846713776:=0
def tw1059874662678939087:=0
def tw17229989923844583800:=0
def tw14584360553407270146:=0
def tw9450081353472134504:=0
def tw8920518769767066570:=0
def tw14198571309078606082:=0
def tw3462197797573324797:=0
def tw10517205568393551627:=0
def tw8601652652090526613:=0
def tw7660825891402031273:=0
def tw11762798127105592629:=0
def tw3638028612411830447:=0
end PySem.W.Fast
open PySem PySem.W PyProof.Rows
set_option maxRecDepth 100000 in
set_option maxHeartbeats 0 in
theorem PySem.Challenge.cw_warnloop_k44_heard_with_holds : PySem.Challenge.rw_warnloop_k44_heard_with.Holds := by
 w_on;o_law;k_head;(case hw=>w_witness2)
 k_fill
 refine K44.walk (l:=PySem.Challenge.rw_warnloop_k44_heard_with) rfl rfl (λw h Y=>PySem.W.kIn_of Y) ?F
 case F=>
  intro w mg fa h KX G hmg
  refine' K44.all_mk KX G hmg ?aC (.of ?am0 ?bm0 ?lm0 ?cm0 ?km0) (.of ?am1 ?bm1 ?lm1 ?cm1 ?km1) (.of ?am2 ?bm2 ?lm2 ?cm2 ?km2) (.of ?am3 ?bm3 ?lm3 ?cm3 ?km3) (.of ?am4 ?bm4 ?lm4 ?cm4 ?km4) (.of ?am5 ?bm5 ?lm5 ?cm5 ?km5) (.of ?am6 ?bm6 ?lm6 ?cm6 ?km6) (.of ?ai0 ?li0 ?ci0 ?ki0) (.of ?ai1 ?li1 ?ci1 ?ki1) (.of ?ai2 ?li2 ?ci2 ?ki2) (.of ?ai3 ?li3 ?ci3 ?ki3) (.of ?ai4 ?li4 ?ci4 ?ki4) (.of ?ai5 ?li5 ?ci5 ?ki5) (.of ?ai6 ?li6 ?ci6 ?ki6) (.of ?ai7 ?li7 ?ci7 ?ki7) (.of ?ai8 ?li8 ?ci8 ?ki8) (.of ?ai9 ?li9 ?ci9 ?ki9) (.of ?S1 ?Mm ?RR ?NG) (.of ?S0 ?Me ?RO ?NF) (.of ?SZ ?Md ?RI ?NE) (.of ?SY ?Mc ?RH ?ND) (.of ?SW ?Mb ?RF ?NC) (.of ?SV ?L9 ?RE ?NB) (.of ?SU ?L8 ?RC ?NA) (.of ?ST ?L7 ?RA ?Nw) (.of ?SS ?L6 ?Rs ?No) (.of ?SR ?L5 ?Rl ?Nn) (.of ?SO ?L4 ?Re ?Nl) (.of ?SL ?L3 ?Rc ?Nd) (.of ?SK ?L1 ?Q4 ?Nc) (.of ?SI ?LZ ?Q3 ?Na) (.of ?SH ?LY ?Q2 ?M3) (.of ?SG ?LX ?Q1 ?M0) (.of ?SF ?LW ?QY ?MZ) (.of ?SE ?LV ?QU ?MY) (.of ?SD ?LU ?QR ?MX) (.of ?SC ?LT ?QQ ?MW) (.of ?SB ?LS ?QP ?MV) (.of ?SA ?LP ?QO ?MU) (.of ?Sz ?LO ?QN ?MT) (.of ?Su ?LN ?QI ?MS) (.of ?Sr ?LM ?QE ?MR) (.of ?So ?LL ?QA ?MQ) (.of ?Sn ?LJ ?Qr ?MO) (.of ?Sm ?LI ?Qb ?MM) (.of ?Sl ?LH ?P9 ?ML) (.of ?Sk ?LG ?P8 ?MI) (.of ?Sj ?LF ?P7 ?MH) (.of ?Si ?LE ?P6 ?MG) (.of ?Sf ?LD ?P5 ?ME) (.of ?Se ?LB ?P4 ?MD) (.of ?Sc ?LA ?P3 ?MC) (.of ?Sb ?Lv ?P2 ?MB) (.of ?Sa ?Lu ?P1 ?MA) ?al ?ll ?cl ?kl ?pg ?hd ?po ?sa ?mk ?kc ?n0 ?n1 ?n2 ?n3 ?z0 ?z1 ?z2 ?z3 ?z4 ?z5 ?z6 ?z7 ?z8 ?z9 ?z10 ?z11 ?z12 ?z13 ?z14 ?z15 ?z16 ?z17 ?z18 ?z19 ?ao ?lo ?lq2 ?aKd ?lKd ?aWk ?lWk ?aSL ?xzv ?xeh ?xe0 ?xe1 ?xe2 ?xe3 ?xe4 ?xe5 ?xe6 ?xe7 ?xe8 ?xe9 ?vd ?uZ ?uY ?xhx ?xha ?xhn ?xhc ?xho ?xhb ?xhk ?xU ?yd ?xW ?xY ?xV ?xZ ?xX ?w6 ?xT ?xR ?xQ ?xP ?xO ?xM ?xK ?xJ ?xH ?xG ?oY ?oX ?oW ?xu
  (case aC | am0 | bm0 | lm0 | cm0 | km0 | am1 | bm1 | lm1 | cm1 | km1 | am2 | bm2 | lm2 | cm2 | km2 | am3 | bm3 | lm3 | cm3 | km3 | am4 | bm4 | lm4 | cm4 | km4 | am5 | bm5 | lm5 | cm5 | km5 | am6 | bm6 | lm6 | cm6 | km6 | ai0 | li0 | ci0 | ki0 | ai1 | li1 | ci1 | ki1 | ai2 | li2 | ci2 | ki2 | ai3 | li3 | ci3 | ki3 | ai4 | li4 | ci4 | ki4 | ai5 | li5 | ci5 | ki5 | ai6 | li6 | ci6 | ki6 | ai7 | li7 | ci7 | ki7 | ai8 | li8 | ci8 | ki8 | ai9 | li9 | ci9 | ki9 | S1 | Mm | RR | NG | S0 | Me | RO | NF | SZ | Md | RI | NE | SY | Mc | RH | ND | SW | Mb | RF | NC | SV | L9 | RE | NB | SU | L8 | RC | NA | ST | L7 | RA | Nw | SS | L6 | Rs | No | SR | L5 | Rl | Nn | SO | L4 | Re | Nl | SL | L3 | Rc | Nd | SK | L1 | Q4 | Nc | SI | LZ | Q3 | Na | SH | LY | Q2 | M3 | SG | LX | Q1 | M0 | SF | LW | QY | MZ | SE | LV | QU | MY | SD | LU | QR | MX | SC | LT | QQ | MW | SB | LS | QP | MV | SA | LP | QO | MU | Sz | LO | QN | MT | Su | LN | QI | MS | Sr | LM | QE | MR | So | LL | QA | MQ | Sn | LJ | Qr | MO | Sm | LI | Qb | MM | Sl | LH | P9 | ML | Sk | LG | P8 | MI | Sj | LF | P7 | MH | Si | LE | P6 | MG | Sf | LD | P5 | ME | Se | LB | P4 | MD | Sc | LA | P3 | MC | Sb | Lv | P2 | MB | Sa | Lu | P1 | MA=>k_is)
  (case al | ll | cl | kl | pg | hd | po | sa | mk | kc | n0 | n1 | n2 | n3 | z0 | z1 | z2 | z3 | z4 | z5 | z6 | z7 | z8 | z9 | z10 | z11 | z12 | z13 | z14 | z15 | z16 | z17 | z18 | z19 | ao | lo | lq2 | aKd | lKd | aWk | lWk | aSL | xzv | xeh | xe0 | xe1 | xe2 | xe3 | xe4 | xe5 | xe6 | xe7 | xe8 | xe9 | vd | uZ | uY=>k_is)
  (case xhx=>k_exc)
  (case xha | xhn | xhc | xho | xhb | xhk=>k_is)
  (case xU=>k_exc)
  (case yd | xW | xY | xV | xZ | xX | w6=>k_is)
  (case xT | xR | xQ | xP | xO | xM | xK | xJ | xH | xG | oY | oX | oW | xu=>kit_is)
