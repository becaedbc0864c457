import PyProof.Rows.All
import Wide.All
import OpenK.AllK
import Wide.FinOn
import Lean
import PyProof.EqAt
import PyProof.EqKinds
import PyProof.TupleCall
import PySem.Challenge.RW_warnloop_k08_an_opener_acts
set_option linter.all false
set_option Elab.async false
set_option maxRecDepth 100000
set_option maxHeartbeats 4000000
abbrev YA:=PySem.Value→PySem.Shared→Prop
abbrev YH:=Unit→PySem.Shared→Prop
abbrev YB:=PySem.Str→Option PySem.Value
abbrev YC:=List (PySem.Addr×PySem.Obj)
abbrev YD:=PySem.W.Frag
abbrev YI:=Array (Option PySem.Value)
abbrev YE:=List PySem.Value
abbrev YF:=List PySem.Str
abbrev YJ:=List PySem.Expr
abbrev YK:=Array PySem.DictEntry
local macro_rules|`(tactic|trivial)=>`(tactic|decide +kernel)
open PySem.W (instObj hideAll hideAll_get lookIn plainGet hasDictIn findIn isFn makesIn emptyDict looks_findIn keepIn methodCall_KW kitOne kia_one callWith_K fnOf codeIn nsIn mg_of excIn subIn looks_subIn mg_none_of)
abbrev Qaa:=@PyProof.Rows.slot_tupleiter_next
abbrev Qab:=@PyProof.Rows.slot_tuple_getitem
abbrev Qac:=@PySem.F.slot_dict_itemiterator_next
abbrev Qad:=@PySem.F.slot_dict_keyiterator_next
abbrev Qae:=@PyProof.Rows.callWith_type1
abbrev Qaf:=@Array.getElem?_eq_some_iff
abbrev Qag:=@List.getD_eq_getElem?_getD
abbrev Qah:=@List.getElem?_eq_some_iff
abbrev Qai:=@Classical.byContradiction
abbrev Qaj:=@List.drop_eq_getElem_cons
abbrev Qak:=@List.pairwise_iff_getElem
abbrev Qal:=@PySem.F.slot_list_append
abbrev Qam:=@PySem.F.type_list_append
abbrev Qan:=@List.getElem?_eq_getElem
abbrev Qao:=@PySem.F.slot_list_extend
abbrev Qap:=@PySem.F.type_list_extend
abbrev Qaq:=@PySem.F.plainAttrs_list
abbrev Qar:=@PySem.wpAny_callSpecial?_slot
abbrev Qas:=@PySem.wpAny_getItem_str_slice
abbrev Qat:=@List.pairwise_singleton
abbrev Qau:=@List.filter_cons_of_neg
abbrev Qav:=@PySem.Heap.get?_push_of_some
abbrev Qaw:=@Option.map_eq_some_iff
abbrev Qax:=@PySem.Heap.get?_update_other
abbrev Qay:=@List.find?_cons_of_neg
abbrev Qaz:=@List.find?_cons_of_pos
abbrev QaA:=@List.mem_append_right
abbrev QaB:=@List.length_singleton
abbrev QaC:=@PySem.Heap.get?_update_self
abbrev QaD:=@List.mem_of_getElem?
abbrev QaE:=@List.mem_cons_of_mem
abbrev QaF:=@List.mem_append_left
abbrev QaG:=@List.getElem?_of_mem
abbrev QaH:=@List.mem_of_mem_take
abbrev QaI:=@PySem.Heap.get?_push_size
abbrev QaJ:=@beq_eq_false_iff_ne
abbrev QaK:=@Array.length_toList
abbrev QaL:=@List.flatMap_append
abbrev QaM:=@List.map_congr_left
abbrev QaN:=@PySem.Heap.SameBut.update
abbrev QaO:=@PySem.mem_of_lookup
abbrev QaP:=@Int.toNat_of_nonneg
abbrev QaQ:=@List.length_append
abbrev QaR:=@List.mem_cons_self
abbrev QaS:=@Bool.false_ne_true
abbrev QaT:=@List.set_cons_zero
abbrev QaU:=@List.set_cons_succ
abbrev QaW:=@Nat.lt_of_lt_of_le
abbrev QaX:=@List.mem_singleton
abbrev QaY:=@PySem.wpAny_pyIter_tuple
abbrev QaZ:=@PySem.wpAny_setField_rec
abbrev Qba:=@decide_eq_true_iff
abbrev Qbb:=@Int.emod_lt_of_pos
abbrev Qbc:=@PySem.wpAny_Call_Name_kw
abbrev Qbd:=@PySem.tupleKind_room_in1
abbrev Qbe:=@PySem.Calls.spliced_cons
abbrev Qbg:=@List.size_toArray
abbrev Qbh:=@List.append_assoc
abbrev Qbi:=@List.getElem?_map
abbrev Qbj:=@of_decide_eq_true
abbrev Qbk:=@Int.toNat_natCast
abbrev Qbl:=@List.flatMap_cons
abbrev Qbm:=@PySem.wpAny_truthy_bool
abbrev Qbn:=@PySem.wpAny_newObj_type
abbrev Qbo:=@List.length_range
abbrev Qbp:=@PySem.wpAny_pyIter_list
abbrev Qbq:=@PySem.wpAny_loadPart_at
abbrev Qbr:=@List.length_cons
abbrev Qbs:=@List.length_take
abbrev Qbt:=@List.take_length
abbrev Qbu:=@List.not_mem_nil
abbrev Qbv:=@PySem.wpAny_call_entry
abbrev Qbw:=@Bool.and_eq_true
abbrev Qbx:=@List.length_drop
abbrev Qby:=@Nat.lt_succ_self
abbrev Qbz:=@List.mem_flatMap
abbrev QbA:=@List.cons_append
abbrev QbB:=@List.length_map
abbrev QbC:=@List.map_append
abbrev QbD:=@List.mem_append
abbrev QbE:=@PySem.PassesOwn.never
abbrev QbF:=@List.append_nil
abbrev QbG:=@decide_eq_false
abbrev QbH:=@Option.some.inj
abbrev QbJ:=@List.nodup_cons
abbrev QbK:=@List.mem_filter
abbrev QbL:=@Bool.eq_iff_iff
abbrev QbN:=@PySem.wpAny_passesOwn
abbrev QbO:=@Nat.not_lt_zero
abbrev QbP:=@Int.emod_nonneg
abbrev QbQ:=@List.find?_cons
abbrev QbR:=@List.nil_append
abbrev QbS:=@decide_eq_true
abbrev QbT:=@PySem.Heap.size_push
abbrev QbU:=@List.mem_range
abbrev QbV:=@List.nodup_nil
abbrev QbW:=@PySem.wpAny_seqItems
abbrev QbX:=@PySem.Paired.length
abbrev QbY:=@List.mem_cons
abbrev QbZ:=@List.map_cons
abbrev Qcb:=@Nat.lt_irrefl
abbrev Qcc:=@PySem.wpAny_holding
abbrev Qcd:=@List.any_cons
abbrev Qce:=@PySem.wpAny_standAt
abbrev Qcf:=@Bool.or_false
abbrev Qcg:=@PySem.wpAny_attempt
abbrev Qch:=@PySem.Heap.lt_size
abbrev Qci:=@List.mem_map
abbrev Qcj:=@Nat.ne_of_lt
abbrev Qck:=@Nat.le_trans
abbrev Qcl:=@List.map_map
abbrev Qcm:=@Nat.ne_of_gt
abbrev Qcn:=@Nat.le_of_lt
abbrev Qco:=@Int.zero_add
abbrev Qcp:=@PySem.codeAny_mono
abbrev Qcq:=@Nat.le_refl
abbrev Qcr:=@Nat.zero_le
abbrev Qcs:=@PySem.Paired.snoc
abbrev Qct:=@PySem.wpAny_field
abbrev Qcu:=@PySem.sizeLine_eq
abbrev Qcv:=@PySem.wpAny_bind
abbrev Qcw:=@PySem.wpAny_pure
abbrev Qcx:=@PySem.wpAny_mono
abbrev Qcy:=@PyProof.Rows.take_snoc
abbrev Qcz:=@or_false
namespace L2
open PySem PySem.Spec PyProof.Rows
abbrev Key:=Sum Int Str
def Ry:Key->Value->Bool
 | .inl k,v=>Value.isInt k v
 | .inr x,v=>Value.isStrOf x v
def Hb (w:World):Key->Int
 | .inl k=>hashInt k
 | .inr x=>hashStr w x
theorem DN:∀{k:Key} {v:Value},Ry k v=true->(∃i t,k=Sum.inl i/\v=Value.int i t)\/(∃x t,k=Sum.inr x/\v=Value.str x t)
 | .inl i,v,h=>by
  obtain⟨t,e⟩:=Value.isInt_shape (k:=i) (v:=v) h
  exact .inl ⟨i,t,rfl,e⟩
 | .inr x,v,h=>by
  obtain⟨t,e⟩:=Value.isStrOf_shape (x:=x) (v:=v) h
  exact .inr ⟨x,t,rfl,e⟩
theorem lY (i:Int) (t:Tok):Ry (.inl i) (.int i t)=true:=by simp[Ry,Value.isInt]
theorem lX (x:Str) (t:Tok):Ry (.inr x) (.str x t)=true:=by simp[Ry,Value.isStrOf]
theorem AL (a b:Int):decide ((Sum.inl a:Key)=Sum.inl b)=(a == b):=by
 by_cases e:a=b
 ·subst e;simp
 ·have h:¬(Sum.inl a:Key)=Sum.inl b:=λq=>e (Sum.inl.inj q)
  rw[QbG h]
  exact (QaJ.mpr e).symm
theorem AI (a b:Str):decide ((Sum.inr a:Key)=Sum.inr b)=decide (a=b):=by
 by_cases e:a=b
 ·subst e;simp
 ·have h:¬(Sum.inr a:Key)=Sum.inr b:=λq=>e (Sum.inr.inj q)
  rw[QbG h,QbG e]
theorem AK (a:Int) (b:Str):decide ((Sum.inl a:Key)=Sum.inr b)=false:=QbG (λq=>nomatch q)
theorem AJ (a:Str) (b:Int):decide ((Sum.inr a:Key)=Sum.inl b)=false:=QbG (λq=>nomatch q)
def Df (prog:Program) (w:World):PySem.KeyKind prog w Key where
 is:=Ry
 hash:=Hb w
 inj:=λv a b ha hb=>by
  rcases DN ha with⟨i,t,rfl,rfl⟩|⟨x,t,rfl,rfl⟩
  ·rcases DN hb with⟨j,u,rfl,e⟩|⟨y,u,rfl,e⟩
   ·injection e with e1 _;rw[e1]
   ·exact nomatch e
  ·rcases DN hb with⟨j,u,rfl,e⟩|⟨y,u,rfl,e⟩
   ·exact nomatch e
   ·injection e with e1 _;rw[e1]
 byValue:=λk v h=>by
  rcases DN h with⟨i,t,rfl,rfl⟩|⟨x,t,rfl,rfl⟩ <;> rfl
 pyHash:=λhv h=>by
  rcases DN hv with⟨i,t,rfl,rfl⟩|⟨x,t,rfl,rfl⟩
  ·exact wpAny_pyHash_int h
  ·exact wpAny_pyHash_str h
 eqBool:=λhu hv h=>by
  rcases DN hu with⟨i,t,rfl,rfl⟩|⟨x,t,rfl,rfl⟩
  ·rcases DN hv with⟨j,u,rfl,rfl⟩|⟨y,u,rfl,rfl⟩
   ·rw[AL] at h;exact wpAny_eqBool_int h
   ·rw[AK] at h;exact SeqAt.EqAt.int_str i t y u _ _ _ _ h
  ·rcases DN hv with⟨j,u,rfl,rfl⟩|⟨y,u,rfl,rfl⟩
   ·rw[AJ] at h;exact SeqAt.EqAt.str_int x t j u _ _ _ _ h
   ·rw[AI] at h;exact wpAny_eqBool_str h
 «strs»:=λk x t v h=>by
  rcases DN h with⟨i,u,rfl,e⟩|⟨y,u,rfl,e⟩
  ·exact nomatch e
  ·injection e with e1 _
   subst e1
   cases v <;> rfl
theorem bH (prog:Program) (w:World) (i:Int) (t:Tok):(Df prog w).is (.inl i) (.int i t)=true:=lY i t
theorem bG (prog:Program) (w:World) (x:Str) (t:Tok):(Df prog w).is (.inr x) (.str x t)=true:=lX x t
inductive V where
 | non | bl (b:Bool) | int (i:Int) | str (x:Str) | byt (b:Array UInt8) | flt (b:UInt64) | ref (a:Addr) | ty (n:String)
 deriving DecidableEq
def RelV:V->Value->Prop
 | .non,u=>u=Value.none
 | .bl b,u=>u=Value.bool b
 | .int i,u=>∃t,u=Value.int i t
 | .str x,u=>∃t,u=Value.str x t
 | .byt b,u=>∃t,u=Value.bytes b t
 | .flt b,u=>∃t,u=Value.float b t
 | .ref a,u=>u=Value.ref a
 | .ty n,u=>u=Value.type n
abbrev YG:=List V
abbrev Vals:YG->YE->Prop:=Paired RelV
theorem Vals.length {xs:YG} {us:YE} (r:Vals xs us):xs.length=us.length:=QbX r
theorem Vals.get:∀{xs:YG} {us:YE} {i:Nat} {x:V},Vals xs us->xs[i]?=some x->∃u,us[i]?=some u/\RelV x u
 | _,_,_,_,.nil,e=>by simp at e
 | _,_,0,_,.cons r _,e=>by simp at e;subst e;exact⟨_,rfl,r⟩
 | _,_,i+1,x,.cons _ t,e=>by
  obtain⟨u,h1,h2⟩:=Vals.get (i:=i) (x:=x) t (by simpa using e)
  exact⟨u,by simpa using h1,h2⟩
theorem Vals.set {x:V} {u:Value} (r:RelV x u):∀{xs:YG} {us:YE} (i:Nat),Vals xs us->Vals (xs.set i x) (us.set i u)
 | _,_,_,.nil=>.nil
 | _,_,0,.cons _ t=>.cons r t
 | _,_,i+1,.cons q t=>.cons q (Vals.set r i t)
theorem Vals.append:∀{xs ys:YG} {us ws:YE},Vals xs us->Vals ys ws->Vals (xs++ys) (us++ws)
 | _,_,_,_,.nil,s=>s
 | _,_,_,_,.cons r t,s=>.cons r (Vals.append t s)
theorem Vals.take:∀{xs:YG} {us:YE} (n:Nat),Vals xs us->Vals (xs.take n) (us.take n)
 | _,_,0,_=>.nil
 | _,_,_+1,.nil=>.nil
 | _,_,n+1,.cons r t=>.cons r (Vals.take n t)
theorem Vals.drop:∀{xs:YG} {us:YE} (n:Nat),Vals xs us->Vals (xs.drop n) (us.drop n)
 | _,_,0,r=>r
 | _,_,_+1,.nil=>.nil
 | _,_,n+1,.cons _ t=>Vals.drop n t
def GR:Option V->Option Value->Prop
 | some v,some u=>RelV v u
 | none,none=>True
 | _,_=>False
def KV {κ : Type}:List (κ×V)->List (κ×Value)->Prop:=Paired λ(p:κ×V) (q:κ×Value)=>p.1=q.1/\RelV p.2 q.2
def kV:Key->V
 | .inl i=>.int i
 | .inr x=>.str x
inductive HO where
 | lst (xs:YG)
 | tup (xs:YG)
 | dK (kvs:List (Key×V)) | dT (kvs:List (List Key×V))
 | set (S:Int->Bool) (n:Nat)
 | ins (C dx:Addr) (fs:List (Str×V))
 | own (x:Addr)
 | xd (fs:List (Str×V))
 | met (f x:Addr)
 | rng (lo hi:Int)
 | frz (o:Obj) (u:HO)
 | tbl (ps:Array Value)
 | ext (φ : Heap->Prop)
abbrev Hp:=Addr->Option HO
def upd (H:Hp) (a:Addr) (o:HO):Hp:=λb=>if b=a then some o else H b
theorem Ac {H:Hp} {a:Addr} {o:HO}:upd H a o a=some o:=by unfold upd;rw[if_pos rfl]
theorem Al {H:Hp} {a b:Addr} {o:HO} (h:b≠a):upd H a o b=H b:=by unfold upd;rw[if_neg h]
theorem Rj {H:Hp} {a:Addr} {o u:HO}:upd (upd H a o) a u=upd H a u:=by
 funext b;unfold upd;split <;> rfl
theorem gR {H:Hp} {a b:Addr} {o u:HO} (h:H a=some o) (h':H b=some u) (d:o≠u):a≠b:=by
 intro e;subst e;rw[h] at h';exact d (QbH h')
theorem Ax {H:Hp} {a b:Addr} {o:HO} (h:H a=some o) (h':H b=none):a≠b:=by
 intro e;subst e;rw[h] at h';cases h'
section
variable (P:Program) (w:World)
def Bt (H:Hp) (h:Heap) (a:Addr):HO->Prop
 | .lst xs=>xs.length<=sizeLine/\∃(its:YE) (n:Nat),Vals xs its/\h.get? a=some { cls:=.type "list",data:=.seq its.toArray n }
 | .tup xs=>xs.length<=sizeLine/\∃its:YE,Vals xs its/\IsTup h a its.toArray
 | .dK kvs=>kvs.length<=sizeLine/\(a == sysModules)=false/\∃vs,KV kvs vs/\h.DictOf (Df P w) a vs
 | .dT kvs=>kvs.length<=sizeLine/\(a == sysModules)=false/\∃xs:List (List Key×Addr×Value),
   Paired (λ(p:List Key×V) (q:List Key×Addr×Value)=>p.1=q.1/\H q.2.1=some (.tup (p.1.map kV))/\RelV p.2 q.2.2) kvs xs /\
   ∃o es ep,h.get? a=some o/\o.ExactDict/\o.data=.dict es ep/\es.toList=xs.map (entryOfKey (tupleKind (Df P w)))/\(xs.map (·.1)).Nodup
 | .set S n=>h.SetOf (intKind P w) a S n
 | .ins C dx fs=>H dx=some (.own a)/\fs.length<=1000/\dx≠a/\h.get? a=some (instObj C dx) /\
   ∃mA,h.Ns1 dx mA/\(∀f,GR (fs.lookup f) (mA f))/\PySem.Within mA (fs.map (·.1))
 | .own _=>∃o,h.get? a=some o
 | .xd fs=>∃mA,h.Ns1 a mA/\∀f,GR (fs.lookup f) (mA f)
 | .rng lo hi=>∃t u v,h.get? a=some { cls:=.type "range",data:=.fields #[.int lo t,.int hi u,.int 1 v] }
 | .frz o u=>h.get? a=some o/\Bt H h a u
 | .tbl ps=>h.get? a=some { cls:=.none,data:=.fields ps }
 | .met f x=>h.get? a=some (PySem.W.methodObj (.ref f) (.ref x))
 | .ext φ=>φ h/\(∃o,h.get? a=some o)/\∀h1 h2:Heap,φ h1->(∀o,h1.get? a=some o->h2.get? a=some o)->φ h2
def HOk (H:Hp) (h:Heap):Prop:=∀a o,H a=some o->Bt P w H h a o
end
section
variable {P:Program} {w:World} {H H':Hp} {h h':Heap} {a:Addr} {o:HO}
theorem Bt.lt (x:Bt P w H h a o):a < h.objs.size:=by
 cases o with
 | lst xs=>obtain⟨_,_,_,_,e⟩:=x;exact Qch e
 | tup xs=>obtain⟨_,_,_,p⟩:=x;exact p.lt
 | dK kvs=>obtain⟨_,_,_,_,o,_,_,e,_⟩:=x;exact Qch e
 | dT kvs=>obtain⟨_,_,_,_,o,_,_,e,_⟩:=x;exact Qch e
 | set S n=>obtain⟨o,_,_,_,e,_⟩:=x;exact Qch e
 | ins C dx fs=>obtain⟨_,_,_,e,_⟩:=x;exact Qch e
 | own y=>obtain⟨_,e⟩:=x;exact Qch e
 | xd fs=>obtain⟨_,⟨_,_,_,e,_⟩,_⟩:=x;exact Qch e
 | rng lo hi=>obtain⟨_,_,_,e⟩:=x;exact Qch e
 | frz ob u=>obtain⟨e,_⟩:=x;exact Qch e
 | tbl ps=>exact Qch (show h.get? a=some _ from x)
 | met f y=>exact Qch (show h.get? a=some _ from x)
 | ext φ=>obtain⟨_,⟨_,e⟩,_⟩:=x;exact Qch e
theorem Paired.Bc {α β : Type} {F G:α->β->Prop}:∀{l₁ : List α} {l₂ : List β},Paired F l₁ l₂->(∀a b,F a b->G a b)->Paired G l₁ l₂
 | _,_,.nil,_=>.nil
 | _,_,.cons r t,f=>.cons (f _ _ r) (Paired.Bc t f)
theorem Bt.stay (x:Bt P w H h a o) (k:∀b u,(b=a\/H b=some (.own a))->h.get? b=some u->h'.get? b=some u)
  (ho:∀b,H b=some (.own a)->H' b=some (.own a)) (ht:∀b xs,H b=some (.tup xs)->H' b=some (.tup xs)):Bt P w H' h' a o:=by
 induction o with
 | lst xs=>obtain⟨z,its,n,r,e⟩:=x;exact⟨z,its,n,r,k _ _ (.inl rfl) e⟩
 | tup xs=>obtain⟨z,its,r,ob,e,c⟩:=x;exact⟨z,its,r,ob,k _ _ (.inl rfl) e,c⟩
 | dK kvs=>obtain⟨z,y,vs,r,ob,es,ep,e,c⟩:=x;exact⟨z,y,vs,r,ob,es,ep,k _ _ (.inl rfl) e,c⟩
 | dT kvs=>
  obtain⟨z,y,xs,r,ob,es,ep,e,c⟩:=x
  exact⟨z,y,xs,Paired.Bc r λp q z=>⟨z.1,ht _ _ z.2.1,z.2.2⟩,ob,es,ep,k _ _ (.inl rfl) e,c⟩
 | set S n=>obtain⟨ob,es,ep,t,e,c⟩:=x;exact⟨ob,es,ep,t,k _ _ (.inl rfl) e,c⟩
 | ins C dx fs=>
  obtain⟨d,z,ne,e,mA,⟨od,es,ep,e2,c⟩,r⟩:=x
  exact⟨ho _ d,z,ne,k _ _ (.inl rfl) e,mA,⟨od,es,ep,k _ _ (.inr d) e2,c⟩,r⟩
 | own y=>obtain⟨ob,e⟩:=x;exact⟨ob,k _ _ (.inl rfl) e⟩
 | xd fs=>obtain⟨mA,⟨od,es,ep,e,c⟩,r⟩:=x;exact⟨mA,⟨od,es,ep,k _ _ (.inl rfl) e,c⟩,r⟩
 | rng lo hi=>obtain⟨t,u,v,e⟩:=x;exact⟨t,u,v,k _ _ (.inl rfl) e⟩
 | frz ob u ih=>obtain⟨e,q⟩:=x;exact⟨k _ _ (.inl rfl) e,ih q⟩
 | tbl ps=>
  have e:h.get? a=some { cls:=.none,data:=.fields ps }:=x
  show h'.get? a=some { cls:=.none,data:=.fields ps }
  exact k a _ (.inl rfl) e
 | met f y=>
  have e:h.get? a=some (PySem.W.methodObj (.ref f) (.ref y)):=x
  show h'.get? a=some (PySem.W.methodObj (.ref f) (.ref y))
  exact k a _ (.inl rfl) e
 | ext φ=>obtain⟨p,⟨o,e⟩,st⟩:=x;exact⟨st _ _ p λo q=>k _ _ (.inl rfl) q,⟨o,k _ _ (.inl rfl) e⟩,st⟩
theorem HOk.lt (x:HOk P w H h) (e:H a=some o):a < h.objs.size:=(x a o e).lt
theorem HOk.fresh (x:HOk P w H h) (e:h.objs.size<=a):H a=none:=by
 cases q:H a with
 | none=>rfl
 | some u=>exact absurd (QaW (x.lt q) e) (Qcb _)
theorem HOk.kept (x:HOk P w H h) (k:∀b u,h.get? b=some u->h'.get? b=some u):HOk P w H h':=λa o e=>
 (x a o e).stay (λb u _ q=>k b u q) (λ_ q=>q) λ_ _ q=>q
theorem HOk.laid (x:HOk P w H h) (k:∀b u,h.get? b=some u->h'.get? b=some u) (hp:h.objs.size<=a) (new:Bt P w (upd H a o) h' a o):HOk P w (upd H a o) h':=λb u e=>by
 have hn:=x.fresh hp
 by_cases hb:b=a
 ·subst hb;rw[Ac] at e;cases e;exact new
 ·rw[Al hb] at e
  exact (x b u e).stay (λc v _ q=>k c v q) (λc q=>by rw[Al (Ax q hn)];exact q) λc xs q=>by rw[Al (Ax q hn)];exact q
end
def Rd (H:Hp) (a:Addr) (u:HO):Prop:=H a=some u\/∃o,H a=some (.frz o u)
theorem Rd.ok {P:Program} {w:World} {H:Hp} {h:Heap} {a:Addr} {u:HO} (r:Rd H a u) (x:HOk P w H h):Bt P w H h a u:=by
 rcases r with r |⟨o,r⟩
 ·exact x a u r
 ·obtain⟨_,q⟩:=x a _ r
  exact q
def Mut:Option HO->Prop
 | some (.lst _)=>True
 | some (.dK _)=>True
 | some (.dT _)=>True
 | some (.set _ _)=>True
 | some (.ins _ _ _)=>True
 | some (.ext _)=>True
 | _=>False
section
variable {P:Program} {w:World} {H:Hp} {h h':Heap} {x e:Addr} {o':HO}
theorem HOk.write (ok:HOk P w H h) (mu:Mut (H x)) (he:e=x\/H e=some (.own x)) (k:∀b u,b≠e->h.get? b=some u->h'.get? b=some u) (heo:∃u,h'.get? e=some u)
  (new:Bt P w (upd H x o') h' x o'):HOk P w (upd H x o') h':=λb u q=>by
 have At:∀c y,H c=some (.own y)->c≠x:=λc y r z=>by subst z;rw[r] at mu;exact mu
 have Gf:∀c xs,H c=some (.tup xs)->c≠x:=λc xs r z=>by subst z;rw[r] at mu;exact mu
 by_cases hb:b=x
 ·subst hb;rw[Ac] at q;cases q;exact new
 ·rw[Al hb] at q
  by_cases hbe:b=e
  ·have q':H b=some (.own x):=by
    rcases he with z | z
    ·exact absurd (hbe.trans z) hb
    ·rw[hbe];exact z
   rw[q] at q';cases q'
   obtain⟨v,hv⟩:=heo
   exact⟨v,by rw[hbe];exact hv⟩
  ·refine (ok b u q).stay (λc v hc r=>k c v ?_ r) (λc r=>by rw[Al (At c b r)];exact r) λc xs r=>by rw[Al (Gf c xs r)];exact r
   rcases hc with rfl | hc
   ·exact hbe
   ·rintro rfl
    rcases he with z | z
    ·exact At c b hc z
    ·rw[hc] at z;cases z;exact hb rfl
end
structure Un (fs ex:List Addr) (H H':Hp) (h h':Heap):Prop where
 keep:∀b o,h.get? b=some o->H b=none->b∉fs->b∉ex->h'.get? b=some o
 slot:∀b o,h.get? b=some o->H b=none->b∈fs->b∉ex->∃sl,h'.get? b=some { o with slots:=sl }
 free:∀b o,h.get? b=some o->H b=none->b∉ex->H' b=none
 there:∀b o,h.get? b=some o->b∉ex->∃o',h'.get? b=some o'
 tups:∀b xs,H b=some (.tup xs)->H' b=some (.tup xs)
 GQ:∀b o u,H b=some (.frz o u)->H' b=some (.frz o u)
 Ht:∀b ps,H b=some (.tbl ps)->∃more,H' b=some (.tbl (ps++more))
section
variable {fs fs' ex ex':List Addr} {H H1 H2:Hp} {h h1 h2 h':Heap} {a x e:Addr} {o:HO}
theorem Un.any (u:Un fs ex H H1 h h1) {b:Addr} {ob:Obj} (q:h.get? b=some ob) (n:H b=none) (hx:b∉ex):∃sl,h1.get? b=some { ob with slots:=sl }:=by
 by_cases hb:b∈fs
 ·exact u.slot b ob q n hb hx
 ·exact⟨ob.slots,u.keep b ob q n hb hx⟩
theorem Un.kept (k:∀b u,h.get? b=some u->h'.get? b=some u):Un fs ex H H h h':=
 ⟨λb ob q _ _ _=>k b ob q,λb ob q _ _ _=>⟨ob.slots,k b ob q⟩,λ_ _ _ n _=>n,λb ob q _=>⟨ob,k b ob q⟩,λ_ _ q=>q,λ_ _ _ q=>q,λ_ ps q=>⟨#[],by rw[q];simp⟩⟩
theorem Un.refl:Un fs ex H H h h:=Un.kept λ_ _ q=>q
theorem Un.laid (k:∀b u,h.get? b=some u->h'.get? b=some u) (hp:h.objs.size<=a) (hn:H a=none):Un fs ex H (upd H a o) h h' where
 keep:=λb u q _ _ _=>k b u q
 slot:=λb u q _ _ _=>⟨u.slots,k b u q⟩
 free:=λb u q n _=>by rw[Al (Qcj (QaW (Qch q) hp))];exact n
 there:=λb u q _=>⟨u,k b u q⟩
 tups:=λb xs q=>by rw[Al (Ax q hn)];exact q
 GQ:=λb u xs q=>by rw[Al (Ax q hn)];exact q
 Ht:=λb ps q=>⟨#[],by rw[Al (Ax q hn),q];simp⟩
theorem Un.write (mu:Mut (H x)) (he:e=x\/H e=some (.own x)) (k:∀b u,b≠e->h.get? b=some u->h'.get? b=some u) (heo:∃u,h'.get? e=some u):Un fs ex H (upd H x o) h h':=by
 have hx:∀b,H b=none->b≠x:=λb n z=>by subst z;rw[n] at mu;exact mu
 have hb:∀b,H b=none->b≠e:=λb n z=>by
  subst z
  rcases he with r | r
  ·exact hx b n r
  ·rw[n] at r;cases r
 have hm:∀b u,H b=some u->¬Mut (some u)->b≠x:=λb u q nm z=>by subst z;rw[q] at mu;exact nm mu
 refine⟨λb u q n _ _=>k b u (hb b n) q,λb u q n _ _=>⟨u.slots,k b u (hb b n) q⟩,λb u q n _=>by rw[Al (hx b n)];exact n,λb u q _=>?_,
  λb xs q=>by rw[Al (hm b _ q λz=>z)];exact q,λb u xs q=>by rw[Al (hm b _ q λz=>z)];exact q,λb ps q=>⟨#[],by rw[Al (hm b _ q λz=>z),q];simp⟩⟩
 by_cases hbe:b=e
 ·subst hbe;exact heo
 ·exact⟨u,k b u hbe q⟩
end
def trk (h:Heap) (H:Hp):List Addr:=(List.range h.objs.size).filter λa=>(H a).isSome
def P0 (h:Heap) (H:Hp):Heap:=hideAll h (trk h H)
theorem mF (h:Heap) (H:Hp):(P0 h H).objs.size=h.objs.size:=PySem.W.hideAll_size _ _
theorem tX {h:Heap} {H:Hp} {b:Addr} {o:Obj} (e:h.get? b=some o) (n:H b=none):(P0 h H).get? b=some o:=
 hideAll_get _ e λhm=>by
  have q:(H b).isSome=true:=(QbK.mp hm).2
  rw[n] at q;simp at q
theorem w5 {h:Heap} {H:Hp} {b:Addr} {o:Obj} (e:(P0 h H).get? b=some o):h.get? b=some o/\H b=none:=by
 have e':h.get? b=some o:=PySem.W.of_hideAll (trk h H) e
 refine⟨e',?_⟩
 cases q:H b with
 | none=>rfl
 | some x=>
  have hm:b∈trk h H:=QbK.mpr ⟨QbU.mpr (Qch e'),by simp[q]⟩
  have z:(P0 h H).get? b=none:=PySem.W.hideAll_none (trk h H) hm
  rw[z] at e;cases e
def RN (g h:Heap) (L:Addr):YC:=(List.range h.objs.size).filterMap λa=>if a=L\/(g.get? a).isSome=true then none else (h.get? a).map λo=>(a,o)
theorem Om {g h:Heap} {L a:Addr} {o:Obj} (h1:a≠L) (h2:g.get? a=none) (h3:h.get? a=some o):(a,o)∈RN g h L:=
 List.mem_filterMap.mpr ⟨a,QbU.mpr (Qch h3),by simp[h1,h2,h3]⟩
theorem VG {g h:Heap} {L:Addr} {p:Addr×Obj} (hp:p∈RN g h L):p.1≠L/\g.get? p.1=none/\h.get? p.1=some p.2:=by
 obtain⟨b,_,e⟩:=List.mem_filterMap.mp hp
 split at e
 ·cases e
 ·rename_i hn
  cases q:h.get? b with
  | none=>rw[q] at e;simp at e
  | some u=>
   rw[q] at e
   simp only[Option.map_some,Option.some.injEq] at e
   subst e
   refine⟨λz=>hn (.inl z),?_,q⟩
   show g.get? b=none
   cases r:g.get? b with
   | none=>rfl
   | some v=>exact (hn (.inr (by simp[r]))).elim
def rest (g h:Heap) (L d:Addr):YC:=(RN g h L).filter λp=>decide (p.1≠d)
theorem qL {g h:Heap} {L:Addr}:News g L h (RN g h L):=λp hp=>let ⟨a,b,c⟩:=VG hp;⟨c,a,b⟩
structure Mod (K:YD) (mg:YB) (base:Heap):Prop where
 kin:K.In base
 glob:base.Ns mainGlobals mg
 blt:∃mb,base.Ns builtinsNs mb/\∀x:Str,x≠"__name__"->mb x=bootBuiltins x
 nolimit:base.NoLimit
structure Cx where
 prog:Program
 w:World
 K:YD
 mg:YB
 base:Heap
 A:Around
 N:YF
 s₀ : Shared
 H₀ : Hp
 env:Env
 outer:List Env
 stack:List Env
 ex:List Addr
 fn:Str->Bool
 calm:Bool
 pn:YC
 xe:YA
def frs (l:List Env):List Addr:=l.filterMap (·.frame)
abbrev Cx.fs (X:Cx):List Addr:=frs X.outer
def Vis (sc:Scope) (x:Str):Prop:=sc.names.lookup x=some .local\/sc.names.lookup x=some .cell\/sc.names.lookup x=some .free
def Loc (sc:Scope) (x:Str):Prop:=sc.names.lookup x=some .local\/sc.names.lookup x=some .cell
def Look (env:Env) (h:Heap) (m:YB) (x:Str) (u:Value):Prop:=
 (env.kindOf x=some .local/\m x=some u)\/((env.kindOf x=some .cell\/env.kindOf x=some .free)/\∃c,env.cells.lookup x=some c/\h.IsCell c (some u))
structure Cx.Ok (X:Cx):Prop where
 mod:Mod X.K X.mg X.base
 kind:X.env.scope.kind=.function
 glob:X.env.globals=mainGlobals
 blt:X.env.builtins=builtinsNs
 above:X.s₀.heap.objs.size<=X.env.locals
 inj:∀x y c,X.env.cells.lookup x=some c->X.env.cells.lookup y=some c->x=y
 has:∀x,(X.env.kindOf x=some .cell\/X.env.kindOf x=some .free)->∃c,X.env.cells.lookup x=some c
 cab:∀x c,X.fn x=true->X.env.cells.lookup x=some c->X.s₀.heap.objs.size<=c
 hd:X.calm=true->X.A.handled=none
 frames:X.A.frames=some X.stack
 stk:X.stack=X.outer\/(X.stack=X.env::X.outer/\X.env.frame=some X.env.locals)
 exf:∀b∈X.ex,b≠X.env.locals/\∀x c,X.env.cells.lookup x=some c->c≠b
 bs:∀b o,X.base.get? b=some o->X.s₀.heap.get? b=some o/\X.H₀ b=none
 bsz:X.base.objs.size<=X.s₀.heap.objs.size
 Nf:∀b o,X.base.get? b=some o->b∉X.ex
 JZ:∀b∈X.ex,b∉X.fs
 Gh:X.s₀.heap.FunFrames X.base X.outer
 frf:∀b∈X.fs,X.H₀ b=none
structure Inv (X:Cx) (pins:YC) (σ : List (Option V)) (H:Hp) (s:Shared):Prop where
 ok:X.Ok
 os:s.os=X.s₀.os
 bare:AllBare s.gens
 base:Un X.fs X.ex X.H₀ H X.s₀.heap s.heap
 loc:∃m,s.heap.Ns X.env.locals m/\∀(i:Nat) (x:Str) (v:V),X.N[i]?=some x->σ[i]?=some (some v)->Vis X.env.scope x->∃u,RelV v u/\Look X.env s.heap m x u
 cell:∀x c,X.env.cells.lookup x=some c->∃v,s.heap.IsCell c v
 free:H X.env.locals=none
 El:∀x c,X.env.cells.lookup x=some c->H c=none
 pin:∀p∈X.pn++pins,s.heap.get? p.1=some p.2/\H p.1=none/\p.1≠X.env.locals/\p.1∉X.fs/\∀v,p.2.data≠.cell v
 hok:HOk X.prog X.w H s.heap
 len:σ.length=X.N.length
section
variable {X:Cx} {pins:YC} {σ : List (Option V)} {H H':Hp} {s:Shared} {h':Heap}
theorem Cx.Ok.EE (ok:X.Ok) {b:Addr} {o:Obj} (e:X.base.get? b=some o):b∉X.fs:=λhb=>by
 have:=(ok.Gh.mem hb).1
 rw[e] at this;cases this
theorem Inv.bs (I:Inv X pins σ H s):∀b o,X.base.get? b=some o->s.heap.get? b=some o/\H b=none:=λb o e=>
 ⟨I.base.keep b o (I.ok.bs b o e).1 (I.ok.bs b o e).2 (I.ok.EE e) (I.ok.Nf b o e),I.base.free b o (I.ok.bs b o e).1 (I.ok.bs b o e).2 (I.ok.Nf b o e)⟩
theorem Inv.bk (I:Inv X pins σ H s):∀b o,X.base.get? b=some o->s.heap.get? b=some o:=λb o e=>(I.bs b o e).1
theorem Inv.mod (I:Inv X pins σ H s):Mod X.K X.mg X.base:=I.ok.mod
theorem Inv.kIn (I:Inv X pins σ H s):X.K.In s.heap:=I.ok.mod.kin.keeps I.bk
theorem Inv.nolimit (I:Inv X pins σ H s):s.heap.NoLimit:=I.ok.mod.nolimit.keeps I.bk
theorem Inv.fr (I:Inv X pins σ H s):∃m,Fr X.base X.env.locals s.heap m:=
 let ⟨m,hn,_⟩:=I.loc
 ⟨m,hn,I.bk,Qck I.ok.bsz I.ok.above⟩
theorem Inv.lt (I:Inv X pins σ H s):X.env.locals < s.heap.objs.size:=let ⟨_,hn,_⟩:=I.loc;hn.lt
theorem Inv.sz (I:Inv X pins σ H s):X.s₀.heap.objs.size<=s.heap.objs.size:=Qck I.ok.above (Qcn I.lt)
theorem Inv.qK (I:Inv X pins σ H s) {a:Addr} (h:s.heap.objs.size<=a):a∉X.fs:=λhb=>by
 obtain⟨_,o,ho,_⟩:=I.ok.Gh.mem hb
 exact absurd (QaW (Qch ho) (Qck I.sz h)) (Qcb _)
theorem Inv.cne (I:Inv X pins σ H s):∀x c,X.env.cells.lookup x=some c->c≠X.env.locals:=λx c e z=>by
 obtain⟨v,o,ho,hd⟩:=I.cell x c e
 obtain⟨m,⟨o',es,ep,ho',hd',_⟩,_⟩:=I.loc
 rw[z,ho'] at ho;cases ho;rw[hd'] at hd;cases hd
theorem Inv.Gh (I:Inv X pins σ H s):s.heap.FunFrames X.base X.outer:=by
 have all:∀(l:List Env),(∀b∈frs l,b∈X.fs)->X.s₀.heap.FunFrames X.base l->s.heap.FunFrames X.base l:=by
  intro l
  induction l with
  | nil=>intro _ _;trivial
  | cons env r ih=>
   intro hs hl
   obtain⟨hk,⟨L,o,hf,hn,ho,hd⟩,hr⟩:=hl
   have hL:L∈X.fs:=hs L (by unfold frs;rw[List.filterMap_cons,hf];exact QaR)
   obtain⟨sl,e⟩:=I.base.slot L o ho (I.ok.frf L hL) hL λz=>I.ok.JZ L z hL
   exact⟨hk,⟨L,_,hf,hn,e,hd⟩,ih (λb hb=>hs b (by unfold frs;rw[List.filterMap_cons,hf];exact QaE _ hb)) hr⟩
 exact all X.outer (λ_ hb=>hb) I.ok.Gh
theorem Inv.stack (I:Inv X pins σ H s):s.heap.FunFrames X.base X.stack:=by
 rcases I.ok.stk with e |⟨e,hf⟩
 ·rw[e];exact I.Gh
 ·rw[e]
  obtain⟨m,hn,_⟩:=I.loc
  refine .cons (by rw[I.ok.kind];decide) hf hn ?_ I.Gh
  exact Heap.get?_none_of_le (Qck I.ok.bsz I.ok.above)
theorem Inv.Ue (I:Inv X pins σ H s):∀b∈frs X.stack,b∈X.env.locals::X.fs:=λb hb=>by
 rcases I.ok.stk with e |⟨e,hf⟩
 ·rw[e] at hb;exact QaE _ hb
 ·rw[e] at hb
  unfold frs at hb
  rw[List.filterMap_cons,hf] at hb
  exact hb
theorem Inv.Vl (I:Inv X pins σ H s):∀b∈frs X.stack,H b=none:=λb hb=>by
 rcases QbY.mp (I.Ue b hb) with e | hb
 ·rw[e];exact I.free
 ·obtain⟨_,o,ho,_⟩:=I.ok.Gh.mem hb
  exact I.base.free b o ho (I.ok.frf b hb) λz=>I.ok.JZ b z hb
theorem Inv.step {g':Array GenState} {t':Nat} {d':Drawn} {ch:List Addr} (I:Inv X pins σ H s)
  (hch:∀b∈ch,(b∈X.ex\/X.s₀.heap.objs.size<=b)/\b≠X.env.locals/\(∀x c,X.env.cells.lookup x=some c->c≠b)/\∀p∈X.pn++pins,p.1≠b)
  (keep:∀b o,b≠X.env.locals->b∉X.fs->b∉ch->s.heap.get? b=some o->H b=none->h'.get? b=some o)
  (slot:∀b o,b≠X.env.locals->b∈X.fs->b∉ch->s.heap.get? b=some o->H b=none->∃sl,h'.get? b=some { o with slots:=sl }) (free:∀b o,b∉ch->s.heap.get? b=some o->H b=none->H' b=none)
  (there:∀b o,b∉ch->s.heap.get? b=some o->∃o',h'.get? b=some o')
  (tups:∀b xs,H b=some (.tup xs)->H' b=some (.tup xs)) (GQ:∀b o u,H b=some (.frz o u)->H' b=some (.frz o u)) (Ht:∀b ps,H b=some (.tbl ps)->∃more,H' b=some (.tbl (ps++more)))
  (ns:∀m,s.heap.Ns X.env.locals m->h'.Ns X.env.locals m) (hok:HOk X.prog X.w H' h') (hg:AllBare g') :
  Inv X pins σ H' { s with heap:=h',gens:=g',drawn:=d',toks:=t' }:=by
 have neL:∀b o,X.s₀.heap.get? b=some o->b≠X.env.locals:=λb o e=>Qcj (QaW (Qch e) I.ok.above)
 have neC:∀b o,X.s₀.heap.get? b=some o->b∉X.ex->b∉ch:=λb o e hx hb=>by
  rcases (hch b hb).1 with z | z
  ·exact hx z
  ·exact absurd (QaW (Qch e) z) (Qcb _)
 have cellK:∀x c,X.env.cells.lookup x=some c->∀v,s.heap.IsCell c v->h'.IsCell c v:=λx c e v ⟨o,ho,hd⟩=>by
  have nch:c∉ch:=λz=>(hch c z).2.2.1 x c e rfl
  by_cases hc:c∈X.fs
  ·obtain⟨sl,q⟩:=slot c o (I.cne x c e) hc nch ho (I.El x c e)
   exact⟨_,q,hd⟩
  ·exact⟨o,keep c o (I.cne x c e) hc nch ho (I.El x c e),hd⟩
 refine⟨I.ok,I.os,hg,⟨λb o e n hb hx=>?_,λb o e n hb hx=>?_,λb o e n hx=>?_,λb o e hx=>?_,λb xs e=>tups b xs (I.base.tups b xs e),λb o xs e=>GQ b o xs (I.base.GQ b o xs e),λb ps e=>?_⟩,?_,λx c e=>?_,?_,λx c e=>?_,λp hp=>?_,hok,I.len⟩
 ·exact keep b o (neL b o e) hb (neC b o e hx) (I.base.keep b o e n hb hx) (I.base.free b o e n hx)
 ·obtain⟨sl,e1⟩:=I.base.slot b o e n hb hx
  obtain⟨sl',e2⟩:=slot b _ (neL b o e) hb (neC b o e hx) e1 (I.base.free b o e n hx)
  exact⟨sl',e2⟩
 ·obtain⟨o',e1⟩:=I.base.there b o e hx
  exact free b o' (neC b o e hx) e1 (I.base.free b o e n hx)
 ·obtain⟨o',e1⟩:=I.base.there b o e hx
  exact there b o' (neC b o e hx) e1
 ·obtain⟨m1,e1⟩:=I.base.Ht b ps e
  obtain⟨m2,e2⟩:=Ht b _ e1
  exact⟨m1++m2,by rw[e2,Array.append_assoc]⟩
 ·obtain⟨m,hn,hl⟩:=I.loc
  refine⟨m,ns m hn,λi x v e1 e2 e3=>?_⟩
  obtain⟨u,r,l⟩:=hl i x v e1 e2 e3
  refine⟨u,r,?_⟩
  rcases l with l |⟨k,c,e,z⟩
  ·exact .inl l
  ·exact .inr ⟨k,c,e,cellK x c e _ z⟩
 ·obtain⟨v,z⟩:=I.cell x c e
  exact⟨v,cellK x c e v z⟩
 ·obtain⟨m,⟨o,_,_,ho,_⟩,_⟩:=I.loc
  exact free _ o (λz=>(hch _ z).2.1 rfl) ho I.free
 ·obtain⟨v,o,ho,hd⟩:=I.cell x c e
  exact free c o (λz=>(hch c z).2.2.1 x c e rfl) ho (I.El x c e)
 ·obtain⟨e,n,ne,nf,d⟩:=I.pin p hp
  have nch:p.1∉ch:=λz=>(hch p.1 z).2.2.2 p hp rfl
  exact⟨keep p.1 p.2 ne nf nch e n,free p.1 p.2 nch e n,ne,nf,d⟩
theorem Inv.un {t':Nat} (I:Inv X pins σ H s) (u:Un X.fs [] H H' s.heap h') (hok:HOk X.prog X.w H' h'):Inv X pins σ H' { s with heap:=h',toks:=t' }:=by
 obtain⟨m,⟨o,es,ep,ho,r⟩,_⟩:=id I.loc
 obtain⟨sl,hL⟩:=u.any ho I.free (by simp)
 exact I.step (g':=s.gens) (d':=s.drawn) (ch:=[]) (λ_ z=>nomatch z) (λb o _ hb _ e n=>u.keep b o e n hb (by simp)) (λb o _ hb _ e n=>u.slot b o e n hb (by simp)) (λb o _ e n=>u.free b o e n (by simp)) (λb o _ e=>u.there b o e (by simp)) u.tups u.GQ u.Ht (λm' hm=>by
  obtain⟨o',es',ep',ho',r'⟩:=hm
  rw[ho] at ho';cases ho'
  exact⟨_,es',ep',hL,r'⟩) hok I.bare
theorem Inv.call {g':Array GenState} {t':Nat} {d':Drawn} {ch:List Addr} (I:Inv X pins σ H s) (u:Un (frs X.stack) ch H H' s.heap h') (hok:HOk X.prog X.w H' h') (hg:AllBare g')
  (hch:∀b∈ch,(b∈X.ex\/X.s₀.heap.objs.size<=b)/\b≠X.env.locals/\(∀x c,X.env.cells.lookup x=some c->c≠b)/\∀p∈X.pn++pins,p.1≠b) :
  Inv X pins σ H' { s with heap:=h',gens:=g',drawn:=d',toks:=t' }:=by
 obtain⟨m,⟨o,es,ep,ho,r⟩,_⟩:=id I.loc
 obtain⟨sl,hL⟩:=u.any ho I.free λz=>(hch _ z).2.1 rfl
 exact I.step (ch:=ch) hch (λb o hL hb hc e n=>u.keep b o e n (λz=>(QbY.mp (I.Ue b z)).elim hL hb) hc) (λb o _ _ hc e n=>u.any e n hc) (λb o hc e n=>u.free b o e n hc) (λb o hc e=>u.there b o e hc) u.tups u.GQ u.Ht (λm' hm=>by
  obtain⟨o',es',ep',ho',r'⟩:=hm
  rw[ho] at ho';cases ho'
  exact⟨_,es',ep',hL,r'⟩) hok hg
theorem Inv.turned {t':Nat} {it:Addr} (I:Inv X pins σ H s) (k:∀b o,b≠it->s.heap.get? b=some o->h'.get? b=some o) (hn:H it=none) (hL:it≠X.env.locals)
  (h1:it∈X.ex\/X.s₀.heap.objs.size<=it) (h2:∀x c,X.env.cells.lookup x=some c->c≠it) (h3:∀p∈X.pn++pins,p.1≠it):Inv X pins σ H { s with heap:=h',toks:=t' }:=by
 have nit:∀b u,H b=some u->b≠it:=λb u e z=>by rw[z,hn] at e;cases e
 refine I.step (g':=s.gens) (d':=s.drawn) (ch:=[it]) (λb hb=>?_) (λb o _ _ hc e _=>k b o (λz=>hc (by simp[z])) e) (λb o _ _ hc e _=>⟨o.slots,k b o (λz=>hc (by simp[z])) e⟩) (λ_ _ _ _ n=>n)
  (λb o hc e=>⟨o,k b o (λz=>hc (by simp[z])) e⟩) (λ_ _ e=>e) (λ_ _ _ e=>e) (λb ps e=>⟨#[],by rw[e];simp⟩) (λm hm=>?_) (λb u e=>?_) I.bare
 ·have e:b=it:=by simpa using hb
  subst e
  exact⟨h1,hL,h2,h3⟩
 ·obtain⟨o,es,ep,ho,r⟩:=hm
  exact⟨o,es,ep,k _ o (Ne.symm hL) ho,r⟩
 ·refine (I.hok b u e).stay (λc v hc q=>k c v ?_ q) (λ_ q=>q) λ_ _ q=>q
  rcases hc with z | z
  ·rw[z];exact nit b u e
  ·exact nit c _ z
theorem Inv.tok (I:Inv X pins σ H s) (t:Nat):Inv X pins σ H { s with toks:=t }:=I.un (h':=s.heap) (t':=t) Un.refl I.hok
theorem Inv.kept {t':Nat} (I:Inv X pins σ H s) (k:∀b u,s.heap.get? b=some u->h'.get? b=some u):Inv X pins σ H { s with heap:=h',toks:=t' }:=I.un (Un.kept k) (I.hok.kept k)
theorem Inv.laid {a:Addr} {o:HO} {t':Nat} (I:Inv X pins σ H s) (k:∀b u,s.heap.get? b=some u->h'.get? b=some u) (hp:s.heap.objs.size<=a) (new:Bt X.prog X.w (upd H a o) h' a o) :
  Inv X pins σ (upd H a o) { s with heap:=h',toks:=t' }:=I.un (Un.laid k hp (I.hok.fresh hp)) (I.hok.laid k hp new)
theorem Inv.write {x e:Addr} {o:HO} {t':Nat} (I:Inv X pins σ H s) (mu:Mut (H x)) (he:e=x\/H e=some (.own x)) (k:∀b u,b≠e->s.heap.get? b=some u->h'.get? b=some u) (heo:∃u,h'.get? e=some u)
  (new:Bt X.prog X.w (upd H x o) h' x o):Inv X pins σ (upd H x o) { s with heap:=h',toks:=t' }:=I.un (Un.write mu he k heo) (I.hok.write mu he k heo new)
theorem Inv.Rv {G3:YC} (I:Inv X pins σ H s) (h:∀p∈G3,s.heap.get? p.1=some p.2/\H p.1=none/\p.1≠X.env.locals/\p.1∉X.fs/\∀v,p.2.data≠.cell v):Inv X G3 σ H s:=
 ⟨I.ok,I.os,I.bare,I.base,I.loc,I.cell,I.free,I.El,λp hp=>(QbD.mp hp).elim (λz=>I.pin p (QaF _ z)) (h p),I.hok,I.len⟩
theorem Tn {N:YF} (hN:N.Nodup) {i j:Nat} {x:Str} (a:N[i]?=some x) (b:N[j]?=some x):i=j:=by
 obtain⟨h1,e1⟩:=Qah.mp a
 obtain⟨h2,e2⟩:=Qah.mp b
 exact (List.getElem_inj hN).mp (e1.trans e2.symm)
theorem jH {M:Model} {A:Around} {E:YA} {i:Nat} {x:Str} {v:V} {u:Value} {Q:YH} (I:Inv X pins σ H s) (hN:X.N.Nodup) (hi:X.N[i]?=some x) (hx:Loc X.env.scope x) (r:RelV v u)
  (h:∀s',Inv X pins (σ.set i (some v)) H s'->(∃a,Heap.SameBut a s.heap s'.heap/\(a=X.env.locals\/X.env.cells.lookup x=some a))->Q () s') (hf:X.fn x=true\/X.env.scope.names.lookup x=some .local:=by first | exact .inl rfl | exact .inr rfl | assumption):wpAny M A (storeName X.env x u) Q E s:=by
 obtain⟨m,hn,hl⟩:=id I.loc
 have hcls:(X.env.scope.kind == .class || (X.env.scope.kind == .module&&X.env.locals != X.env.globals))=false:=by rw[I.ok.kind];rfl
 have hiσ : i < σ.length:=by rw[I.len];exact (Qah.mp hi).1
 have cne:=I.cne
 have tracked:∀{a:Addr} {h':Heap},(∃o,s.heap.get? a=some o/\H a=none)->Heap.SameBut a s.heap h'->HOk X.prog X.w H h':=λ{a h'} ha hs b ob e=>by
  obtain⟨_,_,hfree⟩:=ha
  refine (I.hok b ob e).stay (λc w' hc q=>(hs.2 c ?_).trans q) (λ_ q=>q) λ_ _ q=>q
  rintro rfl
  rcases hc with rfl | hc
  ·rw[hfree] at e;cases e
  ·rw[hfree] at hc;cases hc
 rcases hx with hk | hk
 ·refine wpAny_storeName_local hk hn (λh' hn' hs=>?_) hcls
  obtain⟨oL,_,_,hoL,_⟩:=id hn
  refine h _ ⟨I.ok,I.os,I.bare,⟨λb o e n hb hx=>?_,λb o e n hb hx=>?_,I.base.free,λb o e hx=>?_,I.base.tups,I.base.GQ,I.base.Ht⟩,⟨_,hn',λj y v' e1 e2 e3=>?_⟩,λy c e=>?_,I.free,I.El,λp hp=>?_,tracked ⟨oL,hoL,I.free⟩ hs,by simpa using I.len⟩ ⟨_,hs,.inl rfl⟩
  ·exact (hs.2 b (Qcj (QaW (Qch e) I.ok.above))).trans (I.base.keep b o e n hb hx)
  ·obtain⟨sl,e1⟩:=I.base.slot b o e n hb hx
   exact⟨sl,(hs.2 b (Qcj (QaW (Qch e) I.ok.above))).trans e1⟩
  ·obtain⟨o',e1⟩:=I.base.there b o e hx
   exact⟨o',(hs.2 b (Qcj (QaW (Qch e) I.ok.above))).trans e1⟩
  ·by_cases hj:j=i
   ·subst hj
    rw[hi] at e1;cases e1
    rw[List.getElem?_set_self hiσ] at e2
    cases e2
    exact⟨u,r,.inl ⟨hk,by simp⟩⟩
   ·rw[List.getElem?_set_ne (Ne.symm hj)] at e2
    obtain⟨u',r',q⟩:=hl j y v' e1 e2 e3
    refine⟨u',r',?_⟩
    rcases q with⟨k,e⟩|⟨k,c,e,z⟩
    ·refine .inl ⟨k,?_⟩
     have:y≠x:=λe=>hj (Tn hN e1 (e ▸ hi))
     simp[this,e]
    ·exact .inr ⟨k,c,e,z.sameBut hs (cne y c e)⟩
  ·obtain⟨w',z⟩:=I.cell y c e
   exact⟨w',z.sameBut hs (cne y c e)⟩
  ·obtain⟨e,n,ne,nf,d⟩:=I.pin p hp
   exact⟨(hs.2 p.1 ne).trans e,n,ne,nf,d⟩
 ·have hfn:X.fn x=true:=by
   rcases hf with z | z
   ·exact z
   ·rw[z] at hk;cases hk
  obtain⟨c,hc⟩:=I.ok.has x (.inl hk)
  obtain⟨w',z⟩:=I.cell x c hc
  refine wpAny_storeName_cell I.ok.kind hk hc z (λh' hc' hs=>?_)
  obtain⟨oc,hoc,Ix⟩:=id z
  refine h { s with heap:=h' } ⟨I.ok,I.os,I.bare,⟨λb o e n hb hx=>?_,λb o e n hb hx=>?_,I.base.free,λb o e hx=>?_,I.base.tups,I.base.GQ,I.base.Ht⟩,⟨m,hn.sameBut hs (Ne.symm (cne x c hc)),λj y v' e1 e2 e3=>?_⟩,λy c' e=>?_,I.free,I.El,λp hp=>?_,tracked ⟨oc,hoc,I.El x c hc⟩ hs,by simpa using I.len⟩ ⟨c,hs,.inr hc⟩
  ·exact (hs.2 b (Qcj (QaW (Qch e) (I.ok.cab x c hfn hc)))).trans (I.base.keep b o e n hb hx)
  ·obtain⟨sl,e1⟩:=I.base.slot b o e n hb hx
   exact⟨sl,(hs.2 b (Qcj (QaW (Qch e) (I.ok.cab x c hfn hc)))).trans e1⟩
  ·obtain⟨o',e1⟩:=I.base.there b o e hx
   exact⟨o',(hs.2 b (Qcj (QaW (Qch e) (I.ok.cab x c hfn hc)))).trans e1⟩
  ·by_cases hj:j=i
   ·subst hj
    rw[hi] at e1;cases e1
    rw[List.getElem?_set_self hiσ] at e2
    cases e2
    exact⟨u,r,.inr ⟨.inl hk,c,hc,hc'⟩⟩
   ·rw[List.getElem?_set_ne (Ne.symm hj)] at e2
    obtain⟨u',r',q⟩:=hl j y v' e1 e2 e3
    refine⟨u',r',?_⟩
    rcases q with q |⟨k,c',e,z'⟩
    ·exact .inl q
    ·refine .inr ⟨k,c',e,z'.sameBut hs ?_⟩
     rintro rfl
     exact hj (Tn hN e1 (I.ok.inj _ _ _ e hc ▸ hi))
  ·by_cases hcc:c'=c
   ·subst hcc;exact⟨_,hc'⟩
   ·obtain⟨w2,z2⟩:=I.cell y c' e
    exact⟨w2,z2.sameBut hs hcc⟩
  ·obtain⟨e,n,ne,nf,d⟩:=I.pin p hp
   refine⟨(hs.2 p.1 ?_).trans e,n,ne,nf,d⟩
   intro q
   rw[q,hoc] at e
   have q':oc=p.2:=QbH e
   exact d w' (by rw[<-q'];exact Ix)
theorem JK {M:Model} {A:Around} {E:YA} {i:Nat} {x:Str} {v:V} {u:Value} {Q:YH} (I:Inv X pins σ H s) (hN:X.N.Nodup) (hi:X.N[i]?=some x) (hx:Loc X.env.scope x) (r:RelV v u)
  (h:∀s',Inv X pins (σ.set i (some v)) H s'->Q () s') (hf:X.fn x=true\/X.env.scope.names.lookup x=some .local:=by first | exact .inl rfl | exact .inr rfl | assumption):wpAny M A (storeName X.env x u) Q E s:=
 jH I hN hi hx r (λs' I' _=>h s' I') hf
theorem Inv.call' {s':Shared} {ch:List Addr} (I:Inv X pins σ H s) (ho:s'.os=s.os) (u:Un (frs X.stack) ch H H' s.heap s'.heap) (hok:HOk X.prog X.w H' s'.heap) (hg:AllBare s'.gens)
  (hch:∀b∈ch,(b∈X.ex\/X.s₀.heap.objs.size<=b)/\b≠X.env.locals/\(∀x c,X.env.cells.lookup x=some c->c≠b)/\∀p∈X.pn++pins,p.1≠b):Inv X pins σ H' s':=by
 obtain⟨h',g',d',t',o'⟩:=s'
 have e:o'=s.os:=ho
 subst e
 exact I.call (g':=g') (t':=t') (d':=d') u hok hg hch
end
abbrev XK:=Value->Option Addr->Hp->Prop
abbrev St:=List (Option V)
abbrev VK:=V->Hp->Prop
abbrev TE:=St->Hp->VK->Prop
abbrev TT:=St->Hp->(Bool->Hp->Prop)->Prop
abbrev TA:=St->Hp->(YG->Hp->Prop)->Prop
structure Ends where
 nx:St->Hp->Prop
 rt:VK
 bk:St->Hp->Prop:=λ_ _=>False
 ct:St->Hp->Prop:=λ_ _=>False
abbrev YO:=St->Hp->Prop
abbrev TS:=Ends->YO
def EP (X:Cx) (pins:YC) (σ : St) (Q:VK) (u:Value) (s':Shared):Prop:=∃v H',Inv X pins σ H' s'/\RelV v u/\Q v H'
def TP (X:Cx) (pins:YC) (σ : St) (Q:Bool->Hp->Prop) (b:Bool) (s':Shared):Prop:=∃H',Inv X pins σ H' s'/\Q b H'
def AP (X:Cx) (pins:YC) (σ : St) (Q:YG->Hp->Prop) (us:YE) (s':Shared):Prop:=∃vs H',Inv X pins σ H' s'/\Vals vs us/\Q vs H'
def SP (X:Cx) (pins:YC) (D:Ends) (f:Flow) (s':Shared):Prop:=
 match f with
 | .next=>∃ σ' H',Inv X pins σ' H' s'/\D.nx σ' H'
 | .brk=>∃ σ' H',Inv X pins σ' H' s'/\D.bk σ' H'
 | .cont=>∃ σ' H',Inv X pins σ' H' s'/\D.ct σ' H'
 | .ret u=>∃v σ' H',Inv X pins σ' H' s'/\RelV v u/\D.rt v H'
def PE (X:Cx) (e:Expr) (t:TE):Prop:=
 ∀(pins:YC) (s:Shared) (σ : St) (H:Hp) (Q:VK),Inv X pins σ H s->t σ H Q->wpAny (model X.prog X.w) X.A (eval e X.env) (EP X pins σ Q) X.xe s
def PT (X:Cx) (e:Expr) (t:TT):Prop:=
 ∀(pins:YC) (s:Shared) (σ : St) (H:Hp) (Q:Bool->Hp->Prop),Inv X pins σ H s->t σ H Q->wpAny (model X.prog X.w) X.A (isTrue e X.env (eval e X.env)) (TP X pins σ Q) X.xe s
def PW (X:Cx) (e:Expr) (t:TT):Prop:=
 ∀(whole:Sem Value) (pins:YC) (s:Shared) (σ : St) (H:Hp) (Q:Bool->Hp->Prop),Inv X pins σ H s->t σ H Q->wpAny (model X.prog X.w) X.A (isTrue e X.env whole) (TP X pins σ Q) X.xe s
theorem PW.pt {X:Cx} {e:Expr} {t:TT} (h:PW X e t):PT X e t:=h _
def PA (X:Cx) (es:YJ) (t:TA):Prop:=
 ∀(pos:Pos) (pins:YC) (s:Shared) (σ : St) (H:Hp) (Q:YG->Hp->Prop),Inv X pins σ H s->t σ H Q->wpAny (model X.prog X.w) X.A (spliced (backTo pos (starEach es X.env))) (AP X pins σ Q) X.xe s
def PS (X:Cx) (st:Stmt) (t:TS):Prop:=
 ∀(pins:YC) (s:Shared) (σ : St) (H:Hp) (D:Ends),Inv X pins σ H s->t D σ H->wpAny (model X.prog X.w) X.A (exec st X.env) (SP X pins D) X.xe s
def PSs (X:Cx) (st:List Stmt) (t:TS):Prop:=
 ∀(pins:YC) (s:Shared) (σ : St) (H:Hp) (D:Ends),Inv X pins σ H s->t D σ H->wpAny (model X.prog X.w) X.A (execs st X.env) (SP X pins D) X.xe s
theorem thn {α : Type} {t:Sem α} {Q Q':α->Shared->Prop} {M:Model} {A:Around} {E:YA} {s:Shared} (h:wpAny M A t Q E s) (hQ:∀a s,Q a s->Q' a s):wpAny M A t Q' E s:=Qcx h hQ λ_ _ x=>x
section
variable {X:Cx}
theorem bin {a b:Expr} {ta tb:TE} (ha:PE X a ta) (hb:PE X b tb) {pins:YC} {s:Shared} {σ : St} {H:Hp} {R:V->V->Hp->Prop} (I:Inv X pins σ H s) (h:ta σ H λx H1=>tb σ H1 λy H2=>R x y H2)
  {α : Type} {Q:α->Shared->Prop} {f:Value->Value->Sem α}
  (hf:∀v u s2 x y H2,Inv X pins σ H2 s2->RelV x v->RelV y u->R x y H2->wpAny (model X.prog X.w) X.A (f v u) Q X.xe s2) :
  wpAny (model X.prog X.w) X.A (eval a X.env) (λv s₁=>wpAny (model X.prog X.w) X.A (eval b X.env) (λu s₂=>wpAny (model X.prog X.w) X.A (f v u) Q X.xe s₂) X.xe s₁) X.xe s:=by
 refine thn (ha pins s σ H _ I h) λv s1 zz=>?_
 obtain⟨x,H1,I1,r1,q1⟩:=zz
 refine thn (hb pins s1 σ H1 _ I1 q1) λu s2 zz=>?_
 obtain⟨y,H2,I2,r2,q2⟩:=zz
 exact hf v u s2 x y H2 I2 r1 r2 q2
def yR (i:Nat):TE:=fun σ H Q=>∃v,σ[i]?=some (some v)/\Q v H
def tC (v:V):TE:=λ_ H Q=>Q v H
theorem zQ {i:Nat} {x:Str} {pos:Pos} (hN:X.N[i]?=some x) (hv:Vis X.env.scope x) (hd:(x == ("__debug__":Str))=false:=by decide) (hcd:(x == ("__classdict__":Str))=false:=by decide):PE X (.Name x pos) (yR i):=by
 intro pins s σ H Q I h
 obtain⟨v,e,h⟩:=h
 obtain⟨m,hn,hl⟩:=I.loc
 obtain⟨u,r,l⟩:=hl i x v hN e hv
 have fin:EP X pins σ Q u s:=⟨v,H,I,r,h⟩
 rcases l with⟨hk,hm⟩|⟨hk,c,hc,hcell⟩
 ·exact wpAny_Name (wpAny_loadName_local I.ok.kind hk hn hm fin) hd
 ·rcases hk with hk | hk
  ·exact wpAny_Name (wpAny_loadName_cell I.ok.kind hk hc hcell fin) hd
  ·exact wpAny_Name (wpAny_loadName_free I.ok.kind hk hc hcell fin hcd) hd
theorem Ae {i j pos}:PE X (.Constant (.int i) j pos) (tC (.int i)):=λ_ _ _ H _ I h=>wpAny_Constant_int ⟨.int i,H,I.tok _,⟨_,rfl⟩,h⟩
theorem Dl {b j pos}:PE X (.Constant (.bool b) j pos) (tC (.bl b)):=λ_ _ _ H _ I h=>Constant_bool ⟨.bl b,H,I,rfl,h⟩
theorem MP {j pos}:PE X (.Constant .none j pos) (tC .non):=λ_ _ _ H _ I h=>Constant_none ⟨.non,H,I,rfl,h⟩
theorem Bf {x j pos}:PE X (.Constant (.str x) j pos) (tC (.str x)):=λ_ _ _ H _ I h=>Calls.Constant_str ⟨.str x,H,I.tok _,⟨_,rfl⟩,h⟩
def Gl (X:Cx) (x:Str):Prop:=X.env.kindOf x=some .globalImplicit
theorem Mg {E:YA} {pins:YC} {s:Shared} {σ : St} {H:Hp} {x:Str} {u:Value} {pos:Pos} {Q:YA} (I:Inv X pins σ H s) (hg:Gl X x) (hm:X.mg x=some u) (h:Q u s)
  (hd:(x == ("__debug__":Str))=false:=by decide):wpAny (model X.prog X.w) X.A (eval (.Name x pos) X.env) Q E s:=
 Calls.Name_function_global I.ok.kind hg (Calls.loadGlobal_global (by rw[I.ok.glob];exact I.mod.glob.keeps I.bk) hm h) hd
theorem Ii {E:YA} {pins:YC} {s:Shared} {σ : St} {H:Hp} {x:Str} {u:Value} {pos:Pos} {Q:YA} (I:Inv X pins σ H s) (hg:Gl X x) (hm:X.mg x=none) (hv:bootBuiltins x=some u) (h:Q u s)
  (hn:x≠"__name__":=by decide) (hd:(x == ("__debug__":Str))=false:=by decide):wpAny (model X.prog X.w) X.A (eval (.Name x pos) X.env) Q E s:=by
 obtain⟨mb,h1,h2⟩:=I.mod.blt
 exact Calls.Name_function_global I.ok.kind hg (Calls.loadGlobal_builtin (by rw[I.ok.glob];exact I.mod.glob.keeps I.bk) hm (by rw[I.ok.blt];exact h1.keeps I.bk) ((h2 x hn).trans hv) h) hd
theorem Ea {x:Str} {v:V} {u:Value} {pos:Pos} (hg:Gl X x) (hm:X.mg x=some u) (r:RelV v u) (hd:(x == ("__debug__":Str))=false:=by decide):PE X (.Name x pos) (tC v):=
 λ_ _ _ H _ I h=>Mg I hg hm ⟨v,H,I,r,h⟩ hd
theorem Mf {x:Str} {v:V} {u:Value} {pos:Pos} (hg:Gl X x) (hm:X.mg x=none) (hv:bootBuiltins x=some u) (r:RelV v u) (hn:x≠"__name__":=by decide) (hd:(x == ("__debug__":Str))=false:=by decide):PE X (.Name x pos) (tC v):=
 λ_ _ _ H _ I h=>Ii I hg hm hv ⟨v,H,I,r,h⟩ hn hd
variable {a b:Expr} {ta tb:TE} {pos:Pos}
def PC (X:Cx) (op:CmpOp) (a b:Expr) (t:TE):Prop:=
 ∀(pins:YC) (s:Shared) (σ : St) (H:Hp) (Q:VK),Inv X pins σ H s->t σ H Q ->
  wpAny (model X.prog X.w) X.A (eval a X.env) (λv s₁=>wpAny (model X.prog X.w) X.A (eval b X.env) (λu s₂=>wpAny (model X.prog X.w) X.A (compareOp op v u) (EP X pins σ Q) X.xe s₂) X.xe s₁) X.xe s
theorem Zt (b:Expr) {op:CmpOp} (h:op≠.In) (h2:op≠.NotIn):behindInMarks op b=false:=by
 have e1:(op == CmpOp.In)=false:=by cases op <;> first | rfl | exact absurd rfl h
 have e2:(op == CmpOp.NotIn)=false:=by cases op <;> first | rfl | exact absurd rfl h2
 cases b <;> simp[behindInMarks,e1,e2]
def tB (t:TE):TT:=fun σ H Q=>t σ H λx H1=>∃c,x=.bl c/\Q c H1
theorem kZ {op:CmpOp} {t:TE} (h:PC X op a b t) (h1:behindInMarks op b=false:=by first | exact Zt _ (by decide) (by decide) | rfl):PE X (.Compare a [op] [b] pos) t:=λpins s σ H Q I hw=>wpAny_Compare1 (h pins s σ H Q I hw) h1
theorem Ox {op:CmpOp} {t:TE} (h:PC X op a b t) (h1:behindInMarks op b=false:=by first | exact Zt _ (by decide) (by decide) | rfl):PT X (.Compare a [op] [b] pos) (tB t):=by
 intro pins s σ H Q I hw
 refine wpAny_isTrue_Compare1 (thn (h pins s σ H _ I hw) λv s1 h1=>thn h1 λu s2 h2=>thn h2 λc s3 zz=>?_) h1
 obtain⟨x,H1,I1,r1,q1⟩:=zz
 obtain⟨d,rfl,q⟩:=q1
 cases r1
 exact Qbm ⟨H1,I1,q⟩
theorem DR {e:Expr} {t:TE} (h:PE X e t) (he:∀whole,isTrue e X.env whole=(do let v <-whole;standAt e.pos;holding [v] (truthy v)):=by intro _;rfl):PT X e (tB t):=by
 intro pins s σ H Q I hw
 refine isTrue_plain (thn (h pins s σ H _ I hw) λv s1 zz=>?_) (he _)
 obtain⟨x,H1,I1,r1,q1⟩:=zz
 obtain⟨d,rfl,q⟩:=q1
 cases r1
 exact Qbm ⟨H1,I1,q⟩
variable {tA tB':TT} {rest:YJ}
def tOr (t u:TT):TT:=fun σ H Q=>t σ H λc H1=>if c=true then Q true H1 else u σ H1 Q
def DZ (t:TT):TT:=fun σ H Q=>t σ H λc H1=>Q (!c) H1
theorem Mw (ha:PT X a tA):PW X (.BoolOp .Or [a] pos) tA:=by
 intro wh pins s σ H Q I h
 refine isTrue_or (thn (ha pins s σ H Q I h) λc s1 e=>?_)
 cases c with
 | false=>exact isTrue_or_nil e
 | true=>exact e
theorem NK (ha:PT X a tA) (hb:PW X (.BoolOp .Or (b::rest) pos) tB'):PW X (.BoolOp .Or (a::b::rest) pos) (tOr tA tB'):=by
 intro wh pins s σ H Q I h
 refine isTrue_or (thn (ha pins s σ H _ I h) λc s1 zz=>?_)
 obtain⟨H1,I1,q1⟩:=zz
 cases c with
 | true=>exact⟨H1,I1,q1⟩
 | false=>exact hb wh pins s1 σ H1 Q I1 q1
theorem Et (ha:PT X a tA):PT X (.UnaryOp .Not a pos) (DZ tA):=by
 intro pins s σ H Q I h
 exact isTrue_not (ha pins s σ H (λc H1=>Q (!c) H1) I h)
def B5 (ta tb:TE):TE:=fun σ H Q=>ta σ H λx H1=>∃c,x=.bl c/\if c=true then tb σ H1 Q else Q (.bl false) H1
def DU (ta tb:TE):TE:=fun σ H Q=>ta σ H λx H1=>∃c,x=.bl c/\if c=true then Q (.bl true) H1 else tb σ H1 Q
def B1 (ta:TE):TE:=fun σ H Q=>ta σ H λx H1=>∃c,x=.bl c/\Q (.bl (!c)) H1
theorem Dj {op} {t:TE} (h:PE X a t):PE X (.BoolOp op [a] pos) t:=λpins s σ H Q I hw=>BoolOp_one (h pins s σ H Q I hw)
theorem Dv (ha:PE X a ta) (hb:PE X (.BoolOp .And (b::rest) pos) tb):PE X (.BoolOp .And (a::b::rest) pos) (B5 ta tb):=by
 intro pins s σ H Q I h
 refine BoolOp_and (thn (ha pins s σ H _ I h) λv s1 zz=>?_)
 obtain⟨x,H1,I1,r1,q1⟩:=zz
 obtain⟨c,rfl,q1⟩:=q1
 cases r1
 refine Qbm ?_
 cases c with
 | true=>exact hb pins s1 σ H1 Q I1 q1
 | false=>exact⟨.bl false,H1,I1,rfl,q1⟩
theorem gB (ha:PE X a ta) (hb:PE X (.BoolOp .Or (b::rest) pos) tb):PE X (.BoolOp .Or (a::b::rest) pos) (DU ta tb):=by
 intro pins s σ H Q I h
 refine BoolOp_or (thn (ha pins s σ H _ I h) λv s1 zz=>?_)
 obtain⟨x,H1,I1,r1,q1⟩:=zz
 obtain⟨c,rfl,q1⟩:=q1
 cases r1
 refine Qbm ?_
 cases c with
 | false=>exact hb pins s1 σ H1 Q I1 q1
 | true=>exact⟨.bl true,H1,I1,rfl,q1⟩
theorem zR (ha:PE X a ta):PE X (.UnaryOp .Not a pos) (B1 ta):=by
 intro pins s σ H Q I h
 refine UnaryOp_ (thn (ha pins s σ H _ I h) λv s1 zz=>?_)
 obtain⟨x,H1,I1,r1,q1⟩:=zz
 obtain⟨c,rfl,q1⟩:=q1
 cases r1
 exact not_of (Qbm ⟨.bl (!c),H1,I1,rfl,q1⟩)
end
def SqL (K:YD) (H:Hp) (a:Addr) (xs:YG):Prop:=
 Rd H a (.lst xs) \/
  ∃(o:Obj) (its:Array Value) (n:Nat),K.lookup a=some o/\o.cls=.type "list"/\o.dict=none/\o.data=.seq its n/\its.size<=sizeLine/\Vals xs its.toList
def SqT (K:YD) (H:Hp) (a:Addr) (xs:YG):Prop:=
 Rd H a (.tup xs) \/
  ∃(o:Obj) (its:Array Value) (n:Nat),K.lookup a=some o/\o.cls=.type "tuple"/\o.data=.seq its n/\its.size<=sizeLine/\Vals xs its.toList
def NL:Value->Option V
 | .none=>some .non
 | .bool b=>some (.bl b)
 | .int i _=>some (.int i)
 | .str x _=>some (.str x)
 | .bytes b _=>some (.byt b)
 | .float b _=>some (.flt b)
 | .ref a=>some (.ref a)
 | .type n=>some (.ty n)
 | _=>none
theorem RelV.abs {x:V} {u:Value} (r:RelV x u):NL u=some x:=by
 cases x with
 | non=>cases r;rfl
 | bl _=>cases r;rfl
 | int _=>obtain⟨t,rfl⟩:=r;rfl
 | str _=>obtain⟨t,rfl⟩:=r;rfl
 | byt _=>obtain⟨t,rfl⟩:=r;rfl
 | flt _=>obtain⟨t,rfl⟩:=r;rfl
 | ref _=>cases r;rfl
 | ty _=>cases r;rfl
theorem RelV.inj {x y:V} {u:Value} (r:RelV x u) (q:RelV y u):x=y:=QbH (r.abs.symm.trans q.abs)
theorem Vals.inj:∀{xs ys:YG} {us:YE},Vals xs us->Vals ys us->xs=ys
 | _,_,_,.nil,.nil=>rfl
 | _,_,_,.cons r t,.cons r' t'=>by rw[r.inj r',Vals.inj t t']
section
variable {X:Cx} {pins:YC} {σ : St} {H:Hp} {s:Shared} {a:Addr} {xs ys:YG}
theorem SqL.of {K:YD} (h:H a=some (.lst xs)):SqL K H a xs:=.inl (.inl h)
theorem SqT.of {K:YD} (h:H a=some (.tup xs)):SqT K H a xs:=.inl (.inl h)
theorem Inv.list (I:Inv X pins σ H s) (h:SqL X.K H a xs):∃its:YE,Vals xs its/\PlainL s.heap a its.toArray/\xs.length<=sizeLine:=by
 rcases h with h |⟨o,its,n,hk,hc,hd,hs,hz,r⟩
 ·obtain⟨z,its,n,r,e⟩:=h.ok I.hok
  exact⟨its,r,⟨_,n,e,rfl,rfl,rfl⟩,z⟩
 ·refine⟨its.toList,r,⟨o,n,I.kIn a o hk,hc,hd,by simpa using hs⟩,?_⟩
  have e:=r.length
  simp only[QaK] at e
  omega
theorem Inv.tuple (I:Inv X pins σ H s) (h:SqT X.K H a xs):∃its:YE,Vals xs its/\IsTup s.heap a its.toArray/\xs.length<=sizeLine:=by
 rcases h with h |⟨o,its,n,hk,hc,hs,hz,r⟩
 ·obtain⟨z,its,r,p⟩:=h.ok I.hok
  exact⟨its,r,p,z⟩
 ·refine⟨its.toList,r,⟨o,I.kIn a o hk,hc,n,by simpa using hs⟩,?_⟩
  have e:=r.length
  simp only[QaK] at e
  omega
theorem Inv.Zw (I:Inv X pins σ H s) (h:SqL X.K H a xs) (h':SqL X.K H a ys):xs=ys:=by
 obtain⟨its,r,⟨o,n,e,_,_,d⟩,_⟩:=I.list h
 obtain⟨its',r',⟨o',n',e',_,_,d'⟩,_⟩:=I.list h'
 rw[e] at e';cases e'
 rw[d] at d'
 injection d' with d1 _
 have:its=its':=by simpa using congrArg Array.toList d1
 subst this
 exact r.inj r'
theorem Inv.Wh (I:Inv X pins σ H s) (h:SqT X.K H a xs) (h':SqT X.K H a ys):xs=ys:=by
 obtain⟨its,r,⟨o,e,_,n,d⟩,_⟩:=I.tuple h
 obtain⟨its',r',⟨o',e',_,n',d'⟩,_⟩:=I.tuple h'
 rw[e] at e';cases e'
 rw[d] at d'
 injection d' with d1 _
 have:its=its':=by simpa using congrArg Array.toList d1
 subst this
 exact r.inj r'
end
abbrev Cx.wish (X:Cx) (E:YA):Cx:={ X with xe:=E }
abbrev Cx.nox (X:Cx):Cx:=X.wish λ_ _=>False
theorem Cx.Ok.wish {X:Cx} (ok:X.Ok) (E:YA):(X.wish E).Ok:=
 ⟨ok.mod,ok.kind,ok.glob,ok.blt,ok.above,ok.inj,ok.has,ok.cab,ok.hd,ok.frames,ok.stk,ok.exf,ok.bs,ok.bsz,ok.Nf,ok.JZ,ok.Gh,ok.frf⟩
theorem Cx.Ok.Ks {X:Cx} {E:YA} (ok:(X.wish E).Ok):X.Ok:=
 ⟨ok.mod,ok.kind,ok.glob,ok.blt,ok.above,ok.inj,ok.has,ok.cab,ok.hd,ok.frames,ok.stk,ok.exf,ok.bs,ok.bsz,ok.Nf,ok.JZ,ok.Gh,ok.frf⟩
section
variable {X:Cx} {pins:YC} {σ : St} {H:Hp} {s:Shared} {E:YA}
theorem Inv.wish (I:Inv X pins σ H s) (E:YA):Inv (X.wish E) pins σ H s:=⟨I.ok.wish E,I.os,I.bare,I.base,I.loc,I.cell,I.free,I.El,I.pin,I.hok,I.len⟩
theorem Inv.Ks (I:Inv (X.wish E) pins σ H s):Inv X pins σ H s:=⟨I.ok.Ks,I.os,I.bare,I.base,I.loc,I.cell,I.free,I.El,I.pin,I.hok,I.len⟩
theorem SP.Ks {D:Ends} {f:Flow} {s':Shared} (h:SP (X.wish E) pins D f s'):SP X pins D f s':=by
 cases f with
 | next=>obtain⟨σ',H',I,q⟩:=h;exact⟨σ',H',I.Ks,q⟩
 | brk=>obtain⟨σ',H',I,q⟩:=h;exact⟨σ',H',I.Ks,q⟩
 | cont=>obtain⟨σ',H',I,q⟩:=h;exact⟨σ',H',I.Ks,q⟩
 | ret u=>obtain⟨v,σ',H',I,r,q⟩:=h;exact⟨v,σ',H',I.Ks,r,q⟩
theorem PSs.nox {st:List Stmt} {t:TS} (h:PSs X.nox st t):PSs X st t:=λpins s σ H D I hw=>
 Qcx (h pins s σ H D (I.wish _) hw) (λ_ _ q=>q.Ks) λ_ _ z=>False.elim z
end
section
variable {X:Cx} {st:Stmt} {rest:List Stmt} {t u:TS} {e:Expr} {te:TE} {pos:Pos}
def B2:TS:=λD σ H=>D.nx σ H
def Am (t u:TS):TS:=λD σ H=>t { D with nx:=u D } σ H
theorem BJ:PSs X [] B2:=λ_ _ σ H _ I h=>wpAny_execs_nil ⟨σ,H,I,h⟩
theorem Af (h1:PS X st t) (h2:PSs X rest u):PSs X (st::rest) (Am t u):=by
 intro pins s σ H D I h
 refine wpAny_execs_cons (thn (h1 pins s σ H { D with nx:=u D } I h) λf s1 q=>?_)
 cases f with
 | next=>
  obtain⟨σ',H',I',q⟩:=q
  exact h2 pins s1 σ' H' D I' q
 | ret v=>exact q
 | brk=>exact q
 | cont=>exact q
theorem Ah (h1:PS X st t):PSs X [st] t:=by
 intro pins s σ H D I h
 refine wpAny_execs_cons (thn (h1 pins s σ H D I h) λf s1 q=>?_)
 cases f with
 | next=>exact wpAny_execs_nil q
 | ret v=>exact q
 | brk=>exact q
 | cont=>exact q
def zm:TS:=λD σ H=>D.bk σ H
theorem Mz:PS X (.Break pos) zm:=λ_ _ σ H _ I h=>wpAny_Break ⟨σ,H,I,h⟩
theorem Inv.quiet {pins:YC} {σ : St} {H:Hp} {s:Shared} (I:Inv X pins σ H s):interactive X.env=false:=by simp[interactive,I.ok.kind]
def B3 (te:TE):TS:=λD σ H=>te σ H λ_ H1=>D.nx σ H1
theorem Bj (he:PE X e te) (hs:swapsWith e none pos.line X.env=pure false:=by rfl):PS X (.Expr e pos) (B3 te):=by
 intro pins s σ H D I h
 refine wpAny_Expr_any (thn (he pins s σ H _ I h) λv s1 zz=>?_) I.quiet hs
 obtain⟨x,H1,I1,r1,q1⟩:=zz
 exact⟨σ,H1,I1,q1⟩
def DT (te:TE):TS:=λD σ H=>te σ H D.rt
theorem Bb (he:PE X e te):PS X (.Return (some e) pos) (DT te):=by
 intro pins s σ H D I h
 refine wpAny_Return_some (thn (he pins s σ H _ I h) λv s1 zz=>?_)
 obtain⟨x,H1,I1,r1,q1⟩:=zz
 exact⟨x,σ,H1,I1,r1,q1⟩
def Gp (c:TT) (t u:TS):TS:=λD σ H=>c σ H λb H1=>if b=true then t D σ H1 else u D σ H1
theorem Ce {c:Expr} {a b:List Stmt} {tc:TT} (hc:PT X c tc) (ha:PSs X a t) (hb:PSs X b u):PS X (.If c a b pos) (Gp tc t u):=by
 intro pins s σ H D I h
 refine wpAny_If (thn (hc pins s σ H _ I h) λd s1 zz=>?_)
 obtain⟨H1,I1,q1⟩:=zz
 cases d with
 | true=>exact ha pins s1 σ H1 D I1 q1
 | false=>exact hb pins s1 σ H1 D I1 q1
def yV:TS:=λ_ _ _=>False
theorem pY:PS X st yV:=λ_ _ _ _ _ _ h=>h.elim
end
abbrev TG:=V->St->Hp->(YO)->Prop
abbrev TGs:=YG->St->Hp->(YO)->Prop
def PG (X:Cx) (target:Expr) (t:TG):Prop:=
 ∀(pins:YC) (s:Shared) (σ : St) (H:Hp) (v:V) (u:Value) (Q:YO),Inv X pins σ H s->RelV v u->t v σ H Q ->
  wpAny (model X.prog X.w) X.A (assign target X.env u) (λ_ s'=>∃ σ' H',Inv X pins σ' H' s'/\Q σ' H') X.xe s
def PGs (X:Cx) (ts:YJ) (t:TGs):Prop:=
 ∀(pins:YC) (s:Shared) (σ : St) (H:Hp) (vs:YG) (us:YE) (Q:YO),Inv X pins σ H s->Vals vs us->t vs σ H Q ->
  wpAny (model X.prog X.w) X.A (assignInOrder ((assignEach ts X.env).map (·.2)) us) (λ_ s'=>∃ σ' H',Inv X pins σ' H' s'/\Q σ' H') X.xe s
abbrev uK:=V->V->V->Hp->(Hp->Prop)->Prop
def BN (X:Cx) (t:uK):Prop:=
 ∀(pins:YC) (s:Shared) (σ : St) (H:Hp) (o i v:V) (ov iv u:Value) (Q:Hp->Prop),Inv X pins σ H s->RelV o ov->RelV i iv->RelV v u->t o i v H Q ->
  wpAny (model X.prog X.w) X.A (setItem ov iv u) (λ_ s'=>∃H',Inv X pins σ H' s'/\Q H') X.xe s
abbrev TIp:=V->V->Hp->VK->Prop
def PIp (X:Cx) (op:Operator) (t:TIp):Prop:=
 ∀(pins:YC) (s:Shared) (σ : St) (H:Hp) (x y:V) (v u:Value) (Q:VK),Inv X pins σ H s->RelV x v->RelV y u->t x y H Q ->
  wpAny (model X.prog X.w) X.A (inplaceOp op v u) (EP X pins σ Q) X.xe s
section
variable {X:Cx} {pos:Pos}
def Hr (i:Nat):TG:=λv σ H Q=>Q (σ.set i (some v)) H
theorem Ak {i:Nat} {x:Str} (hN:X.N.Nodup) (hi:X.N[i]?=some x) (hx:Loc X.env.scope x) (hf:X.fn x=true\/X.env.scope.names.lookup x=some .local:=by first | exact .inl rfl | exact .inr rfl | assumption):PG X (.Name x pos) (Hr i):=by
 intro pins s σ H v u Q I r h
 exact wpAny_assign_Name (JK I hN hi hx r (λs' I'=>⟨_,H,I',h⟩) hf)
def KS:TGs:=λvs σ H Q=>vs=[]/\Q σ H
def Db (t:TG) (u:TGs):TGs:=λvs σ H Q=>∃v r,vs=v::r/\t v σ H fun σ' H'=>u r σ' H' Q
theorem Bv:PGs X [] KS:=by
 intro pins s σ H vs us Q I r h
 obtain⟨e,h⟩:=h
 subst e
 cases r
 exact assignInOrder_nil ⟨σ,H,I,h⟩
theorem Aq {e:Expr} {es:YJ} {t:TG} {u:TGs} (h1:PG X e t) (h2:PGs X es u)
  (hs:(assignEach (e::es) X.env).map (·.2)=assign e X.env::(assignEach es X.env).map (·.2):=by rfl):PGs X (e::es) (Db t u):=by
 intro pins s σ H vs us Q I r h
 obtain⟨v,vr,e1,h⟩:=h
 subst e1
 cases r with
 | cons r rr=>
  rw[hs]
  refine assignInOrder_cons (thn (h1 pins s σ H _ _ _ I r h) λ_ s1 zz=>?_)
  obtain⟨σ1,H1,I1,q1⟩:=zz
  exact h2 pins s1 σ1 H1 _ _ Q I1 rr q1
def A6 (K:YD) (n:Nat) (t:TGs):TG:=λv σ H Q=>∃a xs,v=.ref a/\SqT K H a xs/\xs.length=n/\t xs σ H Q
theorem CP {es:YJ} {k:Nat} {t:TGs} {n:Nat} (hc:X.calm=true) (h:PGs X es t)
  (hn:(assignEach es X.env).length=n:=by rfl) (hst:(assignEach es X.env).findIdx? (·.1)=none:=by rfl):PG X (.Tuple es k pos) (A6 X.K n t):=by
 intro pins s σ H v u Q I r hw
 obtain⟨a,xs,e1,hq,hl,hw⟩:=hw
 subst e1
 cases r
 obtain⟨its,rv,ht,hz⟩:=I.tuple hq
 refine assign_Tuple_tuple (I.ok.hd hc) ht (by simp[hn,<-hl,rv.length]) hst λh' hx=>?_
 have I1:Inv X pins σ H { s with heap:=h' }:=I.kept (t':=s.toks) λb o e=>hx b o (Qcj (Qch e)) e
 exact h pins _ σ H xs _ Q I1 (by simpa using rv) hw
def KP (to ti:TE) (t:uK):TG:=λv σ H Q=>to σ H λo H1=>ti σ H1 λi H2=>t o i v H2 λH3=>Q σ H3
theorem Y8 {o i:Expr} {to ti:TE} {t:uK} (ho:PE X o to) (hi:PE X i ti) (hs:BN X t)
  (ha:∀v,assign (.Subscript o i pos) X.env v=(do
   let ov <-holding [v] (eval o X.env)
   let iv <-holding [v,ov] (eval i X.env)
   standAt pos
   holding [v,ov,iv] (setItem ov iv v)
   release [v,ov,iv] []):=by intro _;rfl):PG X (.Subscript o i pos) (KP to ti t):=by
 intro pins s σ H v u Q I r h
 rw[ha]
 refine Qcv (Qcc (thn (ho pins s σ H _ I h) λov s1 zz=>?_))
 obtain⟨x,H1,I1,r1,q1⟩:=zz
 refine Qcv (Qcc (thn (hi pins s1 σ H1 _ I1 q1) λiv s2 zz=>?_))
 obtain⟨y,H2,I2,r2,q2⟩:=zz
 refine Qcv (Qce (Qcv (Qcc (thn (hs pins s2 σ H2 x y v ov iv u _ I2 r1 r2 r q2) λ_ s3 zz=>?_))))
 obtain⟨H3,I3,q3⟩:=zz
 exact wpAny_release ⟨σ,H3,I3,q3⟩
def fO (te:TE) (g:TG):TS:=λD σ H=>te σ H λx H1=>g x σ H1 D.nx
theorem Hy {tg e:Expr} {te:TE} {g:TG} (he:PE X e te) (hg:PG X tg g) (hs:swapsWithSole [tg] e pos.line X.env=pure false:=by rfl) (hw:swappedStores [tg] e X.env=pure none:=by rfl)
  (h1:(assignEach [tg] X.env).map (·.2)=[assign tg X.env]:=by rfl):PS X (.Assign [tg] e pos) (fO te g):=by
 intro pins s σ H D I h
 refine wpAny_Assign_stores (thn (he pins s σ H _ I h) λv s1 zz=>?_) hs hw
 obtain⟨x,H1,I1,r1,q1⟩:=zz
 rw[h1]
 exact thn (hg pins s1 σ H1 x v _ I1 r1 q1) λ_ s2 q=>q
theorem Ba {i:Nat} {x:Str} {e:Expr} {te:TE} {pos':Pos} (hN:X.N.Nodup) (hi:X.N[i]?=some x) (hx:Loc X.env.scope x) (he:PE X e te) (hs:swapsWith e (some (.Name x pos')) pos.line X.env=pure false:=by rfl) (hf:X.fn x=true\/X.env.scope.names.lookup x=some .local:=by first | exact .inl rfl | exact .inr rfl | assumption) :
  PS X (.Assign [.Name x pos'] e pos) (fO te (Hr i)):=by
 intro pins s σ H D I h
 refine wpAny_Assign_Name (thn (he pins s σ H _ I h) λv s1 zz=>?_) hs
 obtain⟨y,H1,I1,r1,q1⟩:=zz
 exact JK I1 hN hi hx r1 (λs2 I2=>⟨_,H1,I2,q1⟩) hf
def D5 (i:Nat) (te:TE) (ti:TIp):TS:=λD σ H=>∃x,σ[i]?=some (some x)/\te σ H λy H1=>ti x y H1 λz H2=>D.nx (σ.set i (some z)) H2
theorem kj {i:Nat} {x:Str} {e:Expr} {te:TE} {op:Operator} {ti:TIp} {pos':Pos} (hN:X.N.Nodup) (hi:X.N[i]?=some x) (hx:Loc X.env.scope x) (he:PE X e te) (ho:PIp X op ti) (hf:X.fn x=true\/X.env.scope.names.lookup x=some .local:=by first | exact .inl rfl | exact .inr rfl | assumption) :
  PS X (.AugAssign (.Name x pos') op e pos) (D5 i te ti):=by
 intro pins s σ H D I h
 obtain⟨v,e1,h⟩:=h
 obtain⟨m,hn,hl⟩:=I.loc
 have vis:Vis X.env.scope x:=by rcases hx with k | k;exact .inl k;exact .inr (.inl k)
 obtain⟨u,r,l⟩:=hl i x v hi e1 vis
 refine wpAny_AugAssign_Name ?_
 have go:wpAny (model X.prog X.w) X.A (eval e X.env) (λw s₂=>wpAny (model X.prog X.w) X.A (inplaceOp op u w) (λr s₃=>wpAny (model X.prog X.w) X.A (storeName X.env x r) (λ_=>SP X pins D .next) X.xe s₃) X.xe s₂) X.xe s:=by
  refine thn (he pins s σ H _ I h) λw s1 zz=>?_
  obtain⟨y,H1,I1,r1,q1⟩:=zz
  refine thn (ho pins s1 σ H1 v y u w _ I1 r r1 q1) λz s2 zz=>?_
  obtain⟨zv,H2,I2,r2,q2⟩:=zz
  exact JK I2 hN hi hx r2 (λs3 I3=>⟨_,H2,I3,q2⟩) hf
 rcases l with⟨hk,hm⟩|⟨hk,c,hc,hcell⟩
 ·exact wpAny_loadName_local I.ok.kind hk hn hm go
 ·rcases hk with hk | hk
  ·exact wpAny_loadName_cell I.ok.kind hk hc hcell go
  ·rcases hx with k | k
   ·have:X.env.scope.names.lookup x=some .free:=hk
    rw[k] at this;cases this
   ·have:X.env.scope.names.lookup x=some .free:=hk
    rw[k] at this;cases this
def ipI (f:Int->Int->Int):TIp:=λx y H Q=>∃i j,x=.int i/\y=.int j/\Q (.int (f i j)) H
theorem mq:PIp X .Add (ipI λi j=>i+j):=by
 intro pins s σ H x y v u Q I r1 r2 h
 obtain⟨i,j,e1,e2,q⟩:=h
 subst e1;subst e2
 obtain⟨t,rfl⟩:=r1
 obtain⟨t',rfl⟩:=r2
 exact iadd_int ⟨.int _,H,I.tok _,⟨_,rfl⟩,q⟩
end
section
variable {X:Cx} {pos:Pos}
abbrev YN:=Nat->YO
def X4 (c:TT) (tb:TS):TS:=λD σ H=>∃W:YN,(∃m,W m σ H)/\∀m σ H,W m σ H ->
 c σ H λb H1=>if b=true then ∃N:YO,(∀ σ' H',N σ' H'->∃m',m' < m/\W m' σ' H')/\tb { D with nx:=N,ct:=N,bk:=D.nx } σ H1 else D.nx σ H1
theorem Y4 {c:Expr} {body:List Stmt} {tc:TT} {tb:TS} (hp:PassesOwn (model X.prog X.w) X.A X.env X.xe) (hc:PT X c tc) (hb:PSs X body tb):PS X (.While c body [] pos) (X4 tc tb):=by
 intro pins s σ H D I h
 obtain⟨W,⟨m0,w0⟩,turn⟩:=h
 refine wpAny_While (codeAny_whileLoop (λn s'=>∃ σ' H',Inv X pins σ' H' s'/\W n σ' H') ?_ m0 ⟨σ,H,I,w0⟩)
 rintro n s1 ⟨σ1,H1,I1,w1⟩
 refine QbN hp (thn (hc pins s1 σ1 H1 _ I1 (turn n σ1 H1 w1)) λb s2 zz=>?_)
 obtain⟨H2,I2,q2⟩:=zz
 cases b with
 | true=>
  obtain⟨N,hN,q2⟩:=q2
  rw[if_pos rfl]
  refine QbN hp (thn (hb pins s2 σ1 H2 _ I2 q2) λf s3 q3=>?_)
  cases f with
  | next=>
   obtain⟨σ3,H3,I3,n3⟩:=q3
   obtain⟨m',hm,w3⟩:=hN σ3 H3 n3
   exact⟨m',hm,σ3,H3,I3,w3⟩
  | cont=>
   obtain⟨σ3,H3,I3,n3⟩:=q3
   obtain⟨m',hm,w3⟩:=hN σ3 H3 n3
   exact⟨m',hm,σ3,H3,I3,w3⟩
  | brk=>exact q3
  | ret v=>exact q3
 | false=>
  rw[if_neg QaS]
  exact wpAny_execs_nil ⟨σ1,H2,I2,q2⟩
end
structure It where
 go:Nat->Hp->Prop
 yld:Nat->Hp->V->Hp->Prop
 stop:Nat->Hp->Prop
def Gi (X:Cx) (pins:YC) (H:Hp) (b:Addr):Prop:=
 H b=none/\b≠X.env.locals/\b∉X.fs/\(b∈X.ex\/X.s₀.heap.objs.size<=b)/\(∀x c,X.env.cells.lookup x=some c->c≠b)/\∀p∈X.pn++pins,p.1≠b
theorem Inv.Qd {X:Cx} {pins:YC} {σ : St} {H H':Hp} {s:Shared} {b:Addr} (I:Inv X pins σ H s) (hb:s.heap.objs.size<=b) (hn:H' b=none):Gi X pins H' b:=by
 refine⟨hn,Qcm (QaW I.lt hb),I.qK hb,.inr (Qck I.sz hb),λx c e z=>?_,λp hp z=>?_⟩
 ·obtain⟨v,q⟩:=I.cell x c e
  exact absurd (QaW q.lt (by rw[z];exact hb)) (Qcb _)
 ·exact absurd (QaW (Qch (I.pin p hp).1) (by rw[z];exact hb)) (Qcb _)
structure Turn (P:Program) (w:World) (K:YD) (tg:Expr) (J:It) (fp:List Addr) (it:Addr) (tn:Nat->Heap->Prop):Prop where
 mem:it∈fp
 obj:∀i h,tn i h->∀b∈fp,∃o,h.get? b=some o/\∀v,o.data≠.cell v
 keep:∀i h h',tn i h->(∀b∈fp,∀o,h.get? b=some o->h'.get? b=some o)->tn i h'
 item:∀(X:Cx),X.prog=P->X.w=w->X.K=K->X.calm=true->∀(i:Nat) (pins:YC) (s:Shared) (σ : St) (H:Hp) (E:YA),Inv X pins σ H s->(∀b∈fp,Gi X pins H b)->tn i s.heap->J.go i H ->
  wpAny (model P w) X.A (pyNext (.ref it)) (λr s1=>∃u,r=some u /\
   wpAny (model P w) X.A (letOwnedTupleGo tg (.ref it) u) (λ_ s2=>∃x H',Inv X pins σ H' s2/\RelV x u/\J.yld i H x H'/\tn (i+1) s2.heap/\∀b∈fp,H' b=none) E s1) E s
 done:∀(X:Cx),X.prog=P->X.w=w->X.K=K->X.calm=true->∀(i:Nat) (pins:YC) (s:Shared) (σ : St) (H:Hp) (E:YA),Inv X pins σ H s->(∀b∈fp,Gi X pins H b)->tn i s.heap->J.stop i H ->
  wpAny (model P w) X.A (pyNext (.ref it)) (λr s1=>r=none/\Inv X pins σ H s1) E s
 self:∀(A:Around) (i:Nat) (s:Shared) (Q:YA) (E:YA),tn i s.heap->Q (.ref it) s->wpAny (model P w) A (pyIter (.ref it)) Q E s
abbrev TI:=St->Hp->(It->Hp->Prop)->Prop
def PIE (X:Cx) (pins:YC) (σ : St) (tg:Expr) (R:It->Hp->Prop) (itv:Value) (s2:Shared):Prop:=
 ∃(it:Addr) (fp:List Addr) (tn:Nat->Heap->Prop) (J:It) (H':Hp),itv=.ref it/\Inv X pins σ H' s2/\Turn X.prog X.w X.K tg J fp it tn/\tn 0 s2.heap/\(∀b∈fp,Gi X pins H' b)/\R J H'
def PI (X:Cx) (tg iter:Expr) (wi:TI):Prop:=
 ∀(pins:YC) (s:Shared) (σ : St) (H:Hp) (R:It->Hp->Prop),Inv X pins σ H s->wi σ H R ->
  wpAny (model X.prog X.w) X.A (eval iter X.env) (λv s1=>wpAny (model X.prog X.w) X.A (pyIter v) (PIE X pins σ tg R) X.xe s1) X.xe s
theorem U7 {M:Model} {A:Around} {E:YA} {s:Shared} {tg:Expr} {it:Addr} {u:Value} {o:Obj} {n:String} {vs:Array Value} {Q:YH} (ho:s.heap.get? it=some o) (hc:o.cls=.type n) (hd:o.data=.fields vs)
    (hn:["enumerate","zip","dict_itemiterator","dict_reverseitemiterator","odict_iterator","itertools.zip_longest","itertools.pairwise"].contains n=false) (hQ:Q () s):wpAny M A (letOwnedTupleGo tg (.ref it) u) Q E s:=by
  unfold letOwnedTupleGo
  cases tg <;> first
    | exact Qcw hQ
    | (cases u <;> first
        | exact Qcw hQ
        | (refine Qcv (wpAny_load ho ?_)
           rw[hc,hd]
           show wpAny M A (if (["enumerate","zip","dict_itemiterator","dict_reverseitemiterator","odict_iterator","itertools.zip_longest","itertools.pairwise"].contains n&&vs[0]? == some (rawInt _))=true then _ else _) Q E s
           rw[if_neg (by intro h;rw[hn,Bool.false_and] at h;cases h)]
           exact Qcw hQ))
def Itl (K:YD) (a:Addr):It:=
 ⟨λi H=>∃xs x,SqL K H a xs/\xs[i]?=some x,λi H x H'=>H'=H/\∀xs,SqL K H a xs->xs[i]?=some x,λi H=>∃xs,SqL K H a xs/\xs.length<=i⟩
def Itt (K:YD) (a:Addr):It:=
 ⟨λi H=>∃xs x,SqT K H a xs/\xs[i]?=some x,λi H x H'=>H'=H/\∀xs,SqT K H a xs->xs[i]?=some x,λi H=>∃xs,SqT K H a xs/\xs.length<=i⟩
def Itr (lo:Int) (n:Nat):It:=⟨λi _=>i < n,λi H x H'=>H'=H/\x=.int (lo+i),λi _=>n<=i⟩
theorem jE {P:Program} {w:World} {K:YD} {tg:Expr} (a it:Addr):Turn P w K tg (Itl K a) [it] it (λi h=>h.IsListIter it a i) where
 mem:=by simp
 obj:=λi h st b hb=>by
  have e:b=it:=by simpa using hb
  subst e
  obtain⟨o,e,c,d⟩:=st
  exact⟨o,e,λv z=>by rw[d] at z;cases z⟩
 keep:=λi h h' st k=>st.at λo e=>k it (by simp) o e
 item:=by
  intro X hP hw hK hc i pins s σ H E I hf st hg
  subst hP hw hK
  obtain⟨xs,x,hq,hx⟩:=hg
  obtain⟨its,rv,p,hz⟩:=I.list hq
  obtain⟨u,hu,ru⟩:=rv.get hx
  obtain⟨f0,f1,f2,f3,f4,f5⟩:=hf it (by simp)
  refine wpAny_pyNext_list_item st p.isList (x:=u) (by simpa using hu) λh' st' sb=>?_
  have I1:Inv X pins σ H { s with heap:=h' }:=I.turned (t':=s.toks) (λb o hb e=>(sb.2 b hb).trans e) f0 f1 f3 f4 f5
  obtain⟨o,e,c,d⟩:=id st'
  exact⟨u,rfl,U7 (s:={ s with heap:=h' }) e c d (by decide) ⟨x,H,I1,ru,⟨rfl,λys hy=>by rw[I.Zw hy hq];exact hx⟩,st',λb hb=>(hf b hb).1⟩⟩
 done:=by
  intro X hP hw hK hc i pins s σ H E I hf st hg
  subst hP hw hK
  obtain⟨xs,hq,hx⟩:=hg
  obtain⟨its,rv,p,hz⟩:=I.list hq
  obtain⟨f0,f1,f2,f3,f4,f5⟩:=hf it (by simp)
  have hl:=rv.length
  exact wpAny_pyNext_list_end (I.ok.hd hc) st p.isList (by simp;omega) λh' eb=>⟨rfl,I.turned (t':=s.toks) (λb o hb e=>eb b o hb e) f0 f1 f3 f4 f5⟩
 self:=λ_ _ _ _ _ st h=>wpAny_pyIter_listiter st h
theorem fC {P:Program} {w:World} {K:YD} {tg:Expr} (a it:Addr):Turn P w K tg (Itt K a) [it] it (λi h=>h.IsTupleIter it a i) where
 mem:=by simp
 obj:=λi h st b hb=>by
  have e:b=it:=by simpa using hb
  subst e
  obtain⟨o,e,c,d⟩:=st
  exact⟨o,e,λv z=>by rw[d] at z;cases z⟩
 keep:=λi h h' st k=>st.at λo e=>k it (by simp) o e
 item:=by
  intro X hP hw hK hc i pins s σ H E I hf st hg
  subst hP hw hK
  obtain⟨xs,x,hq,hx⟩:=hg
  obtain⟨its,rv,p,hz⟩:=I.tuple hq
  obtain⟨u,hu,ru⟩:=rv.get hx
  obtain⟨f0,f1,f2,f3,f4,f5⟩:=hf it (by simp)
  refine wpAny_pyNext_tuple_item st (show s.heap.IsTuple a its.toArray from p) (x:=u) (by simpa using hu) λh' st' sb=>?_
  have I1:Inv X pins σ H { s with heap:=h' }:=I.turned (t':=s.toks) (λb o hb e=>(sb.2 b hb).trans e) f0 f1 f3 f4 f5
  obtain⟨o,e,c,d⟩:=id st'
  exact⟨u,rfl,U7 (s:={ s with heap:=h' }) e c d (by decide) ⟨x,H,I1,ru,⟨rfl,λys hy=>by rw[I.Wh hy hq];exact hx⟩,st',λb hb=>(hf b hb).1⟩⟩
 done:=by
  intro X hP hw hK hc i pins s σ H E I hf st hg
  subst hP hw hK
  obtain⟨xs,hq,hx⟩:=hg
  obtain⟨its,rv,p,hz⟩:=I.tuple hq
  obtain⟨f0,f1,f2,f3,f4,f5⟩:=hf it (by simp)
  have hl:=rv.length
  exact wpAny_pyNext_tuple_end (I.ok.hd hc) st (show s.heap.IsTuple a its.toArray from p) (by simp;omega) λh' eb=>⟨rfl,I.turned (t':=s.toks) (λb o hb e=>eb b o hb e) f0 f1 f3 f4 f5⟩
 self:=λ_ _ _ _ _ st h=>wpAny_pyIter_tupleiter st h
theorem fD {P:Program} {w:World} {K:YD} {tg:Expr} (it:Addr) (lo:Int) (n:Nat):Turn P w K tg (Itr lo n) [it] it (λi h=>IsRangeIter h it (lo+(i:Nat)*1) ((n:Int) - (i:Nat)) 1) where
 mem:=by simp
 obj:=λi h st b hb=>by
  have e:b=it:=by simpa using hb
  subst e
  exact⟨_,st,λv z=>by
   have z':Data.fields _=Data.cell v:=z
   cases z'⟩
 keep:=λi h h' st k=>k it (by simp) _ st
 item:=by
  intro X hP hw hK hc i pins s σ H E I hf st hg
  subst hP hw hK
  obtain⟨f0,f1,f2,f3,f4,f5⟩:=hf it (by simp)
  have W:=Walks.range (prog:=X.prog) (w:=X.w) (I.ok.hd hc) it lo 1 n
  refine W.item i s _ _ hg st λv h' tk hv st' kk=>?_
  obtain⟨t,rfl⟩:=hv
  have I1:Inv X pins σ H { s with heap:=h',toks:=tk }:=I.turned (λb o hb e=>kk b o (by simpa using hb) e) f0 f1 f3 f4 f5
  refine⟨_,rfl,U7 (s:={ s with heap:=h',toks:=tk }) (n:="range_iterator") st' rfl rfl (by decide) ⟨.int (lo+i),H,I1,⟨t,?_⟩,⟨rfl,rfl⟩,st',λb hb=>(hf b hb).1⟩⟩
  rw[Int.mul_one]
 done:=by
  intro X hP hw hK hc i pins s σ H E I hf st hg
  subst hP hw hK
  obtain⟨f0,f1,f2,f3,f4,f5⟩:=hf it (by simp)
  exact wpAny_pyNext_range_end (I.ok.hd hc) st (by have:n<=i:=hg;omega) λh' eb=>⟨rfl,I.turned (t':=s.toks) (λb o hb e=>eb b o hb e) f0 f1 f3 f4 f5⟩
 self:=λ_ _ _ _ _ st h=>wpAny_pyIter_rangeiter st h
section
variable {X:Cx} {tg:Expr}
def CS (K:YD) (tl:TE):TI:=fun σ H R=>tl σ H λx H1=>∃a,x=.ref a/\(∃xs,SqL K H1 a xs)/\R (Itl K a) H1
def He (K:YD) (tl:TE):TI:=fun σ H R=>tl σ H λx H1=>∃a,x=.ref a/\(∃xs,SqT K H1 a xs)/\R (Itt K a) H1
theorem Ep {l:Expr} {tl:TE} (hl:PE X l tl):PI X tg l (CS X.K tl):=by
 intro pins s σ H R I h
 refine thn (hl pins s σ H _ I h) λv s1 zz=>?_
 obtain⟨x,H1,I1,r1,q1⟩:=zz
 obtain⟨a,e,⟨xs,hq⟩,q⟩:=q1
 subst e
 cases r1
 obtain⟨its,rv,p,hz⟩:=I1.list hq
 refine Qbp p.isList ?_
 refine⟨s1.heap.objs.size,[s1.heap.objs.size],_,_,H1,rfl,I1.kept (t':=s1.toks) λb o e=>Qav _ e,jE a _,⟨_,QaI _ rfl,rfl,rfl⟩,λb hb=>?_,q⟩
 have e:b=s1.heap.objs.size:=by simpa using hb
 subst e
 exact I1.Qd (Qcq _) (I1.hok.fresh (Qcq _))
theorem Eu {l:Expr} {tl:TE} (hl:PE X l tl):PI X tg l (He X.K tl):=by
 intro pins s σ H R I h
 refine thn (hl pins s σ H _ I h) λv s1 zz=>?_
 obtain⟨x,H1,I1,r1,q1⟩:=zz
 obtain⟨a,e,⟨xs,hq⟩,q⟩:=q1
 subst e
 cases r1
 obtain⟨its,rv,p,hz⟩:=I1.tuple hq
 refine QaY (show s1.heap.IsTuple a its.toArray from p) ?_
 refine⟨s1.heap.objs.size,[s1.heap.objs.size],_,_,H1,rfl,I1.kept (t':=s1.toks) λb o e=>Qav _ e,fC a _,⟨_,QaI _ rfl,rfl,rfl⟩,λb hb=>?_,q⟩
 have e:b=s1.heap.objs.size:=by simpa using hb
 subst e
 exact I1.Qd (Qcq _) (I1.hok.fresh (Qcq _))
theorem YZ {pins:YC} {σ : St} {H:Hp} {s:Shared} {R:It->Hp->Prop} {E:YA} {lo hi:Int} {t u v:Tok} {tk:Nat} (I:Inv X pins σ H s) (h1:-(2 ^ 62)<=lo) (h2:lo < 2 ^ 62) (h3:-(2 ^ 62)<=hi) (h4:hi < 2 ^ 62)
  (q:R (Itr lo (hi - lo).toNat) H):wpAny (model X.prog X.w) X.A (pyIter (.ref s.heap.objs.size)) (PIE X pins σ tg R) E { s with heap:=s.heap.push { cls:=.type "range",data:=.fields #[.int lo t,.int hi u,.int 1 v] },toks:=tk }:=by
 refine wpAny_pyIter_range (IsRange.new ..) (small_one h1 h2 h3 h4) ?_
 have I1:Inv X pins σ H { s with heap:=s.heap.push { cls:=.type "range",data:=.fields #[.int lo t,.int hi u,.int 1 v] },toks:=tk }:=I.kept λb o e=>Qav _ e
 refine⟨(s.heap.push { cls:=.type "range",data:=.fields #[.int lo t,.int hi u,.int 1 v] }).objs.size,[(s.heap.push { cls:=.type "range",data:=.fields #[.int lo t,.int hi u,.int 1 v] }).objs.size],_,_,H,rfl,
  I1.kept (t':=tk) λb o e=>Qav _ e,fD _ lo (hi - lo).toNat,?_,λb hb=>?_,q⟩
 ·have e1:lo+((0:Nat):Int)*1=lo:=by simp
  have e2:(((hi - lo).toNat:Nat):Int) - ((0:Nat):Int)=Builtin.Range.rangeSize lo hi 1:=by rw[rangeSize_one];split <;> omega
  show IsRangeIter _ _ (lo+((0:Nat):Int)*1) ((((hi - lo).toNat:Nat):Int) - ((0:Nat):Int)) 1
  rw[e1,e2]
  exact QaI _ rfl
 ·have e:b=(s.heap.push { cls:=.type "range",data:=.fields #[.int lo t,.int hi u,.int 1 v] }).objs.size:=by simpa using hb
  subst e
  exact I1.Qd (Qcq _) (I1.hok.fresh (Qcq _))
def CO (ta:TA):TI:=fun σ H R=>ta σ H λvs H1=>∃j:Int,vs=[.int j]/\-(2 ^ 62)<=j/\j < 2 ^ 62/\R (Itr 0 j.toNat) H1
def CM (ta:TA):TI:=fun σ H R=>ta σ H λvs H1=>∃i j:Int,vs=[.int i,.int j]/\(-(2 ^ 62)<=i/\i < 2 ^ 62/\-(2 ^ 62)<=j/\j < 2 ^ 62)/\R (Itr i (j - i).toNat) H1
theorem CN {a:Expr} {ta:TA} {p pos:Pos} (hg:Gl X "range") (hm:X.mg "range"=none) (ha:PA X [a] ta) (hs:starEach [a] X.env=[(false,eval a X.env)]:=by rfl):PI X tg (.Call (.Name "range" p) [a] [] pos) (CO ta):=by
 intro pins s σ H R I h
 refine Call_ (Ii I hg hm boot_range (Qae (thn (ha pos pins s σ H _ I h) λus s1 zz=>?_) hs rfl))
 obtain⟨vs,H1,I1,r1,q1⟩:=zz
 obtain⟨j,e,q1,q2,q⟩:=q1
 subst e
 cases r1 with
 | cons r rr=>
  cases rr
  obtain⟨t,rfl⟩:=r
  exact call_range_1 (YZ I1 (by omega) (by omega) q1 q2 (by simpa using q))
theorem kW {a b:Expr} {ta:TA} {p pos:Pos} (hg:Gl X "range") (hm:X.mg "range"=none) (ha:PA X [a,b] ta) (hs:starEach [a,b] X.env=[(false,eval a X.env),(false,eval b X.env)]:=by rfl) (hs2:starEach [b] X.env=[(false,eval b X.env)]:=by rfl) :
  PI X tg (.Call (.Name "range" p) [a,b] [] pos) (CM ta):=by
 intro pins s σ H R I h
 refine Call_ (Ii I hg hm boot_range (Qae (thn (ha pos pins s σ H _ I h) λus s1 zz=>?_) (by rw[hs,hs2]) (by rw[hs2];rfl)))
 obtain⟨vs,H1,I1,r1,q1⟩:=zz
 obtain⟨i,j,e,⟨q1,q2,q3,q4⟩,q⟩:=q1
 subst e
 cases r1 with
 | cons r rr=>
  cases rr with
  | cons r' rr=>
   cases rr
   obtain⟨t,rfl⟩:=r
   obtain⟨t',rfl⟩:=r'
   exact call_range_2 (YZ I1 q1 q2 q3 q4 q)
def Dg (wi:TI) (g:TG) (tb:TS):TS:=λD σ H=>wi σ H λJ H1=>∃W:Nat->YN,(∃m,W 0 m σ H1)/\∀i m σ H,W i m σ H ->
 (J.stop i H/\D.nx σ H)\/(J.go i H/\∃N:YO,(∀ σ' H',N σ' H'->∃m',m' < m/\W (i+1) m' σ' H')/\∀x H',J.yld i H x H'->g x σ H' fun σ2 H2=>tb { D with nx:=N,ct:=N,bk:=D.nx } σ2 H2)
def MK (fp:List Addr) (h:Heap):YC:=fp.filterMap λb=>(h.get? b).map λo=>(b,o)
theorem Jy {fp:List Addr} {h:Heap} {b:Addr} {o:Obj} (hb:b∈fp) (e:h.get? b=some o):(b,o)∈MK fp h:=List.mem_filterMap.mpr ⟨b,hb,by rw[e];rfl⟩
theorem lK {fp:List Addr} {h:Heap} {p:Addr×Obj} (hp:p∈MK fp h):p.1∈fp/\h.get? p.1=some p.2:=by
 obtain⟨b,hb,e⟩:=List.mem_filterMap.mp hp
 cases q:h.get? b with
 | none=>rw[q] at e;cases e
 | some o=>
  rw[q] at e
  have e':(b,o)=p:=QbH e
  subst e'
  exact⟨hb,q⟩
theorem Inv.pinned {pins:YC} {σ : St} {H:Hp} {s:Shared} {fp:List Addr} (I:Inv X pins σ H s) (hf:∀b∈fp,Gi X pins H b) (ho:∀b∈fp,∃o,s.heap.get? b=some o/\∀v,o.data≠.cell v):Inv X (pins++MK fp s.heap) σ H s:=
 I.Rv λp hp=>(QbD.mp hp).elim (λz=>I.pin p (QaA _ z)) λz=>by
  obtain⟨hb,e⟩:=lK z
  obtain⟨f0,f1,f2,_⟩:=hf p.1 hb
  obtain⟨o,e',d⟩:=ho p.1 hb
  rw[e] at e';cases e'
  exact⟨e,f0,f1,f2,d⟩
theorem Inv.G5 {pins pl:YC} {σ : St} {H:Hp} {s:Shared} (I:Inv X (pins++pl) σ H s):Inv X pins σ H s:=I.Rv λp hp=>I.pin p (QaA _ (QaF _ hp))
theorem Cg {iter:Expr} {body:List Stmt} {wi:TI} {g:TG} {tb:TS} {pos:Pos} (hp:PassesOwn (model X.prog X.w) X.A X.env X.xe) (hc:X.calm=true) (hi:PI X tg iter wi) (hg:PG X tg g) (hb:PSs X body tb)
  (hs:∀x,foldedSetIterable iter X.env x=pure x:=by intro _;rfl):PS X (.For tg iter body [] pos) (Dg wi g tb):=by
 intro pins s σ H D I h
 refine wpAny_For (thn (hi pins s σ H _ I h) λv s1 h1=>thn h1 λitv s2 h2=>?_) hs
 obtain⟨it,fp,tn,J,H2,e,I2,T,st2,f2,W,⟨m0,w0⟩,turn⟩:=h2
 subst e
 have stat:∀{H':Hp},(∀b∈fp,H' b=none)->∀b∈fp,Gi X pins H' b:=λhn b hb=>⟨hn b hb,(f2 b hb).2⟩
 refine codeAny_forLoop_any (λn s'=>∃i σ' H',Inv X pins σ' H' s'/\tn i s'.heap/\(∀b∈fp,H' b=none)/\W i n σ' H') ?_ m0 ⟨0,σ,H2,I2,st2,λb hb=>(f2 b hb).1,w0⟩
 rintro n s3 ⟨i,σ3,H3,I3,st3,fr3,w3⟩
 rcases turn i n σ3 H3 w3 with⟨stop,qn⟩|⟨go,N,hN,step⟩
 ·refine QbN hp (thn (T.done X rfl rfl rfl hc i pins s3 σ3 H3 X.xe I3 (stat fr3) st3 stop) λr s4 zz=>?_)
  obtain⟨hr,I4⟩:=zz
  subst hr
  exact wpAny_execs_nil ⟨σ3,H3,I4,qn⟩
 ·refine QbN hp (thn (T.item X rfl rfl rfl hc i pins s3 σ3 H3 X.xe I3 (stat fr3) st3 go) λr s4 zz=>?_)
  obtain⟨u,hr,h4⟩:=zz
  subst hr
  refine QbN hp (thn h4 λ_ s5 zz=>?_)
  obtain⟨x,H5,I5,r5,y5,st5,fr5⟩:=zz
  have I5':=I5.pinned (stat fr5) (T.obj _ _ st5)
  refine QbN hp (thn (hg _ s5 σ3 H5 x u _ I5' r5 (step x H5 y5)) λ_ s6 zz=>?_)
  obtain⟨σ6,H6,I6,q6⟩:=zz
  refine QbN hp (thn (hb _ s6 σ6 H6 _ I6 q6) λf s7 q7=>?_)
  have again:∀{σ7:St} {H7:Hp},Inv X (pins++MK fp s5.heap) σ7 H7 s7->N σ7 H7->∃m,m < n/\∃i σ' H',Inv X pins σ' H' s7/\tn i s7.heap/\(∀b∈fp,H' b=none)/\W i m σ' H':=λ{σ7 H7} I7 n7=>by
   obtain⟨m',hm,w7⟩:=hN σ7 H7 n7
   refine⟨m',hm,i+1,σ7,H7,I7.G5,T.keep _ _ _ st5 λb hb o e=>(I7.pin (b,o) (QaA _ (QaA _ (Jy hb e)))).1,λb hb=>?_,w7⟩
   obtain⟨o,e,d⟩:=T.obj _ _ st5 b hb
   exact (I7.pin (b,o) (QaA _ (QaA _ (Jy hb e)))).2.1
  cases f with
  | next=>obtain⟨σ7,H7,I7,n7⟩:=q7;exact again I7 n7
  | cont=>obtain⟨σ7,H7,I7,n7⟩:=q7;exact again I7 n7
  | brk=>obtain⟨σ7,H7,I7,q7⟩:=q7;exact⟨σ7,H7,I7.G5,q7⟩
  | ret v=>obtain⟨x7,σ7,H7,I7,r7,q7⟩:=q7;exact⟨x7,σ7,H7,I7.G5,r7,q7⟩
end
theorem TJ {K:YD} {a:Addr} {xs:YG} {g:TG} {tb:TS} {D:Ends} {σ : St} {H:Hp} (Pv:YN) (h0:Pv 0 σ H) (hl:∀i σ H,i<=xs.length->Pv i σ H->SqL K H a xs)
  (hs:∀i x σ H,xs[i]?=some x->Pv i σ H->g x σ H fun σ2 H2=>tb { D with nx:=Pv (i+1),ct:=Pv (i+1),bk:=D.nx } σ2 H2) (hd:∀ σ H,Pv xs.length σ H->D.nx σ H) :
  ∃W:Nat->YN,(∃m,W 0 m σ H)/\∀i m σ H,W i m σ H ->
   ((Itl K a).stop i H/\D.nx σ H)\/((Itl K a).go i H/\∃N:YO,(∀ σ' H',N σ' H'->∃m',m' < m/\W (i+1) m' σ' H')/\∀x H',(Itl K a).yld i H x H'->g x σ H' fun σ2 H2=>tb { D with nx:=N,ct:=N,bk:=D.nx } σ2 H2):=by
 refine⟨λi m σ H=>m=xs.length - i/\i<=xs.length/\Pv i σ H,⟨xs.length,by simp,Qcr _,h0⟩,?_⟩
 rintro i m σ H ⟨rfl,hi,p⟩
 have q:=hl i σ H hi p
 by_cases hlt:i < xs.length
 ·refine .inr ⟨⟨xs,xs[i],q,by simp[hlt]⟩,Pv (i+1),fun σ' H' p'=>⟨xs.length - (i+1),by omega,rfl,hlt,p'⟩,λx H' y=>?_⟩
  obtain⟨e,y⟩:=y
  subst e
  exact hs i x σ _ (y xs q) p
 ·have e:i=xs.length:=by omega
  subst e
  exact .inl ⟨⟨xs,q,Qcq _⟩,hd σ H p⟩
theorem Mi {K:YD} {a:Addr} {xs:YG} {g:TG} {tb:TS} {D:Ends} {σ : St} {H:Hp} (Pv:YN) (h0:Pv 0 σ H) (hl:∀i σ H,i<=xs.length->Pv i σ H->SqT K H a xs)
  (hs:∀i x σ H,xs[i]?=some x->Pv i σ H->g x σ H fun σ2 H2=>tb { D with nx:=Pv (i+1),ct:=Pv (i+1),bk:=D.nx } σ2 H2) (hd:∀ σ H,Pv xs.length σ H->D.nx σ H) :
  ∃W:Nat->YN,(∃m,W 0 m σ H)/\∀i m σ H,W i m σ H ->
   ((Itt K a).stop i H/\D.nx σ H)\/((Itt K a).go i H/\∃N:YO,(∀ σ' H',N σ' H'->∃m',m' < m/\W (i+1) m' σ' H')/\∀x H',(Itt K a).yld i H x H'->g x σ H' fun σ2 H2=>tb { D with nx:=N,ct:=N,bk:=D.nx } σ2 H2):=by
 refine⟨λi m σ H=>m=xs.length - i/\i<=xs.length/\Pv i σ H,⟨xs.length,by simp,Qcr _,h0⟩,?_⟩
 rintro i m σ H ⟨rfl,hi,p⟩
 have q:=hl i σ H hi p
 by_cases hlt:i < xs.length
 ·refine .inr ⟨⟨xs,xs[i],q,by simp[hlt]⟩,Pv (i+1),fun σ' H' p'=>⟨xs.length - (i+1),by omega,rfl,hlt,p'⟩,λx H' y=>?_⟩
  obtain⟨e,y⟩:=y
  subst e
  exact hs i x σ _ (y xs q) p
 ·have e:i=xs.length:=by omega
  subst e
  exact .inl ⟨⟨xs,q,Qcq _⟩,hd σ H p⟩
theorem DX {lo:Int} {n:Nat} {g:TG} {tb:TS} {D:Ends} {σ : St} {H:Hp} (Pv:YN) (h0:Pv 0 σ H)
  (hs:∀i σ H,i < n->Pv i σ H->g (.int (lo+i)) σ H fun σ2 H2=>tb { D with nx:=Pv (i+1),ct:=Pv (i+1),bk:=D.nx } σ2 H2) (hd:∀ σ H,Pv n σ H->D.nx σ H) :
  ∃W:Nat->YN,(∃m,W 0 m σ H)/\∀i m σ H,W i m σ H ->
   ((Itr lo n).stop i H/\D.nx σ H)\/((Itr lo n).go i H/\∃N:YO,(∀ σ' H',N σ' H'->∃m',m' < m/\W (i+1) m' σ' H')/\∀x H',(Itr lo n).yld i H x H'->g x σ H' fun σ2 H2=>tb { D with nx:=N,ct:=N,bk:=D.nx } σ2 H2):=by
 refine⟨λi m σ H=>m=n - i/\i<=n/\Pv i σ H,⟨n,by simp,Qcr _,h0⟩,?_⟩
 rintro i m σ H ⟨rfl,hi,p⟩
 by_cases hlt:i < n
 ·refine .inr ⟨hlt,Pv (i+1),fun σ' H' p'=>⟨n - (i+1),by omega,rfl,hlt,p'⟩,λx H' y=>?_⟩
  obtain⟨e,y⟩:=y
  subst e y
  exact hs i σ _ hlt p
 ·have e:i=n:=by omega
  subst e
  exact .inl ⟨Qcq _,hd σ H p⟩
abbrev R2:=V->V->Hp->VK->Prop
def OpR (X:Cx) (f:Value->Value->Sem Value) (r:R2):Prop:=
 ∀(pins:YC) (s:Shared) (σ : St) (H:Hp) (x y:V) (v u:Value) (Q:VK),Inv X pins σ H s->RelV x v->RelV y u->r x y H Q ->
  wpAny (model X.prog X.w) X.A (f v u) (EP X pins σ Q) X.xe s
def UnR (X:Cx) (f:Value->Sem Value) (r:V->Hp->VK->Prop):Prop:=
 ∀(pins:YC) (s:Shared) (σ : St) (H:Hp) (x:V) (v:Value) (Q:VK),Inv X pins σ H s->RelV x v->r x H Q ->
  wpAny (model X.prog X.w) X.A (f v) (EP X pins σ Q) X.xe s
def Dm (X:Cx) (f:Value) (r:YG->Hp->VK->Prop):Prop:=
 ∀(pins:YC) (s:Shared) (σ : St) (H:Hp) (xs:YG) (us:YE) (Q:VK),Inv X pins σ H s->Vals xs us->r xs H Q ->
  wpAny (model X.prog X.w) X.A (call f us) (EP X pins σ Q) X.xe s
def NM (X:Cx) (r:V->Hp->(Bool->Hp->Prop)->Prop):Prop:=
 ∀(pins:YC) (s:Shared) (σ : St) (H:Hp) (x:V) (v:Value) (Q:Bool->Hp->Prop),Inv X pins σ H s->RelV x v->r x H Q ->
  wpAny (model X.prog X.w) X.A (truthy v) (TP X pins σ Q) X.xe s
def tOp (r:R2) (ta tb:TE):TE:=fun σ H Q=>ta σ H λx H1=>tb σ H1 λy H2=>r x y H2 Q
def tUn (r:V->Hp->VK->Prop) (ta:TE):TE:=fun σ H Q=>ta σ H λx H1=>r x H1 Q
def rI (C:Int->Int->Prop) (g:Int->Int->V):R2:=λx y H Q=>∃i j,x=.int i/\y=.int j/\C i j/\Q (g i j) H
def rI0 (g:Int->Int->V):R2:=λx y H Q=>∃i j,x=.int i/\y=.int j/\Q (g i j) H
def rU (g:Int->V):V->Hp->VK->Prop:=λx H Q=>∃i,x=.int i/\Q (g i) H
section
variable {X:Cx} {a b c:Expr} {ta tb tc:TE} {pos:Pos}
theorem uJ (ha:PE X a ta) (hb:PE X b tb) {pins:YC} {s:Shared} {σ : St} {H:Hp} {R:V->V->Hp->Prop} (I:Inv X pins σ H s)
  (h:ta σ H λx H1=>tb σ H1 λy H2=>R x y H2) {Q:YA} {f:Value->Value->Sem Value}
  (hf:∀v u s2 x y H2,Inv X pins σ H2 s2->RelV x v->RelV y u->R x y H2->wpAny (model X.prog X.w) X.A (f v u) Q X.xe s2) :
  wpAny (model X.prog X.w) X.A (eval a X.env) (λv s₁=>wpAny (model X.prog X.w) X.A (eval b X.env) (λu s₂=>wpAny (model X.prog X.w) X.A (f v u) Q X.xe s₂) X.xe s₁) X.xe s:=by
 refine thn (ha pins s σ H _ I h) λv s1 zz=>?_
 obtain⟨x,H1,I1,r1,q1⟩:=zz
 refine thn (hb pins s1 σ H1 _ I1 q1) λu s2 zz=>?_
 obtain⟨y,H2,I2,r2,q2⟩:=zz
 exact hf v u s2 x y H2 I2 r1 r2 q2
theorem Bg {op:Operator} {r:R2} (ho:OpR X (binaryOp op) r) (ha:PE X a ta) (hb:PE X b tb):PE X (.BinOp a op b pos) (tOp r ta tb):=by
 intro pins s σ H Q I h
 exact wpAny_BinOp (uJ ha hb I h λv u s2 x y H2 I2 rx ry q=>ho pins s2 σ H2 x y v u Q I2 rx ry q)
theorem Px {op:UnaryOp} {r:V->Hp->VK->Prop} (ho:UnR X (unaryOp op) r) (ha:PE X a ta):PE X (.UnaryOp op a pos) (tUn r ta):=by
 intro pins s σ H Q I h
 refine UnaryOp_ (thn (ha pins s σ H _ I h) λv s1 zz=>?_)
 obtain⟨x,H1,I1,r1,q1⟩:=zz
 exact ho pins s1 σ H1 x v Q I1 r1 q1
theorem opI {f:Value->Value->Sem Value} {C:Int->Int->Prop} {g:Int->Int->Int}
  (rule:∀(i j:Int) (t u:Tok) (s:Shared) (Q:YA) (E:YA),C i j->Q (.int (g i j) s.toks) { s with toks:=s.toks+1 }->wpAny (model X.prog X.w) X.A (f (.int i t) (.int j u)) Q E s) :
  OpR X f (rI C λi j=>.int (g i j)):=by
 intro pins s σ H x y v u Q I rx ry h
 obtain⟨i,j,rfl,rfl,hc,q⟩:=h
 obtain⟨t,rfl⟩:=rx
 obtain⟨t',rfl⟩:=ry
 exact rule i j t t' s _ _ hc ⟨.int (g i j),H,I.tok _,⟨_,rfl⟩,q⟩
theorem zY {f:Value->Value->Sem Value} {g:Int->Int->Int}
  (rule:∀(i j:Int) (t u:Tok) (s:Shared) (Q:YA) (E:YA),Q (.int (g i j) s.toks) { s with toks:=s.toks+1 }->wpAny (model X.prog X.w) X.A (f (.int i t) (.int j u)) Q E s) :
  OpR X f (rI0 λi j=>.int (g i j)):=by
 intro pins s σ H x y v u Q I rx ry h
 obtain⟨i,j,rfl,rfl,q⟩:=h
 obtain⟨t,rfl⟩:=rx
 obtain⟨t',rfl⟩:=ry
 exact rule i j t t' s _ _ ⟨.int (g i j),H,I.tok _,⟨_,rfl⟩,q⟩
theorem gC {f:Value->Value->Sem Value} {g:Int->Int->Bool}
  (rule:∀(i j:Int) (t u:Tok) (s:Shared) (Q:YA) (E:YA),Q (.bool (g i j)) s->wpAny (model X.prog X.w) X.A (f (.int i t) (.int j u)) Q E s) :
  OpR X f (rI0 λi j=>.bl (g i j)):=by
 intro pins s σ H x y v u Q I rx ry h
 obtain⟨i,j,rfl,rfl,q⟩:=h
 obtain⟨t,rfl⟩:=rx
 obtain⟨t',rfl⟩:=ry
 exact rule i j t t' s _ _ ⟨.bl (g i j),H,I,rfl,q⟩
def NR (i j:Int):Prop:=0 < j/\j < 1073741824
def NO (i j:Int):Prop:=0<=j/\j<=1000000/\i.natAbs < 2 ^ 64
def jz (i j:Int):Prop:=(-(2 ^ 64) < i/\i < 2 ^ 64)\/(-(2 ^ 64) < j/\j < 2 ^ 64)
theorem jz.ok {i j:Int} (h:jz i j):IntMulOk i j:=by
 rcases h with⟨h1,h2⟩|⟨h1,h2⟩
 ·exact .of_left (intBits_le_64 h1 h2)
 ·exact .of_right (intBits_le_64 h1 h2)
theorem Ca:OpR X (binaryOp .Add) (rI0 λi j=>.int (i+j)):=zY λ_ _ _ _ _ _ _ q=>add_int q
theorem Zd:OpR X (binaryOp .Sub) (rI0 λi j=>.int (i - j)):=zY λ_ _ _ _ _ _ _ q=>sub_int q
theorem Hf:OpR X (binaryOp .Mult) (rI jz λi j=>.int (i*j)):=opI λ_ _ _ _ _ _ _ hc q=>mul_int q hc.ok
theorem VD:OpR X (binaryOp .FloorDiv) (rI NR λi j=>.int (i / j)):=opI λi j _ _ _ _ _ hc q=>by
 have h1:(0:Int) < j:=hc.1
 have h2:j < 1073741824:=hc.2
 exact floordiv_int (by omega) (by rw[Int.fdiv_eq_ediv_of_nonneg i (by omega)];exact q) (.inl (PyProof.noPylong_small (by omega)))
theorem K4:OpR X (binaryOp .Mod) (rI (λ_ j=>0 < j) λi j=>.int (i % j)):=opI λi j _ _ _ _ _ hc q=>by
 have h1:(0:Int) < j:=hc
 exact mod_int' (by omega) (by rw[Int.fmod_eq_emod_of_nonneg i (by omega)];exact q)
theorem Ze:OpR X (binaryOp .Pow) (rI NO λi j=>.int (i ^ j.toNat)):=opI λ_ _ _ _ _ _ _ hc q=>pow_int_small hc.1 hc.2.1 hc.2.2 q
theorem unI {f:Value->Sem Value} {g:Int->Int}
  (rule:∀(i:Int) (t:Tok) (s:Shared) (Q:YA) (E:YA),Q (.int (g i) s.toks) { s with toks:=s.toks+1 }->wpAny (model X.prog X.w) X.A (f (.int i t)) Q E s) :
  UnR X f (rU λi=>.int (g i)):=by
 intro pins s σ H x v Q I rx h
 obtain⟨i,rfl,q⟩:=h
 obtain⟨t,rfl⟩:=rx
 exact rule i t s _ _ ⟨.int (g i),H,I.tok _,⟨_,rfl⟩,q⟩
theorem Mq:UnR X (unaryOp .USub) (rU λi=>.int (-i)):=unI λ_ _ _ _ _ q=>neg_int q
end
def zF:V->V->Bool
 | .non,.non=>true | .non,.int _=>true | .int _,.non=>true | .non,.bl _=>true | .bl _,.non=>true | .non,.str _=>true | .str _,.non=>true
 | .int _,.int _=>true | .bl _,.bl _=>true | .str _,.str _=>true | .byt _,.byt _=>true
 | .int _,.str _=>true | .str _,.int _=>true | .bl _,.str _=>true | .str _,.bl _=>true
 | _,_=>false
def rEq:R2:=λx y H Q=>zF x y=true/\Q (.bl (decide (x=y))) H
def rNe:R2:=λx y H Q=>zF x y=true/\Q (.bl (!decide (x=y))) H
theorem eF {i j:Int}:decide (V.int i=V.int j)=(i == j):=by
 rw[QbL]
 simp
theorem nF {i j:Bool}:decide (V.bl i=V.bl j)=(i == j):=by
 rw[QbL]
 simp
theorem eE {i j:Str}:decide (V.str i=V.str j)=(i == j):=by
 rw[QbL]
 simp
theorem eO {i j:Array UInt8}:decide (V.byt i=V.byt j)=(i.toList == j.toList):=by
 rw[QbL]
 cases i
 cases j
 simp
section
variable {X:Cx} {a b c:Expr} {ta tb tc:TE} {pos:Pos}
theorem BR {pins:YC} {σ : St} {H:Hp} {s:Shared} {Q:VK} {k k':Bool} (I:Inv X pins σ H s) (q:Q (.bl k) H) (e:k=k'):EP X pins σ Q (.bool k') s:=by
 subst e
 exact⟨.bl k,H,I,rfl,q⟩
theorem Fi:OpR X (compareOp .Eq) rEq:=by
 intro pins s σ H x y v u Q I rx ry h
 obtain⟨hs,q⟩:=h
 cases x with
 | non=>
  cases rx
  cases y with
  | non=>cases ry;exact PySem.EqNone.eq_none_none (BR I q (by simp))
  | bl j=>cases ry;exact PySem.EqNone.eq_none_bool (BR I q (by simp))
  | int j=>obtain⟨t',rfl⟩:=ry;exact PySem.EqNone.eq_none_int (BR I q (by simp))
  | str j=>obtain⟨t',rfl⟩:=ry;exact PySem.EqNone.eq_none_str (BR I q (by simp))
  | _=>exact absurd (show false=true from hs) QaS
 | bl i=>
  cases rx
  cases y with
  | non=>cases ry;exact PySem.EqNone.eq_bool_none (BR I q (by simp))
  | bl j=>cases ry;exact eq_bool (BR I q nF)
  | str j=>obtain⟨t',rfl⟩:=ry;exact PySem.EqMixed.eq_bool_str (BR I q (by simp))
  | _=>exact absurd (show false=true from hs) QaS
 | int i=>
  obtain⟨t,rfl⟩:=rx
  cases y with
  | non=>cases ry;exact PySem.EqNone.eq_int_none (BR I q (by simp))
  | int j=>obtain⟨t',rfl⟩:=ry;exact eq_int (BR I q eF)
  | str j=>obtain⟨t',rfl⟩:=ry;exact PySem.EqMixed.eq_int_str (BR I q (by simp))
  | _=>exact absurd (show false=true from hs) QaS
 | str i=>
  obtain⟨t,rfl⟩:=rx
  cases y with
  | non=>cases ry;exact PySem.EqNone.eq_str_none (BR I q (by simp))
  | bl j=>cases ry;exact PySem.EqMixed.eq_str_bool (BR I q (by simp))
  | int j=>obtain⟨t',rfl⟩:=ry;exact PySem.EqMixed.eq_str_int (BR I q (by simp))
  | str j=>obtain⟨t',rfl⟩:=ry;exact eq_str (BR I q eE)
  | _=>exact absurd (show false=true from hs) QaS
 | byt i=>
  obtain⟨t,rfl⟩:=rx
  cases y with
  | byt j=>obtain⟨t',rfl⟩:=ry;exact PySem.W.eq_bytes (BR I q eO)
  | _=>exact absurd (show false=true from hs) QaS
 | _=>cases y <;> exact absurd (show false=true from hs) QaS
theorem Ut:OpR X (compareOp .NotEq) rNe:=by
 intro pins s σ H x y v u Q I rx ry h
 obtain⟨hs,q⟩:=h
 cases x with
 | non=>
  cases rx
  cases y with
  | non=>cases ry;exact PySem.EqNone.ne_none_none (BR I q (by simp))
  | bl j=>cases ry;exact PySem.EqNone.ne_none_bool (BR I q (by simp))
  | int j=>obtain⟨t',rfl⟩:=ry;exact PySem.EqNone.ne_none_int (BR I q (by simp))
  | str j=>obtain⟨t',rfl⟩:=ry;exact PySem.EqNone.ne_none_str (BR I q (by simp))
  | _=>exact absurd (show false=true from hs) QaS
 | bl i=>
  cases rx
  cases y with
  | non=>cases ry;exact PySem.EqNone.ne_bool_none (BR I q (by simp))
  | bl j=>cases ry;exact ne_bool (BR I q (congrArg not nF))
  | str j=>obtain⟨t',rfl⟩:=ry;exact PySem.EqMixed.ne_bool_str (BR I q (by simp))
  | _=>exact absurd (show false=true from hs) QaS
 | int i=>
  obtain⟨t,rfl⟩:=rx
  cases y with
  | non=>cases ry;exact PySem.EqNone.ne_int_none (BR I q (by simp))
  | int j=>obtain⟨t',rfl⟩:=ry;exact ne_int (BR I q (congrArg not eF))
  | str j=>obtain⟨t',rfl⟩:=ry;exact PySem.EqMixed.ne_int_str (BR I q (by simp))
  | _=>exact absurd (show false=true from hs) QaS
 | str i=>
  obtain⟨t,rfl⟩:=rx
  cases y with
  | non=>cases ry;exact PySem.EqNone.ne_str_none (BR I q (by simp))
  | bl j=>cases ry;exact PySem.EqMixed.ne_str_bool (BR I q (by simp))
  | int j=>obtain⟨t',rfl⟩:=ry;exact PySem.EqMixed.ne_str_int (BR I q (by simp))
  | str j=>obtain⟨t',rfl⟩:=ry;exact ne_str (BR I q (congrArg not eE))
  | _=>exact absurd (show false=true from hs) QaS
 | byt i=>
  obtain⟨t,rfl⟩:=rx
  cases y with
  | byt j=>obtain⟨t',rfl⟩:=ry;exact PySem.W.ne_bytes (BR I q (congrArg not eO))
  | _=>exact absurd (show false=true from hs) QaS
 | _=>cases y <;> exact absurd (show false=true from hs) QaS
theorem Uu:OpR X (compareOp .Lt) (rI0 λi j=>.bl (decide (i < j))):=gC λ_ _ _ _ _ _ _ q=>lt_int q
theorem NP:OpR X (compareOp .LtE) (rI0 λi j=>.bl (decide (i<=j))):=gC λ_ _ _ _ _ _ _ q=>le_int q
theorem Rw:OpR X (compareOp .Gt) (rI0 λi j=>.bl (decide (j < i))):=gC λ_ _ _ _ _ _ _ q=>gt_int q
theorem Ct:OpR X (compareOp .GtE) (rI0 λi j=>.bl (decide (j<=i))):=gC λ_ _ _ _ _ _ _ q=>ge_int q
theorem lB:OpR X (compareOp .In) (λx y H Q=>∃i j,x=.str i/\y=.str j/\Q (.bl (!(Builtin.Str.occurrences j i 0 j.length 1).isEmpty)) H):=by
 intro pins s σ H x y v u Q I rx ry h
 obtain⟨i,j,rfl,rfl,q⟩:=h
 obtain⟨t,rfl⟩:=rx
 obtain⟨t',rfl⟩:=ry
 exact in_str (BR I q rfl)
theorem zX:OpR X (compareOp .Is) (λx y H Q=>y=.non/\Q (.bl (decide (x=.non))) H):=by
 intro pins s σ H x y v u Q I rx ry h
 obtain⟨rfl,q⟩:=h
 cases ry
 refine is_none_gen (BR I q ?_)
 cases x <;> first
  | (cases rx;rfl)
  | (obtain⟨t,rfl⟩:=rx;rfl)
theorem OpR.or {f:Value->Value->Sem Value} {r r':R2} (h:OpR X f r) (h':OpR X f r'):OpR X f (λx y H Q=>r x y H Q\/r' x y H Q):=by
 intro pins s σ H x y v u Q I rx ry q
 rcases q with q | q
 ·exact h pins s σ H x y v u Q I rx ry q
 ·exact h' pins s σ H x y v u Q I rx ry q
theorem Bs (b:Expr) {op:CmpOp} (h:op≠.In:=by decide) (h2:op≠.NotIn:=by decide):behindInMarks op b=false:=by
 have e1:(op == CmpOp.In)=false:=by cases op <;> first | rfl | exact absurd rfl h
 have e2:(op == CmpOp.NotIn)=false:=by cases op <;> first | rfl | exact absurd rfl h2
 cases b <;> simp[behindInMarks,e1,e2]
theorem Dk {op:CmpOp} {r:R2} (ho:OpR X (compareOp op) r) (ha:PE X a ta) (hb:PE X b tb) (hm:behindInMarks op b=false):PE X (.Compare a [op] [b] pos) (tOp r ta tb):=by
 intro pins s σ H Q I h
 exact wpAny_Compare1 (uJ ha hb I h λv u s2 x y H2 I2 rx ry q=>ho pins s2 σ H2 x y v u Q I2 rx ry q) hm
def BY (t:TE):TT:=fun σ H Q=>t σ H λx H'=>∃k,x=.bl k/\Q k H'
theorem Bx {op:CmpOp} {r:R2} (ho:OpR X (compareOp op) r) (ha:PE X a ta) (hb:PE X b tb) (hm:behindInMarks op b=false):PT X (.Compare a [op] [b] pos) (BY (tOp r ta tb)):=by
 intro pins s σ H Q I h
 refine wpAny_isTrue_Compare1 (thn (ha pins s σ H _ I h) λv s1 ⟨x,H1,I1,r1,q1⟩=>thn (hb pins s1 σ H1 _ I1 q1) λu s2 ⟨y,H2,I2,r2,q2⟩=>
  thn (ho pins s2 σ H2 x y v u _ I2 r1 r2 q2) λc s3 ⟨z,H3,I3,r3,k,e,q3⟩=>?_) hm
 subst e
 cases r3
 exact Qbm ⟨H3,I3,q3⟩
def zj (r r':R2) (ta tb tc:TE):TE:=fun σ H Q=>ta σ H λx H1=>tb σ H1 λy H2=>r x y H2 λz H3=>∃k,z=.bl k /\
 (if k=true then tc σ H3 λw' H4=>r' y w' H4 Q else Q (.bl false) H3)
theorem Py {op op':CmpOp} {r r':R2} (ho:OpR X (compareOp op) r) (ho':OpR X (compareOp op') r') (ha:PE X a ta) (hb:PE X b tb) (hc:PE X c tc)
  (hm:lastMarks [op,op'] [b,c]=false:=by with_unfolding_all rfl):PE X (.Compare a [op,op'] [b,c] pos) (zj r r' ta tb tc):=by
 intro pins s σ H Q I h
 refine Compare_chain (thn (ha pins s σ H _ I h) λv s1 ⟨x,H1,I1,r1,q1⟩=>chain_link (thn (hb pins s1 σ H1 _ I1 q1) λu s2 ⟨y,H2,I2,r2,q2⟩=>
  thn (ho pins s2 σ H2 x y v u _ I2 r1 r2 q2) λd s3 ⟨z,H3,I3,r3,k,e,q3⟩=>?_)) hm
 subst e
 cases r3
 refine Qbm ?_
 cases k with
 | false=>exact ite_ff ⟨.bl false,H3,I3,rfl,q3⟩
 | true=>exact ite_tt (chain_last (thn (hc pins s3 σ H3 _ I3 q3) λw' s4 ⟨z',H4,I4,r4,q4⟩=>ho' pins s4 σ H4 y z' u w' Q I4 r2 r4 q4))
def BM (K:YD) (x:V) (H:Hp) (k:Bool):Prop:=
 match x with
 | .non=>k=false
 | .bl b=>k=b
 | .int i=>k=(i != 0)
 | .str y=>y.length<=sizeLine/\k=((y.length:Int) != 0)
 | .byt y=>y.size<=sizeLine/\k=((y.size:Int) != 0)
 | .ref p=>(∃xs,SqL K H p xs/\k=!xs.isEmpty)\/(∃xs,SqT K H p xs/\k=!xs.isEmpty)\/∃kvs,H p=some (.dK kvs)/\k=!kvs.isEmpty
 | _=>False
theorem iG {κ : Type} {kvs:List (κ×V)} {vs:List (κ×Value)} (r:KV kvs vs):(!vs.isEmpty)=!kvs.isEmpty:=by
 cases r <;> rfl
theorem U4 {xs:YG} {its:YE} (r:Vals xs its):(!its.toArray.isEmpty)=!xs.isEmpty:=by
 cases r <;> simp
theorem Nh:(sizeLine:Nat) < 2 ^ 63:=by rw[Qcu];decide
theorem yP:NM X (λx H Q=>∃k,BM X.K x H k/\Q k H):=by
 intro pins s σ H x v Q I rx h
 obtain⟨k,e,q⟩:=h
 have hl:=Nh
 have hs:sizeLine=16777216:=Qcu
 cases x with
 | non=>
  cases rx
  have e':k=false:=e
  subst e'
  exact truthy_none ⟨H,I,q⟩
 | bl b=>
  cases rx
  have e':k=b:=e
  subst e'
  exact Qbm ⟨H,I,q⟩
 | int i=>
  obtain⟨t,rfl⟩:=rx
  have e':k=(i != 0):=e
  subst e'
  exact PySem.P.truthy_int ⟨H,I,q⟩
 | str y=>
  obtain⟨t,rfl⟩:=rx
  obtain⟨hy,e'⟩ : y.length<=sizeLine/\k=((y.length:Int) != 0):=e
  subst e'
  exact PySem.P.truthy_str (by omega) ⟨H,I.tok _,q⟩
 | byt y=>
  obtain⟨t,rfl⟩:=rx
  obtain⟨hy,e'⟩ : y.size<=sizeLine/\k=((y.size:Int) != 0):=e
  subst e'
  exact PySem.W.truthy_bytes (by omega) ⟨H,I.tok _,q⟩
 | ref p=>
  cases rx
  have e':(∃xs,SqL X.K H p xs/\k=!xs.isEmpty)\/(∃xs,SqT X.K H p xs/\k=!xs.isEmpty)\/∃kvs,H p=some (.dK kvs)/\k=!kvs.isEmpty:=e
  rcases e' with⟨xs,hx,e'⟩|⟨xs,hx,e'⟩|⟨kvs,hx,e'⟩
  ·subst e'
   obtain⟨its,r,pl,hz⟩:=I.list hx
   have hlen:=r.length
   exact wpAny_truthy_list pl.isList (by simp only[Qbg];omega) ⟨H,I.tok _,by rw[U4 r];exact q⟩
  ·subst e'
   obtain⟨its,r,pl,hz⟩:=I.tuple hx
   have hlen:=r.length
   exact truthy_tuple pl (by simp only[Qbg];omega) ⟨H,I.tok _,by rw[U4 r];exact q⟩
  ·subst e'
   obtain⟨hz,hS,vs,r,m⟩ : kvs.length<=sizeLine/\(p == sysModules)=false/\∃vs,KV kvs vs/\s.heap.DictOf (Df X.prog X.w) p vs:=I.hok p _ hx
   have hlen:kvs.length=vs.length:=QbX r
   exact wpAny_truthy_dict hS m (by omega) ⟨H,I.tok _,by rw[iG r];exact q⟩
 | _=>exact (show False from e).elim
theorem pW (ha:PE X a ta) (he:∀whole,isTrue a X.env whole=(do let v <-whole;standAt a.pos;holding [v] (truthy v))) :
  PT X a (fun σ H Q=>ta σ H λx H'=>∃k,BM X.K x H' k/\Q k H'):=by
 intro pins s σ H Q I h
 refine isTrue_plain (thn (ha pins s σ H _ I h) λv s1 zz=>?_) (he _)
 obtain⟨x,H1,I1,r1,q1⟩:=zz
 exact yP pins s1 σ H1 x v Q I1 r1 q1
theorem Uw:OpR X (binaryOp .Add) (λx y H Q=>∃i j,x=.str i/\y=.str j/\i.length+j.length<=sizeLine/\Q (.str (i++j)) H):=by
 intro pins s σ H x y v u Q I rx ry h
 obtain⟨i,j,rfl,rfl,hz,q⟩:=h
 obtain⟨t,rfl⟩:=rx
 obtain⟨t',rfl⟩:=ry
 exact add_str (λt' tk=>⟨.str (i++j),H,I.tok _,⟨_,rfl⟩,q⟩) hz
theorem vals1 {x:V} {us:YE} (r:Vals [x] us):∃u,us=[u]/\RelV x u:=by
 cases r with
 | cons r1 r2=>cases r2;exact⟨_,rfl,r1⟩
theorem vals2 {x y:V} {us:YE} (r:Vals [x,y] us):∃u w',us=[u,w']/\RelV x u/\RelV y w':=by
 cases r with
 | cons r1 r2=>
  cases r2 with
  | cons r3 r4=>cases r4;exact⟨_,_,rfl,r1,r3⟩
theorem aG:Dm X (.builtin "abs") (λxs H Q=>∃i,xs=[.int i]/\Q (.int (if i < 0 then -i else i)) H):=by
 intro pins s σ H xs us Q I r h
 obtain⟨i,rfl,q⟩:=h
 obtain⟨u,rfl,t,rfl⟩:=vals1 r
 exact call_abs_int λu tk=>⟨.int (if i < 0 then -i else i),H,I.tok _,⟨_,rfl⟩,q⟩
theorem nU (hc:X.calm=true):Dm X (.builtin "max") (λxs H Q=>∃i j,xs=[.int i,.int j]/\Q (.int (if j > i then j else i)) H):=by
 intro pins s σ H xs us Q I r h
 obtain⟨i,j,rfl,q⟩:=h
 obtain⟨u,w',rfl,⟨t,rfl⟩,⟨t',rfl⟩⟩:=vals2 r
 refine max_two_ints (I.ok.hd hc) λh' tk k=>⟨_,H,I.kept k,?_,q⟩
 by_cases hj:j > i
 ·rw[if_pos hj,if_pos hj];exact⟨_,rfl⟩
 ·rw[if_neg hj,if_neg hj];exact⟨_,rfl⟩
theorem La (hc:X.calm=true):Dm X (.builtin "min") (λxs H Q=>∃i j,xs=[.int i,.int j]/\Q (.int (if j < i then j else i)) H):=by
 intro pins s σ H xs us Q I r h
 obtain⟨i,j,rfl,q⟩:=h
 obtain⟨u,w',rfl,⟨t,rfl⟩,⟨t',rfl⟩⟩:=vals2 r
 refine min_two_ints (I.ok.hd hc) λh' tk k=>⟨_,H,I.kept k,?_,q⟩
 by_cases hj:j < i
 ·rw[if_pos hj,if_pos hj];exact⟨_,rfl⟩
 ·rw[if_neg hj,if_neg hj];exact⟨_,rfl⟩
theorem W0:Dm X (.type "int") (λxs H Q=>(∃i,xs=[.int i]/\Q (.int i) H)\/∃k,xs=[.bl k]/\Q (.int (if k then 1 else 0)) H):=by
 intro pins s σ H xs us Q I r h
 rcases h with⟨i,rfl,q⟩|⟨k,rfl,q⟩
 ·obtain⟨u,rfl,t,rfl⟩:=vals1 r
  exact call_int_int ⟨.int i,H,I,⟨_,rfl⟩,q⟩
 ·obtain⟨u,rfl,r1⟩:=vals1 r
  cases r1
  exact call_int_bool ⟨.int (if k then 1 else 0),H,I.tok _,⟨_,rfl⟩,q⟩
end
structure T9 (h:Heap) (x dx C:Addr) (mA:YB):Prop where
 obj:h.get? x=some (instObj C dx)
 ns:h.Ns1 dx mA
 ne:dx≠x
theorem lU {h:Heap} {dx:Addr} {mA:YB} (n:h.Ns1 dx mA):∃od,h.get? dx=some od/\∀name,lookIn name od=some (mA name):=by
 obtain⟨o,es,ep,ho,hd,hk,_,hm⟩:=n
 refine⟨o,ho,λname=>?_⟩
 have e:=hm name
 unfold nsFind findBy at e
 rw[<-Array.find?_toList] at e
 unfold lookIn
 rw[hd]
 dsimp only
 split
 ·rename_i y q
  rw[q] at e
  exact congrArg some e
 ·rename_i q
  rw[q] at e
  have a:es.toList.any (·.refKey)=false:=by
   rw[List.any_eq_false]
   intro y hy
   obtain⟨z,t,hkey⟩:=hk y (Array.mem_toList_iff.mp hy)
   simp[DictEntry.refKey,hkey]
  have a':¬es.toList.any (·.refKey)=true:=by rw[a];exact QaS
  rw[if_neg a']
  exact congrArg some e
theorem T9.look {h:Heap} {x dx C:Addr} {mA:YB} (I:T9 h x dx C mA):∃od,PySem.W.InstAt h x (instObj C dx) C (some od)/\∀name,lookIn name od=some (mA name):=
 let ⟨od,ho,hl⟩:=lU I.ns
 ⟨od,⟨I.obj,rfl,rfl,ho⟩,hl⟩
section
variable {prog:Program} {w:World} {A:Around} {E:YA} {s:Shared} {K:YD} {x dx C f:Addr} {mA:YB} {name:Str} {v:Value}
theorem get_map {expr:Bool} {Q:YA} (X:K.In s.heap) (I:T9 s.heap x dx C mA) (hg:plainGet K C name=true) (hh:hasDictIn K C=true)
  (ha:findIn K (.ref C) name=some none) (hv:mA name=some v) (hv':PySem.W.handedIn v=true) (h:Q v { s with toks:=s.toks+1 }) :
  wpAny (model prog w) A (getAttr (.ref x) name expr) Q E s:=by
 obtain⟨od,J,hl⟩:=I.look
 exact PySem.W.get_value X J (PySem.W.plainGet_of hg).1 (PySem.W.findObj_own hh ha rfl (by rw[hl,hv])) hv' h
theorem uh {pl:Sem Bool} {Q:Value×YE->Shared->Prop} (X:K.In s.heap) (I:T9 s.heap x dx C mA) (hg:plainGet K C name=true)
  (hf:findIn K (.ref C) name=some (some (.ref f))) (ht:isFn K (.ref f)=true) (hv:mA name=none) (h:Q (.ref f,[.ref x]) s) :
  wpAny (model prog w) A (getMethod (.ref x) name pl) Q E s:=by
 obtain⟨od,J,hl⟩:=I.look
 exact PySem.W.method_fn X J (PySem.W.plainGet_of hg).1 (PySem.W.plainGet_of hg).2 hf (beq_iff_eq.mp ht) (by show (lookIn name od).map (·.isSome)=some false;rw[hl,hv];rfl) h
theorem wD {ns:YF} {Q:YH} (X:K.In s.heap) (I:T9 s.heap x dx C mA)
  (hs:findIn K (.ref C) "__setattr__"=some (some (.builtin "object.__setattr__"))) (hp:PySem.W.plainOver K C=true) (ht:PySem.W.takerIn K C name=some none) (hh:hasDictIn K C=true)
  (hw:PySem.Within mA ns) (hsz:ns.length<=sizeLine)
  (h:∀h',T9 h' x dx C (λy=>if y=name then some v else mA y)->Heap.SameBut dx s.heap h'->Q () { s with heap:=h',toks:=s.toks+2 }) :
  wpAny (model prog w) A (setAttr (.ref x) name v) Q E s:=by
 obtain⟨od,J,hl⟩:=I.look
 refine PySem.W.set_plain X J hs (PySem.W.osa_open (s:={ s with toks:=s.toks+1 }) (r:=none) X J hp ht λb=>?_)
 obtain⟨cd,hc,hd'⟩:=PySem.W.any_some hh
 have hx:s.heap.get? x=some ⟨.ref C,some dx,.plain,#[]⟩:=I.obj
 refine Qcv (Qcw (Qcv (Qcv (wpAny_loadPart hx (Qcv (PySem.W.Looks.here (s:={ s with toks:=s.toks+1 }) (PySem.W.looks_clsIn X hc) ?_))))))
 rw[hd']
 refine Qcw (a:=some dx) (Qcv (Qcw (Qcv ?_)))
 refine wpAny_nsSet1 (s:={ s with toks:=s.toks+1 }) I.ns λh' hn2 hs2=>?_
 obtain⟨oD,esD,epD,hoD,hdD,hcD⟩:=hn2.count (PySem.Within.cons name v hw)
 refine Qcv (wpAny_lookBehind hoD (by rw[hdD];exact pastItsLine_dict (Qck hcD (by rw[Qbr];omega))) ?_)
 exact Qcw (h _ ⟨(hs2.2 _ (Ne.symm I.ne)).trans I.obj,hn2,I.ne⟩ hs2)
theorem qQ {R:Result->Shared->Prop} {vs:YE} {kw:List (Str×Value)} (X:K.In s.heap) (hm:makesIn K C=true)
  (hi:findIn K (.ref C) "__init__"=some (some (.ref f))) (hf:PySem.W.typeIn K (.ref f)=some (.type "function"))
  (h:codeAny (model prog w) (A.under (.builtin "type.__call__" ⟨.ref C::vs,kw⟩)) (.call (.ref f) ⟨.ref (s.heap.objs.size+1)::vs,kw⟩) (PySem.W.InitBack (s.heap.objs.size+1) R)
   { s with heap:=(s.heap.push emptyDict).push (instObj C s.heap.objs.size) }) :
  codeAny (model prog w) A (.call (.ref C) ⟨vs,kw⟩) R s:=by
 obtain⟨hh,g,d,t,os⟩:=s
 exact PySem.W.make_core (PySem.W.makes_of X hm) (looks_findIn X hi) (λself=>PySem.W.bind_fn X self hf) (.inl rfl) h
end
def GP (f:Str) (v:V):List (Str×V)->List (Str×V)
 | []=>[(f,v)]
 | (g,x)::r=>if g=f then (g,v)::r else (g,x)::GP f v r
theorem Sy (f g:Str) (v:V):∀fs:List (Str×V),(GP f v fs).lookup g=if g=f then some v else fs.lookup g
 | []=>by
  show List.lookup g [(f,v)]=_
  by_cases h:g=f
  ·have hb:(g == f)=true:=beq_iff_eq.mpr h
   simp only[List.lookup,hb,if_pos h]
  ·have hb:(g == f)=false:=QaJ.mpr h
   simp only[List.lookup,hb,if_neg h]
 | (k,x)::r=>by
  have ih:=Sy f g v r
  rw[show GP f v ((k,x)::r)=(if k=f then (k,v)::r else (k,x)::GP f v r) from rfl]
  by_cases hk:k=f
  ·rw[if_pos hk]
   by_cases h:g=k
   ·have hb:(g == k)=true:=beq_iff_eq.mpr h
    simp only[List.lookup,hb,if_pos (h.trans hk)]
   ·have hb:(g == k)=false:=QaJ.mpr h
    simp only[List.lookup,hb,if_neg (λe:g=f=>h (e.trans hk.symm))]
  ·rw[if_neg hk]
   by_cases h:g=k
   ·have hb:(g == k)=true:=beq_iff_eq.mpr h
    simp only[List.lookup,hb,if_neg (λe:g=f=>hk (h.symm.trans e))]
   ·have hb:(g == k)=false:=QaJ.mpr h
    simp only[List.lookup,hb]
    exact ih
theorem Q6 (f:Str) (v:V):∀fs:List (Str×V),f∈(GP f v fs).map (·.1)/\∀g,g∈fs.map (·.1)->g∈(GP f v fs).map (·.1)
 | []=>⟨by simp[GP],λg h=>by simp at h⟩
 | (k,x)::r=>by
  obtain⟨i1,i2⟩:=Q6 f v r
  rw[show GP f v ((k,x)::r)=(if k=f then (k,v)::r else (k,x)::GP f v r) from rfl]
  by_cases hk:k=f
  ·rw[if_pos hk]
   subst hk
   exact⟨by simp,λg h=>by simpa using h⟩
  ·rw[if_neg hk]
   refine⟨?_,λg h=>?_⟩
   ·rw[QbZ]
    exact QaE _ i1
   ·rw[QbZ] at h ⊢
    rcases QbY.mp h with e | e
    ·exact QbY.mpr (.inl e)
    ·exact QaE _ (i2 g e)
theorem SJ (f:Str) (v:V):∀fs:List (Str×V),(GP f v fs).length<=fs.length+1
 | []=>by simp[GP]
 | (k,x)::r=>by
  have ih:=SJ f v r
  rw[show GP f v ((k,x)::r)=(if k=f then (k,v)::r else (k,x)::GP f v r) from rfl]
  by_cases hk:k=f
  ·rw[if_pos hk,Qbr,Qbr];omega
  ·rw[if_neg hk,Qbr,Qbr];omega
theorem GR.some_of {v:V} {o:Option Value} (r:GR (some v) o):∃u,o=some u/\RelV v u:=by
 cases o with
 | none=>exact (show False from r).elim
 | some u=>exact⟨u,rfl,r⟩
theorem GR.none_of {o:Option Value} (r:GR none o):o=none:=by
 cases o with
 | none=>rfl
 | some u=>exact (show False from r).elim
theorem mG {v:V} {u:Value} (r:RelV v u):PySem.W.handedIn u=true:=by
 cases v with
 | non=>cases (show u=Value.none from r);rfl
 | bl b=>cases (show u=Value.bool b from r);rfl
 | int i=>obtain⟨t,e⟩:=(show ∃t,u=Value.int i t from r);cases e;rfl
 | str x=>obtain⟨t,e⟩:=(show ∃t,u=Value.str x t from r);cases e;rfl
 | byt b=>obtain⟨t,e⟩:=(show ∃t,u=Value.bytes b t from r);cases e;rfl
 | flt b=>obtain⟨t,e⟩:=(show ∃t,u=Value.float b t from r);cases e;rfl
 | ref a=>cases (show u=Value.ref a from r);rfl
 | ty n=>cases (show u=Value.type n from r);rfl
section
variable {P:Program} {w:World} {H H':Hp} {h h':Heap} {a C dx:Addr} {fs fs':List (Str×V)}
theorem Rz (hok:HOk P w H h) (e:H a=some (.ins C dx fs)):∃mA,T9 h a dx C mA/\(∀f,GR (fs.lookup f) (mA f))/\PySem.Within mA (fs.map (·.1))/\fs.length<=1000/\H dx=some (.own a):=by
 obtain⟨d,z,ne,ob,mA,n,r,q⟩:=(show Bt P w H h a (.ins C dx fs) from hok a _ e)
 exact⟨mA,⟨ob,n,ne⟩,r,q,z,d⟩
end
structure Cls (K:YD) (C:Addr):Prop where
 pg:plainGet K C Str.empty=true
 hd:hasDictIn K C=true
 po:PySem.W.plainOver K C=true
 sa:findIn K (.ref C) "__setattr__"=some (some (.builtin "object.__setattr__"))
theorem Cls.get {K:YD} {C:Addr} (c:Cls K C) (f:Str):plainGet K C f=true:=c.pg
def Im (K:YD) (C:Addr) (f:Str):Prop:=findIn K (.ref C) f=some none
theorem Im.taker {K:YD} {C:Addr} {f:Str} (n:Im K C f):PySem.W.takerIn K C f=some none:=by
 unfold PySem.W.takerIn
 rw[show findIn K (.ref C) f=some none from n]
 rfl
structure Meth (K:YD) (C:Addr) (m:Str) (f:Addr):Prop where
 at_:findIn K (.ref C) m=some (some (.ref f))
 fn:isFn K (.ref f)=true
 kp:keepIn K (.ref f)=true
section
variable {X:Cx} {pins:YC} {σ : St} {H:Hp} {s:Shared} {a C dx:Addr} {fs:List (Str×V)} {f:Str} {v:V} {A:Around} {E:YA}
theorem iM {b:Bool} {Q:YA} (I:Inv X pins σ H s) (e:H a=some (.ins C dx fs)) (c:Cls X.K C) (n:Im X.K C f) (l:fs.lookup f=some v)
  (h:∀u s',Inv X pins σ H s'->RelV v u->Q u s'):wpAny (model X.prog X.w) A (getAttr (.ref a) f b) Q E s:=by
 obtain⟨mA,O,r,_,_,_⟩:=Rz I.hok e
 obtain⟨u,hu,ru⟩:=GR.some_of (v:=v) (o:=mA f) (by rw[<-l];exact r f)
 exact get_map I.kIn O (c.get f) c.hd n hu (mG ru) (h u _ (I.tok _) ru)
theorem LC {m:Str} {g:Addr} {pl:Sem Bool} {Q:Value×YE->Shared->Prop} (I:Inv X pins σ H s) (e:H a=some (.ins C dx fs)) (c:Cls X.K C) (k:Meth X.K C m g) (l:fs.lookup m=none)
  (h:Q (.ref g,[.ref a]) s):wpAny (model X.prog X.w) A (getMethod (.ref a) m pl) Q E s:=by
 obtain⟨mA,O,r,_,_,_⟩:=Rz I.hok e
 have hn:mA m=none:=GR.none_of (by rw[<-l];exact r m)
 exact uh I.kIn O (c.get m) k.at_ k.fn hn h
theorem fU {y:V} {u:Value} {Q:YH} (I:Inv X pins σ H s) (e:H a=some (.ins C dx fs)) (c:Cls X.K C) (n:Im X.K C f) (hl:fs.length < 1000) (ry:RelV y u)
  (h:∀s',Inv X pins σ (upd H a (.ins C dx (GP f y fs))) s'->Q () s'):wpAny (model X.prog X.w) A (setAttr (.ref a) f u) Q E s:=by
 obtain⟨mA,O,r,wi,_,ho⟩:=Rz I.hok e
 have hz:(fs.map (·.1)).length<=sizeLine:=by rw[QbB,Qcu];omega
 refine wD I.kIn O c.sa c.po n.taker c.hd wi hz λh' O' sb=>h _ ?_
 have hd:∃o,h'.get? dx=some o:=let ⟨o,_,_,e',_⟩:=O'.ns;⟨o,e'⟩
 refine I.write (x:=a) (e:=dx) (by rw[e];exact True.intro) (.inr ho) (λb q hb z=>(sb.2 b hb).trans z) hd ?_
 refine⟨by rw[Al O.ne];exact ho,?_,O.ne,O'.obj,_,O'.ns,λg=>?_,λg hg=>?_⟩
 ·have:=SJ f y fs;omega
 ·show GR ((GP f y fs).lookup g) (if g=f then some u else mA g)
  rw[Sy]
  by_cases q:g=f
  ·rw[if_pos q,if_pos q];exact ry
  ·rw[if_neg q,if_neg q];exact r g
 ·by_cases q:g=f
  ·rw[q];exact (Q6 f y fs).1
  ·refine (Q6 f y fs).2 g (wi g λz=>hg ?_)
   show (if g=f then some u else mA g)=none
   rw[if_neg q];exact z
theorem Inv.made (I:Inv X pins σ H s):Inv X pins σ (upd (upd H s.heap.objs.size (.own (s.heap.objs.size+1))) (s.heap.objs.size+1) (.ins C s.heap.objs.size []))
  { s with heap:=(s.heap.push emptyDict).push (instObj C s.heap.objs.size) }:=by
 have e1:(s.heap.push emptyDict).get? s.heap.objs.size=some emptyDict:=QaI s.heap rfl
 have e2:((s.heap.push emptyDict).push (instObj C s.heap.objs.size)).get? (s.heap.objs.size+1)=some (instObj C s.heap.objs.size):=by
  have:=QaI (s.heap.push emptyDict) (o:=instObj C s.heap.objs.size) rfl
  rwa [QbT] at this
 have e3:(s.heap.push emptyDict).Ns s.heap.objs.size (λ_=>none):=⟨emptyDict,#[],_,e1,rfl,(λe he=>absurd he (by simp)),λ_=>rfl⟩
 have I1:=I.laid (a:=s.heap.objs.size) (o:=.own (s.heap.objs.size+1)) (h':=s.heap.push emptyDict) (t':=s.toks) (λb u q=>Qav _ q) (Qcq _) ⟨_,e1⟩
 refine I1.laid (a:=s.heap.objs.size+1) (o:=.ins C s.heap.objs.size []) (t':=s.toks) (λb u q=>Qav _ q) (Nat.le_of_eq (QbT _ _)) ?_
 have ne:s.heap.objs.size≠s.heap.objs.size+1:=Qcj (Qby _)
 refine⟨by rw[Al ne,Ac],Qcr _,ne,e2,λ_=>none,(Heap.Ns1.of_empty e3).at λo q=>Qav _ q,λ_=>True.intro,λy hy=>absurd rfl hy⟩
theorem yx {prog:Program} {w:World} {env:Env} {e:Expr} {f:Str} {pos:Pos} {s:Shared} {Q:YA} (hb:attributeBase e f env (eval e env)=eval e env)
  (h:wpAny (model prog w) A (eval e env) (λo s₁=>wpAny (model prog w) A (getAttr o f true) Q E s₁) E s):wpAny (model prog w) A (eval (.Attribute e f pos) env) Q E s:=
 Attribute_any_ h (by rw[arm_eval_Attribute,hb])
end
def D3 (K:YD) (ta:TE) (f:Str):TE:=fun σ H Q=>ta σ H λx H1=>∃a C dx fs v,x=.ref a/\H1 a=some (.ins C dx fs)/\Cls K C/\Im K C f/\fs.lookup f=some v/\Q v H1
section
variable {X:Cx} {o e value:Expr} {f:Str} {pos pos' tpos:Pos} {ta tv:TE}
theorem Gs (he:PE X e ta) (hb:attributeBase e f X.env (eval e X.env)=eval e X.env):PE X (.Attribute e f pos) (D3 X.K ta f):=by
 intro pins s σ H Q I h
 refine yx hb (thn (he pins s σ H _ I h) λu s1 zz=>?_)
 obtain⟨x,H1,I1,rx,a,C,dx,fs,v,ex,ea,c,n,l,q⟩:=zz
 subst ex
 obtain rfl:u=Value.ref a:=rx
 exact iM I1 ea c n l λu' s2 I2 ru=>⟨v,H1,I2,ru,q⟩
theorem BS {pl:Sem Bool} {m:Str} {apos:Pos} {args:YJ} {pins:YC} {s:Shared} {σ : St} {H:Hp} {Q:YA} {te:TE} (he:PE X e te) (I:Inv X pins σ H s)
  (h:te σ H λx H1=>∃a C dx fs g,x=.ref a/\H1 a=some (.ins C dx fs)/\Cls X.K C/\Meth X.K C m g/\fs.lookup m=none /\
   ∀s1,Inv X pins σ H1 s1->wpAny (model X.prog X.w) X.A (callWith pos (.ref g) [.ref a] (backTo pos (starEach args X.env)) (backToKw pos (keywordEach [] X.env))) Q X.xe s1)
  (ht:eval (.Call (.Attribute e m apos) args [] pos) X.env=(do
   let ov <-eval e X.env
   standAt apos.atName
   let (f,first) <-holding [ov] (getMethod ov m pl)
   callWith pos f first (backTo pos (starEach args X.env)) (backToKw pos (keywordEach [] X.env)))) :
  wpAny (model X.prog X.w) X.A (eval (.Call (.Attribute e m apos) args [] pos) X.env) Q X.xe s:=by
 refine methodCall_KW (pl:=pl) (thn (he pins s σ H _ I h) λu s1 zz=>?_) ht
 obtain⟨x,H1,I1,rx,a,C,dx,fs,g,ex,ea,c,k,l,q⟩:=zz
 subst ex
 obtain rfl:u=Value.ref a:=rx
 exact LC I1 ea c k l (q s1 I1)
end
section
variable {X:Cx} {pins:YC} {σ : St} {H:Hp} {s:Shared} {A:Around} {E:YA} {Q:YA} {c:Value} {b:Bool}
inductive Kc (K:YD) (H:Hp):V->Value->Prop where
 | non:Kc K H .non (.type "NoneType")
 | bl (x:Bool):Kc K H (.bl x) (.type "bool")
 | int (i:Int):Kc K H (.int i) (.type "int")
 | str (x:Str):Kc K H (.str x) (.type "str")
 | flt (x:UInt64):Kc K H (.flt x) (.type "float")
 | lst {a:Addr} {xs:YG} (e:H a=some (.lst xs)):Kc K H (.ref a) (.type "list")
 | frz {a:Addr} {o:Obj} {xs:YG} (e:H a=some (.frz o (.lst xs))):Kc K H (.ref a) (.type "list")
 | tup {a:Addr} {xs:YG} (e:H a=some (.tup xs)):Kc K H (.ref a) (.type "tuple")
 | dK {a:Addr} {kvs:List (Key×V)} (e:H a=some (.dK kvs)):Kc K H (.ref a) (.type "dict")
 | dT {a:Addr} {kvs:List (List Key×V)} (e:H a=some (.dT kvs)):Kc K H (.ref a) (.type "dict")
 | ins {a C dx:Addr} {fs:List (Str×V)} (e:H a=some (.ins C dx fs)) (cl:Cls K C) (ha:findIn K (.ref C) "__class__"=some (some (.builtin "object.__class__")))
   (hn:PySem.W.specialIn K (.builtin "object.__class__") "__get__"=some (some (.builtin "getset_descriptor.__get__"))) (htk:PySem.W.takesIn K (.builtin "object.__class__")=some true)
   (hm:PySem.W.mroIn K C (.type "object")=some true):Kc K H (.ref a) (.ref C)
theorem lZ {x:V} {u t:Value} (I:Inv X pins σ H s) (rx:RelV x u) (ty:Kc X.K H x t) (e:kitOne X.K t c=some b) (h:∀tk,Q (.bool b) { s with toks:=tk }) :
  wpAny (model X.prog X.w) A (call (.builtin "isinstance") [u,c]) Q E s:=by
 cases ty with
 | non=>cases (show u=Value.none from rx);exact kia_one PySem.W.kitx_none I.kIn True.intro e (λz=>nomatch z) h
 | bl y=>cases (show u=Value.bool y from rx);exact kia_one PySem.W.kitx_bool I.kIn True.intro e (λz=>nomatch z) h
 | int i=>obtain⟨t,q⟩:=(show ∃t,u=Value.int i t from rx);cases q;exact kia_one PySem.W.kitx_int I.kIn True.intro e (λz=>nomatch z) h
 | str y=>obtain⟨t,q⟩:=(show ∃t,u=Value.str y t from rx);cases q;exact kia_one PySem.W.kitx_str I.kIn True.intro e (λz=>nomatch z) h
 | flt y=>obtain⟨t,q⟩:=(show ∃t,u=Value.float y t from rx);cases q;exact kia_one PySem.W.kitx_float I.kIn True.intro e (λz=>nomatch z) h
 | @lst a xs ea=>
  cases (show u=Value.ref a from rx)
  obtain⟨_,_,n,_,h1⟩:=(show Bt X.prog X.w H s.heap a (.lst xs) from I.hok a _ ea)
  exact kia_one PySem.W.kitx_list I.kIn ⟨_,h1,rfl⟩ e (λz=>nomatch z) h
 | @frz a ob xs ea=>
  cases (show u=Value.ref a from rx)
  obtain⟨_,_,_,n,_,h1⟩:=(show Bt X.prog X.w H s.heap a (.frz ob (.lst xs)) from I.hok a _ ea)
  exact kia_one PySem.W.kitx_list I.kIn ⟨_,h1,rfl⟩ e (λz=>nomatch z) h
 | @tup a xs ea=>
  cases (show u=Value.ref a from rx)
  obtain⟨_,_,_,p⟩:=(show Bt X.prog X.w H s.heap a (.tup xs) from I.hok a _ ea)
  obtain⟨o,h1,h2,_⟩:=p
  exact kia_one PySem.W.kitx_tuple I.kIn ⟨o,h1,h2⟩ e (λz=>nomatch z) h
 | @dK a kvs ea=>
  cases (show u=Value.ref a from rx)
  obtain⟨_,_,vs,_,p⟩:=(show Bt X.prog X.w H s.heap a (.dK kvs) from I.hok a _ ea)
  obtain⟨o,es,ep,h1,h2,_⟩:=p
  exact kia_one PySem.W.kitx_dict I.kIn ⟨o,h1,h2.1⟩ e (λz=>nomatch z) h
 | @dT a kvs ea=>
  cases (show u=Value.ref a from rx)
  obtain⟨_,_,xs,_,o,es,ep,h1,h2,_⟩:=(show Bt X.prog X.w H s.heap a (.dT kvs) from I.hok a _ ea)
  exact kia_one PySem.W.kitx_dict I.kIn ⟨o,h1,h2.1⟩ e (λz=>nomatch z) h
 | @ins a C dx fs ea cl ha hn htk hm=>
  cases (show u=Value.ref a from rx)
  obtain⟨mA,O,_⟩:=Rz I.hok ea
  obtain⟨od,J,_⟩:=O.look
  exact kia_one (PySem.W.kitx_own (cl.get _) cl.hd ha hn htk hm) I.kIn J e (λz=>nomatch z) h
end
structure Cw (k:Nat) (A:Around):Prop where
 hd:A.handled=none
 dp:A.depth+3*k+5 < recursionLimit
 un:A.units+16*k+200 < cLine
theorem Cw.mono {j k:Nat} {A:Around} (r:Cw k A) (h:j<=k):Cw j A:=⟨r.hd,by have:=r.dp;omega,by have:=r.un;omega⟩
theorem Cw.deeper {k:Nat} {A:Around} (r:Cw (k+1) A) (env:Env):Cw k (A.deeper env):=
 ⟨r.hd,by have:=r.dp;show A.depth+1+3*k+5 < _;omega,by have:=r.un;show A.units+3+16*k+200 < _;omega⟩
theorem Cw.in1 {k:Nat} {A:Around} (r:Cw (k+1) A):Cw k A.in1:=
 ⟨r.hd,by have:=r.dp;show A.depth+3*k+5 < _;omega,by have:=r.un;show A.units+1+16*k+200 < _;omega⟩
theorem ig {A:Around} {C:Addr} {us:YE} {kw:List (Str×Value)}:(A.under (.builtin "type.__call__" ⟨.ref C::us,kw⟩)).depth=A.depth+1:=by
 first | rfl | simp[Around.under,Code.weight,Code.isCreation,Code.isGuard,Code.isCaller,Code.frames,Code.isFrame,guardIds]
theorem gZ {A:Around} {C:Addr} {us:YE} {kw:List (Str×Value)}:(A.under (.builtin "type.__call__" ⟨.ref C::us,kw⟩)).units=A.units+1:=by
 first | rfl | simp[Around.under,Code.cUnits,Code.frames,Code.isFrame]
theorem Cw.make {k:Nat} {A:Around} (r:Cw (k+1) A) (C:Addr) (us:YE) (kw:List (Str×Value)):Cw k (A.under (.builtin "type.__call__" ⟨.ref C::us,kw⟩)):=
 ⟨r.hd,by have:=r.dp;rw[ig];omega,by have:=r.un;rw[gZ];omega⟩
theorem Cw.depth {k:Nat} {A:Around} (r:Cw k A):A.depth < recursionLimit:=by have:=r.dp;omega
theorem Cw.units {k:Nat} {A:Around} (r:Cw k A):A.units+64 < cLine:=by have:=r.un;omega
def fK:TA:=λ_ H Q=>Q [] H
def vd (ta:TE) (tr:TA):TA:=fun σ H Q=>ta σ H λx H1=>tr σ H1 λxs H2=>Q (x::xs) H2
section
variable {X:Cx} {e:Expr} {es:YJ} {te:TE} {t:TA} {pos:Pos}
theorem Ab:PA X [] fK:=λ_ _ _ _ H Q I h=>Calls.spliced_nil ⟨[],H,I,.nil,h⟩
theorem Aa (ha:PE X e te) (hr:PA X es t) (hs:starEach (e::es) X.env=(false,eval e X.env)::starEach es X.env:=by rfl):PA X (e::es) (vd te t):=by
 intro pos pins s σ H Q I h
 rw[hs]
 show wpAny _ _ (spliced ((false,eval e X.env)::backTo pos (starEach es X.env))) _ _ s
 refine Qbe (thn (ha pins s σ H _ I h) λu s1 zz=>?_)
 obtain⟨x,H1,I1,r1,q1⟩:=zz
 refine thn (hr pos pins s1 σ H1 _ I1 q1) λus s2 zz=>?_
 obtain⟨xs,H2,I2,r2,q2⟩:=zz
 exact⟨x::xs,H2,I2,.cons r1 r2,q2⟩
def DO (t:TA):TE:=fun σ H Q=>t σ H λxs H1=>xs.length<=sizeLine/\∀p,H1 p=none->Q (.ref p) (upd H1 p (.tup xs))
def D0 (t:TA):TE:=fun σ H Q=>t σ H λxs H1=>xs.length<=sizeLine/\∀p,H1 p=none->Q (.ref p) (upd H1 p (.lst xs))
theorem Bd {x1} (h:PA X es t):PE X (.Tuple es x1 pos) (DO t):=by
 intro pins s σ H Q I hq
 refine wpAny_Tuple_spliced (thn (h pos pins s σ H _ I hq) λus s1 zz=>?_)
 obtain⟨xs,H1,I1,r,z,q⟩:=zz
 refine⟨by rw[<-r.length];exact z,?_⟩
 have hf:H1 s1.heap.objs.size=none:=I1.hok.fresh (Qcq _)
 refine⟨.ref s1.heap.objs.size,upd H1 s1.heap.objs.size (.tup xs),I1.laid (t':=s1.toks) (λb u e=>Qav _ e) (Qcq _) ?_,rfl,q _ hf⟩
 exact⟨z,us,r,⟨_,QaI _ rfl,rfl,_,rfl⟩⟩
theorem BP (h:PA X es t):PE X (.List es pos) (D0 t):=by
 intro pins s σ H Q I hq
 refine wpAny_List_spliced (thn (h pos pins s σ H _ I hq) λus s1 zz=>?_)
 obtain⟨xs,H1,I1,r,z,q⟩:=zz
 refine⟨by rw[<-r.length];exact z,?_⟩
 have hf:H1 s1.heap.objs.size=none:=I1.hok.fresh (Qcq _)
 refine⟨.ref s1.heap.objs.size,upd H1 s1.heap.objs.size (.lst xs),I1.laid (t':=s1.toks) (λb u e=>Qav _ e) (Qcq _) ?_,rfl,q _ hf⟩
 exact⟨z,us,0,r,QaI _ rfl⟩
end
abbrev Sp:=YG->Hp->VK->XK->Prop
abbrev CXT:=List Env->Hp->Shared->XK->YA
structure Lj (P:Program) (w:World) (K:YD) (mg:YB) (base:Heap) (A:Around) (outer:List Env) (s:Shared) (H:Hp):Prop where
 frames:A.frames=some outer
 mod:Mod K mg base
 bs:∀b o,base.get? b=some o->s.heap.get? b=some o/\H b=none
 bsz:base.objs.size<=s.heap.objs.size
 Gh:s.heap.FunFrames base outer
 frf:∀b∈frs outer,H b=none
 hok:HOk P w H s.heap
 bare:AllBare s.gens
def CE (outer:List Env) (P:Program) (w:World) (H:Hp) (s:Shared) (Q:VK) (u:Value) (s':Shared):Prop:=
 ∃v H',s'.os=s.os/\AllBare s'.gens/\Un (frs outer) [] H H' s.heap s'.heap/\HOk P w H' s'.heap/\RelV v u/\Q v H'
def CR (CX:CXT) (outer:List Env) (P:Program) (w:World) (H:Hp) (s:Shared) (Q:VK) (E:XK) (r:Result) (s':Shared):Prop:=
 match r with
 | .ok (.ret u)=>CE outer P w H s Q u s'
 | .ok _=>False
 | .error e=>CX outer H s E e s'
structure Gj (P:Program) (w:World) (K:YD) (mg:YB) (base:Heap) (CX:CXT) (k:Nat) (f:Addr) (fd:FuncData) (ps:YF) (sp:Sp):Prop where
 len:∀vs H Q E,sp vs H Q E->vs.length=ps.length
 run:∀(A:Around) (outer:List Env) (s:Shared) (H:Hp) (args:Args) (us:YE) (vs:YG) (Q:VK) (E:XK),Cw k A->Lj P w K mg base A outer s H->BindsTo s fd args (ps.zip us)->Vals vs us->sp vs H Q E ->
  codeAny (model P w) A (.call (.ref f) args) (CR CX outer P w H s Q E) s
theorem Gj.imp {P:Program} {w:World} {K:YD} {mg:YB} {base:Heap} {CX:CXT} {k:Nat} {f:Addr} {fd:FuncData} {ps:YF} {sp sp':Sp} (F:Gj P w K mg base CX k f fd ps sp)
  (h:∀vs H Q E,sp' vs H Q E->sp vs H Q E):Gj P w K mg base CX k f fd ps sp':=
 ⟨λvs H Q E q=>F.len vs H Q E (h _ _ _ _ q),λA outer s H args us vs Q E hr he hb hv hs=>F.run A outer s H args us vs Q E hr he hb hv (h _ _ _ _ hs)⟩
theorem Lj.make {P:Program} {w:World} {K:YD} {mg:YB} {base:Heap} {A:Around} {outer:List Env} {s:Shared} {H:Hp} (e:Lj P w K mg base A outer s H) (C:Addr) (us:YE) (kw:List (Str×Value)) :
  Lj P w K mg base (A.under (.builtin "type.__call__" ⟨.ref C::us,kw⟩)) outer s H:=⟨by first | exact e.frames | (simpa [Around.under,Code.envs,Code.isFrame,pushEnvs] using e.frames),e.mod,e.bs,e.bsz,e.Gh,e.frf,e.hok,e.bare⟩
theorem Lj.in1 {P:Program} {w:World} {K:YD} {mg:YB} {base:Heap} {A:Around} {outer:List Env} {s:Shared} {H:Hp} (e:Lj P w K mg base A outer s H) :
  Lj P w K mg base A.in1 outer s H:=⟨e.frames,e.mod,e.bs,e.bsz,e.Gh,e.frf,e.hok,e.bare⟩
section
variable {X:Cx} {pins:YC} {σ : St} {H:Hp} {s s':Shared}
theorem Inv.env0 (I:Inv X pins σ H s):Lj X.prog X.w X.K X.mg X.base X.A X.stack s H:=
 ⟨I.ok.frames,I.ok.mod,I.bs,Qck I.ok.bsz I.sz,I.stack,I.Vl,I.hok,I.bare⟩
theorem Inv.after {Q:VK} {u:Value} (I:Inv X pins σ H s) (h:CE X.stack X.prog X.w H s Q u s'):EP X pins σ Q u s':=by
 obtain⟨v,H',os,bare,un,hok,r,q⟩:=h
 obtain⟨hh,g,d,t,os'⟩:=s'
 obtain rfl:os'=s.os:=os
 exact⟨v,H',I.call (h':=hh) (g':=g) (d':=d) (t':=t) (ch:=[]) un hok bare (λb z=>absurd z (by simp)),r,q⟩
end
def fM (sp:Sp) (dvs:YG) (E:XK) (t:TA):TE:=fun σ H Q=>t σ H λvs H1=>sp (vs++dvs) H1 Q E
def Xw (C:Addr) (m:Str) (sp:Sp) (dvs:YG) (E:XK) (ta:TE) (t:TA):TE:=fun σ H Q=>ta σ H λx H1=>∃a dx fs,x=.ref a/\H1 a=some (.ins C dx fs)/\fs.lookup m=none /\
 t σ H1 λvs H2=>sp (x::(vs++dvs)) H2 Q E
def uZ (C:Addr) (sp:Sp) (dvs:YG) (E:XK) (t:TA):TE:=fun σ H Q=>t σ H λvs H1=>∀x dx,H1 x=none->H1 dx=none->dx≠x ->
 sp (.ref x::(vs++dvs)) (upd (upd H1 dx (.own x)) x (.ins C dx [])) (λv H2=>v=.non/\Q (.ref x) H2) E
def Binds (K:YD) (fd:FuncData) (ps:YF) (ds:YE):Prop:=
 ∀(s:Shared) (us:YE),K.In s.heap->(us++ds).length=ps.length->BindsTo s fd ⟨us,[]⟩ (ps.zip (us++ds))
theorem Binds.all {K:YD} {fd:FuncData} {ps:YF} (h:∀us:YE,us.length=ps.length->bindArgs fd ⟨us,[]⟩=pure (ps.zip us)):Binds K fd ps []:=λs us _ hl=>by
 rw[QbF] at hl ⊢
 exact .of_eq (h us hl)
def Passes (CX:CXT) (X:Cx) (E:XK):Prop:=∀(pins:YC) (σ : St) (H:Hp) (s:Shared) (e:Value) (s':Shared),Inv X pins σ H s->CX X.stack H s E e s'->X.xe e s'
section
variable {X:Cx} {CX:CXT} {k:Nat} {f C:Addr} {fd:FuncData} {ps:YF} {sp:Sp} {dvs:YG} {ds:YE} {E:XK} {x m:Str} {p pos apos:Pos} {e o:Expr} {es:YJ} {ta:TE} {t:TA}
theorem Yz {pins:YC} {σ : St} {H:Hp} {s:Shared} {Q:VK} {us:YE} {vs:YG} (F:Gj X.prog X.w X.K X.mg X.base CX k f fd ps sp) (hr:Cw k X.A) (hb:Binds X.K fd ps ds) (hd:Vals dvs ds) (hx:Passes CX X E)
  (I:Inv X pins σ H s) (r:Vals vs us) (h:sp (vs++dvs) H Q E):wpAny (model X.prog X.w) X.A (call (.ref f) us) (EP X pins σ Q) X.xe s:=by
 have r2:Vals (vs++dvs) (us++ds):=r.append hd
 have hl:(us++ds).length=ps.length:=by rw[<-r2.length];exact F.len _ _ _ _ h
 refine wpAny_call (Qcp (F.run X.A X.stack s H ⟨us,[]⟩ (us++ds) (vs++dvs) Q E hr I.env0 (hb s us I.kIn hl) r2 h) λr s' hq=>?_)
 cases r with
 | error e=>exact hx pins σ H s e s' I hq
 | ok fl=>
  cases fl with
  | ret u=>exact I.after hq
  | next=>exact False.elim hq
  | brk=>exact False.elim hq
  | cont=>exact False.elim hq
theorem wN (F:Gj X.prog X.w X.K X.mg X.base CX k f fd ps sp) (hr:Cw k X.A) (hg:Gl X x) (hm:X.mg x=some (.ref f)) (hk:keepIn X.K (.ref f)=true) (hb:Binds X.K fd ps ds) (hd:Vals dvs ds) (hx:Passes CX X E)
  (ha:PA X (e::es) t) (hdb:(x == ("__debug__":Str))=false:=by decide) (he:starEach (e::es) X.env=(false,eval e X.env)::starEach es X.env:=by rfl) (hpl:(backTo pos (starEach es X.env)).any (·.1)=false:=by rfl) :
  PE X (.Call (.Name x p) (e::es) [] pos) (fM sp dvs E t):=by
 intro pins s σ H Q I h
 refine Qbc (Mg I hg hm ?_ hdb)
 refine callWith_K (h₀:=X.base) I.ok.mod.kin hk (thn (ha pos pins s σ H _ I h) λus s1 zz=>?_) he hpl
 obtain⟨vs,H1,I1,r,q⟩:=zz
 refine⟨I1.kIn,?_⟩
 exact Yz F hr hb hd hx I1 r q
theorem wL {pl:Sem Bool} (he:PE X o ta) (c:Cls X.K C) (hm:Meth X.K C m f) (F:Gj X.prog X.w X.K X.mg X.base CX k f fd ps sp) (hr:Cw k X.A) (hb:Binds X.K fd ps ds) (hd:Vals dvs ds) (hx:Passes CX X E) (ha:PA X (e::es) t)
  (hst:starEach (e::es) X.env=(false,eval e X.env)::starEach es X.env:=by rfl) (hpl:(backTo pos (starEach es X.env)).any (·.1)=false:=by rfl)
  (ht:eval (.Call (.Attribute o m apos) (e::es) [] pos) X.env=(do
   let ov <-eval o X.env
   standAt apos.atName
   let (f,first) <-holding [ov] (getMethod ov m pl)
   callWith pos f first (backTo pos (starEach (e::es) X.env)) (backToKw pos (keywordEach [] X.env))):=by rfl) :
  PE X (.Call (.Attribute o m apos) (e::es) [] pos) (Xw C m sp dvs E ta t):=by
 intro pins s σ H Q I h
 refine methodCall_KW (pl:=pl) (thn (he pins s σ H _ I h) λu s1 zz=>?_) ht
 obtain⟨x,H1,I1,rx,a,dx,fs,ex,ea,l,q⟩:=zz
 subst ex
 obtain rfl:u=Value.ref a:=rx
 refine LC I1 ea c hm l ?_
 refine callWith_K (first:=[.ref a]) (h₀:=X.base) I.ok.mod.kin hm.kp (thn (ha pos pins s1 σ H1 _ I1 q) λus s2 zz=>?_) hst hpl
 obtain⟨vs,H2,I2,r,q2⟩:=zz
 refine⟨I2.kIn,?_⟩
 exact Yz (us:=.ref a::us) (vs:=.ref a::vs) F hr hb hd hx I2 (.cons rfl r) q2
theorem p8 {pl:Sem Bool} (he:PE X o ta) (c:Cls X.K C) (hm:Meth X.K C m f) (F:Gj X.prog X.w X.K X.mg X.base CX k f fd ps sp) (hr:Cw k X.A) (hb:Binds X.K fd ps ds) (hd:Vals dvs ds) (hx:Passes CX X E)
  (ht:eval (.Call (.Attribute o m apos) [] [] pos) X.env=(do
   let ov <-eval o X.env
   standAt apos.atName
   let (f,first) <-holding [ov] (getMethod ov m pl)
   callWith pos f first (backTo pos (starEach [] X.env)) (backToKw pos (keywordEach [] X.env))):=by rfl) :
  PE X (.Call (.Attribute o m apos) [] [] pos) (Xw C m sp dvs E ta fK):=by
 intro pins s σ H Q I h
 refine methodCall_KW (pl:=pl) (thn (he pins s σ H _ I h) λu s1 zz=>?_) ht
 obtain⟨x,H1,I1,rx,a,dx,fs,ex,ea,l,q⟩:=zz
 subst ex
 obtain rfl:u=Value.ref a:=rx
 refine LC I1 ea c hm l ?_
 exact PySem.W.callWith_K0 (first:=[.ref a]) I1.kIn hm.kp (Yz (us:=[.ref a]) (vs:=[.ref a]) F hr hb hd hx I1 (.cons rfl .nil) q)
structure Mk (K:YD) (C f:Addr):Prop where
 makes:makesIn K C=true
 init:findIn K (.ref C) "__init__"=some (some (.ref f))
 fn:isFn K (.ref f)=true
 kp:keepIn K (.ref C)=true
theorem pO {pins:YC} {σ : St} {H:Hp} {s:Shared} {Q:VK} {us:YE} {vs:YG} (M:Mk X.K C f) (F:Gj X.prog X.w X.K X.mg X.base CX k f fd ps sp) (hr:Cw (k+1) X.A) (hb:Binds X.K fd ps ds) (hd:Vals dvs ds)
  (hx:Passes CX X E) (I:Inv X pins σ H s) (r:Vals vs us)
  (h:∀x dx,H x=none->H dx=none->dx≠x->sp (.ref x::(vs++dvs)) (upd (upd H dx (.own x)) x (.ins C dx [])) (λv H2=>v=.non/\Q (.ref x) H2) E) :
  wpAny (model X.prog X.w) X.A (call (.ref C) us) (EP X pins σ Q) X.xe s:=by
 have hq:=h (s.heap.objs.size+1) s.heap.objs.size (I.hok.fresh (Nat.le_succ _)) (I.hok.fresh (Qcq _)) (Qcj (Qby _))
 have I2:=Inv.made (C:=C) I
 have r2:Vals (V.ref (s.heap.objs.size+1)::(vs++dvs)) (Value.ref (s.heap.objs.size+1)::(us++ds)):=.cons rfl (r.append hd)
 have hl:(Value.ref (s.heap.objs.size+1)::us++ds).length=ps.length:=by
  have e:=r2.length
  rw[F.len _ _ _ _ hq] at e
  exact e.symm
 refine wpAny_call (qQ (f:=f) I.kIn M.makes M.init (beq_iff_eq.mp M.fn) (Qcp (F.run _ X.stack _ _ ⟨Value.ref (s.heap.objs.size+1)::us,[]⟩ (Value.ref (s.heap.objs.size+1)::(us++ds)) _ _ E (hr.make C us [])
  (I2.env0.make C us []) (hb _ (Value.ref (s.heap.objs.size+1)::us) I2.kIn hl) r2 hq) λr s' hq'=>?_))
 cases r with
 | error e=>exact hx pins σ _ _ e s' I2 hq'
 | ok fl=>
  cases fl with
  | ret u=>
   obtain⟨v,H',I3,rv,ev,q3⟩:=I2.after hq'
   subst ev
   exact⟨rv,⟨V.ref (s.heap.objs.size+1),H',I3,rfl,q3⟩⟩
  | next=>exact False.elim hq'
  | brk=>exact False.elim hq'
  | cont=>exact False.elim hq'
theorem wM (M:Mk X.K C f) (F:Gj X.prog X.w X.K X.mg X.base CX k f fd ps sp) (hr:Cw (k+1) X.A) (hg:Gl X x) (hm:X.mg x=some (.ref C)) (hb:Binds X.K fd ps ds) (hd:Vals dvs ds) (hx:Passes CX X E)
  (ha:PA X (e::es) t) (hdb:(x == ("__debug__":Str))=false:=by decide) (he:starEach (e::es) X.env=(false,eval e X.env)::starEach es X.env:=by rfl) (hpl:(backTo pos (starEach es X.env)).any (·.1)=false:=by rfl) :
  PE X (.Call (.Name x p) (e::es) [] pos) (uZ C sp dvs E t):=by
 intro pins s σ H Q I h
 refine Qbc (Mg I hg hm ?_ hdb)
 refine callWith_K (h₀:=X.base) I.ok.mod.kin M.kp (thn (ha pos pins s σ H _ I h) λus s1 zz=>?_) he hpl
 obtain⟨vs,H1,I1,r,q⟩:=zz
 refine⟨I1.kIn,?_⟩
 exact pO M F hr hb hd hx I1 r q
end
def PK (X:Cx) (kws:List Keyword) (t:TA):Prop:=
 ∀(pos:Pos) (pins:YC) (s:Shared) (σ : St) (H:Hp) (Q:YG->Hp->Prop),Inv X pins σ H s->t σ H Q->wpAny (model X.prog X.w) X.A (evalAll ((backToKw pos (keywordEach kws X.env)).map (·.2))) (AP X pins σ Q) X.xe s
section
variable {X:Cx} {CX:CXT} {k:Nat} {f C:Addr} {fd:FuncData} {ps ks:YF} {sp:Sp} {E:XK} {x m:Str} {p pos apos kpos:Pos} {e o:Expr} {es:YJ} {kws:List Keyword} {te ta:TE} {t tk:TA} {nm:Option Str}
theorem zP:PK X [] fK:=λ_ _ _ _ H Q I h=>wpAny_evalAll_nil ⟨[],H,I,.nil,h⟩
theorem wK (ha:PE X e te) (hr:PK X kws t):PK X (⟨nm,e,kpos⟩::kws) (vd te t):=by
 intro pos pins s σ H Q I h
 show wpAny _ _ (evalAll ((do let v <-eval e X.env;standAt pos;pure v)::(backToKw pos (keywordEach kws X.env)).map (·.2))) _ _ s
 refine wpAny_evalAll_cons (Qcv (thn (ha pins s σ H _ I h) λu s1 zz=>?_))
 obtain⟨x,H1,I1,r1,q1⟩:=zz
 refine Qcv (Qce (Qcw ?_))
 refine thn (hr pos pins s1 σ H1 _ I1 q1) λus s2 zz=>?_
 obtain⟨xs,H2,I2,r2,q2⟩:=zz
 exact⟨x::xs,H2,I2,.cons r1 r2,q2⟩
variable {g:YE->YE->YE} {gV:YG->YG->YG}
end
structure Az (N P:YF) (sc:Scope):Prop where
 kind:sc.kind=.function
 co:sc.isCoroutine=false
 gen:sc.isGenerator=false
 nd:N.Nodup
 pre:N.take P.length=P
 par:∀x∈P,sc.names.lookup x=some .local\/sc.names.lookup x=some .cell
 Zr:∀y∈sc.names,y.2≠.free
theorem W9 {kindOf:Str->Option NameKind} {x:Str}:∀{binds:List (Str×Value)} {m:YB},(∀v,(x,v)∉binds)->bindL kindOf binds m x=m x
 | [],_,_=>rfl
 | (n,v)::r,m,h=>by
  unfold bindL
  rw[W9 λw hw=>h w (QaE _ hw)]
  split
  ·have:x≠n:=by rintro rfl;exact h v QaR
   simp[this]
  ·rfl
theorem Xb {kindOf:Str->Option NameKind} {x:Str}:∀{binds:List (Str×Value)} {m:YB},(∀v,(x,v)∉binds)->bindC kindOf binds m x=m x
 | [],_,_=>rfl
 | (n,v)::r,m,h=>by
  unfold bindC
  rw[Xb λw hw=>h w (QaE _ hw)]
  split
  ·rfl
  ·have:x≠n:=by rintro rfl;exact h v QaR
   simp[this]
theorem Xa {kindOf:Str->Option NameKind} {x:Str} {v:Value}:∀{P:YF} {vs:YE} {i:Nat} {m:YB},P.Nodup->P[i]?=some x->vs[i]?=some v->kindOf x=some .local ->
  bindL kindOf (P.zip vs) m x=some v
 | [],_,_,_,_,h,_,_=>by simp at h
 | _::_,[],_,_,_,_,h,_=>by simp at h
 | p::P,w::vs,0,m,nd,h1,h2,hk=>by
  simp at h1 h2;subst h1;subst h2
  show bindL kindOf ((p,w)::P.zip vs) m p=_
  unfold bindL
  rw[W9 λv hv=>(QbJ.mp nd).1 (List.of_mem_zip hv).1,if_pos hk]
  simp
 | p::P,w::vs,i+1,m,nd,h1,h2,hk=>by
  show bindL kindOf ((p,w)::P.zip vs) m x=_
  unfold bindL
  exact Xa (i:=i) (QbJ.mp nd).2 (by simpa using h1) (by simpa using h2) hk
theorem Xc {kindOf:Str->Option NameKind} {x:Str} {v:Value}:∀{P:YF} {vs:YE} {i:Nat} {m:YB},P.Nodup->P[i]?=some x->vs[i]?=some v->kindOf x≠some .local ->
  bindC kindOf (P.zip vs) m x=some v
 | [],_,_,_,_,h,_,_=>by simp at h
 | _::_,[],_,_,_,_,h,_=>by simp at h
 | p::P,w::vs,0,m,nd,h1,h2,hk=>by
  simp at h1 h2;subst h1;subst h2
  show bindC kindOf ((p,w)::P.zip vs) m p=_
  unfold bindC
  rw[Xb λv hv=>(QbJ.mp nd).1 (List.of_mem_zip hv).1,if_neg hk]
  simp
 | p::P,w::vs,i+1,m,nd,h1,h2,hk=>by
  show bindC kindOf ((p,w)::P.zip vs) m x=_
  unfold bindC
  exact Xc (i:=i) (QbJ.mp nd).2 (by simpa using h1) (by simpa using h2) hk
def start (N:YF) (vs:YG):St:=vs.map some++List.replicate (N.length - vs.length) none
def Lh (CX:CXT) (P:Program) (w:World) (K:YD) (mg:YB) (base:Heap) (N:YF) (qual:Str) (scope:Scope) (f:Addr) (cd:Value) (A:Around) (outer:List Env) (s:Shared) (H:Hp) (E:XK):Cx where
 prog:=P
 w:=w
 K:=K
 mg:=mg
 base:=base
 A:=A.deeper (envOfC qual scope s.heap.objs.size f cd)
 N:=N
 s₀:=s
 H₀:=H
 env:=envOfC qual scope s.heap.objs.size f cd
 outer:=outer
 stack:=envOfC qual scope s.heap.objs.size f cd::outer
 ex:=[]
 calm:=true
 fn:=λ_=>true
 pn:=[]
 xe:=λe s'=>wpAny (model P w) (A.deeper (envOfC qual scope s.heap.objs.size f cd)) (leaving (envOfC qual scope s.heap.objs.size f cd) e) (λ_ s''=>CX outer H s E e s'') (λe' s''=>CX outer H s E e' s'') s'
theorem au {sc:Scope} {n:Nat} {x:Str} (h:sc.names.lookup x=some .cell):∃c,(cellsFrom n sc.names []).lookup x=some c:=by
 have q:=PySem.W.cellsFrom_some sc.names n [] (.inl h)
 exact Option.isSome_iff_exists.mp q
theorem Wz {CX:CXT} {P:Program} {w:World} {K:YD} {mg:YB} {base:Heap} {N ps:YF} {qual:Str} {scope:Scope} {f:Addr} {cd:Value} {A:Around} {outer:List Env} {s s1:Shared} {H:Hp} {E:XK} {us:YE} {vs:YG}
  (S:Az N ps scope) (hd:A.handled=none) (e0:Lj P w K mg base A outer s H) (hl:vs.length=ps.length) (r:Vals vs us)
  (x:InCallC s s.heap.objs.size (bindL (envOfC qual scope s.heap.objs.size f cd).kindOf (ps.zip us) λ_=>none) (cellsFrom (s.heap.objs.size+1) scope.names []) (bindC (envOfC qual scope s.heap.objs.size f cd).kindOf (ps.zip us) λ_=>none) s1) :
  Inv (Lh CX P w K mg base N qual scope f cd A outer s H E) [] (start N vs) H s1:=by
 have hpl:ps.length<=N.length:=by have:=congrArg List.length S.pre;rw[Qbs] at this;omega
 obtain⟨h1,tk,rfl,hk⟩:=x.done
 have noA:∀b:Addr,b∉(Lh CX P w K mg base N qual scope f cd A outer s H E).ex:=λb z=>absurd (show b∈([]:List Addr) from z) (by simp)
 refine⟨⟨e0.mod,S.kind,rfl,rfl,Qcq _,λy z c h1 h2=>?_,λy hy=>?_,λy c _ h=>?_,λ_=>hd,Around.frames_deeper e0.frames,.inr ⟨rfl,rfl⟩,λb z=>absurd z (noA b),e0.bs,e0.bsz,λb _ _=>noA b,λb z=>absurd z (noA b),e0.Gh,e0.frf⟩,
  rfl,e0.bare,Un.kept hk,⟨_,x.toInCall.ns,λi y v h1 h2 h3=>?_⟩,λy c h=>⟨_,x.cell y c h⟩,e0.hok.fresh (Qcq _),λy c h=>?_,λp hp=>absurd (show p∈([]:YC) from hp) (by simp),e0.hok.kept hk,?_⟩
 ·exact name_of_addr x.apart (QaO h1) (QaO h2)
 ·have hy:scope.names.lookup y=some .cell\/scope.names.lookup y=some .free:=hy
  rcases hy with hy | hy
  ·exact au hy
  ·exact absurd rfl (S.Zr _ (QaO hy))
 ·exact Qcn (x.above y c (QaO h))
 ·have hi:i < vs.length:=by
   unfold start at h2
   by_cases hi:i < vs.length
   ·exact hi
   ·rw[List.getElem?_append_right (by simpa using hi)] at h2
    rw[List.getElem?_replicate] at h2
    split at h2 <;> cases h2
  have ha:vs[i]?=some v:=by
   unfold start at h2
   rw[List.getElem?_append_left (by simpa using hi),Qbi] at h2
   cases e:vs[i]? with
   | none=>rw[e] at h2;cases h2
   | some a=>rw[e] at h2;cases h2;rfl
  obtain⟨u,hu,rv⟩:=r.get ha
  have hp:ps[i]?=some y:=by
   rw[<-S.pre,List.getElem?_take_of_lt (by omega)];exact h1
  have ndP:ps.Nodup:=by rw[<-S.pre];exact S.nd.sublist (List.take_sublist _ _)
  refine⟨u,rv,?_⟩
  rcases S.par y (QaD hp) with k | k
  ·exact .inl ⟨k,Xa ndP hp hu k⟩
  ·obtain⟨c,e⟩:=au (n:=s.heap.objs.size+1) k
   refine .inr ⟨.inl k,c,e,?_⟩
   have q:=x.cell y c e
   rw[Xc ndP hp hu (by show scope.names.lookup y≠_;rw[k];decide)] at q
   exact q
 ·exact e0.hok.fresh (Qcn (x.above y c (QaO h)))
 ·unfold start
  show _=N.length
  rw[QaQ,QbB,List.length_replicate]
  omega
theorem vN {CX:CXT} {P:Program} {w:World} {K:YD} {mg:YB} {base:Heap} {k:Nat} {f:Addr} {name qual:Str} {params:Arguments} {body:List Stmt} {scope:Scope} {dV kV doc pm cdv ct oc:Value} {an od:Option Addr}
  {osl:YI} {N ps:YF} {sp:Sp} (lk:K.lookup f=some ⟨oc,od,.func (fnOf name qual params body scope dV kV doc pm an cdv ct),osl⟩) (hcd:codeIn K cdv qual=true) (S:Az N ps scope)
  (len:∀vs H Q E,sp vs H Q E->vs.length=ps.length)
  (hbody:∀(A:Around) (outer:List Env) (s:Shared) (H:Hp) (vs:YG) (Q:VK) (E:XK),Cw k (A.deeper (envOfC qual scope s.heap.objs.size f cdv))->sp vs H Q E ->
   ∃t,PSs (Lh CX P w K mg base N qual scope f cdv A outer s H E) body t/\t { nx:=λ_ H'=>Q .non H',rt:=Q } (start N vs) H) :
  Gj P w K mg base CX (k+1) f (fnOf name qual params body scope dV kV doc pm an cdv ct) ps sp:=by
 refine⟨len,λA outer s H args us vs Q E hr e0 hb r hsp=>?_⟩
 have hl:=len _ _ _ _ hsp
 have KX:K.In s.heap:=e0.mod.kin.keeps λb o e=>(e0.bs b o e).1
 have lim:s.heap.NoLimit:=e0.mod.nolimit.keeps λb o e=>(e0.bs b o e).1
 have hkind:∀y∈ps.zip us,scope.names.lookup y.1=some .local\/(scope.names.lookup y.1=some .cell/\((cellsFrom (s.heap.objs.size+1) scope.names []).lookup y.1).isSome=true):=λ⟨n,v⟩ hy=>by
  rcases S.par n (List.of_mem_zip hy).1 with q | q
  ·exact .inl q
  ·exact .inr ⟨q,PySem.W.cellsFrom_some _ _ _ (.inl q)⟩
 refine codeAny_call_function hr.depth (KX _ _ lk) rfl S.co S.gen rfl (PySem.W.codeRec_of KX hcd) (hb _ _ _ _ ?_)
 refine wpAny_newFunctionEnv_cells S.kind hkind λenv he s1 x=>?_
 subst he
 refine⟨lim.keeps x.toInCall.keep,codeAny_func ?_⟩
 obtain⟨t,ht,hq⟩:=hbody A outer s H vs Q E (hr.deeper _) hsp
 have I:Inv (Lh CX P w K mg base N qual scope f cdv A outer s H E) [] (start N vs) H s1:=Wz S hr.hd e0 hl r x
 refine Qcx (ht [] s1 (start N vs) H _ I hq) (λfl s' hs=>?_) λe s' hs=>hs
 have fin:∀{σ':St} {H':Hp} {v:V} {u:Value},Inv (Lh CX P w K mg base N qual scope f cdv A outer s H E) [] σ' H' s'->RelV v u->Q v H'->CE outer P w H s Q u s':=
  λ{σ' H' v u} J rv q=>⟨v,H',J.os,J.bare,J.base,J.hok,rv,q⟩
 cases fl with
 | ret u=>
  obtain⟨v,σ',H',J,rv,q⟩:=hs
  exact fin J rv q
 | next=>
  obtain⟨σ',H',J,q⟩:=hs
  exact fin (v:=V.non) (u:=Value.none) J rfl q
 | brk=>
  obtain⟨_,_,_,q⟩:=hs
  exact False.elim q
 | cont=>
  obtain⟨_,_,_,q⟩:=hs
  exact False.elim q
section
variable {X:Cx} {x:Str} {p pos:Pos} {e:Expr} {es:YJ} {t:TA} {id T:String} {r:YG->Hp->VK->Prop}
def tCB (r:YG->Hp->VK->Prop) (t:TA):TE:=fun σ H Q=>t σ H λvs H1=>r vs H1 Q
theorem Av (hc:Dm X (.builtin id) r) (hg:Gl X x) (hm:X.mg x=none) (hv:bootBuiltins x=some (.builtin id)) (ha:PA X (e::es) t) (hn:x≠"__name__":=by decide) (hdb:(x == ("__debug__":Str))=false:=by decide)
  (he:starEach (e::es) X.env=(false,eval e X.env)::starEach es X.env:=by rfl) (hpl:(backTo pos (starEach es X.env)).any (·.1)=false:=by rfl):PE X (.Call (.Name x p) (e::es) [] pos) (tCB r t):=by
 intro pins s σ H Q I h
 refine Qbc (Ii I hg hm hv ?_ hn hdb)
 refine PyProof.Rows.callWith_builtin1 (thn (ha pos pins s σ H _ I h) λus s1 zz=>?_) he hpl
 obtain⟨vs,H1,I1,r1,q1⟩:=zz
 exact hc pins s1 σ H1 vs us Q I1 r1 q1
theorem Gm (hc:Dm X (.type T) r) (hg:Gl X x) (hm:X.mg x=none) (hv:bootBuiltins x=some (.type T)) (ha:PA X (e::es) t) (hn:x≠"__name__":=by decide) (hdb:(x == ("__debug__":Str))=false:=by decide)
  (he:starEach (e::es) X.env=(false,eval e X.env)::starEach es X.env:=by rfl) (hpl:(backTo pos (starEach es X.env)).any (·.1)=false:=by rfl):PE X (.Call (.Name x p) (e::es) [] pos) (tCB r t):=by
 intro pins s σ H Q I h
 refine Qbc (Ii I hg hm hv ?_ hn hdb)
 refine Qae (thn (ha pos pins s σ H _ I h) λus s1 zz=>?_) he hpl
 obtain⟨vs,H1,I1,r1,q1⟩:=zz
 exact hc pins s1 σ H1 vs us Q I1 r1 q1
end
end L2
namespace HT
open PySem PyProof.Rows
section
open PySem.SeqAt
open PySem.AutoSeq1 (wpAny_loadPart')
open PySem.MeetsSeq PySem.MeetsSeq2 PySem.MeetsSeq3
end
section
variable {prog:Program} {w:World} {A:Around} {E:YA} {s:Shared}
theorem yu {t b:Addr} {vs ws:YE} {Q:YA} (ht:IsTup s.heap t vs.toArray) (hb:IsTup s.heap b ws.toArray) (hv:vs≠[])
  (h1:ws=[]->Q (.ref t) s) (h2:ws≠[]->Q (.ref s.heap.objs.size) { s with heap:=s.heap.push { cls:=.type "tuple",data:=.seq (vs++ws).toArray } })
  (hsz:vs.length+ws.length<=sizeLine):wpAny (model prog w) A (binaryOp .Add (.ref t) (.ref b)) Q E s:=by
 obtain⟨⟨cls,dd,data,sl⟩,ho,hc,n,hd⟩:=id ht
 obtain⟨⟨cls2,dd2,data2,sl2⟩,ho2,hc2,n2,hd2⟩:=id hb
 simp only at hc hd hc2 hd2
 subst hc hd hc2 hd2
 have e:vs.toArray++ws.toArray=(vs++ws).toArray:=by simp
 by_cases hw:ws=[]
 ·exact concat_meets ⟨_,ho,rfl⟩ ⟨_,ho2,rfl⟩ noFill_tuple_add seq_tuple_add PySem.F.slot_tuple_add PySem.F.entry_tuple_add (PySem.F.args_tuple_add_2 _ _)
   (tuple_addW1 t b vs.toArray ws.toArray n n2 dd dd2 sl sl2 (by simpa using hv) (by simp[hw])) ⟨ho,ho2,h1 hw⟩
 ·refine concat_meets ⟨_,ho,rfl⟩ ⟨_,ho2,rfl⟩ noFill_tuple_add seq_tuple_add PySem.F.slot_tuple_add PySem.F.entry_tuple_add (PySem.F.args_tuple_add_2 _ _)
   (tuple_addW2 t b vs.toArray ws.toArray n n2 dd dd2 sl sl2 (by simpa using hv) (by simpa using hw) (by rw[Qbg,Qbg];exact hsz)) ⟨ho,ho2,?_⟩
  rw[e]
  exact h2 hw
def sIx (n d:Nat):Option Int->Nat
 | none=>d
 | some v=>if v < 0 then (v+(n:Int)).toNat else min v.toNat n
theorem Yw (n d:Nat):sIx n d none=d:=rfl
theorem dB (n d k:Nat):sIx n d (some (k:Int))=min k n:=by
 show (if (k:Int) < 0 then ((k:Int)+(n:Int)).toNat else min (k:Int).toNat n)=min k n
 rw[if_neg (by omega),Qbk]
theorem zG (n d:Nat) (hd:d<=n) (o:Option Int):sIx n d o<=n:=by
 cases o with
 | none=>exact hd
 | some v=>
  show (if v < 0 then (v+(n:Int)).toNat else min v.toNat n)<=n
  by_cases hv:v < 0
  ·rw[if_pos hv];omega
  ·rw[if_neg hv];exact Nat.min_le_right _ _
theorem eU (v:Int) (n d:Nat):(if v < 0 then max (v+(n:Int)) 0 else min v (n:Int))=((sIx n d (some v):Nat):Int):=by
 show (if v < 0 then max (v+(n:Int)) 0 else min v (n:Int))=(((if v < 0 then (v+(n:Int)).toNat else min v.toNat n):Nat):Int)
 by_cases hv:v < 0
 ·simp only[if_pos hv];omega
 ·simp only[if_neg hv];omega
theorem jk (lo hi:Option Int) (n:Nat):Builtin.Slice.sliceAdjust lo hi 1 (n:Int)=(((sIx n 0 lo:Nat):Int),((sIx n n hi:Nat):Int)):=by
 have h1:¬((1:Int) < 0):=by omega
 unfold Builtin.Slice.sliceAdjust
 simp only[h1,if_false]
 refine Prod.ext ?_ ?_
 ·cases lo with
  | none=>rfl
  | some v=>exact eU v n 0
 ·cases hi with
  | none=>rfl
  | some v=>exact eU v n n
theorem gA (i j:Nat):Builtin.Slice.slicePlaces (i:Int) (j:Int) 1=j - i:=by
 unfold Builtin.Slice.slicePlaces
 have h1:(1:Int) > 0:=by omega
 simp only[h1,if_true,Int.ediv_one]
 split <;> omega
theorem Uk {v:Value} {o:Option Int} {Q:Option Int->Shared->Prop} (p:IsPart v o) (h:Q o s):wpAny (model prog w) A (Builtin.Slice.slicePartIndex v) Q E s:=by
 cases p with
 | none=>exact slicePart_none h
 | int i t=>exact slicePart_int h
theorem Ms {sl:Addr} {vl vu:Value} {lo hi:Option Int} {n:Nat} {Q:Int×Int×Nat->Shared->Prop} (hs:s.heap.IsSliceOf sl vl vu .none) (pl:IsPart vl lo) (pu:IsPart vu hi)
  (h:Q (((sIx n 0 lo:Nat):Int),1,sIx n n hi - sIx n 0 lo) s):wpAny (model prog w) A (Builtin.Slice.sliceApplied (.ref sl) (pure (n:Int))) Q E s:=by
 obtain⟨os,hos,hcs,hds⟩:=id hs
 unfold Builtin.Slice.sliceApplied Builtin.Slice.sliceFields
 refine Qcv (Qcv (Qct hos hds (x:=vl) rfl (Qcv (Qct hos hds (x:=vu) rfl (Qcv (Qct hos hds (x:=.none) rfl (Qcw ?_)))))))
 refine Qcv (slicePart_none ?_)
 show wpAny _ _ (if ((1:Int) == 0)=true then _ else _) _ _ s
 rw[if_neg (by decide)]
 refine Qcv (Uk pl (Qcv (Uk pu (Qcv (Qcw ?_)))))
 show wpAny _ _ (match Builtin.Slice.sliceAdjust lo hi 1 (n:Int) with | (lo,hi)=>pure (lo,(1:Int),Builtin.Slice.slicePlaces lo hi 1)) _ _ s
 rw[jk lo hi n]
 show wpAny _ _ (pure (((sIx n 0 lo:Nat):Int),(1:Int),Builtin.Slice.slicePlaces ((sIx n 0 lo:Nat):Int) ((sIx n n hi:Nat):Int) 1)) _ _ s
 rw[gA]
 exact Qcw h
theorem pZ (xs:Array Value) (i k:Nat):((List.range k).filterMap λ(m:Nat)=>xs[((i:Int)+(m:Int)*1).toNat]?).toArray=((xs.toList.drop i).take k).toArray:=by
 have e:(λ(m:Nat)=>xs[((i:Int)+(m:Int)*1).toNat]?)=λm=>xs[i+m]?:=by
  funext m
  have:((i:Int)+(m:Int)*1).toNat=i+m:=by omega
  rw[this]
 rw[e]
 have:=pick_run xs i k
 rw[List.filterMap_map] at this
 have e2:((λx=>xs[x]?) ∘ λx=>i+x)=λm=>xs[i+m]?:=rfl
 rw[e2] at this
 rw[this]
theorem Sg {t sl:Addr} {items:Array Value} {vl vu:Value} {lo hi:Option Int} {Q:YA} (ht:IsTup s.heap t items) (hs:s.heap.IsSliceOf sl vl vu .none) (pl:IsPart vl lo) (pu:IsPart vu hi)
  (hw:¬(sIx items.size 0 lo=0/\sIx items.size items.size hi=items.size))
  (h:Q (.ref s.heap.objs.size) { s with heap:=s.heap.push { cls:=.type "tuple",data:=.seq ((items.toList.drop (sIx items.size 0 lo)).take (sIx items.size items.size hi - sIx items.size 0 lo)).toArray } })
  (hsz:items.size<=sizeLine):wpAny (model prog w) A (getItem (.ref t) (.ref sl)) Q E s:=by
 have XC:sizeOk (.seq ((items.toList.drop (sIx items.size 0 lo)).take (sIx items.size items.size hi - sIx items.size 0 lo)).toArray):=by
  show ((items.toList.drop (sIx items.size 0 lo)).take (sIx items.size items.size hi - sIx items.size 0 lo)).toArray.size<=sizeLine
  rw[Qbg,Qbs,Qbx,QaK]
  omega
 have hj:sIx items.size items.size hi<=items.size:=zG _ _ (Qcq _) hi
 obtain⟨os,hos,hcs,hds⟩:=id hs
 have hTs:s.TypeIs (.ref sl) "slice":=⟨os,hos,hcs⟩
 unfold getItem
 try with_reducible refine Qcc ?_
 first | refine Qcv (Qcw ?_) | skip
 refine Qcv (wpAny_sequenceKey ht.typeIs (by decide) ?_)
 refine Qcv (Qar (name:=Str.ofString "__getitem__") ht.typeIs Qab
  (Qbv Qab ht.typeIs entry_tuple_getitem ?_ (args_tuple_getitem _ _)))
 show wpAny _ _ (Builtin.Tuple.tupleItemsOf (.ref t) >>= _) _ _ s
 refine Qcv (tupleItemsOf_ ht ?_)
 refine Qcv (wpAny_typeOf hTs ?_)
 rw[if_pos (by decide)]
 refine Qcv (Ms hs pl pu ?_)
 have hno:¬((((sIx items.size 0 lo:Nat):Int) == 0&&(1:Int) == 1&&(sIx items.size items.size hi - sIx items.size 0 lo) == items.size)=true):=by
  intro q
  rw[Qbw,Qbw] at q
  have q1:((sIx items.size 0 lo:Nat):Int)=0:=eq_of_beq q.1.1
  have q2:sIx items.size items.size hi - sIx items.size 0 lo=items.size:=eq_of_beq q.2
  exact hw ⟨by omega,by omega⟩
 show wpAny _ _ (if (((sIx items.size 0 lo:Nat):Int) == 0&&(1:Int) == 1&&(sIx items.size items.size hi - sIx items.size 0 lo) == items.size)=true then _ else _) _ _ s
 rw[if_neg hno,pZ]
 first
  | exact Qcv (m:=Builtin.Tuple.tupleExact _) (Qbn (Qcw ⟨_,rfl,Qcw h⟩) XC)
  | exact Qcv (m:=Builtin.Tuple.tupleExact _) (Qbn (Qcv (Qcw (Qcw ⟨_,rfl,Qcw h⟩))) XC)
  | exact Qcv (Qcv (m:=Builtin.Tuple.tupleExact _) (Qbn (Qcw (Qcw ⟨_,rfl,Qcw h⟩)) XC))
  | exact Qcv (Qcv (m:=Builtin.Tuple.tupleExact _) (Qbn (Qcw ⟨_,rfl,Qcw h⟩) XC))
end
end HT
namespace L2
open PySem PySem.Spec PyProof.Rows
abbrev TO:=St->Hp->(Option Int->Hp->Prop)->Prop
def PO (X:Cx) (e:Option Expr) (t:TO):Prop:=
 ∀(pins:YC) (s:Shared) (σ : St) (H:Hp) (Q:Option Int->Hp->Prop),Inv X pins σ H s->t σ H Q ->
  wpAny (model X.prog X.w) X.A (evalPart e X.env) (λu s'=>∃o H',Inv X pins σ H' s'/\IsPart u o/\Q o H') X.xe s
def v9:TO:=λ_ H Q=>Q none H
def B0 (t:TE):TO:=fun σ H Q=>t σ H λx H1=>∃i,x=.int i/\Q (some i) H1
theorem intsAre_of {ns:List Int}:∀{us:YE},Vals (ns.map V.int) us->IntsAre us ns:=by
 induction ns with
 | nil=>intro us r;rw[List.map_nil] at r;cases r;exact .nil
 | cons n ns ih=>
  intro us r
  rw[QbZ] at r
  cases r with
  | cons r1 r2=>
   obtain⟨t,e⟩:=r1
   subst e
   exact .cons n t (ih r2)
section
variable {X:Cx} {e:Expr} {te:TE} {lo hi:Option Expr} {tl th:TO} {pos p2:Pos}
theorem Ma:PO X none v9:=by
 intro pins s σ H Q I h
 rw[evalPart_none]
 exact Qcw ⟨none,H,I,.none,h⟩
theorem LR (h:PE X e te):PO X (some e) (B0 te):=by
 intro pins s σ H Q I hw
 rw[evalPart_some]
 refine thn (h pins s σ H _ I hw) λu s1 zz=>?_
 obtain⟨x,H1,I1,r1,q1⟩:=zz
 obtain⟨i,rfl,q⟩:=q1
 obtain⟨t,rfl⟩:=r1
 exact⟨some i,H1,I1,.int i t,q⟩
def SlR (X:Cx) (r:V->Option Int->Option Int->Hp->VK->Prop):Prop:=
 ∀(pins:YC) (s:Shared) (σ : St) (H:Hp) (x:V) (v vl vu:Value) (lo hi:Option Int) (sl:Addr) (Q:VK),Inv X pins σ H s->RelV x v->s.heap.IsSliceOf sl vl vu .none->IsPart vl lo->IsPart vu hi->r x lo hi H Q ->
  ∃T id,typeLookup (.type T) "__getitem__"=pure (some (.builtin id))/\s.TypeIs v T/\wpAny (model X.prog X.w) X.A (getItem v (.ref sl)) (EP X pins σ Q) X.xe s
theorem SlR.or {r r':V->Option Int->Option Int->Hp->VK->Prop} (h:SlR X r) (h':SlR X r'):SlR X (λx lo hi H Q=>r x lo hi H Q\/r' x lo hi H Q):=by
 intro pins s σ H x v vl vu lo hi sl Q I rx hs pl pu q
 rcases q with q | q
 ·exact h pins s σ H x v vl vu lo hi sl Q I rx hs pl pu q
 ·exact h' pins s σ H x v vl vu lo hi sl Q I rx hs pl pu q
def tSl (r:V->Option Int->Option Int->Hp->VK->Prop) (te:TE) (tl th:TO):TE:=fun σ H Q=>te σ H λx H1=>tl σ H1 λl H2=>th σ H2 λu H3=>r x l u H3 Q
theorem JR {r:V->Option Int->Option Int->Hp->VK->Prop} (hr:SlR X r) (he:PE X e te) (hl:PO X lo tl) (hu:PO X hi th):PE X (.Subscript e (.Slice lo hi none p2) pos) (tSl r te tl th):=by
 intro pins s σ H Q I h
 refine Subscript_ (thn (he pins s σ H _ I h) λv s1 zz=>?_)
 obtain⟨x,H1,I1,r1,q1⟩:=zz
 refine wpAny_Slice (thn (hl pins s1 σ H1 _ I1 q1) λvl s2 zz=>?_)
 obtain⟨l,H2,I2,pl,q2⟩:=zz
 refine thn (hu pins s2 σ H2 _ I2 q2) λvu s3 zz=>?_
 obtain⟨u,H3,I3,pu,q3⟩:=zz
 rw[evalPart_none]
 refine Qcw ?_
 have I4:Inv X pins σ H3 { s3 with heap:=s3.heap.push { cls:=.type "slice",data:=.fields #[vl,vu,.none] } }:=I3.kept (t':=s3.toks) λb ob q=>Qav _ q
 obtain⟨T,id,hT,ht,hg⟩:=hr pins { s3 with heap:=s3.heap.push { cls:=.type "slice",data:=.fields #[vl,vu,.none] } } σ H3 x v vl vu l u s3.heap.objs.size Q I4 r1 (Heap.IsSliceOf.new ..) pl pu q3
 show wpAny (model X.prog X.w) X.A (subscriptTail e (.Slice lo hi none p2) v (.ref s3.heap.objs.size)) (EP X pins σ Q) X.xe { s3 with heap:=s3.heap.push { cls:=.type "slice",data:=.fields #[vl,vu,.none] } }
 exact tail_any (ops:=[.ref s3.heap.objs.size,v]) ht hT hg (by with_unfolding_all rfl)
def Jb (xs:YG) (lo hi:Option Int):YG:=(xs.drop (HT.sIx xs.length 0 lo)).take (HT.sIx xs.length xs.length hi - HT.sIx xs.length 0 lo)
theorem SN (xs:YG) (lo hi:Option Int):(Jb xs lo hi).length<=xs.length:=by
 unfold Jb
 rw[Qbs,Qbx]
 omega
def D8 (K:YD):V->Option Int->Option Int->Hp->VK->Prop:=λx lo hi H Q=>∃a xs,x=.ref a/\SqT K H a xs /\
 ¬(HT.sIx xs.length 0 lo=0/\HT.sIx xs.length xs.length hi=xs.length)/\∀p,H p=none->Q (.ref p) (upd H p (.tup (Jb xs lo hi)))
theorem zB:SlR X (D8 X.K):=by
 intro pins s σ H x v vl vu lo hi sl Q I rx hs pl pu h
 obtain⟨a,xs,rfl,hx,hw,q⟩:=h
 cases rx
 obtain⟨its,r,ht,hz⟩:=I.tuple hx
 have hlen:its.toArray.size=xs.length:=by rw[Qbg];exact r.length.symm
 refine⟨"tuple",_,Qab.lookup,ht.typeIs,?_⟩
 refine HT.Sg ht hs pl pu (by rw[hlen];exact hw) ?_ (by rw[hlen];exact hz)
 rw[hlen]
 refine⟨.ref s.heap.objs.size,_,I.laid (t':=s.toks) (o:=.tup (Jb xs lo hi)) (λb ob q=>Qav _ q) (Qcq _) ?_,rfl,q _ (I.hok.fresh (Qcq _))⟩
 exact⟨Qck (SN xs lo hi) hz,_,(r.drop (HT.sIx xs.length 0 lo)).take (HT.sIx xs.length xs.length hi - HT.sIx xs.length 0 lo),IsTup.new _ _⟩
def Ch (K:YD):R2:=λx y H Q=>∃a b xs ys,x=.ref a/\y=.ref b/\SqT K H a xs/\SqT K H b ys/\xs≠[]/\xs.length+ys.length<=sizeLine /\
 (ys=[]->Q (.ref a) H)/\(ys≠[]->∀p,H p=none->Q (.ref p) (upd H p (.tup (xs++ys))))
theorem Vals.VJ {xs:YG} {us:YE} (r:Vals xs us):us=[] ↔ xs=[]:=by
 cases r with
 | nil=>simp
 | cons _ _=>simp
theorem wQ:OpR X (binaryOp .Add) (Ch X.K):=by
 intro pins s σ H x y v u Q I rx ry h
 obtain⟨a,b,xs,ys,rfl,rfl,ha,hb,hx,hz,q1,q2⟩:=h
 cases rx
 cases ry
 obtain⟨its,r1,p1,_⟩:=I.tuple ha
 obtain⟨its2,r2,p2,_⟩:=I.tuple hb
 refine HT.yu p1 p2 (λz=>hx (r1.VJ.mp z)) (λz=>⟨.ref a,H,I,rfl,q1 (r2.VJ.mp z)⟩) (λz=>?_) (by rw[<-r1.length,<-r2.length];exact hz)
 refine⟨.ref s.heap.objs.size,_,I.laid (t':=s.toks) (o:=.tup (xs++ys)) (λb ob q=>Qav _ q) (Qcq _) ?_,rfl,q2 (λw=>z (r2.VJ.mpr w)) _ (I.hok.fresh (Qcq _))⟩
 exact⟨by rw[QaQ];exact hz,_,r1.append r2,IsTup.new _ _⟩
end
def ixN (n:Nat) (i:Int):Option Nat:=if 0<=i then (if i < n then some i.toNat else none) else if -(n:Int)<=i then some (i+n).toNat else none
def atI {α : Type} (xs:List α) (i:Int):Option α:=(ixN xs.length i).bind λj=>xs[j]?
theorem dW {n:Nat} {i:Int} {j:Nat} (h:ixN n i=some j):seqIndex? i n=some j/\j < n/\-(n:Int)<=i/\i < n:=by
 unfold ixN at h
 by_cases h0:0<=i
 ·rw[if_pos h0] at h
  by_cases h1:i < n
  ·rw[if_pos h1] at h
   have e:i.toNat=j:=QbH h
   exact⟨by rw[seqIndex_of h0 h1,e],by omega,by omega,h1⟩
  ·rw[if_neg h1] at h;cases h
 ·rw[if_neg h0] at h
  by_cases h1:-(n:Int)<=i
  ·rw[if_pos h1] at h
   have e:(i+n).toNat=j:=QbH h
   exact⟨by rw[seqIndex_neg (by omega) h1,e],by omega,h1,by omega⟩
  ·rw[if_neg h1] at h;cases h
theorem Wa {α : Type} {xs:List α} {i:Int} {v:α} (h:atI xs i=some v):∃j,seqIndex? i xs.length=some j/\xs[j]?=some v/\j < xs.length/\-(xs.length:Int)<=i/\i < xs.length:=by
 unfold atI at h
 cases e:ixN xs.length i with
 | none=>rw[e] at h;cases h
 | some j=>
  rw[e] at h
  obtain⟨h1,h2,h3,h4⟩:=dW e
  exact⟨j,h1,h,h2,h3,h4⟩
theorem Ec {α : Type} {xs:List α} {j:Nat} {v:α} (h:xs[j]?=some v):atI xs (j:Int)=some v:=by
 have hj:j < xs.length:=(Qah.mp h).1
 have e:ixN xs.length (j:Int)=some j:=by
  unfold ixN
  rw[if_pos (by omega),if_pos (by omega)];simp
 unfold atI;rw[e];exact h
def yE (b:Expr):Prop:=∀o i,subscripted b false o i=operate [o,i] (getItem o i)
def IxR (X:Cx) (r:R2):Prop:=
 ∀(value slice:Expr) (pins:YC) (s:Shared) (σ : St) (H:Hp) (x y:V) (v u:Value) (Q:VK),Inv X pins σ H s->RelV x v->RelV y u->r x y H Q ->
  subscripted slice false v u=operate [v,u] (getItem v u)->wpAny (model X.prog X.w) X.A (subscriptTail value slice v u) (EP X pins σ Q) X.xe s
def MtR (X:Cx) (id:String) (r:V->YG->Hp->VK->Prop):Prop:=
 ∀(pins:YC) (s:Shared) (σ : St) (H:Hp) (x:V) (xs:YG) (v:Value) (us:YE) (Q:VK),Inv X pins σ H s->RelV x v->Vals xs us->r x xs H Q ->
  wpAny (model X.prog X.w) X.A (call (.builtin id) (v::us)) (EP X pins σ Q) X.xe s
section
variable {X:Cx} {a b:Expr} {ta tb:TE} {pos:Pos}
theorem IxR.or {r r':R2} (h:IxR X r) (h':IxR X r'):IxR X (λx y H Q=>r x y H Q\/r' x y H Q):=by
 intro value slice pins s σ H x y v u Q I rx ry q hs
 rcases q with q | q
 ·exact h value slice pins s σ H x y v u Q I rx ry q hs
 ·exact h' value slice pins s σ H x y v u Q I rx ry q hs
theorem MtR.or {id:String} {r r':V->YG->Hp->VK->Prop} (h:MtR X id r) (h':MtR X id r'):MtR X id (λx xs H Q=>r x xs H Q\/r' x xs H Q):=by
 intro pins s σ H x xs v us Q I rx rs q
 rcases q with q | q
 ·exact h pins s σ H x xs v us Q I rx rs q
 ·exact h' pins s σ H x xs v us Q I rx rs q
theorem Bo {r:R2} (hr:IxR X r) (ha:PE X a ta) (hb:PE X b tb) (hs:yE b):PE X (.Subscript a b pos) (tOp r ta tb):=by
 intro pins s σ H Q I h
 exact Subscript_ (uJ ha hb I h λv u s2 x y H2 I2 rx ry q=>hr a b pins s2 σ H2 x y v u Q I2 rx ry q (hs _ _))
def zL (K:YD):R2:=λx y H Q=>∃p xs i v,x=.ref p/\y=.int i/\SqL K H p xs/\atI xs i=some v/\Q v H
def zK (K:YD):R2:=λx y H Q=>∃p xs i v,x=.ref p/\y=.int i/\SqT K H p xs/\atI xs i=some v/\Q v H
def Ee:R2:=λx y H Q=>∃z i c,x=.str z/\y=.int i/\z.length<=sizeLine/\atI z.cps.toList i=some c/\Q (.str ⟨#[c]⟩) H
theorem CV:IxR X (zL X.K):=by
 intro value slice pins s σ H x y v u Q I rx ry h hs
 obtain⟨p,xs,i,z,rfl,rfl,hq,he,q⟩:=h
 cases rx
 obtain⟨t,rfl⟩:=ry
 obtain⟨its,r,pl,hz⟩:=I.list hq
 obtain⟨j,h1,h2,h3,h4,h5⟩:=Wa he
 obtain⟨w,ew,rw'⟩:=r.get h2
 have hl:=r.length
 have hn:=Nh
 have fin:EP X pins σ Q w s:=⟨z,H,I,rw',q⟩
 by_cases h0:0<=i
 ·have hj:i.toNat=j:=by
   rw[seqIndex_of h0 h5] at h1
   exact QbH h1
  exact item_listR pl.isList h0 (by omega) (by rw[hj];simpa using ew) fin hs
 ·have hj:(i+(its.toArray.size:Int)).toNat=j:=by
   rw[seqIndex_neg (by omega) h4] at h1
   rw[Qbg,<-hl]
   exact QbH h1
  exact subscriptTail_builtinR (x:=w) pl.isList.typeIs slot_list_getitem.lookup
   (wpAny_getItem_list_neg (Q:=λr s'=>r=w/\EP X pins σ Q r s') pl.isList (by omega) (by rw[Qbg] <;> omega) (by omega) (by rw[hj];simpa using ew) ⟨rfl,fin⟩) hs
theorem Cd:IxR X (zK X.K):=by
 intro value slice pins s σ H x y v u Q I rx ry h hs
 obtain⟨p,xs,i,z,rfl,rfl,hq,he,q⟩:=h
 cases rx
 obtain⟨t,rfl⟩:=ry
 obtain⟨its,r,pl,hz⟩:=I.tuple hq
 obtain⟨j,h1,h2,h3,h4,h5⟩:=Wa he
 obtain⟨w,ew,rw'⟩:=r.get h2
 have hl:=r.length
 have hn:=Nh
 have fin:EP X pins σ Q w s:=⟨z,H,I,rw',q⟩
 exact subscriptTail_builtinR (x:=w) pl.typeIs slot_tuple_getitem.lookup
  (getItem_tuple (j:=j) (Q:=λr s'=>r=w/\EP X pins σ Q r s') pl (by omega) (by omega) (by rw[Qbg,<-hl];exact h1) (by simpa using ew) ⟨rfl,fin⟩) hs
theorem AM:IxR X Ee:=by
 intro value slice pins s σ H x y v u Q I rx ry h hs
 obtain⟨z,i,c,rfl,rfl,hz,he,q⟩:=h
 obtain⟨t,rfl⟩:=rx
 obtain⟨t',rfl⟩:=ry
 obtain⟨j,h1,h2,h3,h4,h5⟩:=Wa he
 have hl:z.cps.toList.length=z.length:=by simp[Str.length]
 rw[hl] at h1 h4 h5
 have hn:=Nh
 exact tail_any (typeIs_str s z t) slot_str_getitem.lookup (getItem_str (c:=c) (by
  have e1:decide (i < -(2 ^ 63:Int))=false:=QbG (by omega)
  have e2:decide (i ≥ 2 ^ 63)=false:=QbG (by omega)
  rw[e1,e2,Qcf]) (by rw[h1];simpa using h2) ⟨.str ⟨#[c]⟩,H,I.tok _,⟨_,rfl⟩,q⟩) hs
theorem gY (its:YE) (n j:Nat) (u:Value):Obj.mapSeq (·.setIfInBounds j u) { cls:=.type "list",data:=.seq its.toArray n }={ cls:=.type "list",data:=.seq (its.set j u).toArray n }:=by
 simp[Obj.mapSeq]
theorem Inv.lst {pins:YC} {σ : St} {H:Hp} {s:Shared} {p:Addr} {xs:YG} (I:Inv X pins σ H s) (h:H p=some (.lst xs)) :
  ∃(its:YE) (n:Nat),Vals xs its/\s.heap.get? p=some { cls:=.type "list",data:=.seq its.toArray n }/\xs.length<=sizeLine:=by
 obtain⟨z,its,n,r,e⟩:=I.hok p _ h
 exact⟨its,n,r,e,z⟩
theorem Inv.AF {pins:YC} {σ : St} {H:Hp} {s:Shared} {p:Addr} {xs ys:YG} {its its':YE} {n n':Nat} {f:Obj->Obj} (I:Inv X pins σ H s) (h:H p=some (.lst xs))
  (ho:s.heap.get? p=some { cls:=.type "list",data:=.seq its.toArray n }) (hf:f { cls:=.type "list",data:=.seq its.toArray n }={ cls:=.type "list",data:=.seq its'.toArray n' }) (r:Vals ys its') (hz:ys.length<=sizeLine) (t:Nat) :
  Inv X pins σ (upd H p (.lst ys)) { s with heap:=s.heap.update p f,toks:=t }:=by
 have e:(s.heap.update p f).get? p=some { cls:=.type "list",data:=.seq its'.toArray n' }:=by
  rw[QaC f ho (by rw[hf] <;> rfl),hf]
 refine I.write (x:=p) (e:=p) (by rw[h];trivial) (.inl rfl) (λb u hb q=>(Qax _ _ (Ne.symm hb)).trans q) ⟨_,e⟩ ?_
 exact⟨hz,its',n',r,e⟩
def Cf:V->V->V->Hp->(Hp->Prop)->Prop:=λo i v H Q=>∃p xs k j,o=.ref p/\i=.int k/\H p=some (.lst xs)/\ixN xs.length k=some j/\Q (upd H p (.lst (xs.set j v)))
theorem set_list:BN X Cf:=by
 intro pins s σ H o i v ov iv u Q I ro ri rv h
 obtain⟨p,xs,k,j,rfl,rfl,hp,hj,q⟩:=h
 cases ro
 obtain⟨t,rfl⟩:=ri
 obtain⟨its,n,r,ho,hz⟩:=I.lst hp
 obtain⟨h1,h2,h3,h4⟩:=dW hj
 have hl:=r.length
 have hn:=Nh
 have I':Inv X pins σ (upd H p (.lst (xs.set j v))) { s with heap:=s.heap.update p (Obj.mapSeq (·.setIfInBounds j u)) }:=
  I.AF hp ho (gY its n j u) (r.set rv j) (by rw[List.length_set];exact hz) s.toks
 by_cases h0:0<=k
 ·have hk:k.toNat=j:=by
   rw[seqIndex_of h0 h4] at h1
   exact QbH h1
  exact PySem.W.ki_setAt ho h0 (by omega) (by rw[Qbg,<-hl];exact h4) (by rw[hk];exact⟨_,I',q⟩)
 ·have hk:(k+(its.toArray.size:Int)).toNat=j:=by
   rw[seqIndex_neg (by omega) h3] at h1
   rw[Qbg,<-hl]
   exact QbH h1
  exact PySem.W.ki_setBack ho (by omega) (by rw[Qbg,<-hl];exact h3) (by omega) (by rw[hk];exact⟨_,I',q⟩)
theorem Yn (lo hi:Option Int) (n:Nat):(sliceBounds lo hi none n).1=((HT.sIx n 0 lo:Nat):Int)/\(sliceBounds lo hi none n).2.1=((HT.sIx n n hi:Nat):Int)/\(sliceBounds lo hi none n).2.2=1:=by
 refine⟨?_,?_,rfl⟩
 ·cases lo with
  | none=>simp[sliceBounds,HT.sIx]
  | some i=>
   simp only[sliceBounds,HT.sIx,Option.getD_none,show (1:Int) > 0 by decide,if_true]
   by_cases h:i < 0
   ·simp only[h,if_true] <;> omega
   ·simp only[h,if_false] <;> omega
 ·cases hi with
  | none=>simp[sliceBounds,HT.sIx]
  | some i=>
   simp only[sliceBounds,HT.sIx,Option.getD_none,show (1:Int) > 0 by decide,if_true]
   by_cases h:i < 0
   ·simp only[h,if_true] <;> omega
   ·simp only[h,if_false] <;> omega
theorem Xg (its:YE) (lo hi:Option Int):slicePick its.toArray lo hi none=((its.drop (HT.sIx its.length 0 lo)).take (HT.sIx its.length its.length hi - HT.sIx its.length 0 lo)).toArray:=by
 obtain⟨h1,h2,h3⟩:=Yn lo hi its.toArray.size
 unfold slicePick
 rw[h1,h2,h3]
 simp only[sliceRange_one,pick_run,Qbg] <;> rfl
def D9 (K:YD):V->Option Int->Option Int->Hp->VK->Prop:=λx lo hi H Q=>∃a xs,x=.ref a/\SqL K H a xs/\∀p,H p=none->Q (.ref p) (upd H p (.lst (Jb xs lo hi)))
theorem wB:SlR X (D9 X.K):=by
 intro pins s σ H x v vl vu lo hi sl Q I rx hs pl pu h
 obtain⟨a,xs,rfl,hx,q⟩:=h
 cases rx
 obtain⟨its,r,ht,hz⟩:=I.list hx
 have hlen:=r.length
 refine⟨"list",_,slot_list_getitem.lookup,ht.isList.typeIs,?_⟩
 refine wpAny_getItem_list_slice ht.isList hs pl pu .none (by simp) ?_ (by rw[Qbg] <;> omega)
 rw[Xg,<-hlen]
 refine⟨.ref s.heap.objs.size,_,I.laid (t':=s.toks) (o:=.lst (Jb xs lo hi)) (λb ob q=>Qav _ q) (Qcq _) ?_,rfl,q _ (I.hok.fresh (Qcq _))⟩
 exact⟨Qck (SN xs lo hi) hz,_,0,(r.drop (HT.sIx xs.length 0 lo)).take (HT.sIx xs.length xs.length hi - HT.sIx xs.length 0 lo),QaI _ rfl⟩
def Kp:V->Bool
 | .non=>true
 | .bl _=>true
 | .int _=>true
 | .str _=>true
 | _=>false
def eqV:V->V->Bool
 | .non,.non=>true
 | .bl a,.bl b=>a == b
 | .bl a,.int b=>(if a then 1 else 0) == b
 | .int a,.bl b=>a == (if b then 1 else 0)
 | .int a,.int b=>a == b
 | .str a,.str b=>a == b
 | _,_=>false
theorem A9 {A:Around} {s:Shared} {y x:V} {u v:Value} (ry:RelV y u) (rx:RelV x v) (fy:Kp y=true) (fx:Kp x=true):SeqAt.EqAt A s u v (eqV y x):=by
 cases y with
 | non=>
  cases ry
  cases x with
  | non=>cases rx;exact SeqAt.EqAt.same _
  | bl b=>cases rx;exact SeqAt.EqAt.none_bool b
  | int b=>obtain⟨t,rfl⟩:=rx;exact SeqAt.EqAt.none_int b t
  | str b=>obtain⟨t,rfl⟩:=rx;exact SeqAt.EqAt.none_str b t
  | _=>exact absurd (show false=true from fx) QaS
 | bl a=>
  cases ry
  cases x with
  | non=>cases rx;exact SeqAt.EqAt.bool_none a
  | bl b=>cases rx;exact SeqAt.EqAt.bool_bool a b
  | int b=>obtain⟨t,rfl⟩:=rx;exact SeqAt.EqAt.bool_int a b t
  | str b=>obtain⟨t,rfl⟩:=rx;exact SeqAt.EqAt.bool_str a b t
  | _=>exact absurd (show false=true from fx) QaS
 | int a=>
  obtain⟨t',rfl⟩:=ry
  cases x with
  | non=>cases rx;exact SeqAt.EqAt.int_none a t'
  | bl b=>cases rx;exact SeqAt.EqAt.int_bool a t' b
  | int b=>obtain⟨t,rfl⟩:=rx;exact SeqAt.EqAt.int_int a t' b t
  | str b=>obtain⟨t,rfl⟩:=rx;exact SeqAt.EqAt.int_str a t' b t
  | _=>exact absurd (show false=true from fx) QaS
 | str a=>
  obtain⟨t',rfl⟩:=ry
  cases x with
  | non=>cases rx;exact SeqAt.EqAt.str_none a t'
  | bl b=>cases rx;exact SeqAt.EqAt.str_bool a t' b
  | int b=>obtain⟨t,rfl⟩:=rx;exact SeqAt.EqAt.str_int a t' b t
  | str b=>obtain⟨t,rfl⟩:=rx;exact SeqAt.EqAt.str_str a t' b t
  | _=>exact absurd (show false=true from fx) QaS
 | _=>exact absurd (show false=true from fy) QaS
def eqU (x:V) (u:Value):Bool:=match u with
 | .none=>eqV .non x
 | .bool b=>eqV (.bl b) x
 | .int i _=>eqV (.int i) x
 | .str z _=>eqV (.str z) x
 | _=>false
theorem nA {x y:V} {u:Value} (r:RelV y u) (f:Kp y=true):eqU x u=eqV y x:=by
 cases y with
 | non=>cases r;rfl
 | bl b=>cases r;rfl
 | int i=>obtain⟨t,rfl⟩:=r;rfl
 | str z=>obtain⟨t,rfl⟩:=r;rfl
 | _=>exact absurd (show false=true from f) QaS
theorem O8 {x:V}:∀{xs:YG} {us:YE},Vals xs us->xs.all Kp=true->us.any (eqU x)=xs.any λy=>eqV y x
 | _,_,.nil,_=>rfl
 | y::xs,u::us,.cons r t,f=>by
  rw[List.all_cons,Qbw] at f
  rw[Qcd,Qcd,nA r f.1,O8 t f.2]
theorem Ng {A:Around} {s:Shared} {x:V} {v:Value} (rx:RelV x v) (fx:Kp x=true):∀{xs:YG} {us:YE},Vals xs us->xs.all Kp=true->∀u∈us,SeqAt.EqAt A s u v (eqU x u)
 | _,_,.nil,_=>λu hu=>by cases hu
 | y::xs,u::us,.cons r t,f=>λu' hu=>by
  rw[List.all_cons,Qbw] at f
  rcases QbY.mp hu with rfl | hu
  ·rw[nA r f.1];exact A9 r rx f.1 fx
  ·exact Ng rx fx t f.2 u' hu
def inV (x:V) (xs:YG):Bool:=xs.any λy=>eqV y x
def rIn (K:YD) (neg:Bool):R2:=λx y H Q=>∃p xs,y=.ref p/\(SqL K H p xs\/SqT K H p xs)/\Kp x=true/\xs.all Kp=true/\Q (.bl (if neg then !inV x xs else inV x xs)) H
theorem QZ:OpR X (compareOp .In) (rIn X.K false):=by
 intro pins s σ H x y v u Q I rx ry h
 obtain⟨p,xs,rfl,hq,fx,fs,q⟩:=h
 cases ry
 rcases hq with hq | hq
 ·obtain⟨its,r,pl,hz⟩:=I.list hq
  refine SeqAt.in_listAt (eqU x) pl.isList (λw hw=>Ng rx fx r fs w (by simpa using hw)) ⟨.bl _,H,I,rfl,?_⟩
  rw[show its.toArray.any (eqU x)=its.any (eqU x) by simp,O8 r fs]
  exact q
 ·obtain⟨its,r,pl,hz⟩:=I.tuple hq
  refine SeqAt.in_tupleAt (eqU x) pl (λw hw=>Ng rx fx r fs w (by simpa using hw)) ⟨.bl _,H,I,rfl,?_⟩
  rw[show its.toArray.any (eqU x)=its.any (eqU x) by simp,O8 r fs]
  exact q
theorem Zf:OpR X (compareOp .NotIn) (rIn X.K true):=by
 intro pins s σ H x y v u Q I rx ry h
 obtain⟨p,xs,rfl,hq,fx,fs,q⟩:=h
 cases ry
 rcases hq with hq | hq
 ·obtain⟨its,r,pl,hz⟩:=I.list hq
  refine SeqAt.notIn_listAt (eqU x) pl.isList (λw hw=>Ng rx fx r fs w (by simpa using hw)) ⟨.bl _,H,I,rfl,?_⟩
  rw[show its.toArray.any (eqU x)=its.any (eqU x) by simp,O8 r fs]
  exact q
 ·obtain⟨its,r,pl,hz⟩:=I.tuple hq
  refine SeqAt.notIn_tupleAt (eqU x) pl (λw hw=>Ng rx fx r fs w (by simpa using hw)) ⟨.bl _,H,I,rfl,?_⟩
  rw[show its.toArray.any (eqU x)=its.any (eqU x) by simp,O8 r fs]
  exact q
theorem Bl:Dm X (.builtin "len") (λxs H Q=>∃p ys,xs=[.ref p]/\(SqL X.K H p ys\/SqT X.K H p ys)/\Q (.int ys.length) H):=by
 intro pins s σ H xs us Q I r h
 obtain⟨p,ys,rfl,hq,q⟩:=h
 obtain⟨u,rfl,rx⟩:=vals1 r
 cases rx
 have hn:=Nh
 rcases hq with hq | hq
 ·obtain⟨its,r',pl,hz⟩:=I.list hq
  have hlen:=r'.length
  exact Calls.call_len_list pl.isList (by simp only[Qbg] <;> omega) ⟨.int ys.length,H,I.tok _,⟨s.toks+1,by rw[Qbg,hlen]⟩,q⟩
 ·obtain⟨its,r',pl,hz⟩:=I.tuple hq
  have hlen:=r'.length
  exact len_tuple pl (by simp only[Qbg] <;> omega) ⟨.int ys.length,H,I.tok _,⟨s.toks+1,by rw[Qbg,hlen]⟩,q⟩
theorem aD:Dm X (.builtin "len") (λxs H Q=>∃z,xs=[.str z]/\z.length<=sizeLine/\Q (.int z.length) H):=by
 intro pins s σ H xs us Q I r h
 obtain⟨z,rfl,hz,q⟩:=h
 obtain⟨u,rfl,t,rfl⟩:=vals1 r
 have hn:=Nh
 exact len_str (by omega) ⟨.int z.length,H,I.tok _,⟨_,rfl⟩,q⟩
theorem Dm.or {f:Value} {r r':YG->Hp->VK->Prop} (h:Dm X f r) (h':Dm X f r'):Dm X f (λxs H Q=>r xs H Q\/r' xs H Q):=by
 intro pins s σ H xs us Q I rs q
 rcases q with q | q
 ·exact h pins s σ H xs us Q I rs q
 ·exact h' pins s σ H xs us Q I rs q
theorem GC:Dm X (.type "tuple") (λxs H Q=>∃p ys,xs=[.ref p]/\((SqL X.K H p ys/\∀l,H l=none->Q (.ref l) (upd H l (.tup ys)))\/(SqT X.K H p ys/\Q (.ref p) H))):=by
 intro pins s σ H xs us Q I r h
 obtain⟨p,ys,rfl,h⟩:=h
 obtain⟨u,rfl,rx⟩:=vals1 r
 cases rx
 rcases h with⟨hq,q⟩|⟨hq,q⟩
 ·obtain⟨its,r',pl,hz⟩:=I.list hq
  have hlen:=r'.length
  refine call_tuple_list pl.isList (λh' kp=>?_) (by simp only[Qbg] <;> omega)
  have I1:Inv X pins σ H { s with heap:=h' }:=I.kept (t':=s.toks) kp
  have I2:Inv X pins σ (upd H h'.objs.size (.tup ys)) { s with heap:=h'.push { cls:=.type "tuple",data:=.seq its.toArray } }:=
   I1.laid (t':=s.toks) (λb o e=>Qav _ e) (Qcq _) (show Bt X.prog X.w _ _ _ (.tup ys) from⟨hz,its,r',IsTup.new _ _⟩)
  exact⟨.ref h'.objs.size,_,I2,rfl,q _ (I1.hok.fresh (Qcq _))⟩
 ·obtain⟨its,r',pl,hz⟩:=I.tuple hq
  exact call_tuple_same pl ⟨.ref p,H,I,rfl,q⟩
def tyV (K:YD) (T:String) (x:V) (H:Hp):Prop:=match x with
 | .str _=>T="str"
 | .int _=>T="int"
 | .ref p=>(T="list"/\∃xs,SqL K H p xs)\/(T="tuple"/\∃o,K.lookup p=some o/\o.cls=.type "tuple"/\o.dict=none) \/
   (T="dict"/\((∃kvs,H p=some (.dK kvs))\/∃kvs,H p=some (.dT kvs)))\/(T="set"/\∃S n,H p=some (.set S n))
 | _=>False
theorem yO {pins:YC} {σ : St} {H:Hp} {s:Shared} {T:String} {x:V} {v:Value} (I:Inv X pins σ H s) (r:RelV x v) (ty:tyV X.K T x H) :
  s.TypeIs v T/\∀a,v=.ref a->∃ob,s.heap.get? a=some ob/\ob.dict=none:=by
 cases x with
 | str z=>
  obtain⟨t,rfl⟩:=r
  cases (show T="str" from ty)
  exact⟨typeIs_str s z t,λ_ e=>nomatch e⟩
 | int i=>
  obtain⟨t,rfl⟩:=r
  cases (show T="int" from ty)
  exact⟨typeIs_int s i t,λ_ e=>nomatch e⟩
 | ref p=>
  cases r
  rcases ty with⟨rfl,xs,hq⟩|⟨rfl,o,hk,hc,hd⟩|⟨rfl,hk⟩|⟨rfl,S,n,hk⟩
  ·obtain⟨its,_,pl,_⟩:=I.list hq
   refine⟨pl.isList.typeIs,λa e=>?_⟩
   cases e
   obtain⟨o,n,e,c,hd,_⟩:=pl
   exact⟨o,e,hd⟩
  ·refine⟨⟨o,I.kIn p o hk,hc⟩,λa e=>?_⟩
   cases e
   exact⟨o,I.kIn _ o hk,hd⟩
  ·have z:∃o,s.heap.get? p=some o/\o.ExactDict:=by
    rcases hk with⟨kvs,hk⟩|⟨kvs,hk⟩
    ·obtain⟨_,_,_,_,o,_,_,e,ex,_⟩:=I.hok p _ hk
     exact⟨o,e,ex⟩
    ·obtain⟨_,_,_,_,o,_,_,e,ex,_⟩:=I.hok p _ hk
     exact⟨o,e,ex⟩
   obtain⟨o,e,ex⟩:=z
   refine⟨⟨o,e,ex.1⟩,λa e2=>?_⟩
   cases e2
   exact⟨o,e,ex.2.1⟩
  ·obtain⟨o,_,_,_,e,ex,_⟩:=I.hok p _ hk
   refine⟨⟨o,e,ex.1⟩,λa e2=>?_⟩
   cases e2
   exact⟨o,e,ex.2.1⟩
 | _=>exact False.elim ty
def tBM (K:YD) (T:String) (r:V->YG->Hp->VK->Prop) (to:TE) (t:TA):TE:=fun σ H Q=>to σ H λx H1=>tyV K T x H1/\t σ H1 λxs H2=>r x xs H2 Q
variable {o e:Expr} {es:YJ} {to:TE} {t:TA} {name:Str} {apos cpos:Pos} {T id:String} {r:V->YG->Hp->VK->Prop}
theorem BW (pa:PlainAttrs T) (slot:Slot T name id) (hty:typeOf (.builtin id)=pure (.type "method_descriptor")) (hm:MtR X id r) (ho:PE X o to) (ha:PA X (e::es) t)
  (hbase:attributeBase o name X.env (eval o X.env)=eval o X.env:=by rfl)
  (hfew:((backTo cpos (starEach (e::es) X.env)).all (λx=>!x.1)&&(backToKw cpos (keywordEach [] X.env)).all (λx=>x.1.isSome)
  &&decide ((e::es).length+([]:List Keyword).length+(if ([]:List Keyword).isEmpty then 0 else 1) < 30))=true:=by rfl)
  (hline:(apos.endLine == cpos.line)=true:=by rfl) (hs:starEach (e::es) X.env=(false,eval e X.env)::starEach es X.env:=by rfl) (hplain:(backTo cpos (starEach es X.env)).any (·.1)=false:=by rfl) :
  PE X (.Call (.Attribute o name apos) (e::es) [] cpos) (tBM X.K T r to t):=by
 intro pins s σ H Q I h
 refine wpAny_Call_method_late hbase hfew hline rfl (thn (ho pins s σ H _ I h) λv s1 zz=>?_)
 obtain⟨x,H1,I1,r1,ty,q1⟩:=zz
 obtain⟨h1,h2⟩:=yO I1 r1 ty
 refine⟨T,id,pa,slot,hty,h1,h2,?_⟩
 have hA:=ha cpos pins s1 σ H1 _ I1 q1
 rw[hs] at hA ⊢
 refine Calls.callWith_builtin (by show (false || (backTo cpos (starEach es X.env)).any (·.1))=false;rw[hplain] <;> rfl) (Calls.evalArgs_plain ?_)
 refine thn hA λus s2 zz=>?_
 obtain⟨vs,H2,I2,r2,q2⟩:=zz
 exact hm pins s2 σ H2 x vs v us Q I2 r1 r2 q2
end
def MtM (X:Cx) (id:String) (r:V->YG->Hp->VK->Prop):Prop:=
 ∀(pins:YC) (s:Shared) (σ : St) (H:Hp) (x:V) (xs:YG) (v:Value) (us:YE) (Q:VK),Inv X pins σ H s->RelV x v->Vals xs us->r x xs H Q ->
  wpAny (model X.prog X.w) X.A (call (.builtin id) (v::us)) (EP X pins σ Q) X.xe s
theorem Vals.one:∀{x:V} {us:YE},Vals [x] us->∃u,us=[u]/\RelV x u
 | _,_,.cons r .nil=>⟨_,rfl,r⟩
theorem Vals.zero:∀{us:YE},Vals [] us->us=[]
 | _,.nil=>rfl
theorem Vals.dropLast {xs:YG} {us:YE} (h:Vals xs us):Vals xs.dropLast us.dropLast:=by
 induction h with
 | nil=>exact .nil
 | cons r t ih=>
  cases t with
  | nil=>exact .nil
  | cons q t'=>exact .cons r ih
theorem Vals.eraseIdx:∀{xs:YG} {us:YE} (i:Nat),Vals xs us->Vals (xs.eraseIdx i) (us.eraseIdx i)
 | _,_,_,.nil=>.nil
 | _,_,0,.cons _ t=>t
 | _,_,i+1,.cons r t=>.cons r (Vals.eraseIdx i t)
theorem Wx {α : Type}:∀(l:List α) (i:Nat),(l.eraseIdx i).length<=l.length
 | [],_=>Qcq _
 | _::_,0=>Nat.le_succ _
 | _::r,i+1=>Nat.succ_le_succ (Wx r i)
section
variable {X:Cx} {pins:YC} {σ : St} {H:Hp} {s:Shared} {l b:Addr} {xs ys zs:YG}
theorem Inv.qR {its its':YE} {n:Nat} {f:Array Value->Array Value} {t':Nat} (I:Inv X pins σ H s) (hH:H l=some (.lst xs))
  (e:s.heap.get? l=some { cls:=.type "list",data:=.seq its.toArray n }) (hf:f its.toArray=its'.toArray) (hv:Vals ys its') (hz:ys.length<=sizeLine) :
  Inv X pins σ (upd H l (.lst ys)) { s with heap:=s.heap.update l (Obj.mapSeq f),toks:=t' }:=by
 have q:=PySem.IsL.update e f
 rw[hf] at q
 refine I.write (x:=l) (e:=l) (by rw[hH];exact trivial) (.inl rfl) (λb' u hb hu=>(Qax s.heap (Obj.mapSeq f) (Ne.symm hb)).trans hu) ⟨_,q⟩ ?_
 exact⟨hz,its',_,hv,q⟩
theorem Inv.EI {its:YE} {t':Nat} (I:Inv X pins σ H s) (hv:Vals ys its) (hz:ys.length<=sizeLine) :
  Inv X pins σ (upd H s.heap.objs.size (.lst ys)) { s with heap:=s.heap.push { cls:=.type "list",data:=.seq its.toArray },toks:=t' }:=
 I.laid (λ_ _ q=>Qav _ q) (Qcq _) ⟨hz,its,0,hv,QaI _ rfl⟩
theorem Inv.fresh (I:Inv X pins σ H s):H s.heap.objs.size=none:=I.hok.fresh (Qcq _)
theorem Inv.Q5 (I:Inv X pins σ H s) (hH:H l=some (.lst xs)):xs.length<=sizeLine/\∃(its:YE) (n:Nat),Vals xs its/\xs.length=its.length/\s.heap.get? l=some { cls:=.type "list",data:=.seq its.toArray n }:=by
 obtain⟨z,its,n,r,e⟩:=I.hok l _ hH
 exact⟨z,its,n,r,r.length,e⟩
theorem qJ {n:Nat} (h:n<=sizeLine):Builtin.List.listTooLong n=false:=by
 unfold Builtin.List.listTooLong
 exact QbG (by omega)
end
section
variable {X:Cx}
def wI:V->YG->Hp->VK->Prop:=λx vs H Q=>∃l xs y,x=.ref l/\vs=[y]/\H l=some (.lst xs)/\xs.length < sizeLine/\Q .non (upd H l (.lst (xs++[y])))
theorem Bu:MtM X "list.append" wI:=by
 intro pins s σ H x vs v us Q I rx rv h
 obtain⟨l,xs,y,rfl,rfl,hH,hz,q⟩:=h
 cases rx
 obtain⟨u,rfl,ru⟩:=rv.one
 obtain⟨z,its,n,r,hl,e⟩:=I.Q5 hH
 refine call_meets F.slot_list_append ⟨_,e,rfl⟩ F.entry_list_append (F.args_list_append_2 _ _) (PySem.list_append l its.toArray n u (by rw[Qbg];omega)) ⟨e,?_⟩
 refine⟨.non,_,I.qR (its':=its++[u]) hH e (by simp) (r.append (.cons ru .nil)) ?_,rfl,q⟩
 rw[QaQ,QaB]
 omega
def wH:V->YG->Hp->VK->Prop:=λx vs H Q=>∃l b xs zs,x=.ref l/\vs=[.ref b]/\H l=some (.lst xs)/\H b=some (.lst zs)/\xs.length+zs.length<=sizeLine/\Q .non (upd H l (.lst (xs++zs)))
theorem Fx:MtM X "list.extend" wH:=by
 intro pins s σ H x vs v us Q I rx rv h
 obtain⟨l,b,xs,zs,rfl,rfl,hH,hB,hz,q⟩:=h
 cases rx
 obtain⟨u,rfl,ru⟩:=rv.one
 cases ru
 obtain⟨z,its,n,r,hl,e⟩:=I.Q5 hH
 obtain⟨z2,its2,n2,r2,hl2,e2⟩:=I.Q5 hB
 have hsz:its.toArray.size+its2.toArray.size<=sizeLine:=by rw[Qbg,Qbg];omega
 have CY:¬(!its.toArray.isEmpty&&Builtin.List.listTooLong (its.toArray.size+its2.toArray.size))=true:=by
  rw[qJ hsz,Bool.and_false]
  exact QaS
 refine call_meets F.slot_list_extend ⟨_,e,rfl⟩ F.entry_list_extend (F.args_list_extend_2 _ _)
  (AutoSeq1.list_extend_list_list_0 l its.toArray n b its2.toArray n2 CY (by rw[Qbg];omega) (by omega)) ⟨e,e2,?_⟩
 refine⟨.non,_,I.qR (its':=its++its2) hH e (by simp) (r.append r2) ?_,rfl,q⟩
 rw[QaQ]
 omega
def zJ:V->YG->Hp->VK->Prop:=λx vs H Q=>∃l xs i k y,x=.ref l/\vs=[.int i]/\H l=some (.lst xs)/\-(2 ^ 63)<=i/\i < 2 ^ 63/\seqIndex? i xs.length=some k/\xs[k]?=some y/\Q y (upd H l (.lst (xs.eraseIdx k)))
theorem Zv:MtM X "list.pop" zJ:=by
 intro pins s σ H x vs v us Q I rx rv h
 obtain⟨l,xs,i,k,y,rfl,rfl,hH,h1,h2,hk,hy,q⟩:=h
 cases rx
 obtain⟨u,rfl,ru⟩:=rv.one
 obtain⟨t,rfl⟩:=ru
 obtain⟨z,its,n,r,hl,e⟩:=I.Q5 hH
 obtain⟨w,hw,rw'⟩:=r.get hy
 refine call_meets F.slot_list_pop ⟨_,e,rfl⟩ F.entry_list_pop (F.args_list_pop_2 _ _)
  (MeetsSeq.list_pop_at l its.toArray n i t k w (fitsIndex_both h1 h2) (by rw[Qbg,<-hl];exact hk) (by rw[<-Array.getElem?_toList];exact hw) (by rw[Qbg];omega)) ⟨e,?_⟩
 refine⟨y,_,I.qR (its':=its.eraseIdx k) hH e ?_ (r.eraseIdx k) ?_,rw',q⟩
 ·show its.toArray.eraseIdxIfInBounds k=(its.eraseIdx k).toArray
  rw[List.eraseIdxIfInBounds_toArray]
 ·have:=Wx xs k
  omega
def Eg:R2:=λx y H Q=>∃l b xs zs,x=.ref l/\y=.ref b/\H l=some (.lst xs)/\H b=some (.lst zs)/\xs.length+zs.length<=sizeLine/\∀p,H p=none->Q (.ref p) (upd H p (.lst (xs++zs)))
theorem lD:OpR X (binaryOp .Add) Eg:=by
 intro pins s σ H x y v u Q I rx ry h
 obtain⟨l,b,xs,zs,rfl,rfl,hH,hB,hz,q⟩:=h
 cases rx
 cases ry
 obtain⟨z,its,n,r,hl,e⟩:=I.Q5 hH
 obtain⟨z2,its2,n2,r2,hl2,e2⟩:=I.Q5 hB
 refine PySem.P.add_list e e2 ?_ (by rw[Qbg,Qbg];omega)
 have ea:its.toArray++its2.toArray=(its++its2).toArray:=by simp
 rw[ea]
 exact⟨.ref _,_,I.EI (t':=s.toks) (r.append r2) (by rw[QaQ];omega),rfl,q _ I.fresh⟩
end
section
variable {prog:Program} {w:World} {A:Around} {E:YA} {s:Shared}
set_option maxRecDepth 100000 in
end
section
variable {X:Cx}
end
end L2
namespace Att
open PySem PySem.W PySem.Calls PyProof.Rows
theorem U5 {P:Params} {h:Heap}:∀(ns:List Int) (vs:YE),WellAll P h vs (ns.map WData.int)->IntsAre vs ns:=by
 intro ns
 induction ns with
 | nil=>
  intro vs w
  rw[List.map_nil] at w
  cases w
  exact .nil
 | cons n ns ih=>
  intro vs w
  rw[QbZ] at w
  cases w with
  | cons a b=>
   cases a
   exact .cons _ _ (ih _ b)
theorem j5 {l:OpenLaw} {n:Nat} (hn:l.most=some n) {P:Params} {h:Heap} {args:List WData} {vals:YE}
  (hpre:l.row.toRowW.claim.pre args=true) (hwl:WellAll P h vals args) :
  ∃a vs ns,vals=[Value.ref a]/\args=[WData.list (ns.map WData.int)]/\h.get? a=some { cls:=.type "list",data:=.seq vs.toArray }/\IntsAre vs ns/\ns.length<=n:=by
 have hsh:WShape.hasAll [] args [.list .int]=true:=(pre_splitW hpre).1
 have hc:l.pre.holds [] { args:=args }=true:=(pre_splitW hpre).2
 obtain⟨d,r,rfl,h1,h2⟩:=hasAllW_cons hsh
 obtain rfl:=hasAllW_nil h2
 obtain⟨xs,rfl,h3⟩:=hasW_list h1
 obtain⟨ns,rfl⟩:=items_int h3
 have hlen:ns.length<=n:=by
  unfold OpenLaw.pre at hc
  have h4:(WTm.not (.lt (.lit (.int (n:Int))) (.len (.arg 0)))).holds [] { args:=[.list (ns.map .int)] }=true:=by
   have h4:=(holds_andW hc).1
   rw[hn] at h4
   exact h4
  have h5:=condW_of h4 (w_not (w_lt w_lit (w_len_list (w_arg rfl))))
  rw[QbB] at h5
  refine Nat.le_of_not_lt λq=>?_
  have q':(n:Int) < ((ns.length:Nat):Int):=by omega
  first
   | (rw[QbS q'] at h5;exact absurd h5 (by decide))
   | (simp at h5;omega)
 cases hwl with
 | cons w1 w2=>
  cases w2
  cases w1 with
  | list ho hall=>exact⟨_,_,ns,rfl,rfl,ho,U5 ns _ hall,hlen⟩
theorem kE (l:OpenLaw) (args:List WData):l.row.toRowW.claim.post args (.bool true) args=true:=
 postW_of (r:=l.row.toRowW) (X:=(true == true))
  (show WShape.has [] (.bool true) .bool=true by first | rfl | decide | simp[WShape.has,WShape.arms,WShape.armsAll])
  (show (WTm.eq .res (.lit (.bool true))).value [] { args:=args,res:=some (.bool true),after:=args }=some (.bool (true == true)) from w_eq_bool (w_res rfl) w_lit) rfl
theorem bZ {l:OpenLaw} {n:Nat} {q:Program} {loose:YF} {XP:(YB)->Heap->Prop} {YP:World->Heap->Prop} {d:DefRec}
  (hn:l.most=some n) (hdf:d.params.defaults=[])
  (call:∀(w:World) (s₀ s₁ : Shared) (mg mb:YB) (fa:Addr) (o:Obj) (pm cd doc:Value) (a:Addr) (vs:YE) (ns:List Int),
   Ground q loose [] XP w s₀ mg mb s₁.heap->YP w s₁.heap ->
   s₁.heap.get? fa=some o->o.data=.func (docDef d.name d.params d.body d.scope pm cd doc)->s₁.heap.CodeRec cd d.name->mg d.name=some (.ref fa) ->
   s₁.heap.get? a=some { cls:=.type "list",data:=.seq vs.toArray }->IntsAre vs ns->ns.length<=n->s₁.gens=#[] ->
   codeAny (model l.prog w) callerA (.call (.ref fa) ⟨[.ref a],[]⟩) (λr s'=>r=.ok (.ret (.bool true))/\OldK s₁.heap s'.heap/\s'.os=s₁.os/\AllBare s'.gens) s₁) :
  WalkO q loose XP YP l.row.toRowW d [] (λf vs=>PySem.call f vs):=by
 intro w s₀ s₁ mg mb G Y fa o pm cd doc dV kV ho hd hcd hD hmg hg args vals as hpre hlay hrd hwl hlo
 obtain rfl:dV=.none:=Dflts.none hD hdf
 obtain rfl:kV=.none:=Dflts.noKw hD
 obtain⟨a,vs,ns,rfl,rfl,hobj,hints,hlen⟩:=j5 hn hpre hwl
 refine enter_call (Qcp (call w s₀ s₁ mg mb fa o pm cd doc a vs ns G Y ho (fd_plain hd) hcd hmg hobj hints hlen hg) λr s' hq=>?_)
 obtain⟨rfl,h2,h3,h4⟩:=hq
 exact⟨.inl ⟨.bool true,.bool true,[],rfl,λ_=>rfl,.bool true,kE l _,λ_=>⟨List.Pairwise.nil,λ_ hm=>(nomatch hm)⟩⟩,h2,h3,h4⟩
section
variable {prog:Program} {w:World} {A:Around} {E:YA} {s:Shared} {K:Frag}
def Uy (h:Heap):Heap:={ h with objs:=#[] }
theorem Lz (h:Heap) (b:Addr):(Uy h).get? b=none:=by
 cases e:(Uy h).get? b with
 | none=>rfl
 | some o=>exact absurd (Qch e) (QbO _)
theorem A8 {h:Heap} {L:Addr} {m:YB} (n:h.Ns L m):Fr (Uy h) L h m:=
 ⟨n,λb o e=>(by rw[Lz] at e;cases e),Qcr _⟩
end
end Att
namespace L2
open PySem PySem.Spec PyProof.Rows
theorem Qx:∀{vs:YE} {ns:List Int},IntsAre vs ns->Vals (ns.map V.int) vs
 | _,_,.nil=>.nil
 | _,_,.cons n t h=>.cons ⟨t,rfl⟩ (Qx h)
def Only (H:Hp):Prop:=∀b,H b=none\/∃o xs,H b=some (.frz o (.lst xs))
theorem qT {P:Program} {w:World} {K:YD} {mg mb:YB} {CX:CXT} {k:Nat} {fa a:Addr} {fd:FuncData} {x:Str} {sp:Sp} {s₁ : Shared} {vs:YE} {ns:List Int}
  (KX:K.In s₁.heap) (hns:s₁.heap.Ns mainGlobals mg) (hb:s₁.heap.Ns builtinsNs mb) (hbb:∀x:Str,x≠"__name__"->mb x=bootBuiltins x) (hlim:s₁.heap.NoLimit) (hg:s₁.gens=#[])
  (ha:s₁.heap.get? a=some { cls:=.type "list",data:=.seq vs.toArray }) (hi:IntsAre vs ns) (hl:ns.length<=sizeLine) (hr:Cw k callerA)
  (F:∀base:Heap,K.In base->base.Ns mainGlobals mg->Gj P w K mg base CX k fa fd [x] sp) (hbind:∀(s:Shared) (u:Value),BindsTo s fd ⟨[u],[]⟩ [(x,u)])
  (hsp:∀H:Hp,Only H->SqL K H a (ns.map V.int)->sp [.ref a] H (λv _=>v=.bl true) λ_ _ _=>False)
  (hCX:∀H e s',CX [] H s₁ (λ_ _ _=>False) e s'->False) :
  codeAny (model P w) callerA (.call (.ref fa) ⟨[.ref a],[]⟩) (λr s'=>r=.ok (.ret (.bool true))/\OldK s₁.heap s'.heap/\s'.os=s₁.os/\AllBare s'.gens) s₁:=by
 have rv:=Qx hi
 have lenV:=hi.length
 have core:∀H:Hp,Only H->SqL K H a (ns.map V.int)->HOk P w H s₁.heap->(∀b,H b≠none->b=a)->(H a≠none->K.lookup a=none) ->
   codeAny (model P w) callerA (.call (.ref fa) ⟨[.ref a],[]⟩) (λr s'=>r=.ok (.ret (.bool true))/\OldK s₁.heap s'.heap/\s'.os=s₁.os/\AllBare s'.gens) s₁:=by
  intro H hO hS hok hA hK
  have eY:∀{b:Addr} {o:Obj},s₁.heap.get? b=some o->H b=none->(P0 s₁.heap H).get? b=some o:=λe n=>tX e n
  have noA:∀{b:Addr} {o:Obj} {es:YK} {ep:Nat},s₁.heap.get? b=some o->o.data=.dict es ep->H b=none:=λ{b o es ep} e d=>by
   cases q:H b with
   | none=>rfl
   | some u=>
    have e':b=a:=hA b (by rw[q];simp)
    subst e'
    rw[ha] at e;cases e
    have d':Data.seq vs.toArray _=Data.dict es ep:=d
    cases d'
  have nsK:∀{b:Addr} {m:YB},s₁.heap.Ns b m->(P0 s₁.heap H).Ns b m:=λ{b m} ⟨o,es,ep,e,d,r⟩=>⟨o,es,ep,eY e (noA e d),d,r⟩
  have hKb:K.In (P0 s₁.heap H):=λb o e=>eY (KX b o e) (by
   cases q:H b with
   | none=>rfl
   | some u=>
    have e':b=a:=hA b (by rw[q];simp)
    subst e'
    rw[hK (by rw[q];simp)] at e;cases e)
  have hM:Mod K mg (P0 s₁.heap H):=⟨hKb,nsK hns,⟨mb,nsK hb,hbb⟩,let ⟨mc,h1,h2⟩:=hlim;⟨mc,nsK h1,h2⟩⟩
  have e0:Lj P w K mg (P0 s₁.heap H) callerA [] s₁ H:=⟨rfl,hM,λb o e=>w5 e,Nat.le_of_eq (mF _ _),trivial,λb hb=>absurd (show b∈([]:List Addr) from hb) (by simp),hok,.of_eq hg⟩
  refine Qcp ((F _ hKb (nsK hns)).run callerA [] s₁ H ⟨[.ref a],[]⟩ [.ref a] [.ref a] _ _ hr e0 (hbind s₁ (.ref a)) (.cons rfl .nil) (hsp H hO hS)) λr s' h=>?_
  cases r with
  | error e=>exact (hCX H e s' h).elim
  | ok fl=>
   cases fl with
   | next=>exact False.elim h
   | brk=>exact False.elim h
   | cont=>exact False.elim h
   | ret u=>
    obtain⟨v,H',os,bare,un,hok',r',q⟩:=h
    have q':v=.bl true:=q
    subst q'
    obtain rfl:u=Value.bool true:=r'
    refine⟨rfl,OldK.of_keep λb o e=>?_,os,bare⟩
    cases q:H b with
    | none=>exact un.keep b o e q (by intro z;exact absurd (show b∈([]:List Addr) from z) (by simp)) (by simp)
    | some u=>
     rcases hO b with z |⟨ob,xs,z⟩
     ·rw[q] at z;cases z
     ·have z2:=un.GQ b ob _ z
      obtain⟨e1,_⟩:=hok b _ z
      obtain⟨e2,_⟩:=hok' b _ z2
      rw[e] at e1;cases e1
      exact e2
 cases hk:K.lookup a with
 | some o=>
  have e:=KX a o hk
  rw[ha] at e
  cases e
  refine core (λ_=>none) (λ_=>.inl rfl) (.inr ⟨_,vs.toArray,_,hk,rfl,rfl,rfl,by rw[Qbg,lenV];exact hl,by simpa using rv⟩) (λb u z=>by have z':(none:Option HO)=some u:=z;cases z') (λb z=>absurd rfl z) λz=>absurd rfl z
 | none=>
  refine core (λb=>if b=a then some (.frz { cls:=.type "list",data:=.seq vs.toArray } (.lst (ns.map V.int))) else none) (λb=>?_) (.inl (.inr ⟨{ cls:=.type "list",data:=.seq vs.toArray },if_pos rfl⟩)) (λb u z=>?_) (λb z=>?_) λ_=>hk
  ·by_cases hb:b=a
   ·exact .inr ⟨_,_,if_pos hb⟩
   ·exact .inl (if_neg hb)
  ·by_cases hb:b=a
   ·have z':=(if_pos hb).symm.trans z
    cases z'
    subst hb
    exact⟨ha,by rw[QbB];exact hl,vs,_,rv,ha⟩
   ·have z':=(if_neg hb).symm.trans z
    cases z'
  ·by_cases hb:b=a
   ·exact hb
   ·exact absurd (if_neg hb) z
theorem vZ {l:PySem.W.OpenLaw} {n k:Nat} {q:Program} {loose:YF} {XP:(YB)->Heap->Prop} {YP:World->Heap->Prop} {d:DefRec} {K:Params->YD} {CX:World->CXT} {sp:World->Sp} {x:Str}
  (hn:l.most=some n) (hn2:n<=sizeLine) (hdf:d.params.defaults=[]) (hr:Cw k callerA)
  (hY:∀(w:World) (h:Heap),YP w h->(K w.params).In h)
  (F:∀(w:World) (mg:YB) (fa:Addr) (h:Heap),(K w.params).In h->h.Ns mainGlobals mg->mg d.name=some (.ref fa) ->
   ∃fd:FuncData,(∀(s:Shared) (u:Value),BindsTo s fd ⟨[u],[]⟩ [(x,u)]) /\
    ∀base:Heap,(K w.params).In base->base.Ns mainGlobals mg->Gj l.prog w (K w.params) mg base (CX w) k fa fd [x] (sp w))
  (hsp:∀(w:World) (H:Hp) (a:Addr) (ns:List Int),ns.length<=n->Only H->SqL (K w.params) H a (ns.map V.int)->sp w [.ref a] H (λv _=>v=.bl true) λ_ _ _=>False)
  (hCX:∀(w:World) (H:Hp) (s:Shared) (e:Value) (s':Shared),CX w [] H s (λ_ _ _=>False) e s'->False) :
  PySem.W.WalkO q loose XP YP l.row.toRowW d [] (λf vs=>PySem.call f vs):=by
 refine Att.bZ hn hdf λw s₀ s₁ mg mb fa o pm cd doc a vs ns G Y ho hd hcd hmg hobj hints hlen hg=>?_
 have KX:=hY w _ Y
 obtain⟨fd,hb,hF⟩:=F w mg fa _ KX G.T.g hmg
 exact qT KX G.T.g G.T.b G.T.builtins G.T.nolimit hg hobj hints (Qck hlen hn2) hr hF hb (λH hO hS=>hsp w H a ns hlen hO hS) λH e s'=>hCX w H s₁ e s'
def inClass (s:Stmt) (j:Nat):Stmt:=match s with
 | .ClassDef _ _ _ body _ _ _ _ _ _ _=>body.getD j (.Pass ⟨0,0,0,0⟩)
 | _=>.Pass ⟨0,0,0,0⟩
def DG (s:Stmt):Arguments:=match s with
 | .FunctionDef _ a _ _ _ _ _ _ _ _=>a
 | _=>{ posonlyargs:=[],args:=[],vararg:=none,kwonlyargs:=[],kw_defaults:=[],kwarg:=none,defaults:=[] }
def Cz (s:Stmt):List Stmt:=match s with
 | .FunctionDef _ _ b _ _ _ _ _ _ _=>b
 | _=>[]
def Aj (s:Stmt):Scope:=match s with
 | .FunctionDef _ _ _ _ _ _ sc _ _ _=>sc
 | _=>{ kind:=.function,names:=[],isGenerator:=false,isCoroutine:=false }
abbrev CX0:CXT:=λ_ _ _ _ _ _=>False
abbrev E0:XK:=λ_ _ _=>False
theorem Xz {X:Cx}:Passes CX0 X E0:=λ_ _ _ _ _ _ _ h=>h.elim
structure Fun (K:YD) (x qual:Str) (st:Stmt) (f:Addr) (fd:FuncData):Prop where
 ex:∃(oc:Value) (od:Option Addr) (kV doc pm:Value) (an:Option Addr) (cdv ct:Value) (osl:YI),
  fd=fnOf x qual (DG st) (Cz st) (Aj st) .none kV doc pm an cdv ct/\K.lookup f=some ⟨oc,od,.func fd,osl⟩/\codeIn K cdv qual=true
 kp:keepIn K (.ref f)=true
section
variable {P:Program} {w:World} {K:YD} {mg:YB} {base:Heap}
theorem Fun.ok {x qual:Str} {st:Stmt} {f:Addr} {fd:FuncData} {N ps:YF} {k:Nat} {sp:Sp} (F:Fun K x qual st f fd) (S:Az N ps (Aj st)) (len:∀vs H Q E,sp vs H Q E->vs.length=ps.length)
  (hbody:∀(cdv:Value) (A:Around) (outer:List Env) (s:Shared) (H:Hp) (vs:YG) (Q:VK) (E:XK),Cw k (A.deeper (envOfC qual (Aj st) s.heap.objs.size f cdv))->sp vs H Q E ->
   ∃t,PSs (Lh CX0 P w K mg base N qual (Aj st) f cdv A outer s H E).nox (Cz st) t/\t { nx:=λ_ H'=>Q .non H',rt:=Q } (start N vs) H):Gj P w K mg base CX0 (k+1) f fd ps sp:=by
 obtain⟨oc,od,kV,doc,pm,an,cdv,ct,osl,rfl,lk,hcd⟩:=F.ex
 refine vN lk hcd S len λA outer s H vs Q E hr hsp=>?_
 obtain⟨t,h,q⟩:=hbody cdv A outer s H vs Q E hr hsp
 exact⟨t,h.nox,q⟩
theorem Fun.binds {x qual:Str} {st:Stmt} {f:Addr} {fd:FuncData} {ps:YF} (F:Fun K x qual st f fd)
  (h:∀(kV doc pm:Value) (an:Option Addr) (cdv ct:Value) (us:YE),us.length=ps.length->bindArgs (fnOf x qual (DG st) (Cz st) (Aj st) .none kV doc pm an cdv ct) ⟨us,[]⟩=pure (ps.zip us)):Binds K fd ps []:=by
 obtain⟨oc,od,kV,doc,pm,an,cdv,ct,osl,rfl,lk,hcd⟩:=F.ex
 exact .all (h kV doc pm an cdv ct)
theorem U9 {x qual:Str} {st:Stmt} {f:Addr} {oc:Value} {od an:Option Addr} {osl:YI} {kV doc pm cdv ct:Value} (l:K.lookup f=some ⟨oc,od,.func (fnOf x qual (DG st) (Cz st) (Aj st) .none kV doc pm an cdv ct),osl⟩)
  (c:codeIn K cdv qual=true) (k:keepIn K (.ref f)=true):Fun K x qual st f (fnOf x qual (DG st) (Cz st) (Aj st) .none kV doc pm an cdv ct):=⟨⟨oc,od,kV,doc,pm,an,cdv,ct,osl,rfl,l,c⟩,k⟩
end
theorem Cy {A:Around} {k:Nat} (hr:Cw k A):A.units+1 < cLine:=Nat.lt_of_le_of_lt (Nat.add_le_add_left (by decide:1<=64) _) hr.units
theorem Ao {n:Nat} (h:n<=1000):n < sizeLine:=Nat.lt_of_le_of_lt h (by decide)
section
variable {X:Cx}
theorem pv (i:Nat) {x:Str} {pos:Pos} (hN:X.N[i]?=some x:=by rfl) (hv:Vis X.env.scope x:=by first | exact Or.inl rfl | exact Or.inr (Or.inl rfl) | exact Or.inr (Or.inr rfl)) (hd:(x == ("__debug__":Str))=false:=by decide)
  (hcd:(x == ("__classdict__":Str))=false:=by decide):PE X (.Name x pos) (yR i):=zQ hN hv hd hcd
end
theorem Cm {A B:Prop} (h:B):if false=true then A else B:=by
 rw[if_neg QaS]
 exact h
theorem BK {A B:Prop} (h:A):if true=true then A else B:=by
 rw[if_pos rfl]
 exact h
theorem JB {c A B:Prop} [Decidable c] (h1:c->A) (h2:¬c->B):if c then A else B:=by
 by_cases h:c
 ·rw[if_pos h]
  exact h1 h
 ·rw[if_neg h]
  exact h2 h
theorem CF {c A B:Prop} [Decidable c] (hc:c) (h:B):if (!decide c)=true then A else B:=by
 rw[QbS hc]
 exact Cm h
def Same (H H':Hp):Prop:=∀b o,H b=some o->H' b=some o
theorem Same.refl (H:Hp):Same H H:=λ_ _ h=>h
theorem Same.trans {H H1 H2:Hp} (a:Same H H1) (b:Same H1 H2):Same H H2:=λc o h=>b c o (a c o h)
theorem Same.free {H H':Hp} (e:Same H H') {l:Addr} (h:H' l=Option.none):H l=Option.none:=by
 cases q:H l with
 | none=>rfl
 | some o=>
  rw[e l o q] at h
  cases h
theorem Same.seq {K:YD} {H H':Hp} {a:Addr} {xs:YG} (e:Same H H') (h:SqL K H a xs):SqL K H' a xs:=by
 rcases h with (h |⟨o,h⟩) | h
 ·exact .inl (.inl (e _ _ h))
 ·exact .inl (.inr ⟨o,e _ _ h⟩)
 ·exact .inr h
def Em (env:Env):List (Str×NameKind)->List (Str×Addr)->List (Str×Addr)
 | [],cs=>cs
 | (n,k)::r,cs=>Em env r (if (k == .free)=true then (match env.cells.lookup n with | some c=>(n,c)::cs | none=>cs) else cs)
theorem aq {env:Env}:∀(names:List (Str×NameKind)) (cs:List (Str×Addr)),(∀p∈names,p.2=.free->∃c,env.cells.lookup p.1=some c) ->
  (forIn names cs λ(p:Str×NameKind) (r:List (Str×Addr))=>(if (p.2 == .free)=true then do
    let c <-cellOf env p.1
    pure (ForInStep.yield ((p.1,c)::r))
   else pure (ForInStep.yield r):Sem (ForInStep (List (Str×Addr)))))=pure (Em env names cs)
 | [],cs,_=>rfl
 | (n,k)::rest,cs,h=>by
  have ih:=λcs'=>aq rest cs' λp hp=>h p (QaE _ hp)
  rw[List.forIn_cons]
  cases hk:(k == NameKind.free) with
  | true=>
   obtain⟨c,hc⟩:=h (n,k) QaR (eq_of_beq hk)
   have e1:cellOf env n=pure c:=by unfold cellOf;rw[hc]
   have e2:Em env ((n,k)::rest) cs=Em env rest ((n,c)::cs):=by simp only[Em,hk,if_true,hc]
   rw[e2,<-ih]
   simp only[hk,if_true,e1,pure_bind]
  | false=>
   have e2:Em env ((n,k)::rest) cs=Em env rest cs:=by simp only[Em,hk,Bool.false_eq_true,if_false]
   rw[e2,<-ih]
   simp only[hk,Bool.false_eq_true,if_false,pure_bind]
theorem Qg {env:Env} {scope:Scope} (h:∀p∈scope.names,p.2=.free->∃c,env.cells.lookup p.1=some c):closureFor scope env=pure (Em env scope.names []):=by
 have e:=aq (env:=env) scope.names [] h
 unfold closureFor
 simp only[bind_pure]
 exact e
theorem ak {env:Env}:∀(names:List (Str×NameKind)) (cs:List (Str×Addr)),(∀x c,cs.lookup x=some c->env.cells.lookup x=some c) ->
  ∀x c,(Em env names cs).lookup x=some c->env.cells.lookup x=some c
 | [],cs,h,x,c,e=>h x c e
 | (n,k)::rest,cs,h,x,c,e=>by
  refine ak rest _ (λy d z=>?_) x c e
  split at z
  ·split at z
   ·rename_i c' hc'
    rw[List.lookup_cons] at z
    cases q:y == n with
    | true=>rw[q] at z;cases z;rw[eq_of_beq q];exact hc'
    | false=>rw[q] at z;exact h y d z
   ·exact h y d z
  ·exact h y d z
theorem T5 {env:Env}:∀(names:List (Str×NameKind)) (cs:List (Str×Addr)) (x:Str),((cs.lookup x).isSome=true\/((x,NameKind.free)∈names/\∃c,env.cells.lookup x=some c)) ->
  ∃c,(Em env names cs).lookup x=some c
 | [],cs,x,h=>by
  rcases h with h |⟨h,_⟩
  ·exact Option.isSome_iff_exists.mp h
  ·cases h
 | (n,k)::rest,cs,x,h=>by
  refine T5 rest _ x ?_
  have grow:(cs.lookup x).isSome=true->(List.lookup x (if (k == .free)=true then (match env.cells.lookup n with | some c=>(n,c)::cs | none=>cs) else cs)).isSome=true:=λz=>by
   split
   ·split
    ·rw[List.lookup_cons]
     cases x == n with
     | true=>rfl
     | false=>exact z
    ·exact z
   ·exact z
  rcases h with h |⟨h,c,hc⟩
  ·exact .inl (grow h)
  ·rcases QbY.mp h with z | z
   ·cases z
    refine .inl ?_
    simp[hc,List.lookup_cons]
   ·exact .inr ⟨z,c,hc⟩
def Mv (env:Env) (n:Str) (k:NameKind):NameKind:=if (k == .free&&env.scope.kind == .function&&env.kindOf n == some .cell)=true then .cell else k
theorem UJ (env:Env):∀(l:List (Str×NameKind)) (x:Str),
  (l.map λ(n,k)=>if (k == NameKind.free&&env.scope.kind == .function&&env.kindOf n == some .cell) then (n,NameKind.cell) else (n,k)).lookup x=(l.lookup x).map (Mv env x)
 | [],_=>rfl
 | (n,k)::r,x=>by
  have ih:=UJ env r x
  have e:(if (k == NameKind.free&&env.scope.kind == .function&&env.kindOf n == some .cell)=true then (n,NameKind.cell) else (n,k))=(n,Mv env n k):=by
   unfold Mv;split <;> rfl
  rw[QbZ]
  show List.lookup x ((if (k == NameKind.free&&env.scope.kind == .function&&env.kindOf n == some .cell)=true then (n,NameKind.cell) else (n,k))::_)=_
  rw[e,List.lookup_cons,List.lookup_cons]
  cases q:x == n with
  | true=>rw[eq_of_beq q];rfl
  | false=>exact ih
theorem pP {env:Env} {n:Str} {k:NameKind} (h:Mv env n k=.cell\/Mv env n k=.free):k=.cell\/k=.free:=by
 unfold Mv at h
 split at h
 ·rename_i q
  simp only[Qbw] at q
  exact .inr (eq_of_beq q.1.1)
 ·exact h
theorem nP {prog:Program} {w:World} {A:Around} {R:Result->Shared->Prop} {s:Shared} {elt target iter:Expr} {ifs:YJ} {scope:Scope} {pos:Pos} {it acc:Value} {env:Env} (J:Nat->Shared->Prop)
  (turn:∀n s,J n s->wpAny (model prog w) A (pyNext it) (λr s1=>match r with
   | none=>R (.ok .next) s1
   | some v=>wpAny (model prog w) A (letOwnedTupleGo target it v) (λ_ s2=>wpAny (model prog w) A (assign target env v) (λ_ s3=>
     wpAny (model prog w) A (forIn ifs true λc r=>if r=true then do let ok <-isTrue c env (eval c env);pure (ForInStep.yield ok) else pure (ForInStep.yield r)) (λok s4=>
      if ok=true then wpAny (model prog w) A (eval elt env) (λx s5=>wpAny (model prog w) A (call (.builtin "list.append") [acc,x]) (λ_ s6=>∃m,m < n/\J m s6) (λ_ _=>False) s5) (λ_ _=>False) s4
      else ∃m,m < n/\J m s4) (λ_ _=>False) s3) (λ_ _=>False) s2) (λ_ _=>False) s1) (λ_ _=>False) s)
  (n:Nat) (h:J n s):codeAny (model prog w) A (.compLoop (.ListComp elt [⟨target,iter,ifs,0⟩] scope pos) 0 it acc env) R s:=by
 refine codeAny_loop rfl J (λk s' hk=>?_) n h
 show wpAny _ A (Sem.onRaise (compTurn (.ListComp elt [⟨target,iter,ifs,0⟩] scope pos) 0 it acc env) (λx=>do noteFrame x env;theTreesLotGoes x)) _ _ s'
 refine wpAny_noted ?_
 rw[compTurn_list]
 refine Qcv (Qce (Qcv (Qcx (turn k s' hk) (λr s1 q1=>?_) λ_ _ f=>f.elim)))
 cases r with
 | none=>exact Qcw q1
 | some v=>
  refine Qcv (Qcx q1 (λ_ s2 q2=>Qcv (Qcx q2 (λ_ s3 q3=>Qcv (Qcx q3 (λok s4 q4=>?_) λ_ _ f=>f.elim)) λ_ _ f=>f.elim)) λ_ _ f=>f.elim)
  cases ok with
  | false=>exact Qcw ⟨rfl,q4⟩
  | true=>exact Qcv (Qcv (Qcx q4 (λx s5 q5=>Qcv (Qcx q5 (λ_ s6 q6=>Qcw (Qcw ⟨rfl,q6⟩)) λ_ _ f=>f.elim)) λ_ _ f=>f.elim))
def cxC (X:Cx) (N':YF) (scope:Scope) (s3:Shared) (H3:Hp) (fp:List Addr) (pn:YC):Cx where
 prog:=X.prog
 w:=X.w
 K:=X.K
 mg:=X.mg
 base:=X.base
 A:=X.A
 N:=N'
 s₀:=s3
 H₀:=H3
 env:=compEnvC scope (Em X.env scope.names []) s3.heap.objs.size X.env
 outer:=X.stack
 stack:=X.stack
 ex:=fp
 fn:=λ_=>false
 calm:=X.calm
 pn:=pn
 xe:=λ_ _=>False
structure Bp (X:Cx) (N':YF) (src:List (Option Nat)) (sc:Scope):Prop where
 kind:sc.kind=.function
 Ih:∀y∈sc.names,y.2≠.cell
 loc:∀y∈sc.names,y.2=.local->sc.names.lookup y.1=some .local
 fv:∀y∈sc.names,y.2=.free->X.env.kindOf y.1=some .cell\/X.env.kindOf y.1=some .free
 len:src.length=N'.length
 src:∀(i:Nat) (x:Str) (j:Nat),N'[i]?=some x->src[i]?=some (some j)->X.N[j]?=some x/\sc.names.lookup x=some .free
def Jl (src:List (Option Nat)) (σ : St):St:=src.map λo=>match o with | none=>none | some j=>(σ[j]?).join
def PF (X:Cx) (ifs:YJ) (t:TT):Prop:=
 ∀(pins:YC) (s:Shared) (σ : St) (H:Hp) (Q:Bool->Hp->Prop),Inv X pins σ H s->t σ H Q ->
  wpAny (model X.prog X.w) X.A (forIn ifs true λc r=>if r=true then do let ok <-isTrue c X.env (eval c X.env);pure (ForInStep.yield ok) else pure (ForInStep.yield r)) (TP X pins σ Q) X.xe s
theorem CW {X:Cx}:PF X [] (λ_ H Q=>Q true H):=λ_ _ _ H _ I h=>wpAny_tests_nil ⟨H,I,h⟩
theorem Kz {X:Cx} {c:Expr} {t:TT} (hc:PT X c t):PF X [c] t:=λpins s σ H Q I h=>wpAny_tests_one (hc pins s σ H Q I h)
theorem Un.ahead {fs ex:List Addr} {H H':Hp} {h h1 h':Heap} (u:Un fs ex H H' h h1) (k:∀b o,b < h.objs.size->h1.get? b=some o->h'.get? b=some o):Un fs ex H H' h h' where
 keep:=λb o e n hb hx=>k b o (Qch e) (u.keep b o e n hb hx)
 slot:=λb o e n hb hx=>by
  obtain⟨sl,q⟩:=u.slot b o e n hb hx
  exact⟨sl,k b _ (Qch e) q⟩
 free:=u.free
 there:=λb o e hx=>by
  obtain⟨o',q⟩:=u.there b o e hx
  exact⟨o',k b _ (Qch e) q⟩
 tups:=u.tups
 GQ:=u.GQ
 Ht:=u.Ht
section
variable {X:Cx} {N':YF} {src:List (Option Nat)} {sc:Scope} {pins:YC} {σ : St} {H:Hp} {s3:Shared} {fp:List Addr} {h1:Heap} {tk:Nat}
theorem TV (S:Bp X N' src sc) (I:Inv X pins σ H s3) (hf:∀b∈fp,Gi X pins H b) (ht:∀b∈fp,b < s3.heap.objs.size)
  (ns:h1.Ns s3.heap.objs.size λ_=>none) (kp:∀b o,s3.heap.get? b=some o->h1.get? b=some o) :
  Inv (cxC X N' sc s3 H fp (X.pn++pins)) [] (Jl src σ) H { s3 with heap:=h1,toks:=tk }:=by
 have hcl:∀x c,(Em X.env sc.names []).lookup x=some c->X.env.cells.lookup x=some c:=ak sc.names [] λx c e=>by cases e
 have old:∀x c,(Em X.env sc.names []).lookup x=some c->∃o,s3.heap.get? c=some o:=λx c e=>by
  obtain⟨v,o,ho,_⟩:=I.cell x c (hcl x c e)
  exact⟨o,ho⟩
 have fvh:∀x,(x,NameKind.free)∈sc.names->∃c,X.env.cells.lookup x=some c:=λx hx=>I.ok.has x (S.fv _ hx rfl)
 have zq:∀b,b≠X.env.locals->b∉X.fs->b∉frs X.stack:=λb h1 h2 hb=>(QbY.mp (I.Ue b hb)).elim h1 h2
 have kindOf_eq:∀x,(compEnvC sc (Em X.env sc.names []) s3.heap.objs.size X.env).kindOf x=(sc.names.lookup x).map (Mv X.env x):=λx=>UJ X.env sc.names x
 refine⟨⟨I.ok.mod,S.kind,I.ok.glob,I.ok.blt,Qcq _,λx y c e1 e2=>I.ok.inj x y c (hcl x c e1) (hcl y c e2),λx hx=>?_,λx c hf=>absurd hf QaS,I.ok.hd,I.ok.frames,.inl rfl,λb hb=>?_,I.bs,Qck I.ok.bsz I.sz,
  λb o e hb=>?_,λb hb=>?_,I.stack,I.Vl⟩,rfl,I.bare,Un.kept kp,⟨_,ns,λi x v e1 e2 e3=>?_⟩,λx c e=>?_,I.hok.fresh (Qcq _),λx c e=>I.El x c (hcl x c e),λp hp=>?_,I.hok.kept kp,?_⟩
 ·
  have hx':(sc.names.lookup x).map (Mv X.env x)=some .cell\/(sc.names.lookup x).map (Mv X.env x)=some .free:=by
   rw[<-kindOf_eq x];exact hx
  cases q:sc.names.lookup x with
  | none=>rw[q] at hx';rcases hx' with z | z <;> cases z
  | some k=>
   rw[q] at hx'
   have hk:k=.cell\/k=.free:=pP (env:=X.env) (n:=x) (hx'.imp (λz=>QbH z) λz=>QbH z)
   have hm:=QaO q
   rcases hk with rfl | rfl
   ·exact absurd rfl (S.Ih _ hm)
   ·exact T5 sc.names [] x (.inr ⟨hm,fvh x hm⟩)
 ·
  obtain⟨f0,f1,f2,f3,f4,f5⟩:=hf b hb
  exact⟨Qcj (ht b hb),λx c e=>f4 x c (hcl x c e)⟩
 ·
  obtain⟨f0,f1,f2,f3,f4,f5⟩:=hf b hb
  rcases f3 with z | z
  ·exact I.ok.Nf b o e z
  ·exact absurd (QaW (Qch e) (Qck I.ok.bsz z)) (Qcb _)
 ·
  obtain⟨f0,f1,f2,f3,f4,f5⟩:=hf b hb
  exact zq b f1 f2
 ·
  have e2':(Jl src σ)[i]?=some (some v):=e2
  unfold Jl at e2'
  rw[Qbi] at e2'
  cases q:src[i]? with
  | none=>rw[q] at e2';cases e2'
  | some oj=>
   rw[q] at e2'
   cases oj with
   | none=>cases e2'
   | some j=>
    have e4:(σ[j]?).join=some v:=QbH e2'
    have e5:σ[j]?=some (some v):=by
     cases r:σ[j]? with
     | none=>rw[r] at e4;cases e4
     | some z=>rw[r] at e4;cases z with
      | none=>cases e4
      | some y=>cases e4;rfl
    obtain⟨hN,hfr⟩:=S.src i x j e1 q
    have hm:=QaO hfr
    have kx:=S.fv _ hm rfl
    obtain⟨m,hn,hl⟩:=I.loc
    obtain⟨u,r,l⟩:=hl j x v hN e5 (.inr kx)
    refine⟨u,r,?_⟩
    rcases l with⟨k1,_⟩|⟨_,c,hc,hcell⟩
    ·rcases kx with z | z <;> (rw[z] at k1;cases k1)
    ·obtain⟨c',hc'⟩:=T5 (env:=X.env) sc.names [] x (.inr ⟨hm,c,hc⟩)
     have e6:c'=c:=by
      have:=hcl x c' hc'
      rw[hc] at this
      exact (QbH this).symm
     subst e6
     refine .inr ⟨?_,c',hc',?_⟩
     ·have:(compEnvC sc (Em X.env sc.names []) s3.heap.objs.size X.env).kindOf x=some (Mv X.env x .free):=by rw[kindOf_eq x,hfr];rfl
      show (compEnvC sc (Em X.env sc.names []) s3.heap.objs.size X.env).kindOf x=some .cell\/(compEnvC sc (Em X.env sc.names []) s3.heap.objs.size X.env).kindOf x=some .free
      rw[this]
      unfold Mv
      split
      ·exact .inl rfl
      ·exact .inr rfl
     ·obtain⟨o,ho,hd⟩:=hcell
      exact⟨o,kp _ o ho,hd⟩
 ·
  obtain⟨v,o,ho,hd⟩:=I.cell x c (hcl x c e)
  exact⟨v,o,kp _ o ho,hd⟩
 ·
  have hp':p∈X.pn++pins:=(QbD.mp hp).elim id λz=>by cases z
  obtain⟨a1,a2,a3,a4,a5⟩:=I.pin p hp'
  exact⟨kp _ _ a1,a2,Qcj (Qch a1),zq p.1 a3 a4,a5⟩
 ·show (Jl src σ).length=N'.length
  unfold Jl
  rw[QbB]
  exact S.len
theorem Q9 {s1:Shared} {σ':St} {H':Hp} {h':Heap} (I:Inv X pins σ H s3) (hf:∀b∈fp,Gi X pins H b) (I':Inv (cxC X N' sc s3 H fp (X.pn++pins)) [] σ' H' s1)
  (sb:Heap.SameBut s3.heap.objs.size s1.heap h'):Inv X pins σ H' { s1 with heap:=h' }:=by
 have fr:H' s3.heap.objs.size=none:=I'.free
 refine I.call' (s':={ s1 with heap:=h' }) (ch:=fp) I'.os ?_ ?_ I'.bare λb hb=>?_
 ·exact Un.ahead (h:=s3.heap) (h1:=s1.heap) I'.base λb o hb e=>sb.extBut b o (Qcj hb) e
 ·exact λb u e=>(I'.hok b u e).stay (λc v hc q=>sb.extBut c v (by
   intro z
   rcases hc with y | y
   ·rw[<-y,z,fr] at e;cases e
   ·rw[z,fr] at y;cases y) q) (λ_ q=>q) λ_ _ q=>q
 ·obtain⟨f0,f1,f2,f3,f4,f5⟩:=hf b hb
  exact⟨f3,f1,f4,λp hp=>f5 p hp⟩
end
@[irreducible] def FJ (J:It) (g:TG) (tt:TT) (te:TE) (Q:VK) (σ0:St) (H0:Hp) (l:Addr):Prop:=∃W:Nat->YN,(∃m,W 0 m σ0 H0) /\
 ∀i m σ' H',W i m σ' H'->(J.stop i H'/\Q (.ref l) H')\/(J.go i H'/\∃N:YO,(∀ σ3 H3,N σ3 H3->∃m',m' < m/\W (i+1) m' σ3 H3)/\∀x H2,J.yld i H' x H2->g x σ' H2 fun σ3 H3=>tt σ3 H3 λb H4=>
  if b=true then te σ3 H4 λy H5=>∃xs,H5 l=some (.lst xs)/\xs.length < sizeLine/\N σ3 (upd H5 l (.lst (xs++[y]))) else N σ3 H4)
def fL (wi:TI) (src:List (Option Nat)) (g:TG) (tt:TT) (te:TE):TE:=fun σ H Q=>wi σ H λJ H1=>∀l,H1 l=none->FJ J g tt te Q (Jl src σ) (upd H1 l (.lst [])) l
theorem WR {X:Cx} {N':YF} {src:List (Option Nat)} {sc:Scope} {elt tg iter:Expr} {ifs:YJ} {pos pos':Pos} {wi:TI} {g:TG} {tt:TT} {te:TE} {use:Option (Value->Sem Unit)} {R:YA} (hc:X.calm=true) (S:Bp X N' src sc)
  (hi:PI X tg iter wi) (hg:∀s3 H3 fp pn,PG (cxC X N' sc s3 H3 fp pn) tg g) (ht:∀s3 H3 fp pn,PF (cxC X N' sc s3 H3 fp pn) ifs tt) (he:∀s3 H3 fp pn,PE (cxC X N' sc s3 H3 fp pn) elt te)
  (hs:∀x,foldedSetIterable iter X.env x=pure x) {pins:YC} {s:Shared} {σ : St} {H:Hp} {Q:VK} (I:Inv X pins σ H s) (h:fL wi src g tt te σ H Q)
  (fin:∀s3 H3 fp σ4 H4 s5 l,Inv X pins σ H3 s3->(∀b∈fp,Gi X pins H3 b)->Inv (cxC X N' sc s3 H3 fp (X.pn++pins)) [] σ4 H4 s5->Q (.ref l) H4 ->
   compPost (model X.prog X.w) X.A X.xe use R (.ref l) s3.heap.objs.size (.ok .next) s5) :
  wpAny (model X.prog X.w) X.A (comprehension (.ListComp elt [⟨tg,iter,ifs,0⟩] sc pos) sc X.env pos' (newList []) false (eval iter X.env) use) R X.xe s:=by
 refine wpAny_comprehension_free (use:=use) (cl:=Em X.env sc.names []) rfl hs (Qg λp hp e=>I.ok.has p.1 (S.fv p hp e)) S.kind S.loc ?_
 refine thn (hi pins s σ H _ I h) λv s1 h1=>thn h1 λitv s2 h2=>?_
 obtain⟨it,fp,tn,J,H2,rfl,I2,T,st2,f2,q⟩:=h2
 have q':=q s2.heap.objs.size (I2.hok.fresh (Qcq _))
 unfold FJ at q'
 obtain⟨W,⟨m0,w0⟩,turn⟩:=q'
 refine Qbn (wpAny_newFunctionEnv S.Ih (by intro y hy;simp at hy) (λha hns hsb=>?_) S.kind)
 have I3:Inv X pins σ (upd H2 s2.heap.objs.size (.lst [])) { s2 with heap:=s2.heap.push { cls:=.type "list",dict:=none,data:=.seq ([]:YE).toArray } }:=
  I2.laid (t':=s2.toks) (λb u e=>Qav _ e) (Qcq _) ⟨Qcr _,[],0,.nil,QaI _ rfl⟩
 have hfl:∀b∈fp,b < s2.heap.objs.size:=λb hb=>by
  obtain⟨o,e,_⟩:=T.obj 0 _ st2 b hb
  exact Qch e
 have f3:∀b∈fp,Gi X pins (upd H2 s2.heap.objs.size (.lst [])) b:=λb hb=>⟨by rw[Al (Qcj (hfl b hb))];exact (f2 b hb).1,(f2 b hb).2⟩
 generalize hs3:({ s2 with heap:=s2.heap.push { cls:=.type "list",dict:=none,data:=.seq ([]:YE).toArray } }:Shared)=s3 at *
 have hsz:s2.heap.objs.size < s3.heap.objs.size:=by rw[<-hs3];show s2.heap.objs.size < (s2.heap.push _).objs.size;rw[QbT];exact Qby _
 have kp:∀b o,s3.heap.get? b=some o->ha.get? b=some o:=λb o e=>hsb.extBut b o (Qcj (Qch e)) (Qav _ e)
 have st3:tn 0 ha:=T.keep 0 _ _ st2 λb hb o e=>kp b o (by rw[<-hs3];exact Qav _ e)
 have I4:Inv (cxC X N' sc s3 (upd H2 s2.heap.objs.size (.lst [])) fp (X.pn++pins)) [] (Jl src σ) (upd H2 s2.heap.objs.size (.lst [])) { s3 with heap:=ha,toks:=s3.toks+([]:List (Str×Value)).length }:=
  TV S I3 f3 (λb hb=>Nat.lt_trans (hfl b hb) hsz) hns kp
 have loop:codeAny (model X.prog X.w) X.A (.compLoop (.ListComp elt [⟨tg,iter,ifs,0⟩] sc pos) 0 (.ref it) (.ref s2.heap.objs.size) (compEnvC sc (Em X.env sc.names []) s3.heap.objs.size X.env))
   (compPost (model X.prog X.w) X.A X.xe use R (.ref s2.heap.objs.size) s3.heap.objs.size) { s3 with heap:=ha,toks:=s3.toks+([]:List (Str×Value)).length }:=by
  refine nP (λn s'=>∃i σ' H',Inv (cxC X N' sc s3 (upd H2 s2.heap.objs.size (.lst [])) fp (X.pn++pins)) [] σ' H' s'/\tn i s'.heap/\(∀b∈fp,H' b=none)/\W i n σ' H') ?_ m0 ⟨0,_,_,I4,st3,λb hb=>(f3 b hb).1,w0⟩
  rintro n s4 ⟨i,σ4,H4,J4,st4,fr4,w4⟩
  have stat:∀{H':Hp},(∀b∈fp,H' b=none)->∀b∈fp,Gi (cxC X N' sc s3 (upd H2 s2.heap.objs.size (.lst [])) fp (X.pn++pins)) [] H' b:=λhn b hb=>
   ⟨hn b hb,(I4.ok.exf b hb).1,I4.ok.JZ b hb,.inl hb,λx c e=>(I4.ok.exf b hb).2 x c e,λp hp=>(f3 b hb).2.2.2.2.2 p ((QbD.mp hp).elim id λz=>by cases z)⟩
  rcases turn i n σ4 H4 w4 with⟨stop,qn⟩|⟨go,N,hN,step⟩
  ·refine thn (T.done (cxC X N' sc s3 (upd H2 s2.heap.objs.size (.lst [])) fp (X.pn++pins)) rfl rfl rfl hc i [] s4 σ4 H4 _ J4 (stat fr4) st4 stop) λr s5 zz=>?_
   obtain⟨hr,J5⟩:=zz
   subst hr
   exact fin s3 _ fp σ4 H4 s5 _ I3 f3 J5 qn
  ·refine thn (T.item (cxC X N' sc s3 (upd H2 s2.heap.objs.size (.lst [])) fp (X.pn++pins)) rfl rfl rfl hc i [] s4 σ4 H4 _ J4 (stat fr4) st4 go) λr s5 zz=>?_
   obtain⟨u,hr,h5⟩:=zz
   subst hr
   refine thn h5 λ_ s6 zz=>?_
   obtain⟨x,H6,J6,r6,y6,st6,fr6⟩:=zz
   have J6':=J6.pinned (stat fr6) (T.obj _ _ st6)
   have back:∀{pl:YC} {σ7:St} {H7:Hp} {s7:Shared},Inv (cxC X N' sc s3 (upd H2 s2.heap.objs.size (.lst [])) fp (X.pn++pins)) ([]++MK fp s6.heap) σ7 H7 s7->N σ7 H7 ->
     ∃m',m' < n/\∃i σ' H',Inv (cxC X N' sc s3 (upd H2 s2.heap.objs.size (.lst [])) fp (X.pn++pins)) [] σ' H' s7/\tn i s7.heap/\(∀b∈fp,H' b=none)/\W i m' σ' H':=λ{pl σ7 H7 s7} J7 w7=>by
    obtain⟨m',hm,w7⟩:=hN _ _ w7
    have pinned:∀b∈fp,∀o,s6.heap.get? b=some o->s7.heap.get? b=some o/\H7 b=none:=λb hb o e=>by
     have:=J7.pin (b,o) (QaA _ (QaA _ (Jy hb e)))
     exact⟨this.1,this.2.1⟩
    refine⟨m',hm,i+1,σ7,H7,J7.G5,T.keep _ _ _ st6 λb hb o e=>(pinned b hb o e).1,λb hb=>?_,w7⟩
    obtain⟨o,e,_⟩:=T.obj _ _ st6 b hb
    exact (pinned b hb o e).2
   refine thn (hg s3 _ fp _ _ s6 σ4 H6 x u _ J6' r6 (step x H6 y6)) λ_ s7 zz=>?_
   obtain⟨σ7,H7,J7,q7⟩:=zz
   refine thn (ht s3 _ fp _ _ s7 σ7 H7 _ J7 q7) λok s8 zz=>?_
   obtain⟨H8,J8,q8⟩:=zz
   cases ok with
   | false=>
    rw[if_neg QaS] at q8 ⊢
    exact back (pl:=[]) J8 q8
   | true=>
    rw[if_pos rfl] at q8 ⊢
    refine thn (he s3 _ fp _ _ s8 σ7 H8 _ J8 q8) λy s9 zz=>?_
    obtain⟨yv,H9,J9,r9,xs,hl9,hz9,q9⟩:=zz
    refine thn (Bu _ s9 σ7 H9 (.ref s2.heap.objs.size) [yv] (.ref s2.heap.objs.size) [y] (λ_ H'=>N σ7 H') J9 rfl (.cons r9 .nil) ⟨_,xs,yv,rfl,rfl,hl9,hz9,q9⟩) λ_ s10 zz=>?_
    obtain⟨_,H10,J10,_,q10⟩:=zz
    exact back (pl:=[]) J10 q10
 exact codeAny_compStart_list loop (T.self X.A 0 _ _ _ st3 loop)
theorem Cv {X:Cx} {N':YF} {src:List (Option Nat)} {sc:Scope} {elt tg iter:Expr} {ifs:YJ} {pos:Pos} {wi:TI} {g:TG} {tt:TT} {te:TE} (hc:X.calm=true) (S:Bp X N' src sc)
  (hi:PI X tg iter wi) (hg:∀s3 H3 fp pn,PG (cxC X N' sc s3 H3 fp pn) tg g) (ht:∀s3 H3 fp pn,PF (cxC X N' sc s3 H3 fp pn) ifs tt) (he:∀s3 H3 fp pn,PE (cxC X N' sc s3 H3 fp pn) elt te)
  (hs:∀x,foldedSetIterable iter X.env x=pure x:=by intro _;rfl):PE X (.ListComp elt [⟨tg,iter,ifs,0⟩] sc pos) (fL wi src g tt te):=by
 intro pins s σ H Q I h
 rw[eval_ListComp]
 refine WR (use:=none) hc S hi hg ht he hs I h λs3 H3 fp σ4 H4 s5 l I3 f3 J5 q=>?_
 obtain⟨m,hn,_⟩:=J5.loc
 exact⟨m,hn,λh' sb=>⟨.ref l,H4,Q9 I3 f3 J5 sb,rfl,q⟩⟩
theorem VB {X:Cx} {N':YF} {src:List (Option Nat)} {sc:Scope} {elt tg iter:Expr} {ifs:YJ} {pos spos px:Pos} {wi:TI} {g:TG} {tt:TT} {te:TE} {i:Nat} {x:Str} (hN:X.N.Nodup) (hi0:X.N[i]?=some x) (hx:Loc X.env.scope x) (hc:X.calm=true) (S:Bp X N' src sc)
  (hi:PI X tg iter wi) (hg:∀s3 H3 fp pn,PG (cxC X N' sc s3 H3 fp pn) tg g) (ht:∀s3 H3 fp pn,PF (cxC X N' sc s3 H3 fp pn) ifs tt) (he:∀s3 H3 fp pn,PE (cxC X N' sc s3 H3 fp pn) elt te)
  (hsw:swapsWith (.ListComp elt [⟨tg,iter,ifs,0⟩] sc pos) (some (.Name x px)) spos.line X.env=pure true:=by rfl) (hs:∀x,foldedSetIterable iter X.env x=pure x:=by intro _;rfl)
  (hf:X.fn x=true\/X.env.scope.names.lookup x=some .local:=by first | exact .inl rfl | exact .inr rfl | assumption) :
  PS X (.Assign [.Name x px] (.ListComp elt [⟨tg,iter,ifs,0⟩] sc pos) spos) (fO (fL wi src g tt te) (Hr i)):=by
 intro pins s σ H D I h
 rw[exec_Assign_Name_used _ _ _ _ hsw]
 refine Qcv (Qce (Qcv ?_))
 show wpAny _ X.A (do let _ <-comprehension (.ListComp elt [⟨tg,iter,ifs,0⟩] sc pos) sc X.env _ (newList []) false (eval iter X.env) (some (assign (.Name x px) X.env))) _ _ s
 refine Qcv (thn (WR (R:=λ_ s'=>SP X pins D .next s') hc S hi hg ht he hs I h λs3 H3 fp σ4 H4 s5 l I3 f3 J5 q=>?_) λ_ s' hq=>Qcw (Qcw hq))
 obtain⟨m,⟨oC,es,ep,hoC,r⟩,_⟩:=J5.loc
 have I6:Inv X pins σ H4 { s5 with heap:=s5.heap }:=Q9 I3 f3 J5 (Heap.SameBut.refl _ _)
 have hCn:H4 s3.heap.objs.size=none:=J5.free
 have neL:s3.heap.objs.size≠X.env.locals:=Qcm I3.lt
 have qM:∀v,oC.data≠.cell v:=λv z=>by rw[r.1] at z;cases z
 have I7:Inv X (pins++[(s3.heap.objs.size,oC)]) σ H4 s5:=I6.Rv λp hp=>(QbD.mp hp).elim (λz=>I6.pin p (QaA _ z)) λz=>by
  cases QaX.mp z
  exact⟨hoC,hCn,neL,I3.qK (Qcq _),qM⟩
 show wpAny _ X.A (assign (.Name x px) X.env (.ref l)) _ _ s5
 refine wpAny_assign_Name (JK (v:=.ref l) I7 hN hi0 hx rfl (λs6 I8=>?_) hf)
 have k8:=(I8.pin (s3.heap.objs.size,oC) (QaA _ (QaA _ (QaX.mpr rfl)))).1
 refine⟨m,⟨oC,es,ep,k8,r⟩,λh' sb=>⟨_,H4,?_,q⟩⟩
 have I9:=I8.G5
 refine I9.turned (t':=s6.toks) (λb o hb e=>sb.extBut b o hb e) hCn neL (.inr I3.sz) (λy c e z=>?_) (λp hp z=>?_)
 ·obtain⟨v,o,ho,_⟩:=I3.cell y c e
  exact absurd (Qch ho) (by rw[z];exact Qcb _)
 ·have:=(I3.pin p hp).1
  exact absurd (Qch this) (by rw[z];exact Qcb _)
theorem Bp.of {X:Cx} {N':YF} {src:List (Option Nat)} {sc:Scope} (fsc:Scope) (N:YF) (hX:X.env.scope=fsc) (hN:X.N=N) (kind:sc.kind=.function) (Ih:∀y∈sc.names,y.2≠.cell) (loc:∀y∈sc.names,y.2=.local->sc.names.lookup y.1=some .local)
  (fv:∀y∈sc.names,y.2=.free->fsc.names.lookup y.1=some .cell) (len:src.length=N'.length)
  (sr:((N'.zip src).all λp=>match p.2 with | none=>true | some j=>decide (N[j]?=some p.1)&&decide (sc.names.lookup p.1=some .free))=true):Bp X N' src sc where
 kind:=kind
 Ih:=Ih
 loc:=loc
 fv:=λy hy e=>.inl (by show X.env.scope.names.lookup y.1=some .cell;rw[hX];exact fv y hy e)
 len:=len
 src:=λi x j e1 e2=>by
  rw[List.all_eq_true] at sr
  have hm:(x,some j)∈N'.zip src:=by
   refine QaD (i:=i) ?_
   rw[List.getElem?_zip_eq_some]
   exact⟨e1,e2⟩
  have:=sr _ hm
  simp only[Qbw,decide_eq_true_eq] at this
  rw[hN]
  exact this
section
variable {X:Cx}
@[irreducible] def Oi (K:YD):YG->Hp->VK->Prop:=λxs H Q=>∃x T t b,xs=[x,.ty T]/\Kc K H x t/\kitOne K t (.type T)=some b/\Q (.bl b) H
theorem Nk:Dm X (.builtin "isinstance") (Oi X.K):=by
 intro pins s σ H xs us Q I r h
 unfold Oi at h
 obtain⟨x,T,t,b,rfl,ty,e,q⟩:=h
 obtain⟨u,w',rfl,rx,rt⟩:=vals2 r
 cases rt
 exact lZ I rx ty e λtk=>⟨.bl b,H,I.tok tk,rfl,q⟩
theorem bJ {K:YD}:kitOne K (.type "int") (.type "int")=some true:=by rfl
theorem ZC {K:YD}:kitOne K (.type "int") (.type "bool")=some false:=by rfl
theorem ZD {K:YD}:kitOne K (.type "bool") (.type "int")=some true:=by rfl
theorem Xo {K:YD}:kitOne K (.type "bool") (.type "bool")=some true:=by rfl
theorem Zy {K:YD}:kitOne K (.type "NoneType") (.type "int")=some false:=by rfl
theorem bI {K:YD}:kitOne K (.type "str") (.type "int")=some false:=by rfl
theorem Zz {K:YD}:kitOne K (.type "list") (.type "int")=some false:=by rfl
theorem Xl {K:YD}:kitOne K (.type "tuple") (.type "int")=some false:=by rfl
theorem VN {K:YD}:kitOne K (.type "NoneType") (.type "tuple")=some false:=by rfl
theorem VR {K:YD}:kitOne K (.type "bool") (.type "tuple")=some false:=by rfl
theorem Xn {K:YD}:kitOne K (.type "int") (.type "tuple")=some false:=by rfl
theorem Xm {K:YD}:kitOne K (.type "str") (.type "tuple")=some false:=by rfl
theorem VP {K:YD}:kitOne K (.type "list") (.type "tuple")=some false:=by rfl
theorem UL {K:YD}:kitOne K (.type "tuple") (.type "tuple")=some true:=by rfl
def Kn (H:Hp):V->Prop
 | .non=>True
 | .bl _=>True
 | .int _=>True
 | .str _=>True
 | .ref a=>(∃xs,H a=some (.lst xs))\/∃xs,H a=some (.tup xs)
 | _=>False
def isI:V->Bool
 | .int _=>true
 | .bl _=>true
 | _=>false
def isB:V->Bool
 | .bl _=>true
 | _=>false
def isW:V->Bool
 | .int _=>true
 | _=>false
def Fp (H:Hp):V->Option (YG)
 | .ref a=>match H a with
  | some (.tup xs)=>some xs
  | _=>none
 | _=>none
theorem CZ {H:Hp} {a:Addr} {xs:YG} (h:H a=some (.tup xs)):Fp H (.ref a)=some xs:=by
 show (match H a with | some (.tup xs)=>some xs | _=>none)=some xs
 rw[h]
theorem Wi {H:Hp} {a:Addr} {xs:YG} (h:H a=some (.lst xs)):Fp H (.ref a)=none:=by
 show (match H a with | some (.tup xs)=>some xs | _=>none)=none
 rw[h]
theorem PB {H:Hp} {v:V} {xs:YG} (h:Fp H v=some xs):∃a,v=.ref a/\H a=some (.tup xs):=by
 cases v with
 | ref a=>
  refine⟨a,rfl,?_⟩
  have h':(match H a with | some (.tup xs)=>some xs | _=>none)=some xs:=h
  split at h'
  ·rename_i e;cases h';exact e
  ·cases h'
 | _=>cases h
theorem Kn.same {H H':Hp} {v:V} (s:Same H H') (k:Kn H v):Kn H' v:=by
 cases v with
 | ref a=>exact k.imp (λ⟨xs,e⟩=>⟨xs,s _ _ e⟩) λ⟨xs,e⟩=>⟨xs,s _ _ e⟩
 | _=>exact k
theorem xU {K:YD} {H:Hp} {x:V} {Q:VK} (k:Kn H x) (q:Q (.bl (isI x)) H):Oi K [x,.ty "int"] H Q:=by
 unfold Oi
 cases x with
 | non=>exact⟨_,_,_,_,rfl,.non,Zy,q⟩
 | bl b=>exact⟨_,_,_,_,rfl,.bl b,ZD,q⟩
 | int i=>exact⟨_,_,_,_,rfl,.int i,bJ,q⟩
 | str z=>exact⟨_,_,_,_,rfl,.str z,bI,q⟩
 | ref a=>
  rcases k with⟨xs,e⟩|⟨xs,e⟩
  ·exact⟨_,_,_,_,rfl,.lst e,Zz,q⟩
  ·exact⟨_,_,_,_,rfl,.tup e,Xl,q⟩
 | _=>exact k.elim
theorem ZJ {K:YD} {H:Hp} {x:V} {Q:VK} (k:isI x=true) (q:Q (.bl (isB x)) H):Oi K [x,.ty "bool"] H Q:=by
 unfold Oi
 cases x with
 | bl b=>exact⟨_,_,_,_,rfl,.bl b,Xo,q⟩
 | int i=>exact⟨_,_,_,_,rfl,.int i,ZC,q⟩
 | _=>cases k
theorem mj {K:YD} {H:Hp} {x:V} {Q:VK} (k:Kn H x) (q:Q (.bl (Fp H x).isSome) H):Oi K [x,.ty "tuple"] H Q:=by
 unfold Oi
 cases x with
 | non=>exact⟨_,_,_,_,rfl,.non,VN,q⟩
 | bl b=>exact⟨_,_,_,_,rfl,.bl b,VR,q⟩
 | int i=>exact⟨_,_,_,_,rfl,.int i,Xn,q⟩
 | str z=>exact⟨_,_,_,_,rfl,.str z,Xm,q⟩
 | ref a=>
  rcases k with⟨xs,e⟩|⟨xs,e⟩
  ·rw[Wi e] at q
   exact⟨_,_,_,_,rfl,.lst e,VP,q⟩
  ·rw[CZ e] at q
   exact⟨_,_,_,_,rfl,.tup e,UL,q⟩
 | _=>exact k.elim
theorem T6:∀{bs:List Bool} {us:YE},Vals (bs.map V.bl) us->LSm.BoolsAre us bs
 | [],_,.nil=>.nil
 | b::r,_,.cons h t=>by
  cases (show _=Value.bool b from h)
  exact .cons b (T6 t)
theorem FP (hc:X.calm=true):Dm X (.builtin "all") (λxs H Q=>∃(p:Addr) (bs:List Bool),xs=[.ref p]/\SqL X.K H p (bs.map V.bl)/\Q (.bl (bs.all id)) H):=by
 intro pins s σ H xs us Q I r h
 obtain⟨p,bs,rfl,hq,q⟩:=h
 obtain⟨u,rfl,rx⟩:=vals1 r
 cases rx
 obtain⟨its,rv,pl,hz⟩:=I.list hq
 have hb:=T6 rv
 have hl:=pl.isList
 have hlt:p < s.heap.objs.size:=by obtain⟨_,e,_⟩:=hl;exact Qch e
 refine call_all_walk (Qbp hl ?_)
 refine⟨s.heap.objs.size,[s.heap.objs.size,p],[s.heap.objs.size],its.toArray.size,_,_,λi=>(bs[i]?).getD true,rfl,Walks.list (A:=X.A.in1) (I.ok.hd hc) _ p (Qcj hlt) its.toArray,
  ⟨⟨_,QaI _ rfl,rfl,rfl⟩,hl.push _⟩,λi v s' Q' E' hP hQ=>?_,λh' tk hk=>?_⟩
 ·obtain⟨b,e,rfl⟩:=hb.get i v (by simpa using hP)
  simp only[e,Option.getD_some] at hQ
  exact Qbm hQ
 ·have e:((List.range its.toArray.size).all λi=>(bs[i]?).getD true)=bs.all id:=by
   rw[Qbg,hb.length];exact LSm.range_all bs
  rw[e]
  exact⟨.bl (bs.all id),H,I.kept (LSm.kept_iter hk),rfl,q⟩
def zM (K:YD):R2:=λx y H Q=>∃a b ys,x=.ref a/\y=.ref b/\SqT K H a []/\SqT K H b ys/\Q (.ref b) H
theorem qt:OpR X (binaryOp .Add) (zM X.K):=by
 intro pins s σ H x y v u Q I rx ry h
 obtain⟨a,b,ys,rfl,rfl,ha,hb,q⟩:=h
 cases rx
 cases ry
 obtain⟨its,r1,p1,_⟩:=I.tuple ha
 obtain⟨its2,r2,p2,_⟩:=I.tuple hb
 cases r1
 obtain⟨⟨cls,dd,data,sl⟩,ho,hc,n,hd⟩:=id p1
 obtain⟨⟨cls2,dd2,data2,sl2⟩,ho2,hc2,n2,hd2⟩:=id p2
 simp only at hc hd hc2 hd2
 subst hc hd hc2 hd2
 exact concat_meets ⟨_,ho,rfl⟩ ⟨_,ho2,rfl⟩ noFill_tuple_add seq_tuple_add PySem.F.slot_tuple_add PySem.F.entry_tuple_add (PySem.F.args_tuple_add_2 _ _)
  (tuple_addW0 a b #[] its2.toArray n n2 dd dd2 sl sl2 rfl) ⟨ho,ho2,⟨.ref b,H,I,rfl,q⟩⟩
theorem Pz:OpR X (binaryOp .Add) (λx y H Q=>∃a b xs ys,x=.ref a/\y=.ref b/\H a=some (.tup xs)/\H b=some (.tup ys)/\xs.length+ys.length<=sizeLine /\
  ∀p H',H' p=some (.tup (xs++ys))->Same H H'->Q (.ref p) H'):=by
 intro pins s σ H x y v u Q I rx ry h
 obtain⟨a,b,xs,ys,rfl,rfl,ha,hb,hz,q⟩:=h
 cases xs with
 | nil=>exact qt pins s σ H _ _ v u Q I rx ry ⟨a,b,ys,rfl,rfl,SqT.of ha,SqT.of hb,q b H hb (Same.refl H)⟩
 | cons x0 xr=>
  refine wQ pins s σ H _ _ v u Q I rx ry ⟨a,b,x0::xr,ys,rfl,rfl,SqT.of ha,SqT.of hb,(λz=>by cases z),hz,λz=>?_,λz p hp=>?_⟩
  ·subst z
   exact q a H (by rw[QbF];exact ha) (Same.refl H)
  ·refine q p _ Ac λc o e=>?_
   rw[Al (Ax e hp)]
   exact e
mutual
inductive Rep (H:Hp):V->PyData->Prop
 | non:Rep H .non .none
 | bl (b:Bool):Rep H (.bl b) (.bool b)
 | int (i:Int):Rep H (.int i) (.int i)
 | str (x:Str):Rep H (.str x) (.str x)
 | tup {a:Addr} {xs:YG} {ds:List PyData}:H a=some (.tup xs)->Nq H xs ds->Rep H (.ref a) (.tuple ds)
 | lst {a:Addr} {xs:YG} {ds:List PyData}:H a=some (.lst xs)->Nq H xs ds->Rep H (.ref a) (.list ds)
inductive Nq (H:Hp):YG->List PyData->Prop
 | nil:Nq H [] []
 | cons {x:V} {d:PyData} {xs:YG} {ds:List PyData}:Rep H x d->Nq H xs ds->Nq H (x::xs) (d::ds)
end
mutual
theorem Rep.reads {P:Program} {w:World} {H:Hp} {h:Heap} (ok:HOk P w H h):∀{v:V} {d:PyData} {u:Value},Rep H v d->RelV v u->∃as,Reads h u d as
 | _,_,_,.non,r=>by cases (show _=Value.none from r);exact⟨_,.none⟩
 | _,_,_,.bl b,r=>by cases (show _=Value.bool b from r);exact⟨_,.bool b⟩
 | _,_,_,.int i,r=>by obtain⟨t,rfl⟩:=(show ∃t,_=Value.int i t from r);exact⟨_,.int i t⟩
 | _,_,_,.str x,r=>by obtain⟨t,rfl⟩:=(show ∃t,_=Value.str x t from r);exact⟨_,.str x t⟩
 | _,_,_,.tup (a:=a) (xs:=xs) e q,r=>by
  cases (show _=Value.ref a from r)
  obtain⟨_,its,rv,o,ho,hc,n,hd⟩:=(show Bt P w H h a (.tup xs) from ok a _ e)
  obtain⟨as,z⟩:=Nq.reads ok q rv
  exact⟨_,.tuple ho hc hd (by simpa using z)⟩
 | _,_,_,.lst (a:=a) (xs:=xs) e q,r=>by
  cases (show _=Value.ref a from r)
  obtain⟨_,its,n,rv,ho⟩:=(show Bt P w H h a (.lst xs) from ok a _ e)
  obtain⟨as,z⟩:=Nq.reads ok q rv
  exact⟨_,.list ho rfl rfl (by simpa using z)⟩
theorem Nq.reads {P:Program} {w:World} {H:Hp} {h:Heap} (ok:HOk P w H h):∀{xs:YG} {ds:List PyData} {us:YE},Nq H xs ds->Vals xs us->∃as,ReadsAll h us ds as
 | _,_,_,.nil,.nil=>⟨_,.nil⟩
 | _,_,_,.cons p q,.cons r t=>by
  obtain⟨as,a1⟩:=Rep.reads ok p r
  obtain⟨bs,b1⟩:=Nq.reads ok q t
  exact⟨_,.cons a1 b1⟩
end
theorem zV (hu:X.A.units+64 < cLine):OpR X (compareOp .NotEq) (λx y H Q=>∃d e,Rep H x d/\Rep H y e/\SeqAt.shaped d=true/\SeqAt.shaped e=true/\Q (.bl (!PyData.eqv d e)) H):=by
 intro pins s σ H x y v u Q I rx ry h
 obtain⟨d,e,p,p',sd,se,q⟩:=h
 obtain⟨as,r1⟩:=p.reads I.hok rx
 obtain⟨bs,r2⟩:=p'.reads I.hok ry
 exact ne_dataH r1 r2 sd se hu ⟨.bl (!PyData.eqv d e),H,I,rfl,q⟩
end
structure Code (K:YD) (mg:YB) (x:Str) (st:Stmt) (ps:YF):Prop where
 ex:∃(f:Addr) (fd:FuncData),Fun K x x st f fd/\mg x=some (.ref f)/\Binds K fd ps []
structure Good (P:Program) (w:World) (K:YD) (mg:YB) (base:Heap) (x:Str) (k:Nat) (ps:YF) (sp:Sp):Prop where
 ex:∃(f:Addr) (fd:FuncData),mg x=some (.ref f)/\keepIn K (.ref f)=true/\Binds K fd ps []/\Gj P w K mg base CX0 k f fd ps sp
theorem Code.good {P:Program} {w:World} {K:YD} {mg:YB} {base:Heap} {x:Str} {st:Stmt} {ps N:YF} {k:Nat} {sp:Sp} (C:Code K mg x st ps) (S:Az N ps (Aj st)) (len:∀vs H Q E,sp vs H Q E->vs.length=ps.length)
  (hbody:∀(f:Addr) (cdv:Value) (A:Around) (outer:List Env) (s:Shared) (H:Hp) (vs:YG) (Q:VK) (E:XK),Cw k (A.deeper (envOfC x (Aj st) s.heap.objs.size f cdv))->sp vs H Q E ->
   ∃t,PSs (Lh CX0 P w K mg base N x (Aj st) f cdv A outer s H E).nox (Cz st) t/\t { nx:=λ_ H'=>Q .non H',rt:=Q } (start N vs) H):Good P w K mg base x (k+1) ps sp:=by
 obtain⟨f,fd,F,m,b⟩:=C.ex
 exact⟨f,fd,m,F.kp,b,F.ok S len λcdv A outer s H vs Q E hr h=>hbody f cdv A outer s H vs Q E hr h⟩
theorem Ay {X:Cx} {k k':Nat} {ps:YF} {sp:Sp} {x:Str} {p pos:Pos} {e:Expr} {es:YJ} {t:TA} (g:Good X.prog X.w X.K X.mg X.base x k ps sp) (hr:Cw k' X.A) (ha:PA X (e::es) t) (hk:k<=k':=by decide) (hg:Gl X x:=by rfl)
  (hdb:(x == ("__debug__":Str))=false:=by decide) (he:starEach (e::es) X.env=(false,eval e X.env)::starEach es X.env:=by rfl) (hpl:(backTo pos (starEach es X.env)).any (·.1)=false:=by rfl) :
  PE X (.Call (.Name x p) (e::es) [] pos) (fM sp [] E0 t):=by
 intro pins s σ H Q I h
 obtain⟨f,fd,m,kp,b,F⟩:=g.ex
 exact wN F (hr.mono hk) hg m kp b .nil Xz ha hdb he hpl pins s σ H Q I h
theorem Code.of {K:YD} {mg:YB} {h:Heap} {x:Str} {st:Stmt} {ps:YF} {f:Addr} {oc:Value} {od an:Option Addr} {osl:YI} {kV doc pm cdv ct:Value} (X:K.In h) (G:h.Ns mainGlobals mg)
  (a:nsIn K mainGlobals x=some (some (.ref f))) (l:K.lookup f=some ⟨oc,od,.func (fnOf x x (DG st) (Cz st) (Aj st) .none kV doc pm an cdv ct),osl⟩) (c:codeIn K cdv x=true) (k:keepIn K (.ref f)=true)
  (hb:∀(kV doc pm:Value) (an:Option Addr) (cdv ct:Value) (us:YE),us.length=ps.length->bindArgs (fnOf x x (DG st) (Cz st) (Aj st) .none kV doc pm an cdv ct) ⟨us,[]⟩=pure (ps.zip us)):Code K mg x st ps:=by
 have F:=U9 (st:=st) l c k
 exact⟨f,_,F,mg_of X G a,F.binds hb⟩
theorem Ag {H:Hp} {p:Addr} (h:H p=none) (o:HO):Same H (upd H p o):=λb u q=>by rw[Al (Ax q h)];exact q
theorem Bp.plain {X:Cx} {N':YF} {sc:Scope} (kind:sc.kind=.function) (Ih:∀y∈sc.names,y.2≠.cell) (loc:∀y∈sc.names,y.2=.local->sc.names.lookup y.1=some .local) (Zr:∀y∈sc.names,y.2≠.free) :
  Bp X N' (N'.map λ_=>none) sc where
 kind:=kind
 Ih:=Ih
 loc:=loc
 fv:=λy hy e=>absurd e (Zr y hy)
 len:=by simp
 src:=λi x j _ e=>by
  rw[Qbi] at e
  cases q:N'[i]? with
  | none=>rw[q] at e;cases e
  | some z=>rw[q] at e;cases e
theorem Qf {K:YD} {a l:Addr} {xs:YG} {g:TG} {tt:TT} {te:TE} {Q:VK} {σ0:St} {H0:Hp} (Pv:YN)
  (h0:Pv 0 σ0 H0) (hl:∀i σ H',i<=xs.length->Pv i σ H'->SqT K H' a xs)
  (hs:∀i x σ H',xs[i]?=some x->Pv i σ H'->g x σ H' fun σ3 H3=>tt σ3 H3 λb H4=>if b=true then te σ3 H4 λy H5=>∃ys,H5 l=some (.lst ys)/\ys.length < sizeLine/\Pv (i+1) σ3 (upd H5 l (.lst (ys++[y]))) else Pv (i+1) σ3 H4)
  (hd:∀ σ H',Pv xs.length σ H'->Q (.ref l) H'):FJ (Itt K a) g tt te Q σ0 H0 l:=by
 unfold FJ
 refine⟨λi m σ H'=>m=xs.length - i/\i<=xs.length/\Pv i σ H',⟨xs.length,by simp,Qcr _,h0⟩,?_⟩
 rintro i m σ H' ⟨rfl,hi,p⟩
 have q:=hl i σ H' hi p
 by_cases hlt:i < xs.length
 ·refine .inr ⟨⟨xs,xs[i],q,by simp[hlt]⟩,Pv (i+1),fun σ3 H3 p'=>⟨xs.length - (i+1),by omega,rfl,hlt,p'⟩,λx H2 y=>?_⟩
  obtain⟨e,y⟩:=y
  subst e
  exact hs i x σ _ (y xs q) p
 ·have e:i=xs.length:=by omega
  subst e
  exact .inl ⟨⟨xs,q,Qcq _⟩,hd σ H' p⟩
theorem Jj {K:YD} {a l:Addr} {xs:YG} {g:TG} {tt:TT} {te:TE} {Q:VK} {σ0:St} {H0:Hp} (Pv:YN)
  (h0:Pv 0 σ0 H0) (hl:∀i σ H',i<=xs.length->Pv i σ H'->SqL K H' a xs)
  (hs:∀i x σ H',xs[i]?=some x->Pv i σ H'->g x σ H' fun σ3 H3=>tt σ3 H3 λb H4=>if b=true then te σ3 H4 λy H5=>∃ys,H5 l=some (.lst ys)/\ys.length < sizeLine/\Pv (i+1) σ3 (upd H5 l (.lst (ys++[y]))) else Pv (i+1) σ3 H4)
  (hd:∀ σ H',Pv xs.length σ H'->Q (.ref l) H'):FJ (Itl K a) g tt te Q σ0 H0 l:=by
 unfold FJ
 refine⟨λi m σ H'=>m=xs.length - i/\i<=xs.length/\Pv i σ H',⟨xs.length,by simp,Qcr _,h0⟩,?_⟩
 rintro i m σ H' ⟨rfl,hi,p⟩
 have q:=hl i σ H' hi p
 by_cases hlt:i < xs.length
 ·refine .inr ⟨⟨xs,xs[i],q,by simp[hlt]⟩,Pv (i+1),fun σ3 H3 p'=>⟨xs.length - (i+1),by omega,rfl,hlt,p'⟩,λx H2 y=>?_⟩
  obtain⟨e,y⟩:=y
  subst e
  exact hs i x σ _ (y xs q) p
 ·have e:i=xs.length:=by omega
  subst e
  exact .inl ⟨⟨xs,q,Qcq _⟩,hd σ H' p⟩
theorem JD {lo:Int} {n:Nat} {l:Addr} {g:TG} {tt:TT} {te:TE} {Q:VK} {σ0:St} {H0:Hp} (Pv:YN) (h0:Pv 0 σ0 H0)
  (hs:∀i σ H',i < n->Pv i σ H'->g (.int (lo+i)) σ H' fun σ3 H3=>tt σ3 H3 λb H4=>if b=true then te σ3 H4 λy H5=>∃ys,H5 l=some (.lst ys)/\ys.length < sizeLine/\Pv (i+1) σ3 (upd H5 l (.lst (ys++[y]))) else Pv (i+1) σ3 H4)
  (hd:∀ σ H',Pv n σ H'->Q (.ref l) H'):FJ (Itr lo n) g tt te Q σ0 H0 l:=by
 unfold FJ
 refine⟨λi m σ H'=>m=n - i/\i<=n/\Pv i σ H',⟨n,by simp,Qcr _,h0⟩,?_⟩
 rintro i m σ H' ⟨rfl,hi,p⟩
 by_cases hlt:i < n
 ·refine .inr ⟨hlt,Pv (i+1),fun σ3 H3 p'=>⟨n - (i+1),by omega,rfl,hlt,p'⟩,λx H2 y=>?_⟩
  obtain⟨e,y⟩:=y
  subst e y
  exact hs i σ _ hlt p
 ·have e:i=n:=by omega
  subst e
  exact .inl ⟨Qcq _,hd σ H' p⟩
section
variable {X:Cx}
theorem WY (hc:X.calm=true):Dm X (.builtin "max") (λxs H Q=>∃(p:Addr) (ns:List Int),xs=[.ref p]/\SqL X.K H p (ns.map V.int)/\0 < ns.length/\∀M,M∈ns->(∀a,a∈ns->a<=M)->Q (.int M) H):=by
 intro pins s σ H xs us Q I r h
 obtain⟨p,ns,rfl,hq,hne,q⟩:=h
 obtain⟨u,rfl,rx⟩:=vals1 r
 cases rx
 obtain⟨its,rv,pl,hz⟩:=I.list hq
 have hi:IntsAre its ns:=intsAre_of rv
 obtain⟨zs,e⟩:=hi.allInts.items
 have hl:=pl.isList
 rw[e] at hl
 have hns:ns=zs.toList.map (·.1):=by rw[<-hi.numsOf,<-nums_intItems,<-e]
 have hsz:0 < zs.size:=by
  have h3:=hne
  rw[hns,QbB,QaK] at h3
  exact h3
 refine max_intList (I.ok.hd hc) hl hsz λv h' tk hv hk=>?_
 obtain⟨t,rfl⟩:=intItems_at hv
 obtain⟨_,h2⟩:=argBest_gt (numAt zs) (zs.size - 1)
 refine⟨.int _,H,I.kept hk,⟨t,rfl⟩,q _ ?_ λa ha=>?_⟩
 ·rw[hns,numAt_eq]
  exact getD_mem (by rw[QbB,QaK];have:=(argBest_gt (numAt zs) (zs.size - 1)).1;omega)
 ·rw[hns] at ha
  obtain⟨j,hj,rfl⟩:=mem_getD ha
  rw[QbB,QaK] at hj
  rw[<-numAt_eq]
  exact h2 j (by omega)
theorem mz:∀{us:YE} {ns:List Int},IntsAre us ns->Vals (ns.map V.int) us:=λh=>Qx h
theorem aA:Dm X (.builtin "sorted") (λxs H Q=>∃(p:Addr) (ns:List Int),xs=[.ref p]/\SqL X.K H p (ns.map V.int)/\ns.length < 64 /\
  ∀(ms:List Int) l,ms.Perm ns->ms.Pairwise (·<=·)->H l=none->Q (.ref l) (upd H l (.lst (ms.map V.int)))):=by
 intro pins s σ H xs us Q I r h
 obtain⟨p,ns,rfl,hq,h64,q⟩:=h
 obtain⟨u,rfl,rx⟩:=vals1 r
 cases rx
 obtain⟨its,rv,pl,hz⟩:=I.list hq
 have hi:IntsAre its ns:=intsAre_of rv
 have hlen:=hi.length
 refine sorted_ints pl.isList hi (by omega) λout ms a1 a2 a3=>?_
 obtain⟨e,he⟩:=sortedAll_at s.heap its out
 have hml:=a2.length_eq
 refine⟨.ref (s.heap.objs.size+1),_,I.laid (t':=s.toks) (o:=.lst (ms.map V.int)) (λb o q=>sortedAll_old q) (Nat.le_succ _) ?_,rfl,q ms _ a2 a3 (I.hok.fresh (Nat.le_succ _))⟩
 exact⟨by rw[QbB];exact Qcn (Ao (by omega)),out.toList,e,mz a1,he⟩
theorem cM:∀{ys:YF} {us:YE},Vals (ys.map V.str) us->StrsAre us ys
 | [],_,.nil=>.nil
 | y::r,_,.cons h t=>by
  obtain⟨t',e⟩:=(show ∃t,_=Value.str y t from h)
  cases e
  exact .cons y t' (cM t)
def rJoin (K:YD):V->YG->Hp->VK->Prop:=λx vs H Q=>∃(z:Str) (p:Addr) (ys:YF),x=.str z/\vs=[.ref p]/\SqL K H p (ys.map V.str)/\(ys.map (·.length)).sum+ys.length*z.length<=16777216/\Q (.str (Txt.join z ys)) H
theorem xP:MtR X "str.join" (rJoin X.K):=by
 intro pins s σ H x vs v us Q I rx rv h
 obtain⟨z,p,ys,rfl,rfl,hq,hz,q⟩:=h
 obtain⟨t,rfl⟩:=rx
 obtain⟨u,rfl,ru⟩:=rv.one
 cases ru
 obtain⟨its,r',pl,_⟩:=I.list hq
 exact join_list pl.isList (cM r') hz λt' k=>⟨.str (Txt.join z ys),H,I.tok k,⟨t',rfl⟩,q⟩
def Its (z:Str):It:=⟨λi _=>i < z.cps.size,λi H x H'=>H'=H/\∃c,z.cps[i]?=some c/\x=.str ⟨#[c]⟩,λi _=>i=z.cps.size⟩
def Hk (tl:TE):TI:=fun σ H R=>tl σ H λx H1=>∃z,x=.str z/\R (Its z) H1
end
section
variable {X:Cx} {tg:Expr}
theorem X3 {P:Program} {w:World} {K:YD} {tg:Expr} (z:Str) (t:Tok) (it:Addr) (ty:String) (hty:["enumerate","zip","dict_itemiterator","dict_reverseitemiterator","odict_iterator","itertools.zip_longest","itertools.pairwise"].contains ty=false)
  (W:∀A':Around,A'.handled=none->Walks P w A' it [it] [it] z.cps.size (SignAt z) (λi h=>h.IsStrIter it ty z t i))
  (hself:∀(A:Around) (i:Nat) (s:Shared) (Q:YA) (E:YA),s.heap.IsStrIter it ty z t i->Q (.ref it) s->wpAny (model P w) A (pyIter (.ref it)) Q E s) :
  Turn P w K tg (Its z) [it] it (λi h=>h.IsStrIter it ty z t i) where
 mem:=QaX.mpr rfl
 obj:=λi h st b hb=>by
  cases QaX.mp hb
  obtain⟨o,e,c,d⟩:=st
  exact⟨o,e,λv z'=>by rw[d] at z';cases z'⟩
 keep:=λi h h' st k=>by
  obtain⟨o,e,r⟩:=st
  exact⟨o,k it (QaX.mpr rfl) o e,r⟩
 item:=by
  intro X hP hw hK hc i pins s σ H E I hf st hg
  subst hP hw hK
  obtain⟨f0,f1,f2,f3,f4,f5⟩:=hf it (QaX.mpr rfl)
  refine (W X.A (I.ok.hd hc)).item i s _ _ hg st λv h' tk hv st' kk=>?_
  obtain⟨c,u,hcu,rfl⟩:=hv
  have I1:Inv X pins σ H { s with heap:=h',toks:=tk }:=I.turned (λb o hb e=>kk b o (λhm=>hb (QaX.mp hm)) e) f0 f1 f3 f4 f5
  obtain⟨o,e,cl,d⟩:=id st'
  exact⟨_,rfl,U7 (s:={ s with heap:=h',toks:=tk }) e cl d hty ⟨.str ⟨#[c]⟩,H,I1,⟨u,rfl⟩,⟨rfl,c,hcu,rfl⟩,st',λb hb=>(hf b hb).1⟩⟩
 done:=by
  intro X hP hw hK hc i pins s σ H E I hf st hg
  subst hP hw hK
  obtain⟨f0,f1,f2,f3,f4,f5⟩:=hf it (QaX.mpr rfl)
  cases (show i=z.cps.size from hg)
  exact (W X.A (I.ok.hd hc)).done s _ _ st λh' tk kk=>⟨rfl,I.turned (λb o hb e=>kk b o (λhm=>hb (QaX.mp hm)) e) f0 f1 f3 f4 f5⟩
 self:=λA i s Q E st h=>hself A i s Q E st h
theorem kJ {l:Expr} {tl:TE} (hl:PE X l tl):PI X tg l (Hk tl):=by
 intro pins s σ H R I h
 refine thn (hl pins s σ H _ I h) λv s1 zz=>?_
 obtain⟨x,H1,I1,r1,z,e,q⟩:=zz
 subst e
 obtain⟨t,rfl⟩:=r1
 have fp:∀o:Obj,∀b∈[s1.heap.objs.size],Gi X pins H1 b:=λo b hb=>by
  cases QaX.mp hb
  exact I1.Qd (Qcq _) (I1.hok.fresh (Qcq _))
 cases ha:z.cps.all (· < 128) with
 | true=>
  refine wpAny_pyIter_ascii ha ?_
  exact⟨s1.heap.objs.size,[s1.heap.objs.size],_,_,H1,rfl,I1.kept (t':=s1.toks) λb o e=>Qav _ e,X3 z t _ "str_ascii_iterator" (by decide) (λA' hA=>Walks.strAscii hA _ z t) (λ_ _ _ _ _ st h=>wpAny_pyIter_striter_ascii st h),
   ⟨_,QaI _ rfl,rfl,rfl⟩,fp { cls:=.none,data:=.fields #[] },q⟩
 | false=>
  refine wpAny_pyIter_wide ha ?_
  exact⟨s1.heap.objs.size,[s1.heap.objs.size],_,_,H1,rfl,I1.kept (t':=s1.toks) λb o e=>Qav _ e,X3 z t _ "str_iterator" (by decide) (λA' hA=>Walks.strWide hA _ z t) (λ_ _ _ _ _ st h=>wpAny_pyIter_striter_wide st h),
   ⟨_,QaI _ rfl,rfl,rfl⟩,fp { cls:=.none,data:=.fields #[] },q⟩
theorem Z9 {z:Str} {l:Addr} {g:TG} {tt:TT} {te:TE} {Q:VK} {σ0:St} {H0:Hp} (Pv:YN) (h0:Pv 0 σ0 H0)
  (hs:∀i c σ H',z.cps[i]?=some c->Pv i σ H'->g (.str ⟨#[c]⟩) σ H' fun σ3 H3=>tt σ3 H3 λb H4=>if b=true then te σ3 H4 λy H5=>∃ys,H5 l=some (.lst ys)/\ys.length < sizeLine/\Pv (i+1) σ3 (upd H5 l (.lst (ys++[y]))) else Pv (i+1) σ3 H4)
  (hd:∀ σ H',Pv z.cps.size σ H'->Q (.ref l) H'):FJ (Its z) g tt te Q σ0 H0 l:=by
 unfold FJ
 refine⟨λi m σ H'=>m=z.cps.size - i/\i<=z.cps.size/\Pv i σ H',⟨z.cps.size,by simp,Qcr _,h0⟩,?_⟩
 rintro i m σ H' ⟨rfl,hi,p⟩
 by_cases hlt:i < z.cps.size
 ·refine .inr ⟨hlt,Pv (i+1),fun σ3 H3 p'=>⟨z.cps.size - (i+1),by omega,rfl,hlt,p'⟩,λx H2 y=>?_⟩
  obtain⟨e,c,hc,rfl⟩:=y
  subst e
  exact hs i c σ _ hc p
 ·have e:i=z.cps.size:=by omega
  subst e
  exact .inl ⟨rfl,hd σ H' p⟩
end
end L2
namespace HT
open PySem PyProof.Rows
section
variable {prog:Program} {w:World} {A:Around} {E:YA} {s:Shared}
theorem Sh {t sl:Addr} {items:Array Value} {vl vu:Value} {lo hi:Option Int} {Q:YA} (ht:IsTup s.heap t items) (hs:s.heap.IsSliceOf sl vl vu .none) (pl:IsPart vl lo) (pu:IsPart vu hi)
  (hw:sIx items.size 0 lo=0/\sIx items.size items.size hi=items.size) (h:Q (.ref t) s):wpAny (model prog w) A (getItem (.ref t) (.ref sl)) Q E s:=by
 obtain⟨os,hos,hcs,hds⟩:=id hs
 have hTs:s.TypeIs (.ref sl) "slice":=⟨os,hos,hcs⟩
 unfold getItem
 try with_reducible refine Qcc ?_
 first | refine Qcv (Qcw ?_) | skip
 refine Qcv (wpAny_sequenceKey ht.typeIs (by decide) ?_)
 refine Qcv (Qar (name:=Str.ofString "__getitem__") ht.typeIs Qab (Qbv Qab ht.typeIs entry_tuple_getitem ?_ (args_tuple_getitem _ _)))
 show wpAny _ _ (Builtin.Tuple.tupleItemsOf (.ref t) >>= _) _ _ s
 refine Qcv (tupleItemsOf_ ht ?_)
 refine Qcv (wpAny_typeOf hTs ?_)
 rw[if_pos (by decide)]
 refine Qcv (Ms hs pl pu ?_)
 rw[hw.1,hw.2]
 show wpAny _ _ (if (((0:Nat):Int) == 0&&(1:Int) == 1&&(items.size - 0) == items.size)=true then _ else _) _ _ s
 rw[if_pos (by simp)]
 refine Qcv ?_
 unfold Builtin.Tuple.tupleIsExact
 refine Qcv (wpAny_typeOf ht.typeIs (Qcw ?_))
 rw[if_pos (by decide)]
 exact Qcv (wpAny_rule (Qcw ⟨_,rfl,Qcw h⟩))
end
end HT
namespace L2
open PySem PySem.Spec PyProof.Rows
section
variable {X:Cx}
theorem Vq:SlR X (λx lo hi H Q=>∃a xs,x=.ref a/\H a=some (.tup xs)/\∀p H',H' p=some (.tup (Jb xs lo hi))->Same H H'->Q (.ref p) H'):=by
 intro pins s σ H x v vl vu lo hi sl Q I rx hs pl pu h
 obtain⟨a,xs,rfl,hx,q⟩:=h
 by_cases hw:HT.sIx xs.length 0 lo=0/\HT.sIx xs.length xs.length hi=xs.length
 ·cases rx
  obtain⟨its,r,ht,hz⟩:=I.tuple (SqT.of hx)
  have hlen:its.toArray.size=xs.length:=by rw[Qbg];exact r.length.symm
  refine⟨"tuple",_,Qab.lookup,ht.typeIs,?_⟩
  refine HT.Sh ht hs pl pu (by rw[hlen];exact hw) ⟨.ref a,H,I,rfl,q a H ?_ (Same.refl H)⟩
  have e:Jb xs lo hi=xs:=by unfold Jb;rw[hw.1,hw.2];simp
  rw[e]
  exact hx
 ·exact zB pins s σ H _ v vl vu lo hi sl Q I rx hs pl pu ⟨a,xs,rfl,SqT.of hx,hw,λp hp=>q p _ Ac (λc o e=>by rw[Al (Ax e hp)];exact e)⟩
theorem jZ:SlR X (λx lo hi H Q=>∃z,x=.str z/\z.length<=sizeLine/\Q (.str (Txt.slice z lo hi)) H):=by
 intro pins s σ H x v vl vu lo hi sl Q I rx hs pl pu h
 obtain⟨z,rfl,hz,q⟩:=h
 obtain⟨t,rfl⟩:=rx
 refine⟨"str",_,F.slot_str_getitem.lookup,typeIs_str _ _ _,?_⟩
 have fin:∀t' k,EP X pins σ Q (.str (Txt.slice z lo hi) t') { s with toks:=k }:=λt' k=>⟨.str (Txt.slice z lo hi),H,I.tok k,⟨t',rfl⟩,q⟩
 cases pl with
 | none=>
  cases pu with
  | none=>exact Qas (l:=none) (u:=none) (st:=none) hs rfl (post_val_or_str ⟨Qck (Txt.slice_le z _ _) hz,fin⟩)
  | int j tj=>exact Qas (l:=none) (u:=some (j,tj)) (st:=none) hs rfl (post_val_or_str ⟨Qck (Txt.slice_le z _ _) hz,fin⟩)
 | int i ti=>
  cases pu with
  | none=>exact Qas (l:=some (i,ti)) (u:=none) (st:=none) hs rfl (post_val_or_str ⟨Qck (Txt.slice_le z _ _) hz,fin⟩)
  | int j tj=>exact Qas (l:=some (i,ti)) (u:=some (j,tj)) (st:=none) hs rfl (post_val_or_str ⟨Qck (Txt.slice_le z _ _) hz,fin⟩)
end
structure Ip (K:YD) (C:Addr) (m qn:Str) (st:Stmt) (ps:YF):Prop where
 ex:∃(f:Addr) (fd:FuncData),Fun K m qn st f fd/\Meth K C m f/\Binds K fd ps []
structure Qn (P:Program) (w:World) (K:YD) (mg:YB) (base:Heap) (C:Addr) (m:Str) (k:Nat) (ps:YF) (sp:Sp):Prop where
 ex:∃(f:Addr) (fd:FuncData),Meth K C m f/\Binds K fd ps []/\Gj P w K mg base CX0 k f fd ps sp
structure ju (P:Program) (w:World) (K:YD) (mg:YB) (base:Heap) (C:Addr) (k:Nat) (ps:YF) (sp:Sp):Prop where
 ex:∃(f:Addr) (fd:FuncData),Mk K C f/\Binds K fd ps []/\Gj P w K mg base CX0 k f fd ps sp
theorem Ip.good {P:Program} {w:World} {K:YD} {mg:YB} {base:Heap} {C:Addr} {m qn:Str} {st:Stmt} {ps N:YF} {k:Nat} {sp:Sp} (c:Ip K C m qn st ps) (S:Az N ps (Aj st)) (len:∀vs H Q E,sp vs H Q E->vs.length=ps.length)
  (hbody:∀(f:Addr) (cdv:Value) (A:Around) (outer:List Env) (s:Shared) (H:Hp) (vs:YG) (Q:VK) (E:XK),Cw k (A.deeper (envOfC qn (Aj st) s.heap.objs.size f cdv))->sp vs H Q E ->
   ∃t,PSs (Lh CX0 P w K mg base N qn (Aj st) f cdv A outer s H E).nox (Cz st) t/\t { nx:=λ_ H'=>Q .non H',rt:=Q } (start N vs) H):Qn P w K mg base C m (k+1) ps sp:=by
 obtain⟨f,fd,F,M,b⟩:=c.ex
 exact⟨f,fd,M,b,F.ok S len λcdv A outer s H vs Q E hr h=>hbody f cdv A outer s H vs Q E hr h⟩
theorem NX {X:Cx} {pl:Sem Bool} {k k':Nat} {C:Addr} {ps:YF} {sp:Sp} {m:Str} {apos pos:Pos} {o e:Expr} {es:YJ} {ta:TE} {t:TA} (he:PE X o ta) (c:Cls X.K C) (g:Qn X.prog X.w X.K X.mg X.base C m k ps sp) (hr:Cw k' X.A) (ha:PA X (e::es) t) (hk:k<=k':=by decide)
  (hst:starEach (e::es) X.env=(false,eval e X.env)::starEach es X.env:=by rfl) (hpl:(backTo pos (starEach es X.env)).any (·.1)=false:=by rfl)
  (ht:eval (.Call (.Attribute o m apos) (e::es) [] pos) X.env=(do
   let ov <-eval o X.env
   standAt apos.atName
   let (f,first) <-holding [ov] (getMethod ov m pl)
   callWith pos f first (backTo pos (starEach (e::es) X.env)) (backToKw pos (keywordEach [] X.env))):=by rfl) :
  PE X (.Call (.Attribute o m apos) (e::es) [] pos) (Xw C m sp [] E0 ta t):=by
 intro pins s σ H Q I h
 obtain⟨f,fd,M,b,F⟩:=g.ex
 exact wL (pl:=pl) he c M F (hr.mono hk) b .nil Xz ha hst hpl ht pins s σ H Q I h
theorem kI {X:Cx} {pl:Sem Bool} {k k':Nat} {C:Addr} {ps:YF} {sp:Sp} {m:Str} {apos pos:Pos} {o:Expr} {ta:TE} (he:PE X o ta) (c:Cls X.K C) (g:Qn X.prog X.w X.K X.mg X.base C m k ps sp) (hr:Cw k' X.A) (hk:k<=k':=by decide)
  (ht:eval (.Call (.Attribute o m apos) [] [] pos) X.env=(do
   let ov <-eval o X.env
   standAt apos.atName
   let (f,first) <-holding [ov] (getMethod ov m pl)
   callWith pos f first (backTo pos (starEach [] X.env)) (backToKw pos (keywordEach [] X.env))):=by rfl) :
  PE X (.Call (.Attribute o m apos) [] [] pos) (Xw C m sp [] E0 ta fK):=by
 intro pins s σ H Q I h
 obtain⟨f,fd,M,b,F⟩:=g.ex
 exact p8 (pl:=pl) he c M F (hr.mono hk) b .nil Xz ht pins s σ H Q I h
theorem Cl {X:Cx} {k k':Nat} {C:Addr} {ps:YF} {sp:Sp} {x:Str} {p pos:Pos} {e:Expr} {es:YJ} {t:TA} (g:ju X.prog X.w X.K X.mg X.base C k ps sp) (hr:Cw k' X.A) (hm:X.mg x=some (.ref C)) (ha:PA X (e::es) t) (hk:k+1<=k':=by decide) (hg:Gl X x:=by rfl)
  (hdb:(x == ("__debug__":Str))=false:=by decide) (he:starEach (e::es) X.env=(false,eval e X.env)::starEach es X.env:=by rfl) (hpl:(backTo pos (starEach es X.env)).any (·.1)=false:=by rfl) :
  PE X (.Call (.Name x p) (e::es) [] pos) (uZ C sp [] E0 t):=by
 intro pins s σ H Q I h
 obtain⟨f,fd,M,b,F⟩:=g.ex
 exact wM M F (hr.mono hk) hg hm b .nil Xz ha hdb he hpl pins s σ H Q I h
theorem QV {X:Cx} {x:Str} {v:V} {pos:Pos} (hg:Gl X x) (hm:∃u,X.mg x=some u/\RelV v u) (hd:(x == ("__debug__":Str))=false:=by decide):PE X (.Name x pos) (tC v):=by
 obtain⟨u,h,r⟩:=hm
 exact Ea hg h r hd
theorem ZX:∀{fs:List (Str×V)} {i:Nat} {f:Str} {v:V},(fs.map (·.1)).Nodup->fs[i]?=some (f,v)->fs.lookup f=some v
 | [],_,_,_,_,h=>by simp at h
 | (g,u)::fs,0,f,v,_,h=>by simp at h;obtain⟨rfl,rfl⟩:=h;simp[List.lookup]
 | (g,u)::fs,i+1,f,v,hn,h=>by
  rw[QbZ,QbJ] at hn
  have h':fs[i]?=some (f,v):=by simpa using h
  have hm:f∈fs.map (·.1):=Qci.mpr ⟨(f,v),QaD h',rfl⟩
  have hne:(f == g)=false:=QaJ.mpr λe=>hn.1 (e ▸ hm)
  rw[List.lookup,hne]
  exact ZX hn.2 h'
theorem vO:∀{fs:List (Str×V)} {m:Str},m∉fs.map (·.1)->fs.lookup m=none
 | [],_,_=>rfl
 | (g,u)::fs,m,h=>by
  rw[QbZ,QbY] at h
  have hne:(m == g)=false:=QaJ.mpr λe=>h (.inl e)
  rw[List.lookup,hne]
  exact vO λz=>h (.inr z)
theorem Q8 {y:V}:∀{fs:List (Str×V)} {f:Str},f∉fs.map (·.1)->GP f y fs=fs++[(f,y)]
 | [],_,_=>rfl
 | (g,u)::fs,f,h=>by
  rw[QbZ,QbY] at h
  show (if g=f then (g,y)::fs else (g,u)::GP f y fs)=_
  rw[if_neg λe=>h (.inl e.symm),Q8 λz=>h (.inr z)]
  rfl
def Ar (H H':Hp):Prop:=∀c xs,H c=some (.tup xs)->H' c=some (.tup xs)
theorem Ar.trans {H H1 H2:Hp} (a:Ar H H1) (b:Ar H1 H2):Ar H H2:=λc xs e=>b c xs (a c xs e)
theorem Ar.of {H H1:Hp} (s:Same H H1):Ar H H1:=λc xs e=>s c _ e
theorem Ar.upd {H:Hp} {b:Addr} {o:HO} (h:∀xs,H b≠some (.tup xs)):Ar H (upd H b o):=λc xs e=>by
 have n:c≠b:=λz=>h xs (z ▸ e)
 rw[Al n]
 exact e
def Ai (b:Addr) (H H':Hp):Prop:=∀c o,H c=some o->c≠b->H' c=some o
theorem Ai.trans {b:Addr} {H H1 H2:Hp} (x:Ai b H H1) (y:Ai b H1 H2):Ai b H H2:=λc o e n=>y c o (x c o e n) n
theorem Ai.of {b:Addr} {H H1:Hp} (x:Same H H1):Ai b H H1:=λc o e _=>x c o e
theorem Ai.refl (b:Addr) (H:Hp):Ai b H H:=λ_ _ e _=>e
theorem Ai.upd {b:Addr} {H:Hp} {o:HO}:Ai b H (upd H b o):=λc u e n=>by rw[Al n];exact e
theorem Ai.tup {b:Addr} {H H':Hp} (x:Ai b H H') (h:∀xs,H b≠some (.tup xs)):Ar H H':=λc xs e=>x c _ e λz=>h xs (z ▸ e)
theorem Ai.free {b:Addr} {H H':Hp} (x:Ai b H H') (hb:∃o,H' b=some o) {l:Addr} (h:H' l=none):H l=none:=by
 cases e:H l with
 | none=>rfl
 | some o=>
  by_cases n:l=b
  ·obtain⟨o',e'⟩:=hb
   rw[n,e'] at h
   cases h
  ·rw[x l o e n] at h
   cases h
def B8 (K:YD) (ta tv:TE) (f:Str):TS:=λD σ H=>tv σ H λy H1=>ta σ H1 λx H2=>∃a C dx fs fs',x=.ref a/\H2 a=some (.ins C dx fs)/\Cls K C/\Im K C f/\fs.length < 1000/\GP f y fs=fs' /\
 ∀H',H' a=some (.ins C dx fs')->Ai a H2 H'->D.nx σ H'
section
variable {X:Cx} {o e value:Expr} {f:Str} {pos pos' tpos:Pos} {ta tv:TE}
theorem PE.weak {ta ta':TE} (h:PE X e ta) (i:∀ σ H Q,ta' σ H Q->ta σ H Q):PE X e ta':=λpins s σ H Q I q=>h pins s σ H Q I (i σ H Q q)
theorem Ru (ha:PE X o ta) (hv:PE X value tv) (hs:swapsWith value (some (.Attribute o f pos')) pos.line X.env=pure false):PS X (.Assign [.Attribute o f pos'] value pos) (B8 X.K ta tv f):=by
 intro pins s σ H D I h
 refine plainObj_wpAny_Assign_Attribute (thn (hv pins s σ H _ I h) λu s1 zz=>?_) hs
 obtain⟨y,H1,I1,ry,q⟩:=zz
 refine thn (ha pins s1 σ H1 _ I1 q) λov s2 zz=>?_
 obtain⟨x,H2,I2,rx,a,C,dx,fs,fs',ex,ea,c,n,l,ep,q2⟩:=zz
 subst ex
 obtain rfl:ov=Value.ref a:=rx
 refine fU I2 ea c n l ry λs3 I3=>⟨σ,_,I3,q2 _ ?_ Ai.upd⟩
 rw[Ac,ep]
end
theorem PS.weak {X:Cx} {s:Stmt} {t t':TS} (h:PS X s t) (i:∀D σ H,t' D σ H->t D σ H):PS X s t':=λpins sh σ H D I q=>h pins sh σ H D I (i D σ H q)
section
variable {X:Cx} {K:YD}
theorem V0 (h:X.K=K):IxR X (zK K):=h ▸ Cd
theorem tQ (h:X.K=K):IxR X (zL K):=h ▸ CV
theorem Uv (h:X.K=K):OpR X (compareOp .In) (rIn K false):=h ▸ QZ
theorem Qq (h:X.K=K):OpR X (compareOp .NotIn) (rIn K true):=h ▸ Zf
end
end L2
namespace PySem
open Sem (wp)
section
variable {prog:Program} {w:World} {A:Around} {E:YA} {s:Shared}
end
end PySem
namespace L2
open PySem PySem.Spec PyProof.Rows
section
variable {X:Cx} {pos:Pos}
end
structure Has (H:Hp) (l:List (Addr×HO)):Prop where
 nd:(l.map (·.1)).Nodup
 at_:∀x∈l,H x.1=some x.2
theorem Has.CA {H:Hp} {l:List (Addr×HO)} {a:Addr} (h:Has H l) (e:H a=none):a∉l.map (·.1):=λz=>by
 obtain⟨x,hx,rfl⟩:=Qci.mp z
 rw[h.at_ x hx] at e
 cases e
theorem Has.new {H H':Hp} {l:List (Addr×HO)} {a:Addr} {o:HO} (h:Has H l) (n:H a=none) (s:Same H H') (e:H' a=some o):Has H' (l++[(a,o)]):=by
 refine⟨?_,λx hx=>?_⟩
 ·rw[QbC,List.nodup_append]
  refine⟨h.nd,by simp,λx hx y hy z=>?_⟩
  have:y=a:=by simpa using hy
  subst this
  exact h.CA n (z ▸ hx)
 ·rcases QbD.mp hx with z | z
  ·exact s _ _ (h.at_ x z)
  ·have:x=(a,o):=by simpa using z
   subst this
   exact e
theorem Has.nil (H:Hp):Has H []:=⟨QbV,λx hx=>by cases hx⟩
theorem Same.Br {H0 H H':Hp} {a:Addr} (s:Same H0 H) (b:Ai a H H') (f:H0 a=none):Same H0 H':=λc o e=>b _ _ (s _ _ e) λz=>by rw[z,f] at e;cases e
section
variable {κ : Type} [DecidableEq κ]
def CT (kvs:List (κ×V)) (k:κ):Option V:=(kvs.find? λkv=>decide (kv.1=k)).map (·.2)
def putK (kvs:List (κ×V)) (k:κ) (v:V):List (κ×V):=
 if (kvs.any λkv=>decide (kv.1=k))=true then kvs.map (λkv=>if kv.1=k then (kv.1,v) else kv) else kvs++[(k,v)]
theorem Ml {p:κ×V} {r:List (κ×V)} {k:κ} (e:p.1=k):CT (p::r) k=some p.2:=by simp[CT,QbQ,e]
theorem Iu {p:κ×V} {r:List (κ×V)} {k:κ} (e:¬p.1=k):CT (p::r) k=CT r k:=by simp[CT,QbQ,e]
theorem Mp (k:κ):∀kvs:List (κ×V),(kvs.any λkv=>decide (kv.1=k))=(CT kvs k).isSome
 | []=>rfl
 | p::r=>by
  rw[Qcd]
  by_cases e:p.1=k
  ·simp only[Ml e,QbS e,Bool.true_or,Option.isSome_some]
  ·rw[Iu e,QbG e,Bool.false_or];exact Mp k r
theorem Ko (kvs:List (κ×V)) (k:κ) (v:V):(putK kvs k v).length<=kvs.length+1:=by
 unfold putK
 split
 ·rw[QbB];omega
 ·rw[QaQ,Qbr,List.length_nil];omega
theorem Mx {kvs:List (κ×V)} {k:κ} (v:V) (h:CT kvs k=none):putK kvs k v=kvs++[(k,v)]:=by
 unfold putK
 rw[Mp,h]
 exact if_neg (by decide)
theorem GR.K7 {o:Option V} {u:Option Value} (r:GR o u):o.isSome=u.isSome:=by
 cases o with
 | none=>cases u with
  | none=>rfl
  | some _=>exact (show False from r).elim
 | some _=>cases u with
  | none=>exact (show False from r).elim
  | some _=>rfl
theorem GR.getD {o:Option V} {u:Option Value} {d:V} {d':Value} (r:GR o u) (rd:RelV d d'):RelV (o.getD d) (u.getD d'):=by
 cases o with
 | none=>cases u with
  | none=>exact rd
  | some _=>exact (show False from r).elim
 | some _=>cases u with
  | none=>exact (show False from r).elim
  | some _=>exact r
theorem KV.val {kvs:List (κ×V)} {vs:List (κ×Value)} (r:KV kvs vs) (k:κ):GR (CT kvs k) (valueAt vs k):=by
 unfold KV at r
 induction r with
 | nil=>exact True.intro
 | @cons p q ps qs h t ih=>
  obtain⟨h1,h2⟩:=h
  by_cases e:p.1=k
  ·have e':q.1=k:=h1.symm.trans e
   have b:valueAt (q::qs) k=some q.2:=by simp[valueAt,QbQ,e']
   rw[Ml e,b];exact h2
  ·have e':¬q.1=k:=λz=>e (h1.trans z)
   have b:valueAt (q::qs) k=valueAt qs k:=by simp[valueAt,QbQ,e']
   rw[Iu e,b];exact ih
theorem KV.any {kvs:List (κ×V)} {vs:List (κ×Value)} (r:KV kvs vs) (k:κ):(kvs.any λkv=>decide (kv.1=k))=vs.any λkv=>decide (kv.1=k):=by
 unfold KV at r
 induction r with
 | nil=>rfl
 | cons h t ih=>rw[Qcd,Qcd,ih,h.1]
theorem KV.repl {kvs:List (κ×V)} {vs:List (κ×Value)} (r:KV kvs vs) (k:κ) {y:V} {u:Value} (ry:RelV y u) :
  KV (kvs.map λkv=>if kv.1=k then (kv.1,y) else kv) (vs.map λkv=>if kv.1=k then (kv.1,u) else kv):=by
 unfold KV at r ⊢
 induction r with
 | nil=>exact .nil
 | @cons p q ps qs h t ih=>
  rw[QbZ,QbZ]
  refine .cons ?_ ih
  obtain⟨h1,h2⟩:=h
  by_cases e:p.1=k
  ·rw[if_pos e,if_pos (h1.symm.trans e)];exact⟨h1,ry⟩
  ·rw[if_neg e,if_neg (λz=>e (h1.trans z))];exact⟨h1,h2⟩
theorem KV.put {kvs:List (κ×V)} {vs:List (κ×Value)} (r:KV kvs vs) (k:κ) {y:V} {u:Value} (ry:RelV y u):KV (putK kvs k y) (stored vs k u):=by
 unfold putK stored
 rw[r.any k]
 by_cases e:(vs.any λkv=>decide (kv.1=k))=true
 ·rw[if_pos e,if_pos e];exact r.repl k ry
 ·rw[if_neg e,if_neg e];exact Qcs r ⟨rfl,ry⟩
theorem KV.length {kvs:List (κ×V)} {vs:List (κ×Value)} (r:KV kvs vs):kvs.length=vs.length:=QbX r
end
theorem PL {P:Program} {w:World} {k:Key} {u:Value} (r:RelV (kV k) u):(Df P w).is k u=true:=by
 cases k with
 | inl i=>obtain⟨t,e⟩:=(show ∃t,u=Value.int i t from r);subst e;exact bH P w i t
 | inr x=>obtain⟨t,e⟩:=(show ∃t,u=Value.str x t from r);subst e;exact bG P w x t
theorem Wy {P:Program} {w:World}:∀{ks:List Key} {us:YE},Vals (ks.map kV) us->ItemsAre (Df P w) ks us
 | [],_,r=>by rw[List.map_nil] at r;cases r;exact .nil
 | k::ks,_,r=>by
  rw[QbZ] at r
  cases r with
  | cons h t=>exact .cons (PL h) (Wy t)
abbrev YL:=List (List Key×V)
abbrev KT (H:Hp):YL->List (List Key×Addr×Value)->Prop:=Paired λp q=>p.1=q.1/\H q.2.1=some (.tup (p.1.map kV))/\RelV p.2 q.2.2
theorem KT.val {H:Hp} {kvs:YL} {xs:List (List Key×Addr×Value)} (r:KT H kvs xs) (k:List Key):GR (CT kvs k) ((atKey xs k).map (·.2)):=by
 induction r with
 | nil=>exact True.intro
 | @cons p q ps qs h t ih=>
  obtain⟨h1,_,h2⟩:=h
  by_cases e:p.1=k
  ·have e':q.1=k:=h1.symm.trans e
   have b:atKey (q::qs) k=some q.2:=by simp[atKey,QbQ,e']
   rw[Ml e,b];exact h2
  ·have e':¬q.1=k:=λz=>e (h1.trans z)
   have b:atKey (q::qs) k=atKey qs k:=by simp[atKey,QbQ,e']
   rw[Iu e,b];exact ih
theorem KT.repl {H:Hp} {kvs:YL} {xs:List (List Key×Addr×Value)} (r:KT H kvs xs) (k:List Key) {y:V} {u:Value} (ry:RelV y u) :
  KT H (kvs.map λkv=>if kv.1=k then (kv.1,y) else kv) (xs.map (putAt k u)):=by
 induction r with
 | nil=>exact .nil
 | @cons p q ps qs h t ih=>
  rw[QbZ,QbZ]
  refine .cons ?_ ih
  obtain⟨h1,h2,h3⟩:=h
  unfold putAt
  by_cases e:p.1=k
  ·rw[if_pos e,if_pos (h1.symm.trans e)];exact⟨h1,h2,ry⟩
  ·rw[if_neg e,if_neg (λz=>e (h1.trans z))];exact⟨h1,h2,h3⟩
theorem KT.put {H:Hp} {kvs:YL} {xs:List (List Key×Addr×Value)} (r:KT H kvs xs) (k:List Key) {b:Addr} {y:V} {u:Value} (hb:H b=some (.tup (k.map kV))) (ry:RelV y u) :
  KT H (putK kvs k y) (storedH xs k b u):=by
 have e:(kvs.any λkv=>decide (kv.1=k))=(atKey xs k).isSome:=by
  rw[Mp,(r.val k).K7,Option.isSome_map]
 unfold putK storedH
 rw[e]
 by_cases q:(atKey xs k).isSome=true
 ·rw[if_pos q,if_pos q];exact r.repl k ry
 ·rw[if_neg q,if_neg q];exact Qcs r ⟨rfl,hb,ry⟩
theorem KT.keeps {H H':Hp} {kvs:YL} {xs:List (List Key×Addr×Value)} (r:KT H kvs xs) (ht:∀b ys,H b=some (.tup ys)->H' b=some (.tup ys)):KT H' kvs xs:=
 Paired.Bc r λ_ _ z=>⟨z.1,ht _ _ z.2.1,z.2.2⟩
section
variable {P:Program} {w:World} {H:Hp} {h:Heap} {a:Addr}
theorem vo {u:HO} (ok:HOk P w H h) (e:Rd H a u):Bt P w H h a u:=e.ok ok
abbrev YM:=List (Key×V)
theorem N5 {kvs:YM} (ok:HOk P w H h) (e:Rd H a (.dK kvs)):kvs.length<=sizeLine/\(a == sysModules)=false/\∃vs,KV kvs vs/\h.DictOf (Df P w) a vs:=
 show Bt P w H h a (.dK kvs) from vo ok e
theorem vR {kvs:YM} (ok:HOk P w H h) (e:H a=some (.dK kvs)):kvs.length<=sizeLine/\(a == sysModules)=false/\∃vs,KV kvs vs/\h.DictOf (Df P w) a vs:=N5 ok (.inl e)
theorem Jz {ks:List Key} (ok:HOk P w H h) (e:H a=some (.tup (ks.map kV))):(tupleKind (Df P w)).is h ks a:=by
 obtain⟨_,its,r,o,h1,h2,n,h3⟩:=(show Bt P w H h a (.tup (ks.map kV)) from ok a _ e)
 exact⟨o,its.toArray,n,h1,h2,h3,by simpa using Wy r⟩
theorem Qe {kvs:YL} (ok:HOk P w H h) (e:Rd H a (.dT kvs)):kvs.length<=sizeLine/\(a == sysModules)=false /\
  ∃xs,KT H kvs xs/\h.DictOfH (tupleKind (Df P w)) a xs:=by
 obtain⟨z,y,xs,r,o,es,ep,h1,h2,h3,h4,h5⟩:=(show Bt P w H h a (.dT kvs) from vo ok e)
 refine⟨z,y,xs,r,o,es,ep,h1,h2,h3,h4,λx hx=>?_,h5⟩
 have all:∀{l:YL} {m:List (List Key×Addr×Value)},KT H l m->∀x∈m,(tupleKind (Df P w)).is h x.1 x.2.1:=by
  intro l m q
  induction q with
  | nil=>intro x hx;exact nomatch hx
  | @cons p q ps qs hq t ih=>
   intro x hx
   rcases QbY.mp hx with e | hx
   ·subst e
    exact Jz ok (by rw[<-hq.1];exact hq.2.1)
   ·exact ih x hx
 exact all r x hx
theorem vP {kvs:YL} (ok:HOk P w H h) (e:H a=some (.dT kvs)):kvs.length<=sizeLine/\(a == sysModules)=false /\
  ∃xs,KT H kvs xs/\h.DictOfH (tupleKind (Df P w)) a xs:=Qe ok (.inl e)
end
def Ds (H:Hp) (a:Addr) (y:V) (r:Option V):Prop:=
 (∃kvs k,Rd H a (.dK kvs)/\y=kV k/\r=CT kvs k)\/∃kvs k b,Rd H a (.dT kvs)/\y=.ref b/\H b=some (.tup (k.map kV))/\r=CT kvs k
def Jc (H:Hp) (a:Addr) (y v:V) (H':Hp):Prop:=
 (∃kvs k,H a=some (.dK kvs)/\y=kV k/\kvs.length < sizeLine/\H'=upd H a (.dK (putK kvs k v))) \/
 ∃kvs k b,H a=some (.dT kvs)/\y=.ref b/\H b=some (.tup (k.map kV))/\kvs.length < sizeLine/\H'=upd H a (.dT (putK kvs k v))
theorem Ds.k {H:Hp} {a:Addr} {kvs:YM} {k:Key} (e:H a=some (.dK kvs)):Ds H a (kV k) (CT kvs k):=.inl ⟨kvs,k,.inl e,rfl,rfl⟩
theorem Ds.t {H:Hp} {a b:Addr} {kvs:YL} {k:List Key} (e:H a=some (.dT kvs)) (eb:H b=some (.tup (k.map kV))):Ds H a (.ref b) (CT kvs k):=.inr ⟨kvs,k,b,.inl e,rfl,eb,rfl⟩
theorem Jc.k {H:Hp} {a:Addr} {kvs:YM} {k:Key} {v:V} (e:H a=some (.dK kvs)) (hl:kvs.length < sizeLine):Jc H a (kV k) v (upd H a (.dK (putK kvs k v))):=.inl ⟨kvs,k,e,rfl,hl,rfl⟩
theorem Jc.t {H:Hp} {a b:Addr} {kvs:YL} {k:List Key} {v:V} (e:H a=some (.dT kvs)) (eb:H b=some (.tup (k.map kV))) (hl:kvs.length < sizeLine) :
  Jc H a (.ref b) v (upd H a (.dT (putK kvs k v))):=.inr ⟨kvs,k,b,e,rfl,eb,hl,rfl⟩
section
variable {X:Cx} {pins:YC} {σ : St} {H:Hp} {s:Shared} {a:Addr} {y v:V} {u r:Value} {o:Option V} {A:Around} {E:YA}
theorem Inv.big (I:Inv X pins σ H s):sysModules < s.heap.objs.size:=by
 have h:mainGlobals < s.heap.objs.size:=(I.mod.glob.keeps I.bk).lt
 exact Nat.lt_trans (by decide) h
theorem nJ {Q:YA} (hu:A.units+1 < cLine) (I:Inv X pins σ H s) (g:Ds H a y (some v)) (ry:RelV y u) (h:∀w' s',Inv X pins σ H s'->RelV v w'->Q w' s') :
  wpAny (model X.prog X.w) A (getItem (.ref a) u) Q E s:=by
 rcases g with⟨kvs,k,e,ey,l⟩|⟨kvs,k,b,e,ey,eb,l⟩
 ·subst ey
  obtain⟨z,hd,vs,rel,dd⟩:=N5 I.hok e
  obtain⟨w',hw,rw'⟩:=GR.some_of (v:=v) (o:=valueAt vs k) (by rw[l];exact rel.val k)
  exact wpAny_getItem_of (PL ry) dd.mapOf hw (h w' _ (I.tok _) rw')
 ·subst ey
  cases (show u=Value.ref b from ry)
  obtain⟨z,hd,xs,rel,dd⟩:=Qe I.hok e
  obtain⟨w',hw,rw'⟩:=GR.some_of (v:=v) (o:=(atKey xs k).map (·.2)) (by rw[l];exact rel.val k)
  obtain⟨p,hp,hp2⟩:=Qaw.mp hw
  refine wpAny_getItem_heap (Qbd hu) (Jz I.hok eb) dd hp ?_
  rw[hp2]
  exact h w' _ (I.tok _) rw'
theorem KW {Q:YA} (hu:A.units+1 < cLine) (I:Inv X pins σ H s) (g:Ds H a y o) (ry:RelV y u) (h:∀s',Inv X pins σ H s'->Q (.bool o.isSome) s') :
  wpAny (model X.prog X.w) A (compareOp .In u (.ref a)) Q E s:=by
 rcases g with⟨kvs,k,e,ey,l⟩|⟨kvs,k,b,e,ey,eb,l⟩
 ·subst ey
  obtain⟨z,hd,vs,rel,dd⟩:=N5 I.hok e
  refine wpAny_in_of (PL ry) hd dd.mapOf ?_
  rw[<-(rel.val k).K7,<-l]
  exact h _ (I.tok _)
 ·subst ey
  cases (show u=Value.ref b from ry)
  obtain⟨z,hd,xs,rel,dd⟩:=Qe I.hok e
  refine wpAny_in_heap (Qbd hu) (Jz I.hok eb) hd dd ?_
  have q:=(rel.val k).K7
  rw[Option.isSome_map] at q
  rw[<-q,<-l]
  exact h _ (I.tok _)
theorem yt {Q:YA} (hu:A.units+1 < cLine) (I:Inv X pins σ H s) (g:Ds H a y o) (ry:RelV y u) (h:∀s',Inv X pins σ H s'->Q (.bool (!o.isSome)) s') :
  wpAny (model X.prog X.w) A (compareOp .NotIn u (.ref a)) Q E s:=by
 rcases g with⟨kvs,k,e,ey,l⟩|⟨kvs,k,b,e,ey,eb,l⟩
 ·subst ey
  obtain⟨z,hd,vs,rel,dd⟩:=N5 I.hok e
  refine wpAny_notIn_of (PL ry) hd dd.mapOf ?_
  rw[<-(rel.val k).K7,<-l]
  exact h _ (I.tok _)
 ·subst ey
  cases (show u=Value.ref b from ry)
  obtain⟨z,hd,xs,rel,dd⟩:=Qe I.hok e
  refine wpAny_notIn_heap (Qbd hu) (Jz I.hok eb) hd dd ?_
  have q:=(rel.val k).K7
  rw[Option.isSome_map] at q
  rw[<-q,<-l]
  exact h _ (I.tok _)
theorem O7 {h':Heap} {t':Nat} {ob:HO} (I:Inv X pins σ H s) (mu:Mut (H a)) (hs:Heap.SameBut a s.heap h') (he:∃q,h'.get? a=some q) (new:Bt X.prog X.w (upd H a ob) h' a ob) :
  Inv X pins σ (upd H a ob) { s with heap:=h',toks:=t' }:=
 I.write (x:=a) (e:=a) mu (.inl rfl) (λb q hb z=>(hs.2 b hb).trans z) he new
theorem nC {P:Program} {w:World} {H':Hp} {h':Heap} {kvs:YM} {vs:List (Key×Value)} (z:kvs.length<=sizeLine) (hd:(a == sysModules)=false) (rel:KV kvs vs) (dd:h'.DictOf (Df P w) a vs) :
  Bt P w H' h' a (.dK kvs):=⟨z,hd,vs,rel,dd⟩
theorem nH {H':Hp} {Q:YH} (hu:A.units+1 < cLine) (I:Inv X pins σ H s) (g:Jc H a y v H') (ry:RelV y u) (rv:RelV v r) (h:∀s',Inv X pins σ H' s'->Q () s') :
  wpAny (model X.prog X.w) A (setItem (.ref a) u r) Q E s:=by
 rcases g with⟨kvs,k,e,ey,l,eH⟩|⟨kvs,k,b,e,ey,eb,l,eH⟩
 ·subst ey eH
  obtain⟨z,hd,vs,rel,dd⟩:=vR I.hok e
  have hz:vs.length<=sizeLine:=by rw[<-rel.length];exact z
  have hl:(putK kvs k v).length<=sizeLine:=by have:=Ko kvs k v;omega
  refine wpAny_setItem_pairs (hsz:=hz) (PL ry) dd λh' dd' hs=>h _ ?_
  have he:∃q,h'.get? a=some q:=let ⟨q,_,_,hq,_⟩:=dd';⟨q,hq⟩
  exact O7 I (by rw[e];exact True.intro) hs he (nC hl hd (rel.put k rv) dd')
 ·subst ey eH
  cases (show u=Value.ref b from ry)
  obtain⟨z,hd,xs,rel,dd⟩:=vP I.hok e
  have hz:xs.length<=sizeLine:=by rw[<-QbX rel];exact z
  have hl:(putK kvs k v).length<=sizeLine:=by have:=Ko kvs k v;omega
  refine wpAny_setItem_heap (hsz:=hz) (Qbd hu) (Jz I.hok eb) dd λh' dd' hs=>h _ ?_
  obtain⟨q,es,ep,hq,h2,h3,h4,_,h5⟩:=dd'
  refine O7 I (by rw[e];exact True.intro) hs ⟨q,hq⟩ ⟨hl,hd,_,(rel.put k eb rv).keeps λc ys ec=>?_,q,es,ep,hq,h2,h3,h4,h5⟩
  rw[Al (gR ec e (λz=>nomatch z))]
  exact ec
end
section
variable {X:Cx} {pins:YC} {σ : St} {H:Hp} {s:Shared} {a:Addr} {kvs:YM} {k:Key} {u:Value} {A:Around} {E:YA}
theorem Do {Q:YA} (I:Inv X pins σ H s) (e:Rd H a (.dK kvs)) (h:∀t s',Inv X pins σ H s'->Q (.int kvs.length t) s'):wpAny (model X.prog X.w) A (call (.builtin "len") [.ref a]) Q E s:=by
 obtain⟨z,hd,vs,rel,dd⟩:=N5 I.hok e
 refine call_len_dict hd dd (by rw[<-rel.length];rw[Qcu] at z;omega) ?_
 rw[<-rel.length]
 exact h _ _ (I.tok _)
end
def BO (i:Expr):Prop:=∀ov iv,subscripted i false ov iv=operate [ov,iv] (getItem ov iv)
theorem wj {prog:Program} {w:World} {A:Around} {E:YA} {s:Shared} {env:Env} {value slice:Expr} {pos:Pos} {T id:String} {Q:YA}
  (hl:typeLookup (.type T) "__getitem__"=pure (some (.builtin id))) (hs:BO slice)
  (h:wpAny (model prog w) A (eval value env) (λo s₁=>wpAny (model prog w) A (eval slice env) (λi s₂=>s₂.TypeIs o T/\wpAny (model prog w) A (getItem o i) Q E s₂) E s₁) E s) :
  wpAny (model prog w) A (eval (.Subscript value slice pos) env) Q E s:=by
 refine Subscript_ (Qcx h (λo s₁ h₁=>Qcx h₁ (λi s₂ h₂=>?_) λ_ _ x=>x) λ_ _ x=>x)
 obtain⟨hT,h₂⟩:=h₂
 unfold subscriptTail
 refine Qcv ?_
 rw[getitemInPython_of_ne hT.not_modules]
 refine Qcv (wpAny_specialOf hT hl ?_)
 have fin:wpAny (model prog w) A (subscripted slice false o i) (λr s₃=>wpAny (model prog w) A (letTemporaryGo value o r >>= λ_=>pure r) Q E s₃) E s₂:=by
  rw[hs o i]
  exact wpAny_operating (Qcx h₂ (λr s₃ h₃=>Qcv (wpAny_letTemporaryGo (Qcw h₃))) λ_ _ x=>x)
 first
  | exact Qcw (Qcv fin)
  | exact Qcv (Qcw (Qcv fin))
  | exact Qcv fin
theorem bT {X:Cx} {pins:YC} {σ : St} {H:Hp} {s:Shared} {a:Addr} {y:V} {o:Option V} (I:Inv X pins σ H s) (g:Ds H a y o):s.TypeIs (.ref a) "dict":=by
 rcases g with⟨kvs,k,e,_,_⟩|⟨kvs,k,b,e,_,_,_⟩
 ·obtain⟨_,_,vs,_,dd⟩:=N5 I.hok e
  exact dd.typeIs
 ·obtain⟨_,_,xs,_,dd⟩:=Qe I.hok e
  exact dd.typeIs
def B4 (td ty:TE):TE:=fun σ H Q=>td σ H λx H1=>ty σ H1 λy H2=>∃a v,x=.ref a/\Ds H2 a y (some v)/\Q v H2
def D4 (ty td:TE):TE:=fun σ H Q=>ty σ H λy H1=>td σ H1 λx H2=>∃a o,x=.ref a/\Ds H2 a y o/\Q (.bl o.isSome) H2
def wg (ty td:TE):TE:=fun σ H Q=>ty σ H λy H1=>td σ H1 λx H2=>∃a o,x=.ref a/\Ds H2 a y o/\Q (.bl (!o.isSome)) H2
def B9 (td ty tv:TE):TS:=λD σ H=>tv σ H λv H1=>td σ H1 λx H2=>ty σ H2 λy H3=>∃a H4,x=.ref a/\Jc H3 a y v H4/\D.nx σ H4
section
variable {X:Cx} {o i e value:Expr} {pos pos' tpos:Pos} {td ty tv:TE}
theorem dH (hu:X.A.units+1 < cLine) (ho:PE X o td) (hi:PE X i ty) (hs:BO i):PE X (.Subscript o i pos) (B4 td ty):=by
 intro pins s σ H Q I h
 refine wj PySem.F.slot_dict_getitem.lookup hs (thn (ho pins s σ H _ I h) λu s1 zz=>?_)
 obtain⟨x,H1,I1,rx,q1⟩:=zz
 refine thn (hi pins s1 σ H1 _ I1 q1) λiv s2 zz=>?_
 obtain⟨y,H2,I2,ry,a,v,ex,g,q2⟩:=zz
 subst ex
 obtain rfl:u=Value.ref a:=rx
 exact⟨bT I2 g,nJ hu I2 g ry λw' s3 I3 rw'=>⟨v,H2,I3,rw',q2⟩⟩
theorem QX (hu:X.A.units+1 < cLine) (hi:PE X i ty) (ho:PE X o td):PC X .In i o (D4 ty td):=by
 intro pins s σ H Q I h
 refine thn (hi pins s σ H _ I h) λiv s1 zz=>?_
 obtain⟨y,H1,I1,ry,q1⟩:=zz
 refine thn (ho pins s1 σ H1 _ I1 q1) λu s2 zz=>?_
 obtain⟨x,H2,I2,rx,a,ov,ex,g,q2⟩:=zz
 subst ex
 obtain rfl:u=Value.ref a:=rx
 exact KW hu I2 g ry λs3 I3=>⟨.bl ov.isSome,H2,I3,rfl,q2⟩
theorem QW (hu:X.A.units+1 < cLine) (hi:PE X i ty) (ho:PE X o td):PC X .NotIn i o (wg ty td):=by
 intro pins s σ H Q I h
 refine thn (hi pins s σ H _ I h) λiv s1 zz=>?_
 obtain⟨y,H1,I1,ry,q1⟩:=zz
 refine thn (ho pins s1 σ H1 _ I1 q1) λu s2 zz=>?_
 obtain⟨x,H2,I2,rx,a,ov,ex,g,q2⟩:=zz
 subst ex
 obtain rfl:u=Value.ref a:=rx
 exact yt hu I2 g ry λs3 I3=>⟨.bl (!ov.isSome),H2,I3,rfl,q2⟩
theorem GD (hu:X.A.units+1 < cLine) (ho:PE X o td) (hi:PE X i ty) (hv:PE X value tv) (hs:swapsWith value (some (.Subscript o i pos')) pos.line X.env=pure false) :
  PS X (.Assign [.Subscript o i pos'] value pos) (B9 td ty tv):=by
 intro pins s σ H D I h
 refine wpAny_Assign_Subscript (thn (hv pins s σ H _ I h) λr s1 zz=>?_) hs
 obtain⟨v,H1,I1,rv,q1⟩:=zz
 refine thn (ho pins s1 σ H1 _ I1 q1) λu s2 zz=>?_
 obtain⟨x,H2,I2,rx,q2⟩:=zz
 refine thn (hi pins s2 σ H2 _ I2 q2) λiv s3 zz=>?_
 obtain⟨y,H3,I3,ry,a,H4,ex,g,q3⟩:=zz
 subst ex
 obtain rfl:u=Value.ref a:=rx
 exact nH hu I3 g ry rv λs4 I4=>⟨σ,H4,I4,q3⟩
end
theorem Z6 {P:Program} {w:World} {H:Hp} (h:Heap) (hb:sysModules < h.objs.size):Bt P w H (h.push { cls:=.type "dict",data:=.dict #[] }) h.objs.size (.dK []):=
 ⟨Qcr _,QaJ.mpr (Ne.symm (Qcj hb)),[],.nil,Heap.DictOf.new h⟩
theorem Z5 {P:Program} {w:World} {H:Hp} (h:Heap) (hb:sysModules < h.objs.size):Bt P w H (h.push { cls:=.type "dict",data:=.dict #[] }) h.objs.size (.dT []):=
 ⟨Qcr _,QaJ.mpr (Ne.symm (Qcj hb)),[],.nil,_,#[],0,QaI _ rfl,⟨rfl,rfl,rfl⟩,rfl,rfl,QbV⟩
def zc:TE:=λ_ H Q=>∀p,H p=none->Q (.ref p) (upd H p (.dK []))
def za:TE:=λ_ H Q=>∀p,H p=none->Q (.ref p) (upd H p (.dT []))
section
variable {X:Cx} {pos:Pos}
theorem Zc:PE X (.Dict [] [] pos) zc:=λpins s σ H Q I h=>
 wpAny_Dict_empty ⟨.ref s.heap.objs.size,_,I.laid (a:=s.heap.objs.size) (o:=.dK []) (t':=s.toks) (λ_ _ q=>Qav _ q) (Qcq _) (Z6 s.heap I.big),rfl,h _ (I.hok.fresh (Qcq _))⟩
theorem Zb:PE X (.Dict [] [] pos) za:=λpins s σ H Q I h=>
 wpAny_Dict_empty ⟨.ref s.heap.objs.size,_,I.laid (a:=s.heap.objs.size) (o:=.dT []) (t':=s.toks) (λ_ _ q=>Qav _ q) (Qcq _) (Z5 s.heap I.big),rfl,h _ (I.hok.fresh (Qcq _))⟩
end
structure M1 (X:Cx) (o:Expr) (m:Str) (apos:Pos) (e:Expr) (cpos:Pos):Prop where
 base:attributeBase o m X.env (eval o X.env)=eval o X.env
 few:((backTo cpos (starEach [e] X.env)).all (λx=>!x.1)&&(backToKw cpos (keywordEach [] X.env)).all (λx=>x.1.isSome)
 &&decide (([e]:YJ).length+([]:List Keyword).length+(if ([]:List Keyword).isEmpty then 0 else 1) < 30))=true
 line:(apos.endLine == cpos.line)=true
 trees:backTo cpos (starEach [e] X.env)=[(false,eval e X.env)]
structure M2 (X:Cx) (o:Expr) (m:Str) (apos:Pos) (e f:Expr) (cpos:Pos):Prop where
 base:attributeBase o m X.env (eval o X.env)=eval o X.env
 few:((backTo cpos (starEach [e,f] X.env)).all (λx=>!x.1)&&(backToKw cpos (keywordEach [] X.env)).all (λx=>x.1.isSome)
 &&decide (([e,f]:YJ).length+([]:List Keyword).length+(if ([]:List Keyword).isEmpty then 0 else 1) < 30))=true
 line:(apos.endLine == cpos.line)=true
 trees:backTo cpos (starEach [e,f] X.env)=[(false,eval e X.env),(false,eval f X.env)]
def IsD (H:Hp) (a:Addr):Prop:=(∃kvs,Rd H a (.dK kvs))\/∃kvs,Rd H a (.dT kvs)
theorem ZK {X:Cx} {pins:YC} {σ : St} {H:Hp} {s:Shared} {a:Addr} (I:Inv X pins σ H s) (d:IsD H a) :
  s.TypeIs (.ref a) "dict"/\(∀b,Value.ref a=.ref b->∃ob,s.heap.get? b=some ob/\ob.dict=none)/\(a == sysModules)=false:=by
 rcases d with⟨kvs,e⟩|⟨kvs,e⟩
 ·obtain⟨_,hd,vs,_,dd⟩:=N5 I.hok e
  refine⟨dd.typeIs,λb q=>?_,hd⟩
  cases q
  obtain⟨ob,_,_,h1,h2,_⟩:=dd
  exact⟨ob,h1,h2.2.1⟩
 ·obtain⟨_,hd,xs,_,dd⟩:=Qe I.hok e
  refine⟨dd.typeIs,λb q=>?_,hd⟩
  cases q
  obtain⟨ob,_,_,h1,h2,_⟩:=dd
  exact⟨ob,h1,h2.2.1⟩
section
variable {X:Cx} {pins:YC} {σ : St} {H:Hp} {s:Shared} {a:Addr} {y d:V} {u r:Value} {o:Option V} {A:Around} {E:YA}
theorem By {Q:YA} (hu:A.units+1 < cLine) (I:Inv X pins σ H s) (g:Ds H a y o) (ry:RelV y u) (rd:RelV d r) (h:∀w' s',Inv X pins σ H s'->RelV (o.getD d) w'->Q w' s') :
  wpAny (model X.prog X.w) A (call (.builtin "dict.get") [.ref a,u,r]) Q E s:=by
 rcases g with⟨kvs,k,e,ey,l⟩|⟨kvs,k,b,e,ey,eb,l⟩
 ·subst ey
  obtain⟨z,hd,vs,rel,dd⟩:=N5 I.hok e
  refine call_meetsIn PySem.F.slot_dict_get dd.typeIs PySem.F.entry_dict_get (PySem.F.args_dict_get_3 _ _ _) (meets_dict_get_default (Df X.prog X.w) a (PL ry) hd r) ⟨_,dd.mapOf,h _ _ (I.tok _) ?_⟩
  rw[l]
  exact (rel.val k).getD rd
 ·subst ey
  cases (show u=Value.ref b from ry)
  obtain⟨z,hd,xs,rel,dd⟩:=Qe I.hok e
  refine call_meetsIn PySem.F.slot_dict_get dd.typeIs PySem.F.entry_dict_get (PySem.F.args_dict_get_3 _ _ _) (meetsH_dict_get_default (tupleKind (Df X.prog X.w)) a b hd r) ⟨Qbd hu,k,xs,Jz I.hok eb,dd,h _ _ (I.tok _) ?_⟩
  rw[l]
  exact (rel.val k).getD rd
end
def zf (td ty tx:TE):TE:=fun σ H Q=>td σ H λx H1=>∃a,x=.ref a/\IsD H1 a/\ty σ H1 λy H2=>tx σ H2 λz H3=>∃o,Ds H3 a y o/\Q (o.getD z) H3
section
variable {X:Cx} {o e f:Expr} {apos cpos:Pos} {td ty tx:TE}
theorem M4 (hu:X.A.units+1 < cLine) (ho:PE X o td) (he:PE X e ty) (hf:PE X f tx) (m:M2 X o "get" apos e f cpos):PE X (.Call (.Attribute o "get" apos) [e,f] [] cpos) (zf td ty tx):=by
 intro pins s σ H Q I h
 refine wpAny_Call_method m.base m.few m.line PySem.F.plainAttrs_dict PySem.F.slot_dict_get PySem.F.type_dict_get (thn (ho pins s σ H _ I h) λu s1 zz=>?_)
 obtain⟨x,H1,I1,rx,a,ex,d,q1⟩:=zz
 subst ex
 obtain rfl:u=Value.ref a:=rx
 obtain⟨t1,t2,_⟩:=ZK I1 d
 refine⟨t1,t2,?_⟩
 rw[m.trees]
 refine Calls.callWith_builtin rfl (Calls.evalArgs_plain (Qbe (thn (he pins s1 σ H1 _ I1 q1) λiv s2 ⟨y,H2,I2,ry,q2⟩=>
  Qbe (thn (hf pins s2 σ H2 _ I2 q2) λfv s3 ⟨z,H3,I3,rz,ov,g,q3⟩=>Calls.spliced_nil ?_))))
 exact By hu I3 g ry rz λw' s4 I4 rw'=>⟨_,H3,I4,rw',q3⟩
end
section
variable {X:Cx} {pins:YC} {σ : St} {H:Hp} {s:Shared} {a:Addr} {kvs:YM} {A:Around} {E:YA}
end
section
variable {X:Cx} {pins:YC} {σ : St} {H:Hp} {s:Shared} {a:Addr} {y:V} {u:Value} {A:Around} {E:YA}
end
section
variable {X:Cx}
theorem nW:Dm X (.builtin "len") (λxs H Q=>∃a kvs,xs=[V.ref a]/\H a=some (.dK kvs)/\Q (.int kvs.length) H):=by
 intro pins s σ H xs us Q I r h
 obtain⟨a,kvs,rfl,ha,q⟩:=h
 obtain⟨u,rfl,ru⟩:=vals1 r
 cases ru
 exact Do I (.inl ha) λt s' I'=>⟨.int kvs.length,H,I',⟨t,rfl⟩,q⟩
end
section
variable {κ : Type} [DecidableEq κ]
theorem dM:∀{l:List κ} {k:κ},l.Nodup->¬k∈l->(l++[k]).Nodup
 | [],k,_,_=>by simp
 | a::r,k,h,hk=>by
  obtain⟨h1,h2⟩:=QbJ.mp h
  show (a::(r++[k])).Nodup
  refine QbJ.mpr ⟨λm=>?_,dM h2 λm=>hk (QbY.mpr (Or.inr m))⟩
  rcases QbD.mp m with q | q
  ·exact h1 q
  ·exact hk (QbY.mpr (Or.inl (QaX.mp q).symm))
end
theorem Vb {prog:Program} {w:World} {A:Around} {R:Result->Shared->Prop} {s:Shared} {kx vx target iter:Expr} {ifs:YJ} {scope:Scope} {pos:Pos} {it:Value} {D:Addr} {env:Env} (J:Nat->Shared->Prop)
  (turn:∀n s,J n s->wpAny (model prog w) A (pyNext it) (λr s1=>match r with
   | none=>R (.ok .next) s1
   | some v=>wpAny (model prog w) A (letOwnedTupleGo target it v) (λ_ s2=>wpAny (model prog w) A (assign target env v) (λ_ s3=>
     wpAny (model prog w) A (forIn ifs true λc r=>if r=true then do let ok <-isTrue c env (eval c env);pure (ForInStep.yield ok) else pure (ForInStep.yield r)) (λok s4=>
      if ok=true then wpAny (model prog w) A (eval kx env) (λkv s5=>wpAny (model prog w) A (eval vx env) (λvv s6=>wpAny (model prog w) A (dictSet D kv vv) (λ_ s7=>∃m,m < n/\J m s7) (λ_ _=>False) s6) (λ_ _=>False) s5) (λ_ _=>False) s4
      else ∃m,m < n/\J m s4) (λ_ _=>False) s3) (λ_ _=>False) s2) (λ_ _=>False) s1) (λ_ _=>False) s)
  (n:Nat) (h:J n s):codeAny (model prog w) A (.compLoop (.DictComp kx vx [⟨target,iter,ifs,0⟩] scope pos) 0 it (.ref D) env) R s:=by
 refine codeAny_loop rfl J (λk s' hk=>?_) n h
 show wpAny _ A (Sem.onRaise (compTurn (.DictComp kx vx [⟨target,iter,ifs,0⟩] scope pos) 0 it (.ref D) env) (λx=>do noteFrame x env;theTreesLotGoes x)) _ _ s'
 refine wpAny_noted ?_
 rw[compTurn_dict]
 refine Qcv (Qce (Qcv (Qcx (turn k s' hk) (λr s1 q1=>?_) λ_ _ f=>f.elim)))
 cases r with
 | none=>exact Qcw q1
 | some v=>
  refine Qcv (Qcx q1 (λ_ s2 q2=>Qcv (Qcx q2 (λ_ s3 q3=>Qcv (Qcx q3 (λok s4 q4=>?_) λ_ _ f=>f.elim)) λ_ _ f=>f.elim)) λ_ _ f=>f.elim)
  cases ok with
  | false=>exact Qcw ⟨rfl,q4⟩
  | true=>exact Qcv (Qcv (Qcx q4 (λkv s5 q5=>Qcv (Qcc (Qcx q5 (λvv s6 q6=>Qcv (Qce (Qcc (Qcx q6 (λ_ s7 q7=>Qcw ⟨rfl,q7⟩) λ_ _ f=>f.elim)))) λ_ _ f=>f.elim))) λ_ _ f=>f.elim))
theorem nM {X:Cx} {pins:YC} {σ : St} {H:Hp} {s:Shared} {A:Around} {E:YA} {a:Addr} {kvs:YM} {k:Key} {v:V} {u r:Value} {Q:YH} (I:Inv X pins σ H s) (e:H a=some (.dK kvs)) (l:kvs.length < sizeLine) (ry:RelV (kV k) u) (rv:RelV v r)
  (h:∀s',Inv X pins σ (upd H a (.dK (putK kvs k v))) s'->Q () s'):wpAny (model X.prog X.w) A (dictSet a u r) Q E s:=by
 obtain⟨z,hd,vs,rel,dd⟩:=vR I.hok e
 have hz:vs.length<=sizeLine:=by rw[<-rel.length];exact z
 have hl:(putK kvs k v).length<=sizeLine:=by have:=Ko kvs k v;omega
 refine wpAny_dictSet_pairs (hsz:=hz) (PL ry) dd λh' dd' hs=>h _ ?_
 have he:∃q,h'.get? a=some q:=let ⟨q,_,_,hq,_⟩:=dd';⟨q,hq⟩
 exact O7 I (by rw[e];exact True.intro) hs he (nC hl hd (rel.put k rv) dd')
@[irreducible] def RQ (J:It) (g:TG) (tt:TT) (tk tv:TE) (Q:VK) (σ0:St) (H0:Hp) (l:Addr):Prop:=∃W:Nat->YN,(∃m,W 0 m σ0 H0) /\
 ∀i m σ' H',W i m σ' H'->(J.stop i H'/\Q (.ref l) H')\/(J.go i H'/\∃N:YO,(∀ σ3 H3,N σ3 H3->∃m',m' < m/\W (i+1) m' σ3 H3)/\∀x H2,J.yld i H' x H2->g x σ' H2 fun σ3 H3=>tt σ3 H3 λb H4=>
  if b=true then tk σ3 H4 λy H5=>tv σ3 H5 λz H6=>∃(kvs:YM) (k:Key),H6 l=some (.dK kvs)/\y=kV k/\kvs.length < sizeLine/\N σ3 (upd H6 l (.dK (putK kvs k z))) else N σ3 H4)
def X5 (wi:TI) (src:List (Option Nat)) (g:TG) (tt:TT) (tk tv:TE):TE:=fun σ H Q=>wi σ H λJ H1=>∀l,H1 l=none->RQ J g tt tk tv Q (Jl src σ) (upd H1 l (.dK [])) l
theorem Vc {X:Cx} {N':YF} {src:List (Option Nat)} {sc:Scope} {kx vx tg iter:Expr} {ifs:YJ} {pos pos':Pos} {wi:TI} {g:TG} {tt:TT} {tk tv:TE} {use:Option (Value->Sem Unit)} {R:YA} (hc:X.calm=true) (S:Bp X N' src sc)
  (hi:PI X tg iter wi) (hg:∀s3 H3 fp pn,PG (cxC X N' sc s3 H3 fp pn) tg g) (ht:∀s3 H3 fp pn,PF (cxC X N' sc s3 H3 fp pn) ifs tt) (hk:∀s3 H3 fp pn,PE (cxC X N' sc s3 H3 fp pn) kx tk) (hv:∀s3 H3 fp pn,PE (cxC X N' sc s3 H3 fp pn) vx tv)
  (hs:∀x,foldedSetIterable iter X.env x=pure x) {pins:YC} {s:Shared} {σ : St} {H:Hp} {Q:VK} (I:Inv X pins σ H s) (h:X5 wi src g tt tk tv σ H Q)
  (fin:∀s3 H3 fp σ4 H4 s5 l,Inv X pins σ H3 s3->(∀b∈fp,Gi X pins H3 b)->Inv (cxC X N' sc s3 H3 fp (X.pn++pins)) [] σ4 H4 s5->Q (.ref l) H4 ->
   compPost (model X.prog X.w) X.A X.xe use R (.ref l) s3.heap.objs.size (.ok .next) s5) :
  wpAny (model X.prog X.w) X.A (comprehension (.DictComp kx vx [⟨tg,iter,ifs,0⟩] sc pos) sc X.env pos' newDict false (eval iter X.env) use) R X.xe s:=by
 refine wpAny_comprehension_free (use:=use) (cl:=Em X.env sc.names []) rfl hs (Qg λp hp e=>I.ok.has p.1 (S.fv p hp e)) S.kind S.loc ?_
 refine thn (hi pins s σ H _ I h) λv s1 h1=>thn h1 λitv s2 h2=>?_
 obtain⟨it,fp,tn,J,H2,rfl,I2,T,st2,f2,q⟩:=h2
 have q':=q s2.heap.objs.size (I2.hok.fresh (Qcq _))
 unfold RQ at q'
 obtain⟨W,⟨m0,w0⟩,turn⟩:=q'
 refine Qbn (wpAny_newFunctionEnv S.Ih (by intro y hy;simp at hy) (λha hns hsb=>?_) S.kind)
 have I3:Inv X pins σ (upd H2 s2.heap.objs.size (.dK [])) { s2 with heap:=s2.heap.push { cls:=.type "dict",data:=.dict #[] } }:=
  I2.laid (t':=s2.toks) (λb u e=>Qav _ e) (Qcq _) (Z6 s2.heap I2.big)
 have hfl:∀b∈fp,b < s2.heap.objs.size:=λb hb=>by
  obtain⟨o,e,_⟩:=T.obj 0 _ st2 b hb
  exact Qch e
 have f3:∀b∈fp,Gi X pins (upd H2 s2.heap.objs.size (.dK [])) b:=λb hb=>⟨by rw[Al (Qcj (hfl b hb))];exact (f2 b hb).1,(f2 b hb).2⟩
 generalize hs3:({ s2 with heap:=s2.heap.push { cls:=.type "dict",data:=.dict #[] } }:Shared)=s3 at *
 have hsz:s2.heap.objs.size < s3.heap.objs.size:=by rw[<-hs3];show s2.heap.objs.size < (s2.heap.push _).objs.size;rw[QbT];exact Qby _
 have kp:∀b o,s3.heap.get? b=some o->ha.get? b=some o:=λb o e=>hsb.extBut b o (Qcj (Qch e)) (Qav _ e)
 have st3:tn 0 ha:=T.keep 0 _ _ st2 λb hb o e=>kp b o (by rw[<-hs3];exact Qav _ e)
 have I4:Inv (cxC X N' sc s3 (upd H2 s2.heap.objs.size (.dK [])) fp (X.pn++pins)) [] (Jl src σ) (upd H2 s2.heap.objs.size (.dK [])) { s3 with heap:=ha,toks:=s3.toks+([]:List (Str×Value)).length }:=
  TV S I3 f3 (λb hb=>Nat.lt_trans (hfl b hb) hsz) hns kp
 have loop:codeAny (model X.prog X.w) X.A (.compLoop (.DictComp kx vx [⟨tg,iter,ifs,0⟩] sc pos) 0 (.ref it) (.ref s2.heap.objs.size) (compEnvC sc (Em X.env sc.names []) s3.heap.objs.size X.env))
   (compPost (model X.prog X.w) X.A X.xe use R (.ref s2.heap.objs.size) s3.heap.objs.size) { s3 with heap:=ha,toks:=s3.toks+([]:List (Str×Value)).length }:=by
  refine Vb (λn s'=>∃i σ' H',Inv (cxC X N' sc s3 (upd H2 s2.heap.objs.size (.dK [])) fp (X.pn++pins)) [] σ' H' s'/\tn i s'.heap/\(∀b∈fp,H' b=none)/\W i n σ' H') ?_ m0 ⟨0,_,_,I4,st3,λb hb=>(f3 b hb).1,w0⟩
  rintro n s4 ⟨i,σ4,H4,J4,st4,fr4,w4⟩
  have stat:∀{H':Hp},(∀b∈fp,H' b=none)->∀b∈fp,Gi (cxC X N' sc s3 (upd H2 s2.heap.objs.size (.dK [])) fp (X.pn++pins)) [] H' b:=λhn b hb=>
   ⟨hn b hb,(I4.ok.exf b hb).1,I4.ok.JZ b hb,.inl hb,λx c e=>(I4.ok.exf b hb).2 x c e,λp hp=>(f3 b hb).2.2.2.2.2 p ((QbD.mp hp).elim id λz=>by cases z)⟩
  rcases turn i n σ4 H4 w4 with⟨stop,qn⟩|⟨go,N,hN,step⟩
  ·refine thn (T.done (cxC X N' sc s3 (upd H2 s2.heap.objs.size (.dK [])) fp (X.pn++pins)) rfl rfl rfl hc i [] s4 σ4 H4 _ J4 (stat fr4) st4 stop) λr s5 zz=>?_
   obtain⟨hr,J5⟩:=zz
   subst hr
   exact fin s3 _ fp σ4 H4 s5 _ I3 f3 J5 qn
  ·refine thn (T.item (cxC X N' sc s3 (upd H2 s2.heap.objs.size (.dK [])) fp (X.pn++pins)) rfl rfl rfl hc i [] s4 σ4 H4 _ J4 (stat fr4) st4 go) λr s5 zz=>?_
   obtain⟨u,hr,h5⟩:=zz
   subst hr
   refine thn h5 λ_ s6 zz=>?_
   obtain⟨x,H6,J6,r6,y6,st6,fr6⟩:=zz
   have J6':=J6.pinned (stat fr6) (T.obj _ _ st6)
   have back:∀{pl:YC} {σ7:St} {H7:Hp} {s7:Shared},Inv (cxC X N' sc s3 (upd H2 s2.heap.objs.size (.dK [])) fp (X.pn++pins)) ([]++MK fp s6.heap) σ7 H7 s7->N σ7 H7 ->
     ∃m',m' < n/\∃i σ' H',Inv (cxC X N' sc s3 (upd H2 s2.heap.objs.size (.dK [])) fp (X.pn++pins)) [] σ' H' s7/\tn i s7.heap/\(∀b∈fp,H' b=none)/\W i m' σ' H':=λ{pl σ7 H7 s7} J7 w7=>by
    obtain⟨m',hm,w7⟩:=hN _ _ w7
    have pinned:∀b∈fp,∀o,s6.heap.get? b=some o->s7.heap.get? b=some o/\H7 b=none:=λb hb o e=>by
     have:=J7.pin (b,o) (QaA _ (QaA _ (Jy hb e)))
     exact⟨this.1,this.2.1⟩
    refine⟨m',hm,i+1,σ7,H7,J7.G5,T.keep _ _ _ st6 λb hb o e=>(pinned b hb o e).1,λb hb=>?_,w7⟩
    obtain⟨o,e,_⟩:=T.obj _ _ st6 b hb
    exact (pinned b hb o e).2
   refine thn (hg s3 _ fp _ _ s6 σ4 H6 x u _ J6' r6 (step x H6 y6)) λ_ s7 zz=>?_
   obtain⟨σ7,H7,J7,q7⟩:=zz
   refine thn (ht s3 _ fp _ _ s7 σ7 H7 _ J7 q7) λok s8 zz=>?_
   obtain⟨H8,J8,q8⟩:=zz
   cases ok with
   | false=>
    rw[if_neg QaS] at q8 ⊢
    exact back (pl:=[]) J8 q8
   | true=>
    rw[if_pos rfl] at q8 ⊢
    refine thn (hk s3 _ fp _ _ s8 σ7 H8 _ J8 q8) λy s9 zz=>?_
    obtain⟨yv,H9,J9,r9,q9⟩:=zz
    refine thn (hv s3 _ fp _ _ s9 σ7 H9 _ J9 q9) λz s10 zz=>?_
    obtain⟨zv,H10,J10,r10,kvs,k,hl,ey,hz,q10⟩:=zz
    subst ey
    refine nM (X:=cxC X N' sc s3 (upd H2 s2.heap.objs.size (.dK [])) fp (X.pn++pins)) J10 hl hz r9 r10 λs11 J11=>?_
    exact back (pl:=[]) J11 q10
 exact codeAny_compStart_dict loop (T.self X.A 0 _ _ _ st3 loop)
theorem qd {X:Cx} {N':YF} {src:List (Option Nat)} {sc:Scope} {kx vx tg iter:Expr} {ifs:YJ} {pos:Pos} {wi:TI} {g:TG} {tt:TT} {tk tv:TE} (hc:X.calm=true) (S:Bp X N' src sc)
  (hi:PI X tg iter wi) (hg:∀s3 H3 fp pn,PG (cxC X N' sc s3 H3 fp pn) tg g) (ht:∀s3 H3 fp pn,PF (cxC X N' sc s3 H3 fp pn) ifs tt) (hk:∀s3 H3 fp pn,PE (cxC X N' sc s3 H3 fp pn) kx tk) (hv:∀s3 H3 fp pn,PE (cxC X N' sc s3 H3 fp pn) vx tv)
  (hs:∀x,foldedSetIterable iter X.env x=pure x:=by intro _;rfl):PE X (.DictComp kx vx [⟨tg,iter,ifs,0⟩] sc pos) (X5 wi src g tt tk tv):=by
 intro pins s σ H Q I h
 rw[arm_eval_DictComp]
 refine Vc (use:=none) hc S hi hg ht hk hv hs I h λs3 H3 fp σ4 H4 s5 l I3 f3 J5 q=>?_
 obtain⟨m,hn,_⟩:=J5.loc
 exact⟨m,hn,λh' sb=>⟨.ref l,H4,Q9 I3 f3 J5 sb,rfl,q⟩⟩
end L2
namespace PySem
open Sem (wp)
section
variable {prog:Program} {w:World} {A:Around} {E:YA} {s:Shared}
theorem NQ {it l:Addr} {i:Nat} {items:Array Value} {x:Value} {Q:YA} (hit:s.heap.IsTupleIter it l i) (hl:s.heap.IsTuple l items) (hx:items[i]?=some x)
  (hQ:∀h',h'.IsTupleIter it l (i+1)->Heap.SameBut it s.heap h'->Q x { s with heap:=h' }):wpAny (model prog w) A (Builtin.SmallTypes.nextOf (.ref it)) Q E s:=by
 obtain⟨o,ho,hc,hd⟩:=id hit
 obtain⟨ol,hol,_,nl,hdl⟩:=hl
 unfold Builtin.SmallTypes.nextOf
 refine Qcv (Qar (name:=Str.ofString "__next__") hit.typeIs Qaa (Qbv Qaa hit.typeIs PyProof.Rows.entry_tupleiter_next ?_ (PyProof.Rows.args_tupleiter_next _)))
 show wpAny _ _ (field (.ref it) 0 >>= _) _ _ s
 refine Qcv (Qct ho hd (x:=.ref l) rfl ?_)
 show wpAny _ _ (if (Value.ref l == Value.none)=true then _ else _) _ _ s
 rw[if_neg (show ¬((Value.ref l == Value.none)=true) from QaS)]
 show wpAny _ _ (field (.ref it) 1 >>= _) _ _ s
 refine Qcv (Qct ho hd (x:=.int i 0) rfl ?_)
 show wpAny _ _ (seqItems? (.ref l) >>= _) _ _ s
 refine Qcv (QbW hol hdl ?_)
 simp only[Qbk,hx]
 refine Qcv (wpAny_setField ho hd (by simp) (Qcw ⟨x,rfl,Qcw (hQ _ ?_ (QaN ..))⟩))
 exact⟨_,QaC _ ho (Obj.isFreed_of_fields (Obj.data_mapFields hd _)),(Obj.cls_mapFields ..).trans hc,by rw[Obj.data_mapFields hd];simp[rawInt]⟩
theorem JT {it l:Addr} {i:Nat} {items:Array Value} {Q:YA} (hh:A.handled=none) (hit:s.heap.IsTupleIter it l i) (hl:s.heap.IsTuple l items) (hx:items[i]?=none)
  (hE:∀h' e,Heap.ExtBut it s.heap h'->(∃o,h'.get? e=some o/\o.cls=.type "StopIteration")->E (.ref e) { s with heap:=h' }):wpAny (model prog w) A (Builtin.SmallTypes.nextOf (.ref it)) Q E s:=by
 obtain⟨o,ho,hc,hd⟩:=id hit
 obtain⟨ol,hol,_,nl,hdl⟩:=hl
 unfold Builtin.SmallTypes.nextOf
 refine Qcv (Qar (name:=Str.ofString "__next__") hit.typeIs Qaa (Qbv Qaa hit.typeIs PyProof.Rows.entry_tupleiter_next ?_ (PyProof.Rows.args_tupleiter_next _)))
 show wpAny _ _ (field (.ref it) 0 >>= _) _ _ s
 refine Qcv (Qct ho hd (x:=.ref l) rfl ?_)
 show wpAny _ _ (if (Value.ref l == Value.none)=true then _ else _) _ _ s
 rw[if_neg (show ¬((Value.ref l == Value.none)=true) from QaS)]
 show wpAny _ _ (field (.ref it) 1 >>= _) _ _ s
 refine Qcv (Qct ho hd (x:=.int i 0) rfl ?_)
 show wpAny _ _ (seqItems? (.ref l) >>= _) _ _ s
 refine Qcv (QbW hol hdl ?_)
 simp only[Qbk,hx]
 refine Qcv (wpAny_rule (Qcv (wpAny_setField ho hd (by simp) ?_)))
 show wpAny _ _ (newExc (.type "StopIteration") [] >>= _) _ _ _
 refine Qcv ?_
 simp only[newExc,newTuple]
 refine Qcv (Qbn ?_ (by size_fits))
 refine Qcv (m:=firstArgMember _ _) (wpAny_of_eq (a:=Value.none) (by first | rfl | (simp only[firstArgMember];rfl)) ?_)
 refine Qbn ?_ (by size_fits)
 simp only[raiseNew]
 refine Qcv (wpAny_handled ?_)
 first | rw[show A.in1.handled=none from hh] | rw[hh]
 refine Qcv (Qcw (wpAny_throw ?_))
 exact hE _ _ (((QaN ..).extBut.push _).push _) ⟨_,QaI _ rfl,rfl⟩
theorem Z4 {e it l:Addr} {i:Nat} {j:Int} {items:Array Value} {old:Value} {Q:Option Value->Shared->Prop} (hh:A.handled=none) (he:IsEnum s.heap e it j old) (hit:s.heap.IsTupleIter it l i) (hl:s.heap.IsTuple l items) (hx:items[i]?=none)
  (hQ:∀h',Heap.ExtBut it s.heap h'->Q none { s with heap:=h' }):wpAny (model prog w) A (pyNext (.ref e)) Q E s:=by
 have hT:s.TypeIs (.ref e) "enumerate":=⟨_,he,rfl⟩
 unfold pyNext
 refine Qcv (Qcg (Qar (name:=Str.ofString "__next__") hT F.slot_enumerate_next (Qbv F.slot_enumerate_next hT F.entry_enumerate_next ?_ (F.args_enumerate_next_1 _))))
 show wpAny _ _ (field (.ref e) 2 >>= _) _ _ _
 refine Qcv (Qct he rfl (x:=.ref it) rfl (Qcv (JT hh hit hl hx λh' x he' hx'=>?_)))
 obtain⟨o,ho,hc⟩:=hx'
 exact Qcv (wpAny_isInstance (T:="StopIteration") (b:=true) ⟨o,ho,hc⟩ isSubtype_stop (Qcw (hQ _ he')))
end
theorem Draws.tup {prog:Program} {w:World} {A:Around} (hh:A.handled=none) (it l:Addr) (hne:l≠it) (items:Array Value) :
  Draws prog w A it [it,l] items.size (λi v=>items[i]?=some v) (λi h=>h.IsTupleIter it l i/\h.IsTuple l items) where
 live:=λ_ _ st=>let ⟨o,ho,_⟩:=st.1;⟨o,ho⟩
 frame:=λ_ _ _ st hk=>⟨st.1.at λo e=>hk it (by simp) o e,let ⟨o,e,r⟩:=st.2;⟨o,hk l (by simp) o e,r⟩⟩
 item:=λi s Q E hi st hQ=>NQ st.1 st.2 (x:=items[i]) (by simp[hi]) λh' hit' hs'=>hQ _ h' s.toks (by simp[hi]) ⟨hit',let ⟨o,e,r⟩:=st.2;⟨o,hs'.extBut _ _ hne e,r⟩⟩ hs'
 done:=λs Q E st hE=>JT hh st.1 st.2 (by simp) hE
theorem Draws.from {prog:Program} {w:World} {A:Around} {it:Addr} {fp:List Addr} {n:Nat} {P:Nat->Value->Prop} {St:Nat->Heap->Prop} (D:Draws prog w A it fp n P St) (k:Nat) :
  Draws prog w A it fp (k+n) (λj v=>∃i,j=k+i/\P i v) (λj h=>∃i,j=k+i/\i<=n/\St i h) where
 live:=λ_ _ ⟨i,_,_,st⟩=>D.live i _ st
 frame:=λ_ _ _ ⟨i,e,hi,st⟩ hk=>⟨i,e,hi,D.frame i _ _ st hk⟩
 item:=λj s Q E hj ⟨i,e,hi,st⟩ hQ=>D.item i s Q E (by omega) st λx h' tk p st' sb=>hQ x h' tk ⟨i,e,p⟩ ⟨i+1,by omega,by omega,st'⟩ sb
 done:=λs Q E ⟨i,e,hi,st⟩ hE=>by
  have:i=n:=by omega
  subst this
  exact D.done s Q E st hE
end PySem
namespace L2
open PySem PySem.Spec PyProof.Rows
section
variable {X:Cx} {pins:YC} {σ : St} {H:Hp} {s:Shared} {h':Heap}
theorem Inv.Nu {t':Nat} {fp:List Addr} {t:Addr} {o:HO} (I:Inv X pins σ H s) (ht:s.heap.objs.size<=t) (k:∀b u,b∉fp->s.heap.get? b=some u->h'.get? b=some u) (hf:∀b∈fp,Gi X pins H b) (new:Bt X.prog X.w (upd H t o) h' t o) :
  Inv X pins σ (upd H t o) { s with heap:=h',toks:=t' }:=by
 have nt:=I.hok.fresh ht
 have old:∀b u,s.heap.get? b=some u->b≠t:=λb u e z=>absurd (QaW (Qch e) ht) (by rw[z];exact Qcb _)
 have nf:∀b u,H b=some u->b∉fp:=λb u e z=>by rw[(hf b z).1] at e;cases e
 have tr:∀b u,H b=some u->(upd H t o) b=some u:=λb u e=>by rw[Al (Ax e nt)];exact e
 refine I.step (g':=s.gens) (d':=s.drawn) (ch:=fp) (λb hb=>?_) (λb u _ _ hc e _=>k b u hc e) (λb u _ _ hc e _=>⟨u.slots,k b u hc e⟩) (λb u hc e n=>by rw[Al (old b u e)];exact n)
  (λb u hc e=>⟨u,k b u hc e⟩) (λ_ _ e=>tr _ _ e) (λ_ _ _ e=>tr _ _ e) (λb ps e=>⟨#[],by rw[tr _ _ e];simp⟩) (λm hm=>?_) (λb u e=>?_) I.bare
 ·obtain⟨_,f1,_,f3,f4,f5⟩:=hf b hb
  exact⟨f3,f1,f4,f5⟩
 ·obtain⟨u,es,ep,hu,r⟩:=hm
  exact⟨u,es,ep,k _ u (λz=>(hf _ z).2.1 rfl) hu,r⟩
 ·by_cases hb:b=t
  ·subst hb
   rw[Ac] at e
   cases e
   exact new
  ·rw[Al hb] at e
   refine (I.hok b u e).stay (λc v hc q=>k c v ?_ q) (λc q=>tr _ _ q) λc xs q=>tr _ _ q
   rcases hc with z | z
   ·rw[z];exact nf b u e
   ·exact nf c _ z
theorem Inv.Rm {t':Nat} {fp:List Addr} (I:Inv X pins σ H s) (k:∀b u,b∉fp->s.heap.get? b=some u->h'.get? b=some u) (hf:∀b∈fp,Gi X pins H b):Inv X pins σ H { s with heap:=h',toks:=t' }:=by
 have nf:∀b u,H b=some u->b∉fp:=λb u e z=>by rw[(hf b z).1] at e;cases e
 refine I.step (g':=s.gens) (d':=s.drawn) (ch:=fp) (λb hb=>?_) (λb u _ _ hc e _=>k b u hc e) (λb u _ _ hc e _=>⟨u.slots,k b u hc e⟩) (λb u hc e n=>n)
  (λb u hc e=>⟨u,k b u hc e⟩) (λ_ _ e=>e) (λ_ _ _ e=>e) (λb ps e=>⟨#[],by rw[e];simp⟩) (λm hm=>?_) (λb u e=>?_) I.bare
 ·obtain⟨_,f1,_,f3,f4,f5⟩:=hf b hb
  exact⟨f3,f1,f4,f5⟩
 ·obtain⟨u,es,ep,hu,r⟩:=hm
  exact⟨u,es,ep,k _ u (λz=>(hf _ z).2.1 rfl) hu,r⟩
 ·refine (I.hok b u e).stay (λc v hc q=>k c v ?_ q) (λ_ q=>q) λ_ _ q=>q
  rcases hc with z | z
  ·rw[z];exact nf b u e
  ·exact nf c _ z
end
def Nt (K:YD) (a:Addr) (lo:Nat):It:=
 ⟨λi H=>∃xs x,SqT K H a xs/\xs[i]?=some x,λi H v H'=>∃p x,H p=none/\v=.ref p/\H'=upd H p (.tup [.int ((lo+i:Nat):Int),x])/\∀xs,SqT K H a xs->xs[i]?=some x,λi H=>∃xs,SqT K H a xs/\xs.length<=i⟩
theorem fG {P:Program} {w:World} {K:YD} {elts:YJ} {k:Nat} {pos:Pos} (a e it:Addr) (lo:Nat) (nei:e≠it):Turn P w K (.Tuple elts k pos) (Nt K a lo) [e,it] e (λi h=>(∃old,IsEnum h e it ((lo+i:Nat):Int) old)/\h.IsTupleIter it a i) where
 mem:=by simp
 obj:=λi h st b hb=>by
  obtain⟨⟨old,he⟩,o,ho,hc,hd⟩:=st
  rcases QbY.mp hb with rfl | hb
  ·exact⟨_,he,λv z=>by cases (show Data.fields _=Data.cell v from z)⟩
  ·have:b=it:=by simpa using hb
   subst this
   exact⟨o,ho,λv z=>by rw[hd] at z;cases z⟩
 keep:=λi h h' st k=>by
  obtain⟨⟨old,he⟩,hi⟩:=st
  exact⟨⟨old,k e (by simp) _ he⟩,hi.at λo q=>k it (by simp) o q⟩
 item:=by
  intro X hP hw hK hc i pins s σ H E I hf st hg
  subst hP hw hK
  obtain⟨xs,x,hq,hx⟩:=hg
  obtain⟨its,rv,p,hz⟩:=I.tuple hq
  obtain⟨u,hu,ru⟩:=rv.get hx
  obtain⟨⟨old,he⟩,hit⟩:=st
  have hts:s.heap.IsTuple a its.toArray:=p
  have ane:a≠e:=λz=>by
   obtain⟨o,ho,hcl,_⟩:=hts
   rw[z,he] at ho
   cases ho
   injection hcl with q
   exact absurd q (by decide)
  have ani:a≠it:=λz=>by
   obtain⟨o,ho,hcl,_⟩:=hts
   obtain⟨o',ho',hcl',_⟩:=hit
   rw[z,ho'] at ho
   cases ho
   rw[hcl'] at hcl
   injection hcl with q
   exact absurd q (by decide)
  have hlt:i < its.toArray.size:=by
   have:=(Qah.mp hu).1
   simpa using this
  have D:=(Draws.tup (prog:=X.prog) (w:=X.w) (A:=X.A.in1) (I.ok.hd hc) it a ani its.toArray).from lo
  refine wpAny_pyNext_enum_itemD D he ⟨i,rfl,Qcn hlt,hit,hts⟩ (by omega) nei (by simp[nei,ane.symm]) λy h1 tk hP ho hst hT hsz hk=>?_
  obtain⟨i',ei,hy⟩:=hP
  have:i'=i:=by omega
  subst this
  have ey:y=u:=by
   have h2:its.toArray[i']?=some u:=by simpa using hu
   rw[h2] at hy
   exact (QbH hy).symm
  subst ey
  refine⟨_,rfl,wpAny_letOwnedTupleGo_enum ho λh2 he2 hs2=>?_⟩
  have hlt2:s.heap.objs.size≠e:=Qcm (Qch he)
  have hT2:h2.get? s.heap.objs.size=some { cls:=.type "tuple",data:=.seq #[.int ((lo+i':Nat):Int) tk,y] }:=(hs2.2 _ hlt2).trans hT
  have new:Bt X.prog X.w (upd H s.heap.objs.size (.tup [.int ((lo+i':Nat):Int),x])) h2 s.heap.objs.size (.tup [.int ((lo+i':Nat):Int),x]):=
   ⟨by show 2<=sizeLine;decide,[.int ((lo+i':Nat):Int) tk,y],.cons ⟨tk,rfl⟩ (.cons ru .nil),_,hT2,rfl,0,rfl⟩
  have I1:=I.Nu (h':=h2) (t':=tk+1) (Qcq _) (λb q hb z=>(hs2.2 b (λw=>hb (by simp[w]))).trans (hk b q (λw=>hb (by simp[w])) (λw=>hb (by simp[w])) z)) hf new
  refine⟨.ref s.heap.objs.size,_,I1,rfl,⟨s.heap.objs.size,x,I.hok.fresh (Qcq _),rfl,rfl,λys hy'=>by rw[I.Wh hy' hq];exact hx⟩,⟨⟨y,?_⟩,?_⟩,λb hb=>?_⟩
  ·have:=he2
   rw[show ((lo+(i'+1):Nat):Int)=((lo+i':Nat):Int)+1 by omega]
   exact this
  ·obtain⟨i2,e2,_,st2,_⟩:=hst
   have:i2=i'+1:=by omega
   subst this
   exact st2.at λo q=>(hs2.2 it (Ne.symm nei)).trans q
  ·have hb':b < s.heap.objs.size:=by
    rcases QbY.mp hb with rfl | hb
    ·exact Qch he
    ·have:b=it:=by simpa using hb
     subst this
     obtain⟨o,ho',_⟩:=hit
     exact Qch ho'
   rw[Al (Qcj hb')]
   exact (hf b hb).1
 done:=by
  intro X hP hw hK hc i pins s σ H E I hf st hg
  subst hP hw hK
  obtain⟨xs,hq,hx⟩:=hg
  obtain⟨its,rv,p,hz⟩:=I.tuple hq
  obtain⟨⟨old,he⟩,hit⟩:=st
  have hl:=rv.length
  exact Z4 (I.ok.hd hc) he hit (show s.heap.IsTuple a its.toArray from p) (by simp;omega) λh' eb=>⟨rfl,I.Rm (t':=s.toks) (λb o hb q=>eb b o (λz=>hb (by simp[z])) q) hf⟩
 self:=λ_ _ _ _ _ st h=>let ⟨⟨_,he⟩,_⟩:=st;wpAny_pyIter_enum he h
end L2
namespace PySem
open Sem (wp)
open AutoSeq1 (wpAny_loadPart')
theorem VL (l:Addr) (items:Array Value) (n:Nat) (dct:Option Addr) (sl:YI) :
  Meets (Builtin.«enumerate.__new__» ⟨[.type "enumerate",.ref l],[]⟩) (λ_ R s=>s.heap.get? l=some { cls:=.type "tuple",dict:=dct,data:=.seq items n,slots:=sl } /\
   R (.ok (.ret (.ref (s.heap.push { cls:=.type "tuple_iterator",data:=.fields #[.ref l,.int 0 0] }).objs.size)))
    { s with heap:=(s.heap.push { cls:=.type "tuple_iterator",data:=.fields #[.ref l,.int 0 0] }).push { cls:=.type "enumerate",data:=.fields #[.none,.bool false,.ref s.heap.objs.size,rawInt 0,.none,.none] } }):=
 .of_wp λprog w A R s h=>by
  obtain⟨hp,g,d,tk,os⟩:=s;obtain⟨hl,h⟩:=h
  have hsub:=sub_enumerate
  have hL:Heap.IsTuple (Shared.heap ⟨hp,g,d,tk,os⟩) l items:=⟨_,hl,rfl,n,rfl⟩
  wp_walk using wpAny_loadPart' hl
  refine wpAny_stack_any λst=>Qcw ?_
  split
  ·rename_i c _ _ _ _ _
   cases (c == Value.type "enumerate")
   ·wp_walk using wpAny_loadPart' hl,QaY hL
    exact⟨_,rfl,h⟩
   ·wp_walk using wpAny_loadPart' hl,QaY hL
    exact⟨_,rfl,h⟩
  ·wp_walk using wpAny_loadPart' hl,QaY hL
   exact⟨_,rfl,h⟩
theorem UG (l:Addr) (items:Array Value) (n:Nat) (dct:Option Addr) (sl:YI) (t:Tok) :
  Meets (Builtin.«enumerate.__new__» ⟨[.type "enumerate",.ref l],[("start",.int 1 t)]⟩) (λ_ R s=>s.heap.get? l=some { cls:=.type "tuple",dict:=dct,data:=.seq items n,slots:=sl } /\
   R (.ok (.ret (.ref (s.heap.push { cls:=.type "tuple_iterator",data:=.fields #[.ref l,.int 0 0] }).objs.size)))
    { s with heap:=(s.heap.push { cls:=.type "tuple_iterator",data:=.fields #[.ref l,.int 0 0] }).push { cls:=.type "enumerate",data:=.fields #[.none,.bool false,.ref s.heap.objs.size,rawInt 1,.none,.none] } }):=
 .of_wp λprog w A R s h=>by
  obtain⟨hp,g,d,tk,os⟩:=s;obtain⟨hl,h⟩:=h
  have hsub:=sub_enumerate
  have hL:Heap.IsTuple (Shared.heap ⟨hp,g,d,tk,os⟩) l items:=⟨_,hl,rfl,n,rfl⟩
  wp_walk using wpAny_loadPart' hl
  refine wpAny_stack_any λst=>Qcw ?_
  split
  ·rename_i c _ _ _ _ _
   cases (c == Value.type "enumerate")
   ·wp_walk using wpAny_loadPart' hl,QaY hL
    exact⟨_,rfl,h⟩
   ·wp_walk using wpAny_loadPart' hl,QaY hL
    exact⟨_,rfl,h⟩
  ·wp_walk using wpAny_loadPart' hl,QaY hL
   exact⟨_,rfl,h⟩
end PySem
namespace PySem
open Sem (wp)
section
variable {prog:Program} {w:World} {A:Around} {E:YA} {s:Shared}
theorem VH {T newId:String} {self:Value} {rest:YE} {kw:List (Str×Value)} (hl:typeLookup (.type T) "__init__"=pure (some (.builtin "object.__init__")))
  (hm:Bind.madeBy (.type T)=pure (some newId)) (hne:(some newId != some "object.__new__")=true) :
  Meets (Builtin.«object.__init__» ⟨self::rest,kw⟩) (λ_ R s=>s.TypeIs self T/\R (.ok (.ret .none)) s):=by
 refine Meets.of_wp λprog w A R s hs=>?_
 obtain⟨hT,hq⟩:=hs
 cases rest with
 | nil=>
  cases kw with
  | nil=>exact Qcw ⟨_,rfl,hq⟩
  | cons k kw=>
   repeat (any_goals (first | assumption | wp_step))
   exact⟨_,rfl,hq⟩
 | cons a rest=>
  repeat (any_goals (first | assumption | wp_step))
  exact⟨_,rfl,hq⟩
theorem nZ {T newId:String} {Bn:Builtin} {args:YE} {kw:List (Str×Value)} {S:Spec} {Q:YA} (ft:TypeCalled T newId "object.__init__") (hne:(some newId != some "object.__new__")=true)
  (hct:checkTypeCall T ⟨args,kw⟩=pure ()) (hcn:checkBuiltinCall newId ⟨.type T::args,kw⟩=pure ()) (hok:∀obj,argsOk "object.__init__" ⟨obj::args,kw⟩)
  (entryN:entryFor table newId=some Bn) (g:Meets (Bn ⟨.type T::args,kw⟩) S) (h:S A.in1 (wants (λobj s₁=>s₁.TypeIs obj T/\Q obj s₁) E) s) :
  wpAny (model prog w) A (call (.type T) args kw) Q E s:=by
 obtain⟨c,tl,hmro⟩:=ft.mro
 have hmade:=ft.made
 have hsub:=ft.sub
 refine wpAny_call (codeAny_of_tree ?_)
 show wpAny _ _ (callAny (.type T) _) _ _ _
 refine Qcw ⟨Code.quiet_builtin _ (by trivial),codeAny_builtin F.entry_type_call ?_⟩
 rw[Around.under_plain (weight_type_call_type T args kw) (units_type_call_type T args kw)]
 have h1:=ft.notType
 have h2:=ft.canCreate
 repeat (any_goals (first | assumption | wp_step))
 refine Qcp (codeAny_call_builtin ft.plain entryN (wpAny_of_eq hcn (g prog w A.in1 _ s h))) λr s₁ hr=>?_
 cases r with
 | error e=>exact hr
 | ok fl=>
  cases fl with
  | ret obj=>
   obtain⟨hT,hq⟩:=hr
   have hli:=ft.init.lookup
   have hbi:=ft.init.bind obj
   repeat (any_goals (first | assumption | wp_step))
   refine Qcp (codeAny_call_builtin ft.init.plain F.entry_object_init (ft.init.check _ _ _ _ _ _ _ _ hT (hok obj) (VH ft.init.lookup ft.made hne prog w A.in1 (wants (λr s₂=>r=.none/\Q obj s₂) E) s₁ ⟨hT,rfl,hq⟩))) λr₂ s₂ hr₂=>?_
   cases r₂ with
   | error e=>exact hr₂
   | ok fl₂=>
    cases fl₂ with
    | ret r=>
     obtain⟨rfl,hq2⟩:=hr₂
     repeat (any_goals (first | assumption | wp_step))
    | _=>exact hr₂.elim
  | _=>exact hr.elim
end
end PySem
namespace PyProof.Rows
open PySem
section
variable {M:Model} {A:Around} {E:YA} {s:Shared} {env:Env}
theorem Vd {pos:Pos} {T:String} {e:Expr} {rest:YJ} {kws:List Keyword} {Q:YA}
  (h:wpAny M A (spliced (backTo pos (starEach (e::rest) env))) (λvs s₁=>wpAny M A (evalAll ((backToKw pos (keywordEach kws env)).map (·.2))) (λkvs s₂=>wpAny M A (call (.type T) vs (((backToKw pos (keywordEach kws env)).filterMap (·.1)).zip kvs)) Q E s₂) E s₁) E s)
  (he:backTo pos (starEach (e::rest) env)=(false,eval e env)::backTo pos (starEach rest env):=by rfl) (hplain:(backTo pos (starEach (e::rest) env)).any (·.1)=false:=by rfl)
  (hall:(backToKw pos (keywordEach kws env)).all (·.1.isSome)=true:=by rfl) (hkw:(backToKw pos (keywordEach kws env)).any (·.1.isNone)=false:=by rfl) :
  wpAny M A (callWith pos (.type T) [] (backTo pos (starEach (e::rest) env)) (backToKw pos (keywordEach kws env))) Q E s:=by
 have h2:wpAny M A (evalArgs (.type T) true (backTo pos (starEach (e::rest) env)) (backToKw pos (keywordEach kws env))) (λa s₁=>wpAny M A (call (.type T) ([]++a.pos) a.kw) Q E s₁) E s:=by
  rw[he] at h ⊢
  exact evalArgs_kwB hall h
 unfold callWith
 refine Qcv (Qcc (Qcx h2 (λa s₁ h₁=>Qcv (Qce ?_)) λ_ _ x=>x))
 simp only[hplain,hkw,Qcf]
 exact Qcv (Qcw (Qcv (Qcx h₁ (λr s₂ hr=>Qcv (Qcc (wpAny_point (Qcw hr)))) λ_ _ x=>x)))
end
end PyProof.Rows
namespace L2
open PySem PySem.Spec PyProof.Rows
section
variable {X:Cx}
theorem d9 {pins:YC} {σ : St} {H:Hp} {s:Shared} {R:It->Hp->Prop} {E:YA} {elts:YJ} {k:Nat} {pos:Pos} {a:Addr} {lo:Nat} {tk:Nat} (I:Inv X pins σ H s) (q:R (Nt X.K a lo) H) :
  wpAny (model X.prog X.w) X.A (pyIter (.ref (s.heap.objs.size+1))) (PIE X pins σ (.Tuple elts k pos) R) E
   { s with heap:=(s.heap.push { cls:=.type "tuple_iterator",data:=.fields #[.ref a,.int 0 0] }).push { cls:=.type "enumerate",data:=.fields #[.none,.bool false,.ref s.heap.objs.size,rawInt (lo:Int),.none,.none] },toks:=tk }:=by
 have hz:(s.heap.push { cls:=.type "tuple_iterator",data:=.fields #[.ref a,.int 0 0] }).objs.size=s.heap.objs.size+1:=QbT ..
 have he:IsEnum ((s.heap.push { cls:=.type "tuple_iterator",data:=.fields #[.ref a,.int 0 0] }).push { cls:=.type "enumerate",data:=.fields #[.none,.bool false,.ref s.heap.objs.size,rawInt (lo:Int),.none,.none] }) (s.heap.objs.size+1) s.heap.objs.size (lo:Int) .none:=by
  have:=QaI (s.heap.push { cls:=.type "tuple_iterator",data:=.fields #[.ref a,.int 0 0] }) (o:={ cls:=.type "enumerate",data:=.fields #[.none,.bool false,.ref s.heap.objs.size,rawInt (lo:Int),.none,.none] }) rfl
  rw[hz] at this
  exact this
 refine wpAny_pyIter_enum he ⟨s.heap.objs.size+1,[s.heap.objs.size+1,s.heap.objs.size],_,_,H,rfl,I.kept (t':=tk) λb o e=>Qav _ (Qav _ e),fG a (s.heap.objs.size+1) s.heap.objs.size lo (Nat.succ_ne_self _),⟨⟨.none,he⟩,⟨_,Qav _ (QaI _ rfl),rfl,rfl⟩⟩,λb hb=>?_,q⟩
 have hb':s.heap.objs.size<=b:=by
  simp only[QbY,Qbu,Qcz] at hb
  rcases hb with rfl | rfl
  ·exact Nat.le_succ _
  ·exact Qcq _
 exact I.Qd hb' (I.hok.fresh hb')
end
section
variable {X:Cx}
def vG (K:YD) (lo:Nat) (tl:TE):TI:=fun σ H R=>tl σ H λx H1=>∃a,x=.ref a/\(∃xs,SqT K H1 a xs)/\R (Nt K a lo) H1
theorem ji {pins:YC} {σ : St} {H:Hp} {s:Shared} {R:It->Hp->Prop} {elts:YJ} {k:Nat} {pos:Pos} {a:Addr} {xs:YG} (I:Inv X pins σ H s) (hq:SqT X.K H a xs) (q:R (Nt X.K a 0) H) :
  wpAny (model X.prog X.w) X.A (call (.type "enumerate") [.ref a]) (λv s1=>wpAny (model X.prog X.w) X.A (pyIter v) (PIE X pins σ (.Tuple elts k pos) R) X.xe s1) X.xe s:=by
 obtain⟨its,rv,p,hz⟩:=I.tuple hq
 obtain⟨⟨c,dct,dt,sl⟩,hl,hc,n,hd⟩:=id p
 replace hc:c=.type "tuple":=hc
 replace hd:dt=.seq its.toArray n:=hd
 subst hc hd
 refine callType_new F.called_enumerate (by decide) (F.typeCall_enumerate_1 _) (F.newCall_enumerate_1 _) (λobj=>F.args_object_init_2 obj _) F.entry_enumerate_new (VL a its.toArray n dct sl) ⟨hl,?_⟩
 have hz:(s.heap.push { cls:=.type "tuple_iterator",data:=.fields #[.ref a,.int 0 0] }).objs.size=s.heap.objs.size+1:=QbT ..
 show _/\_
 refine⟨⟨_,QaI _ rfl,rfl⟩,?_⟩
 rw[hz]
 exact d9 (lo:=0) (tk:=s.toks) I q
end
section
variable {X:Cx}
theorem Tf {x:Expr} {tx:TE} {p pos tp:Pos} {elts:YJ} {k:Nat} (hg:Gl X "enumerate") (hm:X.mg "enumerate"=none) (hl:PE X x tx) (hs:starEach [x] X.env=[(false,eval x X.env)]:=by rfl):PI X (.Tuple elts k tp) (.Call (.Name "enumerate" p) [x] [] pos) (vG X.K 0 tx):=by
 intro pins s σ H R I h
 refine Call_ (Ii I hg hm boot_enumerate (Qae (thn ((Aa hl Ab (by rw[hs];rfl)) pos pins s σ H (λvs H1=>match vs with | [v]=>∃a,v=.ref a/\(∃xs,SqT X.K H1 a xs)/\R (Nt X.K a 0) H1 | _=>False) I h) λus s1 ⟨vs,H1,I1,r1,q1⟩=>?_) hs rfl))
 cases r1 with
 | nil=>exact False.elim q1
 | cons r rr=>
  cases rr with
  | nil=>
   obtain⟨a,e,⟨xs,hq⟩,q⟩:=q1
   subst e
   cases r
   exact ji I1 hq q
  | cons _ _=>exact False.elim q1
theorem jh {pins:YC} {σ : St} {H:Hp} {s:Shared} {R:It->Hp->Prop} {elts:YJ} {k:Nat} {pos:Pos} {a:Addr} {xs:YG} {t:Tok} (I:Inv X pins σ H s) (hq:SqT X.K H a xs) (q:R (Nt X.K a 1) H) :
  wpAny (model X.prog X.w) X.A (call (.type "enumerate") [.ref a] [("start",.int 1 t)]) (λv s1=>wpAny (model X.prog X.w) X.A (pyIter v) (PIE X pins σ (.Tuple elts k pos) R) X.xe s1) X.xe s:=by
 obtain⟨its,rv,p,hz⟩:=I.tuple hq
 obtain⟨⟨c,dct,dt,sl⟩,hl,hc,n,hd⟩:=id p
 replace hc:c=.type "tuple":=hc
 replace hd:dt=.seq its.toArray n:=hd
 subst hc hd
 refine nZ F.called_enumerate (by decide) (by kernel_rfl) (by kernel_rfl) (λobj=>?ok) F.entry_enumerate_new (UG a its.toArray n dct sl t) ⟨hl,?_⟩
 case ok=>
  unfold argsOk
  rw[signature?_of (id:="object.__init__") (n:=['_','_','t','i','n','i','_','_']) (o:=['t','c','e','j','b','o']) (by kernel_rfl) F.owner_object]
  kernel_rfl
 have hz:(s.heap.push { cls:=.type "tuple_iterator",data:=.fields #[.ref a,.int 0 0] }).objs.size=s.heap.objs.size+1:=QbT ..
 show _/\_
 refine⟨⟨_,QaI _ rfl,rfl⟩,?_⟩
 rw[hz]
 exact d9 (lo:=1) (tk:=s.toks) I q
theorem MN {x one:Expr} {tx:TE} {p pos tp kp:Pos} {elts:YJ} {k:Nat} (hg:Gl X "enumerate") (hm:X.mg "enumerate"=none) (hl:PE X x tx) (h1:PE X one (tC (.int 1))) (hs:starEach [x] X.env=[(false,eval x X.env)]:=by rfl)
  (hall:(backToKw pos (keywordEach [⟨some "start",one,kp⟩] X.env)).all (·.1.isSome)=true:=by rfl) (hkw:(backToKw pos (keywordEach [⟨some "start",one,kp⟩] X.env)).any (·.1.isNone)=false:=by rfl)
  (hks:(backToKw pos (keywordEach [⟨some "start",one,kp⟩] X.env)).filterMap (·.1)=(["start"]:YF):=by rfl) :
  PI X (.Tuple elts k tp) (.Call (.Name "enumerate" p) [x] [⟨some "start",one,kp⟩] pos) (vG X.K 1 tx):=by
 intro pins s σ H R I h
 refine Qbc (Ii I hg hm boot_enumerate (PyProof.Rows.Vd (thn ((Aa hl Ab (by rw[hs];rfl)) pos pins s σ H (λvs H1=>match vs with | [v]=>∃a,v=.ref a/\(∃xs,SqT X.K H1 a xs)/\R (Nt X.K a 1) H1 | _=>False) I h) λus s1 ⟨vs,H1,I1,r1,q1⟩=>?_) (by rw[hs];rfl) (by rw[hs];rfl) hall hkw))
 refine thn ((wK h1 zP) pos pins s1 σ H1 (λks H2=>H2=H1/\ks=[.int 1]) I1 ⟨rfl,rfl⟩) λws s2 zz=>?_
 obtain⟨zs,H2,I2,rz,e2,ez⟩:=zz
 subst e2 ez
 cases rz with
 | cons rz1 rz2=>
  cases rz2
  obtain⟨t,rfl⟩:=rz1
  rw[hks]
  cases r1 with
  | nil=>exact False.elim q1
  | cons r rr=>
   cases rr with
   | nil=>
    obtain⟨a,e,⟨xs,hq⟩,q⟩:=q1
    subst e
    cases r
    exact jh I2 hq q
   | cons _ _=>exact False.elim q1
theorem Ja {K:YD} {a:Addr} {lo:Nat} {xs:YG} {g:TG} {tb:TS} {D:Ends} {σ : St} {H:Hp} (Pv:YN) (h0:Pv 0 σ H) (hl:∀i σ H',i<=xs.length->Pv i σ H'->SqT K H' a xs)
  (hs:∀i x p σ H',xs[i]?=some x->Pv i σ H'->H' p=none->g (.ref p) σ (upd H' p (.tup [.int ((lo+i:Nat):Int),x])) fun σ2 H2=>tb { D with nx:=Pv (i+1),ct:=Pv (i+1),bk:=D.nx } σ2 H2) (hd:∀ σ H',Pv xs.length σ H'->D.nx σ H') :
  ∃W:Nat->YN,(∃m,W 0 m σ H)/\∀i m σ H,W i m σ H ->
   ((Nt K a lo).stop i H/\D.nx σ H)\/((Nt K a lo).go i H/\∃N:YO,(∀ σ' H',N σ' H'->∃m',m' < m/\W (i+1) m' σ' H')/\∀x H',(Nt K a lo).yld i H x H'->g x σ H' fun σ2 H2=>tb { D with nx:=N,ct:=N,bk:=D.nx } σ2 H2):=by
 refine⟨λi m σ H=>m=xs.length - i/\i<=xs.length/\Pv i σ H,⟨xs.length,by simp,Qcr _,h0⟩,?_⟩
 rintro i m σ H ⟨rfl,hi,p⟩
 have q:=hl i σ H hi p
 by_cases hlt:i < xs.length
 ·refine .inr ⟨⟨xs,xs[i],q,by simp[hlt]⟩,Pv (i+1),fun σ3 H3 p'=>⟨xs.length - (i+1),by omega,rfl,hlt,p'⟩,λv H2 y=>?_⟩
  obtain⟨pa,x,hn,rfl,rfl,hx⟩:=y
  exact hs i x pa σ _ (hx xs q) p hn
 ·have e:i=xs.length:=by omega
  subst e
  exact .inl ⟨⟨xs,q,Qcq _⟩,hd σ H p⟩
theorem nQ {K:YD} {a l:Addr} {lo:Nat} {xs:YG} {g:TG} {tt:TT} {te:TE} {Q:VK} {σ0:St} {H0:Hp} (Pv:YN)
  (h0:Pv 0 σ0 H0) (hl:∀i σ H',i<=xs.length->Pv i σ H'->SqT K H' a xs)
  (hs:∀i x p σ H',xs[i]?=some x->Pv i σ H'->H' p=none->g (.ref p) σ (upd H' p (.tup [.int ((lo+i:Nat):Int),x])) fun σ3 H3=>tt σ3 H3 λb H4=>if b=true then te σ3 H4 λy H5=>∃ys,H5 l=some (.lst ys)/\ys.length < sizeLine/\Pv (i+1) σ3 (upd H5 l (.lst (ys++[y]))) else Pv (i+1) σ3 H4)
  (hd:∀ σ H',Pv xs.length σ H'->Q (.ref l) H'):FJ (Nt K a lo) g tt te Q σ0 H0 l:=by
 unfold FJ
 refine⟨λi m σ H'=>m=xs.length - i/\i<=xs.length/\Pv i σ H',⟨xs.length,by simp,Qcr _,h0⟩,?_⟩
 rintro i m σ H' ⟨rfl,hi,p⟩
 have q:=hl i σ H' hi p
 by_cases hlt:i < xs.length
 ·refine .inr ⟨⟨xs,xs[i],q,by simp[hlt]⟩,Pv (i+1),fun σ3 H3 p'=>⟨xs.length - (i+1),by omega,rfl,hlt,p'⟩,λv H2 y=>?_⟩
  obtain⟨pa,x,hn,rfl,rfl,hx⟩:=y
  exact hs i x pa σ _ (hx xs q) p hn
 ·have e:i=xs.length:=by omega
  subst e
  exact .inl ⟨⟨xs,q,Qcq _⟩,hd σ H' p⟩
end
section
variable {X:Cx}
theorem range_any (bs:List Bool):((List.range bs.length).any λi=>(bs[i]?).getD false)=bs.any id:=by
 induction bs with
 | nil=>rfl
 | cons b r ih=>
  rw[Qbr,List.range_succ_eq_map,Qcd,List.any_map,Qcd]
  show ((some b).getD false || _)=_
  rw[show ((λi=>((b::r)[i]?).getD false) ∘ Nat.succ)=λi=>(r[i]?).getD false from by funext i;simp[Function.comp]]
  rw[ih]
  rfl
theorem aF (hc:X.calm=true):Dm X (.builtin "any") (λxs H Q=>∃(p:Addr) (bs:List Bool),xs=[.ref p]/\SqL X.K H p (bs.map V.bl)/\Q (.bl (bs.any id)) H):=by
 intro pins s σ H xs us Q I r h
 obtain⟨p,bs,rfl,hq,q⟩:=h
 obtain⟨u,rfl,rx⟩:=vals1 r
 cases rx
 obtain⟨its,rv,pl,hz⟩:=I.list hq
 have hb:=T6 rv
 have hl:=pl.isList
 have hlt:p < s.heap.objs.size:=by obtain⟨_,e,_⟩:=hl;exact Qch e
 refine call_any_walk (Qbp hl ?_)
 refine⟨s.heap.objs.size,[s.heap.objs.size,p],[s.heap.objs.size],its.toArray.size,_,_,λi=>(bs[i]?).getD false,rfl,Walks.list (A:=X.A.in1) (I.ok.hd hc) _ p (Qcj hlt) its.toArray,
  ⟨⟨_,QaI _ rfl,rfl,rfl⟩,hl.push _⟩,λi v s' Q' E' hP hQ=>?_,λh' tk hk=>?_⟩
 ·obtain⟨b,e,rfl⟩:=hb.get i v (by simpa using hP)
  simp only[e,Option.getD_some] at hQ
  exact Qbm hQ
 ·have e:((List.range its.toArray.size).any λi=>(bs[i]?).getD false)=bs.any id:=by
   rw[Qbg,hb.length];exact range_any bs
  rw[e]
  exact⟨.bl (bs.any id),H,I.kept (LSm.kept_iter hk),rfl,q⟩
end
end L2
namespace PySem.ZZ
open PySem
section
variable {prog:Program} {w:World} {A:Around} {E:YA} {s:Shared}
theorem TQ {M:Model} {α β : Type} {Q:β->Shared->Prop} {body:α->β->Sem (ForInStep β)} (J:List α->β->Shared->Prop) (hnil:∀b s,J [] b s->Q b s)
  (hstep:∀x r b s,J (x::r) b s->wpAny M A (body x b) (λst s'=>match st with | .yield b'=>J r b' s' | .done b'=>Q b' s') E s):∀(l:List α) (b:β) (s:Shared),J l b s->wpAny M A (forIn l b body) Q E s
 | [],b,s,h=>by
  rw[List.forIn_nil]
  exact Qcw (hnil b s h)
 | x::r,b,s,h=>by
  rw[List.forIn_cons]
  refine Qcv (Qcx (hstep x r b s h) (λst s' q=>?_) λ_ _ e=>e)
  cases st with
  | yield b'=>exact TQ J hnil hstep r b' s' q
  | done b'=>exact Qcw q
structure Src where
 it:Addr
 a:Addr
 items:Array Value
def SrcAt (h:Heap) (x:Src) (i:Nat):Prop:=(h.IsListIter x.it x.a i/\h.IsList x.a x.items)\/(h.IsTupleIter x.it x.a i/\h.IsTuple x.a x.items)
theorem SrcAt.keep {h h':Heap} {x:Src} {i:Nat} (q:SrcAt h x i) (k1:∀o,h.get? x.it=some o->h'.get? x.it=some o) (k2:∀o,h.get? x.a=some o->h'.get? x.a=some o):SrcAt h' x i:=by
 rcases q with⟨q1,q2⟩|⟨q1,o,e,r⟩
 ·exact .inl ⟨q1.at k1,q2.at k2⟩
 ·exact .inr ⟨q1.at k1,o,k2 o e,r⟩
theorem SrcAt.ne {h:Heap} {x:Src} {i:Nat} (q:SrcAt h x i):x.a≠x.it:=λz=>by
 rcases q with⟨⟨o,e,c,_⟩,⟨o',e',c',_⟩⟩|⟨⟨o,e,c,_⟩,⟨o',e',c',_⟩⟩
 ·rw[z,e] at e';cases e';rw[c] at c';injection c' with y;exact absurd y (by decide)
 ·rw[z,e] at e';cases e';rw[c] at c';injection c' with y;exact absurd y (by decide)
theorem X7 {x:Src} {i:Nat} {v:Value} {Q:YA} (q:SrcAt s.heap x i) (hx:x.items[i]?=some v) (hQ:∀h',SrcAt h' x (i+1)->Heap.SameBut x.it s.heap h'->Q v { s with heap:=h' }) :
  wpAny (model prog w) A (Builtin.SmallTypes.nextOf (.ref x.it)) Q E s:=by
 have ne:=q.ne
 rcases q with⟨q1,q2⟩|⟨q1,q2⟩
 ·exact wpAny_nextOf_list_item q1 q2 hx λh' i1 sb=>hQ h' (.inl ⟨i1,q2.at λo e=>sb.extBut _ _ ne e⟩) sb
 ·exact NQ q1 q2 hx λh' i1 sb=>hQ h' (.inr ⟨i1,let ⟨o,e,r⟩:=q2;⟨o,sb.extBut _ _ ne e,r⟩⟩) sb
theorem wz {x:Src} {i:Nat} {Q:YA} (hh:A.handled=none) (q:SrcAt s.heap x i) (hx:x.items[i]?=none)
  (hE:∀h' e,Heap.ExtBut x.it s.heap h'->(∃o,h'.get? e=some o/\o.cls=.type "StopIteration")->E (.ref e) { s with heap:=h' }):wpAny (model prog w) A (Builtin.SmallTypes.nextOf (.ref x.it)) Q E s:=by
 rcases q with⟨q1,q2⟩|⟨q1,q2⟩
 ·exact wpAny_nextOf_list_end hh q1 q2 hx hE
 ·exact JT hh q1 q2 hx hE
abbrev IsZ (h:Heap) (z TI TO:Addr) (f0 f1:Value):Prop:=h.get? z=some { cls:=.type "zip",dict:=none,data:=.fields #[f0,f1,.bool false,.ref TI,.ref TO],slots:=#[] }
abbrev Di (h:Heap) (T:Addr) (xs:YE):Prop:=h.get? T=some { cls:=.type "tuple",data:=.seq xs.toArray }
structure Apart (z TI TO:Addr) (ls:List Src):Prop where
 TIz:TI≠z
 TOz:TO≠z
 TITO:TI≠TO
 it:∀x∈ls,x.it≠z/\x.it≠TI/\x.it≠TO
 a:∀x∈ls,x.a≠z/\x.a≠TO
 ai:∀x∈ls,∀y∈ls,x.a≠y.it
 nd:(ls.map (·.it)).Nodup
def Rest (z TO:Addr) (ls:List Src) (h h':Heap):Prop:=∀c o,c≠z->c≠TO->c∉ls.map (·.it)->h.get? c=some o->h'.get? c=some o
theorem wC {xs olds:YE} {k:Nat} {v:Value} (hk:k < olds.length) (hx:xs.length=olds.length) (e:xs[k]?=some v):(xs.take k++olds.drop k).toArray.setIfInBounds k v=(xs.take (k+1)++olds.drop (k+1)).toArray:=by
 rw[List.setIfInBounds_toArray]
 congr 1
 have hl:(xs.take k).length=k:=by rw[Qbs];omega
 rw[List.set_append_right _ _ (by omega),hl,Nat.sub_self,Qaj hk,QaT,List.take_add_one,e]
 simp
structure Mid (z TI TO:Addr) (ls:List Src) (xs olds:YE) (i:Nat) (f0 f1:Value) (h:Heap) (k:Nat) (h':Heap):Prop where
 hz:IsZ h' z TI TO f0 f1
 hTI:Di h' TI (ls.map λx=>.ref x.it)
 done:∀j x,ls[j]?=some x->SrcAt h' x (if j < k then i+1 else i)
 rest:Rest z TO ls h h'
 size:h'.objs.size=h.objs.size
theorem Mid.draw {z TI TO:Addr} {ls:List Src} {xs olds:YE} {i:Nat} {f0 f1:Value} {h h1 h2:Heap} {k:Nat} {x:Src} (D:Apart z TI TO ls) (m:Mid z TI TO ls xs olds i f0 f1 h k h1) (hx:ls[k]?=some x) (q:SrcAt h2 x (i+1)) (sb:Heap.SameBut x.it h1 h2) :
  Mid z TI TO ls xs olds i f0 f1 h (k+1) h2:=by
 have hm:=QaD hx
 have hi:=D.it x hm
 refine⟨sb.extBut _ _ hi.1.symm m.hz,sb.extBut _ _ hi.2.1.symm m.hTI,λj y hy=>?_,λc o c1 c2 c3 e=>sb.extBut _ _ (λz=>c3 (z ▸ Qci.mpr ⟨x,hm,rfl⟩)) (m.rest c o c1 c2 c3 e),by rw[sb.1,m.size]⟩
 by_cases hj:j=k
 ·subst hj
  rw[hx] at hy
  cases hy
  rw[if_pos (Qby _)]
  exact q
 ·have h1:=m.done j y hy
  have hne:y.it≠x.it:=λz=>hj (by
   have e1:(ls.map (·.it))[j]?=some y.it:=by rw[Qbi,hy];rfl
   have e2:(ls.map (·.it))[k]?=some x.it:=by rw[Qbi,hx];rfl
   rw[z] at e1
   have l1:=(Qah.mp e1)
   have l2:=(Qah.mp e2)
   exact (List.getElem_inj D.nd).mp (l1.2.trans l2.2.symm))
  have hc:(if j < k+1 then i+1 else i)=(if j < k then i+1 else i):=by
   by_cases c:j < k
   ·rw[if_pos c,if_pos (by omega)]
   ·rw[if_neg c,if_neg (by omega)]
  rw[hc]
  exact h1.keep (λo e=>sb.extBut _ _ hne e) (λo e=>sb.extBut _ _ (D.ai y (QaD hy) x hm) e)
theorem Mid.other {z TI TO:Addr} {ls:List Src} {xs olds:YE} {i:Nat} {f0 f1:Value} {h h1 h2:Heap} {k:Nat} (D:Apart z TI TO ls) (m:Mid z TI TO ls xs olds i f0 f1 h k h1) (sb:Heap.SameBut TO h1 h2):Mid z TI TO ls xs olds i f0 f1 h k h2:=by
 refine⟨sb.extBut _ _ D.TOz.symm m.hz,sb.extBut _ _ D.TITO m.hTI,λj y hy=>?_,λc o c1 c2 c3 e=>sb.extBut _ _ c2 (m.rest c o c1 c2 c3 e),by rw[sb.1,m.size]⟩
 have hm:=QaD hy
 exact (m.done j y hy).keep (λo e=>sb.extBut _ _ (D.it y hm).2.2 e) (λo e=>sb.extBut _ _ (D.a y hm).2 e)
theorem Xf {z TI TO:Addr} {ls:List Src} {xs olds:YE} {i:Nat} {f1:Value} {Q:YA} (D:Apart z TI TO ls) (hz:IsZ s.heap z TI TO .none f1) (hTI:Di s.heap TI (ls.map λx=>.ref x.it)) (hTO:Di s.heap TO olds)
  (hat:∀x∈ls,SrcAt s.heap x i) (hne:ls≠[]) (hl1:xs.length=ls.length) (hl2:olds.length=ls.length) (hx:∀(j:Nat) (x:Src),ls[j]?=some x->∃v,xs[j]?=some v/\x.items[i]?=some v) (hsz:ls.length<=100)
  (hQ:∀h',IsZ h' z TI TO (rawInt s.heap.objs.size) (.bool false)->Di h' TI (ls.map λx=>.ref x.it)->Di h' TO xs->(∀x∈ls,SrcAt h' x (i+1))->Di h' s.heap.objs.size xs->h'.objs.size=s.heap.objs.size+1->Rest z TO ls s.heap h'->Q (.ref s.heap.objs.size) { s with heap:=h' }) :
  wpAny (model prog w) A (Builtin.«zip.__next__» ⟨[.ref z],[]⟩) (λfin s'=>∃v,fin=.done (.ret v)/\Q v s') E s:=by
 show wpAny _ _ (field (.ref z) 2 >>= _) _ _ _
 refine Qcv (Qct hz rfl (x:=.bool false) rfl ?_)
 show wpAny _ _ (field (.ref z) 3 >>= _) _ _ _
 refine Qcv (Qct hz rfl (x:=.ref TI) rfl ?_)
 refine Qcv (QbW hTI rfl ?_)
 dsimp only
 rw[if_neg (by cases ls with | nil=>exact absurd rfl hne | cons a r=>simp)]
 show wpAny _ _ (Builtin.SmallTypes.ownedTupleIsFree (.ref z) >>= _) _ _ _
 refine Qcv ?_
 unfold Builtin.SmallTypes.ownedTupleIsFree
 refine Qcv (Qct hz rfl (x:=.none) rfl (Qcw ?_))
 simp only[if_true]
 refine Qcv (wpAny_rule ?_)
 refine Qcv (Qct hz rfl (x:=.ref TO) rfl ?_)
 refine Qcv (QaZ hz (by simp) λh₁ hz₁ hs₁=>?_)
 replace hz₁ : IsZ h₁ z TI TO .ellipsis f1:=hz₁
 refine Qcv ?_
 have m0:Mid z TI TO ls xs olds i .ellipsis f1 s.heap 0 h₁:=by
  refine⟨hz₁,hs₁.extBut _ _ D.TIz hTI,λj x hj=>?_,λc o c1 _ _ e=>hs₁.extBut _ _ c1 e,hs₁.1⟩
  have hm:=QaD hj
  rw[if_neg (QbO _)]
  exact (hat x hm).keep (λo e=>hs₁.extBut _ _ (D.it x hm).1 e) (λo e=>hs₁.extBut _ _ (D.a x hm).1 e)
 have ZR : Di h₁ TO (xs.take 0++olds.drop 0):=hs₁.extBut _ _ D.TOz hTO
 refine TQ (λl b s'=>∃k h',k<=ls.length/\l=((ls.map λx=>Value.ref x.it).drop k).zipIdx k/\b=⟨none,⟨⟩⟩/\s'={ s with heap:=h' }/\Mid z TI TO ls xs olds i .ellipsis f1 s.heap k h'/\Di h' TO (xs.take k++olds.drop k)) (λb s' h=>?_) (λx r b s' h=>?_) _ _ _ ⟨0,h₁,Qcr _,rfl,rfl,rfl,m0,ZR⟩
 ·obtain⟨k,h',hk,e1,rfl,rfl,m,hT⟩:=h
  have hkl:k=ls.length:=by
   have:=congrArg List.length e1
   rw[List.length_nil,List.length_zipIdx,Qbx,QbB] at this
   omega
  subst hkl
  rw[<-hl1,Qbt,hl1,<-hl2,List.drop_length,QbF] at hT
  dsimp only
  refine Qcv (QbW hT rfl ?_)
  refine Qcv (wpAny_newTuple ?_ (by show xs.length<=sizeLine;rw[Qcu];omega))
  have hkl:∀j x,ls[j]?=some x->SrcAt h' x (i+1):=λj x hj=>by
   have:=m.done j x hj
   rw[if_pos (Qah.mp hj).1] at this
   exact this
  have hzlt:z < h'.objs.size:=Qch m.hz
  have hTOlt:TO < h'.objs.size:=Qch hT
  show wpAny _ _ (Builtin.SmallTypes.ownedTupleHandOut (.ref z) (.ref h'.objs.size) >>= _) _ _ _
  refine Qcv ?_
  unfold Builtin.SmallTypes.ownedTupleHandOut
  have hz₆ : IsZ (h'.push { cls:=.type "tuple",data:=.seq xs.toArray }) z TI TO .ellipsis f1:=Qav _ m.hz
  refine Qcv (QaZ hz₆ (by simp) λh₇ hz₇ hs₇=>?_)
  replace hz₇ : IsZ h₇ z TI TO (rawInt h'.objs.size) f1:=hz₇
  refine QaZ hz₇ (by simp) λh₈ hz₈ hs₈=>?_
  replace hz₈ : IsZ h₈ z TI TO (rawInt h'.objs.size) (.bool false):=hz₈
  have up:∀c o,c≠z->h'.get? c=some o->h₈.get? c=some o:=λc o c1 e=>hs₈.extBut _ _ c1 (hs₇.extBut _ _ c1 (Qav _ e))
  have hT₈ : Di h₈ h'.objs.size xs:=hs₈.extBut _ _ (Qcm hzlt) (hs₇.extBut _ _ (Qcm hzlt) (QaI _ rfl))
  have hz8:h₈.objs.size=h'.objs.size+1:=by rw[hs₈.1,hs₇.1,QbT]
  have hsz':=m.size
  rw[hsz'] at hz₈ hT₈ hz8
  refine Qcw ⟨_,rfl,?_⟩
  show Q (.ref h'.objs.size) _
  rw[hsz']
  refine hQ h₈ hz₈ (up _ _ D.TIz m.hTI) (up _ _ D.TOz hT) (λx hm=>?_) hT₈ hz8 λc o c1 c2 c3 e=>up c o c1 (m.rest c o c1 c2 c3 e)
  obtain⟨j,hj⟩:=QaG hm
  exact (hkl j x hj).keep (λo e=>up _ o (D.it x hm).1 e) (λo e=>up _ o (D.a x hm).1 e)
 ·obtain⟨k,h',hk,e1,rfl,rfl,m,hT⟩:=h
  have hkl:k < ls.length:=by
   have:=congrArg List.length e1
   rw[Qbr,List.length_zipIdx,Qbx,QbB] at this
   omega
  obtain⟨y,hy⟩ : ∃y,ls[k]?=some y:=⟨_,Qan hkl⟩
  have hm:=QaD hy
  rw[Qaj (by rw[QbB];exact hkl),List.zipIdx_cons,List.getElem_map] at e1
  have ey:ls[k]=y:=(Qah.mp hy).2
  rw[ey] at e1
  injection e1 with e1 e2
  subst e1 e2
  obtain⟨v,hv1,hv2⟩:=hx k y hy
  refine Qcv (wpAny_onRaise ?_)
  show wpAny _ _ (Builtin.SmallTypes.nextOf (.ref y.it) >>= _) _ _ _
  have q0:=m.done k y hy
  rw[if_neg (Qcb _)] at q0
  refine Qcv (X7 q0 hv2 λh2 q2 sb2=>Qcw ?_)
  have m2:=m.draw D hy q2 sb2
  have hT2:Di h2 TO (xs.take k++olds.drop k):=sb2.extBut _ _ (D.it y hm).2.2.symm hT
  have hln:(xs.take k++olds.drop k).length<=100:=by rw[QaQ,Qbs,Qbx];omega
  have hsm:=wC (xs:=xs) (olds:=olds) (k:=k) (v:=v) (by omega) (by omega) hv1
  refine Qcv (QbW hT2 rfl ?_)
  refine Qcv (wpAny_updateSeq hT2 rfl ?_ (by rw[Qbg,Qcu];omega) (by rw[hsm,Qbg,Qcu,QaQ,Qbs,Qbx];omega))
  have sb3:Heap.SameBut TO h2 (h2.update TO (Obj.mapSeq λx=>x.setIfInBounds k v)):=QaN ..
  have hT3:Di (h2.update TO (Obj.mapSeq λx=>x.setIfInBounds k v)) TO (xs.take (k+1)++olds.drop (k+1)):=by
   show (h2.update TO _).get? TO=_
   rw[QaC _ hT2 rfl,<-hsm]
   simp[Obj.mapSeq]
  refine Qcv (wpAny_letGo (Qcw ?_))
  exact⟨k+1,_,hkl,rfl,rfl,rfl,m2.other D sb3,hT3⟩
theorem XH {z TI TO:Addr} {ls:List Src} {olds:YE} {i:Nat} {f1:Value} {Q:Fin->Shared->Prop} (hh:A.handled=none) (D:Apart z TI TO ls) (hz:IsZ s.heap z TI TO .none f1) (hTI:Di s.heap TI (ls.map λx=>.ref x.it)) (hTO:Di s.heap TO olds)
  (hat:∀x∈ls,SrcAt s.heap x i) (hne:ls≠[]) (hl2:olds.length=ls.length) (hsz:ls.length<=100) (hend:∃x∈ls,x.items[i]?=none)
  (hE:∀h' e,Rest z TO ls s.heap h'->(∃o,h'.get? e=some o/\o.cls=.type "StopIteration")->E (.ref e) { s with heap:=h' }) :
  wpAny (model prog w) A (Builtin.«zip.__next__» ⟨[.ref z],[]⟩) Q E s:=by
 show wpAny _ _ (field (.ref z) 2 >>= _) _ _ _
 refine Qcv (Qct hz rfl (x:=.bool false) rfl ?_)
 show wpAny _ _ (field (.ref z) 3 >>= _) _ _ _
 refine Qcv (Qct hz rfl (x:=.ref TI) rfl ?_)
 refine Qcv (QbW hTI rfl ?_)
 dsimp only
 rw[if_neg (by cases ls with | nil=>exact absurd rfl hne | cons a r=>simp)]
 show wpAny _ _ (Builtin.SmallTypes.ownedTupleIsFree (.ref z) >>= _) _ _ _
 refine Qcv ?_
 unfold Builtin.SmallTypes.ownedTupleIsFree
 refine Qcv (Qct hz rfl (x:=.none) rfl (Qcw ?_))
 simp only[if_true]
 refine Qcv (wpAny_rule ?_)
 refine Qcv (Qct hz rfl (x:=.ref TO) rfl ?_)
 refine Qcv (QaZ hz (by simp) λh₁ hz₁ hs₁=>?_)
 replace hz₁ : IsZ h₁ z TI TO .ellipsis f1:=hz₁
 refine Qcv ?_
 have m0:Mid z TI TO ls [] olds i .ellipsis f1 s.heap 0 h₁:=by
  refine⟨hz₁,hs₁.extBut _ _ D.TIz hTI,λj x hj=>?_,λc o c1 _ _ e=>hs₁.extBut _ _ c1 e,hs₁.1⟩
  have hm:=QaD hj
  rw[if_neg (QbO _)]
  exact (hat x hm).keep (λo e=>hs₁.extBut _ _ (D.it x hm).1 e) (λo e=>hs₁.extBut _ _ (D.a x hm).1 e)
 have ZR : Di h₁ TO olds:=hs₁.extBut _ _ D.TOz hTO
 refine TQ (λl b s'=>∃k h' ys,k<=ls.length/\l=((ls.map λx=>Value.ref x.it).drop k).zipIdx k/\b=⟨none,⟨⟩⟩/\s'={ s with heap:=h' }/\Mid z TI TO ls [] olds i .ellipsis f1 s.heap k h'/\Di h' TO ys/\ys.length=ls.length/\∃x∈ls.drop k,x.items[i]?=none) (λb s' h=>?_) (λx r b s' h=>?_) _ _ _ ⟨0,h₁,olds,Qcr _,rfl,rfl,rfl,m0,ZR,hl2,hend⟩
 ·obtain⟨k,h',ys,hk,e1,rfl,rfl,m,hT,hy,x,hx,_⟩:=h
  have:k=ls.length:=by
   have:=congrArg List.length e1
   rw[List.length_nil,List.length_zipIdx,Qbx,QbB] at this
   omega
  subst this
  rw[List.drop_length] at hx
  cases hx
 ·obtain⟨k,h',ys,hk,e1,rfl,rfl,m,hT,hys,xe,hxe,hxn⟩:=h
  have hkl:k < ls.length:=by
   have:=congrArg List.length e1
   rw[Qbr,List.length_zipIdx,Qbx,QbB] at this
   omega
  obtain⟨y,hy⟩ : ∃y,ls[k]?=some y:=⟨_,Qan hkl⟩
  have hm:=QaD hy
  rw[Qaj (by rw[QbB];exact hkl),List.zipIdx_cons,List.getElem_map] at e1
  have ey:ls[k]=y:=(Qah.mp hy).2
  rw[ey] at e1
  injection e1 with e1 e2
  subst e1 e2
  refine Qcv (wpAny_onRaise ?_)
  show wpAny _ _ (Builtin.SmallTypes.nextOf (.ref y.it) >>= _) _ _ _
  have q0:=m.done k y hy
  rw[if_neg (Qcb _)] at q0
  cases hv:y.items[i]? with
  | none=>
   refine Qcv (wz hh q0 hv λh₂ e hs₂ he=>?_)
   obtain⟨oe,hoe,hce⟩:=he
   have hz₂ : IsZ h₂ z TI TO .ellipsis f1:=hs₂ _ _ (D.it y hm).1.symm m.hz
   have hez:e≠z:=λx=>by subst x;rw[hz₂] at hoe;cases hoe;simp at hce
   refine QaZ hz₂ (by simp) λh₃ _ hs₃=>hE h₃ e (λc o c1 c2 c3 x=>hs₃.extBut _ _ c1 (hs₂ _ _ (λq=>c3 (q ▸ Qci.mpr ⟨y,hm,rfl⟩)) (m.rest c o c1 c2 c3 x))) ⟨oe,hs₃.extBut _ _ hez hoe,hce⟩
  | some v=>
   refine Qcv (X7 q0 hv λh2 q2 sb2=>Qcw ?_)
   have m2:=m.draw D hy q2 sb2
   have hT2:Di h2 TO ys:=sb2.extBut _ _ (D.it y hm).2.2.symm hT
   refine Qcv (QbW hT2 rfl ?_)
   refine Qcv (wpAny_updateSeq hT2 rfl ?_ (by rw[Qbg,Qcu];omega) (by rw[Array.size_setIfInBounds,Qbg,Qcu];omega))
   have sb3:Heap.SameBut TO h2 (h2.update TO (Obj.mapSeq λx=>x.setIfInBounds k v)):=QaN ..
   have hT3:Di (h2.update TO (Obj.mapSeq λx=>x.setIfInBounds k v)) TO (ys.set k v):=by
    show (h2.update TO _).get? TO=_
    rw[QaC _ hT2 rfl,<-List.setIfInBounds_toArray]
    simp[Obj.mapSeq]
   refine Qcv (wpAny_letGo (Qcw ?_))
   refine⟨k+1,_,ys.set k v,hkl,rfl,rfl,rfl,m2.other D sb3,hT3,by rw[List.length_set];exact hys,xe,?_,hxn⟩
   rw[Qaj hkl,ey] at hxe
   rcases QbY.mp hxe with z | z
   ·subst z;rw[hv] at hxn;cases hxn
   ·exact z
theorem gw {z TI TO:Addr} {f0 f1:Value} {Q:Option Value->Shared->Prop} (hz:IsZ s.heap z TI TO f0 f1) {Qi:YA} (h:wpAny (model prog w) A.in1 (Builtin.«zip.__next__» ⟨[.ref z],[]⟩) (λfin s'=>∃v,fin=.done (.ret v)/\Qi v s') (λ_ _=>False) s) (hQ:∀v s',Qi v s'->Q (some v) s') :
  wpAny (model prog w) A (pyNext (.ref z)) Q E s:=by
 have hT:s.TypeIs (.ref z) "zip":=⟨_,hz,rfl⟩
 unfold pyNext
 refine Qcv (Qcg (Qar (name:=Str.ofString "__next__") hT F.slot_zip_next (Qbv F.slot_zip_next hT F.entry_zip_next (Qcx h (λfin s' q=>?_) λ_ _ f=>f.elim) (F.args_zip_next_1 _))))
 obtain⟨v,e,q⟩:=q
 exact⟨v,e,Qcw (hQ v s' q)⟩
theorem Vz {z TI TO:Addr} {f0 f1:Value} {Q:Option Value->Shared->Prop} {R:Heap->Prop} (hz:IsZ s.heap z TI TO f0 f1)
  (h:wpAny (model prog w) A.in1 (Builtin.«zip.__next__» ⟨[.ref z],[]⟩) (λ_ _=>False) (λv s'=>∃h' e,v=.ref e/\s'={ s with heap:=h' }/\R h'/\∃o,h'.get? e=some o/\o.cls=.type "StopIteration") s) (hQ:∀h',R h'->Q none { s with heap:=h' }) :
  wpAny (model prog w) A (pyNext (.ref z)) Q E s:=by
 have hT:s.TypeIs (.ref z) "zip":=⟨_,hz,rfl⟩
 unfold pyNext
 refine Qcv (Qcg (Qar (name:=Str.ofString "__next__") hT F.slot_zip_next (Qbv F.slot_zip_next hT F.entry_zip_next (Qcx h (λ_ _ f=>f.elim) λv s' q=>?_) (F.args_zip_next_1 _))))
 obtain⟨h',e,rfl,rfl,r,o,ho,hc⟩:=q
 exact Qcv (wpAny_isInstance (T:="StopIteration") (b:=true) ⟨o,ho,hc⟩ isSubtype_stop (Qcw (hQ _ r)))
theorem Uo {z TI TO:Addr} {f0 f1:Value} {Q:YA} (hz:IsZ s.heap z TI TO f0 f1) (h:Q (.ref z) s):wpAny (model prog w) A (pyIter (.ref z)) Q E s:=by
 have hT:s.TypeIs (.ref z) "zip":=⟨_,hz,rfl⟩
 refine wpAny_pyIter_slot hT F.slot_zip_iter (Qbv F.slot_zip_iter hT F.entry_zip_iter ?_ (F.args_zip_iter_1 _))
 show wpAny _ _ (ret (.ref z)) _ _ s
 exact Qcw ⟨_,rfl,"zip",_,hT,F.slot_zip_next.lookup,h⟩
theorem lW {elts:YJ} {x1} {pos:Pos} {z TI TO T:Addr} {f1:Value} {Q:YH} (hz:IsZ s.heap z TI TO (rawInt T) f1)
  (hQ:∀h',IsZ h' z TI TO .none f1->Heap.SameBut z s.heap h'->Q () { s with heap:=h' }):wpAny (model prog w) A (letOwnedTupleGo (.Tuple elts x1 pos) (.ref z) (.ref T)) Q E s:=by
 unfold letOwnedTupleGo
 refine Qcv (wpAny_load hz ?_)
 show wpAny _ _ (if (["enumerate","zip","dict_itemiterator","dict_reverseitemiterator","odict_iterator","itertools.zip_longest","itertools.pairwise"].contains "zip" &&
   (#[rawInt T,f1,.bool false,.ref TI,.ref TO]:Array Value)[0]? == some (rawInt T))=true then _ else _) Q E s
 rw[if_pos (by simp)]
 refine Qcv (wpAny_rule ?_)
 show wpAny _ _ (setField (.ref z) 0 .none) Q E s
 exact QaZ hz (by simp) λh' hz' hs'=>hQ h' hz' hs'
end
end PySem.ZZ
namespace PySem
namespace F
end F
end PySem
namespace PySem.ZZ
open PySem
def Rg (h:Heap) (a:Addr) (xs:Array Value) (c:String):Prop:=(c="list_iterator"/\h.IsList a xs)\/(c="tuple_iterator"/\h.IsTuple a xs)
theorem Rg.src {h h':Heap} {a it:Addr} {xs:Array Value} {c:String} (q:Rg h a xs c) (k:∀o,h.get? a=some o->h'.get? a=some o) (e:h'.get? it=some { cls:=.type c,data:=.fields #[.ref a,.int 0 0] }):SrcAt h' ⟨it,a,xs⟩ 0:=by
 rcases q with⟨rfl,q⟩|⟨rfl,o,ho,r⟩
 ·exact .inl ⟨⟨_,e,rfl,rfl⟩,q.at k⟩
 ·exact .inr ⟨⟨_,e,rfl,rfl⟩,o,k o ho,r⟩
theorem Rg.lt {h:Heap} {a:Addr} {xs:Array Value} {c:String} (q:Rg h a xs c):a < h.objs.size:=by
 rcases q with⟨rfl,o,e,_⟩|⟨rfl,o,e,_⟩
 ·exact Qch e
 ·exact Qch e
abbrev itO (c:String) (l:Addr):Obj:={ cls:=.type c,data:=.fields #[.ref l,.int 0 0] }
abbrev tuO (xs:Array Value):Obj:={ cls:=.type "tuple",data:=.seq xs }
abbrev z2a (h:Heap) (c1 c2:String) (l1 l2:Addr):Heap:=((((h.push (itO c1 l1)).push (itO c2 l2)).push (tuO #[.ref h.objs.size,.ref (h.push (itO c1 l1)).objs.size])).push (tuO #[.none,.none]))
abbrev z2 (h:Heap) (c1 c2:String) (l1 l2:Addr):Heap:=(z2a h c1 c2 l1 l2).push
 { cls:=.type "zip",data:=.fields #[.none,.bool false,.bool false,.ref ((h.push (itO c1 l1)).push (itO c2 l2)).objs.size,.ref (((h.push (itO c1 l1)).push (itO c2 l2)).push (tuO #[.ref h.objs.size,.ref (h.push (itO c1 l1)).objs.size])).objs.size] }
theorem gW (l1 l2:Addr) (xs ys:Array Value) (c1 c2:String):Meets (Builtin.«zip.__new__» ⟨[.type "zip",.ref l1,.ref l2],[]⟩) (λ_ R s=>Rg s.heap l1 xs c1/\Rg s.heap l2 ys c2/\R (.ok (.ret (.ref (z2a s.heap c1 c2 l1 l2).objs.size))) { s with heap:=z2 s.heap c1 c2 l1 l2 }):=
 .of_wp λprog w A R s h=>by
  obtain⟨hp,g,d,tk,os⟩:=s
  obtain⟨hl1,hl2,h⟩:=h
  have hsub:=sub_zip
  rcases hl1 with⟨rfl,hl1⟩|⟨rfl,hl1⟩
  ·have hL1:Heap.IsList (Shared.heap ⟨hp,g,d,tk,os⟩) l1 xs:=hl1
   rcases hl2 with⟨rfl,hl2⟩|⟨rfl,hl2⟩
   ·have hL2:Heap.IsList (Shared.heap ⟨hp.push (itO "list_iterator" l1),g,d,tk,os⟩) l2 ys:=Heap.IsList.push hl2 _
    wp_walk using Qbp hL1,Qbp hL2
    exact⟨_,rfl,h⟩
   ·have hL2:Heap.IsTuple (Shared.heap ⟨hp.push (itO "list_iterator" l1),g,d,tk,os⟩) l2 ys:=Heap.IsTuple.push hl2 _
    wp_walk using Qbp hL1,QaY hL2
    exact⟨_,rfl,h⟩
  ·have hL1:Heap.IsTuple (Shared.heap ⟨hp,g,d,tk,os⟩) l1 xs:=hl1
   rcases hl2 with⟨rfl,hl2⟩|⟨rfl,hl2⟩
   ·have hL2:Heap.IsList (Shared.heap ⟨hp.push (itO "tuple_iterator" l1),g,d,tk,os⟩) l2 ys:=Heap.IsList.push hl2 _
    wp_walk using QaY hL1,Qbp hL2
    exact⟨_,rfl,h⟩
   ·have hL2:Heap.IsTuple (Shared.heap ⟨hp.push (itO "tuple_iterator" l1),g,d,tk,os⟩) l2 ys:=Heap.IsTuple.push hl2 _
    wp_walk using QaY hL1,QaY hL2
    exact⟨_,rfl,h⟩
abbrev z3a (h:Heap) (c1 c2 c3:String) (l1 l2 l3:Addr):Heap:=(((((h.push (itO c1 l1)).push (itO c2 l2)).push (itO c3 l3)).push (tuO #[.ref h.objs.size,.ref (h.push (itO c1 l1)).objs.size,.ref ((h.push (itO c1 l1)).push (itO c2 l2)).objs.size])).push (tuO #[.none,.none,.none]))
abbrev z3 (h:Heap) (c1 c2 c3:String) (l1 l2 l3:Addr):Heap:=(z3a h c1 c2 c3 l1 l2 l3).push
 { cls:=.type "zip",data:=.fields #[.none,.bool false,.bool false,.ref (((h.push (itO c1 l1)).push (itO c2 l2)).push (itO c3 l3)).objs.size,.ref ((((h.push (itO c1 l1)).push (itO c2 l2)).push (itO c3 l3)).push (tuO #[.ref h.objs.size,.ref (h.push (itO c1 l1)).objs.size,.ref ((h.push (itO c1 l1)).push (itO c2 l2)).objs.size])).objs.size] }
structure DE (h:Heap) (z TI TO:Addr) (ls:List Src) (h':Heap):Prop where
 hz:IsZ h' z TI TO .none (.bool false)
 hTI:Di h' TI (ls.map λx=>.ref x.it)
 hTO:Di h' TO (ls.map λ_=>.none)
 at_:∀x∈ls,SrcAt h' x 0
 ap:Apart z TI TO ls
 new:h.objs.size<=z/\h.objs.size<=TI/\h.objs.size<=TO/\∀x∈ls,h.objs.size<=x.it
 keep:∀c o,h.get? c=some o->h'.get? c=some o
theorem na {a b:Nat} (h:a≠b):@Ne Addr a b:=h
theorem apart2 {n l1 l2:Nat} {xs ys:Array Value} (a1:l1 < n) (a2:l2 < n):Apart (n+1+1+1+1:Nat) (n+1+1:Nat) (n+1+1+1:Nat) [⟨n,l1,xs⟩,⟨(n+1:Nat),l2,ys⟩]:=by
 refine⟨na (by omega),na (by omega),na (by omega),λx hx=>?_,λx hx=>?_,λx hx y hy=>?_,?_⟩
 ·rcases QbY.mp hx with rfl | hx
  ·exact⟨na (by dsimp only;omega),na (by dsimp only;omega),na (by dsimp only;omega)⟩
  ·cases QaX.mp hx
   exact⟨na (by dsimp only;omega),na (by dsimp only;omega),na (by dsimp only;omega)⟩
 ·rcases QbY.mp hx with rfl | hx
  ·exact⟨na (by dsimp only;omega),na (by dsimp only;omega)⟩
  ·cases QaX.mp hx
   exact⟨na (by dsimp only;omega),na (by dsimp only;omega)⟩
 ·rcases QbY.mp hx with rfl | hx
  ·rcases QbY.mp hy with rfl | hy
   ·exact na (by dsimp only;omega)
   ·cases QaX.mp hy
    exact na (by dsimp only;omega)
  ·cases QaX.mp hx
   rcases QbY.mp hy with rfl | hy
   ·exact na (by dsimp only;omega)
   ·cases QaX.mp hy
    exact na (by dsimp only;omega)
 ·show List.Nodup ([n,n+1]:List Nat)
  simp
section
variable {prog:Program} {w:World} {A:Around} {E:YA} {s:Shared}
theorem nR {l1 l2:Addr} {xs ys:Array Value} {c1 c2:String} {Q:YA} (hl1:Rg s.heap l1 xs c1) (hl2:Rg s.heap l2 ys c2)
  (h:∀h' z TI TO i1 i2,DE s.heap z TI TO [⟨i1,l1,xs⟩,⟨i2,l2,ys⟩] h'->Q (.ref z) { s with heap:=h' }):wpAny (model prog w) A (call (.type "zip") [.ref l1,.ref l2]) Q E s:=by
 refine callType_new F.called_zip (by decide) (F.typeCall_zip_2 _ _) (F.newCall_zip_2 _ _) (λobj=>F.args_object_init_3 obj _ _) F.entry_zip_new (gW l1 l2 xs ys c1 c2) ⟨hl1,hl2,?_⟩
 have g5:(z2 s.heap c1 c2 l1 l2).get? (z2a s.heap c1 c2 l1 l2).objs.size=some _:=QaI _ rfl
 have g4:(z2 s.heap c1 c2 l1 l2).get? (((s.heap.push (itO c1 l1)).push (itO c2 l2)).push (tuO #[.ref s.heap.objs.size,.ref (s.heap.push (itO c1 l1)).objs.size])).objs.size=some (tuO #[.none,.none]):=Qav _ (QaI _ rfl)
 have g3:(z2 s.heap c1 c2 l1 l2).get? ((s.heap.push (itO c1 l1)).push (itO c2 l2)).objs.size=some (tuO #[.ref s.heap.objs.size,.ref (s.heap.push (itO c1 l1)).objs.size]):=Qav _ (Qav _ (QaI _ rfl))
 have g2:(z2 s.heap c1 c2 l1 l2).get? (s.heap.push (itO c1 l1)).objs.size=some (itO c2 l2):=Qav _ (Qav _ (Qav _ (QaI _ rfl)))
 have g1:(z2 s.heap c1 c2 l1 l2).get? s.heap.objs.size=some (itO c1 l1):=Qav _ (Qav _ (Qav _ (Qav _ (QaI _ rfl))))
 have kp:∀c o,s.heap.get? c=some o->(z2 s.heap c1 c2 l1 l2).get? c=some o:=λc o x=>Qav _ (Qav _ (Qav _ (Qav _ (Qav _ x))))
 have a1:=hl1.lt
 have a2:=hl2.lt
 refine⟨⟨_,g5,rfl⟩,h _ _ _ _ s.heap.objs.size (s.heap.push (itO c1 l1)).objs.size ⟨g5,g3,g4,?_,?_,?_,kp⟩⟩
 ·intro x hx
  rcases QbY.mp hx with rfl | hx
  ·exact hl1.src (λo e=>kp _ _ e) g1
  ·rcases QbY.mp hx with rfl | hx
   ·exact hl2.src (λo e=>kp _ _ e) g2
   ·cases hx
 ·simp only[QbT]
  exact apart2 a1 a2
 ·simp only[QbT,QbY,Qbu,Qcz,forall_eq_or_imp,forall_eq];omega
end
end PySem.ZZ
namespace PySem
namespace F
end F
end PySem
namespace PySem.ZZ
open PySem
section
variable {prog:Program} {w:World} {A:Around} {E:YA} {s:Shared}
structure Run (hb:Heap) (z TI TO:Addr) (ls:List Src) (rows:Nat->YE) (S:Addr) (ts:List Addr) (h:Heap):Prop where
 inc:ts.Pairwise (· < ·)
 lo:∀t∈ts,S < t/\t < h.objs.size
 at_:∀j t,ts[j]?=some t->Di h t (rows j)
 keep:∀c o,hb.get? c=some o->h.get? c=some o
 hTI:Di h TI (ls.map λx=>.ref x.it)
 hTO:∃olds,Di h TO olds/\olds.length=ls.length
 src:∀x∈ls,SrcAt h x ts.length
 hz:(ts=[]/\IsZ h z TI TO .none (.bool false))\/∃(T:Addr) (f1:Value),ts[0]?=some T/\IsZ h z TI TO (rawInt T) f1
structure Below (hb:Heap) (z TI TO:Addr) (ls:List Src) (S:Addr):Prop where
 ap:Apart z TI TO ls
 old:hb.objs.size<=z/\hb.objs.size<=TI/\hb.objs.size<=TO/\∀x∈ls,hb.objs.size<=x.it
 lz:z < S
 lTI:TI < S
 lTO:TO < S
 it:∀x∈ls,x.it < S/\x.a < S
 base:hb.objs.size<=S
theorem Run.frame {hb:Heap} {z TI TO:Addr} {ls:List Src} {rows:Nat->YE} {S:Addr} {ts:List Addr} {h h':Heap} (B:Below hb z TI TO ls S) (r:Run hb z TI TO ls rows S ts h) (hs:h'.objs.size=h.objs.size) (k:∀c o,c≠S->h.get? c=some o->h'.get? c=some o):Run hb z TI TO ls rows S ts h':=by
 obtain⟨olds,o1,o2⟩:=r.hTO
 refine⟨r.inc,λt ht=>by rw[hs];exact r.lo t ht,λj t e=>k _ _ (Qcm (r.lo t (QaD e)).1) (r.at_ j t e),λc o e=>k _ _ (Qcj (QaW (Qch e) B.base)) (r.keep c o e),k _ _ (Qcj B.lTI) r.hTI,⟨olds,k _ _ (Qcj B.lTO) o1,o2⟩,λx hx=>?_,?_⟩
 ·exact (r.src x hx).keep (λo e=>k _ _ (Qcj (B.it x hx).1) e) (λo e=>k _ _ (Qcj (B.it x hx).2) e)
 ·rcases r.hz with⟨e,q⟩|⟨T,f1,e,q⟩
  ·exact .inl ⟨e,k _ _ (Qcj B.lz) q⟩
  ·exact .inr ⟨T,f1,e,k _ _ (Qcj B.lz) q⟩
theorem Run.more {hb:Heap} {z TI TO:Addr} {ls:List Src} {rows:Nat->YE} {S:Addr} {ts:List Addr} {h h':Heap} (B:Below hb z TI TO ls S) (r:Run hb z TI TO ls rows S ts h) (hS:S < h.objs.size) (hs:h'.objs.size=h.objs.size+1) (hr:Rest z TO ls h h')
  (hTI:Di h' TI (ls.map λx=>.ref x.it)) (hTO:∃olds,Di h' TO olds/\olds.length=ls.length) (src:∀x∈ls,SrcAt h' x (ts.length+1)) (new:Di h' h.objs.size (rows ts.length)) (hz:∃(T:Addr) (f1:Value),(ts++[h.objs.size])[0]?=some T/\IsZ h' z TI TO (rawInt T) f1):Run hb z TI TO ls rows S (ts++[h.objs.size]) h':=by
 have fr:∀t,S < t->t≠z/\t≠TO/\t∉ls.map (·.it):=λt ht=>⟨λe=>by rw[e] at ht;exact Nat.lt_asymm ht B.lz,λe=>by rw[e] at ht;exact Nat.lt_asymm ht B.lTO,λe=>by
  obtain⟨x,hx,e'⟩:=Qci.mp e
  rw[<-e'] at ht
  exact Nat.lt_asymm ht (B.it x hx).1⟩
 refine⟨?_,λt ht=>?_,λj t e=>?_,λc o e=>?_,hTI,hTO,λx hx=>by rw[QaQ];exact src x hx,.inr hz⟩
 ·exact List.pairwise_append.mpr ⟨r.inc,Qat _ _,λa ha b hb'=>by
   have:b=h.objs.size:=by simpa using hb'
   rw[this]
   exact (r.lo a ha).2⟩
 ·rw[hs]
  rcases QbD.mp ht with ht | ht
  ·have:=r.lo t ht;exact⟨this.1,Nat.lt_succ_of_lt this.2⟩
  ·have:t=h.objs.size:=by simpa using ht
   rw[this]
   exact⟨hS,Qby _⟩
 ·by_cases c:j < ts.length
  ·rw[List.getElem?_append_left c] at e
   have hlo:=r.lo t (QaD e)
   obtain⟨f1,f2,f3⟩:=fr t hlo.1
   exact hr t _ f1 f2 f3 (r.at_ j t e)
  ·rw[List.getElem?_append_right (Nat.le_of_not_lt c)] at e
   have hj:j - ts.length=0:=by
    have:=(Qah.mp e).1
    rw[QaB] at this
    omega
   rw[hj] at e
   cases e
   have:j=ts.length:=by omega
   rw[this]
   exact new
 ·have hlt:=Qch e
  refine hr c o (λq=>?_) (λq=>?_) (λq=>?_) (r.keep c o e)
  ·rw[q] at hlt;exact absurd hlt (Nat.not_lt.mpr B.old.1)
  ·rw[q] at hlt;exact absurd hlt (Nat.not_lt.mpr B.old.2.2.1)
  ·obtain⟨x,hx,e'⟩:=Qci.mp q
   rw[<-e'] at hlt
   exact absurd hlt (Nat.not_lt.mpr (B.old.2.2.2 x hx))
end
end PySem.ZZ
namespace PySem.ZZ
open PySem
section
variable {prog:Program} {w:World} {A:Around} {E:YA} {s:Shared}
structure Rows (ls:List Src) (n:Nat) (rows:Nat->YE):Prop where
 row:∀j,j < n->(rows j).length=ls.length/\∀(k:Nat) (x:Src),ls[k]?=some x->∃v,(rows j)[k]?=some v/\x.items[j]?=some v
 stop:∃x∈ls,x.items[n]?=none
 ne:ls≠[]
 few:ls.length<=100
 most:n<=1000
end
end PySem.ZZ
namespace L2
open PySem PySem.Spec PyProof.Rows
theorem Gz {h:Heap} {p q:Addr} {o o':Obj} (e:h.get? p=some o) (e':h.get? q=some o') (n:o.cls≠o'.cls):p≠q:=λz=>by
 rw[z,e'] at e
 cases e
 exact n rfl
theorem JV {h:Heap} {a:Addr} {xs ys:Array Value} (h1:h.IsList a xs) (h2:h.IsTuple a ys):False:=by
 obtain⟨o,e,c,_⟩:=h1
 obtain⟨o',e',c',_⟩:=h2
 rw[e'] at e
 cases e
 rw[c'] at c
 injection c with q
 exact absurd q (by decide)
section
variable {X:Cx}
end
mutual
inductive Kd (K:YD) (H:Hp):V->PyData->Prop
 | non:Kd K H .non .none
 | bl (b:Bool):Kd K H (.bl b) (.bool b)
 | int (i:Int):Kd K H (.int i) (.int i)
 | str (x:Str):Kd K H (.str x) (.str x)
 | tup {a:Addr} {xs:YG} {ds:List PyData}:SqT K H a xs->LK K H xs ds->Kd K H (.ref a) (.tuple ds)
inductive LK (K:YD) (H:Hp):YG->List PyData->Prop
 | nil:LK K H [] []
 | cons {x:V} {d:PyData} {xs:YG} {ds:List PyData}:Kd K H x d->LK K H xs ds->LK K H (x::xs) (d::ds)
end
section
variable {X:Cx} {pins:YC} {σ : St} {H:Hp} {s:Shared}
mutual
theorem Kd.reads (I:Inv X pins σ H s):∀{v:V} {d:PyData} {u:Value},Kd X.K H v d->RelV v u->∃as,Reads s.heap u d as
 | _,_,_,.non,r=>by cases (show _=Value.none from r);exact⟨_,.none⟩
 | _,_,_,.bl b,r=>by cases (show _=Value.bool b from r);exact⟨_,.bool b⟩
 | _,_,_,.int i,r=>by obtain⟨t,rfl⟩:=(show ∃t,_=Value.int i t from r);exact⟨_,.int i t⟩
 | _,_,_,.str x,r=>by obtain⟨t,rfl⟩:=(show ∃t,_=Value.str x t from r);exact⟨_,.str x t⟩
 | _,_,_,.tup (a:=a) (xs:=xs) e q,r=>by
  cases (show _=Value.ref a from r)
  obtain⟨its,rv,⟨o,ho,hc,n,hd⟩,_⟩:=I.tuple e
  obtain⟨as,z⟩:=LK.reads I q rv
  exact⟨_,.tuple ho hc hd (by simpa using z)⟩
theorem LK.reads (I:Inv X pins σ H s):∀{xs:YG} {ds:List PyData} {us:YE},LK X.K H xs ds->Vals xs us->∃as,ReadsAll s.heap us ds as
 | _,_,_,.nil,.nil=>⟨_,.nil⟩
 | _,_,_,.cons p q,.cons r t=>by
  obtain⟨as,a1⟩:=Kd.reads I p r
  obtain⟨bs,b1⟩:=LK.reads I q t
  exact⟨_,.cons a1 b1⟩
end
end
section
variable {X:Cx} {K:YD}
theorem lC (h:X.K=K) (hu:X.A.units+64 < cLine):OpR X (compareOp .Eq) (λx y H Q=>∃d e,Kd K H x d/\Kd K H y e/\SeqAt.shaped d=true/\SeqAt.shaped e=true/\Q (.bl (PyData.eqv d e)) H):=by
 subst h
 intro pins s σ H x y v u Q I rx ry h
 obtain⟨d,e,p,p',sd,se,q⟩:=h
 obtain⟨as,r1⟩:=p.reads I rx
 obtain⟨bs,r2⟩:=p'.reads I ry
 exact eq_dataH r1 r2 sd se hu ⟨.bl (PyData.eqv d e),H,I,rfl,q⟩
theorem Hl {es:YJ} {k:Nat} {pos:Pos} {t:TGs} {n:Nat} (hK:X.K=K) (hc:X.calm=true) (h:PGs X es t)
  (hn:(assignEach es X.env).length=n:=by rfl) (hst:(assignEach es X.env).findIdx? (·.1)=none:=by rfl):PG X (.Tuple es k pos) (A6 K n t):=hK ▸ CP hc h hn hst
end
end L2
namespace L2
open PySem PySem.Spec PyProof.Rows
abbrev uW:YE:=[.type "ValueError",.type "Exception",.type "BaseException",.type "object"]
structure XCl (K:YD) (C:Addr):Prop where
 ex:excIn K C uW "ValueError.__new__"=true
 ga:findIn K (.ref C) "__getattribute__"=some (some (.builtin "BaseException.__getattribute__"))
 gn:findIn K (.ref C) "__getattr__"=some none
 ca:findIn K (.ref C) "__class__"=some (some (.builtin "object.__class__"))
 mo:subIn K (.ref C) (.type "object")=some true
 mb:subIn K (.ref C) (.type "BaseException")=some true
 kp:keepIn K (.ref C)=true
section
variable {K:YD} {C:Addr}
theorem XCl.look (T:XCl K C):∃dd cd sl,K.lookup C=some ⟨.type "type",dd,.cls cd,sl⟩:=by
 have q:=T.ex
 unfold excIn at q
 split at q
 ·rename_i dd cd sl ho
  exact⟨dd,cd,sl,ho⟩
 ·cases q
theorem XCl.obj (T:XCl K C) {h:Heap} (X:K.In h):∃bm N nm q bs hdct sn sub ab col dd k0 k1 k2 k3 k5 mN,h.get? C=some (excClassObj nm q C N bs bm hdct sn sub ab col dd k0 k1 k2 k3 k5 "ValueError.__new__")/\h.Ns N mN/\mN "__init__"=none/\OwnTail h uW bm:=by
 have q:=T.ex
 unfold excIn at q
 split at q
 ·rename_i dd cd sl ho
  split at q
  ·rename_i C' bm k0 k1 k2 k3 n k5 hm hs
   simp only[Qbw,beq_iff_eq,Bool.not_eq_true'] at q
   obtain⟨⟨⟨⟨⟨rfl,rfl⟩,hdel⟩,ht⟩,hok⟩,hni⟩:=q
   obtain⟨nm,bs,mro,ns,qn,hd,sn,sub,ab,col,del⟩:=cd
   dsimp only at hm hdel hok hni
   subst hm hdel
   have hsl:sl=#[k0,k1,k2,k3,some (.builtin "ValueError.__new__"),k5]:=by
    obtain⟨l⟩:=sl
    simp only at hs
    rw[hs]
   subst hsl
   exact⟨bm,ns,nm,qn,bs,hd,sn,sub,ab,col,dd,k0,k1,k2,k3,k5,_,X _ _ ho,.of_isNs (PySem.W.isNs_of_in X hok),PySem.W.nsMap_none_of_in X hok hni,PySem.W.tail_of_in X ht⟩
  ·cases q
 ·cases q
end
def XAt (a C:Addr) (h:Heap):Prop:=∃o vs,h.get? a=some o/\o.cls=.ref C/\o.data=.fields vs/\vs[2]?=some .none
section
variable {prog:Program} {w:World} {A:Around} {E:YA} {h:Heap} {g:Array GenState} {d:Drawn} {t:Nat} {os:OsState} {K:YD} {a C:Addr} {o:Obj}
theorem fj {R:Result->Shared->Prop} (X:K.In h) (T:XCl K C) (hx:h.get? a=some o) (hc:o.cls=.ref C) (hq:R (.ok (.ret (.ref C))) ⟨h,g,d,t,os⟩) :
  codeAny (model prog w) A (.call (.builtin "getset_descriptor.__get__") ⟨[.builtin "object.__class__",.ref a,.ref C],[]⟩) R ⟨h,g,d,t,os⟩:=by
 have hT5:(⟨h,g,d,t,os⟩ : Shared).TypeIs (.builtin "object.__class__") "getset_descriptor":=F.typeOf_object_class
 have f8:PySem.W.Looks (model prog w) h (isSubtype (.ref C) (.type (".".intercalate ("object.__class__".cutAt '.').dropLast))) true:=by
  rw[F.owner_object_class];exact looks_subIn X T.mo
 refine codeAny_call_builtin F.slot_gs_get.plain F.entry_gs_get (F.slot_gs_get.check _ _ _ _ _ _ _ _ hT5 (F.args_gs_get _ _ _) ?_)
 repeat (any_goals (first | assumption | (with_reducible refine Qbq hx ?_;rw[hc]) | with_reducible refine f8.at ?_ | wp_step))
 refine⟨Code.quiet_builtin _ (by trivial),codeAny_builtin F.entry_object_class ?_⟩
 repeat (any_goals (first | assumption | (with_reducible refine Qbq hx ?_;rw[hc]) | wp_step))
theorem XJ {tk:Tok} {Q:Fin->Shared->Prop} (X:K.In h) (T:XCl K C) (hx:h.get? a=some o) (hc:o.cls=.ref C) (hq:Q (.done (.ret (.ref C))) ⟨h,g,d,t,os⟩) :
  wpAny (model prog w) A (Builtin.«object.__getattribute__» ⟨[.ref a,.str "__class__" tk],[]⟩) Q E ⟨h,g,d,t,os⟩:=by
 have hT5:(⟨h,g,d,t,os⟩ : Shared).TypeIs (.builtin "object.__class__") "getset_descriptor":=F.typeOf_object_class
 have f4:=looks_findIn (M:=model prog w) X T.ca
 have f5:=F.typeOf_object_class
 have f6:=F.slot_gs_get.lookup
 have f7:=F.slot_gs_set.lookup
 repeat (any_goals (first | assumption | (with_reducible refine Qbq hx ?_;rw[hc]) | with_reducible refine f4.at ?_ | wp_step))
 refine fj X T hx hc ?_
 repeat (any_goals (first | assumption | wp_step))
theorem jB {M:Model} {nameV:Value} {Q:YH} (X:K.In h) (T:XCl K C) (hx:h.get? a=some o) (hc:o.cls=.ref C) (hq:Q () ⟨h,g,d,t,os⟩) :
  wpAny M A (checkBuiltinCall "BaseException.__getattribute__" ⟨[.ref a,nameV],[]⟩) Q E ⟨h,g,d,t,os⟩:=by
 have hk:builtinKind "BaseException.__getattribute__"=some .slot:=by trivial
 have hsplit:splitId "BaseException.__getattribute__"=some ("BaseException","__getattribute__"):=by trivial
 have f1:=looks_subIn (M:=M) X T.mb
 have ha:=F.args_bexc_ga (.ref a) nameV
 simp only[checkBuiltinCall,hk,hsplit]
 refine Qcv ?_
 ·unfold isInstance
  repeat (first | (with_reducible refine Qbq hx ?_;rw[hc]) | with_reducible refine f1.at ?_ | wp_step)
  exact hq
theorem aV {tk:Tok} {R:Result->Shared->Prop} (X:K.In h) (T:XCl K C) (hx:h.get? a=some o) (hc:o.cls=.ref C) (hq:R (.ok (.ret (.ref C))) ⟨h,g,d,t,os⟩) :
  codeAny (model prog w) A (.call (.builtin "BaseException.__getattribute__") ⟨[.ref a,.str "__class__" tk],[]⟩) R ⟨h,g,d,t,os⟩:=
 codeAny_call_builtin F.attr_ValueError.ga.plain F.entry_bexc_ga (jB X T hx hc (XJ X T hx hc hq))
theorem jA {tk:Tok} {fill expr:Bool} {Q:YA} (X:K.In h) (T:XCl K C) (hx:h.get? a=some o) (hc:o.cls=.ref C) (hq:Q (.ref C) ⟨h,g,d,t,os⟩) :
  wpAny (model prog w) A (getAttrBy (.ref a) (.str "__class__" tk) fill expr) Q E ⟨h,g,d,t,os⟩:=by
 have f1:=looks_findIn (M:=model prog w) X T.ga
 have f2:=looks_findIn (M:=model prog w) X T.gn
 have f3:=F.attr_ValueError.ga.bind (.ref a)
 have hx0:(expr&&onTheHeap (Value.builtin "BaseException.__getattribute__"))=false:=by cases expr <;> rfl
 have hx2:(Value.builtin "BaseException.__getattribute__" == Value.builtin "object.__getattribute__")=false:=by trivial
 have hx1:(onTheHeap (Value.ref C)&&Value.builtin "BaseException.__getattribute__" == Value.builtin "object.__getattribute__")=false:=by rw[hx2];rfl
 repeat (any_goals (first | assumption | (with_reducible refine Qbq hx ?_;rw[hc]) | with_reducible refine f1.at ?_ | with_reducible refine f2.at ?_ | wp_step))
 refine aV X T hx hc ?_
 repeat (any_goals (first | assumption | wp_step))
theorem aW {Q:Option Value->Shared->Prop} (X:K.In h) (T:XCl K C) (hx:h.get? a=some o) (hc:o.cls=.ref C) (hq:Q (some (.ref C)) ⟨h,g,d,t+1,os⟩):wpAny (model prog w) A (getAttr? (.ref a) "__class__") Q E ⟨h,g,d,t,os⟩:=by
 unfold getAttr? getAttrBy?
 repeat (any_goals (first | assumption | with_reducible apply jA X T hx hc | wp_step))
end
theorem qU {K:YD} {a C:Addr} (T:XCl K C):PySem.W.KitX K (.ref a) (.ref C) (XAt a C) where
 ty:=λM h X p=>by
  obtain⟨o,vs,h1,h2,_⟩:=p
  exact h2 ▸ (PySem.W.Looks.ld h1).andThen .now
 it:=λ_ _ X _=>by
  obtain⟨dd,cd,sl,ho⟩:=T.look
  intro A' Q' E' s' k q
  unfold isType loadHead
  exact Qcv (wpAny_loadPart (k _ _ (X _ _ ho)) (Qcw q))
 ne:=λh tp dd its n sl X htp=>by
  obtain⟨_,cd,_,ho⟩:=T.look
  refine Bool.eq_false_iff.mpr λq=>?_
  have e:C=tp:=Value.ref.inj (beq_iff_eq.mp q)
  subst e
  have z:=congrArg Obj.data (QbH ((X _ _ ho).symm.trans htp))
  cases z
 ca:=λ{_ _ _ _ _ s} X p k=>by
  obtain⟨h,g,d,t,os⟩:=s
  obtain⟨o,vs,h1,h2,_⟩:=p
  exact aW X T h1 h2 k
def xo (a C:Addr):HO:=.ext (XAt a C)
section
variable {X:Cx} {pins:YC} {σ : St} {H:Hp} {s:Shared}
theorem BT {a C:Addr} (I:Inv X pins σ H s) (e:H a=some (xo a C)):XAt a C s.heap:=(show Bt X.prog X.w H s.heap a (xo a C) from I.hok a _ e).1
theorem U3 {A:Around} {E:YA} {Q:YA} {a C:Addr} {c:Value} {b:Bool} (I:Inv X pins σ H s) (T:XCl X.K C) (e:H a=some (xo a C)) (k:kitOne X.K (.ref C) c=some b) (h:∀tk,Q (.bool b) { s with toks:=tk }) :
  wpAny (model X.prog X.w) A (call (.builtin "isinstance") [.ref a,c]) Q E s:=
 kia_one (qU T) I.kIn (BT I e) k (λz=>nomatch z) h
end
def XT (B:Heap) (e C:Addr) (fl:Option Value) (h:Heap):Prop:=
 ∃oe vs,h.get? e=some oe/\oe.cls=.ref C/\oe.data=.fields vs/\vs[2]?=some .none /\
  match fl with
  | none=>vs[1]?=some .none
  | some f=>∃T oT ts,vs[1]?=some (.ref T)/\B.get? T=none/\T≠e/\h.get? T=some oT/\oT.data=.fields ts/\ts[3]?=some f
structure Fl (B:Heap) (l:List Env) (e C:Addr) (fl:Option Value) (h:Heap):Prop where
 stays:B.StaysIn h
 new:B.get? e=none
 fr:h.FunFrames B l
 tr:XT B e C fl h
theorem XT.at {B h:Heap} {e C:Addr} {fl:Option Value} (x:XT B e C fl h):XAt e C h:=by
 obtain⟨oe,vs,h1,h2,h3,h4,_⟩:=x
 exact⟨oe,vs,h1,h2,h3,h4⟩
section
variable {M:Model} {A:Around} {E:YA} {s:Shared} {B:Heap} {env:Env} {outer l:List Env} {L e C:Addr} {Q:YH}
theorem Z0 {oe:Obj} {vs:Array Value} {head:Value} {hadNext:Bool} (hfr:A.frames=some (env::outer)) (hf:env.frame=some L) (st:B.StaysIn s.heap) (new:B.get? e=none) (fr:s.heap.FunFrames B (env::outer))
  (he:s.heap.get? e=some oe) (hc:oe.cls=.ref C) (hd:oe.data=.fields vs) (h2:vs[2]?=some .none) (hq:∀h',Fl B (env::outer) e C (some (rawInt L)) h'->s.heap.UpToSlots h'->Q () { s with heap:=h' }) :
  wpAny M A (do let fo <-frameOf env;let pl <-entryPlaceOf L hadNext;let tb <-EntryCells.newEntry head fo .none (rawInt L) .none pl;setField (.ref e) 1 tb) Q E s:=by
 have hsz:2 < vs.size:=(Qaf.mp h2).1
 have nf:e∉(env::outer).filterMap (·.frame):=λhm=>by
  obtain⟨_,of,hof,nof⟩:=fr.mem hm
  rw[he] at hof
  cases hof
  exact nof vs hd
 refine Qcv (wpAny_frameOf_fun hfr fr hf λhA sA=>?_)
 refine Qcv (wpAny_entryPlaceOf λpl ipl=>?_)
 unfold EntryCells.newEntry newFields
 refine Qcv (Qbn ?_ (ipl.sizeOk5 _ _ _ _ _))
 have eA:hA.get? e=some oe:=(sA.2.1 e nf).trans he
 have stA:B.StaysIn hA:=λb o q=>(sA.2.1 b λhm=>by rw[(fr.mem hm).1] at q;cases q).trans (st b o q)
 have key:∀(ob:Obj) (ts:Array Value),ob.data=.fields ts->ob.isFreed=false->ts[3]?=some (rawInt L)->wpAny M A (setField (.ref e) 1 (.ref hA.objs.size)) Q E { s with heap:=hA.push ob }:=λob ts dT nfr iT=>by
  have eP:=Qav (h:=hA) ob eA
  refine wpAny_setField eP hd (by omega) (hq _ ?_ ?_)
  ·have hTe:hA.objs.size≠e:=Qcm (Qch eA)
   have dN:=Obj.data_mapFields hd (·.setIfInBounds 1 (Value.ref hA.objs.size))
   have eN:=QaC (Obj.mapFields (·.setIfInBounds 1 (Value.ref hA.objs.size))) eP (Obj.isFreed_of_fields dN)
   have keep:∀b o,b≠e->hA.get? b=some o->((hA.push ob).update e (Obj.mapFields (·.setIfInBounds 1 (Value.ref hA.objs.size)))).get? b=some o:=λb o hb q=>by
    rw[Qax _ _ (Ne.symm hb)]
    exact Qav _ q
   refine⟨λb o q=>keep b o (λz=>by rw[z,new] at q;cases q) (stA b o q),new,fr.of_keeps λb o q nb=>?_,⟨_,_,eN,(Obj.cls_mapFields _ _).trans hc,dN,?_,hA.objs.size,ob,ts,?_,stA.fresh,hTe,?_,dT,iT⟩⟩
   ·obtain⟨sl,q'⟩:=sA.2.2 b o q
    exact⟨_,keep b _ (λz=>by rw[z,he] at q;cases q;exact nb vs hd) q',rfl⟩
   ·rw[Array.getElem?_setIfInBounds_ne (by decide)]
    exact h2
   ·simp[show 1 < vs.size by omega]
   ·rw[Qax _ _ (Ne.symm hTe)]
    exact QaI hA nfr
  ·intro b o q nb
   obtain⟨sl,q'⟩:=sA.2.2 b o q
   refine⟨sl,?_⟩
   rw[Qax _ _ (λz=>by rw[<-z,he] at q;cases q;exact nb vs hd)]
   exact Qav _ q'
 refine key _ _ rfl rfl ?_
 first | (simp;done) | (rcases ipl with rfl |⟨_,_,_,_,_,_,_,rfl⟩ <;> simp)
theorem d8 {fl:Option Value} (hfl:fl=none\/fl=some .none) (hfr:A.frames=some (env::outer)) (hf:env.frame=some L) (x:Fl B (env::outer) e C fl s.heap)
  (hq:∀h',Fl B (env::outer) e C (some (rawInt L)) h'->s.heap.UpToSlots h'->Q () { s with heap:=h' }):wpAny M A (noteFrame (.ref e) env) Q E s:=by
 obtain⟨st,new,fr,oe,vs,he,hc,hd,h2,ht⟩:=x
 unfold noteFrame
 simp only[hf]
 rcases hfl with rfl | rfl
 ·refine Qcv (Qct he hd (show vs[1]?=some .none from ht) ?_)
  rw[if_neg (by decide)]
  exact Z0 hfr hf st new fr he hc hd h2 hq
 ·obtain⟨T,oT,ts,h1,nT,hTe,hT,dT,iT⟩:=ht
  refine Qcv (Qct he hd h1 ?_)
  rw[if_pos (show (Value.ref T != Value.none)=true from by simp)]
  refine Qcv (Qct hT dT iT ?_)
  rw[if_neg (show ¬((Value.none == rawInt L)=true) from by simp[rawInt])]
  refine Qcv (wpAny_setField hT dT (Qaf.mp iT).1 ?_)
  have oth:∀b o,b≠T->s.heap.get? b=some o->(s.heap.update T (Obj.mapFields (·.setIfInBounds 3 Value.none))).get? b=some o:=λb o hb q=>(Qax _ _ (Ne.symm hb)).trans q
  have Zq:∀b o,s.heap.get? b=some o->(∀ws,o.data≠.fields ws)->b≠T:=λb o q nb z=>by rw[z,hT] at q;cases q;exact nb ts dT
  refine Z0 (s:={ s with heap:=s.heap.update T (Obj.mapFields (·.setIfInBounds 3 Value.none)) }) hfr hf (λb o q=>oth b o (λz=>by rw[z,nT] at q;cases q) (st b o q)) new
   (fr.of_keeps λb o q nb=>⟨o,oth b o (Zq b o q nb) q,rfl⟩) (oth e oe (Ne.symm hTe) he) hc hd h2 λh' y u=>hq h' y ?_
  exact λb o q nb=>u b o (oth b o (Zq b o q nb) q) nb
theorem ZW {f:Value} (x:Fl B l e C (some f) s.heap) (hq:∀h',Fl B l e C (some .none) h'->s.heap.UpToSlots h'->Q () { s with heap:=h' }):wpAny M A (setFlight (.ref e) none) Q E s:=by
 obtain⟨st,new,fr,oe,vs,he,hc,hd,h2,T,oT,ts,h1,nT,hTe,hT,dT,iT⟩:=x
 have hsz:3 < ts.size:=(Qaf.mp iT).1
 have oth:∀b o,b≠T->s.heap.get? b=some o->(s.heap.update T (Obj.mapFields (·.setIfInBounds 3 Value.none))).get? b=some o:=λb o hb q=>(Qax _ _ (Ne.symm hb)).trans q
 have Zq:∀b o,s.heap.get? b=some o->(∀ws,o.data≠.fields ws)->b≠T:=λb o q nb z=>by rw[z,hT] at q;cases q;exact nb ts dT
 unfold setFlight
 refine Qcv (Qct he hd h1 ?_)
 rw[if_pos (show (Value.ref T != Value.none)=true from by simp)]
 refine wpAny_setField hT dT hsz (hq (s.heap.update T (Obj.mapFields (·.setIfInBounds 3 Value.none))) ⟨λb o q=>oth b o (λz=>by rw[z,nT] at q;cases q) (st b o q),new,fr.of_keeps λb o q nb=>⟨o,oth b o (Zq b o q nb) q,rfl⟩,?_⟩
  λb o q nb=>⟨o.slots,oth b o (Zq b o q nb) q⟩)
 have dN:=Obj.data_mapFields dT (·.setIfInBounds 3 Value.none)
 exact⟨oe,vs,oth e oe (Ne.symm hTe) he,hc,hd,h2,T,_,_,h1,nT,hTe,QaC _ hT (Obj.isFreed_of_fields dN),dN,by simp[hsz]⟩
theorem uE {fl:Option Value} (hfl:fl=none\/fl=some .none) (hfr:A.frames=some (env::outer)) (hf:env.frame=some L) (x:Fl B (env::outer) e C fl s.heap)
  (hq:∀h',Fl B outer e C (some .none) h'->s.heap.UpToSlots h'->Q () { s with heap:=h' }):wpAny M A (leaving env (.ref e)) Q E s:=by
 unfold leaving
 refine Qcv (d8 hfl hfr hf x λh1 y u1=>?_)
 refine ZW y λh2 z u2=>hq h2 ⟨z.stays,z.new,z.fr.2.2,z.tr⟩ (u1.trans u2)
end
theorem Bt.there {P:Program} {w:World} {H:Hp} {h:Heap} {a:Addr} {o:HO} (x:Bt P w H h a o):∃u,h.get? a=some u:=by
 cases o with
 | lst xs=>obtain⟨_,its,n,_,q⟩:=x;exact⟨_,q⟩
 | tup xs=>obtain⟨_,its,_,ob,q,_⟩:=x;exact⟨_,q⟩
 | dK kvs=>obtain⟨_,_,vs,_,ob,es,ep,q,_⟩:=x;exact⟨_,q⟩
 | dT kvs=>obtain⟨_,_,xs,_,ob,es,ep,q,_⟩:=x;exact⟨_,q⟩
 | set S n=>obtain⟨ob,es,ep,t,q,_⟩:=x;exact⟨_,q⟩
 | ins C dx fs=>obtain⟨_,_,_,q,_⟩:=x;exact⟨_,q⟩
 | own y=>exact x
 | xd fs=>obtain⟨mA,⟨od,es,ep,q,_⟩,_⟩:=x;exact⟨_,q⟩
 | rng lo hi=>obtain⟨t,u,v,q⟩:=x;exact⟨_,q⟩
 | frz ob u=>exact⟨_,x.1⟩
 | tbl ps=>exact⟨_,x⟩
 | met f y=>exact⟨_,x⟩
 | ext φ=>exact x.2.1
structure Exc (P:Program) (w:World) (outer:List Env) (H:Hp) (s:Shared) (e C:Addr) (B:Heap) (H':Hp) (s':Shared):Prop where
 os:s'.os=s.os
 bare:AllBare s'.gens
 fl:∃fl,(fl=none\/fl=some .none)/\Fl B outer e C fl s'.heap
 un:Un (frs outer) [] H H' s.heap s'.heap
 hok:HOk P w H' s'.heap
 tin:∀b o,s'.heap.get? b=some o->H' b≠none->B.get? b=some o
 old:∀b o,s.heap.get? b=some o->H b=none->b∉frs outer->B.get? b=some o
 ex:∀b o,s.heap.get? b=some o->b∉frs outer->∃o',B.get? b=some o'
def CX1 (P:Program) (w:World):CXT:=λouter H s E ev s'=>∃e C B H',ev=.ref e/\Exc P w outer H s e C B H' s'/\E (.ref C) none H'
section
variable {P:Program} {w:World} {outer:List Env} {H H':Hp} {s s':Shared} {e C:Addr} {B h2:Heap} {fl:Option Value}
theorem Exc.vI (x:Exc P w outer H s e C B H' s') (st:B.StaysIn h2):HOk P w H' h2:=λa o q=>
 (x.hok a o q).stay (λb u hb hu=>st b u (x.tin b u hu (by
  rcases hb with rfl | hb
  ·rw[q];exact λz=>nomatch z
  ·rw[hb];exact λz=>nomatch z))) (λ_ z=>z) λ_ _ z=>z
theorem Exc.DJ (x:Exc P w outer H s e C B H' s') (f:Fl B outer e C fl h2) (u:s'.heap.UpToSlots h2):Un (frs outer) [] H H' s.heap h2:=by
 refine⟨λb o q n hb _=>f.stays b o (x.old b o q n hb),λb o q n hb hx=>?_,x.un.free,λb o q hx=>?_,x.un.tups,x.un.GQ,x.un.Ht⟩
 ·obtain⟨sl,q1⟩:=x.un.slot b o q n hb hx
  obtain⟨_,_,g⟩:=x.fl
  obtain⟨_,o1,q2,nf⟩:=g.fr.mem hb
  rw[q1] at q2
  cases q2
  obtain⟨sl2,q3⟩:=u b _ q1 nf
  exact⟨sl2,q3⟩
 ·by_cases hb:b∈frs outer
  ·obtain⟨_,o1,q2,_⟩:=f.fr.mem hb
   exact⟨o1,q2⟩
  ·obtain⟨o1,q1⟩:=x.ex b o q hb
   exact⟨o1,f.stays b o1 q1⟩
theorem Exc.BU (x:Exc P w outer H s e C B H' s') (st:B.StaysIn h2):∀b o,h2.get? b=some o->H' b≠none->B.get? b=some o:=λb o q hb=>by
 cases hq:H' b with
 | none=>exact absurd hq hb
 | some v=>
  obtain⟨o1,q1⟩:=(x.hok b v hq).there
  have q2:=x.tin b o1 q1 hb
  have q3:=st b o1 q2
  rw[q] at q3
  cases q3
  exact q2
theorem Exc.free (x:Exc P w outer H s e C B H' s'):H' e=none:=by
 cases hq:H' e with
 | none=>rfl
 | some v=>
  obtain⟨o1,q1⟩:=(x.hok e v hq).there
  have q2:=x.tin e o1 q1 (by rw[hq];exact λz=>nomatch z)
  obtain⟨_,_,g⟩:=x.fl
  rw[g.new] at q2
  cases q2
theorem Exc.fresh (x:Exc P w outer H s e C B H' s'):s.heap.get? e=none:=by
 cases hq:s.heap.get? e with
 | none=>rfl
 | some o=>
  obtain⟨_,_,g⟩:=x.fl
  by_cases hb:e∈frs outer
  ·obtain⟨_,o1,q1,nf⟩:=g.fr.mem hb
   obtain⟨oe,vs,q2,_,q3,_⟩:=g.tr
   rw[q1] at q2
   cases q2
   exact absurd q3 (nf vs)
  ·obtain⟨o1,q1⟩:=x.ex e o hq hb
   rw[g.new] at q1
   cases q1
end
section
variable {X:Cx} {pins:YC} {σ : St} {H H':Hp} {s s':Shared} {e C:Addr} {B h2:Heap} {fl:Option Value}
theorem Exc.made {args:YE} {h':Heap} (I:Inv X pins σ H s) (hx:Heap.MadeExcOf s.heap h' e (.ref C) args):Exc X.prog X.w X.stack H s e C (hideAll s.heap (frs X.stack)) H { s with heap:=h' }:=by
 have st:(hideAll s.heap (frs X.stack)).StaysIn s.heap:=λb o q=>PySem.W.of_hideAll _ q
 refine⟨rfl,I.bare,⟨none,.inl rfl,⟨λb o q=>hx.keeps b o (st b o q),?_,?_,?_⟩⟩,Un.kept hx.keeps,I.hok.kept hx.keeps,λb o q hb=>?_,λb o q n hb=>hideAll_get _ q hb,λb o q hb=>⟨o,hideAll_get _ q hb⟩⟩
 ·cases hq:(hideAll s.heap (frs X.stack)).get? e with
  | none=>rfl
  | some o=>
   have q:=st e o hq
   rw[hx.new] at q
   cases q
 ·have f0:s.heap.FunFrames (hideAll s.heap (frs X.stack)) X.stack:=PySem.W.funFrames_hide I.stack λenv he a ha=>List.mem_filterMap.mpr ⟨env,he,ha⟩
  exact f0.of_keeps λb o q _=>⟨o,hx.keeps b o q,rfl⟩
 ·obtain⟨t,q,_⟩:=hx.there
  exact⟨_,_,q,rfl,rfl,rfl,rfl⟩
 ·cases hq:H b with
  | none=>exact absurd hq hb
  | some v=>
   obtain⟨o1,q1⟩:=(I.hok b v hq).there
   have q2:=hx.keeps b o1 q1
   have q':h'.get? b=some o:=q
   rw[q'] at q2
   cases q2
   refine hideAll_get _ q1 λhm=>?_
   rw[I.Vl b hm] at hq
   cases hq
theorem Exc.leave {M:Model} {E1:YA} {Q:YH} (I:Inv X pins σ H s) (hs:X.stack=X.env::X.outer) (hf:X.env.frame=some X.env.locals) (hx:X.ex=[]) (x:Exc X.prog X.w X.stack H s e C B H' s')
  (hq:∀h2,Exc X.prog X.w X.outer X.H₀ X.s₀ e C B H' { s' with heap:=h2 }->Q () { s' with heap:=h2 }):wpAny M X.A (leaving X.env (.ref e)) Q E1 s':=by
 obtain⟨fl,hfl,f⟩:=x.fl
 have f':=f
 rw[hs] at f'
 have nl:∀b o,X.s₀.heap.get? b=some o->b≠X.env.locals:=λb o q=>Qcj (QaW (Qch q) I.ok.above)
 have ns:∀b o,X.s₀.heap.get? b=some o->b∉X.fs->b∉frs X.stack:=λb o q hb hm=>(QbY.mp (I.Ue b hm)).elim (nl b o q) hb
 have A7:∀b,b∈X.fs->b∈frs X.stack:=λb hb=>by
  rw[hs]
  unfold frs
  rw[List.filterMap_cons,hf]
  exact QaE _ hb
 have nx:∀b:Addr,b∉X.ex:=λb=>by rw[hx];simp
 refine uE hfl (I.ok.frames.trans (congrArg some hs)) hf f' λh2 g u=>hq h2 ⟨x.os.trans I.os,x.bare,⟨_,.inr rfl,g⟩,?_,x.vI g.stays,x.BU g.stays,λb o q n hb=>?_,λb o q hb=>?_⟩
 ·refine⟨λb o q n hb _=>?_,λb o q n hb _=>?_,λb o q n _=>?_,λb o q _=>?_,λb xs q=>x.un.tups b xs (I.base.tups b xs q),λb o v q=>x.un.GQ b o v (I.base.GQ b o v q),λb ps q=>?_⟩
  ·exact g.stays b o (x.old b o (I.base.keep b o q n hb (nx b)) (I.base.free b o q n (nx b)) (ns b o q hb))
  ·obtain⟨sl,q1⟩:=I.base.slot b o q n hb (nx b)
   obtain⟨sl2,q2⟩:=x.un.slot b _ q1 (I.base.free b o q n (nx b)) (A7 b hb) (by simp)
   obtain⟨_,o1,q3,nf⟩:=f.fr.mem (A7 b hb)
   rw[q2] at q3
   cases q3
   obtain⟨sl3,q4⟩:=u b _ q2 nf
   exact⟨sl3,q4⟩
  ·obtain⟨o1,q1⟩:=I.base.there b o q (nx b)
   exact x.un.free b o1 q1 (I.base.free b o q n (nx b)) (by simp)
  ·by_cases hb:b∈X.fs
   ·obtain⟨_,o1,q1,_⟩:=g.fr.mem hb
    exact⟨o1,q1⟩
   ·obtain⟨o1,q1⟩:=I.base.there b o q (nx b)
    obtain⟨o2,q2⟩:=x.ex b o1 q1 (ns b o q hb)
    exact⟨o2,g.stays b o2 q2⟩
  ·obtain⟨m1,q1⟩:=I.base.Ht b ps q
   obtain⟨m2,q2⟩:=x.un.Ht b _ q1
   exact⟨m1++m2,by rw[q2,Array.append_assoc]⟩
 ·exact x.old b o (I.base.keep b o q n hb (nx b)) (I.base.free b o q n (nx b)) (ns b o q hb)
 ·obtain⟨o1,q1⟩:=I.base.there b o q (nx b)
  exact x.ex b o1 q1 (ns b o q hb)
theorem Exc.caught (I:Inv X pins σ H s) (x:Exc X.prog X.w X.stack H s e C B H' s') (f:Fl B X.stack e C fl h2) (u:s'.heap.UpToSlots h2):Inv X pins σ (upd H' e (xo e C)) { s' with heap:=h2 }:=by
 have v:=x.DJ f u
 have he:=x.fresh
 have hn:=x.free
 have ne:∀b o,s.heap.get? b=some o->b≠e:=λb o q z=>by rw[z,he] at q;cases q
 have un:Un (frs X.stack) [] H (upd H' e (xo e C)) s.heap h2:=⟨v.keep,v.slot,λb o q n hx=>by rw[Al (ne b o q)];exact v.free b o q n hx,v.there,λb xs q=>by rw[Al (Ax (v.tups b xs q) hn)];exact v.tups b xs q,
  λb o w q=>by rw[Al (Ax (v.GQ b o w q) hn)];exact v.GQ b o w q,λb ps q=>by
   obtain⟨m,q1⟩:=v.Ht b ps q
   exact⟨m,by rw[Al (Ax q1 hn)];exact q1⟩⟩
 have hok:HOk X.prog X.w (upd H' e (xo e C)) h2:=λb o q=>by
  by_cases hb:b=e
  ·subst hb
   rw[Ac] at q
   cases q
   have at_:=f.tr.at
   refine⟨at_,?_,λh1 h3 p k=>?_⟩
   ·obtain⟨oe,vs,q1,_⟩:=at_
    exact⟨oe,q1⟩
   ·obtain⟨oe,vs,q1,q2⟩:=p
    exact⟨oe,vs,k oe q1,q2⟩
  ·rw[Al hb] at q
   exact (x.vI f.stays b o q).stay (λc w _ q1=>q1) (λc q1=>by rw[Al (Ax q1 hn)];exact q1) λc xs q1=>by rw[Al (Ax q1 hn)];exact q1
 exact I.call' (s':={ s' with heap:=h2 }) x.os un hok x.bare λb z=>absurd z (by simp)
end
def Qm (X:Cx) (EX:St->XK):Prop:=∀(pins:YC) (σ : St) (H:Hp) (s:Shared) (ev:Value) (s':Shared),Inv X pins σ H s->CX1 X.prog X.w X.stack H s (EX σ) ev s'->X.xe ev s'
theorem Uq {X:Cx}:Qm X (λ_=>E0):=λ_ _ _ _ _ _ _ h=>by
 obtain⟨_,_,_,_,_,_,z⟩:=h
 exact z.elim
theorem qe {P:Program} {w:World} {K:YD} {mg:YB} {base:Heap} {N:YF} {qual:Str} {scope:Scope} {f:Addr} {cd:Value} {A:Around} {outer:List Env} {s:Shared} {H:Hp} {E:XK} :
  Qm (Lh (CX1 P w) P w K mg base N qual scope f cd A outer s H E) (λ_=>E):=λpins σ H1 s1 ev s' I h=>by
 obtain⟨e,C,B,H',rfl,x,q⟩:=h
 exact x.leave I rfl rfl rfl λh2 y=>⟨e,C,B,H',rfl,y,q⟩
def yS (C:Addr) (EX:St->XK) (t:TA):TS:=λ_ σ H=>t σ H λvs H1=>vs.length<=sizeLine/\EX σ (.ref C) none H1
theorem Y5 {X:Cx} {EX:St->XK} {C:Addr} {x:Str} {np cpos pos:Pos} {e:Expr} {es:YJ} {t:TA} (hc:X.calm=true) (T:XCl X.K C) (hg:Gl X x) (hm:X.mg x=some (.ref C)) (hx:Qm X EX) (ha:PA X (e::es) t)
  (hdb:(x == ("__debug__":Str))=false:=by decide) (he:starEach (e::es) X.env=(false,eval e X.env)::starEach es X.env:=by rfl) (hpl:(backTo cpos (starEach es X.env)).any (·.1)=false:=by rfl) :
  PS X (.Raise (some (.Call (.Name x np) (e::es) [] cpos)) none pos) (yS C EX t):=by
 intro pins s σ H D I h
 obtain⟨bm,N,nm,q,bs,hdct,sn,sub,ab,col,dd,k0,k1,k2,k3,k5,mN,hC,hN,hni,TL⟩:=T.obj I.mod.kin
 refine wpAny_Raise_call_subT F.excBase_ValueError (bm:=bm) (nm:=nm) (C:=C) (q:=q) (bs:=bs) (N:=N) (sn:=sn) (hdct:=hdct) (sub:=sub) (col:=col) (ab:=ab) (dd:=dd) (k5:=k5) (k3:=k3) (k2:=k2) (k1:=k1) (k0:=k0) (TL.hasType (by trivial)) (I.ok.hd hc) (by rw[he];show (false || (backTo cpos (starEach es X.env)).any (·.1))=false;rw[hpl];rfl) hni (Mg I hg hm ⟨rfl,?_⟩ hdb)
 have h2:=ha cpos pins s σ H _ I h
 rw[he] at h2 ⊢
 refine Calls.evalArgs_plain (thn h2 λus s2 zz=>?_)
 obtain⟨vs,H2,I2,r,hl,hE⟩:=zz
 refine⟨rfl,?_⟩
 refine⟨by rw[<-r.length];exact hl,I2.bk _ _ hC,hN.keeps I2.bk,TL.keeps I2.bk,λh' ea mx=>?_⟩
 exact hx pins σ H2 s2 (.ref ea) { s2 with heap:=h' } I2 ⟨ea,C,_,H2,rfl,Exc.made I2 mx,hE⟩
section
variable {M:Model} {A:Around} {E:YA} {h:Heap} {g:Array GenState} {d:Drawn} {t:Nat} {os:OsState} {K:YD} {e C HC:Addr}
theorem yL {Q:Bool->Shared->Prop} (X:K.In h) (TH:XCl K HC) (hs:subIn K (.ref C) (.ref HC)=some true) (x:XAt e C h) (hq:Q true ⟨h,g,d,t,os⟩):wpAny M A (excMatches (.ref e) (.ref HC)) Q E ⟨h,g,d,t,os⟩:=by
 obtain⟨oe,vs,he,hc,_⟩:=x
 obtain⟨dd,cd,sl,ho⟩:=TH.look
 have hH:=X _ _ ho
 have f1:=looks_subIn (M:=M) X TH.mb
 have f2:=looks_subIn (M:=M) X hs
 have f3:=tc_notTuple
 unfold excMatches
 repeat (first | (with_reducible refine Qbq he ?_;rw[hc]) | with_reducible refine Qbq hH ?_ | with_reducible refine f1.at ?_ | with_reducible refine f2.at ?_ | wp_step)
 exact hq
end
abbrev Cx.by (X:Cx) (pn:YC) (E:YA):Cx:={ X with pn:=pn,xe:=E }
abbrev Cx.suite (X:Cx) (pn:YC) (ev:Value):Cx:={ X with pn:=pn,xe:=λ_ _=>False,A:=X.A.mark (some ev),calm:=false }
section
variable {X:Cx} {pins G3 pn:YC} {σ : St} {H:Hp} {s:Shared} {E:YA} {ev:Value}
theorem Inv.by (I:Inv X pins σ H s) (E:YA):Inv (X.by (X.pn++pins) E) [] σ H s:=
 ⟨⟨I.ok.mod,I.ok.kind,I.ok.glob,I.ok.blt,I.ok.above,I.ok.inj,I.ok.has,I.ok.cab,I.ok.hd,I.ok.frames,I.ok.stk,I.ok.exf,I.ok.bs,I.ok.bsz,I.ok.Nf,I.ok.JZ,I.ok.Gh,I.ok.frf⟩,I.os,I.bare,I.base,I.loc,I.cell,I.free,I.El,
  λp hp=>I.pin p (by simpa using hp),I.hok,I.len⟩
theorem Inv.Pa (I:Inv (X.by (X.pn++pins) E) G3 σ H s):Inv X pins σ H s:=
 ⟨⟨I.ok.mod,I.ok.kind,I.ok.glob,I.ok.blt,I.ok.above,I.ok.inj,I.ok.has,I.ok.cab,I.ok.hd,I.ok.frames,I.ok.stk,I.ok.exf,I.ok.bs,I.ok.bsz,I.ok.Nf,I.ok.JZ,I.ok.Gh,I.ok.frf⟩,I.os,I.bare,I.base,I.loc,I.cell,I.free,I.El,
  λp hp=>I.pin p (QaF _ hp),I.hok,I.len⟩
theorem Inv.suite (I:Inv (X.by pn E) G3 σ H s) (ev:Value):Inv (X.suite pn ev) G3 σ H s:=
 ⟨⟨I.ok.mod,I.ok.kind,I.ok.glob,I.ok.blt,I.ok.above,I.ok.inj,I.ok.has,I.ok.cab,(λz=>nomatch z),I.ok.frames,I.ok.stk,I.ok.exf,I.ok.bs,I.ok.bsz,I.ok.Nf,I.ok.JZ,I.ok.Gh,I.ok.frf⟩,I.os,I.bare,I.base,I.loc,I.cell,I.free,I.El,
  I.pin,I.hok,I.len⟩
theorem Inv.Rk (hd:X.calm=true->X.A.handled=none) (I:Inv (X.suite (X.pn++pins) ev) G3 σ H s):Inv X pins σ H s:=
 ⟨⟨I.ok.mod,I.ok.kind,I.ok.glob,I.ok.blt,I.ok.above,I.ok.inj,I.ok.has,I.ok.cab,hd,I.ok.frames,I.ok.stk,I.ok.exf,I.ok.bs,I.ok.bsz,I.ok.Nf,I.ok.JZ,I.ok.Gh,I.ok.frf⟩,I.os,I.bare,I.base,I.loc,I.cell,I.free,I.El,
  λp hp=>I.pin p (QaF _ hp),I.hok,I.len⟩
theorem SP.Pa {D:Ends} {f:Flow} (h:SP (X.by (X.pn++pins) E) G3 D f s):SP X pins D f s:=by
 cases f with
 | next=>obtain⟨σ',H',I,q⟩:=h;exact⟨σ',H',I.Pa,q⟩
 | brk=>obtain⟨σ',H',I,q⟩:=h;exact⟨σ',H',I.Pa,q⟩
 | cont=>obtain⟨σ',H',I,q⟩:=h;exact⟨σ',H',I.Pa,q⟩
 | ret u=>obtain⟨v,σ',H',I,r,q⟩:=h;exact⟨v,σ',H',I.Pa,r,q⟩
theorem RJ {M:Model} {A:Around} {E1:YA} {i:Nat} {n:Str} {pos:Pos} {Q:YH} (I:Inv X pins σ H s) (hN:X.N.Nodup) (hi:X.N[i]?=some n) (hl:X.env.scope.names.lookup n=some .local)
  (hq:∀s',Inv X pins (σ.set i none) H s'->Q () s'):wpAny M A (do bindName X.env n .none;unbindBehindTheSuite X.env n pos) Q E1 s:=by
 obtain⟨m,hn,hm⟩:=id I.loc
 have hcls:(X.env.scope.kind == .class || (X.env.scope.kind == .module&&X.env.locals != X.env.globals))=false:=by rw[I.ok.kind];rfl
 refine wpAny_nameGoes_keeps hl hn hcls λh' v nsv sb=>?_
 have hiσ : i < σ.length:=by rw[I.len];exact (Qah.mp hi).1
 obtain⟨oL,_,_,hoL,_⟩:=id hn
 have below:∀b o,X.s₀.heap.get? b=some o->b≠X.env.locals:=λb o q=>Qcj (QaW (Qch q) I.ok.above)
 refine hq _ ⟨I.ok,I.os,I.bare,⟨λb o q nn hb hx=>?_,λb o q nn hb hx=>?_,I.base.free,λb o q hx=>?_,I.base.tups,I.base.GQ,I.base.Ht⟩,⟨_,nsv,λj y w e1 e2 e3=>?_⟩,λy c q=>?_,I.free,I.El,λp hp=>?_,λb ob q=>?_,?_⟩
 ·exact (sb.2 b (below b o q)).trans (I.base.keep b o q nn hb hx)
 ·obtain⟨sl,q1⟩:=I.base.slot b o q nn hb hx
  exact⟨sl,(sb.2 b (below b o q)).trans q1⟩
 ·obtain⟨o',q1⟩:=I.base.there b o q hx
  exact⟨o',(sb.2 b (below b o q)).trans q1⟩
 ·by_cases hj:j=i
  ·subst hj
   rw[List.getElem?_set_self hiσ] at e2
   cases e2
  ·rw[List.getElem?_set_ne (Ne.symm hj)] at e2
   obtain⟨u,r,q⟩:=hm j y w e1 e2 e3
   refine⟨u,r,?_⟩
   rcases q with⟨k,q⟩|⟨k,c,q,z⟩
   ·have ny:y≠n:=λz=>hj (Tn hN e1 (z ▸ hi))
    exact .inl ⟨k,by simp[ny,q]⟩
   ·exact .inr ⟨k,c,q,z.sameBut sb (I.cne y c q)⟩
 ·obtain⟨u,z⟩:=I.cell y c q
  exact⟨u,z.sameBut sb (I.cne y c q)⟩
 ·obtain⟨q,nn,ne,nf,dd⟩:=I.pin p hp
  exact⟨(sb.2 p.1 ne).trans q,nn,ne,nf,dd⟩
 ·refine (I.hok b ob q).stay (λc u hc q1=>(sb.2 c ?_).trans q1) (λ_ z=>z) λ_ _ z=>z
  rintro rfl
  rcases hc with rfl | hc
  ·rw[I.free] at q;cases q
  ·rw[I.free] at hc;cases hc
 ·rw[List.length_set];exact I.len
end
def Ends.drop (D:Ends) (i:Nat):Ends where
 nx:=fun σ H=>D.nx (σ.set i none) H
 rt:=D.rt
 bk:=fun σ H=>D.bk (σ.set i none) H
 ct:=fun σ H=>D.ct (σ.set i none) H
def jd (K:YD) (HC:Addr) (i:Nat) (th:Addr->TS) (D:Ends):St->XK:=fun σ cls _ H=>∃C,cls=.ref C/\XCl K C/\subIn K (.ref C) (.ref HC)=some true/\∀e,H e=none->th e (D.drop i) (σ.set i (some (.ref e))) (upd H e (xo e C))
def DS (K:YD) (HC:Addr) (i:Nat) (tb:(St->XK)->TS) (th:Addr->TS):TS:=λD σ H=>tb (jd K HC i th D) D σ H
theorem zO {X:Cx} {HC:Addr} {i:Nat} {n x:Str} {tb:(St->XK)->TS} {th:Addr->TS} {body suite:List Stmt} {b₀ : Stmt} {np hpos pos:Pos} (hN:X.N.Nodup) (hi:X.N[i]?=some n) (hl:X.env.scope.names.lookup n=some .local) (hst:X.stack=X.env::X.outer)
  (hf:X.env.frame=some X.env.locals) (hg:Gl X x) (hm:X.mg x=some (.ref HC)) (TH:XCl X.K HC)
  (h1:∀pn E1 EX,Qm (X.by pn E1) EX->PSs (X.by pn E1) body (tb EX)) (h2:∀pn (e:Addr),PSs (X.suite pn (.ref e)) (b₀::suite) (th e)) (hdb:(x == ("__debug__":Str))=false:=by decide) :
  PS X (.Try body [.ExceptHandler (some (.Name x np)) (some n) (b₀::suite) hpos] [] [] pos) (DS X.K HC i tb th):=by
 intro pins s σ H D I h
 have hfr:X.A.frames=some (X.env::X.outer):=I.ok.frames.trans (congrArg some hst)
 let E1:YA:=λev s''=>∃(G3:YC) (σ':St) (H':Hp) (s':Shared),Inv (X.by (X.pn++pins) λ_ _=>False) G3 σ' H' s'/\CX1 X.prog X.w X.stack H' s' (jd X.K HC i th D σ') ev s''
 have hp:Qm (X.by (X.pn++pins) E1) (jd X.K HC i th D):=λG3 σ' H' s' ev s'' I' c=>⟨G3,σ',H',s',⟨⟨I'.ok.mod,I'.ok.kind,I'.ok.glob,I'.ok.blt,I'.ok.above,I'.ok.inj,I'.ok.has,I'.ok.cab,I'.ok.hd,I'.ok.frames,I'.ok.stk,I'.ok.exf,I'.ok.bs,I'.ok.bsz,I'.ok.Nf,I'.ok.JZ,I'.ok.Gh,I'.ok.frf⟩,I'.os,I'.bare,I'.base,I'.loc,I'.cell,I'.free,I'.El,I'.pin,I'.hok,I'.len⟩,c⟩
 refine wpAny_Try_except (Qcx (h1 _ E1 _ hp [] s σ H D (I.by E1) h) (λf s1 q=>?_) λev s1 q=>?_)
 ·cases f with
  | next=>exact wpAny_execs_nil q.Pa
  | brk=>exact q.Pa
  | cont=>exact q.Pa
  | ret u=>exact q.Pa
 ·obtain⟨G3,σ',H',s',I',e,C,B,H2,rfl,x1,D1,hC,T,hs,hth⟩:=q
  cases hC
  obtain⟨fl,hfl,f0⟩:=x1.fl
  rw[hst] at f0
  refine d8 hfl hfr hf f0 λha fa ua=>?_
  refine ZW fa λhb fb ub=>?_
  have fb':Fl B X.stack e C (some .none) hb:=by rw[hst];exact fb
  have J:=Exc.caught I' x1 fb' (ua.trans ub)
  have JS:=J.suite (Value.ref e)
  refine wpAny_handleBy_cons (codeAny_handlers_test (Mg JS hg hm ?_ hdb)) (by intro q;cases q)
  refine yL JS.kIn TH hs fb.tr.at (codeAny_handlers_suite_as ?_)
  refine ZW fb λhc fc uc=>?_
  have fc':Fl B X.stack e C (some .none) hc:=by rw[hst];exact fc
  have J2:=(Exc.caught I' x1 fc' ((ua.trans ub).trans uc)).suite (Value.ref e)
  refine JK (X:=X.suite (X.pn++pins) (.ref e)) (v:=.ref e) (i:=i) J2 hN hi (.inl hl) rfl (λs4 J4=>?_) (.inr hl)
  refine Qcx (h2 _ _ G3 s4 _ _ (D.drop i) J4 (hth e x1.free)) (λf s5 q=>?_) λ_ _ z=>z.elim
  cases f with
  | next=>
   obtain⟨σ5,H5,I5,q5⟩:=q
   exact RJ (I5.Rk I.ok.hd) hN hi hl λs6 I6=>⟨_,_,I6,q5⟩
  | brk=>
   obtain⟨σ5,H5,I5,q5⟩:=q
   exact RJ (I5.Rk I.ok.hd) hN hi hl λs6 I6=>⟨_,_,I6,q5⟩
  | cont=>
   obtain⟨σ5,H5,I5,q5⟩:=q
   exact RJ (I5.Rk I.ok.hd) hN hi hl λs6 I6=>⟨_,_,I6,q5⟩
  | ret u=>
   obtain⟨v5,σ5,H5,I5,r5,q5⟩:=q
   exact RJ (I5.Rk I.ok.hd) hN hi hl λs6 I6=>⟨v5,_,_,I6,r5,q5⟩
structure Kq (k:Nat) (A:Around):Prop where
 dp:A.depth+3*k+5 < recursionLimit
 un:A.units+16*k+200 < cLine
theorem Cw.inH {k:Nat} {A:Around} (r:Cw k A) (h:Option Value):Kq k (A.mark h):=⟨r.dp,r.un⟩
theorem Kq.deeper {k:Nat} {A:Around} (r:Kq (k+1) A) (env:Env):Kq k (A.deeper env):=
 ⟨by have:=r.dp;show A.depth+1+3*k+5 < _;omega,by have:=r.un;show A.units+3+16*k+200 < _;omega⟩
theorem Kq.mono {j k:Nat} {A:Around} (r:Kq k A) (h:j<=k):Kq j A:=⟨by have:=r.dp;omega,by have:=r.un;omega⟩
structure XD (P:Program) (w:World) (K:YD) (mg:YB) (base:Heap) (x:Str) (k:Nat) (ps:YF) (sp:Sp):Prop where
 ex:∃(f:Addr) (fd:FuncData),mg x=some (.ref f)/\keepIn K (.ref f)=true/\Binds K fd ps []/\(∀vs H Q E,sp vs H Q E->vs.length=ps.length) /\
  ∀(A:Around) (outer:List Env) (s:Shared) (H:Hp) (args:Args) (us:YE) (vs:YG) (Q:VK),Kq k A->Lj P w K mg base A outer s H->BindsTo s fd args (ps.zip us)->Vals vs us->sp vs H Q E0 ->
   codeAny (model P w) A (.call (.ref f) args) (CR CX0 outer P w H s Q E0) s
abbrev cxH (P:Program) (w:World) (K:YD) (mg:YB) (base:Heap) (N:YF) (qual:Str) (scope:Scope) (f:Addr) (cd:Value) (A:Around) (outer:List Env) (s:Shared) (H:Hp):Cx:=
 { Lh CX0 P w K mg base N qual scope f cd A outer s H E0 with calm:=false,xe:=λ_ _=>False }
theorem Code.C0 {P:Program} {w:World} {K:YD} {mg:YB} {base:Heap} {x:Str} {st:Stmt} {ps N:YF} {k:Nat} {sp:Sp} (C:Code K mg x st ps) (S:Az N ps (Aj st)) (len:∀vs H Q E,sp vs H Q E->vs.length=ps.length)
  (hbody:∀(f:Addr) (cdv:Value) (A:Around) (outer:List Env) (s:Shared) (H:Hp) (vs:YG) (Q:VK),Kq k (A.deeper (envOfC x (Aj st) s.heap.objs.size f cdv))->sp vs H Q E0 ->
   ∃t,PSs (cxH P w K mg base N x (Aj st) f cdv A outer s H) (Cz st) t/\t { nx:=λ_ H'=>Q .non H',rt:=Q } (start N vs) H):XD P w K mg base x (k+1) ps sp:=by
 obtain⟨f,fd,F,m,b⟩:=C.ex
 refine⟨f,fd,m,F.kp,b,len,λA outer s H args us vs Q hr e0 hb r hsp=>?_⟩
 obtain⟨oc,od,kV,doc,pm,an,cdv,ct,osl,rfl,lk,hcd⟩:=F.ex
 have hlen:=len _ _ _ _ hsp
 have KX:K.In s.heap:=e0.mod.kin.keeps λb o q=>(e0.bs b o q).1
 have lim:s.heap.NoLimit:=e0.mod.nolimit.keeps λb o q=>(e0.bs b o q).1
 have hkind:∀y∈ps.zip us,(Aj st).names.lookup y.1=some .local\/((Aj st).names.lookup y.1=some .cell/\((cellsFrom (s.heap.objs.size+1) (Aj st).names []).lookup y.1).isSome=true):=λ⟨n,v⟩ hy=>by
  rcases S.par n (List.of_mem_zip hy).1 with q | q
  ·exact .inl q
  ·exact .inr ⟨q,PySem.W.cellsFrom_some _ _ _ (.inl q)⟩
 refine codeAny_call_function (by have:=hr.dp;omega) (KX _ _ lk) rfl S.co S.gen rfl (PySem.W.codeRec_of KX hcd) (hb _ _ _ _ ?_)
 refine wpAny_newFunctionEnv_cells S.kind hkind λenv he s1 ic=>?_
 subst he
 refine⟨lim.keeps ic.toInCall.keep,codeAny_func ?_⟩
 obtain⟨t,ht,hq⟩:=hbody f cdv A outer s H vs Q (hr.deeper _) hsp
 have e1:Lj P w K mg base { A with handled:=none } outer s H:=⟨e0.frames,e0.mod,e0.bs,e0.bsz,e0.Gh,e0.frf,e0.hok,e0.bare⟩
 have I0:Inv (Lh CX0 P w K mg base N x (Aj st) f cdv { A with handled:=none } outer s H E0) [] (start N vs) H s1:=Wz S rfl e1 hlen r ic
 have I:Inv (cxH P w K mg base N x (Aj st) f cdv A outer s H) [] (start N vs) H s1:=
  ⟨⟨I0.ok.mod,I0.ok.kind,I0.ok.glob,I0.ok.blt,I0.ok.above,I0.ok.inj,I0.ok.has,I0.ok.cab,(λz=>nomatch z),Around.frames_deeper e0.frames,I0.ok.stk,I0.ok.exf,I0.ok.bs,I0.ok.bsz,I0.ok.Nf,I0.ok.JZ,I0.ok.Gh,I0.ok.frf⟩,I0.os,I0.bare,I0.base,I0.loc,I0.cell,I0.free,I0.El,
   I0.pin,I0.hok,I0.len⟩
 refine Qcx (ht [] s1 (start N vs) H _ I hq) (λfl s' hs=>?_) λe s' z=>z.elim
 have fin:∀{σ':St} {H':Hp} {v:V} {u:Value},Inv (cxH P w K mg base N x (Aj st) f cdv A outer s H) [] σ' H' s'->RelV v u->Q v H'->CE outer P w H s Q u s':=λ{σ' H' v u} J rv q=>⟨v,H',J.os,J.bare,J.base,J.hok,rv,q⟩
 cases fl with
 | ret u=>
  obtain⟨v,σ',H',J,rv,q⟩:=hs
  exact fin J rv q
 | next=>
  obtain⟨σ',H',J,q⟩:=hs
  exact fin (v:=V.non) (u:=Value.none) J rfl q
 | brk=>obtain⟨_,_,_,q⟩:=hs;exact False.elim q
 | cont=>obtain⟨_,_,_,q⟩:=hs;exact False.elim q
theorem zT {X:Cx} {k k':Nat} {ps:YF} {sp:Sp} {x:Str} {p pos:Pos} {e:Expr} {es:YJ} {t:TA} (g:XD X.prog X.w X.K X.mg X.base x k ps sp) (hr:Kq k' X.A) (ha:PA X (e::es) t) (hk:k<=k':=by decide)
  (hg:Gl X x:=by rfl) (hdb:(x == ("__debug__":Str))=false:=by decide) (he:starEach (e::es) X.env=(false,eval e X.env)::starEach es X.env:=by rfl) (hpl:(backTo pos (starEach es X.env)).any (·.1)=false:=by rfl) :
  PE X (.Call (.Name x p) (e::es) [] pos) (fM sp [] E0 t):=by
 intro pins s σ H Q I h
 obtain⟨f,fd,m,kp,b,len,run⟩:=g.ex
 refine Qbc (Mg I hg m ?_ hdb)
 refine callWith_K (h₀:=X.base) I.ok.mod.kin kp (thn (ha pos pins s σ H _ I h) λus s1 zz=>?_) he hpl
 obtain⟨vs,H1,I1,r,q⟩:=zz
 refine⟨I1.kIn,?_⟩
 have q:sp (vs++[]) H1 Q E0:=q
 rw[QbF] at q
 have hl:us.length=ps.length:=by rw[<-r.length];exact len _ _ _ _ q
 have bd:=b s1 us I1.kIn (by rw[QbF];exact hl)
 rw[QbF] at bd
 refine wpAny_call (Qcp (run X.A X.stack s1 H1 ⟨us,[]⟩ us vs Q (hr.mono hk) I1.env0 bd r q) λrr s' hq=>?_)
 cases rr with
 | error ev=>exact False.elim hq
 | ok fl=>
  cases fl with
  | ret u=>exact I1.after hq
  | next=>exact False.elim hq
  | brk=>exact False.elim hq
  | cont=>exact False.elim hq
@[irreducible] def gq (K:YD):YG->Hp->VK->Prop:=λxs H Q=>∃a D C b,xs=[.ref a,.ref D]/\H a=some (xo a C)/\XCl K C/\kitOne K (.ref C) (.ref D)=some b/\Q (.bl b) H
theorem DK {X:Cx}:Dm X (.builtin "isinstance") (gq X.K):=by
 intro pins s σ H xs us Q I r h
 unfold gq at h
 obtain⟨a,D,C,b,rfl,ea,T,k,q⟩:=h
 obtain⟨u,w',rfl,rx,rt⟩:=vals2 r
 cases rx
 cases rt
 exact U3 I T ea k λtk=>⟨.bl b,H,I.tok tk,rfl,q⟩
@[irreducible] def Xy (K:YD):YG->Hp->VK->Prop:=λxs H Q=>∃a T C b,xs=[.ref a,.ty T]/\H a=some (xo a C)/\XCl K C/\kitOne K (.ref C) (.type T)=some b/\Q (.bl b) H
theorem nY {X:Cx}:Dm X (.builtin "isinstance") (Xy X.K):=by
 intro pins s σ H xs us Q I r h
 unfold Xy at h
 obtain⟨a,T,C,b,rfl,ea,TC,k,q⟩:=h
 obtain⟨u,w',rfl,rx,rt⟩:=vals2 r
 cases rx
 cases rt
 exact U3 I TC ea k λtk=>⟨.bl b,H,I.tok tk,rfl,q⟩
end L2
namespace L2
open PySem PySem.Spec PyProof.Rows PySem.SeqAt
theorem Bh {c:Const} {k:Nat} {p:Pos} {es:YJ} {env:Env}:starEach (.Constant c k p::es) env=(false,eval (.Constant c k p) env)::starEach es env:=by rfl
theorem Ku {as:YJ} {k:Nat} {p:Pos} {es:YJ} {env:Env}:starEach (.Tuple as k p::es) env=(false,eval (.Tuple as k p) env)::starEach es env:=by rfl
def isT:Value->Bool
 | .bool b=>b
 | _=>false
theorem aK:∀{bs:List Bool} {us:YE},Vals (bs.map V.bl) us->us=bs.map Value.bool
 | [],_,.nil=>rfl
 | b::bs,_,.cons r t=>by
  cases (show _=Value.bool b from r)
  rw[aK t]
  rfl
section
variable {X:Cx}
@[irreducible] def Rt:V->YG->Hp->VK->Prop:=λx xs H Q=>∃(l:Addr) (bs:List Bool),x=.ref l/\xs=[.bl true]/\H l=some (.lst (bs.map V.bl))/\Q (.int ((bs.countP id:Nat):Int)) H
theorem eqT {A:Around} {s:Shared} {bs:List Bool}:∀y,y∈(bs.map Value.bool).toArray->EqAt A s y (.bool true) (isT y):=λy hy=>by
 have hy':y∈bs.map Value.bool:=by simpa using hy
 obtain⟨b,_,rfl⟩:=Qci.mp hy'
 have:=EqAt.bool_bool (A:=A) (s:=s) b true
 rw[show (b == true)=isT (.bool b) by cases b <;> rfl] at this
 exact this
theorem nO {l:Addr} {bs:List Bool} {H:Hp} {Q:VK} (h:H l=some (.lst (bs.map V.bl))) (q:Q (.int ((bs.countP id:Nat):Int)) H):Rt (.ref l) [.bl true] H Q:=by
 unfold Rt
 exact⟨l,bs,rfl,rfl,h,q⟩
theorem lR:MtM X "list.count" Rt:=by
 intro pins s σ H x vs v us Q I rx rv h
 unfold Rt at h
 obtain⟨l,bs,rfl,rfl,hH,q⟩:=h
 cases rx
 obtain⟨u,rfl,ru⟩:=rv.one
 cases (show _=Value.bool true from ru)
 obtain⟨z,its,n,r,hl,e⟩:=I.Q5 hH
 have hi:=aK r
 subst hi
 refine call_meets F.slot_list_count ⟨_,e,rfl⟩ F.entry_list_count (F.args_list_count_2 _ _) (list_countAt l (bs.map Value.bool).toArray n none #[] (.bool true) isT) ⟨e,eqT,?_⟩
 refine⟨.int ((bs.countP id:Nat):Int),H,I.tok _,⟨s.toks,?_⟩,q⟩
 have hc:(bs.map Value.bool).countP isT=bs.countP id:=by
  rw[List.countP_map]
  congr 1
 simp only[hc]
@[irreducible] def Rr:V->YG->Hp->VK->Prop:=λx xs H Q=>∃(l:Addr) (bs:List Bool) (j:Nat),x=.ref l/\xs=[.bl true]/\H l=some (.lst (bs.map V.bl))/\j<=1000/\bs[j]?=some true/\(∀m,m < j->bs[m]?=some false)/\Q (.int (j:Int)) H
theorem mC {l:Addr} {bs:List Bool} {j:Nat} {H:Hp} {Q:VK} (h:H l=some (.lst (bs.map V.bl))) (h1:j<=1000) (h2:bs[j]?=some true) (h3:∀m,m < j->bs[m]?=some false) (q:Q (.int (j:Int)) H):Rr (.ref l) [.bl true] H Q:=by
 unfold Rr
 exact⟨l,bs,j,rfl,rfl,h,h1,h2,h3,q⟩
theorem lQ:MtM X "list.index" Rr:=by
 intro pins s σ H x vs v us Q I rx rv h
 unfold Rr at h
 obtain⟨l,bs,j,rfl,rfl,hH,hj1,hj,hno,q⟩:=h
 cases rx
 obtain⟨u,rfl,ru⟩:=rv.one
 cases (show _=Value.bool true from ru)
 obtain⟨z,its,n,r,hl,e⟩:=I.Q5 hH
 have hi:=aK r
 subst hi
 have hjl:j < bs.length:=(Qah.mp hj).1
 have hj2:j < (bs.map Value.bool).toArray.size:=by simpa using hjl
 have hit:isT ((bs.map Value.bool).toArray[j]'hj2)=true:=by
  have h1:bs[j]=true:=(Qah.mp hj).2
  simp[h1,isT]
 have hn:∀m (hm:m < (bs.map Value.bool).toArray.size),m < j->isT (bs.map Value.bool).toArray[m]=false:=λm hm hmj=>by
  have h1:=(Qah.mp (hno m hmj)).2
  simp[h1,isT]
 refine call_meets F.slot_list_index ⟨_,e,rfl⟩ F.entry_list_index (F.args_list_index_2 _ _) (list_indexAt l (bs.map Value.bool).toArray n none #[] (.bool true) isT j hj2 (Int.lt_of_le_of_lt (b:=1000) (by omega) (by trivial)) hit hn) ⟨e,eqT,?_⟩
 exact⟨.int (j:Int),H,I.tok _,⟨_,rfl⟩,q⟩
end
theorem Gg {K:YD} {a D C:Addr} {b:Bool} {H:Hp} {Q:VK} (h:H a=some (xo a C)) (T:XCl K C) (k:kitOne K (.ref C) (.ref D)=some b) (q:Q (.bl b) H):gq K [.ref a,.ref D] H Q:=by
 unfold gq
 exact⟨a,D,C,b,rfl,h,T,k,q⟩
theorem xR {K:YD} {a C:Addr} {T:String} {b:Bool} {H:Hp} {Q:VK} (h:H a=some (xo a C)) (TC:XCl K C) (k:kitOne K (.ref C) (.type T)=some b) (q:Q (.bl b) H):Xy K [.ref a,.ty T] H Q:=by
 unfold Xy
 exact⟨a,T,C,b,rfl,h,TC,k,q⟩
section
variable {prog:Program} {w:World} {A:Around} {E:YA} {s:Shared}
end
end L2
namespace L2
open PySem PySem.Spec PyProof.Rows
section
variable {X:Cx} {pins:YC} {σ : St} {H:Hp} {s:Shared} {a:Addr} {kvs:YM} {o:Obj}
end
theorem Qu:entryFor table "dict_itemiterator.__iter__"=some Builtin.«dict_keyiterator.__iter__»:=entryFor_alias (id':="dict_keyiterator.__iter__") (by kernel_rfl) rfl (by trivial) (by kernel_rfl)
theorem Xp {prog:Program} {w:World} {A:Around} {E:YA} {s:Shared} {it d:Addr} {i n ep:Nat} {ok ov:Value} {Q:YA} (hit:IsItemIter s.heap it d i n ep ok ov) (h:Q (.ref it) s) :
  wpAny (model prog w) A (pyIter (.ref it)) Q E s:=by
 have hT:s.TypeIs (.ref it) "dict_itemiterator":=⟨_,hit,rfl⟩
 refine wpAny_pyIter_slot hT F.slot_dict_itemiterator_iter (Qbv F.slot_dict_itemiterator_iter hT Qu ?_ (F.args_dict_itemiterator_iter_1 _))
 exact Qcw ⟨_,rfl,"dict_itemiterator",_,hT,Qac.lookup,h⟩
section
variable {a l:Addr} {o:Obj} {kvs:YM} {g:TG} {tb:TS} {D:Ends} {σ : St} {H:Hp} {tt:TT} {te tk tv:TE} {Q:VK}
theorem nG {K:YD} {xs:YG} {σ0:St} {H0:Hp} (Pv:YN) (h0:Pv 0 σ0 H0) (hl:∀i σ H',i<=xs.length->Pv i σ H'->SqT K H' a xs)
  (hs:∀i x σ H',xs[i]?=some x->Pv i σ H'->g x σ H' fun σ3 H3=>tt σ3 H3 λb H4=>if b=true then tk σ3 H4 λy H5=>tv σ3 H5 λz H6=>∃(kvs:YM) (k:Key),H6 l=some (.dK kvs)/\y=kV k/\kvs.length < sizeLine/\Pv (i+1) σ3 (upd H6 l (.dK (putK kvs k z))) else Pv (i+1) σ3 H4)
  (hd:∀ σ H',Pv xs.length σ H'->Q (.ref l) H'):RQ (Itt K a) g tt tk tv Q σ0 H0 l:=by
 unfold RQ
 refine⟨λi m σ H'=>m=xs.length - i/\i<=xs.length/\Pv i σ H',⟨xs.length,by simp,Qcr _,h0⟩,?_⟩
 rintro i m σ H' ⟨rfl,hi,p⟩
 have q:=hl i σ H' hi p
 by_cases hlt:i < xs.length
 ·refine .inr ⟨⟨xs,xs[i],q,by simp[hlt]⟩,Pv (i+1),fun σ3 H3 p'=>⟨xs.length - (i+1),by omega,rfl,hlt,p'⟩,λx H2 y=>?_⟩
  obtain⟨e,y⟩:=y
  subst e
  exact hs i x σ _ (y xs q) p
 ·have e:i=xs.length:=by omega
  subst e
  exact .inl ⟨⟨xs,q,Qcq _⟩,hd σ H' p⟩
end
open PySem.W (KasT kas_asc kas_desc kas_rev kas_tail3 kas_descPart kas_count kas_place kas_bin kas_sort)
def Gq {α : Type} (n:Nat) (P:α->Prop):KasT α->Prop
 | .ret a=>P a
 | .ask i j k=>i < n/\j < n/\∀b,Gq n P (k b)
theorem Jh {α β : Type} {n:Nat} {P:α->Prop} {Q:β->Prop} {f:α->KasT β}:∀t:KasT α,Gq n P t->(∀a,P a->Gq n Q (f a))->Gq n Q (t.bind f)
 | .ret a,h,q=>q a h
 | .ask i j k,h,q=>⟨h.1,h.2.1,λb=>Jh (k b) (h.2.2 b) q⟩
def Pm (n:Nat) (p:Array Nat):Prop:=p.toList.Perm (List.range n)
theorem Pm.rev {n:Nat} {p:Array Nat} (h:Pm n p) (i j:Nat):Pm n (kas_rev p i j):=(Array.perm_iff_toList_perm.mp (mirror_perm p i j ((j - i) / 2))).trans h
theorem Pm.bub {n:Nat} {p:Array Nat} (h:Pm n p) (k d:Nat):Pm n (bubble p k d):=(Array.perm_iff_toList_perm.mp (bubble_perm p k d)).trans h
theorem Pm.lt {n:Nat} {p:Array Nat} (h:Pm n p) (n0:0 < n) (i:Nat):p.getD i 0 < n:=by
 by_cases hi:i < p.size
 ·have e:p.getD i 0=p[i]:=by simp[hi]
  rw[e]
  have hm:p[i]∈p.toList:=by simp
  exact QbU.mp (h.mem_iff.mp hm)
 ·have e:p.getD i 0=0:=by simp[hi]
  rw[e];exact n0
section
variable {n:Nat} (n0:0 < n)
include n0
theorem Wb {p:Array Nat} (h:Pm n p):∀f k,Gq n (λ_=>True) (kas_asc p f k)
 | 0,k=>trivial
 | f+1,k=>⟨h.lt n0 _,h.lt n0 _,λb=>by
  cases b with
  | true=>exact trivial
  | false=>exact Wb h f (k+1)⟩
theorem Qj:∀f (p:Array Nat),Pm n p->∀k q,Gq n (λr:Array Nat×Nat×Nat=>Pm n r.1) (kas_desc f p k q)
 | 0,p,h,k,q=>h
 | f+1,p,h,k,q=>⟨h.lt n0 _,h.lt n0 _,λb=>by
  cases b with
  | true=>
   show Gq n _ (if q > 0 then kas_desc f (kas_rev p (k - (q+1)) k) (k+1) 0 else kas_desc f p (k+1) 0)
   split
   ·exact Qj f _ (h.rev _ _) _ _
   ·exact Qj f _ h _ _
  | false=>exact⟨h.lt n0 _,h.lt n0 _,λd=>by
    cases d with
    | true=>exact h
    | false=>exact Qj f _ h _ _⟩⟩
theorem aN {p:Array Nat} (h:Pm n p) (a b:Nat):Gq n (λr:Nat×Array Nat=>Pm n r.2) (kas_tail3 a b p):=
 Jh _ (Wb n0 (h.rev 0 a) _ _) λm _=>h.rev 0 a
theorem Rf {p:Array Nat} (h:Pm n p) (a b:Nat):Gq n (λr:Nat×Array Nat=>Pm n r.2) (kas_descPart a b p):=
 Jh _ (Qj n0 _ p h _ _) λr hr=>by
  show Gq n _ (if r.2.2 > 0 then _ else _)
  split
  ·exact aN n0 (Pm.rev hr _ _) _ _
  ·exact aN n0 hr _ _
theorem Xd {p:Array Nat} (h:Pm n p) (a:Nat):Gq n (λr:Nat×Array Nat=>Pm n r.2) (kas_count a p):=
 Jh _ (Wb n0 h _ _) λm _=>by
  show Gq n _ (if (m == a)=true then _ else if m > 1 then _ else _)
  split
  ·exact h
  ·split
   ·refine⟨h.lt n0 _,h.lt n0 _,λb=>?_⟩
    cases b with
    | true=>exact h
    | false=>exact Rf n0 (h.rev _ _) _ _
   ·exact Rf n0 h _ _
theorem Rb {p:Array Nat} (h:Pm n p) (k:Nat):∀f l r,Gq n (λ_=>True) (kas_place p k f l r)
 | 0,_,_=>trivial
 | f+1,l,r=>by
  show Gq n _ (if l ≥ r then _ else _)
  split
  ·exact trivial
  ·refine⟨h.lt n0 _,h.lt n0 _,λb=>?_⟩
   cases b with
   | true=>exact Rb h k f _ _
   | false=>exact Rb h k f _ _
theorem eZ:∀f (p:Array Nat),Pm n p->∀k,Gq n (Pm n) (kas_bin f p k)
 | 0,p,h,_=>h
 | f+1,p,h,k=>Jh _ (Rb n0 h k _ _ _) λl _=>eZ f _ (h.bub _ _) _
theorem aO:Gq n (Pm n) (kas_sort n):=
 Jh _ (Xd n0 (p:=List.toArray (List.range n)) (show Pm n _ by unfold Pm;exact List.Perm.refl _) n) λr hr=>by
  show Gq n _ (if r.1 < n then _ else _)
  split
  ·exact eZ n0 _ _ hr _
  ·exact hr
end
section
variable {prog:Program} {w:World} {A:Around} {E:YA} {s:Shared}
theorem Ym {l:Addr} {vs:YE} {Q:YA} (hl:s.heap.IsList l vs.toArray) (h1:vs.length < 2)
  (h:∀D h' c,s.heap.objs.size<=D->h'.get? D=some (seqObj "list" vs.toArray c)->(∀b o,s.heap.get? b=some o->h'.get? b=some o)->Q (.ref D) { s with heap:=h' }):wpAny (model prog w) A (call (.builtin "sorted") [.ref l]) Q E s:=by
 have h2:vs.toArray.size < 2:=by rw[Qbg];exact h1
 have hz:vs.length<=sizeLine:=Qcn (Ao (by omega))
 refine Calls.call_function_entry (Q:=Q) kind_sorted plain_sorted entry_sorted (args_sorted1 (.ref l)) ?_
 unfold Builtin.«sorted»
 refine Qcv (m:=checkCount "sorted" 1 1 [Value.ref l].length) (Qcw ?_)
 refine Qcv (collect_list (vs:=vs) hl ?_ hz)
 have k1:∀b o,s.heap.get? b=some o->((s.heap.push (seqObj "list" #[] 0)).update s.heap.objs.size (Obj.mapSeq (·++vs.toArray))).get? b=some o:=λb o q=>by
  rw[Qax _ _ (Qcm (Qch q))]
  exact Qav _ q
 have z1:((s.heap.push (seqObj "list" #[] 0)).update s.heap.objs.size (Obj.mapSeq (·++vs.toArray))).objs.size=s.heap.objs.size+1:=by rw[Heap.size_update,QbT]
 generalize ((s.heap.push (seqObj "list" #[] 0)).update s.heap.objs.size (Obj.mapSeq (·++vs.toArray)))=g1 at k1 z1
 refine Qcv (wpAny_newList ?_ hz)
 have oD:(g1.push (seqObj "list" vs.toArray 0)).get? g1.objs.size=some (seqObj "list" vs.toArray 0):=QaI _ rfl
 have k2:∀b o,s.heap.get? b=some o->b≠g1.objs.size/\(g1.push (seqObj "list" vs.toArray 0)).get? b=some o:=λb o q=>⟨by rw[z1];exact Qcj (Nat.lt_succ_of_lt (Qch q)),Qav _ (k1 b o q)⟩
 refine Qcv (Qcc (Qbv slot_list_sort ⟨_,oD,rfl⟩ entry_list_sort ?_ (args_list_sort _)))
 rw[list_sort_plain]
 have zD:s.heap.objs.size<=g1.objs.size:=by rw[z1];exact Nat.le_succ _
 generalize g1.objs.size=D at oD k2 zD
 generalize hg2:g1.push (seqObj "list" vs.toArray 0)=g2 at oD k2
 refine Qcv (listItems_at (a:=D) oD rfl ?_)
 refine Qcv (listUpdate_at (a:=D) oD rfl ?_ (by rw[Qbg];exact hz) (Qcr _))
 obtain⟨e1,o1⟩ : ∃e1,(g2.update D (Obj.mapSeq λ_=>(#[]:Array Value))).get? D=some (seqObj "list" #[] e1):=⟨_,get?_update_seq oD λ_=>#[]⟩
 have k3:∀b o,s.heap.get? b=some o->b≠D/\(g2.update D (Obj.mapSeq λ_=>(#[]:Array Value))).get? b=some o:=λb o q=>⟨(k2 b o q).1,by rw[Qax _ _ (Ne.symm (k2 b o q).1)];exact (k2 b o q).2⟩
 have zip2:(arrOf (SortSt.mk' general' (vs.toArray.zip vs.toArray) #[] 7 none)).map (·.2)=vs.toArray:=by
  show (vs.toArray.zip vs.toArray).map (·.2)=vs.toArray
  apply Array.toList_inj.mp
  simp[Array.toList_zip,List.map_snd_zip]
 dsimp only
 generalize g2.update D (Obj.mapSeq λ_=>(#[]:Array Value))=g3 at o1 k3 ⊢
 refine Qcv (seqEpoch_at (a:=D) o1 rfl ?_)
 refine Qcv (wpAny_newTuple ?_ (by simpa using hz))
 refine Qcv (wpAny_newList (items:=[]) ?_ (Qcr _))
 refine Qcc ?_
 have o5:∀x y:Obj,((g3.push x).push y).get? D=some (seqObj "list" #[] e1):=λx y=>Qav _ (Qav _ o1)
 have k5:∀x y:Obj,∀b o,s.heap.get? b=some o->b≠D/\((g3.push x).push y).get? b=some o:=λx y b o q=>⟨(k3 b o q).1,Qav _ (Qav _ (k3 b o q).2)⟩
 dsimp only
 rw[if_pos h2,if_pos h2]
 refine Qcv (Qcw ?_)
 rw[StateT.run_pure]
 refine Qcv (Qcw ?_)
 dsimp only
 refine Qcv (seqEpoch_at (a:=D) (o5 _ _) rfl ?_)
 rw[zip2]
 refine Qcv (listUpdate_at (a:=D) (o5 _ _) rfl ?_ (Qcr _) (by first | (rw[Qbg];exact hz) | (rw[Qbg];omega)))
 simp only[bne_self_eq_false,Bool.false_eq_true,if_false]
 obtain⟨c,oF⟩ : ∃c,(((g3.push { cls:=.type "tuple",data:=.seq vs.toArray }).push { cls:=.type "list",data:=.seq #[] }).update D (Obj.mapSeq λ_=>vs.toArray)).get? D=some (seqObj "list" vs.toArray c):=⟨_,get?_update_seq (o5 _ _) λ_=>vs.toArray⟩
 refine Qcw ⟨_,rfl,Qcw ⟨_,rfl,h D _ c zD oF λb o q=>?_⟩⟩
 rw[Qax _ _ (Ne.symm (k3 b o q).1)]
 exact (k5 _ _ b o q).2
end
theorem xu {h:Heap} {a:Addr} {m m':YB} (x:h.Ns a m) (y:h.Ns a m'):m=m':=by
 obtain⟨o,es,ep,h1,h2,_,h3⟩:=x
 obtain⟨o',es',ep',g1,g2,_,g3⟩:=y
 rw[h1] at g1
 cases g1
 rw[h2] at g2
 cases g2
 funext k
 rw[<-h3,<-g3]
theorem Wr {α β : Type} (d:α) (e:β):∀{vs:List α} {its:List β} {F:α->β->Prop} {is:List Nat},Paired F vs its->(∀i∈is,i < vs.length)->Paired F (is.map λi=>vs.getD i d) (is.map λi=>its.getD i e)
 | vs,its,F,[],_,_=>.nil
 | vs,its,F,i::is,r,h=>by
  refine .cons ?_ (Wr d e r λj hj=>h j (QaE _ hj))
  have hi:=h i (QaR ..)
  have go:∀{l:List α} {m:List β} {i:Nat},Paired F l m->i < l.length->F (l.getD i d) (m.getD i e):=by
   intro l m i r
   induction r generalizing i with
   | nil=>intro h;exact absurd h (QbO _)
   | cons a t ih=>
    intro h
    cases i with
    | zero=>exact a
    | succ i=>exact ih (Nat.lt_of_succ_lt_succ h)
  exact go r hi
theorem range_getD {α : Type} (d:α) (vs:List α):(List.range vs.length).map (λi=>vs.getD i d)=vs:=by
 apply List.ext_getElem
 ·simp
 ·intro i h1 h2
  simp[h2]
def jm (K:YD) (H:Hp) (vs:YG):Prop:=∀v∈vs,∃t ns,v=.ref t/\SqT K H t ((ns:List Int).map V.int)/\0 < ns.length
theorem dR {X:Cx} {pins:YC} {σ : St} {H:Hp} {s:Shared} {h':Heap} (I:Inv X pins σ H s) (k:∀b o,H b≠none\/(∃u,X.base.get? b=some u)->s.heap.get? b=some o->h'.get? b=some o):∀{vs:YG} {its:YE},Vals vs its->jm X.K H vs ->
  ∃fs,PySem.W.KatTups h' its fs/\fs.length=its.length/\∀f∈fs,∃i t,f=Value.int i t
 | _,_,.nil,_=>⟨[],trivial,rfl,λf h=>nomatch h⟩
 | _,_,.cons r t,h=>by
  obtain⟨fs,f1,f2,f3⟩:=dR I k t λv hv=>h v (QaE _ hv)
  obtain⟨tp,ns,rfl,hq,hn⟩:=h _ (QaR ..)
  cases r
  obtain⟨its,rv,⟨o,ho,hc,n,hd⟩,_⟩:=I.tuple hq
  have ho':h'.get? tp=some o:=by
   refine k tp o ?_ ho
   rcases hq with (e |⟨_,e⟩) |⟨_,_,_,e,_⟩
   ·exact .inl (by rw[e];exact λz=>nomatch z)
   ·exact .inl (by rw[e];exact λz=>nomatch z)
   ·exact .inr ⟨_,I.mod.kin _ _ e⟩
  cases ns with
  | nil=>exact absurd hn (Qcb _)
  | cons n0 nr=>
   cases rv with
   | cons r0 rr=>
    obtain⟨tk,rfl⟩:=r0
    exact⟨Value.int n0 tk::fs,PySem.W.KatTups.cons ho' hc hd (by simp) f1,by simp[f2],λf hf=>by
     rcases QbY.mp hf with rfl | hf
     ·exact⟨_,_,rfl⟩
     ·exact f3 f hf⟩
end L2
namespace L2
open PySem PySem.Spec PyProof.Rows
structure Fd (P:Program) (w:World) (K:YD) (mg:YB) (base:Heap) (C:Addr) (m:Str) (k:Nat) (ps:YF) (sp:Sp):Prop where
 ex:∃(f:Addr) (fd:FuncData),Meth K C m f/\Binds K fd ps []/\Gj P w K mg base (CX1 P w) k f fd ps sp
theorem Ip.U6 {P:Program} {w:World} {K:YD} {mg:YB} {base:Heap} {C:Addr} {m qn:Str} {st:Stmt} {ps N:YF} {k:Nat} {sp:Sp} (c:Ip K C m qn st ps) (S:Az N ps (Aj st)) (len:∀vs H Q E,sp vs H Q E->vs.length=ps.length)
  (hbody:∀(X:Cx) (f:Addr) (cdv:Value) (A:Around) (outer:List Env) (s:Shared) (H:Hp) (vs:YG) (Q:VK) (E:XK),X=Lh (CX1 P w) P w K mg base N qn (Aj st) f cdv A outer s H E->Qm X (λ_=>E)->Cw k X.A->sp vs H Q E ->
   ∃t,PSs X (Cz st) t/\t { nx:=λ_ H'=>Q .non H',rt:=Q } (start N vs) H):Fd P w K mg base C m (k+1) ps sp:=by
 obtain⟨f,fd,F,M,b⟩:=c.ex
 refine⟨f,fd,M,b,?_⟩
 obtain⟨oc,od,kV,doc,pm,an,cdv,ct,osl,rfl,lk,hcd⟩:=F.ex
 exact vN lk hcd S len λA outer s H vs Q E hr hsp=>hbody _ f cdv A outer s H vs Q E rfl qe hr hsp
def yW (C:Addr) (m:Str) (sp:Sp) (EX:St->XK) (ta:TE) (t:TA):TE:=fun σ H Q=>ta σ H λx H1=>∃a dx fs,x=.ref a/\H1 a=some (.ins C dx fs)/\fs.lookup m=none/\t σ H1 λvs H2=>sp (x::vs) H2 Q (EX σ)
theorem Ky {X:Cx} {EX:St->XK} {pl:Sem Bool} {k k':Nat} {C:Addr} {ps:YF} {sp:Sp} {m:Str} {apos pos:Pos} {o e:Expr} {es:YJ} {ta:TE} {t:TA} (he0:PE X o ta) (c:Cls X.K C) (g:Fd X.prog X.w X.K X.mg X.base C m k ps sp) (hr:Cw k' X.A) (hx:Qm X EX) (ha:PA X (e::es) t) (hk:k<=k':=by decide)
  (hst:starEach (e::es) X.env=(false,eval e X.env)::starEach es X.env:=by rfl) (hpl:(backTo pos (starEach es X.env)).any (·.1)=false:=by rfl)
  (ht:eval (.Call (.Attribute o m apos) (e::es) [] pos) X.env=(do
   let ov <-eval o X.env
   standAt apos.atName
   let (f,first) <-holding [ov] (getMethod ov m pl)
   callWith pos f first (backTo pos (starEach (e::es) X.env)) (backToKw pos (keywordEach [] X.env))):=by rfl) :
  PE X (.Call (.Attribute o m apos) (e::es) [] pos) (yW C m sp EX ta t):=by
 intro pins s σ H Q I h
 obtain⟨f,fd,hm,b,F⟩:=g.ex
 refine methodCall_KW (pl:=pl) (thn (he0 pins s σ H _ I h) λu s1 zz=>?_) ht
 obtain⟨x,H1,I1,rx,a,dx,fs,ex,ea,l,q⟩:=zz
 subst ex
 obtain rfl:u=Value.ref a:=rx
 refine LC I1 ea c hm l ?_
 refine callWith_K (first:=[.ref a]) (h₀:=X.base) I.ok.mod.kin hm.kp (thn (ha pos pins s1 σ H1 _ I1 q) λus s2 zz=>?_) hst hpl
 obtain⟨vs,H2,I2,r,q2⟩:=zz
 refine⟨I2.kIn,?_⟩
 have r':Vals (.ref a::vs) (Value.ref a::us):=.cons rfl r
 have hl:(Value.ref a::us).length=ps.length:=by rw[<-r'.length];exact F.len _ _ _ _ q2
 have bd:=b s2 (Value.ref a::us) I2.kIn (by rw[QbF];exact hl)
 rw[QbF] at bd
 refine wpAny_call (Qcp (F.run X.A X.stack s2 H2 ⟨Value.ref a::us,[]⟩ (Value.ref a::us) (.ref a::vs) Q (EX σ) (hr.mono hk) I2.env0 bd r' q2) λrr s' hq=>?_)
 cases rr with
 | error ev=>exact hx pins σ H2 s2 ev s' I2 hq
 | ok fl=>
  cases fl with
  | ret u=>exact I2.after hq
  | next=>exact False.elim hq
  | brk=>exact False.elim hq
  | cont=>exact False.elim hq
open PySem.W (KasT kas_asc kas_desc kas_rev kas_tail3 kas_descPart kas_count kas_place kas_bin kas_sort)
def Fb {α : Type} (lt:Nat->Nat->Bool):KasT α->α
 | .ret a=>a
 | .ask i j k=>Fb lt (k (lt i j))
theorem Jg {α β : Type} {lt:Nat->Nat->Bool} {f:α->KasT β}:∀t:KasT α,Fb lt (t.bind f)=Fb lt (f (Fb lt t))
 | .ret a=>rfl
 | .ask i j k=>Jg (k (lt i j))
theorem Tp {α : Type} {lt:Nat->Nat->Bool} {n:Nat} {P:α->Prop}:∀t:KasT α,Gq n P t->P (Fb lt t)
 | .ret a,h=>h
 | .ask i j k,h=>Tp (k (lt i j)) (h.2.2 _)
theorem dU {α : Type} {lt:Nat->Nat->Bool} {n:Nat} {P:α->Prop} {Q:α->Shared->Prop} {s:Shared} {cmp:Nat->Nat->(Bool->Shared->Prop)->Shared->Prop} (hc:∀i j C,i < n->j < n->C (lt i j) s->cmp i j C s):∀t:KasT α,Gq n P t->Q (Fb lt t) s->t.kasWp cmp Q s
 | .ret a,h,q=>q
 | .ask i j k,h,q=>hc i j _ h.1 h.2.1 (dU hc (k (lt i j)) (h.2.2 _) q)
section
variable {n:Nat} {ky:Nat->Int}
def Gk (ky:Nat->Int) (p:Array Nat) (i:Nat):Int:=ky (p.getD i 0)
def ltK (ky:Nat->Int) (i j:Nat):Bool:=decide (ky i < ky j)
def Inj (n:Nat) (ky:Nat->Int):Prop:=∀i j,i < n->j < n->ky i=ky j->i=j
def Wc (ky:Nat->Int) (p:Array Nat) (m:Nat):Prop:=∀i,i+1 < m->Gk ky p i < Gk ky p (i+1)
def Fall (ky:Nat->Int) (p:Array Nat) (m:Nat):Prop:=∀i,i+1 < m->Gk ky p (i+1) < Gk ky p i
def Kr (ky:Nat->Int) (p:Array Nat) (m:Nat):Prop:=∀i j,i < j->j < m->Gk ky p i < Gk ky p j
theorem Wc.all {p:Array Nat} {m:Nat} (h:Wc ky p m):Kr ky p m:=λi j hij hj=>by
 induction j with
 | zero=>omega
 | succ j ih=>
  have h1:=h j hj
  by_cases e:i=j
  ·rw[e];exact h1
  ·exact Int.lt_trans (ih (by omega) (by omega)) h1
theorem lN {α : Type} {l:List α} (nd:l.Nodup) {i j:Nat} (hi:i < l.length) (hj:j < l.length) (e:l[i]=l[j]):i=j:=by
 rcases Nat.lt_trichotomy i j with h | h | h
 ·exact absurd e (Qak.mp nd i j hi hj h)
 ·exact h
 ·exact absurd e.symm (Qak.mp nd j i hj hi h)
theorem Pm.size {p:Array Nat} (h:Pm n p):p.size=n:=by
 have:=List.Perm.length_eq h
 simpa using this
theorem Pm.ne (hi:Inj n ky) {p:Array Nat} (h:Pm n p) {i j:Nat} (a:i < n) (b:j < n) (ne:i≠j):Gk ky p i≠Gk ky p j:=λe=>by
 have n0:0 < n:=by omega
 have hs:=h.size
 have e:=hi _ _ (h.lt n0 i) (h.lt n0 j) e
 have nd:p.toList.Nodup:=(List.Perm.nodup_iff h).mpr List.nodup_range
 have e1:p.getD i 0=p.toList[i]'(by simp[hs,a]):=by simp[hs,a]
 have e2:p.getD j 0=p.toList[j]'(by simp[hs,b]):=by simp[hs,b]
 rw[e1,e2] at e
 exact ne (lN nd _ _ e)
theorem Vw (hi:Inj n ky) {p:Array Nat} (h:Pm n p):∀f k,1<=k->k+f<=n->Wc ky p k->∃m,Fb (ltK ky) (kas_asc p f k)=m/\k<=m/\m<=k+f/\Wc ky p m/\(m < k+f->Gk ky p m < Gk ky p (m - 1))
 | 0,k,_,_,r=>⟨k,rfl,Qcq _,Qcq _,r,λz=>absurd z (Qcb _)⟩
 | f+1,k,h1,h2,r=>by
  show ∃m,Fb (ltK ky) (if ltK ky (p.getD k 0) (p.getD (k - 1) 0)=true then KasT.ret k else kas_asc p f (k+1))=m/\_
  by_cases c:Gk ky p k < Gk ky p (k - 1)
  ·rw[if_pos (show ltK ky _ _=true from QbS c)]
   exact⟨k,rfl,Qcq _,by omega,r,λ_=>c⟩
  ·rw[if_neg (show ¬ltK ky _ _=true from λz=>c (Qbj z))]
   obtain⟨m,e,a,b,d,g⟩:=Vw hi h f (k+1) (by omega) (by omega) (λi hi'=>by
    by_cases e:i+1=k
    ·have:=h.ne hi (i:=i) (j:=i+1) (by omega) (by omega) (by omega)
     have c:¬Gk ky p (i+1) < Gk ky p i:=by rw[<-e] at c;exact c
     omega
    ·exact r i (by omega))
   exact⟨m,e,by omega,by omega,d,λz=>g (by omega)⟩
theorem YS (hi:Inj n ky) {p:Array Nat} (h:Pm n p):∀f k,1<=k->k+f<=n->Fall ky p k->∃m,Fb (ltK ky) (kas_desc f p k 0)=(p,m,0)/\k<=m/\m<=k+f/\Fall ky p m
 | 0,k,_,_,r=>⟨k,rfl,Qcq _,Qcq _,r⟩
 | f+1,k,h1,h2,r=>by
  show ∃m,Fb (ltK ky) (if ltK ky (p.getD k 0) (p.getD (k - 1) 0)=true then (if 0 > 0 then kas_desc f (kas_rev p (k - (0+1)) k) (k+1) 0 else kas_desc f p (k+1) 0) else KasT.ask (p.getD (k - 1) 0) (p.getD k 0) λd=>if d=true then KasT.ret (p,k,0) else kas_desc f p (k+1) (0+1))=(p,m,0)/\_
  by_cases c:Gk ky p k < Gk ky p (k - 1)
  ·rw[if_pos (show ltK ky _ _=true from QbS c),if_neg (Qcb 0)]
   obtain⟨m,e,a,b,d⟩:=YS hi h f (k+1) (by omega) (by omega) (λi hi'=>by
    by_cases e:i+1=k
    ·rw[<-e] at c;exact c
    ·exact r i (by omega))
   exact⟨m,e,by omega,by omega,d⟩
  ·rw[if_neg (show ¬ltK ky _ _=true from λz=>c (Qbj z))]
   have ne:=h.ne hi (i:=k) (j:=k - 1) (by omega) (by omega) (by omega)
   show ∃m,Fb (ltK ky) (if ltK ky (p.getD (k - 1) 0) (p.getD k 0)=true then KasT.ret (p,k,0) else kas_desc f p (k+1) (0+1))=(p,m,0)/\_
   rw[if_pos (show ltK ky _ _=true from QbS (show Gk ky p (k - 1) < Gk ky p k by omega))]
   exact⟨k,rfl,Qcq _,by omega,r⟩
theorem XF {p q:Array Nat} {i j:Nat} (e:p[i]?=q[j]?):Gk ky p i=Gk ky q j:=by
 unfold Gk
 rw[Array.getD_eq_getD_getElem?,Array.getD_eq_getD_getElem?,e]
theorem oG {p:Array Nat} {m i:Nat} (hm:m<=p.size) (hi:i < m):Gk ky (kas_rev p 0 m) i=Gk ky p (m - 1 - i):=by
 apply XF
 unfold kas_rev
 rw[getElem?_mirror_all hm,if_pos ⟨Qcr _,hi⟩]
 congr 1
 omega
theorem oH {p:Array Nat} {k l i:Nat} (hk:k < p.size) (hl:l<=k):Gk ky (bubble p k (k - l)) i=if i=l then Gk ky p k else if l < i/\i<=k then Gk ky p (i - 1) else Gk ky p i:=by
 have e:=getElem?_bubble hk (k - l) (by omega) i
 rw[show k - (k - l)=l by omega] at e
 split at e
 ·rename_i h;rw[if_pos h];exact XF e
 ·rename_i h
  rw[if_neg h]
  split at e
  ·rename_i h;rw[if_pos h];exact XF e
  ·rename_i h;rw[if_neg h];exact XF e
def Done (n:Nat) (ky:Nat->Int) (r:Nat×Array Nat):Prop:=1<=r.1/\r.1<=n/\Wc ky r.2 r.1
theorem pL (hi:Inj n ky) {p:Array Nat} (h:Pm n p) {m:Nat} (h1:1<=m) (h2:m<=n) (f:Fall ky p m):Done n ky (Fb (ltK ky) (kas_tail3 m n p)):=by
 have hs:=h.size
 have r0:Wc ky (kas_rev p 0 m) m:=λi hi'=>by
  rw[oG (by omega) (by omega),oG (by omega) (by omega)]
  have:=f (m - 1 - (i+1)) (by omega)
  rw[show m - 1 - (i+1)+1=m - 1 - i by omega] at this
  exact this
 obtain⟨k,e,a,b,d,_⟩:=Vw hi (h.rev 0 m) (n - m) m h1 (by omega) r0
 unfold kas_tail3
 rw[Jg,e]
 exact⟨by show 1<=k;omega,by show k<=n;omega,d⟩
theorem j7 (hi:Inj n ky) {p:Array Nat} (h:Pm n p) (n0:2<=n):Done n ky (Fb (ltK ky) (kas_count n p)):=by
 obtain⟨m,e,a,b,d,g⟩:=Vw hi h (n - 1) 1 (Qcq _) (by omega) (λi hi'=>by omega)
 unfold kas_count
 rw[Jg,e]
 by_cases c1:m=n
 ·rw[if_pos (by rw[c1];exact beq_self_eq_true n)]
  exact⟨a,by show m<=n;omega,d⟩
 ·rw[if_neg (λz=>c1 (eq_of_beq z))]
  by_cases c2:m > 1
  ·rw[if_pos c2]
   show Done n ky (Fb (ltK ky) (if ltK ky (p.getD 0 0) (p.getD (m - 1) 0)=true then KasT.ret (m,p) else kas_descPart m n (kas_rev p 0 m)))
   rw[if_pos (show ltK ky _ _=true from QbS (d.all 0 (m - 1) (by omega) (by omega)))]
   exact⟨a,by show m<=n;omega,d⟩
  ·rw[if_neg c2]
   have m1:m=1:=by omega
   subst m1
   have g:=g (by omega)
   obtain⟨k,e,a,b,d⟩:=YS hi h (n - (1+1)) (1+1) (by omega) (by omega) (λi hi'=>by
    have:i=0:=by omega
    subst this
    exact g)
   unfold kas_descPart
   rw[Jg,e]
   show Done n ky (Fb (ltK ky) (if 0 > 0 then _ else kas_tail3 k n p))
   rw[if_neg (Qcb 0)]
   exact pL hi h (by omega) (by omega) d
theorem QM (hi:Inj n ky) {p:Array Nat} (h:Pm n p) {k:Nat} (hk:k < n) (R:Kr ky p k):∀f l r,r<=l+f->l<=r->r<=k->(∀i,i < l->Gk ky p i < Gk ky p k)->(∀i,r<=i->i < k->Gk ky p k < Gk ky p i)->∃m,Fb (ltK ky) (kas_place p k f l r)=m/\m<=k/\(∀i,i < m->Gk ky p i < Gk ky p k)/\∀i,m<=i->i < k->Gk ky p k < Gk ky p i
 | 0,l,r,h1,h2,h3,h4,h5=>⟨l,rfl,by omega,h4,λi a b=>h5 i (by omega) b⟩
 | f+1,l,r,h1,h2,h3,h4,h5=>by
  unfold kas_place
  by_cases c:l ≥ r
  ·rw[if_pos c]
   exact⟨l,rfl,by omega,h4,λi a b=>h5 i (by omega) b⟩
  ·rw[if_neg c]
   show ∃m,Fb (ltK ky) (if ltK ky (p.getD k 0) (p.getD ((l+r) / 2) 0)=true then kas_place p k f l ((l+r) / 2) else kas_place p k f ((l+r) / 2+1) r)=m/\_
   have hm:(l+r) / 2 < r/\l<=(l+r) / 2:=by omega
   generalize (l+r) / 2=q at hm ⊢
   by_cases d:Gk ky p k < Gk ky p q
   ·rw[if_pos (show ltK ky _ _=true from QbS d)]
    refine QM hi h hk R f l q (by omega) (by omega) (by omega) h4 λi a b=>?_
    by_cases e:i=q
    ·rw[e];exact d
    ·exact Int.lt_trans d (R q i (by omega) b)
   ·rw[if_neg (show ¬ltK ky _ _=true from λz=>d (Qbj z))]
    refine QM hi h hk R f (q+1) r (by omega) (by omega) (by omega) (λi a=>?_) h5
    have ne:=h.ne hi (i:=q) (j:=k) (by omega) (by omega) (by omega)
    have lt:Gk ky p q < Gk ky p k:=by omega
    by_cases e:i=q
    ·rw[e];exact lt
    ·exact Int.lt_trans (R i q (by omega) (by omega)) lt
theorem dD (hi:Inj n ky):∀f (p:Array Nat),Pm n p->∀k,k+f=n->Kr ky p k->Kr ky (Fb (ltK ky) (kas_bin f p k)) n
 | 0,p,h,k,e,R=>by rw[<-e];exact R
 | f+1,p,h,k,e,R=>by
  have hs:=h.size
  show Kr ky (Fb (ltK ky) ((kas_place p k k 0 k).bind λl=>kas_bin f (bubble p k (k - l)) (k+1))) n
  rw[Jg]
  obtain⟨l,el,a,b,c⟩:=QM hi h (k:=k) (by omega) R k 0 k (by omega) (Qcr _) (Qcq _) (λi z=>absurd z (QbO _)) (λi x y=>by omega)
  rw[el]
  refine dD hi f _ (h.bub _ _) (k+1) (by omega) λi j hij hj=>?_
  rw[oH (by omega) a,oH (by omega) a]
  by_cases ei:i=l
  ·rw[if_pos ei,if_neg (by omega),if_pos ⟨by omega,by omega⟩]
   exact c _ (by omega) (by omega)
  ·rw[if_neg ei]
   by_cases ej:j=l
   ·rw[if_neg (by omega),if_pos ej]
    exact b _ (by omega)
   ·rw[if_neg ej]
    by_cases gi:l < i
    ·rw[if_pos ⟨gi,by omega⟩,if_pos ⟨by omega,by omega⟩]
     exact R _ _ (by omega) (by omega)
    ·rw[if_neg (λz=>gi z.1)]
     by_cases gj:l < j
     ·rw[if_pos ⟨gj,by omega⟩]
      exact R _ _ (by omega) (by omega)
     ·rw[if_neg (λz=>gj z.1)]
      exact R _ _ (by omega) (by omega)
theorem pN (hi:Inj n ky) (n0:2<=n):Kr ky (Fb (ltK ky) (kas_sort n)) n:=by
 have h0:Pm n (List.toArray (List.range n)):=by unfold Pm;exact List.Perm.refl _
 obtain⟨a,b,c⟩:=j7 hi h0 n0
 have hp:=Tp (lt:=ltK ky) _ (Xd (by omega) h0 n)
 unfold kas_sort
 rw[Jg]
 generalize Fb (ltK ky) (kas_count n (List.toArray (List.range n)))=r at a b c hp
 show Kr ky (Fb (ltK ky) (if r.1 < n then kas_bin (n - max r.1 1) r.2 (max r.1 1) else KasT.ret r.2)) n
 have em:max r.1 1=r.1:=by omega
 by_cases d:r.1 < n
 ·rw[if_pos d,em]
  exact dD hi _ _ hp _ (by omega) c.all
 ·rw[if_neg d]
  have:r.1=n:=by omega
  rw[<-this]
  exact c.all
theorem Kr.list {p:Array Nat} (h:Pm n p) (R:Kr ky p n):(p.toList.map ky).Pairwise (· < ·):=by
 have hs:=h.size
 rw[Qak]
 intro i j hi hj hij
 have hi':i < n:=by simpa [hs] using hi
 have hj':j < n:=by simpa [hs] using hj
 have:=R i j hij hj'
 unfold Gk at this
 have e1:p.getD i 0=p[i]'(by omega):=by simp[hs,hi']
 have e2:p.getD j 0=p[j]'(by omega):=by simp[hs,hj']
 rw[e1,e2] at this
 simpa using this
end
theorem bw {α β : Type} (d:α) (e:β) {F:α->β->Prop}:∀{l:List α} {m:List β} {i:Nat},Paired F l m->i < l.length->F (l.getD i d) (m.getD i e):=by
 intro l m i r
 induction r generalizing i with
 | nil=>intro h;exact absurd h (QbO _)
 | cons a t ih=>
  intro h
  cases i with
  | zero=>exact a
  | succ i=>exact ih (Nat.lt_of_succ_lt_succ h)
section
variable {prog:Program} {w:World} {A:Around} {s:Shared}
theorem AG {fin:Bool} {C:Bool->Shared->Prop} (hC:C fin s):∀(l:YE),(∀y∈l,∃a t,y=Value.int a t)->∀i,PySem.W.KatLex prog w A true fin C (l.zip l) i s
 | [],_,_=>hC
 | y::r,h,i=>by
  obtain⟨a,t,rfl⟩:=h y (QaR ..)
  rw[List.zip_cons_cons]
  refine PySem.W.kat_cons (wpAny_eqBool_int ?_)
  rw[show (a == a)=true from beq_self_eq_true a]
  exact PySem.W.kat_yes (AG hC r (λy hy=>h y (QaE _ hy)) (i+1))
end
end L2
namespace PySem
open Sem (wp)
open AutoSeq1 (wpAny_loadPart')
section
variable {prog:Program} {w:World} {A:Around} {E:YA} {s:Shared}
theorem V8 {e it l:Addr} {i:Nat} {j:Int} {items:Array Value} {old:Value} {Q:Option Value->Shared->Prop} (hh:A.handled=none) (he:IsEnum s.heap e it j old) (hit:s.heap.IsListIter it l i) (hl:s.heap.IsList l items) (hx:items[i]?=none)
  (hQ:∀h',Heap.ExtBut it s.heap h'->Q none { s with heap:=h' }):wpAny (model prog w) A (pyNext (.ref e)) Q E s:=by
 have hT:s.TypeIs (.ref e) "enumerate":=⟨_,he,rfl⟩
 unfold pyNext
 refine Qcv (Qcg (Qar (name:=Str.ofString "__next__") hT F.slot_enumerate_next (Qbv F.slot_enumerate_next hT F.entry_enumerate_next ?_ (F.args_enumerate_next_1 _))))
 show wpAny _ _ (field (.ref e) 2 >>= _) _ _ _
 refine Qcv (Qct he rfl (x:=.ref it) rfl (Qcv (wpAny_nextOf_list_end hh hit hl hx λh' x he' hx'=>?_)))
 obtain⟨o,ho,hc⟩:=hx'
 exact Qcv (wpAny_isInstance (T:="StopIteration") (b:=true) ⟨o,ho,hc⟩ isSubtype_stop (Qcw (hQ _ he')))
end
end PySem
namespace L2
open PySem PySem.Spec PyProof.Rows
def Rh (K:YD) (a:Addr) (lo:Nat):It:=
 ⟨λi H=>∃xs x,SqL K H a xs/\xs[i]?=some x,λi H v H'=>∃p x,H p=none/\v=.ref p/\H'=upd H p (.tup [.int ((lo+i:Nat):Int),x])/\∀xs,SqL K H a xs->xs[i]?=some x,λi H=>∃xs,SqL K H a xs/\xs.length<=i⟩
theorem fH {P:Program} {w:World} {K:YD} {elts:YJ} {k:Nat} {pos:Pos} (a e it:Addr) (lo:Nat) (nei:e≠it):Turn P w K (.Tuple elts k pos) (Rh K a lo) [e,it] e (λi h=>(∃old,IsEnum h e it ((lo+i:Nat):Int) old)/\h.IsListIter it a i) where
 mem:=by simp
 obj:=λi h st b hb=>by
  obtain⟨⟨old,he⟩,o,ho,hc,hd⟩:=st
  rcases QbY.mp hb with rfl | hb
  ·exact⟨_,he,λv z=>by cases (show Data.fields _=Data.cell v from z)⟩
  ·have:b=it:=by simpa using hb
   subst this
   exact⟨o,ho,λv z=>by rw[hd] at z;cases z⟩
 keep:=λi h h' st k=>by
  obtain⟨⟨old,he⟩,hi⟩:=st
  exact⟨⟨old,k e (by simp) _ he⟩,hi.at λo q=>k it (by simp) o q⟩
 item:=by
  intro X hP hw hK hc i pins s σ H E I hf st hg
  subst hP hw hK
  obtain⟨xs,x,hq,hx⟩:=hg
  obtain⟨its,rv,p,hz⟩:=I.list hq
  obtain⟨u,hu,ru⟩:=rv.get hx
  obtain⟨⟨old,he⟩,hit⟩:=st
  have hts:s.heap.IsList a its.toArray:=p.isList
  have ane:a≠e:=λz=>by
   obtain⟨o,ho,hcl,_⟩:=hts
   rw[z,he] at ho
   cases ho
   injection hcl with q
   exact absurd q (by decide)
  have ani:a≠it:=λz=>by
   obtain⟨o,ho,hcl,_⟩:=hts
   obtain⟨o',ho',hcl',_⟩:=hit
   rw[z,ho'] at ho
   cases ho
   rw[hcl'] at hcl
   injection hcl with q
   exact absurd q (by decide)
  have hlt:i < its.toArray.size:=by
   have:=(Qah.mp hu).1
   simpa using this
  have D:=(Draws.list (prog:=X.prog) (w:=X.w) (A:=X.A.in1) (I.ok.hd hc) it a ani its.toArray).from lo
  refine wpAny_pyNext_enum_itemD D he ⟨i,rfl,Qcn hlt,hit,hts⟩ (by omega) nei (by simp[nei,ane.symm]) λy h1 tk hP ho hst hT hsz hk=>?_
  obtain⟨i',ei,hy⟩:=hP
  have:i'=i:=by omega
  subst this
  have ey:y=u:=by
   have h2:its.toArray[i']?=some u:=by simpa using hu
   rw[h2] at hy
   exact (QbH hy).symm
  subst ey
  refine⟨_,rfl,wpAny_letOwnedTupleGo_enum ho λh2 he2 hs2=>?_⟩
  have hlt2:s.heap.objs.size≠e:=Qcm (Qch he)
  have hT2:h2.get? s.heap.objs.size=some { cls:=.type "tuple",data:=.seq #[.int ((lo+i':Nat):Int) tk,y] }:=(hs2.2 _ hlt2).trans hT
  have new:Bt X.prog X.w (upd H s.heap.objs.size (.tup [.int ((lo+i':Nat):Int),x])) h2 s.heap.objs.size (.tup [.int ((lo+i':Nat):Int),x]):=
   ⟨by show 2<=sizeLine;decide,[.int ((lo+i':Nat):Int) tk,y],.cons ⟨tk,rfl⟩ (.cons ru .nil),_,hT2,rfl,0,rfl⟩
  have I1:=I.Nu (h':=h2) (t':=tk+1) (Qcq _) (λb q hb z=>(hs2.2 b (λw=>hb (by simp[w]))).trans (hk b q (λw=>hb (by simp[w])) (λw=>hb (by simp[w])) z)) hf new
  refine⟨.ref s.heap.objs.size,_,I1,rfl,⟨s.heap.objs.size,x,I.hok.fresh (Qcq _),rfl,rfl,λys hy'=>by rw[I.Zw hy' hq];exact hx⟩,⟨⟨y,?_⟩,?_⟩,λb hb=>?_⟩
  ·have:=he2
   rw[show ((lo+(i'+1):Nat):Int)=((lo+i':Nat):Int)+1 by omega]
   exact this
  ·obtain⟨i2,e2,_,st2,_⟩:=hst
   have:i2=i'+1:=by omega
   subst this
   exact st2.at λo q=>(hs2.2 it (Ne.symm nei)).trans q
  ·have hb':b < s.heap.objs.size:=by
    rcases QbY.mp hb with rfl | hb
    ·exact Qch he
    ·have:b=it:=by simpa using hb
     subst this
     obtain⟨o,ho',_⟩:=hit
     exact Qch ho'
   rw[Al (Qcj hb')]
   exact (hf b hb).1
 done:=by
  intro X hP hw hK hc i pins s σ H E I hf st hg
  subst hP hw hK
  obtain⟨xs,hq,hx⟩:=hg
  obtain⟨its,rv,p,hz⟩:=I.list hq
  obtain⟨⟨old,he⟩,hit⟩:=st
  have hl:=rv.length
  exact V8 (I.ok.hd hc) he hit p.isList (by simp;omega) λh' eb=>⟨rfl,I.Rm (t':=s.toks) (λb o hb q=>eb b o (λz=>hb (by simp[z])) q) hf⟩
 self:=λ_ _ _ _ _ st h=>let ⟨⟨_,he⟩,_⟩:=st;wpAny_pyIter_enum he h
section
variable {X:Cx}
theorem uG {pins:YC} {σ : St} {H:Hp} {s:Shared} {R:It->Hp->Prop} {E:YA} {elts:YJ} {k:Nat} {pos:Pos} {a:Addr} {lo:Nat} {tk:Nat} (I:Inv X pins σ H s) (q:R (Rh X.K a lo) H) :
  wpAny (model X.prog X.w) X.A (pyIter (.ref (s.heap.objs.size+1))) (PIE X pins σ (.Tuple elts k pos) R) E
   { s with heap:=(s.heap.push { cls:=.type "list_iterator",data:=.fields #[.ref a,.int 0 0] }).push { cls:=.type "enumerate",data:=.fields #[.none,.bool false,.ref s.heap.objs.size,rawInt (lo:Int),.none,.none] },toks:=tk }:=by
 have hz:(s.heap.push { cls:=.type "list_iterator",data:=.fields #[.ref a,.int 0 0] }).objs.size=s.heap.objs.size+1:=QbT ..
 have he:IsEnum ((s.heap.push { cls:=.type "list_iterator",data:=.fields #[.ref a,.int 0 0] }).push { cls:=.type "enumerate",data:=.fields #[.none,.bool false,.ref s.heap.objs.size,rawInt (lo:Int),.none,.none] }) (s.heap.objs.size+1) s.heap.objs.size (lo:Int) .none:=by
  have:=QaI (s.heap.push { cls:=.type "list_iterator",data:=.fields #[.ref a,.int 0 0] }) (o:={ cls:=.type "enumerate",data:=.fields #[.none,.bool false,.ref s.heap.objs.size,rawInt (lo:Int),.none,.none] }) rfl
  rw[hz] at this
  exact this
 refine wpAny_pyIter_enum he ⟨s.heap.objs.size+1,[s.heap.objs.size+1,s.heap.objs.size],_,_,H,rfl,I.kept (t':=tk) λb o e=>Qav _ (Qav _ e),fH a (s.heap.objs.size+1) s.heap.objs.size lo (Nat.succ_ne_self _),⟨⟨.none,he⟩,⟨_,Qav _ (QaI _ rfl),rfl,rfl⟩⟩,λb hb=>?_,q⟩
 have hb':s.heap.objs.size<=b:=by
  simp only[QbY,Qbu,Qcz] at hb
  rcases hb with rfl | rfl
  ·exact Nat.le_succ _
  ·exact Qcq _
 exact I.Qd hb' (I.hok.fresh hb')
end
section
variable {X:Cx}
def AR (K:YD) (lo:Nat) (tl:TE):TI:=fun σ H R=>tl σ H λx H1=>∃a,x=.ref a/\(∃xs,SqL K H1 a xs)/\R (Rh K a lo) H1
theorem bY {pins:YC} {σ : St} {H:Hp} {s:Shared} {R:It->Hp->Prop} {elts:YJ} {k:Nat} {pos:Pos} {a:Addr} {xs:YG} (I:Inv X pins σ H s) (hq:SqL X.K H a xs) (q:R (Rh X.K a 0) H) :
  wpAny (model X.prog X.w) X.A (call (.type "enumerate") [.ref a]) (λv s1=>wpAny (model X.prog X.w) X.A (pyIter v) (PIE X pins σ (.Tuple elts k pos) R) X.xe s1) X.xe s:=by
 obtain⟨its,rv,p,hz⟩:=I.list hq
 obtain⟨⟨c,dct,dt,sl⟩,hl,hc,n,hd⟩:=p.isList
 replace hc:c=.type "list":=hc
 replace hd:dt=.seq its.toArray n:=hd
 subst hc hd
 refine callType_new F.called_enumerate (by decide) (F.typeCall_enumerate_1 _) (F.newCall_enumerate_1 _) (λobj=>F.args_object_init_2 obj _) F.entry_enumerate_new (meets_enumerate_newL a its.toArray n dct sl) ⟨hl,?_⟩
 have hz:(s.heap.push { cls:=.type "list_iterator",data:=.fields #[.ref a,.int 0 0] }).objs.size=s.heap.objs.size+1:=QbT ..
 show _/\_
 refine⟨⟨_,QaI _ rfl,rfl⟩,?_⟩
 rw[hz]
 exact uG (lo:=0) (tk:=s.toks) I q
end
section
variable {X:Cx}
theorem kY {x:Expr} {tx:TE} {p pos tp:Pos} {elts:YJ} {k:Nat} (hg:Gl X "enumerate") (hm:X.mg "enumerate"=none) (hl:PE X x tx) (hs:starEach [x] X.env=[(false,eval x X.env)]:=by rfl):PI X (.Tuple elts k tp) (.Call (.Name "enumerate" p) [x] [] pos) (AR X.K 0 tx):=by
 intro pins s σ H R I h
 refine Call_ (Ii I hg hm boot_enumerate (Qae (thn ((Aa hl Ab (by rw[hs];rfl)) pos pins s σ H (λvs H1=>match vs with | [v]=>∃a,v=.ref a/\(∃xs,SqL X.K H1 a xs)/\R (Rh X.K a 0) H1 | _=>False) I h) λus s1 ⟨vs,H1,I1,r1,q1⟩=>?_) hs rfl))
 cases r1 with
 | nil=>exact False.elim q1
 | cons r rr=>
  cases rr with
  | nil=>
   obtain⟨a,e,⟨xs,hq⟩,q⟩:=q1
   subst e
   cases r
   exact bY I1 hq q
  | cons _ _=>exact False.elim q1
theorem m9 {K:YD} {a:Addr} {lo:Nat} {xs:YG} {g:TG} {tb:TS} {D:Ends} {σ : St} {H:Hp} (Pv:YN) (h0:Pv 0 σ H) (hl:∀i σ H',i<=xs.length->Pv i σ H'->SqL K H' a xs)
  (hs:∀i x p σ H',xs[i]?=some x->Pv i σ H'->H' p=none->g (.ref p) σ (upd H' p (.tup [.int ((lo+i:Nat):Int),x])) fun σ2 H2=>tb { D with nx:=Pv (i+1),ct:=Pv (i+1),bk:=D.nx } σ2 H2) (hd:∀ σ H',Pv xs.length σ H'->D.nx σ H') :
  ∃W:Nat->YN,(∃m,W 0 m σ H)/\∀i m σ H,W i m σ H ->
   ((Rh K a lo).stop i H/\D.nx σ H)\/((Rh K a lo).go i H/\∃N:YO,(∀ σ' H',N σ' H'->∃m',m' < m/\W (i+1) m' σ' H')/\∀x H',(Rh K a lo).yld i H x H'->g x σ H' fun σ2 H2=>tb { D with nx:=N,ct:=N,bk:=D.nx } σ2 H2):=by
 refine⟨λi m σ H=>m=xs.length - i/\i<=xs.length/\Pv i σ H,⟨xs.length,by simp,Qcr _,h0⟩,?_⟩
 rintro i m σ H ⟨rfl,hi,p⟩
 have q:=hl i σ H hi p
 by_cases hlt:i < xs.length
 ·refine .inr ⟨⟨xs,xs[i],q,by simp[hlt]⟩,Pv (i+1),fun σ3 H3 p'=>⟨xs.length - (i+1),by omega,rfl,hlt,p'⟩,λv H2 y=>?_⟩
  obtain⟨pa,x,hn,rfl,rfl,hx⟩:=y
  exact hs i x pa σ _ (hx xs q) p hn
 ·have e:i=xs.length:=by omega
  subst e
  exact .inl ⟨⟨xs,q,Qcq _⟩,hd σ H p⟩
end
theorem pX {X:Cx} {N':YF} {src:List (Option Nat)} {sc:Scope} {kx vx tg iter:Expr} {ifs:YJ} {pos spos px:Pos} {wi:TI} {g:TG} {tt:TT} {tk tv:TE} {i:Nat} {x:Str} (hN:X.N.Nodup) (hi0:X.N[i]?=some x) (hx:Loc X.env.scope x) (hc:X.calm=true) (S:Bp X N' src sc)
  (hi:PI X tg iter wi) (hg:∀s3 H3 fp pn,PG (cxC X N' sc s3 H3 fp pn) tg g) (ht:∀s3 H3 fp pn,PF (cxC X N' sc s3 H3 fp pn) ifs tt) (hk:∀s3 H3 fp pn,PE (cxC X N' sc s3 H3 fp pn) kx tk) (hv:∀s3 H3 fp pn,PE (cxC X N' sc s3 H3 fp pn) vx tv)
  (hsw:swapsWith (.DictComp kx vx [⟨tg,iter,ifs,0⟩] sc pos) (some (.Name x px)) spos.line X.env=pure true:=by rfl) (hs:∀x,foldedSetIterable iter X.env x=pure x:=by intro _;rfl)
  (hf:X.fn x=true\/X.env.scope.names.lookup x=some .local:=by first | exact .inl rfl | exact .inr rfl | assumption) :
  PS X (.Assign [.Name x px] (.DictComp kx vx [⟨tg,iter,ifs,0⟩] sc pos) spos) (fO (X5 wi src g tt tk tv) (Hr i)):=by
 intro pins s σ H D I h
 rw[exec_Assign_Name_used _ _ _ _ hsw]
 refine Qcv (Qce (Qcv ?_))
 show wpAny _ X.A (do let _ <-comprehension (.DictComp kx vx [⟨tg,iter,ifs,0⟩] sc pos) sc X.env _ newDict false (eval iter X.env) (some (assign (.Name x px) X.env))) _ _ s
 refine Qcv (thn (Vc (R:=λ_ s'=>SP X pins D .next s') hc S hi hg ht hk hv hs I h λs3 H3 fp σ4 H4 s5 l I3 f3 J5 q=>?_) λ_ s' hq=>Qcw (Qcw hq))
 obtain⟨m,⟨oC,es,ep,hoC,r⟩,_⟩:=J5.loc
 have I6:Inv X pins σ H4 { s5 with heap:=s5.heap }:=Q9 I3 f3 J5 (Heap.SameBut.refl _ _)
 have hCn:H4 s3.heap.objs.size=none:=J5.free
 have neL:s3.heap.objs.size≠X.env.locals:=Qcm I3.lt
 have qM:∀v,oC.data≠.cell v:=λv z=>by rw[r.1] at z;cases z
 have I7:Inv X (pins++[(s3.heap.objs.size,oC)]) σ H4 s5:=I6.Rv λp hp=>(QbD.mp hp).elim (λz=>I6.pin p (QaA _ z)) λz=>by
  cases QaX.mp z
  exact⟨hoC,hCn,neL,I3.qK (Qcq _),qM⟩
 show wpAny _ X.A (assign (.Name x px) X.env (.ref l)) _ _ s5
 refine wpAny_assign_Name (JK (v:=.ref l) I7 hN hi0 hx rfl (λs6 I8=>?_) hf)
 have k8:=(I8.pin (s3.heap.objs.size,oC) (QaA _ (QaA _ (QaX.mpr rfl)))).1
 refine⟨m,⟨oC,es,ep,k8,r⟩,λh' sb=>⟨_,H4,?_,q⟩⟩
 have I9:=I8.G5
 refine I9.turned (t':=s6.toks) (λb o hb e=>sb.extBut b o hb e) hCn neL (.inr I3.sz) (λy c e z=>?_) (λp hp z=>?_)
 ·obtain⟨v,o,ho,_⟩:=I3.cell y c e
  exact absurd (Qch ho) (by rw[z];exact Qcb _)
 ·have:=(I3.pin p hp).1
  exact absurd (Qch this) (by rw[z];exact Qcb _)
end L2
namespace L2
open PySem
theorem Fo {x:Str} {p:Pos} {es:YJ} {env:Env}:starEach (.Name x p::es) env=(false,eval (.Name x p) env)::starEach es env:=by rfl
theorem zx {as:YJ} {p:Pos} {es:YJ} {env:Env}:starEach (.List as p::es) env=(false,eval (.List as p) env)::starEach es env:=by rfl
theorem zu {a b:Expr} {p:Pos} {es:YJ} {env:Env}:starEach (.Subscript a b p::es) env=(false,eval (.Subscript a b p) env)::starEach es env:=by rfl
end L2
namespace L2
open PySem PySem.Spec PyProof.Rows
def jq (K:YD) (a b:Addr):It:=
  ⟨λi H=>∃xs ys x y,H a=some (.tup xs)/\H b=some (.tup ys)/\xs[i]?=some x/\ys[i]?=some y,
   λi H v H'=>∃p x y,H p=none/\v=.ref p/\H'=upd H p (.tup [x,y])/\(∀xs,H a=some (.tup xs)->xs[i]?=some x)/\∀ys,H b=some (.tup ys)->ys[i]?=some y,
   λi H=>∃xs ys,H a=some (.tup xs)/\H b=some (.tup ys)/\(xs.length<=i\/ys.length<=i)⟩
theorem fB {P:Program} {w:World} {K:YD} {elts:YJ} {k:Nat} {pos:Pos} (a b z TI TO i1 i2:Addr) (nd:[z,TI,TO,i1,i2].Nodup) :
  Turn P w K (.Tuple elts k pos) (jq K a b) [z,TI,TO,i1,i2] z (λi h=>(∃f1,ZZ.IsZ h z TI TO .none f1)/\ZZ.Di h TI [.ref i1,.ref i2]/\(∃olds:YE,ZZ.Di h TO olds/\olds.length=2)/\h.IsTupleIter i1 a i/\h.IsTupleIter i2 b i) where
 mem:=by simp
 obj:=λi h st c hc=>by
  obtain⟨⟨f1,hz⟩,hTI,⟨olds,hTO,_⟩,⟨o1,e1,_,d1⟩,o2,e2,_,d2⟩:=st
  simp only[QbY,Qbu,Qcz] at hc
  rcases hc with rfl | rfl | rfl | rfl | rfl
  ·exact⟨_,hz,λv q=>by cases (show Data.fields _=Data.cell v from q)⟩
  ·exact⟨_,hTI,λv q=>by cases (show Data.seq _ _=Data.cell v from q)⟩
  ·exact⟨_,hTO,λv q=>by cases (show Data.seq _ _=Data.cell v from q)⟩
  ·exact⟨o1,e1,λv q=>by rw[d1] at q;cases q⟩
  ·exact⟨o2,e2,λv q=>by rw[d2] at q;cases q⟩
 keep:=λi h h' st k=>by
  obtain⟨⟨f1,hz⟩,hTI,⟨olds,hTO,l⟩,h1,h2⟩:=st
  exact⟨⟨f1,k z (by simp) _ hz⟩,k TI (by simp) _ hTI,⟨olds,k TO (by simp) _ hTO,l⟩,h1.at λo e=>k i1 (by simp) o e,h2.at λo e=>k i2 (by simp) o e⟩
 item:=by
  intro X hP hw hK hc i pins s σ H E I hf st hg
  subst hP hw hK
  obtain⟨xs,ys,x,y,hq1,hq2,hx,hy⟩:=hg
  obtain⟨us,ru,p1,z1⟩:=I.tuple (SqT.of hq1)
  obtain⟨ws,rw',p2,z2⟩:=I.tuple (SqT.of hq2)
  obtain⟨u,hu,ru'⟩:=ru.get hx
  obtain⟨v,hv,rv'⟩:=rw'.get hy
  obtain⟨⟨f1,hz⟩,hTI,⟨olds,hTO,lo⟩,hi1,hi2⟩:=st
  simp only[QbJ,QbY,Qbu,Qcz,not_or,QbV,not_false_eq_true,and_true] at nd
  obtain⟨⟨n1,n2,n3,n4⟩,⟨n5,n6,n7⟩,⟨n8,n9⟩,n10⟩:=nd
  have D:ZZ.Apart z TI TO [⟨i1,a,us.toArray⟩,⟨i2,b,ws.toArray⟩]:=by
   obtain⟨oa,ea,ca,_⟩:=id p1
   obtain⟨ob,eb,cb,_⟩:=id p2
   obtain⟨o1,e1,c1,_⟩:=id hi1
   obtain⟨o2,e2,c2,_⟩:=id hi2
   have aTO:a≠TO:=λq=>by
    have:=(hf TO (by simp)).1
    rw[<-q,hq1] at this
    cases this
   have bTO:b≠TO:=λq=>by
    have:=(hf TO (by simp)).1
    rw[<-q,hq2] at this
    cases this
   have t1:Value.type "tuple"≠Value.type "zip":=λq=>absurd (by injection q) (show ¬("tuple"="zip") by decide)
   have t2:Value.type "tuple"≠Value.type "tuple_iterator":=λq=>absurd (by injection q) (show ¬("tuple"="tuple_iterator") by decide)
   refine⟨Ne.symm n1,Ne.symm n2,n5,λq hq=>?_,λq hq=>?_,λq hq r hr=>?_,?_⟩
   ·simp only[QbY,Qbu,Qcz] at hq
    rcases hq with rfl | rfl
    ·exact⟨Ne.symm n3,Ne.symm n6,Ne.symm n8⟩
    ·exact⟨Ne.symm n4,Ne.symm n7,Ne.symm n9⟩
   ·simp only[QbY,Qbu,Qcz] at hq
    rcases hq with rfl | rfl
    ·exact⟨Gz ea hz (by rw[ca];exact t1),aTO⟩
    ·exact⟨Gz eb hz (by rw[cb];exact t1),bTO⟩
   ·simp only[QbY,Qbu,Qcz] at hq hr
    rcases hq with rfl | rfl <;> rcases hr with rfl | rfl
    ·exact Gz ea e1 (by rw[ca,c1];exact t2)
    ·exact Gz ea e2 (by rw[ca,c2];exact t2)
    ·exact Gz eb e1 (by rw[cb,c1];exact t2)
    ·exact Gz eb e2 (by rw[cb,c2];exact t2)
   ·simp[n10]
  have hat:∀q∈([⟨i1,a,us.toArray⟩,⟨i2,b,ws.toArray⟩]:List ZZ.Src),ZZ.SrcAt s.heap q i:=λq hq=>by
   simp only[QbY,Qbu,Qcz] at hq
   rcases hq with rfl | rfl
   ·exact .inr ⟨hi1,p1⟩
   ·exact .inr ⟨hi2,p2⟩
  refine ZZ.gw hz (Qi:=λr s'=>∃h',r=.ref s.heap.objs.size/\s'={ s with heap:=h' }/\ZZ.IsZ h' z TI TO (rawInt s.heap.objs.size) (.bool false)/\ZZ.Di h' TI [.ref i1,.ref i2]/\ZZ.Di h' TO [u,v]/\(∀q∈([⟨i1,a,us.toArray⟩,⟨i2,b,ws.toArray⟩]:List ZZ.Src),ZZ.SrcAt h' q (i+1))/\ZZ.Di h' s.heap.objs.size [u,v]/\ZZ.Rest z TO [⟨i1,a,us.toArray⟩,⟨i2,b,ws.toArray⟩] s.heap h')
   (ZZ.Xf (xs:=[u,v]) D hz hTI hTO hat (by simp) rfl lo (λj q hj=>?_) (by show 2<=100;decide) λh' a1 a2 a3 a4 a5 a6 a7=>⟨h',rfl,rfl,a1,a2,a3,a4,a5,a7⟩) λr s' hQ=>?_
  ·match j,hj with
   | 0,hj=>cases hj;exact⟨u,rfl,by simpa using hu⟩
   | 1,hj=>cases hj;exact⟨v,rfl,by simpa using hv⟩
  obtain⟨h',rfl,rfl,a1,a2,a3,a4,a5,a7⟩:=hQ
  refine⟨_,rfl,ZZ.lW (s:={ s with heap:=h' }) a1 λh2 hz2 sb=>?_⟩
  have hlt2:s.heap.objs.size≠z:=Qcm (Qch hz)
  have hT2:ZZ.Di h2 s.heap.objs.size [u,v]:=(sb.2 _ hlt2).trans a5
  have new:Bt X.prog X.w (upd H s.heap.objs.size (.tup [x,y])) h2 s.heap.objs.size (.tup [x,y]):=
   ⟨by show 2<=sizeLine;decide,[u,v],.cons ru' (.cons rv' .nil),_,hT2,rfl,0,rfl⟩
  have I1:=I.Nu (h':=h2) (t':=s.toks) (Qcq _) (λc q hc e=>(sb.2 c (λw=>hc (by simp[w]))).trans (a7 c q (λw=>hc (by simp[w])) (λw=>hc (by simp[w])) (λw=>hc (by simp only[QbZ,List.map_nil,QbY,Qbu,Qcz] at w;rcases w with w | w <;> simp[w])) e)) hf new
  have vU:∀{it l:Addr} {items:Array Value},l≠z->l≠TO->l≠i1->l≠i2->it≠z->s.heap.IsTuple l items->ZZ.SrcAt h' ⟨it,l,items⟩ (i+1)->h2.IsTupleIter it l (i+1):=λm1 m2 m3 m4 m5 hl q=>by
   rcases q with⟨_,q2⟩|⟨q1,_⟩
   ·obtain⟨o,e,r⟩:=hl
    exact (JV q2 ⟨o,a7 _ o m1 m2 (by simp[m3,m4]) e,r⟩).elim
   ·exact q1.at λo e=>(sb.2 _ m5).trans e
  refine⟨.ref s.heap.objs.size,_,I1,rfl,⟨s.heap.objs.size,x,y,I.hok.fresh (Qcq _),rfl,rfl,λys' hy'=>by (rw[hq1] at hy';cases hy';exact hx),λys' hy'=>by (rw[hq2] at hy';cases hy';exact hy)⟩,⟨⟨_,hz2⟩,(sb.2 _ (Ne.symm n1)).trans a2,⟨[u,v],(sb.2 _ (Ne.symm n2)).trans a3,rfl⟩,?_,?_⟩,λc hc=>?_⟩
  ·exact vU (D.a ⟨i1,a,us.toArray⟩ (by simp)).1 (D.a ⟨i1,a,us.toArray⟩ (by simp)).2 (D.ai ⟨i1,a,us.toArray⟩ (by simp) ⟨i1,a,us.toArray⟩ (by simp)) (D.ai ⟨i1,a,us.toArray⟩ (by simp) ⟨i2,b,ws.toArray⟩ (by simp)) (Ne.symm n3) p1 (a4 _ (by simp))
  ·exact vU (D.a ⟨i2,b,ws.toArray⟩ (by simp)).1 (D.a ⟨i2,b,ws.toArray⟩ (by simp)).2 (D.ai ⟨i2,b,ws.toArray⟩ (by simp) ⟨i1,a,us.toArray⟩ (by simp)) (D.ai ⟨i2,b,ws.toArray⟩ (by simp) ⟨i2,b,ws.toArray⟩ (by simp)) (Ne.symm n4) p2 (a4 _ (by simp))
  ·have hlc:c≠s.heap.objs.size:=by
    have hmem:∃o,s.heap.get? c=some o:=by
     simp only[QbY,Qbu,Qcz] at hc
     rcases hc with rfl | rfl | rfl | rfl | rfl
     ·exact⟨_,hz⟩
     ·exact⟨_,hTI⟩
     ·exact⟨_,hTO⟩
     ·obtain⟨o,e,_⟩:=hi1;exact⟨o,e⟩
     ·obtain⟨o,e,_⟩:=hi2;exact⟨o,e⟩
    obtain⟨o,e⟩:=hmem
    exact Qcj (Qch e)
   rw[Al hlc]
   exact (hf c hc).1
 done:=by
  intro X hP hw hK hc i pins s σ H E I hf st hg
  subst hP hw hK
  obtain⟨xs,ys,hq1,hq2,hend⟩:=hg
  obtain⟨us,ru,p1,z1⟩:=I.tuple (SqT.of hq1)
  obtain⟨ws,rw',p2,z2⟩:=I.tuple (SqT.of hq2)
  obtain⟨⟨f1,hz⟩,hTI,⟨olds,hTO,lo⟩,hi1,hi2⟩:=st
  simp only[QbJ,QbY,Qbu,Qcz,not_or,QbV,not_false_eq_true,and_true] at nd
  obtain⟨⟨n1,n2,n3,n4⟩,⟨n5,n6,n7⟩,⟨n8,n9⟩,n10⟩:=nd
  have D:ZZ.Apart z TI TO [⟨i1,a,us.toArray⟩,⟨i2,b,ws.toArray⟩]:=by
   obtain⟨oa,ea,ca,_⟩:=id p1
   obtain⟨ob,eb,cb,_⟩:=id p2
   obtain⟨o1,e1,c1,_⟩:=id hi1
   obtain⟨o2,e2,c2,_⟩:=id hi2
   have aTO:a≠TO:=λq=>by
    have:=(hf TO (by simp)).1
    rw[<-q,hq1] at this
    cases this
   have bTO:b≠TO:=λq=>by
    have:=(hf TO (by simp)).1
    rw[<-q,hq2] at this
    cases this
   have t1:Value.type "tuple"≠Value.type "zip":=λq=>absurd (by injection q) (show ¬("tuple"="zip") by decide)
   have t2:Value.type "tuple"≠Value.type "tuple_iterator":=λq=>absurd (by injection q) (show ¬("tuple"="tuple_iterator") by decide)
   refine⟨Ne.symm n1,Ne.symm n2,n5,λq hq=>?_,λq hq=>?_,λq hq r hr=>?_,?_⟩
   ·simp only[QbY,Qbu,Qcz] at hq
    rcases hq with rfl | rfl
    ·exact⟨Ne.symm n3,Ne.symm n6,Ne.symm n8⟩
    ·exact⟨Ne.symm n4,Ne.symm n7,Ne.symm n9⟩
   ·simp only[QbY,Qbu,Qcz] at hq
    rcases hq with rfl | rfl
    ·exact⟨Gz ea hz (by rw[ca];exact t1),aTO⟩
    ·exact⟨Gz eb hz (by rw[cb];exact t1),bTO⟩
   ·simp only[QbY,Qbu,Qcz] at hq hr
    rcases hq with rfl | rfl <;> rcases hr with rfl | rfl
    ·exact Gz ea e1 (by rw[ca,c1];exact t2)
    ·exact Gz ea e2 (by rw[ca,c2];exact t2)
    ·exact Gz eb e1 (by rw[cb,c1];exact t2)
    ·exact Gz eb e2 (by rw[cb,c2];exact t2)
   ·simp[n10]
  have hat:∀q∈([⟨i1,a,us.toArray⟩,⟨i2,b,ws.toArray⟩]:List ZZ.Src),ZZ.SrcAt s.heap q i:=λq hq=>by
   simp only[QbY,Qbu,Qcz] at hq
   rcases hq with rfl | rfl
   ·exact .inr ⟨hi1,p1⟩
   ·exact .inr ⟨hi2,p2⟩
  have l1:=ru.length
  have l2:=rw'.length
  refine ZZ.Vz hz (R:=λh'=>ZZ.Rest z TO [⟨i1,a,us.toArray⟩,⟨i2,b,ws.toArray⟩] s.heap h') (ZZ.XH (I.ok.hd hc) D hz hTI hTO hat (by simp) lo (by show 2<=100;decide) ?_ λh' e r st=>⟨h',e,rfl,rfl,r,st⟩) λh' r=>⟨rfl,I.Rm (h':=h') (t':=s.toks) (λc q hc e=>r c q (λw=>hc (by simp[w])) (λw=>hc (by simp[w])) (λw=>hc (by simp only[QbZ,List.map_nil,QbY,Qbu,Qcz] at w;rcases w with w | w <;> simp[w])) e) hf⟩
  rcases hend with h | h
  ·exact⟨_,QaR ..,by simp;omega⟩
  ·exact⟨_,QaE _ (QaR ..),by simp;omega⟩
 self:=λ_ _ _ _ _ st h=>ZZ.Uo st.1.choose_spec h
def AQ (K:YD) (ta:TA):TI:=fun σ H R=>ta σ H λvs H1=>∃a b,vs=[.ref a,.ref b]/\(∃xs,H1 a=some (.tup xs))/\(∃ys,H1 b=some (.tup ys))/\R (jq K a b) H1
section
variable {X:Cx}
theorem p7 {a b:Expr} {ta:TA} {p pos tp:Pos} {elts:YJ} {k:Nat} (hg:Gl X "zip") (hm:X.mg "zip"=none) (ha:PA X [a,b] ta)
  (hs:starEach [a,b] X.env=[(false,eval a X.env),(false,eval b X.env)]:=by rfl) (hs2:starEach [b] X.env=[(false,eval b X.env)]:=by rfl):PI X (.Tuple elts k tp) (.Call (.Name "zip" p) [a,b] [] pos) (AQ X.K ta):=by
 intro pins s σ H R I h
 refine Call_ (Ii I hg hm (u:=.type "zip") (by trivial) (Qae (thn (ha pos pins s σ H _ I h) λus s1 ⟨vs,H1,I1,r1,q1⟩=>?_) (by rw[hs,hs2]) (by rw[hs2];rfl)))
 obtain⟨a,b,e,⟨xs,hx⟩,⟨ys,hy⟩,q⟩:=q1
 subst e
 cases r1 with
 | cons r rr=>
  cases rr with
  | cons r' rr=>
   cases rr
   cases r
   cases r'
   obtain⟨us,ru,k1,z1⟩:=I1.tuple (SqT.of hx)
   obtain⟨ws,rw',k2,z2⟩:=I1.tuple (SqT.of hy)
   refine ZZ.nR (c1:="tuple_iterator") (c2:="tuple_iterator") (.inr ⟨rfl,k1⟩) (.inr ⟨rfl,k2⟩) λh' z TI TO i1 i2 f=>?_
   refine ZZ.Uo (s:={ s1 with heap:=h' }) f.hz ?_
   have nd:[z,TI,TO,i1,i2].Nodup:=by
    have a1:=f.ap.it ⟨i1,a,us.toArray⟩ (by simp)
    have a2:=f.ap.it ⟨i2,b,ws.toArray⟩ (by simp)
    have a3:i1≠i2:=by
     have:=f.ap.nd
     simpa using this
    simp only[QbJ,QbY,Qbu,Qcz,not_or,QbV,not_false_eq_true,and_true]
    exact⟨⟨Ne.symm f.ap.TIz,Ne.symm f.ap.TOz,Ne.symm a1.1,Ne.symm a2.1⟩,⟨f.ap.TITO,Ne.symm a1.2.1,Ne.symm a2.2.1⟩,⟨Ne.symm a1.2.2,Ne.symm a2.2.2⟩,a3⟩
   have at1:h'.IsTupleIter i1 a 0:=by
    rcases f.at_ ⟨i1,a,us.toArray⟩ (by simp) with⟨_,x2⟩|⟨x1,_⟩
    ·obtain⟨o,e,r⟩:=id k1
     exact (JV x2 ⟨o,f.keep _ o e,r⟩).elim
    ·exact x1
   have at2:h'.IsTupleIter i2 b 0:=by
    rcases f.at_ ⟨i2,b,ws.toArray⟩ (by simp) with⟨_,x2⟩|⟨x1,_⟩
    ·obtain⟨o,e,r⟩:=id k2
     exact (JV x2 ⟨o,f.keep _ o e,r⟩).elim
    ·exact x1
   refine⟨z,[z,TI,TO,i1,i2],_,_,H1,rfl,I1.kept (t':=s1.toks) λc o e=>f.keep c o e,fB a b z TI TO i1 i2 nd,⟨⟨_,f.hz⟩,f.hTI,⟨_,f.hTO,rfl⟩,at1,at2⟩,λc hc=>?_,q⟩
   have hn:=f.new
   have hcs:s1.heap.objs.size<=c:=by
    simp only[QbY,Qbu,Qcz] at hc
    rcases hc with rfl | rfl | rfl | rfl | rfl
    ·exact hn.1
    ·exact hn.2.1
    ·exact hn.2.2.1
    ·exact hn.2.2.2 ⟨c,a,us.toArray⟩ (by simp)
    ·exact hn.2.2.2 ⟨c,b,ws.toArray⟩ (by simp)
   exact I1.Qd hcs (I1.hok.fresh hcs)
end
theorem jf {K:YD} {a b l:Addr} {xs ys:YG} {g:TG} {tt:TT} {te:TE} {Q:VK} {σ0:St} {H0:Hp} (n:Nat) (hx:n<=xs.length) (hy:n<=ys.length) (hn:xs.length<=n\/ys.length<=n) (Pv:YN)
  (h0:Pv 0 σ0 H0) (hl:∀i σ H',i<=n->Pv i σ H'->H' a=some (.tup xs)/\H' b=some (.tup ys))
  (hs:∀i x y p σ H',xs[i]?=some x->ys[i]?=some y->Pv i σ H'->H' p=none->g (.ref p) σ (upd H' p (.tup [x,y])) fun σ3 H3=>tt σ3 H3 λb H4=>if b=true then te σ3 H4 λy H5=>∃ys,H5 l=some (.lst ys)/\ys.length < sizeLine/\Pv (i+1) σ3 (upd H5 l (.lst (ys++[y]))) else Pv (i+1) σ3 H4)
  (hd:∀ σ H',Pv n σ H'->Q (.ref l) H'):FJ (jq K a b) g tt te Q σ0 H0 l:=by
 unfold FJ
 refine⟨λi m σ H'=>m=n - i/\i<=n/\Pv i σ H',⟨n,by simp,Qcr _,h0⟩,?_⟩
 rintro i m σ H' ⟨rfl,hi,p⟩
 obtain⟨q1,q2⟩:=hl i σ H' hi p
 by_cases hlt:i < n
 ·have hlt1:i < xs.length:=by omega
  have hlt2:i < ys.length:=by omega
  refine .inr ⟨⟨xs,ys,xs[i],ys[i],q1,q2,Qan hlt1,Qan hlt2⟩,Pv (i+1),fun σ3 H3 p'=>⟨n - (i+1),by omega,rfl,hlt,p'⟩,λv H2 y=>?_⟩
  obtain⟨pp,x',y',hp,rfl,rfl,e1,e2⟩:=y
  exact hs i x' y' pp σ _ (e1 xs q1) (e2 ys q2) p hp
 ·exact .inl ⟨⟨xs,ys,q1,q2,by omega⟩,by
   have:i=n:=by omega
   subst this
   exact hd _ _ p⟩
section
variable {X:Cx}
def DV (ta tb:TE):TE:=fun σ H Q=>ta σ H λx H1=>x=.non/\tb σ H1 Q
theorem Za {a b:Expr} {rest:YJ} {pos:Pos} {ta tb:TE} (ha:PE X a ta) (hb:PE X (.BoolOp .Or (b::rest) pos) tb):PE X (.BoolOp .Or (a::b::rest) pos) (DV ta tb):=by
 intro pins s σ H Q I h
 refine BoolOp_or (thn (ha pins s σ H _ I h) λv s1 zz=>?_)
 obtain⟨x,H1,I1,r1,e,q1⟩:=zz
 subst e
 cases r1
 exact truthy_none (hb pins s1 σ H1 Q I1 q1)
end
theorem je {X:Cx} {pins:YC} {σ : St} {H:Hp} {s:Shared} {A:Around} {E:YA} {a b:Addr} {kvs:YL} {k:List Key} {v:V} {u r:Value} {Q:YH} (hu:A.units < cLine) (I:Inv X pins σ H s) (e:H a=some (.dT kvs)) (eb:H b=some (.tup (k.map kV))) (l:kvs.length < sizeLine) (ry:RelV (.ref b) u) (rv:RelV v r)
  (h:∀s',Inv X pins σ (upd H a (.dT (putK kvs k v))) s'->Q () s'):wpAny (model X.prog X.w) A (dictSet a u r) Q E s:=by
 cases (show u=Value.ref b from ry)
 obtain⟨z,hd,xs,rel,dd⟩:=vP I.hok e
 have hz:xs.length<=sizeLine:=by rw[<-QbX rel];exact z
 have hl:(putK kvs k v).length<=sizeLine:=by have:=Ko kvs k v;omega
 refine wpAny_dictSet_heap (hsz:=hz) hu (Jz I.hok eb) dd λh' dd' hs=>h _ ?_
 obtain⟨q,es,ep,hq,h2,h3,h4,_,h5⟩:=dd'
 refine O7 I (by rw[e];exact True.intro) hs ⟨q,hq⟩ ⟨hl,hd,_,(rel.put k eb rv).keeps λc ys ec=>?_,q,es,ep,hq,h2,h3,h4,h5⟩
 rw[Al (gR ec e (λz=>nomatch z))]
 exact ec
@[irreducible] def Vh (J:It) (g:TG) (tt:TT) (tk tv:TE) (Q:VK) (σ0:St) (H0:Hp) (l:Addr):Prop:=∃W:Nat->YN,(∃m,W 0 m σ0 H0) /\
 ∀i m σ' H',W i m σ' H'->(J.stop i H'/\Q (.ref l) H')\/(J.go i H'/\∃N:YO,(∀ σ3 H3,N σ3 H3->∃m',m' < m/\W (i+1) m' σ3 H3)/\∀x H2,J.yld i H' x H2->g x σ' H2 fun σ3 H3=>tt σ3 H3 λb H4=>
  if b=true then tk σ3 H4 λy H5=>tv σ3 H5 λz H6=>∃(kvs:YL) (k:List Key) (b:Addr),H6 l=some (.dT kvs)/\y=.ref b/\H6 b=some (.tup (k.map kV))/\kvs.length < sizeLine/\N σ3 (upd H6 l (.dT (putK kvs k z))) else N σ3 H4)
def cJ (wi:TI) (src:List (Option Nat)) (g:TG) (tt:TT) (tk tv:TE):TE:=fun σ H Q=>wi σ H λJ H1=>∀l,H1 l=none->Vh J g tt tk tv Q (Jl src σ) (upd H1 l (.dT [])) l
theorem bV {X:Cx} {N':YF} {src:List (Option Nat)} {sc:Scope} {kx vx tg iter:Expr} {ifs:YJ} {pos pos':Pos} {wi:TI} {g:TG} {tt:TT} {tk tv:TE} {use:Option (Value->Sem Unit)} {R:YA} (hu:X.A.units+1 < cLine) (hc:X.calm=true) (S:Bp X N' src sc)
  (hi:PI X tg iter wi) (hg:∀s3 H3 fp pn,PG (cxC X N' sc s3 H3 fp pn) tg g) (ht:∀s3 H3 fp pn,PF (cxC X N' sc s3 H3 fp pn) ifs tt) (hk:∀s3 H3 fp pn,PE (cxC X N' sc s3 H3 fp pn) kx tk) (hv:∀s3 H3 fp pn,PE (cxC X N' sc s3 H3 fp pn) vx tv)
  (hs:∀x,foldedSetIterable iter X.env x=pure x) {pins:YC} {s:Shared} {σ : St} {H:Hp} {Q:VK} (I:Inv X pins σ H s) (h:cJ wi src g tt tk tv σ H Q)
  (fin:∀s3 H3 fp σ4 H4 s5 l,Inv X pins σ H3 s3->(∀b∈fp,Gi X pins H3 b)->Inv (cxC X N' sc s3 H3 fp (X.pn++pins)) [] σ4 H4 s5->Q (.ref l) H4 ->
   compPost (model X.prog X.w) X.A X.xe use R (.ref l) s3.heap.objs.size (.ok .next) s5) :
  wpAny (model X.prog X.w) X.A (comprehension (.DictComp kx vx [⟨tg,iter,ifs,0⟩] sc pos) sc X.env pos' newDict false (eval iter X.env) use) R X.xe s:=by
 refine wpAny_comprehension_free (use:=use) (cl:=Em X.env sc.names []) rfl hs (Qg λp hp e=>I.ok.has p.1 (S.fv p hp e)) S.kind S.loc ?_
 refine thn (hi pins s σ H _ I h) λv s1 h1=>thn h1 λitv s2 h2=>?_
 obtain⟨it,fp,tn,J,H2,rfl,I2,T,st2,f2,q⟩:=h2
 have q':=q s2.heap.objs.size (I2.hok.fresh (Qcq _))
 unfold Vh at q'
 obtain⟨W,⟨m0,w0⟩,turn⟩:=q'
 refine Qbn (wpAny_newFunctionEnv S.Ih (by intro y hy;simp at hy) (λha hns hsb=>?_) S.kind)
 have I3:Inv X pins σ (upd H2 s2.heap.objs.size (.dT [])) { s2 with heap:=s2.heap.push { cls:=.type "dict",data:=.dict #[] } }:=
  I2.laid (t':=s2.toks) (λb u e=>Qav _ e) (Qcq _) (Z5 s2.heap I2.big)
 have hfl:∀b∈fp,b < s2.heap.objs.size:=λb hb=>by
  obtain⟨o,e,_⟩:=T.obj 0 _ st2 b hb
  exact Qch e
 have f3:∀b∈fp,Gi X pins (upd H2 s2.heap.objs.size (.dT [])) b:=λb hb=>⟨by rw[Al (Qcj (hfl b hb))];exact (f2 b hb).1,(f2 b hb).2⟩
 generalize hs3:({ s2 with heap:=s2.heap.push { cls:=.type "dict",data:=.dict #[] } }:Shared)=s3 at *
 have hsz:s2.heap.objs.size < s3.heap.objs.size:=by rw[<-hs3];show s2.heap.objs.size < (s2.heap.push _).objs.size;rw[QbT];exact Qby _
 have kp:∀b o,s3.heap.get? b=some o->ha.get? b=some o:=λb o e=>hsb.extBut b o (Qcj (Qch e)) (Qav _ e)
 have st3:tn 0 ha:=T.keep 0 _ _ st2 λb hb o e=>kp b o (by rw[<-hs3];exact Qav _ e)
 have I4:Inv (cxC X N' sc s3 (upd H2 s2.heap.objs.size (.dT [])) fp (X.pn++pins)) [] (Jl src σ) (upd H2 s2.heap.objs.size (.dT [])) { s3 with heap:=ha,toks:=s3.toks+([]:List (Str×Value)).length }:=
  TV S I3 f3 (λb hb=>Nat.lt_trans (hfl b hb) hsz) hns kp
 have loop:codeAny (model X.prog X.w) X.A (.compLoop (.DictComp kx vx [⟨tg,iter,ifs,0⟩] sc pos) 0 (.ref it) (.ref s2.heap.objs.size) (compEnvC sc (Em X.env sc.names []) s3.heap.objs.size X.env))
   (compPost (model X.prog X.w) X.A X.xe use R (.ref s2.heap.objs.size) s3.heap.objs.size) { s3 with heap:=ha,toks:=s3.toks+([]:List (Str×Value)).length }:=by
  refine Vb (λn s'=>∃i σ' H',Inv (cxC X N' sc s3 (upd H2 s2.heap.objs.size (.dT [])) fp (X.pn++pins)) [] σ' H' s'/\tn i s'.heap/\(∀b∈fp,H' b=none)/\W i n σ' H') ?_ m0 ⟨0,_,_,I4,st3,λb hb=>(f3 b hb).1,w0⟩
  rintro n s4 ⟨i,σ4,H4,J4,st4,fr4,w4⟩
  have stat:∀{H':Hp},(∀b∈fp,H' b=none)->∀b∈fp,Gi (cxC X N' sc s3 (upd H2 s2.heap.objs.size (.dT [])) fp (X.pn++pins)) [] H' b:=λhn b hb=>
   ⟨hn b hb,(I4.ok.exf b hb).1,I4.ok.JZ b hb,.inl hb,λx c e=>(I4.ok.exf b hb).2 x c e,λp hp=>(f3 b hb).2.2.2.2.2 p ((QbD.mp hp).elim id λz=>by cases z)⟩
  rcases turn i n σ4 H4 w4 with⟨stop,qn⟩|⟨go,N,hN,step⟩
  ·refine thn (T.done (cxC X N' sc s3 (upd H2 s2.heap.objs.size (.dT [])) fp (X.pn++pins)) rfl rfl rfl hc i [] s4 σ4 H4 _ J4 (stat fr4) st4 stop) λr s5 zz=>?_
   obtain⟨hr,J5⟩:=zz
   subst hr
   exact fin s3 _ fp σ4 H4 s5 _ I3 f3 J5 qn
  ·refine thn (T.item (cxC X N' sc s3 (upd H2 s2.heap.objs.size (.dT [])) fp (X.pn++pins)) rfl rfl rfl hc i [] s4 σ4 H4 _ J4 (stat fr4) st4 go) λr s5 zz=>?_
   obtain⟨u,hr,h5⟩:=zz
   subst hr
   refine thn h5 λ_ s6 zz=>?_
   obtain⟨x,H6,J6,r6,y6,st6,fr6⟩:=zz
   have J6':=J6.pinned (stat fr6) (T.obj _ _ st6)
   have back:∀{pl:YC} {σ7:St} {H7:Hp} {s7:Shared},Inv (cxC X N' sc s3 (upd H2 s2.heap.objs.size (.dT [])) fp (X.pn++pins)) ([]++MK fp s6.heap) σ7 H7 s7->N σ7 H7 ->
     ∃m',m' < n/\∃i σ' H',Inv (cxC X N' sc s3 (upd H2 s2.heap.objs.size (.dT [])) fp (X.pn++pins)) [] σ' H' s7/\tn i s7.heap/\(∀b∈fp,H' b=none)/\W i m' σ' H':=λ{pl σ7 H7 s7} J7 w7=>by
    obtain⟨m',hm,w7⟩:=hN _ _ w7
    have pinned:∀b∈fp,∀o,s6.heap.get? b=some o->s7.heap.get? b=some o/\H7 b=none:=λb hb o e=>by
     have:=J7.pin (b,o) (QaA _ (QaA _ (Jy hb e)))
     exact⟨this.1,this.2.1⟩
    refine⟨m',hm,i+1,σ7,H7,J7.G5,T.keep _ _ _ st6 λb hb o e=>(pinned b hb o e).1,λb hb=>?_,w7⟩
    obtain⟨o,e,_⟩:=T.obj _ _ st6 b hb
    exact (pinned b hb o e).2
   refine thn (hg s3 _ fp _ _ s6 σ4 H6 x u _ J6' r6 (step x H6 y6)) λ_ s7 zz=>?_
   obtain⟨σ7,H7,J7,q7⟩:=zz
   refine thn (ht s3 _ fp _ _ s7 σ7 H7 _ J7 q7) λok s8 zz=>?_
   obtain⟨H8,J8,q8⟩:=zz
   cases ok with
   | false=>
    rw[if_neg QaS] at q8 ⊢
    exact back (pl:=[]) J8 q8
   | true=>
    rw[if_pos rfl] at q8 ⊢
    refine thn (hk s3 _ fp _ _ s8 σ7 H8 _ J8 q8) λy s9 zz=>?_
    obtain⟨yv,H9,J9,r9,q9⟩:=zz
    refine thn (hv s3 _ fp _ _ s9 σ7 H9 _ J9 q9) λz s10 zz=>?_
    obtain⟨zv,H10,J10,r10,kvs,k,bb,hl,ey,eb,hz,q10⟩:=zz
    subst ey
    refine je (X:=cxC X N' sc s3 (upd H2 s2.heap.objs.size (.dT [])) fp (X.pn++pins)) (show X.A.units < cLine by omega) J10 hl eb hz r9 r10 λs11 J11=>?_
    exact back (pl:=[]) J11 q10
 exact codeAny_compStart_dict loop (T.self X.A 0 _ _ _ st3 loop)
theorem QT {X:Cx} {N':YF} {src:List (Option Nat)} {sc:Scope} {kx vx tg iter:Expr} {ifs:YJ} {pos:Pos} {wi:TI} {g:TG} {tt:TT} {tk tv:TE} (hu:X.A.units+1 < cLine) (hc:X.calm=true) (S:Bp X N' src sc)
  (hi:PI X tg iter wi) (hg:∀s3 H3 fp pn,PG (cxC X N' sc s3 H3 fp pn) tg g) (ht:∀s3 H3 fp pn,PF (cxC X N' sc s3 H3 fp pn) ifs tt) (hk:∀s3 H3 fp pn,PE (cxC X N' sc s3 H3 fp pn) kx tk) (hv:∀s3 H3 fp pn,PE (cxC X N' sc s3 H3 fp pn) vx tv)
  (hs:∀x,foldedSetIterable iter X.env x=pure x:=by intro _;rfl):PE X (.DictComp kx vx [⟨tg,iter,ifs,0⟩] sc pos) (cJ wi src g tt tk tv):=by
 intro pins s σ H Q I h
 rw[arm_eval_DictComp]
 refine bV (use:=none) hu hc S hi hg ht hk hv hs I h λs3 H3 fp σ4 H4 s5 l I3 f3 J5 q=>?_
 obtain⟨m,hn,_⟩:=J5.loc
 exact⟨m,hn,λh' sb=>⟨.ref l,H4,Q9 I3 f3 J5 sb,rfl,q⟩⟩
section
variable {a l:Addr} {g:TG} {tt:TT} {tk tv:TE} {Q:VK}
theorem bU {K:YD} {xs:YG} {σ0:St} {H0:Hp} (Pv:YN) (h0:Pv 0 σ0 H0) (hl:∀i σ H',i<=xs.length->Pv i σ H'->SqL K H' a xs)
  (hs:∀i x σ H',xs[i]?=some x->Pv i σ H'->g x σ H' fun σ3 H3=>tt σ3 H3 λb H4=>if b=true then tk σ3 H4 λy H5=>tv σ3 H5 λz H6=>∃(kvs:YM) (k:Key),H6 l=some (.dK kvs)/\y=kV k/\kvs.length < sizeLine/\Pv (i+1) σ3 (upd H6 l (.dK (putK kvs k z))) else Pv (i+1) σ3 H4)
  (hd:∀ σ H',Pv xs.length σ H'->Q (.ref l) H'):RQ (Itl K a) g tt tk tv Q σ0 H0 l:=by
 unfold RQ
 refine⟨λi m σ H'=>m=xs.length - i/\i<=xs.length/\Pv i σ H',⟨xs.length,by simp,Qcr _,h0⟩,?_⟩
 rintro i m σ H' ⟨rfl,hi,p⟩
 have q:=hl i σ H' hi p
 by_cases hlt:i < xs.length
 ·refine .inr ⟨⟨xs,xs[i],q,by simp[hlt]⟩,Pv (i+1),fun σ3 H3 p'=>⟨xs.length - (i+1),by omega,rfl,hlt,p'⟩,λx H2 y=>?_⟩
  obtain⟨rfl,y⟩:=y
  exact hs i x σ _ (y xs q) p
 ·exact .inl ⟨⟨xs,q,by omega⟩,by
   have:i=xs.length:=by omega
   subst this
   exact hd _ _ p⟩
theorem Ov {K:YD} {xs:YG} {σ0:St} {H0:Hp} (Pv:YN) (h0:Pv 0 σ0 H0) (hl:∀i σ H',i<=xs.length->Pv i σ H'->SqL K H' a xs)
  (hs:∀i x σ H',xs[i]?=some x->Pv i σ H'->g x σ H' fun σ3 H3=>tt σ3 H3 λb H4=>if b=true then tk σ3 H4 λy H5=>tv σ3 H5 λz H6=>∃(kvs:YL) (k:List Key) (b:Addr),H6 l=some (.dT kvs)/\y=.ref b/\H6 b=some (.tup (k.map kV))/\kvs.length < sizeLine/\Pv (i+1) σ3 (upd H6 l (.dT (putK kvs k z))) else Pv (i+1) σ3 H4)
  (hd:∀ σ H',Pv xs.length σ H'->Q (.ref l) H'):Vh (Itl K a) g tt tk tv Q σ0 H0 l:=by
 unfold Vh
 refine⟨λi m σ H'=>m=xs.length - i/\i<=xs.length/\Pv i σ H',⟨xs.length,by simp,Qcr _,h0⟩,?_⟩
 rintro i m σ H' ⟨rfl,hi,p⟩
 have q:=hl i σ H' hi p
 by_cases hlt:i < xs.length
 ·refine .inr ⟨⟨xs,xs[i],q,by simp[hlt]⟩,Pv (i+1),fun σ3 H3 p'=>⟨xs.length - (i+1),by omega,rfl,hlt,p'⟩,λx H2 y=>?_⟩
  obtain⟨rfl,y⟩:=y
  exact hs i x σ _ (y xs q) p
 ·exact .inl ⟨⟨xs,q,by omega⟩,by
   have:i=xs.length:=by omega
   subst this
   exact hd _ _ p⟩
end
def Nr (h:Heap) (d:Addr) (es:YK) (ep:Nat):Prop:=∃o,h.get? d=some o/\o.ExactDict/\o.data=.dict es ep
section
variable {prog:Program} {w:World} {A:Around} {E:YA} {s:Shared}
theorem pQ {it d:Addr} {i ep:Nat} {es:YK} {en:DictEntry} {Q:Option Value->Shared->Prop} (K:s.heap.IsKeyIter it d i es.size ep) (R:Nr s.heap d es ep) (hx:es[i]?=some en)
  (q:∀h',h'.IsKeyIter it d (i+1) es.size ep->Heap.SameBut it s.heap h'->Q (some en.key) { s with heap:=h' }):wpAny (model prog w) A (pyNext (.ref it)) Q E s:=by
 have T:=K.typeIs
 obtain⟨oi,hoi,ci,di⟩:=K
 obtain⟨od,hod,xd,dd⟩:=R
 have hlt:i < es.size:=(Qaf.mp hx).1
 obtain⟨Hd,CH,CI,AN⟩:=oi
 obtain⟨V9,RL,RM,O6⟩:=od
 dsimp only at ci di dd
 subst ci di dd
 obtain⟨hp,g,dr,tk,os⟩:=s
 unfold pyNext
 refine Qcv (Qcg (Qar (name:=Str.ofString "__next__") T Qad (Qbv Qad T F.entry_dict_keyiterator_next ?_ (F.args_dict_keyiterator_next_1 _))))
 have e1:typeName (.type "dict_keyiterator")=pure "dict_keyiterator":=by unfold typeName;rw[find?_eq_fast];kernel_rfl
 have e2:=mroOf_keyiter
 wp_walk
 have hidx:(if (i:Int) < 0 then none else es[((i:Int)).toNat]?)=some en:=by rw[if_neg (by omega),Qbk];exact hx
 simp only[hidx]
 wp_walk
 refine⟨_,rfl,Qcw (q _ ⟨_,QaC _ hoi ?_,rfl,?_⟩ (QaN ..))⟩
 all_goals first | rfl | trace_state
theorem wG {it d:Addr} {i ep:Nat} {es:YK} {Q:Option Value->Shared->Prop} (hh:A.handled=none) (K:s.heap.IsKeyIter it d i es.size ep) (R:Nr s.heap d es ep) (hx:es[i]?=none)
  (q:∀h',Heap.ExtBut it s.heap h'->Q none { s with heap:=h' }):wpAny (model prog w) A (pyNext (.ref it)) Q E s:=by
 have T:=K.typeIs
 obtain⟨oi,hoi,ci,di⟩:=K
 obtain⟨od,hod,xd,dd⟩:=R
 obtain⟨Hd,CH,CI,AN⟩:=oi
 obtain⟨V9,RL,RM,O6⟩:=od
 dsimp only at ci di dd
 subst ci di dd
 obtain⟨hp,g,dr,tk,os⟩:=s
 unfold pyNext
 refine Qcv (Qcg (Qar (name:=Str.ofString "__next__") T Qad (Qbv Qad T F.entry_dict_keyiterator_next ?_ (F.args_dict_keyiterator_next_1 _))))
 have e1:typeName (.type "dict_keyiterator")=pure "dict_keyiterator":=by unfold typeName;rw[find?_eq_fast];kernel_rfl
 have e2:=mroOf_keyiter
 have hh1:A.in1.handled=none:=hh
 wp_walk
 have hidx:(if (i:Int) < 0 then none else es[((i:Int)).toNat]?)=none:=by rw[if_neg (by omega),Qbk];exact hx
 simp only[hidx]
 wp_walk
 unfold raiseNew
 wp_walk
 refine wpAny_of_eq isSubtype_stop ?_
 wp_walk
 exact q _ (((QaN ..).extBut.push _).push _)
theorem pR {d:Addr} {ep:Nat} {es:YK} {Q:YA} (lo:(d == sysModules)=false) (R:Nr s.heap d es ep)
  (q:Q (.ref s.heap.objs.size) { s with heap:=s.heap.push { cls:=.type "dict_keyiterator",data:=.fields #[.ref d,.int 0 0,.int es.size 0,.int ep 0] } }):wpAny (model prog w) A (pyIter (.ref d)) Q E s:=by
 obtain⟨od,hod,xd,dd⟩:=R
 have T:s.TypeIs (.ref d) "dict":=⟨od,hod,xd.1⟩
 obtain⟨V9,RL,RM,O6⟩:=od
 obtain⟨x1,x2⟩:=xd
 dsimp only at dd x1
 subst dd x1
 refine wpAny_pyIter_slot T F.slot_dict_iter (Qbv F.slot_dict_iter T F.entry_dict_iter ?_ (F.args_dict_iter_1 _))
 unfold Builtin.«dict.__iter__»
 wp_walk
 exact⟨_,rfl,"dict_keyiterator",_,⟨_,QaI _ rfl,rfl⟩,Qad.lookup,q⟩
theorem j8 {d:Addr} {ep:Nat} {es:YK} (lo:(d == sysModules)=false) :
  MeetsIn prog w (Builtin.«dict.items» ⟨[.ref d],[]⟩) (λ_ R s=>Nr s.heap d es ep/\R (.ok (.ret (.ref s.heap.objs.size))) { s with heap:=s.heap.push { cls:=.type "dict_items",data:=.fields #[.ref d] } }):=
 .of_wp λA R s ⟨hm,h⟩=>by
  obtain⟨od,hod,xd,dd⟩:=hm
  have T:s.TypeIs (.ref d) "dict":=⟨od,hod,xd.1⟩
  obtain⟨V9,RL,RM,O6⟩:=od
  obtain⟨x1,x2⟩:=xd
  dsimp only at dd x1
  subst dd x1
  unfold Builtin.«dict.items»
  wp_walk
  exact⟨_,rfl,h⟩
theorem Vy {v d:Addr} {es:YK} {ep:Nat} {Q:YA} (hv:s.heap.IsItemsView v d) (R:Nr s.heap d es ep)
  (q:Q (.ref s.heap.objs.size) { s with heap:=s.heap.push { cls:=.type "dict_itemiterator",data:=.fields #[.none,.bool false,.ref d,.int 0 0,.int es.size 0,.int ep 0,.none,.none] } }) :
  wpAny (model prog w) A (pyIter (.ref v)) Q E s:=by
 have T:=hv.typeIs
 obtain⟨ov,hov,hcv,hdv⟩:=hv
 obtain⟨od,hod,xd,dd⟩:=R
 obtain⟨N0,NV,NW,NS⟩:=ov
 obtain⟨V9,RL,RM,O6⟩:=od
 dsimp only at hcv hdv dd
 subst hcv hdv dd
 refine wpAny_pyIter_slot T F.slot_dict_items_iter (Qbv F.slot_dict_items_iter T F.entry_dict_items_iter ?_ (F.args_dict_items_iter_1 _))
 unfold Builtin.«dict_items.__iter__»
 wp_walk
 have hown:Builtin.Dict_items.ownsTuple "dict_itemiterator"=true:=by decide
 refine⟨_,rfl,"dict_itemiterator",_,⟨_,QaI _ rfl,rfl⟩,Qac.lookup,?_⟩
 simpa [rawInt,hown,Builtin.Dict_items.ownedTupleFields] using q
theorem pU {it d:Addr} {i ep:Nat} {es:YK} {en:DictEntry} {ok ov:Value} {Q:Option Value->Shared->Prop} (K:IsItemIter s.heap it d i es.size ep ok ov) (R:Nr s.heap d es ep) (hx:es[i]?=some en)
  (q:∀h',IsItemIterOut h' it d (i+1) es.size ep en.key en.val s.heap.objs.size->h'.get? s.heap.objs.size=some { cls:=.type "tuple",data:=.seq #[en.key,en.val] }->(∀b o,b≠it->s.heap.get? b=some o->h'.get? b=some o)->Q (some (.ref s.heap.objs.size)) { s with heap:=h' }) :
  wpAny (model prog w) A (pyNext (.ref it)) Q E s:=by
 have hT:s.TypeIs (.ref it) "dict_itemiterator":=⟨_,K,rfl⟩
 obtain⟨od,hod,xd,dd⟩:=R
 have hlt:i < es.size:=(Qaf.mp hx).1
 obtain⟨V9,RL,RM,O6⟩:=od
 dsimp only at dd
 subst dd
 obtain⟨hp,g,dr,tk,os⟩:=s
 unfold pyNext
 refine Qcv (Qcg (Qar (name:=Str.ofString "__next__") hT Qac (Qbv Qac hT F.entry_dict_itemiterator_next ?_ (F.args_dict_itemiterator_next_1 _))))
 have e1:typeName (.type "dict_itemiterator")=pure "dict_itemiterator":=by unfold typeName;rw[find?_eq_fast];kernel_rfl
 have e2:=mroOf_itemiter
 wp_walk
 have hidx:(if (i:Int) < 0 then none else es[((i:Int)).toNat]?)=some en:=by rw[if_neg (by omega),Qbk];exact hx
 simp only[hidx]
 have hown:Builtin.Dict_items.ownsTuple "dict_itemiterator"=true:=by decide
 refine Qcv ?_
 first | refine Qcv (wpAny_typeNameOfWhole_itemiter hT (Qcw ?_)) | refine Qcv (wpAny_typeNameOf_itemiter hT (Qcw ?_))
 refine Qcv (wpAny_isOneOf_itemiter hT ?_)
 simp only[hown,if_true]
 show wpAny _ _ (setField (.ref it) 3 (rawInt ((i:Int)+1)) >>= _) _ _ _
 refine Qcv (QaZ K (by simp) λh1 k1 s1=>?_)
 have s1:Heap.SameBut it hp h1:=s1
 have k1:IsItemIter h1 it d (i+1) es.size ep ok ov:=by
  have e:((i+1:Nat):Int)=(i:Int)+1:=by omega
  unfold IsItemIter;rw[e];simpa [rawInt] using k1
 have hT1:Shared.TypeIs ⟨h1,g,dr,tk,os⟩ (.ref it) "dict_itemiterator":=⟨_,k1,rfl⟩
 refine Qcv (Qcc (Qcv (wpAny_isOneOf_itemiter hT1 (Qcv (wpAny_isOneOf_itemiter hT1 ?_)))))
 show wpAny _ _ (Builtin.Dict_items.pairFromOwner (.ref it) 6 en.key en.val) _ _ ⟨h1,g,dr,tk,os⟩
 unfold Builtin.Dict_items.pairFromOwner
 refine Qcv (wpAny_newTuple ?_)
 have k2:IsItemIter (h1.push { cls:=.type "tuple",data:=.seq #[en.key,en.val] }) it d (i+1) es.size ep ok ov:=Qav _ k1
 have z1:h1.objs.size=hp.objs.size:=s1.1
 have n1:(h1.push { cls:=.type "tuple",data:=.seq #[en.key,en.val] }).get? hp.objs.size=some { cls:=.type "tuple",data:=.seq #[en.key,en.val] }:=by rw[<-z1];exact QaI _ rfl
 have p1:∀b o,b≠it->hp.get? b=some o->(h1.push { cls:=.type "tuple",data:=.seq #[en.key,en.val] }).get? b=some o:=λb o hb e=>Qav _ (s1.extBut b o hb e)
 have nit:hp.objs.size≠it:=Qcm (Qch K)
 rw[z1]
 show wpAny _ _ (Builtin.Dict_items.ownedTupleIsFree (.ref it) >>= _) _ _ ⟨h1.push { cls:=.type "tuple",data:=.seq #[en.key,en.val] },g,dr,tk,os⟩
 generalize h1.push { cls:=.type "tuple",data:=.seq #[en.key,en.val] }=h2 at k2 n1 p1
 refine Qcv ?_
 unfold Builtin.Dict_items.ownedTupleIsFree
 refine Qcv (Qct k2 rfl (x:=.none) rfl (Qcw ?_))
 simp only[if_true]
 refine Qcv (Qct k2 rfl (x:=ok) rfl ?_)
 refine Qcv (Qct k2 rfl (x:=ov) rfl ?_)
 refine Qcv (QaZ k2 (by simp) λh3 k3 s3=>?_)
 refine Qcv (QaZ k3 (by simp) λh4 k4 s4=>?_)
 refine Qcv (QaZ k4 (by simp) λh5 k5 s5=>?_)
 refine Qcv (QaZ k5 (by simp) λh6 k6 s6=>?_)
 have f:∀b o,b≠it->h2.get? b=some o->h6.get? b=some o:=λb o hb e=>s6.extBut b o hb (s5.extBut b o hb (s4.extBut b o hb (s3.extBut b o hb e)))
 exact Qcv (wpAny_letGo (Qcw (Qcw ⟨_,rfl,Qcw (q h6 k6 (f _ _ nit n1) λb o hb e=>f b o hb (p1 b o hb e))⟩)))
theorem YX {it d:Addr} {i ep:Nat} {es:YK} {ok ov:Value} {Q:Option Value->Shared->Prop} (hh:A.handled=none) (K:IsItemIter s.heap it d i es.size ep ok ov) (R:Nr s.heap d es ep) (hx:es[i]?=none)
  (q:∀h',Heap.ExtBut it s.heap h'->Q none { s with heap:=h' }):wpAny (model prog w) A (pyNext (.ref it)) Q E s:=by
 have hT:s.TypeIs (.ref it) "dict_itemiterator":=⟨_,K,rfl⟩
 obtain⟨od,hod,xd,dd⟩:=R
 obtain⟨V9,RL,RM,O6⟩:=od
 dsimp only at dd
 subst dd
 obtain⟨hp,g,dr,tk,os⟩:=s
 unfold pyNext
 refine Qcv (Qcg (Qar (name:=Str.ofString "__next__") hT Qac (Qbv Qac hT F.entry_dict_itemiterator_next ?_ (F.args_dict_itemiterator_next_1 _))))
 have e1:typeName (.type "dict_itemiterator")=pure "dict_itemiterator":=by unfold typeName;rw[find?_eq_fast];kernel_rfl
 have e2:=mroOf_itemiter
 have hh1:A.in1.handled=none:=hh
 wp_walk
 have hidx:(if (i:Int) < 0 then none else es[((i:Int)).toNat]?)=none:=by rw[if_neg (by omega),Qbk];exact hx
 simp only[hidx]
 wp_walk
 unfold raiseNew
 wp_walk
 refine wpAny_of_eq isSubtype_stop ?_
 wp_walk
 exact q _ (((QaN ..).extBut.push _).push _)
end
section
variable {X:Cx} {pins:YC} {σ : St} {H:Hp} {s:Shared} {a:Addr} {kvs:YL} {o:Obj}
theorem Inv.yp (I:Inv X pins σ H s) (e:H a=some (.dT kvs)):∃o,s.heap.get? a=some o/\Inv X pins σ (upd H a (.frz o (.dT kvs))) s:=by
 obtain⟨o,ho⟩:=(I.hok a _ e).there
 have n0:∀b,H b=none->b≠a:=λb n z=>by rw[z,e] at n;cases n
 have n1:∀b u,H b=some u->u≠.dT kvs->b≠a:=λb u q nu z=>by rw[z,e] at q;exact nu (QbH q).symm
 refine⟨o,ho,I.step (h':=s.heap) (g':=s.gens) (d':=s.drawn) (t':=s.toks) (ch:=[]) (λb hb=>absurd hb (by simp)) (λb u _ _ _ q _=>q) (λb u _ _ _ q _=>⟨u.slots,q⟩) (λb u _ q n=>by rw[Al (n0 b n)];exact n)
  (λb u _ q=>⟨u,q⟩) (λb xs q=>by rw[Al (n1 b _ q (by intro z;cases z))];exact q) (λb u v q=>by rw[Al (n1 b _ q (by intro z;cases z))];exact q)
  (λb ps q=>⟨#[],by rw[Al (n1 b _ q (by intro z;cases z)),q];simp⟩) (λm hm=>hm) (λb u q=>?_) I.bare⟩
 have st:∀b u,Bt X.prog X.w H s.heap b u->Bt X.prog X.w (upd H a (.frz o (.dT kvs))) s.heap b u:=λb u x=>
  x.stay (λ_ _ _ q=>q) (λc q=>by rw[Al (n1 c _ q (by intro z;cases z))];exact q) λc xs q=>by rw[Al (n1 c _ q (by intro z;cases z))];exact q
 by_cases hb:b=a
 ·subst hb
  rw[Ac] at q
  cases q
  exact⟨ho,st _ _ (I.hok _ _ e)⟩
 ·rw[Al hb] at q
  exact st _ _ (I.hok b u q)
theorem Inv.BV (I:Inv X pins σ H s) (e:H a=some (.frz o (.dT kvs))) (h0:∀o' u,X.H₀ a≠some (.frz o' u)):Inv X pins σ (upd H a (.dT kvs)) s:=by
 have n0:∀b,H b=none->b≠a:=λb n z=>by rw[z,e] at n;cases n
 have n1:∀b u,H b=some u->u≠.frz o (.dT kvs)->b≠a:=λb u q nu z=>by rw[z,e] at q;exact nu (QbH q).symm
 refine⟨I.ok,I.os,I.bare,⟨I.base.keep,I.base.slot,λb u q n hx=>?_,I.base.there,λb xs q=>?_,λb u v q=>?_,λb ps q=>?_⟩,I.loc,I.cell,?_,λx c q=>?_,λp hp=>?_,λb u q=>?_,I.len⟩
 ·rw[Al (n0 b (I.base.free b u q n hx))]
  exact I.base.free b u q n hx
 ·have z:=I.base.tups b xs q
  rw[Al (n1 b _ z (by intro w;cases w))]
  exact z
 ·have z:=I.base.GQ b u v q
  have nb:b≠a:=λw=>h0 u v (by rw[<-w];exact q)
  rw[Al nb]
  exact z
 ·obtain⟨m,z⟩:=I.base.Ht b ps q
  exact⟨m,by rw[Al (n1 b _ z (by intro w;cases w))];exact z⟩
 ·rw[Al (n0 _ I.free)];exact I.free
 ·rw[Al (n0 _ (I.El x c q))];exact I.El x c q
 ·obtain⟨p1,p2,p3⟩:=I.pin p hp
  exact⟨p1,by rw[Al (n0 _ p2)];exact p2,p3⟩
 ·have st:∀b u,Bt X.prog X.w H s.heap b u->Bt X.prog X.w (upd H a (.dT kvs)) s.heap b u:=λb u x=>
   x.stay (λ_ _ _ q=>q) (λc q=>by rw[Al (n1 c _ q (by intro z;cases z))];exact q) λc xs q=>by rw[Al (n1 c _ q (by intro z;cases z))];exact q
  by_cases hb:b=a
  ·subst hb
   rw[Ac] at q
   cases q
   exact st _ _ (show Bt X.prog X.w H s.heap b (.frz o (.dT kvs)) from I.hok _ _ e).2
  ·rw[Al hb] at q
   exact st _ _ (I.hok b u q)
end
def DB (H0 H:Hp) (P:Hp->Prop):Prop:=∃a o kvs,H a=some (.frz o (.dT kvs))/\(∀o' u,H0 a≠some (.frz o' u))/\P (upd H a (.dT kvs))
def v8 (H0:Hp) (t:TE):TE:=fun σ H Q=>t σ H λv H1=>DB H0 H1 (Q v)
theorem Y9 {X:Cx} {x:Expr} {t:TE} {H0:Hp} (h0:X.H₀=H0) (h:PE X x t):PE X x (v8 H0 t):=by
 subst h0
 intro pins s σ H Q I q
 refine thn (h pins s σ H _ I q) λu s1 zz=>?_
 obtain⟨v,H',I',r,a,o,kvs,e,n,q'⟩:=zz
 exact⟨v,_,I'.BV e n,r,q'⟩
def jr (a:Addr) (o:Obj) (kvs:YL):It:=
 ⟨λi H=>i < kvs.length/\H a=some (.frz o (.dT kvs)),λi H x H'=>∃p b kv,H p=none/\kvs[i]?=some kv/\H b=some (.tup (kv.1.map kV))/\x=.ref p/\H'=upd H p (.tup [.ref b,kv.2]),λi H=>i=kvs.length/\H a=some (.frz o (.dT kvs))⟩
def KTr (P:Program) (w:World) (H:Hp) (kvs:YL) (es:YK):Prop:=es.size=kvs.length/\∀(i:Nat) (kv:List Key×V),kvs[i]?=some kv->∃b en,es[i]?=some en/\en.key=.ref b/\H b=some (.tup (kv.1.map kV))/\RelV kv.2 en.val
theorem Zx {P:Program} {w:World} {H:Hp} {kvs:YL} {xs:List (List Key×Addr×Value)} {es:YK} (r:Paired (λ(p:List Key×V) (q:List Key×Addr×Value)=>p.1=q.1/\H q.2.1=some (.tup (p.1.map kV))/\RelV p.2 q.2.2) kvs xs) (e:es.toList=xs.map (entryOfKey (tupleKind (Df P w)))):KTr P w H kvs es:=by
 refine⟨by rw[size_of_entries e,QbX r],λi kv hkv=>?_⟩
 have go:∀{l:YL} {m:List (List Key×Addr×Value)} {i:Nat} {p:List Key×V},Paired (λ(p:List Key×V) (q:List Key×Addr×Value)=>p.1=q.1/\H q.2.1=some (.tup (p.1.map kV))/\RelV p.2 q.2.2) l m->l[i]?=some p->∃x,m[i]?=some x/\H x.2.1=some (.tup (p.1.map kV))/\RelV p.2 x.2.2:=by
  intro l m i p r
  induction r generalizing i with
  | nil=>intro h;cases h
  | cons a t ih=>
   intro h
   cases i with
   | zero=>cases h;exact⟨_,rfl,a.2⟩
   | succ i=>exact ih h
 obtain⟨x,hx,h1,h2⟩:=go r hkv
 exact⟨x.2.1,_,by rw[entry_at e i,hx];rfl,rfl,h1,h2⟩
theorem WL {X:Cx} {pins:YC} {σ : St} {H:Hp} {s:Shared} {a:Addr} {kvs:YL} {o:Obj} {es:YK} {ep:Nat} (I:Inv X pins σ H s) (e:H a=some (.frz o (.dT kvs))) (ho:o.data=.dict es ep) :
  (a == sysModules)=false/\KTr X.prog X.w H kvs es/\Nr s.heap a es ep:=by
 obtain⟨h1,_,h2,xs,h3,ob,es',ep',h4,h5,h6,h7,_⟩:=(show Bt X.prog X.w H s.heap a (.frz o (.dT kvs)) from I.hok a _ e)
 have z:=h1.symm.trans h4
 cases z
 rw[ho] at h6
 cases h6
 exact⟨h2,Zx h3 h7,o,h1,h5,ho⟩
theorem pB {P:Program} {w:World} {K:YD} {elts:YJ} {k:Nat} {pos:Pos} (a it:Addr) (o:Obj) (kvs:YL) {es:YK} {ep:Nat} (ho:o.data=.dict es ep) (hes:es.size=kvs.length) :
  Turn P w K (.Tuple elts k pos) (jr a o kvs) [it] it (λi h=>∃ok ov,IsItemIter h it a i kvs.length ep ok ov) where
 mem:=by simp
 obj:=λi h st b hb=>by
  have e:b=it:=by simpa using hb
  subst e
  obtain⟨ok,ov,q⟩:=st
  exact⟨_,q,λv z=>by cases (show Data.fields _=Data.cell v from z)⟩
 keep:=λi h h' st k=>by
  obtain⟨ok,ov,q⟩:=st
  exact⟨ok,ov,k it (by simp) _ q⟩
 item:=by
  intro X hP hw hK hc i pins s σ H E I hf st hg
  subst hP hw hK
  obtain⟨hi,hfz⟩:=hg
  obtain⟨ok,ov,st⟩:=st
  obtain⟨_,⟨hz,rel⟩,da⟩:=WL I hfz ho
  obtain⟨kv,hkv⟩ : ∃kv,kvs[i]?=some kv:=⟨kvs[i],by simp[hi]⟩
  obtain⟨b,en,hen,hkey,hb,hval⟩:=rel i kv hkv
  rw[<-hes] at st
  refine pU st da hen λh' hout htup hkeep=>?_
  refine⟨_,rfl,wpAny_letOwnedTupleGo_items hout λh2 he2 hs2=>?_⟩
  have nit:s.heap.objs.size≠it:=Qcm (Qch st)
  have new:Bt X.prog X.w (upd H s.heap.objs.size (.tup [.ref b,kv.2])) h2 s.heap.objs.size (.tup [.ref b,kv.2]):=
   ⟨by show 2<=sizeLine;decide,[en.key,en.val],.cons (by rw[hkey];exact rfl) (.cons hval .nil),_,(hs2.2 _ nit).trans htup,rfl,0,rfl⟩
  have I1:=I.Nu (h':=h2) (t':=s.toks) (Qcq _) (λb q hb z=>(hs2.2 b (λw=>hb (by simp[w]))).trans (hkeep b q (λw=>hb (by simp[w])) z)) hf new
  refine⟨.ref s.heap.objs.size,_,I1,rfl,⟨s.heap.objs.size,b,kv,I.hok.fresh (Qcq _),hkv,hb,rfl,rfl⟩,⟨en.key,en.val,?_⟩,λb hb=>?_⟩
  ·rw[<-hes];exact he2
  ·have z:b=it:=by simpa using hb
   subst z
   rw[Al (Ne.symm nit)]
   exact (hf b hb).1
 done:=by
  intro X hP hw hK hc i pins s σ H E I hf st hg
  subst hP hw hK
  obtain⟨hi,hfz⟩:=hg
  obtain⟨ok,ov,st⟩:=st
  obtain⟨_,⟨hz,rel⟩,da⟩:=WL I hfz ho
  rw[<-hes] at st
  exact YX (I.ok.hd hc) st da (by simp;omega) λh' ext=>⟨rfl,I.Rm (t':=s.toks) (λb ob hb q=>ext b ob (λz=>hb (by simp[z])) q) hf⟩
 self:=λA i s Q E st q=>by
  obtain⟨ok,ov,st⟩:=st
  exact Xp st q
def xV (td:TE):TI:=fun σ H R=>td σ H λx H1=>∃a kvs,x=.ref a/\H1 a=some (.dT kvs)/\∀o,R (jr a o kvs) (upd H1 a (.frz o (.dT kvs)))
theorem Wq {X:Cx} {d:Expr} {td:TE} {elts:YJ} {k:Nat} {tp apos cpos:Pos} (hd:PE X d td) (hbase:attributeBase d "items" X.env (eval d X.env)=eval d X.env:=by rfl) (hline:(apos.endLine == cpos.line)=true:=by rfl) :
  PI X (.Tuple elts k tp) (.Call (.Attribute d "items" apos) [] [] cpos) (xV td):=by
 intro pins s σ H R I h
 refine wpAny_Call_method0_late hbase hline (thn (hd pins s σ H _ I h) λv s1 zz=>?_)
 obtain⟨x,H1,I1,r1,a,kvs,ex,e,q⟩:=zz
 subst ex
 cases r1
 obtain⟨t1,t2,hsm⟩:=ZK I1 (.inr ⟨kvs,.inl e⟩)
 obtain⟨o,ho,I2⟩:=I1.yp e
 obtain⟨_,_,xs,h3,ob,es,ep,h4,h5,h6,h7,_⟩:=(show Bt X.prog X.w H1 s1.heap a (.dT kvs) from I1.hok a _ e)
 rw[ho] at h4
 cases h4
 have hes:=(Zx h3 h7).1
 have da:Nr s1.heap a es ep:=⟨o,ho,h5,h6⟩
 refine⟨"dict","dict.items",F.plainAttrs_dict,F.slot_dict_items,F.type_dict_items,t1,t2,Calls.callWith_builtin rfl (PySem.evalArgs_none ?_)⟩
 refine call_meetsIn F.slot_dict_items t1 F.entry_dict_items (F.args_dict_items_1 _) (j8 (es:=es) (ep:=ep) hsm) ⟨da,?_⟩
 have hz:(s1.heap.push { cls:=.type "dict_items",data:=.fields #[.ref a] }).objs.size=s1.heap.objs.size+1:=QbT ..
 refine Vy (d:=a) (es:=es) (ep:=ep) ⟨_,QaI _ rfl,rfl,rfl⟩ ⟨o,Qav _ ho,h5,h6⟩ ?_
 refine⟨(s1.heap.push { cls:=.type "dict_items",data:=.fields #[.ref a] }).objs.size,[(s1.heap.push { cls:=.type "dict_items",data:=.fields #[.ref a] }).objs.size],_,_,_,rfl,
  I2.kept (t':=s1.toks) λb u q=>Qav _ (Qav _ q),pB a _ o kvs h6 hes,?_,λb hb=>?_,q o⟩
 ·rw[<-hes]
  exact⟨_,_,QaI _ rfl⟩
 ·have z:b=(s1.heap.push { cls:=.type "dict_items",data:=.fields #[.ref a] }).objs.size:=by simpa using hb
  have z2:s1.heap.objs.size<=b:=by rw[z,hz];exact Nat.le_succ _
  exact I2.Qd z2 (I2.hok.fresh z2)
theorem aj {a l:Addr} {o:Obj} {kvs:YL} {g:TG} {tt:TT} {te:TE} {Q:VK} {σ0:St} {H0:Hp} (Pv:YN) (h0:Pv 0 σ0 H0) (hl:∀i σ H',i<=kvs.length->Pv i σ H'->H' a=some (.frz o (.dT kvs)))
  (hs:∀i kv p b σ H',kvs[i]?=some kv->Pv i σ H'->H' p=none->H' b=some (.tup (kv.1.map kV))->g (.ref p) σ (upd H' p (.tup [.ref b,kv.2])) fun σ3 H3=>tt σ3 H3 λb H4=>if b=true then te σ3 H4 λy H5=>∃ys,H5 l=some (.lst ys)/\ys.length < sizeLine/\Pv (i+1) σ3 (upd H5 l (.lst (ys++[y]))) else Pv (i+1) σ3 H4)
  (hd:∀ σ H',Pv kvs.length σ H'->Q (.ref l) H'):FJ (jr a o kvs) g tt te Q σ0 H0 l:=by
 unfold FJ
 refine⟨λi m σ H'=>m=kvs.length - i/\i<=kvs.length/\Pv i σ H',⟨kvs.length,by simp,Qcr _,h0⟩,?_⟩
 rintro i m σ H' ⟨rfl,hi,p⟩
 have q:=hl i σ H' hi p
 by_cases hlt:i < kvs.length
 ·refine .inr ⟨⟨hlt,q⟩,Pv (i+1),fun σ3 H3 p'=>⟨kvs.length - (i+1),by omega,rfl,hlt,p'⟩,λx H2 y=>?_⟩
  obtain⟨pa,b,kv,hp,hkv,hb,rfl,rfl⟩:=y
  exact hs i kv pa b σ H' hkv p hp hb
 ·have e:i=kvs.length:=by omega
  subst e
  exact .inl ⟨⟨rfl,q⟩,hd σ H' p⟩
theorem wF {prog:Program} {w:World} {d:Addr} {es:YK} {ep:Nat} (lo:(d == sysModules)=false):PySem.W.KdlSrc prog w "dict" d d es.size (λi v=>∃en,es[i]?=some en/\v=en.key) (λh=>Nr h d es ep) where
 type:=λ_ ⟨o,ho,hx,_⟩=>⟨o,ho,hx.1⟩
 there:=λ_ ⟨o,ho,_⟩=>⟨Qch ho,Qch ho⟩
 keep:=λ_ _ ⟨o,ho,hx⟩ hk=>⟨o,hk d (.inl rfl) o ho,hx⟩
 notList:=by decide
 notTuple:=by decide
 hint:=λ_ _ _ _ ⟨o,ho,hx,_⟩ hq=>PySem.W.kdl_hint_dict ⟨o,ho,hx.1⟩ hq
 iter:=λA s hh hm=>⟨_,λi h=>h.IsKeyIter s.heap.objs.size d i es.size ep/\Nr h d es ep,(λ_ _ hq=>pR lo hm hq),{
   sub:=λb hb=>by simp at hb;simp[hb]
   frame:=λ_ _ _ st hk=>⟨st.1.at λo e=>hk s.heap.objs.size (by simp) o e,let ⟨o,ho,r⟩:=st.2;⟨o,hk d (by simp) o ho,r⟩⟩
   item:=λi s' Q E hi st hQ=>by
    have hne:d≠s.heap.objs.size:=let ⟨o,ho,_⟩:=hm;Qcj (Qch ho)
    have hx:es[i]?=some es[i]:=by simp[hi]
    refine pQ st.1 st.2 hx λh' hit' hs'=>?_
    obtain⟨o,ho,r⟩:=st.2
    exact hQ es[i].key h' s'.toks ⟨es[i],hx,rfl⟩ ⟨hit',o,hs'.extBut d o hne ho,r⟩ λb o hb e=>hs'.extBut b o (λh=>hb (by simp[h])) e
   done:=λs' Q E st hQ=>wG hh st.1 st.2 (by simp) λh' he'=>hQ h' s'.toks λb o hb e=>he' b o (λh=>hb (by simp[h])) e
   self:=λ_ _ _ _ st hQ=>wpAny_pyIter_keyiter st.1 hQ },⟨⟨_,QaI _ rfl,rfl,rfl⟩,let ⟨o,ho,r⟩:=hm;⟨o,Qav _ ho,r⟩⟩⟩
@[irreducible] def Rq:YG->Hp->VK->Prop:=λxs H Q=>∃(a:Addr) (kvs:YL),xs=[.ref a]/\H a=some (.dT kvs)/\∀l bs,H l=none->Paired (λb (kv:List Key×V)=>H b=some (.tup (kv.1.map kV))) bs kvs->Q (.ref l) (upd H l (.lst (bs.map V.ref)))
theorem lV {a:Addr} {kvs:YL} {H:Hp} {Q:VK} (h:H a=some (.dT kvs)) (q:∀l bs,H l=none->Paired (λb (kv:List Key×V)=>H b=some (.tup (kv.1.map kV))) bs kvs->Q (.ref l) (upd H l (.lst (bs.map V.ref)))):Rq [.ref a] H Q:=by
 unfold Rq
 exact⟨a,kvs,rfl,h,q⟩
theorem U0 {H:Hp}:∀{kvs:YL} {us:YE},us.length=kvs.length->(∀(j:Nat) (u:Value),us[j]?=some u->∃(kv:List Key×V) (b:Addr),kvs[j]?=some kv/\u=.ref b/\H b=some (.tup (kv.1.map kV)))->∃bs:List Addr,Vals (bs.map V.ref) us/\Paired (λb (kv:List Key×V)=>H b=some (.tup (kv.1.map kV))) bs kvs
 | [],[],_,_=>⟨[],.nil,.nil⟩
 | [],_::_,h,_=>by simp at h
 | _::_,[],h,_=>by simp at h
 | kv::r,u::us,h,g=>by
  obtain⟨bs,h1,h2⟩:=U0 (H:=H) (kvs:=r) (us:=us) (by simpa using h) λj u hu=>by
   obtain⟨kv',b,e,q⟩:=g (j+1) u (by simpa using hu)
   exact⟨kv',b,by simpa using e,q⟩
  obtain⟨kv',b,e,e2,q⟩:=g 0 u rfl
  cases e
  exact⟨b::bs,.cons e2 h1,.cons q h2⟩
theorem bW {X:Cx} (hc:X.calm=true):Dm X (.type "list") Rq:=by
 intro pins s σ H xs us Q I r h
 unfold Rq at h
 obtain⟨a,kvs,rfl,e,q⟩:=h
 obtain⟨u,rfl,rx⟩:=vals1 r
 cases rx
 obtain⟨z,lo,xs,h3,ob,es,ep,h4,h5,h6,h7,_⟩:=(show Bt X.prog X.w H s.heap a (.dT kvs) from I.hok a _ e)
 obtain⟨hz,rel⟩:=Zx h3 h7
 refine PySem.W.kdl_call (wF (es:=es) (ep:=ep) lo) (I.ok.hd hc) ⟨ob,h4,h5,h6⟩ (by omega) λh' tk acc c' hk hS hacc=>?_
 obtain⟨bs,b1,b2⟩:=U0 (H:=H) (kvs:=kvs) (us:=acc.toList) (by rw[QaK,hacc.1,hz]) λj u hu=>by
  obtain⟨en,hen,e2⟩:=hacc.2 j u (by rw[<-Array.getElem?_toList];exact hu)
  have hj:j < kvs.length:=by
   have:=(Qaf.mp hen).1
   omega
  obtain⟨b,en',h8,h9,h10,_⟩:=rel j kvs[j] (Qan hj)
  rw[hen] at h8
  cases h8
  exact⟨kvs[j],b,Qan hj,by rw[e2,h9],h10⟩
 have fr:=I.hok.fresh (Qcq s.heap.objs.size)
 refine⟨.ref s.heap.objs.size,_,I.laid (t':=tk) (o:=.lst (bs.map V.ref)) (λb o q=>hk b o q) (Qcq _) ?_,rfl,q _ bs fr b2⟩
 exact⟨by rw[QbB,QbX b2];exact z,acc.toList,c',b1,hS⟩
theorem WQ {α β : Type} (f:α->β):∀(l:List α) (j:Nat),(l.map f).eraseIdx j=(l.eraseIdx j).map f
 | [],_=>rfl
 | _::_,0=>rfl
 | a::r,j+1=>by
  show f a::(r.map f).eraseIdx j=f a::(r.eraseIdx j).map f
  rw[WQ f r j]
theorem Va {α β : Type} {F:α->β->Prop}:∀{l:List α} {m:List β} (j:Nat),Paired F l m->Paired F (l.eraseIdx j) (m.eraseIdx j)
 | _,_,_,.nil=>.nil
 | _,_,0,.cons _ t=>t
 | _,_,j+1,.cons a t=>.cons a (Va j t)
theorem wO {H:Hp}:∀{l:YL} {m:List (List Key×Addr×Value)} {i:Nat} {p:List Key×V},Paired (λ(p:List Key×V) (q:List Key×Addr×Value)=>p.1=q.1/\H q.2.1=some (.tup (p.1.map kV))/\RelV p.2 q.2.2) l m->l[i]?=some p->∃x,m[i]?=some x/\p.1=x.1/\H x.2.1=some (.tup (p.1.map kV))/\RelV p.2 x.2.2:=by
 intro l m i p r
 induction r generalizing i with
 | nil=>intro h;cases h
 | cons a t ih=>
  intro h
  cases i with
  | zero=>cases h;exact⟨_,rfl,a⟩
  | succ i=>exact ih h
theorem Wu {H:Hp}:∀{l:YL} {m:List (List Key×Addr×Value)} {i:Nat} {x:List Key×Addr×Value},Paired (λ(p:List Key×V) (q:List Key×Addr×Value)=>p.1=q.1/\H q.2.1=some (.tup (p.1.map kV))/\RelV p.2 q.2.2) l m->m[i]?=some x->∃p,l[i]?=some p/\p.1=x.1/\H x.2.1=some (.tup (p.1.map kV))/\RelV p.2 x.2.2:=by
 intro l m i x r
 induction r generalizing i with
 | nil=>intro h;cases h
 | cons a t ih=>
  intro h
  cases i with
  | zero=>cases h;exact⟨_,rfl,a⟩
  | succ i=>exact ih h
theorem jF {prog:Program} {w:World} {K:Type} [DecidableEq K] {knd:HeapKind prog w K} {A:Around} {E:YA} {s:Shared} {d a:Addr} {o:Obj} {es:YK} {ep:Nat} {xs:List (K×Addr×Value)} {k:K} {Q:Option DictEntry->Shared->Prop} (hu:knd.room A) (hkey:knd.is s.heap k a)
  (ho:s.heap.get? d=some o) (hc:o.ExactDict) (hd:o.data=.dict es ep) (he:es.toList=xs.map (entryOfKey knd)) (his:∀x∈xs,knd.is s.heap x.1 x.2.1) (hn:(xs.map (·.1)).Nodup) (hz:xs.length<=sizeLine)
  (hnone:(∀(j:Nat) (p:Addr×Value),xs[j]?≠some (k,p))->Q none { s with toks:=s.toks+knd.draws k })
  (hsome:∀(j:Nat) (p:Addr×Value),xs[j]?=some (k,p)->∀h' o' es',h'.get? d=some o'->o'.ExactDict->o'.data=.dict es' (ep+1)->es'.toList=(xs.eraseIdx j).map (entryOfKey knd)->Heap.SameBut d s.heap h'->Q (some (entryOfKey knd (k,p))) { s with heap:=h',toks:=s.toks+knd.draws k }) :
  wpAny (model prog w) A (Builtin.Dict.takeOut d (.ref a)) Q E s:=by
 unfold Builtin.Dict.takeOut
 try with_reducible refine Qcc ?_
 refine Qcv (knd.pyHash hu hkey (Qcv (wpAny_dictFind_heap (s:={ s with toks:=s.toks+knd.draws k }) hu hkey ho hd he his hn (λhno=>Qcw (hnone hno)) λj p hj=>?_)))
 refine Qcv (wpAny_dictEntries (s:={ s with toks:=s.toks+knd.draws k }) ho hd ?_)
 rw[entry_at he j,hj]
 have hsz:=size_of_entries he
 have hle:(es.eraseIdxIfInBounds j).toList=(xs.eraseIdx j).map (entryOfKey knd):=by
  rw[Array.toList_eraseIdxIfInBounds,he,WQ]
 refine Qcv (wpAny_updateDictKeys (hz:=by omega) (hf:=by have h1:=congrArg List.length hle;rw[QaK,QbB] at h1;have:=List.length_eraseIdx_le xs j;omega) (s:={ s with toks:=s.toks+knd.draws k }) ho hd ?_)
 exact Qcw (hsome j p hj _ _ _ (QaC _ ho (Obj.isFreed_of_dict (Obj.data_mapDictKeys hd _))) (hc.mapDictKeys _) (Obj.data_mapDictKeys hd _) hle (QaN ..))
def yZ (td ty tx:TE):TE:=fun σ H Q=>td σ H λx H1=>∃a,x=.ref a/\IsD H1 a/\ty σ H1 λy H2=>tx σ H2 λz H3=>∃kvs k b,H3 a=some (.dT kvs)/\y=.ref b/\H3 b=some (.tup (k.map kV)) /\
 (∀(j:Nat) (v:V),kvs[j]?=some (k,v)->Q v (upd H3 a (.dT (kvs.eraseIdx j))))/\((∀(j:Nat) (v:V),kvs[j]?≠some (k,v))->Q z H3)
theorem Bi {X:Cx} {pins:YC} {σ : St} {H:Hp} {s:Shared} {A:Around} {E:YA} {a b:Addr} {kvs:YL} {k:List Key} {r:Value} {Q:YA} (hu:A.units+1 < cLine) (I:Inv X pins σ H s) (e:H a=some (.dT kvs)) (eb:H b=some (.tup (k.map kV)))
  (h1:∀(j:Nat) (v:V),kvs[j]?=some (k,v)->∀w' s',Inv X pins σ (upd H a (.dT (kvs.eraseIdx j))) s'->RelV v w'->Q w' s') (h2:(∀(j:Nat) (v:V),kvs[j]?≠some (k,v))->∀s',Inv X pins σ H s'->Q r s'):wpAny (model X.prog X.w) A (call (.builtin "dict.pop") [.ref a,.ref b,r]) Q E s:=by
 obtain⟨z,lo,xs,rel,ob,es,ep,h4,h5,h6,h7,h8⟩:=(show Bt X.prog X.w H s.heap a (.dT kvs) from I.hok a _ e)
 have T:s.TypeIs (.ref a) "dict":=⟨ob,h4,h5.1⟩
 refine Qbv F.slot_dict_pop T F.entry_dict_pop ?_ (F.args_dict_pop_3 _ _ _)
 unfold Builtin.«dict.pop»
 refine Qcv ?_
 unfold Builtin.Dict.keyAndDefault
 refine Qcv (wpAny_notOrdered_dict T ?_)
 show wpAny _ _ (pure (a,Value.ref b,some r)) _ _ s
 refine Qcw ?_
 dsimp only
 rw[if_neg (show ¬((keyPart (Value.ref b)).isSome=true) from QaS)]
 have hlen:xs.length=kvs.length:=(QbX rel).symm
 have hkey:=Jz I.hok eb
 have none_of:(∀(j:Nat) (p:Addr×Value),xs[j]?≠some (k,p))->∀(j:Nat) (v:V),kvs[j]?≠some (k,v):=λhno j v hj=>by
  obtain⟨q,hq,e1,_⟩:=wO rel hj
  have e1:k=q.1:=e1
  exact hno j q.2 (by rw[hq,e1])
 have fin:∀tk,(∀(j:Nat) (v:V),kvs[j]?≠some (k,v))->Q r { s with toks:=tk }:=λtk hno=>h2 hno _ (I.tok _)
 refine Qcv (wpAny_dictEntries h4 h6 (Qcv (Qcw ?_)))
 have miss:∀(tk:Nat),(∀(j:Nat) (v:V),kvs[j]?≠some (k,v))->wpAny (model X.prog X.w) A.in1 (do Builtin.Dict.missedRemoval a (Value.ref b);rule "dict.pop.default";ret r) (λfin s'=>∃v,fin=PySem.Fin.done (Flow.ret v)/\Q v s') E { s with toks:=tk }:=λtk hno=>by
  unfold Builtin.Dict.missedRemoval
  rw[if_neg (by rw[lo];exact QaS)]
  exact Qcv (Qcw (Qcv (wpAny_rule (Qcw ⟨_,rfl,fin tk hno⟩))))
 by_cases hem:es.isEmpty=true
 ·rw[if_pos hem]
  have hk0:kvs=[]:=by
   have h1:=size_of_entries h7
   have h2:es.size=0:=by simpa using hem
   exact List.length_eq_zero_iff.mp (by omega)
  have h3:=miss s.toks λj v hj=>by rw[hk0] at hj;cases hj
  exact Qcv (wpAny_rule (Qcv (Qcw h3)))
 ·rw[if_neg hem]
  refine Qcv (jF (knd:=tupleKind (Df X.prog X.w)) (Qbd hu) hkey h4 h5 h6 h7 ?_ h8 (by omega) (λhno=>miss _ (none_of hno)) λj p hj h' o' es' g1 g2 g3 g4 sb=>?_)
  ·intro x hx
   obtain⟨i,hi⟩:=QaG hx
   obtain⟨pv,_,e1,hb,_⟩:=Wu rel hi
   rw[<-e1]
   exact Jz I.hok hb
  ·obtain⟨pv,hp,e1,_,rv⟩:=Wu rel hj
   have hp:kvs[j]?=some (k,pv.2):=by
    rw[hp]
    have:pv.1=k:=e1
    rw[<-this]
   have nd:((xs.eraseIdx j).map (·.1)).Nodup:=(List.Sublist.map _ (List.eraseIdx_sublist xs j)).nodup h8
   refine Qcv (wpAny_letGo (Qcw ⟨_,rfl,h1 j pv.2 hp _ _ ?_ rv⟩))
   refine O7 I (by rw[e];exact True.intro) sb ⟨o',g1⟩ ⟨by have:=List.length_eraseIdx_le kvs j;omega,lo,xs.eraseIdx j,?_,o',es',_,g1,g2,g3,g4,nd⟩
   refine Paired.Bc (Va j rel) λx y hxy=>⟨hxy.1,?_,hxy.2.2⟩
   rw[Al (gR hxy.2.1 e (λz=>nomatch z))]
   exact hxy.2.1
section
variable {X:Cx} {o e f:Expr} {apos cpos:Pos} {td ty tx:TE}
theorem qb (hu:X.A.units+1 < cLine) (ho:PE X o td) (he:PE X e ty) (hf:PE X f tx) (m:M2 X o "pop" apos e f cpos):PE X (.Call (.Attribute o "pop" apos) [e,f] [] cpos) (yZ td ty tx):=by
 intro pins s σ H Q I h
 refine wpAny_Call_method m.base m.few m.line PySem.F.plainAttrs_dict PySem.F.slot_dict_pop PySem.F.type_dict_pop (thn (ho pins s σ H _ I h) λu s1 zz=>?_)
 obtain⟨x,H1,I1,rx,a,ex,d,q1⟩:=zz
 subst ex
 obtain rfl:u=Value.ref a:=rx
 obtain⟨t1,t2,_⟩:=ZK I1 d
 refine⟨t1,t2,?_⟩
 rw[m.trees]
 refine Calls.callWith_builtin rfl (Calls.evalArgs_plain (Qbe (thn (he pins s1 σ H1 _ I1 q1) λiv s2 ⟨y,H2,I2,ry,q2⟩=>
  Qbe (thn (hf pins s2 σ H2 _ I2 q2) λfv s3 ⟨z,H3,I3,rz,kvs,k,b,ea,ey,eb,q3,q4⟩=>Calls.spliced_nil ?_))))
 subst ey
 obtain rfl:iv=Value.ref b:=ry
 exact Bi hu I3 ea eb (λj v hj w' s4 I4 rw'=>⟨v,_,I4,rw',q3 j v hj⟩) λhno s4 I4=>⟨z,H3,I4,rz,q4 hno⟩
end
open PySem.W (KasT kas_asc kas_desc kas_rev kas_tail3 kas_descPart kas_count kas_place kas_bin kas_sort)
structure C3 (a b c k:Int):Prop where
 b0:0<=b
 b1:b < 100
 c0:0<=c
 c1:c < 100
 k:k=a*10000+b*100+c
section
variable {prog:Program} {w:World} {A:Around} {s:Shared}
end
end L2
namespace L2
open PySem PySem.Spec PyProof.Rows
def aR (lo st:Int) (n:Nat):It:=⟨λi _=>i < n,λi H x H'=>H'=H/\x=.int (lo+(i:Int)*st),λi _=>n<=i⟩
theorem aY {P:Program} {w:World} {K:YD} {tg:Expr} (it:Addr) (lo c:Int) (n:Nat):Turn P w K tg (aR lo c n) [it] it (λi h=>IsRangeIter h it (lo+(i:Nat)*c) ((n:Int) - (i:Nat)) c) where
 mem:=by simp
 obj:=λi h st b hb=>by
  have e:b=it:=by simpa using hb
  subst e
  exact⟨_,st,λv z=>by
   have z':Data.fields _=Data.cell v:=z
   cases z'⟩
 keep:=λi h h' st k=>k it (by simp) _ st
 item:=by
  intro X hP hw hK hc i pins s σ H E I hf st hg
  subst hP hw hK
  obtain⟨f0,f1,f2,f3,f4,f5⟩:=hf it (by simp)
  have W:=Walks.range (prog:=X.prog) (w:=X.w) (I.ok.hd hc) it lo c n
  refine W.item i s _ _ hg st λv h' tk hv st' kk=>?_
  obtain⟨t,rfl⟩:=hv
  have I1:Inv X pins σ H { s with heap:=h',toks:=tk }:=I.turned (λb o hb e=>kk b o (by simpa using hb) e) f0 f1 f3 f4 f5
  exact⟨_,rfl,U7 (s:={ s with heap:=h',toks:=tk }) (n:="range_iterator") st' rfl rfl (by decide) ⟨.int (lo+i*c),H,I1,⟨t,rfl⟩,⟨rfl,rfl⟩,st',λb hb=>(hf b hb).1⟩⟩
 done:=by
  intro X hP hw hK hc i pins s σ H E I hf st hg
  subst hP hw hK
  obtain⟨f0,f1,f2,f3,f4,f5⟩:=hf it (by simp)
  exact wpAny_pyNext_range_end (I.ok.hd hc) st (by have:n<=i:=hg;omega) λh' eb=>⟨rfl,I.turned (t':=s.toks) (λb o hb e=>eb b o hb e) f0 f1 f3 f4 f5⟩
 self:=λ_ _ _ _ _ st h=>wpAny_pyIter_rangeiter st h
theorem Qo (a b:Int):Builtin.Range.rangeSize a b (-1)=if b < a then a - b else 0:=by
 unfold Builtin.Range.rangeSize
 rw[if_neg (by decide:¬(-1:Int) > 0),show (-(-1):Int)=1 from rfl,Int.ediv_one]
 by_cases h:b < a
 ·rw[if_pos h,if_pos (show a > b from h)];omega
 ·rw[if_neg h,if_neg (show ¬a > b from h)]
theorem jX {a b:Int} (ha:-1000<=a) (ha':a<=1000) (hb:-1000<=b) (hb':b<=1000):Builtin.Range.small a b (-1)=true:=by
 unfold Builtin.Range.small
 rw[Qo]
 simp only[Builtin.Range.rangeFitsLong,Qbw,Bool.or_eq_true,decide_eq_true_eq,beq_iff_eq,show ¬((-1:Int) > 0) by decide,if_false]
 split <;> omega
section
variable {X:Cx} {tg:Expr}
def CL (ta:TA):TI:=fun σ H R=>ta σ H λvs H1=>∃i j c:Int,vs=[.int i,.int j,.int c]/\(c=1\/c=-1)/\(-1000<=i/\i<=1000/\-1000<=j/\j<=1000)/\R (aR i c (if c=1 then (j - i).toNat else (i - j).toNat)) H1
theorem kO {a b d:Expr} {ta:TA} {p pos:Pos} (hg:Gl X "range") (hm:X.mg "range"=none) (ha:PA X [a,b,d] ta) (hs:starEach [a,b,d] X.env=[(false,eval a X.env),(false,eval b X.env),(false,eval d X.env)]:=by rfl) (hs2:starEach [b,d] X.env=[(false,eval b X.env),(false,eval d X.env)]:=by rfl) :
  PI X tg (.Call (.Name "range" p) [a,b,d] [] pos) (CL ta):=by
 intro pins s σ H R I h
 refine Call_ (Ii I hg hm boot_range (Qae (thn (ha pos pins s σ H _ I h) λus s1 zz=>?_) (by rw[hs,hs2]) (by rw[hs2];rfl)))
 obtain⟨vs,H1,I1,r1,q1⟩:=zz
 obtain⟨i,j,c,e,hc,⟨b1,b2,b3,b4⟩,q⟩:=q1
 subst e
 cases r1 with
 | cons r rr=>
  cases rr with
  | cons r' rr=>
   cases rr with
   | cons r'' rr=>
    cases rr
    obtain⟨t,rfl⟩:=r
    obtain⟨u,rfl⟩:=r'
    obtain⟨v,rfl⟩:=r''
    have hsm:Builtin.Range.small i j c=true:=by
     rcases hc with rfl | rfl
     ·exact small_one (by omega) (by omega) (by omega) (by omega)
     ·exact jX (by omega) (by omega) (by omega) (by omega)
    have hsz:Builtin.Range.rangeSize i j c=((if c=1 then (j - i).toNat else (i - j).toNat:Nat):Int):=by
     rcases hc with rfl | rfl
     ·rw[rangeSize_one];split <;> simp <;> omega
     ·rw[Qo,if_neg (by decide:¬(-1:Int)=1)];split <;> omega
    refine call_range_3 (by rcases hc with rfl | rfl <;> decide) ?_ (Or.inl (PyProof.noPylong_small (by omega)))
    refine wpAny_pyIter_range (IsRange.new ..) hsm ?_
    have I2:Inv X pins σ H1 { s1 with heap:=s1.heap.push { cls:=.type "range",data:=.fields #[.int i t,.int j u,.int c v] },toks:=s1.toks }:=I1.kept λb o e=>Qav _ e
    refine⟨(s1.heap.push { cls:=.type "range",data:=.fields #[.int i t,.int j u,.int c v] }).objs.size,[(s1.heap.push { cls:=.type "range",data:=.fields #[.int i t,.int j u,.int c v] }).objs.size],_,_,H1,rfl,I2.kept (t':=s1.toks) λb o e=>Qav _ e,aY _ i c _,?_,λb hb=>?_,q⟩
    ·show IsRangeIter _ _ (i+((0:Nat):Int)*c) (((if c=1 then (j - i).toNat else (i - j).toNat:Nat):Int) - ((0:Nat):Int)) c
     rw[<-hsz]
     simp only[Int.natCast_zero,Int.zero_mul,Int.add_zero,Int.sub_zero]
     exact QaI _ rfl
    ·have e:b=(s1.heap.push { cls:=.type "range",data:=.fields #[.int i t,.int j u,.int c v] }).objs.size:=by simpa using hb
     subst e
     exact I2.Qd (Qcq _) (I2.hok.fresh (Qcq _))
end
open PySem.W (KasT kas_asc kas_desc kas_rev kas_tail3 kas_descPart kas_count kas_place kas_bin kas_sort)
structure C2 (a b k:Int):Prop where
 b0:0<=b
 b1:b < 100
 k:k=a*100+b
def Vg (K:YD) (H:Hp) (v:V) (k:Int):Prop:=∃t a b,v=.ref t/\SqT K H t [.int a,.int b]/\C2 a b k
theorem vm {K:YD} {H:Hp}:∀{vs:YG} {ks:List Int},Paired (Vg K H) vs ks->jm K H vs
 | _,_,.nil,_,h=>nomatch h
 | _,_,.cons x r,v,h=>by
  rcases QbY.mp h with rfl | h
  ·obtain⟨t,a,b,e,q,_⟩:=x
   exact⟨t,[a,b],e,q,Nat.succ_pos _⟩
  ·exact vm r v h
section
variable {prog:Program} {w:World} {A:Around} {s:Shared}
theorem FH {fin:Bool} {C:Bool->Shared->Prop} {a b k a' b' k':Int} {t1 t2 u1 u2:Tok} (x:C2 a b k) (y:C2 a' b' k') (ne:k≠k') (hC:C (decide (k < k')) s):PySem.W.KatLex prog w A true fin C ([Value.int a t1,Value.int b t2].zip [Value.int a' u1,Value.int b' u2]) 0 s:=by
 have x1:=x.b0
 have x2:=x.b1
 have x5:=x.k
 have y1:=y.b0
 have y2:=y.b1
 have y5:=y.k
 rw[List.zip_cons_cons]
 refine PySem.W.kat_cons (wpAny_eqBool_int ?_)
 by_cases ha:a=a'
 ·rw[show (a == a')=true by rw[ha];exact beq_self_eq_true a']
  refine PySem.W.kat_yes ?_
  rw[List.zip_cons_cons]
  refine PySem.W.kat_cons (wpAny_eqBool_int ?_)
  have hb:b≠b':=λz=>ne (by rw[x5,y5,ha,z])
  rw[show (b == b')=false from QaJ.mpr hb]
  refine PySem.W.kat_no (PySem.W.kat_one _ _ (lt_int ?_))
  rw[show decide (b < b')=decide (k < k') by rw[QbL,Qba,Qba];subst ha;constructor <;> intro h <;> omega]
  exact hC
 ·rw[show (a == a')=false from QaJ.mpr ha]
  refine PySem.W.kat_no (oneLt_int ?_)
  rw[show decide (a < a')=decide (k < k') by rw[QbL,Qba,Qba];constructor <;> intro h <;> omega]
  exact hC
end
@[irreducible] def Um (K:YD):YG->Hp->VK->Prop:=λxs H Q=>∃(p:Addr) (vs:YG) (ks:List Int),xs=[.ref p]/\SqL K H p vs/\vs.length < 64/\Paired (Vg K H) vs ks/\ks.Nodup /\
 ∀(is:List Nat) l,is.Perm (List.range vs.length)->(is.map λi=>ks.getD i 0).Pairwise (· < ·)->H l=none->Q (.ref l) (upd H l (.lst (is.map λi=>vs.getD i .non)))
theorem pG {K:YD} {p:Addr} {vs:YG} {ks:List Int} {H:Hp} {Q:VK} (h1:SqL K H p vs) (h2:vs.length < 64) (h3:Paired (Vg K H) vs ks) (h4:ks.Nodup)
  (q:∀(is:List Nat) l,is.Perm (List.range vs.length)->(is.map λi=>ks.getD i 0).Pairwise (· < ·)->H l=none->Q (.ref l) (upd H l (.lst (is.map λi=>vs.getD i .non)))):Um K [.ref p] H Q:=by
 unfold Um
 exact⟨p,vs,ks,rfl,h1,h2,h3,h4,q⟩
theorem aB {X:Cx}:Dm X (.builtin "sorted") (Um X.K):=by
 intro pins s σ H xs us Q I r h
 unfold Um at h
 obtain⟨p,vs,ks,rfl,hq,h64,hK,hnd,q⟩:=h
 have hR:jm X.K H vs:=vm hK
 have hkl:vs.length=ks.length:=QbX hK
 obtain⟨u,rfl,rx⟩:=vals1 r
 cases rx
 obtain⟨its,rv,pl,hz⟩:=I.list hq
 have hlen:vs.length=its.length:=rv.length
 by_cases h2:2<=its.length
 ·obtain⟨m,hn,_⟩:=id I.loc
  refine PySem.W.kat_sorted (Att.A8 hn) (qL (g:=Att.Uy s.heap) (h:=s.heap) (L:=X.env.locals)) pl.isList h2 (by omega) λD e1 h' F' N' hD=>?_
  have kp:∀b o,b≠X.env.locals->s.heap.get? b=some o->h'.get? b=some o:=λb o hb e=>(N' (b,o) (QaE _ (Om hb (Att.Lz _ _) e))).1
  have nl:∀b,H b≠none\/(∃u,X.base.get? b=some u)->b≠X.env.locals:=λb hb z=>by
   rcases hb with hb |⟨u,hb⟩
   ·exact hb (by rw[z];exact I.free)
   ·have:=Qch hb
    rw[z] at this
    exact absurd (QaW this (Qck I.ok.bsz I.ok.above)) (Qcb _)
  obtain⟨fs,f1,f2,f3⟩:=dR (h':=h') I (λb o hb e=>kp b o (nl b hb) e) rv hR
  refine PySem.W.kat_kind f1 (by omega) (λv hv=>by obtain⟨i,t,rfl⟩:=f3 v hv;exact PySem.W.Looks.of_pure rfl) (T:=.type "int") (by decide) ?_
  have inj:Inj its.length (λi=>ks.getD i 0):=λi j hi hj e=>by
   have e:ks.getD i 0=ks.getD j 0:=e
   have e1:ks.getD i 0=ks[i]'(by omega):=by simp[show i < ks.length by omega]
   have e2:ks.getD j 0=ks[j]'(by omega):=by simp[show j < ks.length by omega]
   rw[e1,e2] at e
   exact lN hnd _ _ e
  have hp:=Tp (lt:=ltK λi=>ks.getD i 0) _ (aO (n:=its.length) (by omega))
  have RB:=Kr.list hp (pN inj h2)
  refine dU (lt:=ltK λi=>ks.getD i 0) (n:=its.length) (λi j C hi hj hC=>?_) _ (aO (by omega)) ?_
  ·have uX:∀i,i < its.length->∃(x:Addr) (ox:Obj) (ws:Array Value) (n:Nat),its.getD i Value.none=.ref x/\h'.get? x=some ox/\ox.data=.seq ws n/\(∃a b t1 t2,ws.toList=[Value.int a t1,Value.int b t2]/\C2 a b (ks.getD i 0))/\∀y∈ws.toList,∃a t,y=Value.int a t:=λi hi=>by
    have hvi:i < vs.length:=by omega
    obtain⟨u,hu,ru⟩:=rv.get (x:=vs[i]) (i:=i) (by simp[hvi])
    obtain⟨tp,ka,kb,e,hq',hC3⟩:=bw V.non (0:Int) hK hvi
    have hq':SqT X.K H tp (([ka,kb]:List Int).map V.int):=hq'
    have ev:vs.getD i V.non=vs[i]:=by simp[hvi]
    rw[ev] at e
    rw[e] at ru
    cases ru
    obtain⟨ws,rw',⟨o,ho,hc,n,hd⟩,_⟩:=I.tuple hq'
    have go:∀{ns:List Int} {ws:YE},Vals (ns.map V.int) ws->∀y∈ws,∃a t,y=Value.int a t:=by
     intro ns
     induction ns with
     | nil=>intro ws r;cases r;exact λy hy=>nomatch hy
     | cons n0 nr ih=>
      intro ws r
      cases r with
      | cons r0 rr=>
       intro y hy
       rcases QbY.mp hy with rfl | hy
       ·obtain⟨t,e⟩:=r0;exact⟨_,_,e⟩
       ·exact ih rr y hy
    refine⟨tp,o,ws.toArray,n,?_,kp tp o (nl tp ?_) ho,hd,?_,λy hy=>go rw' y (by simpa using hy)⟩
    ·rw[Qag,hu];rfl
    ·rcases hq' with (z |⟨_,z⟩) |⟨_,_,_,z,_⟩
     ·exact .inl (by rw[z];exact λz=>nomatch z)
     ·exact .inl (by rw[z];exact λz=>nomatch z)
     ·exact .inr ⟨_,I.mod.kin _ _ z⟩
    ·cases rw' with
     | cons r0 rr=>
      cases rr with
      | cons r1 rr=>
       cases rr
       obtain⟨t0,e0⟩:=r0
       obtain⟨t1,e1⟩:=r1
       exact⟨ka,kb,t0,t1,by rw[e0,e1],hC3⟩
   obtain⟨x,ox,wx,nx,ex,hx,dx,⟨xa,xb,x1,x2,fx,cx⟩,ix⟩:=uX i hi
   obtain⟨y,oy,wy,ny,ey,hy,dy,⟨ya,yb,y1,y2,fy,cy⟩,iy⟩:=uX j hj
   unfold PySem.W.kas_ask
   rw[ex,ey]
   refine PySem.W.kat_lt hx dx hy dy ?_
   by_cases ne:i=j
   ·subst ne
    rw[ex] at ey
    cases ey
    rw[hx] at hy
    cases hy
    rw[dx] at dy
    cases dy
    have e0:ltK (λi=>ks.getD i 0) i i=false:=QbG (Int.lt_irrefl _)
    rw[e0] at hC
    have e1:decide (wx.size < wx.size)=false:=QbG (Qcb _)
    rw[e1]
    exact AG hC _ ix 0
   ·rw[fx,fy]
    exact FH cx cy (λz=>ne (inj i j hi hj z)) hC
  ·refine PySem.W.KasFin.intro F' N' (.head λq hq=>Qcj (hD q hq)) λh2' c F2 N2=>?_
   generalize Fb (ltK λi=>ks.getD i 0) (kas_sort its.length)=pp at hp RB N2 ⊢
   have kp2:∀b o,b≠X.env.locals->s.heap.get? b=some o->h2'.get? b=some o:=λb o hb e=>(N2 (b,o) (QaE _ (Om hb (Att.Lz _ _) e))).1
   obtain⟨oD,DL,_⟩:=N2 (D,_) (QaR ..)
   have nD:∀b o,s.heap.get? b=some o->b≠D:=λb o e z=>by
    by_cases hb:b=X.env.locals
    ·exact DL (by rw[<-z];exact hb)
    ·have:=hD (b,o) (Om hb (Att.Lz _ _) e)
     rw[z] at this
     exact Qcb _ this
   have hDn:H D=none:=by
    cases e:H D with
    | none=>rfl
    | some v=>
     obtain⟨o,ho⟩:=(I.hok D v e).there
     exact absurd rfl (nD D o ho)
   have tr:∀(o:HO) b u,H b=some u->(upd H D o) b=some u:=λo b u e=>by rw[Al (Ax e hDn)];exact e
   have hmem:∀i∈pp.toList,i < vs.length:=λi hi=>by rw[hlen];exact QbU.mp (hp.mem_iff.mp hi)
   have rv2:Vals (pp.toList.map λi=>vs.getD i .non) (pp.toList.map λi=>its.getD i Value.none):=Wr V.non Value.none rv hmem
   have pm:(pp.toList.map λi=>vs.getD i .non).Perm vs:=by
    have:=hp.map λi=>vs.getD i V.non
    rw[<-hlen,range_getD] at this
    exact this
   have I2:Inv X pins σ (upd H D (.lst (pp.toList.map λi=>vs.getD i .non))) { s with heap:=h2' }:=by
    refine I.step (h':=h2') (g':=s.gens) (d':=s.drawn) (t':=s.toks) (ch:=[]) (λb hb=>absurd hb (by simp)) (λb u hb _ _ e _=>kp2 b u hb e) (λb u hb _ _ e _=>⟨u.slots,kp2 b u hb e⟩) (λb u _ e n=>by rw[Al (nD b u e)];exact n)
     (λb u _ e=>?_) (λb ys e=>tr _ _ _ e) (λb u v e=>tr _ _ _ e) (λb ps e=>⟨#[],by rw[tr _ _ _ e];simp⟩) (λm' hm'=>by rw[xu hm' hn];exact F2.ns) (λb u e=>?_) I.bare
    ·by_cases hb:b=X.env.locals
     ·obtain⟨o,_,_,ho,_⟩:=F2.ns
      exact⟨o,by rw[hb];exact ho⟩
     ·exact⟨u,kp2 b u hb e⟩
    ·by_cases hb:b=D
     ·subst hb
      rw[Ac] at e
      cases e
      exact⟨by rw[pm.length_eq];exact Qcn (Ao (by omega)),_,c,rv2,oD⟩
     ·rw[Al hb] at e
      refine (I.hok b u e).stay (λx v hx e1=>kp2 x v ?_ e1) (λx e1=>tr _ _ _ e1) λx ys e1=>tr _ _ _ e1
      intro z
      rcases hx with hx | hx
      ·rw[<-hx,z,I.free] at e;cases e
      ·rw[z,I.free] at hx;cases hx
   exact⟨.ref D,_,I2,rfl,q _ D (by rw[hlen];exact hp) RB hDn⟩
 ·refine Ym pl.isList (by omega) λD h' c hD oD kp=>?_
  refine⟨.ref D,_,I.laid (t':=s.toks) (o:=.lst vs) kp hD ?_,rfl,?_⟩
  ·exact⟨Qcn (Ao (by omega)),its,c,rv,oD⟩
  ·have z:=q (List.range vs.length) D (List.Perm.refl _) (by
    rw[hkl,range_getD]
    match ks,(show ks.length < 2 by omega) with
    | [],_=>exact List.Pairwise.nil
    | [k],_=>exact Qat _ _) (I.hok.fresh hD)
   rw[range_getD] at z
   exact z
theorem jc {lo c:Int} {n:Nat} {g:TG} {tb:TS} {D:Ends} {σ : St} {H:Hp} (Pv:YN) (h0:Pv 0 σ H)
  (hs:∀i σ H,i < n->Pv i σ H->g (.int (lo+(i:Int)*c)) σ H fun σ2 H2=>tb { D with nx:=Pv (i+1),ct:=Pv (i+1),bk:=D.nx } σ2 H2) (hd:∀ σ H,Pv n σ H->D.nx σ H) :
  ∃W:Nat->YN,(∃m,W 0 m σ H)/\∀i m σ H,W i m σ H ->
   ((aR lo c n).stop i H/\D.nx σ H)\/((aR lo c n).go i H/\∃N:YO,(∀ σ' H',N σ' H'->∃m',m' < m/\W (i+1) m' σ' H')/\∀x H',(aR lo c n).yld i H x H'->g x σ H' fun σ2 H2=>tb { D with nx:=N,ct:=N,bk:=D.nx } σ2 H2):=by
 refine⟨λi m σ H=>m=n - i/\i<=n/\Pv i σ H,⟨n,by simp,Qcr _,h0⟩,?_⟩
 rintro i m σ H ⟨rfl,hi,p⟩
 by_cases hlt:i < n
 ·refine .inr ⟨hlt,Pv (i+1),fun σ' H' p'=>⟨n - (i+1),by omega,rfl,hlt,p'⟩,λx H' y=>?_⟩
  obtain⟨rfl,rfl⟩:=y
  exact hs i σ _ hlt p
 ·have e:i=n:=by omega
  subst e
  exact .inl ⟨Qcq _,hd σ H p⟩
end L2
namespace K08
open PySem L2
def top (i:Nat):Stmt:=PySem.Challenge.pw_warnloop_k08_an_opener_acts.main.body.getD i (.Pass ⟨0,0,0,0⟩)
theorem Bq:bootBuiltins "isinstance"=some (.builtin "isinstance"):=by trivial
theorem aJ:bootBuiltins "int"=some (.type "int"):=by trivial
theorem eV:bootBuiltins "bool"=some (.type "bool"):=by trivial
theorem Ka:bootBuiltins "tuple"=some (.type "tuple"):=by trivial
theorem yw:bootBuiltins "list"=some (.type "list"):=by trivial
theorem BC:bootBuiltins "str"=some (.type "str"):=by trivial
theorem Cu:bootBuiltins "len"=some (.builtin "len"):=by trivial
theorem Ik:bootBuiltins "all"=some (.builtin "all"):=by trivial
theorem ou:bootBuiltins "abs"=some (.builtin "abs"):=by trivial
theorem aH:bootBuiltins "max"=some (.builtin "max"):=by trivial
theorem oh:bootBuiltins "any"=some (.builtin "any"):=by trivial
theorem W8:bootBuiltins "sorted"=some (.builtin "sorted"):=by trivial
theorem Ra:bootBuiltins "min"=some (.builtin "min"):=by trivial
structure Nm (mg:YB):Prop where
 isinstance:mg "isinstance"=none
 int:mg "int"=none
 bool:mg "bool"=none
 tuple:mg "tuple"=none
 list:mg "list"=none
 str:mg "str"=none
 len:mg "len"=none
 all:mg "all"=none
 abs:mg "abs"=none
 max:mg "max"=none
 min:mg "min"=none
 range:mg "range"=none
 sorted:mg "sorted"=none
 any:mg "any"=none
 sum:mg "sum"=none
 enumerate:mg "enumerate"=none
 zip:mg "zip"=none
 reversed:mg "reversed"=none
 dict:mg "dict"=none
 ord:mg "ord"=none
abbrev Vv:Stmt:=top 57
abbrev OJ:YF:=["_law_script","_law_k"]
theorem S5:Az ["_law_script","_law_k","_law_cell"] OJ (Aj Vv):=⟨rfl,rfl,rfl,by trivial,rfl,by trivial,by trivial⟩
abbrev S7:Stmt:=top 58
abbrev Ew:YF:=["_law_bag_here","_law_many"]
theorem Je:Az ["_law_bag_here","_law_many","_law_digit","_law_primes","_law_step","_law_base","_law_found"] Ew (Aj S7):=⟨rfl,rfl,rfl,by trivial,rfl,by trivial,by trivial⟩
theorem AO (v:V):isW v=(isI v&&!isB v):=by cases v <;> rfl
def Bw (H:Hp) (b:Addr) (n:Nat):Prop:=∃x y z:Int,H b=some (.lst [.int x,.int y,.int z])/\0<=x/\0<=y/\y<=4294967296/\0<=z/\z<=n
theorem Bw.same {H H':Hp} {b:Addr} {n:Nat} (h:Bw H b n) (s:Same H H'):Bw H' b n:=by
 obtain⟨x,y,z,e,r⟩:=h
 exact⟨x,y,z,s _ _ e,r⟩
theorem Bw.mono {H:Hp} {b:Addr} {n m:Nat} (h:Bw H b n) (l:n<=m):Bw H b m:=by
 obtain⟨x,y,z,e,h1,h2,h3,h4,h5⟩:=h
 exact⟨x,y,z,e,h1,h2,h3,h4,by omega⟩
theorem Bw.nb {H:Hp} {b p:Addr} {n:Nat} (h:Bw H b n) (hp:H p=none):b≠p:=by obtain⟨_,_,_,e,_⟩:=h;exact Ax e hp
theorem Bw.Gf {H:Hp} {b:Addr} {n:Nat} (h:Bw H b n):∀xs,H b≠some (.tup xs):=λxs z=>by obtain⟨_,_,_,e,_⟩:=h;rw[e] at z;cases z
theorem Bw.ex {H:Hp} {b:Addr} {n:Nat} (h:Bw H b n):∃o,H b=some o:=by obtain⟨_,_,_,e,_⟩:=h;exact⟨_,e⟩
theorem Bw.DY {H H':Hp} {a b:Addr} {n:Nat} (h:Bw H b n) (s:Ai a H H') (ne:b≠a):Bw H' b n:=by
 obtain⟨x,y,z,e,r⟩:=h
 exact⟨x,y,z,s _ _ e ne,r⟩
theorem Aw {n:Nat} (h:n<=1000):n<=sizeLine:=Qcn (Ao h)
def vh (K:YD):Sp:=λvs H Q _=>∃(a:Addr) (ns:List Int) (k:Int),vs=[.ref a,.int k]/\SqL K H a (ns.map V.int)/\ns.length<=63/\0<=k/\k<=100/\∀p o,H p=none->Bw (upd H p o) p 0->Q (.ref p) (upd H p o)
def Kv:Sp:=λvs H Q _=>∃(b:Addr) (n:Nat) (m:Int),vs=[.ref b,.int m]/\Bw H b n/\n<=10000/\0 < m/\m < 1073741824/\∀r H',0<=r->r < m->Bw H' b (n+1)->Ai b H H'->Q (.int r) H'
def Xx (K:YD):Sp:=λvs H Q _=>∃(a:Addr) (ns:List Int),vs=[.ref a]/\SqL K H a (ns.map V.int)/\ns.length<=63/\∀H',Q (.bl true) H'
theorem at7 {i:Int} (h0:0<=i) (h7:i < 7) {a b c d e f g:Int} (P:Int->Prop) (ha:P a) (hb:P b) (hc:P c) (hd:P d) (he:P e) (hf:P f) (hg:P g):∃p,atI [V.int a,.int b,.int c,.int d,.int e,.int f,.int g] i=some (.int p)/\P p:=by
 have:i=0\/i=1\/i=2\/i=3\/i=4\/i=5\/i=6:=by omega
 rcases this with rfl | rfl | rfl | rfl | rfl | rfl | rfl
 ·exact⟨_,rfl,ha⟩
 ·exact⟨_,rfl,hb⟩
 ·exact⟨_,rfl,hc⟩
 ·exact⟨_,rfl,hd⟩
 ·exact⟨_,rfl,he⟩
 ·exact⟨_,rfl,hf⟩
 ·exact⟨_,rfl,hg⟩
theorem BA {x:Int} {b:Bool}:jz x (if b=true then 1 else 0):=.inr (by cases b <;> exact⟨by decide,by decide⟩)
section
variable {P:Program} {w:World} {K:YD} {mg:YB} {base:Heap}
theorem qD (C:Code K mg "_law_bag" Vv OJ) (T:Nm mg):Good P w K mg base "_law_bag" 1 OJ (vh K):=by
 refine C.good S5 (λvs H Q E h=>?_) (λf cdv A outer s H vs Q E hr h=>?_)
 ·obtain⟨a,ns,k,rfl,_⟩:=h
  rfl
 obtain⟨a,ns,k,rfl,hS,h63,h0,h1,q⟩:=h
 refine⟨_,(Af (Ba (i:=2) S5.nd rfl (Or.inl rfl) (Bg Ca (Bg Ca (Bg Hf (Bg Hf Ae (pv 1)) (pv 1)) (Bg Hf Ae (pv 1))) Ae))
 (Af (Ce (Bx Uu (pv 1) (Av Bl rfl T.len Cu (Aa (pv 0) Ab)) (Bs _)) (Ah (Ba (i:=2) S5.nd rfl (Or.inl rfl) (Bo CV (pv 0) (pv 1) (λ_ _=>rfl)))) BJ)
 (Ah (Bb (BP (Aa (Bg Hf (Av aG rfl T.abs ou (Aa (pv 2) Ab)) (Gm W0 rfl T.int aJ (Aa (Dk Ct (Av aG rfl T.abs ou (Aa (pv 2) Ab)) (Bg Ze Ae Ae) (Bs _)) Ab))) (Aa (Bg Ca (Bg K4 (pv 2) Ae) (Bg Hf Ae (pv 1))) (Aa Ae Ab)))))))),?_⟩
 show let R0:TS:=_;let R1:TS:=_;let R2:TS:=Am (Gp _ R1 _) R0;Am _ R2 _ _ _
 intro R0 R1 R2
 refine⟨_,rfl,_,_,rfl,rfl,.inl ⟨by decide,by decide⟩,_,rfl,_,_,rfl,rfl,.inr ⟨by omega,by omega⟩,_,rfl,_,_,rfl,rfl,.inl ⟨by decide,by decide⟩,_,_,rfl,rfl,_,_,rfl,rfl,?_⟩
 refine⟨_,rfl,_,rfl,a,_,rfl,.inl hS,_,_,rfl,rfl,_,rfl,?_⟩
 have hl:(ns.map V.int).length=ns.length:=QbB _
 have fin:∀(c:Int) (p:Addr),H p=none->Q (.ref p) (upd H p (.lst [.int ((if c < 0 then -c else c)*(if decide ((10:Int) ^ (18:Int).toNat<=(if c < 0 then -c else c))=true then 1 else 0)),.int (c % 2147483647+37*k),.int 0])):=λc p hp=>by
  refine q p _ hp ⟨_,_,_,Ac,?_,?_,?_,by omega,by omega⟩
  ·refine Int.mul_nonneg ?_ ?_
   ·split <;> omega
   ·split <;> omega
  ·have:=QbP c (show (2147483647:Int)≠0 by decide)
   omega
  ·have:=Qbb c (show (0:Int) < 2147483647 by decide)
   omega
 refine JB (λc1=>?_) (λc1=>?_)
 ·have c':k < (((ns.map V.int).length:Nat):Int):=Qbj c1
  rw[hl] at c'
  have hk:k.toNat < ns.length:=by omega
  have hat:atI (ns.map V.int) ((k.toNat:Nat):Int)=some (.int ns[k.toNat]):=Ec (by rw[Qbi];simp[hk])
  rw[QaP h0] at hat
  refine⟨_,rfl,_,rfl,a,_,_,_,rfl,rfl,hS,hat,?_⟩
  exact⟨_,rfl,_,rfl,_,rfl,_,rfl,_,_,rfl,rfl,⟨by decide,by decide,by decide⟩,_,_,rfl,rfl,.inr ⟨_,rfl,_,_,rfl,rfl,BA,_,rfl,_,_,rfl,rfl,(by show (0:Int) < 2147483647;decide),_,rfl,_,_,rfl,rfl,.inl ⟨by decide,by decide⟩,_,_,rfl,rfl,
   (by show 3<=sizeLine;decide),λl hl'=>fin _ l hl'⟩⟩
 ·exact⟨_,rfl,_,rfl,_,rfl,_,rfl,_,_,rfl,rfl,⟨by decide,by decide,by decide⟩,_,_,rfl,rfl,.inr ⟨_,rfl,_,_,rfl,rfl,BA,_,rfl,_,_,rfl,rfl,(by show (0:Int) < 2147483647;decide),_,rfl,_,_,rfl,rfl,.inl ⟨by decide,by decide⟩,_,_,rfl,rfl,
   (by show 3<=sizeLine;decide),λl hl'=>fin _ l hl'⟩⟩
theorem lG (C:Code K mg "_law_take" S7 Ew) (T:Nm mg):Good P w K mg base "_law_take" 1 Ew Kv:=by
 refine C.good Je (λvs H Q E h=>?_) (λf cdv A outer s H vs Q E hr h=>?_)
 ·obtain⟨b,n,m,rfl,_⟩:=h
  rfl
 obtain⟨b,n,m,rfl,⟨x,y,z,hb,x0,y0,y1,z0,z1⟩,hn,m0,m1,q⟩:=h
 refine⟨_,(Af (Ce (Bx Rw (Bo CV (pv 0) Ae (λ_ _=>rfl)) Ae (Bs _)) (Af (Ba (i:=2) Je.nd rfl (Or.inl rfl) (Bg K4 (Bo CV (pv 0) Ae (λ_ _=>rfl)) (pv 1)))
 (Af (Hy (Bg VD (Bo CV (pv 0) Ae (λ_ _=>rfl)) (pv 1)) (Y8 (pv 0) Ae set_list))
 (Ah (Bb (pv 2))))) BJ)
 (Af (Ba (i:=3) Je.nd rfl (Or.inl rfl) (@Bd _ _ _ _ _ (@Aa _ _ _ _ _ (@Ae _ _ _ _) (@Aa _ _ _ _ _ (@Ae _ _ _ _) (@Aa _ _ _ _ _ (@Ae _ _ _ _) (@Aa _ _ _ _ _ (@Ae _ _ _ _) (@Aa _ _ _ _ _ (@Ae _ _ _ _) (@Aa _ _ _ _ _ (@Ae _ _ _ _) (@Aa _ _ _ _ _ (@Ae _ _ _ _) (@Ab _) Bh) Bh) Bh) Bh) Bh) Bh) Bh)))
 (Af (Hy (Bg Ca (Bo CV (pv 0) Ae (λ_ _=>rfl)) Ae) (Y8 (pv 0) Ae set_list))
 (Af (Ba (i:=4) Je.nd rfl (Or.inl rfl) (Bo CV (pv 0) Ae (λ_ _=>rfl)))
 (Af (Ba (i:=5) Je.nd rfl (Or.inl rfl) (Bg Ca (Bg Ca (Bg Hf (Bo CV (pv 0) Ae (λ_ _=>rfl)) (Bg Ca (Bg Hf Ae (pv 4)) Ae)) (Bg Hf (Bg Hf Ae (pv 4)) (pv 4))) Ae))
 (Af (Ba (i:=6) Je.nd rfl (Or.inl rfl) (Bg K4 (Bg Ze (pv 5) Ae) (Bo Cd (pv 3) (Bg K4 (pv 4) Ae) (λ_ _=>rfl))))
 (Ah (Bb (Bg K4 (Bg VD (Bg K4 (Bg Hf (pv 6) (Bg Ca (Bg VD (pv 6) Ae) Ae)) (Bo Cd (pv 3) (Bg K4 (Bg Ca (pv 4) Ae) Ae) (λ_ _=>rfl))) Ae) (pv 1)))))))))),?_⟩
 show let R0:TS:=_;let R1:TS:=Am _ R0;let R2:TS:=Am _ R1;let R3:TS:=Am _ R2;let R4:TS:=Am _ R3;let R5:TS:=Am _ R4;let R6:TS:=Am _ _;let R7:TS:=Am _ R6;Am (Gp _ R7 _) R5 _ _ _
 intro R0 R1 R2 R3 R4 R5 R6 R7
 refine⟨_,rfl,b,_,_,_,rfl,rfl,SqL.of hb,rfl,_,_,rfl,rfl,_,rfl,?_⟩
 refine JB (λc1=>?_) (λc1=>?_)
 ·have c':0 < x:=Qbj c1
  refine⟨_,rfl,b,_,_,_,rfl,rfl,SqL.of hb,rfl,_,rfl,_,_,rfl,rfl,m0,?_⟩
  refine⟨_,rfl,b,_,_,_,rfl,rfl,SqL.of hb,rfl,_,rfl,_,_,rfl,rfl,⟨m0,m1⟩,_,rfl,b,_,_,_,rfl,rfl,hb,rfl,?_⟩
  exact⟨_,rfl,q _ _ (QbP x (by omega)) (Qbb x m0) ⟨x / m,y,z,Ac,Int.ediv_nonneg x0 (by omega),y0,y1,z0,by omega⟩ Ai.upd⟩
 ·refine⟨(by show 7<=sizeLine;decide),λtp htp=>?_⟩
  have nbt:b≠tp:=Ax hb htp
  have hb1:∀o,(upd H tp o) b=some (.lst [.int x,.int y,.int z]):=λo=>by rw[Al nbt];exact hb
  have ht1:∀o u,(upd (upd H tp o) b u) tp=some o:=λo u=>by rw[Al nbt.symm,Ac]
  refine⟨_,rfl,b,_,_,_,rfl,rfl,SqL.of (hb1 _),rfl,_,_,rfl,rfl,_,rfl,b,_,_,_,rfl,rfl,hb1 _,rfl,?_⟩
  refine⟨_,rfl,b,_,_,_,rfl,rfl,SqL.of Ac,rfl,?_⟩
  have s0:0<=z+1:=by omega
  have s1:z+1<=10001:=by omega
  refine⟨_,rfl,b,_,_,_,rfl,rfl,SqL.of Ac,rfl,_,rfl,_,_,rfl,rfl,.inl ⟨by decide,by decide⟩,_,_,rfl,rfl,_,_,rfl,rfl,.inl ⟨by omega,by omega⟩,_,rfl,_,_,rfl,rfl,.inl ⟨by decide,by decide⟩,_,rfl,_,_,rfl,rfl,.inr ⟨by omega,by omega⟩,
   _,_,rfl,rfl,_,_,rfl,rfl,?_⟩
  have hbase:(y*(2*(z+1)+1)+6007*(z+1)*(z+1)+29).natAbs < 2 ^ 64:=by
   have h1:0<=y*(2*(z+1)+1):=Int.mul_nonneg y0 (by omega)
   have h2:y*(2*(z+1)+1)<=4294967296*20003:=Int.mul_le_mul y1 (by omega) (by omega) (by omega)
   have h3:0<=6007*(z+1)*(z+1):=Int.mul_nonneg (by omega) s0
   have h4:6007*(z+1)*(z+1)<=(6007*10001)*10001:=Int.mul_le_mul (by omega) s1 s0 (by omega)
   omega
  obtain⟨p1,e1,p10,p11⟩:=at7 (i:=(z+1) % 7) (QbP _ (by decide)) (Qbb _ (by decide)) (a:=2147483629) (b:=2147483587) (c:=2147483579) (d:=2147483563) (e:=2147483549) (f:=2147483543) (g:=2147483497)
   (λp=>0 < p/\p < 2147483648) (by decide) (by decide) (by decide) (by decide) (by decide) (by decide) (by decide)
  obtain⟨p2,e2,p20,p21⟩:=at7 (i:=(z+1+3) % 7) (QbP _ (by decide)) (Qbb _ (by decide)) (a:=2147483629) (b:=2147483587) (c:=2147483579) (d:=2147483563) (e:=2147483549) (f:=2147483543) (g:=2147483497)
   (λp=>0 < p/\p < 2147483648) (by decide) (by decide) (by decide) (by decide) (by decide) (by decide) (by decide)
  refine⟨_,rfl,_,_,rfl,rfl,⟨by decide,by decide,hbase⟩,_,rfl,_,rfl,_,_,rfl,rfl,(by show (0:Int) < 7;decide),tp,_,_,_,rfl,rfl,SqT.of (ht1 _ _),e1,_,_,rfl,rfl,p10,?_⟩
  generalize hF:(y*(2*(z+1)+1)+6007*(z+1)*(z+1)+29) ^ (3:Int).toNat % p1=F
  have F0:0<=F:=by rw[<-hF];exact QbP _ (by omega)
  have F1:F < p1:=by rw[<-hF];exact Qbb _ p10
  refine⟨_,rfl,_,rfl,_,_,rfl,rfl,⟨by decide,by decide⟩,_,_,rfl,rfl,_,_,rfl,rfl,.inl ⟨by omega,by omega⟩,_,rfl,_,rfl,_,_,rfl,rfl,_,_,rfl,rfl,(by show (0:Int) < 7;decide),tp,_,_,_,rfl,rfl,SqT.of (ht1 _ _),e2,_,_,rfl,rfl,p20,
   _,_,rfl,rfl,⟨by decide,by decide⟩,_,rfl,_,_,rfl,rfl,m0,?_⟩
  refine q _ _ (QbP _ (by omega)) (Qbb _ m0) ⟨x,y,z+1,Ac,x0,y0,y1,s0,by omega⟩ λc o e nc=>?_
  rw[Al nc,Al (Ax e htp)]
  exact e
end
abbrev Pk:Stmt:=top 59
abbrev M7:YF:=["_law_bag_here"]
theorem Wn:Az ["_law_bag_here","_law_letters"] M7 (Aj Pk):=⟨rfl,rfl,rfl,by trivial,rfl,by trivial,by trivial⟩
abbrev Nx:Stmt:=top 60
abbrev KH:YF:=["_law_bag_here","_law_many"]
theorem Jp:Az ["_law_bag_here","_law_many","_law_found","_law_place","_law_name_here"] KH (Aj Nx):=⟨rfl,rfl,rfl,by trivial,rfl,by trivial,by trivial⟩
theorem xT {K:YD} {H:Hp} {z:Str} {Q:VK} (q:Q (.bl true) H):Oi K [.str z,.ty "str"] H Q:=by
 unfold Oi
 exact⟨_,_,_,_,rfl,.str z,by rfl,q⟩
def abc:Str:="abcdefghijklmnopqrstuvwxyz"
def okS (z:Str):Prop:=∀c∈z.cps.toList,c∈abc.cps.toList
theorem okS.append {x y:Str} (h:okS x) (h':okS y):okS (x++y):=by
 intro c hc
 have:c∈x.cps.toList++y.cps.toList:=by
  have e:(x++y).cps=x.cps++y.cps:=rfl
  rw[e,Array.toList_append] at hc
  exact hc
 rcases QbD.mp this with z | z
 ·exact h c z
 ·exact h' c z
theorem okS.slice {x:Str} (h:okS x) (l u:Option Int):okS (Txt.slice x l u):=by
 unfold Txt.slice
 split
 ·exact h
 ·intro c hc
  have hc':c∈(Builtin.Str.strSliceIndices l u 1 x.length).filterMap (x.cps[·]?):=by simpa using hc
  obtain⟨i,_,e⟩:=List.mem_filterMap.mp hc'
  exact h c (Array.mem_toList_iff.mpr (Array.mem_of_getElem? e))
theorem okS.join {sep:Str} (hs:okS sep):∀{ts:YF},(∀t∈ts,okS t)->okS (Str.join sep ts)
 | [],_=>λc hc=>by cases hc
 | [x],h=>h x (QaR ..)
 | x::y::r,h=>((h x (QaR ..)).append hs).append (okS.join hs (ts:=y::r) λt ht=>h t (QaE _ ht))
theorem RP:abc.cps.toList.length=26:=by trivial
theorem BH:abc.cps.toList.Nodup:=by trivial
theorem oE:okS abc:=λc hc=>hc
theorem ZG:∀ts:YF,(Str.join "" ts).length=(ts.map (·.length)).sum
 | []=>rfl
 | [x]=>by show x.length=_;simp
 | x::y::r=>by
  show ((x++"")++Str.join "" (y::r)).length=_
  rw[Str.length_append,Str.length_append,ZG (y::r),QbZ (a:=x),List.sum_cons]
  have:(Str.ofString "").length=0:=by trivial
  rw[this]
  omega
theorem Hc (n:Nat):(Builtin.Str.strSliceIndices (some 1) none 1 n).length<=n - 1:=by
 unfold Builtin.Str.strSliceIndices sliceRange
 simp only[show (1:Int) > 0 by decide,if_true,QbB,Qbo,show ¬((1:Int) < 0) by decide,if_false]
 split
 ·rw[Int.ediv_one];omega
 ·exact Qcr _
theorem jY (z:Str):(Txt.slice z (some 1) none).length<=z.length - 1:=by
 have h:=Hc z.length
 unfold Txt.slice
 split
 ·rename_i hc
  rw[Qbw] at hc
  have:=eq_of_beq hc.2
  omega
 ·show (List.filterMap _ _).toArray.size<=_
  rw[Qbg]
  exact Qck (List.length_filterMap_le _ _) h
theorem BI {r:Int} (h0:0<=r) (h1:r < 26):∃c,atI abc.cps.toList r=some c/\okS ⟨#[c]⟩:=by
 have hl:r.toNat < abc.cps.toList.length:=by rw[RP];omega
 refine⟨abc.cps.toList[r.toNat],?_,λc hc=>?_⟩
 ·have:=Ec (xs:=abc.cps.toList) (j:=r.toNat) (Qan hl)
  rw[QaP h0] at this
  exact this
 ·have:c=abc.cps.toList[r.toNat]:=by simpa using hc
  rw[this]
  exact oE _ (List.getElem_mem hl)
theorem X6:∀{ys:YF},(∀y∈ys,y.length=1)->(ys.map (·.length)).sum=ys.length
 | [],_=>rfl
 | y::r,h=>by
  rw[QbZ,List.sum_cons,h y (QaR ..),X6 (ys:=r) λt ht=>h t (QaE _ ht),Qbr]
  omega
theorem WM (ys:YF):(ys.map V.str).all Kp=true:=by
 rw[List.all_map,List.all_eq_true]
 intro _ _
 rfl
theorem PX (z:Str):∀ys:YF,inV (.str z) (ys.map V.str)=true ↔ z∈ys
 | []=>by constructor <;> intro h <;> cases h
 | y::r=>by
  have ih:=PX z r
  unfold inV at ih ⊢
  rw[QbZ,Qcd,Bool.or_eq_true,ih,QbY]
  have:eqV (.str y) (.str z)=true ↔ z=y:=by
   show (y == z)=true ↔ z=y
   rw[beq_iff_eq]
   exact⟨λh=>h.symm,λh=>h.symm⟩
  rw[this]
theorem Wv:∀{l m:YF},l.Nodup->(∀x∈l,x∈m)->l.length<=m.length
 | [],_,_,_=>Qcr _
 | a::r,m,nd,h=>by
  have ha:=h a (QaR ..)
  obtain⟨n1,n2⟩:=QbJ.mp nd
  have:=Wv (l:=r) (m:=m.erase a) n2 λx hx=>(List.mem_erase_of_ne (λe=>n1 (by rw[<-e];exact hx))).mpr (h x (QaE _ hx))
  rw[List.length_erase_of_mem ha] at this
  have hp:=List.length_pos_of_mem ha
  rw[Qbr]
  omega
theorem bR (rest:Str) {ys:YF} (h:ys.length < 26):∃(i c:Nat),abc.cps[i]?=some c/\((⟨#[c]⟩ : Str)++rest)∉ys:=by
 refine Qai λhn=>?_
 have hall:∀x∈abc.cps.toList.map (λc=>(⟨#[c]⟩ : Str)++rest),x∈ys:=λx hx=>by
  obtain⟨c,hc,rfl⟩:=Qci.mp hx
  obtain⟨i,hi⟩:=QaG hc
  refine Qai λhm=>hn ⟨i,c,by simpa using hi,hm⟩
 have nd:(abc.cps.toList.map (λc=>(⟨#[c]⟩ : Str)++rest)).Nodup:=by
  refine List.pairwise_map.mpr (BH.imp λ{c d} hne e=>hne ?_)
  have e1:(#[c]++rest.cps:Array Nat)=#[d]++rest.cps:=congrArg Str.cps e
  have e2:=congrArg Array.toList e1
  rw[Array.toList_append,Array.toList_append] at e2
  injection e2
 have:=Wv nd hall
 rw[QbB,RP] at this
 omega
theorem Qcy {α : Type} {l:List α} {i:Nat} {x:α} (h:l[i]?=some x):l.take (i+1)=l.take i++[x]:=by rw[List.take_add_one,h];rfl
theorem jg {X:Cx} {K:YD} (h:X.K=K) (hc:X.calm=true):Dm X (.builtin "max") (λxs H Q=>∃(p:Addr) (ns:List Int),xs=[.ref p]/\SqL K H p (ns.map V.int)/\0 < ns.length/\∀M,M∈ns->(∀a,a∈ns->a<=M)->Q (.int M) H):=h ▸ WY hc
theorem Ai.Pb {a b:Addr} {H HH H':Hp} (s:Ai b H HH) (t:Ai a HH H') (f:H a=none):Ai b H H':=λc o e n=>t _ _ (s _ _ e n) λz=>by rw[z,f] at e;cases e
theorem MC {i:Int} (h0:0<=i) (h6:i < 6) {a b c d e f:Int} (P:Int->Prop) (ha:P a) (hb:P b) (hc:P c) (hd:P d) (he:P e) (hf:P f):∃p,atI [V.int a,.int b,.int c,.int d,.int e,.int f] i=some (.int p)/\P p:=by
 have:i=0\/i=1\/i=2\/i=3\/i=4\/i=5:=by omega
 rcases this with rfl | rfl | rfl | rfl | rfl | rfl
 ·exact⟨_,rfl,ha⟩
 ·exact⟨_,rfl,hb⟩
 ·exact⟨_,rfl,hc⟩
 ·exact⟨_,rfl,hd⟩
 ·exact⟨_,rfl,he⟩
 ·exact⟨_,rfl,hf⟩
def jR:Sp:=λvs H Q _=>∃(b:Addr) (n:Nat),vs=[.ref b]/\Bw H b n/\n<=9000/\∀z H',1<=z.length->z.length<=8->okS z->Bw H' b (n+9)->Ai b H H'->Q (.str z) H'
def cY:Sp:=λvs H Q _=>∃(b:Addr) (n many:Nat),vs=[.ref b,.int many]/\Bw H b n/\n<=8000/\many<=20 /\
 ∀l (ys:YF) H',H l=none->ys.length=many->(∀y∈ys,(1<=y.length/\y.length<=8)/\okS y)->ys.Nodup->H' l=some (.lst (ys.map V.str))->Bw H' b (n+9*many)->Ai b H H'->Q (.ref l) H'
section
variable {P:Program} {w:World} {K:YD} {mg:YB} {base:Heap}
theorem wV (C:Code K mg "_law_name" Pk M7) (T:Nm mg) (Bm:Good P w K mg base "_law_take" 1 Ew Kv):Good P w K mg base "_law_name" 2 M7 jR:=by
 refine C.good Wn (λvs H Q E h=>?_) (λf cdv A outer s H vs Q E hr h=>?_)
 ·obtain⟨b,n,rfl,_⟩:=h
  rfl
 obtain⟨b,n,rfl,hb,hn,q⟩:=h
 refine⟨_,(Af (Ba (i:=1) Wn.nd rfl (Or.inr rfl) Bf)
 (Ah (Bb (BW PySem.F.plainAttrs_str PySem.F.slot_str_join PySem.F.type_str_join xP Bf (Aa (Cv (N':=["_law_place","_law_letters","_law_bag_here"]) rfl (Bp.of (src:=[none,some 1,some 0]) (Aj Pk) ["_law_bag_here","_law_letters"] rfl rfl rfl (by trivial) (by trivial) (by trivial) rfl (by trivial)) (CN rfl T.range (Aa (Bg Ca Ae (Ay Bm hr (Aa (pv 0) (Aa Ae Ab)))) Ab)) (λ_ _ _ _=>(Ak (i:=0) (show List.Nodup (["_law_place","_law_letters","_law_bag_here"]:YF) by trivial) rfl (Or.inl rfl))) (λ_ _ _ _=>CW) (λ_ _ _ _=>(Bo AM (pv 1) (Ay Bm hr (Aa (pv 2) (Aa Ae Ab))) (λ_ _=>rfl)))) Ab))))),?_⟩
 show let R0:TS:=_;Am _ R0 _ _ _
 intro R0
 refine⟨rfl,_,rfl,b,n,8,rfl,hb,by omega,by decide,by decide,λr H1 r0 r1 hb1 sb1=>⟨_,_,rfl,rfl,_,rfl,by omega,by omega,λl hl=>?_⟩⟩
 have nbl:b≠l:=hb1.nb hl
 have fl:H l=none:=sb1.free hb1.ex hl
 let J0:YN:=λi σ HH=>∃(u:Option V) (ys:YF),σ=[u,some (.str abc),some (.ref b)]/\HH l=some (.lst (ys.map V.str))/\ys.length=i/\(∀y∈ys,y.length=1/\okS y)/\Bw HH b (n+1+i)/\Ai b H HH
 refine JD J0
  ⟨none,[],rfl,Ac,rfl,(λy hy=>by cases hy),hb1.same (Ag hl _),sb1.trans (Ai.of (Ag hl _))⟩ (λi σ HH hi h=>?_) (fun σ HH h=>?_)
 ·obtain⟨u,ys,rfl,e1,e2,e3,e4,e5⟩:=h
  refine⟨_,rfl,_,rfl,b,_,26,rfl,e4,by omega,by decide,by decide,λr' HA r0' r1' hbA sA=>?_⟩
  obtain⟨c,ec,oc⟩:=BI r0' r1'
  have eA:=sA _ _ e1 nbl.symm
  refine⟨_,_,c,rfl,rfl,Aw (by show abc.cps.size<=1000;rw[<-QaK,RP];decide),ec,_,eA,Ao (by rw[QbB];omega),_,ys++[⟨#[c]⟩],rfl,?_,?_,λy hy=>?_,hbA.DY Ai.upd nbl,?_⟩
  ·rw[Ac,QbC];rfl
  ·rw[QaQ,e2];rfl
  ·rcases QbD.mp hy with h | h
   ·exact e3 y h
   ·have:y=⟨#[c]⟩:=by simpa using h
    rw[this]
    exact⟨rfl,oc⟩
  ·exact λc o e ne=>Ai.upd _ _ (sA _ _ (e5 _ _ e ne) ne) λz=>by rw[z,fl] at e;cases e
 obtain⟨u,ys,rfl,e1,e2,e3,e4,e5⟩:=h
 have hs:=X6 λy hy=>(e3 y hy).1
 refine⟨_,l,ys,rfl,rfl,SqL.of e1,?_,?_⟩
 ·rw[hs]
  have:(Str.ofString "").length=0:=by trivial
  rw[this]
  omega
 ·have hj:=ZG ys
  rw[hs] at hj
  refine q _ HH ?_ ?_ ?_ (e4.mono (by omega)) e5
  ·show 1<=(Builtin.Str.glued _ ys).length
   rw[StrLaws.glued_eq_join]
   show 1<=(Str.join "" ys).length
   omega
  ·show (Builtin.Str.glued _ ys).length<=8
   rw[StrLaws.glued_eq_join]
   show (Str.join "" ys).length<=8
   omega
  ·show okS (Builtin.Str.glued _ ys)
   rw[StrLaws.glued_eq_join]
   exact okS.join (λc hc=>by cases hc) λy hy=>(e3 y hy).2
theorem qC (C:Code K mg "_law_names" Nx KH) (T:Nm mg) (ur:Good P w K mg base "_law_name" 2 M7 jR):Good P w K mg base "_law_names" 3 KH cY:=by
 refine C.good Jp (λvs H Q E h=>?_) (λf cdv A outer s H vs Q E hr h=>?_)
 ·obtain⟨b,n,many,rfl,_⟩:=h
  rfl
 obtain⟨b,n,many,rfl,hb,hn,hm,q⟩:=h
 refine⟨_,(Af (Ba (i:=2) Jp.nd rfl (Or.inr rfl) (BP Ab))
 (Af (Cg QbE rfl (CN rfl T.range (Aa (pv 1) Ab)) (Ak (i:=3) Jp.nd rfl (Or.inl rfl))
 (Af (Ba (i:=4) Jp.nd rfl (Or.inr rfl) (Ay ur hr (Aa (pv 0) Ab)))
 (Af (Ce (Bx QZ (pv 4) (pv 2) (by with_unfolding_all rfl)) (Ah (Ba (i:=4) Jp.nd rfl (Or.inr rfl) (Bo CV (Cv (N':=["_law_one","_law_name_here","_law_found"]) rfl (Bp.of (src:=[none,some 4,some 2]) (Aj Nx) ["_law_bag_here","_law_many","_law_found","_law_place","_law_name_here"] rfl rfl rfl (by trivial) (by trivial) (by trivial) rfl (by trivial)) (kJ Bf) (λ_ _ _ _=>(Ak (i:=0) (show List.Nodup (["_law_one","_law_name_here","_law_found"]:YF) by trivial) rfl (Or.inl rfl))) (λ_ _ _ _=>(Kz (Bx (Qq (K:=K) rfl) (Bg Uw (pv 0) (JR jZ (pv 1) (LR Ae) Ma)) (pv 2) (by with_unfolding_all rfl)))) (λ_ _ _ _=>(Bg Uw (pv 0) (JR jZ (pv 1) (LR Ae) Ma)))) Ae (λ_ _=>rfl)))) BJ)
 (Ah (Bj (BW Qaq Qal Qam Bu (pv 2) (Aa (pv 4) Ab)))))))
 (Ah (Bb (pv 2))))),?_⟩
 show let R0:TS:=_;let R1:TS:=_;let R2:TS:=Am (Gp _ R1 _) R0;let R3:TS:=Am _ R2;let R4:TS:=Am (Dg _ _ R3) _;Am _ R4 _ _ _
 intro R0 R1 R2 R3 R4
 refine⟨Aw (by show 0<=1000;decide),λlf hlf=>?_⟩
 have s1:=Ag hlf (.lst [])
 have nbf:b≠lf:=hb.nb hlf
 refine⟨_,rfl,_,rfl,by omega,by omega,?_⟩
 rw[Qbk]
 let J1:YN:=λi σ HH=>∃(u3 u4:Option V) (ys:YF),σ=[some (.ref b),some (.int many),some (.ref lf),u3,u4]/\HH lf=some (.lst (ys.map V.str))/\ys.length=i/\(∀y∈ys,(1<=y.length/\y.length<=8)/\okS y)/\Bw HH b (n+9*i)/\Ai b H HH/\ys.Nodup
 refine DX J1
  ⟨_,_,[],rfl,Ac,rfl,(λy hy=>by cases hy),hb.same s1,Ai.of s1,QbV⟩ (λi σ HH hi h=>?_) (fun σ HH h=>?_)
 ·obtain⟨u3,u4,ys,rfl,e1,e2,e3,e4,e5,e6⟩:=h
  refine⟨_,rfl,b,_,rfl,e4,by omega,λz HA hz1 hz oz hbA sA=>?_⟩
  have eA:=sA _ _ e1 nbf.symm
  have s5:Ai b H HA:=e5.trans sA
  have fin:∀(y:Str) (HB:Hp),(1<=y.length/\y.length<=8)->okS y->y∉ys->HB lf=some (.lst (ys.map V.str))->Bw HB b (n+9*i+9)->Ai b H HB->∃(u3 u4:Option V) (ys':YF),[some (V.ref b),some (.int many),some (.ref lf),some (.int (0+(i:Int))),some (.str y)]=[some (.ref b),some (.int many),some (.ref lf),u3,u4] /\
    upd HB lf (.lst (ys.map V.str++[.str y])) lf=some (.lst (ys'.map V.str))/\ys'.length=i+1/\(∀y∈ys',(1<=y.length/\y.length<=8)/\okS y)/\Bw (upd HB lf (.lst (ys.map V.str++[.str y]))) b (n+9*(i+1))/\Ai b H (upd HB lf (.lst (ys.map V.str++[.str y])))/\ys'.Nodup:=λy HB hy oy hny hB bB sB=>by
   refine⟨_,_,ys++[y],rfl,?_,?_,λx hx=>?_,(bB.DY Ai.upd nbf).mono (by omega),Ai.Pb sB Ai.upd hlf,dM e6 hny⟩
   ·rw[Ac,QbC];rfl
   ·rw[QaQ,e2];rfl
   ·rcases QbD.mp hx with h | h
    ·exact e3 x h
    ·have:x=y:=by simpa using h
     rw[this]
     exact⟨hy,oy⟩
  refine⟨_,rfl,_,rfl,lf,_,rfl,.inl (SqL.of eA),rfl,WM ys,_,rfl,JB (λ_=>?_) (λhnz=>?_)⟩
  ·refine⟨_,rfl,λl2 hl2=>?_⟩
   have nfl:lf≠l2:=Ax eA hl2
   have hsl:(Txt.slice z (some 1) none).length<=7:=Qck (jY z) (by omega)
   have osl:=oz.slice (some 1) none
   let J2:YN:=λi σ HH=>∃(u:Option V) (ws:YF),σ=[u,some (.str z),some (.ref lf)]/\HH=upd HA l2 (.lst (ws.map V.str))/\ws.length<=i/\(∀y∈ws,((1<=y.length/\y.length<=8)/\okS y)/\y∉ys)/\((∃j c,j < i/\abc.cps[j]?=some c/\((⟨#[c]⟩ : Str)++Txt.slice z (some 1) none)∉ys)->ws≠[])
   refine Z9 J2
    ⟨none,[],rfl,rfl,Qcq _,(λy hy=>by cases hy),λ⟨j,c,hj,_⟩=>absurd hj (QbO _)⟩ (λj c σ HH hc h=>?_) (fun σ HH h=>?_)
   ·obtain⟨u,ws,rfl,rfl,l1,l2',l3⟩:=h
    have hj:j < 26:=by
     have:=(Qaf.mp hc).1
     rw[<-QaK] at this
     have e:=RP
     unfold abc at e
     omega
    have oc:okS ⟨#[c]⟩:=λd hd=>by
     have:d=c:=by simpa using hd
     rw[this]
     exact oE c (Array.mem_toList_iff.mpr (Array.mem_of_getElem? hc))
    have hlen:(⟨#[c]⟩ : Str).length+(Txt.slice z (some 1) none).length<=sizeLine:=by
     show 1+_<=sizeLine
     rw[Qcu]
     omega
    have hzl:z.length<=sizeLine:=by rw[Qcu];omega
    have eB:upd HA l2 (.lst (ws.map V.str)) lf=some (.lst (ys.map V.str)):=by rw[Al nfl];exact eA
    refine⟨_,rfl,_,rfl,_,rfl,_,rfl,hzl,_,_,rfl,rfl,hlen,_,rfl,lf,_,rfl,.inl (SqL.of eB),rfl,WM ys,_,rfl,JB (λt=>?_) (λt=>?_)⟩
    ·refine⟨_,rfl,_,rfl,_,rfl,_,rfl,hzl,_,_,rfl,rfl,hlen,_,Ac,Ao (by rw[QbB];omega),_,ws++[(⟨#[c]⟩ : Str)++Txt.slice z (some 1) none],rfl,?_,?_,λy hy=>?_,λ_ e=>?_⟩
     ·rw[Rj,QbC];rfl
     ·rw[QaQ];show _+1<=_;omega
     ·rcases QbD.mp hy with h | h
      ·exact l2' y h
      ·have e:y=(⟨#[c]⟩ : Str)++Txt.slice z (some 1) none:=by simpa using h
       rw[e]
       refine⟨⟨⟨by rw[Str.length_append];show 1<=1+_;omega,by rw[Str.length_append];show 1+_<=8;omega⟩,oc.append osl⟩,λhin=>?_⟩
       have t:(!inV (.str ((⟨#[c]⟩ : Str)++Txt.slice z (some 1) none)) (ys.map V.str))=true:=t
       rw[(PX _ ys).mpr hin] at t
       cases t
     ·have:=congrArg List.length e
      rw[QaQ] at this
      simp at this
    ·refine⟨_,ws,rfl,rfl,by omega,l2',λ⟨j',c',hj',hc',hn'⟩=>?_⟩
     by_cases ej:j'=j
     ·subst ej
      have ec:c'=c:=by
       have e1:abc.cps[j']?=some c:=hc
       rw[hc'] at e1
       exact QbH e1
      subst ec
      exfalso
      apply t
      show (!inV (.str ((⟨#[c']⟩ : Str)++Txt.slice z (some 1) none)) (ys.map V.str))=true
      cases e:inV (.str ((⟨#[c']⟩ : Str)++Txt.slice z (some 1) none)) (ys.map V.str) with
      | false=>rfl
      | true=>exact absurd ((PX _ ys).mp e) hn'
     ·exact l3 ⟨j',c',by omega,hc',hn'⟩
   ·obtain⟨u,ws,rfl,rfl,l1,l2',l3⟩:=h
    obtain⟨j,c,hc,hnot⟩:=bR (Txt.slice z (some 1) none) (ys:=ys) (by omega)
    have hws:=l3 ⟨j,c,(Qaf.mp hc).1,hc,hnot⟩
    cases ws with
    | nil=>exact absurd rfl hws
    | cons w0 wr=>
     obtain⟨⟨y1,y2⟩,y3⟩:=l2' w0 (QaR ..)
     have s2:=Ag hl2 (.lst ((w0::wr).map V.str))
     have eB:=s2 _ _ eA
     refine⟨l2,_,_,_,rfl,rfl,SqL.of Ac,Ec (xs:=(w0::wr).map V.str) (j:=0) rfl,?_⟩
     refine⟨_,rfl,.inl ⟨rfl,_,SqL.of eB⟩,_,rfl,lf,_,_,rfl,rfl,eB,Ao (by rw[QbB];omega),?_⟩
     exact fin w0 _ y1 y2 y3 eB (hbA.same s2) (s5.trans (Ai.of s2))
  ·refine⟨_,rfl,.inl ⟨rfl,_,SqL.of eA⟩,_,rfl,lf,_,_,rfl,rfl,eA,Ao (by rw[QbB];omega),?_⟩
   exact fin z HA ⟨hz1,hz⟩ oz (λhin=>hnz ((PX _ ys).mpr hin)) eA hbA s5
 ·obtain⟨u3,u4,ys,rfl,e1,e2,e3,e4,e5,e6⟩:=h
  exact⟨_,rfl,q lf ys HH hlf e2 e3 e6 e1 e4 e5⟩
end
structure Dev where
 kind:Str
 addr:Int
structure Place where
 kind:Str
 addr:Int
 spur:List Dev
def JF (H:Hp) (v:V) (d:Dev):Prop:=∃t,v=.ref t/\H t=some (.tup [.str d.kind,.int d.addr])
def Dr (H:Hp) (v:V) (p:Place):Prop:=∃t u vs,v=.ref t/\H t=some (.tup [.str p.kind,.int p.addr,.ref u])/\H u=some (.tup vs)/\Paired (JF H) vs p.spur
def LoopAt (H:Hp) (v:V) (ps:List Place):Prop:=∃t vs,v=.ref t/\H t=some (.tup vs)/\Paired (Dr H) vs ps
theorem JF.tups {H H':Hp} (s:Ar H H') {v:V} {d:Dev} (h:JF H v d):JF H' v d:=by
 obtain⟨t,e,q⟩:=h
 exact⟨t,e,s _ _ q⟩
theorem Dr.tups {H H':Hp} (s:Ar H H') {v:V} {d:Place} (h:Dr H v d):Dr H' v d:=by
 obtain⟨t,u,vs,e,q1,q2,q3⟩:=h
 exact⟨t,u,vs,e,s _ _ q1,s _ _ q2,Paired.Bc q3 λ_ _ z=>z.tups s⟩
theorem LoopAt.tups {H H':Hp} (s:Ar H H') {v:V} {d:List Place} (h:LoopAt H v d):LoopAt H' v d:=by
 obtain⟨t,vs,e,q1,q2⟩:=h
 exact⟨t,vs,e,s _ _ q1,Paired.Bc q2 λ_ _ z=>z.tups s⟩
theorem Paired.Cq {α β : Type} {F:α->β->Prop}:∀{l₁ : List α} {l₂ : List β} {i:Nat} {x:α},Paired F l₁ l₂->l₁[i]?=some x->∃y,l₂[i]?=some y/\F x y
 | _,_,_,_,.nil,h=>by simp at h
 | _,_,0,_,.cons a _,h=>by simp at h;subst h;exact⟨_,rfl,a⟩
 | _,_,i+1,x,.cons _ t,h=>by
  obtain⟨y,h1,h2⟩:=Paired.Cq (i:=i) (x:=x) t (by simpa using h)
  exact⟨y,by simpa using h1,h2⟩
theorem Qcs {α β : Type} {F:α->β->Prop} {a:α} {b:β} (h:F a b):∀{l₁ : List α} {l₂ : List β},Paired F l₁ l₂->Paired F (l₁++[a]) (l₂++[b])
 | _,_,.nil=>.cons h .nil
 | _,_,.cons x t=>.cons x (Qcs h t)
def Gy (k:Str):Prop:=k="seeker"\/k="knob"\/k="bell"\/k="door"
structure OkP (p:Place):Prop where
 spur:p.spur.length<=3
 kinds:∀d∈p.spur,Gy d.kind
 form:(p.kind="opener"/\p.addr=0/\p.spur=[])\/Gy p.kind
structure Zone where
 name:Str
 adr:List Int
def Il (H:Hp) (v:V) (z:Zone):Prop:=∃t u,v=.ref t/\H t=some (.tup [.str z.name,.ref u])/\H u=some (.tup (z.adr.map V.int))
theorem Il.tups {H H':Hp} (s:Ar H H') {v:V} {z:Zone} (h:Il H v z):Il H' v z:=by
 obtain⟨t,u,e,q1,q2⟩:=h
 exact⟨t,u,e,s _ _ q1,s _ _ q2⟩
def Ed (k:Str):Bool:=inV (.str k) [.str "seeker",.str "knob"]
def Fj (p:Place):List Dev:=⟨p.kind,p.addr⟩::p.spur
def Hs (ds:List Dev):List Int:=(ds.filter λd=>Ed d.kind).map (·.addr)
def Ir (ps:List Place):List Int:=ps.flatMap λp=>Hs (Fj p)
abbrev YU:=List (List Place)
def Ek (ls:YU):List Int:=ls.flatMap Ir
theorem jD (ds:List Dev) (d:Dev):Hs (ds++[d])=Hs ds++(if Ed d.kind=true then [d.addr] else []):=by
 unfold Hs
 rw[List.filter_append,QbC]
 congr 1
 by_cases h:Ed d.kind=true
 ·rw[if_pos h];simp[List.filter,h]
 ·rw[if_neg h];simp[List.filter,h]
theorem jC (ps:List Place) (p:Place):Ir (ps++[p])=Ir ps++Hs (Fj p):=by unfold Ir;rw[QaL];simp
theorem fu (ls:YU) (ps:List Place):Ek (ls++[ps])=Ek ls++Ir ps:=by unfold Ek;rw[QaL];simp
def ptS (a:List Int×Int) (p:Place):List Int×Int:=if V.str p.kind=V.str "opener" then (a.1++[a.2],0) else (a.1,a.2+1+(p.spur.length:Int))
def pst (ps:List Place):List Int×Int:=ps.foldl ptS ([],0)
def G4 (ps:List Place):List Int:=(pst ps).1++[(pst ps).2]
theorem Y0 (ps:List Place) (p:Place):pst (ps++[p])=ptS (pst ps) p:=by unfold pst;rw[List.foldl_append];rfl
abbrev S8:Stmt:=top 61
abbrev M8:YF:=["_law_bag_here","_law_numbers","_law_most_places"]
theorem Jf:Az ["_law_bag_here","_law_numbers","_law_most_places","_law_places","_law_at","_law_many","_law_some","_law_way"] M8 (Aj S8):=⟨rfl,rfl,rfl,by trivial,rfl,by trivial,by trivial⟩
abbrev QC:Stmt:=top 62
abbrev KD:YF:=["_law_places"]
theorem Jo:Az ["_law_places","_law_found","_law_kind_here","_law_address","_law_spur"] KD (Aj QC):=⟨rfl,rfl,rfl,by trivial,rfl,by trivial,by trivial⟩
def Dh (a b:Addr) (H H':Hp):Prop:=∀c o,H c=some o->c≠a->c≠b->H' c=some o
theorem Dh.trans {a b:Addr} {H H1 H2:Hp} (x:Dh a b H H1) (y:Dh a b H1 H2):Dh a b H H2:=λc o e n m=>y _ _ (x _ _ e n m) n m
theorem Dh.l {a b:Addr} {H H1:Hp} (x:Ai a H H1):Dh a b H H1:=λc o e n _=>x _ _ e n
theorem Dh.r {a b:Addr} {H H1:Hp} (x:Ai b H H1):Dh a b H H1:=λc o e _ m=>x _ _ e m
theorem Dh.of {a b:Addr} {H H1:Hp} (x:Same H H1):Dh a b H H1:=λc o e _ _=>x _ _ e
theorem Dh.Pb {a b p:Addr} {H HH H':Hp} (s:Dh a b H HH) (t:Ai p HH H') (f:H p=none):Dh a b H H':=λc o e n m=>t _ _ (s _ _ e n m) λz=>by rw[z,f] at e;cases e
def adP (p:Place):List Int:=if V.str p.kind=V.str "opener" then [] else p.addr::p.spur.map (·.addr)
def adL (ps:List Place):List Int:=ps.flatMap adP
theorem T8 (ps:List Place) (p:Place):adL (ps++[p])=adL ps++adP p:=by unfold adL;rw[QaL];simp
def opP:Place:=⟨"opener",0,[]⟩
theorem Cs:OkP opP:=⟨by show 0<=3;decide,(λd hd=>by cases hd),.inl ⟨rfl,rfl,rfl⟩⟩
theorem BG:adP opP=[]:=if_pos rfl
theorem UW {k:Str} (h:Gy k):¬V.str k=V.str "opener":=by
 rcases h with rfl | rfl | rfl | rfl <;> decide +kernel
theorem yC {i:Int} (h0:0<=i) (h4:i < 4):∃k,atI [V.str "seeker",.str "knob",.str "bell",.str "door"] i=some (.str k)/\Gy k:=by
 have:i=0\/i=1\/i=2\/i=3:=by omega
 rcases this with rfl | rfl | rfl | rfl
 ·exact⟨_,rfl,.inl rfl⟩
 ·exact⟨_,rfl,.inr (.inl rfl)⟩
 ·exact⟨_,rfl,.inr (.inr (.inl rfl))⟩
 ·exact⟨_,rfl,.inr (.inr (.inr rfl))⟩
theorem T3 {xs:YG} {k:Nat} (h:k<=xs.length):Jb xs (some (k:Int)) none=xs.drop k:=by
 unfold Jb
 rw[HT.Yw,HT.dB,Nat.min_eq_left h]
 exact List.take_of_length_le (by rw[Qbx];omega)
theorem j4 {n:Nat} (h:0 < n):seqIndex? 0 n=some 0:=by
 unfold seqIndex?
 simp only[if_neg (show ¬(0:Int) < 0 by decide)]
 rw[if_pos (by simp;omega)]
 rfl
def jT:Sp:=λvs H Q _=>∃(b nb:Addr) (n mp:Nat) (ns:List Int),vs=[.ref b,.ref nb,.int mp]/\Bw H b n/\n<=5000/\b≠nb/\H nb=some (.lst (ns.map V.int))/\1<=mp/\mp<=12/\ns.length<=100 /\
 ∀t ps ns' H',LoopAt H' (.ref t) ps->(∀p∈ps,OkP p)->1<=ps.length->ps.length<=mp->ns=adL ps++ns'->H' nb=some (.lst (ns'.map V.int))->Bw H' b (n+100)->Dh b nb H H'->Q (.ref t) H'
def Yg:Sp:=λvs H Q _=>∃(t:Addr) (ps:List Place),vs=[.ref t]/\LoopAt H (.ref t) ps/\(∀p∈ps,OkP p)/\ps.length<=100/\∀l H',H' l=some (.lst ((G4 ps).map V.int))->Same H H'->Q (.ref l) H'
def vW (b nb lp:Addr) (mp:Int) (H:Hp) (n:Nat) (ns:List Int) (i:Nat) (σ : St) (HH:Hp):Prop:=
 ∃u4 u5 u6 u7 vs ps ns',σ=[some (.ref b),some (.ref nb),some (.int mp),some (.ref lp),u4,u5,u6,u7]/\HH lp=some (.lst vs)/\Paired (Dr HH) vs ps/\ps.length=i/\(∀p∈ps,OkP p)/\ns=adL ps++ns'/\HH nb=some (.lst (ns'.map V.int))/\Bw HH b (n+1+7*i)/\Dh b nb H HH
section
variable {P:Program} {w:World} {K:YD} {mg:YB} {base:Heap}
theorem wX (C:Code K mg "_law_loop" S8 M8) (T:Nm mg) (Bm:Good P w K mg base "_law_take" 1 Ew Kv):Good P w K mg base "_law_loop" 2 M8 jT:=by
 refine C.good Jf (λvs H Q E h=>?_) (λf cdv A outer s H vs Q E hr h=>?_)
 ·obtain⟨b,nb,n,mp,ns,rfl,_⟩:=h
  rfl
 obtain⟨b,nb,n,mp,ns,rfl,hb,hn,nbn,hnb,Op,hmp,hns,q⟩:=h
 refine⟨_,(Af (Ba (i:=3) Jf.nd rfl (Or.inl rfl) (BP Ab))
 (Af (Cg QbE rfl (CN rfl T.range (Aa (Bg Ca Ae (Ay Bm hr (Aa (pv 0) (Aa (pv 2) Ab)))) Ab)) (Ak (i:=4) Jf.nd rfl (Or.inl rfl))
 (Af (Ba (i:=5) Jf.nd rfl (Or.inl rfl) (Bg Ca Ae (Bo CV (@BP _ _ _ _ (@Aa _ _ _ _ _ (@Ae _ _ _ _) (@Aa _ _ _ _ _ (@Ae _ _ _ _) (@Aa _ _ _ _ _ (@Ae _ _ _ _) (@Aa _ _ _ _ _ (@Ae _ _ _ _) (@Aa _ _ _ _ _ (@Ae _ _ _ _) (@Aa _ _ _ _ _ (@Ae _ _ _ _) (@Ab _) Bh) Bh) Bh) Bh) Bh) Bh)) (Ay Bm hr (Aa (pv 0) (Aa Ae Ab))) (λ_ _=>rfl))))
 (Ah (Ce (PW.pt (NK (Bx Fi (Ay Bm hr (Aa (pv 0) (Aa Ae Ab))) Ae (Bs _)) (Mw (Bx Uu (Av Bl rfl T.len Cu (Aa (pv 1) Ab)) (pv 5) (Bs _))))) (Ah (Bj (BW Qaq Qal Qam Bu (pv 3) (Aa (Bd (Aa Bf (Aa Ae (Aa (Bd Ab) Ab)))) Ab)))) (Af (Ba (i:=6) Jf.nd rfl (Or.inl rfl) (BP Ab))
 (Af (Cg QbE rfl (CN rfl T.range (Aa (pv 5) Ab)) (Ak (i:=7) Jf.nd rfl (Or.inl rfl))
 (Ah (Bj (BW Qaq Qal Qam Bu (pv 6) (Aa (Bd (Aa (Bo CV (BP (Aa Bf (Aa Bf (Aa Bf (Aa Bf Ab))))) (Ay Bm hr (Aa (pv 0) (Aa Ae Ab))) (λ_ _=>rfl)) (Aa (BW Qaq PySem.F.slot_list_pop PySem.F.type_list_pop Zv (pv 1) (Aa Ae Ab)) Ab))) Ab)))))
 (Ah (Bj (BW Qaq Qal Qam Bu (pv 3) (Aa (Bg Pz (Bo CV (pv 6) Ae (λ_ _=>rfl)) (Bd (Aa (Gm GC rfl T.tuple Ka (Aa (JR wB (pv 6) (LR Ae) Ma) Ab)) Ab))) Ab))))))))))
 (Ah (Bb (Gm GC rfl T.tuple Ka (Aa (pv 3) Ab)))))),?_⟩
 show let R0:TS:=_;let R1:TS:=_;let R2:TS:=_;let R3:TS:=_;let R4:TS:=Am (Dg _ _ R3) R2;let R5:TS:=Am _ R4;let R6:TS:=Gp _ R1 R5;let R7:TS:=Am _ R6;let R8:TS:=Am (Dg _ _ R7) R0;Am _ R8 _ _ _
 intro R0 R1 R2 R3 R4 R5 R6 R7 R8
 refine⟨Aw (by show 0<=1000;decide),λlp hlp=>?_⟩
 have s0:=Ag hlp (.lst [])
 have nlb:b≠lp:=hb.nb hlp
 have nln:nb≠lp:=Ax hnb hlp
 refine⟨_,rfl,_,rfl,b,n,_,rfl,hb.same s0,by omega,by omega,by omega,λr H1 r0 r1 hb1 sb1=>⟨_,_,rfl,rfl,_,rfl,by omega,by omega,?_⟩⟩
 obtain⟨rn,hrn⟩ : ∃rn:Nat,r=rn:=⟨r.toNat,by omega⟩
 subst hrn
 rw[show ((1:Int)+(rn:Int)).toNat=rn+1 by omega]
 have NU:∀{H2 H3:Hp},H2 lp=some (.lst [])->True:=λ_=>True.intro
 refine DX (vW b nb lp mp H n ns) ⟨_,_,_,_,[],[],ns,rfl,sb1 _ _ Ac nlb.symm,.nil,rfl,(λp hp=>by cases hp),rfl,sb1 _ _ (s0 _ _ hnb) nbn.symm,hb1,(Dh.of s0).trans (Dh.l sb1)⟩ (λi σ HH hi h=>?_) (fun σ HH h=>?_)
 ·obtain⟨u4,u5,u6,u7,vs,ps,ns',rfl,e1,e2,e3,e4,e5,e6,e7,e8⟩:=h
  have IG:i < 12:=by omega
  have hlv:=QbX e2
  refine⟨Aw (by show 6<=1000;decide),λl6 hl6=>?_⟩
  have s6:=Ag hl6 (.lst [.int 0,.int 0,.int 0,.int 1,.int 2,.int 3])
  refine⟨_,rfl,b,_,6,rfl,e7.same s6,by omega,by decide,by decide,λr2 HA r20 r21 hbA sA=>?_⟩
  obtain⟨m,em,m0,m3⟩:=MC r20 r21 (a:=0) (b:=0) (c:=0) (d:=1) (e:=2) (f:=3) (λp=>0<=p/\p<=3) (by decide) (by decide) (by decide) (by decide) (by decide) (by decide)
  obtain⟨mn,hmn⟩ : ∃mn:Nat,m=mn:=⟨m.toNat,by omega⟩
  subst hmn
  refine⟨l6,_,_,_,rfl,rfl,SqL.of (sA _ _ Ac (e7.nb hl6).symm),em,_,_,rfl,rfl,?_⟩
  refine⟨_,rfl,b,_,4,rfl,hbA,by omega,by decide,by decide,λr3 HB r30 r31 hbB sB=>⟨rfl,_,rfl,?_⟩⟩
  have sHB:Ai b HH HB:=((Ai.of s6).trans sA).trans sB
  have tHB:Ar HH HB:=sHB.tup e7.Gf
  have f1:=sHB _ _ e1 nlb.symm
  have f2:Paired (Dr HB) vs ps:=Paired.Bc e2 λ_ _ z=>z.tups tHB
  have f6:=sHB _ _ e6 nbn.symm
  have f8:Dh b nb H HB:=e8.trans (Dh.l sHB)
  have opn:∀eo,HB eo=none->∀t,upd HB eo (.tup []) t=none->vW b nb lp mp H n ns (i+1) [some (.ref b),some (.ref nb),some (.int mp),some (.ref lp),some (.int (0+(i:Int))),some (.int (1+(mn:Int))),u6,u7] (upd (upd (upd HB eo (.tup [])) t (.tup [.str "opener",.int 0,.ref eo])) lp (.lst (vs++[.ref t]))):=λeo heo t ht=>by
   have t1:=Ag heo (.tup [])
   have t2:=Ag ht (.tup [.str "opener",.int 0,.ref eo])
   have f1':=t2 _ _ (t1 _ _ f1)
   have nt:∀zs,(upd (upd HB eo (.tup [])) t (.tup [.str "opener",.int 0,.ref eo])) lp≠some (.tup zs):=λzs z=>by rw[f1'] at z;cases z
   have tu:=Ar.upd (o:=.lst (vs++[.ref t])) nt
   refine⟨_,_,_,_,vs++[.ref t],ps++[opP],ns',rfl,Ac,?_,by rw[QaQ,e3];rfl,λp hp=>?_,?_,?_,?_,?_⟩
   ·refine Qcs ⟨t,eo,[],rfl,tu _ _ Ac,tu _ _ (t2 _ _ Ac),.nil⟩ (Paired.Bc f2 λ_ _ z=>(z.tups (Ar.of (t1.trans t2))).tups tu)
   ·rcases QbD.mp hp with z | z
    ·exact e4 p z
    ·have:p=opP:=by simpa using z
     rw[this];exact Cs
   ·rw[T8,BG,QbF];exact e5
   ·rw[Al nln];exact t2 _ _ (t1 _ _ f6)
   ·exact (((hbB.same t1).same t2).DY Ai.upd nlb).mono (by omega)
   ·exact (f8.trans (Dh.of (t1.trans t2))).Pb Ai.upd hlp
  refine JB (λ_=>?_) (λ_=>?_)
  ·refine⟨_,rfl,.inl ⟨rfl,_,SqL.of f1⟩,Aw (by show 0<=1000;decide),λeo heo=>⟨Aw (by show 3<=1000;decide),λt ht=>⟨lp,_,_,rfl,rfl,Ag ht _ _ _ (Ag heo _ _ _ f1),Ao (by omega),opn eo heo t ht⟩⟩⟩
  ·refine⟨_,rfl,nb,_,rfl,.inl (SqL.of f6),_,rfl,_,_,rfl,rfl,_,rfl,JB (λ_=>?_) (λcc=>?_)⟩
   ·refine⟨_,rfl,.inl ⟨rfl,_,SqL.of f1⟩,Aw (by show 0<=1000;decide),λeo heo=>⟨Aw (by show 3<=1000;decide),λt ht=>⟨lp,_,_,rfl,rfl,Ag ht _ _ _ (Ag heo _ _ _ f1),Ao (by omega),opn eo heo t ht⟩⟩⟩
   ·have cc:¬(((ns'.map V.int).length:Nat):Int) < 1+(mn:Int):=λz=>cc (QbS z)
    rw[QbB] at cc
    refine⟨Aw (by show 0<=1000;decide),λls hls=>?_⟩
    have sl:=Ag hls (.lst [])
    have EF:lp≠ls:=Ax f1 hls
    have Au:nb≠ls:=Ax f6 hls
    have AA:b≠ls:=hbB.nb hls
    refine⟨_,rfl,_,rfl,by omega,by omega,?_⟩
    rw[show ((1:Int)+(mn:Int)).toNat=mn+1 by omega]
    have Oy:H ls=none->True:=λ_=>True.intro
    let J0:YN:=λj σ HC=>∃u7 xs ds ns2,σ=[some (.ref b),some (.ref nb),some (.int mp),some (.ref lp),some (.int (0+(i:Int))),some (.int (1+(mn:Int))),some (.ref ls),u7]/\HC ls=some (.lst xs)/\Paired (JF HC) xs ds/\ds.length=j/\(∀d∈ds,Gy d.kind)/\ns'=ds.map (·.addr)++ns2/\HC nb=some (.lst (ns2.map V.int))/\Bw HC b (n+1+7*i+1+1+j)/\HC lp=some (.lst vs)/\Paired (Dr HC) vs ps/\(∀c o,HB c=some o->c≠b->c≠nb->HC c=some o)
    refine DX J0
     ⟨_,[],[],ns',rfl,Ac,.nil,rfl,(λd hd=>by cases hd),rfl,sl _ _ f6,hbB.same sl,sl _ _ f1,Paired.Bc f2 λ_ _ z=>z.tups (Ar.of sl),λc o e _ _=>sl _ _ e⟩ (λj σ HC hj h=>?_) (fun σ HC h=>?_)
    ·obtain⟨u7,xs,ds,ns2,rfl,g1,g2,g3,g4,g5,g6,g7,g8,g9,g10⟩:=h
     refine⟨_,rfl,.inl ⟨rfl,_,SqL.of g1⟩,Aw (by show 4<=1000;decide),λl4 hl4=>?_⟩
     have s4:=Ag hl4 (.lst [.str "seeker",.str "knob",.str "bell",.str "door"])
     refine⟨_,rfl,b,_,4,rfl,g7.same s4,by omega,by decide,by decide,λr4 HD r40 r41 hbD sD=>?_⟩
     obtain⟨k,ek,hk⟩:=yC r40 r41
     have sCD:Ai b HC HD:=(Ai.of s4).trans sD
     have tCD:Ar HC HD:=sCD.tup g7.Gf
     have g6':=sCD _ _ g6 nbn.symm
     cases ns2 with
     | nil=>
      rw[QbF] at g5
      have:=congrArg List.length g5
      rw[QbB,g3] at this
      omega
     | cons a0 ns3=>
      refine⟨l4,_,_,_,rfl,rfl,SqL.of (sD _ _ Ac (g7.nb hl4).symm),ek,_,rfl,.inl ⟨rfl,_,SqL.of g6'⟩,nb,_,0,0,.int a0,rfl,rfl,g6',by decide,by decide,j4 (by rw[QbB];show 0 < _+1;omega),rfl,Aw (by show 2<=1000;decide),λt ht=>?_⟩
      have tn:Ar HD (upd HD nb (.lst (((a0::ns3).map V.int).eraseIdx 0))):=Ar.upd λzs z=>by rw[g6'] at z;cases z
      have tt:=Ag ht (.tup [.str k,.int a0])
      have gls:upd HD nb (.lst (((a0::ns3).map V.int).eraseIdx 0)) ls=some (.lst xs):=by rw[Al Au.symm];exact sCD _ _ g1 AA.symm
      refine⟨ls,_,_,rfl,rfl,tt _ _ gls,Ao (by rw[QbX g2];omega),?_⟩
      have nt:∀zs,(upd (upd HD nb (.lst (((a0::ns3).map V.int).eraseIdx 0))) t (.tup [.str k,.int a0])) ls≠some (.tup zs):=λzs z=>by rw[tt _ _ gls] at z;cases z
      have tu:=Ar.upd (o:=.lst (xs++[.ref t])) nt
      have yQ:Ar HC (upd (upd (upd HD nb (.lst (((a0::ns3).map V.int).eraseIdx 0))) t (.tup [.str k,.int a0])) ls (.lst (xs++[.ref t]))):=(tCD.trans tn).trans ((Ar.of tt).trans tu)
      refine⟨_,xs++[.ref t],ds++[⟨k,a0⟩],ns3,rfl,Ac,Qcs ⟨t,rfl,tu _ _ Ac⟩ (Paired.Bc g2 λ_ _ z=>z.tups yQ),by rw[QaQ,g3];rfl,λd hd=>?_,?_,?_,?_,?_,Paired.Bc g9 λ_ _ z=>z.tups yQ,λc o e n1 n2=>?_⟩
      ·rcases QbD.mp hd with z | z
       ·exact g4 d z
       ·have:d=⟨k,a0⟩:=by simpa using z
        rw[this];exact hk
      ·rw[g5,QbC,Qbh];rfl
      ·rw[Al Au,tt _ _ Ac];rfl
      ·exact ((hbD.DY Ai.upd nbn).same tt).DY Ai.upd AA
      ·rw[Al EF,tt _ _ (by rw[Al nln.symm];exact sCD _ _ g8 nlb.symm)]
      ·have e':=sCD _ _ (g10 _ _ e n1 n2) n1
       rw[Al (λz=>by rw[z,hls] at e;cases e),tt _ _ (by rw[Al n2];exact e')]
    ·obtain⟨u7,xs,ds,ns2,rfl,g1,g2,g3,g4,g5,g6,g7,g8,g9,g10⟩:=h
     cases ds with
     | nil=>cases g3
     | cons d0 dr=>
      cases g2 with
      | @cons x0 _ xr _ hd0 hdr=>
       obtain⟨t0,rfl,ht0⟩:=hd0
       have lxr:=QbX hdr
       have ldr:dr.length=mn:=by simpa using g3
       refine⟨_,rfl,.inl ⟨rfl,_,SqL.of g8⟩,_,rfl,ls,_,_,_,rfl,rfl,SqL.of g1,Ec (xs:=.ref t0::xr) (j:=0) rfl,_,rfl,_,rfl,ls,_,rfl,SqL.of g1,λp1 hp1=>?_⟩
       have ec:Jb (.ref t0::xr) (some 1) none=xr:=T3 (xs:=.ref t0::xr) (k:=1) (by simp)
       rw[ec] at *
       have sp1:=Ag hp1 (.lst xr)
       refine⟨p1,_,rfl,.inl ⟨SqL.of Ac,λtu htu=>⟨Aw (by show 1<=1000;decide),λt1 ht1=>?_⟩⟩⟩
       have sp2:=Ag htu (.tup xr)
       have sp3:=Ag ht1 (.tup [.ref tu])
       have sp:=(sp1.trans sp2).trans sp3
       refine⟨t0,t1,_,_,rfl,rfl,sp _ _ ht0,Ac,Aw (by show 2+1<=1000;decide),λtp HE hE sE=>?_⟩
       have spE:=sp.trans sE
       have g8':=spE _ _ g8
       refine⟨lp,_,_,rfl,rfl,g8',Ao (by omega),?_⟩
       have nt:∀zs,HE lp≠some (.tup zs):=λzs z=>by rw[g8'] at z;cases z
       have tv:=Ar.upd (o:=.lst (vs++[.ref tp])) nt
       have okp:OkP ⟨d0.kind,d0.addr,dr⟩:=⟨by show dr.length<=3;omega,λd hd=>g4 d (QaE _ hd),.inr (g4 d0 (QaR ..))⟩
       refine⟨_,_,_,_,vs++[.ref tp],ps++[⟨d0.kind,d0.addr,dr⟩],ns2,rfl,Ac,?_,by rw[QaQ,e3];rfl,λp hp=>?_,?_,?_,?_,?_⟩
       ·refine Qcs ⟨tp,tu,xr,rfl,tv _ _ hE,tv _ _ (sE _ _ (sp3 _ _ Ac)),Paired.Bc hdr λ_ _ z=>(z.tups (Ar.of spE)).tups tv⟩ (Paired.Bc g9 λ_ _ z=>(z.tups (Ar.of spE)).tups tv)
       ·rcases QbD.mp hp with z | z
        ·exact e4 p z
        ·have:p=⟨d0.kind,d0.addr,dr⟩:=by simpa using z
         rw[this];exact okp
       ·rw[T8,e5,g5,Qbh]
        congr 1
        have:adP ⟨d0.kind,d0.addr,dr⟩=d0.addr::dr.map (·.addr):=if_neg (UW (g4 d0 (QaR ..)))
        rw[this]
        rfl
       ·rw[Al nln];exact spE _ _ g6
       ·exact ((g7.same spE).DY Ai.upd nlb).mono (by omega)
       ·refine Dh.Pb (λc o e n1 n2=>spE _ _ (g10 _ _ (f8 _ _ e n1 n2) n1 n2)) Ai.upd hlp
 ·obtain⟨u4,u5,u6,u7,vs,ps,ns',rfl,e1,e2,e3,e4,e5,e6,e7,e8⟩:=h
  refine⟨_,rfl,lp,_,rfl,.inl ⟨SqL.of e1,λt ht=>?_⟩⟩
  have st:=Ag ht (.tup vs)
  exact q t ps ns' _ ⟨t,vs,rfl,Ac,Paired.Bc e2 λ_ _ z=>z.tups (Ar.of st)⟩ e4 (by omega) (by omega) e5 (st _ _ e6) ((e7.same st).mono (by omega)) (e8.trans (Dh.of st))
end
abbrev JN:Stmt:=top 63
abbrev M6:YF:=["_law_bag_here","_law_most_loops","_law_most_places"]
theorem BL:Az ["_law_bag_here","_law_most_loops","_law_most_places","_law_start","_law_stride","_law_numbers","_law_own","_law_first","_law_at","_law_loops","_law_loop_here","_law_most","_law_told","_law_places","_law_kind_here","_law_address","_law_spur","_law_zones","_law_names_here","_law_name_here","_law_some"] M6 (Aj JN):=⟨rfl,rfl,rfl,by trivial,rfl,by trivial,by trivial⟩
theorem aL (xs:YG) (y:V):atI (xs++[y]) (-1)=some y:=by
 unfold atI ixN
 rw[if_neg (by decide),QaQ,QaB,if_pos (by omega),show (-1+((xs.length+1:Nat):Int)).toNat=xs.length by omega]
 show (xs++[y])[xs.length]?=some y
 rw[List.getElem?_append_right (Qcq _),Nat.sub_self]
 rfl
theorem tR (xs:YG) (y:V):ixN (xs++[y]).length (-1)=some xs.length:=by
 unfold ixN
 rw[if_neg (by decide),QaQ,QaB,if_pos (by omega),show (-1+((xs.length+1:Nat):Int)).toNat=xs.length by omega]
theorem pH (xs:YG) (y z:V):(xs++[y]).set xs.length z=xs++[z]:=by
 rw[List.set_append_right _ _ (Qcq _),Nat.sub_self]
 rfl
theorem MB {i:Int} (h0:0<=i) (h9:i < 9) {a b c d e f g h k:Int} (P:Int->Prop) (ha:P a) (hb:P b) (hc:P c) (hd:P d) (he:P e) (hf:P f) (hg:P g) (hh:P h) (hk:P k):∃p,atI [V.int a,.int b,.int c,.int d,.int e,.int f,.int g,.int h,.int k] i=some (.int p)/\P p:=by
 have:i=0\/i=1\/i=2\/i=3\/i=4\/i=5\/i=6\/i=7\/i=8:=by omega
 rcases this with rfl | rfl | rfl | rfl | rfl | rfl | rfl | rfl | rfl
 ·exact⟨_,rfl,ha⟩
 ·exact⟨_,rfl,hb⟩
 ·exact⟨_,rfl,hc⟩
 ·exact⟨_,rfl,hd⟩
 ·exact⟨_,rfl,he⟩
 ·exact⟨_,rfl,hf⟩
 ·exact⟨_,rfl,hg⟩
 ·exact⟨_,rfl,hh⟩
 ·exact⟨_,rfl,hk⟩
theorem ni (ns:List Int):(ns.map V.int).all Kp=true:=by
 rw[List.all_map,List.all_eq_true]
 intro _ _
 rfl
theorem Bz {xs:YG} {m:Nat} (h:m<=xs.length):Jb xs none (some (m:Int))=xs.take m:=by
 unfold Jb
 rw[HT.Yw,HT.dB,Nat.min_eq_left h]
 rfl
theorem Paired.uY {α β : Type} {F:α->β->Prop}:∀{l:List α} {r:List β} (n:Nat),Paired F l r->Paired F (l.take n) (r.take n)
 | _,_,0,_=>.nil
 | _,_,_+1,.nil=>.nil
 | _,_,n+1,.cons h t=>.cons h (Paired.uY n t)
theorem Paired.vQ {α β : Type} {F:α->β->Prop}:∀{l:List α} {r:List β} (n:Nat),Paired F l r->Paired F (l.drop n) (r.drop n)
 | _,_,0,h=>h
 | _,_,_+1,.nil=>.nil
 | _,_,n+1,.cons h t=>Paired.vQ n t
theorem Paired.app {α β : Type} {F:α->β->Prop}:∀{a₁ b₁ : List α} {a₂ b₂ : List β},Paired F a₁ a₂->Paired F b₁ b₂->Paired F (a₁++b₁) (a₂++b₂)
 | _,_,_,_,.nil,t=>t
 | _,_,_,_,.cons r s,t=>.cons r (Paired.app s t)
theorem dG:∀(ps:List Place) (a:List Int×Int),(ps.foldl ptS a).1.sum+(ps.foldl ptS a).2=a.1.sum+a.2+((adL ps).length:Int)
 | [],a=>by show _=_+_+((0:Nat):Int);simp
 | p::r,a=>by
  rw[List.foldl_cons,dG r]
  have e:adL (p::r)=adP p++adL r:=by unfold adL;rw[Qbl]
  rw[e,QaQ]
  unfold ptS adP
  by_cases h:V.str p.kind=V.str "opener"
  ·rw[if_pos h,if_pos h,List.sum_append]
   simp
  ·rw[if_neg h,if_neg h,Qbr,QbB]
   simp only
   omega
theorem kh:∀(ps:List Place) (a:List Int×Int),(∀m∈a.1,0<=m)->0<=a.2->(∀m∈(ps.foldl ptS a).1,0<=m)/\0<=(ps.foldl ptS a).2
 | [],a,h1,h2=>⟨h1,h2⟩
 | p::r,a,h1,h2=>by
  rw[List.foldl_cons]
  refine kh r _ ?_ ?_
  ·unfold ptS
   split
   ·intro m hm
    rcases QbD.mp hm with z | z
    ·exact h1 m z
    ·have:m=a.2:=by simpa using z
     rw[this];exact h2
   ·exact h1
  ·unfold ptS
   split
   ·exact Int.le_refl _
   ·show 0<=a.2+1+(p.spur.length:Int)
    omega
theorem jG:∀{l:List Int},(∀m∈l,0<=m)->0<=l.sum/\∀m∈l,m<=l.sum
 | [],_=>⟨Int.le_refl _,λm h=>by cases h⟩
 | x::r,h=>by
  obtain⟨h1,h2⟩:=jG (l:=r) λm hm=>h m (QaE _ hm)
  have h0:=h x (QaR ..)
  rw[List.sum_cons]
  refine⟨by omega,λm hm=>?_⟩
  rcases QbY.mp hm with rfl | hm
  ·omega
  ·have:=h2 m hm
   omega
theorem qj (ps:List Place):∀m∈G4 ps,0<=m:=by
 have h:=kh ps ([],0) (λm hm=>by cases hm) (Int.le_refl _)
 intro m hm
 rcases QbD.mp hm with z | z
 ·exact h.1 m z
 ·have:m=(pst ps).2:=by simpa using z
  rw[this];exact h.2
theorem Wt (ps:List Place):(G4 ps).sum=((adL ps).length:Int):=by
 have h:=dG ps ([],0)
 unfold G4
 rw[List.sum_append]
 have:(pst ps).1.sum+(pst ps).2=((adL ps).length:Int):=by
  have e:(pst ps).1.sum+(pst ps).2=([]:List Int).sum+0+((adL ps).length:Int):=h
  rw[e];simp
 simp
 omega
theorem qm (ps:List Place):∀m∈G4 ps,m<=((adL ps).length:Int):=λm hm=>by
 have:=(jG (qj ps)).2 m hm
 rw[Wt] at this
 exact this
theorem cL:∀{l:List Int},1<=l.sum->∃m∈l,1<=m
 | [],h=>by simp at h
 | x::r,h=>by
  rw[List.sum_cons] at h
  by_cases hx:1<=x
  ·exact⟨x,QaR ..,hx⟩
  ·obtain⟨m,h1,h2⟩:=cL (l:=r) (by omega)
   exact⟨m,QaE _ h1,h2⟩
structure OkL (ps:List Place):Prop where
 lo:1<=ps.length
 hi:ps.length<=12
 ok:∀p∈ps,OkP p
def Cr (ls:YU):List Int:=ls.flatMap adL
structure aQ (most:Int) (loops:YU) (zones:List Zone):Prop where
 nd:(Cr loops).Nodup
 bd:∀x∈Cr loops,1<=x/\x<=99
 cnt:1<=(Cr loops).length/\(Cr loops).length<=30
 mo:1<=most/\most<=30
 few:∀ps∈loops,∀m∈G4 ps,m<=most
 zin:∀z∈zones,∀x∈z.adr,x∈Ek loops
 znd:(zones.flatMap (·.adr)).Nodup
 zup:∀z∈zones,z.adr.Pairwise (· < ·)/\1<=z.adr.length/\z.adr.length<=30
 yK:zones.length<=8
 znm:∀z∈zones,(1<=z.name.length/\z.name.length<=8)/\okS z.name
 zdi:(zones.map (·.name)).Nodup
def jQ:Sp:=λvs H Q _=>∃(b:Addr) (n ml mp:Nat),vs=[.ref b,.int ml,.int mp]/\Bw H b n/\n<=1000/\1<=ml/\ml<=3/\2<=mp/\mp<=12 /\
 ∀t Ls zs vs zvs loops zones most H',H' t=some (.tup [.int most,.ref Ls,.ref zs])->H' Ls=some (.tup vs)->Paired (LoopAt H') vs loops->(∀ps∈loops,OkL ps)->1<=loops.length->loops.length<=3->H' zs=some (.tup zvs)->Paired (Il H') zvs zones->aQ most loops zones->Bw H' b (n+3000)->Ai b H H'->Q (.ref t) H'
def yX:TS:=λD σ H=>∃(b nb f0:Addr) (n mp:Nat) (ns:List Int),σ[0]?=some (some (.ref b))/\σ[5]?=some (some (.ref nb))/\σ[2]?=some (some (.int mp))/\σ[7]?=some (some (.ref f0))/\H f0=some (.tup [])/\Bw H b n/\n<=4000/\b≠nb/\H nb=some (.lst (ns.map V.int))/\2<=mp/\mp<=12/\ns.length<=100 /\
 ∀t vs ps ns' H',H' t=some (.tup vs)->Paired (Dr H') vs ps->(∀p∈ps,OkP p)->ps.length+1<=mp->ns=adL ps++ns'->H' nb=some (.lst (ns'.map V.int))->Bw H' b (n+101)->Dh b nb H H'->D.nx (σ.set 7 (some (.ref t))) H'
section
variable {P:Program} {w:World} {K:YD} {mg:YB} {base:Heap}
theorem lE (C:Code K mg "_law_parts" QC KD) (T:Nm mg):Good P w K mg base "_law_parts" 1 KD Yg:=by
 refine C.good Jo (λvs H Q E h=>?_) (λf cdv A outer s H vs Q E hr h=>?_)
 ·obtain⟨t,ps,rfl,_⟩:=h
  rfl
 obtain⟨t,ps,rfl,⟨t',vs,et,ht,hps⟩,hok,h100,q⟩:=h
 cases et
 refine⟨_,(Af (Ba (i:=1) Jo.nd rfl (Or.inl rfl) (BP (Aa Ae Ab)))
 (Af (Cg QbE rfl (Eu (pv 0)) (CP rfl (Aq (Ak (i:=2) Jo.nd rfl (Or.inl rfl)) (Aq (Ak (i:=3) Jo.nd rfl (Or.inl rfl)) (Aq (Ak (i:=4) Jo.nd rfl (Or.inl rfl)) Bv))))
 (Ah (Ce (Bx Fi (pv 2) Bf (Bs _)) (Ah (Bj (BW Qaq Qal Qam Bu (pv 1) (Aa Ae Ab)))) (Ah (Hy (Bg Ca (Bg Ca (Bo CV (pv 1) (Px Mq Ae) (λ_ _=>rfl)) Ae) (Av Bl rfl T.len Cu (Aa (pv 4) Ab))) (Y8 (pv 1) (Px Mq Ae) set_list))))))
 (Ah (Bb (pv 1))))),?_⟩
 show let R0:TS:=_;let R1:TS:=_;let R2:TS:=Gp _ R0 R1;let R3:TS:=Am (Dg _ _ R2) _;Am _ R3 _ _ _
 intro R0 R1 R2 R3
 refine⟨Aw (by show 1<=1000;decide),λlf hlf=>?_⟩
 have s1:=Ag hlf (.lst [.int 0])
 have lvs:=QbX hps
 refine⟨_,rfl,t,rfl,⟨_,SqT.of (s1 _ _ ht)⟩,?_⟩
 let J0:YN:=λi σ HH=>∃(u2 u3 u4:Option V),σ=[some (.ref t),some (.ref lf),u2,u3,u4]/\HH lf=some (.lst ((pst (ps.take i)).1.map V.int++[.int (pst (ps.take i)).2]))/\(pst (ps.take i)).1.length<=i/\Same H HH
 refine Mi (xs:=vs) J0 ⟨_,_,_,rfl,Ac,Qcq _,s1⟩ (λi σ HH _ h=>?_) (λi x σ HH hx h=>?_) (fun σ HH h=>?_)
 ·obtain⟨u2,u3,u4,rfl,e1,e2,e3⟩:=h
  exact SqT.of (e3 _ _ ht)
 ·obtain⟨u2,u3,u4,rfl,e1,e2,e3⟩:=h
  obtain⟨p,hp,tp,up,ws,rfl,h1,h2,h3⟩:=Paired.Cq hps hx
  have hi:=(Qah.mp hx).1
  have et:pst (ps.take (i+1))=ptS (pst (ps.take i)) p:=by rw[Qcy hp,Y0]
  have lws:=QbX h3
  generalize pst (ps.take i)=a at *
  refine⟨tp,_,rfl,SqT.of (e3 _ _ h1),rfl,_,_,rfl,_,_,rfl,_,_,rfl,rfl,?_⟩
  refine⟨_,rfl,rfl,_,rfl,JB (λhc=>?_) (λhc=>?_)⟩
  ·have hc:V.str p.kind=V.str "opener":=Qbj hc
   have et:pst (ps.take (i+1))=(a.1++[a.2],0):=by rw[et];exact if_pos hc
   refine⟨_,rfl,.inl ⟨rfl,_,SqL.of e1⟩,lf,_,_,rfl,rfl,e1,Ao (by rw[QaQ,QbB];show _+1<=_;omega),_,_,_,rfl,?_,?_,e3.Br Ai.upd hlf⟩
   ·rw[Ac,et,QbC];rfl
   ·rw[et,QaQ];show _+1<=_;omega
  ·have hc:¬V.str p.kind=V.str "opener":=λz=>hc (QbS z)
   have et:pst (ps.take (i+1))=(a.1,a.2+1+(p.spur.length:Int)):=by rw[et];exact if_neg hc
   refine⟨_,rfl,_,rfl,lf,_,_,_,rfl,rfl,SqL.of e1,aL _ _,_,_,rfl,rfl,_,rfl,up,_,rfl,.inr (SqT.of (e3 _ _ h2)),_,_,rfl,rfl,_,rfl,_,rfl,lf,_,_,_,rfl,rfl,e1,tR _ _,_,_,_,rfl,?_,by rw[et];show a.1.length<=_;omega,e3.Br Ai.upd hlf⟩
   rw[Ac,pH,et,<-lws]
 ·obtain⟨u2,u3,u4,rfl,e1,e2,e3⟩:=h
  rw[lvs,Qbt] at e1
  refine⟨_,rfl,q lf HH (by unfold G4;rw[QbC];exact e1) e3⟩
end
theorem zE {α : Type} {l:List α} {i:Nat} {x:α} (h:l[i]?=some x):l.set i x=l:=by
 obtain⟨hi,e⟩:=Qah.mp h
 subst e
 exact List.set_getElem_self hi
theorem Ln.tups {H H':Hp} {vs:YG} {ls:YU} (s:Ar H H') (h:Paired (LoopAt H) vs ls):Paired (LoopAt H') vs ls:=Paired.Bc h λ_ _ z=>z.tups s
theorem Pn.tups {H H':Hp} {vs:YG} {ls:List Place} (s:Ar H H') (h:Paired (Dr H) vs ls):Paired (Dr H') vs ls:=Paired.Bc h λ_ _ z=>z.tups s
theorem Mj (a b:List Place):adL (a++b)=adL a++adL b:=by unfold adL;rw[QaL]
theorem Xe (ls:YU) (ps:List Place):Cr (ls++[ps])=Cr ls++adL ps:=by unfold Cr;rw[QaL];simp
def wr (ds:List Dev):Nat:=(ds.filter λd=>!decide (V.str d.kind=V.str "opener")).length
theorem Tq (w:Int):∀ws:List Int,inV (.int w) (ws.map V.int)=decide (w∈ws)
 | []=>rfl
 | x::r=>by
  have ih:=Tq w r
  unfold inV at ih ⊢
  rw[QbZ,Qcd,ih]
  have h2:eqV (.int x) (.int w)=decide (w=x):=by
   show (x == w)=decide (w=x)
   rw[QbL,beq_iff_eq,Qba]
   exact⟨λh=>h.symm,λh=>h.symm⟩
  rw[h2,QbL,Bool.or_eq_true,Qba,Qba,Qba,QbY]
def Ef (p:Int):Prop:=p=1\/p=2\/p=4\/p=5\/p=7\/p=8\/p=10\/p=13\/p=98
def Ol (r sd:Int) (n:Nat):List Int:=(List.range n).map λk:Nat=>(r+sd*(0+(k:Int))) % 99+1
theorem lM (r sd:Int) (n:Nat):Ol r sd (n+1)=Ol r sd n++[(r+sd*(0+(n:Int))) % 99+1]:=by
 unfold Ol
 rw[List.range_succ,QbC]
 rfl
theorem xg (r sd:Int) (n:Nat):∀x∈Ol r sd n,1<=x/\x<=99:=λx hx=>by
 obtain⟨k,_,rfl⟩:=Qci.mp hx
 have h1:=QbP (r+sd*(0+(k:Int))) (show (99:Int)≠0 by decide)
 have h2:=Qbb (r+sd*(0+(k:Int))) (show (0:Int) < 99 by decide)
 omega
theorem w6 {r sd:Int} (h:Ef sd):(Ol r sd 30).Nodup:=by
 unfold Ol
 refine List.pairwise_map.mpr ?_
 refine List.Pairwise.imp_of_mem (λ{i j} hi hj hlt=>?_) (List.pairwise_lt_range (n:=30))
 have hi:=QbU.mp hi
 have hj:=QbU.mp hj
 intro e
 unfold Ef at h
 rcases h with rfl | rfl | rfl | rfl | rfl | rfl | rfl | rfl | rfl <;> omega
theorem cH:∀{ds:List Dev},(Hs ds).Sublist (ds.map (·.addr))
 | ds=>by unfold Hs;exact List.Sublist.map _ (List.filter_sublist ..)
theorem XR {p:Place} (h:OkP p):(Hs (Fj p)).Sublist (adP p):=by
 rcases h.form with⟨f1,f2,f3⟩| f1
 ·have e:adP p=[]:=if_pos (by rw[f1])
  have e2:Hs (Fj p)=[]:=by
   unfold Fj Hs
   rw[f3,f1]
   have:Ed "opener"=false:=by trivial
   rw[Qau (by rw[this];decide)]
   rfl
  rw[e,e2]
  exact .slnil
 ·have e:adP p=(Fj p).map (·.addr):=if_neg (UW f1)
  rw[e]
  exact cH
theorem SQ:∀{ps:List Place},(∀p∈ps,OkP p)->(Ir ps).Sublist (adL ps)
 | [],_=>.slnil
 | p::r,h=>by
  have e1:Ir (p::r)=Hs (Fj p)++Ir r:=by unfold Ir;rw[Qbl]
  have e2:adL (p::r)=adP p++adL r:=by unfold adL;rw[Qbl]
  rw[e1,e2]
  exact (XR (h p (QaR ..))).append (SQ λq hq=>h q (QaE _ hq))
theorem Qw:∀{ls:YU},(∀ps∈ls,OkL ps)->(Ek ls).Sublist (Cr ls)
 | [],_=>.slnil
 | ps::r,h=>by
  have e1:Ek (ps::r)=Ir ps++Ek r:=by unfold Ek;rw[Qbl]
  have e2:Cr (ps::r)=adL ps++Cr r:=by unfold Cr;rw[Qbl]
  rw[e1,e2]
  exact (SQ (h ps (QaR ..)).ok).append (Qw λq hq=>h q (QaE _ hq))
theorem d7 {ps:List Place}:∀(loops:YU),ps∈loops->(adL ps).length<=(Cr loops).length
 | [],h=>by cases h
 | a::r,h=>by
  have e:Cr (a::r)=adL a++Cr r:=by unfold Cr;rw[Qbl]
  rw[e,QaQ]
  rcases QbY.mp h with rfl | h
  ·omega
  ·have:=d7 r h
   omega
structure Qk (ws:List Int) (ts:List Int) (zones:List Zone) (ys:YF):Prop where
 nd:(zones.flatMap (·.adr)++ts).Nodup
 sub:∀x∈zones.flatMap (·.adr)++ts,x∈ws
 up:∀z∈zones,z.adr.Pairwise (· < ·)/\1<=z.adr.length/\z.adr.length<=30
 nm:(zones.map (·.name)).Sublist ys
theorem Qk.next {ws ts ms ss:List Int} {zones:List Zone} {ys:YF} {y:Str} (h:Qk ws ts zones ys) (hp:ms.Perm ss) (hsub:ss.Sublist ts) (hr:ms.Pairwise (·<=·)) (h30:ms.length<=30) (y1:1<=ms.length):Qk ws (ts.filter λx=>!decide (x∈ms)) (zones++[⟨y,ms⟩]) (ys++[y]):=by
 obtain⟨n1,n2,n3⟩:=List.nodup_append.mp h.nd
 have nms:ms.Nodup:=hp.nodup_iff.mpr (hsub.nodup n2)
 have hin:∀x∈ms,x∈ts:=λx hx=>hsub.subset (hp.mem_iff.mp hx)
 have e:(zones++[(⟨y,ms⟩ : Zone)]).flatMap (·.adr)=zones.flatMap (·.adr)++ms:=by rw[QaL];simp
 refine⟨?_,λx hx=>?_,λz hz=>?_,?_⟩
 ·rw[e,List.nodup_append]
  refine⟨List.nodup_append.mpr ⟨n1,nms,λa ha b hb=>n3 a ha b (hin b hb)⟩,n2.filter _,λa ha b hb=>?_⟩
  obtain⟨hb1,hb2⟩:=QbK.mp hb
  rcases QbD.mp ha with ha | ha
  ·exact n3 a ha b hb1
  ·rintro rfl
   rw[QbS ha] at hb2
   cases hb2
 ·rw[e] at hx
  rcases QbD.mp hx with hx | hx
  ·rcases QbD.mp hx with hx | hx
   ·exact h.sub x (QaF _ hx)
   ·exact h.sub x (QaA _ (hin x hx))
  ·exact h.sub x (QaA _ (QbK.mp hx).1)
 ·rcases QbD.mp hz with hz | hz
  ·exact h.up z hz
  ·have:z=⟨y,ms⟩:=by simpa using hz
   rw[this]
   refine⟨?_,y1,h30⟩
   refine List.Pairwise.imp₂ (S:=λa b:Int=>a≠b) (λa b h1 h2=>by omega) hr nms
 ·rw[QbC]
  exact h.nm.append (List.Sublist.refl _)
theorem Qk.none {ws ts:List Int} {zones:List Zone} {ys:YF} {y:Str} {g:Int->Bool} (h:Qk ws ts zones ys):Qk ws (ts.filter g) zones (ys++[y]):=by
 obtain⟨n1,n2,n3⟩:=List.nodup_append.mp h.nd
 refine⟨List.nodup_append.mpr ⟨n1,n2.filter _,λa ha b hb=>n3 a ha b (QbK.mp hb).1⟩,λx hx=>?_,h.up,h.nm.trans (List.sublist_append_left ..)⟩
 rcases QbD.mp hx with hx | hx
 ·exact h.sub x (QaF _ hx)
 ·exact h.sub x (QaA _ (QbK.mp hx).1)
section
variable {P:Program} {w:World} {K:YD} {mg:YB} {base:Heap}
theorem wU (C:Code K mg "_law_plan" JN M6) (T:Nm mg) (Bm:Good P w K mg base "_law_take" 1 Ew Kv) (ZV:Good P w K mg base "_law_loop" 2 M8 jT) (mQ:Good P w K mg base "_law_parts" 1 KD Yg) (mR:Good P w K mg base "_law_names" 3 KH cY) :
  Good P w K mg base "_law_plan" 4 M6 jQ:=by
 refine C.good BL (λvs H Q E h=>?_) (λf cdv A outer s H vs Q E hr h=>?_)
 ·obtain⟨b,n,ml,mp,rfl,_⟩:=h
  rfl
 obtain⟨b,n,ml,mp,rfl,hb,hn,Os,hml,ID,hmp,q⟩:=h
 refine⟨_,(Af (Ba (i:=3) BL.nd rfl (Or.inr rfl) (Ay Bm hr (Aa (pv 0) (Aa Ae Ab))))
 (Af (Ba (i:=4) BL.nd rfl (Or.inr rfl) (Bo CV (@BP _ _ _ _ (@Aa _ _ _ _ _ (@Ae _ _ _ _) (@Aa _ _ _ _ _ (@Ae _ _ _ _) (@Aa _ _ _ _ _ (@Ae _ _ _ _) (@Aa _ _ _ _ _ (@Ae _ _ _ _) (@Aa _ _ _ _ _ (@Ae _ _ _ _) (@Aa _ _ _ _ _ (@Ae _ _ _ _) (@Aa _ _ _ _ _ (@Ae _ _ _ _) (@Aa _ _ _ _ _ (@Ae _ _ _ _) (@Aa _ _ _ _ _ (@Ae _ _ _ _) (@Ab _) Bh) Bh) Bh) Bh) Bh) Bh) Bh) Bh) Bh)) (Ay Bm hr (Aa (pv 0) (Aa Ae Ab))) (λ_ _=>rfl)))
 (Af (VB (i:=5) BL.nd rfl (Or.inl rfl) (N':=["_law_k","_law_start","_law_stride"]) rfl (Bp.of (src:=[none,some 3,some 4]) (Aj JN) ["_law_bag_here","_law_most_loops","_law_most_places","_law_start","_law_stride","_law_numbers","_law_own","_law_first","_law_at","_law_loops","_law_loop_here","_law_most","_law_told","_law_places","_law_kind_here","_law_address","_law_spur","_law_zones","_law_names_here","_law_name_here","_law_some"] rfl rfl rfl (by trivial) (by trivial) (by trivial) rfl (by trivial)) (CN rfl T.range (Aa Ae Ab)) (λ_ _ _ _=>(Ak (i:=0) (show List.Nodup (["_law_k","_law_start","_law_stride"]:YF) by trivial) rfl (Or.inl rfl))) (λ_ _ _ _=>CW) (λ_ _ _ _=>(Bg Ca (Bg K4 (Bg Ca (pv 1) (Bg Hf (pv 2) (pv 0))) Ae) Ae)))
 (Af (Ba (i:=6) BL.nd rfl (Or.inl rfl) (BW Qaq PySem.F.slot_list_pop PySem.F.type_list_pop Zv (pv 5) (Aa Ae Ab)))
 (Af (Ba (i:=7) BL.nd rfl (Or.inl rfl) (Bd Ab))
 (Af (PS.weak (t':=yX) (Ce (Bx Rw (Ay Bm hr (Aa (pv 0) (Aa Ae Ab))) Ae (Bs _)) (Ah (Ba (i:=7) BL.nd rfl (Or.inl rfl) (Ay ZV hr (Aa (pv 0) (Aa (pv 5) (Aa (Bg Zd (pv 2) Ae) Ab)))))) BJ) (λD σ H h=>by
    obtain⟨b,nb,f0,n,mp,ns,e0,e5,e2,e7,hf0,hb,hn,nbn,hnb,hmp,NY,hns,q⟩:=h
    refine⟨_,e0,b,n,8,rfl,hb,by omega,by decide,by decide,λr H1 r0 r1 hb1 sb1=>⟨_,_,rfl,rfl,_,rfl,JB (λ_=>?_) (λ_=>?_)⟩⟩
    ·refine⟨_,e0,_,e5,_,e2,_,_,rfl,rfl,b,nb,n+1,mp - 1,ns,?_,hb1,by omega,nbn,sb1 _ _ hnb nbn.symm,by omega,by omega,hns,λt ps ns' H2 ⟨t',vs,et,ht,hp⟩ hok h1 h2 hns' hnb' hb2 s2=>?_⟩
     ·show [V.ref b,.ref nb,.int ((mp:Int) - 1)]++[]=_
      rw[show ((mp:Int) - 1)=((mp - 1:Nat):Int) by omega]
      rfl
     ·cases et
      exact q t vs ps ns' H2 ht hp hok (by omega) hns' hnb' (hb2.mono (by omega)) ((Dh.l sb1).trans s2)
    ·have q:=q f0 [] [] ns H1 (sb1.tup hb.Gf _ _ hf0) .nil (λp hp=>by cases hp) (by show 0+1<=mp;omega) rfl (sb1 _ _ hnb nbn.symm) (hb1.mono (by omega)) (Dh.l sb1)
     rw[zE e7] at q
     exact q))
 (Af (Ba (i:=8) BL.nd rfl (Or.inl rfl) (Ay Bm hr (Aa (pv 0) (Aa (Bg Ca (Av Bl rfl T.len Cu (Aa (pv 7) Ab)) Ae) Ab))))
 (Af (Ba (i:=9) BL.nd rfl (Or.inl rfl) (BP (Aa (Bg Pz (Bg Pz (JR Vq (pv 7) Ma (LR (pv 8))) (Bd (Aa (Bd (Aa Bf (Aa (pv 6) (Aa (Bd Ab) Ab)))) Ab))) (JR Vq (pv 7) (LR (pv 8)) Ma)) Ab)))
 (Af (Cg QbE rfl (CN rfl T.range (Aa (Ay Bm hr (Aa (pv 0) (Aa (pv 1) Ab))) Ab)) (Ak (i:=10) BL.nd rfl (Or.inl rfl))
 (Ah (Bj (BW Qaq Qal Qam Bu (pv 9) (Aa (Ay ZV hr (Aa (pv 0) (Aa (pv 5) (Aa (pv 2) Ab)))) Ab)))))
 (Af (Ba (i:=11) BL.nd rfl (Or.inl rfl) (Av (WY rfl) rfl T.max aH (Aa (Cv (N':=["_law_places"]) rfl (Bp.plain rfl (by trivial) (by trivial) (by trivial)) (Ep (pv 9)) (λ_ _ _ _=>(Ak (i:=0) (show List.Nodup (["_law_places"]:YF) by trivial) rfl (Or.inl rfl))) (λ_ _ _ _=>CW) (λ_ _ _ _=>(Av (jg (K:=K) rfl rfl) rfl T.max aH (Aa (Ay mQ hr (Aa (pv 0) Ab)) Ab)))) Ab)))
 (Af (Ba (i:=12) BL.nd rfl (Or.inl rfl) (BP Ab))
 (Af (Cg QbE rfl (Ep (pv 9)) (Ak (i:=13) BL.nd rfl (Or.inl rfl))
 (Ah (Cg QbE rfl (Eu (pv 13)) (CP rfl (Aq (Ak (i:=14) BL.nd rfl (Or.inl rfl)) (Aq (Ak (i:=15) BL.nd rfl (Or.inl rfl)) (Aq (Ak (i:=16) BL.nd rfl (Or.inl rfl)) Bv))))
 (Ah (Bj (BW Qaq Qao Qap Fx (pv 12) (Aa (Cv (N':=["_law_other","_law_number"]) rfl (Bp.plain rfl (by trivial) (by trivial) (by trivial)) (Eu (Bg Pz (Bd (Aa (Bd (Aa (pv 14) (Aa (pv 15) Ab))) Ab)) (pv 16))) (λ_ _ _ _=>(Hl (K:=K) (n:=2) rfl rfl (Aq (Ak (i:=0) (show List.Nodup (["_law_other","_law_number"]:YF) by trivial) rfl (Or.inl rfl)) (Aq (Ak (i:=1) (show List.Nodup (["_law_other","_law_number"]:YF) by trivial) rfl (Or.inl rfl)) Bv)))) (λ_ _ _ _=>(Kz (Bx (Uv (K:=K) rfl) (pv 0) (Bd (Aa Bf (Aa Bf Ab))) (by with_unfolding_all rfl)))) (λ_ _ _ _=>(pv 1))) Ab)))))))
 (Af (Ba (i:=17) BL.nd rfl (Or.inl rfl) (BP Ab))
 (Af (Ba (i:=18) BL.nd rfl (Or.inl rfl) (Ay mR hr (Aa (pv 0) (Aa (Ay Bm hr (Aa (pv 0) (Aa Ae Ab))) Ab))))
 (Af (Cg QbE rfl (Ep (pv 18)) (Ak (i:=19) BL.nd rfl (Or.inl rfl))
 (Af (Ba (i:=20) BL.nd rfl (Or.inr rfl) (Av aA rfl T.sorted W8 (Aa (Cv (N':=["_law_number","_law_bag_here"]) rfl (Bp.of (src:=[none,some 0]) (Aj JN) ["_law_bag_here","_law_most_loops","_law_most_places","_law_start","_law_stride","_law_numbers","_law_own","_law_first","_law_at","_law_loops","_law_loop_here","_law_most","_law_told","_law_places","_law_kind_here","_law_address","_law_spur","_law_zones","_law_names_here","_law_name_here","_law_some"] rfl rfl rfl (by trivial) (by trivial) (by trivial) rfl (by trivial)) (Ep (pv 12)) (λ_ _ _ _=>(Ak (i:=0) (show List.Nodup (["_law_number","_law_bag_here"]:YF) by trivial) rfl (Or.inl rfl))) (λ_ _ _ _=>(Kz (Bx Fi (Ay Bm hr (Aa (pv 1) (Aa Ae Ab))) Ae (Bs _)))) (λ_ _ _ _=>(pv 0))) Ab)))
 (Af (VB (i:=12) BL.nd rfl (Or.inl rfl) (N':=["_law_number","_law_some"]) rfl (Bp.of (src:=[none,some 20]) (Aj JN) ["_law_bag_here","_law_most_loops","_law_most_places","_law_start","_law_stride","_law_numbers","_law_own","_law_first","_law_at","_law_loops","_law_loop_here","_law_most","_law_told","_law_places","_law_kind_here","_law_address","_law_spur","_law_zones","_law_names_here","_law_name_here","_law_some"] rfl rfl rfl (by trivial) (by trivial) (by trivial) rfl (by trivial)) (Ep (pv 12)) (λ_ _ _ _=>(Ak (i:=0) (show List.Nodup (["_law_number","_law_some"]:YF) by trivial) rfl (Or.inl rfl))) (λ_ _ _ _=>(Kz (Bx (Qq (K:=K) rfl) (pv 0) (pv 1) (by with_unfolding_all rfl)))) (λ_ _ _ _=>(pv 0)))
 (Ah (Ce (Bx Rw (Av Bl rfl T.len Cu (Aa (pv 20) Ab)) Ae (Bs _)) (Ah (Bj (BW Qaq Qal Qam Bu (pv 17) (Aa (Bd (Aa (pv 19) (Aa (Gm GC rfl T.tuple Ka (Aa (pv 20) Ab)) Ab))) Ab)))) BJ)))))
 (Ah (Bb (Bd (Aa (Av (La rfl) rfl T.min Ra (Aa Ae (Aa (Bg Ca (pv 11) (Ay Bm hr (Aa (pv 0) (Aa Ae Ab)))) Ab))) (Aa (Gm GC rfl T.tuple Ka (Aa (pv 9) Ab)) (Aa (Gm GC rfl T.tuple Ka (Aa (pv 17) Ab)) Ab))))))))))))))))))))),?_⟩
 show let R0:TS:=_;let R1:TS:=_;let R2:TS:=Gp _ R1 _;let R3:TS:=Am _ R2;let R4:TS:=Am _ R3;let R5:TS:=Am (Dg _ _ R4) R0;let R6:TS:=Am _ R5;let R7:TS:=Am _ R6;let R8:TS:=_;let R9:TS:=Dg _ _ R8;let R10:TS:=Am (Dg _ _ R9) R7;let R11:TS:=Am _ R10;let R12:TS:=Am _ R11;let R13:TS:=_;let R14:TS:=Am (Dg _ _ R13) R12;let R15:TS:=Am _ R14;let R16:TS:=Am _ R15;let R17:TS:=Am _ R16;let R18:TS:=Am _ R17;let R19:TS:=Am _ R18;let R20:TS:=Am _ R19;let R21:TS:=Am _ R20;Am _ R21 _ _ _
 intro R0 R1 R2 R3 R4 R5 R6 R7 R8 R9 R10 R11 R12 R13 R14 R15 R16 R17 R18 R19 R20 R21
 generalize hst:L2.start _ _=σ0
 have e0:σ0=[some (.ref b),some (.int ml),some (.int mp),none,none,none,none,none,none,none,none,none,none,none,none,none,none,none,none,none,none]:=hst.symm
 clear hst
 subst e0
 refine⟨_,rfl,b,n,99,rfl,hb,by omega,by decide,by decide,λr1 H1 r10 r11 hb1 sb1=>?_⟩
 simp only[QaU,QaT]
 refine⟨Aw (by show 9<=1000;decide),λl9 hl9=>?_⟩
 have s9:=Ag hl9 (.lst [.int 1,.int 2,.int 4,.int 5,.int 7,.int 8,.int 10,.int 13,.int 98])
 refine⟨_,rfl,b,_,9,rfl,hb1.same s9,by omega,by decide,by decide,λr2 H2 r20 r21 hb2 sb2=>?_⟩
 obtain⟨sd,esd,⟨sd0,sd1⟩,sdk⟩:=MB r20 r21 (a:=1) (b:=2) (c:=4) (d:=5) (e:=7) (f:=8) (g:=10) (h:=13) (k:=98) (λp=>(0<=p/\p<=98)/\Ef p) (by unfold Ef;decide) (by unfold Ef;decide) (by unfold Ef;decide) (by unfold Ef;decide) (by unfold Ef;decide) (by unfold Ef;decide) (by unfold Ef;decide) (by unfold Ef;decide) (by unfold Ef;decide)
 refine⟨l9,_,_,_,rfl,rfl,SqL.of (sb2 _ _ Ac (hb1.nb hl9).symm),esd,?_⟩
 simp only[QaU,QaT]
 have sB2:Ai b H H2:=(sb1.trans (Ai.of s9)).trans sb2
 refine⟨_,rfl,by decide,by decide,λnb tW=>?_⟩
 have nbn:b≠nb:=hb2.nb tW
 have fnb:H nb=none:=sB2.free hb2.ex tW
 let J0:YN:=λi σ HH=>∃(u:Option V) (ns:List Int),σ=[u,some (.int r1),some (.int sd)]/\HH=upd H2 nb (.lst (ns.map V.int))/\ns=Ol r1 sd i
 refine JD J0 ⟨none,[],rfl,rfl,rfl⟩ (λi σ HH hi h=>?_) (fun σ HH h=>?_)
 ·obtain⟨u,ns,rfl,rfl,e1⟩:=h
  have hi:i < 30:=hi
  have e1l:ns.length=i:=by rw[e1];unfold Ol;rw[QbB,Qbo]
  refine⟨_,rfl,_,rfl,_,rfl,_,_,rfl,rfl,.inl ⟨by omega,by omega⟩,_,_,rfl,rfl,_,_,rfl,rfl,(by show (0:Int) < 99;decide),_,_,rfl,rfl,_,Ac,Ao (by rw[QbB];omega),_,ns++[(r1+sd*(0+(i:Int))) % 99+1],rfl,?_,by rw[lM,e1]⟩
  rw[Rj,QbC]
  rfl
 obtain⟨u,qI,rfl,rfl,e30⟩:=h
 have uH:qI=Ol r1 sd 30:=e30
 have e30:qI.length=30:=by rw[uH];unfold Ol;rw[QbB,Qbo]
 simp only[QaU,QaT]
 cases qI with
 | nil=>cases e30
 | cons own Hu=>
 have e29:Hu.length=29:=by simpa using e30
 have Cn:(own::Hu).Nodup:=by rw[uH];exact w6 sdk
 have Co:∀x∈own::Hu,1<=x/\x<=99:=by rw[uH];exact xg r1 sd 30
 have sN:=Ag tW (.lst ((own::Hu).map V.int))
 refine⟨_,rfl,.inl ⟨rfl,_,SqL.of Ac⟩,nb,_,0,0,.int own,rfl,rfl,Ac,by decide,by decide,j4 (by rw[QbB];show 0 < _+1;omega),rfl,?_⟩
 simp only[QaU,QaT]
 have AU:upd (upd H2 nb (.lst ((own::Hu).map V.int))) nb (.lst (((own::Hu).map V.int).eraseIdx 0)) nb=some (.lst (Hu.map V.int)):=by rw[Ac];rfl
 have hb4:Bw (upd (upd H2 nb (.lst ((own::Hu).map V.int))) nb (.lst (((own::Hu).map V.int).eraseIdx 0))) b (n+1+1):=(hb2.same sN).DY Ai.upd nbn
 have sB4:Ai b H (upd (upd H2 nb (.lst ((own::Hu).map V.int))) nb (.lst (((own::Hu).map V.int).eraseIdx 0))):=Ai.Pb (sB2.trans (Ai.of sN)) Ai.upd fnb
 generalize upd (upd H2 nb (.lst ((own::Hu).map V.int))) nb (.lst (((own::Hu).map V.int).eraseIdx 0))=H4 at AU hb4 sB4
 refine⟨Aw (by show 0<=1000;decide),λf0 hf0=>?_⟩
 simp only[QaU,QaT]
 have s5:=Ag hf0 (.tup [])
 refine⟨b,nb,f0,_,mp,Hu,rfl,rfl,rfl,rfl,Ac,hb4.same s5,by omega,nbn,s5 _ _ AU,ID,hmp,by omega,λft fv fp ns1 H5 hft hfp AY hfl Iy IB hb5 s45=>?_⟩
 simp only[QaU,QaT]
 have sB5:Ai b H H5:=λc o e nc=>s45 _ _ (s5 _ _ (sB4 _ _ e nc)) nc (λz=>by rw[z,fnb] at e;cases e)
 have lfv:=QbX hfp
 refine⟨_,rfl,_,rfl,ft,_,rfl,.inr (SqT.of hft),_,_,rfl,rfl,b,_,_,rfl,hb5,by omega,by omega,by omega,λr4 H6 r40 r41 hb6 sb6=>?_⟩
 simp only[QaU,QaT]
 obtain⟨an,han⟩ : ∃an:Nat,r4=an:=⟨r4.toNat,by omega⟩
 subst han
 have AW:=(sb6.tup hb5.Gf) _ _ hft
 have AX:=Pn.tups (sb6.tup hb5.Gf) hfp
 have AT:=sb6 _ _ IB nbn.symm
 have sB6:=sB5.trans sb6
 refine⟨_,rfl,_,rfl,_,rfl,ft,fv,rfl,AW,λp1 H7 hp1 s7=>?_⟩
 rw[Bz (by omega)] at hp1
 refine⟨_,rfl,Aw (by show 0<=1000;decide),λe0 he0=>⟨Aw (by show 3<=1000;decide),λt3 ht3=>⟨Aw (by show 1<=1000;decide),λt1 ht1=>?_⟩⟩⟩
 have q1:=Ag he0 (.tup [])
 have q2:=Ag ht3 (.tup [.str "seeker",.int own,.ref e0])
 have q3:=Ag ht1 (.tup [.ref t3])
 have q13:=(q1.trans q2).trans q3
 have hown:Dr (upd (upd (upd H7 e0 (.tup [])) t3 (.tup [.str "seeker",.int own,.ref e0])) t1 (.tup [.ref t3])) (.ref t3) ⟨"seeker",own,[]⟩:=⟨t3,e0,[],rfl,q3 _ _ Ac,q3 _ _ (q2 _ _ Ac),.nil⟩
 refine⟨p1,t1,_,_,rfl,rfl,q13 _ _ hp1,Ac,Aw (by rw[Qbs];show _+1<=1000;omega),λp2 H8 hp2 s8=>?_⟩
 have s68:=(s7.trans q13).trans s8
 refine⟨_,rfl,_,rfl,_,rfl,ft,fv,rfl,s68 _ _ AW,λp3 H9 hp3 s9'=>?_⟩
 rw[T3 (by omega)] at hp3
 refine⟨p2,p3,_,_,rfl,rfl,s9' _ _ hp2,hp3,Aw (by rw[QaQ,Qbs,Qbx];show _+1+_<=1000;omega),λp4 H10 hp4 s10=>⟨Aw (by show 1<=1000;decide),λll hll=>?_⟩⟩
 simp only[QaU,QaT]
 have Yy:=(s68.trans s9').trans s10
 have s11:=Ag hll (.lst [.ref p4])
 have Yx:=Yy.trans s11
 have hL0:LoopAt (upd H10 ll (.lst [.ref p4])) (.ref p4) ((fp.take an++[⟨"seeker",own,[]⟩])++fp.drop an):=by
  refine⟨p4,_,rfl,s11 _ _ hp4,Paired.app (Paired.app (Pn.tups (Ar.of Yx) (Paired.uY an AX)) (.cons ?_ .nil)) (Pn.tups (Ar.of Yx) (Paired.vQ an AX))⟩
  exact hown.tups (Ar.of (((s8.trans s9').trans s10).trans s11))
 have As:OkL ((fp.take an++[⟨"seeker",own,[]⟩])++fp.drop an):=by
  refine⟨?_,?_,λp hp=>?_⟩
  ·rw[QaQ,QaQ];show 1<=_+1+_;omega
  ·rw[QaQ,QaQ,Qbs,Qbx];show _+1+_<=12;omega
  ·rcases QbD.mp hp with z | z
   ·rcases QbD.mp z with z | z
    ·exact AY p (QaH z)
    ·have:p=⟨"seeker",own,[]⟩:=by simpa using z
     rw[this]
     exact⟨by show 0<=3;decide,(λd hd=>by cases hd),.inr (.inl rfl)⟩
   ·exact AY p (List.mem_of_mem_drop z)
 have pm0:(adL ((fp.take an++[⟨"seeker",own,[]⟩])++fp.drop an)++ns1).Perm (own::Hu):=by
  have h2:adL fp=adL (fp.take an)++adL (fp.drop an):=by rw[<-Mj,List.take_append_drop]
  have h3:adL [(⟨"seeker",own,[]⟩ : Place)]=[own]:=by
   have:adP ⟨"seeker",own,[]⟩=[own]:=if_neg (UW (.inl rfl))
   show [(⟨"seeker",own,[]⟩ : Place)].flatMap adP=[own]
   simp[this]
  rw[Mj,Mj,h3,Iy,h2,Qbh,Qbh,Qbh]
  exact (List.perm_middle (l₁:=adL (fp.take an)) (a:=own) (l₂:=adL (fp.drop an)++ns1))
 have Dx:1<=(adL ((fp.take an++[⟨"seeker",own,[]⟩])++fp.drop an)).length:=by
  have h3:adL [(⟨"seeker",own,[]⟩ : Place)]=[own]:=by
   have:adP ⟨"seeker",own,[]⟩=[own]:=if_neg (UW (.inl rfl))
   show [(⟨"seeker",own,[]⟩ : Place)].flatMap adP=[own]
   simp[this]
  rw[Mj,Mj,h3,QaQ,QaQ]
  show 1<=_+1+_
  omega
 generalize OC:(fp.take an++[⟨"seeker",own,[]⟩])++fp.drop an=L0 at hL0 As pm0 Dx
 have hbL:Bw (upd H10 ll (.lst [.ref p4])) b (n+1+1+101+1):=hb6.same Yx
 have AS:=Yx _ _ AT
 have sBL:Ai b H (upd H10 ll (.lst [.ref p4])):=sB6.trans (Ai.of Yx)
 have AV:upd H10 ll (.lst [.ref p4]) ll=some (.lst [.ref p4]):=Ac
 have fll:H ll=none:=(sB6.trans (Ai.of Yy)).free (hb6.same Yy).ex hll
 have nbl:b≠ll:=(hb6.same Yy).nb hll
 have nnl:nb≠ll:=Ax (Yy _ _ AT) hll
 generalize upd H10 ll (.lst [.ref p4])=HL at hL0 hbL AS sBL AV
 refine⟨_,rfl,_,rfl,b,_,_,rfl,hbL,by omega,by omega,by omega,λr5 HM r50 r51 hbM sbM=>⟨_,rfl,by omega,by omega,?_⟩⟩
 obtain⟨lnn,IE⟩ : ∃lnn:Nat,r5=lnn:=⟨r5.toNat,by omega⟩
 subst IE
 rw[Qbk]
 have tM:=sbM.tup hbL.Gf
 have EA:∀ps∈[L0],OkL ps:=λps hps=>by
  have:ps=L0:=by simpa using hps
  rw[this];exact As
 let J1:YN:=λi σ HH=>∃(u10:Option V) (vs:YG) (loops:YU) (ns':List Int),σ=[some (.ref b),some (.int ml),some (.int mp),some (.int r1),some (.int sd),some (.ref nb),some (.int own),some (.ref ft),some (.int (an:Int)),some (.ref ll),u10,none,none,none,none,none,none,none,none,none,none]/\HH ll=some (.lst vs)/\Paired (LoopAt HH) vs loops/\loops.length=1+i/\(∀ps∈loops,OkL ps)/\((Cr loops++ns').Perm (own::Hu)/\∃L,loops=L0::L)/\HH nb=some (.lst (ns'.map V.int))/\Bw HH b (n+105+101*i)/\Ai b H HH
 refine DX J1
  ⟨_,[.ref p4],[L0],ns1,rfl,sbM _ _ AV nbl.symm,.cons (hL0.tups tM) .nil,rfl,EA,⟨(by show ([L0].flatMap adL++_).Perm _;simpa using pm0),[],rfl⟩,sbM _ _ AS nbn.symm,hbM.mono (by omega),sBL.trans sbM⟩ (λi σ HH hi h=>?_) (fun σ HH h=>?_)
 ·obtain⟨u10,vs,loops,ns',rfl,e1,e2,e3,e4,⟨e5p,Lr,hLr⟩,e6,e7,e8⟩:=h
  have e5:(Cr loops).length+ns'.length=30:=by
   have:=e5p.length_eq
   rw[QaQ,Qbr,e29] at this
   exact this
  simp only[QaU,QaT]
  refine⟨_,rfl,.inl ⟨rfl,_,SqL.of e1⟩,_,rfl,_,rfl,_,rfl,b,nb,_,mp,ns',rfl,e7,by omega,nbn,e6,by omega,by omega,by omega,λt ps ED H' hL hok h1 h2 hns hnb' hb' s2=>?_⟩
  have e1':=s2 _ _ e1 nbl.symm nnl.symm
  have t2:Ar HH H':=λc xs e=>s2 _ _ e (λz=>e7.Gf _ (z ▸ e)) (λz=>by rw[z,e6] at e;cases e)
  refine⟨ll,_,_,rfl,rfl,e1',Ao (by rw[QbX e2];omega),?_⟩
  have tv0:∀zs,H' ll≠some (.tup zs):=λzs z=>by rw[e1'] at z;cases z
  have tv:=Ar.upd (o:=.lst (vs++[.ref t])) tv0
  refine⟨_,vs++[.ref t],loops++[ps],ED,rfl,Ac,Qcs (hL.tups tv) (Ln.tups tv (Ln.tups t2 e2)),by rw[QaQ,e3];show _+1=_;omega,λp hp=>?_,?_,by rw[Al nnl];exact hnb',(hb'.DY Ai.upd nbl).mono (by omega),λc o e nc=>?_⟩
  ·rcases QbD.mp hp with z | z
   ·exact e4 p z
   ·have:p=ps:=by simpa using z
    rw[this];exact⟨h1,by omega,hok⟩
  ·refine⟨?_,Lr++[ps],by rw[hLr];rfl⟩
   rw[Xe,Qbh,<-hns]
   exact e5p
  ·rw[Al (λz=>by rw[z,fll] at e;cases e)]
   exact s2 _ _ (e8 _ _ e nc) nc (λz=>by rw[z,fnb] at e;cases e)
 obtain⟨u10,vs,loops,ns',rfl,e1,e2,e3,e4,⟨e5p,mD⟩,e6,e7,e8⟩:=h
 have e5:(Cr loops).length+ns'.length=30:=by
  have:=e5p.length_eq
  rw[QaQ,Qbr,e29] at this
  exact this
 have lvs:=QbX e2
 have ndA:(Cr loops).Nodup:=(List.nodup_append.mp (e5p.nodup_iff.mpr Cn)).1
 have bdA:∀x∈Cr loops,1<=x/\x<=99:=λx hx=>Co x (e5p.mem_iff.mp (QaF _ hx))
 have yM:=Qw e4
 refine⟨_,rfl,ll,rfl,⟨_,SqL.of e1⟩,λlm hlm=>?_⟩
 have nlm:ll≠lm:=Ax e1 hlm
 let J2:YN:=λi σ H'=>∃(u:Option V) (ms:List Int),σ=[u]/\H' lm=some (.lst (ms.map V.int))/\ms.length=i/\Same HH H'/\∀ps∈loops.take i,∀m∈G4 ps,∃M∈ms,m<=M
 refine Jj (xs:=vs) J2 ⟨none,[],rfl,Ac,rfl,Ag hlm _,(λps hps=>by cases hps)⟩ (λi σ H' _ h=>?_) (λi x σ H' hx h=>?_) (fun σ H' h=>?_)
 ·obtain⟨u,ms,rfl,m1,m2,m3,m4⟩:=h
  exact SqL.of (m3 _ _ e1)
 ·obtain⟨u,ms,rfl,m1,m2,m3,m4⟩:=h
  obtain⟨ps,hps,hL⟩:=Paired.Cq e2 hx
  obtain⟨tx,wx,rfl,hx1,hx2⟩:=id hL
  have okl:=e4 ps (QaD hps)
  refine⟨_,rfl,tx,ps,rfl,hL.tups (Ar.of m3),okl.ok,by have:=okl.hi;omega,λlq H'' hq s'=>⟨lq,G4 ps,rfl,SqL.of hq,(by unfold G4;rw[QaQ];show 0 < _+1;omega),λM hMi hMm=>?_⟩⟩
  have hi:=(Qah.mp hx).1
  refine⟨_,s' _ _ m1,Ao (by rw[QbB];omega),_,ms++[M],rfl,by rw[Ac,QbC];rfl,by rw[QaQ,m2];rfl,(m3.trans s').Br Ai.upd hlm,λqs hqs m hm=>?_⟩
  rw[Qcy hps] at hqs
  rcases QbD.mp hqs with hqs | hqs
  ·obtain⟨M',h1,h2⟩:=m4 qs hqs m hm
   exact⟨M',QaF _ h1,h2⟩
  ·have:qs=ps:=by simpa using hqs
   rw[this] at hm
   exact⟨M,QaA _ (QaR ..),hMm m hm⟩
 obtain⟨u,ms,rfl,m1,m2,m3,m4⟩:=h
 refine⟨lm,ms,rfl,SqL.of m1,by omega,λM hMi hMm=>?_⟩
 have AE:∀ps∈loops,∀m∈G4 ps,m<=M:=λps hps m hm=>by
  obtain⟨M',h1,h2⟩:=m4 ps (by rw[lvs,Qbt];exact hps) m hm
  have:=hMm M' h1
  omega
 simp only[QaU,QaT]
 have e1:=m3 _ _ e1
 have e2:=Ln.tups (Ar.of m3) e2
 have e7:=e7.same m3
 have e8:=e8.trans (Ai.of m3)
 clear m1 m2
 refine⟨Aw (by show 0<=1000;decide),λlt hlt=>?_⟩
 simp only[QaU,QaT]
 have sT:=Ag hlt (.lst [])
 have nbt:b≠lt:=e7.nb hlt
 refine⟨_,rfl,ll,rfl,⟨_,SqL.of (sT _ _ e1)⟩,?_⟩
 let J3:YN:=λi σ HT=>∃(u13 u14 u15 u16:Option V) (ts:List Int),σ=[some (.ref b),some (.int ml),some (.int mp),some (.int r1),some (.int sd),some (.ref nb),some (.int own),some (.ref ft),some (.int (an:Int)),some (.ref ll),u10,some (.int M),some (.ref lt),u13,u14,u15,u16,none,none,none,none]/\HT lt=some (.lst (ts.map V.int))/\ts=Ek (loops.take i)/\Same H' HT
 refine TJ (xs:=vs) J3 ⟨_,_,_,_,[],rfl,Ac,rfl,sT⟩ (λi σ HT _ h=>?_) (λi x σ HT hx h=>?_) (fun σ HT h=>?_)
 ·obtain⟨u13,u14,u15,u16,ts,rfl,t1,t2,t3⟩:=h
  exact SqL.of (t3 _ _ e1)
 ·obtain⟨u13,u14,u15,u16,ts,rfl,t1,t2,t3⟩:=h
  simp only[QaU,QaT]
  obtain⟨ps,hps,hL⟩:=Paired.Cq e2 hx
  obtain⟨tx,wx,rfl,hx1,hx2⟩:=id hL
  have okl:=e4 ps (QaD hps)
  have lwx:=QbX hx2
  have etk:Cr (loops.take (i+1))=Cr (loops.take i)++adL ps:=by rw[Qcy hps,Xe]
  have tot:(Cr (loops.take (i+1))).length<=30:=by
   have:Cr loops=Cr (loops.take (i+1))++Cr (loops.drop (i+1)):=by unfold Cr;rw[<-QaL,List.take_append_drop]
   have h2:=congrArg List.length this
   rw[QaQ] at h2
   omega
  rw[etk,QaQ] at tot
  have wle:(Ek (loops.take i)).length<=(Cr (loops.take i)).length:=(Qw λqs hqs=>e4 qs (QaH hqs)).length_le
  have wtk:Ek (loops.take (i+1))=Ek (loops.take i)++Ir ps:=by rw[Qcy hps,fu]
  refine⟨_,rfl,tx,rfl,⟨_,SqT.of (t3 _ _ hx1)⟩,?_⟩
  let J4:YN:=λj σ HT=>∃(u14 u15 u16:Option V) (ts:List Int),σ=[some (.ref b),some (.int ml),some (.int mp),some (.int r1),some (.int sd),some (.ref nb),some (.int own),some (.ref ft),some (.int (an:Int)),some (.ref ll),u10,some (.int M),some (.ref lt),some (.ref tx),u14,u15,u16,none,none,none,none]/\HT lt=some (.lst (ts.map V.int))/\ts=Ek (loops.take i)++Ir (ps.take j)/\Same H' HT
  refine Mi (xs:=wx) J4 ⟨_,_,_,ts,rfl,t1,(by rw[t2];show _=_++[];rw[QbF]),t3⟩ (λj σ HT _ h=>?_) (λj y σ HT hy h=>?_) (fun σ HT h=>?_)
  ·obtain⟨u14,u15,u16,ts,rfl,t1,t2,t3⟩:=h
   exact SqT.of (t3 _ _ hx1)
  ·obtain⟨u14,u15,u16,ts,rfl,t1,t2,t3⟩:=h
   obtain⟨p,hp,hP⟩:=Paired.Cq hx2 hy
   obtain⟨tp,up,wp',rfl,hp1,hp2,hp3⟩:=hP.tups (Ar.of t3)
   have okp:=okl.ok p (QaD hp)
   have etj:adL (ps.take (j+1))=adL (ps.take j)++adP p:=by rw[Qcy hp,T8]
   have tj:(adL (ps.take (j+1))).length<=(adL ps).length:=by
    have:adL ps=adL (ps.take (j+1))++adL (ps.drop (j+1)):=by rw[<-Mj,List.take_append_drop]
    have h2:=congrArg List.length this
    rw[QaQ] at h2
    omega
   rw[etj,QaQ] at tj
   have wlj:(Ir (ps.take j)).length<=(adL (ps.take j)).length:=(SQ λqs hqs=>okl.ok qs (QaH hqs)).length_le
   have wtj:Ir (ps.take (j+1))=Ir (ps.take j)++Hs (Fj p):=by rw[Qcy hp,jC]
   have t2l:ts.length<=(Cr (loops.take i)).length+(adL (ps.take j)).length:=by rw[t2,QaQ];omega
   refine⟨tp,_,rfl,SqT.of hp1,rfl,_,_,rfl,_,_,rfl,_,_,rfl,rfl,?_⟩
   simp only[QaU,QaT]
   refine⟨_,rfl,.inl ⟨rfl,_,SqL.of t1⟩,_,rfl,_,rfl,Aw (by show 2<=1000;decide),λta hta=>⟨Aw (by show 1<=1000;decide),λtb htb=>?_⟩⟩
   have v1:=Ag hta (.tup [.str p.kind,.int p.addr])
   have v2:=Ag htb (.tup [.ref ta])
   have v12:=v1.trans v2
   refine⟨_,rfl,tb,up,_,_,rfl,rfl,Ac,v12 _ _ hp2,Aw (by have:=okp.spur;show 1+_<=1000;rw[QbX hp3];omega),λtc HC hC sC=>⟨tc,rfl,⟨_,SqT.of hC⟩,λl hl=>?_⟩⟩
   have vC:=v12.trans sC
   have hds:Paired (JF HC) ([.ref ta]++wp') (⟨p.kind,p.addr⟩::p.spur):=.cons ⟨ta,rfl,sC _ _ (v2 _ _ Ac)⟩ (Paired.Bc hp3 λ_ _ z=>z.tups (Ar.of vC))
   have lds:=QbX hds
   let J5:YN:=λk σ H5=>∃(u v:Option V) (ys:List Int),σ=[u,v]/\H5 l=some (.lst (ys.map V.int))/\ys=Hs ((Fj p).take k)/\Same HC H5
   refine Qf (xs:=[.ref ta]++wp') J5 ⟨none,none,[],rfl,Ac,rfl,Ag hl _⟩ (λk σ H5 _ h=>?_) (λk x σ H5 hk h=>?_) (fun σ H5 h=>?_)
   ·obtain⟨u,v,ys,rfl,y1,y2,y3⟩:=h
    exact SqT.of (y3 _ _ hC)
   ·obtain⟨u,v,ys,rfl,y1,y2,y3⟩:=h
    obtain⟨d,hd,td,rfl,htd⟩:=Paired.Cq hds hk
    have hkl:=(Qah.mp hd).1
    have hsp:=okp.spur
    have hkk:k < 4:=by rw[Qbr] at hkl;omega
    have hdv:(Fj p)[k]?=some d:=hd
    have hws:Hs ((Fj p).take (k+1))=Hs ((Fj p).take k)++(if Ed d.kind=true then [d.addr] else []):=by rw[Qcy hdv,jD]
    have y2l:ys.length<=k:=by
     rw[y2]
     have:=(cH (ds:=(Fj p).take k)).length_le
     rw[QbB,Qbs] at this
     omega
    refine⟨td,_,rfl,SqT.of (y3 _ _ htd),rfl,_,_,rfl,_,_,rfl,rfl,?_⟩
    refine⟨_,rfl,Aw (by show 2<=1000;decide),λtq htq=>?_⟩
    have vq:=Ag htq (.tup [.str "seeker",.str "knob"])
    refine⟨tq,_,rfl,.inr (SqT.of Ac),rfl,rfl,_,rfl,JB (λcc=>?_) (λcc=>?_)⟩
    ·have cc:Ed d.kind=true:=cc
     rw[if_pos cc] at hws
     refine⟨_,rfl,_,vq _ _ y1,Ao (by rw[QbB];omega),_,_,ys++[d.addr],rfl,by rw[Ac,QbC];rfl,by rw[hws,y2],(y3.trans vq).Br Ai.upd hl⟩
    ·have cc:¬Ed d.kind=true:=cc
     rw[if_neg cc,QbF] at hws
     refine⟨_,_,ys,rfl,vq _ _ y1,by rw[hws];exact y2,y3.trans vq⟩
   obtain⟨u,v,ys,rfl,y1,y2,y3⟩:=h
   have y2':ys=Hs (Fj p):=by
    rw[y2,lds]
    congr 1
    exact Qbt ..
   have y2l:ys.length<=(adP p).length:=by rw[y2'];exact (XR okp).length_le
   have t1':=y3 _ _ (vC _ _ t1)
   refine⟨lt,l,_,_,rfl,rfl,t1',y1,Aw (by rw[QbB,QbB];omega),?_⟩
   refine⟨_,_,_,ts++ys,rfl,by rw[Ac,QbC],?_,((t3.trans vC).trans y3).Br Ai.upd hlt⟩
   rw[wtj,t2,y2',Qbh]
  ·obtain⟨u14,u15,u16,ts,rfl,t1,t2,t3⟩:=h
   rw[lwx,Qbt] at t2
   exact⟨_,_,_,_,ts,rfl,t1,by rw[wtk];exact t2,t3⟩
 obtain⟨u13,u14,u15,u16,ts,rfl,t1,t2,t3⟩:=h
 rw[lvs,Qbt] at t2
 have pC:ts.length<=30:=by rw[t2];have:=yM.length_le;omega
 have zk0:Qk (Ek loops) ts [] []:=by
  rw[t2]
  exact⟨yM.nodup ndA,(λx hx=>hx),(λz hz=>by cases hz),List.Sublist.refl _⟩
 have e1:=t3 _ _ e1
 have e2:=Ln.tups (Ar.of t3) e2
 have e7:=e7.same t3
 have e8:=e8.trans (Ai.of t3)
 refine⟨Aw (by show 0<=1000;decide),λlz hlz=>?_⟩
 simp only[QaU,QaT]
 have sZ:=Ag hlz (.lst [])
 have nzl:ll≠lz:=Ax e1 hlz
 have nzt:lt≠lz:=Ax t1 hlz
 have nzb:b≠lz:=e7.nb hlz
 have flz:H lz=none:=e8.free e7.ex hlz
 refine⟨_,rfl,_,rfl,b,_,5,rfl,e7.same sZ,by omega,by decide,by decide,λr6 HU r60 r61 hbU sU=>?_⟩
 obtain⟨rn,hrn⟩ : ∃rn:Nat,r6=rn:=⟨r6.toNat,by omega⟩
 subst hrn
 refine⟨b,_,rn,rfl,hbU,by omega,by omega,λln ys HV hln ly hys DI iK hbV sV=>?_⟩
 simp only[QaU,QaT]
 have sUV:Ai b _ HV:=((Ai.of sZ).trans sU).trans sV
 have nzn:ln≠lz:=λz=>by rw[z,sU _ _ Ac nzb.symm] at hln;cases hln
 have e1:=sUV _ _ e1 nbl.symm
 have e2:=Ln.tups (sUV.tup e7.Gf) e2
 have e8:=e8.trans sUV
 have hzV:HV lz=some (.lst []):=sV _ _ (sU _ _ Ac nzb.symm) nzb.symm
 have t1:=sUV _ _ t1 nbt.symm
 have hbV:=hbV.mono (show _<=n+500 by omega)
 have tl3:loops.length<=3:=by omega
 have nln:b≠ln:=hbU.nb hln
 refine⟨_,rfl,ln,rfl,⟨_,SqL.of iK⟩,?_⟩
 let J6:YN:=λi σ HH=>∃(lt:Addr) (u19 u20:Option V) (ts:List Int) (zs:YG),σ=[some (.ref b),some (.int ml),some (.int mp),some (.int r1),some (.int sd),some (.ref nb),some (.int own),some (.ref ft),some (.int (an:Int)),some (.ref ll),u10,some (.int M),some (.ref lt),u13,u14,u15,u16,some (.ref lz),some (.ref ln),u19,u20]/\HH lt=some (.lst (ts.map V.int))/\ts.length<=30/\b≠lt/\lt≠lz/\HH lz=some (.lst zs)/\(∃zones,Paired (Il HH) zs zones/\Qk (Ek loops) ts zones (ys.take i))/\HH ln=some (.lst (ys.map V.str))/\HH ll=some (.lst vs)/\Paired (LoopAt HH) vs loops/\Bw HH b (n+500+30*i)/\Ai b H HH
 refine TJ (xs:=ys.map V.str) J6
  ⟨lt,_,_,ts,[],rfl,t1,pC,nbt,nzt,hzV,⟨[],.nil,zk0⟩,iK,e1,e2,hbV,e8⟩ (λi σ HH _ h=>?_) (λi x σ HH hx h=>?_) (fun σ HH h=>?_)
 ·obtain⟨lt,u19,u20,ts,zs,rfl,z1,z2,z3,z4,z5,z6,z7,z8,z9,z10,z11⟩:=h
  exact SqL.of z7
 ·clear t1 t2 t3 pC nbt nzt hzV iK e1 e2 hbV e8
  obtain⟨lt,u19,u20,ts,zs,rfl,z1,z2,z3,z4,z5,z6,z7,z8,z9,z10,z11⟩:=h
  obtain⟨zones,zp,zk⟩:=z6
  have DH:zs.length<=5:=by
   have h1:=QbX zp
   have h2:=zk.nm.length_le
   rw[QbB,Qbs] at h2
   omega
  obtain⟨yi,hyi,rfl⟩ : ∃yi,ys[i]?=some yi/\x=.str yi:=by
   rw[Qbi] at hx
   obtain⟨yi,h1,h2⟩:=Qaw.mp hx
   exact⟨yi,h1,h2.symm⟩
  have ytk:ys.take (i+1)=ys.take i++[yi]:=Qcy hyi
  have hil:i < 5:=by
   have:=(Qah.mp hx).1
   rw[QbB] at this
   omega
  simp only[QaU,QaT]
  refine⟨_,rfl,lt,rfl,⟨_,SqL.of z1⟩,λlc hlc=>?_⟩
  have nbc:b≠lc:=z10.nb hlc
  have ntc:lt≠lc:=Ax z1 hlc
  have sC:=Ag hlc (.lst [])
  let J7:YN:=λk σ HC=>∃(u:Option V) (ss:List Int),σ=[u,some (.ref b)]/\HC lc=some (.lst (ss.map V.int))/\ss.Sublist (ts.take k)/\Bw HC b (n+500+30*i+k)/\Ai b HH HC
  refine Jj (xs:=ts.map V.int) J7 ⟨none,[],rfl,Ac,List.Sublist.refl _,z10.same sC,Ai.of sC⟩ (λk σ HC _ h=>?_) (λk x σ HC hk h=>?_) (fun σ HC h=>?_)
  ·obtain⟨u,ss,rfl,c1,c2,c3,c4⟩:=h
   exact SqL.of (c4 _ _ z1 z3.symm)
  ·obtain⟨u,ss,rfl,c1,c2,c3,c4⟩:=h
   have hkl:k < 30:=by
    have:=(Qah.mp hk).1
    rw[QbB] at this
    omega
   refine⟨_,rfl,b,_,3,rfl,c3,by omega,by decide,by decide,λr HD _ _ hbD sD=>⟨rfl,_,rfl,?_⟩⟩
   have c1':=sD _ _ c1 nbc.symm
   rw[Qbi] at hk
   obtain⟨a,hka,rfl⟩:=Qaw.mp hk
   have tka:ts.take (k+1)=ts.take k++[a]:=Qcy hka
   have ssl:ss.length<=k:=Qck c2.length_le (by rw[Qbs];omega)
   refine JB (λcc=>?_) (λcc=>?_)
   ·refine⟨_,rfl,_,c1',Ao (by rw[QbB];omega),_,ss++[a],rfl,by rw[Ac,QbC];rfl,by rw[tka];exact c2.append (List.Sublist.refl _),hbD.DY Ai.upd nbc,Ai.Pb (c4.trans sD) Ai.upd hlc⟩
   ·exact⟨_,ss,rfl,c1',by rw[tka];exact c2.trans (List.sublist_append_left ..),hbD,c4.trans sD⟩
  obtain⟨u,ss,rfl,c1,c2,c3,c4⟩:=h
  rw[QbB] at c2 c3
  rw[Qbt] at c2
  have ssl:ss.length<=30:=Qck c2.length_le z2
  refine⟨lc,ss,rfl,SqL.of c1,by omega,λms ls hperm RB hls=>?_⟩
  simp only[QaU,QaT]
  have sS:=Ag hls (.lst (ms.map V.int))
  have c5:Ai b HH (upd HC ls (.lst (ms.map V.int))):=c4.trans (Ai.of sS)
  have c6:=c3.same sS
  have c7:(upd HC ls (.lst (ms.map V.int))) ls=some (.lst (ms.map V.int)):=Ac
  generalize upd HC ls (.lst (ms.map V.int))=HS at c5 c6 c7
  have lms:ms.length<=30:=by have:=hperm.length_eq;omega
  have z1:=c5 _ _ z1 z3.symm
  refine⟨_,rfl,lt,rfl,⟨_,SqL.of z1⟩,λlw hlw=>?_⟩
  have nbw:b≠lw:=c6.nb hlw
  have nsw:ls≠lw:=Ax c7 hlw
  have nzw:lw≠lz:=(Ax (c5 _ _ z5 nzb.symm) hlw).symm
  let J8:YN:=λk σ HC=>∃(u:Option V) (ss:List Int),σ=[u,some (.ref ls)]/\HC lw=some (.lst (ss.map V.int))/\ss=(ts.take k).filter (λx=>!decide (x∈ms))/\Same HS HC
  refine Jj (xs:=ts.map V.int) J8 ⟨none,[],rfl,Ac,rfl,Ag hlw _⟩ (λk σ HC _ h=>?_) (λk x σ HC hk h=>?_) (fun σ HC h=>?_)
  ·obtain⟨u,ss,rfl,d1,d2,d3⟩:=h
   exact SqL.of (d3 _ _ z1)
  ·obtain⟨u,ss,rfl,d1,d2,d3⟩:=h
   have hkl:k < 30:=by
    have:=(Qah.mp hk).1
    rw[QbB] at this
    omega
   rw[Qbi] at hk
   obtain⟨a,hka,rfl⟩:=Qaw.mp hk
   have tka:(ts.take (k+1)).filter (λx=>!decide (x∈ms))=(ts.take k).filter (λx=>!decide (x∈ms))++[a].filter (λx=>!decide (x∈ms)):=by rw[Qcy hka,List.filter_append]
   have ssl:ss.length<=30:=by
    rw[d2]
    have h1:=List.length_filter_le (λx=>!decide (x∈ms)) (ts.take k)
    rw[Qbs] at h1
    omega
   refine⟨_,rfl,_,rfl,ls,_,rfl,.inl (SqL.of (d3 _ _ c7)),rfl,ni ms,_,rfl,JB (λcc=>?_) (λcc=>?_)⟩
   ·have cc:(!inV (.int a) (ms.map V.int))=true:=cc
    rw[Tq] at cc
    rw[show List.filter (λx=>!decide (x∈ms)) [a]=[a] from List.filter_cons_of_pos (p:=λx=>!decide (x∈ms)) cc] at tka
    refine⟨_,rfl,_,d1,Ao (by rw[QbB];omega),_,ss++[a],rfl,by rw[Ac,QbC];rfl,by rw[tka,d2],d3.Br Ai.upd hlw⟩
   ·have cc:¬(!inV (.int a) (ms.map V.int))=true:=cc
    rw[Tq] at cc
    rw[show List.filter (λx=>!decide (x∈ms)) [a]=[] from Qau (p:=λx=>!decide (x∈ms)) cc] at tka
    exact⟨_,ss,rfl,d1,by rw[tka,d2];exact (QbF _).symm,d3⟩
  obtain⟨u,ws,rfl,d1,d2,d3⟩:=h
  rw[QbB,Qbt] at d2
  have wsl:ws.length<=30:=by rw[d2];exact Qck (List.length_filter_le _ _) z2
  simp only[QaU,QaT]
  have c8:=c5.trans (Ai.of d3)
  have z5:=c8 _ _ z5 nzb.symm
  have z7:=c8 _ _ z7 nln.symm
  have z8:=c8 _ _ z8 nbl.symm
  have z9:=Ln.tups (c8.tup z10.Gf) z9
  have zp:Paired (Il HC) zs zones:=Paired.Bc zp λ_ _ z=>z.tups (c8.tup z10.Gf)
  have z10:=(c6.same d3).mono (show _<=n+500+30*(i+1) by omega)
  have z11:=z11.trans c8
  have c7:=d3 _ _ c7
  have zkn:(ms.map V.int).length=ms.length:=QbB _
  refine⟨_,rfl,ls,_,rfl,.inl (SqL.of c7),_,_,rfl,rfl,_,rfl,JB (λcc=>?_) (λcc=>?_)⟩
  ·refine⟨_,rfl,.inl ⟨rfl,_,SqL.of z5⟩,_,rfl,_,rfl,ls,_,rfl,.inl ⟨SqL.of c7,λtt htt=>⟨Aw (by show 2<=1000;decide),λta hta=>?_⟩⟩⟩
   have f1:=Ag htt (.tup (ms.map V.int))
   have f2:=Ag hta (.tup [.str yi,.ref tt])
   have f12:=f1.trans f2
   have z5:=f12 _ _ z5
   refine⟨lz,_,_,rfl,rfl,z5,Ao (by omega),?_⟩
   have tz0:∀zs',(upd (upd HC tt (.tup (ms.map V.int))) ta (.tup [.str yi,.ref tt])) lz≠some (.tup zs'):=λzs' z=>by rw[z5] at z;cases z
   have tz:=Ar.upd (o:=.lst (zs++[.ref ta])) tz0
   have IC:1<=ms.length:=by
    have cc:=Qbj cc
    rw[zkn] at cc
    omega
   have zp':Paired (Il (upd (upd (upd HC tt (.tup (ms.map V.int))) ta (.tup [.str yi,.ref tt])) lz (.lst (zs++[.ref ta])))) (zs++[.ref ta]) (zones++[⟨yi,ms⟩]):=Qcs ⟨ta,tt,rfl,tz _ _ Ac,tz _ _ (f2 _ _ Ac)⟩ (Paired.Bc zp λ_ _ z=>(z.tups (Ar.of f12)).tups tz)
   have zk':Qk (Ek loops) ws (zones++[⟨yi,ms⟩]) (ys.take (i+1)):=by rw[d2,ytk];exact zk.next hperm c2 RB lms IC
   exact⟨lw,_,_,ws,zs++[.ref ta],rfl,by rw[Al nzw];exact f12 _ _ d1,by omega,nbw,nzw,Ac,⟨_,zp',zk'⟩,by rw[Al nzn];exact f12 _ _ z7,by rw[Al nzl];exact f12 _ _ z8,Ln.tups tz (Ln.tups (Ar.of f12) z9),(z10.same f12).DY Ai.upd nzb,Ai.Pb (z11.trans (Ai.of f12)) Ai.upd flz⟩
  ·exact⟨lw,_,_,ws,zs,rfl,d1,by omega,nbw,nzw,z5,⟨zones,zp,by rw[d2,ytk];exact zk.none⟩,z7,z8,z9,z10,z11⟩
 clear t1 t2 t3 pC nbt nzt hzV iK e1 e2 hbV e8
 obtain⟨lt,u19,u20,ts,zs,rfl,z1,z2,z3,z4,z5,z6,z7,z8,z9,z10,z11⟩:=h
 rw[QbB] at z10
 obtain⟨zones,zp,zk⟩:=z6
 rw[QbB,Qbt] at zk
 have DH:zs.length<=5:=by
  have h1:=QbX zp
  have h2:=zk.nm.length_le
  rw[QbB] at h2
  omega
 refine⟨_,rfl,_,rfl,b,_,3,rfl,z10,by omega,by decide,by decide,λr7 HX _ _ hbX sX=>⟨_,_,rfl,rfl,_,_,rfl,_,rfl,ll,_,rfl,.inl ⟨SqL.of (sX _ _ z8 nbl.symm),λtl htl=>?_⟩⟩⟩
 have g1:=Ag htl (.tup vs)
 refine⟨_,rfl,lz,_,rfl,.inl ⟨SqL.of (g1 _ _ (sX _ _ z5 nzb.symm)),λtz htz=>⟨Aw (by show 3<=1000;decide),λt ht=>?_⟩⟩⟩
 have g2:=Ag htz (.tup zs)
 have g3:=Ag ht (.tup [.int (if M+r7 < 30 then M+r7 else 30),.ref tl,.ref tz])
 have iZ:=(g1.trans g2).trans g3
 have cnt:1<=(Cr loops).length:=by
  obtain⟨L,hL⟩ : ∃L,loops=L0::L:=mD
  rw[hL]
  have:Cr (L0::L)=adL L0++Cr L:=by unfold Cr;rw[Qbl]
  rw[this,QaQ]
  omega
 have M1:1<=M:=by
  obtain⟨L,hL⟩ : ∃L,loops=L0::L:=mD
  obtain⟨m,h1,h2⟩:=cL (l:=G4 L0) (by rw[Wt];omega)
  have:=AE L0 (by rw[hL];exact QaR ..) m h1
  omega
 have pok:aQ (if M+r7 < 30 then M+r7 else 30) loops zones:=by
  refine⟨ndA,bdA,⟨cnt,by omega⟩,⟨by split <;> omega,by split <;> omega⟩,λps hps m hm=>?_,λz hz x hx=>?_,(List.nodup_append.mp zk.nd).1,zk.up,?_,λz hz=>?_,zk.nm.nodup DI⟩
  ·have h1:=AE ps hps m hm
   have h2:=qm ps m hm
   have h3:(adL ps).length<=(Cr loops).length:=by
    exact d7 loops hps
   split <;> omega
  ·exact zk.sub x (QaF _ (Qbz.mpr ⟨z,hz,hx⟩))
  ·have h1:=QbX zp
   omega
  ·exact hys z.name (zk.nm.subset (Qci.mpr ⟨z,hz,rfl⟩))
 exact q t tl tz vs zs loops zones _ _ Ac (g3 _ _ (g2 _ _ Ac)) (Ln.tups (Ar.of iZ) (Ln.tups (sX.tup z10.Gf) z9)) e4 (by omega) tl3 (g3 _ _ Ac) (Paired.Bc zp λ_ _ z=>(z.tups (sX.tup z10.Gf)).tups (Ar.of iZ)) pok ((hbX.same iZ).mono (by omega)) ((z11.trans sX).trans (Ai.of iZ))
end
abbrev Jt:Stmt:=top 38
abbrev Eb:YF:=["loop","at","place"]
theorem CK:Az ["loop","at","place","kind","address","spur","told","number","spur_kind","spur_address"] Eb (Aj Jt):=⟨rfl,rfl,rfl,by trivial,rfl,by trivial,by trivial⟩
structure Sd where
 lp:Int
 at_:Int
 n:Int
 kind:Str
 addr:Int
def Np (H:Hp) (v:V) (d:Sd):Prop:=∃t u,v=.ref t/\H t=some (.tup [.ref u,.str d.kind,.int d.addr])/\H u=some (.tup [.int d.lp,.int d.at_,.int d.n])
theorem Np.tups {H H':Hp} (s:Ar H H') {v:V} {d:Sd} (h:Np H v d):Np H' v d:=by
 obtain⟨t,u,e,q1,q2⟩:=h
 exact⟨t,u,e,s _ _ q1,s _ _ q2⟩
def Du (lp at_:Int):Nat->List Dev->List Sd
 | _,[]=>[]
 | n,d::r=>⟨lp,at_,n,d.kind,d.addr⟩::Du lp at_ (n+1) r
def BZ (lp at_:Int) (p:Place):List Sd:=if V.str p.kind=V.str "opener" then [] else ⟨lp,at_,0,p.kind,p.addr⟩::Du lp at_ 1 p.spur
theorem Sq (lp at_:Int):∀(n:Nat) (ds:List Dev) (i:Nat) (d:Dev),ds[i]?=some d->Du lp at_ n (ds.take (i+1))=Du lp at_ n (ds.take i)++[⟨lp,at_,(n+i:Nat),d.kind,d.addr⟩]
 | n,[],i,d,h=>by simp at h
 | n,x::r,0,d,h=>by
  simp at h
  subst h
  simp[Du]
 | n,x::r,i+1,d,h=>by
  have h':r[i]?=some d:=by simpa using h
  have ih:=Sq lp at_ (n+1) r i d h'
  rw[List.take_succ_cons,List.take_succ_cons]
  show _::Du lp at_ (n+1) (r.take (i+1))=(_::Du lp at_ (n+1) (r.take i))++_
  rw[ih,show n+1+i=n+(i+1) by omega]
  rfl
structure Tx (K:YD) (mg:YB) (op oe:Addr):Prop extends Nm mg where
 OPENER:∃u,mg "OPENER"=some u/\RelV (.ref op) u
 opT:∀H,SqT K H op [.str "opener",.int 0,.ref oe]
 opE:∀H,SqT K H oe []
def pF:Sp:=λvs H Q _=>∃(lp at_:Int) (v:V) (p:Place),vs=[.int lp,.int at_,v]/\Dr H v p/\p.spur.length<=3/\∀l xs H',H l=none->H' l=some (.lst xs)->Paired (Np H') xs (BZ lp at_ p)->Same H H'->Q (.ref l) H'
section
variable {P:Program} {w:World} {K:YD} {mg:YB} {base:Heap} {op oe:Addr}
theorem Tg (c:Code K mg "place_devices" Jt Eb) (T:Tx K mg op oe):Good P w K mg base "place_devices" 1 Eb pF:=by
 refine c.good CK (λvs H Q E h=>?_) (λf cdv A outer s H vs Q E hr h=>?_)
 ·obtain⟨lp,at_,v,p,rfl,_⟩:=h
  rfl
 obtain⟨lp,at_,v,p,rfl,⟨t,u,vs,rfl,ht,hu,hd⟩,h3,q⟩:=h
 refine⟨_,(Af (Hy (pv 2) (CP rfl (Aq (Ak (i:=3) CK.nd rfl (Or.inl rfl)) (Aq (Ak (i:=4) CK.nd rfl (Or.inl rfl)) (Aq (Ak (i:=5) CK.nd rfl (Or.inl rfl)) Bv)))))
 (Af (Ce (Bx Fi (pv 3) Bf (Bs _)) (Ah (Bb (BP Ab))) BJ)
 (Af (Ba (i:=6) CK.nd rfl (Or.inl rfl) (BP (Aa (Bd (Aa (Bd (Aa (pv 0) (Aa (pv 1) (Aa Ae Ab)))) (Aa (pv 3) (Aa (pv 4) Ab)))) Ab)))
 (Af (Cg QbE rfl (MN rfl T.enumerate (pv 5) Ae) (CP rfl (Aq (Ak (i:=7) CK.nd rfl (Or.inl rfl)) (Aq (CP rfl (Aq (Ak (i:=8) CK.nd rfl (Or.inl rfl)) (Aq (Ak (i:=9) CK.nd rfl (Or.inl rfl)) Bv))) Bv)))
 (Ah (Bj (BW Qaq Qal Qam Bu (pv 6) (Aa (Bd (Aa (Bd (Aa (pv 0) (Aa (pv 1) (Aa (pv 7) Ab)))) (Aa (pv 8) (Aa (pv 9) Ab)))) Ab)))))
 (Ah (Bb (pv 6))))))),?_⟩
 show let R0:TS:=_;let R1:TS:=Am (Dg _ _ R0) _;let R2:TS:=Am _ R1;let R3:TS:=Am _ R2;Am _ R3 _ _ _
 intro R0 R1 R2 R3
 generalize hst:L2.start _ _=σ0
 have e0:σ0=[some (.int lp),some (.int at_),some (.ref t),none,none,none,none,none,none,none]:=hst.symm
 clear hst
 subst e0
 refine⟨_,rfl,t,_,rfl,SqT.of ht,rfl,_,_,rfl,_,_,rfl,_,_,rfl,rfl,?_⟩
 simp only[QaU,QaT]
 refine⟨_,rfl,rfl,_,rfl,?_⟩
 by_cases ck:V.str p.kind=V.str "opener"
 ·rw[QbS ck]
  have e:BZ lp at_ p=[]:=if_pos ck
  rw[e] at q
  exact BK ⟨(by show 0<=sizeLine;decide),λl hl=>q l [] _ hl Ac .nil (Ag hl _)⟩
 ·rw[QbG ck]
  have e:BZ lp at_ p=⟨lp,at_,0,p.kind,p.addr⟩::Du lp at_ 1 p.spur:=if_neg ck
  rw[e] at q
  refine Cm ⟨_,rfl,_,rfl,(by show 3<=sizeLine;decide),λus hus=>⟨_,rfl,_,rfl,(by show 3<=sizeLine;decide),λts hts=>⟨(by show 1<=sizeLine;decide),λl hl=>?_⟩⟩⟩
  have s1:=Ag hus (.tup [.int lp,.int at_,.int 0])
  have s2:=Ag hts (.tup [.ref us,.str p.kind,.int p.addr])
  have s3:=Ag hl (.lst [.ref ts])
  have sm:=s1.trans (s2.trans s3)
  have hl0:=s1.free (s2.free hl)
  have el:_=some (HO.lst [.ref ts]):=Ac (H:=upd (upd H us (.tup [.int lp,.int at_,.int 0])) ts (.tup [.ref us,.str p.kind,.int p.addr])) (a:=l) (o:=.lst [.ref ts])
  have es:Np _ (.ref ts) ⟨lp,at_,0,p.kind,p.addr⟩:=⟨ts,us,rfl,s3 _ _ Ac,s3 _ _ (s2 _ _ Ac)⟩
  generalize hX:upd (upd (upd H us (.tup [.int lp,.int at_,.int 0])) ts (.tup [.ref us,.str p.kind,.int p.addr])) l (.lst [.ref ts])=H1 at sm el es
  simp only[QaU,QaT]
  have hu1:=sm _ _ hu
  have sd0:Paired (Np H1) [.ref ts] (⟨lp,at_,0,p.kind,p.addr⟩::Du lp at_ 1 (p.spur.take 0)):=.cons es .nil
  have FK:vs.length=p.spur.length:=QbX hd
  refine⟨_,rfl,u,rfl,⟨vs,SqT.of hu1⟩,Ja (xs:=vs) (lo:=1) (λi σ HH=>∃ys u7 u8 u9,σ=[some (.int lp),some (.int at_),some (.ref t),some (.str p.kind),some (.int p.addr),some (.ref u),some (.ref l),u7,u8,u9]/\Ai l H1 HH/\HH l=some (.lst ys)/\Paired (Np HH) ys (⟨lp,at_,0,p.kind,p.addr⟩::Du lp at_ 1 (p.spur.take i))/\ys.length<=i+1)
   ⟨[.ref ts],_,_,_,rfl,Ai.refl l H1,el,sd0,Qcq _⟩ (λi σ HH _ h=>?_) (λi x pt σ HH hx h hpt=>?_) (fun σ HH h=>?_)⟩
  ·obtain⟨ys,_,_,_,_,sb,_⟩:=h
   exact SqT.of (sb _ _ hu1 (λz=>by rw[z,el] at hu1;cases hu1))
  ·obtain⟨ys,u7,u8,u9,rfl,sb,hy,pd,ly⟩:=h
   obtain⟨d,hdi,td,rfl,htd⟩:=Paired.Cq hd hx
   have nl:∀zs,H1 l≠some (.tup zs):=λzs z=>by rw[el] at z;cases z
   have nl2:∀zs,HH l≠some (.tup zs):=λzs z=>by rw[hy] at z;cases z
   have Id:=(sb.tup nl) _ _ (sm _ _ htd)
   have t0:=Ag hpt (.tup [.int ((1+i:Nat):Int),.ref td])
   refine⟨pt,_,rfl,SqT.of Ac,rfl,_,_,rfl,_,_,rfl,td,_,rfl,SqT.of (t0 _ _ Id),rfl,_,_,rfl,_,_,rfl,rfl,rfl,?_⟩
   simp only[QaU,QaT]
   have hy0:=t0 _ _ hy
   refine⟨_,rfl,.inl ⟨rfl,_,SqL.of hy0⟩,_,rfl,_,rfl,_,rfl,(by show 3<=sizeLine;decide),λus2 HP=>⟨_,rfl,_,rfl,(by show 3<=sizeLine;decide),λts2 HZ=>?_⟩⟩
   have t1:=Ag HP (.tup [.int lp,.int at_,.int ((1+i:Nat):Int)])
   have t2:=Ag HZ (.tup [.ref us2,.str d.kind,.int d.addr])
   have hy2:=t2 _ _ (t1 _ _ hy0)
   have il:=(Qah.mp hx).1
   refine⟨l,_,_,rfl,rfl,hy2,Ao (by omega),?_⟩
   refine⟨ys++[.ref ts2],_,_,_,rfl,sb.trans ((Ai.of (t0.trans (t1.trans t2))).trans Ai.upd),Ac,?_,by rw[QaQ];simp only[QaB];omega⟩
   rw[Sq lp at_ 1 p.spur i d hdi]
   have nlx:∀zs,(upd (upd (upd HH pt (.tup [.int ((1+i:Nat):Int),.ref td])) us2 (.tup [.int lp,.int at_,.int ((1+i:Nat):Int)])) ts2 (.tup [.ref us2,.str d.kind,.int d.addr])) l≠some (.tup zs):=λzs z=>by rw[hy2] at z;cases z
   have tt:=Ar.upd (o:=.lst (ys++[.ref ts2])) nlx
   exact Qcs (l₂:=_::Du lp at_ 1 (p.spur.take i)) ⟨ts2,us2,rfl,tt _ _ Ac,tt _ _ (t2 _ _ Ac)⟩ (Paired.Bc pd λ_ _ z=>(z.tups (Ar.of (t0.trans (t1.trans t2)))).tups tt)
  ·obtain⟨ys,u7,u8,u9,rfl,sb,hy,pd,ly⟩:=h
   rw[FK,Qbt] at pd
   exact⟨_,rfl,q l ys HH hl0 hy pd λc o e=>sb _ _ (sm _ _ e) (Ax e hl0)⟩
end
structure Sp3 where
 lp:Int
 at_:Int
 n:Int
def Sd.spot (d:Sd):Sp3:=⟨d.lp,d.at_,d.n⟩
def Ci (H:Hp) (v:V) (d:Sp3):Prop:=∃u,v=.ref u/\H u=some (.tup [.int d.lp,.int d.at_,.int d.n])
theorem Ci.tups {H H':Hp} (s:Ar H H') {v:V} {d:Sp3} (h:Ci H v d):Ci H' v d:=by
 obtain⟨u,e,q⟩:=h
 exact⟨u,e,s _ _ q⟩
theorem Mh {k:Str} (h:Gy k):¬V.str k=V.str "opener":=by
 rcases h with rfl | rfl | rfl | rfl <;> decide +kernel
theorem ZF {k:Str} (h:Gy k):(PyData.str k).canLay0=true:=by
 rcases h with rfl | rfl | rfl | rfl <;> decide +kernel
def Ou (d:Dev):PyData:=.tuple [.str d.kind,.int d.addr]
def MJ (p:Place):PyData:=.tuple [.str p.kind,.int p.addr,.tuple (p.spur.map Ou)]
def opD:PyData:=.tuple [.str "opener",.int 0,.tuple []]
theorem Z8:∀{ds:List Dev},(∀d∈ds,Gy d.kind)->PyData.canLayAll0 (ds.map Ou)=true/\PyData.depthAll (ds.map Ou)<=1
 | [],_=>⟨rfl,by show 0<=1;decide⟩
 | d::ds,h=>by
  have ih:=Z8 (ds:=ds) λx hx=>h x (QaE _ hx)
  refine⟨?_,?_⟩
  ·show ((PyData.canLay0 (.str d.kind)&&(true&&true))&&PyData.canLayAll0 (ds.map Ou))=true
   rw[ZF (h d QaR),ih.1];rfl
  ·show max (max 0 (max 0 0)+1) (PyData.depthAll (ds.map Ou))<=1
   exact Nat.max_le.mpr ⟨by decide,ih.2⟩
theorem zW:PyData.canLay0 (.str "opener")=true:=by trivial
theorem QS {p:Place} (h:OkP p):SeqAt.shaped (MJ p)=true:=by
 have hk:PyData.canLay0 (.str p.kind)=true:=by
  rcases h.form with⟨e,_⟩| e
  ·rw[e];exact zW
  ·exact ZF e
 have hd:=Z8 h.kinds
 show ((PyData.canLay0 (.str p.kind)&&(true&&(PyData.canLayAll0 (p.spur.map Ou)&&true)))&&decide (max 0 (max 0 (max (PyData.depthAll (p.spur.map Ou)+1) 0))+1<=64))=true
 rw[hk,hd.1]
 have:max 0 (max 0 (max (PyData.depthAll (p.spur.map Ou)+1) 0))+1<=64:=by omega
 rw[QbS this]
 rfl
theorem Wo {p:Place} (h:OkP p):PyData.eqv (MJ p) opD=decide (V.str p.kind=V.str "opener"):=by
 rcases h.form with⟨e1,e2,e3⟩| e
 ·rw[show MJ p=opD by unfold MJ opD;rw[e1,e2,e3];rfl,e1]
  decide +kernel
 ·rw[QbG (Mh e)]
  have:(p.kind == ("opener":Str))=false:=QaJ.mpr λz=>Mh e (by rw[z])
  show (((p.kind == ("opener":Str))&&_))=false
  rw[this]
  rfl
theorem JF.rep {K:YD} {H:Hp} {v:V} {d:Dev} (h:JF H v d):Kd K H v (Ou d):=by
 obtain⟨t,rfl,e⟩:=h
 exact .tup (SqT.of e) (.cons (.str _) (.cons (.int _) .nil))
theorem Z7 {K:YD} {H:Hp}:∀{vs:YG} {ds:List Dev},Paired (JF H) vs ds->LK K H vs (ds.map Ou)
 | _,_,.nil=>.nil
 | _,_,.cons h t=>.cons h.rep (Z7 t)
theorem Dr.rep {K:YD} {H:Hp} {v:V} {p:Place} (h:Dr H v p):Kd K H v (MJ p):=by
 obtain⟨t,u,vs,rfl,e1,e2,e3⟩:=h
 exact .tup (SqT.of e1) (.cons (.str _) (.cons (.int _) (.cons (.tup (SqT.of e2) (Z7 e3)) .nil)))
theorem Lk (lp at_:Int):∀(n:Nat) (ds:List Dev),(Du lp at_ n ds).length=ds.length
 | _,[]=>rfl
 | n,d::r=>by show (Du lp at_ (n+1) r).length+1=r.length+1;rw[Lk]
abbrev QK:Stmt:=top 39
abbrev Gn:YF:=["plan"]
theorem Hj:Az ["plan","told","loop","places","at","place"] Gn (Aj QK):=⟨rfl,rfl,rfl,by trivial,rfl,by trivial,by trivial⟩
abbrev Kh:Stmt:=top 40
abbrev Hz:YF:=["plan"]
theorem DP:Az ["plan","told","loop","places","at","kind","address","spur"] Hz (Aj Kh):=⟨rfl,rfl,rfl,by trivial,rfl,by trivial,by trivial⟩
abbrev Nv:Stmt:=top 41
abbrev KC:YF:=["plan"]
theorem Lp:Az ["plan","told","loop","places"] KC (Aj Nv):=⟨rfl,rfl,rfl,by trivial,rfl,by trivial,by trivial⟩
def up {α : Type} (f:Nat->List α) (i:Nat):List α:=(List.range i).flatMap f
theorem Dc {α : Type} (f:Nat->List α) (i:Nat):up f (i+1)=up f i++f i:=by
 unfold up
 rw[List.range_succ,QaL]
 simp
theorem LQ {α : Type} (f:Nat->List α):up f 0=[]:=rfl
theorem Dt {α : Type} {f:Nat->List α} {c:Nat} (h:∀i,(f i).length<=c):∀i,(up f i).length<=c*i
 | 0=>Qcq _
 | i+1=>by
  have:=Dt h i
  have:=h i
  rw[Dc,QaQ,Nat.mul_succ]
  omega
def ifs {α β : Type} (o:Option α) (g:α->List β):List β:=match o with | none=>[] | some x=>g x
theorem CQ {α β : Type} {o:Option α} {g:α->List β} {x:α} (h:o=some x):ifs o g=g x:=by rw[h];rfl
structure Gt where
 lp:Int
 at_:Int
def Ei (H:Hp) (v:V) (d:Gt):Prop:=∃u,v=.ref u/\H u=some (.tup [.int d.lp,.int d.at_])
theorem Ei.tups {H H':Hp} (s:Ar H H') {v:V} {d:Gt} (h:Ei H v d):Ei H' v d:=by
 obtain⟨u,e,q⟩:=h
 exact⟨u,e,s _ _ q⟩
def pd1 (lp:Int) (ps:List Place) (i:Nat):List Sd:=ifs ps[i]? λp=>BZ lp ((1+i:Nat):Int) p
def pdL (loops:YU) (k:Nat):List Sd:=ifs loops[k]? λps=>up (pd1 k ps) ps.length
abbrev YV:=List Sp3
def st1 (lp:Int) (ps:List Place) (i:Nat):YV:=ifs ps[i]? λp=>(List.range (p.spur.length+1)).map λn:Nat=>⟨lp,((1+i:Nat):Int),(n:Int)⟩
def stL (loops:YU) (k:Nat):YV:=ifs loops[k]? λps=>⟨k,0,0⟩::up (st1 k ps) ps.length
def gt1 (lp:Int) (ps:List Place) (i:Nat):List Gt:=ifs ps[i]? λp=>if V.str p.kind=V.str "opener" then [⟨lp,((1+i:Nat):Int)⟩] else []
def gtL (loops:YU) (k:Nat):List Gt:=ifs loops[k]? λps=>(⟨k,0⟩::up (gt1 k ps) ps.length)++[⟨k,(ps.length:Int)+1⟩]
structure Eh (loops:YU):Prop where
 ok:∀ps∈loops,OkL ps
 hi:loops.length<=3
theorem Sx {lp a:Int} {p:Place} (h:OkP p):(BZ lp a p).length<=4:=by
 unfold BZ
 have:=h.spur
 split
 ·exact Qcr _
 ·rw[Qbr,Lk];omega
theorem dJ {lp:Int} {ps:List Place} (h:∀p∈ps,OkP p) (i:Nat):(pd1 lp ps i).length<=4:=by
 unfold pd1
 cases e:ps[i]? with
 | none=>exact Qcr _
 | some p=>exact Sx (h p (QaD e))
theorem Vo {lp:Int} {ps:List Place} (h:∀p∈ps,OkP p) (i:Nat):(st1 lp ps i).length<=4:=by
 unfold st1
 cases e:ps[i]? with
 | none=>exact Qcr _
 | some p=>
  have:=(h p (QaD e)).spur
  show ((List.range _).map _).length<=4
  rw[QbB,Qbo]
  omega
theorem RD {lp:Int} {ps:List Place} (i:Nat):(gt1 lp ps i).length<=1:=by
 unfold gt1
 cases e:ps[i]? with
 | none=>exact Qcr _
 | some p=>
  show (if _ then _ else _:List Gt).length<=1
  split
  ·exact Qcq _
  ·exact Qcr _
theorem dI {loops:YU} (h:Eh loops) (k:Nat):(pdL loops k).length<=48:=by
 unfold pdL
 cases e:loops[k]? with
 | none=>exact Qcr _
 | some ps=>
  have o:=h.ok ps (QaD e)
  have:=Dt (dJ (lp:=k) o.ok) ps.length
  have:=o.hi
  show (up _ _).length<=48
  omega
theorem Vn {loops:YU} (h:Eh loops) (k:Nat):(stL loops k).length<=49:=by
 unfold stL
 cases e:loops[k]? with
 | none=>exact Qcr _
 | some ps=>
  have o:=h.ok ps (QaD e)
  have:=Dt (Vo (lp:=k) o.ok) ps.length
  have:=o.hi
  show (up _ _).length+1<=49
  omega
theorem V2 {loops:YU} (h:Eh loops) (k:Nat):(gtL loops k).length<=14:=by
 unfold gtL
 cases e:loops[k]? with
 | none=>exact Qcr _
 | some ps=>
  have o:=h.ok ps (QaD e)
  have:=Dt (RD (lp:=k) (ps:=ps)) ps.length
  have:=o.hi
  show ((_::up _ _)++[_]).length<=14
  rw[QaQ,Qbr]
  show _+1+1<=14
  omega
def Ve (H:Hp) (pl:Addr) (loops:YU):Prop:=∃v0 v2 Ls vs,H pl=some (.tup [v0,.ref Ls,v2])/\H Ls=some (.tup vs)/\Paired (LoopAt H) vs loops
def Ui:Sp:=λvs H Q _=>∃(pl:Addr) (loops:YU),vs=[.ref pl]/\Ve H pl loops/\Eh loops/\∀l xs H',H l=none->H' l=some (.lst xs)->Paired (Np H') xs (up (pdL loops) loops.length)->Same H H'->Q (.ref l) H'
def vf:Sp:=λvs H Q _=>∃(pl:Addr) (loops:YU),vs=[.ref pl]/\Ve H pl loops/\Eh loops/\∀l xs H',H l=none->H' l=some (.lst xs)->Paired (Ci H') xs (up (stL loops) loops.length)->Same H H'->Q (.ref l) H'
def vg:Sp:=λvs H Q _=>∃(pl:Addr) (loops:YU),vs=[.ref pl]/\Ve H pl loops/\Eh loops/\∀l xs H',H l=none->H' l=some (.lst xs)->Paired (Ei H') xs (up (gtL loops) loops.length)->Same H H'->Q (.ref l) H'
section
variable {P:Program} {w:World} {K:YD} {mg:YB} {base:Heap} {op oe:Addr}
theorem gO (c:Code K mg "devices" QK Gn) (T:Tx K mg op oe) (JC:Good P w K mg base "place_devices" 1 Eb pF):Good P w K mg base "devices" 2 Gn Ui:=by
 refine c.good Hj (λvs H Q E h=>?_) (λf cdv A outer s H vs Q E hr h=>?_)
 ·obtain⟨pl,loops,rfl,_⟩:=h
  rfl
 obtain⟨pl,loops,rfl,⟨v0,v2,Ls,vs,hpl,hLs,hlo⟩,ok,q⟩:=h
 refine⟨_,(Af (Ba (i:=1) Hj.nd rfl (Or.inl rfl) (BP Ab))
 (Af (Cg QbE rfl (Tf rfl T.enumerate (Bo Cd (pv 0) Ae (λ_ _=>rfl))) (CP rfl (Aq (Ak (i:=2) Hj.nd rfl (Or.inl rfl)) (Aq (Ak (i:=3) Hj.nd rfl (Or.inl rfl)) Bv)))
 (Ah (Cg QbE rfl (MN rfl T.enumerate (pv 3) Ae) (CP rfl (Aq (Ak (i:=4) Hj.nd rfl (Or.inl rfl)) (Aq (Ak (i:=5) Hj.nd rfl (Or.inl rfl)) Bv)))
 (Ah (Bj (BW Qaq Qao Qap Fx (pv 1) (Aa (Ay JC hr (Aa (pv 2) (Aa (pv 4) (Aa (pv 5) Ab)))) Ab)))))))
 (Ah (Bb (pv 1))))),?_⟩
 show let R0:TS:=_;let R1:TS:=Dg _ _ R0;let R2:TS:=Am (Dg _ _ R1) _;Am _ R2 _ _ _
 intro R0 R1 R2
 generalize hst:L2.start _ _=σ0
 have e0:σ0=[some (.ref pl),none,none,none,none,none]:=hst.symm
 clear hst
 subst e0
 refine⟨Aw (by show 0<=1000;decide),λl fl=>?_⟩
 simp only[QaU,QaT]
 have s1:=Ag fl (.lst [])
 have lvs:=QbX hlo
 refine⟨_,rfl,pl,_,_,_,rfl,rfl,SqT.of (s1 _ _ hpl),rfl,Ls,rfl,⟨vs,SqT.of (s1 _ _ hLs)⟩,?_⟩
 let J0:YN:=λi σ HH=>∃(ys:YG) (u2 u3 u4 u5:Option V),σ=[some (.ref pl),some (.ref l),u2,u3,u4,u5]/\Same H HH/\HH l=some (.lst ys)/\Paired (Np HH) ys (up (pdL loops) i)
 refine Ja (xs:=vs) (lo:=0) J0 ⟨[],_,_,_,_,rfl,s1,Ac,.nil⟩ (λi σ HH _ h=>?_) (λi x pt σ HH hx h hpt=>?_) (fun σ HH h=>?_)
 ·obtain⟨ys,_,_,_,_,_,sm,_⟩:=h
  exact SqT.of (sm _ _ hLs)
 ·obtain⟨ys,u2,u3,u4,u5,rfl,sm,hy,py⟩:=h
  obtain⟨ps,hps,hL⟩:=Paired.Cq hlo hx
  obtain⟨t,ws,rfl,ht,hws⟩:=id hL
  have okl:=ok.ok ps (QaD hps)
  have ek:pdL loops i=up (pd1 i ps) ps.length:=CQ hps
  have lws:=QbX hws
  have t0:=Ag hpt (.tup [.int ((0+i:Nat):Int),.ref t])
  refine⟨pt,_,rfl,SqT.of Ac,rfl,_,_,rfl,_,_,rfl,rfl,?_⟩
  have sm0:=sm.trans t0
  have hy0:=t0 _ _ hy
  have py0:=Paired.Bc py λ_ _ (z:Np HH _ _)=>z.tups (Ar.of t0)
  generalize upd HH pt (.tup [.int ((0+i:Nat):Int),.ref t])=HA at sm0 hy0 py0
  simp only[QaU,QaT,Nat.zero_add]
  have hil:=(Qah.mp hps).1
  have lu:=Dt (dI ok) i
  have hhi:=ok.hi
  refine⟨_,rfl,t,rfl,⟨ws,SqT.of (sm0 _ _ ht)⟩,?_⟩
  let J1:YN:=λj σ HJ=>∃(ys:YG) (u4 u5:Option V),σ=[some (.ref pl),some (.ref l),some (.int (i:Int)),some (.ref t),u4,u5]/\Same H HJ/\HJ l=some (.lst ys)/\Paired (Np HJ) ys (up (pdL loops) i++up (pd1 i ps) j)
  refine Ja (xs:=ws) (lo:=1) J1 ⟨ys,_,_,rfl,sm0,hy0,by rw[LQ,QbF];exact py0⟩ (λj σ HJ _ h=>?_) (λj x pt σ HJ hx h hpt=>?_) (fun σ HJ h=>?_)
  ·obtain⟨ys,_,_,_,sj,_⟩:=h
   exact SqT.of (sj _ _ ht)
  ·obtain⟨ys,u4,u5,rfl,sj,hyj,pj⟩:=h
   obtain⟨p,hp,hP⟩:=Paired.Cq hws hx
   have okp:=okl.ok p (QaD hp)
   have ej:pd1 i ps j=BZ i ((1+j:Nat):Int) p:=CQ hp
   have t1:=Ag hpt (.tup [.int ((1+j:Nat):Int),x])
   refine⟨pt,_,rfl,SqT.of Ac,rfl,_,_,rfl,_,_,rfl,rfl,?_⟩
   simp only[QaU,QaT]
   have hjl:=(Qah.mp hp).1
   have lj:=Dt (dJ (lp:=i) okl.ok) j
   have lys:=QbX pj
   rw[QaQ] at lys
   have h12:=okl.hi
   refine⟨_,rfl,.inl ⟨rfl,_,SqL.of (t1 _ _ hyj)⟩,_,rfl,_,rfl,_,rfl,(i:Int),((1+j:Nat):Int),x,p,rfl,hP.tups (Ar.of (sj.trans t1)),okp.spur,λld xs' HB fld hld pdd sB=>?_⟩
   have t2:=t1.trans sB
   have hyB:=t2 _ _ hyj
   have lx:=QbX pdd
   have lpl:=Sx (lp:=i) (a:=((1+j:Nat):Int)) okp
   refine⟨l,ld,_,_,rfl,rfl,hyB,hld,Aw (by omega),?_⟩
   have n0:∀zs,HB l≠some (.tup zs):=λzs z=>by rw[hyB] at z;cases z
   have tt:=Ar.upd (o:=.lst (ys++xs')) n0
   refine⟨ys++xs',_,_,rfl,(sj.trans t2).Br Ai.upd fl,Ac,?_⟩
   rw[Dc,ej,<-Qbh]
   exact Paired.app (Paired.Bc pj λ_ _ z=>(z.tups (Ar.of t2)).tups tt) (Paired.Bc pdd λ_ _ z=>z.tups tt)
  ·obtain⟨ys,u4,u5,rfl,sj,hyj,pj⟩:=h
   exact⟨ys,_,_,_,_,rfl,sj,hyj,by rw[Dc,ek,<-lws];exact pj⟩
 ·obtain⟨ys,u2,u3,u4,u5,rfl,sm,hy,py⟩:=h
  rw[lvs] at py
  exact⟨_,rfl,q l ys HH fl hy py sm⟩
theorem Zg (c:Code K mg "stretches" Kh Hz) (T:Tx K mg op oe):Good P w K mg base "stretches" 1 Hz vf:=by
 refine c.good DP (λvs H Q E h=>?_) (λf cdv A outer s H vs Q E hr h=>?_)
 ·obtain⟨pl,loops,rfl,_⟩:=h
  rfl
 obtain⟨pl,loops,rfl,⟨v0,v2,Ls,vs,hpl,hLs,hlo⟩,ok,q⟩:=h
 refine⟨_,(Af (Ba (i:=1) DP.nd rfl (Or.inl rfl) (BP Ab))
 (Af (Cg QbE rfl (Tf rfl T.enumerate (Bo Cd (pv 0) Ae (λ_ _=>rfl))) (CP rfl (Aq (Ak (i:=2) DP.nd rfl (Or.inr rfl)) (Aq (Ak (i:=3) DP.nd rfl (Or.inl rfl)) Bv)))
 (Af (Bj (BW Qaq Qal Qam Bu (pv 1) (Aa (Bd (Aa (pv 2) (Aa Ae (Aa Ae Ab)))) Ab)))
 (Ah (Cg QbE rfl (MN rfl T.enumerate (pv 3) Ae) (CP rfl (Aq (Ak (i:=4) DP.nd rfl (Or.inr rfl)) (Aq (CP rfl (Aq (Ak (i:=5) DP.nd rfl (Or.inl rfl)) (Aq (Ak (i:=6) DP.nd rfl (Or.inl rfl)) (Aq (Ak (i:=7) DP.nd rfl (Or.inl rfl)) Bv)))) Bv)))
 (Ah (Bj (BW Qaq Qao Qap Fx (pv 1) (Aa (Cv (N':=["number","loop","at"]) rfl (Bp.of (src:=[none,some 2,some 4]) (Aj Kh) ["plan","told","loop","places","at","kind","address","spur"] rfl rfl rfl (by trivial) (by trivial) (by trivial) rfl (by trivial)) (CN rfl T.range (Aa (Bg Ca (Av Bl rfl T.len Cu (Aa (pv 7) Ab)) Ae) Ab)) (λ_ _ _ _=>(Ak (i:=0) (show List.Nodup (["number","loop","at"]:YF) by trivial) rfl (Or.inl rfl))) (λ_ _ _ _=>CW) (λ_ _ _ _=>(Bd (Aa (pv 1) (Aa (pv 2) (Aa (pv 0) Ab)))))) Ab))))))))
 (Ah (Bb (pv 1))))),?_⟩
 show let R0:TS:=_;let R1:TS:=Dg _ _ R0;let R2:TS:=Am _ R1;let R3:TS:=Am (Dg _ _ R2) _;Am _ R3 _ _ _
 intro R0 R1 R2 R3
 generalize hst:L2.start _ _=σ0
 have e0:σ0=[some (.ref pl),none,none,none,none,none,none,none]:=hst.symm
 clear hst
 subst e0
 refine⟨Aw (by show 0<=1000;decide),λl fl=>?_⟩
 simp only[QaU,QaT]
 have s1:=Ag fl (.lst [])
 have lvs:=QbX hlo
 refine⟨_,rfl,pl,_,_,_,rfl,rfl,SqT.of (s1 _ _ hpl),rfl,Ls,rfl,⟨vs,SqT.of (s1 _ _ hLs)⟩,?_⟩
 let J2:YN:=λi σ HH=>∃(ys:YG) (u2 u3 u4 u5 u6 u7:Option V),σ=[some (.ref pl),some (.ref l),u2,u3,u4,u5,u6,u7]/\Same H HH/\HH l=some (.lst ys)/\Paired (Ci HH) ys (up (stL loops) i)
 refine Ja (xs:=vs) (lo:=0) J2 ⟨[],_,_,_,_,_,_,rfl,s1,Ac,.nil⟩ (λi σ HH _ h=>?_) (λi x pt σ HH hx h hpt=>?_) (fun σ HH h=>?_)
 ·obtain⟨ys,_,_,_,_,_,_,_,sm,_⟩:=h
  exact SqT.of (sm _ _ hLs)
 ·obtain⟨ys,u2,u3,u4,u5,u6,u7,rfl,sm,hy,py⟩:=h
  obtain⟨ps,hps,hL⟩:=Paired.Cq hlo hx
  obtain⟨t,ws,rfl,ht,hws⟩:=id hL
  have okl:=ok.ok ps (QaD hps)
  have ek:stL loops i=⟨i,0,0⟩::up (st1 i ps) ps.length:=CQ hps
  have lws:=QbX hws
  have t0:=Ag hpt (.tup [.int ((0+i:Nat):Int),.ref t])
  refine⟨pt,_,rfl,SqT.of Ac,rfl,_,_,rfl,_,_,rfl,rfl,?_⟩
  have sm0:=sm.trans t0
  have hy0:=t0 _ _ hy
  have py0:=Paired.Bc py λ_ _ (z:Ci HH _ _)=>z.tups (Ar.of t0)
  generalize upd HH pt (.tup [.int ((0+i:Nat):Int),.ref t])=HA at sm0 hy0 py0
  simp only[QaU,QaT,Nat.zero_add]
  have hil:=(Qah.mp hps).1
  have lu:=Dt (Vn ok) i
  have hhi:=ok.hi
  have ly0:=QbX py0
  refine⟨_,rfl,.inl ⟨rfl,_,SqL.of hy0⟩,_,rfl,Aw (by show 3<=1000;decide),λtz htz=>?_⟩
  have t3:=Ag htz (.tup [.int (i:Int),.int 0,.int 0])
  refine⟨l,_,_,rfl,rfl,t3 _ _ hy0,Ao (by omega),?_⟩
  have n0:∀zs,(upd HA tz (.tup [.int (i:Int),.int 0,.int 0])) l≠some (.tup zs):=λzs z=>by rw[t3 _ _ hy0] at z;cases z
  have tt:=Ar.upd (o:=.lst (ys++[.ref tz])) n0
  have sm1:Same H (upd (upd HA tz (.tup [.int (i:Int),.int 0,.int 0])) l (.lst (ys++[.ref tz]))):=(sm0.trans t3).Br Ai.upd fl
  have py1:Paired (Ci _) (ys++[.ref tz]) (up (stL loops) i++[⟨(i:Int),0,0⟩]):=Qcs ⟨tz,rfl,tt _ _ Ac⟩ (Paired.Bc py0 λ_ _ z=>(z.tups (Ar.of t3)).tups tt)
  have hy1:(upd (upd HA tz (.tup [.int (i:Int),.int 0,.int 0])) l (.lst (ys++[.ref tz]))) l=some (.lst (ys++[.ref tz])):=Ac
  generalize upd (upd HA tz (.tup [.int (i:Int),.int 0,.int 0])) l (.lst (ys++[.ref tz]))=HB at sm1 py1 hy1
  generalize ys++[.ref tz]=ys1 at py1 hy1
  refine⟨_,rfl,t,rfl,⟨ws,SqT.of (sm1 _ _ ht)⟩,?_⟩
  let J3:YN:=λj σ HJ=>∃(ys:YG) (u4 u5 u6 u7:Option V),σ=[some (.ref pl),some (.ref l),some (.int (i:Int)),some (.ref t),u4,u5,u6,u7]/\Same H HJ/\HJ l=some (.lst ys)/\Paired (Ci HJ) ys (up (stL loops) i++⟨(i:Int),0,0⟩::up (st1 i ps) j)
  refine Ja (xs:=ws) (lo:=1) J3 ⟨ys1,_,_,_,_,rfl,sm1,hy1,by rw[LQ];exact py1⟩ (λj σ HJ _ h=>?_) (λj x pt σ HJ hx h hpt=>?_) (fun σ HJ h=>?_)
  ·obtain⟨ys,_,_,_,_,_,sj,_⟩:=h
   exact SqT.of (sj _ _ ht)
  ·obtain⟨ys,u4,u5,u6,u7,rfl,sj,hyj,pj⟩:=h
   obtain⟨p,hp,hP⟩:=Paired.Cq hws hx
   have okp:=okl.ok p (QaD hp)
   have ej:st1 i ps j=(List.range (p.spur.length+1)).map λn:Nat=>⟨(i:Int),((1+j:Nat):Int),(n:Int)⟩:=CQ hp
   have t1:=Ag hpt (.tup [.int ((1+j:Nat):Int),x])
   obtain⟨tp,ua,wp',rfl,hp1,hp2,hp3⟩:=hP.tups (Ar.of (sj.trans t1))
   refine⟨pt,_,rfl,SqT.of Ac,rfl,_,_,rfl,_,_,rfl,tp,_,rfl,SqT.of hp1,rfl,_,_,rfl,_,_,rfl,_,_,rfl,rfl,rfl,?_⟩
   simp only[QaU,QaT]
   have hjl:=(Qah.mp hp).1
   have lj:=Dt (Vo (lp:=i) okl.ok) j
   have lys:=QbX pj
   rw[QaQ,Qbr] at lys
   have h12:=okl.hi
   have lwp:=QbX hp3
   have hsp:=okp.spur
   refine⟨_,rfl,.inl ⟨rfl,_,SqL.of (t1 _ _ hyj)⟩,_,rfl,ua,_,rfl,.inr (SqT.of hp2),_,_,rfl,rfl,_,rfl,by omega,by omega,λl2 hl2=>?_⟩
   rw[show ((wp'.length:Int)+1).toNat=p.spur.length+1 by omega]
   have sjt:=sj.trans t1
   have hyt:=t1 _ _ hyj
   have pjt:=Paired.Bc pj λ_ _ (z:Ci HJ _ _)=>z.tups (Ar.of t1)
   generalize upd HJ pt (.tup [.int ((1+j:Nat):Int),.ref tp])=HT at sjt hyt pjt hl2
   let J4:YN:=λk σ HC=>∃(u:Option V) (zs:YG),σ=[u,some (.int (i:Int)),some (.int ((1+j:Nat):Int))]/\HC l2=some (.lst zs)/\Same HT HC/\Paired (Ci HC) zs ((List.range k).map λn:Nat=>⟨(i:Int),((1+j:Nat):Int),(n:Int)⟩)
   refine JD J4 ⟨none,[],rfl,Ac,Ag hl2 _,.nil⟩ (λk σ HC hk h=>?_) (fun σ HC h=>?_)
   ·obtain⟨u,zs,rfl,c1,c2,c3⟩:=h
    refine⟨_,rfl,_,rfl,_,rfl,Aw (by show 3<=1000;decide),λtq htq=>?_⟩
    have s3:=Ag htq (.tup [.int (i:Int),.int ((1+j:Nat):Int),.int (0+(k:Int))])
    have c1':=s3 _ _ c1
    have lz:=QbX c3
    rw[QbB,Qbo] at lz
    have n1:∀zs',(upd HC tq (.tup [.int (i:Int),.int ((1+j:Nat):Int),.int (0+(k:Int))])) l2≠some (.tup zs'):=λzs' z=>by rw[c1'] at z;cases z
    have t4:=Ar.upd (o:=.lst (zs++[.ref tq])) n1
    refine⟨_,c1',Ao (by omega),_,zs++[.ref tq],rfl,Ac,(c2.trans s3).Br Ai.upd hl2,?_⟩
    rw[List.range_succ,QbC]
    refine Qcs ⟨tq,rfl,?_⟩ (Paired.Bc c3 λ_ _ z=>(z.tups (Ar.of s3)).tups t4)
    refine t4 _ _ ?_
    rw[Ac,Qco]
   obtain⟨u,zs,rfl,c1,c2,c3⟩:=h
   have lz:=QbX c3
   rw[QbB,Qbo] at lz
   have hyC:=c2 _ _ hyt
   refine⟨l,l2,_,_,rfl,rfl,hyC,c1,Aw (by omega),?_⟩
   have n2:∀zs',HC l≠some (.tup zs'):=λzs' z=>by rw[hyC] at z;cases z
   have t5:=Ar.upd (o:=.lst (ys++zs)) n2
   refine⟨ys++zs,_,_,_,_,rfl,(sjt.trans c2).Br Ai.upd fl,Ac,?_⟩
   rw[Dc,ej,show ∀(a:YV) (x:Sp3) (b c:YV),a++x::(b++c)=(a++x::b)++c from λa x b c=>by simp]
   exact Paired.app (Paired.Bc pjt λ_ _ z=>(z.tups (Ar.of c2)).tups t5) (Paired.Bc c3 λ_ _ z=>z.tups t5)
  ·obtain⟨ys,u4,u5,u6,u7,rfl,sj,hyj,pj⟩:=h
   exact⟨ys,_,_,_,_,_,_,rfl,sj,hyj,by rw[Dc,ek,<-lws];exact pj⟩
 ·obtain⟨ys,u2,u3,u4,u5,u6,u7,rfl,sm,hy,py⟩:=h
  rw[lvs] at py
  exact⟨_,rfl,q l ys HH fl hy py sm⟩
theorem gF (c:Code K mg "openers" Nv KC) (T:Tx K mg op oe):Good P w K mg base "openers" 1 KC vg:=by
 refine c.good Lp (λvs H Q E h=>?_) (λf cdv A outer s H vs Q E hr h=>?_)
 ·obtain⟨pl,loops,rfl,_⟩:=h
  rfl
 obtain⟨pl,loops,rfl,⟨v0,v2,Ls,vs,hpl,hLs,hlo⟩,ok,q⟩:=h
 refine⟨_,(Af (Ba (i:=1) Lp.nd rfl (Or.inl rfl) (BP Ab))
 (Af (Cg QbE rfl (Tf rfl T.enumerate (Bo Cd (pv 0) Ae (λ_ _=>rfl))) (CP rfl (Aq (Ak (i:=2) Lp.nd rfl (Or.inr rfl)) (Aq (Ak (i:=3) Lp.nd rfl (Or.inl rfl)) Bv)))
 (Af (Bj (BW Qaq Qal Qam Bu (pv 1) (Aa (Bd (Aa (pv 2) (Aa Ae Ab))) Ab)))
 (Af (Bj (BW Qaq Qao Qap Fx (pv 1) (Aa (Cv (N':=["at","place","loop"]) rfl (Bp.of (src:=[none,none,some 2]) (Aj Nv) ["plan","told","loop","places"] rfl rfl rfl (by trivial) (by trivial) (by trivial) rfl (by trivial)) (MN rfl T.enumerate (pv 3) Ae) (λ_ _ _ _=>(Hl (K:=K) (n:=2) rfl rfl (Aq (Ak (i:=0) (show List.Nodup (["at","place","loop"]:YF) by trivial) rfl (Or.inl rfl)) (Aq (Ak (i:=1) (show List.Nodup (["at","place","loop"]:YF) by trivial) rfl (Or.inl rfl)) Bv)))) (λ_ _ _ _=>(Kz (Bx (lC (K:=K) rfl hr.units) (pv 1) (QV rfl T.OPENER) (Bs _)))) (λ_ _ _ _=>(Bd (Aa (pv 2) (Aa (pv 0) Ab))))) Ab)))
 (Ah (Bj (BW Qaq Qal Qam Bu (pv 1) (Aa (Bd (Aa (pv 2) (Aa (Bg Ca (Av Bl rfl T.len Cu (Aa (pv 3) Ab)) Ae) Ab))) Ab)))))))
 (Ah (Bb (pv 1))))),?_⟩
 show let R0:TS:=_;let R1:TS:=Am _ R0;let R2:TS:=Am _ R1;let R3:TS:=Am (Dg _ _ R2) _;Am _ R3 _ _ _
 intro R0 R1 R2 R3
 generalize hst:L2.start _ _=σ0
 have e0:σ0=[some (.ref pl),none,none,none]:=hst.symm
 clear hst
 subst e0
 refine⟨Aw (by show 0<=1000;decide),λl fl=>?_⟩
 simp only[QaU,QaT]
 have s1:=Ag fl (.lst [])
 have lvs:=QbX hlo
 refine⟨_,rfl,pl,_,_,_,rfl,rfl,SqT.of (s1 _ _ hpl),rfl,Ls,rfl,⟨vs,SqT.of (s1 _ _ hLs)⟩,?_⟩
 let J5:YN:=λi σ HH=>∃(ys:YG) (u2 u3:Option V),σ=[some (.ref pl),some (.ref l),u2,u3]/\Same H HH/\HH l=some (.lst ys)/\Paired (Ei HH) ys (up (gtL loops) i)
 refine Ja (xs:=vs) (lo:=0) J5 ⟨[],_,_,rfl,s1,Ac,.nil⟩ (λi σ HH _ h=>?_) (λi x pt σ HH hx h hpt=>?_) (fun σ HH h=>?_)
 ·obtain⟨ys,_,_,_,sm,_⟩:=h
  exact SqT.of (sm _ _ hLs)
 ·obtain⟨ys,u2,u3,rfl,sm,hy,py⟩:=h
  obtain⟨ps,hps,hL⟩:=Paired.Cq hlo hx
  obtain⟨t,ws,rfl,ht,hws⟩:=id hL
  have okl:=ok.ok ps (QaD hps)
  have ek:gtL loops i=(⟨i,0⟩::up (gt1 i ps) ps.length)++[⟨(i:Int),(ps.length:Int)+1⟩]:=CQ hps
  have lws:=QbX hws
  have t0:=Ag hpt (.tup [.int ((0+i:Nat):Int),.ref t])
  refine⟨pt,_,rfl,SqT.of Ac,rfl,_,_,rfl,_,_,rfl,rfl,?_⟩
  have sm0:=sm.trans t0
  have hy0:=t0 _ _ hy
  have py0:=Paired.Bc py λ_ _ (z:Ei HH _ _)=>z.tups (Ar.of t0)
  generalize upd HH pt (.tup [.int ((0+i:Nat):Int),.ref t])=HA at sm0 hy0 py0
  simp only[QaU,QaT,Nat.zero_add]
  have hil:=(Qah.mp hps).1
  have lu:=Dt (V2 ok) i
  have hhi:=ok.hi
  have ly0:=QbX py0
  refine⟨_,rfl,.inl ⟨rfl,_,SqL.of hy0⟩,_,rfl,Aw (by show 2<=1000;decide),λtz htz=>?_⟩
  have t3:=Ag htz (.tup [.int (i:Int),.int 0])
  refine⟨l,_,_,rfl,rfl,t3 _ _ hy0,Ao (by omega),?_⟩
  have n0:∀zs,(upd HA tz (.tup [.int (i:Int),.int 0])) l≠some (.tup zs):=λzs z=>by rw[t3 _ _ hy0] at z;cases z
  have tt:=Ar.upd (o:=.lst (ys++[.ref tz])) n0
  have sm1:Same H (upd (upd HA tz (.tup [.int (i:Int),.int 0])) l (.lst (ys++[.ref tz]))):=(sm0.trans t3).Br Ai.upd fl
  have py1:Paired (Ei _) (ys++[.ref tz]) (up (gtL loops) i++[⟨(i:Int),0⟩]):=Qcs ⟨tz,rfl,tt _ _ Ac⟩ (Paired.Bc py0 λ_ _ z=>(z.tups (Ar.of t3)).tups tt)
  have hy1:(upd (upd HA tz (.tup [.int (i:Int),.int 0])) l (.lst (ys++[.ref tz]))) l=some (.lst (ys++[.ref tz])):=Ac
  generalize upd (upd HA tz (.tup [.int (i:Int),.int 0])) l (.lst (ys++[.ref tz]))=HB at sm1 py1 hy1
  generalize ys++[.ref tz]=ys1 at py1 hy1
  have ly1:=QbX py1
  rw[QaQ] at ly1
  have ly1:ys1.length<=14*i+1:=by rw[ly1];show _+1<=_;omega
  refine⟨_,rfl,.inl ⟨rfl,_,SqL.of hy1⟩,_,rfl,t,rfl,⟨ws,SqT.of (sm1 _ _ ht)⟩,λl2 hl2=>?_⟩
  let J6:YN:=λk σ HC=>∃(u v:Option V) (zs:YG),σ=[u,v,some (.int (i:Int))]/\HC l2=some (.lst zs)/\Same HB HC/\Paired (Ei HC) zs (up (gt1 i ps) k)
  refine nQ (xs:=ws) (lo:=1) J6 ⟨none,none,[],rfl,Ac,Ag hl2 _,.nil⟩ (λk σ HC _ h=>?_) (λk x pt σ HC hx h hpt=>?_) (fun σ HC h=>?_)
  ·obtain⟨_,_,zs,_,_,sc,_⟩:=h
   exact SqT.of (sc _ _ (sm1 _ _ ht))
  ·obtain⟨u,v,zs,rfl,c1,c2,c3⟩:=h
   obtain⟨p,hp,hP⟩:=Paired.Cq hws hx
   have okp:=okl.ok p (QaD hp)
   have ej:gt1 i ps k=if V.str p.kind=V.str "opener" then [⟨(i:Int),((1+k:Nat):Int)⟩] else []:=CQ hp
   have hkl:=(Qah.mp hp).1
   have h12:=okl.hi
   have lk:=Dt (RD (lp:=i) (ps:=ps)) k
   have lz:=QbX c3
   have t1:=Ag hpt (.tup [.int ((1+k:Nat):Int),x])
   have hpa:=hP.tups (Ar.of ((sm1.trans c2).trans t1))
   refine⟨pt,_,rfl,SqT.of Ac,rfl,_,_,rfl,_,_,rfl,rfl,?_⟩
   refine⟨_,rfl,MJ p,opD,hpa.rep,.tup (T.opT _) (.cons (.str _) (.cons (.int _) (.cons (.tup (T.opE _) .nil) .nil))),QS okp,(by trivial),_,rfl,?_⟩
   rw[Wo okp]
   by_cases ck:V.str p.kind=V.str "opener"
   ·rw[QbS ck]
    rw[if_pos ck] at ej
    refine BK ⟨_,rfl,_,rfl,Aw (by show 2<=1000;decide),λtq htq=>?_⟩
    have s3:=Ag htq (.tup [.int (i:Int),.int ((1+k:Nat):Int)])
    have t13:=t1.trans s3
    have c1':=t13 _ _ c1
    have n1:∀zs',(upd (upd HC pt (.tup [.int ((1+k:Nat):Int),x])) tq (.tup [.int (i:Int),.int ((1+k:Nat):Int)])) l2≠some (.tup zs'):=λzs' z=>by rw[c1'] at z;cases z
    have t4:=Ar.upd (o:=.lst (zs++[.ref tq])) n1
    refine⟨_,c1',Ao (by omega),_,_,zs++[.ref tq],rfl,Ac,(c2.trans t13).Br Ai.upd hl2,?_⟩
    rw[Dc,ej]
    exact Qcs ⟨tq,rfl,t4 _ _ Ac⟩ (Paired.Bc c3 λ_ _ z=>(z.tups (Ar.of t13)).tups t4)
   ·rw[QbG ck]
    rw[if_neg ck] at ej
    refine Cm ⟨_,_,zs,rfl,t1 _ _ c1,c2.trans t1,?_⟩
    rw[Dc,ej,QbF]
    exact Paired.Bc c3 λ_ _ z=>z.tups (Ar.of t1)
  obtain⟨u,v,zs,rfl,c1,c2,c3⟩:=h
  have lz:=QbX c3
  have lk:=Dt (RD (lp:=i) (ps:=ps)) ws.length
  have h12:=okl.hi
  have hyC:=c2 _ _ hy1
  refine⟨l,l2,_,_,rfl,rfl,hyC,c1,Aw (by omega),?_⟩
  have n2:∀zs',HC l≠some (.tup zs'):=λzs' z=>by rw[hyC] at z;cases z
  have t5:=Ar.upd (o:=.lst (ys1++zs)) n2
  have sm2:Same H (upd HC l (.lst (ys1++zs))):=(sm1.trans c2).Br Ai.upd fl
  have py2:Paired (Ei _) (ys1++zs) ((up (gtL loops) i++[⟨(i:Int),0⟩])++up (gt1 i ps) ws.length):=Paired.app (Paired.Bc py1 λ_ _ z=>(z.tups (Ar.of c2)).tups t5) (Paired.Bc c3 λ_ _ z=>z.tups t5)
  have hy2:(upd HC l (.lst (ys1++zs))) l=some (.lst (ys1++zs)):=Ac
  have ly2:(ys1++zs).length<=100:=by rw[QaQ];omega
  generalize upd HC l (.lst (ys1++zs))=HD at sm2 py2 hy2
  generalize ys1++zs=ys2 at py2 hy2 ly2
  refine⟨_,rfl,.inl ⟨rfl,_,SqL.of hy2⟩,_,rfl,_,rfl,t,_,rfl,.inr (SqT.of (sm2 _ _ ht)),_,_,rfl,rfl,Aw (by show 2<=1000;decide),λte hte=>?_⟩
  have t6:=Ag hte (.tup [.int (i:Int),.int ((ws.length:Int)+1)])
  have hy3:=t6 _ _ hy2
  refine⟨l,_,_,rfl,rfl,hy3,Ao (by omega),?_⟩
  have n3:∀zs',(upd HD te (.tup [.int (i:Int),.int ((ws.length:Int)+1)])) l≠some (.tup zs'):=λzs' z=>by rw[hy3] at z;cases z
  have t7:=Ar.upd (o:=.lst (ys2++[.ref te])) n3
  refine⟨ys2++[.ref te],_,_,rfl,(sm2.trans t6).Br Ai.upd fl,Ac,?_⟩
  rw[Dc,ek,<-lws,show ∀(a:List Gt) (x:Gt) (b c:List Gt),a++(x::b++c)=(a++[x]++b)++c from λa x b c=>by simp]
  exact Qcs ⟨te,rfl,t7 _ _ Ac⟩ (Paired.Bc py2 λ_ _ z=>(z.tups (Ar.of t6)).tups t7)
 ·obtain⟨ys,u2,u3,rfl,sm,hy,py⟩:=h
  rw[lvs] at py
  exact⟨_,rfl,q l ys HH fl hy py sm⟩
end
abbrev Vu:Stmt:=top 42
abbrev OD:YF:=["plan","loop"]
theorem Ph:Az ["plan","loop","told","at","place"] OD (Aj Vu):=⟨rfl,rfl,rfl,by trivial,rfl,by trivial,by trivial⟩
def stP (lp:Int) (ps:List Place):Nat->List (YV)×YV
 | 0=>([],[])
 | i+1=>match ps[i]? with
  | none=>stP lp ps i
  | some p=>if V.str p.kind=V.str "opener" then ((stP lp ps i).1++[(stP lp ps i).2],[]) else ((stP lp ps i).1,(stP lp ps i).2++(BZ lp ((1+i:Nat):Int) p).map Sd.spot)
theorem Ug {lp:Int} {ps:List Place} {i:Nat} {p:Place} (h:ps[i]?=some p) (k:V.str p.kind=V.str "opener"):stP lp ps (i+1)=((stP lp ps i).1++[(stP lp ps i).2],[]):=by
 show (match ps[i]? with | none=>stP lp ps i | some p=>if V.str p.kind=V.str "opener" then ((stP lp ps i).1++[(stP lp ps i).2],[]) else ((stP lp ps i).1,(stP lp ps i).2++(BZ lp ((1+i:Nat):Int) p).map Sd.spot))=_
 rw[h]
 exact if_pos k
theorem Rn {lp:Int} {ps:List Place} {i:Nat} {p:Place} (h:ps[i]?=some p) (k:¬V.str p.kind=V.str "opener"):stP lp ps (i+1)=((stP lp ps i).1,(stP lp ps i).2++(BZ lp ((1+i:Nat):Int) p).map Sd.spot):=by
 show (match ps[i]? with | none=>stP lp ps i | some p=>if V.str p.kind=V.str "opener" then ((stP lp ps i).1++[(stP lp ps i).2],[]) else ((stP lp ps i).1,(stP lp ps i).2++(BZ lp ((1+i:Nat):Int) p).map Sd.spot))=_
 rw[h]
 exact if_neg k
theorem Oj {α β : Type} {F G:α->β->Prop}:∀{l₁ : List α} {l₂ : List β},Paired F l₁ l₂->(∀a∈l₁,∀b,F a b->G a b)->Paired G l₁ l₂
 | _,_,.nil,_=>.nil
 | _,_,.cons r t,f=>.cons (f _ QaR _ r) (Oj t λa ha b=>f a (QaE _ ha) b)
theorem Us {α β : Type} {F:α->β->Prop}:∀{l₁ : List α} {l₂ : List β} {a:α},Paired F l₁ l₂->a∈l₁->∃b,F a b
 | _,_,_,.nil,h=>by cases h
 | _,_,_,.cons r t,h=>by
  rcases QbY.mp h with rfl | h
  ·exact⟨_,r⟩
  ·exact Us t h
theorem Qp {α β : Type} {F:α->β->Prop}:∀{a₁ b₁ : List α} {a₂ b₂ : List β},Paired F a₁ a₂->Paired F b₁ b₂->Paired F (a₁++b₁) (a₂++b₂)
 | _,_,_,_,.nil,t=>t
 | _,_,_,_,.cons r s,t=>.cons r (Qp s t)
def Lb (H:Hp) (v:V) (sp:YV):Prop:=∃q ys,v=.ref q/\H q=some (.lst ys)/\Paired (Ci H) ys sp
def cX:Sp:=λvs H Q _=>∃(pl Ls t:Addr) (v0 v2:V) (ls ws:YG) (k:Nat) (ps:List Place),vs=[.ref pl,.int (k:Int)]/\H pl=some (.tup [v0,.ref Ls,v2])/\H Ls=some (.tup ls)/\ls[k]?=some (.ref t)/\H t=some (.tup ws)/\Paired (Dr H) ws ps/\(∀p∈ps,OkP p)/\ps.length<=12 /\
 ∀l xs H',H l=none->H' l=some (.lst xs)->Paired (Lb H') xs ((stP k ps ps.length).1++[(stP k ps ps.length).2])->(∀x∈xs,∃q,x=.ref q/\H q=none/\q≠l)->Same H H'->Q (.ref l) H'
section
variable {P:Program} {w:World} {K:YD} {mg:YB} {base:Heap} {op oe:Addr}
theorem qz (c:Code K mg "parts" Vu OD) (T:Tx K mg op oe) (JC:Good P w K mg base "place_devices" 1 Eb pF):Good P w K mg base "parts" 2 OD cX:=by
 refine c.good Ph (λvs H Q E h=>?_) (λf cdv A outer s H vs Q E hr h=>?_)
 ·obtain⟨pl,Ls,t,v0,v2,ls,ws,k,ps,rfl,_⟩:=h
  rfl
 obtain⟨pl,Ls,t,v0,v2,ls,ws,k,ps,rfl,hpl,hLs,hk,ht,hps,hok,h12,q⟩:=h
 refine⟨_,(Af (Ba (i:=2) Ph.nd rfl (Or.inl rfl) (BP (Aa (BP Ab) Ab)))
 (Af (Cg QbE rfl (MN rfl T.enumerate (Bo Cd (Bo Cd (pv 0) Ae (λ_ _=>rfl)) (pv 1) (λ_ _=>rfl)) Ae) (CP rfl (Aq (Ak (i:=3) Ph.nd rfl (Or.inl rfl)) (Aq (Ak (i:=4) Ph.nd rfl (Or.inl rfl)) Bv)))
 (Ah (Ce (Bx (lC (K:=K) rfl hr.units) (pv 4) (QV rfl T.OPENER) (Bs _)) (Ah (Bj (BW Qaq Qal Qam Bu (pv 2) (Aa (BP Ab) Ab)))) (Ah (Bj (BW Qaq Qao Qap Fx (Bo CV (pv 2) (Px Mq Ae) (λ_ _=>rfl)) (Aa (Cv (N':=["spot","kind","address"]) rfl (Bp.plain rfl (by trivial) (by trivial) (by trivial)) (Ep (Ay JC hr (Aa (pv 1) (Aa (pv 3) (Aa (pv 4) Ab))))) (λ_ _ _ _=>(Hl (K:=K) (n:=3) rfl rfl (Aq (Ak (i:=0) (show List.Nodup (["spot","kind","address"]:YF) by trivial) rfl (Or.inl rfl)) (Aq (Ak (i:=1) (show List.Nodup (["spot","kind","address"]:YF) by trivial) rfl (Or.inl rfl)) (Aq (Ak (i:=2) (show List.Nodup (["spot","kind","address"]:YF) by trivial) rfl (Or.inl rfl)) Bv))))) (λ_ _ _ _=>CW) (λ_ _ _ _=>(pv 0))) Ab)))))))
 (Ah (Bb (pv 2))))),?_⟩
 show let R0:TS:=_;let R1:TS:=_;let R2:TS:=Gp _ R0 R1;let R3:TS:=Am (Dg _ _ R2) _;Am _ R3 _ _ _
 intro R0 R1 R2 R3
 generalize hst:L2.start _ _=σ0
 have e0:σ0=[some (.ref pl),some (.int (k:Int)),none,none,none]:=hst.symm
 clear hst
 subst e0
 refine⟨(by show 0<=sizeLine;decide),λq0 hq0=>⟨(by show 1<=sizeLine;decide),λl hl=>?_⟩⟩
 have s1:=Ag hq0 (.lst [])
 have s2:=Ag hl (.lst [.ref q0])
 have sm:=s1.trans s2
 have hl0:=s1.free hl
 have el:_=some (HO.lst [.ref q0]):=Ac (H:=upd H q0 (.lst [])) (a:=l) (o:=.lst [.ref q0])
 have eq0:_=some (HO.lst []):=s2 _ _ (Ac (H:=H) (a:=q0) (o:=.lst []))
 have nq:q0≠l:=Ax (Ac (H:=H) (a:=q0) (o:=.lst [])) hl
 generalize hX:upd (upd H q0 (.lst [])) l (.lst [.ref q0])=H1 at sm el eq0
 simp only[QaU,QaT]
 have FI:ws.length=ps.length:=QbX hps
 refine⟨_,rfl,pl,_,_,_,rfl,rfl,SqT.of (sm _ _ hpl),rfl,_,rfl,Ls,_,_,_,rfl,rfl,SqT.of (sm _ _ hLs),Ec hk,t,rfl,⟨ws,SqT.of (sm _ _ ht)⟩,?_⟩
 let J0:YN:=λi σ HH=>∃qs ql u3 u4,σ=[some (.ref pl),some (.int (k:Int)),some (.ref l),u3,u4]/\Same H HH/\HH l=some (.lst (qs++[.ref ql]))/\Paired (Lb HH) qs (stP k ps i).1/\Lb HH (.ref ql) (stP k ps i).2/\(∀x∈qs,∃q,x=.ref q/\H q=none/\q≠l/\q≠ql)/\H ql=none/\ql≠l/\qs.length<=i/\(stP k ps i).2.length<=4*i
 refine Ja (xs:=ws) (lo:=1) J0
  ⟨[],q0,_,_,rfl,sm,el,.nil,⟨q0,[],rfl,eq0,.nil⟩,λx hx=>(by cases hx),hq0,nq,Qcq _,Qcq _⟩ (λi σ HH _ h=>?_) (λi x pt σ HH hx h hpt=>?_) (fun σ HH h=>?_)
 ·obtain⟨qs,ql,_,_,_,sb,_⟩:=h
  exact SqT.of (sb _ _ ht)
 ·obtain⟨qs,ql,u3,u4,rfl,sb,hy,pd,pc,fq,fl,nl,lq,lc⟩:=h
  obtain⟨p,hpi,hpa⟩:=Paired.Cq hps hx
  have okp:=hok p (QaD hpi)
  have hpa:=hpa.tups (Ar.of sb)
  have t0:=Ag hpt (.tup [.int ((1+i:Nat):Int),x])
  have tV:=hpa.tups (Ar.of t0)
  have il:i < ps.length:=(Qah.mp hpi).1
  have sb0:=sb.trans t0
  have hy0:=t0 _ _ hy
  have pd0:=Paired.Bc pd λ_ _ (z:Lb HH _ _)=>(show Lb (upd HH pt (.tup [.int ((1+i:Nat):Int),x])) _ _ from let ⟨a,ys,e1,e2,e3⟩:=z;⟨a,ys,e1,t0 _ _ e2,Paired.Bc e3 λ_ _ y=>y.tups (Ar.of t0)⟩)
  have pc0:Lb (upd HH pt (.tup [.int ((1+i:Nat):Int),x])) (.ref ql) (stP k ps i).2:=let ⟨a,ys,e1,e2,e3⟩:=pc;⟨a,ys,e1,t0 _ _ e2,Paired.Bc e3 λ_ _ y=>y.tups (Ar.of t0)⟩
  refine⟨pt,_,rfl,SqT.of Ac,rfl,_,_,rfl,_,_,rfl,rfl,?_⟩
  generalize upd HH pt (.tup [.int ((1+i:Nat):Int),x])=HA at tV sb0 hy0 pd0 pc0
  simp only[QaU,QaT]
  refine⟨_,rfl,MJ p,opD,tV.rep,.tup (T.opT HA) (.cons (.str _) (.cons (.int _) (.cons (.tup (T.opE HA) .nil) .nil))),QS okp,(by trivial),_,rfl,?_⟩
  rw[Wo okp]
  by_cases ck:V.str p.kind=V.str "opener"
  ·rw[QbS ck]
   refine BK ⟨_,rfl,.inl ⟨rfl,_,SqL.of hy0⟩,(by show 0<=sizeLine;decide),λqn hqn=>?_⟩
   have t1:=Ag hqn (.lst [])
   refine⟨l,_,_,rfl,rfl,t1 _ _ hy0,Ao (by rw[QaQ];simp only[QaB];omega),?_⟩
   have nln:l≠qn:=Ax hy0 hqn
   have sS:Ai l HA (upd (upd HA qn (.lst [])) l (.lst (qs++[.ref ql]++[.ref qn]))):=(Ai.of t1).trans Ai.upd
   have eqn:(upd (upd HA qn (.lst [])) l (.lst (qs++[.ref ql]++[.ref qn]))) qn=some (.lst []):=by rw[Al nln.symm,Ac]
   have ell:(upd (upd HA qn (.lst [])) l (.lst (qs++[.ref ql]++[.ref qn]))) l=some (.lst (qs++[.ref ql]++[.ref qn])):=Ac
   have nlt:∀zs,HA l≠some (.tup zs):=λzs z=>by rw[hy0] at z;cases z
   generalize upd (upd HA qn (.lst [])) l (.lst (qs++[.ref ql]++[.ref qn]))=HB at sS eqn ell
   have keep:∀v sp,Lb HA v sp->v≠.ref l->Lb HB v sp:=λv sp z n=>by
    obtain⟨a,ys,e1,e2,e3⟩:=z
    exact⟨a,ys,e1,sS _ _ e2 (λw=>n (by rw[e1,w])),Paired.Bc e3 λ_ _ y=>y.tups (sS.tup nlt)⟩
   have fqn:=sb0.free hqn
   refine⟨qs++[.ref ql],qn,_,_,rfl,sb0.Br sS hl0,ell,?_,⟨qn,[],rfl,eqn,?_⟩,λy hy'=>?_,fqn,nln.symm,by rw[QaQ];simp only[QaB];omega,?_⟩
   ·rw[Ug hpi ck]
    refine Qcs (keep _ _ pc0 λz=>nl (by injection z)) ?_
    exact Oj pd0 λy hy' sp z=>keep _ _ z λw=>by
     obtain⟨a,e,_,n,_⟩:=fq y hy'
     rw[e] at w
     injection w with w
     exact n w
   ·rw[Ug hpi ck];exact .nil
   ·rcases QbD.mp hy' with z | z
    ·obtain⟨a,e,f1,n1,n2⟩:=fq y z
     have hm:y∈qs:=z
     refine⟨a,e,f1,n1,λw=>?_⟩
     obtain⟨sp,Iq⟩:=Us pd0 hm
     obtain⟨a',ys,e1,e2,_⟩:=Iq
     rw[e] at e1
     injection e1 with e1
     rw[<-e1,w,hqn] at e2
     cases e2
    ·have hz:y=.ref ql:=by simpa using z
     refine⟨ql,hz,fl,nl,λw=>?_⟩
     obtain⟨a',ys,e1,e2,_⟩:=pc0
     injection e1 with e1
     rw[<-e1,w,hqn] at e2
     cases e2
   ·rw[Ug hpi ck];exact Qcr _
  ·rw[QbG ck]
   obtain⟨a,yc,ea,eyc,pcs⟩:=id pc0
   injection ea with ea
   subst ea
   refine Cm ⟨_,rfl,_,rfl,l,_,_,_,rfl,rfl,SqL.of hy0,aL qs (.ref ql),.inl ⟨rfl,_,SqL.of eyc⟩,?_⟩
   refine⟨_,rfl,_,rfl,_,rfl,(k:Int),((1+i:Nat):Int),x,p,rfl,tV,okp.spur,λld xs' HB fld hld pdd sB=>⟨ld,rfl,⟨xs',SqL.of hld⟩,λl2 hl2=>?_⟩⟩
   have lsd:(BZ k ((1+i:Nat):Int) p).length<=4:=by
    unfold BZ
    rw[if_neg ck,Qbr,Lk]
    have:=okp.spur
    omega
   have lx:xs'.length<=4:=by rw[QbX pdd];exact lsd
   let J1:YN:=λj σ HH2=>∃u v w ys,σ=[u,v,w]/\HH2=upd HB l2 (.lst ys)/\ys.length<=j/\Paired (Ci HB) ys (((BZ k ((1+i:Nat):Int) p).take j).map Sd.spot)
   refine Jj (xs:=xs') J1 ⟨none,none,none,[],rfl,rfl,Qcq _,.nil⟩ (λj σ HH2 _ h=>?_) (λj y σ HH2 hyj h=>?_) (fun σ HH2 h=>?_)
   ·obtain⟨u,v,w,ys,rfl,rfl,_⟩:=h
    exact SqL.of (Ag hl2 _ _ _ hld)
   ·obtain⟨u,v,w,ys,rfl,rfl,lys,pys⟩:=h
    obtain⟨d,hdj,td,ud,rfl,e1,e2⟩:=Paired.Cq pdd hyj
    have jl:=(Qah.mp hyj).1
    refine⟨td,_,rfl,SqT.of (Ag hl2 _ _ _ e1),rfl,_,_,rfl,_,_,rfl,_,_,rfl,rfl,_,rfl,ys,Ac,Ao (by omega),_,_,_,ys++[.ref ud],rfl,Rj,by rw[QaQ];simp only[QaB];omega,?_⟩
    rw[List.take_succ,hdj,QbC]
    exact Qcs ⟨ud,rfl,e2⟩ pys
   ·obtain⟨u,v,w,ys,rfl,rfl,lys,pys⟩:=h
    rw[QbX pdd,Qbt] at pys
    have t2:=Ag hl2 (.lst ys)
    have s02:=sB.trans t2
    have nq2:ql≠l2:=Ax (sB _ _ eyc) hl2
    have lyc:yc.length<=4*i:=by rw[QbX pcs];exact lc
    refine⟨ql,l2,_,_,rfl,rfl,s02 _ _ eyc,Ac,Aw (by omega),?_⟩
    have sS:Ai ql HA (upd (upd HB l2 (.lst ys)) ql (.lst (yc++ys))):=(Ai.of s02).trans Ai.upd
    have eql:(upd (upd HB l2 (.lst ys)) ql (.lst (yc++ys))) ql=some (.lst (yc++ys)):=Ac
    have nqt:∀zs,(upd HB l2 (.lst ys)) ql≠some (.tup zs):=λzs z=>by rw[s02 _ _ eyc] at z;cases z
    have tE:Ar HB (upd (upd HB l2 (.lst ys)) ql (.lst (yc++ys))):=(Ar.of t2).trans (Ar.upd nqt)
    have nqa:∀zs,HA ql≠some (.tup zs):=λzs z=>by rw[eyc] at z;cases z
    generalize upd (upd HB l2 (.lst ys)) ql (.lst (yc++ys))=HC at sS eql tE
    refine⟨qs,ql,_,_,rfl,sb0.Br sS fl,sS _ _ hy0 nl.symm,?_,⟨ql,yc++ys,rfl,eql,?_⟩,fq,fl,nl,by omega,?_⟩
    ·rw[Rn hpi ck]
     exact Oj pd0 λy hy' sp z=>by
      obtain⟨a',ys',e1,e2,e3⟩:=z
      obtain⟨b',f1,_,_,f4⟩:=fq y hy'
      refine⟨a',ys',e1,sS _ _ e2 (λw=>f4 ?_),Paired.Bc e3 λ_ _ y=>y.tups (sS.tup nqa)⟩
      rw[e1] at f1
      injection f1 with f1
      rw[<-f1,w]
    ·rw[Rn hpi ck]
     exact Qp (Paired.Bc pcs λ_ _ y=>y.tups (sS.tup nqa)) (Paired.Bc pys λ_ _ y=>y.tups tE)
    ·rw[Rn hpi ck,QaQ,QbB]
     omega
 ·obtain⟨qs,ql,u3,u4,rfl,sb,hy,pd,pc,fq,fl,nl,_⟩:=h
  rw[FI] at pd pc
  refine⟨_,rfl,q l _ HH hl0 hy (Qcs pc pd) (λx hx=>?_) sb⟩
  rcases QbD.mp hx with z | z
  ·obtain⟨a,e,n,m,_⟩:=fq x z
   exact⟨a,e,n,m⟩
  ·have:x=.ref ql:=by simpa using z
   exact⟨ql,this,fl,nl⟩
end
abbrev Lx:Stmt:=top 18
abbrev Fv:YF:=["thing"]
theorem bf:Az ["thing"] Fv (Aj Lx):=⟨rfl,rfl,rfl,by trivial,rfl,by trivial,by trivial⟩
abbrev N8:Stmt:=top 19
abbrev Eo:YF:=["thing","low","high"]
theorem Yo:Az ["thing","low","high"] Eo (Aj N8):=⟨rfl,rfl,rfl,by trivial,rfl,by trivial,by trivial⟩
abbrev Tc:Stmt:=top 20
abbrev Dn:YF:=["thing","least","most"]
theorem j6:Az ["thing","least","most"] Dn (Aj Tc):=⟨rfl,rfl,rfl,by trivial,rfl,by trivial,by trivial⟩
abbrev Mt:Stmt:=top 21
abbrev Gd:YF:=["thing","many"]
theorem Xh:Az ["thing","many"] Gd (Aj Mt):=⟨rfl,rfl,rfl,by trivial,rfl,by trivial,by trivial⟩
theorem PN {b:Bool} {A B:Prop} (h1:b=true->A) (h2:b=false->B):if b=true then A else B:=by
 cases b with
 | true=>exact BK (h1 rfl)
 | false=>exact Cm (h2 rfl)
theorem A2 {i:Nat} {v:V} {σ : St} {H:Hp} {Q:YO} (h:Q (σ.set i (some v)) H):Hr i v σ H Q:=h
theorem QB {I R:TS} {D:Ends} {σ : St} {H:Hp} (P:YO) (hR:∀ σ' H',P σ' H'->R D σ' H') (hI:∀D':Ends,(∀ σ' H',P σ' H'->D'.nx σ' H')->I D' σ H):Am I R D σ H:=hI { D with nx:=fun σ H=>R D σ H } hR
def iv (xs:List Int):YG:=xs.map V.int
def spW:Sp:=λvs H Q _=>∃i:Int,vs=[.int i]/\Q (.bl true) H
def Mr:Sp:=λvs H Q _=>∃x lo hi:Int,vs=[.int x,.int lo,.int hi]/\Q (.bl (decide (lo<=x/\x<=hi))) H
def zA:Sp:=λvs H Q _=>∃v,vs=[v]/\Kn H v/\Q (.bl (isW v)) H
def Td (o:Option (YG)) (a b:Int):Bool:=match o with
 | some xs=>decide (a<=xs.length)&&decide ((xs.length:Int)<=b)
 | none=>false
def G6:Sp:=λvs H Q _=>∃v a b,vs=[v,.int a,.int b]/\Kn H v/\Q (.bl (Td (Fp H v) a b)) H
structure Th (H:Hp) (v:V):Prop where
 kn:Kn H v
 parts:∀xs,Fp H v=some xs->xs.length<=100/\∀y∈xs,Kn H y
def Jd (o:Option (YG)) (n:Int):Bool:=match o with
 | some xs=>Td (some xs) n n&&xs.all isW
 | none=>false
theorem Jk {xs:YG} {n:Int}:Jd (some xs) n=(Td (some xs) n n&&xs.all isW):=rfl
def Qz:Sp:=λvs H Q _=>∃v n,vs=[v,.int n]/\Th H v/\∀H',Same H H'->Q (.bl (Jd (Fp H v) n)) H'
theorem O5 {v:V} (h:isW v=true):∃i,v=.int i:=by
 cases v with
 | int i=>exact⟨i,rfl⟩
 | _=>cases h
theorem yd {P:Program} {w:World} {K:YD} {mg:YB} {base:Heap} {x:Str} {k:Nat} {ps:YF} {sp sp':Sp} (g:Good P w K mg base x k ps sp) (h:∀vs H Q E,sp' vs H Q E->sp vs H Q E):Good P w K mg base x k ps sp':=⟨let ⟨f,fd,a,b,c,F⟩:=g.ex;⟨f,fd,a,b,c,F.imp h⟩⟩
section
variable {P:Program} {w:World} {K:YD} {mg:YB} {base:Heap}
theorem Q0 (c:Code K mg "is_whole" Lx Fv) (T:Nm mg):Good P w K mg base "is_whole" 1 Fv zA:=by
 refine c.good bf (λvs H Q E h=>?_) (λf cdv A outer s H vs Q E hr h=>?_)
 ·obtain⟨v,rfl,_⟩:=h
  rfl
 obtain⟨v,rfl,k,q⟩:=h
 refine⟨_,(Ah (Bb (Dv (Av Nk rfl T.isinstance Bq (Aa (pv 0) (Aa (Mf (v:=.ty "int") rfl T.int aJ rfl) Ab))) (Dj (zR (Av Nk rfl T.isinstance Bq (Aa (pv 0) (Aa (Mf (v:=.ty "bool") rfl T.bool eV rfl) Ab)))))))),?_⟩
 refine⟨_,rfl,xU k ⟨_,rfl,?_⟩⟩
 rw[AO] at q
 cases e:isI v with
 | false=>rw[e] at q;exact Cm q
 | true=>rw[e] at q;exact BK ⟨_,rfl,ZJ e ⟨_,rfl,q⟩⟩
theorem bA (c:Code K mg "is_whole" Lx Fv) (T:Nm mg):Good P w K mg base "is_whole" 1 Fv spW:=yd (Q0 c T) λvs H Q E h=>let ⟨i,e,q⟩:=h;⟨.int i,e,True.intro,q⟩
theorem Zh (c:Code K mg "is_within" N8 Eo) (T:Nm mg) (Qc:Good P w K mg base "is_whole" 1 Fv spW):Good P w K mg base "is_within" 2 Eo Mr:=by
 refine c.good Yo (λvs H Q E h=>?_) (λf cdv A outer s H vs Q E hr h=>?_)
 ·obtain⟨x,lo,hi,rfl,_⟩:=h
  rfl
 obtain⟨x,lo,hi,rfl,q⟩:=h
 refine⟨_,(Ah (Bb (Dv (Ay Qc hr (Aa (pv 0) Ab)) (Dj (Py NP NP (pv 1) (pv 0) (pv 2)))))),?_⟩
 refine⟨_,rfl,x,rfl,_,rfl,BK ⟨_,rfl,_,rfl,_,_,rfl,rfl,_,rfl,?_⟩⟩
 by_cases h1:lo<=x
 ·rw[QbS h1]
  refine BK ⟨_,rfl,_,_,rfl,rfl,?_⟩
  by_cases h2:x<=hi
  ·rw[QbS ⟨h1,h2⟩] at q
   show Q (.bl (decide (x<=hi))) H
   rw[QbS h2]
   exact q
  ·rw[QbG (λz=>h2 z.2)] at q
   show Q (.bl (decide (x<=hi))) H
   rw[QbG h2]
   exact q
 ·rw[QbG (λz=>h1 z.1)] at q
  rw[QbG h1]
  exact Cm q
theorem lH (c:Code K mg "is_row" Tc Dn) (T:Nm mg):Good P w K mg base "is_row" 1 Dn G6:=by
 refine c.good j6 (λvs H Q E h=>?_) (λf cdv A outer s H vs Q E hr h=>?_)
 ·obtain⟨v,a,b,rfl,_⟩:=h
  rfl
 obtain⟨v,a,b,rfl,k,q⟩:=h
 refine⟨_,(Ah (Bb (Dv (Av Nk rfl T.isinstance Bq (Aa (pv 0) (Aa (Mf (v:=.ty "tuple") rfl T.tuple Ka rfl) Ab))) (Dj (Py NP NP (pv 1) (Av Bl rfl T.len Cu (Aa (pv 0) Ab)) (pv 2)))))),?_⟩
 refine⟨_,rfl,mj k ⟨_,rfl,?_⟩⟩
 cases e:Fp H v with
 | none=>rw[e] at q;exact Cm q
 | some xs=>
  rw[e] at q
  obtain⟨p,rfl,hp⟩:=PB e
  refine BK ⟨_,rfl,_,rfl,p,xs,rfl,.inr (SqT.of hp),_,_,rfl,rfl,_,rfl,?_⟩
  by_cases h1:a<=(xs.length:Int)
  ·rw[QbS h1]
   refine BK ⟨_,rfl,_,_,rfl,rfl,?_⟩
   simpa [Td,h1] using q
  ·rw[QbG h1]
   refine Cm ?_
   simpa [Td,h1] using q
theorem Xj (c:Code K mg "are_wholes" Mt Gd) (T:Nm mg) (Qc:Good P w K mg base "is_whole" 1 Fv zA) (Ck:Good P w K mg base "is_row" 1 Dn G6):Good P w K mg base "are_wholes" 2 Gd Qz:=by
 refine c.good Xh (λvs H Q E h=>?_) (λf cdv A outer s H vs Q E hr h=>?_)
 ·obtain⟨v,n,rfl,_⟩:=h
  rfl
 obtain⟨v,n,rfl,t,q⟩:=h
 refine⟨_,(Ah (Bb (Dv (Ay Ck hr (Aa (pv 0) (Aa (pv 1) (Aa (pv 1) Ab)))) (Dj (Av (FP rfl) rfl T.all Ik (Aa (Cv (N':=["part"]) rfl (Bp.plain rfl (by trivial) (by trivial) (by trivial)) (Eu (pv 0)) (λ_ _ _ _=>(Ak (i:=0) (show List.Nodup (["part"]:YF) by trivial) rfl (Or.inl rfl))) (λ_ _ _ _=>CW) (λ_ _ _ _=>(Ay Qc hr (Aa (pv 0) Ab)))) Ab)))))),?_⟩
 refine⟨_,rfl,_,rfl,_,rfl,v,n,n,rfl,t.kn,_,rfl,?_⟩
 cases e:Fp H v with
 | none=>exact Cm (by have:=q H (Same.refl H);rw[e] at this;exact this)
 | some xs=>
  obtain⟨p,rfl,hp⟩:=PB e
  have tp:=t.parts xs e
  cases eb:Td (some xs) n n with
  | false=>exact Cm (by have:=q H (Same.refl H);rw[e,Jk,eb] at this;exact this)
  | true=>
   refine BK ⟨_,rfl,p,rfl,⟨xs,SqT.of hp⟩,λl hl=>?_⟩
   have hpl:p≠l:=Ax hp hl
   let J0:YN:=λi σ H'=>∃u,σ=[u]/\H'=upd H l (.lst ((xs.take i).map λy=>V.bl (isW y)))
   refine Qf (xs:=xs) J0 ⟨none,rfl,rfl⟩ (λi σ H' _ h=>?_) (λi x σ H' hx h=>?_) (fun σ H' h=>?_)
   ·obtain⟨u,rfl,rfl⟩:=h
    exact SqT.of (by rw[Al hpl];exact hp)
   ·obtain⟨u,rfl,rfl⟩:=h
    have sm:Same H (upd H l (.lst ((xs.take i).map λy=>V.bl (isW y)))):=Ag hl _
    have et:(xs.take (i+1)).map (λy=>V.bl (isW y))=(xs.take i).map (λy=>V.bl (isW y))++[V.bl (isW x)]:=by rw[List.take_succ,hx];simp
    refine⟨_,rfl,x,rfl,(tp.2 x (QaD hx)).same sm,_,Ac,Ao (by rw[QbB,Qbs];omega),_,rfl,?_⟩
    rw[Rj,et]
   ·obtain⟨u,rfl,rfl⟩:=h
    refine⟨l,xs.map isW,rfl,SqL.of ?_,?_⟩
    ·rw[Ac,Qbt,Qcl]
     rfl
    ·have:=q _ (Ag hl (.lst ((xs.take xs.length).map λy=>V.bl (isW y))))
     rw[e,Jk,eb,Bool.true_and] at this
     rw[List.all_map]
     exact this
end
abbrev Oa:Stmt:=top 22
abbrev HN:YF:=["row"]
theorem Yp:Az ["row"] HN (Aj Oa):=⟨rfl,rfl,rfl,by trivial,rfl,by trivial,by trivial⟩
abbrev Fg:Stmt:=top 23
abbrev Dw:YF:=["thing","least","most","low","high"]
theorem Pj:Az ["thing","least","most","low","high"] Dw (Aj Fg):=⟨rfl,rfl,rfl,by trivial,rfl,by trivial,by trivial⟩
abbrev QH:Stmt:=top 24
abbrev KZ:YF:=["thing"]
theorem fX:Az ["thing"] KZ (Aj QH):=⟨rfl,rfl,rfl,by trivial,rfl,by trivial,by trivial⟩
abbrev Oc:Stmt:=top 29
abbrev GF:YF:=["kind","address"]
theorem Yr:Az ["kind","address"] GF (Aj Oc):=⟨rfl,rfl,rfl,by trivial,rfl,by trivial,by trivial⟩
abbrev Iw:Stmt:=top 30
abbrev Ey:YF:=["thing"]
theorem RT:Az ["thing"] Ey (Aj Iw):=⟨rfl,rfl,rfl,by trivial,rfl,by trivial,by trivial⟩
abbrev QF:Stmt:=top 31
abbrev KR:YF:=["thing"]
theorem fW:Az ["thing"] KR (Aj QF):=⟨rfl,rfl,rfl,by trivial,rfl,by trivial,by trivial⟩
abbrev Pu:Stmt:=top 32
abbrev Jw:YF:=["thing"]
theorem Hw:Az ["thing","kind","address","spur"] Jw (Aj Pu):=⟨rfl,rfl,rfl,by trivial,rfl,by trivial,by trivial⟩
abbrev QJ:Stmt:=top 33
abbrev K1:YF:=["thing"]
theorem fY:Az ["thing"] K1 (Aj QJ):=⟨rfl,rfl,rfl,by trivial,rfl,by trivial,by trivial⟩
abbrev QD:Stmt:=top 34
abbrev KQ:YF:=["thing"]
theorem fV:Az ["thing"] KQ (Aj QD):=⟨rfl,rfl,rfl,by trivial,rfl,by trivial,by trivial⟩
abbrev Oe:Stmt:=top 35
abbrev Ie:YF:=["thing"]
theorem Yu:Az ["thing"] Ie (Aj Oe):=⟨rfl,rfl,rfl,by trivial,rfl,by trivial,by trivial⟩
abbrev Od:Stmt:=top 36
abbrev Ib:YF:=["thing"]
theorem Yt:Az ["thing"] Ib (Aj Od):=⟨rfl,rfl,rfl,by trivial,rfl,by trivial,by trivial⟩
abbrev QG:Stmt:=top 37
abbrev KY:YF:=["thing"]
theorem Jr:Az ["thing","most","loops","zones"] KY (Aj QG):=⟨rfl,rfl,rfl,by trivial,rfl,by trivial,by trivial⟩
structure Ty (K:YD) (mg:YB) (op oe kd wk:Addr):Prop extends Tx K mg op oe where
 KINDS:∃u,mg "KINDS"=some u/\RelV (.ref kd) u
 kdT:∀H,SqT K H kd [.str "seeker",.str "knob",.str "bell",.str "door"]
 WARNING_KINDS:∃u,mg "WARNING_KINDS"=some u/\RelV (.ref wk) u
 wkT:∀H,SqT K H wk [.str "seeker",.str "knob"]
 SMALL_LETTERS:∃u,mg "SMALL_LETTERS"=some u/\RelV (.str abc) u
theorem yD:∀c∈abc.cps.toList,(!(Builtin.Str.occurrences abc ⟨#[c]⟩ 0 abc.length 1).isEmpty)=true:=by
 have h:abc.cps.toList.all (λc=>!(Builtin.Str.occurrences abc ⟨#[c]⟩ 0 abc.length 1).isEmpty)=true:=by trivial
 exact λc hc=>List.all_eq_true.mp h c hc
theorem xQ {k:Str} (h:Gy k):inV (.str k) [.str "seeker",.str "knob",.str "bell",.str "door"]=true:=by
 rcases h with rfl | rfl | rfl | rfl <;> decide +kernel
theorem K9 {K:YD} {a l:Addr} {xs:YG} {te:TE} {Q:VK} {r:St} {H:Hp} (hl:H l=none) (ha:H a=some (.tup xs)) (h100:xs.length<=100)
  (hs:∀(i:Nat) (x:V) (HH:Hp),xs[i]?=some x->Same H HH->∀R:VK,(∀H',Same HH H'->R (.bl true) H')->te (some x::r) HH R)
  (hq:∀H',H' l=some (.lst ((List.replicate xs.length true).map V.bl))->Same H H'->Q (.ref l) H'):FJ (Itt K a) (Hr 0) (λ_ H Q=>Q true H) te Q (none::r) (upd H l (.lst [])) l:=by
 let J0:YN:=λi σ HH=>∃u,σ=u::r/\HH l=some (.lst ((List.replicate i true).map V.bl))/\Same H HH
 refine Qf (xs:=xs) J0 ⟨_,rfl,Ac,Ag hl _⟩ (λi σ HH _ h=>?_) (λi x σ HH hx h=>?_) (fun σ HH h=>?_)
 ·obtain⟨u,rfl,_,s⟩:=h
  exact SqT.of (s _ _ ha)
 ·obtain⟨u,rfl,e,s⟩:=h
  have hi:=(Qah.mp hx).1
  unfold Hr
  dsimp only
  refine BK (hs i x HH hx s _ λH' s'=>⟨_,s' _ _ e,Ao (by rw[QbB,List.length_replicate];omega),_,rfl,?_,(s.trans s').Br Ai.upd hl⟩)
  rw[Ac,List.replicate_succ',QbC]
  rfl
 ·obtain⟨u,rfl,e,s⟩:=h
  exact hq _ e s
theorem Ij {H:Hp} {a:Addr} {xs:YG} (h:H a=some (.tup xs)):Kn H (.ref a):=by
 unfold Kn
 first
  | exact⟨_,h,True.intro⟩
  | exact .inr ⟨_,h⟩
  | exact⟨xs,.inr h⟩
theorem En {xs:YG} {a b:Int} (h1:a<=xs.length) (h2:(xs.length:Int)<=b):Td (some xs) a b=true:=by
 show (decide (a<=xs.length)&&decide ((xs.length:Int)<=b))=true
 rw[QbS h1,QbS h2]
 rfl
theorem T7 {n:Nat}:(List.replicate n true).all id=true:=by simp
structure NN (p:Place):Prop where
 ok:OkP p
 bd:∀x∈adP p,1<=x/\x<=99
def cZ:Sp:=λvs H Q _=>∃z:Str,vs=[.str z]/\1<=z.length/\z.length<=8/\okS z/\∀H',Same H H'->Q (.bl true) H'
def jN:Sp:=λvs H Q _=>∃(a:Addr) (ns:List Int),vs=[.ref a]/\H a=some (.tup (ns.map V.int))/\ns.Pairwise (· < ·)/\ns.length<=100/\∀H',Same H H'->Q (.bl true) H'
def jM:Sp:=λvs H Q _=>∃(a:Addr) (ns:List Int) (lo hi l h:Int),vs=[.ref a,.int lo,.int hi,.int l,.int h]/\H a=some (.tup (ns.map V.int))/\ns.Pairwise (· < ·)/\ns.length<=100/\lo<=ns.length/\(ns.length:Int)<=hi/\(∀x∈ns,l<=x/\x<=h)/\∀H',Same H H'->Q (.bl true) H'
def Yk:Sp:=λvs H Q _=>∃(k:Str) (x:Int),vs=[.str k,.int x]/\Gy k/\1<=x/\x<=99/\Q (.bl true) H
def Yd:Sp:=λvs H Q _=>∃v d,vs=[v]/\JF H v d/\Gy d.kind/\1<=d.addr/\d.addr<=99/\Q (.bl true) H
def cT:Sp:=λvs H Q _=>∃u ws ds,vs=[.ref u]/\H u=some (.tup ws)/\Paired (JF H) ws ds/\ds.length<=3/\(∀d∈ds,Gy d.kind/\1<=d.addr/\d.addr<=99)/\∀H',Same H H'->Q (.bl true) H'
def Ye:Sp:=λvs H Q _=>∃v p,vs=[v]/\Dr H v p/\NN p/\∀H',Same H H'->Q (.bl true) H'
def dg:Sp:=λvs H Q _=>∃v ps,vs=[v]/\LoopAt H v ps/\OkL ps/\(∀x∈adL ps,1<=x/\x<=99)/\∀H',Same H H'->Q (.bl true) H'
def Yi:Sp:=λvs H Q _=>∃Ls ws loops,vs=[.ref Ls]/\H Ls=some (.tup ws)/\Paired (LoopAt H) ws loops/\(∀ps∈loops,OkL ps)/\(∀x∈Cr loops,1<=x/\x<=99)/\1<=loops.length/\loops.length<=3/\∀H',Same H H'->Q (.bl true) H'
structure ZnB (z:Zone):Prop where
 nm:(1<=z.name.length/\z.name.length<=8)/\okS z.name
 up:z.adr.Pairwise (· < ·)/\1<=z.adr.length/\z.adr.length<=30
 bd:∀x∈z.adr,1<=x/\x<=99
def cQ:Sp:=λvs H Q _=>∃v z,vs=[v]/\Il H v z/\ZnB z/\∀H',Same H H'->Q (.bl true) H'
def Yc:Sp:=λvs H Q _=>∃zs ws zones,vs=[.ref zs]/\H zs=some (.tup ws)/\Paired (Il H) ws zones/\(∀z∈zones,ZnB z)/\zones.length<=8/\(zones.map (·.name)).Nodup/\∀H',Same H H'->Q (.bl true) H'
structure Fz (H:Hp) (pl:Addr) (most:Int) (loops:YU) (zones:List Zone):Prop where
 at_:∃Ls zs vs zvs,H pl=some (.tup [.int most,.ref Ls,.ref zs])/\H Ls=some (.tup vs)/\Paired (LoopAt H) vs loops/\H zs=some (.tup zvs)/\Paired (Il H) zvs zones
 ok:Eh loops
 lo:1<=loops.length
 pok:aQ most loops zones
theorem Fz.tups {H H':Hp} {pl:Addr} {most:Int} {loops:YU} {zones:List Zone} (h:Fz H pl most loops zones) (s:Ar H H'):Fz H' pl most loops zones:=by
 obtain⟨Ls,zs,vs,zvs,e1,e2,e3,e4,e5⟩:=h.at_
 exact⟨⟨Ls,zs,vs,zvs,s _ _ e1,s _ _ e2,Paired.Bc e3 λ_ _ z=>z.tups s,s _ _ e4,Paired.Bc e5 λ_ _ z=>z.tups s⟩,h.ok,h.lo,h.pok⟩
theorem Fz.same {H H':Hp} {pl:Addr} {most:Int} {loops:YU} {zones:List Zone} (h:Fz H pl most loops zones) (s:Same H H'):Fz H' pl most loops zones:=h.tups (Ar.of s)
theorem Fz.plan {H:Hp} {pl:Addr} {most:Int} {loops:YU} {zones:List Zone} (h:Fz H pl most loops zones):Ve H pl loops:=by
 obtain⟨Ls,zs,vs,zvs,e1,e2,e3,e4,e5⟩:=h.at_
 exact⟨_,_,Ls,vs,e1,e2,e3⟩
def Rp:Sp:=λvs H Q _=>∃pl most loops zones,vs=[.ref pl]/\Fz H pl most loops zones/\∀H',Same H H'->Q (.bl true) H'
theorem XS {α β γ : Type} {h:α->List β} {φ : γ->β} {g:Nat->α->List γ} (l:List α) (hg:∀i x,l[i]?=some x->(g i x).map φ=h x):∀n,n<=l.length->(up (λi=>ifs l[i]? (g i)) n).map φ=(l.take n).flatMap h
 | 0,_=>by rw[LQ];simp
 | n+1,hn=>by
  have hi:l[n]?=some l[n]:=Qan (by omega)
  rw[Dc,QbC,XS l hg n (by omega),Qcy hi,QaL,CQ hi,hg n _ hi]
  simp
theorem Sv (lp a:Int):∀(n:Nat) (ds:List Dev),(Du lp a n ds).map (·.addr)=ds.map (·.addr)
 | _,[]=>rfl
 | n,d::r=>by
  show d.addr::(Du lp a (n+1) r).map (·.addr)=d.addr::r.map (·.addr)
  rw[Sv]
theorem Y7 (lp a:Int) (p:Place):(BZ lp a p).map (·.addr)=adP p:=by
 unfold BZ adP
 split
 ·rfl
 ·rw[QbZ,Sv]
theorem K8 (loops:YU):(up (pdL loops) loops.length).map (·.addr)=Cr loops:=by
 have:=XS (φ:=Sd.addr) (h:=adL) (g:=λk ps=>up (pd1 (k:Int) ps) ps.length) loops (λk ps _=>by
  have:=XS (φ:=Sd.addr) (h:=adP) (g:=λi p=>BZ (k:Int) ((1+i:Nat):Int) p) ps (λi p _=>Y7 _ _ p) ps.length (Qcq _)
  rw[Qbt] at this
  exact this) loops.length (Qcq _)
 rw[Qbt] at this
 exact this
theorem pq {loops:YU} (h:Eh loops) {x:Int} (hx:x∈Ek loops):x∈Cr loops:=by
 obtain⟨ps,hps,hx⟩:=Qbz.mp hx
 obtain⟨p,hp,hx⟩:=Qbz.mp hx
 refine Qbz.mpr ⟨ps,hps,Qbz.mpr ⟨p,hp,?_⟩⟩
 obtain⟨d,hd,rfl⟩:=Qci.mp hx
 obtain⟨hd,hw⟩:=QbK.mp hd
 rcases ((h.ok ps hps).ok p hp).form with⟨e1,e2,e3⟩| hk
 ·have:d=⟨p.kind,p.addr⟩:=by
   unfold Fj at hd
   rw[e3] at hd
   simpa using hd
  rw[this] at hw
  have hw:Ed p.kind=true:=hw
  rw[e1] at hw
  exact absurd hw (by trivial)
 ·unfold adP
  rw[if_neg (Mh hk)]
  unfold Fj at hd
  rcases QbY.mp hd with rfl | hd
  ·exact QaR ..
  ·exact QaE _ (Qci.mpr ⟨d,hd,rfl⟩)
section
variable {P:Program} {w:World} {K:YD} {mg:YB} {base:Heap} {op oe kd wk:Addr}
theorem gK (C:Code K mg "is_name" QH KZ) (T:Ty K mg op oe kd wk):Good P w K mg base "is_name" 1 KZ cZ:=by
 refine C.good fX (λvs H Q E h=>?_) (λf cdv A outer s H vs Q E hr h=>?_)
 ·obtain⟨z,rfl,_⟩:=h
  rfl
 obtain⟨z,rfl,h1,h8,oz,q⟩:=h
 refine⟨_,(Af (Ce (Et (DR (Av Nk rfl T.isinstance Bq (Aa (pv 0) (Aa (Mf (v:=.ty "str") rfl T.str BC rfl) Ab))))) (Ah (Bb Dl)) BJ)
 (Ah (Bb (Dv (Py NP NP Ae (Av aD rfl T.len Cu (Aa (pv 0) Ab)) Ae) (Dj (Av (FP rfl) rfl T.all Ik (Aa (Cv (N':=["sign"]) rfl (Bp.plain rfl (by trivial) (by trivial) (by trivial)) (kJ (pv 0)) (λ_ _ _ _=>(Ak (i:=0) (show List.Nodup (["sign"]:YF) by trivial) rfl (Or.inl rfl))) (λ_ _ _ _=>CW) (λ_ _ _ _=>(Dk lB (pv 0) (QV rfl T.SMALL_LETTERS) (by with_unfolding_all rfl)))) Ab))))))),?_⟩
 show let R0:TS:=_;Am _ R0 _ _ _
 intro R0
 refine⟨_,rfl,xT ⟨_,rfl,Cm ⟨_,rfl,z,rfl,Aw (by show z.length<=1000;omega),_,_,rfl,rfl,_,rfl,?_⟩⟩⟩
 have g1:decide ((1:Int)<=(z.length:Int))=true:=QbS (by omega)
 rw[g1]
 refine BK ⟨_,_,rfl,rfl,_,rfl,?_⟩
 have g2:decide ((z.length:Int)<=8)=true:=QbS (by omega)
 rw[g2]
 refine BK ⟨_,rfl,z,rfl,λl hl'=>?_⟩
 let J1:YN:=λi σ HH=>∃u,σ=[u]/\HH l=some (.lst ((List.replicate i true).map V.bl))/\Same H HH
 refine Z9 J1 ⟨_,rfl,Ac,Ag hl' _⟩ (λi c σ HH hc h=>?_) (fun σ HH h=>?_)
 ·obtain⟨u,rfl,e1,e2⟩:=h
  have hi:i < z.cps.size:=(Qaf.mp hc).1
  have hz:z.cps.size<=8:=h8
  unfold Hr
  dsimp only
  refine BK ⟨_,rfl,_,_,rfl,rfl,_,e1,Ao (by simp;omega),_,rfl,?_,e2.Br Ai.upd hl'⟩
  rw[Ac,yD c (oz c (Array.mem_toList_iff.mpr (Array.mem_of_getElem? hc))),List.replicate_succ',QbC]
  rfl
 ·obtain⟨u,rfl,e1,e2⟩:=h
  refine⟨l,List.replicate z.cps.size true,rfl,SqL.of e1,?_⟩
  rw[T7]
  exact q _ e2
theorem Zi (C:Code K mg "is_rising" Oa HN) (T:Ty K mg op oe kd wk):Good P w K mg base "is_rising" 1 HN jN:=by
 refine C.good Yp (λvs H Q E h=>?_) (λf cdv A outer s H vs Q E hr h=>?_)
 ·obtain⟨a,ns,rfl,_⟩:=h
  rfl
 obtain⟨a,ns,rfl,ha,hp,h100,q⟩:=h
 refine⟨_,(Ah (Bb (Av (FP rfl) rfl T.all Ik (Aa (Cv (N':=["one","other"]) rfl (Bp.plain rfl (by trivial) (by trivial) (by trivial)) (p7 rfl T.zip (Aa (pv 0) (Aa (JR Vq (pv 0) (LR Ae) Ma) Ab))) (λ_ _ _ _=>(Hl (K:=K) (n:=2) rfl rfl (Aq (Ak (i:=0) (show List.Nodup (["one","other"]:YF) by trivial) rfl (Or.inl rfl)) (Aq (Ak (i:=1) (show List.Nodup (["one","other"]:YF) by trivial) rfl (Or.inl rfl)) Bv)))) (λ_ _ _ _=>CW) (λ_ _ _ _=>(Dk Uu (pv 0) (pv 1) (Bs _)))) Ab)))),?_⟩
 refine⟨_,rfl,_,rfl,_,rfl,a,_,rfl,ha,λb H1 hb s1=>?_⟩
 have ha1:=s1 _ _ ha
 refine⟨a,b,rfl,⟨_,ha1⟩,⟨_,hb⟩,λl hl=>?_⟩
 have hlen:(ns.map V.int).length=ns.length:=QbB ..
 have ec:Jb (ns.map V.int) (some (1:Int)) none=(ns.map V.int).drop 1:=by
  by_cases h0:1<=(ns.map V.int).length
  ·exact T3 (k:=1) h0
  ·have:ns.map V.int=[]:=List.length_eq_zero_iff.mp (by omega)
   rw[this]
   rfl
 rw[ec] at hb
 refine jf (xs:=ns.map V.int) (ys:=(ns.map V.int).drop 1) (ns.length - 1) (by omega) (by rw[Qbx];omega) (.inr (by rw[Qbx];omega)) (λi σ HH=>∃u1 u2,σ=[u1,u2]/\HH l=some (.lst ((List.replicate i true).map V.bl))/\Same H1 HH) ⟨_,_,rfl,Ac,Ag hl _⟩ (λi σ HH _ h=>?_) (λi x y p σ HH hx hy h hpn=>?_) (fun σ HH h=>?_)
 ·obtain⟨u1,u2,rfl,e1,e2⟩:=h
  exact⟨e2 _ _ ha1,e2 _ _ hb⟩
 ·obtain⟨u1,u2,rfl,e1,e2⟩:=h
  rw[List.getElem?_drop] at hy
  rw[Qbi] at hx hy
  obtain⟨n1,hn1,rfl⟩:=Qaw.mp hx
  obtain⟨n2,hn2,rfl⟩:=Qaw.mp hy
  obtain⟨i1,g1⟩:=Qah.mp hn1
  obtain⟨i2,g2⟩:=Qah.mp hn2
  have lt:n1 < n2:=by
   rw[<-g1,<-g2]
   exact Qak.mp hp i (1+i) i1 i2 (by omega)
  have s2:=Ag hpn (.tup [.int n1,.int n2])
  refine⟨p,_,rfl,SqT.of Ac,rfl,_,_,rfl,_,_,rfl,rfl,?_⟩
  refine BK ⟨_,rfl,_,rfl,_,_,rfl,rfl,_,s2 _ _ e1,Ao (by simp;omega),_,_,rfl,?_,(e2.trans s2).Br Ai.upd hl⟩
  rw[Ac]
  show some (HO.lst (_++[V.bl (decide (n1 < n2))]))=_
  rw[QbS lt,List.replicate_succ',QbC]
  rfl
 ·obtain⟨u1,u2,rfl,e1,e2⟩:=h
  refine⟨l,List.replicate (ns.length - 1) true,rfl,SqL.of e1,?_⟩
  rw[T7]
  exact q _ (s1.trans e2)
theorem Xk (C:Code K mg "are_rising_within" Fg Dw) (T:Ty K mg op oe kd wk) (Ck:Good P w K mg base "is_row" 1 Dn G6) (FN:Good P w K mg base "is_within" 2 Eo Mr) (bM:Good P w K mg base "is_rising" 1 HN jN):Good P w K mg base "are_rising_within" 3 Dw jM:=by
 refine C.good Pj (λvs H Q E h=>?_) (λf cdv A outer s H vs Q E hr h=>?_)
 ·obtain⟨a,ns,lo,hi,l,h,rfl,_⟩:=h
  rfl
 obtain⟨a,ns,lo,hi,l,h,rfl,ha,hp,h100,h1,h2,h3,q⟩:=h
 refine⟨_,(Af (Ce (Et (DR (Ay Ck hr (Aa (pv 0) (Aa (pv 1) (Aa (pv 2) Ab)))))) (Ah (Bb Dl)) BJ)
 (Ah (Bb (Dv (Av (FP rfl) rfl T.all Ik (Aa (Cv (N':=["part","low","high"]) rfl (Bp.of (src:=[none,some 3,some 4]) (Aj Fg) ["thing","least","most","low","high"] rfl rfl rfl (by trivial) (by trivial) (by trivial) rfl (by trivial)) (Eu (pv 0)) (λ_ _ _ _=>(Ak (i:=0) (show List.Nodup (["part","low","high"]:YF) by trivial) rfl (Or.inl rfl))) (λ_ _ _ _=>CW) (λ_ _ _ _=>(Ay FN hr (Aa (pv 0) (Aa (pv 1) (Aa (pv 2) Ab)))))) Ab)) (Dj (Ay bM hr (Aa (pv 0) Ab))))))),?_⟩
 show let R0:TS:=_;Am _ R0 _ _ _
 intro R0
 have hlen:(ns.map V.int).length=ns.length:=QbB ..
 refine⟨_,rfl,_,rfl,_,rfl,.ref a,lo,hi,rfl,Ij ha,_,rfl,?_⟩
 rw[CZ ha,En (by rw[hlen];exact h1) (by rw[hlen];exact h2)]
 refine Cm ⟨_,rfl,a,rfl,⟨_,SqT.of ha⟩,λl2 hl2=>?_⟩
 refine K9 (r:=[some (.int l),some (.int h)]) hl2 ha (by omega) (λi x HH hx s1 R hR=>?_) (λH' e s1=>?_)
 ·rw[Qbi] at hx
  obtain⟨n1,hn1,rfl⟩:=Qaw.mp hx
  refine⟨_,rfl,_,rfl,_,rfl,n1,l,h,rfl,?_⟩
  rw[QbS (h3 n1 (QaD hn1))]
  exact hR _ (Same.refl _)
 ·refine⟨l2,List.replicate (ns.map V.int).length true,rfl,SqL.of e,_,rfl,?_⟩
  rw[T7]
  exact BK ⟨_,rfl,a,ns,rfl,s1 _ _ ha,hp,h100,λH2 s2=>q _ (s1.trans s2)⟩
theorem Zk (C:Code K mg "is_device" Oc GF) (T:Ty K mg op oe kd wk) (FN:Good P w K mg base "is_within" 2 Eo Mr):Good P w K mg base "is_device" 3 GF Yk:=by
 refine C.good Yr (λvs H Q E h=>?_) (λf cdv A outer s H vs Q E hr h=>?_)
 ·obtain⟨k,x,rfl,_⟩:=h
  rfl
 obtain⟨k,x,rfl,hk,h1,h2,q⟩:=h
 refine⟨_,(Ah (Bb (Dv (Dk QZ (pv 0) (QV rfl T.KINDS) (by with_unfolding_all rfl)) (Dj (Ay FN hr (Aa (pv 1) (Aa Ae (Aa Ae Ab)))))))),?_⟩
 refine⟨_,rfl,kd,_,rfl,.inr (T.kdT H),rfl,rfl,_,rfl,?_⟩
 rw[if_neg QaS,xQ hk]
 refine BK ⟨_,rfl,x,1,99,rfl,?_⟩
 rw[QbS ⟨h1,h2⟩]
 exact q
theorem RW (C:Code K mg "is_spur_device" Iw Ey) (T:Ty K mg op oe kd wk) (Ck:Good P w K mg base "is_row" 1 Dn G6) (Ot:Good P w K mg base "is_device" 3 GF Yk):Good P w K mg base "is_spur_device" 4 Ey Yd:=by
 refine C.good RT (λvs H Q E h=>?_) (λf cdv A outer s H vs Q E hr h=>?_)
 ·obtain⟨v,d,rfl,_⟩:=h
  rfl
 obtain⟨v,d,rfl,⟨t,rfl,ht⟩,hk,h1,h2,q⟩:=h
 refine⟨_,(Ah (Bb (Dv (Ay Ck hr (Aa (pv 0) (Aa Ae (Aa Ae Ab)))) (Dj (Ay Ot hr (Aa (Bo Cd (pv 0) Ae (λ_ _=>rfl)) (Aa (Bo Cd (pv 0) Ae (λ_ _=>rfl)) Ab))))))),?_⟩
 refine⟨_,rfl,.ref t,2,2,rfl,Ij ht,_,rfl,?_⟩
 rw[CZ ht,En (by show (2:Int)<=2;decide) (by show (2:Int)<=2;decide)]
 exact BK ⟨_,rfl,t,_,_,_,rfl,rfl,SqT.of ht,rfl,_,rfl,t,_,_,_,rfl,rfl,SqT.of ht,rfl,d.kind,d.addr,rfl,hk,h1,h2,q⟩
theorem gH (C:Code K mg "is_spur" QF KR) (T:Ty K mg op oe kd wk) (Ck:Good P w K mg base "is_row" 1 Dn G6) (Tz:Good P w K mg base "is_spur_device" 4 Ey Yd):Good P w K mg base "is_spur" 5 KR cT:=by
 refine C.good fW (λvs H Q E h=>?_) (λf cdv A outer s H vs Q E hr h=>?_)
 ·obtain⟨u,ws,ds,rfl,_⟩:=h
  rfl
 obtain⟨u,ws,ds,rfl,hu,hd,h3,hk,q⟩:=h
 have lw:=QbX hd
 refine⟨_,(Ah (Bb (Dv (Ay Ck hr (Aa (pv 0) (Aa Ae (Aa Ae Ab)))) (Dj (Av (FP rfl) rfl T.all Ik (Aa (Cv (N':=["part"]) rfl (Bp.plain rfl (by trivial) (by trivial) (by trivial)) (Eu (pv 0)) (λ_ _ _ _=>(Ak (i:=0) (show List.Nodup (["part"]:YF) by trivial) rfl (Or.inl rfl))) (λ_ _ _ _=>CW) (λ_ _ _ _=>(Ay Tz hr (Aa (pv 0) Ab)))) Ab)))))),?_⟩
 refine⟨_,rfl,.ref u,0,3,rfl,Ij hu,_,rfl,?_⟩
 rw[CZ hu,En (by omega) (by omega)]
 refine BK ⟨_,rfl,u,rfl,⟨_,SqT.of hu⟩,λl2 hl2=>?_⟩
 refine K9 (r:=[]) hl2 hu (by omega) (λi x HH hx s1 R hR=>?_) (λH' e s1=>?_)
 ·obtain⟨d,hdi,had⟩:=Paired.Cq hd hx
  have:=hk d (QaD hdi)
  exact⟨_,rfl,x,d,rfl,had.tups (Ar.of s1),this.1,this.2.1,this.2.2,hR _ (Same.refl _)⟩
 ·refine⟨l2,List.replicate ws.length true,rfl,SqL.of e,?_⟩
  rw[T7]
  exact q _ s1
theorem bC (C:Code K mg "is_place" Pu Jw) (T:Ty K mg op oe kd wk) (Ck:Good P w K mg base "is_row" 1 Dn G6) (FN:Good P w K mg base "is_within" 2 Eo Mr) (Ot:Good P w K mg base "is_device" 3 GF Yk) (mW:Good P w K mg base "is_spur" 5 KR cT):Good P w K mg base "is_place" 6 Jw Ye:=by
 have sc:=Hw
 refine C.good Hw (λvs H Q E h=>?_) (λf cdv A outer s H vs Q E hr h=>?_)
 ·obtain⟨v,p,rfl,_⟩:=h
  rfl
 obtain⟨v,p,rfl,⟨t,u,ws,rfl,ht,hu,hd⟩,⟨ok,bd⟩,q⟩:=h
 have lw:=QbX hd
 have h3:=ok.spur
 refine⟨_,(Af (Ce (Et (DR (Ay Ck hr (Aa (pv 0) (Aa Ae (Aa Ae Ab)))))) (Ah (Bb Dl)) BJ)
 (Af (Hy (pv 0) (CP rfl (Aq (Ak (i:=1) Hw.nd rfl (Or.inl rfl)) (Aq (Ak (i:=2) Hw.nd rfl (Or.inl rfl)) (Aq (Ak (i:=3) Hw.nd rfl (Or.inl rfl)) Bv)))))
 (Af (Ce (Bx Fi (pv 1) Bf (Bs _)) (Ah (Bb (Dv (Ay FN hr (Aa (pv 2) (Aa Ae (Aa Ae Ab)))) (Dj (Ay Ck hr (Aa (pv 3) (Aa Ae (Aa Ae Ab)))))))) BJ)
 (Ah (Bb (Dv (Ay Ot hr (Aa (pv 1) (Aa (pv 2) Ab))) (Dj (Ay mW hr (Aa (pv 3) Ab))))))))),?_⟩
 show let R0:TS:=_;let R1:TS:=_;let R2:TS:=Am (Gp _ R1 _) R0;let R3:TS:=Am _ R2;Am _ R3 _ _ _
 intro R0 R1 R2 R3
 refine⟨_,rfl,.ref t,3,3,rfl,Ij ht,_,rfl,?_⟩
 rw[CZ ht,En (by show (3:Int)<=3;decide) (by show (3:Int)<=3;decide)]
 refine Cm ⟨_,rfl,t,_,rfl,SqT.of ht,rfl,_,_,rfl,_,_,rfl,_,_,rfl,rfl,?_⟩
 refine⟨_,rfl,rfl,_,rfl,?_⟩
 rcases ok.form with⟨e1,e2,e3⟩| hk
 ·rw[show decide (V.str p.kind=V.str "opener")=true by rw[e1];rfl]
  have lw0:ws.length=0:=by rw[lw,e3];rfl
  refine BK ⟨_,rfl,p.addr,0,0,rfl,_,rfl,?_⟩
  rw[show decide ((0:Int)<=p.addr/\p.addr<=0)=true by rw[e2];rfl]
  refine BK ⟨_,rfl,.ref u,0,0,rfl,Ij hu,?_⟩
  rw[CZ hu,En (by omega) (by omega)]
  exact q _ (Same.refl _)
 ·have ea:adP p=p.addr::p.spur.map (·.addr):=if_neg (Mh hk)
  rw[ea] at bd
  rw[QbG (Mh hk)]
  have b0:=bd p.addr (QaR ..)
  refine Cm ⟨_,rfl,_,rfl,p.kind,p.addr,rfl,hk,b0.1,b0.2,_,rfl,?_⟩
  exact BK ⟨_,rfl,u,ws,p.spur,rfl,hu,hd,h3,λd hdm=>⟨ok.kinds d hdm,bd d.addr (QaE _ (Qci.mpr ⟨d,hdm,rfl⟩))⟩,q⟩
theorem gM (C:Code K mg "is_loop" QJ K1) (T:Ty K mg op oe kd wk) (Ck:Good P w K mg base "is_row" 1 Dn G6) (iV:Good P w K mg base "is_place" 6 Jw Ye):Good P w K mg base "is_loop" 7 K1 dg:=by
 refine C.good fY (λvs H Q E h=>?_) (λf cdv A outer s H vs Q E hr h=>?_)
 ·obtain⟨v,ps,rfl,_⟩:=h
  rfl
 obtain⟨v,ps,rfl,⟨t,ws,rfl,ht,hd⟩,ok,bd,q⟩:=h
 have lw:=QbX hd
 have l1:=ok.lo
 have l2:=ok.hi
 refine⟨_,(Ah (Bb (Dv (Ay Ck hr (Aa (pv 0) (Aa Ae (Aa Ae Ab)))) (Dj (Av (FP rfl) rfl T.all Ik (Aa (Cv (N':=["part"]) rfl (Bp.plain rfl (by trivial) (by trivial) (by trivial)) (Eu (pv 0)) (λ_ _ _ _=>(Ak (i:=0) (show List.Nodup (["part"]:YF) by trivial) rfl (Or.inl rfl))) (λ_ _ _ _=>CW) (λ_ _ _ _=>(Ay iV hr (Aa (pv 0) Ab)))) Ab)))))),?_⟩
 refine⟨_,rfl,.ref t,1,12,rfl,Ij ht,_,rfl,?_⟩
 rw[CZ ht,En (by omega) (by omega)]
 refine BK ⟨_,rfl,t,rfl,⟨_,SqT.of ht⟩,λl2 hl2=>?_⟩
 refine K9 (r:=[]) hl2 ht (by omega) (λi x HH hx s1 R hR=>?_) (λH' e s1=>?_)
 ·obtain⟨p,hpi,hap⟩:=Paired.Cq hd hx
  have hm:=QaD hpi
  exact⟨_,rfl,x,p,rfl,hap.tups (Ar.of s1),⟨ok.ok p hm,λy hy=>bd y (Qbz.mpr ⟨p,hm,hy⟩)⟩,λH2 s2=>hR _ s2⟩
 ·refine⟨l2,List.replicate ws.length true,rfl,SqL.of e,?_⟩
  rw[T7]
  exact q _ s1
theorem Zo (C:Code K mg "are_loops" Oe Ie) (T:Ty K mg op oe kd wk) (Ck:Good P w K mg base "is_row" 1 Dn G6) (mZ:Good P w K mg base "is_loop" 7 K1 dg):Good P w K mg base "are_loops" 8 Ie Yi:=by
 refine C.good Yu (λvs H Q E h=>?_) (λf cdv A outer s H vs Q E hr h=>?_)
 ·obtain⟨Ls,ws,loops,rfl,_⟩:=h
  rfl
 obtain⟨t,ws,loops,rfl,ht,hd,ok,bd,l1,l2,q⟩:=h
 have lw:=QbX hd
 refine⟨_,(Ah (Bb (Dv (Ay Ck hr (Aa (pv 0) (Aa Ae (Aa Ae Ab)))) (Dj (Av (FP rfl) rfl T.all Ik (Aa (Cv (N':=["part"]) rfl (Bp.plain rfl (by trivial) (by trivial) (by trivial)) (Eu (pv 0)) (λ_ _ _ _=>(Ak (i:=0) (show List.Nodup (["part"]:YF) by trivial) rfl (Or.inl rfl))) (λ_ _ _ _=>CW) (λ_ _ _ _=>(Ay mZ hr (Aa (pv 0) Ab)))) Ab)))))),?_⟩
 refine⟨_,rfl,.ref t,1,3,rfl,Ij ht,_,rfl,?_⟩
 rw[CZ ht,En (by omega) (by omega)]
 refine BK ⟨_,rfl,t,rfl,⟨_,SqT.of ht⟩,λl2 hl2=>?_⟩
 refine K9 (r:=[]) hl2 ht (by omega) (λi x HH hx s1 R hR=>?_) (λH' e s1=>?_)
 ·obtain⟨p,hpi,hap⟩:=Paired.Cq hd hx
  have hm:=QaD hpi
  exact⟨_,rfl,x,p,rfl,hap.tups (Ar.of s1),ok p hm,λy hy=>bd y (Qbz.mpr ⟨p,hm,hy⟩),λH2 s2=>hR _ s2⟩
 ·refine⟨l2,List.replicate ws.length true,rfl,SqL.of e,?_⟩
  rw[T7]
  exact q _ s1
theorem gG (C:Code K mg "is_zone" QD KQ) (T:Ty K mg op oe kd wk) (Ck:Good P w K mg base "is_row" 1 Dn G6) (mY:Good P w K mg base "is_name" 1 KZ cZ) (Qt:Good P w K mg base "are_rising_within" 3 Dw jM):Good P w K mg base "is_zone" 4 KQ cQ:=by
 refine C.good fV (λvs H Q E h=>?_) (λf cdv A outer s H vs Q E hr h=>?_)
 ·obtain⟨v,z,rfl,_⟩:=h
  rfl
 obtain⟨v,z,rfl,⟨t,u,rfl,ht,hu⟩,ok,q⟩:=h
 refine⟨_,(Ah (Bb (Dv (Ay Ck hr (Aa (pv 0) (Aa Ae (Aa Ae Ab)))) (Dv (Ay mY hr (Aa (Bo Cd (pv 0) Ae (λ_ _=>rfl)) Ab)) (Dj (Ay Qt hr (@Aa _ _ _ _ _ (Bo Cd (pv 0) Ae (λ_ _=>rfl)) (@Aa _ _ _ _ _ (@Ae _ _ _ _) (@Aa _ _ _ _ _ (@Ae _ _ _ _) (@Aa _ _ _ _ _ (@Ae _ _ _ _) (@Aa _ _ _ _ _ (@Ae _ _ _ _) (@Ab _) Bh) Bh) Bh) Bh) zu))))))),?_⟩
 refine⟨_,rfl,.ref t,2,2,rfl,Ij ht,_,rfl,?_⟩
 rw[CZ ht,En (by show (2:Int)<=2;decide) (by show (2:Int)<=2;decide)]
 refine BK ⟨_,rfl,t,_,_,_,rfl,rfl,SqT.of ht,rfl,z.name,rfl,ok.nm.1.1,ok.nm.1.2,ok.nm.2,λH1 s1=>⟨_,rfl,BK ?_⟩⟩
 have u1:=ok.up.2.1
 have u2:=ok.up.2.2
 exact⟨_,rfl,t,_,_,_,rfl,rfl,SqT.of (s1 _ _ ht),rfl,u,z.adr,1,30,1,99,rfl,s1 _ _ hu,ok.up.1,by omega,by omega,by omega,ok.bd,λH2 s2=>q _ (s1.trans s2)⟩
end
abbrev Ju:Stmt:=top 43
abbrev Fw:YF:=["plan"]
theorem Dy:Az ["plan","seen","spot","kind","address"] Fw (Aj Ju):=⟨rfl,rfl,rfl,by trivial,rfl,by trivial,by trivial⟩
abbrev JM:Stmt:=top 44
abbrev Gb:YF:=["plan"]
theorem Fq:Az ["plan","loop","number","spots"] Gb (Aj JM):=⟨rfl,rfl,rfl,by trivial,rfl,by trivial,by trivial⟩
abbrev G8:Stmt:=top 45
abbrev DW:YF:=["plan"]
theorem Dd:Az ["plan","warners","name","addresses","address"] DW (Aj G8):=⟨rfl,rfl,rfl,by trivial,rfl,by trivial,by trivial⟩
abbrev IK:Stmt:=top 46
abbrev Ez:YF:=["plan"]
theorem Dq:Az ["plan","seen","name","addresses","address"] Ez (Aj IK):=⟨rfl,rfl,rfl,by trivial,rfl,by trivial,by trivial⟩
abbrev Vt:Stmt:=top 47
abbrev Oz:YF:=["plan"]
theorem pK:Az ["plan"] Oz (Aj Vt):=⟨rfl,rfl,rfl,by trivial,rfl,by trivial,by trivial⟩
abbrev Ob:Stmt:=top 48
abbrev HW:YF:=["thing"]
theorem Yq:Az ["thing"] HW (Aj Ob):=⟨rfl,rfl,rfl,by trivial,rfl,by trivial,by trivial⟩
def Hv:Sp:=λvs H Q _=>∃pl most loops zones,vs=[.ref pl]/\Fz H pl most loops zones/\∀H',Same H H'->Q .non H'
def Ho {α : Type} (f:α->Key) (xs:List α):YM:=xs.map λx=>(f x,V.bl true)
theorem NT {α : Type} {f:α->Key} {k:Key}:∀{xs:List α},(∀x∈xs,f x≠k)->CT (Ho f xs) k=none
 | [],_=>rfl
 | x::r,h=>by
  have:Ho f (x::r)=(f x,V.bl true)::Ho f r:=rfl
  rw[this,Iu (p:=(f x,V.bl true)) (h x (QaR ..))]
  exact NT λy hy=>h y (QaE _ hy)
theorem K6 {α : Type} (f:α->Key) (xs:List α):(Ho f xs).length=xs.length:=QbB ..
theorem NZ {α : Type} {f:α->Key} {xs:List α} {x:α} (h:∀y∈xs,f y≠f x):putK (Ho f xs) (f x) (.bl true)=Ho f (xs++[x]):=by
 rw[Mx _ (NT h)]
 unfold Ho
 rw[QbC]
 rfl
theorem Rx {α : Type} {l:List α} (h:l.Nodup) {i:Nat} {x:α} (hx:l[i]?=some x):∀y∈l.take i,y≠x:=λy hy e=>by
 subst e
 obtain⟨j,hj⟩:=QaG hy
 rw[List.getElem?_take] at hj
 split at hj
 ·rename_i hji
  obtain⟨h1,e1⟩:=Qah.mp hj
  obtain⟨h2,e2⟩:=Qah.mp hx
  have:=Qak.mp h j i h1 h2 hji
  exact this (by rw[e1,e2])
 ·cases hj
theorem Km {α β : Type} {f:α->β} {l:List α} (h:(l.map f).Nodup) {i:Nat} {x:α} (hx:l[i]?=some x):∀y∈l.take i,f y≠f x:=λy hy e=>by
 have:=Rx h (i:=i) (x:=f x) (by rw[Qbi,hx];rfl) (f y) (by rw[<-List.map_take];exact Qci.mpr ⟨y,hy,rfl⟩)
 exact this e
theorem cN {lp:Int} {ps:List Place}:∀i,i<=ps.length->(stP lp ps i).1.map (λz=>(z.length:Int))=(pst (ps.take i)).1/\((stP lp ps i).2.length:Int)=(pst (ps.take i)).2
 | 0,_=>⟨rfl,rfl⟩
 | i+1,h=>by
  have hi:ps[i]?=some ps[i]:=Qan (by omega)
  obtain⟨h1,h2⟩:=cN (lp:=lp) (ps:=ps) i (by omega)
  rw[Qcy hi,Y0]
  unfold ptS
  by_cases k:V.str ps[i].kind=V.str "opener"
  ·rw[Ug hi k,if_pos k]
   refine⟨?_,rfl⟩
   rw[QbC,h1,<-h2]
   rfl
  ·rw[Rn hi k,if_neg k]
   refine⟨h1,?_⟩
   show (((stP lp ps i).2++(BZ lp ((1+i:Nat):Int) ps[i]).map Sd.spot).length:Int)=_
   rw[QaQ,QbB,<-h2]
   have:(BZ lp ((1+i:Nat):Int) ps[i]).length=1+ps[i].spur.length:=by
    unfold BZ
    rw[if_neg k,Qbr,Lk]
    omega
   rw[this]
   push_cast
   omega
theorem qg {lp:Int} {ps:List Place}:∀z∈(stP lp ps ps.length).1++[(stP lp ps ps.length).2],(z.length:Int)∈G4 ps:=λz hz=>by
 obtain⟨h1,h2⟩:=cN (lp:=lp) (ps:=ps) ps.length (Qcq _)
 rw[Qbt] at h1 h2
 unfold G4
 rw[<-h1,<-h2]
 rcases QbD.mp hz with h | h
 ·exact QaF _ (Qci.mpr ⟨z,h,rfl⟩)
 ·have:z=(stP lp ps ps.length).2:=by simpa using h
  rw[this]
  exact QaA _ (QaX.mpr rfl)
theorem uD {zones:List Zone} (h:∀z∈zones,z.adr.length<=30):(zones.flatMap (·.adr)).length<=30*zones.length:=by
 induction zones with
 | nil=>exact Qcq _
 | cons a r ih=>
  have h1:=ih λz hz=>h z (QaE _ hz)
  have h2:=h a (QaR ..)
  rw[Qbl,QaQ,Qbr]
  omega
theorem uy {a b:List Zone} (h:a.Sublist b):(a.flatMap (·.adr)).Sublist (b.flatMap (·.adr)):=by
 induction h with
 | slnil=>exact .slnil
 | cons x _ ih=>rw[Qbl];exact List.Sublist.trans ih (List.sublist_append_right _ _)
 | cons_cons x _ ih=>rw[Qbl,Qbl];exact List.Sublist.append_left ih _
theorem Wk (lp a:Int):∀(n:Nat) (ds:List Dev) (d:Dev),d∈ds->∃z∈Du lp a n ds,z.kind=d.kind/\z.addr=d.addr
 | _,[],d,h=>by cases h
 | n,x::r,d,h=>by
  rcases QbY.mp h with rfl | h
  ·exact⟨_,QaR ..,rfl,rfl⟩
  ·obtain⟨z,h1,h2⟩:=Wk lp a (n+1) r d h
   exact⟨z,QaE _ h1,h2⟩
theorem O9 {α : Type} {f:Nat->List α} {x:α} {i:Nat} (h:x∈f i):∀{n:Nat},i < n->x∈up f n
 | 0,hn=>by omega
 | n+1,hn=>by
  rw[Dc]
  by_cases e:i=n
  ·subst e;exact QaA _ h
  ·exact QaF _ (O9 h (by omega))
theorem v7 {loops:YU} (h:Eh loops) {x:Int} (hx:x∈Ek loops):∃z∈(up (pdL loops) loops.length).filter (λz=>Ed z.kind),z.addr=x:=by
 obtain⟨ps,hps,hx⟩:=Qbz.mp hx
 obtain⟨p,hp,hx⟩:=Qbz.mp hx
 obtain⟨d,hd,rfl⟩:=Qci.mp hx
 obtain⟨hd,hw⟩:=QbK.mp hd
 obtain⟨k,hk⟩:=QaG hps
 obtain⟨i,hi⟩:=QaG hp
 have hkl:=(Qah.mp hk).1
 have hil:=(Qah.mp hi).1
 have hop:¬V.str p.kind=V.str "opener":=by
  rcases ((h.ok ps hps).ok p hp).form with⟨e1,e2,e3⟩| hk
  ·have:d=⟨p.kind,p.addr⟩:=by
    unfold Fj at hd
    rw[e3] at hd
    simpa using hd
   rw[this] at hw
   have hw:Ed p.kind=true:=hw
   rw[e1] at hw
   exact absurd hw (by trivial)
  ·exact Mh hk
 have key:∃z∈BZ (k:Int) ((1+i:Nat):Int) p,z.kind=d.kind/\z.addr=d.addr:=by
  unfold BZ
  rw[if_neg hop]
  unfold Fj at hd
  rcases QbY.mp hd with rfl | hd
  ·exact⟨_,QaR ..,rfl,rfl⟩
  ·obtain⟨z,h1,h2⟩:=Wk (k:Int) ((1+i:Nat):Int) 1 p.spur d hd
   exact⟨z,QaE _ h1,h2⟩
 obtain⟨z,hz,e1,e2⟩:=key
 refine⟨z,QbK.mpr ⟨O9 (i:=k) ?_ hkl,by show Ed z.kind=true;rw[e1];exact hw⟩,e2⟩
 unfold pdL
 rw[CQ hk]
 refine O9 (i:=i) ?_ hil
 unfold pd1
 rw[CQ hi]
 exact hz
section
variable {P:Program} {w:World} {K:YD} {mg:YB} {base:Heap} {op oe kd wk:Addr}
theorem Zn (C:Code K mg "are_zones" Od Ib) (T:Ty K mg op oe kd wk) (Ck:Good P w K mg base "is_row" 1 Dn G6) (mV:Good P w K mg base "is_zone" 4 KQ cQ):Good P w K mg base "are_zones" 5 Ib Yc:=by
 refine C.good Yt (λvs H Q E h=>?_) (λf cdv A outer s H vs Q E hr h=>?_)
 ·obtain⟨zs,ws,zones,rfl,_⟩:=h
  rfl
 obtain⟨t,ws,zones,rfl,ht,hd,ok,l8,nd,q⟩:=h
 have lw:=QbX hd
 refine⟨_,(Af (Ce (PW.pt (NK (Et (DR (Ay Ck hr (Aa (pv 0) (Aa Ae (Aa Ae Ab)))))) (Mw (Et (DR (Av (FP rfl) rfl T.all Ik (Aa (Cv (N':=["part"]) rfl (Bp.plain rfl (by trivial) (by trivial) (by trivial)) (Eu (pv 0)) (λ_ _ _ _=>(Ak (i:=0) (show List.Nodup (["part"]:YF) by trivial) rfl (Or.inl rfl))) (λ_ _ _ _=>CW) (λ_ _ _ _=>(Ay mV hr (Aa (pv 0) Ab)))) Ab))))))) (Ah (Bb Dl)) BJ)
 (Ah (Bb (Dk Fi (Av nW rfl T.len Cu (Aa (qd (N':=["name","addresses"]) rfl (Bp.plain rfl (by trivial) (by trivial) (by trivial)) (Eu (pv 0)) (λ_ _ _ _=>(Hl (K:=K) (n:=2) rfl rfl (Aq (Ak (i:=0) (show List.Nodup (["name","addresses"]:YF) by trivial) rfl (Or.inl rfl)) (Aq (Ak (i:=1) (show List.Nodup (["name","addresses"]:YF) by trivial) rfl (Or.inl rfl)) Bv)))) (λ_ _ _ _=>CW) (λ_ _ _ _=>(pv 0)) (λ_ _ _ _=>Dl)) Ab)) (Av Bl rfl T.len Cu (Aa (pv 0) Ab)) (Bs _))))),?_⟩
 show let R0:TS:=_;Am _ R0 _ _ _
 intro R0
 refine⟨_,rfl,.ref t,0,8,rfl,Ij ht,_,rfl,?_⟩
 rw[CZ ht,En (by omega) (by omega)]
 refine Cm ⟨_,rfl,t,rfl,⟨_,SqT.of ht⟩,λl2 hl2=>?_⟩
 refine K9 (r:=[]) hl2 ht (by omega) (λi x HH hx s1 R hR=>?_) (λH' e s1=>?_)
 ·obtain⟨z,hzi,haz⟩:=Paired.Cq hd hx
  exact⟨_,rfl,x,z,rfl,haz.tups (Ar.of s1),ok z (QaD hzi),λH2 s2=>hR _ s2⟩
 refine⟨l2,List.replicate ws.length true,rfl,SqL.of e,_,rfl,?_⟩
 rw[T7]
 have ht1:=s1 _ _ ht
 refine Cm ⟨_,rfl,t,rfl,⟨_,SqT.of ht1⟩,λl hl=>?_⟩
 let J0:YN:=λi σ HH=>∃u1 u2,σ=[u1,u2]/\HH l=some (.dK (Ho (λz:Zone=>Sum.inr z.name) (zones.take i)))/\Same H' HH
 refine nG (xs:=ws) J0 ⟨_,_,rfl,Ac,Ag hl _⟩ (λi σ HH _ h=>?_) (λi x σ HH hx h=>?_) (fun σ HH h=>?_)
 ·obtain⟨u1,u2,rfl,e1,e2⟩:=h
  exact SqT.of (e2 _ _ ht1)
 ·obtain⟨u1,u2,rfl,e1,e2⟩:=h
  obtain⟨z,hzi,tz,uz,rfl,h1,h2⟩:=Paired.Cq hd hx
  refine⟨tz,_,rfl,SqT.of (e2 _ _ (s1 _ _ h1)),rfl,_,_,rfl,_,_,rfl,rfl,?_⟩
  refine BK ⟨_,rfl,_,Sum.inr z.name,e1,rfl,Ao (by rw[K6,Qbs];omega),_,_,rfl,?_,e2.Br Ai.upd hl⟩
  rw[Ac,NZ (f:=λz:Zone=>Sum.inr z.name) (x:=z),Qcy hzi]
  exact λy hy e=>Km nd hzi y hy (Sum.inr.inj e)
 ·obtain⟨u1,u2,rfl,e1,e2⟩:=h
  rw[lw,Qbt] at e1
  refine⟨l,_,rfl,e1,_,rfl,t,_,rfl,.inr (SqT.of (e2 _ _ ht1)),rfl,?_⟩
  rw[K6,lw]
  have:decide (V.int (zones.length:Int)=V.int (zones.length:Int))=true:=QbS rfl
  rw[this]
  exact q _ (s1.trans e2)
theorem gJ (C:Code K mg "is_plan" QG KY) (T:Ty K mg op oe kd wk) (Ck:Good P w K mg base "is_row" 1 Dn G6) (FN:Good P w K mg base "is_within" 2 Eo Mr) (bQ:Good P w K mg base "are_loops" 8 Ie Yi) (bO:Good P w K mg base "are_zones" 5 Ib Yc) (Hh:Good P w K mg base "devices" 2 Gn Ui):Good P w K mg base "is_plan" 9 KY Rp:=by
 have sc:=Jr
 refine C.good Jr (λvs H Q E h=>?_) (λf cdv A outer s H vs Q E hr h=>?_)
 ·obtain⟨pl,most,loops,zones,rfl,_⟩:=h
  rfl
 obtain⟨pl,most,loops,zones,rfl,pa,q⟩:=h
 obtain⟨Ls,zs,ws,zvs,e1,e2,e3,e4,e5⟩:=pa.at_
 refine⟨_,(Af (Ce (Et (DR (Ay Ck hr (Aa (pv 0) (Aa Ae (Aa Ae Ab)))))) (Ah (Bb Dl)) BJ)
 (Af (Hy (pv 0) (CP rfl (Aq (Ak (i:=1) Jr.nd rfl (Or.inl rfl)) (Aq (Ak (i:=2) Jr.nd rfl (Or.inl rfl)) (Aq (Ak (i:=3) Jr.nd rfl (Or.inl rfl)) Bv)))))
 (Af (Ce (PW.pt (NK (Et (DR (Ay FN hr (Aa (pv 1) (Aa Ae (Aa Ae Ab)))))) (NK (Et (DR (Ay bQ hr (Aa (pv 2) Ab)))) (Mw (Et (DR (Ay bO hr (Aa (pv 3) Ab)))))))) (Ah (Bb Dl)) BJ)
 (Ah (Bb (Py NP NP Ae (Av Bl rfl T.len Cu (Aa (Ay Hh hr (Aa (pv 0) Ab)) Ab)) Ae)))))),?_⟩
 show let R0:TS:=_;let R1:TS:=Am _ R0;let R2:TS:=Am _ R1;Am _ R2 _ _ _
 intro R0 R1 R2
 refine⟨_,rfl,.ref pl,3,3,rfl,Ij e1,_,rfl,?_⟩
 rw[CZ e1,En (by show (3:Int)<=3;decide) (by show (3:Int)<=3;decide)]
 refine Cm ⟨_,rfl,pl,_,rfl,SqT.of e1,rfl,_,_,rfl,_,_,rfl,_,_,rfl,rfl,?_⟩
 refine⟨_,rfl,most,1,30,rfl,_,rfl,?_⟩
 rw[QbS pa.pok.mo]
 refine Cm ⟨_,rfl,Ls,ws,loops,rfl,e2,e3,pa.ok.ok,pa.pok.bd,pa.lo,pa.ok.hi,λH1 s1=>⟨_,rfl,Cm ?_⟩⟩
 refine⟨_,rfl,zs,zvs,zones,rfl,s1 _ _ e4,Paired.Bc e5 λ_ _ z=>z.tups (Ar.of s1),λz hz=>⟨pa.pok.znm z hz,pa.pok.zup z hz,λx hx=>pa.pok.bd x (pq pa.ok (pa.pok.zin z hz x hx))⟩,pa.pok.yK,pa.pok.zdi,λH2 s2=>⟨_,rfl,Cm ?_⟩⟩
 have s12:=s1.trans s2
 refine⟨_,rfl,pl,loops,rfl,(pa.same s12).plan,pa.ok,λl xs H3 hl hx hp s3=>?_⟩
 have lx:=QbX hp
 have la:(up (pdL loops) loops.length).length=(Cr loops).length:=by rw[<-K8 loops,QbB]
 have c1:=pa.pok.cnt.1
 have c2:=pa.pok.cnt.2
 refine⟨l,_,rfl,.inl (SqL.of hx),_,_,rfl,rfl,_,rfl,?_⟩
 have g1:decide ((1:Int)<=(xs.length:Int))=true:=QbS (by omega)
 rw[g1]
 refine BK ⟨_,_,rfl,rfl,?_⟩
 have g2:decide ((xs.length:Int)<=30)=true:=QbS (by omega)
 show Q (.bl (decide ((xs.length:Int)<=30))) H3
 rw[g2]
 exact q _ (s12.trans s3)
theorem Tj (C:Code K mg "address_twice" Ju Fw) (T:Ty K mg op oe kd wk) (Hh:Good P w K mg base "devices" 2 Gn Ui):Good P w K mg base "address_twice" 3 Fw Hv:=by
 have sc:=Dy
 refine C.good Dy (λvs H Q E h=>?_) (λf cdv A outer s H vs Q E hr h=>?_)
 ·obtain⟨pl,most,loops,zones,rfl,_⟩:=h
  rfl
 obtain⟨pl,most,loops,zones,rfl,pa,q⟩:=h
 refine⟨_,(Af (Ba (i:=1) Dy.nd rfl (Or.inl rfl) Zc)
 (Af (Cg QbE rfl (Ep (Ay Hh hr (Aa (pv 0) Ab))) (CP rfl (Aq (Ak (i:=2) Dy.nd rfl (Or.inl rfl)) (Aq (Ak (i:=3) Dy.nd rfl (Or.inl rfl)) (Aq (Ak (i:=4) Dy.nd rfl (Or.inl rfl)) Bv))))
 (Af (Ce (Ox (QX (Cy hr) (pv 4) (pv 1))) (Ah (Bb (Bd (Aa Bf (Aa (pv 4) Ab))))) BJ)
 (Ah (GD (Cy hr) (pv 1) (pv 4) Dl rfl))))
 (Ah (Bb MP)))),?_⟩
 show let R0:TS:=_;let R1:TS:=Am (Gp _ R0 _) _;let R2:TS:=Am (Dg _ _ R1) _;Am _ R2 _ _ _
 intro R0 R1 R2
 refine λd hd=>?_
 have s0:=Ag hd (.dK [])
 refine⟨_,rfl,pl,loops,rfl,(pa.same s0).plan,pa.ok,λl xs H1 hl hx hp s1=>⟨l,rfl,⟨_,SqL.of hx⟩,?_⟩⟩
 have lx:=QbX hp
 have la:(up (pdL loops) loops.length).length=(Cr loops).length:=by rw[<-K8 loops,QbB]
 have c2:=pa.pok.cnt.2
 have nd:((up (pdL loops) loops.length).map (·.addr)).Nodup:=by rw[K8];exact pa.pok.nd
 generalize up (pdL loops) loops.length=ds at *
 have hd1:H1 d=some (.dK []):=s1 _ _ Ac
 have nld:l≠d:=λz=>by rw[z,hd1] at hx;cases hx
 have nt:∀HH:Hp,(∃kvs,HH d=some (.dK kvs))->∀zs,HH d≠some (.tup zs):=λHH ⟨kvs,e⟩ zs z=>by rw[e] at z;cases z
 let J1:YN:=λi σ HH=>∃u2 u3 u4,σ=[some (.ref pl),some (.ref d),u2,u3,u4]/\HH d=some (.dK (Ho (λz:Sd=>Sum.inl z.addr) (ds.take i)))/\Ai d H1 HH
 refine TJ (xs:=xs) J1 ⟨_,_,_,rfl,hd1,Ai.refl d H1⟩ (λi σ HH _ h=>?_) (λi x σ HH hx' h=>?_) (fun σ HH h=>?_)
 ·obtain⟨u2,u3,u4,rfl,e1,e2⟩:=h
  exact SqL.of (e2 _ _ hx nld)
 ·obtain⟨u2,u3,u4,rfl,e1,e2⟩:=h
  obtain⟨z,hzi,tz,uz,rfl,h1,h2⟩:=Paired.Cq hp hx'
  have sT:=e2.tup (nt H1 ⟨_,hd1⟩)
  have fr:∀y∈ds.take i,(Sum.inl y.addr:Key)≠Sum.inl z.addr:=λy hy e=>Km nd hzi y hy (Sum.inl.inj e)
  refine⟨tz,_,rfl,SqT.of (sT _ _ h1),rfl,_,_,rfl,_,_,rfl,_,_,rfl,rfl,?_⟩
  refine⟨_,rfl,_,rfl,d,_,rfl,Ds.k (k:=Sum.inl z.addr) e1,_,rfl,?_⟩
  rw[NT fr]
  refine Cm ⟨_,rfl,_,rfl,d,_,rfl,Jc.k (k:=Sum.inl z.addr) e1 (Ao (by rw[K6,Qbs];omega)),_,_,_,rfl,?_,e2.trans Ai.upd⟩
  rw[Ac,NZ (f:=λz:Sd=>Sum.inl z.addr) (x:=z) fr,Qcy hzi]
 ·obtain⟨u2,u3,u4,rfl,e1,e2⟩:=h
  exact q _ ((s0.trans s1).Br e2 hd)
theorem Qs (C:Code K mg "address_stranger" G8 DW) (T:Ty K mg op oe kd wk) (Hh:Good P w K mg base "devices" 2 Gn Ui):Good P w K mg base "address_stranger" 3 DW Hv:=by
 have sc:=Dd
 refine C.good Dd (λvs H Q E h=>?_) (λf cdv A outer s H vs Q E hr h=>?_)
 ·obtain⟨pl,most,loops,zones,rfl,_⟩:=h
  rfl
 obtain⟨pl,most,loops,zones,rfl,pa,q⟩:=h
 refine⟨_,(Af (pX (i:=1) Dd.nd rfl (Or.inl rfl) (N':=["spot","kind","address"]) rfl (Bp.plain rfl (by trivial) (by trivial) (by trivial)) (Ep (Ay Hh hr (Aa (pv 0) Ab))) (λ_ _ _ _=>(Hl (K:=K) (n:=3) rfl rfl (Aq (Ak (i:=0) (show List.Nodup (["spot","kind","address"]:YF) by trivial) rfl (Or.inl rfl)) (Aq (Ak (i:=1) (show List.Nodup (["spot","kind","address"]:YF) by trivial) rfl (Or.inl rfl)) (Aq (Ak (i:=2) (show List.Nodup (["spot","kind","address"]:YF) by trivial) rfl (Or.inl rfl)) Bv))))) (λ_ _ _ _=>(Kz (Bx (Uv (K:=K) rfl) (pv 1) (QV rfl T.WARNING_KINDS) (by with_unfolding_all rfl)))) (λ_ _ _ _=>(pv 2)) (λ_ _ _ _=>Dl))
 (Af (Cg QbE rfl (Eu (Bo Cd (pv 0) Ae (λ_ _=>rfl))) (CP rfl (Aq (Ak (i:=2) Dd.nd rfl (Or.inl rfl)) (Aq (Ak (i:=3) Dd.nd rfl (Or.inl rfl)) Bv)))
 (Ah (Cg QbE rfl (Eu (pv 3)) (Ak (i:=4) Dd.nd rfl (Or.inl rfl))
 (Ah (Ce (Ox (QW (Cy hr) (pv 4) (pv 1))) (Ah (Bb (Bd (Aa Bf (Aa (pv 2) (Aa (pv 4) Ab)))))) BJ)))))
 (Ah (Bb MP)))),?_⟩
 show let R0:TS:=_;let R1:TS:=Gp _ R0 _;let R2:TS:=Dg _ _ R1;let R3:TS:=Am (Dg _ _ R2) _;Am _ R3 _ _ _
 intro R0 R1 R2 R3
 refine⟨_,rfl,pl,loops,rfl,pa.plan,pa.ok,λl xs H1 hl hx hp s1=>⟨l,rfl,⟨_,SqL.of hx⟩,λd hd=>?_⟩⟩
 have lx:=QbX hp
 have la:(up (pdL loops) loops.length).length=(Cr loops).length:=by rw[<-K8 loops,QbB]
 have c2:=pa.pok.cnt.2
 have nd:((up (pdL loops) loops.length).map (·.addr)).Nodup:=by rw[K8];exact pa.pok.nd
 have hw:∀x∈Ek loops,∃z∈(up (pdL loops) loops.length).filter (λz=>Ed z.kind),z.addr=x:=λx hx=>v7 pa.ok hx
 generalize up (pdL loops) loops.length=ds at *
 have nld:l≠d:=Ax hx hd
 let J2:YN:=λi σ HH=>∃u2 u3 u4,σ=[u2,u3,u4]/\HH d=some (.dK (Ho (λz:Sd=>Sum.inl z.addr) ((ds.take i).filter λz=>Ed z.kind)))/\Same H1 HH
 refine bU (xs:=xs) J2 ⟨_,_,_,rfl,Ac,Ag hd _⟩ (λi σ HH _ h=>?_) (λi x σ HH hx' h=>?_) (fun σ HH h=>?_)
 ·obtain⟨u2,u3,u4,rfl,e1,e2⟩:=h
  exact SqL.of (e2 _ _ hx)
 ·obtain⟨u2,u3,u4,rfl,e1,e2⟩:=h
  obtain⟨z,hzi,tz,uz,rfl,h1,h2⟩:=Paired.Cq hp hx'
  have fr:∀y∈(ds.take i).filter (λz=>Ed z.kind),(Sum.inl y.addr:Key)≠Sum.inl z.addr:=λy hy e=>Km nd hzi y (QbK.mp hy).1 (Sum.inl.inj e)
  have et:(ds.take (i+1)).filter (λz=>Ed z.kind)=(ds.take i).filter (λz=>Ed z.kind)++[z].filter (λz=>Ed z.kind):=by rw[Qcy hzi,List.filter_append]
  refine⟨tz,_,rfl,SqT.of (e2 _ _ h1),rfl,_,_,rfl,_,_,rfl,_,_,rfl,rfl,?_⟩
  refine⟨_,rfl,wk,_,rfl,.inr (T.wkT HH),rfl,rfl,_,rfl,?_⟩
  rw[if_neg QaS]
  refine PN (λhc=>?_) (λhc=>?_)
  ·refine⟨_,rfl,_,Sum.inl z.addr,e1,rfl,Ao ?_,_,_,_,rfl,?_,e2.Br Ai.upd hd⟩
   ·rw[K6]
    have:=List.length_filter_le (λz:Sd=>Ed z.kind) (ds.take i)
    rw[Qbs] at this
    omega
   ·rw[Ac,NZ (f:=λz:Sd=>Sum.inl z.addr) (x:=z) fr,et,show [z].filter (λz=>Ed z.kind)=[z] from List.filter_cons_of_pos (p:=λz:Sd=>Ed z.kind) hc]
  ·refine⟨_,_,_,rfl,?_,e2⟩
   rw[et,show [z].filter (λz=>Ed z.kind)=[] from Qau (p:=λz:Sd=>Ed z.kind) (by show ¬Ed z.kind=true;rw[show Ed z.kind=false from hc];decide),QbF]
   exact e1
 obtain⟨u2,u3,u4,rfl,e1,e2⟩:=h
 rw[lx,Qbt] at e1
 have s2:=s1.trans e2
 obtain⟨Ls,zs,ws,zvs,f1,f2,f3,f4,f5⟩:=pa.at_
 refine⟨_,rfl,pl,_,_,_,rfl,rfl,SqT.of (s2 _ _ f1),rfl,zs,rfl,⟨_,SqT.of (s2 _ _ f4)⟩,?_⟩
 let J3:YN:=λi σ HX=>∃u2 u3 u4,σ=[some (.ref pl),some (.ref d),u2,u3,u4]/\HX=HH
 refine Mi (xs:=zvs) J3 ⟨_,_,_,rfl,rfl⟩ (λi σ HX _ h=>?_) (λi x σ HX hx' h=>?_) (fun σ HX h=>?_)
 ·obtain⟨u2,u3,u4,rfl,rfl⟩:=h
  exact SqT.of (s2 _ _ f4)
 ·obtain⟨u2,u3,u4,rfl,rfl⟩:=h
  obtain⟨z,hzi,tz,uz,rfl,h1,h2⟩:=Paired.Cq f5 hx'
  refine⟨tz,_,rfl,SqT.of (s2 _ _ h1),rfl,_,_,rfl,_,_,rfl,rfl,?_⟩
  refine⟨_,rfl,uz,rfl,⟨_,SqT.of (s2 _ _ h2)⟩,?_⟩
  let J4:YN:=λi σ HY=>∃u4,σ=[some (.ref pl),some (.ref d),some (.str z.name),some (.ref uz),u4]/\HY=HX
  refine Mi (xs:=z.adr.map V.int) J4 ⟨_,rfl,rfl⟩ (λi σ HY _ h=>?_) (λi x σ HY hx2 h=>?_) (fun σ HY h=>?_)
  ·obtain⟨u4,rfl,rfl⟩:=h
   exact SqT.of (s2 _ _ h2)
  ·obtain⟨u4,rfl,rfl⟩:=h
   rw[Qbi] at hx2
   obtain⟨n1,hn1,rfl⟩:=Qaw.mp hx2
   obtain⟨y,hy,ey⟩:=hw n1 (pa.pok.zin z (QaD hzi) n1 (QaD hn1))
   have hs:(CT (Ho (λz:Sd=>Sum.inl z.addr) (ds.filter λz=>Ed z.kind)) (Sum.inl n1)).isSome=true:=by
    rw[<-Mp,List.any_eq_true]
    exact⟨_,Qci.mpr ⟨y,hy,rfl⟩,QbS (by show (Sum.inl y.addr:Key)=_;rw[ey])⟩
   refine⟨_,rfl,_,rfl,d,_,rfl,Ds.k (k:=Sum.inl n1) e1,_,rfl,?_⟩
   rw[hs]
   exact Cm ⟨_,rfl,rfl⟩
  ·obtain⟨u4,rfl,rfl⟩:=h
   exact⟨_,_,_,rfl,rfl⟩
 ·obtain⟨u2,u3,u4,rfl,rfl⟩:=h
  exact q _ s2
theorem RZ (C:Code K mg "address_shared" IK Ez) (T:Ty K mg op oe kd wk):Good P w K mg base "address_shared" 1 Ez Hv:=by
 have sc:=Dq
 refine C.good Dq (λvs H Q E h=>?_) (λf cdv A outer s H vs Q E hr h=>?_)
 ·obtain⟨pl,most,loops,zones,rfl,_⟩:=h
  rfl
 obtain⟨pl,most,loops,zones,rfl,pa,q⟩:=h
 refine⟨_,(Af (Ba (i:=1) Dq.nd rfl (Or.inl rfl) Zc)
 (Af (Cg QbE rfl (Eu (Bo Cd (pv 0) Ae (λ_ _=>rfl))) (CP rfl (Aq (Ak (i:=2) Dq.nd rfl (Or.inl rfl)) (Aq (Ak (i:=3) Dq.nd rfl (Or.inl rfl)) Bv)))
 (Ah (Cg QbE rfl (Eu (pv 3)) (Ak (i:=4) Dq.nd rfl (Or.inl rfl))
 (Af (Ce (Ox (QX (Cy hr) (pv 4) (pv 1))) (Ah (Bb (Bd (Aa Bf (Aa (pv 2) (Aa (pv 4) Ab)))))) BJ)
 (Ah (GD (Cy hr) (pv 1) (pv 4) Dl rfl))))))
 (Ah (Bb MP)))),?_⟩
 show let R0:TS:=_;let R1:TS:=Am (Gp _ R0 _) _;let R2:TS:=Dg _ _ R1;let R3:TS:=Am (Dg _ _ R2) _;Am _ R3 _ _ _
 intro R0 R1 R2 R3
 refine λd hd=>?_
 have s0:=Ag hd (.dK [])
 obtain⟨Ls,zs,ws,zvs,f1,f2,f3,f4,f5⟩:=pa.at_
 have nd:=pa.pok.znd
 have zl:=QbX f5
 have c8:=pa.pok.yK
 have II:∀i,((zones.take i).flatMap (·.adr)).length<=30*(zones.take i).length:=λi=>uD λz hz=>(pa.pok.zup z (QaH hz)).2.2
 refine⟨_,rfl,pl,_,_,_,rfl,rfl,SqT.of (s0 _ _ f1),rfl,zs,rfl,⟨_,SqT.of (s0 _ _ f4)⟩,?_⟩
 let J5:YN:=λi σ HX=>∃u2 u3 u4,σ=[some (.ref pl),some (.ref d),u2,u3,u4]/\HX d=some (.dK (Ho Sum.inl ((zones.take i).flatMap (·.adr))))/\Same H HX
 refine Mi (xs:=zvs) J5 ⟨_,_,_,rfl,Ac,s0⟩ (λi σ HX _ h=>?_) (λi x σ HX hx' h=>?_) (fun σ HX h=>?_)
 ·obtain⟨u2,u3,u4,rfl,e1,e2⟩:=h
  exact SqT.of (e2 _ _ f4)
 ·obtain⟨u2,u3,u4,rfl,e1,e2⟩:=h
  obtain⟨z,hzi,tz,uz,rfl,h1,h2⟩:=Paired.Cq f5 hx'
  have hm:=QaD hzi
  refine⟨tz,_,rfl,SqT.of (e2 _ _ h1),rfl,_,_,rfl,_,_,rfl,rfl,?_⟩
  refine⟨_,rfl,uz,rfl,⟨_,SqT.of (e2 _ _ h2)⟩,?_⟩
  have OA:=(pa.pok.zup z hm).2.2
  have hlen:(z.adr.map V.int).length=z.adr.length:=QbB ..
  have hsp:(zones.take (i+1)).flatMap (·.adr)=(zones.take i).flatMap (·.adr)++z.adr:=by rw[Qcy hzi,QaL];simp
  have ndz:((zones.take i).flatMap (·.adr)++z.adr).Nodup:=by
   rw[<-hsp]
   exact (uy (List.take_sublist (i+1) zones)).nodup nd
  have hc:=II i
  have hti:(zones.take i).length<=8:=by rw[Qbs];omega
  let J6:YN:=λj σ HY=>∃u4,σ=[some (.ref pl),some (.ref d),some (.str z.name),some (.ref uz),u4]/\HY d=some (.dK (Ho Sum.inl ((zones.take i).flatMap (·.adr)++z.adr.take j)))/\Same H HY
  refine Mi (xs:=z.adr.map V.int) J6 ⟨_,rfl,by rw[List.take_zero,QbF];exact e1,e2⟩ (λj σ HY _ h=>?_) (λj x σ HY hx2 h=>?_) (fun σ HY h=>?_)
  ·obtain⟨u4,rfl,_,e⟩:=h
   exact SqT.of (e _ _ h2)
  ·obtain⟨u4,rfl,g1,g2⟩:=h
   rw[Qbi] at hx2
   obtain⟨n1,hn1,rfl⟩:=Qaw.mp hx2
   have fr:∀y∈(zones.take i).flatMap (·.adr)++z.adr.take j,(Sum.inl y:Key)≠Sum.inl n1:=λy hy e=>by
    have e:=Sum.inl.inj e
    subst e
    obtain⟨_,n2,n3⟩:=List.nodup_append.mp ndz
    rcases QbD.mp hy with h | h
    ·exact n3 y h y (QaD hn1) rfl
    ·exact Rx n2 hn1 y h rfl
   refine⟨_,rfl,_,rfl,d,_,rfl,Ds.k (k:=Sum.inl n1) g1,_,rfl,?_⟩
   rw[NT fr]
   refine Cm ⟨_,rfl,_,rfl,d,_,rfl,Jc.k (k:=Sum.inl n1) g1 (Ao ?_),_,rfl,?_,g2.Br Ai.upd hd⟩
   ·rw[K6,QaQ,Qbs]
    omega
   ·rw[Ac,NZ (f:=Sum.inl) (x:=n1) fr,Qcy hn1,Qbh]
  ·obtain⟨u4,rfl,g1,g2⟩:=h
   rw[hlen,Qbt,<-hsp] at g1
   exact⟨_,_,_,rfl,g1,g2⟩
 ·obtain⟨u2,u3,u4,rfl,e1,e2⟩:=h
  exact q _ e2
theorem Ux (C:Code K mg "part_crowded" JM Gb) (T:Ty K mg op oe kd wk) (yh:Good P w K mg base "parts" 2 OD cX):Good P w K mg base "part_crowded" 3 Gb Hv:=by
 have sc:=Fq
 refine C.good Fq (λvs H Q E h=>?_) (λf cdv A outer s H vs Q E hr h=>?_)
 ·obtain⟨pl,most,loops,zones,rfl,_⟩:=h
  rfl
 obtain⟨pl,most,loops,zones,rfl,pa,q⟩:=h
 refine⟨_,(Af (Cg QbE rfl (CN rfl T.range (Aa (Av Bl rfl T.len Cu (Aa (Bo Cd (pv 0) Ae (λ_ _=>rfl)) Ab)) Ab)) (Ak (i:=1) Fq.nd rfl (Or.inl rfl))
 (Ah (Cg QbE rfl (kY rfl T.enumerate (Ay yh hr (Aa (pv 0) (Aa (pv 1) Ab)))) (CP rfl (Aq (Ak (i:=2) Fq.nd rfl (Or.inl rfl)) (Aq (Ak (i:=3) Fq.nd rfl (Or.inl rfl)) Bv)))
 (Ah (Ce (Bx Rw (Av Bl rfl T.len Cu (Aa (pv 3) Ab)) (Bo Cd (pv 0) Ae (λ_ _=>rfl)) (Bs _)) (Ah (Bb (Bd (Aa Bf (Aa (pv 1) (Aa (pv 2) Ab)))))) BJ)))))
 (Ah (Bb MP))),?_⟩
 show let R0:TS:=_;let R1:TS:=Gp _ R0 _;let R2:TS:=Dg _ _ R1;Am (Dg _ _ R2) _ _ _ _
 intro R0 R1 R2
 obtain⟨Ls,zs,ws,zvs,f1,f2,f3,f4,f5⟩:=pa.at_
 have lw:=QbX f3
 have l3:=pa.ok.hi
 refine⟨_,rfl,pl,_,_,_,rfl,rfl,SqT.of f1,rfl,Ls,_,rfl,.inr (SqT.of f2),_,rfl,by omega,by omega,?_⟩
 rw[Qbk]
 refine DX (λi σ HX=>∃u1 u2 u3,σ=[some (.ref pl),u1,u2,u3]/\Same H HX) ⟨_,_,_,rfl,Same.refl H⟩ (λi σ HX hi h=>?_) (fun σ HX h=>?_)
 ·obtain⟨u1,u2,u3,rfl,e1⟩:=h
  have hwi:ws[i]?=some ws[i]:=Qan hi
  obtain⟨ps,hpi,t,vs',ev,ht,hps⟩:=Paired.Cq f3 hwi
  have hm:=QaD hpi
  have okl:=pa.ok.ok ps hm
  refine⟨_,rfl,_,rfl,pl,Ls,t,_,_,ws,vs',i,ps,?_,e1 _ _ f1,e1 _ _ f2,by rw[hwi,ev],e1 _ _ ht,Paired.Bc hps λ_ _ z=>z.tups (Ar.of e1),okl.ok,okl.hi,λl xs H1 hl hx hp hfr s1=>⟨l,rfl,⟨_,SqL.of hx⟩,?_⟩⟩
  ·show [V.ref pl,.int (0+(i:Int))]++[]=_
   rw[Qco]
   rfl
  let J7:YN:=λj σ HY=>∃u2 u3,σ=[some (.ref pl),some (.int (0+(i:Int))),u2,u3]/\Same H1 HY
  refine m9 (xs:=xs) (lo:=0) J7 ⟨_,_,rfl,Same.refl H1⟩ (λj σ HY _ h=>?_) (λj x p σ HY hx' h hp'=>?_) (fun σ HY h=>?_)
  ·obtain⟨u2,u3,rfl,g1⟩:=h
   exact SqL.of (g1 _ _ hx)
  ·obtain⟨u2,u3,rfl,g1⟩:=h
   obtain⟨sps,hsi,qq,ys,rfl,hq1,hq2⟩:=Paired.Cq hp hx'
   have ly:=QbX hq2
   have s2:=Ag hp' (.tup [.int ((0+j:Nat):Int),.ref qq])
   have g2:=g1.trans s2
   have hfew:(sps.length:Int)<=most:=pa.pok.few ps hm _ (qg (lp:=i) sps (QaD hsi))
   refine⟨p,_,rfl,SqT.of Ac,rfl,_,_,rfl,_,_,rfl,rfl,?_⟩
   refine⟨_,rfl,qq,_,rfl,.inl (SqL.of (g2 _ _ hq1)),_,rfl,pl,_,_,_,rfl,rfl,SqT.of (g2 _ _ (s1 _ _ (e1 _ _ f1))),rfl,_,_,rfl,rfl,_,rfl,?_⟩
   have hg:decide ((ys.length:Int) > most)=false:=QbG (by omega)
   rw[show decide (most < (ys.length:Int))=false from hg]
   exact Cm ⟨_,_,rfl,g2⟩
  ·obtain⟨u2,u3,rfl,g1⟩:=h
   exact⟨_,_,_,rfl,e1.trans (s1.trans g1)⟩
 ·obtain⟨u1,u2,u3,rfl,e1⟩:=h
  exact q _ e1
theorem qu (C:Code K mg "wrong" Vt Oz) (T:Ty K mg op oe kd wk) (U8:Good P w K mg base "address_twice" 3 Fw Hv) (V6:Good P w K mg base "part_crowded" 3 Gb Hv) (Q7:Good P w K mg base "address_stranger" 3 DW Hv) (TF:Good P w K mg base "address_shared" 1 Ez Hv):Good P w K mg base "wrong" 4 Oz Hv:=by
 refine C.good pK (λvs H Q E h=>?_) (λf cdv A outer s H vs Q E hr h=>?_)
 ·obtain⟨pl,most,loops,zones,rfl,_⟩:=h
  rfl
 obtain⟨pl,most,loops,zones,rfl,pa,q⟩:=h
 refine⟨_,(Ah (Bb (Za (Ay U8 hr (Aa (pv 0) Ab)) (Za (Ay V6 hr (Aa (pv 0) Ab)) (Za (Ay Q7 hr (Aa (pv 0) Ab)) (Dj (Ay TF hr (Aa (pv 0) Ab)))))))),?_⟩
 exact⟨_,rfl,pl,most,loops,zones,rfl,pa,λH1 s1=>⟨rfl,_,rfl,pl,most,loops,zones,rfl,pa.same s1,λH2 s2=>⟨rfl,_,rfl,pl,most,loops,zones,rfl,(pa.same s1).same s2,λH3 s3=>⟨rfl,_,rfl,pl,most,loops,zones,rfl,((pa.same s1).same s2).same s3,λH4 s4=>q _ (s1.trans (s2.trans (s3.trans s4)))⟩⟩⟩⟩
theorem Zj (C:Code K mg "is_let_by" Ob HW) (T:Ty K mg op oe kd wk) (mX:Good P w K mg base "is_plan" 9 KY Rp) (yg:Good P w K mg base "wrong" 4 Oz Hv):Good P w K mg base "is_let_by" 10 HW Rp:=by
 refine C.good Yq (λvs H Q E h=>?_) (λf cdv A outer s H vs Q E hr h=>?_)
 ·obtain⟨pl,most,loops,zones,rfl,_⟩:=h
  rfl
 obtain⟨pl,most,loops,zones,rfl,pa,q⟩:=h
 refine⟨_,(Ah (Bb (Dv (Ay mX hr (Aa (pv 0) Ab)) (Dj (Dk zX (Ay yg hr (Aa (pv 0) Ab)) MP (Bs _)))))),?_⟩
 exact⟨_,rfl,pl,most,loops,zones,rfl,pa,λH1 s1=>⟨_,rfl,BK ⟨_,rfl,pl,most,loops,zones,rfl,pa.same s1,λH2 s2=>⟨rfl,q _ (s1.trans s2)⟩⟩⟩⟩
end
abbrev S9:Stmt:=top 64
abbrev M9:YF:=["_law_e"]
theorem Kw:Az ["_law_e","_law_kinds","_law_names_here"] M9 (Aj S9):=⟨rfl,rfl,rfl,by trivial,rfl,by trivial,by trivial⟩
structure Er (K:YD) (mg:YB) (hc c0 c1 c2 c3 c4 c5 c6 c7 c8 c9 c10 c11 c12:Addr):Prop where
 ve:mg "ValueError"=none
 bF:mg "HouseError"=some (.ref hc)
 aX:XCl K hc
 xJ:mg "NoPlan"=some (.ref c0)
 xG:mg "NoText"=some (.ref c1)
 Uz:mg "NoStretch"=some (.ref c2)
 xH:mg "NoSpot"=some (.ref c3)
 Ww:mg "NoOpener"=some (.ref c4)
 gU:mg "NoAddress"=some (.ref c5)
 qO:mg "NoRules"=some (.ref c6)
 xM:mg "NoHand"=some (.ref c7)
 qP:mg "NoPanel"=some (.ref c8)
 xK:mg "NoLink"=some (.ref c9)
 AD:mg "NoLog"=some (.ref c10)
 xO:mg "NoDeed"=some (.ref c11)
 AC:mg "NoRow"=some (.ref c12)
structure Knd (K:YD) (hc C:Addr) (cs:List Addr) (j:Nat):Prop where
 xc:XCl K C
 sub:subIn K (.ref C) (.ref hc)=some true
 kit:∀i d,cs[i]?=some d->kitOne K (.ref C) (.ref d)=some (decide (i=j))
 kv:kitOne K (.ref C) (.type "ValueError")=some true
def vD (j:Nat):Str:=(["plan","text","stretch","spot","opener","address","rules","hand","panel","link","log","deed","row"]:YF).getD j ""
def bsl (j:Nat):List Bool:=[decide (0=j),decide (1=j),decide (2=j),decide (3=j),decide (4=j),decide (5=j),decide (6=j),decide (7=j),decide (8=j),decide (9=j),decide (10=j),decide (11=j),decide (12=j)]
theorem oA:∀j,j < 13->(bsl j).countP id=1:=by decide
theorem BE:∀j,j < 13->(bsl j)[j]?=some true:=by decide
theorem BD:∀j,j < 13->∀m,m < j->(bsl j)[m]?=some false:=by decide
theorem wordAt:∀j,j < 13->([.str "plan",.str "text",.str "stretch",.str "spot",.str "opener",.str "address",.str "rules",.str "hand",.str "panel",.str "link",.str "log",.str "deed",.str "row"]:YG)[j]?=some (.str (vD j))
 | 0,_=>rfl
 | 1,_=>rfl
 | 2,_=>rfl
 | 3,_=>rfl
 | 4,_=>rfl
 | 5,_=>rfl
 | 6,_=>rfl
 | 7,_=>rfl
 | 8,_=>rfl
 | 9,_=>rfl
 | 10,_=>rfl
 | 11,_=>rfl
 | 12,_=>rfl
 | n+13,h=>absurd h (by omega)
def jU (K:YD) (hc:Addr) (cs:List Addr):Sp:=λvs H Q _=>∃(e C:Addr) (j:Nat),vs=[.ref e]/\H e=some (xo e C)/\Knd K hc C cs j/\j < 13/\∀H',Same H H'->Q (.str (vD j)) H'
section
variable {P:Program} {w:World} {K:YD} {mg:YB} {base:Heap} {hc c0 c1 c2 c3 c4 c5 c6 c7 c8 c9 c10 c11 c12:Addr}
theorem wY (C:Code K mg "_law_kind" S9 M9) (T:Nm mg) (XE:Er K mg hc c0 c1 c2 c3 c4 c5 c6 c7 c8 c9 c10 c11 c12):XD P w K mg base "_law_kind" 1 M9 (jU K hc [c0,c1,c2,c3,c4,c5,c6,c7,c8,c9,c10,c11,c12]):=by
 refine C.C0 Kw (λvs H Q E h=>?_) (λf cdv A outer s H vs Q hr h=>?_)
 ·obtain⟨e,C,j,rfl,_⟩:=h
  rfl
 obtain⟨e,C,j,rfl,he,k,hj,q⟩:=h
 refine⟨_,(@Af _ _ _ _ _ (@Ba _ _ 1 _ _ _ _ Kw.nd rfl (Or.inl rfl) (BP (Aa (Av DK rfl T.isinstance Bq (Aa (pv 0) (Aa (Ea (v:=.ref _) rfl XE.xJ rfl) Ab))) (Aa (Av DK rfl T.isinstance Bq (Aa (pv 0) (Aa (Ea (v:=.ref _) rfl XE.xG rfl) Ab))) (Aa (Av DK rfl T.isinstance Bq (Aa (pv 0) (Aa (Ea (v:=.ref _) rfl XE.Uz rfl) Ab))) (Aa (Av DK rfl T.isinstance Bq (Aa (pv 0) (Aa (Ea (v:=.ref _) rfl XE.xH rfl) Ab))) Ab))))) (by rfl) (by first | exact .inl rfl | exact .inr rfl))
 (@Af _ _ _ _ _ (@Ba _ _ 1 _ _ _ _ Kw.nd rfl (Or.inl rfl) (@Bg _ _ _ _ _ _ _ _ lD (pv 1) (BP (Aa (Av DK rfl T.isinstance Bq (Aa (pv 0) (Aa (Ea (v:=.ref _) rfl XE.Ww rfl) Ab))) (Aa (Av DK rfl T.isinstance Bq (Aa (pv 0) (Aa (Ea (v:=.ref _) rfl XE.gU rfl) Ab))) (Aa (Av DK rfl T.isinstance Bq (Aa (pv 0) (Aa (Ea (v:=.ref _) rfl XE.qO rfl) Ab))) (Aa (Av DK rfl T.isinstance Bq (Aa (pv 0) (Aa (Ea (v:=.ref _) rfl XE.xM rfl) Ab))) Ab)))))) (by rfl) (by first | exact .inl rfl | exact .inr rfl))
 (@Af _ _ _ _ _ (@Ba _ _ 1 _ _ _ _ Kw.nd rfl (Or.inl rfl) (@Bg _ _ _ _ _ _ _ _ lD (pv 1) (BP (Aa (Av DK rfl T.isinstance Bq (Aa (pv 0) (Aa (Ea (v:=.ref _) rfl XE.qP rfl) Ab))) (Aa (Av DK rfl T.isinstance Bq (Aa (pv 0) (Aa (Ea (v:=.ref _) rfl XE.xK rfl) Ab))) (Aa (Av DK rfl T.isinstance Bq (Aa (pv 0) (Aa (Ea (v:=.ref _) rfl XE.AD rfl) Ab))) (Aa (Av DK rfl T.isinstance Bq (Aa (pv 0) (Aa (Ea (v:=.ref _) rfl XE.xO rfl) Ab))) Ab)))))) (by rfl) (by first | exact .inl rfl | exact .inr rfl))
 (@Af _ _ _ _ _ (Bj (BW Qaq Qal Qam Bu (pv 1) (Aa (Av DK rfl T.isinstance Bq (Aa (pv 0) (Aa (Ea (v:=.ref _) rfl XE.AC rfl) Ab))) Ab)))
 (@Af _ _ _ _ _ (@Ba _ _ 2 _ _ _ _ Kw.nd rfl (Or.inl rfl) (@BP _ _ _ _ (@Aa _ _ _ _ _ (@Bf _ _ _ _) (@Aa _ _ _ _ _ (@Bf _ _ _ _) (@Aa _ _ _ _ _ (@Bf _ _ _ _) (@Aa _ _ _ _ _ (@Bf _ _ _ _) (@Aa _ _ _ _ _ (@Bf _ _ _ _) (@Aa _ _ _ _ _ (@Bf _ _ _ _) (@Aa _ _ _ _ _ (@Bf _ _ _ _) (@Aa _ _ _ _ _ (@Bf _ _ _ _) (@Aa _ _ _ _ _ (@Bf _ _ _ _) (@Aa _ _ _ _ _ (@Bf _ _ _ _) (@Aa _ _ _ _ _ (@Bf _ _ _ _) (@Aa _ _ _ _ _ (@Bf _ _ _ _) (@Ab _) Bh) Bh) Bh) Bh) Bh) Bh) Bh) Bh) Bh) Bh) Bh) Bh)) (by rfl) (by first | exact .inl rfl | exact .inr rfl))
 (@Af _ _ _ _ _ (Bj (BW Qaq Qal Qam Bu (pv 2) (Aa Bf Ab)))
 (@Af _ _ _ _ _ (Ce (PW.pt (NK (Et (DR (Av nY rfl T.isinstance Bq (Aa (pv 0) (Aa (Mf (v:=.ty "ValueError") rfl XE.ve PyProof.Rows.Boot.«ValueError» rfl) Ab))))) (Mw (Bx Ut (BW Qaq PySem.F.slot_list_count PySem.F.type_list_count lR (pv 1) (Aa Dl Ab)) Ae (Bs _))))) (@Ah _ _ _ (Bb Bf)) BJ)
 (@Ah _ _ _ (Bb (Bo CV (pv 2) (BW Qaq PySem.F.slot_list_index PySem.F.type_list_index lQ (pv 1) (Aa Dl Ab)) (λ_ _=>rfl))))))))))),?_⟩
 show let R0:TS:=_;let R1:TS:=Am _ R0;let R2:TS:=Am _ R1;let R3:TS:=Am _ R2;let R4:TS:=Am _ R3;let R5:TS:=Am _ R4;let R6:TS:=Am _ R5;Am _ R6 _ _ _
 intro R0 R1 R2 R3 R4 R5 R6
 refine⟨_,rfl,Gg he k.xc (k.kit 0 _ rfl) ⟨_,rfl,Gg he k.xc (k.kit 1 _ rfl) ⟨_,rfl,Gg he k.xc (k.kit 2 _ rfl) ⟨_,rfl,Gg he k.xc (k.kit 3 _ rfl) ⟨Aw (by show 4<=1000;decide),λl1 hl1=>?_⟩⟩⟩⟩⟩
 have s1:=Ag hl1 (.lst [V.bl (decide (0=j)),.bl (decide (1=j)),.bl (decide (2=j)),.bl (decide (3=j))])
 have e1:upd H l1 (.lst [V.bl (decide (0=j)),.bl (decide (1=j)),.bl (decide (2=j)),.bl (decide (3=j))]) l1=some (.lst [V.bl (decide (0=j)),.bl (decide (1=j)),.bl (decide (2=j)),.bl (decide (3=j))]):=Ac
 generalize upd H l1 (.lst [V.bl (decide (0=j)),.bl (decide (1=j)),.bl (decide (2=j)),.bl (decide (3=j))])=H1 at s1 e1 ⊢
 have he1:=s1 _ _ he
 refine⟨_,rfl,⟨_,rfl,Gg he1 k.xc (k.kit 4 _ rfl) ⟨_,rfl,Gg he1 k.xc (k.kit 5 _ rfl) ⟨_,rfl,Gg he1 k.xc (k.kit 6 _ rfl) ⟨_,rfl,Gg he1 k.xc (k.kit 7 _ rfl) ⟨Aw (by show 4<=1000;decide),λla hla=>⟨l1,la,_,_,rfl,rfl,Ag hla _ _ _ e1,Ac,Aw (by show 8<=1000;decide),λlb hlb=>?_⟩⟩⟩⟩⟩⟩⟩
 have sa:=Ag hla (.lst [V.bl (decide (4=j)),.bl (decide (5=j)),.bl (decide (6=j)),.bl (decide (7=j))])
 have sb:=Ag hlb (.lst ([V.bl (decide (0=j)),.bl (decide (1=j)),.bl (decide (2=j)),.bl (decide (3=j))]++[V.bl (decide (4=j)),.bl (decide (5=j)),.bl (decide (6=j)),.bl (decide (7=j))]))
 have e2:upd (upd H1 la (.lst [V.bl (decide (4=j)),.bl (decide (5=j)),.bl (decide (6=j)),.bl (decide (7=j))])) lb (.lst ([V.bl (decide (0=j)),.bl (decide (1=j)),.bl (decide (2=j)),.bl (decide (3=j))]++[V.bl (decide (4=j)),.bl (decide (5=j)),.bl (decide (6=j)),.bl (decide (7=j))])) lb=some (.lst ([V.bl (decide (0=j)),.bl (decide (1=j)),.bl (decide (2=j)),.bl (decide (3=j))]++[V.bl (decide (4=j)),.bl (decide (5=j)),.bl (decide (6=j)),.bl (decide (7=j))])):=Ac
 have s2:=s1.trans (sa.trans sb)
 generalize upd (upd H1 la (.lst [V.bl (decide (4=j)),.bl (decide (5=j)),.bl (decide (6=j)),.bl (decide (7=j))])) lb (.lst ([V.bl (decide (0=j)),.bl (decide (1=j)),.bl (decide (2=j)),.bl (decide (3=j))]++[V.bl (decide (4=j)),.bl (decide (5=j)),.bl (decide (6=j)),.bl (decide (7=j))]))=H2 at sb e2 s2 ⊢
 have he2:=s2 _ _ he
 refine⟨_,rfl,⟨_,rfl,Gg he2 k.xc (k.kit 8 _ rfl) ⟨_,rfl,Gg he2 k.xc (k.kit 9 _ rfl) ⟨_,rfl,Gg he2 k.xc (k.kit 10 _ rfl) ⟨_,rfl,Gg he2 k.xc (k.kit 11 _ rfl) ⟨Aw (by show 4<=1000;decide),λlc hlc=>⟨lb,lc,_,_,rfl,rfl,Ag hlc _ _ _ e2,Ac,Aw (by show 12<=1000;decide),λld hld=>?_⟩⟩⟩⟩⟩⟩⟩
 have sc:=Ag hlc (.lst [V.bl (decide (8=j)),.bl (decide (9=j)),.bl (decide (10=j)),.bl (decide (11=j))])
 have sd:=Ag hld (.lst ([V.bl (decide (0=j)),.bl (decide (1=j)),.bl (decide (2=j)),.bl (decide (3=j))]++[V.bl (decide (4=j)),.bl (decide (5=j)),.bl (decide (6=j)),.bl (decide (7=j))]++[V.bl (decide (8=j)),.bl (decide (9=j)),.bl (decide (10=j)),.bl (decide (11=j))]))
 have e3:upd (upd H2 lc (.lst [V.bl (decide (8=j)),.bl (decide (9=j)),.bl (decide (10=j)),.bl (decide (11=j))])) ld (.lst ([V.bl (decide (0=j)),.bl (decide (1=j)),.bl (decide (2=j)),.bl (decide (3=j))]++[V.bl (decide (4=j)),.bl (decide (5=j)),.bl (decide (6=j)),.bl (decide (7=j))]++[V.bl (decide (8=j)),.bl (decide (9=j)),.bl (decide (10=j)),.bl (decide (11=j))])) ld=some (.lst ([V.bl (decide (0=j)),.bl (decide (1=j)),.bl (decide (2=j)),.bl (decide (3=j))]++[V.bl (decide (4=j)),.bl (decide (5=j)),.bl (decide (6=j)),.bl (decide (7=j))]++[V.bl (decide (8=j)),.bl (decide (9=j)),.bl (decide (10=j)),.bl (decide (11=j))])):=Ac
 have s3:=s2.trans (sc.trans sd)
 have fd:H ld=none:=s2.free (sc.free hld)
 generalize upd (upd H2 lc (.lst [V.bl (decide (8=j)),.bl (decide (9=j)),.bl (decide (10=j)),.bl (decide (11=j))])) ld (.lst ([V.bl (decide (0=j)),.bl (decide (1=j)),.bl (decide (2=j)),.bl (decide (3=j))]++[V.bl (decide (4=j)),.bl (decide (5=j)),.bl (decide (6=j)),.bl (decide (7=j))]++[V.bl (decide (8=j)),.bl (decide (9=j)),.bl (decide (10=j)),.bl (decide (11=j))]))=H3 at sd e3 s3 ⊢
 have he3:=s3 _ _ he
 refine⟨_,rfl,.inl ⟨rfl,_,SqL.of e3⟩,_,rfl,Gg he3 k.xc (k.kit 12 _ rfl) ⟨ld,_,_,rfl,rfl,e3,Ao (by show 12<=1000;decide),?_⟩⟩
 have e4:upd H3 ld (.lst ([V.bl (decide (0=j)),.bl (decide (1=j)),.bl (decide (2=j)),.bl (decide (3=j))]++[V.bl (decide (4=j)),.bl (decide (5=j)),.bl (decide (6=j)),.bl (decide (7=j))]++[V.bl (decide (8=j)),.bl (decide (9=j)),.bl (decide (10=j)),.bl (decide (11=j))]++[.bl (decide (12=j))])) ld=some (.lst ((bsl j).map V.bl)):=Ac
 have s4:Same H (upd H3 ld (.lst ([V.bl (decide (0=j)),.bl (decide (1=j)),.bl (decide (2=j)),.bl (decide (3=j))]++[V.bl (decide (4=j)),.bl (decide (5=j)),.bl (decide (6=j)),.bl (decide (7=j))]++[V.bl (decide (8=j)),.bl (decide (9=j)),.bl (decide (10=j)),.bl (decide (11=j))]++[.bl (decide (12=j))]))):=s3.Br Ai.upd fd
 generalize upd H3 ld (.lst ([V.bl (decide (0=j)),.bl (decide (1=j)),.bl (decide (2=j)),.bl (decide (3=j))]++[V.bl (decide (4=j)),.bl (decide (5=j)),.bl (decide (6=j)),.bl (decide (7=j))]++[V.bl (decide (8=j)),.bl (decide (9=j)),.bl (decide (10=j)),.bl (decide (11=j))]++[.bl (decide (12=j))]))=H4 at e4 s4 ⊢
 have he4:=s4 _ _ he
 refine⟨Aw (by show 12<=1000;decide),λln hln=>?_⟩
 have nd:ld≠ln:=Ax e4 hln
 have fn:H ln=none:=s4.free hln
 have s5:=s4.trans (Ag hln (.lst [V.str "plan",.str "text",.str "stretch",.str "spot",.str "opener",.str "address",.str "rules",.str "hand",.str "panel",.str "link",.str "log",.str "deed"]))
 have e5:=Ag hln (.lst [V.str "plan",.str "text",.str "stretch",.str "spot",.str "opener",.str "address",.str "rules",.str "hand",.str "panel",.str "link",.str "log",.str "deed"]) _ _ e4
 refine⟨_,rfl,.inl ⟨rfl,_,SqL.of Ac⟩,ln,_,_,rfl,rfl,Ac,Ao (by show 12<=1000;decide),?_⟩
 generalize upd H4 ln (.lst [V.str "plan",.str "text",.str "stretch",.str "spot",.str "opener",.str "address",.str "rules",.str "hand",.str "panel",.str "link",.str "log",.str "deed"])=H5 at s5 e5 ⊢
 have e6:∀o,upd H5 ln o ld=some (.lst ((bsl j).map V.bl)):=λo=>by rw[Al nd];exact e5
 have s6:∀o,Same H (upd H5 ln o):=λo=>s5.Br Ai.upd fn
 refine⟨_,rfl,xR (s6 _ _ _ he) k.xc k.kv ⟨_,rfl,Cm ?_⟩⟩
 refine⟨_,rfl,.inl ⟨rfl,_,SqL.of (e6 _)⟩,nO (e6 _) ⟨rfl,_,rfl,?_⟩⟩
 rw[oA j hj]
 refine CF rfl ?_
 refine⟨_,rfl,_,rfl,.inl ⟨rfl,_,SqL.of (e6 _)⟩,mC (e6 _) (by omega) (BE j hj) (BD j hj) ⟨ln,_,_,_,rfl,rfl,SqL.of Ac,Ec (wordAt j hj),q _ (s6 _)⟩⟩
end
instance:DecidableEq Sp3:=λa b=>if h:a.lp=b.lp/\a.at_=b.at_/\a.n=b.n then isTrue (by cases a;cases b;simp at h;obtain⟨h1,h2,h3⟩:=h;subst h1 h2 h3;rfl) else isFalse λe=>h (by rw[e];exact⟨rfl,rfl,rfl⟩)
def cd3 (s:Sp3):Int:=s.lp*10000+s.at_*100+s.n
structure Bd3 (s:Sp3):Prop where
 l0:0<=s.lp
 l1:s.lp<=2
 a0:0<=s.at_
 a1:s.at_<=12
 n0:0<=s.n
 n1:s.n<=3
theorem Bd3.c3 {s:Sp3} (h:Bd3 s):C3 s.lp s.at_ s.n (cd3 s):=⟨h.a0,by have:=h.a1;omega,h.n0,by have:=h.n1;omega,rfl⟩
theorem JH {α : Type} {c:α->Int} {f:Nat->List α} {g:Nat->Int} (hg:∀i,g i<=g (i+1)) (h1:∀i,((f i).map c).Pairwise (· < ·)) (h2:∀i,∀x∈f i,g i<=c x/\c x < g (i+1)):∀n,((up f n).map c).Pairwise (· < ·)/\∀x∈up f n,g 0<=c x/\c x < g n
 | 0=>by rw[LQ];exact⟨List.Pairwise.nil,λx h=>by cases h⟩
 | n+1=>by
  obtain⟨a,b⟩:=JH hg h1 h2 n
  have g0:∀m,g 0<=g m:=λm=>by
   induction m with
   | zero=>exact Int.le_refl _
   | succ m ih=>exact Int.le_trans ih (hg m)
  rw[Dc,QbC]
  refine⟨List.pairwise_append.mpr ⟨a,h1 n,λx hx y hy=>?_⟩,λx hx=>?_⟩
  ·obtain⟨x',hx',rfl⟩:=Qci.mp hx
   obtain⟨y',hy',rfl⟩:=Qci.mp hy
   have:=b x' hx'
   have:=h2 n y' hy'
   omega
  ·rcases QbD.mp hx with h | h
   ·have:=b x h
    have:=hg n
    omega
   ·have:=h2 n x h
    have:=g0 n
    omega
theorem gk (k:Int):∀m:Nat,((List.range m).map λn:Nat=>k+(n:Int)).Pairwise (· < ·):=λm=>by
 rw[List.pairwise_map]
 exact List.pairwise_lt_range.imp λ{a b} h=>by omega
theorem Ss (lp a:Int):∀(n:Nat) (ds:List Dev),(Du lp a n ds).map (λd=>cd3 d.spot)=(List.range' n ds.length).map λj:Nat=>lp*10000+a*100+(j:Int)
 | _,[]=>rfl
 | n,d::r=>by
  rw[Qbr,List.range'_succ,QbZ,<-Ss lp a (n+1) r]
  rfl
theorem Y6 (lp a:Int) (p:Place):((BZ lp a p).map λd=>cd3 d.spot).Pairwise (· < ·):=by
 unfold BZ
 split
 ·exact List.Pairwise.nil
 ·rw[QbZ,Ss]
  refine List.pairwise_cons.mpr ⟨λx hx=>?_,?_⟩
  ·obtain⟨j,hj,rfl⟩:=Qci.mp hx
   have:=List.mem_range'_1.mp hj
   show lp*10000+a*100+0 < _
   omega
  ·rw[List.pairwise_map]
   exact (List.pairwise_lt_range').imp λ{x y} h=>by omega
theorem Uh (lp a:Int):∀(n:Nat) (ds:List Dev) (d:Sd),d∈Du lp a n ds->d.lp=lp/\d.at_=a/\(n:Int)<=d.n/\d.n < (n:Int)+ds.length
 | _,[],d,h=>by cases h
 | n,x::r,d,h=>by
  rcases QbY.mp h with rfl | h
  ·exact⟨rfl,rfl,Int.le_refl _,by show (n:Int) < (n:Int)+((r.length+1:Nat):Int);omega⟩
  ·obtain⟨h1,h2,h3,h4⟩:=Uh lp a (n+1) r d h
   exact⟨h1,h2,by omega,by rw[Qbr];omega⟩
theorem Sw {lp a:Int} {p:Place} (h:p.spur.length<=3) {d:Sd} (hd:d∈BZ lp a p):d.lp=lp/\d.at_=a/\0<=d.n/\d.n<=3:=by
 unfold BZ at hd
 split at hd
 ·cases hd
 ·rcases QbY.mp hd with rfl | hd
  ·exact⟨rfl,rfl,Int.le_refl _,by show (0:Int)<=3;decide⟩
  ·obtain⟨h1,h2,h3,h4⟩:=Uh lp a 1 p.spur d hd
   exact⟨h1,h2,by omega,by omega⟩
theorem GK {α β : Type} {o:Option α} {g:α->List β} {x:β} (h:x∈ifs o g):∃a,o=some a/\x∈g a:=by
 cases o with
 | none=>cases h
 | some a=>exact⟨a,rfl,h⟩
theorem Hi {α : Type} {f:Nat->List α} {x:α}:∀{n:Nat},x∈up f n->∃i,i < n/\x∈f i
 | 0,h=>by rw[LQ] at h;cases h
 | n+1,h=>by
  rw[Dc] at h
  rcases QbD.mp h with h | h
  ·obtain⟨i,a,b⟩:=Hi h
   exact⟨i,by omega,b⟩
  ·exact⟨n,Qby n,h⟩
theorem JW {α β : Type} {c:β->Int} {o:Option α} {g:α->List β} (h:∀a,o=some a->((g a).map c).Pairwise (· < ·)):((ifs o g).map c).Pairwise (· < ·):=by
 cases o with
 | none=>exact List.Pairwise.nil
 | some a=>exact h a rfl
theorem yr {loops:YU} (ok:Eh loops) {k:Nat} {d:Sd} (h:d∈pdL loops k):d.lp=(k:Int)/\1<=d.at_/\d.at_<=12/\0<=d.n/\d.n<=3:=by
 obtain⟨ps,hps,h⟩:=GK h
 have okl:=ok.ok ps (QaD hps)
 obtain⟨i,hi,h⟩:=Hi h
 obtain⟨p,hp,h⟩:=GK h
 obtain⟨h1,h2,h3,h4⟩:=Sw (okl.ok p (QaD hp)).spur h
 have:=okl.hi
 exact⟨h1,by rw[h2];omega,by rw[h2];omega,h3,h4⟩
theorem uI {loops:YU} (ok:Eh loops):((up (pdL loops) loops.length).map λd=>cd3 d.spot).Pairwise (· < ·):=by
 refine (JH (g:=λi=>(i:Int)*10000) (λi=>by omega) (λk=>JW λps hps=>?_) (λk d hd=>?_) loops.length).1
 ·have okl:=ok.ok ps (QaD hps)
  refine (JH (g:=λi=>(k:Int)*10000+(1+i:Int)*100) (λi=>by omega) (λi=>JW λp hp=>Y6 _ _ p) (λi d hd=>?_) ps.length).1
  obtain⟨p,hp,hd⟩:=GK hd
  obtain⟨h1,h2,h3,h4⟩:=Sw (okl.ok p (QaD hp)).spur hd
  show (k:Int)*10000+(1+i:Int)*100<=d.lp*10000+d.at_*100+d.n/\d.lp*10000+d.at_*100+d.n < (k:Int)*10000+(1+((i+1:Nat):Int))*100
  rw[h1,h2]
  push_cast
  omega
 ·obtain⟨h1,h2,h3,h4,h5⟩:=yr ok hd
  show (k:Int)*10000<=d.lp*10000+d.at_*100+d.n/\d.lp*10000+d.at_*100+d.n < ((k+1:Nat):Int)*10000
  rw[h1]
  push_cast
  omega
theorem cP {lp:Int} {ps:List Place} (ok:OkL ps) {i:Nat} {s:Sp3} (h:s∈st1 lp ps i):s.lp=lp/\s.at_=((1+i:Nat):Int)/\i < ps.length/\0<=s.n/\s.n<=3:=by
 obtain⟨p,hp,h⟩:=GK h
 have h3:=(ok.ok p (QaD hp)).spur
 obtain⟨n,hn,rfl⟩:=Qci.mp h
 have:=QbU.mp hn
 exact⟨rfl,rfl,(Qah.mp hp).1,by show (0:Int)<=(n:Int);omega,by show (n:Int)<=3;omega⟩
theorem jJ {loops:YU} (ok:Eh loops) {k:Nat} {s:Sp3} (h:s∈stL loops k):s.lp=(k:Int)/\0<=s.at_/\s.at_<=12/\0<=s.n/\s.n<=3:=by
 obtain⟨ps,hps,h⟩:=GK h
 have okl:=ok.ok ps (QaD hps)
 have IG:=okl.hi
 rcases QbY.mp h with rfl | h
 ·exact⟨rfl,by show (0:Int)<=0;decide,by show (0:Int)<=12;decide,by show (0:Int)<=0;decide,by show (0:Int)<=3;decide⟩
 ·obtain⟨i,hi,h⟩:=Hi h
  obtain⟨h1,h2,h3,h4,h5⟩:=cP okl h
  exact⟨h1,by rw[h2];omega,by rw[h2];omega,h4,h5⟩
theorem wu {loops:YU} (ok:Eh loops):((up (stL loops) loops.length).map cd3).Pairwise (· < ·):=by
 refine (JH (g:=λi=>(i:Int)*10000) (λi=>by omega) (λk=>JW λps hps=>?_) (λk d hd=>?_) loops.length).1
 ·have okl:=ok.ok ps (QaD hps)
  obtain⟨a,b⟩:=JH (c:=cd3) (f:=st1 (k:Int) ps) (g:=λi=>(k:Int)*10000+(1+i:Int)*100) (λi=>by omega) (λi=>JW λp hp=>by
   rw[Qcl]
   have:=gk ((k:Int)*10000+((1+i:Nat):Int)*100) (p.spur.length+1)
   exact this) (λi s hs=>by
   obtain⟨h1,h2,h3,h4,h5⟩:=cP okl hs
   show (k:Int)*10000+(1+i:Int)*100<=s.lp*10000+s.at_*100+s.n/\s.lp*10000+s.at_*100+s.n < (k:Int)*10000+(1+((i+1:Nat):Int))*100
   rw[h1,h2]
   push_cast
   omega) ps.length
  rw[QbZ]
  refine List.pairwise_cons.mpr ⟨λx hx=>?_,a⟩
  obtain⟨s,hs,rfl⟩:=Qci.mp hx
  have h0:=(b s hs).1
  have h0:(k:Int)*10000+(1+((0:Nat):Int))*100<=cd3 s:=h0
  show (k:Int)*10000+0*100+0 < cd3 s
  omega
 ·obtain⟨h1,h2,h3,h4,h5⟩:=jJ ok hd
  show (k:Int)*10000<=d.lp*10000+d.at_*100+d.n/\d.lp*10000+d.at_*100+d.n < ((k+1:Nat):Int)*10000
  rw[h1]
  push_cast
  omega
theorem B7 {loops:YU} (ok:Eh loops):∀s∈up (stL loops) loops.length,Bd3 s:=λs hs=>by
 obtain⟨k,hk,hs⟩:=Hi hs
 obtain⟨h1,h2,h3,h4,h5⟩:=jJ ok hs
 have:=ok.hi
 exact⟨by omega,by omega,h2,h3,h4,h5⟩
theorem Vx {α : Type} {c:α->Int} {l:List α} (h:(l.map c).Pairwise (· < ·)):l.Nodup:=by
 rw[List.pairwise_map] at h
 exact h.imp λ{a b} hab e=>by rw[e] at hab;omega
abbrev IV:Stmt:=(inClass (top 55) 0)
abbrev EY:YF:=["self","plan"]
theorem RV:Az ["self","plan"] EY (Aj IV):=⟨rfl,rfl,rfl,by trivial,rfl,by trivial,by trivial⟩
abbrev Ga:Stmt:=(inClass (top 55) 1)
abbrev Cj:YF:=["self","stretch"]
theorem N6:Az ["self","stretch"] Cj (Aj Ga):=⟨rfl,rfl,rfl,by trivial,rfl,by trivial,by trivial⟩
abbrev Og:Stmt:=(inClass (top 55) 3)
abbrev Ig:YF:=["self","stretch"]
theorem Yv:Az ["self","stretch"] Ig (Aj Og):=⟨rfl,rfl,rfl,by trivial,rfl,by trivial,by trivial⟩
abbrev Lf:Stmt:=(inClass (top 55) 4)
abbrev Gw:YF:=["self","stretch"]
theorem Vr:Az ["self","stretch"] Gw (Aj Lf):=⟨rfl,rfl,rfl,by trivial,rfl,by trivial,by trivial⟩
abbrev Mu:Stmt:=(inClass (top 55) 5)
abbrev G9:YF:=["self","stretch"]
theorem Xi:Az ["self","stretch"] G9 (Aj Mu):=⟨rfl,rfl,rfl,by trivial,rfl,by trivial,by trivial⟩
structure Tw (K:YD) (mg:YB) (op oe kd wk C:Addr):Prop extends Ty K mg op oe kd wk where
 cl:Cls K C
 mgC:mg "Wires"=some (.ref C)
 lO:Im K C "plan"
 Hg:Im K C "states"
 Zu:Im K C "filled"
 K5:Im K C "gaps"
def ff (pl d1 d2 d3:Addr):List (Str×V):=[("plan",.ref pl),("states",.ref d1),("filled",.ref d2),("gaps",.ref d3)]
theorem qN:(["plan","states","filled","gaps"]:YF).Nodup:=by trivial
section
variable (pl d1 d2 d3:Addr)
theorem fnd:((ff pl d1 d2 d3).map (·.1)).Nodup:=qN
theorem Hq:List.lookup ("states":Str) (ff pl d1 d2 d3)=some (V.ref d1):=ZX (i:=1) (fnd pl d1 d2 d3) rfl
end
theorem fno {pl d1 d2 d3:Addr} {x:Str} (h:x∉(["plan","states","filled","gaps"]:YF)):(ff pl d1 d2 d3).lookup x=none:=vO h
def k3 (s:Sp3):List Key:=[.inl s.lp,.inl s.at_,.inl s.n]
theorem O2 {s t:Sp3} (h:k3 s=k3 t):s=t:=by
 cases s
 cases t
 simp[k3] at h
 obtain⟨h1,h2,h3⟩:=h
 subst h1 h2 h3
 rfl
abbrev YR:=List (Sp3×Str)
def stV (hs:YR):YL:=hs.map λx=>(k3 x.1,.str x.2)
theorem JG {κ : Type} [DecidableEq κ]:∀{l:List (κ×V)} {k:κ},(∀x∈l,x.1≠k)->CT l k=none
 | [],_,_=>rfl
 | a::r,k,h=>by rw[Iu (h a (QaR ..))];exact JG λx hx=>h x (QaE _ hx)
theorem Te {κ : Type} [DecidableEq κ] {l:List (κ×V)} {k:κ} {v:V} (h:∃x∈l,x.1=k):putK l k v=l.map λkv=>if kv.1=k then (kv.1,v) else kv:=by
 unfold putK
 obtain⟨x,hx,e⟩:=h
 exact if_pos (List.any_eq_true.mpr ⟨x,hx,QbS e⟩)
def JL {β : Type} (l:List (Sp3×β)) (s:Sp3) (v:β):List (Sp3×β):=l.map λx=>if x.1=s then (x.1,v) else x
theorem Iv {β : Type} (l:List (Sp3×β)) (s:Sp3) (v:β):(JL l s v).map (·.1)=l.map (·.1):=by
 unfold JL
 rw[Qcl]
 refine QaM λx _=>?_
 show (if x.1=s then (x.1,v) else x).1=x.1
 split <;> rfl
theorem SX {β : Type} (l:List (Sp3×β)) (s:Sp3) (v:β):(JL l s v).length=l.length:=QbB ..
theorem Vm {hs:YR} {s:Sp3} {z:Str} (h:s∈hs.map (·.1)):putK (stV hs) (k3 s) (.str z)=stV (JL hs s z):=by
 obtain⟨x,hx,e⟩:=Qci.mp h
 rw[Te (l:=stV hs) ⟨_,Qci.mpr ⟨x,hx,rfl⟩,by show k3 x.1=_;rw[e]⟩]
 unfold stV JL
 rw[Qcl,Qcl]
 refine QaM λy _=>?_
 show (if k3 y.1=k3 s then (k3 y.1,V.str z) else (k3 y.1,V.str y.2))=(k3 (if y.1=s then (y.1,z) else y).1,V.str (if y.1=s then (y.1,z) else y).2)
 by_cases e:y.1=s
 ·rw[if_pos (by rw[e]),if_pos e]
 ·rw[if_neg (λz=>e (O2 z)),if_neg e]
def HeldAt (H:Hp) (v:V):Option (Str×Int)->Prop
 | none=>v=.non
 | some d=>∃t,v=.ref t/\H t=some (.tup [.str d.1,.int d.2])
def Ld (H:Hp) (kv:List Key×V) (x:Sp3×Option (Str×Int)):Prop:=kv.1=k3 x.1/\HeldAt H kv.2 x.2
theorem Ld.tups {H H':Hp} (s:Ar H H') {kv:List Key×V} {x:Sp3×Option (Str×Int)} (h:Ld H kv x):Ld H' kv x:=by
 obtain⟨h1,h2⟩:=h
 refine⟨h1,?_⟩
 cases e:x.2 with
 | none=>rw[e] at h2;exact h2
 | some d=>
  rw[e] at h2
  obtain⟨t,a,b⟩:=h2
  exact⟨t,a,s _ _ b⟩
def k2 (g:Gt):List Key:=[.inl g.lp,.inl g.at_]
theorem O4 {s t:Gt} (h:k2 s=k2 t):s=t:=by
 cases s
 cases t
 simp[k2] at h
 obtain⟨h1,h2⟩:=h
 subst h1 h2
 rfl
abbrev YT:=List (Gt×Bool)
def gpV (gs:YT):YL:=gs.map λx=>(k2 x.1,.bl x.2)
structure WAt (C:Addr) (H:Hp) (p pl d1 d2 d3:Addr) (hs:YR) (fl:List (Sp3×Option (Str×Int))) (gs:YT):Prop where
 ins:∃dx,H p=some (.ins C dx (ff pl d1 d2 d3))
 st:H d1=some (.dT (stV hs))
 fi:∃kvs,H d2=some (.dT kvs)/\Paired (Ld H) kvs fl
 nd1:(hs.map (·.1)).Nodup
 nd2:(fl.map (·.1)).Nodup
 l1:hs.length<=200
 l2:fl.length<=200
 gp:H d3=some (.dT (gpV gs))
 nd3:(gs.map (·.1)).Nodup
 l3:gs.length<=200
 n13:d1≠d3
 n23:d2≠d3
abbrev YQ:=List (Sp3×Option (Str×Int))
theorem WAt.same {C:Addr} {H H':Hp} {p pl d1 d2 d3:Addr} {hs:YR} {fl:YQ} {gs:YT} (h:WAt C H p pl d1 d2 d3 hs fl gs) (s:Same H H'):WAt C H' p pl d1 d2 d3 hs fl gs:=by
 obtain⟨dx,e⟩:=h.ins
 obtain⟨kvs,e2,e3⟩:=h.fi
 exact⟨⟨dx,s _ _ e⟩,s _ _ h.st,⟨kvs,s _ _ e2,Paired.Bc e3 λ_ _ z=>z.tups (Ar.of s)⟩,h.nd1,h.nd2,h.l1,h.l2,s _ _ h.gp,h.nd3,h.l3,h.n13,h.n23⟩
theorem WAt.DY {C b:Addr} {H H':Hp} {p pl d1 d2 d3:Addr} {hs:YR} {fl:YQ} {gs:YT} (h:WAt C H p pl d1 d2 d3 hs fl gs) (s:Ai b H H') (nt:∀zs,H b≠some (.tup zs)) (n0:p≠b) (n1:d1≠b) (n2:d2≠b) (n3:d3≠b):WAt C H' p pl d1 d2 d3 hs fl gs:=by
 obtain⟨dx,e⟩:=h.ins
 obtain⟨kvs,e2,e3⟩:=h.fi
 exact⟨⟨dx,s _ _ e n0⟩,s _ _ h.st n1,⟨kvs,s _ _ e2 n2,Paired.Bc e3 λ_ _ z=>z.tups (s.tup nt)⟩,h.nd1,h.nd2,h.l1,h.l2,s _ _ h.gp n3,h.nd3,h.l3,h.n13,h.n23⟩
def aP (H:Hp) (v:V) (ss:YV):Prop:=∃b s,v=.ref b/\H b=some (.tup [.int s.lp,.int s.at_,.int s.n])/\s∈ss
def Uj (C ca:Addr):Sp:=λvs H Q E=>∃p pl d1 d2 d3 hs fl gs v,vs=[.ref p,v]/\WAt C H p pl d1 d2 d3 hs fl gs/\Th H v/\(aP H v (hs.map (·.1))->∀H',Same H H'->Q .non H')/\(¬aP H v (hs.map (·.1))->∀H',Same H H'->E (.ref ca) none H')
def Vp (C ca:Addr) (z:Str):Sp:=λvs H Q E=>∃p pl d1 d2 d3 hs fl gs v,vs=[.ref p,v]/\WAt C H p pl d1 d2 d3 hs fl gs/\d1≠d2/\Th H v/\(∀b s,v=.ref b->H b=some (.tup [.int s.lp,.int s.at_,.int s.n])->s∈hs.map (·.1)->∀H',WAt C H' p pl d1 d2 d3 (JL hs s z) fl gs->Ai d1 H H'->Q .non H')/\(¬aP H v (hs.map (·.1))->∀H',Same H H'->E (.ref ca) none H')
theorem fJ {xs:YG} (hl:xs.length=3) (h:xs.all isW=true):∃a b c,xs=[.int a,.int b,.int c]:=by
 match xs,hl with
 | [x1,x2,x3],_=>
  simp only[List.all_cons,List.all_nil,Bool.and_true,Qbw] at h
  obtain⟨h1,h2,h3⟩:=h
  obtain⟨a,rfl⟩:=O5 h1
  obtain⟨b,rfl⟩:=O5 h2
  obtain⟨c,rfl⟩:=O5 h3
  exact⟨a,b,c,rfl⟩
theorem vX {H:Hp} {v:V} (h:Jd (Fp H v) 3=true):∃b a c d,v=.ref b/\H b=some (.tup [.int a,.int c,.int d]):=by
 cases e:Fp H v with
 | none=>rw[e] at h;cases h
 | some xs=>
  rw[e,Jk,Qbw] at h
  have h1:(decide ((3:Int)<=xs.length)&&decide ((xs.length:Int)<=3))=true:=h.1
  rw[Qbw] at h1
  have h2:=Qbj h1.1
  have h3:=Qbj h1.2
  obtain⟨a,c,d,rfl⟩:=fJ (by omega) h.2
  obtain⟨b,rfl,hb⟩:=PB e
  exact⟨b,a,c,d,rfl,hb⟩
theorem aZ {H:Hp} {v:V} {ss:YV} (h:aP H v ss):Jd (Fp H v) 3=true:=by
 obtain⟨b,s,rfl,hb,_⟩:=h
 rw[CZ hb]
 rfl
theorem Z2 {H:Hp}:∀{kvs:YL} {fl:YQ},Paired (Ld H) kvs fl->kvs.map (·.1)=fl.map λx=>k3 x.1
 | _,_,.nil=>rfl
 | _,_,.cons h t=>by rw[QbZ,QbZ,h.1,Z2 t]
section
variable {P:Program} {w:World} {K:YD} {mg:YB} {base:Heap} {op oe kd wk C:Addr} {hc c0 c1 c2 c3 c4 c5 c6 c7 c8 c9 c10 c11 c12:Addr}
theorem Ti (c:Ip K C "check_stretch" "Wires.check_stretch" Ga Cj) (T:Tw K mg op oe kd wk C) (XE:Er K mg hc c0 c1 c2 c3 c4 c5 c6 c7 c8 c9 c10 c11 c12) (Oo:Knd K hc c2 [c0,c1,c2,c3,c4,c5,c6,c7,c8,c9,c10,c11,c12] 2) (Ni:Good P w K mg base "are_wholes" 2 Gd Qz):Fd P w K mg base C "check_stretch" 3 Cj (Uj C c2):=by
 refine c.U6 N6 (λvs H Q E h=>?_) (λX f cdv A outer s H vs Q E eX hx hr h=>?_)
 ·obtain⟨p,pl,d1,d2,d3,hs,fl,gs,v,rfl,_⟩:=h
  rfl
 subst eX
 obtain⟨p,pl,d1,d2,d3,hs,fl,gs,v,rfl,R,th,q,qE⟩:=h
 refine⟨_,(Ah (Ce (PW.pt (NK (Et (DR (Ay Ni hr (Aa (pv 1) (Aa Ae Ab))))) (Mw (Ox (QW (Cy hr) (pv 1) (Gs (pv 0) rfl)))))) (Ah (Y5 rfl Oo.xc rfl XE.Uz hx (Aa Bf Ab))) BJ)),?_⟩
 show let R0:TS:=_;Gp _ R0 _ _ _ _
 intro R0
 refine⟨_,rfl,v,3,rfl,th,λH1 s1=>⟨_,rfl,?_⟩⟩
 cases ew:Jd (Fp H v) 3 with
 | false=>exact BK ⟨Aw (by show 1<=1000;decide),qE (λz=>by rw[aZ z] at ew;cases ew) _ s1⟩
 | true=>
  obtain⟨b,a1,a2,a3,rfl,hb⟩:=vX ew
  have R1:=R.same s1
  obtain⟨dx,hp⟩:=R1.ins
  refine Cm ⟨_,rfl,_,rfl,p,C,dx,_,_,rfl,hp,T.cl,T.Hg,Hq pl d1 d2 d3,d1,_,rfl,Ds.t (k:=k3 ⟨a1,a2,a3⟩) R1.st (s1 _ _ hb),_,rfl,?_⟩
  by_cases hin:(⟨a1,a2,a3⟩ : Sp3)∈hs.map (·.1)
  ·have hs':(CT (stV hs) (k3 ⟨a1,a2,a3⟩)).isSome=true:=by
    obtain⟨x,hx,e⟩:=Qci.mp hin
    rw[<-Mp,List.any_eq_true]
    exact⟨_,Qci.mpr ⟨x,hx,rfl⟩,QbS (by show k3 x.1=_;rw[e])⟩
   rw[hs']
   exact Cm (q ⟨b,⟨a1,a2,a3⟩,rfl,hb,hin⟩ _ s1)
  ·have hn:CT (stV hs) (k3 ⟨a1,a2,a3⟩)=none:=JG λx hx e=>by
    obtain⟨y,hy,rfl⟩:=Qci.mp hx
    exact hin (Qci.mpr ⟨y,hy,O2 e⟩)
   rw[hn]
   refine BK ⟨Aw (by show 1<=1000;decide),qE (λ⟨b',s',e1,e2,e3⟩=>?_) _ s1⟩
   cases e1
   rw[hb] at e2
   cases s'
   cases e2
   exact hin e3
theorem An {ca:Addr} (c:Ip K C "cut" "Wires.cut" Og Ig) (T:Tw K mg op oe kd wk C) (Ej:Fd P w K mg base C "check_stretch" 3 Cj (Uj C ca)):Fd P w K mg base C "cut" 4 Ig (Vp C ca "cut"):=by
 refine c.U6 Yv (λvs H Q E h=>?_) (λX f cdv A outer s H vs Q E eX hx hr h=>?_)
 ·obtain⟨p,pl,d1,d2,d3,hs,fl,gs,v,rfl,_⟩:=h
  rfl
 subst eX
 obtain⟨p,pl,d1,d2,d3,hs,fl,gs,v,rfl,R,n12,th,q,qE⟩:=h
 refine⟨_,(Af (Bj (Ky (pv 0) T.cl Ej hr hx (Aa (pv 1) Ab)))
 (Ah (GD (Cy hr) (Gs (pv 0) rfl) (pv 1) Bf rfl))),?_⟩
 show let R0:TS:=_;Am _ R0 _ _ _
 intro R0
 obtain⟨dx,hp⟩:=R.ins
 refine⟨_,rfl,p,dx,_,rfl,hp,fno (by trivial),_,rfl,p,pl,d1,d2,d3,hs,fl,gs,v,rfl,R,th,(λhin H1 s1=>?_),qE⟩
 obtain⟨b,s',rfl,hb,hin⟩:=hin
 have R1:=R.same s1
 obtain⟨dx1,hp1⟩:=R1.ins
 have hd1:=R1.st
 have npd:p≠d1:=λz=>by rw[z,hd1] at hp1;cases hp1
 have nt:∀zs,H1 d1≠some (.tup zs):=λzs z=>by rw[hd1] at z;cases z
 have l1:=R.l1
 refine⟨_,rfl,p,C,dx1,_,_,rfl,hp1,T.cl,T.Hg,Hq pl d1 d2 d3,_,rfl,d1,_,rfl,Jc.t (k:=k3 s') hd1 (s1 _ _ hb) (Ao (by unfold stV;rw[QbB];omega)),?_⟩
 rw[Vm hin]
 obtain⟨kvs,hk,hf⟩:=R1.fi
 have sT:=Ar.upd (o:=.dT (stV (JL hs s' "cut"))) nt
 exact q b s' rfl hb hin _ ⟨⟨dx1,by rw[Al npd];exact hp1⟩,Ac,⟨kvs,by rw[Al n12.symm];exact hk,Paired.Bc hf λ_ _ z=>z.tups sT⟩,by rw[Iv];exact R.nd1,R.nd2,by rw[SX];exact l1,R.l2,by rw[Al R.n13.symm];exact R1.gp,R.nd3,R.l3,R.n13,R.n23⟩ ((Ai.of s1).trans Ai.upd)
theorem qx {ca:Addr} (c:Ip K C "short" "Wires.short" Lf Gw) (T:Tw K mg op oe kd wk C) (Ej:Fd P w K mg base C "check_stretch" 3 Cj (Uj C ca)):Fd P w K mg base C "short" 4 Gw (Vp C ca "short"):=by
 refine c.U6 Vr (λvs H Q E h=>?_) (λX f cdv A outer s H vs Q E eX hx hr h=>?_)
 ·obtain⟨p,pl,d1,d2,d3,hs,fl,gs,v,rfl,_⟩:=h
  rfl
 subst eX
 obtain⟨p,pl,d1,d2,d3,hs,fl,gs,v,rfl,R,n12,th,q,qE⟩:=h
 refine⟨_,(Af (Bj (Ky (pv 0) T.cl Ej hr hx (Aa (pv 1) Ab)))
 (Ah (GD (Cy hr) (Gs (pv 0) rfl) (pv 1) Bf rfl))),?_⟩
 show let R0:TS:=_;Am _ R0 _ _ _
 intro R0
 obtain⟨dx,hp⟩:=R.ins
 refine⟨_,rfl,p,dx,_,rfl,hp,fno (by trivial),_,rfl,p,pl,d1,d2,d3,hs,fl,gs,v,rfl,R,th,(λhin H1 s1=>?_),qE⟩
 obtain⟨b,s',rfl,hb,hin⟩:=hin
 have R1:=R.same s1
 obtain⟨dx1,hp1⟩:=R1.ins
 have hd1:=R1.st
 have npd:p≠d1:=λz=>by rw[z,hd1] at hp1;cases hp1
 have nt:∀zs,H1 d1≠some (.tup zs):=λzs z=>by rw[hd1] at z;cases z
 have l1:=R.l1
 refine⟨_,rfl,p,C,dx1,_,_,rfl,hp1,T.cl,T.Hg,Hq pl d1 d2 d3,_,rfl,d1,_,rfl,Jc.t (k:=k3 s') hd1 (s1 _ _ hb) (Ao (by unfold stV;rw[QbB];omega)),?_⟩
 rw[Vm hin]
 obtain⟨kvs,hk,hf⟩:=R1.fi
 have sT:=Ar.upd (o:=.dT (stV (JL hs s' "short"))) nt
 exact q b s' rfl hb hin _ ⟨⟨dx1,by rw[Al npd];exact hp1⟩,Ac,⟨kvs,by rw[Al n12.symm];exact hk,Paired.Bc hf λ_ _ z=>z.tups sT⟩,by rw[Iv];exact R.nd1,R.nd2,by rw[SX];exact l1,R.l2,by rw[Al R.n13.symm];exact R1.gp,R.nd3,R.l3,R.n13,R.n23⟩ ((Ai.of s1).trans Ai.upd)
theorem wW {ca:Addr} (c:Ip K C "mend" "Wires.mend" Mu G9) (T:Tw K mg op oe kd wk C) (Ej:Fd P w K mg base C "check_stretch" 3 Cj (Uj C ca)):Fd P w K mg base C "mend" 4 G9 (Vp C ca "whole"):=by
 refine c.U6 Xi (λvs H Q E h=>?_) (λX f cdv A outer s H vs Q E eX hx hr h=>?_)
 ·obtain⟨p,pl,d1,d2,d3,hs,fl,gs,v,rfl,_⟩:=h
  rfl
 subst eX
 obtain⟨p,pl,d1,d2,d3,hs,fl,gs,v,rfl,R,n12,th,q,qE⟩:=h
 refine⟨_,(Af (Bj (Ky (pv 0) T.cl Ej hr hx (Aa (pv 1) Ab)))
 (Ah (GD (Cy hr) (Gs (pv 0) rfl) (pv 1) Bf rfl))),?_⟩
 show let R0:TS:=_;Am _ R0 _ _ _
 intro R0
 obtain⟨dx,hp⟩:=R.ins
 refine⟨_,rfl,p,dx,_,rfl,hp,fno (by trivial),_,rfl,p,pl,d1,d2,d3,hs,fl,gs,v,rfl,R,th,(λhin H1 s1=>?_),qE⟩
 obtain⟨b,s',rfl,hb,hin⟩:=hin
 have R1:=R.same s1
 obtain⟨dx1,hp1⟩:=R1.ins
 have hd1:=R1.st
 have npd:p≠d1:=λz=>by rw[z,hd1] at hp1;cases hp1
 have nt:∀zs,H1 d1≠some (.tup zs):=λzs z=>by rw[hd1] at z;cases z
 have l1:=R.l1
 refine⟨_,rfl,p,C,dx1,_,_,rfl,hp1,T.cl,T.Hg,Hq pl d1 d2 d3,_,rfl,d1,_,rfl,Jc.t (k:=k3 s') hd1 (s1 _ _ hb) (Ao (by unfold stV;rw[QbB];omega)),?_⟩
 rw[Vm hin]
 obtain⟨kvs,hk,hf⟩:=R1.fi
 have sT:=Ar.upd (o:=.dT (stV (JL hs s' "whole"))) nt
 exact q b s' rfl hb hin _ ⟨⟨dx1,by rw[Al npd];exact hp1⟩,Ac,⟨kvs,by rw[Al n12.symm];exact hk,Paired.Bc hf λ_ _ z=>z.tups sT⟩,by rw[Iv];exact R.nd1,R.nd2,by rw[SX];exact l1,R.l2,by rw[Al R.n13.symm];exact R1.gp,R.nd3,R.l3,R.n13,R.n23⟩ ((Ai.of s1).trans Ai.upd)
end
theorem Wj {H HH:Hp} {d:Addr} {o:Obj} {u:HO} (s:Same (upd H d (.frz o u)) HH) (h:H d=some u):Same H (upd HH d u):=λc x e=>by
 by_cases z:c=d
 ·subst z
  rw[Ac,<-h,e]
 ·rw[Al z]
  exact s _ _ (by rw[Al z];exact e)
def hs0 (loops:YU):YR:=(up (stL loops) loops.length).map λs=>(s,"whole")
def fl0 (loops:YU):YQ:=(up (pdL loops) loops.length).map λd=>(d.spot,some (d.kind,d.addr))
theorem V1 (loops:YU):(hs0 loops).map (·.1)=up (stL loops) loops.length:=by unfold hs0;rw[Qcl];exact List.map_id _
theorem yq (loops:YU):(fl0 loops).map (·.1)=(up (pdL loops) loops.length).map Sd.spot:=by unfold fl0;rw[Qcl];rfl
theorem zy {loops:YU} (ok:Eh loops):(up (stL loops) loops.length).length<=200:=by
 have:=Dt (f:=stL loops) (c:=49) (Vn ok) loops.length
 have:=ok.hi
 omega
theorem Be {loops:YU} (ok:Eh loops):(up (pdL loops) loops.length).length<=200:=by
 have:=Dt (f:=pdL loops) (c:=48) (dI ok) loops.length
 have:=ok.hi
 omega
theorem lA {loops:YU} (ok:Eh loops):(up (gtL loops) loops.length).length<=200:=by
 have:=Dt (f:=gtL loops) (c:=14) (V2 ok) loops.length
 have:=ok.hi
 omega
theorem B6 {loops:YU} (ok:Eh loops):(up (stL loops) loops.length).Nodup:=Vx (wu ok)
theorem De {loops:YU} (ok:Eh loops):((up (pdL loops) loops.length).map Sd.spot).Nodup:=Vx (c:=cd3) (by rw[Qcl];exact uI ok)
def gs0 (loops:YU):YT:=(up (gtL loops) loops.length).map λg=>(g,false)
theorem V4 (loops:YU):(gs0 loops).map (·.1)=up (gtL loops) loops.length:=by unfold gs0;rw[Qcl];exact List.map_id _
def cd2 (g:Gt):Int:=g.lp*100+g.at_
theorem V3 {lp:Int} {ps:List Place} {i:Nat} {g:Gt} (h:g∈gt1 lp ps i):g.lp=lp/\g.at_=((1+i:Nat):Int)/\i < ps.length:=by
 obtain⟨p,hp,h⟩:=GK h
 split at h
 ·have:g=⟨lp,((1+i:Nat):Int)⟩:=by simpa using h
  rw[this]
  exact⟨rfl,rfl,(Qah.mp hp).1⟩
 ·cases h
theorem A1 {loops:YU} (ok:Eh loops) {k:Nat} {g:Gt} (h:g∈gtL loops k):g.lp=(k:Int)/\0<=g.at_/\g.at_<=13:=by
 obtain⟨ps,hps,h⟩:=GK h
 have hi:=(ok.ok ps (QaD hps)).hi
 rcases QbD.mp h with h | h
 ·rcases QbY.mp h with rfl | h
  ·exact⟨rfl,by show (0:Int)<=0;decide,by show (0:Int)<=13;decide⟩
  ·obtain⟨i,hi',h⟩:=Hi h
   obtain⟨h1,h2,h3⟩:=V3 h
   exact⟨h1,by rw[h2];omega,by rw[h2];omega⟩
 ·have:g=⟨(k:Int),(ps.length:Int)+1⟩:=by simpa using h
  rw[this]
  exact⟨rfl,by show (0:Int)<=(ps.length:Int)+1;omega,by show (ps.length:Int)+1<=13;omega⟩
theorem dY {loops:YU} (ok:Eh loops):((up (gtL loops) loops.length).map cd2).Pairwise (· < ·):=by
 refine (JH (g:=λi=>(i:Int)*100) (λi=>by omega) (λk=>JW λps hps=>?_) (λk g hg=>?_) loops.length).1
 ·obtain⟨a,b⟩:=JH (c:=cd2) (f:=gt1 (k:Int) ps) (g:=λi=>(k:Int)*100+(1+i:Int)) (λi=>by omega) (λi=>JW λp hp=>by
   split
   ·exact Qat _ _
   ·exact List.Pairwise.nil) (λi g hg=>by
   obtain⟨h1,h2,h3⟩:=V3 hg
   show (k:Int)*100+(1+i:Int)<=g.lp*100+g.at_/\g.lp*100+g.at_ < (k:Int)*100+(1+((i+1:Nat):Int))
   rw[h1,h2]
   push_cast
   omega) ps.length
  rw[QbC,QbZ]
  have hb:∀x∈up (gt1 (k:Int) ps) ps.length,(k:Int)*100+(1+((0:Nat):Int))<=cd2 x/\cd2 x < (k:Int)*100+(1+((ps.length:Nat):Int)):=b
  refine List.pairwise_append.mpr ⟨List.pairwise_cons.mpr ⟨λx hx=>?_,a⟩,Qat _ _,λx hx y hy=>?_⟩
  ·obtain⟨z,hz,rfl⟩:=Qci.mp hx
   have:=hb z hz
   show (k:Int)*100+0 < cd2 z
   omega
  ·have hy:y=(k:Int)*100+((ps.length:Int)+1):=by simpa [cd2] using hy
   rcases QbY.mp hx with rfl | hx
   ·show (k:Int)*100+0 < y
    omega
   ·obtain⟨z,hz,rfl⟩:=Qci.mp hx
    have:=hb z hz
    omega
 ·obtain⟨h1,h2,h3⟩:=A1 ok hg
  show (k:Int)*100<=g.lp*100+g.at_/\g.lp*100+g.at_ < ((k+1:Nat):Int)*100
  rw[h1]
  push_cast
  omega
theorem vK {loops:YU} (ok:Eh loops):(up (gtL loops) loops.length).Nodup:=Vx (dY ok)
def dj (C:Addr):Sp:=λvs H Q _=>∃p dx pl most loops zones,vs=[.ref p,.ref pl]/\H p=some (.ins C dx [])/\Fz H pl most loops zones/\∀d1 d2 d3 H',H d1=none->H d2=none->H d3=none->d1≠d2->WAt C H' p pl d1 d2 d3 (hs0 loops) (fl0 loops) (gs0 loops)->Ai p H H'->Q .non H'
section
variable {P:Program} {w:World} {K:YD} {mg:YB} {base:Heap} {op oe kd wk C:Addr}
theorem qF (F:∃f fd,Fun K "__init__" "Wires.__init__" IV f fd/\Mk K C f/\Binds K fd EY []) (T:Tw K mg op oe kd wk C) (bN:Good P w K mg base "is_let_by" 10 HW Rp) (bK:Good P w K mg base "stretches" 1 Hz vf) (Hh:Good P w K mg base "devices" 2 Gn Ui) (mK:Good P w K mg base "openers" 1 KC vg):ju P w K mg base C 11 EY (dj C):=by
 obtain⟨f,fd,F,Mk,b⟩:=F
 refine⟨f,fd,Mk,b,F.ok RV (λvs H Q E h=>?_) (λcdv A outer s H vs Q E hr h=>?_)⟩
 ·obtain⟨p,dx,pl,most,loops,zones,rfl,_⟩:=h
  rfl
 obtain⟨p,dx,pl,most,loops,zones,rfl,hp,pa,q⟩:=h
 refine⟨_,(Af (Ce (Et (DR (Ay bN hr (Aa (pv 1) Ab)))) (Ah pY) BJ)
 (Af (Ru (pv 0) (pv 1) rfl)
 (Af (Ru (pv 0) (QT (Cy hr) (N':=["stretch"]) rfl (Bp.plain rfl (by trivial) (by trivial) (by trivial)) (Ep (Ay bK hr (Aa (pv 1) Ab))) (λ_ _ _ _=>(Ak (i:=0) (show List.Nodup (["stretch"]:YF) by trivial) rfl (Or.inl rfl))) (λ_ _ _ _=>CW) (λ_ _ _ _=>(pv 0)) (λ_ _ _ _=>Bf)) rfl)
 (Af (Ru (pv 0) (QT (Cy hr) (N':=["spot","kind","address"]) rfl (Bp.plain rfl (by trivial) (by trivial) (by trivial)) (Ep (Ay Hh hr (Aa (pv 1) Ab))) (λ_ _ _ _=>(Hl (K:=K) (n:=3) rfl rfl (Aq (Ak (i:=0) (show List.Nodup (["spot","kind","address"]:YF) by trivial) rfl (Or.inl rfl)) (Aq (Ak (i:=1) (show List.Nodup (["spot","kind","address"]:YF) by trivial) rfl (Or.inl rfl)) (Aq (Ak (i:=2) (show List.Nodup (["spot","kind","address"]:YF) by trivial) rfl (Or.inl rfl)) Bv))))) (λ_ _ _ _=>CW) (λ_ _ _ _=>(pv 0)) (λ_ _ _ _=>(Bd (Aa (pv 1) (Aa (pv 2) Ab))))) rfl)
 (Ah (Ru (pv 0) (QT (Cy hr) (N':=["opener"]) rfl (Bp.plain rfl (by trivial) (by trivial) (by trivial)) (Ep (Ay mK hr (Aa (pv 1) Ab))) (λ_ _ _ _=>(Ak (i:=0) (show List.Nodup (["opener"]:YF) by trivial) rfl (Or.inl rfl))) (λ_ _ _ _=>CW) (λ_ _ _ _=>(pv 0)) (λ_ _ _ _=>Dl)) rfl)))))),?_⟩
 show let R0:TS:=_;let R1:TS:=Am _ R0;let R2:TS:=Am _ R1;let R3:TS:=Am _ R2;Am _ R3 _ _ _
 intro R0 R1 R2 R3
 have ok:=pa.ok
 have ntp:∀zs,H p≠some (.tup zs):=λzs z=>by rw[hp] at z;cases z
 refine⟨_,rfl,pl,most,loops,zones,rfl,pa,λH0 s0=>⟨_,rfl,Cm ?_⟩⟩
 refine⟨_,rfl,_,rfl,p,C,dx,_,_,rfl,s0 _ _ hp,T.cl,T.lO,(by show 0 < 1000;decide),Q8 (by show _∉([]:YF);decide +kernel),λH1 h1 s1=>?_⟩
 have r1:Ai p H H1:=(Ai.of s0).trans s1
 have pa1:=pa.tups (r1.tup ntp)
 refine⟨_,rfl,pl,loops,rfl,pa1.plan,ok,λla xa H2 hla hxa hpa s2=>⟨la,rfl,⟨_,SqL.of hxa⟩,λd1 f1=>?_⟩⟩
 have lxa:=QbX hpa
 have CD:=zy ok
 have nda:=B6 ok
 let J0:YN:=λi σ HH=>(∃u,σ=[u])/\HH d1=some (.dT (stV (((up (stL loops) loops.length).take i).map λs=>(s,"whole"))))/\Same H2 HH
 refine Ov (xs:=xa) J0 ⟨⟨_,rfl⟩,Ac,Ag f1 _⟩ (λi σ HH _ h=>SqL.of (h.2.2 _ _ hxa)) (λi x σ HH hx h=>?_) (fun σ HH h=>?_)
 ·obtain⟨⟨u,rfl⟩,e1,e2⟩:=h
  obtain⟨sp,hsp,t,rfl,ht⟩:=Paired.Cq hpa hx
  have hi:=(Qah.mp hx).1
  unfold Hr
  dsimp only
  refine BK ⟨_,rfl,_,k3 sp,t,e1,rfl,e2 _ _ ht,Ao (by unfold stV;rw[QbB,QbB,Qbs];omega),⟨_,rfl⟩,?_,e2.Br Ai.upd f1⟩
  rw[Ac,Mx,Qcy hsp]
  ·unfold stV
   rw[QbC,QbC]
   rfl
  ·refine JG λy hy e=>?_
   unfold stV at hy
   rw[Qcl] at hy
   obtain⟨z,hz,rfl⟩:=Qci.mp hy
   exact Rx nda hsp z hz (O2 e)
 obtain⟨_,e1,e2⟩:=h
 rw[lxa,Qbt] at e1
 have e1:HH d1=some (.dT (stV (hs0 loops))):=e1
 have r2:Ai p H HH:=r1.trans (Ai.of (s2.trans e2))
 refine⟨_,rfl,p,C,dx,_,_,rfl,e2 _ _ (s2 _ _ h1),T.cl,T.Hg,(by show 1 < 1000;decide),Q8 (by show _∉(["plan"]:YF);decide +kernel),λH3 h3 s3=>?_⟩
 have np1:d1≠p:=λz=>by rw[z,s2 _ _ h1] at f1;cases f1
 have u1:=s3 _ _ e1 np1
 have r3:Ai p H H3:=r2.trans s3
 have f1':H d1=none:=by
  cases e:H d1 with
  | none=>rfl
  | some v=>have:=r1.trans (Ai.of s2) _ _ e np1;rw[f1] at this;cases this
 clear s3 e1 e2 r2
 have pa3:=pa.tups (r3.tup ntp)
 refine⟨_,rfl,pl,loops,rfl,pa3.plan,ok,λlb xb H4 hlb hxb hpb s4=>⟨lb,rfl,⟨_,SqL.of hxb⟩,λd2 f2=>?_⟩⟩
 have lxb:=QbX hpb
 have CC:=Be ok
 have ndb:=De ok
 let J1:YN:=λi σ HH=>(∃u v t,σ=[u,v,t])/\(∃kvs,HH d2=some (.dT kvs)/\Paired (Ld HH) kvs (((up (pdL loops) loops.length).take i).map λd=>(d.spot,some (d.kind,d.addr))))/\Same H4 HH
 refine Ov (xs:=xb) J1 ⟨⟨_,_,_,rfl⟩,⟨[],Ac,.nil⟩,Ag f2 _⟩ (λi σ HH _ h=>SqL.of (h.2.2 _ _ hxb)) (λi x σ HH hx h=>?_) (fun σ HH h=>?_)
 ·obtain⟨⟨u,v,t,rfl⟩,⟨kvs,e1,e3⟩,e2⟩:=h
  obtain⟨d,hd,tt,uu,rfl,h5,h6⟩:=Paired.Cq hpb hx
  have hi:=(Qah.mp hx).1
  have lk:=QbX e3
  rw[QbB,Qbs] at lk
  refine⟨tt,_,rfl,SqT.of (e2 _ _ h5),rfl,_,_,rfl,_,_,rfl,_,_,rfl,rfl,?_⟩
  refine BK ⟨_,rfl,_,rfl,_,rfl,Aw (by show 2<=1000;decide),λtn htn=>?_⟩
  have t1:=Ag htn (.tup [.str d.kind,.int d.addr])
  have e1':=t1 _ _ e1
  have ntd:∀zs,(upd HH tn (.tup [.str d.kind,.int d.addr])) d2≠some (.tup zs):=λzs z=>by rw[e1'] at z;cases z
  refine⟨kvs,k3 d.spot,uu,e1',rfl,t1 _ _ (e2 _ _ h6),Ao (by omega),⟨_,_,_,rfl⟩,⟨_,Ac,?_⟩,(e2.trans t1).Br Ai.upd f2⟩
  rw[Mx,Qcy hd,QbC]
  ·have sL:=Ar.upd (o:=.dT (kvs++[(k3 d.spot,V.ref tn)])) ntd
   exact Qcs ⟨rfl,⟨tn,rfl,sL _ _ Ac⟩⟩ (Paired.Bc e3 λ_ _ z=>(z.tups (Ar.of t1)).tups sL)
  ·refine JG λy hy e=>?_
   have:y.1∈kvs.map (·.1):=Qci.mpr ⟨y,hy,rfl⟩
   rw[Z2 e3,Qcl] at this
   obtain⟨z,hz,ez⟩:=Qci.mp this
   exact Km ndb hd z hz (O2 (by rw[<-e,<-ez];rfl))
 obtain⟨_,⟨kvs,e1,e3⟩,e2⟩:=h
 rw[lxb,Qbt] at e3
 have e3:Paired (Ld HH) kvs (fl0 loops):=e3
 have h4:=e2 _ _ (s4 _ _ h3)
 have EC:∀zs,HH p≠some (.tup zs):=λzs z=>by rw[h4] at z;cases z
 have u2:=e2 _ _ (s4 _ _ u1)
 refine⟨_,rfl,p,C,dx,_,_,rfl,h4,T.cl,T.Zu,(by show 2 < 1000;decide),Q8 (by show _∉(["plan","states"]:YF);decide +kernel),λH5 h5 s5=>?_⟩
 have np2:d2≠p:=λz=>by rw[z,s4 _ _ h3] at f2;cases f2
 have n12:d1≠d2:=Ax (s4 _ _ u1) f2
 have u3:=s5 _ _ u2 np1
 have v3:=s5 _ _ e1 np2
 have w3:Paired (Ld H5) kvs (fl0 loops):=Paired.Bc e3 λ_ _ z=>z.tups (s5.tup EC)
 have r5:Ai p H H5:=r3.trans ((Ai.of (s4.trans e2)).trans s5)
 have f2':H d2=none:=by
  cases e:H d2 with
  | none=>rfl
  | some v=>have:=r3.trans (Ai.of s4) _ _ e np2;rw[f2] at this;cases this
 clear s5 e1 e2 e3 u1 u2 h3 h4
 have pa5:=pa.tups (r5.tup ntp)
 have N1:∀zs,H5 p≠some (.tup zs):=λzs z=>by rw[h5] at z;cases z
 refine⟨_,rfl,pl,loops,rfl,pa5.plan,ok,λlc xc H6 hlc hxc hpc s6=>⟨lc,rfl,⟨_,SqL.of hxc⟩,λd3 f3=>?_⟩⟩
 have lxc:=QbX hpc
 have CB:=lA ok
 let J2:YN:=λi σ HH=>(∃u,σ=[u])/\HH d3=some (.dT (gpV (((up (gtL loops) loops.length).take i).map λg=>(g,false))))/\Same H6 HH
 refine Ov (xs:=xc) J2 ⟨⟨_,rfl⟩,Ac,Ag f3 _⟩ (λi σ HH _ h=>SqL.of (h.2.2 _ _ hxc)) (λi x σ HH hx h=>?_) (fun σ HH h=>?_)
 ·obtain⟨⟨u,rfl⟩,e1,e2⟩:=h
  obtain⟨g,hg,t,rfl,ht⟩:=Paired.Cq hpc hx
  have hi:=(Qah.mp hx).1
  unfold Hr
  dsimp only
  refine BK ⟨_,rfl,_,k2 g,t,e1,rfl,e2 _ _ ht,Ao (by unfold gpV;rw[QbB,QbB,Qbs];omega),⟨_,rfl⟩,?_,e2.Br Ai.upd f3⟩
  rw[Ac,Mx,Qcy hg]
  ·unfold gpV
   rw[QbC,QbC]
   rfl
  ·refine JG λy hy e=>?_
   unfold gpV at hy
   rw[Qcl] at hy
   obtain⟨z,hz,rfl⟩:=Qci.mp hy
   exact Rx (vK ok) hg z hz (O4 e)
 obtain⟨_,e1,e2⟩:=h
 rw[lxc,Qbt] at e1
 have e1:HH d3=some (.dT (gpV (gs0 loops))):=e1
 have s7:=s6.trans e2
 refine⟨_,rfl,p,C,dx,_,_,rfl,s7 _ _ h5,T.cl,T.K5,(by show 3 < 1000;decide),Q8 (by show _∉(["plan","states","filled"]:YF);decide +kernel),λH8 h8 s8=>?_⟩
 have np3:d3≠p:=λz=>by rw[z,s6 _ _ h5] at f3;cases f3
 have f3':H d3=none:=by
  cases e:H d3 with
  | none=>rfl
  | some v=>have:=r5.trans (Ai.of s6) _ _ e np3;rw[f3] at this;cases this
 have n13:d1≠d3:=Ax (s6 _ _ u3) f3
 have n23:d2≠d3:=Ax (s6 _ _ v3) f3
 have EB:∀zs,HH p≠some (.tup zs):=λzs z=>by rw[s7 _ _ h5] at z;cases z
 exact q d1 d2 d3 H8 f1' f2' f3' n12 ⟨⟨dx,h8⟩,s8 _ _ (s7 _ _ u3) np1,⟨kvs,s8 _ _ (s7 _ _ v3) np2,Paired.Bc w3 λ_ _ z=>(z.tups (Ar.of s7)).tups (s8.tup EB)⟩,by rw[V1];exact nda,by rw[yq];exact ndb,by unfold hs0;rw[QbB];exact CD,by unfold fl0;rw[QbB];exact CC,s8 _ _ e1 np3,by rw[V4];exact vK ok,by unfold gs0;rw[QbB];exact CB,n13,n23⟩ (r5.trans ((Ai.of s7).trans s8))
end
abbrev Le:Stmt:=top 50
abbrev Gu:YF:=["states","loop","at"]
theorem FT:Az ["states","loop","at","told","number"] Gu (Aj Le):=⟨rfl,rfl,rfl,by trivial,rfl,by trivial,by trivial⟩
def stC (hs:YR) (s:Sp3):Str:=((hs.find? λx=>decide (x.1=s)).map (·.2)).getD "cut"
theorem Ro (s:Sp3):∀hs:YR,CT (stV hs) (k3 s)=(hs.find? λx=>decide (x.1=s)).map λx=>V.str x.2
 | []=>rfl
 | a::r=>by
  by_cases e:a.1=s
  ·rw[Qaz (p:=λx:Sp3×Str=>decide (x.1=s)) (QbS e)]
   exact Ml (p:=(k3 a.1,V.str a.2)) (by rw[e])
  ·rw[Qay (p:=λx:Sp3×Str=>decide (x.1=s)) (by simpa using e),<-Ro s r]
   exact Iu (p:=(k3 a.1,V.str a.2)) λz=>e (O2 z)
theorem cO (hs:YR) (s:Sp3):(CT (stV hs) (k3 s)).getD (.str "cut")=.str (stC hs s):=by
 rw[Ro]
 unfold stC
 cases hs.find? λx=>decide (x.1=s) <;> rfl
theorem Ow {hs:YR} {s:Sp3} (h:s∉hs.map (·.1)):stC hs s="cut":=by
 unfold stC
 rw[List.find?_eq_none.mpr λx hx=>by simpa using λe=>h (Qci.mpr ⟨x,hx,e⟩)]
 rfl
def Fe (hs:YR) (lp a:Int):Nat->Nat->YV
 | 0,_=>[]
 | f+1,n=>if stC hs ⟨lp,a,(n:Int)⟩="cut" then [] else ⟨lp,a,(n:Int)⟩::Fe hs lp a f (n+1)
def CG (hs:YR) (lp a:Int):YV:=Fe hs lp a 4 1
theorem Qy (hs:YR) (lp a:Int):∀f n,(Fe hs lp a f n).length<=f
 | 0,_=>Qcq _
 | f+1,n=>by
  unfold Fe
  split
  ·exact Qcr _
  ·rw[Qbr]
   have:=Qy hs lp a f (n+1)
   omega
def cU:Sp:=λvs H Q _=>∃d1 hs lp a,vs=[.ref d1,.int lp,.int a]/\Rd H d1 (.dT (stV hs))/\(∀s∈hs.map (·.1),Bd3 s)/\∀l xs H',H l=none->H' l=some (.lst xs)->Paired (Ci H') xs (CG hs lp a)->Same H H'->Q (.ref l) H'
section
variable {P:Program} {w:World} {K:YD} {mg:YB} {base:Heap} {op oe kd wk C:Addr}
theorem VF (c:Code K mg "spur_pieces" Le Gu) (T:Tw K mg op oe kd wk C):Good P w K mg base "spur_pieces" 1 Gu cU:=by
 have sc:=FT
 refine c.good FT (λvs H Q E h=>?_) (λf cdv A outer s H vs Q E hr h=>?_)
 ·obtain⟨d1,hs,lp,a,rfl,_⟩:=h
  rfl
 obtain⟨d1,hs,lp,a,rfl,hd,hb,q⟩:=h
 refine⟨_,(Af (Ba (i:=3) FT.nd rfl (Or.inl rfl) (BP Ab))
 (Af (Ba (i:=4) FT.nd rfl (Or.inl rfl) Ae)
 (Af (Y4 QbE (Bx Ut (M4 (Cy hr) (pv 0) (Bd (Aa (pv 1) (Aa (pv 2) (Aa (pv 4) Ab)))) Bf ⟨rfl,rfl,rfl,rfl⟩) Bf (Bs _)) (Af (Bj (BW Qaq Qal Qam Bu (pv 3) (Aa (Bd (Aa (pv 1) (Aa (pv 2) (Aa (pv 4) Ab)))) Ab)))
 (Ah (kj (i:=4) FT.nd rfl (Or.inl rfl) Ae mq))))
 (Ah (Bb (pv 3)))))),?_⟩
 show let R0:TS:=_;let R1:TS:=Am _ R0;let R2:TS:=Am (X4 _ R1) _;let R3:TS:=Am _ R2;Am _ R3 _ _ _
 intro R0 R1 R2 R3
 refine⟨Aw (by show 0<=1000;decide),λl hl=>?_⟩
 refine⟨λm σ HH=>∃n:Nat,1<=n/\n+m=5/\σ=[some (.ref d1),some (.int lp),some (.int a),some (.ref l),some (.int (n:Int))]/\(∃xs pre,HH l=some (.lst xs)/\Paired (Ci HH) xs pre/\pre.length < n/\pre++Fe hs lp a m n=CG hs lp a)/\Same H HH,⟨4,1,Qcq _,rfl,rfl,⟨[],[],Ac,.nil,by decide,rfl⟩,Ag hl _⟩,λm σ HH h=>?_⟩
 obtain⟨n,n1,nm,rfl,⟨xs,pre,e1,e2,e3,e4⟩,e5⟩:=h
 have hdH:Rd HH d1 (.dT (stV hs)):=by
  rcases hd with hd |⟨o,hd⟩
  ·exact .inl (e5 _ _ hd)
  ·exact .inr ⟨o,e5 _ _ hd⟩
 refine⟨_,rfl,d1,rfl,.inr ⟨_,hdH⟩,_,rfl,_,rfl,_,rfl,Aw (by show 3<=1000;decide),λtk htk=>?_⟩
 have k1:=Ag htk (.tup [.int lp,.int a,.int (n:Int)])
 have hdK:Rd (upd HH tk (.tup [.int lp,.int a,.int (n:Int)])) d1 (.dT (stV hs)):=by
  rcases hdH with hd |⟨o,hd⟩
  ·exact .inl (k1 _ _ hd)
  ·exact .inr ⟨o,k1 _ _ hd⟩
 have g:Ds (upd HH tk (.tup [.int lp,.int a,.int (n:Int)])) d1 (.ref tk) (CT (stV hs) (k3 ⟨lp,a,(n:Int)⟩)):=.inr ⟨_,_,tk,hdK,rfl,Ac,rfl⟩
 refine⟨_,g,?_⟩
 dsimp only
 rw[cO]
 have e1k:=k1 _ _ e1
 have e2k:Paired (Ci (upd HH tk (.tup [.int lp,.int a,.int (n:Int)]))) xs pre:=Paired.Bc e2 λ_ _ z=>z.tups (Ar.of k1)
 generalize upd HH tk (.tup [.int lp,.int a,.int (n:Int)])=HK at *
 have e5k:=e5.trans k1
 refine⟨rfl,_,rfl,?_⟩
 by_cases hc:stC hs ⟨lp,a,(n:Int)⟩="cut"
 ·rw[show (!decide (V.str (stC hs ⟨lp,a,(n:Int)⟩)=V.str "cut"))=false by rw[hc];decide +kernel]
  refine Cm ⟨_,rfl,q l xs HK hl e1k ?_ e5k⟩
  have:Fe hs lp a m n=[]:=by
   cases m with
   | zero=>rfl
   | succ m=>exact if_pos hc
  rw[this,QbF] at e4
  rw[<-e4]
  exact e2k
 ·have hne:¬V.str (stC hs ⟨lp,a,(n:Int)⟩)=V.str "cut":=λz=>hc (V.str.inj z)
  rw[show (!decide (V.str (stC hs ⟨lp,a,(n:Int)⟩)=V.str "cut"))=true by rw[QbG hne];rfl]
  obtain⟨m',rfl⟩ : ∃m',m=m'+1:=by
   cases m with
   | succ m=>exact⟨m,rfl⟩
   | zero=>
    refine absurd (Ow λhin=>?_) hc
    have:=(hb _ hin).n1
    have h5:n=5:=by omega
    subst h5
    have this:((5:Nat):Int)<=3:=this
    omega
  have e4':(pre++[⟨lp,a,(n:Int)⟩])++Fe hs lp a m' (n+1)=CG hs lp a:=by
   rw[<-e4,Qbh]
   show _=pre++Fe hs lp a (m'+1) n
   rw[show Fe hs lp a (m'+1) n=⟨lp,a,(n:Int)⟩::Fe hs lp a m' (n+1) from if_neg hc]
   rfl
  have lx:=QbX e2k
  refine BK ⟨_,fun σ' H' h=>⟨m',Qby _,h⟩,?_⟩
  refine⟨_,rfl,.inl ⟨rfl,_,SqL.of e1k⟩,_,rfl,_,rfl,_,rfl,Aw (by show 3<=1000;decide),λtp htp=>?_⟩
  have k2':=Ag htp (.tup [.int lp,.int a,.int (n:Int)])
  have e1p:=k2' _ _ e1k
  have ntl:∀zs,(upd HK tp (.tup [.int lp,.int a,.int (n:Int)])) l≠some (.tup zs):=λzs z=>by rw[e1p] at z;cases z
  have sL:=Ar.upd (o:=.lst (xs++[.ref tp])) ntl
  refine⟨l,_,_,rfl,rfl,e1p,Ao (by omega),?_⟩
  refine⟨_,rfl,_,_,rfl,rfl,n+1,by omega,by omega,?_,⟨xs++[.ref tp],pre++[⟨lp,a,(n:Int)⟩],Ac,Qcs ⟨tp,rfl,sL _ _ Ac⟩ (Paired.Bc e2k λ_ _ z=>(z.tups (Ar.of k2')).tups sL),by rw[QaQ];show _+1 < _;omega,e4'⟩,(e5k.trans k2').Br Ai.upd hl⟩
  show [some (V.ref d1),some (.int lp),some (.int a),some (.ref l),some (.int ((n:Int)+1))]=_
  rw[Int.natCast_add]
  rfl
end
abbrev QL:Stmt:=top 51
abbrev K3:YF:=["states","gaps","opener","step"]
theorem Ft:Az ["states","gaps","opener","step","loop","at","wires","places","pieces"] K3 (Aj QL):=⟨rfl,rfl,rfl,by trivial,rfl,by trivial,by trivial⟩
abbrev Kl:Stmt:=top 52
abbrev Ia:YF:=["states","wires"]
theorem Ys:Az ["states","wires"] Ia (Aj Kl):=⟨rfl,rfl,rfl,by trivial,rfl,by trivial,by trivial⟩
abbrev Iz:Stmt:=top 53
abbrev Dz:YF:=["states","gaps","opener"]
theorem Dp:Az ["states","gaps","opener","to_b","places_to_b","to_a","places_to_a"] Dz (Aj Iz):=⟨rfl,rfl,rfl,by trivial,rfl,by trivial,by trivial⟩
instance:DecidableEq Gt:=λa b=>if h:a.lp=b.lp/\a.at_=b.at_ then isTrue (by cases a;cases b;simp at h;obtain⟨h1,h2⟩:=h;subst h1 h2;rfl) else isFalse λe=>h (by rw[e];exact⟨rfl,rfl⟩)
def gpC (gs:YT) (g:Gt):Bool:=((gs.find? λx=>decide (x.1=g)).map (·.2)).getD false
theorem RG (g:Gt):∀gs:YT,CT (gpV gs) (k2 g)=(gs.find? λx=>decide (x.1=g)).map λx=>V.bl x.2
 | []=>rfl
 | a::r=>by
  by_cases e:a.1=g
  ·rw[Qaz (p:=λx:Gt×Bool=>decide (x.1=g)) (QbS e)]
   exact Ml (p:=(k2 a.1,V.bl a.2)) (by rw[e])
  ·rw[Qay (p:=λx:Gt×Bool=>decide (x.1=g)) (by simpa using e),<-RG g r]
   exact Iu (p:=(k2 a.1,V.bl a.2)) λz=>e (O4 z)
theorem xZ (gs:YT) (g:Gt):(CT (gpV gs) (k2 g)).getD (.bl false)=.bl (gpC gs g):=by
 rw[RG]
 unfold gpC
 cases gs.find? λx=>decide (x.1=g) <;> rfl
def Bk (a b:Int):Int:=if b < a then b else a
def BX (hs:YR) (gs:YT) (lp st:Int):Nat->Int->YV×YV
 | 0,_=>([],[])
 | f+1,a=>if stC hs ⟨lp,Bk a (a+st),0⟩="cut" then ([],[]) else
  if gpC gs ⟨lp,a+st⟩=true then (⟨lp,Bk a (a+st),0⟩::CG hs lp (a+st),⟨lp,a+st,0⟩::CG hs lp (a+st))
  else ((⟨lp,Bk a (a+st),0⟩::CG hs lp (a+st))++(BX hs gs lp st f (a+st)).1,(⟨lp,a+st,0⟩::CG hs lp (a+st))++(BX hs gs lp st f (a+st)).2)
structure Ws (H0 H:Hp) (l1 l2:Addr) (wa pa:YV):Prop where
 w:∃xs,H l1=some (.lst xs)/\Paired (Ci H) xs wa
 p:∃ys,H l2=some (.lst ys)/\Paired (Ci H) ys pa
 sm:Same H0 H
theorem Ws.same {H0 H H':Hp} {l1 l2:Addr} {wa pa:YV} (h:Ws H0 H l1 l2 wa pa) (s:Same H H'):Ws H0 H' l1 l2 wa pa:=by
 obtain⟨xs,a1,a2⟩:=h.w
 obtain⟨ys,b1,b2⟩:=h.p
 exact⟨⟨xs,s _ _ a1,Paired.Bc a2 λ_ _ z=>z.tups (Ar.of s)⟩,⟨ys,s _ _ b1,Paired.Bc b2 λ_ _ z=>z.tups (Ar.of s)⟩,h.sm.trans s⟩
theorem Ws.BF {H0 H:Hp} {l1 l2:Addr} {wa pa ss:YV} {zs xs:YG} (h:Ws H0 H l1 l2 wa pa) (n:l1≠l2) (f:H0 l1=none) (hx:H l1=some (.lst xs)) (hz:Paired (Ci H) zs ss):Ws H0 (upd H l1 (.lst (xs++zs))) l1 l2 (wa++ss) pa:=by
 obtain⟨xs',a1,a2⟩:=h.w
 obtain⟨ys,b1,b2⟩:=h.p
 rw[hx] at a1
 cases a1
 have nt:∀us,H l1≠some (.tup us):=λus z=>by rw[hx] at z;cases z
 have t:=Ar.upd (o:=.lst (xs++zs)) nt
 exact⟨⟨_,Ac,Paired.app (Paired.Bc a2 λ_ _ z=>z.tups t) (Paired.Bc hz λ_ _ z=>z.tups t)⟩,⟨ys,by rw[Al n.symm];exact b1,Paired.Bc b2 λ_ _ z=>z.tups t⟩,h.sm.Br Ai.upd f⟩
theorem Ws.add2 {H0 H:Hp} {l1 l2:Addr} {wa pa ss:YV} {zs ys:YG} (h:Ws H0 H l1 l2 wa pa) (n:l1≠l2) (f:H0 l2=none) (hy:H l2=some (.lst ys)) (hz:Paired (Ci H) zs ss):Ws H0 (upd H l2 (.lst (ys++zs))) l1 l2 wa (pa++ss):=by
 obtain⟨xs,a1,a2⟩:=h.w
 obtain⟨ys',b1,b2⟩:=h.p
 rw[hy] at b1
 cases b1
 have nt:∀us,H l2≠some (.tup us):=λus z=>by rw[hy] at z;cases z
 have t:=Ar.upd (o:=.lst (ys++zs)) nt
 exact⟨⟨xs,by rw[Al n];exact a1,Paired.Bc a2 λ_ _ z=>z.tups t⟩,⟨_,Ac,Paired.app (Paired.Bc b2 λ_ _ z=>z.tups t) (Paired.Bc hz λ_ _ z=>z.tups t)⟩,h.sm.Br Ai.upd f⟩
def jV:Sp:=λvs H Q _=>∃(d1 d3 o:Addr) (hs:YR) (gs:YT) (g:Gt) (st:Int),vs=[.ref d1,.ref d3,.ref o,.int st]/\Rd H d1 (.dT (stV hs))/\Rd H d3 (.dT (gpV gs))/\H o=some (.tup [.int g.lp,.int g.at_])/\(∀s∈hs.map (·.1),Bd3 s)/\(st=1\/st=-1)/\-1<=g.at_/\g.at_<=14 /\
 ∀t l1 l2 xs ys H',H' t=some (.tup [.ref l1,.ref l2])->H' l1=some (.lst xs)->Paired (Ci H') xs (BX hs gs g.lp st 16 g.at_).1->H' l2=some (.lst ys)->Paired (Ci H') ys (BX hs gs g.lp st 16 g.at_).2->Same H H'->Q (.ref t) H'
section
variable {P:Program} {w:World} {K:YD} {mg:YB} {base:Heap} {op oe kd wk C:Addr}
theorem gP (c:Code K mg "come_to" QL K3) (T:Tw K mg op oe kd wk C) (Xq:Good P w K mg base "spur_pieces" 1 Gu cU):Good P w K mg base "come_to" 2 K3 jV:=by
 have sc:=Ft
 refine c.good Ft (λvs H Q E h=>?_) (λf cdv A outer s H vs Q E hr h=>?_)
 ·obtain⟨d1,d3,o,hs,gs,g,st,rfl,_⟩:=h
  rfl
 obtain⟨d1,d3,o,hs,gs,g,st,rfl,hd,hd3,ho,hb,hst,ga,gb,q⟩:=h
 refine⟨_,(Af (Hy (pv 2) (CP rfl (Aq (Ak (i:=4) Ft.nd rfl (Or.inl rfl)) (Aq (Ak (i:=5) Ft.nd rfl (Or.inl rfl)) Bv))))
 (Af (Ba (i:=6) Ft.nd rfl (Or.inl rfl) (BP Ab))
 (Af (Ba (i:=7) Ft.nd rfl (Or.inl rfl) (BP Ab))
 (Af (Y4 QbE (Bx Ut (M4 (Cy hr) (pv 0) (Bd (Aa (pv 4) (Aa (Av (La rfl) rfl T.min Ra (Aa (pv 5) (Aa (Bg Ca (pv 5) (pv 3)) Ab))) (Aa Ae Ab)))) Bf ⟨rfl,rfl,rfl,rfl⟩) Bf (Bs _)) (Af (Bj (BW Qaq Qal Qam Bu (pv 6) (Aa (Bd (Aa (pv 4) (Aa (Av (La rfl) rfl T.min Ra (Aa (pv 5) (Aa (Bg Ca (pv 5) (pv 3)) Ab))) (Aa Ae Ab)))) Ab)))
 (Af (kj (i:=5) Ft.nd rfl (Or.inl rfl) (pv 3) mq)
 (Af (Ba (i:=8) Ft.nd rfl (Or.inl rfl) (Ay Xq hr (Aa (pv 0) (Aa (pv 4) (Aa (pv 5) Ab)))))
 (Af (Bj (BW Qaq Qao Qap Fx (pv 6) (Aa (pv 8) Ab)))
 (Af (Bj (BW Qaq Qal Qam Bu (pv 7) (Aa (Bd (Aa (pv 4) (Aa (pv 5) (Aa Ae Ab)))) Ab)))
 (Af (Bj (BW Qaq Qao Qap Fx (pv 7) (Aa (pv 8) Ab)))
 (Ah (Ce (pW (M4 (Cy hr) (pv 1) (Bd (Aa (pv 4) (Aa (pv 5) Ab))) Dl ⟨rfl,rfl,rfl,rfl⟩) (λ_=>rfl)) (Ah Mz) BJ)))))))))
 (Ah (Bb (Bd (Aa (pv 6) (Aa (pv 7) Ab))))))))),?_⟩
 show let R0:TS:=_;let R1:TS:=_;let R2:TS:=Am _ R1;let R3:TS:=Am _ R2;let R4:TS:=Am _ R3;let R5:TS:=Am _ R4;let R6:TS:=Am _ R5;let R7:TS:=Am _ R6;let R8:TS:=Am (X4 _ R7) R0;let R9:TS:=Am _ R8;let R10:TS:=Am _ R9;Am _ R10 _ _ _
 intro R0 R1 R2 R3 R4 R5 R6 R7 R8 R9 R10
 refine⟨_,rfl,o,_,rfl,SqT.of ho,rfl,_,_,rfl,_,_,rfl,rfl,?_⟩
 refine⟨Aw (by show 0<=1000;decide),λl1 hl1=>?_⟩
 refine⟨Aw (by show 0<=1000;decide),λl2 hl2=>?_⟩
 have n1:=Ag hl1 (.lst [])
 have n2:=Ag hl2 (.lst [])
 have hl2':H l2=none:=n1.free hl2
 have n12:l1≠l2:=Ax Ac hl2
 have rdS:∀{HA HB:Hp} {d:Addr} {u:HO},Rd HA d u->Same HA HB->Rd HB d u:=λh s=>by
  rcases h with h |⟨o,h⟩
  ·exact .inl (s _ _ h)
  ·exact .inr ⟨o,s _ _ h⟩
 have hm0:(st=1/\g.at_+((16:Nat):Int)=g.at_+16)\/(st=-1/\g.at_ - ((16:Nat):Int)=g.at_ - 16):=by
  rcases hst with h | h
  ·exact .inl ⟨h,by omega⟩
  ·exact .inr ⟨h,by omega⟩
 refine⟨λm σ HH=>∃(a:Int) (u8:Option V) (wa pa:YV),((st=1/\a+m=g.at_+16)\/(st=-1/\a - m=g.at_ - 16))/\σ=[some (.ref d1),some (.ref d3),some (.ref o),some (.int st),some (.int g.lp),some (.int a),some (.ref l1),some (.ref l2),u8]/\Ws H HH l1 l2 wa pa/\wa.length+10*m<=160/\pa.length+10*m<=160/\wa++(BX hs gs g.lp st m a).1=(BX hs gs g.lp st 16 g.at_).1/\pa++(BX hs gs g.lp st m a).2=(BX hs gs g.lp st 16 g.at_).2,⟨16,g.at_,_,[],[],hm0,rfl,⟨⟨[],n2 _ _ Ac,.nil⟩,⟨[],Ac,.nil⟩,n1.trans n2⟩,by decide,by decide,rfl,rfl⟩,λm σ HH h=>?_⟩
 obtain⟨a,u8,wa,pa,hm,rfl,W,e5,e6,e7,e8⟩:=h
 refine⟨_,rfl,d1,rfl,.inr ⟨_,rdS hd W.sm⟩,_,rfl,_,rfl,_,rfl,_,rfl,_,_,rfl,rfl,_,_,rfl,Aw (by show 3<=1000;decide),λtk htk=>?_⟩
 rw[show (if a+st < a then a+st else a)=Bk a (a+st) from rfl]
 have k1:=Ag htk (.tup [.int g.lp,.int (Bk a (a+st)),.int 0])
 have W1:=W.same k1
 have gg:Ds (upd HH tk (.tup [.int g.lp,.int (Bk a (a+st)),.int 0])) d1 (.ref tk) (CT (stV hs) (k3 ⟨g.lp,Bk a (a+st),0⟩)):=.inr ⟨_,_,tk,rdS hd W1.sm,rfl,Ac,rfl⟩
 refine⟨_,gg,?_⟩
 dsimp only
 rw[cO]
 generalize upd HH tk (.tup [.int g.lp,.int (Bk a (a+st)),.int 0])=HK at *
 refine⟨rfl,_,rfl,?_⟩
 have done:∀(HX:Hp) (wx px:YV) (u:Option V) (aa:Int),Ws H HX l1 l2 wx px->wx=(BX hs gs g.lp st 16 g.at_).1->px=(BX hs gs g.lp st 16 g.at_).2->∀t,HX t=none->Q (.ref t) (upd HX t (.tup [.ref l1,.ref l2])):=λHX wx px u aa WX ew ep t ht=>by
  have kt:=Ag ht (.tup [.ref l1,.ref l2])
  have WT:=WX.same kt
  obtain⟨xs,a1,a2⟩:=WT.w
  obtain⟨ys,b1,b2⟩:=WT.p
  rw[ew] at a2
  rw[ep] at b2
  exact q t l1 l2 xs ys _ Ac a1 a2 b1 b2 WT.sm
 by_cases hc:stC hs ⟨g.lp,Bk a (a+st),0⟩="cut"
 ·rw[show (!decide (V.str (stC hs ⟨g.lp,Bk a (a+st),0⟩)=V.str "cut"))=false by rw[hc];decide +kernel]
  have hz:BX hs gs g.lp st m a=([],[]):=by
   cases m with
   | zero=>rfl
   | succ m=>exact if_pos hc
  rw[hz,QbF] at e7 e8
  exact Cm ⟨_,rfl,_,rfl,Aw (by show 2<=1000;decide),λt ht=>done HK wa pa u8 a W1 e7 e8 t ht⟩
 ·have hne:¬V.str (stC hs ⟨g.lp,Bk a (a+st),0⟩)=V.str "cut":=λz=>hc (V.str.inj z)
  rw[show (!decide (V.str (stC hs ⟨g.lp,Bk a (a+st),0⟩)=V.str "cut"))=true by rw[QbG hne];rfl]
  have hin:(⟨g.lp,Bk a (a+st),0⟩ : Sp3)∈hs.map (·.1):=Qai λz=>hc (Ow z)
  have hB:=hb _ hin
  have hB0:0<=Bk a (a+st):=hB.a0
  have hB1:Bk a (a+st)<=12:=hB.a1
  obtain⟨m',rfl⟩ : ∃m',m=m'+1:=by
   cases m with
   | succ m=>exact⟨m,rfl⟩
   | zero=>
    exfalso
    unfold Bk at hB0 hB1
    rcases hm with⟨h1,h2⟩|⟨h1,h2⟩
    ·rw[h1] at hB0 hB1
     split at hB1 <;> omega
    ·rw[h1] at hB0 hB1
     split at hB0 <;> omega
  have lsp:(CG hs g.lp (a+st)).length<=4:=Qy _ _ _ 4 1
  obtain⟨xs,a1,a2⟩:=W1.w
  have lx:=QbX a2
  refine BK ⟨_,fun σ' H' h=>⟨m',Qby _,h⟩,?_⟩
  refine⟨_,rfl,.inl ⟨rfl,_,SqL.of a1⟩,_,rfl,_,rfl,_,rfl,_,rfl,_,_,rfl,rfl,_,_,rfl,Aw (by show 3<=1000;decide),λtp htp=>?_⟩
  rw[show (if a+st < a then a+st else a)=Bk a (a+st) from rfl]
  have k2':=Ag htp (.tup [.int g.lp,.int (Bk a (a+st)),.int 0])
  have W2:=(W1.same k2').BF n12 hl1 (k2' _ _ a1) (zs:=[.ref tp]) (ss:=[⟨g.lp,Bk a (a+st),0⟩]) (.cons ⟨tp,rfl,Ac⟩ .nil)
  refine⟨l1,_,_,rfl,rfl,k2' _ _ a1,Ao (by omega),?_⟩
  generalize upd (upd HK tp (.tup [.int g.lp,.int (Bk a (a+st)),.int 0])) l1 (.lst (xs++[.ref tp]))=H2 at *
  refine⟨_,rfl,_,rfl,_,_,rfl,rfl,?_⟩
  refine⟨_,rfl,_,rfl,_,rfl,d1,hs,g.lp,a+st,rfl,rdS hd W2.sm,hb,λlq xq H3 hlq hxq pxq s3=>?_⟩
  have W3:=W2.same s3
  obtain⟨xs3,a13,a23⟩:=W3.w
  have lx3:=QbX a23
  rw[QaQ] at lx3
  have lxq:=QbX pxq
  have EH:lq≠l1:=λz=>by obtain⟨xs',e,_⟩:=W2.w;rw[z,e] at hlq;cases hlq
  have EG:lq≠l2:=λz=>by obtain⟨xs',e,_⟩:=W2.p;rw[z,e] at hlq;cases hlq
  refine⟨_,rfl,.inl ⟨rfl,_,SqL.of a13⟩,_,rfl,l1,lq,_,_,rfl,rfl,a13,hxq,Aw (by rw[lx3,lxq];show _+1+_<=1000;omega),?_⟩
  have W4:=W3.BF n12 hl1 a13 pxq
  have nt3:∀us,H3 l1≠some (.tup us):=λus z=>by rw[a13] at z;cases z
  have Ex:Paired (Ci (upd H3 l1 (.lst (xs3++xq)))) xq (CG hs g.lp (a+st)):=Paired.Bc pxq λ_ _ z=>z.tups (Ar.upd nt3)
  have Hn:(upd H3 l1 (.lst (xs3++xq))) lq=some (.lst xq):=by rw[Al EH];exact hxq
  generalize upd H3 l1 (.lst (xs3++xq))=H4 at *
  obtain⟨ys4,b14,b24⟩:=W4.p
  have ly4:=QbX b24
  refine⟨_,rfl,.inl ⟨rfl,_,SqL.of b14⟩,_,rfl,_,rfl,Aw (by show 3<=1000;decide),λtr htr=>?_⟩
  have k5:=Ag htr (.tup [.int g.lp,.int (a+st),.int 0])
  have W5:=(W4.same k5).add2 n12 hl2' (k5 _ _ b14) (zs:=[.ref tr]) (ss:=[⟨g.lp,a+st,0⟩]) (.cons ⟨tr,rfl,Ac⟩ .nil)
  refine⟨l2,_,_,rfl,rfl,k5 _ _ b14,Ao (by omega),?_⟩
  have nt5:∀us,(upd H4 tr (.tup [.int g.lp,.int (a+st),.int 0])) l2≠some (.tup us):=λus z=>by rw[k5 _ _ b14] at z;cases z
  have Ev:Paired (Ci (upd (upd H4 tr (.tup [.int g.lp,.int (a+st),.int 0])) l2 (.lst (ys4++[.ref tr])))) xq (CG hs g.lp (a+st)):=Paired.Bc Ex λ_ _ z=>(z.tups (Ar.of k5)).tups (Ar.upd nt5)
  have Hm:(upd (upd H4 tr (.tup [.int g.lp,.int (a+st),.int 0])) l2 (.lst (ys4++[.ref tr]))) lq=some (.lst xq):=by rw[Al EG];exact k5 _ _ Hn
  generalize upd (upd H4 tr (.tup [.int g.lp,.int (a+st),.int 0])) l2 (.lst (ys4++[.ref tr]))=H5 at *
  obtain⟨ys5,b15,b25⟩:=W5.p
  have ly5:=QbX b25
  rw[QaQ] at ly5
  refine⟨_,rfl,.inl ⟨rfl,_,SqL.of b15⟩,_,rfl,l2,lq,_,_,rfl,rfl,b15,Hm,Aw (by rw[ly5,lxq];show _+1+_<=1000;omega),?_⟩
  have W6:=W5.add2 n12 hl2' b15 Ev
  generalize upd H5 l2 (.lst (ys5++xq))=H6 at *
  refine⟨_,rfl,d3,rfl,.inr ⟨_,rdS hd3 W6.sm⟩,_,rfl,_,rfl,Aw (by show 2<=1000;decide),λtg htg=>?_⟩
  have k7:=Ag htg (.tup [.int g.lp,.int (a+st)])
  have W7:=W6.same k7
  have gg7:Ds (upd H6 tg (.tup [.int g.lp,.int (a+st)])) d3 (.ref tg) (CT (gpV gs) (k2 ⟨g.lp,a+st⟩)):=.inr ⟨_,_,tg,rdS hd3 W7.sm,rfl,Ac,rfl⟩
  refine⟨_,gg7,?_⟩
  dsimp only
  rw[xZ]
  generalize upd H6 tg (.tup [.int g.lp,.int (a+st)])=H7 at *
  refine⟨_,rfl,PN (λhg=>?_) (λhg=>?_)⟩
  ·have hz:BX hs gs g.lp st (m'+1) a=(⟨g.lp,Bk a (a+st),0⟩::CG hs g.lp (a+st),⟨g.lp,a+st,0⟩::CG hs g.lp (a+st)):=by
    unfold BX
    rw[if_neg hc,if_pos hg]
   rw[hz] at e7 e8
   exact⟨_,rfl,_,rfl,Aw (by show 2<=1000;decide),λt ht=>done H7 _ _ u8 a W7 (by rw[<-e7,Qbh];rfl) (by rw[<-e8,Qbh];rfl) t ht⟩
  ·have hz:BX hs gs g.lp st (m'+1) a=((⟨g.lp,Bk a (a+st),0⟩::CG hs g.lp (a+st))++(BX hs gs g.lp st m' (a+st)).1,(⟨g.lp,a+st,0⟩::CG hs g.lp (a+st))++(BX hs gs g.lp st m' (a+st)).2):=by
    conv=>lhs;unfold BX
    rw[if_neg hc,if_neg (by rw[hg];decide)]
   rw[hz] at e7 e8
   refine⟨a+st,_,_,_,?_,rfl,W7,?_,?_,by rw[<-e7];simp only[Qbh,QbA,QbR],by rw[<-e8];simp only[Qbh,QbA,QbR]⟩
   ·rcases hm with⟨h1,h2⟩|⟨h1,h2⟩
    ·exact .inl ⟨h1,by rw[h1];omega⟩
    ·exact .inr ⟨h1,by rw[h1];omega⟩
   ·rw[QaQ,QaQ]
    show wa.length+1+_+_<=_
    omega
   ·rw[QaQ,QaQ]
    show pa.length+1+_+_<=_
    omega
end
theorem jK {hs:YR} {s:Sp3} (h:¬stC hs s="cut"):s∈hs.map (·.1):=Qai λz=>h (Ow z)
theorem Yb (hs:YR) (lp a:Int):∀f n,∀s∈Fe hs lp a f n,s∈hs.map (·.1)
 | 0,_,s,h=>by cases h
 | f+1,n,s,h=>by
  unfold Fe at h
  split at h
  ·cases h
  ·rename_i hc
   rcases QbY.mp h with rfl | h
   ·exact jK hc
   ·exact Yb hs lp a f (n+1) s h
theorem T4 (hs:YR) (gs:YT) (lp st:Int):∀f a,∀s∈(BX hs gs lp st f a).1,s∈hs.map (·.1)
 | 0,_,s,h=>by cases h
 | f+1,a,s,h=>by
  unfold BX at h
  split at h
  ·cases h
  ·rename_i hc
   have hw:∀s∈(⟨lp,Bk a (a+st),0⟩::CG hs lp (a+st):YV),s∈hs.map (·.1):=λs h=>by
    rcases QbY.mp h with rfl | h
    ·exact jK hc
    ·exact Yb hs lp _ 4 1 s h
   split at h
   ·exact hw s h
   ·rcases QbD.mp h with h | h
    ·exact hw s h
    ·exact T4 hs gs lp st f (a+st) s h
theorem WW (hs:YR) (gs:YT) (lp st:Int):∀f a,(BX hs gs lp st f a).1.length<=5*f
 | 0,_=>Qcq _
 | f+1,a=>by
  have ih:=WW hs gs lp st f (a+st)
  have ls:(CG hs lp (a+st)).length<=4:=Qy _ _ _ 4 1
  unfold BX
  split
  ·exact Qcr _
  ·split
   ·show (CG hs lp (a+st)).length+1<=_
    omega
   ·have:((⟨lp,Bk a (a+st),0⟩::CG hs lp (a+st))++(BX hs gs lp st f (a+st)).1).length=(CG hs lp (a+st)).length+1+(BX hs gs lp st f (a+st)).1.length:=by rw[QaQ,Qbr]
    show ((⟨lp,Bk a (a+st),0⟩::CG hs lp (a+st))++(BX hs gs lp st f (a+st)).1).length<=_
    omega
def Es (hs:YR) (ws:YV):Bool:=ws.any λs=>decide (V.str (stC hs s)=V.str "short")
def FQ (hs:YR) (gs:YT) (g:Gt):Bool:=Es hs (BX hs gs g.lp 1 16 g.at_).1 || Es hs (BX hs gs g.lp (-1) 16 g.at_).1
def cV:Sp:=λvs H Q _=>∃(d1 l:Addr) (hs:YR) (xs:YG) (ws:YV),vs=[.ref d1,.ref l]/\Rd H d1 (.dT (stV hs))/\H l=some (.lst xs)/\Paired (Ci H) xs ws/\(∀s∈ws,s∈hs.map (·.1))/\ws.length<=200/\∀H',Same H H'->Q (.bl (Es hs ws)) H'
def Yj:Sp:=λvs H Q _=>∃(d1 d3 o:Addr) (hs:YR) (gs:YT) (g:Gt),vs=[.ref d1,.ref d3,.ref o]/\Rd H d1 (.dT (stV hs))/\Rd H d3 (.dT (gpV gs))/\H o=some (.tup [.int g.lp,.int g.at_])/\(∀s∈hs.map (·.1),Bd3 s)/\-1<=g.at_/\g.at_<=14/\∀H',Same H H'->Q (.bl (FQ hs gs g)) H'
theorem rdS {HA HB:Hp} {d:Addr} {u:HO} (h:Rd HA d u) (s:Same HA HB):Rd HB d u:=by
 rcases h with h |⟨o,h⟩
 ·exact .inl (s _ _ h)
 ·exact .inr ⟨o,s _ _ h⟩
section
variable {P:Program} {w:World} {K:YD} {mg:YB} {base:Heap} {op oe kd wk C:Addr}
theorem Zm (c:Code K mg "has_short" Kl Ia) (T:Tw K mg op oe kd wk C):Good P w K mg base "has_short" 1 Ia cV:=by
 refine c.good Ys (λvs H Q E h=>?_) (λf cdv A outer s H vs Q E hr h=>?_)
 ·obtain⟨d1,l,hs,xs,ws,rfl,_⟩:=h
  rfl
 obtain⟨d1,l,hs,xs,ws,rfl,hd,hl,hx,hin,IM,q⟩:=h
 refine⟨_,(Ah (Bb (Av (aF rfl) rfl T.any oh (Aa (Cv (N':=["stretch","states"]) rfl (Bp.of (src:=[none,some 0]) (Aj Kl) ["states","wires"] rfl rfl rfl (by trivial) (by trivial) (by trivial) rfl (by trivial)) (Ep (pv 1)) (λ_ _ _ _=>(Ak (i:=0) (show List.Nodup (["stretch","states"]:YF) by trivial) rfl (Or.inl rfl))) (λ_ _ _ _=>CW) (λ_ _ _ _=>(Dk Fi (dH (Cy hr) (pv 1) (pv 0) (λ_ _=>rfl)) Bf (Bs _)))) Ab)))),?_⟩
 have lx:=QbX hx
 refine⟨_,rfl,l,rfl,⟨_,SqL.of hl⟩,λlc hlc=>?_⟩
 let J0:YN:=λi σ HH=>(∃u,σ=[u,some (.ref d1)])/\HH lc=some (.lst (((ws.take i).map λs=>decide (V.str (stC hs s)=V.str "short")).map V.bl))/\Same H HH
 refine Jj (xs:=xs) J0 ⟨⟨_,rfl⟩,Ac,Ag hlc _⟩ (λi σ HH _ h=>SqL.of (h.2.2 _ _ hl)) (λi x σ HH hxi h=>?_) (fun σ HH h=>?_)
 ·obtain⟨⟨u,rfl⟩,e1,e2⟩:=h
  obtain⟨sp,hsp,t,rfl,ht⟩:=Paired.Cq hx hxi
  have hi:=(Qah.mp hxi).1
  have hv:CT (stV hs) (k3 sp)=some (.str (stC hs sp)):=by
   have h1:=Ro sp hs
   obtain⟨y,hy,ey⟩:=Qci.mp (hin sp (QaD hsp))
   unfold stC
   rw[h1]
   cases e:hs.find? λx=>decide (x.1=sp) with
   | none=>exact absurd ey (by simpa using List.find?_eq_none.mp e y hy)
   | some z=>rfl
  have gg:Ds HH d1 (.ref t) (CT (stV hs) (k3 sp)):=.inr ⟨stV hs,k3 sp,t,rdS hd e2,rfl,e2 _ _ ht,rfl⟩
  rw[hv] at gg
  unfold Hr
  dsimp only
  refine BK ⟨_,rfl,_,rfl,d1,_,rfl,gg,rfl,_,e1,Ao (by rw[QbB,QbB,Qbs];omega),⟨_,rfl⟩,?_,e2.Br Ai.upd hlc⟩
  rw[Ac,Qcy hsp,QbC,QbC]
  rfl
 ·obtain⟨_,e1,e2⟩:=h
  rw[lx,Qbt] at e1
  refine⟨lc,_,rfl,SqL.of e1,?_⟩
  have:(ws.map λs=>decide (V.str (stC hs s)=V.str "short")).any id=Es hs ws:=by unfold Es;rw[List.any_map];rfl
  rw[this]
  exact q _ e2
theorem RX (c:Code K mg "comes_to_short" Iz Dz) (T:Tw K mg op oe kd wk C) (WK:Good P w K mg base "come_to" 2 K3 jV) (SM:Good P w K mg base "has_short" 1 Ia cV):Good P w K mg base "comes_to_short" 3 Dz Yj:=by
 have sc:=Dp
 refine c.good Dp (λvs H Q E h=>?_) (λf cdv A outer s H vs Q E hr h=>?_)
 ·obtain⟨d1,d3,o,hs,gs,g,rfl,_⟩:=h
  rfl
 obtain⟨d1,d3,o,hs,gs,g,rfl,hd,hd3,ho,hb,ga,gb,q⟩:=h
 refine⟨_,(Af (Hy (Ay WK hr (Aa (pv 0) (Aa (pv 1) (Aa (pv 2) (Aa Ae Ab))))) (CP rfl (Aq (Ak (i:=3) Dp.nd rfl (Or.inl rfl)) (Aq (Ak (i:=4) Dp.nd rfl (Or.inl rfl)) Bv))))
 (Af (Hy (Ay WK hr (Aa (pv 0) (Aa (pv 1) (Aa (pv 2) (Aa (Px Mq Ae) Ab))))) (CP rfl (Aq (Ak (i:=5) Dp.nd rfl (Or.inl rfl)) (Aq (Ak (i:=6) Dp.nd rfl (Or.inl rfl)) Bv))))
 (Ah (Bb (gB (Ay SM hr (Aa (pv 0) (Aa (pv 3) Ab))) (Dj (Ay SM hr (Aa (pv 0) (Aa (pv 5) Ab))))))))),?_⟩
 show let R0:TS:=_;let R1:TS:=Am _ R0;Am _ R1 _ _ _
 intro R0 R1
 have AH:∀st,(BX hs gs g.lp st 16 g.at_).1.length<=200:=λst=>Qck (WW hs gs g.lp st 16 g.at_) (by decide)
 refine⟨_,rfl,_,rfl,_,rfl,d1,d3,o,hs,gs,g,1,rfl,hd,hd3,ho,hb,.inl rfl,ga,gb,λt1 l1 l2 xs1 ys1 H1 ht1 hl1 hx1 _ _ s1=>⟨t1,_,rfl,SqT.of ht1,rfl,_,_,rfl,_,_,rfl,rfl,?_⟩⟩
 refine⟨_,rfl,_,rfl,_,rfl,_,rfl,d1,d3,o,hs,gs,g,-1,rfl,rdS hd s1,rdS hd3 s1,s1 _ _ ho,hb,.inr rfl,ga,gb,λt2 l3 l4 xs2 ys2 H2 ht2 hl3 hx2 _ _ s2=>⟨t2,_,rfl,SqT.of ht2,rfl,_,_,rfl,_,_,rfl,rfl,?_⟩⟩
 have s12:=s1.trans s2
 have HG:Paired (Ci H2) xs1 (BX hs gs g.lp 1 16 g.at_).1:=Paired.Bc hx1 λ_ _ z=>z.tups (Ar.of s2)
 refine⟨_,rfl,_,rfl,d1,l1,hs,xs1,_,rfl,rdS hd s12,s2 _ _ hl1,HG,T4 hs gs g.lp 1 16 g.at_,AH 1,λH3 s3=>⟨_,rfl,?_⟩⟩
 cases e:Es hs (BX hs gs g.lp 1 16 g.at_).1 with
 | true=>
  refine BK ?_
  have:=q H3 (s12.trans s3)
  unfold FQ at this
  rw[e] at this
  exact this
 | false=>
  refine Cm ⟨_,rfl,_,rfl,d1,l3,hs,xs2,_,rfl,rdS hd (s12.trans s3),s3 _ _ hl3,Paired.Bc hx2 λ_ _ z=>z.tups (Ar.of s3),T4 hs gs g.lp (-1) 16 g.at_,AH (-1),λH4 s4=>?_⟩
  have:=q H4 (s12.trans (s3.trans s4))
  unfold FQ at this
  rw[e] at this
  exact this
end
abbrev Ly:Stmt:=top 54
abbrev Jx:YF:=["states","gaps"]
theorem bh:Az ["states","gaps"] Jx (Aj Ly):=⟨rfl,rfl,rfl,by trivial,rfl,by trivial,by trivial⟩
abbrev JQ:Stmt:=(inClass (top 55) 10)
abbrev Ge:YF:=["self"]
theorem Ul:Az ["self"] Ge (Aj JQ):=⟨rfl,rfl,rfl,by trivial,rfl,by trivial,by trivial⟩
abbrev Lg:Stmt:=(inClass (top 55) 12)
abbrev Gx:YF:=["self"]
theorem Vs:Az ["self"] Gx (Aj Lg):=⟨rfl,rfl,rfl,by trivial,rfl,by trivial,by trivial⟩
theorem JX (pl d1 d2 d3:Addr):List.lookup ("gaps":Str) (ff pl d1 d2 d3)=some (V.ref d3):=ZX (i:=3) (fnd pl d1 d2 d3) rfl
def f9 (hs:YR) (gs:YT):Bool:=(gs.map λx=>decide (V.bl (FQ hs gs x.1)=V.bl x.2)).all id
def jt (gs:YT):Prop:=∀x∈gs,-1<=x.1.at_/\x.1.at_<=14
def jO:Sp:=λvs H Q _=>∃(d1 d3:Addr) (hs:YR) (gs:YT),vs=[.ref d1,.ref d3]/\H d1=some (.dT (stV hs))/\H d3=some (.dT (gpV gs))/\(∀s∈hs.map (·.1),Bd3 s)/\jt gs/\gs.length<=200/\∀H',Same H H'->Q (.bl (f9 hs gs)) H'
def cW (C:Addr):Sp:=λvs H Q _=>∃p pl d1 d2 d3 hs fl gs,vs=[.ref p]/\WAt C H p pl d1 d2 d3 hs fl gs/\(∀s∈hs.map (·.1),Bd3 s)/\jt gs/\∀H',Same H H'->Q (.bl (f9 hs gs)) H'
def Yh (C:Addr):Sp:=λvs H Q _=>∃p pl d1 d2 d3 hs fl gs,vs=[.ref p]/\WAt C H p pl d1 d2 d3 hs fl gs/\∀l xs H',H l=none->H' l=some (.lst xs)->Paired (Ei H') xs ((gs.filter (·.2)).map (·.1))->Same H H'->Q (.ref l) H'
section
variable {P:Program} {w:World} {K:YD} {mg:YB} {base:Heap} {op oe kd wk C:Addr}
theorem bD (c:Code K mg "all_rest" Ly Jx) (T:Tw K mg op oe kd wk C) (IW:Good P w K mg base "comes_to_short" 3 Dz Yj):Good P w K mg base "all_rest" 4 Jx jO:=by
 refine c.good bh (λvs H Q E h=>?_) (λf cdv A outer s H vs Q E hr h=>?_)
 ·obtain⟨d1,d3,hs,gs,rfl,_⟩:=h
  rfl
 obtain⟨d1,d3,hs,gs,rfl,hd1,hd3,hb,hg,IM,q⟩:=h
 refine⟨_,(Ah (Bb (Av (FP rfl) rfl T.all Ik (Aa (Y9 rfl (Cv (N':=["opener","gap","states","gaps"]) rfl (Bp.of (src:=[none,none,some 0,some 1]) (Aj Ly) ["states","gaps"] rfl rfl rfl (by trivial) (by trivial) (by trivial) rfl (by trivial)) (Wq (pv 1)) (λ_ _ _ _=>(Hl (K:=K) (n:=2) rfl rfl (Aq (Ak (i:=0) (show List.Nodup (["opener","gap","states","gaps"]:YF) by trivial) rfl (Or.inl rfl)) (Aq (Ak (i:=1) (show List.Nodup (["opener","gap","states","gaps"]:YF) by trivial) rfl (Or.inl rfl)) Bv)))) (λ_ _ _ _=>CW) (λ_ _ _ _=>(Dk Fi (Ay IW hr (Aa (pv 2) (Aa (pv 3) (Aa (pv 0) Ab)))) (pv 1) (Bs _))))) Ab)))),?_⟩
 have nfz:∀o' u,H d3≠some (.frz o' u):=λo' u z=>by rw[hd3] at z;cases z
 have lgs:(gpV gs).length=gs.length:=by unfold gpV;rw[QbB]
 refine⟨_,rfl,d3,gpV gs,rfl,hd3,λo l hl=>?_⟩
 have nl:l≠d3:=λz=>by rw[z,Ac] at hl;cases hl
 have fl':H l=none:=by rw[Al nl] at hl;exact hl
 have rd1:Rd (upd H d3 (.frz o (.dT (gpV gs)))) d1 (.dT (stV hs)):=by
  by_cases e:d1=d3
  ·subst e
   rw[hd1] at hd3
   have e2:=HO.dT.inj (QbH hd3)
   exact .inr ⟨o,by rw[Ac,e2]⟩
  ·exact .inl (by rw[Al e];exact hd1)
 let J0:YN:=λi σ HH=>(∃u v,σ=[u,v,some (.ref d1),some (.ref d3)])/\HH l=some (.lst (((gs.take i).map λx=>decide (V.bl (FQ hs gs x.1)=V.bl x.2)).map V.bl))/\Same (upd H d3 (.frz o (.dT (gpV gs)))) HH
 refine aj J0 ⟨⟨none,none,rfl⟩,Ac,Ag hl _⟩ (λi σ HH _ h=>h.2.2 _ _ Ac) (λi kv p' b σ HH hkv h hp' hb'=>?_) (fun σ HH h=>?_)
 ·obtain⟨⟨u,v,rfl⟩,e1,e2⟩:=h
  have hi:=(Qah.mp hkv).1
  unfold gpV at hkv
  rw[Qbi] at hkv
  obtain⟨x,hx,rfl⟩:=Qaw.mp hkv
  have t1:=Ag hp' (.tup [.ref b,.bl x.2])
  have e2':=e2.trans t1
  have gb:=hg x (QaD hx)
  refine⟨p',_,rfl,SqT.of Ac,rfl,_,_,rfl,_,_,rfl,rfl,?_⟩
  refine BK ⟨_,rfl,_,rfl,_,rfl,d1,d3,b,hs,gs,x.1,rfl,rdS rd1 e2',.inr ⟨o,e2' _ _ Ac⟩,t1 _ _ hb',hb,gb.1,gb.2,λH2 s2=>?_⟩
  refine⟨_,rfl,rfl,_,s2 _ _ (t1 _ _ e1),Ao (by rw[QbB,QbB,Qbs];omega),⟨_,_,rfl⟩,?_,(e2'.trans s2).Br Ai.upd hl⟩
  rw[Ac,Qcy hx,QbC,QbC]
  rfl
 ·obtain⟨_,e1,e2⟩:=h
  rw[lgs,Qbt] at e1
  have hfz:=e2 _ _ Ac
  refine⟨d3,o,gpV gs,hfz,nfz,l,_,rfl,SqL.of (by rw[Al nl];exact e1),?_⟩
  exact q _ (Wj e2 hd3)
theorem qy (c:Ip K C "rests" "Wires.rests" Lg Gx) (T:Tw K mg op oe kd wk C) (iY:Good P w K mg base "all_rest" 4 Jx jO):Qn P w K mg base C "rests" 5 Gx (cW C):=by
 refine c.good Vs (λvs H Q E h=>?_) (λf cdv A outer s H vs Q E hr h=>?_)
 ·obtain⟨p,pl,d1,d2,d3,hs,fl,gs,rfl,_⟩:=h
  rfl
 obtain⟨p,pl,d1,d2,d3,hs,fl,gs,rfl,R,hb,hg,q⟩:=h
 refine⟨_,(Ah (Bb (Ay iY hr (Aa (Gs (pv 0) rfl) (Aa (Gs (pv 0) rfl) Ab))))),?_⟩
 obtain⟨dx,hp⟩:=R.ins
 exact⟨_,rfl,p,C,dx,_,_,rfl,hp,T.cl,T.Hg,Hq pl d1 d2 d3,_,rfl,p,C,dx,_,_,rfl,hp,T.cl,T.K5,JX pl d1 d2 d3,d1,d3,hs,gs,rfl,R.st,R.gp,hb,hg,R.l3,q⟩
theorem lF (c:Ip K C "parted" "Wires.parted" JQ Ge) (T:Tw K mg op oe kd wk C):Qn P w K mg base C "parted" 1 Ge (Yh C):=by
 refine c.good Ul (λvs H Q E h=>?_) (λf cdv A outer s H vs Q E hr h=>?_)
 ·obtain⟨p,pl,d1,d2,d3,hs,fl,gs,rfl,_⟩:=h
  rfl
 obtain⟨p,pl,d1,d2,d3,hs,fl,gs,rfl,R,q⟩:=h
 refine⟨_,(Ah (Bb (Y9 rfl (Cv (N':=["opener","gap"]) rfl (Bp.plain rfl (by trivial) (by trivial) (by trivial)) (Wq (Gs (pv 0) rfl)) (λ_ _ _ _=>(Hl (K:=K) (n:=2) rfl rfl (Aq (Ak (i:=0) (show List.Nodup (["opener","gap"]:YF) by trivial) rfl (Or.inl rfl)) (Aq (Ak (i:=1) (show List.Nodup (["opener","gap"]:YF) by trivial) rfl (Or.inl rfl)) Bv)))) (λ_ _ _ _=>(Kz (DR (pv 1)))) (λ_ _ _ _=>(pv 0)))))),?_⟩
 obtain⟨dx,hp⟩:=R.ins
 have hd3:=R.gp
 have l3:=R.l3
 have nfz:∀o' u,H d3≠some (.frz o' u):=λo' u z=>by rw[hd3] at z;cases z
 have lgs:(gpV gs).length=gs.length:=by unfold gpV;rw[QbB]
 refine⟨_,rfl,p,C,dx,_,_,rfl,hp,T.cl,T.K5,JX pl d1 d2 d3,d3,gpV gs,rfl,hd3,λo l hl=>?_⟩
 have nl:l≠d3:=λz=>by rw[z,Ac] at hl;cases hl
 have fl':H l=none:=by rw[Al nl] at hl;exact hl
 let J1:YN:=λi σ HH=>(∃u v,σ=[u,v])/\(∃ys,HH l=some (.lst ys)/\Paired (Ei HH) ys (((gs.take i).filter (·.2)).map (·.1))/\ys.length<=i)/\Same (upd H d3 (.frz o (.dT (gpV gs)))) HH
 refine aj J1 ⟨⟨none,none,rfl⟩,⟨[],Ac,.nil,Qcq _⟩,Ag hl _⟩ (λi σ HH _ h=>h.2.2 _ _ Ac) (λi kv p' b σ HH hkv h hp' hb'=>?_) (fun σ HH h=>?_)
 ·obtain⟨⟨u,v,rfl⟩,⟨ys,e1,e3,e4⟩,e2⟩:=h
  have hi:=(Qah.mp hkv).1
  unfold gpV at hkv
  rw[Qbi] at hkv
  obtain⟨x,hx,rfl⟩:=Qaw.mp hkv
  have t1:=Ag hp' (.tup [.ref b,.bl x.2])
  have e2':=e2.trans t1
  have et:((gs.take (i+1)).filter (·.2)).map (·.1)=((gs.take i).filter (·.2)).map (·.1)++([x].filter (·.2)).map (·.1):=by rw[Qcy hx,List.filter_append,QbC]
  refine⟨p',_,rfl,SqT.of Ac,rfl,_,_,rfl,_,_,rfl,rfl,?_⟩
  refine⟨_,rfl,_,rfl,PN (λhc=>?_) (λhc=>?_)⟩
  ·have e1':=t1 _ _ e1
   have ntl:∀zs,(upd HH p' (.tup [.ref b,.bl x.2])) l≠some (.tup zs):=λzs z=>by rw[e1'] at z;cases z
   have sL:=Ar.upd (o:=.lst (ys++[.ref b])) ntl
   refine⟨_,rfl,ys,e1',Ao (by omega),⟨_,_,rfl⟩,⟨_,Ac,?_,by rw[QaQ];show _+1<=_;omega⟩,e2'.Br Ai.upd hl⟩
   rw[et,show [x].filter (·.2)=[x] from List.filter_cons_of_pos (p:=λy:Gt×Bool=>y.2) hc]
   exact Qcs ⟨b,rfl,sL _ _ (t1 _ _ hb')⟩ (Paired.Bc e3 λ_ _ z=>(z.tups (Ar.of t1)).tups sL)
  ·refine⟨⟨_,_,rfl⟩,⟨ys,t1 _ _ e1,?_,by omega⟩,e2'⟩
   rw[et,show [x].filter (·.2)=[] from Qau (p:=λy:Gt×Bool=>y.2) (by rw[hc];decide),List.map_nil,QbF]
   exact Paired.Bc e3 λ_ _ z=>z.tups (Ar.of t1)
 ·obtain⟨_,⟨ys,e1,e3,e4⟩,e2⟩:=h
  rw[lgs,Qbt] at e3
  have hfz:=e2 _ _ Ac
  have ntz:∀zs,HH d3≠some (.tup zs):=λzs z=>by rw[hfz] at z;cases z
  exact⟨d3,o,gpV gs,hfz,nfz,q l ys _ fl' (by rw[Al nl];exact e1) (Paired.Bc e3 λ_ _ z=>z.tups (Ar.upd ntz)) (Wj e2 hd3)⟩
end
abbrev Oh:Stmt:=(inClass (top 55) 11)
abbrev GJ:YF:=["self","opener"]
theorem Js:Az ["self","opener","gap","changed"] GJ (Aj Oh):=⟨rfl,rfl,rfl,by trivial,rfl,by trivial,by trivial⟩
def setG (gs:YT) (g:Gt) (b:Bool):YT:=gs.map λx=>if x.1=g then (x.1,b) else x
theorem Pg (gs:YT) (g:Gt) (b:Bool):(setG gs g b).map (·.1)=gs.map (·.1):=by
 unfold setG
 rw[Qcl]
 refine QaM λx _=>?_
 show (if x.1=g then (x.1,b) else x).1=x.1
 split <;> rfl
theorem pJ (gs:YT) (g:Gt) (b:Bool):(setG gs g b).length=gs.length:=QbB ..
theorem xX {gs:YT} {g:Gt} {b:Bool} (h:g∈gs.map (·.1)):putK (gpV gs) (k2 g) (.bl b)=gpV (setG gs g b):=by
 obtain⟨x,hx,e⟩:=Qci.mp h
 rw[Te (l:=gpV gs) ⟨_,Qci.mpr ⟨x,hx,rfl⟩,by show k2 x.1=_;rw[e]⟩]
 unfold gpV setG
 rw[Qcl,Qcl]
 refine QaM λy _=>?_
 show (if k2 y.1=k2 g then (k2 y.1,V.bl b) else (k2 y.1,V.bl y.2))=(k2 (if y.1=g then (y.1,b) else y).1,V.bl (if y.1=g then (y.1,b) else y).2)
 by_cases e:y.1=g
 ·rw[if_pos (by rw[e]),if_pos e]
 ·rw[if_neg (λz=>e (O4 z)),if_neg e]
theorem mJ {gs:YT} {g:Gt} (h:g∈gs.map (·.1)):CT (gpV gs) (k2 g)=some (.bl (gpC gs g)):=by
 obtain⟨y,hy,ey⟩:=Qci.mp h
 unfold gpC
 rw[RG]
 cases e:gs.find? λx=>decide (x.1=g) with
 | none=>exact absurd ey (by simpa using List.find?_eq_none.mp e y hy)
 | some z=>rfl
theorem xY {gs:YT} {g:Gt} (h:g∉gs.map (·.1)):CT (gpV gs) (k2 g)=none:=JG λx hx e=>by
 obtain⟨y,hy,rfl⟩:=Qci.mp hx
 exact h (Qci.mpr ⟨y,hy,O4 e⟩)
def uL (H:Hp) (v:V) (gs:List Gt):Prop:=∃b g,v=.ref b/\H b=some (.tup [.int g.lp,.int g.at_])/\g∈gs
theorem pA {xs:YG} (hl:xs.length=2) (h:xs.all isW=true):∃a b,xs=[.int a,.int b]:=by
 match xs,hl with
 | [x1,x2],_=>
  simp only[List.all_cons,List.all_nil,Bool.and_true,Qbw] at h
  obtain⟨h1,h2⟩:=h
  obtain⟨a,rfl⟩:=O5 h1
  obtain⟨b,rfl⟩:=O5 h2
  exact⟨a,b,rfl⟩
theorem vY {H:Hp} {v:V} (h:Jd (Fp H v) 2=true):∃b a c,v=.ref b/\H b=some (.tup [.int a,.int c]):=by
 cases e:Fp H v with
 | none=>rw[e] at h;cases h
 | some xs=>
  rw[e,Jk,Qbw] at h
  have h1:(decide ((2:Int)<=xs.length)&&decide ((xs.length:Int)<=2))=true:=h.1
  rw[Qbw] at h1
  have h2:=Qbj h1.1
  have h3:=Qbj h1.2
  obtain⟨a,c,rfl⟩:=pA (by omega) h.2
  obtain⟨b,rfl,hb⟩:=PB e
  exact⟨b,a,c,rfl,hb⟩
theorem bx {H:Hp} {v:V} {ss:List Gt} (h:uL H v ss):Jd (Fp H v) 2=true:=by
 obtain⟨b,s,rfl,hb,_⟩:=h
 rw[CZ hb]
 rfl
def fP (C ca:Addr):Sp:=λvs H Q E=>∃p pl d1 d2 d3 hs fl gs v,vs=[.ref p,v]/\WAt C H p pl d1 d2 d3 hs fl gs/\(∀s∈hs.map (·.1),Bd3 s)/\jt gs/\Th H v/\(∀b g,v=.ref b->H b=some (.tup [.int g.lp,.int g.at_])->g∈gs.map (·.1)->∀H',WAt C H' p pl d1 d2 d3 hs fl (setG gs g (FQ hs gs g))->Ai d3 H H'->Q (.bl (!decide (V.bl (FQ hs gs g)=V.bl (gpC gs g)))) H')/\(¬uL H v (gs.map (·.1))->∀H',Same H H'->E (.ref ca) none H')
section
variable {P:Program} {w:World} {K:YD} {mg:YB} {base:Heap} {op oe kd wk C:Addr} {hc c0 c1 c2 c3 c4 c5 c6 c7 c8 c9 c10 c11 c12:Addr}
theorem Ap (c:Ip K C "act" "Wires.act" Oh GJ) (T:Tw K mg op oe kd wk C) (XE:Er K mg hc c0 c1 c2 c3 c4 c5 c6 c7 c8 c9 c10 c11 c12) (Fy:Knd K hc c4 [c0,c1,c2,c3,c4,c5,c6,c7,c8,c9,c10,c11,c12] 4) (Ni:Good P w K mg base "are_wholes" 2 Gd Qz) (IW:Good P w K mg base "comes_to_short" 3 Dz Yj):Fd P w K mg base C "act" 4 GJ (fP C c4):=by
 have sc:=Js
 refine c.U6 Js (λvs H Q E h=>?_) (λX f cdv A outer s H vs Q E eX hx hr h=>?_)
 ·obtain⟨p,pl,d1,d2,d3,hs,fl,gs,v,rfl,_⟩:=h
  rfl
 subst eX
 obtain⟨p,pl,d1,d2,d3,hs,fl,gs,v,rfl,R,hb,hg,th,q,qE⟩:=h
 refine⟨_,(Af (Ce (PW.pt (NK (Et (DR (Ay Ni hr (Aa (pv 1) (Aa Ae Ab))))) (Mw (Ox (QW (Cy hr) (pv 1) (Gs (pv 0) rfl)))))) (Ah (Y5 rfl Fy.xc rfl XE.Ww hx (Aa Bf Ab))) BJ)
 (Af (Ba (i:=2) Js.nd rfl (Or.inl rfl) (Ay IW hr (Aa (Gs (pv 0) rfl) (Aa (Gs (pv 0) rfl) (Aa (pv 1) Ab)))))
 (Af (Ba (i:=3) Js.nd rfl (Or.inl rfl) (Dk Ut (pv 2) (dH (Cy hr) (Gs (pv 0) rfl) (pv 1) (λ_ _=>rfl)) (Bs _)))
 (Af (GD (Cy hr) (Gs (pv 0) rfl) (pv 1) (pv 2) rfl)
 (Ah (Bb (pv 3))))))),?_⟩
 show let R0:TS:=Am _ _;let R1:TS:=Am _ R0;let R2:TS:=Am _ R1;let R3:TS:=_;Am (Gp _ R3 _) R2 _ _ _
 intro R0 R1 R2 R3
 refine⟨_,rfl,v,2,rfl,th,λH1 s1=>⟨_,rfl,?_⟩⟩
 cases ew:Jd (Fp H v) 2 with
 | false=>exact BK ⟨Aw (by show 1<=1000;decide),qE (λz=>by rw[bx z] at ew;cases ew) _ s1⟩
 | true=>
  obtain⟨b,a1,a2,rfl,hbt⟩:=vY ew
  have R1:=R.same s1
  obtain⟨dx,hp⟩:=R1.ins
  refine Cm ⟨_,rfl,_,rfl,p,C,dx,_,_,rfl,hp,T.cl,T.K5,JX pl d1 d2 d3,d3,_,rfl,Ds.t (k:=k2 ⟨a1,a2⟩) R1.gp (s1 _ _ hbt),_,rfl,?_⟩
  by_cases hin:(⟨a1,a2⟩ : Gt)∈gs.map (·.1)
  ·rw[mJ hin]
   obtain⟨x,hx',ex⟩:=Qci.mp hin
   have gb:=hg x hx'
   rw[ex] at gb
   refine Cm ⟨_,rfl,p,C,dx,_,_,rfl,hp,T.cl,T.Hg,Hq pl d1 d2 d3,_,rfl,p,C,dx,_,_,rfl,hp,T.cl,T.K5,JX pl d1 d2 d3,_,rfl,d1,d3,b,hs,gs,⟨a1,a2⟩,rfl,.inl R1.st,.inl R1.gp,s1 _ _ hbt,hb,gb.1,gb.2,λH2 s2=>?_⟩
   have R2:=R1.same s2
   obtain⟨dx2,hp2⟩:=R2.ins
   have s12:=s1.trans s2
   have gg:=Ds.t (k:=k2 ⟨a1,a2⟩) R2.gp (s12 _ _ hbt)
   rw[mJ hin] at gg
   refine⟨_,rfl,_,rfl,p,C,dx2,_,_,rfl,hp2,T.cl,T.K5,JX pl d1 d2 d3,_,rfl,d3,_,rfl,gg,rfl,?_⟩
   have l3:=R2.l3
   have hd3:=R2.gp
   have npd:p≠d3:=λz=>by rw[z,hd3] at hp2;cases hp2
   have nt:∀zs,H2 d3≠some (.tup zs):=λzs z=>by rw[hd3] at z;cases z
   refine⟨_,rfl,_,rfl,p,C,dx2,_,_,rfl,hp2,T.cl,T.K5,JX pl d1 d2 d3,_,rfl,d3,_,rfl,Jc.t (k:=k2 ⟨a1,a2⟩) hd3 (s12 _ _ hbt) (Ao (by unfold gpV;rw[QbB];omega)),?_⟩
   rw[xX hin]
   obtain⟨kvs,hk,hf⟩:=R2.fi
   have sT:=Ar.upd (o:=.dT (gpV (setG gs ⟨a1,a2⟩ (FQ hs gs ⟨a1,a2⟩)))) nt
   exact⟨_,rfl,q b ⟨a1,a2⟩ rfl hbt hin _ ⟨⟨dx2,by rw[Al npd];exact hp2⟩,by rw[Al R2.n13];exact R2.st,⟨kvs,by rw[Al R2.n23];exact hk,Paired.Bc hf λ_ _ z=>z.tups sT⟩,R.nd1,R.nd2,R.l1,R.l2,Ac,by rw[Pg];exact R.nd3,by rw[pJ];exact R.l3,R.n13,R.n23⟩ ((Ai.of s12).trans Ai.upd)⟩
  ·rw[xY hin]
   refine BK ⟨Aw (by show 1<=1000;decide),qE (λ⟨b',s',e1,e2,e3⟩=>?_) _ s1⟩
   cases e1
   rw[hbt] at e2
   cases s'
   cases e2
   exact hin e3
end
abbrev Ny:Stmt:=top 66
abbrev KJ:YF:=["_law_plan_here"]
theorem Jq:Az ["_law_plan_here","_law_found","_law_loop_here","_law_places"] KJ (Aj Ny):=⟨rfl,rfl,rfl,by trivial,rfl,by trivial,by trivial⟩
theorem cI {α : Type} {f:Nat->List α} {k:Nat}:∀{n:Nat},k<=n->up f k <+: up f n
 | 0,h=>by rw[show k=0 by omega];exact List.prefix_refl _
 | n+1,h=>by
  by_cases e:k=n+1
  ·rw[e];exact List.prefix_refl _
  ·rw[Dc]
   exact List.IsPrefix.trans (cI (by omega)) (List.prefix_append _ _)
def dw:Sp:=λvs H Q _=>∃pl most loops zones,vs=[.ref pl]/\Fz H pl most loops zones/\∀l xs H',H l=none->H' l=some (.lst xs)->Paired (Ei H') xs (up (gtL loops) loops.length)->Same H H'->Q (.ref l) H'
section
variable {P:Program} {w:World} {K:YD} {mg:YB} {base:Heap} {op oe kd wk C:Addr}
theorem qG (c:Code K mg "_law_gates" Ny KJ) (T:Tw K mg op oe kd wk C):Good P w K mg base "_law_gates" 1 KJ dw:=by
 have sc:=Jq
 refine c.good Jq (λvs H Q E h=>?_) (λf cdv A outer s H vs Q E hr h=>?_)
 ·obtain⟨pl,most,loops,zones,rfl,_⟩:=h
  rfl
 obtain⟨pl,most,loops,zones,rfl,pa,q⟩:=h
 refine⟨_,(Af (Ba (i:=1) Jq.nd rfl (Or.inl rfl) (BP Ab))
 (Af (Cg QbE rfl (CN rfl T.range (Aa (Av Bl rfl T.len Cu (Aa (Bo Cd (pv 0) Ae (λ_ _=>rfl)) Ab)) Ab)) (Ak (i:=2) Jq.nd rfl (Or.inr rfl))
 (Af (Ba (i:=3) Jq.nd rfl (Or.inr rfl) (Bo Cd (Bo Cd (pv 0) Ae (λ_ _=>rfl)) (pv 2) (λ_ _=>rfl)))
 (Af (Bj (BW Qaq Qal Qam Bu (pv 1) (Aa (Bd (Aa (pv 2) (Aa Ae Ab))) Ab)))
 (Af (Bj (BW Qaq Qao Qap Fx (pv 1) (Aa (Cv (N':=["_law_at","_law_loop_here","_law_places"]) rfl (Bp.of (src:=[none,some 2,some 3]) (Aj Ny) ["_law_plan_here","_law_found","_law_loop_here","_law_places"] rfl rfl rfl (by trivial) (by trivial) (by trivial) rfl (by trivial)) (CN rfl T.range (Aa (Av Bl rfl T.len Cu (Aa (pv 3) Ab)) Ab)) (λ_ _ _ _=>(Ak (i:=0) (show List.Nodup (["_law_at","_law_loop_here","_law_places"]:YF) by trivial) rfl (Or.inl rfl))) (λ_ _ _ _=>(Kz (Bx Fi (Bo (V0 (K:=K) rfl) (Bo (V0 (K:=K) rfl) (pv 2) (pv 0) (λ_ _=>rfl)) Ae (λ_ _=>rfl)) Bf (Bs _)))) (λ_ _ _ _=>(Bd (Aa (pv 1) (Aa (Bg Ca (pv 0) Ae) Ab))))) Ab)))
 (Ah (Bj (BW Qaq Qal Qam Bu (pv 1) (Aa (Bd (Aa (pv 2) (Aa (Bg Ca (Av Bl rfl T.len Cu (Aa (pv 3) Ab)) Ae) Ab))) Ab))))))))
 (Ah (Bb (pv 1))))),?_⟩
 show let R0:TS:=_;let R1:TS:=Am _ R0;let R2:TS:=Am _ R1;let R3:TS:=Am _ R2;let R4:TS:=Am (Dg _ _ R3) _;Am _ R4 _ _ _
 intro R0 R1 R2 R3 R4
 have ok:=pa.ok
 obtain⟨Ls,zs,ws,zvs,f1,f2,f3,f4,f5⟩:=pa.at_
 have lw:=QbX f3
 have l3:=ok.hi
 have o200:=lA ok
 refine⟨Aw (by show 0<=1000;decide),λl hl=>?_⟩
 have n1:=Ag hl (.lst [])
 refine⟨_,rfl,pl,_,_,_,rfl,rfl,SqT.of (n1 _ _ f1),rfl,Ls,_,rfl,.inr (SqT.of (n1 _ _ f2)),_,rfl,by omega,by omega,?_⟩
 rw[Qbk]
 let J0:YN:=λk σ HH=>∃u2 u3,σ=[some (.ref pl),some (.ref l),u2,u3]/\(∃xs,HH l=some (.lst xs)/\Paired (Ei HH) xs (up (gtL loops) k))/\Same H HH
 refine DX J0 ⟨_,_,rfl,⟨[],Ac,.nil⟩,n1⟩ (λk σ HH hk h=>?_) (fun σ HH h=>?_)
 ·obtain⟨u2,u3,rfl,⟨xs,e1,e2⟩,sm⟩:=h
  have hwk:ws[k]?=some ws[k]:=Qan hk
  obtain⟨ps,hps,t,vs',ev,ht,hpp⟩:=Paired.Cq f3 hwk
  have lv:=QbX hpp
  have hkl:k < loops.length:=by omega
  have okl:=ok.ok ps (QaD hps)
  have l12:=okl.hi
  have egt:gtL loops k=(⟨k,0⟩::up (gt1 k ps) ps.length)++[⟨k,(ps.length:Int)+1⟩]:=CQ hps
  have Tt:atI ws ((0:Int)+(k:Int))=some (.ref t):=by rw[Qco];exact Ec (by rw[hwk,ev])
  have lx:=QbX e2
  have lst:(up (gtL loops) k).length<=200:=Qck (cI (f:=gtL loops) (Qcn hkl)).length_le o200
  have lgt:(up (gt1 (k:Int) ps) ps.length).length<=12:=by
   have:=Dt (f:=gt1 (k:Int) ps) (c:=1) RD ps.length
   omega
  refine⟨_,rfl,pl,_,_,_,rfl,rfl,SqT.of (sm _ _ f1),rfl,_,rfl,Ls,_,_,_,rfl,rfl,SqT.of (sm _ _ f2),Tt,?_⟩
  refine⟨_,rfl,.inl ⟨rfl,_,SqL.of e1⟩,_,rfl,Aw (by show 2<=1000;decide),λta hta=>?_⟩
  rw[Qco]
  have a1:=Ag hta (.tup [.int (k:Int),.int 0])
  have e1a:=a1 _ _ e1
  refine⟨l,_,_,rfl,rfl,e1a,Ao (by omega),?_⟩
  have ntl:∀zs,(upd HH ta (.tup [.int (k:Int),.int 0])) l≠some (.tup zs):=λzs z=>by rw[e1a] at z;cases z
  have sL:=Ar.upd (o:=.lst (xs++[.ref ta])) ntl
  have p2:Paired (Ei (upd (upd HH ta (.tup [.int (k:Int),.int 0])) l (.lst (xs++[.ref ta])))) (xs++[.ref ta]) (up (gtL loops) k++[⟨k,0⟩]):=Qcs ⟨ta,rfl,sL _ _ Ac⟩ (Paired.Bc e2 λ_ _ z=>(z.tups (Ar.of a1)).tups sL)
  have hl2:(upd (upd HH ta (.tup [.int (k:Int),.int 0])) l (.lst (xs++[.ref ta]))) l=_:=Ac
  have sm2:Same H (upd (upd HH ta (.tup [.int (k:Int),.int 0])) l (.lst (xs++[.ref ta]))):=(sm.trans a1).Br Ai.upd hl
  generalize upd (upd HH ta (.tup [.int (k:Int),.int 0])) l (.lst (xs++[.ref ta]))=H2 at *
  refine⟨_,rfl,.inl ⟨rfl,_,SqL.of hl2⟩,_,rfl,t,_,rfl,.inr (SqT.of (sm2 _ _ ht)),_,rfl,by omega,by omega,λlc hlc=>?_⟩
  rw[Qbk]
  have nlc:l≠lc:=Ax hl2 hlc
  let J1:YN:=λi σ HY=>(∃u,σ=[u,some (.int (k:Int)),some (.ref t)])/\(∃ys,HY lc=some (.lst ys)/\Paired (Ei HY) ys (up (gt1 (k:Int) ps) i)/\ys.length<=i)/\Same H2 HY
  refine JD J1 ⟨⟨_,rfl⟩,⟨[],Ac,.nil,Qcq _⟩,Ag hlc _⟩ (λi σ HY hi h=>?_) (fun σ HY h=>?_)
  ·obtain⟨⟨u,rfl⟩,⟨ys,g1,g2,g4⟩,g3⟩:=h
   have hvi:vs'[i]?=some vs'[i]:=Qan hi
   obtain⟨p,hp,tp,up',wsp,ep,hpt,hpu,hpd⟩:=Paired.Cq hpp hvi
   have IL:atI vs' ((0:Int)+(i:Int))=some (.ref tp):=by rw[Qco];exact Ec (by rw[hvi,ep])
   have eg1:gt1 (k:Int) ps i=if V.str p.kind=V.str "opener" then [⟨(k:Int),((1+i:Nat):Int)⟩] else []:=CQ hp
   have s2:=sm2.trans g3
   refine⟨_,rfl,_,rfl,t,_,_,_,rfl,rfl,SqT.of (s2 _ _ ht),IL,tp,_,_,_,rfl,rfl,SqT.of (s2 _ _ hpt),rfl,rfl,_,rfl,?_⟩
   by_cases hop:V.str p.kind=V.str "opener"
   ·rw[QbS hop]
    refine BK ⟨_,rfl,_,rfl,_,_,rfl,rfl,Aw (by show 2<=1000;decide),λtk htk=>?_⟩
    rw[Qco]
    have b1:=Ag htk (.tup [.int (k:Int),.int ((i:Int)+1)])
    have g1':=b1 _ _ g1
    have ntc:∀zs,(upd HY tk (.tup [.int (k:Int),.int ((i:Int)+1)])) lc≠some (.tup zs):=λzs z=>by rw[g1'] at z;cases z
    have sC:=Ar.upd (o:=.lst (ys++[.ref tk])) ntc
    refine⟨ys,g1',Ao (by omega),⟨_,rfl⟩,⟨_,Ac,?_,by rw[QaQ];show _+1<=_;omega⟩,(g3.trans b1).Br Ai.upd hlc⟩
    rw[Dc,eg1,if_pos hop]
    refine Qcs ⟨tk,rfl,?_⟩ (Paired.Bc g2 λ_ _ z=>(z.tups (Ar.of b1)).tups sC)
    rw[sC _ _ Ac]
    show _=some (HO.tup [.int (k:Int),.int ((1+i:Nat):Int)])
    rw[show ((1+i:Nat):Int)=(i:Int)+1 by omega]
   ·rw[QbG hop]
    refine Cm ⟨⟨_,rfl⟩,⟨ys,g1,?_,by omega⟩,g3⟩
    rw[Dc,eg1,if_neg hop,QbF]
    exact g2
  obtain⟨_,⟨ys,g1,g2,g4⟩,g3⟩:=h
  rw[lv] at g2
  have hlY:=g3 _ _ hl2
  refine⟨l,lc,_,_,rfl,rfl,hlY,g1,Aw (by rw[QaQ];show _+1+_<=_;omega),?_⟩
  have ntY:∀zs,HY l≠some (.tup zs):=λzs z=>by rw[hlY] at z;cases z
  have sY:=Ar.upd (o:=.lst ((xs++[.ref ta])++ys)) ntY
  have p3:Paired (Ei (upd HY l (.lst ((xs++[.ref ta])++ys)))) ((xs++[.ref ta])++ys) ((up (gtL loops) k++[⟨k,0⟩])++up (gt1 (k:Int) ps) ps.length):=Paired.app (Paired.Bc p2 λ_ _ z=>(z.tups (Ar.of g3)).tups sY) (Paired.Bc g2 λ_ _ z=>z.tups sY)
  have hl3:(upd HY l (.lst ((xs++[.ref ta])++ys))) l=_:=Ac
  have sm3:Same H (upd HY l (.lst ((xs++[.ref ta])++ys))):=(sm2.trans g3).Br Ai.upd hl
  generalize upd HY l (.lst ((xs++[.ref ta])++ys))=H3 at *
  refine⟨_,rfl,.inl ⟨rfl,_,SqL.of hl3⟩,_,rfl,_,rfl,t,_,rfl,.inr (SqT.of (sm3 _ _ ht)),_,_,rfl,rfl,Aw (by show 2<=1000;decide),λtb htb=>?_⟩
  have b3:=Ag htb (.tup [.int (k:Int),.int ((vs'.length:Int)+1)])
  have e3:=b3 _ _ hl3
  have nt3:∀zs,(upd H3 tb (.tup [.int (k:Int),.int ((vs'.length:Int)+1)])) l≠some (.tup zs):=λzs z=>by rw[e3] at z;cases z
  have s4:=Ar.upd (o:=.lst (((xs++[.ref ta])++ys)++[.ref tb])) nt3
  refine⟨l,_,_,rfl,rfl,e3,Ao (by rw[QaQ,QaQ];show _+1+_<=_;omega),_,_,rfl,⟨_,Ac,?_⟩,(sm3.trans b3).Br Ai.upd hl⟩
  rw[Dc,egt,show up (gtL loops) k++((⟨k,0⟩::up (gt1 (k:Int) ps) ps.length)++[⟨k,(ps.length:Int)+1⟩])=((up (gtL loops) k++[⟨k,0⟩])++up (gt1 (k:Int) ps) ps.length)++[⟨k,(ps.length:Int)+1⟩] from by simp only[Qbh,QbA,QbR]]
  refine Qcs ⟨tb,rfl,?_⟩ (Paired.Bc p3 λ_ _ z=>(z.tups (Ar.of b3)).tups s4)
  rw[s4 _ _ Ac,lv]
 ·obtain⟨u2,u3,rfl,⟨xs,e1,e2⟩,sm⟩:=h
  rw[lw] at e2
  exact⟨_,rfl,q l xs HH hl e1 e2 sm⟩
end
abbrev Io:Stmt:=top 68
abbrev Gv:YF:=["_law_plan_here"]
theorem FZ:Az ["_law_plan_here","_law_found","_law_loop_here","_law_at"] Gv (Aj Io):=⟨rfl,rfl,rfl,by trivial,rfl,by trivial,by trivial⟩
def cR:Sp:=λvs H Q _=>∃pl most loops zones,vs=[.ref pl]/\Fz H pl most loops zones/\∀l xs H',H l=none->H' l=some (.lst xs)->Paired (Ci H') xs (up (stL loops) loops.length)->Same H H'->Q (.ref l) H'
section
variable {P:Program} {w:World} {K:YD} {mg:YB} {base:Heap} {op oe kd wk C:Addr}
theorem qw (c:Code K mg "_law_stretches" Io Gv) (T:Tw K mg op oe kd wk C):Good P w K mg base "_law_stretches" 1 Gv cR:=by
 have sc:=FZ
 refine c.good FZ (λvs H Q E h=>?_) (λf cdv A outer s H vs Q E hr h=>?_)
 ·obtain⟨pl,most,loops,zones,rfl,_⟩:=h
  rfl
 obtain⟨pl,most,loops,zones,rfl,pa,q⟩:=h
 refine⟨_,(Af (Ba (i:=1) FZ.nd rfl (Or.inl rfl) (BP Ab))
 (Af (Cg QbE rfl (CN rfl T.range (Aa (Av Bl rfl T.len Cu (Aa (Bo Cd (pv 0) Ae (λ_ _=>rfl)) Ab)) Ab)) (Ak (i:=2) FZ.nd rfl (Or.inr rfl))
 (Af (Bj (BW Qaq Qal Qam Bu (pv 1) (Aa (Bd (Aa (pv 2) (Aa Ae (Aa Ae Ab)))) Ab)))
 (Ah (Cg QbE rfl (CN rfl T.range (Aa (Av Bl rfl T.len Cu (Aa (Bo Cd (Bo Cd (pv 0) Ae (λ_ _=>rfl)) (pv 2) (λ_ _=>rfl)) Ab)) Ab)) (Ak (i:=3) FZ.nd rfl (Or.inr rfl))
 (Ah (Bj (BW Qaq Qao Qap Fx (pv 1) (Aa (Cv (N':=["_law_way","_law_loop_here","_law_at"]) rfl (Bp.of (src:=[none,some 2,some 3]) (Aj Io) ["_law_plan_here","_law_found","_law_loop_here","_law_at"] rfl rfl rfl (by trivial) (by trivial) (by trivial) rfl (by trivial)) (CN rfl T.range (Aa (Bg Ca (Av Bl rfl T.len Cu (Aa (Bo Cd (Bo Cd (Bo Cd (Bo Cd (pv 0) Ae (λ_ _=>rfl)) (pv 2) (λ_ _=>rfl)) (pv 3) (λ_ _=>rfl)) Ae (λ_ _=>rfl)) Ab)) Ae) Ab)) (λ_ _ _ _=>(Ak (i:=0) (show List.Nodup (["_law_way","_law_loop_here","_law_at"]:YF) by trivial) rfl (Or.inl rfl))) (λ_ _ _ _=>CW) (λ_ _ _ _=>(Bd (Aa (pv 1) (Aa (Bg Ca (pv 2) Ae) (Aa (pv 0) Ab)))))) Ab))))))))
 (Ah (Bb (pv 1))))),?_⟩
 show let R0:TS:=_;let R1:TS:=Dg _ _ R0;let R2:TS:=Am _ R1;let R3:TS:=Am (Dg _ _ R2) _;Am _ R3 _ _ _
 intro R0 R1 R2 R3
 have ok:=pa.ok
 obtain⟨Ls,zs,ws,zvs,f1,f2,f3,f4,f5⟩:=pa.at_
 have lw:=QbX f3
 have l3:=ok.hi
 refine⟨Aw (by show 0<=1000;decide),λl hl=>?_⟩
 have n1:=Ag hl (.lst [])
 refine⟨_,rfl,pl,_,_,_,rfl,rfl,SqT.of (n1 _ _ f1),rfl,Ls,_,rfl,.inr (SqT.of (n1 _ _ f2)),_,rfl,by omega,by omega,?_⟩
 rw[Qbk]
 let J0:YN:=λk σ HH=>∃u2 u3,σ=[some (.ref pl),some (.ref l),u2,u3]/\(∃xs,HH l=some (.lst xs)/\Paired (Ci HH) xs (up (stL loops) k))/\Same H HH
 refine DX J0 ⟨_,_,rfl,⟨[],Ac,.nil⟩,n1⟩ (λk σ HH hk h=>?_) (fun σ HH h=>?_)
 ·obtain⟨u2,u3,rfl,⟨xs,e1,e2⟩,sm⟩:=h
  have hwk:ws[k]?=some ws[k]:=Qan hk
  obtain⟨ps,hps,t,vs',ev,ht,hpp⟩:=Paired.Cq f3 hwk
  have lv:=QbX hpp
  have hkl:k < loops.length:=by omega
  have okl:=ok.ok ps (QaD hps)
  have l12:=okl.hi
  have est:stL loops k=⟨k,0,0⟩::up (st1 k ps) ps.length:=CQ hps
  have Tt:atI ws ((0:Int)+(k:Int))=some (.ref t):=by rw[Qco];exact Ec (by rw[hwk,ev])
  have lx:=QbX e2
  have lst:=Dt (Vn ok) k
  refine⟨_,rfl,.inl ⟨rfl,_,SqL.of e1⟩,_,rfl,Aw (by show 3<=1000;decide),λta hta=>?_⟩
  rw[Qco]
  have a1:=Ag hta (.tup [.int (k:Int),.int 0,.int 0])
  have e1a:=a1 _ _ e1
  refine⟨l,_,_,rfl,rfl,e1a,Ao (by omega),?_⟩
  have ntl:∀zs,(upd HH ta (.tup [.int (k:Int),.int 0,.int 0])) l≠some (.tup zs):=λzs z=>by rw[e1a] at z;cases z
  have sL:=Ar.upd (o:=.lst (xs++[.ref ta])) ntl
  have p2:Paired (Ci (upd (upd HH ta (.tup [.int (k:Int),.int 0,.int 0])) l (.lst (xs++[.ref ta])))) (xs++[.ref ta]) (up (stL loops) k++[⟨k,0,0⟩]):=Qcs ⟨ta,rfl,sL _ _ Ac⟩ (Paired.Bc e2 λ_ _ z=>(z.tups (Ar.of a1)).tups sL)
  have hl2:(upd (upd HH ta (.tup [.int (k:Int),.int 0,.int 0])) l (.lst (xs++[.ref ta]))) l=_:=Ac
  have sm2:Same H (upd (upd HH ta (.tup [.int (k:Int),.int 0,.int 0])) l (.lst (xs++[.ref ta]))):=(sm.trans a1).Br Ai.upd hl
  generalize upd (upd HH ta (.tup [.int (k:Int),.int 0,.int 0])) l (.lst (xs++[.ref ta]))=H2 at *
  rw[Qco] at Tt
  refine⟨_,rfl,pl,_,_,_,rfl,rfl,SqT.of (sm2 _ _ f1),rfl,_,rfl,Ls,_,_,_,rfl,rfl,SqT.of (sm2 _ _ f2),Tt,t,_,rfl,.inr (SqT.of (sm2 _ _ ht)),_,rfl,by omega,by omega,?_⟩
  rw[Qbk]
  let J1:YN:=λj σ HJ=>∃u3,σ=[some (.ref pl),some (.ref l),some (.int (k:Int)),u3]/\(∃ys,HJ l=some (.lst ys)/\Paired (Ci HJ) ys ((up (stL loops) k++[⟨k,0,0⟩])++up (st1 k ps) j))/\Same H HJ
  refine DX J1 ⟨_,rfl,⟨_,hl2,by rw[LQ,QbF];exact p2⟩,sm2⟩ (λj σ HJ hj h=>?_) (fun σ HJ h=>?_)
  ·obtain⟨u3,rfl,⟨ys,hyj,pj⟩,sj⟩:=h
   have hvj:vs'[j]?=some vs'[j]:=Qan hj
   obtain⟨p,hp,tp,ua,wp',ep,hp1,hp2,hp3⟩:=Paired.Cq hpp hvj
   have okp:=okl.ok p (QaD hp)
   have ej:st1 k ps j=(List.range (p.spur.length+1)).map λn:Nat=>⟨(k:Int),((1+j:Nat):Int),(n:Int)⟩:=CQ hp
   have tZ:atI vs' ((0:Int)+(j:Int))=some (.ref tp):=by rw[Qco];exact Ec (by rw[hvj,ep])
   have lj:=Dt (Vo (lp:=k) okl.ok) j
   have lys:=QbX pj
   rw[QaQ,QaQ,QaB] at lys
   have lwp:=QbX hp3
   have hsp:=okp.spur
   refine⟨_,rfl,.inl ⟨rfl,_,SqL.of hyj⟩,_,rfl,pl,_,_,_,rfl,rfl,SqT.of (sj _ _ f1),rfl,_,rfl,Ls,_,_,_,rfl,rfl,SqT.of (sj _ _ f2),Tt,_,rfl,t,_,_,_,rfl,rfl,SqT.of (sj _ _ ht),tZ,tp,_,_,_,rfl,rfl,SqT.of (sj _ _ hp1),rfl,ua,_,rfl,.inr (SqT.of (sj _ _ hp2)),_,_,rfl,rfl,_,rfl,by omega,by omega,λl2 hl3=>?_⟩
   rw[show ((wp'.length:Int)+1).toNat=p.spur.length+1 by omega]
   let J2:YN:=λn σ HC=>∃(u:Option V) (zs:YG),σ=[u,some (.int (k:Int)),some (.int ((0:Int)+(j:Int)))]/\HC l2=some (.lst zs)/\Same HJ HC/\Paired (Ci HC) zs ((List.range n).map λn:Nat=>⟨(k:Int),((1+j:Nat):Int),(n:Int)⟩)
   refine JD J2 ⟨none,[],rfl,Ac,Ag hl3 _,.nil⟩ (λn σ HC hn h=>?_) (fun σ HC h=>?_)
   ·obtain⟨u,zs,rfl,c1,c2,c3⟩:=h
    refine⟨_,rfl,_,rfl,_,_,rfl,rfl,_,rfl,Aw (by show 3<=1000;decide),λtq htq=>?_⟩
    rw[show (λi j:Int=>V.int (i+j)) ((0:Int)+(j:Int)) 1=V.int ((1+j:Nat):Int) from congrArg V.int (by omega)]
    have s3:=Ag htq (.tup [.int (k:Int),.int ((1+j:Nat):Int),.int (0+(n:Int))])
    have c1':=s3 _ _ c1
    have lz:=QbX c3
    rw[QbB,Qbo] at lz
    have n1:∀zs',(upd HC tq (.tup [.int (k:Int),.int ((1+j:Nat):Int),.int (0+(n:Int))])) l2≠some (.tup zs'):=λzs' z=>by rw[c1'] at z;cases z
    have t4:=Ar.upd (o:=.lst (zs++[.ref tq])) n1
    refine⟨_,c1',Ao (by omega),_,zs++[.ref tq],rfl,Ac,(c2.trans s3).Br Ai.upd hl3,?_⟩
    rw[List.range_succ,QbC]
    refine Qcs ⟨tq,rfl,?_⟩ (Paired.Bc c3 λ_ _ z=>(z.tups (Ar.of s3)).tups t4)
    refine t4 _ _ ?_
    rw[Ac,Qco]
   obtain⟨u,zs,rfl,c1,c2,c3⟩:=h
   have lz:=QbX c3
   rw[QbB,Qbo] at lz
   have hyC:=c2 _ _ hyj
   refine⟨l,l2,_,_,rfl,rfl,hyC,c1,Aw (by omega),?_⟩
   have n2:∀zs',HC l≠some (.tup zs'):=λzs' z=>by rw[hyC] at z;cases z
   have t5:=Ar.upd (o:=.lst (ys++zs)) n2
   refine⟨_,rfl,⟨ys++zs,Ac,?_⟩,(sj.trans c2).Br Ai.upd hl⟩
   rw[Dc,ej,<-Qbh]
   exact Paired.app (Paired.Bc pj λ_ _ z=>(z.tups (Ar.of c2)).tups t5) (Paired.Bc c3 λ_ _ z=>z.tups t5)
  obtain⟨u3,rfl,⟨ys,hyj,pj⟩,sj⟩:=h
  rw[lv] at pj
  refine⟨_,_,rfl,⟨ys,hyj,?_⟩,sj⟩
  rw[Dc,est,show up (stL loops) k++(⟨k,0,0⟩::up (st1 k ps) ps.length)=(up (stL loops) k++[⟨k,0,0⟩])++up (st1 k ps) ps.length from by simp only[Qbh,QbA,QbR]]
  exact pj
 ·obtain⟨u2,u3,rfl,⟨xs,e1,e2⟩,sm⟩:=h
  rw[lw] at e2
  exact⟨_,rfl,q l xs HH hl e1 e2 sm⟩
end
abbrev S6:Stmt:=top 65
abbrev M5:YF:=["_law_plan_here","_law_hows","_law_stops","_law_loop_here","_law_place","_law_step"]
theorem DQ:Az ["_law_plan_here","_law_hows","_law_stops","_law_loop_here","_law_place","_law_step","_law_places","_law_short","_law_spots","_law_at","_law_how","_law_way"] M5 (Aj S6):=⟨rfl,rfl,rfl,by trivial,rfl,by trivial,by trivial⟩
def Cp (hw:YR) (s:Sp3):Str:=((hw.find? λx=>decide (x.1=s)).map (·.2)).getD "whole"
theorem ZP (hw:YR) (s:Sp3):(CT (stV hw) (k3 s)).getD (.str "whole")=.str (Cp hw s):=by
 rw[Ro]
 unfold Cp
 cases hw.find? λx=>decide (x.1=s) <;> rfl
def inG (sp:YT) (g:Gt):Bool:=(CT (gpV sp) (k2 g)).isSome
def bS (z:Str):Bool:=decide (V.str z=V.str "short")
def CJ (hw:YR) (lp a:Int):Nat->Nat->Bool->Bool×YV
 | 0,_,b=>(b,[])
 | f+1,n,b=>if Cp hw ⟨lp,a,(n:Int)⟩="cut" then (b,[]) else ((CJ hw lp a f (n+1) (b || bS (Cp hw ⟨lp,a,(n:Int)⟩))).1,⟨lp,a,(n:Int)⟩::(CJ hw lp a f (n+1) (b || bS (Cp hw ⟨lp,a,(n:Int)⟩))).2)
def spN (ps:List Place) (a:Int):Nat:=(ps[(a - 1).toNat]?.map λp=>p.spur.length).getD 0
def GZ (hw:YR) (sp:YT) (ps:List Place) (lp st:Int):Nat->Int->Bool->Bool×YV
 | 0,_,b=>(b,[])
 | f+1,a,b=>if Cp hw ⟨lp,Bk a (a - st),0⟩="cut" then (b,[]) else
  if a=0\/(ps.length:Int) < a then (b || bS (Cp hw ⟨lp,Bk a (a - st),0⟩),[]) else
  if inG sp ⟨lp,a⟩=true then ((CJ hw lp a (spN ps a) 1 (b || bS (Cp hw ⟨lp,Bk a (a - st),0⟩))).1,⟨lp,a,0⟩::(CJ hw lp a (spN ps a) 1 (b || bS (Cp hw ⟨lp,Bk a (a - st),0⟩))).2) else
  ((GZ hw sp ps lp st f (a+st) (CJ hw lp a (spN ps a) 1 (b || bS (Cp hw ⟨lp,Bk a (a - st),0⟩))).1).1,(⟨lp,a,0⟩::(CJ hw lp a (spN ps a) 1 (b || bS (Cp hw ⟨lp,Bk a (a - st),0⟩))).2)++(GZ hw sp ps lp st f (a+st) (CJ hw lp a (spN ps a) 1 (b || bS (Cp hw ⟨lp,Bk a (a - st),0⟩))).1).2)
section
variable {hw:YR} {sp:YT} {ps:List Place} {lp st:Int} {f:Nat} {a:Int} {b:Bool}
theorem Wg (h:Cp hw ⟨lp,Bk a (a - st),0⟩="cut"):GZ hw sp ps lp st (f+1) a b=(b,[]):=if_pos h
theorem Wf (h:¬Cp hw ⟨lp,Bk a (a - st),0⟩="cut") (h2:a=0\/(ps.length:Int) < a):GZ hw sp ps lp st (f+1) a b=(b || bS (Cp hw ⟨lp,Bk a (a - st),0⟩),[]):=(if_neg h).trans (if_pos h2)
theorem Ud (h:¬Cp hw ⟨lp,Bk a (a - st),0⟩="cut") (h2:¬(a=0\/(ps.length:Int) < a)) (h3:inG sp ⟨lp,a⟩=true):GZ hw sp ps lp st (f+1) a b=((CJ hw lp a (spN ps a) 1 (b || bS (Cp hw ⟨lp,Bk a (a - st),0⟩))).1,⟨lp,a,0⟩::(CJ hw lp a (spN ps a) 1 (b || bS (Cp hw ⟨lp,Bk a (a - st),0⟩))).2):=(if_neg h).trans ((if_neg h2).trans (if_pos h3))
theorem XQ (h:¬Cp hw ⟨lp,Bk a (a - st),0⟩="cut") (h2:¬(a=0\/(ps.length:Int) < a)) (h3:¬inG sp ⟨lp,a⟩=true):GZ hw sp ps lp st (f+1) a b=((GZ hw sp ps lp st f (a+st) (CJ hw lp a (spN ps a) 1 (b || bS (Cp hw ⟨lp,Bk a (a - st),0⟩))).1).1,(⟨lp,a,0⟩::(CJ hw lp a (spN ps a) 1 (b || bS (Cp hw ⟨lp,Bk a (a - st),0⟩))).2)++(GZ hw sp ps lp st f (a+st) (CJ hw lp a (spN ps a) 1 (b || bS (Cp hw ⟨lp,Bk a (a - st),0⟩))).1).2):=(if_neg h).trans ((if_neg h2).trans (if_neg h3))
end
theorem Wm (hw:YR) (lp a:Int):∀f n b,(CJ hw lp a f n b).2.length<=f
 | 0,_,_=>Qcq _
 | f+1,n,b=>by
  unfold CJ
  split
  ·exact Qcr _
  ·have:=Wm hw lp a f (n+1) (b || bS (Cp hw ⟨lp,a,(n:Int)⟩))
   show _+1<=f+1
   omega
def Ke (ps:List Place) (st a:Int):Nat:=if st=1 then ((ps.length:Int)+1 - a).toNat else a.toNat
def GX (hw:YR) (sp:YT) (ps:List Place) (lp st a:Int):Bool×YV:=GZ hw sp ps lp st (Ke ps st a) (a+st) false
theorem vV {H0 H:Hp} {l t:Addr} {acc:YV} {s:Sp3} {xs:YG} (f:H0 l=none) (sm:Same H0 H) (hl:H l=some (.lst xs)) (hp:Paired (Ci H) xs acc) (ht:H t=none) :
  (upd (upd H t (.tup [.int s.lp,.int s.at_,.int s.n])) l (.lst (xs++[.ref t]))) l=some (.lst (xs++[.ref t]))/\Paired (Ci (upd (upd H t (.tup [.int s.lp,.int s.at_,.int s.n])) l (.lst (xs++[.ref t])))) (xs++[.ref t]) (acc++[s])/\Same H0 (upd (upd H t (.tup [.int s.lp,.int s.at_,.int s.n])) l (.lst (xs++[.ref t]))):=by
 have k:=Ag ht (.tup [.int s.lp,.int s.at_,.int s.n])
 have e:=k _ _ hl
 have nt:∀zs,(upd H t (.tup [.int s.lp,.int s.at_,.int s.n])) l≠some (.tup zs):=λzs z=>by rw[e] at z;cases z
 have sL:=Ar.upd (o:=.lst (xs++[.ref t])) nt
 exact⟨Ac,Qcs ⟨t,rfl,sL _ _ Ac⟩ (Paired.Bc hp λ_ _ z=>(z.tups (Ar.of k)).tups sL),(sm.trans k).Br Ai.upd f⟩
def jL:Sp:=λvs H Q _=>∃(pl:Addr) (most:Int) (loops:YU) (zones:List Zone) (d e:Addr) (hw:YR) (sp:YT) (k:Nat) (ps:List Place) (a st:Int),vs=[.ref pl,.ref d,.ref e,.int (k:Int),.int a,.int st]/\Fz H pl most loops zones/\loops[k]?=some ps/\H d=some (.dT (stV hw))/\H e=some (.dT (gpV sp))/\(st=1\/st=-1)/\0<=a/\a<=(ps.length:Int)+1 /\
 ∀t l xs H',H' t=some (.tup [.bl (GX hw sp ps k st a).1,.ref l])->H' l=some (.lst xs)->Paired (Ci H') xs (GX hw sp ps k st a).2->Same H H'->Q (.ref t) H'
def yU (i j:Nat):TE:=fun σ H Q=>∃b z,σ[i]?=some (some (.bl b))/\σ[j]?=some (some (.str z))/\Q (.bl (b || bS z)) H
section
variable {P:Program} {w:World} {K:YD} {mg:YB} {base:Heap} {op oe kd wk C:Addr}
theorem wR (c:Code K mg "_law_walk" S6 M5) (T:Tw K mg op oe kd wk C):Good P w K mg base "_law_walk" 1 M5 jL:=by
 have sc:=DQ
 refine c.good DQ (λvs H Q E h=>?_) (λf cdv A outer s H vs Q E hr h=>?_)
 ·obtain⟨pl,most,loops,zones,d,e,hw,sp,k,ps,a,st,rfl,_⟩:=h
  rfl
 obtain⟨pl,most,loops,zones,d,e,hw,sp,k,ps,a,st,rfl,pa,hps,hd,he,hst,a0,a1,q⟩:=h
 refine⟨_,(Af (Ba (i:=6) DQ.nd rfl (Or.inl rfl) (Bo Cd (Bo Cd (pv 0) Ae (λ_ _=>rfl)) (pv 3) (λ_ _=>rfl)))
 (Af (Ba (i:=7) DQ.nd rfl (Or.inl rfl) Dl)
 (Af (Ba (i:=8) DQ.nd rfl (Or.inl rfl) (BP Ab))
 (Af (Cg QbE rfl (kO rfl T.range (Aa (Bg Ca (pv 4) (pv 5)) (Aa (Bo CV (BP (Aa (Px Mq Ae) (Aa (Bg Ca (Av Bl rfl T.len Cu (Aa (pv 6) Ab)) Ae) Ab))) (Gm W0 rfl T.int aJ (Aa (Dk Rw (pv 5) Ae (Bs _)) Ab)) (λ_ _=>rfl)) (Aa (pv 5) Ab)))) (Ak (i:=9) DQ.nd rfl (Or.inl rfl))
 (Af (Ba (i:=10) DQ.nd rfl (Or.inl rfl) (M4 (Cy hr) (pv 1) (Bd (Aa (pv 3) (Aa (Av (La rfl) rfl T.min Ra (Aa (pv 9) (Aa (Bg Zd (pv 9) (pv 5)) Ab))) (Aa Ae Ab)))) Bf ⟨rfl,rfl,rfl,rfl⟩))
 (Af (Ce (Bx Fi (pv 10) Bf (Bs _)) (Ah Mz) BJ)
 (Af (Ba (i:=7) DQ.nd rfl (Or.inl rfl) (PE.weak (ta':=(yU 7 10)) (gB (pv 7) (Dj (Dk Fi (pv 10) Bf (Bs _)))) (fun σ H Q h=>by
    obtain⟨b,z,e1,e2,q⟩:=h
    refine⟨_,e1,_,rfl,?_⟩
    cases b with
    | true=>exact BK q
    | false=>exact Cm ⟨_,e2,rfl,q⟩)))
 (Af (Ce (PW.pt (NK (Bx Fi (pv 9) Ae (Bs _)) (Mw (Bx Rw (pv 9) (Av Bl rfl T.len Cu (Aa (pv 6) Ab)) (Bs _))))) (Ah Mz) BJ)
 (Af (Bj (BW Qaq Qal Qam Bu (pv 8) (Aa (Bd (Aa (pv 3) (Aa (pv 9) (Aa Ae Ab)))) Ab)))
 (Af (Cg QbE rfl (kW rfl T.range (Aa Ae (Aa (Bg Ca (Av Bl rfl T.len Cu (Aa (Bo Cd (Bo Cd (pv 6) (Bg Zd (pv 9) Ae) (λ_ _=>rfl)) Ae (λ_ _=>rfl)) Ab)) Ae) Ab))) (Ak (i:=11) DQ.nd rfl (Or.inl rfl))
 (Af (Ba (i:=10) DQ.nd rfl (Or.inl rfl) (M4 (Cy hr) (pv 1) (Bd (Aa (pv 3) (Aa (pv 9) (Aa (pv 11) Ab)))) Bf ⟨rfl,rfl,rfl,rfl⟩))
 (Af (Ce (Bx Fi (pv 10) Bf (Bs _)) (Ah Mz) BJ)
 (Af (Ba (i:=7) DQ.nd rfl (Or.inl rfl) (PE.weak (ta':=(yU 7 10)) (gB (pv 7) (Dj (Dk Fi (pv 10) Bf (Bs _)))) (fun σ H Q h=>by
    obtain⟨b,z,e1,e2,q⟩:=h
    refine⟨_,e1,_,rfl,?_⟩
    cases b with
    | true=>exact BK q
    | false=>exact Cm ⟨_,e2,rfl,q⟩)))
 (Ah (Bj (BW Qaq Qal Qam Bu (pv 8) (Aa (Bd (Aa (pv 3) (Aa (pv 9) (Aa (pv 11) Ab)))) Ab))))))))
 (Ah (Ce (Ox (QX (Cy hr) (Bd (Aa (pv 3) (Aa (pv 9) Ab))) (pv 2))) (Ah Mz) BJ)))))))))
 (Ah (Bb (Bd (Aa (pv 7) (Aa (pv 8) Ab))))))))),?_⟩
 show let R0:TS:=_;let R1:TS:=_;let R2:TS:=_;let R3:TS:=Am _ R2;let R4:TS:=Am _ R3;let R5:TS:=Am _ R4;let R6:TS:=Am (Dg _ _ R5) R1;let R7:TS:=Am _ R6;let R8:TS:=Am _ R7;let R9:TS:=Am _ R8;let R10:TS:=Am _ R9;let R11:TS:=Am _ R10;let R12:TS:=Am (Dg _ _ R11) R0;let R13:TS:=Am _ R12;let R14:TS:=Am _ R13;Am _ R14 _ _ _
 intro R0 R1 R2 R3 R4 R5 R6 R7 R8 R9 R10 R11 R12 R13 R14
 have ok:=pa.ok
 obtain⟨Ls,zs,ws,zvs,f1,f2,f3,f4,f5⟩:=pa.at_
 have lw:=QbX f3
 have hkl:=(Qah.mp hps).1
 have hwk:ws[k]?=some ws[k]:=Qan (by omega)
 obtain⟨ps',ZM,t,vs',ev,ht,hpp⟩:=Paired.Cq f3 hwk
 rw[hps] at ZM
 cases ZM
 have lv:=QbX hpp
 have okl:=ok.ok ps (QaD hps)
 have l12:=okl.hi
 have Tt:atI ws (k:Int)=some (.ref t):=Ec (by rw[hwk,ev])
 obtain⟨tot,htot⟩ : ∃tot,GX hw sp ps k st a=tot:=⟨_,rfl⟩
 obtain⟨n,hnn⟩ : ∃n,Ke ps st a=n:=⟨_,rfl⟩
 have nE:(st=1/\(n:Int)=(ps.length:Int)+1 - a)\/(st=-1/\(n:Int)=a):=by
  rw[<-hnn]
  unfold Ke
  rcases hst with h | h
  ·rw[if_pos h];exact .inl ⟨h,by omega⟩
  ·rw[if_neg (by omega)];exact .inr ⟨h,by omega⟩
 unfold GX at htot
 rw[hnn] at htot
 have q:∀t l xs H',H' t=some (.tup [.bl tot.1,.ref l])->H' l=some (.lst xs)->Paired (Ci H') xs tot.2->Same H H'->Q (.ref t) H':=by
  intro t l xs H' h1 h2 h3 h4
  refine q t l xs H' ?_ h2 ?_ h4
  ·unfold GX;rw[hnn,htot];exact h1
  ·unfold GX;rw[hnn,htot];exact h3
 refine⟨_,rfl,pl,_,_,_,rfl,rfl,SqT.of f1,rfl,_,rfl,Ls,_,_,_,rfl,rfl,SqT.of f2,Tt,?_⟩
 refine⟨Aw (by show 0<=1000;decide),λl hl=>?_⟩
 have n1:=Ag hl (.lst [])
 refine A2 ?_
 dsimp only
 show Am (Dg _ _ _) _ _ _ _
 refine QB (fun σ HH=>∃(u9 u10 u11:Option V) (xs:YG),σ=[some (.ref pl),some (.ref d),some (.ref e),some (.int (k:Int)),some (.int a),some (.int st),some (.ref t),some (.bl tot.1),some (.ref l),u9,u10,u11]/\HH l=some (.lst xs)/\Paired (Ci HH) xs tot.2/\Same H HH) (fun σ HH h=>?_) (λD' hn=>?_)
 ·obtain⟨u9,u10,u11,xs,rfl,e1,e2,e3⟩:=h
  refine⟨_,rfl,_,rfl,Aw (by show 2<=1000;decide),λtt htt=>?_⟩
  have kt:=Ag htt (.tup [.bl tot.1,.ref l])
  exact q tt l xs _ Ac (kt _ _ e1) (Paired.Bc e2 λ_ _ z=>z.tups (Ar.of kt)) (e3.trans kt)
 have hat:∀m:Nat,atI [V.int (-1),V.int ((m:Int)+2)] (if decide (0 < st)=true then 1 else 0)=some (.int (if st=1 then (m:Int)+2 else -1)):=λm=>by
  rcases hst with rfl | rfl <;> rfl
 refine⟨_,rfl,_,rfl,_,_,rfl,rfl,_,rfl,_,rfl,t,_,rfl,.inr (SqT.of (n1 _ _ ht)),_,_,rfl,rfl,Aw (by show 2<=1000;decide),λlr hlr=>?_⟩
 have n2:=Ag hlr (.lst [V.int (-1),V.int ((vs'.length:Int)+2)])
 have e1:=n2 _ _ (Ac (H:=H) (a:=l) (o:=.lst []))
 refine⟨_,rfl,_,_,rfl,rfl,.inr ⟨_,rfl,lr,_,_,_,rfl,rfl,SqL.of Ac,hat vs'.length,_,rfl,_,_,_,rfl,hst,?_,?_⟩⟩
 ·rcases hst with h | h
  ·rw[h,if_pos rfl]
   omega
  ·rw[h,if_neg (by decide)]
   omega
 have hnr:(if st=1 then ((if st=1 then (vs'.length:Int)+2 else -1) - (a+st)).toNat else (a+st - (if st=1 then (vs'.length:Int)+2 else -1)).toNat)=n:=by
  rcases nE with⟨h,h'⟩|⟨h,h'⟩
  ·rw[if_pos h,if_pos h,h,lv];omega
  ·rw[if_neg (by omega),if_neg (by omega),h];omega
 rw[hnr]
 have sm1:=n1.trans n2
 generalize upd (upd H l (.lst [])) lr _=H1 at *
 let J0:YN:=λi σ HH=>∃(b:Bool) (acc:YV) (x:Int) (u9 u10 u11:Option V) (xs:YG),x=a+st+(i:Int)*st/\σ=[some (.ref pl),some (.ref d),some (.ref e),some (.int (k:Int)),some (.int a),some (.int st),some (.ref t),some (.bl b),some (.ref l),u9,u10,u11]/\HH l=some (.lst xs)/\Paired (Ci HH) xs acc/\Same H HH/\acc.length<=4*i/\(GZ hw sp ps k st (n - i) x b).1=tot.1/\acc++(GZ hw sp ps k st (n - i) x b).2=tot.2
 refine jc J0 ⟨false,[],a+st,_,_,_,[],by simp,rfl,e1,.nil,sm1,Qcq _,by rw[<-htot];rfl,by rw[<-htot];rfl⟩ (λi σ HH hi h=>?_) (fun σ HH h=>?_)
 ·obtain⟨b,acc,x,u9,u10,u11,xs,hx,rfl,e1,e2,sm,la,w1,w2⟩:=h
  obtain⟨m,hm⟩ : ∃m,n - i=m+1:=⟨n - i - 1,by omega⟩
  have hm':n - (i+1)=m:=by omega
  rw[hm] at w1 w2
  rw[<-hx]
  have N9:0<=x/\x<=(ps.length:Int)+1:=by
   rcases nE with⟨h1,h2⟩|⟨h1,h2⟩
   ·rw[h1] at hx;omega
   ·rw[h1] at hx;omega
  have OB:i<=13:=by
   rcases nE with⟨h1,h2⟩|⟨h1,h2⟩ <;> omega
  have lxs:=QbX e2
  refine⟨_,rfl,d,rfl,.inr ⟨_,.inl (sm _ _ hd)⟩,_,rfl,_,rfl,_,rfl,_,rfl,_,_,rfl,rfl,_,_,rfl,Aw (by show 3<=1000;decide),λtk htk=>?_⟩
  rw[show (if x - st < x then x - st else x)=Bk x (x - st) from rfl]
  have k1:=Ag htk (.tup [.int (k:Int),.int (Bk x (x - st)),.int 0])
  have gg:Ds (upd HH tk (.tup [.int (k:Int),.int (Bk x (x - st)),.int 0])) d (.ref tk) (CT (stV hw) (k3 ⟨(k:Int),Bk x (x - st),0⟩)):=.inr ⟨_,_,tk,.inl ((sm.trans k1) _ _ hd),rfl,Ac,rfl⟩
  refine⟨_,gg,?_⟩
  dsimp only
  rw[ZP]
  have e1k:=k1 _ _ e1
  have e2k:Paired (Ci (upd HH tk (.tup [.int (k:Int),.int (Bk x (x - st)),.int 0]))) xs acc:=Paired.Bc e2 λ_ _ z=>z.tups (Ar.of k1)
  have smk:=sm.trans k1
  generalize upd HH tk (.tup [.int (k:Int),.int (Bk x (x - st)),.int 0])=HK at *
  refine⟨_,rfl,rfl,_,rfl,PN (λhc=>?_) (λhc=>?_)⟩
  ·have tY:Cp hw ⟨(k:Int),Bk x (x - st),0⟩="cut":=V.str.inj (Qbj hc)
   rw[Wg tY] at w1 w2
   have et:tot=(b,acc):=Prod.ext w1.symm (by rw[<-w2,QbF])
   subst et
   exact hn _ _ ⟨_,_,_,xs,rfl,e1k,e2k,smk⟩
  have hnc:¬Cp hw ⟨(k:Int),Bk x (x - st),0⟩="cut":=λz=>of_decide_eq_false hc (by rw[z])
  refine⟨b,_,rfl,rfl,?_⟩
  have brk:(x=0\/(ps.length:Int) < x)->tot=(b || bS (Cp hw ⟨(k:Int),Bk x (x - st),0⟩),acc):=λhh=>by
   rw[Wf hnc hh] at w1 w2
   exact Prod.ext w1.symm (by rw[<-w2,QbF])
  refine⟨_,rfl,rfl,_,rfl,PN (λh0=>?_) (λh0=>⟨_,rfl,_,rfl,t,_,rfl,.inr (SqT.of (smk _ _ ht)),_,_,rfl,rfl,_,rfl,PN (λh1=>?_) (λh1=>?_)⟩)⟩
  ·have et:=brk (.inl (V.int.inj (Qbj h0)))
   subst et
   exact BK (hn _ _ ⟨_,_,_,xs,rfl,e1k,e2k,smk⟩)
  ·have et:=brk (.inr (by rw[<-lv];exact Qbj h1))
   subst et
   exact hn _ _ ⟨_,_,_,xs,rfl,e1k,e2k,smk⟩
  have hx':¬(x=0\/(ps.length:Int) < x):=by
   rintro (z | z)
   ·exact of_decide_eq_false h0 (by rw[z])
   ·exact of_decide_eq_false h1 (by rw[lv];exact z)
  obtain⟨j,hj,hjl⟩ : ∃j:Nat,x=(j:Int)+1/\j < ps.length:=⟨(x - 1).toNat,by omega,by omega⟩
  have hvj:vs'[j]?=some vs'[j]:=Qan (by omega)
  obtain⟨p,hp,tp,ua,wp',ep,hp1,hp2,hp3⟩:=Paired.Cq hpp hvj
  have okp:=okl.ok p (QaD hp)
  have Of:=okp.spur
  have lwp:=QbX hp3
  have tU:spN ps x=p.spur.length:=by
   unfold spN
   rw[show (x - 1).toNat=j by omega,hp]
   rfl
  generalize hr1:CJ hw k x (spN ps x) 1 (b || bS (Cp hw ⟨(k:Int),Bk x (x - st),0⟩))=r at *
  have lr:r.2.length<=3:=by
   rw[<-hr1]
   have:=Wm hw k x (spN ps x) 1 (b || bS (Cp hw ⟨(k:Int),Bk x (x - st),0⟩))
   omega
  have e3k:=e1k
  refine⟨_,rfl,.inl ⟨rfl,_,SqL.of e1k⟩,_,rfl,_,rfl,Aw (by show 3<=1000;decide),λtq htq=>⟨l,_,_,rfl,rfl,(Ag htq _) _ _ e1k,Ao (by omega),?_⟩⟩
  obtain⟨g1,g2,g3⟩:=vV (s:=⟨(k:Int),x,0⟩) hl smk e1k e2k htq
  generalize upd (upd HK tq (.tup [.int (k:Int),.int x,.int 0])) l (.lst (xs++[.ref tq]))=HQ at *
  dsimp only
  show Am (Dg _ _ _) _ _ _ _
  refine QB (fun σ HI=>∃(u10 u11:Option V) (ys:YG),σ=[some (.ref pl),some (.ref d),some (.ref e),some (.int (k:Int)),some (.int a),some (.int st),some (.ref t),some (.bl r.1),some (.ref l),some (.int x),u10,u11]/\HI l=some (.lst ys)/\Paired (Ci HI) ys (acc++⟨(k:Int),x,0⟩::r.2)/\Same H HI) (fun σ HI h=>?_) (λD2 hn2=>?_)
  ·obtain⟨u10,u11,ys,rfl,i1,i2,i3⟩:=h
   refine⟨_,rfl,_,rfl,Aw (by show 2<=1000;decide),λtg htg=>?_⟩
   have k2':=Ag htg (.tup [.int (k:Int),.int x])
   have i1':=k2' _ _ i1
   have i2':Paired (Ci (upd HI tg (.tup [.int (k:Int),.int x]))) ys (acc++⟨(k:Int),x,0⟩::r.2):=Paired.Bc i2 λ_ _ z=>z.tups (Ar.of k2')
   have i3':=i3.trans k2'
   have gg2:Ds (upd HI tg (.tup [.int (k:Int),.int x])) e (.ref tg) (CT (gpV sp) (k2 ⟨(k:Int),x⟩)):=.inr ⟨_,_,tg,.inl (i3' _ _ he),rfl,Ac,rfl⟩
   generalize upd HI tg (.tup [.int (k:Int),.int x])=HJ at *
   refine⟨_,rfl,e,_,rfl,gg2,_,rfl,PN (λhg=>?_) (λhg=>?_)⟩
   ·rw[Ud hnc hx' hg,hr1] at w1 w2
    have et:tot=(r.1,acc++⟨(k:Int),x,0⟩::r.2):=Prod.ext w1.symm w2.symm
    subst et
    exact hn _ _ ⟨_,_,_,ys,rfl,i1',i2',i3'⟩
   ·rw[XQ hnc hx' (by unfold inG;rw[hg];decide),hr1] at w1 w2
    refine⟨r.1,_,x+st,_,_,_,ys,?_,rfl,i1',i2',i3',?_,?_,?_⟩
    ·rw[hx,Int.natCast_add,Int.add_mul,show ((1:Nat):Int)=1 from rfl,Int.one_mul]
     omega
    ·rw[QaQ,Qbr]
     omega
    ·rw[hm'];exact w1
    ·rw[hm',<-w2]
     simp only[Qbh]
  have tZ:atI vs' (x - 1)=some (.ref tp):=by rw[show x - 1=(j:Int) by omega];exact Ec (by rw[hvj,ep])
  refine⟨_,rfl,_,rfl,_,_,rfl,rfl,t,_,_,_,rfl,rfl,SqT.of (g3 _ _ ht),tZ,tp,_,_,_,rfl,rfl,SqT.of (g3 _ _ hp1),rfl,ua,_,rfl,.inr (SqT.of (g3 _ _ hp2)),_,_,rfl,rfl,_,_,rfl,⟨by decide,by decide,by omega,by omega⟩,?_⟩
  rw[show ((wp'.length:Int)+1 - 1).toNat=p.spur.length by omega]
  rw[tU] at hr1
  let J1:YN:=λjj σ HI=>∃(b':Bool) (acc':YV) (u10 u11:Option V) (ys:YG),σ=[some (.ref pl),some (.ref d),some (.ref e),some (.int (k:Int)),some (.int a),some (.int st),some (.ref t),some (.bl b'),some (.ref l),some (.int x),u10,u11]/\HI l=some (.lst ys)/\Paired (Ci HI) ys acc'/\Same H HI/\acc'.length<=4*i+1+jj/\(CJ hw k x (p.spur.length - jj) (1+jj) b').1=r.1/\acc'++(CJ hw k x (p.spur.length - jj) (1+jj) b').2=acc++⟨(k:Int),x,0⟩::r.2
  refine DX J1 ⟨_,_,_,_,_,rfl,g1,g2,g3,by rw[QaQ];show _+1<=_;omega,by rw[<-hr1];rfl,by rw[<-hr1];simp only[Qbh,QbA,QbR];rfl⟩ (λjj σ HI hjj h=>?_) (fun σ HI h=>?_)
  ·obtain⟨b',acc',u10,u11,ys,rfl,i1,i2,i3,i4,i5,i6⟩:=h
   obtain⟨m2,hm2⟩ : ∃m2,p.spur.length - jj=m2+1:=⟨p.spur.length - jj - 1,by omega⟩
   have hm2':p.spur.length - (jj+1)=m2:=by omega
   rw[hm2] at i5 i6
   have lys:=QbX i2
   rw[show (1:Int)+(jj:Int)=((1+jj:Nat):Int) by omega]
   refine⟨_,rfl,d,rfl,.inr ⟨_,.inl (i3 _ _ hd)⟩,_,rfl,_,rfl,_,rfl,Aw (by show 3<=1000;decide),λtk2 Ic=>?_⟩
   have k1:=Ag Ic (.tup [.int (k:Int),.int x,.int ((1+jj:Nat):Int)])
   have gg3:Ds (upd HI tk2 (.tup [.int (k:Int),.int x,.int ((1+jj:Nat):Int)])) d (.ref tk2) (CT (stV hw) (k3 ⟨(k:Int),x,((1+jj:Nat):Int)⟩)):=.inr ⟨_,_,tk2,.inl ((i3.trans k1) _ _ hd),rfl,Ac,rfl⟩
   refine⟨_,gg3,?_⟩
   dsimp only
   rw[ZP]
   have i1k:=k1 _ _ i1
   have i2k:Paired (Ci (upd HI tk2 (.tup [.int (k:Int),.int x,.int ((1+jj:Nat):Int)]))) ys acc':=Paired.Bc i2 λ_ _ z=>z.tups (Ar.of k1)
   have i3k:=i3.trans k1
   generalize upd HI tk2 (.tup [.int (k:Int),.int x,.int ((1+jj:Nat):Int)])=HK2 at *
   refine⟨_,rfl,rfl,_,rfl,PN (λhc2=>?_) (λhc2=>?_)⟩
   ·have tY:Cp hw ⟨(k:Int),x,((1+jj:Nat):Int)⟩="cut":=V.str.inj (Qbj hc2)
    rw[show CJ hw k x (m2+1) (1+jj) b'=(b',[]) from if_pos tY] at i5 i6
    have e5:b'=r.1:=i5
    have e6:acc'=acc++⟨(k:Int),x,0⟩::r.2:=by rw[<-i6,QbF]
    rw[<-e5,<-e6] at hn2
    exact hn2 _ _ ⟨_,_,ys,rfl,i1k,i2k,i3k⟩
   have IA:¬Cp hw ⟨(k:Int),x,((1+jj:Nat):Int)⟩="cut":=λz=>of_decide_eq_false hc2 (by rw[z])
   refine⟨b',_,rfl,rfl,?_⟩
   refine⟨_,rfl,.inl ⟨rfl,_,SqL.of i1k⟩,_,rfl,_,rfl,_,rfl,Aw (by show 3<=1000;decide),λtr htr=>⟨l,_,_,rfl,rfl,(Ag htr _) _ _ i1k,Ao (by omega),?_⟩⟩
   obtain⟨g1',g2',g3'⟩:=vV (s:=⟨(k:Int),x,((1+jj:Nat):Int)⟩) hl i3k i1k i2k htr
   rw[show CJ hw k x (m2+1) (1+jj) b'=((CJ hw k x m2 (1+jj+1) (b' || bS (Cp hw ⟨(k:Int),x,((1+jj:Nat):Int)⟩))).1,⟨(k:Int),x,((1+jj:Nat):Int)⟩::(CJ hw k x m2 (1+jj+1) (b' || bS (Cp hw ⟨(k:Int),x,((1+jj:Nat):Int)⟩))).2) from if_neg IA] at i5 i6
   refine⟨_,_,_,_,_,rfl,g1',g2',g3',by rw[QaQ];show _+1<=_;omega,?_,?_⟩
   ·rw[hm2'];exact i5
   ·rw[hm2',<-i6];simp only[Qbh,QbA,QbR];rfl
  ·obtain⟨b',acc',u10,u11,ys,rfl,i1,i2,i3,i4,i5,i6⟩:=h
   rw[Nat.sub_self] at i5 i6
   have e5:b'=r.1:=i5
   have e6:acc'=acc++⟨(k:Int),x,0⟩::r.2:=by rw[<-i6];unfold CJ;rw[QbF]
   rw[<-e5,<-e6] at hn2
   exact hn2 _ _ ⟨_,_,ys,rfl,i1,i2,i3⟩
 ·obtain⟨b,acc,x,u9,u10,u11,xs,hx,rfl,e1,e2,sm,la,w1,w2⟩:=h
  rw[Nat.sub_self] at w1 w2
  have et:tot=(b,acc):=Prod.ext w1.symm (by rw[<-w2];unfold GZ;rw[QbF])
  subst et
  exact hn _ _ ⟨_,_,_,xs,rfl,e1,e2,sm⟩
end
abbrev Nz:Stmt:=top 67
abbrev KN:YF:=["_law_plan_here","_law_hows","_law_stops","_law_gate"]
theorem Lq:Az ["_law_plan_here","_law_hows","_law_stops","_law_gate","_law_loop_here","_law_place"] KN (Aj Nz):=⟨rfl,rfl,rfl,by trivial,rfl,by trivial,by trivial⟩
def Ql (hs hw:YR):Prop:=∀s∈hs.map (·.1),stC hs s=Cp hw s
def Li (gs sp:YT):Prop:=∀g,gpC gs g=inG sp g
theorem O1 {loops:YU} {k:Nat} {ps:List Place} (hps:loops[k]?=some ps) {a n:Int}:(⟨(k:Int),a,n⟩ : Sp3)∈up (stL loops) loops.length ↔ (a=0/\n=0)\/∃(j:Nat) (p:Place),ps[j]?=some p/\a=((1+j:Nat):Int)/\0<=n/\n<=(p.spur.length:Int):=by
 have hkl:=(Qah.mp hps).1
 constructor
 ·intro h
  obtain⟨i,hi,h⟩:=Hi h
  obtain⟨ps',ZM,h⟩:=GK h
  rcases QbY.mp h with h | h
  ·injection h with e1 e2 e3
   exact .inl ⟨e2,e3⟩
  ·obtain⟨j,hj,h⟩:=Hi h
   obtain⟨p,hp,h⟩:=GK h
   obtain⟨m,hm,e⟩:=Qci.mp h
   injection e with e1 e2 e3
   have:i=k:=by omega
   subst this
   rw[hps] at ZM
   cases ZM
   have:=QbU.mp hm
   exact .inr ⟨j,p,hp,e2.symm,by omega,by omega⟩
 ·rintro (⟨rfl,rfl⟩|⟨j,p,hp,rfl,n0,n1⟩)
  ·exact O9 (i:=k) (by unfold stL;rw[CQ hps];exact QaR ..) hkl
  ·refine O9 (i:=k) ?_ hkl
   unfold stL
   rw[CQ hps]
   refine QaE _ (O9 (i:=j) ?_ (Qah.mp hp).1)
   unfold st1
   rw[CQ hp]
   exact Qci.mpr ⟨n.toNat,QbU.mpr (by omega),by rw[QaP n0]⟩
theorem Kf (hs:YR) (s:Sp3) (ws:YV):Es hs (s::ws)=(bS (stC hs s) || Es hs ws):=rfl
theorem fQ (hs:YR) (ws vs:YV):Es hs (ws++vs)=(Es hs ws || Es hs vs):=List.any_append ..
section
variable {loops:YU} {k:Nat} {ps:List Place} {hs hw:YR} {gs sp:YT} {st:Int}
theorem X8 (hps:loops[k]?=some ps) (hk:hs.map (·.1)=up (stL loops) loops.length) (rh:Ql hs hw) {j:Nat} {p:Place} (hp:ps[j]?=some p):∀(f n F:Nat) (b:Bool),1<=n->n+f=p.spur.length+1->f<=F->CJ hw k ((1+j:Nat):Int) f n b=(b || Es hs (Fe hs k ((1+j:Nat):Int) F n),Fe hs k ((1+j:Nat):Int) F n)
 | 0,n,F,b,n1,e,hF=>by
  have hz:Fe hs k ((1+j:Nat):Int) F n=[]:=by
   cases F with
   | zero=>rfl
   | succ F=>
    refine if_pos (Ow λh=>?_)
    rw[hk,O1 hps] at h
    rcases h with⟨h1,_⟩|⟨j',p',hp',e1,_,e3⟩
    ·omega
    ·have:j'=j:=by omega
     subst this
     rw[hp] at hp'
     cases hp'
     omega
  rw[hz]
  show (b,[])=(b || false,[])
  rw[Qcf]
 | f+1,n,F+1,b,n1,e,hF=>by
  have hin:(⟨(k:Int),((1+j:Nat):Int),(n:Int)⟩ : Sp3)∈hs.map (·.1):=by
   rw[hk,O1 hps]
   exact .inr ⟨j,p,hp,rfl,by omega,by omega⟩
  have eh:=rh _ hin
  by_cases hc:Cp hw ⟨(k:Int),((1+j:Nat):Int),(n:Int)⟩="cut"
  ·have e1:CJ hw k ((1+j:Nat):Int) (f+1) n b=(b,[]):=if_pos hc
   have e2:Fe hs k ((1+j:Nat):Int) (F+1) n=[]:=if_pos (by rw[eh];exact hc)
   rw[e1,e2]
   show (b,[])=(b || false,[])
   rw[Qcf]
  ·have e1:CJ hw k ((1+j:Nat):Int) (f+1) n b=((CJ hw k ((1+j:Nat):Int) f (n+1) (b || bS (Cp hw ⟨(k:Int),((1+j:Nat):Int),(n:Int)⟩))).1,⟨(k:Int),((1+j:Nat):Int),(n:Int)⟩::(CJ hw k ((1+j:Nat):Int) f (n+1) (b || bS (Cp hw ⟨(k:Int),((1+j:Nat):Int),(n:Int)⟩))).2):=if_neg hc
   have e2:Fe hs k ((1+j:Nat):Int) (F+1) n=⟨(k:Int),((1+j:Nat):Int),(n:Int)⟩::Fe hs k ((1+j:Nat):Int) F (n+1):=if_neg (by rw[eh];exact hc)
   rw[e1,e2,X8 hps hk rh hp f (n+1) F _ (by omega) (by omega) (by omega),Kf,eh,Bool.or_assoc]
theorem XM (hps:loops[k]?=some ps) (okl:OkL ps) (hk:hs.map (·.1)=up (stL loops) loops.length) (rh:Ql hs hw) (rg:Li gs sp) (hst:st=1\/st=-1):∀(m F:Nat) (a:Int) (b:Bool),0<=a->a<=(ps.length:Int)+1->m=Ke ps st a->m < F->(GZ hw sp ps k st m (a+st) b).1=(b || Es hs (BX hs gs k st F a).1):=by
 have zU:∀(x:Int) (F:Nat),(st=1/\x=(ps.length:Int)+1)\/(st=-1/\x=0)->(BX hs gs k st F x).1=[]:=λx F hx=>by
  cases F with
  | zero=>rfl
  | succ F=>
   have hc:stC hs ⟨(k:Int),Bk x (x+st),0⟩="cut":=Ow λh=>by
    rw[hk,O1 hps] at h
    rcases hx with⟨h1,h2⟩|⟨h1,h2⟩
    ·rw[h1,h2,show Bk ((ps.length:Int)+1) ((ps.length:Int)+1+1)=(ps.length:Int)+1 from if_neg (by omega)] at h
     rcases h with⟨h3,_⟩|⟨j,p,hp,e1,_⟩
     ·omega
     ·have:=(Qah.mp hp).1
      omega
    ·rw[h1,h2] at h
     rcases h with⟨h3,_⟩|⟨j,p,hp,e1,_⟩
     ·exact absurd h3 (by decide)
     ·rw[show Bk 0 (0+-1)=-1 from rfl] at e1
      omega
   rw[show BX hs gs k st (F+1) x=([],[]) from if_pos hc]
 intro m
 induction m with
 | zero=>
  intro F a b a0 a1 hm hF
  rw[zU a F (by
   unfold Ke at hm
   rcases hst with h | h
   ·rw[if_pos h] at hm;exact .inl ⟨h,by omega⟩
   ·rw[if_neg (by omega)] at hm;exact .inr ⟨h,by omega⟩)]
  show b=(b || false)
  rw[Qcf]
 | succ m ih=>
  intro F a b a0 a1 hm hF
  obtain⟨F,rfl⟩ : ∃F',F=F'+1:=⟨F - 1,by omega⟩
  have hN:(st=1/\a<=(ps.length:Int))\/(st=-1/\1<=a):=by
   unfold Ke at hm
   rcases hst with h | h
   ·rw[if_pos h] at hm;exact .inl ⟨h,by omega⟩
   ·rw[if_neg (by omega)] at hm;exact .inr ⟨h,by omega⟩
  have hN':m=Ke ps st (a+st):=by
   unfold Ke at hm ⊢
   rcases hst with h | h
   ·rw[if_pos h] at hm ⊢;omega
   ·rw[if_neg (by omega)] at hm ⊢;omega
  have emin:Bk (a+st) (a+st - st)=Bk a (a+st):=by
   unfold Bk
   rcases hst with h | h
   ·rw[h,if_pos (by omega),if_neg (by omega)];omega
   ·rw[h,if_neg (by omega),if_pos (by omega)]
  have hmin:(st=1/\Bk a (a+st)=a)\/(st=-1/\Bk a (a+st)=a - 1):=by
   unfold Bk
   rcases hst with h | h
   ·rw[h,if_neg (by omega)];exact .inl ⟨rfl,rfl⟩
   ·rw[h,if_pos (by omega)];exact .inr ⟨rfl,by omega⟩
  have hin:(⟨(k:Int),Bk a (a+st),0⟩ : Sp3)∈hs.map (·.1):=by
   rw[hk,O1 hps]
   by_cases h0:Bk a (a+st)=0
   ·exact .inl ⟨h0,rfl⟩
   ·have hb:1<=Bk a (a+st)/\Bk a (a+st)<=(ps.length:Int):=by
     rcases hN with⟨h1,h2⟩|⟨h1,h2⟩ <;> rcases hmin with⟨h3,h4⟩|⟨h3,h4⟩ <;> omega
    have hl:(Bk a (a+st) - 1).toNat < ps.length:=by omega
    exact .inr ⟨_,_,Qan hl,by omega,by omega,by omega⟩
  have eh:=rh _ hin
  by_cases hc:Cp hw ⟨(k:Int),Bk a (a+st),0⟩="cut"
  ·rw[Wg (by rw[emin];exact hc),show BX hs gs k st (F+1) a=([],[]) from if_pos (by rw[eh];exact hc)]
   show b=(b || false)
   rw[Qcf]
  have hc':¬Cp hw ⟨(k:Int),Bk (a+st) (a+st - st),0⟩="cut":=by rw[emin];exact hc
  have hcs:¬stC hs ⟨(k:Int),Bk a (a+st),0⟩="cut":=by rw[eh];exact hc
  have eC:∀g:Bool,gpC gs ⟨(k:Int),a+st⟩=g->(BX hs gs k st (F+1) a).1=(⟨(k:Int),Bk a (a+st),0⟩::CG hs k (a+st))++if g=true then [] else (BX hs gs k st F (a+st)).1:=λg hg=>by
   show (if stC hs ⟨(k:Int),Bk a (a+st),0⟩="cut" then ([],[]) else if gpC gs ⟨(k:Int),a+st⟩=true then (⟨(k:Int),Bk a (a+st),0⟩::CG hs k (a+st),⟨(k:Int),a+st,0⟩::CG hs k (a+st)) else ((⟨(k:Int),Bk a (a+st),0⟩::CG hs k (a+st))++(BX hs gs k st F (a+st)).1,(⟨(k:Int),a+st,0⟩::CG hs k (a+st))++(BX hs gs k st F (a+st)).2)).1=_
   rw[if_neg hcs,hg]
   cases g with
   | true=>rw[if_pos rfl,if_pos rfl,QbF]
   | false=>rw[if_neg (by decide),if_neg (by decide)]
  by_cases hx:a+st=0\/(ps.length:Int) < a+st
  ·have ho:(st=1/\a+st=(ps.length:Int)+1)\/(st=-1/\a+st=0):=by
    rcases hN with⟨h1,h2⟩|⟨h1,h2⟩
    ·exact .inl ⟨h1,by omega⟩
    ·exact .inr ⟨h1,by omega⟩
   have hsp:CG hs k (a+st)=[]:=by
    refine if_pos (Ow λh=>?_)
    rw[hk,O1 hps] at h
    rcases h with⟨_,h⟩|⟨j,p,hp,e1,_⟩
    ·exact absurd h (by decide)
    ·have:=(Qah.mp hp).1
     omega
   rw[Wf hc' hx,emin,eC _ rfl,hsp,zU _ _ ho]
   show (b || bS _)=(b || Es hs ([_]++if _ then [] else []))
   rw[ite_self,QbF,Kf,eh]
   show _=(b || (_ || false))
   rw[Qcf]
  ·obtain⟨j,hj,hjl⟩ : ∃j:Nat,a+st=((1+j:Nat):Int)/\j < ps.length:=⟨(a+st - 1).toNat,by omega,by omega⟩
   have hp:ps[j]?=some ps[j]:=Qan hjl
   have tU:spN ps (a+st)=ps[j].spur.length:=by
    unfold spN
    rw[show (a+st - 1).toNat=j by omega,hp]
    rfl
   have h3:=(okl.ok _ (List.getElem_mem hjl)).spur
   have esp:∀bb,CJ hw k (a+st) (spN ps (a+st)) 1 bb=(bb || Es hs (CG hs k (a+st)),CG hs k (a+st)):=λbb=>by
    rw[tU,hj]
    exact X8 hps hk rh hp _ 1 4 bb (Qcq _) (by omega) (by omega)
   have eg:=rg ⟨(k:Int),a+st⟩
   by_cases hg:inG sp ⟨(k:Int),a+st⟩=true
   ·rw[Ud hc' hx hg,emin,esp,eC true (by rw[eg];exact hg),if_pos rfl,QbF,Kf,eh,<-Bool.or_assoc]
   ·have hg':inG sp ⟨(k:Int),a+st⟩=false:=by simpa using hg
    rw[XQ hc' hx hg,emin,esp,eC false (by rw[eg];exact hg'),if_neg (by decide),fQ,Kf,eh]
    show (GZ hw sp ps k st m (a+st+st) _).1=_
    rw[ih F (a+st) _ (by omega) (by omega) hN' (by omega)]
    simp only[Bool.or_assoc]
end
theorem V5 {loops:YU} {g:Gt} (h:g∈up (gtL loops) loops.length):∃(k:Nat) (ps:List Place),loops[k]?=some ps/\g.lp=(k:Int)/\0<=g.at_/\g.at_<=(ps.length:Int)+1:=by
 obtain⟨k,hk,h⟩:=Hi h
 obtain⟨ps,hps,h⟩:=GK h
 refine⟨k,ps,hps,?_⟩
 rcases QbD.mp h with h | h
 ·rcases QbY.mp h with rfl | h
  ·exact⟨rfl,by show (0:Int)<=0;decide,by show (0:Int)<=_;omega⟩
  ·obtain⟨i,hi',h⟩:=Hi h
   obtain⟨h1,h2,h3⟩:=V3 h
   exact⟨h1,by rw[h2];omega,by rw[h2];omega⟩
 ·have:g=⟨(k:Int),(ps.length:Int)+1⟩:=by simpa using h
  rw[this]
  exact⟨rfl,by show (0:Int)<=(ps.length:Int)+1;omega,Int.le_refl _⟩
theorem uF {loops:YU} {k:Nat} {ps:List Place} {hs hw:YR} {gs sp:YT} {g:Gt} (ok:Eh loops) (hps:loops[k]?=some ps) (el:g.lp=(k:Int)) (hk:hs.map (·.1)=up (stL loops) loops.length) (rh:Ql hs hw) (rg:Li gs sp) (a0:0<=g.at_) (a1:g.at_<=(ps.length:Int)+1):((GX hw sp ps k (-1) g.at_).1 || ((GX hw sp ps k 1 g.at_).1 || false))=FQ hs gs g:=by
 have okl:=ok.ok ps (QaD hps)
 have l12:=okl.hi
 unfold GX
 rw[XM hps okl hk rh rg (.inr rfl) _ 16 g.at_ false a0 a1 rfl (by unfold Ke;rw[if_neg (by decide)];omega),XM hps okl hk rh rg (.inl rfl) _ 16 g.at_ false a0 a1 rfl (by unfold Ke;rw[if_pos rfl];omega)]
 unfold FQ
 rw[el,Bool.false_or,Bool.false_or,Qcf,Bool.or_comm]
def dz:Sp:=λvs H Q _=>∃(pl:Addr) (most:Int) (loops:YU) (zones:List Zone) (d e b:Addr) (hs hw:YR) (gs sp:YT) (g:Gt),vs=[.ref pl,.ref d,.ref e,.ref b]/\Fz H pl most loops zones/\H b=some (.tup [.int g.lp,.int g.at_])/\g∈up (gtL loops) loops.length/\H d=some (.dT (stV hw))/\H e=some (.dT (gpV sp))/\hs.map (·.1)=up (stL loops) loops.length/\Ql hs hw/\Li gs sp/\∀H',Same H H'->Q (.bl (FQ hs gs g)) H'
section
variable {P:Program} {w:World} {K:YD} {mg:YB} {base:Heap} {op oe kd wk C:Addr}
theorem qH (c:Code K mg "_law_feels" Nz KN) (T:Tw K mg op oe kd wk C) (uo:Good P w K mg base "_law_walk" 1 M5 jL):Good P w K mg base "_law_feels" 2 KN dz:=by
 have sc:=Lq
 refine c.good Lq (λvs H Q E h=>?_) (λf cdv A outer s H vs Q E hr h=>?_)
 ·obtain⟨pl,most,loops,zones,d,e,b,hs,hw,gs,sp,g,rfl,_⟩:=h
  rfl
 obtain⟨pl,most,loops,zones,d,e,b,hs,hw,gs,sp,g,rfl,pa,hb,hg,hd,he,hk,rh,rg,q⟩:=h
 refine⟨_,(Af (Hy (pv 3) (CP rfl (Aq (Ak (i:=4) Lq.nd rfl (Or.inr rfl)) (Aq (Ak (i:=5) Lq.nd rfl (Or.inr rfl)) Bv))))
 (Ah (Bb (Av (aF rfl) rfl T.any oh (Aa (Cv (N':=["_law_step","_law_plan_here","_law_hows","_law_stops","_law_loop_here","_law_place"]) rfl (Bp.of (src:=[none,some 0,some 1,some 2,some 4,some 5]) (Aj Nz) ["_law_plan_here","_law_hows","_law_stops","_law_gate","_law_loop_here","_law_place"] rfl rfl rfl (by trivial) (by trivial) (by trivial) rfl (by trivial)) (Eu (Bd (Aa (Px Mq Ae) (Aa Ae Ab)))) (λ_ _ _ _=>(Ak (i:=0) (show List.Nodup (["_law_step","_law_plan_here","_law_hows","_law_stops","_law_loop_here","_law_place"]:YF) by trivial) rfl (Or.inl rfl))) (λ_ _ _ _=>CW) (λ_ _ _ _=>(Bo (V0 (K:=K) rfl) (Ay uo hr (@Aa _ _ _ _ _ (pv 1) (@Aa _ _ _ _ _ (pv 2) (@Aa _ _ _ _ _ (pv 3) (@Aa _ _ _ _ _ (pv 4) (@Aa _ _ _ _ _ (pv 5) (@Aa _ _ _ _ _ (pv 0) (@Ab _) Fo) Fo) Fo) Fo) Fo) Fo)) Ae (λ_ _=>rfl)))) Ab))))),?_⟩
 show let R0:TS:=_;Am _ R0 _ _ _
 intro R0
 obtain⟨k,ps,hps,el,a0,a1⟩:=V5 hg
 have hq:=uF pa.ok hps el hk rh rg a0 a1
 rw[<-hq] at q
 rw[el] at hb
 refine⟨_,rfl,b,_,rfl,SqT.of hb,rfl,_,_,rfl,_,_,rfl,rfl,?_⟩
 refine⟨_,rfl,Aw (by show 2<=1000;decide),λtt htt=>?_⟩
 have n1:=Ag htt (.tup [.int (-1),.int 1])
 refine⟨tt,rfl,⟨_,SqT.of Ac⟩,λlc hlc=>?_⟩
 have n2:=Ag hlc (.lst [])
 have HR:=n2 _ _ (Ac (H:=H) (a:=tt) (o:=.tup [.int (-1),.int 1]))
 have n12:=n1.trans n2
 have flc:H lc=none:=n1.free hlc
 have IF:(upd (upd H tt (.tup [.int (-1),.int 1])) lc (.lst [])) lc=some (.lst []):=Ac
 generalize upd (upd H tt (.tup [.int (-1),.int 1])) lc (.lst [])=H1 at *
 refine Qf (xs:=[.int (-1),.int 1]) (λi σ HH=>(∃u,σ=[u,some (.ref pl),some (.ref d),some (.ref e),some (.int (k:Int)),some (.int g.at_)])/\HH lc=some (.lst (([(GX hw sp ps k (-1) g.at_).1,(GX hw sp ps k 1 g.at_).1].take i).map V.bl))/\HH tt=some (.tup [.int (-1),.int 1])/\Same H HH) ⟨⟨_,rfl⟩,IF,HR,n12⟩ (λi σ HH _ h=>SqT.of h.2.2.1) (λi x σ HH hx h=>?_) (fun σ HH h=>?_)
 ·obtain⟨⟨u,rfl⟩,e1,e3,e2⟩:=h
  obtain⟨st,rfl,hst,hwt⟩ : ∃st:Int,x=.int st/\(st=1\/st=-1)/\[(GX hw sp ps k (-1) g.at_).1,(GX hw sp ps k 1 g.at_).1][i]?=some (GX hw sp ps k st g.at_).1:=by
   match i,hx with
   | 0,hx=>cases hx;exact⟨-1,rfl,.inr rfl,rfl⟩
   | 1,hx=>cases hx;exact⟨1,rfl,.inl rfl,rfl⟩
   | n+2,hx=>cases hx
  unfold Hr
  dsimp only
  refine BK ⟨_,rfl,_,rfl,_,rfl,_,rfl,_,rfl,_,rfl,pl,most,loops,zones,d,e,hw,sp,k,ps,g.at_,st,rfl,pa.tups (Ar.of e2),hps,e2 _ _ hd,e2 _ _ he,hst,a0,a1,λt l xs H2 ht hl' _ s2=>?_⟩
  have hi:=(Qah.mp hwt).1
  refine⟨t,_,_,_,rfl,rfl,SqT.of ht,rfl,_,s2 _ _ e1,Ao (by rw[QbB,Qbs];simp at hi ⊢;omega),⟨_,rfl⟩,?_,?_,(e2.trans s2).Br Ai.upd flc⟩
  ·rw[Ac,Qcy hwt,QbC]
   rfl
  ·have:=s2 _ _ e3
   rw[Al (λz=>by rw[z,s2 _ _ e1] at this;cases this)]
   exact this
 ·obtain⟨_,e1,e3,e2⟩:=h
  refine⟨lc,_,rfl,SqL.of e1,?_⟩
  exact q _ e2
end
abbrev Pq:Stmt:=top 69
abbrev Jv:YF:=["_law_bag_here","_law_wires","_law_hows","_law_wire_names"]
theorem Kg:Az ["_law_bag_here","_law_wires","_law_hows","_law_wire_names","_law_stretch","_law_way"] Jv (Aj Pq):=⟨rfl,rfl,rfl,by trivial,rfl,by trivial,by trivial⟩
section
variable {κ β : Type} [DecidableEq κ]
def Qh (l:List (κ×β)) (k:κ) (v:β):List (κ×β):=l.map λx=>if x.1=k then (x.1,v) else x
def putL (l:List (κ×β)) (k:κ) (v:β):List (κ×β):=if k∈l.map (·.1) then Qh l k v else l++[(k,v)]
theorem aM (l:List (κ×β)) (k:κ) (v:β):(Qh l k v).map (·.1)=l.map (·.1):=by
 unfold Qh
 rw[Qcl]
 refine QaM λx _=>?_
 show (if x.1=k then (x.1,v) else x).1=x.1
 split <;> rfl
theorem Nj (k k':κ) (v:β):∀l:List (κ×β),k∈l.map (·.1)->(Qh l k v).find? (λx=>decide (x.1=k'))=if k'=k then some (k,v) else l.find? (λx=>decide (x.1=k'))
 | [],h=>by cases h
 | a::r,h=>by
  show (((if a.1=k then (a.1,v) else a)::Qh r k v).find? λx=>decide (x.1=k'))=_
  by_cases e:a.1=k
  ·rw[if_pos e]
   by_cases e':k'=k
   ·rw[if_pos e',Qaz (by rw[e'];exact QbS e),e]
   ·have n:¬a.1=k':=λz=>e' (by rw[<-z,e])
    rw[if_neg e',Qay (by simpa using n),Qay (by simpa using n)]
    by_cases hr:k∈r.map (·.1)
    ·rw[Nj k k' v r hr,if_neg e']
    ·congr 1
     unfold Qh
     refine (QaM λx hx=>?_).trans (List.map_id r)
     exact if_neg λz=>hr (Qci.mpr ⟨x,hx,z⟩)
  ·rw[if_neg e]
   have hr:k∈r.map (·.1):=by
    rcases QbY.mp h with z | z
    ·exact absurd z.symm e
    ·exact z
   by_cases e':a.1=k'
   ·rw[Qaz (by exact QbS e'),Qaz (by exact QbS e'),if_neg (λz=>e (by rw[e',z]))]
   ·rw[Qay (by simpa using e'),Qay (by simpa using e'),Nj k k' v r hr]
theorem find_none {l:List (κ×β)} {k:κ} (h:k∉l.map (·.1)):l.find? (λx=>decide (x.1=k))=none:=List.find?_eq_none.mpr λx hx=>by simpa using λe=>h (Qci.mpr ⟨x,hx,e⟩)
theorem Z1 (l:List (κ×β)) (k k':κ) (v:β):(putL l k v).find? (λx=>decide (x.1=k'))=if k'=k then some (k,v) else l.find? (λx=>decide (x.1=k')):=by
 unfold putL
 by_cases h:k∈l.map (·.1)
 ·rw[if_pos h,Nj k k' v l h]
 ·rw[if_neg h,List.find?_append]
  by_cases e:k'=k
  ·rw[if_pos e,e,find_none h]
   rw[Option.none_or,Qaz (by exact QbS rfl)]
  ·rw[if_neg e,Qay (by simpa using λz=>e z.symm)]
   show Option.or _ none=_
   rw[Option.or_none]
theorem j9 {l:List (κ×β)} (h:(l.map (·.1)).Nodup) (k:κ) (v:β):((putL l k v).map (·.1)).Nodup:=by
 unfold putL
 by_cases c:k∈l.map (·.1)
 ·rw[if_pos c,aM];exact h
 ·rw[if_neg c,QbC,List.nodup_append]
  exact⟨h,by simp,λa ha b hb e=>c (by have:b=k:=(by simpa using hb);rw[<-this,<-e];exact ha)⟩
theorem wJ {l:List (κ×β)} {k:κ} {v:β} {x:κ} (h:x∈(putL l k v).map (·.1)):x=k\/x∈l.map (·.1):=by
 unfold putL at h
 by_cases c:k∈l.map (·.1)
 ·rw[if_pos c,aM] at h;exact .inr h
 ·rw[if_neg c,QbC] at h
  rcases QbD.mp h with h | h
  ·exact .inr h
  ·exact .inl (by simpa using h)
theorem dF {f:κ->List Key} {g:β->V} (hf:∀a b,f a=f b->a=b) (l:List (κ×β)) (k:κ) (v:β):putK (l.map λx=>(f x.1,g x.2)) (f k) (g v)=(putL l k v).map λx=>(f x.1,g x.2):=by
 unfold putL
 by_cases c:k∈l.map (·.1)
 ·obtain⟨x,hx,e⟩:=Qci.mp c
  rw[if_pos c,Te ⟨_,Qci.mpr ⟨x,hx,rfl⟩,by rw[e]⟩]
  unfold Qh
  rw[Qcl,Qcl]
  refine QaM λy _=>?_
  show (if f y.1=f k then (f y.1,g v) else (f y.1,g y.2))=(f (if y.1=k then (y.1,v) else y).1,g (if y.1=k then (y.1,v) else y).2)
  by_cases e:y.1=k
  ·rw[if_pos (by rw[e]),if_pos e]
  ·rw[if_neg (λz=>e (hf _ _ z)),if_neg e]
 ·rw[if_neg c,Mx,QbC]
  ·rfl
  ·refine JG λy hy e=>c ?_
   obtain⟨z,hz,rfl⟩:=Qci.mp hy
   exact Qci.mpr ⟨z,hz,hf _ _ e⟩
theorem PJ:∀{l m:List κ},l.Nodup->(∀x∈l,x∈m)->l.length<=m.length
 | [],_,_,_=>Qcr _
 | a::r,m,nd,h=>by
  have ha:=h a (QaR ..)
  obtain⟨n1,n2⟩:=QbJ.mp nd
  have:=PJ (l:=r) (m:=m.erase a) n2 λx hx=>(List.mem_erase_of_ne (λe=>n1 (by rw[<-e];exact hx))).mpr (h x (QaE _ hx))
  rw[List.length_erase_of_mem ha] at this
  have hp:=List.length_pos_of_mem ha
  rw[Qbr]
  omega
end
theorem pD (hw:YR) (s:Sp3) (z:Str):putK (stV hw) (k3 s) (.str z)=stV (putL hw s z):=dF (λ_ _ e=>O2 e) hw s z
theorem ug (sp:YT) (g:Gt) (b:Bool):putK (gpV sp) (k2 g) (.bl b)=gpV (putL sp g b):=dF (λ_ _ e=>O4 e) sp g b
theorem Ql.put {hs hw:YR} (r:Ql hs hw) {s:Sp3} (h:s∈hs.map (·.1)) (z:Str):Ql (JL hs s z) (putL hw s z):=λs' h'=>by
 rw[Iv] at h'
 unfold stC Cp
 rw[Z1,show JL hs s z=Qh hs s z from rfl,Nj s s' z hs h]
 by_cases e:s'=s
 ·rw[if_pos e,if_pos e];rfl
 ·rw[if_neg e,if_neg e];exact r s' h'
theorem Tr (sp:YT) (g:Gt):inG sp g=(sp.find? λx=>decide (x.1=g)).isSome:=by
 unfold inG
 rw[RG]
 cases sp.find? λx=>decide (x.1=g) <;> rfl
theorem dZ {gs:YT} {g:Gt} (h:g∈gs.map (·.1)) (b:Bool) (g':Gt):gpC (setG gs g b) g'=if g'=g then b else gpC gs g':=by
 unfold gpC
 rw[show setG gs g b=Qh gs g b from rfl,Nj g g' b gs h]
 by_cases e:g'=g
 ·rw[if_pos e,if_pos e];rfl
 ·rw[if_neg e,if_neg e]
structure Ad where
 b:Addr
 p:Addr
 pl:Addr
 d1:Addr
 d2:Addr
 d3:Addr
 h:Addr
 e:Addr
 v:Addr
 w:Addr
structure Sd8 where
 most:Int
 loops:YU
 zones:List Zone
 hs:YR
 hw:YR
 fl:YQ
 gs:YT
 sp:YT
structure LS (C:Addr) (H:Hp) (a:Ad) (n:Nat) (t:Sd8):Prop where
 bag:Bw H a.b n
 wi:WAt C H a.p a.pl a.d1 a.d2 a.d3 t.hs t.fl t.gs
 pa:Fz H a.pl t.most t.loops t.zones
 ho:H a.h=some (.dT (stV t.hw))
 so:H a.e=some (.dT (gpV t.sp))
 gv:∃xs,H a.v=some (.lst xs)/\Paired (Ei H) xs (t.gs.map (·.1))
 wn:∃xs,H a.w=some (.lst xs)/\Paired (Ci H) xs (t.hs.map (·.1))
 nbv:a.v≠a.b
 nbw:a.w≠a.b
 n12:a.d1≠a.d2
 nh:a.h≠a.d1/\a.h≠a.d2/\a.h≠a.d3
 ne:a.e≠a.d1/\a.e≠a.d2/\a.e≠a.d3
 nhe:a.h≠a.e
 k1:t.hs.map (·.1)=up (stL t.loops) t.loops.length
 k3:t.gs.map (·.1)=up (gtL t.loops) t.loops.length
 rh:Ql t.hs t.hw
 rg:Li t.gs t.sp
 ndw:(t.hw.map (·.1)).Nodup
 sub:∀x∈t.hw.map (·.1),x∈t.hs.map (·.1)
 nds:(t.sp.map (·.1)).Nodup
def FrS (a:Ad) (H H':Hp):Prop:=∀c o,H c=some o->c≠a.b->c≠a.d1->c≠a.d3->c≠a.h->c≠a.e->H' c=some o
theorem FrS.of {a:Ad} {H H':Hp} (s:Same H H'):FrS a H H':=λc o e _ _ _ _ _=>s _ _ e
theorem FrS.trans {a:Ad} {H H' H'':Hp} (s:FrS a H H') (t:FrS a H' H''):FrS a H H'':=λc o e n1 n2 n3 n4 n5=>t _ _ (s _ _ e n1 n2 n3 n4 n5) n1 n2 n3 n4 n5
section
variable {C:Addr} {H H':Hp} {a:Ad} {n n':Nat} {t:Sd8}
theorem LS.nb (L:LS C H a n t):a.p≠a.b/\a.d1≠a.b/\a.d2≠a.b/\a.d3≠a.b/\a.h≠a.b/\a.e≠a.b:=by
 obtain⟨_,_,_,eb,_⟩:=L.bag
 obtain⟨dx,e0⟩:=L.wi.ins
 obtain⟨kvs,e2,_⟩:=L.wi.fi
 exact⟨(λz=>by rw[z,eb] at e0;cases e0),(λz=>by have:=L.wi.st;rw[z,eb] at this;cases this),(λz=>by rw[z,eb] at e2;cases e2),(λz=>by have:=L.wi.gp;rw[z,eb] at this;cases this),(λz=>by have:=L.ho;rw[z,eb] at this;cases this),(λz=>by have:=L.so;rw[z,eb] at this;cases this)⟩
theorem LS.moved (L:LS C H a n t) (s:Ar H H') (wi:WAt C H' a.p a.pl a.d1 a.d2 a.d3 t.hs t.fl t.gs) (bag:Bw H' a.b n') (ho:H' a.h=some (.dT (stV t.hw))) (so:H' a.e=some (.dT (gpV t.sp))) (hv:∀o,H a.v=some o->H' a.v=some o) (hw:∀o,H a.w=some o->H' a.w=some o):LS C H' a n' t:=by
 obtain⟨xs,x1,x2⟩:=L.gv
 obtain⟨ys,y1,y2⟩:=L.wn
 exact⟨bag,wi,L.pa.tups s,ho,so,⟨xs,hv _ x1,Paired.Bc x2 λ_ _ z=>z.tups s⟩,⟨ys,hw _ y1,Paired.Bc y2 λ_ _ z=>z.tups s⟩,L.nbv,L.nbw,L.n12,L.nh,L.ne,L.nhe,L.k1,L.k3,L.rh,L.rg,L.ndw,L.sub,L.nds⟩
theorem LS.same (L:LS C H a n t) (s:Same H H'):LS C H' a n t:=L.moved (Ar.of s) (L.wi.same s) (L.bag.same s) (s _ _ L.ho) (s _ _ L.so) (λo e=>s _ _ e) (λo e=>s _ _ e)
theorem LS.mono (L:LS C H a n t) (h:n<=n'):LS C H a n' t:=L.moved (Ar.of (Same.refl H)) L.wi (L.bag.mono h) L.ho L.so (λo e=>e) (λo e=>e)
theorem LS.drawn (L:LS C H a n t) (s:Ai a.b H H') (hb:Bw H' a.b n'):LS C H' a n' t:=by
 obtain⟨m0,m1,m2,m3,m4,m5⟩:=L.nb
 exact L.moved (s.tup L.bag.Gf) (L.wi.DY s L.bag.Gf m0 m1 m2 m3) hb (s _ _ L.ho m4) (s _ _ L.so m5) (λo e=>s _ _ e L.nbv) (λo e=>s _ _ e L.nbw)
theorem LS.frB (L:LS C H a n t) (s:Ai a.b H H'):FrS a H H':=λc o e n1 _ _ _ _=>s _ _ e n1
theorem LS.bs (L:LS C H a n t):∀s∈t.hs.map (·.1),Bd3 s:=by rw[L.k1];exact B7 L.pa.ok
theorem LS.bg (L:LS C H a n t):jt t.gs:=λx hx=>by
 have:x.1∈up (gtL t.loops) t.loops.length:=by rw[<-L.k3];exact Qci.mpr ⟨x,hx,rfl⟩
 obtain⟨k,ps,hps,_,a0,a1⟩:=V5 this
 have:=(L.pa.ok.ok ps (QaD hps)).hi
 omega
theorem LS.hs1 (L:LS C H a n t):1<=t.hs.length:=by
 have hl:=L.pa.lo
 have h0:t.loops[0]?=some t.loops[0]:=Qan (by omega)
 have:(⟨((0:Nat):Int),0,0⟩ : Sp3)∈up (stL t.loops) t.loops.length:=(O1 h0).mpr (.inl ⟨rfl,rfl⟩)
 rw[<-L.k1] at this
 have:=List.length_pos_of_mem this
 rwa [QbB] at this
theorem LS.gs1 (L:LS C H a n t):1<=t.gs.length:=by
 have hl:=L.pa.lo
 have h0:t.loops[0]?=some t.loops[0]:=Qan (by omega)
 have:(⟨((0:Nat):Int),0⟩ : Gt)∈up (gtL t.loops) t.loops.length:=O9 (i:=0) (by unfold gtL;rw[CQ h0];exact QaF _ (QaR ..)) (by omega)
 rw[<-L.k3] at this
 have:=List.length_pos_of_mem this
 rwa [QbB] at this
theorem LS.lw (L:LS C H a n t):t.hw.length<=200:=by
 have:=PJ L.ndw L.sub
 rw[QbB,QbB] at this
 exact Qck this L.wi.l1
end
theorem wA {H:Hp} {v:V} {s:Sp3} (h:Ci H v s):Th H v:=by
 obtain⟨u,rfl,e⟩:=h
 refine⟨.inr ⟨_,e⟩,λxs ex=>?_⟩
 rw[CZ e] at ex
 cases ex
 refine⟨by show 3<=100;decide,λy hy=>?_⟩
 have:y=.int s.lp\/y=.int s.at_\/y=.int s.n:=by simpa using hy
 rcases this with rfl | rfl | rfl <;> exact True.intro
def Yl (C:Addr):Sp:=λvs H Q _=>∃a n t,vs=[.ref a.b,.ref a.p,.ref a.h,.ref a.w]/\LS C H a n t/\n<=9000/\∀hs' hw' H',LS C H' a (n+2) { t with hs:=hs',hw:=hw' }->FrS a H H'->Q .non H'
section
variable {P:Program} {w:World} {K:YD} {mg:YB} {base:Heap} {op oe kd wk C:Addr}
theorem lJ {c2:Addr} (c:Code K mg "_law_befall" Pq Jv) (T:Tw K mg op oe kd wk C)
  (Bm:Good P w K mg base "_law_take" 1 Ew Kv) (yj:Fd P w K mg base C "cut" 4 Ig (Vp C c2 "cut")) (mL:Fd P w K mg base C "short" 4 Gw (Vp C c2 "short")) (um:Fd P w K mg base C "mend" 4 G9 (Vp C c2 "whole")):Good P w K mg base "_law_befall" 5 Jv (Yl C):=by
 have sc:=Kg
 refine c.good Kg (λvs H Q E h=>?_) (λf cdv A outer s H vs Q E hr h=>?_)
 ·obtain⟨a,n,t,rfl,_⟩:=h
  rfl
 obtain⟨a,n,t,rfl,L,hn,q⟩:=h
 refine⟨_,(Af (Ba (i:=4) Kg.nd rfl (Or.inl rfl) (Bo CV (pv 3) (Ay Bm hr (Aa (pv 0) (Aa (Av Bl rfl T.len Cu (Aa (pv 3) Ab)) Ab))) (λ_ _=>rfl)))
 (Af (Ba (i:=5) Kg.nd rfl (Or.inl rfl) (Ay Bm hr (Aa (pv 0) (Aa Ae Ab))))
 (Ah (Ce (Bx Uu (pv 5) Ae (Bs _)) (Af (Bj (Ky (pv 1) T.cl mL hr Uq (Aa (pv 4) Ab)))
 (Ah (GD (Cy hr) (pv 2) (pv 4) Bf rfl))) (Ah (Ce (Bx Uu (pv 5) Ae (Bs _)) (Af (Bj (Ky (pv 1) T.cl yj hr Uq (Aa (pv 4) Ab)))
 (Ah (GD (Cy hr) (pv 2) (pv 4) Bf rfl))) (Af (Bj (Ky (pv 1) T.cl um hr Uq (Aa (pv 4) Ab)))
 (Ah (GD (Cy hr) (pv 2) (pv 4) Bf rfl))))))))),?_⟩
 show let R0:TS:=Am _ _;let R1:TS:=Am _ _;let R2:TS:=Am _ _;let R3:TS:=Gp _ R1 R2;let R4:TS:=Gp _ R0 R3;let R5:TS:=Am _ R4;Am _ R5 _ _ _
 intro R0 R1 R2 R3 R4 R5
 obtain⟨xs,x1,x2⟩:=L.wn
 have lx:=QbX x2
 rw[QbB] at lx
 have l1:=L.hs1
 have l2:=L.wi.l1
 refine⟨_,rfl,_,rfl,_,rfl,a.w,_,rfl,.inl (SqL.of x1),a.b,n,_,rfl,L.bag,by omega,by omega,by omega,λi H1 i0 i1 hb1 sb1=>?_⟩
 obtain⟨m,rfl⟩ : ∃m:Nat,i=(m:Int):=⟨i.toNat,(QaP i0).symm⟩
 have L1:=L.drawn sb1 hb1
 have hxm:xs[m]?=some xs[m]:=Qan (by omega)
 obtain⟨s1,hs1,b1,eb1,hbt⟩:=Paired.Cq x2 hxm
 refine⟨a.w,_,_,_,rfl,rfl,SqL.of (sb1 _ _ x1 L.nbw),Ec (xs:=xs) (j:=m) hxm,?_⟩
 rw[eb1]
 refine⟨_,rfl,a.b,n+1,5,rfl,L1.bag,by omega,by decide,by decide,λr H4 r0 r1 hb4 sb4=>?_⟩
 have L4:=L1.drawn sb4 hb4
 have F4:=(L.frB sb1).trans (L1.frB sb4)
 have iH:=(sb4.tup L1.bag.Gf) _ _ ((sb1.tup L.bag.Gf) _ _ hbt)
 have sIn:s1∈t.hs.map (·.1):=QaD hs1
 obtain⟨dx,hp4⟩:=L4.wi.ins
 have thS:Th H4 (.ref b1):=wA ⟨b1,rfl,iH⟩
 have noS:¬aP H4 (.ref b1) (t.hs.map (·.1))->False:=λz=>z ⟨b1,s1,rfl,iH,sIn⟩
 obtain⟨m0,m1,m2,m3,m4,m5⟩:=L4.nb
 have eqS:∀(b:Addr) (s':Sp3),V.ref b1=.ref b->H4 b=some (.tup [.int s'.lp,.int s'.at_,.int s'.n])->s'=s1:=λb s' e1 e2=>by
  cases e1
  rw[iH] at e2
  cases s1
  cases s'
  cases e2
  rfl
 have lw:=L4.lw
 have pI:∀(z:Str) (H5:Hp),WAt C H5 a.p a.pl a.d1 a.d2 a.d3 (JL t.hs s1 z) t.fl t.gs->Ai a.d1 H4 H5->∃H6,Jc H5 a.h (.ref b1) (.str z) H6/\Q .non H6:=λz H5 W5 sB=>by
  have nt5:∀zs,H4 a.d1≠some (.tup zs):=λzs e=>by rw[L4.wi.st] at e;cases e
  have t5:=sB.tup nt5
  have hh5:=sB _ _ L4.ho L4.nh.1
  have nth:∀zs,H5 a.h≠some (.tup zs):=λzs e=>by rw[hh5] at e;cases e
  refine⟨_,Jc.t (k:=k3 s1) hh5 (t5 _ _ iH) (Ao (by unfold stV;rw[QbB];omega)),?_⟩
  rw[pD]
  have t6:=Ar.upd (o:=.dT (stV (putL t.hw s1 z))) nth
  obtain⟨dx5,hp5⟩:=W5.ins
  obtain⟨ys,y1,y2⟩:=L4.gv
  obtain⟨zs',z1,z2⟩:=L4.wn
  have nph:a.p≠a.h:=λe=>by rw[e,hh5] at hp5;cases hp5
  have nbh:a.b≠a.h:=m4.symm
  have nvh:a.v≠a.h:=λe=>by rw[e,L4.ho] at y1;cases y1
  have nwh:a.w≠a.h:=λe=>by rw[e,L4.ho] at z1;cases z1
  have nv1:a.v≠a.d1:=λe=>by rw[e,L4.wi.st] at y1;cases y1
  have nw1:a.w≠a.d1:=λe=>by rw[e,L4.wi.st] at z1;cases z1
  have W6:=W5.DY (Ai.upd (b:=a.h) (o:=.dT (stV (putL t.hw s1 z)))) nth nph L4.nh.1.symm L4.nh.2.1.symm L4.nh.2.2.symm
  have t56:=t5.trans t6
  refine q (JL t.hs s1 z) (putL t.hw s1 z) _ ⟨?_,W6,L4.pa.tups t56,Ac,by rw[Al L4.nhe.symm];exact sB _ _ L4.so L4.ne.1,⟨ys,by rw[Al nvh];exact sB _ _ y1 nv1,Paired.Bc y2 λ_ _ y=>y.tups t56⟩,⟨zs',by rw[Al nwh];exact sB _ _ z1 nw1,by dsimp only;rw[Iv];exact Paired.Bc z2 λ_ _ y=>y.tups t56⟩,L4.nbv,L4.nbw,L4.n12,L4.nh,L4.ne,L4.nhe,(Iv _ _ _).trans L4.k1,L4.k3,L4.rh.put sIn z,L4.rg,j9 L4.ndw _ _,λx hx=>?_,L4.nds⟩ (F4.trans λc o e n1 n2 n3 n4 n5=>by rw[Al n4];exact sB _ _ e n2)
  ·have:=(hb4.DY sB m1.symm).DY (Ai.upd (b:=a.h) (o:=.dT (stV (putL t.hw s1 z)))) nbh
   exact this.mono (by omega)
  ·dsimp only
   rw[Iv]
   rcases wJ hx with e | e
   ·rw[e];exact sIn
   ·exact L4.sub x e
 refine⟨_,rfl,_,_,rfl,rfl,_,rfl,JB (λ_=>?_) (λ_=>⟨_,rfl,_,_,rfl,rfl,_,rfl,JB (λ_=>?_) (λ_=>?_)⟩)⟩
 ·refine⟨_,rfl,a.p,dx,_,rfl,hp4,fno (by trivial),_,rfl,a.p,a.pl,a.d1,a.d2,a.d3,t.hs,t.fl,t.gs,.ref b1,rfl,L4.wi,L4.n12,thS,(λb s' e1 e2 _ H5 W5 sB=>?_),λz=>(noS z).elim⟩
  cases eqS b s' e1 e2
  obtain⟨H6,ZL,hq⟩:=pI "short" H5 W5 sB
  exact⟨_,rfl,_,rfl,a.h,H6,rfl,ZL,hq⟩
 ·refine⟨_,rfl,a.p,dx,_,rfl,hp4,fno (by trivial),_,rfl,a.p,a.pl,a.d1,a.d2,a.d3,t.hs,t.fl,t.gs,.ref b1,rfl,L4.wi,L4.n12,thS,(λb s' e1 e2 _ H5 W5 sB=>?_),λz=>(noS z).elim⟩
  cases eqS b s' e1 e2
  obtain⟨H6,ZL,hq⟩:=pI "cut" H5 W5 sB
  exact⟨_,rfl,_,rfl,a.h,H6,rfl,ZL,hq⟩
 ·refine⟨_,rfl,a.p,dx,_,rfl,hp4,fno (by trivial),_,rfl,a.p,a.pl,a.d1,a.d2,a.d3,t.hs,t.fl,t.gs,.ref b1,rfl,L4.wi,L4.n12,thS,(λb s' e1 e2 _ H5 W5 sB=>?_),λz=>(noS z).elim⟩
  cases eqS b s' e1 e2
  obtain⟨H6,ZL,hq⟩:=pI "whole" H5 W5 sB
  exact⟨_,rfl,_,rfl,a.h,H6,rfl,ZL,hq⟩
end
abbrev Pr:Stmt:=top 70
abbrev Nb:YF:=["_law_bag_here","_law_wires","_law_plan_here","_law_hows","_law_stops","_law_gates_here"]
theorem G7:Az ["_law_bag_here","_law_wires","_law_plan_here","_law_hows","_law_stops","_law_gates_here","_law_gate","_law_felt","_law_changed","_law_told","_law_due"] Nb (Aj Pr):=⟨rfl,rfl,rfl,by trivial,rfl,by trivial,by trivial⟩
theorem ZS {gs:YT} (nd:(gs.map (·.1)).Nodup) {x:Gt×Bool} (h:x∈gs):gpC gs x.1=x.2:=by
 unfold gpC
 induction gs with
 | nil=>cases h
 | cons a r ih=>
  obtain⟨n1,n2⟩:=QbJ.mp nd
  rcases QbY.mp h with rfl | h
  ·rw[Qaz (by exact QbS rfl)];rfl
  ·rw[Qay (by simpa using λe=>n1 (Qci.mpr ⟨x,h,by exact Eq.symm e⟩))]
   exact ih n2 h
theorem Ji {sp:YT} {g:Gt}:inG sp g=true ↔ g∈sp.map (·.1):=by
 rw[Tr,List.find?_isSome]
 constructor
 ·rintro ⟨x,hx,e⟩
  exact Qci.mpr ⟨x,hx,Qbj e⟩
 ·intro h
  obtain⟨x,hx,e⟩:=Qci.mp h
  exact⟨x,hx,QbS e⟩
theorem Li.KU {gs sp:YT} (r:Li gs sp) {g:Gt} (h:g∈gs.map (·.1)):Li (setG gs g true) (putL sp g true):=λg'=>by
 rw[dZ h,Tr,Z1]
 by_cases e:g'=g
 ·rw[if_pos e,if_pos e];rfl
 ·rw[if_neg e,if_neg e,<-Tr];exact r g'
theorem Li.un {gs sp sp':YT} (r:Li gs sp) {g:Gt} (h:g∈gs.map (·.1)) (hs:∀g',g'∈sp'.map (·.1) ↔ g'∈sp.map (·.1)/\g'≠g):Li (setG gs g false) sp':=λg'=>by
 rw[dZ h]
 by_cases e:g'=g
 ·rw[if_pos e]
  cases c:inG sp' g' with
  | false=>rfl
  | true=>exact absurd e ((hs g').mp (Ji.mp c)).2
 ·rw[if_neg e,r g']
  cases c:inG sp g' with
  | true=>exact (Ji.mpr ((hs g').mpr ⟨Ji.mp c,e⟩)).symm
  | false=>
   cases c':inG sp' g' with
   | false=>rfl
   | true=>rw[Ji.mpr ((hs g').mp (Ji.mp c')).1] at c;cases c
theorem nj {sp:YT} (nd:(sp.map (·.1)).Nodup) {j:Nat} {x:Gt×Bool} (hj:sp[j]?=some x) (g:Gt):g∈(sp.eraseIdx j).map (·.1) ↔ g∈sp.map (·.1)/\g≠x.1:=by
 induction sp generalizing j with
 | nil=>simp at hj
 | cons a r ih=>
  obtain⟨n1,n2⟩:=QbJ.mp nd
  cases j with
  | zero=>
   have hj:a=x:=by simpa using hj
   subst hj
   show g∈r.map (·.1) ↔ g∈a.1::r.map (·.1)/\_
   rw[QbY]
   constructor
   ·intro h
    exact⟨.inr h,λe=>n1 (by show a.1∈r.map (·.1);rw[<-e];exact h)⟩
   ·rintro ⟨h | h,e⟩
    ·exact absurd h e
    ·exact h
  | succ j=>
   have hj:r[j]?=some x:=by simpa using hj
   show g∈a.1::(r.eraseIdx j).map (·.1) ↔ g∈a.1::r.map (·.1)/\_
   rw[QbY,QbY,ih n2 hj]
   constructor
   ·rintro (h |⟨h1,h2⟩)
    ·exact⟨.inl h,λe=>n1 (Qci.mpr ⟨x,QaD hj,by rw[<-e,h]⟩)⟩
    ·exact⟨.inr h1,h2⟩
   ·rintro ⟨h | h,e⟩
    ·exact .inl h
    ·exact .inr ⟨h,e⟩
theorem mH (sp:YT) (j:Nat):(gpV sp).eraseIdx j=gpV (sp.eraseIdx j):=by
 unfold gpV
 induction sp generalizing j with
 | nil=>rfl
 | cons a r ih=>
  cases j with
  | zero=>rfl
  | succ j=>exact congrArg (_::·) (ih j)
theorem yN {H:Hp} {a:Addr} {o:HO} (h:H a=some o):upd H a o=H:=funext λc=>by
 by_cases e:c=a
 ·subst e;rw[Ac,h]
 ·rw[Al e]
theorem xW {H:Hp} {v:V} {s:Gt} (h:Ei H v s):Th H v:=by
 obtain⟨u,rfl,e⟩:=h
 refine⟨.inr ⟨_,e⟩,λxs ex=>?_⟩
 rw[CZ e] at ex
 cases ex
 refine⟨by show 2<=100;decide,λy hy=>?_⟩
 have:y=.int s.lp\/y=.int s.at_:=by simpa using hy
 rcases this with rfl | rfl <;> exact True.intro
theorem LS.ls {C:Addr} {H:Hp} {a:Ad} {n:Nat} {t:Sd8} (L:LS C H a n t):t.sp.length<=t.gs.length:=by
 have:=PJ L.nds (m:=t.gs.map (·.1)) λg hg=>Qai λc=>by
  have h1:=L.rg g
  rw[Ji.mpr hg] at h1
  unfold gpC at h1
  rw[find_none c] at h1
  cases h1
 rw[QbB,QbB] at this
 exact this
theorem LS.stop {C:Addr} {H H':Hp} {a:Ad} {n:Nat} {t:Sd8} {sp' gs':YT} (L:LS C H a n t) (k:gs'.map (·.1)=t.gs.map (·.1)) (wi:WAt C H' a.p a.pl a.d1 a.d2 a.d3 t.hs t.fl gs') (s:Ai a.d3 H H') (rg:Li gs' sp') (nds:(sp'.map (·.1)).Nodup):LS C (upd H' a.e (.dT (gpV sp'))) a n { t with gs:=gs',sp:=sp' }/\FrS a H (upd H' a.e (.dT (gpV sp'))):=by
 obtain⟨m0,m1,m2,m3,m4,m5⟩:=L.nb
 have nt3:∀zs,H a.d3≠some (.tup zs):=λzs e=>by rw[L.wi.gp] at e;cases e
 have t1:=s.tup nt3
 have so:=s _ _ L.so L.ne.2.2
 have nte:∀zs,H' a.e≠some (.tup zs):=λzs e=>by rw[so] at e;cases e
 have t2:=t1.trans (Ar.upd (o:=.dT (gpV sp')) nte)
 obtain⟨dx,hp⟩:=wi.ins
 have npe:a.p≠a.e:=λe=>by rw[e,so] at hp;cases hp
 have W:=wi.DY (Ai.upd (b:=a.e) (o:=.dT (gpV sp'))) nte npe L.ne.1.symm L.ne.2.1.symm L.ne.2.2.symm
 obtain⟨xs,x1,x2⟩:=L.gv
 obtain⟨ys,y1,y2⟩:=L.wn
 have nve:a.v≠a.e:=λe=>by rw[e,L.so] at x1;cases x1
 have nwe:a.w≠a.e:=λe=>by rw[e,L.so] at y1;cases y1
 have nv3:a.v≠a.d3:=λe=>by rw[e,L.wi.gp] at x1;cases x1
 have nw3:a.w≠a.d3:=λe=>by rw[e,L.wi.gp] at y1;cases y1
 refine⟨⟨(L.bag.DY s m3.symm).DY Ai.upd m5.symm,W,L.pa.tups t2,by rw[Al L.nhe];exact s _ _ L.ho L.nh.2.2,Ac,⟨xs,by rw[Al nve];exact s _ _ x1 nv3,by dsimp only;rw[k];exact Paired.Bc x2 λ_ _ z=>z.tups t2⟩,⟨ys,by rw[Al nwe];exact s _ _ y1 nw3,Paired.Bc y2 λ_ _ z=>z.tups t2⟩,L.nbv,L.nbw,L.n12,L.nh,L.ne,L.nhe,L.k1,k.trans L.k3,L.rh,rg,L.ndw,L.sub,nds⟩,λc o e n1 n2 n3 n4 n5=>by rw[Al n5];exact s _ _ e n3⟩
def jW (C:Addr):Sp:=λvs H Q _=>∃a n t,vs=[.ref a.b,.ref a.p,.ref a.pl,.ref a.h,.ref a.e,.ref a.v]/\LS C H a n t/\n<=9000/\∀gs' sp' H',LS C H' a (n+1) { t with gs:=gs',sp:=sp' }->FrS a H H'->Q (.bl true) H'
section
variable {P:Program} {w:World} {K:YD} {mg:YB} {base:Heap} {op oe kd wk C:Addr}
theorem wZ {c4:Addr} (c:Code K mg "_law_acts" Pr Nb) (T:Tw K mg op oe kd wk C)
  (Bm:Good P w K mg base "_law_take" 1 Ew Kv) (WD:Good P w K mg base "_law_feels" 2 KN dz) (V7:Fd P w K mg base C "act" 4 GJ (fP C c4)) (mO:Qn P w K mg base C "rests" 5 Gx (cW C)):Good P w K mg base "_law_acts" 6 Nb (jW C):=by
 have sc:=G7
 refine c.good G7 (λvs H Q E h=>?_) (λf cdv A outer s H vs Q E hr h=>?_)
 ·obtain⟨a,n,t,rfl,_⟩:=h
  rfl
 obtain⟨a,n,t,rfl,L,hn,q⟩:=h
 refine⟨_,(Af (Ba (i:=6) G7.nd rfl (Or.inl rfl) (Bo CV (pv 5) (Ay Bm hr (Aa (pv 0) (Aa (Av Bl rfl T.len Cu (Aa (pv 5) Ab)) Ab))) (λ_ _=>rfl)))
 (Af (Ba (i:=7) G7.nd rfl (Or.inl rfl) (Ay WD hr (Aa (pv 2) (Aa (pv 3) (Aa (pv 4) (Aa (pv 6) Ab))))))
 (Af (Ba (i:=8) G7.nd rfl (Or.inl rfl) (Dk Ut (pv 7) (kZ (QX (Cy hr) (pv 6) (pv 4))) (Bs _)))
 (Af (Ba (i:=9) G7.nd rfl (Or.inl rfl) (Ky (pv 1) T.cl V7 hr Uq (Aa (pv 6) Ab)))
 (Af (Ce (DR (pv 7)) (Ah (GD (Cy hr) (pv 4) (pv 6) Dl rfl)) (Ah (Bj (qb (Cy hr) (pv 4) (pv 6) Dl ⟨rfl,rfl,rfl,rfl⟩))))
 (Af (VB (i:=10) G7.nd rfl (Or.inl rfl) (N':=["_law_other","_law_plan_here","_law_hows","_law_stops"]) rfl (Bp.of (src:=[none,some 2,some 3,some 4]) (Aj Pr) ["_law_bag_here","_law_wires","_law_plan_here","_law_hows","_law_stops","_law_gates_here","_law_gate","_law_felt","_law_changed","_law_told","_law_due"] rfl rfl rfl (by trivial) (by trivial) (by trivial) rfl (by trivial)) (Ep (pv 5)) (λ_ _ _ _=>(Ak (i:=0) (show List.Nodup (["_law_other","_law_plan_here","_law_hows","_law_stops"]:YF) by trivial) rfl (Or.inl rfl))) (λ_ _ _ _=>CW) (λ_ _ _ _=>(Dk Fi (Ay WD hr (Aa (pv 1) (Aa (pv 2) (Aa (pv 3) (Aa (pv 0) Ab))))) (kZ (QX (Cy hr) (pv 0) (pv 3))) (Bs _))))
 (Ah (Bb (Dv (Dk Fi (pv 9) (pv 8) (Bs _)) (Dv (Av Nk rfl T.isinstance Bq (Aa (pv 9) (Aa (Mf (v:=.ty "bool") rfl T.bool eV rfl) Ab))) (Dj (Dk Fi (kI (pv 1) T.cl mO hr) (Av (FP rfl) rfl T.all Ik (Aa (pv 10) Ab)) (Bs _))))))))))))),?_⟩
 show let R0:TS:=_;let R1:TS:=Am _ R0;let R2:TS:=_;let R3:TS:=Am (Gp _ _ R2) R1;let R4:TS:=Am _ R3;let R5:TS:=Am _ R4;let R6:TS:=Am _ R5;Am _ R6 _ _ _
 intro R0 R1 R2 R3 R4 R5 R6
 obtain⟨xs,x1,x2⟩:=L.gv
 have lx:=QbX x2
 rw[QbB] at lx
 have l1:=L.gs1
 have l2:=L.wi.l3
 refine⟨_,rfl,_,rfl,_,rfl,a.v,_,rfl,.inl (SqL.of x1),a.b,n,_,rfl,L.bag,by omega,by omega,by omega,λi H1 i0 i1 hb1 sb1=>?_⟩
 obtain⟨m,rfl⟩ : ∃m:Nat,i=(m:Int):=⟨i.toNat,(QaP i0).symm⟩
 have L1:=L.drawn sb1 hb1
 have F1:=L.frB sb1
 have hxm:xs[m]?=some xs[m]:=Qan (by omega)
 obtain⟨g,hg,b1,eb1,IJ⟩:=Paired.Cq x2 hxm
 refine⟨a.v,_,_,_,rfl,rfl,SqL.of (sb1 _ _ x1 L.nbv),Ec (xs:=xs) (j:=m) hxm,?_⟩
 rw[eb1]
 have hbt:=(sb1.tup L.bag.Gf) _ _ IJ
 have gIn:g∈t.gs.map (·.1):=QaD hg
 have gUp:g∈up (gtL t.loops) t.loops.length:=by rw[<-L.k3];exact gIn
 refine⟨_,rfl,_,rfl,_,rfl,_,rfl,a.pl,t.most,t.loops,t.zones,a.h,a.e,b1,t.hs,t.hw,t.gs,t.sp,g,rfl,L1.pa,hbt,gUp,L1.ho,L1.so,L1.k1,L1.rh,L1.rg,λH2 s2=>?_⟩
 have L2:=L1.same s2
 have ZQ:=s2 _ _ hbt
 refine⟨_,rfl,_,rfl,_,rfl,a.e,_,rfl,Ds.t (k:=k2 g) L2.so ZQ,rfl,?_⟩
 obtain⟨dx,hp2⟩:=L2.wi.ins
 refine⟨_,rfl,a.p,dx,_,rfl,hp2,fno (by trivial),_,rfl,a.p,a.pl,a.d1,a.d2,a.d3,t.hs,t.fl,t.gs,.ref b1,rfl,L2.wi,L2.bs,L2.bg,xW ⟨b1,rfl,ZQ⟩,(λb' g' e1 e2 _ H3 W3 sB=>?_),λz=>(z ⟨b1,g,rfl,ZQ,gIn⟩).elim⟩
 have eg:g'=g:=by
  cases e1
  rw[ZQ] at e2
  cases g
  cases g'
  cases e2
  rfl
 subst eg
 clear e1 e2
 have eG:=L2.rg g'
 generalize hf:FQ t.hs t.gs g'=fe at *
 refine A2 ?_
 dsimp only
 show Am (Gp _ _ _) _ _ _ _
 refine QB (fun σ HH=>∃sp',σ=[some (.ref a.b),some (.ref a.p),some (.ref a.pl),some (.ref a.h),some (.ref a.e),some (.ref a.v),some (.ref b1),some (.bl fe),some (.bl (!decide (V.bl fe=V.bl (inG t.sp g')))),some (.bl (!decide (V.bl fe=V.bl (gpC t.gs g')))),none]/\LS C HH a (n+1) { t with gs:=setG t.gs g' fe,sp:=sp' }/\FrS a H HH) (fun σ HH h=>?_) (λD' hn=>?_)
 rotate_left 1
 ·have iI:=sB _ _ L2.so L2.ne.2.2
  have nt3:∀zs,H2 a.d3≠some (.tup zs):=λzs e=>by rw[L2.wi.gp] at e;cases e
  have AZ:=(sB.tup nt3) _ _ ZQ
  have F2:=F1.trans (FrS.of s2)
  have lsp:=L2.ls
  refine⟨_,rfl,_,rfl,PN (λhe=>?_) (λhe=>?_)⟩
  ·subst he
   refine⟨_,rfl,_,rfl,a.e,_,rfl,Jc.t (k:=k2 g') iI AZ (Ao (by unfold gpV;rw[QbB];omega)),?_⟩
   rw[ug]
   obtain⟨LL,FF⟩:=L2.stop (Pg _ _ _) W3 sB (L2.rg.KU gIn) (j9 L2.nds g' true)
   exact hn _ _ ⟨_,rfl,LL,F2.trans FF⟩
  ·subst he
   refine⟨_,rfl,a.e,rfl,.inr ⟨_,.inl iI⟩,_,rfl,_,k2 g',b1,iI,rfl,AZ,(λj v hj=>?_),(λhno=>?_)⟩
   ·rw[mH]
    unfold gpV at hj
    rw[Qbi] at hj
    obtain⟨x,hx,ex⟩:=Qaw.mp hj
    injection ex with ex1 ex2
    have ex1:=O4 ex1
    obtain⟨LL,FF⟩:=L2.stop (sp':=t.sp.eraseIdx j) (Pg _ _ _) W3 sB (L2.rg.un gIn λg''=>by rw[nj L2.nds hx,ex1]) ((List.Sublist.map _ (List.eraseIdx_sublist t.sp j)).nodup L2.nds)
    exact hn _ _ ⟨_,rfl,LL,F2.trans FF⟩
   ·have hno':g'∉t.sp.map (·.1):=λhin=>by
     obtain⟨x,hx,ex⟩:=Qci.mp hin
     obtain⟨j,hj⟩:=QaG hx
     exact hno j (.bl x.2) (by unfold gpV;rw[Qbi,hj,<-ex];rfl)
    obtain⟨LL,FF⟩:=L2.stop (sp':=t.sp) (Pg _ _ _) W3 sB (L2.rg.un gIn λg''=>⟨λh=>⟨h,λe=>hno' (by rw[<-e];exact h)⟩,λh=>h.1⟩) L2.nds
    rw[show upd H3 a.e (.dT (gpV t.sp))=H3 from yN iI] at LL FF
    exact hn _ _ ⟨_,rfl,LL,F2.trans FF⟩
 obtain⟨sp',rfl,L4,F4⟩:=h
 obtain⟨ys,y1,y2⟩:=L4.gv
 have ly:=QbX y2
 rw[QbB] at ly
 have N4:=L4.wi.l3
 refine⟨_,rfl,a.v,rfl,⟨_,SqL.of y1⟩,λlc hlc=>?_⟩
 generalize hgs:setG t.gs g' fe=gs' at *
 have IH:∀i:Nat,((gs'.take i).map λx=>decide (V.bl (FQ t.hs gs' x.1)=V.bl (inG sp' x.1)))=(gs'.take i).map λx=>decide (V.bl (FQ t.hs gs' x.1)=V.bl x.2):=λi=>QaM λx hx=>by
  rw[<-L4.rg x.1,ZS L4.wi.nd3 (QaH hx)]
 let J0:YN:=λi σ HY=>(∃u,σ=[u,some (.ref a.pl),some (.ref a.h),some (.ref a.e)])/\HY lc=some (.lst (((gs'.take i).map λx=>decide (V.bl (FQ t.hs gs' x.1)=V.bl (inG sp' x.1))).map V.bl))/\Same HH HY
 refine Jj (xs:=ys) J0 ⟨⟨_,rfl⟩,Ac,Ag hlc _⟩ (λi σ HY _ h=>SqL.of (h.2.2 _ _ y1)) (λi x σ HY hx h=>?_) (fun σ HY h=>?_)
 ·obtain⟨⟨u,rfl⟩,e1,e2⟩:=h
  obtain⟨go,hgo,b2,rfl,hb2⟩:=Paired.Cq y2 hx
  rw[Qbi] at hgo
  obtain⟨xo,hxo,rfl⟩:=Qaw.mp hgo
  have hi:=(Qah.mp hx).1
  have LY:=L4.same e2
  have oUp:xo.1∈up (gtL t.loops) t.loops.length:=by rw[<-L4.k3];exact Qci.mpr ⟨xo,QaD hxo,rfl⟩
  unfold Hr
  dsimp only
  refine BK ⟨_,rfl,_,rfl,_,rfl,_,rfl,a.pl,t.most,t.loops,t.zones,a.h,a.e,b2,t.hs,t.hw,gs',sp',xo.1,rfl,LY.pa,e2 _ _ hb2,oUp,LY.ho,LY.so,LY.k1,LY.rh,LY.rg,λH5 s5=>?_⟩
  have LZ:=LY.same s5
  refine⟨_,rfl,_,rfl,a.e,_,rfl,Ds.t (k:=k2 xo.1) LZ.so (s5 _ _ (e2 _ _ hb2)),rfl,_,s5 _ _ e1,Ao (by rw[QbB,QbB,Qbs];omega),⟨_,rfl⟩,?_,(e2.trans s5).Br Ai.upd hlc⟩
  rw[Ac,Qcy hxo,QbC,QbC]
  rfl
 ·obtain⟨_,e1,e2⟩:=h
  rw[ly,IH,Qbt] at e1
  have LY:=L4.same e2
  refine⟨_,rfl,_,rfl,rfl,_,rfl,?_⟩
  rw[eG,QbS rfl]
  refine BK ⟨_,rfl,ZJ rfl ⟨_,rfl,BK ?_⟩⟩
  obtain⟨dx5,hp5⟩:=LY.wi.ins
  refine⟨_,rfl,a.p,dx5,_,rfl,hp5,fno (by trivial),a.p,a.pl,a.d1,a.d2,a.d3,t.hs,t.fl,gs',rfl,LY.wi,LY.bs,LY.bg,λH6 s6=>?_⟩
  refine⟨_,rfl,lc,_,rfl,SqL.of (s6 _ _ e1),rfl,?_⟩
  rw[show (decide (V.bl (f9 t.hs gs')=V.bl ((gs'.map λx=>decide (V.bl (FQ t.hs gs' x.1)=V.bl x.2)).all id)))=true from QbS rfl]
  exact q gs' sp' _ (LY.same s6) (F4.trans (FrS.of (e2.trans s6)))
end
abbrev N7:Stmt:=top 71
abbrev HF:YF:=["_law_bag_here","_law_wires"]
theorem Jm:Az ["_law_bag_here","_law_wires","_law_odd","_law_e"] HF (Aj N7):=⟨rfl,rfl,rfl,by trivial,rfl,by trivial,by trivial⟩
def MF:V->Bool
 | .non=>true
 | .bl _=>true
 | .int _=>true
 | _=>false
theorem MF.kn {H:Hp} {v:V} (h:MF v=true):Kn H v:=by
 cases v <;> first | exact True.intro | cases h
def Odd (H:Hp) (b:Addr) (v:V):Prop:=v=.non\/(∃z,v=.str z)\/(∃a xs,v=.ref a/\H a=some (.lst xs)/\a≠b)\/∃a xs,v=.ref a/\H a=some (.tup xs)/\xs.length<=100/\(∀y∈xs,MF y=true)/\∀x y:Int,0<=x->x<=2->0<=y->y<=13->xs≠[.int x,.int y]
theorem Odd.DY {H H':Hp} {b:Addr} {v:V} (h:Odd H b v) (s:Ai b H H') (nt:∀zs,H b≠some (.tup zs)):Odd H' b v:=by
 rcases h with h | h |⟨a,xs,h1,h2,h3⟩|⟨a,xs,h1,h2,h3⟩
 ·exact .inl h
 ·exact .inr (.inl h)
 ·exact .inr (.inr (.inl ⟨a,xs,h1,s _ _ h2 h3,h3⟩))
 ·exact .inr (.inr (.inr ⟨a,xs,h1,(s.tup nt) _ _ h2,h3⟩))
theorem Odd.th {H:Hp} {b:Addr} {v:V} (h:Odd H b v):Th H v:=by
 rcases h with rfl |⟨z,rfl⟩|⟨a,xs,rfl,h2,h3⟩|⟨a,xs,rfl,h2,h3,h4,h5⟩
 ·exact⟨True.intro,λxs e=>by cases e⟩
 ·exact⟨True.intro,λxs e=>by cases e⟩
 ·exact⟨.inl ⟨xs,h2⟩,λys e=>by rw[Wi h2] at e;cases e⟩
 ·exact⟨.inr ⟨xs,h2⟩,λys e=>by
   rw[CZ h2] at e
   cases e
   exact⟨h3,λy hy=>MF.kn (h4 y hy)⟩⟩
theorem Odd.no {H:Hp} {b:Addr} {v:V} (h:Odd H b v) {ss:List Gt} (hs:∀g∈ss,0<=g.lp/\g.lp<=2/\0<=g.at_/\g.at_<=13):¬uL H v ss:=λ⟨c,s,e1,e2,e3⟩=>by
 rcases h with h |⟨z,h⟩|⟨a,xs,h,h2,h3⟩|⟨a,xs,h,h2,h3,h4,h5⟩
 ·rw[h] at e1;cases e1
 ·rw[h] at e1;cases e1
 ·rw[h] at e1
  cases e1
  rw[h2] at e2
  cases e2
 ·rw[h] at e1
  cases e1
  rw[h2] at e2
  obtain⟨q1,q2,q3,q4⟩:=hs s e3
  exact h5 _ _ q1 q2 q3 q4 (HO.tup.inj (QbH e2))
theorem gQ {a b:Int} (h:¬(0<=a/\a<=2/\0<=b/\b<=13)):∀x y:Int,0<=x->x<=2->0<=y->y<=13->([.int a,.int b]:YG)≠[.int x,.int y]:=λx y h1 h2 h3 h4 e=>by
 injection e with e1 e2
 injection e2 with e2 _
 injection e1 with e1
 injection e2 with e2
 exact h ⟨by omega,by omega,by omega,by omega⟩
theorem DA {i:Int} (h0:0<=i) (h12:i < 12) {a b c d e f g h k l m n:V} (P:V->Prop) (ha:P a) (hb:P b) (hc:P c) (hd:P d) (he:P e) (hf:P f) (hg:P g) (hh:P h) (hk:P k) (hl:P l) (hm:P m) (hn:P n):∃p,atI [a,b,c,d,e,f,g,h,k,l,m,n] i=some p/\P p:=by
 have:i=0\/i=1\/i=2\/i=3\/i=4\/i=5\/i=6\/i=7\/i=8\/i=9\/i=10\/i=11:=by omega
 rcases this with rfl | rfl | rfl | rfl | rfl | rfl | rfl | rfl | rfl | rfl | rfl | rfl <;> exact⟨_,rfl,by assumption⟩
theorem LS.bo {C:Addr} {H:Hp} {a:Ad} {n:Nat} {t:Sd8} (L:LS C H a n t):∀g∈t.gs.map (·.1),0<=g.lp/\g.lp<=2/\0<=g.at_/\g.at_<=13:=λg hg=>by
 rw[L.k3] at hg
 obtain⟨k,ps,hps,el,a0,a1⟩:=V5 hg
 have h1:=(Qah.mp hps).1
 have h2:=L.pa.ok.hi
 have h3:=(L.pa.ok.ok ps (QaD hps)).hi
 omega
def jP (C:Addr):Sp:=λvs H Q _=>∃a n t,vs=[.ref a.b,.ref a.p]/\LS C H a n t/\n<=9000/\∀H',LS C H' a (n+1) t->FrS a H H'->Q (.bl true) H'
section
variable {P:Program} {w:World} {K:YD} {mg:YB} {base:Heap} {op oe kd wk C:Addr} {hc c0 c1 c2 c3 c4 c5 c6 c7 c8 c9 c10 c11 c12:Addr}
theorem gD (c:Code K mg "_law_refused" N7 HF) (T:Tw K mg op oe kd wk C) (XE:Er K mg hc c0 c1 c2 c3 c4 c5 c6 c7 c8 c9 c10 c11 c12) (Fy:Knd K hc c4 [c0,c1,c2,c3,c4,c5,c6,c7,c8,c9,c10,c11,c12] 4)
  (Bm:Good P w K mg base "_law_take" 1 Ew Kv) (V7:Fd P w K mg base C "act" 4 GJ (fP C c4)) (uf:XD P w K mg base "_law_kind" 1 M9 (jU K hc [c0,c1,c2,c3,c4,c5,c6,c7,c8,c9,c10,c11,c12])):Good P w K mg base "_law_refused" 5 HF (jP C):=by
 have sc:=Jm
 refine c.good Jm (λvs H Q E h=>?_) (λf cdv A outer s H vs Q E hr h=>?_)
 ·obtain⟨a,n,t,rfl,_⟩:=h
  rfl
 obtain⟨a,n,t,rfl,L,hn,q⟩:=h
 refine⟨_,(@Af _ _ _ _ _ (@Ba _ _ 2 _ _ _ _ Jm.nd rfl (Or.inl rfl) (@BP _ _ _ _ (@Aa _ _ _ _ _ MP (@Aa _ _ _ _ _ (Bd (Aa Ae (Aa Dl Ab))) (@Aa _ _ _ _ _ (BP (Aa Ae (Aa Ae Ab))) (@Aa _ _ _ _ _ (Bd (Aa Ae Ab)) (@Aa _ _ _ _ _ (Bd (Aa Ae (Aa Ae (Aa Ae Ab)))) (@Aa _ _ _ _ _ (@Bf _ _ _ _) (@Aa _ _ _ _ _ (Bd (Aa Ae (Aa Ae Ab))) (@Aa _ _ _ _ _ (Bd (Aa Ae (Aa Ae Ab))) (@Aa _ _ _ _ _ (Bd (Aa (Px Mq Ae) (Aa Ae Ab))) (@Aa _ _ _ _ _ (Bd (Aa Ae (Aa (@Bg _ _ _ _ _ _ _ _ Ze Ae Ae) Ab))) (@Aa _ _ _ _ _ (Bd (Aa Ae (Aa MP Ab))) (@Ab _) Ku) Ku) Ku) Ku) Ku) Bh) Ku) Ku) zx) Ku) Bh)) (by rfl) (by first | exact .inl rfl | exact .inr rfl))
 (@Af _ _ _ _ _ (Bj (BW Qaq Qal Qam Bu (pv 2) (Aa (Bd (Aa Dl (Aa Ae Ab))) Ab)))
 (@Af _ _ _ _ _ (zO (i:=3) Jm.nd rfl rfl rfl rfl rfl XE.bF XE.aX (λpn E1 EX hx=>(@Ah _ _ _ (Bj (Ky (pv 1) T.cl V7 hr hx (Aa (Bo (tQ (K:=K) rfl) (pv 2) (Ay Bm hr (Aa (pv 0) (Aa Ae Ab))) (λ_ _=>rfl)) Ab)))))
 (λpn ea=>(@Ah _ _ _ (Bb (Dk Fi (zT uf (hr.inH _) (Aa (pv 3) Ab)) Bf (Bs _))))))
 (@Ah _ _ _ (Bb Dl))))),?_⟩
 show let R0:TS:=Am _ _;let R1:TS:=Am _ R0;Am _ R1 _ _ _
 intro R0 R1
 have z2:2<=sizeLine:=Aw (by decide)
 refine⟨z2,λt1 ht1=>?_⟩
 refine⟨z2,λt2 ht2=>?_⟩
 refine⟨Aw (by show 1<=1000;decide),λt3 ht3=>?_⟩
 refine⟨Aw (by show 3<=1000;decide),λt4 ht4=>?_⟩
 refine⟨z2,λt5 ht5=>?_⟩
 refine⟨z2,λt6 ht6=>?_⟩
 refine⟨_,rfl,z2,λt7 ht7=>?_⟩
 refine⟨_,_,rfl,rfl,⟨by decide,by decide,by decide⟩,z2,λt8 ht8=>?_⟩
 refine⟨z2,λt9 ht9=>?_⟩
 refine⟨Aw (by show 11<=1000;decide),λlo hlo=>?_⟩
 have g1:=Ag ht1 (.tup [.int 0,.bl true])
 have g2:=Ag ht2 (.lst [.int 0,.int 0])
 have g3:=Ag ht3 (.tup [.int 0])
 have g4:=Ag ht4 (.tup [.int 0,.int 0,.int 0])
 have g5:=Ag ht5 (.tup [.int 9,.int 0])
 have g6:=Ag ht6 (.tup [.int 0,.int 14])
 have g7:=Ag ht7 (.tup [.int (-1),.int 0])
 have g8:=Ag ht8 (.tup [.int 0,.int ((10:Int) ^ (20:Int).toNat)])
 have g9:=Ag ht9 (.tup [.int 0,.non])
 have gl:=Ag hlo (.lst [.non,.ref t1,.ref t2,.ref t3,.ref t4,.str "00",.ref t5,.ref t6,.ref t7,.ref t8,.ref t9])
 have r9:=g9.trans gl
 have r8:=g8.trans r9
 have r7:=g7.trans r8
 have r6:=g6.trans r7
 have r5:=g5.trans r6
 have r4:=g4.trans r5
 have r3:=g3.trans r4
 have r2:=g2.trans r3
 have r1:=g1.trans r2
 have k1:=r2 _ _ (Ac (H:=H) (a:=t1) (o:=.tup [.int 0,.bl true]))
 have k2:=r3 _ _ Ac
 have k3:=r4 _ _ Ac
 have k4:=r5 _ _ Ac
 have k5:=r6 _ _ Ac
 have k6:=r7 _ _ Ac
 have k7:=r8 _ _ Ac
 have k8:=r9 _ _ Ac
 have k9:=gl _ _ Ac
 have nb2:t2≠a.b:=((L.bag.same g1).nb ht2).symm
 have flo:H lo=none:=(g1.trans (g2.trans (g3.trans (g4.trans (g5.trans (g6.trans (g7.trans (g8.trans g9)))))))).free hlo
 have klo:_=some (HO.lst [.non,.ref t1,.ref t2,.ref t3,.ref t4,.str "00",.ref t5,.ref t6,.ref t7,.ref t8,.ref t9]):=Ac (H:=(upd (upd (upd (upd (upd (upd (upd (upd (upd H t1 (.tup [.int 0,.bl true])) t2 (.lst [.int 0,.int 0])) t3 (.tup [.int 0])) t4 (.tup [.int 0,.int 0,.int 0])) t5 (.tup [.int 9,.int 0])) t6 (.tup [.int 0,.int 14])) t7 (.tup [.int (-1),.int 0])) t8 (.tup [.int 0,.int ((10:Int) ^ (20:Int).toNat)])) t9 (.tup [.int 0,.non]))) (a:=lo)
 clear g1 g2 g3 g4 g5 g6 g7 g8 g9 gl r2 r3 r4 r5 r6 r7 r8 r9 ht1 ht2 ht3 ht4 ht5 ht6 ht7 ht8 ht9 hlo
 generalize (upd (upd (upd (upd (upd (upd (upd (upd (upd (upd H t1 _) t2 _) t3 _) t4 _) t5 _) t6 _) t7 _) t8 _) t9 _) lo _)=HL at *
 refine⟨_,rfl,.inl ⟨rfl,_,SqL.of klo⟩,z2,λtz htz=>?_⟩
 have sz:=Ag htz (.tup [.bl false,.int 0])
 have klz:=sz _ _ klo
 refine⟨lo,_,_,rfl,rfl,klz,Ao (by show 11<=1000;decide),?_⟩
 have ntl:∀zs,(upd HL tz (.tup [.bl false,.int 0])) lo≠some (.tup zs):=λzs e=>by rw[klz] at e;cases e
 have nl2:t2≠lo:=λe=>by rw[e,klo] at k2;cases k2
 have sL:=Ar.upd (o:=.lst ([.non,.ref t1,.ref t2,.ref t3,.ref t4,.str "00",.ref t5,.ref t6,.ref t7,.ref t8,.ref t9]++[.ref tz])) ntl
 have rH:Same H (upd (upd HL tz (.tup [.bl false,.int 0])) lo (.lst ([.non,.ref t1,.ref t2,.ref t3,.ref t4,.str "00",.ref t5,.ref t6,.ref t7,.ref t8,.ref t9]++[.ref tz]))):=(r1.trans sz).Br Ai.upd flo
 have kz:=sL _ _ (Ac (H:=HL) (a:=tz) (o:=.tup [.bl false,.int 0]))
 have c1:=sL _ _ (sz _ _ k1)
 have c2':(upd (upd HL tz (.tup [.bl false,.int 0])) lo (.lst ([.non,.ref t1,.ref t2,.ref t3,.ref t4,.str "00",.ref t5,.ref t6,.ref t7,.ref t8,.ref t9]++[.ref tz]))) t2=_:=(Al nl2).trans (sz _ _ k2)
 have c3':=sL _ _ (sz _ _ k3)
 have c4':=sL _ _ (sz _ _ k4)
 have c5':=sL _ _ (sz _ _ k5)
 have c6':=sL _ _ (sz _ _ k6)
 have c7':=sL _ _ (sz _ _ k7)
 have c8':=sL _ _ (sz _ _ k8)
 have c9':=sL _ _ (sz _ _ k9)
 have kl:(upd (upd HL tz (.tup [.bl false,.int 0])) lo (.lst ([.non,.ref t1,.ref t2,.ref t3,.ref t4,.str "00",.ref t5,.ref t6,.ref t7,.ref t8,.ref t9]++[.ref tz]))) lo=_:=Ac
 generalize upd (upd HL tz _) lo _=HM at *
 have odd:∀i:Int,0<=i->i < 12->∃v,atI [.non,.ref t1,.ref t2,.ref t3,.ref t4,.str "00",.ref t5,.ref t6,.ref t7,.ref t8,.ref t9,.ref tz] i=some v/\Odd HM a.b v:=λi h0 h12=>by
  have tp:∀{t:Addr} {xs:YG},HM t=some (.tup xs)->xs.length<=100->(∀y∈xs,MF y=true)->(∀x y:Int,0<=x->x<=2->0<=y->y<=13->xs≠[.int x,.int y])->Odd HM a.b (.ref t):=λ{t xs} a1 a2 a3 a4=>.inr (.inr (.inr ⟨t,xs,rfl,a1,a2,a3,a4⟩))
  have pk:∀{xs:YG},xs.all MF=true->∀y∈xs,MF y=true:=λh=>List.all_eq_true.mp h
  have h20:((10:Int) ^ (20:Int).toNat)=100000000000000000000:=by decide
  refine DA h0 h12 (Odd HM a.b) (.inl rfl) (tp c1 (by decide) (pk rfl) λ_ _ _ _ _ _ e=>?_) (.inr (.inr (.inl ⟨t2,_,rfl,c2',nb2⟩))) (tp c3' (by decide) (pk rfl) λ_ _ _ _ _ _ e=>?_) (tp c4' (by decide) (pk rfl) λ_ _ _ _ _ _ e=>?_) (.inr (.inl ⟨_,rfl⟩))
   (tp c5' (by decide) (pk rfl) (gQ (by omega))) (tp c6' (by decide) (pk rfl) (gQ (by omega))) (tp c7' (by decide) (pk rfl) (gQ (by omega))) (tp c8' (by decide) (pk rfl) (gQ (by rw[h20];omega))) (tp c9' (by decide) (pk rfl) λ_ _ _ _ _ _ e=>?_) (tp kz (by decide) (pk rfl) λ_ _ _ _ _ _ e=>?_)
  all_goals simp at e
 clear c1 c2' c3' c4' c5' c6' c7' c8' c9' k1 k2 k3 k4 k5 k6 k7 k8 k9
 have LM:=L.same rH
 have nbl:lo≠a.b:=(L.bag.nb flo).symm
 obtain⟨dx,hp⟩:=LM.wi.ins
 refine⟨_,rfl,a.p,dx,_,rfl,hp,fno (by trivial),_,rfl,_,rfl,a.b,n,12,rfl,LM.bag,by omega,by decide,by decide,λr H1 r0 r1' hb1 sb1=>?_⟩
 obtain⟨v,hv,ov⟩:=odd r r0 r1'
 have ov1:=ov.DY sb1 LM.bag.Gf
 have L1:=LM.drawn sb1 hb1
 refine⟨lo,_,_,_,rfl,rfl,SqL.of (sb1 _ _ kl nbl),hv,?_⟩
 refine⟨a.p,a.pl,a.d1,a.d2,a.d3,t.hs,t.fl,t.gs,v,rfl,L1.wi,L1.bs,L1.bg,ov1.th,(λb' g' e1 e2 e3=>absurd ⟨b',g',e1,e2,e3⟩ (ov1.no L1.bo)),λ_ H' s'=>?_⟩
 refine⟨_,rfl,Fy.xc,Fy.sub,λe he=>?_⟩
 have s3:=Ag he (xo e c4)
 refine⟨_,rfl,e,_,4,rfl,Ac,Fy,by decide,λHB sB=>⟨rfl,?_⟩⟩
 have zH:=s'.trans (s3.trans sB)
 have:=q HB (L1.same zH) ((FrS.of rH).trans ((LM.frB sb1).trans (FrS.of zH)))
 exact this
end
abbrev Lw:Stmt:=top 72
abbrev vp:YF:=["_law_script"]
theorem FW:Az ["_law_script","_law_bag_here","_law_plan_here","_law_wires","_law_gates_here","_law_wire_names","_law_hows","_law_stops","_law_k","_law_again","_law_told"] vp (Aj Lw):=⟨rfl,rfl,rfl,by trivial,rfl,by trivial,by trivial⟩
theorem YW {α : Type} (c:α->Int):∀{l m:List α},(l.map c).Pairwise (· < ·)->(m.map c).Pairwise (· < ·)->(∀x,x∈l ↔ x∈m)->l=m
 | [],[],_,_,_=>rfl
 | [],b::m,_,_,h=>by have:=(h b).mpr (QaR ..);cases this
 | a::l,[],_,_,h=>by have:=(h a).mp (QaR ..);cases this
 | a::l,b::m,hl,hm,h=>by
  obtain⟨l1,l2⟩:=List.pairwise_cons.mp hl
  obtain⟨m1,m2⟩:=List.pairwise_cons.mp hm
  have l1:∀x∈l,c a < c x:=λx hx=>l1 _ (Qci.mpr ⟨x,hx,rfl⟩)
  have m1:∀x∈m,c b < c x:=λx hx=>m1 _ (Qci.mpr ⟨x,hx,rfl⟩)
  have e:a=b:=by
   rcases QbY.mp ((h a).mp (QaR ..)) with e | e
   ·exact e
   ·have:=m1 a e
    rcases QbY.mp ((h b).mpr (QaR ..)) with e2 | e2
    ·exact e2.symm
    ·have:=l1 b e2
     omega
  subst e
  rw[YW c l2 m2 λx=>⟨λhx=>?_,λhx=>?_⟩]
  ·rcases QbY.mp ((h x).mp (QaE _ hx)) with e | e
   ·have:=l1 x hx;rw[e] at this;omega
   ·exact e
  ·rcases QbY.mp ((h x).mpr (QaE _ hx)) with e | e
   ·have:=m1 x hx;rw[e] at this;omega
   ·exact e
theorem Ur {α β : Type} {R:α->β->Prop} {xs:List α} {ys:List β} {d:α} {e:β} (h:Paired R xs ys):∀is:List Nat,(∀i∈is,i < xs.length)->Paired R (is.map λi=>xs.getD i d) (is.map λi=>ys.getD i e)
 | [],_=>.nil
 | i::r,hi=>by
  have h1:xs[i]?=some (xs[i]'(hi i QaR)):=Qan _
  obtain⟨y,hy,hr⟩:=Paired.Cq h h1
  refine .cons ?_ (Ur h r λj hj=>hi j (QaE _ hj))
  show R (xs.getD i d) (ys.getD i e)
  rw[Qag,Qag,h1,hy]
  exact hr
def gtD (g:Gt):PyData:=.tuple [.int g.lp,.int g.at_]
theorem Tv {H:Hp}:∀{vs:YG} {gs:List Gt},Paired (Ei H) vs gs->Nq H vs (gs.map gtD)
 | _,_,.nil=>.nil
 | _,_,.cons ⟨t,e,h1⟩ r=>by
  subst e
  exact .cons (.tup h1 (.cons (.int _) (.cons (.int _) .nil))) (Tv r)
theorem dX:∀gs:List Gt,PyData.canLayAll0 (gs.map gtD)=true/\PyData.depthAll (gs.map gtD)<=2
 | []=>⟨rfl,by show 0<=2;decide⟩
 | d::r=>by
  have ih:=dX r
  refine⟨?_,?_⟩
  ·show ((true&&(true&&true))&&PyData.canLayAll0 (r.map gtD))=true
   rw[ih.1];rfl
  ·show max (max 0 (max 0 0)+1) (PyData.depthAll (r.map gtD))<=2
   exact Nat.max_le.mpr ⟨by decide,ih.2⟩
theorem Qa (gs:List Gt):SeqAt.shaped (.list (gs.map gtD))=true:=by
 have h1:=dX gs
 show (PyData.canLayAll0 (gs.map gtD)&&decide (PyData.depthAll (gs.map gtD)+1<=64))=true
 rw[h1.1,Bool.true_and]
 exact QbS (by omega)
theorem dO {H:Hp}:∀{bs:List Addr} {sp:YT},Paired (λb (kv:List Key×V)=>H b=some (.tup (kv.1.map kV))) bs (gpV sp)->Paired (Ei H) (bs.map V.ref) (sp.map (·.1))
 | [],[],.nil=>.nil
 | _::_,_::_,.cons h t=>.cons ⟨_,rfl,h⟩ (dO t)
theorem vB {K:YD} {H:Hp}:∀{vs:YG} {gs:List Gt},Paired (Ei H) vs gs->(∀g∈gs,0<=g.lp/\g.lp<=2/\0<=g.at_/\g.at_<=13)->Paired (Vg K H) vs (gs.map cd2)
 | _,_,.nil,_=>.nil
 | _,_,.cons (b:=g) ⟨t,e,h1⟩ r,hb=>by
  have:=hb g QaR
  exact .cons ⟨t,g.lp,g.at_,e,SqT.of h1,⟨by omega,by omega,rfl⟩⟩ (vB r λx hx=>hb x (QaE _ hx))
theorem BB {gs:List Gt} (nd:gs.Nodup) (hb:∀g∈gs,0<=g.lp/\g.lp<=2/\0<=g.at_/\g.at_<=13):(gs.map cd2).Nodup:=by
 rw[List.nodup_iff_pairwise_ne,List.pairwise_map]
 rw[List.nodup_iff_pairwise_ne] at nd
 refine nd.imp_of_mem λ{a b} ha hb' ne e=>ne ?_
 have h1:=hb a ha
 have h2:=hb b hb'
 unfold cd2 at e
 have e1:a.lp=b.lp:=by omega
 have e2:a.at_=b.at_:=by omega
 cases a
 cases b
 dsimp only at e1 e2
 rw[e1,e2]
theorem LS.spb {C:Addr} {H:Hp} {a:Ad} {n:Nat} {t:Sd8} (L:LS C H a n t):∀g∈t.sp.map (·.1),g∈t.gs.map (·.1):=λg hg=>Qai λc=>by
 have h1:=L.rg g
 rw[Ji.mpr hg] at h1
 unfold gpC at h1
 rw[find_none c] at h1
 cases h1
theorem lg {C:Addr} {H:Hp} {a:Ad} {n:Nat} {t:Sd8} (L:LS C H a n t) {is:List Nat} (hp:is.Perm (List.range t.sp.length)) (df:Gt) (hi:(is.map λi=>((t.sp.map (·.1)).map cd2).getD i 0).Pairwise (· < ·)):is.map (λi=>(t.sp.map (·.1)).getD i df)=(t.gs.filter (·.2)).map (·.1):=by
 have lt:∀i∈is,i < t.sp.length:=λi h=>QbU.mp (hp.mem_iff.mp h)
 have hr:=dY L.pa.ok
 rw[<-L.k3] at hr
 refine YW cd2 ?_ (List.Pairwise.sublist (List.Sublist.map _ (List.Sublist.map _ List.filter_sublist)) hr) λx=>?_
 ·rw[Qcl]
  have e:is.map (cd2 ∘ λi=>(t.sp.map (·.1)).getD i df)=is.map λi=>((t.sp.map (·.1)).map cd2).getD i 0:=QaM λi h=>by
   have:=lt i h
   simp[this]
  rw[e]
  exact hi
 ·have hx:x∈(t.gs.filter (·.2)).map (·.1) ↔ x∈t.sp.map (·.1):=by
   rw[<-Ji (sp:=t.sp),<-L.rg x]
   constructor
   ·intro h
    obtain⟨y,hy,rfl⟩:=Qci.mp h
    obtain⟨h1,h2⟩:=QbK.mp hy
    rw[ZS L.wi.nd3 h1]
    exact h2
   ·intro h
    have hin:x∈t.gs.map (·.1):=Qai λc=>by
     unfold gpC at h
     rw[find_none c] at h
     cases h
    obtain⟨y,hy,rfl⟩:=Qci.mp hin
    rw[ZS L.wi.nd3 hy] at h
    exact Qci.mpr ⟨y,QbK.mpr ⟨hy,h⟩,rfl⟩
  rw[hx,Qci]
  constructor
  ·rintro ⟨i,h,rfl⟩
   have hl:i < (t.sp.map (·.1)).length:=by rw[QbB];exact lt i h
   rw[show (t.sp.map (·.1)).getD i df=(t.sp.map (·.1))[i] by simp[lt i h]]
   exact List.getElem_mem hl
  ·intro h
   obtain⟨i,hi2⟩:=QaG h
   have hl:=(Qah.mp hi2).1
   rw[QbB] at hl
   exact⟨i,hp.mem_iff.mpr (QbU.mpr hl),by rw[Qag,hi2];rfl⟩
theorem qp {loops:YU} (ok:Eh loops):(up (gtL loops) loops.length).length<=42:=by
 have:=Dt (f:=gtL loops) (c:=14) (V2 ok) loops.length
 have:=ok.hi
 omega
theorem LS.AB {C:Addr} {H H':Hp} {a:Ad} {n n':Nat} {t:Sd8} {b:Addr} (L:LS C H a n t) (s:Same H H') (hb:H b=none) (bag:Bw H' b n'):LS C H' { a with b:=b } n' t:=by
 have L':=L.same s
 obtain⟨xs,x1,_⟩:=L.gv
 obtain⟨ys,y1,_⟩:=L.wn
 exact⟨bag,L'.wi,L'.pa,L'.ho,L'.so,L'.gv,L'.wn,Ax x1 hb,Ax y1 hb,L'.n12,L'.nh,L'.ne,L'.nhe,L'.k1,L'.k3,L'.rh,L'.rg,L'.ndw,L'.sub,L'.nds⟩
theorem FrS.fresh {a:Ad} {H0 H H':Hp} (s:Same H0 H) (f:FrS a H H') (hb:H0 a.b=none) (h1:H0 a.d1=none) (h2:H0 a.d3=none) (h3:H0 a.h=none) (h4:H0 a.e=none):Same H0 H':=λc o e=>f _ _ (s _ _ e) (Ax e hb) (Ax e h1) (Ax e h2) (Ax e h3) (Ax e h4)
theorem Cb (loops:YU):Ql (hs0 loops) []:=λs hs=>by
 obtain⟨x,hx,e⟩:=Qci.mp hs
 unfold stC Cp
 cases h:(hs0 loops).find? λx=>decide (x.1=s) with
 | none=>exact absurd e (by simpa using List.find?_eq_none.mp h x hx)
 | some y=>
  have:=List.mem_of_find?_eq_some h
  unfold hs0 at this
  obtain⟨z,_,rfl⟩:=Qci.mp this
  rfl
theorem Cc (loops:YU):Li (gs0 loops) []:=λg=>by
 unfold gpC
 cases h:(gs0 loops).find? λx=>decide (x.1=g) with
 | none=>rfl
 | some y=>
  have:=List.mem_of_find?_eq_some h
  unfold gs0 at this
  obtain⟨z,_,rfl⟩:=Qci.mp this
  rfl
section
variable {P:Program} {w:World} {K:YD} {mg:YB} {base:Heap} {op oe kd wk C:Addr}
theorem zZ {f:Addr} {fd:FuncData} (F:Fun K "law" "law" Lw f fd) (T:Tw K mg op oe kd wk C) (RK:Good P w K mg base "_law_bag" 1 OJ (vh K)) (Bm:Good P w K mg base "_law_take" 1 Ew Kv) (uq:Good P w K mg base "_law_plan" 4 M6 jQ) (m8:ju P w K mg base C 11 EY (dj C)) (mU:Good P w K mg base "_law_gates" 1 KJ dw) (Xr:Good P w K mg base "_law_stretches" 1 Gv cR) (iU:Good P w K mg base "_law_befall" 5 Jv (Yl C)) (uw:Good P w K mg base "_law_acts" 6 Nb (jW C)) (bL:Good P w K mg base "_law_refused" 5 HF (jP C)) (iR:Qn P w K mg base C "parted" 1 Ge (Yh C)):Gj P w K mg base CX0 13 f fd vp (Xx K):=by
 have sc:=FW
 refine F.ok FW (λvs H Q E h=>?_) (λcdv A outer s H vs Q E hr h=>?_)
 ·obtain⟨a,ns,rfl,_⟩:=h
  rfl
 obtain⟨sa,ns,rfl,hS,h63,q⟩:=h
 refine⟨_,(Af (Ba (i:=1) FW.nd rfl (Or.inl rfl) (Ay RK hr (Aa (pv 0) (Aa Ae Ab))))
 (Af (Ba (i:=2) FW.nd rfl (Or.inl rfl) (Ay uq hr (Aa (pv 1) (Aa Ae (Aa Ae Ab)))))
 (Af (Ba (i:=3) FW.nd rfl (Or.inl rfl) (Cl m8 hr T.mgC (Aa (pv 2) Ab)))
 (Af (Ba (i:=4) FW.nd rfl (Or.inl rfl) (Ay mU hr (Aa (pv 2) Ab)))
 (Af (Ba (i:=5) FW.nd rfl (Or.inl rfl) (Ay Xr hr (Aa (pv 2) Ab)))
 (Af (Ba (i:=6) FW.nd rfl (Or.inl rfl) Zb)
 (Af (Ba (i:=7) FW.nd rfl (Or.inl rfl) Zb)
 (Af (Cg QbE rfl (CN rfl T.range (Aa (Av (nU rfl) rfl T.max aH (Aa Ae (Aa (Av (La rfl) rfl T.min Ra (Aa Ae (Aa (Av Bl rfl T.len Cu (Aa (pv 0) Ab)) Ab))) Ab))) Ab)) (Ak (i:=8) FW.nd rfl (Or.inl rfl))
 (Af (Ba (i:=1) FW.nd rfl (Or.inl rfl) (Ay RK hr (Aa (pv 0) (Aa (pv 8) Ab))))
 (Af (Bj (Ay iU hr (Aa (pv 1) (Aa (pv 3) (Aa (pv 6) (Aa (pv 5) Ab))))))
 (Af (Cg QbE rfl (CN rfl T.range (Aa (Bg Ca Ae (Ay Bm hr (Aa (pv 1) (Aa Ae Ab)))) Ab)) (Ak (i:=9) FW.nd rfl (Or.inl rfl))
 (Af (Ce (Et (DR (Ay uw hr (@Aa _ _ _ _ _ (pv 1) (@Aa _ _ _ _ _ (pv 3) (@Aa _ _ _ _ _ (pv 2) (@Aa _ _ _ _ _ (pv 6) (@Aa _ _ _ _ _ (pv 7) (@Aa _ _ _ _ _ (pv 4) (@Ab _) Fo) Fo) Fo) Fo) Fo) Fo)))) (Ah (Bb Dl)) BJ)
 (Af (Ba (i:=10) FW.nd rfl (Or.inl rfl) (kI (pv 3) T.cl iR hr))
 (Af (Ce (Bx (zV hr.units) (pv 10) (Av aB rfl T.sorted W8 (Aa (Gm (bW rfl) rfl T.list yw (Aa (pv 7) Ab)) Ab)) (Bs _)) (Ah (Bb Dl)) BJ)
 (Ah (Bj (BW Qaq Qal Qam Bu (pv 10) (Aa (Bd (Aa Ae (Aa Ae Ab))) Ab))))))))
 (Ah (Ce (Et (DR (Ay bL hr (Aa (pv 1) (Aa (pv 3) Ab))))) (Ah (Bb Dl)) BJ))))))
 (Ah (Bb Dl)))))))))),?_⟩
 show let R0:TS:=_;let R1:TS:=_;let R2:TS:=Am _ R1;let R3:TS:=Am _ R2;let R4:TS:=Am _ R3;let R5:TS:=Am (Dg _ _ R4) R0;let R6:TS:=Am _ R5;let R7:TS:=Am _ R6;let R8:TS:=Am (Dg _ _ R7) _;let R9:TS:=Am _ R8;let R10:TS:=Am _ R9;let R11:TS:=Am _ R10;let R12:TS:=Am _ R11;let R13:TS:=Am _ R12;let R14:TS:=Am _ R13;Am _ R14 _ _ _
 intro R0 R1 R2 R3 R4 R5 R6 R7 R8 R9 R10 R11 R12 R13 R14
 refine⟨_,rfl,sa,ns,0,rfl,hS,h63,by decide,by decide,λb0 o hb0 hb=>?_⟩
 have sb0:=Ag hb0 o
 generalize upd H b0 o=H0 at *
 refine⟨_,rfl,b0,0,3,12,rfl,hb,by omega,by omega,by omega,by omega,by omega,λt Ls zs vs zvs loops zones most H1 e1 e2 e3 e4 e5 e6 e7 e8 e9 hb1 sb1=>?_⟩
 have ok:Eh loops:=⟨e4,e6⟩
 have pa:Fz H1 t most loops zones:=⟨⟨Ls,zs,vs,zvs,e1,e2,e3,e7,e8⟩,ok,e5,e9⟩
 have s1:Same H H1:=sb0.Br sb1 hb0
 clear sb1 e1 e2 e3 e4 e7 e8
 refine⟨_,rfl,λp dx hp hdx ndx=>?_⟩
 have s2:Same H1 (upd (upd H1 dx (.own p)) p (.ins C dx [])):=(Ag hdx _).trans (Ag (by rw[Al ndx.symm];exact hp) _)
 have hpx:(upd (upd H1 dx (.own p)) p (.ins C dx [])) p=some (.ins C dx []):=Ac
 generalize upd (upd H1 dx (.own p)) p (.ins C dx [])=Hx at *
 refine⟨p,dx,t,most,loops,zones,rfl,hpx,pa.same s2,λd1 d2 d3 H3 f1 f2 f3 n12 W sb=>⟨rfl,?_⟩⟩
 have s3:Same H1 H3:=s2.Br sb hp
 have fp:H p=none:=s1.free hp
 have fd1:H d1=none:=(s1.trans s2).free f1
 have fd3:H d3=none:=(s1.trans s2).free f3
 have hb3:=hb1.same s3
 have sH3:=s1.trans s3
 clear f1 f2 f3 sb hpx s2 hp hdx ndx
 refine⟨_,rfl,t,most,loops,zones,rfl,pa.same s3,λlv xv H4 fv hv pv' s4=>?_⟩
 have nvb:lv≠b0:=(hb3.nb fv).symm
 refine⟨_,rfl,t,most,loops,zones,rfl,pa.same (s3.trans s4),λlw xw H5 fw hw pw s5=>?_⟩
 have s45:=s4.trans s5
 have nwb:lw≠b0:=((hb3.same s4).nb fw).symm
 refine λdh fh=>?_
 have s6:=Ag fh (.dT [])
 refine λde fe=>?_
 have s7:=Ag fe (.dT [])
 have s67:=s6.trans s7
 have hdh:=s7 _ _ (Ac (H:=H5) (a:=dh) (o:=.dT []))
 have hde:(upd (upd H5 dh (.dT [])) de (.dT [])) de=some (.dT []):=Ac
 have fdh:H dh=none:=(sH3.trans s45).free fh
 have fde:H de=none:=((sH3.trans s45).trans s6).free fe
 have W5:=W.same s45
 have neh:∀c o,H5 c=some o->dh≠c:=λc o e z=>by rw[z,e] at fh;cases fh
 have nee:∀c o,(upd H5 dh (.dT [])) c=some o->de≠c:=λc o e z=>by rw[z,e] at fe;cases fe
 obtain⟨kv5,v1,v2⟩:=W5.fi
 have LS0:LS C (upd (upd H5 dh (.dT [])) de (.dT [])) ⟨b0,p,t,d1,d2,d3,dh,de,lv,lw⟩ 3000 ⟨most,loops,zones,hs0 loops,[],fl0 loops,gs0 loops,[]⟩:=by
  refine⟨((hb3.same s45).same s67).mono (by omega),W5.same s67,pa.same ((s3.trans s45).trans s67),hdh,hde,⟨_,s67 _ _ (s5 _ _ hv),?_⟩,⟨_,s67 _ _ hw,?_⟩,nvb,nwb,n12,⟨neh _ _ W5.st,neh _ _ v1,neh _ _ W5.gp⟩,⟨nee _ _ (s6 _ _ W5.st),nee _ _ (s6 _ _ v1),nee _ _ (s6 _ _ W5.gp)⟩,(nee _ _ Ac).symm,V1 loops,V4 loops,Cb loops,Cc loops,QbV,(λx hx=>by cases hx),QbV⟩
  ·dsimp only
   rw[V4]
   exact Paired.Bc pv' λ_ _ z=>z.tups (Ar.of (s5.trans s67))
  ·dsimp only
   rw[V1]
   exact Paired.Bc pw λ_ _ z=>z.tups (Ar.of s67)
 have sH6:Same H (upd (upd H5 dh (.dT [])) de (.dT [])):=(sH3.trans s45).trans s67
 clear s6 s7 s67 hdh hde W5 neh nee hv hw pv' pw fv fw fh fe v1 v2
 generalize upd (upd H5 dh (.dT [])) de (.dT [])=H6 at *
 have hl':(ns.map V.int).length=ns.length:=QbB _
 refine⟨_,rfl,sa,_,rfl,.inl (sH6.seq hS),_,_,rfl,_,_,rfl,_,rfl,?_,?_,?_⟩
 ·rw[hl'];split <;> split <;> omega
 ·rw[hl'];split <;> split <;> omega
 let J0:YN:=λi σ HH=>∃(u1 u8 u9 u10:Option V) (b:Addr) (ss:Sd8),σ=[some (.ref sa),u1,some (.ref t),some (.ref p),some (.ref lv),some (.ref lw),some (.ref dh),some (.ref de),u8,u9,u10]/\LS C HH ⟨b,p,t,d1,d2,d3,dh,de,lv,lw⟩ 3000 ss/\Same H HH
 refine DX J0 ⟨_,_,_,_,b0,_,rfl,LS0,sH6⟩ (λi σ HH hi h=>?_) (fun σ HH h=>?_)
 ·obtain⟨u1,u8,u9,u10,bp,ss,rfl,L,sm⟩:=h
  rw[hl'] at hi
  have hi':(i:Int)<=100:=by
   revert hi
   split <;> split <;> omega
  refine⟨_,rfl,_,rfl,sa,ns,_,rfl,sm.seq hS,h63,by omega,by omega,λb o hbn A0=>?_⟩
  have s7:=Ag hbn o
  have L7:=L.AB s7 hbn A0
  have fb:H b=none:=sm.free hbn
  have sm7:=sm.trans s7
  generalize upd HH b o=H7 at *
  clear L s7 hbn A0 sm LS0 sH6
  refine⟨_,rfl,_,rfl,_,rfl,_,rfl,⟨b,p,t,d1,d2,d3,dh,de,lv,lw⟩,0,ss,rfl,L7,by omega,λhs' hw' H8 L8 F8=>?_⟩
  have sm8:Same H H8:=F8.fresh sm7 fb fd1 fd3 fdh fde
  clear L7 F8 sm7
  refine⟨_,rfl,b,_,6,rfl,L8.bag,by omega,by decide,by decide,λr H9 r0 r1 hb9 sb9=>?_⟩
  have L9:=L8.drawn sb9 hb9
  have sm9:Same H H9:=sm8.Br sb9 fb
  clear L8 sm8 sb9 hb9
  refine⟨_,_,rfl,rfl,_,rfl,by omega,by omega,?_⟩
  generalize hrn:(1+r).toNat=rn
  have On:rn<=6:=by omega
  let J1:YN:=λj σ HX=>∃(u9 u10:Option V) (ss:Sd8),σ=[some (.ref sa),some (.ref b),some (.ref t),some (.ref p),some (.ref lv),some (.ref lw),some (.ref dh),some (.ref de),some (.int (0+(i:Int))),u9,u10]/\LS C HX ⟨b,p,t,d1,d2,d3,dh,de,lv,lw⟩ (3+j) ss/\Same H HX
  refine DX J1 ⟨_,_,_,rfl,L9,sm9⟩ (λj σ HX hj h=>?_) (fun σ HX h=>?_)
  ·obtain⟨u9,u10,ss,rfl,L,sm⟩:=h
   clear L9 sm9
   refine⟨_,rfl,_,rfl,_,rfl,_,rfl,_,rfl,_,rfl,⟨b,p,t,d1,d2,d3,dh,de,lv,lw⟩,3+j,ss,rfl,L,by omega,λgs' sp' H10 L10 F10=>?_⟩
   have D7:Same H H10:=F10.fresh sm fb fd1 fd3 fdh fde
   clear L F10 sm
   refine⟨_,rfl,Cm ?_⟩
   obtain⟨dx,hp⟩:=L10.wi.ins
   refine⟨_,rfl,p,dx,_,rfl,hp,fno (by trivial),p,t,d1,d2,d3,_,_,gs',rfl,L10.wi,λlt xt H11 flt hlt hpt s11=>?_⟩
   have L11:=L10.same s11
   have lsp:=L11.ls
   have l42:=qp L11.pa.ok
   rw[<-L11.k3,QbB] at l42
   dsimp only at lsp l42
   have bo:=L11.bo
   have bsp:∀g∈sp'.map (·.1),0<=g.lp/\g.lp<=2/\0<=g.at_/\g.at_<=13:=λg hg=>bo g (L11.spb g hg)
   refine⟨_,rfl,_,rfl,lV L11.so λlk bs hlk hbs=>?_⟩
   have s12:=Ag hlk (.lst (bs.map V.ref))
   have hks:Paired (Ei H11) (bs.map V.ref) (sp'.map (·.1)):=dO hbs
   have lks:=QbX hks
   rw[QbB,QbB] at lks
   have vJ:Paired (Ei (upd H11 lk (.lst (bs.map V.ref)))) (bs.map V.ref) (sp'.map (·.1)):=Paired.Bc hks λ_ _ z=>z.tups (Ar.of s12)
   refine pG (ks:=(sp'.map (·.1)).map cd2) (SqL.of Ac) (by rw[QbB,lks];omega) (vB vJ bsp) (BB L11.nds bsp) λis ls hperm RB hls=>?_
   rw[QbB,lks] at hperm
   have s13:=Ag hls (.lst (is.map λi=>(bs.map V.ref).getD i .non))
   have CU:(upd (upd H11 lk (.lst (bs.map V.ref))) ls (.lst (is.map λi=>(bs.map V.ref).getD i .non))) ls=_:=Ac
   have zN:Paired (Ei (upd (upd H11 lk (.lst (bs.map V.ref))) ls (.lst (is.map λi=>(bs.map V.ref).getD i .non)))) (is.map λi=>(bs.map V.ref).getD i .non) (is.map λi=>(sp'.map (·.1)).getD i ⟨0,0⟩):=Ur (Paired.Bc vJ λ_ _ z=>z.tups (Ar.of s13)) is λi hi=>by
    rw[QbB,lks]
    exact QbU.mp (hperm.mem_iff.mp hi)
   rw[lg L11 hperm ⟨0,0⟩ RB] at zN
   have fZ:=s12.trans s13
   generalize upd (upd H11 lk (.lst (bs.map V.ref))) ls (.lst (is.map λi=>(bs.map V.ref).getD i .non))=H13 at *
   have iJ:=fZ _ _ hlt
   have vH:Paired (Ei H13) xt ((gs'.filter (·.2)).map (·.1)):=Paired.Bc hpt λ_ _ z=>z.tups (Ar.of fZ)
   refine⟨_,_,.lst iJ (Tv vH),.lst CU (Tv zN),Qa _,Qa _,_,rfl,?_⟩
   rw[SeqAt.eqv_refl _ (SeqAt.canLay_of_shaped (Qa _))]
   have lxt:=QbX vH
   have N3:((gs'.filter (·.2)).map (·.1)).length<=200:=by
    rw[QbB]
    have:=List.length_filter_le (λx:Gt×Bool=>x.2) gs'
    omega
   refine Cm ⟨_,rfl,.inl ⟨rfl,_,SqL.of iJ⟩,Aw (by show 2<=1000;decide),λtz htz=>?_⟩
   have s14:=Ag htz (.tup [.int 0,.int 0])
   refine⟨lt,_,_,rfl,rfl,s14 _ _ iJ,Ao (by omega),?_⟩
   have s15:Same H10 (upd (upd H13 tz (.tup [.int 0,.int 0])) lt (.lst (xt++[.ref tz]))):=((s11.trans fZ).trans s14).Br Ai.upd flt
   exact⟨_,_,_,rfl,(L10.same s15).mono (by omega),D7.trans s15⟩
  ·obtain⟨u9,u10,ss,rfl,L,sm⟩:=h
   refine⟨_,rfl,_,rfl,⟨b,p,t,d1,d2,d3,dh,de,lv,lw⟩,3+rn,ss,rfl,L,by omega,λH16 L16 F16=>?_⟩
   have D6:Same H H16:=F16.fresh sm fb fd1 fd3 fdh fde
   exact⟨_,rfl,Cm ⟨_,_,_,_,b,ss,rfl,L16.mono (by omega),D6⟩⟩
 ·exact q HH
end
theorem vA {K:YD} {C c0 c1 c2 c3 c4 c5 c6 c7 c8 c9 c10 c11 c12:Addr} {j:Nat} (q0:kitOne K (.ref C) (.ref c0)=some (decide (0=j))) (q1:kitOne K (.ref C) (.ref c1)=some (decide (1=j))) (q2:kitOne K (.ref C) (.ref c2)=some (decide (2=j))) (q3:kitOne K (.ref C) (.ref c3)=some (decide (3=j))) (q4:kitOne K (.ref C) (.ref c4)=some (decide (4=j))) (q5:kitOne K (.ref C) (.ref c5)=some (decide (5=j))) (q6:kitOne K (.ref C) (.ref c6)=some (decide (6=j))) (q7:kitOne K (.ref C) (.ref c7)=some (decide (7=j))) (q8:kitOne K (.ref C) (.ref c8)=some (decide (8=j))) (q9:kitOne K (.ref C) (.ref c9)=some (decide (9=j))) (q10:kitOne K (.ref C) (.ref c10)=some (decide (10=j))) (q11:kitOne K (.ref C) (.ref c11)=some (decide (11=j))) (q12:kitOne K (.ref C) (.ref c12)=some (decide (12=j))) :
  ∀i d,([c0,c1,c2,c3,c4,c5,c6,c7,c8,c9,c10,c11,c12]:List Addr)[i]?=some d->kitOne K (.ref C) (.ref d)=some (decide (i=j)):=λi d h=>by
 match i,h with
 | 0,h=>cases h;exact q0
 | 1,h=>cases h;exact q1
 | 2,h=>cases h;exact q2
 | 3,h=>cases h;exact q3
 | 4,h=>cases h;exact q4
 | 5,h=>cases h;exact q5
 | 6,h=>cases h;exact q6
 | 7,h=>cases h;exact q7
 | 8,h=>cases h;exact q8
 | 9,h=>cases h;exact q9
 | 10,h=>cases h;exact q10
 | 11,h=>cases h;exact q11
 | 12,h=>cases h;exact q12
 | n+13,h=>cases h
structure FnI (K:YD) (x:Str) (st:Stmt):Prop where
 ex:∃(f:Addr) (oc:Value) (od an:Option Addr) (sl:YI) (kV dc pm cd ct:Value),nsIn K mainGlobals x=some (some (.ref f))/\K.lookup f=some ⟨oc,od,.func (fnOf x x (DG st) (Cz st) (Aj st) .none kV dc pm an cd ct),sl⟩/\codeIn K cd x=true/\keepIn K (.ref f)=true
theorem FnI.of {K:YD} {x:Str} {st:Stmt} {f:Addr} {oc:Value} {od an:Option Addr} {sl:YI} {kV dc pm cd ct:Value} (a:nsIn K mainGlobals x=some (some (.ref f))) (l:K.lookup f=some ⟨oc,od,.func (fnOf x x (DG st) (Cz st) (Aj st) .none kV dc pm an cd ct),sl⟩) (c:codeIn K cd x=true) (k:keepIn K (.ref f)=true):FnI K x st:=⟨f,oc,od,an,sl,kV,dc,pm,cd,ct,a,l,c,k⟩
theorem FnI.code {K:YD} {mg:YB} {h:Heap} {x:Str} {st:Stmt} {ps:YF} (I:FnI K x st) (X:K.In h) (G:h.Ns mainGlobals mg) (hb:∀(kV doc pm:Value) (an:Option Addr) (cdv ct:Value) (us:YE),us.length=ps.length->bindArgs (fnOf x x (DG st) (Cz st) (Aj st) .none kV doc pm an cdv ct) ⟨us,[]⟩=pure (ps.zip us)):Code K mg x st ps:=by
 obtain⟨f,oc,od,an,sl,kV,dc,pm,cd,ct,a,l,c,k⟩:=I.ex
 exact Code.of X G a l c k hb
structure MtI (K:YD) (C:Addr) (x q:Str) (st:Stmt):Prop where
 ex:∃(f:Addr) (oc:Value) (od an:Option Addr) (sl:YI) (kV dc pm cd ct:Value),findIn K (.ref C) x=some (some (.ref f))/\isFn K (.ref f)=true/\K.lookup f=some ⟨oc,od,.func (fnOf x q (DG st) (Cz st) (Aj st) .none kV dc pm an cd ct),sl⟩/\codeIn K cd q=true/\keepIn K (.ref f)=true
theorem MtI.of {K:YD} {C:Addr} {x q:Str} {st:Stmt} {f:Addr} {oc:Value} {od an:Option Addr} {sl:YI} {kV dc pm cd ct:Value} (a:findIn K (.ref C) x=some (some (.ref f))) (i:isFn K (.ref f)=true) (l:K.lookup f=some ⟨oc,od,.func (fnOf x q (DG st) (Cz st) (Aj st) .none kV dc pm an cd ct),sl⟩) (c:codeIn K cd q=true) (k:keepIn K (.ref f)=true):MtI K C x q st:=⟨f,oc,od,an,sl,kV,dc,pm,cd,ct,a,i,l,c,k⟩
theorem MtI.code {K:YD} {C:Addr} {x q:Str} {st:Stmt} {ps:YF} (I:MtI K C x q st) (hb:∀(kV doc pm:Value) (an:Option Addr) (cdv ct:Value) (us:YE),us.length=ps.length->bindArgs (fnOf x q (DG st) (Cz st) (Aj st) .none kV doc pm an cdv ct) ⟨us,[]⟩=pure (ps.zip us)):Ip K C x q st ps:=by
 obtain⟨f,oc,od,an,sl,kV,dc,pm,cd,ct,a,i,l,c,k⟩:=I.ex
 have F:=U9 (st:=st) l c k
 exact⟨f,_,F,⟨a,i,k⟩,F.binds hb⟩
theorem MtI.init {K:YD} {C:Addr} {q:Str} {st:Stmt} {ps:YF} (I:MtI K C "__init__" q st) (mk:makesIn K C=true) (kc:keepIn K (.ref C)=true) (hb:∀(kV doc pm:Value) (an:Option Addr) (cdv ct:Value) (us:YE),us.length=ps.length->bindArgs (fnOf "__init__" q (DG st) (Cz st) (Aj st) .none kV doc pm an cdv ct) ⟨us,[]⟩=pure (ps.zip us)):∃f fd,Fun K "__init__" q st f fd/\Mk K C f/\Binds K fd ps []:=by
 obtain⟨f,oc,od,an,sl,kV,dc,pm,cd,ct,a,i,l,c,k⟩:=I.ex
 have F:=U9 (st:=st) l c k
 exact⟨f,_,F,⟨mk,a,i,kc⟩,F.binds hb⟩
theorem fn1 {F:Value->Value->Value->Option Addr->Value->Value->FuncData} {ps:YF} (hl:ps.length=1) (h:∀kV dc pm an cd ct a0,bindArgs (F kV dc pm an cd ct) ⟨[a0],[]⟩=pure (ps.zip [a0])) (kV dc pm:Value) (an:Option Addr) (cd ct:Value) (us:YE) (hu:us.length=ps.length):bindArgs (F kV dc pm an cd ct) ⟨us,[]⟩=pure (ps.zip us):=by
 rw[hl] at hu
 match us,hu with
 | [a0],_=>exact h kV dc pm an cd ct a0
theorem fn2 {F:Value->Value->Value->Option Addr->Value->Value->FuncData} {ps:YF} (hl:ps.length=2) (h:∀kV dc pm an cd ct a0 a1,bindArgs (F kV dc pm an cd ct) ⟨[a0,a1],[]⟩=pure (ps.zip [a0,a1])) (kV dc pm:Value) (an:Option Addr) (cd ct:Value) (us:YE) (hu:us.length=ps.length):bindArgs (F kV dc pm an cd ct) ⟨us,[]⟩=pure (ps.zip us):=by
 rw[hl] at hu
 match us,hu with
 | [a0,a1],_=>exact h kV dc pm an cd ct a0 a1
theorem fn3 {F:Value->Value->Value->Option Addr->Value->Value->FuncData} {ps:YF} (hl:ps.length=3) (h:∀kV dc pm an cd ct a0 a1 a2,bindArgs (F kV dc pm an cd ct) ⟨[a0,a1,a2],[]⟩=pure (ps.zip [a0,a1,a2])) (kV dc pm:Value) (an:Option Addr) (cd ct:Value) (us:YE) (hu:us.length=ps.length):bindArgs (F kV dc pm an cd ct) ⟨us,[]⟩=pure (ps.zip us):=by
 rw[hl] at hu
 match us,hu with
 | [a0,a1,a2],_=>exact h kV dc pm an cd ct a0 a1 a2
theorem fn4 {F:Value->Value->Value->Option Addr->Value->Value->FuncData} {ps:YF} (hl:ps.length=4) (h:∀kV dc pm an cd ct a0 a1 a2 a3,bindArgs (F kV dc pm an cd ct) ⟨[a0,a1,a2,a3],[]⟩=pure (ps.zip [a0,a1,a2,a3])) (kV dc pm:Value) (an:Option Addr) (cd ct:Value) (us:YE) (hu:us.length=ps.length):bindArgs (F kV dc pm an cd ct) ⟨us,[]⟩=pure (ps.zip us):=by
 rw[hl] at hu
 match us,hu with
 | [a0,a1,a2,a3],_=>exact h kV dc pm an cd ct a0 a1 a2 a3
theorem fn5 {F:Value->Value->Value->Option Addr->Value->Value->FuncData} {ps:YF} (hl:ps.length=5) (h:∀kV dc pm an cd ct a0 a1 a2 a3 a4,bindArgs (F kV dc pm an cd ct) ⟨[a0,a1,a2,a3,a4],[]⟩=pure (ps.zip [a0,a1,a2,a3,a4])) (kV dc pm:Value) (an:Option Addr) (cd ct:Value) (us:YE) (hu:us.length=ps.length):bindArgs (F kV dc pm an cd ct) ⟨us,[]⟩=pure (ps.zip us):=by
 rw[hl] at hu
 match us,hu with
 | [a0,a1,a2,a3,a4],_=>exact h kV dc pm an cd ct a0 a1 a2 a3 a4
theorem fn6 {F:Value->Value->Value->Option Addr->Value->Value->FuncData} {ps:YF} (hl:ps.length=6) (h:∀kV dc pm an cd ct a0 a1 a2 a3 a4 a5,bindArgs (F kV dc pm an cd ct) ⟨[a0,a1,a2,a3,a4,a5],[]⟩=pure (ps.zip [a0,a1,a2,a3,a4,a5])) (kV dc pm:Value) (an:Option Addr) (cd ct:Value) (us:YE) (hu:us.length=ps.length):bindArgs (F kV dc pm an cd ct) ⟨us,[]⟩=pure (ps.zip us):=by
 rw[hl] at hu
 match us,hu with
 | [a0,a1,a2,a3,a4,a5],_=>exact h kV dc pm an cd ct a0 a1 a2 a3 a4 a5
theorem all_mk {l:PySem.W.OpenLaw} {w:World} {K:YD} {h:Heap} {mg:YB} {fa C fl:Addr} (X:K.In h) (G:h.Ns mainGlobals mg) (hfa:mg "law"=some (.ref fa))
  {odl anl:Option Addr} {sll:YI} {ocl kVl dcl pml cdl ctl:Value}
  (aC:nsIn K mainGlobals "Wires"=some (some (.ref C)))
  (m0:MtI K C "__init__" "Wires.__init__" IV)
  (m1:MtI K C "check_stretch" "Wires.check_stretch" Ga)
  (m2:MtI K C "cut" "Wires.cut" Og)
  (m3:MtI K C "short" "Wires.short" Lf)
  (m4:MtI K C "mend" "Wires.mend" Mu)
  (m5:MtI K C "parted" "Wires.parted" JQ)
  (m6:MtI K C "act" "Wires.act" Oh)
  (m7:MtI K C "rests" "Wires.rests" Lg)
  (i0:FnI K "is_whole" Lx)
  (i1:FnI K "is_within" N8)
  (i2:FnI K "is_row" Tc)
  (i3:FnI K "are_wholes" Mt)
  (i4:FnI K "is_rising" Oa)
  (i5:FnI K "are_rising_within" Fg)
  (i6:FnI K "is_name" QH)
  (i7:FnI K "is_device" Oc)
  (i8:FnI K "is_spur_device" Iw)
  (i9:FnI K "is_spur" QF)
  (i10:FnI K "is_place" Pu)
  (i11:FnI K "is_loop" QJ)
  (i12:FnI K "is_zone" QD)
  (i13:FnI K "are_loops" Oe)
  (i14:FnI K "are_zones" Od)
  (i15:FnI K "is_plan" QG)
  (i16:FnI K "place_devices" Jt)
  (i17:FnI K "devices" QK)
  (i18:FnI K "stretches" Kh)
  (i19:FnI K "openers" Nv)
  (i20:FnI K "parts" Vu)
  (i21:FnI K "address_twice" Ju)
  (i22:FnI K "part_crowded" JM)
  (i23:FnI K "address_stranger" G8)
  (i24:FnI K "address_shared" IK)
  (i25:FnI K "wrong" Vt)
  (i26:FnI K "is_let_by" Ob)
  (i27:FnI K "spur_pieces" Le)
  (i28:FnI K "come_to" QL)
  (i29:FnI K "has_short" Kl)
  (i30:FnI K "comes_to_short" Iz)
  (i31:FnI K "all_rest" Ly)
  (i32:FnI K "_law_bag" Vv)
  (i33:FnI K "_law_take" S7)
  (i34:FnI K "_law_name" Pk)
  (i35:FnI K "_law_names" Nx)
  (i36:FnI K "_law_loop" S8)
  (i37:FnI K "_law_parts" QC)
  (i38:FnI K "_law_plan" JN)
  (i39:FnI K "_law_kind" S9)
  (i40:FnI K "_law_walk" S6)
  (i41:FnI K "_law_gates" Ny)
  (i42:FnI K "_law_feels" Nz)
  (i43:FnI K "_law_stretches" Io)
  (i44:FnI K "_law_befall" Pq)
  (i45:FnI K "_law_acts" Pr)
  (i46:FnI K "_law_refused" N7)
  (al:nsIn K mainGlobals "law"=some (some (.ref fl))) (ll:K.lookup fl=some ⟨ocl,odl,.func (fnOf "law" "law" (DG Lw) (Cz Lw) (Aj Lw) .none kVl dcl pml anl cdl ctl),sll⟩) (cl:codeIn K cdl "law"=true) (kl:keepIn K (.ref fl)=true)
  (pg:plainGet K C Str.empty=true) (hd:hasDictIn K C=true) (po:PySem.W.plainOver K C=true) (sa:findIn K (.ref C) "__setattr__"=some (some (.builtin "object.__setattr__"))) (mk:makesIn K C=true) (kc:keepIn K (.ref C)=true)
  (n0:findIn K (.ref C) "plan"=some none)
  (n1:findIn K (.ref C) "states"=some none)
  (n2:findIn K (.ref C) "filled"=some none)
  (n3:findIn K (.ref C) "gaps"=some none)
  (z0:nsIn K mainGlobals "isinstance"=some none)
  (z1:nsIn K mainGlobals "int"=some none)
  (z2:nsIn K mainGlobals "bool"=some none)
  (z3:nsIn K mainGlobals "tuple"=some none)
  (z4:nsIn K mainGlobals "list"=some none)
  (z5:nsIn K mainGlobals "str"=some none)
  (z6:nsIn K mainGlobals "len"=some none)
  (z7:nsIn K mainGlobals "all"=some none)
  (z8:nsIn K mainGlobals "abs"=some none)
  (z9:nsIn K mainGlobals "max"=some none)
  (z10:nsIn K mainGlobals "min"=some none)
  (z11:nsIn K mainGlobals "range"=some none)
  (z12:nsIn K mainGlobals "sorted"=some none)
  (z13:nsIn K mainGlobals "any"=some none)
  (z14:nsIn K mainGlobals "sum"=some none)
  (z15:nsIn K mainGlobals "enumerate"=some none)
  (z16:nsIn K mainGlobals "zip"=some none)
  (z17:nsIn K mainGlobals "reversed"=some none)
  (z18:nsIn K mainGlobals "dict"=some none)
  (z19:nsIn K mainGlobals "ord"=some none)
  {op oe:Addr} {odo ode:Option Addr} {no ne:Nat} {slo sle:YI} {tks tko:Tok} {kd wk:Addr} {odk odw:Option Addr} {nk nw:Nat} {slk slw:YI} {tq1 tq2 tq3 tq4 tq5 tq6 DM:Tok} {hc u0 u1 u2 u3 u4 u5 u6 u7 u8 u9 u10 u11 u12:Addr}
  (ao:nsIn K mainGlobals "OPENER"=some (some (.ref op)))
  (lo:K.lookup op=some ⟨.type "tuple",odo,.seq #[.str "opener" tks,.int 0 tko,.ref oe] no,slo⟩)
  (lq2:K.lookup oe=some ⟨.type "tuple",ode,.seq #[] ne,sle⟩)
  (aKd:nsIn K mainGlobals "KINDS"=some (some (.ref kd)))
  (lKd:K.lookup kd=some ⟨.type "tuple",odk,.seq #[.str "seeker" tq1,.str "knob" tq2,.str "bell" tq3,.str "door" tq4] nk,slk⟩)
  (aWk:nsIn K mainGlobals "WARNING_KINDS"=some (some (.ref wk)))
  (lWk:K.lookup wk=some ⟨.type "tuple",odw,.seq #[.str "seeker" tq5,.str "knob" tq6] nw,slw⟩)
  (aSL:nsIn K mainGlobals "SMALL_LETTERS"=some (some (.str "abcdefghijklmnopqrstuvwxyz" DM)))
  (xzv:nsIn K mainGlobals "ValueError"=some none)
  (xeh:nsIn K mainGlobals "HouseError"=some (some (.ref hc)))
  (xe0:nsIn K mainGlobals "NoPlan"=some (some (.ref u0)))
  (xe1:nsIn K mainGlobals "NoText"=some (some (.ref u1)))
  (xe2:nsIn K mainGlobals "NoStretch"=some (some (.ref u2)))
  (xe3:nsIn K mainGlobals "NoSpot"=some (some (.ref u3)))
  (xe4:nsIn K mainGlobals "NoOpener"=some (some (.ref u4)))
  (xe5:nsIn K mainGlobals "NoAddress"=some (some (.ref u5)))
  (xe6:nsIn K mainGlobals "NoRules"=some (some (.ref u6)))
  (xe7:nsIn K mainGlobals "NoHand"=some (some (.ref u7)))
  (xe8:nsIn K mainGlobals "NoPanel"=some (some (.ref u8)))
  (xe9:nsIn K mainGlobals "NoLink"=some (some (.ref u9)))
  (o9:nsIn K mainGlobals "NoLog"=some (some (.ref u10)))
  (o8:nsIn K mainGlobals "NoDeed"=some (some (.ref u11)))
  (o7:nsIn K mainGlobals "NoRow"=some (some (.ref u12)))
  (xhx:excIn K hc [.type "ValueError",.type "Exception",.type "BaseException",.type "object"] "ValueError.__new__"=true)
  (xha:findIn K (.ref hc) "__getattribute__"=some (some (.builtin "BaseException.__getattribute__")))
  (xhn:findIn K (.ref hc) "__getattr__"=some none)
  (xhc:findIn K (.ref hc) "__class__"=some (some (.builtin "object.__class__")))
  (xho:subIn K (.ref hc) (.type "object")=some true)
  (xhb:subIn K (.ref hc) (.type "BaseException")=some true)
  (xhk:keepIn K (.ref hc)=true)
  (sW:excIn K u2 [.type "ValueError",.type "Exception",.type "BaseException",.type "object"] "ValueError.__new__"=true)
  (tO:findIn K (.ref u2) "__getattribute__"=some (some (.builtin "BaseException.__getattribute__")))
  (tG:findIn K (.ref u2) "__getattr__"=some none)
  (tK:findIn K (.ref u2) "__class__"=some (some (.builtin "object.__class__")))
  (tD:subIn K (.ref u2) (.type "object")=some true)
  (tL:subIn K (.ref u2) (.type "BaseException")=some true)
  (tH:keepIn K (.ref u2)=true)
  (rR:subIn K (.ref u2) (.ref hc)=some true)
  (sO:kitOne K (.ref u2) (.ref u0)=some false)
  (sJ:kitOne K (.ref u2) (.ref u1)=some false)
  (sI:kitOne K (.ref u2) (.ref u2)=some true)
  (sH:kitOne K (.ref u2) (.ref u3)=some false)
  (sG:kitOne K (.ref u2) (.ref u4)=some false)
  (sy:kitOne K (.ref u2) (.ref u5)=some false)
  (su:kitOne K (.ref u2) (.ref u6)=some false)
  (rZ:kitOne K (.ref u2) (.ref u7)=some false)
  (rY:kitOne K (.ref u2) (.ref u8)=some false)
  (rW:kitOne K (.ref u2) (.ref u9)=some false)
  (iD:kitOne K (.ref u2) (.ref u10)=some false)
  (iC:kitOne K (.ref u2) (.ref u11)=some false)
  (iB:kitOne K (.ref u2) (.ref u12)=some false)
  (rT:kitOne K (.ref u2) (.type "ValueError")=some true)
  (rJ:excIn K u4 [.type "ValueError",.type "Exception",.type "BaseException",.type "object"] "ValueError.__new__"=true)
  (rQ:findIn K (.ref u4) "__getattribute__"=some (some (.builtin "BaseException.__getattribute__")))
  (rM:findIn K (.ref u4) "__getattr__"=some none)
  (rO:findIn K (.ref u4) "__class__"=some (some (.builtin "object.__class__")))
  (rK:subIn K (.ref u4) (.type "object")=some true)
  (rP:subIn K (.ref u4) (.type "BaseException")=some true)
  (rN:keepIn K (.ref u4)=true)
  (qW:subIn K (.ref u4) (.ref hc)=some true)
  (rG:kitOne K (.ref u4) (.ref u0)=some false)
  (rF:kitOne K (.ref u4) (.ref u1)=some false)
  (rE:kitOne K (.ref u4) (.ref u2)=some false)
  (rD:kitOne K (.ref u4) (.ref u3)=some false)
  (rC:kitOne K (.ref u4) (.ref u4)=some true)
  (rB:kitOne K (.ref u4) (.ref u5)=some false)
  (rA:kitOne K (.ref u4) (.ref u6)=some false)
  (rm:kitOne K (.ref u4) (.ref u7)=some false)
  (qZ:kitOne K (.ref u4) (.ref u8)=some false)
  (qY:kitOne K (.ref u4) (.ref u9)=some false)
  (iz:kitOne K (.ref u4) (.ref u10)=some false)
  (iw:kitOne K (.ref u4) (.ref u11)=some false)
  (iu:kitOne K (.ref u4) (.ref u12)=some false)
  (qX:kitOne K (.ref u4) (.type "ValueError")=some true)
  : ∃fd:FuncData,(∀(s:Shared) (v:Value),BindsTo s fd ⟨[v],[]⟩ [("_law_script",v)])/\∀base:Heap,K.In base->base.Ns mainGlobals mg->Gj l.prog w K mg base CX0 13 fa fd ["_law_script"] (Xx K):=by
 have e:=hfa.symm.trans (mg_of X G al)
 cases e
 have TN:Nm mg:=⟨mg_none_of X G z0,mg_none_of X G z1,mg_none_of X G z2,mg_none_of X G z3,mg_none_of X G z4,mg_none_of X G z5,mg_none_of X G z6,mg_none_of X G z7,mg_none_of X G z8,mg_none_of X G z9,mg_none_of X G z10,mg_none_of X G z11,mg_none_of X G z12,mg_none_of X G z13,mg_none_of X G z14,mg_none_of X G z15,mg_none_of X G z16,mg_none_of X G z17,mg_none_of X G z18,mg_none_of X G z19⟩
 have TX:Tx K mg op oe:=⟨TN,⟨_,mg_of X G ao,rfl⟩,λH=>.inr ⟨_,_,_,lo,rfl,rfl,(by show 3<=sizeLine;decide),.cons ⟨_,rfl⟩ (.cons ⟨_,rfl⟩ (.cons rfl .nil))⟩,λH=>.inr ⟨_,_,_,lq2,rfl,rfl,(by show 0<=sizeLine;decide),.nil⟩⟩
 have TY:Ty K mg op oe kd wk:={ toTx:=TX,KINDS:=⟨_,mg_of X G aKd,rfl⟩,kdT:=λH=>.inr ⟨_,_,_,lKd,rfl,rfl,(by show 4<=sizeLine;decide),.cons ⟨_,rfl⟩ (.cons ⟨_,rfl⟩ (.cons ⟨_,rfl⟩ (.cons ⟨_,rfl⟩ .nil)))⟩,WARNING_KINDS:=⟨_,mg_of X G aWk,rfl⟩,wkT:=λH=>.inr ⟨_,_,_,lWk,rfl,rfl,(by show 2<=sizeLine;decide),.cons ⟨_,rfl⟩ (.cons ⟨_,rfl⟩ .nil)⟩,SMALL_LETTERS:=⟨_,mg_of X G aSL,⟨_,rfl⟩⟩ }
 have T:Tw K mg op oe kd wk C:={ toTy:=TY,cl:=⟨pg,hd,po,sa⟩,mgC:=mg_of X G aC,lO:=n0,Hg:=n1,Zu:=n2,K5:=n3 }
 have XE:Er K mg hc u0 u1 u2 u3 u4 u5 u6 u7 u8 u9 u10 u11 u12:=⟨mg_none_of X G xzv,mg_of X G xeh,⟨xhx,xha,xhn,xhc,xho,xhb,xhk⟩,mg_of X G xe0,mg_of X G xe1,mg_of X G xe2,mg_of X G xe3,mg_of X G xe4,mg_of X G xe5,mg_of X G xe6,mg_of X G xe7,mg_of X G xe8,mg_of X G xe9,mg_of X G o9,mg_of X G o8,mg_of X G o7⟩
 have Oo:Knd K hc u2 [u0,u1,u2,u3,u4,u5,u6,u7,u8,u9,u10,u11,u12] 2:=⟨⟨sW,tO,tG,tK,tD,tL,tH⟩,rR,vA (j:=2) sO sJ sI sH sG sy su rZ rY rW iD iC iB,rT⟩
 have Fy:Knd K hc u4 [u0,u1,u2,u3,u4,u5,u6,u7,u8,u9,u10,u11,u12] 4:=⟨⟨rJ,rQ,rM,rO,rK,rP,rN⟩,qW,vA (j:=4) rG rF rE rD rC rB rA rm qZ qY iz iw iu,qX⟩
 have jo:=m0.init (ps:=EY) mk kc (fn2 rfl (by intros;rfl))
 have Vf:=m1.code (ps:=Cj) (fn2 rfl (by intros;rfl))
 have DC:=m2.code (ps:=Ig) (fn2 rfl (by intros;rfl))
 have yF:=m3.code (ps:=Gw) (fn2 rfl (by intros;rfl))
 have BQ:=m4.code (ps:=G9) (fn2 rfl (by intros;rfl))
 have uM:=m5.code (ps:=Ge) (fn1 rfl (by intros;rfl))
 have DD:=m6.code (ps:=GJ) (fn2 rfl (by intros;rfl))
 have yG:=m7.code (ps:=Gx) (fn1 rfl (by intros;rfl))
 have Vj:=i0.code (ps:=Fv) X G (fn1 rfl (by intros;rfl))
 have cu:=i1.code (ps:=Eo) X G (fn3 rfl (by intros;rfl))
 have uV:=i2.code (ps:=Dn) X G (fn3 rfl (by intros;rfl))
 have aU:=i3.code (ps:=Gd) X G (fn2 rfl (by intros;rfl))
 have cA:=i4.code (ps:=HN) X G (fn1 rfl (by intros;rfl))
 have Qv:=i5.code (ps:=Dw) X G (fn5 rfl (by intros;rfl))
 have oW:=i6.code (ps:=KZ) X G (fn1 rfl (by intros;rfl))
 have cC:=i7.code (ps:=GF) X G (fn2 rfl (by intros;rfl))
 have Ua:=i8.code (ps:=Ey) X G (fn1 rfl (by intros;rfl))
 have oU:=i9.code (ps:=KR) X G (fn1 rfl (by intros;rfl))
 have jx:=i10.code (ps:=Jw) X G (fn1 rfl (by intros;rfl))
 have oX:=i11.code (ps:=K1) X G (fn1 rfl (by intros;rfl))
 have oR:=i12.code (ps:=KQ) X G (fn1 rfl (by intros;rfl))
 have cG:=i13.code (ps:=Ie) X G (fn1 rfl (by intros;rfl))
 have cF:=i14.code (ps:=Ib) X G (fn1 rfl (by intros;rfl))
 have oV:=i15.code (ps:=KY) X G (fn1 rfl (by intros;rfl))
 have Vi:=i16.code (ps:=Eb) X G (fn3 rfl (by intros;rfl))
 have oY:=i17.code (ps:=Gn) X G (fn1 rfl (by intros;rfl))
 have cg:=i18.code (ps:=Hz) X G (fn1 rfl (by intros;rfl))
 have oJ:=i19.code (ps:=KC) X G (fn1 rfl (by intros;rfl))
 have yI:=i20.code (ps:=OD) X G (fn2 rfl (by intros;rfl))
 have Vk:=i21.code (ps:=Fw) X G (fn1 rfl (by intros;rfl))
 have Wd:=i22.code (ps:=Gb) X G (fn1 rfl (by intros;rfl))
 have Ri:=i23.code (ps:=DW) X G (fn1 rfl (by intros;rfl))
 have Uc:=i24.code (ps:=Ez) X G (fn1 rfl (by intros;rfl))
 have yH:=i25.code (ps:=Oz) X G (fn1 rfl (by intros;rfl))
 have cB:=i26.code (ps:=HW) X G (fn1 rfl (by intros;rfl))
 have Xu:=i27.code (ps:=Gu) X G (fn3 rfl (by intros;rfl))
 have oZ:=i28.code (ps:=K3) X G (fn4 rfl (by intros;rfl))
 have cD:=i29.code (ps:=Ia) X G (fn2 rfl (by intros;rfl))
 have Ub:=i30.code (ps:=Dz) X G (fn3 rfl (by intros;rfl))
 have jy:=i31.code (ps:=Jx) X G (fn2 rfl (by intros;rfl))
 have yJ:=i32.code (ps:=OJ) X G (fn2 rfl (by intros;rfl))
 have uO:=i33.code (ps:=Ew) X G (fn2 rfl (by intros;rfl))
 have uQ:=i34.code (ps:=M7) X G (fn1 rfl (by intros;rfl))
 have oM:=i35.code (ps:=KH) X G (fn2 rfl (by intros;rfl))
 have uR:=i36.code (ps:=M8) X G (fn3 rfl (by intros;rfl))
 have oK:=i37.code (ps:=KD) X G (fn1 rfl (by intros;rfl))
 have uP:=i38.code (ps:=M6) X G (fn3 rfl (by intros;rfl))
 have uT:=i39.code (ps:=M9) X G (fn1 rfl (by intros;rfl))
 have uN:=i40.code (ps:=M5) X G (fn6 rfl (by intros;rfl))
 have oN:=i41.code (ps:=KJ) X G (fn1 rfl (by intros;rfl))
 have oO:=i42.code (ps:=KN) X G (fn4 rfl (by intros;rfl))
 have Xv:=i43.code (ps:=Gv) X G (fn1 rfl (by intros;rfl))
 have jw:=i44.code (ps:=Jv) X G (fn4 rfl (by intros;rfl))
 have uU:=i45.code (ps:=Nb) X G (fn6 rfl (by intros;rfl))
 have cj:=i46.code (ps:=HF) X G (fn2 rfl (by intros;rfl))
 have DF:=U9 (st:=Lw) ll cl kl
 refine⟨fnOf "law" "law" (DG Lw) (Cz Lw) (Aj Lw) .none kVl dcl pml anl cdl ctl,λs v=>.of_eq rfl,λbase _ _=>?_⟩
 have RK:=qD (P:=l.prog) (w:=w) (base:=base) yJ TN
 have Bm:=lG (P:=l.prog) (w:=w) (base:=base) uO TN
 have h_kind:=wY (P:=l.prog) (w:=w) (base:=base) uT TN XE
 have C7:=Q0 (P:=l.prog) (w:=w) (base:=base) Vj TN
 have KA:=bA (P:=l.prog) (w:=w) (base:=base) Vj TN
 have iQ:=Zh (P:=l.prog) (w:=w) (base:=base) cu TN KA
 have Oq:=lH (P:=l.prog) (w:=w) (base:=base) uV TN
 have A5:=Xj (P:=l.prog) (w:=w) (base:=base) aU TN C7 Oq
 have IZ:=Zi (P:=l.prog) (w:=w) (base:=base) cA TY
 have IY:=Xk (P:=l.prog) (w:=w) (base:=base) Qv TY Oq iQ IZ
 have JY:=gK (P:=l.prog) (w:=w) (base:=base) oW TY
 have A4:=Zk (P:=l.prog) (w:=w) (base:=base) cC TY iQ
 have IX:=RW (P:=l.prog) (w:=w) (base:=base) Ua TY Oq A4
 have IS:=gH (P:=l.prog) (w:=w) (base:=base) oU TY Oq IX
 have JO:=bC (P:=l.prog) (w:=w) (base:=base) jx TY Oq iQ A4 IS
 have Kk:=gM (P:=l.prog) (w:=w) (base:=base) oX TY Oq JO
 have IO:=gG (P:=l.prog) (w:=w) (base:=base) oR TY Oq JY IY
 have Kj:=Zo (P:=l.prog) (w:=w) (base:=base) cG TY Oq Kk
 have IN:=Zn (P:=l.prog) (w:=w) (base:=base) cF TY Oq IO
 have A3:=Tg (P:=l.prog) (w:=w) (base:=base) Vi TX
 have iW:=gO (P:=l.prog) (w:=w) (base:=base) oY TX A3
 have IR:=Zg (P:=l.prog) (w:=w) (base:=base) cg TX
 have JP:=gF (P:=l.prog) (w:=w) (base:=base) oJ TX
 have JA:=qz (P:=l.prog) (w:=w) (base:=base) yI TX A3
 have JJ:=gJ (P:=l.prog) (w:=w) (base:=base) oV TY Oq iQ Kj IN iW
 have KL:=Tj (P:=l.prog) (w:=w) (base:=base) Vk TY iW
 have KI:=Ux (P:=l.prog) (w:=w) (base:=base) Wd TY JA
 have KM:=Qs (P:=l.prog) (w:=w) (base:=base) Ri TY iW
 have IU:=RZ (P:=l.prog) (w:=w) (base:=base) Uc TY
 have IP:=qu (P:=l.prog) (w:=w) (base:=base) yH TY KL KI KM IU
 have Kx:=Zj (P:=l.prog) (w:=w) (base:=base) cB TY JJ IP
 have ux:=Ti (P:=l.prog) (w:=w) (base:=base) Vf T XE Oo A5
 have KG:=An (P:=l.prog) (w:=w) (base:=base) DC T ux
 have IT:=qx (P:=l.prog) (w:=w) (base:=base) yF T ux
 have Ki:=wW (P:=l.prog) (w:=w) (base:=base) BQ T ux
 have KB:=qF (P:=l.prog) (w:=w) (base:=base) jo T Kx IR iW JP
 have C4:=VF (P:=l.prog) (w:=w) (base:=base) Xu T
 have C9:=gP (P:=l.prog) (w:=w) (base:=base) oZ T C4
 have C8:=Zm (P:=l.prog) (w:=w) (base:=base) cD T
 have vL:=RX (P:=l.prog) (w:=w) (base:=base) Ub T C9 C8
 have Da:=bD (P:=l.prog) (w:=w) (base:=base) jy T vL
 have C5:=qy (P:=l.prog) (w:=w) (base:=base) yG T Da
 have C6:=lF (P:=l.prog) (w:=w) (base:=base) uM T
 have vM:=Ap (P:=l.prog) (w:=w) (base:=base) DD T XE Fy A5 vL
 have Kb:=wV (P:=l.prog) (w:=w) (base:=base) uQ TN Bm
 have JU:=qC (P:=l.prog) (w:=w) (base:=base) oM TN Kb
 have Kt:=wX (P:=l.prog) (w:=w) (base:=base) uR TN Bm
 have JE:=lE (P:=l.prog) (w:=w) (base:=base) oK TN
 have JI:=wU (P:=l.prog) (w:=w) (base:=base) uP TN Bm Kt JE JU
 have KE:=qG (P:=l.prog) (w:=w) (base:=base) oN T
 have C1:=qw (P:=l.prog) (w:=w) (base:=base) Xv T
 have IQ:=wR (P:=l.prog) (w:=w) (base:=base) uN T
 have KF:=qH (P:=l.prog) (w:=w) (base:=base) oO T IQ
 have KK:=lJ (P:=l.prog) (w:=w) (base:=base) jw T Bm KG IT Ki
 have KO:=wZ (P:=l.prog) (w:=w) (base:=base) uU T Bm KF vM C5
 have Jn:=gD (P:=l.prog) (w:=w) (base:=base) cj T XE Fy Bm vM h_kind
 exact zZ DF T RK Bm JI KB KE C1 KK KO Jn C6
theorem walk {l:PySem.W.OpenLaw} {q:Program} {loose:YF} {XP:(YB)->Heap->Prop} {YP:World->Heap->Prop} {d:DefRec} {K:Params->YD} (hn:l.most=some 63) (hdf:d.params.defaults=[])
  (hY:∀(w:World) (h:Heap),YP w h->(K w.params).In h)
  (F:∀(w:World) (mg:YB) (fa:Addr) (h:Heap),(K w.params).In h->h.Ns mainGlobals mg->mg d.name=some (.ref fa) ->
   ∃fd:FuncData,(∀(s:Shared) (u:Value),BindsTo s fd ⟨[u],[]⟩ [("_law_script",u)])/\∀base:Heap,(K w.params).In base->base.Ns mainGlobals mg->Gj l.prog w (K w.params) mg base CX0 13 fa fd ["_law_script"] (Xx (K w.params))) :
  PySem.W.WalkO q loose XP YP l.row.toRowW d [] (λf vs=>PySem.call f vs):=
 L2.vZ (n:=63) (k:=13) (x:="_law_script") (CX:=λ_=>CX0) (sp:=λw=>Xx (K w.params)) hn (by decide) hdf ⟨rfl,by decide,by decide⟩ hY F (λ_ _ a ns hl _ hS=>⟨a,ns,rfl,hS,hl,λ_=>rfl⟩) λ_ _ _ _ _ z=>z
end K08
/-! names that stay free of quick twins: the head comes through without them, and the compiled text is much smaller -/
namespace PySem.W.Fast
def tw2216052185718299076:=0
def tw17852381222449056749:=0
def tw85581970579906360:=0
def tw10787583461633824854:=0
def tw17729907487144941957:=0
def tw15283539016154740072:=0
def tw11956901112893845762:=0
def tw8130147577928309018:=0
def tw7456236099264040658:=0
def tw2277378732950988488:=0
def tw666454233934082385:=0
def tw17472055841178501665:=0
def tw14524561182130959008:=0
def tw7183704001452768830:=0
def tw13526641170226413052:=0
def tw12494440268274189332:=0
def tw569342908288203309:=0
def tw15885772312962329009:=0
def tw15252394911309775869:=0
def tw14698396245448230991:=0
def tw16381093088445983561:=0
def tw5666454296944155998:=0
def tw11795398466974391933:=0
def tw10215546673491788493:=0
def tw14903413836738079967:=0
def tw12043152615486204003:=0
def tw15760089872917149061:=0
def tw5242897391424828469:=0
def tw14694604459958507080:=0
def tw15232376811408945607:=0
def tw13297209788807624540:=0
def tw12197852105682357016:=0
def tw17041529170200914237:=0
def tw12861622946725673577:=0
def tw17278583735451398696:=0
def tw15977439097985003641:=0
def tw17148994128592984423:=0
def tw5682140587298751222:=0
def tw9605091118640814173:=0
def tw14025009895329249531:=0
def tw15395521202505800174:=0
def tw9863299909340961371:=0
def tw13063115009956083231:=0
def tw4695051398097762548:=0
def tw16529238644387694289:=0
def tw8691615996780215081:=0
def tw15906838761464887033:=0
def tw17696670169095973560:=0
def tw10149455935336352254:=0
def tw7538859108697534651:=0
def tw12795412691104696534:=0
def tw576567147830772962:=0
def tw12356478904445136381:=0
def tw1651918801828389960:=0
def tw6681455322429657340:=0
def tw6683919062001721092:=0
def tw15733178291927886471:=0
def tw14079326413322538254:=0
def tw807425889278076364:=0
def tw13334282350001847143:=0
def tw13610990874798095559:=0
def tw1919337509728178786:=0
def tw699645638968871873:=0
def tw8989332109295592299:=0
def tw14387854377256830421:=0
def tw126833645061820632:=0
def tw6190780630171639092:=0
def tw4990150477258295207:=0
def tw4231574229697603599:=0
def tw4036394681054344194:=0
def tw2442405670248916521:=0
def tw17689752801110272003:=0
def tw9991992423902307358:=0
def tw6376938752048903392:=0
def tw15372047748637702187:=0
def tw3567614796204400770:=0
def tw3811633368231256692:=0
def tw5635613342084659917:=0
def tw4244356962292269355:=0
def tw1225696247266926674:=0
def tw5970340003379336387:=0
def tw11921218867395108862:=0
def tw14438774829420268902:=0
def tw17591319479803280668:=0
def tw4413497047237576778:=0
def tw400767286470939089:=0
def tw17569857506148665033:=0
def tw17737371761765169766:=0
def tw15454531662775912066:=0
def tw2966751681731258073:=0
def tw15444519022867335153:=0
def tw13599349211776212808:=0
def tw254619743412238956:=0
def tw15028381596469291173:=0
def tw14747151094914972077:=0
def tw10069496881005986295:=0
def tw12231580030130197720:=0
def tw16235108540435769144:=0
def tw7600992121398466693:=0
def tw18117762381037287314:=0
def tw12033082121878920483:=0
def tw14073496762255178771:=0
def tw491974374645904378:=0
def tw3048591273011532922:=0
def tw13960899832522702110:=0
def tw416875251798708861:=0
def tw10330884051492426608:=0
def tw15136834562789923711:=0
def tw16170021483565151274:=0
def tw8238328712825723975:=0
def tw5679532848710110274:=0
def tw12970957950485547231:=0
def tw2084869525671977300:=0
def tw7467213324361269003:=0
def tw13304938215255415171:=0
def tw8121255678458522909:=0
def tw284130660993051509:=0
def tw8537566220820192979:=0
def tw10427491351858956002:=0
def tw4939550255849060084:=0
def tw16089517704665030181:=0
def tw16217766712709125249:=0
def tw8261830386736000220:=0
def tw3729729838932954474:=0
def tw14622576580374513863:=0
def tw18426587342490146710:=0
def tw6220240078734146888:=0
def tw1651390740060949336:=0
def tw2301495696237178302:=0
def tw4953337135149405581:=0
def tw7221178674245554796:=0
def tw7239196075334638043:=0
def tw8696798124414743216:=0
def tw14076295245899967355:=0
def tw10932625537598877329:=0
def tw16645671120748988722:=0
def tw1159360314560475425:=0
def tw8757567971972338447:=0
def tw7479473105241246119:=0
def tw2287358418398888755:=0
def tw9566156261427980145:=0
def tw4851603441954154730:=0
def tw7818244301471751288:=0
def tw13305968972482038234:=0
def tw75671967791864416:=0
def tw15661838744644055539:=0
def tw13857716815695685394:=0
def tw14931914974867691689:=0
def tw16399230814522261665:=0
def tw6523633519920015468:=0
def tw2502988940702651279:=0
def tw15067371336308717968:=0
def tw13303883393501840986:=0
def tw13100159536748927760:=0
def tw744694088509622837:=0
def tw18340778557212821617:=0
def tw16235772821188162737:=0
def tw6892012712014408463:=0
def tw14798408143516944112:=0
def tw17654957309706880802:=0
def tw18237206433293942397:=0
def tw16177513113877351766:=0
def tw15968533054313208489:=0
def tw13803454708857907693:=0
def tw11264279189626993005:=0
def tw3328606306530309837:=0
def tw17066411838475737453:=0
def tw14611888692563976602:=0
def tw10885839702166000038:=0
def tw7097880275410077399:=0
def tw6484822971984852246:=0
def tw6814868290860501066:=0
def tw6682628436517816352:=0
def tw3914446037828864516:=0
def tw8578159612565248017:=0
def tw4676081617192877865:=0
def tw5593088380331348650:=0
end PySem.W.Fast
open PySem PySem.W PyProof.Rows
set_option maxRecDepth 100000 in
set_option maxHeartbeats 0 in
theorem PySem.Challenge.cw_warnloop_k08_an_opener_acts_holds : PySem.Challenge.rw_warnloop_k08_an_opener_acts.Holds := by
 w_on;o_law;k_head;(case hw=>w_witness2)
 k_fill
 refine K08.walk (l:=PySem.Challenge.rw_warnloop_k08_an_opener_acts) rfl rfl (λw h Y=>PySem.W.kIn_of Y) ?F
 case F=>
  intro w mg fa h KX G hmg
  refine' K08.all_mk KX G hmg ?aC (.of ?am0 ?bm0 ?lm0 ?cm0 ?km0) (.of ?am1 ?bm1 ?lm1 ?cm1 ?km1) (.of ?am2 ?bm2 ?lm2 ?cm2 ?km2) (.of ?am3 ?bm3 ?lm3 ?cm3 ?km3) (.of ?am4 ?bm4 ?lm4 ?cm4 ?km4) (.of ?am5 ?bm5 ?lm5 ?cm5 ?km5) (.of ?am6 ?bm6 ?lm6 ?cm6 ?km6) (.of ?am7 ?bm7 ?lm7 ?cm7 ?km7) (.of ?ai0 ?li0 ?ci0 ?ki0) (.of ?ai1 ?li1 ?ci1 ?ki1) (.of ?ai2 ?li2 ?ci2 ?ki2) (.of ?ai3 ?li3 ?ci3 ?ki3) (.of ?ai4 ?li4 ?ci4 ?ki4) (.of ?ai5 ?li5 ?ci5 ?ki5) (.of ?ai6 ?li6 ?ci6 ?ki6) (.of ?ai7 ?li7 ?ci7 ?ki7) (.of ?ai8 ?li8 ?ci8 ?ki8) (.of ?ai9 ?li9 ?ci9 ?ki9) (.of ?NJ ?FG ?MA ?Ha) (.of ?NI ?FE ?My ?G2) (.of ?NH ?FD ?Mo ?G1) (.of ?NG ?FC ?Mn ?G0) (.of ?NF ?FB ?Mm ?GY) (.of ?NE ?FA ?Me ?GW) (.of ?ND ?Fu ?Md ?GV) (.of ?NC ?Fs ?Mc ?GU) (.of ?NB ?Fn ?Mb ?GT) (.of ?NA ?Fm ?L6 ?GS) (.of ?Nw ?Fk ?L5 ?GO) (.of ?No ?Fh ?L3 ?GN) (.of ?Nn ?Ff ?LX ?GM) (.of ?Nl ?Fc ?LW ?GL) (.of ?Nd ?Fa ?LV ?GI) (.of ?Nc ?E9 ?LU ?GH) (.of ?Na ?E8 ?LT ?GG) (.of ?M3 ?E7 ?LP ?GE) (.of ?M0 ?E6 ?LO ?GB) (.of ?MZ ?E5 ?LN ?GA) (.of ?MY ?E4 ?LJ ?Gr) (.of ?MX ?E3 ?LI ?Go) (.of ?MW ?E2 ?LH ?Gc) (.of ?MV ?EZ ?LG ?F9) (.of ?MU ?EW ?LF ?F7) (.of ?MT ?EV ?LE ?F6) (.of ?MS ?EU ?LD ?F5) (.of ?MR ?ET ?LB ?F3) (.of ?MQ ?ES ?LA ?FY) (.of ?MO ?ER ?Lv ?FX) (.of ?MM ?EQ ?Lu ?FV) (.of ?ML ?EO ?Lo ?FU) (.of ?MI ?EN ?Lm ?FS) (.of ?MH ?EM ?Ll ?FR) (.of ?MG ?EL ?Lc ?FO) (.of ?ME ?EK ?K2 ?FM) (.of ?MD ?EJ ?K0 ?FL) ?al ?ll ?cl ?kl ?pg ?hd ?po ?sa ?mk ?kc ?n0 ?n1 ?n2 ?n3 ?z0 ?z1 ?z2 ?z3 ?z4 ?z5 ?z6 ?z7 ?z8 ?z9 ?z10 ?z11 ?z12 ?z13 ?z14 ?z15 ?z16 ?z17 ?z18 ?z19 ?ao ?lo ?lq2 ?aKd ?lKd ?aWk ?lWk ?aSL ?xzv ?xeh ?xe0 ?xe1 ?xe2 ?xe3 ?xe4 ?xe5 ?xe6 ?xe7 ?xe8 ?xe9 ?o9 ?o8 ?o7 ?xhx ?xha ?xhn ?xhc ?xho ?xhb ?xhk ?sW ?tO ?tG ?tK ?tD ?tL ?tH ?rR ?sO ?sJ ?sI ?sH ?sG ?sy ?su ?rZ ?rY ?rW ?iD ?iC ?iB ?rT ?rJ ?rQ ?rM ?rO ?rK ?rP ?rN ?qW ?rG ?rF ?rE ?rD ?rC ?rB ?rA ?rm ?qZ ?qY ?iz ?iw ?iu ?qX
  (case aC | am0 | bm0 | lm0 | cm0 | km0 | am1 | bm1 | lm1 | cm1 | km1 | am2 | bm2 | lm2 | cm2 | km2 | am3 | bm3 | lm3 | cm3 | km3 | am4 | bm4 | lm4 | cm4 | km4 | am5 | bm5 | lm5 | cm5 | km5 | am6 | bm6 | lm6 | cm6 | km6 | am7 | bm7 | lm7 | cm7 | km7 | ai0 | li0 | ci0 | ki0 | ai1 | li1 | ci1 | ki1 | ai2 | li2 | ci2 | ki2 | ai3 | li3 | ci3 | ki3 | ai4 | li4 | ci4 | ki4 | ai5 | li5 | ci5 | ki5 | ai6 | li6 | ci6 | ki6 | ai7 | li7 | ci7 | ki7 | ai8 | li8 | ci8 | ki8 | ai9 | li9 | ci9 | ki9 | NJ | FG | MA | Ha | NI | FE | My | G2 | NH | FD | Mo | G1 | NG | FC | Mn | G0 | NF | FB | Mm | GY | NE | FA | Me | GW | ND | Fu | Md | GV | NC | Fs | Mc | GU | NB | Fn | Mb | GT | NA | Fm | L6 | GS | Nw | Fk | L5 | GO | No | Fh | L3 | GN | Nn | Ff | LX | GM | Nl | Fc | LW | GL | Nd | Fa | LV | GI | Nc | E9 | LU | GH | Na | E8 | LT | GG | M3 | E7 | LP | GE | M0 | E6 | LO | GB | MZ | E5 | LN | GA | MY | E4 | LJ | Gr | MX | E3 | LI | Go | MW | E2 | LH | Gc | MV | EZ | LG | F9 | MU | EW | LF | F7 | MT | EV | LE | F6 | MS | EU | LD | F5 | MR | ET | LB | F3 | MQ | ES | LA | FY | MO | ER | Lv | FX | MM | EQ | Lu | FV | ML | EO | Lo | FU | MI | EN | Lm | FS | MH | EM | Ll | FR | MG | EL | Lc | FO | ME | EK | K2 | FM | MD | EJ | K0 | FL=>k_is)
  (case al | ll | cl | kl | pg | hd | po | sa | mk | kc | n0 | n1 | n2 | n3 | z0 | z1 | z2 | z3 | z4 | z5 | z6 | z7 | z8 | z9 | z10 | z11 | z12 | z13 | z14 | z15 | z16 | z17 | z18 | z19 | ao | lo | lq2 | aKd | lKd | aWk | lWk | aSL | xzv | xeh | xe0 | xe1 | xe2 | xe3 | xe4 | xe5 | xe6 | xe7 | xe8 | xe9 | o9 | o8 | o7=>k_is)
  (case xhx=>k_exc)
  (case xha | xhn | xhc | xho | xhb | xhk=>k_is)
  (case sW=>k_exc)
  (case tO | tG | tK | tD | tL | tH | rR=>k_is)
  (case sO | sJ | sI | sH | sG | sy | su | rZ | rY | rW | iD | iC | iB | rT=>kit_is)
  (case rJ=>k_exc)
  (case rQ | rM | rO | rK | rP | rN | qW=>k_is)
  (case rG | rF | rE | rD | rC | rB | rA | rm | qZ | qY | iz | iw | iu | qX=>kit_is)
