import PyProof.Rows.All
import Wide.All
import OpenK.AllK
import Wide.FinOn
import Lean
import PyProof.EqAt
import PyProof.EqKinds
import PyProof.TupleCall
import PySem.Challenge.RW_warnloop_k11_whole_heard_by_ways
set_option linter.all false
set_option Elab.async false
set_option maxRecDepth 100000
set_option maxHeartbeats 4000000
abbrev YA:=PySem.Value→PySem.Shared→Prop
abbrev YH:=Unit→PySem.Shared→Prop
abbrev YB:=PySem.Str→Option PySem.Value
abbrev YC:=List (PySem.Addr×PySem.Obj)
abbrev YD:=PySem.W.Frag
abbrev YI:=Array (Option PySem.Value)
abbrev YE:=List PySem.Value
abbrev YF:=List PySem.Str
abbrev YJ:=List PySem.Expr
abbrev YK:=Array PySem.DictEntry
theorem rq{α:Sort _}{a:α}:a=a:=rfl
local macro_rules|`(tactic|trivial)=>`(tactic|decide +kernel)
local macro_rules | `(tactic|ac_rfl) => `(tactic|exact ⟨rfl,rfl,rfl,by decide +kernel,rfl,by decide +kernel,by decide +kernel⟩)
open PySem.W (instObj lookIn plainGet hasDictIn findIn isFn makesIn emptyDict keepIn kitOne kia_one fnOf codeIn nsIn mg_of kat_cons mg_none_of)
abbrev Qaa:=@PyProof.Rows.slot_tupleiter_next
abbrev Qab:=@PyProof.Rows.slot_tuple_getitem
abbrev Qac:=@PySem.F.slot_dict_itemiterator_next
abbrev Qad:=@PySem.F.slot_dict_keyiterator_next
abbrev Qae:=@PyProof.Rows.callWith_type1
abbrev Qaf:=@Array.getElem?_eq_some_iff
abbrev Qag:=@List.nodup_iff_pairwise_ne
abbrev Qah:=@List.getElem?_eq_some_iff
abbrev Qai:=@Classical.byContradiction
abbrev Qaj:=@List.drop_eq_getElem_cons
abbrev Qak:=@List.pairwise_iff_getElem
abbrev Qal:=@List.mem_of_find?_eq_some
abbrev Qam:=@List.getElem?_eq_getElem
abbrev Qan:=@PySem.F.slot_list_append
abbrev Qao:=@PySem.F.type_list_append
abbrev Qap:=@PySem.F.slot_list_extend
abbrev Qaq:=@PySem.F.type_list_extend
abbrev Qar:=@PySem.F.plainAttrs_list
abbrev Qas:=@PySem.wpAny_callSpecial?_slot
abbrev Qat:=@List.filter_cons_of_neg
abbrev Qau:=@List.filter_cons_of_pos
abbrev Qav:=@PySem.wpAny_getItem_str_slice
abbrev Qaw:=@List.pairwise_singleton
abbrev Qax:=@PySem.Heap.get?_push_of_some
abbrev Qay:=@List.find?_cons_of_neg
abbrev Qaz:=@List.find?_cons_of_pos
abbrev QaA:=@Option.map_eq_some_iff
abbrev QaB:=@PySem.Heap.get?_update_other
abbrev QaC:=@PySem.Calls.callWith_builtin
abbrev QaD:=@List.length_pos_of_mem
abbrev QaE:=@List.mem_append_right
abbrev QaF:=@List.length_singleton
abbrev QaG:=@PySem.Heap.get?_update_self
abbrev QaH:=@PySem.F.slot_dict_get
abbrev QaI:=@List.mem_of_getElem?
abbrev QaJ:=@List.mem_cons_of_mem
abbrev QaK:=@List.mem_append_left
abbrev QaL:=@List.getElem?_of_mem
abbrev QaM:=@PySem.Heap.get?_push_size
abbrev QaN:=@beq_eq_false_iff_ne
abbrev QaO:=@List.map_congr_left
abbrev QaP:=@Array.length_toList
abbrev QaQ:=@List.flatMap_append
abbrev QaR:=@PySem.Heap.SameBut.update
abbrev QaS:=@PySem.mem_of_lookup
abbrev QaT:=@Int.toNat_of_nonneg
abbrev QaU:=@List.length_append
abbrev QaV:=@List.mem_cons_self
abbrev QaW:=@Bool.false_ne_true
abbrev QaX:=@List.set_cons_zero
abbrev QaY:=@List.set_cons_succ
abbrev Qba:=@Nat.lt_of_lt_of_le
abbrev Qbb:=@List.mem_singleton
abbrev Qbc:=@PySem.wpAny_pyIter_tuple
abbrev Qbd:=@PySem.wpAny_setField_rec
abbrev Qbe:=@decide_eq_true_iff
abbrev Qbf:=@List.filter_append
abbrev Qbg:=@PySem.tupleKind_room_in1
abbrev Qbh:=@Int.emod_lt_of_pos
abbrev Qbi:=@PySem.Calls.spliced_cons
abbrev Qbj:=@PySem.wpAny_Call_Name_kw
abbrev Qbk:=@List.find?_eq_none
abbrev Qbl:=@List.size_toArray
abbrev Qbm:=@List.append_assoc
abbrev Qbn:=@List.getElem?_map
abbrev Qbo:=@Int.toNat_natCast
abbrev Qbp:=@of_decide_eq_true
abbrev Qbq:=@PySem.wpAny_newObj_type
abbrev Qbr:=@List.flatMap_cons
abbrev Qbs:=@PySem.wpAny_truthy_bool
abbrev Qbt:=@PySem.wpAny_pyIter_list
abbrev Qbu:=@List.length_range
abbrev Qbv:=@List.pairwise_map
abbrev Qbw:=@List.nodup_append
abbrev Qbx:=@List.take_length
abbrev Qby:=@List.length_cons
abbrev Qbz:=@List.length_take
abbrev QbA:=@List.not_mem_nil
abbrev QbB:=@PySem.wpAny_call_entry
abbrev QbC:=@List.length_drop
abbrev QbD:=@Nat.lt_succ_self
abbrev QbE:=@Bool.and_eq_true
abbrev QbF:=@List.mem_flatMap
abbrev QbG:=@List.cons_append
abbrev QbH:=@List.length_map
abbrev QbI:=@List.map_append
abbrev QbJ:=@List.mem_append
abbrev QbK:=@List.append_nil
abbrev QbL:=@PySem.PassesOwn.never
abbrev QbM:=@decide_eq_false
abbrev QbN:=@Option.some.inj
abbrev QbO:=@List.mem_filter
abbrev QbP:=@List.nodup_cons
abbrev QbR:=@Bool.eq_iff_iff
abbrev QbT:=@PySem.wpAny_passesOwn
abbrev QbU:=@Nat.not_lt_zero
abbrev QbV:=@Int.emod_nonneg
abbrev QbW:=@List.find?_cons
abbrev QbX:=@List.nil_append
abbrev QbY:=@decide_eq_true
abbrev QbZ:=@PySem.Heap.size_push
abbrev Qca:=@List.nodup_nil
abbrev Qcb:=@List.mem_range
abbrev Qcc:=@PySem.wpAny_seqItems
abbrev Qcd:=@PySem.Paired.length
abbrev Qce:=@List.mem_cons
abbrev Qcf:=@List.map_cons
abbrev Qcg:=@Nat.lt_irrefl
abbrev Qch:=@PySem.wpAny_holding
abbrev Qci:=@List.any_cons
abbrev Qcj:=@PySem.wpAny_attempt
abbrev Qck:=@PySem.wpAny_standAt
abbrev Qcl:=@Bool.or_false
abbrev Qcn:=@List.mem_map
abbrev Qco:=@PySem.Heap.lt_size
abbrev Qcp:=@Nat.ne_of_lt
abbrev Qcq:=@List.map_map
abbrev Qcr:=@Nat.le_trans
abbrev Qcs:=@Nat.le_of_lt
abbrev Qct:=@Nat.ne_of_gt
abbrev Qcu:=@Int.zero_add
abbrev Qcv:=@List.map_nil
abbrev Qcw:=@Nat.le_refl
abbrev Qcx:=@Nat.zero_le
abbrev Qcy:=@PySem.Paired.snoc
abbrev Qcz:=@PySem.wpAny_field
abbrev QcA:=@PySem.sizeLine_eq
abbrev QcB:=@PySem.wpAny_bind
abbrev QcC:=@PySem.wpAny_pure
abbrev QcD:=@PySem.wpAny_mono
abbrev QcE:=@PyProof.Rows.take_snoc
abbrev QcF:=@or_false
namespace L2
open PySem PySem.Spec PyProof.Rows
abbrev Key:=Sum Int Str
def TF:Key->Value->Bool
 | .inl k,v=>Value.isInt k v
 | .inr x,v=>Value.isStrOf x v
def GV (w:World):Key->Int
 | .inl k=>hashInt k
 | .inr x=>hashStr w x
theorem Ej:∀{k:Key} {v:Value},TF k v=true->(∃i t,k=Sum.inl i/\v=Value.int i t)\/(∃x t,k=Sum.inr x/\v=Value.str x t)
 | .inl i,v,h=>by
  obtain⟨t,e⟩:=Value.isInt_shape (k:=i) (v:=v) h;exact .inl ⟨i,t,rq,e⟩
 | .inr x,v,h=>by
  obtain⟨t,e⟩:=Value.isStrOf_shape (x:=x) (v:=v) h;exact .inr ⟨x,t,rq,e⟩
theorem oJ (i:Int) (t:Tok):TF (.inl i) (.int i t)=true:=by simp[TF,Value.isInt]
theorem oH (x:Str) (t:Tok):TF (.inr x) (.str x t)=true:=by simp[TF,Value.isStrOf]
theorem AI (a b:Int):decide ((Sum.inl a:Key)=Sum.inl b)=(a == b):=by
 by_cases e:a=b
 ·subst e;simp
 ·have h:¬(Sum.inl a:Key)=Sum.inl b:=λq=>e (Sum.inl.inj q);rw[QbM h];exact (QaN.mpr e).symm
theorem AF (a b:Str):decide ((Sum.inr a:Key)=Sum.inr b)=decide (a=b):=by
 by_cases e:a=b
 ·subst e;simp
 ·have h:¬(Sum.inr a:Key)=Sum.inr b:=λq=>e (Sum.inr.inj q);rw[QbM h,QbM e]
theorem AH (a:Int) (b:Str):decide ((Sum.inl a:Key)=Sum.inr b)=false:=QbM (λq=>nomatch q)
theorem AG (a:Str) (b:Int):decide ((Sum.inr a:Key)=Sum.inl b)=false:=QbM (λq=>nomatch q)
def Bw (prog:Program) (w:World):PySem.KeyKind prog w Key where
 is:=TF
 hash:=GV w
 inj:=λv a b ha hb=>by
  rcases Ej ha with⟨i,t,rfl,rfl⟩|⟨x,t,rfl,rfl⟩
  ·rcases Ej hb with⟨j,u,rfl,e⟩|⟨y,u,rfl,e⟩
   ·injection e with e1 _;rw[e1]
   ·exact nomatch e
  ·rcases Ej hb with⟨j,u,rfl,e⟩|⟨y,u,rfl,e⟩
   ·exact nomatch e
   ·injection e with e1 _;rw[e1]
 byValue:=λk v h=>by
  rcases Ej h with⟨i,t,rfl,rfl⟩|⟨x,t,rfl,rfl⟩ <;> rfl
 pyHash:=λhv h=>by
  rcases Ej hv with⟨i,t,rfl,rfl⟩|⟨x,t,rfl,rfl⟩
  ·exact wpAny_pyHash_int h
  ·exact wpAny_pyHash_str h
 eqBool:=λhu hv h=>by
  rcases Ej hu with⟨i,t,rfl,rfl⟩|⟨x,t,rfl,rfl⟩
  ·rcases Ej hv with⟨j,u,rfl,rfl⟩|⟨y,u,rfl,rfl⟩
   ·rw[AI] at h;exact wpAny_eqBool_int h
   ·rw[AH] at h;exact SeqAt.EqAt.int_str i t y u _ _ _ _ h
  ·rcases Ej hv with⟨j,u,rfl,rfl⟩|⟨y,u,rfl,rfl⟩
   ·rw[AG] at h;exact SeqAt.EqAt.str_int x t j u _ _ _ _ h
   ·rw[AF] at h;exact wpAny_eqBool_str h
 «strs»:=λk x t v h=>by
  rcases Ej h with⟨i,u,rfl,e⟩|⟨y,u,rfl,e⟩
  ·exact nomatch e
  ·injection e with e1 _;subst e1;cases v <;> rfl
theorem dF (prog:Program) (w:World) (i:Int) (t:Tok):(Bw prog w).is (.inl i) (.int i t)=true:=oJ i t
theorem dD (prog:Program) (w:World) (x:Str) (t:Tok):(Bw prog w).is (.inr x) (.str x t)=true:=oH x t
inductive V where
 | non | bl (b:Bool) | int (i:Int) | str (x:Str) | byt (b:Array UInt8) | flt (b:UInt64) | ref (a:Addr) | ty (n:String)
 deriving DecidableEq
def RelV:V->Value->Prop
 | .non,u=>u=Value.none
 | .bl b,u=>u=Value.bool b
 | .int i,u=>∃t,u=Value.int i t
 | .str x,u=>∃t,u=Value.str x t
 | .byt b,u=>∃t,u=Value.bytes b t
 | .flt b,u=>∃t,u=Value.float b t
 | .ref a,u=>u=Value.ref a
 | .ty n,u=>u=Value.type n
abbrev YG:=List V
abbrev Vals:YG->YE->Prop:=Paired RelV
theorem Vals.length {xs:YG} {us:YE} (r:Vals xs us):xs.length=us.length:=Qcd r
theorem Vals.get:∀{xs:YG} {us:YE} {i:Nat} {x:V},Vals xs us->xs[i]?=some x->∃u,us[i]?=some u/\RelV x u
 | _,_,_,_,.nil,e=>by simp at e
 | _,_,0,_,.cons r _,e=>by simp at e;subst e;exact⟨_,rfl,r⟩
 | _,_,i+1,x,.cons _ t,e=>by
  obtain⟨u,h1,h2⟩:=Vals.get (i:=i) (x:=x) t (by simpa using e);exact⟨u,by simpa using h1,h2⟩
theorem Vals.set {x:V} {u:Value} (r:RelV x u):∀{xs:YG} {us:YE} (i:Nat),Vals xs us->Vals (xs.set i x) (us.set i u)
 | _,_,_,.nil=>.nil
 | _,_,0,.cons _ t=>.cons r t
 | _,_,i+1,.cons q t=>.cons q (Vals.set r i t)
theorem Vals.append:∀{xs ys:YG} {us ws:YE},Vals xs us->Vals ys ws->Vals (xs++ys) (us++ws)
 | _,_,_,_,.nil,s=>s
 | _,_,_,_,.cons r t,s=>.cons r (Vals.append t s)
theorem Vals.take:∀{xs:YG} {us:YE} (n:Nat),Vals xs us->Vals (xs.take n) (us.take n)
 | _,_,0,_=>.nil
 | _,_,_+1,.nil=>.nil
 | _,_,n+1,.cons r t=>.cons r (Vals.take n t)
theorem Vals.drop:∀{xs:YG} {us:YE} (n:Nat),Vals xs us->Vals (xs.drop n) (us.drop n)
 | _,_,0,r=>r
 | _,_,_+1,.nil=>.nil
 | _,_,n+1,.cons _ t=>Vals.drop n t
def Ht:Option V->Option Value->Prop
 | some v,some u=>RelV v u
 | none,none=>True
 | _,_=>False
def KV {κ : Type}:List (κ×V)->List (κ×Value)->Prop:=Paired λ(p:κ×V) (q:κ×Value)=>p.1=q.1/\RelV p.2 q.2
def kV:Key->V
 | .inl i=>.int i
 | .inr x=>.str x
inductive HO where
 | lst (xs:YG)
 | tup (xs:YG)
 | dK (kvs:List (Key×V)) | dT (kvs:List (List Key×V))
 | set (S:Int->Bool) (n:Nat)
 | ins (C dx:Addr) (fs:List (Str×V))
 | own (x:Addr)
 | xd (fs:List (Str×V))
 | met (f x:Addr)
 | rng (lo hi:Int)
 | frz (o:Obj) (u:HO)
 | tbl (ps:Array Value)
 | ext (φ : Heap->Prop)
abbrev Hp:=Addr->Option HO
def upd (H:Hp) (a:Addr) (o:HO):Hp:=λb=>if b=a then some o else H b
theorem Ab {H:Hp} {a:Addr} {o:HO}:upd H a o a=some o:=by unfold upd;rw[if_pos rfl]
theorem Ao {H:Hp} {a b:Addr} {o:HO} (h:b≠a):upd H a o b=H b:=by unfold upd;rw[if_neg h]
theorem Te {H:Hp} {a:Addr} {o u:HO}:upd (upd H a o) a u=upd H a u:=by
 funext b;unfold upd;split <;> rfl
theorem jJ {H:Hp} {a b:Addr} {o u:HO} (h:H a=some o) (h':H b=some u) (d:o≠u):a≠b:=by
 intro e;subst e;rw[h] at h';exact d (QbN h')
theorem Aw {H:Hp} {a b:Addr} {o:HO} (h:H a=some o) (h':H b=none):a≠b:=by
 intro e;subst e;rw[h] at h';cases h'
section
variable (P:Program) (w:World)
def BK (H:Hp) (h:Heap) (a:Addr):HO->Prop
 | .lst xs=>xs.length<=sizeLine/\∃(its:YE) (n:Nat),Vals xs its/\h.get? a=some { cls:=.type "list",data:=.seq its.toArray n }
 | .tup xs=>xs.length<=sizeLine/\∃its:YE,Vals xs its/\IsTup h a its.toArray
 | .dK kvs=>kvs.length<=sizeLine/\(a == sysModules)=false/\∃vs,KV kvs vs/\h.DictOf (Bw P w) a vs
 | .dT kvs=>kvs.length<=sizeLine/\(a == sysModules)=false/\∃xs:List (List Key×Addr×Value),
   Paired (λ(p:List Key×V) (q:List Key×Addr×Value)=>p.1=q.1/\H q.2.1=some (.tup (p.1.map kV))/\RelV p.2 q.2.2) kvs xs /\
   ∃o es ep,h.get? a=some o/\o.ExactDict/\o.data=.dict es ep/\es.toList=xs.map (entryOfKey (tupleKind (Bw P w)))/\(xs.map (·.1)).Nodup
 | .set S n=>h.SetOf (intKind P w) a S n
 | .ins C dx fs=>H dx=some (.own a)/\fs.length<=1000/\dx≠a/\h.get? a=some (instObj C dx) /\
   ∃mA,h.Ns1 dx mA/\(∀f,Ht (fs.lookup f) (mA f))/\PySem.Within mA (fs.map (·.1))
 | .own _=>∃o,h.get? a=some o
 | .xd fs=>∃mA,h.Ns1 a mA/\∀f,Ht (fs.lookup f) (mA f)
 | .rng lo hi=>∃t u v,h.get? a=some { cls:=.type "range",data:=.fields #[.int lo t,.int hi u,.int 1 v] }
 | .frz o u=>h.get? a=some o/\BK H h a u
 | .tbl ps=>h.get? a=some { cls:=.none,data:=.fields ps }
 | .met f x=>h.get? a=some (PySem.W.methodObj (.ref f) (.ref x))
 | .ext φ=>φ h/\(∃o,h.get? a=some o)/\∀h1 h2:Heap,φ h1->(∀o,h1.get? a=some o->h2.get? a=some o)->φ h2
def HOk (H:Hp) (h:Heap):Prop:=∀a o,H a=some o->BK P w H h a o
end
section
variable {P:Program} {w:World} {H H':Hp} {h h':Heap} {a:Addr} {o:HO}
theorem BK.lt (x:BK P w H h a o):a < h.objs.size:=by
 cases o with
 | lst xs=>obtain⟨_,_,_,_,e⟩:=x;exact Qco e
 | tup xs=>obtain⟨_,_,_,p⟩:=x;exact p.lt
 | dK kvs=>obtain⟨_,_,_,_,o,_,_,e,_⟩:=x;exact Qco e
 | dT kvs=>obtain⟨_,_,_,_,o,_,_,e,_⟩:=x;exact Qco e
 | set S n=>obtain⟨o,_,_,_,e,_⟩:=x;exact Qco e
 | ins C dx fs=>obtain⟨_,_,_,e,_⟩:=x;exact Qco e
 | own y=>obtain⟨_,e⟩:=x;exact Qco e
 | xd fs=>obtain⟨_,⟨_,_,_,e,_⟩,_⟩:=x;exact Qco e
 | rng lo hi=>obtain⟨_,_,_,e⟩:=x;exact Qco e
 | frz ob u=>obtain⟨e,_⟩:=x;exact Qco e
 | tbl ps=>exact Qco (show h.get? a=some _ from x)
 | met f y=>exact Qco (show h.get? a=some _ from x)
 | ext φ=>obtain⟨_,⟨_,e⟩,_⟩:=x;exact Qco e
theorem Paired.Ax {α β : Type} {F G:α->β->Prop}:∀{l₁ : List α} {l₂ : List β},Paired F l₁ l₂->(∀a b,F a b->G a b)->Paired G l₁ l₂
 | _,_,.nil,_=>.nil
 | _,_,.cons r t,f=>.cons (f _ _ r) (Paired.Ax t f)
theorem BK.stay (x:BK P w H h a o) (k:∀b u,(b=a\/H b=some (.own a))->h.get? b=some u->h'.get? b=some u)
  (ho:∀b,H b=some (.own a)->H' b=some (.own a)) (ht:∀b xs,H b=some (.tup xs)->H' b=some (.tup xs)):BK P w H' h' a o:=by
 induction o with
 | lst xs=>obtain⟨z,its,n,r,e⟩:=x;exact⟨z,its,n,r,k _ _ (.inl rfl) e⟩
 | tup xs=>obtain⟨z,its,r,ob,e,c⟩:=x;exact⟨z,its,r,ob,k _ _ (.inl rfl) e,c⟩
 | dK kvs=>obtain⟨z,y,vs,r,ob,es,ep,e,c⟩:=x;exact⟨z,y,vs,r,ob,es,ep,k _ _ (.inl rfl) e,c⟩
 | dT kvs=>
  obtain⟨z,y,xs,r,ob,es,ep,e,c⟩:=x;exact⟨z,y,xs,Paired.Ax r λp q z=>⟨z.1,ht _ _ z.2.1,z.2.2⟩,ob,es,ep,k _ _ (.inl rfl) e,c⟩
 | set S n=>obtain⟨ob,es,ep,t,e,c⟩:=x;exact⟨ob,es,ep,t,k _ _ (.inl rfl) e,c⟩
 | ins C dx fs=>
  obtain⟨d,z,ne,e,mA,⟨od,es,ep,e2,c⟩,r⟩:=x;exact⟨ho _ d,z,ne,k _ _ (.inl rfl) e,mA,⟨od,es,ep,k _ _ (.inr d) e2,c⟩,r⟩
 | own y=>obtain⟨ob,e⟩:=x;exact⟨ob,k _ _ (.inl rfl) e⟩
 | xd fs=>obtain⟨mA,⟨od,es,ep,e,c⟩,r⟩:=x;exact⟨mA,⟨od,es,ep,k _ _ (.inl rfl) e,c⟩,r⟩
 | rng lo hi=>obtain⟨t,u,v,e⟩:=x;exact⟨t,u,v,k _ _ (.inl rfl) e⟩
 | frz ob u ih=>obtain⟨e,q⟩:=x;exact⟨k _ _ (.inl rfl) e,ih q⟩
 | tbl ps=>
  have e:h.get? a=some { cls:=.none,data:=.fields ps }:=x;show h'.get? a=some { cls:=.none,data:=.fields ps };exact k a _ (.inl rfl) e
 | met f y=>
  have e:h.get? a=some (PySem.W.methodObj (.ref f) (.ref y)):=x;show h'.get? a=some (PySem.W.methodObj (.ref f) (.ref y));exact k a _ (.inl rfl) e
 | ext φ=>obtain⟨p,⟨o,e⟩,st⟩:=x;exact⟨st _ _ p λo q=>k _ _ (.inl rfl) q,⟨o,k _ _ (.inl rfl) e⟩,st⟩
theorem HOk.lt (x:HOk P w H h) (e:H a=some o):a < h.objs.size:=(x a o e).lt
theorem HOk.fresh (x:HOk P w H h) (e:h.objs.size<=a):H a=none:=by
 cases q:H a with
 | none=>rfl
 | some u=>exact absurd (Qba (x.lt q) e) (Qcg _)
theorem HOk.kept (x:HOk P w H h) (k:∀b u,h.get? b=some u->h'.get? b=some u):HOk P w H h':=λa o e=>
 (x a o e).stay (λb u _ q=>k b u q) (λ_ q=>q) λ_ _ q=>q
theorem HOk.laid (x:HOk P w H h) (k:∀b u,h.get? b=some u->h'.get? b=some u) (hp:h.objs.size<=a) (new:BK P w (upd H a o) h' a o):HOk P w (upd H a o) h':=λb u e=>by
 have hn:=x.fresh hp;by_cases hb:b=a
 ·subst hb;rw[Ab] at e;cases e;exact new
 ·rw[Ao hb] at e;exact (x b u e).stay (λc v _ q=>k c v q) (λc q=>by rw[Ao (Aw q hn)];exact q) λc xs q=>by rw[Ao (Aw q hn)];exact q
end
def Rd (H:Hp) (a:Addr) (u:HO):Prop:=H a=some u\/∃o,H a=some (.frz o u)
theorem Rd.ok {P:Program} {w:World} {H:Hp} {h:Heap} {a:Addr} {u:HO} (r:Rd H a u) (x:HOk P w H h):BK P w H h a u:=by
 rcases r with r |⟨o,r⟩
 ·exact x a u r
 ·obtain⟨_,q⟩:=x a _ r;exact q
def Mut:Option HO->Prop
 | some (.lst _)=>True
 | some (.dK _)=>True
 | some (.dT _)=>True
 | some (.set _ _)=>True
 | some (.ins _ _ _)=>True
 | some (.ext _)=>True
 | _=>False
section
variable {P:Program} {w:World} {H:Hp} {h h':Heap} {x e:Addr} {o':HO}
theorem HOk.write (ok:HOk P w H h) (mu:Mut (H x)) (he:e=x\/H e=some (.own x)) (k:∀b u,b≠e->h.get? b=some u->h'.get? b=some u) (heo:∃u,h'.get? e=some u)
  (new:BK P w (upd H x o') h' x o'):HOk P w (upd H x o') h':=λb u q=>by
 have As:∀c y,H c=some (.own y)->c≠x:=λc y r z=>by subst z;rw[r] at mu;exact mu
 have Gj:∀c xs,H c=some (.tup xs)->c≠x:=λc xs r z=>by subst z;rw[r] at mu;exact mu
 by_cases hb:b=x
 ·subst hb;rw[Ab] at q;cases q;exact new
 ·rw[Ao hb] at q;by_cases hbe:b=e
  ·have q':H b=some (.own x):=by
    rcases he with z | z
    ·exact absurd (hbe.trans z) hb
    ·rw[hbe];exact z
   rw[q] at q';cases q';obtain⟨v,hv⟩:=heo;exact⟨v,by rw[hbe];exact hv⟩
  ·refine (ok b u q).stay (λc v hc r=>k c v ?_ r) (λc r=>by rw[Ao (As c b r)];exact r) λc xs r=>by rw[Ao (Gj c xs r)];exact r
   rcases hc with rfl | hc
   ·exact hbe
   ·rintro rfl;rcases he with z | z
    ·exact As c b hc z
    ·rw[hc] at z;cases z;exact hb rfl
end
structure Un (fs ex:List Addr) (H H':Hp) (h h':Heap):Prop where
 keep:∀b o,h.get? b=some o->H b=none->b∉fs->b∉ex->h'.get? b=some o
 slot:∀b o,h.get? b=some o->H b=none->b∈fs->b∉ex->∃sl,h'.get? b=some { o with slots:=sl }
 free:∀b o,h.get? b=some o->H b=none->b∉ex->H' b=none
 there:∀b o,h.get? b=some o->b∉ex->∃o',h'.get? b=some o'
 tups:∀b xs,H b=some (.tup xs)->H' b=some (.tup xs)
 Mv:∀b o u,H b=some (.frz o u)->H' b=some (.frz o u)
 Nj:∀b ps,H b=some (.tbl ps)->∃more,H' b=some (.tbl (ps++more))
section
variable {fs fs' ex ex':List Addr} {H H1 H2:Hp} {h h1 h2 h':Heap} {a x e:Addr} {o:HO}
theorem Un.any (u:Un fs ex H H1 h h1) {b:Addr} {ob:Obj} (q:h.get? b=some ob) (n:H b=none) (hx:b∉ex):∃sl,h1.get? b=some { ob with slots:=sl }:=by
 by_cases hb:b∈fs
 ·exact u.slot b ob q n hb hx
 ·exact⟨ob.slots,u.keep b ob q n hb hx⟩
theorem Un.kept (k:∀b u,h.get? b=some u->h'.get? b=some u):Un fs ex H H h h':=
 ⟨λb ob q _ _ _=>k b ob q,λb ob q _ _ _=>⟨ob.slots,k b ob q⟩,λ_ _ _ n _=>n,λb ob q _=>⟨ob,k b ob q⟩,λ_ _ q=>q,λ_ _ _ q=>q,λ_ ps q=>⟨#[],by rw[q];simp⟩⟩
theorem Un.refl:Un fs ex H H h h:=Un.kept λ_ _ q=>q
theorem Un.laid (k:∀b u,h.get? b=some u->h'.get? b=some u) (hp:h.objs.size<=a) (hn:H a=none):Un fs ex H (upd H a o) h h' where
 keep:=λb u q _ _ _=>k b u q
 slot:=λb u q _ _ _=>⟨u.slots,k b u q⟩
 free:=λb u q n _=>by rw[Ao (Qcp (Qba (Qco q) hp))];exact n
 there:=λb u q _=>⟨u,k b u q⟩
 tups:=λb xs q=>by rw[Ao (Aw q hn)];exact q
 Mv:=λb u xs q=>by rw[Ao (Aw q hn)];exact q
 Nj:=λb ps q=>⟨#[],by rw[Ao (Aw q hn),q];simp⟩
theorem Un.write (mu:Mut (H x)) (he:e=x\/H e=some (.own x)) (k:∀b u,b≠e->h.get? b=some u->h'.get? b=some u) (heo:∃u,h'.get? e=some u):Un fs ex H (upd H x o) h h':=by
 have hx:∀b,H b=none->b≠x:=λb n z=>by subst z;rw[n] at mu;exact mu
 have hb:∀b,H b=none->b≠e:=λb n z=>by
  subst z;rcases he with r | r
  ·exact hx b n r
  ·rw[n] at r;cases r
 have hm:∀b u,H b=some u->¬Mut (some u)->b≠x:=λb u q nm z=>by subst z;rw[q] at mu;exact nm mu
 refine⟨λb u q n _ _=>k b u (hb b n) q,λb u q n _ _=>⟨u.slots,k b u (hb b n) q⟩,λb u q n _=>by rw[Ao (hx b n)];exact n,λb u q _=>?_,
  λb xs q=>by rw[Ao (hm b _ q λz=>z)];exact q,λb u xs q=>by rw[Ao (hm b _ q λz=>z)];exact q,λb ps q=>⟨#[],by rw[Ao (hm b _ q λz=>z),q];simp⟩⟩
 by_cases hbe:b=e
 ·subst hbe;exact heo
 ·exact⟨u,k b u hbe q⟩
end
def trk (h:Heap) (H:Hp):List Addr:=(List.range h.objs.size).filter λa=>(H a).isSome
def QS (h:Heap) (H:Hp):Heap:=PySem.W.hideAll h (trk h H)
theorem oV (h:Heap) (H:Hp):(QS h H).objs.size=h.objs.size:=PySem.W.hideAll_size _ _
theorem uo {h:Heap} {H:Hp} {b:Addr} {o:Obj} (e:h.get? b=some o) (n:H b=none):(QS h H).get? b=some o:=
 PySem.W.hideAll_get _ e λhm=>by
  have q:(H b).isSome=true:=(QbO.mp hm).2;rw[n] at q;simp at q
theorem xM {h:Heap} {H:Hp} {b:Addr} {o:Obj} (e:(QS h H).get? b=some o):h.get? b=some o/\H b=none:=by
 have e':h.get? b=some o:=PySem.W.of_hideAll (trk h H) e;refine⟨e',?_⟩;cases q:H b with
 | none=>rfl
 | some x=>
  have hm:b∈trk h H:=QbO.mpr ⟨Qcb.mpr (Qco e'),by simp[q]⟩;have z:(QS h H).get? b=none:=PySem.W.hideAll_none (trk h H) hm;rw[z] at e;cases e
def Ua (g h:Heap) (L:Addr):YC:=(List.range h.objs.size).filterMap λa=>if a=L\/(g.get? a).isSome=true then none else (h.get? a).map λo=>(a,o)
theorem PJ {g h:Heap} {L a:Addr} {o:Obj} (h1:a≠L) (h2:g.get? a=none) (h3:h.get? a=some o):(a,o)∈Ua g h L:=
 List.mem_filterMap.mpr ⟨a,Qcb.mpr (Qco h3),by simp[h1,h2,h3]⟩
theorem Xa {g h:Heap} {L:Addr} {p:Addr×Obj} (hp:p∈Ua g h L):p.1≠L/\g.get? p.1=none/\h.get? p.1=some p.2:=by
 obtain⟨b,_,e⟩:=List.mem_filterMap.mp hp;split at e
 ·cases e
 ·rename_i hn;cases q:h.get? b with
  | none=>rw[q] at e;simp at e
  | some u=>
   rw[q] at e;simp only[Option.map_some,Option.some.injEq] at e;subst e;refine⟨λz=>hn (.inl z),?_,q⟩;show g.get? b=none;cases r:g.get? b with
   | none=>rfl
   | some v=>exact (hn (.inr (by simp[r]))).elim
def rest (g h:Heap) (L d:Addr):YC:=(Ua g h L).filter λp=>decide (p.1≠d)
theorem tQ {g h:Heap} {L:Addr}:News g L h (Ua g h L):=λp hp=>let ⟨a,b,c⟩:=Xa hp;⟨c,a,b⟩
structure Mod (K:YD) (mg:YB) (base:Heap):Prop where
 kin:K.In base
 glob:base.Ns mainGlobals mg
 blt:∃mb,base.Ns builtinsNs mb/\∀x:Str,x≠"__name__"->mb x=bootBuiltins x
 nolimit:base.NoLimit
structure Cx where
 prog:Program
 w:World
 K:YD
 mg:YB
 base:Heap
 A:Around
 N:YF
 s₀ : Shared
 H₀ : Hp
 env:Env
 outer:List Env
 stack:List Env
 ex:List Addr
 fn:Str->Bool
 calm:Bool
 pn:YC
 xe:YA
def frs (l:List Env):List Addr:=l.filterMap (·.frame)
abbrev Cx.fs (X:Cx):List Addr:=frs X.outer
def Vis (sc:Scope) (x:Str):Prop:=sc.names.lookup x=some .local\/sc.names.lookup x=some .cell\/sc.names.lookup x=some .free
def Loc (sc:Scope) (x:Str):Prop:=sc.names.lookup x=some .local\/sc.names.lookup x=some .cell
def Look (env:Env) (h:Heap) (m:YB) (x:Str) (u:Value):Prop:=
 (env.kindOf x=some .local/\m x=some u)\/((env.kindOf x=some .cell\/env.kindOf x=some .free)/\∃c,env.cells.lookup x=some c/\h.IsCell c (some u))
structure Cx.Ok (X:Cx):Prop where
 mod:Mod X.K X.mg X.base
 kind:X.env.scope.kind=.function
 glob:X.env.globals=mainGlobals
 blt:X.env.builtins=builtinsNs
 above:X.s₀.heap.objs.size<=X.env.locals
 inj:∀x y c,X.env.cells.lookup x=some c->X.env.cells.lookup y=some c->x=y
 has:∀x,(X.env.kindOf x=some .cell\/X.env.kindOf x=some .free)->∃c,X.env.cells.lookup x=some c
 cab:∀x c,X.fn x=true->X.env.cells.lookup x=some c->X.s₀.heap.objs.size<=c
 hd:X.calm=true->X.A.handled=none
 frames:X.A.frames=some X.stack
 stk:X.stack=X.outer\/(X.stack=X.env::X.outer/\X.env.frame=some X.env.locals)
 exf:∀b∈X.ex,b≠X.env.locals/\∀x c,X.env.cells.lookup x=some c->c≠b
 bs:∀b o,X.base.get? b=some o->X.s₀.heap.get? b=some o/\X.H₀ b=none
 bsz:X.base.objs.size<=X.s₀.heap.objs.size
 Xc:∀b o,X.base.get? b=some o->b∉X.ex
 Ss:∀b∈X.ex,b∉X.fs
 Ko:X.s₀.heap.FunFrames X.base X.outer
 frf:∀b∈X.fs,X.H₀ b=none
structure Inv (X:Cx) (jb:YC) (U : List (Option V)) (H:Hp) (s:Shared):Prop where
 ok:X.Ok
 os:s.os=X.s₀.os
 bare:AllBare s.gens
 base:Un X.fs X.ex X.H₀ H X.s₀.heap s.heap
 loc:∃m,s.heap.Ns X.env.locals m/\∀(i:Nat) (x:Str) (v:V),X.N[i]?=some x->U[i]?=some (some v)->Vis X.env.scope x->∃u,RelV v u/\Look X.env s.heap m x u
 cell:∀x c,X.env.cells.lookup x=some c->∃v,s.heap.IsCell c v
 free:H X.env.locals=none
 Ir:∀x c,X.env.cells.lookup x=some c->H c=none
 pin:∀p∈X.pn++jb,s.heap.get? p.1=some p.2/\H p.1=none/\p.1≠X.env.locals/\p.1∉X.fs/\∀v,p.2.data≠.cell v
 hok:HOk X.prog X.w H s.heap
 len:U.length=X.N.length
section
variable {X:Cx} {jb:YC} {U : List (Option V)} {H H':Hp} {s:Shared} {h':Heap}
theorem Cx.Ok.Ex (ok:X.Ok) {b:Addr} {o:Obj} (e:X.base.get? b=some o):b∉X.fs:=λhb=>by
 have:=(ok.Ko.mem hb).1;rw[e] at this;cases this
theorem Inv.bs (I:Inv X jb U H s):∀b o,X.base.get? b=some o->s.heap.get? b=some o/\H b=none:=λb o e=>
 ⟨I.base.keep b o (I.ok.bs b o e).1 (I.ok.bs b o e).2 (I.ok.Ex e) (I.ok.Xc b o e),I.base.free b o (I.ok.bs b o e).1 (I.ok.bs b o e).2 (I.ok.Xc b o e)⟩
theorem Inv.bk (I:Inv X jb U H s):∀b o,X.base.get? b=some o->s.heap.get? b=some o:=λb o e=>(I.bs b o e).1
theorem Inv.mod (I:Inv X jb U H s):Mod X.K X.mg X.base:=I.ok.mod
theorem Inv.kIn (I:Inv X jb U H s):X.K.In s.heap:=I.ok.mod.kin.keeps I.bk
theorem Inv.nolimit (I:Inv X jb U H s):s.heap.NoLimit:=I.ok.mod.nolimit.keeps I.bk
theorem Inv.fr (I:Inv X jb U H s):∃m,Fr X.base X.env.locals s.heap m:=
 let ⟨m,hn,_⟩:=I.loc
 ⟨m,hn,I.bk,Qcr I.ok.bsz I.ok.above⟩
theorem Inv.lt (I:Inv X jb U H s):X.env.locals < s.heap.objs.size:=let ⟨_,hn,_⟩:=I.loc;hn.lt
theorem Inv.sz (I:Inv X jb U H s):X.s₀.heap.objs.size<=s.heap.objs.size:=Qcr I.ok.above (Qcs I.lt)
theorem Inv.tK (I:Inv X jb U H s) {a:Addr} (h:s.heap.objs.size<=a):a∉X.fs:=λhb=>by
 obtain⟨_,o,ho,_⟩:=I.ok.Ko.mem hb;exact absurd (Qba (Qco ho) (Qcr I.sz h)) (Qcg _)
theorem Inv.cne (I:Inv X jb U H s):∀x c,X.env.cells.lookup x=some c->c≠X.env.locals:=λx c e z=>by
 obtain⟨v,o,ho,hd⟩:=I.cell x c e;obtain⟨m,⟨o',es,ep,ho',hd',_⟩,_⟩:=I.loc;rw[z,ho'] at ho;cases ho;rw[hd'] at hd;cases hd
theorem Inv.Ko (I:Inv X jb U H s):s.heap.FunFrames X.base X.outer:=by
 have all:∀(l:List Env),(∀b∈frs l,b∈X.fs)->X.s₀.heap.FunFrames X.base l->s.heap.FunFrames X.base l:=by
  intro l
  induction l with
  | nil=>intro _ _;trivial
  | cons env r ih=>
   intro hs hl;obtain⟨hk,⟨L,o,hf,hn,ho,hd⟩,hr⟩:=hl;have hL:L∈X.fs:=hs L (by unfold frs;rw[List.filterMap_cons,hf];exact QaV);obtain⟨sl,e⟩:=I.base.slot L o ho (I.ok.frf L hL) hL λz=>I.ok.Ss L z hL;exact⟨hk,⟨L,_,hf,hn,e,hd⟩,ih (λb hb=>hs b (by unfold frs;rw[List.filterMap_cons,hf];exact QaJ _ hb)) hr⟩
 exact all X.outer (λ_ hb=>hb) I.ok.Ko
theorem Inv.stack (I:Inv X jb U H s):s.heap.FunFrames X.base X.stack:=by
 rcases I.ok.stk with e |⟨e,hf⟩
 ·rw[e];exact I.Ko
 ·rw[e];obtain⟨m,hn,_⟩:=I.loc;refine .cons (by rw[I.ok.kind];decide) hf hn ?_ I.Ko;exact Heap.get?_none_of_le (Qcr I.ok.bsz I.ok.above)
theorem Inv.Zk (I:Inv X jb U H s):∀b∈frs X.stack,b∈X.env.locals::X.fs:=λb hb=>by
 rcases I.ok.stk with e |⟨e,hf⟩
 ·rw[e] at hb;exact QaJ _ hb
 ·rw[e] at hb;unfold frs at hb;rw[List.filterMap_cons,hf] at hb;exact hb
theorem Inv.fC (I:Inv X jb U H s):∀b∈frs X.stack,H b=none:=λb hb=>by
 rcases Qce.mp (I.Zk b hb) with e | hb
 ·rw[e];exact I.free
 ·obtain⟨_,o,ho,_⟩:=I.ok.Ko.mem hb;exact I.base.free b o ho (I.ok.frf b hb) λz=>I.ok.Ss b z hb
theorem Inv.step {g':Array GenState} {t':Nat} {d':Drawn} {ch:List Addr} (I:Inv X jb U H s)
  (hch:∀b∈ch,(b∈X.ex\/X.s₀.heap.objs.size<=b)/\b≠X.env.locals/\(∀x c,X.env.cells.lookup x=some c->c≠b)/\∀p∈X.pn++jb,p.1≠b)
  (keep:∀b o,b≠X.env.locals->b∉X.fs->b∉ch->s.heap.get? b=some o->H b=none->h'.get? b=some o)
  (slot:∀b o,b≠X.env.locals->b∈X.fs->b∉ch->s.heap.get? b=some o->H b=none->∃sl,h'.get? b=some { o with slots:=sl }) (free:∀b o,b∉ch->s.heap.get? b=some o->H b=none->H' b=none)
  (there:∀b o,b∉ch->s.heap.get? b=some o->∃o',h'.get? b=some o')
  (tups:∀b xs,H b=some (.tup xs)->H' b=some (.tup xs)) (Mv:∀b o u,H b=some (.frz o u)->H' b=some (.frz o u)) (Nj:∀b ps,H b=some (.tbl ps)->∃more,H' b=some (.tbl (ps++more)))
  (ns:∀m,s.heap.Ns X.env.locals m->h'.Ns X.env.locals m) (hok:HOk X.prog X.w H' h') (hg:AllBare g') :
  Inv X jb U H' { s with heap:=h',gens:=g',drawn:=d',toks:=t' }:=by
 have neL:∀b o,X.s₀.heap.get? b=some o->b≠X.env.locals:=λb o e=>Qcp (Qba (Qco e) I.ok.above);have neC:∀b o,X.s₀.heap.get? b=some o->b∉X.ex->b∉ch:=λb o e hx hb=>by
  rcases (hch b hb).1 with z | z
  ·exact hx z
  ·exact absurd (Qba (Qco e) z) (Qcg _)
 have cellK:∀x c,X.env.cells.lookup x=some c->∀v,s.heap.IsCell c v->h'.IsCell c v:=λx c e v ⟨o,ho,hd⟩=>by
  have nch:c∉ch:=λz=>(hch c z).2.2.1 x c e rfl;by_cases hc:c∈X.fs
  ·obtain⟨sl,q⟩:=slot c o (I.cne x c e) hc nch ho (I.Ir x c e);exact⟨_,q,hd⟩
  ·exact⟨o,keep c o (I.cne x c e) hc nch ho (I.Ir x c e),hd⟩
 refine⟨I.ok,I.os,hg,⟨λb o e n hb hx=>?_,λb o e n hb hx=>?_,λb o e n hx=>?_,λb o e hx=>?_,λb xs e=>tups b xs (I.base.tups b xs e),λb o xs e=>Mv b o xs (I.base.Mv b o xs e),λb ps e=>?_⟩,?_,λx c e=>?_,?_,λx c e=>?_,λp hp=>?_,hok,I.len⟩
 ·exact keep b o (neL b o e) hb (neC b o e hx) (I.base.keep b o e n hb hx) (I.base.free b o e n hx)
 ·obtain⟨sl,e1⟩:=I.base.slot b o e n hb hx;obtain⟨sl',e2⟩:=slot b _ (neL b o e) hb (neC b o e hx) e1 (I.base.free b o e n hx);exact⟨sl',e2⟩
 ·obtain⟨o',e1⟩:=I.base.there b o e hx;exact free b o' (neC b o e hx) e1 (I.base.free b o e n hx)
 ·obtain⟨o',e1⟩:=I.base.there b o e hx;exact there b o' (neC b o e hx) e1
 ·obtain⟨m1,e1⟩:=I.base.Nj b ps e;obtain⟨m2,e2⟩:=Nj b _ e1;exact⟨m1++m2,by rw[e2,Array.append_assoc]⟩
 ·obtain⟨m,hn,hl⟩:=I.loc;refine⟨m,ns m hn,λi x v e1 e2 e3=>?_⟩;obtain⟨u,r,l⟩:=hl i x v e1 e2 e3;refine⟨u,r,?_⟩;rcases l with l |⟨k,c,e,z⟩
  ·exact .inl l
  ·exact .inr ⟨k,c,e,cellK x c e _ z⟩
 ·obtain⟨v,z⟩:=I.cell x c e;exact⟨v,cellK x c e v z⟩
 ·obtain⟨m,⟨o,_,_,ho,_⟩,_⟩:=I.loc;exact free _ o (λz=>(hch _ z).2.1 rfl) ho I.free
 ·obtain⟨v,o,ho,hd⟩:=I.cell x c e;exact free c o (λz=>(hch c z).2.2.1 x c e rfl) ho (I.Ir x c e)
 ·obtain⟨e,n,ne,nf,d⟩:=I.pin p hp;have nch:p.1∉ch:=λz=>(hch p.1 z).2.2.2 p hp rfl;exact⟨keep p.1 p.2 ne nf nch e n,free p.1 p.2 nch e n,ne,nf,d⟩
theorem Inv.un {t':Nat} (I:Inv X jb U H s) (u:Un X.fs [] H H' s.heap h') (hok:HOk X.prog X.w H' h'):Inv X jb U H' { s with heap:=h',toks:=t' }:=by
 obtain⟨m,⟨o,es,ep,ho,r⟩,_⟩:=id I.loc;obtain⟨sl,hL⟩:=u.any ho I.free (by simp);exact I.step (g':=s.gens) (d':=s.drawn) (ch:=[]) (λ_ z=>nomatch z) (λb o _ hb _ e n=>u.keep b o e n hb (by simp)) (λb o _ hb _ e n=>u.slot b o e n hb (by simp)) (λb o _ e n=>u.free b o e n (by simp)) (λb o _ e=>u.there b o e (by simp)) u.tups u.Mv u.Nj (λm' hm=>by
  obtain⟨o',es',ep',ho',r'⟩:=hm;rw[ho] at ho';cases ho';exact⟨_,es',ep',hL,r'⟩) hok I.bare
theorem Inv.call {g':Array GenState} {t':Nat} {d':Drawn} {ch:List Addr} (I:Inv X jb U H s) (u:Un (frs X.stack) ch H H' s.heap h') (hok:HOk X.prog X.w H' h') (hg:AllBare g')
  (hch:∀b∈ch,(b∈X.ex\/X.s₀.heap.objs.size<=b)/\b≠X.env.locals/\(∀x c,X.env.cells.lookup x=some c->c≠b)/\∀p∈X.pn++jb,p.1≠b) :
  Inv X jb U H' { s with heap:=h',gens:=g',drawn:=d',toks:=t' }:=by
 obtain⟨m,⟨o,es,ep,ho,r⟩,_⟩:=id I.loc;obtain⟨sl,hL⟩:=u.any ho I.free λz=>(hch _ z).2.1 rfl;exact I.step (ch:=ch) hch (λb o hL hb hc e n=>u.keep b o e n (λz=>(Qce.mp (I.Zk b z)).elim hL hb) hc) (λb o _ _ hc e n=>u.any e n hc) (λb o hc e n=>u.free b o e n hc) (λb o hc e=>u.there b o e hc) u.tups u.Mv u.Nj (λm' hm=>by
  obtain⟨o',es',ep',ho',r'⟩:=hm;rw[ho] at ho';cases ho';exact⟨_,es',ep',hL,r'⟩) hok hg
theorem Inv.turned {t':Nat} {it:Addr} (I:Inv X jb U H s) (k:∀b o,b≠it->s.heap.get? b=some o->h'.get? b=some o) (hn:H it=none) (hL:it≠X.env.locals)
  (h1:it∈X.ex\/X.s₀.heap.objs.size<=it) (h2:∀x c,X.env.cells.lookup x=some c->c≠it) (h3:∀p∈X.pn++jb,p.1≠it):Inv X jb U H { s with heap:=h',toks:=t' }:=by
 have nit:∀b u,H b=some u->b≠it:=λb u e z=>by rw[z,hn] at e;cases e
 refine I.step (g':=s.gens) (d':=s.drawn) (ch:=[it]) (λb hb=>?_) (λb o _ _ hc e _=>k b o (λz=>hc (by simp[z])) e) (λb o _ _ hc e _=>⟨o.slots,k b o (λz=>hc (by simp[z])) e⟩) (λ_ _ _ _ n=>n)
  (λb o hc e=>⟨o,k b o (λz=>hc (by simp[z])) e⟩) (λ_ _ e=>e) (λ_ _ _ e=>e) (λb ps e=>⟨#[],by rw[e];simp⟩) (λm hm=>?_) (λb u e=>?_) I.bare
 ·have e:b=it:=by simpa using hb
  subst e;exact⟨h1,hL,h2,h3⟩
 ·obtain⟨o,es,ep,ho,r⟩:=hm;exact⟨o,es,ep,k _ o (Ne.symm hL) ho,r⟩
 ·refine (I.hok b u e).stay (λc v hc q=>k c v ?_ q) (λ_ q=>q) λ_ _ q=>q;rcases hc with z | z
  ·rw[z];exact nit b u e
  ·exact nit c _ z
theorem Inv.tok (I:Inv X jb U H s) (t:Nat):Inv X jb U H { s with toks:=t }:=I.un (h':=s.heap) (t':=t) Un.refl I.hok
theorem Inv.kept {t':Nat} (I:Inv X jb U H s) (k:∀b u,s.heap.get? b=some u->h'.get? b=some u):Inv X jb U H { s with heap:=h',toks:=t' }:=I.un (Un.kept k) (I.hok.kept k)
theorem Inv.laid {a:Addr} {o:HO} {t':Nat} (I:Inv X jb U H s) (k:∀b u,s.heap.get? b=some u->h'.get? b=some u) (hp:s.heap.objs.size<=a) (new:BK X.prog X.w (upd H a o) h' a o) :
  Inv X jb U (upd H a o) { s with heap:=h',toks:=t' }:=I.un (Un.laid k hp (I.hok.fresh hp)) (I.hok.laid k hp new)
theorem Inv.write {x e:Addr} {o:HO} {t':Nat} (I:Inv X jb U H s) (mu:Mut (H x)) (he:e=x\/H e=some (.own x)) (k:∀b u,b≠e->s.heap.get? b=some u->h'.get? b=some u) (heo:∃u,h'.get? e=some u)
  (new:BK X.prog X.w (upd H x o) h' x o):Inv X jb U (upd H x o) { s with heap:=h',toks:=t' }:=I.un (Un.write mu he k heo) (I.hok.write mu he k heo new)
theorem Inv.Tt {jw:YC} (I:Inv X jb U H s) (h:∀p∈jw,s.heap.get? p.1=some p.2/\H p.1=none/\p.1≠X.env.locals/\p.1∉X.fs/\∀v,p.2.data≠.cell v):Inv X jw U H s:=
 ⟨I.ok,I.os,I.bare,I.base,I.loc,I.cell,I.free,I.Ir,λp hp=>(QbJ.mp hp).elim (λz=>I.pin p (QaK _ z)) (h p),I.hok,I.len⟩
theorem bx {N:YF} (hN:N.Nodup) {i j:Nat} {x:Str} (a:N[i]?=some x) (b:N[j]?=some x):i=j:=by
 obtain⟨h1,e1⟩:=Qah.mp a;obtain⟨h2,e2⟩:=Qah.mp b;exact (List.getElem_inj hN).mp (e1.trans e2.symm)
theorem lV {M:Model} {A:Around} {E:YA} {i:Nat} {x:Str} {v:V} {u:Value} {Q:YH} (I:Inv X jb U H s) (hN:X.N.Nodup) (hi:X.N[i]?=some x) (hx:Loc X.env.scope x) (r:RelV v u)
  (h:∀s',Inv X jb (U.set i (some v)) H s'->(∃a,Heap.SameBut a s.heap s'.heap/\(a=X.env.locals\/X.env.cells.lookup x=some a))->Q () s') (hf:X.fn x=true\/X.env.scope.names.lookup x=some .local:=by first | exact .inl rfl | exact .inr rfl | assumption):wpAny M A (storeName X.env x u) Q E s:=by
 obtain⟨m,hn,hl⟩:=id I.loc;have hcls:(X.env.scope.kind == .class || (X.env.scope.kind == .module&&X.env.locals != X.env.globals))=false:=by rw[I.ok.kind];rfl
 have hiσ : i < U.length:=by rw[I.len];exact (Qah.mp hi).1
 have cne:=I.cne;have tracked:∀{a:Addr} {h':Heap},(∃o,s.heap.get? a=some o/\H a=none)->Heap.SameBut a s.heap h'->HOk X.prog X.w H h':=λ{a h'} ha hs b ob e=>by
  obtain⟨_,_,hfree⟩:=ha;refine (I.hok b ob e).stay (λc w' hc q=>(hs.2 c ?_).trans q) (λ_ q=>q) λ_ _ q=>q;rintro rfl;rcases hc with rfl | hc
  ·rw[hfree] at e;cases e
  ·rw[hfree] at hc;cases hc
 rcases hx with hk | hk
 ·refine wpAny_storeName_local hk hn (λh' hn' hs=>?_) hcls;obtain⟨oL,_,_,hoL,_⟩:=id hn;refine h _ ⟨I.ok,I.os,I.bare,⟨λb o e n hb hx=>?_,λb o e n hb hx=>?_,I.base.free,λb o e hx=>?_,I.base.tups,I.base.Mv,I.base.Nj⟩,⟨_,hn',λj y v' e1 e2 e3=>?_⟩,λy c e=>?_,I.free,I.Ir,λp hp=>?_,tracked ⟨oL,hoL,I.free⟩ hs,by simpa using I.len⟩ ⟨_,hs,.inl rfl⟩
  ·exact (hs.2 b (Qcp (Qba (Qco e) I.ok.above))).trans (I.base.keep b o e n hb hx)
  ·obtain⟨sl,e1⟩:=I.base.slot b o e n hb hx;exact⟨sl,(hs.2 b (Qcp (Qba (Qco e) I.ok.above))).trans e1⟩
  ·obtain⟨o',e1⟩:=I.base.there b o e hx;exact⟨o',(hs.2 b (Qcp (Qba (Qco e) I.ok.above))).trans e1⟩
  ·by_cases hj:j=i
   ·subst hj;rw[hi] at e1;cases e1;rw[List.getElem?_set_self hiσ] at e2;cases e2;exact⟨u,r,.inl ⟨hk,by simp⟩⟩
   ·rw[List.getElem?_set_ne (Ne.symm hj)] at e2;obtain⟨u',r',q⟩:=hl j y v' e1 e2 e3;refine⟨u',r',?_⟩;rcases q with⟨k,e⟩|⟨k,c,e,z⟩
    ·refine .inl ⟨k,?_⟩;have:y≠x:=λe=>hj (bx hN e1 (e ▸ hi));simp[this,e]
    ·exact .inr ⟨k,c,e,z.sameBut hs (cne y c e)⟩
  ·obtain⟨w',z⟩:=I.cell y c e;exact⟨w',z.sameBut hs (cne y c e)⟩
  ·obtain⟨e,n,ne,nf,d⟩:=I.pin p hp;exact⟨(hs.2 p.1 ne).trans e,n,ne,nf,d⟩
 ·have hfn:X.fn x=true:=by
   rcases hf with z | z
   ·exact z
   ·rw[z] at hk;cases hk
  obtain⟨c,hc⟩:=I.ok.has x (.inl hk);obtain⟨w',z⟩:=I.cell x c hc;refine wpAny_storeName_cell I.ok.kind hk hc z (λh' hc' hs=>?_);obtain⟨oc,hoc,HG⟩:=id z;refine h { s with heap:=h' } ⟨I.ok,I.os,I.bare,⟨λb o e n hb hx=>?_,λb o e n hb hx=>?_,I.base.free,λb o e hx=>?_,I.base.tups,I.base.Mv,I.base.Nj⟩,⟨m,hn.sameBut hs (Ne.symm (cne x c hc)),λj y v' e1 e2 e3=>?_⟩,λy c' e=>?_,I.free,I.Ir,λp hp=>?_,tracked ⟨oc,hoc,I.Ir x c hc⟩ hs,by simpa using I.len⟩ ⟨c,hs,.inr hc⟩
  ·exact (hs.2 b (Qcp (Qba (Qco e) (I.ok.cab x c hfn hc)))).trans (I.base.keep b o e n hb hx)
  ·obtain⟨sl,e1⟩:=I.base.slot b o e n hb hx;exact⟨sl,(hs.2 b (Qcp (Qba (Qco e) (I.ok.cab x c hfn hc)))).trans e1⟩
  ·obtain⟨o',e1⟩:=I.base.there b o e hx;exact⟨o',(hs.2 b (Qcp (Qba (Qco e) (I.ok.cab x c hfn hc)))).trans e1⟩
  ·by_cases hj:j=i
   ·subst hj;rw[hi] at e1;cases e1;rw[List.getElem?_set_self hiσ] at e2;cases e2;exact⟨u,r,.inr ⟨.inl hk,c,hc,hc'⟩⟩
   ·rw[List.getElem?_set_ne (Ne.symm hj)] at e2;obtain⟨u',r',q⟩:=hl j y v' e1 e2 e3;refine⟨u',r',?_⟩;rcases q with q |⟨k,c',e,z'⟩
    ·exact .inl q
    ·refine .inr ⟨k,c',e,z'.sameBut hs ?_⟩;rintro rfl;exact hj (bx hN e1 (I.ok.inj _ _ _ e hc ▸ hi))
  ·by_cases hcc:c'=c
   ·subst hcc;exact⟨_,hc'⟩
   ·obtain⟨w2,z2⟩:=I.cell y c' e;exact⟨w2,z2.sameBut hs hcc⟩
  ·obtain⟨e,n,ne,nf,d⟩:=I.pin p hp;refine⟨(hs.2 p.1 ?_).trans e,n,ne,nf,d⟩;intro q;rw[q,hoc] at e;have q':oc=p.2:=QbN e;exact d w' (by rw[<-q'];exact HG)
theorem Nk {M:Model} {A:Around} {E:YA} {i:Nat} {x:Str} {v:V} {u:Value} {Q:YH} (I:Inv X jb U H s) (hN:X.N.Nodup) (hi:X.N[i]?=some x) (hx:Loc X.env.scope x) (r:RelV v u)
  (h:∀s',Inv X jb (U.set i (some v)) H s'->Q () s') (hf:X.fn x=true\/X.env.scope.names.lookup x=some .local:=by first | exact .inl rfl | exact .inr rfl | assumption):wpAny M A (storeName X.env x u) Q E s:=
 lV I hN hi hx r (λs' I' _=>h s' I') hf
theorem Inv.call' {s':Shared} {ch:List Addr} (I:Inv X jb U H s) (ho:s'.os=s.os) (u:Un (frs X.stack) ch H H' s.heap s'.heap) (hok:HOk X.prog X.w H' s'.heap) (hg:AllBare s'.gens)
  (hch:∀b∈ch,(b∈X.ex\/X.s₀.heap.objs.size<=b)/\b≠X.env.locals/\(∀x c,X.env.cells.lookup x=some c->c≠b)/\∀p∈X.pn++jb,p.1≠b):Inv X jb U H' s':=by
 obtain⟨h',g',d',t',o'⟩:=s';have e:o'=s.os:=ho;subst e;exact I.call (g':=g') (t':=t') (d':=d') u hok hg hch
end
abbrev XK:=Value->Option Addr->Hp->Prop
abbrev St:=List (Option V)
abbrev VK:=V->Hp->Prop
abbrev TE:=St->Hp->VK->Prop
abbrev TT:=St->Hp->(Bool->Hp->Prop)->Prop
abbrev TA:=St->Hp->(YG->Hp->Prop)->Prop
structure Ends where
 nx:St->Hp->Prop
 rt:VK
 bk:St->Hp->Prop:=λ_ _=>False
 ct:St->Hp->Prop:=λ_ _=>False
abbrev YO:=St->Hp->Prop
abbrev TS:=Ends->YO
def EP (X:Cx) (jb:YC) (U : St) (Q:VK) (u:Value) (s':Shared):Prop:=∃v H',Inv X jb U H' s'/\RelV v u/\Q v H'
def TP (X:Cx) (jb:YC) (U : St) (Q:Bool->Hp->Prop) (b:Bool) (s':Shared):Prop:=∃H',Inv X jb U H' s'/\Q b H'
def AP (X:Cx) (jb:YC) (U : St) (Q:YG->Hp->Prop) (us:YE) (s':Shared):Prop:=∃vs H',Inv X jb U H' s'/\Vals vs us/\Q vs H'
def SP (X:Cx) (jb:YC) (D:Ends) (f:Flow) (s':Shared):Prop:=
 match f with
 | .next=>∃ σ' H',Inv X jb σ' H' s'/\D.nx σ' H'
 | .brk=>∃ σ' H',Inv X jb σ' H' s'/\D.bk σ' H'
 | .cont=>∃ σ' H',Inv X jb σ' H' s'/\D.ct σ' H'
 | .ret u=>∃v σ' H',Inv X jb σ' H' s'/\RelV v u/\D.rt v H'
def PE (X:Cx) (e:Expr) (t:TE):Prop:=
 ∀(jb:YC) (s:Shared) (U : St) (H:Hp) (Q:VK),Inv X jb U H s->t U H Q->wpAny (model X.prog X.w) X.A (eval e X.env) (EP X jb U Q) X.xe s
def PT (X:Cx) (e:Expr) (t:TT):Prop:=
 ∀(jb:YC) (s:Shared) (U : St) (H:Hp) (Q:Bool->Hp->Prop),Inv X jb U H s->t U H Q->wpAny (model X.prog X.w) X.A (isTrue e X.env (eval e X.env)) (TP X jb U Q) X.xe s
def PW (X:Cx) (e:Expr) (t:TT):Prop:=
 ∀(whole:Sem Value) (jb:YC) (s:Shared) (U : St) (H:Hp) (Q:Bool->Hp->Prop),Inv X jb U H s->t U H Q->wpAny (model X.prog X.w) X.A (isTrue e X.env whole) (TP X jb U Q) X.xe s
theorem PW.pt {X:Cx} {e:Expr} {t:TT} (h:PW X e t):PT X e t:=h _
def PA (X:Cx) (es:YJ) (t:TA):Prop:=
 ∀(pos:Pos) (jb:YC) (s:Shared) (U : St) (H:Hp) (Q:YG->Hp->Prop),Inv X jb U H s->t U H Q->wpAny (model X.prog X.w) X.A (spliced (backTo pos (starEach es X.env))) (AP X jb U Q) X.xe s
def PS (X:Cx) (st:Stmt) (t:TS):Prop:=
 ∀(jb:YC) (s:Shared) (U : St) (H:Hp) (D:Ends),Inv X jb U H s->t D U H->wpAny (model X.prog X.w) X.A (exec st X.env) (SP X jb D) X.xe s
def PSs (X:Cx) (st:List Stmt) (t:TS):Prop:=
 ∀(jb:YC) (s:Shared) (U : St) (H:Hp) (D:Ends),Inv X jb U H s->t D U H->wpAny (model X.prog X.w) X.A (execs st X.env) (SP X jb D) X.xe s
theorem thn {α : Type} {t:Sem α} {Q Q':α->Shared->Prop} {M:Model} {A:Around} {E:YA} {s:Shared} (h:wpAny M A t Q E s) (hQ:∀a s,Q a s->Q' a s):wpAny M A t Q' E s:=QcD h hQ λ_ _ x=>x
section
variable {X:Cx}
theorem bin {a b:Expr} {ta tb:TE} (ha:PE X a ta) (hb:PE X b tb) {jb:YC} {s:Shared} {U : St} {H:Hp} {R:V->V->Hp->Prop} (I:Inv X jb U H s) (h:ta U H λx H1=>tb U H1 λy H2=>R x y H2)
  {α : Type} {Q:α->Shared->Prop} {f:Value->Value->Sem α}
  (hf:∀v u s2 x y H2,Inv X jb U H2 s2->RelV x v->RelV y u->R x y H2->wpAny (model X.prog X.w) X.A (f v u) Q X.xe s2) :
  wpAny (model X.prog X.w) X.A (eval a X.env) (λv s₁=>wpAny (model X.prog X.w) X.A (eval b X.env) (λu s₂=>wpAny (model X.prog X.w) X.A (f v u) Q X.xe s₂) X.xe s₁) X.xe s:=by
 refine thn (ha jb s U H _ I h) λv s1 zz=>?_;obtain⟨x,H1,I1,r1,q1⟩:=zz;refine thn (hb jb s1 U H1 _ I1 q1) λu s2 zz=>?_;obtain⟨y,H2,I2,r2,q2⟩:=zz;exact hf v u s2 x y H2 I2 r1 r2 q2
def yU (i:Nat):TE:=fun U H Q=>∃v,U[i]?=some (some v)/\Q v H
def tC (v:V):TE:=λ_ H Q=>Q v H
theorem zQ {i:Nat} {x:Str} {pos:Pos} (hN:X.N[i]?=some x) (hv:Vis X.env.scope x) (hd:(x == ("__debug__":Str))=false:=by decide) (hcd:(x == ("__classdict__":Str))=false:=by decide):PE X (.Name x pos) (yU i):=by
 intro jb s U H Q I h;obtain⟨v,e,h⟩:=h;obtain⟨m,hn,hl⟩:=I.loc;obtain⟨u,r,l⟩:=hl i x v hN e hv;have fin:EP X jb U Q u s:=⟨v,H,I,r,h⟩;rcases l with⟨hk,hm⟩|⟨hk,c,hc,hcell⟩
 ·exact wpAny_Name (wpAny_loadName_local I.ok.kind hk hn hm fin) hd
 ·rcases hk with hk | hk
  ·exact wpAny_Name (wpAny_loadName_cell I.ok.kind hk hc hcell fin) hd
  ·exact wpAny_Name (wpAny_loadName_free I.ok.kind hk hc hcell fin hcd) hd
theorem Af {i j pos}:PE X (.Constant (.int i) j pos) (tC (.int i)):=λ_ _ _ H _ I h=>wpAny_Constant_int ⟨.int i,H,I.tok _,⟨_,rfl⟩,h⟩
theorem Dm {b j pos}:PE X (.Constant (.bool b) j pos) (tC (.bl b)):=λ_ _ _ H _ I h=>Constant_bool ⟨.bl b,H,I,rfl,h⟩
theorem Lp {j pos}:PE X (.Constant .none j pos) (tC .non):=λ_ _ _ H _ I h=>Constant_none ⟨.non,H,I,rfl,h⟩
theorem Bp {x j pos}:PE X (.Constant (.str x) j pos) (tC (.str x)):=λ_ _ _ H _ I h=>Calls.Constant_str ⟨.str x,H,I.tok _,⟨_,rfl⟩,h⟩
def Gl (X:Cx) (x:Str):Prop:=X.env.kindOf x=some .globalImplicit
theorem Xg {E:YA} {jb:YC} {s:Shared} {U : St} {H:Hp} {x:Str} {u:Value} {pos:Pos} {Q:YA} (I:Inv X jb U H s) (hg:Gl X x) (hm:X.mg x=some u) (h:Q u s)
  (hd:(x == ("__debug__":Str))=false:=by decide):wpAny (model X.prog X.w) X.A (eval (.Name x pos) X.env) Q E s:=
 Calls.Name_function_global I.ok.kind hg (Calls.loadGlobal_global (by rw[I.ok.glob];exact I.mod.glob.keeps I.bk) hm h) hd
theorem Jf {E:YA} {jb:YC} {s:Shared} {U : St} {H:Hp} {x:Str} {u:Value} {pos:Pos} {Q:YA} (I:Inv X jb U H s) (hg:Gl X x) (hm:X.mg x=none) (hv:bootBuiltins x=some u) (h:Q u s)
  (hn:x≠"__name__":=by decide) (hd:(x == ("__debug__":Str))=false:=by decide):wpAny (model X.prog X.w) X.A (eval (.Name x pos) X.env) Q E s:=by
 obtain⟨mb,h1,h2⟩:=I.mod.blt;exact Calls.Name_function_global I.ok.kind hg (Calls.loadGlobal_builtin (by rw[I.ok.glob];exact I.mod.glob.keeps I.bk) hm (by rw[I.ok.blt];exact h1.keeps I.bk) ((h2 x hn).trans hv) h) hd
theorem wY {x:Str} {v:V} {u:Value} {pos:Pos} (hg:Gl X x) (hm:X.mg x=some u) (r:RelV v u) (hd:(x == ("__debug__":Str))=false:=by decide):PE X (.Name x pos) (tC v):=
 λ_ _ _ H _ I h=>Xg I hg hm ⟨v,H,I,r,h⟩ hd
theorem Qg {x:Str} {v:V} {u:Value} {pos:Pos} (hg:Gl X x) (hm:X.mg x=none) (hv:bootBuiltins x=some u) (r:RelV v u) (hn:x≠"__name__":=by decide) (hd:(x == ("__debug__":Str))=false:=by decide):PE X (.Name x pos) (tC v):=
 λ_ _ _ H _ I h=>Jf I hg hm hv ⟨v,H,I,r,h⟩ hn hd
variable {a b:Expr} {ta tb:TE} {pos:Pos}
def PC (X:Cx) (op:CmpOp) (a b:Expr) (t:TE):Prop:=
 ∀(jb:YC) (s:Shared) (U : St) (H:Hp) (Q:VK),Inv X jb U H s->t U H Q ->
  wpAny (model X.prog X.w) X.A (eval a X.env) (λv s₁=>wpAny (model X.prog X.w) X.A (eval b X.env) (λu s₂=>wpAny (model X.prog X.w) X.A (compareOp op v u) (EP X jb U Q) X.xe s₂) X.xe s₁) X.xe s
theorem tL (b:Expr) {op:CmpOp} (h:op≠.In) (h2:op≠.NotIn):behindInMarks op b=false:=by
 have e1:(op == CmpOp.In)=false:=by cases op <;> first | rfl | exact absurd rfl h
 have e2:(op == CmpOp.NotIn)=false:=by cases op <;> first | rfl | exact absurd rfl h2
 cases b <;> simp[behindInMarks,e1,e2]
def tB (t:TE):TT:=fun U H Q=>t U H λx H1=>∃c,x=.bl c/\Q c H1
theorem Kc {op:CmpOp} {t:TE} (h:PC X op a b t) (h1:behindInMarks op b=false:=by first | exact tL _ (by decide) (by decide) | rfl):PT X (.Compare a [op] [b] pos) (tB t):=by
 intro jb s U H Q I hw;refine wpAny_isTrue_Compare1 (thn (h jb s U H _ I hw) λv s1 h1=>thn h1 λu s2 h2=>thn h2 λc s3 zz=>?_) h1;obtain⟨x,H1,I1,r1,q1⟩:=zz;obtain⟨d,rfl,q⟩:=q1;cases r1;exact Qbs ⟨H1,I1,q⟩
theorem CK {e:Expr} {t:TE} (h:PE X e t) (he:∀whole,isTrue e X.env whole=(do let v <-whole;standAt e.pos;holding [v] (truthy v)):=by intro _;rfl):PT X e (tB t):=by
 intro jb s U H Q I hw;refine isTrue_plain (thn (h jb s U H _ I hw) λv s1 zz=>?_) (he _);obtain⟨x,H1,I1,r1,q1⟩:=zz;obtain⟨d,rfl,q⟩:=q1;cases r1;exact Qbs ⟨H1,I1,q⟩
variable {tA tB':TT} {rest:YJ}
def DU (t u:TT):TT:=fun U H Q=>t U H λc H1=>if c=true then u U H1 Q else Q false H1
def tOr (t u:TT):TT:=fun U H Q=>t U H λc H1=>if c=true then Q true H1 else u U H1 Q
def DI (t:TT):TT:=fun U H Q=>t U H λc H1=>Q (!c) H1
theorem WY (ha:PT X a tA):PW X (.BoolOp .And [a] pos) tA:=by
 intro wh jb s U H Q I h;refine isTrue_and (thn (ha jb s U H Q I h) λc s1 e=>?_);cases c with
 | true=>exact isTrue_and_nil e
 | false=>exact e
theorem Lk (ha:PT X a tA):PW X (.BoolOp .Or [a] pos) tA:=by
 intro wh jb s U H Q I h;refine isTrue_or (thn (ha jb s U H Q I h) λc s1 e=>?_);cases c with
 | false=>exact isTrue_or_nil e
 | true=>exact e
theorem au (ha:PT X a tA) (hb:PW X (.BoolOp .And (b::rest) pos) tB'):PW X (.BoolOp .And (a::b::rest) pos) (DU tA tB'):=by
 intro wh jb s U H Q I h;refine isTrue_and (thn (ha jb s U H _ I h) λc s1 zz=>?_);obtain⟨H1,I1,q1⟩:=zz;cases c with
 | true=>exact hb wh jb s1 U H1 Q I1 q1
 | false=>exact⟨H1,I1,q1⟩
theorem Lb (ha:PT X a tA) (hb:PW X (.BoolOp .Or (b::rest) pos) tB'):PW X (.BoolOp .Or (a::b::rest) pos) (tOr tA tB'):=by
 intro wh jb s U H Q I h;refine isTrue_or (thn (ha jb s U H _ I h) λc s1 zz=>?_);obtain⟨H1,I1,q1⟩:=zz;cases c with
 | true=>exact⟨H1,I1,q1⟩
 | false=>exact hb wh jb s1 U H1 Q I1 q1
theorem En (ha:PT X a tA):PT X (.UnaryOp .Not a pos) (DI tA):=by
 intro jb s U H Q I h;exact isTrue_not (ha jb s U H (λc H1=>Q (!c) H1) I h)
def B5 (ta tb:TE):TE:=fun U H Q=>ta U H λx H1=>∃c,x=.bl c/\if c=true then tb U H1 Q else Q (.bl false) H1
def DF (ta tb:TE):TE:=fun U H Q=>ta U H λx H1=>∃c,x=.bl c/\if c=true then Q (.bl true) H1 else tb U H1 Q
def B1 (ta:TE):TE:=fun U H Q=>ta U H λx H1=>∃c,x=.bl c/\Q (.bl (!c)) H1
theorem DG {op} {t:TE} (h:PE X a t):PE X (.BoolOp op [a] pos) t:=λjb s U H Q I hw=>BoolOp_one (h jb s U H Q I hw)
theorem EY (ha:PE X a ta) (hb:PE X (.BoolOp .And (b::rest) pos) tb):PE X (.BoolOp .And (a::b::rest) pos) (B5 ta tb):=by
 intro jb s U H Q I h;refine BoolOp_and (thn (ha jb s U H _ I h) λv s1 zz=>?_);obtain⟨x,H1,I1,r1,q1⟩:=zz;obtain⟨c,rfl,q1⟩:=q1;cases r1;refine Qbs ?_;cases c with
 | true=>exact hb jb s1 U H1 Q I1 q1
 | false=>exact⟨.bl false,H1,I1,rfl,q1⟩
theorem jx (ha:PE X a ta) (hb:PE X (.BoolOp .Or (b::rest) pos) tb):PE X (.BoolOp .Or (a::b::rest) pos) (DF ta tb):=by
 intro jb s U H Q I h;refine BoolOp_or (thn (ha jb s U H _ I h) λv s1 zz=>?_);obtain⟨x,H1,I1,r1,q1⟩:=zz;obtain⟨c,rfl,q1⟩:=q1;cases r1;refine Qbs ?_;cases c with
 | false=>exact hb jb s1 U H1 Q I1 q1
 | true=>exact⟨.bl true,H1,I1,rfl,q1⟩
theorem zR (ha:PE X a ta):PE X (.UnaryOp .Not a pos) (B1 ta):=by
 intro jb s U H Q I h;refine UnaryOp_ (thn (ha jb s U H _ I h) λv s1 zz=>?_);obtain⟨x,H1,I1,r1,q1⟩:=zz;obtain⟨c,rfl,q1⟩:=q1;cases r1;exact not_of (Qbs ⟨.bl (!c),H1,I1,rq,q1⟩)
def tIf (t:TT) (ta tb:TE):TE:=fun U H Q=>t U H λc H1=>if c=true then ta U H1 Q else tb U H1 Q
theorem aL {c:Expr} (hc:PT X c tA) (ha:PE X a ta) (hb:PE X b tb):PE X (.IfExp c a b pos) (tIf tA ta tb):=by
 intro jb s U H Q I h;refine wpAny_IfExp (thn (hc jb s U H _ I h) λd s1 zz=>?_);obtain⟨H1,I1,q1⟩:=zz;cases d with
 | true=>exact ha jb s1 U H1 Q I1 q1
 | false=>exact hb jb s1 U H1 Q I1 q1
end
def SqL (K:YD) (H:Hp) (a:Addr) (xs:YG):Prop:=
 Rd H a (.lst xs) \/
  ∃(o:Obj) (its:Array Value) (n:Nat),K.lookup a=some o/\o.cls=.type "list"/\o.dict=none/\o.data=.seq its n/\its.size<=sizeLine/\Vals xs its.toList
def SqT (K:YD) (H:Hp) (a:Addr) (xs:YG):Prop:=
 Rd H a (.tup xs) \/
  ∃(o:Obj) (its:Array Value) (n:Nat),K.lookup a=some o/\o.cls=.type "tuple"/\o.data=.seq its n/\its.size<=sizeLine/\Vals xs its.toList
def NE:Value->Option V
 | .none=>some .non
 | .bool b=>some (.bl b)
 | .int i _=>some (.int i)
 | .str x _=>some (.str x)
 | .bytes b _=>some (.byt b)
 | .float b _=>some (.flt b)
 | .ref a=>some (.ref a)
 | .type n=>some (.ty n)
 | _=>none
theorem RelV.abs {x:V} {u:Value} (r:RelV x u):NE u=some x:=by
 cases x with
 | non=>cases r;rfl
 | bl _=>cases r;rfl
 | int _=>obtain⟨t,rfl⟩:=r;rfl
 | str _=>obtain⟨t,rfl⟩:=r;rfl
 | byt _=>obtain⟨t,rfl⟩:=r;rfl
 | flt _=>obtain⟨t,rfl⟩:=r;rfl
 | ref _=>cases r;rfl
 | ty _=>cases r;rfl
theorem RelV.inj {x y:V} {u:Value} (r:RelV x u) (q:RelV y u):x=y:=QbN (r.abs.symm.trans q.abs)
theorem Vals.inj:∀{xs ys:YG} {us:YE},Vals xs us->Vals ys us->xs=ys
 | _,_,_,.nil,.nil=>rfl
 | _,_,_,.cons r t,.cons r' t'=>by rw[r.inj r',Vals.inj t t']
section
variable {X:Cx} {jb:YC} {U : St} {H:Hp} {s:Shared} {a:Addr} {xs ys:YG}
theorem SqL.of {K:YD} (h:H a=some (.lst xs)):SqL K H a xs:=.inl (.inl h)
theorem SqT.of {K:YD} (h:H a=some (.tup xs)):SqT K H a xs:=.inl (.inl h)
theorem Inv.list (I:Inv X jb U H s) (h:SqL X.K H a xs):∃its:YE,Vals xs its/\PlainL s.heap a its.toArray/\xs.length<=sizeLine:=by
 rcases h with h |⟨o,its,n,hk,hc,hd,hs,hz,r⟩
 ·obtain⟨z,its,n,r,e⟩:=h.ok I.hok;exact⟨its,r,⟨_,n,e,rq,rq,rq⟩,z⟩
 ·refine⟨its.toList,r,⟨o,n,I.kIn a o hk,hc,hd,by simpa using hs⟩,?_⟩;have e:=r.length;simp only[QaP] at e;omega
theorem Inv.tuple (I:Inv X jb U H s) (h:SqT X.K H a xs):∃its:YE,Vals xs its/\IsTup s.heap a its.toArray/\xs.length<=sizeLine:=by
 rcases h with h |⟨o,its,n,hk,hc,hs,hz,r⟩
 ·obtain⟨z,its,r,p⟩:=h.ok I.hok;exact⟨its,r,p,z⟩
 ·refine⟨its.toList,r,⟨o,I.kIn a o hk,hc,n,by simpa using hs⟩,?_⟩;have e:=r.length;simp only[QaP] at e;omega
theorem Inv.bI (I:Inv X jb U H s) (h:SqL X.K H a xs) (h':SqL X.K H a ys):xs=ys:=by
 obtain⟨its,r,⟨o,n,e,_,_,d⟩,_⟩:=I.list h;obtain⟨its',r',⟨o',n',e',_,_,d'⟩,_⟩:=I.list h';rw[e] at e';cases e';rw[d] at d';injection d' with d1 _;have:its=its':=by simpa using congrArg Array.toList d1
 subst this;exact r.inj r'
theorem Inv.XH (I:Inv X jb U H s) (h:SqT X.K H a xs) (h':SqT X.K H a ys):xs=ys:=by
 obtain⟨its,r,⟨o,e,_,n,d⟩,_⟩:=I.tuple h;obtain⟨its',r',⟨o',e',_,n',d'⟩,_⟩:=I.tuple h';rw[e] at e';cases e';rw[d] at d';injection d' with d1 _;have:its=its':=by simpa using congrArg Array.toList d1
 subst this;exact r.inj r'
end
abbrev Cx.wish (X:Cx) (E:YA):Cx:={ X with xe:=E }
abbrev Cx.nox (X:Cx):Cx:=X.wish λ_ _=>False
theorem Cx.Ok.wish {X:Cx} (ok:X.Ok) (E:YA):(X.wish E).Ok:=
 ⟨ok.mod,ok.kind,ok.glob,ok.blt,ok.above,ok.inj,ok.has,ok.cab,ok.hd,ok.frames,ok.stk,ok.exf,ok.bs,ok.bsz,ok.Xc,ok.Ss,ok.Ko,ok.frf⟩
theorem Cx.Ok.Lh {X:Cx} {E:YA} (ok:(X.wish E).Ok):X.Ok:=
 ⟨ok.mod,ok.kind,ok.glob,ok.blt,ok.above,ok.inj,ok.has,ok.cab,ok.hd,ok.frames,ok.stk,ok.exf,ok.bs,ok.bsz,ok.Xc,ok.Ss,ok.Ko,ok.frf⟩
section
variable {X:Cx} {jb:YC} {U : St} {H:Hp} {s:Shared} {E:YA}
theorem Inv.wish (I:Inv X jb U H s) (E:YA):Inv (X.wish E) jb U H s:=⟨I.ok.wish E,I.os,I.bare,I.base,I.loc,I.cell,I.free,I.Ir,I.pin,I.hok,I.len⟩
theorem Inv.Lh (I:Inv (X.wish E) jb U H s):Inv X jb U H s:=⟨I.ok.Lh,I.os,I.bare,I.base,I.loc,I.cell,I.free,I.Ir,I.pin,I.hok,I.len⟩
theorem SP.Lh {D:Ends} {f:Flow} {s':Shared} (h:SP (X.wish E) jb D f s'):SP X jb D f s':=by
 cases f with
 | next=>obtain⟨σ',H',I,q⟩:=h;exact⟨σ',H',I.Lh,q⟩
 | brk=>obtain⟨σ',H',I,q⟩:=h;exact⟨σ',H',I.Lh,q⟩
 | cont=>obtain⟨σ',H',I,q⟩:=h;exact⟨σ',H',I.Lh,q⟩
 | ret u=>obtain⟨v,σ',H',I,r,q⟩:=h;exact⟨v,σ',H',I.Lh,r,q⟩
theorem PSs.nox {st:List Stmt} {t:TS} (h:PSs X.nox st t):PSs X st t:=λjb s U H D I hw=>
 QcD (h jb s U H D (I.wish _) hw) (λ_ _ q=>q.Lh) λ_ _ z=>False.elim z
end
section
variable {X:Cx} {st:Stmt} {rest:List Stmt} {t u:TS} {e:Expr} {te:TE} {pos:Pos}
def B2:TS:=λD U H=>D.nx U H
def Al (t u:TS):TS:=λD U H=>t { D with nx:=u D } U H
theorem Bv:PSs X [] B2:=λ_ _ U H _ I h=>wpAny_execs_nil ⟨U,H,I,h⟩
theorem Ae (h1:PS X st t) (h2:PSs X rest u):PSs X (st::rest) (Al t u):=by
 intro jb s U H D I h;refine wpAny_execs_cons (thn (h1 jb s U H { D with nx:=u D } I h) λf s1 q=>?_);cases f with
 | next=>
  obtain⟨σ',H',I',q⟩:=q;exact h2 jb s1 σ' H' D I' q
 | ret v=>exact q
 | brk=>exact q
 | cont=>exact q
theorem Ah (h1:PS X st t):PSs X [st] t:=by
 intro jb s U H D I h;refine wpAny_execs_cons (thn (h1 jb s U H D I h) λf s1 q=>?_);cases f with
 | next=>exact wpAny_execs_nil q
 | ret v=>exact q
 | brk=>exact q
 | cont=>exact q
def zx:TS:=λD U H=>D.bk U H
theorem NK:PS X (.Break pos) zx:=λ_ _ U H _ I h=>wpAny_Break ⟨U,H,I,h⟩
theorem Inv.quiet {jb:YC} {U : St} {H:Hp} {s:Shared} (I:Inv X jb U H s):interactive X.env=false:=by simp[interactive,I.ok.kind]
def B3 (te:TE):TS:=λD U H=>te U H λ_ H1=>D.nx U H1
theorem Bk (he:PE X e te) (hs:swapsWith e none pos.line X.env=pure false:=by rfl):PS X (.Expr e pos) (B3 te):=by
 intro jb s U H D I h;refine wpAny_Expr_any (thn (he jb s U H _ I h) λv s1 zz=>?_) I.quiet hs;obtain⟨x,H1,I1,r1,q1⟩:=zz;exact⟨U,H1,I1,q1⟩
def DE (te:TE):TS:=λD U H=>te U H D.rt
theorem Bc (he:PE X e te):PS X (.Return (some e) pos) (DE te):=by
 intro jb s U H D I h;refine wpAny_Return_some (thn (he jb s U H _ I h) λv s1 zz=>?_);obtain⟨x,H1,I1,r1,q1⟩:=zz;exact⟨x,U,H1,I1,r1,q1⟩
def FQ (c:TT) (t u:TS):TS:=λD U H=>c U H λb H1=>if b=true then t D U H1 else u D U H1
theorem BX {c:Expr} {a b:List Stmt} {tc:TT} (hc:PT X c tc) (ha:PSs X a t) (hb:PSs X b u):PS X (.If c a b pos) (FQ tc t u):=by
 intro jb s U H D I h;refine wpAny_If (thn (hc jb s U H _ I h) λd s1 zz=>?_);obtain⟨H1,I1,q1⟩:=zz;cases d with
 | true=>exact ha jb s1 U H1 D I1 q1
 | false=>exact hb jb s1 U H1 D I1 q1
def yX:TS:=λ_ _ _=>False
theorem QB:PS X st yX:=λ_ _ _ _ _ _ h=>h.elim
end
abbrev TG:=V->St->Hp->(YO)->Prop
abbrev TGs:=YG->St->Hp->(YO)->Prop
def PG (X:Cx) (target:Expr) (t:TG):Prop:=
 ∀(jb:YC) (s:Shared) (U : St) (H:Hp) (v:V) (u:Value) (Q:YO),Inv X jb U H s->RelV v u->t v U H Q ->
  wpAny (model X.prog X.w) X.A (assign target X.env u) (λ_ s'=>∃ σ' H',Inv X jb σ' H' s'/\Q σ' H') X.xe s
def PGs (X:Cx) (ts:YJ) (t:TGs):Prop:=
 ∀(jb:YC) (s:Shared) (U : St) (H:Hp) (vs:YG) (us:YE) (Q:YO),Inv X jb U H s->Vals vs us->t vs U H Q ->
  wpAny (model X.prog X.w) X.A (assignInOrder ((assignEach ts X.env).map (·.2)) us) (λ_ s'=>∃ σ' H',Inv X jb σ' H' s'/\Q σ' H') X.xe s
abbrev uU:=V->V->V->Hp->(Hp->Prop)->Prop
def BQ (X:Cx) (t:uU):Prop:=
 ∀(jb:YC) (s:Shared) (U : St) (H:Hp) (o i v:V) (ov iv u:Value) (Q:Hp->Prop),Inv X jb U H s->RelV o ov->RelV i iv->RelV v u->t o i v H Q ->
  wpAny (model X.prog X.w) X.A (setItem ov iv u) (λ_ s'=>∃H',Inv X jb U H' s'/\Q H') X.xe s
abbrev TIp:=V->V->Hp->VK->Prop
def PIp (X:Cx) (op:Operator) (t:TIp):Prop:=
 ∀(jb:YC) (s:Shared) (U : St) (H:Hp) (x y:V) (v u:Value) (Q:VK),Inv X jb U H s->RelV x v->RelV y u->t x y H Q ->
  wpAny (model X.prog X.w) X.A (inplaceOp op v u) (EP X jb U Q) X.xe s
section
variable {X:Cx} {pos:Pos}
def FN (i:Nat):TG:=λv U H Q=>Q (U.set i (some v)) H
theorem Aj {i:Nat} {x:Str} (hN:X.N.Nodup) (hi:X.N[i]?=some x) (hx:Loc X.env.scope x) (hf:X.fn x=true\/X.env.scope.names.lookup x=some .local:=by first | exact .inl rfl | exact .inr rfl | assumption):PG X (.Name x pos) (FN i):=by
 intro jb s U H v u Q I r h;exact wpAny_assign_Name (Nk I hN hi hx r (λs' I'=>⟨_,H,I',h⟩) hf)
def KF:TGs:=λvs U H Q=>vs=[]/\Q U H
def C7 (t:TG) (u:TGs):TGs:=λvs U H Q=>∃v r,vs=v::r/\t v U H fun σ' H'=>u r σ' H' Q
theorem Bt:PGs X [] KF:=by
 intro jb s U H vs us Q I r h;obtain⟨e,h⟩:=h;subst e;cases r;exact assignInOrder_nil ⟨U,H,I,h⟩
theorem Aq {e:Expr} {es:YJ} {t:TG} {u:TGs} (h1:PG X e t) (h2:PGs X es u)
  (hs:(assignEach (e::es) X.env).map (·.2)=assign e X.env::(assignEach es X.env).map (·.2):=by rfl):PGs X (e::es) (C7 t u):=by
 intro jb s U H vs us Q I r h;obtain⟨v,vr,e1,h⟩:=h;subst e1;cases r with
 | cons r rr=>
  rw[hs];refine assignInOrder_cons (thn (h1 jb s U H _ _ _ I r h) λ_ s1 zz=>?_);obtain⟨σ1,H1,I1,q1⟩:=zz;exact h2 jb s1 σ1 H1 _ _ Q I1 rr q1
def A8 (K:YD) (n:Nat) (t:TGs):TG:=λv U H Q=>∃a xs,v=.ref a/\SqT K H a xs/\xs.length=n/\t xs U H Q
theorem CQ {es:YJ} {k:Nat} {t:TGs} {n:Nat} (hc:X.calm=true) (h:PGs X es t)
  (hn:(assignEach es X.env).length=n:=by rfl) (hst:(assignEach es X.env).findIdx? (·.1)=none:=by rfl):PG X (.Tuple es k pos) (A8 X.K n t):=by
 intro jb s U H v u Q I r hw;obtain⟨a,xs,e1,hq,hl,hw⟩:=hw;subst e1;cases r;obtain⟨its,rv,ht,hz⟩:=I.tuple hq;refine assign_Tuple_tuple (I.ok.hd hc) ht (by simp[hn,<-hl,rv.length]) hst λh' hx=>?_;have I1:Inv X jb U H { s with heap:=h' }:=I.kept (t':=s.toks) λb o e=>hx b o (Qcp (Qco e)) e;exact h jb _ U H xs _ Q I1 (by simpa using rv) hw
def KE (to ti:TE) (t:uU):TG:=λv U H Q=>to U H λo H1=>ti U H1 λi H2=>t o i v H2 λH3=>Q U H3
theorem aJ {o i:Expr} {to ti:TE} {t:uU} (ho:PE X o to) (hi:PE X i ti) (hs:BQ X t)
  (ha:∀v,assign (.Subscript o i pos) X.env v=(do
   let ov <-holding [v] (eval o X.env);let iv <-holding [v,ov] (eval i X.env)
   standAt pos
   holding [v,ov,iv] (setItem ov iv v)
   release [v,ov,iv] []):=by intro _;rfl):PG X (.Subscript o i pos) (KE to ti t):=by
 intro jb s U H v u Q I r h;rw[ha];refine QcB (Qch (thn (ho jb s U H _ I h) λov s1 zz=>?_));obtain⟨x,H1,I1,r1,q1⟩:=zz;refine QcB (Qch (thn (hi jb s1 U H1 _ I1 q1) λiv s2 zz=>?_));obtain⟨y,H2,I2,r2,q2⟩:=zz;refine QcB (Qck (QcB (Qch (thn (hs jb s2 U H2 x y v ov iv u _ I2 r1 r2 r q2) λ_ s3 zz=>?_))));obtain⟨H3,I3,q3⟩:=zz;exact wpAny_release ⟨U,H3,I3,q3⟩
def Zh (te:TE) (g:TG):TS:=λD U H=>te U H λx H1=>g x U H1 D.nx
theorem G5 {tg e:Expr} {te:TE} {g:TG} (he:PE X e te) (hg:PG X tg g) (hs:swapsWithSole [tg] e pos.line X.env=pure false:=by rfl) (hw:swappedStores [tg] e X.env=pure none:=by rfl)
  (h1:(assignEach [tg] X.env).map (·.2)=[assign tg X.env]:=by rfl):PS X (.Assign [tg] e pos) (Zh te g):=by
 intro jb s U H D I h;refine wpAny_Assign_stores (thn (he jb s U H _ I h) λv s1 zz=>?_) hs hw;obtain⟨x,H1,I1,r1,q1⟩:=zz;rw[h1];exact thn (hg jb s1 U H1 x v _ I1 r1 q1) λ_ s2 q=>q
theorem Bb {i:Nat} {x:Str} {e:Expr} {te:TE} {pos':Pos} (hN:X.N.Nodup) (hi:X.N[i]?=some x) (hx:Loc X.env.scope x) (he:PE X e te) (hs:swapsWith e (some (.Name x pos')) pos.line X.env=pure false:=by rfl) (hf:X.fn x=true\/X.env.scope.names.lookup x=some .local:=by first | exact .inl rfl | exact .inr rfl | assumption) :
  PS X (.Assign [.Name x pos'] e pos) (Zh te (FN i)):=by
 intro jb s U H D I h;refine wpAny_Assign_Name (thn (he jb s U H _ I h) λv s1 zz=>?_) hs;obtain⟨y,H1,I1,r1,q1⟩:=zz;exact Nk I1 hN hi hx r1 (λs2 I2=>⟨_,H1,I2,q1⟩) hf
def DT (i:Nat) (te:TE) (ti:TIp):TS:=λD U H=>∃x,U[i]?=some (some x)/\te U H λy H1=>ti x y H1 λz H2=>D.nx (U.set i (some z)) H2
theorem mY {i:Nat} {x:Str} {e:Expr} {te:TE} {op:Operator} {ti:TIp} {pos':Pos} (hN:X.N.Nodup) (hi:X.N[i]?=some x) (hx:Loc X.env.scope x) (he:PE X e te) (ho:PIp X op ti) (hf:X.fn x=true\/X.env.scope.names.lookup x=some .local:=by first | exact .inl rfl | exact .inr rfl | assumption) :
  PS X (.AugAssign (.Name x pos') op e pos) (DT i te ti):=by
 intro jb s U H D I h;obtain⟨v,e1,h⟩:=h;obtain⟨m,hn,hl⟩:=I.loc;have vis:Vis X.env.scope x:=by rcases hx with k | k;exact .inl k;exact .inr (.inl k)
 obtain⟨u,r,l⟩:=hl i x v hi e1 vis;refine wpAny_AugAssign_Name ?_;have go:wpAny (model X.prog X.w) X.A (eval e X.env) (λw s₂=>wpAny (model X.prog X.w) X.A (inplaceOp op u w) (λr s₃=>wpAny (model X.prog X.w) X.A (storeName X.env x r) (λ_=>SP X jb D .next) X.xe s₃) X.xe s₂) X.xe s:=by
  refine thn (he jb s U H _ I h) λw s1 zz=>?_;obtain⟨y,H1,I1,r1,q1⟩:=zz;refine thn (ho jb s1 U H1 v y u w _ I1 r r1 q1) λz s2 zz=>?_;obtain⟨zv,H2,I2,r2,q2⟩:=zz;exact Nk I2 hN hi hx r2 (λs3 I3=>⟨_,H2,I3,q2⟩) hf
 rcases l with⟨hk,hm⟩|⟨hk,c,hc,hcell⟩
 ·exact wpAny_loadName_local I.ok.kind hk hn hm go
 ·rcases hk with hk | hk
  ·exact wpAny_loadName_cell I.ok.kind hk hc hcell go
  ·rcases hx with k | k
   ·have:X.env.scope.names.lookup x=some .free:=hk;rw[k] at this;cases this
   ·have:X.env.scope.names.lookup x=some .free:=hk;rw[k] at this;cases this
def ipI (f:Int->Int->Int):TIp:=λx y H Q=>∃i j,x=.int i/\y=.int j/\Q (.int (f i j)) H
theorem oN:PIp X .Add (ipI λi j=>i+j):=by
 intro jb s U H x y v u Q I r1 r2 h;obtain⟨i,j,e1,e2,q⟩:=h;subst e1;subst e2;obtain⟨t,rfl⟩:=r1;obtain⟨t',rfl⟩:=r2;exact iadd_int ⟨.int _,H,I.tok _,⟨_,rq⟩,q⟩
end
section
variable {X:Cx} {pos:Pos}
abbrev YN:=Nat->YO
def Zf (c:TT) (tb:TS):TS:=λD U H=>∃W:YN,(∃m,W m U H)/\∀m U H,W m U H ->
 c U H λb H1=>if b=true then ∃N:YO,(∀ σ' H',N σ' H'->∃m',m' < m/\W m' σ' H')/\tb { D with nx:=N,ct:=N,bk:=D.nx } U H1 else D.nx U H1
theorem aB {c:Expr} {body:List Stmt} {tc:TT} {tb:TS} (hp:PassesOwn (model X.prog X.w) X.A X.env X.xe) (hc:PT X c tc) (hb:PSs X body tb):PS X (.While c body [] pos) (Zf tc tb):=by
 intro jb s U H D I h;obtain⟨W,⟨m0,w0⟩,turn⟩:=h;refine wpAny_While (codeAny_whileLoop (λn s'=>∃ σ' H',Inv X jb σ' H' s'/\W n σ' H') ?_ m0 ⟨U,H,I,w0⟩);rintro n s1 ⟨σ1,H1,I1,w1⟩;refine QbT hp (thn (hc jb s1 σ1 H1 _ I1 (turn n σ1 H1 w1)) λb s2 zz=>?_);obtain⟨H2,I2,q2⟩:=zz;cases b with
 | true=>
  obtain⟨N,hN,q2⟩:=q2;rw[if_pos rfl];refine QbT hp (thn (hb jb s2 σ1 H2 _ I2 q2) λf s3 q3=>?_);cases f with
  | next=>
   obtain⟨σ3,H3,I3,n3⟩:=q3;obtain⟨m',hm,w3⟩:=hN σ3 H3 n3;exact⟨m',hm,σ3,H3,I3,w3⟩
  | cont=>
   obtain⟨σ3,H3,I3,n3⟩:=q3;obtain⟨m',hm,w3⟩:=hN σ3 H3 n3;exact⟨m',hm,σ3,H3,I3,w3⟩
  | brk=>exact q3
  | ret v=>exact q3
 | false=>
  rw[if_neg QaW];exact wpAny_execs_nil ⟨σ1,H2,I2,q2⟩
end
structure It where
 go:Nat->Hp->Prop
 yld:Nat->Hp->V->Hp->Prop
 stop:Nat->Hp->Prop
def GK (X:Cx) (jb:YC) (H:Hp) (b:Addr):Prop:=
 H b=none/\b≠X.env.locals/\b∉X.fs/\(b∈X.ex\/X.s₀.heap.objs.size<=b)/\(∀x c,X.env.cells.lookup x=some c->c≠b)/\∀p∈X.pn++jb,p.1≠b
theorem Inv.PX {X:Cx} {jb:YC} {U : St} {H H':Hp} {s:Shared} {b:Addr} (I:Inv X jb U H s) (hb:s.heap.objs.size<=b) (hn:H' b=none):GK X jb H' b:=by
 refine⟨hn,Qct (Qba I.lt hb),I.tK hb,.inr (Qcr I.sz hb),λx c e z=>?_,λp hp z=>?_⟩
 ·obtain⟨v,q⟩:=I.cell x c e;exact absurd (Qba q.lt (by rw[z];exact hb)) (Qcg _)
 ·exact absurd (Qba (Qco (I.pin p hp).1) (by rw[z];exact hb)) (Qcg _)
structure Turn (P:Program) (w:World) (K:YD) (tg:Expr) (J:It) (fp:List Addr) (it:Addr) (tn:Nat->Heap->Prop):Prop where
 mem:it∈fp
 obj:∀i h,tn i h->∀b∈fp,∃o,h.get? b=some o/\∀v,o.data≠.cell v
 keep:∀i h h',tn i h->(∀b∈fp,∀o,h.get? b=some o->h'.get? b=some o)->tn i h'
 item:∀(X:Cx),X.prog=P->X.w=w->X.K=K->X.calm=true->∀(i:Nat) (jb:YC) (s:Shared) (U : St) (H:Hp) (E:YA),Inv X jb U H s->(∀b∈fp,GK X jb H b)->tn i s.heap->J.go i H ->
  wpAny (model P w) X.A (pyNext (.ref it)) (λr s1=>∃u,r=some u /\
   wpAny (model P w) X.A (letOwnedTupleGo tg (.ref it) u) (λ_ s2=>∃x H',Inv X jb U H' s2/\RelV x u/\J.yld i H x H'/\tn (i+1) s2.heap/\∀b∈fp,H' b=none) E s1) E s
 done:∀(X:Cx),X.prog=P->X.w=w->X.K=K->X.calm=true->∀(i:Nat) (jb:YC) (s:Shared) (U : St) (H:Hp) (E:YA),Inv X jb U H s->(∀b∈fp,GK X jb H b)->tn i s.heap->J.stop i H ->
  wpAny (model P w) X.A (pyNext (.ref it)) (λr s1=>r=none/\Inv X jb U H s1) E s
 self:∀(A:Around) (i:Nat) (s:Shared) (Q:YA) (E:YA),tn i s.heap->Q (.ref it) s->wpAny (model P w) A (pyIter (.ref it)) Q E s
abbrev TI:=St->Hp->(It->Hp->Prop)->Prop
def PIE (X:Cx) (jb:YC) (U : St) (tg:Expr) (R:It->Hp->Prop) (itv:Value) (s2:Shared):Prop:=
 ∃(it:Addr) (fp:List Addr) (tn:Nat->Heap->Prop) (J:It) (H':Hp),itv=.ref it/\Inv X jb U H' s2/\Turn X.prog X.w X.K tg J fp it tn/\tn 0 s2.heap/\(∀b∈fp,GK X jb H' b)/\R J H'
def PI (X:Cx) (tg iter:Expr) (wi:TI):Prop:=
 ∀(jb:YC) (s:Shared) (U : St) (H:Hp) (R:It->Hp->Prop),Inv X jb U H s->wi U H R ->
  wpAny (model X.prog X.w) X.A (eval iter X.env) (λv s1=>wpAny (model X.prog X.w) X.A (pyIter v) (PIE X jb U tg R) X.xe s1) X.xe s
theorem T6 {M:Model} {A:Around} {E:YA} {s:Shared} {tg:Expr} {it:Addr} {u:Value} {o:Obj} {n:String} {vs:Array Value} {Q:YH} (ho:s.heap.get? it=some o) (hc:o.cls=.type n) (hd:o.data=.fields vs)
    (hn:["enumerate","zip","dict_itemiterator","dict_reverseitemiterator","odict_iterator","itertools.zip_longest","itertools.pairwise"].contains n=false) (hQ:Q () s):wpAny M A (letOwnedTupleGo tg (.ref it) u) Q E s:=by
  unfold letOwnedTupleGo;cases tg <;> first
    | exact QcC hQ
    | (cases u <;> first
        | exact QcC hQ
        | (refine QcB (wpAny_load ho ?_)
           rw[hc,hd];show wpAny M A (if (["enumerate","zip","dict_itemiterator","dict_reverseitemiterator","odict_iterator","itertools.zip_longest","itertools.pairwise"].contains n&&vs[0]? == some (rawInt _))=true then _ else _) Q E s
           rw[if_neg (by intro h;rw[hn,Bool.false_and] at h;cases h)];exact QcC hQ))
def Itl (K:YD) (a:Addr):It:=
 ⟨λi H=>∃xs x,SqL K H a xs/\xs[i]?=some x,λi H x H'=>H'=H/\∀xs,SqL K H a xs->xs[i]?=some x,λi H=>∃xs,SqL K H a xs/\xs.length<=i⟩
def Itt (K:YD) (a:Addr):It:=
 ⟨λi H=>∃xs x,SqT K H a xs/\xs[i]?=some x,λi H x H'=>H'=H/\∀xs,SqT K H a xs->xs[i]?=some x,λi H=>∃xs,SqT K H a xs/\xs.length<=i⟩
def Itr (lo:Int) (n:Nat):It:=⟨λi _=>i < n,λi H x H'=>H'=H/\x=.int (lo+i),λi _=>n<=i⟩
theorem lM {P:Program} {w:World} {K:YD} {tg:Expr} (a it:Addr):Turn P w K tg (Itl K a) [it] it (λi h=>h.IsListIter it a i) where
 mem:=by simp
 obj:=λi h st b hb=>by
  have e:b=it:=by simpa using hb
  subst e;obtain⟨o,e,c,d⟩:=st;exact⟨o,e,λv z=>by rw[d] at z;cases z⟩
 keep:=λi h h' st k=>st.at λo e=>k it (by simp) o e
 item:=by
  intro X hP hw hK hc i jb s U H E I hf st hg;subst hP hw hK;obtain⟨xs,x,hq,hx⟩:=hg;obtain⟨its,rv,p,hz⟩:=I.list hq;obtain⟨u,hu,ru⟩:=rv.get hx;obtain⟨f0,f1,f2,f3,f4,f5⟩:=hf it (by simp);refine wpAny_pyNext_list_item st p.isList (x:=u) (by simpa using hu) λh' st' sb=>?_;have I1:Inv X jb U H { s with heap:=h' }:=I.turned (t':=s.toks) (λb o hb e=>(sb.2 b hb).trans e) f0 f1 f3 f4 f5;obtain⟨o,e,c,d⟩:=id st';exact⟨u,rq,T6 (s:={ s with heap:=h' }) e c d (by decide) ⟨x,H,I1,ru,⟨rq,λys hy=>by rw[I.bI hy hq];exact hx⟩,st',λb hb=>(hf b hb).1⟩⟩
 done:=by
  intro X hP hw hK hc i jb s U H E I hf st hg;subst hP hw hK;obtain⟨xs,hq,hx⟩:=hg;obtain⟨its,rv,p,hz⟩:=I.list hq;obtain⟨f0,f1,f2,f3,f4,f5⟩:=hf it (by simp);have hl:=rv.length;exact wpAny_pyNext_list_end (I.ok.hd hc) st p.isList (by simp;omega) λh' eb=>⟨rq,I.turned (t':=s.toks) (λb o hb e=>eb b o hb e) f0 f1 f3 f4 f5⟩
 self:=λ_ _ _ _ _ st h=>wpAny_pyIter_listiter st h
theorem iU {P:Program} {w:World} {K:YD} {tg:Expr} (a it:Addr):Turn P w K tg (Itt K a) [it] it (λi h=>h.IsTupleIter it a i) where
 mem:=by simp
 obj:=λi h st b hb=>by
  have e:b=it:=by simpa using hb
  subst e;obtain⟨o,e,c,d⟩:=st;exact⟨o,e,λv z=>by rw[d] at z;cases z⟩
 keep:=λi h h' st k=>st.at λo e=>k it (by simp) o e
 item:=by
  intro X hP hw hK hc i jb s U H E I hf st hg;subst hP hw hK;obtain⟨xs,x,hq,hx⟩:=hg;obtain⟨its,rv,p,hz⟩:=I.tuple hq;obtain⟨u,hu,ru⟩:=rv.get hx;obtain⟨f0,f1,f2,f3,f4,f5⟩:=hf it (by simp);refine wpAny_pyNext_tuple_item st (show s.heap.IsTuple a its.toArray from p) (x:=u) (by simpa using hu) λh' st' sb=>?_
  have I1:Inv X jb U H { s with heap:=h' }:=I.turned (t':=s.toks) (λb o hb e=>(sb.2 b hb).trans e) f0 f1 f3 f4 f5;obtain⟨o,e,c,d⟩:=id st';exact⟨u,rq,T6 (s:={ s with heap:=h' }) e c d (by decide) ⟨x,H,I1,ru,⟨rq,λys hy=>by rw[I.XH hy hq];exact hx⟩,st',λb hb=>(hf b hb).1⟩⟩
 done:=by
  intro X hP hw hK hc i jb s U H E I hf st hg;subst hP hw hK;obtain⟨xs,hq,hx⟩:=hg;obtain⟨its,rv,p,hz⟩:=I.tuple hq;obtain⟨f0,f1,f2,f3,f4,f5⟩:=hf it (by simp);have hl:=rv.length;exact wpAny_pyNext_tuple_end (I.ok.hd hc) st (show s.heap.IsTuple a its.toArray from p) (by simp;omega) λh' eb=>⟨rq,I.turned (t':=s.toks) (λb o hb e=>eb b o hb e) f0 f1 f3 f4 f5⟩
 self:=λ_ _ _ _ _ st h=>wpAny_pyIter_tupleiter st h
theorem iV {P:Program} {w:World} {K:YD} {tg:Expr} (it:Addr) (lo:Int) (n:Nat):Turn P w K tg (Itr lo n) [it] it (λi h=>IsRangeIter h it (lo+(i:Nat)*1) ((n:Int) - (i:Nat)) 1) where
 mem:=by simp
 obj:=λi h st b hb=>by
  have e:b=it:=by simpa using hb
  subst e;exact⟨_,st,λv z=>by
   have z':Data.fields _=Data.cell v:=z;cases z'⟩
 keep:=λi h h' st k=>k it (by simp) _ st
 item:=by
  intro X hP hw hK hc i jb s U H E I hf st hg;subst hP hw hK;obtain⟨f0,f1,f2,f3,f4,f5⟩:=hf it (by simp);have W:=Walks.range (prog:=X.prog) (w:=X.w) (I.ok.hd hc) it lo 1 n;refine W.item i s _ _ hg st λv h' tk hv st' kk=>?_;obtain⟨t,rfl⟩:=hv;have I1:Inv X jb U H { s with heap:=h',toks:=tk }:=I.turned (λb o hb e=>kk b o (by simpa using hb) e) f0 f1 f3 f4 f5;refine⟨_,rq,T6 (s:={ s with heap:=h',toks:=tk }) (n:="range_iterator") st' rfl rfl (by decide) ⟨.int (lo+i),H,I1,⟨t,?_⟩,⟨rq,rq⟩,st',λb hb=>(hf b hb).1⟩⟩;rw[Int.mul_one]
 done:=by
  intro X hP hw hK hc i jb s U H E I hf st hg;subst hP hw hK;obtain⟨f0,f1,f2,f3,f4,f5⟩:=hf it (by simp);exact wpAny_pyNext_range_end (I.ok.hd hc) st (by have:n<=i:=hg;omega) λh' eb=>⟨rq,I.turned (t':=s.toks) (λb o hb e=>eb b o hb e) f0 f1 f3 f4 f5⟩
 self:=λ_ _ _ _ _ st h=>wpAny_pyIter_rangeiter st h
section
variable {X:Cx} {tg:Expr}
def CU (K:YD) (tl:TE):TI:=fun U H R=>tl U H λx H1=>∃a,x=.ref a/\(∃xs,SqL K H1 a xs)/\R (Itl K a) H1
def G1 (K:YD) (tl:TE):TI:=fun U H R=>tl U H λx H1=>∃a,x=.ref a/\(∃xs,SqT K H1 a xs)/\R (Itt K a) H1
theorem Du {l:Expr} {tl:TE} (hl:PE X l tl):PI X tg l (CU X.K tl):=by
 intro jb s U H R I h;refine thn (hl jb s U H _ I h) λv s1 zz=>?_;obtain⟨x,H1,I1,r1,q1⟩:=zz;obtain⟨a,e,⟨xs,hq⟩,q⟩:=q1;subst e;cases r1;obtain⟨its,rv,p,hz⟩:=I1.list hq;refine Qbt p.isList ?_;refine⟨s1.heap.objs.size,[s1.heap.objs.size],_,_,H1,rq,I1.kept (t':=s1.toks) λb o e=>Qax _ e,lM a _,⟨_,QaM _ rfl,rq,rq⟩,λb hb=>?_,q⟩;have e:b=s1.heap.objs.size:=by simpa using hb
 subst e;exact I1.PX (Qcw _) (I1.hok.fresh (Qcw _))
theorem Fp {l:Expr} {tl:TE} (hl:PE X l tl):PI X tg l (G1 X.K tl):=by
 intro jb s U H R I h;refine thn (hl jb s U H _ I h) λv s1 zz=>?_;obtain⟨x,H1,I1,r1,q1⟩:=zz;obtain⟨a,e,⟨xs,hq⟩,q⟩:=q1;subst e;cases r1;obtain⟨its,rv,p,hz⟩:=I1.tuple hq;refine Qbc (show s1.heap.IsTuple a its.toArray from p) ?_
 refine⟨s1.heap.objs.size,[s1.heap.objs.size],_,_,H1,rq,I1.kept (t':=s1.toks) λb o e=>Qax _ e,iU a _,⟨_,QaM _ rfl,rq,rq⟩,λb hb=>?_,q⟩;have e:b=s1.heap.objs.size:=by simpa using hb
 subst e;exact I1.PX (Qcw _) (I1.hok.fresh (Qcw _))
theorem aq {jb:YC} {U : St} {H:Hp} {s:Shared} {R:It->Hp->Prop} {E:YA} {lo hi:Int} {t u v:Tok} {tk:Nat} (I:Inv X jb U H s) (h1:-(2 ^ 62)<=lo) (h2:lo < 2 ^ 62) (h3:-(2 ^ 62)<=hi) (h4:hi < 2 ^ 62)
  (q:R (Itr lo (hi - lo).toNat) H):wpAny (model X.prog X.w) X.A (pyIter (.ref s.heap.objs.size)) (PIE X jb U tg R) E { s with heap:=s.heap.push { cls:=.type "range",data:=.fields #[.int lo t,.int hi u,.int 1 v] },toks:=tk }:=by
 refine wpAny_pyIter_range (IsRange.new ..) (small_one h1 h2 h3 h4) ?_;have I1:Inv X jb U H { s with heap:=s.heap.push { cls:=.type "range",data:=.fields #[.int lo t,.int hi u,.int 1 v] },toks:=tk }:=I.kept λb o e=>Qax _ e;refine⟨(s.heap.push { cls:=.type "range",data:=.fields #[.int lo t,.int hi u,.int 1 v] }).objs.size,[(s.heap.push { cls:=.type "range",data:=.fields #[.int lo t,.int hi u,.int 1 v] }).objs.size],_,_,H,rq,
  I1.kept (t':=tk) λb o e=>Qax _ e,iV _ lo (hi - lo).toNat,?_,λb hb=>?_,q⟩
 ·have e1:lo+((0:Nat):Int)*1=lo:=by simp
  have e2:(((hi - lo).toNat:Nat):Int) - ((0:Nat):Int)=Builtin.Range.rangeSize lo hi 1:=by rw[rangeSize_one];split <;> omega
  show IsRangeIter _ _ (lo+((0:Nat):Int)*1) ((((hi - lo).toNat:Nat):Int) - ((0:Nat):Int)) 1;rw[e1,e2];exact QaM _ rfl
 ·have e:b=(s.heap.push { cls:=.type "range",data:=.fields #[.int lo t,.int hi u,.int 1 v] }).objs.size:=by simpa using hb
  subst e;exact I1.PX (Qcw _) (I1.hok.fresh (Qcw _))
def CS (ta:TA):TI:=fun U H R=>ta U H λvs H1=>∃j:Int,vs=[.int j]/\-(2 ^ 62)<=j/\j < 2 ^ 62/\R (Itr 0 j.toNat) H1
def CO (ta:TA):TI:=fun U H R=>ta U H λvs H1=>∃i j:Int,vs=[.int i,.int j]/\(-(2 ^ 62)<=i/\i < 2 ^ 62/\-(2 ^ 62)<=j/\j < 2 ^ 62)/\R (Itr i (j - i).toNat) H1
theorem CT {a:Expr} {ta:TA} {p pos:Pos} (hg:Gl X "range") (hm:X.mg "range"=none) (ha:PA X [a] ta) (hs:starEach [a] X.env=[(false,eval a X.env)]:=by rfl):PI X tg (.Call (.Name "range" p) [a] [] pos) (CS ta):=by
 intro jb s U H R I h;refine Call_ (Jf I hg hm boot_range (Qae (thn (ha pos jb s U H _ I h) λus s1 zz=>?_) hs rfl));obtain⟨vs,H1,I1,r1,q1⟩:=zz;obtain⟨j,e,q1,q2,q⟩:=q1;subst e;cases r1 with
 | cons r rr=>
  cases rr;obtain⟨t,rfl⟩:=r;exact call_range_1 (aq I1 (by omega) (by omega) q1 q2 (by simpa using q))
theorem nC {a b:Expr} {ta:TA} {p pos:Pos} (hg:Gl X "range") (hm:X.mg "range"=none) (ha:PA X [a,b] ta) (hs:starEach [a,b] X.env=[(false,eval a X.env),(false,eval b X.env)]:=by rfl) (hs2:starEach [b] X.env=[(false,eval b X.env)]:=by rfl) :
  PI X tg (.Call (.Name "range" p) [a,b] [] pos) (CO ta):=by
 intro jb s U H R I h;refine Call_ (Jf I hg hm boot_range (Qae (thn (ha pos jb s U H _ I h) λus s1 zz=>?_) (by rw[hs,hs2]) (by rw[hs2];rfl)));obtain⟨vs,H1,I1,r1,q1⟩:=zz;obtain⟨i,j,e,⟨q1,q2,q3,q4⟩,q⟩:=q1;subst e;cases r1 with
 | cons r rr=>
  cases rr with
  | cons r' rr=>
   cases rr;obtain⟨t,rfl⟩:=r;obtain⟨t',rfl⟩:=r';exact call_range_2 (aq I1 q1 q2 q3 q4 q)
def Dg (wi:TI) (g:TG) (tb:TS):TS:=λD U H=>wi U H λJ H1=>∃W:Nat->YN,(∃m,W 0 m U H1)/\∀i m U H,W i m U H ->
 (J.stop i H/\D.nx U H)\/(J.go i H/\∃N:YO,(∀ σ' H',N σ' H'->∃m',m' < m/\W (i+1) m' σ' H')/\∀x H',J.yld i H x H'->g x U H' fun σ2 H2=>tb { D with nx:=N,ct:=N,bk:=D.nx } σ2 H2)
def NQ (fp:List Addr) (h:Heap):YC:=fp.filterMap λb=>(h.get? b).map λo=>(b,o)
theorem Kg {fp:List Addr} {h:Heap} {b:Addr} {o:Obj} (hb:b∈fp) (e:h.get? b=some o):(b,o)∈NQ fp h:=List.mem_filterMap.mpr ⟨b,hb,by rw[e];rfl⟩
theorem nY {fp:List Addr} {h:Heap} {p:Addr×Obj} (hp:p∈NQ fp h):p.1∈fp/\h.get? p.1=some p.2:=by
 obtain⟨b,hb,e⟩:=List.mem_filterMap.mp hp;cases q:h.get? b with
 | none=>rw[q] at e;cases e
 | some o=>
  rw[q] at e;have e':(b,o)=p:=QbN e;subst e';exact⟨hb,q⟩
theorem Inv.pinned {jb:YC} {U : St} {H:Hp} {s:Shared} {fp:List Addr} (I:Inv X jb U H s) (hf:∀b∈fp,GK X jb H b) (ho:∀b∈fp,∃o,s.heap.get? b=some o/\∀v,o.data≠.cell v):Inv X (jb++NQ fp s.heap) U H s:=
 I.Tt λp hp=>(QbJ.mp hp).elim (λz=>I.pin p (QaE _ z)) λz=>by
  obtain⟨hb,e⟩:=nY z;obtain⟨f0,f1,f2,_⟩:=hf p.1 hb;obtain⟨o,e',d⟩:=ho p.1 hb;rw[e] at e';cases e';exact⟨e,f0,f1,f2,d⟩
theorem Inv.Hy {jb pl:YC} {U : St} {H:Hp} {s:Shared} (I:Inv X (jb++pl) U H s):Inv X jb U H s:=I.Tt λp hp=>I.pin p (QaE _ (QaK _ hp))
theorem Cd {iter:Expr} {body:List Stmt} {wi:TI} {g:TG} {tb:TS} {pos:Pos} (hp:PassesOwn (model X.prog X.w) X.A X.env X.xe) (hc:X.calm=true) (hi:PI X tg iter wi) (hg:PG X tg g) (hb:PSs X body tb)
  (hs:∀x,foldedSetIterable iter X.env x=pure x:=by intro _;rfl):PS X (.For tg iter body [] pos) (Dg wi g tb):=by
 intro jb s U H D I h;refine wpAny_For (thn (hi jb s U H _ I h) λv s1 h1=>thn h1 λitv s2 h2=>?_) hs;obtain⟨it,fp,tn,J,H2,e,I2,T,st2,f2,W,⟨m0,w0⟩,turn⟩:=h2;subst e;have stat:∀{H':Hp},(∀b∈fp,H' b=none)->∀b∈fp,GK X jb H' b:=λhn b hb=>⟨hn b hb,(f2 b hb).2⟩;refine codeAny_forLoop_any (λn s'=>∃i σ' H',Inv X jb σ' H' s'/\tn i s'.heap/\(∀b∈fp,H' b=none)/\W i n σ' H') ?_ m0 ⟨0,U,H2,I2,st2,λb hb=>(f2 b hb).1,w0⟩;rintro n s3 ⟨i,σ3,H3,I3,st3,fr3,w3⟩;rcases turn i n σ3 H3 w3 with⟨stop,qn⟩|⟨go,N,hN,step⟩
 ·refine QbT hp (thn (T.done X rfl rfl rfl hc i jb s3 σ3 H3 X.xe I3 (stat fr3) st3 stop) λr s4 zz=>?_);obtain⟨hr,I4⟩:=zz;subst hr;exact wpAny_execs_nil ⟨σ3,H3,I4,qn⟩
 ·refine QbT hp (thn (T.item X rfl rfl rfl hc i jb s3 σ3 H3 X.xe I3 (stat fr3) st3 go) λr s4 zz=>?_);obtain⟨u,hr,h4⟩:=zz;subst hr;refine QbT hp (thn h4 λ_ s5 zz=>?_);obtain⟨x,H5,I5,r5,y5,st5,fr5⟩:=zz;have I5':=I5.pinned (stat fr5) (T.obj _ _ st5);refine QbT hp (thn (hg _ s5 σ3 H5 x u _ I5' r5 (step x H5 y5)) λ_ s6 zz=>?_);obtain⟨σ6,H6,I6,q6⟩:=zz;refine QbT hp (thn (hb _ s6 σ6 H6 _ I6 q6) λf s7 q7=>?_);have again:∀{σ7:St} {H7:Hp},Inv X (jb++NQ fp s5.heap) σ7 H7 s7->N σ7 H7->∃m,m < n/\∃i σ' H',Inv X jb σ' H' s7/\tn i s7.heap/\(∀b∈fp,H' b=none)/\W i m σ' H':=λ{σ7 H7} I7 n7=>by
   obtain⟨m',hm,w7⟩:=hN σ7 H7 n7;refine⟨m',hm,i+1,σ7,H7,I7.Hy,T.keep _ _ _ st5 λb hb o e=>(I7.pin (b,o) (QaE _ (QaE _ (Kg hb e)))).1,λb hb=>?_,w7⟩;obtain⟨o,e,d⟩:=T.obj _ _ st5 b hb;exact (I7.pin (b,o) (QaE _ (QaE _ (Kg hb e)))).2.1
  cases f with
  | next=>obtain⟨σ7,H7,I7,n7⟩:=q7;exact again I7 n7
  | cont=>obtain⟨σ7,H7,I7,n7⟩:=q7;exact again I7 n7
  | brk=>obtain⟨σ7,H7,I7,q7⟩:=q7;exact⟨σ7,H7,I7.Hy,q7⟩
  | ret v=>obtain⟨x7,σ7,H7,I7,r7,q7⟩:=q7;exact⟨x7,σ7,H7,I7.Hy,r7,q7⟩
end
theorem QW {K:YD} {a:Addr} {xs:YG} {g:TG} {tb:TS} {D:Ends} {U : St} {H:Hp} (Pv:YN) (h0:Pv 0 U H) (hl:∀i U H,i<=xs.length->Pv i U H->SqL K H a xs)
  (hs:∀i x U H,xs[i]?=some x->Pv i U H->g x U H fun σ2 H2=>tb { D with nx:=Pv (i+1),ct:=Pv (i+1),bk:=D.nx } σ2 H2) (hd:∀ U H,Pv xs.length U H->D.nx U H) :
  ∃W:Nat->YN,(∃m,W 0 m U H)/\∀i m U H,W i m U H ->
   ((Itl K a).stop i H/\D.nx U H)\/((Itl K a).go i H/\∃N:YO,(∀ σ' H',N σ' H'->∃m',m' < m/\W (i+1) m' σ' H')/\∀x H',(Itl K a).yld i H x H'->g x U H' fun σ2 H2=>tb { D with nx:=N,ct:=N,bk:=D.nx } σ2 H2):=by
 refine⟨λi m U H=>m=xs.length - i/\i<=xs.length/\Pv i U H,⟨xs.length,by simp,Qcx _,h0⟩,?_⟩;rintro i m U H ⟨rfl,hi,p⟩;have q:=hl i U H hi p;by_cases hlt:i < xs.length
 ·refine .inr ⟨⟨xs,xs[i],q,by simp[hlt]⟩,Pv (i+1),fun σ' H' p'=>⟨xs.length - (i+1),by omega,rq,hlt,p'⟩,λx H' y=>?_⟩;obtain⟨e,y⟩:=y;subst e;exact hs i x U _ (y xs q) p
 ·have e:i=xs.length:=by omega
  subst e;exact .inl ⟨⟨xs,q,Qcw _⟩,hd U H p⟩
theorem KY {K:YD} {a:Addr} {xs:YG} {g:TG} {tb:TS} {D:Ends} {U : St} {H:Hp} (Pv:YN) (h0:Pv 0 U H) (hl:∀i U H,i<=xs.length->Pv i U H->SqT K H a xs)
  (hs:∀i x U H,xs[i]?=some x->Pv i U H->g x U H fun σ2 H2=>tb { D with nx:=Pv (i+1),ct:=Pv (i+1),bk:=D.nx } σ2 H2) (hd:∀ U H,Pv xs.length U H->D.nx U H) :
  ∃W:Nat->YN,(∃m,W 0 m U H)/\∀i m U H,W i m U H ->
   ((Itt K a).stop i H/\D.nx U H)\/((Itt K a).go i H/\∃N:YO,(∀ σ' H',N σ' H'->∃m',m' < m/\W (i+1) m' σ' H')/\∀x H',(Itt K a).yld i H x H'->g x U H' fun σ2 H2=>tb { D with nx:=N,ct:=N,bk:=D.nx } σ2 H2):=by
 refine⟨λi m U H=>m=xs.length - i/\i<=xs.length/\Pv i U H,⟨xs.length,by simp,Qcx _,h0⟩,?_⟩;rintro i m U H ⟨rfl,hi,p⟩;have q:=hl i U H hi p;by_cases hlt:i < xs.length
 ·refine .inr ⟨⟨xs,xs[i],q,by simp[hlt]⟩,Pv (i+1),fun σ' H' p'=>⟨xs.length - (i+1),by omega,rq,hlt,p'⟩,λx H' y=>?_⟩;obtain⟨e,y⟩:=y;subst e;exact hs i x U _ (y xs q) p
 ·have e:i=xs.length:=by omega
  subst e;exact .inl ⟨⟨xs,q,Qcw _⟩,hd U H p⟩
theorem Ec {lo:Int} {n:Nat} {g:TG} {tb:TS} {D:Ends} {U : St} {H:Hp} (Pv:YN) (h0:Pv 0 U H)
  (hs:∀i U H,i < n->Pv i U H->g (.int (lo+i)) U H fun σ2 H2=>tb { D with nx:=Pv (i+1),ct:=Pv (i+1),bk:=D.nx } σ2 H2) (hd:∀ U H,Pv n U H->D.nx U H) :
  ∃W:Nat->YN,(∃m,W 0 m U H)/\∀i m U H,W i m U H ->
   ((Itr lo n).stop i H/\D.nx U H)\/((Itr lo n).go i H/\∃N:YO,(∀ σ' H',N σ' H'->∃m',m' < m/\W (i+1) m' σ' H')/\∀x H',(Itr lo n).yld i H x H'->g x U H' fun σ2 H2=>tb { D with nx:=N,ct:=N,bk:=D.nx } σ2 H2):=by
 refine⟨λi m U H=>m=n - i/\i<=n/\Pv i U H,⟨n,by simp,Qcx _,h0⟩,?_⟩;rintro i m U H ⟨rfl,hi,p⟩;by_cases hlt:i < n
 ·refine .inr ⟨hlt,Pv (i+1),fun σ' H' p'=>⟨n - (i+1),by omega,rq,hlt,p'⟩,λx H' y=>?_⟩;obtain⟨e,y⟩:=y;subst e y;exact hs i U _ hlt p
 ·have e:i=n:=by omega
  subst e;exact .inl ⟨Qcw _,hd U H p⟩
abbrev R2:=V->V->Hp->VK->Prop
def OpR (X:Cx) (f:Value->Value->Sem Value) (r:R2):Prop:=
 ∀(jb:YC) (s:Shared) (U : St) (H:Hp) (x y:V) (v u:Value) (Q:VK),Inv X jb U H s->RelV x v->RelV y u->r x y H Q ->
  wpAny (model X.prog X.w) X.A (f v u) (EP X jb U Q) X.xe s
def UnR (X:Cx) (f:Value->Sem Value) (r:V->Hp->VK->Prop):Prop:=
 ∀(jb:YC) (s:Shared) (U : St) (H:Hp) (x:V) (v:Value) (Q:VK),Inv X jb U H s->RelV x v->r x H Q ->
  wpAny (model X.prog X.w) X.A (f v) (EP X jb U Q) X.xe s
def DQ (X:Cx) (f:Value) (r:YG->Hp->VK->Prop):Prop:=
 ∀(jb:YC) (s:Shared) (U : St) (H:Hp) (xs:YG) (us:YE) (Q:VK),Inv X jb U H s->Vals xs us->r xs H Q ->
  wpAny (model X.prog X.w) X.A (call f us) (EP X jb U Q) X.xe s
def NF (X:Cx) (r:V->Hp->(Bool->Hp->Prop)->Prop):Prop:=
 ∀(jb:YC) (s:Shared) (U : St) (H:Hp) (x:V) (v:Value) (Q:Bool->Hp->Prop),Inv X jb U H s->RelV x v->r x H Q ->
  wpAny (model X.prog X.w) X.A (truthy v) (TP X jb U Q) X.xe s
def tOp (r:R2) (ta tb:TE):TE:=fun U H Q=>ta U H λx H1=>tb U H1 λy H2=>r x y H2 Q
def tUn (r:V->Hp->VK->Prop) (ta:TE):TE:=fun U H Q=>ta U H λx H1=>r x H1 Q
def rI (C:Int->Int->Prop) (g:Int->Int->V):R2:=λx y H Q=>∃i j,x=.int i/\y=.int j/\C i j/\Q (g i j) H
def rI0 (g:Int->Int->V):R2:=λx y H Q=>∃i j,x=.int i/\y=.int j/\Q (g i j) H
def rU (g:Int->V):V->Hp->VK->Prop:=λx H Q=>∃i,x=.int i/\Q (g i) H
section
variable {X:Cx} {a b c:Expr} {ta tb tc:TE} {pos:Pos}
theorem uQ (ha:PE X a ta) (hb:PE X b tb) {jb:YC} {s:Shared} {U : St} {H:Hp} {R:V->V->Hp->Prop} (I:Inv X jb U H s)
  (h:ta U H λx H1=>tb U H1 λy H2=>R x y H2) {Q:YA} {f:Value->Value->Sem Value}
  (hf:∀v u s2 x y H2,Inv X jb U H2 s2->RelV x v->RelV y u->R x y H2->wpAny (model X.prog X.w) X.A (f v u) Q X.xe s2) :
  wpAny (model X.prog X.w) X.A (eval a X.env) (λv s₁=>wpAny (model X.prog X.w) X.A (eval b X.env) (λu s₂=>wpAny (model X.prog X.w) X.A (f v u) Q X.xe s₂) X.xe s₁) X.xe s:=by
 refine thn (ha jb s U H _ I h) λv s1 zz=>?_;obtain⟨x,H1,I1,r1,q1⟩:=zz;refine thn (hb jb s1 U H1 _ I1 q1) λu s2 zz=>?_;obtain⟨y,H2,I2,r2,q2⟩:=zz;exact hf v u s2 x y H2 I2 r1 r2 q2
theorem Bj {op:Operator} {r:R2} (ho:OpR X (binaryOp op) r) (ha:PE X a ta) (hb:PE X b tb):PE X (.BinOp a op b pos) (tOp r ta tb):=by
 intro jb s U H Q I h;exact wpAny_BinOp (uQ ha hb I h λv u s2 x y H2 I2 rx ry q=>ho jb s2 U H2 x y v u Q I2 rx ry q)
theorem QC {op:UnaryOp} {r:V->Hp->VK->Prop} (ho:UnR X (unaryOp op) r) (ha:PE X a ta):PE X (.UnaryOp op a pos) (tUn r ta):=by
 intro jb s U H Q I h;refine UnaryOp_ (thn (ha jb s U H _ I h) λv s1 zz=>?_);obtain⟨x,H1,I1,r1,q1⟩:=zz;exact ho jb s1 U H1 x v Q I1 r1 q1
theorem opI {f:Value->Value->Sem Value} {C:Int->Int->Prop} {g:Int->Int->Int}
  (rule:∀(i j:Int) (t u:Tok) (s:Shared) (Q:YA) (E:YA),C i j->Q (.int (g i j) s.toks) { s with toks:=s.toks+1 }->wpAny (model X.prog X.w) X.A (f (.int i t) (.int j u)) Q E s) :
  OpR X f (rI C λi j=>.int (g i j)):=by
 intro jb s U H x y v u Q I rx ry h;obtain⟨i,j,rfl,rfl,hc,q⟩:=h;obtain⟨t,rfl⟩:=rx;obtain⟨t',rfl⟩:=ry;exact rule i j t t' s _ _ hc ⟨.int (g i j),H,I.tok _,⟨_,rq⟩,q⟩
theorem zW {f:Value->Value->Sem Value} {g:Int->Int->Int}
  (rule:∀(i j:Int) (t u:Tok) (s:Shared) (Q:YA) (E:YA),Q (.int (g i j) s.toks) { s with toks:=s.toks+1 }->wpAny (model X.prog X.w) X.A (f (.int i t) (.int j u)) Q E s) :
  OpR X f (rI0 λi j=>.int (g i j)):=by
 intro jb s U H x y v u Q I rx ry h;obtain⟨i,j,rfl,rfl,q⟩:=h;obtain⟨t,rfl⟩:=rx;obtain⟨t',rfl⟩:=ry;exact rule i j t t' s _ _ ⟨.int (g i j),H,I.tok _,⟨_,rq⟩,q⟩
theorem jz {f:Value->Value->Sem Value} {g:Int->Int->Bool}
  (rule:∀(i j:Int) (t u:Tok) (s:Shared) (Q:YA) (E:YA),Q (.bool (g i j)) s->wpAny (model X.prog X.w) X.A (f (.int i t) (.int j u)) Q E s) :
  OpR X f (rI0 λi j=>.bl (g i j)):=by
 intro jb s U H x y v u Q I rx ry h;obtain⟨i,j,rfl,rfl,q⟩:=h;obtain⟨t,rfl⟩:=rx;obtain⟨t',rfl⟩:=ry;exact rule i j t t' s _ _ ⟨.bl (g i j),H,I,rq,q⟩
def NL (i j:Int):Prop:=0 < j/\j < 1073741824
def NJ (i j:Int):Prop:=0<=j/\j<=1000000/\i.natAbs < 2 ^ 64
def lG (i j:Int):Prop:=(-(2 ^ 64) < i/\i < 2 ^ 64)\/(-(2 ^ 64) < j/\j < 2 ^ 64)
theorem lG.ok {i j:Int} (h:lG i j):IntMulOk i j:=by
 rcases h with⟨h1,h2⟩|⟨h1,h2⟩
 ·exact .of_left (intBits_le_64 h1 h2)
 ·exact .of_right (intBits_le_64 h1 h2)
theorem Cg:OpR X (binaryOp .Add) (rI0 λi j=>.int (i+j)):=zW λ_ _ _ _ _ _ _ q=>add_int q
theorem aO:OpR X (binaryOp .Sub) (rI0 λi j=>.int (i - j)):=zW λ_ _ _ _ _ _ _ q=>sub_int q
theorem Ia:OpR X (binaryOp .Mult) (rI lG λi j=>.int (i*j)):=opI λ_ _ _ _ _ _ _ hc q=>mul_int q hc.ok
theorem W8:OpR X (binaryOp .FloorDiv) (rI NL λi j=>.int (i / j)):=opI λi j _ _ _ _ _ hc q=>by
 have h1:(0:Int) < j:=hc.1;have h2:j < 1073741824:=hc.2;exact floordiv_int (by omega) (by rw[Int.fdiv_eq_ediv_of_nonneg i (by omega)];exact q) (.inl (PyProof.noPylong_small (by omega)))
theorem Mg:OpR X (binaryOp .Mod) (rI (λ_ j=>0 < j) λi j=>.int (i % j)):=opI λi j _ _ _ _ _ hc q=>by
 have h1:(0:Int) < j:=hc;exact mod_int' (by omega) (by rw[Int.fmod_eq_emod_of_nonneg i (by omega)];exact q)
theorem nG:OpR X (binaryOp .Pow) (rI NJ λi j=>.int (i ^ j.toNat)):=opI λ_ _ _ _ _ _ _ hc q=>pow_int_small hc.1 hc.2.1 hc.2.2 q
theorem unI {f:Value->Sem Value} {g:Int->Int}
  (rule:∀(i:Int) (t:Tok) (s:Shared) (Q:YA) (E:YA),Q (.int (g i) s.toks) { s with toks:=s.toks+1 }->wpAny (model X.prog X.w) X.A (f (.int i t)) Q E s) :
  UnR X f (rU λi=>.int (g i)):=by
 intro jb s U H x v Q I rx h;obtain⟨i,rfl,q⟩:=h;obtain⟨t,rfl⟩:=rx;exact rule i t s _ _ ⟨.int (g i),H,I.tok _,⟨_,rq⟩,q⟩
theorem Ni:UnR X (unaryOp .USub) (rU λi=>.int (-i)):=unI λ_ _ _ _ _ q=>neg_int q
end
def zG:V->V->Bool
 | .non,.non=>true | .non,.int _=>true | .int _,.non=>true | .non,.bl _=>true | .bl _,.non=>true | .non,.str _=>true | .str _,.non=>true
 | .int _,.int _=>true | .bl _,.bl _=>true | .str _,.str _=>true | .byt _,.byt _=>true
 | .int _,.str _=>true | .str _,.int _=>true | .bl _,.str _=>true | .str _,.bl _=>true
 | _,_=>false
def rEq:R2:=λx y H Q=>zG x y=true/\Q (.bl (decide (x=y))) H
def rNe:R2:=λx y H Q=>zG x y=true/\Q (.bl (!decide (x=y))) H
theorem iC {i j:Int}:decide (V.int i=V.int j)=(i == j):=by
 rw[QbR];simp
theorem pP {i j:Bool}:decide (V.bl i=V.bl j)=(i == j):=by
 rw[QbR];simp
theorem iB {i j:Str}:decide (V.str i=V.str j)=(i == j):=by
 rw[QbR];simp
theorem iD {i j:Array UInt8}:decide (V.byt i=V.byt j)=(i.toList == j.toList):=by
 rw[QbR];cases i;cases j;simp
section
variable {X:Cx} {a b c:Expr} {ta tb tc:TE} {pos:Pos}
theorem BZ {jb:YC} {U : St} {H:Hp} {s:Shared} {Q:VK} {k k':Bool} (I:Inv X jb U H s) (q:Q (.bl k) H) (e:k=k'):EP X jb U Q (.bool k') s:=by
 subst e;exact⟨.bl k,H,I,rq,q⟩
theorem Eu:OpR X (compareOp .Eq) rEq:=by
 intro jb s U H x y v u Q I rx ry h;obtain⟨hs,q⟩:=h;cases x with
 | non=>
  cases rx;cases y with
  | non=>cases ry;exact PySem.EqNone.eq_none_none (BZ I q (by simp))
  | bl j=>cases ry;exact PySem.EqNone.eq_none_bool (BZ I q (by simp))
  | int j=>obtain⟨t',rfl⟩:=ry;exact PySem.EqNone.eq_none_int (BZ I q (by simp))
  | str j=>obtain⟨t',rfl⟩:=ry;exact PySem.EqNone.eq_none_str (BZ I q (by simp))
  | _=>exact absurd (show false=true from hs) QaW
 | bl i=>
  cases rx;cases y with
  | non=>cases ry;exact PySem.EqNone.eq_bool_none (BZ I q (by simp))
  | bl j=>cases ry;exact eq_bool (BZ I q pP)
  | str j=>obtain⟨t',rfl⟩:=ry;exact PySem.EqMixed.eq_bool_str (BZ I q (by simp))
  | _=>exact absurd (show false=true from hs) QaW
 | int i=>
  obtain⟨t,rfl⟩:=rx;cases y with
  | non=>cases ry;exact PySem.EqNone.eq_int_none (BZ I q (by simp))
  | int j=>obtain⟨t',rfl⟩:=ry;exact eq_int (BZ I q iC)
  | str j=>obtain⟨t',rfl⟩:=ry;exact PySem.EqMixed.eq_int_str (BZ I q (by simp))
  | _=>exact absurd (show false=true from hs) QaW
 | str i=>
  obtain⟨t,rfl⟩:=rx;cases y with
  | non=>cases ry;exact PySem.EqNone.eq_str_none (BZ I q (by simp))
  | bl j=>cases ry;exact PySem.EqMixed.eq_str_bool (BZ I q (by simp))
  | int j=>obtain⟨t',rfl⟩:=ry;exact PySem.EqMixed.eq_str_int (BZ I q (by simp))
  | str j=>obtain⟨t',rfl⟩:=ry;exact eq_str (BZ I q iB)
  | _=>exact absurd (show false=true from hs) QaW
 | byt i=>
  obtain⟨t,rfl⟩:=rx;cases y with
  | byt j=>obtain⟨t',rfl⟩:=ry;exact PySem.W.eq_bytes (BZ I q iD)
  | _=>exact absurd (show false=true from hs) QaW
 | _=>cases y <;> exact absurd (show false=true from hs) QaW
theorem jy:OpR X (compareOp .NotEq) rNe:=by
 intro jb s U H x y v u Q I rx ry h;obtain⟨hs,q⟩:=h;cases x with
 | non=>
  cases rx;cases y with
  | non=>cases ry;exact PySem.EqNone.ne_none_none (BZ I q (by simp))
  | bl j=>cases ry;exact PySem.EqNone.ne_none_bool (BZ I q (by simp))
  | int j=>obtain⟨t',rfl⟩:=ry;exact PySem.EqNone.ne_none_int (BZ I q (by simp))
  | str j=>obtain⟨t',rfl⟩:=ry;exact PySem.EqNone.ne_none_str (BZ I q (by simp))
  | _=>exact absurd (show false=true from hs) QaW
 | bl i=>
  cases rx;cases y with
  | non=>cases ry;exact PySem.EqNone.ne_bool_none (BZ I q (by simp))
  | bl j=>cases ry;exact ne_bool (BZ I q (congrArg not pP))
  | str j=>obtain⟨t',rfl⟩:=ry;exact PySem.EqMixed.ne_bool_str (BZ I q (by simp))
  | _=>exact absurd (show false=true from hs) QaW
 | int i=>
  obtain⟨t,rfl⟩:=rx;cases y with
  | non=>cases ry;exact PySem.EqNone.ne_int_none (BZ I q (by simp))
  | int j=>obtain⟨t',rfl⟩:=ry;exact ne_int (BZ I q (congrArg not iC))
  | str j=>obtain⟨t',rfl⟩:=ry;exact PySem.EqMixed.ne_int_str (BZ I q (by simp))
  | _=>exact absurd (show false=true from hs) QaW
 | str i=>
  obtain⟨t,rfl⟩:=rx;cases y with
  | non=>cases ry;exact PySem.EqNone.ne_str_none (BZ I q (by simp))
  | bl j=>cases ry;exact PySem.EqMixed.ne_str_bool (BZ I q (by simp))
  | int j=>obtain⟨t',rfl⟩:=ry;exact PySem.EqMixed.ne_str_int (BZ I q (by simp))
  | str j=>obtain⟨t',rfl⟩:=ry;exact ne_str (BZ I q (congrArg not iB))
  | _=>exact absurd (show false=true from hs) QaW
 | byt i=>
  obtain⟨t,rfl⟩:=rx;cases y with
  | byt j=>obtain⟨t',rfl⟩:=ry;exact PySem.W.ne_bytes (BZ I q (congrArg not iD))
  | _=>exact absurd (show false=true from hs) QaW
 | _=>cases y <;> exact absurd (show false=true from hs) QaW
theorem VH:OpR X (compareOp .Lt) (rI0 λi j=>.bl (decide (i < j))):=jz λ_ _ _ _ _ _ _ q=>lt_int q
theorem OD:OpR X (compareOp .LtE) (rI0 λi j=>.bl (decide (i<=j))):=jz λ_ _ _ _ _ _ _ q=>le_int q
theorem QG:OpR X (compareOp .Gt) (rI0 λi j=>.bl (decide (j < i))):=jz λ_ _ _ _ _ _ _ q=>gt_int q
theorem CA:OpR X (compareOp .GtE) (rI0 λi j=>.bl (decide (j<=i))):=jz λ_ _ _ _ _ _ _ q=>ge_int q
theorem nM:OpR X (compareOp .In) (λx y H Q=>∃i j,x=.str i/\y=.str j/\Q (.bl (!(Builtin.Str.occurrences j i 0 j.length 1).isEmpty)) H):=by
 intro jb s U H x y v u Q I rx ry h;obtain⟨i,j,rfl,rfl,q⟩:=h;obtain⟨t,rfl⟩:=rx;obtain⟨t',rfl⟩:=ry;exact in_str (BZ I q rfl)
theorem zV:OpR X (compareOp .Is) (λx y H Q=>y=.non/\Q (.bl (decide (x=.non))) H):=by
 intro jb s U H x y v u Q I rx ry h;obtain⟨rfl,q⟩:=h;cases ry;refine is_none_gen (BZ I q ?_);cases x <;> first
  | (cases rx;rfl)
  | (obtain⟨t,rfl⟩:=rx;rfl)
theorem gJ:OpR X (compareOp .IsNot) (λx y H Q=>y=.non/\Q (.bl (!decide (x=.non))) H):=by
 intro jb s U H x y v u Q I rx ry h;obtain⟨rfl,q⟩:=h;cases ry;refine isnot_none_gen (BZ I q ?_);cases x <;> first
  | (cases rx;rfl)
  | (obtain⟨t,rfl⟩:=rx;rfl)
theorem OpR.or {f:Value->Value->Sem Value} {r r':R2} (h:OpR X f r) (h':OpR X f r'):OpR X f (λx y H Q=>r x y H Q\/r' x y H Q):=by
 intro jb s U H x y v u Q I rx ry q;rcases q with q | q
 ·exact h jb s U H x y v u Q I rx ry q
 ·exact h' jb s U H x y v u Q I rx ry q
theorem Bq (b:Expr) {op:CmpOp} (h:op≠.In:=by decide) (h2:op≠.NotIn:=by decide):behindInMarks op b=false:=by
 have e1:(op == CmpOp.In)=false:=by cases op <;> first | rfl | exact absurd rfl h
 have e2:(op == CmpOp.NotIn)=false:=by cases op <;> first | rfl | exact absurd rfl h2
 cases b <;> simp[behindInMarks,e1,e2]
theorem Es {op:CmpOp} {r:R2} (ho:OpR X (compareOp op) r) (ha:PE X a ta) (hb:PE X b tb) (hm:behindInMarks op b=false):PE X (.Compare a [op] [b] pos) (tOp r ta tb):=by
 intro jb s U H Q I h;exact wpAny_Compare1 (uQ ha hb I h λv u s2 x y H2 I2 rx ry q=>ho jb s2 U H2 x y v u Q I2 rx ry q) hm
def BY (t:TE):TT:=fun U H Q=>t U H λx H'=>∃k,x=.bl k/\Q k H'
theorem Bs {op:CmpOp} {r:R2} (ho:OpR X (compareOp op) r) (ha:PE X a ta) (hb:PE X b tb) (hm:behindInMarks op b=false):PT X (.Compare a [op] [b] pos) (BY (tOp r ta tb)):=by
 intro jb s U H Q I h;refine wpAny_isTrue_Compare1 (thn (ha jb s U H _ I h) λv s1 ⟨x,H1,I1,r1,q1⟩=>thn (hb jb s1 U H1 _ I1 q1) λu s2 ⟨y,H2,I2,r2,q2⟩=>
  thn (ho jb s2 U H2 x y v u _ I2 r1 r2 q2) λc s3 ⟨z,H3,I3,r3,k,e,q3⟩=>?_) hm
 subst e;cases r3;exact Qbs ⟨H3,I3,q3⟩
def zu (r r':R2) (ta tb tc:TE):TE:=fun U H Q=>ta U H λx H1=>tb U H1 λy H2=>r x y H2 λz H3=>∃k,z=.bl k /\
 (if k=true then tc U H3 λw' H4=>r' y w' H4 Q else Q (.bl false) H3)
theorem QD {op op':CmpOp} {r r':R2} (ho:OpR X (compareOp op) r) (ho':OpR X (compareOp op') r') (ha:PE X a ta) (hb:PE X b tb) (hc:PE X c tc)
  (hm:lastMarks [op,op'] [b,c]=false:=by with_unfolding_all rfl):PE X (.Compare a [op,op'] [b,c] pos) (zu r r' ta tb tc):=by
 intro jb s U H Q I h;refine Compare_chain (thn (ha jb s U H _ I h) λv s1 ⟨x,H1,I1,r1,q1⟩=>chain_link (thn (hb jb s1 U H1 _ I1 q1) λu s2 ⟨y,H2,I2,r2,q2⟩=>
  thn (ho jb s2 U H2 x y v u _ I2 r1 r2 q2) λd s3 ⟨z,H3,I3,r3,k,e,q3⟩=>?_)) hm
 subst e;cases r3;refine Qbs ?_;cases k with
 | false=>exact ite_ff ⟨.bl false,H3,I3,rfl,q3⟩
 | true=>exact ite_tt (chain_last (thn (hc jb s3 U H3 _ I3 q3) λw' s4 ⟨z',H4,I4,r4,q4⟩=>ho' jb s4 U H4 y z' u w' Q I4 r2 r4 q4))
def BO (K:YD) (x:V) (H:Hp) (k:Bool):Prop:=
 match x with
 | .non=>k=false
 | .bl b=>k=b
 | .int i=>k=(i != 0)
 | .str y=>y.length<=sizeLine/\k=((y.length:Int) != 0)
 | .byt y=>y.size<=sizeLine/\k=((y.size:Int) != 0)
 | .ref p=>(∃xs,SqL K H p xs/\k=!xs.isEmpty)\/(∃xs,SqT K H p xs/\k=!xs.isEmpty)\/∃kvs,H p=some (.dK kvs)/\k=!kvs.isEmpty
 | _=>False
theorem jQ {κ : Type} {kvs:List (κ×V)} {vs:List (κ×Value)} (r:KV kvs vs):(!vs.isEmpty)=!kvs.isEmpty:=by
 cases r <;> rfl
theorem V6 {xs:YG} {its:YE} (r:Vals xs its):(!its.toArray.isEmpty)=!xs.isEmpty:=by
 cases r <;> simp
theorem Oc:(sizeLine:Nat) < 2 ^ 63:=by rw[QcA];decide
theorem yR:NF X (λx H Q=>∃k,BO X.K x H k/\Q k H):=by
 intro jb s U H x v Q I rx h;obtain⟨k,e,q⟩:=h;have hl:=Oc;have hs:sizeLine=16777216:=QcA;cases x with
 | non=>
  cases rx;have e':k=false:=e;subst e';exact truthy_none ⟨H,I,q⟩
 | bl b=>
  cases rx;have e':k=b:=e;subst e';exact Qbs ⟨H,I,q⟩
 | int i=>
  obtain⟨t,rfl⟩:=rx;have e':k=(i != 0):=e;subst e';exact PySem.P.truthy_int ⟨H,I,q⟩
 | str y=>
  obtain⟨t,rfl⟩:=rx;obtain⟨hy,e'⟩ : y.length<=sizeLine/\k=((y.length:Int) != 0):=e;subst e';exact PySem.P.truthy_str (by omega) ⟨H,I.tok _,q⟩
 | byt y=>
  obtain⟨t,rfl⟩:=rx;obtain⟨hy,e'⟩ : y.size<=sizeLine/\k=((y.size:Int) != 0):=e;subst e';exact PySem.W.truthy_bytes (by omega) ⟨H,I.tok _,q⟩
 | ref p=>
  cases rx;have e':(∃xs,SqL X.K H p xs/\k=!xs.isEmpty)\/(∃xs,SqT X.K H p xs/\k=!xs.isEmpty)\/∃kvs,H p=some (.dK kvs)/\k=!kvs.isEmpty:=e;rcases e' with⟨xs,hx,e'⟩|⟨xs,hx,e'⟩|⟨kvs,hx,e'⟩
  ·subst e';obtain⟨its,r,pl,hz⟩:=I.list hx;have hlen:=r.length;exact wpAny_truthy_list pl.isList (by simp only[Qbl];omega) ⟨H,I.tok _,by rw[V6 r];exact q⟩
  ·subst e';obtain⟨its,r,pl,hz⟩:=I.tuple hx;have hlen:=r.length;exact truthy_tuple pl (by simp only[Qbl];omega) ⟨H,I.tok _,by rw[V6 r];exact q⟩
  ·subst e';obtain⟨hz,hS,vs,r,m⟩ : kvs.length<=sizeLine/\(p == sysModules)=false/\∃vs,KV kvs vs/\s.heap.DictOf (Bw X.prog X.w) p vs:=I.hok p _ hx;have hlen:kvs.length=vs.length:=Qcd r;exact wpAny_truthy_dict hS m (by omega) ⟨H,I.tok _,by rw[jQ r];exact q⟩
 | _=>exact (show False from e).elim
theorem rC (ha:PE X a ta) (he:∀whole,isTrue a X.env whole=(do let v <-whole;standAt a.pos;holding [v] (truthy v))) :
  PT X a (fun U H Q=>ta U H λx H'=>∃k,BO X.K x H' k/\Q k H'):=by
 intro jb s U H Q I h;refine isTrue_plain (thn (ha jb s U H _ I h) λv s1 zz=>?_) (he _);obtain⟨x,H1,I1,r1,q1⟩:=zz;exact yR jb s1 U H1 x v Q I1 r1 q1
theorem VL:OpR X (binaryOp .Add) (λx y H Q=>∃i j,x=.str i/\y=.str j/\i.length+j.length<=sizeLine/\Q (.str (i++j)) H):=by
 intro jb s U H x y v u Q I rx ry h;obtain⟨i,j,rfl,rfl,hz,q⟩:=h;obtain⟨t,rfl⟩:=rx;obtain⟨t',rfl⟩:=ry;exact add_str (λt' tk=>⟨.str (i++j),H,I.tok _,⟨_,rq⟩,q⟩) hz
theorem vals1 {x:V} {us:YE} (r:Vals [x] us):∃u,us=[u]/\RelV x u:=by
 cases r with
 | cons r1 r2=>cases r2;exact⟨_,rfl,r1⟩
theorem vals2 {x y:V} {us:YE} (r:Vals [x,y] us):∃u w',us=[u,w']/\RelV x u/\RelV y w':=by
 cases r with
 | cons r1 r2=>
  cases r2 with
  | cons r3 r4=>cases r4;exact⟨_,_,rfl,r1,r3⟩
theorem cM:DQ X (.builtin "abs") (λxs H Q=>∃i,xs=[.int i]/\Q (.int (if i < 0 then -i else i)) H):=by
 intro jb s U H xs us Q I r h;obtain⟨i,rfl,q⟩:=h;obtain⟨u,rfl,t,rfl⟩:=vals1 r;exact call_abs_int λu tk=>⟨.int (if i < 0 then -i else i),H,I.tok _,⟨_,rq⟩,q⟩
theorem p8 (hc:X.calm=true):DQ X (.builtin "max") (λxs H Q=>∃i j,xs=[.int i,.int j]/\Q (.int (if j > i then j else i)) H):=by
 intro jb s U H xs us Q I r h;obtain⟨i,j,rfl,q⟩:=h;obtain⟨u,w',rfl,⟨t,rfl⟩,⟨t',rfl⟩⟩:=vals2 r;refine max_two_ints (I.ok.hd hc) λh' tk k=>⟨_,H,I.kept k,?_,q⟩;by_cases hj:j > i
 ·rw[if_pos hj,if_pos hj];exact⟨_,rq⟩
 ·rw[if_neg hj,if_neg hj];exact⟨_,rq⟩
theorem Ml (hc:X.calm=true):DQ X (.builtin "min") (λxs H Q=>∃i j,xs=[.int i,.int j]/\Q (.int (if j < i then j else i)) H):=by
 intro jb s U H xs us Q I r h;obtain⟨i,j,rfl,q⟩:=h;obtain⟨u,w',rfl,⟨t,rfl⟩,⟨t',rfl⟩⟩:=vals2 r;refine min_two_ints (I.ok.hd hc) λh' tk k=>⟨_,H,I.kept k,?_,q⟩;by_cases hj:j < i
 ·rw[if_pos hj,if_pos hj];exact⟨_,rq⟩
 ·rw[if_neg hj,if_neg hj];exact⟨_,rq⟩
theorem Pb:DQ X (.type "int") (λxs H Q=>(∃i,xs=[.int i]/\Q (.int i) H)\/∃k,xs=[.bl k]/\Q (.int (if k then 1 else 0)) H):=by
 intro jb s U H xs us Q I r h;rcases h with⟨i,rfl,q⟩|⟨k,rfl,q⟩
 ·obtain⟨u,rfl,t,rfl⟩:=vals1 r;exact call_int_int ⟨.int i,H,I,⟨_,rq⟩,q⟩
 ·obtain⟨u,rfl,r1⟩:=vals1 r;cases r1;exact call_int_bool ⟨.int (if k then 1 else 0),H,I.tok _,⟨_,rq⟩,q⟩
end
structure Vq (h:Heap) (x dx C:Addr) (mA:YB):Prop where
 obj:h.get? x=some (instObj C dx)
 ns:h.Ns1 dx mA
 ne:dx≠x
theorem ou {h:Heap} {dx:Addr} {mA:YB} (n:h.Ns1 dx mA):∃od,h.get? dx=some od/\∀name,lookIn name od=some (mA name):=by
 obtain⟨o,es,ep,ho,hd,hk,_,hm⟩:=n;refine⟨o,ho,λname=>?_⟩;have e:=hm name;unfold nsFind findBy at e;rw[<-Array.find?_toList] at e;unfold lookIn;rw[hd];dsimp only;split
 ·rename_i y q;rw[q] at e;exact congrArg some e
 ·rename_i q;rw[q] at e;have a:es.toList.any (·.refKey)=false:=by
   rw[List.any_eq_false];intro y hy;obtain⟨z,t,hkey⟩:=hk y (Array.mem_toList_iff.mp hy);simp[DictEntry.refKey,hkey]
  have a':¬es.toList.any (·.refKey)=true:=by rw[a];exact QaW
  rw[if_neg a'];exact congrArg some e
theorem Vq.look {h:Heap} {x dx C:Addr} {mA:YB} (I:Vq h x dx C mA):∃od,PySem.W.InstAt h x (instObj C dx) C (some od)/\∀name,lookIn name od=some (mA name):=
 let ⟨od,ho,hl⟩:=ou I.ns
 ⟨od,⟨I.obj,rq,rq,ho⟩,hl⟩
section
variable {prog:Program} {w:World} {A:Around} {E:YA} {s:Shared} {K:YD} {x dx C f:Addr} {mA:YB} {name:Str} {v:Value}
theorem get_map {expr:Bool} {Q:YA} (X:K.In s.heap) (I:Vq s.heap x dx C mA) (hg:plainGet K C name=true) (hh:hasDictIn K C=true)
  (ha:findIn K (.ref C) name=some none) (hv:mA name=some v) (hv':PySem.W.handedIn v=true) (h:Q v { s with toks:=s.toks+1 }) :
  wpAny (model prog w) A (getAttr (.ref x) name expr) Q E s:=by
 obtain⟨od,J,hl⟩:=I.look;exact PySem.W.get_value X J (PySem.W.plainGet_of hg).1 (PySem.W.findObj_own hh ha rfl (by rw[hl,hv])) hv' h
theorem ux {pl:Sem Bool} {Q:Value×YE->Shared->Prop} (X:K.In s.heap) (I:Vq s.heap x dx C mA) (hg:plainGet K C name=true)
  (hf:findIn K (.ref C) name=some (some (.ref f))) (ht:isFn K (.ref f)=true) (hv:mA name=none) (h:Q (.ref f,[.ref x]) s) :
  wpAny (model prog w) A (getMethod (.ref x) name pl) Q E s:=by
 obtain⟨od,J,hl⟩:=I.look;exact PySem.W.method_fn X J (PySem.W.plainGet_of hg).1 (PySem.W.plainGet_of hg).2 hf (beq_iff_eq.mp ht) (by show (lookIn name od).map (·.isSome)=some false;rw[hl,hv];rfl) h
theorem wL {ns:YF} {Q:YH} (X:K.In s.heap) (I:Vq s.heap x dx C mA)
  (hs:findIn K (.ref C) "__setattr__"=some (some (.builtin "object.__setattr__"))) (hp:PySem.W.plainOver K C=true) (ht:PySem.W.takerIn K C name=some none) (hh:hasDictIn K C=true)
  (hw:PySem.Within mA ns) (hsz:ns.length<=sizeLine)
  (h:∀h',Vq h' x dx C (λy=>if y=name then some v else mA y)->Heap.SameBut dx s.heap h'->Q () { s with heap:=h',toks:=s.toks+2 }) :
  wpAny (model prog w) A (setAttr (.ref x) name v) Q E s:=by
 obtain⟨od,J,hl⟩:=I.look;refine PySem.W.set_plain X J hs (PySem.W.osa_open (s:={ s with toks:=s.toks+1 }) (r:=none) X J hp ht λb=>?_);obtain⟨cd,hc,hd'⟩:=PySem.W.any_some hh;have hx:s.heap.get? x=some ⟨.ref C,some dx,.plain,#[]⟩:=I.obj;refine QcB (QcC (QcB (QcB (wpAny_loadPart hx (QcB (PySem.W.Looks.here (s:={ s with toks:=s.toks+1 }) (PySem.W.looks_clsIn X hc) ?_))))));rw[hd'];refine QcC (a:=some dx) (QcB (QcC (QcB ?_)));refine wpAny_nsSet1 (s:={ s with toks:=s.toks+1 }) I.ns λh' hn2 hs2=>?_;obtain⟨oD,esD,epD,hoD,hdD,hcD⟩:=hn2.count (PySem.Within.cons name v hw);refine QcB (wpAny_lookBehind hoD (by rw[hdD];exact pastItsLine_dict (Qcr hcD (by rw[Qby];omega))) ?_);exact QcC (h _ ⟨(hs2.2 _ (Ne.symm I.ne)).trans I.obj,hn2,I.ne⟩ hs2)
theorem tW {R:Result->Shared->Prop} {vs:YE} {kw:List (Str×Value)} (X:K.In s.heap) (hm:makesIn K C=true)
  (hi:findIn K (.ref C) "__init__"=some (some (.ref f))) (hf:PySem.W.typeIn K (.ref f)=some (.type "function"))
  (h:codeAny (model prog w) (A.under (.builtin "type.__call__" ⟨.ref C::vs,kw⟩)) (.call (.ref f) ⟨.ref (s.heap.objs.size+1)::vs,kw⟩) (PySem.W.InitBack (s.heap.objs.size+1) R)
   { s with heap:=(s.heap.push emptyDict).push (instObj C s.heap.objs.size) }) :
  codeAny (model prog w) A (.call (.ref C) ⟨vs,kw⟩) R s:=by
 obtain⟨hh,g,d,t,os⟩:=s;exact PySem.W.make_core (PySem.W.makes_of X hm) (PySem.W.looks_findIn X hi) (λself=>PySem.W.bind_fn X self hf) (.inl rfl) h
end
def Hs (f:Str) (v:V):List (Str×V)->List (Str×V)
 | []=>[(f,v)]
 | (g,x)::r=>if g=f then (g,v)::r else (g,x)::Hs f v r
theorem Uv (f g:Str) (v:V):∀fs:List (Str×V),(Hs f v fs).lookup g=if g=f then some v else fs.lookup g
 | []=>by
  show List.lookup g [(f,v)]=_;by_cases h:g=f
  ·have hb:(g == f)=true:=beq_iff_eq.mpr h;simp only[List.lookup,hb,if_pos h]
  ·have hb:(g == f)=false:=QaN.mpr h;simp only[List.lookup,hb,if_neg h]
 | (k,x)::r=>by
  have ih:=Uv f g v r;rw[show Hs f v ((k,x)::r)=(if k=f then (k,v)::r else (k,x)::Hs f v r) from rfl]
  by_cases hk:k=f
  ·rw[if_pos hk];by_cases h:g=k
   ·have hb:(g == k)=true:=beq_iff_eq.mpr h;simp only[List.lookup,hb,if_pos (h.trans hk)]
   ·have hb:(g == k)=false:=QaN.mpr h;simp only[List.lookup,hb,if_neg (λe:g=f=>h (e.trans hk.symm))]
  ·rw[if_neg hk];by_cases h:g=k
   ·have hb:(g == k)=true:=beq_iff_eq.mpr h;simp only[List.lookup,hb,if_neg (λe:g=f=>hk (h.symm.trans e))]
   ·have hb:(g == k)=false:=QaN.mpr h;simp only[List.lookup,hb];exact ih
theorem RQ (f:Str) (v:V):∀fs:List (Str×V),f∈(Hs f v fs).map (·.1)/\∀g,g∈fs.map (·.1)->g∈(Hs f v fs).map (·.1)
 | []=>⟨by simp[Hs],λg h=>by simp at h⟩
 | (k,x)::r=>by
  obtain⟨i1,i2⟩:=RQ f v r;rw[show Hs f v ((k,x)::r)=(if k=f then (k,v)::r else (k,x)::Hs f v r) from rfl]
  by_cases hk:k=f
  ·rw[if_pos hk];subst hk;exact⟨by simp,λg h=>by simpa using h⟩
  ·rw[if_neg hk];refine⟨?_,λg h=>?_⟩
   ·rw[Qcf];exact QaJ _ i1
   ·rw[Qcf] at h ⊢;rcases Qce.mp h with e | e
    ·exact Qce.mpr (.inl e)
    ·exact QaJ _ (i2 g e)
theorem Uw (f:Str) (v:V):∀fs:List (Str×V),(Hs f v fs).length<=fs.length+1
 | []=>by simp[Hs]
 | (k,x)::r=>by
  have ih:=Uw f v r;rw[show Hs f v ((k,x)::r)=(if k=f then (k,v)::r else (k,x)::Hs f v r) from rfl]
  by_cases hk:k=f
  ·rw[if_pos hk,Qby,Qby];omega
  ·rw[if_neg hk,Qby,Qby];omega
theorem Ht.some_of {v:V} {o:Option Value} (r:Ht (some v) o):∃u,o=some u/\RelV v u:=by
 cases o with
 | none=>exact (show False from r).elim
 | some u=>exact⟨u,rfl,r⟩
theorem Ht.none_of {o:Option Value} (r:Ht none o):o=none:=by
 cases o with
 | none=>rfl
 | some u=>exact (show False from r).elim
theorem oW {v:V} {u:Value} (r:RelV v u):PySem.W.handedIn u=true:=by
 cases v with
 | non=>cases (show u=Value.none from r);rfl
 | bl b=>cases (show u=Value.bool b from r);rfl
 | int i=>obtain⟨t,e⟩:=(show ∃t,u=Value.int i t from r);cases e;rfl
 | str x=>obtain⟨t,e⟩:=(show ∃t,u=Value.str x t from r);cases e;rfl
 | byt b=>obtain⟨t,e⟩:=(show ∃t,u=Value.bytes b t from r);cases e;rfl
 | flt b=>obtain⟨t,e⟩:=(show ∃t,u=Value.float b t from r);cases e;rfl
 | ref a=>cases (show u=Value.ref a from r);rfl
 | ty n=>cases (show u=Value.type n from r);rfl
section
variable {P:Program} {w:World} {H H':Hp} {h h':Heap} {a C dx:Addr} {fs fs':List (Str×V)}
theorem TQ (hok:HOk P w H h) (e:H a=some (.ins C dx fs)):∃mA,Vq h a dx C mA/\(∀f,Ht (fs.lookup f) (mA f))/\PySem.Within mA (fs.map (·.1))/\fs.length<=1000/\H dx=some (.own a):=by
 obtain⟨d,z,ne,ob,mA,n,r,q⟩:=(show BK P w H h a (.ins C dx fs) from hok a _ e)
 exact⟨mA,⟨ob,n,ne⟩,r,q,z,d⟩
end
structure Cls (K:YD) (C:Addr):Prop where
 pg:plainGet K C Str.empty=true
 hd:hasDictIn K C=true
 po:PySem.W.plainOver K C=true
 sa:findIn K (.ref C) "__setattr__"=some (some (.builtin "object.__setattr__"))
theorem Cls.get {K:YD} {C:Addr} (c:Cls K C) (f:Str):plainGet K C f=true:=c.pg
def Ji (K:YD) (C:Addr) (f:Str):Prop:=findIn K (.ref C) f=some none
theorem Ji.taker {K:YD} {C:Addr} {f:Str} (n:Ji K C f):PySem.W.takerIn K C f=some none:=by
 unfold PySem.W.takerIn;rw[show findIn K (.ref C) f=some none from n]
 rfl
structure Meth (K:YD) (C:Addr) (m:Str) (f:Addr):Prop where
 at_:findIn K (.ref C) m=some (some (.ref f))
 fn:isFn K (.ref f)=true
 kp:keepIn K (.ref f)=true
section
variable {X:Cx} {jb:YC} {U : St} {H:Hp} {s:Shared} {a C dx:Addr} {fs:List (Str×V)} {f:Str} {v:V} {A:Around} {E:YA}
theorem jV {b:Bool} {Q:YA} (I:Inv X jb U H s) (e:H a=some (.ins C dx fs)) (c:Cls X.K C) (n:Ji X.K C f) (l:fs.lookup f=some v)
  (h:∀u s',Inv X jb U H s'->RelV v u->Q u s'):wpAny (model X.prog X.w) A (getAttr (.ref a) f b) Q E s:=by
 obtain⟨mA,O,r,_,_,_⟩:=TQ I.hok e;obtain⟨u,hu,ru⟩:=Ht.some_of (v:=v) (o:=mA f) (by rw[<-l];exact r f);exact get_map I.kIn O (c.get f) c.hd n hu (oW ru) (h u _ (I.tok _) ru)
theorem QT {m:Str} {g:Addr} {pl:Sem Bool} {Q:Value×YE->Shared->Prop} (I:Inv X jb U H s) (e:H a=some (.ins C dx fs)) (c:Cls X.K C) (k:Meth X.K C m g) (l:fs.lookup m=none)
  (h:Q (.ref g,[.ref a]) s):wpAny (model X.prog X.w) A (getMethod (.ref a) m pl) Q E s:=by
 obtain⟨mA,O,r,_,_,_⟩:=TQ I.hok e;have hn:mA m=none:=Ht.none_of (by rw[<-l];exact r m);exact ux I.kIn O (c.get m) k.at_ k.fn hn h
theorem ji {y:V} {u:Value} {Q:YH} (I:Inv X jb U H s) (e:H a=some (.ins C dx fs)) (c:Cls X.K C) (n:Ji X.K C f) (hl:fs.length < 1000) (ry:RelV y u)
  (h:∀s',Inv X jb U (upd H a (.ins C dx (Hs f y fs))) s'->Q () s'):wpAny (model X.prog X.w) A (setAttr (.ref a) f u) Q E s:=by
 obtain⟨mA,O,r,wi,_,ho⟩:=TQ I.hok e;have hz:(fs.map (·.1)).length<=sizeLine:=by rw[QbH,QcA];omega
 refine wL I.kIn O c.sa c.po n.taker c.hd wi hz λh' O' sb=>h _ ?_;have hd:∃o,h'.get? dx=some o:=let ⟨o,_,_,e',_⟩:=O'.ns;⟨o,e'⟩;refine I.write (x:=a) (e:=dx) (by rw[e];exact True.intro) (.inr ho) (λb q hb z=>(sb.2 b hb).trans z) hd ?_;refine⟨by rw[Ao O.ne];exact ho,?_,O.ne,O'.obj,_,O'.ns,λg=>?_,λg hg=>?_⟩
 ·have:=Uw f y fs;omega
 ·show Ht ((Hs f y fs).lookup g) (if g=f then some u else mA g)
  rw[Uv];by_cases q:g=f
  ·rw[if_pos q,if_pos q];exact ry
  ·rw[if_neg q,if_neg q];exact r g
 ·by_cases q:g=f
  ·rw[q];exact (RQ f y fs).1
  ·refine (RQ f y fs).2 g (wi g λz=>hg ?_);show (if g=f then some u else mA g)=none
   rw[if_neg q];exact z
theorem Inv.made (I:Inv X jb U H s):Inv X jb U (upd (upd H s.heap.objs.size (.own (s.heap.objs.size+1))) (s.heap.objs.size+1) (.ins C s.heap.objs.size []))
  { s with heap:=(s.heap.push emptyDict).push (instObj C s.heap.objs.size) }:=by
 have e1:(s.heap.push emptyDict).get? s.heap.objs.size=some emptyDict:=QaM s.heap rfl;have e2:((s.heap.push emptyDict).push (instObj C s.heap.objs.size)).get? (s.heap.objs.size+1)=some (instObj C s.heap.objs.size):=by
  have:=QaM (s.heap.push emptyDict) (o:=instObj C s.heap.objs.size) rfl
  rwa [QbZ] at this
 have e3:(s.heap.push emptyDict).Ns s.heap.objs.size (λ_=>none):=⟨emptyDict,#[],_,e1,rq,(λe he=>absurd he (by simp)),λ_=>rfl⟩;have I1:=I.laid (a:=s.heap.objs.size) (o:=.own (s.heap.objs.size+1)) (h':=s.heap.push emptyDict) (t':=s.toks) (λb u q=>Qax _ q) (Qcw _) ⟨_,e1⟩;refine I1.laid (a:=s.heap.objs.size+1) (o:=.ins C s.heap.objs.size []) (t':=s.toks) (λb u q=>Qax _ q) (Nat.le_of_eq (QbZ _ _)) ?_;have ne:s.heap.objs.size≠s.heap.objs.size+1:=Qcp (QbD _);refine⟨by rw[Ao ne,Ab],Qcx _,ne,e2,λ_=>none,(Heap.Ns1.of_empty e3).at λo q=>Qax _ q,λ_=>True.intro,λy hy=>absurd rfl hy⟩
theorem yD {prog:Program} {w:World} {env:Env} {e:Expr} {f:Str} {pos:Pos} {s:Shared} {Q:YA} (hb:attributeBase e f env (eval e env)=eval e env)
  (h:wpAny (model prog w) A (eval e env) (λo s₁=>wpAny (model prog w) A (getAttr o f true) Q E s₁) E s):wpAny (model prog w) A (eval (.Attribute e f pos) env) Q E s:=
 Attribute_any_ h (by rw[arm_eval_Attribute,hb])
end
def yZ (K:YD) (ta:TE) (f:Str):TE:=fun U H Q=>ta U H λx H1=>∃a C dx fs v,x=.ref a/\H1 a=some (.ins C dx fs)/\Cls K C/\Ji K C f/\fs.lookup f=some v/\Q v H1
section
variable {X:Cx} {o e value:Expr} {f:Str} {pos pos' tpos:Pos} {ta tv:TE}
theorem Dc (he:PE X e ta) (hb:attributeBase e f X.env (eval e X.env)=eval e X.env):PE X (.Attribute e f pos) (yZ X.K ta f):=by
 intro jb s U H Q I h;refine yD hb (thn (he jb s U H _ I h) λu s1 zz=>?_);obtain⟨x,H1,I1,rx,a,C,dx,fs,v,ex,ea,c,n,l,q⟩:=zz;subst ex;obtain rfl:u=Value.ref a:=rx;exact jV I1 ea c n l λu' s2 I2 ru=>⟨v,H1,I2,ru,q⟩
theorem BU {pl:Sem Bool} {m:Str} {apos:Pos} {args:YJ} {jb:YC} {s:Shared} {U : St} {H:Hp} {Q:YA} {te:TE} (he:PE X e te) (I:Inv X jb U H s)
  (h:te U H λx H1=>∃a C dx fs g,x=.ref a/\H1 a=some (.ins C dx fs)/\Cls X.K C/\Meth X.K C m g/\fs.lookup m=none /\
   ∀s1,Inv X jb U H1 s1->wpAny (model X.prog X.w) X.A (callWith pos (.ref g) [.ref a] (backTo pos (starEach args X.env)) (backToKw pos (keywordEach [] X.env))) Q X.xe s1)
  (ht:eval (.Call (.Attribute e m apos) args [] pos) X.env=(do
   let ov <-eval e X.env
   standAt apos.atName
   let (f,first) <-holding [ov] (getMethod ov m pl)
   callWith pos f first (backTo pos (starEach args X.env)) (backToKw pos (keywordEach [] X.env)))) :
  wpAny (model X.prog X.w) X.A (eval (.Call (.Attribute e m apos) args [] pos) X.env) Q X.xe s:=by
 refine PySem.W.methodCall_KW (pl:=pl) (thn (he jb s U H _ I h) λu s1 zz=>?_) ht;obtain⟨x,H1,I1,rx,a,C,dx,fs,g,ex,ea,c,k,l,q⟩:=zz;subst ex;obtain rfl:u=Value.ref a:=rx;exact QT I1 ea c k l (q s1 I1)
end
section
variable {X:Cx} {jb:YC} {U : St} {H:Hp} {s:Shared} {A:Around} {E:YA} {Q:YA} {c:Value} {b:Bool}
inductive K3 (K:YD) (H:Hp):V->Value->Prop where
 | non:K3 K H .non (.type "NoneType")
 | bl (x:Bool):K3 K H (.bl x) (.type "bool")
 | int (i:Int):K3 K H (.int i) (.type "int")
 | str (x:Str):K3 K H (.str x) (.type "str")
 | flt (x:UInt64):K3 K H (.flt x) (.type "float")
 | lst {a:Addr} {xs:YG} (e:H a=some (.lst xs)):K3 K H (.ref a) (.type "list")
 | frz {a:Addr} {o:Obj} {xs:YG} (e:H a=some (.frz o (.lst xs))):K3 K H (.ref a) (.type "list")
 | tup {a:Addr} {xs:YG} (e:H a=some (.tup xs)):K3 K H (.ref a) (.type "tuple")
 | dK {a:Addr} {kvs:List (Key×V)} (e:H a=some (.dK kvs)):K3 K H (.ref a) (.type "dict")
 | dT {a:Addr} {kvs:List (List Key×V)} (e:H a=some (.dT kvs)):K3 K H (.ref a) (.type "dict")
 | ins {a C dx:Addr} {fs:List (Str×V)} (e:H a=some (.ins C dx fs)) (cl:Cls K C) (ha:findIn K (.ref C) "__class__"=some (some (.builtin "object.__class__")))
   (hn:PySem.W.specialIn K (.builtin "object.__class__") "__get__"=some (some (.builtin "getset_descriptor.__get__"))) (htk:PySem.W.takesIn K (.builtin "object.__class__")=some true)
   (hm:PySem.W.mroIn K C (.type "object")=some true):K3 K H (.ref a) (.ref C)
theorem oK {x:V} {u t:Value} (I:Inv X jb U H s) (rx:RelV x u) (ty:K3 X.K H x t) (e:kitOne X.K t c=some b) (h:∀tk,Q (.bool b) { s with toks:=tk }) :
  wpAny (model X.prog X.w) A (call (.builtin "isinstance") [u,c]) Q E s:=by
 cases ty with
 | non=>cases (show u=Value.none from rx);exact kia_one PySem.W.kitx_none I.kIn True.intro e (λz=>nomatch z) h
 | bl y=>cases (show u=Value.bool y from rx);exact kia_one PySem.W.kitx_bool I.kIn True.intro e (λz=>nomatch z) h
 | int i=>obtain⟨t,q⟩:=(show ∃t,u=Value.int i t from rx);cases q;exact kia_one PySem.W.kitx_int I.kIn True.intro e (λz=>nomatch z) h
 | str y=>obtain⟨t,q⟩:=(show ∃t,u=Value.str y t from rx);cases q;exact kia_one PySem.W.kitx_str I.kIn True.intro e (λz=>nomatch z) h
 | flt y=>obtain⟨t,q⟩:=(show ∃t,u=Value.float y t from rx);cases q;exact kia_one PySem.W.kitx_float I.kIn True.intro e (λz=>nomatch z) h
 | @lst a xs ea=>
  cases (show u=Value.ref a from rx)
  obtain⟨_,_,n,_,h1⟩:=(show BK X.prog X.w H s.heap a (.lst xs) from I.hok a _ ea)
  exact kia_one PySem.W.kitx_list I.kIn ⟨_,h1,rq⟩ e (λz=>nomatch z) h
 | @frz a ob xs ea=>
  cases (show u=Value.ref a from rx)
  obtain⟨_,_,_,n,_,h1⟩:=(show BK X.prog X.w H s.heap a (.frz ob (.lst xs)) from I.hok a _ ea)
  exact kia_one PySem.W.kitx_list I.kIn ⟨_,h1,rq⟩ e (λz=>nomatch z) h
 | @tup a xs ea=>
  cases (show u=Value.ref a from rx)
  obtain⟨_,_,_,p⟩:=(show BK X.prog X.w H s.heap a (.tup xs) from I.hok a _ ea)
  obtain⟨o,h1,h2,_⟩:=p;exact kia_one PySem.W.kitx_tuple I.kIn ⟨o,h1,h2⟩ e (λz=>nomatch z) h
 | @dK a kvs ea=>
  cases (show u=Value.ref a from rx)
  obtain⟨_,_,vs,_,p⟩:=(show BK X.prog X.w H s.heap a (.dK kvs) from I.hok a _ ea)
  obtain⟨o,es,ep,h1,h2,_⟩:=p;exact kia_one PySem.W.kitx_dict I.kIn ⟨o,h1,h2.1⟩ e (λz=>nomatch z) h
 | @dT a kvs ea=>
  cases (show u=Value.ref a from rx)
  obtain⟨_,_,xs,_,o,es,ep,h1,h2,_⟩:=(show BK X.prog X.w H s.heap a (.dT kvs) from I.hok a _ ea)
  exact kia_one PySem.W.kitx_dict I.kIn ⟨o,h1,h2.1⟩ e (λz=>nomatch z) h
 | @ins a C dx fs ea cl ha hn htk hm=>
  cases (show u=Value.ref a from rx)
  obtain⟨mA,O,_⟩:=TQ I.hok ea;obtain⟨od,J,_⟩:=O.look;exact kia_one (PySem.W.kitx_own (cl.get _) cl.hd ha hn htk hm) I.kIn J e (λz=>nomatch z) h
end
structure Dl (k:Nat) (A:Around):Prop where
 hd:A.handled=none
 dp:A.depth+3*k+5 < recursionLimit
 un:A.units+16*k+200 < cLine
theorem Dl.mono {j k:Nat} {A:Around} (r:Dl k A) (h:j<=k):Dl j A:=⟨r.hd,by have:=r.dp;omega,by have:=r.un;omega⟩
theorem Dl.deeper {k:Nat} {A:Around} (r:Dl (k+1) A) (env:Env):Dl k (A.deeper env):=
 ⟨r.hd,by have:=r.dp;show A.depth+1+3*k+5 < _;omega,by have:=r.un;show A.units+3+16*k+200 < _;omega⟩
theorem Dl.in1 {k:Nat} {A:Around} (r:Dl (k+1) A):Dl k A.in1:=
 ⟨r.hd,by have:=r.dp;show A.depth+3*k+5 < _;omega,by have:=r.un;show A.units+1+16*k+200 < _;omega⟩
theorem jN {A:Around} {C:Addr} {us:YE} {kw:List (Str×Value)}:(A.under (.builtin "type.__call__" ⟨.ref C::us,kw⟩)).depth=A.depth+1:=by
 first | rfl | simp[Around.under,Code.weight,Code.isCreation,Code.isGuard,Code.isCaller,Code.frames,Code.isFrame,guardIds]
theorem jM {A:Around} {C:Addr} {us:YE} {kw:List (Str×Value)}:(A.under (.builtin "type.__call__" ⟨.ref C::us,kw⟩)).units=A.units+1:=by
 first | rfl | simp[Around.under,Code.cUnits,Code.frames,Code.isFrame]
theorem Dl.make {k:Nat} {A:Around} (r:Dl (k+1) A) (C:Addr) (us:YE) (kw:List (Str×Value)):Dl k (A.under (.builtin "type.__call__" ⟨.ref C::us,kw⟩)):=
 ⟨r.hd,by have:=r.dp;rw[jN];omega,by have:=r.un;rw[jM];omega⟩
theorem Dl.depth {k:Nat} {A:Around} (r:Dl k A):A.depth < recursionLimit:=by have:=r.dp;omega
theorem Dl.units {k:Nat} {A:Around} (r:Dl k A):A.units+64 < cLine:=by have:=r.un;omega
def je:TA:=λ_ H Q=>Q [] H
def vp (ta:TE) (tr:TA):TA:=fun U H Q=>ta U H λx H1=>tr U H1 λxs H2=>Q (x::xs) H2
section
variable {X:Cx} {e:Expr} {es:YJ} {te:TE} {t:TA} {pos:Pos}
theorem Ac:PA X [] je:=λ_ _ _ _ H Q I h=>Calls.spliced_nil ⟨[],H,I,.nil,h⟩
theorem Aa (ha:PE X e te) (hr:PA X es t) (hs:starEach (e::es) X.env=(false,eval e X.env)::starEach es X.env:=by rfl):PA X (e::es) (vp te t):=by
 intro pos jb s U H Q I h;rw[hs];show wpAny _ _ (spliced ((false,eval e X.env)::backTo pos (starEach es X.env))) _ _ s;refine Qbi (thn (ha jb s U H _ I h) λu s1 zz=>?_);obtain⟨x,H1,I1,r1,q1⟩:=zz;refine thn (hr pos jb s1 U H1 _ I1 q1) λus s2 zz=>?_;obtain⟨xs,H2,I2,r2,q2⟩:=zz;exact⟨x::xs,H2,I2,.cons r1 r2,q2⟩
def DD (t:TA):TE:=fun U H Q=>t U H λxs H1=>xs.length<=sizeLine/\∀p,H1 p=none->Q (.ref p) (upd H1 p (.tup xs))
def DJ (t:TA):TE:=fun U H Q=>t U H λxs H1=>xs.length<=sizeLine/\∀p,H1 p=none->Q (.ref p) (upd H1 p (.lst xs))
theorem Bg {x1} (h:PA X es t):PE X (.Tuple es x1 pos) (DD t):=by
 intro jb s U H Q I hq;refine wpAny_Tuple_spliced (thn (h pos jb s U H _ I hq) λus s1 zz=>?_);obtain⟨xs,H1,I1,r,z,q⟩:=zz;refine⟨by rw[<-r.length];exact z,?_⟩;have hf:H1 s1.heap.objs.size=none:=I1.hok.fresh (Qcw _);refine⟨.ref s1.heap.objs.size,upd H1 s1.heap.objs.size (.tup xs),I1.laid (t':=s1.toks) (λb u e=>Qax _ e) (Qcw _) ?_,rq,q _ hf⟩;exact⟨z,us,r,⟨_,QaM _ rfl,rq,_,rq⟩⟩
theorem Ce (h:PA X es t):PE X (.List es pos) (DJ t):=by
 intro jb s U H Q I hq;refine wpAny_List_spliced (thn (h pos jb s U H _ I hq) λus s1 zz=>?_);obtain⟨xs,H1,I1,r,z,q⟩:=zz;refine⟨by rw[<-r.length];exact z,?_⟩;have hf:H1 s1.heap.objs.size=none:=I1.hok.fresh (Qcw _);refine⟨.ref s1.heap.objs.size,upd H1 s1.heap.objs.size (.lst xs),I1.laid (t':=s1.toks) (λb u e=>Qax _ e) (Qcw _) ?_,rq,q _ hf⟩;exact⟨z,us,0,r,QaM _ rfl⟩
end
abbrev Sp:=YG->Hp->VK->XK->Prop
abbrev CXT:=List Env->Hp->Shared->XK->YA
structure Qd (P:Program) (w:World) (K:YD) (mg:YB) (base:Heap) (A:Around) (outer:List Env) (s:Shared) (H:Hp):Prop where
 frames:A.frames=some outer
 mod:Mod K mg base
 bs:∀b o,base.get? b=some o->s.heap.get? b=some o/\H b=none
 bsz:base.objs.size<=s.heap.objs.size
 Ko:s.heap.FunFrames base outer
 frf:∀b∈frs outer,H b=none
 hok:HOk P w H s.heap
 bare:AllBare s.gens
def CE (outer:List Env) (P:Program) (w:World) (H:Hp) (s:Shared) (Q:VK) (u:Value) (s':Shared):Prop:=
 ∃v H',s'.os=s.os/\AllBare s'.gens/\Un (frs outer) [] H H' s.heap s'.heap/\HOk P w H' s'.heap/\RelV v u/\Q v H'
def CR (CX:CXT) (outer:List Env) (P:Program) (w:World) (H:Hp) (s:Shared) (Q:VK) (E:XK) (r:Result) (s':Shared):Prop:=
 match r with
 | .ok (.ret u)=>CE outer P w H s Q u s'
 | .ok _=>False
 | .error e=>CX outer H s E e s'
structure G3 (P:Program) (w:World) (K:YD) (mg:YB) (base:Heap) (CX:CXT) (k:Nat) (f:Addr) (fd:FuncData) (ps:YF) (sp:Sp):Prop where
 len:∀vs H Q E,sp vs H Q E->vs.length=ps.length
 run:∀(A:Around) (outer:List Env) (s:Shared) (H:Hp) (args:Args) (us:YE) (vs:YG) (Q:VK) (E:XK),Dl k A->Qd P w K mg base A outer s H->BindsTo s fd args (ps.zip us)->Vals vs us->sp vs H Q E ->
  codeAny (model P w) A (.call (.ref f) args) (CR CX outer P w H s Q E) s
theorem G3.imp {P:Program} {w:World} {K:YD} {mg:YB} {base:Heap} {CX:CXT} {k:Nat} {f:Addr} {fd:FuncData} {ps:YF} {sp sp':Sp} (F:G3 P w K mg base CX k f fd ps sp)
  (h:∀vs H Q E,sp' vs H Q E->sp vs H Q E):G3 P w K mg base CX k f fd ps sp':=
 ⟨λvs H Q E q=>F.len vs H Q E (h _ _ _ _ q),λA outer s H args us vs Q E hr he hb hv hs=>F.run A outer s H args us vs Q E hr he hb hv (h _ _ _ _ hs)⟩
theorem Qd.make {P:Program} {w:World} {K:YD} {mg:YB} {base:Heap} {A:Around} {outer:List Env} {s:Shared} {H:Hp} (e:Qd P w K mg base A outer s H) (C:Addr) (us:YE) (kw:List (Str×Value)) :
  Qd P w K mg base (A.under (.builtin "type.__call__" ⟨.ref C::us,kw⟩)) outer s H:=⟨by first | exact e.frames | (simpa [Around.under,Code.envs,Code.isFrame,pushEnvs] using e.frames),e.mod,e.bs,e.bsz,e.Ko,e.frf,e.hok,e.bare⟩
theorem Qd.in1 {P:Program} {w:World} {K:YD} {mg:YB} {base:Heap} {A:Around} {outer:List Env} {s:Shared} {H:Hp} (e:Qd P w K mg base A outer s H) :
  Qd P w K mg base A.in1 outer s H:=⟨e.frames,e.mod,e.bs,e.bsz,e.Ko,e.frf,e.hok,e.bare⟩
section
variable {X:Cx} {jb:YC} {U : St} {H:Hp} {s s':Shared}
theorem Inv.env0 (I:Inv X jb U H s):Qd X.prog X.w X.K X.mg X.base X.A X.stack s H:=
 ⟨I.ok.frames,I.ok.mod,I.bs,Qcr I.ok.bsz I.sz,I.stack,I.fC,I.hok,I.bare⟩
theorem Inv.after {Q:VK} {u:Value} (I:Inv X jb U H s) (h:CE X.stack X.prog X.w H s Q u s'):EP X jb U Q u s':=by
 obtain⟨v,H',os,bare,un,hok,r,q⟩:=h;obtain⟨hh,g,d,t,os'⟩:=s';obtain rfl:os'=s.os:=os;exact⟨v,H',I.call (h':=hh) (g':=g) (d':=d) (t':=t) (ch:=[]) un hok bare (λb z=>absurd z (by simp)),r,q⟩
end
def vA (sp:Sp) (dvs:YG) (E:XK) (t:TA):TE:=fun U H Q=>t U H λvs H1=>sp (vs++dvs) H1 Q E
def Y6 (C:Addr) (m:Str) (sp:Sp) (dvs:YG) (E:XK) (ta:TE) (t:TA):TE:=fun U H Q=>ta U H λx H1=>∃a dx fs,x=.ref a/\H1 a=some (.ins C dx fs)/\fs.lookup m=none /\
 t U H1 λvs H2=>sp (x::(vs++dvs)) H2 Q E
def vo (C:Addr) (sp:Sp) (dvs:YG) (E:XK) (t:TA):TE:=fun U H Q=>t U H λvs H1=>∀x dx,H1 x=none->H1 dx=none->dx≠x ->
 sp (.ref x::(vs++dvs)) (upd (upd H1 dx (.own x)) x (.ins C dx [])) (λv H2=>v=.non/\Q (.ref x) H2) E
def Binds (K:YD) (fd:FuncData) (ps:YF) (ds:YE):Prop:=
 ∀(s:Shared) (us:YE),K.In s.heap->(us++ds).length=ps.length->BindsTo s fd ⟨us,[]⟩ (ps.zip (us++ds))
theorem Binds.all {K:YD} {fd:FuncData} {ps:YF} (h:∀us:YE,us.length=ps.length->bindArgs fd ⟨us,[]⟩=pure (ps.zip us)):Binds K fd ps []:=λs us _ hl=>by
 rw[QbK] at hl ⊢;exact .of_eq (h us hl)
def Passes (CX:CXT) (X:Cx) (E:XK):Prop:=∀(jb:YC) (U : St) (H:Hp) (s:Shared) (e:Value) (s':Shared),Inv X jb U H s->CX X.stack H s E e s'->X.xe e s'
section
variable {X:Cx} {CX:CXT} {k:Nat} {f C:Addr} {fd:FuncData} {ps:YF} {sp:Sp} {dvs:YG} {ds:YE} {E:XK} {x m:Str} {p pos apos:Pos} {e o:Expr} {es:YJ} {ta:TE} {t:TA}
theorem Z5 {jb:YC} {U : St} {H:Hp} {s:Shared} {Q:VK} {us:YE} {vs:YG} (F:G3 X.prog X.w X.K X.mg X.base CX k f fd ps sp) (hr:Dl k X.A) (hb:Binds X.K fd ps ds) (hd:Vals dvs ds) (hx:Passes CX X E)
  (I:Inv X jb U H s) (r:Vals vs us) (h:sp (vs++dvs) H Q E):wpAny (model X.prog X.w) X.A (call (.ref f) us) (EP X jb U Q) X.xe s:=by
 have r2:Vals (vs++dvs) (us++ds):=r.append hd;have hl:(us++ds).length=ps.length:=by rw[<-r2.length];exact F.len _ _ _ _ h
 refine wpAny_call (codeAny_mono (F.run X.A X.stack s H ⟨us,[]⟩ (us++ds) (vs++dvs) Q E hr I.env0 (hb s us I.kIn hl) r2 h) λr s' hq=>?_);cases r with
 | error e=>exact hx jb U H s e s' I hq
 | ok fl=>
  cases fl with
  | ret u=>exact I.after hq
  | next=>exact False.elim hq
  | brk=>exact False.elim hq
  | cont=>exact False.elim hq
theorem wZ (F:G3 X.prog X.w X.K X.mg X.base CX k f fd ps sp) (hr:Dl k X.A) (hg:Gl X x) (hm:X.mg x=some (.ref f)) (hk:keepIn X.K (.ref f)=true) (hb:Binds X.K fd ps ds) (hd:Vals dvs ds) (hx:Passes CX X E)
  (ha:PA X (e::es) t) (hdb:(x == ("__debug__":Str))=false:=by decide) (he:starEach (e::es) X.env=(false,eval e X.env)::starEach es X.env:=by rfl) (hpl:(backTo pos (starEach es X.env)).any (·.1)=false:=by rfl) :
  PE X (.Call (.Name x p) (e::es) [] pos) (vA sp dvs E t):=by
 intro jb s U H Q I h;refine Qbj (Xg I hg hm ?_ hdb);refine PySem.W.callWith_K (h₀:=X.base) I.ok.mod.kin hk (thn (ha pos jb s U H _ I h) λus s1 zz=>?_) he hpl;obtain⟨vs,H1,I1,r,q⟩:=zz;refine⟨I1.kIn,?_⟩;exact Z5 F hr hb hd hx I1 r q
theorem wW {pl:Sem Bool} (he:PE X o ta) (c:Cls X.K C) (hm:Meth X.K C m f) (F:G3 X.prog X.w X.K X.mg X.base CX k f fd ps sp) (hr:Dl k X.A) (hb:Binds X.K fd ps ds) (hd:Vals dvs ds) (hx:Passes CX X E) (ha:PA X (e::es) t)
  (hst:starEach (e::es) X.env=(false,eval e X.env)::starEach es X.env:=by rfl) (hpl:(backTo pos (starEach es X.env)).any (·.1)=false:=by rfl)
  (ht:eval (.Call (.Attribute o m apos) (e::es) [] pos) X.env=(do
   let ov <-eval o X.env
   standAt apos.atName
   let (f,first) <-holding [ov] (getMethod ov m pl)
   callWith pos f first (backTo pos (starEach (e::es) X.env)) (backToKw pos (keywordEach [] X.env))):=by rfl) :
  PE X (.Call (.Attribute o m apos) (e::es) [] pos) (Y6 C m sp dvs E ta t):=by
 intro jb s U H Q I h;refine PySem.W.methodCall_KW (pl:=pl) (thn (he jb s U H _ I h) λu s1 zz=>?_) ht;obtain⟨x,H1,I1,rx,a,dx,fs,ex,ea,l,q⟩:=zz;subst ex;obtain rfl:u=Value.ref a:=rx;refine QT I1 ea c hm l ?_;refine PySem.W.callWith_K (first:=[.ref a]) (h₀:=X.base) I.ok.mod.kin hm.kp (thn (ha pos jb s1 U H1 _ I1 q) λus s2 zz=>?_) hst hpl
 obtain⟨vs,H2,I2,r,q2⟩:=zz;refine⟨I2.kIn,?_⟩;exact Z5 (us:=.ref a::us) (vs:=.ref a::vs) F hr hb hd hx I2 (.cons rfl r) q2
theorem rH {pl:Sem Bool} (he:PE X o ta) (c:Cls X.K C) (hm:Meth X.K C m f) (F:G3 X.prog X.w X.K X.mg X.base CX k f fd ps sp) (hr:Dl k X.A) (hb:Binds X.K fd ps ds) (hd:Vals dvs ds) (hx:Passes CX X E)
  (ht:eval (.Call (.Attribute o m apos) [] [] pos) X.env=(do
   let ov <-eval o X.env
   standAt apos.atName
   let (f,first) <-holding [ov] (getMethod ov m pl)
   callWith pos f first (backTo pos (starEach [] X.env)) (backToKw pos (keywordEach [] X.env))):=by rfl) :
  PE X (.Call (.Attribute o m apos) [] [] pos) (Y6 C m sp dvs E ta je):=by
 intro jb s U H Q I h;refine PySem.W.methodCall_KW (pl:=pl) (thn (he jb s U H _ I h) λu s1 zz=>?_) ht;obtain⟨x,H1,I1,rx,a,dx,fs,ex,ea,l,q⟩:=zz;subst ex;obtain rfl:u=Value.ref a:=rx;refine QT I1 ea c hm l ?_;exact PySem.W.callWith_K0 (first:=[.ref a]) I1.kIn hm.kp (Z5 (us:=[.ref a]) (vs:=[.ref a]) F hr hb hd hx I1 (.cons rfl .nil) q)
structure Mk (K:YD) (C f:Addr):Prop where
 makes:makesIn K C=true
 init:findIn K (.ref C) "__init__"=some (some (.ref f))
 fn:isFn K (.ref f)=true
 kp:keepIn K (.ref C)=true
theorem qY {jb:YC} {U : St} {H:Hp} {s:Shared} {Q:VK} {us:YE} {vs:YG} (M:Mk X.K C f) (F:G3 X.prog X.w X.K X.mg X.base CX k f fd ps sp) (hr:Dl (k+1) X.A) (hb:Binds X.K fd ps ds) (hd:Vals dvs ds)
  (hx:Passes CX X E) (I:Inv X jb U H s) (r:Vals vs us)
  (h:∀x dx,H x=none->H dx=none->dx≠x->sp (.ref x::(vs++dvs)) (upd (upd H dx (.own x)) x (.ins C dx [])) (λv H2=>v=.non/\Q (.ref x) H2) E) :
  wpAny (model X.prog X.w) X.A (call (.ref C) us) (EP X jb U Q) X.xe s:=by
 have hq:=h (s.heap.objs.size+1) s.heap.objs.size (I.hok.fresh (Nat.le_succ _)) (I.hok.fresh (Qcw _)) (Qcp (QbD _));have I2:=Inv.made (C:=C) I;have r2:Vals (V.ref (s.heap.objs.size+1)::(vs++dvs)) (Value.ref (s.heap.objs.size+1)::(us++ds)):=.cons rfl (r.append hd);have hl:(Value.ref (s.heap.objs.size+1)::us++ds).length=ps.length:=by
  have e:=r2.length;rw[F.len _ _ _ _ hq] at e;exact e.symm
 refine wpAny_call (tW (f:=f) I.kIn M.makes M.init (beq_iff_eq.mp M.fn) (codeAny_mono (F.run _ X.stack _ _ ⟨Value.ref (s.heap.objs.size+1)::us,[]⟩ (Value.ref (s.heap.objs.size+1)::(us++ds)) _ _ E (hr.make C us [])
  (I2.env0.make C us []) (hb _ (Value.ref (s.heap.objs.size+1)::us) I2.kIn hl) r2 hq) λr s' hq'=>?_))
 cases r with
 | error e=>exact hx jb U _ _ e s' I2 hq'
 | ok fl=>
  cases fl with
  | ret u=>
   obtain⟨v,H',I3,rv,ev,q3⟩:=I2.after hq';subst ev;exact⟨rv,⟨V.ref (s.heap.objs.size+1),H',I3,rq,q3⟩⟩
  | next=>exact False.elim hq'
  | brk=>exact False.elim hq'
  | cont=>exact False.elim hq'
theorem wX (M:Mk X.K C f) (F:G3 X.prog X.w X.K X.mg X.base CX k f fd ps sp) (hr:Dl (k+1) X.A) (hg:Gl X x) (hm:X.mg x=some (.ref C)) (hb:Binds X.K fd ps ds) (hd:Vals dvs ds) (hx:Passes CX X E)
  (ha:PA X (e::es) t) (hdb:(x == ("__debug__":Str))=false:=by decide) (he:starEach (e::es) X.env=(false,eval e X.env)::starEach es X.env:=by rfl) (hpl:(backTo pos (starEach es X.env)).any (·.1)=false:=by rfl) :
  PE X (.Call (.Name x p) (e::es) [] pos) (vo C sp dvs E t):=by
 intro jb s U H Q I h;refine Qbj (Xg I hg hm ?_ hdb);refine PySem.W.callWith_K (h₀:=X.base) I.ok.mod.kin M.kp (thn (ha pos jb s U H _ I h) λus s1 zz=>?_) he hpl;obtain⟨vs,H1,I1,r,q⟩:=zz;refine⟨I1.kIn,?_⟩;exact qY M F hr hb hd hx I1 r q
end
def PK (X:Cx) (kws:List Keyword) (t:TA):Prop:=
 ∀(pos:Pos) (jb:YC) (s:Shared) (U : St) (H:Hp) (Q:YG->Hp->Prop),Inv X jb U H s->t U H Q->wpAny (model X.prog X.w) X.A (evalAll ((backToKw pos (keywordEach kws X.env)).map (·.2))) (AP X jb U Q) X.xe s
section
variable {X:Cx} {CX:CXT} {k:Nat} {f C:Addr} {fd:FuncData} {ps ks:YF} {sp:Sp} {E:XK} {x m:Str} {p pos apos kpos:Pos} {e o:Expr} {es:YJ} {kws:List Keyword} {te ta:TE} {t tk:TA} {nm:Option Str}
theorem zP:PK X [] je:=λ_ _ _ _ H Q I h=>wpAny_evalAll_nil ⟨[],H,I,.nil,h⟩
theorem wV (ha:PE X e te) (hr:PK X kws t):PK X (⟨nm,e,kpos⟩::kws) (vp te t):=by
 intro pos jb s U H Q I h;show wpAny _ _ (evalAll ((do let v <-eval e X.env;standAt pos;pure v)::(backToKw pos (keywordEach kws X.env)).map (·.2))) _ _ s
 refine wpAny_evalAll_cons (QcB (thn (ha jb s U H _ I h) λu s1 zz=>?_));obtain⟨x,H1,I1,r1,q1⟩:=zz;refine QcB (Qck (QcC ?_));refine thn (hr pos jb s1 U H1 _ I1 q1) λus s2 zz=>?_;obtain⟨xs,H2,I2,r2,q2⟩:=zz;exact⟨x::xs,H2,I2,.cons r1 r2,q2⟩
variable {g:YE->YE->YE} {gV:YG->YG->YG}
end
structure Ba (N P:YF) (sc:Scope):Prop where
 kind:sc.kind=.function
 co:sc.isCoroutine=false
 gen:sc.isGenerator=false
 nd:N.Nodup
 pre:N.take P.length=P
 par:∀x∈P,sc.names.lookup x=some .local\/sc.names.lookup x=some .cell
 bw:∀y∈sc.names,y.2≠.free
theorem Yj {kindOf:Str->Option NameKind} {x:Str}:∀{binds:List (Str×Value)} {m:YB},(∀v,(x,v)∉binds)->bindL kindOf binds m x=m x
 | [],_,_=>rfl
 | (n,v)::r,m,h=>by
  unfold bindL;rw[Yj λw hw=>h w (QaJ _ hw)];split
  ·have:x≠n:=by rintro rfl;exact h v QaV
   simp[this]
  ·rfl
theorem Yl {kindOf:Str->Option NameKind} {x:Str}:∀{binds:List (Str×Value)} {m:YB},(∀v,(x,v)∉binds)->bindC kindOf binds m x=m x
 | [],_,_=>rfl
 | (n,v)::r,m,h=>by
  unfold bindC;rw[Yl λw hw=>h w (QaJ _ hw)];split
  ·rfl
  ·have:x≠n:=by rintro rfl;exact h v QaV
   simp[this]
theorem Yk {kindOf:Str->Option NameKind} {x:Str} {v:Value}:∀{P:YF} {vs:YE} {i:Nat} {m:YB},P.Nodup->P[i]?=some x->vs[i]?=some v->kindOf x=some .local ->
  bindL kindOf (P.zip vs) m x=some v
 | [],_,_,_,_,h,_,_=>by simp at h
 | _::_,[],_,_,_,_,h,_=>by simp at h
 | p::P,w::vs,0,m,nd,h1,h2,hk=>by
  simp at h1 h2;subst h1;subst h2;show bindL kindOf ((p,w)::P.zip vs) m p=_;unfold bindL;rw[Yj λv hv=>(QbP.mp nd).1 (List.of_mem_zip hv).1,if_pos hk];simp
 | p::P,w::vs,i+1,m,nd,h1,h2,hk=>by
  show bindL kindOf ((p,w)::P.zip vs) m x=_;unfold bindL;exact Yk (i:=i) (QbP.mp nd).2 (by simpa using h1) (by simpa using h2) hk
theorem Ym {kindOf:Str->Option NameKind} {x:Str} {v:Value}:∀{P:YF} {vs:YE} {i:Nat} {m:YB},P.Nodup->P[i]?=some x->vs[i]?=some v->kindOf x≠some .local ->
  bindC kindOf (P.zip vs) m x=some v
 | [],_,_,_,_,h,_,_=>by simp at h
 | _::_,[],_,_,_,_,h,_=>by simp at h
 | p::P,w::vs,0,m,nd,h1,h2,hk=>by
  simp at h1 h2;subst h1;subst h2;show bindC kindOf ((p,w)::P.zip vs) m p=_;unfold bindC;rw[Yl λv hv=>(QbP.mp nd).1 (List.of_mem_zip hv).1,if_neg hk];simp
 | p::P,w::vs,i+1,m,nd,h1,h2,hk=>by
  show bindC kindOf ((p,w)::P.zip vs) m x=_;unfold bindC;exact Ym (i:=i) (QbP.mp nd).2 (by simpa using h1) (by simpa using h2) hk
def start (N:YF) (vs:YG):St:=vs.map some++List.replicate (N.length - vs.length) none
def Sx (CX:CXT) (P:Program) (w:World) (K:YD) (mg:YB) (base:Heap) (N:YF) (qual:Str) (scope:Scope) (f:Addr) (cd:Value) (A:Around) (outer:List Env) (s:Shared) (H:Hp) (E:XK):Cx where
 prog:=P
 w:=w
 K:=K
 mg:=mg
 base:=base
 A:=A.deeper (envOfC qual scope s.heap.objs.size f cd)
 N:=N
 s₀:=s
 H₀:=H
 env:=envOfC qual scope s.heap.objs.size f cd
 outer:=outer
 stack:=envOfC qual scope s.heap.objs.size f cd::outer
 ex:=[]
 calm:=true
 fn:=λ_=>true
 pn:=[]
 xe:=λe s'=>wpAny (model P w) (A.deeper (envOfC qual scope s.heap.objs.size f cd)) (leaving (envOfC qual scope s.heap.objs.size f cd) e) (λ_ s''=>CX outer H s E e s'') (λe' s''=>CX outer H s E e' s'') s'
theorem cI {sc:Scope} {n:Nat} {x:Str} (h:sc.names.lookup x=some .cell):∃c,(cellsFrom n sc.names []).lookup x=some c:=by
 have q:=PySem.W.cellsFrom_some sc.names n [] (.inl h);exact Option.isSome_iff_exists.mp q
theorem oO {CX:CXT} {P:Program} {w:World} {K:YD} {mg:YB} {base:Heap} {N ps:YF} {qual:Str} {scope:Scope} {f:Addr} {cd:Value} {A:Around} {outer:List Env} {s s1:Shared} {H:Hp} {E:XK} {us:YE} {vs:YG}
  (S:Ba N ps scope) (hd:A.handled=none) (e0:Qd P w K mg base A outer s H) (hl:vs.length=ps.length) (r:Vals vs us)
  (x:InCallC s s.heap.objs.size (bindL (envOfC qual scope s.heap.objs.size f cd).kindOf (ps.zip us) λ_=>none) (cellsFrom (s.heap.objs.size+1) scope.names []) (bindC (envOfC qual scope s.heap.objs.size f cd).kindOf (ps.zip us) λ_=>none) s1) :
  Inv (Sx CX P w K mg base N qual scope f cd A outer s H E) [] (start N vs) H s1:=by
 have hpl:ps.length<=N.length:=by have:=congrArg List.length S.pre;rw[Qbz] at this;omega
 obtain⟨h1,tk,rfl,hk⟩:=x.done;have noA:∀b:Addr,b∉(Sx CX P w K mg base N qual scope f cd A outer s H E).ex:=λb z=>absurd (show b∈([]:List Addr) from z) (by simp)
 refine⟨⟨e0.mod,S.kind,rq,rq,Qcw _,λy z c h1 h2=>?_,λy hy=>?_,λy c _ h=>?_,λ_=>hd,Around.frames_deeper e0.frames,.inr ⟨rq,rq⟩,λb z=>absurd z (noA b),e0.bs,e0.bsz,λb _ _=>noA b,λb z=>absurd z (noA b),e0.Ko,e0.frf⟩,
  rfl,e0.bare,Un.kept hk,⟨_,x.toInCall.ns,λi y v h1 h2 h3=>?_⟩,λy c h=>⟨_,x.cell y c h⟩,e0.hok.fresh (Qcw _),λy c h=>?_,λp hp=>absurd (show p∈([]:YC) from hp) (by simp),e0.hok.kept hk,?_⟩
 ·exact name_of_addr x.apart (QaS h1) (QaS h2)
 ·have hy:scope.names.lookup y=some .cell\/scope.names.lookup y=some .free:=hy;rcases hy with hy | hy
  ·exact cI hy
  ·exact absurd rfl (S.bw _ (QaS hy))
 ·exact Qcs (x.above y c (QaS h))
 ·have hi:i < vs.length:=by
   unfold start at h2;by_cases hi:i < vs.length
   ·exact hi
   ·rw[List.getElem?_append_right (by simpa using hi)] at h2;rw[List.getElem?_replicate] at h2;split at h2 <;> cases h2
  have ha:vs[i]?=some v:=by
   unfold start at h2;rw[List.getElem?_append_left (by simpa using hi),Qbn] at h2;cases e:vs[i]? with
   | none=>rw[e] at h2;cases h2
   | some a=>rw[e] at h2;cases h2;rfl
  obtain⟨u,hu,rv⟩:=r.get ha;have hp:ps[i]?=some y:=by
   rw[<-S.pre,List.getElem?_take_of_lt (by omega)];exact h1
  have ndP:ps.Nodup:=by rw[<-S.pre];exact S.nd.sublist (List.take_sublist _ _)
  refine⟨u,rv,?_⟩;rcases S.par y (QaI hp) with k | k
  ·exact .inl ⟨k,Yk ndP hp hu k⟩
  ·obtain⟨c,e⟩:=cI (n:=s.heap.objs.size+1) k;refine .inr ⟨.inl k,c,e,?_⟩;have q:=x.cell y c e;rw[Ym ndP hp hu (by show scope.names.lookup y≠_;rw[k];decide)] at q;exact q
 ·exact e0.hok.fresh (Qcs (x.above y c (QaS h)))
 ·unfold start;show _=N.length;rw[QaU,QbH,List.length_replicate];omega
theorem C8 {CX:CXT} {P:Program} {w:World} {K:YD} {mg:YB} {base:Heap} {k:Nat} {f:Addr} {name qual:Str} {params:Arguments} {body:List Stmt} {scope:Scope} {dV kV doc pm cdv ct oc:Value} {an od:Option Addr}
  {osl:YI} {N ps:YF} {sp:Sp} (lk:K.lookup f=some ⟨oc,od,.func (fnOf name qual params body scope dV kV doc pm an cdv ct),osl⟩) (hcd:codeIn K cdv qual=true) (S:Ba N ps scope)
  (len:∀vs H Q E,sp vs H Q E->vs.length=ps.length)
  (hbody:∀(A:Around) (outer:List Env) (s:Shared) (H:Hp) (vs:YG) (Q:VK) (E:XK),Dl k (A.deeper (envOfC qual scope s.heap.objs.size f cdv))->sp vs H Q E ->
   ∃t,PSs (Sx CX P w K mg base N qual scope f cdv A outer s H E) body t/\t { nx:=λ_ H'=>Q .non H',rt:=Q } (start N vs) H) :
  G3 P w K mg base CX (k+1) f (fnOf name qual params body scope dV kV doc pm an cdv ct) ps sp:=by
 refine⟨len,λA outer s H args us vs Q E hr e0 hb r hsp=>?_⟩;have hl:=len _ _ _ _ hsp;have KX:K.In s.heap:=e0.mod.kin.keeps λb o e=>(e0.bs b o e).1;have lim:s.heap.NoLimit:=e0.mod.nolimit.keeps λb o e=>(e0.bs b o e).1;have hkind:∀y∈ps.zip us,scope.names.lookup y.1=some .local\/(scope.names.lookup y.1=some .cell/\((cellsFrom (s.heap.objs.size+1) scope.names []).lookup y.1).isSome=true):=λ⟨n,v⟩ hy=>by
  rcases S.par n (List.of_mem_zip hy).1 with q | q
  ·exact .inl q
  ·exact .inr ⟨q,PySem.W.cellsFrom_some _ _ _ (.inl q)⟩
 refine codeAny_call_function hr.depth (KX _ _ lk) rfl S.co S.gen rfl (PySem.W.codeRec_of KX hcd) (hb _ _ _ _ ?_);refine wpAny_newFunctionEnv_cells S.kind hkind λenv he s1 x=>?_;subst he;refine⟨lim.keeps x.toInCall.keep,codeAny_func ?_⟩;obtain⟨t,ht,hq⟩:=hbody A outer s H vs Q E (hr.deeper _) hsp;have I:Inv (Sx CX P w K mg base N qual scope f cdv A outer s H E) [] (start N vs) H s1:=oO S hr.hd e0 hl r x;refine QcD (ht [] s1 (start N vs) H _ I hq) (λfl s' hs=>?_) λe s' hs=>hs;have fin:∀{σ':St} {H':Hp} {v:V} {u:Value},Inv (Sx CX P w K mg base N qual scope f cdv A outer s H E) [] σ' H' s'->RelV v u->Q v H'->CE outer P w H s Q u s':=
  λ{σ' H' v u} J rv q=>⟨v,H',J.os,J.bare,J.base,J.hok,rv,q⟩
 cases fl with
 | ret u=>
  obtain⟨v,σ',H',J,rv,q⟩:=hs;exact fin J rv q
 | next=>
  obtain⟨σ',H',J,q⟩:=hs;exact fin (v:=V.non) (u:=Value.none) J rfl q
 | brk=>
  obtain⟨_,_,_,q⟩:=hs;exact False.elim q
 | cont=>
  obtain⟨_,_,_,q⟩:=hs;exact False.elim q
section
variable {X:Cx} {x:Str} {p pos:Pos} {e:Expr} {es:YJ} {t:TA} {id T:String} {r:YG->Hp->VK->Prop}
def tCB (r:YG->Hp->VK->Prop) (t:TA):TE:=fun U H Q=>t U H λvs H1=>r vs H1 Q
theorem Az (hc:DQ X (.builtin id) r) (hg:Gl X x) (hm:X.mg x=none) (hv:bootBuiltins x=some (.builtin id)) (ha:PA X (e::es) t) (hn:x≠"__name__":=by decide) (hdb:(x == ("__debug__":Str))=false:=by decide)
  (he:starEach (e::es) X.env=(false,eval e X.env)::starEach es X.env:=by rfl) (hpl:(backTo pos (starEach es X.env)).any (·.1)=false:=by rfl):PE X (.Call (.Name x p) (e::es) [] pos) (tCB r t):=by
 intro jb s U H Q I h;refine Qbj (Jf I hg hm hv ?_ hn hdb);refine PyProof.Rows.callWith_builtin1 (thn (ha pos jb s U H _ I h) λus s1 zz=>?_) he hpl;obtain⟨vs,H1,I1,r1,q1⟩:=zz;exact hc jb s1 U H1 vs us Q I1 r1 q1
theorem Eb (hc:DQ X (.type T) r) (hg:Gl X x) (hm:X.mg x=none) (hv:bootBuiltins x=some (.type T)) (ha:PA X (e::es) t) (hn:x≠"__name__":=by decide) (hdb:(x == ("__debug__":Str))=false:=by decide)
  (he:starEach (e::es) X.env=(false,eval e X.env)::starEach es X.env:=by rfl) (hpl:(backTo pos (starEach es X.env)).any (·.1)=false:=by rfl):PE X (.Call (.Name x p) (e::es) [] pos) (tCB r t):=by
 intro jb s U H Q I h;refine Qbj (Jf I hg hm hv ?_ hn hdb);refine Qae (thn (ha pos jb s U H _ I h) λus s1 zz=>?_) he hpl;obtain⟨vs,H1,I1,r1,q1⟩:=zz;exact hc jb s1 U H1 vs us Q I1 r1 q1
end
end L2
namespace HT
open PySem PyProof.Rows
section
open PySem.SeqAt
open PySem.AutoSeq1 (wpAny_loadPart')
open PySem.MeetsSeq PySem.MeetsSeq2 PySem.MeetsSeq3
end
section
variable {prog:Program} {w:World} {A:Around} {E:YA} {s:Shared}
theorem yx {t b:Addr} {vs ws:YE} {Q:YA} (ht:IsTup s.heap t vs.toArray) (hb:IsTup s.heap b ws.toArray) (hv:vs≠[])
  (h1:ws=[]->Q (.ref t) s) (h2:ws≠[]->Q (.ref s.heap.objs.size) { s with heap:=s.heap.push { cls:=.type "tuple",data:=.seq (vs++ws).toArray } })
  (hsz:vs.length+ws.length<=sizeLine):wpAny (model prog w) A (binaryOp .Add (.ref t) (.ref b)) Q E s:=by
 obtain⟨⟨cls,dd,data,sl⟩,ho,hc,n,hd⟩:=id ht;obtain⟨⟨cls2,dd2,data2,sl2⟩,ho2,hc2,n2,hd2⟩:=id hb;simp only at hc hd hc2 hd2;subst hc hd hc2 hd2;have e:vs.toArray++ws.toArray=(vs++ws).toArray:=by simp
 by_cases hw:ws=[]
 ·exact concat_meets ⟨_,ho,rq⟩ ⟨_,ho2,rq⟩ noFill_tuple_add seq_tuple_add PySem.F.slot_tuple_add PySem.F.entry_tuple_add (PySem.F.args_tuple_add_2 _ _)
   (tuple_addW1 t b vs.toArray ws.toArray n n2 dd dd2 sl sl2 (by simpa using hv) (by simp[hw])) ⟨ho,ho2,h1 hw⟩
 ·refine concat_meets ⟨_,ho,rq⟩ ⟨_,ho2,rq⟩ noFill_tuple_add seq_tuple_add PySem.F.slot_tuple_add PySem.F.entry_tuple_add (PySem.F.args_tuple_add_2 _ _)
   (tuple_addW2 t b vs.toArray ws.toArray n n2 dd dd2 sl sl2 (by simpa using hv) (by simpa using hw) (by rw[Qbl,Qbl];exact hsz)) ⟨ho,ho2,?_⟩
  rw[e];exact h2 hw
def sIx (n d:Nat):Option Int->Nat
 | none=>d
 | some v=>if v < 0 then (v+(n:Int)).toNat else min v.toNat n
theorem Z0 (n d:Nat):sIx n d none=d:=rfl
theorem gw (n d k:Nat):sIx n d (some (k:Int))=min k n:=by
 show (if (k:Int) < 0 then ((k:Int)+(n:Int)).toNat else min (k:Int).toNat n)=min k n
 rw[if_neg (by omega),Qbo]
theorem zH (n d:Nat) (hd:d<=n) (o:Option Int):sIx n d o<=n:=by
 cases o with
 | none=>exact hd
 | some v=>
  show (if v < 0 then (v+(n:Int)).toNat else min v.toNat n)<=n
  by_cases hv:v < 0
  ·rw[if_pos hv];omega
  ·rw[if_neg hv];exact Nat.min_le_right _ _
theorem iG (v:Int) (n d:Nat):(if v < 0 then max (v+(n:Int)) 0 else min v (n:Int))=((sIx n d (some v):Nat):Int):=by
 show (if v < 0 then max (v+(n:Int)) 0 else min v (n:Int))=(((if v < 0 then (v+(n:Int)).toNat else min v.toNat n):Nat):Int)
 by_cases hv:v < 0
 ·simp only[if_pos hv];omega
 ·simp only[if_neg hv];omega
theorem kO (lo hi:Option Int) (n:Nat):Builtin.Slice.sliceAdjust lo hi 1 (n:Int)=(((sIx n 0 lo:Nat):Int),((sIx n n hi:Nat):Int)):=by
 have h1:¬((1:Int) < 0):=by omega
 unfold Builtin.Slice.sliceAdjust;simp only[h1,if_false];refine Prod.ext ?_ ?_
 ·cases lo with
  | none=>rfl
  | some v=>exact iG v n 0
 ·cases hi with
  | none=>rfl
  | some v=>exact iG v n n
theorem ju (i j:Nat):Builtin.Slice.slicePlaces (i:Int) (j:Int) 1=j - i:=by
 unfold Builtin.Slice.slicePlaces;have h1:(1:Int) > 0:=by omega
 simp only[h1,if_true,Int.ediv_one];split <;> omega
theorem Vy {v:Value} {o:Option Int} {Q:Option Int->Shared->Prop} (p:IsPart v o) (h:Q o s):wpAny (model prog w) A (Builtin.Slice.slicePartIndex v) Q E s:=by
 cases p with
 | none=>exact slicePart_none h
 | int i t=>exact slicePart_int h
theorem Nt {sl:Addr} {vl vu:Value} {lo hi:Option Int} {n:Nat} {Q:Int×Int×Nat->Shared->Prop} (hs:s.heap.IsSliceOf sl vl vu .none) (pl:IsPart vl lo) (pu:IsPart vu hi)
  (h:Q (((sIx n 0 lo:Nat):Int),1,sIx n n hi - sIx n 0 lo) s):wpAny (model prog w) A (Builtin.Slice.sliceApplied (.ref sl) (pure (n:Int))) Q E s:=by
 obtain⟨os,hos,hcs,hds⟩:=id hs;unfold Builtin.Slice.sliceApplied Builtin.Slice.sliceFields;refine QcB (QcB (Qcz hos hds (x:=vl) rfl (QcB (Qcz hos hds (x:=vu) rfl (QcB (Qcz hos hds (x:=.none) rfl (QcC ?_)))))));refine QcB (slicePart_none ?_);show wpAny _ _ (if ((1:Int) == 0)=true then _ else _) _ _ s
 rw[if_neg (by decide)];refine QcB (Vy pl (QcB (Vy pu (QcB (QcC ?_)))));show wpAny _ _ (match Builtin.Slice.sliceAdjust lo hi 1 (n:Int) with | (lo,hi)=>pure (lo,(1:Int),Builtin.Slice.slicePlaces lo hi 1)) _ _ s
 rw[kO lo hi n];show wpAny _ _ (pure (((sIx n 0 lo:Nat):Int),(1:Int),Builtin.Slice.slicePlaces ((sIx n 0 lo:Nat):Int) ((sIx n n hi:Nat):Int) 1)) _ _ s;rw[ju];exact QcC h
theorem rF (xs:Array Value) (i k:Nat):((List.range k).filterMap λ(m:Nat)=>xs[((i:Int)+(m:Int)*1).toNat]?).toArray=((xs.toList.drop i).take k).toArray:=by
 have e:(λ(m:Nat)=>xs[((i:Int)+(m:Int)*1).toNat]?)=λm=>xs[i+m]?:=by
  funext m
  have:((i:Int)+(m:Int)*1).toNat=i+m:=by omega
  rw[this]
 rw[e];have:=pick_run xs i k;rw[List.filterMap_map] at this;have e2:((λx=>xs[x]?) ∘ λx=>i+x)=λm=>xs[i+m]?:=rfl;rw[e2] at this;rw[this]
theorem Ul {t sl:Addr} {items:Array Value} {vl vu:Value} {lo hi:Option Int} {Q:YA} (ht:IsTup s.heap t items) (hs:s.heap.IsSliceOf sl vl vu .none) (pl:IsPart vl lo) (pu:IsPart vu hi)
  (hw:¬(sIx items.size 0 lo=0/\sIx items.size items.size hi=items.size))
  (h:Q (.ref s.heap.objs.size) { s with heap:=s.heap.push { cls:=.type "tuple",data:=.seq ((items.toList.drop (sIx items.size 0 lo)).take (sIx items.size items.size hi - sIx items.size 0 lo)).toArray } })
  (hsz:items.size<=sizeLine):wpAny (model prog w) A (getItem (.ref t) (.ref sl)) Q E s:=by
 have Y9:sizeOk (.seq ((items.toList.drop (sIx items.size 0 lo)).take (sIx items.size items.size hi - sIx items.size 0 lo)).toArray):=by
  show ((items.toList.drop (sIx items.size 0 lo)).take (sIx items.size items.size hi - sIx items.size 0 lo)).toArray.size<=sizeLine;rw[Qbl,Qbz,QbC,QaP];omega
 have hj:sIx items.size items.size hi<=items.size:=zH _ _ (Qcw _) hi;obtain⟨os,hos,hcs,hds⟩:=id hs;have hTs:s.TypeIs (.ref sl) "slice":=⟨os,hos,hcs⟩;unfold getItem
 try with_reducible refine Qch ?_
 first | refine QcB (QcC ?_) | skip
 refine QcB (wpAny_sequenceKey ht.typeIs (by decide) ?_);refine QcB (Qas (name:=Str.ofString "__getitem__") ht.typeIs Qab
  (QbB Qab ht.typeIs entry_tuple_getitem ?_ (args_tuple_getitem _ _)))
 show wpAny _ _ (Builtin.Tuple.tupleItemsOf (.ref t) >>= _) _ _ s;refine QcB (tupleItemsOf_ ht ?_);refine QcB (wpAny_typeOf hTs ?_);rw[if_pos (by decide)];refine QcB (Nt hs pl pu ?_);have hno:¬((((sIx items.size 0 lo:Nat):Int) == 0&&(1:Int) == 1&&(sIx items.size items.size hi - sIx items.size 0 lo) == items.size)=true):=by
  intro q;rw[QbE,QbE] at q;have q1:((sIx items.size 0 lo:Nat):Int)=0:=eq_of_beq q.1.1;have q2:sIx items.size items.size hi - sIx items.size 0 lo=items.size:=eq_of_beq q.2;exact hw ⟨by omega,by omega⟩
 show wpAny _ _ (if (((sIx items.size 0 lo:Nat):Int) == 0&&(1:Int) == 1&&(sIx items.size items.size hi - sIx items.size 0 lo) == items.size)=true then _ else _) _ _ s
 rw[if_neg hno,rF]
 first
  | exact QcB (m:=Builtin.Tuple.tupleExact _) (Qbq (QcC ⟨_,rfl,QcC h⟩) Y9)
  | exact QcB (m:=Builtin.Tuple.tupleExact _) (Qbq (QcB (QcC (QcC ⟨_,rfl,QcC h⟩))) Y9)
  | exact QcB (QcB (m:=Builtin.Tuple.tupleExact _) (Qbq (QcC (QcC ⟨_,rfl,QcC h⟩)) Y9))
  | exact QcB (QcB (m:=Builtin.Tuple.tupleExact _) (Qbq (QcC ⟨_,rfl,QcC h⟩) Y9))
end
end HT
namespace L2
open PySem PySem.Spec PyProof.Rows
abbrev TO:=St->Hp->(Option Int->Hp->Prop)->Prop
def PO (X:Cx) (e:Option Expr) (t:TO):Prop:=
 ∀(jb:YC) (s:Shared) (U : St) (H:Hp) (Q:Option Int->Hp->Prop),Inv X jb U H s->t U H Q ->
  wpAny (model X.prog X.w) X.A (evalPart e X.env) (λu s'=>∃o H',Inv X jb U H' s'/\IsPart u o/\Q o H') X.xe s
def wD:TO:=λ_ H Q=>Q none H
def B0 (t:TE):TO:=fun U H Q=>t U H λx H1=>∃i,x=.int i/\Q (some i) H1
theorem intsAre_of {ns:List Int}:∀{us:YE},Vals (ns.map V.int) us->IntsAre us ns:=by
 induction ns with
 | nil=>intro us r;rw[Qcv] at r;cases r;exact .nil
 | cons n ns ih=>
  intro us r;rw[Qcf] at r;cases r with
  | cons r1 r2=>
   obtain⟨t,e⟩:=r1;subst e;exact .cons n t (ih r2)
section
variable {X:Cx} {e:Expr} {te:TE} {lo hi:Option Expr} {tl th:TO} {pos p2:Pos}
theorem M9:PO X none wD:=by
 intro jb s U H Q I h;rw[evalPart_none];exact QcC ⟨none,H,I,.none,h⟩
theorem M8 (h:PE X e te):PO X (some e) (B0 te):=by
 intro jb s U H Q I hw;rw[evalPart_some];refine thn (h jb s U H _ I hw) λu s1 zz=>?_;obtain⟨x,H1,I1,r1,q1⟩:=zz;obtain⟨i,rfl,q⟩:=q1;obtain⟨t,rfl⟩:=r1;exact⟨some i,H1,I1,.int i t,q⟩
def SlR (X:Cx) (r:V->Option Int->Option Int->Hp->VK->Prop):Prop:=
 ∀(jb:YC) (s:Shared) (U : St) (H:Hp) (x:V) (v vl vu:Value) (lo hi:Option Int) (sl:Addr) (Q:VK),Inv X jb U H s->RelV x v->s.heap.IsSliceOf sl vl vu .none->IsPart vl lo->IsPart vu hi->r x lo hi H Q ->
  ∃T id,typeLookup (.type T) "__getitem__"=pure (some (.builtin id))/\s.TypeIs v T/\wpAny (model X.prog X.w) X.A (getItem v (.ref sl)) (EP X jb U Q) X.xe s
theorem SlR.or {r r':V->Option Int->Option Int->Hp->VK->Prop} (h:SlR X r) (h':SlR X r'):SlR X (λx lo hi H Q=>r x lo hi H Q\/r' x lo hi H Q):=by
 intro jb s U H x v vl vu lo hi sl Q I rx hs pl pu q;rcases q with q | q
 ·exact h jb s U H x v vl vu lo hi sl Q I rx hs pl pu q
 ·exact h' jb s U H x v vl vu lo hi sl Q I rx hs pl pu q
def tSl (r:V->Option Int->Option Int->Hp->VK->Prop) (te:TE) (tl th:TO):TE:=fun U H Q=>te U H λx H1=>tl U H1 λl H2=>th U H2 λu H3=>r x l u H3 Q
theorem KH {r:V->Option Int->Option Int->Hp->VK->Prop} (hr:SlR X r) (he:PE X e te) (hl:PO X lo tl) (hu:PO X hi th):PE X (.Subscript e (.Slice lo hi none p2) pos) (tSl r te tl th):=by
 intro jb s U H Q I h;refine Subscript_ (thn (he jb s U H _ I h) λv s1 zz=>?_);obtain⟨x,H1,I1,r1,q1⟩:=zz;refine wpAny_Slice (thn (hl jb s1 U H1 _ I1 q1) λvl s2 zz=>?_);obtain⟨l,H2,I2,pl,q2⟩:=zz;refine thn (hu jb s2 U H2 _ I2 q2) λvu s3 zz=>?_;obtain⟨u,H3,I3,pu,q3⟩:=zz;rw[evalPart_none];refine QcC ?_;have I4:Inv X jb U H3 { s3 with heap:=s3.heap.push { cls:=.type "slice",data:=.fields #[vl,vu,.none] } }:=I3.kept (t':=s3.toks) λb ob q=>Qax _ q;obtain⟨T,id,hT,ht,hg⟩:=hr jb { s3 with heap:=s3.heap.push { cls:=.type "slice",data:=.fields #[vl,vu,.none] } } U H3 x v vl vu l u s3.heap.objs.size Q I4 r1 (Heap.IsSliceOf.new ..) pl pu q3;show wpAny (model X.prog X.w) X.A (subscriptTail e (.Slice lo hi none p2) v (.ref s3.heap.objs.size)) (EP X jb U Q) X.xe { s3 with heap:=s3.heap.push { cls:=.type "slice",data:=.fields #[vl,vu,.none] } };exact tail_any (ops:=[.ref s3.heap.objs.size,v]) ht hT hg (by with_unfolding_all rfl)
def Jy (xs:YG) (lo hi:Option Int):YG:=(xs.drop (HT.sIx xs.length 0 lo)).take (HT.sIx xs.length xs.length hi - HT.sIx xs.length 0 lo)
theorem Ux (xs:YG) (lo hi:Option Int):(Jy xs lo hi).length<=xs.length:=by
 unfold Jy;rw[Qbz,QbC];omega
def DZ (K:YD):V->Option Int->Option Int->Hp->VK->Prop:=λx lo hi H Q=>∃a xs,x=.ref a/\SqT K H a xs /\
 ¬(HT.sIx xs.length 0 lo=0/\HT.sIx xs.length xs.length hi=xs.length)/\∀p,H p=none->Q (.ref p) (upd H p (.tup (Jy xs lo hi)))
theorem zE:SlR X (DZ X.K):=by
 intro jb s U H x v vl vu lo hi sl Q I rx hs pl pu h;obtain⟨a,xs,rfl,hx,hw,q⟩:=h;cases rx;obtain⟨its,r,ht,hz⟩:=I.tuple hx;have hlen:its.toArray.size=xs.length:=by rw[Qbl];exact r.length.symm
 refine⟨"tuple",_,Qab.lookup,ht.typeIs,?_⟩;refine HT.Ul ht hs pl pu (by rw[hlen];exact hw) ?_ (by rw[hlen];exact hz);rw[hlen];refine⟨.ref s.heap.objs.size,_,I.laid (t':=s.toks) (o:=.tup (Jy xs lo hi)) (λb ob q=>Qax _ q) (Qcw _) ?_,rq,q _ (I.hok.fresh (Qcw _))⟩;exact⟨Qcr (Ux xs lo hi) hz,_,(r.drop (HT.sIx xs.length 0 lo)).take (HT.sIx xs.length xs.length hi - HT.sIx xs.length 0 lo),IsTup.new _ _⟩
def Ch (K:YD):R2:=λx y H Q=>∃a b xs ys,x=.ref a/\y=.ref b/\SqT K H a xs/\SqT K H b ys/\xs≠[]/\xs.length+ys.length<=sizeLine /\
 (ys=[]->Q (.ref a) H)/\(ys≠[]->∀p,H p=none->Q (.ref p) (upd H p (.tup (xs++ys))))
theorem Vals.Xd {xs:YG} {us:YE} (r:Vals xs us):us=[] ↔ xs=[]:=by
 cases r with
 | nil=>simp
 | cons _ _=>simp
theorem w6:OpR X (binaryOp .Add) (Ch X.K):=by
 intro jb s U H x y v u Q I rx ry h;obtain⟨a,b,xs,ys,rfl,rfl,ha,hb,hx,hz,q1,q2⟩:=h;cases rx;cases ry;obtain⟨its,r1,p1,_⟩:=I.tuple ha;obtain⟨its2,r2,p2,_⟩:=I.tuple hb;refine HT.yx p1 p2 (λz=>hx (r1.Xd.mp z)) (λz=>⟨.ref a,H,I,rq,q1 (r2.Xd.mp z)⟩) (λz=>?_) (by rw[<-r1.length,<-r2.length];exact hz);refine⟨.ref s.heap.objs.size,_,I.laid (t':=s.toks) (o:=.tup (xs++ys)) (λb ob q=>Qax _ q) (Qcw _) ?_,rq,q2 (λw=>z (r2.Xd.mpr w)) _ (I.hok.fresh (Qcw _))⟩;exact⟨by rw[QaU];exact hz,_,r1.append r2,IsTup.new _ _⟩
end
def ixN (n:Nat) (i:Int):Option Nat:=if 0<=i then (if i < n then some i.toNat else none) else if -(n:Int)<=i then some (i+n).toNat else none
def atI {α : Type} (xs:List α) (i:Int):Option α:=(ixN xs.length i).bind λj=>xs[j]?
theorem gQ {n:Nat} {i:Int} {j:Nat} (h:ixN n i=some j):seqIndex? i n=some j/\j < n/\-(n:Int)<=i/\i < n:=by
 unfold ixN at h;by_cases h0:0<=i
 ·rw[if_pos h0] at h;by_cases h1:i < n
  ·rw[if_pos h1] at h;have e:i.toNat=j:=QbN h;exact⟨by rw[seqIndex_of h0 h1,e],by omega,by omega,h1⟩
  ·rw[if_neg h1] at h;cases h
 ·rw[if_neg h0] at h;by_cases h1:-(n:Int)<=i
  ·rw[if_pos h1] at h;have e:(i+n).toNat=j:=QbN h;exact⟨by rw[seqIndex_neg (by omega) h1,e],by omega,h1,by omega⟩
  ·rw[if_neg h1] at h;cases h
theorem Xw {α : Type} {xs:List α} {i:Int} {v:α} (h:atI xs i=some v):∃j,seqIndex? i xs.length=some j/\xs[j]?=some v/\j < xs.length/\-(xs.length:Int)<=i/\i < xs.length:=by
 unfold atI at h;cases e:ixN xs.length i with
 | none=>rw[e] at h;cases h
 | some j=>
  rw[e] at h;obtain⟨h1,h2,h3,h4⟩:=gQ e;exact⟨j,h1,h,h2,h3,h4⟩
theorem DY {α : Type} {xs:List α} {j:Nat} {v:α} (h:xs[j]?=some v):atI xs (j:Int)=some v:=by
 have hj:j < xs.length:=(Qah.mp h).1;have e:ixN xs.length (j:Int)=some j:=by
  unfold ixN;rw[if_pos (by omega),if_pos (by omega)];simp
 unfold atI;rw[e];exact h
def yG (b:Expr):Prop:=∀o i,subscripted b false o i=operate [o,i] (getItem o i)
def IxR (X:Cx) (r:R2):Prop:=
 ∀(value slice:Expr) (jb:YC) (s:Shared) (U : St) (H:Hp) (x y:V) (v u:Value) (Q:VK),Inv X jb U H s->RelV x v->RelV y u->r x y H Q ->
  subscripted slice false v u=operate [v,u] (getItem v u)->wpAny (model X.prog X.w) X.A (subscriptTail value slice v u) (EP X jb U Q) X.xe s
def MtR (X:Cx) (id:String) (r:V->YG->Hp->VK->Prop):Prop:=
 ∀(jb:YC) (s:Shared) (U : St) (H:Hp) (x:V) (xs:YG) (v:Value) (us:YE) (Q:VK),Inv X jb U H s->RelV x v->Vals xs us->r x xs H Q ->
  wpAny (model X.prog X.w) X.A (call (.builtin id) (v::us)) (EP X jb U Q) X.xe s
section
variable {X:Cx} {a b:Expr} {ta tb:TE} {pos:Pos}
theorem IxR.or {r r':R2} (h:IxR X r) (h':IxR X r'):IxR X (λx y H Q=>r x y H Q\/r' x y H Q):=by
 intro value slice jb s U H x y v u Q I rx ry q hs;rcases q with q | q
 ·exact h value slice jb s U H x y v u Q I rx ry q hs
 ·exact h' value slice jb s U H x y v u Q I rx ry q hs
theorem MtR.or {id:String} {r r':V->YG->Hp->VK->Prop} (h:MtR X id r) (h':MtR X id r'):MtR X id (λx xs H Q=>r x xs H Q\/r' x xs H Q):=by
 intro jb s U H x xs v us Q I rx rs q;rcases q with q | q
 ·exact h jb s U H x xs v us Q I rx rs q
 ·exact h' jb s U H x xs v us Q I rx rs q
theorem Bm {r:R2} (hr:IxR X r) (ha:PE X a ta) (hb:PE X b tb) (hs:yG b):PE X (.Subscript a b pos) (tOp r ta tb):=by
 intro jb s U H Q I h;exact Subscript_ (uQ ha hb I h λv u s2 x y H2 I2 rx ry q=>hr a b jb s2 U H2 x y v u Q I2 rx ry q (hs _ _))
def D4 (K:YD):R2:=λx y H Q=>∃p xs i v,x=.ref p/\y=.int i/\SqL K H p xs/\atI xs i=some v/\Q v H
def zK (K:YD):R2:=λx y H Q=>∃p xs i v,x=.ref p/\y=.int i/\SqT K H p xs/\atI xs i=some v/\Q v H
def D3:R2:=λx y H Q=>∃z i c,x=.str z/\y=.int i/\z.length<=sizeLine/\atI z.cps.toList i=some c/\Q (.str ⟨#[c]⟩) H
theorem Df:IxR X (D4 X.K):=by
 intro value slice jb s U H x y v u Q I rx ry h hs;obtain⟨p,xs,i,z,rfl,rfl,hq,he,q⟩:=h;cases rx;obtain⟨t,rfl⟩:=ry;obtain⟨its,r,pl,hz⟩:=I.list hq;obtain⟨j,h1,h2,h3,h4,h5⟩:=Xw he;obtain⟨w,ew,rw'⟩:=r.get h2;have hl:=r.length;have hn:=Oc;have fin:EP X jb U Q w s:=⟨z,H,I,rw',q⟩;by_cases h0:0<=i
 ·have hj:i.toNat=j:=by
   rw[seqIndex_of h0 h5] at h1;exact QbN h1
  exact item_listR pl.isList h0 (by omega) (by rw[hj];simpa using ew) fin hs
 ·have hj:(i+(its.toArray.size:Int)).toNat=j:=by
   rw[seqIndex_neg (by omega) h4] at h1;rw[Qbl,<-hl];exact QbN h1
  exact subscriptTail_builtinR (x:=w) pl.isList.typeIs slot_list_getitem.lookup
   (wpAny_getItem_list_neg (Q:=λr s'=>r=w/\EP X jb U Q r s') pl.isList (by omega) (by rw[Qbl] <;> omega) (by omega) (by rw[hj];simpa using ew) ⟨rq,fin⟩) hs
theorem BW:IxR X (zK X.K):=by
 intro value slice jb s U H x y v u Q I rx ry h hs;obtain⟨p,xs,i,z,rfl,rfl,hq,he,q⟩:=h;cases rx;obtain⟨t,rfl⟩:=ry;obtain⟨its,r,pl,hz⟩:=I.tuple hq;obtain⟨j,h1,h2,h3,h4,h5⟩:=Xw he;obtain⟨w,ew,rw'⟩:=r.get h2;have hl:=r.length;have hn:=Oc;have fin:EP X jb U Q w s:=⟨z,H,I,rw',q⟩;exact subscriptTail_builtinR (x:=w) pl.typeIs slot_tuple_getitem.lookup
  (getItem_tuple (j:=j) (Q:=λr s'=>r=w/\EP X jb U Q r s') pl (by omega) (by omega) (by rw[Qbl,<-hl];exact h1) (by simpa using ew) ⟨rq,fin⟩) hs
theorem AJ:IxR X D3:=by
 intro value slice jb s U H x y v u Q I rx ry h hs;obtain⟨z,i,c,rfl,rfl,hz,he,q⟩:=h;obtain⟨t,rfl⟩:=rx;obtain⟨t',rfl⟩:=ry;obtain⟨j,h1,h2,h3,h4,h5⟩:=Xw he;have hl:z.cps.toList.length=z.length:=by simp[Str.length]
 rw[hl] at h1 h4 h5;have hn:=Oc;exact tail_any (typeIs_str s z t) slot_str_getitem.lookup (getItem_str (c:=c) (by
  have e1:decide (i < -(2 ^ 63:Int))=false:=QbM (by omega);have e2:decide (i ≥ 2 ^ 63)=false:=QbM (by omega);rw[e1,e2,Qcl]) (by rw[h1];simpa using h2) ⟨.str ⟨#[c]⟩,H,I.tok _,⟨_,rq⟩,q⟩) hs
theorem jL (its:YE) (n j:Nat) (u:Value):Obj.mapSeq (·.setIfInBounds j u) { cls:=.type "list",data:=.seq its.toArray n }={ cls:=.type "list",data:=.seq (its.set j u).toArray n }:=by
 simp[Obj.mapSeq]
theorem Inv.lst {jb:YC} {U : St} {H:Hp} {s:Shared} {p:Addr} {xs:YG} (I:Inv X jb U H s) (h:H p=some (.lst xs)) :
  ∃(its:YE) (n:Nat),Vals xs its/\s.heap.get? p=some { cls:=.type "list",data:=.seq its.toArray n }/\xs.length<=sizeLine:=by
 obtain⟨z,its,n,r,e⟩:=I.hok p _ h;exact⟨its,n,r,e,z⟩
theorem Inv.AD {jb:YC} {U : St} {H:Hp} {s:Shared} {p:Addr} {xs ys:YG} {its its':YE} {n n':Nat} {f:Obj->Obj} (I:Inv X jb U H s) (h:H p=some (.lst xs))
  (ho:s.heap.get? p=some { cls:=.type "list",data:=.seq its.toArray n }) (hf:f { cls:=.type "list",data:=.seq its.toArray n }={ cls:=.type "list",data:=.seq its'.toArray n' }) (r:Vals ys its') (hz:ys.length<=sizeLine) (t:Nat) :
  Inv X jb U (upd H p (.lst ys)) { s with heap:=s.heap.update p f,toks:=t }:=by
 have e:(s.heap.update p f).get? p=some { cls:=.type "list",data:=.seq its'.toArray n' }:=by
  rw[QaG f ho (by rw[hf] <;> rfl),hf]
 refine I.write (x:=p) (e:=p) (by rw[h];trivial) (.inl rfl) (λb u hb q=>(QaB _ _ (Ne.symm hb)).trans q) ⟨_,e⟩ ?_;exact⟨hz,its',n',r,e⟩
def Cf:V->V->V->Hp->(Hp->Prop)->Prop:=λo i v H Q=>∃p xs k j,o=.ref p/\i=.int k/\H p=some (.lst xs)/\ixN xs.length k=some j/\Q (upd H p (.lst (xs.set j v)))
theorem set_list:BQ X Cf:=by
 intro jb s U H o i v ov iv u Q I ro ri rv h;obtain⟨p,xs,k,j,rfl,rfl,hp,hj,q⟩:=h;cases ro;obtain⟨t,rfl⟩:=ri;obtain⟨its,n,r,ho,hz⟩:=I.lst hp;obtain⟨h1,h2,h3,h4⟩:=gQ hj;have hl:=r.length;have hn:=Oc;have I':Inv X jb U (upd H p (.lst (xs.set j v))) { s with heap:=s.heap.update p (Obj.mapSeq (·.setIfInBounds j u)) }:=
  I.AD hp ho (jL its n j u) (r.set rv j) (by rw[List.length_set];exact hz) s.toks
 by_cases h0:0<=k
 ·have hk:k.toNat=j:=by
   rw[seqIndex_of h0 h4] at h1;exact QbN h1
  exact PySem.W.ki_setAt ho h0 (by omega) (by rw[Qbl,<-hl];exact h4) (by rw[hk];exact⟨_,I',q⟩)
 ·have hk:(k+(its.toArray.size:Int)).toNat=j:=by
   rw[seqIndex_neg (by omega) h3] at h1;rw[Qbl,<-hl];exact QbN h1
  exact PySem.W.ki_setBack ho (by omega) (by rw[Qbl,<-hl];exact h3) (by omega) (by rw[hk];exact⟨_,I',q⟩)
theorem ZJ (lo hi:Option Int) (n:Nat):(sliceBounds lo hi none n).1=((HT.sIx n 0 lo:Nat):Int)/\(sliceBounds lo hi none n).2.1=((HT.sIx n n hi:Nat):Int)/\(sliceBounds lo hi none n).2.2=1:=by
 refine⟨?_,?_,rq⟩
 ·cases lo with
  | none=>simp[sliceBounds,HT.sIx]
  | some i=>
   simp only[sliceBounds,HT.sIx,Option.getD_none,show (1:Int) > 0 by decide,if_true];by_cases h:i < 0
   ·simp only[h,if_true] <;> omega
   ·simp only[h,if_false] <;> omega
 ·cases hi with
  | none=>simp[sliceBounds,HT.sIx]
  | some i=>
   simp only[sliceBounds,HT.sIx,Option.getD_none,show (1:Int) > 0 by decide,if_true];by_cases h:i < 0
   ·simp only[h,if_true] <;> omega
   ·simp only[h,if_false] <;> omega
theorem Yq (its:YE) (lo hi:Option Int):slicePick its.toArray lo hi none=((its.drop (HT.sIx its.length 0 lo)).take (HT.sIx its.length its.length hi - HT.sIx its.length 0 lo)).toArray:=by
 obtain⟨h1,h2,h3⟩:=ZJ lo hi its.toArray.size;unfold slicePick;rw[h1,h2,h3];simp only[sliceRange_one,pick_run,Qbl] <;> rfl
def D0 (K:YD):V->Option Int->Option Int->Hp->VK->Prop:=λx lo hi H Q=>∃a xs,x=.ref a/\SqL K H a xs/\∀p,H p=none->Q (.ref p) (upd H p (.lst (Jy xs lo hi)))
theorem wJ:SlR X (D0 X.K):=by
 intro jb s U H x v vl vu lo hi sl Q I rx hs pl pu h;obtain⟨a,xs,rfl,hx,q⟩:=h;cases rx;obtain⟨its,r,ht,hz⟩:=I.list hx;have hlen:=r.length;refine⟨"list",_,slot_list_getitem.lookup,ht.isList.typeIs,?_⟩;refine wpAny_getItem_list_slice ht.isList hs pl pu .none (by simp) ?_ (by rw[Qbl] <;> omega);rw[Yq,<-hlen];refine⟨.ref s.heap.objs.size,_,I.laid (t':=s.toks) (o:=.lst (Jy xs lo hi)) (λb ob q=>Qax _ q) (Qcw _) ?_,rq,q _ (I.hok.fresh (Qcw _))⟩;exact⟨Qcr (Ux xs lo hi) hz,_,0,(r.drop (HT.sIx xs.length 0 lo)).take (HT.sIx xs.length xs.length hi - HT.sIx xs.length 0 lo),QaM _ rfl⟩
def Lf:V->Bool
 | .non=>true
 | .bl _=>true
 | .int _=>true
 | .str _=>true
 | _=>false
def eqV:V->V->Bool
 | .non,.non=>true
 | .bl a,.bl b=>a == b
 | .bl a,.int b=>(if a then 1 else 0) == b
 | .int a,.bl b=>a == (if b then 1 else 0)
 | .int a,.int b=>a == b
 | .str a,.str b=>a == b
 | _,_=>false
theorem Bi {A:Around} {s:Shared} {y x:V} {u v:Value} (ry:RelV y u) (rx:RelV x v) (fy:Lf y=true) (fx:Lf x=true):SeqAt.EqAt A s u v (eqV y x):=by
 cases y with
 | non=>
  cases ry;cases x with
  | non=>cases rx;exact SeqAt.EqAt.same _
  | bl b=>cases rx;exact SeqAt.EqAt.none_bool b
  | int b=>obtain⟨t,rfl⟩:=rx;exact SeqAt.EqAt.none_int b t
  | str b=>obtain⟨t,rfl⟩:=rx;exact SeqAt.EqAt.none_str b t
  | _=>exact absurd (show false=true from fx) QaW
 | bl a=>
  cases ry;cases x with
  | non=>cases rx;exact SeqAt.EqAt.bool_none a
  | bl b=>cases rx;exact SeqAt.EqAt.bool_bool a b
  | int b=>obtain⟨t,rfl⟩:=rx;exact SeqAt.EqAt.bool_int a b t
  | str b=>obtain⟨t,rfl⟩:=rx;exact SeqAt.EqAt.bool_str a b t
  | _=>exact absurd (show false=true from fx) QaW
 | int a=>
  obtain⟨t',rfl⟩:=ry;cases x with
  | non=>cases rx;exact SeqAt.EqAt.int_none a t'
  | bl b=>cases rx;exact SeqAt.EqAt.int_bool a t' b
  | int b=>obtain⟨t,rfl⟩:=rx;exact SeqAt.EqAt.int_int a t' b t
  | str b=>obtain⟨t,rfl⟩:=rx;exact SeqAt.EqAt.int_str a t' b t
  | _=>exact absurd (show false=true from fx) QaW
 | str a=>
  obtain⟨t',rfl⟩:=ry;cases x with
  | non=>cases rx;exact SeqAt.EqAt.str_none a t'
  | bl b=>cases rx;exact SeqAt.EqAt.str_bool a t' b
  | int b=>obtain⟨t,rfl⟩:=rx;exact SeqAt.EqAt.str_int a t' b t
  | str b=>obtain⟨t,rfl⟩:=rx;exact SeqAt.EqAt.str_str a t' b t
  | _=>exact absurd (show false=true from fx) QaW
 | _=>exact absurd (show false=true from fy) QaW
def eqU (x:V) (u:Value):Bool:=match u with
 | .none=>eqV .non x
 | .bool b=>eqV (.bl b) x
 | .int i _=>eqV (.int i) x
 | .str z _=>eqV (.str z) x
 | _=>false
theorem pL {x y:V} {u:Value} (r:RelV y u) (f:Lf y=true):eqU x u=eqV y x:=by
 cases y with
 | non=>cases r;rfl
 | bl b=>cases r;rfl
 | int i=>obtain⟨t,rfl⟩:=r;rfl
 | str z=>obtain⟨t,rfl⟩:=r;rfl
 | _=>exact absurd (show false=true from f) QaW
theorem Qp {x:V}:∀{xs:YG} {us:YE},Vals xs us->xs.all Lf=true->us.any (eqU x)=xs.any λy=>eqV y x
 | _,_,.nil,_=>rfl
 | y::xs,u::us,.cons r t,f=>by
  rw[List.all_cons,QbE] at f;rw[Qci,Qci,pL r f.1,Qp t f.2]
theorem Ob {A:Around} {s:Shared} {x:V} {v:Value} (rx:RelV x v) (fx:Lf x=true):∀{xs:YG} {us:YE},Vals xs us->xs.all Lf=true->∀u∈us,SeqAt.EqAt A s u v (eqU x u)
 | _,_,.nil,_=>λu hu=>by cases hu
 | y::xs,u::us,.cons r t,f=>λu' hu=>by
  rw[List.all_cons,QbE] at f;rcases Qce.mp hu with rfl | hu
  ·rw[pL r f.1];exact Bi r rx f.1 fx
  ·exact Ob rx fx t f.2 u' hu
def inV (x:V) (xs:YG):Bool:=xs.any λy=>eqV y x
def rIn (K:YD) (neg:Bool):R2:=λx y H Q=>∃p xs,y=.ref p/\(SqL K H p xs\/SqT K H p xs)/\Lf x=true/\xs.all Lf=true/\Q (.bl (if neg then !inV x xs else inV x xs)) H
theorem RM:OpR X (compareOp .In) (rIn X.K false):=by
 intro jb s U H x y v u Q I rx ry h;obtain⟨p,xs,rfl,hq,fx,fs,q⟩:=h;cases ry;rcases hq with hq | hq
 ·obtain⟨its,r,pl,hz⟩:=I.list hq;refine SeqAt.in_listAt (eqU x) pl.isList (λw hw=>Ob rx fx r fs w (by simpa using hw)) ⟨.bl _,H,I,rq,?_⟩;rw[show its.toArray.any (eqU x)=its.any (eqU x) by simp,Qp r fs];exact q
 ·obtain⟨its,r,pl,hz⟩:=I.tuple hq;refine SeqAt.in_tupleAt (eqU x) pl (λw hw=>Ob rx fx r fs w (by simpa using hw)) ⟨.bl _,H,I,rq,?_⟩;rw[show its.toArray.any (eqU x)=its.any (eqU x) by simp,Qp r fs];exact q
theorem aP:OpR X (compareOp .NotIn) (rIn X.K true):=by
 intro jb s U H x y v u Q I rx ry h;obtain⟨p,xs,rfl,hq,fx,fs,q⟩:=h;cases ry;rcases hq with hq | hq
 ·obtain⟨its,r,pl,hz⟩:=I.list hq;refine SeqAt.notIn_listAt (eqU x) pl.isList (λw hw=>Ob rx fx r fs w (by simpa using hw)) ⟨.bl _,H,I,rq,?_⟩;rw[show its.toArray.any (eqU x)=its.any (eqU x) by simp,Qp r fs];exact q
 ·obtain⟨its,r,pl,hz⟩:=I.tuple hq;refine SeqAt.notIn_tupleAt (eqU x) pl (λw hw=>Ob rx fx r fs w (by simpa using hw)) ⟨.bl _,H,I,rq,?_⟩;rw[show its.toArray.any (eqU x)=its.any (eqU x) by simp,Qp r fs];exact q
theorem Bh:DQ X (.builtin "len") (λxs H Q=>∃p ys,xs=[.ref p]/\(SqL X.K H p ys\/SqT X.K H p ys)/\Q (.int ys.length) H):=by
 intro jb s U H xs us Q I r h;obtain⟨p,ys,rfl,hq,q⟩:=h;obtain⟨u,rfl,rx⟩:=vals1 r;cases rx;have hn:=Oc;rcases hq with hq | hq
 ·obtain⟨its,r',pl,hz⟩:=I.list hq;have hlen:=r'.length;exact Calls.call_len_list pl.isList (by simp only[Qbl] <;> omega) ⟨.int ys.length,H,I.tok _,⟨s.toks+1,by rw[Qbl,hlen]⟩,q⟩
 ·obtain⟨its,r',pl,hz⟩:=I.tuple hq;have hlen:=r'.length;exact len_tuple pl (by simp only[Qbl] <;> omega) ⟨.int ys.length,H,I.tok _,⟨s.toks+1,by rw[Qbl,hlen]⟩,q⟩
theorem cL:DQ X (.builtin "len") (λxs H Q=>∃z,xs=[.str z]/\z.length<=sizeLine/\Q (.int z.length) H):=by
 intro jb s U H xs us Q I r h;obtain⟨z,rfl,hz,q⟩:=h;obtain⟨u,rfl,t,rfl⟩:=vals1 r;have hn:=Oc;exact len_str (by omega) ⟨.int z.length,H,I.tok _,⟨_,rq⟩,q⟩
theorem DQ.or {f:Value} {r r':YG->Hp->VK->Prop} (h:DQ X f r) (h':DQ X f r'):DQ X f (λxs H Q=>r xs H Q\/r' xs H Q):=by
 intro jb s U H xs us Q I rs q;rcases q with q | q
 ·exact h jb s U H xs us Q I rs q
 ·exact h' jb s U H xs us Q I rs q
theorem Hi:DQ X (.type "tuple") (λxs H Q=>∃p ys,xs=[.ref p]/\((SqL X.K H p ys/\∀l,H l=none->Q (.ref l) (upd H l (.tup ys)))\/(SqT X.K H p ys/\Q (.ref p) H))):=by
 intro jb s U H xs us Q I r h;obtain⟨p,ys,rfl,h⟩:=h;obtain⟨u,rfl,rx⟩:=vals1 r;cases rx;rcases h with⟨hq,q⟩|⟨hq,q⟩
 ·obtain⟨its,r',pl,hz⟩:=I.list hq;have hlen:=r'.length;refine call_tuple_list pl.isList (λh' kp=>?_) (by simp only[Qbl] <;> omega);have I1:Inv X jb U H { s with heap:=h' }:=I.kept (t':=s.toks) kp;have I2:Inv X jb U (upd H h'.objs.size (.tup ys)) { s with heap:=h'.push { cls:=.type "tuple",data:=.seq its.toArray } }:=
   I1.laid (t':=s.toks) (λb o e=>Qax _ e) (Qcw _) (show BK X.prog X.w _ _ _ (.tup ys) from⟨hz,its,r',IsTup.new _ _⟩)
  exact⟨.ref h'.objs.size,_,I2,rq,q _ (I1.hok.fresh (Qcw _))⟩
 ·obtain⟨its,r',pl,hz⟩:=I.tuple hq;exact call_tuple_same pl ⟨.ref p,H,I,rq,q⟩
def tyV (K:YD) (T:String) (x:V) (H:Hp):Prop:=match x with
 | .str _=>T="str"
 | .int _=>T="int"
 | .ref p=>(T="list"/\∃xs,SqL K H p xs)\/(T="tuple"/\∃o,K.lookup p=some o/\o.cls=.type "tuple"/\o.dict=none) \/
   (T="dict"/\((∃kvs,H p=some (.dK kvs))\/∃kvs,H p=some (.dT kvs)))\/(T="set"/\∃S n,H p=some (.set S n))
 | _=>False
theorem lK {jb:YC} {U : St} {H:Hp} {s:Shared} {T:String} {x:V} {v:Value} (I:Inv X jb U H s) (r:RelV x v) (ty:tyV X.K T x H) :
  s.TypeIs v T/\∀a,v=.ref a->∃ob,s.heap.get? a=some ob/\ob.dict=none:=by
 cases x with
 | str z=>
  obtain⟨t,rfl⟩:=r;cases (show T="str" from ty)
  exact⟨typeIs_str s z t,λ_ e=>nomatch e⟩
 | int i=>
  obtain⟨t,rfl⟩:=r;cases (show T="int" from ty)
  exact⟨typeIs_int s i t,λ_ e=>nomatch e⟩
 | ref p=>
  cases r;rcases ty with⟨rfl,xs,hq⟩|⟨rfl,o,hk,hc,hd⟩|⟨rfl,hk⟩|⟨rfl,S,n,hk⟩
  ·obtain⟨its,_,pl,_⟩:=I.list hq;refine⟨pl.isList.typeIs,λa e=>?_⟩;cases e;obtain⟨o,n,e,c,hd,_⟩:=pl;exact⟨o,e,hd⟩
  ·refine⟨⟨o,I.kIn p o hk,hc⟩,λa e=>?_⟩;cases e;exact⟨o,I.kIn _ o hk,hd⟩
  ·have z:∃o,s.heap.get? p=some o/\o.ExactDict:=by
    rcases hk with⟨kvs,hk⟩|⟨kvs,hk⟩
    ·obtain⟨_,_,_,_,o,_,_,e,ex,_⟩:=I.hok p _ hk;exact⟨o,e,ex⟩
    ·obtain⟨_,_,_,_,o,_,_,e,ex,_⟩:=I.hok p _ hk;exact⟨o,e,ex⟩
   obtain⟨o,e,ex⟩:=z;refine⟨⟨o,e,ex.1⟩,λa e2=>?_⟩;cases e2;exact⟨o,e,ex.2.1⟩
  ·obtain⟨o,_,_,_,e,ex,_⟩:=I.hok p _ hk;refine⟨⟨o,e,ex.1⟩,λa e2=>?_⟩;cases e2;exact⟨o,e,ex.2.1⟩
 | _=>exact False.elim ty
def DS (K:YD) (T:String) (r:V->YG->Hp->VK->Prop) (to:TE):TE:=fun U H Q=>to U H λx H1=>tyV K T x H1/\r x [] H1 Q
def tBM (K:YD) (T:String) (r:V->YG->Hp->VK->Prop) (to:TE) (t:TA):TE:=fun U H Q=>to U H λx H1=>tyV K T x H1/\t U H1 λxs H2=>r x xs H2 Q
variable {o e:Expr} {es:YJ} {to:TE} {t:TA} {name:Str} {apos cpos:Pos} {T id:String} {r:V->YG->Hp->VK->Prop}
theorem zT (pa:PlainAttrs T) (slot:Slot T name id) (hty:typeOf (.builtin id)=pure (.type "method_descriptor")) (hm:MtR X id r) (ho:PE X o to)
  (hbase:attributeBase o name X.env (eval o X.env)=eval o X.env:=by rfl) (hline:(apos.endLine == cpos.line)=true:=by rfl):PE X (.Call (.Attribute o name apos) [] [] cpos) (DS X.K T r to):=by
 intro jb s U H Q I h;refine wpAny_Call_method0_late hbase hline (thn (ho jb s U H _ I h) λv s1 zz=>?_);obtain⟨x,H1,I1,r1,ty,q1⟩:=zz;obtain⟨h1,h2⟩:=lK I1 r1 ty;exact⟨T,id,pa,slot,hty,h1,h2,QaC rfl (PySem.evalArgs_none (hm jb s1 U H1 x [] v [] Q I1 r1 .nil q1))⟩
theorem Cw (pa:PlainAttrs T) (slot:Slot T name id) (hty:typeOf (.builtin id)=pure (.type "method_descriptor")) (hm:MtR X id r) (ho:PE X o to) (ha:PA X (e::es) t)
  (hbase:attributeBase o name X.env (eval o X.env)=eval o X.env:=by rfl)
  (hfew:((backTo cpos (starEach (e::es) X.env)).all (λx=>!x.1)&&(backToKw cpos (keywordEach [] X.env)).all (λx=>x.1.isSome)
  &&decide ((e::es).length+([]:List Keyword).length+(if ([]:List Keyword).isEmpty then 0 else 1) < 30))=true:=by rfl)
  (hline:(apos.endLine == cpos.line)=true:=by rfl) (hs:starEach (e::es) X.env=(false,eval e X.env)::starEach es X.env:=by rfl) (hplain:(backTo cpos (starEach es X.env)).any (·.1)=false:=by rfl) :
  PE X (.Call (.Attribute o name apos) (e::es) [] cpos) (tBM X.K T r to t):=by
 intro jb s U H Q I h;refine wpAny_Call_method_late hbase hfew hline rfl (thn (ho jb s U H _ I h) λv s1 zz=>?_);obtain⟨x,H1,I1,r1,ty,q1⟩:=zz;obtain⟨h1,h2⟩:=lK I1 r1 ty;refine⟨T,id,pa,slot,hty,h1,h2,?_⟩;have hA:=ha cpos jb s1 U H1 _ I1 q1;rw[hs] at hA ⊢;refine QaC (by show (false || (backTo cpos (starEach es X.env)).any (·.1))=false;rw[hplain] <;> rfl) (Calls.evalArgs_plain ?_);refine thn hA λus s2 zz=>?_;obtain⟨vs,H2,I2,r2,q2⟩:=zz;exact hm jb s2 U H2 x vs v us Q I2 r1 r2 q2
end
def MtM (X:Cx) (id:String) (r:V->YG->Hp->VK->Prop):Prop:=
 ∀(jb:YC) (s:Shared) (U : St) (H:Hp) (x:V) (xs:YG) (v:Value) (us:YE) (Q:VK),Inv X jb U H s->RelV x v->Vals xs us->r x xs H Q ->
  wpAny (model X.prog X.w) X.A (call (.builtin id) (v::us)) (EP X jb U Q) X.xe s
theorem Vals.one:∀{x:V} {us:YE},Vals [x] us->∃u,us=[u]/\RelV x u
 | _,_,.cons r .nil=>⟨_,rfl,r⟩
theorem Vals.zero:∀{us:YE},Vals [] us->us=[]
 | _,.nil=>rfl
theorem Vals.dropLast {xs:YG} {us:YE} (h:Vals xs us):Vals xs.dropLast us.dropLast:=by
 induction h with
 | nil=>exact .nil
 | cons r t ih=>
  cases t with
  | nil=>exact .nil
  | cons q t'=>exact .cons r ih
theorem Vals.eraseIdx:∀{xs:YG} {us:YE} (i:Nat),Vals xs us->Vals (xs.eraseIdx i) (us.eraseIdx i)
 | _,_,_,.nil=>.nil
 | _,_,0,.cons _ t=>t
 | _,_,i+1,.cons r t=>.cons r (Vals.eraseIdx i t)
theorem j8 {α : Type} (l:List α):l.eraseIdx (l.length - 1)=l.dropLast:=by
 induction l with
 | nil=>rfl
 | cons a r ih=>
  cases r with
  | nil=>rfl
  | cons b r=>
   have e:(a::b::r).length - 1=((b::r).length - 1)+1:=by
    have h1:(a::b::r).length=r.length+2:=rfl;have h2:(b::r).length=r.length+1:=rfl;omega
   rw[e,List.eraseIdx_cons_succ,ih]
   all_goals rfl
theorem X6 {α : Type}:∀(l:List α) (i:Nat),(l.eraseIdx i).length<=l.length
 | [],_=>Qcw _
 | _::_,0=>Nat.le_succ _
 | _::r,i+1=>Nat.succ_le_succ (X6 r i)
section
variable {X:Cx} {jb:YC} {U : St} {H:Hp} {s:Shared} {l b:Addr} {xs ys zs:YG}
theorem Inv.bF {its its':YE} {n:Nat} {f:Array Value->Array Value} {t':Nat} (I:Inv X jb U H s) (hH:H l=some (.lst xs))
  (e:s.heap.get? l=some { cls:=.type "list",data:=.seq its.toArray n }) (hf:f its.toArray=its'.toArray) (hv:Vals ys its') (hz:ys.length<=sizeLine) :
  Inv X jb U (upd H l (.lst ys)) { s with heap:=s.heap.update l (Obj.mapSeq f),toks:=t' }:=by
 have q:=PySem.IsL.update e f;rw[hf] at q;refine I.write (x:=l) (e:=l) (by rw[hH];exact trivial) (.inl rfl) (λb' u hb hu=>(QaB s.heap (Obj.mapSeq f) (Ne.symm hb)).trans hu) ⟨_,q⟩ ?_;exact⟨hz,its',_,hv,q⟩
theorem Inv.Xf (I:Inv X jb U H s) (hH:H l=some (.lst xs)):xs.length<=sizeLine/\∃(its:YE) (n:Nat),Vals xs its/\xs.length=its.length/\s.heap.get? l=some { cls:=.type "list",data:=.seq its.toArray n }:=by
 obtain⟨z,its,n,r,e⟩:=I.hok l _ hH;exact⟨z,its,n,r,r.length,e⟩
theorem tH {n:Nat} (h:n<=sizeLine):Builtin.List.listTooLong n=false:=by
 unfold Builtin.List.listTooLong;exact QbM (by omega)
end
section
variable {X:Cx}
def wR:V->YG->Hp->VK->Prop:=λx vs H Q=>∃l xs y,x=.ref l/\vs=[y]/\H l=some (.lst xs)/\xs.length < sizeLine/\Q .non (upd H l (.lst (xs++[y])))
theorem Ci:MtM X "list.append" wR:=by
 intro jb s U H x vs v us Q I rx rv h;obtain⟨l,xs,y,rfl,rfl,hH,hz,q⟩:=h;cases rx;obtain⟨u,rfl,ru⟩:=rv.one;obtain⟨z,its,n,r,hl,e⟩:=I.Xf hH;refine call_meets F.slot_list_append ⟨_,e,rq⟩ F.entry_list_append (F.args_list_append_2 _ _) (PySem.list_append l its.toArray n u (by rw[Qbl];omega)) ⟨e,?_⟩;refine⟨.non,_,I.bF (its':=its++[u]) hH e (by simp) (r.append (.cons ru .nil)) ?_,rq,q⟩;rw[QaU,QaF];omega
def wO:V->YG->Hp->VK->Prop:=λx vs H Q=>∃l b xs zs,x=.ref l/\vs=[.ref b]/\H l=some (.lst xs)/\H b=some (.lst zs)/\xs.length+zs.length<=sizeLine/\Q .non (upd H l (.lst (xs++zs)))
theorem Fo:MtM X "list.extend" wO:=by
 intro jb s U H x vs v us Q I rx rv h;obtain⟨l,b,xs,zs,rfl,rfl,hH,hB,hz,q⟩:=h;cases rx;obtain⟨u,rfl,ru⟩:=rv.one;cases ru;obtain⟨z,its,n,r,hl,e⟩:=I.Xf hH;obtain⟨z2,its2,n2,r2,hl2,e2⟩:=I.Xf hB;have hsz:its.toArray.size+its2.toArray.size<=sizeLine:=by rw[Qbl,Qbl];omega
 have CY:¬(!its.toArray.isEmpty&&Builtin.List.listTooLong (its.toArray.size+its2.toArray.size))=true:=by
  rw[tH hsz,Bool.and_false];exact QaW
 refine call_meets F.slot_list_extend ⟨_,e,rq⟩ F.entry_list_extend (F.args_list_extend_2 _ _)
  (AutoSeq1.list_extend_list_list_0 l its.toArray n b its2.toArray n2 CY (by rw[Qbl];omega) (by omega)) ⟨e,e2,?_⟩
 refine⟨.non,_,I.bF (its':=its++its2) hH e (by simp) (r.append r2) ?_,rq,q⟩;rw[QaU];omega
def D1:V->YG->Hp->VK->Prop:=λx vs H Q=>∃l xs y,x=.ref l/\vs=[]/\H l=some (.lst xs)/\xs[xs.length - 1]?=some y/\Q y (upd H l (.lst xs.dropLast))
theorem NR:MtM X "list.pop" D1:=by
 intro jb s U H x vs v us Q I rx rv h;obtain⟨l,xs,y,rfl,rfl,hH,hy,q⟩:=h;cases rx;have hus:=rv.zero;subst hus;obtain⟨z,its,n,r,hl,e⟩:=I.Xf hH;obtain⟨u,hu,ru⟩:=r.get hy;have hy':its.toArray[its.toArray.size - 1]?=some u:=by
  show its.toArray[its.length - 1]?=some u;rw[<-Array.getElem?_toList,<-hl];exact hu
 refine call_meets F.slot_list_pop ⟨_,e,rq⟩ F.entry_list_pop (F.args_list_pop_1 _) (MeetsSeq.list_pop_last l its.toArray n u hy' (by rw[Qbl];omega)) ⟨e,?_⟩;refine⟨y,_,I.bF (its':=its.dropLast) hH e ?_ r.dropLast ?_,ru,q⟩
 ·show its.toArray.eraseIdxIfInBounds (its.toArray.size - 1)=its.dropLast.toArray;rw[Qbl,List.eraseIdxIfInBounds_toArray,j8]
 ·rw[List.length_dropLast];omega
def zJ:V->YG->Hp->VK->Prop:=λx vs H Q=>∃l xs i k y,x=.ref l/\vs=[.int i]/\H l=some (.lst xs)/\-(2 ^ 63)<=i/\i < 2 ^ 63/\seqIndex? i xs.length=some k/\xs[k]?=some y/\Q y (upd H l (.lst (xs.eraseIdx k)))
theorem bD:MtM X "list.pop" zJ:=by
 intro jb s U H x vs v us Q I rx rv h;obtain⟨l,xs,i,k,y,rfl,rfl,hH,h1,h2,hk,hy,q⟩:=h;cases rx;obtain⟨u,rfl,ru⟩:=rv.one;obtain⟨t,rfl⟩:=ru;obtain⟨z,its,n,r,hl,e⟩:=I.Xf hH;obtain⟨w,hw,rw'⟩:=r.get hy;refine call_meets F.slot_list_pop ⟨_,e,rq⟩ F.entry_list_pop (F.args_list_pop_2 _ _)
  (MeetsSeq.list_pop_at l its.toArray n i t k w (fitsIndex_both h1 h2) (by rw[Qbl,<-hl];exact hk) (by rw[<-Array.getElem?_toList];exact hw) (by rw[Qbl];omega)) ⟨e,?_⟩
 refine⟨y,_,I.bF (its':=its.eraseIdx k) hH e ?_ (r.eraseIdx k) ?_,rw',q⟩
 ·show its.toArray.eraseIdxIfInBounds k=(its.eraseIdx k).toArray;rw[List.eraseIdxIfInBounds_toArray]
 ·have:=X6 xs k;omega
def zL:V->YG->Hp->VK->Prop:=λx vs H Q=>∃l xs,x=.ref l/\vs=[]/\H l=some (.lst xs)/\Q .non (upd H l (.lst []))
theorem tV:MtM X "list.clear" zL:=by
 intro jb s U H x vs v us Q I rx rv h;obtain⟨l,xs,rfl,rfl,hH,q⟩:=h;cases rx;have hus:=rv.zero;subst hus;obtain⟨z,its,n,r,hl,e⟩:=I.Xf hH;refine call_meets F.slot_list_clear ⟨_,e,rq⟩ F.entry_list_clear (F.args_list_clear_1 _) (AutoSeq1.list_clear_list_0 l its.toArray n (by rw[Qbl];omega)) ⟨e,?_⟩;exact⟨.non,_,I.bF (its':=[]) (ys:=[]) hH e rfl .nil (Qcx _),rq,q⟩
end
section
variable {prog:Program} {w:World} {A:Around} {E:YA} {s:Shared}
set_option maxRecDepth 100000 in
end
section
variable {X:Cx}
end
end L2
namespace Att
open PySem PySem.W PySem.Calls PyProof.Rows
theorem V7 {P:Params} {h:Heap}:∀(ns:List Int) (vs:YE),WellAll P h vs (ns.map WData.int)->IntsAre vs ns:=by
 intro ns
 induction ns with
 | nil=>
  intro vs w;rw[Qcv] at w;cases w;exact .nil
 | cons n ns ih=>
  intro vs w;rw[Qcf] at w;cases w with
  | cons a b=>
   cases a;exact .cons _ _ (ih _ b)
theorem mO {l:OpenLaw} {n:Nat} (hn:l.most=some n) {P:Params} {h:Heap} {args:List WData} {vals:YE}
  (hpre:l.row.toRowW.claim.pre args=true) (hwl:WellAll P h vals args) :
  ∃a vs ns,vals=[Value.ref a]/\args=[WData.list (ns.map WData.int)]/\h.get? a=some { cls:=.type "list",data:=.seq vs.toArray }/\IntsAre vs ns/\ns.length<=n:=by
 have hsh:WShape.hasAll [] args [.list .int]=true:=(pre_splitW hpre).1;have hc:l.pre.holds [] { args:=args }=true:=(pre_splitW hpre).2;obtain⟨d,r,rfl,h1,h2⟩:=hasAllW_cons hsh;obtain rfl:=hasAllW_nil h2;obtain⟨xs,rfl,h3⟩:=hasW_list h1;obtain⟨ns,rfl⟩:=items_int h3;have hlen:ns.length<=n:=by
  unfold OpenLaw.pre at hc;have h4:(WTm.not (.lt (.lit (.int (n:Int))) (.len (.arg 0)))).holds [] { args:=[.list (ns.map .int)] }=true:=by
   have h4:=(holds_andW hc).1;rw[hn] at h4;exact h4
  have h5:=condW_of h4 (w_not (w_lt w_lit (w_len_list (w_arg rfl))));rw[QbH] at h5;refine Nat.le_of_not_lt λq=>?_;have q':(n:Int) < ((ns.length:Nat):Int):=by omega
  first
   | (rw[QbY q'] at h5;exact absurd h5 (by decide))
   | (simp at h5;omega)
 cases hwl with
 | cons w1 w2=>
  cases w2;cases w1 with
  | list ho hall=>exact⟨_,_,ns,rfl,rfl,ho,V7 ns _ hall,hlen⟩
theorem mZ (l:OpenLaw) (args:List WData):l.row.toRowW.claim.post args (.bool true) args=true:=
 postW_of (r:=l.row.toRowW) (X:=(true == true))
  (show WShape.has [] (.bool true) .bool=true by first | rfl | decide | simp[WShape.has,WShape.arms,WShape.armsAll])
  (show (WTm.eq .res (.lit (.bool true))).value [] { args:=args,res:=some (.bool true),after:=args }=some (.bool (true == true)) from w_eq_bool (w_res rfl) w_lit) rfl
theorem d8 {l:OpenLaw} {n:Nat} {q:Program} {loose:YF} {XP:(YB)->Heap->Prop} {YP:World->Heap->Prop} {d:DefRec}
  (hn:l.most=some n) (hdf:d.params.defaults=[])
  (call:∀(w:World) (s₀ s₁ : Shared) (mg mb:YB) (fa:Addr) (o:Obj) (pm cd doc:Value) (a:Addr) (vs:YE) (ns:List Int),
   Ground q loose [] XP w s₀ mg mb s₁.heap->YP w s₁.heap ->
   s₁.heap.get? fa=some o->o.data=.func (docDef d.name d.params d.body d.scope pm cd doc)->s₁.heap.CodeRec cd d.name->mg d.name=some (.ref fa) ->
   s₁.heap.get? a=some { cls:=.type "list",data:=.seq vs.toArray }->IntsAre vs ns->ns.length<=n->s₁.gens=#[] ->
   codeAny (model l.prog w) callerA (.call (.ref fa) ⟨[.ref a],[]⟩) (λr s'=>r=.ok (.ret (.bool true))/\OldK s₁.heap s'.heap/\s'.os=s₁.os/\AllBare s'.gens) s₁) :
  WalkO q loose XP YP l.row.toRowW d [] (λf vs=>PySem.call f vs):=by
 intro w s₀ s₁ mg mb G Y fa o pm cd doc dV kV ho hd hcd hD hmg hg args vals as hpre hlay hrd hwl hlo;obtain rfl:dV=.none:=Dflts.none hD hdf;obtain rfl:kV=.none:=Dflts.noKw hD;obtain⟨a,vs,ns,rfl,rfl,hobj,hints,hlen⟩:=mO hn hpre hwl;refine enter_call (codeAny_mono (call w s₀ s₁ mg mb fa o pm cd doc a vs ns G Y ho (fd_plain hd) hcd hmg hobj hints hlen hg) λr s' hq=>?_);obtain⟨rfl,h2,h3,h4⟩:=hq;exact⟨.inl ⟨.bool true,.bool true,[],rq,λ_=>rfl,.bool true,mZ l _,λ_=>⟨List.Pairwise.nil,λ_ hm=>(nomatch hm)⟩⟩,h2,h3,h4⟩
section
variable {prog:Program} {w:World} {A:Around} {E:YA} {s:Shared} {K:Frag}
def VR (h:Heap):Heap:={ h with objs:=#[] }
theorem MN (h:Heap) (b:Addr):(VR h).get? b=none:=by
 cases e:(VR h).get? b with
 | none=>rfl
 | some o=>exact absurd (Qco e) (QbU _)
theorem A9 {h:Heap} {L:Addr} {m:YB} (n:h.Ns L m):Fr (VR h) L h m:=
 ⟨n,λb o e=>(by rw[MN] at e;cases e),Qcx _⟩
end
end Att
namespace L2
open PySem PySem.Spec PyProof.Rows
theorem Rp:∀{vs:YE} {ns:List Int},IntsAre vs ns->Vals (ns.map V.int) vs
 | _,_,.nil=>.nil
 | _,_,.cons n t h=>.cons ⟨t,rfl⟩ (Rp h)
def Only (H:Hp):Prop:=∀b,H b=none\/∃o xs,H b=some (.frz o (.lst xs))
theorem tY {P:Program} {w:World} {K:YD} {mg mb:YB} {CX:CXT} {k:Nat} {fa a:Addr} {fd:FuncData} {x:Str} {sp:Sp} {s₁ : Shared} {vs:YE} {ns:List Int}
  (KX:K.In s₁.heap) (hns:s₁.heap.Ns mainGlobals mg) (hb:s₁.heap.Ns builtinsNs mb) (hbb:∀x:Str,x≠"__name__"->mb x=bootBuiltins x) (hlim:s₁.heap.NoLimit) (hg:s₁.gens=#[])
  (ha:s₁.heap.get? a=some { cls:=.type "list",data:=.seq vs.toArray }) (hi:IntsAre vs ns) (hl:ns.length<=sizeLine) (hr:Dl k callerA)
  (F:∀base:Heap,K.In base->base.Ns mainGlobals mg->G3 P w K mg base CX k fa fd [x] sp) (hbind:∀(s:Shared) (u:Value),BindsTo s fd ⟨[u],[]⟩ [(x,u)])
  (hsp:∀H:Hp,Only H->SqL K H a (ns.map V.int)->sp [.ref a] H (λv _=>v=.bl true) λ_ _ _=>False)
  (hCX:∀H e s',CX [] H s₁ (λ_ _ _=>False) e s'->False) :
  codeAny (model P w) callerA (.call (.ref fa) ⟨[.ref a],[]⟩) (λr s'=>r=.ok (.ret (.bool true))/\OldK s₁.heap s'.heap/\s'.os=s₁.os/\AllBare s'.gens) s₁:=by
 have rv:=Rp hi;have lenV:=hi.length;have core:∀H:Hp,Only H->SqL K H a (ns.map V.int)->HOk P w H s₁.heap->(∀b,H b≠none->b=a)->(H a≠none->K.lookup a=none) ->
   codeAny (model P w) callerA (.call (.ref fa) ⟨[.ref a],[]⟩) (λr s'=>r=.ok (.ret (.bool true))/\OldK s₁.heap s'.heap/\s'.os=s₁.os/\AllBare s'.gens) s₁:=by
  intro H hO hS hok hA hK;have iK:∀{b:Addr} {o:Obj},s₁.heap.get? b=some o->H b=none->(QS s₁.heap H).get? b=some o:=λe n=>uo e n;have noA:∀{b:Addr} {o:Obj} {es:YK} {ep:Nat},s₁.heap.get? b=some o->o.data=.dict es ep->H b=none:=λ{b o es ep} e d=>by
   cases q:H b with
   | none=>rfl
   | some u=>
    have e':b=a:=hA b (by rw[q];simp);subst e';rw[ha] at e;cases e;have d':Data.seq vs.toArray _=Data.dict es ep:=d;cases d'
  have nsK:∀{b:Addr} {m:YB},s₁.heap.Ns b m->(QS s₁.heap H).Ns b m:=λ{b m} ⟨o,es,ep,e,d,r⟩=>⟨o,es,ep,iK e (noA e d),d,r⟩;have hKb:K.In (QS s₁.heap H):=λb o e=>iK (KX b o e) (by
   cases q:H b with
   | none=>rfl
   | some u=>
    have e':b=a:=hA b (by rw[q];simp);subst e';rw[hK (by rw[q];simp)] at e;cases e)
  have hM:Mod K mg (QS s₁.heap H):=⟨hKb,nsK hns,⟨mb,nsK hb,hbb⟩,let ⟨mc,h1,h2⟩:=hlim;⟨mc,nsK h1,h2⟩⟩;have e0:Qd P w K mg (QS s₁.heap H) callerA [] s₁ H:=⟨rq,hM,λb o e=>xM e,Nat.le_of_eq (oV _ _),trivial,λb hb=>absurd (show b∈([]:List Addr) from hb) (by simp),hok,.of_eq hg⟩
  refine codeAny_mono ((F _ hKb (nsK hns)).run callerA [] s₁ H ⟨[.ref a],[]⟩ [.ref a] [.ref a] _ _ hr e0 (hbind s₁ (.ref a)) (.cons rfl .nil) (hsp H hO hS)) λr s' h=>?_;cases r with
  | error e=>exact (hCX H e s' h).elim
  | ok fl=>
   cases fl with
   | next=>exact False.elim h
   | brk=>exact False.elim h
   | cont=>exact False.elim h
   | ret u=>
    obtain⟨v,H',os,bare,un,hok',r',q⟩:=h;have q':v=.bl true:=q;subst q';obtain rfl:u=Value.bool true:=r';refine⟨rq,OldK.of_keep λb o e=>?_,os,bare⟩;cases q:H b with
    | none=>exact un.keep b o e q (by intro z;exact absurd (show b∈([]:List Addr) from z) (by simp)) (by simp)
    | some u=>
     rcases hO b with z |⟨ob,xs,z⟩
     ·rw[q] at z;cases z
     ·have z2:=un.Mv b ob _ z;obtain⟨e1,_⟩:=hok b _ z;obtain⟨e2,_⟩:=hok' b _ z2;rw[e] at e1;cases e1;exact e2
 cases hk:K.lookup a with
 | some o=>
  have e:=KX a o hk;rw[ha] at e;cases e;refine core (λ_=>none) (λ_=>.inl rfl) (.inr ⟨_,vs.toArray,_,hk,rq,rq,rq,by rw[Qbl,lenV];exact hl,by simpa using rv⟩) (λb u z=>by have z':(none:Option HO)=some u:=z;cases z') (λb z=>absurd rfl z) λz=>absurd rfl z
 | none=>
  refine core (λb=>if b=a then some (.frz { cls:=.type "list",data:=.seq vs.toArray } (.lst (ns.map V.int))) else none) (λb=>?_) (.inl (.inr ⟨{ cls:=.type "list",data:=.seq vs.toArray },if_pos rfl⟩)) (λb u z=>?_) (λb z=>?_) λ_=>hk
  ·by_cases hb:b=a
   ·exact .inr ⟨_,_,if_pos hb⟩
   ·exact .inl (if_neg hb)
  ·by_cases hb:b=a
   ·have z':=(if_pos hb).symm.trans z;cases z';subst hb;exact⟨ha,by rw[QbH];exact hl,vs,_,rv,ha⟩
   ·have z':=(if_neg hb).symm.trans z;cases z'
  ·by_cases hb:b=a
   ·exact hb
   ·exact absurd (if_neg hb) z
theorem wA {l:PySem.W.OpenLaw} {n k:Nat} {q:Program} {loose:YF} {XP:(YB)->Heap->Prop} {YP:World->Heap->Prop} {d:DefRec} {K:Params->YD} {CX:World->CXT} {sp:World->Sp} {x:Str}
  (hn:l.most=some n) (hn2:n<=sizeLine) (hdf:d.params.defaults=[]) (hr:Dl k callerA)
  (hY:∀(w:World) (h:Heap),YP w h->(K w.params).In h)
  (F:∀(w:World) (mg:YB) (fa:Addr) (h:Heap),(K w.params).In h->h.Ns mainGlobals mg->mg d.name=some (.ref fa) ->
   ∃fd:FuncData,(∀(s:Shared) (u:Value),BindsTo s fd ⟨[u],[]⟩ [(x,u)]) /\
    ∀base:Heap,(K w.params).In base->base.Ns mainGlobals mg->G3 l.prog w (K w.params) mg base (CX w) k fa fd [x] (sp w))
  (hsp:∀(w:World) (H:Hp) (a:Addr) (ns:List Int),ns.length<=n->Only H->SqL (K w.params) H a (ns.map V.int)->sp w [.ref a] H (λv _=>v=.bl true) λ_ _ _=>False)
  (hCX:∀(w:World) (H:Hp) (s:Shared) (e:Value) (s':Shared),CX w [] H s (λ_ _ _=>False) e s'->False) :
  PySem.W.WalkO q loose XP YP l.row.toRowW d [] (λf vs=>PySem.call f vs):=by
 refine Att.d8 hn hdf λw s₀ s₁ mg mb fa o pm cd doc a vs ns G Y ho hd hcd hmg hobj hints hlen hg=>?_;have KX:=hY w _ Y;obtain⟨fd,hb,hF⟩:=F w mg fa _ KX G.T.g hmg;exact tY KX G.T.g G.T.b G.T.builtins G.T.nolimit hg hobj hints (Qcr hlen hn2) hr hF hb (λH hO hS=>hsp w H a ns hlen hO hS) λH e s'=>hCX w H s₁ e s'
def inClass (s:Stmt) (j:Nat):Stmt:=match s with
 | .ClassDef _ _ _ body _ _ _ _ _ _ _=>body.getD j (.Pass ⟨0,0,0,0⟩)
 | _=>.Pass ⟨0,0,0,0⟩
def Ei (s:Stmt):Arguments:=match s with
 | .FunctionDef _ a _ _ _ _ _ _ _ _=>a
 | _=>{ posonlyargs:=[],args:=[],vararg:=none,kwonlyargs:=[],kw_defaults:=[],kwarg:=none,defaults:=[] }
def Dq (s:Stmt):List Stmt:=match s with
 | .FunctionDef _ _ b _ _ _ _ _ _ _=>b
 | _=>[]
def Ak (s:Stmt):Scope:=match s with
 | .FunctionDef _ _ _ _ _ _ sc _ _ _=>sc
 | _=>{ kind:=.function,names:=[],isGenerator:=false,isCoroutine:=false }
abbrev CX0:CXT:=λ_ _ _ _ _ _=>False
abbrev E0:XK:=λ_ _ _=>False
theorem Y8 {X:Cx}:Passes CX0 X E0:=λ_ _ _ _ _ _ _ h=>h.elim
structure Fun (K:YD) (x qual:Str) (st:Stmt) (f:Addr) (fd:FuncData):Prop where
 ex:∃(oc:Value) (od:Option Addr) (kV doc pm:Value) (an:Option Addr) (cdv ct:Value) (osl:YI),
  fd=fnOf x qual (Ei st) (Dq st) (Ak st) .none kV doc pm an cdv ct/\K.lookup f=some ⟨oc,od,.func fd,osl⟩/\codeIn K cdv qual=true
 kp:keepIn K (.ref f)=true
section
variable {P:Program} {w:World} {K:YD} {mg:YB} {base:Heap}
theorem Fun.ok {x qual:Str} {st:Stmt} {f:Addr} {fd:FuncData} {N ps:YF} {k:Nat} {sp:Sp} (F:Fun K x qual st f fd) (S:Ba N ps (Ak st)) (len:∀vs H Q E,sp vs H Q E->vs.length=ps.length)
  (hbody:∀(cdv:Value) (A:Around) (outer:List Env) (s:Shared) (H:Hp) (vs:YG) (Q:VK) (E:XK),Dl k (A.deeper (envOfC qual (Ak st) s.heap.objs.size f cdv))->sp vs H Q E ->
   ∃t,PSs (Sx CX0 P w K mg base N qual (Ak st) f cdv A outer s H E).nox (Dq st) t/\t { nx:=λ_ H'=>Q .non H',rt:=Q } (start N vs) H):G3 P w K mg base CX0 (k+1) f fd ps sp:=by
 obtain⟨oc,od,kV,doc,pm,an,cdv,ct,osl,rfl,lk,hcd⟩:=F.ex;refine C8 lk hcd S len λA outer s H vs Q E hr hsp=>?_;obtain⟨t,h,q⟩:=hbody cdv A outer s H vs Q E hr hsp;exact⟨t,h.nox,q⟩
theorem Fun.binds {x qual:Str} {st:Stmt} {f:Addr} {fd:FuncData} {ps:YF} (F:Fun K x qual st f fd)
  (h:∀(kV doc pm:Value) (an:Option Addr) (cdv ct:Value) (us:YE),us.length=ps.length->bindArgs (fnOf x qual (Ei st) (Dq st) (Ak st) .none kV doc pm an cdv ct) ⟨us,[]⟩=pure (ps.zip us)):Binds K fd ps []:=by
 obtain⟨oc,od,kV,doc,pm,an,cdv,ct,osl,rfl,lk,hcd⟩:=F.ex;exact .all (h kV doc pm an cdv ct)
theorem Wa {x qual:Str} {st:Stmt} {f:Addr} {oc:Value} {od an:Option Addr} {osl:YI} {kV doc pm cdv ct:Value} (l:K.lookup f=some ⟨oc,od,.func (fnOf x qual (Ei st) (Dq st) (Ak st) .none kV doc pm an cdv ct),osl⟩)
  (c:codeIn K cdv qual=true) (k:keepIn K (.ref f)=true):Fun K x qual st f (fnOf x qual (Ei st) (Dq st) (Ak st) .none kV doc pm an cdv ct):=⟨⟨oc,od,kV,doc,pm,an,cdv,ct,osl,rq,l,c⟩,k⟩
end
theorem Cm {A:Around} {k:Nat} (hr:Dl k A):A.units+1 < cLine:=Nat.lt_of_le_of_lt (Nat.add_le_add_left (by decide:1<=64) _) hr.units
theorem Ar {n:Nat} (h:n<=1000):n < sizeLine:=Nat.lt_of_le_of_lt h (by decide)
section
variable {X:Cx}
theorem pv (i:Nat) {x:Str} {pos:Pos} (hN:X.N[i]?=some x:=by rfl) (hv:Vis X.env.scope x:=by first | exact Or.inl rfl | exact Or.inr (Or.inl rfl) | exact Or.inr (Or.inr rfl)) (hd:(x == ("__debug__":Str))=false:=by decide)
  (hcd:(x == ("__classdict__":Str))=false:=by decide):PE X (.Name x pos) (yU i):=zQ hN hv hd hcd
end
theorem Cp {A B:Prop} (h:B):if false=true then A else B:=by
 rw[if_neg QaW];exact h
theorem Cr {A B:Prop} (h:A):if true=true then A else B:=by
 rw[if_pos rfl];exact h
theorem Ig {c A B:Prop} [Decidable c] (h1:c->A) (h2:¬c->B):if c then A else B:=by
 by_cases h:c
 ·rw[if_pos h];exact h1 h
 ·rw[if_neg h];exact h2 h
def Same (H H':Hp):Prop:=∀b o,H b=some o->H' b=some o
theorem Same.refl (H:Hp):Same H H:=λ_ _ h=>h
theorem Same.trans {H H1 H2:Hp} (a:Same H H1) (b:Same H1 H2):Same H H2:=λc o h=>b c o (a c o h)
theorem Same.free {H H':Hp} (e:Same H H') {l:Addr} (h:H' l=Option.none):H l=Option.none:=by
 cases q:H l with
 | none=>rfl
 | some o=>
  rw[e l o q] at h;cases h
theorem Same.seq {K:YD} {H H':Hp} {a:Addr} {xs:YG} (e:Same H H') (h:SqL K H a xs):SqL K H' a xs:=by
 rcases h with (h |⟨o,h⟩) | h
 ·exact .inl (.inl (e _ _ h))
 ·exact .inl (.inr ⟨o,e _ _ h⟩)
 ·exact .inr h
def Fe (env:Env):List (Str×NameKind)->List (Str×Addr)->List (Str×Addr)
 | [],cs=>cs
 | (n,k)::r,cs=>Fe env r (if (k == .free)=true then (match env.cells.lookup n with | some c=>(n,c)::cs | none=>cs) else cs)
theorem cH {env:Env}:∀(names:List (Str×NameKind)) (cs:List (Str×Addr)),(∀p∈names,p.2=.free->∃c,env.cells.lookup p.1=some c) ->
  (forIn names cs λ(p:Str×NameKind) (r:List (Str×Addr))=>(if (p.2 == .free)=true then do
    let c <-cellOf env p.1
    pure (ForInStep.yield ((p.1,c)::r))
   else pure (ForInStep.yield r):Sem (ForInStep (List (Str×Addr)))))=pure (Fe env names cs)
 | [],cs,_=>rfl
 | (n,k)::rest,cs,h=>by
  have ih:=λcs'=>cH rest cs' λp hp=>h p (QaJ _ hp);rw[List.forIn_cons];cases hk:(k == NameKind.free) with
  | true=>
   obtain⟨c,hc⟩:=h (n,k) QaV (eq_of_beq hk);have e1:cellOf env n=pure c:=by unfold cellOf;rw[hc]
   have e2:Fe env ((n,k)::rest) cs=Fe env rest ((n,c)::cs):=by simp only[Fe,hk,if_true,hc]
   rw[e2,<-ih];simp only[hk,if_true,e1,pure_bind]
  | false=>
   have e2:Fe env ((n,k)::rest) cs=Fe env rest cs:=by simp only[Fe,hk,Bool.false_eq_true,if_false]
   rw[e2,<-ih];simp only[hk,Bool.false_eq_true,if_false,pure_bind]
theorem Q0 {env:Env} {scope:Scope} (h:∀p∈scope.names,p.2=.free->∃c,env.cells.lookup p.1=some c):closureFor scope env=pure (Fe env scope.names []):=by
 have e:=cH (env:=env) scope.names [] h;unfold closureFor;simp only[bind_pure];exact e
theorem cG {env:Env}:∀(names:List (Str×NameKind)) (cs:List (Str×Addr)),(∀x c,cs.lookup x=some c->env.cells.lookup x=some c) ->
  ∀x c,(Fe env names cs).lookup x=some c->env.cells.lookup x=some c
 | [],cs,h,x,c,e=>h x c e
 | (n,k)::rest,cs,h,x,c,e=>by
  refine cG rest _ (λy d z=>?_) x c e;split at z
  ·split at z
   ·rename_i c' hc';rw[List.lookup_cons] at z;cases q:y == n with
    | true=>rw[q] at z;cases z;rw[eq_of_beq q];exact hc'
    | false=>rw[q] at z;exact h y d z
   ·exact h y d z
  ·exact h y d z
theorem Vm {env:Env}:∀(names:List (Str×NameKind)) (cs:List (Str×Addr)) (x:Str),((cs.lookup x).isSome=true\/((x,NameKind.free)∈names/\∃c,env.cells.lookup x=some c)) ->
  ∃c,(Fe env names cs).lookup x=some c
 | [],cs,x,h=>by
  rcases h with h |⟨h,_⟩
  ·exact Option.isSome_iff_exists.mp h
  ·cases h
 | (n,k)::rest,cs,x,h=>by
  refine Vm rest _ x ?_;have grow:(cs.lookup x).isSome=true->(List.lookup x (if (k == .free)=true then (match env.cells.lookup n with | some c=>(n,c)::cs | none=>cs) else cs)).isSome=true:=λz=>by
   split
   ·split
    ·rw[List.lookup_cons];cases x == n with
     | true=>rfl
     | false=>exact z
    ·exact z
   ·exact z
  rcases h with h |⟨h,c,hc⟩
  ·exact .inl (grow h)
  ·rcases Qce.mp h with z | z
   ·cases z;refine .inl ?_;simp[hc,List.lookup_cons]
   ·exact .inr ⟨z,c,hc⟩
def Ny (env:Env) (n:Str) (k:NameKind):NameKind:=if (k == .free&&env.scope.kind == .function&&env.kindOf n == some .cell)=true then .cell else k
theorem V1 (env:Env):∀(l:List (Str×NameKind)) (x:Str),
  (l.map λ(n,k)=>if (k == NameKind.free&&env.scope.kind == .function&&env.kindOf n == some .cell) then (n,NameKind.cell) else (n,k)).lookup x=(l.lookup x).map (Ny env x)
 | [],_=>rfl
 | (n,k)::r,x=>by
  have ih:=V1 env r x;have e:(if (k == NameKind.free&&env.scope.kind == .function&&env.kindOf n == some .cell)=true then (n,NameKind.cell) else (n,k))=(n,Ny env n k):=by
   unfold Ny;split <;> rfl
  rw[Qcf];show List.lookup x ((if (k == NameKind.free&&env.scope.kind == .function&&env.kindOf n == some .cell)=true then (n,NameKind.cell) else (n,k))::_)=_
  rw[e,List.lookup_cons,List.lookup_cons];cases q:x == n with
  | true=>rw[eq_of_beq q];rfl
  | false=>exact ih
theorem rm {env:Env} {n:Str} {k:NameKind} (h:Ny env n k=.cell\/Ny env n k=.free):k=.cell\/k=.free:=by
 unfold Ny at h;split at h
 ·rename_i q;simp only[QbE] at q;exact .inr (eq_of_beq q.1.1)
 ·exact h
theorem pX {prog:Program} {w:World} {A:Around} {R:Result->Shared->Prop} {s:Shared} {elt target iter:Expr} {ifs:YJ} {scope:Scope} {pos:Pos} {it acc:Value} {env:Env} (J:Nat->Shared->Prop)
  (turn:∀n s,J n s->wpAny (model prog w) A (pyNext it) (λr s1=>match r with
   | none=>R (.ok .next) s1
   | some v=>wpAny (model prog w) A (letOwnedTupleGo target it v) (λ_ s2=>wpAny (model prog w) A (assign target env v) (λ_ s3=>
     wpAny (model prog w) A (forIn ifs true λc r=>if r=true then do let ok <-isTrue c env (eval c env);pure (ForInStep.yield ok) else pure (ForInStep.yield r)) (λok s4=>
      if ok=true then wpAny (model prog w) A (eval elt env) (λx s5=>wpAny (model prog w) A (call (.builtin "list.append") [acc,x]) (λ_ s6=>∃m,m < n/\J m s6) (λ_ _=>False) s5) (λ_ _=>False) s4
      else ∃m,m < n/\J m s4) (λ_ _=>False) s3) (λ_ _=>False) s2) (λ_ _=>False) s1) (λ_ _=>False) s)
  (n:Nat) (h:J n s):codeAny (model prog w) A (.compLoop (.ListComp elt [⟨target,iter,ifs,0⟩] scope pos) 0 it acc env) R s:=by
 refine codeAny_loop rfl J (λk s' hk=>?_) n h;show wpAny _ A (Sem.onRaise (compTurn (.ListComp elt [⟨target,iter,ifs,0⟩] scope pos) 0 it acc env) (λx=>do noteFrame x env;theTreesLotGoes x)) _ _ s'
 refine wpAny_noted ?_;rw[compTurn_list];refine QcB (Qck (QcB (QcD (turn k s' hk) (λr s1 q1=>?_) λ_ _ f=>f.elim)));cases r with
 | none=>exact QcC q1
 | some v=>
  refine QcB (QcD q1 (λ_ s2 q2=>QcB (QcD q2 (λ_ s3 q3=>QcB (QcD q3 (λok s4 q4=>?_) λ_ _ f=>f.elim)) λ_ _ f=>f.elim)) λ_ _ f=>f.elim);cases ok with
  | false=>exact QcC ⟨rfl,q4⟩
  | true=>exact QcB (QcB (QcD q4 (λx s5 q5=>QcB (QcD q5 (λ_ s6 q6=>QcC (QcC ⟨rfl,q6⟩)) λ_ _ f=>f.elim)) λ_ _ f=>f.elim))
def cxC (X:Cx) (N':YF) (scope:Scope) (s3:Shared) (H3:Hp) (fp:List Addr) (pn:YC):Cx where
 prog:=X.prog
 w:=X.w
 K:=X.K
 mg:=X.mg
 base:=X.base
 A:=X.A
 N:=N'
 s₀:=s3
 H₀:=H3
 env:=compEnvC scope (Fe X.env scope.names []) s3.heap.objs.size X.env
 outer:=X.stack
 stack:=X.stack
 ex:=fp
 fn:=λ_=>false
 calm:=X.calm
 pn:=pn
 xe:=λ_ _=>False
structure Bo (X:Cx) (N':YF) (src:List (Option Nat)) (sc:Scope):Prop where
 kind:sc.kind=.function
 Jd:∀y∈sc.names,y.2≠.cell
 loc:∀y∈sc.names,y.2=.local->sc.names.lookup y.1=some .local
 fv:∀y∈sc.names,y.2=.free->X.env.kindOf y.1=some .cell\/X.env.kindOf y.1=some .free
 len:src.length=N'.length
 src:∀(i:Nat) (x:Str) (j:Nat),N'[i]?=some x->src[i]?=some (some j)->X.N[j]?=some x/\sc.names.lookup x=some .free
def JN (src:List (Option Nat)) (U : St):St:=src.map λo=>match o with | none=>none | some j=>(U[j]?).join
def PF (X:Cx) (ifs:YJ) (t:TT):Prop:=
 ∀(jb:YC) (s:Shared) (U : St) (H:Hp) (Q:Bool->Hp->Prop),Inv X jb U H s->t U H Q ->
  wpAny (model X.prog X.w) X.A (forIn ifs true λc r=>if r=true then do let ok <-isTrue c X.env (eval c X.env);pure (ForInStep.yield ok) else pure (ForInStep.yield r)) (TP X jb U Q) X.xe s
theorem Di {X:Cx}:PF X [] (λ_ H Q=>Q true H):=λ_ _ _ H _ I h=>wpAny_tests_nil ⟨H,I,h⟩
theorem Gy {X:Cx} {c:Expr} {t:TT} (hc:PT X c t):PF X [c] t:=λjb s U H Q I h=>wpAny_tests_one (hc jb s U H Q I h)
theorem Un.ahead {fs ex:List Addr} {H H':Hp} {h h1 h':Heap} (u:Un fs ex H H' h h1) (k:∀b o,b < h.objs.size->h1.get? b=some o->h'.get? b=some o):Un fs ex H H' h h' where
 keep:=λb o e n hb hx=>k b o (Qco e) (u.keep b o e n hb hx)
 slot:=λb o e n hb hx=>by
  obtain⟨sl,q⟩:=u.slot b o e n hb hx;exact⟨sl,k b _ (Qco e) q⟩
 free:=u.free
 there:=λb o e hx=>by
  obtain⟨o',q⟩:=u.there b o e hx;exact⟨o',k b _ (Qco e) q⟩
 tups:=u.tups
 Mv:=u.Mv
 Nj:=u.Nj
section
variable {X:Cx} {N':YF} {src:List (Option Nat)} {sc:Scope} {jb:YC} {U : St} {H:Hp} {s3:Shared} {fp:List Addr} {h1:Heap} {tk:Nat}
theorem Vj (S:Bo X N' src sc) (I:Inv X jb U H s3) (hf:∀b∈fp,GK X jb H b) (ht:∀b∈fp,b < s3.heap.objs.size)
  (ns:h1.Ns s3.heap.objs.size λ_=>none) (kp:∀b o,s3.heap.get? b=some o->h1.get? b=some o) :
  Inv (cxC X N' sc s3 H fp (X.pn++jb)) [] (JN src U) H { s3 with heap:=h1,toks:=tk }:=by
 have hcl:∀x c,(Fe X.env sc.names []).lookup x=some c->X.env.cells.lookup x=some c:=cG sc.names [] λx c e=>by cases e
 have old:∀x c,(Fe X.env sc.names []).lookup x=some c->∃o,s3.heap.get? c=some o:=λx c e=>by
  obtain⟨v,o,ho,_⟩:=I.cell x c (hcl x c e);exact⟨o,ho⟩
 have fvh:∀x,(x,NameKind.free)∈sc.names->∃c,X.env.cells.lookup x=some c:=λx hx=>I.ok.has x (S.fv _ hx rfl);have zy:∀b,b≠X.env.locals->b∉X.fs->b∉frs X.stack:=λb h1 h2 hb=>(Qce.mp (I.Zk b hb)).elim h1 h2;have kindOf_eq:∀x,(compEnvC sc (Fe X.env sc.names []) s3.heap.objs.size X.env).kindOf x=(sc.names.lookup x).map (Ny X.env x):=λx=>V1 X.env sc.names x;refine⟨⟨I.ok.mod,S.kind,I.ok.glob,I.ok.blt,Qcw _,λx y c e1 e2=>I.ok.inj x y c (hcl x c e1) (hcl y c e2),λx hx=>?_,λx c hf=>absurd hf QaW,I.ok.hd,I.ok.frames,.inl rfl,λb hb=>?_,I.bs,Qcr I.ok.bsz I.sz,
  λb o e hb=>?_,λb hb=>?_,I.stack,I.fC⟩,rq,I.bare,Un.kept kp,⟨_,ns,λi x v e1 e2 e3=>?_⟩,λx c e=>?_,I.hok.fresh (Qcw _),λx c e=>I.Ir x c (hcl x c e),λp hp=>?_,I.hok.kept kp,?_⟩
 ·
  have hx':(sc.names.lookup x).map (Ny X.env x)=some .cell\/(sc.names.lookup x).map (Ny X.env x)=some .free:=by
   rw[<-kindOf_eq x];exact hx
  cases q:sc.names.lookup x with
  | none=>rw[q] at hx';rcases hx' with z | z <;> cases z
  | some k=>
   rw[q] at hx';have hk:k=.cell\/k=.free:=rm (env:=X.env) (n:=x) (hx'.imp (λz=>QbN z) λz=>QbN z);have hm:=QaS q;rcases hk with rfl | rfl
   ·exact absurd rfl (S.Jd _ hm)
   ·exact Vm sc.names [] x (.inr ⟨hm,fvh x hm⟩)
 ·
  obtain⟨f0,f1,f2,f3,f4,f5⟩:=hf b hb;exact⟨Qcp (ht b hb),λx c e=>f4 x c (hcl x c e)⟩
 ·
  obtain⟨f0,f1,f2,f3,f4,f5⟩:=hf b hb;rcases f3 with z | z
  ·exact I.ok.Xc b o e z
  ·exact absurd (Qba (Qco e) (Qcr I.ok.bsz z)) (Qcg _)
 ·
  obtain⟨f0,f1,f2,f3,f4,f5⟩:=hf b hb;exact zy b f1 f2
 ·
  have e2':(JN src U)[i]?=some (some v):=e2;unfold JN at e2';rw[Qbn] at e2';cases q:src[i]? with
  | none=>rw[q] at e2';cases e2'
  | some oj=>
   rw[q] at e2';cases oj with
   | none=>cases e2'
   | some j=>
    have e4:(U[j]?).join=some v:=QbN e2';have e5:U[j]?=some (some v):=by
     cases r:U[j]? with
     | none=>rw[r] at e4;cases e4
     | some z=>rw[r] at e4;cases z with
      | none=>cases e4
      | some y=>cases e4;rfl
    obtain⟨hN,hfr⟩:=S.src i x j e1 q;have hm:=QaS hfr;have kx:=S.fv _ hm rfl;obtain⟨m,hn,hl⟩:=I.loc;obtain⟨u,r,l⟩:=hl j x v hN e5 (.inr kx);refine⟨u,r,?_⟩;rcases l with⟨k1,_⟩|⟨_,c,hc,hcell⟩
    ·rcases kx with z | z <;> (rw[z] at k1;cases k1)
    ·obtain⟨c',hc'⟩:=Vm (env:=X.env) sc.names [] x (.inr ⟨hm,c,hc⟩);have e6:c'=c:=by
      have:=hcl x c' hc';rw[hc] at this;exact (QbN this).symm
     subst e6;refine .inr ⟨?_,c',hc',?_⟩
     ·have:(compEnvC sc (Fe X.env sc.names []) s3.heap.objs.size X.env).kindOf x=some (Ny X.env x .free):=by rw[kindOf_eq x,hfr];rfl
      show (compEnvC sc (Fe X.env sc.names []) s3.heap.objs.size X.env).kindOf x=some .cell\/(compEnvC sc (Fe X.env sc.names []) s3.heap.objs.size X.env).kindOf x=some .free;rw[this];unfold Ny;split
      ·exact .inl rfl
      ·exact .inr rfl
     ·obtain⟨o,ho,hd⟩:=hcell;exact⟨o,kp _ o ho,hd⟩
 ·
  obtain⟨v,o,ho,hd⟩:=I.cell x c (hcl x c e);exact⟨v,o,kp _ o ho,hd⟩
 ·
  have hp':p∈X.pn++jb:=(QbJ.mp hp).elim id λz=>by cases z
  obtain⟨a1,a2,a3,a4,a5⟩:=I.pin p hp';exact⟨kp _ _ a1,a2,Qcp (Qco a1),zy p.1 a3 a4,a5⟩
 ·show (JN src U).length=N'.length;unfold JN;rw[QbH];exact S.len
theorem Sw {s1:Shared} {σ':St} {H':Hp} {h':Heap} (I:Inv X jb U H s3) (hf:∀b∈fp,GK X jb H b) (I':Inv (cxC X N' sc s3 H fp (X.pn++jb)) [] σ' H' s1)
  (sb:Heap.SameBut s3.heap.objs.size s1.heap h'):Inv X jb U H' { s1 with heap:=h' }:=by
 have fr:H' s3.heap.objs.size=none:=I'.free;refine I.call' (s':={ s1 with heap:=h' }) (ch:=fp) I'.os ?_ ?_ I'.bare λb hb=>?_
 ·exact Un.ahead (h:=s3.heap) (h1:=s1.heap) I'.base λb o hb e=>sb.extBut b o (Qcp hb) e
 ·exact λb u e=>(I'.hok b u e).stay (λc v hc q=>sb.extBut c v (by
   intro z;rcases hc with y | y
   ·rw[<-y,z,fr] at e;cases e
   ·rw[z,fr] at y;cases y) q) (λ_ q=>q) λ_ _ q=>q
 ·obtain⟨f0,f1,f2,f3,f4,f5⟩:=hf b hb;exact⟨f3,f1,f4,λp hp=>f5 p hp⟩
end
@[irreducible] def Gh (J:It) (g:TG) (tt:TT) (te:TE) (Q:VK) (σ0:St) (H0:Hp) (l:Addr):Prop:=∃W:Nat->YN,(∃m,W 0 m σ0 H0) /\
 ∀i m σ' H',W i m σ' H'->(J.stop i H'/\Q (.ref l) H')\/(J.go i H'/\∃N:YO,(∀ σ3 H3,N σ3 H3->∃m',m' < m/\W (i+1) m' σ3 H3)/\∀x H2,J.yld i H' x H2->g x σ' H2 fun σ3 H3=>tt σ3 H3 λb H4=>
  if b=true then te σ3 H4 λy H5=>∃xs,H5 l=some (.lst xs)/\xs.length < sizeLine/\N σ3 (upd H5 l (.lst (xs++[y]))) else N σ3 H4)
def jf (wi:TI) (src:List (Option Nat)) (g:TG) (tt:TT) (te:TE):TE:=fun U H Q=>wi U H λJ H1=>∀l,H1 l=none->Gh J g tt te Q (JN src U) (upd H1 l (.lst [])) l
theorem Yg {X:Cx} {N':YF} {src:List (Option Nat)} {sc:Scope} {elt tg iter:Expr} {ifs:YJ} {pos pos':Pos} {wi:TI} {g:TG} {tt:TT} {te:TE} {use:Option (Value->Sem Unit)} {R:YA} (hc:X.calm=true) (S:Bo X N' src sc)
  (hi:PI X tg iter wi) (hg:∀s3 H3 fp pn,PG (cxC X N' sc s3 H3 fp pn) tg g) (ht:∀s3 H3 fp pn,PF (cxC X N' sc s3 H3 fp pn) ifs tt) (he:∀s3 H3 fp pn,PE (cxC X N' sc s3 H3 fp pn) elt te)
  (hs:∀x,foldedSetIterable iter X.env x=pure x) {jb:YC} {s:Shared} {U : St} {H:Hp} {Q:VK} (I:Inv X jb U H s) (h:jf wi src g tt te U H Q)
  (fin:∀s3 H3 fp σ4 H4 s5 l,Inv X jb U H3 s3->(∀b∈fp,GK X jb H3 b)->Inv (cxC X N' sc s3 H3 fp (X.pn++jb)) [] σ4 H4 s5->Q (.ref l) H4 ->
   compPost (model X.prog X.w) X.A X.xe use R (.ref l) s3.heap.objs.size (.ok .next) s5) :
  wpAny (model X.prog X.w) X.A (comprehension (.ListComp elt [⟨tg,iter,ifs,0⟩] sc pos) sc X.env pos' (newList []) false (eval iter X.env) use) R X.xe s:=by
 refine wpAny_comprehension_free (use:=use) (cl:=Fe X.env sc.names []) rfl hs (Q0 λp hp e=>I.ok.has p.1 (S.fv p hp e)) S.kind S.loc ?_;refine thn (hi jb s U H _ I h) λv s1 h1=>thn h1 λitv s2 h2=>?_;obtain⟨it,fp,tn,J,H2,rfl,I2,T,st2,f2,q⟩:=h2;have q':=q s2.heap.objs.size (I2.hok.fresh (Qcw _));unfold Gh at q';obtain⟨W,⟨m0,w0⟩,turn⟩:=q';refine Qbq (wpAny_newFunctionEnv S.Jd (by intro y hy;simp at hy) (λha hns hsb=>?_) S.kind);have I3:Inv X jb U (upd H2 s2.heap.objs.size (.lst [])) { s2 with heap:=s2.heap.push { cls:=.type "list",dict:=none,data:=.seq ([]:YE).toArray } }:=
  I2.laid (t':=s2.toks) (λb u e=>Qax _ e) (Qcw _) ⟨Qcx _,[],0,.nil,QaM _ rfl⟩
 have hfl:∀b∈fp,b < s2.heap.objs.size:=λb hb=>by
  obtain⟨o,e,_⟩:=T.obj 0 _ st2 b hb;exact Qco e
 have f3:∀b∈fp,GK X jb (upd H2 s2.heap.objs.size (.lst [])) b:=λb hb=>⟨by rw[Ao (Qcp (hfl b hb))];exact (f2 b hb).1,(f2 b hb).2⟩;generalize hs3:({ s2 with heap:=s2.heap.push { cls:=.type "list",dict:=none,data:=.seq ([]:YE).toArray } }:Shared)=s3 at *;have hsz:s2.heap.objs.size < s3.heap.objs.size:=by rw[<-hs3];show s2.heap.objs.size < (s2.heap.push _).objs.size;rw[QbZ];exact QbD _
 have kp:∀b o,s3.heap.get? b=some o->ha.get? b=some o:=λb o e=>hsb.extBut b o (Qcp (Qco e)) (Qax _ e);have st3:tn 0 ha:=T.keep 0 _ _ st2 λb hb o e=>kp b o (by rw[<-hs3];exact Qax _ e);have I4:Inv (cxC X N' sc s3 (upd H2 s2.heap.objs.size (.lst [])) fp (X.pn++jb)) [] (JN src U) (upd H2 s2.heap.objs.size (.lst [])) { s3 with heap:=ha,toks:=s3.toks+([]:List (Str×Value)).length }:=
  Vj S I3 f3 (λb hb=>Nat.lt_trans (hfl b hb) hsz) hns kp
 have loop:codeAny (model X.prog X.w) X.A (.compLoop (.ListComp elt [⟨tg,iter,ifs,0⟩] sc pos) 0 (.ref it) (.ref s2.heap.objs.size) (compEnvC sc (Fe X.env sc.names []) s3.heap.objs.size X.env))
   (compPost (model X.prog X.w) X.A X.xe use R (.ref s2.heap.objs.size) s3.heap.objs.size) { s3 with heap:=ha,toks:=s3.toks+([]:List (Str×Value)).length }:=by
  refine pX (λn s'=>∃i σ' H',Inv (cxC X N' sc s3 (upd H2 s2.heap.objs.size (.lst [])) fp (X.pn++jb)) [] σ' H' s'/\tn i s'.heap/\(∀b∈fp,H' b=none)/\W i n σ' H') ?_ m0 ⟨0,_,_,I4,st3,λb hb=>(f3 b hb).1,w0⟩;rintro n s4 ⟨i,σ4,H4,J4,st4,fr4,w4⟩;have stat:∀{H':Hp},(∀b∈fp,H' b=none)->∀b∈fp,GK (cxC X N' sc s3 (upd H2 s2.heap.objs.size (.lst [])) fp (X.pn++jb)) [] H' b:=λhn b hb=>
   ⟨hn b hb,(I4.ok.exf b hb).1,I4.ok.Ss b hb,.inl hb,λx c e=>(I4.ok.exf b hb).2 x c e,λp hp=>(f3 b hb).2.2.2.2.2 p ((QbJ.mp hp).elim id λz=>by cases z)⟩
  rcases turn i n σ4 H4 w4 with⟨stop,qn⟩|⟨go,N,hN,step⟩
  ·refine thn (T.done (cxC X N' sc s3 (upd H2 s2.heap.objs.size (.lst [])) fp (X.pn++jb)) rfl rfl rfl hc i [] s4 σ4 H4 _ J4 (stat fr4) st4 stop) λr s5 zz=>?_;obtain⟨hr,J5⟩:=zz;subst hr;exact fin s3 _ fp σ4 H4 s5 _ I3 f3 J5 qn
  ·refine thn (T.item (cxC X N' sc s3 (upd H2 s2.heap.objs.size (.lst [])) fp (X.pn++jb)) rfl rfl rfl hc i [] s4 σ4 H4 _ J4 (stat fr4) st4 go) λr s5 zz=>?_;obtain⟨u,hr,h5⟩:=zz;subst hr;refine thn h5 λ_ s6 zz=>?_;obtain⟨x,H6,J6,r6,y6,st6,fr6⟩:=zz;have J6':=J6.pinned (stat fr6) (T.obj _ _ st6);have back:∀{pl:YC} {σ7:St} {H7:Hp} {s7:Shared},Inv (cxC X N' sc s3 (upd H2 s2.heap.objs.size (.lst [])) fp (X.pn++jb)) ([]++NQ fp s6.heap) σ7 H7 s7->N σ7 H7 ->
     ∃m',m' < n/\∃i σ' H',Inv (cxC X N' sc s3 (upd H2 s2.heap.objs.size (.lst [])) fp (X.pn++jb)) [] σ' H' s7/\tn i s7.heap/\(∀b∈fp,H' b=none)/\W i m' σ' H':=λ{pl σ7 H7 s7} J7 w7=>by
    obtain⟨m',hm,w7⟩:=hN _ _ w7;have pinned:∀b∈fp,∀o,s6.heap.get? b=some o->s7.heap.get? b=some o/\H7 b=none:=λb hb o e=>by
     have:=J7.pin (b,o) (QaE _ (QaE _ (Kg hb e)));exact⟨this.1,this.2.1⟩
    refine⟨m',hm,i+1,σ7,H7,J7.Hy,T.keep _ _ _ st6 λb hb o e=>(pinned b hb o e).1,λb hb=>?_,w7⟩;obtain⟨o,e,_⟩:=T.obj _ _ st6 b hb;exact (pinned b hb o e).2
   refine thn (hg s3 _ fp _ _ s6 σ4 H6 x u _ J6' r6 (step x H6 y6)) λ_ s7 zz=>?_;obtain⟨σ7,H7,J7,q7⟩:=zz;refine thn (ht s3 _ fp _ _ s7 σ7 H7 _ J7 q7) λok s8 zz=>?_;obtain⟨H8,J8,q8⟩:=zz;cases ok with
   | false=>
    rw[if_neg QaW] at q8 ⊢;exact back (pl:=[]) J8 q8
   | true=>
    rw[if_pos rfl] at q8 ⊢;refine thn (he s3 _ fp _ _ s8 σ7 H8 _ J8 q8) λy s9 zz=>?_;obtain⟨yv,H9,J9,r9,xs,hl9,hz9,q9⟩:=zz;refine thn (Ci _ s9 σ7 H9 (.ref s2.heap.objs.size) [yv] (.ref s2.heap.objs.size) [y] (λ_ H'=>N σ7 H') J9 rfl (.cons r9 .nil) ⟨_,xs,yv,rq,rq,hl9,hz9,q9⟩) λ_ s10 zz=>?_;obtain⟨_,H10,J10,_,q10⟩:=zz;exact back (pl:=[]) J10 q10
 exact codeAny_compStart_list loop (T.self X.A 0 _ _ _ st3 loop)
theorem Cq {X:Cx} {N':YF} {src:List (Option Nat)} {sc:Scope} {elt tg iter:Expr} {ifs:YJ} {pos:Pos} {wi:TI} {g:TG} {tt:TT} {te:TE} (hc:X.calm=true) (S:Bo X N' src sc)
  (hi:PI X tg iter wi) (hg:∀s3 H3 fp pn,PG (cxC X N' sc s3 H3 fp pn) tg g) (ht:∀s3 H3 fp pn,PF (cxC X N' sc s3 H3 fp pn) ifs tt) (he:∀s3 H3 fp pn,PE (cxC X N' sc s3 H3 fp pn) elt te)
  (hs:∀x,foldedSetIterable iter X.env x=pure x:=by intro _;rfl):PE X (.ListComp elt [⟨tg,iter,ifs,0⟩] sc pos) (jf wi src g tt te):=by
 intro jb s U H Q I h;rw[eval_ListComp];refine Yg (use:=none) hc S hi hg ht he hs I h λs3 H3 fp σ4 H4 s5 l I3 f3 J5 q=>?_;obtain⟨m,hn,_⟩:=J5.loc;exact⟨m,hn,λh' sb=>⟨.ref l,H4,Sw I3 f3 J5 sb,rq,q⟩⟩
theorem W0 {X:Cx} {N':YF} {src:List (Option Nat)} {sc:Scope} {elt tg iter:Expr} {ifs:YJ} {pos spos px:Pos} {wi:TI} {g:TG} {tt:TT} {te:TE} {i:Nat} {x:Str} (hN:X.N.Nodup) (hi0:X.N[i]?=some x) (hx:Loc X.env.scope x) (hc:X.calm=true) (S:Bo X N' src sc)
  (hi:PI X tg iter wi) (hg:∀s3 H3 fp pn,PG (cxC X N' sc s3 H3 fp pn) tg g) (ht:∀s3 H3 fp pn,PF (cxC X N' sc s3 H3 fp pn) ifs tt) (he:∀s3 H3 fp pn,PE (cxC X N' sc s3 H3 fp pn) elt te)
  (hsw:swapsWith (.ListComp elt [⟨tg,iter,ifs,0⟩] sc pos) (some (.Name x px)) spos.line X.env=pure true:=by rfl) (hs:∀x,foldedSetIterable iter X.env x=pure x:=by intro _;rfl)
  (hf:X.fn x=true\/X.env.scope.names.lookup x=some .local:=by first | exact .inl rfl | exact .inr rfl | assumption) :
  PS X (.Assign [.Name x px] (.ListComp elt [⟨tg,iter,ifs,0⟩] sc pos) spos) (Zh (jf wi src g tt te) (FN i)):=by
 intro jb s U H D I h;rw[exec_Assign_Name_used _ _ _ _ hsw];refine QcB (Qck (QcB ?_));show wpAny _ X.A (do let _ <-comprehension (.ListComp elt [⟨tg,iter,ifs,0⟩] sc pos) sc X.env _ (newList []) false (eval iter X.env) (some (assign (.Name x px) X.env))) _ _ s
 refine QcB (thn (Yg (R:=λ_ s'=>SP X jb D .next s') hc S hi hg ht he hs I h λs3 H3 fp σ4 H4 s5 l I3 f3 J5 q=>?_) λ_ s' hq=>QcC (QcC hq));obtain⟨m,⟨oC,es,ep,hoC,r⟩,_⟩:=J5.loc;have I6:Inv X jb U H4 { s5 with heap:=s5.heap }:=Sw I3 f3 J5 (Heap.SameBut.refl _ _);have hCn:H4 s3.heap.objs.size=none:=J5.free;have neL:s3.heap.objs.size≠X.env.locals:=Qct I3.lt;have tR:∀v,oC.data≠.cell v:=λv z=>by rw[r.1] at z;cases z
 have I7:Inv X (jb++[(s3.heap.objs.size,oC)]) U H4 s5:=I6.Tt λp hp=>(QbJ.mp hp).elim (λz=>I6.pin p (QaE _ z)) λz=>by
  cases Qbb.mp z;exact⟨hoC,hCn,neL,I3.tK (Qcw _),tR⟩
 show wpAny _ X.A (assign (.Name x px) X.env (.ref l)) _ _ s5;refine wpAny_assign_Name (Nk (v:=.ref l) I7 hN hi0 hx rfl (λs6 I8=>?_) hf);have k8:=(I8.pin (s3.heap.objs.size,oC) (QaE _ (QaE _ (Qbb.mpr rfl)))).1;refine⟨m,⟨oC,es,ep,k8,r⟩,λh' sb=>⟨_,H4,?_,q⟩⟩;have I9:=I8.Hy;refine I9.turned (t':=s6.toks) (λb o hb e=>sb.extBut b o hb e) hCn neL (.inr I3.sz) (λy c e z=>?_) (λp hp z=>?_)
 ·obtain⟨v,o,ho,_⟩:=I3.cell y c e;exact absurd (Qco ho) (by rw[z];exact Qcg _)
 ·have:=(I3.pin p hp).1;exact absurd (Qco this) (by rw[z];exact Qcg _)
theorem Bo.of {X:Cx} {N':YF} {src:List (Option Nat)} {sc:Scope} (fsc:Scope) (N:YF) (hX:X.env.scope=fsc) (hN:X.N=N) (kind:sc.kind=.function) (Jd:∀y∈sc.names,y.2≠.cell) (loc:∀y∈sc.names,y.2=.local->sc.names.lookup y.1=some .local)
  (fv:∀y∈sc.names,y.2=.free->fsc.names.lookup y.1=some .cell) (len:src.length=N'.length)
  (sr:((N'.zip src).all λp=>match p.2 with | none=>true | some j=>decide (N[j]?=some p.1)&&decide (sc.names.lookup p.1=some .free))=true):Bo X N' src sc where
 kind:=kind
 Jd:=Jd
 loc:=loc
 fv:=λy hy e=>.inl (by show X.env.scope.names.lookup y.1=some .cell;rw[hX];exact fv y hy e)
 len:=len
 src:=λi x j e1 e2=>by
  rw[List.all_eq_true] at sr;have hm:(x,some j)∈N'.zip src:=by
   refine QaI (i:=i) ?_;rw[List.getElem?_zip_eq_some];exact⟨e1,e2⟩
  have:=sr _ hm;simp only[QbE,decide_eq_true_eq] at this;rw[hN];exact this
section
variable {X:Cx}
@[irreducible] def Mu (K:YD):YG->Hp->VK->Prop:=λxs H Q=>∃x T t b,xs=[x,.ty T]/\K3 K H x t/\kitOne K t (.type T)=some b/\Q (.bl b) H
theorem Oi:DQ X (.builtin "isinstance") (Mu X.K):=by
 intro jb s U H xs us Q I r h;unfold Mu at h;obtain⟨x,T,t,b,rfl,ty,e,q⟩:=h;obtain⟨u,w',rfl,rx,rt⟩:=vals2 r;cases rt;exact oK I rx ty e λtk=>⟨.bl b,H,I.tok tk,rq,q⟩
theorem dH {K:YD}:kitOne K (.type "int") (.type "int")=some true:=by rfl
theorem bL {K:YD}:kitOne K (.type "int") (.type "bool")=some false:=by rfl
theorem bM {K:YD}:kitOne K (.type "bool") (.type "int")=some true:=by rfl
theorem Yz {K:YD}:kitOne K (.type "bool") (.type "bool")=some true:=by rfl
theorem bJ {K:YD}:kitOne K (.type "NoneType") (.type "int")=some false:=by rfl
theorem dG {K:YD}:kitOne K (.type "str") (.type "int")=some false:=by rfl
theorem bK {K:YD}:kitOne K (.type "list") (.type "int")=some false:=by rfl
theorem Yw {K:YD}:kitOne K (.type "tuple") (.type "int")=some false:=by rfl
theorem Xh {K:YD}:kitOne K (.type "NoneType") (.type "tuple")=some false:=by rfl
theorem Xj {K:YD}:kitOne K (.type "bool") (.type "tuple")=some false:=by rfl
theorem Yy {K:YD}:kitOne K (.type "int") (.type "tuple")=some false:=by rfl
theorem Yx {K:YD}:kitOne K (.type "str") (.type "tuple")=some false:=by rfl
theorem Xi {K:YD}:kitOne K (.type "list") (.type "tuple")=some false:=by rfl
theorem V3 {K:YD}:kitOne K (.type "tuple") (.type "tuple")=some true:=by rfl
def Kn (H:Hp):V->Prop
 | .non=>True
 | .bl _=>True
 | .int _=>True
 | .str _=>True
 | .ref a=>(∃xs,H a=some (.lst xs))\/∃xs,H a=some (.tup xs)
 | _=>False
def isI:V->Bool
 | .int _=>true
 | .bl _=>true
 | _=>false
def isB:V->Bool
 | .bl _=>true
 | _=>false
def isW:V->Bool
 | .int _=>true
 | _=>false
def JM (H:Hp):V->Option (YG)
 | .ref a=>match H a with
  | some (.tup xs)=>some xs
  | _=>none
 | _=>none
theorem Ds {H:Hp} {a:Addr} {xs:YG} (h:H a=some (.tup xs)):JM H (.ref a)=some xs:=by
 show (match H a with | some (.tup xs)=>some xs | _=>none)=some xs
 rw[h]
theorem lN {H:Hp} {a:Addr} {xs:YG} (h:H a=some (.lst xs)):JM H (.ref a)=none:=by
 show (match H a with | some (.tup xs)=>some xs | _=>none)=none
 rw[h]
theorem bh {H:Hp} {v:V} {xs:YG} (h:JM H v=some xs):∃a,v=.ref a/\H a=some (.tup xs):=by
 cases v with
 | ref a=>
  refine⟨a,rq,?_⟩;have h':(match H a with | some (.tup xs)=>some xs | _=>none)=some xs:=h
  split at h'
  ·rename_i e;cases h';exact e
  ·cases h'
 | _=>cases h
theorem Kn.same {H H':Hp} {v:V} (s:Same H H') (k:Kn H v):Kn H' v:=by
 cases v with
 | ref a=>exact k.imp (λ⟨xs,e⟩=>⟨xs,s _ _ e⟩) λ⟨xs,e⟩=>⟨xs,s _ _ e⟩
 | _=>exact k
theorem xY {K:YD} {H:Hp} {x:V} {Q:VK} (k:Kn H x) (q:Q (.bl (isI x)) H):Mu K [x,.ty "int"] H Q:=by
 unfold Mu;cases x with
 | non=>exact⟨_,_,_,_,rfl,.non,bJ,q⟩
 | bl b=>exact⟨_,_,_,_,rfl,.bl b,bM,q⟩
 | int i=>exact⟨_,_,_,_,rfl,.int i,dH,q⟩
 | str z=>exact⟨_,_,_,_,rfl,.str z,dG,q⟩
 | ref a=>
  rcases k with⟨xs,e⟩|⟨xs,e⟩
  ·exact⟨_,_,_,_,rq,.lst e,bK,q⟩
  ·exact⟨_,_,_,_,rq,.tup e,Yw,q⟩
 | _=>exact k.elim
theorem uf {K:YD} {H:Hp} {x:V} {Q:VK} (k:isI x=true) (q:Q (.bl (isB x)) H):Mu K [x,.ty "bool"] H Q:=by
 unfold Mu;cases x with
 | bl b=>exact⟨_,_,_,_,rfl,.bl b,Yz,q⟩
 | int i=>exact⟨_,_,_,_,rfl,.int i,bL,q⟩
 | _=>cases k
theorem oM {K:YD} {H:Hp} {x:V} {Q:VK} (k:Kn H x) (q:Q (.bl (JM H x).isSome) H):Mu K [x,.ty "tuple"] H Q:=by
 unfold Mu;cases x with
 | non=>exact⟨_,_,_,_,rfl,.non,Xh,q⟩
 | bl b=>exact⟨_,_,_,_,rfl,.bl b,Xj,q⟩
 | int i=>exact⟨_,_,_,_,rfl,.int i,Yy,q⟩
 | str z=>exact⟨_,_,_,_,rfl,.str z,Yx,q⟩
 | ref a=>
  rcases k with⟨xs,e⟩|⟨xs,e⟩
  ·rw[lN e] at q;exact⟨_,_,_,_,rq,.lst e,Xi,q⟩
  ·rw[Ds e] at q;exact⟨_,_,_,_,rq,.tup e,V3,q⟩
 | _=>exact k.elim
theorem Vn:∀{bs:List Bool} {us:YE},Vals (bs.map V.bl) us->LSm.BoolsAre us bs
 | [],_,.nil=>.nil
 | b::r,_,.cons h t=>by
  cases (show _=Value.bool b from h)
  exact .cons b (Vn t)
theorem Ij (hc:X.calm=true):DQ X (.builtin "all") (λxs H Q=>∃(p:Addr) (bs:List Bool),xs=[.ref p]/\SqL X.K H p (bs.map V.bl)/\Q (.bl (bs.all id)) H):=by
 intro jb s U H xs us Q I r h;obtain⟨p,bs,rfl,hq,q⟩:=h;obtain⟨u,rfl,rx⟩:=vals1 r;cases rx;obtain⟨its,rv,pl,hz⟩:=I.list hq;have hb:=Vn rv;have hl:=pl.isList;have hlt:p < s.heap.objs.size:=by obtain⟨_,e,_⟩:=hl;exact Qco e
 refine call_all_walk (Qbt hl ?_);refine⟨s.heap.objs.size,[s.heap.objs.size,p],[s.heap.objs.size],its.toArray.size,_,_,λi=>(bs[i]?).getD true,rq,Walks.list (A:=X.A.in1) (I.ok.hd hc) _ p (Qcp hlt) its.toArray,
  ⟨⟨_,QaM _ rfl,rq,rq⟩,hl.push _⟩,λi v s' Q' E' hP hQ=>?_,λh' tk hk=>?_⟩
 ·obtain⟨b,e,rfl⟩:=hb.get i v (by simpa using hP);simp only[e,Option.getD_some] at hQ;exact Qbs hQ
 ·have e:((List.range its.toArray.size).all λi=>(bs[i]?).getD true)=bs.all id:=by
   rw[Qbl,hb.length];exact LSm.range_all bs
  rw[e];exact⟨.bl (bs.all id),H,I.kept (LSm.kept_iter hk),rq,q⟩
def zM (K:YD):R2:=λx y H Q=>∃a b ys,x=.ref a/\y=.ref b/\SqT K H a []/\SqT K H b ys/\Q (.ref b) H
theorem rR:OpR X (binaryOp .Add) (zM X.K):=by
 intro jb s U H x y v u Q I rx ry h;obtain⟨a,b,ys,rfl,rfl,ha,hb,q⟩:=h;cases rx;cases ry;obtain⟨its,r1,p1,_⟩:=I.tuple ha;obtain⟨its2,r2,p2,_⟩:=I.tuple hb;cases r1;obtain⟨⟨cls,dd,data,sl⟩,ho,hc,n,hd⟩:=id p1;obtain⟨⟨cls2,dd2,data2,sl2⟩,ho2,hc2,n2,hd2⟩:=id p2;simp only at hc hd hc2 hd2;subst hc hd hc2 hd2;exact concat_meets ⟨_,ho,rq⟩ ⟨_,ho2,rq⟩ noFill_tuple_add seq_tuple_add PySem.F.slot_tuple_add PySem.F.entry_tuple_add (PySem.F.args_tuple_add_2 _ _)
  (tuple_addW0 a b #[] its2.toArray n n2 dd dd2 sl sl2 rfl) ⟨ho,ho2,⟨.ref b,H,I,rq,q⟩⟩
theorem QH:OpR X (binaryOp .Add) (λx y H Q=>∃a b xs ys,x=.ref a/\y=.ref b/\H a=some (.tup xs)/\H b=some (.tup ys)/\xs.length+ys.length<=sizeLine /\
  ∀p H',H' p=some (.tup (xs++ys))->Same H H'->Q (.ref p) H'):=by
 intro jb s U H x y v u Q I rx ry h;obtain⟨a,b,xs,ys,rfl,rfl,ha,hb,hz,q⟩:=h;cases xs with
 | nil=>exact rR jb s U H _ _ v u Q I rx ry ⟨a,b,ys,rfl,rfl,SqT.of ha,SqT.of hb,q b H hb (Same.refl H)⟩
 | cons x0 xr=>
  refine w6 jb s U H _ _ v u Q I rx ry ⟨a,b,x0::xr,ys,rq,rq,SqT.of ha,SqT.of hb,(λz=>by cases z),hz,λz=>?_,λz p hp=>?_⟩
  ·subst z;exact q a H (by rw[QbK];exact ha) (Same.refl H)
  ·refine q p _ Ab λc o e=>?_;rw[Ao (Aw e hp)];exact e
mutual
inductive Rep (H:Hp):V->PyData->Prop
 | non:Rep H .non .none
 | bl (b:Bool):Rep H (.bl b) (.bool b)
 | int (i:Int):Rep H (.int i) (.int i)
 | str (x:Str):Rep H (.str x) (.str x)
 | tup {a:Addr} {xs:YG} {ds:List PyData}:H a=some (.tup xs)->Oj H xs ds->Rep H (.ref a) (.tuple ds)
 | lst {a:Addr} {xs:YG} {ds:List PyData}:H a=some (.lst xs)->Oj H xs ds->Rep H (.ref a) (.list ds)
inductive Oj (H:Hp):YG->List PyData->Prop
 | nil:Oj H [] []
 | cons {x:V} {d:PyData} {xs:YG} {ds:List PyData}:Rep H x d->Oj H xs ds->Oj H (x::xs) (d::ds)
end
mutual
theorem Rep.reads {P:Program} {w:World} {H:Hp} {h:Heap} (ok:HOk P w H h):∀{v:V} {d:PyData} {u:Value},Rep H v d->RelV v u->∃as,Reads h u d as
 | _,_,_,.non,r=>by cases (show _=Value.none from r);exact⟨_,.none⟩
 | _,_,_,.bl b,r=>by cases (show _=Value.bool b from r);exact⟨_,.bool b⟩
 | _,_,_,.int i,r=>by obtain⟨t,rfl⟩:=(show ∃t,_=Value.int i t from r);exact⟨_,.int i t⟩
 | _,_,_,.str x,r=>by obtain⟨t,rfl⟩:=(show ∃t,_=Value.str x t from r);exact⟨_,.str x t⟩
 | _,_,_,.tup (a:=a) (xs:=xs) e q,r=>by
  cases (show _=Value.ref a from r)
  obtain⟨_,its,rv,o,ho,hc,n,hd⟩:=(show BK P w H h a (.tup xs) from ok a _ e)
  obtain⟨as,z⟩:=Oj.reads ok q rv;exact⟨_,.tuple ho hc hd (by simpa using z)⟩
 | _,_,_,.lst (a:=a) (xs:=xs) e q,r=>by
  cases (show _=Value.ref a from r)
  obtain⟨_,its,n,rv,ho⟩:=(show BK P w H h a (.lst xs) from ok a _ e)
  obtain⟨as,z⟩:=Oj.reads ok q rv;exact⟨_,.list ho rfl rfl (by simpa using z)⟩
theorem Oj.reads {P:Program} {w:World} {H:Hp} {h:Heap} (ok:HOk P w H h):∀{xs:YG} {ds:List PyData} {us:YE},Oj H xs ds->Vals xs us->∃as,ReadsAll h us ds as
 | _,_,_,.nil,.nil=>⟨_,.nil⟩
 | _,_,_,.cons p q,.cons r t=>by
  obtain⟨as,a1⟩:=Rep.reads ok p r;obtain⟨bs,b1⟩:=Oj.reads ok q t;exact⟨_,.cons a1 b1⟩
end
theorem nH (hu:X.A.units+64 < cLine):OpR X (compareOp .NotEq) (λx y H Q=>∃d e,Rep H x d/\Rep H y e/\SeqAt.shaped d=true/\SeqAt.shaped e=true/\Q (.bl (!PyData.eqv d e)) H):=by
 intro jb s U H x y v u Q I rx ry h;obtain⟨d,e,p,p',sd,se,q⟩:=h;obtain⟨as,r1⟩:=p.reads I.hok rx;obtain⟨bs,r2⟩:=p'.reads I.hok ry;exact ne_dataH r1 r2 sd se hu ⟨.bl (!PyData.eqv d e),H,I,rq,q⟩
end
structure Code (K:YD) (mg:YB) (x:Str) (st:Stmt) (ps:YF):Prop where
 ex:∃(f:Addr) (fd:FuncData),Fun K x x st f fd/\mg x=some (.ref f)/\Binds K fd ps []
structure Good (P:Program) (w:World) (K:YD) (mg:YB) (base:Heap) (x:Str) (k:Nat) (ps:YF) (sp:Sp):Prop where
 ex:∃(f:Addr) (fd:FuncData),mg x=some (.ref f)/\keepIn K (.ref f)=true/\Binds K fd ps []/\G3 P w K mg base CX0 k f fd ps sp
theorem Code.good {P:Program} {w:World} {K:YD} {mg:YB} {base:Heap} {x:Str} {st:Stmt} {ps N:YF} {k:Nat} {sp:Sp} (C:Code K mg x st ps) (S:Ba N ps (Ak st)) (len:∀vs H Q E,sp vs H Q E->vs.length=ps.length)
  (hbody:∀(f:Addr) (cdv:Value) (A:Around) (outer:List Env) (s:Shared) (H:Hp) (vs:YG) (Q:VK) (E:XK),Dl k (A.deeper (envOfC x (Ak st) s.heap.objs.size f cdv))->sp vs H Q E ->
   ∃t,PSs (Sx CX0 P w K mg base N x (Ak st) f cdv A outer s H E).nox (Dq st) t/\t { nx:=λ_ H'=>Q .non H',rt:=Q } (start N vs) H):Good P w K mg base x (k+1) ps sp:=by
 obtain⟨f,fd,F,m,b⟩:=C.ex;exact⟨f,fd,m,F.kp,b,F.ok S len λcdv A outer s H vs Q E hr h=>hbody f cdv A outer s H vs Q E hr h⟩
theorem Ay {X:Cx} {k k':Nat} {ps:YF} {sp:Sp} {x:Str} {p pos:Pos} {e:Expr} {es:YJ} {t:TA} (g:Good X.prog X.w X.K X.mg X.base x k ps sp) (hr:Dl k' X.A) (ha:PA X (e::es) t) (hk:k<=k':=by decide) (hg:Gl X x:=by rfl)
  (hdb:(x == ("__debug__":Str))=false:=by decide) (he:starEach (e::es) X.env=(false,eval e X.env)::starEach es X.env:=by rfl) (hpl:(backTo pos (starEach es X.env)).any (·.1)=false:=by rfl) :
  PE X (.Call (.Name x p) (e::es) [] pos) (vA sp [] E0 t):=by
 intro jb s U H Q I h;obtain⟨f,fd,m,kp,b,F⟩:=g.ex;exact wZ F (hr.mono hk) hg m kp b .nil Y8 ha hdb he hpl jb s U H Q I h
theorem Code.of {K:YD} {mg:YB} {h:Heap} {x:Str} {st:Stmt} {ps:YF} {f:Addr} {oc:Value} {od an:Option Addr} {osl:YI} {kV doc pm cdv ct:Value} (X:K.In h) (G:h.Ns mainGlobals mg)
  (a:nsIn K mainGlobals x=some (some (.ref f))) (l:K.lookup f=some ⟨oc,od,.func (fnOf x x (Ei st) (Dq st) (Ak st) .none kV doc pm an cdv ct),osl⟩) (c:codeIn K cdv x=true) (k:keepIn K (.ref f)=true)
  (hb:∀(kV doc pm:Value) (an:Option Addr) (cdv ct:Value) (us:YE),us.length=ps.length->bindArgs (fnOf x x (Ei st) (Dq st) (Ak st) .none kV doc pm an cdv ct) ⟨us,[]⟩=pure (ps.zip us)):Code K mg x st ps:=by
 have F:=Wa (st:=st) l c k;exact⟨f,_,F,mg_of X G a,F.binds hb⟩
theorem Ag {H:Hp} {p:Addr} (h:H p=none) (o:HO):Same H (upd H p o):=λb u q=>by rw[Ao (Aw q h)];exact q
theorem Bo.plain {X:Cx} {N':YF} {sc:Scope} (kind:sc.kind=.function) (Jd:∀y∈sc.names,y.2≠.cell) (loc:∀y∈sc.names,y.2=.local->sc.names.lookup y.1=some .local) (bw:∀y∈sc.names,y.2≠.free) :
  Bo X N' (N'.map λ_=>none) sc where
 kind:=kind
 Jd:=Jd
 loc:=loc
 fv:=λy hy e=>absurd e (bw y hy)
 len:=by simp
 src:=λi x j _ e=>by
  rw[Qbn] at e;cases q:N'[i]? with
  | none=>rw[q] at e;cases e
  | some z=>rw[q] at e;cases e
theorem Vl {K:YD} {a l:Addr} {xs:YG} {g:TG} {tt:TT} {te:TE} {Q:VK} {σ0:St} {H0:Hp} (Pv:YN)
  (h0:Pv 0 σ0 H0) (hl:∀i U H',i<=xs.length->Pv i U H'->SqT K H' a xs)
  (hs:∀i x U H',xs[i]?=some x->Pv i U H'->g x U H' fun σ3 H3=>tt σ3 H3 λb H4=>if b=true then te σ3 H4 λy H5=>∃ys,H5 l=some (.lst ys)/\ys.length < sizeLine/\Pv (i+1) σ3 (upd H5 l (.lst (ys++[y]))) else Pv (i+1) σ3 H4)
  (hd:∀ U H',Pv xs.length U H'->Q (.ref l) H'):Gh (Itt K a) g tt te Q σ0 H0 l:=by
 unfold Gh;refine⟨λi m U H'=>m=xs.length - i/\i<=xs.length/\Pv i U H',⟨xs.length,by simp,Qcx _,h0⟩,?_⟩;rintro i m U H' ⟨rfl,hi,p⟩;have q:=hl i U H' hi p;by_cases hlt:i < xs.length
 ·refine .inr ⟨⟨xs,xs[i],q,by simp[hlt]⟩,Pv (i+1),fun σ3 H3 p'=>⟨xs.length - (i+1),by omega,rq,hlt,p'⟩,λx H2 y=>?_⟩;obtain⟨e,y⟩:=y;subst e;exact hs i x U _ (y xs q) p
 ·have e:i=xs.length:=by omega
  subst e;exact .inl ⟨⟨xs,q,Qcw _⟩,hd U H' p⟩
theorem Gg {K:YD} {a l:Addr} {xs:YG} {g:TG} {tt:TT} {te:TE} {Q:VK} {σ0:St} {H0:Hp} (Pv:YN)
  (h0:Pv 0 σ0 H0) (hl:∀i U H',i<=xs.length->Pv i U H'->SqL K H' a xs)
  (hs:∀i x U H',xs[i]?=some x->Pv i U H'->g x U H' fun σ3 H3=>tt σ3 H3 λb H4=>if b=true then te σ3 H4 λy H5=>∃ys,H5 l=some (.lst ys)/\ys.length < sizeLine/\Pv (i+1) σ3 (upd H5 l (.lst (ys++[y]))) else Pv (i+1) σ3 H4)
  (hd:∀ U H',Pv xs.length U H'->Q (.ref l) H'):Gh (Itl K a) g tt te Q σ0 H0 l:=by
 unfold Gh;refine⟨λi m U H'=>m=xs.length - i/\i<=xs.length/\Pv i U H',⟨xs.length,by simp,Qcx _,h0⟩,?_⟩;rintro i m U H' ⟨rfl,hi,p⟩;have q:=hl i U H' hi p;by_cases hlt:i < xs.length
 ·refine .inr ⟨⟨xs,xs[i],q,by simp[hlt]⟩,Pv (i+1),fun σ3 H3 p'=>⟨xs.length - (i+1),by omega,rq,hlt,p'⟩,λx H2 y=>?_⟩;obtain⟨e,y⟩:=y;subst e;exact hs i x U _ (y xs q) p
 ·have e:i=xs.length:=by omega
  subst e;exact .inl ⟨⟨xs,q,Qcw _⟩,hd U H' p⟩
theorem Kp {lo:Int} {n:Nat} {l:Addr} {g:TG} {tt:TT} {te:TE} {Q:VK} {σ0:St} {H0:Hp} (Pv:YN) (h0:Pv 0 σ0 H0)
  (hs:∀i U H',i < n->Pv i U H'->g (.int (lo+i)) U H' fun σ3 H3=>tt σ3 H3 λb H4=>if b=true then te σ3 H4 λy H5=>∃ys,H5 l=some (.lst ys)/\ys.length < sizeLine/\Pv (i+1) σ3 (upd H5 l (.lst (ys++[y]))) else Pv (i+1) σ3 H4)
  (hd:∀ U H',Pv n U H'->Q (.ref l) H'):Gh (Itr lo n) g tt te Q σ0 H0 l:=by
 unfold Gh;refine⟨λi m U H'=>m=n - i/\i<=n/\Pv i U H',⟨n,by simp,Qcx _,h0⟩,?_⟩;rintro i m U H' ⟨rfl,hi,p⟩;by_cases hlt:i < n
 ·refine .inr ⟨hlt,Pv (i+1),fun σ3 H3 p'=>⟨n - (i+1),by omega,rq,hlt,p'⟩,λx H2 y=>?_⟩;obtain⟨e,y⟩:=y;subst e y;exact hs i U _ hlt p
 ·have e:i=n:=by omega
  subst e;exact .inl ⟨Qcw _,hd U H' p⟩
section
variable {X:Cx}
theorem Yi (hc:X.calm=true):DQ X (.builtin "max") (λxs H Q=>∃(p:Addr) (ns:List Int),xs=[.ref p]/\SqL X.K H p (ns.map V.int)/\0 < ns.length/\∀M,M∈ns->(∀a,a∈ns->a<=M)->Q (.int M) H):=by
 intro jb s U H xs us Q I r h;obtain⟨p,ns,rfl,hq,hne,q⟩:=h;obtain⟨u,rfl,rx⟩:=vals1 r;cases rx;obtain⟨its,rv,pl,hz⟩:=I.list hq;have hi:IntsAre its ns:=intsAre_of rv;obtain⟨zs,e⟩:=hi.allInts.items;have hl:=pl.isList;rw[e] at hl;have hns:ns=zs.toList.map (·.1):=by rw[<-hi.numsOf,<-nums_intItems,<-e]
 have hsz:0 < zs.size:=by
  have h3:=hne;rw[hns,QbH,QaP] at h3;exact h3
 refine max_intList (I.ok.hd hc) hl hsz λv h' tk hv hk=>?_;obtain⟨t,rfl⟩:=intItems_at hv;obtain⟨_,h2⟩:=argBest_gt (numAt zs) (zs.size - 1);refine⟨.int _,H,I.kept hk,⟨t,rq⟩,q _ ?_ λa ha=>?_⟩
 ·rw[hns,numAt_eq];exact getD_mem (by rw[QbH,QaP];have:=(argBest_gt (numAt zs) (zs.size - 1)).1;omega)
 ·rw[hns] at ha;obtain⟨j,hj,rfl⟩:=mem_getD ha;rw[QbH,QaP] at hj;rw[<-numAt_eq];exact h2 j (by omega)
theorem oR:∀{us:YE} {ns:List Int},IntsAre us ns->Vals (ns.map V.int) us:=λh=>Rp h
theorem cJ:DQ X (.builtin "sorted") (λxs H Q=>∃(p:Addr) (ns:List Int),xs=[.ref p]/\SqL X.K H p (ns.map V.int)/\ns.length < 64 /\
  ∀(ms:List Int) l,ms.Perm ns->ms.Pairwise (·<=·)->H l=none->Q (.ref l) (upd H l (.lst (ms.map V.int)))):=by
 intro jb s U H xs us Q I r h;obtain⟨p,ns,rfl,hq,h64,q⟩:=h;obtain⟨u,rfl,rx⟩:=vals1 r;cases rx;obtain⟨its,rv,pl,hz⟩:=I.list hq;have hi:IntsAre its ns:=intsAre_of rv;have hlen:=hi.length;refine sorted_ints pl.isList hi (by omega) λout ms a1 a2 a3=>?_;obtain⟨e,he⟩:=sortedAll_at s.heap its out;have hml:=a2.length_eq;refine⟨.ref (s.heap.objs.size+1),_,I.laid (t':=s.toks) (o:=.lst (ms.map V.int)) (λb o q=>sortedAll_old q) (Nat.le_succ _) ?_,rq,q ms _ a2 a3 (I.hok.fresh (Nat.le_succ _))⟩;exact⟨by rw[QbH];exact Qcs (Ar (by omega)),out.toList,e,oR a1,he⟩
theorem fB:∀{ys:YF} {us:YE},Vals (ys.map V.str) us->StrsAre us ys
 | [],_,.nil=>.nil
 | y::r,_,.cons h t=>by
  obtain⟨t',e⟩:=(show ∃t,_=Value.str y t from h)
  cases e;exact .cons y t' (fB t)
def rJoin (K:YD):V->YG->Hp->VK->Prop:=λx vs H Q=>∃(z:Str) (p:Addr) (ys:YF),x=.str z/\vs=[.ref p]/\SqL K H p (ys.map V.str)/\(ys.map (·.length)).sum+ys.length*z.length<=16777216/\Q (.str (Txt.join z ys)) H
theorem xU:MtR X "str.join" (rJoin X.K):=by
 intro jb s U H x vs v us Q I rx rv h;obtain⟨z,p,ys,rfl,rfl,hq,hz,q⟩:=h;obtain⟨t,rfl⟩:=rx;obtain⟨u,rfl,ru⟩:=rv.one;cases ru;obtain⟨its,r',pl,_⟩:=I.list hq;exact join_list pl.isList (fB r') hz λt' k=>⟨.str (Txt.join z ys),H,I.tok k,⟨t',rq⟩,q⟩
def Its (z:Str):It:=⟨λi _=>i < z.cps.size,λi H x H'=>H'=H/\∃c,z.cps[i]?=some c/\x=.str ⟨#[c]⟩,λi _=>i=z.cps.size⟩
def G2 (tl:TE):TI:=fun U H R=>tl U H λx H1=>∃z,x=.str z/\R (Its z) H1
end
section
variable {X:Cx} {tg:Expr}
theorem Ze {P:Program} {w:World} {K:YD} {tg:Expr} (z:Str) (t:Tok) (it:Addr) (ty:String) (hty:["enumerate","zip","dict_itemiterator","dict_reverseitemiterator","odict_iterator","itertools.zip_longest","itertools.pairwise"].contains ty=false)
  (W:∀A':Around,A'.handled=none->Walks P w A' it [it] [it] z.cps.size (SignAt z) (λi h=>h.IsStrIter it ty z t i))
  (hself:∀(A:Around) (i:Nat) (s:Shared) (Q:YA) (E:YA),s.heap.IsStrIter it ty z t i->Q (.ref it) s->wpAny (model P w) A (pyIter (.ref it)) Q E s) :
  Turn P w K tg (Its z) [it] it (λi h=>h.IsStrIter it ty z t i) where
 mem:=Qbb.mpr rfl
 obj:=λi h st b hb=>by
  cases Qbb.mp hb;obtain⟨o,e,c,d⟩:=st;exact⟨o,e,λv z'=>by rw[d] at z';cases z'⟩
 keep:=λi h h' st k=>by
  obtain⟨o,e,r⟩:=st;exact⟨o,k it (Qbb.mpr rfl) o e,r⟩
 item:=by
  intro X hP hw hK hc i jb s U H E I hf st hg;subst hP hw hK;obtain⟨f0,f1,f2,f3,f4,f5⟩:=hf it (Qbb.mpr rfl);refine (W X.A (I.ok.hd hc)).item i s _ _ hg st λv h' tk hv st' kk=>?_;obtain⟨c,u,hcu,rfl⟩:=hv;have I1:Inv X jb U H { s with heap:=h',toks:=tk }:=I.turned (λb o hb e=>kk b o (λhm=>hb (Qbb.mp hm)) e) f0 f1 f3 f4 f5;obtain⟨o,e,cl,d⟩:=id st';exact⟨_,rq,T6 (s:={ s with heap:=h',toks:=tk }) e cl d hty ⟨.str ⟨#[c]⟩,H,I1,⟨u,rq⟩,⟨rq,c,hcu,rq⟩,st',λb hb=>(hf b hb).1⟩⟩
 done:=by
  intro X hP hw hK hc i jb s U H E I hf st hg;subst hP hw hK;obtain⟨f0,f1,f2,f3,f4,f5⟩:=hf it (Qbb.mpr rfl);cases (show i=z.cps.size from hg)
  exact (W X.A (I.ok.hd hc)).done s _ _ st λh' tk kk=>⟨rq,I.turned (λb o hb e=>kk b o (λhm=>hb (Qbb.mp hm)) e) f0 f1 f3 f4 f5⟩
 self:=λA i s Q E st h=>hself A i s Q E st h
theorem nj {l:Expr} {tl:TE} (hl:PE X l tl):PI X tg l (G2 tl):=by
 intro jb s U H R I h;refine thn (hl jb s U H _ I h) λv s1 zz=>?_;obtain⟨x,H1,I1,r1,z,e,q⟩:=zz;subst e;obtain⟨t,rfl⟩:=r1;have fp:∀o:Obj,∀b∈[s1.heap.objs.size],GK X jb H1 b:=λo b hb=>by
  cases Qbb.mp hb;exact I1.PX (Qcw _) (I1.hok.fresh (Qcw _))
 cases ha:z.cps.all (· < 128) with
 | true=>
  refine wpAny_pyIter_ascii ha ?_;exact⟨s1.heap.objs.size,[s1.heap.objs.size],_,_,H1,rq,I1.kept (t':=s1.toks) λb o e=>Qax _ e,Ze z t _ "str_ascii_iterator" (by decide) (λA' hA=>Walks.strAscii hA _ z t) (λ_ _ _ _ _ st h=>wpAny_pyIter_striter_ascii st h),
   ⟨_,QaM _ rfl,rq,rq⟩,fp { cls:=.none,data:=.fields #[] },q⟩
 | false=>
  refine wpAny_pyIter_wide ha ?_;exact⟨s1.heap.objs.size,[s1.heap.objs.size],_,_,H1,rq,I1.kept (t':=s1.toks) λb o e=>Qax _ e,Ze z t _ "str_iterator" (by decide) (λA' hA=>Walks.strWide hA _ z t) (λ_ _ _ _ _ st h=>wpAny_pyIter_striter_wide st h),
   ⟨_,QaM _ rfl,rq,rq⟩,fp { cls:=.none,data:=.fields #[] },q⟩
theorem cF {z:Str} {l:Addr} {g:TG} {tt:TT} {te:TE} {Q:VK} {σ0:St} {H0:Hp} (Pv:YN) (h0:Pv 0 σ0 H0)
  (hs:∀i c U H',z.cps[i]?=some c->Pv i U H'->g (.str ⟨#[c]⟩) U H' fun σ3 H3=>tt σ3 H3 λb H4=>if b=true then te σ3 H4 λy H5=>∃ys,H5 l=some (.lst ys)/\ys.length < sizeLine/\Pv (i+1) σ3 (upd H5 l (.lst (ys++[y]))) else Pv (i+1) σ3 H4)
  (hd:∀ U H',Pv z.cps.size U H'->Q (.ref l) H'):Gh (Its z) g tt te Q σ0 H0 l:=by
 unfold Gh;refine⟨λi m U H'=>m=z.cps.size - i/\i<=z.cps.size/\Pv i U H',⟨z.cps.size,by simp,Qcx _,h0⟩,?_⟩;rintro i m U H' ⟨rfl,hi,p⟩;by_cases hlt:i < z.cps.size
 ·refine .inr ⟨hlt,Pv (i+1),fun σ3 H3 p'=>⟨z.cps.size - (i+1),by omega,rq,hlt,p'⟩,λx H2 y=>?_⟩;obtain⟨e,c,hc,rfl⟩:=y;subst e;exact hs i c U _ hc p
 ·have e:i=z.cps.size:=by omega
  subst e;exact .inl ⟨rq,hd U H' p⟩
end
end L2
namespace HT
open PySem PyProof.Rows
section
variable {prog:Program} {w:World} {A:Around} {E:YA} {s:Shared}
theorem Um {t sl:Addr} {items:Array Value} {vl vu:Value} {lo hi:Option Int} {Q:YA} (ht:IsTup s.heap t items) (hs:s.heap.IsSliceOf sl vl vu .none) (pl:IsPart vl lo) (pu:IsPart vu hi)
  (hw:sIx items.size 0 lo=0/\sIx items.size items.size hi=items.size) (h:Q (.ref t) s):wpAny (model prog w) A (getItem (.ref t) (.ref sl)) Q E s:=by
 obtain⟨os,hos,hcs,hds⟩:=id hs;have hTs:s.TypeIs (.ref sl) "slice":=⟨os,hos,hcs⟩;unfold getItem
 try with_reducible refine Qch ?_
 first | refine QcB (QcC ?_) | skip
 refine QcB (wpAny_sequenceKey ht.typeIs (by decide) ?_);refine QcB (Qas (name:=Str.ofString "__getitem__") ht.typeIs Qab (QbB Qab ht.typeIs entry_tuple_getitem ?_ (args_tuple_getitem _ _)));show wpAny _ _ (Builtin.Tuple.tupleItemsOf (.ref t) >>= _) _ _ s;refine QcB (tupleItemsOf_ ht ?_);refine QcB (wpAny_typeOf hTs ?_);rw[if_pos (by decide)];refine QcB (Nt hs pl pu ?_);rw[hw.1,hw.2];show wpAny _ _ (if (((0:Nat):Int) == 0&&(1:Int) == 1&&(items.size - 0) == items.size)=true then _ else _) _ _ s
 rw[if_pos (by simp)];refine QcB ?_;unfold Builtin.Tuple.tupleIsExact;refine QcB (wpAny_typeOf ht.typeIs (QcC ?_));rw[if_pos (by decide)];exact QcB (wpAny_rule (QcC ⟨_,rq,QcC h⟩))
end
end HT
namespace L2
open PySem PySem.Spec PyProof.Rows
section
variable {X:Cx}
theorem Ww:SlR X (λx lo hi H Q=>∃a xs,x=.ref a/\H a=some (.tup xs)/\∀p H',H' p=some (.tup (Jy xs lo hi))->Same H H'->Q (.ref p) H'):=by
 intro jb s U H x v vl vu lo hi sl Q I rx hs pl pu h;obtain⟨a,xs,rfl,hx,q⟩:=h;by_cases hw:HT.sIx xs.length 0 lo=0/\HT.sIx xs.length xs.length hi=xs.length
 ·cases rx;obtain⟨its,r,ht,hz⟩:=I.tuple (SqT.of hx);have hlen:its.toArray.size=xs.length:=by rw[Qbl];exact r.length.symm
  refine⟨"tuple",_,Qab.lookup,ht.typeIs,?_⟩;refine HT.Um ht hs pl pu (by rw[hlen];exact hw) ⟨.ref a,H,I,rq,q a H ?_ (Same.refl H)⟩;have e:Jy xs lo hi=xs:=by unfold Jy;rw[hw.1,hw.2];simp
  rw[e];exact hx
 ·exact zE jb s U H _ v vl vu lo hi sl Q I rx hs pl pu ⟨a,xs,rq,SqT.of hx,hw,λp hp=>q p _ Ab (λc o e=>by rw[Ao (Aw e hp)];exact e)⟩
theorem mK:SlR X (λx lo hi H Q=>∃z,x=.str z/\z.length<=sizeLine/\Q (.str (Txt.slice z lo hi)) H):=by
 intro jb s U H x v vl vu lo hi sl Q I rx hs pl pu h;obtain⟨z,rfl,hz,q⟩:=h;obtain⟨t,rfl⟩:=rx;refine⟨"str",_,F.slot_str_getitem.lookup,typeIs_str _ _ _,?_⟩;have fin:∀t' k,EP X jb U Q (.str (Txt.slice z lo hi) t') { s with toks:=k }:=λt' k=>⟨.str (Txt.slice z lo hi),H,I.tok k,⟨t',rq⟩,q⟩;cases pl with
 | none=>
  cases pu with
  | none=>exact Qav (l:=none) (u:=none) (st:=none) hs rfl (post_val_or_str ⟨Qcr (Txt.slice_le z _ _) hz,fin⟩)
  | int j tj=>exact Qav (l:=none) (u:=some (j,tj)) (st:=none) hs rfl (post_val_or_str ⟨Qcr (Txt.slice_le z _ _) hz,fin⟩)
 | int i ti=>
  cases pu with
  | none=>exact Qav (l:=some (i,ti)) (u:=none) (st:=none) hs rfl (post_val_or_str ⟨Qcr (Txt.slice_le z _ _) hz,fin⟩)
  | int j tj=>exact Qav (l:=some (i,ti)) (u:=some (j,tj)) (st:=none) hs rfl (post_val_or_str ⟨Qcr (Txt.slice_le z _ _) hz,fin⟩)
end
structure G4 (K:YD) (C:Addr) (m qn:Str) (st:Stmt) (ps:YF):Prop where
 ex:∃(f:Addr) (fd:FuncData),Fun K m qn st f fd/\Meth K C m f/\Binds K fd ps []
structure CN (P:Program) (w:World) (K:YD) (mg:YB) (base:Heap) (C:Addr) (m:Str) (k:Nat) (ps:YF) (sp:Sp):Prop where
 ex:∃(f:Addr) (fd:FuncData),Meth K C m f/\Binds K fd ps []/\G3 P w K mg base CX0 k f fd ps sp
structure lD (P:Program) (w:World) (K:YD) (mg:YB) (base:Heap) (C:Addr) (k:Nat) (ps:YF) (sp:Sp):Prop where
 ex:∃(f:Addr) (fd:FuncData),Mk K C f/\Binds K fd ps []/\G3 P w K mg base CX0 k f fd ps sp
theorem G4.good {P:Program} {w:World} {K:YD} {mg:YB} {base:Heap} {C:Addr} {m qn:Str} {st:Stmt} {ps N:YF} {k:Nat} {sp:Sp} (c:G4 K C m qn st ps) (S:Ba N ps (Ak st)) (len:∀vs H Q E,sp vs H Q E->vs.length=ps.length)
  (hbody:∀(f:Addr) (cdv:Value) (A:Around) (outer:List Env) (s:Shared) (H:Hp) (vs:YG) (Q:VK) (E:XK),Dl k (A.deeper (envOfC qn (Ak st) s.heap.objs.size f cdv))->sp vs H Q E ->
   ∃t,PSs (Sx CX0 P w K mg base N qn (Ak st) f cdv A outer s H E).nox (Dq st) t/\t { nx:=λ_ H'=>Q .non H',rt:=Q } (start N vs) H):CN P w K mg base C m (k+1) ps sp:=by
 obtain⟨f,fd,F,M,b⟩:=c.ex;exact⟨f,fd,M,b,F.ok S len λcdv A outer s H vs Q E hr h=>hbody f cdv A outer s H vs Q E hr h⟩
theorem Hu {X:Cx} {pl:Sem Bool} {k k':Nat} {C:Addr} {ps:YF} {sp:Sp} {m:Str} {apos pos:Pos} {o e:Expr} {es:YJ} {ta:TE} {t:TA} (he:PE X o ta) (c:Cls X.K C) (g:CN X.prog X.w X.K X.mg X.base C m k ps sp) (hr:Dl k' X.A) (ha:PA X (e::es) t) (hk:k<=k':=by decide)
  (hst:starEach (e::es) X.env=(false,eval e X.env)::starEach es X.env:=by rfl) (hpl:(backTo pos (starEach es X.env)).any (·.1)=false:=by rfl)
  (ht:eval (.Call (.Attribute o m apos) (e::es) [] pos) X.env=(do
   let ov <-eval o X.env
   standAt apos.atName
   let (f,first) <-holding [ov] (getMethod ov m pl)
   callWith pos f first (backTo pos (starEach (e::es) X.env)) (backToKw pos (keywordEach [] X.env))):=by rfl) :
  PE X (.Call (.Attribute o m apos) (e::es) [] pos) (Y6 C m sp [] E0 ta t):=by
 intro jb s U H Q I h;obtain⟨f,fd,M,b,F⟩:=g.ex;exact wW (pl:=pl) he c M F (hr.mono hk) b .nil Y8 ha hst hpl ht jb s U H Q I h
theorem aD {X:Cx} {pl:Sem Bool} {k k':Nat} {C:Addr} {ps:YF} {sp:Sp} {m:Str} {apos pos:Pos} {o:Expr} {ta:TE} (he:PE X o ta) (c:Cls X.K C) (g:CN X.prog X.w X.K X.mg X.base C m k ps sp) (hr:Dl k' X.A) (hk:k<=k':=by decide)
  (ht:eval (.Call (.Attribute o m apos) [] [] pos) X.env=(do
   let ov <-eval o X.env
   standAt apos.atName
   let (f,first) <-holding [ov] (getMethod ov m pl)
   callWith pos f first (backTo pos (starEach [] X.env)) (backToKw pos (keywordEach [] X.env))):=by rfl) :
  PE X (.Call (.Attribute o m apos) [] [] pos) (Y6 C m sp [] E0 ta je):=by
 intro jb s U H Q I h;obtain⟨f,fd,M,b,F⟩:=g.ex;exact rH (pl:=pl) he c M F (hr.mono hk) b .nil Y8 ht jb s U H Q I h
theorem Cl {X:Cx} {k k':Nat} {C:Addr} {ps:YF} {sp:Sp} {x:Str} {p pos:Pos} {e:Expr} {es:YJ} {t:TA} (g:lD X.prog X.w X.K X.mg X.base C k ps sp) (hr:Dl k' X.A) (hm:X.mg x=some (.ref C)) (ha:PA X (e::es) t) (hk:k+1<=k':=by decide) (hg:Gl X x:=by rfl)
  (hdb:(x == ("__debug__":Str))=false:=by decide) (he:starEach (e::es) X.env=(false,eval e X.env)::starEach es X.env:=by rfl) (hpl:(backTo pos (starEach es X.env)).any (·.1)=false:=by rfl) :
  PE X (.Call (.Name x p) (e::es) [] pos) (vo C sp [] E0 t):=by
 intro jb s U H Q I h;obtain⟨f,fd,M,b,F⟩:=g.ex;exact wX M F (hr.mono hk) hg hm b .nil Y8 ha hdb he hpl jb s U H Q I h
theorem RK {X:Cx} {x:Str} {v:V} {pos:Pos} (hg:Gl X x) (hm:∃u,X.mg x=some u/\RelV v u) (hd:(x == ("__debug__":Str))=false:=by decide):PE X (.Name x pos) (tC v):=by
 obtain⟨u,h,r⟩:=hm;exact wY hg h r hd
theorem Sh:∀{fs:List (Str×V)} {i:Nat} {f:Str} {v:V},(fs.map (·.1)).Nodup->fs[i]?=some (f,v)->fs.lookup f=some v
 | [],_,_,_,_,h=>by simp at h
 | (g,u)::fs,0,f,v,_,h=>by simp at h;obtain⟨rfl,rfl⟩:=h;simp[List.lookup]
 | (g,u)::fs,i+1,f,v,hn,h=>by
  rw[Qcf,QbP] at hn;have h':fs[i]?=some (f,v):=by simpa using h
  have hm:f∈fs.map (·.1):=Qcn.mpr ⟨(f,v),QaI h',rq⟩;have hne:(f == g)=false:=QaN.mpr λe=>hn.1 (e ▸ hm);rw[List.lookup,hne];exact Sh hn.2 h'
theorem vX:∀{fs:List (Str×V)} {m:Str},m∉fs.map (·.1)->fs.lookup m=none
 | [],_,_=>rfl
 | (g,u)::fs,m,h=>by
  rw[Qcf,Qce] at h;have hne:(m == g)=false:=QaN.mpr λe=>h (.inl e);rw[List.lookup,hne];exact vX λz=>h (.inr z)
theorem Sg {y:V}:∀{fs:List (Str×V)} {f:Str},f∉fs.map (·.1)->Hs f y fs=fs++[(f,y)]
 | [],_,_=>rfl
 | (g,u)::fs,f,h=>by
  rw[Qcf,Qce] at h;show (if g=f then (g,y)::fs else (g,u)::Hs f y fs)=_
  rw[if_neg λe=>h (.inl e.symm),Sg λz=>h (.inr z)];rfl
def Am (H H':Hp):Prop:=∀c xs,H c=some (.tup xs)->H' c=some (.tup xs)
theorem Am.trans {H H1 H2:Hp} (a:Am H H1) (b:Am H1 H2):Am H H2:=λc xs e=>b c xs (a c xs e)
theorem Am.of {H H1:Hp} (s:Same H H1):Am H H1:=λc xs e=>s c _ e
theorem Am.upd {H:Hp} {b:Addr} {o:HO} (h:∀xs,H b≠some (.tup xs)):Am H (upd H b o):=λc xs e=>by
 have n:c≠b:=λz=>h xs (z ▸ e);rw[Ao n];exact e
def Ai (b:Addr) (H H':Hp):Prop:=∀c o,H c=some o->c≠b->H' c=some o
theorem Ai.trans {b:Addr} {H H1 H2:Hp} (x:Ai b H H1) (y:Ai b H1 H2):Ai b H H2:=λc o e n=>y c o (x c o e n) n
theorem Ai.of {b:Addr} {H H1:Hp} (x:Same H H1):Ai b H H1:=λc o e _=>x c o e
theorem Ai.refl (b:Addr) (H:Hp):Ai b H H:=λ_ _ e _=>e
theorem Ai.upd {b:Addr} {H:Hp} {o:HO}:Ai b H (upd H b o):=λc u e n=>by rw[Ao n];exact e
theorem Ai.tup {b:Addr} {H H':Hp} (x:Ai b H H') (h:∀xs,H b≠some (.tup xs)):Am H H':=λc xs e=>x c _ e λz=>h xs (z ▸ e)
theorem Ai.free {b:Addr} {H H':Hp} (x:Ai b H H') (hb:∃o,H' b=some o) {l:Addr} (h:H' l=none):H l=none:=by
 cases e:H l with
 | none=>rfl
 | some o=>
  by_cases n:l=b
  ·obtain⟨o',e'⟩:=hb;rw[n,e'] at h;cases h
  ·rw[x l o e n] at h;cases h
def B7 (K:YD) (ta tv:TE) (f:Str):TS:=λD U H=>tv U H λy H1=>ta U H1 λx H2=>∃a C dx fs fs',x=.ref a/\H2 a=some (.ins C dx fs)/\Cls K C/\Ji K C f/\fs.length < 1000/\Hs f y fs=fs' /\
 ∀H',H' a=some (.ins C dx fs')->Ai a H2 H'->D.nx U H'
section
variable {X:Cx} {o e value:Expr} {f:Str} {pos pos' tpos:Pos} {ta tv:TE}
theorem PE.weak {ta ta':TE} (h:PE X e ta) (i:∀ U H Q,ta' U H Q->ta U H Q):PE X e ta':=λjb s U H Q I q=>h jb s U H Q I (i U H Q q)
theorem Tr (ha:PE X o ta) (hv:PE X value tv) (hs:swapsWith value (some (.Attribute o f pos')) pos.line X.env=pure false):PS X (.Assign [.Attribute o f pos'] value pos) (B7 X.K ta tv f):=by
 intro jb s U H D I h;refine plainObj_wpAny_Assign_Attribute (thn (hv jb s U H _ I h) λu s1 zz=>?_) hs;obtain⟨y,H1,I1,ry,q⟩:=zz;refine thn (ha jb s1 U H1 _ I1 q) λov s2 zz=>?_;obtain⟨x,H2,I2,rx,a,C,dx,fs,fs',ex,ea,c,n,l,ep,q2⟩:=zz;subst ex;obtain rfl:ov=Value.ref a:=rx;refine ji I2 ea c n l ry λs3 I3=>⟨U,_,I3,q2 _ ?_ Ai.upd⟩;rw[Ab,ep]
end
theorem PS.weak {X:Cx} {s:Stmt} {t t':TS} (h:PS X s t) (i:∀D U H,t' D U H->t D U H):PS X s t':=λjb sh U H D I q=>h jb sh U H D I (i D U H q)
section
variable {X:Cx} {K:YD}
theorem TJ (h:X.K=K):IxR X (zK K):=h ▸ BW
theorem VJ (h:X.K=K):OpR X (compareOp .In) (rIn K false):=h ▸ RM
theorem Rb (h:X.K=K):OpR X (compareOp .NotIn) (rIn K true):=h ▸ aP
theorem gF {e:Expr} {f:Str} {pos:Pos} {ta:TE} (h:X.K=K) (he:PE X e ta) (hb:attributeBase e f X.env (eval e X.env)=eval e X.env):PE X (.Attribute e f pos) (yZ K ta f):=h ▸ Dc he hb
end
end L2
namespace PySem
open Sem (wp)
section
variable {prog:Program} {w:World} {A:Around} {E:YA} {s:Shared}
end
end PySem
namespace L2
open PySem PySem.Spec PyProof.Rows
section
variable {X:Cx} {pos:Pos}
end
structure Has (H:Hp) (l:List (Addr×HO)):Prop where
 nd:(l.map (·.1)).Nodup
 at_:∀x∈l,H x.1=some x.2
theorem Has.CB {H:Hp} {l:List (Addr×HO)} {a:Addr} (h:Has H l) (e:H a=none):a∉l.map (·.1):=λz=>by
 obtain⟨x,hx,rfl⟩:=Qcn.mp z;rw[h.at_ x hx] at e;cases e
theorem Has.new {H H':Hp} {l:List (Addr×HO)} {a:Addr} {o:HO} (h:Has H l) (n:H a=none) (s:Same H H') (e:H' a=some o):Has H' (l++[(a,o)]):=by
 refine⟨?_,λx hx=>?_⟩
 ·rw[QbI,Qbw];refine⟨h.nd,by simp,λx hx y hy z=>?_⟩;have:y=a:=by simpa using hy
  subst this;exact h.CB n (z ▸ hx)
 ·rcases QbJ.mp hx with z | z
  ·exact s _ _ (h.at_ x z)
  ·have:x=(a,o):=by simpa using z
   subst this;exact e
theorem Has.nil (H:Hp):Has H []:=⟨Qca,λx hx=>by cases hx⟩
theorem Same.Bl {H0 H H':Hp} {a:Addr} (s:Same H0 H) (b:Ai a H H') (f:H0 a=none):Same H0 H':=λc o e=>b _ _ (s _ _ e) λz=>by rw[z,f] at e;cases e
section
variable {κ : Type} [DecidableEq κ]
def CV (kvs:List (κ×V)) (k:κ):Option V:=(kvs.find? λkv=>decide (kv.1=k)).map (·.2)
def putK (kvs:List (κ×V)) (k:κ) (v:V):List (κ×V):=
 if (kvs.any λkv=>decide (kv.1=k))=true then kvs.map (λkv=>if kv.1=k then (kv.1,v) else kv) else kvs++[(k,v)]
theorem Jo {p:κ×V} {r:List (κ×V)} {k:κ} (e:p.1=k):CV (p::r) k=some p.2:=by simp[CV,QbW,e]
theorem GR {p:κ×V} {r:List (κ×V)} {k:κ} (e:¬p.1=k):CV (p::r) k=CV r k:=by simp[CV,QbW,e]
theorem Kr (k:κ):∀kvs:List (κ×V),(kvs.any λkv=>decide (kv.1=k))=(CV kvs k).isSome
 | []=>rfl
 | p::r=>by
  rw[Qci];by_cases e:p.1=k
  ·simp only[Jo e,QbY e,Bool.true_or,Option.isSome_some]
  ·rw[GR e,QbM e,Bool.false_or];exact Kr k r
theorem Ld (kvs:List (κ×V)) (k:κ) (v:V):(putK kvs k v).length<=kvs.length+1:=by
 unfold putK;split
 ·rw[QbH];omega
 ·rw[QaU,Qby,List.length_nil];omega
theorem KD {kvs:List (κ×V)} {k:κ} (v:V) (h:CV kvs k=none):putK kvs k v=kvs++[(k,v)]:=by
 unfold putK;rw[Kr,h];exact if_neg (by decide)
theorem Ht.Mi {o:Option V} {u:Option Value} (r:Ht o u):o.isSome=u.isSome:=by
 cases o with
 | none=>cases u with
  | none=>rfl
  | some _=>exact (show False from r).elim
 | some _=>cases u with
  | none=>exact (show False from r).elim
  | some _=>rfl
theorem Ht.getD {o:Option V} {u:Option Value} {d:V} {d':Value} (r:Ht o u) (rd:RelV d d'):RelV (o.getD d) (u.getD d'):=by
 cases o with
 | none=>cases u with
  | none=>exact rd
  | some _=>exact (show False from r).elim
 | some _=>cases u with
  | none=>exact (show False from r).elim
  | some _=>exact r
theorem KV.val {kvs:List (κ×V)} {vs:List (κ×Value)} (r:KV kvs vs) (k:κ):Ht (CV kvs k) (valueAt vs k):=by
 unfold KV at r
 induction r with
 | nil=>exact True.intro
 | @cons p q ps qs h t ih=>
  obtain⟨h1,h2⟩:=h;by_cases e:p.1=k
  ·have e':q.1=k:=h1.symm.trans e;have b:valueAt (q::qs) k=some q.2:=by simp[valueAt,QbW,e']
   rw[Jo e,b];exact h2
  ·have e':¬q.1=k:=λz=>e (h1.trans z);have b:valueAt (q::qs) k=valueAt qs k:=by simp[valueAt,QbW,e']
   rw[GR e,b];exact ih
theorem KV.any {kvs:List (κ×V)} {vs:List (κ×Value)} (r:KV kvs vs) (k:κ):(kvs.any λkv=>decide (kv.1=k))=vs.any λkv=>decide (kv.1=k):=by
 unfold KV at r
 induction r with
 | nil=>rfl
 | cons h t ih=>rw[Qci,Qci,ih,h.1]
theorem KV.repl {kvs:List (κ×V)} {vs:List (κ×Value)} (r:KV kvs vs) (k:κ) {y:V} {u:Value} (ry:RelV y u) :
  KV (kvs.map λkv=>if kv.1=k then (kv.1,y) else kv) (vs.map λkv=>if kv.1=k then (kv.1,u) else kv):=by
 unfold KV at r ⊢
 induction r with
 | nil=>exact .nil
 | @cons p q ps qs h t ih=>
  rw[Qcf,Qcf];refine .cons ?_ ih;obtain⟨h1,h2⟩:=h;by_cases e:p.1=k
  ·rw[if_pos e,if_pos (h1.symm.trans e)];exact⟨h1,ry⟩
  ·rw[if_neg e,if_neg (λz=>e (h1.trans z))];exact⟨h1,h2⟩
theorem KV.put {kvs:List (κ×V)} {vs:List (κ×Value)} (r:KV kvs vs) (k:κ) {y:V} {u:Value} (ry:RelV y u):KV (putK kvs k y) (stored vs k u):=by
 unfold putK stored;rw[r.any k];by_cases e:(vs.any λkv=>decide (kv.1=k))=true
 ·rw[if_pos e,if_pos e];exact r.repl k ry
 ·rw[if_neg e,if_neg e];exact Qcy r ⟨rq,ry⟩
theorem KV.length {kvs:List (κ×V)} {vs:List (κ×Value)} (r:KV kvs vs):kvs.length=vs.length:=Qcd r
end
theorem O1 {P:Program} {w:World} {k:Key} {u:Value} (r:RelV (kV k) u):(Bw P w).is k u=true:=by
 cases k with
 | inl i=>obtain⟨t,e⟩:=(show ∃t,u=Value.int i t from r);subst e;exact dF P w i t
 | inr x=>obtain⟨t,e⟩:=(show ∃t,u=Value.str x t from r);subst e;exact dD P w x t
theorem X7 {P:Program} {w:World}:∀{ks:List Key} {us:YE},Vals (ks.map kV) us->ItemsAre (Bw P w) ks us
 | [],_,r=>by rw[Qcv] at r;cases r;exact .nil
 | k::ks,_,r=>by
  rw[Qcf] at r;cases r with
  | cons h t=>exact .cons (O1 h) (X7 t)
abbrev YL:=List (List Key×V)
abbrev KT (H:Hp):YL->List (List Key×Addr×Value)->Prop:=Paired λp q=>p.1=q.1/\H q.2.1=some (.tup (p.1.map kV))/\RelV p.2 q.2.2
theorem KT.val {H:Hp} {kvs:YL} {xs:List (List Key×Addr×Value)} (r:KT H kvs xs) (k:List Key):Ht (CV kvs k) ((atKey xs k).map (·.2)):=by
 induction r with
 | nil=>exact True.intro
 | @cons p q ps qs h t ih=>
  obtain⟨h1,_,h2⟩:=h;by_cases e:p.1=k
  ·have e':q.1=k:=h1.symm.trans e;have b:atKey (q::qs) k=some q.2:=by simp[atKey,QbW,e']
   rw[Jo e,b];exact h2
  ·have e':¬q.1=k:=λz=>e (h1.trans z);have b:atKey (q::qs) k=atKey qs k:=by simp[atKey,QbW,e']
   rw[GR e,b];exact ih
theorem KT.repl {H:Hp} {kvs:YL} {xs:List (List Key×Addr×Value)} (r:KT H kvs xs) (k:List Key) {y:V} {u:Value} (ry:RelV y u) :
  KT H (kvs.map λkv=>if kv.1=k then (kv.1,y) else kv) (xs.map (putAt k u)):=by
 induction r with
 | nil=>exact .nil
 | @cons p q ps qs h t ih=>
  rw[Qcf,Qcf];refine .cons ?_ ih;obtain⟨h1,h2,h3⟩:=h;unfold putAt;by_cases e:p.1=k
  ·rw[if_pos e,if_pos (h1.symm.trans e)];exact⟨h1,h2,ry⟩
  ·rw[if_neg e,if_neg (λz=>e (h1.trans z))];exact⟨h1,h2,h3⟩
theorem KT.put {H:Hp} {kvs:YL} {xs:List (List Key×Addr×Value)} (r:KT H kvs xs) (k:List Key) {b:Addr} {y:V} {u:Value} (hb:H b=some (.tup (k.map kV))) (ry:RelV y u) :
  KT H (putK kvs k y) (storedH xs k b u):=by
 have e:(kvs.any λkv=>decide (kv.1=k))=(atKey xs k).isSome:=by
  rw[Kr,(r.val k).Mi,Option.isSome_map]
 unfold putK storedH;rw[e];by_cases q:(atKey xs k).isSome=true
 ·rw[if_pos q,if_pos q];exact r.repl k ry
 ·rw[if_neg q,if_neg q];exact Qcy r ⟨rq,hb,ry⟩
theorem KT.keeps {H H':Hp} {kvs:YL} {xs:List (List Key×Addr×Value)} (r:KT H kvs xs) (ht:∀b ys,H b=some (.tup ys)->H' b=some (.tup ys)):KT H' kvs xs:=
 Paired.Ax r λ_ _ z=>⟨z.1,ht _ _ z.2.1,z.2.2⟩
section
variable {P:Program} {w:World} {H:Hp} {h:Heap} {a:Addr}
theorem vM {u:HO} (ok:HOk P w H h) (e:Rd H a u):BK P w H h a u:=e.ok ok
abbrev YM:=List (Key×V)
theorem MP {kvs:YM} (ok:HOk P w H h) (e:Rd H a (.dK kvs)):kvs.length<=sizeLine/\(a == sysModules)=false/\∃vs,KV kvs vs/\h.DictOf (Bw P w) a vs:=
 show BK P w H h a (.dK kvs) from vM ok e
theorem v7 {kvs:YM} (ok:HOk P w H h) (e:H a=some (.dK kvs)):kvs.length<=sizeLine/\(a == sysModules)=false/\∃vs,KV kvs vs/\h.DictOf (Bw P w) a vs:=MP ok (.inl e)
theorem Ib {ks:List Key} (ok:HOk P w H h) (e:H a=some (.tup (ks.map kV))):(tupleKind (Bw P w)).is h ks a:=by
 obtain⟨_,its,r,o,h1,h2,n,h3⟩:=(show BK P w H h a (.tup (ks.map kV)) from ok a _ e)
 exact⟨o,its.toArray,n,h1,h2,h3,by simpa using X7 r⟩
theorem Pa {kvs:YL} (ok:HOk P w H h) (e:Rd H a (.dT kvs)):kvs.length<=sizeLine/\(a == sysModules)=false /\
  ∃xs,KT H kvs xs/\h.DictOfH (tupleKind (Bw P w)) a xs:=by
 obtain⟨z,y,xs,r,o,es,ep,h1,h2,h3,h4,h5⟩:=(show BK P w H h a (.dT kvs) from vM ok e)
 refine⟨z,y,xs,r,o,es,ep,h1,h2,h3,h4,λx hx=>?_,h5⟩;have all:∀{l:YL} {m:List (List Key×Addr×Value)},KT H l m->∀x∈m,(tupleKind (Bw P w)).is h x.1 x.2.1:=by
  intro l m q
  induction q with
  | nil=>intro x hx;exact nomatch hx
  | @cons p q ps qs hq t ih=>
   intro x hx;rcases Qce.mp hx with e | hx
   ·subst e;exact Ib ok (by rw[<-hq.1];exact hq.2.1)
   ·exact ih x hx
 exact all r x hx
theorem vY {kvs:YL} (ok:HOk P w H h) (e:H a=some (.dT kvs)):kvs.length<=sizeLine/\(a == sysModules)=false /\
  ∃xs,KT H kvs xs/\h.DictOfH (tupleKind (Bw P w)) a xs:=Pa ok (.inl e)
end
def Dj (H:Hp) (a:Addr) (y:V) (r:Option V):Prop:=
 (∃kvs k,Rd H a (.dK kvs)/\y=kV k/\r=CV kvs k)\/∃kvs k b,Rd H a (.dT kvs)/\y=.ref b/\H b=some (.tup (k.map kV))/\r=CV kvs k
def Ik (H:Hp) (a:Addr) (y v:V) (H':Hp):Prop:=
 (∃kvs k,H a=some (.dK kvs)/\y=kV k/\kvs.length < sizeLine/\H'=upd H a (.dK (putK kvs k v))) \/
 ∃kvs k b,H a=some (.dT kvs)/\y=.ref b/\H b=some (.tup (k.map kV))/\kvs.length < sizeLine/\H'=upd H a (.dT (putK kvs k v))
theorem Dj.k {H:Hp} {a:Addr} {kvs:YM} {k:Key} (e:H a=some (.dK kvs)):Dj H a (kV k) (CV kvs k):=.inl ⟨kvs,k,.inl e,rfl,rfl⟩
theorem Dj.t {H:Hp} {a b:Addr} {kvs:YL} {k:List Key} (e:H a=some (.dT kvs)) (eb:H b=some (.tup (k.map kV))):Dj H a (.ref b) (CV kvs k):=.inr ⟨kvs,k,b,.inl e,rfl,eb,rfl⟩
theorem Ik.k {H:Hp} {a:Addr} {kvs:YM} {k:Key} {v:V} (e:H a=some (.dK kvs)) (hl:kvs.length < sizeLine):Ik H a (kV k) v (upd H a (.dK (putK kvs k v))):=.inl ⟨kvs,k,e,rfl,hl,rfl⟩
theorem Ik.t {H:Hp} {a b:Addr} {kvs:YL} {k:List Key} {v:V} (e:H a=some (.dT kvs)) (eb:H b=some (.tup (k.map kV))) (hl:kvs.length < sizeLine) :
  Ik H a (.ref b) v (upd H a (.dT (putK kvs k v))):=.inr ⟨kvs,k,b,e,rq,eb,hl,rq⟩
section
variable {X:Cx} {jb:YC} {U : St} {H:Hp} {s:Shared} {a:Addr} {y v:V} {u r:Value} {o:Option V} {A:Around} {E:YA}
theorem Inv.big (I:Inv X jb U H s):sysModules < s.heap.objs.size:=by
 have h:mainGlobals < s.heap.objs.size:=(I.mod.glob.keeps I.bk).lt;exact Nat.lt_trans (by decide) h
theorem pU {Q:YA} (hu:A.units+1 < cLine) (I:Inv X jb U H s) (g:Dj H a y (some v)) (ry:RelV y u) (h:∀w' s',Inv X jb U H s'->RelV v w'->Q w' s') :
  wpAny (model X.prog X.w) A (getItem (.ref a) u) Q E s:=by
 rcases g with⟨kvs,k,e,ey,l⟩|⟨kvs,k,b,e,ey,eb,l⟩
 ·subst ey;obtain⟨z,hd,vs,rel,dd⟩:=MP I.hok e;obtain⟨w',hw,rw'⟩:=Ht.some_of (v:=v) (o:=valueAt vs k) (by rw[l];exact rel.val k);exact wpAny_getItem_of (O1 ry) dd.mapOf hw (h w' _ (I.tok _) rw')
 ·subst ey;cases (show u=Value.ref b from ry)
  obtain⟨z,hd,xs,rel,dd⟩:=Pa I.hok e;obtain⟨w',hw,rw'⟩:=Ht.some_of (v:=v) (o:=(atKey xs k).map (·.2)) (by rw[l];exact rel.val k);obtain⟨p,hp,hp2⟩:=QaA.mp hw;refine wpAny_getItem_heap (Qbg hu) (Ib I.hok eb) dd hp ?_;rw[hp2];exact h w' _ (I.tok _) rw'
theorem KK {Q:YA} (hu:A.units+1 < cLine) (I:Inv X jb U H s) (g:Dj H a y o) (ry:RelV y u) (h:∀s',Inv X jb U H s'->Q (.bool o.isSome) s') :
  wpAny (model X.prog X.w) A (compareOp .In u (.ref a)) Q E s:=by
 rcases g with⟨kvs,k,e,ey,l⟩|⟨kvs,k,b,e,ey,eb,l⟩
 ·subst ey;obtain⟨z,hd,vs,rel,dd⟩:=MP I.hok e;refine wpAny_in_of (O1 ry) hd dd.mapOf ?_;rw[<-(rel.val k).Mi,<-l];exact h _ (I.tok _)
 ·subst ey;cases (show u=Value.ref b from ry)
  obtain⟨z,hd,xs,rel,dd⟩:=Pa I.hok e;refine wpAny_in_heap (Qbg hu) (Ib I.hok eb) hd dd ?_;have q:=(rel.val k).Mi;rw[Option.isSome_map] at q;rw[<-q,<-l];exact h _ (I.tok _)
theorem yw {Q:YA} (hu:A.units+1 < cLine) (I:Inv X jb U H s) (g:Dj H a y o) (ry:RelV y u) (h:∀s',Inv X jb U H s'->Q (.bool (!o.isSome)) s') :
  wpAny (model X.prog X.w) A (compareOp .NotIn u (.ref a)) Q E s:=by
 rcases g with⟨kvs,k,e,ey,l⟩|⟨kvs,k,b,e,ey,eb,l⟩
 ·subst ey;obtain⟨z,hd,vs,rel,dd⟩:=MP I.hok e;refine wpAny_notIn_of (O1 ry) hd dd.mapOf ?_;rw[<-(rel.val k).Mi,<-l];exact h _ (I.tok _)
 ·subst ey;cases (show u=Value.ref b from ry)
  obtain⟨z,hd,xs,rel,dd⟩:=Pa I.hok e;refine wpAny_notIn_heap (Qbg hu) (Ib I.hok eb) hd dd ?_;have q:=(rel.val k).Mi;rw[Option.isSome_map] at q;rw[<-q,<-l];exact h _ (I.tok _)
theorem Qo {h':Heap} {t':Nat} {ob:HO} (I:Inv X jb U H s) (mu:Mut (H a)) (hs:Heap.SameBut a s.heap h') (he:∃q,h'.get? a=some q) (new:BK X.prog X.w (upd H a ob) h' a ob) :
  Inv X jb U (upd H a ob) { s with heap:=h',toks:=t' }:=
 I.write (x:=a) (e:=a) mu (.inl rfl) (λb q hb z=>(hs.2 b hb).trans z) he new
theorem pO {P:Program} {w:World} {H':Hp} {h':Heap} {kvs:YM} {vs:List (Key×Value)} (z:kvs.length<=sizeLine) (hd:(a == sysModules)=false) (rel:KV kvs vs) (dd:h'.DictOf (Bw P w) a vs) :
  BK P w H' h' a (.dK kvs):=⟨z,hd,vs,rel,dd⟩
theorem pR {H':Hp} {Q:YH} (hu:A.units+1 < cLine) (I:Inv X jb U H s) (g:Ik H a y v H') (ry:RelV y u) (rv:RelV v r) (h:∀s',Inv X jb U H' s'->Q () s') :
  wpAny (model X.prog X.w) A (setItem (.ref a) u r) Q E s:=by
 rcases g with⟨kvs,k,e,ey,l,eH⟩|⟨kvs,k,b,e,ey,eb,l,eH⟩
 ·subst ey eH;obtain⟨z,hd,vs,rel,dd⟩:=v7 I.hok e;have hz:vs.length<=sizeLine:=by rw[<-rel.length];exact z
  have hl:(putK kvs k v).length<=sizeLine:=by have:=Ld kvs k v;omega
  refine wpAny_setItem_pairs (hsz:=hz) (O1 ry) dd λh' dd' hs=>h _ ?_;have he:∃q,h'.get? a=some q:=let ⟨q,_,_,hq,_⟩:=dd';⟨q,hq⟩;exact Qo I (by rw[e];exact True.intro) hs he (pO hl hd (rel.put k rv) dd')
 ·subst ey eH;cases (show u=Value.ref b from ry)
  obtain⟨z,hd,xs,rel,dd⟩:=vY I.hok e;have hz:xs.length<=sizeLine:=by rw[<-Qcd rel];exact z
  have hl:(putK kvs k v).length<=sizeLine:=by have:=Ld kvs k v;omega
  refine wpAny_setItem_heap (hsz:=hz) (Qbg hu) (Ib I.hok eb) dd λh' dd' hs=>h _ ?_;obtain⟨q,es,ep,hq,h2,h3,h4,_,h5⟩:=dd';refine Qo I (by rw[e];exact True.intro) hs ⟨q,hq⟩ ⟨hl,hd,_,(rel.put k eb rv).keeps λc ys ec=>?_,q,es,ep,hq,h2,h3,h4,h5⟩;rw[Ao (jJ ec e (λz=>nomatch z))];exact ec
end
section
variable {X:Cx} {jb:YC} {U : St} {H:Hp} {s:Shared} {a:Addr} {kvs:YM} {k:Key} {u:Value} {A:Around} {E:YA}
theorem C9 {Q:YA} (I:Inv X jb U H s) (e:Rd H a (.dK kvs)) (h:∀t s',Inv X jb U H s'->Q (.int kvs.length t) s'):wpAny (model X.prog X.w) A (call (.builtin "len") [.ref a]) Q E s:=by
 obtain⟨z,hd,vs,rel,dd⟩:=MP I.hok e;refine call_len_dict hd dd (by rw[<-rel.length];rw[QcA] at z;omega) ?_;rw[<-rel.length];exact h _ _ (I.tok _)
end
def BS (i:Expr):Prop:=∀ov iv,subscripted i false ov iv=operate [ov,iv] (getItem ov iv)
theorem wG {prog:Program} {w:World} {A:Around} {E:YA} {s:Shared} {env:Env} {value slice:Expr} {pos:Pos} {T id:String} {Q:YA}
  (hl:typeLookup (.type T) "__getitem__"=pure (some (.builtin id))) (hs:BS slice)
  (h:wpAny (model prog w) A (eval value env) (λo s₁=>wpAny (model prog w) A (eval slice env) (λi s₂=>s₂.TypeIs o T/\wpAny (model prog w) A (getItem o i) Q E s₂) E s₁) E s) :
  wpAny (model prog w) A (eval (.Subscript value slice pos) env) Q E s:=by
 refine Subscript_ (QcD h (λo s₁ h₁=>QcD h₁ (λi s₂ h₂=>?_) λ_ _ x=>x) λ_ _ x=>x);obtain⟨hT,h₂⟩:=h₂;unfold subscriptTail;refine QcB ?_;rw[getitemInPython_of_ne hT.not_modules];refine QcB (wpAny_specialOf hT hl ?_);have fin:wpAny (model prog w) A (subscripted slice false o i) (λr s₃=>wpAny (model prog w) A (letTemporaryGo value o r >>= λ_=>pure r) Q E s₃) E s₂:=by
  rw[hs o i];exact wpAny_operating (QcD h₂ (λr s₃ h₃=>QcB (wpAny_letTemporaryGo (QcC h₃))) λ_ _ x=>x)
 first
  | exact QcC (QcB fin)
  | exact QcB (QcC (QcB fin))
  | exact QcB fin
theorem dU {X:Cx} {jb:YC} {U : St} {H:Hp} {s:Shared} {a:Addr} {y:V} {o:Option V} (I:Inv X jb U H s) (g:Dj H a y o):s.TypeIs (.ref a) "dict":=by
 rcases g with⟨kvs,k,e,_,_⟩|⟨kvs,k,b,e,_,_,_⟩
 ·obtain⟨_,_,vs,_,dd⟩:=MP I.hok e;exact dd.typeIs
 ·obtain⟨_,_,xs,_,dd⟩:=Pa I.hok e;exact dd.typeIs
def B4 (td ty:TE):TE:=fun U H Q=>td U H λx H1=>ty U H1 λy H2=>∃a v,x=.ref a/\Dj H2 a y (some v)/\Q v H2
def DO (ty td:TE):TE:=fun U H Q=>ty U H λy H1=>td U H1 λx H2=>∃a o,x=.ref a/\Dj H2 a y o/\Q (.bl o.isSome) H2
def wF (ty td:TE):TE:=fun U H Q=>ty U H λy H1=>td U H1 λx H2=>∃a o,x=.ref a/\Dj H2 a y o/\Q (.bl (!o.isSome)) H2
def B8 (td ty tv:TE):TS:=λD U H=>tv U H λv H1=>td U H1 λx H2=>ty U H2 λy H3=>∃a H4,x=.ref a/\Ik H3 a y v H4/\D.nx U H4
section
variable {X:Cx} {o i e value:Expr} {pos pos' tpos:Pos} {td ty tv:TE}
theorem Qf (hu:X.A.units+1 < cLine) (ho:PE X o td) (hi:PE X i ty) (hs:BS i):PE X (.Subscript o i pos) (B4 td ty):=by
 intro jb s U H Q I h;refine wG PySem.F.slot_dict_getitem.lookup hs (thn (ho jb s U H _ I h) λu s1 zz=>?_);obtain⟨x,H1,I1,rx,q1⟩:=zz;refine thn (hi jb s1 U H1 _ I1 q1) λiv s2 zz=>?_;obtain⟨y,H2,I2,ry,a,v,ex,g,q2⟩:=zz;subst ex;obtain rfl:u=Value.ref a:=rx;exact⟨dU I2 g,pU hu I2 g ry λw' s3 I3 rw'=>⟨v,H2,I3,rw',q2⟩⟩
theorem RL (hu:X.A.units+1 < cLine) (hi:PE X i ty) (ho:PE X o td):PC X .In i o (DO ty td):=by
 intro jb s U H Q I h;refine thn (hi jb s U H _ I h) λiv s1 zz=>?_;obtain⟨y,H1,I1,ry,q1⟩:=zz;refine thn (ho jb s1 U H1 _ I1 q1) λu s2 zz=>?_;obtain⟨x,H2,I2,rx,a,ov,ex,g,q2⟩:=zz;subst ex;obtain rfl:u=Value.ref a:=rx;exact KK hu I2 g ry λs3 I3=>⟨.bl ov.isSome,H2,I3,rq,q2⟩
theorem Oz (hu:X.A.units+1 < cLine) (hi:PE X i ty) (ho:PE X o td):PC X .NotIn i o (wF ty td):=by
 intro jb s U H Q I h;refine thn (hi jb s U H _ I h) λiv s1 zz=>?_;obtain⟨y,H1,I1,ry,q1⟩:=zz;refine thn (ho jb s1 U H1 _ I1 q1) λu s2 zz=>?_;obtain⟨x,H2,I2,rx,a,ov,ex,g,q2⟩:=zz;subst ex;obtain rfl:u=Value.ref a:=rx;exact yw hu I2 g ry λs3 I3=>⟨.bl (!ov.isSome),H2,I3,rq,q2⟩
theorem FT (hu:X.A.units+1 < cLine) (ho:PE X o td) (hi:PE X i ty) (hv:PE X value tv) (hs:swapsWith value (some (.Subscript o i pos')) pos.line X.env=pure false) :
  PS X (.Assign [.Subscript o i pos'] value pos) (B8 td ty tv):=by
 intro jb s U H D I h;refine wpAny_Assign_Subscript (thn (hv jb s U H _ I h) λr s1 zz=>?_) hs;obtain⟨v,H1,I1,rv,q1⟩:=zz;refine thn (ho jb s1 U H1 _ I1 q1) λu s2 zz=>?_;obtain⟨x,H2,I2,rx,q2⟩:=zz;refine thn (hi jb s2 U H2 _ I2 q2) λiv s3 zz=>?_;obtain⟨y,H3,I3,ry,a,H4,ex,g,q3⟩:=zz;subst ex;obtain rfl:u=Value.ref a:=rx;exact pR hu I3 g ry rv λs4 I4=>⟨U,H4,I4,q3⟩
end
theorem cB {P:Program} {w:World} {H:Hp} (h:Heap) (hb:sysModules < h.objs.size):BK P w H (h.push { cls:=.type "dict",data:=.dict #[] }) h.objs.size (.dK []):=
 ⟨Qcx _,QaN.mpr (Ne.symm (Qcp hb)),[],.nil,Heap.DictOf.new h⟩
theorem cA {P:Program} {w:World} {H:Hp} (h:Heap) (hb:sysModules < h.objs.size):BK P w H (h.push { cls:=.type "dict",data:=.dict #[] }) h.objs.size (.dT []):=
 ⟨Qcx _,QaN.mpr (Ne.symm (Qcp hb)),[],.nil,_,#[],0,QaM _ rfl,⟨rq,rq,rq⟩,rq,rq,Qca⟩
def zj:TE:=λ_ H Q=>∀p,H p=none->Q (.ref p) (upd H p (.dK []))
def zf:TE:=λ_ H Q=>∀p,H p=none->Q (.ref p) (upd H p (.dT []))
section
variable {X:Cx} {pos:Pos}
theorem aM:PE X (.Dict [] [] pos) zj:=λjb s U H Q I h=>
 wpAny_Dict_empty ⟨.ref s.heap.objs.size,_,I.laid (a:=s.heap.objs.size) (o:=.dK []) (t':=s.toks) (λ_ _ q=>Qax _ q) (Qcw _) (cB s.heap I.big),rq,h _ (I.hok.fresh (Qcw _))⟩
theorem rK:PE X (.Dict [] [] pos) zf:=λjb s U H Q I h=>
 wpAny_Dict_empty ⟨.ref s.heap.objs.size,_,I.laid (a:=s.heap.objs.size) (o:=.dT []) (t':=s.toks) (λ_ _ q=>Qax _ q) (Qcw _) (cA s.heap I.big),rq,h _ (I.hok.fresh (Qcw _))⟩
end
structure M1 (X:Cx) (o:Expr) (m:Str) (apos:Pos) (e:Expr) (cpos:Pos):Prop where
 base:attributeBase o m X.env (eval o X.env)=eval o X.env
 few:((backTo cpos (starEach [e] X.env)).all (λx=>!x.1)&&(backToKw cpos (keywordEach [] X.env)).all (λx=>x.1.isSome)
 &&decide (([e]:YJ).length+([]:List Keyword).length+(if ([]:List Keyword).isEmpty then 0 else 1) < 30))=true
 line:(apos.endLine == cpos.line)=true
 trees:backTo cpos (starEach [e] X.env)=[(false,eval e X.env)]
structure M2 (X:Cx) (o:Expr) (m:Str) (apos:Pos) (e f:Expr) (cpos:Pos):Prop where
 base:attributeBase o m X.env (eval o X.env)=eval o X.env
 few:((backTo cpos (starEach [e,f] X.env)).all (λx=>!x.1)&&(backToKw cpos (keywordEach [] X.env)).all (λx=>x.1.isSome)
 &&decide (([e,f]:YJ).length+([]:List Keyword).length+(if ([]:List Keyword).isEmpty then 0 else 1) < 30))=true
 line:(apos.endLine == cpos.line)=true
 trees:backTo cpos (starEach [e,f] X.env)=[(false,eval e X.env),(false,eval f X.env)]
def IsD (H:Hp) (a:Addr):Prop:=(∃kvs,Rd H a (.dK kvs))\/∃kvs,Rd H a (.dT kvs)
theorem RV {X:Cx} {jb:YC} {U : St} {H:Hp} {s:Shared} {a:Addr} (I:Inv X jb U H s) (d:IsD H a) :
  s.TypeIs (.ref a) "dict"/\(∀b,Value.ref a=.ref b->∃ob,s.heap.get? b=some ob/\ob.dict=none)/\(a == sysModules)=false:=by
 rcases d with⟨kvs,e⟩|⟨kvs,e⟩
 ·obtain⟨_,hd,vs,_,dd⟩:=MP I.hok e;refine⟨dd.typeIs,λb q=>?_,hd⟩;cases q;obtain⟨ob,_,_,h1,h2,_⟩:=dd;exact⟨ob,h1,h2.2.1⟩
 ·obtain⟨_,hd,xs,_,dd⟩:=Pa I.hok e;refine⟨dd.typeIs,λb q=>?_,hd⟩;cases q;obtain⟨ob,_,_,h1,h2,_⟩:=dd;exact⟨ob,h1,h2.2.1⟩
section
variable {X:Cx} {jb:YC} {U : St} {H:Hp} {s:Shared} {a:Addr} {y d:V} {u r:Value} {o:Option V} {A:Around} {E:YA}
theorem BB {Q:YA} (hu:A.units+1 < cLine) (I:Inv X jb U H s) (g:Dj H a y o) (ry:RelV y u) (h:∀w' s',Inv X jb U H s'->RelV (o.getD .non) w'->Q w' s') :
  wpAny (model X.prog X.w) A (call (.builtin "dict.get") [.ref a,u]) Q E s:=by
 rcases g with⟨kvs,k,e,ey,l⟩|⟨kvs,k,b,e,ey,eb,l⟩
 ·subst ey;obtain⟨z,hd,vs,rel,dd⟩:=MP I.hok e;refine call_meetsIn QaH dd.typeIs PySem.F.entry_dict_get (PySem.F.args_dict_get_2 _ _) (meets_dict_get (Bw X.prog X.w) a (O1 ry) hd) ⟨_,dd.mapOf,h _ _ (I.tok _) ?_⟩;rw[l];exact (rel.val k).getD rfl
 ·subst ey;cases (show u=Value.ref b from ry)
  obtain⟨z,hd,xs,rel,dd⟩:=Pa I.hok e;refine call_meetsIn QaH dd.typeIs PySem.F.entry_dict_get (PySem.F.args_dict_get_2 _ _) (meetsH_dict_get (tupleKind (Bw X.prog X.w)) a b hd) ⟨Qbg hu,k,xs,Ib I.hok eb,dd,h _ _ (I.tok _) ?_⟩;rw[l];exact (rel.val k).getD rfl
theorem BA {Q:YA} (hu:A.units+1 < cLine) (I:Inv X jb U H s) (g:Dj H a y o) (ry:RelV y u) (rd:RelV d r) (h:∀w' s',Inv X jb U H s'->RelV (o.getD d) w'->Q w' s') :
  wpAny (model X.prog X.w) A (call (.builtin "dict.get") [.ref a,u,r]) Q E s:=by
 rcases g with⟨kvs,k,e,ey,l⟩|⟨kvs,k,b,e,ey,eb,l⟩
 ·subst ey;obtain⟨z,hd,vs,rel,dd⟩:=MP I.hok e;refine call_meetsIn QaH dd.typeIs PySem.F.entry_dict_get (PySem.F.args_dict_get_3 _ _ _) (meets_dict_get_default (Bw X.prog X.w) a (O1 ry) hd r) ⟨_,dd.mapOf,h _ _ (I.tok _) ?_⟩;rw[l];exact (rel.val k).getD rd
 ·subst ey;cases (show u=Value.ref b from ry)
  obtain⟨z,hd,xs,rel,dd⟩:=Pa I.hok e;refine call_meetsIn QaH dd.typeIs PySem.F.entry_dict_get (PySem.F.args_dict_get_3 _ _ _) (meetsH_dict_get_default (tupleKind (Bw X.prog X.w)) a b hd r) ⟨Qbg hu,k,xs,Ib I.hok eb,dd,h _ _ (I.tok _) ?_⟩;rw[l];exact (rel.val k).getD rd
end
def zq (td ty:TE):TE:=fun U H Q=>td U H λx H1=>∃a,x=.ref a/\IsD H1 a/\ty U H1 λy H2=>∃o,Dj H2 a y o/\Q (o.getD .non) H2
def zm (td ty tx:TE):TE:=fun U H Q=>td U H λx H1=>∃a,x=.ref a/\IsD H1 a/\ty U H1 λy H2=>tx U H2 λz H3=>∃o,Dj H3 a y o/\Q (o.getD z) H3
section
variable {X:Cx} {o e f:Expr} {apos cpos:Pos} {td ty tx:TE}
theorem rM (hu:X.A.units+1 < cLine) (ho:PE X o td) (he:PE X e ty) (m:M1 X o "get" apos e cpos):PE X (.Call (.Attribute o "get" apos) [e] [] cpos) (zq td ty):=by
 intro jb s U H Q I h;refine wpAny_Call_method m.base m.few m.line PySem.F.plainAttrs_dict QaH PySem.F.type_dict_get (thn (ho jb s U H _ I h) λu s1 zz=>?_);obtain⟨x,H1,I1,rx,a,ex,d,q1⟩:=zz;subst ex;obtain rfl:u=Value.ref a:=rx;obtain⟨t1,t2,_⟩:=RV I1 d;refine⟨t1,t2,?_⟩;rw[m.trees];refine QaC rfl (Calls.evalArgs_plain (Qbi (thn (he jb s1 U H1 _ I1 q1) λiv s2 zz=>?_)));obtain⟨y,H2,I2,ry,ov,g,q2⟩:=zz;refine Calls.spliced_nil ?_;exact BB hu I2 g ry λw' s3 I3 rw'=>⟨_,H2,I3,rw',q2⟩
theorem N5 (hu:X.A.units+1 < cLine) (ho:PE X o td) (he:PE X e ty) (hf:PE X f tx) (m:M2 X o "get" apos e f cpos):PE X (.Call (.Attribute o "get" apos) [e,f] [] cpos) (zm td ty tx):=by
 intro jb s U H Q I h;refine wpAny_Call_method m.base m.few m.line PySem.F.plainAttrs_dict QaH PySem.F.type_dict_get (thn (ho jb s U H _ I h) λu s1 zz=>?_);obtain⟨x,H1,I1,rx,a,ex,d,q1⟩:=zz;subst ex;obtain rfl:u=Value.ref a:=rx;obtain⟨t1,t2,_⟩:=RV I1 d;refine⟨t1,t2,?_⟩;rw[m.trees];refine QaC rfl (Calls.evalArgs_plain (Qbi (thn (he jb s1 U H1 _ I1 q1) λiv s2 ⟨y,H2,I2,ry,q2⟩=>
  Qbi (thn (hf jb s2 U H2 _ I2 q2) λfv s3 ⟨z,H3,I3,rz,ov,g,q3⟩=>Calls.spliced_nil ?_))))
 exact BA hu I3 g ry rz λw' s4 I4 rw'=>⟨_,H3,I4,rw',q3⟩
end
section
variable {X:Cx} {jb:YC} {U : St} {H:Hp} {s:Shared} {a:Addr} {kvs:YM} {A:Around} {E:YA}
end
section
variable {X:Cx} {jb:YC} {U : St} {H:Hp} {s:Shared} {a:Addr} {y:V} {u:Value} {A:Around} {E:YA}
end
section
variable {X:Cx}
theorem qb:DQ X (.builtin "len") (λxs H Q=>∃a kvs,xs=[V.ref a]/\H a=some (.dK kvs)/\Q (.int kvs.length) H):=by
 intro jb s U H xs us Q I r h;obtain⟨a,kvs,rfl,ha,q⟩:=h;obtain⟨u,rfl,ru⟩:=vals1 r;cases ru;exact C9 I (.inl ha) λt s' I'=>⟨.int kvs.length,H,I',⟨t,rq⟩,q⟩
end
section
variable {κ : Type} [DecidableEq κ]
theorem gK:∀{l:List κ} {k:κ},l.Nodup->¬k∈l->(l++[k]).Nodup
 | [],k,_,_=>by simp
 | a::r,k,h,hk=>by
  obtain⟨h1,h2⟩:=QbP.mp h;show (a::(r++[k])).Nodup;refine QbP.mpr ⟨λm=>?_,gK h2 λm=>hk (Qce.mpr (Or.inr m))⟩;rcases QbJ.mp m with q | q
  ·exact h1 q
  ·exact hk (Qce.mpr (Or.inl (Qbb.mp q).symm))
end
theorem Wd {prog:Program} {w:World} {A:Around} {R:Result->Shared->Prop} {s:Shared} {kx vx target iter:Expr} {ifs:YJ} {scope:Scope} {pos:Pos} {it:Value} {D:Addr} {env:Env} (J:Nat->Shared->Prop)
  (turn:∀n s,J n s->wpAny (model prog w) A (pyNext it) (λr s1=>match r with
   | none=>R (.ok .next) s1
   | some v=>wpAny (model prog w) A (letOwnedTupleGo target it v) (λ_ s2=>wpAny (model prog w) A (assign target env v) (λ_ s3=>
     wpAny (model prog w) A (forIn ifs true λc r=>if r=true then do let ok <-isTrue c env (eval c env);pure (ForInStep.yield ok) else pure (ForInStep.yield r)) (λok s4=>
      if ok=true then wpAny (model prog w) A (eval kx env) (λkv s5=>wpAny (model prog w) A (eval vx env) (λvv s6=>wpAny (model prog w) A (dictSet D kv vv) (λ_ s7=>∃m,m < n/\J m s7) (λ_ _=>False) s6) (λ_ _=>False) s5) (λ_ _=>False) s4
      else ∃m,m < n/\J m s4) (λ_ _=>False) s3) (λ_ _=>False) s2) (λ_ _=>False) s1) (λ_ _=>False) s)
  (n:Nat) (h:J n s):codeAny (model prog w) A (.compLoop (.DictComp kx vx [⟨target,iter,ifs,0⟩] scope pos) 0 it (.ref D) env) R s:=by
 refine codeAny_loop rfl J (λk s' hk=>?_) n h;show wpAny _ A (Sem.onRaise (compTurn (.DictComp kx vx [⟨target,iter,ifs,0⟩] scope pos) 0 it (.ref D) env) (λx=>do noteFrame x env;theTreesLotGoes x)) _ _ s'
 refine wpAny_noted ?_;rw[compTurn_dict];refine QcB (Qck (QcB (QcD (turn k s' hk) (λr s1 q1=>?_) λ_ _ f=>f.elim)));cases r with
 | none=>exact QcC q1
 | some v=>
  refine QcB (QcD q1 (λ_ s2 q2=>QcB (QcD q2 (λ_ s3 q3=>QcB (QcD q3 (λok s4 q4=>?_) λ_ _ f=>f.elim)) λ_ _ f=>f.elim)) λ_ _ f=>f.elim);cases ok with
  | false=>exact QcC ⟨rfl,q4⟩
  | true=>exact QcB (QcB (QcD q4 (λkv s5 q5=>QcB (Qch (QcD q5 (λvv s6 q6=>QcB (Qck (Qch (QcD q6 (λ_ s7 q7=>QcC ⟨rfl,q7⟩) λ_ _ f=>f.elim)))) λ_ _ f=>f.elim))) λ_ _ f=>f.elim))
theorem pW {X:Cx} {jb:YC} {U : St} {H:Hp} {s:Shared} {A:Around} {E:YA} {a:Addr} {kvs:YM} {k:Key} {v:V} {u r:Value} {Q:YH} (I:Inv X jb U H s) (e:H a=some (.dK kvs)) (l:kvs.length < sizeLine) (ry:RelV (kV k) u) (rv:RelV v r)
  (h:∀s',Inv X jb U (upd H a (.dK (putK kvs k v))) s'->Q () s'):wpAny (model X.prog X.w) A (dictSet a u r) Q E s:=by
 obtain⟨z,hd,vs,rel,dd⟩:=v7 I.hok e;have hz:vs.length<=sizeLine:=by rw[<-rel.length];exact z
 have hl:(putK kvs k v).length<=sizeLine:=by have:=Ld kvs k v;omega
 refine wpAny_dictSet_pairs (hsz:=hz) (O1 ry) dd λh' dd' hs=>h _ ?_;have he:∃q,h'.get? a=some q:=let ⟨q,_,_,hq,_⟩:=dd';⟨q,hq⟩;exact Qo I (by rw[e];exact True.intro) hs he (pO hl hd (rel.put k rv) dd')
@[irreducible] def Ud (J:It) (g:TG) (tt:TT) (tk tv:TE) (Q:VK) (σ0:St) (H0:Hp) (l:Addr):Prop:=∃W:Nat->YN,(∃m,W 0 m σ0 H0) /\
 ∀i m σ' H',W i m σ' H'->(J.stop i H'/\Q (.ref l) H')\/(J.go i H'/\∃N:YO,(∀ σ3 H3,N σ3 H3->∃m',m' < m/\W (i+1) m' σ3 H3)/\∀x H2,J.yld i H' x H2->g x σ' H2 fun σ3 H3=>tt σ3 H3 λb H4=>
  if b=true then tk σ3 H4 λy H5=>tv σ3 H5 λz H6=>∃(kvs:YM) (k:Key),H6 l=some (.dK kvs)/\y=kV k/\kvs.length < sizeLine/\N σ3 (upd H6 l (.dK (putK kvs k z))) else N σ3 H4)
def Zg (wi:TI) (src:List (Option Nat)) (g:TG) (tt:TT) (tk tv:TE):TE:=fun U H Q=>wi U H λJ H1=>∀l,H1 l=none->Ud J g tt tk tv Q (JN src U) (upd H1 l (.dK [])) l
theorem Wf {X:Cx} {N':YF} {src:List (Option Nat)} {sc:Scope} {kx vx tg iter:Expr} {ifs:YJ} {pos pos':Pos} {wi:TI} {g:TG} {tt:TT} {tk tv:TE} {use:Option (Value->Sem Unit)} {R:YA} (hc:X.calm=true) (S:Bo X N' src sc)
  (hi:PI X tg iter wi) (hg:∀s3 H3 fp pn,PG (cxC X N' sc s3 H3 fp pn) tg g) (ht:∀s3 H3 fp pn,PF (cxC X N' sc s3 H3 fp pn) ifs tt) (hk:∀s3 H3 fp pn,PE (cxC X N' sc s3 H3 fp pn) kx tk) (hv:∀s3 H3 fp pn,PE (cxC X N' sc s3 H3 fp pn) vx tv)
  (hs:∀x,foldedSetIterable iter X.env x=pure x) {jb:YC} {s:Shared} {U : St} {H:Hp} {Q:VK} (I:Inv X jb U H s) (h:Zg wi src g tt tk tv U H Q)
  (fin:∀s3 H3 fp σ4 H4 s5 l,Inv X jb U H3 s3->(∀b∈fp,GK X jb H3 b)->Inv (cxC X N' sc s3 H3 fp (X.pn++jb)) [] σ4 H4 s5->Q (.ref l) H4 ->
   compPost (model X.prog X.w) X.A X.xe use R (.ref l) s3.heap.objs.size (.ok .next) s5) :
  wpAny (model X.prog X.w) X.A (comprehension (.DictComp kx vx [⟨tg,iter,ifs,0⟩] sc pos) sc X.env pos' newDict false (eval iter X.env) use) R X.xe s:=by
 refine wpAny_comprehension_free (use:=use) (cl:=Fe X.env sc.names []) rfl hs (Q0 λp hp e=>I.ok.has p.1 (S.fv p hp e)) S.kind S.loc ?_;refine thn (hi jb s U H _ I h) λv s1 h1=>thn h1 λitv s2 h2=>?_;obtain⟨it,fp,tn,J,H2,rfl,I2,T,st2,f2,q⟩:=h2;have q':=q s2.heap.objs.size (I2.hok.fresh (Qcw _));unfold Ud at q';obtain⟨W,⟨m0,w0⟩,turn⟩:=q';refine Qbq (wpAny_newFunctionEnv S.Jd (by intro y hy;simp at hy) (λha hns hsb=>?_) S.kind);have I3:Inv X jb U (upd H2 s2.heap.objs.size (.dK [])) { s2 with heap:=s2.heap.push { cls:=.type "dict",data:=.dict #[] } }:=
  I2.laid (t':=s2.toks) (λb u e=>Qax _ e) (Qcw _) (cB s2.heap I2.big)
 have hfl:∀b∈fp,b < s2.heap.objs.size:=λb hb=>by
  obtain⟨o,e,_⟩:=T.obj 0 _ st2 b hb;exact Qco e
 have f3:∀b∈fp,GK X jb (upd H2 s2.heap.objs.size (.dK [])) b:=λb hb=>⟨by rw[Ao (Qcp (hfl b hb))];exact (f2 b hb).1,(f2 b hb).2⟩;generalize hs3:({ s2 with heap:=s2.heap.push { cls:=.type "dict",data:=.dict #[] } }:Shared)=s3 at *;have hsz:s2.heap.objs.size < s3.heap.objs.size:=by rw[<-hs3];show s2.heap.objs.size < (s2.heap.push _).objs.size;rw[QbZ];exact QbD _
 have kp:∀b o,s3.heap.get? b=some o->ha.get? b=some o:=λb o e=>hsb.extBut b o (Qcp (Qco e)) (Qax _ e);have st3:tn 0 ha:=T.keep 0 _ _ st2 λb hb o e=>kp b o (by rw[<-hs3];exact Qax _ e);have I4:Inv (cxC X N' sc s3 (upd H2 s2.heap.objs.size (.dK [])) fp (X.pn++jb)) [] (JN src U) (upd H2 s2.heap.objs.size (.dK [])) { s3 with heap:=ha,toks:=s3.toks+([]:List (Str×Value)).length }:=
  Vj S I3 f3 (λb hb=>Nat.lt_trans (hfl b hb) hsz) hns kp
 have loop:codeAny (model X.prog X.w) X.A (.compLoop (.DictComp kx vx [⟨tg,iter,ifs,0⟩] sc pos) 0 (.ref it) (.ref s2.heap.objs.size) (compEnvC sc (Fe X.env sc.names []) s3.heap.objs.size X.env))
   (compPost (model X.prog X.w) X.A X.xe use R (.ref s2.heap.objs.size) s3.heap.objs.size) { s3 with heap:=ha,toks:=s3.toks+([]:List (Str×Value)).length }:=by
  refine Wd (λn s'=>∃i σ' H',Inv (cxC X N' sc s3 (upd H2 s2.heap.objs.size (.dK [])) fp (X.pn++jb)) [] σ' H' s'/\tn i s'.heap/\(∀b∈fp,H' b=none)/\W i n σ' H') ?_ m0 ⟨0,_,_,I4,st3,λb hb=>(f3 b hb).1,w0⟩;rintro n s4 ⟨i,σ4,H4,J4,st4,fr4,w4⟩;have stat:∀{H':Hp},(∀b∈fp,H' b=none)->∀b∈fp,GK (cxC X N' sc s3 (upd H2 s2.heap.objs.size (.dK [])) fp (X.pn++jb)) [] H' b:=λhn b hb=>
   ⟨hn b hb,(I4.ok.exf b hb).1,I4.ok.Ss b hb,.inl hb,λx c e=>(I4.ok.exf b hb).2 x c e,λp hp=>(f3 b hb).2.2.2.2.2 p ((QbJ.mp hp).elim id λz=>by cases z)⟩
  rcases turn i n σ4 H4 w4 with⟨stop,qn⟩|⟨go,N,hN,step⟩
  ·refine thn (T.done (cxC X N' sc s3 (upd H2 s2.heap.objs.size (.dK [])) fp (X.pn++jb)) rfl rfl rfl hc i [] s4 σ4 H4 _ J4 (stat fr4) st4 stop) λr s5 zz=>?_;obtain⟨hr,J5⟩:=zz;subst hr;exact fin s3 _ fp σ4 H4 s5 _ I3 f3 J5 qn
  ·refine thn (T.item (cxC X N' sc s3 (upd H2 s2.heap.objs.size (.dK [])) fp (X.pn++jb)) rfl rfl rfl hc i [] s4 σ4 H4 _ J4 (stat fr4) st4 go) λr s5 zz=>?_;obtain⟨u,hr,h5⟩:=zz;subst hr;refine thn h5 λ_ s6 zz=>?_;obtain⟨x,H6,J6,r6,y6,st6,fr6⟩:=zz;have J6':=J6.pinned (stat fr6) (T.obj _ _ st6);have back:∀{pl:YC} {σ7:St} {H7:Hp} {s7:Shared},Inv (cxC X N' sc s3 (upd H2 s2.heap.objs.size (.dK [])) fp (X.pn++jb)) ([]++NQ fp s6.heap) σ7 H7 s7->N σ7 H7 ->
     ∃m',m' < n/\∃i σ' H',Inv (cxC X N' sc s3 (upd H2 s2.heap.objs.size (.dK [])) fp (X.pn++jb)) [] σ' H' s7/\tn i s7.heap/\(∀b∈fp,H' b=none)/\W i m' σ' H':=λ{pl σ7 H7 s7} J7 w7=>by
    obtain⟨m',hm,w7⟩:=hN _ _ w7;have pinned:∀b∈fp,∀o,s6.heap.get? b=some o->s7.heap.get? b=some o/\H7 b=none:=λb hb o e=>by
     have:=J7.pin (b,o) (QaE _ (QaE _ (Kg hb e)));exact⟨this.1,this.2.1⟩
    refine⟨m',hm,i+1,σ7,H7,J7.Hy,T.keep _ _ _ st6 λb hb o e=>(pinned b hb o e).1,λb hb=>?_,w7⟩;obtain⟨o,e,_⟩:=T.obj _ _ st6 b hb;exact (pinned b hb o e).2
   refine thn (hg s3 _ fp _ _ s6 σ4 H6 x u _ J6' r6 (step x H6 y6)) λ_ s7 zz=>?_;obtain⟨σ7,H7,J7,q7⟩:=zz;refine thn (ht s3 _ fp _ _ s7 σ7 H7 _ J7 q7) λok s8 zz=>?_;obtain⟨H8,J8,q8⟩:=zz;cases ok with
   | false=>
    rw[if_neg QaW] at q8 ⊢;exact back (pl:=[]) J8 q8
   | true=>
    rw[if_pos rfl] at q8 ⊢;refine thn (hk s3 _ fp _ _ s8 σ7 H8 _ J8 q8) λy s9 zz=>?_;obtain⟨yv,H9,J9,r9,q9⟩:=zz;refine thn (hv s3 _ fp _ _ s9 σ7 H9 _ J9 q9) λz s10 zz=>?_;obtain⟨zv,H10,J10,r10,kvs,k,hl,ey,hz,q10⟩:=zz;subst ey;refine pW (X:=cxC X N' sc s3 (upd H2 s2.heap.objs.size (.dK [])) fp (X.pn++jb)) J10 hl hz r9 r10 λs11 J11=>?_;exact back (pl:=[]) J11 q10
 exact codeAny_compStart_dict loop (T.self X.A 0 _ _ _ st3 loop)
theorem rN {X:Cx} {N':YF} {src:List (Option Nat)} {sc:Scope} {kx vx tg iter:Expr} {ifs:YJ} {pos:Pos} {wi:TI} {g:TG} {tt:TT} {tk tv:TE} (hc:X.calm=true) (S:Bo X N' src sc)
  (hi:PI X tg iter wi) (hg:∀s3 H3 fp pn,PG (cxC X N' sc s3 H3 fp pn) tg g) (ht:∀s3 H3 fp pn,PF (cxC X N' sc s3 H3 fp pn) ifs tt) (hk:∀s3 H3 fp pn,PE (cxC X N' sc s3 H3 fp pn) kx tk) (hv:∀s3 H3 fp pn,PE (cxC X N' sc s3 H3 fp pn) vx tv)
  (hs:∀x,foldedSetIterable iter X.env x=pure x:=by intro _;rfl):PE X (.DictComp kx vx [⟨tg,iter,ifs,0⟩] sc pos) (Zg wi src g tt tk tv):=by
 intro jb s U H Q I h;rw[arm_eval_DictComp];refine Wf (use:=none) hc S hi hg ht hk hv hs I h λs3 H3 fp σ4 H4 s5 l I3 f3 J5 q=>?_;obtain⟨m,hn,_⟩:=J5.loc;exact⟨m,hn,λh' sb=>⟨.ref l,H4,Sw I3 f3 J5 sb,rq,q⟩⟩
end L2
namespace PySem
open Sem (wp)
section
variable {prog:Program} {w:World} {A:Around} {E:YA} {s:Shared}
theorem OJ {it l:Addr} {i:Nat} {items:Array Value} {x:Value} {Q:YA} (hit:s.heap.IsTupleIter it l i) (hl:s.heap.IsTuple l items) (hx:items[i]?=some x)
  (hQ:∀h',h'.IsTupleIter it l (i+1)->Heap.SameBut it s.heap h'->Q x { s with heap:=h' }):wpAny (model prog w) A (Builtin.SmallTypes.nextOf (.ref it)) Q E s:=by
 obtain⟨o,ho,hc,hd⟩:=id hit;obtain⟨ol,hol,_,nl,hdl⟩:=hl;unfold Builtin.SmallTypes.nextOf;refine QcB (Qas (name:=Str.ofString "__next__") hit.typeIs Qaa (QbB Qaa hit.typeIs PyProof.Rows.entry_tupleiter_next ?_ (PyProof.Rows.args_tupleiter_next _)));show wpAny _ _ (field (.ref it) 0 >>= _) _ _ s;refine QcB (Qcz ho hd (x:=.ref l) rfl ?_);show wpAny _ _ (if (Value.ref l == Value.none)=true then _ else _) _ _ s
 rw[if_neg (show ¬((Value.ref l == Value.none)=true) from QaW)]
 show wpAny _ _ (field (.ref it) 1 >>= _) _ _ s;refine QcB (Qcz ho hd (x:=.int i 0) rfl ?_);show wpAny _ _ (seqItems? (.ref l) >>= _) _ _ s;refine QcB (Qcc hol hdl ?_);simp only[Qbo,hx];refine QcB (wpAny_setField ho hd (by simp) (QcC ⟨x,rq,QcC (hQ _ ?_ (QaR ..))⟩));exact⟨_,QaG _ ho (Obj.isFreed_of_fields (Obj.data_mapFields hd _)),(Obj.cls_mapFields ..).trans hc,by rw[Obj.data_mapFields hd];simp[rawInt]⟩
theorem KJ {it l:Addr} {i:Nat} {items:Array Value} {Q:YA} (hh:A.handled=none) (hit:s.heap.IsTupleIter it l i) (hl:s.heap.IsTuple l items) (hx:items[i]?=none)
  (hE:∀h' e,Heap.ExtBut it s.heap h'->(∃o,h'.get? e=some o/\o.cls=.type "StopIteration")->E (.ref e) { s with heap:=h' }):wpAny (model prog w) A (Builtin.SmallTypes.nextOf (.ref it)) Q E s:=by
 obtain⟨o,ho,hc,hd⟩:=id hit;obtain⟨ol,hol,_,nl,hdl⟩:=hl;unfold Builtin.SmallTypes.nextOf;refine QcB (Qas (name:=Str.ofString "__next__") hit.typeIs Qaa (QbB Qaa hit.typeIs PyProof.Rows.entry_tupleiter_next ?_ (PyProof.Rows.args_tupleiter_next _)));show wpAny _ _ (field (.ref it) 0 >>= _) _ _ s;refine QcB (Qcz ho hd (x:=.ref l) rfl ?_);show wpAny _ _ (if (Value.ref l == Value.none)=true then _ else _) _ _ s
 rw[if_neg (show ¬((Value.ref l == Value.none)=true) from QaW)]
 show wpAny _ _ (field (.ref it) 1 >>= _) _ _ s;refine QcB (Qcz ho hd (x:=.int i 0) rfl ?_);show wpAny _ _ (seqItems? (.ref l) >>= _) _ _ s;refine QcB (Qcc hol hdl ?_);simp only[Qbo,hx];refine QcB (wpAny_rule (QcB (wpAny_setField ho hd (by simp) ?_)));show wpAny _ _ (newExc (.type "StopIteration") [] >>= _) _ _ _;refine QcB ?_;simp only[newExc,newTuple];refine QcB (Qbq ?_ (by size_fits));refine QcB (m:=firstArgMember _ _) (wpAny_of_eq (a:=Value.none) (by first | rfl | (simp only[firstArgMember];rfl)) ?_)
 refine Qbq ?_ (by size_fits);simp only[raiseNew];refine QcB (wpAny_handled ?_)
 first | rw[show A.in1.handled=none from hh] | rw[hh]
 refine QcB (QcC (wpAny_throw ?_));exact hE _ _ (((QaR ..).extBut.push _).push _) ⟨_,QaM _ rfl,rq⟩
theorem cu {e it l:Addr} {i:Nat} {j:Int} {items:Array Value} {old:Value} {Q:Option Value->Shared->Prop} (hh:A.handled=none) (he:IsEnum s.heap e it j old) (hit:s.heap.IsTupleIter it l i) (hl:s.heap.IsTuple l items) (hx:items[i]?=none)
  (hQ:∀h',Heap.ExtBut it s.heap h'->Q none { s with heap:=h' }):wpAny (model prog w) A (pyNext (.ref e)) Q E s:=by
 have hT:s.TypeIs (.ref e) "enumerate":=⟨_,he,rq⟩;unfold pyNext;refine QcB (Qcj (Qas (name:=Str.ofString "__next__") hT F.slot_enumerate_next (QbB F.slot_enumerate_next hT F.entry_enumerate_next ?_ (F.args_enumerate_next_1 _))));show wpAny _ _ (field (.ref e) 2 >>= _) _ _ _;refine QcB (Qcz he rfl (x:=.ref it) rfl (QcB (KJ hh hit hl hx λh' x he' hx'=>?_)));obtain⟨o,ho,hc⟩:=hx';exact QcB (wpAny_isInstance (T:="StopIteration") (b:=true) ⟨o,ho,hc⟩ isSubtype_stop (QcC (hQ _ he')))
end
theorem Draws.tup {prog:Program} {w:World} {A:Around} (hh:A.handled=none) (it l:Addr) (hne:l≠it) (items:Array Value) :
  Draws prog w A it [it,l] items.size (λi v=>items[i]?=some v) (λi h=>h.IsTupleIter it l i/\h.IsTuple l items) where
 live:=λ_ _ st=>let ⟨o,ho,_⟩:=st.1;⟨o,ho⟩
 frame:=λ_ _ _ st hk=>⟨st.1.at λo e=>hk it (by simp) o e,let ⟨o,e,r⟩:=st.2;⟨o,hk l (by simp) o e,r⟩⟩
 item:=λi s Q E hi st hQ=>OJ st.1 st.2 (x:=items[i]) (by simp[hi]) λh' hit' hs'=>hQ _ h' s.toks (by simp[hi]) ⟨hit',let ⟨o,e,r⟩:=st.2;⟨o,hs'.extBut _ _ hne e,r⟩⟩ hs'
 done:=λs Q E st hE=>KJ hh st.1 st.2 (by simp) hE
theorem Draws.from {prog:Program} {w:World} {A:Around} {it:Addr} {fp:List Addr} {n:Nat} {P:Nat->Value->Prop} {St:Nat->Heap->Prop} (D:Draws prog w A it fp n P St) (k:Nat) :
  Draws prog w A it fp (k+n) (λj v=>∃i,j=k+i/\P i v) (λj h=>∃i,j=k+i/\i<=n/\St i h) where
 live:=λ_ _ ⟨i,_,_,st⟩=>D.live i _ st
 frame:=λ_ _ _ ⟨i,e,hi,st⟩ hk=>⟨i,e,hi,D.frame i _ _ st hk⟩
 item:=λj s Q E hj ⟨i,e,hi,st⟩ hQ=>D.item i s Q E (by omega) st λx h' tk p st' sb=>hQ x h' tk ⟨i,e,p⟩ ⟨i+1,by omega,by omega,st'⟩ sb
 done:=λs Q E ⟨i,e,hi,st⟩ hE=>by
  have:i=n:=by omega
  subst this;exact D.done s Q E st hE
end PySem
namespace L2
open PySem PySem.Spec PyProof.Rows
section
variable {X:Cx} {jb:YC} {U : St} {H:Hp} {s:Shared} {h':Heap}
theorem Inv.Oo {t':Nat} {fp:List Addr} {t:Addr} {o:HO} (I:Inv X jb U H s) (ht:s.heap.objs.size<=t) (k:∀b u,b∉fp->s.heap.get? b=some u->h'.get? b=some u) (hf:∀b∈fp,GK X jb H b) (new:BK X.prog X.w (upd H t o) h' t o) :
  Inv X jb U (upd H t o) { s with heap:=h',toks:=t' }:=by
 have nt:=I.hok.fresh ht;have old:∀b u,s.heap.get? b=some u->b≠t:=λb u e z=>absurd (Qba (Qco e) ht) (by rw[z];exact Qcg _);have nf:∀b u,H b=some u->b∉fp:=λb u e z=>by rw[(hf b z).1] at e;cases e
 have tr:∀b u,H b=some u->(upd H t o) b=some u:=λb u e=>by rw[Ao (Aw e nt)];exact e
 refine I.step (g':=s.gens) (d':=s.drawn) (ch:=fp) (λb hb=>?_) (λb u _ _ hc e _=>k b u hc e) (λb u _ _ hc e _=>⟨u.slots,k b u hc e⟩) (λb u hc e n=>by rw[Ao (old b u e)];exact n)
  (λb u hc e=>⟨u,k b u hc e⟩) (λ_ _ e=>tr _ _ e) (λ_ _ _ e=>tr _ _ e) (λb ps e=>⟨#[],by rw[tr _ _ e];simp⟩) (λm hm=>?_) (λb u e=>?_) I.bare
 ·obtain⟨_,f1,_,f3,f4,f5⟩:=hf b hb;exact⟨f3,f1,f4,f5⟩
 ·obtain⟨u,es,ep,hu,r⟩:=hm;exact⟨u,es,ep,k _ u (λz=>(hf _ z).2.1 rfl) hu,r⟩
 ·by_cases hb:b=t
  ·subst hb;rw[Ab] at e;cases e;exact new
  ·rw[Ao hb] at e;refine (I.hok b u e).stay (λc v hc q=>k c v ?_ q) (λc q=>tr _ _ q) λc xs q=>tr _ _ q;rcases hc with z | z
   ·rw[z];exact nf b u e
   ·exact nf c _ z
theorem Inv.M7 {t':Nat} {fp:List Addr} (I:Inv X jb U H s) (k:∀b u,b∉fp->s.heap.get? b=some u->h'.get? b=some u) (hf:∀b∈fp,GK X jb H b):Inv X jb U H { s with heap:=h',toks:=t' }:=by
 have nf:∀b u,H b=some u->b∉fp:=λb u e z=>by rw[(hf b z).1] at e;cases e
 refine I.step (g':=s.gens) (d':=s.drawn) (ch:=fp) (λb hb=>?_) (λb u _ _ hc e _=>k b u hc e) (λb u _ _ hc e _=>⟨u.slots,k b u hc e⟩) (λb u hc e n=>n)
  (λb u hc e=>⟨u,k b u hc e⟩) (λ_ _ e=>e) (λ_ _ _ e=>e) (λb ps e=>⟨#[],by rw[e];simp⟩) (λm hm=>?_) (λb u e=>?_) I.bare
 ·obtain⟨_,f1,_,f3,f4,f5⟩:=hf b hb;exact⟨f3,f1,f4,f5⟩
 ·obtain⟨u,es,ep,hu,r⟩:=hm;exact⟨u,es,ep,k _ u (λz=>(hf _ z).2.1 rfl) hu,r⟩
 ·refine (I.hok b u e).stay (λc v hc q=>k c v ?_ q) (λ_ q=>q) λ_ _ q=>q;rcases hc with z | z
  ·rw[z];exact nf b u e
  ·exact nf c _ z
end
def Ol (K:YD) (a:Addr) (lo:Nat):It:=
 ⟨λi H=>∃xs x,SqT K H a xs/\xs[i]?=some x,λi H v H'=>∃p x,H p=none/\v=.ref p/\H'=upd H p (.tup [.int ((lo+i:Nat):Int),x])/\∀xs,SqT K H a xs->xs[i]?=some x,λi H=>∃xs,SqT K H a xs/\xs.length<=i⟩
theorem iW {P:Program} {w:World} {K:YD} {elts:YJ} {k:Nat} {pos:Pos} (a e it:Addr) (lo:Nat) (nei:e≠it):Turn P w K (.Tuple elts k pos) (Ol K a lo) [e,it] e (λi h=>(∃old,IsEnum h e it ((lo+i:Nat):Int) old)/\h.IsTupleIter it a i) where
 mem:=by simp
 obj:=λi h st b hb=>by
  obtain⟨⟨old,he⟩,o,ho,hc,hd⟩:=st;rcases Qce.mp hb with rfl | hb
  ·exact⟨_,he,λv z=>by cases (show Data.fields _=Data.cell v from z)⟩
  ·have:b=it:=by simpa using hb
   subst this;exact⟨o,ho,λv z=>by rw[hd] at z;cases z⟩
 keep:=λi h h' st k=>by
  obtain⟨⟨old,he⟩,hi⟩:=st;exact⟨⟨old,k e (by simp) _ he⟩,hi.at λo q=>k it (by simp) o q⟩
 item:=by
  intro X hP hw hK hc i jb s U H E I hf st hg;subst hP hw hK;obtain⟨xs,x,hq,hx⟩:=hg;obtain⟨its,rv,p,hz⟩:=I.tuple hq;obtain⟨u,hu,ru⟩:=rv.get hx;obtain⟨⟨old,he⟩,hit⟩:=st;have hts:s.heap.IsTuple a its.toArray:=p;have ane:a≠e:=λz=>by
   obtain⟨o,ho,hcl,_⟩:=hts;rw[z,he] at ho;cases ho;injection hcl with q;exact absurd q (by decide)
  have ani:a≠it:=λz=>by
   obtain⟨o,ho,hcl,_⟩:=hts;obtain⟨o',ho',hcl',_⟩:=hit;rw[z,ho'] at ho;cases ho;rw[hcl'] at hcl;injection hcl with q;exact absurd q (by decide)
  have hlt:i < its.toArray.size:=by
   have:=(Qah.mp hu).1;simpa using this
  have D:=(Draws.tup (prog:=X.prog) (w:=X.w) (A:=X.A.in1) (I.ok.hd hc) it a ani its.toArray).from lo;refine wpAny_pyNext_enum_itemD D he ⟨i,rq,Qcs hlt,hit,hts⟩ (by omega) nei (by simp[nei,ane.symm]) λy h1 tk hP ho hst hT hsz hk=>?_;obtain⟨i',ei,hy⟩:=hP;have:i'=i:=by omega
  subst this;have ey:y=u:=by
   have h2:its.toArray[i']?=some u:=by simpa using hu
   rw[h2] at hy;exact (QbN hy).symm
  subst ey;refine⟨_,rq,wpAny_letOwnedTupleGo_enum ho λh2 he2 hs2=>?_⟩;have hlt2:s.heap.objs.size≠e:=Qct (Qco he);have hT2:h2.get? s.heap.objs.size=some { cls:=.type "tuple",data:=.seq #[.int ((lo+i':Nat):Int) tk,y] }:=(hs2.2 _ hlt2).trans hT;have new:BK X.prog X.w (upd H s.heap.objs.size (.tup [.int ((lo+i':Nat):Int),x])) h2 s.heap.objs.size (.tup [.int ((lo+i':Nat):Int),x]):=
   ⟨by show 2<=sizeLine;decide,[.int ((lo+i':Nat):Int) tk,y],.cons ⟨tk,rq⟩ (.cons ru .nil),_,hT2,rq,0,rq⟩
  have I1:=I.Oo (h':=h2) (t':=tk+1) (Qcw _) (λb q hb z=>(hs2.2 b (λw=>hb (by simp[w]))).trans (hk b q (λw=>hb (by simp[w])) (λw=>hb (by simp[w])) z)) hf new;refine⟨.ref s.heap.objs.size,_,I1,rq,⟨s.heap.objs.size,x,I.hok.fresh (Qcw _),rq,rq,λys hy'=>by rw[I.XH hy' hq];exact hx⟩,⟨⟨y,?_⟩,?_⟩,λb hb=>?_⟩
  ·have:=he2;rw[show ((lo+(i'+1):Nat):Int)=((lo+i':Nat):Int)+1 by omega];exact this
  ·obtain⟨i2,e2,_,st2,_⟩:=hst;have:i2=i'+1:=by omega
   subst this;exact st2.at λo q=>(hs2.2 it (Ne.symm nei)).trans q
  ·have hb':b < s.heap.objs.size:=by
    rcases Qce.mp hb with rfl | hb
    ·exact Qco he
    ·have:b=it:=by simpa using hb
     subst this;obtain⟨o,ho',_⟩:=hit;exact Qco ho'
   rw[Ao (Qcp hb')];exact (hf b hb).1
 done:=by
  intro X hP hw hK hc i jb s U H E I hf st hg;subst hP hw hK;obtain⟨xs,hq,hx⟩:=hg;obtain⟨its,rv,p,hz⟩:=I.tuple hq;obtain⟨⟨old,he⟩,hit⟩:=st;have hl:=rv.length;exact cu (I.ok.hd hc) he hit (show s.heap.IsTuple a its.toArray from p) (by simp;omega) λh' eb=>⟨rq,I.M7 (t':=s.toks) (λb o hb q=>eb b o (λz=>hb (by simp[z])) q) hf⟩
 self:=λ_ _ _ _ _ st h=>let ⟨⟨_,he⟩,_⟩:=st;wpAny_pyIter_enum he h
end L2
namespace PySem
open Sem (wp)
open AutoSeq1 (wpAny_loadPart')
theorem Xe (l:Addr) (items:Array Value) (n:Nat) (dct:Option Addr) (sl:YI) :
  Meets (Builtin.«enumerate.__new__» ⟨[.type "enumerate",.ref l],[]⟩) (λ_ R s=>s.heap.get? l=some { cls:=.type "tuple",dict:=dct,data:=.seq items n,slots:=sl } /\
   R (.ok (.ret (.ref (s.heap.push { cls:=.type "tuple_iterator",data:=.fields #[.ref l,.int 0 0] }).objs.size)))
    { s with heap:=(s.heap.push { cls:=.type "tuple_iterator",data:=.fields #[.ref l,.int 0 0] }).push { cls:=.type "enumerate",data:=.fields #[.none,.bool false,.ref s.heap.objs.size,rawInt 0,.none,.none] } }):=
 .of_wp λprog w A R s h=>by
  obtain⟨hp,g,d,tk,os⟩:=s;obtain⟨hl,h⟩:=h;have hsub:=sub_enumerate;have hL:Heap.IsTuple (Shared.heap ⟨hp,g,d,tk,os⟩) l items:=⟨_,hl,rq,n,rq⟩
  wp_walk using wpAny_loadPart' hl
  refine wpAny_stack_any λst=>QcC ?_;split
  ·rename_i c _ _ _ _ _;cases (c == Value.type "enumerate")
   ·wp_walk using wpAny_loadPart' hl,Qbc hL
    exact⟨_,rq,h⟩
   ·wp_walk using wpAny_loadPart' hl,Qbc hL
    exact⟨_,rq,h⟩
  ·wp_walk using wpAny_loadPart' hl,Qbc hL
   exact⟨_,rq,h⟩
theorem V0 (l:Addr) (items:Array Value) (n:Nat) (dct:Option Addr) (sl:YI) (t:Tok) :
  Meets (Builtin.«enumerate.__new__» ⟨[.type "enumerate",.ref l],[("start",.int 1 t)]⟩) (λ_ R s=>s.heap.get? l=some { cls:=.type "tuple",dict:=dct,data:=.seq items n,slots:=sl } /\
   R (.ok (.ret (.ref (s.heap.push { cls:=.type "tuple_iterator",data:=.fields #[.ref l,.int 0 0] }).objs.size)))
    { s with heap:=(s.heap.push { cls:=.type "tuple_iterator",data:=.fields #[.ref l,.int 0 0] }).push { cls:=.type "enumerate",data:=.fields #[.none,.bool false,.ref s.heap.objs.size,rawInt 1,.none,.none] } }):=
 .of_wp λprog w A R s h=>by
  obtain⟨hp,g,d,tk,os⟩:=s;obtain⟨hl,h⟩:=h;have hsub:=sub_enumerate;have hL:Heap.IsTuple (Shared.heap ⟨hp,g,d,tk,os⟩) l items:=⟨_,hl,rq,n,rq⟩
  wp_walk using wpAny_loadPart' hl
  refine wpAny_stack_any λst=>QcC ?_;split
  ·rename_i c _ _ _ _ _;cases (c == Value.type "enumerate")
   ·wp_walk using wpAny_loadPart' hl,Qbc hL
    exact⟨_,rq,h⟩
   ·wp_walk using wpAny_loadPart' hl,Qbc hL
    exact⟨_,rq,h⟩
  ·wp_walk using wpAny_loadPart' hl,Qbc hL
   exact⟨_,rq,h⟩
end PySem
namespace PySem
open Sem (wp)
section
variable {prog:Program} {w:World} {A:Around} {E:YA} {s:Shared}
theorem Xb {T newId:String} {self:Value} {rest:YE} {kw:List (Str×Value)} (hl:typeLookup (.type T) "__init__"=pure (some (.builtin "object.__init__")))
  (hm:Bind.madeBy (.type T)=pure (some newId)) (hne:(some newId != some "object.__new__")=true) :
  Meets (Builtin.«object.__init__» ⟨self::rest,kw⟩) (λ_ R s=>s.TypeIs self T/\R (.ok (.ret .none)) s):=by
 refine Meets.of_wp λprog w A R s hs=>?_;obtain⟨hT,hq⟩:=hs;cases rest with
 | nil=>
  cases kw with
  | nil=>exact QcC ⟨_,rfl,hq⟩
  | cons k kw=>
   repeat (any_goals (first | assumption | wp_step))
   exact⟨_,rq,hq⟩
 | cons a rest=>
  repeat (any_goals (first | assumption | wp_step))
  exact⟨_,rq,hq⟩
theorem qd {T newId:String} {Bn:Builtin} {args:YE} {kw:List (Str×Value)} {S:Spec} {Q:YA} (ft:TypeCalled T newId "object.__init__") (hne:(some newId != some "object.__new__")=true)
  (hct:checkTypeCall T ⟨args,kw⟩=pure ()) (hcn:checkBuiltinCall newId ⟨.type T::args,kw⟩=pure ()) (hok:∀obj,argsOk "object.__init__" ⟨obj::args,kw⟩)
  (entryN:entryFor table newId=some Bn) (g:Meets (Bn ⟨.type T::args,kw⟩) S) (h:S A.in1 (wants (λobj s₁=>s₁.TypeIs obj T/\Q obj s₁) E) s) :
  wpAny (model prog w) A (call (.type T) args kw) Q E s:=by
 obtain⟨c,tl,hmro⟩:=ft.mro;have hmade:=ft.made;have hsub:=ft.sub;refine wpAny_call (codeAny_of_tree ?_);show wpAny _ _ (callAny (.type T) _) _ _ _;refine QcC ⟨Code.quiet_builtin _ (by trivial),codeAny_builtin F.entry_type_call ?_⟩;rw[Around.under_plain (weight_type_call_type T args kw) (units_type_call_type T args kw)];have h1:=ft.notType;have h2:=ft.canCreate
 repeat (any_goals (first | assumption | wp_step))
 refine codeAny_mono (codeAny_call_builtin ft.plain entryN (wpAny_of_eq hcn (g prog w A.in1 _ s h))) λr s₁ hr=>?_;cases r with
 | error e=>exact hr
 | ok fl=>
  cases fl with
  | ret obj=>
   obtain⟨hT,hq⟩:=hr;have hli:=ft.init.lookup;have hbi:=ft.init.bind obj
   repeat (any_goals (first | assumption | wp_step))
   refine codeAny_mono (codeAny_call_builtin ft.init.plain F.entry_object_init (ft.init.check _ _ _ _ _ _ _ _ hT (hok obj) (Xb ft.init.lookup ft.made hne prog w A.in1 (wants (λr s₂=>r=.none/\Q obj s₂) E) s₁ ⟨hT,rq,hq⟩))) λr₂ s₂ hr₂=>?_;cases r₂ with
   | error e=>exact hr₂
   | ok fl₂=>
    cases fl₂ with
    | ret r=>
     obtain⟨rfl,hq2⟩:=hr₂
     repeat (any_goals (first | assumption | wp_step))
    | _=>exact hr₂.elim
  | _=>exact hr.elim
end
end PySem
namespace PyProof.Rows
open PySem
section
variable {M:Model} {A:Around} {E:YA} {s:Shared} {env:Env}
theorem Wg {pos:Pos} {T:String} {e:Expr} {rest:YJ} {kws:List Keyword} {Q:YA}
  (h:wpAny M A (spliced (backTo pos (starEach (e::rest) env))) (λvs s₁=>wpAny M A (evalAll ((backToKw pos (keywordEach kws env)).map (·.2))) (λkvs s₂=>wpAny M A (call (.type T) vs (((backToKw pos (keywordEach kws env)).filterMap (·.1)).zip kvs)) Q E s₂) E s₁) E s)
  (he:backTo pos (starEach (e::rest) env)=(false,eval e env)::backTo pos (starEach rest env):=by rfl) (hplain:(backTo pos (starEach (e::rest) env)).any (·.1)=false:=by rfl)
  (hall:(backToKw pos (keywordEach kws env)).all (·.1.isSome)=true:=by rfl) (hkw:(backToKw pos (keywordEach kws env)).any (·.1.isNone)=false:=by rfl) :
  wpAny M A (callWith pos (.type T) [] (backTo pos (starEach (e::rest) env)) (backToKw pos (keywordEach kws env))) Q E s:=by
 have h2:wpAny M A (evalArgs (.type T) true (backTo pos (starEach (e::rest) env)) (backToKw pos (keywordEach kws env))) (λa s₁=>wpAny M A (call (.type T) ([]++a.pos) a.kw) Q E s₁) E s:=by
  rw[he] at h ⊢;exact evalArgs_kwB hall h
 unfold callWith;refine QcB (Qch (QcD h2 (λa s₁ h₁=>QcB (Qck ?_)) λ_ _ x=>x));simp only[hplain,hkw,Qcl];exact QcB (QcC (QcB (QcD h₁ (λr s₂ hr=>QcB (Qch (wpAny_point (QcC hr)))) λ_ _ x=>x)))
end
end PyProof.Rows
namespace L2
open PySem PySem.Spec PyProof.Rows
section
variable {X:Cx}
theorem iw {jb:YC} {U : St} {H:Hp} {s:Shared} {R:It->Hp->Prop} {E:YA} {elts:YJ} {k:Nat} {pos:Pos} {a:Addr} {lo:Nat} {tk:Nat} (I:Inv X jb U H s) (q:R (Ol X.K a lo) H) :
  wpAny (model X.prog X.w) X.A (pyIter (.ref (s.heap.objs.size+1))) (PIE X jb U (.Tuple elts k pos) R) E
   { s with heap:=(s.heap.push { cls:=.type "tuple_iterator",data:=.fields #[.ref a,.int 0 0] }).push { cls:=.type "enumerate",data:=.fields #[.none,.bool false,.ref s.heap.objs.size,rawInt (lo:Int),.none,.none] },toks:=tk }:=by
 have hz:(s.heap.push { cls:=.type "tuple_iterator",data:=.fields #[.ref a,.int 0 0] }).objs.size=s.heap.objs.size+1:=QbZ ..;have he:IsEnum ((s.heap.push { cls:=.type "tuple_iterator",data:=.fields #[.ref a,.int 0 0] }).push { cls:=.type "enumerate",data:=.fields #[.none,.bool false,.ref s.heap.objs.size,rawInt (lo:Int),.none,.none] }) (s.heap.objs.size+1) s.heap.objs.size (lo:Int) .none:=by
  have:=QaM (s.heap.push { cls:=.type "tuple_iterator",data:=.fields #[.ref a,.int 0 0] }) (o:={ cls:=.type "enumerate",data:=.fields #[.none,.bool false,.ref s.heap.objs.size,rawInt (lo:Int),.none,.none] }) rfl;rw[hz] at this;exact this
 refine wpAny_pyIter_enum he ⟨s.heap.objs.size+1,[s.heap.objs.size+1,s.heap.objs.size],_,_,H,rq,I.kept (t':=tk) λb o e=>Qax _ (Qax _ e),iW a (s.heap.objs.size+1) s.heap.objs.size lo (Nat.succ_ne_self _),⟨⟨.none,he⟩,⟨_,Qax _ (QaM _ rfl),rq,rq⟩⟩,λb hb=>?_,q⟩;have hb':s.heap.objs.size<=b:=by
  simp only[Qce,QbA,QcF] at hb;rcases hb with rfl | rfl
  ·exact Nat.le_succ _
  ·exact Qcw _
 exact I.PX hb' (I.hok.fresh hb')
end
section
variable {X:Cx}
def vP (K:YD) (lo:Nat) (tl:TE):TI:=fun U H R=>tl U H λx H1=>∃a,x=.ref a/\(∃xs,SqT K H1 a xs)/\R (Ol K a lo) H1
theorem kJ {jb:YC} {U : St} {H:Hp} {s:Shared} {R:It->Hp->Prop} {elts:YJ} {k:Nat} {pos:Pos} {a:Addr} {xs:YG} (I:Inv X jb U H s) (hq:SqT X.K H a xs) (q:R (Ol X.K a 0) H) :
  wpAny (model X.prog X.w) X.A (call (.type "enumerate") [.ref a]) (λv s1=>wpAny (model X.prog X.w) X.A (pyIter v) (PIE X jb U (.Tuple elts k pos) R) X.xe s1) X.xe s:=by
 obtain⟨its,rv,p,hz⟩:=I.tuple hq;obtain⟨⟨c,dct,dt,sl⟩,hl,hc,n,hd⟩:=id p;replace hc:c=.type "tuple":=hc;replace hd:dt=.seq its.toArray n:=hd;subst hc hd;refine callType_new F.called_enumerate (by decide) (F.typeCall_enumerate_1 _) (F.newCall_enumerate_1 _) (λobj=>F.args_object_init_2 obj _) F.entry_enumerate_new (Xe a its.toArray n dct sl) ⟨hl,?_⟩;have hz:(s.heap.push { cls:=.type "tuple_iterator",data:=.fields #[.ref a,.int 0 0] }).objs.size=s.heap.objs.size+1:=QbZ ..;show _/\_;refine⟨⟨_,QaM _ rfl,rq⟩,?_⟩;rw[hz];exact iw (lo:=0) (tk:=s.toks) I q
end
section
variable {X:Cx}
theorem U7 {x:Expr} {tx:TE} {p pos tp:Pos} {elts:YJ} {k:Nat} (hg:Gl X "enumerate") (hm:X.mg "enumerate"=none) (hl:PE X x tx) (hs:starEach [x] X.env=[(false,eval x X.env)]:=by rfl):PI X (.Tuple elts k tp) (.Call (.Name "enumerate" p) [x] [] pos) (vP X.K 0 tx):=by
 intro jb s U H R I h;refine Call_ (Jf I hg hm boot_enumerate (Qae (thn ((Aa hl Ac (by rw[hs];rfl)) pos jb s U H (λvs H1=>match vs with | [v]=>∃a,v=.ref a/\(∃xs,SqT X.K H1 a xs)/\R (Ol X.K a 0) H1 | _=>False) I h) λus s1 ⟨vs,H1,I1,r1,q1⟩=>?_) hs rfl))
 cases r1 with
 | nil=>exact False.elim q1
 | cons r rr=>
  cases rr with
  | nil=>
   obtain⟨a,e,⟨xs,hq⟩,q⟩:=q1;subst e;cases r;exact kJ I1 hq q
  | cons _ _=>exact False.elim q1
theorem kI {jb:YC} {U : St} {H:Hp} {s:Shared} {R:It->Hp->Prop} {elts:YJ} {k:Nat} {pos:Pos} {a:Addr} {xs:YG} {t:Tok} (I:Inv X jb U H s) (hq:SqT X.K H a xs) (q:R (Ol X.K a 1) H) :
  wpAny (model X.prog X.w) X.A (call (.type "enumerate") [.ref a] [("start",.int 1 t)]) (λv s1=>wpAny (model X.prog X.w) X.A (pyIter v) (PIE X jb U (.Tuple elts k pos) R) X.xe s1) X.xe s:=by
 obtain⟨its,rv,p,hz⟩:=I.tuple hq;obtain⟨⟨c,dct,dt,sl⟩,hl,hc,n,hd⟩:=id p;replace hc:c=.type "tuple":=hc;replace hd:dt=.seq its.toArray n:=hd;subst hc hd;refine qd F.called_enumerate (by decide) (by kernel_rfl) (by kernel_rfl) (λobj=>?ok) F.entry_enumerate_new (V0 a its.toArray n dct sl t) ⟨hl,?_⟩
 case ok=>
  unfold argsOk;rw[signature?_of (id:="object.__init__") (n:=['_','_','t','i','n','i','_','_']) (o:=['t','c','e','j','b','o']) (by kernel_rfl) F.owner_object]
  kernel_rfl
 have hz:(s.heap.push { cls:=.type "tuple_iterator",data:=.fields #[.ref a,.int 0 0] }).objs.size=s.heap.objs.size+1:=QbZ ..;show _/\_;refine⟨⟨_,QaM _ rfl,rq⟩,?_⟩;rw[hz];exact iw (lo:=1) (tk:=s.toks) I q
theorem NT {x one:Expr} {tx:TE} {p pos tp kp:Pos} {elts:YJ} {k:Nat} (hg:Gl X "enumerate") (hm:X.mg "enumerate"=none) (hl:PE X x tx) (h1:PE X one (tC (.int 1))) (hs:starEach [x] X.env=[(false,eval x X.env)]:=by rfl)
  (hall:(backToKw pos (keywordEach [⟨some "start",one,kp⟩] X.env)).all (·.1.isSome)=true:=by rfl) (hkw:(backToKw pos (keywordEach [⟨some "start",one,kp⟩] X.env)).any (·.1.isNone)=false:=by rfl)
  (hks:(backToKw pos (keywordEach [⟨some "start",one,kp⟩] X.env)).filterMap (·.1)=(["start"]:YF):=by rfl) :
  PI X (.Tuple elts k tp) (.Call (.Name "enumerate" p) [x] [⟨some "start",one,kp⟩] pos) (vP X.K 1 tx):=by
 intro jb s U H R I h;refine Qbj (Jf I hg hm boot_enumerate (PyProof.Rows.Wg (thn ((Aa hl Ac (by rw[hs];rfl)) pos jb s U H (λvs H1=>match vs with | [v]=>∃a,v=.ref a/\(∃xs,SqT X.K H1 a xs)/\R (Ol X.K a 1) H1 | _=>False) I h) λus s1 ⟨vs,H1,I1,r1,q1⟩=>?_) (by rw[hs];rfl) (by rw[hs];rfl) hall hkw))
 refine thn ((wV h1 zP) pos jb s1 U H1 (λks H2=>H2=H1/\ks=[.int 1]) I1 ⟨rq,rq⟩) λws s2 zz=>?_;obtain⟨zs,H2,I2,rz,e2,ez⟩:=zz;subst e2 ez;cases rz with
 | cons rz1 rz2=>
  cases rz2;obtain⟨t,rfl⟩:=rz1;rw[hks];cases r1 with
  | nil=>exact False.elim q1
  | cons r rr=>
   cases rr with
   | nil=>
    obtain⟨a,e,⟨xs,hq⟩,q⟩:=q1;subst e;cases r;exact kI I2 hq q
   | cons _ _=>exact False.elim q1
theorem Jx {K:YD} {a:Addr} {lo:Nat} {xs:YG} {g:TG} {tb:TS} {D:Ends} {U : St} {H:Hp} (Pv:YN) (h0:Pv 0 U H) (hl:∀i U H',i<=xs.length->Pv i U H'->SqT K H' a xs)
  (hs:∀i x p U H',xs[i]?=some x->Pv i U H'->H' p=none->g (.ref p) U (upd H' p (.tup [.int ((lo+i:Nat):Int),x])) fun σ2 H2=>tb { D with nx:=Pv (i+1),ct:=Pv (i+1),bk:=D.nx } σ2 H2) (hd:∀ U H',Pv xs.length U H'->D.nx U H') :
  ∃W:Nat->YN,(∃m,W 0 m U H)/\∀i m U H,W i m U H ->
   ((Ol K a lo).stop i H/\D.nx U H)\/((Ol K a lo).go i H/\∃N:YO,(∀ σ' H',N σ' H'->∃m',m' < m/\W (i+1) m' σ' H')/\∀x H',(Ol K a lo).yld i H x H'->g x U H' fun σ2 H2=>tb { D with nx:=N,ct:=N,bk:=D.nx } σ2 H2):=by
 refine⟨λi m U H=>m=xs.length - i/\i<=xs.length/\Pv i U H,⟨xs.length,by simp,Qcx _,h0⟩,?_⟩;rintro i m U H ⟨rfl,hi,p⟩;have q:=hl i U H hi p;by_cases hlt:i < xs.length
 ·refine .inr ⟨⟨xs,xs[i],q,by simp[hlt]⟩,Pv (i+1),fun σ3 H3 p'=>⟨xs.length - (i+1),by omega,rq,hlt,p'⟩,λv H2 y=>?_⟩;obtain⟨pa,x,hn,rfl,rfl,hx⟩:=y;exact hs i x pa U _ (hx xs q) p hn
 ·have e:i=xs.length:=by omega
  subst e;exact .inl ⟨⟨xs,q,Qcw _⟩,hd U H p⟩
theorem pY {K:YD} {a l:Addr} {lo:Nat} {xs:YG} {g:TG} {tt:TT} {te:TE} {Q:VK} {σ0:St} {H0:Hp} (Pv:YN)
  (h0:Pv 0 σ0 H0) (hl:∀i U H',i<=xs.length->Pv i U H'->SqT K H' a xs)
  (hs:∀i x p U H',xs[i]?=some x->Pv i U H'->H' p=none->g (.ref p) U (upd H' p (.tup [.int ((lo+i:Nat):Int),x])) fun σ3 H3=>tt σ3 H3 λb H4=>if b=true then te σ3 H4 λy H5=>∃ys,H5 l=some (.lst ys)/\ys.length < sizeLine/\Pv (i+1) σ3 (upd H5 l (.lst (ys++[y]))) else Pv (i+1) σ3 H4)
  (hd:∀ U H',Pv xs.length U H'->Q (.ref l) H'):Gh (Ol K a lo) g tt te Q σ0 H0 l:=by
 unfold Gh;refine⟨λi m U H'=>m=xs.length - i/\i<=xs.length/\Pv i U H',⟨xs.length,by simp,Qcx _,h0⟩,?_⟩;rintro i m U H' ⟨rfl,hi,p⟩;have q:=hl i U H' hi p;by_cases hlt:i < xs.length
 ·refine .inr ⟨⟨xs,xs[i],q,by simp[hlt]⟩,Pv (i+1),fun σ3 H3 p'=>⟨xs.length - (i+1),by omega,rq,hlt,p'⟩,λv H2 y=>?_⟩;obtain⟨pa,x,hn,rfl,rfl,hx⟩:=y;exact hs i x pa U _ (hx xs q) p hn
 ·have e:i=xs.length:=by omega
  subst e;exact .inl ⟨⟨xs,q,Qcw _⟩,hd U H' p⟩
end
section
variable {X:Cx}
theorem range_any (bs:List Bool):((List.range bs.length).any λi=>(bs[i]?).getD false)=bs.any id:=by
 induction bs with
 | nil=>rfl
 | cons b r ih=>
  rw[Qby,List.range_succ_eq_map,Qci,List.any_map,Qci];show ((some b).getD false || _)=_;rw[show ((λi=>((b::r)[i]?).getD false) ∘ Nat.succ)=λi=>(r[i]?).getD false from by funext i;simp[Function.comp]]
  rw[ih];rfl
theorem uP (hc:X.calm=true):DQ X (.builtin "any") (λxs H Q=>∃(p:Addr) (bs:List Bool),xs=[.ref p]/\SqL X.K H p (bs.map V.bl)/\Q (.bl (bs.any id)) H):=by
 intro jb s U H xs us Q I r h;obtain⟨p,bs,rfl,hq,q⟩:=h;obtain⟨u,rfl,rx⟩:=vals1 r;cases rx;obtain⟨its,rv,pl,hz⟩:=I.list hq;have hb:=Vn rv;have hl:=pl.isList;have hlt:p < s.heap.objs.size:=by obtain⟨_,e,_⟩:=hl;exact Qco e
 refine call_any_walk (Qbt hl ?_);refine⟨s.heap.objs.size,[s.heap.objs.size,p],[s.heap.objs.size],its.toArray.size,_,_,λi=>(bs[i]?).getD false,rq,Walks.list (A:=X.A.in1) (I.ok.hd hc) _ p (Qcp hlt) its.toArray,
  ⟨⟨_,QaM _ rfl,rq,rq⟩,hl.push _⟩,λi v s' Q' E' hP hQ=>?_,λh' tk hk=>?_⟩
 ·obtain⟨b,e,rfl⟩:=hb.get i v (by simpa using hP);simp only[e,Option.getD_some] at hQ;exact Qbs hQ
 ·have e:((List.range its.toArray.size).any λi=>(bs[i]?).getD false)=bs.any id:=by
   rw[Qbl,hb.length];exact range_any bs
  rw[e];exact⟨.bl (bs.any id),H,I.kept (LSm.kept_iter hk),rq,q⟩
end
end L2
namespace PySem.ZZ
open PySem
section
variable {prog:Program} {w:World} {A:Around} {E:YA} {s:Shared}
theorem Vh {M:Model} {α β : Type} {Q:β->Shared->Prop} {body:α->β->Sem (ForInStep β)} (J:List α->β->Shared->Prop) (hnil:∀b s,J [] b s->Q b s)
  (hstep:∀x r b s,J (x::r) b s->wpAny M A (body x b) (λst s'=>match st with | .yield b'=>J r b' s' | .done b'=>Q b' s') E s):∀(l:List α) (b:β) (s:Shared),J l b s->wpAny M A (forIn l b body) Q E s
 | [],b,s,h=>by
  rw[List.forIn_nil];exact QcC (hnil b s h)
 | x::r,b,s,h=>by
  rw[List.forIn_cons];refine QcB (QcD (hstep x r b s h) (λst s' q=>?_) λ_ _ e=>e);cases st with
  | yield b'=>exact Vh J hnil hstep r b' s' q
  | done b'=>exact QcC q
structure Src where
 it:Addr
 a:Addr
 items:Array Value
def SrcAt (h:Heap) (x:Src) (i:Nat):Prop:=(h.IsListIter x.it x.a i/\h.IsList x.a x.items)\/(h.IsTupleIter x.it x.a i/\h.IsTuple x.a x.items)
theorem SrcAt.keep {h h':Heap} {x:Src} {i:Nat} (q:SrcAt h x i) (k1:∀o,h.get? x.it=some o->h'.get? x.it=some o) (k2:∀o,h.get? x.a=some o->h'.get? x.a=some o):SrcAt h' x i:=by
 rcases q with⟨q1,q2⟩|⟨q1,o,e,r⟩
 ·exact .inl ⟨q1.at k1,q2.at k2⟩
 ·exact .inr ⟨q1.at k1,o,k2 o e,r⟩
theorem SrcAt.ne {h:Heap} {x:Src} {i:Nat} (q:SrcAt h x i):x.a≠x.it:=λz=>by
 rcases q with⟨⟨o,e,c,_⟩,⟨o',e',c',_⟩⟩|⟨⟨o,e,c,_⟩,⟨o',e',c',_⟩⟩
 ·rw[z,e] at e';cases e';rw[c] at c';injection c' with y;exact absurd y (by decide)
 ·rw[z,e] at e';cases e';rw[c] at c';injection c' with y;exact absurd y (by decide)
theorem Zm {x:Src} {i:Nat} {v:Value} {Q:YA} (q:SrcAt s.heap x i) (hx:x.items[i]?=some v) (hQ:∀h',SrcAt h' x (i+1)->Heap.SameBut x.it s.heap h'->Q v { s with heap:=h' }) :
  wpAny (model prog w) A (Builtin.SmallTypes.nextOf (.ref x.it)) Q E s:=by
 have ne:=q.ne;rcases q with⟨q1,q2⟩|⟨q1,q2⟩
 ·exact wpAny_nextOf_list_item q1 q2 hx λh' i1 sb=>hQ h' (.inl ⟨i1,q2.at λo e=>sb.extBut _ _ ne e⟩) sb
 ·exact OJ q1 q2 hx λh' i1 sb=>hQ h' (.inr ⟨i1,let ⟨o,e,r⟩:=q2;⟨o,sb.extBut _ _ ne e,r⟩⟩) sb
theorem wI {x:Src} {i:Nat} {Q:YA} (hh:A.handled=none) (q:SrcAt s.heap x i) (hx:x.items[i]?=none)
  (hE:∀h' e,Heap.ExtBut x.it s.heap h'->(∃o,h'.get? e=some o/\o.cls=.type "StopIteration")->E (.ref e) { s with heap:=h' }):wpAny (model prog w) A (Builtin.SmallTypes.nextOf (.ref x.it)) Q E s:=by
 rcases q with⟨q1,q2⟩|⟨q1,q2⟩
 ·exact wpAny_nextOf_list_end hh q1 q2 hx hE
 ·exact KJ hh q1 q2 hx hE
abbrev IsZ (h:Heap) (z TI TO:Addr) (f0 f1:Value):Prop:=h.get? z=some { cls:=.type "zip",dict:=none,data:=.fields #[f0,f1,.bool false,.ref TI,.ref TO],slots:=#[] }
abbrev Dt (h:Heap) (T:Addr) (xs:YE):Prop:=h.get? T=some { cls:=.type "tuple",data:=.seq xs.toArray }
structure Apart (z TI TO:Addr) (ls:List Src):Prop where
 TIz:TI≠z
 TOz:TO≠z
 TITO:TI≠TO
 it:∀x∈ls,x.it≠z/\x.it≠TI/\x.it≠TO
 a:∀x∈ls,x.a≠z/\x.a≠TO
 ai:∀x∈ls,∀y∈ls,x.a≠y.it
 nd:(ls.map (·.it)).Nodup
def Rest (z TO:Addr) (ls:List Src) (h h':Heap):Prop:=∀c o,c≠z->c≠TO->c∉ls.map (·.it)->h.get? c=some o->h'.get? c=some o
theorem wK {xs olds:YE} {k:Nat} {v:Value} (hk:k < olds.length) (hx:xs.length=olds.length) (e:xs[k]?=some v):(xs.take k++olds.drop k).toArray.setIfInBounds k v=(xs.take (k+1)++olds.drop (k+1)).toArray:=by
 rw[List.setIfInBounds_toArray];congr 1;have hl:(xs.take k).length=k:=by rw[Qbz];omega
 rw[List.set_append_right _ _ (by omega),hl,Nat.sub_self,Qaj hk,QaX,List.take_add_one,e];simp
structure Mid (z TI TO:Addr) (ls:List Src) (xs olds:YE) (i:Nat) (f0 f1:Value) (h:Heap) (k:Nat) (h':Heap):Prop where
 hz:IsZ h' z TI TO f0 f1
 hTI:Dt h' TI (ls.map λx=>.ref x.it)
 done:∀j x,ls[j]?=some x->SrcAt h' x (if j < k then i+1 else i)
 rest:Rest z TO ls h h'
 size:h'.objs.size=h.objs.size
theorem Mid.draw {z TI TO:Addr} {ls:List Src} {xs olds:YE} {i:Nat} {f0 f1:Value} {h h1 h2:Heap} {k:Nat} {x:Src} (D:Apart z TI TO ls) (m:Mid z TI TO ls xs olds i f0 f1 h k h1) (hx:ls[k]?=some x) (q:SrcAt h2 x (i+1)) (sb:Heap.SameBut x.it h1 h2) :
  Mid z TI TO ls xs olds i f0 f1 h (k+1) h2:=by
 have hm:=QaI hx;have hi:=D.it x hm;refine⟨sb.extBut _ _ hi.1.symm m.hz,sb.extBut _ _ hi.2.1.symm m.hTI,λj y hy=>?_,λc o c1 c2 c3 e=>sb.extBut _ _ (λz=>c3 (z ▸ Qcn.mpr ⟨x,hm,rq⟩)) (m.rest c o c1 c2 c3 e),by rw[sb.1,m.size]⟩;by_cases hj:j=k
 ·subst hj;rw[hx] at hy;cases hy;rw[if_pos (QbD _)];exact q
 ·have h1:=m.done j y hy;have hne:y.it≠x.it:=λz=>hj (by
   have e1:(ls.map (·.it))[j]?=some y.it:=by rw[Qbn,hy];rfl
   have e2:(ls.map (·.it))[k]?=some x.it:=by rw[Qbn,hx];rfl
   rw[z] at e1;have l1:=(Qah.mp e1);have l2:=(Qah.mp e2);exact (List.getElem_inj D.nd).mp (l1.2.trans l2.2.symm))
  have hc:(if j < k+1 then i+1 else i)=(if j < k then i+1 else i):=by
   by_cases c:j < k
   ·rw[if_pos c,if_pos (by omega)]
   ·rw[if_neg c,if_neg (by omega)]
  rw[hc];exact h1.keep (λo e=>sb.extBut _ _ hne e) (λo e=>sb.extBut _ _ (D.ai y (QaI hy) x hm) e)
theorem Mid.other {z TI TO:Addr} {ls:List Src} {xs olds:YE} {i:Nat} {f0 f1:Value} {h h1 h2:Heap} {k:Nat} (D:Apart z TI TO ls) (m:Mid z TI TO ls xs olds i f0 f1 h k h1) (sb:Heap.SameBut TO h1 h2):Mid z TI TO ls xs olds i f0 f1 h k h2:=by
 refine⟨sb.extBut _ _ D.TOz.symm m.hz,sb.extBut _ _ D.TITO m.hTI,λj y hy=>?_,λc o c1 c2 c3 e=>sb.extBut _ _ c2 (m.rest c o c1 c2 c3 e),by rw[sb.1,m.size]⟩;have hm:=QaI hy;exact (m.done j y hy).keep (λo e=>sb.extBut _ _ (D.it y hm).2.2 e) (λo e=>sb.extBut _ _ (D.a y hm).2 e)
theorem Yp {z TI TO:Addr} {ls:List Src} {xs olds:YE} {i:Nat} {f1:Value} {Q:YA} (D:Apart z TI TO ls) (hz:IsZ s.heap z TI TO .none f1) (hTI:Dt s.heap TI (ls.map λx=>.ref x.it)) (hTO:Dt s.heap TO olds)
  (hat:∀x∈ls,SrcAt s.heap x i) (hne:ls≠[]) (hl1:xs.length=ls.length) (hl2:olds.length=ls.length) (hx:∀(j:Nat) (x:Src),ls[j]?=some x->∃v,xs[j]?=some v/\x.items[i]?=some v) (hsz:ls.length<=100)
  (hQ:∀h',IsZ h' z TI TO (rawInt s.heap.objs.size) (.bool false)->Dt h' TI (ls.map λx=>.ref x.it)->Dt h' TO xs->(∀x∈ls,SrcAt h' x (i+1))->Dt h' s.heap.objs.size xs->h'.objs.size=s.heap.objs.size+1->Rest z TO ls s.heap h'->Q (.ref s.heap.objs.size) { s with heap:=h' }) :
  wpAny (model prog w) A (Builtin.«zip.__next__» ⟨[.ref z],[]⟩) (λfin s'=>∃v,fin=.done (.ret v)/\Q v s') E s:=by
 show wpAny _ _ (field (.ref z) 2 >>= _) _ _ _;refine QcB (Qcz hz rfl (x:=.bool false) rfl ?_);show wpAny _ _ (field (.ref z) 3 >>= _) _ _ _;refine QcB (Qcz hz rfl (x:=.ref TI) rfl ?_);refine QcB (Qcc hTI rfl ?_);dsimp only;rw[if_neg (by cases ls with | nil=>exact absurd rfl hne | cons a r=>simp)];show wpAny _ _ (Builtin.SmallTypes.ownedTupleIsFree (.ref z) >>= _) _ _ _;refine QcB ?_;unfold Builtin.SmallTypes.ownedTupleIsFree;refine QcB (Qcz hz rfl (x:=.none) rfl (QcC ?_));simp only[if_true];refine QcB (wpAny_rule ?_);refine QcB (Qcz hz rfl (x:=.ref TO) rfl ?_);refine QcB (Qbd hz (by simp) λh₁ hz₁ hs₁=>?_);replace hz₁ : IsZ h₁ z TI TO .ellipsis f1:=hz₁;refine QcB ?_;have m0:Mid z TI TO ls xs olds i .ellipsis f1 s.heap 0 h₁:=by
  refine⟨hz₁,hs₁.extBut _ _ D.TIz hTI,λj x hj=>?_,λc o c1 _ _ e=>hs₁.extBut _ _ c1 e,hs₁.1⟩;have hm:=QaI hj;rw[if_neg (QbU _)];exact (hat x hm).keep (λo e=>hs₁.extBut _ _ (D.it x hm).1 e) (λo e=>hs₁.extBut _ _ (D.a x hm).1 e)
 have bV : Dt h₁ TO (xs.take 0++olds.drop 0):=hs₁.extBut _ _ D.TOz hTO;refine Vh (λl b s'=>∃k h',k<=ls.length/\l=((ls.map λx=>Value.ref x.it).drop k).zipIdx k/\b=⟨none,⟨⟩⟩/\s'={ s with heap:=h' }/\Mid z TI TO ls xs olds i .ellipsis f1 s.heap k h'/\Dt h' TO (xs.take k++olds.drop k)) (λb s' h=>?_) (λx r b s' h=>?_) _ _ _ ⟨0,h₁,Qcx _,rq,rq,rq,m0,bV⟩
 ·obtain⟨k,h',hk,e1,rfl,rfl,m,hT⟩:=h;have hkl:k=ls.length:=by
   have:=congrArg List.length e1;rw[List.length_nil,List.length_zipIdx,QbC,QbH] at this;omega
  subst hkl;rw[<-hl1,Qbx,hl1,<-hl2,List.drop_length,QbK] at hT;dsimp only;refine QcB (Qcc hT rfl ?_);refine QcB (wpAny_newTuple ?_ (by show xs.length<=sizeLine;rw[QcA];omega));have hkl:∀j x,ls[j]?=some x->SrcAt h' x (i+1):=λj x hj=>by
   have:=m.done j x hj;rw[if_pos (Qah.mp hj).1] at this;exact this
  have hzlt:z < h'.objs.size:=Qco m.hz;have hTOlt:TO < h'.objs.size:=Qco hT;show wpAny _ _ (Builtin.SmallTypes.ownedTupleHandOut (.ref z) (.ref h'.objs.size) >>= _) _ _ _;refine QcB ?_;unfold Builtin.SmallTypes.ownedTupleHandOut;have hz₆ : IsZ (h'.push { cls:=.type "tuple",data:=.seq xs.toArray }) z TI TO .ellipsis f1:=Qax _ m.hz;refine QcB (Qbd hz₆ (by simp) λh₇ hz₇ hs₇=>?_);replace hz₇ : IsZ h₇ z TI TO (rawInt h'.objs.size) f1:=hz₇;refine Qbd hz₇ (by simp) λh₈ hz₈ hs₈=>?_;replace hz₈ : IsZ h₈ z TI TO (rawInt h'.objs.size) (.bool false):=hz₈;have up:∀c o,c≠z->h'.get? c=some o->h₈.get? c=some o:=λc o c1 e=>hs₈.extBut _ _ c1 (hs₇.extBut _ _ c1 (Qax _ e));have hT₈ : Dt h₈ h'.objs.size xs:=hs₈.extBut _ _ (Qct hzlt) (hs₇.extBut _ _ (Qct hzlt) (QaM _ rfl));have hz8:h₈.objs.size=h'.objs.size+1:=by rw[hs₈.1,hs₇.1,QbZ]
  have hsz':=m.size;rw[hsz'] at hz₈ hT₈ hz8;refine QcC ⟨_,rq,?_⟩;show Q (.ref h'.objs.size) _;rw[hsz'];refine hQ h₈ hz₈ (up _ _ D.TIz m.hTI) (up _ _ D.TOz hT) (λx hm=>?_) hT₈ hz8 λc o c1 c2 c3 e=>up c o c1 (m.rest c o c1 c2 c3 e);obtain⟨j,hj⟩:=QaL hm;exact (hkl j x hj).keep (λo e=>up _ o (D.it x hm).1 e) (λo e=>up _ o (D.a x hm).1 e)
 ·obtain⟨k,h',hk,e1,rfl,rfl,m,hT⟩:=h;have hkl:k < ls.length:=by
   have:=congrArg List.length e1;rw[Qby,List.length_zipIdx,QbC,QbH] at this;omega
  obtain⟨y,hy⟩ : ∃y,ls[k]?=some y:=⟨_,Qam hkl⟩;have hm:=QaI hy;rw[Qaj (by rw[QbH];exact hkl),List.zipIdx_cons,List.getElem_map] at e1;have ey:ls[k]=y:=(Qah.mp hy).2;rw[ey] at e1;injection e1 with e1 e2;subst e1 e2;obtain⟨v,hv1,hv2⟩:=hx k y hy;refine QcB (wpAny_onRaise ?_);show wpAny _ _ (Builtin.SmallTypes.nextOf (.ref y.it) >>= _) _ _ _;have q0:=m.done k y hy;rw[if_neg (Qcg _)] at q0;refine QcB (Zm q0 hv2 λh2 q2 sb2=>QcC ?_);have m2:=m.draw D hy q2 sb2;have hT2:Dt h2 TO (xs.take k++olds.drop k):=sb2.extBut _ _ (D.it y hm).2.2.symm hT;have hln:(xs.take k++olds.drop k).length<=100:=by rw[QaU,Qbz,QbC];omega
  have hsm:=wK (xs:=xs) (olds:=olds) (k:=k) (v:=v) (by omega) (by omega) hv1;refine QcB (Qcc hT2 rfl ?_);refine QcB (wpAny_updateSeq hT2 rfl ?_ (by rw[Qbl,QcA];omega) (by rw[hsm,Qbl,QcA,QaU,Qbz,QbC];omega));have sb3:Heap.SameBut TO h2 (h2.update TO (Obj.mapSeq λx=>x.setIfInBounds k v)):=QaR ..;have hT3:Dt (h2.update TO (Obj.mapSeq λx=>x.setIfInBounds k v)) TO (xs.take (k+1)++olds.drop (k+1)):=by
   show (h2.update TO _).get? TO=_;rw[QaG _ hT2 rfl,<-hsm];simp[Obj.mapSeq]
  refine QcB (wpAny_letGo (QcC ?_));exact⟨k+1,_,hkl,rq,rq,rq,m2.other D sb3,hT3⟩
theorem Zb {z TI TO:Addr} {ls:List Src} {olds:YE} {i:Nat} {f1:Value} {Q:Fin->Shared->Prop} (hh:A.handled=none) (D:Apart z TI TO ls) (hz:IsZ s.heap z TI TO .none f1) (hTI:Dt s.heap TI (ls.map λx=>.ref x.it)) (hTO:Dt s.heap TO olds)
  (hat:∀x∈ls,SrcAt s.heap x i) (hne:ls≠[]) (hl2:olds.length=ls.length) (hsz:ls.length<=100) (hend:∃x∈ls,x.items[i]?=none)
  (hE:∀h' e,Rest z TO ls s.heap h'->(∃o,h'.get? e=some o/\o.cls=.type "StopIteration")->E (.ref e) { s with heap:=h' }) :
  wpAny (model prog w) A (Builtin.«zip.__next__» ⟨[.ref z],[]⟩) Q E s:=by
 show wpAny _ _ (field (.ref z) 2 >>= _) _ _ _;refine QcB (Qcz hz rfl (x:=.bool false) rfl ?_);show wpAny _ _ (field (.ref z) 3 >>= _) _ _ _;refine QcB (Qcz hz rfl (x:=.ref TI) rfl ?_);refine QcB (Qcc hTI rfl ?_);dsimp only;rw[if_neg (by cases ls with | nil=>exact absurd rfl hne | cons a r=>simp)];show wpAny _ _ (Builtin.SmallTypes.ownedTupleIsFree (.ref z) >>= _) _ _ _;refine QcB ?_;unfold Builtin.SmallTypes.ownedTupleIsFree;refine QcB (Qcz hz rfl (x:=.none) rfl (QcC ?_));simp only[if_true];refine QcB (wpAny_rule ?_);refine QcB (Qcz hz rfl (x:=.ref TO) rfl ?_);refine QcB (Qbd hz (by simp) λh₁ hz₁ hs₁=>?_);replace hz₁ : IsZ h₁ z TI TO .ellipsis f1:=hz₁;refine QcB ?_;have m0:Mid z TI TO ls [] olds i .ellipsis f1 s.heap 0 h₁:=by
  refine⟨hz₁,hs₁.extBut _ _ D.TIz hTI,λj x hj=>?_,λc o c1 _ _ e=>hs₁.extBut _ _ c1 e,hs₁.1⟩;have hm:=QaI hj;rw[if_neg (QbU _)];exact (hat x hm).keep (λo e=>hs₁.extBut _ _ (D.it x hm).1 e) (λo e=>hs₁.extBut _ _ (D.a x hm).1 e)
 have bV : Dt h₁ TO olds:=hs₁.extBut _ _ D.TOz hTO;refine Vh (λl b s'=>∃k h' ys,k<=ls.length/\l=((ls.map λx=>Value.ref x.it).drop k).zipIdx k/\b=⟨none,⟨⟩⟩/\s'={ s with heap:=h' }/\Mid z TI TO ls [] olds i .ellipsis f1 s.heap k h'/\Dt h' TO ys/\ys.length=ls.length/\∃x∈ls.drop k,x.items[i]?=none) (λb s' h=>?_) (λx r b s' h=>?_) _ _ _ ⟨0,h₁,olds,Qcx _,rq,rq,rq,m0,bV,hl2,hend⟩
 ·obtain⟨k,h',ys,hk,e1,rfl,rfl,m,hT,hy,x,hx,_⟩:=h;have:k=ls.length:=by
   have:=congrArg List.length e1;rw[List.length_nil,List.length_zipIdx,QbC,QbH] at this;omega
  subst this;rw[List.drop_length] at hx;cases hx
 ·obtain⟨k,h',ys,hk,e1,rfl,rfl,m,hT,hys,xe,hxe,hxn⟩:=h;have hkl:k < ls.length:=by
   have:=congrArg List.length e1;rw[Qby,List.length_zipIdx,QbC,QbH] at this;omega
  obtain⟨y,hy⟩ : ∃y,ls[k]?=some y:=⟨_,Qam hkl⟩;have hm:=QaI hy;rw[Qaj (by rw[QbH];exact hkl),List.zipIdx_cons,List.getElem_map] at e1;have ey:ls[k]=y:=(Qah.mp hy).2;rw[ey] at e1;injection e1 with e1 e2;subst e1 e2;refine QcB (wpAny_onRaise ?_);show wpAny _ _ (Builtin.SmallTypes.nextOf (.ref y.it) >>= _) _ _ _;have q0:=m.done k y hy;rw[if_neg (Qcg _)] at q0;cases hv:y.items[i]? with
  | none=>
   refine QcB (wI hh q0 hv λh₂ e hs₂ he=>?_);obtain⟨oe,hoe,hce⟩:=he;have hz₂ : IsZ h₂ z TI TO .ellipsis f1:=hs₂ _ _ (D.it y hm).1.symm m.hz;have hez:e≠z:=λx=>by subst x;rw[hz₂] at hoe;cases hoe;simp at hce
   refine Qbd hz₂ (by simp) λh₃ _ hs₃=>hE h₃ e (λc o c1 c2 c3 x=>hs₃.extBut _ _ c1 (hs₂ _ _ (λq=>c3 (q ▸ Qcn.mpr ⟨y,hm,rq⟩)) (m.rest c o c1 c2 c3 x))) ⟨oe,hs₃.extBut _ _ hez hoe,hce⟩
  | some v=>
   refine QcB (Zm q0 hv λh2 q2 sb2=>QcC ?_);have m2:=m.draw D hy q2 sb2;have hT2:Dt h2 TO ys:=sb2.extBut _ _ (D.it y hm).2.2.symm hT;refine QcB (Qcc hT2 rfl ?_);refine QcB (wpAny_updateSeq hT2 rfl ?_ (by rw[Qbl,QcA];omega) (by rw[Array.size_setIfInBounds,Qbl,QcA];omega));have sb3:Heap.SameBut TO h2 (h2.update TO (Obj.mapSeq λx=>x.setIfInBounds k v)):=QaR ..;have hT3:Dt (h2.update TO (Obj.mapSeq λx=>x.setIfInBounds k v)) TO (ys.set k v):=by
    show (h2.update TO _).get? TO=_;rw[QaG _ hT2 rfl,<-List.setIfInBounds_toArray];simp[Obj.mapSeq]
   refine QcB (wpAny_letGo (QcC ?_));refine⟨k+1,_,ys.set k v,hkl,rq,rq,rq,m2.other D sb3,hT3,by rw[List.length_set];exact hys,xe,?_,hxn⟩;rw[Qaj hkl,ey] at hxe;rcases Qce.mp hxe with z | z
   ·subst z;rw[hv] at hxn;cases hxn
   ·exact z
theorem jt {z TI TO:Addr} {f0 f1:Value} {Q:Option Value->Shared->Prop} (hz:IsZ s.heap z TI TO f0 f1) {Qi:YA} (h:wpAny (model prog w) A.in1 (Builtin.«zip.__next__» ⟨[.ref z],[]⟩) (λfin s'=>∃v,fin=.done (.ret v)/\Qi v s') (λ_ _=>False) s) (hQ:∀v s',Qi v s'->Q (some v) s') :
  wpAny (model prog w) A (pyNext (.ref z)) Q E s:=by
 have hT:s.TypeIs (.ref z) "zip":=⟨_,hz,rq⟩;unfold pyNext;refine QcB (Qcj (Qas (name:=Str.ofString "__next__") hT F.slot_zip_next (QbB F.slot_zip_next hT F.entry_zip_next (QcD h (λfin s' q=>?_) λ_ _ f=>f.elim) (F.args_zip_next_1 _))));obtain⟨v,e,q⟩:=q;exact⟨v,e,QcC (hQ v s' q)⟩
theorem WW {z TI TO:Addr} {f0 f1:Value} {Q:Option Value->Shared->Prop} {R:Heap->Prop} (hz:IsZ s.heap z TI TO f0 f1)
  (h:wpAny (model prog w) A.in1 (Builtin.«zip.__next__» ⟨[.ref z],[]⟩) (λ_ _=>False) (λv s'=>∃h' e,v=.ref e/\s'={ s with heap:=h' }/\R h'/\∃o,h'.get? e=some o/\o.cls=.type "StopIteration") s) (hQ:∀h',R h'->Q none { s with heap:=h' }) :
  wpAny (model prog w) A (pyNext (.ref z)) Q E s:=by
 have hT:s.TypeIs (.ref z) "zip":=⟨_,hz,rq⟩;unfold pyNext;refine QcB (Qcj (Qas (name:=Str.ofString "__next__") hT F.slot_zip_next (QbB F.slot_zip_next hT F.entry_zip_next (QcD h (λ_ _ f=>f.elim) λv s' q=>?_) (F.args_zip_next_1 _))));obtain⟨h',e,rfl,rfl,r,o,ho,hc⟩:=q;exact QcB (wpAny_isInstance (T:="StopIteration") (b:=true) ⟨o,ho,hc⟩ isSubtype_stop (QcC (hQ _ r)))
theorem VF {z TI TO:Addr} {f0 f1:Value} {Q:YA} (hz:IsZ s.heap z TI TO f0 f1) (h:Q (.ref z) s):wpAny (model prog w) A (pyIter (.ref z)) Q E s:=by
 have hT:s.TypeIs (.ref z) "zip":=⟨_,hz,rq⟩;refine wpAny_pyIter_slot hT F.slot_zip_iter (QbB F.slot_zip_iter hT F.entry_zip_iter ?_ (F.args_zip_iter_1 _));show wpAny _ _ (ret (.ref z)) _ _ s;exact QcC ⟨_,rq,"zip",_,hT,F.slot_zip_next.lookup,h⟩
theorem oE {elts:YJ} {x1} {pos:Pos} {z TI TO T:Addr} {f1:Value} {Q:YH} (hz:IsZ s.heap z TI TO (rawInt T) f1)
  (hQ:∀h',IsZ h' z TI TO .none f1->Heap.SameBut z s.heap h'->Q () { s with heap:=h' }):wpAny (model prog w) A (letOwnedTupleGo (.Tuple elts x1 pos) (.ref z) (.ref T)) Q E s:=by
 unfold letOwnedTupleGo;refine QcB (wpAny_load hz ?_);show wpAny _ _ (if (["enumerate","zip","dict_itemiterator","dict_reverseitemiterator","odict_iterator","itertools.zip_longest","itertools.pairwise"].contains "zip" &&
   (#[rawInt T,f1,.bool false,.ref TI,.ref TO]:Array Value)[0]? == some (rawInt T))=true then _ else _) Q E s
 rw[if_pos (by simp)];refine QcB (wpAny_rule ?_);show wpAny _ _ (setField (.ref z) 0 .none) Q E s;exact Qbd hz (by simp) λh' hz' hs'=>hQ h' hz' hs'
end
end PySem.ZZ
namespace PySem
namespace F
end F
end PySem
namespace PySem.ZZ
open PySem
def S7 (h:Heap) (a:Addr) (xs:Array Value) (c:String):Prop:=(c="list_iterator"/\h.IsList a xs)\/(c="tuple_iterator"/\h.IsTuple a xs)
theorem S7.src {h h':Heap} {a it:Addr} {xs:Array Value} {c:String} (q:S7 h a xs c) (k:∀o,h.get? a=some o->h'.get? a=some o) (e:h'.get? it=some { cls:=.type c,data:=.fields #[.ref a,.int 0 0] }):SrcAt h' ⟨it,a,xs⟩ 0:=by
 rcases q with⟨rfl,q⟩|⟨rfl,o,ho,r⟩
 ·exact .inl ⟨⟨_,e,rq,rq⟩,q.at k⟩
 ·exact .inr ⟨⟨_,e,rq,rq⟩,o,k o ho,r⟩
theorem S7.lt {h:Heap} {a:Addr} {xs:Array Value} {c:String} (q:S7 h a xs c):a < h.objs.size:=by
 rcases q with⟨rfl,o,e,_⟩|⟨rfl,o,e,_⟩
 ·exact Qco e
 ·exact Qco e
abbrev itO (c:String) (l:Addr):Obj:={ cls:=.type c,data:=.fields #[.ref l,.int 0 0] }
abbrev tuO (xs:Array Value):Obj:={ cls:=.type "tuple",data:=.seq xs }
abbrev z2a (h:Heap) (c1 c2:String) (l1 l2:Addr):Heap:=((((h.push (itO c1 l1)).push (itO c2 l2)).push (tuO #[.ref h.objs.size,.ref (h.push (itO c1 l1)).objs.size])).push (tuO #[.none,.none]))
abbrev z2 (h:Heap) (c1 c2:String) (l1 l2:Addr):Heap:=(z2a h c1 c2 l1 l2).push
 { cls:=.type "zip",data:=.fields #[.none,.bool false,.bool false,.ref ((h.push (itO c1 l1)).push (itO c2 l2)).objs.size,.ref (((h.push (itO c1 l1)).push (itO c2 l2)).push (tuO #[.ref h.objs.size,.ref (h.push (itO c1 l1)).objs.size])).objs.size] }
theorem jK (l1 l2:Addr) (xs ys:Array Value) (c1 c2:String):Meets (Builtin.«zip.__new__» ⟨[.type "zip",.ref l1,.ref l2],[]⟩) (λ_ R s=>S7 s.heap l1 xs c1/\S7 s.heap l2 ys c2/\R (.ok (.ret (.ref (z2a s.heap c1 c2 l1 l2).objs.size))) { s with heap:=z2 s.heap c1 c2 l1 l2 }):=
 .of_wp λprog w A R s h=>by
  obtain⟨hp,g,d,tk,os⟩:=s;obtain⟨hl1,hl2,h⟩:=h;have hsub:=sub_zip;rcases hl1 with⟨rfl,hl1⟩|⟨rfl,hl1⟩
  ·have hL1:Heap.IsList (Shared.heap ⟨hp,g,d,tk,os⟩) l1 xs:=hl1;rcases hl2 with⟨rfl,hl2⟩|⟨rfl,hl2⟩
   ·have hL2:Heap.IsList (Shared.heap ⟨hp.push (itO "list_iterator" l1),g,d,tk,os⟩) l2 ys:=Heap.IsList.push hl2 _
    wp_walk using Qbt hL1,Qbt hL2
    exact⟨_,rq,h⟩
   ·have hL2:Heap.IsTuple (Shared.heap ⟨hp.push (itO "list_iterator" l1),g,d,tk,os⟩) l2 ys:=Heap.IsTuple.push hl2 _
    wp_walk using Qbt hL1,Qbc hL2
    exact⟨_,rq,h⟩
  ·have hL1:Heap.IsTuple (Shared.heap ⟨hp,g,d,tk,os⟩) l1 xs:=hl1;rcases hl2 with⟨rfl,hl2⟩|⟨rfl,hl2⟩
   ·have hL2:Heap.IsList (Shared.heap ⟨hp.push (itO "tuple_iterator" l1),g,d,tk,os⟩) l2 ys:=Heap.IsList.push hl2 _
    wp_walk using Qbc hL1,Qbt hL2
    exact⟨_,rq,h⟩
   ·have hL2:Heap.IsTuple (Shared.heap ⟨hp.push (itO "tuple_iterator" l1),g,d,tk,os⟩) l2 ys:=Heap.IsTuple.push hl2 _
    wp_walk using Qbc hL1,Qbc hL2
    exact⟨_,rq,h⟩
abbrev z3a (h:Heap) (c1 c2 c3:String) (l1 l2 l3:Addr):Heap:=(((((h.push (itO c1 l1)).push (itO c2 l2)).push (itO c3 l3)).push (tuO #[.ref h.objs.size,.ref (h.push (itO c1 l1)).objs.size,.ref ((h.push (itO c1 l1)).push (itO c2 l2)).objs.size])).push (tuO #[.none,.none,.none]))
abbrev z3 (h:Heap) (c1 c2 c3:String) (l1 l2 l3:Addr):Heap:=(z3a h c1 c2 c3 l1 l2 l3).push
 { cls:=.type "zip",data:=.fields #[.none,.bool false,.bool false,.ref (((h.push (itO c1 l1)).push (itO c2 l2)).push (itO c3 l3)).objs.size,.ref ((((h.push (itO c1 l1)).push (itO c2 l2)).push (itO c3 l3)).push (tuO #[.ref h.objs.size,.ref (h.push (itO c1 l1)).objs.size,.ref ((h.push (itO c1 l1)).push (itO c2 l2)).objs.size])).objs.size] }
structure Do (h:Heap) (z TI TO:Addr) (ls:List Src) (h':Heap):Prop where
 hz:IsZ h' z TI TO .none (.bool false)
 hTI:Dt h' TI (ls.map λx=>.ref x.it)
 hTO:Dt h' TO (ls.map λ_=>.none)
 at_:∀x∈ls,SrcAt h' x 0
 ap:Apart z TI TO ls
 new:h.objs.size<=z/\h.objs.size<=TI/\h.objs.size<=TO/\∀x∈ls,h.objs.size<=x.it
 keep:∀c o,h.get? c=some o->h'.get? c=some o
theorem na {a b:Nat} (h:a≠b):@Ne Addr a b:=h
theorem apart2 {n l1 l2:Nat} {xs ys:Array Value} (a1:l1 < n) (a2:l2 < n):Apart (n+1+1+1+1:Nat) (n+1+1:Nat) (n+1+1+1:Nat) [⟨n,l1,xs⟩,⟨(n+1:Nat),l2,ys⟩]:=by
 refine⟨na (by omega),na (by omega),na (by omega),λx hx=>?_,λx hx=>?_,λx hx y hy=>?_,?_⟩
 ·rcases Qce.mp hx with rfl | hx
  ·exact⟨na (by dsimp only;omega),na (by dsimp only;omega),na (by dsimp only;omega)⟩
  ·cases Qbb.mp hx;exact⟨na (by dsimp only;omega),na (by dsimp only;omega),na (by dsimp only;omega)⟩
 ·rcases Qce.mp hx with rfl | hx
  ·exact⟨na (by dsimp only;omega),na (by dsimp only;omega)⟩
  ·cases Qbb.mp hx;exact⟨na (by dsimp only;omega),na (by dsimp only;omega)⟩
 ·rcases Qce.mp hx with rfl | hx
  ·rcases Qce.mp hy with rfl | hy
   ·exact na (by dsimp only;omega)
   ·cases Qbb.mp hy;exact na (by dsimp only;omega)
  ·cases Qbb.mp hx;rcases Qce.mp hy with rfl | hy
   ·exact na (by dsimp only;omega)
   ·cases Qbb.mp hy;exact na (by dsimp only;omega)
 ·show List.Nodup ([n,n+1]:List Nat);simp
section
variable {prog:Program} {w:World} {A:Around} {E:YA} {s:Shared}
theorem p7 {l1 l2:Addr} {xs ys:Array Value} {c1 c2:String} {Q:YA} (hl1:S7 s.heap l1 xs c1) (hl2:S7 s.heap l2 ys c2)
  (h:∀h' z TI TO i1 i2,Do s.heap z TI TO [⟨i1,l1,xs⟩,⟨i2,l2,ys⟩] h'->Q (.ref z) { s with heap:=h' }):wpAny (model prog w) A (call (.type "zip") [.ref l1,.ref l2]) Q E s:=by
 refine callType_new F.called_zip (by decide) (F.typeCall_zip_2 _ _) (F.newCall_zip_2 _ _) (λobj=>F.args_object_init_3 obj _ _) F.entry_zip_new (jK l1 l2 xs ys c1 c2) ⟨hl1,hl2,?_⟩;have g5:(z2 s.heap c1 c2 l1 l2).get? (z2a s.heap c1 c2 l1 l2).objs.size=some _:=QaM _ rfl;have g4:(z2 s.heap c1 c2 l1 l2).get? (((s.heap.push (itO c1 l1)).push (itO c2 l2)).push (tuO #[.ref s.heap.objs.size,.ref (s.heap.push (itO c1 l1)).objs.size])).objs.size=some (tuO #[.none,.none]):=Qax _ (QaM _ rfl);have g3:(z2 s.heap c1 c2 l1 l2).get? ((s.heap.push (itO c1 l1)).push (itO c2 l2)).objs.size=some (tuO #[.ref s.heap.objs.size,.ref (s.heap.push (itO c1 l1)).objs.size]):=Qax _ (Qax _ (QaM _ rfl));have g2:(z2 s.heap c1 c2 l1 l2).get? (s.heap.push (itO c1 l1)).objs.size=some (itO c2 l2):=Qax _ (Qax _ (Qax _ (QaM _ rfl)));have g1:(z2 s.heap c1 c2 l1 l2).get? s.heap.objs.size=some (itO c1 l1):=Qax _ (Qax _ (Qax _ (Qax _ (QaM _ rfl))));have kp:∀c o,s.heap.get? c=some o->(z2 s.heap c1 c2 l1 l2).get? c=some o:=λc o x=>Qax _ (Qax _ (Qax _ (Qax _ (Qax _ x))));have a1:=hl1.lt;have a2:=hl2.lt;refine⟨⟨_,g5,rq⟩,h _ _ _ _ s.heap.objs.size (s.heap.push (itO c1 l1)).objs.size ⟨g5,g3,g4,?_,?_,?_,kp⟩⟩
 ·intro x hx;rcases Qce.mp hx with rfl | hx
  ·exact hl1.src (λo e=>kp _ _ e) g1
  ·rcases Qce.mp hx with rfl | hx
   ·exact hl2.src (λo e=>kp _ _ e) g2
   ·cases hx
 ·simp only[QbZ];exact apart2 a1 a2
 ·simp only[QbZ,Qce,QbA,QcF,forall_eq_or_imp,forall_eq];omega
end
end PySem.ZZ
namespace PySem
namespace F
end F
end PySem
namespace PySem.ZZ
open PySem
section
variable {prog:Program} {w:World} {A:Around} {E:YA} {s:Shared}
structure Run (hb:Heap) (z TI TO:Addr) (ls:List Src) (rows:Nat->YE) (S:Addr) (ts:List Addr) (h:Heap):Prop where
 inc:ts.Pairwise (· < ·)
 lo:∀t∈ts,S < t/\t < h.objs.size
 at_:∀j t,ts[j]?=some t->Dt h t (rows j)
 keep:∀c o,hb.get? c=some o->h.get? c=some o
 hTI:Dt h TI (ls.map λx=>.ref x.it)
 hTO:∃olds,Dt h TO olds/\olds.length=ls.length
 src:∀x∈ls,SrcAt h x ts.length
 hz:(ts=[]/\IsZ h z TI TO .none (.bool false))\/∃(T:Addr) (f1:Value),ts[0]?=some T/\IsZ h z TI TO (rawInt T) f1
structure Below (hb:Heap) (z TI TO:Addr) (ls:List Src) (S:Addr):Prop where
 ap:Apart z TI TO ls
 old:hb.objs.size<=z/\hb.objs.size<=TI/\hb.objs.size<=TO/\∀x∈ls,hb.objs.size<=x.it
 lz:z < S
 lTI:TI < S
 lTO:TO < S
 it:∀x∈ls,x.it < S/\x.a < S
 base:hb.objs.size<=S
theorem Run.frame {hb:Heap} {z TI TO:Addr} {ls:List Src} {rows:Nat->YE} {S:Addr} {ts:List Addr} {h h':Heap} (B:Below hb z TI TO ls S) (r:Run hb z TI TO ls rows S ts h) (hs:h'.objs.size=h.objs.size) (k:∀c o,c≠S->h.get? c=some o->h'.get? c=some o):Run hb z TI TO ls rows S ts h':=by
 obtain⟨olds,o1,o2⟩:=r.hTO;refine⟨r.inc,λt ht=>by rw[hs];exact r.lo t ht,λj t e=>k _ _ (Qct (r.lo t (QaI e)).1) (r.at_ j t e),λc o e=>k _ _ (Qcp (Qba (Qco e) B.base)) (r.keep c o e),k _ _ (Qcp B.lTI) r.hTI,⟨olds,k _ _ (Qcp B.lTO) o1,o2⟩,λx hx=>?_,?_⟩
 ·exact (r.src x hx).keep (λo e=>k _ _ (Qcp (B.it x hx).1) e) (λo e=>k _ _ (Qcp (B.it x hx).2) e)
 ·rcases r.hz with⟨e,q⟩|⟨T,f1,e,q⟩
  ·exact .inl ⟨e,k _ _ (Qcp B.lz) q⟩
  ·exact .inr ⟨T,f1,e,k _ _ (Qcp B.lz) q⟩
theorem Run.more {hb:Heap} {z TI TO:Addr} {ls:List Src} {rows:Nat->YE} {S:Addr} {ts:List Addr} {h h':Heap} (B:Below hb z TI TO ls S) (r:Run hb z TI TO ls rows S ts h) (hS:S < h.objs.size) (hs:h'.objs.size=h.objs.size+1) (hr:Rest z TO ls h h')
  (hTI:Dt h' TI (ls.map λx=>.ref x.it)) (hTO:∃olds,Dt h' TO olds/\olds.length=ls.length) (src:∀x∈ls,SrcAt h' x (ts.length+1)) (new:Dt h' h.objs.size (rows ts.length)) (hz:∃(T:Addr) (f1:Value),(ts++[h.objs.size])[0]?=some T/\IsZ h' z TI TO (rawInt T) f1):Run hb z TI TO ls rows S (ts++[h.objs.size]) h':=by
 have fr:∀t,S < t->t≠z/\t≠TO/\t∉ls.map (·.it):=λt ht=>⟨λe=>by rw[e] at ht;exact Nat.lt_asymm ht B.lz,λe=>by rw[e] at ht;exact Nat.lt_asymm ht B.lTO,λe=>by
  obtain⟨x,hx,e'⟩:=Qcn.mp e;rw[<-e'] at ht;exact Nat.lt_asymm ht (B.it x hx).1⟩
 refine⟨?_,λt ht=>?_,λj t e=>?_,λc o e=>?_,hTI,hTO,λx hx=>by rw[QaU];exact src x hx,.inr hz⟩
 ·exact List.pairwise_append.mpr ⟨r.inc,Qaw _ _,λa ha b hb'=>by
   have:b=h.objs.size:=by simpa using hb'
   rw[this];exact (r.lo a ha).2⟩
 ·rw[hs];rcases QbJ.mp ht with ht | ht
  ·have:=r.lo t ht;exact⟨this.1,Nat.lt_succ_of_lt this.2⟩
  ·have:t=h.objs.size:=by simpa using ht
   rw[this];exact⟨hS,QbD _⟩
 ·by_cases c:j < ts.length
  ·rw[List.getElem?_append_left c] at e;have hlo:=r.lo t (QaI e);obtain⟨f1,f2,f3⟩:=fr t hlo.1;exact hr t _ f1 f2 f3 (r.at_ j t e)
  ·rw[List.getElem?_append_right (Nat.le_of_not_lt c)] at e;have hj:j - ts.length=0:=by
    have:=(Qah.mp e).1;rw[QaF] at this;omega
   rw[hj] at e;cases e;have:j=ts.length:=by omega
   rw[this];exact new
 ·have hlt:=Qco e;refine hr c o (λq=>?_) (λq=>?_) (λq=>?_) (r.keep c o e)
  ·rw[q] at hlt;exact absurd hlt (Nat.not_lt.mpr B.old.1)
  ·rw[q] at hlt;exact absurd hlt (Nat.not_lt.mpr B.old.2.2.1)
  ·obtain⟨x,hx,e'⟩:=Qcn.mp q;rw[<-e'] at hlt;exact absurd hlt (Nat.not_lt.mpr (B.old.2.2.2 x hx))
end
end PySem.ZZ
namespace PySem.ZZ
open PySem
section
variable {prog:Program} {w:World} {A:Around} {E:YA} {s:Shared}
structure Rows (ls:List Src) (n:Nat) (rows:Nat->YE):Prop where
 row:∀j,j < n->(rows j).length=ls.length/\∀(k:Nat) (x:Src),ls[k]?=some x->∃v,(rows j)[k]?=some v/\x.items[j]?=some v
 stop:∃x∈ls,x.items[n]?=none
 ne:ls≠[]
 few:ls.length<=100
 most:n<=1000
end
end PySem.ZZ
namespace L2
open PySem PySem.Spec PyProof.Rows
theorem Hh {h:Heap} {p q:Addr} {o o':Obj} (e:h.get? p=some o) (e':h.get? q=some o') (n:o.cls≠o'.cls):p≠q:=λz=>by
 rw[z,e'] at e;cases e;exact n rfl
theorem KN {h:Heap} {a:Addr} {xs ys:Array Value} (h1:h.IsList a xs) (h2:h.IsTuple a ys):False:=by
 obtain⟨o,e,c,_⟩:=h1;obtain⟨o',e',c',_⟩:=h2;rw[e'] at e;cases e;rw[c'] at c;injection c with q;exact absurd q (by decide)
section
variable {X:Cx}
end
mutual
inductive K5 (K:YD) (H:Hp):V->PyData->Prop
 | non:K5 K H .non .none
 | bl (b:Bool):K5 K H (.bl b) (.bool b)
 | int (i:Int):K5 K H (.int i) (.int i)
 | str (x:Str):K5 K H (.str x) (.str x)
 | tup {a:Addr} {xs:YG} {ds:List PyData}:SqT K H a xs->M4 K H xs ds->K5 K H (.ref a) (.tuple ds)
inductive M4 (K:YD) (H:Hp):YG->List PyData->Prop
 | nil:M4 K H [] []
 | cons {x:V} {d:PyData} {xs:YG} {ds:List PyData}:K5 K H x d->M4 K H xs ds->M4 K H (x::xs) (d::ds)
end
section
variable {X:Cx} {jb:YC} {U : St} {H:Hp} {s:Shared}
mutual
theorem K5.reads (I:Inv X jb U H s):∀{v:V} {d:PyData} {u:Value},K5 X.K H v d->RelV v u->∃as,Reads s.heap u d as
 | _,_,_,.non,r=>by cases (show _=Value.none from r);exact⟨_,.none⟩
 | _,_,_,.bl b,r=>by cases (show _=Value.bool b from r);exact⟨_,.bool b⟩
 | _,_,_,.int i,r=>by obtain⟨t,rfl⟩:=(show ∃t,_=Value.int i t from r);exact⟨_,.int i t⟩
 | _,_,_,.str x,r=>by obtain⟨t,rfl⟩:=(show ∃t,_=Value.str x t from r);exact⟨_,.str x t⟩
 | _,_,_,.tup (a:=a) (xs:=xs) e q,r=>by
  cases (show _=Value.ref a from r)
  obtain⟨its,rv,⟨o,ho,hc,n,hd⟩,_⟩:=I.tuple e;obtain⟨as,z⟩:=M4.reads I q rv;exact⟨_,.tuple ho hc hd (by simpa using z)⟩
theorem M4.reads (I:Inv X jb U H s):∀{xs:YG} {ds:List PyData} {us:YE},M4 X.K H xs ds->Vals xs us->∃as,ReadsAll s.heap us ds as
 | _,_,_,.nil,.nil=>⟨_,.nil⟩
 | _,_,_,.cons p q,.cons r t=>by
  obtain⟨as,a1⟩:=K5.reads I p r;obtain⟨bs,b1⟩:=M4.reads I q t;exact⟨_,.cons a1 b1⟩
end
end
section
variable {X:Cx} {K:YD}
theorem nO (h:X.K=K) (hu:X.A.units+64 < cLine):OpR X (compareOp .Eq) (λx y H Q=>∃d e,K5 K H x d/\K5 K H y e/\SeqAt.shaped d=true/\SeqAt.shaped e=true/\Q (.bl (PyData.eqv d e)) H):=by
 subst h;intro jb s U H x y v u Q I rx ry h;obtain⟨d,e,p,p',sd,se,q⟩:=h;obtain⟨as,r1⟩:=p.reads I rx;obtain⟨bs,r2⟩:=p'.reads I ry;exact eq_dataH r1 r2 sd se hu ⟨.bl (PyData.eqv d e),H,I,rq,q⟩
theorem FW {es:YJ} {k:Nat} {pos:Pos} {t:TGs} {n:Nat} (hK:X.K=K) (hc:X.calm=true) (h:PGs X es t)
  (hn:(assignEach es X.env).length=n:=by rfl) (hst:(assignEach es X.env).findIdx? (·.1)=none:=by rfl):PG X (.Tuple es k pos) (A8 K n t):=hK ▸ CQ hc h hn hst
end
end L2
namespace L2
open PySem PySem.Spec PyProof.Rows
abbrev vg:YE:=[.type "ValueError",.type "Exception",.type "BaseException",.type "object"]
structure XCl (K:YD) (C:Addr):Prop where
 ex:PySem.W.excIn K C vg "ValueError.__new__"=true
 ga:findIn K (.ref C) "__getattribute__"=some (some (.builtin "BaseException.__getattribute__"))
 gn:findIn K (.ref C) "__getattr__"=some none
 ca:findIn K (.ref C) "__class__"=some (some (.builtin "object.__class__"))
 mo:PySem.W.subIn K (.ref C) (.type "object")=some true
 mb:PySem.W.subIn K (.ref C) (.type "BaseException")=some true
 kp:keepIn K (.ref C)=true
section
variable {K:YD} {C:Addr}
theorem XCl.obj (T:XCl K C) {h:Heap} (X:K.In h):∃bm N nm q bs hdct sn sub ab col dd k0 k1 k2 k3 k5 mN,h.get? C=some (excClassObj nm q C N bs bm hdct sn sub ab col dd k0 k1 k2 k3 k5 "ValueError.__new__")/\h.Ns N mN/\mN "__init__"=none/\OwnTail h vg bm:=by
 have q:=T.ex;unfold PySem.W.excIn at q;split at q
 ·rename_i dd cd sl ho;split at q
  ·rename_i C' bm k0 k1 k2 k3 n k5 hm hs;simp only[QbE,beq_iff_eq,Bool.not_eq_true'] at q;obtain⟨⟨⟨⟨⟨rfl,rfl⟩,hdel⟩,ht⟩,hok⟩,hni⟩:=q;obtain⟨nm,bs,mro,ns,qn,hd,sn,sub,ab,col,del⟩:=cd;dsimp only at hm hdel hok hni;subst hm hdel;have hsl:sl=#[k0,k1,k2,k3,some (.builtin "ValueError.__new__"),k5]:=by
    obtain⟨l⟩:=sl;simp only at hs;rw[hs]
   subst hsl;exact⟨bm,ns,nm,qn,bs,hd,sn,sub,ab,col,dd,k0,k1,k2,k3,k5,_,X _ _ ho,.of_isNs (PySem.W.isNs_of_in X hok),PySem.W.nsMap_none_of_in X hok hni,PySem.W.tail_of_in X ht⟩
  ·cases q
 ·cases q
end
def XAt (a C:Addr) (h:Heap):Prop:=∃o vs,h.get? a=some o/\o.cls=.ref C/\o.data=.fields vs/\vs[2]?=some .none
section
variable {prog:Program} {w:World} {A:Around} {E:YA} {h:Heap} {g:Array GenState} {d:Drawn} {t:Nat} {os:OsState} {K:YD} {a C:Addr} {o:Obj}
end
def xo (a C:Addr):HO:=.ext (XAt a C)
section
variable {X:Cx} {jb:YC} {U : St} {H:Hp} {s:Shared}
end
def XT (B:Heap) (e C:Addr) (fl:Option Value) (h:Heap):Prop:=
 ∃oe vs,h.get? e=some oe/\oe.cls=.ref C/\oe.data=.fields vs/\vs[2]?=some .none /\
  match fl with
  | none=>vs[1]?=some .none
  | some f=>∃T oT ts,vs[1]?=some (.ref T)/\B.get? T=none/\T≠e/\h.get? T=some oT/\oT.data=.fields ts/\ts[3]?=some f
theorem XT.at {B h:Heap} {e C:Addr} {fl:Option Value} (x:XT B e C fl h):XAt e C h:=by
 obtain⟨oe,vs,h1,h2,h3,h4,_⟩:=x;exact⟨oe,vs,h1,h2,h3,h4⟩
section
variable {M:Model} {A:Around} {E:YA} {s:Shared} {B:Heap} {env:Env} {outer l:List Env} {L e C:Addr} {Q:YH}
end
theorem BK.there {P:Program} {w:World} {H:Hp} {h:Heap} {a:Addr} {o:HO} (x:BK P w H h a o):∃u,h.get? a=some u:=by
 cases o with
 | lst xs=>obtain⟨_,its,n,_,q⟩:=x;exact⟨_,q⟩
 | tup xs=>obtain⟨_,its,_,ob,q,_⟩:=x;exact⟨_,q⟩
 | dK kvs=>obtain⟨_,_,vs,_,ob,es,ep,q,_⟩:=x;exact⟨_,q⟩
 | dT kvs=>obtain⟨_,_,xs,_,ob,es,ep,q,_⟩:=x;exact⟨_,q⟩
 | set S n=>obtain⟨ob,es,ep,t,q,_⟩:=x;exact⟨_,q⟩
 | ins C dx fs=>obtain⟨_,_,_,q,_⟩:=x;exact⟨_,q⟩
 | own y=>exact x
 | xd fs=>obtain⟨mA,⟨od,es,ep,q,_⟩,_⟩:=x;exact⟨_,q⟩
 | rng lo hi=>obtain⟨t,u,v,q⟩:=x;exact⟨_,q⟩
 | frz ob u=>exact⟨_,x.1⟩
 | tbl ps=>exact⟨_,x⟩
 | met f y=>exact⟨_,x⟩
 | ext φ=>exact x.2.1
section
variable {P:Program} {w:World} {outer:List Env} {H H':Hp} {s s':Shared} {e C:Addr} {B h2:Heap} {fl:Option Value}
end
section
variable {X:Cx} {jb:YC} {U : St} {H H':Hp} {s s':Shared} {e C:Addr} {B h2:Heap} {fl:Option Value}
end
section
variable {M:Model} {A:Around} {E:YA} {h:Heap} {g:Array GenState} {d:Drawn} {t:Nat} {os:OsState} {K:YD} {e C HC:Addr}
end
abbrev Cx.by (X:Cx) (pn:YC) (E:YA):Cx:={ X with pn:=pn,xe:=E }
section
variable {X:Cx} {jb jw pn:YC} {U : St} {H:Hp} {s:Shared} {E:YA} {ev:Value}
theorem Inv.by (I:Inv X jb U H s) (E:YA):Inv (X.by (X.pn++jb) E) [] U H s:=
 ⟨⟨I.ok.mod,I.ok.kind,I.ok.glob,I.ok.blt,I.ok.above,I.ok.inj,I.ok.has,I.ok.cab,I.ok.hd,I.ok.frames,I.ok.stk,I.ok.exf,I.ok.bs,I.ok.bsz,I.ok.Xc,I.ok.Ss,I.ok.Ko,I.ok.frf⟩,I.os,I.bare,I.base,I.loc,I.cell,I.free,I.Ir,
  λp hp=>I.pin p (by simpa using hp),I.hok,I.len⟩
end
end L2
namespace L2
open PySem PySem.Spec PyProof.Rows PySem.SeqAt
theorem BR {c:Const} {k:Nat} {p:Pos} {es:YJ} {env:Env}:starEach (.Constant c k p::es) env=(false,eval (.Constant c k p) env)::starEach es env:=by rfl
section
variable {X:Cx}
end
section
variable {prog:Program} {w:World} {A:Around} {E:YA} {s:Shared}
end
end L2
namespace L2
open PySem PySem.Spec PyProof.Rows
section
variable {X:Cx} {jb:YC} {U : St} {H:Hp} {s:Shared} {a:Addr} {kvs:YM} {o:Obj}
end
theorem Ri:entryFor table "dict_itemiterator.__iter__"=some Builtin.«dict_keyiterator.__iter__»:=entryFor_alias (id':="dict_keyiterator.__iter__") (by kernel_rfl) rfl (by trivial) (by kernel_rfl)
theorem YW {prog:Program} {w:World} {A:Around} {E:YA} {s:Shared} {it d:Addr} {i n ep:Nat} {ok ov:Value} {Q:YA} (hit:IsItemIter s.heap it d i n ep ok ov) (h:Q (.ref it) s) :
  wpAny (model prog w) A (pyIter (.ref it)) Q E s:=by
 have hT:s.TypeIs (.ref it) "dict_itemiterator":=⟨_,hit,rq⟩;refine wpAny_pyIter_slot hT F.slot_dict_itemiterator_iter (QbB F.slot_dict_itemiterator_iter hT Ri ?_ (F.args_dict_itemiterator_iter_1 _));exact QcC ⟨_,rq,"dict_itemiterator",_,hT,Qac.lookup,h⟩
section
variable {a l:Addr} {o:Obj} {kvs:YM} {g:TG} {tb:TS} {D:Ends} {U : St} {H:Hp} {tt:TT} {te tk tv:TE} {Q:VK}
theorem pQ {K:YD} {xs:YG} {σ0:St} {H0:Hp} (Pv:YN) (h0:Pv 0 σ0 H0) (hl:∀i U H',i<=xs.length->Pv i U H'->SqT K H' a xs)
  (hs:∀i x U H',xs[i]?=some x->Pv i U H'->g x U H' fun σ3 H3=>tt σ3 H3 λb H4=>if b=true then tk σ3 H4 λy H5=>tv σ3 H5 λz H6=>∃(kvs:YM) (k:Key),H6 l=some (.dK kvs)/\y=kV k/\kvs.length < sizeLine/\Pv (i+1) σ3 (upd H6 l (.dK (putK kvs k z))) else Pv (i+1) σ3 H4)
  (hd:∀ U H',Pv xs.length U H'->Q (.ref l) H'):Ud (Itt K a) g tt tk tv Q σ0 H0 l:=by
 unfold Ud;refine⟨λi m U H'=>m=xs.length - i/\i<=xs.length/\Pv i U H',⟨xs.length,by simp,Qcx _,h0⟩,?_⟩;rintro i m U H' ⟨rfl,hi,p⟩;have q:=hl i U H' hi p;by_cases hlt:i < xs.length
 ·refine .inr ⟨⟨xs,xs[i],q,by simp[hlt]⟩,Pv (i+1),fun σ3 H3 p'=>⟨xs.length - (i+1),by omega,rq,hlt,p'⟩,λx H2 y=>?_⟩;obtain⟨e,y⟩:=y;subst e;exact hs i x U _ (y xs q) p
 ·have e:i=xs.length:=by omega
  subst e;exact .inl ⟨⟨xs,q,Qcw _⟩,hd U H' p⟩
end
open PySem.W (KasT kas_asc kas_desc kas_rev kas_tail3 kas_descPart kas_count kas_place kas_bin kas_sort)
def GZ {α : Type} (n:Nat) (P:α->Prop):KasT α->Prop
 | .ret a=>P a
 | .ask i j k=>i < n/\j < n/\∀b,GZ n P (k b)
theorem JH {α β : Type} {n:Nat} {P:α->Prop} {Q:β->Prop} {f:α->KasT β}:∀t:KasT α,GZ n P t->(∀a,P a->GZ n Q (f a))->GZ n Q (t.bind f)
 | .ret a,h,q=>q a h
 | .ask i j k,h,q=>⟨h.1,h.2.1,λb=>JH (k b) (h.2.2 b) q⟩
def Pm (n:Nat) (p:Array Nat):Prop:=p.toList.Perm (List.range n)
theorem Pm.rev {n:Nat} {p:Array Nat} (h:Pm n p) (i j:Nat):Pm n (kas_rev p i j):=(Array.perm_iff_toList_perm.mp (mirror_perm p i j ((j - i) / 2))).trans h
theorem Pm.bub {n:Nat} {p:Array Nat} (h:Pm n p) (k d:Nat):Pm n (bubble p k d):=(Array.perm_iff_toList_perm.mp (bubble_perm p k d)).trans h
theorem Pm.lt {n:Nat} {p:Array Nat} (h:Pm n p) (n0:0 < n) (i:Nat):p.getD i 0 < n:=by
 by_cases hi:i < p.size
 ·have e:p.getD i 0=p[i]:=by simp[hi]
  rw[e];have hm:p[i]∈p.toList:=by simp
  exact Qcb.mp (h.mem_iff.mp hm)
 ·have e:p.getD i 0=0:=by simp[hi]
  rw[e];exact n0
section
variable {n:Nat} (n0:0 < n)
include n0
theorem Xx {p:Array Nat} (h:Pm n p):∀f k,GZ n (λ_=>True) (kas_asc p f k)
 | 0,k=>trivial
 | f+1,k=>⟨h.lt n0 _,h.lt n0 _,λb=>by
  cases b with
  | true=>exact trivial
  | false=>exact Xx h f (k+1)⟩
theorem Q6:∀f (p:Array Nat),Pm n p->∀k q,GZ n (λr:Array Nat×Nat×Nat=>Pm n r.1) (kas_desc f p k q)
 | 0,p,h,k,q=>h
 | f+1,p,h,k,q=>⟨h.lt n0 _,h.lt n0 _,λb=>by
  cases b with
  | true=>
   show GZ n _ (if q > 0 then kas_desc f (kas_rev p (k - (q+1)) k) (k+1) 0 else kas_desc f p (k+1) 0)
   split
   ·exact Q6 f _ (h.rev _ _) _ _
   ·exact Q6 f _ h _ _
  | false=>exact⟨h.lt n0 _,h.lt n0 _,λd=>by
    cases d with
    | true=>exact h
    | false=>exact Q6 f _ h _ _⟩⟩
theorem cQ {p:Array Nat} (h:Pm n p) (a b:Nat):GZ n (λr:Nat×Array Nat=>Pm n r.2) (kas_tail3 a b p):=
 JH _ (Xx n0 (h.rev 0 a) _ _) λm _=>h.rev 0 a
theorem S6 {p:Array Nat} (h:Pm n p) (a b:Nat):GZ n (λr:Nat×Array Nat=>Pm n r.2) (kas_descPart a b p):=
 JH _ (Q6 n0 _ p h _ _) λr hr=>by
  show GZ n _ (if r.2.2 > 0 then _ else _)
  split
  ·exact cQ n0 (Pm.rev hr _ _) _ _
  ·exact cQ n0 hr _ _
theorem Yn {p:Array Nat} (h:Pm n p) (a:Nat):GZ n (λr:Nat×Array Nat=>Pm n r.2) (kas_count a p):=
 JH _ (Xx n0 h _ _) λm _=>by
  show GZ n _ (if (m == a)=true then _ else if m > 1 then _ else _)
  split
  ·exact h
  ·split
   ·refine⟨h.lt n0 _,h.lt n0 _,λb=>?_⟩;cases b with
    | true=>exact h
    | false=>exact S6 n0 (h.rev _ _) _ _
   ·exact S6 n0 h _ _
theorem S5 {p:Array Nat} (h:Pm n p) (k:Nat):∀f l r,GZ n (λ_=>True) (kas_place p k f l r)
 | 0,_,_=>trivial
 | f+1,l,r=>by
  show GZ n _ (if l ≥ r then _ else _)
  split
  ·exact trivial
  ·refine⟨h.lt n0 _,h.lt n0 _,λb=>?_⟩;cases b with
   | true=>exact S5 h k f _ _
   | false=>exact S5 h k f _ _
theorem iM:∀f (p:Array Nat),Pm n p->∀k,GZ n (Pm n) (kas_bin f p k)
 | 0,p,h,_=>h
 | f+1,p,h,k=>JH _ (S5 n0 h k _ _ _) λl _=>iM f _ (h.bub _ _) _
theorem cR:GZ n (Pm n) (kas_sort n):=
 JH _ (Yn n0 (p:=List.toArray (List.range n)) (show Pm n _ by unfold Pm;exact List.Perm.refl _) n) λr hr=>by
  show GZ n _ (if r.1 < n then _ else _)
  split
  ·exact iM n0 _ _ hr _
  ·exact hr
end
section
variable {prog:Program} {w:World} {A:Around} {E:YA} {s:Shared}
theorem ZF {l:Addr} {vs:YE} {Q:YA} (hl:s.heap.IsList l vs.toArray) (h1:vs.length < 2)
  (h:∀D h' c,s.heap.objs.size<=D->h'.get? D=some (seqObj "list" vs.toArray c)->(∀b o,s.heap.get? b=some o->h'.get? b=some o)->Q (.ref D) { s with heap:=h' }):wpAny (model prog w) A (call (.builtin "sorted") [.ref l]) Q E s:=by
 have h2:vs.toArray.size < 2:=by rw[Qbl];exact h1
 have hz:vs.length<=sizeLine:=Qcs (Ar (by omega));refine Calls.call_function_entry (Q:=Q) kind_sorted plain_sorted entry_sorted (args_sorted1 (.ref l)) ?_;unfold Builtin.«sorted»;refine QcB (m:=checkCount "sorted" 1 1 [Value.ref l].length) (QcC ?_);refine QcB (collect_list (vs:=vs) hl ?_ hz);have k1:∀b o,s.heap.get? b=some o->((s.heap.push (seqObj "list" #[] 0)).update s.heap.objs.size (Obj.mapSeq (·++vs.toArray))).get? b=some o:=λb o q=>by
  rw[QaB _ _ (Qct (Qco q))];exact Qax _ q
 have z1:((s.heap.push (seqObj "list" #[] 0)).update s.heap.objs.size (Obj.mapSeq (·++vs.toArray))).objs.size=s.heap.objs.size+1:=by rw[Heap.size_update,QbZ]
 generalize ((s.heap.push (seqObj "list" #[] 0)).update s.heap.objs.size (Obj.mapSeq (·++vs.toArray)))=g1 at k1 z1;refine QcB (wpAny_newList ?_ hz);have oD:(g1.push (seqObj "list" vs.toArray 0)).get? g1.objs.size=some (seqObj "list" vs.toArray 0):=QaM _ rfl;have k2:∀b o,s.heap.get? b=some o->b≠g1.objs.size/\(g1.push (seqObj "list" vs.toArray 0)).get? b=some o:=λb o q=>⟨by rw[z1];exact Qcp (Nat.lt_succ_of_lt (Qco q)),Qax _ (k1 b o q)⟩;refine QcB (Qch (QbB slot_list_sort ⟨_,oD,rq⟩ entry_list_sort ?_ (args_list_sort _)));rw[list_sort_plain];have zD:s.heap.objs.size<=g1.objs.size:=by rw[z1];exact Nat.le_succ _
 generalize g1.objs.size=D at oD k2 zD;generalize hg2:g1.push (seqObj "list" vs.toArray 0)=g2 at oD k2;refine QcB (listItems_at (a:=D) oD rfl ?_);refine QcB (listUpdate_at (a:=D) oD rfl ?_ (by rw[Qbl];exact hz) (Qcx _));obtain⟨e1,o1⟩ : ∃e1,(g2.update D (Obj.mapSeq λ_=>(#[]:Array Value))).get? D=some (seqObj "list" #[] e1):=⟨_,get?_update_seq oD λ_=>#[]⟩;have k3:∀b o,s.heap.get? b=some o->b≠D/\(g2.update D (Obj.mapSeq λ_=>(#[]:Array Value))).get? b=some o:=λb o q=>⟨(k2 b o q).1,by rw[QaB _ _ (Ne.symm (k2 b o q).1)];exact (k2 b o q).2⟩;have zip2:(arrOf (SortSt.mk' general' (vs.toArray.zip vs.toArray) #[] 7 none)).map (·.2)=vs.toArray:=by
  show (vs.toArray.zip vs.toArray).map (·.2)=vs.toArray;apply Array.toList_inj.mp;simp[Array.toList_zip,List.map_snd_zip]
 dsimp only;generalize g2.update D (Obj.mapSeq λ_=>(#[]:Array Value))=g3 at o1 k3 ⊢;refine QcB (seqEpoch_at (a:=D) o1 rfl ?_);refine QcB (wpAny_newTuple ?_ (by simpa using hz));refine QcB (wpAny_newList (items:=[]) ?_ (Qcx _));refine Qch ?_;have o5:∀x y:Obj,((g3.push x).push y).get? D=some (seqObj "list" #[] e1):=λx y=>Qax _ (Qax _ o1);have k5:∀x y:Obj,∀b o,s.heap.get? b=some o->b≠D/\((g3.push x).push y).get? b=some o:=λx y b o q=>⟨(k3 b o q).1,Qax _ (Qax _ (k3 b o q).2)⟩;dsimp only;rw[if_pos h2,if_pos h2];refine QcB (QcC ?_);rw[StateT.run_pure];refine QcB (QcC ?_);dsimp only;refine QcB (seqEpoch_at (a:=D) (o5 _ _) rfl ?_);rw[zip2];refine QcB (listUpdate_at (a:=D) (o5 _ _) rfl ?_ (Qcx _) (by first | (rw[Qbl];exact hz) | (rw[Qbl];omega)))
 simp only[bne_self_eq_false,Bool.false_eq_true,if_false];obtain⟨c,oF⟩ : ∃c,(((g3.push { cls:=.type "tuple",data:=.seq vs.toArray }).push { cls:=.type "list",data:=.seq #[] }).update D (Obj.mapSeq λ_=>vs.toArray)).get? D=some (seqObj "list" vs.toArray c):=⟨_,get?_update_seq (o5 _ _) λ_=>vs.toArray⟩;refine QcC ⟨_,rq,QcC ⟨_,rq,h D _ c zD oF λb o q=>?_⟩⟩;rw[QaB _ _ (Ne.symm (k3 b o q).1)];exact (k5 _ _ b o q).2
end
theorem xQ {h:Heap} {a:Addr} {m m':YB} (x:h.Ns a m) (y:h.Ns a m'):m=m':=by
 obtain⟨o,es,ep,h1,h2,_,h3⟩:=x;obtain⟨o',es',ep',g1,g2,_,g3⟩:=y;rw[h1] at g1;cases g1;rw[h2] at g2;cases g2
 funext k
 rw[<-h3,<-g3]
theorem XS {α β : Type} (d:α) (e:β):∀{vs:List α} {its:List β} {F:α->β->Prop} {is:List Nat},Paired F vs its->(∀i∈is,i < vs.length)->Paired F (is.map λi=>vs.getD i d) (is.map λi=>its.getD i e)
 | vs,its,F,[],_,_=>.nil
 | vs,its,F,i::is,r,h=>by
  refine .cons ?_ (XS d e r λj hj=>h j (QaJ _ hj));have hi:=h i (QaV ..);have go:∀{l:List α} {m:List β} {i:Nat},Paired F l m->i < l.length->F (l.getD i d) (m.getD i e):=by
   intro l m i r
   induction r generalizing i with
   | nil=>intro h;exact absurd h (QbU _)
   | cons a t ih=>
    intro h;cases i with
    | zero=>exact a
    | succ i=>exact ih (Nat.lt_of_succ_lt_succ h)
  exact go r hi
theorem range_getD {α : Type} (d:α) (vs:List α):(List.range vs.length).map (λi=>vs.getD i d)=vs:=by
 apply List.ext_getElem
 ·simp
 ·intro i h1 h2;simp[h2]
def kW (K:YD) (H:Hp) (vs:YG):Prop:=∀v∈vs,∃t ns,v=.ref t/\SqT K H t ((ns:List Int).map V.int)/\0 < ns.length
theorem gO {X:Cx} {jb:YC} {U : St} {H:Hp} {s:Shared} {h':Heap} (I:Inv X jb U H s) (k:∀b o,H b≠none\/(∃u,X.base.get? b=some u)->s.heap.get? b=some o->h'.get? b=some o):∀{vs:YG} {its:YE},Vals vs its->kW X.K H vs ->
  ∃fs,PySem.W.KatTups h' its fs/\fs.length=its.length/\∀f∈fs,∃i t,f=Value.int i t
 | _,_,.nil,_=>⟨[],trivial,rfl,λf h=>nomatch h⟩
 | _,_,.cons r t,h=>by
  obtain⟨fs,f1,f2,f3⟩:=gO I k t λv hv=>h v (QaJ _ hv);obtain⟨tp,ns,rfl,hq,hn⟩:=h _ (QaV ..);cases r;obtain⟨its,rv,⟨o,ho,hc,n,hd⟩,_⟩:=I.tuple hq;have ho':h'.get? tp=some o:=by
   refine k tp o ?_ ho;rcases hq with (e |⟨_,e⟩) |⟨_,_,_,e,_⟩
   ·exact .inl (by rw[e];exact λz=>nomatch z)
   ·exact .inl (by rw[e];exact λz=>nomatch z)
   ·exact .inr ⟨_,I.mod.kin _ _ e⟩
  cases ns with
  | nil=>exact absurd hn (Qcg _)
  | cons n0 nr=>
   cases rv with
   | cons r0 rr=>
    obtain⟨tk,rfl⟩:=r0;exact⟨Value.int n0 tk::fs,PySem.W.KatTups.cons ho' hc hd (by simp) f1,by simp[f2],λf hf=>by
     rcases Qce.mp hf with rfl | hf
     ·exact⟨_,_,rq⟩
     ·exact f3 f hf⟩
end L2
namespace L2
open PySem PySem.Spec PyProof.Rows
theorem bG:typeLookup (.type "list") "keys"=pure none:=by rw[typeLookup_type,builtinLookup_eq_fast];kernel_rfl
theorem bH:typeLookup (.type "list") "__getattr__"=pure none:=by rw[typeLookup_type,builtinLookup_eq_fast];kernel_rfl
theorem Zj:isSubtype (.type "AttributeError") (.type "AttributeError")=pure true:=by rw[isSubtype_type];kernel_rfl
section
variable {M:Model} {A:Around} {E:YA} {s:Shared}
theorem tG {e:Addr} {o:Obj} {x nm T:Value} {Q:YH} (ho:s.heap.get? e=some o) (hc:o.cls=.type "AttributeError") (hd:o.data=.fields #[T,.none,.none,.none,.bool false,.none,unsetMember,unsetMember])
  (h:∀h',(∀b u,b≠e->s.heap.get? b=some u->h'.get? b=some u)->(∃o',h'.get? e=some o'/\o'.cls=.type "AttributeError")->Q () { s with heap:=h' }):wpAny M A (noteAttr (.ref e) x nm) Q E s:=by
 obtain⟨oc,od,oa,os⟩:=o;cases hc;cases hd;have hT:s.TypeIs (.ref e) "AttributeError":=⟨_,ho,rq⟩;unfold noteAttr;refine QcB ?_;unfold lacksNameAndObj;refine QcB (wpAny_isInstance hT Zj ?_);simp only[Bool.not_true,Bool.false_eq_true,if_false];refine QcB (wpAny_load ho ?_);refine QcC ?_;rw[if_pos rfl];refine QcB (wpAny_rule ?_);refine QcB (wpAny_typeOf hT ?_);show wpAny _ _ (layMembers e 6 #[nm,x]) _ _ _;unfold layMembers;refine QcB (wpAny_load ho ?_);refine wpAny_update ho ?_;refine h _ (λb u nb q=>?_) ⟨_,QaG _ ho rfl,rq⟩;rw[QaB _ _ (Ne.symm nb)];exact q
end
section
variable {prog:Program} {w:World} {A:Around} {E:YA} {s:Shared}
theorem rB {α : Type} {x:Value} {nm msg:Str} {Q:α->Shared->Prop} (hm:msg.length<=sizeLine) (hh:A.handled=none) (hq:∀h' tk' e o,(∀b u,s.heap.get? b=some u->h'.get? b=some u)->h'.get? e=some o->o.cls=.type "AttributeError"->E (.ref e) { s with heap:=h',toks:=tk' }) :
  wpAny (model prog w) A (raiseAttrError x nm msg:Sem α) Q E s:=by
 unfold raiseAttrError;refine QcB (wpAny_mkStr (QcB ?_) hm);unfold newExc newTuple;refine QcB (Qbq ?_);refine QcB (m:=firstArgMember _ _) (wpAny_of_eq (a:=Value.none) (by kernel_rfl) ?_);refine Qbq ?_;refine QcB (wpAny_mkText (QcB ?_));refine tG (QaM _ rfl) rfl rfl λh' k1 ⟨o',k2,k3⟩=>?_;unfold raiseNew;refine QcB (wpAny_handled ?_);rw[hh]
 first
  | refine wpAny_throw ?_
  | refine QcB (QcC (wpAny_throw ?_))
 exact hq _ _ _ o' (λb u q=>k1 b u (Qcp (by rw[QbZ];exact Nat.lt_succ_of_lt (Qco q))) (Qax _ (Qax _ q))) k2 k3
end
section
variable {prog:Program} {w:World} {A:Around} {E:YA} {h:Heap} {g:Array GenState} {d:Drawn} {t:Nat} {os:OsState} {a:Addr} {xs:Array Value} {c:Nat}
theorem tO {tk:Tok} {Q:Fin->Shared->Prop} (hh:A.handled=none) (hx:h.get? a=some (seqObj "list" xs c)) (hq:∀h' tk' e o,(∀b u,h.get? b=some u->h'.get? b=some u)->h'.get? e=some o->o.cls=.type "AttributeError"->E (.ref e) ⟨h',g,d,tk',os⟩) :
  wpAny (model prog w) A (Builtin.«object.__getattribute__» ⟨[.ref a,.str "keys" tk],[]⟩) Q E ⟨h,g,d,t,os⟩:=by
 have hT:(⟨h,g,d,t,os⟩ : Shared).TypeIs (.ref a) "list":=⟨_,hx,rq⟩;have f4:=bG
 repeat (any_goals (first | assumption | wp_step))
 exact rB (Qcs (Ar (by trivial))) hh λh' tk' e o k1 k2 k3=>hq h' tk' e o k1 k2 k3
theorem xR {tk:Tok} {R:Result->Shared->Prop} (hh:A.handled=none) (hx:h.get? a=some (seqObj "list" xs c)) (hq:∀h' tk' e o,(∀b u,h.get? b=some u->h'.get? b=some u)->h'.get? e=some o->o.cls=.type "AttributeError"->R (.error (.ref e)) ⟨h',g,d,tk',os⟩) :
  codeAny (model prog w) A (.call (.builtin "list.__getattribute__") ⟨[.ref a,.str "keys" tk],[]⟩) R ⟨h,g,d,t,os⟩:=
 codeAny_call_builtin F.slot_list_getattribute.plain F.entry_list_ga (F.slot_list_getattribute.check _ _ _ _ _ _ _ _ (show (⟨h,g,d,t,os⟩ : Shared).TypeIs (.ref a) "list" from⟨_,hx,rq⟩) (F.args_list_getattribute_2 _ _) (tO hh hx hq))
theorem CC {tk:Tok} {Q:YA} (hh:A.handled=none) (hx:h.get? a=some (seqObj "list" xs c)) (hq:∀h' tk' e o,(∀b u,h.get? b=some u->h'.get? b=some u)->h'.get? e=some o->o.cls=.type "AttributeError"->E (.ref e) ⟨h',g,d,tk',os⟩):wpAny (model prog w) A (getAttrBy (.ref a) (.str "keys" tk) false) Q E ⟨h,g,d,t,os⟩:=by
 have hT:(⟨h,g,d,t,os⟩ : Shared).TypeIs (.ref a) "list":=⟨_,hx,rq⟩;have f2:=F.slot_list_getattribute.lookup;have f3:=F.slot_list_getattribute.bind (.ref a);have f5:=bH
 repeat (any_goals (first | assumption | wp_step))
 refine xR hh hx λh' tk' e o k1 k2 k3=>?_;have hT2:(⟨h',g,d,tk',os⟩ : Shared).TypeIs (.ref e) "AttributeError":=⟨_,k2,k3⟩;have f6:=Zj
 repeat (any_goals (first | assumption | wp_step))
 all_goals exact hq h' tk' e o k1 k2 k3
theorem xT {Q:Option Value->Shared->Prop} (hh:A.handled=none) (hx:h.get? a=some (seqObj "list" xs c)) (hq:∀h' tk',(∀b u,h.get? b=some u->h'.get? b=some u)->Q none ⟨h',g,d,tk',os⟩):wpAny (model prog w) A (getAttr? (.ref a) "keys") Q E ⟨h,g,d,t,os⟩:=by
 unfold getAttr? getAttrBy?;refine QcB (wpAny_mkText (QcB (Qcj ?_)));refine CC hh hx λh' tk' e o k1 k2 k3=>?_;have hT2:(⟨h',g,d,tk',os⟩ : Shared).TypeIs (.ref e) "AttributeError":=⟨_,k2,k3⟩;refine QcB (wpAny_isInstance hT2 Zj ?_);rw[if_pos rfl];exact QcC (hq _ _ k1)
end
theorem Io:plainId "dict.update.loop"=true:=by trivial
theorem Qm:entryFor table "dict.update.loop"=some Builtin.«dict.update.loop»:=entryFor_of_fast (by kernel_rfl)
section
variable {prog:Program} {w:World} {κ : Type} [DecidableEq κ] {knd:KeyKind prog w κ} {A:Around} {E:YA} {s:Shared} {R:Result->Shared->Prop}
end
section
variable {prog:Program} {w:World} {κ : Type} [DecidableEq κ] {knd:KeyKind prog w κ} {A:Around} {E:YA} {s:Shared}
end
open PySem.W (KasT kas_asc kas_desc kas_rev kas_tail3 kas_descPart kas_count kas_place kas_bin kas_sort)
def Fy {α : Type} (lt:Nat->Nat->Bool):KasT α->α
 | .ret a=>a
 | .ask i j k=>Fy lt (k (lt i j))
theorem JG {α β : Type} {lt:Nat->Nat->Bool} {f:α->KasT β}:∀t:KasT α,Fy lt (t.bind f)=Fy lt (f (Fy lt t))
 | .ret a=>rfl
 | .ask i j k=>JG (k (lt i j))
theorem Vb {α : Type} {lt:Nat->Nat->Bool} {n:Nat} {P:α->Prop}:∀t:KasT α,GZ n P t->P (Fy lt t)
 | .ret a,h=>h
 | .ask i j k,h=>Vb (k (lt i j)) (h.2.2 _)
theorem gP {α : Type} {lt:Nat->Nat->Bool} {n:Nat} {P:α->Prop} {Q:α->Shared->Prop} {s:Shared} {cmp:Nat->Nat->(Bool->Shared->Prop)->Shared->Prop} (hc:∀i j C,i < n->j < n->C (lt i j) s->cmp i j C s):∀t:KasT α,GZ n P t->Q (Fy lt t) s->t.kasWp cmp Q s
 | .ret a,h,q=>q
 | .ask i j k,h,q=>hc i j _ h.1 h.2.1 (gP hc (k (lt i j)) (h.2.2 _) q)
section
variable {n:Nat} {ky:Nat->Int}
def Gk (ky:Nat->Int) (p:Array Nat) (i:Nat):Int:=ky (p.getD i 0)
def ltK (ky:Nat->Int) (i j:Nat):Bool:=decide (ky i < ky j)
def Inj (n:Nat) (ky:Nat->Int):Prop:=∀i j,i < n->j < n->ky i=ky j->i=j
def Xy (ky:Nat->Int) (p:Array Nat) (m:Nat):Prop:=∀i,i+1 < m->Gk ky p i < Gk ky p (i+1)
def Fall (ky:Nat->Int) (p:Array Nat) (m:Nat):Prop:=∀i,i+1 < m->Gk ky p (i+1) < Gk ky p i
def Lg (ky:Nat->Int) (p:Array Nat) (m:Nat):Prop:=∀i j,i < j->j < m->Gk ky p i < Gk ky p j
theorem Xy.all {p:Array Nat} {m:Nat} (h:Xy ky p m):Lg ky p m:=λi j hij hj=>by
 induction j with
 | zero=>omega
 | succ j ih=>
  have h1:=h j hj;by_cases e:i=j
  ·rw[e];exact h1
  ·exact Int.lt_trans (ih (by omega) (by omega)) h1
theorem oh {α : Type} {l:List α} (nd:l.Nodup) {i j:Nat} (hi:i < l.length) (hj:j < l.length) (e:l[i]=l[j]):i=j:=by
 rcases Nat.lt_trichotomy i j with h | h | h
 ·exact absurd e (Qak.mp nd i j hi hj h)
 ·exact h
 ·exact absurd e.symm (Qak.mp nd j i hj hi h)
theorem Pm.size {p:Array Nat} (h:Pm n p):p.size=n:=by
 have:=List.Perm.length_eq h;simpa using this
theorem Pm.ne (hi:Inj n ky) {p:Array Nat} (h:Pm n p) {i j:Nat} (a:i < n) (b:j < n) (ne:i≠j):Gk ky p i≠Gk ky p j:=λe=>by
 have n0:0 < n:=by omega
 have hs:=h.size;have e:=hi _ _ (h.lt n0 i) (h.lt n0 j) e;have nd:p.toList.Nodup:=(List.Perm.nodup_iff h).mpr List.nodup_range;have e1:p.getD i 0=p.toList[i]'(by simp[hs,a]):=by simp[hs,a]
 have e2:p.getD j 0=p.toList[j]'(by simp[hs,b]):=by simp[hs,b]
 rw[e1,e2] at e;exact ne (oh nd _ _ e)
theorem WL (hi:Inj n ky) {p:Array Nat} (h:Pm n p):∀f k,1<=k->k+f<=n->Xy ky p k->∃m,Fy (ltK ky) (kas_asc p f k)=m/\k<=m/\m<=k+f/\Xy ky p m/\(m < k+f->Gk ky p m < Gk ky p (m - 1))
 | 0,k,_,_,r=>⟨k,rfl,Qcw _,Qcw _,r,λz=>absurd z (Qcg _)⟩
 | f+1,k,h1,h2,r=>by
  show ∃m,Fy (ltK ky) (if ltK ky (p.getD k 0) (p.getD (k - 1) 0)=true then KasT.ret k else kas_asc p f (k+1))=m/\_
  by_cases c:Gk ky p k < Gk ky p (k - 1)
  ·rw[if_pos (show ltK ky _ _=true from QbY c)]
   exact⟨k,rq,Qcw _,by omega,r,λ_=>c⟩
  ·rw[if_neg (show ¬ltK ky _ _=true from λz=>c (Qbp z))]
   obtain⟨m,e,a,b,d,g⟩:=WL hi h f (k+1) (by omega) (by omega) (λi hi'=>by
    by_cases e:i+1=k
    ·have:=h.ne hi (i:=i) (j:=i+1) (by omega) (by omega) (by omega);have c:¬Gk ky p (i+1) < Gk ky p i:=by rw[<-e] at c;exact c
     omega
    ·exact r i (by omega))
   exact⟨m,e,by omega,by omega,d,λz=>g (by omega)⟩
theorem Z6 (hi:Inj n ky) {p:Array Nat} (h:Pm n p):∀f k,1<=k->k+f<=n->Fall ky p k->∃m,Fy (ltK ky) (kas_desc f p k 0)=(p,m,0)/\k<=m/\m<=k+f/\Fall ky p m
 | 0,k,_,_,r=>⟨k,rfl,Qcw _,Qcw _,r⟩
 | f+1,k,h1,h2,r=>by
  show ∃m,Fy (ltK ky) (if ltK ky (p.getD k 0) (p.getD (k - 1) 0)=true then (if 0 > 0 then kas_desc f (kas_rev p (k - (0+1)) k) (k+1) 0 else kas_desc f p (k+1) 0) else KasT.ask (p.getD (k - 1) 0) (p.getD k 0) λd=>if d=true then KasT.ret (p,k,0) else kas_desc f p (k+1) (0+1))=(p,m,0)/\_
  by_cases c:Gk ky p k < Gk ky p (k - 1)
  ·rw[if_pos (show ltK ky _ _=true from QbY c),if_neg (Qcg 0)]
   obtain⟨m,e,a,b,d⟩:=Z6 hi h f (k+1) (by omega) (by omega) (λi hi'=>by
    by_cases e:i+1=k
    ·rw[<-e] at c;exact c
    ·exact r i (by omega))
   exact⟨m,e,by omega,by omega,d⟩
  ·rw[if_neg (show ¬ltK ky _ _=true from λz=>c (Qbp z))]
   have ne:=h.ne hi (i:=k) (j:=k - 1) (by omega) (by omega) (by omega);show ∃m,Fy (ltK ky) (if ltK ky (p.getD (k - 1) 0) (p.getD k 0)=true then KasT.ret (p,k,0) else kas_desc f p (k+1) (0+1))=(p,m,0)/\_
   rw[if_pos (show ltK ky _ _=true from QbY (show Gk ky p (k - 1) < Gk ky p k by omega))]
   exact⟨k,rq,Qcw _,by omega,r⟩
theorem Za {p q:Array Nat} {i j:Nat} (e:p[i]?=q[j]?):Gk ky p i=Gk ky q j:=by
 unfold Gk;rw[Array.getD_eq_getD_getElem?,Array.getD_eq_getD_getElem?,e]
theorem qj {p:Array Nat} {m i:Nat} (hm:m<=p.size) (hi:i < m):Gk ky (kas_rev p 0 m) i=Gk ky p (m - 1 - i):=by
 apply Za;unfold kas_rev;rw[getElem?_mirror_all hm,if_pos ⟨Qcx _,hi⟩];congr 1;omega
theorem qm {p:Array Nat} {k l i:Nat} (hk:k < p.size) (hl:l<=k):Gk ky (bubble p k (k - l)) i=if i=l then Gk ky p k else if l < i/\i<=k then Gk ky p (i - 1) else Gk ky p i:=by
 have e:=getElem?_bubble hk (k - l) (by omega) i;rw[show k - (k - l)=l by omega] at e;split at e
 ·rename_i h;rw[if_pos h];exact Za e
 ·rename_i h;rw[if_neg h];split at e
  ·rename_i h;rw[if_pos h];exact Za e
  ·rename_i h;rw[if_neg h];exact Za e
def Done (n:Nat) (ky:Nat->Int) (r:Nat×Array Nat):Prop:=1<=r.1/\r.1<=n/\Xy ky r.2 r.1
theorem qW (hi:Inj n ky) {p:Array Nat} (h:Pm n p) {m:Nat} (h1:1<=m) (h2:m<=n) (f:Fall ky p m):Done n ky (Fy (ltK ky) (kas_tail3 m n p)):=by
 have hs:=h.size;have r0:Xy ky (kas_rev p 0 m) m:=λi hi'=>by
  rw[qj (by omega) (by omega),qj (by omega) (by omega)];have:=f (m - 1 - (i+1)) (by omega);rw[show m - 1 - (i+1)+1=m - 1 - i by omega] at this;exact this
 obtain⟨k,e,a,b,d,_⟩:=WL hi (h.rev 0 m) (n - m) m h1 (by omega) r0;unfold kas_tail3;rw[JG,e];exact⟨by show 1<=k;omega,by show k<=n;omega,d⟩
theorem mR (hi:Inj n ky) {p:Array Nat} (h:Pm n p) (n0:2<=n):Done n ky (Fy (ltK ky) (kas_count n p)):=by
 obtain⟨m,e,a,b,d,g⟩:=WL hi h (n - 1) 1 (Qcw _) (by omega) (λi hi'=>by omega);unfold kas_count;rw[JG,e];by_cases c1:m=n
 ·rw[if_pos (by rw[c1];exact beq_self_eq_true n)];exact⟨a,by show m<=n;omega,d⟩
 ·rw[if_neg (λz=>c1 (eq_of_beq z))];by_cases c2:m > 1
  ·rw[if_pos c2];show Done n ky (Fy (ltK ky) (if ltK ky (p.getD 0 0) (p.getD (m - 1) 0)=true then KasT.ret (m,p) else kas_descPart m n (kas_rev p 0 m)))
   rw[if_pos (show ltK ky _ _=true from QbY (d.all 0 (m - 1) (by omega) (by omega)))]
   exact⟨a,by show m<=n;omega,d⟩
  ·rw[if_neg c2];have m1:m=1:=by omega
   subst m1;have g:=g (by omega);obtain⟨k,e,a,b,d⟩:=Z6 hi h (n - (1+1)) (1+1) (by omega) (by omega) (λi hi'=>by
    have:i=0:=by omega
    subst this;exact g)
   unfold kas_descPart;rw[JG,e];show Done n ky (Fy (ltK ky) (if 0 > 0 then _ else kas_tail3 k n p))
   rw[if_neg (Qcg 0)];exact qW hi h (by omega) (by omega) d
theorem RG (hi:Inj n ky) {p:Array Nat} (h:Pm n p) {k:Nat} (hk:k < n) (R:Lg ky p k):∀f l r,r<=l+f->l<=r->r<=k->(∀i,i < l->Gk ky p i < Gk ky p k)->(∀i,r<=i->i < k->Gk ky p k < Gk ky p i)->∃m,Fy (ltK ky) (kas_place p k f l r)=m/\m<=k/\(∀i,i < m->Gk ky p i < Gk ky p k)/\∀i,m<=i->i < k->Gk ky p k < Gk ky p i
 | 0,l,r,h1,h2,h3,h4,h5=>⟨l,rfl,by omega,h4,λi a b=>h5 i (by omega) b⟩
 | f+1,l,r,h1,h2,h3,h4,h5=>by
  unfold kas_place;by_cases c:l ≥ r
  ·rw[if_pos c];exact⟨l,rq,by omega,h4,λi a b=>h5 i (by omega) b⟩
  ·rw[if_neg c];show ∃m,Fy (ltK ky) (if ltK ky (p.getD k 0) (p.getD ((l+r) / 2) 0)=true then kas_place p k f l ((l+r) / 2) else kas_place p k f ((l+r) / 2+1) r)=m/\_
   have hm:(l+r) / 2 < r/\l<=(l+r) / 2:=by omega
   generalize (l+r) / 2=q at hm ⊢;by_cases d:Gk ky p k < Gk ky p q
   ·rw[if_pos (show ltK ky _ _=true from QbY d)]
    refine RG hi h hk R f l q (by omega) (by omega) (by omega) h4 λi a b=>?_;by_cases e:i=q
    ·rw[e];exact d
    ·exact Int.lt_trans d (R q i (by omega) b)
   ·rw[if_neg (show ¬ltK ky _ _=true from λz=>d (Qbp z))]
    refine RG hi h hk R f (q+1) r (by omega) (by omega) (by omega) (λi a=>?_) h5;have ne:=h.ne hi (i:=q) (j:=k) (by omega) (by omega) (by omega);have lt:Gk ky p q < Gk ky p k:=by omega
    by_cases e:i=q
    ·rw[e];exact lt
    ·exact Int.lt_trans (R i q (by omega) (by omega)) lt
theorem gA (hi:Inj n ky):∀f (p:Array Nat),Pm n p->∀k,k+f=n->Lg ky p k->Lg ky (Fy (ltK ky) (kas_bin f p k)) n
 | 0,p,h,k,e,R=>by rw[<-e];exact R
 | f+1,p,h,k,e,R=>by
  have hs:=h.size;show Lg ky (Fy (ltK ky) ((kas_place p k k 0 k).bind λl=>kas_bin f (bubble p k (k - l)) (k+1))) n;rw[JG];obtain⟨l,el,a,b,c⟩:=RG hi h (k:=k) (by omega) R k 0 k (by omega) (Qcx _) (Qcw _) (λi z=>absurd z (QbU _)) (λi x y=>by omega);rw[el];refine gA hi f _ (h.bub _ _) (k+1) (by omega) λi j hij hj=>?_;rw[qm (by omega) a,qm (by omega) a];by_cases ei:i=l
  ·rw[if_pos ei,if_neg (by omega),if_pos ⟨by omega,by omega⟩];exact c _ (by omega) (by omega)
  ·rw[if_neg ei];by_cases ej:j=l
   ·rw[if_neg (by omega),if_pos ej];exact b _ (by omega)
   ·rw[if_neg ej];by_cases gi:l < i
    ·rw[if_pos ⟨gi,by omega⟩,if_pos ⟨by omega,by omega⟩];exact R _ _ (by omega) (by omega)
    ·rw[if_neg (λz=>gi z.1)];by_cases gj:l < j
     ·rw[if_pos ⟨gj,by omega⟩];exact R _ _ (by omega) (by omega)
     ·rw[if_neg (λz=>gj z.1)];exact R _ _ (by omega) (by omega)
theorem qX (hi:Inj n ky) (n0:2<=n):Lg ky (Fy (ltK ky) (kas_sort n)) n:=by
 have h0:Pm n (List.toArray (List.range n)):=by unfold Pm;exact List.Perm.refl _
 obtain⟨a,b,c⟩:=mR hi h0 n0;have hp:=Vb (lt:=ltK ky) _ (Yn (by omega) h0 n);unfold kas_sort;rw[JG];generalize Fy (ltK ky) (kas_count n (List.toArray (List.range n)))=r at a b c hp;show Lg ky (Fy (ltK ky) (if r.1 < n then kas_bin (n - max r.1 1) r.2 (max r.1 1) else KasT.ret r.2)) n
 have em:max r.1 1=r.1:=by omega
 by_cases d:r.1 < n
 ·rw[if_pos d,em];exact gA hi _ _ hp _ (by omega) c.all
 ·rw[if_neg d];have:r.1=n:=by omega
  rw[<-this];exact c.all
theorem Lg.list {p:Array Nat} (h:Pm n p) (R:Lg ky p n):(p.toList.map ky).Pairwise (· < ·):=by
 have hs:=h.size;rw[Qak];intro i j hi hj hij;have hi':i < n:=by simpa [hs] using hi
 have hj':j < n:=by simpa [hs] using hj
 have:=R i j hij hj';unfold Gk at this;have e1:p.getD i 0=p[i]'(by omega):=by simp[hs,hi']
 have e2:p.getD j 0=p[j]'(by omega):=by simp[hs,hj']
 rw[e1,e2] at this;simpa using this
end
theorem dg {α β : Type} (d:α) (e:β) {F:α->β->Prop}:∀{l:List α} {m:List β} {i:Nat},Paired F l m->i < l.length->F (l.getD i d) (m.getD i e):=by
 intro l m i r
 induction r generalizing i with
 | nil=>intro h;exact absurd h (QbU _)
 | cons a t ih=>
  intro h;cases i with
  | zero=>exact a
  | succ i=>exact ih (Nat.lt_of_succ_lt_succ h)
section
variable {prog:Program} {w:World} {A:Around} {s:Shared}
theorem AE {fin:Bool} {C:Bool->Shared->Prop} (hC:C fin s):∀(l:YE),(∀y∈l,∃a t,y=Value.int a t)->∀i,PySem.W.KatLex prog w A true fin C (l.zip l) i s
 | [],_,_=>hC
 | y::r,h,i=>by
  obtain⟨a,t,rfl⟩:=h y (QaV ..);rw[List.zip_cons_cons];refine kat_cons (wpAny_eqBool_int ?_);rw[show (a == a)=true from beq_self_eq_true a]
  exact PySem.W.kat_yes (AE hC r (λy hy=>h y (QaJ _ hy)) (i+1))
end
end L2
namespace PySem
open Sem (wp)
open AutoSeq1 (wpAny_loadPart')
section
variable {prog:Program} {w:World} {A:Around} {E:YA} {s:Shared}
theorem Xq {e it l:Addr} {i:Nat} {j:Int} {items:Array Value} {old:Value} {Q:Option Value->Shared->Prop} (hh:A.handled=none) (he:IsEnum s.heap e it j old) (hit:s.heap.IsListIter it l i) (hl:s.heap.IsList l items) (hx:items[i]?=none)
  (hQ:∀h',Heap.ExtBut it s.heap h'->Q none { s with heap:=h' }):wpAny (model prog w) A (pyNext (.ref e)) Q E s:=by
 have hT:s.TypeIs (.ref e) "enumerate":=⟨_,he,rq⟩;unfold pyNext;refine QcB (Qcj (Qas (name:=Str.ofString "__next__") hT F.slot_enumerate_next (QbB F.slot_enumerate_next hT F.entry_enumerate_next ?_ (F.args_enumerate_next_1 _))));show wpAny _ _ (field (.ref e) 2 >>= _) _ _ _;refine QcB (Qcz he rfl (x:=.ref it) rfl (QcB (wpAny_nextOf_list_end hh hit hl hx λh' x he' hx'=>?_)));obtain⟨o,ho,hc⟩:=hx';exact QcB (wpAny_isInstance (T:="StopIteration") (b:=true) ⟨o,ho,hc⟩ isSubtype_stop (QcC (hQ _ he')))
end
end PySem
namespace L2
open PySem PySem.Spec PyProof.Rows
def S9 (K:YD) (a:Addr) (lo:Nat):It:=
 ⟨λi H=>∃xs x,SqL K H a xs/\xs[i]?=some x,λi H v H'=>∃p x,H p=none/\v=.ref p/\H'=upd H p (.tup [.int ((lo+i:Nat):Int),x])/\∀xs,SqL K H a xs->xs[i]?=some x,λi H=>∃xs,SqL K H a xs/\xs.length<=i⟩
theorem iY {P:Program} {w:World} {K:YD} {elts:YJ} {k:Nat} {pos:Pos} (a e it:Addr) (lo:Nat) (nei:e≠it):Turn P w K (.Tuple elts k pos) (S9 K a lo) [e,it] e (λi h=>(∃old,IsEnum h e it ((lo+i:Nat):Int) old)/\h.IsListIter it a i) where
 mem:=by simp
 obj:=λi h st b hb=>by
  obtain⟨⟨old,he⟩,o,ho,hc,hd⟩:=st;rcases Qce.mp hb with rfl | hb
  ·exact⟨_,he,λv z=>by cases (show Data.fields _=Data.cell v from z)⟩
  ·have:b=it:=by simpa using hb
   subst this;exact⟨o,ho,λv z=>by rw[hd] at z;cases z⟩
 keep:=λi h h' st k=>by
  obtain⟨⟨old,he⟩,hi⟩:=st;exact⟨⟨old,k e (by simp) _ he⟩,hi.at λo q=>k it (by simp) o q⟩
 item:=by
  intro X hP hw hK hc i jb s U H E I hf st hg;subst hP hw hK;obtain⟨xs,x,hq,hx⟩:=hg;obtain⟨its,rv,p,hz⟩:=I.list hq;obtain⟨u,hu,ru⟩:=rv.get hx;obtain⟨⟨old,he⟩,hit⟩:=st;have hts:s.heap.IsList a its.toArray:=p.isList;have ane:a≠e:=λz=>by
   obtain⟨o,ho,hcl,_⟩:=hts;rw[z,he] at ho;cases ho;injection hcl with q;exact absurd q (by decide)
  have ani:a≠it:=λz=>by
   obtain⟨o,ho,hcl,_⟩:=hts;obtain⟨o',ho',hcl',_⟩:=hit;rw[z,ho'] at ho;cases ho;rw[hcl'] at hcl;injection hcl with q;exact absurd q (by decide)
  have hlt:i < its.toArray.size:=by
   have:=(Qah.mp hu).1;simpa using this
  have D:=(Draws.list (prog:=X.prog) (w:=X.w) (A:=X.A.in1) (I.ok.hd hc) it a ani its.toArray).from lo;refine wpAny_pyNext_enum_itemD D he ⟨i,rq,Qcs hlt,hit,hts⟩ (by omega) nei (by simp[nei,ane.symm]) λy h1 tk hP ho hst hT hsz hk=>?_;obtain⟨i',ei,hy⟩:=hP;have:i'=i:=by omega
  subst this;have ey:y=u:=by
   have h2:its.toArray[i']?=some u:=by simpa using hu
   rw[h2] at hy;exact (QbN hy).symm
  subst ey;refine⟨_,rq,wpAny_letOwnedTupleGo_enum ho λh2 he2 hs2=>?_⟩;have hlt2:s.heap.objs.size≠e:=Qct (Qco he);have hT2:h2.get? s.heap.objs.size=some { cls:=.type "tuple",data:=.seq #[.int ((lo+i':Nat):Int) tk,y] }:=(hs2.2 _ hlt2).trans hT;have new:BK X.prog X.w (upd H s.heap.objs.size (.tup [.int ((lo+i':Nat):Int),x])) h2 s.heap.objs.size (.tup [.int ((lo+i':Nat):Int),x]):=
   ⟨by show 2<=sizeLine;decide,[.int ((lo+i':Nat):Int) tk,y],.cons ⟨tk,rq⟩ (.cons ru .nil),_,hT2,rq,0,rq⟩
  have I1:=I.Oo (h':=h2) (t':=tk+1) (Qcw _) (λb q hb z=>(hs2.2 b (λw=>hb (by simp[w]))).trans (hk b q (λw=>hb (by simp[w])) (λw=>hb (by simp[w])) z)) hf new;refine⟨.ref s.heap.objs.size,_,I1,rq,⟨s.heap.objs.size,x,I.hok.fresh (Qcw _),rq,rq,λys hy'=>by rw[I.bI hy' hq];exact hx⟩,⟨⟨y,?_⟩,?_⟩,λb hb=>?_⟩
  ·have:=he2;rw[show ((lo+(i'+1):Nat):Int)=((lo+i':Nat):Int)+1 by omega];exact this
  ·obtain⟨i2,e2,_,st2,_⟩:=hst;have:i2=i'+1:=by omega
   subst this;exact st2.at λo q=>(hs2.2 it (Ne.symm nei)).trans q
  ·have hb':b < s.heap.objs.size:=by
    rcases Qce.mp hb with rfl | hb
    ·exact Qco he
    ·have:b=it:=by simpa using hb
     subst this;obtain⟨o,ho',_⟩:=hit;exact Qco ho'
   rw[Ao (Qcp hb')];exact (hf b hb).1
 done:=by
  intro X hP hw hK hc i jb s U H E I hf st hg;subst hP hw hK;obtain⟨xs,hq,hx⟩:=hg;obtain⟨its,rv,p,hz⟩:=I.list hq;obtain⟨⟨old,he⟩,hit⟩:=st;have hl:=rv.length;exact Xq (I.ok.hd hc) he hit p.isList (by simp;omega) λh' eb=>⟨rq,I.M7 (t':=s.toks) (λb o hb q=>eb b o (λz=>hb (by simp[z])) q) hf⟩
 self:=λ_ _ _ _ _ st h=>let ⟨⟨_,he⟩,_⟩:=st;wpAny_pyIter_enum he h
section
variable {X:Cx}
theorem uM {jb:YC} {U : St} {H:Hp} {s:Shared} {R:It->Hp->Prop} {E:YA} {elts:YJ} {k:Nat} {pos:Pos} {a:Addr} {lo:Nat} {tk:Nat} (I:Inv X jb U H s) (q:R (S9 X.K a lo) H) :
  wpAny (model X.prog X.w) X.A (pyIter (.ref (s.heap.objs.size+1))) (PIE X jb U (.Tuple elts k pos) R) E
   { s with heap:=(s.heap.push { cls:=.type "list_iterator",data:=.fields #[.ref a,.int 0 0] }).push { cls:=.type "enumerate",data:=.fields #[.none,.bool false,.ref s.heap.objs.size,rawInt (lo:Int),.none,.none] },toks:=tk }:=by
 have hz:(s.heap.push { cls:=.type "list_iterator",data:=.fields #[.ref a,.int 0 0] }).objs.size=s.heap.objs.size+1:=QbZ ..;have he:IsEnum ((s.heap.push { cls:=.type "list_iterator",data:=.fields #[.ref a,.int 0 0] }).push { cls:=.type "enumerate",data:=.fields #[.none,.bool false,.ref s.heap.objs.size,rawInt (lo:Int),.none,.none] }) (s.heap.objs.size+1) s.heap.objs.size (lo:Int) .none:=by
  have:=QaM (s.heap.push { cls:=.type "list_iterator",data:=.fields #[.ref a,.int 0 0] }) (o:={ cls:=.type "enumerate",data:=.fields #[.none,.bool false,.ref s.heap.objs.size,rawInt (lo:Int),.none,.none] }) rfl;rw[hz] at this;exact this
 refine wpAny_pyIter_enum he ⟨s.heap.objs.size+1,[s.heap.objs.size+1,s.heap.objs.size],_,_,H,rq,I.kept (t':=tk) λb o e=>Qax _ (Qax _ e),iY a (s.heap.objs.size+1) s.heap.objs.size lo (Nat.succ_ne_self _),⟨⟨.none,he⟩,⟨_,Qax _ (QaM _ rfl),rq,rq⟩⟩,λb hb=>?_,q⟩;have hb':s.heap.objs.size<=b:=by
  simp only[Qce,QbA,QcF] at hb;rcases hb with rfl | rfl
  ·exact Nat.le_succ _
  ·exact Qcw _
 exact I.PX hb' (I.hok.fresh hb')
end
section
variable {X:Cx}
def AO (K:YD) (lo:Nat) (tl:TE):TI:=fun U H R=>tl U H λx H1=>∃a,x=.ref a/\(∃xs,SqL K H1 a xs)/\R (S9 K a lo) H1
theorem dZ {jb:YC} {U : St} {H:Hp} {s:Shared} {R:It->Hp->Prop} {elts:YJ} {k:Nat} {pos:Pos} {a:Addr} {xs:YG} (I:Inv X jb U H s) (hq:SqL X.K H a xs) (q:R (S9 X.K a 0) H) :
  wpAny (model X.prog X.w) X.A (call (.type "enumerate") [.ref a]) (λv s1=>wpAny (model X.prog X.w) X.A (pyIter v) (PIE X jb U (.Tuple elts k pos) R) X.xe s1) X.xe s:=by
 obtain⟨its,rv,p,hz⟩:=I.list hq;obtain⟨⟨c,dct,dt,sl⟩,hl,hc,n,hd⟩:=p.isList;replace hc:c=.type "list":=hc;replace hd:dt=.seq its.toArray n:=hd;subst hc hd;refine callType_new F.called_enumerate (by decide) (F.typeCall_enumerate_1 _) (F.newCall_enumerate_1 _) (λobj=>F.args_object_init_2 obj _) F.entry_enumerate_new (meets_enumerate_newL a its.toArray n dct sl) ⟨hl,?_⟩;have hz:(s.heap.push { cls:=.type "list_iterator",data:=.fields #[.ref a,.int 0 0] }).objs.size=s.heap.objs.size+1:=QbZ ..;show _/\_;refine⟨⟨_,QaM _ rfl,rq⟩,?_⟩;rw[hz];exact uM (lo:=0) (tk:=s.toks) I q
end
section
variable {X:Cx}
theorem nF {x:Expr} {tx:TE} {p pos tp:Pos} {elts:YJ} {k:Nat} (hg:Gl X "enumerate") (hm:X.mg "enumerate"=none) (hl:PE X x tx) (hs:starEach [x] X.env=[(false,eval x X.env)]:=by rfl):PI X (.Tuple elts k tp) (.Call (.Name "enumerate" p) [x] [] pos) (AO X.K 0 tx):=by
 intro jb s U H R I h;refine Call_ (Jf I hg hm boot_enumerate (Qae (thn ((Aa hl Ac (by rw[hs];rfl)) pos jb s U H (λvs H1=>match vs with | [v]=>∃a,v=.ref a/\(∃xs,SqL X.K H1 a xs)/\R (S9 X.K a 0) H1 | _=>False) I h) λus s1 ⟨vs,H1,I1,r1,q1⟩=>?_) hs rfl))
 cases r1 with
 | nil=>exact False.elim q1
 | cons r rr=>
  cases rr with
  | nil=>
   obtain⟨a,e,⟨xs,hq⟩,q⟩:=q1;subst e;cases r;exact dZ I1 hq q
  | cons _ _=>exact False.elim q1
theorem pI {K:YD} {a:Addr} {lo:Nat} {xs:YG} {g:TG} {tb:TS} {D:Ends} {U : St} {H:Hp} (Pv:YN) (h0:Pv 0 U H) (hl:∀i U H',i<=xs.length->Pv i U H'->SqL K H' a xs)
  (hs:∀i x p U H',xs[i]?=some x->Pv i U H'->H' p=none->g (.ref p) U (upd H' p (.tup [.int ((lo+i:Nat):Int),x])) fun σ2 H2=>tb { D with nx:=Pv (i+1),ct:=Pv (i+1),bk:=D.nx } σ2 H2) (hd:∀ U H',Pv xs.length U H'->D.nx U H') :
  ∃W:Nat->YN,(∃m,W 0 m U H)/\∀i m U H,W i m U H ->
   ((S9 K a lo).stop i H/\D.nx U H)\/((S9 K a lo).go i H/\∃N:YO,(∀ σ' H',N σ' H'->∃m',m' < m/\W (i+1) m' σ' H')/\∀x H',(S9 K a lo).yld i H x H'->g x U H' fun σ2 H2=>tb { D with nx:=N,ct:=N,bk:=D.nx } σ2 H2):=by
 refine⟨λi m U H=>m=xs.length - i/\i<=xs.length/\Pv i U H,⟨xs.length,by simp,Qcx _,h0⟩,?_⟩;rintro i m U H ⟨rfl,hi,p⟩;have q:=hl i U H hi p;by_cases hlt:i < xs.length
 ·refine .inr ⟨⟨xs,xs[i],q,by simp[hlt]⟩,Pv (i+1),fun σ3 H3 p'=>⟨xs.length - (i+1),by omega,rq,hlt,p'⟩,λv H2 y=>?_⟩;obtain⟨pa,x,hn,rfl,rfl,hx⟩:=y;exact hs i x pa U _ (hx xs q) p hn
 ·have e:i=xs.length:=by omega
  subst e;exact .inl ⟨⟨xs,q,Qcw _⟩,hd U H p⟩
end
theorem rE {X:Cx} {N':YF} {src:List (Option Nat)} {sc:Scope} {kx vx tg iter:Expr} {ifs:YJ} {pos spos px:Pos} {wi:TI} {g:TG} {tt:TT} {tk tv:TE} {i:Nat} {x:Str} (hN:X.N.Nodup) (hi0:X.N[i]?=some x) (hx:Loc X.env.scope x) (hc:X.calm=true) (S:Bo X N' src sc)
  (hi:PI X tg iter wi) (hg:∀s3 H3 fp pn,PG (cxC X N' sc s3 H3 fp pn) tg g) (ht:∀s3 H3 fp pn,PF (cxC X N' sc s3 H3 fp pn) ifs tt) (hk:∀s3 H3 fp pn,PE (cxC X N' sc s3 H3 fp pn) kx tk) (hv:∀s3 H3 fp pn,PE (cxC X N' sc s3 H3 fp pn) vx tv)
  (hsw:swapsWith (.DictComp kx vx [⟨tg,iter,ifs,0⟩] sc pos) (some (.Name x px)) spos.line X.env=pure true:=by rfl) (hs:∀x,foldedSetIterable iter X.env x=pure x:=by intro _;rfl)
  (hf:X.fn x=true\/X.env.scope.names.lookup x=some .local:=by first | exact .inl rfl | exact .inr rfl | assumption) :
  PS X (.Assign [.Name x px] (.DictComp kx vx [⟨tg,iter,ifs,0⟩] sc pos) spos) (Zh (Zg wi src g tt tk tv) (FN i)):=by
 intro jb s U H D I h;rw[exec_Assign_Name_used _ _ _ _ hsw];refine QcB (Qck (QcB ?_));show wpAny _ X.A (do let _ <-comprehension (.DictComp kx vx [⟨tg,iter,ifs,0⟩] sc pos) sc X.env _ newDict false (eval iter X.env) (some (assign (.Name x px) X.env))) _ _ s
 refine QcB (thn (Wf (R:=λ_ s'=>SP X jb D .next s') hc S hi hg ht hk hv hs I h λs3 H3 fp σ4 H4 s5 l I3 f3 J5 q=>?_) λ_ s' hq=>QcC (QcC hq));obtain⟨m,⟨oC,es,ep,hoC,r⟩,_⟩:=J5.loc;have I6:Inv X jb U H4 { s5 with heap:=s5.heap }:=Sw I3 f3 J5 (Heap.SameBut.refl _ _);have hCn:H4 s3.heap.objs.size=none:=J5.free;have neL:s3.heap.objs.size≠X.env.locals:=Qct I3.lt;have tR:∀v,oC.data≠.cell v:=λv z=>by rw[r.1] at z;cases z
 have I7:Inv X (jb++[(s3.heap.objs.size,oC)]) U H4 s5:=I6.Tt λp hp=>(QbJ.mp hp).elim (λz=>I6.pin p (QaE _ z)) λz=>by
  cases Qbb.mp z;exact⟨hoC,hCn,neL,I3.tK (Qcw _),tR⟩
 show wpAny _ X.A (assign (.Name x px) X.env (.ref l)) _ _ s5;refine wpAny_assign_Name (Nk (v:=.ref l) I7 hN hi0 hx rfl (λs6 I8=>?_) hf);have k8:=(I8.pin (s3.heap.objs.size,oC) (QaE _ (QaE _ (Qbb.mpr rfl)))).1;refine⟨m,⟨oC,es,ep,k8,r⟩,λh' sb=>⟨_,H4,?_,q⟩⟩;have I9:=I8.Hy;refine I9.turned (t':=s6.toks) (λb o hb e=>sb.extBut b o hb e) hCn neL (.inr I3.sz) (λy c e z=>?_) (λp hp z=>?_)
 ·obtain⟨v,o,ho,_⟩:=I3.cell y c e;exact absurd (Qco ho) (by rw[z];exact Qcg _)
 ·have:=(I3.pin p hp).1;exact absurd (Qco this) (by rw[z];exact Qcg _)
end L2
namespace L2
open PySem
theorem DR {x:Str} {p:Pos} {es:YJ} {env:Env}:starEach (.Name x p::es) env=(false,eval (.Name x p) env)::starEach es env:=by rfl
theorem lW {a b:Expr} {p:Pos} {es:YJ} {env:Env}:starEach (.Subscript a b p::es) env=(false,eval (.Subscript a b p) env)::starEach es env:=by rfl
end L2
namespace L2
open PySem PySem.Spec PyProof.Rows
def lB (K:YD) (a b:Addr):It:=
  ⟨λi H=>∃xs ys x y,H a=some (.tup xs)/\H b=some (.tup ys)/\xs[i]?=some x/\ys[i]?=some y,
   λi H v H'=>∃p x y,H p=none/\v=.ref p/\H'=upd H p (.tup [x,y])/\(∀xs,H a=some (.tup xs)->xs[i]?=some x)/\∀ys,H b=some (.tup ys)->ys[i]?=some y,
   λi H=>∃xs ys,H a=some (.tup xs)/\H b=some (.tup ys)/\(xs.length<=i\/ys.length<=i)⟩
theorem iT {P:Program} {w:World} {K:YD} {elts:YJ} {k:Nat} {pos:Pos} (a b z TI TO i1 i2:Addr) (nd:[z,TI,TO,i1,i2].Nodup) :
  Turn P w K (.Tuple elts k pos) (lB K a b) [z,TI,TO,i1,i2] z (λi h=>(∃f1,ZZ.IsZ h z TI TO .none f1)/\ZZ.Dt h TI [.ref i1,.ref i2]/\(∃olds:YE,ZZ.Dt h TO olds/\olds.length=2)/\h.IsTupleIter i1 a i/\h.IsTupleIter i2 b i) where
 mem:=by simp
 obj:=λi h st c hc=>by
  obtain⟨⟨f1,hz⟩,hTI,⟨olds,hTO,_⟩,⟨o1,e1,_,d1⟩,o2,e2,_,d2⟩:=st;simp only[Qce,QbA,QcF] at hc;rcases hc with rfl | rfl | rfl | rfl | rfl
  ·exact⟨_,hz,λv q=>by cases (show Data.fields _=Data.cell v from q)⟩
  ·exact⟨_,hTI,λv q=>by cases (show Data.seq _ _=Data.cell v from q)⟩
  ·exact⟨_,hTO,λv q=>by cases (show Data.seq _ _=Data.cell v from q)⟩
  ·exact⟨o1,e1,λv q=>by rw[d1] at q;cases q⟩
  ·exact⟨o2,e2,λv q=>by rw[d2] at q;cases q⟩
 keep:=λi h h' st k=>by
  obtain⟨⟨f1,hz⟩,hTI,⟨olds,hTO,l⟩,h1,h2⟩:=st;exact⟨⟨f1,k z (by simp) _ hz⟩,k TI (by simp) _ hTI,⟨olds,k TO (by simp) _ hTO,l⟩,h1.at λo e=>k i1 (by simp) o e,h2.at λo e=>k i2 (by simp) o e⟩
 item:=by
  intro X hP hw hK hc i jb s U H E I hf st hg;subst hP hw hK;obtain⟨xs,ys,x,y,hq1,hq2,hx,hy⟩:=hg;obtain⟨us,ru,p1,z1⟩:=I.tuple (SqT.of hq1);obtain⟨ws,rw',p2,z2⟩:=I.tuple (SqT.of hq2);obtain⟨u,hu,ru'⟩:=ru.get hx;obtain⟨v,hv,rv'⟩:=rw'.get hy;obtain⟨⟨f1,hz⟩,hTI,⟨olds,hTO,lo⟩,hi1,hi2⟩:=st;simp only[QbP,Qce,QbA,QcF,not_or,Qca,not_false_eq_true,and_true] at nd;obtain⟨⟨n1,n2,n3,n4⟩,⟨n5,n6,n7⟩,⟨n8,n9⟩,n10⟩:=nd;have D:ZZ.Apart z TI TO [⟨i1,a,us.toArray⟩,⟨i2,b,ws.toArray⟩]:=by
   obtain⟨oa,ea,ca,_⟩:=id p1;obtain⟨ob,eb,cb,_⟩:=id p2;obtain⟨o1,e1,c1,_⟩:=id hi1;obtain⟨o2,e2,c2,_⟩:=id hi2;have aTO:a≠TO:=λq=>by
    have:=(hf TO (by simp)).1;rw[<-q,hq1] at this;cases this
   have bTO:b≠TO:=λq=>by
    have:=(hf TO (by simp)).1;rw[<-q,hq2] at this;cases this
   have t1:Value.type "tuple"≠Value.type "zip":=λq=>absurd (by injection q) (show ¬("tuple"="zip") by decide);have t2:Value.type "tuple"≠Value.type "tuple_iterator":=λq=>absurd (by injection q) (show ¬("tuple"="tuple_iterator") by decide);refine⟨Ne.symm n1,Ne.symm n2,n5,λq hq=>?_,λq hq=>?_,λq hq r hr=>?_,?_⟩
   ·simp only[Qce,QbA,QcF] at hq;rcases hq with rfl | rfl
    ·exact⟨Ne.symm n3,Ne.symm n6,Ne.symm n8⟩
    ·exact⟨Ne.symm n4,Ne.symm n7,Ne.symm n9⟩
   ·simp only[Qce,QbA,QcF] at hq;rcases hq with rfl | rfl
    ·exact⟨Hh ea hz (by rw[ca];exact t1),aTO⟩
    ·exact⟨Hh eb hz (by rw[cb];exact t1),bTO⟩
   ·simp only[Qce,QbA,QcF] at hq hr;rcases hq with rfl | rfl <;> rcases hr with rfl | rfl
    ·exact Hh ea e1 (by rw[ca,c1];exact t2)
    ·exact Hh ea e2 (by rw[ca,c2];exact t2)
    ·exact Hh eb e1 (by rw[cb,c1];exact t2)
    ·exact Hh eb e2 (by rw[cb,c2];exact t2)
   ·simp[n10]
  have hat:∀q∈([⟨i1,a,us.toArray⟩,⟨i2,b,ws.toArray⟩]:List ZZ.Src),ZZ.SrcAt s.heap q i:=λq hq=>by
   simp only[Qce,QbA,QcF] at hq;rcases hq with rfl | rfl
   ·exact .inr ⟨hi1,p1⟩
   ·exact .inr ⟨hi2,p2⟩
  refine ZZ.jt hz (Qi:=λr s'=>∃h',r=.ref s.heap.objs.size/\s'={ s with heap:=h' }/\ZZ.IsZ h' z TI TO (rawInt s.heap.objs.size) (.bool false)/\ZZ.Dt h' TI [.ref i1,.ref i2]/\ZZ.Dt h' TO [u,v]/\(∀q∈([⟨i1,a,us.toArray⟩,⟨i2,b,ws.toArray⟩]:List ZZ.Src),ZZ.SrcAt h' q (i+1))/\ZZ.Dt h' s.heap.objs.size [u,v]/\ZZ.Rest z TO [⟨i1,a,us.toArray⟩,⟨i2,b,ws.toArray⟩] s.heap h')
   (ZZ.Yp (xs:=[u,v]) D hz hTI hTO hat (by simp) rfl lo (λj q hj=>?_) (by show 2<=100;decide) λh' a1 a2 a3 a4 a5 a6 a7=>⟨h',rq,rq,a1,a2,a3,a4,a5,a7⟩) λr s' hQ=>?_
  ·match j,hj with
   | 0,hj=>cases hj;exact⟨u,rfl,by simpa using hu⟩
   | 1,hj=>cases hj;exact⟨v,rfl,by simpa using hv⟩
  obtain⟨h',rfl,rfl,a1,a2,a3,a4,a5,a7⟩:=hQ;refine⟨_,rq,ZZ.oE (s:={ s with heap:=h' }) a1 λh2 hz2 sb=>?_⟩;have hlt2:s.heap.objs.size≠z:=Qct (Qco hz);have hT2:ZZ.Dt h2 s.heap.objs.size [u,v]:=(sb.2 _ hlt2).trans a5;have new:BK X.prog X.w (upd H s.heap.objs.size (.tup [x,y])) h2 s.heap.objs.size (.tup [x,y]):=
   ⟨by show 2<=sizeLine;decide,[u,v],.cons ru' (.cons rv' .nil),_,hT2,rq,0,rq⟩
  have I1:=I.Oo (h':=h2) (t':=s.toks) (Qcw _) (λc q hc e=>(sb.2 c (λw=>hc (by simp[w]))).trans (a7 c q (λw=>hc (by simp[w])) (λw=>hc (by simp[w])) (λw=>hc (by simp only[Qcf,Qcv,Qce,QbA,QcF] at w;rcases w with w | w <;> simp[w])) e)) hf new;have v8:∀{it l:Addr} {items:Array Value},l≠z->l≠TO->l≠i1->l≠i2->it≠z->s.heap.IsTuple l items->ZZ.SrcAt h' ⟨it,l,items⟩ (i+1)->h2.IsTupleIter it l (i+1):=λm1 m2 m3 m4 m5 hl q=>by
   rcases q with⟨_,q2⟩|⟨q1,_⟩
   ·obtain⟨o,e,r⟩:=hl;exact (KN q2 ⟨o,a7 _ o m1 m2 (by simp[m3,m4]) e,r⟩).elim
   ·exact q1.at λo e=>(sb.2 _ m5).trans e
  refine⟨.ref s.heap.objs.size,_,I1,rq,⟨s.heap.objs.size,x,y,I.hok.fresh (Qcw _),rq,rq,λys' hy'=>by (rw[hq1] at hy';cases hy';exact hx),λys' hy'=>by (rw[hq2] at hy';cases hy';exact hy)⟩,⟨⟨_,hz2⟩,(sb.2 _ (Ne.symm n1)).trans a2,⟨[u,v],(sb.2 _ (Ne.symm n2)).trans a3,rq⟩,?_,?_⟩,λc hc=>?_⟩
  ·exact v8 (D.a ⟨i1,a,us.toArray⟩ (by simp)).1 (D.a ⟨i1,a,us.toArray⟩ (by simp)).2 (D.ai ⟨i1,a,us.toArray⟩ (by simp) ⟨i1,a,us.toArray⟩ (by simp)) (D.ai ⟨i1,a,us.toArray⟩ (by simp) ⟨i2,b,ws.toArray⟩ (by simp)) (Ne.symm n3) p1 (a4 _ (by simp))
  ·exact v8 (D.a ⟨i2,b,ws.toArray⟩ (by simp)).1 (D.a ⟨i2,b,ws.toArray⟩ (by simp)).2 (D.ai ⟨i2,b,ws.toArray⟩ (by simp) ⟨i1,a,us.toArray⟩ (by simp)) (D.ai ⟨i2,b,ws.toArray⟩ (by simp) ⟨i2,b,ws.toArray⟩ (by simp)) (Ne.symm n4) p2 (a4 _ (by simp))
  ·have hlc:c≠s.heap.objs.size:=by
    have hmem:∃o,s.heap.get? c=some o:=by
     simp only[Qce,QbA,QcF] at hc;rcases hc with rfl | rfl | rfl | rfl | rfl
     ·exact⟨_,hz⟩
     ·exact⟨_,hTI⟩
     ·exact⟨_,hTO⟩
     ·obtain⟨o,e,_⟩:=hi1;exact⟨o,e⟩
     ·obtain⟨o,e,_⟩:=hi2;exact⟨o,e⟩
    obtain⟨o,e⟩:=hmem;exact Qcp (Qco e)
   rw[Ao hlc];exact (hf c hc).1
 done:=by
  intro X hP hw hK hc i jb s U H E I hf st hg;subst hP hw hK;obtain⟨xs,ys,hq1,hq2,hend⟩:=hg;obtain⟨us,ru,p1,z1⟩:=I.tuple (SqT.of hq1);obtain⟨ws,rw',p2,z2⟩:=I.tuple (SqT.of hq2);obtain⟨⟨f1,hz⟩,hTI,⟨olds,hTO,lo⟩,hi1,hi2⟩:=st;simp only[QbP,Qce,QbA,QcF,not_or,Qca,not_false_eq_true,and_true] at nd;obtain⟨⟨n1,n2,n3,n4⟩,⟨n5,n6,n7⟩,⟨n8,n9⟩,n10⟩:=nd;have D:ZZ.Apart z TI TO [⟨i1,a,us.toArray⟩,⟨i2,b,ws.toArray⟩]:=by
   obtain⟨oa,ea,ca,_⟩:=id p1;obtain⟨ob,eb,cb,_⟩:=id p2;obtain⟨o1,e1,c1,_⟩:=id hi1;obtain⟨o2,e2,c2,_⟩:=id hi2;have aTO:a≠TO:=λq=>by
    have:=(hf TO (by simp)).1;rw[<-q,hq1] at this;cases this
   have bTO:b≠TO:=λq=>by
    have:=(hf TO (by simp)).1;rw[<-q,hq2] at this;cases this
   have t1:Value.type "tuple"≠Value.type "zip":=λq=>absurd (by injection q) (show ¬("tuple"="zip") by decide);have t2:Value.type "tuple"≠Value.type "tuple_iterator":=λq=>absurd (by injection q) (show ¬("tuple"="tuple_iterator") by decide);refine⟨Ne.symm n1,Ne.symm n2,n5,λq hq=>?_,λq hq=>?_,λq hq r hr=>?_,?_⟩
   ·simp only[Qce,QbA,QcF] at hq;rcases hq with rfl | rfl
    ·exact⟨Ne.symm n3,Ne.symm n6,Ne.symm n8⟩
    ·exact⟨Ne.symm n4,Ne.symm n7,Ne.symm n9⟩
   ·simp only[Qce,QbA,QcF] at hq;rcases hq with rfl | rfl
    ·exact⟨Hh ea hz (by rw[ca];exact t1),aTO⟩
    ·exact⟨Hh eb hz (by rw[cb];exact t1),bTO⟩
   ·simp only[Qce,QbA,QcF] at hq hr;rcases hq with rfl | rfl <;> rcases hr with rfl | rfl
    ·exact Hh ea e1 (by rw[ca,c1];exact t2)
    ·exact Hh ea e2 (by rw[ca,c2];exact t2)
    ·exact Hh eb e1 (by rw[cb,c1];exact t2)
    ·exact Hh eb e2 (by rw[cb,c2];exact t2)
   ·simp[n10]
  have hat:∀q∈([⟨i1,a,us.toArray⟩,⟨i2,b,ws.toArray⟩]:List ZZ.Src),ZZ.SrcAt s.heap q i:=λq hq=>by
   simp only[Qce,QbA,QcF] at hq;rcases hq with rfl | rfl
   ·exact .inr ⟨hi1,p1⟩
   ·exact .inr ⟨hi2,p2⟩
  have l1:=ru.length;have l2:=rw'.length;refine ZZ.WW hz (R:=λh'=>ZZ.Rest z TO [⟨i1,a,us.toArray⟩,⟨i2,b,ws.toArray⟩] s.heap h') (ZZ.Zb (I.ok.hd hc) D hz hTI hTO hat (by simp) lo (by show 2<=100;decide) ?_ λh' e r st=>⟨h',e,rfl,rfl,r,st⟩) λh' r=>⟨rfl,I.M7 (h':=h') (t':=s.toks) (λc q hc e=>r c q (λw=>hc (by simp[w])) (λw=>hc (by simp[w])) (λw=>hc (by simp only[Qcf,Qcv,Qce,QbA,QcF] at w;rcases w with w | w <;> simp[w])) e) hf⟩;rcases hend with h | h
  ·exact⟨_,QaV ..,by simp;omega⟩
  ·exact⟨_,QaJ _ (QaV ..),by simp;omega⟩
 self:=λ_ _ _ _ _ st h=>ZZ.VF st.1.choose_spec h
def AN (K:YD) (ta:TA):TI:=fun U H R=>ta U H λvs H1=>∃a b,vs=[.ref a,.ref b]/\(∃xs,H1 a=some (.tup xs))/\(∃ys,H1 b=some (.tup ys))/\R (lB K a b) H1
section
variable {X:Cx}
theorem rG {a b:Expr} {ta:TA} {p pos tp:Pos} {elts:YJ} {k:Nat} (hg:Gl X "zip") (hm:X.mg "zip"=none) (ha:PA X [a,b] ta)
  (hs:starEach [a,b] X.env=[(false,eval a X.env),(false,eval b X.env)]:=by rfl) (hs2:starEach [b] X.env=[(false,eval b X.env)]:=by rfl):PI X (.Tuple elts k tp) (.Call (.Name "zip" p) [a,b] [] pos) (AN X.K ta):=by
 intro jb s U H R I h;refine Call_ (Jf I hg hm (u:=.type "zip") (by trivial) (Qae (thn (ha pos jb s U H _ I h) λus s1 ⟨vs,H1,I1,r1,q1⟩=>?_) (by rw[hs,hs2]) (by rw[hs2];rfl)));obtain⟨a,b,e,⟨xs,hx⟩,⟨ys,hy⟩,q⟩:=q1;subst e;cases r1 with
 | cons r rr=>
  cases rr with
  | cons r' rr=>
   cases rr;cases r;cases r';obtain⟨us,ru,k1,z1⟩:=I1.tuple (SqT.of hx);obtain⟨ws,rw',k2,z2⟩:=I1.tuple (SqT.of hy);refine ZZ.p7 (c1:="tuple_iterator") (c2:="tuple_iterator") (.inr ⟨rq,k1⟩) (.inr ⟨rq,k2⟩) λh' z TI TO i1 i2 f=>?_;refine ZZ.VF (s:={ s1 with heap:=h' }) f.hz ?_;have nd:[z,TI,TO,i1,i2].Nodup:=by
    have a1:=f.ap.it ⟨i1,a,us.toArray⟩ (by simp);have a2:=f.ap.it ⟨i2,b,ws.toArray⟩ (by simp);have a3:i1≠i2:=by
     have:=f.ap.nd;simpa using this
    simp only[QbP,Qce,QbA,QcF,not_or,Qca,not_false_eq_true,and_true];exact⟨⟨Ne.symm f.ap.TIz,Ne.symm f.ap.TOz,Ne.symm a1.1,Ne.symm a2.1⟩,⟨f.ap.TITO,Ne.symm a1.2.1,Ne.symm a2.2.1⟩,⟨Ne.symm a1.2.2,Ne.symm a2.2.2⟩,a3⟩
   have at1:h'.IsTupleIter i1 a 0:=by
    rcases f.at_ ⟨i1,a,us.toArray⟩ (by simp) with⟨_,x2⟩|⟨x1,_⟩
    ·obtain⟨o,e,r⟩:=id k1;exact (KN x2 ⟨o,f.keep _ o e,r⟩).elim
    ·exact x1
   have at2:h'.IsTupleIter i2 b 0:=by
    rcases f.at_ ⟨i2,b,ws.toArray⟩ (by simp) with⟨_,x2⟩|⟨x1,_⟩
    ·obtain⟨o,e,r⟩:=id k2;exact (KN x2 ⟨o,f.keep _ o e,r⟩).elim
    ·exact x1
   refine⟨z,[z,TI,TO,i1,i2],_,_,H1,rq,I1.kept (t':=s1.toks) λc o e=>f.keep c o e,iT a b z TI TO i1 i2 nd,⟨⟨_,f.hz⟩,f.hTI,⟨_,f.hTO,rq⟩,at1,at2⟩,λc hc=>?_,q⟩;have hn:=f.new;have hcs:s1.heap.objs.size<=c:=by
    simp only[Qce,QbA,QcF] at hc;rcases hc with rfl | rfl | rfl | rfl | rfl
    ·exact hn.1
    ·exact hn.2.1
    ·exact hn.2.2.1
    ·exact hn.2.2.2 ⟨c,a,us.toArray⟩ (by simp)
    ·exact hn.2.2.2 ⟨c,b,ws.toArray⟩ (by simp)
   exact I1.PX hcs (I1.hok.fresh hcs)
end
theorem kj {K:YD} {a b l:Addr} {xs ys:YG} {g:TG} {tt:TT} {te:TE} {Q:VK} {σ0:St} {H0:Hp} (n:Nat) (hx:n<=xs.length) (hy:n<=ys.length) (hn:xs.length<=n\/ys.length<=n) (Pv:YN)
  (h0:Pv 0 σ0 H0) (hl:∀i U H',i<=n->Pv i U H'->H' a=some (.tup xs)/\H' b=some (.tup ys))
  (hs:∀i x y p U H',xs[i]?=some x->ys[i]?=some y->Pv i U H'->H' p=none->g (.ref p) U (upd H' p (.tup [x,y])) fun σ3 H3=>tt σ3 H3 λb H4=>if b=true then te σ3 H4 λy H5=>∃ys,H5 l=some (.lst ys)/\ys.length < sizeLine/\Pv (i+1) σ3 (upd H5 l (.lst (ys++[y]))) else Pv (i+1) σ3 H4)
  (hd:∀ U H',Pv n U H'->Q (.ref l) H'):Gh (lB K a b) g tt te Q σ0 H0 l:=by
 unfold Gh;refine⟨λi m U H'=>m=n - i/\i<=n/\Pv i U H',⟨n,by simp,Qcx _,h0⟩,?_⟩;rintro i m U H' ⟨rfl,hi,p⟩;obtain⟨q1,q2⟩:=hl i U H' hi p;by_cases hlt:i < n
 ·have hlt1:i < xs.length:=by omega
  have hlt2:i < ys.length:=by omega
  refine .inr ⟨⟨xs,ys,xs[i],ys[i],q1,q2,Qam hlt1,Qam hlt2⟩,Pv (i+1),fun σ3 H3 p'=>⟨n - (i+1),by omega,rq,hlt,p'⟩,λv H2 y=>?_⟩;obtain⟨pp,x',y',hp,rfl,rfl,e1,e2⟩:=y;exact hs i x' y' pp U _ (e1 xs q1) (e2 ys q2) p hp
 ·exact .inl ⟨⟨xs,ys,q1,q2,by omega⟩,by
   have:i=n:=by omega
   subst this;exact hd _ _ p⟩
section
variable {X:Cx}
def DH (ta tb:TE):TE:=fun U H Q=>ta U H λx H1=>x=.non/\tb U H1 Q
theorem aK {a b:Expr} {rest:YJ} {pos:Pos} {ta tb:TE} (ha:PE X a ta) (hb:PE X (.BoolOp .Or (b::rest) pos) tb):PE X (.BoolOp .Or (a::b::rest) pos) (DH ta tb):=by
 intro jb s U H Q I h;refine BoolOp_or (thn (ha jb s U H _ I h) λv s1 zz=>?_);obtain⟨x,H1,I1,r1,e,q1⟩:=zz;subst e;cases r1;exact truthy_none (hb jb s1 U H1 Q I1 q1)
end
theorem kh {X:Cx} {jb:YC} {U : St} {H:Hp} {s:Shared} {A:Around} {E:YA} {a b:Addr} {kvs:YL} {k:List Key} {v:V} {u r:Value} {Q:YH} (hu:A.units < cLine) (I:Inv X jb U H s) (e:H a=some (.dT kvs)) (eb:H b=some (.tup (k.map kV))) (l:kvs.length < sizeLine) (ry:RelV (.ref b) u) (rv:RelV v r)
  (h:∀s',Inv X jb U (upd H a (.dT (putK kvs k v))) s'->Q () s'):wpAny (model X.prog X.w) A (dictSet a u r) Q E s:=by
 cases (show u=Value.ref b from ry)
 obtain⟨z,hd,xs,rel,dd⟩:=vY I.hok e;have hz:xs.length<=sizeLine:=by rw[<-Qcd rel];exact z
 have hl:(putK kvs k v).length<=sizeLine:=by have:=Ld kvs k v;omega
 refine wpAny_dictSet_heap (hsz:=hz) hu (Ib I.hok eb) dd λh' dd' hs=>h _ ?_;obtain⟨q,es,ep,hq,h2,h3,h4,_,h5⟩:=dd';refine Qo I (by rw[e];exact True.intro) hs ⟨q,hq⟩ ⟨hl,hd,_,(rel.put k eb rv).keeps λc ys ec=>?_,q,es,ep,hq,h2,h3,h4,h5⟩;rw[Ao (jJ ec e (λz=>nomatch z))];exact ec
@[irreducible] def Qq (J:It) (g:TG) (tt:TT) (tk tv:TE) (Q:VK) (σ0:St) (H0:Hp) (l:Addr):Prop:=∃W:Nat->YN,(∃m,W 0 m σ0 H0) /\
 ∀i m σ' H',W i m σ' H'->(J.stop i H'/\Q (.ref l) H')\/(J.go i H'/\∃N:YO,(∀ σ3 H3,N σ3 H3->∃m',m' < m/\W (i+1) m' σ3 H3)/\∀x H2,J.yld i H' x H2->g x σ' H2 fun σ3 H3=>tt σ3 H3 λb H4=>
  if b=true then tk σ3 H4 λy H5=>tv σ3 H5 λz H6=>∃(kvs:YL) (k:List Key) (b:Addr),H6 l=some (.dT kvs)/\y=.ref b/\H6 b=some (.tup (k.map kV))/\kvs.length < sizeLine/\N σ3 (upd H6 l (.dT (putK kvs k z))) else N σ3 H4)
def fj (wi:TI) (src:List (Option Nat)) (g:TG) (tt:TT) (tk tv:TE):TE:=fun U H Q=>wi U H λJ H1=>∀l,H1 l=none->Qq J g tt tk tv Q (JN src U) (upd H1 l (.dT [])) l
theorem dX {X:Cx} {N':YF} {src:List (Option Nat)} {sc:Scope} {kx vx tg iter:Expr} {ifs:YJ} {pos pos':Pos} {wi:TI} {g:TG} {tt:TT} {tk tv:TE} {use:Option (Value->Sem Unit)} {R:YA} (hu:X.A.units+1 < cLine) (hc:X.calm=true) (S:Bo X N' src sc)
  (hi:PI X tg iter wi) (hg:∀s3 H3 fp pn,PG (cxC X N' sc s3 H3 fp pn) tg g) (ht:∀s3 H3 fp pn,PF (cxC X N' sc s3 H3 fp pn) ifs tt) (hk:∀s3 H3 fp pn,PE (cxC X N' sc s3 H3 fp pn) kx tk) (hv:∀s3 H3 fp pn,PE (cxC X N' sc s3 H3 fp pn) vx tv)
  (hs:∀x,foldedSetIterable iter X.env x=pure x) {jb:YC} {s:Shared} {U : St} {H:Hp} {Q:VK} (I:Inv X jb U H s) (h:fj wi src g tt tk tv U H Q)
  (fin:∀s3 H3 fp σ4 H4 s5 l,Inv X jb U H3 s3->(∀b∈fp,GK X jb H3 b)->Inv (cxC X N' sc s3 H3 fp (X.pn++jb)) [] σ4 H4 s5->Q (.ref l) H4 ->
   compPost (model X.prog X.w) X.A X.xe use R (.ref l) s3.heap.objs.size (.ok .next) s5) :
  wpAny (model X.prog X.w) X.A (comprehension (.DictComp kx vx [⟨tg,iter,ifs,0⟩] sc pos) sc X.env pos' newDict false (eval iter X.env) use) R X.xe s:=by
 refine wpAny_comprehension_free (use:=use) (cl:=Fe X.env sc.names []) rfl hs (Q0 λp hp e=>I.ok.has p.1 (S.fv p hp e)) S.kind S.loc ?_;refine thn (hi jb s U H _ I h) λv s1 h1=>thn h1 λitv s2 h2=>?_;obtain⟨it,fp,tn,J,H2,rfl,I2,T,st2,f2,q⟩:=h2;have q':=q s2.heap.objs.size (I2.hok.fresh (Qcw _));unfold Qq at q';obtain⟨W,⟨m0,w0⟩,turn⟩:=q';refine Qbq (wpAny_newFunctionEnv S.Jd (by intro y hy;simp at hy) (λha hns hsb=>?_) S.kind);have I3:Inv X jb U (upd H2 s2.heap.objs.size (.dT [])) { s2 with heap:=s2.heap.push { cls:=.type "dict",data:=.dict #[] } }:=
  I2.laid (t':=s2.toks) (λb u e=>Qax _ e) (Qcw _) (cA s2.heap I2.big)
 have hfl:∀b∈fp,b < s2.heap.objs.size:=λb hb=>by
  obtain⟨o,e,_⟩:=T.obj 0 _ st2 b hb;exact Qco e
 have f3:∀b∈fp,GK X jb (upd H2 s2.heap.objs.size (.dT [])) b:=λb hb=>⟨by rw[Ao (Qcp (hfl b hb))];exact (f2 b hb).1,(f2 b hb).2⟩;generalize hs3:({ s2 with heap:=s2.heap.push { cls:=.type "dict",data:=.dict #[] } }:Shared)=s3 at *;have hsz:s2.heap.objs.size < s3.heap.objs.size:=by rw[<-hs3];show s2.heap.objs.size < (s2.heap.push _).objs.size;rw[QbZ];exact QbD _
 have kp:∀b o,s3.heap.get? b=some o->ha.get? b=some o:=λb o e=>hsb.extBut b o (Qcp (Qco e)) (Qax _ e);have st3:tn 0 ha:=T.keep 0 _ _ st2 λb hb o e=>kp b o (by rw[<-hs3];exact Qax _ e);have I4:Inv (cxC X N' sc s3 (upd H2 s2.heap.objs.size (.dT [])) fp (X.pn++jb)) [] (JN src U) (upd H2 s2.heap.objs.size (.dT [])) { s3 with heap:=ha,toks:=s3.toks+([]:List (Str×Value)).length }:=
  Vj S I3 f3 (λb hb=>Nat.lt_trans (hfl b hb) hsz) hns kp
 have loop:codeAny (model X.prog X.w) X.A (.compLoop (.DictComp kx vx [⟨tg,iter,ifs,0⟩] sc pos) 0 (.ref it) (.ref s2.heap.objs.size) (compEnvC sc (Fe X.env sc.names []) s3.heap.objs.size X.env))
   (compPost (model X.prog X.w) X.A X.xe use R (.ref s2.heap.objs.size) s3.heap.objs.size) { s3 with heap:=ha,toks:=s3.toks+([]:List (Str×Value)).length }:=by
  refine Wd (λn s'=>∃i σ' H',Inv (cxC X N' sc s3 (upd H2 s2.heap.objs.size (.dT [])) fp (X.pn++jb)) [] σ' H' s'/\tn i s'.heap/\(∀b∈fp,H' b=none)/\W i n σ' H') ?_ m0 ⟨0,_,_,I4,st3,λb hb=>(f3 b hb).1,w0⟩;rintro n s4 ⟨i,σ4,H4,J4,st4,fr4,w4⟩;have stat:∀{H':Hp},(∀b∈fp,H' b=none)->∀b∈fp,GK (cxC X N' sc s3 (upd H2 s2.heap.objs.size (.dT [])) fp (X.pn++jb)) [] H' b:=λhn b hb=>
   ⟨hn b hb,(I4.ok.exf b hb).1,I4.ok.Ss b hb,.inl hb,λx c e=>(I4.ok.exf b hb).2 x c e,λp hp=>(f3 b hb).2.2.2.2.2 p ((QbJ.mp hp).elim id λz=>by cases z)⟩
  rcases turn i n σ4 H4 w4 with⟨stop,qn⟩|⟨go,N,hN,step⟩
  ·refine thn (T.done (cxC X N' sc s3 (upd H2 s2.heap.objs.size (.dT [])) fp (X.pn++jb)) rfl rfl rfl hc i [] s4 σ4 H4 _ J4 (stat fr4) st4 stop) λr s5 zz=>?_;obtain⟨hr,J5⟩:=zz;subst hr;exact fin s3 _ fp σ4 H4 s5 _ I3 f3 J5 qn
  ·refine thn (T.item (cxC X N' sc s3 (upd H2 s2.heap.objs.size (.dT [])) fp (X.pn++jb)) rfl rfl rfl hc i [] s4 σ4 H4 _ J4 (stat fr4) st4 go) λr s5 zz=>?_;obtain⟨u,hr,h5⟩:=zz;subst hr;refine thn h5 λ_ s6 zz=>?_;obtain⟨x,H6,J6,r6,y6,st6,fr6⟩:=zz;have J6':=J6.pinned (stat fr6) (T.obj _ _ st6);have back:∀{pl:YC} {σ7:St} {H7:Hp} {s7:Shared},Inv (cxC X N' sc s3 (upd H2 s2.heap.objs.size (.dT [])) fp (X.pn++jb)) ([]++NQ fp s6.heap) σ7 H7 s7->N σ7 H7 ->
     ∃m',m' < n/\∃i σ' H',Inv (cxC X N' sc s3 (upd H2 s2.heap.objs.size (.dT [])) fp (X.pn++jb)) [] σ' H' s7/\tn i s7.heap/\(∀b∈fp,H' b=none)/\W i m' σ' H':=λ{pl σ7 H7 s7} J7 w7=>by
    obtain⟨m',hm,w7⟩:=hN _ _ w7;have pinned:∀b∈fp,∀o,s6.heap.get? b=some o->s7.heap.get? b=some o/\H7 b=none:=λb hb o e=>by
     have:=J7.pin (b,o) (QaE _ (QaE _ (Kg hb e)));exact⟨this.1,this.2.1⟩
    refine⟨m',hm,i+1,σ7,H7,J7.Hy,T.keep _ _ _ st6 λb hb o e=>(pinned b hb o e).1,λb hb=>?_,w7⟩;obtain⟨o,e,_⟩:=T.obj _ _ st6 b hb;exact (pinned b hb o e).2
   refine thn (hg s3 _ fp _ _ s6 σ4 H6 x u _ J6' r6 (step x H6 y6)) λ_ s7 zz=>?_;obtain⟨σ7,H7,J7,q7⟩:=zz;refine thn (ht s3 _ fp _ _ s7 σ7 H7 _ J7 q7) λok s8 zz=>?_;obtain⟨H8,J8,q8⟩:=zz;cases ok with
   | false=>
    rw[if_neg QaW] at q8 ⊢;exact back (pl:=[]) J8 q8
   | true=>
    rw[if_pos rfl] at q8 ⊢;refine thn (hk s3 _ fp _ _ s8 σ7 H8 _ J8 q8) λy s9 zz=>?_;obtain⟨yv,H9,J9,r9,q9⟩:=zz;refine thn (hv s3 _ fp _ _ s9 σ7 H9 _ J9 q9) λz s10 zz=>?_;obtain⟨zv,H10,J10,r10,kvs,k,bb,hl,ey,eb,hz,q10⟩:=zz;subst ey;refine kh (X:=cxC X N' sc s3 (upd H2 s2.heap.objs.size (.dT [])) fp (X.pn++jb)) (show X.A.units < cLine by omega) J10 hl eb hz r9 r10 λs11 J11=>?_;exact back (pl:=[]) J11 q10
 exact codeAny_compStart_dict loop (T.self X.A 0 _ _ _ st3 loop)
theorem Lq {X:Cx} {N':YF} {src:List (Option Nat)} {sc:Scope} {kx vx tg iter:Expr} {ifs:YJ} {pos:Pos} {wi:TI} {g:TG} {tt:TT} {tk tv:TE} (hu:X.A.units+1 < cLine) (hc:X.calm=true) (S:Bo X N' src sc)
  (hi:PI X tg iter wi) (hg:∀s3 H3 fp pn,PG (cxC X N' sc s3 H3 fp pn) tg g) (ht:∀s3 H3 fp pn,PF (cxC X N' sc s3 H3 fp pn) ifs tt) (hk:∀s3 H3 fp pn,PE (cxC X N' sc s3 H3 fp pn) kx tk) (hv:∀s3 H3 fp pn,PE (cxC X N' sc s3 H3 fp pn) vx tv)
  (hs:∀x,foldedSetIterable iter X.env x=pure x:=by intro _;rfl):PE X (.DictComp kx vx [⟨tg,iter,ifs,0⟩] sc pos) (fj wi src g tt tk tv):=by
 intro jb s U H Q I h;rw[arm_eval_DictComp];refine dX (use:=none) hu hc S hi hg ht hk hv hs I h λs3 H3 fp σ4 H4 s5 l I3 f3 J5 q=>?_;obtain⟨m,hn,_⟩:=J5.loc;exact⟨m,hn,λh' sb=>⟨.ref l,H4,Sw I3 f3 J5 sb,rq,q⟩⟩
section
variable {a l:Addr} {g:TG} {tt:TT} {tk tv:TE} {Q:VK}
theorem dW {K:YD} {xs:YG} {σ0:St} {H0:Hp} (Pv:YN) (h0:Pv 0 σ0 H0) (hl:∀i U H',i<=xs.length->Pv i U H'->SqL K H' a xs)
  (hs:∀i x U H',xs[i]?=some x->Pv i U H'->g x U H' fun σ3 H3=>tt σ3 H3 λb H4=>if b=true then tk σ3 H4 λy H5=>tv σ3 H5 λz H6=>∃(kvs:YM) (k:Key),H6 l=some (.dK kvs)/\y=kV k/\kvs.length < sizeLine/\Pv (i+1) σ3 (upd H6 l (.dK (putK kvs k z))) else Pv (i+1) σ3 H4)
  (hd:∀ U H',Pv xs.length U H'->Q (.ref l) H'):Ud (Itl K a) g tt tk tv Q σ0 H0 l:=by
 unfold Ud;refine⟨λi m U H'=>m=xs.length - i/\i<=xs.length/\Pv i U H',⟨xs.length,by simp,Qcx _,h0⟩,?_⟩;rintro i m U H' ⟨rfl,hi,p⟩;have q:=hl i U H' hi p;by_cases hlt:i < xs.length
 ·refine .inr ⟨⟨xs,xs[i],q,by simp[hlt]⟩,Pv (i+1),fun σ3 H3 p'=>⟨xs.length - (i+1),by omega,rq,hlt,p'⟩,λx H2 y=>?_⟩;obtain⟨rfl,y⟩:=y;exact hs i x U _ (y xs q) p
 ·exact .inl ⟨⟨xs,q,by omega⟩,by
   have:i=xs.length:=by omega
   subst this;exact hd _ _ p⟩
theorem Qa {K:YD} {xs:YG} {σ0:St} {H0:Hp} (Pv:YN) (h0:Pv 0 σ0 H0) (hl:∀i U H',i<=xs.length->Pv i U H'->SqL K H' a xs)
  (hs:∀i x U H',xs[i]?=some x->Pv i U H'->g x U H' fun σ3 H3=>tt σ3 H3 λb H4=>if b=true then tk σ3 H4 λy H5=>tv σ3 H5 λz H6=>∃(kvs:YL) (k:List Key) (b:Addr),H6 l=some (.dT kvs)/\y=.ref b/\H6 b=some (.tup (k.map kV))/\kvs.length < sizeLine/\Pv (i+1) σ3 (upd H6 l (.dT (putK kvs k z))) else Pv (i+1) σ3 H4)
  (hd:∀ U H',Pv xs.length U H'->Q (.ref l) H'):Qq (Itl K a) g tt tk tv Q σ0 H0 l:=by
 unfold Qq;refine⟨λi m U H'=>m=xs.length - i/\i<=xs.length/\Pv i U H',⟨xs.length,by simp,Qcx _,h0⟩,?_⟩;rintro i m U H' ⟨rfl,hi,p⟩;have q:=hl i U H' hi p;by_cases hlt:i < xs.length
 ·refine .inr ⟨⟨xs,xs[i],q,by simp[hlt]⟩,Pv (i+1),fun σ3 H3 p'=>⟨xs.length - (i+1),by omega,rq,hlt,p'⟩,λx H2 y=>?_⟩;obtain⟨rfl,y⟩:=y;exact hs i x U _ (y xs q) p
 ·exact .inl ⟨⟨xs,q,by omega⟩,by
   have:i=xs.length:=by omega
   subst this;exact hd _ _ p⟩
end
def Mx (h:Heap) (d:Addr) (es:YK) (ep:Nat):Prop:=∃o,h.get? d=some o/\o.ExactDict/\o.data=.dict es ep
section
variable {prog:Program} {w:World} {A:Around} {E:YA} {s:Shared}
theorem Z9 {it d:Addr} {i ep:Nat} {es:YK} {en:DictEntry} {Q:Option Value->Shared->Prop} (K:s.heap.IsKeyIter it d i es.size ep) (R:Mx s.heap d es ep) (hx:es[i]?=some en)
  (q:∀h',h'.IsKeyIter it d (i+1) es.size ep->Heap.SameBut it s.heap h'->Q (some en.key) { s with heap:=h' }):wpAny (model prog w) A (pyNext (.ref it)) Q E s:=by
 have T:=K.typeIs;obtain⟨oi,hoi,ci,di⟩:=K;obtain⟨od,hod,xd,dd⟩:=R;have hlt:i < es.size:=(Qaf.mp hx).1;obtain⟨G0,CI,CL,AK⟩:=oi;obtain⟨Xr,T8,T9,Qn⟩:=od;dsimp only at ci di dd;subst ci di dd;obtain⟨hp,g,dr,tk,os⟩:=s;unfold pyNext;refine QcB (Qcj (Qas (name:=Str.ofString "__next__") T Qad (QbB Qad T F.entry_dict_keyiterator_next ?_ (F.args_dict_keyiterator_next_1 _))));have e1:typeName (.type "dict_keyiterator")=pure "dict_keyiterator":=by unfold typeName;rw[find?_eq_fast];kernel_rfl
 have e2:=mroOf_keyiter
 wp_walk
 have hidx:(if (i:Int) < 0 then none else es[((i:Int)).toNat]?)=some en:=by rw[if_neg (by omega),Qbo];exact hx
 simp only[hidx]
 wp_walk
 refine⟨_,rq,QcC (q _ ⟨_,QaG _ hoi ?_,rq,?_⟩ (QaR ..))⟩
 all_goals first | rfl | trace_state
theorem gB {it d:Addr} {i ep:Nat} {es:YK} {Q:Option Value->Shared->Prop} (hh:A.handled=none) (K:s.heap.IsKeyIter it d i es.size ep) (R:Mx s.heap d es ep) (hx:es[i]?=none)
  (q:∀h',Heap.ExtBut it s.heap h'->Q none { s with heap:=h' }):wpAny (model prog w) A (pyNext (.ref it)) Q E s:=by
 have T:=K.typeIs;obtain⟨oi,hoi,ci,di⟩:=K;obtain⟨od,hod,xd,dd⟩:=R;obtain⟨G0,CI,CL,AK⟩:=oi;obtain⟨Xr,T8,T9,Qn⟩:=od;dsimp only at ci di dd;subst ci di dd;obtain⟨hp,g,dr,tk,os⟩:=s;unfold pyNext;refine QcB (Qcj (Qas (name:=Str.ofString "__next__") T Qad (QbB Qad T F.entry_dict_keyiterator_next ?_ (F.args_dict_keyiterator_next_1 _))));have e1:typeName (.type "dict_keyiterator")=pure "dict_keyiterator":=by unfold typeName;rw[find?_eq_fast];kernel_rfl
 have e2:=mroOf_keyiter;have hh1:A.in1.handled=none:=hh
 wp_walk
 have hidx:(if (i:Int) < 0 then none else es[((i:Int)).toNat]?)=none:=by rw[if_neg (by omega),Qbo];exact hx
 simp only[hidx]
 wp_walk
 unfold raiseNew
 wp_walk
 refine wpAny_of_eq isSubtype_stop ?_
 wp_walk
 exact q _ (((QaR ..).extBut.push _).push _)
theorem aj {d:Addr} {ep:Nat} {es:YK} {Q:YA} (lo:(d == sysModules)=false) (R:Mx s.heap d es ep)
  (q:Q (.ref s.heap.objs.size) { s with heap:=s.heap.push { cls:=.type "dict_keyiterator",data:=.fields #[.ref d,.int 0 0,.int es.size 0,.int ep 0] } }):wpAny (model prog w) A (pyIter (.ref d)) Q E s:=by
 obtain⟨od,hod,xd,dd⟩:=R;have T:s.TypeIs (.ref d) "dict":=⟨od,hod,xd.1⟩;obtain⟨Xr,T8,T9,Qn⟩:=od;obtain⟨x1,x2⟩:=xd;dsimp only at dd x1;subst dd x1;refine wpAny_pyIter_slot T F.slot_dict_iter (QbB F.slot_dict_iter T F.entry_dict_iter ?_ (F.args_dict_iter_1 _));unfold Builtin.«dict.__iter__»
 wp_walk
 exact⟨_,rq,"dict_keyiterator",_,⟨_,QaM _ rfl,rq⟩,Qad.lookup,q⟩
theorem mV {d:Addr} {ep:Nat} {es:YK} (lo:(d == sysModules)=false) :
  MeetsIn prog w (Builtin.«dict.items» ⟨[.ref d],[]⟩) (λ_ R s=>Mx s.heap d es ep/\R (.ok (.ret (.ref s.heap.objs.size))) { s with heap:=s.heap.push { cls:=.type "dict_items",data:=.fields #[.ref d] } }):=
 .of_wp λA R s ⟨hm,h⟩=>by
  obtain⟨od,hod,xd,dd⟩:=hm;have T:s.TypeIs (.ref d) "dict":=⟨od,hod,xd.1⟩;obtain⟨Xr,T8,T9,Qn⟩:=od;obtain⟨x1,x2⟩:=xd;dsimp only at dd x1;subst dd x1;unfold Builtin.«dict.items»
  wp_walk
  exact⟨_,rq,h⟩
theorem WQ {v d:Addr} {es:YK} {ep:Nat} {Q:YA} (hv:s.heap.IsItemsView v d) (R:Mx s.heap d es ep)
  (q:Q (.ref s.heap.objs.size) { s with heap:=s.heap.push { cls:=.type "dict_itemiterator",data:=.fields #[.none,.bool false,.ref d,.int 0 0,.int es.size 0,.int ep 0,.none,.none] } }) :
  wpAny (model prog w) A (pyIter (.ref v)) Q E s:=by
 have T:=hv.typeIs;obtain⟨ov,hov,hcv,hdv⟩:=hv;obtain⟨od,hod,xd,dd⟩:=R;obtain⟨NW,NS,NU,NN⟩:=ov;obtain⟨Xr,T8,T9,Qn⟩:=od;dsimp only at hcv hdv dd;subst hcv hdv dd;refine wpAny_pyIter_slot T F.slot_dict_items_iter (QbB F.slot_dict_items_iter T F.entry_dict_items_iter ?_ (F.args_dict_items_iter_1 _));unfold Builtin.«dict_items.__iter__»
 wp_walk
 have hown:Builtin.Dict_items.ownsTuple "dict_itemiterator"=true:=by decide
 refine⟨_,rq,"dict_itemiterator",_,⟨_,QaM _ rfl,rq⟩,Qac.lookup,?_⟩;simpa [rawInt,hown,Builtin.Dict_items.ownedTupleFields] using q
theorem rA {it d:Addr} {i ep:Nat} {es:YK} {en:DictEntry} {ok ov:Value} {Q:Option Value->Shared->Prop} (K:IsItemIter s.heap it d i es.size ep ok ov) (R:Mx s.heap d es ep) (hx:es[i]?=some en)
  (q:∀h',IsItemIterOut h' it d (i+1) es.size ep en.key en.val s.heap.objs.size->h'.get? s.heap.objs.size=some { cls:=.type "tuple",data:=.seq #[en.key,en.val] }->(∀b o,b≠it->s.heap.get? b=some o->h'.get? b=some o)->Q (some (.ref s.heap.objs.size)) { s with heap:=h' }) :
  wpAny (model prog w) A (pyNext (.ref it)) Q E s:=by
 have hT:s.TypeIs (.ref it) "dict_itemiterator":=⟨_,K,rq⟩;obtain⟨od,hod,xd,dd⟩:=R;have hlt:i < es.size:=(Qaf.mp hx).1;obtain⟨Xr,T8,T9,Qn⟩:=od;dsimp only at dd;subst dd;obtain⟨hp,g,dr,tk,os⟩:=s;unfold pyNext;refine QcB (Qcj (Qas (name:=Str.ofString "__next__") hT Qac (QbB Qac hT F.entry_dict_itemiterator_next ?_ (F.args_dict_itemiterator_next_1 _))));have e1:typeName (.type "dict_itemiterator")=pure "dict_itemiterator":=by unfold typeName;rw[find?_eq_fast];kernel_rfl
 have e2:=mroOf_itemiter
 wp_walk
 have hidx:(if (i:Int) < 0 then none else es[((i:Int)).toNat]?)=some en:=by rw[if_neg (by omega),Qbo];exact hx
 simp only[hidx];have hown:Builtin.Dict_items.ownsTuple "dict_itemiterator"=true:=by decide
 refine QcB ?_
 first | refine QcB (wpAny_typeNameOfWhole_itemiter hT (QcC ?_)) | refine QcB (wpAny_typeNameOf_itemiter hT (QcC ?_))
 refine QcB (wpAny_isOneOf_itemiter hT ?_);simp only[hown,if_true];show wpAny _ _ (setField (.ref it) 3 (rawInt ((i:Int)+1)) >>= _) _ _ _;refine QcB (Qbd K (by simp) λh1 k1 s1=>?_);have s1:Heap.SameBut it hp h1:=s1;have k1:IsItemIter h1 it d (i+1) es.size ep ok ov:=by
  have e:((i+1:Nat):Int)=(i:Int)+1:=by omega
  unfold IsItemIter;rw[e];simpa [rawInt] using k1
 have hT1:Shared.TypeIs ⟨h1,g,dr,tk,os⟩ (.ref it) "dict_itemiterator":=⟨_,k1,rq⟩;refine QcB (Qch (QcB (wpAny_isOneOf_itemiter hT1 (QcB (wpAny_isOneOf_itemiter hT1 ?_)))));show wpAny _ _ (Builtin.Dict_items.pairFromOwner (.ref it) 6 en.key en.val) _ _ ⟨h1,g,dr,tk,os⟩;unfold Builtin.Dict_items.pairFromOwner;refine QcB (wpAny_newTuple ?_);have k2:IsItemIter (h1.push { cls:=.type "tuple",data:=.seq #[en.key,en.val] }) it d (i+1) es.size ep ok ov:=Qax _ k1;have z1:h1.objs.size=hp.objs.size:=s1.1;have n1:(h1.push { cls:=.type "tuple",data:=.seq #[en.key,en.val] }).get? hp.objs.size=some { cls:=.type "tuple",data:=.seq #[en.key,en.val] }:=by rw[<-z1];exact QaM _ rfl
 have p1:∀b o,b≠it->hp.get? b=some o->(h1.push { cls:=.type "tuple",data:=.seq #[en.key,en.val] }).get? b=some o:=λb o hb e=>Qax _ (s1.extBut b o hb e);have nit:hp.objs.size≠it:=Qct (Qco K);rw[z1];show wpAny _ _ (Builtin.Dict_items.ownedTupleIsFree (.ref it) >>= _) _ _ ⟨h1.push { cls:=.type "tuple",data:=.seq #[en.key,en.val] },g,dr,tk,os⟩;generalize h1.push { cls:=.type "tuple",data:=.seq #[en.key,en.val] }=h2 at k2 n1 p1;refine QcB ?_;unfold Builtin.Dict_items.ownedTupleIsFree;refine QcB (Qcz k2 rfl (x:=.none) rfl (QcC ?_));simp only[if_true];refine QcB (Qcz k2 rfl (x:=ok) rfl ?_);refine QcB (Qcz k2 rfl (x:=ov) rfl ?_);refine QcB (Qbd k2 (by simp) λh3 k3 s3=>?_);refine QcB (Qbd k3 (by simp) λh4 k4 s4=>?_);refine QcB (Qbd k4 (by simp) λh5 k5 s5=>?_);refine QcB (Qbd k5 (by simp) λh6 k6 s6=>?_);have f:∀b o,b≠it->h2.get? b=some o->h6.get? b=some o:=λb o hb e=>s6.extBut b o hb (s5.extBut b o hb (s4.extBut b o hb (s3.extBut b o hb e)));exact QcB (wpAny_letGo (QcC (QcC ⟨_,rq,QcC (q h6 k6 (f _ _ nit n1) λb o hb e=>f b o hb (p1 b o hb e))⟩)))
theorem ak {it d:Addr} {i ep:Nat} {es:YK} {ok ov:Value} {Q:Option Value->Shared->Prop} (hh:A.handled=none) (K:IsItemIter s.heap it d i es.size ep ok ov) (R:Mx s.heap d es ep) (hx:es[i]?=none)
  (q:∀h',Heap.ExtBut it s.heap h'->Q none { s with heap:=h' }):wpAny (model prog w) A (pyNext (.ref it)) Q E s:=by
 have hT:s.TypeIs (.ref it) "dict_itemiterator":=⟨_,K,rq⟩;obtain⟨od,hod,xd,dd⟩:=R;obtain⟨Xr,T8,T9,Qn⟩:=od;dsimp only at dd;subst dd;obtain⟨hp,g,dr,tk,os⟩:=s;unfold pyNext;refine QcB (Qcj (Qas (name:=Str.ofString "__next__") hT Qac (QbB Qac hT F.entry_dict_itemiterator_next ?_ (F.args_dict_itemiterator_next_1 _))));have e1:typeName (.type "dict_itemiterator")=pure "dict_itemiterator":=by unfold typeName;rw[find?_eq_fast];kernel_rfl
 have e2:=mroOf_itemiter;have hh1:A.in1.handled=none:=hh
 wp_walk
 have hidx:(if (i:Int) < 0 then none else es[((i:Int)).toNat]?)=none:=by rw[if_neg (by omega),Qbo];exact hx
 simp only[hidx]
 wp_walk
 unfold raiseNew
 wp_walk
 refine wpAny_of_eq isSubtype_stop ?_
 wp_walk
 exact q _ (((QaR ..).extBut.push _).push _)
end
section
variable {X:Cx} {jb:YC} {U : St} {H:Hp} {s:Shared} {a:Addr} {kvs:YL} {o:Obj}
theorem Inv.gY (I:Inv X jb U H s) (e:H a=some (.dT kvs)):∃o,s.heap.get? a=some o/\Inv X jb U (upd H a (.frz o (.dT kvs))) s:=by
 obtain⟨o,ho⟩:=(I.hok a _ e).there;have n0:∀b,H b=none->b≠a:=λb n z=>by rw[z,e] at n;cases n
 have n1:∀b u,H b=some u->u≠.dT kvs->b≠a:=λb u q nu z=>by rw[z,e] at q;exact nu (QbN q).symm
 refine⟨o,ho,I.step (h':=s.heap) (g':=s.gens) (d':=s.drawn) (t':=s.toks) (ch:=[]) (λb hb=>absurd hb (by simp)) (λb u _ _ _ q _=>q) (λb u _ _ _ q _=>⟨u.slots,q⟩) (λb u _ q n=>by rw[Ao (n0 b n)];exact n)
  (λb u _ q=>⟨u,q⟩) (λb xs q=>by rw[Ao (n1 b _ q (by intro z;cases z))];exact q) (λb u v q=>by rw[Ao (n1 b _ q (by intro z;cases z))];exact q)
  (λb ps q=>⟨#[],by rw[Ao (n1 b _ q (by intro z;cases z)),q];simp⟩) (λm hm=>hm) (λb u q=>?_) I.bare⟩
 have st:∀b u,BK X.prog X.w H s.heap b u->BK X.prog X.w (upd H a (.frz o (.dT kvs))) s.heap b u:=λb u x=>
  x.stay (λ_ _ _ q=>q) (λc q=>by rw[Ao (n1 c _ q (by intro z;cases z))];exact q) λc xs q=>by rw[Ao (n1 c _ q (by intro z;cases z))];exact q
 by_cases hb:b=a
 ·subst hb;rw[Ab] at q;cases q;exact⟨ho,st _ _ (I.hok _ _ e)⟩
 ·rw[Ao hb] at q;exact st _ _ (I.hok b u q)
theorem Inv.Qt (I:Inv X jb U H s) (e:H a=some (.frz o (.dT kvs))) (h0:∀o' u,X.H₀ a≠some (.frz o' u)):Inv X jb U (upd H a (.dT kvs)) s:=by
 have n0:∀b,H b=none->b≠a:=λb n z=>by rw[z,e] at n;cases n
 have n1:∀b u,H b=some u->u≠.frz o (.dT kvs)->b≠a:=λb u q nu z=>by rw[z,e] at q;exact nu (QbN q).symm
 refine⟨I.ok,I.os,I.bare,⟨I.base.keep,I.base.slot,λb u q n hx=>?_,I.base.there,λb xs q=>?_,λb u v q=>?_,λb ps q=>?_⟩,I.loc,I.cell,?_,λx c q=>?_,λp hp=>?_,λb u q=>?_,I.len⟩
 ·rw[Ao (n0 b (I.base.free b u q n hx))];exact I.base.free b u q n hx
 ·have z:=I.base.tups b xs q;rw[Ao (n1 b _ z (by intro w;cases w))];exact z
 ·have z:=I.base.Mv b u v q;have nb:b≠a:=λw=>h0 u v (by rw[<-w];exact q);rw[Ao nb];exact z
 ·obtain⟨m,z⟩:=I.base.Nj b ps q;exact⟨m,by rw[Ao (n1 b _ z (by intro w;cases w))];exact z⟩
 ·rw[Ao (n0 _ I.free)];exact I.free
 ·rw[Ao (n0 _ (I.Ir x c q))];exact I.Ir x c q
 ·obtain⟨p1,p2,p3⟩:=I.pin p hp;exact⟨p1,by rw[Ao (n0 _ p2)];exact p2,p3⟩
 ·have st:∀b u,BK X.prog X.w H s.heap b u->BK X.prog X.w (upd H a (.dT kvs)) s.heap b u:=λb u x=>
   x.stay (λ_ _ _ q=>q) (λc q=>by rw[Ao (n1 c _ q (by intro z;cases z))];exact q) λc xs q=>by rw[Ao (n1 c _ q (by intro z;cases z))];exact q
  by_cases hb:b=a
  ·subst hb;rw[Ab] at q;cases q;exact st _ _ (show BK X.prog X.w H s.heap b (.frz o (.dT kvs)) from I.hok _ _ e).2
  ·rw[Ao hb] at q;exact st _ _ (I.hok b u q)
end
def Wh (H0 H:Hp) (P:Hp->Prop):Prop:=∃a o kvs,H a=some (.frz o (.dT kvs))/\(∀o' u,H0 a≠some (.frz o' u))/\P (upd H a (.dT kvs))
def Ends.Qt (D:Ends) (H0:Hp):Ends where
 nx:=fun U H=>Wh H0 H (D.nx U)
 rt:=λv H=>Wh H0 H (D.rt v)
 bk:=fun U H=>Wh H0 H (D.bk U)
 ct:=fun U H=>Wh H0 H (D.ct U)
def yV (H0:Hp) (t:TS):TS:=λD U H=>t (D.Qt H0) U H
def wC (H0:Hp) (t:TE):TE:=fun U H Q=>t U H λv H1=>Wh H0 H1 (Q v)
theorem rD {X:Cx} {st:Stmt} {t:TS} {H0:Hp} (h0:X.H₀=H0) (h:PS X st t):PS X st (yV H0 t):=by
 subst h0;intro jb s U H D I q;refine thn (h jb s U H _ I q) λf s1 z=>?_;cases f with
 | next=>obtain⟨σ',H',I',a,o,kvs,e,n,q'⟩:=z;exact⟨σ',_,I'.Qt e n,q'⟩
 | brk=>obtain⟨σ',H',I',a,o,kvs,e,n,q'⟩:=z;exact⟨σ',_,I'.Qt e n,q'⟩
 | cont=>obtain⟨σ',H',I',a,o,kvs,e,n,q'⟩:=z;exact⟨σ',_,I'.Qt e n,q'⟩
 | ret u=>obtain⟨v,σ',H',I',r,a,o,kvs,e,n,q'⟩:=z;exact⟨v,σ',_,I'.Qt e n,r,q'⟩
theorem NZ {X:Cx} {x:Expr} {t:TE} {H0:Hp} (h0:X.H₀=H0) (h:PE X x t):PE X x (wC H0 t):=by
 subst h0;intro jb s U H Q I q;refine thn (h jb s U H _ I q) λu s1 zz=>?_;obtain⟨v,H',I',r,a,o,kvs,e,n,q'⟩:=zz;exact⟨v,_,I'.Qt e n,r,q'⟩
def lC (a:Addr) (o:Obj) (kvs:YL):It:=
 ⟨λi H=>i < kvs.length/\H a=some (.frz o (.dT kvs)),λi H x H'=>∃p b kv,H p=none/\kvs[i]?=some kv/\H b=some (.tup (kv.1.map kV))/\x=.ref p/\H'=upd H p (.tup [.ref b,kv.2]),λi H=>i=kvs.length/\H a=some (.frz o (.dT kvs))⟩
def KTr (P:Program) (w:World) (H:Hp) (kvs:YL) (es:YK):Prop:=es.size=kvs.length/\∀(i:Nat) (kv:List Key×V),kvs[i]?=some kv->∃b en,es[i]?=some en/\en.key=.ref b/\H b=some (.tup (kv.1.map kV))/\RelV kv.2 en.val
theorem V2 {P:Program} {w:World} {H:Hp} {kvs:YL} {xs:List (List Key×Addr×Value)} {es:YK} (r:Paired (λ(p:List Key×V) (q:List Key×Addr×Value)=>p.1=q.1/\H q.2.1=some (.tup (p.1.map kV))/\RelV p.2 q.2.2) kvs xs) (e:es.toList=xs.map (entryOfKey (tupleKind (Bw P w)))):KTr P w H kvs es:=by
 refine⟨by rw[size_of_entries e,Qcd r],λi kv hkv=>?_⟩;have go:∀{l:YL} {m:List (List Key×Addr×Value)} {i:Nat} {p:List Key×V},Paired (λ(p:List Key×V) (q:List Key×Addr×Value)=>p.1=q.1/\H q.2.1=some (.tup (p.1.map kV))/\RelV p.2 q.2.2) l m->l[i]?=some p->∃x,m[i]?=some x/\H x.2.1=some (.tup (p.1.map kV))/\RelV p.2 x.2.2:=by
  intro l m i p r
  induction r generalizing i with
  | nil=>intro h;cases h
  | cons a t ih=>
   intro h;cases i with
   | zero=>cases h;exact⟨_,rfl,a.2⟩
   | succ i=>exact ih h
 obtain⟨x,hx,h1,h2⟩:=go r hkv;exact⟨x.2.1,_,by rw[entry_at e i,hx];rfl,rq,h1,h2⟩
theorem O9 {X:Cx} {jb:YC} {U : St} {H:Hp} {s:Shared} {a:Addr} {kvs:YL} {o:Obj} {es:YK} {ep:Nat} (I:Inv X jb U H s) (e:H a=some (.frz o (.dT kvs))) (ho:o.data=.dict es ep) :
  (a == sysModules)=false/\KTr X.prog X.w H kvs es/\Mx s.heap a es ep:=by
 obtain⟨h1,_,h2,xs,h3,ob,es',ep',h4,h5,h6,h7,_⟩:=(show BK X.prog X.w H s.heap a (.frz o (.dT kvs)) from I.hok a _ e)
 have z:=h1.symm.trans h4;cases z;rw[ho] at h6;cases h6;exact⟨h2,V2 h3 h7,o,h1,h5,ho⟩
theorem qL {P:Program} {w:World} {K:YD} {elts:YJ} {k:Nat} {pos:Pos} (a it:Addr) (o:Obj) (kvs:YL) {es:YK} {ep:Nat} (ho:o.data=.dict es ep) (hes:es.size=kvs.length) :
  Turn P w K (.Tuple elts k pos) (lC a o kvs) [it] it (λi h=>∃ok ov,IsItemIter h it a i kvs.length ep ok ov) where
 mem:=by simp
 obj:=λi h st b hb=>by
  have e:b=it:=by simpa using hb
  subst e;obtain⟨ok,ov,q⟩:=st;exact⟨_,q,λv z=>by cases (show Data.fields _=Data.cell v from z)⟩
 keep:=λi h h' st k=>by
  obtain⟨ok,ov,q⟩:=st;exact⟨ok,ov,k it (by simp) _ q⟩
 item:=by
  intro X hP hw hK hc i jb s U H E I hf st hg;subst hP hw hK;obtain⟨hi,hfz⟩:=hg;obtain⟨ok,ov,st⟩:=st;obtain⟨_,⟨hz,rel⟩,da⟩:=O9 I hfz ho;obtain⟨kv,hkv⟩ : ∃kv,kvs[i]?=some kv:=⟨kvs[i],by simp[hi]⟩;obtain⟨b,en,hen,hkey,hb,hval⟩:=rel i kv hkv;rw[<-hes] at st;refine rA st da hen λh' hout htup hkeep=>?_;refine⟨_,rq,wpAny_letOwnedTupleGo_items hout λh2 he2 hs2=>?_⟩;have nit:s.heap.objs.size≠it:=Qct (Qco st);have new:BK X.prog X.w (upd H s.heap.objs.size (.tup [.ref b,kv.2])) h2 s.heap.objs.size (.tup [.ref b,kv.2]):=
   ⟨by show 2<=sizeLine;decide,[en.key,en.val],.cons (by rw[hkey];exact rfl) (.cons hval .nil),_,(hs2.2 _ nit).trans htup,rq,0,rq⟩
  have I1:=I.Oo (h':=h2) (t':=s.toks) (Qcw _) (λb q hb z=>(hs2.2 b (λw=>hb (by simp[w]))).trans (hkeep b q (λw=>hb (by simp[w])) z)) hf new;refine⟨.ref s.heap.objs.size,_,I1,rq,⟨s.heap.objs.size,b,kv,I.hok.fresh (Qcw _),hkv,hb,rq,rq⟩,⟨en.key,en.val,?_⟩,λb hb=>?_⟩
  ·rw[<-hes];exact he2
  ·have z:b=it:=by simpa using hb
   subst z;rw[Ao (Ne.symm nit)];exact (hf b hb).1
 done:=by
  intro X hP hw hK hc i jb s U H E I hf st hg;subst hP hw hK;obtain⟨hi,hfz⟩:=hg;obtain⟨ok,ov,st⟩:=st;obtain⟨_,⟨hz,rel⟩,da⟩:=O9 I hfz ho;rw[<-hes] at st;exact ak (I.ok.hd hc) st da (by simp;omega) λh' ext=>⟨rq,I.M7 (t':=s.toks) (λb ob hb q=>ext b ob (λz=>hb (by simp[z])) q) hf⟩
 self:=λA i s Q E st q=>by
  obtain⟨ok,ov,st⟩:=st;exact YW st q
def xZ (td:TE):TI:=fun U H R=>td U H λx H1=>∃a kvs,x=.ref a/\H1 a=some (.dT kvs)/\∀o,R (lC a o kvs) (upd H1 a (.frz o (.dT kvs)))
theorem Ox {X:Cx} {d:Expr} {td:TE} {elts:YJ} {k:Nat} {tp apos cpos:Pos} (hd:PE X d td) (hbase:attributeBase d "items" X.env (eval d X.env)=eval d X.env:=by rfl) (hline:(apos.endLine == cpos.line)=true:=by rfl) :
  PI X (.Tuple elts k tp) (.Call (.Attribute d "items" apos) [] [] cpos) (xZ td):=by
 intro jb s U H R I h;refine wpAny_Call_method0_late hbase hline (thn (hd jb s U H _ I h) λv s1 zz=>?_);obtain⟨x,H1,I1,r1,a,kvs,ex,e,q⟩:=zz;subst ex;cases r1;obtain⟨t1,t2,hsm⟩:=RV I1 (.inr ⟨kvs,.inl e⟩);obtain⟨o,ho,I2⟩:=I1.gY e;obtain⟨_,_,xs,h3,ob,es,ep,h4,h5,h6,h7,_⟩:=(show BK X.prog X.w H1 s1.heap a (.dT kvs) from I1.hok a _ e)
 rw[ho] at h4;cases h4;have hes:=(V2 h3 h7).1;have da:Mx s1.heap a es ep:=⟨o,ho,h5,h6⟩;refine⟨"dict","dict.items",F.plainAttrs_dict,F.slot_dict_items,F.type_dict_items,t1,t2,QaC rfl (PySem.evalArgs_none ?_)⟩;refine call_meetsIn F.slot_dict_items t1 F.entry_dict_items (F.args_dict_items_1 _) (mV (es:=es) (ep:=ep) hsm) ⟨da,?_⟩;have hz:(s1.heap.push { cls:=.type "dict_items",data:=.fields #[.ref a] }).objs.size=s1.heap.objs.size+1:=QbZ ..;refine WQ (d:=a) (es:=es) (ep:=ep) ⟨_,QaM _ rfl,rq,rq⟩ ⟨o,Qax _ ho,h5,h6⟩ ?_;refine⟨(s1.heap.push { cls:=.type "dict_items",data:=.fields #[.ref a] }).objs.size,[(s1.heap.push { cls:=.type "dict_items",data:=.fields #[.ref a] }).objs.size],_,_,_,rq,
  I2.kept (t':=s1.toks) λb u q=>Qax _ (Qax _ q),qL a _ o kvs h6 hes,?_,λb hb=>?_,q o⟩
 ·rw[<-hes];exact⟨_,_,QaM _ rfl⟩
 ·have z:b=(s1.heap.push { cls:=.type "dict_items",data:=.fields #[.ref a] }).objs.size:=by simpa using hb
  have z2:s1.heap.objs.size<=b:=by rw[z,hz];exact Nat.le_succ _
  exact I2.PX z2 (I2.hok.fresh z2)
theorem QX {a l:Addr} {o:Obj} {kvs:YL} {g:TG} {tt:TT} {te:TE} {Q:VK} {σ0:St} {H0:Hp} (Pv:YN) (h0:Pv 0 σ0 H0) (hl:∀i U H',i<=kvs.length->Pv i U H'->H' a=some (.frz o (.dT kvs)))
  (hs:∀i kv p b U H',kvs[i]?=some kv->Pv i U H'->H' p=none->H' b=some (.tup (kv.1.map kV))->g (.ref p) U (upd H' p (.tup [.ref b,kv.2])) fun σ3 H3=>tt σ3 H3 λb H4=>if b=true then te σ3 H4 λy H5=>∃ys,H5 l=some (.lst ys)/\ys.length < sizeLine/\Pv (i+1) σ3 (upd H5 l (.lst (ys++[y]))) else Pv (i+1) σ3 H4)
  (hd:∀ U H',Pv kvs.length U H'->Q (.ref l) H'):Gh (lC a o kvs) g tt te Q σ0 H0 l:=by
 unfold Gh;refine⟨λi m U H'=>m=kvs.length - i/\i<=kvs.length/\Pv i U H',⟨kvs.length,by simp,Qcx _,h0⟩,?_⟩;rintro i m U H' ⟨rfl,hi,p⟩;have q:=hl i U H' hi p;by_cases hlt:i < kvs.length
 ·refine .inr ⟨⟨hlt,q⟩,Pv (i+1),fun σ3 H3 p'=>⟨kvs.length - (i+1),by omega,rq,hlt,p'⟩,λx H2 y=>?_⟩;obtain⟨pa,b,kv,hp,hkv,hb,rfl,rfl⟩:=y;exact hs i kv pa b U H' hkv p hp hb
 ·have e:i=kvs.length:=by omega
  subst e;exact .inl ⟨⟨rq,q⟩,hd U H' p⟩
theorem wN {prog:Program} {w:World} {d:Addr} {es:YK} {ep:Nat} (lo:(d == sysModules)=false):PySem.W.KdlSrc prog w "dict" d d es.size (λi v=>∃en,es[i]?=some en/\v=en.key) (λh=>Mx h d es ep) where
 type:=λ_ ⟨o,ho,hx,_⟩=>⟨o,ho,hx.1⟩
 there:=λ_ ⟨o,ho,_⟩=>⟨Qco ho,Qco ho⟩
 keep:=λ_ _ ⟨o,ho,hx⟩ hk=>⟨o,hk d (.inl rfl) o ho,hx⟩
 notList:=by decide
 notTuple:=by decide
 hint:=λ_ _ _ _ ⟨o,ho,hx,_⟩ hq=>PySem.W.kdl_hint_dict ⟨o,ho,hx.1⟩ hq
 iter:=λA s hh hm=>⟨_,λi h=>h.IsKeyIter s.heap.objs.size d i es.size ep/\Mx h d es ep,(λ_ _ hq=>aj lo hm hq),{
   sub:=λb hb=>by simp at hb;simp[hb]
   frame:=λ_ _ _ st hk=>⟨st.1.at λo e=>hk s.heap.objs.size (by simp) o e,let ⟨o,ho,r⟩:=st.2;⟨o,hk d (by simp) o ho,r⟩⟩
   item:=λi s' Q E hi st hQ=>by
    have hne:d≠s.heap.objs.size:=let ⟨o,ho,_⟩:=hm;Qcp (Qco ho);have hx:es[i]?=some es[i]:=by simp[hi]
    refine Z9 st.1 st.2 hx λh' hit' hs'=>?_;obtain⟨o,ho,r⟩:=st.2;exact hQ es[i].key h' s'.toks ⟨es[i],hx,rq⟩ ⟨hit',o,hs'.extBut d o hne ho,r⟩ λb o hb e=>hs'.extBut b o (λh=>hb (by simp[h])) e
   done:=λs' Q E st hQ=>gB hh st.1 st.2 (by simp) λh' he'=>hQ h' s'.toks λb o hb e=>he' b o (λh=>hb (by simp[h])) e
   self:=λ_ _ _ _ st hQ=>wpAny_pyIter_keyiter st.1 hQ },⟨⟨_,QaM _ rfl,rq,rq⟩,let ⟨o,ho,r⟩:=hm;⟨o,Qax _ ho,r⟩⟩⟩
@[irreducible] def Tq:YG->Hp->VK->Prop:=λxs H Q=>∃(a:Addr) (kvs:YL),xs=[.ref a]/\H a=some (.dT kvs)/\∀l bs,H l=none->Paired (λb (kv:List Key×V)=>H b=some (.tup (kv.1.map kV))) bs kvs->Q (.ref l) (upd H l (.lst (bs.map V.ref)))
theorem oA {a:Addr} {kvs:YL} {H:Hp} {Q:VK} (h:H a=some (.dT kvs)) (q:∀l bs,H l=none->Paired (λb (kv:List Key×V)=>H b=some (.tup (kv.1.map kV))) bs kvs->Q (.ref l) (upd H l (.lst (bs.map V.ref)))):Tq [.ref a] H Q:=by
 unfold Tq;exact⟨a,kvs,rq,h,q⟩
theorem V5 {H:Hp}:∀{kvs:YL} {us:YE},us.length=kvs.length->(∀(j:Nat) (u:Value),us[j]?=some u->∃(kv:List Key×V) (b:Addr),kvs[j]?=some kv/\u=.ref b/\H b=some (.tup (kv.1.map kV)))->∃bs:List Addr,Vals (bs.map V.ref) us/\Paired (λb (kv:List Key×V)=>H b=some (.tup (kv.1.map kV))) bs kvs
 | [],[],_,_=>⟨[],.nil,.nil⟩
 | [],_::_,h,_=>by simp at h
 | _::_,[],h,_=>by simp at h
 | kv::r,u::us,h,g=>by
  obtain⟨bs,h1,h2⟩:=V5 (H:=H) (kvs:=r) (us:=us) (by simpa using h) λj u hu=>by
   obtain⟨kv',b,e,q⟩:=g (j+1) u (by simpa using hu);exact⟨kv',b,by simpa using e,q⟩
  obtain⟨kv',b,e,e2,q⟩:=g 0 u rfl;cases e;exact⟨b::bs,.cons e2 h1,.cons q h2⟩
theorem dY {X:Cx} (hc:X.calm=true):DQ X (.type "list") Tq:=by
 intro jb s U H xs us Q I r h;unfold Tq at h;obtain⟨a,kvs,rfl,e,q⟩:=h;obtain⟨u,rfl,rx⟩:=vals1 r;cases rx;obtain⟨z,lo,xs,h3,ob,es,ep,h4,h5,h6,h7,_⟩:=(show BK X.prog X.w H s.heap a (.dT kvs) from I.hok a _ e)
 obtain⟨hz,rel⟩:=V2 h3 h7;refine PySem.W.kdl_call (wN (es:=es) (ep:=ep) lo) (I.ok.hd hc) ⟨ob,h4,h5,h6⟩ (by omega) λh' tk acc c' hk hS hacc=>?_;obtain⟨bs,b1,b2⟩:=V5 (H:=H) (kvs:=kvs) (us:=acc.toList) (by rw[QaP,hacc.1,hz]) λj u hu=>by
  obtain⟨en,hen,e2⟩:=hacc.2 j u (by rw[<-Array.getElem?_toList];exact hu);have hj:j < kvs.length:=by
   have:=(Qaf.mp hen).1;omega
  obtain⟨b,en',h8,h9,h10,_⟩:=rel j kvs[j] (Qam hj);rw[hen] at h8;cases h8;exact⟨kvs[j],b,Qam hj,by rw[e2,h9],h10⟩
 have fr:=I.hok.fresh (Qcw s.heap.objs.size);refine⟨.ref s.heap.objs.size,_,I.laid (t':=tk) (o:=.lst (bs.map V.ref)) (λb o q=>hk b o q) (Qcw _) ?_,rq,q _ bs fr b2⟩;exact⟨by rw[QbH,Qcd b2];exact z,acc.toList,c',b1,hS⟩
theorem Yd {α β : Type} (f:α->β):∀(l:List α) (j:Nat),(l.map f).eraseIdx j=(l.eraseIdx j).map f
 | [],_=>rfl
 | _::_,0=>rfl
 | a::r,j+1=>by
  show f a::(r.map f).eraseIdx j=f a::(r.eraseIdx j).map f;rw[Yd f r j]
theorem Wb {α β : Type} {F:α->β->Prop}:∀{l:List α} {m:List β} (j:Nat),Paired F l m->Paired F (l.eraseIdx j) (m.eraseIdx j)
 | _,_,_,.nil=>.nil
 | _,_,0,.cons _ t=>t
 | _,_,j+1,.cons a t=>.cons a (Wb j t)
theorem w5 {H:Hp}:∀{l:YL} {m:List (List Key×Addr×Value)} {i:Nat} {p:List Key×V},Paired (λ(p:List Key×V) (q:List Key×Addr×Value)=>p.1=q.1/\H q.2.1=some (.tup (p.1.map kV))/\RelV p.2 q.2.2) l m->l[i]?=some p->∃x,m[i]?=some x/\p.1=x.1/\H x.2.1=some (.tup (p.1.map kV))/\RelV p.2 x.2.2:=by
 intro l m i p r
 induction r generalizing i with
 | nil=>intro h;cases h
 | cons a t ih=>
  intro h;cases i with
  | zero=>cases h;exact⟨_,rfl,a⟩
  | succ i=>exact ih h
theorem X4 {H:Hp}:∀{l:YL} {m:List (List Key×Addr×Value)} {i:Nat} {x:List Key×Addr×Value},Paired (λ(p:List Key×V) (q:List Key×Addr×Value)=>p.1=q.1/\H q.2.1=some (.tup (p.1.map kV))/\RelV p.2 q.2.2) l m->m[i]?=some x->∃p,l[i]?=some p/\p.1=x.1/\H x.2.1=some (.tup (p.1.map kV))/\RelV p.2 x.2.2:=by
 intro l m i x r
 induction r generalizing i with
 | nil=>intro h;cases h
 | cons a t ih=>
  intro h;cases i with
  | zero=>cases h;exact⟨_,rfl,a⟩
  | succ i=>exact ih h
theorem lR {prog:Program} {w:World} {K:Type} [DecidableEq K] {knd:HeapKind prog w K} {A:Around} {E:YA} {s:Shared} {d a:Addr} {o:Obj} {es:YK} {ep:Nat} {xs:List (K×Addr×Value)} {k:K} {Q:Option DictEntry->Shared->Prop} (hu:knd.room A) (hkey:knd.is s.heap k a)
  (ho:s.heap.get? d=some o) (hc:o.ExactDict) (hd:o.data=.dict es ep) (he:es.toList=xs.map (entryOfKey knd)) (his:∀x∈xs,knd.is s.heap x.1 x.2.1) (hn:(xs.map (·.1)).Nodup) (hz:xs.length<=sizeLine)
  (hnone:(∀(j:Nat) (p:Addr×Value),xs[j]?≠some (k,p))->Q none { s with toks:=s.toks+knd.draws k })
  (hsome:∀(j:Nat) (p:Addr×Value),xs[j]?=some (k,p)->∀h' o' es',h'.get? d=some o'->o'.ExactDict->o'.data=.dict es' (ep+1)->es'.toList=(xs.eraseIdx j).map (entryOfKey knd)->Heap.SameBut d s.heap h'->Q (some (entryOfKey knd (k,p))) { s with heap:=h',toks:=s.toks+knd.draws k }) :
  wpAny (model prog w) A (Builtin.Dict.takeOut d (.ref a)) Q E s:=by
 unfold Builtin.Dict.takeOut
 try with_reducible refine Qch ?_
 refine QcB (knd.pyHash hu hkey (QcB (wpAny_dictFind_heap (s:={ s with toks:=s.toks+knd.draws k }) hu hkey ho hd he his hn (λhno=>QcC (hnone hno)) λj p hj=>?_)));refine QcB (wpAny_dictEntries (s:={ s with toks:=s.toks+knd.draws k }) ho hd ?_);rw[entry_at he j,hj];have hsz:=size_of_entries he;have hle:(es.eraseIdxIfInBounds j).toList=(xs.eraseIdx j).map (entryOfKey knd):=by
  rw[Array.toList_eraseIdxIfInBounds,he,Yd]
 refine QcB (wpAny_updateDictKeys (hz:=by omega) (hf:=by have h1:=congrArg List.length hle;rw[QaP,QbH] at h1;have:=List.length_eraseIdx_le xs j;omega) (s:={ s with toks:=s.toks+knd.draws k }) ho hd ?_);exact QcC (hsome j p hj _ _ _ (QaG _ ho (Obj.isFreed_of_dict (Obj.data_mapDictKeys hd _))) (hc.mapDictKeys _) (Obj.data_mapDictKeys hd _) hle (QaR ..))
def zc (td ty tx:TE):TE:=fun U H Q=>td U H λx H1=>∃a,x=.ref a/\IsD H1 a/\ty U H1 λy H2=>tx U H2 λz H3=>∃kvs k b,H3 a=some (.dT kvs)/\y=.ref b/\H3 b=some (.tup (k.map kV)) /\
 (∀(j:Nat) (v:V),kvs[j]?=some (k,v)->Q v (upd H3 a (.dT (kvs.eraseIdx j))))/\((∀(j:Nat) (v:V),kvs[j]?≠some (k,v))->Q z H3)
theorem Bz {X:Cx} {jb:YC} {U : St} {H:Hp} {s:Shared} {A:Around} {E:YA} {a b:Addr} {kvs:YL} {k:List Key} {r:Value} {Q:YA} (hu:A.units+1 < cLine) (I:Inv X jb U H s) (e:H a=some (.dT kvs)) (eb:H b=some (.tup (k.map kV)))
  (h1:∀(j:Nat) (v:V),kvs[j]?=some (k,v)->∀w' s',Inv X jb U (upd H a (.dT (kvs.eraseIdx j))) s'->RelV v w'->Q w' s') (h2:(∀(j:Nat) (v:V),kvs[j]?≠some (k,v))->∀s',Inv X jb U H s'->Q r s'):wpAny (model X.prog X.w) A (call (.builtin "dict.pop") [.ref a,.ref b,r]) Q E s:=by
 obtain⟨z,lo,xs,rel,ob,es,ep,h4,h5,h6,h7,h8⟩:=(show BK X.prog X.w H s.heap a (.dT kvs) from I.hok a _ e)
 have T:s.TypeIs (.ref a) "dict":=⟨ob,h4,h5.1⟩;refine QbB F.slot_dict_pop T F.entry_dict_pop ?_ (F.args_dict_pop_3 _ _ _);unfold Builtin.«dict.pop»;refine QcB ?_;unfold Builtin.Dict.keyAndDefault;refine QcB (wpAny_notOrdered_dict T ?_);show wpAny _ _ (pure (a,Value.ref b,some r)) _ _ s;refine QcC ?_;dsimp only;rw[if_neg (show ¬((keyPart (Value.ref b)).isSome=true) from QaW)]
 have hlen:xs.length=kvs.length:=(Qcd rel).symm;have hkey:=Ib I.hok eb;have none_of:(∀(j:Nat) (p:Addr×Value),xs[j]?≠some (k,p))->∀(j:Nat) (v:V),kvs[j]?≠some (k,v):=λhno j v hj=>by
  obtain⟨q,hq,e1,_⟩:=w5 rel hj;have e1:k=q.1:=e1;exact hno j q.2 (by rw[hq,e1])
 have fin:∀tk,(∀(j:Nat) (v:V),kvs[j]?≠some (k,v))->Q r { s with toks:=tk }:=λtk hno=>h2 hno _ (I.tok _);refine QcB (wpAny_dictEntries h4 h6 (QcB (QcC ?_)));have miss:∀(tk:Nat),(∀(j:Nat) (v:V),kvs[j]?≠some (k,v))->wpAny (model X.prog X.w) A.in1 (do Builtin.Dict.missedRemoval a (Value.ref b);rule "dict.pop.default";ret r) (λfin s'=>∃v,fin=PySem.Fin.done (Flow.ret v)/\Q v s') E { s with toks:=tk }:=λtk hno=>by
  unfold Builtin.Dict.missedRemoval;rw[if_neg (by rw[lo];exact QaW)];exact QcB (QcC (QcB (wpAny_rule (QcC ⟨_,rq,fin tk hno⟩))))
 by_cases hem:es.isEmpty=true
 ·rw[if_pos hem];have hk0:kvs=[]:=by
   have h1:=size_of_entries h7;have h2:es.size=0:=by simpa using hem
   exact List.length_eq_zero_iff.mp (by omega)
  have h3:=miss s.toks λj v hj=>by rw[hk0] at hj;cases hj
  exact QcB (wpAny_rule (QcB (QcC h3)))
 ·rw[if_neg hem];refine QcB (lR (knd:=tupleKind (Bw X.prog X.w)) (Qbg hu) hkey h4 h5 h6 h7 ?_ h8 (by omega) (λhno=>miss _ (none_of hno)) λj p hj h' o' es' g1 g2 g3 g4 sb=>?_)
  ·intro x hx;obtain⟨i,hi⟩:=QaL hx;obtain⟨pv,_,e1,hb,_⟩:=X4 rel hi;rw[<-e1];exact Ib I.hok hb
  ·obtain⟨pv,hp,e1,_,rv⟩:=X4 rel hj;have hp:kvs[j]?=some (k,pv.2):=by
    rw[hp];have:pv.1=k:=e1;rw[<-this]
   have nd:((xs.eraseIdx j).map (·.1)).Nodup:=(List.Sublist.map _ (List.eraseIdx_sublist xs j)).nodup h8;refine QcB (wpAny_letGo (QcC ⟨_,rq,h1 j pv.2 hp _ _ ?_ rv⟩));refine Qo I (by rw[e];exact True.intro) sb ⟨o',g1⟩ ⟨by have:=List.length_eraseIdx_le kvs j;omega,lo,xs.eraseIdx j,?_,o',es',_,g1,g2,g3,g4,nd⟩;refine Paired.Ax (Wb j rel) λx y hxy=>⟨hxy.1,?_,hxy.2.2⟩;rw[Ao (jJ hxy.2.1 e (λz=>nomatch z))];exact hxy.2.1
section
variable {X:Cx} {o e f:Expr} {apos cpos:Pos} {td ty tx:TE}
theorem rJ (hu:X.A.units+1 < cLine) (ho:PE X o td) (he:PE X e ty) (hf:PE X f tx) (m:M2 X o "pop" apos e f cpos):PE X (.Call (.Attribute o "pop" apos) [e,f] [] cpos) (zc td ty tx):=by
 intro jb s U H Q I h;refine wpAny_Call_method m.base m.few m.line PySem.F.plainAttrs_dict PySem.F.slot_dict_pop PySem.F.type_dict_pop (thn (ho jb s U H _ I h) λu s1 zz=>?_);obtain⟨x,H1,I1,rx,a,ex,d,q1⟩:=zz;subst ex;obtain rfl:u=Value.ref a:=rx;obtain⟨t1,t2,_⟩:=RV I1 d;refine⟨t1,t2,?_⟩;rw[m.trees];refine QaC rfl (Calls.evalArgs_plain (Qbi (thn (he jb s1 U H1 _ I1 q1) λiv s2 ⟨y,H2,I2,ry,q2⟩=>
  Qbi (thn (hf jb s2 U H2 _ I2 q2) λfv s3 ⟨z,H3,I3,rz,kvs,k,b,ea,ey,eb,q3,q4⟩=>Calls.spliced_nil ?_))))
 subst ey;obtain rfl:iv=Value.ref b:=ry;exact Bz hu I3 ea eb (λj v hj w' s4 I4 rw'=>⟨v,_,I4,rw',q3 j v hj⟩) λhno s4 I4=>⟨z,H3,I4,rz,q4 hno⟩
end
section
variable {prog:Program} {w:World} {A:Around} {E:YA} {s:Shared} {R:Result->Shared->Prop}
theorem QL {h h':Heap} {k:List Key} {a:Addr} (x:(tupleKind (Bw prog w)).is h k a) (f:∀o,h.get? a=some o->h'.get? a=some o):(tupleKind (Bw prog w)).is h' k a:=by
 obtain⟨o,its,n,h1,r⟩:=x;exact⟨o,its,n,f o h1,r⟩
theorem oG {h:Heap} {k:List Key} {a:Addr} (x:(tupleKind (Bw prog w)).is h k a):∃o,h.get? a=some o:=by
 obtain⟨o,its,n,h1,r⟩:=x;exact⟨o,h1⟩
theorem Wc {h h':Heap} {d:Addr} {xs:List (List Key×Addr×Value)} (m:h.DictOfH (tupleKind (Bw prog w)) d xs) (f:∀o,h.get? d=some o->h'.get? d=some o) (g:∀x∈xs,∀o,h.get? x.2.1=some o->h'.get? x.2.1=some o):h'.DictOfH (tupleKind (Bw prog w)) d xs:=by
 obtain⟨o,es,ep,h1,h2,h3,h4,h5,h6⟩:=m;exact⟨o,es,ep,f o h1,h2,h3,h4,λx hx=>QL (h5 x hx) (g x hx),h6⟩
theorem uR {xs:List (List Key×Addr×Value)} {k:List Key} (h:∀x∈xs,x.1≠k):atKey xs k=none:=atKey_none_of_get λj p hj=>h _ (QaI hj) rfl
theorem XF {d it l:Addr} {items:YE} {res:Value} (hu:A.units+1 < cLine) (hh:A.handled=none) (ndi:d≠it) (nld:l≠d) (nli:l≠it):∀(rs:List (Addr×List Key×Addr×Value)) (i:Nat) (acc:List (List Key×Addr×Value)) (s:Shared),s.heap.IsListIter it l i->s.heap.IsList l items.toArray ->
  items.drop i=rs.map (λr=>Value.ref r.1)->(∀r∈rs,s.heap.IsTuple r.1 #[.ref r.2.2.1,r.2.2.2]/\(tupleKind (Bw prog w)).is s.heap r.2.1 r.2.2.1/\(r.1≠d/\r.1≠it)/\r.2.2.1≠d/\r.2.2.1≠it)->(∀x∈acc,x.2.1≠d/\x.2.1≠it)->(acc.map (·.1)++rs.map (·.2.1)).Nodup->s.heap.DictOfH (tupleKind (Bw prog w)) d acc->acc.length+rs.length<=sizeLine ->
  (∀h' tk,h'.DictOfH (tupleKind (Bw prog w)) d (acc++rs.map λr=>(r.2.1,r.2.2.1,r.2.2.2))->(∀b o,b≠d->b≠it->s.heap.get? b=some o->h'.get? b=some o)->R (.ok (.ret res)) { s with heap:=h',toks:=tk }) ->
  codeAny (model prog w) A (.builtin "dict.update.loop" ⟨[.ref d,.ref it,rawInt i,res],[]⟩) R s
 | [],i,acc,s,hit,hl,hd,_,ha,nd,hm,hz,hR=>by
  refine codeAny_builtin Qm ?_;rw[Around.under_plainId Io _];show wpAny _ A.in1 (pyNext (.ref it) >>= _) _ _ s;have hx:items.toArray[i]?=none:=by
   have:items.length<=i:=by simpa using hd
   simp[this]
  refine QcB (wpAny_pyNext_list_end (show A.in1.handled=none from hh) hit hl hx λh' ex=>?_)
  refine QcB (QcC ?_);refine QcC ?_;rw[Qcv,QbK] at hR;exact hR h' s.toks (Wc hm (λo e=>ex _ _ ndi e) λx hx o e=>ex _ _ (ha x hx).2 e) λb o nb nt q=>ex b o nt q
 | (t,k,kb,v)::rs,i,acc,s,hit,hl,hd,hr,ha,nd0,hm,hz,hR=>by
  refine codeAny_builtin Qm ?_;rw[Around.under_plainId Io _];show wpAny _ A.in1 (pyNext (.ref it) >>= _) _ _ s;have hx:items.toArray[i]?=some (.ref t):=by
   have:=congrArg List.head? hd;rw[List.head?_drop] at this;simpa using this
  have hd':items.drop (i+1)=rs.map (λr=>Value.ref r.1):=by
   rw[<-List.tail_drop,hd];rfl
  obtain⟨⟨ot,ho,hc,n,hdt⟩,hk,⟨nd,ni⟩,kd,ki⟩:=hr _ (QaV ..);refine QcB (wpAny_pyNext_list_item hit hl hx λh1 hit1 sb1=>?_);have k1:∀b o,b≠it->s.heap.get? b=some o->h1.get? b=some o:=λb o nb q=>(sb1.2 b nb).trans q;refine QcB (Qch ?_);refine QcB (wpAny_tryCatch ?_);have hT:(⟨h1,s.gens,s.drawn,s.toks,s.os⟩ : Shared).TypeIs (.ref t) "tuple":=⟨ot,k1 _ _ ni ho,hc⟩;unfold Builtin.Dict.pairItems;refine QcB (wpAny_typeOf hT ?_);rw[if_pos (by decide)];refine QcB (Qcc (k1 _ _ ni ho) hdt (QcC ?_));show wpAny _ A.in1 (holding [.ref kb,v] (dictSet d (.ref kb) v)) _ _ _;have hm1:h1.DictOfH (tupleKind (Bw prog w)) d acc:=Wc hm (λo e=>k1 _ _ ndi e) λx hx o e=>k1 _ _ (ha x hx).2 e;have hk1:=QL hk λo e=>k1 _ _ ki e;have hnew:atKey acc k=none:=uR λx hx e=>by
   have:=(Qbw.mp nd0).2.2 x.1 (Qcn.mpr ⟨x,hx,rq⟩) k (QaV ..);exact this e
  have hz0:acc.length+(rs.length+1)<=sizeLine:=hz;refine Qch (wpAny_dictSet_heap (show (tupleKind (Bw prog w)).room A.in1 from Qbg hu) hk1 hm1 (λh2 hm2 sb2=>?_) (by omega))
  rw[storedH_new hnew] at hm2;have k2:∀b o,b≠d->h1.get? b=some o->h2.get? b=some o:=λb o nb q=>(sb2.2 b nb).trans q;refine QcC ⟨plainId_quiet Io _,?_⟩;have key:∀j:Int,rawInt (j+1)=rawInt (j+1):=λ_=>rfl;have e1:rawInt ((i:Int)+1)=rawInt ((i+1:Nat):Int):=by rw[Int.natCast_add];rfl
  show codeAny (model prog w) A (.builtin "dict.update.loop" ⟨[.ref d,.ref it,rawInt ((i:Int)+1),res],[]⟩) R _;rw[e1];obtain⟨oi,b1,b2⟩:=hit1;obtain⟨ol,c1,c2⟩:=hl;refine XF hu hh ndi nld nli rs (i+1) (acc++[(k,kb,v)]) _ ⟨oi,k2 _ _ (Ne.symm ndi) b1,b2⟩ ⟨ol,k2 _ _ nld (k1 _ _ nli c1),c2⟩ hd' (λr hrm=>?_) (λx hx=>?_) ?_ hm2 ?_ λh' tk x y=>hR h' tk (by rw[Qbm] at x;exact x) λb o nb nt q=>y b o nb nt (k2 _ _ nb (k1 _ _ nt q))
  ·obtain⟨⟨ob,d1,d2⟩,d3,⟨d4,d5⟩,d6,d7⟩:=hr r (QaJ _ hrm);exact⟨⟨ob,k2 _ _ d4 (k1 _ _ d5 d1),d2⟩,QL d3 λo e=>k2 _ _ d6 (k1 _ _ d7 e),⟨d4,d5⟩,d6,d7⟩
  ·rcases QbJ.mp hx with h | h
   ·exact ha x h
   ·have:x=(k,kb,v):=by simpa using h
    rw[this];exact⟨kd,ki⟩
  ·rw[QbI,Qbm];exact nd0
  ·rw[QaU];show acc.length+1+rs.length<=sizeLine;omega
end
section
variable {prog:Program} {w:World} {A:Around} {E:YA} {s:Shared}
theorem Y0 {l:Addr} {items:YE} {c:Nat} {rs:List (Addr×List Key×Addr×Value)} {Q:YA} (hu:A.units+2 < cLine) (hh:A.handled=none) (hl:s.heap.get? l=some (seqObj "list" items.toArray c)) (hi:items=rs.map (λr=>Value.ref r.1))
  (hr:∀r∈rs,s.heap.IsTuple r.1 #[.ref r.2.2.1,r.2.2.2]/\(tupleKind (Bw prog w)).is s.heap r.2.1 r.2.2.1) (nd:(rs.map (·.2.1)).Nodup) (hz:rs.length<=sizeLine)
  (h:∀d h' tk,s.heap.objs.size<=d->h'.DictOfH (tupleKind (Bw prog w)) d (rs.map λr=>(r.2.1,r.2.2.1,r.2.2.2))->(∀b o,s.heap.get? b=some o->h'.get? b=some o)->Q (.ref d) { s with heap:=h',toks:=tk }) :
  wpAny (model prog w) A (call (.type "dict") [.ref l]) Q E s:=by
 refine callType_codes (Q₁:=λobj s₁=>obj=.ref s.heap.objs.size/\s₁={ s with heap:=s.heap.push { cls:=.type "dict",data:=.dict #[] } }) F.kt_called_dict (F.kt_typeCall_dict_1 _) F.entry_dict_init (kt_code_dict_new _ ⟨rq,rq⟩) ?_;rintro obj s₁ ⟨rfl,rfl⟩;have hnew:(s.heap.push { cls:=.type "dict",data:=.dict #[] }).DictOfH (tupleKind (Bw prog w)) s.heap.objs.size []:=Heap.DictOfH.new s.heap;have k1:∀b o,s.heap.get? b=some o->b≠s.heap.objs.size/\(s.heap.push { cls:=.type "dict",data:=.dict #[] }).get? b=some o:=λb o q=>⟨Qcp (Qco q),Qax _ q⟩;generalize hd:s.heap.objs.size=d at hnew k1;have ld:s.heap.objs.size<=d:=Nat.le_of_eq hd;generalize s.heap.push { cls:=.type "dict",data:=.dict #[] }=g1 at hnew k1;refine⟨hnew.typeIs,F.args_dict_init_2 _ _,?_⟩;unfold Builtin.«dict.__init__»;refine QcB ?_;unfold Builtin.Dict.selfAndRest;refine QcB (wpAny_notOrdered_dict hnew.typeIs ?_);show wpAny _ _ (pure (d,[Value.ref l])) _ _ _;refine QcC ?_;show wpAny _ _ (Builtin.Dict.updateFrom "dict.__init__" d (.ref l) [] .none) _ _ _;unfold Builtin.Dict.updateFrom;have hl1:=(k1 _ _ hl).2;refine QcB (wpAny_typeOf (show (⟨g1,s.gens,s.drawn,s.toks,s.os⟩ : Shared).TypeIs (.ref l) "list" from⟨_,hl1,rq⟩) ?_)
 rw[if_pos (by decide)];refine QcB (xT (show A.in1.in1.handled=none from hh) hl1 λg2 tk k2=>?_)
 rw[show (none:Option Value).isNone=true from rfl,if_pos rfl]
 refine QcB (wpAny_rule ?_);have hl2:=k2 _ _ hl1;refine QcB (Qbt (items:=items.toArray) ⟨_,hl2,rq,_,rq⟩ ?_);obtain⟨od,es,ep,a1,a2⟩:=hnew;have nit:∀b o,g2.get? b=some o->b≠g2.objs.size:=λb o q=>Qcp (Qco q);have k3:∀b o,g2.get? b=some o->(g2.push { cls:=.type "list_iterator",data:=.fields #[.ref l,.int 0 0] }).get? b=some o:=λb o q=>Qax _ q;refine QcC ⟨plainId_quiet Io _,?_⟩;have kk:∀b o,s.heap.get? b=some o->(b≠d/\b≠g2.objs.size)/\(g2.push { cls:=.type "list_iterator",data:=.fields #[.ref l,.int 0 0] }).get? b=some o:=λb o q=>⟨⟨(k1 _ _ q).1,nit _ _ (k2 _ _ (k1 _ _ q).2)⟩,k3 _ _ (k2 _ _ (k1 _ _ q).2)⟩;refine XF (items:=items) (show A.in1.units+1 < cLine from hu) (show A.in1.handled=none from hh) (nit _ _ (k2 _ _ a1)) (k1 _ _ hl).1 (nit _ _ hl2) rs 0 [] _ ⟨_,QaM _ rfl,rq,rq⟩ ⟨_,k3 _ _ hl2,rq,_,rq⟩ (by rw[List.drop_zero];exact hi) (λr hrm=>?_) (λx hx=>by cases hx) nd ?_ (by rw[List.length_nil];omega) λh' tk' x y=>⟨rq,h d h' tk' ld x λb o q=>y b o (k1 _ _ q).1 (kk _ _ q).1.2 (kk _ _ q).2⟩
 ·obtain⟨⟨ob,d1,d2⟩,d3⟩:=hr r hrm;obtain⟨oo,e0⟩:=oG d3;exact⟨⟨ob,(kk _ _ d1).2,d2⟩,QL d3 λo e=>(kk _ _ e).2,(kk _ _ d1).1,(kk _ _ e0).1⟩
 ·exact⟨od,es,ep,k3 _ _ (k2 _ _ a1),a2.1,a2.2.1,a2.2.2.1,(λx hx=>by cases hx),Qca⟩
end
def Wi (H:Hp) (v:V) (r:List Key×V):Prop:=∃t b,v=.ref t/\H t=some (.tup [.ref b,r.2])/\H b=some (.tup (r.1.map kV))
theorem Z7 {P:Program} {w:World} {H:Hp} {h:Heap} (ok:HOk P w H h):∀{vs:YG} {rows:YL} {us:YE},Paired (Wi H) vs rows->Vals vs us ->
  ∃rs:List (Addr×List Key×Addr×Value),us=rs.map (λr=>Value.ref r.1)/\(∀r∈rs,h.IsTuple r.1 #[.ref r.2.2.1,r.2.2.2]/\(tupleKind (Bw P w)).is h r.2.1 r.2.2.1)/\Paired (λ(p:List Key×V) (q:List Key×Addr×Value)=>p.1=q.1/\H q.2.1=some (.tup (p.1.map kV))/\RelV p.2 q.2.2) rows (rs.map λr=>(r.2.1,r.2.2.1,r.2.2.2))/\rs.length=rows.length/\rs.map (·.2.1)=rows.map (·.1)
 | _,_,_,.nil,.nil=>⟨[],rfl,(λ_ h=>by cases h),.nil,rfl,rfl⟩
 | _,_,_,.cons (b:=row) ⟨t,b,e,ht,hb⟩ p,.cons r q=>by
  obtain⟨rs,h1,h2,h3,h4,h5⟩:=Z7 ok p q;subst e;cases r;obtain⟨_,its,rv,o,ho,hc,n,hd⟩:=ok t _ ht;cases rv with
  | cons a1 rv=>
   rename_i u1 us1;cases rv with
   | cons a2 rv=>
    rename_i u2 us2;cases rv;cases (show u1=Value.ref b from a1)
    refine⟨(t,row.1,b,u2)::rs,by rw[h1];rfl,λr hr=>?_,.cons ⟨rq,hb,a2⟩ h3,by rw[Qby,h4];rfl,by rw[Qcf,h5];rfl⟩;rcases Qce.mp hr with e | e
    ·rw[e];exact⟨⟨o,ho,hc,n,hd⟩,Ib ok hb⟩
    ·exact h2 r e
def wQ:YG->Hp->VK->Prop:=λxs H Q=>∃l vs rows,xs=[.ref l]/\H l=some (.lst vs)/\Paired (Wi H) vs rows/\(rows.map (·.1)).Nodup/\rows.length < 1000/\∀d,H d=none->Q (.ref d) (upd H d (.dT rows))
theorem Uy {X:Cx} (hu:X.A.units+64 < cLine) (hc:X.calm=true):DQ X (.type "dict") wQ:=by
 intro jb s U H xs us Q I r h;obtain⟨l,vs,rows,rfl,hl,pr,nd,hz,q⟩:=h;obtain⟨u,rfl,rx⟩:=vals1 r;cases rx;obtain⟨_,its,n,rv,ho⟩:=(show BK X.prog X.w H s.heap l (.lst vs) from I.hok l _ hl)
 obtain⟨rs,h1,h2,h3,h4,h5⟩:=Z7 I.hok pr rv;have zz:rows.length<=sizeLine:=Qcs (Ar (Qcs hz));refine Y0 (by omega) (I.ok.hd hc) ho h1 h2 (by rw[h5];exact nd) (by rw[h4];exact zz) λd h' tk ld hd kp=>?_;have fr:=I.hok.fresh ld;have hb:=I.big;obtain⟨o,es,ep,g1,g2,g3,g4,_,g6⟩:=hd;refine⟨.ref d,_,I.laid (t':=tk) (o:=.dT rows) kp ld ⟨zz,QaN.mpr (Qct (Qba hb ld)),_,Paired.Ax h3 λx y hxy=>⟨hxy.1,?_,hxy.2.2⟩,o,es,ep,g1,g2,g3,g4,g6⟩,rq,q d fr⟩;rw[Ao (Aw hxy.2.1 fr)];exact hxy.2.1
open PySem.W (KasT kas_asc kas_desc kas_rev kas_tail3 kas_descPart kas_count kas_place kas_bin kas_sort)
structure C3 (a b c k:Int):Prop where
 b0:0<=b
 b1:b < 100
 c0:0<=c
 c1:c < 100
 k:k=a*10000+b*100+c
def Wm (K:YD) (H:Hp) (v:V) (k:Int):Prop:=∃t a b c,v=.ref t/\SqT K H t [.int a,.int b,.int c]/\C3 a b c k
theorem vL {K:YD} {H:Hp}:∀{vs:YG} {ks:List Int},Paired (Wm K H) vs ks->kW K H vs
 | _,_,.nil,_,h=>nomatch h
 | _,_,.cons x r,v,h=>by
  rcases Qce.mp h with rfl | h
  ·obtain⟨t,a,b,c,e,q,_⟩:=x;exact⟨t,[a,b,c],e,q,Nat.succ_pos _⟩
  ·exact vL r v h
section
variable {prog:Program} {w:World} {A:Around} {s:Shared}
theorem FB {fin:Bool} {C:Bool->Shared->Prop} {a b c k a' b' c' k':Int} {t1 t2 t3 u1 u2 u3:Tok} (x:C3 a b c k) (y:C3 a' b' c' k') (ne:k≠k') (hC:C (decide (k < k')) s):PySem.W.KatLex prog w A true fin C ([Value.int a t1,Value.int b t2,Value.int c t3].zip [Value.int a' u1,Value.int b' u2,Value.int c' u3]) 0 s:=by
 have x1:=x.b0;have x2:=x.b1;have x3:=x.c0;have x4:=x.c1;have x5:=x.k;have y1:=y.b0;have y2:=y.b1;have y3:=y.c0;have y4:=y.c1;have y5:=y.k;rw[List.zip_cons_cons];refine kat_cons (wpAny_eqBool_int ?_);by_cases ha:a=a'
 ·rw[show (a == a')=true by rw[ha];exact beq_self_eq_true a'];refine PySem.W.kat_yes ?_;rw[List.zip_cons_cons];refine kat_cons (wpAny_eqBool_int ?_);by_cases hb:b=b'
  ·rw[show (b == b')=true by rw[hb];exact beq_self_eq_true b'];refine PySem.W.kat_yes ?_;rw[List.zip_cons_cons];refine kat_cons (wpAny_eqBool_int ?_);have hc:c≠c':=λz=>ne (by rw[x5,y5,ha,hb,z]);rw[show (c == c')=false from QaN.mpr hc]
   refine PySem.W.kat_no (PySem.W.kat_one _ _ (lt_int ?_));rw[show decide (c < c')=decide (k < k') by rw[QbR,Qbe,Qbe];subst ha hb;constructor <;> intro h <;> omega];exact hC
  ·rw[show (b == b')=false from QaN.mpr hb]
   refine PySem.W.kat_no (PySem.W.kat_one _ _ (lt_int ?_));rw[show decide (b < b')=decide (k < k') by rw[QbR,Qbe,Qbe];subst ha;constructor <;> intro h <;> omega];exact hC
 ·rw[show (a == a')=false from QaN.mpr ha]
  refine PySem.W.kat_no (oneLt_int ?_);rw[show decide (a < a')=decide (k < k') by rw[QbR,Qbe,Qbe];constructor <;> intro h <;> omega];exact hC
end
@[irreducible] def VD (K:YD):YG->Hp->VK->Prop:=λxs H Q=>∃(p:Addr) (vs:YG) (ks:List Int),xs=[.ref p]/\SqL K H p vs/\vs.length < 64/\Paired (Wm K H) vs ks/\ks.Nodup /\
 ∀(is:List Nat) l,is.Perm (List.range vs.length)->(is.map λi=>ks.getD i 0).Pairwise (· < ·)->H l=none->Q (.ref l) (upd H l (.lst (is.map λi=>vs.getD i .non)))
theorem ZG {K:YD} {p:Addr} {vs:YG} {ks:List Int} {H:Hp} {Q:VK} (h1:SqL K H p vs) (h2:vs.length < 64) (h3:Paired (Wm K H) vs ks) (h4:ks.Nodup)
  (q:∀(is:List Nat) l,is.Perm (List.range vs.length)->(is.map λi=>ks.getD i 0).Pairwise (· < ·)->H l=none->Q (.ref l) (upd H l (.lst (is.map λi=>vs.getD i .non)))):VD K [.ref p] H Q:=by
 unfold VD;exact⟨p,vs,ks,rq,h1,h2,h3,h4,q⟩
theorem SM {X:Cx}:DQ X (.builtin "sorted") (VD X.K):=by
 intro jb s U H xs us Q I r h;unfold VD at h;obtain⟨p,vs,ks,rfl,hq,h64,hK,hnd,q⟩:=h;have hR:kW X.K H vs:=vL hK;have hkl:vs.length=ks.length:=Qcd hK;obtain⟨u,rfl,rx⟩:=vals1 r;cases rx;obtain⟨its,rv,pl,hz⟩:=I.list hq;have hlen:vs.length=its.length:=rv.length;by_cases h2:2<=its.length
 ·obtain⟨m,hn,_⟩:=id I.loc;refine PySem.W.kat_sorted (Att.A9 hn) (tQ (g:=Att.VR s.heap) (h:=s.heap) (L:=X.env.locals)) pl.isList h2 (by omega) λD e1 h' F' N' hD=>?_;have kp:∀b o,b≠X.env.locals->s.heap.get? b=some o->h'.get? b=some o:=λb o hb e=>(N' (b,o) (QaJ _ (PJ hb (Att.MN _ _) e))).1;have nl:∀b,H b≠none\/(∃u,X.base.get? b=some u)->b≠X.env.locals:=λb hb z=>by
   rcases hb with hb |⟨u,hb⟩
   ·exact hb (by rw[z];exact I.free)
   ·have:=Qco hb;rw[z] at this;exact absurd (Qba this (Qcr I.ok.bsz I.ok.above)) (Qcg _)
  obtain⟨fs,f1,f2,f3⟩:=gO (h':=h') I (λb o hb e=>kp b o (nl b hb) e) rv hR;refine PySem.W.kat_kind f1 (by omega) (λv hv=>by obtain⟨i,t,rfl⟩:=f3 v hv;exact PySem.W.Looks.of_pure rfl) (T:=.type "int") (by decide) ?_;have inj:Inj its.length (λi=>ks.getD i 0):=λi j hi hj e=>by
   have e:ks.getD i 0=ks.getD j 0:=e;have e1:ks.getD i 0=ks[i]'(by omega):=by simp[show i < ks.length by omega]
   have e2:ks.getD j 0=ks[j]'(by omega):=by simp[show j < ks.length by omega]
   rw[e1,e2] at e;exact oh hnd _ _ e
  have hp:=Vb (lt:=ltK λi=>ks.getD i 0) _ (cR (n:=its.length) (by omega));have O5:=Lg.list hp (qX inj h2);refine gP (lt:=ltK λi=>ks.getD i 0) (n:=its.length) (λi j C hi hj hC=>?_) _ (cR (by omega)) ?_
  ·have vh:∀i,i < its.length->∃(x:Addr) (ox:Obj) (ws:Array Value) (n:Nat),its.getD i Value.none=.ref x/\h'.get? x=some ox/\ox.data=.seq ws n/\(∃a b c t1 t2 t3,ws.toList=[Value.int a t1,Value.int b t2,Value.int c t3]/\C3 a b c (ks.getD i 0))/\∀y∈ws.toList,∃a t,y=Value.int a t:=λi hi=>by
    have hvi:i < vs.length:=by omega
    obtain⟨u,hu,ru⟩:=rv.get (x:=vs[i]) (i:=i) (by simp[hvi]);obtain⟨tp,ka,kb,kc,e,hq',hC3⟩:=dg V.non (0:Int) hK hvi;have hq':SqT X.K H tp (([ka,kb,kc]:List Int).map V.int):=hq';have ev:vs.getD i V.non=vs[i]:=by simp[hvi]
    rw[ev] at e;rw[e] at ru;cases ru;obtain⟨ws,rw',⟨o,ho,hc,n,hd⟩,_⟩:=I.tuple hq';have go:∀{ns:List Int} {ws:YE},Vals (ns.map V.int) ws->∀y∈ws,∃a t,y=Value.int a t:=by
     intro ns
     induction ns with
     | nil=>intro ws r;cases r;exact λy hy=>nomatch hy
     | cons n0 nr ih=>
      intro ws r;cases r with
      | cons r0 rr=>
       intro y hy;rcases Qce.mp hy with rfl | hy
       ·obtain⟨t,e⟩:=r0;exact⟨_,_,e⟩
       ·exact ih rr y hy
    refine⟨tp,o,ws.toArray,n,?_,kp tp o (nl tp ?_) ho,hd,?_,λy hy=>go rw' y (by simpa using hy)⟩
    ·rw[List.getD_eq_getElem?_getD,hu];rfl
    ·rcases hq' with (z |⟨_,z⟩) |⟨_,_,_,z,_⟩
     ·exact .inl (by rw[z];exact λz=>nomatch z)
     ·exact .inl (by rw[z];exact λz=>nomatch z)
     ·exact .inr ⟨_,I.mod.kin _ _ z⟩
    ·cases rw' with
     | cons r0 rr=>
      cases rr with
      | cons r1 rr=>
       cases rr with
       | cons r2 rr=>
        cases rr;obtain⟨t0,e0⟩:=r0;obtain⟨t1,e1⟩:=r1;obtain⟨t2,e2⟩:=r2;exact⟨ka,kb,kc,t0,t1,t2,by rw[e0,e1,e2],hC3⟩
   obtain⟨x,ox,wx,nx,ex,hx,dx,⟨xa,xb,xc,x1,x2,x3,fx,cx⟩,ix⟩:=vh i hi;obtain⟨y,oy,wy,ny,ey,hy,dy,⟨ya,yb,yc,y1,y2,y3,fy,cy⟩,iy⟩:=vh j hj;unfold PySem.W.kas_ask;rw[ex,ey];refine PySem.W.kat_lt hx dx hy dy ?_;by_cases ne:i=j
   ·subst ne;rw[ex] at ey;cases ey;rw[hx] at hy;cases hy;rw[dx] at dy;cases dy;have e0:ltK (λi=>ks.getD i 0) i i=false:=QbM (Int.lt_irrefl _);rw[e0] at hC;have e1:decide (wx.size < wx.size)=false:=QbM (Qcg _);rw[e1];exact AE hC _ ix 0
   ·rw[fx,fy];exact FB cx cy (λz=>ne (inj i j hi hj z)) hC
  ·refine PySem.W.KasFin.intro F' N' (.head λq hq=>Qcp (hD q hq)) λh2' c F2 N2=>?_;generalize Fy (ltK λi=>ks.getD i 0) (kas_sort its.length)=pp at hp O5 N2 ⊢;have kp2:∀b o,b≠X.env.locals->s.heap.get? b=some o->h2'.get? b=some o:=λb o hb e=>(N2 (b,o) (QaJ _ (PJ hb (Att.MN _ _) e))).1;obtain⟨oD,DL,_⟩:=N2 (D,_) (QaV ..);have nD:∀b o,s.heap.get? b=some o->b≠D:=λb o e z=>by
    by_cases hb:b=X.env.locals
    ·exact DL (by rw[<-z];exact hb)
    ·have:=hD (b,o) (PJ hb (Att.MN _ _) e);rw[z] at this;exact Qcg _ this
   have hDn:H D=none:=by
    cases e:H D with
    | none=>rfl
    | some v=>
     obtain⟨o,ho⟩:=(I.hok D v e).there;exact absurd rfl (nD D o ho)
   have tr:∀(o:HO) b u,H b=some u->(upd H D o) b=some u:=λo b u e=>by rw[Ao (Aw e hDn)];exact e
   have hmem:∀i∈pp.toList,i < vs.length:=λi hi=>by rw[hlen];exact Qcb.mp (hp.mem_iff.mp hi)
   have rv2:Vals (pp.toList.map λi=>vs.getD i .non) (pp.toList.map λi=>its.getD i Value.none):=XS V.non Value.none rv hmem;have pm:(pp.toList.map λi=>vs.getD i .non).Perm vs:=by
    have:=hp.map λi=>vs.getD i V.non;rw[<-hlen,range_getD] at this;exact this
   have I2:Inv X jb U (upd H D (.lst (pp.toList.map λi=>vs.getD i .non))) { s with heap:=h2' }:=by
    refine I.step (h':=h2') (g':=s.gens) (d':=s.drawn) (t':=s.toks) (ch:=[]) (λb hb=>absurd hb (by simp)) (λb u hb _ _ e _=>kp2 b u hb e) (λb u hb _ _ e _=>⟨u.slots,kp2 b u hb e⟩) (λb u _ e n=>by rw[Ao (nD b u e)];exact n)
     (λb u _ e=>?_) (λb ys e=>tr _ _ _ e) (λb u v e=>tr _ _ _ e) (λb ps e=>⟨#[],by rw[tr _ _ _ e];simp⟩) (λm' hm'=>by rw[xQ hm' hn];exact F2.ns) (λb u e=>?_) I.bare
    ·by_cases hb:b=X.env.locals
     ·obtain⟨o,_,_,ho,_⟩:=F2.ns;exact⟨o,by rw[hb];exact ho⟩
     ·exact⟨u,kp2 b u hb e⟩
    ·by_cases hb:b=D
     ·subst hb;rw[Ab] at e;cases e;exact⟨by rw[pm.length_eq];exact Qcs (Ar (by omega)),_,c,rv2,oD⟩
     ·rw[Ao hb] at e;refine (I.hok b u e).stay (λx v hx e1=>kp2 x v ?_ e1) (λx e1=>tr _ _ _ e1) λx ys e1=>tr _ _ _ e1;intro z;rcases hx with hx | hx
      ·rw[<-hx,z,I.free] at e;cases e
      ·rw[z,I.free] at hx;cases hx
   exact⟨.ref D,_,I2,rq,q _ D (by rw[hlen];exact hp) O5 hDn⟩
 ·refine ZF pl.isList (by omega) λD h' c hD oD kp=>?_;refine⟨.ref D,_,I.laid (t':=s.toks) (o:=.lst vs) kp hD ?_,rq,?_⟩
  ·exact⟨Qcs (Ar (by omega)),its,c,rv,oD⟩
  ·have z:=q (List.range vs.length) D (List.Perm.refl _) (by
    rw[hkl,range_getD]
    match ks,(show ks.length < 2 by omega) with
    | [],_=>exact List.Pairwise.nil
    | [k],_=>exact Qaw _ _) (I.hok.fresh hD)
   rw[range_getD] at z;exact z
end L2
namespace L2
open PySem PySem.Spec PyProof.Rows
def cW (lo st:Int) (n:Nat):It:=⟨λi _=>i < n,λi H x H'=>H'=H/\x=.int (lo+(i:Int)*st),λi _=>n<=i⟩
theorem cY {P:Program} {w:World} {K:YD} {tg:Expr} (it:Addr) (lo c:Int) (n:Nat):Turn P w K tg (cW lo c n) [it] it (λi h=>IsRangeIter h it (lo+(i:Nat)*c) ((n:Int) - (i:Nat)) c) where
 mem:=by simp
 obj:=λi h st b hb=>by
  have e:b=it:=by simpa using hb
  subst e;exact⟨_,st,λv z=>by
   have z':Data.fields _=Data.cell v:=z;cases z'⟩
 keep:=λi h h' st k=>k it (by simp) _ st
 item:=by
  intro X hP hw hK hc i jb s U H E I hf st hg;subst hP hw hK;obtain⟨f0,f1,f2,f3,f4,f5⟩:=hf it (by simp);have W:=Walks.range (prog:=X.prog) (w:=X.w) (I.ok.hd hc) it lo c n;refine W.item i s _ _ hg st λv h' tk hv st' kk=>?_;obtain⟨t,rfl⟩:=hv;have I1:Inv X jb U H { s with heap:=h',toks:=tk }:=I.turned (λb o hb e=>kk b o (by simpa using hb) e) f0 f1 f3 f4 f5;exact⟨_,rq,T6 (s:={ s with heap:=h',toks:=tk }) (n:="range_iterator") st' rfl rfl (by decide) ⟨.int (lo+i*c),H,I1,⟨t,rq⟩,⟨rq,rq⟩,st',λb hb=>(hf b hb).1⟩⟩
 done:=by
  intro X hP hw hK hc i jb s U H E I hf st hg;subst hP hw hK;obtain⟨f0,f1,f2,f3,f4,f5⟩:=hf it (by simp);exact wpAny_pyNext_range_end (I.ok.hd hc) st (by have:n<=i:=hg;omega) λh' eb=>⟨rq,I.turned (t':=s.toks) (λb o hb e=>eb b o hb e) f0 f1 f3 f4 f5⟩
 self:=λ_ _ _ _ _ st h=>wpAny_pyIter_rangeiter st h
theorem Q9 (a b:Int):Builtin.Range.rangeSize a b (-1)=if b < a then a - b else 0:=by
 unfold Builtin.Range.rangeSize;rw[if_neg (by decide:¬(-1:Int) > 0),show (-(-1):Int)=1 from rfl,Int.ediv_one]
 by_cases h:b < a
 ·rw[if_pos h,if_pos (show a > b from h)];omega
 ·rw[if_neg h,if_neg (show ¬a > b from h)]
theorem mH {a b:Int} (ha:-1000<=a) (ha':a<=1000) (hb:-1000<=b) (hb':b<=1000):Builtin.Range.small a b (-1)=true:=by
 unfold Builtin.Range.small;rw[Q9];simp only[Builtin.Range.rangeFitsLong,QbE,Bool.or_eq_true,decide_eq_true_eq,beq_iff_eq,show ¬((-1:Int) > 0) by decide,if_false];split <;> omega
section
variable {X:Cx} {tg:Expr}
def CM (ta:TA):TI:=fun U H R=>ta U H λvs H1=>∃i j c:Int,vs=[.int i,.int j,.int c]/\(c=1\/c=-1)/\(-1000<=i/\i<=1000/\-1000<=j/\j<=1000)/\R (cW i c (if c=1 then (j - i).toNat else (i - j).toNat)) H1
theorem nA {a b d:Expr} {ta:TA} {p pos:Pos} (hg:Gl X "range") (hm:X.mg "range"=none) (ha:PA X [a,b,d] ta) (hs:starEach [a,b,d] X.env=[(false,eval a X.env),(false,eval b X.env),(false,eval d X.env)]:=by rfl) (hs2:starEach [b,d] X.env=[(false,eval b X.env),(false,eval d X.env)]:=by rfl) :
  PI X tg (.Call (.Name "range" p) [a,b,d] [] pos) (CM ta):=by
 intro jb s U H R I h;refine Call_ (Jf I hg hm boot_range (Qae (thn (ha pos jb s U H _ I h) λus s1 zz=>?_) (by rw[hs,hs2]) (by rw[hs2];rfl)));obtain⟨vs,H1,I1,r1,q1⟩:=zz;obtain⟨i,j,c,e,hc,⟨b1,b2,b3,b4⟩,q⟩:=q1;subst e;cases r1 with
 | cons r rr=>
  cases rr with
  | cons r' rr=>
   cases rr with
   | cons r'' rr=>
    cases rr;obtain⟨t,rfl⟩:=r;obtain⟨u,rfl⟩:=r';obtain⟨v,rfl⟩:=r'';have hsm:Builtin.Range.small i j c=true:=by
     rcases hc with rfl | rfl
     ·exact small_one (by omega) (by omega) (by omega) (by omega)
     ·exact mH (by omega) (by omega) (by omega) (by omega)
    have hsz:Builtin.Range.rangeSize i j c=((if c=1 then (j - i).toNat else (i - j).toNat:Nat):Int):=by
     rcases hc with rfl | rfl
     ·rw[rangeSize_one];split <;> simp <;> omega
     ·rw[Q9,if_neg (by decide:¬(-1:Int)=1)];split <;> omega
    refine call_range_3 (by rcases hc with rfl | rfl <;> decide) ?_ (Or.inl (PyProof.noPylong_small (by omega)));refine wpAny_pyIter_range (IsRange.new ..) hsm ?_;have I2:Inv X jb U H1 { s1 with heap:=s1.heap.push { cls:=.type "range",data:=.fields #[.int i t,.int j u,.int c v] },toks:=s1.toks }:=I1.kept λb o e=>Qax _ e;refine⟨(s1.heap.push { cls:=.type "range",data:=.fields #[.int i t,.int j u,.int c v] }).objs.size,[(s1.heap.push { cls:=.type "range",data:=.fields #[.int i t,.int j u,.int c v] }).objs.size],_,_,H1,rq,I2.kept (t':=s1.toks) λb o e=>Qax _ e,cY _ i c _,?_,λb hb=>?_,q⟩
    ·show IsRangeIter _ _ (i+((0:Nat):Int)*c) (((if c=1 then (j - i).toNat else (i - j).toNat:Nat):Int) - ((0:Nat):Int)) c
     rw[<-hsz];simp only[Int.natCast_zero,Int.zero_mul,Int.add_zero,Int.sub_zero];exact QaM _ rfl
    ·have e:b=(s1.heap.push { cls:=.type "range",data:=.fields #[.int i t,.int j u,.int c v] }).objs.size:=by simpa using hb
     subst e;exact I2.PX (Qcw _) (I2.hok.fresh (Qcw _))
end
open PySem.W (KasT kas_asc kas_desc kas_rev kas_tail3 kas_descPart kas_count kas_place kas_bin kas_sort)
section
variable {prog:Program} {w:World} {A:Around} {s:Shared}
end
theorem j7 {lo c:Int} {n:Nat} {g:TG} {tb:TS} {D:Ends} {U : St} {H:Hp} (Pv:YN) (h0:Pv 0 U H)
  (hs:∀i U H,i < n->Pv i U H->g (.int (lo+(i:Int)*c)) U H fun σ2 H2=>tb { D with nx:=Pv (i+1),ct:=Pv (i+1),bk:=D.nx } σ2 H2) (hd:∀ U H,Pv n U H->D.nx U H) :
  ∃W:Nat->YN,(∃m,W 0 m U H)/\∀i m U H,W i m U H ->
   ((cW lo c n).stop i H/\D.nx U H)\/((cW lo c n).go i H/\∃N:YO,(∀ σ' H',N σ' H'->∃m',m' < m/\W (i+1) m' σ' H')/\∀x H',(cW lo c n).yld i H x H'->g x U H' fun σ2 H2=>tb { D with nx:=N,ct:=N,bk:=D.nx } σ2 H2):=by
 refine⟨λi m U H=>m=n - i/\i<=n/\Pv i U H,⟨n,by simp,Qcx _,h0⟩,?_⟩;rintro i m U H ⟨rfl,hi,p⟩;by_cases hlt:i < n
 ·refine .inr ⟨hlt,Pv (i+1),fun σ' H' p'=>⟨n - (i+1),by omega,rq,hlt,p'⟩,λx H' y=>?_⟩;obtain⟨rfl,rfl⟩:=y;exact hs i U _ hlt p
 ·have e:i=n:=by omega
  subst e;exact .inl ⟨Qcw _,hd U H p⟩
end L2
namespace L2
open PySem PySem.Spec PyProof.Rows
def Uc (a:Addr) (o:Obj) (kvs:YL):It:=
 ⟨λi H=>i < kvs.length/\H a=some (.frz o (.dT kvs)),λi H x H'=>H'=H/\∃b kv,kvs[i]?=some kv/\H b=some (.tup (kv.1.map kV))/\x=.ref b,λi H=>i=kvs.length/\H a=some (.frz o (.dT kvs))⟩
theorem qK {P:Program} {w:World} {K:YD} {tg:Expr} (a it:Addr) (o:Obj) (kvs:YL) {es:YK} {ep:Nat} (ho:o.data=.dict es ep) (hes:es.size=kvs.length):Turn P w K tg (Uc a o kvs) [it] it (λi h=>h.IsKeyIter it a i kvs.length ep) where
 mem:=by simp
 obj:=λi h st b hb=>by
  have e:b=it:=by simpa using hb
  subst e;obtain⟨oi,q,c,d⟩:=st;exact⟨oi,q,λv z=>by rw[d] at z;cases z⟩
 keep:=λi h h' st k=>st.at λob q=>k it (by simp) ob q
 item:=by
  intro X hP hw hK hc i jb s U H E I hf st hg;subst hP hw hK;obtain⟨hi,hfz⟩:=hg;obtain⟨_,⟨hz,rel⟩,da⟩:=O9 I hfz ho;obtain⟨kv,hkv⟩ : ∃kv,kvs[i]?=some kv:=⟨kvs[i],by simp[hi]⟩;obtain⟨b,en,hen,hkey,hb,hval⟩:=rel i kv hkv;rw[<-hes] at st;refine Z9 st da hen λh' st' sb=>?_;have I1:Inv X jb U H { s with heap:=h' }:=I.M7 (t':=s.toks) (λb ob hb q=>(sb.2 b (λz=>hb (by simp[z]))).trans q) hf;obtain⟨oi,q,c,d⟩:=id st';rw[hes] at st';exact⟨en.key,rq,T6 (s:={ s with heap:=h' }) q c d (by decide) ⟨.ref b,H,I1,by rw[hkey];exact rfl,⟨rq,b,kv,hkv,hb,rq⟩,st',λb hb=>(hf b hb).1⟩⟩
 done:=by
  intro X hP hw hK hc i jb s U H E I hf st hg;subst hP hw hK;obtain⟨hi,hfz⟩:=hg;obtain⟨_,⟨hz,rel⟩,da⟩:=O9 I hfz ho;rw[<-hes] at st;exact gB (I.ok.hd hc) st da (by simp;omega) λh' ext=>⟨rq,I.M7 (t':=s.toks) (λb ob hb q=>ext b ob (λz=>hb (by simp[z])) q) hf⟩
 self:=λA i s Q E st q=>wpAny_pyIter_keyiter st q
def AQ (td:TE):TI:=fun U H R=>td U H λx H1=>∃a kvs,x=.ref a/\H1 a=some (.dT kvs)/\∀o,R (Uc a o kvs) (upd H1 a (.frz o (.dT kvs)))
theorem aH {X:Cx} {tg d:Expr} {td:TE} (hd:PE X d td):PI X tg d (AQ td):=by
 intro jb s U H R I h;refine thn (hd jb s U H _ I h) λv s1 zz=>?_;obtain⟨x,H1,I1,r1,a,kvs,ex,e,q⟩:=zz;subst ex;cases r1;obtain⟨t1,t2,hsm⟩:=RV I1 (.inr ⟨kvs,.inl e⟩);obtain⟨o,ho,I2⟩:=I1.gY e;obtain⟨_,_,xs,h3,ob,es,ep,h4,h5,h6,h7,_⟩:=(show BK X.prog X.w H1 s1.heap a (.dT kvs) from I1.hok a _ e)
 rw[ho] at h4;cases h4;have hes:=(V2 h3 h7).1;have da:Mx s1.heap a es ep:=⟨o,ho,h5,h6⟩;refine aj hsm da ?_;refine⟨s1.heap.objs.size,[s1.heap.objs.size],_,_,_,rq,I2.kept (t':=s1.toks) λb u q=>Qax _ q,qK a _ o kvs h6 hes,?_,λb hb=>?_,q o⟩
 ·rw[<-hes];exact⟨_,QaM _ rfl,rq,rq⟩
 ·have z:b=s1.heap.objs.size:=by simpa using hb
  subst z;exact I2.PX (Qcw _) (I2.hok.fresh (Qcw _))
section
variable {a l:Addr} {o:Obj} {kvs:YL} {g:TG} {tt:TT} {tk tv:TE} {tb:TS} {Q:VK} {D:Ends} {U : St} {H:Hp}
theorem NM (Pv:YN) (h0:Pv 0 U H) (hl:∀i U H',i<=kvs.length->Pv i U H'->H' a=some (.frz o (.dT kvs)))
  (hs:∀i kv b U H',kvs[i]?=some kv->Pv i U H'->H' b=some (.tup (kv.1.map kV))->g (.ref b) U H' fun σ2 H2=>tb { D with nx:=Pv (i+1),ct:=Pv (i+1),bk:=D.nx } σ2 H2) (hd:∀ U H',Pv kvs.length U H'->D.nx U H') :
  ∃W:Nat->YN,(∃m,W 0 m U H)/\∀i m U H,W i m U H ->
   ((Uc a o kvs).stop i H/\D.nx U H)\/((Uc a o kvs).go i H/\∃N:YO,(∀ σ' H',N σ' H'->∃m',m' < m/\W (i+1) m' σ' H')/\∀x H',(Uc a o kvs).yld i H x H'->g x U H' fun σ2 H2=>tb { D with nx:=N,ct:=N,bk:=D.nx } σ2 H2):=by
 refine⟨λi m U H=>m=kvs.length - i/\i<=kvs.length/\Pv i U H,⟨kvs.length,by simp,Qcx _,h0⟩,?_⟩;rintro i m U H ⟨rfl,hi,p⟩;have q:=hl i U H hi p;by_cases hlt:i < kvs.length
 ·refine .inr ⟨⟨hlt,q⟩,Pv (i+1),fun σ' H' p'=>⟨kvs.length - (i+1),by omega,rq,hlt,p'⟩,λx H' y=>?_⟩;obtain⟨rfl,b,kv,hkv,hb,rfl⟩:=y;exact hs i kv b U _ hkv p hb
 ·have e:i=kvs.length:=by omega
  subst e;exact .inl ⟨⟨rq,q⟩,hd U H p⟩
theorem Ye {σ0:St} {H0:Hp} (Pv:YN) (h0:Pv 0 σ0 H0) (hl:∀i U H',i<=kvs.length->Pv i U H'->H' a=some (.frz o (.dT kvs)))
  (hs:∀i kv b U H',kvs[i]?=some kv->Pv i U H'->H' b=some (.tup (kv.1.map kV))->g (.ref b) U H' fun σ3 H3=>tt σ3 H3 λc H4=>if c=true then tk σ3 H4 λy H5=>tv σ3 H5 λz H6=>∃(ks:YL) (k:List Key) (b:Addr),H6 l=some (.dT ks)/\y=.ref b/\H6 b=some (.tup (k.map kV))/\ks.length < sizeLine/\Pv (i+1) σ3 (upd H6 l (.dT (putK ks k z))) else Pv (i+1) σ3 H4)
  (hd:∀ U H',Pv kvs.length U H'->Q (.ref l) H'):Qq (Uc a o kvs) g tt tk tv Q σ0 H0 l:=by
 unfold Qq;refine⟨λi m U H'=>m=kvs.length - i/\i<=kvs.length/\Pv i U H',⟨kvs.length,by simp,Qcx _,h0⟩,?_⟩;rintro i m U H' ⟨rfl,hi,p⟩;have q:=hl i U H' hi p;by_cases hlt:i < kvs.length
 ·refine .inr ⟨⟨hlt,q⟩,Pv (i+1),fun σ3 H3 p'=>⟨kvs.length - (i+1),by omega,rq,hlt,p'⟩,λx H2 y=>?_⟩;obtain⟨rfl,b,kv,hkv,hb,rfl⟩:=y;exact hs i kv b U _ hkv p hb
 ·have e:i=kvs.length:=by omega
  subst e;exact .inl ⟨⟨rq,q⟩,hd U H' p⟩
end
end L2
namespace K11
open PySem L2
def top (i:Nat):Stmt:=PySem.Challenge.pw_warnloop_k11_whole_heard_by_ways.main.body.getD i (.Pass ⟨0,0,0,0⟩)
theorem Hj:bootBuiltins "isinstance"=some (.builtin "isinstance"):=by trivial
theorem SX:bootBuiltins "int"=some (.type "int"):=by trivial
theorem yC:bootBuiltins "bool"=some (.type "bool"):=by trivial
theorem K1:bootBuiltins "tuple"=some (.type "tuple"):=by trivial
theorem iI:bootBuiltins "list"=some (.type "list"):=by trivial
theorem BE:bootBuiltins "str"=some (.type "str"):=by trivial
theorem Cu:bootBuiltins "len"=some (.builtin "len"):=by trivial
theorem Mp:bootBuiltins "all"=some (.builtin "all"):=by trivial
theorem qe:bootBuiltins "abs"=some (.builtin "abs"):=by trivial
theorem cN:bootBuiltins "max"=some (.builtin "max"):=by trivial
theorem BF:bootBuiltins "any"=some (.builtin "any"):=by trivial
theorem SN:bootBuiltins "sorted"=some (.builtin "sorted"):=by trivial
theorem SQ:bootBuiltins "min"=some (.builtin "min"):=by trivial
theorem iJ:bootBuiltins "dict"=some (.type "dict"):=by trivial
structure Nm (mg:YB):Prop where
 isinstance:mg "isinstance"=none
 int:mg "int"=none
 bool:mg "bool"=none
 tuple:mg "tuple"=none
 list:mg "list"=none
 str:mg "str"=none
 len:mg "len"=none
 all:mg "all"=none
 abs:mg "abs"=none
 max:mg "max"=none
 min:mg "min"=none
 range:mg "range"=none
 sorted:mg "sorted"=none
 any:mg "any"=none
 sum:mg "sum"=none
 enumerate:mg "enumerate"=none
 zip:mg "zip"=none
 reversed:mg "reversed"=none
 dict:mg "dict"=none
 ord:mg "ord"=none
abbrev WK:Stmt:=top 47
abbrev Ql:YF:=["_law_script","_law_k"]
theorem UW:Ba ["_law_script","_law_k","_law_cell"] Ql (Ak WK):=by ac_rfl
abbrev U3:Stmt:=top 48
abbrev GX:YF:=["_law_bag_here","_law_many"]
theorem JB:Ba ["_law_bag_here","_law_many","_law_digit","_law_primes","_law_step","_law_base","_law_found"] GX (Ak U3):=by ac_rfl
theorem AL (v:V):isW v=(isI v&&!isB v):=by cases v <;> rfl
def BP (H:Hp) (b:Addr) (n:Nat):Prop:=∃x y z:Int,H b=some (.lst [.int x,.int y,.int z])/\0<=x/\0<=y/\y<=4294967296/\0<=z/\z<=n
theorem BP.same {H H':Hp} {b:Addr} {n:Nat} (h:BP H b n) (s:Same H H'):BP H' b n:=by
 obtain⟨x,y,z,e,r⟩:=h;exact⟨x,y,z,s _ _ e,r⟩
theorem BP.mono {H:Hp} {b:Addr} {n m:Nat} (h:BP H b n) (l:n<=m):BP H b m:=by
 obtain⟨x,y,z,e,h1,h2,h3,h4,h5⟩:=h;exact⟨x,y,z,e,h1,h2,h3,h4,by omega⟩
theorem BP.nb {H:Hp} {b p:Addr} {n:Nat} (h:BP H b n) (hp:H p=none):b≠p:=by obtain⟨_,_,_,e,_⟩:=h;exact Aw e hp
theorem BP.Gj {H:Hp} {b:Addr} {n:Nat} (h:BP H b n):∀xs,H b≠some (.tup xs):=λxs z=>by obtain⟨_,_,_,e,_⟩:=h;rw[e] at z;cases z
theorem BP.ex {H:Hp} {b:Addr} {n:Nat} (h:BP H b n):∃o,H b=some o:=by obtain⟨_,_,_,e,_⟩:=h;exact⟨_,e⟩
theorem BP.Ep {H H':Hp} {a b:Addr} {n:Nat} (h:BP H b n) (s:Ai a H H') (ne:b≠a):BP H' b n:=by
 obtain⟨x,y,z,e,r⟩:=h;exact⟨x,y,z,s _ _ e ne,r⟩
theorem Av {n:Nat} (h:n<=1000):n<=sizeLine:=Qcs (Ar h)
def vK (K:YD):Sp:=λvs H Q _=>∃(a:Addr) (ns:List Int) (k:Int),vs=[.ref a,.int k]/\SqL K H a (ns.map V.int)/\ns.length<=63/\0<=k/\k<=100/\∀p o,H p=none->BP (upd H p o) p 0->Q (.ref p) (upd H p o)
def Qe:Sp:=λvs H Q _=>∃(b:Addr) (n:Nat) (m:Int),vs=[.ref b,.int m]/\BP H b n/\n<=10000/\0 < m/\m < 1073741824/\∀r H',0<=r->r < m->BP H' b (n+1)->Ai b H H'->Q (.int r) H'
def Y7 (K:YD):Sp:=λvs H Q _=>∃(a:Addr) (ns:List Int),vs=[.ref a]/\SqL K H a (ns.map V.int)/\ns.length<=63/\∀H',Q (.bl true) H'
theorem at7 {i:Int} (h0:0<=i) (h7:i < 7) {a b c d e f g:Int} (P:Int->Prop) (ha:P a) (hb:P b) (hc:P c) (hd:P d) (he:P e) (hf:P f) (hg:P g):∃p,atI [V.int a,.int b,.int c,.int d,.int e,.int f,.int g] i=some (.int p)/\P p:=by
 have:i=0\/i=1\/i=2\/i=3\/i=4\/i=5\/i=6:=by omega
 rcases this with rfl | rfl | rfl | rfl | rfl | rfl | rfl
 ·exact⟨_,rq,ha⟩
 ·exact⟨_,rq,hb⟩
 ·exact⟨_,rq,hc⟩
 ·exact⟨_,rq,hd⟩
 ·exact⟨_,rq,he⟩
 ·exact⟨_,rq,hf⟩
 ·exact⟨_,rq,hg⟩
theorem BD {x:Int} {b:Bool}:lG x (if b=true then 1 else 0):=.inr (by cases b <;> exact⟨by decide,by decide⟩)
section
variable {P:Program} {w:World} {K:YD} {mg:YB} {base:Heap}
theorem sI (C:Code K mg "_law_bag" WK Ql) (T:Nm mg):Good P w K mg base "_law_bag" 1 Ql (vK K):=by
 refine C.good UW (λvs H Q E h=>?_) (λf cdv A outer s H vs Q E hr h=>?_)
 ·obtain⟨a,ns,k,rfl,_⟩:=h;rfl
 obtain⟨a,ns,k,rfl,hS,h63,h0,h1,q⟩:=h;refine⟨_,(Ae (Bb (i:=2) UW.nd rfl (Or.inl rfl) (Bj Cg (Bj Cg (Bj Ia (Bj Ia Af (pv 1)) (pv 1)) (Bj Ia Af (pv 1))) Af))
 (Ae (BX (Bs VH (pv 1) (Az Bh rfl T.len Cu (Aa (pv 0) Ac)) (Bq _)) (Ah (Bb (i:=2) UW.nd rfl (Or.inl rfl) (Bm Df (pv 0) (pv 1) (λ_ _=>rfl)))) Bv)
 (Ah (Bc (Ce (Aa (Bj Ia (Az cM rfl T.abs qe (Aa (pv 2) Ac)) (Eb Pb rfl T.int SX (Aa (Es CA (Az cM rfl T.abs qe (Aa (pv 2) Ac)) (Bj nG Af Af) (Bq _)) Ac))) (Aa (Bj Cg (Bj Mg (pv 2) Af) (Bj Ia Af (pv 1))) (Aa Af Ac)))))))),?_⟩
 show let R0:TS:=_;let R1:TS:=_;let R2:TS:=Al (FQ _ R1 _) R0;Al _ R2 _ _ _;intro R0 R1 R2;refine⟨_,rq,_,_,rq,rq,.inl ⟨by decide,by decide⟩,_,rq,_,_,rq,rq,.inr ⟨by omega,by omega⟩,_,rq,_,_,rq,rq,.inl ⟨by decide,by decide⟩,_,_,rq,rq,_,_,rq,rq,?_⟩;refine⟨_,rq,_,rq,a,_,rq,.inl hS,_,_,rq,rq,_,rq,?_⟩;have hl:(ns.map V.int).length=ns.length:=QbH _;have fin:∀(c:Int) (p:Addr),H p=none->Q (.ref p) (upd H p (.lst [.int ((if c < 0 then -c else c)*(if decide ((10:Int) ^ (18:Int).toNat<=(if c < 0 then -c else c))=true then 1 else 0)),.int (c % 2147483647+37*k),.int 0])):=λc p hp=>by
  refine q p _ hp ⟨_,_,_,Ab,?_,?_,?_,by omega,by omega⟩
  ·refine Int.mul_nonneg ?_ ?_
   ·split <;> omega
   ·split <;> omega
  ·have:=QbV c (show (2147483647:Int)≠0 by decide);omega
  ·have:=Qbh c (show (0:Int) < 2147483647 by decide);omega
 refine Ig (λc1=>?_) (λc1=>?_)
 ·have c':k < (((ns.map V.int).length:Nat):Int):=Qbp c1;rw[hl] at c';have hk:k.toNat < ns.length:=by omega
  have hat:atI (ns.map V.int) ((k.toNat:Nat):Int)=some (.int ns[k.toNat]):=DY (by rw[Qbn];simp[hk]);rw[QaT h0] at hat;refine⟨_,rq,_,rq,a,_,_,_,rq,rq,hS,hat,?_⟩;exact⟨_,rq,_,rq,_,rq,_,rq,_,_,rq,rq,⟨by decide,by decide,by decide⟩,_,_,rq,rq,.inr ⟨_,rq,_,_,rq,rq,BD,_,rq,_,_,rq,rq,(by show (0:Int) < 2147483647;decide),_,rq,_,_,rq,rq,.inl ⟨by decide,by decide⟩,_,_,rq,rq,
   (by show 3<=sizeLine;decide),λl hl'=>fin _ l hl'⟩⟩
 ·exact⟨_,rq,_,rq,_,rq,_,rq,_,_,rq,rq,⟨by decide,by decide,by decide⟩,_,_,rq,rq,.inr ⟨_,rq,_,_,rq,rq,BD,_,rq,_,_,rq,rq,(by show (0:Int) < 2147483647;decide),_,rq,_,_,rq,rq,.inl ⟨by decide,by decide⟩,_,_,rq,rq,
   (by show 3<=sizeLine;decide),λl hl'=>fin _ l hl'⟩⟩
theorem nT (C:Code K mg "_law_take" U3 GX) (T:Nm mg):Good P w K mg base "_law_take" 1 GX Qe:=by
 refine C.good JB (λvs H Q E h=>?_) (λf cdv A outer s H vs Q E hr h=>?_)
 ·obtain⟨b,n,m,rfl,_⟩:=h;rfl
 obtain⟨b,n,m,rfl,⟨x,y,z,hb,x0,y0,y1,z0,z1⟩,hn,m0,m1,q⟩:=h;refine⟨_,(Ae (BX (Bs QG (Bm Df (pv 0) Af (λ_ _=>rfl)) Af (Bq _)) (Ae (Bb (i:=2) JB.nd rfl (Or.inl rfl) (Bj Mg (Bm Df (pv 0) Af (λ_ _=>rfl)) (pv 1)))
 (Ae (G5 (Bj W8 (Bm Df (pv 0) Af (λ_ _=>rfl)) (pv 1)) (aJ (pv 0) Af set_list))
 (Ah (Bc (pv 2))))) Bv)
 (Ae (Bb (i:=3) JB.nd rfl (Or.inl rfl) (@Bg _ _ _ _ _ (@Aa _ _ _ _ _ (@Af _ _ _ _) (@Aa _ _ _ _ _ (@Af _ _ _ _) (@Aa _ _ _ _ _ (@Af _ _ _ _) (@Aa _ _ _ _ _ (@Af _ _ _ _) (@Aa _ _ _ _ _ (@Af _ _ _ _) (@Aa _ _ _ _ _ (@Af _ _ _ _) (@Aa _ _ _ _ _ (@Af _ _ _ _) (@Ac _) BR) BR) BR) BR) BR) BR) BR)))
 (Ae (G5 (Bj Cg (Bm Df (pv 0) Af (λ_ _=>rfl)) Af) (aJ (pv 0) Af set_list))
 (Ae (Bb (i:=4) JB.nd rfl (Or.inl rfl) (Bm Df (pv 0) Af (λ_ _=>rfl)))
 (Ae (Bb (i:=5) JB.nd rfl (Or.inl rfl) (Bj Cg (Bj Cg (Bj Ia (Bm Df (pv 0) Af (λ_ _=>rfl)) (Bj Cg (Bj Ia Af (pv 4)) Af)) (Bj Ia (Bj Ia Af (pv 4)) (pv 4))) Af))
 (Ae (Bb (i:=6) JB.nd rfl (Or.inl rfl) (Bj Mg (Bj nG (pv 5) Af) (Bm BW (pv 3) (Bj Mg (pv 4) Af) (λ_ _=>rfl))))
 (Ah (Bc (Bj Mg (Bj W8 (Bj Mg (Bj Ia (pv 6) (Bj Cg (Bj W8 (pv 6) Af) Af)) (Bm BW (pv 3) (Bj Mg (Bj Cg (pv 4) Af) Af) (λ_ _=>rfl))) Af) (pv 1)))))))))),?_⟩
 show let R0:TS:=_;let R1:TS:=Al _ R0;let R2:TS:=Al _ R1;let R3:TS:=Al _ R2;let R4:TS:=Al _ R3;let R5:TS:=Al _ R4;let R6:TS:=Al _ _;let R7:TS:=Al _ R6;Al (FQ _ R7 _) R5 _ _ _;intro R0 R1 R2 R3 R4 R5 R6 R7;refine⟨_,rq,b,_,_,_,rq,rq,SqL.of hb,rq,_,_,rq,rq,_,rq,?_⟩;refine Ig (λc1=>?_) (λc1=>?_)
 ·have c':0 < x:=Qbp c1;refine⟨_,rq,b,_,_,_,rq,rq,SqL.of hb,rq,_,rq,_,_,rq,rq,m0,?_⟩;refine⟨_,rq,b,_,_,_,rq,rq,SqL.of hb,rq,_,rq,_,_,rq,rq,⟨m0,m1⟩,_,rq,b,_,_,_,rq,rq,hb,rq,?_⟩;exact⟨_,rq,q _ _ (QbV x (by omega)) (Qbh x m0) ⟨x / m,y,z,Ab,Int.ediv_nonneg x0 (by omega),y0,y1,z0,by omega⟩ Ai.upd⟩
 ·refine⟨(by show 7<=sizeLine;decide),λtp htp=>?_⟩;have nbt:b≠tp:=Aw hb htp;have hb1:∀o,(upd H tp o) b=some (.lst [.int x,.int y,.int z]):=λo=>by rw[Ao nbt];exact hb
  have ht1:∀o u,(upd (upd H tp o) b u) tp=some o:=λo u=>by rw[Ao nbt.symm,Ab]
  refine⟨_,rq,b,_,_,_,rq,rq,SqL.of (hb1 _),rq,_,_,rq,rq,_,rq,b,_,_,_,rq,rq,hb1 _,rq,?_⟩;refine⟨_,rq,b,_,_,_,rq,rq,SqL.of Ab,rq,?_⟩;have s0:0<=z+1:=by omega
  have s1:z+1<=10001:=by omega
  refine⟨_,rq,b,_,_,_,rq,rq,SqL.of Ab,rq,_,rq,_,_,rq,rq,.inl ⟨by decide,by decide⟩,_,_,rq,rq,_,_,rq,rq,.inl ⟨by omega,by omega⟩,_,rq,_,_,rq,rq,.inl ⟨by decide,by decide⟩,_,rq,_,_,rq,rq,.inr ⟨by omega,by omega⟩,
   _,_,rq,rq,_,_,rq,rq,?_⟩
  have hbase:(y*(2*(z+1)+1)+6007*(z+1)*(z+1)+29).natAbs < 2 ^ 64:=by
   have h1:0<=y*(2*(z+1)+1):=Int.mul_nonneg y0 (by omega);have h2:y*(2*(z+1)+1)<=4294967296*20003:=Int.mul_le_mul y1 (by omega) (by omega) (by omega);have h3:0<=6007*(z+1)*(z+1):=Int.mul_nonneg (by omega) s0;have h4:6007*(z+1)*(z+1)<=(6007*10001)*10001:=Int.mul_le_mul (by omega) s1 s0 (by omega);omega
  obtain⟨p1,e1,p10,p11⟩:=at7 (i:=(z+1) % 7) (QbV _ (by decide)) (Qbh _ (by decide)) (a:=2147483629) (b:=2147483587) (c:=2147483579) (d:=2147483563) (e:=2147483549) (f:=2147483543) (g:=2147483497)
   (λp=>0 < p/\p < 2147483648) (by decide) (by decide) (by decide) (by decide) (by decide) (by decide) (by decide)
  obtain⟨p2,e2,p20,p21⟩:=at7 (i:=(z+1+3) % 7) (QbV _ (by decide)) (Qbh _ (by decide)) (a:=2147483629) (b:=2147483587) (c:=2147483579) (d:=2147483563) (e:=2147483549) (f:=2147483543) (g:=2147483497)
   (λp=>0 < p/\p < 2147483648) (by decide) (by decide) (by decide) (by decide) (by decide) (by decide) (by decide)
  refine⟨_,rq,_,_,rq,rq,⟨by decide,by decide,hbase⟩,_,rq,_,rq,_,_,rq,rq,(by show (0:Int) < 7;decide),tp,_,_,_,rq,rq,SqT.of (ht1 _ _),e1,_,_,rq,rq,p10,?_⟩;generalize hF:(y*(2*(z+1)+1)+6007*(z+1)*(z+1)+29) ^ (3:Int).toNat % p1=F;have F0:0<=F:=by rw[<-hF];exact QbV _ (by omega)
  have F1:F < p1:=by rw[<-hF];exact Qbh _ p10
  refine⟨_,rq,_,rq,_,_,rq,rq,⟨by decide,by decide⟩,_,_,rq,rq,_,_,rq,rq,.inl ⟨by omega,by omega⟩,_,rq,_,rq,_,_,rq,rq,_,_,rq,rq,(by show (0:Int) < 7;decide),tp,_,_,_,rq,rq,SqT.of (ht1 _ _),e2,_,_,rq,rq,p20,
   _,_,rq,rq,⟨by decide,by decide⟩,_,rq,_,_,rq,rq,m0,?_⟩
  refine q _ _ (QbV _ (by omega)) (Qbh _ m0) ⟨x,y,z+1,Ab,x0,y0,y1,s0,by omega⟩ λc o e nc=>?_;rw[Ao nc,Ao (Aw e htp)];exact e
end
abbrev Qx:Stmt:=top 49
abbrev N8:YF:=["_law_bag_here"]
abbrev xB:YF:=["_law_bag_here","_law_letters"]
theorem XQ:Ba xB N8 (Ak Qx):=by ac_rfl
abbrev Ou:Stmt:=top 50
abbrev Lz:YF:=["_law_bag_here","_law_many"]
abbrev xC:YF:=["_law_bag_here","_law_many","_law_found","_law_place","_law_name_here"]
theorem JT:Ba xC Lz (Ak Ou):=by ac_rfl
theorem xX {K:YD} {H:Hp} {z:Str} {Q:VK} (q:Q (.bl true) H):Mu K [.str z,.ty "str"] H Q:=by
 unfold Mu;exact⟨_,_,_,_,rq,.str z,by rfl,q⟩
def abc:Str:="abcdefghijklmnopqrstuvwxyz"
def okS (z:Str):Prop:=∀c∈z.cps.toList,c∈abc.cps.toList
theorem okS.append {x y:Str} (h:okS x) (h':okS y):okS (x++y):=by
 intro c hc;have:c∈x.cps.toList++y.cps.toList:=by
  have e:(x++y).cps=x.cps++y.cps:=rfl;rw[e,Array.toList_append] at hc;exact hc
 rcases QbJ.mp this with z | z
 ·exact h c z
 ·exact h' c z
theorem okS.slice {x:Str} (h:okS x) (l u:Option Int):okS (Txt.slice x l u):=by
 unfold Txt.slice;split
 ·exact h
 ·intro c hc;have hc':c∈(Builtin.Str.strSliceIndices l u 1 x.length).filterMap (x.cps[·]?):=by simpa using hc
  obtain⟨i,_,e⟩:=List.mem_filterMap.mp hc';exact h c (Array.mem_toList_iff.mpr (Array.mem_of_getElem? e))
theorem okS.join {sep:Str} (hs:okS sep):∀{ts:YF},(∀t∈ts,okS t)->okS (Str.join sep ts)
 | [],_=>λc hc=>by cases hc
 | [x],h=>h x (QaV ..)
 | x::y::r,h=>((h x (QaV ..)).append hs).append (okS.join hs (ts:=y::r) λt ht=>h t (QaJ _ ht))
theorem Ub:abc.cps.toList.length=26:=by trivial
theorem BM:abc.cps.toList.Nodup:=by trivial
theorem qg:okS abc:=λc hc=>hc
theorem bQ:∀ts:YF,(Str.join "" ts).length=(ts.map (·.length)).sum
 | []=>rfl
 | [x]=>by show x.length=_;simp
 | x::y::r=>by
  show ((x++"")++Str.join "" (y::r)).length=_;rw[Str.length_append,Str.length_append,bQ (y::r),Qcf (a:=x),List.sum_cons];have:(Str.ofString "").length=0:=by trivial
  rw[this];omega
theorem GY (n:Nat):(Builtin.Str.strSliceIndices (some 1) none 1 n).length<=n - 1:=by
 unfold Builtin.Str.strSliceIndices sliceRange;simp only[show (1:Int) > 0 by decide,if_true,QbH,Qbu,show ¬((1:Int) < 0) by decide,if_false];split
 ·rw[Int.ediv_one];omega
 ·exact Qcx _
theorem mJ (z:Str):(Txt.slice z (some 1) none).length<=z.length - 1:=by
 have h:=GY z.length;unfold Txt.slice;split
 ·rename_i hc;rw[QbE] at hc;have:=eq_of_beq hc.2;omega
 ·show (List.filterMap _ _).toArray.size<=_;rw[Qbl];exact Qcr (List.length_filterMap_le _ _) h
theorem BN {r:Int} (h0:0<=r) (h1:r < 26):∃c,atI abc.cps.toList r=some c/\okS ⟨#[c]⟩:=by
 have hl:r.toNat < abc.cps.toList.length:=by rw[Ub];omega
 refine⟨abc.cps.toList[r.toNat],?_,λc hc=>?_⟩
 ·have:=DY (xs:=abc.cps.toList) (j:=r.toNat) (Qam hl);rw[QaT h0] at this;exact this
 ·have:c=abc.cps.toList[r.toNat]:=by simpa using hc
  rw[this];exact qg _ (List.getElem_mem hl)
theorem Zi:∀{ys:YF},(∀y∈ys,y.length=1)->(ys.map (·.length)).sum=ys.length
 | [],_=>rfl
 | y::r,h=>by
  rw[Qcf,List.sum_cons,h y (QaV ..),Zi (ys:=r) λt ht=>h t (QaJ _ ht),Qby];omega
theorem Yb (ys:YF):(ys.map V.str).all Lf=true:=by
 rw[List.all_map,List.all_eq_true];intro _ _;rfl
theorem QM (z:Str):∀ys:YF,inV (.str z) (ys.map V.str)=true ↔ z∈ys
 | []=>by constructor <;> intro h <;> cases h
 | y::r=>by
  have ih:=QM z r;unfold inV at ih ⊢;rw[Qcf,Qci,Bool.or_eq_true,ih,Qce];have:eqV (.str y) (.str z)=true ↔ z=y:=by
   show (y == z)=true ↔ z=y;rw[beq_iff_eq];exact⟨λh=>h.symm,λh=>h.symm⟩
  rw[this]
theorem X5:∀{l m:YF},l.Nodup->(∀x∈l,x∈m)->l.length<=m.length
 | [],_,_,_=>Qcx _
 | a::r,m,nd,h=>by
  have ha:=h a (QaV ..);obtain⟨n1,n2⟩:=QbP.mp nd;have:=X5 (l:=r) (m:=m.erase a) n2 λx hx=>(List.mem_erase_of_ne (λe=>n1 (by rw[<-e];exact hx))).mpr (h x (QaJ _ hx));rw[List.length_erase_of_mem ha] at this;have hp:=QaD ha;rw[Qby];omega
theorem dR (rest:Str) {ys:YF} (h:ys.length < 26):∃(i c:Nat),abc.cps[i]?=some c/\((⟨#[c]⟩ : Str)++rest)∉ys:=by
 refine Qai λhn=>?_;have hall:∀x∈abc.cps.toList.map (λc=>(⟨#[c]⟩ : Str)++rest),x∈ys:=λx hx=>by
  obtain⟨c,hc,rfl⟩:=Qcn.mp hx;obtain⟨i,hi⟩:=QaL hc;refine Qai λhm=>hn ⟨i,c,by simpa using hi,hm⟩
 have nd:(abc.cps.toList.map (λc=>(⟨#[c]⟩ : Str)++rest)).Nodup:=by
  refine Qbv.mpr (BM.imp λ{c d} hne e=>hne ?_);have e1:(#[c]++rest.cps:Array Nat)=#[d]++rest.cps:=congrArg Str.cps e;have e2:=congrArg Array.toList e1;rw[Array.toList_append,Array.toList_append] at e2;injection e2
 have:=X5 nd hall;rw[QbH,Ub] at this;omega
theorem QcE {α : Type} {l:List α} {i:Nat} {x:α} (h:l[i]?=some x):l.take (i+1)=l.take i++[x]:=by rw[List.take_add_one,h];rfl
theorem kE {X:Cx} {K:YD} (h:X.K=K) (hc:X.calm=true):DQ X (.builtin "max") (λxs H Q=>∃(p:Addr) (ns:List Int),xs=[.ref p]/\SqL K H p (ns.map V.int)/\0 < ns.length/\∀M,M∈ns->(∀a,a∈ns->a<=M)->Q (.int M) H):=h ▸ Yi hc
theorem Ai.Qu {a b:Addr} {H HH H':Hp} (s:Ai b H HH) (t:Ai a HH H') (f:H a=none):Ai b H H':=λc o e n=>t _ _ (s _ _ e n) λz=>by rw[z,f] at e;cases e
theorem Mm {i:Int} (h0:0<=i) (h6:i < 6) {a b c d e f:Int} (P:Int->Prop) (ha:P a) (hb:P b) (hc:P c) (hd:P d) (he:P e) (hf:P f):∃p,atI [V.int a,.int b,.int c,.int d,.int e,.int f] i=some (.int p)/\P p:=by
 have:i=0\/i=1\/i=2\/i=3\/i=4\/i=5:=by omega
 rcases this with rfl | rfl | rfl | rfl | rfl | rfl
 ·exact⟨_,rq,ha⟩
 ·exact⟨_,rq,hb⟩
 ·exact⟨_,rq,hc⟩
 ·exact⟨_,rq,hd⟩
 ·exact⟨_,rq,he⟩
 ·exact⟨_,rq,hf⟩
def mF:Sp:=λvs H Q _=>∃(b:Addr) (n:Nat),vs=[.ref b]/\BP H b n/\n<=9000/\∀z H',1<=z.length->z.length<=8->okS z->BP H' b (n+9)->Ai b H H'->Q (.str z) H'
def fW:Sp:=λvs H Q _=>∃(b:Addr) (n many:Nat),vs=[.ref b,.int many]/\BP H b n/\n<=8000/\many<=20 /\
 ∀l (ys:YF) H',H l=none->ys.length=many->(∀y∈ys,(1<=y.length/\y.length<=8)/\okS y)->ys.Nodup->H' l=some (.lst (ys.map V.str))->BP H' b (n+9*many)->Ai b H H'->Q (.ref l) H'
section
variable {P:Program} {w:World} {K:YD} {mg:YB} {base:Heap}
abbrev jp(a:PySem.Addr):Option L2.V:=some (.ref a)
abbrev xD:YF:=["_law_place","_law_letters","_law_bag_here"]
theorem xH (C:Code K mg "_law_name" Qx N8) (T:Nm mg) (Br:Good P w K mg base "_law_take" 1 GX Qe):Good P w K mg base "_law_name" 2 N8 mF:=by
 refine C.good XQ (λvs H Q E h=>?_) (λf cdv A outer s H vs Q E hr h=>?_)
 ·obtain⟨b,n,rfl,_⟩:=h;rfl
 obtain⟨b,n,rfl,hb,hn,q⟩:=h;refine⟨_,(Ae (Bb (i:=1) XQ.nd rfl (Or.inr rfl) Bp)
 (Ah (Bc (Cw PySem.F.plainAttrs_str PySem.F.slot_str_join PySem.F.type_str_join xU Bp (Aa (Cq (N':=xD) rfl (Bo.of (src:=[none,some 1,some 0]) (Ak Qx) xB rfl rfl rfl (by trivial) (by trivial) (by trivial) rfl (by trivial)) (CT rfl T.range (Aa (Bj Cg Af (Ay Br hr (Aa (pv 0) (Aa Af Ac)))) Ac)) (λ_ _ _ _=>(Aj (i:=0) (show List.Nodup (xD:YF) by trivial) rfl (Or.inl rfl))) (λ_ _ _ _=>Di) (λ_ _ _ _=>(Bm AJ (pv 1) (Ay Br hr (Aa (pv 2) (Aa Af Ac))) (λ_ _=>rfl)))) Ac))))),?_⟩
 show let R0:TS:=_;Al _ R0 _ _ _;intro R0;refine⟨rq,_,rq,b,n,8,rq,hb,by omega,by decide,by decide,λr H1 r0 r1 hb1 sb1=>⟨_,_,rq,rq,_,rq,by omega,by omega,λl hl=>?_⟩⟩;have nbl:b≠l:=hb1.nb hl;have fl:H l=none:=sb1.free hb1.ex hl;let J0:YN:=λi U HH=>∃(u:Option V) (ys:YF),U=[u,some (.str abc),jp b]/\HH l=some (.lst (ys.map V.str))/\ys.length=i/\(∀y∈ys,y.length=1/\okS y)/\BP HH b (n+1+i)/\Ai b H HH;refine Kp J0
  ⟨none,[],rq,Ab,rq,(λy hy=>by cases hy),hb1.same (Ag hl _),sb1.trans (Ai.of (Ag hl _))⟩ (λi U HH hi h=>?_) (fun U HH h=>?_)
 ·obtain⟨u,ys,rfl,e1,e2,e3,e4,e5⟩:=h;refine⟨_,rq,_,rq,b,_,26,rq,e4,by omega,by decide,by decide,λr' HA r0' r1' hbA sA=>?_⟩;obtain⟨c,ec,oc⟩:=BN r0' r1';have eA:=sA _ _ e1 nbl.symm;refine⟨_,_,c,rq,rq,Av (by show abc.cps.size<=1000;rw[<-QaP,Ub];decide),ec,_,eA,Ar (by rw[QbH];omega),_,ys++[⟨#[c]⟩],rq,?_,?_,λy hy=>?_,hbA.Ep Ai.upd nbl,?_⟩
  ·rw[Ab,QbI];rfl
  ·rw[QaU,e2];rfl
  ·rcases QbJ.mp hy with h | h
   ·exact e3 y h
   ·have:y=⟨#[c]⟩:=by simpa using h
    rw[this];exact⟨rq,oc⟩
  ·exact λc o e ne=>Ai.upd _ _ (sA _ _ (e5 _ _ e ne) ne) λz=>by rw[z,fl] at e;cases e
 obtain⟨u,ys,rfl,e1,e2,e3,e4,e5⟩:=h;have hs:=Zi λy hy=>(e3 y hy).1;refine⟨_,l,ys,rq,rq,SqL.of e1,?_,?_⟩
 ·rw[hs];have:(Str.ofString "").length=0:=by trivial
  rw[this];omega
 ·have hj:=bQ ys;rw[hs] at hj;refine q _ HH ?_ ?_ ?_ (e4.mono (by omega)) e5
  ·show 1<=(Builtin.Str.glued _ ys).length;rw[StrLaws.glued_eq_join];show 1<=(Str.join "" ys).length;omega
  ·show (Builtin.Str.glued _ ys).length<=8;rw[StrLaws.glued_eq_join];show (Str.join "" ys).length<=8;omega
  ·show okS (Builtin.Str.glued _ ys);rw[StrLaws.glued_eq_join];exact okS.join (λc hc=>by cases hc) λy hy=>(e3 y hy).2
abbrev xE:YF:=["_law_one","_law_name_here","_law_found"]
theorem sH (C:Code K mg "_law_names" Ou Lz) (T:Nm mg) (uG:Good P w K mg base "_law_name" 2 N8 mF):Good P w K mg base "_law_names" 3 Lz fW:=by
 refine C.good JT (λvs H Q E h=>?_) (λf cdv A outer s H vs Q E hr h=>?_)
 ·obtain⟨b,n,many,rfl,_⟩:=h;rfl
 obtain⟨b,n,many,rfl,hb,hn,hm,q⟩:=h;refine⟨_,(Ae (Bb (i:=2) JT.nd rfl (Or.inr rfl) (Ce Ac))
 (Ae (Cd QbL rfl (CT rfl T.range (Aa (pv 1) Ac)) (Aj (i:=3) JT.nd rfl (Or.inl rfl))
 (Ae (Bb (i:=4) JT.nd rfl (Or.inr rfl) (Ay uG hr (Aa (pv 0) Ac)))
 (Ae (BX (Bs RM (pv 4) (pv 2) (by with_unfolding_all rfl)) (Ah (Bb (i:=4) JT.nd rfl (Or.inr rfl) (Bm Df (Cq (N':=xE) rfl (Bo.of (src:=[none,some 4,some 2]) (Ak Ou) xC rfl rfl rfl (by trivial) (by trivial) (by trivial) rfl (by trivial)) (nj Bp) (λ_ _ _ _=>(Aj (i:=0) (show List.Nodup (xE:YF) by trivial) rfl (Or.inl rfl))) (λ_ _ _ _=>(Gy (Bs (Rb (K:=K) rfl) (Bj VL (pv 0) (KH mK (pv 1) (M8 Af) M9)) (pv 2) (by with_unfolding_all rfl)))) (λ_ _ _ _=>(Bj VL (pv 0) (KH mK (pv 1) (M8 Af) M9)))) Af (λ_ _=>rfl)))) Bv)
 (Ah (Bk (Cw Qar Qan Qao Ci (pv 2) (Aa (pv 4) Ac)))))))
 (Ah (Bc (pv 2))))),?_⟩
 show let R0:TS:=_;let R1:TS:=_;let R2:TS:=Al (FQ _ R1 _) R0;let R3:TS:=Al _ R2;let R4:TS:=Al (Dg _ _ R3) _;Al _ R4 _ _ _;intro R0 R1 R2 R3 R4;refine⟨Av (by show 0<=1000;decide),λlf hlf=>?_⟩;have s1:=Ag hlf (.lst []);have nbf:b≠lf:=hb.nb hlf;refine⟨_,rq,_,rq,by omega,by omega,?_⟩;rw[Qbo];let J1:YN:=λi U HH=>∃(u3 u4:Option V) (ys:YF),U=[jp b,some (.int many),jp lf,u3,u4]/\HH lf=some (.lst (ys.map V.str))/\ys.length=i/\(∀y∈ys,(1<=y.length/\y.length<=8)/\okS y)/\BP HH b (n+9*i)/\Ai b H HH/\ys.Nodup;refine Ec J1
  ⟨_,_,[],rq,Ab,rq,(λy hy=>by cases hy),hb.same s1,Ai.of s1,Qca⟩ (λi U HH hi h=>?_) (fun U HH h=>?_)
 ·obtain⟨u3,u4,ys,rfl,e1,e2,e3,e4,e5,e6⟩:=h;refine⟨_,rq,b,_,rq,e4,by omega,λz HA hz1 hz oz hbA sA=>?_⟩;have eA:=sA _ _ e1 nbf.symm;have s5:Ai b H HA:=e5.trans sA;have fin:∀(y:Str) (HB:Hp),(1<=y.length/\y.length<=8)->okS y->y∉ys->HB lf=some (.lst (ys.map V.str))->BP HB b (n+9*i+9)->Ai b H HB->∃(u3 u4:Option V) (ys':YF),[some (V.ref b),some (.int many),jp lf,some (.int (0+(i:Int))),some (.str y)]=[jp b,some (.int many),jp lf,u3,u4] /\
    upd HB lf (.lst (ys.map V.str++[.str y])) lf=some (.lst (ys'.map V.str))/\ys'.length=i+1/\(∀y∈ys',(1<=y.length/\y.length<=8)/\okS y)/\BP (upd HB lf (.lst (ys.map V.str++[.str y]))) b (n+9*(i+1))/\Ai b H (upd HB lf (.lst (ys.map V.str++[.str y])))/\ys'.Nodup:=λy HB hy oy hny hB bB sB=>by
   refine⟨_,_,ys++[y],rq,?_,?_,λx hx=>?_,(bB.Ep Ai.upd nbf).mono (by omega),Ai.Qu sB Ai.upd hlf,gK e6 hny⟩
   ·rw[Ab,QbI];rfl
   ·rw[QaU,e2];rfl
   ·rcases QbJ.mp hx with h | h
    ·exact e3 x h
    ·have:x=y:=by simpa using h
     rw[this];exact⟨hy,oy⟩
  refine⟨_,rq,_,rq,lf,_,rq,.inl (SqL.of eA),rq,Yb ys,_,rq,Ig (λ_=>?_) (λhnz=>?_)⟩
  ·refine⟨_,rq,λl2 hl2=>?_⟩;have nfl:lf≠l2:=Aw eA hl2;have hsl:(Txt.slice z (some 1) none).length<=7:=Qcr (mJ z) (by omega);have osl:=oz.slice (some 1) none;let J2:YN:=λi U HH=>∃(u:Option V) (ws:YF),U=[u,some (.str z),jp lf]/\HH=upd HA l2 (.lst (ws.map V.str))/\ws.length<=i/\(∀y∈ws,((1<=y.length/\y.length<=8)/\okS y)/\y∉ys)/\((∃j c,j < i/\abc.cps[j]?=some c/\((⟨#[c]⟩ : Str)++Txt.slice z (some 1) none)∉ys)->ws≠[]);refine cF J2
    ⟨none,[],rfl,rfl,Qcw _,(λy hy=>by cases hy),λ⟨j,c,hj,_⟩=>absurd hj (QbU _)⟩ (λj c U HH hc h=>?_) (fun U HH h=>?_)
   ·obtain⟨u,ws,rfl,rfl,l1,l2',l3⟩:=h;have hj:j < 26:=by
     have:=(Qaf.mp hc).1;rw[<-QaP] at this;have e:=Ub;unfold abc at e;omega
    have oc:okS ⟨#[c]⟩:=λd hd=>by
     have:d=c:=by simpa using hd
     rw[this];exact qg c (Array.mem_toList_iff.mpr (Array.mem_of_getElem? hc))
    have hlen:(⟨#[c]⟩ : Str).length+(Txt.slice z (some 1) none).length<=sizeLine:=by
     show 1+_<=sizeLine;rw[QcA];omega
    have hzl:z.length<=sizeLine:=by rw[QcA];omega
    have eB:upd HA l2 (.lst (ws.map V.str)) lf=some (.lst (ys.map V.str)):=by rw[Ao nfl];exact eA
    refine⟨_,rq,_,rq,_,rq,_,rq,hzl,_,_,rq,rq,hlen,_,rq,lf,_,rq,.inl (SqL.of eB),rq,Yb ys,_,rq,Ig (λt=>?_) (λt=>?_)⟩
    ·refine⟨_,rq,_,rq,_,rq,_,rq,hzl,_,_,rq,rq,hlen,_,Ab,Ar (by rw[QbH];omega),_,ws++[(⟨#[c]⟩ : Str)++Txt.slice z (some 1) none],rq,?_,?_,λy hy=>?_,λ_ e=>?_⟩
     ·rw[Te,QbI];rfl
     ·rw[QaU];show _+1<=_;omega
     ·rcases QbJ.mp hy with h | h
      ·exact l2' y h
      ·have e:y=(⟨#[c]⟩ : Str)++Txt.slice z (some 1) none:=by simpa using h
       rw[e];refine⟨⟨⟨by rw[Str.length_append];show 1<=1+_;omega,by rw[Str.length_append];show 1+_<=8;omega⟩,oc.append osl⟩,λhin=>?_⟩;have t:(!inV (.str ((⟨#[c]⟩ : Str)++Txt.slice z (some 1) none)) (ys.map V.str))=true:=t;rw[(QM _ ys).mpr hin] at t;cases t
     ·have:=congrArg List.length e;rw[QaU] at this;simp at this
    ·refine⟨_,ws,rfl,rfl,by omega,l2',λ⟨j',c',hj',hc',hn'⟩=>?_⟩;by_cases ej:j'=j
     ·subst ej;have ec:c'=c:=by
       have e1:abc.cps[j']?=some c:=hc;rw[hc'] at e1;exact QbN e1
      subst ec;exfalso;apply t;show (!inV (.str ((⟨#[c']⟩ : Str)++Txt.slice z (some 1) none)) (ys.map V.str))=true;cases e:inV (.str ((⟨#[c']⟩ : Str)++Txt.slice z (some 1) none)) (ys.map V.str) with
      | false=>rfl
      | true=>exact absurd ((QM _ ys).mp e) hn'
     ·exact l3 ⟨j',c',by omega,hc',hn'⟩
   ·obtain⟨u,ws,rfl,rfl,l1,l2',l3⟩:=h;obtain⟨j,c,hc,hnot⟩:=dR (Txt.slice z (some 1) none) (ys:=ys) (by omega);have hws:=l3 ⟨j,c,(Qaf.mp hc).1,hc,hnot⟩;cases ws with
    | nil=>exact absurd rfl hws
    | cons w0 wr=>
     obtain⟨⟨y1,y2⟩,y3⟩:=l2' w0 (QaV ..);have s2:=Ag hl2 (.lst ((w0::wr).map V.str));have eB:=s2 _ _ eA;refine⟨l2,_,_,_,rq,rq,SqL.of Ab,DY (xs:=(w0::wr).map V.str) (j:=0) rfl,?_⟩;refine⟨_,rq,.inl ⟨rq,_,SqL.of eB⟩,_,rq,lf,_,_,rq,rq,eB,Ar (by rw[QbH];omega),?_⟩;exact fin w0 _ y1 y2 y3 eB (hbA.same s2) (s5.trans (Ai.of s2))
  ·refine⟨_,rq,.inl ⟨rq,_,SqL.of eA⟩,_,rq,lf,_,_,rq,rq,eA,Ar (by rw[QbH];omega),?_⟩;exact fin z HA ⟨hz1,hz⟩ oz (λhin=>hnz ((QM _ ys).mpr hin)) eA hbA s5
 ·obtain⟨u3,u4,ys,rfl,e1,e2,e3,e4,e5,e6⟩:=h;exact⟨_,rq,q lf ys HH hlf e2 e3 e6 e1 e4 e5⟩
end
structure Dev where
 kind:Str
 addr:Int
structure Place where
 kind:Str
 addr:Int
 spur:List Dev
def Kq (H:Hp) (v:V) (d:Dev):Prop:=∃t,v=.ref t/\H t=some (.tup [.str d.kind,.int d.addr])
def Ea (H:Hp) (v:V) (p:Place):Prop:=∃t u vs,v=.ref t/\H t=some (.tup [.str p.kind,.int p.addr,.ref u])/\H u=some (.tup vs)/\Paired (Kq H) vs p.spur
def LoopAt (H:Hp) (v:V) (ps:List Place):Prop:=∃t vs,v=.ref t/\H t=some (.tup vs)/\Paired (Ea H) vs ps
theorem Kq.tups {H H':Hp} (s:Am H H') {v:V} {d:Dev} (h:Kq H v d):Kq H' v d:=by
 obtain⟨t,e,q⟩:=h;exact⟨t,e,s _ _ q⟩
theorem Ea.tups {H H':Hp} (s:Am H H') {v:V} {d:Place} (h:Ea H v d):Ea H' v d:=by
 obtain⟨t,u,vs,e,q1,q2,q3⟩:=h;exact⟨t,u,vs,e,s _ _ q1,s _ _ q2,Paired.Ax q3 λ_ _ z=>z.tups s⟩
theorem LoopAt.tups {H H':Hp} (s:Am H H') {v:V} {d:List Place} (h:LoopAt H v d):LoopAt H' v d:=by
 obtain⟨t,vs,e,q1,q2⟩:=h;exact⟨t,vs,e,s _ _ q1,Paired.Ax q2 λ_ _ z=>z.tups s⟩
theorem Paired.Ck {α β : Type} {F:α->β->Prop}:∀{l₁ : List α} {l₂ : List β} {i:Nat} {x:α},Paired F l₁ l₂->l₁[i]?=some x->∃y,l₂[i]?=some y/\F x y
 | _,_,_,_,.nil,h=>by simp at h
 | _,_,0,_,.cons a _,h=>by simp at h;subst h;exact⟨_,rfl,a⟩
 | _,_,i+1,x,.cons _ t,h=>by
  obtain⟨y,h1,h2⟩:=Paired.Ck (i:=i) (x:=x) t (by simpa using h);exact⟨y,by simpa using h1,h2⟩
theorem Qcy {α β : Type} {F:α->β->Prop} {a:α} {b:β} (h:F a b):∀{l₁ : List α} {l₂ : List β},Paired F l₁ l₂->Paired F (l₁++[a]) (l₂++[b])
 | _,_,.nil=>.cons h .nil
 | _,_,.cons x t=>.cons x (Qcy h t)
def Hg (k:Str):Prop:=k="seeker"\/k="knob"\/k="bell"\/k="door"
structure OkP (p:Place):Prop where
 spur:p.spur.length<=3
 kinds:∀d∈p.spur,Hg d.kind
 form:(p.kind="opener"/\p.addr=0/\p.spur=[])\/Hg p.kind
structure Zone where
 name:Str
 adr:List Int
def Jh (H:Hp) (v:V) (z:Zone):Prop:=∃t u,v=.ref t/\H t=some (.tup [.str z.name,.ref u])/\H u=some (.tup (z.adr.map V.int))
theorem Jh.tups {H H':Hp} (s:Am H H') {v:V} {z:Zone} (h:Jh H v z):Jh H' v z:=by
 obtain⟨t,u,e,q1,q2⟩:=h;exact⟨t,u,e,s _ _ q1,s _ _ q2⟩
def Ew (k:Str):Bool:=inV (.str k) [.str "seeker",.str "knob"]
def FP (p:Place):List Dev:=⟨p.kind,p.addr⟩::p.spur
def Iu (ds:List Dev):List Int:=(ds.filter λd=>Ew d.kind).map (·.addr)
def Jm (ps:List Place):List Int:=ps.flatMap λp=>Iu (FP p)
abbrev YU:=List (List Place)
def Fd (ls:YU):List Int:=ls.flatMap Jm
theorem lJ (ds:List Dev) (d:Dev):Iu (ds++[d])=Iu ds++(if Ew d.kind=true then [d.addr] else []):=by
 unfold Iu;rw[Qbf,QbI];congr 1;by_cases h:Ew d.kind=true
 ·rw[if_pos h];simp[List.filter,h]
 ·rw[if_neg h];simp[List.filter,h]
theorem lH (ps:List Place) (p:Place):Jm (ps++[p])=Jm ps++Iu (FP p):=by unfold Jm;rw[QaQ];simp
theorem iR (ls:YU) (ps:List Place):Fd (ls++[ps])=Fd ls++Jm ps:=by unfold Fd;rw[QaQ];simp
def ptS (a:List Int×Int) (p:Place):List Int×Int:=if V.str p.kind=V.str "opener" then (a.1++[a.2],0) else (a.1,a.2+1+(p.spur.length:Int))
def pst (ps:List Place):List Int×Int:=ps.foldl ptS ([],0)
def Hv (ps:List Place):List Int:=(pst ps).1++[(pst ps).2]
theorem aA (ps:List Place) (p:Place):pst (ps++[p])=ptS (pst ps) p:=by unfold pst;rw[List.foldl_append];rfl
abbrev U4:Stmt:=top 51
abbrev Oa:YF:=["_law_bag_here","_law_numbers","_law_most_places"]
theorem JC:Ba ["_law_bag_here","_law_numbers","_law_most_places","_law_places","_law_at","_law_many","_law_some","_law_way"] Oa (Ak U4):=by ac_rfl
abbrev Ru:Stmt:=top 52
abbrev Ly:YF:=["_law_places"]
theorem JR:Ba ["_law_places","_law_found","_law_kind","_law_address","_law_spur"] Ly (Ak Ru):=by ac_rfl
def Dr (a b:Addr) (H H':Hp):Prop:=∀c o,H c=some o->c≠a->c≠b->H' c=some o
theorem Dr.trans {a b:Addr} {H H1 H2:Hp} (x:Dr a b H H1) (y:Dr a b H1 H2):Dr a b H H2:=λc o e n m=>y _ _ (x _ _ e n m) n m
theorem Dr.l {a b:Addr} {H H1:Hp} (x:Ai a H H1):Dr a b H H1:=λc o e n _=>x _ _ e n
theorem Dr.r {a b:Addr} {H H1:Hp} (x:Ai b H H1):Dr a b H H1:=λc o e _ m=>x _ _ e m
theorem Dr.of {a b:Addr} {H H1:Hp} (x:Same H H1):Dr a b H H1:=λc o e _ _=>x _ _ e
theorem Dr.Qu {a b p:Addr} {H HH H':Hp} (s:Dr a b H HH) (t:Ai p HH H') (f:H p=none):Dr a b H H':=λc o e n m=>t _ _ (s _ _ e n m) λz=>by rw[z,f] at e;cases e
def adP (p:Place):List Int:=if V.str p.kind=V.str "opener" then [] else p.addr::p.spur.map (·.addr)
def adL (ps:List Place):List Int:=ps.flatMap adP
theorem Vp (ps:List Place) (p:Place):adL (ps++[p])=adL ps++adP p:=by unfold adL;rw[QaQ];simp
def opP:Place:=⟨"opener",0,[]⟩
theorem Ct:OkP opP:=⟨by show 0<=3;decide,(λd hd=>by cases hd),.inl ⟨rfl,rfl,rfl⟩⟩
theorem BH:adP opP=[]:=if_pos rfl
theorem V4 {k:Str} (h:Hg k):¬V.str k=V.str "opener":=by
 rcases h with rfl | rfl | rfl | rfl <;> decide +kernel
theorem yE {i:Int} (h0:0<=i) (h4:i < 4):∃k,atI [V.str "seeker",.str "knob",.str "bell",.str "door"] i=some (.str k)/\Hg k:=by
 have:i=0\/i=1\/i=2\/i=3:=by omega
 rcases this with rfl | rfl | rfl | rfl
 ·exact⟨_,rq,.inl rfl⟩
 ·exact⟨_,rq,.inr (.inl rfl)⟩
 ·exact⟨_,rq,.inr (.inr (.inl rfl))⟩
 ·exact⟨_,rq,.inr (.inr (.inr rfl))⟩
theorem Vk {xs:YG} {k:Nat} (h:k<=xs.length):Jy xs (some (k:Int)) none=xs.drop k:=by
 unfold Jy;rw[HT.Z0,HT.gw,Nat.min_eq_left h];exact List.take_of_length_le (by rw[QbC];omega)
theorem mL {n:Nat} (h:0 < n):seqIndex? 0 n=some 0:=by
 unfold seqIndex?;simp only[if_neg (show ¬(0:Int) < 0 by decide)];rw[if_pos (by simp;omega)];rfl
def mG:Sp:=λvs H Q _=>∃(b nb:Addr) (n mp:Nat) (ns:List Int),vs=[.ref b,.ref nb,.int mp]/\BP H b n/\n<=5000/\b≠nb/\H nb=some (.lst (ns.map V.int))/\1<=mp/\mp<=12/\ns.length<=100 /\
 ∀t ps ns' H',LoopAt H' (.ref t) ps->(∀p∈ps,OkP p)->1<=ps.length->ps.length<=mp->ns=adL ps++ns'->H' nb=some (.lst (ns'.map V.int))->BP H' b (n+100)->Dr b nb H H'->Q (.ref t) H'
def Zu:Sp:=λvs H Q _=>∃(t:Addr) (ps:List Place),vs=[.ref t]/\LoopAt H (.ref t) ps/\(∀p∈ps,OkP p)/\ps.length<=100/\∀l H',H' l=some (.lst ((Hv ps).map V.int))->Same H H'->Q (.ref l) H'
def wz (b nb lp:Addr) (mp:Int) (H:Hp) (n:Nat) (ns:List Int) (i:Nat) (U : St) (HH:Hp):Prop:=
 ∃u4 u5 u6 u7 vs ps ns',U=[jp b,jp nb,some (.int mp),jp lp,u4,u5,u6,u7]/\HH lp=some (.lst vs)/\Paired (Ea HH) vs ps/\ps.length=i/\(∀p∈ps,OkP p)/\ns=adL ps++ns'/\HH nb=some (.lst (ns'.map V.int))/\BP HH b (n+1+7*i)/\Dr b nb H HH
section
variable {P:Program} {w:World} {K:YD} {mg:YB} {base:Heap}
theorem xK (C:Code K mg "_law_loop" U4 Oa) (T:Nm mg) (Br:Good P w K mg base "_law_take" 1 GX Qe):Good P w K mg base "_law_loop" 2 Oa mG:=by
 refine C.good JC (λvs H Q E h=>?_) (λf cdv A outer s H vs Q E hr h=>?_)
 ·obtain⟨b,nb,n,mp,ns,rfl,_⟩:=h;rfl
 obtain⟨b,nb,n,mp,ns,rfl,hb,hn,nbn,hnb,N4,hmp,hns,q⟩:=h;refine⟨_,(Ae (Bb (i:=3) JC.nd rfl (Or.inl rfl) (Ce Ac))
 (Ae (Cd QbL rfl (CT rfl T.range (Aa (Bj Cg Af (Ay Br hr (Aa (pv 0) (Aa (pv 2) Ac)))) Ac)) (Aj (i:=4) JC.nd rfl (Or.inl rfl))
 (Ae (Bb (i:=5) JC.nd rfl (Or.inl rfl) (Bj Cg Af (Bm Df (@Ce _ _ _ _ (@Aa _ _ _ _ _ (@Af _ _ _ _) (@Aa _ _ _ _ _ (@Af _ _ _ _) (@Aa _ _ _ _ _ (@Af _ _ _ _) (@Aa _ _ _ _ _ (@Af _ _ _ _) (@Aa _ _ _ _ _ (@Af _ _ _ _) (@Aa _ _ _ _ _ (@Af _ _ _ _) (@Ac _) BR) BR) BR) BR) BR) BR)) (Ay Br hr (Aa (pv 0) (Aa Af Ac))) (λ_ _=>rfl))))
 (Ah (BX (PW.pt (Lb (Bs Eu (Ay Br hr (Aa (pv 0) (Aa Af Ac))) Af (Bq _)) (Lk (Bs VH (Az Bh rfl T.len Cu (Aa (pv 1) Ac)) (pv 5) (Bq _))))) (Ah (Bk (Cw Qar Qan Qao Ci (pv 3) (Aa (Bg (Aa Bp (Aa Af (Aa (Bg Ac) Ac)))) Ac)))) (Ae (Bb (i:=6) JC.nd rfl (Or.inl rfl) (Ce Ac))
 (Ae (Cd QbL rfl (CT rfl T.range (Aa (pv 5) Ac)) (Aj (i:=7) JC.nd rfl (Or.inl rfl))
 (Ah (Bk (Cw Qar Qan Qao Ci (pv 6) (Aa (Bg (Aa (Bm Df (Ce (Aa Bp (Aa Bp (Aa Bp (Aa Bp Ac))))) (Ay Br hr (Aa (pv 0) (Aa Af Ac))) (λ_ _=>rfl)) (Aa (Cw Qar PySem.F.slot_list_pop PySem.F.type_list_pop bD (pv 1) (Aa Af Ac)) Ac))) Ac)))))
 (Ah (Bk (Cw Qar Qan Qao Ci (pv 3) (Aa (Bj QH (Bm Df (pv 6) Af (λ_ _=>rfl)) (Bg (Aa (Eb Hi rfl T.tuple K1 (Aa (KH wJ (pv 6) (M8 Af) M9) Ac)) Ac))) Ac))))))))))
 (Ah (Bc (Eb Hi rfl T.tuple K1 (Aa (pv 3) Ac)))))),?_⟩
 show let R0:TS:=_;let R1:TS:=_;let R2:TS:=_;let R3:TS:=_;let R4:TS:=Al (Dg _ _ R3) R2;let R5:TS:=Al _ R4;let R6:TS:=FQ _ R1 R5;let R7:TS:=Al _ R6;let R8:TS:=Al (Dg _ _ R7) R0;Al _ R8 _ _ _;intro R0 R1 R2 R3 R4 R5 R6 R7 R8;refine⟨Av (by show 0<=1000;decide),λlp hlp=>?_⟩;have s0:=Ag hlp (.lst []);have nlb:b≠lp:=hb.nb hlp;have nln:nb≠lp:=Aw hnb hlp;refine⟨_,rq,_,rq,b,n,_,rq,hb.same s0,by omega,by omega,by omega,λr H1 r0 r1 hb1 sb1=>⟨_,_,rq,rq,_,rq,by omega,by omega,?_⟩⟩;obtain⟨rn,hrn⟩ : ∃rn:Nat,r=rn:=⟨r.toNat,by omega⟩;subst hrn;rw[show ((1:Int)+(rn:Int)).toNat=rn+1 by omega];have NO:∀{H2 H3:Hp},H2 lp=some (.lst [])->True:=λ_=>True.intro;refine Ec (wz b nb lp mp H n ns) ⟨_,_,_,_,[],[],ns,rq,sb1 _ _ Ab nlb.symm,.nil,rq,(λp hp=>by cases hp),rq,sb1 _ _ (s0 _ _ hnb) nbn.symm,hb1,(Dr.of s0).trans (Dr.l sb1)⟩ (λi U HH hi h=>?_) (fun U HH h=>?_)
 ·obtain⟨u4,u5,u6,u7,vs,ps,ns',rfl,e1,e2,e3,e4,e5,e6,e7,e8⟩:=h;have IA:i < 12:=by omega
  have hlv:=Qcd e2;refine⟨Av (by show 6<=1000;decide),λl6 hl6=>?_⟩;have s6:=Ag hl6 (.lst [.int 0,.int 0,.int 0,.int 1,.int 2,.int 3]);refine⟨_,rq,b,_,6,rq,e7.same s6,by omega,by decide,by decide,λr2 HA r20 r21 hbA sA=>?_⟩;obtain⟨m,em,m0,m3⟩:=Mm r20 r21 (a:=0) (b:=0) (c:=0) (d:=1) (e:=2) (f:=3) (λp=>0<=p/\p<=3) (by decide) (by decide) (by decide) (by decide) (by decide) (by decide);obtain⟨mn,hmn⟩ : ∃mn:Nat,m=mn:=⟨m.toNat,by omega⟩;subst hmn;refine⟨l6,_,_,_,rq,rq,SqL.of (sA _ _ Ab (e7.nb hl6).symm),em,_,_,rq,rq,?_⟩;refine⟨_,rq,b,_,4,rq,hbA,by omega,by decide,by decide,λr3 HB r30 r31 hbB sB=>⟨rq,_,rq,?_⟩⟩;have sHB:Ai b HH HB:=((Ai.of s6).trans sA).trans sB;have tHB:Am HH HB:=sHB.tup e7.Gj;have f1:=sHB _ _ e1 nlb.symm;have f2:Paired (Ea HB) vs ps:=Paired.Ax e2 λ_ _ z=>z.tups tHB;have f6:=sHB _ _ e6 nbn.symm;have f8:Dr b nb H HB:=e8.trans (Dr.l sHB);have opn:∀eo,HB eo=none->∀t,upd HB eo (.tup []) t=none->wz b nb lp mp H n ns (i+1) [jp b,jp nb,some (.int mp),jp lp,some (.int (0+(i:Int))),some (.int (1+(mn:Int))),u6,u7] (upd (upd (upd HB eo (.tup [])) t (.tup [.str "opener",.int 0,.ref eo])) lp (.lst (vs++[.ref t]))):=λeo heo t ht=>by
   have t1:=Ag heo (.tup []);have t2:=Ag ht (.tup [.str "opener",.int 0,.ref eo]);have f1':=t2 _ _ (t1 _ _ f1);have nt:∀zs,(upd (upd HB eo (.tup [])) t (.tup [.str "opener",.int 0,.ref eo])) lp≠some (.tup zs):=λzs z=>by rw[f1'] at z;cases z
   have tu:=Am.upd (o:=.lst (vs++[.ref t])) nt;refine⟨_,_,_,_,vs++[.ref t],ps++[opP],ns',rq,Ab,?_,by rw[QaU,e3];rfl,λp hp=>?_,?_,?_,?_,?_⟩
   ·refine Qcy ⟨t,eo,[],rq,tu _ _ Ab,tu _ _ (t2 _ _ Ab),.nil⟩ (Paired.Ax f2 λ_ _ z=>(z.tups (Am.of (t1.trans t2))).tups tu)
   ·rcases QbJ.mp hp with z | z
    ·exact e4 p z
    ·have:p=opP:=by simpa using z
     rw[this];exact Ct
   ·rw[Vp,BH,QbK];exact e5
   ·rw[Ao nln];exact t2 _ _ (t1 _ _ f6)
   ·exact (((hbB.same t1).same t2).Ep Ai.upd nlb).mono (by omega)
   ·exact (f8.trans (Dr.of (t1.trans t2))).Qu Ai.upd hlp
  refine Ig (λ_=>?_) (λ_=>?_)
  ·refine⟨_,rq,.inl ⟨rq,_,SqL.of f1⟩,Av (by show 0<=1000;decide),λeo heo=>⟨Av (by show 3<=1000;decide),λt ht=>⟨lp,_,_,rq,rq,Ag ht _ _ _ (Ag heo _ _ _ f1),Ar (by omega),opn eo heo t ht⟩⟩⟩
  ·refine⟨_,rq,nb,_,rq,.inl (SqL.of f6),_,rq,_,_,rq,rq,_,rq,Ig (λ_=>?_) (λcc=>?_)⟩
   ·refine⟨_,rq,.inl ⟨rq,_,SqL.of f1⟩,Av (by show 0<=1000;decide),λeo heo=>⟨Av (by show 3<=1000;decide),λt ht=>⟨lp,_,_,rq,rq,Ag ht _ _ _ (Ag heo _ _ _ f1),Ar (by omega),opn eo heo t ht⟩⟩⟩
   ·have cc:¬(((ns'.map V.int).length:Nat):Int) < 1+(mn:Int):=λz=>cc (QbY z);rw[QbH] at cc;refine⟨Av (by show 0<=1000;decide),λls hls=>?_⟩;have sl:=Ag hls (.lst []);have EA:lp≠ls:=Aw f1 hls;have At:nb≠ls:=Aw f6 hls;have Au:b≠ls:=hbB.nb hls;refine⟨_,rq,_,rq,by omega,by omega,?_⟩;rw[show ((1:Int)+(mn:Int)).toNat=mn+1 by omega];have Of:H ls=none->True:=λ_=>True.intro;let J0:YN:=λj U HC=>∃u7 xs ds ns2,U=[jp b,jp nb,some (.int mp),jp lp,some (.int (0+(i:Int))),some (.int (1+(mn:Int))),jp ls,u7]/\HC ls=some (.lst xs)/\Paired (Kq HC) xs ds/\ds.length=j/\(∀d∈ds,Hg d.kind)/\ns'=ds.map (·.addr)++ns2/\HC nb=some (.lst (ns2.map V.int))/\BP HC b (n+1+7*i+1+1+j)/\HC lp=some (.lst vs)/\Paired (Ea HC) vs ps/\(∀c o,HB c=some o->c≠b->c≠nb->HC c=some o);refine Ec J0
     ⟨_,[],[],ns',rq,Ab,.nil,rq,(λd hd=>by cases hd),rq,sl _ _ f6,hbB.same sl,sl _ _ f1,Paired.Ax f2 λ_ _ z=>z.tups (Am.of sl),λc o e _ _=>sl _ _ e⟩ (λj U HC hj h=>?_) (fun U HC h=>?_)
    ·obtain⟨u7,xs,ds,ns2,rfl,g1,g2,g3,g4,g5,g6,g7,g8,g9,g10⟩:=h;refine⟨_,rq,.inl ⟨rq,_,SqL.of g1⟩,Av (by show 4<=1000;decide),λl4 hl4=>?_⟩;have s4:=Ag hl4 (.lst [.str "seeker",.str "knob",.str "bell",.str "door"]);refine⟨_,rq,b,_,4,rq,g7.same s4,by omega,by decide,by decide,λr4 HD r40 r41 hbD sD=>?_⟩;obtain⟨k,ek,hk⟩:=yE r40 r41;have sCD:Ai b HC HD:=(Ai.of s4).trans sD;have tCD:Am HC HD:=sCD.tup g7.Gj;have g6':=sCD _ _ g6 nbn.symm;cases ns2 with
     | nil=>
      rw[QbK] at g5;have:=congrArg List.length g5;rw[QbH,g3] at this;omega
     | cons a0 ns3=>
      refine⟨l4,_,_,_,rq,rq,SqL.of (sD _ _ Ab (g7.nb hl4).symm),ek,_,rq,.inl ⟨rq,_,SqL.of g6'⟩,nb,_,0,0,.int a0,rq,rq,g6',by decide,by decide,mL (by rw[QbH];show 0 < _+1;omega),rq,Av (by show 2<=1000;decide),λt ht=>?_⟩;have tn:Am HD (upd HD nb (.lst (((a0::ns3).map V.int).eraseIdx 0))):=Am.upd λzs z=>by rw[g6'] at z;cases z
      have tt:=Ag ht (.tup [.str k,.int a0]);have gls:upd HD nb (.lst (((a0::ns3).map V.int).eraseIdx 0)) ls=some (.lst xs):=by rw[Ao At.symm];exact sCD _ _ g1 Au.symm
      refine⟨ls,_,_,rq,rq,tt _ _ gls,Ar (by rw[Qcd g2];omega),?_⟩;have nt:∀zs,(upd (upd HD nb (.lst (((a0::ns3).map V.int).eraseIdx 0))) t (.tup [.str k,.int a0])) ls≠some (.tup zs):=λzs z=>by rw[tt _ _ gls] at z;cases z
      have tu:=Am.upd (o:=.lst (xs++[.ref t])) nt;have yS:Am HC (upd (upd (upd HD nb (.lst (((a0::ns3).map V.int).eraseIdx 0))) t (.tup [.str k,.int a0])) ls (.lst (xs++[.ref t]))):=(tCD.trans tn).trans ((Am.of tt).trans tu);refine⟨_,xs++[.ref t],ds++[⟨k,a0⟩],ns3,rq,Ab,Qcy ⟨t,rq,tu _ _ Ab⟩ (Paired.Ax g2 λ_ _ z=>z.tups yS),by rw[QaU,g3];rfl,λd hd=>?_,?_,?_,?_,?_,Paired.Ax g9 λ_ _ z=>z.tups yS,λc o e n1 n2=>?_⟩
      ·rcases QbJ.mp hd with z | z
       ·exact g4 d z
       ·have:d=⟨k,a0⟩:=by simpa using z
        rw[this];exact hk
      ·rw[g5,QbI,Qbm];rfl
      ·rw[Ao At,tt _ _ Ab];rfl
      ·exact ((hbD.Ep Ai.upd nbn).same tt).Ep Ai.upd Au
      ·rw[Ao EA,tt _ _ (by rw[Ao nln.symm];exact sCD _ _ g8 nlb.symm)]
      ·have e':=sCD _ _ (g10 _ _ e n1 n2) n1;rw[Ao (λz=>by rw[z,hls] at e;cases e),tt _ _ (by rw[Ao n2];exact e')]
    ·obtain⟨u7,xs,ds,ns2,rfl,g1,g2,g3,g4,g5,g6,g7,g8,g9,g10⟩:=h;cases ds with
     | nil=>cases g3
     | cons d0 dr=>
      cases g2 with
      | @cons x0 _ xr _ hd0 hdr=>
       obtain⟨t0,rfl,ht0⟩:=hd0;have lxr:=Qcd hdr;have ldr:dr.length=mn:=by simpa using g3
       refine⟨_,rq,.inl ⟨rq,_,SqL.of g8⟩,_,rq,ls,_,_,_,rq,rq,SqL.of g1,DY (xs:=.ref t0::xr) (j:=0) rfl,_,rq,_,rq,ls,_,rq,SqL.of g1,λp1 hp1=>?_⟩;have ec:Jy (.ref t0::xr) (some 1) none=xr:=Vk (xs:=.ref t0::xr) (k:=1) (by simp);rw[ec] at *;have sp1:=Ag hp1 (.lst xr);refine⟨p1,_,rq,.inl ⟨SqL.of Ab,λtu htu=>⟨Av (by show 1<=1000;decide),λt1 ht1=>?_⟩⟩⟩;have sp2:=Ag htu (.tup xr);have sp3:=Ag ht1 (.tup [.ref tu]);have sp:=(sp1.trans sp2).trans sp3;refine⟨t0,t1,_,_,rq,rq,sp _ _ ht0,Ab,Av (by show 2+1<=1000;decide),λtp HE hE sE=>?_⟩;have spE:=sp.trans sE;have g8':=spE _ _ g8;refine⟨lp,_,_,rq,rq,g8',Ar (by omega),?_⟩;have nt:∀zs,HE lp≠some (.tup zs):=λzs z=>by rw[g8'] at z;cases z
       have tv:=Am.upd (o:=.lst (vs++[.ref tp])) nt;have okp:OkP ⟨d0.kind,d0.addr,dr⟩:=⟨by show dr.length<=3;omega,λd hd=>g4 d (QaJ _ hd),.inr (g4 d0 (QaV ..))⟩;refine⟨_,_,_,_,vs++[.ref tp],ps++[⟨d0.kind,d0.addr,dr⟩],ns2,rq,Ab,?_,by rw[QaU,e3];rfl,λp hp=>?_,?_,?_,?_,?_⟩
       ·refine Qcy ⟨tp,tu,xr,rq,tv _ _ hE,tv _ _ (sE _ _ (sp3 _ _ Ab)),Paired.Ax hdr λ_ _ z=>(z.tups (Am.of spE)).tups tv⟩ (Paired.Ax g9 λ_ _ z=>(z.tups (Am.of spE)).tups tv)
       ·rcases QbJ.mp hp with z | z
        ·exact e4 p z
        ·have:p=⟨d0.kind,d0.addr,dr⟩:=by simpa using z
         rw[this];exact okp
       ·rw[Vp,e5,g5,Qbm];congr 1;have:adP ⟨d0.kind,d0.addr,dr⟩=d0.addr::dr.map (·.addr):=if_neg (V4 (g4 d0 (QaV ..)));rw[this];rfl
       ·rw[Ao nln];exact spE _ _ g6
       ·exact ((g7.same spE).Ep Ai.upd nlb).mono (by omega)
       ·refine Dr.Qu (λc o e n1 n2=>spE _ _ (g10 _ _ (f8 _ _ e n1 n2) n1 n2)) Ai.upd hlp
 ·obtain⟨u4,u5,u6,u7,vs,ps,ns',rfl,e1,e2,e3,e4,e5,e6,e7,e8⟩:=h;refine⟨_,rq,lp,_,rq,.inl ⟨SqL.of e1,λt ht=>?_⟩⟩;have st:=Ag ht (.tup vs);exact q t ps ns' _ ⟨t,vs,rq,Ab,Paired.Ax e2 λ_ _ z=>z.tups (Am.of st)⟩ e4 (by omega) (by omega) e5 (st _ _ e6) ((e7.same st).mono (by omega)) (e8.trans (Dr.of st))
end
abbrev Kw:Stmt:=top 53
abbrev N7:YF:=["_law_bag_here","_law_most_loops","_law_most_places"]
abbrev xj:YF:=["_law_bag_here","_law_most_loops","_law_most_places","_law_start","_law_stride","_law_numbers","_law_own","_law_first","_law_at","_law_loops","_law_loop_here","_law_most","_law_told","_law_places","_law_kind","_law_address","_law_spur","_law_zones","_law_names_here","_law_name_here","_law_some"]
theorem Ca:Ba xj N7 (Ak Kw):=by ac_rfl
theorem cO (xs:YG) (y:V):atI (xs++[y]) (-1)=some y:=by
 unfold atI ixN;rw[if_neg (by decide),QaU,QaF,if_pos (by omega),show (-1+((xs.length+1:Nat):Int)).toNat=xs.length by omega];show (xs++[y])[xs.length]?=some y;rw[List.getElem?_append_right (Qcw _),Nat.sub_self];rfl
theorem tZ (xs:YG) (y:V):ixN (xs++[y]).length (-1)=some xs.length:=by
 unfold ixN;rw[if_neg (by decide),QaU,QaF,if_pos (by omega),show (-1+((xs.length+1:Nat):Int)).toNat=xs.length by omega]
theorem qQ (xs:YG) (y z:V):(xs++[y]).set xs.length z=xs++[z]:=by
 rw[List.set_append_right _ _ (Qcw _),Nat.sub_self];rfl
theorem Me {i:Int} (h0:0<=i) (h9:i < 9) {a b c d e f g h k:Int} (P:Int->Prop) (ha:P a) (hb:P b) (hc:P c) (hd:P d) (he:P e) (hf:P f) (hg:P g) (hh:P h) (hk:P k):∃p,atI [V.int a,.int b,.int c,.int d,.int e,.int f,.int g,.int h,.int k] i=some (.int p)/\P p:=by
 have:i=0\/i=1\/i=2\/i=3\/i=4\/i=5\/i=6\/i=7\/i=8:=by omega
 rcases this with rfl | rfl | rfl | rfl | rfl | rfl | rfl | rfl | rfl
 ·exact⟨_,rq,ha⟩
 ·exact⟨_,rq,hb⟩
 ·exact⟨_,rq,hc⟩
 ·exact⟨_,rq,hd⟩
 ·exact⟨_,rq,he⟩
 ·exact⟨_,rq,hf⟩
 ·exact⟨_,rq,hg⟩
 ·exact⟨_,rq,hh⟩
 ·exact⟨_,rq,hk⟩
theorem pJ (ns:List Int):(ns.map V.int).all Lf=true:=by
 rw[List.all_map,List.all_eq_true];intro _ _;rfl
theorem BC {xs:YG} {m:Nat} (h:m<=xs.length):Jy xs none (some (m:Int))=xs.take m:=by
 unfold Jy;rw[HT.Z0,HT.gw,Nat.min_eq_left h];rfl
theorem Paired.vm {α β : Type} {F:α->β->Prop}:∀{l:List α} {r:List β} (n:Nat),Paired F l r->Paired F (l.take n) (r.take n)
 | _,_,0,_=>.nil
 | _,_,_+1,.nil=>.nil
 | _,_,n+1,.cons h t=>.cons h (Paired.vm n t)
theorem Paired.vZ {α β : Type} {F:α->β->Prop}:∀{l:List α} {r:List β} (n:Nat),Paired F l r->Paired F (l.drop n) (r.drop n)
 | _,_,0,h=>h
 | _,_,_+1,.nil=>.nil
 | _,_,n+1,.cons h t=>Paired.vZ n t
theorem Paired.app {α β : Type} {F:α->β->Prop}:∀{a₁ b₁ : List α} {a₂ b₂ : List β},Paired F a₁ a₂->Paired F b₁ b₂->Paired F (a₁++b₁) (a₂++b₂)
 | _,_,_,_,.nil,t=>t
 | _,_,_,_,.cons r s,t=>.cons r (Paired.app s t)
theorem gD:∀(ps:List Place) (a:List Int×Int),(ps.foldl ptS a).1.sum+(ps.foldl ptS a).2=a.1.sum+a.2+((adL ps).length:Int)
 | [],a=>by show _=_+_+((0:Nat):Int);simp
 | p::r,a=>by
  rw[List.foldl_cons,gD r];have e:adL (p::r)=adP p++adL r:=by unfold adL;rw[Qbr]
  rw[e,QaU];unfold ptS adP;by_cases h:V.str p.kind=V.str "opener"
  ·rw[if_pos h,if_pos h,List.sum_append];simp
  ·rw[if_neg h,if_neg h,Qby,QbH];simp only;omega
theorem mX:∀(ps:List Place) (a:List Int×Int),(∀m∈a.1,0<=m)->0<=a.2->(∀m∈(ps.foldl ptS a).1,0<=m)/\0<=(ps.foldl ptS a).2
 | [],a,h1,h2=>⟨h1,h2⟩
 | p::r,a,h1,h2=>by
  rw[List.foldl_cons];refine mX r _ ?_ ?_
  ·unfold ptS;split
   ·intro m hm;rcases QbJ.mp hm with z | z
    ·exact h1 m z
    ·have:m=a.2:=by simpa using z
     rw[this];exact h2
   ·exact h1
  ·unfold ptS;split
   ·exact Int.le_refl _
   ·show 0<=a.2+1+(p.spur.length:Int);omega
theorem lU:∀{l:List Int},(∀m∈l,0<=m)->0<=l.sum/\∀m∈l,m<=l.sum
 | [],_=>⟨Int.le_refl _,λm h=>by cases h⟩
 | x::r,h=>by
  obtain⟨h1,h2⟩:=lU (l:=r) λm hm=>h m (QaJ _ hm);have h0:=h x (QaV ..);rw[List.sum_cons];refine⟨by omega,λm hm=>?_⟩;rcases Qce.mp hm with rfl | hm
  ·omega
  ·have:=h2 m hm;omega
theorem rP (ps:List Place):∀m∈Hv ps,0<=m:=by
 have h:=mX ps ([],0) (λm hm=>by cases hm) (Int.le_refl _);intro m hm;rcases QbJ.mp hm with z | z
 ·exact h.1 m z
 ·have:m=(pst ps).2:=by simpa using z
  rw[this];exact h.2
theorem X3 (ps:List Place):(Hv ps).sum=((adL ps).length:Int):=by
 have h:=gD ps ([],0);unfold Hv;rw[List.sum_append];have:(pst ps).1.sum+(pst ps).2=((adL ps).length:Int):=by
  have e:(pst ps).1.sum+(pst ps).2=([]:List Int).sum+0+((adL ps).length:Int):=h;rw[e];simp
 simp;omega
theorem rQ (ps:List Place):∀m∈Hv ps,m<=((adL ps).length:Int):=λm hm=>by
 have:=(lU (rP ps)).2 m hm;rw[X3] at this;exact this
theorem fu:∀{l:List Int},1<=l.sum->∃m∈l,1<=m
 | [],h=>by simp at h
 | x::r,h=>by
  rw[List.sum_cons] at h;by_cases hx:1<=x
  ·exact⟨x,QaV ..,hx⟩
  ·obtain⟨m,h1,h2⟩:=fu (l:=r) (by omega);exact⟨m,QaJ _ h1,h2⟩
structure OkL (ps:List Place):Prop where
 lo:1<=ps.length
 hi:ps.length<=12
 ok:∀p∈ps,OkP p
def CG (ls:YU):List Int:=ls.flatMap adL
structure cU (most:Int) (ja:YU) (jn:List Zone):Prop where
 nd:(CG ja).Nodup
 bd:∀x∈CG ja,1<=x/\x<=99
 cnt:1<=(CG ja).length/\(CG ja).length<=30
 mo:1<=most/\most<=30
 few:∀ps∈ja,∀m∈Hv ps,m<=most
 zin:∀z∈jn,∀x∈z.adr,x∈Fd ja
 znd:(jn.flatMap (·.adr)).Nodup
 zup:∀z∈jn,z.adr.Pairwise (· < ·)/\1<=z.adr.length/\z.adr.length<=30
 yO:jn.length<=8
 znm:∀z∈jn,(1<=z.name.length/\z.name.length<=8)/\okS z.name
 zdi:(jn.map (·.name)).Nodup
def mC:Sp:=λvs H Q _=>∃(b:Addr) (n ml mp:Nat),vs=[.ref b,.int ml,.int mp]/\BP H b n/\n<=1000/\1<=ml/\ml<=3/\2<=mp/\mp<=12 /\
 ∀t Ls zs vs zvs ja jn most H',H' t=some (.tup [.int most,.ref Ls,.ref zs])->H' Ls=some (.tup vs)->Paired (LoopAt H') vs ja->(∀ps∈ja,OkL ps)->1<=ja.length->ja.length<=3->H' zs=some (.tup zvs)->Paired (Jh H') zvs jn->cU most ja jn->BP H' b (n+3000)->Ai b H H'->Q (.ref t) H'
def za:TS:=λD U H=>∃(b nb f0:Addr) (n mp:Nat) (ns:List Int),U[0]?=some (some (.ref b))/\U[5]?=some (some (.ref nb))/\U[2]?=some (some (.int mp))/\U[7]?=some (some (.ref f0))/\H f0=some (.tup [])/\BP H b n/\n<=4000/\b≠nb/\H nb=some (.lst (ns.map V.int))/\2<=mp/\mp<=12/\ns.length<=100 /\
 ∀t vs ps ns' H',H' t=some (.tup vs)->Paired (Ea H') vs ps->(∀p∈ps,OkP p)->ps.length+1<=mp->ns=adL ps++ns'->H' nb=some (.lst (ns'.map V.int))->BP H' b (n+101)->Dr b nb H H'->D.nx (U.set 7 (some (.ref t))) H'
section
variable {P:Program} {w:World} {K:YD} {mg:YB} {base:Heap}
theorem nQ (C:Code K mg "_law_parts" Ru Ly) (T:Nm mg):Good P w K mg base "_law_parts" 1 Ly Zu:=by
 refine C.good JR (λvs H Q E h=>?_) (λf cdv A outer s H vs Q E hr h=>?_)
 ·obtain⟨t,ps,rfl,_⟩:=h;rfl
 obtain⟨t,ps,rfl,⟨t',vs,et,ht,hps⟩,hok,h100,q⟩:=h;cases et;refine⟨_,(Ae (Bb (i:=1) JR.nd rfl (Or.inl rfl) (Ce (Aa Af Ac)))
 (Ae (Cd QbL rfl (Fp (pv 0)) (CQ rfl (Aq (Aj (i:=2) JR.nd rfl (Or.inl rfl)) (Aq (Aj (i:=3) JR.nd rfl (Or.inl rfl)) (Aq (Aj (i:=4) JR.nd rfl (Or.inl rfl)) Bt))))
 (Ah (BX (Bs Eu (pv 2) Bp (Bq _)) (Ah (Bk (Cw Qar Qan Qao Ci (pv 1) (Aa Af Ac)))) (Ah (G5 (Bj Cg (Bj Cg (Bm Df (pv 1) (QC Ni Af) (λ_ _=>rfl)) Af) (Az Bh rfl T.len Cu (Aa (pv 4) Ac))) (aJ (pv 1) (QC Ni Af) set_list))))))
 (Ah (Bc (pv 1))))),?_⟩
 show let R0:TS:=_;let R1:TS:=_;let R2:TS:=FQ _ R0 R1;let R3:TS:=Al (Dg _ _ R2) _;Al _ R3 _ _ _;intro R0 R1 R2 R3;refine⟨Av (by show 1<=1000;decide),λlf hlf=>?_⟩;have s1:=Ag hlf (.lst [.int 0]);have lvs:=Qcd hps;refine⟨_,rq,t,rq,⟨_,SqT.of (s1 _ _ ht)⟩,?_⟩;let J0:YN:=λi U HH=>∃(u2 u3 u4:Option V),U=[jp t,jp lf,u2,u3,u4]/\HH lf=some (.lst ((pst (ps.take i)).1.map V.int++[.int (pst (ps.take i)).2]))/\(pst (ps.take i)).1.length<=i/\Same H HH;refine KY (xs:=vs) J0 ⟨_,_,_,rq,Ab,Qcw _,s1⟩ (λi U HH _ h=>?_) (λi x U HH hx h=>?_) (fun U HH h=>?_)
 ·obtain⟨u2,u3,u4,rfl,e1,e2,e3⟩:=h;exact SqT.of (e3 _ _ ht)
 ·obtain⟨u2,u3,u4,rfl,e1,e2,e3⟩:=h;obtain⟨p,hp,tp,up,ws,rfl,h1,h2,h3⟩:=Paired.Ck hps hx;have hi:=(Qah.mp hx).1;have et:pst (ps.take (i+1))=ptS (pst (ps.take i)) p:=by rw[QcE hp,aA]
  have lws:=Qcd h3;generalize pst (ps.take i)=a at *;refine⟨tp,_,rq,SqT.of (e3 _ _ h1),rq,_,_,rq,_,_,rq,_,_,rq,rq,?_⟩;refine⟨_,rq,rq,_,rq,Ig (λhc=>?_) (λhc=>?_)⟩
  ·have hc:V.str p.kind=V.str "opener":=Qbp hc;have et:pst (ps.take (i+1))=(a.1++[a.2],0):=by rw[et];exact if_pos hc
   refine⟨_,rq,.inl ⟨rq,_,SqL.of e1⟩,lf,_,_,rq,rq,e1,Ar (by rw[QaU,QbH];show _+1<=_;omega),_,_,_,rq,?_,?_,e3.Bl Ai.upd hlf⟩
   ·rw[Ab,et,QbI];rfl
   ·rw[et,QaU];show _+1<=_;omega
  ·have hc:¬V.str p.kind=V.str "opener":=λz=>hc (QbY z);have et:pst (ps.take (i+1))=(a.1,a.2+1+(p.spur.length:Int)):=by rw[et];exact if_neg hc
   refine⟨_,rq,_,rq,lf,_,_,_,rq,rq,SqL.of e1,cO _ _,_,_,rq,rq,_,rq,up,_,rq,.inr (SqT.of (e3 _ _ h2)),_,_,rq,rq,_,rq,_,rq,lf,_,_,_,rq,rq,e1,tZ _ _,_,_,_,rq,?_,by rw[et];show a.1.length<=_;omega,e3.Bl Ai.upd hlf⟩;rw[Ab,qQ,et,<-lws]
 ·obtain⟨u2,u3,u4,rfl,e1,e2,e3⟩:=h;rw[lvs,Qbx] at e1;refine⟨_,rq,q lf HH (by unfold Hv;rw[QbI];exact e1) e3⟩
end
theorem zF {α : Type} {l:List α} {i:Nat} {x:α} (h:l[i]?=some x):l.set i x=l:=by
 obtain⟨hi,e⟩:=Qah.mp h;subst e;exact List.set_getElem_self hi
theorem Ln.tups {H H':Hp} {vs:YG} {ls:YU} (s:Am H H') (h:Paired (LoopAt H) vs ls):Paired (LoopAt H') vs ls:=Paired.Ax h λ_ _ z=>z.tups s
theorem Pn.tups {H H':Hp} {vs:YG} {ls:List Place} (s:Am H H') (h:Paired (Ea H) vs ls):Paired (Ea H') vs ls:=Paired.Ax h λ_ _ z=>z.tups s
theorem Nh (a b:List Place):adL (a++b)=adL a++adL b:=by unfold adL;rw[QaQ]
theorem Yo (ls:YU) (ps:List Place):CG (ls++[ps])=CG ls++adL ps:=by unfold CG;rw[QaQ];simp
theorem Vc (w:Int):∀ws:List Int,inV (.int w) (ws.map V.int)=decide (w∈ws)
 | []=>rfl
 | x::r=>by
  have ih:=Vc w r;unfold inV at ih ⊢;rw[Qcf,Qci,ih];have h2:eqV (.int x) (.int w)=decide (w=x):=by
   show (x == w)=decide (w=x);rw[QbR,beq_iff_eq,Qbe];exact⟨λh=>h.symm,λh=>h.symm⟩
  rw[h2,QbR,Bool.or_eq_true,Qbe,Qbe,Qbe,Qce]
def Ey (p:Int):Prop:=p=1\/p=2\/p=4\/p=5\/p=7\/p=8\/p=10\/p=13\/p=98
def PB (r sd:Int) (n:Nat):List Int:=(List.range n).map λk:Nat=>(r+sd*(0+(k:Int))) % 99+1
theorem nZ (r sd:Int) (n:Nat):PB r sd (n+1)=PB r sd n++[(r+sd*(0+(n:Int))) % 99+1]:=by
 unfold PB;rw[List.range_succ,QbI];rfl
theorem xP (r sd:Int) (n:Nat):∀x∈PB r sd n,1<=x/\x<=99:=λx hx=>by
 obtain⟨k,_,rfl⟩:=Qcn.mp hx;have h1:=QbV (r+sd*(0+(k:Int))) (show (99:Int)≠0 by decide);have h2:=Qbh (r+sd*(0+(k:Int))) (show (0:Int) < 99 by decide);omega
theorem xO {r sd:Int} (h:Ey sd):(PB r sd 30).Nodup:=by
 unfold PB;refine Qbv.mpr ?_;refine List.Pairwise.imp_of_mem (λ{i j} hi hj hlt=>?_) (List.pairwise_lt_range (n:=30));have hi:=Qcb.mp hi;have hj:=Qcb.mp hj;intro e;unfold Ey at h;rcases h with rfl | rfl | rfl | rfl | rfl | rfl | rfl | rfl | rfl <;> omega
theorem eY:∀{ds:List Dev},(Iu ds).Sublist (ds.map (·.addr))
 | ds=>by unfold Iu;exact List.Sublist.map _ (List.filter_sublist ..)
theorem Zc {p:Place} (h:OkP p):(Iu (FP p)).Sublist (adP p):=by
 rcases h.form with⟨f1,f2,f3⟩| f1
 ·have e:adP p=[]:=if_pos (by rw[f1]);have e2:Iu (FP p)=[]:=by
   unfold FP Iu;rw[f3,f1];have:Ew "opener"=false:=by trivial
   rw[Qat (by rw[this];decide)];rfl
  rw[e,e2];exact .slnil
 ·have e:adP p=(FP p).map (·.addr):=if_neg (V4 f1);rw[e];exact eY
theorem UG:∀{ps:List Place},(∀p∈ps,OkP p)->(Jm ps).Sublist (adL ps)
 | [],_=>.slnil
 | p::r,h=>by
  have e1:Jm (p::r)=Iu (FP p)++Jm r:=by unfold Jm;rw[Qbr]
  have e2:adL (p::r)=adP p++adL r:=by unfold adL;rw[Qbr]
  rw[e1,e2];exact (Zc (h p (QaV ..))).append (UG λq hq=>h q (QaJ _ hq))
theorem Ro:∀{ls:YU},(∀ps∈ls,OkL ps)->(Fd ls).Sublist (CG ls)
 | [],_=>.slnil
 | ps::r,h=>by
  have e1:Fd (ps::r)=Jm ps++Fd r:=by unfold Fd;rw[Qbr]
  have e2:CG (ps::r)=adL ps++CG r:=by unfold CG;rw[Qbr]
  rw[e1,e2];exact (UG (h ps (QaV ..)).ok).append (Ro λq hq=>h q (QaJ _ hq))
theorem gZ {ps:List Place}:∀(ja:YU),ps∈ja->(adL ps).length<=(CG ja).length
 | [],h=>by cases h
 | a::r,h=>by
  have e:CG (a::r)=adL a++CG r:=by unfold CG;rw[Qbr]
  rw[e,QaU];rcases Qce.mp h with rfl | h
  ·omega
  ·have:=gZ r h;omega
structure Q8 (ws:List Int) (ts:List Int) (jn:List Zone) (ys:YF):Prop where
 nd:(jn.flatMap (·.adr)++ts).Nodup
 sub:∀x∈jn.flatMap (·.adr)++ts,x∈ws
 up:∀z∈jn,z.adr.Pairwise (· < ·)/\1<=z.adr.length/\z.adr.length<=30
 nm:(jn.map (·.name)).Sublist ys
theorem Q8.next {ws ts ms ss:List Int} {jn:List Zone} {ys:YF} {y:Str} (h:Q8 ws ts jn ys) (hp:ms.Perm ss) (hsub:ss.Sublist ts) (hr:ms.Pairwise (·<=·)) (h30:ms.length<=30) (y1:1<=ms.length):Q8 ws (ts.filter λx=>!decide (x∈ms)) (jn++[⟨y,ms⟩]) (ys++[y]):=by
 obtain⟨n1,n2,n3⟩:=Qbw.mp h.nd;have nms:ms.Nodup:=hp.nodup_iff.mpr (hsub.nodup n2);have hin:∀x∈ms,x∈ts:=λx hx=>hsub.subset (hp.mem_iff.mp hx);have e:(jn++[(⟨y,ms⟩ : Zone)]).flatMap (·.adr)=jn.flatMap (·.adr)++ms:=by rw[QaQ];simp
 refine⟨?_,λx hx=>?_,λz hz=>?_,?_⟩
 ·rw[e,Qbw];refine⟨Qbw.mpr ⟨n1,nms,λa ha b hb=>n3 a ha b (hin b hb)⟩,n2.filter _,λa ha b hb=>?_⟩;obtain⟨hb1,hb2⟩:=QbO.mp hb;rcases QbJ.mp ha with ha | ha
  ·exact n3 a ha b hb1
  ·rintro rfl;rw[QbY ha] at hb2;cases hb2
 ·rw[e] at hx;rcases QbJ.mp hx with hx | hx
  ·rcases QbJ.mp hx with hx | hx
   ·exact h.sub x (QaK _ hx)
   ·exact h.sub x (QaE _ (hin x hx))
  ·exact h.sub x (QaE _ (QbO.mp hx).1)
 ·rcases QbJ.mp hz with hz | hz
  ·exact h.up z hz
  ·have:z=⟨y,ms⟩:=by simpa using hz
   rw[this];refine⟨?_,y1,h30⟩;refine List.Pairwise.imp₂ (S:=λa b:Int=>a≠b) (λa b h1 h2=>by omega) hr nms
 ·rw[QbI];exact h.nm.append (List.Sublist.refl _)
theorem Q8.none {ws ts:List Int} {jn:List Zone} {ys:YF} {y:Str} {g:Int->Bool} (h:Q8 ws ts jn ys):Q8 ws (ts.filter g) jn (ys++[y]):=by
 obtain⟨n1,n2,n3⟩:=Qbw.mp h.nd;refine⟨Qbw.mpr ⟨n1,n2.filter _,λa ha b hb=>n3 a ha b (QbO.mp hb).1⟩,λx hx=>?_,h.up,h.nm.trans (List.sublist_append_left ..)⟩;rcases QbJ.mp hx with hx | hx
 ·exact h.sub x (QaK _ hx)
 ·exact h.sub x (QaE _ (QbO.mp hx).1)
section
variable {P:Program} {w:World} {K:YD} {mg:YB} {base:Heap}
abbrev xm:YF:=["_law_other","_law_number"]
abbrev xF:YF:=["_law_k","_law_start","_law_stride"]
abbrev xI:YF:=["_law_number","_law_bag_here"]
theorem xG (C:Code K mg "_law_plan" Kw N7) (T:Nm mg) (Br:Good P w K mg base "_law_take" 1 GX Qe) (bZ:Good P w K mg base "_law_loop" 2 Oa mG) (o9:Good P w K mg base "_law_parts" 1 Ly Zu) (pq:Good P w K mg base "_law_names" 3 Lz fW) :
  Good P w K mg base "_law_plan" 4 N7 mC:=by
 refine C.good Ca (λvs H Q E h=>?_) (λf cdv A outer s H vs Q E hr h=>?_)
 ·obtain⟨b,n,ml,mp,rfl,_⟩:=h;rfl
 obtain⟨b,n,ml,mp,rfl,hb,hn,N9,hml,Iq,hmp,q⟩:=h;refine⟨_,(Ae (Bb (i:=3) Ca.nd rfl (Or.inr rfl) (Ay Br hr (Aa (pv 0) (Aa Af Ac))))
 (Ae (Bb (i:=4) Ca.nd rfl (Or.inr rfl) (Bm Df (@Ce _ _ _ _ (@Aa _ _ _ _ _ (@Af _ _ _ _) (@Aa _ _ _ _ _ (@Af _ _ _ _) (@Aa _ _ _ _ _ (@Af _ _ _ _) (@Aa _ _ _ _ _ (@Af _ _ _ _) (@Aa _ _ _ _ _ (@Af _ _ _ _) (@Aa _ _ _ _ _ (@Af _ _ _ _) (@Aa _ _ _ _ _ (@Af _ _ _ _) (@Aa _ _ _ _ _ (@Af _ _ _ _) (@Aa _ _ _ _ _ (@Af _ _ _ _) (@Ac _) BR) BR) BR) BR) BR) BR) BR) BR) BR)) (Ay Br hr (Aa (pv 0) (Aa Af Ac))) (λ_ _=>rfl)))
 (Ae (W0 (i:=5) Ca.nd rfl (Or.inl rfl) (N':=xF) rfl (Bo.of (src:=[none,some 3,some 4]) (Ak Kw) xj rfl rfl rfl (by trivial) (by trivial) (by trivial) rfl (by trivial)) (CT rfl T.range (Aa Af Ac)) (λ_ _ _ _=>(Aj (i:=0) (show List.Nodup (xF:YF) by trivial) rfl (Or.inl rfl))) (λ_ _ _ _=>Di) (λ_ _ _ _=>(Bj Cg (Bj Mg (Bj Cg (pv 1) (Bj Ia (pv 2) (pv 0))) Af) Af)))
 (Ae (Bb (i:=6) Ca.nd rfl (Or.inl rfl) (Cw Qar PySem.F.slot_list_pop PySem.F.type_list_pop bD (pv 5) (Aa Af Ac)))
 (Ae (Bb (i:=7) Ca.nd rfl (Or.inl rfl) (Bg Ac))
 (Ae (PS.weak (t':=za) (BX (Bs QG (Ay Br hr (Aa (pv 0) (Aa Af Ac))) Af (Bq _)) (Ah (Bb (i:=7) Ca.nd rfl (Or.inl rfl) (Ay bZ hr (Aa (pv 0) (Aa (pv 5) (Aa (Bj aO (pv 2) Af) Ac)))))) Bv) (λD U H h=>by
    obtain⟨b,nb,f0,n,mp,ns,e0,e5,e2,e7,hf0,hb,hn,nbn,hnb,hmp,NV,hns,q⟩:=h;refine⟨_,e0,b,n,8,rq,hb,by omega,by decide,by decide,λr H1 r0 r1 hb1 sb1=>⟨_,_,rq,rq,_,rq,Ig (λ_=>?_) (λ_=>?_)⟩⟩
    ·refine⟨_,e0,_,e5,_,e2,_,_,rq,rq,b,nb,n+1,mp - 1,ns,?_,hb1,by omega,nbn,sb1 _ _ hnb nbn.symm,by omega,by omega,hns,λt ps ns' H2 ⟨t',vs,et,ht,hp⟩ hok h1 h2 hns' hnb' hb2 s2=>?_⟩
     ·show [V.ref b,.ref nb,.int ((mp:Int) - 1)]++[]=_;rw[show ((mp:Int) - 1)=((mp - 1:Nat):Int) by omega];rfl
     ·cases et;exact q t vs ps ns' H2 ht hp hok (by omega) hns' hnb' (hb2.mono (by omega)) ((Dr.l sb1).trans s2)
    ·have q:=q f0 [] [] ns H1 (sb1.tup hb.Gj _ _ hf0) .nil (λp hp=>by cases hp) (by show 0+1<=mp;omega) rfl (sb1 _ _ hnb nbn.symm) (hb1.mono (by omega)) (Dr.l sb1);rw[zF e7] at q;exact q))
 (Ae (Bb (i:=8) Ca.nd rfl (Or.inl rfl) (Ay Br hr (Aa (pv 0) (Aa (Bj Cg (Az Bh rfl T.len Cu (Aa (pv 7) Ac)) Af) Ac))))
 (Ae (Bb (i:=9) Ca.nd rfl (Or.inl rfl) (Ce (Aa (Bj QH (Bj QH (KH Ww (pv 7) M9 (M8 (pv 8))) (Bg (Aa (Bg (Aa Bp (Aa (pv 6) (Aa (Bg Ac) Ac)))) Ac))) (KH Ww (pv 7) (M8 (pv 8)) M9)) Ac)))
 (Ae (Cd QbL rfl (CT rfl T.range (Aa (Ay Br hr (Aa (pv 0) (Aa (pv 1) Ac))) Ac)) (Aj (i:=10) Ca.nd rfl (Or.inl rfl))
 (Ah (Bk (Cw Qar Qan Qao Ci (pv 9) (Aa (Ay bZ hr (Aa (pv 0) (Aa (pv 5) (Aa (pv 2) Ac)))) Ac)))))
 (Ae (Bb (i:=11) Ca.nd rfl (Or.inl rfl) (Az (Yi rfl) rfl T.max cN (Aa (Cq (N':=Ly) rfl (Bo.plain rfl (by trivial) (by trivial) (by trivial)) (Du (pv 9)) (λ_ _ _ _=>(Aj (i:=0) (show List.Nodup (Ly:YF) by trivial) rfl (Or.inl rfl))) (λ_ _ _ _=>Di) (λ_ _ _ _=>(Az (kE (K:=K) rfl rfl) rfl T.max cN (Aa (Ay o9 hr (Aa (pv 0) Ac)) Ac)))) Ac)))
 (Ae (Bb (i:=12) Ca.nd rfl (Or.inl rfl) (Ce Ac))
 (Ae (Cd QbL rfl (Du (pv 9)) (Aj (i:=13) Ca.nd rfl (Or.inl rfl))
 (Ah (Cd QbL rfl (Fp (pv 13)) (CQ rfl (Aq (Aj (i:=14) Ca.nd rfl (Or.inl rfl)) (Aq (Aj (i:=15) Ca.nd rfl (Or.inl rfl)) (Aq (Aj (i:=16) Ca.nd rfl (Or.inl rfl)) Bt))))
 (Ah (Bk (Cw Qar Qap Qaq Fo (pv 12) (Aa (Cq (N':=xm) rfl (Bo.plain rfl (by trivial) (by trivial) (by trivial)) (Fp (Bj QH (Bg (Aa (Bg (Aa (pv 14) (Aa (pv 15) Ac))) Ac)) (pv 16))) (λ_ _ _ _=>(FW (K:=K) (n:=2) rfl rfl (Aq (Aj (i:=0) (show List.Nodup (xm:YF) by trivial) rfl (Or.inl rfl)) (Aq (Aj (i:=1) (show List.Nodup (xm:YF) by trivial) rfl (Or.inl rfl)) Bt)))) (λ_ _ _ _=>(Gy (Bs (VJ (K:=K) rfl) (pv 0) (Bg (Aa Bp (Aa Bp Ac))) (by with_unfolding_all rfl)))) (λ_ _ _ _=>(pv 1))) Ac)))))))
 (Ae (Bb (i:=17) Ca.nd rfl (Or.inl rfl) (Ce Ac))
 (Ae (Bb (i:=18) Ca.nd rfl (Or.inl rfl) (Ay pq hr (Aa (pv 0) (Aa (Ay Br hr (Aa (pv 0) (Aa Af Ac))) Ac))))
 (Ae (Cd QbL rfl (Du (pv 18)) (Aj (i:=19) Ca.nd rfl (Or.inl rfl))
 (Ae (Bb (i:=20) Ca.nd rfl (Or.inr rfl) (Az cJ rfl T.sorted SN (Aa (Cq (N':=xI) rfl (Bo.of (src:=[none,some 0]) (Ak Kw) xj rfl rfl rfl (by trivial) (by trivial) (by trivial) rfl (by trivial)) (Du (pv 12)) (λ_ _ _ _=>(Aj (i:=0) (show List.Nodup (xI:YF) by trivial) rfl (Or.inl rfl))) (λ_ _ _ _=>(Gy (Bs Eu (Ay Br hr (Aa (pv 1) (Aa Af Ac))) Af (Bq _)))) (λ_ _ _ _=>(pv 0))) Ac)))
 (Ae (W0 (i:=12) Ca.nd rfl (Or.inl rfl) (N':=["_law_number","_law_some"]) rfl (Bo.of (src:=[none,some 20]) (Ak Kw) xj rfl rfl rfl (by trivial) (by trivial) (by trivial) rfl (by trivial)) (Du (pv 12)) (λ_ _ _ _=>(Aj (i:=0) (show List.Nodup (["_law_number","_law_some"]:YF) by trivial) rfl (Or.inl rfl))) (λ_ _ _ _=>(Gy (Bs (Rb (K:=K) rfl) (pv 0) (pv 1) (by with_unfolding_all rfl)))) (λ_ _ _ _=>(pv 0)))
 (Ah (BX (Bs QG (Az Bh rfl T.len Cu (Aa (pv 20) Ac)) Af (Bq _)) (Ah (Bk (Cw Qar Qan Qao Ci (pv 17) (Aa (Bg (Aa (pv 19) (Aa (Eb Hi rfl T.tuple K1 (Aa (pv 20) Ac)) Ac))) Ac)))) Bv)))))
 (Ah (Bc (Bg (Aa (Az (Ml rfl) rfl T.min SQ (Aa Af (Aa (Bj Cg (pv 11) (Ay Br hr (Aa (pv 0) (Aa Af Ac)))) Ac))) (Aa (Eb Hi rfl T.tuple K1 (Aa (pv 9) Ac)) (Aa (Eb Hi rfl T.tuple K1 (Aa (pv 17) Ac)) Ac))))))))))))))))))))),?_⟩
 show let R0:TS:=_;let R1:TS:=_;let R2:TS:=FQ _ R1 _;let R3:TS:=Al _ R2;let R4:TS:=Al _ R3;let R5:TS:=Al (Dg _ _ R4) R0;let R6:TS:=Al _ R5;let R7:TS:=Al _ R6;let R8:TS:=_;let R9:TS:=Dg _ _ R8;let R10:TS:=Al (Dg _ _ R9) R7;let R11:TS:=Al _ R10;let R12:TS:=Al _ R11;let R13:TS:=_;let R14:TS:=Al (Dg _ _ R13) R12;let R15:TS:=Al _ R14;let R16:TS:=Al _ R15;let R17:TS:=Al _ R16;let R18:TS:=Al _ R17;let R19:TS:=Al _ R18;let R20:TS:=Al _ R19;let R21:TS:=Al _ R20;Al _ R21 _ _ _;intro R0 R1 R2 R3 R4 R5 R6 R7 R8 R9 R10 R11 R12 R13 R14 R15 R16 R17 R18 R19 R20 R21;generalize hst:L2.start _ _=σ0;have e0:σ0=[jp b,some (.int ml),some (.int mp),none,none,none,none,none,none,none,none,none,none,none,none,none,none,none,none,none,none]:=hst.symm;clear hst;subst e0;refine⟨_,rq,b,n,99,rq,hb,by omega,by decide,by decide,λr1 H1 r10 r11 hb1 sb1=>?_⟩;simp only[QaY,QaX];refine⟨Av (by show 9<=1000;decide),λl9 hl9=>?_⟩;have s9:=Ag hl9 (.lst [.int 1,.int 2,.int 4,.int 5,.int 7,.int 8,.int 10,.int 13,.int 98]);refine⟨_,rq,b,_,9,rq,hb1.same s9,by omega,by decide,by decide,λr2 H2 r20 r21 hb2 sb2=>?_⟩;obtain⟨sd,esd,⟨sd0,sd1⟩,sdk⟩:=Me r20 r21 (a:=1) (b:=2) (c:=4) (d:=5) (e:=7) (f:=8) (g:=10) (h:=13) (k:=98) (λp=>(0<=p/\p<=98)/\Ey p) (by unfold Ey;decide) (by unfold Ey;decide) (by unfold Ey;decide) (by unfold Ey;decide) (by unfold Ey;decide) (by unfold Ey;decide) (by unfold Ey;decide) (by unfold Ey;decide) (by unfold Ey;decide);refine⟨l9,_,_,_,rq,rq,SqL.of (sb2 _ _ Ab (hb1.nb hl9).symm),esd,?_⟩;simp only[QaY,QaX];have sB2:Ai b H H2:=(sb1.trans (Ai.of s9)).trans sb2;refine⟨_,rq,by decide,by decide,λnb um=>?_⟩;have nbn:b≠nb:=hb2.nb um;have fnb:H nb=none:=sB2.free hb2.ex um;let J0:YN:=λi U HH=>∃(u:Option V) (ns:List Int),U=[u,some (.int r1),some (.int sd)]/\HH=upd H2 nb (.lst (ns.map V.int))/\ns=PB r1 sd i;refine Kp J0 ⟨none,[],rq,rq,rq⟩ (λi U HH hi h=>?_) (fun U HH h=>?_)
 ·obtain⟨u,ns,rfl,rfl,e1⟩:=h;have hi:i < 30:=hi;have e1l:ns.length=i:=by rw[e1];unfold PB;rw[QbH,Qbu]
  refine⟨_,rq,_,rq,_,rq,_,_,rq,rq,.inl ⟨by omega,by omega⟩,_,_,rq,rq,_,_,rq,rq,(by show (0:Int) < 99;decide),_,_,rq,rq,_,Ab,Ar (by rw[QbH];omega),_,ns++[(r1+sd*(0+(i:Int))) % 99+1],rq,?_,by rw[nZ,e1]⟩;rw[Te,QbI];rfl
 obtain⟨u,tD,rfl,rfl,e30⟩:=h;have uN:tD=PB r1 sd 30:=e30;have e30:tD.length=30:=by rw[uN];unfold PB;rw[QbH,Qbu]
 simp only[QaY,QaX];cases tD with
 | nil=>cases e30
 | cons own Iv=>
 have e29:Iv.length=29:=by simpa using e30
 have Co:(own::Iv).Nodup:=by rw[uN];exact xO sdk
 have Cs:∀x∈own::Iv,1<=x/\x<=99:=by rw[uN];exact xP r1 sd 30
 have sN:=Ag um (.lst ((own::Iv).map V.int));refine⟨_,rq,.inl ⟨rq,_,SqL.of Ab⟩,nb,_,0,0,.int own,rq,rq,Ab,by decide,by decide,mL (by rw[QbH];show 0 < _+1;omega),rq,?_⟩;simp only[QaY,QaX];have AV:upd (upd H2 nb (.lst ((own::Iv).map V.int))) nb (.lst (((own::Iv).map V.int).eraseIdx 0)) nb=some (.lst (Iv.map V.int)):=by rw[Ab];rfl
 have hb4:BP (upd (upd H2 nb (.lst ((own::Iv).map V.int))) nb (.lst (((own::Iv).map V.int).eraseIdx 0))) b (n+1+1):=(hb2.same sN).Ep Ai.upd nbn;have sB4:Ai b H (upd (upd H2 nb (.lst ((own::Iv).map V.int))) nb (.lst (((own::Iv).map V.int).eraseIdx 0))):=Ai.Qu (sB2.trans (Ai.of sN)) Ai.upd fnb;generalize upd (upd H2 nb (.lst ((own::Iv).map V.int))) nb (.lst (((own::Iv).map V.int).eraseIdx 0))=H4 at AV hb4 sB4;refine⟨Av (by show 0<=1000;decide),λf0 hf0=>?_⟩;simp only[QaY,QaX];have s5:=Ag hf0 (.tup []);refine⟨b,nb,f0,_,mp,Iv,rq,rq,rq,rq,Ab,hb4.same s5,by omega,nbn,s5 _ _ AV,Iq,hmp,by omega,λft fv fp ns1 H5 hft hfp A2 hfl HP Ic hb5 s45=>?_⟩;simp only[QaY,QaX];have sB5:Ai b H H5:=λc o e nc=>s45 _ _ (s5 _ _ (sB4 _ _ e nc)) nc (λz=>by rw[z,fnb] at e;cases e);have lfv:=Qcd hfp;refine⟨_,rq,_,rq,ft,_,rq,.inr (SqT.of hft),_,_,rq,rq,b,_,_,rq,hb5,by omega,by omega,by omega,λr4 H6 r40 r41 hb6 sb6=>?_⟩;simp only[QaY,QaX];obtain⟨an,han⟩ : ∃an:Nat,r4=an:=⟨r4.toNat,by omega⟩;subst han;have A0:=(sb6.tup hb5.Gj) _ _ hft;have A1:=Pn.tups (sb6.tup hb5.Gj) hfp;have AU:=sb6 _ _ Ic nbn.symm;have sB6:=sB5.trans sb6;refine⟨_,rq,_,rq,_,rq,ft,fv,rq,A0,λp1 H7 hp1 s7=>?_⟩;rw[BC (by omega)] at hp1;refine⟨_,rq,Av (by show 0<=1000;decide),λe0 he0=>⟨Av (by show 3<=1000;decide),λt3 ht3=>⟨Av (by show 1<=1000;decide),λt1 ht1=>?_⟩⟩⟩;have q1:=Ag he0 (.tup []);have q2:=Ag ht3 (.tup [.str "seeker",.int own,.ref e0]);have q3:=Ag ht1 (.tup [.ref t3]);have q13:=(q1.trans q2).trans q3;have hown:Ea (upd (upd (upd H7 e0 (.tup [])) t3 (.tup [.str "seeker",.int own,.ref e0])) t1 (.tup [.ref t3])) (.ref t3) ⟨"seeker",own,[]⟩:=⟨t3,e0,[],rq,q3 _ _ Ab,q3 _ _ (q2 _ _ Ab),.nil⟩;refine⟨p1,t1,_,_,rq,rq,q13 _ _ hp1,Ab,Av (by rw[Qbz];show _+1<=1000;omega),λp2 H8 hp2 s8=>?_⟩;have s68:=(s7.trans q13).trans s8;refine⟨_,rq,_,rq,_,rq,ft,fv,rq,s68 _ _ A0,λp3 H9 hp3 s9'=>?_⟩;rw[Vk (by omega)] at hp3;refine⟨p2,p3,_,_,rq,rq,s9' _ _ hp2,hp3,Av (by rw[QaU,Qbz,QbC];show _+1+_<=1000;omega),λp4 H10 hp4 s10=>⟨Av (by show 1<=1000;decide),λll hll=>?_⟩⟩;simp only[QaY,QaX];have Z4:=(s68.trans s9').trans s10;have s11:=Ag hll (.lst [.ref p4]);have Z2:=Z4.trans s11;have hL0:LoopAt (upd H10 ll (.lst [.ref p4])) (.ref p4) ((fp.take an++[⟨"seeker",own,[]⟩])++fp.drop an):=by
  refine⟨p4,_,rq,s11 _ _ hp4,Paired.app (Paired.app (Pn.tups (Am.of Z2) (Paired.vm an A1)) (.cons ?_ .nil)) (Pn.tups (Am.of Z2) (Paired.vZ an A1))⟩;exact hown.tups (Am.of (((s8.trans s9').trans s10).trans s11))
 have Ap:OkL ((fp.take an++[⟨"seeker",own,[]⟩])++fp.drop an):=by
  refine⟨?_,?_,λp hp=>?_⟩
  ·rw[QaU,QaU];show 1<=_+1+_;omega
  ·rw[QaU,QaU,Qbz,QbC];show _+1+_<=12;omega
  ·rcases QbJ.mp hp with z | z
   ·rcases QbJ.mp z with z | z
    ·exact A2 p (List.mem_of_mem_take z)
    ·have:p=⟨"seeker",own,[]⟩:=by simpa using z
     rw[this];exact⟨by show 0<=3;decide,(λd hd=>by cases hd),.inr (.inl rfl)⟩
   ·exact A2 p (List.mem_of_mem_drop z)
 have pm0:(adL ((fp.take an++[⟨"seeker",own,[]⟩])++fp.drop an)++ns1).Perm (own::Iv):=by
  have h2:adL fp=adL (fp.take an)++adL (fp.drop an):=by rw[<-Nh,List.take_append_drop]
  have h3:adL [(⟨"seeker",own,[]⟩ : Place)]=[own]:=by
   have:adP ⟨"seeker",own,[]⟩=[own]:=if_neg (V4 (.inl rfl));show [(⟨"seeker",own,[]⟩ : Place)].flatMap adP=[own];simp[this]
  rw[Nh,Nh,h3,HP,h2,Qbm,Qbm,Qbm];exact (List.perm_middle (l₁:=adL (fp.take an)) (a:=own) (l₂:=adL (fp.drop an)++ns1))
 have Da:1<=(adL ((fp.take an++[⟨"seeker",own,[]⟩])++fp.drop an)).length:=by
  have h3:adL [(⟨"seeker",own,[]⟩ : Place)]=[own]:=by
   have:adP ⟨"seeker",own,[]⟩=[own]:=if_neg (V4 (.inl rfl));show [(⟨"seeker",own,[]⟩ : Place)].flatMap adP=[own];simp[this]
  rw[Nh,Nh,h3,QaU,QaU];show 1<=_+1+_;omega
 generalize Os:(fp.take an++[⟨"seeker",own,[]⟩])++fp.drop an=L0 at hL0 Ap pm0 Da;have hbL:BP (upd H10 ll (.lst [.ref p4])) b (n+1+1+101+1):=hb6.same Z2;have AT:=Z2 _ _ AU;have sBL:Ai b H (upd H10 ll (.lst [.ref p4])):=sB6.trans (Ai.of Z2);have AX:upd H10 ll (.lst [.ref p4]) ll=some (.lst [.ref p4]):=Ab;have fll:H ll=none:=(sB6.trans (Ai.of Z4)).free (hb6.same Z4).ex hll;have nbl:b≠ll:=(hb6.same Z4).nb hll;have nnl:nb≠ll:=Aw (Z4 _ _ AU) hll;generalize upd H10 ll (.lst [.ref p4])=HL at hL0 hbL AT sBL AX;refine⟨_,rq,_,rq,b,_,_,rq,hbL,by omega,by omega,by omega,λr5 HM r50 r51 hbM sbM=>⟨_,rq,by omega,by omega,?_⟩⟩;obtain⟨lnn,Ix⟩ : ∃lnn:Nat,r5=lnn:=⟨r5.toNat,by omega⟩;subst Ix;rw[Qbo];have tM:=sbM.tup hbL.Gj;have D9:∀ps∈[L0],OkL ps:=λps hps=>by
  have:ps=L0:=by simpa using hps
  rw[this];exact Ap
 let J1:YN:=λi U HH=>∃(u10:Option V) (vs:YG) (ja:YU) (ns':List Int),U=[jp b,some (.int ml),some (.int mp),some (.int r1),some (.int sd),jp nb,some (.int own),jp ft,some (.int (an:Int)),jp ll,u10,none,none,none,none,none,none,none,none,none,none]/\HH ll=some (.lst vs)/\Paired (LoopAt HH) vs ja/\ja.length=1+i/\(∀ps∈ja,OkL ps)/\((CG ja++ns').Perm (own::Iv)/\∃L,ja=L0::L)/\HH nb=some (.lst (ns'.map V.int))/\BP HH b (n+105+101*i)/\Ai b H HH;refine Ec J1
  ⟨_,[.ref p4],[L0],ns1,rq,sbM _ _ AX nbl.symm,.cons (hL0.tups tM) .nil,rq,D9,⟨(by show ([L0].flatMap adL++_).Perm _;simpa using pm0),[],rq⟩,sbM _ _ AT nbn.symm,hbM.mono (by omega),sBL.trans sbM⟩ (λi U HH hi h=>?_) (fun U HH h=>?_)
 ·obtain⟨u10,vs,ja,ns',rfl,e1,e2,e3,e4,⟨e5p,Lr,hLr⟩,e6,e7,e8⟩:=h;have e5:(CG ja).length+ns'.length=30:=by
   have:=e5p.length_eq;rw[QaU,Qby,e29] at this;exact this
  simp only[QaY,QaX];refine⟨_,rq,.inl ⟨rq,_,SqL.of e1⟩,_,rq,_,rq,_,rq,b,nb,_,mp,ns',rq,e7,by omega,nbn,e6,by omega,by omega,by omega,λt ps Ev H' hL hok h1 h2 hns hnb' hb' s2=>?_⟩;have e1':=s2 _ _ e1 nbl.symm nnl.symm;have t2:Am HH H':=λc xs e=>s2 _ _ e (λz=>e7.Gj _ (z ▸ e)) (λz=>by rw[z,e6] at e;cases e);refine⟨ll,_,_,rq,rq,e1',Ar (by rw[Qcd e2];omega),?_⟩;have tv0:∀zs,H' ll≠some (.tup zs):=λzs z=>by rw[e1'] at z;cases z
  have tv:=Am.upd (o:=.lst (vs++[.ref t])) tv0;refine⟨_,vs++[.ref t],ja++[ps],Ev,rq,Ab,Qcy (hL.tups tv) (Ln.tups tv (Ln.tups t2 e2)),by rw[QaU,e3];show _+1=_;omega,λp hp=>?_,?_,by rw[Ao nnl];exact hnb',(hb'.Ep Ai.upd nbl).mono (by omega),λc o e nc=>?_⟩
  ·rcases QbJ.mp hp with z | z
   ·exact e4 p z
   ·have:p=ps:=by simpa using z
    rw[this];exact⟨h1,by omega,hok⟩
  ·refine⟨?_,Lr++[ps],by rw[hLr];rfl⟩;rw[Yo,Qbm,<-hns];exact e5p
  ·rw[Ao (λz=>by rw[z,fll] at e;cases e)];exact s2 _ _ (e8 _ _ e nc) nc (λz=>by rw[z,fnb] at e;cases e)
 obtain⟨u10,vs,ja,ns',rfl,e1,e2,e3,e4,⟨e5p,oU⟩,e6,e7,e8⟩:=h;have e5:(CG ja).length+ns'.length=30:=by
  have:=e5p.length_eq;rw[QaU,Qby,e29] at this;exact this
 have lvs:=Qcd e2;have ndA:(CG ja).Nodup:=(Qbw.mp (e5p.nodup_iff.mpr Co)).1;have bdA:∀x∈CG ja,1<=x/\x<=99:=λx hx=>Cs x (e5p.mem_iff.mp (QaK _ hx));have yP:=Ro e4;refine⟨_,rq,ll,rq,⟨_,SqL.of e1⟩,λlm hlm=>?_⟩;have nlm:ll≠lm:=Aw e1 hlm;let J2:YN:=λi U H'=>∃(u:Option V) (ms:List Int),U=[u]/\H' lm=some (.lst (ms.map V.int))/\ms.length=i/\Same HH H'/\∀ps∈ja.take i,∀m∈Hv ps,∃M∈ms,m<=M;refine Gg (xs:=vs) J2 ⟨none,[],rq,Ab,rq,Ag hlm _,(λps hps=>by cases hps)⟩ (λi U H' _ h=>?_) (λi x U H' hx h=>?_) (fun U H' h=>?_)
 ·obtain⟨u,ms,rfl,m1,m2,m3,m4⟩:=h;exact SqL.of (m3 _ _ e1)
 ·obtain⟨u,ms,rfl,m1,m2,m3,m4⟩:=h;obtain⟨ps,hps,hL⟩:=Paired.Ck e2 hx;obtain⟨tx,wx,rfl,hx1,hx2⟩:=id hL;have okl:=e4 ps (QaI hps);refine⟨_,rq,tx,ps,rq,hL.tups (Am.of m3),okl.ok,by have:=okl.hi;omega,λlq H'' hq s'=>⟨lq,Hv ps,rq,SqL.of hq,(by unfold Hv;rw[QaU];show 0 < _+1;omega),λM hMi hMm=>?_⟩⟩;have hi:=(Qah.mp hx).1;refine⟨_,s' _ _ m1,Ar (by rw[QbH];omega),_,ms++[M],rq,by rw[Ab,QbI];rfl,by rw[QaU,m2];rfl,(m3.trans s').Bl Ai.upd hlm,λqs hqs m hm=>?_⟩;rw[QcE hps] at hqs;rcases QbJ.mp hqs with hqs | hqs
  ·obtain⟨M',h1,h2⟩:=m4 qs hqs m hm;exact⟨M',QaK _ h1,h2⟩
  ·have:qs=ps:=by simpa using hqs
   rw[this] at hm;exact⟨M,QaE _ (QaV ..),hMm m hm⟩
 obtain⟨u,ms,rfl,m1,m2,m3,m4⟩:=h;refine⟨lm,ms,rq,SqL.of m1,by omega,λM hMi hMm=>?_⟩;have AC:∀ps∈ja,∀m∈Hv ps,m<=M:=λps hps m hm=>by
  obtain⟨M',h1,h2⟩:=m4 ps (by rw[lvs,Qbx];exact hps) m hm;have:=hMm M' h1;omega
 simp only[QaY,QaX];have e1:=m3 _ _ e1;have e2:=Ln.tups (Am.of m3) e2;have e7:=e7.same m3;have e8:=e8.trans (Ai.of m3);clear m1 m2;refine⟨Av (by show 0<=1000;decide),λlt hlt=>?_⟩;simp only[QaY,QaX];have sT:=Ag hlt (.lst []);have nbt:b≠lt:=e7.nb hlt;refine⟨_,rq,ll,rq,⟨_,SqL.of (sT _ _ e1)⟩,?_⟩;let J3:YN:=λi U HT=>∃(u13 u14 u15 u16:Option V) (ts:List Int),U=[jp b,some (.int ml),some (.int mp),some (.int r1),some (.int sd),jp nb,some (.int own),jp ft,some (.int (an:Int)),jp ll,u10,some (.int M),jp lt,u13,u14,u15,u16,none,none,none,none]/\HT lt=some (.lst (ts.map V.int))/\ts=Fd (ja.take i)/\Same H' HT;refine QW (xs:=vs) J3 ⟨_,_,_,_,[],rq,Ab,rq,sT⟩ (λi U HT _ h=>?_) (λi x U HT hx h=>?_) (fun U HT h=>?_)
 ·obtain⟨u13,u14,u15,u16,ts,rfl,t1,t2,t3⟩:=h;exact SqL.of (t3 _ _ e1)
 ·obtain⟨u13,u14,u15,u16,ts,rfl,t1,t2,t3⟩:=h;simp only[QaY,QaX];obtain⟨ps,hps,hL⟩:=Paired.Ck e2 hx;obtain⟨tx,wx,rfl,hx1,hx2⟩:=id hL;have okl:=e4 ps (QaI hps);have lwx:=Qcd hx2;have etk:CG (ja.take (i+1))=CG (ja.take i)++adL ps:=by rw[QcE hps,Yo]
  have tot:(CG (ja.take (i+1))).length<=30:=by
   have:CG ja=CG (ja.take (i+1))++CG (ja.drop (i+1)):=by unfold CG;rw[<-QaQ,List.take_append_drop]
   have h2:=congrArg List.length this;rw[QaU] at h2;omega
  rw[etk,QaU] at tot;have wle:(Fd (ja.take i)).length<=(CG (ja.take i)).length:=(Ro λqs hqs=>e4 qs (List.mem_of_mem_take hqs)).length_le;have wtk:Fd (ja.take (i+1))=Fd (ja.take i)++Jm ps:=by rw[QcE hps,iR]
  refine⟨_,rq,tx,rq,⟨_,SqT.of (t3 _ _ hx1)⟩,?_⟩;let J4:YN:=λj U HT=>∃(u14 u15 u16:Option V) (ts:List Int),U=[jp b,some (.int ml),some (.int mp),some (.int r1),some (.int sd),jp nb,some (.int own),jp ft,some (.int (an:Int)),jp ll,u10,some (.int M),jp lt,jp tx,u14,u15,u16,none,none,none,none]/\HT lt=some (.lst (ts.map V.int))/\ts=Fd (ja.take i)++Jm (ps.take j)/\Same H' HT;refine KY (xs:=wx) J4 ⟨_,_,_,ts,rq,t1,(by rw[t2];show _=_++[];rw[QbK]),t3⟩ (λj U HT _ h=>?_) (λj y U HT hy h=>?_) (fun U HT h=>?_)
  ·obtain⟨u14,u15,u16,ts,rfl,t1,t2,t3⟩:=h;exact SqT.of (t3 _ _ hx1)
  ·obtain⟨u14,u15,u16,ts,rfl,t1,t2,t3⟩:=h;obtain⟨p,hp,hP⟩:=Paired.Ck hx2 hy;obtain⟨tp,up,wp',rfl,hp1,hp2,hp3⟩:=hP.tups (Am.of t3);have okp:=okl.ok p (QaI hp);have etj:adL (ps.take (j+1))=adL (ps.take j)++adP p:=by rw[QcE hp,Vp]
   have tj:(adL (ps.take (j+1))).length<=(adL ps).length:=by
    have:adL ps=adL (ps.take (j+1))++adL (ps.drop (j+1)):=by rw[<-Nh,List.take_append_drop]
    have h2:=congrArg List.length this;rw[QaU] at h2;omega
   rw[etj,QaU] at tj;have wlj:(Jm (ps.take j)).length<=(adL (ps.take j)).length:=(UG λqs hqs=>okl.ok qs (List.mem_of_mem_take hqs)).length_le;have wtj:Jm (ps.take (j+1))=Jm (ps.take j)++Iu (FP p):=by rw[QcE hp,lH]
   have t2l:ts.length<=(CG (ja.take i)).length+(adL (ps.take j)).length:=by rw[t2,QaU];omega
   refine⟨tp,_,rq,SqT.of hp1,rq,_,_,rq,_,_,rq,_,_,rq,rq,?_⟩;simp only[QaY,QaX];refine⟨_,rq,.inl ⟨rq,_,SqL.of t1⟩,_,rq,_,rq,Av (by show 2<=1000;decide),λta hta=>⟨Av (by show 1<=1000;decide),λtb htb=>?_⟩⟩;have v1:=Ag hta (.tup [.str p.kind,.int p.addr]);have v2:=Ag htb (.tup [.ref ta]);have v12:=v1.trans v2;refine⟨_,rq,tb,up,_,_,rq,rq,Ab,v12 _ _ hp2,Av (by have:=okp.spur;show 1+_<=1000;rw[Qcd hp3];omega),λtc HC hC sC=>⟨tc,rq,⟨_,SqT.of hC⟩,λl hl=>?_⟩⟩;have vC:=v12.trans sC;have hds:Paired (Kq HC) ([.ref ta]++wp') (⟨p.kind,p.addr⟩::p.spur):=.cons ⟨ta,rq,sC _ _ (v2 _ _ Ab)⟩ (Paired.Ax hp3 λ_ _ z=>z.tups (Am.of vC));have lds:=Qcd hds;let J5:YN:=λk U H5=>∃(u v:Option V) (ys:List Int),U=[u,v]/\H5 l=some (.lst (ys.map V.int))/\ys=Iu ((FP p).take k)/\Same HC H5;refine Vl (xs:=[.ref ta]++wp') J5 ⟨none,none,[],rq,Ab,rq,Ag hl _⟩ (λk U H5 _ h=>?_) (λk x U H5 hk h=>?_) (fun U H5 h=>?_)
   ·obtain⟨u,v,ys,rfl,y1,y2,y3⟩:=h;exact SqT.of (y3 _ _ hC)
   ·obtain⟨u,v,ys,rfl,y1,y2,y3⟩:=h;obtain⟨d,hd,td,rfl,htd⟩:=Paired.Ck hds hk;have hkl:=(Qah.mp hd).1;have hsp:=okp.spur;have hkk:k < 4:=by rw[Qby] at hkl;omega
    have hdv:(FP p)[k]?=some d:=hd;have hws:Iu ((FP p).take (k+1))=Iu ((FP p).take k)++(if Ew d.kind=true then [d.addr] else []):=by rw[QcE hdv,lJ]
    have y2l:ys.length<=k:=by
     rw[y2];have:=(eY (ds:=(FP p).take k)).length_le;rw[QbH,Qbz] at this;omega
    refine⟨td,_,rq,SqT.of (y3 _ _ htd),rq,_,_,rq,_,_,rq,rq,?_⟩;refine⟨_,rq,Av (by show 2<=1000;decide),λtq htq=>?_⟩;have vq:=Ag htq (.tup [.str "seeker",.str "knob"]);refine⟨tq,_,rq,.inr (SqT.of Ab),rq,rq,_,rq,Ig (λcc=>?_) (λcc=>?_)⟩
    ·have cc:Ew d.kind=true:=cc;rw[if_pos cc] at hws;refine⟨_,rq,_,vq _ _ y1,Ar (by rw[QbH];omega),_,_,ys++[d.addr],rq,by rw[Ab,QbI];rfl,by rw[hws,y2],(y3.trans vq).Bl Ai.upd hl⟩
    ·have cc:¬Ew d.kind=true:=cc;rw[if_neg cc,QbK] at hws;refine⟨_,_,ys,rq,vq _ _ y1,by rw[hws];exact y2,y3.trans vq⟩
   obtain⟨u,v,ys,rfl,y1,y2,y3⟩:=h;have y2':ys=Iu (FP p):=by
    rw[y2,lds];congr 1;exact Qbx ..
   have y2l:ys.length<=(adP p).length:=by rw[y2'];exact (Zc okp).length_le
   have t1':=y3 _ _ (vC _ _ t1);refine⟨lt,l,_,_,rq,rq,t1',y1,Av (by rw[QbH,QbH];omega),?_⟩;refine⟨_,_,_,ts++ys,rq,by rw[Ab,QbI],?_,((t3.trans vC).trans y3).Bl Ai.upd hlt⟩;rw[wtj,t2,y2',Qbm]
  ·obtain⟨u14,u15,u16,ts,rfl,t1,t2,t3⟩:=h;rw[lwx,Qbx] at t2;exact⟨_,_,_,_,ts,rq,t1,by rw[wtk];exact t2,t3⟩
 obtain⟨u13,u14,u15,u16,ts,rfl,t1,t2,t3⟩:=h;rw[lvs,Qbx] at t2;have qM:ts.length<=30:=by rw[t2];have:=yP.length_le;omega
 have zk0:Q8 (Fd ja) ts [] []:=by
  rw[t2];exact⟨yP.nodup ndA,(λx hx=>hx),(λz hz=>by cases hz),List.Sublist.refl _⟩
 have e1:=t3 _ _ e1;have e2:=Ln.tups (Am.of t3) e2;have e7:=e7.same t3;have e8:=e8.trans (Ai.of t3);refine⟨Av (by show 0<=1000;decide),λlz hlz=>?_⟩;simp only[QaY,QaX];have sZ:=Ag hlz (.lst []);have nzl:ll≠lz:=Aw e1 hlz;have nzt:lt≠lz:=Aw t1 hlz;have nzb:b≠lz:=e7.nb hlz;have flz:H lz=none:=e8.free e7.ex hlz;refine⟨_,rq,_,rq,b,_,5,rq,e7.same sZ,by omega,by decide,by decide,λr6 HU r60 r61 hbU sU=>?_⟩;obtain⟨rn,hrn⟩ : ∃rn:Nat,r6=rn:=⟨r6.toNat,by omega⟩;subst hrn;refine⟨b,_,rn,rq,hbU,by omega,by omega,λln ys HV hln ly hys DB jU hbV sV=>?_⟩;simp only[QaY,QaX];have sUV:Ai b _ HV:=((Ai.of sZ).trans sU).trans sV;have nzn:ln≠lz:=λz=>by rw[z,sU _ _ Ab nzb.symm] at hln;cases hln
 have e1:=sUV _ _ e1 nbl.symm;have e2:=Ln.tups (sUV.tup e7.Gj) e2;have e8:=e8.trans sUV;have hzV:HV lz=some (.lst []):=sV _ _ (sU _ _ Ab nzb.symm) nzb.symm;have t1:=sUV _ _ t1 nbt.symm;have hbV:=hbV.mono (show _<=n+500 by omega);have tl3:ja.length<=3:=by omega
 have nln:b≠ln:=hbU.nb hln;refine⟨_,rq,ln,rq,⟨_,SqL.of jU⟩,?_⟩;let J6:YN:=λi U HH=>∃(lt:Addr) (u19 u20:Option V) (ts:List Int) (zs:YG),U=[jp b,some (.int ml),some (.int mp),some (.int r1),some (.int sd),jp nb,some (.int own),jp ft,some (.int (an:Int)),jp ll,u10,some (.int M),jp lt,u13,u14,u15,u16,jp lz,jp ln,u19,u20]/\HH lt=some (.lst (ts.map V.int))/\ts.length<=30/\b≠lt/\lt≠lz/\HH lz=some (.lst zs)/\(∃jn,Paired (Jh HH) zs jn/\Q8 (Fd ja) ts jn (ys.take i))/\HH ln=some (.lst (ys.map V.str))/\HH ll=some (.lst vs)/\Paired (LoopAt HH) vs ja/\BP HH b (n+500+30*i)/\Ai b H HH;refine QW (xs:=ys.map V.str) J6
  ⟨lt,_,_,ts,[],rq,t1,qM,nbt,nzt,hzV,⟨[],.nil,zk0⟩,jU,e1,e2,hbV,e8⟩ (λi U HH _ h=>?_) (λi x U HH hx h=>?_) (fun U HH h=>?_)
 ·obtain⟨lt,u19,u20,ts,zs,rfl,z1,z2,z3,z4,z5,z6,z7,z8,z9,z10,z11⟩:=h;exact SqL.of z7
 ·clear t1 t2 t3 qM nbt nzt hzV jU e1 e2 hbV e8;obtain⟨lt,u19,u20,ts,zs,rfl,z1,z2,z3,z4,z5,z6,z7,z8,z9,z10,z11⟩:=h;obtain⟨jn,zp,zk⟩:=z6;have DA:zs.length<=5:=by
   have h1:=Qcd zp;have h2:=zk.nm.length_le;rw[QbH,Qbz] at h2;omega
  obtain⟨yi,hyi,rfl⟩ : ∃yi,ys[i]?=some yi/\x=.str yi:=by
   rw[Qbn] at hx;obtain⟨yi,h1,h2⟩:=QaA.mp hx;exact⟨yi,h1,h2.symm⟩
  have ytk:ys.take (i+1)=ys.take i++[yi]:=QcE hyi;have hil:i < 5:=by
   have:=(Qah.mp hx).1;rw[QbH] at this;omega
  simp only[QaY,QaX];refine⟨_,rq,lt,rq,⟨_,SqL.of z1⟩,λlc hlc=>?_⟩;have nbc:b≠lc:=z10.nb hlc;have ntc:lt≠lc:=Aw z1 hlc;have sC:=Ag hlc (.lst []);let J7:YN:=λk U HC=>∃(u:Option V) (ss:List Int),U=[u,jp b]/\HC lc=some (.lst (ss.map V.int))/\ss.Sublist (ts.take k)/\BP HC b (n+500+30*i+k)/\Ai b HH HC;refine Gg (xs:=ts.map V.int) J7 ⟨none,[],rq,Ab,List.Sublist.refl _,z10.same sC,Ai.of sC⟩ (λk U HC _ h=>?_) (λk x U HC hk h=>?_) (fun U HC h=>?_)
  ·obtain⟨u,ss,rfl,c1,c2,c3,c4⟩:=h;exact SqL.of (c4 _ _ z1 z3.symm)
  ·obtain⟨u,ss,rfl,c1,c2,c3,c4⟩:=h;have hkl:k < 30:=by
    have:=(Qah.mp hk).1;rw[QbH] at this;omega
   refine⟨_,rq,b,_,3,rq,c3,by omega,by decide,by decide,λr HD _ _ hbD sD=>⟨rq,_,rq,?_⟩⟩;have c1':=sD _ _ c1 nbc.symm;rw[Qbn] at hk;obtain⟨a,hka,rfl⟩:=QaA.mp hk;have tka:ts.take (k+1)=ts.take k++[a]:=QcE hka;have ssl:ss.length<=k:=Qcr c2.length_le (by rw[Qbz];omega);refine Ig (λcc=>?_) (λcc=>?_)
   ·refine⟨_,rq,_,c1',Ar (by rw[QbH];omega),_,ss++[a],rq,by rw[Ab,QbI];rfl,by rw[tka];exact c2.append (List.Sublist.refl _),hbD.Ep Ai.upd nbc,Ai.Qu (c4.trans sD) Ai.upd hlc⟩
   ·exact⟨_,ss,rq,c1',by rw[tka];exact c2.trans (List.sublist_append_left ..),hbD,c4.trans sD⟩
  obtain⟨u,ss,rfl,c1,c2,c3,c4⟩:=h;rw[QbH] at c2 c3;rw[Qbx] at c2;have ssl:ss.length<=30:=Qcr c2.length_le z2;refine⟨lc,ss,rq,SqL.of c1,by omega,λms ls hperm O5 hls=>?_⟩;simp only[QaY,QaX];have sS:=Ag hls (.lst (ms.map V.int));have c5:Ai b HH (upd HC ls (.lst (ms.map V.int))):=c4.trans (Ai.of sS);have c6:=c3.same sS;have c7:(upd HC ls (.lst (ms.map V.int))) ls=some (.lst (ms.map V.int)):=Ab;generalize upd HC ls (.lst (ms.map V.int))=HS at c5 c6 c7;have lms:ms.length<=30:=by have:=hperm.length_eq;omega
  have z1:=c5 _ _ z1 z3.symm;refine⟨_,rq,lt,rq,⟨_,SqL.of z1⟩,λlw hlw=>?_⟩;have nbw:b≠lw:=c6.nb hlw;have nsw:ls≠lw:=Aw c7 hlw;have nzw:lw≠lz:=(Aw (c5 _ _ z5 nzb.symm) hlw).symm;let J8:YN:=λk U HC=>∃(u:Option V) (ss:List Int),U=[u,jp ls]/\HC lw=some (.lst (ss.map V.int))/\ss=(ts.take k).filter (λx=>!decide (x∈ms))/\Same HS HC;refine Gg (xs:=ts.map V.int) J8 ⟨none,[],rq,Ab,rq,Ag hlw _⟩ (λk U HC _ h=>?_) (λk x U HC hk h=>?_) (fun U HC h=>?_)
  ·obtain⟨u,ss,rfl,d1,d2,d3⟩:=h;exact SqL.of (d3 _ _ z1)
  ·obtain⟨u,ss,rfl,d1,d2,d3⟩:=h;have hkl:k < 30:=by
    have:=(Qah.mp hk).1;rw[QbH] at this;omega
   rw[Qbn] at hk;obtain⟨a,hka,rfl⟩:=QaA.mp hk;have tka:(ts.take (k+1)).filter (λx=>!decide (x∈ms))=(ts.take k).filter (λx=>!decide (x∈ms))++[a].filter (λx=>!decide (x∈ms)):=by rw[QcE hka,Qbf]
   have ssl:ss.length<=30:=by
    rw[d2];have h1:=List.length_filter_le (λx=>!decide (x∈ms)) (ts.take k);rw[Qbz] at h1;omega
   refine⟨_,rq,_,rq,ls,_,rq,.inl (SqL.of (d3 _ _ c7)),rq,pJ ms,_,rq,Ig (λcc=>?_) (λcc=>?_)⟩
   ·have cc:(!inV (.int a) (ms.map V.int))=true:=cc;rw[Vc] at cc;rw[show List.filter (λx=>!decide (x∈ms)) [a]=[a] from Qau (p:=λx=>!decide (x∈ms)) cc] at tka
    refine⟨_,rq,_,d1,Ar (by rw[QbH];omega),_,ss++[a],rq,by rw[Ab,QbI];rfl,by rw[tka,d2],d3.Bl Ai.upd hlw⟩
   ·have cc:¬(!inV (.int a) (ms.map V.int))=true:=cc;rw[Vc] at cc;rw[show List.filter (λx=>!decide (x∈ms)) [a]=[] from Qat (p:=λx=>!decide (x∈ms)) cc] at tka
    exact⟨_,ss,rq,d1,by rw[tka,d2];exact (QbK _).symm,d3⟩
  obtain⟨u,ws,rfl,d1,d2,d3⟩:=h;rw[QbH,Qbx] at d2;have wsl:ws.length<=30:=by rw[d2];exact Qcr (List.length_filter_le _ _) z2
  simp only[QaY,QaX];have c8:=c5.trans (Ai.of d3);have z5:=c8 _ _ z5 nzb.symm;have z7:=c8 _ _ z7 nln.symm;have z8:=c8 _ _ z8 nbl.symm;have z9:=Ln.tups (c8.tup z10.Gj) z9;have zp:Paired (Jh HC) zs jn:=Paired.Ax zp λ_ _ z=>z.tups (c8.tup z10.Gj);have z10:=(c6.same d3).mono (show _<=n+500+30*(i+1) by omega);have z11:=z11.trans c8;have c7:=d3 _ _ c7;have zkn:(ms.map V.int).length=ms.length:=QbH _;refine⟨_,rq,ls,_,rq,.inl (SqL.of c7),_,_,rq,rq,_,rq,Ig (λcc=>?_) (λcc=>?_)⟩
  ·refine⟨_,rq,.inl ⟨rq,_,SqL.of z5⟩,_,rq,_,rq,ls,_,rq,.inl ⟨SqL.of c7,λtt htt=>⟨Av (by show 2<=1000;decide),λta hta=>?_⟩⟩⟩;have f1:=Ag htt (.tup (ms.map V.int));have f2:=Ag hta (.tup [.str yi,.ref tt]);have f12:=f1.trans f2;have z5:=f12 _ _ z5;refine⟨lz,_,_,rq,rq,z5,Ar (by omega),?_⟩;have tz0:∀zs',(upd (upd HC tt (.tup (ms.map V.int))) ta (.tup [.str yi,.ref tt])) lz≠some (.tup zs'):=λzs' z=>by rw[z5] at z;cases z
   have tz:=Am.upd (o:=.lst (zs++[.ref ta])) tz0;have Id:1<=ms.length:=by
    have cc:=Qbp cc;rw[zkn] at cc;omega
   have zp':Paired (Jh (upd (upd (upd HC tt (.tup (ms.map V.int))) ta (.tup [.str yi,.ref tt])) lz (.lst (zs++[.ref ta])))) (zs++[.ref ta]) (jn++[⟨yi,ms⟩]):=Qcy ⟨ta,tt,rq,tz _ _ Ab,tz _ _ (f2 _ _ Ab)⟩ (Paired.Ax zp λ_ _ z=>(z.tups (Am.of f12)).tups tz);have zk':Q8 (Fd ja) ws (jn++[⟨yi,ms⟩]) (ys.take (i+1)):=by rw[d2,ytk];exact zk.next hperm c2 O5 lms Id
   exact⟨lw,_,_,ws,zs++[.ref ta],rq,by rw[Ao nzw];exact f12 _ _ d1,by omega,nbw,nzw,Ab,⟨_,zp',zk'⟩,by rw[Ao nzn];exact f12 _ _ z7,by rw[Ao nzl];exact f12 _ _ z8,Ln.tups tz (Ln.tups (Am.of f12) z9),(z10.same f12).Ep Ai.upd nzb,Ai.Qu (z11.trans (Ai.of f12)) Ai.upd flz⟩
  ·exact⟨lw,_,_,ws,zs,rq,d1,by omega,nbw,nzw,z5,⟨jn,zp,by rw[d2,ytk];exact zk.none⟩,z7,z8,z9,z10,z11⟩
 clear t1 t2 t3 qM nbt nzt hzV jU e1 e2 hbV e8;obtain⟨lt,u19,u20,ts,zs,rfl,z1,z2,z3,z4,z5,z6,z7,z8,z9,z10,z11⟩:=h;rw[QbH] at z10;obtain⟨jn,zp,zk⟩:=z6;rw[QbH,Qbx] at zk;have DA:zs.length<=5:=by
  have h1:=Qcd zp;have h2:=zk.nm.length_le;rw[QbH] at h2;omega
 refine⟨_,rq,_,rq,b,_,3,rq,z10,by omega,by decide,by decide,λr7 HX _ _ hbX sX=>⟨_,_,rq,rq,_,_,rq,_,rq,ll,_,rq,.inl ⟨SqL.of (sX _ _ z8 nbl.symm),λtl htl=>?_⟩⟩⟩;have g1:=Ag htl (.tup vs);refine⟨_,rq,lz,_,rq,.inl ⟨SqL.of (g1 _ _ (sX _ _ z5 nzb.symm)),λtz htz=>⟨Av (by show 3<=1000;decide),λt ht=>?_⟩⟩⟩;have g2:=Ag htz (.tup zs);have g3:=Ag ht (.tup [.int (if M+r7 < 30 then M+r7 else 30),.ref tl,.ref tz])
 have j6:=(g1.trans g2).trans g3;have cnt:1<=(CG ja).length:=by
  obtain⟨L,hL⟩ : ∃L,ja=L0::L:=oU;rw[hL];have:CG (L0::L)=adL L0++CG L:=by unfold CG;rw[Qbr]
  rw[this,QaU];omega
 have M1:1<=M:=by
  obtain⟨L,hL⟩ : ∃L,ja=L0::L:=oU;obtain⟨m,h1,h2⟩:=fu (l:=Hv L0) (by rw[X3];omega);have:=AC L0 (by rw[hL];exact QaV ..) m h1;omega
 have pok:cU (if M+r7 < 30 then M+r7 else 30) ja jn:=by
  refine⟨ndA,bdA,⟨cnt,by omega⟩,⟨by split <;> omega,by split <;> omega⟩,λps hps m hm=>?_,λz hz x hx=>?_,(Qbw.mp zk.nd).1,zk.up,?_,λz hz=>?_,zk.nm.nodup DB⟩
  ·have h1:=AC ps hps m hm;have h2:=rQ ps m hm;have h3:(adL ps).length<=(CG ja).length:=by
    exact gZ ja hps
   split <;> omega
  ·exact zk.sub x (QaK _ (QbF.mpr ⟨z,hz,hx⟩))
  ·have h1:=Qcd zp;omega
  ·exact hys z.name (zk.nm.subset (Qcn.mpr ⟨z,hz,rq⟩))
 exact q t tl tz vs zs ja jn _ _ Ab (g3 _ _ (g2 _ _ Ab)) (Ln.tups (Am.of j6) (Ln.tups (sX.tup z10.Gj) z9)) e4 (by omega) tl3 (g3 _ _ Ab) (Paired.Ax zp λ_ _ z=>(z.tups (sX.tup z10.Gj)).tups (Am.of j6)) pok ((hbX.same j6).mono (by omega)) ((z11.trans sX).trans (Ai.of j6))
end
abbrev JZ:Stmt:=top 29
abbrev Et:YF:=["loop","at","place"]
theorem Dh:Ba ["loop","at","place","kind","address","spur","told","number","spur_kind","spur_address"] Et (Ak JZ):=by ac_rfl
structure Sd where
 lp:Int
 at_:Int
 n:Int
 kind:Str
 addr:Int
def K4 (H:Hp) (v:V) (d:Sd):Prop:=∃t u,v=.ref t/\H t=some (.tup [.ref u,.str d.kind,.int d.addr])/\H u=some (.tup [.int d.lp,.int d.at_,.int d.n])
theorem K4.tups {H H':Hp} (s:Am H H') {v:V} {d:Sd} (h:K4 H v d):K4 H' v d:=by
 obtain⟨t,u,e,q1,q2⟩:=h;exact⟨t,u,e,s _ _ q1,s _ _ q2⟩
def Dz (lp at_:Int):Nat->List Dev->List Sd
 | _,[]=>[]
 | n,d::r=>⟨lp,at_,n,d.kind,d.addr⟩::Dz lp at_ (n+1) r
def Cj (lp at_:Int) (p:Place):List Sd:=if V.str p.kind=V.str "opener" then [] else ⟨lp,at_,0,p.kind,p.addr⟩::Dz lp at_ 1 p.spur
theorem Uo (lp at_:Int):∀(n:Nat) (ds:List Dev) (i:Nat) (d:Dev),ds[i]?=some d->Dz lp at_ n (ds.take (i+1))=Dz lp at_ n (ds.take i)++[⟨lp,at_,(n+i:Nat),d.kind,d.addr⟩]
 | n,[],i,d,h=>by simp at h
 | n,x::r,0,d,h=>by
  simp at h;subst h;simp[Dz]
 | n,x::r,i+1,d,h=>by
  have h':r[i]?=some d:=by simpa using h
  have ih:=Uo lp at_ (n+1) r i d h';rw[List.take_succ_cons,List.take_succ_cons];show _::Dz lp at_ (n+1) (r.take (i+1))=(_::Dz lp at_ (n+1) (r.take i))++_;rw[ih,show n+1+i=n+(i+1) by omega];rfl
structure Tx (K:YD) (mg:YB) (op oe:Addr):Prop extends Nm mg where
 OPENER:∃u,mg "OPENER"=some u/\RelV (.ref op) u
 opT:∀H,SqT K H op [.str "opener",.int 0,.ref oe]
 opE:∀H,SqT K H oe []
def qP:Sp:=λvs H Q _=>∃(lp at_:Int) (v:V) (p:Place),vs=[.int lp,.int at_,v]/\Ea H v p/\p.spur.length<=3/\∀l xs H',H l=none->H' l=some (.lst xs)->Paired (K4 H') xs (Cj lp at_ p)->Same H H'->Q (.ref l) H'
section
variable {P:Program} {w:World} {K:YD} {mg:YB} {base:Heap} {op oe:Addr}
theorem U8 (c:Code K mg "place_devices" JZ Et) (T:Tx K mg op oe):Good P w K mg base "place_devices" 1 Et qP:=by
 refine c.good Dh (λvs H Q E h=>?_) (λf cdv A outer s H vs Q E hr h=>?_)
 ·obtain⟨lp,at_,v,p,rfl,_⟩:=h;rfl
 obtain⟨lp,at_,v,p,rfl,⟨t,u,vs,rfl,ht,hu,hd⟩,h3,q⟩:=h;refine⟨_,(Ae (G5 (pv 2) (CQ rfl (Aq (Aj (i:=3) Dh.nd rfl (Or.inl rfl)) (Aq (Aj (i:=4) Dh.nd rfl (Or.inl rfl)) (Aq (Aj (i:=5) Dh.nd rfl (Or.inl rfl)) Bt)))))
 (Ae (BX (Bs Eu (pv 3) Bp (Bq _)) (Ah (Bc (Ce Ac))) Bv)
 (Ae (Bb (i:=6) Dh.nd rfl (Or.inl rfl) (Ce (Aa (Bg (Aa (Bg (Aa (pv 0) (Aa (pv 1) (Aa Af Ac)))) (Aa (pv 3) (Aa (pv 4) Ac)))) Ac)))
 (Ae (Cd QbL rfl (NT rfl T.enumerate (pv 5) Af) (CQ rfl (Aq (Aj (i:=7) Dh.nd rfl (Or.inl rfl)) (Aq (CQ rfl (Aq (Aj (i:=8) Dh.nd rfl (Or.inl rfl)) (Aq (Aj (i:=9) Dh.nd rfl (Or.inl rfl)) Bt))) Bt)))
 (Ah (Bk (Cw Qar Qan Qao Ci (pv 6) (Aa (Bg (Aa (Bg (Aa (pv 0) (Aa (pv 1) (Aa (pv 7) Ac)))) (Aa (pv 8) (Aa (pv 9) Ac)))) Ac)))))
 (Ah (Bc (pv 6))))))),?_⟩
 show let R0:TS:=_;let R1:TS:=Al (Dg _ _ R0) _;let R2:TS:=Al _ R1;let R3:TS:=Al _ R2;Al _ R3 _ _ _;intro R0 R1 R2 R3;generalize hst:L2.start _ _=σ0;have e0:σ0=[some (.int lp),some (.int at_),jp t,none,none,none,none,none,none,none]:=hst.symm;clear hst;subst e0;refine⟨_,rq,t,_,rq,SqT.of ht,rq,_,_,rq,_,_,rq,_,_,rq,rq,?_⟩;simp only[QaY,QaX];refine⟨_,rq,rq,_,rq,?_⟩;by_cases ck:V.str p.kind=V.str "opener"
 ·rw[QbY ck];have e:Cj lp at_ p=[]:=if_pos ck;rw[e] at q;exact Cr ⟨(by show 0<=sizeLine;decide),λl hl=>q l [] _ hl Ab .nil (Ag hl _)⟩
 ·rw[QbM ck];have e:Cj lp at_ p=⟨lp,at_,0,p.kind,p.addr⟩::Dz lp at_ 1 p.spur:=if_neg ck;rw[e] at q;refine Cp ⟨_,rq,_,rq,(by show 3<=sizeLine;decide),λus hus=>⟨_,rq,_,rq,(by show 3<=sizeLine;decide),λts hts=>⟨(by show 1<=sizeLine;decide),λl hl=>?_⟩⟩⟩;have s1:=Ag hus (.tup [.int lp,.int at_,.int 0]);have s2:=Ag hts (.tup [.ref us,.str p.kind,.int p.addr]);have s3:=Ag hl (.lst [.ref ts]);have sm:=s1.trans (s2.trans s3);have hl0:=s1.free (s2.free hl);have el:_=some (HO.lst [.ref ts]):=Ab (H:=upd (upd H us (.tup [.int lp,.int at_,.int 0])) ts (.tup [.ref us,.str p.kind,.int p.addr])) (a:=l) (o:=.lst [.ref ts]);have es:K4 _ (.ref ts) ⟨lp,at_,0,p.kind,p.addr⟩:=⟨ts,us,rq,s3 _ _ Ab,s3 _ _ (s2 _ _ Ab)⟩;generalize hX:upd (upd (upd H us (.tup [.int lp,.int at_,.int 0])) ts (.tup [.ref us,.str p.kind,.int p.addr])) l (.lst [.ref ts])=H1 at sm el es;simp only[QaY,QaX];have hu1:=sm _ _ hu;have sd0:Paired (K4 H1) [.ref ts] (⟨lp,at_,0,p.kind,p.addr⟩::Dz lp at_ 1 (p.spur.take 0)):=.cons es .nil;have FD:vs.length=p.spur.length:=Qcd hd;refine⟨_,rq,u,rq,⟨vs,SqT.of hu1⟩,Jx (xs:=vs) (lo:=1) (λi U HH=>∃ys u7 u8 u9,U=[some (.int lp),some (.int at_),jp t,some (.str p.kind),some (.int p.addr),jp u,jp l,u7,u8,u9]/\Ai l H1 HH/\HH l=some (.lst ys)/\Paired (K4 HH) ys (⟨lp,at_,0,p.kind,p.addr⟩::Dz lp at_ 1 (p.spur.take i))/\ys.length<=i+1)
   ⟨[.ref ts],_,_,_,rq,Ai.refl l H1,el,sd0,Qcw _⟩ (λi U HH _ h=>?_) (λi x pt U HH hx h hpt=>?_) (fun U HH h=>?_)⟩
  ·obtain⟨ys,_,_,_,_,sb,_⟩:=h;exact SqT.of (sb _ _ hu1 (λz=>by rw[z,el] at hu1;cases hu1))
  ·obtain⟨ys,u7,u8,u9,rfl,sb,hy,pd,ly⟩:=h;obtain⟨d,hdi,td,rfl,htd⟩:=Paired.Ck hd hx;have nl:∀zs,H1 l≠some (.tup zs):=λzs z=>by rw[el] at z;cases z
   have nl2:∀zs,HH l≠some (.tup zs):=λzs z=>by rw[hy] at z;cases z
   have Hm:=(sb.tup nl) _ _ (sm _ _ htd);have t0:=Ag hpt (.tup [.int ((1+i:Nat):Int),.ref td]);refine⟨pt,_,rq,SqT.of Ab,rq,_,_,rq,_,_,rq,td,_,rq,SqT.of (t0 _ _ Hm),rq,_,_,rq,_,_,rq,rq,rq,?_⟩;simp only[QaY,QaX];have hy0:=t0 _ _ hy;refine⟨_,rq,.inl ⟨rq,_,SqL.of hy0⟩,_,rq,_,rq,_,rq,(by show 3<=sizeLine;decide),λus2 Hd=>⟨_,rq,_,rq,(by show 3<=sizeLine;decide),λts2 He=>?_⟩⟩;have t1:=Ag Hd (.tup [.int lp,.int at_,.int ((1+i:Nat):Int)]);have t2:=Ag He (.tup [.ref us2,.str d.kind,.int d.addr]);have hy2:=t2 _ _ (t1 _ _ hy0);have il:=(Qah.mp hx).1;refine⟨l,_,_,rq,rq,hy2,Ar (by omega),?_⟩;refine⟨ys++[.ref ts2],_,_,_,rq,sb.trans ((Ai.of (t0.trans (t1.trans t2))).trans Ai.upd),Ab,?_,by rw[QaU];simp only[QaF];omega⟩;rw[Uo lp at_ 1 p.spur i d hdi];have nlx:∀zs,(upd (upd (upd HH pt (.tup [.int ((1+i:Nat):Int),.ref td])) us2 (.tup [.int lp,.int at_,.int ((1+i:Nat):Int)])) ts2 (.tup [.ref us2,.str d.kind,.int d.addr])) l≠some (.tup zs):=λzs z=>by rw[hy2] at z;cases z
   have tt:=Am.upd (o:=.lst (ys++[.ref ts2])) nlx;exact Qcy (l₂:=_::Dz lp at_ 1 (p.spur.take i)) ⟨ts2,us2,rq,tt _ _ Ab,tt _ _ (t2 _ _ Ab)⟩ (Paired.Ax pd λ_ _ z=>(z.tups (Am.of (t0.trans (t1.trans t2)))).tups tt)
  ·obtain⟨ys,u7,u8,u9,rfl,sb,hy,pd,ly⟩:=h;rw[FD,Qbx] at pd;exact⟨_,rq,q l ys HH hl0 hy pd λc o e=>sb _ _ (sm _ _ e) (Aw e hl0)⟩
end
structure Sp3 where
 lp:Int
 at_:Int
 n:Int
def Sd.spot (d:Sd):Sp3:=⟨d.lp,d.at_,d.n⟩
def BL (H:Hp) (v:V) (d:Sp3):Prop:=∃u,v=.ref u/\H u=some (.tup [.int d.lp,.int d.at_,.int d.n])
theorem BL.tups {H H':Hp} (s:Am H H') {v:V} {d:Sp3} (h:BL H v d):BL H' v d:=by
 obtain⟨u,e,q⟩:=h;exact⟨u,e,s _ _ q⟩
theorem Nb {k:Str} (h:Hg k):¬V.str k=V.str "opener":=by
 rcases h with rfl | rfl | rfl | rfl <;> decide +kernel
theorem bN {k:Str} (h:Hg k):(PyData.str k).canLay0=true:=by
 rcases h with rfl | rfl | rfl | rfl <;> decide +kernel
def P0 (d:Dev):PyData:=.tuple [.str d.kind,.int d.addr]
def NP (p:Place):PyData:=.tuple [.str p.kind,.int p.addr,.tuple (p.spur.map P0)]
def opD:PyData:=.tuple [.str "opener",.int 0,.tuple []]
theorem cD:∀{ds:List Dev},(∀d∈ds,Hg d.kind)->PyData.canLayAll0 (ds.map P0)=true/\PyData.depthAll (ds.map P0)<=1
 | [],_=>⟨rfl,by show 0<=1;decide⟩
 | d::ds,h=>by
  have ih:=cD (ds:=ds) λx hx=>h x (QaJ _ hx);refine⟨?_,?_⟩
  ·show ((PyData.canLay0 (.str d.kind)&&(true&&true))&&PyData.canLayAll0 (ds.map P0))=true;rw[bN (h d QaV),ih.1];rfl
  ·show max (max 0 (max 0 0)+1) (PyData.depthAll (ds.map P0))<=1;exact Nat.max_le.mpr ⟨by decide,ih.2⟩
theorem zU:PyData.canLay0 (.str "opener")=true:=by trivial
theorem RJ {p:Place} (h:OkP p):SeqAt.shaped (NP p)=true:=by
 have hk:PyData.canLay0 (.str p.kind)=true:=by
  rcases h.form with⟨e,_⟩| e
  ·rw[e];exact zU
  ·exact bN e
 have hd:=cD h.kinds;show ((PyData.canLay0 (.str p.kind)&&(true&&(PyData.canLayAll0 (p.spur.map P0)&&true)))&&decide (max 0 (max 0 (max (PyData.depthAll (p.spur.map P0)+1) 0))+1<=64))=true;rw[hk,hd.1];have:max 0 (max 0 (max (PyData.depthAll (p.spur.map P0)+1) 0))+1<=64:=by omega
 rw[QbY this];rfl
theorem XR {p:Place} (h:OkP p):PyData.eqv (NP p) opD=decide (V.str p.kind=V.str "opener"):=by
 rcases h.form with⟨e1,e2,e3⟩| e
 ·rw[show NP p=opD by unfold NP opD;rw[e1,e2,e3];rfl,e1]
  decide +kernel
 ·rw[QbM (Nb e)];have:(p.kind == ("opener":Str))=false:=QaN.mpr λz=>Nb e (by rw[z]);show (((p.kind == ("opener":Str))&&_))=false;rw[this];rfl
theorem Kq.rep {K:YD} {H:Hp} {v:V} {d:Dev} (h:Kq H v d):K5 K H v (P0 d):=by
 obtain⟨t,rfl,e⟩:=h;exact .tup (SqT.of e) (.cons (.str _) (.cons (.int _) .nil))
theorem cC {K:YD} {H:Hp}:∀{vs:YG} {ds:List Dev},Paired (Kq H) vs ds->M4 K H vs (ds.map P0)
 | _,_,.nil=>.nil
 | _,_,.cons h t=>.cons h.rep (cC t)
theorem Ea.rep {K:YD} {H:Hp} {v:V} {p:Place} (h:Ea H v p):K5 K H v (NP p):=by
 obtain⟨t,u,vs,rfl,e1,e2,e3⟩:=h;exact .tup (SqT.of e1) (.cons (.str _) (.cons (.int _) (.cons (.tup (SqT.of e2) (cC e3)) .nil)))
theorem Mz (lp at_:Int):∀(n:Nat) (ds:List Dev),(Dz lp at_ n ds).length=ds.length
 | _,[]=>rfl
 | n,d::r=>by show (Dz lp at_ (n+1) r).length+1=r.length+1;rw[Mz]
theorem uc {K:YD} {H:Hp} {a:Addr} {xs:YG} {Q:VK} (h:H a=some (.lst xs)) (q:Q (.bl true) H):Mu K [.ref a,.ty "list"] H Q:=by
 unfold Mu;exact⟨_,_,_,_,rq,.lst h,by rfl,q⟩
abbrev RB:Stmt:=top 30
abbrev GP:YF:=["plan"]
theorem Im:Ba ["plan","told","loop","places","at","place"] GP (Ak RB):=by ac_rfl
abbrev K9:Stmt:=top 31
abbrev IK:YF:=GP
abbrev xL:YF:=["plan","told","loop","places","at","kind","address","spur"]
theorem El:Ba xL IK (Ak K9):=by ac_rfl
abbrev Ot:Stmt:=top 32
abbrev Lw:YF:=GP
abbrev xN:YF:=["plan","told","loop","places"]
theorem MF:Ba xN Lw (Ak Ot):=by ac_rfl
def up {α : Type} (f:Nat->List α) (i:Nat):List α:=(List.range i).flatMap f
theorem Dn {α : Type} (f:Nat->List α) (i:Nat):up f (i+1)=up f i++f i:=by
 unfold up;rw[List.range_succ,QaQ];simp
theorem M6 {α : Type} (f:Nat->List α):up f 0=[]:=rfl
theorem Ek {α : Type} {f:Nat->List α} {c:Nat} (h:∀i,(f i).length<=c):∀i,(up f i).length<=c*i
 | 0=>Qcw _
 | i+1=>by
  have:=Ek h i;have:=h i;rw[Dn,QaU,Nat.mul_succ];omega
def ifs {α β : Type} (o:Option α) (g:α->List β):List β:=match o with | none=>[] | some x=>g x
theorem CW {α β : Type} {o:Option α} {g:α->List β} {x:α} (h:o=some x):ifs o g=g x:=by rw[h];rfl
structure Gt where
 lp:Int
 at_:Int
def DP (H:Hp) (v:V) (d:Gt):Prop:=∃u,v=.ref u/\H u=some (.tup [.int d.lp,.int d.at_])
theorem DP.tups {H H':Hp} (s:Am H H') {v:V} {d:Gt} (h:DP H v d):DP H' v d:=by
 obtain⟨u,e,q⟩:=h;exact⟨u,e,s _ _ q⟩
def pd1 (lp:Int) (ps:List Place) (i:Nat):List Sd:=ifs ps[i]? λp=>Cj lp ((1+i:Nat):Int) p
def pdL (ja:YU) (k:Nat):List Sd:=ifs ja[k]? λps=>up (pd1 k ps) ps.length
abbrev YV:=List Sp3
def st1 (lp:Int) (ps:List Place) (i:Nat):YV:=ifs ps[i]? λp=>(List.range (p.spur.length+1)).map λn:Nat=>⟨lp,((1+i:Nat):Int),(n:Int)⟩
def stL (ja:YU) (k:Nat):YV:=ifs ja[k]? λps=>⟨k,0,0⟩::up (st1 k ps) ps.length
def gt1 (lp:Int) (ps:List Place) (i:Nat):List Gt:=ifs ps[i]? λp=>if V.str p.kind=V.str "opener" then [⟨lp,((1+i:Nat):Int)⟩] else []
def gtL (ja:YU) (k:Nat):List Gt:=ifs ja[k]? λps=>(⟨k,0⟩::up (gt1 k ps) ps.length)++[⟨k,(ps.length:Int)+1⟩]
structure Fi (ja:YU):Prop where
 ok:∀ps∈ja,OkL ps
 hi:ja.length<=3
theorem Uu {lp a:Int} {p:Place} (h:OkP p):(Cj lp a p).length<=4:=by
 unfold Cj;have:=h.spur;split
 ·exact Qcx _
 ·rw[Qby,Mz];omega
theorem gH {lp:Int} {ps:List Place} (h:∀p∈ps,OkP p) (i:Nat):(pd1 lp ps i).length<=4:=by
 unfold pd1;cases e:ps[i]? with
 | none=>exact Qcx _
 | some p=>exact Uu (h p (QaI e))
theorem Wu {lp:Int} {ps:List Place} (h:∀p∈ps,OkP p) (i:Nat):(st1 lp ps i).length<=4:=by
 unfold st1;cases e:ps[i]? with
 | none=>exact Qcx _
 | some p=>
  have:=(h p (QaI e)).spur;show ((List.range _).map _).length<=4;rw[QbH,Qbu];omega
theorem T3 {lp:Int} {ps:List Place} (i:Nat):(gt1 lp ps i).length<=1:=by
 unfold gt1;cases e:ps[i]? with
 | none=>exact Qcx _
 | some p=>
  show (if _ then _ else _:List Gt).length<=1
  split
  ·exact Qcw _
  ·exact Qcx _
theorem gG {ja:YU} (h:Fi ja) (k:Nat):(pdL ja k).length<=48:=by
 unfold pdL;cases e:ja[k]? with
 | none=>exact Qcx _
 | some ps=>
  have o:=h.ok ps (QaI e);have:=Ek (gH (lp:=k) o.ok) ps.length;have:=o.hi;show (up _ _).length<=48;omega
theorem Wt {ja:YU} (h:Fi ja) (k:Nat):(stL ja k).length<=49:=by
 unfold stL;cases e:ja[k]? with
 | none=>exact Qcx _
 | some ps=>
  have o:=h.ok ps (QaI e);have:=Ek (Wu (lp:=k) o.ok) ps.length;have:=o.hi;show (up _ _).length+1<=49;omega
theorem gR {ja:YU} (h:Fi ja) (k:Nat):(gtL ja k).length<=14:=by
 unfold gtL;cases e:ja[k]? with
 | none=>exact Qcx _
 | some ps=>
  have o:=h.ok ps (QaI e);have:=Ek (T3 (lp:=k) (ps:=ps)) ps.length;have:=o.hi;show ((_::up _ _)++[_]).length<=14;rw[QaU,Qby];show _+1+1<=14;omega
def Wj (H:Hp) (pl:Addr) (ja:YU):Prop:=∃v0 v2 Ls vs,H pl=some (.tup [v0,.ref Ls,v2])/\H Ls=some (.tup vs)/\Paired (LoopAt H) vs ja
def Vw:Sp:=λvs H Q _=>∃(pl:Addr) (ja:YU),vs=[.ref pl]/\Wj H pl ja/\Fi ja/\∀l xs H',H l=none->H' l=some (.lst xs)->Paired (K4 H') xs (up (pdL ja) ja.length)->Same H H'->Q (.ref l) H'
def vD:Sp:=λvs H Q _=>∃(pl:Addr) (ja:YU),vs=[.ref pl]/\Wj H pl ja/\Fi ja/\∀l xs H',H l=none->H' l=some (.lst xs)->Paired (BL H') xs (up (stL ja) ja.length)->Same H H'->Q (.ref l) H'
def vG:Sp:=λvs H Q _=>∃(pl:Addr) (ja:YU),vs=[.ref pl]/\Wj H pl ja/\Fi ja/\∀l xs H',H l=none->H' l=some (.lst xs)->Paired (DP H') xs (up (gtL ja) ja.length)->Same H H'->Q (.ref l) H'
section
variable {P:Program} {w:World} {K:YD} {mg:YB} {base:Heap} {op oe:Addr}
theorem jG (c:Code K mg "devices" RB GP) (T:Tx K mg op oe) (Km:Good P w K mg base "place_devices" 1 Et qP):Good P w K mg base "devices" 2 GP Vw:=by
 refine c.good Im (λvs H Q E h=>?_) (λf cdv A outer s H vs Q E hr h=>?_)
 ·obtain⟨pl,ja,rfl,_⟩:=h;rfl
 obtain⟨pl,ja,rfl,⟨v0,v2,Ls,vs,hpl,hLs,hlo⟩,ok,q⟩:=h;refine⟨_,(Ae (Bb (i:=1) Im.nd rfl (Or.inl rfl) (Ce Ac))
 (Ae (Cd QbL rfl (U7 rfl T.enumerate (Bm BW (pv 0) Af (λ_ _=>rfl))) (CQ rfl (Aq (Aj (i:=2) Im.nd rfl (Or.inl rfl)) (Aq (Aj (i:=3) Im.nd rfl (Or.inl rfl)) Bt)))
 (Ah (Cd QbL rfl (NT rfl T.enumerate (pv 3) Af) (CQ rfl (Aq (Aj (i:=4) Im.nd rfl (Or.inl rfl)) (Aq (Aj (i:=5) Im.nd rfl (Or.inl rfl)) Bt)))
 (Ah (Bk (Cw Qar Qap Qaq Fo (pv 1) (Aa (Ay Km hr (Aa (pv 2) (Aa (pv 4) (Aa (pv 5) Ac)))) Ac)))))))
 (Ah (Bc (pv 1))))),?_⟩
 show let R0:TS:=_;let R1:TS:=Dg _ _ R0;let R2:TS:=Al (Dg _ _ R1) _;Al _ R2 _ _ _;intro R0 R1 R2;generalize hst:L2.start _ _=σ0;have e0:σ0=[jp pl,none,none,none,none,none]:=hst.symm;clear hst;subst e0;refine⟨Av (by show 0<=1000;decide),λl fl=>?_⟩;simp only[QaY,QaX];have s1:=Ag fl (.lst []);have lvs:=Qcd hlo;refine⟨_,rq,pl,_,_,_,rq,rq,SqT.of (s1 _ _ hpl),rq,Ls,rq,⟨vs,SqT.of (s1 _ _ hLs)⟩,?_⟩;let J0:YN:=λi U HH=>∃(ys:YG) (u2 u3 u4 u5:Option V),U=[jp pl,jp l,u2,u3,u4,u5]/\Same H HH/\HH l=some (.lst ys)/\Paired (K4 HH) ys (up (pdL ja) i);refine Jx (xs:=vs) (lo:=0) J0 ⟨[],_,_,_,_,rq,s1,Ab,.nil⟩ (λi U HH _ h=>?_) (λi x pt U HH hx h hpt=>?_) (fun U HH h=>?_)
 ·obtain⟨ys,_,_,_,_,_,sm,_⟩:=h;exact SqT.of (sm _ _ hLs)
 ·obtain⟨ys,u2,u3,u4,u5,rfl,sm,hy,py⟩:=h;obtain⟨ps,hps,hL⟩:=Paired.Ck hlo hx;obtain⟨t,ws,rfl,ht,hws⟩:=id hL;have okl:=ok.ok ps (QaI hps);have ek:pdL ja i=up (pd1 i ps) ps.length:=CW hps;have lws:=Qcd hws;have t0:=Ag hpt (.tup [.int ((0+i:Nat):Int),.ref t]);refine⟨pt,_,rq,SqT.of Ab,rq,_,_,rq,_,_,rq,rq,?_⟩;have sm0:=sm.trans t0;have hy0:=t0 _ _ hy;have py0:=Paired.Ax py λ_ _ (z:K4 HH _ _)=>z.tups (Am.of t0);generalize upd HH pt (.tup [.int ((0+i:Nat):Int),.ref t])=HA at sm0 hy0 py0;simp only[QaY,QaX,Nat.zero_add];have hil:=(Qah.mp hps).1;have lu:=Ek (gG ok) i;have hhi:=ok.hi;refine⟨_,rq,t,rq,⟨ws,SqT.of (sm0 _ _ ht)⟩,?_⟩;let J1:YN:=λj U HJ=>∃(ys:YG) (u4 u5:Option V),U=[jp pl,jp l,some (.int (i:Int)),jp t,u4,u5]/\Same H HJ/\HJ l=some (.lst ys)/\Paired (K4 HJ) ys (up (pdL ja) i++up (pd1 i ps) j);refine Jx (xs:=ws) (lo:=1) J1 ⟨ys,_,_,rq,sm0,hy0,by rw[M6,QbK];exact py0⟩ (λj U HJ _ h=>?_) (λj x pt U HJ hx h hpt=>?_) (fun U HJ h=>?_)
  ·obtain⟨ys,_,_,_,sj,_⟩:=h;exact SqT.of (sj _ _ ht)
  ·obtain⟨ys,u4,u5,rfl,sj,hyj,pj⟩:=h;obtain⟨p,hp,hP⟩:=Paired.Ck hws hx;have okp:=okl.ok p (QaI hp);have ej:pd1 i ps j=Cj i ((1+j:Nat):Int) p:=CW hp;have t1:=Ag hpt (.tup [.int ((1+j:Nat):Int),x]);refine⟨pt,_,rq,SqT.of Ab,rq,_,_,rq,_,_,rq,rq,?_⟩;simp only[QaY,QaX];have hjl:=(Qah.mp hp).1;have lj:=Ek (gH (lp:=i) okl.ok) j;have lys:=Qcd pj;rw[QaU] at lys;have h12:=okl.hi;refine⟨_,rq,.inl ⟨rq,_,SqL.of (t1 _ _ hyj)⟩,_,rq,_,rq,_,rq,(i:Int),((1+j:Nat):Int),x,p,rq,hP.tups (Am.of (sj.trans t1)),okp.spur,λld xs' HB fld hld pdd sB=>?_⟩;have t2:=t1.trans sB;have hyB:=t2 _ _ hyj;have lx:=Qcd pdd;have lpl:=Uu (lp:=i) (a:=((1+j:Nat):Int)) okp;refine⟨l,ld,_,_,rq,rq,hyB,hld,Av (by omega),?_⟩;have n0:∀zs,HB l≠some (.tup zs):=λzs z=>by rw[hyB] at z;cases z
   have tt:=Am.upd (o:=.lst (ys++xs')) n0;refine⟨ys++xs',_,_,rq,(sj.trans t2).Bl Ai.upd fl,Ab,?_⟩;rw[Dn,ej,<-Qbm];exact Paired.app (Paired.Ax pj λ_ _ z=>(z.tups (Am.of t2)).tups tt) (Paired.Ax pdd λ_ _ z=>z.tups tt)
  ·obtain⟨ys,u4,u5,rfl,sj,hyj,pj⟩:=h;exact⟨ys,_,_,_,_,rq,sj,hyj,by rw[Dn,ek,<-lws];exact pj⟩
 ·obtain⟨ys,u2,u3,u4,u5,rfl,sm,hy,py⟩:=h;rw[lvs] at py;exact⟨_,rq,q l ys HH fl hy py sm⟩
theorem aQ (c:Code K mg "stretches" K9 IK) (T:Tx K mg op oe):Good P w K mg base "stretches" 1 IK vD:=by
 refine c.good El (λvs H Q E h=>?_) (λf cdv A outer s H vs Q E hr h=>?_)
 ·obtain⟨pl,ja,rfl,_⟩:=h;rfl
 obtain⟨pl,ja,rfl,⟨v0,v2,Ls,vs,hpl,hLs,hlo⟩,ok,q⟩:=h;refine⟨_,(Ae (Bb (i:=1) El.nd rfl (Or.inl rfl) (Ce Ac))
 (Ae (Cd QbL rfl (U7 rfl T.enumerate (Bm BW (pv 0) Af (λ_ _=>rfl))) (CQ rfl (Aq (Aj (i:=2) El.nd rfl (Or.inr rfl)) (Aq (Aj (i:=3) El.nd rfl (Or.inl rfl)) Bt)))
 (Ae (Bk (Cw Qar Qan Qao Ci (pv 1) (Aa (Bg (Aa (pv 2) (Aa Af (Aa Af Ac)))) Ac)))
 (Ah (Cd QbL rfl (NT rfl T.enumerate (pv 3) Af) (CQ rfl (Aq (Aj (i:=4) El.nd rfl (Or.inr rfl)) (Aq (CQ rfl (Aq (Aj (i:=5) El.nd rfl (Or.inl rfl)) (Aq (Aj (i:=6) El.nd rfl (Or.inl rfl)) (Aq (Aj (i:=7) El.nd rfl (Or.inl rfl)) Bt)))) Bt)))
 (Ah (Bk (Cw Qar Qap Qaq Fo (pv 1) (Aa (Cq (N':=["number","loop","at"]) rfl (Bo.of (src:=[none,some 2,some 4]) (Ak K9) xL rfl rfl rfl (by trivial) (by trivial) (by trivial) rfl (by trivial)) (CT rfl T.range (Aa (Bj Cg (Az Bh rfl T.len Cu (Aa (pv 7) Ac)) Af) Ac)) (λ_ _ _ _=>(Aj (i:=0) (show List.Nodup (["number","loop","at"]:YF) by trivial) rfl (Or.inl rfl))) (λ_ _ _ _=>Di) (λ_ _ _ _=>(Bg (Aa (pv 1) (Aa (pv 2) (Aa (pv 0) Ac)))))) Ac))))))))
 (Ah (Bc (pv 1))))),?_⟩
 show let R0:TS:=_;let R1:TS:=Dg _ _ R0;let R2:TS:=Al _ R1;let R3:TS:=Al (Dg _ _ R2) _;Al _ R3 _ _ _;intro R0 R1 R2 R3;generalize hst:L2.start _ _=σ0;have e0:σ0=[jp pl,none,none,none,none,none,none,none]:=hst.symm;clear hst;subst e0;refine⟨Av (by show 0<=1000;decide),λl fl=>?_⟩;simp only[QaY,QaX];have s1:=Ag fl (.lst []);have lvs:=Qcd hlo;refine⟨_,rq,pl,_,_,_,rq,rq,SqT.of (s1 _ _ hpl),rq,Ls,rq,⟨vs,SqT.of (s1 _ _ hLs)⟩,?_⟩;let J2:YN:=λi U HH=>∃(ys:YG) (u2 u3 u4 u5 u6 u7:Option V),U=[jp pl,jp l,u2,u3,u4,u5,u6,u7]/\Same H HH/\HH l=some (.lst ys)/\Paired (BL HH) ys (up (stL ja) i);refine Jx (xs:=vs) (lo:=0) J2 ⟨[],_,_,_,_,_,_,rq,s1,Ab,.nil⟩ (λi U HH _ h=>?_) (λi x pt U HH hx h hpt=>?_) (fun U HH h=>?_)
 ·obtain⟨ys,_,_,_,_,_,_,_,sm,_⟩:=h;exact SqT.of (sm _ _ hLs)
 ·obtain⟨ys,u2,u3,u4,u5,u6,u7,rfl,sm,hy,py⟩:=h;obtain⟨ps,hps,hL⟩:=Paired.Ck hlo hx;obtain⟨t,ws,rfl,ht,hws⟩:=id hL;have okl:=ok.ok ps (QaI hps);have ek:stL ja i=⟨i,0,0⟩::up (st1 i ps) ps.length:=CW hps;have lws:=Qcd hws;have t0:=Ag hpt (.tup [.int ((0+i:Nat):Int),.ref t]);refine⟨pt,_,rq,SqT.of Ab,rq,_,_,rq,_,_,rq,rq,?_⟩;have sm0:=sm.trans t0;have hy0:=t0 _ _ hy;have py0:=Paired.Ax py λ_ _ (z:BL HH _ _)=>z.tups (Am.of t0);generalize upd HH pt (.tup [.int ((0+i:Nat):Int),.ref t])=HA at sm0 hy0 py0;simp only[QaY,QaX,Nat.zero_add];have hil:=(Qah.mp hps).1;have lu:=Ek (Wt ok) i;have hhi:=ok.hi;have ly0:=Qcd py0;refine⟨_,rq,.inl ⟨rq,_,SqL.of hy0⟩,_,rq,Av (by show 3<=1000;decide),λtz htz=>?_⟩;have t3:=Ag htz (.tup [.int (i:Int),.int 0,.int 0]);refine⟨l,_,_,rq,rq,t3 _ _ hy0,Ar (by omega),?_⟩;have n0:∀zs,(upd HA tz (.tup [.int (i:Int),.int 0,.int 0])) l≠some (.tup zs):=λzs z=>by rw[t3 _ _ hy0] at z;cases z
  have tt:=Am.upd (o:=.lst (ys++[.ref tz])) n0;have sm1:Same H (upd (upd HA tz (.tup [.int (i:Int),.int 0,.int 0])) l (.lst (ys++[.ref tz]))):=(sm0.trans t3).Bl Ai.upd fl;have py1:Paired (BL _) (ys++[.ref tz]) (up (stL ja) i++[⟨(i:Int),0,0⟩]):=Qcy ⟨tz,rq,tt _ _ Ab⟩ (Paired.Ax py0 λ_ _ z=>(z.tups (Am.of t3)).tups tt);have hy1:(upd (upd HA tz (.tup [.int (i:Int),.int 0,.int 0])) l (.lst (ys++[.ref tz]))) l=some (.lst (ys++[.ref tz])):=Ab;generalize upd (upd HA tz (.tup [.int (i:Int),.int 0,.int 0])) l (.lst (ys++[.ref tz]))=HB at sm1 py1 hy1;generalize ys++[.ref tz]=ys1 at py1 hy1;refine⟨_,rq,t,rq,⟨ws,SqT.of (sm1 _ _ ht)⟩,?_⟩;let J3:YN:=λj U HJ=>∃(ys:YG) (u4 u5 u6 u7:Option V),U=[jp pl,jp l,some (.int (i:Int)),jp t,u4,u5,u6,u7]/\Same H HJ/\HJ l=some (.lst ys)/\Paired (BL HJ) ys (up (stL ja) i++⟨(i:Int),0,0⟩::up (st1 i ps) j);refine Jx (xs:=ws) (lo:=1) J3 ⟨ys1,_,_,_,_,rq,sm1,hy1,by rw[M6];exact py1⟩ (λj U HJ _ h=>?_) (λj x pt U HJ hx h hpt=>?_) (fun U HJ h=>?_)
  ·obtain⟨ys,_,_,_,_,_,sj,_⟩:=h;exact SqT.of (sj _ _ ht)
  ·obtain⟨ys,u4,u5,u6,u7,rfl,sj,hyj,pj⟩:=h;obtain⟨p,hp,hP⟩:=Paired.Ck hws hx;have okp:=okl.ok p (QaI hp);have ej:st1 i ps j=(List.range (p.spur.length+1)).map λn:Nat=>⟨(i:Int),((1+j:Nat):Int),(n:Int)⟩:=CW hp;have t1:=Ag hpt (.tup [.int ((1+j:Nat):Int),x]);obtain⟨tp,ua,wp',rfl,hp1,hp2,hp3⟩:=hP.tups (Am.of (sj.trans t1));refine⟨pt,_,rq,SqT.of Ab,rq,_,_,rq,_,_,rq,tp,_,rq,SqT.of hp1,rq,_,_,rq,_,_,rq,_,_,rq,rq,rq,?_⟩;simp only[QaY,QaX];have hjl:=(Qah.mp hp).1;have lj:=Ek (Wu (lp:=i) okl.ok) j;have lys:=Qcd pj;rw[QaU,Qby] at lys;have h12:=okl.hi;have lwp:=Qcd hp3;have hsp:=okp.spur;refine⟨_,rq,.inl ⟨rq,_,SqL.of (t1 _ _ hyj)⟩,_,rq,ua,_,rq,.inr (SqT.of hp2),_,_,rq,rq,_,rq,by omega,by omega,λl2 hl2=>?_⟩;rw[show ((wp'.length:Int)+1).toNat=p.spur.length+1 by omega];have sjt:=sj.trans t1;have hyt:=t1 _ _ hyj;have pjt:=Paired.Ax pj λ_ _ (z:BL HJ _ _)=>z.tups (Am.of t1);generalize upd HJ pt (.tup [.int ((1+j:Nat):Int),.ref tp])=HT at sjt hyt pjt hl2;let J4:YN:=λk U HC=>∃(u:Option V) (zs:YG),U=[u,some (.int (i:Int)),some (.int ((1+j:Nat):Int))]/\HC l2=some (.lst zs)/\Same HT HC/\Paired (BL HC) zs ((List.range k).map λn:Nat=>⟨(i:Int),((1+j:Nat):Int),(n:Int)⟩);refine Kp J4 ⟨none,[],rq,Ab,Ag hl2 _,.nil⟩ (λk U HC hk h=>?_) (fun U HC h=>?_)
   ·obtain⟨u,zs,rfl,c1,c2,c3⟩:=h;refine⟨_,rq,_,rq,_,rq,Av (by show 3<=1000;decide),λtq htq=>?_⟩;have s3:=Ag htq (.tup [.int (i:Int),.int ((1+j:Nat):Int),.int (0+(k:Int))]);have c1':=s3 _ _ c1;have lz:=Qcd c3;rw[QbH,Qbu] at lz;have n1:∀zs',(upd HC tq (.tup [.int (i:Int),.int ((1+j:Nat):Int),.int (0+(k:Int))])) l2≠some (.tup zs'):=λzs' z=>by rw[c1'] at z;cases z
    have t4:=Am.upd (o:=.lst (zs++[.ref tq])) n1;refine⟨_,c1',Ar (by omega),_,zs++[.ref tq],rq,Ab,(c2.trans s3).Bl Ai.upd hl2,?_⟩;rw[List.range_succ,QbI];refine Qcy ⟨tq,rq,?_⟩ (Paired.Ax c3 λ_ _ z=>(z.tups (Am.of s3)).tups t4);refine t4 _ _ ?_;rw[Ab,Qcu]
   obtain⟨u,zs,rfl,c1,c2,c3⟩:=h;have lz:=Qcd c3;rw[QbH,Qbu] at lz;have hyC:=c2 _ _ hyt;refine⟨l,l2,_,_,rq,rq,hyC,c1,Av (by omega),?_⟩;have n2:∀zs',HC l≠some (.tup zs'):=λzs' z=>by rw[hyC] at z;cases z
   have t5:=Am.upd (o:=.lst (ys++zs)) n2;refine⟨ys++zs,_,_,_,_,rq,(sjt.trans c2).Bl Ai.upd fl,Ab,?_⟩;rw[Dn,ej,show ∀(a:YV) (x:Sp3) (b c:YV),a++x::(b++c)=(a++x::b)++c from λa x b c=>by simp]
   exact Paired.app (Paired.Ax pjt λ_ _ z=>(z.tups (Am.of c2)).tups t5) (Paired.Ax c3 λ_ _ z=>z.tups t5)
  ·obtain⟨ys,u4,u5,u6,u7,rfl,sj,hyj,pj⟩:=h;exact⟨ys,_,_,_,_,_,_,rq,sj,hyj,by rw[Dn,ek,<-lws];exact pj⟩
 ·obtain⟨ys,u2,u3,u4,u5,u6,u7,rfl,sm,hy,py⟩:=h;rw[lvs] at py;exact⟨_,rq,q l ys HH fl hy py sm⟩
abbrev xn:YF:=["at","place","loop"]
theorem jA (c:Code K mg "openers" Ot Lw) (T:Tx K mg op oe):Good P w K mg base "openers" 1 Lw vG:=by
 refine c.good MF (λvs H Q E h=>?_) (λf cdv A outer s H vs Q E hr h=>?_)
 ·obtain⟨pl,ja,rfl,_⟩:=h;rfl
 obtain⟨pl,ja,rfl,⟨v0,v2,Ls,vs,hpl,hLs,hlo⟩,ok,q⟩:=h;refine⟨_,(Ae (Bb (i:=1) MF.nd rfl (Or.inl rfl) (Ce Ac))
 (Ae (Cd QbL rfl (U7 rfl T.enumerate (Bm BW (pv 0) Af (λ_ _=>rfl))) (CQ rfl (Aq (Aj (i:=2) MF.nd rfl (Or.inr rfl)) (Aq (Aj (i:=3) MF.nd rfl (Or.inl rfl)) Bt)))
 (Ae (Bk (Cw Qar Qan Qao Ci (pv 1) (Aa (Bg (Aa (pv 2) (Aa Af Ac))) Ac)))
 (Ae (Bk (Cw Qar Qap Qaq Fo (pv 1) (Aa (Cq (N':=xn) rfl (Bo.of (src:=[none,none,some 2]) (Ak Ot) xN rfl rfl rfl (by trivial) (by trivial) (by trivial) rfl (by trivial)) (NT rfl T.enumerate (pv 3) Af) (λ_ _ _ _=>(FW (K:=K) (n:=2) rfl rfl (Aq (Aj (i:=0) (show List.Nodup (xn:YF) by trivial) rfl (Or.inl rfl)) (Aq (Aj (i:=1) (show List.Nodup (xn:YF) by trivial) rfl (Or.inl rfl)) Bt)))) (λ_ _ _ _=>(Gy (Bs (nO (K:=K) rfl hr.units) (pv 1) (RK rfl T.OPENER) (Bq _)))) (λ_ _ _ _=>(Bg (Aa (pv 2) (Aa (pv 0) Ac))))) Ac)))
 (Ah (Bk (Cw Qar Qan Qao Ci (pv 1) (Aa (Bg (Aa (pv 2) (Aa (Bj Cg (Az Bh rfl T.len Cu (Aa (pv 3) Ac)) Af) Ac))) Ac)))))))
 (Ah (Bc (pv 1))))),?_⟩
 show let R0:TS:=_;let R1:TS:=Al _ R0;let R2:TS:=Al _ R1;let R3:TS:=Al (Dg _ _ R2) _;Al _ R3 _ _ _;intro R0 R1 R2 R3;generalize hst:L2.start _ _=σ0;have e0:σ0=[jp pl,none,none,none]:=hst.symm;clear hst;subst e0;refine⟨Av (by show 0<=1000;decide),λl fl=>?_⟩;simp only[QaY,QaX];have s1:=Ag fl (.lst []);have lvs:=Qcd hlo;refine⟨_,rq,pl,_,_,_,rq,rq,SqT.of (s1 _ _ hpl),rq,Ls,rq,⟨vs,SqT.of (s1 _ _ hLs)⟩,?_⟩;let J5:YN:=λi U HH=>∃(ys:YG) (u2 u3:Option V),U=[jp pl,jp l,u2,u3]/\Same H HH/\HH l=some (.lst ys)/\Paired (DP HH) ys (up (gtL ja) i);refine Jx (xs:=vs) (lo:=0) J5 ⟨[],_,_,rq,s1,Ab,.nil⟩ (λi U HH _ h=>?_) (λi x pt U HH hx h hpt=>?_) (fun U HH h=>?_)
 ·obtain⟨ys,_,_,_,sm,_⟩:=h;exact SqT.of (sm _ _ hLs)
 ·obtain⟨ys,u2,u3,rfl,sm,hy,py⟩:=h;obtain⟨ps,hps,hL⟩:=Paired.Ck hlo hx;obtain⟨t,ws,rfl,ht,hws⟩:=id hL;have okl:=ok.ok ps (QaI hps);have ek:gtL ja i=(⟨i,0⟩::up (gt1 i ps) ps.length)++[⟨(i:Int),(ps.length:Int)+1⟩]:=CW hps;have lws:=Qcd hws;have t0:=Ag hpt (.tup [.int ((0+i:Nat):Int),.ref t]);refine⟨pt,_,rq,SqT.of Ab,rq,_,_,rq,_,_,rq,rq,?_⟩;have sm0:=sm.trans t0;have hy0:=t0 _ _ hy;have py0:=Paired.Ax py λ_ _ (z:DP HH _ _)=>z.tups (Am.of t0);generalize upd HH pt (.tup [.int ((0+i:Nat):Int),.ref t])=HA at sm0 hy0 py0;simp only[QaY,QaX,Nat.zero_add];have hil:=(Qah.mp hps).1;have lu:=Ek (gR ok) i;have hhi:=ok.hi;have ly0:=Qcd py0;refine⟨_,rq,.inl ⟨rq,_,SqL.of hy0⟩,_,rq,Av (by show 2<=1000;decide),λtz htz=>?_⟩;have t3:=Ag htz (.tup [.int (i:Int),.int 0]);refine⟨l,_,_,rq,rq,t3 _ _ hy0,Ar (by omega),?_⟩;have n0:∀zs,(upd HA tz (.tup [.int (i:Int),.int 0])) l≠some (.tup zs):=λzs z=>by rw[t3 _ _ hy0] at z;cases z
  have tt:=Am.upd (o:=.lst (ys++[.ref tz])) n0;have sm1:Same H (upd (upd HA tz (.tup [.int (i:Int),.int 0])) l (.lst (ys++[.ref tz]))):=(sm0.trans t3).Bl Ai.upd fl;have py1:Paired (DP _) (ys++[.ref tz]) (up (gtL ja) i++[⟨(i:Int),0⟩]):=Qcy ⟨tz,rq,tt _ _ Ab⟩ (Paired.Ax py0 λ_ _ z=>(z.tups (Am.of t3)).tups tt);have hy1:(upd (upd HA tz (.tup [.int (i:Int),.int 0])) l (.lst (ys++[.ref tz]))) l=some (.lst (ys++[.ref tz])):=Ab;generalize upd (upd HA tz (.tup [.int (i:Int),.int 0])) l (.lst (ys++[.ref tz]))=HB at sm1 py1 hy1;generalize ys++[.ref tz]=ys1 at py1 hy1;have ly1:=Qcd py1;rw[QaU] at ly1;have ly1:ys1.length<=14*i+1:=by rw[ly1];show _+1<=_;omega
  refine⟨_,rq,.inl ⟨rq,_,SqL.of hy1⟩,_,rq,t,rq,⟨ws,SqT.of (sm1 _ _ ht)⟩,λl2 hl2=>?_⟩;let J6:YN:=λk U HC=>∃(u v:Option V) (zs:YG),U=[u,v,some (.int (i:Int))]/\HC l2=some (.lst zs)/\Same HB HC/\Paired (DP HC) zs (up (gt1 i ps) k);refine pY (xs:=ws) (lo:=1) J6 ⟨none,none,[],rq,Ab,Ag hl2 _,.nil⟩ (λk U HC _ h=>?_) (λk x pt U HC hx h hpt=>?_) (fun U HC h=>?_)
  ·obtain⟨_,_,zs,_,_,sc,_⟩:=h;exact SqT.of (sc _ _ (sm1 _ _ ht))
  ·obtain⟨u,v,zs,rfl,c1,c2,c3⟩:=h;obtain⟨p,hp,hP⟩:=Paired.Ck hws hx;have okp:=okl.ok p (QaI hp);have ej:gt1 i ps k=if V.str p.kind=V.str "opener" then [⟨(i:Int),((1+k:Nat):Int)⟩] else []:=CW hp
   have hkl:=(Qah.mp hp).1;have h12:=okl.hi;have lk:=Ek (T3 (lp:=i) (ps:=ps)) k;have lz:=Qcd c3;have t1:=Ag hpt (.tup [.int ((1+k:Nat):Int),x]);have hpa:=hP.tups (Am.of ((sm1.trans c2).trans t1));refine⟨pt,_,rq,SqT.of Ab,rq,_,_,rq,_,_,rq,rq,?_⟩;refine⟨_,rq,NP p,opD,hpa.rep,.tup (T.opT _) (.cons (.str _) (.cons (.int _) (.cons (.tup (T.opE _) .nil) .nil))),RJ okp,(by trivial),_,rq,?_⟩;rw[XR okp];by_cases ck:V.str p.kind=V.str "opener"
   ·rw[QbY ck];rw[if_pos ck] at ej;refine Cr ⟨_,rq,_,rq,Av (by show 2<=1000;decide),λtq htq=>?_⟩;have s3:=Ag htq (.tup [.int (i:Int),.int ((1+k:Nat):Int)]);have t13:=t1.trans s3;have c1':=t13 _ _ c1;have n1:∀zs',(upd (upd HC pt (.tup [.int ((1+k:Nat):Int),x])) tq (.tup [.int (i:Int),.int ((1+k:Nat):Int)])) l2≠some (.tup zs'):=λzs' z=>by rw[c1'] at z;cases z
    have t4:=Am.upd (o:=.lst (zs++[.ref tq])) n1;refine⟨_,c1',Ar (by omega),_,_,zs++[.ref tq],rq,Ab,(c2.trans t13).Bl Ai.upd hl2,?_⟩;rw[Dn,ej];exact Qcy ⟨tq,rq,t4 _ _ Ab⟩ (Paired.Ax c3 λ_ _ z=>(z.tups (Am.of t13)).tups t4)
   ·rw[QbM ck];rw[if_neg ck] at ej;refine Cp ⟨_,_,zs,rq,t1 _ _ c1,c2.trans t1,?_⟩;rw[Dn,ej,QbK];exact Paired.Ax c3 λ_ _ z=>z.tups (Am.of t1)
  obtain⟨u,v,zs,rfl,c1,c2,c3⟩:=h;have lz:=Qcd c3;have lk:=Ek (T3 (lp:=i) (ps:=ps)) ws.length;have h12:=okl.hi;have hyC:=c2 _ _ hy1;refine⟨l,l2,_,_,rq,rq,hyC,c1,Av (by omega),?_⟩;have n2:∀zs',HC l≠some (.tup zs'):=λzs' z=>by rw[hyC] at z;cases z
  have t5:=Am.upd (o:=.lst (ys1++zs)) n2;have sm2:Same H (upd HC l (.lst (ys1++zs))):=(sm1.trans c2).Bl Ai.upd fl;have py2:Paired (DP _) (ys1++zs) ((up (gtL ja) i++[⟨(i:Int),0⟩])++up (gt1 i ps) ws.length):=Paired.app (Paired.Ax py1 λ_ _ z=>(z.tups (Am.of c2)).tups t5) (Paired.Ax c3 λ_ _ z=>z.tups t5);have hy2:(upd HC l (.lst (ys1++zs))) l=some (.lst (ys1++zs)):=Ab;have ly2:(ys1++zs).length<=100:=by rw[QaU];omega
  generalize upd HC l (.lst (ys1++zs))=HD at sm2 py2 hy2;generalize ys1++zs=ys2 at py2 hy2 ly2;refine⟨_,rq,.inl ⟨rq,_,SqL.of hy2⟩,_,rq,_,rq,t,_,rq,.inr (SqT.of (sm2 _ _ ht)),_,_,rq,rq,Av (by show 2<=1000;decide),λte hte=>?_⟩;have t6:=Ag hte (.tup [.int (i:Int),.int ((ws.length:Int)+1)]);have hy3:=t6 _ _ hy2;refine⟨l,_,_,rq,rq,hy3,Ar (by omega),?_⟩;have n3:∀zs',(upd HD te (.tup [.int (i:Int),.int ((ws.length:Int)+1)])) l≠some (.tup zs'):=λzs' z=>by rw[hy3] at z;cases z
  have t7:=Am.upd (o:=.lst (ys2++[.ref te])) n3;refine⟨ys2++[.ref te],_,_,rq,(sm2.trans t6).Bl Ai.upd fl,Ab,?_⟩;rw[Dn,ek,<-lws,show ∀(a:List Gt) (x:Gt) (b c:List Gt),a++(x::b++c)=(a++[x]++b)++c from λa x b c=>by simp]
  exact Qcy ⟨te,rq,t7 _ _ Ab⟩ (Paired.Ax py2 λ_ _ z=>(z.tups (Am.of t6)).tups t7)
 ·obtain⟨ys,u2,u3,rfl,sm,hy,py⟩:=h;rw[lvs] at py;exact⟨_,rq,q l ys HH fl hy py sm⟩
end
abbrev WD:Stmt:=top 33
abbrev Qj:YF:=["plan","loop"]
theorem Qv:Ba ["plan","loop","told","at","place"] Qj (Ak WD):=by ac_rfl
def stP (lp:Int) (ps:List Place):Nat->List (YV)×YV
 | 0=>([],[])
 | i+1=>match ps[i]? with
  | none=>stP lp ps i
  | some p=>if V.str p.kind=V.str "opener" then ((stP lp ps i).1++[(stP lp ps i).2],[]) else ((stP lp ps i).1,(stP lp ps i).2++(Cj lp ((1+i:Nat):Int) p).map Sd.spot)
theorem Vu {lp:Int} {ps:List Place} {i:Nat} {p:Place} (h:ps[i]?=some p) (k:V.str p.kind=V.str "opener"):stP lp ps (i+1)=((stP lp ps i).1++[(stP lp ps i).2],[]):=by
 show (match ps[i]? with | none=>stP lp ps i | some p=>if V.str p.kind=V.str "opener" then ((stP lp ps i).1++[(stP lp ps i).2],[]) else ((stP lp ps i).1,(stP lp ps i).2++(Cj lp ((1+i:Nat):Int) p).map Sd.spot))=_
 rw[h];exact if_pos k
theorem Tg {lp:Int} {ps:List Place} {i:Nat} {p:Place} (h:ps[i]?=some p) (k:¬V.str p.kind=V.str "opener"):stP lp ps (i+1)=((stP lp ps i).1,(stP lp ps i).2++(Cj lp ((1+i:Nat):Int) p).map Sd.spot):=by
 show (match ps[i]? with | none=>stP lp ps i | some p=>if V.str p.kind=V.str "opener" then ((stP lp ps i).1++[(stP lp ps i).2],[]) else ((stP lp ps i).1,(stP lp ps i).2++(Cj lp ((1+i:Nat):Int) p).map Sd.spot))=_
 rw[h];exact if_neg k
theorem Pz {α β : Type} {F G:α->β->Prop}:∀{l₁ : List α} {l₂ : List β},Paired F l₁ l₂->(∀a∈l₁,∀b,F a b->G a b)->Paired G l₁ l₂
 | _,_,.nil,_=>.nil
 | _,_,.cons r t,f=>.cons (f _ QaV _ r) (Pz t λa ha b=>f a (QaJ _ ha) b)
theorem VG {α β : Type} {F:α->β->Prop}:∀{l₁ : List α} {l₂ : List β} {a:α},Paired F l₁ l₂->a∈l₁->∃b,F a b
 | _,_,_,.nil,h=>by cases h
 | _,_,_,.cons r t,h=>by
  rcases Qce.mp h with rfl | h
  ·exact⟨_,r⟩
  ·exact VG t h
theorem Ra {α β : Type} {F:α->β->Prop}:∀{a₁ b₁ : List α} {a₂ b₂ : List β},Paired F a₁ a₂->Paired F b₁ b₂->Paired F (a₁++b₁) (a₂++b₂)
 | _,_,_,_,.nil,t=>t
 | _,_,_,_,.cons r s,t=>.cons r (Ra s t)
def Mq (H:Hp) (v:V) (sp:YV):Prop:=∃q ys,v=.ref q/\H q=some (.lst ys)/\Paired (BL H) ys sp
def fV:Sp:=λvs H Q _=>∃(pl Ls t:Addr) (v0 v2:V) (ls ws:YG) (k:Nat) (ps:List Place),vs=[.ref pl,.int (k:Int)]/\H pl=some (.tup [v0,.ref Ls,v2])/\H Ls=some (.tup ls)/\ls[k]?=some (.ref t)/\H t=some (.tup ws)/\Paired (Ea H) ws ps/\(∀p∈ps,OkP p)/\ps.length<=12 /\
 ∀l xs H',H l=none->H' l=some (.lst xs)->Paired (Mq H') xs ((stP k ps ps.length).1++[(stP k ps ps.length).2])->(∀x∈xs,∃q,x=.ref q/\H q=none/\q≠l)->Same H H'->Q (.ref l) H'
section
variable {P:Program} {w:World} {K:YD} {mg:YB} {base:Heap} {op oe:Addr}
abbrev xf:YF:=["spot","kind","address"]
theorem sG (c:Code K mg "parts" WD Qj) (T:Tx K mg op oe) (Km:Good P w K mg base "place_devices" 1 Et qP):Good P w K mg base "parts" 2 Qj fV:=by
 refine c.good Qv (λvs H Q E h=>?_) (λf cdv A outer s H vs Q E hr h=>?_)
 ·obtain⟨pl,Ls,t,v0,v2,ls,ws,k,ps,rfl,_⟩:=h;rfl
 obtain⟨pl,Ls,t,v0,v2,ls,ws,k,ps,rfl,hpl,hLs,hk,ht,hps,hok,h12,q⟩:=h;refine⟨_,(Ae (Bb (i:=2) Qv.nd rfl (Or.inl rfl) (Ce (Aa (Ce Ac) Ac)))
 (Ae (Cd QbL rfl (NT rfl T.enumerate (Bm BW (Bm BW (pv 0) Af (λ_ _=>rfl)) (pv 1) (λ_ _=>rfl)) Af) (CQ rfl (Aq (Aj (i:=3) Qv.nd rfl (Or.inl rfl)) (Aq (Aj (i:=4) Qv.nd rfl (Or.inl rfl)) Bt)))
 (Ah (BX (Bs (nO (K:=K) rfl hr.units) (pv 4) (RK rfl T.OPENER) (Bq _)) (Ah (Bk (Cw Qar Qan Qao Ci (pv 2) (Aa (Ce Ac) Ac)))) (Ah (Bk (Cw Qar Qap Qaq Fo (Bm Df (pv 2) (QC Ni Af) (λ_ _=>rfl)) (Aa (Cq (N':=xf) rfl (Bo.plain rfl (by trivial) (by trivial) (by trivial)) (Du (Ay Km hr (Aa (pv 1) (Aa (pv 3) (Aa (pv 4) Ac))))) (λ_ _ _ _=>(FW (K:=K) (n:=3) rfl rfl (Aq (Aj (i:=0) (show List.Nodup (xf:YF) by trivial) rfl (Or.inl rfl)) (Aq (Aj (i:=1) (show List.Nodup (xf:YF) by trivial) rfl (Or.inl rfl)) (Aq (Aj (i:=2) (show List.Nodup (xf:YF) by trivial) rfl (Or.inl rfl)) Bt))))) (λ_ _ _ _=>Di) (λ_ _ _ _=>(pv 0))) Ac)))))))
 (Ah (Bc (pv 2))))),?_⟩
 show let R0:TS:=_;let R1:TS:=_;let R2:TS:=FQ _ R0 R1;let R3:TS:=Al (Dg _ _ R2) _;Al _ R3 _ _ _;intro R0 R1 R2 R3;generalize hst:L2.start _ _=σ0;have e0:σ0=[jp pl,some (.int (k:Int)),none,none,none]:=hst.symm;clear hst;subst e0;refine⟨(by show 0<=sizeLine;decide),λq0 hq0=>⟨(by show 1<=sizeLine;decide),λl hl=>?_⟩⟩;have s1:=Ag hq0 (.lst []);have s2:=Ag hl (.lst [.ref q0]);have sm:=s1.trans s2;have hl0:=s1.free hl;have el:_=some (HO.lst [.ref q0]):=Ab (H:=upd H q0 (.lst [])) (a:=l) (o:=.lst [.ref q0]);have eq0:_=some (HO.lst []):=s2 _ _ (Ab (H:=H) (a:=q0) (o:=.lst []));have nq:q0≠l:=Aw (Ab (H:=H) (a:=q0) (o:=.lst [])) hl;generalize hX:upd (upd H q0 (.lst [])) l (.lst [.ref q0])=H1 at sm el eq0;simp only[QaY,QaX];have FC:ws.length=ps.length:=Qcd hps;refine⟨_,rq,pl,_,_,_,rq,rq,SqT.of (sm _ _ hpl),rq,_,rq,Ls,_,_,_,rq,rq,SqT.of (sm _ _ hLs),DY hk,t,rq,⟨ws,SqT.of (sm _ _ ht)⟩,?_⟩;let J0:YN:=λi U HH=>∃qs ql u3 u4,U=[jp pl,some (.int (k:Int)),jp l,u3,u4]/\Same H HH/\HH l=some (.lst (qs++[.ref ql]))/\Paired (Mq HH) qs (stP k ps i).1/\Mq HH (.ref ql) (stP k ps i).2/\(∀x∈qs,∃q,x=.ref q/\H q=none/\q≠l/\q≠ql)/\H ql=none/\ql≠l/\qs.length<=i/\(stP k ps i).2.length<=4*i;refine Jx (xs:=ws) (lo:=1) J0
  ⟨[],q0,_,_,rq,sm,el,.nil,⟨q0,[],rq,eq0,.nil⟩,λx hx=>(by cases hx),hq0,nq,Qcw _,Qcw _⟩ (λi U HH _ h=>?_) (λi x pt U HH hx h hpt=>?_) (fun U HH h=>?_)
 ·obtain⟨qs,ql,_,_,_,sb,_⟩:=h;exact SqT.of (sb _ _ ht)
 ·obtain⟨qs,ql,u3,u4,rfl,sb,hy,pd,pc,fq,fl,nl,lq,lc⟩:=h;obtain⟨p,hpi,hpa⟩:=Paired.Ck hps hx;have okp:=hok p (QaI hpi);have hpa:=hpa.tups (Am.of sb);have t0:=Ag hpt (.tup [.int ((1+i:Nat):Int),x]);have uh:=hpa.tups (Am.of t0);have il:i < ps.length:=(Qah.mp hpi).1;have sb0:=sb.trans t0;have hy0:=t0 _ _ hy;have pd0:=Paired.Ax pd λ_ _ (z:Mq HH _ _)=>(show Mq (upd HH pt (.tup [.int ((1+i:Nat):Int),x])) _ _ from let ⟨a,ys,e1,e2,e3⟩:=z;⟨a,ys,e1,t0 _ _ e2,Paired.Ax e3 λ_ _ y=>y.tups (Am.of t0)⟩)
  have pc0:Mq (upd HH pt (.tup [.int ((1+i:Nat):Int),x])) (.ref ql) (stP k ps i).2:=let ⟨a,ys,e1,e2,e3⟩:=pc;⟨a,ys,e1,t0 _ _ e2,Paired.Ax e3 λ_ _ y=>y.tups (Am.of t0)⟩;refine⟨pt,_,rq,SqT.of Ab,rq,_,_,rq,_,_,rq,rq,?_⟩;generalize upd HH pt (.tup [.int ((1+i:Nat):Int),x])=HA at uh sb0 hy0 pd0 pc0;simp only[QaY,QaX];refine⟨_,rq,NP p,opD,uh.rep,.tup (T.opT HA) (.cons (.str _) (.cons (.int _) (.cons (.tup (T.opE HA) .nil) .nil))),RJ okp,(by trivial),_,rq,?_⟩;rw[XR okp];by_cases ck:V.str p.kind=V.str "opener"
  ·rw[QbY ck];refine Cr ⟨_,rq,.inl ⟨rq,_,SqL.of hy0⟩,(by show 0<=sizeLine;decide),λqn hqn=>?_⟩;have t1:=Ag hqn (.lst []);refine⟨l,_,_,rq,rq,t1 _ _ hy0,Ar (by rw[QaU];simp only[QaF];omega),?_⟩;have nln:l≠qn:=Aw hy0 hqn;have sS:Ai l HA (upd (upd HA qn (.lst [])) l (.lst (qs++[.ref ql]++[.ref qn]))):=(Ai.of t1).trans Ai.upd;have eqn:(upd (upd HA qn (.lst [])) l (.lst (qs++[.ref ql]++[.ref qn]))) qn=some (.lst []):=by rw[Ao nln.symm,Ab]
   have ell:(upd (upd HA qn (.lst [])) l (.lst (qs++[.ref ql]++[.ref qn]))) l=some (.lst (qs++[.ref ql]++[.ref qn])):=Ab;have nlt:∀zs,HA l≠some (.tup zs):=λzs z=>by rw[hy0] at z;cases z
   generalize upd (upd HA qn (.lst [])) l (.lst (qs++[.ref ql]++[.ref qn]))=HB at sS eqn ell;have keep:∀v sp,Mq HA v sp->v≠.ref l->Mq HB v sp:=λv sp z n=>by
    obtain⟨a,ys,e1,e2,e3⟩:=z;exact⟨a,ys,e1,sS _ _ e2 (λw=>n (by rw[e1,w])),Paired.Ax e3 λ_ _ y=>y.tups (sS.tup nlt)⟩
   have fqn:=sb0.free hqn;refine⟨qs++[.ref ql],qn,_,_,rq,sb0.Bl sS hl0,ell,?_,⟨qn,[],rq,eqn,?_⟩,λy hy'=>?_,fqn,nln.symm,by rw[QaU];simp only[QaF];omega,?_⟩
   ·rw[Vu hpi ck];refine Qcy (keep _ _ pc0 λz=>nl (by injection z)) ?_;exact Pz pd0 λy hy' sp z=>keep _ _ z λw=>by
     obtain⟨a,e,_,n,_⟩:=fq y hy';rw[e] at w;injection w with w;exact n w
   ·rw[Vu hpi ck];exact .nil
   ·rcases QbJ.mp hy' with z | z
    ·obtain⟨a,e,f1,n1,n2⟩:=fq y z;have hm:y∈qs:=z;refine⟨a,e,f1,n1,λw=>?_⟩;obtain⟨sp,Hn⟩:=VG pd0 hm;obtain⟨a',ys,e1,e2,_⟩:=Hn;rw[e] at e1;injection e1 with e1;rw[<-e1,w,hqn] at e2;cases e2
    ·have hz:y=.ref ql:=by simpa using z
     refine⟨ql,hz,fl,nl,λw=>?_⟩;obtain⟨a',ys,e1,e2,_⟩:=pc0;injection e1 with e1;rw[<-e1,w,hqn] at e2;cases e2
   ·rw[Vu hpi ck];exact Qcx _
  ·rw[QbM ck];obtain⟨a,yc,ea,eyc,pcs⟩:=id pc0;injection ea with ea;subst ea;refine Cp ⟨_,rq,_,rq,l,_,_,_,rq,rq,SqL.of hy0,cO qs (.ref ql),.inl ⟨rq,_,SqL.of eyc⟩,?_⟩;refine⟨_,rq,_,rq,_,rq,(k:Int),((1+i:Nat):Int),x,p,rq,uh,okp.spur,λld xs' HB fld hld pdd sB=>⟨ld,rq,⟨xs',SqL.of hld⟩,λl2 hl2=>?_⟩⟩;have lsd:(Cj k ((1+i:Nat):Int) p).length<=4:=by
    unfold Cj;rw[if_neg ck,Qby,Mz];have:=okp.spur;omega
   have lx:xs'.length<=4:=by rw[Qcd pdd];exact lsd
   let J1:YN:=λj U HH2=>∃u v w ys,U=[u,v,w]/\HH2=upd HB l2 (.lst ys)/\ys.length<=j/\Paired (BL HB) ys (((Cj k ((1+i:Nat):Int) p).take j).map Sd.spot);refine Gg (xs:=xs') J1 ⟨none,none,none,[],rq,rq,Qcw _,.nil⟩ (λj U HH2 _ h=>?_) (λj y U HH2 hyj h=>?_) (fun U HH2 h=>?_)
   ·obtain⟨u,v,w,ys,rfl,rfl,_⟩:=h;exact SqL.of (Ag hl2 _ _ _ hld)
   ·obtain⟨u,v,w,ys,rfl,rfl,lys,pys⟩:=h;obtain⟨d,hdj,td,ud,rfl,e1,e2⟩:=Paired.Ck pdd hyj;have jl:=(Qah.mp hyj).1;refine⟨td,_,rq,SqT.of (Ag hl2 _ _ _ e1),rq,_,_,rq,_,_,rq,_,_,rq,rq,_,rq,ys,Ab,Ar (by omega),_,_,_,ys++[.ref ud],rq,Te,by rw[QaU];simp only[QaF];omega,?_⟩;rw[List.take_succ,hdj,QbI];exact Qcy ⟨ud,rq,e2⟩ pys
   ·obtain⟨u,v,w,ys,rfl,rfl,lys,pys⟩:=h;rw[Qcd pdd,Qbx] at pys;have t2:=Ag hl2 (.lst ys);have s02:=sB.trans t2;have nq2:ql≠l2:=Aw (sB _ _ eyc) hl2;have lyc:yc.length<=4*i:=by rw[Qcd pcs];exact lc
    refine⟨ql,l2,_,_,rq,rq,s02 _ _ eyc,Ab,Av (by omega),?_⟩;have sS:Ai ql HA (upd (upd HB l2 (.lst ys)) ql (.lst (yc++ys))):=(Ai.of s02).trans Ai.upd;have eql:(upd (upd HB l2 (.lst ys)) ql (.lst (yc++ys))) ql=some (.lst (yc++ys)):=Ab;have nqt:∀zs,(upd HB l2 (.lst ys)) ql≠some (.tup zs):=λzs z=>by rw[s02 _ _ eyc] at z;cases z
    have tE:Am HB (upd (upd HB l2 (.lst ys)) ql (.lst (yc++ys))):=(Am.of t2).trans (Am.upd nqt);have nqa:∀zs,HA ql≠some (.tup zs):=λzs z=>by rw[eyc] at z;cases z
    generalize upd (upd HB l2 (.lst ys)) ql (.lst (yc++ys))=HC at sS eql tE;refine⟨qs,ql,_,_,rq,sb0.Bl sS fl,sS _ _ hy0 nl.symm,?_,⟨ql,yc++ys,rq,eql,?_⟩,fq,fl,nl,by omega,?_⟩
    ·rw[Tg hpi ck];exact Pz pd0 λy hy' sp z=>by
      obtain⟨a',ys',e1,e2,e3⟩:=z;obtain⟨b',f1,_,_,f4⟩:=fq y hy';refine⟨a',ys',e1,sS _ _ e2 (λw=>f4 ?_),Paired.Ax e3 λ_ _ y=>y.tups (sS.tup nqa)⟩;rw[e1] at f1;injection f1 with f1;rw[<-f1,w]
    ·rw[Tg hpi ck];exact Ra (Paired.Ax pcs λ_ _ y=>y.tups (sS.tup nqa)) (Paired.Ax pys λ_ _ y=>y.tups tE)
    ·rw[Tg hpi ck,QaU,QbH];omega
 ·obtain⟨qs,ql,u3,u4,rfl,sb,hy,pd,pc,fq,fl,nl,_⟩:=h;rw[FC] at pd pc;refine⟨_,rq,q l _ HH hl0 hy (Qcy pc pd) (λx hx=>?_) sb⟩;rcases QbJ.mp hx with z | z
  ·obtain⟨a,e,n,m,_⟩:=fq x z;exact⟨a,e,n,m⟩
  ·have:x=.ref ql:=by simpa using z
   exact⟨ql,this,fl,nl⟩
end
abbrev MK:Stmt:=top 9
abbrev Gd:YF:=["thing"]
theorem cZ:Ba Gd Gd (Ak MK):=by ac_rfl
abbrev Ph:Stmt:=top 10
abbrev Fl:YF:=["thing","low","high"]
theorem ZM:Ba ["thing","low","high"] Fl (Ak Ph):=by ac_rfl
abbrev U5:Stmt:=top 11
abbrev DK:YF:=["thing","least","most"]
theorem mQ:Ba ["thing","least","most"] DK (Ak U5):=by ac_rfl
abbrev Nv:Stmt:=top 12
abbrev Ft:YF:=["thing","many"]
theorem Yr:Ba ["thing","many"] Ft (Ak Nv):=by ac_rfl
theorem Gn {b:Bool} {A B:Prop} (h1:b=true->A) (h2:b=false->B):if b=true then A else B:=by
 cases b with
 | true=>exact Cr (h1 rfl)
 | false=>exact Cp (h2 rfl)
theorem uw {i:Nat} {v:V} {U : St} {H:Hp} {Q:YO} (h:Q (U.set i (some v)) H):FN i v U H Q:=h
theorem Lj {I R:TS} {D:Ends} {U : St} {H:Hp} (P:YO) (hR:∀ σ' H',P σ' H'->R D σ' H') (hI:∀D':Ends,(∀ σ' H',P σ' H'->D'.nx σ' H')->I D' U H):Al I R D U H:=hI { D with nx:=fun U H=>R D U H } hR
def iv (xs:List Int):YG:=xs.map V.int
def spW:Sp:=λvs H Q _=>∃i:Int,vs=[.int i]/\Q (.bl true) H
def Nr:Sp:=λvs H Q _=>∃x lo hi:Int,vs=[.int x,.int lo,.int hi]/\Q (.bl (decide (lo<=x/\x<=hi))) H
def zB:Sp:=λvs H Q _=>∃v,vs=[v]/\Kn H v/\Q (.bl (isW v)) H
def U6 (o:Option (YG)) (a b:Int):Bool:=match o with
 | some xs=>decide (a<=xs.length)&&decide ((xs.length:Int)<=b)
 | none=>false
def Hz:Sp:=λvs H Q _=>∃v a b,vs=[v,.int a,.int b]/\Kn H v/\Q (.bl (U6 (JM H v) a b)) H
structure Th (H:Hp) (v:V):Prop where
 kn:Kn H v
 parts:∀xs,JM H v=some xs->xs.length<=100/\∀y∈xs,Kn H y
def Td (o:Option (YG)) (n:Int):Bool:=match o with
 | some xs=>U6 (some xs) n n&&xs.all isW
 | none=>false
theorem Rk {xs:YG} {n:Int}:Td (some xs) n=(U6 (some xs) n n&&xs.all isW):=rfl
def Oq:Sp:=λvs H Q _=>∃v n,vs=[v,.int n]/\Th H v/\∀H',Same H H'->Q (.bl (Td (JM H v) n)) H'
theorem yp {P:Program} {w:World} {K:YD} {mg:YB} {base:Heap} {x:Str} {k:Nat} {ps:YF} {sp sp':Sp} (g:Good P w K mg base x k ps sp) (h:∀vs H Q E,sp' vs H Q E->sp vs H Q E):Good P w K mg base x k ps sp':=⟨let ⟨f,fd,a,b,c,F⟩:=g.ex;⟨f,fd,a,b,c,F.imp h⟩⟩
section
variable {P:Program} {w:World} {K:YD} {mg:YB} {base:Heap}
theorem RN (c:Code K mg "is_whole" MK Gd) (T:Nm mg):Good P w K mg base "is_whole" 1 Gd zB:=by
 refine c.good cZ (λvs H Q E h=>?_) (λf cdv A outer s H vs Q E hr h=>?_)
 ·obtain⟨v,rfl,_⟩:=h;rfl
 obtain⟨v,rfl,k,q⟩:=h;refine⟨_,(Ah (Bc (EY (Az Oi rfl T.isinstance Hj (Aa (pv 0) (Aa (Qg (v:=.ty "int") rfl T.int SX rfl) Ac))) (DG (zR (Az Oi rfl T.isinstance Hj (Aa (pv 0) (Aa (Qg (v:=.ty "bool") rfl T.bool yC rfl) Ac)))))))),?_⟩;refine⟨_,rq,xY k ⟨_,rq,?_⟩⟩;rw[AL] at q;cases e:isI v with
 | false=>rw[e] at q;exact Cp q
 | true=>rw[e] at q;exact Cr ⟨_,rfl,uf e ⟨_,rfl,q⟩⟩
theorem dz (c:Code K mg "is_whole" MK Gd) (T:Nm mg):Good P w K mg base "is_whole" 1 Gd spW:=yp (RN c T) λvs H Q E h=>let ⟨i,e,q⟩:=h;⟨.int i,e,True.intro,q⟩
theorem aR (c:Code K mg "is_within" Ph Fl) (T:Nm mg) (QV:Good P w K mg base "is_whole" 1 Gd spW):Good P w K mg base "is_within" 2 Fl Nr:=by
 refine c.good ZM (λvs H Q E h=>?_) (λf cdv A outer s H vs Q E hr h=>?_)
 ·obtain⟨x,lo,hi,rfl,_⟩:=h;rfl
 obtain⟨x,lo,hi,rfl,q⟩:=h;refine⟨_,(Ah (Bc (EY (Ay QV hr (Aa (pv 0) Ac)) (DG (QD OD OD (pv 1) (pv 0) (pv 2)))))),?_⟩;refine⟨_,rq,x,rq,_,rq,Cr ⟨_,rq,_,rq,_,_,rq,rq,_,rq,?_⟩⟩;by_cases h1:lo<=x
 ·rw[QbY h1];refine Cr ⟨_,rq,_,_,rq,rq,?_⟩;by_cases h2:x<=hi
  ·rw[QbY ⟨h1,h2⟩] at q;show Q (.bl (decide (x<=hi))) H;rw[QbY h2];exact q
  ·rw[QbM (λz=>h2 z.2)] at q;show Q (.bl (decide (x<=hi))) H;rw[QbM h2];exact q
 ·rw[QbM (λz=>h1 z.1)] at q;rw[QbM h1];exact Cp q
theorem nU (c:Code K mg "is_row" U5 DK) (T:Nm mg):Good P w K mg base "is_row" 1 DK Hz:=by
 refine c.good mQ (λvs H Q E h=>?_) (λf cdv A outer s H vs Q E hr h=>?_)
 ·obtain⟨v,a,b,rfl,_⟩:=h;rfl
 obtain⟨v,a,b,rfl,k,q⟩:=h;refine⟨_,(Ah (Bc (EY (Az Oi rfl T.isinstance Hj (Aa (pv 0) (Aa (Qg (v:=.ty "tuple") rfl T.tuple K1 rfl) Ac))) (DG (QD OD OD (pv 1) (Az Bh rfl T.len Cu (Aa (pv 0) Ac)) (pv 2)))))),?_⟩;refine⟨_,rq,oM k ⟨_,rq,?_⟩⟩;cases e:JM H v with
 | none=>rw[e] at q;exact Cp q
 | some xs=>
  rw[e] at q;obtain⟨p,rfl,hp⟩:=bh e;refine Cr ⟨_,rq,_,rq,p,xs,rq,.inr (SqT.of hp),_,_,rq,rq,_,rq,?_⟩;by_cases h1:a<=(xs.length:Int)
  ·rw[QbY h1];refine Cr ⟨_,rq,_,_,rq,rq,?_⟩;simpa [U6,h1] using q
  ·rw[QbM h1];refine Cp ?_;simpa [U6,h1] using q
abbrev xh:YF:=["part"]
theorem Yu (c:Code K mg "are_wholes" Nv Ft) (T:Nm mg) (QV:Good P w K mg base "is_whole" 1 Gd zB) (Cz:Good P w K mg base "is_row" 1 DK Hz):Good P w K mg base "are_wholes" 2 Ft Oq:=by
 refine c.good Yr (λvs H Q E h=>?_) (λf cdv A outer s H vs Q E hr h=>?_)
 ·obtain⟨v,n,rfl,_⟩:=h;rfl
 obtain⟨v,n,rfl,t,q⟩:=h;refine⟨_,(Ah (Bc (EY (Ay Cz hr (Aa (pv 0) (Aa (pv 1) (Aa (pv 1) Ac)))) (DG (Az (Ij rfl) rfl T.all Mp (Aa (Cq (N':=xh) rfl (Bo.plain rfl (by trivial) (by trivial) (by trivial)) (Fp (pv 0)) (λ_ _ _ _=>(Aj (i:=0) (show List.Nodup (xh:YF) by trivial) rfl (Or.inl rfl))) (λ_ _ _ _=>Di) (λ_ _ _ _=>(Ay QV hr (Aa (pv 0) Ac)))) Ac)))))),?_⟩;refine⟨_,rq,_,rq,_,rq,v,n,n,rq,t.kn,_,rq,?_⟩;cases e:JM H v with
 | none=>exact Cp (by have:=q H (Same.refl H);rw[e] at this;exact this)
 | some xs=>
  obtain⟨p,rfl,hp⟩:=bh e;have tp:=t.parts xs e;cases eb:U6 (some xs) n n with
  | false=>exact Cp (by have:=q H (Same.refl H);rw[e,Rk,eb] at this;exact this)
  | true=>
   refine Cr ⟨_,rq,p,rq,⟨xs,SqT.of hp⟩,λl hl=>?_⟩;have hpl:p≠l:=Aw hp hl;let J0:YN:=λi U H'=>∃u,U=[u]/\H'=upd H l (.lst ((xs.take i).map λy=>V.bl (isW y)));refine Vl (xs:=xs) J0 ⟨none,rq,rq⟩ (λi U H' _ h=>?_) (λi x U H' hx h=>?_) (fun U H' h=>?_)
   ·obtain⟨u,rfl,rfl⟩:=h;exact SqT.of (by rw[Ao hpl];exact hp)
   ·obtain⟨u,rfl,rfl⟩:=h;have sm:Same H (upd H l (.lst ((xs.take i).map λy=>V.bl (isW y)))):=Ag hl _;have et:(xs.take (i+1)).map (λy=>V.bl (isW y))=(xs.take i).map (λy=>V.bl (isW y))++[V.bl (isW x)]:=by rw[List.take_succ,hx];simp
    refine⟨_,rq,x,rq,(tp.2 x (QaI hx)).same sm,_,Ab,Ar (by rw[QbH,Qbz];omega),_,rq,?_⟩;rw[Te,et]
   ·obtain⟨u,rfl,rfl⟩:=h;refine⟨l,xs.map isW,rq,SqL.of ?_,?_⟩
    ·rw[Ab,Qbx,Qcq];rfl
    ·have:=q _ (Ag hl (.lst ((xs.take xs.length).map λy=>V.bl (isW y))));rw[e,Rk,eb,Bool.true_and] at this;rw[List.all_map];exact this
end
abbrev Pj:Stmt:=top 13
abbrev IV:YF:=["row"]
theorem ZP:Ba ["row"] IV (Ak Pj):=by ac_rfl
abbrev FJ:Stmt:=top 14
abbrev Ed:YF:=["thing","least","most","low","high"]
theorem Qw:Ba Ed Ed (Ak FJ):=by ac_rfl
abbrev Ry:Stmt:=top 15
abbrev Ma:YF:=Gd
theorem jo:Ba Gd Ma (Ak Ry):=by ac_rfl
abbrev Pq:Stmt:=top 20
abbrev Ho:YF:=["kind","address"]
theorem ZR:Ba ["kind","address"] Ho (Ak Pq):=by ac_rfl
abbrev Jq:Stmt:=top 21
abbrev Fq:YF:=Gd
theorem Ue:Ba Gd Fq (Ak Jq):=by ac_rfl
abbrev Rw:Stmt:=top 22
abbrev LQ:YF:=Gd
theorem jm:Ba Gd LQ (Ak Rw):=by ac_rfl
abbrev Qz:Stmt:=top 23
abbrev Ke:YF:=Gd
theorem Iz:Ba ["thing","kind","address","spur"] Ke (Ak Qz):=by ac_rfl
abbrev Rz:Stmt:=top 24
abbrev Mf:YF:=Gd
theorem jq:Ba Gd Mf (Ak Rz):=by ac_rfl
abbrev Rv:Stmt:=top 25
abbrev LK:YF:=Gd
theorem jk:Ba Gd LK (Ak Rv):=by ac_rfl
abbrev Pu:Stmt:=top 26
abbrev Jb:YF:=Gd
theorem ZW:Ba Gd Jb (Ak Pu):=by ac_rfl
abbrev Pr:Stmt:=top 27
abbrev Ja:YF:=Gd
theorem ZV:Ba Gd Ja (Ak Pr):=by ac_rfl
abbrev Rx:Stmt:=top 28
abbrev LR:YF:=Gd
theorem JW:Ba ["thing","most","loops","zones"] LR (Ak Rx):=by ac_rfl
structure Ty (K:YD) (mg:YB) (op oe kd wk:Addr):Prop extends Tx K mg op oe where
 KINDS:∃u,mg "KINDS"=some u/\RelV (.ref kd) u
 kdT:∀H,SqT K H kd [.str "seeker",.str "knob",.str "bell",.str "door"]
 WARNING_KINDS:∃u,mg "WARNING_KINDS"=some u/\RelV (.ref wk) u
 wkT:∀H,SqT K H wk [.str "seeker",.str "knob"]
 SMALL_LETTERS:∃u,mg "SMALL_LETTERS"=some u/\RelV (.str abc) u
theorem yF:∀c∈abc.cps.toList,(!(Builtin.Str.occurrences abc ⟨#[c]⟩ 0 abc.length 1).isEmpty)=true:=by
 have h:abc.cps.toList.all (λc=>!(Builtin.Str.occurrences abc ⟨#[c]⟩ 0 abc.length 1).isEmpty)=true:=by trivial
 exact λc hc=>List.all_eq_true.mp h c hc
theorem xW {k:Str} (h:Hg k):inV (.str k) [.str "seeker",.str "knob",.str "bell",.str "door"]=true:=by
 rcases h with rfl | rfl | rfl | rfl <;> decide +kernel
theorem Mj {K:YD} {a l:Addr} {xs:YG} {te:TE} {Q:VK} {r:St} {H:Hp} (hl:H l=none) (ha:H a=some (.tup xs)) (h100:xs.length<=100)
  (hs:∀(i:Nat) (x:V) (HH:Hp),xs[i]?=some x->Same H HH->∀R:VK,(∀H',Same HH H'->R (.bl true) H')->te (some x::r) HH R)
  (hq:∀H',H' l=some (.lst ((List.replicate xs.length true).map V.bl))->Same H H'->Q (.ref l) H'):Gh (Itt K a) (FN 0) (λ_ H Q=>Q true H) te Q (none::r) (upd H l (.lst [])) l:=by
 let J0:YN:=λi U HH=>∃u,U=u::r/\HH l=some (.lst ((List.replicate i true).map V.bl))/\Same H HH;refine Vl (xs:=xs) J0 ⟨_,rq,Ab,Ag hl _⟩ (λi U HH _ h=>?_) (λi x U HH hx h=>?_) (fun U HH h=>?_)
 ·obtain⟨u,rfl,_,s⟩:=h;exact SqT.of (s _ _ ha)
 ·obtain⟨u,rfl,e,s⟩:=h;have hi:=(Qah.mp hx).1;unfold FN;dsimp only;refine Cr (hs i x HH hx s _ λH' s'=>⟨_,s' _ _ e,Ar (by rw[QbH,List.length_replicate];omega),_,rq,?_,(s.trans s').Bl Ai.upd hl⟩);rw[Ab,List.replicate_succ',QbI];rfl
 ·obtain⟨u,rfl,e,s⟩:=h;exact hq _ e s
theorem Jg {H:Hp} {a:Addr} {xs:YG} (h:H a=some (.tup xs)):Kn H (.ref a):=by
 unfold Kn
 first
  | exact⟨_,h,True.intro⟩
  | exact .inr ⟨_,h⟩
  | exact⟨xs,.inr h⟩
theorem Fj {xs:YG} {a b:Int} (h1:a<=xs.length) (h2:(xs.length:Int)<=b):U6 (some xs) a b=true:=by
 show (decide (a<=xs.length)&&decide ((xs.length:Int)<=b))=true;rw[QbY h1,QbY h2];rfl
theorem Vo {n:Nat}:(List.replicate n true).all id=true:=by simp
structure NI (p:Place):Prop where
 ok:OkP p
 bd:∀x∈adP p,1<=x/\x<=99
def fX:Sp:=λvs H Q _=>∃z:Str,vs=[.str z]/\1<=z.length/\z.length<=8/\okS z/\∀H',Same H H'->Q (.bl true) H'
def mz:Sp:=λvs H Q _=>∃(a:Addr) (ns:List Int),vs=[.ref a]/\H a=some (.tup (ns.map V.int))/\ns.Pairwise (· < ·)/\ns.length<=100/\∀H',Same H H'->Q (.bl true) H'
def mq:Sp:=λvs H Q _=>∃(a:Addr) (ns:List Int) (lo hi l h:Int),vs=[.ref a,.int lo,.int hi,.int l,.int h]/\H a=some (.tup (ns.map V.int))/\ns.Pairwise (· < ·)/\ns.length<=100/\lo<=ns.length/\(ns.length:Int)<=hi/\(∀x∈ns,l<=x/\x<=h)/\∀H',Same H H'->Q (.bl true) H'
def Zy:Sp:=λvs H Q _=>∃(k:Str) (x:Int),vs=[.str k,.int x]/\Hg k/\1<=x/\x<=99/\Q (.bl true) H
def Zr:Sp:=λvs H Q _=>∃v d,vs=[v]/\Kq H v d/\Hg d.kind/\1<=d.addr/\d.addr<=99/\Q (.bl true) H
def fO:Sp:=λvs H Q _=>∃u ws ds,vs=[.ref u]/\H u=some (.tup ws)/\Paired (Kq H) ws ds/\ds.length<=3/\(∀d∈ds,Hg d.kind/\1<=d.addr/\d.addr<=99)/\∀H',Same H H'->Q (.bl true) H'
def Zt:Sp:=λvs H Q _=>∃v p,vs=[v]/\Ea H v p/\NI p/\∀H',Same H H'->Q (.bl true) H'
def fY:Sp:=λvs H Q _=>∃v ps,vs=[v]/\LoopAt H v ps/\OkL ps/\(∀x∈adL ps,1<=x/\x<=99)/\∀H',Same H H'->Q (.bl true) H'
def Zw:Sp:=λvs H Q _=>∃Ls ws ja,vs=[.ref Ls]/\H Ls=some (.tup ws)/\Paired (LoopAt H) ws ja/\(∀ps∈ja,OkL ps)/\(∀x∈CG ja,1<=x/\x<=99)/\1<=ja.length/\ja.length<=3/\∀H',Same H H'->Q (.bl true) H'
structure ZnB (z:Zone):Prop where
 nm:(1<=z.name.length/\z.name.length<=8)/\okS z.name
 up:z.adr.Pairwise (· < ·)/\1<=z.adr.length/\z.adr.length<=30
 bd:∀x∈z.adr,1<=x/\x<=99
def fK:Sp:=λvs H Q _=>∃v z,vs=[v]/\Jh H v z/\ZnB z/\∀H',Same H H'->Q (.bl true) H'
def Zq:Sp:=λvs H Q _=>∃zs ws jn,vs=[.ref zs]/\H zs=some (.tup ws)/\Paired (Jh H) ws jn/\(∀z∈jn,ZnB z)/\jn.length<=8/\(jn.map (·.name)).Nodup/\∀H',Same H H'->Q (.bl true) H'
structure Fg (H:Hp) (pl:Addr) (most:Int) (ja:YU) (jn:List Zone):Prop where
 at_:∃Ls zs vs zvs,H pl=some (.tup [.int most,.ref Ls,.ref zs])/\H Ls=some (.tup vs)/\Paired (LoopAt H) vs ja/\H zs=some (.tup zvs)/\Paired (Jh H) zvs jn
 ok:Fi ja
 lo:1<=ja.length
 pok:cU most ja jn
theorem Fg.tups {H H':Hp} {pl:Addr} {most:Int} {ja:YU} {jn:List Zone} (h:Fg H pl most ja jn) (s:Am H H'):Fg H' pl most ja jn:=by
 obtain⟨Ls,zs,vs,zvs,e1,e2,e3,e4,e5⟩:=h.at_;exact⟨⟨Ls,zs,vs,zvs,s _ _ e1,s _ _ e2,Paired.Ax e3 λ_ _ z=>z.tups s,s _ _ e4,Paired.Ax e5 λ_ _ z=>z.tups s⟩,h.ok,h.lo,h.pok⟩
theorem Fg.same {H H':Hp} {pl:Addr} {most:Int} {ja:YU} {jn:List Zone} (h:Fg H pl most ja jn) (s:Same H H'):Fg H' pl most ja jn:=h.tups (Am.of s)
theorem Fg.plan {H:Hp} {pl:Addr} {most:Int} {ja:YU} {jn:List Zone} (h:Fg H pl most ja jn):Wj H pl ja:=by
 obtain⟨Ls,zs,vs,zvs,e1,e2,e3,e4,e5⟩:=h.at_;exact⟨_,_,Ls,vs,e1,e2,e3⟩
def Tn:Sp:=λvs H Q _=>∃pl most ja jn,vs=[.ref pl]/\Fg H pl most ja jn/\∀H',Same H H'->Q (.bl true) H'
theorem Zd {α β γ : Type} {h:α->List β} {φ : γ->β} {g:Nat->α->List γ} (l:List α) (hg:∀i x,l[i]?=some x->(g i x).map φ=h x):∀n,n<=l.length->(up (λi=>ifs l[i]? (g i)) n).map φ=(l.take n).flatMap h
 | 0,_=>by rw[M6];simp
 | n+1,hn=>by
  have hi:l[n]?=some l[n]:=Qam (by omega);rw[Dn,QbI,Zd l hg n (by omega),QcE hi,QaQ,CW hi,hg n _ hi];simp
theorem Ur (lp a:Int):∀(n:Nat) (ds:List Dev),(Dz lp a n ds).map (·.addr)=ds.map (·.addr)
 | _,[]=>rfl
 | n,d::r=>by
  show d.addr::(Dz lp a (n+1) r).map (·.addr)=d.addr::r.map (·.addr);rw[Ur]
theorem aG (lp a:Int) (p:Place):(Cj lp a p).map (·.addr)=adP p:=by
 unfold Cj adP;split
 ·rfl
 ·rw[Qcf,Ur]
theorem JL (ja:YU):(up (pdL ja) ja.length).map (·.addr)=CG ja:=by
 have:=Zd (φ:=Sd.addr) (h:=adL) (g:=λk ps=>up (pd1 (k:Int) ps) ps.length) ja (λk ps _=>by
  have:=Zd (φ:=Sd.addr) (h:=adP) (g:=λi p=>Cj (k:Int) ((1+i:Nat):Int) p) ps (λi p _=>aG _ _ p) ps.length (Qcw _);rw[Qbx] at this;exact this) ja.length (Qcw _)
 rw[Qbx] at this;exact this
theorem qJ {ja:YU} (h:Fi ja) {x:Int} (hx:x∈Fd ja):x∈CG ja:=by
 obtain⟨ps,hps,hx⟩:=QbF.mp hx;obtain⟨p,hp,hx⟩:=QbF.mp hx;refine QbF.mpr ⟨ps,hps,QbF.mpr ⟨p,hp,?_⟩⟩;obtain⟨d,hd,rfl⟩:=Qcn.mp hx;obtain⟨hd,hw⟩:=QbO.mp hd;rcases ((h.ok ps hps).ok p hp).form with⟨e1,e2,e3⟩| hk
 ·have:d=⟨p.kind,p.addr⟩:=by
   unfold FP at hd;rw[e3] at hd;simpa using hd
  rw[this] at hw;have hw:Ew p.kind=true:=hw;rw[e1] at hw;exact absurd hw (by trivial)
 ·unfold adP;rw[if_neg (Nb hk)];unfold FP at hd;rcases Qce.mp hd with rfl | hd
  ·exact QaV ..
  ·exact QaJ _ (Qcn.mpr ⟨d,hd,rq⟩)
section
variable {P:Program} {w:World} {K:YD} {mg:YB} {base:Heap} {op oe kd wk:Addr}
theorem jE (C:Code K mg "is_name" Ry Ma) (T:Ty K mg op oe kd wk):Good P w K mg base "is_name" 1 Ma fX:=by
 refine C.good jo (λvs H Q E h=>?_) (λf cdv A outer s H vs Q E hr h=>?_)
 ·obtain⟨z,rfl,_⟩:=h;rfl
 obtain⟨z,rfl,h1,h8,oz,q⟩:=h;refine⟨_,(Ae (BX (En (CK (Az Oi rfl T.isinstance Hj (Aa (pv 0) (Aa (Qg (v:=.ty "str") rfl T.str BE rfl) Ac))))) (Ah (Bc Dm)) Bv)
 (Ah (Bc (EY (QD OD OD Af (Az cL rfl T.len Cu (Aa (pv 0) Ac)) Af) (DG (Az (Ij rfl) rfl T.all Mp (Aa (Cq (N':=["sign"]) rfl (Bo.plain rfl (by trivial) (by trivial) (by trivial)) (nj (pv 0)) (λ_ _ _ _=>(Aj (i:=0) (show List.Nodup (["sign"]:YF) by trivial) rfl (Or.inl rfl))) (λ_ _ _ _=>Di) (λ_ _ _ _=>(Es nM (pv 0) (RK rfl T.SMALL_LETTERS) (by with_unfolding_all rfl)))) Ac))))))),?_⟩
 show let R0:TS:=_;Al _ R0 _ _ _;intro R0;refine⟨_,rq,xX ⟨_,rq,Cp ⟨_,rq,z,rq,Av (by show z.length<=1000;omega),_,_,rq,rq,_,rq,?_⟩⟩⟩;have g1:decide ((1:Int)<=(z.length:Int))=true:=QbY (by omega);rw[g1];refine Cr ⟨_,_,rq,rq,_,rq,?_⟩;have g2:decide ((z.length:Int)<=8)=true:=QbY (by omega);rw[g2];refine Cr ⟨_,rq,z,rq,λl hl'=>?_⟩;let J1:YN:=λi U HH=>∃u,U=[u]/\HH l=some (.lst ((List.replicate i true).map V.bl))/\Same H HH;refine cF J1 ⟨_,rq,Ab,Ag hl' _⟩ (λi c U HH hc h=>?_) (fun U HH h=>?_)
 ·obtain⟨u,rfl,e1,e2⟩:=h;have hi:i < z.cps.size:=(Qaf.mp hc).1;have hz:z.cps.size<=8:=h8;unfold FN;dsimp only;refine Cr ⟨_,rq,_,_,rq,rq,_,e1,Ar (by simp;omega),_,rq,?_,e2.Bl Ai.upd hl'⟩;rw[Ab,yF c (oz c (Array.mem_toList_iff.mpr (Array.mem_of_getElem? hc))),List.replicate_succ',QbI];rfl
 ·obtain⟨u,rfl,e1,e2⟩:=h;refine⟨l,List.replicate z.cps.size true,rq,SqL.of e1,?_⟩;rw[Vo];exact q _ e2
abbrev xx:YF:=["one","other"]
theorem aU (C:Code K mg "is_rising" Pj IV) (T:Ty K mg op oe kd wk):Good P w K mg base "is_rising" 1 IV mz:=by
 refine C.good ZP (λvs H Q E h=>?_) (λf cdv A outer s H vs Q E hr h=>?_)
 ·obtain⟨a,ns,rfl,_⟩:=h;rfl
 obtain⟨a,ns,rfl,ha,hp,h100,q⟩:=h;refine⟨_,(Ah (Bc (Az (Ij rfl) rfl T.all Mp (Aa (Cq (N':=xx) rfl (Bo.plain rfl (by trivial) (by trivial) (by trivial)) (rG rfl T.zip (Aa (pv 0) (Aa (KH Ww (pv 0) (M8 Af) M9) Ac))) (λ_ _ _ _=>(FW (K:=K) (n:=2) rfl rfl (Aq (Aj (i:=0) (show List.Nodup (xx:YF) by trivial) rfl (Or.inl rfl)) (Aq (Aj (i:=1) (show List.Nodup (xx:YF) by trivial) rfl (Or.inl rfl)) Bt)))) (λ_ _ _ _=>Di) (λ_ _ _ _=>(Es VH (pv 0) (pv 1) (Bq _)))) Ac)))),?_⟩;refine⟨_,rq,_,rq,_,rq,a,_,rq,ha,λb H1 hb s1=>?_⟩;have ha1:=s1 _ _ ha;refine⟨a,b,rq,⟨_,ha1⟩,⟨_,hb⟩,λl hl=>?_⟩;have hlen:(ns.map V.int).length=ns.length:=QbH ..;have ec:Jy (ns.map V.int) (some (1:Int)) none=(ns.map V.int).drop 1:=by
  by_cases h0:1<=(ns.map V.int).length
  ·exact Vk (k:=1) h0
  ·have:ns.map V.int=[]:=List.length_eq_zero_iff.mp (by omega);rw[this];rfl
 rw[ec] at hb;refine kj (xs:=ns.map V.int) (ys:=(ns.map V.int).drop 1) (ns.length - 1) (by omega) (by rw[QbC];omega) (.inr (by rw[QbC];omega)) (λi U HH=>∃u1 u2,U=[u1,u2]/\HH l=some (.lst ((List.replicate i true).map V.bl))/\Same H1 HH) ⟨_,_,rq,Ab,Ag hl _⟩ (λi U HH _ h=>?_) (λi x y p U HH hx hy h hpn=>?_) (fun U HH h=>?_)
 ·obtain⟨u1,u2,rfl,e1,e2⟩:=h;exact⟨e2 _ _ ha1,e2 _ _ hb⟩
 ·obtain⟨u1,u2,rfl,e1,e2⟩:=h;rw[List.getElem?_drop] at hy;rw[Qbn] at hx hy;obtain⟨n1,hn1,rfl⟩:=QaA.mp hx;obtain⟨n2,hn2,rfl⟩:=QaA.mp hy;obtain⟨i1,g1⟩:=Qah.mp hn1;obtain⟨i2,g2⟩:=Qah.mp hn2;have lt:n1 < n2:=by
   rw[<-g1,<-g2];exact Qak.mp hp i (1+i) i1 i2 (by omega)
  have s2:=Ag hpn (.tup [.int n1,.int n2]);refine⟨p,_,rq,SqT.of Ab,rq,_,_,rq,_,_,rq,rq,?_⟩;refine Cr ⟨_,rq,_,rq,_,_,rq,rq,_,s2 _ _ e1,Ar (by simp;omega),_,_,rq,?_,(e2.trans s2).Bl Ai.upd hl⟩;rw[Ab];show some (HO.lst (_++[V.bl (decide (n1 < n2))]))=_;rw[QbY lt,List.replicate_succ',QbI];rfl
 ·obtain⟨u1,u2,rfl,e1,e2⟩:=h;refine⟨l,List.replicate (ns.length - 1) true,rq,SqL.of e1,?_⟩;rw[Vo];exact q _ (s1.trans e2)
theorem Yv (C:Code K mg "are_rising_within" FJ Ed) (T:Ty K mg op oe kd wk) (Cz:Good P w K mg base "is_row" 1 DK Hz) (Gp:Good P w K mg base "is_within" 2 Fl Nr) (dJ:Good P w K mg base "is_rising" 1 IV mz):Good P w K mg base "are_rising_within" 3 Ed mq:=by
 refine C.good Qw (λvs H Q E h=>?_) (λf cdv A outer s H vs Q E hr h=>?_)
 ·obtain⟨a,ns,lo,hi,l,h,rfl,_⟩:=h;rfl
 obtain⟨a,ns,lo,hi,l,h,rfl,ha,hp,h100,h1,h2,h3,q⟩:=h;refine⟨_,(Ae (BX (En (CK (Ay Cz hr (Aa (pv 0) (Aa (pv 1) (Aa (pv 2) Ac)))))) (Ah (Bc Dm)) Bv)
 (Ah (Bc (EY (Az (Ij rfl) rfl T.all Mp (Aa (Cq (N':=["part","low","high"]) rfl (Bo.of (src:=[none,some 3,some 4]) (Ak FJ) Ed rfl rfl rfl (by trivial) (by trivial) (by trivial) rfl (by trivial)) (Fp (pv 0)) (λ_ _ _ _=>(Aj (i:=0) (show List.Nodup (["part","low","high"]:YF) by trivial) rfl (Or.inl rfl))) (λ_ _ _ _=>Di) (λ_ _ _ _=>(Ay Gp hr (Aa (pv 0) (Aa (pv 1) (Aa (pv 2) Ac)))))) Ac)) (DG (Ay dJ hr (Aa (pv 0) Ac))))))),?_⟩
 show let R0:TS:=_;Al _ R0 _ _ _;intro R0;have hlen:(ns.map V.int).length=ns.length:=QbH ..;refine⟨_,rq,_,rq,_,rq,.ref a,lo,hi,rq,Jg ha,_,rq,?_⟩;rw[Ds ha,Fj (by rw[hlen];exact h1) (by rw[hlen];exact h2)];refine Cp ⟨_,rq,a,rq,⟨_,SqT.of ha⟩,λl2 hl2=>?_⟩;refine Mj (r:=[some (.int l),some (.int h)]) hl2 ha (by omega) (λi x HH hx s1 R hR=>?_) (λH' e s1=>?_)
 ·rw[Qbn] at hx;obtain⟨n1,hn1,rfl⟩:=QaA.mp hx;refine⟨_,rq,_,rq,_,rq,n1,l,h,rq,?_⟩;rw[QbY (h3 n1 (QaI hn1))];exact hR _ (Same.refl _)
 ·refine⟨l2,List.replicate (ns.map V.int).length true,rq,SqL.of e,_,rq,?_⟩;rw[Vo];exact Cr ⟨_,rq,a,ns,rq,s1 _ _ ha,hp,h100,λH2 s2=>q _ (s1.trans s2)⟩
theorem aW (C:Code K mg "is_device" Pq Ho) (T:Ty K mg op oe kd wk) (Gp:Good P w K mg base "is_within" 2 Fl Nr):Good P w K mg base "is_device" 3 Ho Zy:=by
 refine C.good ZR (λvs H Q E h=>?_) (λf cdv A outer s H vs Q E hr h=>?_)
 ·obtain⟨k,x,rfl,_⟩:=h;rfl
 obtain⟨k,x,rfl,hk,h1,h2,q⟩:=h;refine⟨_,(Ah (Bc (EY (Es RM (pv 0) (RK rfl T.KINDS) (by with_unfolding_all rfl)) (DG (Ay Gp hr (Aa (pv 1) (Aa Af (Aa Af Ac)))))))),?_⟩;refine⟨_,rq,kd,_,rq,.inr (T.kdT H),rq,rq,_,rq,?_⟩;rw[if_neg QaW,xW hk];refine Cr ⟨_,rq,x,1,99,rq,?_⟩;rw[QbY ⟨h1,h2⟩];exact q
theorem Ui (C:Code K mg "is_spur_device" Jq Fq) (T:Ty K mg op oe kd wk) (Cz:Good P w K mg base "is_row" 1 DK Hz) (PN:Good P w K mg base "is_device" 3 Ho Zy):Good P w K mg base "is_spur_device" 4 Fq Zr:=by
 refine C.good Ue (λvs H Q E h=>?_) (λf cdv A outer s H vs Q E hr h=>?_)
 ·obtain⟨v,d,rfl,_⟩:=h;rfl
 obtain⟨v,d,rfl,⟨t,rfl,ht⟩,hk,h1,h2,q⟩:=h;refine⟨_,(Ah (Bc (EY (Ay Cz hr (Aa (pv 0) (Aa Af (Aa Af Ac)))) (DG (Ay PN hr (Aa (Bm BW (pv 0) Af (λ_ _=>rfl)) (Aa (Bm BW (pv 0) Af (λ_ _=>rfl)) Ac))))))),?_⟩;refine⟨_,rq,.ref t,2,2,rq,Jg ht,_,rq,?_⟩;rw[Ds ht,Fj (by show (2:Int)<=2;decide) (by show (2:Int)<=2;decide)];exact Cr ⟨_,rq,t,_,_,_,rq,rq,SqT.of ht,rq,_,rq,t,_,_,_,rq,rq,SqT.of ht,rq,d.kind,d.addr,rq,hk,h1,h2,q⟩
theorem jC (C:Code K mg "is_spur" Rw LQ) (T:Ty K mg op oe kd wk) (Cz:Good P w K mg base "is_row" 1 DK Hz) (Vf:Good P w K mg base "is_spur_device" 4 Fq Zr):Good P w K mg base "is_spur" 5 LQ fO:=by
 refine C.good jm (λvs H Q E h=>?_) (λf cdv A outer s H vs Q E hr h=>?_)
 ·obtain⟨u,ws,ds,rfl,_⟩:=h;rfl
 obtain⟨u,ws,ds,rfl,hu,hd,h3,hk,q⟩:=h;have lw:=Qcd hd;refine⟨_,(Ah (Bc (EY (Ay Cz hr (Aa (pv 0) (Aa Af (Aa Af Ac)))) (DG (Az (Ij rfl) rfl T.all Mp (Aa (Cq (N':=xh) rfl (Bo.plain rfl (by trivial) (by trivial) (by trivial)) (Fp (pv 0)) (λ_ _ _ _=>(Aj (i:=0) (show List.Nodup (xh:YF) by trivial) rfl (Or.inl rfl))) (λ_ _ _ _=>Di) (λ_ _ _ _=>(Ay Vf hr (Aa (pv 0) Ac)))) Ac)))))),?_⟩;refine⟨_,rq,.ref u,0,3,rq,Jg hu,_,rq,?_⟩;rw[Ds hu,Fj (by omega) (by omega)];refine Cr ⟨_,rq,u,rq,⟨_,SqT.of hu⟩,λl2 hl2=>?_⟩;refine Mj (r:=[]) hl2 hu (by omega) (λi x HH hx s1 R hR=>?_) (λH' e s1=>?_)
 ·obtain⟨d,hdi,had⟩:=Paired.Ck hd hx;have:=hk d (QaI hdi);exact⟨_,rq,x,d,rq,had.tups (Am.of s1),this.1,this.2.1,this.2.2,hR _ (Same.refl _)⟩
 ·refine⟨l2,List.replicate ws.length true,rq,SqL.of e,?_⟩;rw[Vo];exact q _ s1
theorem dB (C:Code K mg "is_place" Qz Ke) (T:Ty K mg op oe kd wk) (Cz:Good P w K mg base "is_row" 1 DK Hz) (Gp:Good P w K mg base "is_within" 2 Fl Nr) (PN:Good P w K mg base "is_device" 3 Ho Zy) (pC:Good P w K mg base "is_spur" 5 LQ fO):Good P w K mg base "is_place" 6 Ke Zt:=by
 have sc:=Iz;refine C.good Iz (λvs H Q E h=>?_) (λf cdv A outer s H vs Q E hr h=>?_)
 ·obtain⟨v,p,rfl,_⟩:=h;rfl
 obtain⟨v,p,rfl,⟨t,u,ws,rfl,ht,hu,hd⟩,⟨ok,bd⟩,q⟩:=h;have lw:=Qcd hd;have h3:=ok.spur;refine⟨_,(Ae (BX (En (CK (Ay Cz hr (Aa (pv 0) (Aa Af (Aa Af Ac)))))) (Ah (Bc Dm)) Bv)
 (Ae (G5 (pv 0) (CQ rfl (Aq (Aj (i:=1) Iz.nd rfl (Or.inl rfl)) (Aq (Aj (i:=2) Iz.nd rfl (Or.inl rfl)) (Aq (Aj (i:=3) Iz.nd rfl (Or.inl rfl)) Bt)))))
 (Ae (BX (Bs Eu (pv 1) Bp (Bq _)) (Ah (Bc (EY (Ay Gp hr (Aa (pv 2) (Aa Af (Aa Af Ac)))) (DG (Ay Cz hr (Aa (pv 3) (Aa Af (Aa Af Ac)))))))) Bv)
 (Ah (Bc (EY (Ay PN hr (Aa (pv 1) (Aa (pv 2) Ac))) (DG (Ay pC hr (Aa (pv 3) Ac))))))))),?_⟩
 show let R0:TS:=_;let R1:TS:=_;let R2:TS:=Al (FQ _ R1 _) R0;let R3:TS:=Al _ R2;Al _ R3 _ _ _;intro R0 R1 R2 R3;refine⟨_,rq,.ref t,3,3,rq,Jg ht,_,rq,?_⟩;rw[Ds ht,Fj (by show (3:Int)<=3;decide) (by show (3:Int)<=3;decide)];refine Cp ⟨_,rq,t,_,rq,SqT.of ht,rq,_,_,rq,_,_,rq,_,_,rq,rq,?_⟩;refine⟨_,rq,rq,_,rq,?_⟩;rcases ok.form with⟨e1,e2,e3⟩| hk
 ·rw[show decide (V.str p.kind=V.str "opener")=true by rw[e1];rfl];have lw0:ws.length=0:=by rw[lw,e3];rfl
  refine Cr ⟨_,rq,p.addr,0,0,rq,_,rq,?_⟩;rw[show decide ((0:Int)<=p.addr/\p.addr<=0)=true by rw[e2];rfl];refine Cr ⟨_,rq,.ref u,0,0,rq,Jg hu,?_⟩;rw[Ds hu,Fj (by omega) (by omega)];exact q _ (Same.refl _)
 ·have ea:adP p=p.addr::p.spur.map (·.addr):=if_neg (Nb hk);rw[ea] at bd;rw[QbM (Nb hk)];have b0:=bd p.addr (QaV ..);refine Cp ⟨_,rq,_,rq,p.kind,p.addr,rq,hk,b0.1,b0.2,_,rq,?_⟩;exact Cr ⟨_,rq,u,ws,p.spur,rq,hu,hd,h3,λd hdm=>⟨ok.kinds d hdm,bd d.addr (QaJ _ (Qcn.mpr ⟨d,hdm,rq⟩))⟩,q⟩
theorem jF (C:Code K mg "is_loop" Rz Mf) (T:Ty K mg op oe kd wk) (Cz:Good P w K mg base "is_row" 1 DK Hz) (j4:Good P w K mg base "is_place" 6 Ke Zt):Good P w K mg base "is_loop" 7 Mf fY:=by
 refine C.good jq (λvs H Q E h=>?_) (λf cdv A outer s H vs Q E hr h=>?_)
 ·obtain⟨v,ps,rfl,_⟩:=h;rfl
 obtain⟨v,ps,rfl,⟨t,ws,rfl,ht,hd⟩,ok,bd,q⟩:=h;have lw:=Qcd hd;have l1:=ok.lo;have l2:=ok.hi;refine⟨_,(Ah (Bc (EY (Ay Cz hr (Aa (pv 0) (Aa Af (Aa Af Ac)))) (DG (Az (Ij rfl) rfl T.all Mp (Aa (Cq (N':=xh) rfl (Bo.plain rfl (by trivial) (by trivial) (by trivial)) (Fp (pv 0)) (λ_ _ _ _=>(Aj (i:=0) (show List.Nodup (xh:YF) by trivial) rfl (Or.inl rfl))) (λ_ _ _ _=>Di) (λ_ _ _ _=>(Ay j4 hr (Aa (pv 0) Ac)))) Ac)))))),?_⟩;refine⟨_,rq,.ref t,1,12,rq,Jg ht,_,rq,?_⟩;rw[Ds ht,Fj (by omega) (by omega)];refine Cr ⟨_,rq,t,rq,⟨_,SqT.of ht⟩,λl2 hl2=>?_⟩;refine Mj (r:=[]) hl2 ht (by omega) (λi x HH hx s1 R hR=>?_) (λH' e s1=>?_)
 ·obtain⟨p,hpi,hap⟩:=Paired.Ck hd hx;have hm:=QaI hpi;exact⟨_,rq,x,p,rq,hap.tups (Am.of s1),⟨ok.ok p hm,λy hy=>bd y (QbF.mpr ⟨p,hm,hy⟩)⟩,λH2 s2=>hR _ s2⟩
 ·refine⟨l2,List.replicate ws.length true,rq,SqL.of e,?_⟩;rw[Vo];exact q _ s1
theorem aZ (C:Code K mg "are_loops" Pu Jb) (T:Ty K mg op oe kd wk) (Cz:Good P w K mg base "is_row" 1 DK Hz) (pG:Good P w K mg base "is_loop" 7 Mf fY):Good P w K mg base "are_loops" 8 Jb Zw:=by
 refine C.good ZW (λvs H Q E h=>?_) (λf cdv A outer s H vs Q E hr h=>?_)
 ·obtain⟨Ls,ws,ja,rfl,_⟩:=h;rfl
 obtain⟨t,ws,ja,rfl,ht,hd,ok,bd,l1,l2,q⟩:=h;have lw:=Qcd hd;refine⟨_,(Ah (Bc (EY (Ay Cz hr (Aa (pv 0) (Aa Af (Aa Af Ac)))) (DG (Az (Ij rfl) rfl T.all Mp (Aa (Cq (N':=xh) rfl (Bo.plain rfl (by trivial) (by trivial) (by trivial)) (Fp (pv 0)) (λ_ _ _ _=>(Aj (i:=0) (show List.Nodup (xh:YF) by trivial) rfl (Or.inl rfl))) (λ_ _ _ _=>Di) (λ_ _ _ _=>(Ay pG hr (Aa (pv 0) Ac)))) Ac)))))),?_⟩;refine⟨_,rq,.ref t,1,3,rq,Jg ht,_,rq,?_⟩;rw[Ds ht,Fj (by omega) (by omega)];refine Cr ⟨_,rq,t,rq,⟨_,SqT.of ht⟩,λl2 hl2=>?_⟩;refine Mj (r:=[]) hl2 ht (by omega) (λi x HH hx s1 R hR=>?_) (λH' e s1=>?_)
 ·obtain⟨p,hpi,hap⟩:=Paired.Ck hd hx;have hm:=QaI hpi;exact⟨_,rq,x,p,rq,hap.tups (Am.of s1),ok p hm,λy hy=>bd y (QbF.mpr ⟨p,hm,hy⟩),λH2 s2=>hR _ s2⟩
 ·refine⟨l2,List.replicate ws.length true,rq,SqL.of e,?_⟩;rw[Vo];exact q _ s1
theorem jB (C:Code K mg "is_zone" Rv LK) (T:Ty K mg op oe kd wk) (Cz:Good P w K mg base "is_row" 1 DK Hz) (pF:Good P w K mg base "is_name" 1 Ma fX) (Rh:Good P w K mg base "are_rising_within" 3 Ed mq):Good P w K mg base "is_zone" 4 LK fK:=by
 refine C.good jk (λvs H Q E h=>?_) (λf cdv A outer s H vs Q E hr h=>?_)
 ·obtain⟨v,z,rfl,_⟩:=h;rfl
 obtain⟨v,z,rfl,⟨t,u,rfl,ht,hu⟩,ok,q⟩:=h;refine⟨_,(Ah (Bc (EY (Ay Cz hr (Aa (pv 0) (Aa Af (Aa Af Ac)))) (EY (Ay pF hr (Aa (Bm BW (pv 0) Af (λ_ _=>rfl)) Ac)) (DG (Ay Rh hr (@Aa _ _ _ _ _ (Bm BW (pv 0) Af (λ_ _=>rfl)) (@Aa _ _ _ _ _ (@Af _ _ _ _) (@Aa _ _ _ _ _ (@Af _ _ _ _) (@Aa _ _ _ _ _ (@Af _ _ _ _) (@Aa _ _ _ _ _ (@Af _ _ _ _) (@Ac _) BR) BR) BR) BR) lW))))))),?_⟩;refine⟨_,rq,.ref t,2,2,rq,Jg ht,_,rq,?_⟩;rw[Ds ht,Fj (by show (2:Int)<=2;decide) (by show (2:Int)<=2;decide)];refine Cr ⟨_,rq,t,_,_,_,rq,rq,SqT.of ht,rq,z.name,rq,ok.nm.1.1,ok.nm.1.2,ok.nm.2,λH1 s1=>⟨_,rq,Cr ?_⟩⟩;have u1:=ok.up.2.1;have u2:=ok.up.2.2;exact⟨_,rq,t,_,_,_,rq,rq,SqT.of (s1 _ _ ht),rq,u,z.adr,1,30,1,99,rq,s1 _ _ hu,ok.up.1,by omega,by omega,by omega,ok.bd,λH2 s2=>q _ (s1.trans s2)⟩
end
abbrev Ka:Stmt:=top 34
abbrev Ge:YF:=GP
theorem Ef:Ba ["plan","seen","spot","kind","address"] Ge (Ak Ka):=by ac_rfl
abbrev Kv:Stmt:=top 35
abbrev Gz:YF:=GP
theorem FZ:Ba ["plan","loop","number","spots"] Gz (Ak Kv):=by ac_rfl
abbrev HF:Stmt:=top 36
abbrev Eo:YF:=GP
theorem Dp:Ba ["plan","warners","name","addresses","address"] Eo (Ak HF):=by ac_rfl
abbrev Js:Stmt:=top 37
abbrev Fv:YF:=GP
theorem DX:Ba ["plan","seen","name","addresses","address"] Fv (Ak Js):=by ac_rfl
abbrev Wz:Stmt:=top 38
abbrev Qh:YF:=GP
theorem qU:Ba GP Qh (Ak Wz):=by ac_rfl
abbrev Pk:Stmt:=top 39
abbrev IW:YF:=Gd
theorem ZQ:Ba Gd IW (Ak Pk):=by ac_rfl
def Iw:Sp:=λvs H Q _=>∃pl most ja jn,vs=[.ref pl]/\Fg H pl most ja jn/\∀H',Same H H'->Q .non H'
def Ip {α : Type} (f:α->Key) (xs:List α):YM:=xs.map λx=>(f x,V.bl true)
theorem O2 {α : Type} {f:α->Key} {k:Key}:∀{xs:List α},(∀x∈xs,f x≠k)->CV (Ip f xs) k=none
 | [],_=>rfl
 | x::r,h=>by
  have:Ip f (x::r)=(f x,V.bl true)::Ip f r:=rfl;rw[this,GR (p:=(f x,V.bl true)) (h x (QaV ..))];exact O2 λy hy=>h y (QaJ _ hy)
theorem Mh {α : Type} (f:α->Key) (xs:List α):(Ip f xs).length=xs.length:=QbH ..
theorem O4 {α : Type} {f:α->Key} {xs:List α} {x:α} (h:∀y∈xs,f y≠f x):putK (Ip f xs) (f x) (.bl true)=Ip f (xs++[x]):=by
 rw[KD _ (O2 h)];unfold Ip;rw[QbI];rfl
theorem Tv {α : Type} {l:List α} (h:l.Nodup) {i:Nat} {x:α} (hx:l[i]?=some x):∀y∈l.take i,y≠x:=λy hy e=>by
 subst e;obtain⟨j,hj⟩:=QaL hy;rw[List.getElem?_take] at hj;split at hj
 ·rename_i hji;obtain⟨h1,e1⟩:=Qah.mp hj;obtain⟨h2,e2⟩:=Qah.mp hx;have:=Qak.mp h j i h1 h2 hji;exact this (by rw[e1,e2])
 ·cases hj
theorem Je {α β : Type} {f:α->β} {l:List α} (h:(l.map f).Nodup) {i:Nat} {x:α} (hx:l[i]?=some x):∀y∈l.take i,f y≠f x:=λy hy e=>by
 have:=Tv h (i:=i) (x:=f x) (by rw[Qbn,hx];rfl) (f y) (by rw[<-List.map_take];exact Qcn.mpr ⟨y,hy,rq⟩);exact this e
theorem fD {lp:Int} {ps:List Place}:∀i,i<=ps.length->(stP lp ps i).1.map (λz=>(z.length:Int))=(pst (ps.take i)).1/\((stP lp ps i).2.length:Int)=(pst (ps.take i)).2
 | 0,_=>⟨rfl,rfl⟩
 | i+1,h=>by
  have hi:ps[i]?=some ps[i]:=Qam (by omega);obtain⟨h1,h2⟩:=fD (lp:=lp) (ps:=ps) i (by omega);rw[QcE hi,aA];unfold ptS;by_cases k:V.str ps[i].kind=V.str "opener"
  ·rw[Vu hi k,if_pos k];refine⟨?_,rq⟩;rw[QbI,h1,<-h2];rfl
  ·rw[Tg hi k,if_neg k];refine⟨h1,?_⟩;show (((stP lp ps i).2++(Cj lp ((1+i:Nat):Int) ps[i]).map Sd.spot).length:Int)=_;rw[QaU,QbH,<-h2];have:(Cj lp ((1+i:Nat):Int) ps[i]).length=1+ps[i].spur.length:=by
    unfold Cj;rw[if_neg k,Qby,Mz];omega
   rw[this];push_cast;omega
theorem rO {lp:Int} {ps:List Place}:∀z∈(stP lp ps ps.length).1++[(stP lp ps ps.length).2],(z.length:Int)∈Hv ps:=λz hz=>by
 obtain⟨h1,h2⟩:=fD (lp:=lp) (ps:=ps) ps.length (Qcw _);rw[Qbx] at h1 h2;unfold Hv;rw[<-h1,<-h2];rcases QbJ.mp hz with h | h
 ·exact QaK _ (Qcn.mpr ⟨z,h,rq⟩)
 ·have:z=(stP lp ps ps.length).2:=by simpa using h
  rw[this];exact QaE _ (Qbb.mpr rfl)
theorem uL {jn:List Zone} (h:∀z∈jn,z.adr.length<=30):(jn.flatMap (·.adr)).length<=30*jn.length:=by
 induction jn with
 | nil=>exact Qcw _
 | cons a r ih=>
  have h1:=ih λz hz=>h z (QaJ _ hz);have h2:=h a (QaV ..);rw[Qbr,QaU,Qby];omega
theorem uK {a b:List Zone} (h:a.Sublist b):(a.flatMap (·.adr)).Sublist (b.flatMap (·.adr)):=by
 induction h with
 | slnil=>exact .slnil
 | cons x _ ih=>rw[Qbr];exact List.Sublist.trans ih (List.sublist_append_right _ _)
 | cons_cons x _ ih=>rw[Qbr,Qbr];exact List.Sublist.append_left ih _
theorem XJ (lp a:Int):∀(n:Nat) (ds:List Dev) (d:Dev),d∈ds->∃z∈Dz lp a n ds,z.kind=d.kind/\z.addr=d.addr
 | _,[],d,h=>by cases h
 | n,x::r,d,h=>by
  rcases Qce.mp h with rfl | h
  ·exact⟨_,QaV ..,rq,rq⟩
  ·obtain⟨z,h1,h2⟩:=XJ lp a (n+1) r d h;exact⟨z,QaJ _ h1,h2⟩
theorem Om {α : Type} {f:Nat->List α} {x:α} {i:Nat} (h:x∈f i):∀{n:Nat},i < n->x∈up f n
 | 0,hn=>by omega
 | n+1,hn=>by
  rw[Dn];by_cases e:i=n
  ·subst e;exact QaE _ h
  ·exact QaK _ (Om h (by omega))
theorem wB {ja:YU} (h:Fi ja) {x:Int} (hx:x∈Fd ja):∃z∈(up (pdL ja) ja.length).filter (λz=>Ew z.kind),z.addr=x:=by
 obtain⟨ps,hps,hx⟩:=QbF.mp hx;obtain⟨p,hp,hx⟩:=QbF.mp hx;obtain⟨d,hd,rfl⟩:=Qcn.mp hx;obtain⟨hd,hw⟩:=QbO.mp hd;obtain⟨k,hk⟩:=QaL hps;obtain⟨i,hi⟩:=QaL hp;have hkl:=(Qah.mp hk).1;have hil:=(Qah.mp hi).1;have hop:¬V.str p.kind=V.str "opener":=by
  rcases ((h.ok ps hps).ok p hp).form with⟨e1,e2,e3⟩| hk
  ·have:d=⟨p.kind,p.addr⟩:=by
    unfold FP at hd;rw[e3] at hd;simpa using hd
   rw[this] at hw;have hw:Ew p.kind=true:=hw;rw[e1] at hw;exact absurd hw (by trivial)
  ·exact Nb hk
 have key:∃z∈Cj (k:Int) ((1+i:Nat):Int) p,z.kind=d.kind/\z.addr=d.addr:=by
  unfold Cj;rw[if_neg hop];unfold FP at hd;rcases Qce.mp hd with rfl | hd
  ·exact⟨_,QaV ..,rq,rq⟩
  ·obtain⟨z,h1,h2⟩:=XJ (k:Int) ((1+i:Nat):Int) 1 p.spur d hd;exact⟨z,QaJ _ h1,h2⟩
 obtain⟨z,hz,e1,e2⟩:=key;refine⟨z,QbO.mpr ⟨Om (i:=k) ?_ hkl,by show Ew z.kind=true;rw[e1];exact hw⟩,e2⟩;unfold pdL;rw[CW hk];refine Om (i:=i) ?_ hil;unfold pd1;rw[CW hi];exact hz
section
variable {P:Program} {w:World} {K:YD} {mg:YB} {base:Heap} {op oe kd wk:Addr}
abbrev xy:YF:=["name","addresses"]
theorem aY (C:Code K mg "are_zones" Pr Ja) (T:Ty K mg op oe kd wk) (Cz:Good P w K mg base "is_row" 1 DK Hz) (pB:Good P w K mg base "is_zone" 4 LK fK):Good P w K mg base "are_zones" 5 Ja Zq:=by
 refine C.good ZV (λvs H Q E h=>?_) (λf cdv A outer s H vs Q E hr h=>?_)
 ·obtain⟨zs,ws,jn,rfl,_⟩:=h;rfl
 obtain⟨t,ws,jn,rfl,ht,hd,ok,l8,nd,q⟩:=h;have lw:=Qcd hd;refine⟨_,(Ae (BX (PW.pt (Lb (En (CK (Ay Cz hr (Aa (pv 0) (Aa Af (Aa Af Ac)))))) (Lk (En (CK (Az (Ij rfl) rfl T.all Mp (Aa (Cq (N':=xh) rfl (Bo.plain rfl (by trivial) (by trivial) (by trivial)) (Fp (pv 0)) (λ_ _ _ _=>(Aj (i:=0) (show List.Nodup (xh:YF) by trivial) rfl (Or.inl rfl))) (λ_ _ _ _=>Di) (λ_ _ _ _=>(Ay pB hr (Aa (pv 0) Ac)))) Ac))))))) (Ah (Bc Dm)) Bv)
 (Ah (Bc (Es Eu (Az qb rfl T.len Cu (Aa (rN (N':=xy) rfl (Bo.plain rfl (by trivial) (by trivial) (by trivial)) (Fp (pv 0)) (λ_ _ _ _=>(FW (K:=K) (n:=2) rfl rfl (Aq (Aj (i:=0) (show List.Nodup (xy:YF) by trivial) rfl (Or.inl rfl)) (Aq (Aj (i:=1) (show List.Nodup (xy:YF) by trivial) rfl (Or.inl rfl)) Bt)))) (λ_ _ _ _=>Di) (λ_ _ _ _=>(pv 0)) (λ_ _ _ _=>Dm)) Ac)) (Az Bh rfl T.len Cu (Aa (pv 0) Ac)) (Bq _))))),?_⟩
 show let R0:TS:=_;Al _ R0 _ _ _;intro R0;refine⟨_,rq,.ref t,0,8,rq,Jg ht,_,rq,?_⟩;rw[Ds ht,Fj (by omega) (by omega)];refine Cp ⟨_,rq,t,rq,⟨_,SqT.of ht⟩,λl2 hl2=>?_⟩;refine Mj (r:=[]) hl2 ht (by omega) (λi x HH hx s1 R hR=>?_) (λH' e s1=>?_)
 ·obtain⟨z,hzi,haz⟩:=Paired.Ck hd hx;exact⟨_,rq,x,z,rq,haz.tups (Am.of s1),ok z (QaI hzi),λH2 s2=>hR _ s2⟩
 refine⟨l2,List.replicate ws.length true,rq,SqL.of e,_,rq,?_⟩;rw[Vo];have ht1:=s1 _ _ ht;refine Cp ⟨_,rq,t,rq,⟨_,SqT.of ht1⟩,λl hl=>?_⟩;let J0:YN:=λi U HH=>∃u1 u2,U=[u1,u2]/\HH l=some (.dK (Ip (λz:Zone=>Sum.inr z.name) (jn.take i)))/\Same H' HH;refine pQ (xs:=ws) J0 ⟨_,_,rq,Ab,Ag hl _⟩ (λi U HH _ h=>?_) (λi x U HH hx h=>?_) (fun U HH h=>?_)
 ·obtain⟨u1,u2,rfl,e1,e2⟩:=h;exact SqT.of (e2 _ _ ht1)
 ·obtain⟨u1,u2,rfl,e1,e2⟩:=h;obtain⟨z,hzi,tz,uz,rfl,h1,h2⟩:=Paired.Ck hd hx;refine⟨tz,_,rq,SqT.of (e2 _ _ (s1 _ _ h1)),rq,_,_,rq,_,_,rq,rq,?_⟩;refine Cr ⟨_,rq,_,Sum.inr z.name,e1,rq,Ar (by rw[Mh,Qbz];omega),_,_,rq,?_,e2.Bl Ai.upd hl⟩;rw[Ab,O4 (f:=λz:Zone=>Sum.inr z.name) (x:=z),QcE hzi];exact λy hy e=>Je nd hzi y hy (Sum.inr.inj e)
 ·obtain⟨u1,u2,rfl,e1,e2⟩:=h;rw[lw,Qbx] at e1;refine⟨l,_,rq,e1,_,rq,t,_,rq,.inr (SqT.of (e2 _ _ ht1)),rq,?_⟩;rw[Mh,lw];have:decide (V.int (jn.length:Int)=V.int (jn.length:Int))=true:=QbY rfl;rw[this];exact q _ (s1.trans e2)
theorem jD (C:Code K mg "is_plan" Rx LR) (T:Ty K mg op oe kd wk) (Cz:Good P w K mg base "is_row" 1 DK Hz) (Gp:Good P w K mg base "is_within" 2 Fl Nr) (dO:Good P w K mg base "are_loops" 8 Jb Zw) (dN:Good P w K mg base "are_zones" 5 Ja Zq) (Ih:Good P w K mg base "devices" 2 GP Vw):Good P w K mg base "is_plan" 9 LR Tn:=by
 have sc:=JW;refine C.good JW (λvs H Q E h=>?_) (λf cdv A outer s H vs Q E hr h=>?_)
 ·obtain⟨pl,most,ja,jn,rfl,_⟩:=h;rfl
 obtain⟨pl,most,ja,jn,rfl,pa,q⟩:=h;obtain⟨Ls,zs,ws,zvs,e1,e2,e3,e4,e5⟩:=pa.at_;refine⟨_,(Ae (BX (En (CK (Ay Cz hr (Aa (pv 0) (Aa Af (Aa Af Ac)))))) (Ah (Bc Dm)) Bv)
 (Ae (G5 (pv 0) (CQ rfl (Aq (Aj (i:=1) JW.nd rfl (Or.inl rfl)) (Aq (Aj (i:=2) JW.nd rfl (Or.inl rfl)) (Aq (Aj (i:=3) JW.nd rfl (Or.inl rfl)) Bt)))))
 (Ae (BX (PW.pt (Lb (En (CK (Ay Gp hr (Aa (pv 1) (Aa Af (Aa Af Ac)))))) (Lb (En (CK (Ay dO hr (Aa (pv 2) Ac)))) (Lk (En (CK (Ay dN hr (Aa (pv 3) Ac)))))))) (Ah (Bc Dm)) Bv)
 (Ah (Bc (QD OD OD Af (Az Bh rfl T.len Cu (Aa (Ay Ih hr (Aa (pv 0) Ac)) Ac)) Af)))))),?_⟩
 show let R0:TS:=_;let R1:TS:=Al _ R0;let R2:TS:=Al _ R1;Al _ R2 _ _ _;intro R0 R1 R2;refine⟨_,rq,.ref pl,3,3,rq,Jg e1,_,rq,?_⟩;rw[Ds e1,Fj (by show (3:Int)<=3;decide) (by show (3:Int)<=3;decide)];refine Cp ⟨_,rq,pl,_,rq,SqT.of e1,rq,_,_,rq,_,_,rq,_,_,rq,rq,?_⟩;refine⟨_,rq,most,1,30,rq,_,rq,?_⟩;rw[QbY pa.pok.mo];refine Cp ⟨_,rq,Ls,ws,ja,rq,e2,e3,pa.ok.ok,pa.pok.bd,pa.lo,pa.ok.hi,λH1 s1=>⟨_,rq,Cp ?_⟩⟩;refine⟨_,rq,zs,zvs,jn,rq,s1 _ _ e4,Paired.Ax e5 λ_ _ z=>z.tups (Am.of s1),λz hz=>⟨pa.pok.znm z hz,pa.pok.zup z hz,λx hx=>pa.pok.bd x (qJ pa.ok (pa.pok.zin z hz x hx))⟩,pa.pok.yO,pa.pok.zdi,λH2 s2=>⟨_,rq,Cp ?_⟩⟩;have s12:=s1.trans s2;refine⟨_,rq,pl,ja,rq,(pa.same s12).plan,pa.ok,λl xs H3 hl hx hp s3=>?_⟩;have lx:=Qcd hp;have la:(up (pdL ja) ja.length).length=(CG ja).length:=by rw[<-JL ja,QbH]
 have c1:=pa.pok.cnt.1;have c2:=pa.pok.cnt.2;refine⟨l,_,rq,.inl (SqL.of hx),_,_,rq,rq,_,rq,?_⟩;have g1:decide ((1:Int)<=(xs.length:Int))=true:=QbY (by omega);rw[g1];refine Cr ⟨_,_,rq,rq,?_⟩;have g2:decide ((xs.length:Int)<=30)=true:=QbY (by omega);show Q (.bl (decide ((xs.length:Int)<=30))) H3;rw[g2];exact q _ (s12.trans s3)
theorem Va (C:Code K mg "address_twice" Ka Ge) (T:Ty K mg op oe kd wk) (Ih:Good P w K mg base "devices" 2 GP Vw):Good P w K mg base "address_twice" 3 Ge Iw:=by
 have sc:=Ef;refine C.good Ef (λvs H Q E h=>?_) (λf cdv A outer s H vs Q E hr h=>?_)
 ·obtain⟨pl,most,ja,jn,rfl,_⟩:=h;rfl
 obtain⟨pl,most,ja,jn,rfl,pa,q⟩:=h;refine⟨_,(Ae (Bb (i:=1) Ef.nd rfl (Or.inl rfl) aM)
 (Ae (Cd QbL rfl (Du (Ay Ih hr (Aa (pv 0) Ac))) (CQ rfl (Aq (Aj (i:=2) Ef.nd rfl (Or.inl rfl)) (Aq (Aj (i:=3) Ef.nd rfl (Or.inl rfl)) (Aq (Aj (i:=4) Ef.nd rfl (Or.inl rfl)) Bt))))
 (Ae (BX (Kc (RL (Cm hr) (pv 4) (pv 1))) (Ah (Bc (Bg (Aa Bp (Aa (pv 4) Ac))))) Bv)
 (Ah (FT (Cm hr) (pv 1) (pv 4) Dm rfl))))
 (Ah (Bc Lp)))),?_⟩
 show let R0:TS:=_;let R1:TS:=Al (FQ _ R0 _) _;let R2:TS:=Al (Dg _ _ R1) _;Al _ R2 _ _ _;intro R0 R1 R2;refine λd hd=>?_;have s0:=Ag hd (.dK []);refine⟨_,rq,pl,ja,rq,(pa.same s0).plan,pa.ok,λl xs H1 hl hx hp s1=>⟨l,rq,⟨_,SqL.of hx⟩,?_⟩⟩;have lx:=Qcd hp;have la:(up (pdL ja) ja.length).length=(CG ja).length:=by rw[<-JL ja,QbH]
 have c2:=pa.pok.cnt.2;have nd:((up (pdL ja) ja.length).map (·.addr)).Nodup:=by rw[JL];exact pa.pok.nd
 generalize up (pdL ja) ja.length=ds at *;have hd1:H1 d=some (.dK []):=s1 _ _ Ab;have nld:l≠d:=λz=>by rw[z,hd1] at hx;cases hx
 have nt:∀HH:Hp,(∃kvs,HH d=some (.dK kvs))->∀zs,HH d≠some (.tup zs):=λHH ⟨kvs,e⟩ zs z=>by rw[e] at z;cases z
 let J1:YN:=λi U HH=>∃u2 u3 u4,U=[jp pl,jp d,u2,u3,u4]/\HH d=some (.dK (Ip (λz:Sd=>Sum.inl z.addr) (ds.take i)))/\Ai d H1 HH;refine QW (xs:=xs) J1 ⟨_,_,_,rq,hd1,Ai.refl d H1⟩ (λi U HH _ h=>?_) (λi x U HH hx' h=>?_) (fun U HH h=>?_)
 ·obtain⟨u2,u3,u4,rfl,e1,e2⟩:=h;exact SqL.of (e2 _ _ hx nld)
 ·obtain⟨u2,u3,u4,rfl,e1,e2⟩:=h;obtain⟨z,hzi,tz,uz,rfl,h1,h2⟩:=Paired.Ck hp hx';have sT:=e2.tup (nt H1 ⟨_,hd1⟩);have fr:∀y∈ds.take i,(Sum.inl y.addr:Key)≠Sum.inl z.addr:=λy hy e=>Je nd hzi y hy (Sum.inl.inj e);refine⟨tz,_,rq,SqT.of (sT _ _ h1),rq,_,_,rq,_,_,rq,_,_,rq,rq,?_⟩;refine⟨_,rq,_,rq,d,_,rq,Dj.k (k:=Sum.inl z.addr) e1,_,rq,?_⟩;rw[O2 fr];refine Cp ⟨_,rq,_,rq,d,_,rq,Ik.k (k:=Sum.inl z.addr) e1 (Ar (by rw[Mh,Qbz];omega)),_,_,_,rq,?_,e2.trans Ai.upd⟩;rw[Ab,O4 (f:=λz:Sd=>Sum.inl z.addr) (x:=z) fr,QcE hzi]
 ·obtain⟨u2,u3,u4,rfl,e1,e2⟩:=h;exact q _ ((s0.trans s1).Bl e2 hd)
theorem Rg (C:Code K mg "address_stranger" HF Eo) (T:Ty K mg op oe kd wk) (Ih:Good P w K mg base "devices" 2 GP Vw):Good P w K mg base "address_stranger" 3 Eo Iw:=by
 have sc:=Dp;refine C.good Dp (λvs H Q E h=>?_) (λf cdv A outer s H vs Q E hr h=>?_)
 ·obtain⟨pl,most,ja,jn,rfl,_⟩:=h;rfl
 obtain⟨pl,most,ja,jn,rfl,pa,q⟩:=h;refine⟨_,(Ae (rE (i:=1) Dp.nd rfl (Or.inl rfl) (N':=xf) rfl (Bo.plain rfl (by trivial) (by trivial) (by trivial)) (Du (Ay Ih hr (Aa (pv 0) Ac))) (λ_ _ _ _=>(FW (K:=K) (n:=3) rfl rfl (Aq (Aj (i:=0) (show List.Nodup (xf:YF) by trivial) rfl (Or.inl rfl)) (Aq (Aj (i:=1) (show List.Nodup (xf:YF) by trivial) rfl (Or.inl rfl)) (Aq (Aj (i:=2) (show List.Nodup (xf:YF) by trivial) rfl (Or.inl rfl)) Bt))))) (λ_ _ _ _=>(Gy (Bs (VJ (K:=K) rfl) (pv 1) (RK rfl T.WARNING_KINDS) (by with_unfolding_all rfl)))) (λ_ _ _ _=>(pv 2)) (λ_ _ _ _=>Dm))
 (Ae (Cd QbL rfl (Fp (Bm BW (pv 0) Af (λ_ _=>rfl))) (CQ rfl (Aq (Aj (i:=2) Dp.nd rfl (Or.inl rfl)) (Aq (Aj (i:=3) Dp.nd rfl (Or.inl rfl)) Bt)))
 (Ah (Cd QbL rfl (Fp (pv 3)) (Aj (i:=4) Dp.nd rfl (Or.inl rfl))
 (Ah (BX (Kc (Oz (Cm hr) (pv 4) (pv 1))) (Ah (Bc (Bg (Aa Bp (Aa (pv 2) (Aa (pv 4) Ac)))))) Bv)))))
 (Ah (Bc Lp)))),?_⟩
 show let R0:TS:=_;let R1:TS:=FQ _ R0 _;let R2:TS:=Dg _ _ R1;let R3:TS:=Al (Dg _ _ R2) _;Al _ R3 _ _ _;intro R0 R1 R2 R3;refine⟨_,rq,pl,ja,rq,pa.plan,pa.ok,λl xs H1 hl hx hp s1=>⟨l,rq,⟨_,SqL.of hx⟩,λd hd=>?_⟩⟩;have lx:=Qcd hp;have la:(up (pdL ja) ja.length).length=(CG ja).length:=by rw[<-JL ja,QbH]
 have c2:=pa.pok.cnt.2;have nd:((up (pdL ja) ja.length).map (·.addr)).Nodup:=by rw[JL];exact pa.pok.nd
 have hw:∀x∈Fd ja,∃z∈(up (pdL ja) ja.length).filter (λz=>Ew z.kind),z.addr=x:=λx hx=>wB pa.ok hx;generalize up (pdL ja) ja.length=ds at *;have nld:l≠d:=Aw hx hd;let J2:YN:=λi U HH=>∃u2 u3 u4,U=[u2,u3,u4]/\HH d=some (.dK (Ip (λz:Sd=>Sum.inl z.addr) ((ds.take i).filter λz=>Ew z.kind)))/\Same H1 HH;refine dW (xs:=xs) J2 ⟨_,_,_,rq,Ab,Ag hd _⟩ (λi U HH _ h=>?_) (λi x U HH hx' h=>?_) (fun U HH h=>?_)
 ·obtain⟨u2,u3,u4,rfl,e1,e2⟩:=h;exact SqL.of (e2 _ _ hx)
 ·obtain⟨u2,u3,u4,rfl,e1,e2⟩:=h;obtain⟨z,hzi,tz,uz,rfl,h1,h2⟩:=Paired.Ck hp hx';have fr:∀y∈(ds.take i).filter (λz=>Ew z.kind),(Sum.inl y.addr:Key)≠Sum.inl z.addr:=λy hy e=>Je nd hzi y (QbO.mp hy).1 (Sum.inl.inj e);have et:(ds.take (i+1)).filter (λz=>Ew z.kind)=(ds.take i).filter (λz=>Ew z.kind)++[z].filter (λz=>Ew z.kind):=by rw[QcE hzi,Qbf]
  refine⟨tz,_,rq,SqT.of (e2 _ _ h1),rq,_,_,rq,_,_,rq,_,_,rq,rq,?_⟩;refine⟨_,rq,wk,_,rq,.inr (T.wkT HH),rq,rq,_,rq,?_⟩;rw[if_neg QaW];refine Gn (λhc=>?_) (λhc=>?_)
  ·refine⟨_,rq,_,Sum.inl z.addr,e1,rq,Ar ?_,_,_,_,rq,?_,e2.Bl Ai.upd hd⟩
   ·rw[Mh];have:=List.length_filter_le (λz:Sd=>Ew z.kind) (ds.take i);rw[Qbz] at this;omega
   ·rw[Ab,O4 (f:=λz:Sd=>Sum.inl z.addr) (x:=z) fr,et,show [z].filter (λz=>Ew z.kind)=[z] from Qau (p:=λz:Sd=>Ew z.kind) hc]
  ·refine⟨_,_,_,rq,?_,e2⟩;rw[et,show [z].filter (λz=>Ew z.kind)=[] from Qat (p:=λz:Sd=>Ew z.kind) (by show ¬Ew z.kind=true;rw[show Ew z.kind=false from hc];decide),QbK]
   exact e1
 obtain⟨u2,u3,u4,rfl,e1,e2⟩:=h;rw[lx,Qbx] at e1;have s2:=s1.trans e2;obtain⟨Ls,zs,ws,zvs,f1,f2,f3,f4,f5⟩:=pa.at_;refine⟨_,rq,pl,_,_,_,rq,rq,SqT.of (s2 _ _ f1),rq,zs,rq,⟨_,SqT.of (s2 _ _ f4)⟩,?_⟩;let J3:YN:=λi U HX=>∃u2 u3 u4,U=[jp pl,jp d,u2,u3,u4]/\HX=HH;refine KY (xs:=zvs) J3 ⟨_,_,_,rq,rq⟩ (λi U HX _ h=>?_) (λi x U HX hx' h=>?_) (fun U HX h=>?_)
 ·obtain⟨u2,u3,u4,rfl,rfl⟩:=h;exact SqT.of (s2 _ _ f4)
 ·obtain⟨u2,u3,u4,rfl,rfl⟩:=h;obtain⟨z,hzi,tz,uz,rfl,h1,h2⟩:=Paired.Ck f5 hx';refine⟨tz,_,rq,SqT.of (s2 _ _ h1),rq,_,_,rq,_,_,rq,rq,?_⟩;refine⟨_,rq,uz,rq,⟨_,SqT.of (s2 _ _ h2)⟩,?_⟩;let J4:YN:=λi U HY=>∃u4,U=[jp pl,jp d,some (.str z.name),jp uz,u4]/\HY=HX;refine KY (xs:=z.adr.map V.int) J4 ⟨_,rq,rq⟩ (λi U HY _ h=>?_) (λi x U HY hx2 h=>?_) (fun U HY h=>?_)
  ·obtain⟨u4,rfl,rfl⟩:=h;exact SqT.of (s2 _ _ h2)
  ·obtain⟨u4,rfl,rfl⟩:=h;rw[Qbn] at hx2;obtain⟨n1,hn1,rfl⟩:=QaA.mp hx2;obtain⟨y,hy,ey⟩:=hw n1 (pa.pok.zin z (QaI hzi) n1 (QaI hn1));have hs:(CV (Ip (λz:Sd=>Sum.inl z.addr) (ds.filter λz=>Ew z.kind)) (Sum.inl n1)).isSome=true:=by
    rw[<-Kr,List.any_eq_true];exact⟨_,Qcn.mpr ⟨y,hy,rq⟩,QbY (by show (Sum.inl y.addr:Key)=_;rw[ey])⟩
   refine⟨_,rq,_,rq,d,_,rq,Dj.k (k:=Sum.inl n1) e1,_,rq,?_⟩;rw[hs];exact Cp ⟨_,rq,rq⟩
  ·obtain⟨u4,rfl,rfl⟩:=h;exact⟨_,_,_,rq,rq⟩
 ·obtain⟨u2,u3,u4,rfl,rfl⟩:=h;exact q _ s2
theorem Uk (C:Code K mg "address_shared" Js Fv) (T:Ty K mg op oe kd wk):Good P w K mg base "address_shared" 1 Fv Iw:=by
 have sc:=DX;refine C.good DX (λvs H Q E h=>?_) (λf cdv A outer s H vs Q E hr h=>?_)
 ·obtain⟨pl,most,ja,jn,rfl,_⟩:=h;rfl
 obtain⟨pl,most,ja,jn,rfl,pa,q⟩:=h;refine⟨_,(Ae (Bb (i:=1) DX.nd rfl (Or.inl rfl) aM)
 (Ae (Cd QbL rfl (Fp (Bm BW (pv 0) Af (λ_ _=>rfl))) (CQ rfl (Aq (Aj (i:=2) DX.nd rfl (Or.inl rfl)) (Aq (Aj (i:=3) DX.nd rfl (Or.inl rfl)) Bt)))
 (Ah (Cd QbL rfl (Fp (pv 3)) (Aj (i:=4) DX.nd rfl (Or.inl rfl))
 (Ae (BX (Kc (RL (Cm hr) (pv 4) (pv 1))) (Ah (Bc (Bg (Aa Bp (Aa (pv 2) (Aa (pv 4) Ac)))))) Bv)
 (Ah (FT (Cm hr) (pv 1) (pv 4) Dm rfl))))))
 (Ah (Bc Lp)))),?_⟩
 show let R0:TS:=_;let R1:TS:=Al (FQ _ R0 _) _;let R2:TS:=Dg _ _ R1;let R3:TS:=Al (Dg _ _ R2) _;Al _ R3 _ _ _;intro R0 R1 R2 R3;refine λd hd=>?_;have s0:=Ag hd (.dK []);obtain⟨Ls,zs,ws,zvs,f1,f2,f3,f4,f5⟩:=pa.at_;have nd:=pa.pok.znd;have zl:=Qcd f5;have c8:=pa.pok.yO;have IC:∀i,((jn.take i).flatMap (·.adr)).length<=30*(jn.take i).length:=λi=>uL λz hz=>(pa.pok.zup z (List.mem_of_mem_take hz)).2.2;refine⟨_,rq,pl,_,_,_,rq,rq,SqT.of (s0 _ _ f1),rq,zs,rq,⟨_,SqT.of (s0 _ _ f4)⟩,?_⟩;let J5:YN:=λi U HX=>∃u2 u3 u4,U=[jp pl,jp d,u2,u3,u4]/\HX d=some (.dK (Ip Sum.inl ((jn.take i).flatMap (·.adr))))/\Same H HX;refine KY (xs:=zvs) J5 ⟨_,_,_,rq,Ab,s0⟩ (λi U HX _ h=>?_) (λi x U HX hx' h=>?_) (fun U HX h=>?_)
 ·obtain⟨u2,u3,u4,rfl,e1,e2⟩:=h;exact SqT.of (e2 _ _ f4)
 ·obtain⟨u2,u3,u4,rfl,e1,e2⟩:=h;obtain⟨z,hzi,tz,uz,rfl,h1,h2⟩:=Paired.Ck f5 hx';have hm:=QaI hzi;refine⟨tz,_,rq,SqT.of (e2 _ _ h1),rq,_,_,rq,_,_,rq,rq,?_⟩;refine⟨_,rq,uz,rq,⟨_,SqT.of (e2 _ _ h2)⟩,?_⟩;have On:=(pa.pok.zup z hm).2.2;have hlen:(z.adr.map V.int).length=z.adr.length:=QbH ..;have hsp:(jn.take (i+1)).flatMap (·.adr)=(jn.take i).flatMap (·.adr)++z.adr:=by rw[QcE hzi,QaQ];simp
  have ndz:((jn.take i).flatMap (·.adr)++z.adr).Nodup:=by
   rw[<-hsp];exact (uK (List.take_sublist (i+1) jn)).nodup nd
  have hc:=IC i;have hti:(jn.take i).length<=8:=by rw[Qbz];omega
  let J6:YN:=λj U HY=>∃u4,U=[jp pl,jp d,some (.str z.name),jp uz,u4]/\HY d=some (.dK (Ip Sum.inl ((jn.take i).flatMap (·.adr)++z.adr.take j)))/\Same H HY;refine KY (xs:=z.adr.map V.int) J6 ⟨_,rq,by rw[List.take_zero,QbK];exact e1,e2⟩ (λj U HY _ h=>?_) (λj x U HY hx2 h=>?_) (fun U HY h=>?_)
  ·obtain⟨u4,rfl,_,e⟩:=h;exact SqT.of (e _ _ h2)
  ·obtain⟨u4,rfl,g1,g2⟩:=h;rw[Qbn] at hx2;obtain⟨n1,hn1,rfl⟩:=QaA.mp hx2;have fr:∀y∈(jn.take i).flatMap (·.adr)++z.adr.take j,(Sum.inl y:Key)≠Sum.inl n1:=λy hy e=>by
    have e:=Sum.inl.inj e;subst e;obtain⟨_,n2,n3⟩:=Qbw.mp ndz;rcases QbJ.mp hy with h | h
    ·exact n3 y h y (QaI hn1) rfl
    ·exact Tv n2 hn1 y h rfl
   refine⟨_,rq,_,rq,d,_,rq,Dj.k (k:=Sum.inl n1) g1,_,rq,?_⟩;rw[O2 fr];refine Cp ⟨_,rq,_,rq,d,_,rq,Ik.k (k:=Sum.inl n1) g1 (Ar ?_),_,rq,?_,g2.Bl Ai.upd hd⟩
   ·rw[Mh,QaU,Qbz];omega
   ·rw[Ab,O4 (f:=Sum.inl) (x:=n1) fr,QcE hn1,Qbm]
  ·obtain⟨u4,rfl,g1,g2⟩:=h;rw[hlen,Qbx,<-hsp] at g1;exact⟨_,_,_,rq,g1,g2⟩
 ·obtain⟨u2,u3,u4,rfl,e1,e2⟩:=h;exact q _ e2
theorem VN (C:Code K mg "part_crowded" Kv Gz) (T:Ty K mg op oe kd wk) (yr:Good P w K mg base "parts" 2 Qj fV):Good P w K mg base "part_crowded" 3 Gz Iw:=by
 have sc:=FZ;refine C.good FZ (λvs H Q E h=>?_) (λf cdv A outer s H vs Q E hr h=>?_)
 ·obtain⟨pl,most,ja,jn,rfl,_⟩:=h;rfl
 obtain⟨pl,most,ja,jn,rfl,pa,q⟩:=h;refine⟨_,(Ae (Cd QbL rfl (CT rfl T.range (Aa (Az Bh rfl T.len Cu (Aa (Bm BW (pv 0) Af (λ_ _=>rfl)) Ac)) Ac)) (Aj (i:=1) FZ.nd rfl (Or.inl rfl))
 (Ah (Cd QbL rfl (nF rfl T.enumerate (Ay yr hr (Aa (pv 0) (Aa (pv 1) Ac)))) (CQ rfl (Aq (Aj (i:=2) FZ.nd rfl (Or.inl rfl)) (Aq (Aj (i:=3) FZ.nd rfl (Or.inl rfl)) Bt)))
 (Ah (BX (Bs QG (Az Bh rfl T.len Cu (Aa (pv 3) Ac)) (Bm BW (pv 0) Af (λ_ _=>rfl)) (Bq _)) (Ah (Bc (Bg (Aa Bp (Aa (pv 1) (Aa (pv 2) Ac)))))) Bv)))))
 (Ah (Bc Lp))),?_⟩
 show let R0:TS:=_;let R1:TS:=FQ _ R0 _;let R2:TS:=Dg _ _ R1;Al (Dg _ _ R2) _ _ _ _;intro R0 R1 R2;obtain⟨Ls,zs,ws,zvs,f1,f2,f3,f4,f5⟩:=pa.at_;have lw:=Qcd f3;have l3:=pa.ok.hi;refine⟨_,rq,pl,_,_,_,rq,rq,SqT.of f1,rq,Ls,_,rq,.inr (SqT.of f2),_,rq,by omega,by omega,?_⟩;rw[Qbo];refine Ec (λi U HX=>∃u1 u2 u3,U=[jp pl,u1,u2,u3]/\Same H HX) ⟨_,_,_,rq,Same.refl H⟩ (λi U HX hi h=>?_) (fun U HX h=>?_)
 ·obtain⟨u1,u2,u3,rfl,e1⟩:=h;have hwi:ws[i]?=some ws[i]:=Qam hi;obtain⟨ps,hpi,t,vs',ev,ht,hps⟩:=Paired.Ck f3 hwi;have hm:=QaI hpi;have okl:=pa.ok.ok ps hm;refine⟨_,rq,_,rq,pl,Ls,t,_,_,ws,vs',i,ps,?_,e1 _ _ f1,e1 _ _ f2,by rw[hwi,ev],e1 _ _ ht,Paired.Ax hps λ_ _ z=>z.tups (Am.of e1),okl.ok,okl.hi,λl xs H1 hl hx hp hfr s1=>⟨l,rq,⟨_,SqL.of hx⟩,?_⟩⟩
  ·show [V.ref pl,.int (0+(i:Int))]++[]=_;rw[Qcu];rfl
  let J7:YN:=λj U HY=>∃u2 u3,U=[jp pl,some (.int (0+(i:Int))),u2,u3]/\Same H1 HY;refine pI (xs:=xs) (lo:=0) J7 ⟨_,_,rq,Same.refl H1⟩ (λj U HY _ h=>?_) (λj x p U HY hx' h hp'=>?_) (fun U HY h=>?_)
  ·obtain⟨u2,u3,rfl,g1⟩:=h;exact SqL.of (g1 _ _ hx)
  ·obtain⟨u2,u3,rfl,g1⟩:=h;obtain⟨sps,hsi,qq,ys,rfl,hq1,hq2⟩:=Paired.Ck hp hx';have ly:=Qcd hq2;have s2:=Ag hp' (.tup [.int ((0+j:Nat):Int),.ref qq]);have g2:=g1.trans s2;have hfew:(sps.length:Int)<=most:=pa.pok.few ps hm _ (rO (lp:=i) sps (QaI hsi));refine⟨p,_,rq,SqT.of Ab,rq,_,_,rq,_,_,rq,rq,?_⟩;refine⟨_,rq,qq,_,rq,.inl (SqL.of (g2 _ _ hq1)),_,rq,pl,_,_,_,rq,rq,SqT.of (g2 _ _ (s1 _ _ (e1 _ _ f1))),rq,_,_,rq,rq,_,rq,?_⟩;have hg:decide ((ys.length:Int) > most)=false:=QbM (by omega);rw[show decide (most < (ys.length:Int))=false from hg]
   exact Cp ⟨_,_,rq,g2⟩
  ·obtain⟨u2,u3,rfl,g1⟩:=h;exact⟨_,_,_,rq,e1.trans (s1.trans g1)⟩
 ·obtain⟨u1,u2,u3,rfl,e1⟩:=h;exact q _ e1
theorem rT (C:Code K mg "wrong" Wz Qh) (T:Ty K mg op oe kd wk) (V9:Good P w K mg base "address_twice" 3 Ge Iw) (Xo:Good P w K mg base "part_crowded" 3 Gz Iw) (RZ:Good P w K mg base "address_stranger" 3 Eo Iw) (Vg:Good P w K mg base "address_shared" 1 Fv Iw):Good P w K mg base "wrong" 4 Qh Iw:=by
 refine C.good qU (λvs H Q E h=>?_) (λf cdv A outer s H vs Q E hr h=>?_)
 ·obtain⟨pl,most,ja,jn,rfl,_⟩:=h;rfl
 obtain⟨pl,most,ja,jn,rfl,pa,q⟩:=h;refine⟨_,(Ah (Bc (aK (Ay V9 hr (Aa (pv 0) Ac)) (aK (Ay Xo hr (Aa (pv 0) Ac)) (aK (Ay RZ hr (Aa (pv 0) Ac)) (DG (Ay Vg hr (Aa (pv 0) Ac)))))))),?_⟩;exact⟨_,rq,pl,most,ja,jn,rq,pa,λH1 s1=>⟨rq,_,rq,pl,most,ja,jn,rq,pa.same s1,λH2 s2=>⟨rq,_,rq,pl,most,ja,jn,rq,(pa.same s1).same s2,λH3 s3=>⟨rq,_,rq,pl,most,ja,jn,rq,((pa.same s1).same s2).same s3,λH4 s4=>q _ (s1.trans (s2.trans (s3.trans s4)))⟩⟩⟩⟩
theorem aV (C:Code K mg "is_let_by" Pk IW) (T:Ty K mg op oe kd wk) (pD:Good P w K mg base "is_plan" 9 LR Tn) (yq:Good P w K mg base "wrong" 4 Qh Iw):Good P w K mg base "is_let_by" 10 IW Tn:=by
 refine C.good ZQ (λvs H Q E h=>?_) (λf cdv A outer s H vs Q E hr h=>?_)
 ·obtain⟨pl,most,ja,jn,rfl,_⟩:=h;rfl
 obtain⟨pl,most,ja,jn,rfl,pa,q⟩:=h;refine⟨_,(Ah (Bc (EY (Ay pD hr (Aa (pv 0) Ac)) (DG (Es zV (Ay yq hr (Aa (pv 0) Ac)) Lp (Bq _)))))),?_⟩;exact⟨_,rq,pl,most,ja,jn,rq,pa,λH1 s1=>⟨_,rq,Cr ⟨_,rq,pl,most,ja,jn,rq,pa.same s1,λH2 s2=>⟨rq,q _ (s1.trans s2)⟩⟩⟩⟩
end
instance:DecidableEq Sp3:=λa b=>if h:a.lp=b.lp/\a.at_=b.at_/\a.n=b.n then isTrue (by cases a;cases b;simp at h;obtain⟨h1,h2,h3⟩:=h;subst h1 h2 h3;rfl) else isFalse λe=>h (by rw[e];exact⟨rfl,rfl,rfl⟩)
def cd3 (s:Sp3):Int:=s.lp*10000+s.at_*100+s.n
structure Bd3 (s:Sp3):Prop where
 l0:0<=s.lp
 l1:s.lp<=2
 a0:0<=s.at_
 a1:s.at_<=12
 n0:0<=s.n
 n1:s.n<=3
theorem Bd3.inj {s t:Sp3} (h:Bd3 s) (k:Bd3 t) (e:cd3 s=cd3 t):s=t:=by
 unfold cd3 at e;have h1:=h.l0;have h2:=h.l1;have h3:=h.a0;have h4:=h.a1;have h5:=h.n0;have h6:=h.n1;have k1:=k.l0;have k2:=k.l1;have k3:=k.a0;have k4:=k.a1;have k5:=k.n0;have k6:=k.n1;cases s;cases t;dsimp only at *;congr 1 <;> omega
theorem Bd3.c3 {s:Sp3} (h:Bd3 s):C3 s.lp s.at_ s.n (cd3 s):=⟨h.a0,by have:=h.a1;omega,h.n0,by have:=h.n1;omega,rfl⟩
theorem Ks {α : Type} {c:α->Int} {f:Nat->List α} {g:Nat->Int} (hg:∀i,g i<=g (i+1)) (h1:∀i,((f i).map c).Pairwise (· < ·)) (h2:∀i,∀x∈f i,g i<=c x/\c x < g (i+1)):∀n,((up f n).map c).Pairwise (· < ·)/\∀x∈up f n,g 0<=c x/\c x < g n
 | 0=>by rw[M6];exact⟨List.Pairwise.nil,λx h=>by cases h⟩
 | n+1=>by
  obtain⟨a,b⟩:=Ks hg h1 h2 n;have g0:∀m,g 0<=g m:=λm=>by
   induction m with
   | zero=>exact Int.le_refl _
   | succ m ih=>exact Int.le_trans ih (hg m)
  rw[Dn,QbI];refine⟨List.pairwise_append.mpr ⟨a,h1 n,λx hx y hy=>?_⟩,λx hx=>?_⟩
  ·obtain⟨x',hx',rfl⟩:=Qcn.mp hx;obtain⟨y',hy',rfl⟩:=Qcn.mp hy;have:=b x' hx';have:=h2 n y' hy';omega
  ·rcases QbJ.mp hx with h | h
   ·have:=b x h;have:=hg n;omega
   ·have:=h2 n x h;have:=g0 n;omega
theorem jr (k:Int):∀m:Nat,((List.range m).map λn:Nat=>k+(n:Int)).Pairwise (· < ·):=λm=>by
 rw[Qbv];exact List.pairwise_lt_range.imp λ{a b} h=>by omega
theorem Uq (lp a:Int):∀(n:Nat) (ds:List Dev),(Dz lp a n ds).map (λd=>cd3 d.spot)=(List.range' n ds.length).map λj:Nat=>lp*10000+a*100+(j:Int)
 | _,[]=>rfl
 | n,d::r=>by
  rw[Qby,List.range'_succ,Qcf,<-Uq lp a (n+1) r];rfl
theorem aF (lp a:Int) (p:Place):((Cj lp a p).map λd=>cd3 d.spot).Pairwise (· < ·):=by
 unfold Cj;split
 ·exact List.Pairwise.nil
 ·rw[Qcf,Uq];refine List.pairwise_cons.mpr ⟨λx hx=>?_,?_⟩
  ·obtain⟨j,hj,rfl⟩:=Qcn.mp hx;have:=List.mem_range'_1.mp hj;show lp*10000+a*100+0 < _;omega
  ·rw[Qbv];exact (List.pairwise_lt_range').imp λ{x y} h=>by omega
theorem Vv (lp a:Int):∀(n:Nat) (ds:List Dev) (d:Sd),d∈Dz lp a n ds->d.lp=lp/\d.at_=a/\(n:Int)<=d.n/\d.n < (n:Int)+ds.length
 | _,[],d,h=>by cases h
 | n,x::r,d,h=>by
  rcases Qce.mp h with rfl | h
  ·exact⟨rq,rq,Int.le_refl _,by show (n:Int) < (n:Int)+((r.length+1:Nat):Int);omega⟩
  ·obtain⟨h1,h2,h3,h4⟩:=Vv lp a (n+1) r d h;exact⟨h1,h2,by omega,by rw[Qby];omega⟩
theorem Ut {lp a:Int} {p:Place} (h:p.spur.length<=3) {d:Sd} (hd:d∈Cj lp a p):d.lp=lp/\d.at_=a/\0<=d.n/\d.n<=3:=by
 unfold Cj at hd;split at hd
 ·cases hd
 ·rcases Qce.mp hd with rfl | hd
  ·exact⟨rq,rq,Int.le_refl _,by show (0:Int)<=3;decide⟩
  ·obtain⟨h1,h2,h3,h4⟩:=Vv lp a 1 p.spur d hd;exact⟨h1,h2,by omega,by omega⟩
theorem GJ {α β : Type} {o:Option α} {g:α->List β} {x:β} (h:x∈ifs o g):∃a,o=some a/\x∈g a:=by
 cases o with
 | none=>cases h
 | some a=>exact⟨a,rfl,h⟩
theorem Gs {α : Type} {f:Nat->List α} {x:α}:∀{n:Nat},x∈up f n->∃i,i < n/\x∈f i
 | 0,h=>by rw[M6] at h;cases h
 | n+1,h=>by
  rw[Dn] at h;rcases QbJ.mp h with h | h
  ·obtain⟨i,a,b⟩:=Gs h;exact⟨i,by omega,b⟩
  ·exact⟨n,QbD n,h⟩
theorem KQ {α β : Type} {c:β->Int} {o:Option α} {g:α->List β} (h:∀a,o=some a->((g a).map c).Pairwise (· < ·)):((ifs o g).map c).Pairwise (· < ·):=by
 cases o with
 | none=>exact List.Pairwise.nil
 | some a=>exact h a rfl
theorem iz {ja:YU} (ok:Fi ja) {k:Nat} {d:Sd} (h:d∈pdL ja k):d.lp=(k:Int)/\1<=d.at_/\d.at_<=12/\0<=d.n/\d.n<=3:=by
 obtain⟨ps,hps,h⟩:=GJ h;have okl:=ok.ok ps (QaI hps);obtain⟨i,hi,h⟩:=Gs h;obtain⟨p,hp,h⟩:=GJ h;obtain⟨h1,h2,h3,h4⟩:=Ut (okl.ok p (QaI hp)).spur h;have:=okl.hi;exact⟨h1,by rw[h2];omega,by rw[h2];omega,h3,h4⟩
theorem uO {ja:YU} (ok:Fi ja):((up (pdL ja) ja.length).map λd=>cd3 d.spot).Pairwise (· < ·):=by
 refine (Ks (g:=λi=>(i:Int)*10000) (λi=>by omega) (λk=>KQ λps hps=>?_) (λk d hd=>?_) ja.length).1
 ·have okl:=ok.ok ps (QaI hps);refine (Ks (g:=λi=>(k:Int)*10000+(1+i:Int)*100) (λi=>by omega) (λi=>KQ λp hp=>aF _ _ p) (λi d hd=>?_) ps.length).1;obtain⟨p,hp,hd⟩:=GJ hd;obtain⟨h1,h2,h3,h4⟩:=Ut (okl.ok p (QaI hp)).spur hd;show (k:Int)*10000+(1+i:Int)*100<=d.lp*10000+d.at_*100+d.n/\d.lp*10000+d.at_*100+d.n < (k:Int)*10000+(1+((i+1:Nat):Int))*100;rw[h1,h2];push_cast;omega
 ·obtain⟨h1,h2,h3,h4,h5⟩:=iz ok hd;show (k:Int)*10000<=d.lp*10000+d.at_*100+d.n/\d.lp*10000+d.at_*100+d.n < ((k+1:Nat):Int)*10000;rw[h1];push_cast;omega
theorem By {ja:YU} (ok:Fi ja):∀d∈up (pdL ja) ja.length,Bd3 d.spot:=λd hd=>by
 obtain⟨k,hk,hd⟩:=Gs hd;obtain⟨h1,h2,h3,h4,h5⟩:=iz ok hd;have:=ok.hi;exact⟨by show 0<=d.lp;omega,by show d.lp<=2;omega,by show 0<=d.at_;omega,h3,h4,h5⟩
theorem fH {lp:Int} {ps:List Place} (ok:OkL ps) {i:Nat} {s:Sp3} (h:s∈st1 lp ps i):s.lp=lp/\s.at_=((1+i:Nat):Int)/\i < ps.length/\0<=s.n/\s.n<=3:=by
 obtain⟨p,hp,h⟩:=GJ h;have h3:=(ok.ok p (QaI hp)).spur;obtain⟨n,hn,rfl⟩:=Qcn.mp h;have:=Qcb.mp hn;exact⟨rq,rq,(Qah.mp hp).1,by show (0:Int)<=(n:Int);omega,by show (n:Int)<=3;omega⟩
theorem lX {ja:YU} (ok:Fi ja) {k:Nat} {s:Sp3} (h:s∈stL ja k):s.lp=(k:Int)/\0<=s.at_/\s.at_<=12/\0<=s.n/\s.n<=3:=by
 obtain⟨ps,hps,h⟩:=GJ h;have okl:=ok.ok ps (QaI hps);have IA:=okl.hi;rcases Qce.mp h with rfl | h
 ·exact⟨rq,by show (0:Int)<=0;decide,by show (0:Int)<=12;decide,by show (0:Int)<=0;decide,by show (0:Int)<=3;decide⟩
 ·obtain⟨i,hi,h⟩:=Gs h;obtain⟨h1,h2,h3,h4,h5⟩:=fH okl h;exact⟨h1,by rw[h2];omega,by rw[h2];omega,h4,h5⟩
theorem wH {ja:YU} (ok:Fi ja):((up (stL ja) ja.length).map cd3).Pairwise (· < ·):=by
 refine (Ks (g:=λi=>(i:Int)*10000) (λi=>by omega) (λk=>KQ λps hps=>?_) (λk d hd=>?_) ja.length).1
 ·have okl:=ok.ok ps (QaI hps);obtain⟨a,b⟩:=Ks (c:=cd3) (f:=st1 (k:Int) ps) (g:=λi=>(k:Int)*10000+(1+i:Int)*100) (λi=>by omega) (λi=>KQ λp hp=>by
   rw[Qcq];have:=jr ((k:Int)*10000+((1+i:Nat):Int)*100) (p.spur.length+1);exact this) (λi s hs=>by
   obtain⟨h1,h2,h3,h4,h5⟩:=fH okl hs;show (k:Int)*10000+(1+i:Int)*100<=s.lp*10000+s.at_*100+s.n/\s.lp*10000+s.at_*100+s.n < (k:Int)*10000+(1+((i+1:Nat):Int))*100;rw[h1,h2];push_cast;omega) ps.length
  rw[Qcf];refine List.pairwise_cons.mpr ⟨λx hx=>?_,a⟩;obtain⟨s,hs,rfl⟩:=Qcn.mp hx;have h0:=(b s hs).1;have h0:(k:Int)*10000+(1+((0:Nat):Int))*100<=cd3 s:=h0;show (k:Int)*10000+0*100+0 < cd3 s;omega
 ·obtain⟨h1,h2,h3,h4,h5⟩:=lX ok hd;show (k:Int)*10000<=d.lp*10000+d.at_*100+d.n/\d.lp*10000+d.at_*100+d.n < ((k+1:Nat):Int)*10000;rw[h1];push_cast;omega
theorem vB {ja:YU} (ok:Fi ja):∀s∈up (stL ja) ja.length,Bd3 s:=λs hs=>by
 obtain⟨k,hk,hs⟩:=Gs hs;obtain⟨h1,h2,h3,h4,h5⟩:=lX ok hs;have:=ok.hi;exact⟨by omega,by omega,h2,h3,h4,h5⟩
theorem WM {α : Type} {c:α->Int} {l:List α} (h:(l.map c).Pairwise (· < ·)):l.Nodup:=by
 rw[Qbv] at h;exact h.imp λ{a b} hab e=>by rw[e] at hab;omega
abbrev Ju:Stmt:=(inClass (top 45) 0)
abbrev Fx:YF:=["self","plan"]
theorem Uh:Ba ["self","plan"] Fx (Ak Ju):=by ac_rfl
abbrev Gx:Stmt:=(inClass (top 45) 1)
abbrev Cy:YF:=["self","stretch"]
theorem Pg:Ba Cy Cy (Ak Gx):=by ac_rfl
abbrev Px:Stmt:=(inClass (top 45) 3)
abbrev Jc:YF:=Cy
theorem ZX:Ba Cy Jc (Ak Px):=by ac_rfl
abbrev Mt:Stmt:=(inClass (top 45) 4)
abbrev G9:YF:=Cy
theorem Wy:Ba Cy G9 (Ak Mt):=by ac_rfl
abbrev Nx:Stmt:=(inClass (top 45) 5)
abbrev HW:YF:=Cy
theorem Ys:Ba Cy HW (Ak Nx):=by ac_rfl
abbrev HN:Stmt:=(inClass (top 45) 2)
abbrev Dv:YF:=["self","spot"]
theorem Rf:Ba Dv Dv (Ak HN):=by ac_rfl
abbrev Jt:Stmt:=(inClass (top 45) 7)
abbrev Fw:YF:=Dv
theorem Ug:Ba Dv Fw (Ak Jt):=by ac_rfl
abbrev Ky:Stmt:=(inClass (top 45) 8)
abbrev GC:YF:=["self","spot","kind","address"]
theorem Vz:Ba GC GC (Ak Ky):=by ac_rfl
abbrev Ms:Stmt:=(inClass (top 45) 9)
abbrev G8:YF:=["self"]
theorem Wx:Ba ["self"] G8 (Ak Ms):=by ac_rfl
structure Tw (K:YD) (mg:YB) (op oe kd wk C:Addr):Prop extends Ty K mg op oe kd wk where
 cl:Cls K C
 mgC:mg "Wires"=some (.ref C)
 bC:Ji K C "plan"
 Gm:Ji K C "states"
 Jv:Ji K C "filled"
 GF:Ji K C "gaps"
def ff (pl d1 d2 d3:Addr):List (Str×V):=[("plan",.ref pl),("states",.ref d1),("filled",.ref d2),("gaps",.ref d3)]
abbrev xS:YF:=["plan","states","filled","gaps"]
theorem tU:(xS:YF).Nodup:=by trivial
section
variable (pl d1 d2 d3:Addr)
theorem fnd:((ff pl d1 d2 d3).map (·.1)).Nodup:=tU
theorem Gf:List.lookup ("states":Str) (ff pl d1 d2 d3)=some (V.ref d1):=Sh (i:=1) (fnd pl d1 d2 d3) rfl
theorem Kl:List.lookup ("filled":Str) (ff pl d1 d2 d3)=some (V.ref d2):=Sh (i:=2) (fnd pl d1 d2 d3) rfl
end
theorem fno {pl d1 d2 d3:Addr} {x:Str} (h:x∉(xS:YF)):(ff pl d1 d2 d3).lookup x=none:=vX h
def k3 (s:Sp3):List Key:=[.inl s.lp,.inl s.at_,.inl s.n]
theorem Ie {s t:Sp3} (h:k3 s=k3 t):s=t:=by
 cases s;cases t;simp[k3] at h;obtain⟨h1,h2,h3⟩:=h;subst h1 h2 h3;rfl
abbrev YR:=List (Sp3×Str)
def stV (hs:YR):YL:=hs.map λx=>(k3 x.1,.str x.2)
theorem M5 {κ : Type} [DecidableEq κ]:∀{l:List (κ×V)} {k:κ},(∀x∈l,x.1≠k)->CV l k=none
 | [],_,_=>rfl
 | a::r,k,h=>by rw[GR (h a (QaV ..))];exact M5 λx hx=>h x (QaJ _ hx)
theorem Nz {κ : Type} [DecidableEq κ] {l:List (κ×V)} {k:κ} {v:V} (h:∃x∈l,x.1=k):putK l k v=l.map λkv=>if kv.1=k then (kv.1,v) else kv:=by
 unfold putK;obtain⟨x,hx,e⟩:=h;exact if_pos (List.any_eq_true.mpr ⟨x,hx,QbY e⟩)
def Gi {β : Type} (l:List (Sp3×β)) (s:Sp3) (v:β):List (Sp3×β):=l.map λx=>if x.1=s then (x.1,v) else x
theorem Jp {β : Type} (l:List (Sp3×β)) (s:Sp3) (v:β):(Gi l s v).map (·.1)=l.map (·.1):=by
 unfold Gi;rw[Qcq];refine QaO λx _=>?_;show (if x.1=s then (x.1,v) else x).1=x.1
 split <;> rfl
theorem UL {β : Type} (l:List (Sp3×β)) (s:Sp3) (v:β):(Gi l s v).length=l.length:=QbH ..
theorem Wr {hs:YR} {s:Sp3} {z:Str} (h:s∈hs.map (·.1)):putK (stV hs) (k3 s) (.str z)=stV (Gi hs s z):=by
 obtain⟨x,hx,e⟩:=Qcn.mp h;rw[Nz (l:=stV hs) ⟨_,Qcn.mpr ⟨x,hx,rq⟩,by show k3 x.1=_;rw[e]⟩];unfold stV Gi;rw[Qcq,Qcq];refine QaO λy _=>?_;show (if k3 y.1=k3 s then (k3 y.1,V.str z) else (k3 y.1,V.str y.2))=(k3 (if y.1=s then (y.1,z) else y).1,V.str (if y.1=s then (y.1,z) else y).2)
 by_cases e:y.1=s
 ·rw[if_pos (by rw[e]),if_pos e]
 ·rw[if_neg (λz=>e (Ie z)),if_neg e]
def HeldAt (H:Hp) (v:V):Option (Str×Int)->Prop
 | none=>v=.non
 | some d=>∃t,v=.ref t/\H t=some (.tup [.str d.1,.int d.2])
def Hl (H:Hp) (kv:List Key×V) (x:Sp3×Option (Str×Int)):Prop:=kv.1=k3 x.1/\HeldAt H kv.2 x.2
theorem Hl.tups {H H':Hp} (s:Am H H') {kv:List Key×V} {x:Sp3×Option (Str×Int)} (h:Hl H kv x):Hl H' kv x:=by
 obtain⟨h1,h2⟩:=h;refine⟨h1,?_⟩;cases e:x.2 with
 | none=>rw[e] at h2;exact h2
 | some d=>
  rw[e] at h2;obtain⟨t,a,b⟩:=h2;exact⟨t,a,s _ _ b⟩
def k2 (g:Gt):List Key:=[.inl g.lp,.inl g.at_]
theorem RT {s t:Gt} (h:k2 s=k2 t):s=t:=by
 cases s;cases t;simp[k2] at h;obtain⟨h1,h2⟩:=h;subst h1 h2;rfl
abbrev YT:=List (Gt×Bool)
def gpV (gs:YT):YL:=gs.map λx=>(k2 x.1,.bl x.2)
structure WAt (C:Addr) (H:Hp) (p pl d1 d2 d3:Addr) (hs:YR) (fl:List (Sp3×Option (Str×Int))) (gs:YT):Prop where
 ins:∃dx,H p=some (.ins C dx (ff pl d1 d2 d3))
 st:H d1=some (.dT (stV hs))
 fi:∃kvs,H d2=some (.dT kvs)/\Paired (Hl H) kvs fl
 nd1:(hs.map (·.1)).Nodup
 nd2:(fl.map (·.1)).Nodup
 l1:hs.length<=200
 l2:fl.length<=200
 gp:H d3=some (.dT (gpV gs))
 nd3:(gs.map (·.1)).Nodup
 l3:gs.length<=200
 n13:d1≠d3
 n23:d2≠d3
abbrev YQ:=List (Sp3×Option (Str×Int))
theorem WAt.same {C:Addr} {H H':Hp} {p pl d1 d2 d3:Addr} {hs:YR} {fl:YQ} {gs:YT} (h:WAt C H p pl d1 d2 d3 hs fl gs) (s:Same H H'):WAt C H' p pl d1 d2 d3 hs fl gs:=by
 obtain⟨dx,e⟩:=h.ins;obtain⟨kvs,e2,e3⟩:=h.fi;exact⟨⟨dx,s _ _ e⟩,s _ _ h.st,⟨kvs,s _ _ e2,Paired.Ax e3 λ_ _ z=>z.tups (Am.of s)⟩,h.nd1,h.nd2,h.l1,h.l2,s _ _ h.gp,h.nd3,h.l3,h.n13,h.n23⟩
theorem WAt.Ep {C b:Addr} {H H':Hp} {p pl d1 d2 d3:Addr} {hs:YR} {fl:YQ} {gs:YT} (h:WAt C H p pl d1 d2 d3 hs fl gs) (s:Ai b H H') (nt:∀zs,H b≠some (.tup zs)) (n0:p≠b) (n1:d1≠b) (n2:d2≠b) (n3:d3≠b):WAt C H' p pl d1 d2 d3 hs fl gs:=by
 obtain⟨dx,e⟩:=h.ins;obtain⟨kvs,e2,e3⟩:=h.fi;exact⟨⟨dx,s _ _ e n0⟩,s _ _ h.st n1,⟨kvs,s _ _ e2 n2,Paired.Ax e3 λ_ _ z=>z.tups (s.tup nt)⟩,h.nd1,h.nd2,h.l1,h.l2,s _ _ h.gp n3,h.nd3,h.l3,h.n13,h.n23⟩
def NG (H:Hp) (v:V) (ss:YV):Prop:=∃b s,v=.ref b/\H b=some (.tup [.int s.lp,.int s.at_,.int s.n])/\s∈ss
def Il (fl:YQ):List Sd:=fl.filterMap λx=>x.2.map λd=>⟨x.1.lp,x.1.at_,x.1.n,d.1,d.2⟩
theorem Us {H:Hp} {v:V} {ss:YV} (h:NG H v ss):Td (JM H v) 3=true:=by
 obtain⟨b,s,rfl,hb,_⟩:=h;rw[Ds hb];rfl
theorem Oh {H:Hp}:∀{kvs:YL} {fl:YQ},Paired (Hl H) kvs fl->kvs.map (·.1)=fl.map λx=>k3 x.1
 | _,_,.nil=>rfl
 | _,_,.cons h t=>by rw[Qcf,Qcf,h.1,Oh t]
theorem Vi {H':Hp} {s:Sp3} {v:V} {o:Option (Str×Int)} (hv:HeldAt H' v o):∀{kvs:YL} {fl:YQ},Paired (Hl H') kvs fl->Paired (Hl H') (kvs.map λkv=>if kv.1=k3 s then (kv.1,v) else kv) (Gi fl s o)
 | _,_,.nil=>.nil
 | _,_,.cons (a:=kv) (b:=x) h t=>by
  have ih:=Vi (s:=s) hv t;refine .cons ?_ ih;show Hl H' (if kv.1=k3 s then (kv.1,v) else kv) (if x.1=s then (x.1,o) else x)
  by_cases e:x.1=s
  ·rw[if_pos e,if_pos (by rw[h.1,e])];exact⟨h.1,hv⟩
  ·rw[if_neg e,if_neg (λz=>e (Ie (by rw[<-h.1,z])))];exact h
theorem qR {C:Addr} {H H':Hp} {p pl d1 d2 d3:Addr} {hs:YR} {fl:YQ} {gs:YT} {s:Sp3} {z:Str} (R:WAt C H p pl d1 d2 d3 hs fl gs) (n12:d1≠d2) (e:H' d1=some (.dT (stV (Gi hs s z)))) (sb:Ai d1 H H') (nt:∀zs,H d1≠some (.tup zs)) (npd:p≠d1):WAt C H' p pl d1 d2 d3 (Gi hs s z) fl gs:=by
 obtain⟨dx,hp⟩:=R.ins;obtain⟨kvs,hk,hf⟩:=R.fi;exact⟨⟨dx,sb _ _ hp npd⟩,e,⟨kvs,sb _ _ hk n12.symm,Paired.Ax hf λ_ _ y=>y.tups (sb.tup nt)⟩,by rw[Jp];exact R.nd1,R.nd2,by rw[UL];exact R.l1,R.l2,sb _ _ R.gp R.n13.symm,R.nd3,R.l3,R.n13,R.n23⟩
def Vx (C:Addr):Sp:=λvs H Q _=>∃p pl d1 d2 d3 hs fl gs b s,vs=[.ref p,.ref b]/\WAt C H p pl d1 d2 d3 hs fl gs/\H b=some (.tup [.int s.lp,.int s.at_,.int s.n])/\s∈hs.map (·.1)/\∀H',Same H H'->Q .non H'
def Tj (C:Addr) (z:Str):Sp:=λvs H Q _=>∃p pl d1 d2 d3 hs fl gs b s,vs=[.ref p,.ref b]/\WAt C H p pl d1 d2 d3 hs fl gs/\d1≠d2/\H b=some (.tup [.int s.lp,.int s.at_,.int s.n])/\s∈hs.map (·.1)/\∀H',WAt C H' p pl d1 d2 d3 (Gi hs s z) fl gs->Ai d1 H H'->Q .non H'
def ZC (C:Addr):Sp:=λvs H Q _=>∃p pl d1 d2 d3 hs fl gs b s,vs=[.ref p,.ref b]/\WAt C H p pl d1 d2 d3 hs fl gs/\H b=some (.tup [.int s.lp,.int s.at_,.int s.n])/\s∈fl.map (·.1)/\∀H',Same H H'->Q .non H'
def mD (C:Addr):Sp:=λvs H Q _=>∃p pl d1 d2 d3 hs fl gs b s,vs=[.ref p,.ref b]/\WAt C H p pl d1 d2 d3 hs fl gs/\d1≠d2/\H b=some (.tup [.int s.lp,.int s.at_,.int s.n])/\s∈fl.map (·.1)/\∀H',WAt C H' p pl d1 d2 d3 hs (Gi fl s none) gs->Ai d2 H H'->Q .non H'
def vH (C:Addr):Sp:=λvs H Q _=>∃p pl d1 d2 d3 hs fl gs b s k x,vs=[.ref p,.ref b,.str k,.int x]/\WAt C H p pl d1 d2 d3 hs fl gs/\d1≠d2/\H b=some (.tup [.int s.lp,.int s.at_,.int s.n])/\s∈fl.map (·.1)/\∀H',WAt C H' p pl d1 d2 d3 hs (Gi fl s (some (k,x))) gs->Ai d2 H H'->Q .non H'
def fL (C:Addr):Sp:=λvs H Q _=>∃p pl d1 d2 d3 hs fl gs,vs=[.ref p]/\WAt C H p pl d1 d2 d3 hs fl gs/\∀l xs H',H l=none->H' l=some (.lst xs)->Paired (K4 H') xs (Il fl)->Same H H'->Q (.ref l) H'
theorem gq {H:Hp} {v:V} {s:Sp3} (h:BL H v s):Th H v:=by
 obtain⟨u,rfl,e⟩:=h;refine⟨.inr ⟨_,e⟩,λxs ex=>?_⟩;rw[Ds e] at ex;cases ex;refine⟨by show 3<=100;decide,λy hy=>?_⟩;have:y=.int s.lp\/y=.int s.at_\/y=.int s.n:=by simpa using hy
 rcases this with rfl | rfl | rfl <;> exact True.intro
section
variable {P:Program} {w:World} {K:YD} {mg:YB} {base:Heap} {op oe kd wk C:Addr}
theorem U9 (c:G4 K C "check_stretch" "Wires.check_stretch" Gx Cy) (T:Tw K mg op oe kd wk C) (Ii:Good P w K mg base "are_wholes" 2 Ft Oq):CN P w K mg base C "check_stretch" 3 Cy (Vx C):=by
 refine c.good Pg (λvs H Q E h=>?_) (λf cdv A outer s H vs Q E hr h=>?_)
 ·obtain⟨p,pl,d1,d2,d3,hs,fl,gs,b,s,rfl,_⟩:=h;rfl
 obtain⟨p,pl,d1,d2,d3,hs,fl,gs,b,s',rfl,R,hb,hin,q⟩:=h;refine⟨_,(Ah (BX (PW.pt (Lb (En (CK (Ay Ii hr (Aa (pv 1) (Aa Af Ac))))) (Lk (Kc (Oz (Cm hr) (pv 1) (Dc (pv 0) rfl)))))) (Ah QB) Bv)),?_⟩;refine⟨_,rq,.ref b,3,rq,gq ⟨b,rq,hb⟩,λH1 s1=>⟨_,rq,?_⟩⟩;rw[Us ⟨b,s',rq,hb,hin⟩];have R1:=R.same s1;obtain⟨dx,hp⟩:=R1.ins;refine Cp ⟨_,rq,_,rq,p,C,dx,_,_,rq,hp,T.cl,T.Gm,Gf pl d1 d2 d3,d1,_,rq,Dj.t (k:=k3 s') R1.st (s1 _ _ hb),_,rq,?_⟩;have hs':(CV (stV hs) (k3 s')).isSome=true:=by
  obtain⟨x,hx,e⟩:=Qcn.mp hin;rw[<-Kr,List.any_eq_true];exact⟨_,Qcn.mpr ⟨x,hx,rq⟩,QbY (by show k3 x.1=_;rw[e])⟩
 rw[hs'];exact Cp (q _ s1)
theorem zZ (c:G4 K C "cut" "Wires.cut" Px Jc) (T:Tw K mg op oe kd wk C) (Fb:CN P w K mg base C "check_stretch" 3 Cy (Vx C)):CN P w K mg base C "cut" 4 Jc (Tj C "cut"):=by
 refine c.good ZX (λvs H Q E h=>?_) (λf cdv A outer s H vs Q E hr h=>?_)
 ·obtain⟨p,pl,d1,d2,d3,hs,fl,gs,b,s,rfl,_⟩:=h;rfl
 obtain⟨p,pl,d1,d2,d3,hs,fl,gs,b,s',rfl,R,n12,hb,hin,q⟩:=h;refine⟨_,(Ae (Bk (Hu (pv 0) T.cl Fb hr (Aa (pv 1) Ac)))
 (Ah (FT (Cm hr) (Dc (pv 0) rfl) (pv 1) Bp rfl))),?_⟩
 show let R0:TS:=_;Al _ R0 _ _ _;intro R0;obtain⟨dx,hp⟩:=R.ins;refine⟨_,rq,p,dx,_,rq,hp,fno (by trivial),_,rq,p,pl,d1,d2,d3,hs,fl,gs,b,s',rq,R,hb,hin,λH1 s1=>?_⟩;have R1:=R.same s1;obtain⟨dx1,hp1⟩:=R1.ins;have hd1:=R1.st;have npd:p≠d1:=λz=>by rw[z,hd1] at hp1;cases hp1
 have nt:∀zs,H1 d1≠some (.tup zs):=λzs z=>by rw[hd1] at z;cases z
 have l1:=R.l1;refine⟨_,rq,p,C,dx1,_,_,rq,hp1,T.cl,T.Gm,Gf pl d1 d2 d3,_,rq,d1,_,rq,Ik.t (k:=k3 s') hd1 (s1 _ _ hb) (Ar (by unfold stV;rw[QbH];omega)),?_⟩;rw[Wr hin];exact q _ (qR R1 n12 (H':=upd H1 d1 _) Ab (Ai.upd) nt npd) ((Ai.of s1).trans Ai.upd)
theorem rZ (c:G4 K C "short" "Wires.short" Mt G9) (T:Tw K mg op oe kd wk C) (Fb:CN P w K mg base C "check_stretch" 3 Cy (Vx C)):CN P w K mg base C "short" 4 G9 (Tj C "short"):=by
 refine c.good Wy (λvs H Q E h=>?_) (λf cdv A outer s H vs Q E hr h=>?_)
 ·obtain⟨p,pl,d1,d2,d3,hs,fl,gs,b,s,rfl,_⟩:=h;rfl
 obtain⟨p,pl,d1,d2,d3,hs,fl,gs,b,s',rfl,R,n12,hb,hin,q⟩:=h;refine⟨_,(Ae (Bk (Hu (pv 0) T.cl Fb hr (Aa (pv 1) Ac)))
 (Ah (FT (Cm hr) (Dc (pv 0) rfl) (pv 1) Bp rfl))),?_⟩
 show let R0:TS:=_;Al _ R0 _ _ _;intro R0;obtain⟨dx,hp⟩:=R.ins;refine⟨_,rq,p,dx,_,rq,hp,fno (by trivial),_,rq,p,pl,d1,d2,d3,hs,fl,gs,b,s',rq,R,hb,hin,λH1 s1=>?_⟩;have R1:=R.same s1;obtain⟨dx1,hp1⟩:=R1.ins;have hd1:=R1.st;have npd:p≠d1:=λz=>by rw[z,hd1] at hp1;cases hp1
 have nt:∀zs,H1 d1≠some (.tup zs):=λzs z=>by rw[hd1] at z;cases z
 have l1:=R.l1;refine⟨_,rq,p,C,dx1,_,_,rq,hp1,T.cl,T.Gm,Gf pl d1 d2 d3,_,rq,d1,_,rq,Ik.t (k:=k3 s') hd1 (s1 _ _ hb) (Ar (by unfold stV;rw[QbH];omega)),?_⟩;rw[Wr hin];exact q _ (qR R1 n12 (H':=upd H1 d1 _) Ab (Ai.upd) nt npd) ((Ai.of s1).trans Ai.upd)
theorem xJ (c:G4 K C "mend" "Wires.mend" Nx HW) (T:Tw K mg op oe kd wk C) (Fb:CN P w K mg base C "check_stretch" 3 Cy (Vx C)):CN P w K mg base C "mend" 4 HW (Tj C "whole"):=by
 refine c.good Ys (λvs H Q E h=>?_) (λf cdv A outer s H vs Q E hr h=>?_)
 ·obtain⟨p,pl,d1,d2,d3,hs,fl,gs,b,s,rfl,_⟩:=h;rfl
 obtain⟨p,pl,d1,d2,d3,hs,fl,gs,b,s',rfl,R,n12,hb,hin,q⟩:=h;refine⟨_,(Ae (Bk (Hu (pv 0) T.cl Fb hr (Aa (pv 1) Ac)))
 (Ah (FT (Cm hr) (Dc (pv 0) rfl) (pv 1) Bp rfl))),?_⟩
 show let R0:TS:=_;Al _ R0 _ _ _;intro R0;obtain⟨dx,hp⟩:=R.ins;refine⟨_,rq,p,dx,_,rq,hp,fno (by trivial),_,rq,p,pl,d1,d2,d3,hs,fl,gs,b,s',rq,R,hb,hin,λH1 s1=>?_⟩;have R1:=R.same s1;obtain⟨dx1,hp1⟩:=R1.ins;have hd1:=R1.st;have npd:p≠d1:=λz=>by rw[z,hd1] at hp1;cases hp1
 have nt:∀zs,H1 d1≠some (.tup zs):=λzs z=>by rw[hd1] at z;cases z
 have l1:=R.l1;refine⟨_,rq,p,C,dx1,_,_,rq,hp1,T.cl,T.Gm,Gf pl d1 d2 d3,_,rq,d1,_,rq,Ik.t (k:=k3 s') hd1 (s1 _ _ hb) (Ar (by unfold stV;rw[QbH];omega)),?_⟩;rw[Wr hin];exact q _ (qR R1 n12 (H':=upd H1 d1 _) Ab (Ai.upd) nt npd) ((Ai.of s1).trans Ai.upd)
theorem Yt (c:G4 K C "check_spot" "Wires.check_spot" HN Dv) (T:Tw K mg op oe kd wk C) (Ii:Good P w K mg base "are_wholes" 2 Ft Oq):CN P w K mg base C "check_spot" 3 Dv (ZC C):=by
 refine c.good Rf (λvs H Q E h=>?_) (λf cdv A outer s H vs Q E hr h=>?_)
 ·obtain⟨p,pl,d1,d2,d3,hs,fl,gs,b,s,rfl,_⟩:=h;rfl
 obtain⟨p,pl,d1,d2,d3,hs,fl,gs,b,s',rfl,R,hb,hin,q⟩:=h;refine⟨_,(Ah (BX (PW.pt (Lb (En (CK (Ay Ii hr (Aa (pv 1) (Aa Af Ac))))) (Lk (Kc (Oz (Cm hr) (pv 1) (Dc (pv 0) rfl)))))) (Ah QB) Bv)),?_⟩;refine⟨_,rq,.ref b,3,rq,gq ⟨b,rq,hb⟩,λH1 s1=>⟨_,rq,?_⟩⟩;rw[Us ⟨b,s',rq,hb,hin⟩];have R1:=R.same s1;obtain⟨dx,hp⟩:=R1.ins;obtain⟨kvs,hk,hf⟩:=R1.fi;refine Cp ⟨_,rq,_,rq,p,C,dx,_,_,rq,hp,T.cl,T.Jv,Kl pl d1 d2 d3,d2,_,rq,Dj.t (k:=k3 s') hk (s1 _ _ hb),_,rq,?_⟩;have hs':(CV kvs (k3 s')).isSome=true:=by
  obtain⟨x,hx,e⟩:=Qcn.mp hin;have:k3 x.1∈kvs.map (·.1):=by rw[Oh hf];exact Qcn.mpr ⟨x,hx,rq⟩
  obtain⟨kv,hkv,ekv⟩:=Qcn.mp this;rw[<-Kr,List.any_eq_true];exact⟨kv,hkv,QbY (by rw[ekv,e])⟩
 rw[hs'];exact Cp (q _ s1)
theorem dw (c:G4 K C "take_out" "Wires.take_out" Jt Fw) (T:Tw K mg op oe kd wk C) (KR:CN P w K mg base C "check_spot" 3 Dv (ZC C)):CN P w K mg base C "take_out" 4 Fw (mD C):=by
 refine c.good Ug (λvs H Q E h=>?_) (λf cdv A outer s H vs Q E hr h=>?_)
 ·obtain⟨p,pl,d1,d2,d3,hs,fl,gs,b,s,rfl,_⟩:=h;rfl
 obtain⟨p,pl,d1,d2,d3,hs,fl,gs,b,s',rfl,R,n12,hb,hin,q⟩:=h;refine⟨_,(Ae (Bk (Hu (pv 0) T.cl KR hr (Aa (pv 1) Ac)))
 (Ah (FT (Cm hr) (Dc (pv 0) rfl) (pv 1) Lp rfl))),?_⟩
 show let R0:TS:=_;Al _ R0 _ _ _;intro R0;obtain⟨dx,hp⟩:=R.ins;refine⟨_,rq,p,dx,_,rq,hp,fno (by trivial),_,rq,p,pl,d1,d2,d3,hs,fl,gs,b,s',rq,R,hb,hin,λH1 s1=>?_⟩;have R1:=R.same s1;obtain⟨dx1,hp1⟩:=R1.ins;obtain⟨kvs,hk,hf⟩:=R1.fi;have lk:=Qcd hf;have l2:=R.l2;have npd:p≠d2:=λz=>by rw[z,hk] at hp1;cases hp1
 have nt:∀zs,H1 d2≠some (.tup zs):=λzs z=>by rw[hk] at z;cases z
 refine⟨_,rq,p,C,dx1,_,_,rq,hp1,T.cl,T.Jv,Kl pl d1 d2 d3,_,rq,d2,_,rq,Ik.t (k:=k3 s') hk (s1 _ _ hb) (Ar (by omega)),?_⟩;have hold:∃x∈kvs,x.1=k3 s':=by
  obtain⟨y,hy,e⟩:=Qcn.mp hin;have:k3 y.1∈kvs.map (·.1):=by rw[Oh hf];exact Qcn.mpr ⟨y,hy,rq⟩
  obtain⟨kv,hkv,ekv⟩:=Qcn.mp this;exact⟨kv,hkv,by rw[ekv,e]⟩
 rw[Nz hold];have sT:=Am.upd (o:=.dT (kvs.map λkv=>if kv.1=k3 s' then (kv.1,V.non) else kv)) nt
 refine q _ ⟨⟨dx1,by rw[Ao npd];exact hp1⟩,by rw[Ao n12];exact R1.st,⟨_,Ab,Vi (s:=s') (v:=.non) (o:=none) rfl (Paired.Ax hf λ_ _ z=>z.tups sT)⟩,R.nd1,by rw[Jp];exact R.nd2,R.l1,by rw[UL];exact l2,by rw[Ao R.n23.symm];exact R1.gp,R.nd3,R.l3,R.n13,R.n23⟩ ((Ai.of s1).trans Ai.upd)
theorem nP (c:G4 K C "put_in" "Wires.put_in" Ky GC) (T:Tw K mg op oe kd wk C) (KR:CN P w K mg base C "check_spot" 3 Dv (ZC C)):CN P w K mg base C "put_in" 4 GC (vH C):=by
 refine c.good Vz (λvs H Q E h=>?_) (λf cdv A outer s H vs Q E hr h=>?_)
 ·obtain⟨p,pl,d1,d2,d3,hs,fl,gs,b,s,k,x,rfl,_⟩:=h;rfl
 obtain⟨p,pl,d1,d2,d3,hs,fl,gs,b,s',k,x,rfl,R,n12,hb,hin,q⟩:=h;refine⟨_,(Ae (Bk (Hu (pv 0) T.cl KR hr (Aa (pv 1) Ac)))
 (Ah (FT (Cm hr) (Dc (pv 0) rfl) (pv 1) (Bg (Aa (pv 2) (Aa (pv 3) Ac))) rfl))),?_⟩
 show let R0:TS:=_;Al _ R0 _ _ _;intro R0;obtain⟨dx,hp⟩:=R.ins;refine⟨_,rq,p,dx,_,rq,hp,fno (by trivial),_,rq,p,pl,d1,d2,d3,hs,fl,gs,b,s',rq,R,hb,hin,λH0 s0=>?_⟩;refine⟨_,rq,_,rq,Av (by show 2<=1000;decide),λt ht=>?_⟩;have s1:Same H (upd H0 t (.tup [.str k,.int x])):=s0.trans (Ag ht _);have ht1:(upd H0 t (.tup [.str k,.int x])) t=some (.tup [.str k,.int x]):=Ab;generalize upd H0 t (.tup [.str k,.int x])=H1 at *;have R1:=R.same s1;obtain⟨dx1,hp1⟩:=R1.ins;obtain⟨kvs,hk,hf⟩:=R1.fi;have lk:=Qcd hf;have l2:=R.l2;have npd:p≠d2:=λz=>by rw[z,hk] at hp1;cases hp1
 have nt:∀zs,H1 d2≠some (.tup zs):=λzs z=>by rw[hk] at z;cases z
 refine⟨_,rq,p,C,dx1,_,_,rq,hp1,T.cl,T.Jv,Kl pl d1 d2 d3,_,rq,d2,_,rq,Ik.t (k:=k3 s') hk (s1 _ _ hb) (Ar (by omega)),?_⟩;have hold:∃x∈kvs,x.1=k3 s':=by
  obtain⟨y,hy,e⟩:=Qcn.mp hin;have:k3 y.1∈kvs.map (·.1):=by rw[Oh hf];exact Qcn.mpr ⟨y,hy,rq⟩
  obtain⟨kv,hkv,ekv⟩:=Qcn.mp this;exact⟨kv,hkv,by rw[ekv,e]⟩
 rw[Nz hold];have sT:=Am.upd (o:=.dT (kvs.map λkv=>if kv.1=k3 s' then (kv.1,V.ref t) else kv)) nt
 refine q _ ⟨⟨dx1,by rw[Ao npd];exact hp1⟩,by rw[Ao n12];exact R1.st,⟨_,Ab,Vi (s:=s') (v:=.ref t) (o:=some (k,x)) (show HeldAt _ (.ref t) (some (k,x)) from⟨t,rq,sT _ _ ht1⟩) (Paired.Ax hf λ_ _ z=>z.tups sT)⟩,R.nd1,by rw[Jp];exact R.nd2,R.l1,by rw[UL];exact l2,by rw[Ao R.n23.symm];exact R1.gp,R.nd3,R.l3,R.n13,R.n23⟩ ((Ai.of s1).trans Ai.upd)
end
theorem Jz {H HH:Hp} {d:Addr} {o:Obj} {u:HO} (s:Same (upd H d (.frz o u)) HH) (h:H d=some u):Same H (upd HH d u):=λc x e=>by
 by_cases z:c=d
 ·subst z;rw[Ab,<-h,e]
 ·rw[Ao z];exact s _ _ (by rw[Ao z];exact e)
theorem jc (fl:YQ) (x:Sp3×Option (Str×Int)):Il (fl++[x])=Il fl++Il [x]:=by unfold Il;rw[List.filterMap_append]
theorem jd (s:Sp3):Il [(s,none)]=[]:=rfl
theorem iZ (s:Sp3) (d:Str×Int):Il [(s,some d)]=[⟨s.lp,s.at_,s.n,d.1,d.2⟩]:=rfl
def hs0 (ja:YU):YR:=(up (stL ja) ja.length).map λs=>(s,"whole")
def fl0 (ja:YU):YQ:=(up (pdL ja) ja.length).map λd=>(d.spot,some (d.kind,d.addr))
theorem Xk (ja:YU):(hs0 ja).map (·.1)=up (stL ja) ja.length:=by unfold hs0;rw[Qcq];exact List.map_id _
theorem Nf (ja:YU):(fl0 ja).map (·.1)=(up (pdL ja) ja.length).map Sd.spot:=by unfold fl0;rw[Qcq];rfl
theorem zA {ja:YU} (ok:Fi ja):(up (stL ja) ja.length).length<=200:=by
 have:=Ek (f:=stL ja) (c:=49) (Wt ok) ja.length;have:=ok.hi;omega
theorem pN {ja:YU} (ok:Fi ja):(up (pdL ja) ja.length).length<=200:=by
 have:=Ek (f:=pdL ja) (c:=48) (gG ok) ja.length;have:=ok.hi;omega
theorem nJ {ja:YU} (ok:Fi ja):(up (gtL ja) ja.length).length<=200:=by
 have:=Ek (f:=gtL ja) (c:=14) (gR ok) ja.length;have:=ok.hi;omega
theorem B6 {ja:YU} (ok:Fi ja):(up (stL ja) ja.length).Nodup:=WM (wH ok)
theorem j9 {ja:YU} (ok:Fi ja):((up (pdL ja) ja.length).map Sd.spot).Nodup:=WM (c:=cd3) (by rw[Qcq];exact uO ok)
def gs0 (ja:YU):YT:=(up (gtL ja) ja.length).map λg=>(g,false)
theorem Xl (ja:YU):(gs0 ja).map (·.1)=up (gtL ja) ja.length:=by unfold gs0;rw[Qcq];exact List.map_id _
def cd2 (g:Gt):Int:=g.lp*100+g.at_
theorem gU {lp:Int} {ps:List Place} {i:Nat} {g:Gt} (h:g∈gt1 lp ps i):g.lp=lp/\g.at_=((1+i:Nat):Int)/\i < ps.length:=by
 obtain⟨p,hp,h⟩:=GJ h;split at h
 ·have:g=⟨lp,((1+i:Nat):Int)⟩:=by simpa using h
  rw[this];exact⟨rq,rq,(Qah.mp hp).1⟩
 ·cases h
theorem oX {ja:YU} (ok:Fi ja) {k:Nat} {g:Gt} (h:g∈gtL ja k):g.lp=(k:Int)/\0<=g.at_/\g.at_<=13:=by
 obtain⟨ps,hps,h⟩:=GJ h;have hi:=(ok.ok ps (QaI hps)).hi;rcases QbJ.mp h with h | h
 ·rcases Qce.mp h with rfl | h
  ·exact⟨rq,by show (0:Int)<=0;decide,by show (0:Int)<=13;decide⟩
  ·obtain⟨i,hi',h⟩:=Gs h;obtain⟨h1,h2,h3⟩:=gU h;exact⟨h1,by rw[h2];omega,by rw[h2];omega⟩
 ·have:g=⟨(k:Int),(ps.length:Int)+1⟩:=by simpa using h
  rw[this];exact⟨rq,by show (0:Int)<=(ps.length:Int)+1;omega,by show (ps.length:Int)+1<=13;omega⟩
theorem yd {ja:YU} (ok:Fi ja):((up (gtL ja) ja.length).map cd2).Pairwise (· < ·):=by
 refine (Ks (g:=λi=>(i:Int)*100) (λi=>by omega) (λk=>KQ λps hps=>?_) (λk g hg=>?_) ja.length).1
 ·obtain⟨a,b⟩:=Ks (c:=cd2) (f:=gt1 (k:Int) ps) (g:=λi=>(k:Int)*100+(1+i:Int)) (λi=>by omega) (λi=>KQ λp hp=>by
   split
   ·exact Qaw _ _
   ·exact List.Pairwise.nil) (λi g hg=>by
   obtain⟨h1,h2,h3⟩:=gU hg;show (k:Int)*100+(1+i:Int)<=g.lp*100+g.at_/\g.lp*100+g.at_ < (k:Int)*100+(1+((i+1:Nat):Int));rw[h1,h2];push_cast;omega) ps.length
  rw[QbI,Qcf];have hb:∀x∈up (gt1 (k:Int) ps) ps.length,(k:Int)*100+(1+((0:Nat):Int))<=cd2 x/\cd2 x < (k:Int)*100+(1+((ps.length:Nat):Int)):=b;refine List.pairwise_append.mpr ⟨List.pairwise_cons.mpr ⟨λx hx=>?_,a⟩,Qaw _ _,λx hx y hy=>?_⟩
  ·obtain⟨z,hz,rfl⟩:=Qcn.mp hx;have:=hb z hz;show (k:Int)*100+0 < cd2 z;omega
  ·have hy:y=(k:Int)*100+((ps.length:Int)+1):=by simpa [cd2] using hy
   rcases Qce.mp hx with rfl | hx
   ·show (k:Int)*100+0 < y;omega
   ·obtain⟨z,hz,rfl⟩:=Qcn.mp hx;have:=hb z hz;omega
 ·obtain⟨h1,h2,h3⟩:=oX ok hg;show (k:Int)*100<=g.lp*100+g.at_/\g.lp*100+g.at_ < ((k+1:Nat):Int)*100;rw[h1];push_cast;omega
theorem vQ {ja:YU} (ok:Fi ja):(up (gtL ja) ja.length).Nodup:=WM (yd ok)
def fZ (C:Addr):Sp:=λvs H Q _=>∃p dx pl most ja jn,vs=[.ref p,.ref pl]/\H p=some (.ins C dx [])/\Fg H pl most ja jn/\∀d1 d2 d3 H',H d1=none->H d2=none->H d3=none->d1≠d2->WAt C H' p pl d1 d2 d3 (hs0 ja) (fl0 ja) (gs0 ja)->Ai p H H'->Q .non H'
section
variable {P:Program} {w:World} {K:YD} {mg:YB} {base:Heap} {op oe kd wk C:Addr}
abbrev xz:YF:=["spot","held"]
theorem rW (c:G4 K C "there" "Wires.there" Ms G8) (T:Tw K mg op oe kd wk C):CN P w K mg base C "there" 1 G8 (fL C):=by
 refine c.good Wx (λvs H Q E h=>?_) (λf cdv A outer s H vs Q E hr h=>?_)
 ·obtain⟨p,pl,d1,d2,d3,hs,fl,gs,rfl,_⟩:=h;rfl
 obtain⟨p,pl,d1,d2,d3,hs,fl,gs,rfl,R,q⟩:=h;refine⟨_,(Ah (Bc (NZ rfl (Cq (N':=xz) rfl (Bo.plain rfl (by trivial) (by trivial) (by trivial)) (Ox (Dc (pv 0) rfl)) (λ_ _ _ _=>(FW (K:=K) (n:=2) rfl rfl (Aq (Aj (i:=0) (show List.Nodup (xz:YF) by trivial) rfl (Or.inl rfl)) (Aq (Aj (i:=1) (show List.Nodup (xz:YF) by trivial) rfl (Or.inl rfl)) Bt)))) (λ_ _ _ _=>(Gy (Bs gJ (pv 1) Lp (Bq _)))) (λ_ _ _ _=>(Bg (Aa (pv 0) (Aa (Bm (TJ (K:=K) rfl) (pv 1) Af (λ_ _=>rfl)) (Aa (Bm (TJ (K:=K) rfl) (pv 1) Af (λ_ _=>rfl)) Ac))))))))),?_⟩;obtain⟨dx,hp⟩:=R.ins;obtain⟨kvs,hk,hf⟩:=R.fi;have lk:=Qcd hf;have l2:=R.l2;have nfz:∀o' u,H d2≠some (.frz o' u):=λo' u z=>by rw[hk] at z;cases z
 have nt:∀zs,H d2≠some (.tup zs):=λzs z=>by rw[hk] at z;cases z
 refine⟨_,rq,p,C,dx,_,_,rq,hp,T.cl,T.Jv,Kl pl d1 d2 d3,d2,kvs,rq,hk,λo l hl=>?_⟩;have nl:l≠d2:=λz=>by rw[z,Ab] at hl;cases hl
 have KI:H l=none:=by rw[Ao nl] at hl;exact hl
 have sT:Am H (upd H d2 (.frz o (.dT kvs))):=Am.upd nt;let J0:YN:=λi U HH=>(∃u v,U=[u,v])/\(∃tv,HH l=some (.lst tv)/\Paired (K4 HH) tv (Il (fl.take i))/\tv.length<=i)/\Same (upd H d2 (.frz o (.dT kvs))) HH;refine QX J0 ⟨⟨none,none,rq⟩,⟨[],Ab,.nil,Qcw _⟩,Ag hl _⟩ (λi U HH _ h=>h.2.2 _ _ Ab) (λi kv p' b U HH hkv h hp' hb=>?_) (fun U HH h=>?_)
 ·obtain⟨⟨u,v,rfl⟩,⟨tv,e1,e2,e3⟩,s1⟩:=h;obtain⟨x,hx,hfx⟩:=Paired.Ck hf hkv;have hi:=(Qah.mp hkv).1;have t1:=Ag hp' (.tup [.ref b,kv.2]);have et:Il (fl.take (i+1))=Il (fl.take i)++Il [x]:=by rw[QcE hx,jc]
  refine⟨p',_,rq,SqT.of Ab,rq,_,_,rq,_,_,rq,rq,?_⟩;refine⟨_,rq,rq,_,rq,?_⟩;obtain⟨k1,k2⟩:=hfx;obtain⟨xs,xo⟩:=x;cases xo with
  | none=>
   have k2:kv.2=.non:=k2;rw[k2];refine Cp ⟨⟨_,_,rq⟩,⟨tv,?_,?_,by omega⟩,?_⟩
   ·rw[k2] at t1;exact t1 _ _ e1
   ·rw[et,jd,QbK];rw[k2] at t1;exact Paired.Ax e2 λ_ _ z=>z.tups (Am.of t1)
   ·rw[k2] at t1;exact s1.trans t1
  | some d=>
   obtain⟨t,k2,ht⟩ : ∃t,kv.2=.ref t/\H t=some (.tup [.str d.1,.int d.2]):=k2;rw[k2] at t1 ⊢;have s2:=s1.trans t1;have ht1:=s2 _ _ (sT _ _ ht);have hb1:=t1 _ _ hb;rw[k1] at hb1;refine Cr ⟨_,rq,_,rq,t,_,_,_,rq,rq,SqT.of ht1,rq,_,rq,t,_,_,_,rq,rq,SqT.of ht1,rq,Av (by show 3<=1000;decide),λtt htt=>?_⟩;have t2:=Ag htt (.tup [.ref b,.str d.1,.int d.2]);have e1':=t2 _ _ (t1 _ _ e1);have ntl:∀zs,(upd (upd HH p' (.tup [.ref b,.ref t])) tt (.tup [.ref b,.str d.1,.int d.2])) l≠some (.tup zs):=λzs z=>by rw[e1'] at z;cases z
   have sL:=Am.upd (o:=.lst (tv++[.ref tt])) ntl;refine⟨tv,e1',Ar (by omega),⟨_,_,rq⟩,⟨tv++[.ref tt],Ab,?_,by rw[QaU];show _+1<=_;omega⟩,(s2.trans t2).Bl Ai.upd hl⟩;rw[et,iZ];exact Qcy ⟨tt,b,rq,sL _ _ Ab,sL _ _ (t2 _ _ hb1)⟩ (Paired.Ax e2 λ_ _ z=>(z.tups (Am.of (t1.trans t2))).tups sL)
 ·obtain⟨_,⟨tv,e1,e2,e3⟩,s1⟩:=h;rw[lk,Qbx] at e2;have hfz:=s1 _ _ Ab;have ntz:∀zs,HH d2≠some (.tup zs):=λzs z=>by rw[hfz] at z;cases z
  exact⟨d2,o,kvs,hfz,nfz,q l tv _ KI (by rw[Ao nl];exact e1) (Paired.Ax e2 λ_ _ z=>z.tups (Am.upd ntz)) (Jz s1 hk)⟩
theorem sJ (F:∃f fd,Fun K "__init__" "Wires.__init__" Ju f fd/\Mk K C f/\Binds K fd Fx []) (T:Tw K mg op oe kd wk C) (dM:Good P w K mg base "is_let_by" 10 IW Tn) (dI:Good P w K mg base "stretches" 1 IK vD) (Ih:Good P w K mg base "devices" 2 GP Vw) (oY:Good P w K mg base "openers" 1 Lw vG):lD P w K mg base C 11 Fx (fZ C):=by
 obtain⟨f,fd,F,Mk,b⟩:=F;refine⟨f,fd,Mk,b,F.ok Uh (λvs H Q E h=>?_) (λcdv A outer s H vs Q E hr h=>?_)⟩
 ·obtain⟨p,dx,pl,most,ja,jn,rfl,_⟩:=h;rfl
 obtain⟨p,dx,pl,most,ja,jn,rfl,hp,pa,q⟩:=h;refine⟨_,(Ae (BX (En (CK (Ay dM hr (Aa (pv 1) Ac)))) (Ah QB) Bv)
 (Ae (Tr (pv 0) (pv 1) rfl)
 (Ae (Tr (pv 0) (Lq (Cm hr) (N':=["stretch"]) rfl (Bo.plain rfl (by trivial) (by trivial) (by trivial)) (Du (Ay dI hr (Aa (pv 1) Ac))) (λ_ _ _ _=>(Aj (i:=0) (show List.Nodup (["stretch"]:YF) by trivial) rfl (Or.inl rfl))) (λ_ _ _ _=>Di) (λ_ _ _ _=>(pv 0)) (λ_ _ _ _=>Bp)) rfl)
 (Ae (Tr (pv 0) (Lq (Cm hr) (N':=xf) rfl (Bo.plain rfl (by trivial) (by trivial) (by trivial)) (Du (Ay Ih hr (Aa (pv 1) Ac))) (λ_ _ _ _=>(FW (K:=K) (n:=3) rfl rfl (Aq (Aj (i:=0) (show List.Nodup (xf:YF) by trivial) rfl (Or.inl rfl)) (Aq (Aj (i:=1) (show List.Nodup (xf:YF) by trivial) rfl (Or.inl rfl)) (Aq (Aj (i:=2) (show List.Nodup (xf:YF) by trivial) rfl (Or.inl rfl)) Bt))))) (λ_ _ _ _=>Di) (λ_ _ _ _=>(pv 0)) (λ_ _ _ _=>(Bg (Aa (pv 1) (Aa (pv 2) Ac))))) rfl)
 (Ah (Tr (pv 0) (Lq (Cm hr) (N':=["opener"]) rfl (Bo.plain rfl (by trivial) (by trivial) (by trivial)) (Du (Ay oY hr (Aa (pv 1) Ac))) (λ_ _ _ _=>(Aj (i:=0) (show List.Nodup (["opener"]:YF) by trivial) rfl (Or.inl rfl))) (λ_ _ _ _=>Di) (λ_ _ _ _=>(pv 0)) (λ_ _ _ _=>Dm)) rfl)))))),?_⟩
 show let R0:TS:=_;let R1:TS:=Al _ R0;let R2:TS:=Al _ R1;let R3:TS:=Al _ R2;Al _ R3 _ _ _;intro R0 R1 R2 R3;have ok:=pa.ok;have ntp:∀zs,H p≠some (.tup zs):=λzs z=>by rw[hp] at z;cases z
 refine⟨_,rq,pl,most,ja,jn,rq,pa,λH0 s0=>⟨_,rq,Cp ?_⟩⟩;refine⟨_,rq,_,rq,p,C,dx,_,_,rq,s0 _ _ hp,T.cl,T.bC,(by show 0 < 1000;decide),Sg (by show _∉([]:YF);decide +kernel),λH1 h1 s1=>?_⟩;have r1:Ai p H H1:=(Ai.of s0).trans s1;have pa1:=pa.tups (r1.tup ntp);refine⟨_,rq,pl,ja,rq,pa1.plan,ok,λla xa H2 hla hxa hpa s2=>⟨la,rq,⟨_,SqL.of hxa⟩,λd1 f1=>?_⟩⟩;have lxa:=Qcd hpa;have CH:=zA ok;have nda:=B6 ok;let J1:YN:=λi U HH=>(∃u,U=[u])/\HH d1=some (.dT (stV (((up (stL ja) ja.length).take i).map λs=>(s,"whole"))))/\Same H2 HH;refine Qa (xs:=xa) J1 ⟨⟨_,rq⟩,Ab,Ag f1 _⟩ (λi U HH _ h=>SqL.of (h.2.2 _ _ hxa)) (λi x U HH hx h=>?_) (fun U HH h=>?_)
 ·obtain⟨⟨u,rfl⟩,e1,e2⟩:=h;obtain⟨sp,hsp,t,rfl,ht⟩:=Paired.Ck hpa hx;have hi:=(Qah.mp hx).1;unfold FN;dsimp only;refine Cr ⟨_,rq,_,k3 sp,t,e1,rq,e2 _ _ ht,Ar (by unfold stV;rw[QbH,QbH,Qbz];omega),⟨_,rq⟩,?_,e2.Bl Ai.upd f1⟩;rw[Ab,KD,QcE hsp]
  ·unfold stV;rw[QbI,QbI];rfl
  ·refine M5 λy hy e=>?_;unfold stV at hy;rw[Qcq] at hy;obtain⟨z,hz,rfl⟩:=Qcn.mp hy;exact Tv nda hsp z hz (Ie e)
 obtain⟨_,e1,e2⟩:=h;rw[lxa,Qbx] at e1;have e1:HH d1=some (.dT (stV (hs0 ja))):=e1;have r2:Ai p H HH:=r1.trans (Ai.of (s2.trans e2));refine⟨_,rq,p,C,dx,_,_,rq,e2 _ _ (s2 _ _ h1),T.cl,T.Gm,(by show 1 < 1000;decide),Sg (by show _∉(GP:YF);decide +kernel),λH3 h3 s3=>?_⟩;have np1:d1≠p:=λz=>by rw[z,s2 _ _ h1] at f1;cases f1
 have u1:=s3 _ _ e1 np1;have r3:Ai p H H3:=r2.trans s3;have f1':H d1=none:=by
  cases e:H d1 with
  | none=>rfl
  | some v=>have:=r1.trans (Ai.of s2) _ _ e np1;rw[f1] at this;cases this
 clear s3 e1 e2 r2;have pa3:=pa.tups (r3.tup ntp);refine⟨_,rq,pl,ja,rq,pa3.plan,ok,λlb xb H4 hlb hxb hpb s4=>⟨lb,rq,⟨_,SqL.of hxb⟩,λd2 f2=>?_⟩⟩;have lxb:=Qcd hpb;have CF:=pN ok;have ndb:=j9 ok;let J2:YN:=λi U HH=>(∃u v t,U=[u,v,t])/\(∃kvs,HH d2=some (.dT kvs)/\Paired (Hl HH) kvs (((up (pdL ja) ja.length).take i).map λd=>(d.spot,some (d.kind,d.addr))))/\Same H4 HH;refine Qa (xs:=xb) J2 ⟨⟨_,_,_,rq⟩,⟨[],Ab,.nil⟩,Ag f2 _⟩ (λi U HH _ h=>SqL.of (h.2.2 _ _ hxb)) (λi x U HH hx h=>?_) (fun U HH h=>?_)
 ·obtain⟨⟨u,v,t,rfl⟩,⟨kvs,e1,e3⟩,e2⟩:=h;obtain⟨d,hd,tt,uu,rfl,h5,h6⟩:=Paired.Ck hpb hx;have hi:=(Qah.mp hx).1;have lk:=Qcd e3;rw[QbH,Qbz] at lk;refine⟨tt,_,rq,SqT.of (e2 _ _ h5),rq,_,_,rq,_,_,rq,_,_,rq,rq,?_⟩;refine Cr ⟨_,rq,_,rq,_,rq,Av (by show 2<=1000;decide),λtn htn=>?_⟩;have t1:=Ag htn (.tup [.str d.kind,.int d.addr]);have e1':=t1 _ _ e1;have ntd:∀zs,(upd HH tn (.tup [.str d.kind,.int d.addr])) d2≠some (.tup zs):=λzs z=>by rw[e1'] at z;cases z
  refine⟨kvs,k3 d.spot,uu,e1',rq,t1 _ _ (e2 _ _ h6),Ar (by omega),⟨_,_,_,rq⟩,⟨_,Ab,?_⟩,(e2.trans t1).Bl Ai.upd f2⟩;rw[KD,QcE hd,QbI]
  ·have sL:=Am.upd (o:=.dT (kvs++[(k3 d.spot,V.ref tn)])) ntd;exact Qcy ⟨rq,⟨tn,rq,sL _ _ Ab⟩⟩ (Paired.Ax e3 λ_ _ z=>(z.tups (Am.of t1)).tups sL)
  ·refine M5 λy hy e=>?_;have:y.1∈kvs.map (·.1):=Qcn.mpr ⟨y,hy,rq⟩;rw[Oh e3,Qcq] at this;obtain⟨z,hz,ez⟩:=Qcn.mp this;exact Je ndb hd z hz (Ie (by rw[<-e,<-ez];rfl))
 obtain⟨_,⟨kvs,e1,e3⟩,e2⟩:=h;rw[lxb,Qbx] at e3;have e3:Paired (Hl HH) kvs (fl0 ja):=e3;have h4:=e2 _ _ (s4 _ _ h3);have Eg:∀zs,HH p≠some (.tup zs):=λzs z=>by rw[h4] at z;cases z
 have u2:=e2 _ _ (s4 _ _ u1);refine⟨_,rq,p,C,dx,_,_,rq,h4,T.cl,T.Jv,(by show 2 < 1000;decide),Sg (by show _∉(["plan","states"]:YF);decide +kernel),λH5 h5 s5=>?_⟩;have np2:d2≠p:=λz=>by rw[z,s4 _ _ h3] at f2;cases f2
 have n12:d1≠d2:=Aw (s4 _ _ u1) f2;have u3:=s5 _ _ u2 np1;have v3:=s5 _ _ e1 np2;have w3:Paired (Hl H5) kvs (fl0 ja):=Paired.Ax e3 λ_ _ z=>z.tups (s5.tup Eg);have r5:Ai p H H5:=r3.trans ((Ai.of (s4.trans e2)).trans s5);have f2':H d2=none:=by
  cases e:H d2 with
  | none=>rfl
  | some v=>have:=r3.trans (Ai.of s4) _ _ e np2;rw[f2] at this;cases this
 clear s5 e1 e2 e3 u1 u2 h3 h4;have pa5:=pa.tups (r5.tup ntp);have NX:∀zs,H5 p≠some (.tup zs):=λzs z=>by rw[h5] at z;cases z
 refine⟨_,rq,pl,ja,rq,pa5.plan,ok,λlc xc H6 hlc hxc hpc s6=>⟨lc,rq,⟨_,SqL.of hxc⟩,λd3 f3=>?_⟩⟩;have lxc:=Qcd hpc;have CD:=nJ ok;let J3:YN:=λi U HH=>(∃u,U=[u])/\HH d3=some (.dT (gpV (((up (gtL ja) ja.length).take i).map λg=>(g,false))))/\Same H6 HH;refine Qa (xs:=xc) J3 ⟨⟨_,rq⟩,Ab,Ag f3 _⟩ (λi U HH _ h=>SqL.of (h.2.2 _ _ hxc)) (λi x U HH hx h=>?_) (fun U HH h=>?_)
 ·obtain⟨⟨u,rfl⟩,e1,e2⟩:=h;obtain⟨g,hg,t,rfl,ht⟩:=Paired.Ck hpc hx;have hi:=(Qah.mp hx).1;unfold FN;dsimp only;refine Cr ⟨_,rq,_,k2 g,t,e1,rq,e2 _ _ ht,Ar (by unfold gpV;rw[QbH,QbH,Qbz];omega),⟨_,rq⟩,?_,e2.Bl Ai.upd f3⟩;rw[Ab,KD,QcE hg]
  ·unfold gpV;rw[QbI,QbI];rfl
  ·refine M5 λy hy e=>?_;unfold gpV at hy;rw[Qcq] at hy;obtain⟨z,hz,rfl⟩:=Qcn.mp hy;exact Tv (vQ ok) hg z hz (RT e)
 obtain⟨_,e1,e2⟩:=h;rw[lxc,Qbx] at e1;have e1:HH d3=some (.dT (gpV (gs0 ja))):=e1;have s7:=s6.trans e2;refine⟨_,rq,p,C,dx,_,_,rq,s7 _ _ h5,T.cl,T.GF,(by show 3 < 1000;decide),Sg (by show _∉(["plan","states","filled"]:YF);decide +kernel),λH8 h8 s8=>?_⟩;have np3:d3≠p:=λz=>by rw[z,s6 _ _ h5] at f3;cases f3
 have f3':H d3=none:=by
  cases e:H d3 with
  | none=>rfl
  | some v=>have:=r5.trans (Ai.of s6) _ _ e np3;rw[f3] at this;cases this
 have n13:d1≠d3:=Aw (s6 _ _ u3) f3;have n23:d2≠d3:=Aw (s6 _ _ v3) f3;have Ee:∀zs,HH p≠some (.tup zs):=λzs z=>by rw[s7 _ _ h5] at z;cases z
 exact q d1 d2 d3 H8 f1' f2' f3' n12 ⟨⟨dx,h8⟩,s8 _ _ (s7 _ _ u3) np1,⟨kvs,s8 _ _ (s7 _ _ v3) np2,Paired.Ax w3 λ_ _ z=>(z.tups (Am.of s7)).tups (s8.tup Ee)⟩,by rw[Xk];exact nda,by rw[Nf];exact ndb,by unfold hs0;rw[QbH];exact CH,by unfold fl0;rw[QbH];exact CF,s8 _ _ e1 np3,by rw[Xl];exact vQ ok,by unfold gs0;rw[QbH];exact CD,n13,n23⟩ (r5.trans ((Ai.of s7).trans s8))
end
abbrev Mr:Stmt:=top 41
abbrev G6:YF:=["states","loop","at"]
theorem Gu:Ba ["states","loop","at","told","number"] G6 (Ak Mr):=by ac_rfl
def stC (hs:YR) (s:Sp3):Str:=((hs.find? λx=>decide (x.1=s)).map (·.2)).getD "cut"
theorem Ti (s:Sp3):∀hs:YR,CV (stV hs) (k3 s)=(hs.find? λx=>decide (x.1=s)).map λx=>V.str x.2
 | []=>rfl
 | a::r=>by
  by_cases e:a.1=s
  ·rw[Qaz (p:=λx:Sp3×Str=>decide (x.1=s)) (QbY e)];exact Jo (p:=(k3 a.1,V.str a.2)) (by rw[e])
  ·rw[Qay (p:=λx:Sp3×Str=>decide (x.1=s)) (by simpa using e),<-Ti s r];exact GR (p:=(k3 a.1,V.str a.2)) λz=>e (Ie z)
theorem fG (hs:YR) (s:Sp3):(CV (stV hs) (k3 s)).getD (.str "cut")=.str (stC hs s):=by
 rw[Ti];unfold stC;cases hs.find? λx=>decide (x.1=s) <;> rfl
theorem Li {hs:YR} {s:Sp3} (h:s∉hs.map (·.1)):stC hs s="cut":=by
 unfold stC;rw[Qbk.mpr λx hx=>by simpa using λe=>h (Qcn.mpr ⟨x,hx,e⟩)];rfl
def Dw (hs:YR) (lp a:Int):Nat->Nat->YV
 | 0,_=>[]
 | f+1,n=>if stC hs ⟨lp,a,(n:Int)⟩="cut" then [] else ⟨lp,a,(n:Int)⟩::Dw hs lp a f (n+1)
def Bx (hs:YR) (lp a:Int):YV:=Dw hs lp a 4 1
theorem Rq (hs:YR) (lp a:Int):∀f n,(Dw hs lp a f n).length<=f
 | 0,_=>Qcw _
 | f+1,n=>by
  unfold Dw;split
  ·exact Qcx _
  ·rw[Qby];have:=Rq hs lp a f (n+1);omega
def fP:Sp:=λvs H Q _=>∃d1 hs lp a,vs=[.ref d1,.int lp,.int a]/\Rd H d1 (.dT (stV hs))/\(∀s∈hs.map (·.1),Bd3 s)/\∀l xs H',H l=none->H' l=some (.lst xs)->Paired (BL H') xs (Bx hs lp a)->Same H H'->Q (.ref l) H'
section
variable {P:Program} {w:World} {K:YD} {mg:YB} {base:Heap} {op oe kd wk C:Addr}
theorem W9 (c:Code K mg "spur_pieces" Mr G6) (T:Tw K mg op oe kd wk C):Good P w K mg base "spur_pieces" 1 G6 fP:=by
 have sc:=Gu;refine c.good Gu (λvs H Q E h=>?_) (λf cdv A outer s H vs Q E hr h=>?_)
 ·obtain⟨d1,hs,lp,a,rfl,_⟩:=h;rfl
 obtain⟨d1,hs,lp,a,rfl,hd,hb,q⟩:=h;refine⟨_,(Ae (Bb (i:=3) Gu.nd rfl (Or.inl rfl) (Ce Ac))
 (Ae (Bb (i:=4) Gu.nd rfl (Or.inl rfl) Af)
 (Ae (aB QbL (Bs jy (N5 (Cm hr) (pv 0) (Bg (Aa (pv 1) (Aa (pv 2) (Aa (pv 4) Ac)))) Bp ⟨rq,rq,rq,rq⟩) Bp (Bq _)) (Ae (Bk (Cw Qar Qan Qao Ci (pv 3) (Aa (Bg (Aa (pv 1) (Aa (pv 2) (Aa (pv 4) Ac)))) Ac)))
 (Ah (mY (i:=4) Gu.nd rfl (Or.inl rfl) Af oN))))
 (Ah (Bc (pv 3)))))),?_⟩
 show let R0:TS:=_;let R1:TS:=Al _ R0;let R2:TS:=Al (Zf _ R1) _;let R3:TS:=Al _ R2;Al _ R3 _ _ _;intro R0 R1 R2 R3;refine⟨Av (by show 0<=1000;decide),λl hl=>?_⟩;refine⟨λm U HH=>∃n:Nat,1<=n/\n+m=5/\U=[jp d1,some (.int lp),some (.int a),jp l,some (.int (n:Int))]/\(∃xs pre,HH l=some (.lst xs)/\Paired (BL HH) xs pre/\pre.length < n/\pre++Dw hs lp a m n=Bx hs lp a)/\Same H HH,⟨4,1,Qcw _,rq,rq,⟨[],[],Ab,.nil,by decide,rq⟩,Ag hl _⟩,λm U HH h=>?_⟩;obtain⟨n,n1,nm,rfl,⟨xs,pre,e1,e2,e3,e4⟩,e5⟩:=h;have hdH:Rd HH d1 (.dT (stV hs)):=by
  rcases hd with hd |⟨o,hd⟩
  ·exact .inl (e5 _ _ hd)
  ·exact .inr ⟨o,e5 _ _ hd⟩
 refine⟨_,rq,d1,rq,.inr ⟨_,hdH⟩,_,rq,_,rq,_,rq,Av (by show 3<=1000;decide),λtk htk=>?_⟩;have k1:=Ag htk (.tup [.int lp,.int a,.int (n:Int)]);have hdK:Rd (upd HH tk (.tup [.int lp,.int a,.int (n:Int)])) d1 (.dT (stV hs)):=by
  rcases hdH with hd |⟨o,hd⟩
  ·exact .inl (k1 _ _ hd)
  ·exact .inr ⟨o,k1 _ _ hd⟩
 have g:Dj (upd HH tk (.tup [.int lp,.int a,.int (n:Int)])) d1 (.ref tk) (CV (stV hs) (k3 ⟨lp,a,(n:Int)⟩)):=.inr ⟨_,_,tk,hdK,rq,Ab,rq⟩;refine⟨_,g,?_⟩;dsimp only;rw[fG];have e1k:=k1 _ _ e1;have e2k:Paired (BL (upd HH tk (.tup [.int lp,.int a,.int (n:Int)]))) xs pre:=Paired.Ax e2 λ_ _ z=>z.tups (Am.of k1);generalize upd HH tk (.tup [.int lp,.int a,.int (n:Int)])=HK at *;have e5k:=e5.trans k1;refine⟨rq,_,rq,?_⟩;by_cases hc:stC hs ⟨lp,a,(n:Int)⟩="cut"
 ·rw[show (!decide (V.str (stC hs ⟨lp,a,(n:Int)⟩)=V.str "cut"))=false by rw[hc];decide +kernel];refine Cp ⟨_,rq,q l xs HK hl e1k ?_ e5k⟩;have:Dw hs lp a m n=[]:=by
   cases m with
   | zero=>rfl
   | succ m=>exact if_pos hc
  rw[this,QbK] at e4;rw[<-e4];exact e2k
 ·have hne:¬V.str (stC hs ⟨lp,a,(n:Int)⟩)=V.str "cut":=λz=>hc (V.str.inj z);rw[show (!decide (V.str (stC hs ⟨lp,a,(n:Int)⟩)=V.str "cut"))=true by rw[QbM hne];rfl];obtain⟨m',rfl⟩ : ∃m',m=m'+1:=by
   cases m with
   | succ m=>exact⟨m,rfl⟩
   | zero=>
    refine absurd (Li λhin=>?_) hc;have:=(hb _ hin).n1;have h5:n=5:=by omega
    subst h5;have this:((5:Nat):Int)<=3:=this;omega
  have e4':(pre++[⟨lp,a,(n:Int)⟩])++Dw hs lp a m' (n+1)=Bx hs lp a:=by
   rw[<-e4,Qbm];show _=pre++Dw hs lp a (m'+1) n;rw[show Dw hs lp a (m'+1) n=⟨lp,a,(n:Int)⟩::Dw hs lp a m' (n+1) from if_neg hc]
   rfl
  have lx:=Qcd e2k;refine Cr ⟨_,fun σ' H' h=>⟨m',QbD _,h⟩,?_⟩;refine⟨_,rq,.inl ⟨rq,_,SqL.of e1k⟩,_,rq,_,rq,_,rq,Av (by show 3<=1000;decide),λtp htp=>?_⟩;have k2':=Ag htp (.tup [.int lp,.int a,.int (n:Int)]);have e1p:=k2' _ _ e1k;have ntl:∀zs,(upd HK tp (.tup [.int lp,.int a,.int (n:Int)])) l≠some (.tup zs):=λzs z=>by rw[e1p] at z;cases z
  have sL:=Am.upd (o:=.lst (xs++[.ref tp])) ntl;refine⟨l,_,_,rq,rq,e1p,Ar (by omega),?_⟩;refine⟨_,rq,_,_,rq,rq,n+1,by omega,by omega,?_,⟨xs++[.ref tp],pre++[⟨lp,a,(n:Int)⟩],Ab,Qcy ⟨tp,rq,sL _ _ Ab⟩ (Paired.Ax e2k λ_ _ z=>(z.tups (Am.of k2')).tups sL),by rw[QaU];show _+1 < _;omega,e4'⟩,(e5k.trans k2').Bl Ai.upd hl⟩;show [some (V.ref d1),some (.int lp),some (.int a),jp l,some (.int ((n:Int)+1))]=_;rw[Int.natCast_add];rfl
end
abbrev RD:Stmt:=top 42
abbrev JD:YF:=["states","gaps","opener","step"]
theorem Gb:Ba ["states","gaps","opener","step","loop","at","wires","places","pieces"] JD (Ak RD):=by ac_rfl
abbrev La:Stmt:=top 43
abbrev Hq:YF:=["states","wires"]
theorem ZS:Ba Hq Hq (Ak La):=by ac_rfl
abbrev Jr:Stmt:=top 44
abbrev Eh:YF:=["states","gaps","opener"]
theorem DW:Ba ["states","gaps","opener","to_b","places_to_b","to_a","places_to_a"] Eh (Ak Jr):=by ac_rfl
instance:DecidableEq Gt:=λa b=>if h:a.lp=b.lp/\a.at_=b.at_ then isTrue (by cases a;cases b;simp at h;obtain⟨h1,h2⟩:=h;subst h1 h2;rfl) else isFalse λe=>h (by rw[e];exact⟨rfl,rfl⟩)
def gpC (gs:YT) (g:Gt):Bool:=((gs.find? λx=>decide (x.1=g)).map (·.2)).getD false
theorem T4 (g:Gt):∀gs:YT,CV (gpV gs) (k2 g)=(gs.find? λx=>decide (x.1=g)).map λx=>V.bl x.2
 | []=>rfl
 | a::r=>by
  by_cases e:a.1=g
  ·rw[Qaz (p:=λx:Gt×Bool=>decide (x.1=g)) (QbY e)];exact Jo (p:=(k2 a.1,V.bl a.2)) (by rw[e])
  ·rw[Qay (p:=λx:Gt×Bool=>decide (x.1=g)) (by simpa using e),<-T4 g r];exact GR (p:=(k2 a.1,V.bl a.2)) λz=>e (RT z)
theorem yj (gs:YT) (g:Gt):(CV (gpV gs) (k2 g)).getD (.bl false)=.bl (gpC gs g):=by
 rw[T4];unfold gpC;cases gs.find? λx=>decide (x.1=g) <;> rfl
def Bd (a b:Int):Int:=if b < a then b else a
def Bf (hs:YR) (gs:YT) (lp st:Int):Nat->Int->YV×YV
 | 0,_=>([],[])
 | f+1,a=>if stC hs ⟨lp,Bd a (a+st),0⟩="cut" then ([],[]) else
  if gpC gs ⟨lp,a+st⟩=true then (⟨lp,Bd a (a+st),0⟩::Bx hs lp (a+st),⟨lp,a+st,0⟩::Bx hs lp (a+st))
  else ((⟨lp,Bd a (a+st),0⟩::Bx hs lp (a+st))++(Bf hs gs lp st f (a+st)).1,(⟨lp,a+st,0⟩::Bx hs lp (a+st))++(Bf hs gs lp st f (a+st)).2)
structure Ws (H0 H:Hp) (l1 l2:Addr) (wa pa:YV):Prop where
 w:∃xs,H l1=some (.lst xs)/\Paired (BL H) xs wa
 p:∃ys,H l2=some (.lst ys)/\Paired (BL H) ys pa
 sm:Same H0 H
theorem Ws.same {H0 H H':Hp} {l1 l2:Addr} {wa pa:YV} (h:Ws H0 H l1 l2 wa pa) (s:Same H H'):Ws H0 H' l1 l2 wa pa:=by
 obtain⟨xs,a1,a2⟩:=h.w;obtain⟨ys,b1,b2⟩:=h.p;exact⟨⟨xs,s _ _ a1,Paired.Ax a2 λ_ _ z=>z.tups (Am.of s)⟩,⟨ys,s _ _ b1,Paired.Ax b2 λ_ _ z=>z.tups (Am.of s)⟩,h.sm.trans s⟩
theorem Ws.BG {H0 H:Hp} {l1 l2:Addr} {wa pa ss:YV} {zs xs:YG} (h:Ws H0 H l1 l2 wa pa) (n:l1≠l2) (f:H0 l1=none) (hx:H l1=some (.lst xs)) (hz:Paired (BL H) zs ss):Ws H0 (upd H l1 (.lst (xs++zs))) l1 l2 (wa++ss) pa:=by
 obtain⟨xs',a1,a2⟩:=h.w;obtain⟨ys,b1,b2⟩:=h.p;rw[hx] at a1;cases a1;have nt:∀us,H l1≠some (.tup us):=λus z=>by rw[hx] at z;cases z
 have t:=Am.upd (o:=.lst (xs++zs)) nt;exact⟨⟨_,Ab,Paired.app (Paired.Ax a2 λ_ _ z=>z.tups t) (Paired.Ax hz λ_ _ z=>z.tups t)⟩,⟨ys,by rw[Ao n.symm];exact b1,Paired.Ax b2 λ_ _ z=>z.tups t⟩,h.sm.Bl Ai.upd f⟩
theorem Ws.add2 {H0 H:Hp} {l1 l2:Addr} {wa pa ss:YV} {zs ys:YG} (h:Ws H0 H l1 l2 wa pa) (n:l1≠l2) (f:H0 l2=none) (hy:H l2=some (.lst ys)) (hz:Paired (BL H) zs ss):Ws H0 (upd H l2 (.lst (ys++zs))) l1 l2 wa (pa++ss):=by
 obtain⟨xs,a1,a2⟩:=h.w;obtain⟨ys',b1,b2⟩:=h.p;rw[hy] at b1;cases b1;have nt:∀us,H l2≠some (.tup us):=λus z=>by rw[hy] at z;cases z
 have t:=Am.upd (o:=.lst (ys++zs)) nt;exact⟨⟨xs,by rw[Ao n];exact a1,Paired.Ax a2 λ_ _ z=>z.tups t⟩,⟨_,Ab,Paired.app (Paired.Ax b2 λ_ _ z=>z.tups t) (Paired.Ax hz λ_ _ z=>z.tups t)⟩,h.sm.Bl Ai.upd f⟩
def Zz:Sp:=λvs H Q _=>∃(d1 d3 o:Addr) (hs:YR) (gs:YT) (g:Gt) (st:Int),vs=[.ref d1,.ref d3,.ref o,.int st]/\Rd H d1 (.dT (stV hs))/\Rd H d3 (.dT (gpV gs))/\H o=some (.tup [.int g.lp,.int g.at_])/\(∀s∈hs.map (·.1),Bd3 s)/\(st=1\/st=-1)/\-1<=g.at_/\g.at_<=14 /\
 ∀t l1 l2 xs ys H',H' t=some (.tup [.ref l1,.ref l2])->H' l1=some (.lst xs)->Paired (BL H') xs (Bf hs gs g.lp st 16 g.at_).1->H' l2=some (.lst ys)->Paired (BL H') ys (Bf hs gs g.lp st 16 g.at_).2->Same H H'->Q (.ref t) H'
section
variable {P:Program} {w:World} {K:YD} {mg:YB} {base:Heap} {op oe kd wk C:Addr}
theorem jH (c:Code K mg "come_to" RD JD) (T:Tw K mg op oe kd wk C) (YX:Good P w K mg base "spur_pieces" 1 G6 fP):Good P w K mg base "come_to" 2 JD Zz:=by
 have sc:=Gb;refine c.good Gb (λvs H Q E h=>?_) (λf cdv A outer s H vs Q E hr h=>?_)
 ·obtain⟨d1,d3,o,hs,gs,g,st,rfl,_⟩:=h;rfl
 obtain⟨d1,d3,o,hs,gs,g,st,rfl,hd,hd3,ho,hb,hst,ga,gb,q⟩:=h;refine⟨_,(Ae (G5 (pv 2) (CQ rfl (Aq (Aj (i:=4) Gb.nd rfl (Or.inl rfl)) (Aq (Aj (i:=5) Gb.nd rfl (Or.inl rfl)) Bt))))
 (Ae (Bb (i:=6) Gb.nd rfl (Or.inl rfl) (Ce Ac))
 (Ae (Bb (i:=7) Gb.nd rfl (Or.inl rfl) (Ce Ac))
 (Ae (aB QbL (Bs jy (N5 (Cm hr) (pv 0) (Bg (Aa (pv 4) (Aa (Az (Ml rfl) rfl T.min SQ (Aa (pv 5) (Aa (Bj Cg (pv 5) (pv 3)) Ac))) (Aa Af Ac)))) Bp ⟨rq,rq,rq,rq⟩) Bp (Bq _)) (Ae (Bk (Cw Qar Qan Qao Ci (pv 6) (Aa (Bg (Aa (pv 4) (Aa (Az (Ml rfl) rfl T.min SQ (Aa (pv 5) (Aa (Bj Cg (pv 5) (pv 3)) Ac))) (Aa Af Ac)))) Ac)))
 (Ae (mY (i:=5) Gb.nd rfl (Or.inl rfl) (pv 3) oN)
 (Ae (Bb (i:=8) Gb.nd rfl (Or.inl rfl) (Ay YX hr (Aa (pv 0) (Aa (pv 4) (Aa (pv 5) Ac)))))
 (Ae (Bk (Cw Qar Qap Qaq Fo (pv 6) (Aa (pv 8) Ac)))
 (Ae (Bk (Cw Qar Qan Qao Ci (pv 7) (Aa (Bg (Aa (pv 4) (Aa (pv 5) (Aa Af Ac)))) Ac)))
 (Ae (Bk (Cw Qar Qap Qaq Fo (pv 7) (Aa (pv 8) Ac)))
 (Ah (BX (rC (N5 (Cm hr) (pv 1) (Bg (Aa (pv 4) (Aa (pv 5) Ac))) Dm ⟨rq,rq,rq,rq⟩) (λ_=>rfl)) (Ah NK) Bv)))))))))
 (Ah (Bc (Bg (Aa (pv 6) (Aa (pv 7) Ac))))))))),?_⟩
 show let R0:TS:=_;let R1:TS:=_;let R2:TS:=Al _ R1;let R3:TS:=Al _ R2;let R4:TS:=Al _ R3;let R5:TS:=Al _ R4;let R6:TS:=Al _ R5;let R7:TS:=Al _ R6;let R8:TS:=Al (Zf _ R7) R0;let R9:TS:=Al _ R8;let R10:TS:=Al _ R9;Al _ R10 _ _ _;intro R0 R1 R2 R3 R4 R5 R6 R7 R8 R9 R10;refine⟨_,rq,o,_,rq,SqT.of ho,rq,_,_,rq,_,_,rq,rq,?_⟩;refine⟨Av (by show 0<=1000;decide),λl1 hl1=>?_⟩;refine⟨Av (by show 0<=1000;decide),λl2 hl2=>?_⟩;have n1:=Ag hl1 (.lst []);have n2:=Ag hl2 (.lst []);have hl2':H l2=none:=n1.free hl2;have n12:l1≠l2:=Aw Ab hl2;have rdS:∀{HA HB:Hp} {d:Addr} {u:HO},Rd HA d u->Same HA HB->Rd HB d u:=λh s=>by
  rcases h with h |⟨o,h⟩
  ·exact .inl (s _ _ h)
  ·exact .inr ⟨o,s _ _ h⟩
 have hm0:(st=1/\g.at_+((16:Nat):Int)=g.at_+16)\/(st=-1/\g.at_ - ((16:Nat):Int)=g.at_ - 16):=by
  rcases hst with h | h
  ·exact .inl ⟨h,by omega⟩
  ·exact .inr ⟨h,by omega⟩
 refine⟨λm U HH=>∃(a:Int) (u8:Option V) (wa pa:YV),((st=1/\a+m=g.at_+16)\/(st=-1/\a - m=g.at_ - 16))/\U=[jp d1,jp d3,jp o,some (.int st),some (.int g.lp),some (.int a),jp l1,jp l2,u8]/\Ws H HH l1 l2 wa pa/\wa.length+10*m<=160/\pa.length+10*m<=160/\wa++(Bf hs gs g.lp st m a).1=(Bf hs gs g.lp st 16 g.at_).1/\pa++(Bf hs gs g.lp st m a).2=(Bf hs gs g.lp st 16 g.at_).2,⟨16,g.at_,_,[],[],hm0,rq,⟨⟨[],n2 _ _ Ab,.nil⟩,⟨[],Ab,.nil⟩,n1.trans n2⟩,by decide,by decide,rq,rq⟩,λm U HH h=>?_⟩;obtain⟨a,u8,wa,pa,hm,rfl,W,e5,e6,e7,e8⟩:=h;refine⟨_,rq,d1,rq,.inr ⟨_,rdS hd W.sm⟩,_,rq,_,rq,_,rq,_,rq,_,_,rq,rq,_,_,rq,Av (by show 3<=1000;decide),λtk htk=>?_⟩;rw[show (if a+st < a then a+st else a)=Bd a (a+st) from rfl]
 have k1:=Ag htk (.tup [.int g.lp,.int (Bd a (a+st)),.int 0]);have W1:=W.same k1;have gg:Dj (upd HH tk (.tup [.int g.lp,.int (Bd a (a+st)),.int 0])) d1 (.ref tk) (CV (stV hs) (k3 ⟨g.lp,Bd a (a+st),0⟩)):=.inr ⟨_,_,tk,rdS hd W1.sm,rq,Ab,rq⟩;refine⟨_,gg,?_⟩;dsimp only;rw[fG];generalize upd HH tk (.tup [.int g.lp,.int (Bd a (a+st)),.int 0])=HK at *;refine⟨rq,_,rq,?_⟩;have done:∀(HX:Hp) (wx px:YV) (u:Option V) (aa:Int),Ws H HX l1 l2 wx px->wx=(Bf hs gs g.lp st 16 g.at_).1->px=(Bf hs gs g.lp st 16 g.at_).2->∀t,HX t=none->Q (.ref t) (upd HX t (.tup [.ref l1,.ref l2])):=λHX wx px u aa WX ew ep t ht=>by
  have kt:=Ag ht (.tup [.ref l1,.ref l2]);have WT:=WX.same kt;obtain⟨xs,a1,a2⟩:=WT.w;obtain⟨ys,b1,b2⟩:=WT.p;rw[ew] at a2;rw[ep] at b2;exact q t l1 l2 xs ys _ Ab a1 a2 b1 b2 WT.sm
 by_cases hc:stC hs ⟨g.lp,Bd a (a+st),0⟩="cut"
 ·rw[show (!decide (V.str (stC hs ⟨g.lp,Bd a (a+st),0⟩)=V.str "cut"))=false by rw[hc];decide +kernel];have hz:Bf hs gs g.lp st m a=([],[]):=by
   cases m with
   | zero=>rfl
   | succ m=>exact if_pos hc
  rw[hz,QbK] at e7 e8;exact Cp ⟨_,rq,_,rq,Av (by show 2<=1000;decide),λt ht=>done HK wa pa u8 a W1 e7 e8 t ht⟩
 ·have hne:¬V.str (stC hs ⟨g.lp,Bd a (a+st),0⟩)=V.str "cut":=λz=>hc (V.str.inj z);rw[show (!decide (V.str (stC hs ⟨g.lp,Bd a (a+st),0⟩)=V.str "cut"))=true by rw[QbM hne];rfl];have hin:(⟨g.lp,Bd a (a+st),0⟩ : Sp3)∈hs.map (·.1):=Qai λz=>hc (Li z);have hB:=hb _ hin;have hB0:0<=Bd a (a+st):=hB.a0;have hB1:Bd a (a+st)<=12:=hB.a1;obtain⟨m',rfl⟩ : ∃m',m=m'+1:=by
   cases m with
   | succ m=>exact⟨m,rfl⟩
   | zero=>
    exfalso;unfold Bd at hB0 hB1;rcases hm with⟨h1,h2⟩|⟨h1,h2⟩
    ·rw[h1] at hB0 hB1;split at hB1 <;> omega
    ·rw[h1] at hB0 hB1;split at hB0 <;> omega
  have lsp:(Bx hs g.lp (a+st)).length<=4:=Rq _ _ _ 4 1;obtain⟨xs,a1,a2⟩:=W1.w;have lx:=Qcd a2;refine Cr ⟨_,fun σ' H' h=>⟨m',QbD _,h⟩,?_⟩;refine⟨_,rq,.inl ⟨rq,_,SqL.of a1⟩,_,rq,_,rq,_,rq,_,rq,_,_,rq,rq,_,_,rq,Av (by show 3<=1000;decide),λtp htp=>?_⟩;rw[show (if a+st < a then a+st else a)=Bd a (a+st) from rfl]
  have k2':=Ag htp (.tup [.int g.lp,.int (Bd a (a+st)),.int 0]);have W2:=(W1.same k2').BG n12 hl1 (k2' _ _ a1) (zs:=[.ref tp]) (ss:=[⟨g.lp,Bd a (a+st),0⟩]) (.cons ⟨tp,rq,Ab⟩ .nil);refine⟨l1,_,_,rq,rq,k2' _ _ a1,Ar (by omega),?_⟩;generalize upd (upd HK tp (.tup [.int g.lp,.int (Bd a (a+st)),.int 0])) l1 (.lst (xs++[.ref tp]))=H2 at *;refine⟨_,rq,_,rq,_,_,rq,rq,?_⟩;refine⟨_,rq,_,rq,_,rq,d1,hs,g.lp,a+st,rq,rdS hd W2.sm,hb,λlq xq H3 hlq hxq pxq s3=>?_⟩;have W3:=W2.same s3;obtain⟨xs3,a13,a23⟩:=W3.w;have lx3:=Qcd a23;rw[QaU] at lx3;have lxq:=Qcd pxq;have EC:lq≠l1:=λz=>by obtain⟨xs',e,_⟩:=W2.w;rw[z,e] at hlq;cases hlq
  have EB:lq≠l2:=λz=>by obtain⟨xs',e,_⟩:=W2.p;rw[z,e] at hlq;cases hlq
  refine⟨_,rq,.inl ⟨rq,_,SqL.of a13⟩,_,rq,l1,lq,_,_,rq,rq,a13,hxq,Av (by rw[lx3,lxq];show _+1+_<=1000;omega),?_⟩;have W4:=W3.BG n12 hl1 a13 pxq;have nt3:∀us,H3 l1≠some (.tup us):=λus z=>by rw[a13] at z;cases z
  have D6:Paired (BL (upd H3 l1 (.lst (xs3++xq)))) xq (Bx hs g.lp (a+st)):=Paired.Ax pxq λ_ _ z=>z.tups (Am.upd nt3);have Hb:(upd H3 l1 (.lst (xs3++xq))) lq=some (.lst xq):=by rw[Ao EC];exact hxq
  generalize upd H3 l1 (.lst (xs3++xq))=H4 at *;obtain⟨ys4,b14,b24⟩:=W4.p;have ly4:=Qcd b24;refine⟨_,rq,.inl ⟨rq,_,SqL.of b14⟩,_,rq,_,rq,Av (by show 3<=1000;decide),λtr htr=>?_⟩;have k5:=Ag htr (.tup [.int g.lp,.int (a+st),.int 0]);have W5:=(W4.same k5).add2 n12 hl2' (k5 _ _ b14) (zs:=[.ref tr]) (ss:=[⟨g.lp,a+st,0⟩]) (.cons ⟨tr,rq,Ab⟩ .nil);refine⟨l2,_,_,rq,rq,k5 _ _ b14,Ar (by omega),?_⟩;have nt5:∀us,(upd H4 tr (.tup [.int g.lp,.int (a+st),.int 0])) l2≠some (.tup us):=λus z=>by rw[k5 _ _ b14] at z;cases z
  have D5:Paired (BL (upd (upd H4 tr (.tup [.int g.lp,.int (a+st),.int 0])) l2 (.lst (ys4++[.ref tr])))) xq (Bx hs g.lp (a+st)):=Paired.Ax D6 λ_ _ z=>(z.tups (Am.of k5)).tups (Am.upd nt5);have Ha:(upd (upd H4 tr (.tup [.int g.lp,.int (a+st),.int 0])) l2 (.lst (ys4++[.ref tr]))) lq=some (.lst xq):=by rw[Ao EB];exact k5 _ _ Hb
  generalize upd (upd H4 tr (.tup [.int g.lp,.int (a+st),.int 0])) l2 (.lst (ys4++[.ref tr]))=H5 at *;obtain⟨ys5,b15,b25⟩:=W5.p;have ly5:=Qcd b25;rw[QaU] at ly5;refine⟨_,rq,.inl ⟨rq,_,SqL.of b15⟩,_,rq,l2,lq,_,_,rq,rq,b15,Ha,Av (by rw[ly5,lxq];show _+1+_<=1000;omega),?_⟩;have W6:=W5.add2 n12 hl2' b15 D5;generalize upd H5 l2 (.lst (ys5++xq))=H6 at *;refine⟨_,rq,d3,rq,.inr ⟨_,rdS hd3 W6.sm⟩,_,rq,_,rq,Av (by show 2<=1000;decide),λtg htg=>?_⟩;have k7:=Ag htg (.tup [.int g.lp,.int (a+st)]);have W7:=W6.same k7;have gg7:Dj (upd H6 tg (.tup [.int g.lp,.int (a+st)])) d3 (.ref tg) (CV (gpV gs) (k2 ⟨g.lp,a+st⟩)):=.inr ⟨_,_,tg,rdS hd3 W7.sm,rq,Ab,rq⟩;refine⟨_,gg7,?_⟩;dsimp only;rw[yj];generalize upd H6 tg (.tup [.int g.lp,.int (a+st)])=H7 at *;refine⟨_,rq,Gn (λhg=>?_) (λhg=>?_)⟩
  ·have hz:Bf hs gs g.lp st (m'+1) a=(⟨g.lp,Bd a (a+st),0⟩::Bx hs g.lp (a+st),⟨g.lp,a+st,0⟩::Bx hs g.lp (a+st)):=by
    unfold Bf;rw[if_neg hc,if_pos hg]
   rw[hz] at e7 e8;exact⟨_,rq,_,rq,Av (by show 2<=1000;decide),λt ht=>done H7 _ _ u8 a W7 (by rw[<-e7,Qbm];rfl) (by rw[<-e8,Qbm];rfl) t ht⟩
  ·have hz:Bf hs gs g.lp st (m'+1) a=((⟨g.lp,Bd a (a+st),0⟩::Bx hs g.lp (a+st))++(Bf hs gs g.lp st m' (a+st)).1,(⟨g.lp,a+st,0⟩::Bx hs g.lp (a+st))++(Bf hs gs g.lp st m' (a+st)).2):=by
    conv=>lhs;unfold Bf
    rw[if_neg hc,if_neg (by rw[hg];decide)]
   rw[hz] at e7 e8;refine⟨a+st,_,_,_,?_,rq,W7,?_,?_,by rw[<-e7];simp only[Qbm,QbG,QbX],by rw[<-e8];simp only[Qbm,QbG,QbX]⟩
   ·rcases hm with⟨h1,h2⟩|⟨h1,h2⟩
    ·exact .inl ⟨h1,by rw[h1];omega⟩
    ·exact .inr ⟨h1,by rw[h1];omega⟩
   ·rw[QaU,QaU];show wa.length+1+_+_<=_;omega
   ·rw[QaU,QaU];show pa.length+1+_+_<=_;omega
end
theorem lY {hs:YR} {s:Sp3} (h:¬stC hs s="cut"):s∈hs.map (·.1):=Qai λz=>h (Li z)
theorem Zo (hs:YR) (lp a:Int):∀f n,∀s∈Dw hs lp a f n,s∈hs.map (·.1)
 | 0,_,s,h=>by cases h
 | f+1,n,s,h=>by
  unfold Dw at h;split at h
  ·cases h
  ·rename_i hc;rcases Qce.mp h with rfl | h
   ·exact lY hc
   ·exact Zo hs lp a f (n+1) s h
theorem QZ (hs:YR) (gs:YT) (lp st:Int):∀f a,∀s∈(Bf hs gs lp st f a).1,s∈hs.map (·.1)
 | 0,_,s,h=>by cases h
 | f+1,a,s,h=>by
  unfold Bf at h;split at h
  ·cases h
  ·rename_i hc;have hw:∀s∈(⟨lp,Bd a (a+st),0⟩::Bx hs lp (a+st):YV),s∈hs.map (·.1):=λs h=>by
    rcases Qce.mp h with rfl | h
    ·exact lY hc
    ·exact Zo hs lp _ 4 1 s h
   split at h
   ·exact hw s h
   ·rcases QbJ.mp h with h | h
    ·exact hw s h
    ·exact QZ hs gs lp st f (a+st) s h
theorem Sy (hs:YR) (gs:YT) (lp st:Int):∀f a,(Bf hs gs lp st f a).1.length<=5*f
 | 0,_=>Qcw _
 | f+1,a=>by
  have ih:=Sy hs gs lp st f (a+st);have ls:(Bx hs lp (a+st)).length<=4:=Rq _ _ _ 4 1;unfold Bf;split
  ·exact Qcx _
  ·split
   ·show (Bx hs lp (a+st)).length+1<=_;omega
   ·have:((⟨lp,Bd a (a+st),0⟩::Bx hs lp (a+st))++(Bf hs gs lp st f (a+st)).1).length=(Bx hs lp (a+st)).length+1+(Bf hs gs lp st f (a+st)).1.length:=by rw[QaU,Qby]
    show ((⟨lp,Bd a (a+st),0⟩::Bx hs lp (a+st))++(Bf hs gs lp st f (a+st)).1).length<=_;omega
def CP (hs:YR) (ws:YV):Bool:=ws.any λs=>decide (V.str (stC hs s)=V.str "short")
def Dy (hs:YR) (gs:YT) (g:Gt):Bool:=CP hs (Bf hs gs g.lp 1 16 g.at_).1 || CP hs (Bf hs gs g.lp (-1) 16 g.at_).1
def Wv:Sp:=λvs H Q _=>∃(d1 l:Addr) (hs:YR) (xs:YG) (ws:YV),vs=[.ref d1,.ref l]/\Rd H d1 (.dT (stV hs))/\H l=some (.lst xs)/\Paired (BL H) xs ws/\(∀s∈ws,s∈hs.map (·.1))/\ws.length<=200/\∀H',Same H H'->Q (.bl (CP hs ws)) H'
def Zx:Sp:=λvs H Q _=>∃(d1 d3 o:Addr) (hs:YR) (gs:YT) (g:Gt),vs=[.ref d1,.ref d3,.ref o]/\Rd H d1 (.dT (stV hs))/\Rd H d3 (.dT (gpV gs))/\H o=some (.tup [.int g.lp,.int g.at_])/\(∀s∈hs.map (·.1),Bd3 s)/\-1<=g.at_/\g.at_<=14/\∀H',Same H H'->Q (.bl (Dy hs gs g)) H'
theorem rdS {HA HB:Hp} {d:Addr} {u:HO} (h:Rd HA d u) (s:Same HA HB):Rd HB d u:=by
 rcases h with h |⟨o,h⟩
 ·exact .inl (s _ _ h)
 ·exact .inr ⟨o,s _ _ h⟩
section
variable {P:Program} {w:World} {K:YD} {mg:YB} {base:Heap} {op oe kd wk C:Addr}
theorem aX (c:Code K mg "has_short" La Hq) (T:Tw K mg op oe kd wk C):Good P w K mg base "has_short" 1 Hq Wv:=by
 refine c.good ZS (λvs H Q E h=>?_) (λf cdv A outer s H vs Q E hr h=>?_)
 ·obtain⟨d1,l,hs,xs,ws,rfl,_⟩:=h;rfl
 obtain⟨d1,l,hs,xs,ws,rfl,hd,hl,hx,hin,Oy,q⟩:=h;refine⟨_,(Ah (Bc (Az (uP rfl) rfl T.any BF (Aa (Cq (N':=["stretch","states"]) rfl (Bo.of (src:=[none,some 0]) (Ak La) Hq rfl rfl rfl (by trivial) (by trivial) (by trivial) rfl (by trivial)) (Du (pv 1)) (λ_ _ _ _=>(Aj (i:=0) (show List.Nodup (["stretch","states"]:YF) by trivial) rfl (Or.inl rfl))) (λ_ _ _ _=>Di) (λ_ _ _ _=>(Es Eu (Qf (Cm hr) (pv 1) (pv 0) (λ_ _=>rfl)) Bp (Bq _)))) Ac)))),?_⟩;have lx:=Qcd hx;refine⟨_,rq,l,rq,⟨_,SqL.of hl⟩,λlc hlc=>?_⟩;let J0:YN:=λi U HH=>(∃u,U=[u,jp d1])/\HH lc=some (.lst (((ws.take i).map λs=>decide (V.str (stC hs s)=V.str "short")).map V.bl))/\Same H HH;refine Gg (xs:=xs) J0 ⟨⟨_,rq⟩,Ab,Ag hlc _⟩ (λi U HH _ h=>SqL.of (h.2.2 _ _ hl)) (λi x U HH hxi h=>?_) (fun U HH h=>?_)
 ·obtain⟨⟨u,rfl⟩,e1,e2⟩:=h;obtain⟨sp,hsp,t,rfl,ht⟩:=Paired.Ck hx hxi;have hi:=(Qah.mp hxi).1;have hv:CV (stV hs) (k3 sp)=some (.str (stC hs sp)):=by
   have h1:=Ti sp hs;obtain⟨y,hy,ey⟩:=Qcn.mp (hin sp (QaI hsp));unfold stC;rw[h1];cases e:hs.find? λx=>decide (x.1=sp) with
   | none=>exact absurd ey (by simpa using Qbk.mp e y hy)
   | some z=>rfl
  have gg:Dj HH d1 (.ref t) (CV (stV hs) (k3 sp)):=.inr ⟨stV hs,k3 sp,t,rdS hd e2,rq,e2 _ _ ht,rq⟩;rw[hv] at gg;unfold FN;dsimp only;refine Cr ⟨_,rq,_,rq,d1,_,rq,gg,rq,_,e1,Ar (by rw[QbH,QbH,Qbz];omega),⟨_,rq⟩,?_,e2.Bl Ai.upd hlc⟩;rw[Ab,QcE hsp,QbI,QbI];rfl
 ·obtain⟨_,e1,e2⟩:=h;rw[lx,Qbx] at e1;refine⟨lc,_,rq,SqL.of e1,?_⟩;have:(ws.map λs=>decide (V.str (stC hs s)=V.str "short")).any id=CP hs ws:=by unfold CP;rw[List.any_map];rfl
  rw[this];exact q _ e2
theorem Uj (c:Code K mg "comes_to_short" Jr Eh) (T:Tw K mg op oe kd wk C) (O8:Good P w K mg base "come_to" 2 JD Zz) (Le:Good P w K mg base "has_short" 1 Hq Wv):Good P w K mg base "comes_to_short" 3 Eh Zx:=by
 have sc:=DW;refine c.good DW (λvs H Q E h=>?_) (λf cdv A outer s H vs Q E hr h=>?_)
 ·obtain⟨d1,d3,o,hs,gs,g,rfl,_⟩:=h;rfl
 obtain⟨d1,d3,o,hs,gs,g,rfl,hd,hd3,ho,hb,ga,gb,q⟩:=h;refine⟨_,(Ae (G5 (Ay O8 hr (Aa (pv 0) (Aa (pv 1) (Aa (pv 2) (Aa Af Ac))))) (CQ rfl (Aq (Aj (i:=3) DW.nd rfl (Or.inl rfl)) (Aq (Aj (i:=4) DW.nd rfl (Or.inl rfl)) Bt))))
 (Ae (G5 (Ay O8 hr (Aa (pv 0) (Aa (pv 1) (Aa (pv 2) (Aa (QC Ni Af) Ac))))) (CQ rfl (Aq (Aj (i:=5) DW.nd rfl (Or.inl rfl)) (Aq (Aj (i:=6) DW.nd rfl (Or.inl rfl)) Bt))))
 (Ah (Bc (jx (Ay Le hr (Aa (pv 0) (Aa (pv 3) Ac))) (DG (Ay Le hr (Aa (pv 0) (Aa (pv 5) Ac))))))))),?_⟩
 show let R0:TS:=_;let R1:TS:=Al _ R0;Al _ R1 _ _ _;intro R0 R1;have jO:∀st,(Bf hs gs g.lp st 16 g.at_).1.length<=200:=λst=>Qcr (Sy hs gs g.lp st 16 g.at_) (by decide);refine⟨_,rq,_,rq,_,rq,d1,d3,o,hs,gs,g,1,rq,hd,hd3,ho,hb,.inl rfl,ga,gb,λt1 l1 l2 xs1 ys1 H1 ht1 hl1 hx1 _ _ s1=>⟨t1,_,rq,SqT.of ht1,rq,_,_,rq,_,_,rq,rq,?_⟩⟩;refine⟨_,rq,_,rq,_,rq,_,rq,d1,d3,o,hs,gs,g,-1,rq,rdS hd s1,rdS hd3 s1,s1 _ _ ho,hb,.inr rfl,ga,gb,λt2 l3 l4 xs2 ys2 H2 ht2 hl3 hx2 _ _ s2=>⟨t2,_,rq,SqT.of ht2,rq,_,_,rq,_,_,rq,rq,?_⟩⟩;have s12:=s1.trans s2;have Hc:Paired (BL H2) xs1 (Bf hs gs g.lp 1 16 g.at_).1:=Paired.Ax hx1 λ_ _ z=>z.tups (Am.of s2);refine⟨_,rq,_,rq,d1,l1,hs,xs1,_,rq,rdS hd s12,s2 _ _ hl1,Hc,QZ hs gs g.lp 1 16 g.at_,jO 1,λH3 s3=>⟨_,rq,?_⟩⟩;cases e:CP hs (Bf hs gs g.lp 1 16 g.at_).1 with
 | true=>
  refine Cr ?_;have:=q H3 (s12.trans s3);unfold Dy at this;rw[e] at this;exact this
 | false=>
  refine Cp ⟨_,rq,_,rq,d1,l3,hs,xs2,_,rq,rdS hd (s12.trans s3),s3 _ _ hl3,Paired.Ax hx2 λ_ _ z=>z.tups (Am.of s3),QZ hs gs g.lp (-1) 16 g.at_,jO (-1),λH4 s4=>?_⟩;have:=q H4 (s12.trans (s3.trans s4));unfold Dy at this;rw[e] at this;exact this
end
abbrev Kz:Stmt:=(inClass (top 45) 10)
abbrev GD:YF:=["self"]
theorem VB:Ba ["self"] GD (Ak Kz):=by ac_rfl
theorem Fz (pl d1 d2 d3:Addr):List.lookup ("gaps":Str) (ff pl d1 d2 d3)=some (V.ref d3):=Sh (i:=3) (fnd pl d1 d2 d3) rfl
def XC (gs:YT):Prop:=∀x∈gs,-1<=x.1.at_/\x.1.at_<=14
def Zv (C:Addr):Sp:=λvs H Q _=>∃p pl d1 d2 d3 hs fl gs,vs=[.ref p]/\WAt C H p pl d1 d2 d3 hs fl gs/\∀l xs H',H l=none->H' l=some (.lst xs)->Paired (DP H') xs ((gs.filter (·.2)).map (·.1))->Same H H'->Q (.ref l) H'
section
variable {P:Program} {w:World} {K:YD} {mg:YB} {base:Heap} {op oe kd wk C:Addr}
abbrev xA:YF:=["opener","gap"]
theorem nR (c:G4 K C "parted" "Wires.parted" Kz GD) (T:Tw K mg op oe kd wk C):CN P w K mg base C "parted" 1 GD (Zv C):=by
 refine c.good VB (λvs H Q E h=>?_) (λf cdv A outer s H vs Q E hr h=>?_)
 ·obtain⟨p,pl,d1,d2,d3,hs,fl,gs,rfl,_⟩:=h;rfl
 obtain⟨p,pl,d1,d2,d3,hs,fl,gs,rfl,R,q⟩:=h;refine⟨_,(Ah (Bc (NZ rfl (Cq (N':=xA) rfl (Bo.plain rfl (by trivial) (by trivial) (by trivial)) (Ox (Dc (pv 0) rfl)) (λ_ _ _ _=>(FW (K:=K) (n:=2) rfl rfl (Aq (Aj (i:=0) (show List.Nodup (xA:YF) by trivial) rfl (Or.inl rfl)) (Aq (Aj (i:=1) (show List.Nodup (xA:YF) by trivial) rfl (Or.inl rfl)) Bt)))) (λ_ _ _ _=>(Gy (CK (pv 1)))) (λ_ _ _ _=>(pv 0)))))),?_⟩;obtain⟨dx,hp⟩:=R.ins;have hd3:=R.gp;have l3:=R.l3;have nfz:∀o' u,H d3≠some (.frz o' u):=λo' u z=>by rw[hd3] at z;cases z
 have lgs:(gpV gs).length=gs.length:=by unfold gpV;rw[QbH]
 refine⟨_,rq,p,C,dx,_,_,rq,hp,T.cl,T.GF,Fz pl d1 d2 d3,d3,gpV gs,rq,hd3,λo l hl=>?_⟩;have nl:l≠d3:=λz=>by rw[z,Ab] at hl;cases hl
 have fl':H l=none:=by rw[Ao nl] at hl;exact hl
 let J0:YN:=λi U HH=>(∃u v,U=[u,v])/\(∃ys,HH l=some (.lst ys)/\Paired (DP HH) ys (((gs.take i).filter (·.2)).map (·.1))/\ys.length<=i)/\Same (upd H d3 (.frz o (.dT (gpV gs)))) HH;refine QX J0 ⟨⟨none,none,rq⟩,⟨[],Ab,.nil,Qcw _⟩,Ag hl _⟩ (λi U HH _ h=>h.2.2 _ _ Ab) (λi kv p' b U HH hkv h hp' hb'=>?_) (fun U HH h=>?_)
 ·obtain⟨⟨u,v,rfl⟩,⟨ys,e1,e3,e4⟩,e2⟩:=h;have hi:=(Qah.mp hkv).1;unfold gpV at hkv;rw[Qbn] at hkv;obtain⟨x,hx,rfl⟩:=QaA.mp hkv;have t1:=Ag hp' (.tup [.ref b,.bl x.2]);have e2':=e2.trans t1;have et:((gs.take (i+1)).filter (·.2)).map (·.1)=((gs.take i).filter (·.2)).map (·.1)++([x].filter (·.2)).map (·.1):=by rw[QcE hx,Qbf,QbI]
  refine⟨p',_,rq,SqT.of Ab,rq,_,_,rq,_,_,rq,rq,?_⟩;refine⟨_,rq,_,rq,Gn (λhc=>?_) (λhc=>?_)⟩
  ·have e1':=t1 _ _ e1;have ntl:∀zs,(upd HH p' (.tup [.ref b,.bl x.2])) l≠some (.tup zs):=λzs z=>by rw[e1'] at z;cases z
   have sL:=Am.upd (o:=.lst (ys++[.ref b])) ntl;refine⟨_,rq,ys,e1',Ar (by omega),⟨_,_,rq⟩,⟨_,Ab,?_,by rw[QaU];show _+1<=_;omega⟩,e2'.Bl Ai.upd hl⟩;rw[et,show [x].filter (·.2)=[x] from Qau (p:=λy:Gt×Bool=>y.2) hc]
   exact Qcy ⟨b,rq,sL _ _ (t1 _ _ hb')⟩ (Paired.Ax e3 λ_ _ z=>(z.tups (Am.of t1)).tups sL)
  ·refine⟨⟨_,_,rq⟩,⟨ys,t1 _ _ e1,?_,by omega⟩,e2'⟩;rw[et,show [x].filter (·.2)=[] from Qat (p:=λy:Gt×Bool=>y.2) (by rw[hc];decide),Qcv,QbK]
   exact Paired.Ax e3 λ_ _ z=>z.tups (Am.of t1)
 ·obtain⟨_,⟨ys,e1,e3,e4⟩,e2⟩:=h;rw[lgs,Qbx] at e3;have hfz:=e2 _ _ Ab;have ntz:∀zs,HH d3≠some (.tup zs):=λzs z=>by rw[hfz] at z;cases z
  exact⟨d3,o,gpV gs,hfz,nfz,q l ys _ fl' (by rw[Ao nl];exact e1) (Paired.Ax e3 λ_ _ z=>z.tups (Am.upd ntz)) (Jz e2 hd3)⟩
end
abbrev Py:Stmt:=(inClass (top 45) 11)
abbrev Hr:YF:=["self","opener"]
theorem JX:Ba ["self","opener","gap","changed"] Hr (Ak Py):=by ac_rfl
def setG (gs:YT) (g:Gt) (b:Bool):YT:=gs.map λx=>if x.1=g then (x.1,b) else x
theorem Ku (gs:YT) (g:Gt) (b:Bool):(setG gs g b).map (·.1)=gs.map (·.1):=by
 unfold setG;rw[Qcq];refine QaO λx _=>?_;show (if x.1=g then (x.1,b) else x).1=x.1
 split <;> rfl
theorem qT (gs:YT) (g:Gt) (b:Bool):(setG gs g b).length=gs.length:=QbH ..
theorem yh {gs:YT} {g:Gt} {b:Bool} (h:g∈gs.map (·.1)):putK (gpV gs) (k2 g) (.bl b)=gpV (setG gs g b):=by
 obtain⟨x,hx,e⟩:=Qcn.mp h;rw[Nz (l:=gpV gs) ⟨_,Qcn.mpr ⟨x,hx,rq⟩,by show k2 x.1=_;rw[e]⟩];unfold gpV setG;rw[Qcq,Qcq];refine QaO λy _=>?_;show (if k2 y.1=k2 g then (k2 y.1,V.bl b) else (k2 y.1,V.bl y.2))=(k2 (if y.1=g then (y.1,b) else y).1,V.bl (if y.1=g then (y.1,b) else y).2)
 by_cases e:y.1=g
 ·rw[if_pos (by rw[e]),if_pos e]
 ·rw[if_neg (λz=>e (RT z)),if_neg e]
theorem V8 {gs:YT} {g:Gt} (h:g∈gs.map (·.1)):CV (gpV gs) (k2 g)=some (.bl (gpC gs g)):=by
 obtain⟨y,hy,ey⟩:=Qcn.mp h;unfold gpC;rw[T4];cases e:gs.find? λx=>decide (x.1=g) with
 | none=>exact absurd ey (by simpa using Qbk.mp e y hy)
 | some z=>rfl
def NH (H:Hp) (v:V) (gs:List Gt):Prop:=∃b g,v=.ref b/\H b=some (.tup [.int g.lp,.int g.at_])/\g∈gs
theorem dj {H:Hp} {v:V} {ss:List Gt} (h:NH H v ss):Td (JM H v) 2=true:=by
 obtain⟨b,s,rfl,hb,_⟩:=h;rw[Ds hb];rfl
theorem yg {H:Hp} {v:V} {s:Gt} (h:DP H v s):Th H v:=by
 obtain⟨u,rfl,e⟩:=h;refine⟨.inr ⟨_,e⟩,λxs ex=>?_⟩;rw[Ds e] at ex;cases ex;refine⟨by show 2<=100;decide,λy hy=>?_⟩;have:y=.int s.lp\/y=.int s.at_:=by simpa using hy
 rcases this with rfl | rfl <;> exact True.intro
def ZD (C:Addr):Sp:=λvs H Q _=>∃p pl d1 d2 d3 hs fl gs b g,vs=[.ref p,.ref b]/\WAt C H p pl d1 d2 d3 hs fl gs/\(∀s∈hs.map (·.1),Bd3 s)/\XC gs/\H b=some (.tup [.int g.lp,.int g.at_])/\g∈gs.map (·.1)/\∀H',WAt C H' p pl d1 d2 d3 hs fl (setG gs g (Dy hs gs g))->Ai d3 H H'->Q (.bl (!decide (V.bl (Dy hs gs g)=V.bl (gpC gs g)))) H'
section
variable {P:Program} {w:World} {K:YD} {mg:YB} {base:Heap} {op oe kd wk C:Addr}
theorem An (c:G4 K C "act" "Wires.act" Py Hr) (T:Tw K mg op oe kd wk C) (Ii:Good P w K mg base "are_wholes" 2 Ft Oq) (Jw:Good P w K mg base "comes_to_short" 3 Eh Zx):CN P w K mg base C "act" 4 Hr (ZD C):=by
 have sc:=JX;refine c.good JX (λvs H Q E h=>?_) (λf cdv A outer s H vs Q E hr h=>?_)
 ·obtain⟨p,pl,d1,d2,d3,hs,fl,gs,b,g,rfl,_⟩:=h;rfl
 obtain⟨p,pl,d1,d2,d3,hs,fl,gs,b,g,rfl,R,hb,hg,hbt,hin,q⟩:=h;refine⟨_,(Ae (BX (PW.pt (Lb (En (CK (Ay Ii hr (Aa (pv 1) (Aa Af Ac))))) (Lk (Kc (Oz (Cm hr) (pv 1) (Dc (pv 0) rfl)))))) (Ah QB) Bv)
 (Ae (Bb (i:=2) JX.nd rfl (Or.inl rfl) (Ay Jw hr (Aa (Dc (pv 0) rfl) (Aa (Dc (pv 0) rfl) (Aa (pv 1) Ac)))))
 (Ae (Bb (i:=3) JX.nd rfl (Or.inl rfl) (Es jy (pv 2) (Qf (Cm hr) (Dc (pv 0) rfl) (pv 1) (λ_ _=>rfl)) (Bq _)))
 (Ae (FT (Cm hr) (Dc (pv 0) rfl) (pv 1) (pv 2) rfl)
 (Ah (Bc (pv 3))))))),?_⟩
 show let R0:TS:=Al _ _;let R1:TS:=Al _ R0;let R2:TS:=Al _ R1;Al _ R2 _ _ _;intro R0 R1 R2;refine⟨_,rq,.ref b,2,rq,yg ⟨b,rq,hbt⟩,λH1 s1=>⟨_,rq,?_⟩⟩;rw[dj ⟨b,g,rq,hbt,hin⟩];have R1:=R.same s1;obtain⟨dx,hp⟩:=R1.ins;refine Cp ⟨_,rq,_,rq,p,C,dx,_,_,rq,hp,T.cl,T.GF,Fz pl d1 d2 d3,d3,_,rq,Dj.t (k:=k2 g) R1.gp (s1 _ _ hbt),_,rq,?_⟩;rw[V8 hin];obtain⟨x,hx',ex⟩:=Qcn.mp hin;have gb:=hg x hx';rw[ex] at gb;refine Cp ⟨_,rq,p,C,dx,_,_,rq,hp,T.cl,T.Gm,Gf pl d1 d2 d3,_,rq,p,C,dx,_,_,rq,hp,T.cl,T.GF,Fz pl d1 d2 d3,_,rq,d1,d3,b,hs,gs,g,rq,.inl R1.st,.inl R1.gp,s1 _ _ hbt,hb,gb.1,gb.2,λH2 s2=>?_⟩;have R2:=R1.same s2;obtain⟨dx2,hp2⟩:=R2.ins;have s12:=s1.trans s2;have gg:=Dj.t (k:=k2 g) R2.gp (s12 _ _ hbt);rw[V8 hin] at gg;refine⟨_,rq,_,rq,p,C,dx2,_,_,rq,hp2,T.cl,T.GF,Fz pl d1 d2 d3,_,rq,d3,_,rq,gg,rq,?_⟩;have l3:=R2.l3;have hd3:=R2.gp;have npd:p≠d3:=λz=>by rw[z,hd3] at hp2;cases hp2
 have nt:∀zs,H2 d3≠some (.tup zs):=λzs z=>by rw[hd3] at z;cases z
 refine⟨_,rq,_,rq,p,C,dx2,_,_,rq,hp2,T.cl,T.GF,Fz pl d1 d2 d3,_,rq,d3,_,rq,Ik.t (k:=k2 g) hd3 (s12 _ _ hbt) (Ar (by unfold gpV;rw[QbH];omega)),?_⟩;rw[yh hin];obtain⟨kvs,hk,hf⟩:=R2.fi;have sT:=Am.upd (o:=.dT (gpV (setG gs g (Dy hs gs g)))) nt;exact⟨_,rq,q _ ⟨⟨dx2,by rw[Ao npd];exact hp2⟩,by rw[Ao R2.n13];exact R2.st,⟨kvs,by rw[Ao R2.n23];exact hk,Paired.Ax hf λ_ _ z=>z.tups sT⟩,R.nd1,R.nd2,R.l1,R.l2,Ab,by rw[Ku];exact R.nd3,by rw[qT];exact R.l3,R.n13,R.n23⟩ ((Ai.of s12).trans Ai.upd)⟩
end
abbrev Ov:Stmt:=top 55
abbrev LC:YF:=["_law_plan_here"]
abbrev x6:YF:=["_law_plan_here","_law_found","_law_loop_here","_law_places"]
theorem JV:Ba x6 LC (Ak Ov):=by ac_rfl
theorem eZ {α : Type} {f:Nat->List α} {k:Nat}:∀{n:Nat},k<=n->up f k <+: up f n
 | 0,h=>by rw[show k=0 by omega];exact List.prefix_refl _
 | n+1,h=>by
  by_cases e:k=n+1
  ·rw[e];exact List.prefix_refl _
  ·rw[Dn];exact List.IsPrefix.trans (eZ (by omega)) (List.prefix_append _ _)
def gk:Sp:=λvs H Q _=>∃pl most ja jn,vs=[.ref pl]/\Fg H pl most ja jn/\∀l xs H',H l=none->H' l=some (.lst xs)->Paired (DP H') xs (up (gtL ja) ja.length)->Same H H'->Q (.ref l) H'
section
variable {P:Program} {w:World} {K:YD} {mg:YB} {base:Heap} {op oe kd wk C:Addr}
abbrev x8:YF:=["_law_at","_law_loop_here","_law_places"]
theorem sW (c:Code K mg "_law_gates" Ov LC) (T:Tw K mg op oe kd wk C):Good P w K mg base "_law_gates" 1 LC gk:=by
 have sc:=JV;refine c.good JV (λvs H Q E h=>?_) (λf cdv A outer s H vs Q E hr h=>?_)
 ·obtain⟨pl,most,ja,jn,rfl,_⟩:=h;rfl
 obtain⟨pl,most,ja,jn,rfl,pa,q⟩:=h;refine⟨_,(Ae (Bb (i:=1) JV.nd rfl (Or.inl rfl) (Ce Ac))
 (Ae (Cd QbL rfl (CT rfl T.range (Aa (Az Bh rfl T.len Cu (Aa (Bm BW (pv 0) Af (λ_ _=>rfl)) Ac)) Ac)) (Aj (i:=2) JV.nd rfl (Or.inr rfl))
 (Ae (Bb (i:=3) JV.nd rfl (Or.inr rfl) (Bm BW (Bm BW (pv 0) Af (λ_ _=>rfl)) (pv 2) (λ_ _=>rfl)))
 (Ae (Bk (Cw Qar Qan Qao Ci (pv 1) (Aa (Bg (Aa (pv 2) (Aa Af Ac))) Ac)))
 (Ae (Bk (Cw Qar Qap Qaq Fo (pv 1) (Aa (Cq (N':=x8) rfl (Bo.of (src:=[none,some 2,some 3]) (Ak Ov) x6 rfl rfl rfl (by trivial) (by trivial) (by trivial) rfl (by trivial)) (CT rfl T.range (Aa (Az Bh rfl T.len Cu (Aa (pv 3) Ac)) Ac)) (λ_ _ _ _=>(Aj (i:=0) (show List.Nodup (x8:YF) by trivial) rfl (Or.inl rfl))) (λ_ _ _ _=>(Gy (Bs Eu (Bm (TJ (K:=K) rfl) (Bm (TJ (K:=K) rfl) (pv 2) (pv 0) (λ_ _=>rfl)) Af (λ_ _=>rfl)) Bp (Bq _)))) (λ_ _ _ _=>(Bg (Aa (pv 1) (Aa (Bj Cg (pv 0) Af) Ac))))) Ac)))
 (Ah (Bk (Cw Qar Qan Qao Ci (pv 1) (Aa (Bg (Aa (pv 2) (Aa (Bj Cg (Az Bh rfl T.len Cu (Aa (pv 3) Ac)) Af) Ac))) Ac))))))))
 (Ah (Bc (pv 1))))),?_⟩
 show let R0:TS:=_;let R1:TS:=Al _ R0;let R2:TS:=Al _ R1;let R3:TS:=Al _ R2;let R4:TS:=Al (Dg _ _ R3) _;Al _ R4 _ _ _;intro R0 R1 R2 R3 R4;have ok:=pa.ok;obtain⟨Ls,zs,ws,zvs,f1,f2,f3,f4,f5⟩:=pa.at_;have lw:=Qcd f3;have l3:=ok.hi;have o200:=nJ ok;refine⟨Av (by show 0<=1000;decide),λl hl=>?_⟩;have n1:=Ag hl (.lst []);refine⟨_,rq,pl,_,_,_,rq,rq,SqT.of (n1 _ _ f1),rq,Ls,_,rq,.inr (SqT.of (n1 _ _ f2)),_,rq,by omega,by omega,?_⟩;rw[Qbo];let J0:YN:=λk U HH=>∃u2 u3,U=[jp pl,jp l,u2,u3]/\(∃xs,HH l=some (.lst xs)/\Paired (DP HH) xs (up (gtL ja) k))/\Same H HH;refine Ec J0 ⟨_,_,rq,⟨[],Ab,.nil⟩,n1⟩ (λk U HH hk h=>?_) (fun U HH h=>?_)
 ·obtain⟨u2,u3,rfl,⟨xs,e1,e2⟩,sm⟩:=h;have hwk:ws[k]?=some ws[k]:=Qam hk;obtain⟨ps,hps,t,vs',ev,ht,hpp⟩:=Paired.Ck f3 hwk;have lv:=Qcd hpp;have hkl:k < ja.length:=by omega
  have okl:=ok.ok ps (QaI hps);have l12:=okl.hi;have egt:gtL ja k=(⟨k,0⟩::up (gt1 k ps) ps.length)++[⟨k,(ps.length:Int)+1⟩]:=CW hps;have Od:atI ws ((0:Int)+(k:Int))=some (.ref t):=by rw[Qcu];exact DY (by rw[hwk,ev])
  have lx:=Qcd e2;have lst:(up (gtL ja) k).length<=200:=Qcr (eZ (f:=gtL ja) (Qcs hkl)).length_le o200;have lgt:(up (gt1 (k:Int) ps) ps.length).length<=12:=by
   have:=Ek (f:=gt1 (k:Int) ps) (c:=1) T3 ps.length;omega
  refine⟨_,rq,pl,_,_,_,rq,rq,SqT.of (sm _ _ f1),rq,_,rq,Ls,_,_,_,rq,rq,SqT.of (sm _ _ f2),Od,?_⟩;refine⟨_,rq,.inl ⟨rq,_,SqL.of e1⟩,_,rq,Av (by show 2<=1000;decide),λta hta=>?_⟩;rw[Qcu];have a1:=Ag hta (.tup [.int (k:Int),.int 0]);have e1a:=a1 _ _ e1;refine⟨l,_,_,rq,rq,e1a,Ar (by omega),?_⟩;have ntl:∀zs,(upd HH ta (.tup [.int (k:Int),.int 0])) l≠some (.tup zs):=λzs z=>by rw[e1a] at z;cases z
  have sL:=Am.upd (o:=.lst (xs++[.ref ta])) ntl;have p2:Paired (DP (upd (upd HH ta (.tup [.int (k:Int),.int 0])) l (.lst (xs++[.ref ta])))) (xs++[.ref ta]) (up (gtL ja) k++[⟨k,0⟩]):=Qcy ⟨ta,rq,sL _ _ Ab⟩ (Paired.Ax e2 λ_ _ z=>(z.tups (Am.of a1)).tups sL);have hl2:(upd (upd HH ta (.tup [.int (k:Int),.int 0])) l (.lst (xs++[.ref ta]))) l=_:=Ab;have sm2:Same H (upd (upd HH ta (.tup [.int (k:Int),.int 0])) l (.lst (xs++[.ref ta]))):=(sm.trans a1).Bl Ai.upd hl;generalize upd (upd HH ta (.tup [.int (k:Int),.int 0])) l (.lst (xs++[.ref ta]))=H2 at *;refine⟨_,rq,.inl ⟨rq,_,SqL.of hl2⟩,_,rq,t,_,rq,.inr (SqT.of (sm2 _ _ ht)),_,rq,by omega,by omega,λlc hlc=>?_⟩;rw[Qbo];have nlc:l≠lc:=Aw hl2 hlc;let J1:YN:=λi U HY=>(∃u,U=[u,some (.int (k:Int)),jp t])/\(∃ys,HY lc=some (.lst ys)/\Paired (DP HY) ys (up (gt1 (k:Int) ps) i)/\ys.length<=i)/\Same H2 HY;refine Kp J1 ⟨⟨_,rq⟩,⟨[],Ab,.nil,Qcw _⟩,Ag hlc _⟩ (λi U HY hi h=>?_) (fun U HY h=>?_)
  ·obtain⟨⟨u,rfl⟩,⟨ys,g1,g2,g4⟩,g3⟩:=h;have hvi:vs'[i]?=some vs'[i]:=Qam hi;obtain⟨p,hp,tp,up',wsp,ep,hpt,hpu,hpd⟩:=Paired.Ck hpp hvi;have ID:atI vs' ((0:Int)+(i:Int))=some (.ref tp):=by rw[Qcu];exact DY (by rw[hvi,ep])
   have eg1:gt1 (k:Int) ps i=if V.str p.kind=V.str "opener" then [⟨(k:Int),((1+i:Nat):Int)⟩] else []:=CW hp
   have s2:=sm2.trans g3;refine⟨_,rq,_,rq,t,_,_,_,rq,rq,SqT.of (s2 _ _ ht),ID,tp,_,_,_,rq,rq,SqT.of (s2 _ _ hpt),rq,rq,_,rq,?_⟩;by_cases hop:V.str p.kind=V.str "opener"
   ·rw[QbY hop];refine Cr ⟨_,rq,_,rq,_,_,rq,rq,Av (by show 2<=1000;decide),λtk htk=>?_⟩;rw[Qcu];have b1:=Ag htk (.tup [.int (k:Int),.int ((i:Int)+1)]);have g1':=b1 _ _ g1;have ntc:∀zs,(upd HY tk (.tup [.int (k:Int),.int ((i:Int)+1)])) lc≠some (.tup zs):=λzs z=>by rw[g1'] at z;cases z
    have sC:=Am.upd (o:=.lst (ys++[.ref tk])) ntc;refine⟨ys,g1',Ar (by omega),⟨_,rq⟩,⟨_,Ab,?_,by rw[QaU];show _+1<=_;omega⟩,(g3.trans b1).Bl Ai.upd hlc⟩;rw[Dn,eg1,if_pos hop];refine Qcy ⟨tk,rq,?_⟩ (Paired.Ax g2 λ_ _ z=>(z.tups (Am.of b1)).tups sC);rw[sC _ _ Ab];show _=some (HO.tup [.int (k:Int),.int ((1+i:Nat):Int)]);rw[show ((1+i:Nat):Int)=(i:Int)+1 by omega]
   ·rw[QbM hop];refine Cp ⟨⟨_,rq⟩,⟨ys,g1,?_,by omega⟩,g3⟩;rw[Dn,eg1,if_neg hop,QbK];exact g2
  obtain⟨_,⟨ys,g1,g2,g4⟩,g3⟩:=h;rw[lv] at g2;have hlY:=g3 _ _ hl2;refine⟨l,lc,_,_,rq,rq,hlY,g1,Av (by rw[QaU];show _+1+_<=_;omega),?_⟩;have ntY:∀zs,HY l≠some (.tup zs):=λzs z=>by rw[hlY] at z;cases z
  have sY:=Am.upd (o:=.lst ((xs++[.ref ta])++ys)) ntY;have p3:Paired (DP (upd HY l (.lst ((xs++[.ref ta])++ys)))) ((xs++[.ref ta])++ys) ((up (gtL ja) k++[⟨k,0⟩])++up (gt1 (k:Int) ps) ps.length):=Paired.app (Paired.Ax p2 λ_ _ z=>(z.tups (Am.of g3)).tups sY) (Paired.Ax g2 λ_ _ z=>z.tups sY);have hl3:(upd HY l (.lst ((xs++[.ref ta])++ys))) l=_:=Ab;have sm3:Same H (upd HY l (.lst ((xs++[.ref ta])++ys))):=(sm2.trans g3).Bl Ai.upd hl;generalize upd HY l (.lst ((xs++[.ref ta])++ys))=H3 at *;refine⟨_,rq,.inl ⟨rq,_,SqL.of hl3⟩,_,rq,_,rq,t,_,rq,.inr (SqT.of (sm3 _ _ ht)),_,_,rq,rq,Av (by show 2<=1000;decide),λtb htb=>?_⟩;have b3:=Ag htb (.tup [.int (k:Int),.int ((vs'.length:Int)+1)]);have e3:=b3 _ _ hl3;have nt3:∀zs,(upd H3 tb (.tup [.int (k:Int),.int ((vs'.length:Int)+1)])) l≠some (.tup zs):=λzs z=>by rw[e3] at z;cases z
  have s4:=Am.upd (o:=.lst (((xs++[.ref ta])++ys)++[.ref tb])) nt3;refine⟨l,_,_,rq,rq,e3,Ar (by rw[QaU,QaU];show _+1+_<=_;omega),_,_,rq,⟨_,Ab,?_⟩,(sm3.trans b3).Bl Ai.upd hl⟩;rw[Dn,egt,show up (gtL ja) k++((⟨k,0⟩::up (gt1 (k:Int) ps) ps.length)++[⟨k,(ps.length:Int)+1⟩])=((up (gtL ja) k++[⟨k,0⟩])++up (gt1 (k:Int) ps) ps.length)++[⟨k,(ps.length:Int)+1⟩] from by simp only[Qbm,QbG,QbX]]
  refine Qcy ⟨tb,rq,?_⟩ (Paired.Ax p3 λ_ _ z=>(z.tups (Am.of b3)).tups s4);rw[s4 _ _ Ab,lv]
 ·obtain⟨u2,u3,rfl,⟨xs,e1,e2⟩,sm⟩:=h;rw[lw] at e2;exact⟨_,rq,q l xs HH hl e1 e2 sm⟩
end
abbrev Jj:Stmt:=top 57
abbrev G7:YF:=["_law_plan_here"]
abbrev x9:YF:=["_law_plan_here","_law_found","_law_loop_here","_law_at"]
theorem Gv:Ba x9 G7 (Ak Jj):=by ac_rfl
def fM:Sp:=λvs H Q _=>∃pl most ja jn,vs=[.ref pl]/\Fg H pl most ja jn/\∀l xs H',H l=none->H' l=some (.lst xs)->Paired (BL H') xs (up (stL ja) ja.length)->Same H H'->Q (.ref l) H'
section
variable {P:Program} {w:World} {K:YD} {mg:YB} {base:Heap} {op oe kd wk C:Addr}
abbrev ye:YF:=["_law_way","_law_loop_here","_law_at"]
theorem rY (c:Code K mg "_law_stretches" Jj G7) (T:Tw K mg op oe kd wk C):Good P w K mg base "_law_stretches" 1 G7 fM:=by
 have sc:=Gv;refine c.good Gv (λvs H Q E h=>?_) (λf cdv A outer s H vs Q E hr h=>?_)
 ·obtain⟨pl,most,ja,jn,rfl,_⟩:=h;rfl
 obtain⟨pl,most,ja,jn,rfl,pa,q⟩:=h;refine⟨_,(Ae (Bb (i:=1) Gv.nd rfl (Or.inl rfl) (Ce Ac))
 (Ae (Cd QbL rfl (CT rfl T.range (Aa (Az Bh rfl T.len Cu (Aa (Bm BW (pv 0) Af (λ_ _=>rfl)) Ac)) Ac)) (Aj (i:=2) Gv.nd rfl (Or.inr rfl))
 (Ae (Bk (Cw Qar Qan Qao Ci (pv 1) (Aa (Bg (Aa (pv 2) (Aa Af (Aa Af Ac)))) Ac)))
 (Ah (Cd QbL rfl (CT rfl T.range (Aa (Az Bh rfl T.len Cu (Aa (Bm BW (Bm BW (pv 0) Af (λ_ _=>rfl)) (pv 2) (λ_ _=>rfl)) Ac)) Ac)) (Aj (i:=3) Gv.nd rfl (Or.inr rfl))
 (Ah (Bk (Cw Qar Qap Qaq Fo (pv 1) (Aa (Cq (N':=ye) rfl (Bo.of (src:=[none,some 2,some 3]) (Ak Jj) x9 rfl rfl rfl (by trivial) (by trivial) (by trivial) rfl (by trivial)) (CT rfl T.range (Aa (Bj Cg (Az Bh rfl T.len Cu (Aa (Bm BW (Bm BW (Bm BW (Bm BW (pv 0) Af (λ_ _=>rfl)) (pv 2) (λ_ _=>rfl)) (pv 3) (λ_ _=>rfl)) Af (λ_ _=>rfl)) Ac)) Af) Ac)) (λ_ _ _ _=>(Aj (i:=0) (show List.Nodup (ye:YF) by trivial) rfl (Or.inl rfl))) (λ_ _ _ _=>Di) (λ_ _ _ _=>(Bg (Aa (pv 1) (Aa (Bj Cg (pv 2) Af) (Aa (pv 0) Ac)))))) Ac))))))))
 (Ah (Bc (pv 1))))),?_⟩
 show let R0:TS:=_;let R1:TS:=Dg _ _ R0;let R2:TS:=Al _ R1;let R3:TS:=Al (Dg _ _ R2) _;Al _ R3 _ _ _;intro R0 R1 R2 R3;have ok:=pa.ok;obtain⟨Ls,zs,ws,zvs,f1,f2,f3,f4,f5⟩:=pa.at_;have lw:=Qcd f3;have l3:=ok.hi;refine⟨Av (by show 0<=1000;decide),λl hl=>?_⟩;have n1:=Ag hl (.lst []);refine⟨_,rq,pl,_,_,_,rq,rq,SqT.of (n1 _ _ f1),rq,Ls,_,rq,.inr (SqT.of (n1 _ _ f2)),_,rq,by omega,by omega,?_⟩;rw[Qbo];let J0:YN:=λk U HH=>∃u2 u3,U=[jp pl,jp l,u2,u3]/\(∃xs,HH l=some (.lst xs)/\Paired (BL HH) xs (up (stL ja) k))/\Same H HH;refine Ec J0 ⟨_,_,rq,⟨[],Ab,.nil⟩,n1⟩ (λk U HH hk h=>?_) (fun U HH h=>?_)
 ·obtain⟨u2,u3,rfl,⟨xs,e1,e2⟩,sm⟩:=h;have hwk:ws[k]?=some ws[k]:=Qam hk;obtain⟨ps,hps,t,vs',ev,ht,hpp⟩:=Paired.Ck f3 hwk;have lv:=Qcd hpp;have hkl:k < ja.length:=by omega
  have okl:=ok.ok ps (QaI hps);have l12:=okl.hi;have est:stL ja k=⟨k,0,0⟩::up (st1 k ps) ps.length:=CW hps;have Od:atI ws ((0:Int)+(k:Int))=some (.ref t):=by rw[Qcu];exact DY (by rw[hwk,ev])
  have lx:=Qcd e2;have lst:=Ek (Wt ok) k;refine⟨_,rq,.inl ⟨rq,_,SqL.of e1⟩,_,rq,Av (by show 3<=1000;decide),λta hta=>?_⟩;rw[Qcu];have a1:=Ag hta (.tup [.int (k:Int),.int 0,.int 0]);have e1a:=a1 _ _ e1;refine⟨l,_,_,rq,rq,e1a,Ar (by omega),?_⟩;have ntl:∀zs,(upd HH ta (.tup [.int (k:Int),.int 0,.int 0])) l≠some (.tup zs):=λzs z=>by rw[e1a] at z;cases z
  have sL:=Am.upd (o:=.lst (xs++[.ref ta])) ntl;have p2:Paired (BL (upd (upd HH ta (.tup [.int (k:Int),.int 0,.int 0])) l (.lst (xs++[.ref ta])))) (xs++[.ref ta]) (up (stL ja) k++[⟨k,0,0⟩]):=Qcy ⟨ta,rq,sL _ _ Ab⟩ (Paired.Ax e2 λ_ _ z=>(z.tups (Am.of a1)).tups sL);have hl2:(upd (upd HH ta (.tup [.int (k:Int),.int 0,.int 0])) l (.lst (xs++[.ref ta]))) l=_:=Ab;have sm2:Same H (upd (upd HH ta (.tup [.int (k:Int),.int 0,.int 0])) l (.lst (xs++[.ref ta]))):=(sm.trans a1).Bl Ai.upd hl;generalize upd (upd HH ta (.tup [.int (k:Int),.int 0,.int 0])) l (.lst (xs++[.ref ta]))=H2 at *;rw[Qcu] at Od;refine⟨_,rq,pl,_,_,_,rq,rq,SqT.of (sm2 _ _ f1),rq,_,rq,Ls,_,_,_,rq,rq,SqT.of (sm2 _ _ f2),Od,t,_,rq,.inr (SqT.of (sm2 _ _ ht)),_,rq,by omega,by omega,?_⟩;rw[Qbo];let J1:YN:=λj U HJ=>∃u3,U=[jp pl,jp l,some (.int (k:Int)),u3]/\(∃ys,HJ l=some (.lst ys)/\Paired (BL HJ) ys ((up (stL ja) k++[⟨k,0,0⟩])++up (st1 k ps) j))/\Same H HJ;refine Ec J1 ⟨_,rq,⟨_,hl2,by rw[M6,QbK];exact p2⟩,sm2⟩ (λj U HJ hj h=>?_) (fun U HJ h=>?_)
  ·obtain⟨u3,rfl,⟨ys,hyj,pj⟩,sj⟩:=h;have hvj:vs'[j]?=some vs'[j]:=Qam hj;obtain⟨p,hp,tp,ua,wp',ep,hp1,hp2,hp3⟩:=Paired.Ck hpp hvj;have okp:=okl.ok p (QaI hp);have ej:st1 k ps j=(List.range (p.spur.length+1)).map λn:Nat=>⟨(k:Int),((1+j:Nat):Int),(n:Int)⟩:=CW hp;have ur:atI vs' ((0:Int)+(j:Int))=some (.ref tp):=by rw[Qcu];exact DY (by rw[hvj,ep])
   have lj:=Ek (Wu (lp:=k) okl.ok) j;have lys:=Qcd pj;rw[QaU,QaU,QaF] at lys;have lwp:=Qcd hp3;have hsp:=okp.spur;refine⟨_,rq,.inl ⟨rq,_,SqL.of hyj⟩,_,rq,pl,_,_,_,rq,rq,SqT.of (sj _ _ f1),rq,_,rq,Ls,_,_,_,rq,rq,SqT.of (sj _ _ f2),Od,_,rq,t,_,_,_,rq,rq,SqT.of (sj _ _ ht),ur,tp,_,_,_,rq,rq,SqT.of (sj _ _ hp1),rq,ua,_,rq,.inr (SqT.of (sj _ _ hp2)),_,_,rq,rq,_,rq,by omega,by omega,λl2 hl3=>?_⟩;rw[show ((wp'.length:Int)+1).toNat=p.spur.length+1 by omega];let J2:YN:=λn U HC=>∃(u:Option V) (zs:YG),U=[u,some (.int (k:Int)),some (.int ((0:Int)+(j:Int)))]/\HC l2=some (.lst zs)/\Same HJ HC/\Paired (BL HC) zs ((List.range n).map λn:Nat=>⟨(k:Int),((1+j:Nat):Int),(n:Int)⟩);refine Kp J2 ⟨none,[],rq,Ab,Ag hl3 _,.nil⟩ (λn U HC hn h=>?_) (fun U HC h=>?_)
   ·obtain⟨u,zs,rfl,c1,c2,c3⟩:=h;refine⟨_,rq,_,rq,_,_,rq,rq,_,rq,Av (by show 3<=1000;decide),λtq htq=>?_⟩;rw[show (λi j:Int=>V.int (i+j)) ((0:Int)+(j:Int)) 1=V.int ((1+j:Nat):Int) from congrArg V.int (by omega)]
    have s3:=Ag htq (.tup [.int (k:Int),.int ((1+j:Nat):Int),.int (0+(n:Int))]);have c1':=s3 _ _ c1;have lz:=Qcd c3;rw[QbH,Qbu] at lz;have n1:∀zs',(upd HC tq (.tup [.int (k:Int),.int ((1+j:Nat):Int),.int (0+(n:Int))])) l2≠some (.tup zs'):=λzs' z=>by rw[c1'] at z;cases z
    have t4:=Am.upd (o:=.lst (zs++[.ref tq])) n1;refine⟨_,c1',Ar (by omega),_,zs++[.ref tq],rq,Ab,(c2.trans s3).Bl Ai.upd hl3,?_⟩;rw[List.range_succ,QbI];refine Qcy ⟨tq,rq,?_⟩ (Paired.Ax c3 λ_ _ z=>(z.tups (Am.of s3)).tups t4);refine t4 _ _ ?_;rw[Ab,Qcu]
   obtain⟨u,zs,rfl,c1,c2,c3⟩:=h;have lz:=Qcd c3;rw[QbH,Qbu] at lz;have hyC:=c2 _ _ hyj;refine⟨l,l2,_,_,rq,rq,hyC,c1,Av (by omega),?_⟩;have n2:∀zs',HC l≠some (.tup zs'):=λzs' z=>by rw[hyC] at z;cases z
   have t5:=Am.upd (o:=.lst (ys++zs)) n2;refine⟨_,rq,⟨ys++zs,Ab,?_⟩,(sj.trans c2).Bl Ai.upd hl⟩;rw[Dn,ej,<-Qbm];exact Paired.app (Paired.Ax pj λ_ _ z=>(z.tups (Am.of c2)).tups t5) (Paired.Ax c3 λ_ _ z=>z.tups t5)
  obtain⟨u3,rfl,⟨ys,hyj,pj⟩,sj⟩:=h;rw[lv] at pj;refine⟨_,_,rq,⟨ys,hyj,?_⟩,sj⟩;rw[Dn,est,show up (stL ja) k++(⟨k,0,0⟩::up (st1 k ps) ps.length)=(up (stL ja) k++[⟨k,0,0⟩])++up (st1 k ps) ps.length from by simp only[Qbm,QbG,QbX]]
  exact pj
 ·obtain⟨u2,u3,rfl,⟨xs,e1,e2⟩,sm⟩:=h;rw[lw] at e2;exact⟨_,rq,q l xs HH hl e1 e2 sm⟩
end
abbrev U0:Stmt:=top 54
abbrev N6:YF:=["_law_plan_here","_law_hows","_law_stops","_law_loop_here","_law_place","_law_step"]
theorem Em:Ba ["_law_plan_here","_law_hows","_law_stops","_law_loop_here","_law_place","_law_step","_law_places","_law_short","_law_spots","_law_at","_law_how","_law_way"] N6 (Ak U0):=by ac_rfl
def Cv (hw:YR) (s:Sp3):Str:=((hw.find? λx=>decide (x.1=s)).map (·.2)).getD "whole"
theorem bU (hw:YR) (s:Sp3):(CV (stV hw) (k3 s)).getD (.str "whole")=.str (Cv hw s):=by
 rw[Ti];unfold Cv;cases hw.find? λx=>decide (x.1=s) <;> rfl
def inG (sp:YT) (g:Gt):Bool:=(CV (gpV sp) (k2 g)).isSome
def bS (z:Str):Bool:=decide (V.str z=V.str "short")
def CZ (hw:YR) (lp a:Int):Nat->Nat->Bool->Bool×YV
 | 0,_,b=>(b,[])
 | f+1,n,b=>if Cv hw ⟨lp,a,(n:Int)⟩="cut" then (b,[]) else ((CZ hw lp a f (n+1) (b || bS (Cv hw ⟨lp,a,(n:Int)⟩))).1,⟨lp,a,(n:Int)⟩::(CZ hw lp a f (n+1) (b || bS (Cv hw ⟨lp,a,(n:Int)⟩))).2)
def spN (ps:List Place) (a:Int):Nat:=(ps[(a - 1).toNat]?.map λp=>p.spur.length).getD 0
def Gq (hw:YR) (sp:YT) (ps:List Place) (lp st:Int):Nat->Int->Bool->Bool×YV
 | 0,_,b=>(b,[])
 | f+1,a,b=>if Cv hw ⟨lp,Bd a (a - st),0⟩="cut" then (b,[]) else
  if a=0\/(ps.length:Int) < a then (b || bS (Cv hw ⟨lp,Bd a (a - st),0⟩),[]) else
  if inG sp ⟨lp,a⟩=true then ((CZ hw lp a (spN ps a) 1 (b || bS (Cv hw ⟨lp,Bd a (a - st),0⟩))).1,⟨lp,a,0⟩::(CZ hw lp a (spN ps a) 1 (b || bS (Cv hw ⟨lp,Bd a (a - st),0⟩))).2) else
  ((Gq hw sp ps lp st f (a+st) (CZ hw lp a (spN ps a) 1 (b || bS (Cv hw ⟨lp,Bd a (a - st),0⟩))).1).1,(⟨lp,a,0⟩::(CZ hw lp a (spN ps a) 1 (b || bS (Cv hw ⟨lp,Bd a (a - st),0⟩))).2)++(Gq hw sp ps lp st f (a+st) (CZ hw lp a (spN ps a) 1 (b || bS (Cv hw ⟨lp,Bd a (a - st),0⟩))).1).2)
section
variable {hw:YR} {sp:YT} {ps:List Place} {lp st:Int} {f:Nat} {a:Int} {b:Bool}
theorem Rn (h:Cv hw ⟨lp,Bd a (a - st),0⟩="cut"):Gq hw sp ps lp st (f+1) a b=(b,[]):=if_pos h
theorem Rm (h:¬Cv hw ⟨lp,Bd a (a - st),0⟩="cut") (h2:a=0\/(ps.length:Int) < a):Gq hw sp ps lp st (f+1) a b=(b || bS (Cv hw ⟨lp,Bd a (a - st),0⟩),[]):=(if_neg h).trans (if_pos h2)
theorem Qs (h:¬Cv hw ⟨lp,Bd a (a - st),0⟩="cut") (h2:¬(a=0\/(ps.length:Int) < a)) (h3:inG sp ⟨lp,a⟩=true):Gq hw sp ps lp st (f+1) a b=((CZ hw lp a (spN ps a) 1 (b || bS (Cv hw ⟨lp,Bd a (a - st),0⟩))).1,⟨lp,a,0⟩::(CZ hw lp a (spN ps a) 1 (b || bS (Cv hw ⟨lp,Bd a (a - st),0⟩))).2):=(if_neg h).trans ((if_neg h2).trans (if_pos h3))
theorem Uz (h:¬Cv hw ⟨lp,Bd a (a - st),0⟩="cut") (h2:¬(a=0\/(ps.length:Int) < a)) (h3:¬inG sp ⟨lp,a⟩=true):Gq hw sp ps lp st (f+1) a b=((Gq hw sp ps lp st f (a+st) (CZ hw lp a (spN ps a) 1 (b || bS (Cv hw ⟨lp,Bd a (a - st),0⟩))).1).1,(⟨lp,a,0⟩::(CZ hw lp a (spN ps a) 1 (b || bS (Cv hw ⟨lp,Bd a (a - st),0⟩))).2)++(Gq hw sp ps lp st f (a+st) (CZ hw lp a (spN ps a) 1 (b || bS (Cv hw ⟨lp,Bd a (a - st),0⟩))).1).2):=(if_neg h).trans ((if_neg h2).trans (if_neg h3))
end
theorem XM (hw:YR) (lp a:Int):∀f n b,(CZ hw lp a f n b).2.length<=f
 | 0,_,_=>Qcw _
 | f+1,n,b=>by
  unfold CZ;split
  ·exact Qcx _
  ·have:=XM hw lp a f (n+1) (b || bS (Cv hw ⟨lp,a,(n:Int)⟩));show _+1<=f+1;omega
def GQ (ps:List Place) (st a:Int):Nat:=if st=1 then ((ps.length:Int)+1 - a).toNat else a.toNat
def K6 (hw:YR) (sp:YT) (ps:List Place) (lp st a:Int):Bool×YV:=Gq hw sp ps lp st (GQ ps st a) (a+st) false
theorem v9 {H0 H:Hp} {l t:Addr} {acc:YV} {s:Sp3} {xs:YG} (f:H0 l=none) (sm:Same H0 H) (hl:H l=some (.lst xs)) (hp:Paired (BL H) xs acc) (ht:H t=none) :
  (upd (upd H t (.tup [.int s.lp,.int s.at_,.int s.n])) l (.lst (xs++[.ref t]))) l=some (.lst (xs++[.ref t]))/\Paired (BL (upd (upd H t (.tup [.int s.lp,.int s.at_,.int s.n])) l (.lst (xs++[.ref t])))) (xs++[.ref t]) (acc++[s])/\Same H0 (upd (upd H t (.tup [.int s.lp,.int s.at_,.int s.n])) l (.lst (xs++[.ref t]))):=by
 have k:=Ag ht (.tup [.int s.lp,.int s.at_,.int s.n]);have e:=k _ _ hl;have nt:∀zs,(upd H t (.tup [.int s.lp,.int s.at_,.int s.n])) l≠some (.tup zs):=λzs z=>by rw[e] at z;cases z
 have sL:=Am.upd (o:=.lst (xs++[.ref t])) nt;exact⟨Ab,Qcy ⟨t,rq,sL _ _ Ab⟩ (Paired.Ax hp λ_ _ z=>(z.tups (Am.of k)).tups sL),(sm.trans k).Bl Ai.upd f⟩
def mj:Sp:=λvs H Q _=>∃(pl:Addr) (most:Int) (ja:YU) (jn:List Zone) (d e:Addr) (hw:YR) (sp:YT) (k:Nat) (ps:List Place) (a st:Int),vs=[.ref pl,.ref d,.ref e,.int (k:Int),.int a,.int st]/\Fg H pl most ja jn/\ja[k]?=some ps/\H d=some (.dT (stV hw))/\H e=some (.dT (gpV sp))/\(st=1\/st=-1)/\0<=a/\a<=(ps.length:Int)+1 /\
 ∀t l xs H',H' t=some (.tup [.bl (K6 hw sp ps k st a).1,.ref l])->H' l=some (.lst xs)->Paired (BL H') xs (K6 hw sp ps k st a).2->Same H H'->Q (.ref t) H'
def yW (i j:Nat):TE:=fun U H Q=>∃b z,U[i]?=some (some (.bl b))/\U[j]?=some (some (.str z))/\Q (.bl (b || bS z)) H
section
variable {P:Program} {w:World} {K:YD} {mg:YB} {base:Heap} {op oe kd wk C:Addr}
theorem xu (c:Code K mg "_law_walk" U0 N6) (T:Tw K mg op oe kd wk C):Good P w K mg base "_law_walk" 1 N6 mj:=by
 have sc:=Em;refine c.good Em (λvs H Q E h=>?_) (λf cdv A outer s H vs Q E hr h=>?_)
 ·obtain⟨pl,most,ja,jn,d,e,hw,sp,k,ps,a,st,rfl,_⟩:=h;rfl
 obtain⟨pl,most,ja,jn,d,e,hw,sp,k,ps,a,st,rfl,pa,hps,hd,he,hst,a0,a1,q⟩:=h;refine⟨_,(Ae (Bb (i:=6) Em.nd rfl (Or.inl rfl) (Bm BW (Bm BW (pv 0) Af (λ_ _=>rfl)) (pv 3) (λ_ _=>rfl)))
 (Ae (Bb (i:=7) Em.nd rfl (Or.inl rfl) Dm)
 (Ae (Bb (i:=8) Em.nd rfl (Or.inl rfl) (Ce Ac))
 (Ae (Cd QbL rfl (nA rfl T.range (Aa (Bj Cg (pv 4) (pv 5)) (Aa (Bm Df (Ce (Aa (QC Ni Af) (Aa (Bj Cg (Az Bh rfl T.len Cu (Aa (pv 6) Ac)) Af) Ac))) (Eb Pb rfl T.int SX (Aa (Es QG (pv 5) Af (Bq _)) Ac)) (λ_ _=>rfl)) (Aa (pv 5) Ac)))) (Aj (i:=9) Em.nd rfl (Or.inl rfl))
 (Ae (Bb (i:=10) Em.nd rfl (Or.inl rfl) (N5 (Cm hr) (pv 1) (Bg (Aa (pv 3) (Aa (Az (Ml rfl) rfl T.min SQ (Aa (pv 9) (Aa (Bj aO (pv 9) (pv 5)) Ac))) (Aa Af Ac)))) Bp ⟨rq,rq,rq,rq⟩))
 (Ae (BX (Bs Eu (pv 10) Bp (Bq _)) (Ah NK) Bv)
 (Ae (Bb (i:=7) Em.nd rfl (Or.inl rfl) (PE.weak (ta':=(yW 7 10)) (jx (pv 7) (DG (Es Eu (pv 10) Bp (Bq _)))) (fun U H Q h=>by
    obtain⟨b,z,e1,e2,q⟩:=h;refine⟨_,e1,_,rq,?_⟩;cases b with
    | true=>exact Cr q
    | false=>exact Cp ⟨_,e2,rfl,q⟩)))
 (Ae (BX (PW.pt (Lb (Bs Eu (pv 9) Af (Bq _)) (Lk (Bs QG (pv 9) (Az Bh rfl T.len Cu (Aa (pv 6) Ac)) (Bq _))))) (Ah NK) Bv)
 (Ae (Bk (Cw Qar Qan Qao Ci (pv 8) (Aa (Bg (Aa (pv 3) (Aa (pv 9) (Aa Af Ac)))) Ac)))
 (Ae (Cd QbL rfl (nC rfl T.range (Aa Af (Aa (Bj Cg (Az Bh rfl T.len Cu (Aa (Bm BW (Bm BW (pv 6) (Bj aO (pv 9) Af) (λ_ _=>rfl)) Af (λ_ _=>rfl)) Ac)) Af) Ac))) (Aj (i:=11) Em.nd rfl (Or.inl rfl))
 (Ae (Bb (i:=10) Em.nd rfl (Or.inl rfl) (N5 (Cm hr) (pv 1) (Bg (Aa (pv 3) (Aa (pv 9) (Aa (pv 11) Ac)))) Bp ⟨rq,rq,rq,rq⟩))
 (Ae (BX (Bs Eu (pv 10) Bp (Bq _)) (Ah NK) Bv)
 (Ae (Bb (i:=7) Em.nd rfl (Or.inl rfl) (PE.weak (ta':=(yW 7 10)) (jx (pv 7) (DG (Es Eu (pv 10) Bp (Bq _)))) (fun U H Q h=>by
    obtain⟨b,z,e1,e2,q⟩:=h;refine⟨_,e1,_,rq,?_⟩;cases b with
    | true=>exact Cr q
    | false=>exact Cp ⟨_,e2,rfl,q⟩)))
 (Ah (Bk (Cw Qar Qan Qao Ci (pv 8) (Aa (Bg (Aa (pv 3) (Aa (pv 9) (Aa (pv 11) Ac)))) Ac))))))))
 (Ah (BX (Kc (RL (Cm hr) (Bg (Aa (pv 3) (Aa (pv 9) Ac))) (pv 2))) (Ah NK) Bv)))))))))
 (Ah (Bc (Bg (Aa (pv 7) (Aa (pv 8) Ac))))))))),?_⟩
 show let R0:TS:=_;let R1:TS:=_;let R2:TS:=_;let R3:TS:=Al _ R2;let R4:TS:=Al _ R3;let R5:TS:=Al _ R4;let R6:TS:=Al (Dg _ _ R5) R1;let R7:TS:=Al _ R6;let R8:TS:=Al _ R7;let R9:TS:=Al _ R8;let R10:TS:=Al _ R9;let R11:TS:=Al _ R10;let R12:TS:=Al (Dg _ _ R11) R0;let R13:TS:=Al _ R12;let R14:TS:=Al _ R13;Al _ R14 _ _ _;intro R0 R1 R2 R3 R4 R5 R6 R7 R8 R9 R10 R11 R12 R13 R14;have ok:=pa.ok;obtain⟨Ls,zs,ws,zvs,f1,f2,f3,f4,f5⟩:=pa.at_;have lw:=Qcd f3;have hkl:=(Qah.mp hps).1;have hwk:ws[k]?=some ws[k]:=Qam (by omega);obtain⟨ps',Kh,t,vs',ev,ht,hpp⟩:=Paired.Ck f3 hwk;rw[hps] at Kh;cases Kh;have lv:=Qcd hpp;have okl:=ok.ok ps (QaI hps);have l12:=okl.hi;have Od:atI ws (k:Int)=some (.ref t):=DY (by rw[hwk,ev]);obtain⟨tot,htot⟩ : ∃tot,K6 hw sp ps k st a=tot:=⟨_,rfl⟩;obtain⟨n,hnn⟩ : ∃n,GQ ps st a=n:=⟨_,rfl⟩;have nE:(st=1/\(n:Int)=(ps.length:Int)+1 - a)\/(st=-1/\(n:Int)=a):=by
  rw[<-hnn];unfold GQ;rcases hst with h | h
  ·rw[if_pos h];exact .inl ⟨h,by omega⟩
  ·rw[if_neg (by omega)];exact .inr ⟨h,by omega⟩
 unfold K6 at htot;rw[hnn] at htot;have q:∀t l xs H',H' t=some (.tup [.bl tot.1,.ref l])->H' l=some (.lst xs)->Paired (BL H') xs tot.2->Same H H'->Q (.ref t) H':=by
  intro t l xs H' h1 h2 h3 h4;refine q t l xs H' ?_ h2 ?_ h4
  ·unfold K6;rw[hnn,htot];exact h1
  ·unfold K6;rw[hnn,htot];exact h3
 refine⟨_,rq,pl,_,_,_,rq,rq,SqT.of f1,rq,_,rq,Ls,_,_,_,rq,rq,SqT.of f2,Od,?_⟩;refine⟨Av (by show 0<=1000;decide),λl hl=>?_⟩;have n1:=Ag hl (.lst []);refine uw ?_;dsimp only;show Al (Dg _ _ _) _ _ _ _;refine Lj (fun U HH=>∃(u9 u10 u11:Option V) (xs:YG),U=[jp pl,jp d,jp e,some (.int (k:Int)),some (.int a),some (.int st),jp t,some (.bl tot.1),jp l,u9,u10,u11]/\HH l=some (.lst xs)/\Paired (BL HH) xs tot.2/\Same H HH) (fun U HH h=>?_) (λD' hn=>?_)
 ·obtain⟨u9,u10,u11,xs,rfl,e1,e2,e3⟩:=h;refine⟨_,rq,_,rq,Av (by show 2<=1000;decide),λtt htt=>?_⟩;have kt:=Ag htt (.tup [.bl tot.1,.ref l]);exact q tt l xs _ Ab (kt _ _ e1) (Paired.Ax e2 λ_ _ z=>z.tups (Am.of kt)) (e3.trans kt)
 have hat:∀m:Nat,atI [V.int (-1),V.int ((m:Int)+2)] (if decide (0 < st)=true then 1 else 0)=some (.int (if st=1 then (m:Int)+2 else -1)):=λm=>by
  rcases hst with rfl | rfl <;> rfl
 refine⟨_,rq,_,rq,_,_,rq,rq,_,rq,_,rq,t,_,rq,.inr (SqT.of (n1 _ _ ht)),_,_,rq,rq,Av (by show 2<=1000;decide),λlr hlr=>?_⟩;have n2:=Ag hlr (.lst [V.int (-1),V.int ((vs'.length:Int)+2)]);have e1:=n2 _ _ (Ab (H:=H) (a:=l) (o:=.lst []));refine⟨_,rq,_,_,rq,rq,.inr ⟨_,rq,lr,_,_,_,rq,rq,SqL.of Ab,hat vs'.length,_,rq,_,_,_,rq,hst,?_,?_⟩⟩
 ·rcases hst with h | h
  ·rw[h,if_pos rfl];omega
  ·rw[h,if_neg (by decide)];omega
 have hnr:(if st=1 then ((if st=1 then (vs'.length:Int)+2 else -1) - (a+st)).toNat else (a+st - (if st=1 then (vs'.length:Int)+2 else -1)).toNat)=n:=by
  rcases nE with⟨h,h'⟩|⟨h,h'⟩
  ·rw[if_pos h,if_pos h,h,lv];omega
  ·rw[if_neg (by omega),if_neg (by omega),h];omega
 rw[hnr];have sm1:=n1.trans n2;generalize upd (upd H l (.lst [])) lr _=H1 at *;let J0:YN:=λi U HH=>∃(b:Bool) (acc:YV) (x:Int) (u9 u10 u11:Option V) (xs:YG),x=a+st+(i:Int)*st/\U=[jp pl,jp d,jp e,some (.int (k:Int)),some (.int a),some (.int st),jp t,some (.bl b),jp l,u9,u10,u11]/\HH l=some (.lst xs)/\Paired (BL HH) xs acc/\Same H HH/\acc.length<=4*i/\(Gq hw sp ps k st (n - i) x b).1=tot.1/\acc++(Gq hw sp ps k st (n - i) x b).2=tot.2;refine j7 J0 ⟨false,[],a+st,_,_,_,[],by simp,rq,e1,.nil,sm1,Qcw _,by rw[<-htot];rfl,by rw[<-htot];rfl⟩ (λi U HH hi h=>?_) (fun U HH h=>?_)
 ·obtain⟨b,acc,x,u9,u10,u11,xs,hx,rfl,e1,e2,sm,la,w1,w2⟩:=h;obtain⟨m,hm⟩ : ∃m,n - i=m+1:=⟨n - i - 1,by omega⟩;have hm':n - (i+1)=m:=by omega
  rw[hm] at w1 w2;rw[<-hx];have N0:0<=x/\x<=(ps.length:Int)+1:=by
   rcases nE with⟨h1,h2⟩|⟨h1,h2⟩
   ·rw[h1] at hx;omega
   ·rw[h1] at hx;omega
  have Op:i<=13:=by
   rcases nE with⟨h1,h2⟩|⟨h1,h2⟩ <;> omega
  have lxs:=Qcd e2;refine⟨_,rq,d,rq,.inr ⟨_,.inl (sm _ _ hd)⟩,_,rq,_,rq,_,rq,_,rq,_,_,rq,rq,_,_,rq,Av (by show 3<=1000;decide),λtk htk=>?_⟩;rw[show (if x - st < x then x - st else x)=Bd x (x - st) from rfl]
  have k1:=Ag htk (.tup [.int (k:Int),.int (Bd x (x - st)),.int 0]);have gg:Dj (upd HH tk (.tup [.int (k:Int),.int (Bd x (x - st)),.int 0])) d (.ref tk) (CV (stV hw) (k3 ⟨(k:Int),Bd x (x - st),0⟩)):=.inr ⟨_,_,tk,.inl ((sm.trans k1) _ _ hd),rq,Ab,rq⟩;refine⟨_,gg,?_⟩;dsimp only;rw[bU];have e1k:=k1 _ _ e1;have e2k:Paired (BL (upd HH tk (.tup [.int (k:Int),.int (Bd x (x - st)),.int 0]))) xs acc:=Paired.Ax e2 λ_ _ z=>z.tups (Am.of k1);have smk:=sm.trans k1;generalize upd HH tk (.tup [.int (k:Int),.int (Bd x (x - st)),.int 0])=HK at *;refine⟨_,rq,rq,_,rq,Gn (λhc=>?_) (λhc=>?_)⟩
  ·have uq:Cv hw ⟨(k:Int),Bd x (x - st),0⟩="cut":=V.str.inj (Qbp hc);rw[Rn uq] at w1 w2;have et:tot=(b,acc):=Prod.ext w1.symm (by rw[<-w2,QbK]);subst et;exact hn _ _ ⟨_,_,_,xs,rq,e1k,e2k,smk⟩
  have hnc:¬Cv hw ⟨(k:Int),Bd x (x - st),0⟩="cut":=λz=>of_decide_eq_false hc (by rw[z]);refine⟨b,_,rq,rq,?_⟩;have brk:(x=0\/(ps.length:Int) < x)->tot=(b || bS (Cv hw ⟨(k:Int),Bd x (x - st),0⟩),acc):=λhh=>by
   rw[Rm hnc hh] at w1 w2;exact Prod.ext w1.symm (by rw[<-w2,QbK])
  refine⟨_,rq,rq,_,rq,Gn (λh0=>?_) (λh0=>⟨_,rq,_,rq,t,_,rq,.inr (SqT.of (smk _ _ ht)),_,_,rq,rq,_,rq,Gn (λh1=>?_) (λh1=>?_)⟩)⟩
  ·have et:=brk (.inl (V.int.inj (Qbp h0)));subst et;exact Cr (hn _ _ ⟨_,_,_,xs,rq,e1k,e2k,smk⟩)
  ·have et:=brk (.inr (by rw[<-lv];exact Qbp h1));subst et;exact hn _ _ ⟨_,_,_,xs,rq,e1k,e2k,smk⟩
  have hx':¬(x=0\/(ps.length:Int) < x):=by
   rintro (z | z)
   ·exact of_decide_eq_false h0 (by rw[z])
   ·exact of_decide_eq_false h1 (by rw[lv];exact z)
  obtain⟨j,hj,hjl⟩ : ∃j:Nat,x=(j:Int)+1/\j < ps.length:=⟨(x - 1).toNat,by omega,by omega⟩;have hvj:vs'[j]?=some vs'[j]:=Qam (by omega);obtain⟨p,hp,tp,ua,wp',ep,hp1,hp2,hp3⟩:=Paired.Ck hpp hvj;have okp:=okl.ok p (QaI hp);have N1:=okp.spur;have lwp:=Qcd hp3;have bR:spN ps x=p.spur.length:=by
   unfold spN;rw[show (x - 1).toNat=j by omega,hp];rfl
  generalize hr1:CZ hw k x (spN ps x) 1 (b || bS (Cv hw ⟨(k:Int),Bd x (x - st),0⟩))=r at *;have lr:r.2.length<=3:=by
   rw[<-hr1];have:=XM hw k x (spN ps x) 1 (b || bS (Cv hw ⟨(k:Int),Bd x (x - st),0⟩));omega
  have e3k:=e1k;refine⟨_,rq,.inl ⟨rq,_,SqL.of e1k⟩,_,rq,_,rq,Av (by show 3<=1000;decide),λtq htq=>⟨l,_,_,rq,rq,(Ag htq _) _ _ e1k,Ar (by omega),?_⟩⟩;obtain⟨g1,g2,g3⟩:=v9 (s:=⟨(k:Int),x,0⟩) hl smk e1k e2k htq;generalize upd (upd HK tq (.tup [.int (k:Int),.int x,.int 0])) l (.lst (xs++[.ref tq]))=HQ at *;dsimp only;show Al (Dg _ _ _) _ _ _ _;refine Lj (fun U HI=>∃(u10 u11:Option V) (ys:YG),U=[jp pl,jp d,jp e,some (.int (k:Int)),some (.int a),some (.int st),jp t,some (.bl r.1),jp l,some (.int x),u10,u11]/\HI l=some (.lst ys)/\Paired (BL HI) ys (acc++⟨(k:Int),x,0⟩::r.2)/\Same H HI) (fun U HI h=>?_) (λD2 hn2=>?_)
  ·obtain⟨u10,u11,ys,rfl,i1,i2,i3⟩:=h;refine⟨_,rq,_,rq,Av (by show 2<=1000;decide),λtg htg=>?_⟩;have k2':=Ag htg (.tup [.int (k:Int),.int x]);have i1':=k2' _ _ i1;have i2':Paired (BL (upd HI tg (.tup [.int (k:Int),.int x]))) ys (acc++⟨(k:Int),x,0⟩::r.2):=Paired.Ax i2 λ_ _ z=>z.tups (Am.of k2');have i3':=i3.trans k2';have gg2:Dj (upd HI tg (.tup [.int (k:Int),.int x])) e (.ref tg) (CV (gpV sp) (k2 ⟨(k:Int),x⟩)):=.inr ⟨_,_,tg,.inl (i3' _ _ he),rq,Ab,rq⟩;generalize upd HI tg (.tup [.int (k:Int),.int x])=HJ at *;refine⟨_,rq,e,_,rq,gg2,_,rq,Gn (λhg=>?_) (λhg=>?_)⟩
   ·rw[Qs hnc hx' hg,hr1] at w1 w2;have et:tot=(r.1,acc++⟨(k:Int),x,0⟩::r.2):=Prod.ext w1.symm w2.symm;subst et;exact hn _ _ ⟨_,_,_,ys,rq,i1',i2',i3'⟩
   ·rw[Uz hnc hx' (by unfold inG;rw[hg];decide),hr1] at w1 w2;refine⟨r.1,_,x+st,_,_,_,ys,?_,rq,i1',i2',i3',?_,?_,?_⟩
    ·rw[hx,Int.natCast_add,Int.add_mul,show ((1:Nat):Int)=1 from rfl,Int.one_mul]
     omega
    ·rw[QaU,Qby];omega
    ·rw[hm'];exact w1
    ·rw[hm',<-w2];simp only[Qbm]
  have ur:atI vs' (x - 1)=some (.ref tp):=by rw[show x - 1=(j:Int) by omega];exact DY (by rw[hvj,ep])
  refine⟨_,rq,_,rq,_,_,rq,rq,t,_,_,_,rq,rq,SqT.of (g3 _ _ ht),ur,tp,_,_,_,rq,rq,SqT.of (g3 _ _ hp1),rq,ua,_,rq,.inr (SqT.of (g3 _ _ hp2)),_,_,rq,rq,_,_,rq,⟨by decide,by decide,by omega,by omega⟩,?_⟩;rw[show ((wp'.length:Int)+1 - 1).toNat=p.spur.length by omega];rw[bR] at hr1;let J1:YN:=λjj U HI=>∃(b':Bool) (acc':YV) (u10 u11:Option V) (ys:YG),U=[jp pl,jp d,jp e,some (.int (k:Int)),some (.int a),some (.int st),jp t,some (.bl b'),jp l,some (.int x),u10,u11]/\HI l=some (.lst ys)/\Paired (BL HI) ys acc'/\Same H HI/\acc'.length<=4*i+1+jj/\(CZ hw k x (p.spur.length - jj) (1+jj) b').1=r.1/\acc'++(CZ hw k x (p.spur.length - jj) (1+jj) b').2=acc++⟨(k:Int),x,0⟩::r.2;refine Ec J1 ⟨_,_,_,_,_,rq,g1,g2,g3,by rw[QaU];show _+1<=_;omega,by rw[<-hr1];rfl,by rw[<-hr1];simp only[Qbm,QbG,QbX];rfl⟩ (λjj U HI hjj h=>?_) (fun U HI h=>?_)
  ·obtain⟨b',acc',u10,u11,ys,rfl,i1,i2,i3,i4,i5,i6⟩:=h;obtain⟨m2,hm2⟩ : ∃m2,p.spur.length - jj=m2+1:=⟨p.spur.length - jj - 1,by omega⟩;have hm2':p.spur.length - (jj+1)=m2:=by omega
   rw[hm2] at i5 i6;have lys:=Qcd i2;rw[show (1:Int)+(jj:Int)=((1+jj:Nat):Int) by omega];refine⟨_,rq,d,rq,.inr ⟨_,.inl (i3 _ _ hd)⟩,_,rq,_,rq,_,rq,Av (by show 3<=1000;decide),λtk2 Hk=>?_⟩;have k1:=Ag Hk (.tup [.int (k:Int),.int x,.int ((1+jj:Nat):Int)]);have gg3:Dj (upd HI tk2 (.tup [.int (k:Int),.int x,.int ((1+jj:Nat):Int)])) d (.ref tk2) (CV (stV hw) (k3 ⟨(k:Int),x,((1+jj:Nat):Int)⟩)):=.inr ⟨_,_,tk2,.inl ((i3.trans k1) _ _ hd),rq,Ab,rq⟩;refine⟨_,gg3,?_⟩;dsimp only;rw[bU];have i1k:=k1 _ _ i1;have i2k:Paired (BL (upd HI tk2 (.tup [.int (k:Int),.int x,.int ((1+jj:Nat):Int)]))) ys acc':=Paired.Ax i2 λ_ _ z=>z.tups (Am.of k1);have i3k:=i3.trans k1;generalize upd HI tk2 (.tup [.int (k:Int),.int x,.int ((1+jj:Nat):Int)])=HK2 at *;refine⟨_,rq,rq,_,rq,Gn (λhc2=>?_) (λhc2=>?_)⟩
   ·have uq:Cv hw ⟨(k:Int),x,((1+jj:Nat):Int)⟩="cut":=V.str.inj (Qbp hc2);rw[show CZ hw k x (m2+1) (1+jj) b'=(b',[]) from if_pos uq] at i5 i6
    have e5:b'=r.1:=i5;have e6:acc'=acc++⟨(k:Int),x,0⟩::r.2:=by rw[<-i6,QbK]
    rw[<-e5,<-e6] at hn2;exact hn2 _ _ ⟨_,_,ys,rq,i1k,i2k,i3k⟩
   have HR:¬Cv hw ⟨(k:Int),x,((1+jj:Nat):Int)⟩="cut":=λz=>of_decide_eq_false hc2 (by rw[z]);refine⟨b',_,rq,rq,?_⟩;refine⟨_,rq,.inl ⟨rq,_,SqL.of i1k⟩,_,rq,_,rq,_,rq,Av (by show 3<=1000;decide),λtr htr=>⟨l,_,_,rq,rq,(Ag htr _) _ _ i1k,Ar (by omega),?_⟩⟩;obtain⟨g1',g2',g3'⟩:=v9 (s:=⟨(k:Int),x,((1+jj:Nat):Int)⟩) hl i3k i1k i2k htr;rw[show CZ hw k x (m2+1) (1+jj) b'=((CZ hw k x m2 (1+jj+1) (b' || bS (Cv hw ⟨(k:Int),x,((1+jj:Nat):Int)⟩))).1,⟨(k:Int),x,((1+jj:Nat):Int)⟩::(CZ hw k x m2 (1+jj+1) (b' || bS (Cv hw ⟨(k:Int),x,((1+jj:Nat):Int)⟩))).2) from if_neg HR] at i5 i6
   refine⟨_,_,_,_,_,rq,g1',g2',g3',by rw[QaU];show _+1<=_;omega,?_,?_⟩
   ·rw[hm2'];exact i5
   ·rw[hm2',<-i6];simp only[Qbm,QbG,QbX];rfl
  ·obtain⟨b',acc',u10,u11,ys,rfl,i1,i2,i3,i4,i5,i6⟩:=h;rw[Nat.sub_self] at i5 i6;have e5:b'=r.1:=i5;have e6:acc'=acc++⟨(k:Int),x,0⟩::r.2:=by rw[<-i6];unfold CZ;rw[QbK]
   rw[<-e5,<-e6] at hn2;exact hn2 _ _ ⟨_,_,ys,rq,i1,i2,i3⟩
 ·obtain⟨b,acc,x,u9,u10,u11,xs,hx,rfl,e1,e2,sm,la,w1,w2⟩:=h;rw[Nat.sub_self] at w1 w2;have et:tot=(b,acc):=Prod.ext w1.symm (by rw[<-w2];unfold Gq;rw[QbK]);subst et;exact hn _ _ ⟨_,_,_,xs,rq,e1,e2,sm⟩
end
def Qc (hs hw:YR):Prop:=∀s∈hs.map (·.1),stC hs s=Cv hw s
def kY (gs sp:YT):Prop:=∀g,gpC gs g=inG sp g
theorem Kf {ja:YU} {k:Nat} {ps:List Place} (hps:ja[k]?=some ps) {a n:Int}:(⟨(k:Int),a,n⟩ : Sp3)∈up (stL ja) ja.length ↔ (a=0/\n=0)\/∃(j:Nat) (p:Place),ps[j]?=some p/\a=((1+j:Nat):Int)/\0<=n/\n<=(p.spur.length:Int):=by
 have hkl:=(Qah.mp hps).1;constructor
 ·intro h;obtain⟨i,hi,h⟩:=Gs h;obtain⟨ps',Kh,h⟩:=GJ h;rcases Qce.mp h with h | h
  ·injection h with e1 e2 e3;exact .inl ⟨e2,e3⟩
  ·obtain⟨j,hj,h⟩:=Gs h;obtain⟨p,hp,h⟩:=GJ h;obtain⟨m,hm,e⟩:=Qcn.mp h;injection e with e1 e2 e3;have:i=k:=by omega
   subst this;rw[hps] at Kh;cases Kh;have:=Qcb.mp hm;exact .inr ⟨j,p,hp,e2.symm,by omega,by omega⟩
 ·rintro (⟨rfl,rfl⟩|⟨j,p,hp,rfl,n0,n1⟩)
  ·exact Om (i:=k) (by unfold stL;rw[CW hps];exact QaV ..) hkl
  ·refine Om (i:=k) ?_ hkl;unfold stL;rw[CW hps];refine QaJ _ (Om (i:=j) ?_ (Qah.mp hp).1);unfold st1;rw[CW hp];exact Qcn.mpr ⟨n.toNat,Qcb.mpr (by omega),by rw[QaT n0]⟩
theorem K7 (hs:YR) (s:Sp3) (ws:YV):CP hs (s::ws)=(bS (stC hs s) || CP hs ws):=rfl
theorem jh (hs:YR) (ws vs:YV):CP hs (ws++vs)=(CP hs ws || CP hs vs):=List.any_append ..
section
variable {ja:YU} {k:Nat} {ps:List Place} {hs hw:YR} {gs sp:YT} {st:Int}
theorem UJ (hps:ja[k]?=some ps) (hk:hs.map (·.1)=up (stL ja) ja.length) (rh:Qc hs hw) {j:Nat} {p:Place} (hp:ps[j]?=some p):∀(f n F:Nat) (b:Bool),1<=n->n+f=p.spur.length+1->f<=F->CZ hw k ((1+j:Nat):Int) f n b=(b || CP hs (Dw hs k ((1+j:Nat):Int) F n),Dw hs k ((1+j:Nat):Int) F n)
 | 0,n,F,b,n1,e,hF=>by
  have hz:Dw hs k ((1+j:Nat):Int) F n=[]:=by
   cases F with
   | zero=>rfl
   | succ F=>
    refine if_pos (Li λh=>?_);rw[hk,Kf hps] at h;rcases h with⟨h1,_⟩|⟨j',p',hp',e1,_,e3⟩
    ·omega
    ·have:j'=j:=by omega
     subst this;rw[hp] at hp';cases hp';omega
  rw[hz];show (b,[])=(b || false,[]);rw[Qcl]
 | f+1,n,F+1,b,n1,e,hF=>by
  have hin:(⟨(k:Int),((1+j:Nat):Int),(n:Int)⟩ : Sp3)∈hs.map (·.1):=by
   rw[hk,Kf hps];exact .inr ⟨j,p,hp,rq,by omega,by omega⟩
  have eh:=rh _ hin;by_cases hc:Cv hw ⟨(k:Int),((1+j:Nat):Int),(n:Int)⟩="cut"
  ·have e1:CZ hw k ((1+j:Nat):Int) (f+1) n b=(b,[]):=if_pos hc;have e2:Dw hs k ((1+j:Nat):Int) (F+1) n=[]:=if_pos (by rw[eh];exact hc);rw[e1,e2];show (b,[])=(b || false,[]);rw[Qcl]
  ·have e1:CZ hw k ((1+j:Nat):Int) (f+1) n b=((CZ hw k ((1+j:Nat):Int) f (n+1) (b || bS (Cv hw ⟨(k:Int),((1+j:Nat):Int),(n:Int)⟩))).1,⟨(k:Int),((1+j:Nat):Int),(n:Int)⟩::(CZ hw k ((1+j:Nat):Int) f (n+1) (b || bS (Cv hw ⟨(k:Int),((1+j:Nat):Int),(n:Int)⟩))).2):=if_neg hc;have e2:Dw hs k ((1+j:Nat):Int) (F+1) n=⟨(k:Int),((1+j:Nat):Int),(n:Int)⟩::Dw hs k ((1+j:Nat):Int) F (n+1):=if_neg (by rw[eh];exact hc);rw[e1,e2,UJ hps hk rh hp f (n+1) F _ (by omega) (by omega) (by omega),K7,eh,Bool.or_assoc]
theorem qI (hps:ja[k]?=some ps) (okl:OkL ps) (hk:hs.map (·.1)=up (stL ja) ja.length) (rh:Qc hs hw) (rg:kY gs sp) (hst:st=1\/st=-1):∀(m F:Nat) (a:Int) (b:Bool),0<=a->a<=(ps.length:Int)+1->m=GQ ps st a->m < F->(Gq hw sp ps k st m (a+st) b).1=(b || CP hs (Bf hs gs k st F a).1):=by
 have aN:∀(x:Int) (F:Nat),(st=1/\x=(ps.length:Int)+1)\/(st=-1/\x=0)->(Bf hs gs k st F x).1=[]:=λx F hx=>by
  cases F with
  | zero=>rfl
  | succ F=>
   have hc:stC hs ⟨(k:Int),Bd x (x+st),0⟩="cut":=Li λh=>by
    rw[hk,Kf hps] at h;rcases hx with⟨h1,h2⟩|⟨h1,h2⟩
    ·rw[h1,h2,show Bd ((ps.length:Int)+1) ((ps.length:Int)+1+1)=(ps.length:Int)+1 from if_neg (by omega)] at h
     rcases h with⟨h3,_⟩|⟨j,p,hp,e1,_⟩
     ·omega
     ·have:=(Qah.mp hp).1;omega
    ·rw[h1,h2] at h;rcases h with⟨h3,_⟩|⟨j,p,hp,e1,_⟩
     ·exact absurd h3 (by decide)
     ·rw[show Bd 0 (0+-1)=-1 from rfl] at e1
      omega
   rw[show Bf hs gs k st (F+1) x=([],[]) from if_pos hc]
 intro m
 induction m with
 | zero=>
  intro F a b a0 a1 hm hF;rw[aN a F (by
   unfold GQ at hm;rcases hst with h | h
   ·rw[if_pos h] at hm;exact .inl ⟨h,by omega⟩
   ·rw[if_neg (by omega)] at hm;exact .inr ⟨h,by omega⟩)]
  show b=(b || false);rw[Qcl]
 | succ m ih=>
  intro F a b a0 a1 hm hF;obtain⟨F,rfl⟩ : ∃F',F=F'+1:=⟨F - 1,by omega⟩;have hN:(st=1/\a<=(ps.length:Int))\/(st=-1/\1<=a):=by
   unfold GQ at hm;rcases hst with h | h
   ·rw[if_pos h] at hm;exact .inl ⟨h,by omega⟩
   ·rw[if_neg (by omega)] at hm;exact .inr ⟨h,by omega⟩
  have hN':m=GQ ps st (a+st):=by
   unfold GQ at hm ⊢;rcases hst with h | h
   ·rw[if_pos h] at hm ⊢;omega
   ·rw[if_neg (by omega)] at hm ⊢;omega
  have emin:Bd (a+st) (a+st - st)=Bd a (a+st):=by
   unfold Bd;rcases hst with h | h
   ·rw[h,if_pos (by omega),if_neg (by omega)];omega
   ·rw[h,if_neg (by omega),if_pos (by omega)]
  have hmin:(st=1/\Bd a (a+st)=a)\/(st=-1/\Bd a (a+st)=a - 1):=by
   unfold Bd;rcases hst with h | h
   ·rw[h,if_neg (by omega)];exact .inl ⟨rq,rq⟩
   ·rw[h,if_pos (by omega)];exact .inr ⟨rq,by omega⟩
  have hin:(⟨(k:Int),Bd a (a+st),0⟩ : Sp3)∈hs.map (·.1):=by
   rw[hk,Kf hps];by_cases h0:Bd a (a+st)=0
   ·exact .inl ⟨h0,rq⟩
   ·have hb:1<=Bd a (a+st)/\Bd a (a+st)<=(ps.length:Int):=by
     rcases hN with⟨h1,h2⟩|⟨h1,h2⟩ <;> rcases hmin with⟨h3,h4⟩|⟨h3,h4⟩ <;> omega
    have hl:(Bd a (a+st) - 1).toNat < ps.length:=by omega
    exact .inr ⟨_,_,Qam hl,by omega,by omega,by omega⟩
  have eh:=rh _ hin;by_cases hc:Cv hw ⟨(k:Int),Bd a (a+st),0⟩="cut"
  ·rw[Rn (by rw[emin];exact hc),show Bf hs gs k st (F+1) a=([],[]) from if_pos (by rw[eh];exact hc)]
   show b=(b || false);rw[Qcl]
  have hc':¬Cv hw ⟨(k:Int),Bd (a+st) (a+st - st),0⟩="cut":=by rw[emin];exact hc
  have hcs:¬stC hs ⟨(k:Int),Bd a (a+st),0⟩="cut":=by rw[eh];exact hc
  have eC:∀g:Bool,gpC gs ⟨(k:Int),a+st⟩=g->(Bf hs gs k st (F+1) a).1=(⟨(k:Int),Bd a (a+st),0⟩::Bx hs k (a+st))++if g=true then [] else (Bf hs gs k st F (a+st)).1:=λg hg=>by
   show (if stC hs ⟨(k:Int),Bd a (a+st),0⟩="cut" then ([],[]) else if gpC gs ⟨(k:Int),a+st⟩=true then (⟨(k:Int),Bd a (a+st),0⟩::Bx hs k (a+st),⟨(k:Int),a+st,0⟩::Bx hs k (a+st)) else ((⟨(k:Int),Bd a (a+st),0⟩::Bx hs k (a+st))++(Bf hs gs k st F (a+st)).1,(⟨(k:Int),a+st,0⟩::Bx hs k (a+st))++(Bf hs gs k st F (a+st)).2)).1=_
   rw[if_neg hcs,hg];cases g with
   | true=>rw[if_pos rfl,if_pos rfl,QbK]
   | false=>rw[if_neg (by decide),if_neg (by decide)]
  by_cases hx:a+st=0\/(ps.length:Int) < a+st
  ·have ho:(st=1/\a+st=(ps.length:Int)+1)\/(st=-1/\a+st=0):=by
    rcases hN with⟨h1,h2⟩|⟨h1,h2⟩
    ·exact .inl ⟨h1,by omega⟩
    ·exact .inr ⟨h1,by omega⟩
   have hsp:Bx hs k (a+st)=[]:=by
    refine if_pos (Li λh=>?_);rw[hk,Kf hps] at h;rcases h with⟨_,h⟩|⟨j,p,hp,e1,_⟩
    ·exact absurd h (by decide)
    ·have:=(Qah.mp hp).1;omega
   rw[Rm hc' hx,emin,eC _ rfl,hsp,aN _ _ ho];show (b || bS _)=(b || CP hs ([_]++if _ then [] else []))
   rw[ite_self,QbK,K7,eh];show _=(b || (_ || false));rw[Qcl]
  ·obtain⟨j,hj,hjl⟩ : ∃j:Nat,a+st=((1+j:Nat):Int)/\j < ps.length:=⟨(a+st - 1).toNat,by omega,by omega⟩;have hp:ps[j]?=some ps[j]:=Qam hjl;have bR:spN ps (a+st)=ps[j].spur.length:=by
    unfold spN;rw[show (a+st - 1).toNat=j by omega,hp];rfl
   have h3:=(okl.ok _ (List.getElem_mem hjl)).spur;have esp:∀bb,CZ hw k (a+st) (spN ps (a+st)) 1 bb=(bb || CP hs (Bx hs k (a+st)),Bx hs k (a+st)):=λbb=>by
    rw[bR,hj];exact UJ hps hk rh hp _ 1 4 bb (Qcw _) (by omega) (by omega)
   have eg:=rg ⟨(k:Int),a+st⟩;by_cases hg:inG sp ⟨(k:Int),a+st⟩=true
   ·rw[Qs hc' hx hg,emin,esp,eC true (by rw[eg];exact hg),if_pos rfl,QbK,K7,eh,<-Bool.or_assoc]
   ·have hg':inG sp ⟨(k:Int),a+st⟩=false:=by simpa using hg
    rw[Uz hc' hx hg,emin,esp,eC false (by rw[eg];exact hg'),if_neg (by decide),jh,K7,eh];show (Gq hw sp ps k st m (a+st+st) _).1=_;rw[ih F (a+st) _ (by omega) (by omega) hN' (by omega)];simp only[Bool.or_assoc]
def inn (ps:List Place) (s:Sp3):Bool:=decide (1<=s.at_)&&decide (s.at_<=(ps.length:Int))
theorem AM {ps:List Place} {x:Int} (h1:1<=x) (h2:x<=(ps.length:Int)) {l:YV} (h:∀s∈l,s.at_=x):l.filter (inn ps)=l:=List.filter_eq_self.mpr λs hs=>by
 unfold inn;rw[h s hs,QbY h1,QbY h2];rfl
theorem Np (hs:YR) (lp a:Int):∀f n,∀s∈Dw hs lp a f n,s.at_=a/\(n:Int)<=s.n
 | 0,_,s,h=>by cases h
 | f+1,n,s,h=>by
  unfold Dw at h;split at h
  ·cases h
  ·rcases Qce.mp h with rfl | h
   ·exact⟨rq,Int.le_refl _⟩
   ·have:=Np hs lp a f (n+1) s h;exact⟨this.1,by omega⟩
theorem lZ (hps:ja[k]?=some ps) (okl:OkL ps) (hk:hs.map (·.1)=up (stL ja) ja.length) (rh:Qc hs hw) (rg:kY gs sp) (hst:st=1\/st=-1):∀(m F:Nat) (a:Int) (b:Bool),0<=a->a<=(ps.length:Int)+1->m=GQ ps st a->m < F->(Gq hw sp ps k st m (a+st) b).2=(Bf hs gs k st F a).2.filter (inn ps):=by
 have aN:∀(x:Int) (F:Nat),(st=1/\x=(ps.length:Int)+1)\/(st=-1/\x=0)->(Bf hs gs k st F x).2=[]:=λx F hx=>by
  cases F with
  | zero=>rfl
  | succ F=>
   have hc:stC hs ⟨(k:Int),Bd x (x+st),0⟩="cut":=Li λh=>by
    rw[hk,Kf hps] at h;rcases hx with⟨h1,h2⟩|⟨h1,h2⟩
    ·rw[h1,h2,show Bd ((ps.length:Int)+1) ((ps.length:Int)+1+1)=(ps.length:Int)+1 from if_neg (by omega)] at h
     rcases h with⟨h3,_⟩|⟨j,p,hp,e1,_⟩
     ·omega
     ·have:=(Qah.mp hp).1;omega
    ·rw[h1,h2] at h;rcases h with⟨h3,_⟩|⟨j,p,hp,e1,_⟩
     ·exact absurd h3 (by decide)
     ·rw[show Bd 0 (0+-1)=-1 from rfl] at e1
      omega
   rw[show Bf hs gs k st (F+1) x=([],[]) from if_pos hc]
 intro m
 induction m with
 | zero=>
  intro F a b a0 a1 hm hF;rw[aN a F (by
   unfold GQ at hm;rcases hst with h | h
   ·rw[if_pos h] at hm;exact .inl ⟨h,by omega⟩
   ·rw[if_neg (by omega)] at hm;exact .inr ⟨h,by omega⟩)]
  rfl
 | succ m ih=>
  intro F a b a0 a1 hm hF;obtain⟨F,rfl⟩ : ∃F',F=F'+1:=⟨F - 1,by omega⟩;have hN:(st=1/\a<=(ps.length:Int))\/(st=-1/\1<=a):=by
   unfold GQ at hm;rcases hst with h | h
   ·rw[if_pos h] at hm;exact .inl ⟨h,by omega⟩
   ·rw[if_neg (by omega)] at hm;exact .inr ⟨h,by omega⟩
  have hN':m=GQ ps st (a+st):=by
   unfold GQ at hm ⊢;rcases hst with h | h
   ·rw[if_pos h] at hm ⊢;omega
   ·rw[if_neg (by omega)] at hm ⊢;omega
  have emin:Bd (a+st) (a+st - st)=Bd a (a+st):=by
   unfold Bd;rcases hst with h | h
   ·rw[h,if_pos (by omega),if_neg (by omega)];omega
   ·rw[h,if_neg (by omega),if_pos (by omega)]
  have hmin:(st=1/\Bd a (a+st)=a)\/(st=-1/\Bd a (a+st)=a - 1):=by
   unfold Bd;rcases hst with h | h
   ·rw[h,if_neg (by omega)];exact .inl ⟨rq,rq⟩
   ·rw[h,if_pos (by omega)];exact .inr ⟨rq,by omega⟩
  have hin:(⟨(k:Int),Bd a (a+st),0⟩ : Sp3)∈hs.map (·.1):=by
   rw[hk,Kf hps];by_cases h0:Bd a (a+st)=0
   ·exact .inl ⟨h0,rq⟩
   ·have hb:1<=Bd a (a+st)/\Bd a (a+st)<=(ps.length:Int):=by
     rcases hN with⟨h1,h2⟩|⟨h1,h2⟩ <;> rcases hmin with⟨h3,h4⟩|⟨h3,h4⟩ <;> omega
    have hl:(Bd a (a+st) - 1).toNat < ps.length:=by omega
    exact .inr ⟨_,_,Qam hl,by omega,by omega,by omega⟩
  have eh:=rh _ hin;by_cases hc:Cv hw ⟨(k:Int),Bd a (a+st),0⟩="cut"
  ·rw[Rn (by rw[emin];exact hc),show Bf hs gs k st (F+1) a=([],[]) from if_pos (by rw[eh];exact hc)]
   rfl
  have hc':¬Cv hw ⟨(k:Int),Bd (a+st) (a+st - st),0⟩="cut":=by rw[emin];exact hc
  have hcs:¬stC hs ⟨(k:Int),Bd a (a+st),0⟩="cut":=by rw[eh];exact hc
  have eC:∀g:Bool,gpC gs ⟨(k:Int),a+st⟩=g->(Bf hs gs k st (F+1) a).2=(⟨(k:Int),a+st,0⟩::Bx hs k (a+st))++if g=true then [] else (Bf hs gs k st F (a+st)).2:=λg hg=>by
   show (if stC hs ⟨(k:Int),Bd a (a+st),0⟩="cut" then ([],[]) else if gpC gs ⟨(k:Int),a+st⟩=true then (⟨(k:Int),Bd a (a+st),0⟩::Bx hs k (a+st),⟨(k:Int),a+st,0⟩::Bx hs k (a+st)) else ((⟨(k:Int),Bd a (a+st),0⟩::Bx hs k (a+st))++(Bf hs gs k st F (a+st)).1,(⟨(k:Int),a+st,0⟩::Bx hs k (a+st))++(Bf hs gs k st F (a+st)).2)).2=_
   rw[if_neg hcs,hg];cases g with
   | true=>rw[if_pos rfl,if_pos rfl,QbK]
   | false=>rw[if_neg (by decide),if_neg (by decide)]
  have eF:∀g:Bool,gpC gs ⟨(k:Int),a+st⟩=g->(Bf hs gs k st (F+1) a).2.filter (inn ps)=(⟨(k:Int),a+st,0⟩::Bx hs k (a+st)).filter (inn ps)++if g=true then [] else (Bf hs gs k st F (a+st)).2.filter (inn ps):=λg hg=>by
   rw[eC g hg,Qbf];cases g with
   | true=>rfl
   | false=>rfl
  have at1:∀s∈(⟨(k:Int),a+st,0⟩::Bx hs k (a+st):YV),s.at_=a+st:=λs h=>by
   rcases Qce.mp h with rfl | h
   ·rfl
   ·exact (Np hs k (a+st) 4 1 s h).1
  by_cases hx:a+st=0\/(ps.length:Int) < a+st
  ·have ho:(st=1/\a+st=(ps.length:Int)+1)\/(st=-1/\a+st=0):=by
    rcases hN with⟨h1,h2⟩|⟨h1,h2⟩
    ·exact .inl ⟨h1,by omega⟩
    ·exact .inr ⟨h1,by omega⟩
   have hsp:Bx hs k (a+st)=[]:=by
    refine if_pos (Li λh=>?_);rw[hk,Kf hps] at h;rcases h with⟨_,h⟩|⟨j,p,hp,e1,_⟩
    ·exact absurd h (by decide)
    ·have:=(Qah.mp hp).1;omega
   rw[Rm hc' hx,eF _ rfl,hsp,aN _ _ ho];show []=([(⟨(k:Int),a+st,0⟩ : Sp3)].filter (inn ps))++if _ then [] else []
   rw[ite_self,QbK,Qat]
   ·rfl
   ·unfold inn;dsimp only;rcases ho with⟨_,h⟩|⟨_,h⟩
    ·rw[h,QbM (show ¬(ps.length:Int)+1<=(ps.length:Int) by omega),Bool.and_false];decide
    ·rw[h,QbM (by decide:¬(1:Int)<=0),Bool.false_and];decide
  ·obtain⟨j,hj,hjl⟩ : ∃j:Nat,a+st=((1+j:Nat):Int)/\j < ps.length:=⟨(a+st - 1).toNat,by omega,by omega⟩;have hp:ps[j]?=some ps[j]:=Qam hjl;have bR:spN ps (a+st)=ps[j].spur.length:=by
    unfold spN;rw[show (a+st - 1).toNat=j by omega,hp];rfl
   have h3:=(okl.ok _ (List.getElem_mem hjl)).spur;have esp:∀bb,CZ hw k (a+st) (spN ps (a+st)) 1 bb=(bb || CP hs (Bx hs k (a+st)),Bx hs k (a+st)):=λbb=>by
    rw[bR,hj];exact UJ hps hk rh hp _ 1 4 bb (Qcw _) (by omega) (by omega)
   have eg:=rg ⟨(k:Int),a+st⟩;have AZ:=AM (ps:=ps) (x:=a+st) (by omega) (by omega) at1;by_cases hg:inG sp ⟨(k:Int),a+st⟩=true
   ·rw[Qs hc' hx hg,esp,eF true (by rw[eg];exact hg),if_pos rfl,QbK,AZ]
   ·have hg':inG sp ⟨(k:Int),a+st⟩=false:=by simpa using hg
    rw[Uz hc' hx hg,esp,eF false (by rw[eg];exact hg'),if_neg (by decide),AZ];show _++(Gq hw sp ps k st m (a+st+st) _).2=_;rw[ih F (a+st) _ (by omega) (by omega) hN' (by omega)]
end
abbrev Dk:Stmt:=(inClass (top 45) 13)
abbrev DN:YF:=["self"]
abbrev xk:YF:=["self","lone","near","row","opener"]
theorem Dd:Ba xk DN (Ak Dk):=by ac_rfl
def lone (gs:YT):YT:=gs.map λx=>(x.1,true)
def BJ (hs:YR) (gs:YT) (g:Gt):Bool:=Dy hs (lone gs) g
def Er (hs:YR) (gs:YT):YT:=gs.map λx=>(x.1,BJ hs gs x.1)
def Hw (hs:YR) (gs:YT) (L:List Gt):YT:=L.foldl (λgs g=>setG gs g (Dy hs gs g)) gs
def cS (hs:YR) (gs:YT) (lp st:Int) (f:Nat) (a:Int):Bool:=CP hs (Bf hs gs lp st f a).1
theorem Ng {hs:YR} {gs:YT} {lp st:Int} {f:Nat} {a:Int}:cS hs gs lp st (f+1) a=true ↔ ¬stC hs ⟨lp,Bd a (a+st),0⟩="cut"/\(CP hs (⟨lp,Bd a (a+st),0⟩::Bx hs lp (a+st))=true\/gpC gs ⟨lp,a+st⟩=false/\cS hs gs lp st f (a+st)=true):=by
 unfold cS;by_cases hc:stC hs ⟨lp,Bd a (a+st),0⟩="cut"
 ·rw[show Bf hs gs lp st (f+1) a=([],[]) from if_pos hc]
  constructor
  ·intro h;cases h
  ·rintro ⟨h,_⟩;exact absurd hc h
 ·cases hg:gpC gs ⟨lp,a+st⟩ with
  | true=>
   rw[show Bf hs gs lp st (f+1) a=(⟨lp,Bd a (a+st),0⟩::Bx hs lp (a+st),⟨lp,a+st,0⟩::Bx hs lp (a+st)) from (if_neg hc).trans (if_pos hg)]
   constructor
   ·intro h;exact⟨hc,.inl h⟩
   ·rintro ⟨_,h |⟨h,_⟩⟩
    ·exact h
    ·cases h
  | false=>
   rw[show Bf hs gs lp st (f+1) a=((⟨lp,Bd a (a+st),0⟩::Bx hs lp (a+st))++(Bf hs gs lp st f (a+st)).1,(⟨lp,a+st,0⟩::Bx hs lp (a+st))++(Bf hs gs lp st f (a+st)).2) from (if_neg hc).trans (if_neg (by rw[hg];decide))]
   show CP hs (_++_)=true ↔ _;unfold CP;rw[List.any_append,Bool.or_eq_true];constructor
   ·rintro (h | h)
    ·exact⟨hc,.inl h⟩
    ·exact⟨hc,.inr ⟨rq,h⟩⟩
   ·rintro ⟨_,h |⟨_,h⟩⟩
    ·exact .inl h
    ·exact .inr h
theorem iH {hs:YR} {gs:YT} {lp st:Int}:∀{f F:Nat} {a:Int},f<=F->cS hs gs lp st f a=true->cS hs gs lp st F a=true
 | 0,_,_,_,h=>by cases h
 | f+1,F+1,a,hF,h=>by
  obtain⟨h1,h2⟩:=Ng.mp h;refine Ng.mpr ⟨h1,h2.imp id λzz=>?_⟩;obtain⟨h3,h4⟩:=zz;exact⟨h3,iH (by omega) h4⟩
theorem Xv {hs:YR} {gs ls:YT} {lp st:Int} (hl:∀g,gpC ls g=false->gpC gs g=false):∀{f:Nat} {a:Int},cS hs ls lp st f a=true->cS hs gs lp st f a=true
 | 0,_,h=>by cases h
 | f+1,a,h=>by
  obtain⟨h1,h2⟩:=Ng.mp h;refine Ng.mpr ⟨h1,h2.imp id λzz=>?_⟩;obtain⟨h3,h4⟩:=zz;exact⟨hl _ h3,Xv hl h4⟩
theorem KZ {hs:YR} {gs:YT} {g:Gt}:Dy hs gs g=true ↔ cS hs gs g.lp 1 16 g.at_=true\/cS hs gs g.lp (-1) 16 g.at_=true:=by
 unfold Dy cS;rw[Bool.or_eq_true]
theorem Xu {hs:YR} {gs ls:YT} {lp st:Int} (hst:st=1\/st=-1) (hn:∀g,gpC ls g=true->Dy hs ls g=true->gpC gs g=true):∀{f:Nat} {a:Int},f<=16->cS hs gs lp st f a=true->cS hs ls lp st f a=true
 | 0,_,_,h=>by cases h
 | f+1,a,hf,h=>by
  obtain⟨h1,h2⟩:=Ng.mp h;refine Ng.mpr ⟨h1,?_⟩;rcases h2 with h2 |⟨h3,h4⟩
  ·exact .inl h2
  ·have ih:=Xu hst hn (by omega) h4;cases hg:gpC ls ⟨lp,a+st⟩ with
   | false=>exact .inr ⟨rfl,ih⟩
   | true=>
    have:=hn ⟨lp,a+st⟩ hg (KZ.mpr (by
     have:=iH (F:=16) (by omega) ih;rcases hst with rfl | rfl
     ·exact .inl this
     ·exact .inr this))
    rw[h3] at this;cases this
theorem find_key {β : Type} {gs:List (Gt×β)} {g:Gt} (h:g∉gs.map (·.1)):gs.find? (λx=>decide (x.1=g))=none:=Qbk.mpr λx hx=>by simpa using λe=>h (Qcn.mpr ⟨x,hx,e⟩)
theorem Xm {gs:YT} {g:Gt} (h:gpC gs g=true):g∈gs.map (·.1):=Qai λc=>by
 unfold gpC at h;rw[find_key c] at h;cases h
theorem RW {gs:YT} (nd:(gs.map (·.1)).Nodup) {x:Gt×Bool} (h:x∈gs):gpC gs x.1=x.2:=by
 unfold gpC
 induction gs with
 | nil=>cases h
 | cons a r ih=>
  obtain⟨n1,n2⟩:=QbP.mp nd;rcases Qce.mp h with rfl | h
  ·rw[Qaz (by exact QbY rfl)];rfl
  ·rw[Qay (by simpa using λe=>n1 (Qcn.mpr ⟨x,h,by exact Eq.symm e⟩))];exact ih n2 h
theorem Oe (f:Gt->Bool) (g:Gt):∀gs:YT,g∈gs.map (·.1)->gpC (gs.map λx=>(x.1,f x.1)) g=f g
 | [],h=>by cases h
 | a::r,h=>by
  unfold gpC;by_cases e:a.1=g
  ·rw[Qcf,Qaz (by exact QbY e),e];rfl
  ·rw[Qcf,Qay (by simpa using e)];refine Oe f g r ?_;rcases Qce.mp h with z | z
   ·exact absurd z.symm e
   ·exact z
theorem tX (gs:YT):(lone gs).map (·.1)=gs.map (·.1):=by unfold lone;rw[Qcq];rfl
theorem Ow (hs:YR) (gs:YT):(Er hs gs).map (·.1)=gs.map (·.1):=by unfold Er;rw[Qcq];rfl
theorem xV {gs gs':YT} (h:gs.map (·.1)=gs'.map (·.1)):lone gs=lone gs':=by
 have:∀l:YT,lone l=(l.map (·.1)).map λg=>(g,true):=λl=>by unfold lone;rw[Qcq];rfl
 rw[this,this,h]
theorem bW {gs:YT} {g:Gt}:gpC (lone gs) g=true ↔ g∈gs.map (·.1):=⟨λh=>by rw[<-tX];exact Xm h,λh=>Oe (λ_=>true) g gs h⟩
theorem RP {hs:YR} {gs:YT} {g:Gt} (h:BJ hs gs g=true):Dy hs gs g=true:=by
 have hl:∀g,gpC (lone gs) g=false->gpC gs g=false:=λg h=>by
  cases c:gpC gs g with
  | false=>rfl
  | true=>rw[bW.mpr (Xm c)] at h;cases h
 exact KZ.mpr ((KZ.mp h).imp (Xv hl) (Xv hl))
def S8 (hs:YR) (gs:YT):Prop:=∀g,g∈gs.map (·.1)->BJ hs gs g=true->gpC gs g=true
theorem Yc {hs:YR} {gs:YT} (hn:S8 hs gs) (g:Gt):Dy hs gs g=BJ hs gs g:=by
 cases c:BJ hs gs g with
 | true=>exact RP c
 | false=>
  cases c':Dy hs gs g with
  | false=>rfl
  | true=>
   have hn':∀g,gpC (lone gs) g=true->Dy hs (lone gs) g=true->gpC gs g=true:=λg h1 h2=>hn g (bW.mp h1) h2;have:BJ hs gs g=true:=KZ.mpr ((KZ.mp c').imp (Xu (.inl rfl) hn' (Qcw _)) (Xu (.inr rfl) hn' (Qcw _)));rw[c] at this;cases this
theorem T5 {gs:YT} {g:Gt} (h:g∈gs.map (·.1)) (b:Bool) (g':Gt):gpC (setG gs g b) g'=if g'=g then b else gpC gs g':=by
 induction gs with
 | nil=>cases h
 | cons a r ih=>
  by_cases e:a.1=g
  ·by_cases e':g'=g
   ·rw[if_pos e'];unfold gpC setG;rw[Qcf,if_pos e,Qaz (by rw[e'];exact QbY e)];rfl
   ·have n:¬a.1=g':=λz=>e' (by rw[<-z,e]);rw[if_neg e'];by_cases hr:g∈r.map (·.1)
    ·have:=ih hr;rw[if_neg e'] at this;unfold gpC setG at this ⊢;rw[Qcf,if_pos e,Qay (by simpa using n),Qay (by simpa using n)];exact this
    ·unfold gpC setG;rw[Qcf,if_pos e,Qay (by simpa using n),Qay (by simpa using n),show (r.map λx=>if x.1=g then (x.1,b) else x)=r from (QaO λx hx=>if_neg λz=>hr (Qcn.mpr ⟨x,hx,z⟩)).trans (List.map_id r)]
  ·have hr:g∈r.map (·.1):=by
    rcases Qce.mp h with z | z
    ·exact absurd z.symm e
    ·exact z
   have:=ih hr;unfold gpC setG at this ⊢;rw[Qcf,if_neg e];by_cases n:a.1=g'
   ·rw[Qaz (by exact QbY n),Qaz (by exact QbY n),if_neg (λz=>e (by rw[n,z]))]
   ·rw[Qay (by simpa using n),Qay (by simpa using n)];exact this
theorem JF {hs:YR} {gs gs':YT} (h:gs.map (·.1)=gs'.map (·.1)) (g:Gt):BJ hs gs g=BJ hs gs' g:=by unfold BJ;rw[xV h]
theorem Q7 (hs:YR):∀(L:List Gt) (gs:YT),(Hw hs gs L).map (·.1)=gs.map (·.1)
 | [],_=>rfl
 | g::r,gs=>(Q7 hs r _).trans (Ku _ _ _)
theorem cT (hs:YR) (gs:YT) (L M:List Gt):Hw hs gs (L++M)=Hw hs (Hw hs gs L) M:=List.foldl_append ..
theorem wj {hs:YR}:∀{L:List Gt} {gs:YT},(∀g∈L,g∈gs.map (·.1))->∀g,(g∈L\/gpC gs g=true)->BJ hs gs g=true->gpC (Hw hs gs L) g=true
 | [],gs,_,g,h,_=>by
  rcases h with h | h
  ·cases h
  ·exact h
 | x::r,gs,hk,g,h,hn=>by
  have e1:=Ku gs x (Dy hs gs x);have hx:=hk x QaV;show gpC (Hw hs (setG gs x (Dy hs gs x)) r) g=true;refine wj (λg' hg'=>by rw[e1];exact hk g' (QaJ _ hg')) g ?_ (by rw[JF e1];exact hn);rw[T5 hx];by_cases e:g=x
  ·rw[if_pos e,<-e];exact .inr (RP hn)
  ·rw[if_neg e];rcases h with h | h
   ·rcases Qce.mp h with h | h
    ·exact absurd h e
    ·exact .inl h
   ·exact .inr h
theorem wu {hs:YR}:∀{L:List Gt} {gs:YT},(∀g∈L,g∈gs.map (·.1))->∀g,g∉L->gpC (Hw hs gs L) g=gpC gs g
 | [],gs,_,g,_=>rfl
 | x::r,gs,hk,g,h=>by
  have e1:=Ku gs x (Dy hs gs x);show gpC (Hw hs (setG gs x (Dy hs gs x)) r) g=_;rw[wu (λg' hg'=>by rw[e1];exact hk g' (QaJ _ hg')) g (λz=>h (QaJ _ z)),T5 (hk x QaV),if_neg (λz=>h (by rw[z];exact QaV))]
theorem wg {hs:YR}:∀{L:List Gt} {gs:YT},(∀g∈L,g∈gs.map (·.1))->S8 hs gs->∀g,gpC (Hw hs gs L) g=if g∈L then BJ hs gs g else gpC gs g
 | [],gs,_,_,g=>rfl
 | x::r,gs,hk,hn,g=>by
  have e1:=Ku gs x (Dy hs gs x);have hx:=hk x QaV;have hn':S8 hs (setG gs x (Dy hs gs x)):=λg' h1 h2=>by
   rw[e1] at h1;rw[JF e1] at h2;rw[T5 hx];by_cases e:g'=x
   ·rw[if_pos e,<-e];exact RP h2
   ·rw[if_neg e];exact hn g' h1 h2
  show gpC (Hw hs (setG gs x (Dy hs gs x)) r) g=_;rw[wg (λg' hg'=>by rw[e1];exact hk g' (QaJ _ hg')) hn' g,JF e1,T5 hx];by_cases h:g∈r
  ·rw[if_pos h,if_pos (QaJ _ h)]
  ·rw[if_neg h];by_cases e:g=x
   ·rw[if_pos e,if_pos (by rw[e];exact QaV),e,Yc hn]
   ·rw[if_neg e,if_neg (λz=>by rcases Qce.mp z with z | z;exact e z;exact h z)]
theorem A4 {gs gs':YT} (nd:(gs.map (·.1)).Nodup) (k:gs.map (·.1)=gs'.map (·.1)) (h:∀g∈gs.map (·.1),gpC gs g=gpC gs' g):gs=gs':=by
 have e:∀l:YT,(l.map (·.1)).Nodup->l=(l.map (·.1)).map λg=>(g,gpC l g):=λl n=>by
  rw[Qcq];refine (List.map_id l).symm.trans (QaO λx hx=>?_);show x=(x.1,gpC l x.1);rw[RW n hx]
 rw[e gs nd,e gs' (by rw[<-k];exact nd),<-k];exact QaO λg hg=>by rw[h g hg]
def KC (hs:YR) (gs:YT):List Gt:=(gs.filter λx=>BJ hs gs x.1&&!x.2).map (·.1)
def row2 (hs:YR) (gs:YT):List Gt:=(gs.filter λx=>x.2&&!BJ hs gs x.1).map (·.1)
theorem Tz {gs:YT} (nd:(gs.map (·.1)).Nodup) {p:Gt->Bool->Bool} {g:Gt}:g∈(gs.filter λx=>p x.1 x.2).map (·.1) ↔ g∈gs.map (·.1)/\p g (gpC gs g)=true:=by
 constructor
 ·intro h;obtain⟨x,hx,rfl⟩:=Qcn.mp h;obtain⟨h1,h2⟩:=QbO.mp hx;exact⟨Qcn.mpr ⟨x,h1,rq⟩,by rw[RW nd h1];exact h2⟩
 ·rintro ⟨h1,h2⟩;obtain⟨x,hx,rfl⟩:=Qcn.mp h1;rw[RW nd hx] at h2;exact Qcn.mpr ⟨x,QbO.mpr ⟨hx,h2⟩,rq⟩
theorem qZ {hs:YR} {gs:YT} (nd:(gs.map (·.1)).Nodup):Hw hs gs (KC hs gs++row2 hs gs)=Er hs gs:=by
 have m1:∀g,g∈KC hs gs ↔ g∈gs.map (·.1)/\(BJ hs gs g&&!gpC gs g)=true:=λg=>Tz nd (p:=λg b=>BJ hs gs g&&!b);have m2:∀g,g∈row2 hs gs ↔ g∈gs.map (·.1)/\(gpC gs g&&!BJ hs gs g)=true:=λg=>Tz nd (p:=λg b=>b&&!BJ hs gs g);rw[cT];have h1:∀g∈KC hs gs,g∈gs.map (·.1):=λg h=>((m1 g).mp h).1;have h2:∀g∈row2 hs gs,g∈gs.map (·.1):=λg h=>((m2 g).mp h).1;have k1:=Q7 hs (KC hs gs) gs;have k2:=(Q7 hs (row2 hs gs) (Hw hs gs (KC hs gs))).trans k1;have hn:S8 hs (Hw hs gs (KC hs gs)):=λg z1 z2=>by
  rw[k1] at z1;rw[JF k1] at z2;refine wj h1 g ?_ z2;cases c:gpC gs g with
  | true=>exact .inr rfl
  | false=>exact .inl ((m1 g).mpr ⟨z1,by rw[z2,c];rfl⟩)
 refine A4 (by rw[k2];exact nd) (by rw[k2,Ow]) λg hg=>?_;rw[k2] at hg;rw[wg (λg h=>by rw[k1];exact h2 g h) hn g,JF k1,show gpC (Er hs gs) g=BJ hs gs g from Oe (BJ hs gs) g gs hg]
 by_cases h:g∈row2 hs gs
 ·rw[if_pos h]
 ·rw[if_neg h];cases c:BJ hs gs g with
  | true=>exact hn g (by rw[k1];exact hg) (by rw[JF k1];exact c)
  | false=>
   rw[wu h1 g λz=>by have:=((m1 g).mp z).2;rw[c] at this;cases this];cases d:gpC gs g with
   | false=>rfl
   | true=>exact absurd ((m2 g).mpr ⟨hg,by rw[c,d];rfl⟩) h
theorem XC.keys {gs gs':YT} (h:XC gs) (k:gs'.map (·.1)=gs.map (·.1)):XC gs':=λx hx=>by
 have:x.1∈gs.map (·.1):=by rw[<-k];exact Qcn.mpr ⟨x,hx,rq⟩
 obtain⟨y,hy,e⟩:=Qcn.mp this;rw[<-e];exact h y hy
def fU (C:Addr):Sp:=λvs H Q _=>∃p pl d1 d2 d3 hs fl gs,vs=[.ref p]/\WAt C H p pl d1 d2 d3 hs fl gs/\(∀s∈hs.map (·.1),Bd3 s)/\XC gs/\∀l xs H',H l=none->H' l=some (.lst xs)->Paired (DP H') xs (KC hs gs++row2 hs gs)->WAt C H' p pl d1 d2 d3 hs fl (Er hs gs)->Ai d3 H H'->Q (.ref l) H'
theorem gW {gs:YT} {f:Gt×Bool->Bool} (nd:(gs.map (·.1)).Nodup) {i:Nat} {x:Gt×Bool} (hx:gs[i]?=some x):putK (gpV ((gs.take i).map λy=>(y.1,f y))) (k2 x.1) (.bl (f x))=gpV ((gs.take (i+1)).map λy=>(y.1,f y)):=by
 rw[KD,QcE hx]
 ·unfold gpV;rw[QbI,QbI];rfl
 ·refine M5 λy hy e=>?_;unfold gpV at hy;rw[Qcq] at hy;obtain⟨z,hz,rfl⟩:=Qcn.mp hy;exact Je (f:=λy:Gt×Bool=>y.1) nd hx z hz (RT e)
section
variable {P:Program} {w:World} {K:YD} {mg:YB} {base:Heap} {op oe kd wk C:Addr}
abbrev xi:YF:=["opener","gap","near"]
theorem VP (c:G4 K C "come_to_rest" "Wires.come_to_rest" Dk DN) (T:Tw K mg op oe kd wk C) (Jw:Good P w K mg base "comes_to_short" 3 Eh Zx) (Xp:CN P w K mg base C "act" 4 Hr (ZD C)):CN P w K mg base C "come_to_rest" 5 DN (fU C):=by
 have sc:=Dd;refine c.good Dd (λvs H Q E h=>?_) (λf cdv A outer s H vs Q E hr h=>?_)
 ·obtain⟨p,pl,d1,d2,d3,hs,fl,gs,rfl,_⟩:=h;rfl
 obtain⟨p,pl,d1,d2,d3,hs,fl,gs,rfl,R,hb,hg,q⟩:=h;refine⟨_,(Ae (Bb (i:=1) Dd.nd rfl (Or.inr rfl) (NZ rfl (Lq (Cm hr) (N':=["opener"]) rfl (Bo.plain rfl (by trivial) (by trivial) (by trivial)) (aH (Dc (pv 0) rfl)) (λ_ _ _ _=>(Aj (i:=0) (show List.Nodup (["opener"]:YF) by trivial) rfl (Or.inl rfl))) (λ_ _ _ _=>Di) (λ_ _ _ _=>(pv 0)) (λ_ _ _ _=>Dm))))
 (Ae (Bb (i:=2) Dd.nd rfl (Or.inr rfl) (NZ rfl (Lq (Cm hr) (N':=["opener","lone","self"]) rfl (Bo.of (src:=[none,some 1,some 0]) (Ak Dk) xk rfl rfl rfl (by trivial) (by trivial) (by trivial) rfl (by trivial)) (aH (Dc (pv 0) rfl)) (λ_ _ _ _=>(Aj (i:=0) (show List.Nodup (["opener","lone","self"]:YF) by trivial) rfl (Or.inl rfl))) (λ_ _ _ _=>Di) (λ_ _ _ _=>(pv 0)) (λ_ _ _ _=>(Ay Jw hr (Aa (gF (K:=K) rfl (pv 2) rfl) (Aa (pv 1) (Aa (pv 0) Ac))))))))
 (Ae (rD rfl (W0 (i:=3) Dd.nd rfl (Or.inl rfl) (N':=xi) rfl (Bo.of (src:=[none,none,some 2]) (Ak Dk) xk rfl rfl rfl (by trivial) (by trivial) (by trivial) rfl (by trivial)) (Ox (Dc (pv 0) rfl)) (λ_ _ _ _=>(FW (K:=K) (n:=2) rfl rfl (Aq (Aj (i:=0) (show List.Nodup (xi:YF) by trivial) rfl (Or.inl rfl)) (Aq (Aj (i:=1) (show List.Nodup (xi:YF) by trivial) rfl (Or.inl rfl)) Bt)))) (λ_ _ _ _=>(Gy (PW.pt (au (CK (Qf (Cm hr) (pv 2) (pv 0) (λ_ _=>rfl))) (WY (En (CK (pv 1)))))))) (λ_ _ _ _=>(pv 0))))
 (Ae (Bk (Cw Qar Qap Qaq Fo (pv 3) (Aa (NZ rfl (Cq (N':=xi) rfl (Bo.of (src:=[none,none,some 2]) (Ak Dk) xk rfl rfl rfl (by trivial) (by trivial) (by trivial) rfl (by trivial)) (Ox (Dc (pv 0) rfl)) (λ_ _ _ _=>(FW (K:=K) (n:=2) rfl rfl (Aq (Aj (i:=0) (show List.Nodup (xi:YF) by trivial) rfl (Or.inl rfl)) (Aq (Aj (i:=1) (show List.Nodup (xi:YF) by trivial) rfl (Or.inl rfl)) Bt)))) (λ_ _ _ _=>(Gy (PW.pt (au (CK (pv 1)) (WY (En (CK (Qf (Cm hr) (pv 2) (pv 0) (λ_ _=>rfl))))))))) (λ_ _ _ _=>(pv 0)))) Ac)))
 (Ae (Cd QbL rfl (Du (pv 3)) (Aj (i:=4) Dd.nd rfl (Or.inl rfl))
 (Ah (Bk (Hu (pv 0) T.cl Xp hr (Aa (pv 4) Ac)))))
 (Ah (Bc (pv 3)))))))),?_⟩
 show let R0:TS:=_;let R1:TS:=Al (Dg _ _ R0) _;let R2:TS:=Al _ R1;let R3:TS:=Al _ R2;let R4:TS:=Al _ R3;Al _ R4 _ _ _;intro R0 R1 R2 R3 R4;obtain⟨dx,hp⟩:=R.ins;have hd3:=R.gp;have l3:=R.l3;have nd3:=R.nd3;have nfz:∀o' u,H d3≠some (.frz o' u):=λo' u z=>by rw[hd3] at z;cases z
 have lgs:(gpV gs).length=gs.length:=by unfold gpV;rw[QbH]
 have jP:∀{i:Nat} {kv:List Key×V},(gpV gs)[i]?=some kv->∃x,gs[i]?=some x/\kv=(k2 x.1,.bl x.2):=λ{i kv} h=>by
  unfold gpV at h;rw[Qbn] at h;obtain⟨x,hx,rfl⟩:=QaA.mp h;exact⟨x,hx,rq⟩
 refine⟨_,rq,p,C,dx,_,_,rq,hp,T.cl,T.GF,Fz pl d1 d2 d3,d3,gpV gs,rq,hd3,λo l hl=>?_⟩;have nl:l≠d3:=λz=>by rw[z,Ab] at hl;cases hl
 have fl1:H l=none:=by rw[Ao nl] at hl;exact hl
 let J0:YN:=λi U HH=>(∃u,U=[u])/\HH l=some (.dT (gpV ((gs.take i).map λx=>(x.1,true))))/\Same (upd H d3 (.frz o (.dT (gpV gs)))) HH;refine Ye J0 ⟨⟨none,rq⟩,Ab,Ag hl _⟩ (λi U HH _ h=>h.2.2 _ _ Ab) (λi kv b U HH hkv h hb'=>?_) (fun U HH h=>?_)
 ·obtain⟨⟨u,rfl⟩,e1,e2⟩:=h;obtain⟨x,hx,rfl⟩:=jP hkv;have hi:=(Qah.mp hkv).1;unfold FN;dsimp only;refine Cr ⟨_,rq,_,k2 x.1,b,e1,rq,hb',Ar (by unfold gpV;rw[QbH,QbH,Qbz];omega),⟨_,rq⟩,?_,e2.Bl Ai.upd hl⟩;rw[Ab,gW (f:=λ_=>true) nd3 hx]
 obtain⟨_,e1,e2⟩:=h;rw[lgs,Qbx] at e1;have e1:HH l=some (.dT (gpV (lone gs))):=e1;refine⟨d3,o,gpV gs,e2 _ _ Ab,nfz,?_⟩;have s1:=Jz e2 hd3;have h1l:(upd HH d3 (.dT (gpV gs))) l=some (.dT (gpV (lone gs))):=by rw[Ao nl];exact e1
 generalize upd HH d3 (.dT (gpV gs))=H1 at *;clear e1 e2 hl;have R1:=R.same s1;obtain⟨dx1,hp1⟩:=R1.ins;refine⟨_,rq,p,C,dx1,_,_,rq,hp1,T.cl,T.GF,Fz pl d1 d2 d3,d3,gpV gs,rq,R1.gp,λo2 ln hl2=>?_⟩;have nln:ln≠d3:=λz=>by rw[z,Ab] at hl2;cases hl2
 have f2:H1 ln=none:=by rw[Ao nln] at hl2;exact hl2
 have EF:(lone gs).length=gs.length:=QbH ..;let J1:YN:=λi U HH=>(∃u,U=[u,jp l,jp p])/\HH ln=some (.dT (gpV ((gs.take i).map λx=>(x.1,BJ hs gs x.1))))/\Same (upd H1 d3 (.frz o2 (.dT (gpV gs)))) HH;refine Ye J1 ⟨⟨none,rq⟩,Ab,Ag hl2 _⟩ (λi U HH _ h=>h.2.2 _ _ Ab) (λi kv b U HH hkv h hb'=>?_) (fun U HH h=>?_)
 ·obtain⟨⟨u,rfl⟩,e1,e2⟩:=h;obtain⟨x,hx,rfl⟩:=jP hkv;have hi:=(Qah.mp hkv).1;have gb:=hg x (QaI hx);have z3:∀c v,H1 c=some v->c≠d3->HH c=some v:=λc v e n=>e2 _ _ (by rw[Ao n];exact e);have np3:p≠d3:=λz=>by rw[z,R1.gp] at hp1;cases hp1
  unfold FN;dsimp only;refine Cr ⟨_,rq,_,rq,p,C,dx1,_,_,rq,z3 _ _ hp1 np3,T.cl,T.Gm,Gf pl d1 d2 d3,_,rq,_,rq,d1,l,b,hs,lone gs,x.1,rq,.inl (z3 _ _ R1.st R1.n13),.inl (z3 _ _ h1l nl),hb',hb,gb.1,gb.2,λH2 s2=>?_⟩;refine⟨_,k2 x.1,b,s2 _ _ e1,rq,s2 _ _ hb',Ar (by unfold gpV;rw[QbH,QbH,Qbz];omega),⟨_,rq⟩,?_,(e2.trans s2).Bl Ai.upd hl2⟩;rw[Ab];exact congrArg (λz=>some (HO.dT z)) (gW (f:=λx=>BJ hs gs x.1) nd3 hx)
 obtain⟨_,e1,e2⟩:=h;rw[lgs,Qbx] at e1;have e1:HH ln=some (.dT (gpV (Er hs gs))):=e1;have ED:∀o' u,H1 d3≠some (.frz o' u):=λo' u z=>by rw[R1.gp] at z;cases z
 refine⟨d3,o2,gpV gs,e2 _ _ Ab,nfz,?_⟩;have s2:=s1.trans (Jz e2 R1.gp);have h2n:(upd HH d3 (.dT (gpV gs))) ln=some (.dT (gpV (Er hs gs))):=by rw[Ao nln];exact e1
 have fln:H ln=none:=s1.free f2;generalize upd HH d3 (.dT (gpV gs))=H2 at *;clear e1 e2 hl2 ED hp1 f2;have R2:=R.same s2;obtain⟨dx2,hp2⟩:=R2.ins;have bA:∀{HX:Hp} {b:Addr} {x:Gt×Bool},HX ln=some (.dT (gpV (Er hs gs)))->HX b=some (.tup [.int x.1.lp,.int x.1.at_])->x∈gs->Dj HX ln (.ref b) (some (.bl (BJ hs gs x.1))):=λ{HX b x} h1 h2 h3=>by
  have g:=Dj.t (k:=k2 x.1) h1 h2;have hin:x.1∈gs.map (·.1):=Qcn.mpr ⟨x,h3,rq⟩;rw[V8 (by rw[Ow];exact hin),show gpC (Er hs gs) x.1=BJ hs gs x.1 from Oe (BJ hs gs) x.1 gs hin] at g
  exact g
 refine⟨_,rq,p,C,dx2,_,_,rq,hp2,T.cl,T.GF,Fz pl d1 d2 d3,d3,gpV gs,rq,R2.gp,λo3 lr hl3=>?_⟩;have nlr:lr≠d3:=λz=>by rw[z,Ab] at hl3;cases hl3
 have KG:H2 lr=none:=by rw[Ao nlr] at hl3;exact hl3
 have z2:∀{HH:Hp},Same (upd H2 d3 (.frz o3 (.dT (gpV gs)))) HH->HH ln=some (.dT (gpV (Er hs gs))):=λs=>s _ _ (by rw[Ao nln];exact h2n);have jg:∀{HH:Hp} {lc p' b:Addr} {i:Nat} {x:Gt×Bool} {ys:YG} {ps:List Gt} {H0:Hp},HH lc=some (.lst ys)->Paired (DP HH) ys ps->HH p'=none->HH b=some (.tup [.int x.1.lp,.int x.1.at_])->H0 lc=none->Same H0 HH->((upd (upd HH p' (.tup [.ref b,.bl x.2])) lc (.lst (ys++[.ref b]))) lc=some (.lst (ys++[.ref b]))/\Paired (DP (upd (upd HH p' (.tup [.ref b,.bl x.2])) lc (.lst (ys++[.ref b])))) (ys++[.ref b]) (ps++[x.1])/\Same H0 (upd (upd HH p' (.tup [.ref b,.bl x.2])) lc (.lst (ys++[.ref b])))):=λ{HH lc p' b i x ys ps H0} h1 h2 h3 h4 h5 h6=>by
  have t1:=Ag h3 (.tup [.ref b,.bl x.2]);have e1':=t1 _ _ h1;have ntl:∀zs,(upd HH p' (.tup [.ref b,.bl x.2])) lc≠some (.tup zs):=λzs z=>by rw[e1'] at z;cases z
  have sL:=Am.upd (o:=.lst (ys++[.ref b])) ntl;exact⟨Ab,Qcy ⟨b,rq,sL _ _ (t1 _ _ h4)⟩ (Paired.Ax h2 λ_ _ z=>(z.tups (Am.of t1)).tups sL),(h6.trans t1).Bl Ai.upd h5⟩
 let J2:YN:=λi U HH=>(∃u v,U=[u,v,jp ln])/\(∃ys,HH lr=some (.lst ys)/\Paired (DP HH) ys (((gs.take i).filter λx=>BJ hs gs x.1&&!x.2).map (·.1))/\ys.length<=i)/\Same (upd H2 d3 (.frz o3 (.dT (gpV gs)))) HH;refine QX J2 ⟨⟨none,none,rq⟩,⟨[],Ab,.nil,Qcw _⟩,Ag hl3 _⟩ (λi U HH _ h=>h.2.2 _ _ Ab) (λi kv p' b U HH hkv h hp' hb'=>?_) (fun U HH h=>?_)
 ·obtain⟨⟨u,v,rfl⟩,⟨ys,e1,e3,e4⟩,e2⟩:=h;obtain⟨x,hx,rfl⟩:=jP hkv;have hi:=(Qah.mp hkv).1;have t1:=Ag hp' (.tup [.ref b,.bl x.2]);have e2':=e2.trans t1;have et:((gs.take (i+1)).filter λx=>BJ hs gs x.1&&!x.2).map (·.1)=((gs.take i).filter λx=>BJ hs gs x.1&&!x.2).map (·.1)++([x].filter λx=>BJ hs gs x.1&&!x.2).map (·.1):=by rw[QcE hx,Qbf,QbI]
  have no:(BJ hs gs x.1&&!x.2)=false->∃ys,(upd HH p' (.tup [.ref b,.bl x.2])) lr=some (.lst ys)/\Paired (DP (upd HH p' (.tup [.ref b,.bl x.2]))) ys (((gs.take (i+1)).filter λx=>BJ hs gs x.1&&!x.2).map (·.1))/\ys.length<=i+1:=λhc=>by
   refine⟨ys,t1 _ _ e1,?_,by omega⟩;rw[et,show ([x].filter λx=>BJ hs gs x.1&&!x.2)=[] from Qat (by rw[hc];decide),Qcv,QbK]
   exact Paired.Ax e3 λ_ _ z=>z.tups (Am.of t1)
  refine⟨p',_,rq,SqT.of Ab,rq,_,_,rq,_,_,rq,rq,?_⟩;refine⟨_,rq,_,rq,ln,_,rq,bA (z2 e2') (t1 _ _ hb') (QaI hx),_,rq,Gn (λhn=>⟨_,rq,_,rq,Gn (λhx2=>?_) (λhx2=>?_)⟩) (λhn=>Cp ⟨⟨_,_,rq⟩,no (by rw[hn];rfl),e2'⟩)⟩
  ·have hx2:x.2=false:=by simpa using hx2
   obtain⟨a1,a2,a3⟩:=jg (i:=i) e1 e3 hp' hb' hl3 e2;refine⟨_,rq,ys,t1 _ _ e1,Ar (by omega),⟨_,_,rq⟩,⟨_,a1,?_,by rw[QaU];show _+1<=_;omega⟩,a3⟩;rw[et,show ([x].filter λx=>BJ hs gs x.1&&!x.2)=[x] from Qau (by rw[hn,hx2];rfl)]
   exact a2
  ·exact⟨⟨_,_,rq⟩,no (by rw[hn,hx2];rfl),e2'⟩
 obtain⟨_,⟨ys,e1,e3,e4⟩,e2⟩:=h;rw[lgs] at e4;rw[lgs,Qbx] at e3;refine⟨d3,o3,gpV gs,e2 _ _ Ab,nfz,?_⟩;have s3:=Jz e2 R2.gp;have nt3:∀zs,HH d3≠some (.tup zs):=λzs z=>by rw[e2 _ _ Ab] at z;cases z
 have h3r:(upd HH d3 (.dT (gpV gs))) lr=some (.lst ys):=by rw[Ao nlr];exact e1
 have p3:Paired (DP (upd HH d3 (.dT (gpV gs)))) ys (KC hs gs):=Paired.Ax e3 λ_ _ z=>z.tups (Am.upd nt3);have sH3:=s2.trans s3;have flr:H lr=none:=s2.free KG;have h3n:=s3 _ _ h2n;generalize upd HH d3 (.dT (gpV gs))=H3 at *;clear e1 e2 e3 hl3 z2 nt3;have R3:=R.same sH3;obtain⟨dx3,hp3⟩:=R3.ins;refine⟨_,rq,.inl ⟨rq,_,SqL.of h3r⟩,_,rq,p,C,dx3,_,_,rq,hp3,T.cl,T.GF,Fz pl d1 d2 d3,d3,gpV gs,rq,R3.gp,λo4 lc hl4=>?_⟩;have nlc:lc≠d3:=λz=>by rw[z,Ab] at hl4;cases hl4
 have z3:∀{HH:Hp},Same (upd H3 d3 (.frz o4 (.dT (gpV gs)))) HH->HH ln=some (.dT (gpV (Er hs gs))):=λs=>s _ _ (by rw[Ao nln];exact h3n);let J3:YN:=λi U HH=>(∃u v,U=[u,v,jp ln])/\(∃ys,HH lc=some (.lst ys)/\Paired (DP HH) ys (((gs.take i).filter λx=>x.2&&!BJ hs gs x.1).map (·.1))/\ys.length<=i)/\Same (upd H3 d3 (.frz o4 (.dT (gpV gs)))) HH;refine QX J3 ⟨⟨none,none,rq⟩,⟨[],Ab,.nil,Qcw _⟩,Ag hl4 _⟩ (λi U HH _ h=>h.2.2 _ _ Ab) (λi kv p' b U HH hkv h hp' hb'=>?_) (fun U HH h=>?_)
 ·obtain⟨⟨u,v,rfl⟩,⟨ys,e1,e3,e4⟩,e2⟩:=h;obtain⟨x,hx,rfl⟩:=jP hkv;have hi:=(Qah.mp hkv).1;have t1:=Ag hp' (.tup [.ref b,.bl x.2]);have e2':=e2.trans t1;have et:((gs.take (i+1)).filter λx=>x.2&&!BJ hs gs x.1).map (·.1)=((gs.take i).filter λx=>x.2&&!BJ hs gs x.1).map (·.1)++([x].filter λx=>x.2&&!BJ hs gs x.1).map (·.1):=by rw[QcE hx,Qbf,QbI]
  have no:(x.2&&!BJ hs gs x.1)=false->∃ys,(upd HH p' (.tup [.ref b,.bl x.2])) lc=some (.lst ys)/\Paired (DP (upd HH p' (.tup [.ref b,.bl x.2]))) ys (((gs.take (i+1)).filter λx=>x.2&&!BJ hs gs x.1).map (·.1))/\ys.length<=i+1:=λhc=>by
   refine⟨ys,t1 _ _ e1,?_,by omega⟩;rw[et,show ([x].filter λx=>x.2&&!BJ hs gs x.1)=[] from Qat (by rw[hc];decide),Qcv,QbK]
   exact Paired.Ax e3 λ_ _ z=>z.tups (Am.of t1)
  refine⟨p',_,rq,SqT.of Ab,rq,_,_,rq,_,_,rq,rq,?_⟩;refine⟨_,rq,_,rq,Gn (λhx2=>⟨_,rq,_,rq,ln,_,rq,bA (z3 e2') (t1 _ _ hb') (QaI hx),_,rq,Gn (λhn=>?_) (λhn=>?_)⟩) (λhx2=>Cp ⟨⟨_,_,rq⟩,no (by rw[hx2];rfl),e2'⟩)⟩
  ·have hn:BJ hs gs x.1=false:=by simpa using hn
   obtain⟨a1,a2,a3⟩:=jg (i:=i) e1 e3 hp' hb' hl4 e2;refine⟨_,rq,ys,t1 _ _ e1,Ar (by omega),⟨_,_,rq⟩,⟨_,a1,?_,by rw[QaU];show _+1<=_;omega⟩,a3⟩;rw[et,show ([x].filter λx=>x.2&&!BJ hs gs x.1)=[x] from Qau (by rw[hn,hx2];rfl)]
   exact a2
  ·have hn:BJ hs gs x.1=true:=by simpa using hn
   exact⟨⟨_,_,rq⟩,no (by rw[hn,hx2];rfl),e2'⟩
 obtain⟨_,⟨zs,e1,e3,e5⟩,e2⟩:=h;rw[lgs] at e5;rw[lgs,Qbx] at e3;refine⟨d3,o4,gpV gs,e2 _ _ Ab,nfz,?_⟩;have s4:=Jz e2 R3.gp;have nt3:∀zs,HH d3≠some (.tup zs):=λzs z=>by rw[e2 _ _ Ab] at z;cases z
 have h4c:(upd HH d3 (.dT (gpV gs))) lc=some (.lst zs):=by rw[Ao nlc];exact e1
 have p4:Paired (DP (upd HH d3 (.dT (gpV gs)))) zs (row2 hs gs):=Paired.Ax e3 λ_ _ z=>z.tups (Am.upd nt3);have h4r:=s4 _ _ h3r;have p4r:Paired (DP (upd HH d3 (.dT (gpV gs)))) ys (KC hs gs):=Paired.Ax p3 λ_ _ z=>z.tups (Am.of s4);have sH4:=sH3.trans s4;generalize upd HH d3 (.dT (gpV gs))=H4 at *;clear e1 e2 e3 hl4 z3 nt3 h3r p3 bA jg;refine⟨lr,lc,_,_,rq,rq,h4r,h4c,Av (by omega),?_⟩;have ntr:∀zs,H4 lr≠some (.tup zs):=λzs z=>by rw[h4r] at z;cases z
 have t5:=Am.upd (o:=.lst (ys++zs)) ntr;have p5:Paired (DP (upd H4 lr (.lst (ys++zs)))) (ys++zs) (KC hs gs++row2 hs gs):=Paired.app (Paired.Ax p4r λ_ _ z=>z.tups t5) (Paired.Ax p4 λ_ _ z=>z.tups t5);have h5r:(upd H4 lr (.lst (ys++zs))) lr=some (.lst (ys++zs)):=Ab;have sH5:Same H (upd H4 lr (.lst (ys++zs))):=sH4.Bl Ai.upd flr;generalize upd H4 lr (.lst (ys++zs))=H5 at *;have R5:=R.same sH5;have l5:=Qcd p5;have AA:lr≠d3:=nlr;have kin:∀g∈KC hs gs++row2 hs gs,g∈gs.map (·.1):=λg h=>by
  rcases QbJ.mp h with h | h
  ·exact ((Tz nd3 (p:=λg b=>BJ hs gs g&&!b)).mp h).1
  ·exact ((Tz nd3 (p:=λg b=>b&&!BJ hs gs g)).mp h).1
 refine⟨_,rq,lr,rq,⟨_,SqL.of h5r⟩,?_⟩;let J4:YN:=λi U HH=>(∃u,U=[jp p,jp l,jp ln,jp lr,u])/\WAt C HH p pl d1 d2 d3 hs fl (Hw hs gs ((KC hs gs++row2 hs gs).take i))/\Ai d3 H5 HH;refine QW (xs:=ys++zs) J4 ⟨⟨_,rq⟩,R5,Ai.of (Same.refl _)⟩ (λi U HH _ h=>SqL.of (h.2.2 _ _ h5r AA)) (λi x U HH hx h=>?_) (fun U HH h=>?_)
 ·obtain⟨⟨u,rfl⟩,W,sB⟩:=h;obtain⟨g,hgi,b,rfl,hbt⟩:=Paired.Ck p5 hx;obtain⟨dx6,hp6⟩:=W.ins;have k6:=Q7 hs ((KC hs gs++row2 hs gs).take i) gs;have nt5:∀zs,H5 d3≠some (.tup zs):=λzs z=>by rw[R5.gp] at z;cases z
  unfold FN;dsimp only;refine⟨_,rq,p,dx6,_,rq,hp6,fno (by trivial),_,rq,p,pl,d1,d2,d3,hs,fl,_,b,g,rq,W,hb,hg.keys k6,(sB.tup nt5) _ _ hbt,by rw[k6];exact kin g (QaI hgi),λH' W' sB'=>⟨⟨_,rq⟩,?_,sB.trans sB'⟩⟩;rw[QcE hgi,cT];exact W'
 ·obtain⟨⟨u,rfl⟩,W,sB⟩:=h;rw[l5,Qbx,qZ nd3] at W;have nt5:∀zs,H5 d3≠some (.tup zs):=λzs z=>by rw[R5.gp] at z;cases z
  exact⟨_,rq,q lr _ HH flr (sB _ _ h5r AA) (Paired.Ax p5 λ_ _ z=>z.tups (sB.tup nt5)) W ((Ai.of sH5).trans sB)⟩
end
abbrev Jk:Stmt:=(inClass (top 45) 14)
abbrev Hf:YF:=["self","loop","end"]
abbrev yf:YF:=["self","loop","end","opener","wires","places"]
theorem Gw:Ba yf Hf (Ak Jk):=by ac_rfl
def flC (fl:YQ) (s:Sp3):Bool:=(fl.find? λx=>decide (x.1=s)).any λx=>x.2.isSome
theorem ig {H:Hp} (s:Sp3):∀{kvs:YL} {fl:YQ},Paired (Hl H) kvs fl->(!decide ((CV kvs (k3 s)).getD .non=.non))=flC fl s
 | [],[],.nil=>by show (!decide (V.non=V.non))=false;rw[QbY rfl];rfl
 | kv::_,x::_,.cons h t=>by
  unfold flC;by_cases e:x.1=s
  ·rw[Jo (p:=kv) (by rw[h.1,e]),Qaz (by exact QbY e)];obtain⟨h1,h2⟩:=h;obtain⟨xs,xo⟩:=x;cases xo with
   | none=>
    have h2:kv.2=.non:=h2;show (!decide (kv.2=.non))=false;rw[h2,QbY rfl];rfl
   | some d=>
    obtain⟨u,h2,_⟩:=h2;show (!decide (kv.2=.non))=true;rw[h2,QbM (by intro z;cases z)];rfl
  ·rw[GR (p:=kv) (λz=>e (Ie (by rw[<-h.1,z]))),Qay (by simpa using e)];exact ig s t
theorem Sq {fl:YQ} {s:Sp3} (h:flC fl s=true):s∈fl.map (·.1):=by
 unfold flC at h;cases e:fl.find? λx=>decide (x.1=s) with
 | none=>rw[e] at h;cases h
 | some y=>exact Qcn.mpr ⟨y,Qal e,by have:=List.find?_some e;simpa using this⟩
theorem Zn (hs:YR) (lp a:Int):∀f n,(Dw hs lp a f n).Nodup
 | 0,_=>Qca
 | f+1,n=>by
  unfold Dw;split
  ·exact Qca
  ·refine QbP.mpr ⟨λh=>?_,Zn hs lp a f (n+1)⟩;have:=(Np hs lp a f (n+1) _ h).2;dsimp only at this;omega
theorem SJ (hs:YR) (gs:YT) (lp st:Int) (hst:st=1\/st=-1):∀f a,(Bf hs gs lp st f a).2.Nodup/\∀s∈(Bf hs gs lp st f a).2,0 < (s.at_ - a)*st
 | 0,_=>⟨Qca,λs h=>by cases h⟩
 | f+1,a=>by
  obtain⟨n1,n2⟩:=SJ hs gs lp st hst f (a+st);have at1:∀s∈(⟨lp,a+st,0⟩::Bx hs lp (a+st):YV),s.at_=a+st:=λs h=>by
   rcases Qce.mp h with rfl | h
   ·rfl
   ·exact (Np hs lp (a+st) 4 1 s h).1
  have nd1:(⟨lp,a+st,0⟩::Bx hs lp (a+st):YV).Nodup:=by
   refine QbP.mpr ⟨λh=>?_,Zn hs lp (a+st) 4 1⟩;have:=(Np hs lp (a+st) 4 1 _ h).2;dsimp only at this;omega
  have pos1:∀s∈(⟨lp,a+st,0⟩::Bx hs lp (a+st):YV),0 < (s.at_ - a)*st:=λs h=>by
   rw[at1 s h];rcases hst with rfl | rfl <;> omega
  unfold Bf;split
  ·exact⟨Qca,λs h=>by cases h⟩
  ·split
   ·exact⟨nd1,pos1⟩
   ·have n2':∀s∈(Bf hs gs lp st f (a+st)).2,0 < (s.at_ - (a+st))*st:=n2;refine⟨Qbw.mpr ⟨nd1,n1,λx hx y hy e=>?_⟩,λs h=>?_⟩
    ·have h1:=at1 x hx;have h2:=n2' y hy;rw[<-e,h1] at h2;rcases hst with rfl | rfl <;> omega
    ·rcases QbJ.mp h with h | h
     ·exact pos1 s h
     ·have h2:=n2' s h;rcases hst with rfl | rfl <;> omega
def Sv (e:Str):Bool:=decide (V.str e=V.str "A")
def Bu (lp:Int) (n:Nat) (e:Str):Gt:=⟨lp,if Sv e=true then 0 else (n:Int)+1⟩
def CJ (e:Str):Int:=if Sv e=true then 1 else -1
def O6 (hs:YR) (gs:YT) (fl:YQ) (lp:Int) (n:Nat) (e:Str):YV:=
 if gpC gs (Bu lp n e)=true then [] else if CP hs (Bf hs gs lp (CJ e) 16 (Bu lp n e).at_).1=true then [] else (Bf hs gs lp (CJ e) 16 (Bu lp n e).at_).2.filter (flC fl)
theorem QF {α β : Type} {R:α->β->Prop} {xs:List α} {ys:List β} {d:α} {e:β} (h:Paired R xs ys):∀is:List Nat,(∀i∈is,i < xs.length)->Paired R (is.map λi=>xs.getD i d) (is.map λi=>ys.getD i e)
 | [],_=>.nil
 | i::r,hi=>by
  have h1:xs[i]?=some (xs[i]'(hi i QaV)):=Qam _;obtain⟨y,hy,hr⟩:=Paired.Ck h h1;refine .cons ?_ (QF h r λj hj=>hi j (QaJ _ hj));show R (xs.getD i d) (ys.getD i e);rw[List.getD_eq_getElem?_getD,List.getD_eq_getElem?_getD,h1,hy];exact hr
theorem bO {K:YD} {H:Hp}:∀{vs:YG} {ss:YV},Paired (BL H) vs ss->(∀s∈ss,Bd3 s)->Paired (Wm K H) vs (ss.map cd3)
 | _,_,.nil,_=>.nil
 | _,_,.cons (b:=s) ⟨t,e,h1⟩ r,hb=>.cons ⟨t,s.lp,s.at_,s.n,e,SqT.of h1,(hb s QaV).c3⟩ (bO r λx hx=>hb x (QaJ _ hx))
theorem pZ {ss:YV} (nd:ss.Nodup) (hb:∀s∈ss,Bd3 s):(ss.map cd3).Nodup:=by
 rw[Qag,Qbv];rw[Qag] at nd;exact nd.imp_of_mem λ{a b} ha hb' ne e=>ne ((hb a ha).inj (hb b hb') e)
instance:DecidableEq Sp3:=λa b=>if h:a.lp=b.lp/\a.at_=b.at_/\a.n=b.n then isTrue (by cases a;cases b;simp at h;obtain⟨h1,h2,h3⟩:=h;subst h1 h2 h3;rfl) else isFalse λe=>h (by rw[e];exact⟨rfl,rfl,rfl⟩)
theorem QJ:∀{l m:YV},l.Nodup->(∀x∈l,x∈m)->l.length<=m.length
 | [],_,_,_=>Qcx _
 | a::r,m,nd,h=>by
  have ha:=h a (QaV ..);obtain⟨n1,n2⟩:=QbP.mp nd;have:=QJ (l:=r) (m:=m.erase a) n2 λx hx=>(List.mem_erase_of_ne (λe=>n1 (by rw[<-e];exact hx))).mpr (h x (QaJ _ hx));rw[List.length_erase_of_mem ha] at this;have hp:=QaD ha;rw[Qby];omega
theorem ZK {α : Type} {d:α} {l:List α} {is:List Nat} (h:is.Perm (List.range l.length)):(is.map λi=>l.getD i d).Perm l:=by
 refine (h.map _).trans ?_;have:(List.range l.length).map (λi=>l.getD i d)=l:=by
  apply List.ext_getElem
  ·simp
  ·intro i h1 h2;simp at h1;simp[h1]
 rw[this]
theorem ZL {α : Type} {d:α} {c:α->Int} {l:List α} {is:List Nat} (h:is.Perm (List.range l.length)):(is.map λi=>l.getD i d).map c=is.map λi=>(l.map c).getD i 0:=by
 rw[Qcq];exact QaO λi hi=>by
  have:=Qcb.mp (h.mem_iff.mp hi);simp[this]
def DM:TE:=fun U H Q=>∃e,U[2]?=some (some (.str e))/\Q (.int (CJ e)) H
def f9 (C:Addr):Sp:=λvs H Q _=>∃(p pl d1 d2 d3:Addr) (hs:YR) (fl:YQ) (gs:YT) (most:Int) (ja:YU) (jn:List Zone) (k:Nat) (ps:List Place) (e:Str),vs=[.ref p,.int (k:Int),.str e]/\WAt C H p pl d1 d2 d3 hs fl gs/\Fg H pl most ja jn/\ja[k]?=some ps/\(∀s∈hs.map (·.1),Bd3 s)/\(∀s∈fl.map (·.1),Bd3 s)/\fl.length<=30/\Bu k ps.length e∈gs.map (·.1) /\
 ∀l xs L H',H l=none->H' l=some (.lst xs)->Paired (BL H') xs L->L.Perm (O6 hs gs fl k ps.length e)->(L.map cd3).Pairwise (· < ·)->Same H H'->Q (.ref l) H'
section
variable {P:Program} {w:World} {K:YD} {mg:YB} {base:Heap} {op oe kd wk C:Addr}
theorem sO (c:G4 K C "heard" "Wires.heard" Jk Hf) (T:Tw K mg op oe kd wk C) (O8:Good P w K mg base "come_to" 2 JD Zz) (Le:Good P w K mg base "has_short" 1 Hq Wv):CN P w K mg base C "heard" 3 Hf (f9 C):=by
 have sc:=Gw;refine c.good Gw (λvs H Q E h=>?_) (λf cdv A outer s H vs Q E hr h=>?_)
 ·obtain⟨p,pl,d1,d2,d3,hs,fl,gs,most,ja,jn,k,ps,e,rfl,_⟩:=h;rfl
 obtain⟨p,pl,d1,d2,d3,hs,fl,gs,most,ja,jn,k,ps,e,rfl,R,pa,hps,hb,hbf,l30,IB,q⟩:=h;refine⟨_,(Ae (Bb (i:=3) Gw.nd rfl (Or.inl rfl) (aL (Bs Eu (pv 2) Bp (Bq _)) (Bg (Aa (pv 1) (Aa Af Ac))) (Bg (Aa (pv 1) (Aa (Bj Cg (Az Bh rfl T.len Cu (Aa (Bm BW (Bm BW (Dc (pv 0) rfl) Af (λ_ _=>rfl)) (pv 1) (λ_ _=>rfl)) Ac)) Af) Ac)))))
 (Ae (BX (CK (Qf (Cm hr) (Dc (pv 0) rfl) (pv 3) (λ_ _=>rfl))) (Ah (Bc (Ce Ac))) Bv)
 (Ae (G5 (Ay O8 hr (Aa (Dc (pv 0) rfl) (Aa (Dc (pv 0) rfl) (Aa (pv 3) (Aa (PE.weak (ta':=DM) (aL (Bs Eu (pv 2) Bp (Bq _)) Af (QC Ni Af)) (fun U H Q h=>by
    obtain⟨e,e1,q⟩:=h;refine⟨_,e1,rq,_,rq,?_⟩;unfold CJ Sv at q;split at q
    ·rename_i h;rw[h];exact Cr q
    ·rename_i h;rw[show decide (V.str e=V.str "A")=false by simpa using h];exact Cp ⟨_,rq,q⟩)) Ac))))) (CQ rfl (Aq (Aj (i:=4) Gw.nd rfl (Or.inl rfl)) (Aq (Aj (i:=5) Gw.nd rfl (Or.inl rfl)) Bt))))
 (Ae (BX (CK (Ay Le hr (Aa (Dc (pv 0) rfl) (Aa (pv 4) Ac)))) (Ah (Bc (Ce Ac))) Bv)
 (Ah (Bc (Az SM rfl T.sorted SN (Aa (Cq (N':=["spot","self"]) rfl (Bo.of (src:=[none,some 0]) (Ak Jk) yf rfl rfl rfl (by trivial) (by trivial) (by trivial) rfl (by trivial)) (Du (pv 5)) (λ_ _ _ _=>(Aj (i:=0) (show List.Nodup (["spot","self"]:YF) by trivial) rfl (Or.inl rfl))) (λ_ _ _ _=>(Gy (Bs gJ (rM (Cm hr) (gF (K:=K) rfl (pv 1) rfl) (pv 0) ⟨rq,rq,rq,rq⟩) Lp (Bq _)))) (λ_ _ _ _=>(pv 0))) Ac)))))))),?_⟩
 show let R0:TS:=_;let R1:TS:=Al _ R0;let R2:TS:=Al _ R1;let R3:TS:=Al _ R2;Al _ R3 _ _ _;intro R0 R1 R2 R3;obtain⟨dx,hp⟩:=R.ins;have ok:=pa.ok;obtain⟨Ls,zs,ws,zvs,f1,f2,f3,f4,f5⟩:=pa.at_;have lw:=Qcd f3;have hkl:=(Qah.mp hps).1;have hwk:ws[k]?=some ws[k]:=Qam (by omega);obtain⟨ps',Kh,t,vs',ev,ht,hpp⟩:=Paired.Ck f3 hwk;rw[hps] at Kh;cases Kh;have lv:=Qcd hpp;have l12:=(ok.ok ps (QaI hps)).hi;have Od:atI ws (k:Int)=some (.ref t):=DY (by rw[hwk,ev]);have hst:CJ e=1\/CJ e=-1:=by unfold CJ;split;exact .inl rfl;exact .inr rfl
 have ga:0<=(Bu k ps.length e).at_/\(Bu k ps.length e).at_<=13:=by
  unfold Bu;dsimp only;split <;> omega
 have qn:O6 hs gs fl k ps.length e=[]->∀HX l,Same H HX->HX l=none->Q (.ref l) (upd HX l (.lst [])):=λhz HX l sX hl=>by
  refine q l [] [] _ (sX.free hl) Ab .nil ?_ .nil (sX.trans (Ag hl _));rw[hz]
 show Al (Zh _ _) _ _ _ _;refine Lj (fun U HH=>∃to,U=[jp p,some (.int (k:Int)),some (.str e),jp to,none,none]/\HH to=some (.tup [.int (k:Int),.int (Bu k ps.length e).at_])/\Same H HH) (fun U HH h=>?_) (λD' hn=>?_);rotate_left 1
 ·refine⟨_,rq,rq,_,rq,Gn (λh=>?_) (λh=>?_)⟩
  ·have hg:(Bu k ps.length e).at_=0:=if_pos h;rw[hg] at hn;refine⟨_,rq,Av (by show 2<=1000;decide),λto hto=>?_⟩;exact hn _ _ ⟨to,rq,Ab,Ag hto _⟩
  ·have hg:(Bu k ps.length e).at_=(ps.length:Int)+1:=if_neg (by unfold Sv;rw[h];decide);rw[hg] at hn;refine⟨_,rq,_,rq,p,C,dx,_,_,rq,hp,T.cl,T.bC,Sh (i:=0) (fnd pl d1 d2 d3) rfl,pl,_,_,_,rq,rq,SqT.of f1,rq,_,rq,Ls,_,_,_,rq,rq,SqT.of f2,Od,t,_,rq,.inr (SqT.of ht),_,_,rq,rq,Av (by show 2<=1000;decide),λto hto=>?_⟩;rw[lv];exact hn _ _ ⟨to,rq,Ab,Ag hto _⟩
 obtain⟨to,rfl,hto,s1⟩:=h;have R1:=R.same s1;obtain⟨dx1,hp1⟩:=R1.ins;have gg:=Dj.t (k:=k2 (Bu k ps.length e)) R1.gp hto;rw[V8 IB] at gg;refine⟨_,rq,p,C,dx1,_,_,rq,hp1,T.cl,T.GF,Fz pl d1 d2 d3,_,rq,d3,_,rq,gg,_,rq,Gn (λhg=>?_) (λhg=>?_)⟩
 ·exact⟨Av (by show 0<=1000;decide),λl hl=>qn (if_pos hg) _ l s1 hl⟩
 have hg':¬gpC gs (Bu k ps.length e)=true:=by rw[hg];decide
 refine⟨_,rq,p,C,dx1,_,_,rq,hp1,T.cl,T.Gm,Gf pl d1 d2 d3,_,rq,p,C,dx1,_,_,rq,hp1,T.cl,T.GF,Fz pl d1 d2 d3,_,rq,e,rq,d1,d3,to,hs,gs,Bu k ps.length e,CJ e,rq,.inl R1.st,.inl R1.gp,hto,hb,hst,by omega,by omega,λtt l1 l2 xs ys H2 htt hl1 hx1 hl2 hy2 s2=>⟨tt,_,rq,SqT.of htt,rq,_,_,rq,_,_,rq,rq,?_⟩⟩;have s12:=s1.trans s2;have R2:=R.same s12;obtain⟨dx2,hp2⟩:=R2.ins;have jO:(Bf hs gs (Bu k ps.length e).lp (CJ e) 16 (Bu k ps.length e).at_).1.length<=200:=Qcr (Sy hs gs _ _ 16 _) (by decide);refine⟨_,rq,p,C,dx2,_,_,rq,hp2,T.cl,T.Gm,Gf pl d1 d2 d3,_,rq,d1,l1,hs,xs,_,rq,.inl R2.st,hl1,hx1,QZ hs gs _ _ 16 _,jO,λH3 s3=>⟨_,rq,Gn (λhsh=>?_) (λhsh=>?_)⟩⟩
 ·exact⟨Av (by show 0<=1000;decide),λl hl=>qn ((if_neg hg').trans (if_pos hsh)) _ l (s12.trans s3) hl⟩
 have hw:O6 hs gs fl k ps.length e=(Bf hs gs k (CJ e) 16 (Bu k ps.length e).at_).2.filter (flC fl):=(if_neg hg').trans (if_neg (by
  have:CP hs (Bf hs gs k (CJ e) 16 (Bu k ps.length e).at_).1=false:=hsh;rw[this];decide))
 have s13:=s12.trans s3;have R3:=R.same s13;obtain⟨dx3,hp3⟩:=R3.ins;have hl2':=s3 _ _ hl2;have hy3:Paired (BL H3) ys (Bf hs gs k (CJ e) 16 (Bu k ps.length e).at_).2:=Paired.Ax hy2 λ_ _ z=>z.tups (Am.of s3);generalize hcw:(Bf hs gs k (CJ e) 16 (Bu k ps.length e).at_).2=cw at *;have cnd:cw.Nodup:=by rw[<-hcw];exact (SJ hs gs k (CJ e) hst 16 _).1
 have cg:(cw.filter (flC fl)).Nodup:=List.Nodup.sublist List.filter_sublist cnd;have fin:∀s∈cw.filter (flC fl),s∈fl.map (·.1):=λs h=>Sq (QbO.mp h).2;have uJ:(cw.filter (flC fl)).length<=30:=by
  have:=QJ cg fin;rw[QbH] at this;omega
 have fbd:∀s∈cw.filter (flC fl),Bd3 s:=λs h=>hbf s (fin s h);have ly:=Qcd hy3;refine⟨_,rq,l2,rq,⟨_,SqL.of hl2'⟩,λlc hlc=>?_⟩;let J0:YN:=λi U HH=>(∃u,U=[u,jp p])/\(∃zs,HH lc=some (.lst zs)/\Paired (BL HH) zs ((cw.take i).filter (flC fl)))/\Same H3 HH;refine Gg (xs:=ys) J0 ⟨⟨_,rq⟩,⟨[],Ab,.nil⟩,Ag hlc _⟩ (λi U HH _ h=>SqL.of (h.2.2 _ _ hl2')) (λi x U HH hx h=>?_) (fun U HH h=>?_)
 ·obtain⟨⟨u,rfl⟩,⟨zs,e1,e3⟩,e2⟩:=h;obtain⟨sp,hsp,b,rfl,hbt⟩:=Paired.Ck hy3 hx;have RX:=R3.same e2;obtain⟨dxx,hpx⟩:=RX.ins;obtain⟨kvs,hk,hf⟩:=RX.fi;have lz:=Qcd e3;have EE:zs.length<=30:=by
   rw[lz];exact Qcr ((List.Sublist.filter _ (List.take_sublist i cw)).length_le) uJ
  have et:(cw.take (i+1)).filter (flC fl)=(cw.take i).filter (flC fl)++[sp].filter (flC fl):=by rw[QcE hsp,Qbf]
  unfold FN;dsimp only;refine⟨_,rq,p,C,dxx,_,_,rq,hpx,T.cl,T.Jv,Kl pl d1 d2 d3,d2,rq,.inr ⟨_,.inl hk⟩,_,rq,_,Dj.t (k:=k3 sp) hk (e2 _ _ hbt),rq,_,rq,?_⟩;rw[ig sp hf];refine Gn (λhc=>?_) (λhc=>?_)
  ·have ntl:∀us,HH lc≠some (.tup us):=λus z=>by rw[e1] at z;cases z
   have sL:=Am.upd (o:=.lst (zs++[.ref b])) ntl;refine⟨_,rq,zs,e1,Ar (by omega),⟨_,rq⟩,⟨_,Ab,?_⟩,e2.Bl Ai.upd hlc⟩;rw[et,Qau hc];exact Qcy ⟨b,rq,sL _ _ (e2 _ _ hbt)⟩ (Paired.Ax e3 λ_ _ z=>z.tups sL)
  ·refine⟨⟨_,rq⟩,⟨zs,e1,?_⟩,e2⟩;rw[et,Qat (by rw[hc];decide)];show Paired _ _ (_++[]);rw[QbK];exact e3
 obtain⟨_,⟨zs,e1,e3⟩,e2⟩:=h;rw[ly,Qbx] at e3;have lz:=Qcd e3;refine ZG (ks:=(cw.filter (flC fl)).map cd3) (SqL.of e1) (by omega) (bO e3 fbd) (pZ cg fbd) λis ls hperm O5 hls=>?_;rw[lz] at hperm;have s5:=Ag hls (.lst (is.map λi=>zs.getD i .non));have DV:=(s13.trans e2).trans s5;refine q ls _ (is.map λi=>(cw.filter (flC fl)).getD i ⟨0,0,0⟩) _ ((s13.trans e2).free hls) Ab (QF (Paired.Ax e3 λ_ _ z=>z.tups (Am.of s5)) is λi hi=>by rw[lz];exact Qcb.mp (hperm.mem_iff.mp hi)) ?_ ?_ DV
 ·rw[hw];exact ZK hperm
 ·rw[ZL hperm];exact O5
end
abbrev Qy:Stmt:=top 58
abbrev Kd:YF:=["_law_bag_here","_law_wires","_law_hows","_law_wire_names"]
theorem K8:Ba ["_law_bag_here","_law_wires","_law_hows","_law_wire_names","_law_stretch","_law_way"] Kd (Ak Qy):=by ac_rfl
def vJ (C:Addr):Sp:=λvs H Q _=>∃(b:Addr) (n:Nat) (p pl d1 d2 d3 h w:Addr) (hs:YR) (fl:YQ) (gs:YT) (kv:YL),vs=[.ref b,.ref p,.ref h,.ref w]/\BP H b n/\n<=9000/\WAt C H p pl d1 d2 d3 hs fl gs/\d1≠d2/\H h=some (.dT kv)/\kv.length<=200/\(h≠d1/\h≠d2/\h≠d3)/\(∃xs,H w=some (.lst xs)/\Paired (BL H) xs (hs.map (·.1)))/\w≠b/\1<=hs.length /\
 ∀s z H',s∈hs.map (·.1)->(z=("short":Str)\/z=("cut":Str)\/z=("whole":Str))->BP H' b (n+2)->WAt C H' p pl d1 d2 d3 (Gi hs s z) fl gs->H' h=some (.dT (putK kv (k3 s) (.str z)))->Am H H'->(∀c o,H c=some o->c≠b->c≠d1->c≠h->H' c=some o)->Q .non H'
section
variable {κ β : Type} [DecidableEq κ]
def Q5 (l:List (κ×β)) (k:κ) (v:β):List (κ×β):=l.map λx=>if x.1=k then (x.1,v) else x
def putL (l:List (κ×β)) (k:κ) (v:β):List (κ×β):=if k∈l.map (·.1) then Q5 l k v else l++[(k,v)]
theorem cP (l:List (κ×β)) (k:κ) (v:β):(Q5 l k v).map (·.1)=l.map (·.1):=by
 unfold Q5;rw[Qcq];refine QaO λx _=>?_;show (if x.1=k then (x.1,v) else x).1=x.1
 split <;> rfl
theorem Og (k k':κ) (v:β):∀l:List (κ×β),k∈l.map (·.1)->(Q5 l k v).find? (λx=>decide (x.1=k'))=if k'=k then some (k,v) else l.find? (λx=>decide (x.1=k'))
 | [],h=>by cases h
 | a::r,h=>by
  show (((if a.1=k then (a.1,v) else a)::Q5 r k v).find? λx=>decide (x.1=k'))=_
  by_cases e:a.1=k
  ·rw[if_pos e];by_cases e':k'=k
   ·rw[if_pos e',Qaz (by rw[e'];exact QbY e),e]
   ·have n:¬a.1=k':=λz=>e' (by rw[<-z,e]);rw[if_neg e',Qay (by simpa using n),Qay (by simpa using n)];by_cases hr:k∈r.map (·.1)
    ·rw[Og k k' v r hr,if_neg e']
    ·congr 1;unfold Q5;refine (QaO λx hx=>?_).trans (List.map_id r);exact if_neg λz=>hr (Qcn.mpr ⟨x,hx,z⟩)
  ·rw[if_neg e];have hr:k∈r.map (·.1):=by
    rcases Qce.mp h with z | z
    ·exact absurd z.symm e
    ·exact z
   by_cases e':a.1=k'
   ·rw[Qaz (by exact QbY e'),Qaz (by exact QbY e'),if_neg (λz=>e (by rw[e',z]))]
   ·rw[Qay (by simpa using e'),Qay (by simpa using e'),Og k k' v r hr]
theorem find_none {l:List (κ×β)} {k:κ} (h:k∉l.map (·.1)):l.find? (λx=>decide (x.1=k))=none:=Qbk.mpr λx hx=>by simpa using λe=>h (Qcn.mpr ⟨x,hx,e⟩)
theorem cj (l:List (κ×β)) (k k':κ) (v:β):(putL l k v).find? (λx=>decide (x.1=k'))=if k'=k then some (k,v) else l.find? (λx=>decide (x.1=k')):=by
 unfold putL;by_cases h:k∈l.map (·.1)
 ·rw[if_pos h,Og k k' v l h]
 ·rw[if_neg h,List.find?_append];by_cases e:k'=k
  ·rw[if_pos e,e,find_none h];rw[Option.none_or,Qaz (by exact QbY rfl)]
  ·rw[if_neg e,Qay (by simpa using λz=>e z.symm)];show Option.or _ none=_;rw[Option.or_none]
theorem mW {l:List (κ×β)} (h:(l.map (·.1)).Nodup) (k:κ) (v:β):((putL l k v).map (·.1)).Nodup:=by
 unfold putL;by_cases c:k∈l.map (·.1)
 ·rw[if_pos c,cP];exact h
 ·rw[if_neg c,QbI,Qbw];exact⟨h,by simp,λa ha b hb e=>c (by have:b=k:=(by simpa using hb);rw[<-this,<-e];exact ha)⟩
theorem wU {l:List (κ×β)} {k:κ} {v:β} {x:κ} (h:x∈(putL l k v).map (·.1)):x=k\/x∈l.map (·.1):=by
 unfold putL at h;by_cases c:k∈l.map (·.1)
 ·rw[if_pos c,cP] at h;exact .inr h
 ·rw[if_neg c,QbI] at h;rcases QbJ.mp h with h | h
  ·exact .inr h
  ·exact .inl (by simpa using h)
theorem gC {f:κ->List Key} {g:β->V} (hf:∀a b,f a=f b->a=b) (l:List (κ×β)) (k:κ) (v:β):putK (l.map λx=>(f x.1,g x.2)) (f k) (g v)=(putL l k v).map λx=>(f x.1,g x.2):=by
 unfold putL;by_cases c:k∈l.map (·.1)
 ·obtain⟨x,hx,e⟩:=Qcn.mp c;rw[if_pos c,Nz ⟨_,Qcn.mpr ⟨x,hx,rq⟩,by rw[e]⟩];unfold Q5;rw[Qcq,Qcq];refine QaO λy _=>?_;show (if f y.1=f k then (f y.1,g v) else (f y.1,g y.2))=(f (if y.1=k then (y.1,v) else y).1,g (if y.1=k then (y.1,v) else y).2)
  by_cases e:y.1=k
  ·rw[if_pos (by rw[e]),if_pos e]
  ·rw[if_neg (λz=>e (hf _ _ z)),if_neg e]
 ·rw[if_neg c,KD,QbI]
  ·rfl
  ·refine M5 λy hy e=>c ?_;obtain⟨z,hz,rfl⟩:=Qcn.mp hy;exact Qcn.mpr ⟨z,hz,hf _ _ e⟩
theorem QK:∀{l m:List κ},l.Nodup->(∀x∈l,x∈m)->l.length<=m.length
 | [],_,_,_=>Qcx _
 | a::r,m,nd,h=>by
  have ha:=h a (QaV ..);obtain⟨n1,n2⟩:=QbP.mp nd;have:=QK (l:=r) (m:=m.erase a) n2 λx hx=>(List.mem_erase_of_ne (λe=>n1 (by rw[<-e];exact hx))).mpr (h x (QaJ _ hx));rw[List.length_erase_of_mem ha] at this;have hp:=QaD ha;rw[Qby];omega
end
theorem qO (hw:YR) (s:Sp3) (z:Str):putK (stV hw) (k3 s) (.str z)=stV (putL hw s z):=gC (λ_ _ e=>Ie e) hw s z
theorem Qc.put {hs hw:YR} (r:Qc hs hw) {s:Sp3} (h:s∈hs.map (·.1)) (z:Str):Qc (Gi hs s z) (putL hw s z):=λs' h'=>by
 rw[Jp] at h';unfold stC Cv;rw[cj,show Gi hs s z=Q5 hs s z from rfl,Og s s' z hs h]
 by_cases e:s'=s
 ·rw[if_pos e,if_pos e];rfl
 ·rw[if_neg e,if_neg e];exact r s' h'
section
variable {P:Program} {w:World} {K:YD} {mg:YB} {base:Heap} {op oe kd wk C:Addr}
theorem nW (c:Code K mg "_law_befall" Qy Kd) (T:Tw K mg op oe kd wk C)
  (Br:Good P w K mg base "_law_take" 1 GX Qe) (yt:CN P w K mg base C "cut" 4 Jc (Tj C "cut")) (o7:CN P w K mg base C "short" 4 G9 (Tj C "short")) (uD:CN P w K mg base C "mend" 4 HW (Tj C "whole")):Good P w K mg base "_law_befall" 5 Kd (vJ C):=by
 have sc:=K8;refine c.good K8 (λvs H Q E h=>?_) (λf cdv A outer s H vs Q E hr h=>?_)
 ·obtain⟨b,n,p,pl,d1,d2,d3,h,w,hs,fl,gs,kv,rfl,_⟩:=h;rfl
 obtain⟨b,n,p,pl,d1,d2,d3,h,w,hs,fl,gs,kv,rfl,hb,hn,R,n12,hh,FE,nh,⟨xs,x1,x2⟩,nwb,l1,q⟩:=h;refine⟨_,(Ae (Bb (i:=4) K8.nd rfl (Or.inl rfl) (Bm Df (pv 3) (Ay Br hr (Aa (pv 0) (Aa (Az Bh rfl T.len Cu (Aa (pv 3) Ac)) Ac))) (λ_ _=>rfl)))
 (Ae (Bb (i:=5) K8.nd rfl (Or.inl rfl) (Ay Br hr (Aa (pv 0) (Aa Af Ac))))
 (Ah (BX (Bs VH (pv 5) Af (Bq _)) (Ae (Bk (Hu (pv 1) T.cl o7 hr (Aa (pv 4) Ac)))
 (Ah (FT (Cm hr) (pv 2) (pv 4) Bp rfl))) (Ah (BX (Bs VH (pv 5) Af (Bq _)) (Ae (Bk (Hu (pv 1) T.cl yt hr (Aa (pv 4) Ac)))
 (Ah (FT (Cm hr) (pv 2) (pv 4) Bp rfl))) (Ae (Bk (Hu (pv 1) T.cl uD hr (Aa (pv 4) Ac)))
 (Ah (FT (Cm hr) (pv 2) (pv 4) Bp rfl))))))))),?_⟩
 show let R0:TS:=Al _ _;let R1:TS:=Al _ _;let R2:TS:=Al _ _;let R3:TS:=FQ _ R1 R2;let R4:TS:=FQ _ R0 R3;let R5:TS:=Al _ R4;Al _ R5 _ _ _;intro R0 R1 R2 R3 R4 R5;have lx:=Qcd x2;rw[QbH] at lx;have l2:=R.l1;obtain⟨_,_,_,eb,_⟩:=id hb;obtain⟨dx,hp⟩:=R.ins;obtain⟨kvs,hd2,_⟩:=R.fi;have npb:p≠b:=λz=>by rw[z,eb] at hp;cases hp
 have n1b:d1≠b:=λz=>by have:=R.st;rw[z,eb] at this;cases this
 have n2b:d2≠b:=λz=>by rw[z,eb] at hd2;cases hd2
 have n3b:d3≠b:=λz=>by have:=R.gp;rw[z,eb] at this;cases this
 have nhb:h≠b:=λz=>by rw[z,eb] at hh;cases hh
 refine⟨_,rq,_,rq,_,rq,w,_,rq,.inl (SqL.of x1),b,n,_,rq,hb,by omega,by omega,by omega,λi H1 i0 i1 hb1 sb1=>?_⟩;obtain⟨m,rfl⟩ : ∃m:Nat,i=(m:Int):=⟨i.toNat,(QaT i0).symm⟩;have hxm:xs[m]?=some xs[m]:=Qam (by omega);obtain⟨s1,hs1,b1,eb1,hbt⟩:=Paired.Ck x2 hxm;refine⟨w,_,_,_,rq,rq,SqL.of (sb1 _ _ x1 nwb),DY (xs:=xs) (j:=m) hxm,?_⟩;rw[eb1];refine⟨_,rq,b,n+1,5,rq,hb1,by omega,by decide,by decide,λr H4 r0 r1 hb4 sb4=>?_⟩;have sb:=sb1.trans sb4;have nt:=hb.Gj;have R4:=R.Ep sb nt npb n1b n2b n3b;have jR:=(sb.tup nt) _ _ hbt;have hh4:=sb _ _ hh nhb;have sIn:s1∈hs.map (·.1):=QaI hs1;obtain⟨dx4,hp4⟩:=R4.ins;have fin:∀(z:Str) (H5:Hp),(z=("short":Str)\/z=("cut":Str)\/z=("whole":Str))->WAt C H5 p pl d1 d2 d3 (Gi hs s1 z) fl gs->Ai d1 H4 H5->∃H6,Ik H5 h (.ref b1) (.str z) H6/\Q .non H6:=λz H5 hz W5 sB=>by
  have nt4:∀zs,H4 d1≠some (.tup zs):=λzs e=>by rw[R4.st] at e;cases e
  have hh5:=sB _ _ hh4 nh.1;have nth:∀zs,H5 h≠some (.tup zs):=λzs e=>by rw[hh5] at e;cases e
  refine⟨_,Ik.t (k:=k3 s1) hh5 ((sB.tup nt4) _ _ jR) (Ar (by omega)),?_⟩;obtain⟨dx5,hp5⟩:=W5.ins;have nph:p≠h:=λe=>by rw[e,hh5] at hp5;cases hp5
  refine q s1 z _ sIn hz (((hb4.Ep sB n1b.symm).Ep Ai.upd nhb.symm).mono (by omega)) (W5.Ep Ai.upd nth nph nh.1.symm nh.2.1.symm nh.2.2.symm) Ab ((sb.tup nt).trans ((sB.tup nt4).trans (Am.upd nth))) λc o e n1 n2 n3=>?_;rw[Ao n3];exact sB _ _ (sb _ _ e n1) n2
 refine⟨_,rq,_,_,rq,rq,_,rq,Ig (λ_=>?_) (λ_=>⟨_,rq,_,_,rq,rq,_,rq,Ig (λ_=>?_) (λ_=>?_)⟩)⟩
 ·refine⟨_,rq,p,dx4,_,rq,hp4,fno (by trivial),_,rq,p,pl,d1,d2,d3,hs,fl,gs,b1,s1,rq,R4,n12,jR,sIn,λH5 W5 sB=>?_⟩;obtain⟨H6,bT,hq⟩:=fin "short" H5 (.inl rfl) W5 sB;exact⟨_,rq,_,rq,h,H6,rq,bT,hq⟩
 ·refine⟨_,rq,p,dx4,_,rq,hp4,fno (by trivial),_,rq,p,pl,d1,d2,d3,hs,fl,gs,b1,s1,rq,R4,n12,jR,sIn,λH5 W5 sB=>?_⟩;obtain⟨H6,bT,hq⟩:=fin "cut" H5 (.inr (.inl rfl)) W5 sB;exact⟨_,rq,_,rq,h,H6,rq,bT,hq⟩
 ·refine⟨_,rq,p,dx4,_,rq,hp4,fno (by trivial),_,rq,p,pl,d1,d2,d3,hs,fl,gs,b1,s1,rq,R4,n12,jR,sIn,λH5 W5 sB=>?_⟩;obtain⟨H6,bT,hq⟩:=fin "whole" H5 (.inr (.inr rfl)) W5 sB;exact⟨_,rq,_,rq,h,H6,rq,bT,hq⟩
end
abbrev Tp:Stmt:=top 59
abbrev Qk:YF:=["_law_plan_here","_law_hows","_law_stops","_law_there","_law_loop_here","_law_end"]
abbrev yk:YF:=["_law_plan_here","_law_hows","_law_stops","_law_there","_law_loop_here","_law_end","_law_place","_law_short","_law_spots"]
theorem Nu:Ba yk Qk (Ak Tp):=by ac_rfl
theorem Z8 {α : Type} (c:α->Int):∀{l m:List α},(l.map c).Pairwise (· < ·)->(m.map c).Pairwise (· < ·)->(∀x,x∈l ↔ x∈m)->l=m
 | [],[],_,_,_=>rfl
 | [],b::m,_,_,h=>by have:=(h b).mpr (QaV ..);cases this
 | a::l,[],_,_,h=>by have:=(h a).mp (QaV ..);cases this
 | a::l,b::m,hl,hm,h=>by
  obtain⟨l1,l2⟩:=List.pairwise_cons.mp hl;obtain⟨m1,m2⟩:=List.pairwise_cons.mp hm;have l1:∀x∈l,c a < c x:=λx hx=>l1 _ (Qcn.mpr ⟨x,hx,rq⟩);have m1:∀x∈m,c b < c x:=λx hx=>m1 _ (Qcn.mpr ⟨x,hx,rq⟩);have e:a=b:=by
   rcases Qce.mp ((h a).mp (QaV ..)) with e | e
   ·exact e
   ·have:=m1 a e;rcases Qce.mp ((h b).mpr (QaV ..)) with e2 | e2
    ·exact e2.symm
    ·have:=l1 b e2;omega
  subst e;rw[Z8 c l2 m2 λx=>⟨λhx=>?_,λhx=>?_⟩]
  ·rcases Qce.mp ((h x).mp (QaJ _ hx)) with e | e
   ·have:=l1 x hx;rw[e] at this;omega
   ·exact e
  ·rcases Qce.mp ((h x).mpr (QaJ _ hx)) with e | e
   ·have:=m1 x hx;rw[e] at this;omega
   ·exact e
noncomputable def O7 (hs:YR) (gs:YT) (fl:YQ) (lp:Int) (n:Nat) (e:Str):YV:=by
 classical exact if h:∃L:YV,L.Perm (O6 hs gs fl lp n e)/\(L.map cd3).Pairwise (· < ·) then h.choose else []
theorem TV {hs:YR} {gs:YT} {fl:YQ} {lp:Int} {n:Nat} {e:Str} {L:YV} (h1:L.Perm (O6 hs gs fl lp n e)) (h2:(L.map cd3).Pairwise (· < ·)):L=O7 hs gs fl lp n e:=by
 have h:∃L:YV,L.Perm (O6 hs gs fl lp n e)/\(L.map cd3).Pairwise (· < ·):=⟨L,h1,h2⟩;unfold O7;rw[dif_pos h];obtain⟨h3,h4⟩:=h.choose_spec;exact Z8 cd3 h2 h4 λx=>by rw[h1.mem_iff,h3.mem_iff]
abbrev YS:=List (Sp3×Bool)
def tlV (th:YS):YL:=th.map λx=>(k3 x.1,.bl x.2)
def inT (th:YS) (s:Sp3):Bool:=(CV (tlV th) (k3 s)).isSome
def Mw (fl:YQ) (th:YS):Prop:=∀s,flC fl s=inT th s
def shE (hs:YR) (gs:YT) (lp:Int) (n:Nat) (e:Str):Bool:=!gpC gs (Bu lp n e)&&CP hs (Bf hs gs lp (CJ e) 16 (Bu lp n e).at_).1
theorem Yh (hs:YR) (gs:YT) (lp st:Int):∀f a,∀s∈(Bf hs gs lp st f a).2,s.lp=lp
 | 0,_,s,h=>by cases h
 | f+1,a,s,h=>by
  have sp:∀f n,∀s∈Dw hs lp (a+st) f n,s.lp=lp:=λf=>by
   induction f with
   | zero=>intro n s h;cases h
   | succ f ih=>
    intro n s h;unfold Dw at h;split at h
    ·cases h
    ·rcases Qce.mp h with rfl | h
     ·rfl
     ·exact ih (n+1) s h
  have h1:∀s∈(⟨lp,a+st,0⟩::Bx hs lp (a+st):YV),s.lp=lp:=λs h=>by
   rcases Qce.mp h with rfl | h
   ·rfl
   ·exact sp 4 1 s h
  unfold Bf at h;split at h
  ·cases h
  ·split at h
   ·exact h1 s h
   ·rcases QbJ.mp h with h | h
    ·exact h1 s h
    ·exact Yh hs gs lp st f (a+st) s h
def Inn (ja:YU) (ss:YV):Prop:=∀s∈ss,∀(k:Nat) (ps:List Place),ja[k]?=some ps->s.lp=(k:Int)->inn ps s=true
structure WR (ja:YU) (hs hw:YR) (gs sp:YT) (fl:YQ) (th:YS):Prop where
 k1:hs.map (·.1)=up (stL ja) ja.length
 rh:Qc hs hw
 rg:kY gs sp
 rt:Mw fl th
 bf:∀s∈fl.map (·.1),Bd3 s
 l30:fl.length<=30
 inn:Inn ja (fl.map (·.1))
def vI:Sp:=λvs H Q _=>∃(pl:Addr) (most:Int) (ja:YU) (jn:List Zone) (dh de dt:Addr) (hs hw:YR) (gs sp:YT) (fl:YQ) (th:YS) (k:Nat) (ps:List Place) (e:Str),vs=[.ref pl,.ref dh,.ref de,.ref dt,.int (k:Int),.str e]/\Fg H pl most ja jn/\ja[k]?=some ps/\H dh=some (.dT (stV hw))/\H de=some (.dT (gpV sp))/\H dt=some (.dT (tlV th))/\WR ja hs hw gs sp fl th/\(e=("A":Str)\/e=("B":Str)) /\
 ∀t l xs H',H' t=some (.tup [.ref l,.bl (shE hs gs k ps.length e)])->H l=none->H' l=some (.lst xs)->Paired (BL H') xs (O7 hs gs fl k ps.length e)->Same H H'->Q (.ref t) H'
section
variable {P:Program} {w:World} {K:YD} {mg:YB} {base:Heap} {op oe kd wk C:Addr}
theorem zY (c:Code K mg "_law_due" Tp Qk) (T:Tw K mg op oe kd wk C) (uE:Good P w K mg base "_law_walk" 1 N6 mj):Good P w K mg base "_law_due" 2 Qk vI:=by
 have sc:=Nu;refine c.good Nu (λvs H Q E h=>?_) (λf cdv A outer s H vs Q E hr h=>?_)
 ·obtain⟨pl,most,ja,jn,dh,de,dt,hs,hw,gs,sp,fl,th,k,ps,e,rfl,_⟩:=h;rfl
 obtain⟨pl,most,ja,jn,dh,de,dt,hs,hw,gs,sp,fl,th,k,ps,e,rfl,pa,hps,hdh,hde,hdt,W,he,q⟩:=h;refine⟨_,(Ae (Bb (i:=6) Nu.nd rfl (Or.inl rfl) (Bm Df (Ce (Aa Af (Aa (Bj Cg (Az Bh rfl T.len Cu (Aa (Bm BW (Bm BW (pv 0) Af (λ_ _=>rfl)) (pv 4) (λ_ _=>rfl)) Ac)) Af) Ac))) (Eb Pb rfl T.int SX (Aa (Es Eu (pv 5) Bp (Bq _)) Ac)) (λ_ _=>rfl)))
 (Ae (BX (Kc (RL (Cm hr) (Bg (Aa (pv 4) (Aa (pv 6) Ac))) (pv 2))) (Ah (Bc (Bg (Aa (Ce Ac) (Aa Dm Ac))))) Bv)
 (Ae (G5 (Ay uE hr (@Aa _ _ _ _ _ (pv 0) (@Aa _ _ _ _ _ (pv 1) (@Aa _ _ _ _ _ (pv 2) (@Aa _ _ _ _ _ (pv 4) (@Aa _ _ _ _ _ (pv 6) (@Aa _ _ _ _ _ (Bm Df (Ce (Aa Af (Aa (QC Ni Af) Ac))) (Eb Pb rfl T.int SX (Aa (Es Eu (pv 5) Bp (Bq _)) Ac)) (λ_ _=>rfl)) (@Ac _) lW) DR) DR) DR) DR) DR)) (CQ rfl (Aq (Aj (i:=7) Nu.nd rfl (Or.inl rfl)) (Aq (Aj (i:=8) Nu.nd rfl (Or.inl rfl)) Bt))))
 (Ae (BX (CK (pv 7)) (Ah (Bc (Bg (Aa (Ce Ac) (Aa Dm Ac))))) Bv)
 (Ah (Bc (Bg (Aa (Az SM rfl T.sorted SN (Aa (Cq (N':=["_law_spot","_law_there"]) rfl (Bo.of (src:=[none,some 3]) (Ak Tp) yk rfl rfl rfl (by trivial) (by trivial) (by trivial) rfl (by trivial)) (Du (pv 8)) (λ_ _ _ _=>(Aj (i:=0) (show List.Nodup (["_law_spot","_law_there"]:YF) by trivial) rfl (Or.inl rfl))) (λ_ _ _ _=>(Gy (Kc (RL (Cm hr) (pv 0) (pv 1))))) (λ_ _ _ _=>(pv 0))) Ac)) (Aa Dm Ac))))))))),?_⟩
 show let R0:TS:=_;let R1:TS:=_;let R2:TS:=Al (FQ _ R1 _) R0;let R3:TS:=Al _ R2;let R4:TS:=_;let R5:TS:=Al (FQ _ R4 _) R3;Al _ R5 _ _ _;intro R0 R1 R2 R3 R4 R5;have ok:=pa.ok;obtain⟨Ls,zs,ws,zvs,f1,f2,f3,f4,f5⟩:=pa.at_;have lw:=Qcd f3;have hkl:=(Qah.mp hps).1;have hwk:ws[k]?=some ws[k]:=Qam (by omega);obtain⟨ps',Kh,t,vs',ev,ht,hpp⟩:=Paired.Ck f3 hwk;rw[hps] at Kh;cases Kh;have lv:=Qcd hpp;have okl:=ok.ok ps (QaI hps);have l12:=okl.hi;have Od:atI ws (k:Int)=some (.ref t):=DY (by rw[hwk,ev]);have hAB:decide (V.str "A"=V.str "B")=false:=by trivial
 have hBB:decide (V.str "B"=V.str "B")=true:=by trivial
 have eA:Sv "A"=true:=by unfold Sv;decide +kernel
 have eB:Sv "B"=false:=by unfold Sv;decide +kernel
 have IF:atI [V.int 0,V.int ((vs'.length:Int)+1)] (if decide (V.str e=V.str "B")=true then 1 else 0)=some (.int (Bu k ps.length e).at_):=by
  unfold Bu;rcases he with rfl | rfl
  ·rw[hAB,eA];rfl
  ·rw[hBB,eB,lv];rfl
 have IE:atI [V.int 1,V.int (-1)] (if decide (V.str e=V.str "B")=true then 1 else 0)=some (.int (CJ e)):=by
  unfold CJ;rcases he with rfl | rfl
  ·rw[hAB,eA];rfl
  ·rw[hBB,eB];rfl
 have hst:CJ e=1\/CJ e=-1:=by unfold CJ;split;exact .inl rfl;exact .inr rfl
 have ga:0<=(Bu k ps.length e).at_/\(Bu k ps.length e).at_<=(ps.length:Int)+1:=by
  unfold Bu;dsimp only;split <;> omega
 have qn:∀(b:Bool) (HX:Hp),Same H HX->O6 hs gs fl k ps.length e=[]->shE hs gs k ps.length e=b->∀l,HX l=none->∀tr,(upd HX l (.lst [])) tr=none->Q (.ref tr) (upd (upd HX l (.lst [])) tr (.tup [.ref l,.bl b])):=λb HX sX h1 h2 l hl tr htr=>by
  have k1:=Ag hl (.lst []);have k2:=Ag htr (.tup [.ref l,.bl b]);have hL:([]:YV)=O7 hs gs fl k ps.length e:=TV (by rw[h1]) .nil;refine q tr l [] _ (by rw[Ab,h2]) (sX.free hl) (k2 _ _ Ab) (by rw[<-hL];exact .nil) ((sX.trans k1).trans k2)
 refine⟨_,rq,pl,_,_,_,rq,rq,SqT.of f1,rq,_,rq,Ls,_,_,_,rq,rq,SqT.of f2,Od,t,_,rq,.inr (SqT.of ht),_,_,rq,rq,Av (by show 2<=1000;decide),λlr hlr=>?_⟩;have n1:=Ag hlr (.lst [V.int 0,V.int ((vs'.length:Int)+1)]);refine⟨_,rq,rq,.inr ⟨_,rq,lr,_,_,_,rq,rq,SqL.of Ab,IF,?_⟩⟩;generalize upd H lr (.lst [V.int 0,V.int ((vs'.length:Int)+1)])=H1 at *;refine⟨_,rq,_,rq,Av (by show 2<=1000;decide),λtg htg=>?_⟩;have n2:=Ag htg (.tup [.int (k:Int),.int (Bu k ps.length e).at_]);have s2:=n1.trans n2;have gg:=Dj.t (k:=k2 (Bu k ps.length e)) (s2 _ _ hde) Ab;generalize upd H1 tg (.tup [.int (k:Int),.int (Bu k ps.length e).at_])=H2 at *;have eg:gpC gs (Bu k ps.length e)=(CV (gpV sp) (k2 (Bu k ps.length e))).isSome:=W.rg _;refine⟨_,rq,de,_,rq,gg,_,rq,Gn (λhg=>?_) (λhg=>?_)⟩
 ·rw[hg] at eg;refine⟨Av (by show 0<=1000;decide),λl hl=>⟨Av (by show 2<=1000;decide),λtr htr=>?_⟩⟩;exact qn false H2 s2 (if_pos eg) (by unfold shE;rw[eg];rfl) l hl tr htr
 rw[hg] at eg;have hg':¬gpC gs (Bu k ps.length e)=true:=by rw[eg];decide
 refine⟨_,rq,_,rq,_,rq,_,rq,_,rq,_,rq,Av (by show 2<=1000;decide),λls hls=>?_⟩;have n3:=Ag hls (.lst [V.int 1,V.int (-1)]);refine⟨_,rq,rq,.inr ⟨_,rq,ls,_,_,_,rq,rq,SqL.of Ab,IE,?_⟩⟩;have s3:=s2.trans n3;generalize upd H2 ls (.lst [V.int 1,V.int (-1)])=H3 at *;have eW1:(K6 hw sp ps k (CJ e) (Bu k ps.length e).at_).1=CP hs (Bf hs gs k (CJ e) 16 (Bu k ps.length e).at_).1:=by
  unfold K6;rw[qI hps okl W.k1 W.rh W.rg hst _ 16 _ false ga.1 ga.2 rfl (by unfold GQ;split <;> omega),Bool.false_or]
 have eW2:(K6 hw sp ps k (CJ e) (Bu k ps.length e).at_).2=(Bf hs gs k (CJ e) 16 (Bu k ps.length e).at_).2.filter (inn ps):=by
  unfold K6;exact lZ hps okl W.k1 W.rh W.rg hst _ 16 _ false ga.1 ga.2 rfl (by unfold GQ;split <;> omega)
 refine⟨pl,most,ja,jn,dh,de,hw,sp,k,ps,(Bu k ps.length e).at_,CJ e,rq,pa.tups (Am.of s3),hps,s3 _ _ hdh,s3 _ _ hde,hst,ga.1,ga.2,λtw lp xs H4 htw hlp pxs s4=>⟨tw,_,rq,SqT.of htw,rq,_,_,rq,_,_,rq,rq,?_⟩⟩;rw[eW1];rw[eW2] at pxs;have s04:=s3.trans s4;refine⟨_,rq,_,rq,Gn (λhsh=>?_) (λhsh=>?_)⟩
 ·refine⟨Av (by show 0<=1000;decide),λl hl=>⟨Av (by show 2<=1000;decide),λtr htr=>?_⟩⟩;exact qn true H4 s04 ((if_neg hg').trans (if_pos hsh)) (by unfold shE;rw[eg,hsh];rfl) l hl tr htr
 have hw':O6 hs gs fl k ps.length e=(Bf hs gs k (CJ e) 16 (Bu k ps.length e).at_).2.filter (flC fl):=(if_neg hg').trans (if_neg (by rw[hsh];decide));have hsE:shE hs gs k ps.length e=false:=by unfold shE;rw[hsh,Bool.and_false]
 have cnd:=(SJ hs gs k (CJ e) hst 16 (Bu k ps.length e).at_).1;have clp:=Yh hs gs k (CJ e) 16 (Bu k ps.length e).at_;generalize (Bf hs gs k (CJ e) 16 (Bu k ps.length e).at_).2=cw at *;have eF:(cw.filter (inn ps)).filter (inT th)=cw.filter (flC fl):=by
  rw[List.filter_filter];refine List.filter_congr λs hs=>?_;rw[<-W.rt s];cases c:flC fl s with
  | false=>rfl
  | true=>rw[W.inn s (Sq c) k ps hps (clp s hs)];rfl
 have cg:(cw.filter (flC fl)).Nodup:=List.Nodup.sublist List.filter_sublist cnd;have fin:∀s∈cw.filter (flC fl),s∈fl.map (·.1):=λs h=>Sq (QbO.mp h).2;have l30:=W.l30;have uJ:(cw.filter (flC fl)).length<=30:=by
  have:=QJ cg fin;rw[QbH] at this;omega
 have fbd:∀s∈cw.filter (flC fl),Bd3 s:=λs h=>W.bf s (fin s h);have ly:=Qcd pxs;refine⟨_,rq,lp,rq,⟨_,SqL.of hlp⟩,λlc hlc=>?_⟩;let J0:YN:=λi U HH=>(∃u,U=[u,jp dt])/\(∃zs,HH lc=some (.lst zs)/\Paired (BL HH) zs (((cw.filter (inn ps)).take i).filter (inT th)))/\Same H4 HH;refine Gg (xs:=xs) J0 ⟨⟨_,rq⟩,⟨[],Ab,.nil⟩,Ag hlc _⟩ (λi U HH _ h=>SqL.of (h.2.2 _ _ hlp)) (λi x U HH hx h=>?_) (fun U HH h=>?_)
 ·obtain⟨⟨u,rfl⟩,⟨zs,e1,e3⟩,e2⟩:=h;obtain⟨sp',hsp,b,rfl,hbt⟩:=Paired.Ck pxs hx;have lz:=Qcd e3;have EE:zs.length<=30:=by
   rw[lz];refine Qcr ((List.Sublist.filter _ (List.take_sublist i _)).length_le) ?_;rw[eF];exact uJ
  have et:((cw.filter (inn ps)).take (i+1)).filter (inT th)=((cw.filter (inn ps)).take i).filter (inT th)++[sp'].filter (inT th):=by rw[QcE hsp,Qbf]
  unfold FN;dsimp only;refine⟨_,rq,_,rq,dt,_,rq,Dj.t (k:=k3 sp') (e2 _ _ (s04 _ _ hdt)) (e2 _ _ hbt),_,rq,Gn (λhc=>?_) (λhc=>?_)⟩
  ·have hc:inT th sp'=true:=hc;have ntl:∀us,HH lc≠some (.tup us):=λus z=>by rw[e1] at z;cases z
   have sL:=Am.upd (o:=.lst (zs++[.ref b])) ntl;refine⟨_,rq,zs,e1,Ar (by omega),⟨_,rq⟩,⟨_,Ab,?_⟩,e2.Bl Ai.upd hlc⟩;rw[et,Qau hc];exact Qcy ⟨b,rq,sL _ _ (e2 _ _ hbt)⟩ (Paired.Ax e3 λ_ _ z=>z.tups sL)
  ·have hc:inT th sp'=false:=hc;refine⟨⟨_,rq⟩,⟨zs,e1,?_⟩,e2⟩;rw[et,Qat (by rw[hc];decide)];show Paired _ _ (_++[]);rw[QbK];exact e3
 obtain⟨_,⟨zs,e1,e3⟩,e2⟩:=h;rw[ly,Qbx,eF] at e3;have lz:=Qcd e3;refine ZG (ks:=(cw.filter (flC fl)).map cd3) (SqL.of e1) (by omega) (bO e3 fbd) (pZ cg fbd) λis ls' hperm O5 hls'=>?_;rw[lz] at hperm;have s5:=Ag hls' (.lst (is.map λi=>zs.getD i .non));have p5:Paired (BL (upd HH ls' (.lst (is.map λi=>zs.getD i .non)))) (is.map λi=>zs.getD i .non) (is.map λi=>(cw.filter (flC fl)).getD i ⟨0,0,0⟩):=QF (Paired.Ax e3 λ_ _ z=>z.tups (Am.of s5)) is λi hi=>by rw[lz];exact Qcb.mp (hperm.mem_iff.mp hi)
 rw[TV (L:=is.map λi=>(cw.filter (flC fl)).getD i ⟨0,0,0⟩) (by rw[hw'];exact ZK hperm) (by rw[ZL hperm];exact O5)] at p5;refine⟨Av (by show 2<=1000;decide),λtr htr=>?_⟩;have s6:=Ag htr (.tup [.ref ls',.bl false]);exact q tr ls' _ _ (by rw[Ab,hsE]) ((s04.trans e2).free hls') (s6 _ _ Ab) (Paired.Ax p5 λ_ _ z=>z.tups (Am.of s6)) ((s04.trans e2).trans (s5.trans s6))
end
abbrev Rt:Stmt:=top 60
abbrev Lx:YF:=["_law_plan_here","_law_wires","_law_hows","_law_there","_law_rest"]
theorem Ga:Ba ["_law_plan_here","_law_wires","_law_hows","_law_there","_law_rest","_law_stops","_law_loop_here","_law_end","_law_due_here","_law_short","_law_told"] Lx (Ak Rt):=by ac_rfl
def Rr (s:Sp3):PyData:=.tuple [.int s.lp,.int s.at_,.int s.n]
theorem Nq {H:Hp}:∀{vs:YG} {ss:YV},Paired (BL H) vs ss->Oj H vs (ss.map Rr)
 | _,_,.nil=>.nil
 | _,_,.cons ⟨t,e,h1⟩ r=>by
  subst e;exact .cons (.tup h1 (.cons (.int _) (.cons (.int _) (.cons (.int _) .nil)))) (Nq r)
theorem fJ:∀ss:YV,PyData.canLayAll0 (ss.map Rr)=true/\PyData.depthAll (ss.map Rr)<=2
 | []=>⟨rfl,by show 0<=2;decide⟩
 | d::r=>by
  have ih:=fJ r;refine⟨?_,?_⟩
  ·show ((true&&(true&&(true&&true)))&&PyData.canLayAll0 (r.map Rr))=true;rw[ih.1];rfl
  ·show max (max 0 (max 0 (max 0 0))+1) (PyData.depthAll (r.map Rr))<=2;exact Nat.max_le.mpr ⟨by decide,ih.2⟩
theorem JQ (ss:YV):SeqAt.shaped (.list (ss.map Rr))=true:=by
 have h1:=fJ ss;show (PyData.canLayAll0 (ss.map Rr)&&decide (PyData.depthAll (ss.map Rr)+1<=64))=true;rw[h1.1,Bool.true_and];exact QbY (by omega)
def Jl (gs:YT):YT:=((gs.filter (·.2)).map (·.1)).map λg=>(g,true)
theorem mU {gs:YT} (nd:(gs.map (·.1)).Nodup):kY gs (Jl gs):=λg=>by
 have h:inG (Jl gs) g=true ↔ g∈(gs.filter (·.2)).map (·.1):=by
  have k:(Jl gs).map (·.1)=(gs.filter (·.2)).map (·.1):=by unfold Jl;rw[Qcq];exact List.map_id _
  rw[<-k];unfold inG;rw[T4];constructor
  ·intro h;cases e:(Jl gs).find? λx=>decide (x.1=g) with
   | none=>rw[e] at h;cases h
   | some y=>exact Qcn.mpr ⟨y,Qal e,by have:=List.find?_some e;simpa using this⟩
  ·intro h;obtain⟨x,hx,ex⟩:=Qcn.mp h;cases e:(Jl gs).find? λx=>decide (x.1=g) with
   | none=>exact absurd ex (by simpa using Qbk.mp e x hx)
   | some y=>rfl
 cases c:gpC gs g with
 | true=>
  refine (h.mpr ?_).symm;have hk:=Xm c;obtain⟨x,hx,rfl⟩:=Qcn.mp hk;rw[RW nd hx] at c;exact Qcn.mpr ⟨x,QbO.mpr ⟨hx,c⟩,rq⟩
 | false=>
  cases c':inG (Jl gs) g with
  | false=>rfl
  | true=>
   obtain⟨x,hx,rfl⟩:=Qcn.mp (h.mp c');obtain⟨h1,h2⟩:=QbO.mp hx;rw[RW nd h1] at c;rw[c] at h2;cases h2
def fQ (C:Addr):Sp:=λvs H Q _=>∃(p pl d1 d2 d3:Addr) (most:Int) (ja:YU) (jn:List Zone) (dh dt:Addr) (hs hw:YR) (gs:YT) (fl:YQ) (th:YS) (rs:Bool),vs=[.ref pl,.ref p,.ref dh,.ref dt,.bl rs]/\WAt C H p pl d1 d2 d3 hs fl gs/\Fg H pl most ja jn/\H dh=some (.dT (stV hw))/\H dt=some (.dT (tlV th))/\WR ja hs hw gs (Jl gs) fl th/\gs.map (·.1)=up (gtL ja) ja.length/\(rs=true->∀(k:Nat) (ps:List Place) (e:Str),ja[k]?=some ps->shE hs gs k ps.length e=false)/\∀H',Same H H'->Q (.bl true) H'
theorem Xn {ja:YU} {k:Nat} {ps:List Place} (hps:ja[k]?=some ps) (e:Str):Bu k ps.length e∈up (gtL ja) ja.length:=by
 refine Om (i:=k) ?_ (Qah.mp hps).1;unfold gtL;rw[CW hps];unfold Bu;split
 ·exact QaK _ (QaV ..)
 ·exact QaE _ (QaV ..)
section
variable {P:Program} {w:World} {K:YD} {mg:YB} {base:Heap} {op oe kd wk C:Addr}
theorem su (c:Code K mg "_law_right" Rt Lx) (T:Tw K mg op oe kd wk C) (yu:Good P w K mg base "_law_due" 2 Qk vI) (jY:CN P w K mg base C "parted" 1 GD (Zv C)) (X8:CN P w K mg base C "heard" 3 Hf (f9 C)):Good P w K mg base "_law_right" 4 Lx (fQ C):=by
 have sc:=Ga;refine c.good Ga (λvs H Q E h=>?_) (λf cdv A outer s H vs Q E hr h=>?_)
 ·obtain⟨p,pl,d1,d2,d3,most,ja,jn,dh,dt,hs,hw,gs,fl,th,rs,rfl,_⟩:=h;rfl
 obtain⟨p,pl,d1,d2,d3,most,ja,jn,dh,dt,hs,hw,gs,fl,th,rs,rfl,R,pa,hdh,hdt,W,k3',hrs,q⟩:=h;refine⟨_,(Ae (Bb (i:=5) Ga.nd rfl (Or.inl rfl) (Eb (Uy hr.units rfl) rfl T.dict iJ (Aa (Cq (N':=["_law_gate"]) rfl (Bo.plain rfl (by trivial) (by trivial) (by trivial)) (Du (aD (pv 1) T.cl jY hr)) (λ_ _ _ _=>(Aj (i:=0) (show List.Nodup (["_law_gate"]:YF) by trivial) rfl (Or.inl rfl))) (λ_ _ _ _=>Di) (λ_ _ _ _=>(Bg (Aa (pv 0) (Aa Dm Ac))))) Ac)))
 (Ae (Cd QbL rfl (CT rfl T.range (Aa (Az Bh rfl T.len Cu (Aa (Bm BW (pv 0) Af (λ_ _=>rfl)) Ac)) Ac)) (Aj (i:=6) Ga.nd rfl (Or.inl rfl))
 (Ah (Cd QbL rfl (Fp (Bg (Aa Bp (Aa Bp Ac)))) (Aj (i:=7) Ga.nd rfl (Or.inl rfl))
 (Ae (G5 (Ay yu hr (@Aa _ _ _ _ _ (pv 0) (@Aa _ _ _ _ _ (pv 2) (@Aa _ _ _ _ _ (pv 5) (@Aa _ _ _ _ _ (pv 3) (@Aa _ _ _ _ _ (pv 6) (@Aa _ _ _ _ _ (pv 7) (@Ac _) DR) DR) DR) DR) DR) DR)) (CQ rfl (Aq (Aj (i:=8) Ga.nd rfl (Or.inl rfl)) (Aq (Aj (i:=9) Ga.nd rfl (Or.inl rfl)) Bt))))
 (Ae (Bb (i:=10) Ga.nd rfl (Or.inl rfl) (Hu (pv 1) T.cl X8 hr (Aa (pv 6) (Aa (pv 7) Ac))))
 (Ae (BX (PW.pt (Lb (En (CK (Az Oi rfl T.isinstance Hj (Aa (pv 10) (Aa (Qg (v:=.ty "list") rfl T.list iI rfl) Ac))))) (Lb (Bs (nH hr.units) (pv 10) (pv 8) (Bq _)) (Lk (PW.pt (au (CK (pv 9)) (WY (CK (pv 4))))))))) (Ah (Bc Dm)) Bv)
 (Ae (Bk (zT Qar PySem.F.slot_list_clear PySem.F.type_list_clear tV (pv 10)))
 (Ah (BX (Bs (nH hr.units) (Hu (pv 1) T.cl X8 hr (Aa (pv 6) (Aa (pv 7) Ac))) (pv 8) (Bq _)) (Ah (Bc Dm)) Bv)))))))))
 (Ah (Bc Dm)))),?_⟩
 show let R0:TS:=_;let R1:TS:=Al _ R0;let R2:TS:=Al _ R1;let R3:TS:=Al _ R2;let R4:TS:=Al _ R3;let R5:TS:=Dg _ _ R4;let R6:TS:=Al (Dg _ _ R5) _;Al _ R6 _ _ _;intro R0 R1 R2 R3 R4 R5 R6;have ok:=pa.ok;obtain⟨Ls,zs,ws,zvs,f1,f2,f3,f4,f5⟩:=pa.at_;have lw:=Qcd f3;have l3:=ok.hi;have hbs:∀s∈hs.map (·.1),Bd3 s:=by rw[W.k1];exact vB ok
 obtain⟨dx,hp⟩:=R.ins;have lgs:=R.l3;refine⟨_,rq,p,dx,_,rq,hp,fno (by trivial),p,pl,d1,d2,d3,hs,fl,gs,rq,R,λlp xp H1 flp hlp pp s1=>⟨lp,rq,⟨_,SqL.of hlp⟩,λlc hlc=>?_⟩⟩;have lpp:=Qcd pp;have NY:((gs.filter (·.2)).map (·.1)).length<=200:=by
  rw[QbH];have:=List.length_filter_le (λx:Gt×Bool=>x.2) gs;omega
 let J0:YN:=λi U HH=>(∃u,U=[u])/\(∃ys,HH lc=some (.lst ys)/\Paired (Wi HH) ys ((((gs.filter (·.2)).map (·.1)).take i).map λg=>(k2 g,V.bl true)))/\Same H1 HH;refine Gg (xs:=xp) J0 ⟨⟨_,rq⟩,⟨[],Ab,.nil⟩,Ag hlc _⟩ (λi U HH _ h=>SqL.of (h.2.2 _ _ hlp)) (λi x U HH hx h=>?_) (fun U HH h=>?_)
 ·obtain⟨⟨u,rfl⟩,⟨ys,g1,g2⟩,g3⟩:=h;obtain⟨g,hg,u1,rfl,hu1⟩:=Paired.Ck pp hx;have hi:=(Qah.mp hx).1;have ly:=Qcd g2;rw[QbH,Qbz] at ly;unfold FN;dsimp only;refine Cr ⟨_,rq,Av (by show 2<=1000;decide),λtr htr=>?_⟩;have k1:=Ag htr (.tup [.ref u1,.bl true]);have g1':=k1 _ _ g1;have ntl:∀zs,(upd HH tr (.tup [.ref u1,.bl true])) lc≠some (.tup zs):=λzs z=>by rw[g1'] at z;cases z
  have sL:=Am.upd (o:=.lst (ys++[.ref tr])) ntl;refine⟨ys,g1',Ar (by omega),⟨_,rq⟩,⟨_,Ab,?_⟩,(g3.trans k1).Bl Ai.upd hlc⟩;rw[QcE hg,QbI];refine Qcy ⟨tr,u1,rq,sL _ _ Ab,sL _ _ (k1 _ _ (g3 _ _ hu1))⟩ (Paired.Ax g2 λv r zz=>?_);obtain⟨t1,b1,a1,a2,a3⟩:=zz;exact⟨t1,b1,a1,sL _ _ (k1 _ _ a2),sL _ _ (k1 _ _ a3)⟩
 obtain⟨_,⟨ys,g1,g2⟩,g3⟩:=h;rw[lpp,Qbx] at g2;have ndr:((((gs.filter (·.2)).map (·.1)).map λg=>(k2 g,V.bl true)).map (·.1)).Nodup:=by
  rw[Qcq];have nd0:((gs.filter (·.2)).map (·.1)).Nodup:=(List.Sublist.map _ List.filter_sublist).nodup R.nd3;rw[Qag] at nd0 ⊢;rw[Qbv];exact nd0.imp λ{a b} h e=>h (RT e)
 refine⟨lc,ys,_,rq,g1,g2,ndr,by rw[QbH];omega,λde hde=>?_⟩;have s2:=Ag hde (.dT (((gs.filter (·.2)).map (·.1)).map λg=>(k2 g,V.bl true)));have hst:(upd HH de (.dT (((gs.filter (·.2)).map (·.1)).map λg=>(k2 g,V.bl true)))) de=some (.dT (gpV (Jl gs))):=by
  rw[Ab];unfold gpV Jl;rw[Qcq (g:=λx:Gt×Bool=>(k2 x.1,V.bl x.2))];rfl
 have sH2:=(s1.trans g3).trans s2;generalize upd HH de (.dT (((gs.filter (·.2)).map (·.1)).map λg=>(k2 g,V.bl true)))=H2 at *;refine⟨_,rq,pl,_,_,_,rq,rq,SqT.of (sH2 _ _ f1),rq,Ls,_,rq,.inr (SqT.of (sH2 _ _ f2)),_,rq,by omega,by omega,?_⟩;rw[Qbo];let J1:YN:=λk U HX=>∃(u6 u7 u8 u9 u10:Option V),U=[jp pl,jp p,jp dh,jp dt,some (.bl rs),jp de,u6,u7,u8,u9,u10]/\Same H2 HX;refine Ec J1 ⟨_,_,_,_,_,rq,Same.refl _⟩ (λk U HX hk h=>?_) (fun U HX h=>?_)
 ·obtain⟨u6,u7,u8,u9,u10,rfl,sx⟩:=h;have hkl:k < ja.length:=by omega
  have hps:ja[k]?=some ja[k]:=Qam hkl;rw[Qcu];refine⟨Av (by show 2<=1000;decide),λtt htt=>?_⟩;have n1:=Ag htt (.tup [.str "A",.str "B"]);have AR:(upd HX tt (.tup [.str "A",.str "B"])) tt=some (.tup [.str "A",.str "B"]):=Ab;have sx1:=sx.trans n1;generalize upd HX tt (.tup [.str "A",.str "B"])=HT at *;refine⟨tt,rq,⟨_,SqT.of AR⟩,?_⟩;let J2:YN:=λi U HY=>∃(u7 u8 u9 u10:Option V),U=[jp pl,jp p,jp dh,jp dt,some (.bl rs),jp de,some (.int (k:Int)),u7,u8,u9,u10]/\Same HT HY;refine KY (xs:=[.str "A",.str "B"]) J2 ⟨_,_,_,_,rfl,Same.refl _⟩ (λi U HY _ h=>by obtain⟨_,_,_,_,_,h⟩:=h;exact SqT.of (h _ _ AR)) (λi x U HY hx h=>?_) (fun U HY h=>?_)
  ·obtain⟨u7,u8,u9,u10,rfl,sy⟩:=h;obtain⟨e,rfl,he⟩ : ∃e:Str,x=.str e/\(e=("A":Str)\/e=("B":Str)):=by
    match i,hx with
    | 0,hx=>cases hx;exact⟨_,rfl,.inl rfl⟩
    | 1,hx=>cases hx;exact⟨_,rfl,.inr rfl⟩
    | n+2,hx=>cases hx
   have s2Y:=sx1.trans sy;have sHY:=sH2.trans s2Y;unfold FN;dsimp only;refine⟨_,rq,_,rq,_,rq,_,rq,_,rq,_,rq,pl,most,ja,jn,dh,de,dt,hs,hw,gs,Jl gs,fl,th,k,ja[k],e,rq,pa.tups (Am.of sHY),hps,sHY _ _ hdh,s2Y _ _ hst,sHY _ _ hdt,W,he,λtd ld xd H3 htd fld hld pld s3=>⟨td,_,rq,SqT.of htd,rq,_,_,rq,_,_,rq,rq,?_⟩⟩;have sH3:=sHY.trans s3;have R3:=R.same sH3;obtain⟨dx3,hp3⟩:=R3.ins;refine⟨_,rq,p,dx3,_,rq,hp3,fno (by trivial),_,rq,_,rq,p,pl,d1,d2,d3,hs,fl,gs,most,ja,jn,k,ja[k],e,rq,R3,pa.tups (Am.of sH3),hps,hbs,W.bf,W.l30,by rw[k3'];exact Xn hps e,λlt xt L H4 flt hlt plt perm rise s4=>?_⟩;rw[TV perm rise] at plt;have AY:=s4 _ _ hld;have zO:Paired (BL H4) xd (O7 hs gs fl k ja[k].length e):=Paired.Ax pld λ_ _ z=>z.tups (Am.of s4);have Be:=SeqAt.eqv_refl _ (SeqAt.canLay_of_shaped (JQ (O7 hs gs fl k ja[k].length e)));refine uw ?_;dsimp only;show Al (FQ _ _ _) _ _ _ _;refine Lj (fun U HZ=>U=[jp pl,jp p,jp dh,jp dt,some (.bl rs),jp de,some (.int (k:Int)),some (.str e),jp ld,some (.bl (shE hs gs k ja[k].length e)),jp lt]/\HZ=H4) (fun U HZ h=>?_) (λD' hn=>?_);rotate_left 1
   ·refine⟨_,rq,uc hlt ⟨_,rq,Cp ⟨_,rq,_,rq,_,_,.lst hlt (Nq plt),.lst AY (Nq zO),JQ _,JQ _,_,rq,?_⟩⟩⟩;rw[Be];refine Cp ⟨_,rq,_,rq,Gn (λhsh=>⟨_,rq,_,rq,?_⟩) (λhsh=>Cp (hn _ _ ⟨rq,rq⟩))⟩;cases rs with
    | true=>rw[hrs rfl k ja[k] e hps] at hsh;cases hsh
    | false=>exact Cp (hn _ _ ⟨rfl,rfl⟩)
   obtain⟨rfl,rfl⟩:=h;refine⟨_,rq,.inl ⟨rq,_,SqL.of hlt⟩,lt,_,rq,rq,hlt,?_⟩;have ndl:ld≠lt:=Aw hld flt;have s5:Same H3 (upd HZ lt (.lst [])):=s4.Bl Ai.upd flt;have ntt:∀zs,HZ lt≠some (.tup zs):=λzs z=>by rw[hlt] at z;cases z
   have Iy:(upd HZ lt (.lst [])) ld=some (.lst xd):=by rw[Ao ndl];exact AY
   have D8:Paired (BL (upd HZ lt (.lst []))) xd (O7 hs gs fl k ja[k].length e):=Paired.Ax zO λ_ _ z=>z.tups (Am.upd ntt);generalize upd HZ lt (.lst [])=H5 at *;have sH5:=sH3.trans s5;have R5:=R.same sH5;obtain⟨dx5,hp5⟩:=R5.ins;refine⟨_,rq,p,dx5,_,rq,hp5,fno (by trivial),_,rq,_,rq,p,pl,d1,d2,d3,hs,fl,gs,most,ja,jn,k,ja[k],e,rq,R5,pa.tups (Am.of sH5),hps,hbs,W.bf,W.l30,by rw[k3'];exact Xn hps e,λlt2 xt2 L2 H6 OA hlt2 zN Cn B9 s6=>?_⟩;rw[TV Cn B9] at zN;have D7:Paired (BL H6) xd (O7 hs gs fl k ja[k].length e):=Paired.Ax D8 λ_ _ z=>z.tups (Am.of s6);refine⟨_,rq,_,_,.lst hlt2 (Nq zN),.lst (s6 _ _ Iy) (Nq D7),JQ _,JQ _,_,rq,?_⟩;rw[Be];exact Cp ⟨_,_,_,_,rq,sy.trans (s3.trans (s5.trans s6))⟩
  ·obtain⟨u7,u8,u9,u10,rfl,sy⟩:=h;exact⟨_,_,_,_,_,rq,sx1.trans sy⟩
 ·obtain⟨u6,u7,u8,u9,u10,rfl,sx⟩:=h;exact q HX (sH2.trans sx)
end
abbrev MJ:Stmt:=top 61
abbrev vN:YF:=["_law_script"]
theorem Ez:Ba ["_law_script","_law_bag_here","_law_plan_here","_law_wires","_law_gates_here","_law_wire_names","_law_hows","_law_there","_law_spots","_law_k","_law_again","_law_spot","_law_way","_law_rest"] vN (Ak MJ):=by ac_rfl
theorem lO (s:Sp3):∀th:YS,CV (tlV th) (k3 s)=(th.find? λx=>decide (x.1=s)).map λx=>V.bl x.2
 | []=>rfl
 | a::r=>by
  by_cases e:a.1=s
  ·rw[Qaz (p:=λx:Sp3×Bool=>decide (x.1=s)) (QbY e)];exact Jo (p:=(k3 a.1,V.bl a.2)) (by rw[e])
  ·rw[Qay (p:=λx:Sp3×Bool=>decide (x.1=s)) (by simpa using e),<-lO s r];exact GR (p:=(k3 a.1,V.bl a.2)) λz=>e (Ie z)
theorem Vd (th:YS) (s:Sp3):inT th s=(th.find? λx=>decide (x.1=s)).isSome:=by
 unfold inT;rw[lO];cases th.find? λx=>decide (x.1=s) <;> rfl
theorem JK {th:YS} {s:Sp3}:inT th s=true ↔ s∈th.map (·.1):=by
 rw[Vd,List.find?_isSome];constructor
 ·rintro ⟨x,hx,e⟩;exact Qcn.mpr ⟨x,hx,Qbp e⟩
 ·intro h;obtain⟨x,hx,e⟩:=Qcn.mp h;exact⟨x,hx,QbY e⟩
theorem iu {fl:YQ} {s:Sp3} (h:s∈fl.map (·.1)) (v:Option (Str×Int)) (s':Sp3):flC (Gi fl s v) s'=if s'=s then v.isSome else flC fl s':=by
 unfold flC;rw[show Gi fl s v=Q5 fl s v from rfl,Og s s' v fl h]
 by_cases e:s'=s
 ·rw[if_pos e,if_pos e];rfl
 ·rw[if_neg e,if_neg e]
theorem qN (th:YS) (s:Sp3) (b:Bool):putK (tlV th) (k3 s) (.bl b)=tlV (putL th s b):=gC (λ_ _ e=>Ie e) th s b
theorem Mw.put {fl:YQ} {th:YS} (r:Mw fl th) {s:Sp3} (h:s∈fl.map (·.1)) (d:Str×Int):Mw (Gi fl s (some d)) (putL th s true):=λs'=>by
 rw[iu h,Vd,cj];by_cases e:s'=s
 ·rw[if_pos e,if_pos e];rfl
 ·rw[if_neg e,if_neg e,<-Vd];exact r s'
theorem Mw.out {fl:YQ} {th th':YS} (r:Mw fl th) {s:Sp3} (h:s∈fl.map (·.1)) (hs:∀s',s'∈th'.map (·.1) ↔ s'∈th.map (·.1)/\s'≠s):Mw (Gi fl s none) th':=λs'=>by
 rw[iu h];by_cases e:s'=s
 ·rw[if_pos e];cases c:inT th' s' with
  | false=>rfl
  | true=>exact absurd e ((hs s').mp (JK.mp c)).2
 ·rw[if_neg e,r s'];cases c:inT th s' with
  | true=>exact (JK.mpr ((hs s').mpr ⟨JK.mp c,e⟩)).symm
  | false=>
   cases c':inT th' s' with
   | false=>rfl
   | true=>rw[JK.mpr ((hs s').mp (JK.mp c')).1] at c;cases c
theorem pK {sp:YS} (nd:(sp.map (·.1)).Nodup) {j:Nat} {x:Sp3×Bool} (hj:sp[j]?=some x) (g:Sp3):g∈(sp.eraseIdx j).map (·.1) ↔ g∈sp.map (·.1)/\g≠x.1:=by
 induction sp generalizing j with
 | nil=>simp at hj
 | cons a r ih=>
  obtain⟨n1,n2⟩:=QbP.mp nd;cases j with
  | zero=>
   have hj:a=x:=by simpa using hj
   subst hj;show g∈r.map (·.1) ↔ g∈a.1::r.map (·.1)/\_;rw[Qce];constructor
   ·intro h;exact⟨.inr h,λe=>n1 (by show a.1∈r.map (·.1);rw[<-e];exact h)⟩
   ·rintro ⟨h | h,e⟩
    ·exact absurd h e
    ·exact h
  | succ j=>
   have hj:r[j]?=some x:=by simpa using hj
   show g∈a.1::(r.eraseIdx j).map (·.1) ↔ g∈a.1::r.map (·.1)/\_;rw[Qce,Qce,ih n2 hj];constructor
   ·rintro (h |⟨h1,h2⟩)
    ·exact⟨.inl h,λe=>n1 (Qcn.mpr ⟨x,QaI hj,by rw[<-e,h]⟩)⟩
    ·exact⟨.inr h1,h2⟩
   ·rintro ⟨h | h,e⟩
    ·exact .inl h
    ·exact .inr ⟨h,e⟩
theorem lQ (sp:YS) (j:Nat):(tlV sp).eraseIdx j=tlV (sp.eraseIdx j):=by
 unfold tlV
 induction sp generalizing j with
 | nil=>rfl
 | cons a r ih=>
  cases j with
  | zero=>rfl
  | succ j=>exact congrArg (_::·) (ih j)
theorem wM {hs:YR} {gs:YT} {k:Int} {n:Nat} {e:Str} (h:Bu k n e∈gs.map (·.1)):shE hs (Er hs gs) k n e=false:=by
 have kf:=Ow hs gs;have hg:∀g∈gs.map (·.1),gpC (Er hs gs) g=BJ hs gs g:=λg h=>Oe (BJ hs gs) g gs h;have hn:S8 hs (Er hs gs):=λg h1 h2=>by
  rw[kf] at h1;rw[JF kf] at h2;rw[hg g h1];exact h2
 unfold shE;cases c:gpC (Er hs gs) (Bu k n e) with
 | true=>rfl
 | false=>
  have hf:Dy hs (Er hs gs) (Bu k n e)=false:=by rw[Yc hn,JF kf,<-hg _ h,c]
  cases d:CP hs (Bf hs (Er hs gs) k (CJ e) 16 (Bu k n e).at_).1 with
  | false=>rfl
  | true=>
   have:Dy hs (Er hs gs) (Bu k n e)=true:=KZ.mpr (by
    have d:cS hs (Er hs gs) (Bu k n e).lp (CJ e) 16 (Bu k n e).at_=true:=d;unfold CJ at d;split at d
    ·exact .inl d
    ·exact .inr d)
   rw[hf] at this;cases this
structure Ad where
 b:Addr
 p:Addr
 pl:Addr
 d1:Addr
 d2:Addr
 d3:Addr
 h:Addr
 e:Addr
 v:Addr
 w:Addr
 x:Addr
structure S11 where
 most:Int
 ja:YU
 jn:List Zone
 hs:YR
 hw:YR
 fl:YQ
 gs:YT
 th:YS
structure LS (C:Addr) (H:Hp) (a:Ad) (n:Nat) (t:S11):Prop where
 bag:BP H a.b n
 wi:WAt C H a.p a.pl a.d1 a.d2 a.d3 t.hs t.fl t.gs
 pa:Fg H a.pl t.most t.ja t.jn
 ho:H a.h=some (.dT (stV t.hw))
 te:H a.e=some (.dT (tlV t.th))
 gv:∃xs,H a.v=some (.lst xs)/\Paired (DP H) xs (t.gs.map (·.1))
 wn:∃xs,H a.w=some (.lst xs)/\Paired (BL H) xs (t.hs.map (·.1))
 xv:∃xs,H a.x=some (.lst xs)/\Paired (BL H) xs (t.fl.map (·.1))
 nb3:a.v≠a.b/\a.w≠a.b/\a.x≠a.b
 n12:a.d1≠a.d2
 nh:a.h≠a.d1/\a.h≠a.d2/\a.h≠a.d3
 ne:a.e≠a.d1/\a.e≠a.d2/\a.e≠a.d3
 nhe:a.h≠a.e
 k1:t.hs.map (·.1)=up (stL t.ja) t.ja.length
 k3:t.gs.map (·.1)=up (gtL t.ja) t.ja.length
 rh:Qc t.hs t.hw
 rt:Mw t.fl t.th
 ndw:(t.hw.map (·.1)).Nodup
 sub:∀x∈t.hw.map (·.1),x∈t.hs.map (·.1)
 ndt:(t.th.map (·.1)).Nodup
 bf:∀s∈t.fl.map (·.1),Bd3 s
 l30:t.fl.length<=30
 f1:1<=t.fl.length
 inn:Inn t.ja (t.fl.map (·.1))
def FrS (a:Ad) (H H':Hp):Prop:=∀c o,H c=some o->c≠a.b->c≠a.d1->c≠a.d2->c≠a.d3->c≠a.h->c≠a.e->H' c=some o
theorem FrS.fresh {a:Ad} {H0 H H':Hp} (s:Same H0 H) (f:FrS a H H') (hb:H0 a.b=none) (h1:H0 a.d1=none) (h2:H0 a.d2=none) (h3:H0 a.d3=none) (h4:H0 a.h=none) (h5:H0 a.e=none):Same H0 H':=λc o e=>f _ _ (s _ _ e) (Aw e hb) (Aw e h1) (Aw e h2) (Aw e h3) (Aw e h4) (Aw e h5)
theorem WAt.np {C:Addr} {H:Hp} {p pl d1 d2 d3 x:Addr} {hs:YR} {fl:YQ} {gs:YT} {kv:YL} (R:WAt C H p pl d1 d2 d3 hs fl gs) (h:H x=some (.dT kv)):p≠x:=λz=>by
 obtain⟨dx,e⟩:=R.ins;rw[z,h] at e;cases e
section
variable {C:Addr} {H H':Hp} {a:Ad} {n n':Nat} {t:S11}
theorem LS.nb (L:LS C H a n t):(a.p≠a.b/\a.d1≠a.b/\a.d2≠a.b/\a.d3≠a.b)/\a.h≠a.b/\a.e≠a.b:=by
 obtain⟨_,_,_,eb,_⟩:=L.bag;have hd:∀{x kv},H x=some (.dT kv)->x≠a.b:=λh z=>by rw[z,eb] at h;cases h
 obtain⟨dx,e0⟩:=L.wi.ins;obtain⟨_,e2,_⟩:=L.wi.fi;exact⟨⟨(λz=>by rw[z,eb] at e0;cases e0),hd L.wi.st,hd e2,hd L.wi.gp⟩,hd L.ho,hd L.te⟩
theorem LS.nl (L:LS C H a n t) {x:Addr} {kv:YL} (h:H x=some (.dT kv)):a.v≠x/\a.w≠x/\a.x≠x/\a.b≠x:=by
 obtain⟨_,x1,_⟩:=L.gv;obtain⟨_,y1,_⟩:=L.wn;obtain⟨_,z1,_⟩:=L.xv;obtain⟨_,_,_,eb,_⟩:=L.bag;exact⟨(λz=>by rw[z,h] at x1;cases x1),(λz=>by rw[z,h] at y1;cases y1),(λz=>by rw[z,h] at z1;cases z1),λz=>by rw[z,h] at eb;cases eb⟩
theorem LS.moved {hs hw:YR} {fl:YQ} {gs:YT} {th:YS} (L:LS C H a n t) (s:Am H H') (wi:WAt C H' a.p a.pl a.d1 a.d2 a.d3 hs fl gs) (bag:BP H' a.b n') (ho:H' a.h=some (.dT (stV hw))) (te:H' a.e=some (.dT (tlV th))) (hl:∀c,c=a.v\/c=a.w\/c=a.x->∀o,H c=some o->H' c=some o) (k1:hs.map (·.1)=t.hs.map (·.1)) (k2:fl.map (·.1)=t.fl.map (·.1)) (k3:gs.map (·.1)=t.gs.map (·.1)) (rh:Qc hs hw) (rt:Mw fl th) (ndw:(hw.map (·.1)).Nodup) (sub:∀x∈hw.map (·.1),x∈t.hs.map (·.1)) (ndt:(th.map (·.1)).Nodup):LS C H' a n' { t with hs:=hs,hw:=hw,fl:=fl,gs:=gs,th:=th }:=by
 obtain⟨xs,x1,x2⟩:=L.gv;obtain⟨ys,y1,y2⟩:=L.wn;obtain⟨zs,z1,z2⟩:=L.xv;have lf:fl.length=t.fl.length:=by have:=congrArg List.length k2;simpa using this
 exact⟨bag,wi,L.pa.tups s,ho,te,⟨xs,hl _ (.inl rfl) _ x1,by dsimp only;rw[k3];exact Paired.Ax x2 λ_ _ z=>z.tups s⟩,⟨ys,hl _ (.inr (.inl rfl)) _ y1,by dsimp only;rw[k1];exact Paired.Ax y2 λ_ _ z=>z.tups s⟩,⟨zs,hl _ (.inr (.inr rfl)) _ z1,by dsimp only;rw[k2];exact Paired.Ax z2 λ_ _ z=>z.tups s⟩,L.nb3,L.n12,L.nh,L.ne,L.nhe,k1.trans L.k1,k3.trans L.k3,rh,rt,ndw,(by dsimp only;rw[k1];exact sub),ndt,(by dsimp only;rw[k2];exact L.bf),(by dsimp only;rw[lf];exact L.l30),(by dsimp only;rw[lf];exact L.f1),by dsimp only;rw[k2];exact L.inn⟩
theorem LS.same (L:LS C H a n t) (s:Same H H'):LS C H' a n t:=L.moved (Am.of s) (L.wi.same s) (L.bag.same s) (s _ _ L.ho) (s _ _ L.te) (λc _ o e=>s _ _ e) rfl rfl rfl L.rh L.rt L.ndw L.sub L.ndt
theorem LS.mono (L:LS C H a n t) (h:n<=n'):LS C H a n' t:=L.moved (Am.of (Same.refl H)) L.wi (L.bag.mono h) L.ho L.te (λc _ o e=>e) rfl rfl rfl L.rh L.rt L.ndw L.sub L.ndt
theorem LS.nbl (L:LS C H a n t) {c:Addr} (h:c=a.v\/c=a.w\/c=a.x):c≠a.b:=by
 rcases h with rfl | rfl | rfl
 ·exact L.nb3.1
 ·exact L.nb3.2.1
 ·exact L.nb3.2.2
theorem LS.nlc (L:LS C H a n t) {x c:Addr} {kv:YL} (hx:H x=some (.dT kv)) (h:c=a.v\/c=a.w\/c=a.x):c≠x:=by
 obtain⟨n1,n2,n3,_⟩:=L.nl hx;rcases h with rfl | rfl | rfl
 ·exact n1
 ·exact n2
 ·exact n3
theorem LS.drawn (L:LS C H a n t) (s:Ai a.b H H') (hb:BP H' a.b n'):LS C H' a n' t:=by
 obtain⟨⟨m0,m1,m2,m3⟩,m4,m5⟩:=L.nb;exact L.moved (s.tup L.bag.Gj) (L.wi.Ep s L.bag.Gj m0 m1 m2 m3) hb (s _ _ L.ho m4) (s _ _ L.te m5) (λc h o e=>s _ _ e (L.nbl h)) rfl rfl rfl L.rh L.rt L.ndw L.sub L.ndt
theorem LS.BI {gs:YT} (L:LS C H a n t) (W:WAt C H' a.p a.pl a.d1 a.d2 a.d3 t.hs t.fl gs) (s:Ai a.d3 H H') (k:gs.map (·.1)=t.gs.map (·.1)):LS C H' a n { t with gs:=gs }:=by
 have nt:∀zs,H a.d3≠some (.tup zs):=λzs e=>by rw[L.wi.gp] at e;cases e
 exact L.moved (s.tup nt) W (L.bag.Ep s (L.nl L.wi.gp).2.2.2) (s _ _ L.ho L.nh.2.2) (s _ _ L.te L.ne.2.2) (λc h o e=>s _ _ e (L.nlc L.wi.gp h)) rfl rfl k L.rh L.rt L.ndw L.sub L.ndt
theorem LS.filled {fl:YQ} {th:YS} (L:LS C H a n t) (W:WAt C H' a.p a.pl a.d1 a.d2 a.d3 t.hs fl t.gs) (s:Ai a.d2 H H') (k:fl.map (·.1)=t.fl.map (·.1)) (rt:Mw fl th) (ndt:(th.map (·.1)).Nodup):LS C (upd H' a.e (.dT (tlV th))) a n { t with fl:=fl,th:=th }:=by
 obtain⟨kvs,e2,_⟩:=L.wi.fi;have nt:∀zs,H a.d2≠some (.tup zs):=λzs e=>by rw[e2] at e;cases e
 have te:=s _ _ L.te L.ne.2.1;have nte:∀zs,H' a.e≠some (.tup zs):=λzs e=>by rw[te] at e;cases e
 refine L.moved ((s.tup nt).trans (Am.upd nte)) (W.Ep Ai.upd nte (W.np te) L.ne.1.symm L.ne.2.1.symm L.ne.2.2.symm) ((L.bag.Ep s (L.nl e2).2.2.2).Ep Ai.upd (L.nl L.te).2.2.2) (by rw[Ao L.nhe];exact s _ _ L.ho L.nh.2.1) Ab (λc h o e=>?_) rfl k rfl L.rh rt L.ndw L.sub ndt;rw[Ao (L.nlc L.te h)];exact s _ _ e (L.nlc e2 h)
theorem LS.bs (L:LS C H a n t):∀s∈t.hs.map (·.1),Bd3 s:=by rw[L.k1];exact vB L.pa.ok
theorem LS.bg (L:LS C H a n t):XC t.gs:=λx hx=>by
 have:x.1∈up (gtL t.ja) t.ja.length:=by rw[<-L.k3];exact Qcn.mpr ⟨x,hx,rq⟩
 obtain⟨i,hi,h⟩:=Gs this;have:=oX L.pa.ok h;omega
theorem LS.hs1 (L:LS C H a n t):1<=t.hs.length:=by
 have hl:=L.pa.lo;have h0:t.ja[0]?=some t.ja[0]:=Qam (by omega);have:(⟨((0:Nat):Int),0,0⟩ : Sp3)∈up (stL t.ja) t.ja.length:=(Kf h0).mpr (.inl ⟨rq,rq⟩);rw[<-L.k1] at this;have:=QaD this
 rwa [QbH] at this
theorem LS.gs1 (L:LS C H a n t):1<=t.gs.length:=by
 have hl:=L.pa.lo;have h0:t.ja[0]?=some t.ja[0]:=Qam (by omega);have:(⟨((0:Nat):Int),0⟩ : Gt)∈up (gtL t.ja) t.ja.length:=Om (i:=0) (by unfold gtL;rw[CW h0];exact QaK _ (QaV ..)) (by omega);rw[<-L.k3] at this;have:=QaD this
 rwa [QbH] at this
theorem LS.lw (L:LS C H a n t):t.hw.length<=200:=by
 have:=QK L.ndw L.sub;rw[QbH,QbH] at this;exact Qcr this L.wi.l1
theorem LS.lt (L:LS C H a n t):t.th.length<=30:=by
 have:=QK L.ndt (m:=t.fl.map (·.1)) λs hs=>Sq (by rw[L.rt s];exact JK.mpr hs);rw[QbH,QbH] at this;exact Qcr this L.l30
theorem LS.AB {b:Addr} (L:LS C H a n t) (s:Same H H') (hb:H b=none) (bag:BP H' b n'):LS C H' { a with b:=b } n' t:=by
 have L':=L.same s;obtain⟨xs,x1,_⟩:=L.gv;obtain⟨ys,y1,_⟩:=L.wn;obtain⟨zs,z1,_⟩:=L.xv;exact⟨bag,L'.wi,L'.pa,L'.ho,L'.te,L'.gv,L'.wn,L'.xv,⟨Aw x1 hb,Aw y1 hb,Aw z1 hb⟩,L'.n12,L'.nh,L'.ne,L'.nhe,L'.k1,L'.k3,L'.rh,L'.rt,L'.ndw,L'.sub,L'.ndt,L'.bf,L'.l30,L'.f1,L'.inn⟩
theorem LS.wr (L:LS C H a n t):WR t.ja t.hs t.hw t.gs (Jl t.gs) t.fl t.th:=⟨L.k1,L.rh,mU L.wi.nd3,L.rt,L.bf,L.l30,L.inn⟩
end
theorem BV (ja:YU):Il (fl0 ja)=up (pdL ja) ja.length:=by
 unfold Il fl0;rw[List.filterMap_map];show (up (pdL ja) ja.length).filterMap some=_;exact List.filterMap_some
theorem GW {ja:YU}:Inn ja ((fl0 ja).map (·.1)):=λs hs k ps hps el=>by
 rw[Nf] at hs;obtain⟨d,hd,rfl⟩:=Qcn.mp hs;obtain⟨i,hi,hd⟩:=Gs hd;obtain⟨ps',Kh,hd⟩:=GJ hd;obtain⟨j,hj,hd⟩:=Gs hd;obtain⟨p,hp,hd⟩:=GJ hd;have spm:∀(ds:List Dev) (n:Nat) (x:Sd),x∈Dz (i:Int) ((1+j:Nat):Int) n ds->x.lp=(i:Int)/\x.at_=((1+j:Nat):Int):=λds=>by
  induction ds with
  | nil=>intro n x h;cases h
  | cons y r ih=>
   intro n x h;rcases Qce.mp h with rfl | h
   ·exact⟨rq,rq⟩
   ·exact ih (n+1) x h
 have hd2:d.lp=(i:Int)/\d.at_=((1+j:Nat):Int):=by
  unfold Cj at hd;split at hd
  ·cases hd
  ·rcases Qce.mp hd with rfl | hd
   ·exact⟨rq,rq⟩
   ·exact spm _ _ _ hd
 have ek:i=k:=by
  have:d.lp=(k:Int):=el;omega
 subst ek;rw[hps] at Kh;cases Kh;have hjl:=(Qah.mp hp).1;unfold inn;show (decide (1<=d.at_)&&decide (d.at_<=(ps.length:Int)))=true;rw[hd2.2,QbY (by omega),QbY (by omega)];rfl
theorem Cc (ja:YU):Qc (hs0 ja) []:=λs hs=>by
 obtain⟨x,hx,e⟩:=Qcn.mp hs;unfold stC Cv;cases h:(hs0 ja).find? λx=>decide (x.1=s) with
 | none=>exact absurd e (by simpa using Qbk.mp h x hx)
 | some y=>
  have:=Qal h;unfold hs0 at this;obtain⟨z,_,rfl⟩:=Qcn.mp this;rfl
def th0 (ja:YU):YS:=((up (pdL ja) ja.length).map Sd.spot).map λs=>(s,true)
theorem Tf (ja:YU):(th0 ja).map (·.1)=(up (pdL ja) ja.length).map Sd.spot:=by unfold th0;rw[Qcq];exact List.map_id _
theorem Cb (ja:YU):Mw (fl0 ja) (th0 ja):=λs=>by
 cases c:inT (th0 ja) s with
 | true=>
  have:=JK.mp c;rw[Tf,<-Nf] at this;obtain⟨x,hx,e⟩:=Qcn.mp this;unfold flC;cases h:(fl0 ja).find? λx=>decide (x.1=s) with
  | none=>exact absurd e (by simpa using Qbk.mp h x hx)
  | some y=>
   have:=Qal h;unfold fl0 at this;obtain⟨z,_,rfl⟩:=Qcn.mp this;rfl
 | false=>
  cases d:flC (fl0 ja) s with
  | false=>rfl
  | true=>
   have:=Sq d;rw[Nf,<-Tf] at this;rw[JK.mpr this] at c;cases c
theorem gM {H:Hp}:∀{bs:List Addr} {th:YS},Paired (λb (kv:List Key×V)=>H b=some (.tup (kv.1.map kV))) bs (tlV th)->Paired (BL H) (bs.map V.ref) (th.map (·.1))
 | [],[],.nil=>.nil
 | _::_,_::_,.cons h t=>.cons ⟨_,rfl,h⟩ (gM t)
theorem yQ {H:Hp} {a:Addr} {o:HO} (h:H a=some o):upd H a o=H:=funext λc=>by
 by_cases e:c=a
 ·subst e;rw[Ab,h]
 ·rw[Ao e]
section
variable {P:Program} {w:World} {K:YD} {mg:YB} {base:Heap} {op oe kd wk C:Addr}
abbrev xl:YF:=["_law_spot","_law_kind","_law_address"]
theorem zX {f:Addr} {fd:FuncData} (F:Fun K "law" "law" MJ f fd) (T:Tw K mg op oe kd wk C) (T7:Good P w K mg base "_law_bag" 1 Ql (vK K)) (Br:Good P w K mg base "_law_take" 1 GX Qe) (uF:Good P w K mg base "_law_plan" 4 N7 mC) (pH:lD P w K mg base C 11 Fx (fZ C)) (pA:Good P w K mg base "_law_gates" 1 LC gk) (YZ:Good P w K mg base "_law_stretches" 1 G7 fM) (jZ:Good P w K mg base "_law_befall" 5 Kd (vJ C)) (o8:Good P w K mg base "_law_right" 4 Lx (fQ C))
  (oZ:CN P w K mg base C "there" 1 G8 (fL C)) (bY:CN P w K mg base C "take_out" 4 Fw (mD C)) (jX:CN P w K mg base C "put_in" 4 GC (vH C)) (Xp:CN P w K mg base C "act" 4 Hr (ZD C)) (Ve:CN P w K mg base C "come_to_rest" 5 DN (fU C)):G3 P w K mg base CX0 13 f fd vN (Y7 K):=by
 have sc:=Ez;refine F.ok Ez (λvs H Q E h=>?_) (λcdv A outer s H vs Q E hr h=>?_)
 ·obtain⟨a,ns,rfl,_⟩:=h;rfl
 obtain⟨sa,ns,rfl,hS,h63,q⟩:=h;refine⟨_,(Ae (Bb (i:=1) Ez.nd rfl (Or.inl rfl) (Ay T7 hr (Aa (pv 0) (Aa Af Ac))))
 (Ae (Bb (i:=2) Ez.nd rfl (Or.inl rfl) (Ay uF hr (Aa (pv 1) (Aa Af (Aa Af Ac)))))
 (Ae (Bb (i:=3) Ez.nd rfl (Or.inl rfl) (Cl pH hr T.mgC (Aa (pv 2) Ac)))
 (Ae (Bb (i:=4) Ez.nd rfl (Or.inl rfl) (Ay pA hr (Aa (pv 2) Ac)))
 (Ae (Bb (i:=5) Ez.nd rfl (Or.inl rfl) (Ay YZ hr (Aa (pv 2) Ac)))
 (Ae (Bb (i:=6) Ez.nd rfl (Or.inl rfl) rK)
 (Ae (Bb (i:=7) Ez.nd rfl (Or.inl rfl) (Eb (Uy hr.units rfl) rfl T.dict iJ (Aa (Cq (N':=xl) rfl (Bo.plain rfl (by trivial) (by trivial) (by trivial)) (Du (aD (pv 3) T.cl oZ hr)) (λ_ _ _ _=>(FW (K:=K) (n:=3) rfl rfl (Aq (Aj (i:=0) (show List.Nodup (xl:YF) by trivial) rfl (Or.inl rfl)) (Aq (Aj (i:=1) (show List.Nodup (xl:YF) by trivial) rfl (Or.inl rfl)) (Aq (Aj (i:=2) (show List.Nodup (xl:YF) by trivial) rfl (Or.inl rfl)) Bt))))) (λ_ _ _ _=>Di) (λ_ _ _ _=>(Bg (Aa (pv 0) (Aa Dm Ac))))) Ac)))
 (Ae (Bb (i:=8) Ez.nd rfl (Or.inl rfl) (Eb (dY rfl) rfl T.list iI (Aa (pv 7) Ac)))
 (Ae (Cd QbL rfl (CT rfl T.range (Aa (Az (p8 rfl) rfl T.max cN (Aa Af (Aa (Az (Ml rfl) rfl T.min SQ (Aa Af (Aa (Az Bh rfl T.len Cu (Aa (pv 0) Ac)) Ac))) Ac))) Ac)) (Aj (i:=9) Ez.nd rfl (Or.inl rfl))
 (Ae (Bb (i:=1) Ez.nd rfl (Or.inl rfl) (Ay T7 hr (Aa (pv 0) (Aa (pv 9) Ac))))
 (Ae (Cd QbL rfl (CT rfl T.range (Aa (Ay Br hr (Aa (pv 1) (Aa Af Ac))) Ac)) (Aj (i:=10) Ez.nd rfl (Or.inl rfl))
 (Ae (Bk (Ay jZ hr (Aa (pv 1) (Aa (pv 3) (Aa (pv 6) (Aa (pv 5) Ac))))))
 (Ae (Bb (i:=11) Ez.nd rfl (Or.inl rfl) (Bm Df (pv 8) (Ay Br hr (Aa (pv 1) (Aa (Az Bh rfl T.len Cu (Aa (pv 8) Ac)) Ac))) (λ_ _=>rfl)))
 (Ae (Bb (i:=12) Ez.nd rfl (Or.inl rfl) (Ay Br hr (Aa (pv 1) (Aa Af Ac))))
 (Ah (BX (Bs Eu (pv 12) Af (Bq _)) (Ae (Bk (Hu (pv 3) T.cl bY hr (Aa (pv 11) Ac)))
 (Ah (Bk (rJ (Cm hr) (pv 7) (pv 11) Dm ⟨rq,rq,rq,rq⟩)))) (Ah (BX (Bs Eu (pv 12) Af (Bq _)) (Ae (Bk (Hu (pv 3) T.cl jX hr (Aa (pv 11) (Aa Bp (Aa (Bj Cg Af (Ay Br hr (Aa (pv 1) (Aa Af Ac)))) Ac)))))
 (Ah (FT (Cm hr) (pv 7) (pv 11) Dm rfl))) (Ah (BX (Bs Eu (pv 12) Af (Bq _)) (Ah (Bk (Hu (pv 3) T.cl Xp hr (Aa (Bm Df (pv 4) (Ay Br hr (Aa (pv 1) (Aa (Az Bh rfl T.len Cu (Aa (pv 4) Ac)) Ac))) (λ_ _=>rfl)) Ac)))) Bv))))))))))
 (Ae (Bb (i:=13) Ez.nd rfl (Or.inl rfl) (Es QG (Ay Br hr (Aa (pv 1) (Aa Af Ac))) Af (Bq _)))
 (Ae (BX (CK (pv 13)) (Ah (Bk (aD (pv 3) T.cl Ve hr))) Bv)
 (Ah (BX (En (CK (Ay o8 hr (@Aa _ _ _ _ _ (pv 2) (@Aa _ _ _ _ _ (pv 3) (@Aa _ _ _ _ _ (pv 6) (@Aa _ _ _ _ _ (pv 7) (@Aa _ _ _ _ _ (pv 13) (@Ac _) DR) DR) DR) DR) DR)))) (Ah (Bc Dm)) Bv)))))))
 (Ah (Bc Dm))))))))))),?_⟩
 show let R0:TS:=_;let R1:TS:=Al _ R0;let R2:TS:=Al _ R1;let R3:TS:=_;let R4:TS:=Al _ R3;let R5:TS:=Al _ _;let R6:TS:=_;let R7:TS:=FQ _ R6 _;let R8:TS:=FQ _ R5 R7;let R9:TS:=FQ _ R4 R8;let R10:TS:=Al _ R9;let R11:TS:=Al _ R10;let R12:TS:=Al _ R11;let R13:TS:=Al (Dg _ _ R12) R2;let R14:TS:=Al _ R13;let R15:TS:=Al (Dg _ _ R14) _;let R16:TS:=Al _ R15;let R17:TS:=Al _ R16;let R18:TS:=Al _ R17;let R19:TS:=Al _ R18;let R20:TS:=Al _ R19;let R21:TS:=Al _ R20;let R22:TS:=Al _ R21;Al _ R22 _ _ _;intro R0 R1 R2 R3 R4 R5 R6 R7 R8 R9 R10 R11 R12 R13 R14 R15 R16 R17 R18 R19 R20 R21 R22;refine⟨_,rq,sa,ns,0,rq,hS,h63,by decide,by decide,λb0 o hb0 hb=>?_⟩;have sb0:=Ag hb0 o;generalize upd H b0 o=H0 at *;refine⟨_,rq,b0,0,3,12,rq,hb,by omega,by omega,by omega,by omega,by omega,λt Ls zs vs zvs ja jn most H1 e1 e2 e3 e4 e5 e6 e7 e8 e9 hb1 sb1=>?_⟩;have ok:Fi ja:=⟨e4,e6⟩;have pa:Fg H1 t most ja jn:=⟨⟨Ls,zs,vs,zvs,e1,e2,e3,e7,e8⟩,ok,e5,e9⟩;have s1:Same H H1:=sb0.Bl sb1 hb0;clear sb1 e1 e2 e3 e4 e7 e8;refine⟨_,rq,λp dx hp hdx ndx=>?_⟩;have s2:Same H1 (upd (upd H1 dx (.own p)) p (.ins C dx [])):=(Ag hdx _).trans (Ag (by rw[Ao ndx.symm];exact hp) _);have hpx:(upd (upd H1 dx (.own p)) p (.ins C dx [])) p=some (.ins C dx []):=Ab;generalize upd (upd H1 dx (.own p)) p (.ins C dx [])=Hx at *;refine⟨p,dx,t,most,ja,jn,rq,hpx,pa.same s2,λd1 d2 d3 H3 f1 f2 f3 n12 W sb=>⟨rq,?_⟩⟩;have s3:Same H1 H3:=s2.Bl sb hp;have fd1:H d1=none:=(s1.trans s2).free f1;have fd2:H d2=none:=(s1.trans s2).free f2;have fd3:H d3=none:=(s1.trans s2).free f3;have hb3:=hb1.same s3;have sH3:=s1.trans s3;clear f1 f2 f3 sb hpx s2 hp hdx ndx;refine⟨_,rq,t,most,ja,jn,rq,pa.same s3,λlv xv H4 fv hv pv' s4=>?_⟩;have nvb:lv≠b0:=(hb3.nb fv).symm;refine⟨_,rq,t,most,ja,jn,rq,pa.same (s3.trans s4),λlw xw H5 fw hw pw s5=>?_⟩;have s45:=s4.trans s5;have nwb:lw≠b0:=((hb3.same s4).nb fw).symm;refine λdh fh=>?_;have s6:=Ag fh (.dT []);have hdh:(upd H5 dh (.dT [])) dh=some (.dT []):=Ab;have fdh:H dh=none:=(sH3.trans s45).free fh;have s36:=s45.trans s6;have W5:=W.same s45;obtain⟨kv5,v1,v2⟩:=W5.fi;have neh:dh≠d1/\dh≠d2/\dh≠d3:=⟨(λz=>by rw[z,W5.st] at fh;cases fh),(λz=>by rw[z,v1] at fh;cases fh),λz=>by rw[z,W5.gp] at fh;cases fh⟩;generalize upd H5 dh (.dT [])=H6 at *;have W6:=W.same s36;obtain⟨dx6,hp6⟩:=W6.ins;refine⟨_,rq,p,dx6,_,rq,hp6,fno (by trivial),p,t,d1,d2,d3,hs0 ja,fl0 ja,gs0 ja,rq,W6,λlt xt H7 flt hlt plt s7=>⟨lt,rq,⟨_,SqL.of hlt⟩,λlc hlc=>?_⟩⟩;rw[BV] at plt;have lxt:=Qcd plt;have FE:=pN ok;let J0:YN:=λi U HH=>(∃u v y,U=[u,v,y])/\(∃ys,HH lc=some (.lst ys)/\Paired (Wi HH) ys (((up (pdL ja) ja.length).take i).map λd=>(k3 d.spot,V.bl true)))/\Same H7 HH;refine Gg (xs:=xt) J0 ⟨⟨_,_,_,rq⟩,⟨[],Ab,.nil⟩,Ag hlc _⟩ (λi U HH _ h=>SqL.of (h.2.2 _ _ hlt)) (λi x U HH hx h=>?_) (fun U HH h=>?_)
 ·obtain⟨⟨u,v,y,rfl⟩,⟨ys,g1,g2⟩,g3⟩:=h;obtain⟨d,hd,tt,uu,rfl,h5,h6⟩:=Paired.Ck plt hx;have hi:=(Qah.mp hx).1;have ly:=Qcd g2;rw[QbH,Qbz] at ly;refine⟨tt,_,rq,SqT.of (g3 _ _ h5),rq,_,_,rq,_,_,rq,_,_,rq,rq,?_⟩;refine Cr ⟨_,rq,Av (by show 2<=1000;decide),λtr htr=>?_⟩;have k1:=Ag htr (.tup [.ref uu,.bl true]);have g1':=k1 _ _ g1;have ntl:∀zs,(upd HH tr (.tup [.ref uu,.bl true])) lc≠some (.tup zs):=λzs z=>by rw[g1'] at z;cases z
  have sL:=Am.upd (o:=.lst (ys++[.ref tr])) ntl;refine⟨ys,g1',Ar (by omega),⟨_,_,_,rq⟩,⟨_,Ab,?_⟩,(g3.trans k1).Bl Ai.upd hlc⟩;rw[QcE hd,QbI];refine Qcy ⟨tr,uu,rq,sL _ _ Ab,sL _ _ (k1 _ _ (g3 _ _ h6))⟩ (Paired.Ax g2 λv r zz=>?_);obtain⟨t1,b1,a1,a2,a3⟩:=zz;exact⟨t1,b1,a1,sL _ _ (k1 _ _ a2),sL _ _ (k1 _ _ a3)⟩
 obtain⟨_,⟨ys,g1,g2⟩,g3⟩:=h;rw[lxt,Qbx] at g2;have ndr:(((up (pdL ja) ja.length).map λd=>(k3 d.spot,V.bl true)).map (·.1)).Nodup:=by
  rw[Qcq];have nd0:=j9 ok;rw[Qag,Qbv] at nd0;rw[Qag,Qbv];exact nd0.imp λ{a b} h e=>h (Ie e)
 refine⟨lc,ys,_,rq,g1,g2,ndr,by rw[QbH];omega,λde hde=>?_⟩;have s8:=Ag hde (.dT ((up (pdL ja) ja.length).map λd=>(k3 d.spot,V.bl true)));have hte:(upd HH de (.dT ((up (pdL ja) ja.length).map λd=>(k3 d.spot,V.bl true)))) de=some (.dT (tlV (th0 ja))):=by
  rw[Ab];unfold tlV th0;rw[Qcq,Qcq];rfl
 have s68:=(s7.trans g3).trans s8;have fde:H de=none:=((sH3.trans s36).trans (s7.trans g3)).free hde;have W7:=W6.same (s7.trans g3);obtain⟨kv7,w1,w2⟩:=W7.fi;have nee:de≠d1/\de≠d2/\de≠d3:=⟨(λz=>by rw[z,W7.st] at hde;cases hde),(λz=>by rw[z,w1] at hde;cases hde),λz=>by rw[z,W7.gp] at hde;cases hde⟩;have nhe:dh≠de:=Aw ((s7.trans g3) _ _ hdh) hde;generalize upd HH de (.dT ((up (pdL ja) ja.length).map λd=>(k3 d.spot,V.bl true)))=H8 at *;refine⟨_,rq,oA hte λlx bs hlx hbs=>?_⟩;have s9:=Ag hlx (.lst (bs.map V.ref));have hkx:Paired (BL (upd H8 lx (.lst (bs.map V.ref)))) (bs.map V.ref) ((th0 ja).map (·.1)):=Paired.Ax (gM hbs) λ_ _ z=>z.tups (Am.of s9);have hb8:=(hb3.same s36).same s68;have nxb:lx≠b0:=(hb8.nb hlx).symm;have AW:(upd H8 lx (.lst (bs.map V.ref))) lx=_:=Ab;have s69:=s68.trans s9;have LS0:LS C (upd H8 lx (.lst (bs.map V.ref))) ⟨b0,p,t,d1,d2,d3,dh,de,lv,lw,lx⟩ 3000 ⟨most,ja,jn,hs0 ja,[],fl0 ja,gs0 ja,th0 ja⟩:=by
  have c1:=pa.pok.cnt.1;have c2:=pa.pok.cnt.2;have la:(up (pdL ja) ja.length).length=(CG ja).length:=by rw[<-JL ja,QbH]
  have s39:=s36.trans s69;refine⟨(hb8.same s9).mono (by omega),W6.same s69,pa.same (s3.trans s39),s69 _ _ hdh,s9 _ _ hte,⟨_,s69 _ _ (s6 _ _ (s5 _ _ hv)),?_⟩,⟨_,s69 _ _ (s6 _ _ hw),?_⟩,⟨_,AW,?_⟩,⟨nvb,nwb,nxb⟩,n12,neh,nee,nhe,Xk ja,Xl ja,Cc ja,Cb ja,Qca,(λx hx=>by cases hx),?_,?_,?_,?_,GW⟩
  ·dsimp only;rw[Xl];exact Paired.Ax pv' λ_ _ z=>z.tups (Am.of (s5.trans (s6.trans s69)))
  ·dsimp only;rw[Xk];exact Paired.Ax pw λ_ _ z=>z.tups (Am.of (s6.trans s69))
  ·dsimp only;rw[Nf,<-Tf];exact hkx
  ·dsimp only;rw[Tf];exact j9 ok
  ·dsimp only;rw[Nf];intro s hs;obtain⟨x,hx,rfl⟩:=Qcn.mp hs;exact By ok x hx
  ·dsimp only;unfold fl0;rw[QbH];omega
  ·dsimp only;unfold fl0;rw[QbH];omega
 have sH9:=(sH3.trans s36).trans s69;clear s68 s9 s69 hkx AW hb8 hte hbs g1 g2 g3 W6 W7 w1 w2 W5 v1 v2 hv hw pv' pw hdh s6 s36 plt hlt;generalize upd H8 lx (.lst (bs.map V.ref))=H9 at *;have hl':(ns.map V.int).length=ns.length:=QbH _;refine⟨_,rq,sa,_,rq,.inl (sH9.seq hS),_,_,rq,_,_,rq,_,rq,?_,?_,?_⟩
 ·rw[hl'];split <;> split <;> omega
 ·rw[hl'];split <;> split <;> omega
 let J1:YN:=λi U HH=>∃(u1 u9 u10 u11 u12 u13:Option V) (b:Addr) (hs hw:YR) (fl:YQ) (gs:YT) (th:YS),U=[jp sa,u1,jp t,jp p,jp lv,jp lw,jp dh,jp de,jp lx,u9,u10,u11,u12,u13]/\LS C HH ⟨b,p,t,d1,d2,d3,dh,de,lv,lw,lx⟩ 3000 ⟨most,ja,jn,hs,hw,fl,gs,th⟩/\Same H HH;refine Ec J1 ⟨_,_,_,_,_,_,b0,_,_,_,_,_,rq,LS0,sH9⟩ (λi U HH hi h=>?_) (fun U HH h=>?_)
 ·obtain⟨u1,u9,u10,u11,u12,u13,bp,hs,hw,fl,gs,th,rfl,L,sm⟩:=h;rw[hl'] at hi;have hi':(i:Int)<=100:=by
   revert hi;split <;> split <;> omega
  refine⟨_,rq,_,rq,sa,ns,_,rq,sm.seq hS,h63,by omega,by omega,λb o hbn A3=>?_⟩;have s7:=Ag hbn o;have L7:=L.AB s7 hbn A3;have fb:H b=none:=sm.free hbn;have sm7:=sm.trans s7;generalize upd HH b o=H7 at *;clear L s7 hbn A3 sm LS0 sH9;refine⟨_,rq,b,_,6,rq,L7.bag,by omega,by decide,by decide,λr H9 r0 r1 hb9 sb9=>?_⟩;have L9:=L7.drawn sb9 hb9;have sm9:Same H H9:=sm7.Bl sb9 fb;clear L7 sm7 sb9 hb9;refine⟨_,rq,by omega,by omega,?_⟩;generalize hrn:r.toNat=rn;have N3:rn<=6:=by omega
  have nxt:∀{HA HB:Hp},Same H HA->FrS ⟨b,p,t,d1,d2,d3,dh,de,lv,lw,lx⟩ HA HB->Same H HB:=λs f=>FrS.fresh s f fb fd1 fd2 fd3 fdh fde;let J2:YN:=λj U HX=>∃(u10 u11 u12:Option V) (hs hw:YR) (fl:YQ) (gs:YT) (th:YS),U=[jp sa,jp b,jp t,jp p,jp lv,jp lw,jp dh,jp de,jp lx,some (.int (0+(i:Int))),u10,u11,u12,u13]/\LS C HX ⟨b,p,t,d1,d2,d3,dh,de,lv,lw,lx⟩ (1+6*j) ⟨most,ja,jn,hs,hw,fl,gs,th⟩/\Same H HX;refine Ec J2 ⟨_,_,_,_,_,_,_,_,rq,L9,sm9⟩ (λj U HX hj h=>?_) (fun U HX h=>?_)
  ·obtain⟨u10,u11,u12,hs,hw,fl,gs,th,rfl,L,sm⟩:=h;clear L9 sm9;have vO:=L.lw;dsimp only at vO;refine⟨_,rq,_,rq,_,rq,_,rq,b,_,p,t,d1,d2,d3,dh,lw,hs,fl,gs,stV hw,rq,L.bag,by omega,L.wi,n12,L.ho,by unfold stV;rw[QbH];exact vO,neh,L.wn,L.nb3.2.1,L.hs1,λs z H2 sIn hz hb2 W2 hd2 ts fr=>?_⟩;rw[qO] at hd2;obtain⟨⟨m0,m1,m2,m3⟩,m4,m5⟩:=L.nb;have L2:=L.moved (n':=1+6*j+2) ts W2 hb2 hd2 (fr _ _ L.te m5 nee.1 nhe.symm) (λc h o e=>fr _ _ e (L.nbl h) (L.nlc L.wi.st h) (L.nlc L.ho h)) (Jp _ _ _) rfl rfl (L.rh.put sIn z) L.rt (mW L.ndw _ _) (λx hx=>by
    rcases wU hx with e | e
    ·rw[e];exact sIn
    ·exact L.sub x e) L.ndt
   have sm2:Same H H2:=nxt sm λc o e n1 n2 n3 n4 n5 n6=>fr _ _ e n1 n2 n5;clear L sm fr ts W2 hb2 hd2;generalize Gi hs s z=hs' at *;generalize putL hw s z=hw' at *;obtain⟨xs,x1,x2⟩:=L2.xv;have lx':=Qcd x2;rw[QbH] at lx';have l30:=L2.l30;have lf1:=L2.f1;dsimp only at lx' l30 lf1;refine⟨_,rq,_,rq,_,rq,lx,_,rq,.inl (SqL.of x1),b,_,_,rq,L2.bag,by omega,by omega,by omega,λi2 H4 j0 j1 hb4 sb4=>?_⟩;obtain⟨m,rfl⟩ : ∃m:Nat,i2=(m:Int):=⟨i2.toNat,(QaT j0).symm⟩;have L4:=L2.drawn sb4 hb4;have hxm:xs[m]?=some xs[m]:=Qam (by omega);obtain⟨s4,hs4,b4,eb4,hbt⟩:=Paired.Ck x2 hxm;have AS:=(sb4.tup L2.bag.Gj) _ _ hbt;have Z1:s4∈fl.map (·.1):=QaI hs4;refine⟨lx,_,_,_,rq,rq,SqL.of (sb4 _ _ x1 L2.nb3.2.2),DY (xs:=xs) (j:=m) hxm,?_⟩;rw[eb4];refine⟨_,rq,b,_,6,rq,L4.bag,by omega,by decide,by decide,λr5 H5 q0 q1 hb5 sb5=>?_⟩;have L5:=L4.drawn sb5 hb5;have ug:=(sb5.tup L4.bag.Gj) _ _ AS;have sm5:Same H H5:=(sm2.Bl sb4 fb).Bl sb5 fb;clear L2 L4 sm2 sb4 sb5 hb4 hb5 AS hbt x1 x2;obtain⟨dx5,hp5⟩:=L5.wi.ins;refine⟨_,rq,rq,_,rq,Ig (λ_=>?_) (λ_=>⟨_,rq,rq,_,rq,Ig (λ_=>?_) (λ_=>⟨_,rq,rq,_,rq,Ig (λ_=>?_) (λ_=>?_)⟩)⟩)⟩
   ·
    refine⟨_,rq,p,dx5,_,rq,hp5,fno (by trivial),_,rq,p,t,d1,d2,d3,hs',fl,gs,b4,s4,rq,L5.wi,n12,ug,Z1,λH6 W6 sB=>?_⟩;obtain⟨kvs,e2,_⟩:=L5.wi.fi;have nt2:∀zs,H5 d2≠some (.tup zs):=λzs e=>by rw[e2] at e;cases e
    have te6:=sB _ _ L5.te nee.2.1;have jT:=(sB.tup nt2) _ _ ug;have fin:∀th',Mw (Gi fl s4 none) th'->(th'.map (·.1)).Nodup->∃(u10 u11 u12:Option V) (hs hw:YR) (fl:YQ) (gs:YT) (th:YS),[some (V.ref sa),jp b,jp t,jp p,jp lv,jp lw,jp dh,jp de,jp lx,some (.int (0+(i:Int))),some (.int (0+(j:Int))),jp b4,some (.int r5),u13]=[jp sa,jp b,jp t,jp p,jp lv,jp lw,jp dh,jp de,jp lx,some (.int (0+(i:Int))),u10,u11,u12,u13]/\LS C (upd H6 de (.dT (tlV th'))) ⟨b,p,t,d1,d2,d3,dh,de,lv,lw,lx⟩ (1+6*(j+1)) ⟨most,ja,jn,hs,hw,fl,gs,th⟩/\Same H (upd H6 de (.dT (tlV th'))):=λth' rt nd=>by
     have LL:=L5.filled W6 sB (Jp _ _ _) rt nd;exact⟨_,_,_,_,_,_,_,_,rq,LL.mono (by omega),nxt sm5 λc o e n1 n2 n3 n4 n5 n6=>by rw[Ao n6];exact sB _ _ e n3⟩
    refine⟨_,rq,de,rq,.inr ⟨_,.inl te6⟩,_,rq,_,k3 s4,b4,te6,rq,jT,(λjj v hj=>?_),(λhno=>?_)⟩
    ·rw[lQ];unfold tlV at hj;rw[Qbn] at hj;obtain⟨x,hx,ex⟩:=QaA.mp hj;injection ex with ex1 ex2;have ex1:=Ie ex1;exact fin (th.eraseIdx jj) (L5.rt.out Z1 λs'=>by rw[pK L5.ndt hx,ex1]) ((List.Sublist.map _ (List.eraseIdx_sublist th jj)).nodup L5.ndt)
    ·have hno':s4∉th.map (·.1):=λhin=>by
      obtain⟨x,hx,ex⟩:=Qcn.mp hin;obtain⟨jj,hj⟩:=QaL hx;exact hno jj (.bl x.2) (by unfold tlV;rw[Qbn,hj,<-ex];rfl)
     have:=fin th (L5.rt.out Z1 λs'=>⟨λh=>⟨h,λe=>hno' (by rw[<-e];exact h)⟩,λh=>h.1⟩) L5.ndt;rw[yQ te6] at this;exact this
   ·
    refine⟨_,rq,p,dx5,_,rq,hp5,fno (by trivial),_,rq,_,rq,b,_,99,rq,L5.bag,by omega,by decide,by decide,λr6 H6 w0 w1 hb6 sb6=>?_⟩;have L6:=L5.drawn sb6 hb6;have jT:=(sb6.tup L5.bag.Gj) _ _ ug;have sm6:Same H H6:=sm5.Bl sb6 fb;refine⟨_,_,rq,rq,p,t,d1,d2,d3,hs',fl,gs,b4,s4,"door",1+r6,rq,L6.wi,n12,jT,Z1,λH7 W7 sB=>?_⟩;obtain⟨kvs,e2,_⟩:=L6.wi.fi;have nt2:∀zs,H6 d2≠some (.tup zs):=λzs e=>by rw[e2] at e;cases e
    have te7:=sB _ _ L6.te nee.2.1;refine⟨_,rq,_,rq,de,_,rq,Ik.t (k:=k3 s4) te7 ((sB.tup nt2) _ _ jT) (Ar (by unfold tlV;rw[QbH];exact Qcr L6.lt (by decide))),?_⟩;rw[qN];have LL:=L6.filled W7 sB (Jp _ _ _) (L6.rt.put Z1 ("door",1+r6)) (mW L6.ndt s4 true);exact⟨_,_,_,_,_,_,_,_,rq,LL.mono (by omega),nxt sm6 λc o e n1 n2 n3 n4 n5 n6=>by rw[Ao n6];exact sB _ _ e n3⟩
   ·
    obtain⟨xg,y1,y2⟩:=L5.gv;have lg:=Qcd y2;rw[QbH] at lg;have lg1:=L5.gs1;have lg2:=L5.wi.l3;dsimp only at lg lg1 lg2;refine⟨_,rq,p,dx5,_,rq,hp5,fno (by trivial),_,rq,_,rq,_,rq,lv,_,rq,.inl (SqL.of y1),b,_,_,rq,L5.bag,by omega,by omega,by omega,λi6 H6 w0 w1 hb6 sb6=>?_⟩;obtain⟨m6,rfl⟩ : ∃m:Nat,i6=(m:Int):=⟨i6.toNat,(QaT w0).symm⟩;have L6:=L5.drawn sb6 hb6;have hgm:xg[m6]?=some xg[m6]:=Qam (by omega);obtain⟨g,hg,b6,eb6,hbt⟩:=Paired.Ck y2 hgm;refine⟨lv,_,_,_,rq,rq,SqL.of (sb6 _ _ y1 L5.nb3.1),DY (xs:=xg) (j:=m6) hgm,?_⟩;rw[eb6];refine⟨p,t,d1,d2,d3,hs',fl,gs,b6,g,rq,L6.wi,L6.bs,L6.bg,(sb6.tup L5.bag.Gj) _ _ hbt,QaI hg,λH7 W7 sB=>?_⟩;exact⟨_,_,_,_,_,_,_,_,rq,(L6.BI W7 sB (Ku _ _ _)).mono (by omega),(sm5.Bl sb6 fb).Bl sB fd3⟩
   ·exact⟨_,_,_,_,_,_,_,_,rq,L5.mono (by omega),sm5⟩
  obtain⟨u10,u11,u12,hs,hw,fl,gs,th,rfl,L,sm⟩:=h;clear L9 sm9;refine⟨_,rq,b,_,3,rq,L.bag,by omega,by decide,by decide,λr5 H5 q0 q1 hb5 sb5=>?_⟩;have L5:=L.drawn sb5 hb5;have sm5:Same H H5:=sm.Bl sb5 fb;refine⟨_,_,rq,rq,?_⟩;refine uw ?_;dsimp only;generalize hrs:decide (0 < r5)=rs;show Al (FQ _ _ _) _ _ _ _;refine Lj (fun U HZ=>∃gs',U=[jp sa,jp b,jp t,jp p,jp lv,jp lw,jp dh,jp de,jp lx,some (.int (0+(i:Int))),u10,u11,u12,some (.bl rs)]/\LS C HZ ⟨b,p,t,d1,d2,d3,dh,de,lv,lw,lx⟩ 3000 ⟨most,ja,jn,hs,hw,fl,gs',th⟩/\Same H HZ/\(rs=true->∀(k:Nat) (ps:List Place) (e:Str),ja[k]?=some ps->shE hs gs' k ps.length e=false)) (fun U HZ h=>?_) (λD' hn=>?_);rotate_left 1
  ·refine⟨_,rq,_,rq,Gn (λhr1=>?_) (λhr1=>?_)⟩
   ·obtain⟨dx5,hp5⟩:=L5.wi.ins;refine⟨_,rq,p,dx5,_,rq,hp5,fno (by trivial),p,t,d1,d2,d3,hs,fl,gs,rq,L5.wi,L5.bs,L5.bg,λlr xr H6 flr hlr _ W6 sB6=>?_⟩;refine hn _ _ ⟨Er hs gs,rq,(L5.BI W6 sB6 (Ow hs gs)).mono (by omega),sm5.Bl sB6 fd3,λ_ k ps e hps=>wM ?_⟩;rw[show gs.map (·.1)=_ from L5.k3]
    exact Xn hps e
   ·exact hn _ _ ⟨gs,rq,L5.mono (by omega),sm5,λe=>by rw[hr1] at e;cases e⟩
  obtain⟨gs',rfl,LZ,smZ,hrest⟩:=h;refine⟨_,rq,_,rq,_,rq,_,rq,_,rq,p,t,d1,d2,d3,most,ja,jn,dh,de,hs,hw,gs',fl,th,rs,rq,LZ.wi,LZ.pa,LZ.ho,LZ.te,LZ.wr,LZ.k3,hrest,λH6 s6=>?_⟩;exact⟨_,rq,Cp ⟨_,_,_,_,_,_,b,_,_,_,_,_,rq,LZ.same s6,smZ.trans s6⟩⟩
 ·exact q HH
end
structure FnI (K:YD) (x:Str) (st:Stmt):Prop where
 ex:∃(f:Addr) (oc:Value) (od an:Option Addr) (sl:YI) (kV dc pm cd ct:Value),nsIn K mainGlobals x=some (some (.ref f))/\K.lookup f=some ⟨oc,od,.func (fnOf x x (Ei st) (Dq st) (Ak st) .none kV dc pm an cd ct),sl⟩/\codeIn K cd x=true/\keepIn K (.ref f)=true
theorem FnI.of {K:YD} {x:Str} {st:Stmt} {f:Addr} {oc:Value} {od an:Option Addr} {sl:YI} {kV dc pm cd ct:Value} (a:nsIn K mainGlobals x=some (some (.ref f))) (l:K.lookup f=some ⟨oc,od,.func (fnOf x x (Ei st) (Dq st) (Ak st) .none kV dc pm an cd ct),sl⟩) (c:codeIn K cd x=true) (k:keepIn K (.ref f)=true):FnI K x st:=⟨f,oc,od,an,sl,kV,dc,pm,cd,ct,a,l,c,k⟩
theorem FnI.code {K:YD} {mg:YB} {h:Heap} {x:Str} {st:Stmt} {ps:YF} (I:FnI K x st) (X:K.In h) (G:h.Ns mainGlobals mg) (hb:∀(kV doc pm:Value) (an:Option Addr) (cdv ct:Value) (us:YE),us.length=ps.length->bindArgs (fnOf x x (Ei st) (Dq st) (Ak st) .none kV doc pm an cdv ct) ⟨us,[]⟩=pure (ps.zip us)):Code K mg x st ps:=by
 obtain⟨f,oc,od,an,sl,kV,dc,pm,cd,ct,a,l,c,k⟩:=I.ex;exact Code.of X G a l c k hb
structure MtI (K:YD) (C:Addr) (x q:Str) (st:Stmt):Prop where
 ex:∃(f:Addr) (oc:Value) (od an:Option Addr) (sl:YI) (kV dc pm cd ct:Value),findIn K (.ref C) x=some (some (.ref f))/\isFn K (.ref f)=true/\K.lookup f=some ⟨oc,od,.func (fnOf x q (Ei st) (Dq st) (Ak st) .none kV dc pm an cd ct),sl⟩/\codeIn K cd q=true/\keepIn K (.ref f)=true
theorem MtI.of {K:YD} {C:Addr} {x q:Str} {st:Stmt} {f:Addr} {oc:Value} {od an:Option Addr} {sl:YI} {kV dc pm cd ct:Value} (a:findIn K (.ref C) x=some (some (.ref f))) (i:isFn K (.ref f)=true) (l:K.lookup f=some ⟨oc,od,.func (fnOf x q (Ei st) (Dq st) (Ak st) .none kV dc pm an cd ct),sl⟩) (c:codeIn K cd q=true) (k:keepIn K (.ref f)=true):MtI K C x q st:=⟨f,oc,od,an,sl,kV,dc,pm,cd,ct,a,i,l,c,k⟩
theorem MtI.code {K:YD} {C:Addr} {x q:Str} {st:Stmt} {ps:YF} (I:MtI K C x q st) (hb:∀(kV doc pm:Value) (an:Option Addr) (cdv ct:Value) (us:YE),us.length=ps.length->bindArgs (fnOf x q (Ei st) (Dq st) (Ak st) .none kV doc pm an cdv ct) ⟨us,[]⟩=pure (ps.zip us)):G4 K C x q st ps:=by
 obtain⟨f,oc,od,an,sl,kV,dc,pm,cd,ct,a,i,l,c,k⟩:=I.ex;have F:=Wa (st:=st) l c k;exact⟨f,_,F,⟨a,i,k⟩,F.binds hb⟩
theorem MtI.init {K:YD} {C:Addr} {q:Str} {st:Stmt} {ps:YF} (I:MtI K C "__init__" q st) (mk:makesIn K C=true) (kc:keepIn K (.ref C)=true) (hb:∀(kV doc pm:Value) (an:Option Addr) (cdv ct:Value) (us:YE),us.length=ps.length->bindArgs (fnOf "__init__" q (Ei st) (Dq st) (Ak st) .none kV doc pm an cdv ct) ⟨us,[]⟩=pure (ps.zip us)):∃f fd,Fun K "__init__" q st f fd/\Mk K C f/\Binds K fd ps []:=by
 obtain⟨f,oc,od,an,sl,kV,dc,pm,cd,ct,a,i,l,c,k⟩:=I.ex;have F:=Wa (st:=st) l c k;exact⟨f,_,F,⟨mk,a,i,kc⟩,F.binds hb⟩
def uT:YF->(YE->Prop)->Prop
 | [],P=>P []
 | _::r,P=>∀a,uT r λt=>P (a::t)
theorem iQ:∀(ps:YF) {P:YE->Prop},uT ps P->∀us:YE,us.length=ps.length->P us
 | [],_,h,[],_=>h
 | _::r,_,h,a::t,e=>iQ r (h a) t (Nat.succ.inj e)
theorem fnA {F:Value->Value->Value->Option Addr->Value->Value->FuncData} {ps:YF} (h:∀kV dc pm an cd ct,uT ps λus=>bindArgs (F kV dc pm an cd ct) ⟨us,[]⟩=pure (ps.zip us)) (kV dc pm:Value) (an:Option Addr) (cd ct:Value) (us:YE) (hu:us.length=ps.length):bindArgs (F kV dc pm an cd ct) ⟨us,[]⟩=pure (ps.zip us):=iQ ps (h kV dc pm an cd ct) us hu
theorem all_mk {l:PySem.W.OpenLaw} {w:World} {K:YD} {h:Heap} {mg:YB} {fa C fl:Addr} (X:K.In h) (G:h.Ns mainGlobals mg) (hfa:mg "law"=some (.ref fa))
  {odl anl:Option Addr} {sll:YI} {ocl kVl dcl pml cdl ctl:Value}
  (aC:nsIn K mainGlobals "Wires"=some (some (.ref C)))
  (m0:MtI K C "__init__" "Wires.__init__" Ju)
  (m1:MtI K C "check_stretch" "Wires.check_stretch" Gx)
  (m2:MtI K C "cut" "Wires.cut" Px)
  (m3:MtI K C "short" "Wires.short" Mt)
  (m4:MtI K C "mend" "Wires.mend" Nx)
  (m5:MtI K C "check_spot" "Wires.check_spot" HN)
  (m6:MtI K C "take_out" "Wires.take_out" Jt)
  (m7:MtI K C "put_in" "Wires.put_in" Ky)
  (m8:MtI K C "there" "Wires.there" Ms)
  (m9:MtI K C "parted" "Wires.parted" Kz)
  (m10:MtI K C "act" "Wires.act" Py)
  (m11:MtI K C "come_to_rest" "Wires.come_to_rest" Dk)
  (m12:MtI K C "heard" "Wires.heard" Jk)
  (i0:FnI K "is_whole" MK)
  (i1:FnI K "is_within" Ph)
  (i2:FnI K "is_row" U5)
  (i3:FnI K "are_wholes" Nv)
  (i4:FnI K "is_rising" Pj)
  (i5:FnI K "are_rising_within" FJ)
  (i6:FnI K "is_name" Ry)
  (i7:FnI K "is_device" Pq)
  (i8:FnI K "is_spur_device" Jq)
  (i9:FnI K "is_spur" Rw)
  (i10:FnI K "is_place" Qz)
  (i11:FnI K "is_loop" Rz)
  (i12:FnI K "is_zone" Rv)
  (i13:FnI K "are_loops" Pu)
  (i14:FnI K "are_zones" Pr)
  (i15:FnI K "is_plan" Rx)
  (i16:FnI K "place_devices" JZ)
  (i17:FnI K "devices" RB)
  (i18:FnI K "stretches" K9)
  (i19:FnI K "openers" Ot)
  (i20:FnI K "parts" WD)
  (i21:FnI K "address_twice" Ka)
  (i22:FnI K "part_crowded" Kv)
  (i23:FnI K "address_stranger" HF)
  (i24:FnI K "address_shared" Js)
  (i25:FnI K "wrong" Wz)
  (i26:FnI K "is_let_by" Pk)
  (i27:FnI K "spur_pieces" Mr)
  (i28:FnI K "come_to" RD)
  (i29:FnI K "has_short" La)
  (i30:FnI K "comes_to_short" Jr)
  (i31:FnI K "_law_bag" WK)
  (i32:FnI K "_law_take" U3)
  (i33:FnI K "_law_name" Qx)
  (i34:FnI K "_law_names" Ou)
  (i35:FnI K "_law_loop" U4)
  (i36:FnI K "_law_parts" Ru)
  (i37:FnI K "_law_plan" Kw)
  (i38:FnI K "_law_walk" U0)
  (i39:FnI K "_law_gates" Ov)
  (i40:FnI K "_law_stretches" Jj)
  (i41:FnI K "_law_befall" Qy)
  (i42:FnI K "_law_due" Tp)
  (i43:FnI K "_law_right" Rt)
  (al:nsIn K mainGlobals "law"=some (some (.ref fl))) (ll:K.lookup fl=some ⟨ocl,odl,.func (fnOf "law" "law" (Ei MJ) (Dq MJ) (Ak MJ) .none kVl dcl pml anl cdl ctl),sll⟩) (cl:codeIn K cdl "law"=true) (kl:keepIn K (.ref fl)=true)
  (pg:plainGet K C Str.empty=true) (hd:hasDictIn K C=true) (po:PySem.W.plainOver K C=true) (sa:findIn K (.ref C) "__setattr__"=some (some (.builtin "object.__setattr__"))) (mk:makesIn K C=true) (kc:keepIn K (.ref C)=true)
  (n0:findIn K (.ref C) "plan"=some none)
  (n1:findIn K (.ref C) "states"=some none)
  (n2:findIn K (.ref C) "filled"=some none)
  (n3:findIn K (.ref C) "gaps"=some none)
  (z0:nsIn K mainGlobals "isinstance"=some none)
  (z1:nsIn K mainGlobals "int"=some none)
  (z2:nsIn K mainGlobals "bool"=some none)
  (z3:nsIn K mainGlobals "tuple"=some none)
  (z4:nsIn K mainGlobals "list"=some none)
  (z5:nsIn K mainGlobals "str"=some none)
  (z6:nsIn K mainGlobals "len"=some none)
  (z7:nsIn K mainGlobals "all"=some none)
  (z8:nsIn K mainGlobals "abs"=some none)
  (z9:nsIn K mainGlobals "max"=some none)
  (z10:nsIn K mainGlobals "min"=some none)
  (z11:nsIn K mainGlobals "range"=some none)
  (z12:nsIn K mainGlobals "sorted"=some none)
  (z13:nsIn K mainGlobals "any"=some none)
  (z14:nsIn K mainGlobals "sum"=some none)
  (z15:nsIn K mainGlobals "enumerate"=some none)
  (z16:nsIn K mainGlobals "zip"=some none)
  (z17:nsIn K mainGlobals "reversed"=some none)
  (z18:nsIn K mainGlobals "dict"=some none)
  (z19:nsIn K mainGlobals "ord"=some none)
  {op oe:Addr} {odo ode:Option Addr} {no ne:Nat} {slo sle:YI} {tks tko:Tok} {kd wk:Addr} {odk odw:Option Addr} {nk nw:Nat} {slk slw:YI} {tq1 tq2 tq3 tq4 tq5 tq6 DC:Tok}
  (ao:nsIn K mainGlobals "OPENER"=some (some (.ref op)))
  (lo:K.lookup op=some ⟨.type "tuple",odo,.seq #[.str "opener" tks,.int 0 tko,.ref oe] no,slo⟩)
  (lq2:K.lookup oe=some ⟨.type "tuple",ode,.seq #[] ne,sle⟩)
  (aKd:nsIn K mainGlobals "KINDS"=some (some (.ref kd)))
  (lKd:K.lookup kd=some ⟨.type "tuple",odk,.seq #[.str "seeker" tq1,.str "knob" tq2,.str "bell" tq3,.str "door" tq4] nk,slk⟩)
  (aWk:nsIn K mainGlobals "WARNING_KINDS"=some (some (.ref wk)))
  (lWk:K.lookup wk=some ⟨.type "tuple",odw,.seq #[.str "seeker" tq5,.str "knob" tq6] nw,slw⟩)
  (aSL:nsIn K mainGlobals "SMALL_LETTERS"=some (some (.str "abcdefghijklmnopqrstuvwxyz" DC)))
  : ∃fd:FuncData,(∀(s:Shared) (v:Value),BindsTo s fd ⟨[v],[]⟩ [("_law_script",v)])/\∀base:Heap,K.In base->base.Ns mainGlobals mg->G3 l.prog w K mg base CX0 13 fa fd vN (Y7 K):=by
 have e:=hfa.symm.trans (mg_of X G al);cases e;have TN:Nm mg:=⟨mg_none_of X G z0,mg_none_of X G z1,mg_none_of X G z2,mg_none_of X G z3,mg_none_of X G z4,mg_none_of X G z5,mg_none_of X G z6,mg_none_of X G z7,mg_none_of X G z8,mg_none_of X G z9,mg_none_of X G z10,mg_none_of X G z11,mg_none_of X G z12,mg_none_of X G z13,mg_none_of X G z14,mg_none_of X G z15,mg_none_of X G z16,mg_none_of X G z17,mg_none_of X G z18,mg_none_of X G z19⟩;have TX:Tx K mg op oe:=⟨TN,⟨_,mg_of X G ao,rq⟩,λH=>.inr ⟨_,_,_,lo,rq,rq,(by show 3<=sizeLine;decide),.cons ⟨_,rq⟩ (.cons ⟨_,rq⟩ (.cons rfl .nil))⟩,λH=>.inr ⟨_,_,_,lq2,rq,rq,(by show 0<=sizeLine;decide),.nil⟩⟩;have TY:Ty K mg op oe kd wk:={ toTx:=TX,KINDS:=⟨_,mg_of X G aKd,rq⟩,kdT:=λH=>.inr ⟨_,_,_,lKd,rq,rq,(by show 4<=sizeLine;decide),.cons ⟨_,rq⟩ (.cons ⟨_,rq⟩ (.cons ⟨_,rq⟩ (.cons ⟨_,rq⟩ .nil)))⟩,WARNING_KINDS:=⟨_,mg_of X G aWk,rq⟩,wkT:=λH=>.inr ⟨_,_,_,lWk,rq,rq,(by show 2<=sizeLine;decide),.cons ⟨_,rq⟩ (.cons ⟨_,rq⟩ .nil)⟩,SMALL_LETTERS:=⟨_,mg_of X G aSL,⟨_,rq⟩⟩ };have T:Tw K mg op oe kd wk C:={ toTy:=TY,cl:=⟨pg,hd,po,sa⟩,mgC:=mg_of X G aC,bC:=n0,Gm:=n1,Jv:=n2,GF:=n3 };have lA:=m0.init (ps:=Fx) mk kc (fnA λ_ _ _ _ _ _ _ _=>rfl);have Wk:=m1.code (ps:=Cy) (fnA λ_ _ _ _ _ _ _ _=>rfl);have Db:=m2.code (ps:=Jc) (fnA λ_ _ _ _ _ _ _ _=>rfl);have yI:=m3.code (ps:=G9) (fnA λ_ _ _ _ _ _ _ _=>rfl);have BT:=m4.code (ps:=HW) (fnA λ_ _ _ _ _ _ _ _=>rfl);have cV:=m5.code (ps:=Dv) (fnA λ_ _ _ _ _ _ _ _=>rfl);have kZ:=m6.code (ps:=Fw) (fnA λ_ _ _ _ _ _ _ _=>rfl);have uV:=m7.code (ps:=GC) (fnA λ_ _ _ _ _ _ _ _ _ _=>rfl);have yH:=m8.code (ps:=G8) (fnA λ_ _ _ _ _ _ _=>rfl);have uW:=m9.code (ps:=GD) (fnA λ_ _ _ _ _ _ _=>rfl);have De:=m10.code (ps:=Hr) (fnA λ_ _ _ _ _ _ _ _=>rfl);have Xz:=m11.code (ps:=DN) (fnA λ_ _ _ _ _ _ _=>rfl);have yJ:=m12.code (ps:=Hf) (fnA λ_ _ _ _ _ _ _ _ _=>rfl);have Wo:=i0.code (ps:=Gd) X G (fnA λ_ _ _ _ _ _ _=>rfl);have eE:=i1.code (ps:=Fl) X G (fnA λ_ _ _ _ _ _ _ _ _=>rfl);have vf:=i2.code (ps:=DK) X G (fnA λ_ _ _ _ _ _ _ _ _=>rfl);have cX:=i3.code (ps:=Ft) X G (fnA λ_ _ _ _ _ _ _ _=>rfl);have eG:=i4.code (ps:=IV) X G (fnA λ_ _ _ _ _ _ _=>rfl);have Rj:=i5.code (ps:=Ed) X G (fnA λ_ _ _ _ _ _ _ _ _ _ _=>rfl);have qD:=i6.code (ps:=Ma) X G (fnA λ_ _ _ _ _ _ _=>rfl);have eO:=i7.code (ps:=Ho) X G (fnA λ_ _ _ _ _ _ _ _=>rfl);have Vr:=i8.code (ps:=Fq) X G (fnA λ_ _ _ _ _ _ _=>rfl);have qz:=i9.code (ps:=LQ) X G (fnA λ_ _ _ _ _ _ _=>rfl);have lF:=i10.code (ps:=Ke) X G (fnA λ_ _ _ _ _ _ _=>rfl);have qF:=i11.code (ps:=Mf) X G (fnA λ_ _ _ _ _ _ _=>rfl);have qy:=i12.code (ps:=LK) X G (fnA λ_ _ _ _ _ _ _=>rfl);have eX:=i13.code (ps:=Jb) X G (fnA λ_ _ _ _ _ _ _=>rfl);have eV:=i14.code (ps:=Ja) X G (fnA λ_ _ _ _ _ _ _=>rfl);have qC:=i15.code (ps:=LR) X G (fnA λ_ _ _ _ _ _ _=>rfl);have Wn:=i16.code (ps:=Et) X G (fnA λ_ _ _ _ _ _ _ _ _=>rfl);have qG:=i17.code (ps:=GP) X G (fnA λ_ _ _ _ _ _ _=>rfl);have d9:=i18.code (ps:=IK) X G (fnA λ_ _ _ _ _ _ _=>rfl);have qp:=i19.code (ps:=Lw) X G (fnA λ_ _ _ _ _ _ _=>rfl);have yL:=i20.code (ps:=Qj) X G (fnA λ_ _ _ _ _ _ _ _=>rfl);have Wq:=i21.code (ps:=Ge) X G (fnA λ_ _ _ _ _ _ _=>rfl);have XD:=i22.code (ps:=Gz) X G (fnA λ_ _ _ _ _ _ _=>rfl);have Tc:=i23.code (ps:=Eo) X G (fnA λ_ _ _ _ _ _ _=>rfl);have Vt:=i24.code (ps:=Fv) X G (fnA λ_ _ _ _ _ _ _=>rfl);have yK:=i25.code (ps:=Qh) X G (fnA λ_ _ _ _ _ _ _=>rfl);have eN:=i26.code (ps:=IW) X G (fnA λ_ _ _ _ _ _ _=>rfl);have Y4:=i27.code (ps:=G6) X G (fnA λ_ _ _ _ _ _ _ _ _=>rfl);have qH:=i28.code (ps:=JD) X G (fnA λ_ _ _ _ _ _ _ _ _ _=>rfl);have eU:=i29.code (ps:=Hq) X G (fnA λ_ _ _ _ _ _ _ _=>rfl);have Vs:=i30.code (ps:=Eh) X G (fnA λ_ _ _ _ _ _ _ _ _=>rfl);have yN:=i31.code (ps:=Ql) X G (fnA λ_ _ _ _ _ _ _ _=>rfl);have uY:=i32.code (ps:=GX) X G (fnA λ_ _ _ _ _ _ _ _=>rfl);have u0:=i33.code (ps:=N8) X G (fnA λ_ _ _ _ _ _ _=>rfl);have qw:=i34.code (ps:=Lz) X G (fnA λ_ _ _ _ _ _ _ _=>rfl);have vd:=i35.code (ps:=Oa) X G (fnA λ_ _ _ _ _ _ _ _ _=>rfl);have qu:=i36.code (ps:=Ly) X G (fnA λ_ _ _ _ _ _ _=>rfl);have uZ:=i37.code (ps:=N7) X G (fnA λ_ _ _ _ _ _ _ _ _=>rfl);have uX:=i38.code (ps:=N6) X G (fnA λ_ _ _ _ _ _ _ _ _ _ _ _=>rfl);have qx:=i39.code (ps:=LC) X G (fnA λ_ _ _ _ _ _ _=>rfl);have Y5:=i40.code (ps:=G7) X G (fnA λ_ _ _ _ _ _ _=>rfl);have lE:=i41.code (ps:=Kd) X G (fnA λ_ _ _ _ _ _ _ _ _ _=>rfl);have yM:=i42.code (ps:=Qk) X G (fnA λ_ _ _ _ _ _ _ _ _ _ _ _=>rfl);have qt:=i43.code (ps:=Lx) X G (fnA λ_ _ _ _ _ _ _ _ _ _ _=>rfl);have Dx:=Wa (st:=MJ) ll cl kl;refine⟨fnOf "law" "law" (Ei MJ) (Dq MJ) (Ak MJ) .none kVl dcl pml anl cdl ctl,λs v=>.of_eq rfl,λbase _ _=>?_⟩;have T7:=sI (P:=l.prog) (w:=w) (base:=base) yN TN;have Br:=nT (P:=l.prog) (w:=w) (base:=base) uY TN;have C4:=RN (P:=l.prog) (w:=w) (base:=base) Wo TN;have JY:=dz (P:=l.prog) (w:=w) (base:=base) Wo TN;have jW:=aR (P:=l.prog) (w:=w) (base:=base) eE TN JY;have PL:=nU (P:=l.prog) (w:=w) (base:=base) vf TN;have uI:=Yu (P:=l.prog) (w:=w) (base:=base) cX TN C4 PL;have uy:=aU (P:=l.prog) (w:=w) (base:=base) eG TY;have IS:=Yv (P:=l.prog) (w:=w) (base:=base) Rj TY PL jW uy;have JE:=jE (P:=l.prog) (w:=w) (base:=base) qD TY;have A6:=aW (P:=l.prog) (w:=w) (base:=base) eO TY jW;have IR:=Ui (P:=l.prog) (w:=w) (base:=base) Vr TY PL A6;have IO:=jC (P:=l.prog) (w:=w) (base:=base) qz TY PL IR;have I0:=dB (P:=l.prog) (w:=w) (base:=base) lF TY PL jW A6 IO;have JP:=jF (P:=l.prog) (w:=w) (base:=base) qF TY PL I0;have IH:=jB (P:=l.prog) (w:=w) (base:=base) qy TY PL JE IS;have JO:=aZ (P:=l.prog) (w:=w) (base:=base) eX TY PL JP;have IG:=aY (P:=l.prog) (w:=w) (base:=base) eV TY PL IH;have A5:=U8 (P:=l.prog) (w:=w) (base:=base) Wn TX;have j5:=jG (P:=l.prog) (w:=w) (base:=base) qG TX A5;have IN:=aQ (P:=l.prog) (w:=w) (base:=base) d9 TX;have Jn:=jA (P:=l.prog) (w:=w) (base:=base) qp TX;have IT:=sG (P:=l.prog) (w:=w) (base:=base) yL TX A5;have IY:=jD (P:=l.prog) (w:=w) (base:=base) qC TY PL jW JO IG j5;have KA:=Va (P:=l.prog) (w:=w) (base:=base) Wq TY j5;have Kt:=VN (P:=l.prog) (w:=w) (base:=base) XD TY IT;have KB:=Rg (P:=l.prog) (w:=w) (base:=base) Tc TY j5;have IQ:=Uk (P:=l.prog) (w:=w) (base:=base) Vt TY;have II:=rT (P:=l.prog) (w:=w) (base:=base) yK TY KA Kt KB IQ;have JU:=aV (P:=l.prog) (w:=w) (base:=base) eN TY IY II;have uH:=U9 (P:=l.prog) (w:=w) (base:=base) Wk T uI;have Kk:=zZ (P:=l.prog) (w:=w) (base:=base) Db T uH;have IP:=rZ (P:=l.prog) (w:=w) (base:=base) yI T uH;have JJ:=xJ (P:=l.prog) (w:=w) (base:=base) BT T uH;have Kb:=sJ (P:=l.prog) (w:=w) (base:=base) lA T JU IN j5 Jn;have C1:=W9 (P:=l.prog) (w:=w) (base:=base) Y4 T;have vV:=jH (P:=l.prog) (w:=w) (base:=base) qH T C1;have vR:=aX (P:=l.prog) (w:=w) (base:=base) eU T;have vU:=Uj (P:=l.prog) (w:=w) (base:=base) Vs T vV vR;have C2:=nR (P:=l.prog) (w:=w) (base:=base) uW T;have vW:=An (P:=l.prog) (w:=w) (base:=base) De T uI vU;have C6:=VP (P:=l.prog) (w:=w) (base:=base) Xz T vU vW;have C5:=sO (P:=l.prog) (w:=w) (base:=base) yJ T vV vR;have JI:=xH (P:=l.prog) (w:=w) (base:=base) u0 TN Br;have JA:=sH (P:=l.prog) (w:=w) (base:=base) qw TN JI;have JS:=xK (P:=l.prog) (w:=w) (base:=base) vd TN Br;have IU:=nQ (P:=l.prog) (w:=w) (base:=base) qu TN;have IX:=xG (P:=l.prog) (w:=w) (base:=base) uZ TN Br JS IU JA;have C0:=rY (P:=l.prog) (w:=w) (base:=base) Y5 T;have Kx:=nW (P:=l.prog) (w:=w) (base:=base) lE T Br Kk IP JJ;have A7:=Yt (P:=l.prog) (w:=w) (base:=base) cV T uI;have IL:=dw (P:=l.prog) (w:=w) (base:=base) kZ T A7;have IZ:=nP (P:=l.prog) (w:=w) (base:=base) uV T A7;have IM:=rW (P:=l.prog) (w:=w) (base:=base) yH T;have Ki:=sW (P:=l.prog) (w:=w) (base:=base) qx T;have IJ:=xu (P:=l.prog) (w:=w) (base:=base) uX T;have Kj:=zY (P:=l.prog) (w:=w) (base:=base) yM T IJ;have uy:=su (P:=l.prog) (w:=w) (base:=base) qt T Kj C2 C5;exact zX Dx T T7 Br IX Kb Ki C0 Kx uy IM IL IZ vW C6
theorem walk {l:PySem.W.OpenLaw} {q:Program} {loose:YF} {XP:(YB)->Heap->Prop} {YP:World->Heap->Prop} {d:DefRec} {K:Params->YD} (hn:l.most=some 63) (hdf:d.params.defaults=[])
  (hY:∀(w:World) (h:Heap),YP w h->(K w.params).In h)
  (F:∀(w:World) (mg:YB) (fa:Addr) (h:Heap),(K w.params).In h->h.Ns mainGlobals mg->mg d.name=some (.ref fa) ->
   ∃fd:FuncData,(∀(s:Shared) (u:Value),BindsTo s fd ⟨[u],[]⟩ [("_law_script",u)])/\∀base:Heap,(K w.params).In base->base.Ns mainGlobals mg->G3 l.prog w (K w.params) mg base CX0 13 fa fd vN (Y7 (K w.params))) :
  PySem.W.WalkO q loose XP YP l.row.toRowW d [] (λf vs=>PySem.call f vs):=
 L2.wA (n:=63) (k:=13) (x:="_law_script") (CX:=λ_=>CX0) (sp:=λw=>Y7 (K w.params)) hn (by decide) hdf ⟨rq,by decide,by decide⟩ hY F (λ_ _ a ns hl _ hS=>⟨a,ns,rq,hS,hl,λ_=>rfl⟩) λ_ _ _ _ _ z=>z
end K11
/-! names that stay free of quick twins: the head comes through without them, and the compiled text is much smaller -/
namespace PySem.W.Fast
def tw4322072728316483568:=0
def tw9822890833794399790:=0
def tw17196278550144722351:=0
def tw760813708312558803:=0
def tw1021557079744084561:=0
def tw8025753986899528045:=0
def tw5129842622523310692:=0
def tw7632313036740600111:=0
def tw17933563685509279092:=0
def tw11661308258226373884:=0
def tw7759643301874235912:=0
def tw17718177211713385135:=0
def tw17135434885593896573:=0
def tw13185189189863187784:=0
def tw8972176403039794925:=0
def tw12705405530856687576:=0
def tw18253741551710885568:=0
def tw7059210835588861110:=0
def tw16545080794804710631:=0
def tw7977159302642285959:=0
def tw1239049922702075574:=0
def tw1419218697423398608:=0
def tw17205992716431071225:=0
def tw3428824130067084353:=0
def tw1214992784226529642:=0
def tw9480174555443990204:=0
def tw3596943607497433597:=0
def tw14838589983677006974:=0
def tw1698256867232421914:=0
def tw18097115656952127048:=0
def tw4193387596640430765:=0
def tw14133628306018579625:=0
def tw6615507412317470471:=0
def tw2987485199022973023:=0
def tw995871296305633339:=0
def tw16987991460628449248:=0
def tw5126850715319722229:=0
def tw11793767780421058519:=0
def tw16958716463977281900:=0
def tw17667562265957357359:=0
def tw14462789135068813698:=0
def tw6735341010900209262:=0
def tw4881353211878349552:=0
def tw4187850066148096174:=0
def tw7321676265538483860:=0
def tw14991299813545919264:=0
def tw1687711456805316807:=0
def tw8340552546152264210:=0
def tw13737539793048884918:=0
def tw17516015257316212964:=0
def tw18311956766926021236:=0
def tw15644003696595841699:=0
def tw18098571551782624228:=0
def tw3546111730613156291:=0
def tw3099940874129241332:=0
def tw2675425481329389201:=0
def tw4375799265881843683:=0
def tw119957741694120085:=0
def tw7040830686702585176:=0
def tw14218981813596817910:=0
def tw392313880193005838:=0
def tw7869363213840428163:=0
def tw5368994360457178655:=0
def tw5507348120941836975:=0
def tw12214901224435488753:=0
def tw11601052928101138432:=0
def tw18262755129814315385:=0
def tw7869397136793452292:=0
def tw17176423894683468819:=0
def tw13703549725364418591:=0
def tw8348254154362723074:=0
def tw1761542796391435745:=0
def tw11404697141235137623:=0
def tw9675907986986700366:=0
def tw13143738903192889868:=0
def tw13604413714502287585:=0
def tw4114288516730978788:=0
def tw10204234221807046922:=0
def tw6532410424203728175:=0
def tw15899912242421396227:=0
def tw16738724397644237753:=0
def tw4050196571414297631:=0
def tw7189884007420712643:=0
def tw10175140697183705012:=0
def tw3253359200127021603:=0
def tw16529651787710950703:=0
def tw16325420721487052734:=0
def tw10867329647603040027:=0
def tw8252771041831065972:=0
def tw7013652601859995037:=0
def tw10092933631744465655:=0
def tw16427901946464588066:=0
def tw12886512190250147567:=0
def tw9137773341434601058:=0
def tw5050405856065701315:=0
def tw3358239269434384520:=0
def tw672199362168759832:=0
def tw2968374872387794885:=0
def tw10576281352823012395:=0
def tw8657695822980424797:=0
def tw15610183272729096315:=0
def tw9363667806657832490:=0
def tw16057329108347446810:=0
def tw15436663292934517472:=0
def tw15767443827587856267:=0
def tw9800989635767565509:=0
def tw7615456453032150415:=0
def tw13473150229544766650:=0
def tw5805133409907785678:=0
def tw15281505657191120579:=0
def tw5710065274055152578:=0
def tw15572303964689613676:=0
def tw9575305205158717861:=0
def tw14312712303576067469:=0
def tw11590525104042244529:=0
def tw2217916447837377886:=0
def tw14543072182240409544:=0
def tw7395793395157148728:=0
def tw10825004874044173574:=0
def tw5701246426768429856:=0
def tw3323119146801720880:=0
def tw6024877530161476021:=0
def tw5957321719649099642:=0
def tw16909946541993558171:=0
def tw13947007562905590538:=0
def tw8053176680459104564:=0
def tw9534906673136449948:=0
def tw15724935262796126496:=0
def tw11644687370130155451:=0
def tw7582432089950085331:=0
def tw14558045236386166895:=0
def tw2339392243522537614:=0
def tw398615714173803283:=0
def tw11630445374529979032:=0
def tw17251949210892938818:=0
def tw16749733704773545933:=0
def tw15632707489367340090:=0
def tw17701746205321722810:=0
def tw411441569543110403:=0
def tw11641735671709946934:=0
def tw6518484309941149943:=0
def tw15270121023523387914:=0
def tw10848523849653972861:=0
def tw10933465024413521274:=0
def tw10807730396844207658:=0
def tw8751458571461169372:=0
def tw7073053554267356358:=0
def tw2170817286255682215:=0
def tw17590898329309281985:=0
def tw16150959715167990511:=0
def tw967683642200479983:=0
def tw8610133289055939141:=0
def tw5781778372355085209:=0
def tw3869396746169736075:=0
def tw13001750688599233598:=0
def tw1012203529591819747:=0
def tw680642911937279354:=0
def tw16264429199739615040:=0
def tw12559339299850342929:=0
def tw11076595211603960688:=0
def tw3382678799802296225:=0
def tw11111310808253386352:=0
def tw3473534322478597524:=0
def tw15477357728458355058:=0
def tw9848334917919480275:=0
def tw15724200287189751250:=0
def tw12950243644613187789:=0
def tw1070514380663569270:=0
def tw2313855096269487151:=0
def tw2883720268014513911:=0
def tw14188998024615041954:=0
def tw17733303931039682332:=0
def tw5100627698249261014:=0
def tw14910376845006851390:=0
def tw2425421105157033449:=0
def tw6818013634082651303:=0
def tw11652502657065801538:=0
def tw13172154957626586405:=0
def tw1456244895540326024:=0
def tw8740274478169639197:=0
def tw12514020441271523177:=0
def tw14998501688704655420:=0
def tw13142764626998706287:=0
def tw9367036568674803315:=0
def tw8695435262555866818:=0
def tw16265813026027555333:=0
def tw13002790385455375450:=0
def tw7997181311859433251:=0
def tw1945973989064053086:=0
def tw16275467600758151455:=0
def tw8827795850537486803:=0
def tw10332581343519662396:=0
def tw5467443545613924540:=0
def tw6703848389564192557:=0
def tw14701970689931558443:=0
def tw13048755396232177829:=0
def tw13039516972805771227:=0
def tw11438982422228248621:=0
def tw8643778245919156886:=0
def tw14810102957152361373:=0
def tw5322998200380434307:=0
def tw6725290068952518906:=0
def tw17671368912649012588:=0
def tw8442956925273937612:=0
def tw12184078546098049146:=0
def tw1620074203396222464:=0
def tw7108220447861921242:=0
def tw15790726181838595531:=0
def tw5974673108309652881:=0
def tw8327117893007958714:=0
def tw11040604730465297243:=0
def tw7358220090170441437:=0
def tw3097815215364774709:=0
def tw849845632705865433:=0
def tw401701052669442211:=0
def tw5782785593552530617:=0
def tw402321811022800724:=0
def tw11004801283893286662:=0
def tw5505037334513324782:=0
def tw4894091556703120897:=0
def tw1938167209825784264:=0
def tw2771691133651681727:=0
def tw2306943735463407464:=0
def tw16355729148281686964:=0
def tw10709877228260067090:=0
def tw5414199557416451864:=0
def tw6526023656229164722:=0
def tw3859051102296637931:=0
def tw7841174967048517397:=0
def tw2734057798952816208:=0
def tw11935035939196184565:=0
def tw11912622667778620083:=0
def tw406354965926322578:=0
def tw16650599525484977563:=0
def tw13004012841322157736:=0
def tw16496116550537049652:=0
def tw10825879465434149803:=0
def tw13560769547333351429:=0
def tw1051875947783135149:=0
def tw17868095212257352812:=0
def tw14854514403404246169:=0
def tw13618522082965132250:=0
def tw7542485586164903188:=0
def tw8491546878163699314:=0
def tw75915986263451230:=0
def tw17930271839140356193:=0
def tw2774556256933776030:=0
def tw11062901386309234109:=0
def tw18096109849127475098:=0
def tw1343829968513293539:=0
def tw11514799360281911619:=0
def tw3160275435833135999:=0
def tw14200188286138580069:=0
def tw3099383800486518290:=0
def tw4344145761981880186:=0
def tw15325663981339278640:=0
def tw12781926483115390917:=0
def tw3009736238739566054:=0
def tw15430874073344321918:=0
def tw6709717445812119747:=0
def tw13389607749227585769:=0
def tw8877868307399855385:=0
def tw7635929511567094780:=0
def tw14539304090730384473:=0
def tw450531176271884692:=0
def tw2441717485533717775:=0
def tw2087973984520578675:=0
def tw1948247525101924026:=0
def tw15466107325612949500:=0
def tw9115133862490456589:=0
def tw17403024783965304784:=0
def tw1501538279903970650:=0
def tw10105041825536606405:=0
def tw10767143495567061942:=0
def tw18439431854677513699:=0
def tw14158490289152129970:=0
def tw9560524904949386267:=0
def tw8536937498522237942:=0
def tw6927498663364825096:=0
def tw15968616979436802001:=0
def tw10845812415093101519:=0
def tw5048492532862153717:=0
def tw3655821239447624139:=0
def tw1639726704357032091:=0
def tw3487980092213178456:=0
def tw7712052040730567202:=0
def tw2211042657765403057:=0
def tw18375230575029438761:=0
def tw11061955257484718736:=0
def tw4011657727753911747:=0
def tw14155838609534076916:=0
def tw7433989980045216465:=0
def tw6611005026149434732:=0
def tw8301149673705351403:=0
def tw5053711057743467547:=0
def tw14491246273919359272:=0
def tw12990311299430899409:=0
def tw74039070443506313:=0
def tw1687756013806275621:=0
def tw12906277363080135093:=0
def tw14797004326758260654:=0
def tw12999240659668020357:=0
def tw5792032912993134833:=0
def tw112745145118014935:=0
def tw12207862922949906455:=0
def tw1557466271913400470:=0
def tw3348818569909390950:=0
def tw12028888600772682763:=0
def tw15766005976242671402:=0
def tw4300469759104791751:=0
def tw1295992680721794939:=0
end PySem.W.Fast
open PySem PySem.W PyProof.Rows
set_option maxRecDepth 100000 in
set_option maxHeartbeats 0 in
theorem PySem.Challenge.cw_warnloop_k11_whole_heard_by_ways_holds : PySem.Challenge.rw_warnloop_k11_whole_heard_by_ways.Holds := by
 w_on;o_law;k_head;(case hw=>w_witness2)
 k_fill
 refine K11.walk (l:=PySem.Challenge.rw_warnloop_k11_whole_heard_by_ways) rfl rfl (λw h Y=>PySem.W.kIn_of Y) ?F
 case F=>
  intro w mg fa h KX G hmg
  refine' K11.all_mk KX G hmg ?aC (.of ?am0 ?bm0 ?lm0 ?cm0 ?km0) (.of ?am1 ?bm1 ?lm1 ?cm1 ?km1) (.of ?am2 ?bm2 ?lm2 ?cm2 ?km2) (.of ?am3 ?bm3 ?lm3 ?cm3 ?km3) (.of ?am4 ?bm4 ?lm4 ?cm4 ?km4) (.of ?am5 ?bm5 ?lm5 ?cm5 ?km5) (.of ?am6 ?bm6 ?lm6 ?cm6 ?km6) (.of ?am7 ?bm7 ?lm7 ?cm7 ?km7) (.of ?am8 ?bm8 ?lm8 ?cm8 ?km8) (.of ?am9 ?bm9 ?lm9 ?cm9 ?km9) (.of ?My ?Md ?EI ?KO ?FH) (.of ?Mo ?Mc ?EH ?KM ?FG) (.of ?Mn ?Mb ?EG ?KL ?FF) (.of ?ai0 ?li0 ?ci0 ?ki0) (.of ?ai1 ?li1 ?ci1 ?ki1) (.of ?ai2 ?li2 ?ci2 ?ki2) (.of ?ai3 ?li3 ?ci3 ?ki3) (.of ?ai4 ?li4 ?ci4 ?ki4) (.of ?ai5 ?li5 ?ci5 ?ki5) (.of ?ai6 ?li6 ?ci6 ?ki6) (.of ?ai7 ?li7 ?ci7 ?ki7) (.of ?ai8 ?li8 ?ci8 ?ki8) (.of ?ai9 ?li9 ?ci9 ?ki9) (.of ?ND ?FA ?L8 ?GU) (.of ?NC ?Fu ?L3 ?GT) (.of ?NB ?Fs ?L1 ?GS) (.of ?NA ?Fn ?LY ?GO) (.of ?Nw ?Fm ?LX ?GN) (.of ?No ?Fk ?LW ?GM) (.of ?Nn ?Fh ?LV ?GL) (.of ?Nl ?Ff ?LU ?GI) (.of ?Nd ?Fc ?LT ?GH) (.of ?Nc ?Fa ?LP ?GG) (.of ?Na ?E9 ?LO ?GE) (.of ?M3 ?E8 ?LN ?GB) (.of ?M0 ?E7 ?LM ?GA) (.of ?MZ ?E6 ?LJ ?Gr) (.of ?MY ?E5 ?LI ?Go) (.of ?MX ?E4 ?LH ?Gc) (.of ?MW ?E3 ?LG ?F9) (.of ?MV ?E2 ?LF ?F8) (.of ?MU ?E1 ?LE ?F7) (.of ?MT ?EZ ?LD ?F6) (.of ?MS ?EX ?LB ?F5) (.of ?MR ?EW ?LA ?F4) (.of ?MQ ?EV ?Lv ?F3) (.of ?MO ?EU ?Lu ?FY) (.of ?MM ?ET ?Lo ?FX) (.of ?ML ?ES ?Lm ?FV) (.of ?MI ?ER ?Ll ?FU) (.of ?MH ?EQ ?Lc ?FS) (.of ?MG ?EO ?K2 ?FR) (.of ?ME ?EN ?K0 ?FO) (.of ?MD ?EM ?KW ?FM) (.of ?MC ?EL ?KU ?FL) (.of ?MB ?EK ?KS ?FK) (.of ?MA ?EJ ?KP ?FI) ?al ?ll ?cl ?kl ?pg ?hd ?po ?sa ?mk ?kc ?n0 ?n1 ?n2 ?n3 ?z0 ?z1 ?z2 ?z3 ?z4 ?z5 ?z6 ?z7 ?z8 ?z9 ?z10 ?z11 ?z12 ?z13 ?z14 ?z15 ?z16 ?z17 ?z18 ?z19 ?ao ?lo ?lq2 ?aKd ?lKd ?aWk ?lWk ?aSL
  (case aC | am0 | bm0 | lm0 | cm0 | km0 | am1 | bm1 | lm1 | cm1 | km1 | am2 | bm2 | lm2 | cm2 | km2 | am3 | bm3 | lm3 | cm3 | km3 | am4 | bm4 | lm4 | cm4 | km4 | am5 | bm5 | lm5 | cm5 | km5 | am6 | bm6 | lm6 | cm6 | km6 | am7 | bm7 | lm7 | cm7 | km7 | am8 | bm8 | lm8 | cm8 | km8 | am9 | bm9 | lm9 | cm9 | km9 | My | Md | EI | KO | FH | Mo | Mc | EH | KM | FG | Mn | Mb | EG | KL | FF | ai0 | li0 | ci0 | ki0 | ai1 | li1 | ci1 | ki1 | ai2 | li2 | ci2 | ki2 | ai3 | li3 | ci3 | ki3 | ai4 | li4 | ci4 | ki4 | ai5 | li5 | ci5 | ki5 | ai6 | li6 | ci6 | ki6 | ai7 | li7 | ci7 | ki7 | ai8 | li8 | ci8 | ki8 | ai9 | li9 | ci9 | ki9 | ND | FA | L8 | GU | NC | Fu | L3 | GT | NB | Fs | L1 | GS | NA | Fn | LY | GO | Nw | Fm | LX | GN | No | Fk | LW | GM | Nn | Fh | LV | GL | Nl | Ff | LU | GI | Nd | Fc | LT | GH | Nc | Fa | LP | GG | Na | E9 | LO | GE | M3 | E8 | LN | GB | M0 | E7 | LM | GA | MZ | E6 | LJ | Gr | MY | E5 | LI | Go | MX | E4 | LH | Gc | MW | E3 | LG | F9 | MV | E2 | LF | F8 | MU | E1 | LE | F7 | MT | EZ | LD | F6 | MS | EX | LB | F5 | MR | EW | LA | F4 | MQ | EV | Lv | F3 | MO | EU | Lu | FY | MM | ET | Lo | FX | ML | ES | Lm | FV | MI | ER | Ll | FU | MH | EQ | Lc | FS | MG | EO | K2 | FR | ME | EN | K0 | FO | MD | EM | KW | FM | MC | EL | KU | FL | MB | EK | KS | FK | MA | EJ | KP | FI=>k_is)
  (case al | ll | cl | kl | pg | hd | po | sa | mk | kc | n0 | n1 | n2 | n3 | z0 | z1 | z2 | z3 | z4 | z5 | z6 | z7 | z8 | z9 | z10 | z11 | z12 | z13 | z14 | z15 | z16 | z17 | z18 | z19 | ao | lo | lq2 | aKd | lKd | aWk | lWk | aSL=>k_is)
